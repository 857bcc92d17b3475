import PyProof.Rows.All
import Wide.All
import OpenK.AllK
import Wide.FinOn
import Lean
import PyProof.EqAt
import PyProof.EqKinds
import PyProof.TupleCall
import PyProof.NsDelKeeps
import KE.KIsBytes
import PyProof.Rows.SetFrom
import KE.KDictOf
import PyProof.AttrMissSeq
import PyProof.WalksMore
import PyProof.ZipIter
import PyProof.StrBlock2
import PyProof.StrBlockI
import PyProof.Rows.StrJoin2
import PyProof.Rows.CountFlat
import PyProof.Rows.Range3
import PyProof.SumWalkG
import PyProof.Rows.ListMulArg
import PyProof.FactsAll.tuple
import PyProof.EnumFor
import PyProof.EnumMake
import KE.KDictLaws
import KE.KDictSum
import KE.KRevIter
import PyProof.Rows.SortStr
import PyProof.Rows.SortWalk
import PyProof.AutoListH
import PyProof.StrLawsReplace
import PyProof.Rows.SortShellK
import KE.KLam
import KE.KSortKey
import KE.KNestM
import PyProof.EnumStmt
import PyProof.ListMulRoad
import PySem.Challenge.RW_pageturns_k90_whole_as_of_a_moment
set_option compiler.extract_closed false
local macro_rules|`(tactic| trivial)=>`(tactic| decide +kernel)
set_option Elab.async false
set_option linter.all false
set_option maxRecDepth 100000
set_option genInjectivity false
set_option genSizeOfSpec false
namespace Tactic
theorem qQQ(h:True:=by rfl):True:=h
def qQJ:Lean.Syntax:=qQQ._auto_1
theorem qQX(h:True:=by decide):True:=h
def qQZ:Lean.Syntax:=qQX._auto_1
theorem qQK(h:True:=by intro _;rfl):True:=h
def qQ0:Lean.Syntax:=qQK._auto_1
theorem qQ1(h:True:=by with_unfolding_all rfl):True:=h
def qQ2:Lean.Syntax:=qQ1._auto_1
theorem qQ3(h:True:=by exact⟨rfl,rfl,rfl,rfl⟩):True:=h
def qQ4:Lean.Syntax:=qQ3._auto_1
theorem qQ5(h:True:=by first|exact .inl rfl|exact .inr rfl|assumption):True:=h
def qQ6:Lean.Syntax:=qQ5._auto_1
theorem qQ7(h:True:=by first|exact .inl rfl|exact .inr rfl):True:=h
def qQ8:Lean.Syntax:=qQ7._auto_1
theorem qQ9(h:True:=by intro _ _ _ _ _;exact{Or.inl rfl,rfl}):True:=h
def qJQ:Lean.Syntax:=qQ9._auto_1
theorem qJJ(h:True:=by first|decide|omega):True:=h
def qJX:Lean.Syntax:=qJJ._auto_1
theorem qJZ(h:True:=by first|exact Or.inl rfl|exact Or.inr rfl):True:=h
def qJK:Lean.Syntax:=qJZ._auto_1
theorem qJ0(h:True:=by intro _ _ _ _ _;rfl):True:=h
def qJ1:Lean.Syntax:=qJ0._auto_1
theorem qJ2(h:True:=by trivial):True:=h
def qJ3:Lean.Syntax:=qJ2._auto_1
local macro_rules|`({$a:term})=>`(⟨$a⟩)|`({$a:term,$b:term,*})=>`(⟨$a,$b,*⟩)
open PySem.W (instObj methodObj hideAll hideAll_get of_hideAll Frag lookIn plainGet hasDictIn findIn handedIn plainGet_of isFn plainOver takerIn makesIn emptyDict looks_findIn specialIn keepIn mroIn kitOne kia_one kitx_list fnOf codeIn excIn Looks KitX kitAny callWith_K methodCall_KW envX kla_fn codeHdIn tabObj codeHd_of_K nsIn mg_of)
theorem za:type_of%@PySem.Heap.get?_push_of_some:=@PySem.Heap.get?_push_of_some
theorem zb:type_of%@PySem.wpAny_bind:=@PySem.wpAny_bind
theorem zc:type_of%@List.length_map:=@List.length_map
theorem zd:type_of%@Bool.false_ne_true:=@Bool.false_ne_true
theorem ze:type_of%@List.getElem?_eq_some_iff:=@List.getElem?_eq_some_iff
theorem zf:type_of%@List.mem_cons:=@List.mem_cons
theorem zg:type_of%@List.getElem?_eq_getElem:=@List.getElem?_eq_getElem
theorem zh:type_of%@List.mem_map:=@List.mem_map
theorem zi:type_of%@List.mem_cons_of_mem:=@List.mem_cons_of_mem
theorem zj:type_of%@PySem.Heap.get?_push_size:=@PySem.Heap.get?_push_size
theorem zk:type_of%@Nat.le_refl:=@Nat.le_refl
theorem zl:type_of%@Nat.lt_of_lt_of_le:=@Nat.lt_of_lt_of_le
theorem zm:type_of%@List.size_toArray:=@List.size_toArray
theorem zo:type_of%@decide_eq_false:=@decide_eq_false
theorem zp:type_of%@List.mem_cons_self:=@List.mem_cons_self
theorem zq:type_of%@List.getElem?_map:=@List.getElem?_map
theorem zr:type_of%@decide_eq_true:=@decide_eq_true
theorem zt:type_of%@PySem.Heap.lt_size:=@PySem.Heap.lt_size
theorem zu:type_of%@PySem.wpAny_pure:=@PySem.wpAny_pure
theorem zw:type_of%@List.mem_append_right:=@List.mem_append_right
theorem zx:type_of%@List.mem_of_getElem?:=@List.mem_of_getElem?
theorem zy:type_of%@Nat.ne_of_lt:=@Nat.ne_of_lt
theorem zA:type_of%@List.map_map:=@List.map_map
theorem zB:type_of%@List.not_mem_nil:=@List.not_mem_nil
theorem zC:type_of%@of_decide_eq_true:=@of_decide_eq_true
theorem zD:type_of%@List.mem_singleton:=@List.mem_singleton
theorem zE:type_of%@List.map_cons:=@List.map_cons
theorem zG:type_of%@List.length_append:=@List.length_append
theorem zH:type_of%@List.getD_eq_getElem?_getD:=@List.getD_eq_getElem?_getD
theorem zI:type_of%@List.map_append:=@List.map_append
theorem zJ:type_of%@List.mem_append:=@List.mem_append
theorem zK:type_of%@Nat.le_trans:=@Nat.le_trans
theorem zL:type_of%@Bool.and_eq_true:=@Bool.and_eq_true
theorem zM:type_of%@of_decide_eq_false:=@of_decide_eq_false
theorem zN:type_of%@List.mem_range:=@List.mem_range
theorem zO:type_of%@List.length_cons:=@List.length_cons
theorem zP:type_of%@Option.some.inj:=@Option.some.inj
theorem zQ:type_of%@List.mem_append_left:=@List.mem_append_left
theorem zR:type_of%@Bool.false_and:=@Bool.false_and
theorem zS:type_of%@PySem.F.plainAttrs_list:=@PySem.F.plainAttrs_list
theorem zT:type_of%@List.find?_cons:=@List.find?_cons
theorem zU:type_of%@Nat.zero_le:=@Nat.zero_le
theorem zV:type_of%@PySem.Heap.size_push:=@PySem.Heap.size_push
theorem zW:type_of%@List.map_congr_left:=@List.map_congr_left
theorem zX:type_of%@List.lookup_cons:=@List.lookup_cons
theorem zY:type_of%@Bool.true_and:=@Bool.true_and
theorem zZ:type_of%@PySem.sizeLine_eq:=@PySem.sizeLine_eq
theorem z0:type_of%@PySem.wpAny_field:=@PySem.wpAny_field
theorem ya:type_of%@List.length_take:=@List.length_take
theorem yb:type_of%@decide_eq_true_eq:=@decide_eq_true_eq
theorem yc:type_of%@PySem.F.slot_list_append:=@PySem.F.slot_list_append
theorem yd:type_of%@PySem.F.type_list_append:=@PySem.F.type_list_append
theorem ye:type_of%@List.nodup_cons:=@List.nodup_cons
theorem yf:type_of%@PySem.mem_of_lookup:=@PySem.mem_of_lookup
theorem yg:type_of%@List.length_reverse:=@List.length_reverse
theorem yh:type_of%@List.all_eq_true:=@List.all_eq_true
theorem yi:type_of%@Nat.lt_irrefl:=@Nat.lt_irrefl
theorem yj:type_of%@Nat.ne_of_gt:=@Nat.ne_of_gt
theorem yk:type_of%@PySem.Heap.get?_update_other:=@PySem.Heap.get?_update_other
theorem ym:type_of%@Array.length_toList:=@Array.length_toList
theorem yn:type_of%@PySem.wpAny_mono:=@PySem.wpAny_mono
theorem yo:type_of%@PySem.wpAny_truthy_bool:=@PySem.wpAny_truthy_bool
theorem yp:type_of%@PySem.Heap.get?_update_self:=@PySem.Heap.get?_update_self
theorem yq:type_of%@PySem.F.slot_dict_get:=@PySem.F.slot_dict_get
theorem yr:type_of%@PySem.Obj.data_mapFields:=@PySem.Obj.data_mapFields
theorem yt:type_of%@PySem.Heap.SameBut.update:=@PySem.Heap.SameBut.update
theorem yu:type_of%@List.mem_filter:=@List.mem_filter
theorem yw:type_of%@Bool.eq_iff_iff:=@Bool.eq_iff_iff
theorem yx:type_of%@Nat.lt_succ_self:=@Nat.lt_succ_self
theorem yy:type_of%@PySem.Calls.spliced_cons:=@PySem.Calls.spliced_cons
theorem yz:type_of%@List.filter_cons:=@List.filter_cons
theorem yA:type_of%@PySem.wpAny_newObj_type:=@PySem.wpAny_newObj_type
theorem yB:type_of%@PySem.codeAny_builtin:=@PySem.codeAny_builtin
theorem yC:type_of%@Nat.le_of_lt:=@Nat.le_of_lt
theorem yD:type_of%@PySem.Paired.length:=@PySem.Paired.length
theorem yE:type_of%@PySem.wpAny_holding:=@PySem.wpAny_holding
theorem yF:type_of%@PySem.wpAny_call_entry:=@PySem.wpAny_call_entry
theorem yG:type_of%@decide_eq_decide:=@decide_eq_decide
theorem yH:type_of%@Sum.inr.inj:=@Sum.inr.inj
theorem yI:type_of%@List.foldl_cons:=@List.foldl_cons
theorem yJ:type_of%@List.any_cons:=@List.any_cons
theorem yK:type_of%@PySem.wpAny_setField:=@PySem.wpAny_setField
theorem yL:type_of%@PySem.codeAny_mono:=@PySem.codeAny_mono
theorem yM:type_of%@Bool.false_or:=@Bool.false_or
theorem yN:type_of%@Nat.le_succ:=@Nat.le_succ
theorem yO:type_of%@PySem.wpAny_of_eq:=@PySem.wpAny_of_eq
namespace L2
open PySem PySem.Spec PyProof.Rows
abbrev Key:=Sum Int Str
def keyIs:Key->Value->Bool|.inl k,v=>Value.isInt k v|.inr x,v=>Value.isStrOf x v
def Wm(w:World):Key->Int|.inl k=>hashInt k|.inr x=>hashStr w x
theorem bw:∀{k:Key}{v:Value},keyIs k v=true->(∃i t,k=Sum.inl i/\v=Value.int i t)\/(∃x t,k=Sum.inr x/\v=Value.str x t)|.inl i,v,h=>(by obtain⟨t,e⟩:=Value.isInt_shape (k:=i) (v:=v) h;exact .inl ⟨i,t,rfl,e⟩)|.inr x,v,h=>by obtain⟨t,e⟩:=Value.isStrOf_shape (x:=x) (v:=v) h;exact .inr ⟨x,t,rfl,e⟩
theorem Ec(i:Int)(t:Tok):keyIs (.inl i) (.int i t)=true:=by simp[keyIs,Value.isInt]
theorem Ed(x:Str)(t:Tok):keyIs (.inr x) (.str x t)=true:=by simp[keyIs,Value.isStrOf]
theorem Nj(a b:Int):decide ((Sum.inl a:Key)=Sum.inl b)=(a==b):=by by_cases e:a=b;subst e;simp;have h:¬(Sum.inl a:Key)=Sum.inl b:=λq=>e<|Sum.inl.inj q;rw[zo h];exact(beq_eq_false_iff_ne.mpr e).symm
theorem Nk(a b:Str):decide ((Sum.inr a:Key)=Sum.inr b)=decide (a=b):=by by_cases e:a=b;subst e;simp;have h:¬(Sum.inr a:Key)=Sum.inr b:=λq=>e<|yH q;rw[zo h,zo e]
theorem Nl(a:Int)(b:Str):decide ((Sum.inl a:Key)=Sum.inr b)=false:=zo λq=>nomatch q
theorem Nm(a:Str)(b:Int):decide ((Sum.inr a:Key)=Sum.inl b)=false:=zo λq=>nomatch q
def aF(prog:Program)(w:World):PySem.KeyKind prog w Key where
 is:=keyIs
 hash:=Wm w
 inj:=λv a b ha hb=>by
  rcases bw ha with⟨i,t,rfl,rfl⟩|⟨x,t,rfl,rfl⟩
  ·rcases bw hb with⟨j,u,rfl,e⟩|⟨y,u,rfl,e⟩
   ·injection e with e1 _;rw[e1]
   ·exact nomatch e
  ·rcases bw hb with⟨j,u,rfl,e⟩|⟨y,u,rfl,e⟩
   ·exact nomatch e
   ·injection e with e1 _;rw[e1]
 byValue:=λk v h=>by
  rcases bw h with⟨i,t,rfl,rfl⟩|⟨x,t,rfl,rfl⟩<;>rfl
 pyHash:=λhv h=>by
  rcases bw hv with⟨i,t,rfl,rfl⟩|⟨x,t,rfl,rfl⟩
  ·exact wpAny_pyHash_int h
  ·exact wpAny_pyHash_str h
 eqBool:=λhu hv h=>by
  rcases bw hu with⟨i,t,rfl,rfl⟩|⟨x,t,rfl,rfl⟩
  ·rcases bw hv with⟨j,u,rfl,rfl⟩|⟨y,u,rfl,rfl⟩
   ·rw[Nj]at h;exact wpAny_eqBool_int h
   ·rw[Nl]at h;exact SeqAt.EqAt.int_str i t y u _ _ _ _ h
  ·rcases bw hv with⟨j,u,rfl,rfl⟩|⟨y,u,rfl,rfl⟩
   ·rw[Nm]at h;exact SeqAt.EqAt.str_int x t j u _ _ _ _ h
   ·rw[Nk]at h;exact wpAny_eqBool_str h
 «strs»:=λk x t v h=>by
  rcases bw h with⟨i,u,rfl,e⟩|⟨y,u,rfl,e⟩
  ·exact nomatch e
  ·injection e with e1 _
   subst e1
   cases v<;>rfl
theorem wM(prog:Program)(w:World)(i:Int)(t:Tok):(aF prog w).is (.inl i) (.int i t)=true:=Ec i t
theorem iW(prog:Program)(w:World)(x:Str)(t:Tok):(aF prog w).is (.inr x) (.str x t)=true:=Ed x t
set_option genInjectivity true in
set_option genSizeOfSpec true in
inductive V where
 |ax|bl (b:Bool)|int (i:Int)|str (x:Str)|Ct (b:Array UInt8)|Nn (b:UInt64)|ref (a:Addr)|ty (n:String)
 deriving DecidableEq
def RelV:V->Value->Prop|.ax,u=>u=Value.none|.bl b,u=>u=Value.bool b|.int i,u=>∃t,u=Value.int i t|.str x,u=>∃t,u=Value.str x t|.Ct b,u=>∃t,u=Value.bytes b t|.Nn b,u=>∃t,u=Value.float b t|.ref a,u=>u=Value.ref a|.ty n,u=>u=Value.type n
abbrev Vals:List V->List Value->Prop:=Paired RelV
theorem Vals.length{xs:List V}{us:List Value}(r:Vals xs us):xs.length=us.length:=yD r
theorem Vals.get:∀{xs:List V}{us:List Value}{i:Nat}{x:V},Vals xs us->xs[i]?=some x->∃u,us[i]?=some u/\RelV x u|_,_,_,_,.nil,e=>by simp at e|_,_,0,_,.cons r _,e=>by simp at e;subst e;exact{_,rfl,r}|_,_,i+1,x,.cons _ t,e=>by obtain⟨u,h1,h2⟩:=Vals.get (i:=i) (x:=x) t (by simpa using e);exact{u,by simpa using h1,h2}
theorem Vals.set(r:RelV x u):∀{xs:List V}{us:List Value}(i:Nat),Vals xs us->Vals (xs.set i x) (us.set i u)|_,_,_,.nil=>.nil|_,_,0,.cons _ t=>.cons r t|_,_,i+1,.cons q t=>.cons q<|Vals.set r i t
theorem Vals.append:∀{xs ys:List V}{us ws:List Value},Vals xs us->Vals ys ws->Vals (xs++ys) (us++ws)|_,_,_,_,.nil,s=>s|_,_,_,_,.cons r t,s=>.cons r<|Vals.append t s
theorem Vals.take:∀{xs:List V}{us:List Value}(n:Nat),Vals xs us->Vals (xs.take n) (us.take n)|_,_,0,_=>.nil|_,_,_+1,.nil=>.nil|_,_,n+1,.cons r t=>.cons r<|Vals.take n t
theorem Vals.drop:∀{xs:List V}{us:List Value}(n:Nat),Vals xs us->Vals (xs.drop n) (us.drop n)|_,_,0,r=>r|_,_,_+1,.nil=>.nil|_,_,n+1,.cons _ t=>Vals.drop n t
def fP:Option V->Option Value->Prop|some v,some u=>RelV v u|none,none=>True|_,_=>False
def KV{κ:Type} : List (κ×V)->List (κ×Value)->Prop:=Paired λ(p:κ×V)(q:κ×Value)=>p.1=q.1/\RelV p.2 q.2
def kV:Key->V|.inl i=>.int i|.inr x=>.str x
set_option genInjectivity true in
set_option genSizeOfSpec true in
inductive HO where
  |lst (xs:List V)
  |tup (xs:List V)
  |dK (kvs:List<|Key×V)|dT (kvs:List<|List Key×V)
  |set (S:Int->Bool) (n:Nat)
  |ins (C dx:Addr) (fs:List<|Str×V)
  |own (x:Addr)
  |xd (fs:List<|Str×V)
  |met (f x:Addr)
  |Vq (lo hi:Int)
  |kI (o:Obj) (u:HO)
  |pJ (ps:Array Value)
  |ext (φ:Heap->Prop)
abbrev Hp:=Addr->Option HO
noncomputable def upd(H:Hp)(a:Addr)(o:HO):Hp:=λb=>if b=a then some o else H b
theorem aE{H:Hp}{a:Addr}{o:HO} : upd H a o a=some o:=by unfold upd;rw[if_pos rfl]
theorem au{H:Hp}{a b:Addr}{o:HO}(h:b≠a):upd H a o b=H b:=by unfold upd;rw[if_neg h]
theorem az{H:Hp}{a b:Addr}{o:HO}(h:H a=some o)(h':H b=none):a≠b:=by intro e;subst e;rw[h]at h';cases h'
def iX(h:Heap)(a:Addr)(items:Array Value):Prop:=∃o,h.get? a=some o/\o.cls=.type "tuple"/\o.dict=none/\∃n,o.data=.seq items n
theorem iX.tup(x:iX h a items):IsTup h a items:=by obtain⟨o,e,c,_,n,d⟩:=x;exact⟨o,e,c,n,d⟩
theorem iX.lt(x:iX h a items):a<h.objs.size:=x.tup.lt
theorem iX.new(h:Heap)(items:Array Value):iX (h.push {cls:=.type "tuple",data:=.seq items}) h.objs.size items:={_,zj _ rfl,rfl,rfl,_,rfl}
section
variable(P:Program)(w:World)
def ba(H:Hp)(h:Heap)(a:Addr):HO->Prop|.lst xs=>xs.length<=sizeLine/\∃(ay:List Value) (n:Nat),Vals xs ay/\h.get? a=some {cls:=.type "list",data:=.seq ay.toArray n}|.tup xs=>xs.length<=sizeLine/\∃ay:List Value,Vals xs ay/\iX h a ay.toArray|.dK kvs=>kvs.length<=sizeLine/\(a==sysModules)=false/\∃vs,KV kvs vs/\h.DictOf (aF P w) a vs|.dT _=>False|.set S n=>h.SetOf (intKind P w) a S n|.ins C dx fs=>H dx=some (.own a)/\fs.length<=1000/\dx≠a/\h.get? a=some (instObj C dx)/\∃mA,h.Ns1 dx mA/\(∀f,fP (fs.lookup f)<|mA f)/\PySem.Within mA (fs.map (·.1))|.own _=>∃o,h.get? a=some o|.xd fs=>∃mA,h.Ns1 a mA/\∀f,fP (fs.lookup f) (mA f)|.Vq lo hi=>∃t u v,h.get? a=some {cls:=.type "range",data:=.fields #[.int lo t,.int hi u,.int 1 v]}|.kI o u=>h.get? a=some o/\ba H h a u|.pJ ps=>h.get? a=some {cls:=.none,data:=.fields ps}|.met f x=>h.get? a=some (methodObj (.ref f)<|.ref x)|.ext φ=>φ h/\(∃o,h.get? a=some o)/\∀h1 h2:Heap,φ h1->(∀o,h1.get? a=some o->h2.get? a=some o)->φ h2
def jR(H:Hp)(h:Heap):Prop:=∀a o,H a=some o->ba P w H h a o
end
section
variable{P:Program}{w:World}{H H':Hp}{h h':Heap}{a:Addr}{o:HO}
theorem ba.lt(x:ba P w H h a o):a<h.objs.size:=by cases o with|lst xs=>(obtain⟨_,_,_,_,e⟩:=x;exact zt e)|tup xs=>(obtain⟨_,_,_,p⟩:=x;exact p.lt)|dK kvs=>(obtain⟨_,_,_,_,o,_,_,e,_⟩:=x;exact zt e)|dT kvs=>exact False.elim x|set S n=>(obtain⟨o,_,_,_,e,_⟩:=x;exact zt e)|ins C dx fs=>(obtain⟨_,_,_,e,_⟩:=x;exact zt e)|own y=>(obtain⟨_,e⟩:=x;exact zt e)|xd fs=>(obtain⟨_,⟨_,_,_,e,_⟩,_⟩:=x;exact zt e)|Vq lo hi=>(obtain⟨_,_,_,e⟩:=x;exact zt e)|kI ob u=>(obtain⟨e,_⟩:=x;exact zt e)|pJ ps=>exact zt (show h.get? a=some _ from x)|met f y=>exact zt (show h.get? a=some _ from x)|ext φ=>obtain⟨_,⟨_,e⟩,_⟩:=x;exact zt e
theorem ba.lI(x:ba P w H h a o)(k:∀b u,(b=a\/H b=some (.own a))->h.get? b=some u->h'.get? b=some u) (ho:∀b,H b=some (.own a)->H' b=some (.own a)) (ht:∀b xs,H b=some (.tup xs)->H' b=some (.tup xs)):ba P w H' h' a o:=by induction o with|lst xs=>(obtain⟨z,ay,n,r,e⟩:=x;exact{z,ay,n,r,k _ _ (.inl rfl) e})|tup xs=>(obtain⟨z,ay,r,ob,e,c⟩:=x;exact{z,ay,r,ob,k _ _ (.inl rfl) e,c})|dK kvs=>(obtain⟨z,y,vs,r,ob,es,ep,e,c⟩:=x;exact{z,y,vs,r,ob,es,ep,k _ _ (.inl rfl) e,c})|dT kvs=>exact False.elim x|set S n=>(obtain⟨ob,es,ep,t,e,c⟩:=x;exact{ob,es,ep,t,k _ _ (.inl rfl) e,c})|ins C dx fs=>(obtain⟨d,z,ne,e,mA,⟨od,es,ep,e2,c⟩,r⟩:=x;exact{ho _ d,z,ne,k _ _ (.inl rfl) e,mA,{od,es,ep,k _ _ (.inr d) e2,c},r})|own y=>(obtain⟨ob,e⟩:=x;exact{ob,k _ _ (.inl rfl) e})|xd fs=>(obtain⟨mA,⟨od,es,ep,e,c⟩,r⟩:=x;exact{mA,{od,es,ep,k _ _ (.inl rfl) e,c},r})|Vq lo hi=>(obtain⟨t,u,v,e⟩:=x;exact{t,u,v,k _ _ (.inl rfl) e})|kI ob u ih=>(obtain⟨e,q⟩:=x;exact{k _ _ (.inl rfl) e,ih q})|pJ ps=>have e:h.get? a=some {cls:=.none,data:=.fields ps}:=x;show h'.get? a=some {cls:=.none,data:=.fields ps};exact k a _ (.inl rfl) e|met f y=>have e:h.get? a=some (methodObj (.ref f)<|.ref y):=x;show h'.get? a=some (methodObj (.ref f)<|.ref y);exact k a _ (.inl rfl) e|ext φ=>obtain⟨p,⟨o,e⟩,st⟩:=x;exact{st _ _ p λo q=>k _ _ (.inl rfl) q,{o,k _ _ (.inl rfl) e},st}
theorem jR.lt(x:jR P w H h)(e:H a=some o):a<h.objs.size:=(x a o e).lt
theorem jR.fresh(x:jR P w H h)(e:h.objs.size<=a):H a=none:=by cases q:H a with|none=>rfl|some u=>exact absurd (zl (x.lt q) e)<|yi _
theorem jR.kept(x:jR P w H h)(k:∀b u,h.get? b=some u->h'.get? b=some u):jR P w H h':=λa o e=>(x a o e).lI (λb u _ q=>k b u q) (λ_ q=>q) λ_ _ q=>q
theorem jR.laid(x:jR P w H h)(k:∀b u,h.get? b=some u->h'.get? b=some u)(hp:h.objs.size<=a)(new:ba P w (upd H a o) h' a o):jR P w (upd H a o) h':=λb u e=>by have hn:=x.fresh hp;by_cases hb:b=a;subst hb;rw[aE]at e;cases e;exact new;rw[au hb]at e;exact(x b u e).lI (λc v _ q=>k c v q) (λc q=>by rw[au<|az q hn];exact q) λc xs q=>by rw[au<|az q hn];exact q
end
def Rd(H:Hp)(a:Addr)(u:HO):Prop:=H a=some u\/∃o,H a=some (.kI o u)
theorem Rd.of(h:H a=some u):Rd H a u:=.inl h
theorem Rd.ok{P:Program}{w:World}{H:Hp}{h:Heap}{a:Addr}{u:HO}(r:Rd H a u)(x:jR P w H h):ba P w H h a u:=by rcases r with r|⟨o,r⟩;exact x a u r;obtain⟨_,q⟩:=x a _ r;exact q
def Rn:Option HO->Prop|some (.lst _)=>True|some (.dK _)=>True|some (.dT _)=>True|some (.set _ _)=>True|some (.ins _ _ _)=>True|some (.ext _)=>True|_=>False
section
variable{P:Program}{w:World}{H:Hp}{h h':Heap}{x e:Addr}{o':HO}
theorem jR.write(ok:jR P w H h)(mu:Rn<|H x)(he:e=x\/H e=some (.own x))(k:∀b u,b≠e->h.get? b=some u->h'.get? b=some u)(Qx:∃u,h'.get? e=some u) (new:ba P w (upd H x o') h' x o'):jR P w (upd H x o') h':=λb u q=>by
 have Ro:∀c y,H c=some (.own y)->c≠x:=λc y r z=>by subst z;rw[r]at mu;exact mu
 have Wn:∀c xs,H c=some (.tup xs)->c≠x:=λc xs r z=>by subst z;rw[r]at mu;exact mu
 by_cases hb:b=x;subst hb;rw[aE]at q;cases q;exact new;rw[au hb]at q;by_cases Np:b=e;have q':H b=some (.own x):=by rcases he with z|z;exact absurd (Np.trans z) hb;rw[Np];exact z
 rw[q]at q';cases q';obtain⟨v,hv⟩:=Qx;exact{v,by rw[Np];exact hv};refine(ok b u q).lI (λc v hc r=>k c v ?_ r) (λc r=>by rw[au<|Ro c b r];exact r) λc xs r=>by rw[au<|Wn c xs r];exact r
 rcases hc with rfl|hc;exact Np;rintro rfl;rcases he with z|z;exact Ro c b hc z;rw[hc]at z;cases z;exact hb rfl
end
structure Un(fs ex:List Addr)(H H':Hp)(h h':Heap):Prop where
 keep:∀b o,h.get? b=some o->H b=none->b∉fs->b∉ex->h'.get? b=some o
 slot:∀b o,h.get? b=some o->H b=none->b∈fs->b∉ex->∃sl,h'.get? b=some {o with slots:=sl}
 free:∀b o,h.get? b=some o->H b=none->b∉ex->H' b=none
 there:∀b o,h.get? b=some o->b∉ex->∃o',h'.get? b=some o'
 fQ:∀b xs,H b=some (.tup xs)->H' b=some (.tup xs)
 fg:∀b o u,H b=some (.kI o u)->H' b=some (.kI o u)
 fh:∀b ps,H b=some (.pJ ps)->∃more,H' b=some (.pJ<|ps++more)
section
variable{fs ex:List Addr}{H H1:Hp}{h h1 h':Heap}{a x e:Addr}{o:HO}
theorem Un.any(u:Un fs ex H H1 h h1){b:Addr}{ob:Obj}(q:h.get? b=some ob)(n:H b=none)(hx:b∉ex):∃sl,h1.get? b=some {ob with slots:=sl}:=by by_cases hb:b∈fs;exact u.slot b ob q n hb hx;exact{ob.slots,u.keep b ob q n hb hx}
theorem Un.kept(k:∀b u,h.get? b=some u->h'.get? b=some u):Un fs ex H H h h':={λb ob q _ _ _=>k b ob q,λb ob q _ _ _=>{ob.slots,k b ob q},λ_ _ _ n _=>n,λb ob q _=>{ob,k b ob q},λ_ _ q=>q,λ_ _ _ q=>q,λ_ ps q=>{#[],by rw[q];simp}}
theorem Un.refl:Un fs ex H H h h:=Un.kept λ_ _ q=>q
theorem Un.laid(k:∀b u,h.get? b=some u->h'.get? b=some u)(hp:h.objs.size<=a)(hn:H a=none):Un fs ex H (upd H a o) h h' where
 keep:=λb u q _ _ _=>k b u q
 slot:=λb u q _ _ _=>{u.slots,k b u q}
 free:=λb u q n _=>by rw[au<|zy<|zl (zt q) hp];exact n
 there:=λb u q _=>{u,k b u q}
 fQ:=λb xs q=>by rw[au<|az q hn];exact q
 fg:=λb u xs q=>by rw[au<|az q hn];exact q
 fh:=λb ps q=>{#[],by rw[au<|az q hn,q];simp}
theorem Un.write(mu:Rn<|H x)(he:e=x\/H e=some (.own x))(k:∀b u,b≠e->h.get? b=some u->h'.get? b=some u)(Qx:∃u,h'.get? e=some u):Un fs ex H (upd H x o) h h':=by
 have hx:∀b,H b=none->b≠x:=λb n z=>by subst z;rw[n]at mu;exact mu
 have hb:∀b,H b=none->b≠e:=λb n z=>by subst z;rcases he with r|r;exact hx b n r;rw[n]at r;cases r
 have hm:∀b u,H b=some u->¬Rn (some u)->b≠x:=λb u q nm z=>by subst z;rw[q]at mu;exact nm mu
 refine⟨λb u q n _ _=>k b u (hb b n) q,λb u q n _ _=>{u.slots,k b u (hb b n) q},λb u q n _=>by rw[au<|hx b n];exact n,λb u q _=>?_,
  λb xs q=>by rw[au<|hm b _ q λz=>z];exact q,λb u xs q=>by rw[au<|hm b _ q λz=>z];exact q,λb ps q=>{#[],by rw[au<|hm b _ q λz=>z,q];simp}⟩
 by_cases Np:b=e;subst Np;exact Qx;exact{u,k b u Np q}
end
noncomputable def Vr(h:Heap)(H:Hp):List Addr:=(List.range h.objs.size).filter λa=>(H a).isSome
noncomputable def sv(h:Heap)(H:Hp):Heap:=hideAll h<|Vr h H
theorem Ee(h:Heap)(H:Hp):(sv h H).objs.size=h.objs.size:=PySem.W.hideAll_size _ _
theorem Gj(e:h.get? b=some o)(n:H b=none):(sv h H).get? b=some o:=hideAll_get _ e λhm=>by have q:(H b).isSome=true:=(yu.mp hm).2;rw[n]at q;simp at q
theorem JK(e:(sv h H).get? b=some o):h.get? b=some o/\H b=none:=by have e':h.get? b=some o:=of_hideAll (Vr h H) e;refine{e',?_};cases q:H b with|none=>rfl|some x=>have hm:b∈Vr h H:=yu.mpr {zN.mpr<|zt e',by simp[q]};have z:(sv h H).get? b=none:=PySem.W.hideAll_none (Vr h H) hm;rw[z]at e;cases e
noncomputable def JL(g h:Heap)(L:Addr):List (Addr×Obj):=(List.range h.objs.size).filterMap λa=>if a=L\/(g.get? a).isSome=true then none else (h.get? a).map λo=>(a,o)
noncomputable def rest(g h:Heap)(L d:Addr):List (Addr×Obj):=(JL g h L).filter λp=>decide<|p.1≠d
structure Mod(K:Frag)(mg:Str->Option Value)(base:Heap):Prop where
 Qy:K.In base
 glob:base.Ns mainGlobals mg
 blt:∃mb,base.Ns builtinsNs mb/\∀x:Str,x≠"__name__"->mb x=bootBuiltins x
 nolimit:base.NoLimit
structure Cx where
 prog:Program
 w:World
 K:Frag
 mg:Str->Option Value
 base:Heap
 A:Around
 N:List Str
 cR:Shared
 uE:Hp
 env:Env
 outer:List Env
 stack:List Env
 ex:List Addr
 fn:Str->Bool
 calm:Bool
 pn:List (Addr×Obj)
 xe:Value->Shared->Prop
def kJ(l:List Env):List Addr:=l.filterMap (·.frame)
noncomputable abbrev Cx.fs(X:Cx):List Addr:=kJ X.outer
def Qz(sc:Scope)(x:Str):Prop:=sc.names.lookup x=some .local\/sc.names.lookup x=some .cell\/sc.names.lookup x=some .free
def Loc(sc:Scope)(x:Str):Prop:=sc.names.lookup x=some .local\/sc.names.lookup x=some .cell
def Look(env:Env)(h:Heap)(m:Str->Option Value)(x:Str)(u:Value):Prop:=(env.kindOf x=some .local/\m x=some u)\/((env.kindOf x=some .cell\/env.kindOf x=some .free)/\∃c,env.cells.lookup x=some c/\h.IsCell c (some u))
structure Cx.Ok(X:Cx):Prop where
 mod:Mod X.K X.mg X.base
 kind:X.env.scope.kind=.function
 glob:X.env.globals=mainGlobals
 blt:X.env.builtins=builtinsNs
 above:X.cR.heap.objs.size<=X.env.locals
 inj:∀x y c,X.env.cells.lookup x=some c->X.env.cells.lookup y=some c->x=y
 has:∀x,(X.env.kindOf x=some .cell\/X.env.kindOf x=some .free)->∃c,X.env.cells.lookup x=some c
 Nq:∀x c,X.fn x=true->X.env.cells.lookup x=some c->X.cR.heap.objs.size<=c
 hd:X.calm=true->X.A.handled=none
 frames:X.A.frames=some X.stack
 QA:X.stack=X.outer\/(X.stack=X.env::X.outer/\X.env.frame=some X.env.locals)
 Vs:∀b∈X.ex,b≠X.env.locals/\∀x c,X.env.cells.lookup x=some c->c≠b
 bs:∀b o,X.base.get? b=some o->X.cR.heap.get? b=some o/\X.uE b=none
 Ef:X.base.objs.size<=X.cR.heap.objs.size
 Al:∀b o,X.base.get? b=some o->b∉X.ex
 Eg:∀b∈X.ex,b∉X.fs
 jS:X.cR.heap.FunFrames X.base X.outer
 Gk:∀b∈X.fs,X.uE b=none
structure Inv(X:Cx)(pins:List (Addr×Obj))(σ:List (Option V))(H:Hp)(s:Shared):Prop where
 ok:X.Ok
 os:s.os=X.cR.os
 bare:AllBare s.gens
 base:Un X.fs X.ex X.uE H X.cR.heap s.heap
 loc:∃m,s.heap.Ns X.env.locals m/\∀(i:Nat)(x:Str)(v:V),X.N[i]?=some x->σ[i]?=some (some v)->Qz X.env.scope x->∃u,RelV v u/\Look X.env s.heap m x u
 cell:∀x c,X.env.cells.lookup x=some c->∃v,s.heap.IsCell c v
 free:H X.env.locals=none
 df:∀x c,X.env.cells.lookup x=some c->H c=none
 pin:∀p∈X.pn++pins,s.heap.get? p.1=some p.2/\H p.1=none/\p.1≠X.env.locals/\p.1∉X.fs/\∀v,p.2.data≠.cell v
 aH:jR X.prog X.w H s.heap
 len:σ.length=X.N.length
section
variable{X:Cx}{pins:List (Addr×Obj)}{σ:List (Option V)}{H H':Hp}{s:Shared}{h':Heap}
theorem Cx.Ok.Eh(ok:X.Ok)(e:X.base.get? b=some o):b∉X.fs:=λhb=>by have:=(ok.jS.mem hb).1;rw[e]at this;cases this
theorem Inv.bs(I:Inv X pins σ H s):∀b o,X.base.get? b=some o->s.heap.get? b=some o/\H b=none:=λb o e=>{I.base.keep b o (I.ok.bs b o e).1 (I.ok.bs b o e).2 (I.ok.Eh e)<|I.ok.Al b o e,I.base.free b o (I.ok.bs b o e).1 (I.ok.bs b o e).2<|I.ok.Al b o e}
theorem Inv.bk(I:Inv X pins σ H s):∀b o,X.base.get? b=some o->s.heap.get? b=some o:=λb o e=>(I.bs b o e).1
theorem Inv.mod(I:Inv X pins σ H s):Mod X.K X.mg X.base:=I.ok.mod
theorem Inv.lE(I:Inv X pins σ H s):X.K.In s.heap:=I.ok.mod.Qy.keeps I.bk
theorem Inv.nolimit(I:Inv X pins σ H s):s.heap.NoLimit:=I.ok.mod.nolimit.keeps I.bk
theorem Inv.fr(I:Inv X pins σ H s):∃m,Fr X.base X.env.locals s.heap m :=
 let ⟨m,hn,_⟩:=I.loc
 ⟨m,hn,I.bk,zK I.ok.Ef I.ok.above⟩
theorem Inv.lt(I:Inv X pins σ H s):X.env.locals<s.heap.objs.size:=by obtain⟨_,hn,_⟩:=I.loc;exact hn.lt
theorem Inv.sz(I:Inv X pins σ H s):X.cR.heap.objs.size<=s.heap.objs.size:=zK I.ok.above<|yC I.lt
theorem Inv.Rp(I:Inv X pins σ H s)(h:s.heap.objs.size<=a):a∉X.fs:=λhb=>by obtain⟨_,o,ho,_⟩:=I.ok.jS.mem hb;exact absurd (zl (zt ho)<|zK I.sz h)<|yi _
theorem Inv.JM(I:Inv X pins σ H s):∀x c,X.env.cells.lookup x=some c->c≠X.env.locals:=λx c e z=>by obtain⟨v,o,ho,hd⟩:=I.cell x c e;obtain⟨m,⟨o',es,ep,Am,Ao,_⟩,_⟩:=I.loc;rw[z,Am]at ho;cases ho;rw[Ao]at hd;cases hd
theorem Inv.jS(I:Inv X pins σ H s):s.heap.FunFrames X.base X.outer:=by
 have all:∀(l:List Env),(∀b∈kJ l,b∈X.fs)->X.cR.heap.FunFrames X.base l->s.heap.FunFrames X.base l:=by intro l;induction l with|nil=>intro _ _;trivial|cons env r ih=>intro hs hl;obtain⟨hk,⟨L,o,hf,hn,ho,hd⟩,hr⟩:=hl;have hL:L∈X.fs:=hs L (by unfold kJ;rw[List.filterMap_cons,hf];exact zp);obtain⟨sl,e⟩:=I.base.slot L o ho (I.ok.Gk L hL) hL λz=>I.ok.Eg L z hL;exact{hk,{L,_,hf,hn,e,hd},ih (λb hb=>hs b<|by unfold kJ;rw[List.filterMap_cons,hf];exact zi _ hb) hr}
 exact all X.outer (λ_ hb=>hb) I.ok.jS
theorem Inv.stack(I:Inv X pins σ H s):s.heap.FunFrames X.base X.stack:=by rcases I.ok.QA with e|⟨e,hf⟩;rw[e];exact I.jS;rw[e];obtain⟨m,hn,_⟩:=I.loc;refine .cons (by rw[I.ok.kind];decide) hf hn ?_ I.jS;exact Heap.get?_none_of_le<|zK I.ok.Ef I.ok.above
theorem Inv.mQ(I:Inv X pins σ H s):∀b∈kJ X.stack,b∈X.env.locals::X.fs:=λb hb=>by rcases I.ok.QA with e|⟨e,hf⟩;rw[e]at hb;exact zi _ hb;rw[e]at hb;unfold kJ at hb;rw[List.filterMap_cons,hf]at hb;exact hb
theorem Inv.pK(I:Inv X pins σ H s):∀b∈kJ X.stack,H b=none:=λb hb=>by rcases zf.mp (I.mQ b hb) with e|hb;rw[e];exact I.free;obtain⟨_,o,ho,_⟩:=I.ok.jS.mem hb;exact I.base.free b o ho (I.ok.Gk b hb) λz=>I.ok.Eg b z hb
theorem Inv.step{g':Array GenState}{t':Nat}{d':Drawn}{ch:List Addr}(I:Inv X pins σ H s) (Jx:∀b∈ch,(b∈X.ex\/X.cR.heap.objs.size<=b)/\b≠X.env.locals/\(∀x c,X.env.cells.lookup x=some c->c≠b)/\∀p∈X.pn++pins,p.1≠b) (keep:∀b o,b≠X.env.locals->b∉X.fs->b∉ch->s.heap.get? b=some o->H b=none->h'.get? b=some o) (slot:∀b o,b≠X.env.locals->b∈X.fs->b∉ch->s.heap.get? b=some o->H b=none->∃sl,h'.get? b=some {o with slots:=sl}) (free:∀b o,b∉ch->s.heap.get? b=some o->H b=none->H' b=none) (there:∀b o,b∉ch->s.heap.get? b=some o->∃o',h'.get? b=some o') (fQ:∀b xs,H b=some (.tup xs)->H' b=some (.tup xs)) (fg:∀b o u,H b=some (.kI o u)->H' b=some (.kI o u)) (fh:∀b ps,H b=some (.pJ ps)->∃more,H' b=some (.pJ<|ps++more)) (ns:∀m,s.heap.Ns X.env.locals m->h'.Ns X.env.locals m) (aH:jR X.prog X.w H' h') (hg:AllBare g'): Inv X pins σ H' {s with heap:=h',gens:=g',drawn:=d',toks:=t'}:=by
 have ZS:∀b o,X.cR.heap.get? b=some o->b≠X.env.locals:=λb o e=>zy<|zl (zt e) I.ok.above;have Vt:∀b o,X.cR.heap.get? b=some o->b∉X.ex->b∉ch:=λb o e hx hb=>by rcases (Jx b hb).1 with z|z;exact hx z;exact absurd (zl (zt e) z)<|yi _
 have cellK:∀x c,X.env.cells.lookup x=some c->∀v,s.heap.IsCell c v->h'.IsCell c v:=by rintro x c e v ⟨o,ho,hd⟩;have Rq:c∉ch:=λz=>(Jx c z).2.2.1 x c e rfl;by_cases hc:c∈X.fs;obtain⟨sl,q⟩:=slot c o (I.JM x c e) hc Rq ho<|I.df x c e;exact{_,q,hd};exact{o,keep c o (I.JM x c e) hc Rq ho<|I.df x c e,hd}
 refine{I.ok,I.os,hg,{λb o e n hb hx=>?_,λb o e n hb hx=>?_,λb o e n hx=>?_,λb o e hx=>?_,λb xs e=>fQ b xs<|I.base.fQ b xs e,λb o xs e=>fg b o xs<|I.base.fg b o xs e,λb ps e=>?_},?_,λx c e=>?_,?_,λx c e=>?_,λp hp=>?_,aH,I.len};exact keep b o (ZS b o e) hb (Vt b o e hx) (I.base.keep b o e n hb hx)<|I.base.free b o e n hx;obtain⟨sl,e1⟩:=I.base.slot b o e n hb hx;obtain⟨sl',e2⟩:=slot b _ (ZS b o e) hb (Vt b o e hx) e1<|I.base.free b o e n hx;exact⟨sl',e2⟩;obtain⟨o',e1⟩:=I.base.there b o e hx;exact free b o' (Vt b o e hx) e1<|I.base.free b o e n hx;obtain⟨o',e1⟩:=I.base.there b o e hx;exact there b o' (Vt b o e hx) e1;obtain⟨m1,e1⟩:=I.base.fh b ps e;obtain⟨m2,e2⟩:=fh b _ e1;exact{m1++m2,by rw[e2,Array.append_assoc]};obtain⟨m,hn,hl⟩:=I.loc;refine{m,ns m hn,λi x v e1 e2 e3=>?_};obtain⟨u,r,l⟩:=hl i x v e1 e2 e3;refine{u,r,?_};rcases l with l|⟨k,c,e,z⟩;exact .inl l;exact .inr {k,c,e,cellK x c e _ z};obtain⟨v,z⟩:=I.cell x c e;exact{v,cellK x c e v z};obtain⟨m,⟨o,_,_,ho,_⟩,_⟩:=I.loc;exact free _ o (λz=>(Jx _ z).2.1 rfl) ho I.free;obtain⟨v,o,ho,hd⟩:=I.cell x c e;exact free c o (λz=>(Jx c z).2.2.1 x c e rfl) ho<|I.df x c e;obtain⟨e,n,ne,nf,d⟩:=I.pin p hp;have Rq:p.1∉ch:=λz=>(Jx p.1 z).2.2.2 p hp rfl;exact{keep p.1 p.2 ne nf Rq e n,free p.1 p.2 Rq e n,ne,nf,d}
theorem Inv.un{t':Nat}(I:Inv X pins σ H s)(u:Un X.fs [] H H' s.heap h')(aH:jR X.prog X.w H' h'):Inv X pins σ H' {s with heap:=h',toks:=t'}:=by obtain⟨m,⟨o,es,ep,ho,r⟩,_⟩:=id I.loc;obtain⟨sl,hL⟩:=u.any ho I.free (by simp);exact I.step (g':=s.gens) (d':=s.drawn) (ch:=[]) (λ_ z=>nomatch z) (λb o _ hb _ e n=>u.keep b o e n hb<|by simp) (λb o _ hb _ e n=>u.slot b o e n hb<|by simp) (λb o _ e n=>u.free b o e n<|by simp) (λb o _ e=>u.there b o e<|by simp) u.fQ u.fg u.fh (λm' hm=>by obtain⟨o',Vu,Wo,Am,r'⟩:=hm;rw[ho]at Am;cases Am;exact{_,Vu,Wo,hL,r'}) aH I.bare
theorem Inv.call{g':Array GenState}{t':Nat}{d':Drawn}{ch:List Addr}(I:Inv X pins σ H s)(u:Un (kJ X.stack) ch H H' s.heap h')(aH:jR X.prog X.w H' h')(hg:AllBare g') (Jx:∀b∈ch,(b∈X.ex\/X.cR.heap.objs.size<=b)/\b≠X.env.locals/\(∀x c,X.env.cells.lookup x=some c->c≠b)/\∀p∈X.pn++pins,p.1≠b): Inv X pins σ H' {s with heap:=h',gens:=g',drawn:=d',toks:=t'}:=by obtain⟨m,⟨o,es,ep,ho,r⟩,_⟩:=id I.loc;obtain⟨sl,hL⟩:=u.any ho I.free λz=>(Jx _ z).2.1 rfl;exact I.step (ch:=ch) Jx (λb o hL hb hc e n=>u.keep b o e n (λz=>(zf.mp<|I.mQ b z).elim hL hb) hc) (λb o _ _ hc e n=>u.any e n hc) (λb o hc e n=>u.free b o e n hc) (λb o hc e=>u.there b o e hc) u.fQ u.fg u.fh (λm' hm=>by obtain⟨o',Vu,Wo,Am,r'⟩:=hm;rw[ho]at Am;cases Am;exact{_,Vu,Wo,hL,r'}) aH hg
theorem Inv.turned{t':Nat}{it:Addr}(I:Inv X pins σ H s)(k:∀b o,b≠it->s.heap.get? b=some o->h'.get? b=some o)(hn:H it=none)(hL:it≠X.env.locals) (h1:it∈X.ex\/X.cR.heap.objs.size<=it) (h2:∀x c,X.env.cells.lookup x=some c->c≠it) (h3:∀p∈X.pn++pins,p.1≠it):Inv X pins σ H {s with heap:=h',toks:=t'}:=by
 have Nr:∀b u,H b=some u->b≠it:=λb u e z=>by rw[z,hn]at e;cases e
 refine I.step (g':=s.gens) (d':=s.drawn) (ch:=[it]) (λb hb=>?_) (λb o _ _ hc e _=>k b o (λz=>hc<|by simp[z]) e) (λb o _ _ hc e _=>{o.slots,k b o (λz=>hc<|by simp[z]) e}) (λ_ _ _ _ n=>n) (λb o hc e=>{o,k b o (λz=>hc<|by simp[z]) e}) (λ_ _ e=>e) (λ_ _ _ e=>e) (λb ps e=>{#[],by rw[e];simp}) (λm hm=>?_) (λb u e=>?_) I.bare;have e:b=it:=by simpa using hb
 subst e;exact⟨h1,hL,h2,h3⟩;obtain⟨o,es,ep,ho,r⟩:=hm;exact{o,es,ep,k _ o (Ne.symm hL) ho,r};refine(I.aH b u e).lI (λc v hc q=>k c v ?_ q) (λ_ q=>q) λ_ _ q=>q;rcases hc with z|z;rw[z];exact Nr b u e;exact Nr c _ z
theorem Inv.tok(I:Inv X pins σ H s)(t:Nat):Inv X pins σ H {s with toks:=t}:=I.un (h':=s.heap) (t':=t) Un.refl I.aH
theorem Inv.kept(I:Inv X pins σ H s)(k:∀b u,s.heap.get? b=some u->h'.get? b=some u):Inv X pins σ H {s with heap:=h',toks:=t'}:=I.un (Un.kept k)<|I.aH.kept k
theorem Inv.laid{a:Addr}{o:HO}{t':Nat}(I:Inv X pins σ H s)(k:∀b u,s.heap.get? b=some u->h'.get? b=some u)(hp:s.heap.objs.size<=a)(new:ba X.prog X.w (upd H a o) h' a o): Inv X pins σ (upd H a o) {s with heap:=h',toks:=t'}:=I.un (Un.laid k hp<|I.aH.fresh hp)<|I.aH.laid k hp new
theorem Inv.write(I:Inv X pins σ H s)(mu:Rn<|H x)(he:e=x\/H e=some (.own x))(k:∀b u,b≠e->s.heap.get? b=some u->h'.get? b=some u)(Qx:∃u,h'.get? e=some u) (new:ba X.prog X.w (upd H x o) h' x o):Inv X pins σ (upd H x o) {s with heap:=h',toks:=t'}:=I.un (Un.write mu he k Qx)<|I.aH.write mu he k Qx new
theorem Inv.weak(I:Inv X pins σ H s)(hl:aC.length=σ.length)(w:∀(i:Nat) v,aC[i]?=some (some v)->σ[i]?=some (some v)):Inv X pins aC H s:={I.ok,I.os,I.bare,I.base,by obtain⟨m,hn,ZT⟩:=I.loc;exact{m,hn,λi x v e1 e2 e3=>ZT i x v e1 (w i v e2) e3},I.cell,I.free,I.df,I.pin,I.aH,hl.trans I.len}
theorem Inv.lJ(I:Inv X pins σ H s)(h:∀p∈pins',s.heap.get? p.1=some p.2/\H p.1=none/\p.1≠X.env.locals/\p.1∉X.fs/\∀v,p.2.data≠.cell v):Inv X pins' σ H s:={I.ok,I.os,I.bare,I.base,I.loc,I.cell,I.free,I.df,λp hp=>(zJ.mp hp).elim (λz=>I.pin p<|zQ _ z)<|h p,I.aH,I.len}
theorem p5{N:List Str}(hN:N.Nodup){i j:Nat}{x:Str}(a:N[i]?=some x)(b:N[j]?=some x):i=j:=by obtain⟨h1,e1⟩:=ze.mp a;obtain⟨h2,e2⟩:=ze.mp b;exact(List.getElem_inj hN).mp<|e1.trans e2.symm
theorem tE{M:Model}{A:Around}{E:Value->Shared->Prop}{i:Nat}{x:Str}{v:V}{u:Value}{Q:Unit->Shared->Prop}(I:Inv X pins σ H s)(hN:X.N.Nodup)(hi:X.N[i]?=some x)(hx:Loc X.env.scope x)(r:RelV v u) (h:∀s',Inv X pins (σ.set i<|some v) H s'->(∃a,Heap.SameBut a s.heap s'.heap/\(a=X.env.locals\/X.env.cells.lookup x=some a))->Q () s') (hf:autoParam (X.fn x=true\/X.env.scope.names.lookup x=some .local) qQ6):wpAny M A (storeName X.env x u) Q E s:=by
 obtain⟨m,hn,hl⟩:=id I.loc;have Gm:(X.env.scope.kind==.class||(X.env.scope.kind==.module&&X.env.locals != X.env.globals))=false:=by rw[I.ok.kind];rfl
 have JN:i<σ.length:=by rw[I.len];exact(ze.mp hi).1
 have JM:=I.JM;have tracked:∀{a:Addr}{h':Heap},(∃o,s.heap.get? a=some o/\H a=none)->Heap.SameBut a s.heap h'->jR X.prog X.w H h':=λ{a h'} ha hs b ob e=>by obtain⟨_,_,Mg⟩:=ha;refine(I.aH b ob e).lI (λc w' hc q=>(hs.2 c ?_).trans q) (λ_ q=>q) λ_ _ q=>q;rintro rfl;rcases hc with rfl|hc;rw[Mg]at e;cases e;rw[Mg]at hc;cases hc
 rcases hx with hk|hk;refine wpAny_storeName_local hk hn (λh' FV hs=>?_) Gm;obtain⟨oL,_,_,FW,_⟩:=id hn;refine h _ {I.ok,I.os,I.bare,{λb o e n hb hx=>?_,λb o e n hb hx=>?_,I.base.free,λb o e hx=>?_,I.base.fQ,I.base.fg,I.base.fh},{_,FV,λj y v' e1 e2 e3=>?_},λy c e=>?_,I.free,I.df,λp hp=>?_,tracked ⟨oL,FW,I.free⟩ hs,by simpa using I.len} {_,hs,.inl rfl};exact(hs.2 b<|zy<|zl (zt e) I.ok.above).trans<|I.base.keep b o e n hb hx;obtain⟨sl,e1⟩:=I.base.slot b o e n hb hx;exact{sl,(hs.2 b<|zy<|zl (zt e) I.ok.above).trans e1};obtain⟨o',e1⟩:=I.base.there b o e hx;exact{o',(hs.2 b<|zy<|zl (zt e) I.ok.above).trans e1};by_cases hj:j=i;subst hj;rw[hi]at e1;cases e1;rw[List.getElem?_set_self JN]at e2;cases e2;exact{u,r,.inl {hk,by simp}};rw[List.getElem?_set_ne<|Ne.symm hj]at e2;obtain⟨u',r',q⟩:=hl j y v' e1 e2 e3;refine{u',r',?_};rcases q with⟨k,e⟩|⟨k,c,e,z⟩;refine .inl {k,?_};have:y≠x:=λe=>hj<|p5 hN e1<|e ▸ hi;simp[this,e];exact .inr {k,c,e,z.sameBut hs<|JM y c e};obtain⟨w',z⟩:=I.cell y c e;exact{w',z.sameBut hs<|JM y c e};obtain⟨e,n,ne,nf,d⟩:=I.pin p hp;exact{(hs.2 p.1 ne).trans e,n,ne,nf,d};have Wq:X.fn x=true:=by rcases hf with z|z;exact z;rw[z]at hk;cases hk
 obtain⟨c,hc⟩:=I.ok.has x<|.inl hk;obtain⟨w',z⟩:=I.cell x c hc;refine wpAny_storeName_cell I.ok.kind hk hc z λh' Jy hs=>?_;obtain⟨oc,Vv,Wr⟩:=id z;refine h {s with heap:=h'} {I.ok,I.os,I.bare,{λb o e n hb hx=>?_,λb o e n hb hx=>?_,I.base.free,λb o e hx=>?_,I.base.fQ,I.base.fg,I.base.fh},{m,hn.sameBut hs<|Ne.symm<|JM x c hc,λj y v' e1 e2 e3=>?_},λy c' e=>?_,I.free,I.df,λp hp=>?_,tracked {oc,Vv,I.df x c hc} hs,by simpa using I.len} {c,hs,.inr hc};exact(hs.2 b<|zy<|zl (zt e)<|I.ok.Nq x c Wq hc).trans<|I.base.keep b o e n hb hx;obtain⟨sl,e1⟩:=I.base.slot b o e n hb hx;exact{sl,(hs.2 b<|zy<|zl (zt e)<|I.ok.Nq x c Wq hc).trans e1};obtain⟨o',e1⟩:=I.base.there b o e hx;exact{o',(hs.2 b<|zy<|zl (zt e)<|I.ok.Nq x c Wq hc).trans e1};by_cases hj:j=i;subst hj;rw[hi]at e1;cases e1;rw[List.getElem?_set_self JN]at e2;cases e2;exact{u,r,.inr {.inl hk,c,hc,Jy}};rw[List.getElem?_set_ne<|Ne.symm hj]at e2;obtain⟨u',r',q⟩:=hl j y v' e1 e2 e3;refine{u',r',?_};rcases q with q|⟨k,c',e,z'⟩;exact .inl q;refine .inr {k,c',e,z'.sameBut hs ?_};rintro rfl;exact hj<|p5 hN e1<|I.ok.inj _ _ _ e hc ▸ hi;by_cases ZU:c'=c;subst ZU;exact{_,Jy};obtain⟨w2,z2⟩:=I.cell y c' e;exact{w2,z2.sameBut hs ZU};obtain⟨e,n,ne,nf,d⟩:=I.pin p hp;refine{(hs.2 p.1 ?_).trans e,n,ne,nf,d};intro q;rw[q,Vv]at e;have q':oc=p.2:=zP e;exact d w'<|by rw[<-q'];exact Wr
theorem lK(I:Inv X pins σ H s)(hN:X.N.Nodup)(hi:X.N[i]?=some x)(hx:Loc X.env.scope x)(r:RelV v u) (h:∀s',Inv X pins (σ.set i<|some v) H s'->Q () s') (hf:autoParam (X.fn x=true\/X.env.scope.names.lookup x=some .local) qQ6):wpAny M A (storeName X.env x u) Q E s:=tE I hN hi hx r (λs' I' _=>h s' I') hf
theorem Inv.Gn(I:Inv X pins σ H s)(ho:s'.os=s.os)(u:Un (kJ X.stack) ch H H' s.heap s'.heap)(aH:jR X.prog X.w H' s'.heap)(hg:AllBare s'.gens) (Jx:∀b∈ch,(b∈X.ex\/X.cR.heap.objs.size<=b)/\b≠X.env.locals/\(∀x c,X.env.cells.lookup x=some c->c≠b)/\∀p∈X.pn++pins,p.1≠b):Inv X pins σ H' s':=by obtain⟨h',g',d',t',o'⟩:=s';have e:o'=s.os:=ho;subst e;exact I.call (g':=g') (t':=t') (d':=d') u aH hg Jx
end
abbrev XK:=Value->Option Addr->Hp->Prop
abbrev St:=List<|Option V
abbrev VK:=V->Hp->Prop
abbrev TE:=St->Hp->VK->Prop
abbrev TT:=St->Hp->(Bool->Hp->Prop)->Prop
abbrev TA:=St->Hp->(List V->Hp->Prop)->Prop
structure Ends where
 nx:St->Hp->Prop
 rt:VK
 bk:St->Hp->Prop:=λ_ _=>False
 ct:St->Hp->Prop:=λ_ _=>False
abbrev TS:=Ends->St->Hp->Prop
def EP(X:Cx)(pins:List<|Addr×Obj)(σ:St)(Q:VK)(u:Value)(s':Shared):Prop:=∃v H',Inv X pins σ H' s'/\RelV v u/\Q v H'
def TP(X:Cx)(pins:List<|Addr×Obj)(σ:St)(Q:Bool->Hp->Prop)(b:Bool)(s':Shared):Prop:=∃H',Inv X pins σ H' s'/\Q b H'
def AP(X:Cx)(pins:List<|Addr×Obj)(σ:St)(Q:List V->Hp->Prop)(us:List Value)(s':Shared):Prop:=∃vs H',Inv X pins σ H' s'/\Vals vs us/\Q vs H'
def SP(X:Cx)(pins:List<|Addr×Obj)(D:Ends)(f:Flow)(s':Shared):Prop:=match f with|.next=>∃aC H',Inv X pins aC H' s'/\D.nx aC H'|.brk=>∃aC H',Inv X pins aC H' s'/\D.bk aC H'|.cont=>∃aC H',Inv X pins aC H' s'/\D.ct aC H'|.ret u=>∃v aC H',Inv X pins aC H' s'/\RelV v u/\D.rt v H'
def PE(X:Cx)(e:Expr)(t:TE):Prop:=∀(pins:List (Addr×Obj))(s:Shared)(σ:St)(H:Hp)(Q:VK),Inv X pins σ H s->t σ H Q->wpAny (model X.prog X.w) X.A (eval e X.env) (EP X pins σ Q) X.xe s
def PT(X:Cx)(e:Expr)(t:TT):Prop:=∀(pins:List (Addr×Obj))(s:Shared)(σ:St)(H:Hp)(Q:Bool->Hp->Prop),Inv X pins σ H s->t σ H Q->wpAny (model X.prog X.w) X.A (isTrue e X.env<|eval e X.env) (TP X pins σ Q) X.xe s
def PW(X:Cx)(e:Expr)(t:TT):Prop:=∀(whole:Sem Value)(pins:List (Addr×Obj))(s:Shared)(σ:St)(H:Hp)(Q:Bool->Hp->Prop),Inv X pins σ H s->t σ H Q->wpAny (model X.prog X.w) X.A (isTrue e X.env whole) (TP X pins σ Q) X.xe s
theorem PW.pt{t:TT}(h:PW X e t):PT X e t:=h _
def PA(X:Cx)(es:List Expr)(t:TA):Prop:=∀(pos:Pos)(pins:List (Addr×Obj))(s:Shared)(σ:St)(H:Hp)(Q:List V->Hp->Prop),Inv X pins σ H s->t σ H Q->wpAny (model X.prog X.w) X.A (spliced<|backTo pos<|starEach es X.env) (AP X pins σ Q) X.xe s
def PS(X:Cx)(st:Stmt)(t:TS):Prop:=∀(pins:List (Addr×Obj))(s:Shared)(σ:St)(H:Hp)(D:Ends),Inv X pins σ H s->t D σ H->wpAny (model X.prog X.w) X.A (exec st X.env) (SP X pins D) X.xe s
def Ap(X:Cx)(st:List Stmt)(t:TS):Prop:=∀(pins:List (Addr×Obj))(s:Shared)(σ:St)(H:Hp)(D:Ends),Inv X pins σ H s->t D σ H->wpAny (model X.prog X.w) X.A (execs st X.env) (SP X pins D) X.xe s
theorem bf{t:Sem α}(h:wpAny M A t Q E s)(hQ:∀a s,Q a s->Q' a s):wpAny M A t Q' E s:=yn h hQ λ_ _ x=>x
section
variable{X:Cx}
def Ws(i:Nat):TE:=λσ H Q=>∃v,σ[i]?=some (some v)/\Q v H
def tC(v:V):TE:=λ_ H Q=>Q v H
theorem Nt(hN:X.N[i]?=some x)(hv:Qz X.env.scope x)(hd:autoParam ((x==("__debug__": Str))=false) qQZ)(rZ:autoParam ((x==("__classdict__": Str))=false) qQZ):PE X (.Name x pos) (Ws i):=by intro pins s σ H Q I h;obtain⟨v,e,h⟩:=h;obtain⟨m,hn,hl⟩:=I.loc;obtain⟨u,r,l⟩:=hl i x v hN e hv;have fin:EP X pins σ Q u s:=⟨v,H,I,r,h⟩;rcases l with⟨hk,hm⟩|⟨hk,c,hc,Cu⟩;exact wpAny_Name (wpAny_loadName_local I.ok.kind hk hn hm fin) hd;rcases hk with hk|hk;exact wpAny_Name (wpAny_loadName_cell I.ok.kind hk hc Cu fin) hd;exact wpAny_Name (wpAny_loadName_free I.ok.kind hk hc Cu fin rZ) hd
theorem Gq:PE X (.Constant (.int i) j pos) (tC<|.int i):=λ_ _ _ H _ I h=>wpAny_Constant_int {.int i,H,I.tok _,{_,rfl},h}
theorem Mh:PE X (.Constant (.bool b) j pos) (tC<|.bl b):=λ_ _ _ H _ I h=>Constant_bool {.bl b,H,I,rfl,h}
theorem Nu:PE X (.Constant .none j pos) (tC .ax):=λ_ _ _ H _ I h=>Constant_none {.ax,H,I,rfl,h}
theorem Nv:PE X (.Constant (.str x) j pos) (tC<|.str x):=λ_ _ _ H _ I h=>Calls.Constant_str {.str x,H,I.tok _,{_,rfl},h}
def Gl(X:Cx)(x:Str):Prop:=X.env.kindOf x=some .globalImplicit
theorem lL(I:Inv X pins σ H s)(hg:Gl X x)(hm:X.mg x=some u)(h:Q u s) (hd:autoParam ((x==("__debug__": Str))=false) qQZ):wpAny (model X.prog X.w) X.A (eval (.Name x pos) X.env) Q E s:=Calls.Name_function_global I.ok.kind hg (Calls.loadGlobal_global (by rw[I.ok.glob];exact I.mod.glob.keeps I.bk) hm h) hd
theorem gr(I:Inv X pins σ H s)(hg:Gl X x)(hm:X.mg x=none)(hv:bootBuiltins x=some u)(h:Q u s) (hn:autoParam (x≠"__name__") qQZ) (hd:autoParam ((x==("__debug__": Str))=false) qQZ):wpAny (model X.prog X.w) X.A (eval (.Name x pos) X.env) Q E s:=by obtain⟨mb,h1,h2⟩:=I.mod.blt;exact Calls.Name_function_global I.ok.kind hg (Calls.loadGlobal_builtin (by rw[I.ok.glob];exact I.mod.glob.keeps I.bk) hm (by rw[I.ok.blt];exact h1.keeps I.bk) ((h2 x hn).trans hv) h) hd
theorem Cv(hg:Gl X x)(hm:X.mg x=some u)(r:RelV v u)(hd:autoParam ((x==("__debug__": Str))=false) qQZ):PE X (.Name x pos) (tC v):=λ_ _ _ H _ I h=>lL I hg hm ⟨v,H,I,r,h⟩ hd
theorem JO(hg:Gl X x)(hm:X.mg x=none)(hv:bootBuiltins x=some u)(r:RelV v u)(hn:autoParam (x≠"__name__") qQZ)(hd:autoParam ((x==("__debug__": Str))=false) qQZ):PE X (.Name x pos) (tC v):=λ_ _ _ H _ I h=>gr I hg hm hv ⟨v,H,I,r,h⟩ hn hd
variable{a b:Expr}{ta tb:TE}{pos:Pos}
def tB(t:TE):TT:=λσ H Q=>t σ H λx H1=>∃c,x=.bl c/\Q c H1
theorem Nw{t:TE}(h:PE X e t)(he:autoParam (∀whole,isTrue e X.env whole=(do let v <-whole;standAt e.pos;holding [v] (truthy v))) qQ0):PT X e (tB t):=by intro pins s σ H Q I hw;refine isTrue_plain (bf (h pins s σ H _ I hw) λv s1 ⟨x,H1,I1,r1,q1⟩=>?_)<|he _;obtain⟨d,rfl,q⟩:=q1;cases r1;exact yo ⟨H1,I1,q⟩
variable{tA Vx:TT}{rest:List Expr}
def Wt(t u:TT):TT:=λσ H Q=>t σ H λc H1=>if c=true then u σ H1 Q else Q false H1
def tOr(t u:TT):TT:=λσ H Q=>t σ H λc H1=>if c=true then Q true H1 else u σ H1 Q
def Wu(t:TT):TT:=λσ H Q=>t σ H λc H1=>Q (!c) H1
theorem pw_and1(ha:PT X a tA):PW X (.BoolOp .And [a] pos) tA:=by intro wh pins s σ H Q I h;refine isTrue_and<|bf (ha pins s σ H Q I h) λc s1 e=>?_;cases c with|true=>exact isTrue_and_nil e|false=>exact e
theorem pw_or1(ha:PT X a tA):PW X (.BoolOp .Or [a] pos) tA:=by intro wh pins s σ H Q I h;refine isTrue_or<|bf (ha pins s σ H Q I h) λc s1 e=>?_;cases c with|false=>exact isTrue_or_nil e|true=>exact e
theorem pw_and(ha:PT X a tA)(hb:PW X (.BoolOp .And (b::rest) pos) Vx):PW X (.BoolOp .And (a::b::rest) pos) (Wt tA Vx):=by intro wh pins s σ H Q I h;refine isTrue_and<|bf (ha pins s σ H _ I h) λc s1 ⟨H1,I1,q1⟩=>?_;cases c with|true=>exact hb wh pins s1 σ H1 Q I1 q1|false=>exact⟨H1,I1,q1⟩
theorem pw_or(ha:PT X a tA)(hb:PW X (.BoolOp .Or (b::rest) pos) Vx):PW X (.BoolOp .Or (a::b::rest) pos) (tOr tA Vx):=by intro wh pins s σ H Q I h;refine isTrue_or<|bf (ha pins s σ H _ I h) λc s1 ⟨H1,I1,q1⟩=>?_;cases c with|true=>exact⟨H1,I1,q1⟩|false=>exact hb wh pins s1 σ H1 Q I1 q1
theorem Nx(ha:PT X a tA):PT X (.UnaryOp .Not a pos) (Wu tA):=by intro pins s σ H Q I h;exact isTrue_not<|ha pins s σ H (λc H1=>Q (!c) H1) I h
def Rr(ta tb:TE):TE:=λσ H Q=>ta σ H λx H1=>∃c,x=.bl c/\if c=true then tb σ H1 Q else Q (.bl false) H1
def Wv(ta tb:TE):TE:=λσ H Q=>ta σ H λx H1=>∃c,x=.bl c/\if c=true then Q (.bl true) H1 else tb σ H1 Q
def Ru(ta:TE):TE:=λσ H Q=>ta σ H λx H1=>∃c,x=.bl c/\Q (.bl<|!c) H1
theorem Ny{t:TE}(h:PE X a t):PE X (.BoolOp op [a] pos) t:=λpins s σ H Q I hw=>BoolOp_one<|h pins s σ H Q I hw
theorem Nz(ha:PE X a ta)(hb:PE X (.BoolOp .And (b::rest) pos) tb):PE X (.BoolOp .And (a::b::rest) pos) (Rr ta tb):=by intro pins s σ H Q I h;refine BoolOp_and<|bf (ha pins s σ H _ I h) λv s1 ⟨x,H1,I1,r1,q1⟩=>?_;obtain⟨c,rfl,q1⟩:=q1;cases r1;refine yo ?_;cases c with|true=>exact hb pins s1 σ H1 Q I1 q1|false=>exact{.bl false,H1,I1,rfl,q1}
theorem Rw(ha:PE X a ta)(hb:PE X (.BoolOp .Or (b::rest) pos) tb):PE X (.BoolOp .Or (a::b::rest) pos) (Wv ta tb):=by intro pins s σ H Q I h;refine BoolOp_or<|bf (ha pins s σ H _ I h) λv s1 ⟨x,H1,I1,r1,q1⟩=>?_;obtain⟨c,rfl,q1⟩:=q1;cases r1;refine yo ?_;cases c with|false=>exact hb pins s1 σ H1 Q I1 q1|true=>exact{.bl true,H1,I1,rfl,q1}
theorem NA(ha:PE X a ta):PE X (.UnaryOp .Not a pos) (Ru ta):=by intro pins s σ H Q I h;refine UnaryOp_<|bf (ha pins s σ H _ I h) λv s1 ⟨x,H1,I1,r1,q1⟩=>?_;obtain⟨c,rfl,q1⟩:=q1;cases r1;exact not_of<|yo {.bl<|!c,H1,I1,rfl,q1}
def tIf(t:TT)(ta tb:TE):TE:=λσ H Q=>t σ H λc H1=>if c=true then ta σ H1 Q else tb σ H1 Q
theorem Gr(hc:PT X c tA)(ha:PE X a ta)(hb:PE X b tb):PE X (.IfExp c a b pos) (tIf tA ta tb):=by intro pins s σ H Q I h;refine wpAny_IfExp<|bf (hc pins s σ H _ I h) λd s1 ⟨H1,I1,q1⟩=>?_;cases d with|true=>exact ha pins s1 σ H1 Q I1 q1|false=>exact hb pins s1 σ H1 Q I1 q1
end
def iU(K:Frag)(H:Hp)(a:Addr)(xs:List V):Prop:=Rd H a (.lst xs)\/∃(o:Obj)(ay:Array Value)(n:Nat),K.lookup a=some o/\o.cls=.type "list"/\o.dict=none/\o.data=.seq ay n/\ay.size<=sizeLine/\Vals xs ay.toList
def iq(K:Frag)(H:Hp)(a:Addr)(xs:List V):Prop:=Rd H a (.tup xs)\/∃(o:Obj)(ay:Array Value)(n:Nat),K.lookup a=some o/\o.cls=.type "tuple"/\o.data=.seq ay n/\ay.size<=sizeLine/\Vals xs ay.toList
noncomputable def Ww:Value->Option V|.none=>some .ax|.bool b=>some (.bl b)|.int i _=>some (.int i)|.str x _=>some (.str x)|.bytes b _=>some (.Ct b)|.float b _=>some (.Nn b)|.ref a=>some (.ref a)|.type n=>some (.ty n)|_=>none
theorem RelV.abs(r:RelV x u):Ww u=some x:=by cases x with|ax=>(cases r;rfl)|bl _=>(cases r;rfl)|int _=>(obtain⟨t,rfl⟩:=r;rfl)|str _=>(obtain⟨t,rfl⟩:=r;rfl)|Ct _=>(obtain⟨t,rfl⟩:=r;rfl)|Nn _=>(obtain⟨t,rfl⟩:=r;rfl)|ref _=>(cases r;rfl)|ty _=>cases r;rfl
theorem RelV.inj(r:RelV x u)(q:RelV y u):x=y:=zP<|r.abs.symm.trans q.abs
theorem Vals.inj:∀{xs ys:List V}{us:List Value},Vals xs us->Vals ys us->xs=ys|_,_,_,.nil,.nil=>rfl|_,_,_,.cons r t,.cons r' t'=>by rw[r.inj r',Vals.inj t t']
section
variable{X:Cx}{pins:List (Addr×Obj)}{σ:St}{H:Hp}{s:Shared}{a:Addr}{xs ys:List V}
theorem iU.of{K:Frag}(h:H a=some (.lst xs)):iU K H a xs:=.inl<|.inl h
theorem iq.of{K:Frag}(h:H a=some (.tup xs)):iq K H a xs:=.inl<|.inl h
theorem Inv.list(I:Inv X pins σ H s)(h:iU X.K H a xs):∃ay:List Value,Vals xs ay/\PlainL s.heap a ay.toArray/\xs.length<=sizeLine:=by rcases h with h|⟨o,ay,n,hk,hc,hd,hs,hz,r⟩;obtain⟨z,ay,n,r,e⟩:=h.ok I.aH;exact{ay,r,{_,n,e,rfl,rfl,rfl},z};refine{ay.toList,r,{o,n,I.lE a o hk,hc,hd,by simpa using hs},?_};have e:=r.length;simp only[ym]at e;lia
theorem Inv.tuple(I:Inv X pins σ H s)(h:iq X.K H a xs):∃ay:List Value,Vals xs ay/\IsTup s.heap a ay.toArray/\xs.length<=sizeLine:=by rcases h with h|⟨o,ay,n,hk,hc,hs,hz,r⟩;obtain⟨z,ay,r,p⟩:=h.ok I.aH;exact⟨ay,r,p.tup,z⟩;refine{ay.toList,r,{o,I.lE a o hk,hc,n,by simpa using hs},?_};have e:=r.length;simp only[ym]at e;lia
theorem Inv.wO(I:Inv X pins σ H s)(h:iU X.K H a xs)(h':iU X.K H a ys):xs=ys:=by
 obtain⟨ay,r,⟨o,n,e,_,_,d⟩,_⟩:=I.list h;obtain⟨its',r',⟨o',n',e',_,_,d'⟩,_⟩:=I.list h';rw[e]at e';cases e';rw[d]at d';injection d' with d1 _;have:ay=its':=by simpa using congrArg Array.toList d1
 subst this;exact r.inj r'
theorem Inv.mR(I:Inv X pins σ H s)(h:iq X.K H a xs)(h':iq X.K H a ys):xs=ys:=by
 obtain⟨ay,r,⟨o,e,_,n,d⟩,_⟩:=I.tuple h;obtain⟨its',r',⟨o',e',_,n',d'⟩,_⟩:=I.tuple h';rw[e]at e';cases e';rw[d]at d';injection d' with d1 _;have:ay=its':=by simpa using congrArg Array.toList d1
 subst this;exact r.inj r'
end
noncomputable abbrev Cx.abi(X:Cx)(E:Value->Shared->Prop):Cx:={X with xe:=E}
section
variable{X:Cx}{st:Stmt}{rest:List Stmt}{t u:TS}{e:Expr}{te:TE}{pos:Pos}
def Rx:TS:=λD σ H=>D.nx σ H
def Wx(t u:TS):TS:=λD σ H=>t {D with nx:=u D} σ H
theorem Cw:Ap X [] Rx:=λ_ _ σ H _ I h=>wpAny_execs_nil ⟨σ,H,I,h⟩
theorem Gs(h1:PS X st t)(h2:Ap X rest u):Ap X (st::rest) (Wx t u):=by intro pins s σ H D I h;refine wpAny_execs_cons<|bf (h1 pins s σ H {D with nx:=u D} I h) λf s1 q=>?_;cases f with|next=>(obtain⟨aC,H',I',q⟩:=q;exact h2 pins s1 aC H' D I' q)|ret v=>exact q|brk=>exact q|cont=>exact q
theorem JP(h1:PS X st t):Ap X [st] t:=by intro pins s σ H D I h;refine wpAny_execs_cons<|bf (h1 pins s σ H D I h) λf s1 q=>?_;cases f with|next=>exact wpAny_execs_nil q|ret v=>exact q|brk=>exact q|cont=>exact q
theorem Inv.quiet(I:Inv X pins σ H s):interactive X.env=false:=by simp[interactive,I.ok.kind]
def Ry(te:TE):TS:=λD σ H=>te σ H λ_ H1=>D.nx σ H1
theorem JQ(he:PE X e te)(hs:autoParam (swapsWith e none pos.line X.env=pure false) qQJ):PS X (.Expr e pos) (Ry te):=by intro pins s σ H D I h;exact wpAny_Expr_any (bf (he pins s σ H _ I h) <| by rintro v s1 ⟨x,H1,I1,r1,q1⟩;exact⟨σ,H1,I1,q1⟩) I.quiet hs
def Wy(te:TE):TS:=λD σ H=>te σ H D.rt
theorem NB(he:PE X e te):PS X (.Return (some e) pos) (Wy te):=by intro pins s σ H D I h;exact wpAny_Return_some<|bf (he pins s σ H _ I h) <| by rintro v s1 ⟨x,H1,I1,r1,q1⟩;exact⟨x,σ,H1,I1,r1,q1⟩
def Wz(c:TT)(t u:TS):TS:=λD σ H=>c σ H λb H1=>if b=true then t D σ H1 else u D σ H1
theorem Rz(hc:PT X c tc)(ha:Ap X a t)(hb:Ap X b u):PS X (.If c a b pos) (Wz tc t u):=by intro pins s σ H D I h;refine wpAny_If<|bf (hc pins s σ H _ I h) λd s1 ⟨H1,I1,q1⟩=>?_;cases d with|true=>exact ha pins s1 σ H1 D I1 q1|false=>exact hb pins s1 σ H1 D I1 q1
end
abbrev TG:=V->St->Hp->(St->Hp->Prop)->Prop
abbrev Mi:=List V->St->Hp->(St->Hp->Prop)->Prop
def PG(X:Cx)(target:Expr)(t:TG):Prop:=∀(pins:List (Addr×Obj))(s:Shared)(σ:St)(H:Hp)(v:V)(u:Value)(Q:St->Hp->Prop),Inv X pins σ H s->RelV v u->t v σ H Q->wpAny (model X.prog X.w) X.A (assign target X.env u) (λ_ s'=>∃aC H',Inv X pins aC H' s'/\Q aC H') X.xe s
def Mj(X:Cx)(ts:List Expr)(t:Mi):Prop:=∀(pins:List (Addr×Obj))(s:Shared)(σ:St)(H:Hp)(vs:List V)(us:List Value)(Q:St->Hp->Prop),Inv X pins σ H s->Vals vs us->t vs σ H Q->wpAny (model X.prog X.w) X.A (assignInOrder ((assignEach ts X.env).map (·.2)) us) (λ_ s'=>∃aC H',Inv X pins aC H' s'/\Q aC H') X.xe s
abbrev NC:=V->V->V->Hp->(Hp->Prop)->Prop
def RA(X:Cx)(t:NC):Prop:=∀(pins:List (Addr×Obj))(s:Shared)(σ:St)(H:Hp)(o i v:V)(ov iv u:Value)(Q:Hp->Prop),Inv X pins σ H s->RelV o ov->RelV i iv->RelV v u->t o i v H Q->wpAny (model X.prog X.w) X.A (setItem ov iv u) (λ_ s'=>∃H',Inv X pins σ H' s'/\Q H') X.xe s
abbrev WA:=V->V->Hp->VK->Prop
def ZV(X:Cx)(op:Operator)(t:WA):Prop:=∀(pins:List (Addr×Obj))(s:Shared)(σ:St)(H:Hp)(x y:V)(v u:Value)(Q:VK),Inv X pins σ H s->RelV x v->RelV y u->t x y H Q->wpAny (model X.prog X.w) X.A (inplaceOp op v u) (EP X pins σ Q) X.xe s
section
variable{X:Cx}{pos:Pos}
def ir(i:Nat):TG:=λv σ H Q=>Q (σ.set i<|some v) H
theorem pL(hN:X.N.Nodup)(hi:X.N[i]?=some x)(hx:Loc X.env.scope x)(hf:autoParam (X.fn x=true\/X.env.scope.names.lookup x=some .local) qQ6):PG X (.Name x pos) (ir i):=by intro pins s σ H v u Q I r h;exact wpAny_assign_Name<|lK I hN hi hx r (λs' I'=>{_,H,I',h}) hf
def JR:Mi:=λvs σ H Q=>vs=[]/\Q σ H
def p6(t:TG)(u:Mi):Mi:=λvs σ H Q=>∃v r,vs=v::r/\t v σ H λaC H'=>u r aC H' Q
theorem Cy:Mj X [] JR:=by intro pins s σ H vs us Q I r h;obtain⟨e,h⟩:=h;subst e;cases r;exact assignInOrder_nil ⟨σ,H,I,h⟩
theorem p7{t:TG}(h1:PG X e t)(h2:Mj X es u) (hs:autoParam ((assignEach (e::es) X.env).map (·.2)=assign e X.env::(assignEach es X.env).map (·.2)) qQJ):Mj X (e::es) (p6 t u):=by intro pins s σ H vs us Q I r h;obtain⟨v,vr,e1,h⟩:=h;subst e1;cases r with|cons r rr=>rw[hs];refine assignInOrder_cons<|bf (h1 pins s σ H _ _ _ I r h) λ_ s1 ⟨uF,H1,I1,q1⟩=>?_;exact h2 pins s1 uF H1 _ _ Q I1 rr q1
def JS(K:Frag)(n:Nat)(t:Mi):TG:=λv σ H Q=>∃a xs,v=.ref a/\iq K H a xs/\xs.length=n/\t xs σ H Q
theorem Gu{t:Mi}(hc:X.calm=true)(h:Mj X es t) (hn:autoParam ((assignEach es X.env).length=n) qQJ) (og:autoParam ((assignEach es X.env).findIdx? (·.1)=none) qQJ):PG X (.Tuple es k pos) (JS X.K n t):=by intro pins s σ H v u Q I r hw;obtain⟨a,xs,e1,hq,hl,hw⟩:=hw;subst e1;cases r;obtain⟨ay,rv,ht,hz⟩:=I.tuple hq;refine assign_Tuple_tuple (I.ok.hd hc) ht (by simp[hn,<-hl,rv.length]) og λh' hx=>?_;have I1:Inv X pins σ H {s with heap:=h'}:=I.kept (t':=s.toks) λb o e=>hx b o (zy<|zt e) e;exact h pins _ σ H xs _ Q I1 (by simpa using rv) hw
def WB(to ti:TE)(t:NC):TG:=λv σ H Q=>to σ H λo H1=>ti σ H1 λi H2=>t o i v H2 λH3=>Q σ H3
theorem ND{t:NC}(ho:PE X o to)(hi:PE X i ti)(hs:RA X t)
  (ha:autoParam (∀v,assign (.Subscript o i pos) X.env v=(do
   let ov <-holding [v] (eval o X.env)
   let iv <-holding [v,ov] (eval i X.env)
   standAt pos
   holding [v,ov,iv] (setItem ov iv v)
   release [v,ov,iv] [])) qQ0):PG X (.Subscript o i pos) (WB to ti t):=by
 intro pins s σ H v u Q I r h
 rw[ha]
 refine zb<|yE<|bf (ho pins s σ H _ I h) λov s1 ⟨x,H1,I1,r1,q1⟩=>?_
 refine zb<|yE<|bf (hi pins s1 σ H1 _ I1 q1) λiv s2 ⟨y,H2,I2,r2,q2⟩=>?_
 refine zb<|wpAny_standAt<|zb<|yE<|bf (hs pins s2 σ H2 x y v ov iv u _ I2 r1 r2 r q2) λ_ s3 ⟨H3,I3,q3⟩=>?_
 exact wpAny_release ⟨σ,H3,I3,q3⟩
def NF(te:TE)(g:TG):TS:=λD σ H=>te σ H λx H1=>g x σ H1 D.nx
theorem Gv(he:PE X e te)(hg:PG X tg g)(hs:autoParam (swapsWithSole [tg] e pos.line X.env=pure false) qQJ)(hw:autoParam (swappedStores [tg] e X.env=pure none) qQJ) (h1:autoParam ((assignEach [tg] X.env).map (·.2)=[assign tg X.env]) qQJ):PS X (.Assign [tg] e pos) (NF te g):=by intro pins s σ H D I h;refine wpAny_Assign_stores (bf (he pins s σ H _ I h) λv s1 ⟨x,H1,I1,r1,q1⟩=>?_) hs hw;rw[h1];exact bf (hg pins s1 σ H1 x v _ I1 r1 q1) λ_ s2 q=>q
theorem NG(hN:X.N.Nodup)(hi:X.N[i]?=some x)(hx:Loc X.env.scope x)(he:PE X e te)(hs:autoParam (swapsWith e (some<|.Name x pos') pos.line X.env=pure false) qQJ)(hf:autoParam (X.fn x=true\/X.env.scope.names.lookup x=some .local) qQ6): PS X (.Assign [.Name x pos'] e pos) (NF te<|ir i):=by intro pins s σ H D I h;refine wpAny_Assign_Name (bf (he pins s σ H _ I h) λv s1 ⟨y,H1,I1,r1,q1⟩=>?_) hs;exact lK I1 hN hi hx r1 (λs2 I2=>{_,H1,I2,q1}) hf
def WC(i:Nat)(te:TE)(ti:WA):TS:=λD σ H=>∃x,σ[i]?=some (some x)/\te σ H λy H1=>ti x y H1 λz H2=>D.nx (σ.set i<|some z) H2
theorem NH(hN:X.N.Nodup)(hi:X.N[i]?=some x)(hx:Loc X.env.scope x)(he:PE X e te)(ho:ZV X op ti)(hf:autoParam (X.fn x=true\/X.env.scope.names.lookup x=some .local) qQ6): PS X (.AugAssign (.Name x pos') op e pos) (WC i te ti):=by
 intro pins s σ H D I h;obtain⟨v,e1,h⟩:=h;obtain⟨m,hn,hl⟩:=I.loc;have vis:Qz X.env.scope x:=by rcases hx with k|k;exact .inl k;exact .inr<|.inl k
 obtain⟨u,r,l⟩:=hl i x v hi e1 vis;refine wpAny_AugAssign_Name ?_;have go:wpAny (model X.prog X.w) X.A (eval e X.env) (λw bL=>wpAny (model X.prog X.w) X.A (inplaceOp op u w) (λr Aq=>wpAny (model X.prog X.w) X.A (storeName X.env x r) (λ_=>SP X pins D .next) X.xe Aq) X.xe bL) X.xe s:=by refine bf (he pins s σ H _ I h) λw s1 ⟨y,H1,I1,r1,q1⟩=>?_;refine bf (ho pins s1 σ H1 v y u w _ I1 r r1 q1) λz s2 ⟨zv,H2,I2,r2,q2⟩=>?_;exact lK I2 hN hi hx r2 (λs3 I3=>{_,H2,I3,q2}) hf
 rcases l with⟨hk,hm⟩|⟨hk,c,hc,Cu⟩;exact wpAny_loadName_local I.ok.kind hk hn hm go;rcases hk with hk|hk;exact wpAny_loadName_cell I.ok.kind hk hc Cu go;rcases hx with k|k;have:X.env.scope.names.lookup x=some .free:=hk;rw[k]at this;cases this;have:X.env.scope.names.lookup x=some .free:=hk;rw[k]at this;cases this
def ipI(f:Int->Int->Int):WA:=λx y H Q=>∃i j,x=.int i/\y=.int j/\Q (.int<|f i j) H
theorem NI:ZV X .Add (ipI λi j=>i+j):=by intro pins s σ H x y v u Q I r1 r2 h;obtain⟨i,j,e1,e2,q⟩:=h;subst e1;subst e2;obtain⟨t,rfl⟩:=r1;obtain⟨t',rfl⟩:=r2;exact iadd_int {.int _,H,I.tok _,{_,rfl},q}
def NJ(c:TT)(tb:TS):TS:=λD σ H=>∃W:Nat->St->Hp->Prop,(∃m,W m σ H)/\∀m σ H,W m σ H->c σ H λb H1=>if b=true then ∃N:St->Hp->Prop,(∀aC H',N aC H'->∃m',m'<m/\W m' aC H')/\tb {D with nx:=N,ct:=N,bk:=D.nx} σ H1 else D.nx σ H1
theorem Gw(hp:PassesOwn (model X.prog X.w) X.A X.env X.xe)(hc:PT X c tc)(hb:Ap X body tb):PS X (.While c body [] pos) (NJ tc tb):=by intro pins s σ H D I h;obtain⟨W,⟨m0,w0⟩,turn⟩:=h;refine wpAny_While<|codeAny_whileLoop (λn s'=>∃aC H',Inv X pins aC H' s'/\W n aC H') ?_ m0 ⟨σ,H,I,w0⟩;rintro n s1 ⟨uF,H1,I1,w1⟩;refine wpAny_passesOwn hp<|bf (hc pins s1 uF H1 _ I1<|turn n uF H1 w1) λb s2 ⟨H2,I2,q2⟩=>?_;cases b with|true=>(obtain⟨N,hN,q2⟩:=q2;rw[if_pos rfl];refine wpAny_passesOwn hp<|bf (hb pins s2 uF H2 _ I2 q2) λf s3 q3=>?_;cases f with|next=>(obtain⟨iK,H3,I3,n3⟩:=q3;obtain⟨m',hm,w3⟩:=hN iK H3 n3;exact⟨m',hm,iK,H3,I3,w3⟩)|cont=>(obtain⟨iK,H3,I3,n3⟩:=q3;obtain⟨m',hm,w3⟩:=hN iK H3 n3;exact⟨m',hm,iK,H3,I3,w3⟩)|brk=>exact q3|ret v=>exact q3)|false=>rw[if_neg zd];exact wpAny_execs_nil ⟨uF,H2,I2,q2⟩
end
structure It where
 go:Nat->Hp->Prop
 RB:Nat->Hp->V->Hp->Prop
 stop:Nat->Hp->Prop
def sx(X:Cx)(pins:List<|Addr×Obj)(H:Hp)(b:Addr):Prop:=H b=none/\b≠X.env.locals/\b∉X.fs/\(b∈X.ex\/X.cR.heap.objs.size<=b)/\(∀x c,X.env.cells.lookup x=some c->c≠b)/\∀p∈X.pn++pins,p.1≠b
theorem Inv.o_(I:Inv X pins σ H s)(hb:s.heap.objs.size<=b)(hn:H' b=none):sx X pins H' b:=by refine{hn,yj<|zl I.lt hb,I.Rp hb,.inr<|zK I.sz hb,λx c e z=>?_,λp hp z=>?_};obtain⟨v,q⟩:=I.cell x c e;exact absurd (zl q.lt<|by rw[z];exact hb)<|yi _;exact absurd (zl (zt (I.pin p hp).1)<|by rw[z];exact hb)<|yi _
structure Turn(P:Program)(w:World)(K:Frag)(tg:Expr)(J:It)(fp:List Addr)(it:Addr)(tn:Nat->Heap->Prop):Prop where
 mem:it∈fp
 obj:∀i h,tn i h->∀b∈fp,∃o,h.get? b=some o/\∀v,o.data≠.cell v
 keep:∀i h h',tn i h->(∀b∈fp,∀o,h.get? b=some o->h'.get? b=some o)->tn i h'
 item:∀(X:Cx),X.prog=P->X.w=w->X.K=K->X.calm=true->∀(i:Nat)(pins:List (Addr×Obj))(s:Shared)(σ:St)(H:Hp)(E:Value->Shared->Prop),Inv X pins σ H s->(∀b∈fp,sx X pins H b)->tn i s.heap->J.go i H ->
  wpAny (model P w) X.A (pyNext<|.ref it) (λr s1=>∃u,r=some u /\
   wpAny (model P w) X.A (letOwnedTupleGo tg (.ref it) u) (λ_ s2=>∃x H',Inv X pins σ H' s2/\RelV x u/\J.RB i H x H'/\tn (i+1) s2.heap/\∀b∈fp,H' b=none) E s1) E s
 done:∀(X:Cx),X.prog=P->X.w=w->X.K=K->X.calm=true->∀(i:Nat)(pins:List (Addr×Obj))(s:Shared)(σ:St)(H:Hp)(E:Value->Shared->Prop),Inv X pins σ H s->(∀b∈fp,sx X pins H b)->tn i s.heap->J.stop i H ->
  wpAny (model P w) X.A (pyNext<|.ref it) (λr s1=>r=none/\Inv X pins σ H s1) E s
 self:∀(A:Around)(i:Nat)(s:Shared)(Q:Value->Shared->Prop)(E:Value->Shared->Prop),tn i s.heap->Q (.ref it) s->wpAny (model P w) A (pyIter<|.ref it) Q E s
abbrev TI:=St->Hp->(It->Hp->Prop)->Prop
def WD(X:Cx)(pins:List<|Addr×Obj)(σ:St)(tg:Expr)(R:It->Hp->Prop)(Vy:Value)(s2:Shared):Prop:=∃(it:Addr)(fp:List Addr)(tn:Nat->Heap->Prop)(J:It)(H':Hp),Vy=.ref it/\Inv X pins σ H' s2/\Turn X.prog X.w X.K tg J fp it tn/\tn 0 s2.heap/\(∀b∈fp,sx X pins H' b)/\R J H'
def PI(X:Cx)(tg iter:Expr)(wi:TI):Prop:=∀(pins:List (Addr×Obj))(s:Shared)(σ:St)(H:Hp)(R:It->Hp->Prop),Inv X pins σ H s->wi σ H R->wpAny (model X.prog X.w) X.A (eval iter X.env) (λv s1=>wpAny (model X.prog X.w) X.A (pyIter v) (WD X pins σ tg R) X.xe s1) X.xe s
theorem tG(ho:s.heap.get? it=some o)(hc:o.cls=.type n)(hd:o.data=.fields vs) (hn:["enumerate","zip","dict_itemiterator","dict_reverseitemiterator","odict_iterator","itertools.zip_longest","itertools.pairwise"].contains n=false) (hQ:Q () s):wpAny M A (letOwnedTupleGo tg (.ref it) u) Q E s:=by
 unfold letOwnedTupleGo
 cases tg<;>first
  |exact zu hQ
  | (cases u<;>first
    |exact zu hQ
    | (refine zb (wpAny_load ho ?_)
       rw[hc,hd]
       show wpAny M A (if (["enumerate","zip","dict_itemiterator","dict_reverseitemiterator","odict_iterator","itertools.zip_longest","itertools.pairwise"].contains n&&vs[0]?==some (rawInt _))=true then _ else _) Q E s
       rw[if_neg<|by intro h;rw[hn,zR]at h;cases h]
       exact zu hQ))
noncomputable def ZW(K:Frag)(a:Addr):It:={λi H=>∃xs x,iU K H a xs/\xs[i]?=some x,λi H x H'=>H'=H/\∀xs,iU K H a xs->xs[i]?=some x,λi H=>∃xs,iU K H a xs/\xs.length<=i}
noncomputable def ZX(K:Frag)(a:Addr):It:={λi H=>∃xs x,iq K H a xs/\xs[i]?=some x,λi H x H'=>H'=H/\∀xs,iq K H a xs->xs[i]?=some x,λi H=>∃xs,iq K H a xs/\xs.length<=i}
noncomputable def Vz(lo:Int)(n:Nat):It:={λi _=>i<n,λi H x H'=>H'=H/\x=.int (lo+i),λi _=>n<=i}
theorem Ei{P:Program}{w:World}{K:Frag}{tg:Expr}(a it:Addr):Turn P w K tg (ZW K a) [it] it (λi h=>h.IsListIter it a i) where
 mem:=by simp
 obj:=λi h st b hb=>by
  have e:b=it:=by simpa using hb
  subst e
  obtain⟨o,e,c,d⟩:=st
  exact{o,e,λv z=>by rw[d]at z;cases z}
 keep:=λi h h' st k=>st.at λo e=>k it (by simp) o e
 item:=by
  intro X hP hw hK hc i pins s σ H E I hf st hg
  subst hP hw hK
  obtain⟨xs,x,hq,hx⟩:=hg
  obtain⟨ay,rv,p,hz⟩:=I.list hq
  obtain⟨u,hu,ru⟩:=rv.get hx
  obtain⟨f0,f1,f2,f3,f4,f5⟩:=hf it<|by simp
  refine wpAny_pyNext_list_item st p.isList (x:=u) (by simpa using hu) λh' eO sb=>?_
  have I1:Inv X pins σ H {s with heap:=h'}:=I.turned (t':=s.toks) (λb o hb e=>(sb.2 b hb).trans e) f0 f1 f3 f4 f5
  obtain⟨o,e,c,d⟩:=id eO
  exact{u,rfl,tG (s:={s with heap:=h'}) e c d (by decide) {x,H,I1,ru,{rfl,λys hy=>by rw[I.wO hy hq];exact hx},eO,λb hb=>(hf b hb).1}}
 done:=by
  intro X hP hw hK hc i pins s σ H E I hf st hg
  subst hP hw hK
  obtain⟨xs,hq,hx⟩:=hg
  obtain⟨ay,rv,p,hz⟩:=I.list hq
  obtain⟨f0,f1,f2,f3,f4,f5⟩:=hf it<|by simp
  have hl:=rv.length
  exact wpAny_pyNext_list_end (I.ok.hd hc) st p.isList (by simp;lia) λh' eb=>{rfl,I.turned (t':=s.toks) (λb o hb e=>eb b o hb e) f0 f1 f3 f4 f5}
 self:=λ_ _ _ _ _ st h=>wpAny_pyIter_listiter st h
theorem Ar{P:Program}{w:World}{K:Frag}{tg:Expr}(a it:Addr):Turn P w K tg (ZX K a) [it] it (λi h=>h.IsTupleIter it a i) where
 mem:=by simp
 obj:=λi h st b hb=>by
  have e:b=it:=by simpa using hb
  subst e
  obtain⟨o,e,c,d⟩:=st
  exact{o,e,λv z=>by rw[d]at z;cases z}
 keep:=λi h h' st k=>st.at λo e=>k it (by simp) o e
 item:=by
  intro X hP hw hK hc i pins s σ H E I hf st hg
  subst hP hw hK
  obtain⟨xs,x,hq,hx⟩:=hg
  obtain⟨ay,rv,p,hz⟩:=I.tuple hq
  obtain⟨u,hu,ru⟩:=rv.get hx
  obtain⟨f0,f1,f2,f3,f4,f5⟩:=hf it<|by simp
  refine wpAny_pyNext_tuple_item st (show s.heap.IsTuple a ay.toArray from p) (x:=u) (by simpa using hu) λh' eO sb=>?_
  have I1:Inv X pins σ H {s with heap:=h'}:=I.turned (t':=s.toks) (λb o hb e=>(sb.2 b hb).trans e) f0 f1 f3 f4 f5
  obtain⟨o,e,c,d⟩:=id eO
  exact{u,rfl,tG (s:={s with heap:=h'}) e c d (by decide) {x,H,I1,ru,{rfl,λys hy=>by rw[I.mR hy hq];exact hx},eO,λb hb=>(hf b hb).1}}
 done:=by
  intro X hP hw hK hc i pins s σ H E I hf st hg
  subst hP hw hK
  obtain⟨xs,hq,hx⟩:=hg
  obtain⟨ay,rv,p,hz⟩:=I.tuple hq
  obtain⟨f0,f1,f2,f3,f4,f5⟩:=hf it<|by simp
  have hl:=rv.length
  exact wpAny_pyNext_tuple_end (I.ok.hd hc) st (show s.heap.IsTuple a ay.toArray from p) (by simp;lia) λh' eb=>{rfl,I.turned (t':=s.toks) (λb o hb e=>eb b o hb e) f0 f1 f3 f4 f5}
 self:=λ_ _ _ _ _ st h=>wpAny_pyIter_tupleiter st h
theorem As{P:Program}{w:World}{K:Frag}{tg:Expr}(it:Addr)(lo:Int)(n:Nat):Turn P w K tg (Vz lo n) [it] it (λi h=>IsRangeIter h it (lo+(i:Nat)*1) ((n:Int)-(i:Nat)) 1) where
 mem:=by simp
 obj:=λi h st b hb=>by
  have e:b=it:=by simpa using hb
  subst e
  exact⟨_,st,λv z=>by
   have z':Data.fields _=Data.cell v:=z
   cases z'⟩
 keep:=λi h h' st k=>k it (by simp) _ st
 item:=by
  intro X hP hw hK hc i pins s σ H E I hf st hg
  subst hP hw hK
  obtain⟨f0,f1,f2,f3,f4,f5⟩:=hf it<|by simp
  have W:=Walks.range (prog:=X.prog) (w:=X.w) (I.ok.hd hc) it lo 1 n
  refine W.item i s _ _ hg st λv h' tk hv eO kk=>?_
  obtain⟨t,rfl⟩:=hv
  have I1:Inv X pins σ H {s with heap:=h',toks:=tk}:=I.turned (λb o hb e=>kk b o (by simpa using hb) e) f0 f1 f3 f4 f5
  refine{_,rfl,tG (s:={s with heap:=h',toks:=tk}) (n:="range_iterator") eO rfl rfl (by decide) {.int<|lo+i,H,I1,{t,?_},⟨rfl,rfl⟩,eO,λb hb=>(hf b hb).1}}
  rw[Int.mul_one]
 done:=by
  intro X hP hw hK hc i pins s σ H E I hf st hg
  subst hP hw hK
  obtain⟨f0,f1,f2,f3,f4,f5⟩:=hf it<|by simp
  exact wpAny_pyNext_range_end (I.ok.hd hc) st (by have:n<=i:=hg;lia) λh' eb=>{rfl,I.turned (t':=s.toks) (λb o hb e=>eb b o hb e) f0 f1 f3 f4 f5}
 self:=λ_ _ _ _ _ st h=>wpAny_pyIter_rangeiter st h
section
variable{X:Cx}{tg:Expr}
def RC(K:Frag)(tl:TE):TI:=λσ H R=>tl σ H λx H1=>∃a,x=.ref a/\(∃xs,iU K H1 a xs)/\R (ZW K a) H1
def WE(K:Frag)(tl:TE):TI:=λσ H R=>tl σ H λx H1=>∃a,x=.ref a/\(∃xs,iq K H1 a xs)/\R (ZX K a) H1
theorem JT{l:Expr}{tl:TE}(hl:PE X l tl):PI X tg l (RC X.K tl):=by
 intro pins s σ H R I h;refine bf (hl pins s σ H _ I h) λv s1 ⟨x,H1,I1,r1,q1⟩=>?_;obtain⟨a,e,⟨xs,hq⟩,q⟩:=q1;subst e;cases r1;obtain⟨ay,rv,p,hz⟩:=I1.list hq;refine wpAny_pyIter_list p.isList ?_;refine{s1.heap.objs.size,[s1.heap.objs.size],_,_,H1,rfl,I1.kept (t':=s1.toks) λb o e=>za _ e,Ei a _,{_,zj _ rfl,rfl,rfl},λb hb=>?_,q};have e:b=s1.heap.objs.size:=by simpa using hb
 subst e;exact I1.o_ (zk _)<|I1.aH.fresh<|zk _
theorem NK{l:Expr}{tl:TE}(hl:PE X l tl):PI X tg l (WE X.K tl):=by
 intro pins s σ H R I h;refine bf (hl pins s σ H _ I h) λv s1 ⟨x,H1,I1,r1,q1⟩=>?_;obtain⟨a,e,⟨xs,hq⟩,q⟩:=q1;subst e;cases r1;obtain⟨ay,rv,p,hz⟩:=I1.tuple hq;refine wpAny_pyIter_tuple (show s1.heap.IsTuple a ay.toArray from p) ?_;refine{s1.heap.objs.size,[s1.heap.objs.size],_,_,H1,rfl,I1.kept (t':=s1.toks) λb o e=>za _ e,Ar a _,{_,zj _ rfl,rfl,rfl},λb hb=>?_,q};have e:b=s1.heap.objs.size:=by simpa using hb
 subst e;exact I1.o_ (zk _)<|I1.aH.fresh<|zk _
theorem Gx{pins:List<|Addr×Obj}{σ:St}{H:Hp}{s:Shared}{R:It->Hp->Prop}{E:Value->Shared->Prop}{lo hi:Int}{t u v:Tok}{tk:Nat}(I:Inv X pins σ H s)(h1:-(2^62)<=lo)(h2:lo<2^62)(h3:-(2^62)<=hi)(h4:hi<2^62) (q:R (Vz lo (hi-lo).toNat) H):wpAny (model X.prog X.w) X.A (pyIter<|.ref s.heap.objs.size) (WD X pins σ tg R) E {s with heap:=s.heap.push {cls:=.type "range",data:=.fields #[.int lo t,.int hi u,.int 1 v]},toks:=tk}:=by
 refine wpAny_pyIter_range (IsRange.new ..) (small_one h1 h2 h3 h4) ?_;have I1:Inv X pins σ H {s with heap:=s.heap.push {cls:=.type "range",data:=.fields #[.int lo t,.int hi u,.int 1 v]},toks:=tk}:=I.kept λb o e=>za _ e;refine{(s.heap.push {cls:=.type "range",data:=.fields #[.int lo t,.int hi u,.int 1 v]}).objs.size,[(s.heap.push {cls:=.type "range",data:=.fields #[.int lo t,.int hi u,.int 1 v]}).objs.size],_,_,H,rfl,I1.kept (t':=tk) λb o e=>za _ e,As _ lo (hi-lo).toNat,?_,λb hb=>?_,q};have e1:lo+((0:Nat):Int)*1=lo:=by simp
 have e2:(((hi-lo).toNat:Nat):Int)-((0:Nat):Int)=Builtin.Range.rangeSize lo hi 1:=by rw[rangeSize_one];split<;>lia
 show IsRangeIter _ _ (lo+((0:Nat):Int)*1) ((((hi-lo).toNat:Nat):Int)-((0:Nat):Int)) 1;rw[e1,e2];exact zj _ rfl;have e:b=(s.heap.push {cls:=.type "range",data:=.fields #[.int lo t,.int hi u,.int 1 v]}).objs.size:=by simpa using hb
 subst e;exact I1.o_ (zk _)<|I1.aH.fresh<|zk _
def RD(ta:TA):TI:=λσ H R=>ta σ H λvs H1=>∃j:Int,vs=[.int j]/\-(2^62)<=j/\j<2^62/\R (Vz 0 j.toNat) H1
theorem Ej{a:Expr}{ta:TA}{p pos:Pos}(hg:Gl X "range")(hm:X.mg "range"= none)(ha:PA X [a] ta)(hs:autoParam (starEach [a] X.env=[(false,eval a X.env)]) qQJ):PI X tg (.Call (.Name "range" p) [a] [] pos) (RD ta):=by intro pins s σ H R I h;refine Call_<|gr I hg hm boot_range<|PyProof.Rows.callWith_type1 (bf (ha pos pins s σ H _ I h) λus s1 ⟨vs,H1,I1,r1,q1⟩=>?_) hs rfl;obtain⟨j,e,q1,q2,q⟩:=q1;subst e;cases r1 with|cons r rr=>cases rr;obtain⟨t,rfl⟩:=r;exact call_range_1<|Gx I1 (by lia) (by lia) q1 q2<|by simpa using q
def WG(wi:TI)(g:TG)(tb:TS):TS:=λD σ H=>wi σ H λJ H1=>∃W:Nat->Nat->St->Hp->Prop,(∃m,W 0 m σ H1)/\∀i m σ H,W i m σ H->(J.stop i H/\D.nx σ H)\/(J.go i H/\∃N:St->Hp->Prop,(∀aC H',N aC H'->∃m',m'<m/\W (i+1) m' aC H')/\∀x H',J.RB i H x H'->g x σ H' λpM H2=>tb {D with nx:=N,ct:=N,bk:=D.nx} pM H2)
noncomputable def p8(fp:List Addr)(h:Heap):List (Addr×Obj):=fp.filterMap λb=>(h.get? b).map λo=>(b,o)
theorem g8(hb:b∈fp)(e:h.get? b=some o):(b,o)∈p8 fp h:=List.mem_filterMap.mpr {b,hb,by rw[e];rfl}
theorem Ek(hp:p∈p8 fp h):p.1∈fp/\h.get? p.1=some p.2:=by obtain⟨b,hb,e⟩:=List.mem_filterMap.mp hp;cases q:h.get? b with|none=>(rw[q]at e;cases e)|some o=>rw[q]at e;have e':(b,o)=p:=zP e;subst e';exact⟨hb,q⟩
theorem Inv.pinned(I:Inv X pins σ H s)(hf:∀b∈fp,sx X pins H b)(ho:∀b∈fp,∃o,s.heap.get? b=some o/\∀v,o.data≠.cell v):Inv X (pins++p8 fp s.heap) σ H s:=I.lJ λp hp=>(zJ.mp hp).elim (λz=>I.pin p<|zw _ z) λz=>by obtain⟨hb,e⟩:=Ek z;obtain⟨f0,f1,f2,_⟩:=hf p.1 hb;obtain⟨o,e',d⟩:=ho p.1 hb;rw[e]at e';cases e';exact⟨e,f0,f1,f2,d⟩
theorem Inv.p9(I:Inv X (pins++pl) σ H s):Inv X pins σ H s:=I.lJ λp hp=>I.pin p<|zw _<|zQ _ hp
theorem NL(hp:PassesOwn (model X.prog X.w) X.A X.env X.xe)(hc:X.calm=true)(hi:PI X tg iter wi)(hg:PG X tg g)(hb:Ap X body tb) (hs:autoParam (∀x,foldedSetIterable iter X.env x=pure x) qQ0):PS X (.For tg iter body [] pos) (WG wi g tb):=by intro pins s σ H D I h;refine wpAny_For (bf (hi pins s σ H _ I h) λv s1 h1=>bf h1 λVy s2 h2=>?_) hs;obtain⟨it,fp,tn,J,H2,e,I2,T,RE,f2,W,⟨m0,w0⟩,turn⟩:=h2;subst e;have NM:∀{H':Hp},(∀b∈fp,H' b=none)->∀b∈fp,sx X pins H' b:=λhn b hb=>{hn b hb,(f2 b hb).2};refine codeAny_forLoop_any (λn s'=>∃i aC H',Inv X pins aC H' s'/\tn i s'.heap/\(∀b∈fp,H' b=none)/\W i n aC H') ?_ m0 {0,σ,H2,I2,RE,λb hb=>(f2 b hb).1,w0};rintro n s3 ⟨i,iK,H3,I3,RF,RG,w3⟩;rcases turn i n iK H3 w3 with⟨stop,qn⟩|⟨go,N,hN,step⟩;refine wpAny_passesOwn hp<|bf (T.done X rfl rfl rfl hc i pins s3 iK H3 X.xe I3 (NM RG) RF stop) λr s4 ⟨hr,I4⟩=>?_;subst hr;exact wpAny_execs_nil ⟨iK,H3,I4,qn⟩;{refine wpAny_passesOwn hp<|bf (T.item X rfl rfl rfl hc i pins s3 iK H3 X.xe I3 (NM RG) RF go) λr s4 ⟨u,hr,h4⟩=>?_;subst hr;refine wpAny_passesOwn hp<|bf h4 λ_ s5 ⟨x,H5,I5,r5,y5,st5,fr5⟩=>?_;have WH:=I5.pinned (NM fr5)<|T.obj _ _ st5;refine wpAny_passesOwn hp<|bf (hg _ s5 iK H5 x u _ WH r5<|step x H5 y5) λ_ s6 ⟨RH,H6,I6,q6⟩=>?_;refine wpAny_passesOwn hp<|bf (hb _ s6 RH H6 _ I6 q6) λf s7 q7=>?_;have again:∀{Gy:St}{H7:Hp},Inv X (pins++p8 fp s5.heap) Gy H7 s7->N Gy H7->∃m,m<n/\∃i aC H',Inv X pins aC H' s7/\tn i s7.heap/\(∀b∈fp,H' b=none)/\W i m aC H':=λ{Gy H7} I7 n7=>(by obtain⟨m',hm,w7⟩:=hN Gy H7 n7;refine{m',hm,i+1,Gy,H7,I7.p9,T.keep _ _ _ st5 λb hb o e=>(I7.pin (b,o)<|zw _<|zw _<|g8 hb e).1,λb hb=>?_,w7};obtain⟨o,e,d⟩:=T.obj _ _ st5 b hb;exact(I7.pin (b,o)<|zw _<|zw _<|g8 hb e).2.1);cases f with|next=>(obtain⟨Gy,H7,I7,n7⟩:=q7;exact again I7 n7)|cont=>(obtain⟨Gy,H7,I7,n7⟩:=q7;exact again I7 n7)|brk=>(obtain⟨Gy,H7,I7,q7⟩:=q7;exact⟨Gy,H7,I7.p9,q7⟩)|ret v=>obtain⟨x7,Gy,H7,I7,r7,q7⟩:=q7;exact⟨x7,Gy,H7,I7.p9,r7,q7⟩}
end
abbrev R2:=V->V->Hp->VK->Prop
def g9(X:Cx)(f:Value->Value->Sem Value)(r:R2):Prop:=∀(pins:List (Addr×Obj))(s:Shared)(σ:St)(H:Hp)(x y:V)(v u:Value)(Q:VK),Inv X pins σ H s->RelV x v->RelV y u->r x y H Q->wpAny (model X.prog X.w) X.A (f v u) (EP X pins σ Q) X.xe s
def WI(X:Cx)(f:Value->Sem Value)(r:V->Hp->VK->Prop):Prop:=∀(pins:List (Addr×Obj))(s:Shared)(σ:St)(H:Hp)(x:V)(v:Value)(Q:VK),Inv X pins σ H s->RelV x v->r x H Q->wpAny (model X.prog X.w) X.A (f v) (EP X pins σ Q) X.xe s
def cS(X:Cx)(f:Value)(r:List V->Hp->VK->Prop):Prop:=∀(pins:List (Addr×Obj))(s:Shared)(σ:St)(H:Hp)(xs:List V)(us:List Value)(Q:VK),Inv X pins σ H s->Vals xs us->r xs H Q->wpAny (model X.prog X.w) X.A (call f us) (EP X pins σ Q) X.xe s
def QB(r:R2)(ta tb:TE):TE:=λσ H Q=>ta σ H λx H1=>tb σ H1 λy H2=>r x y H2 Q
def tUn(r:V->Hp->VK->Prop)(ta:TE):TE:=λσ H Q=>ta σ H λx H1=>r x H1 Q
def rI(C:Int->Int->Prop)(g:Int->Int->V):R2:=λx y H Q=>∃i j,x=.int i/\y=.int j/\C i j/\Q (g i j) H
def JU(g:Int->Int->V):R2:=λx y H Q=>∃i j,x=.int i/\y=.int j/\Q (g i j) H
def rU(g:Int->V):V->Hp->VK->Prop:=λx H Q=>∃i,x=.int i/\Q (g i) H
section
variable{X:Cx}{a b:Expr}{ta tb:TE}{pos:Pos}
theorem NN(ha:PE X a ta)(hb:PE X b tb){pins:List<|Addr×Obj}{s:Shared}{σ:St}{H:Hp}{R:V->V->Hp->Prop}(I:Inv X pins σ H s) (h:ta σ H λx H1=>tb σ H1 λy H2=>R x y H2) {Q:Value->Shared->Prop}{f:Value->Value->Sem Value} (hf:∀v u s2 x y H2,Inv X pins σ H2 s2->RelV x v->RelV y u->R x y H2->wpAny (model X.prog X.w) X.A (f v u) Q X.xe s2): wpAny (model X.prog X.w) X.A (eval a X.env) (λv aW=>wpAny (model X.prog X.w) X.A (eval b X.env) (λu bL=>wpAny (model X.prog X.w) X.A (f v u) Q X.xe bL) X.xe aW) X.xe s:=by refine bf (ha pins s σ H _ I h) λv s1 ⟨x,H1,I1,r1,q1⟩=>?_;refine bf (hb pins s1 σ H1 _ I1 q1) λu s2 ⟨y,H2,I2,r2,q2⟩=>?_;exact hf v u s2 x y H2 I2 r1 r2 q2
theorem RJ{op:Operator}{r:R2}(ho:g9 X (binaryOp op) r)(ha:PE X a ta)(hb:PE X b tb):PE X (.BinOp a op b pos) (QB r ta tb):=by intro pins s σ H Q I h;exact wpAny_BinOp<|NN ha hb I h λv u s2 x y H2 I2 rx ry q=>ho pins s2 σ H2 x y v u Q I2 rx ry q
theorem Ml(ho:WI X (unaryOp op) r)(ha:PE X a ta):PE X (.UnaryOp op a pos) (tUn r ta):=by intro pins s σ H Q I h;exact UnaryOp_<|bf (ha pins s σ H _ I h) <| by rintro v s1 ⟨x,H1,I1,r1,q1⟩;exact ho pins s1 σ H1 x v Q I1 r1 q1
theorem VA{f:Value->Value->Sem Value}{C:Int->Int->Prop}{g:Int->Int->Int} (rule:∀(i j:Int)(t u:Tok)(s:Shared)(Q:Value->Shared->Prop)(E:Value->Shared->Prop),C i j->Q (.int (g i j) s.toks) {s with toks:=s.toks+1}->wpAny (model X.prog X.w) X.A (f (.int i t)<|.int j u) Q E s): g9 X f (rI C λi j=>.int<|g i j):=by intro pins s σ H x y v u Q I rx ry h;obtain⟨i,j,rfl,rfl,hc,q⟩:=h;obtain⟨t,rfl⟩:=rx;obtain⟨t',rfl⟩:=ry;exact rule i j t t' s _ _ hc {.int<|g i j,H,I.tok _,{_,rfl},q}
theorem RK{f:Value->Value->Sem Value}{g:Int->Int->Int} (rule:∀(i j:Int)(t u:Tok)(s:Shared)(Q:Value->Shared->Prop)(E:Value->Shared->Prop),Q (.int (g i j) s.toks) {s with toks:=s.toks+1}->wpAny (model X.prog X.w) X.A (f (.int i t)<|.int j u) Q E s): g9 X f (JU λi j=>.int<|g i j):=by intro pins s σ H x y v u Q I rx ry h;obtain⟨i,j,rfl,rfl,q⟩:=h;obtain⟨t,rfl⟩:=rx;obtain⟨t',rfl⟩:=ry;exact rule i j t t' s _ _ {.int<|g i j,H,I.tok _,{_,rfl},q}
theorem JV{f:Value->Value->Sem Value}{g:Int->Int->Bool} (rule:∀(i j:Int)(t u:Tok)(s:Shared)(Q:Value->Shared->Prop)(E:Value->Shared->Prop),Q (.bool<|g i j) s->wpAny (model X.prog X.w) X.A (f (.int i t)<|.int j u) Q E s): g9 X f (JU λi j=>.bl<|g i j):=by intro pins s σ H x y v u Q I rx ry h;obtain⟨i,j,rfl,rfl,q⟩:=h;obtain⟨t,rfl⟩:=rx;obtain⟨t',rfl⟩:=ry;exact rule i j t t' s _ _ {.bl<|g i j,H,I,rfl,q}
def RL(i j:Int):Prop:=0<=j/\j<=1000000/\i.natAbs<2^64
def JW(i j:Int):Prop:=(-(2^64)<i/\i<2^64)\/(-(2^64)<j/\j<2^64)
theorem JW.ok{i j:Int}(h:JW i j):IntMulOk i j:=by rcases h with⟨h1,h2⟩|⟨h1,h2⟩;exact .of_left<|intBits_le_64 h1 h2;exact .of_right<|intBits_le_64 h1 h2
theorem NO:g9 X (binaryOp .Add) (JU λi j=>.int<|i+j):=RK λ_ _ _ _ _ _ _ q=>add_int q
theorem NP:g9 X (binaryOp .Sub) (JU λi j=>.int<|i-j):=RK λ_ _ _ _ _ _ _ q=>sub_int q
theorem NQ:g9 X (binaryOp .Mult) (rI JW λi j=>.int<|i*j):=VA λ_ _ _ _ _ _ _ hc q=>mul_int q hc.ok
theorem NR:g9 X (binaryOp .Mod) (rI (λ_ j=>0<j) λi j=>.int<|i%j):=VA λi j _ _ _ _ _ hc q=>by have h1:(0:Int)<j:=hc;exact mod_int' (by lia)<|by rw[Int.fmod_eq_emod_of_nonneg i<|by lia];exact q
theorem NS:g9 X (binaryOp .Pow) (rI RL λi j=>.int<|i^j.toNat):=VA λ_ _ _ _ _ _ _ hc q=>pow_int_small hc.1 hc.2.1 hc.2.2 q
theorem unI{f:Value->Sem Value}{g:Int->Int} (rule:∀(i:Int)(t:Tok)(s:Shared)(Q:Value->Shared->Prop)(E:Value->Shared->Prop),Q (.int (g i) s.toks) {s with toks:=s.toks+1}->wpAny (model X.prog X.w) X.A (f<|.int i t) Q E s): WI X f (rU λi=>.int<|g i):=by intro pins s σ H x v Q I rx h;obtain⟨i,rfl,q⟩:=h;obtain⟨t,rfl⟩:=rx;exact rule i t s _ _ {.int<|g i,H,I.tok _,{_,rfl},q}
theorem Gz:WI X (unaryOp .USub) (rU λi=>.int (-i)):=unI λ_ _ _ _ _ q=>neg_int q
end
noncomputable def RM:V->V->Bool|.ax,.ax=>true|.ax,.int _=>true|.int _,.ax=>true|.ax,.bl _=>true|.bl _,.ax=>true|.ax,.str _=>true|.str _,.ax=>true|.int _,.int _=>true|.bl _,.bl _=>true|.str _,.str _=>true|.Ct _,.Ct _=>true|.int _,.str _=>true|.str _,.int _=>true|.bl _,.str _=>true|.str _,.bl _=>true|_,_=>false
def rEq:R2:=λx y H Q=>RM x y=true/\Q (.bl<|decide<|x=y) H
def rNe:R2:=λx y H Q=>RM x y=true/\Q (.bl<|!decide (x=y)) H
theorem Cz:decide (V.int i=V.int j)=(i==j):=by rw[yw];simp
theorem GA:decide (V.bl i=V.bl j)=(i==j):=by rw[yw];simp
theorem CA:decide (V.str i=V.str j)=(i==j):=by rw[yw];simp
theorem CB:decide (V.Ct i=V.Ct j)=(i.toList==j.toList):=by rw[yw];cases i;cases j;simp
section
variable{X:Cx}{a b c:Expr}{ta tb tc:TE}{pos:Pos}
theorem aI(I:Inv X pins σ H s)(q:Q (.bl k) H)(e:k=k'):EP X pins σ Q (.bool k') s:=by subst e;exact{.bl k,H,I,rfl,q}
theorem Mm:g9 X (compareOp .Eq) rEq:=by intro pins s σ H x y v u Q I rx ry h;obtain⟨hs,q⟩:=h;cases x with|ax=>(cases rx;cases y with|ax=>(cases ry;exact PySem.EqNone.eq_none_none<|aI I q<|by simp)|bl j=>(cases ry;exact PySem.EqNone.eq_none_bool<|aI I q<|by simp)|int j=>(obtain⟨t',rfl⟩:=ry;exact PySem.EqNone.eq_none_int<|aI I q<|by simp)|str j=>(obtain⟨t',rfl⟩:=ry;exact PySem.EqNone.eq_none_str<|aI I q<|by simp)|_=>exact absurd (show false=true from hs) zd)|bl i=>(cases rx;cases y with|ax=>(cases ry;exact PySem.EqNone.eq_bool_none<|aI I q<|by simp)|bl j=>(cases ry;exact eq_bool<|aI I q GA)|str j=>(obtain⟨t',rfl⟩:=ry;exact PySem.EqMixed.eq_bool_str<|aI I q<|by simp)|_=>exact absurd (show false=true from hs) zd)|int i=>(obtain⟨t,rfl⟩:=rx;cases y with|ax=>(cases ry;exact PySem.EqNone.eq_int_none<|aI I q<|by simp)|int j=>(obtain⟨t',rfl⟩:=ry;exact eq_int<|aI I q Cz)|str j=>(obtain⟨t',rfl⟩:=ry;exact PySem.EqMixed.eq_int_str<|aI I q<|by simp)|_=>exact absurd (show false=true from hs) zd)|str i=>(obtain⟨t,rfl⟩:=rx;cases y with|ax=>(cases ry;exact PySem.EqNone.eq_str_none<|aI I q<|by simp)|bl j=>(cases ry;exact PySem.EqMixed.eq_str_bool<|aI I q<|by simp)|int j=>(obtain⟨t',rfl⟩:=ry;exact PySem.EqMixed.eq_str_int<|aI I q<|by simp)|str j=>(obtain⟨t',rfl⟩:=ry;exact eq_str<|aI I q CA)|_=>exact absurd (show false=true from hs) zd)|Ct i=>(obtain⟨t,rfl⟩:=rx;cases y with|Ct j=>(obtain⟨t',rfl⟩:=ry;exact PySem.W.eq_bytes<|aI I q CB)|_=>exact absurd (show false=true from hs) zd)|_=>cases y<;>exact absurd (show false=true from hs) zd
theorem Mn:g9 X (compareOp .NotEq) rNe:=by intro pins s σ H x y v u Q I rx ry h;obtain⟨hs,q⟩:=h;cases x with|ax=>(cases rx;cases y with|ax=>(cases ry;exact PySem.EqNone.ne_none_none<|aI I q<|by simp)|bl j=>(cases ry;exact PySem.EqNone.ne_none_bool<|aI I q<|by simp)|int j=>(obtain⟨t',rfl⟩:=ry;exact PySem.EqNone.ne_none_int<|aI I q<|by simp)|str j=>(obtain⟨t',rfl⟩:=ry;exact PySem.EqNone.ne_none_str<|aI I q<|by simp)|_=>exact absurd (show false=true from hs) zd)|bl i=>(cases rx;cases y with|ax=>(cases ry;exact PySem.EqNone.ne_bool_none<|aI I q<|by simp)|bl j=>(cases ry;exact ne_bool<|aI I q<|congrArg not GA)|str j=>(obtain⟨t',rfl⟩:=ry;exact PySem.EqMixed.ne_bool_str<|aI I q<|by simp)|_=>exact absurd (show false=true from hs) zd)|int i=>(obtain⟨t,rfl⟩:=rx;cases y with|ax=>(cases ry;exact PySem.EqNone.ne_int_none<|aI I q<|by simp)|int j=>(obtain⟨t',rfl⟩:=ry;exact ne_int<|aI I q<|congrArg not Cz)|str j=>(obtain⟨t',rfl⟩:=ry;exact PySem.EqMixed.ne_int_str<|aI I q<|by simp)|_=>exact absurd (show false=true from hs) zd)|str i=>(obtain⟨t,rfl⟩:=rx;cases y with|ax=>(cases ry;exact PySem.EqNone.ne_str_none<|aI I q<|by simp)|bl j=>(cases ry;exact PySem.EqMixed.ne_str_bool<|aI I q<|by simp)|int j=>(obtain⟨t',rfl⟩:=ry;exact PySem.EqMixed.ne_str_int<|aI I q<|by simp)|str j=>(obtain⟨t',rfl⟩:=ry;exact ne_str<|aI I q<|congrArg not CA)|_=>exact absurd (show false=true from hs) zd)|Ct i=>(obtain⟨t,rfl⟩:=rx;cases y with|Ct j=>(obtain⟨t',rfl⟩:=ry;exact PySem.W.ne_bytes<|aI I q<|congrArg not CB)|_=>exact absurd (show false=true from hs) zd)|_=>cases y<;>exact absurd (show false=true from hs) zd
theorem RN:g9 X (compareOp .Lt) (JU λi j=>.bl<|decide<|i<j):=JV λ_ _ _ _ _ _ _ q=>lt_int q
theorem RO:g9 X (compareOp .LtE) (JU λi j=>.bl<|decide<|i<=j):=JV λ_ _ _ _ _ _ _ q=>le_int q
theorem RP:g9 X (compareOp .Gt) (JU λi j=>.bl<|decide<|j<i):=JV λ_ _ _ _ _ _ _ q=>gt_int q
theorem RQ:g9 X (compareOp .GtE) (JU λi j=>.bl<|decide<|j<=i):=JV λ_ _ _ _ _ _ _ q=>ge_int q
theorem El:g9 X (compareOp .Lt) (λx y H Q=>∃i j,x=.str i/\y=.str j/\Q (.bl<|decide<|i.cps.toList<j.cps.toList) H):=by intro pins s σ H x y v u Q I rx ry h;obtain⟨i,j,rfl,rfl,q⟩:=h;obtain⟨t,rfl⟩:=rx;obtain⟨t',rfl⟩:=ry;exact lt_str<|aI I q rfl
theorem Em:g9 X (compareOp .In) (λx y H Q=>∃i j,x=.str i/\y=.str j/\Q (.bl<|!(Builtin.Str.occurrences j i 0 j.length 1).isEmpty) H):=by intro pins s σ H x y v u Q I rx ry h;obtain⟨i,j,rfl,rfl,q⟩:=h;obtain⟨t,rfl⟩:=rx;obtain⟨t',rfl⟩:=ry;exact in_str<|aI I q rfl
theorem NT:g9 X (compareOp .Is) (λx y H Q=>y=.ax/\Q (.bl<|decide<|x=.ax) H):=by intro pins s σ H x y v u Q I rx ry h;obtain⟨rfl,q⟩:=h;cases ry;refine is_none_gen<|aI I q ?_;cases x<;>first| (cases rx;rfl)| (obtain⟨t,rfl⟩:=rx;rfl)
theorem JX:g9 X (compareOp .IsNot) (λx y H Q=>y=.ax/\Q (.bl<|!decide (x=.ax)) H):=by intro pins s σ H x y v u Q I rx ry h;obtain⟨rfl,q⟩:=h;cases ry;refine isnot_none_gen<|aI I q ?_;cases x<;>first| (cases rx;rfl)| (obtain⟨t,rfl⟩:=rx;rfl)
theorem WJ(b:Expr)(h:autoParam (op≠.In) qQZ)(h2:autoParam (op≠.NotIn) qQZ):behindInMarks op b=false:=by
 have e1:(op==CmpOp.In)=false:=by cases op<;>first|rfl|exact absurd rfl h
 have e2:(op==CmpOp.NotIn)=false:=by cases op<;>first|rfl|exact absurd rfl h2
 cases b<;>simp[behindInMarks,e1,e2]
theorem CC{op:CmpOp}{r:R2}(ho:g9 X (compareOp op) r)(ha:PE X a ta)(hb:PE X b tb)(hm:behindInMarks op b=false):PE X (.Compare a [op] [b] pos) (QB r ta tb):=by intro pins s σ H Q I h;exact wpAny_Compare1 (NN ha hb I h λv u s2 x y H2 I2 rx ry q=>ho pins s2 σ H2 x y v u Q I2 rx ry q) hm
def GB(t:TE):TT:=λσ H Q=>t σ H λx H'=>∃k,x=.bl k/\Q k H'
theorem JY{op:CmpOp}{r:R2}(ho:g9 X (compareOp op) r)(ha:PE X a ta)(hb:PE X b tb)(hm:behindInMarks op b=false):PT X (.Compare a [op] [b] pos) (GB<|QB r ta tb):=by intro pins s σ H Q I h;refine wpAny_isTrue_Compare1 (bf (ha pins s σ H _ I h) λv s1 ⟨x,H1,I1,r1,q1⟩=>bf (hb pins s1 σ H1 _ I1 q1) λu s2 ⟨y,H2,I2,r2,q2⟩=>bf (ho pins s2 σ H2 x y v u _ I2 r1 r2 q2) λc s3 ⟨z,H3,I3,r3,k,e,q3⟩=>?_) hm;subst e;cases r3;exact yo ⟨H3,I3,q3⟩
def Au(r r':R2)(ta tb tc:TE):TE:=λσ H Q=>ta σ H λx H1=>tb σ H1 λy H2=>r x y H2 λz H3=>∃k,z=.bl k/\(if k=true then tc σ H3 λw' H4=>r' y w' H4 Q else Q (.bl false) H3)
theorem GC{op Eo:CmpOp}{r r':R2}(ho:g9 X (compareOp op) r)(Am:g9 X (compareOp Eo) r')(ha:PE X a ta)(hb:PE X b tb)(hc:PE X c tc) (hm:autoParam (lastMarks [op,Eo] [b,c]=false) qQ2):PE X (.Compare a [op,Eo] [b,c] pos) (Au r r' ta tb tc):=by intro pins s σ H Q I h;refine Compare_chain (bf (ha pins s σ H _ I h) λv s1 ⟨x,H1,I1,r1,q1⟩=>chain_link<|bf (hb pins s1 σ H1 _ I1 q1) λu s2 ⟨y,H2,I2,r2,q2⟩=>bf (ho pins s2 σ H2 x y v u _ I2 r1 r2 q2) λd s3 ⟨z,H3,I3,r3,k,e,q3⟩=>?_) hm;subst e;cases r3;refine yo ?_;cases k with|false=>exact ite_ff {.bl false,H3,I3,rfl,q3}|true=>exact ite_tt<|chain_last<|bf (hc pins s3 σ H3 _ I3 q3) λw' s4 ⟨z',H4,I4,r4,q4⟩=>Am pins s4 σ H4 y z' u w' Q I4 r2 r4 q4
theorem GF{op Eo:CmpOp}{r r':R2}(ho:g9 X (compareOp op) r)(Am:g9 X (compareOp Eo) r')(ha:PE X a ta)(hb:PE X b tb)(hc:PE X c tc) (hm:autoParam (lastMarks [op,Eo] [b,c]=false) qQ2):PT X (.Compare a [op,Eo] [b,c] pos) (GB<|Au r r' ta tb tc):=by intro pins s σ H Q I h;refine isTrue_chain (bf (ha pins s σ H _ I h) λv s1 ⟨x,H1,I1,r1,q1⟩=>test_link<|bf (hb pins s1 σ H1 _ I1 q1) λu s2 ⟨y,H2,I2,r2,q2⟩=>bf (ho pins s2 σ H2 x y v u _ I2 r1 r2 q2) λd s3 ⟨z,H3,I3,r3,k,e,q3⟩=>?_) hm;subst e;cases r3;refine yo ?_;cases k with|false=>(obtain⟨k',e',q'⟩:=q3;cases e';exact ite_ff ⟨H3,I3,q'⟩)|true=>refine ite_tt<|test_last<|bf (hc pins s3 σ H3 _ I3 q3) λw' s4 ⟨z',H4,I4,r4,q4⟩=>bf (Am pins s4 σ H4 y z' u w' _ I4 r2 r4 q4) λd' s5 ⟨z2,H5,I5,r5,k2,e2,q5⟩=>?_;subst e2;cases r5;exact yo ⟨H5,I5,q5⟩
theorem p_:(sizeLine:Nat)<2^63:=by rw[zZ];decide
theorem Av:g9 X (binaryOp .Add) (λx y H Q=>∃i j,x=.str i/\y=.str j/\i.length+j.length<=sizeLine/\Q (.str<|i++j) H):=by intro pins s σ H x y v u Q I rx ry h;obtain⟨i,j,rfl,rfl,hz,q⟩:=h;obtain⟨t,rfl⟩:=rx;obtain⟨t',rfl⟩:=ry;exact add_str (λt' tk=>{.str<|i++j,H,I.tok _,{_,rfl},q}) hz
theorem vals1(r:Vals [x] us):∃u,us=[u]/\RelV x u:=by cases r with|cons r1 r2=>cases r2;exact{_,rfl,r1}
theorem vals2(r:Vals [x,y] us):∃u w',us=[u,w']/\RelV x u/\RelV y w':=by cases r with|cons r1 r2=>cases r2 with|cons r3 r4=>cases r4;exact{_,_,rfl,r1,r3}
theorem Ep(hc:X.calm=true):cS X (.builtin "max") (λxs H Q=>∃i j,xs=[.int i,.int j]/\Q (.int<|if j>i then j else i) H):=by intro pins s σ H xs us Q I r h;obtain⟨i,j,rfl,q⟩:=h;obtain⟨u,w',rfl,⟨t,rfl⟩,⟨t',rfl⟩⟩:=vals2 r;refine max_two_ints (I.ok.hd hc) λh' tk k=>{_,H,I.kept k,?_,q};by_cases hj:j>i;rw[if_pos hj,if_pos hj];exact{_,rfl};rw[if_neg hj,if_neg hj];exact{_,rfl}
theorem Er(hc:X.calm=true):cS X (.builtin "min") (λxs H Q=>∃i j,xs=[.int i,.int j]/\Q (.int<|if j<i then j else i) H):=by intro pins s σ H xs us Q I r h;obtain⟨i,j,rfl,q⟩:=h;obtain⟨u,w',rfl,⟨t,rfl⟩,⟨t',rfl⟩⟩:=vals2 r;refine min_two_ints (I.ok.hd hc) λh' tk k=>{_,H,I.kept k,?_,q};by_cases hj:j<i;rw[if_pos hj,if_pos hj];exact{_,rfl};rw[if_neg hj,if_neg hj];exact{_,rfl}
theorem tH:cS X (.type "int") (λxs H Q=>(∃i,xs=[.int i]/\Q (.int i) H)\/∃k,xs=[.bl k]/\Q (.int<|if k then 1 else 0) H):=by intro pins s σ H xs us Q I r h;rcases h with⟨i,rfl,q⟩|⟨k,rfl,q⟩;obtain⟨u,rfl,t,rfl⟩:=vals1 r;exact call_int_int {.int i,H,I,{_,rfl},q};obtain⟨u,rfl,r1⟩:=vals1 r;cases r1;exact call_int_bool {.int<|if k then 1 else 0,H,I.tok _,{_,rfl},q}
def WK(K:Frag)(x:V)(H:Hp)(n:Nat):Prop:=match x with|.str y=>y.length<=sizeLine/\n=y.length|.Ct y=>y.size<=sizeLine/\n=y.size|.ref p=>(∃xs,iU K H p xs/\n=xs.length)\/∃xs,iq K H p xs/\n=xs.length|_=>False
theorem iY:cS X (.builtin "len") (λxs H Q=>∃x n,xs=[x]/\WK X.K x H n/\Q (.int n) H):=by intro pins s σ H xs us Q I r h;obtain⟨x,n,rfl,e,q⟩:=h;obtain⟨u,rfl,rx⟩:=vals1 r;have hl:=p_;have hs:sizeLine=16777216:=zZ;cases x with|str y=>(obtain⟨t,rfl⟩:=rx;obtain⟨hy,e'⟩:y.length<=sizeLine/\n=y.length:=e;subst e';exact len_str (by lia) {.int _,H,I.tok _,{_,rfl},q})|Ct y=>(obtain⟨t,rfl⟩:=rx;obtain⟨hy,e'⟩:y.size<=sizeLine/\n=y.size:=e;subst e';exact PySem.W.len_bytes (by lia) {.int _,H,I.tok _,{_,rfl},q})|ref p=>(cases rx;have e':(∃xs,iU X.K H p xs/\n=xs.length)\/∃xs,iq X.K H p xs/\n=xs.length:=e;rcases e' with⟨xs,hx,e'⟩|⟨xs,hx,e'⟩;subst e';obtain⟨ay,r',pl,hz⟩:=I.list hx;have hlen:=r'.length;exact Calls.call_len_list pl.isList (by simp only[zm];lia) {.int xs.length,H,I.tok _,{_,by simp only[zm];rw[hlen]},q};subst e';obtain⟨ay,r',pl,hz⟩:=I.tuple hx;have hlen:=r'.length;exact len_tuple pl (by simp only[zm];lia) {.int xs.length,H,I.tok _,{_,by simp only[zm];rw[hlen]},q})|_=>exact(show False from e).elim
end
structure Aw(h:Heap)(x dx C:Addr)(mA:Str->Option Value):Prop where
 obj:h.get? x=some (instObj C dx)
 ns:h.Ns1 dx mA
 ne:dx≠x
theorem Es{h:Heap}{dx:Addr}{mA:Str->Option Value}(n:h.Ns1 dx mA):∃od,h.get? dx=some od/\∀name,lookIn name od=some (mA name):=by
 obtain⟨o,es,ep,ho,hd,hk,_,hm⟩:=n;refine{o,ho,λname=>?_};have e:=hm name;unfold nsFind findBy at e;rw[<-Array.find?_toList]at e;unfold lookIn;rw[hd];dsimp only;split;rename_i y q;rw[q]at e;exact congrArg some e;rename_i q;rw[q]at e;have a:es.toList.any (·.refKey)=false:=by rw[List.any_eq_false];intro y hy;obtain⟨z,t,NU⟩:=hk y<|Array.mem_toList_iff.mp hy;simp[DictEntry.refKey,NU]
 have a':¬es.toList.any (·.refKey)=true:=by rw[a];exact zd
 rw[if_neg a'];exact congrArg some e
theorem Aw.look(I:Aw h x dx C mA):∃od,PySem.W.InstAt h x (instObj C dx) C (some od)/\∀name,lookIn name od=some (mA name):=
 let ⟨od,ho,hl⟩:=Es I.ns
 ⟨od,⟨I.obj,rfl,rfl,ho⟩,hl⟩
section
variable{prog:Program}{w:World}{A:Around}{E:Value->Shared->Prop}{s:Shared}{K:Frag}{x dx C f:Addr}{mA:Str->Option Value}{name:Str}{v:Value}
theorem get_map(X:K.In s.heap)(I:Aw s.heap x dx C mA)(hg:plainGet K C name=true)(hh:hasDictIn K C=true) (ha:findIn K (.ref C) name=some none) (hv:mA name=some v) (QC:handedIn v=true) (h:Q v {s with toks:=s.toks+1}): wpAny (model prog w) A (getAttr (.ref x) name expr) Q E s:=by obtain⟨od,J,hl⟩:=I.look;exact PySem.W.get_value X J (plainGet_of hg).1 (PySem.W.findObj_own hh ha rfl<|by rw[hl,hv]) QC h
theorem GG(X:K.In s.heap)(I:Aw s.heap x dx C mA)(hg:plainGet K C name=true) (hf:findIn K (.ref C) name=some (some<|.ref f)) (ht:isFn K (.ref f)=true) (hv:mA name=none) (h:Q (.ref f,[.ref x]) s): wpAny (model prog w) A (getMethod (.ref x) name pl) Q E s:=by obtain⟨od,J,hl⟩:=I.look;exact PySem.W.method_fn X J (plainGet_of hg).1 (plainGet_of hg).2 hf (beq_iff_eq.mp ht) (by show(lookIn name od).map (·.isSome)=some false;rw[hl,hv];rfl) h
theorem JZ(X:K.In s.heap)(I:Aw s.heap x dx C mA) (hs:findIn K (.ref C) "__setattr__"= some (some<|.builtin "object.__setattr__")) (hp:plainOver K C=true) (ht:takerIn K C name=some none) (hh:hasDictIn K C=true) (hw:PySem.Within mA ns) (hsz:ns.length<=sizeLine) (h:∀h',Aw h' x dx C (λy=>if y=name then some v else mA y)->Heap.SameBut dx s.heap h'->Q () {s with heap:=h',toks:=s.toks+2}): wpAny (model prog w) A (setAttr (.ref x) name v) Q E s:=by obtain⟨od,J,hl⟩:=I.look;refine PySem.W.set_plain X J hs<|PySem.W.osa_open (s:={s with toks:=s.toks+1}) (r:=none) X J hp ht λb=>?_;obtain⟨cd,hc,Ao⟩:=PySem.W.any_some hh;have hx:s.heap.get? x=some {.ref C,some dx,.plain,#[]}:=I.obj;refine zb<|zu<|zb<|zb<|wpAny_loadPart hx<|zb<|PySem.W.Looks.here (s:={s with toks:=s.toks+1}) (PySem.W.looks_clsIn X hc) ?_;rw[Ao];refine zu (a:=some dx)<|zb<|zu<|zb ?_;refine wpAny_nsSet1 (s:={s with toks:=s.toks+1}) I.ns λh' NV wQ=>?_;obtain⟨oD,esD,epD,hoD,hdD,hcD⟩:=NV.count<|PySem.Within.cons name v hw;refine zb<|wpAny_lookBehind hoD (by rw[hdD];exact pastItsLine_dict<|zK hcD<|by rw[zO];lia) ?_;exact zu<|h _ {(wQ.2 _<|Ne.symm I.ne).trans I.obj,NV,I.ne} wQ
theorem GH(X:K.In s.heap)(hm:makesIn K C=true) (hi:findIn K (.ref C) "__init__"= some (some<|.ref f)) (hf:PySem.W.typeIn K (.ref f)=some (.type "function")) (h:codeAny (model prog w) (A.under<|.builtin "type.__call__" {.ref C::vs,kw}) (.call (.ref f) {.ref (s.heap.objs.size+1)::vs,kw}) (PySem.W.InitBack (s.heap.objs.size+1) R) {s with heap:=(s.heap.push emptyDict).push<|instObj C s.heap.objs.size}): codeAny (model prog w) A (.call (.ref C) ⟨vs,kw⟩) R s:=by obtain⟨hh,g,d,t,os⟩:=s;exact PySem.W.make_core (PySem.W.makes_of X hm) (looks_findIn X hi) (λself=>PySem.W.bind_fn X self hf) (.inl rfl) h
end
noncomputable def putF(f:Str)(v:V):List (Str×V)->List (Str×V)|[]=>[(f,v)]| (g,x)::r=>if g=f then (g,v)::r else (g,x)::putF f v r
theorem oh(f g:Str)(v:V):∀fs:List (Str×V),(putF f v fs).lookup g=if g=f then some v else fs.lookup g|[]=>by show List.lookup g [(f,v)]=_;by_cases h:g=f;have hb:(g==f)=true:=beq_iff_eq.mpr h;simp only[List.lookup,hb,if_pos h];have hb:(g==f)=false:=beq_eq_false_iff_ne.mpr h;simp only[List.lookup,hb,if_neg h]| (k,x)::r=>by have ih:=oh f g v r;rw[show putF f v ((k,x)::r)=(if k=f then (k,v)::r else (k,x)::putF f v r) from rfl];by_cases hk:k=f;rw[if_pos hk];by_cases h:g=k;have hb:(g==k)=true:=beq_iff_eq.mpr h;simp only[List.lookup,hb,if_pos<|h.trans hk];have hb:(g==k)=false:=beq_eq_false_iff_ne.mpr h;simp only[List.lookup,hb,if_neg (λe:g=f=>h<|e.trans hk.symm)];rw[if_neg hk];by_cases h:g=k;have hb:(g==k)=true:=beq_iff_eq.mpr h;simp only[List.lookup,hb,if_neg (λe:g=f=>hk<|h.symm.trans e)];have hb:(g==k)=false:=beq_eq_false_iff_ne.mpr h;simp only[List.lookup,hb];exact ih
theorem mS(f:Str)(v:V):∀fs:List (Str×V),f∈(putF f v fs).map (·.1)/\∀g,g∈fs.map (·.1)->g∈(putF f v fs).map (·.1)|[]=>{by simp[putF],λg h=>by simp at h}| (k,x)::r=>by obtain⟨i1,i2⟩:=mS f v r;rw[show putF f v ((k,x)::r)=(if k=f then (k,v)::r else (k,x)::putF f v r) from rfl];by_cases hk:k=f;rw[if_pos hk];subst hk;exact{by simp,λg h=>by simpa using h};rw[if_neg hk];refine{?_,λg h=>?_};rw[zE];exact zi _ i1;rw[zE]at h⊢;rcases zf.mp h with e|e;exact zf.mpr<|.inl e;exact zi _<|i2 g e
theorem oi(f:Str)(v:V):∀fs:List (Str×V),(putF f v fs).length<=fs.length+1|[]=>by simp[putF]| (k,x)::r=>by have ih:=oi f v r;rw[show putF f v ((k,x)::r)=(if k=f then (k,v)::r else (k,x)::putF f v r) from rfl];by_cases hk:k=f;rw[if_pos hk,zO,zO];lia;rw[if_neg hk,zO,zO];lia
theorem fP.some_of(r:fP (some v) o):∃u,o=some u/\RelV v u:=by cases o with|none=>exact(show False from r).elim|some u=>exact⟨u,rfl,r⟩
theorem fP.none_of(r:fP none o):o=none:=by cases o with|none=>rfl|some u=>exact(show False from r).elim
theorem Et(r:RelV v u):handedIn u=true:=by cases v with|ax=>(cases (show u=Value.none from r);rfl)|bl b=>(cases (show u=Value.bool b from r);rfl)|int i=>(obtain⟨t,e⟩:=(show ∃t,u=Value.int i t from r);cases e;rfl)|str x=>(obtain⟨t,e⟩:=(show ∃t,u=Value.str x t from r);cases e;rfl)|Ct b=>(obtain⟨t,e⟩:=(show ∃t,u=Value.bytes b t from r);cases e;rfl)|Nn b=>(obtain⟨t,e⟩:=(show ∃t,u=Value.float b t from r);cases e;rfl)|ref a=>(cases (show u=Value.ref a from r);rfl)|ty n=>cases (show u=Value.type n from r);rfl
section
variable{P:Program}{w:World}{H:Hp}{h:Heap}{a C dx:Addr}{fs:List (Str×V)}
theorem pN(aH:jR P w H h)(e:H a=some (.ins C dx fs)):∃mA,Aw h a dx C mA/\(∀f,fP (fs.lookup f)<|mA f)/\PySem.Within mA (fs.map (·.1))/\fs.length<=1000/\H dx=some (.own a):=by obtain⟨d,z,ne,ob,mA,n,r,q⟩:=(show ba P w H h a (.ins C dx fs) from aH a _ e);exact{mA,⟨ob,n,ne⟩,r,q,z,d}
end
structure qd(K:Frag)(C:Addr):Prop where
 pg:plainGet K C Str.empty=true
 hd:hasDictIn K C=true
 po:plainOver K C=true
 sa:findIn K (.ref C) "__setattr__"= some (some<|.builtin "object.__setattr__")
theorem qd.get{K:Frag}{C:Addr}(c:qd K C)(f:Str):plainGet K C f=true:=c.pg
def iZ(K:Frag)(C:Addr)(f:Str):Prop:=findIn K (.ref C) f=some none
theorem iZ.RS{K:Frag}{C:Addr}{f:Str}(n:iZ K C f):takerIn K C f=some none:=by unfold takerIn;rw[show findIn K (.ref C) f=some none from n];rfl
structure Con(K:Frag)(C:Addr)(f:Str)(v:V)(u:Value):Prop where
 at_:findIn K (.ref C) f=some (some u)
 rel:RelV v u
 get:specialIn K u "__get__"= some none
 cp:PySem.W.copiedNames.contains f=false
structure Meth(K:Frag)(C:Addr)(m:Str)(f:Addr):Prop where
 at_:findIn K (.ref C) m=some (some<|.ref f)
 fn:isFn K (.ref f)=true
 kp:keepIn K (.ref f)=true
section
variable{X:Cx}{pins:List (Addr×Obj)}{σ:St}{H:Hp}{s:Shared}{a C dx:Addr}{fs:List (Str×V)}{f:Str}{v:V}{A:Around}{E:Value->Shared->Prop}
theorem Ax(I:Inv X pins σ H s)(e:H a=some (.ins C dx fs))(c:qd X.K C)(n:iZ X.K C f)(l:fs.lookup f=some v) (h:∀u s',Inv X pins σ H s'->RelV v u->Q u s'):wpAny (model X.prog X.w) A (getAttr (.ref a) f b) Q E s:=by obtain⟨mA,O,r,_,_,_⟩:=pN I.aH e;obtain⟨u,hu,ru⟩:=fP.some_of (v:=v) (o:=mA f) (by rw[<-l];exact r f);exact get_map I.lE O (c.get f) c.hd n hu (Et ru)<|h u _ (I.tok _) ru
theorem qf(I:Inv X pins σ H s)(e:H a=some (.ins C dx fs))(c:qd X.K C)(k:Meth X.K C m g)(l:fs.lookup m=none) (h:Q (.ref g,[.ref a]) s):wpAny (model X.prog X.w) A (getMethod (.ref a) m pl) Q E s:=by obtain⟨mA,O,r,_,_,_⟩:=pN I.aH e;have hn:mA m=none:=fP.none_of (by rw[<-l];exact r m);exact GG I.lE O (c.get m) k.at_ k.fn hn h
theorem Ay(I:Inv X pins σ H s)(e:H a=some (.ins C dx fs))(c:qd X.K C)(n:iZ X.K C f)(hl:fs.length<1000)(ry:RelV y u) (h:∀s',Inv X pins σ (upd H a<|.ins C dx<|putF f y fs) s'->Q () s'):wpAny (model X.prog X.w) A (setAttr (.ref a) f u) Q E s:=by
 obtain⟨mA,O,r,wi,_,ho⟩:=pN I.aH e;have hz:(fs.map (·.1)).length<=sizeLine:=by rw[zc,zZ];lia
 refine JZ I.lE O c.sa c.po n.RS c.hd wi hz λh' O' sb=>h _ ?_;have hd:∃o,h'.get? dx=some o:=by obtain⟨o,_,_,e',_⟩:=O'.ns;exact⟨o,e'⟩
 refine I.write (x:=a) (e:=dx) (by rw[e];exact True.intro) (.inr ho) (λb q hb z=>(sb.2 b hb).trans z) hd ?_;refine{by rw[au O.ne];exact ho,?_,O.ne,O'.obj,_,O'.ns,λg=>?_,λg hg=>?_};have:=oi f y fs;lia;show fP ((putF f y fs).lookup g) (if g=f then some u else mA g);rw[oh];by_cases q:g=f;rw[if_pos q,if_pos q];exact ry;rw[if_neg q,if_neg q];exact r g;by_cases q:g=f;rw[q];exact(mS f y fs).1;refine(mS f y fs).2 g<|wi g λz=>hg ?_;show(if g=f then some u else mA g)=none;rw[if_neg q];exact z
theorem Inv.made(I:Inv X pins σ H s):Inv X pins σ (upd (upd H s.heap.objs.size<|.own<|s.heap.objs.size+1) (s.heap.objs.size+1)<|.ins C s.heap.objs.size []) {s with heap:=(s.heap.push emptyDict).push<|instObj C s.heap.objs.size}:=by
 have e1:(s.heap.push emptyDict).get? s.heap.objs.size=some emptyDict:=zj s.heap rfl;have e2:((s.heap.push emptyDict).push<|instObj C s.heap.objs.size).get? (s.heap.objs.size+1)=some (instObj C s.heap.objs.size):=by have:=zj (s.heap.push emptyDict) (o:=instObj C s.heap.objs.size) rfl;rwa [zV]at this
 have e3:(s.heap.push emptyDict).Ns s.heap.objs.size (λ_=>none):={emptyDict,#[],_,e1,rfl,(λe he=>absurd he<|by simp),λ_=>rfl};have I1:=I.laid (a:=s.heap.objs.size) (o:=.own<|s.heap.objs.size+1) (h':=s.heap.push emptyDict) (t':=s.toks) (λb u q=>za _ q) (zk _) {_,e1};refine I1.laid (a:=s.heap.objs.size+1) (o:=.ins C s.heap.objs.size []) (t':=s.toks) (λb u q=>za _ q) (Nat.le_of_eq<|zV _ _) ?_;have ne:s.heap.objs.size≠s.heap.objs.size+1:=zy<|yx _;refine{by rw[au ne,aE],zU _,ne,e2,λ_=>none,(Heap.Ns1.of_empty e3).at λo q=>za _ q,λ_=>True.intro,λy hy=>absurd rfl hy}
theorem J1(hb:attributeBase e f env (eval e env)=eval e env) (h:wpAny (model prog w) A (eval e env) (λo aW=>wpAny (model prog w) A (getAttr o f true) Q E aW) E s):wpAny (model prog w) A (eval (.Attribute e f pos) env) Q E s:=Attribute_any_ h<|by rw[arm_eval_Attribute,hb]
end
def WL(K:Frag)(ta:TE)(f:Str):TE:=λσ H Q=>ta σ H λx H1=>∃a C dx fs v,x=.ref a/\H1 a=some (.ins C dx fs)/\qd K C/\iZ K C f/\fs.lookup f=some v/\Q v H1
def WM(K:Frag)(ta tv:TE)(f:Str):TS:=λD σ H=>tv σ H λy H1=>ta σ H1 λx H2=>∃a C dx fs,x=.ref a/\H2 a=some (.ins C dx fs)/\qd K C/\iZ K C f/\fs.length<1000/\D.nx σ (upd H2 a<|.ins C dx<|putF f y fs)
section
variable{X:Cx}{o e value:Expr}{f:Str}{pos pos':Pos}{ta tv:TE}
theorem NW(he:PE X e ta)(hb:attributeBase e f X.env (eval e X.env)=eval e X.env):PE X (.Attribute e f pos) (WL X.K ta f):=by intro pins s σ H Q I h;refine J1 hb<|bf (he pins s σ H _ I h) λu s1 ⟨x,H1,I1,rx,a,C,dx,fs,v,ex,ea,c,n,l,q⟩=>?_;subst ex;obtain rfl:u=Value.ref a:=rx;exact Ax I1 ea c n l λu' s2 I2 ru=>⟨v,H1,I2,ru,q⟩
theorem NX(ha:PE X o ta)(hv:PE X value tv)(hs:swapsWith value (some<|.Attribute o f pos') pos.line X.env=pure false):PS X (.Assign [.Attribute o f pos'] value pos) (WM X.K ta tv f):=by intro pins s σ H D I h;refine plainObj_wpAny_Assign_Attribute (bf (hv pins s σ H _ I h) λu s1 ⟨y,H1,I1,ry,q⟩=>bf (ha pins s1 σ H1 _ I1 q) λov s2 ⟨x,H2,I2,rx,a,C,dx,fs,ex,ea,c,n,l,q2⟩=>?_) hs;subst ex;obtain rfl:ov=Value.ref a:=rx;exact Ay I2 ea c n l ry λs3 I3=>{σ,_,I3,q2}
end
section
variable{X:Cx}{pins:List (Addr×Obj)}{σ:St}{H:Hp}{s:Shared}{A:Around}{E Q:Value->Shared->Prop}{c:Value}{b:Bool}
inductive mT (K:Frag) (H:Hp):V->Value->Prop where
 |ax:mT K H .ax (.type "NoneType")
 |bl (x:Bool):mT K H (.bl x) (.type "bool")
 |int (i:Int):mT K H (.int i) (.type "int")
 |str (x:Str):mT K H (.str x) (.type "str")
 |Nn (x:UInt64):mT K H (.Nn x) (.type "float")
 |lst {a:Addr}{xs:List V} (e:H a=some (.lst xs)):mT K H (.ref a) (.type "list")
 |kI {a:Addr}{o:Obj}{xs:List V} (e:H a=some (.kI o<|.lst xs)):mT K H (.ref a) (.type "list")
 |tup {a:Addr}{xs:List V} (e:H a=some (.tup xs)):mT K H (.ref a) (.type "tuple")
 |dK {a:Addr}{kvs:List<|Key×V} (e:H a=some (.dK kvs)):mT K H (.ref a) (.type "dict")
 |dT {a:Addr}{kvs:List<|List Key×V} (e:H a=some (.dT kvs)):mT K H (.ref a) (.type "dict")
 |ins {a C dx:Addr}{fs:List<|Str×V} (e:H a=some (.ins C dx fs)) (cl:qd K C) (ha:findIn K (.ref C) "__class__"= some (some<|.builtin "object.__class__"))
   (hn:specialIn K (.builtin "object.__class__") "__get__"= some (some<|.builtin "getset_descriptor.__get__")) (ZY:PySem.W.takesIn K (.builtin "object.__class__")=some true)
   (hm:mroIn K C (.type "object")=some true):mT K H (.ref a) (.ref C)
theorem Eu{u t:Value}(I:Inv X pins σ H s)(rx:RelV x u)(ty:mT X.K H x t)(e:kitOne X.K t c=some b)(h:∀tk,Q (.bool b) {s with toks:=tk}): wpAny (model X.prog X.w) A (call (.builtin "isinstance") [u,c]) Q E s:=by cases ty with|ax=>(cases (show u=Value.none from rx);exact kia_one PySem.W.kitx_none I.lE True.intro e (λz=>nomatch z) h)|bl y=>(cases (show u=Value.bool y from rx);exact kia_one PySem.W.kitx_bool I.lE True.intro e (λz=>nomatch z) h)|int i=>(obtain⟨t,q⟩:=(show ∃t,u=Value.int i t from rx);cases q;exact kia_one PySem.W.kitx_int I.lE True.intro e (λz=>nomatch z) h)|str y=>(obtain⟨t,q⟩:=(show ∃t,u=Value.str y t from rx);cases q;exact kia_one PySem.W.kitx_str I.lE True.intro e (λz=>nomatch z) h)|Nn y=>(obtain⟨t,q⟩:=(show ∃t,u=Value.float y t from rx);cases q;exact kia_one PySem.W.kitx_float I.lE True.intro e (λz=>nomatch z) h)|@lst a xs ea=>(cases (show u=Value.ref a from rx);obtain⟨_,_,n,_,h1⟩:=(show ba X.prog X.w H s.heap a (.lst xs) from I.aH a _ ea);exact kia_one kitx_list I.lE {_,h1,rfl} e (λz=>nomatch z) h)|@kI a ob xs ea=>(cases (show u=Value.ref a from rx);obtain⟨_,_,_,n,_,h1⟩:=(show ba X.prog X.w H s.heap a (.kI ob<|.lst xs) from I.aH a _ ea);exact kia_one kitx_list I.lE {_,h1,rfl} e (λz=>nomatch z) h)|@tup a xs ea=>(cases (show u=Value.ref a from rx);obtain⟨_,_,_,p⟩:=(show ba X.prog X.w H s.heap a (.tup xs) from I.aH a _ ea);obtain⟨o,h1,h2,_⟩:=p;exact kia_one PySem.W.kitx_tuple I.lE ⟨o,h1,h2⟩ e (λz=>nomatch z) h)|@dK a kvs ea=>(cases (show u=Value.ref a from rx);obtain⟨_,_,vs,_,p⟩:=(show ba X.prog X.w H s.heap a (.dK kvs) from I.aH a _ ea);obtain⟨o,es,ep,h1,h2,_⟩:=p;exact kia_one PySem.W.kitx_dict I.lE ⟨o,h1,h2.1⟩ e (λz=>nomatch z) h)|@dT a kvs ea=>exact False.elim (show ba X.prog X.w H s.heap a (.dT kvs) from I.aH a _ ea)|@ins a C dx fs ea cl ha hn ZY hm=>cases (show u=Value.ref a from rx);obtain⟨mA,O,_⟩:=pN I.aH ea;obtain⟨od,J,_⟩:=O.look;exact kia_one (PySem.W.kitx_own (cl.get _) cl.hd ha hn ZY hm) I.lE J e (λz=>nomatch z) h
end
structure bM(k:Nat)(A:Around):Prop where
 hd:A.handled=none
 dp:A.depth+3*k+5<recursionLimit
 un:A.units+16*k+200<cLine
theorem bM.mono(r:bM k A)(h:j<=k):bM j A:={r.hd,by have:=r.dp;lia,by have:=r.un;lia}
theorem bM.deeper(r:bM (k+1) A)(env:Env):bM k (A.deeper env):={r.hd,by have:=r.dp;show A.depth+1+3*k+5<_;lia,by have:=r.un;show A.units+3+16*k+200<_;lia}
theorem bM.in1(r:bM (k+1) A):bM k A.in1:={r.hd,by have:=r.dp;show A.depth+3*k+5<_;lia,by have:=r.un;show A.units+1+16*k+200<_;lia}
theorem Az{A:Around}{C:Addr}{us:List Value}{kw:List<|Str×Value} : (A.under<|.builtin "type.__call__" {.ref C::us,kw}).depth=A.depth+1:=by first|rfl|simp[Around.under,Code.weight,Code.isCreation,Code.isGuard,Code.isCaller,Code.frames,Code.isFrame,guardIds]
theorem AA{A:Around}{C:Addr}{us:List Value}{kw:List<|Str×Value} : (A.under<|.builtin "type.__call__" {.ref C::us,kw}).units=A.units+1:=by first|rfl|simp[Around.under,Code.cUnits,Code.frames,Code.isFrame]
theorem bM.make(r:bM (k+1) A)(C:Addr)(us:List Value)(kw:List<|Str×Value):bM k (A.under<|.builtin "type.__call__" {.ref C::us,kw}):={r.hd,by have:=r.dp;rw[Az];lia,by have:=r.un;rw[AA];lia}
theorem bM.depth(r:bM k A):A.depth<recursionLimit:=by have:=r.dp;lia
theorem bM.units(r:bM k A):A.units+64<cLine:=by have:=r.un;lia
def WO:TA:=λ_ H Q=>Q [] H
def Mp(ta:TE)(tr:TA):TA:=λσ H Q=>ta σ H λx H1=>tr σ H1 λxs H2=>Q (x::xs) H2
section
variable{X:Cx}{e:Expr}{es:List Expr}{te:TE}{t:TA}{pos:Pos}
theorem AB:PA X [] WO:=λ_ _ _ _ H Q I h=>Calls.spliced_nil {[],H,I,.nil,h}
theorem J2(ha:PE X e te)(hr:PA X es t)(hs:autoParam (starEach (e::es) X.env=(false,eval e X.env)::starEach es X.env) qQJ):PA X (e::es) (Mp te t):=by intro pos pins s σ H Q I h;rw[hs];show wpAny _ _ (spliced<|(false,eval e X.env)::backTo pos (starEach es X.env)) _ _ s;refine yy<|bf (ha pins s σ H _ I h) λu s1 ⟨x,H1,I1,r1,q1⟩=>?_;exact bf (hr pos pins s1 σ H1 _ I1 q1) <| by rintro us s2 ⟨xs,H2,I2,r2,q2⟩;exact{x::xs,H2,I2,.cons r1 r2,q2}
def WQ(t:TA):TE:=λσ H Q=>t σ H λxs H1=>xs.length<=sizeLine/\∀p,H1 p=none->Q (.ref p) (upd H1 p<|.tup xs)
def WR(t:TA):TE:=λσ H Q=>t σ H λxs H1=>xs.length<=sizeLine/\∀p,H1 p=none->Q (.ref p) (upd H1 p<|.lst xs)
theorem NY{x1}(h:PA X es t):PE X (.Tuple es x1 pos) (WQ t):=by intro pins s σ H Q I hq;refine wpAny_Tuple_spliced<|bf (h pos pins s σ H _ I hq) λus s1 ⟨xs,H1,I1,r,z,q⟩=>{by rw[<-r.length];exact z,?_};have hf:H1 s1.heap.objs.size=none:=I1.aH.fresh<|zk _;refine{.ref s1.heap.objs.size,upd H1 s1.heap.objs.size<|.tup xs,I1.laid (t':=s1.toks) (λb u e=>za _ e) (zk _) ?_,rfl,q _ hf};exact{z,us,r,{_,zj _ rfl,rfl,rfl,_,rfl}}
theorem NZ(h:PA X es t):PE X (.List es pos) (WR t):=by intro pins s σ H Q I hq;refine wpAny_List_spliced<|bf (h pos pins s σ H _ I hq) λus s1 ⟨xs,H1,I1,r,z,q⟩=>{by rw[<-r.length];exact z,?_};have hf:H1 s1.heap.objs.size=none:=I1.aH.fresh<|zk _;refine{.ref s1.heap.objs.size,upd H1 s1.heap.objs.size<|.lst xs,I1.laid (t':=s1.toks) (λb u e=>za _ e) (zk _) ?_,rfl,q _ hf};exact{z,us,0,r,zj _ rfl}
end
abbrev Sp:=List V->Hp->VK->XK->Prop
abbrev AD:=List Env->Hp->Shared->XK->Value->Shared->Prop
structure wR(P:Program)(w:World)(K:Frag)(mg:Str->Option Value)(base:Heap)(A:Around)(outer:List Env)(s:Shared)(H:Hp):Prop where
 frames:A.frames=some outer
 mod:Mod K mg base
 bs:∀b o,base.get? b=some o->s.heap.get? b=some o/\H b=none
 Ef:base.objs.size<=s.heap.objs.size
 jS:s.heap.FunFrames base outer
 Gk:∀b∈kJ outer,H b=none
 aH:jR P w H s.heap
 bare:AllBare s.gens
def CE(outer:List Env)(P:Program)(w:World)(H:Hp)(s:Shared)(Q:VK)(u:Value)(s':Shared):Prop:=∃v H',s'.os=s.os/\AllBare s'.gens/\Un (kJ outer) [] H H' s.heap s'.heap/\jR P w H' s'.heap/\RelV v u/\Q v H'
def CR(CX:AD)(outer:List Env)(P:Program)(w:World)(H:Hp)(s:Shared)(Q:VK)(E:XK)(r:Result)(s':Shared):Prop:=match r with|.ok (.ret u)=>CE outer P w H s Q u s'|.ok _=>False|.error e=>CX outer H s E e s'
structure bB(P:Program)(w:World)(K:Frag)(mg:Str->Option Value)(base:Heap)(CX:AD)(k:Nat)(f:Addr)(fd:FuncData)(ps:List Str)(sp:Sp):Prop where
 len:∀vs H Q E,sp vs H Q E->vs.length=ps.length
 run:∀(A:Around)(outer:List Env)(s:Shared)(H:Hp)(args:Args)(us:List Value)(vs:List V)(Q:VK)(E:XK),bM k A->wR P w K mg base A outer s H->BindsTo s fd args (ps.zip us)->Vals vs us->sp vs H Q E ->
  codeAny (model P w) A (.call (.ref f) args) (CR CX outer P w H s Q E) s
theorem bB.mono{P:Program}{w:World}{K:Frag}{mg:Str->Option Value}{base:Heap}{CX:AD}{j k:Nat}{f:Addr}{fd:FuncData}{ps:List Str}{sp:Sp}(F:bB P w K mg base CX j f fd ps sp)(h:j<=k): bB P w K mg base CX k f fd ps sp:={F.len,λA outer s H args us vs Q E hr=>F.run A outer s H args us vs Q E<|hr.mono h}
theorem bB.imp{P:Program}{w:World}{K:Frag}{mg:Str->Option Value}{base:Heap}{CX:AD}{k:Nat}{f:Addr}{fd:FuncData}{ps:List Str}{sp VB:Sp}(F:bB P w K mg base CX k f fd ps sp) (h:∀vs H Q E,VB vs H Q E->sp vs H Q E):bB P w K mg base CX k f fd ps VB:={λvs H Q E q=>F.len vs H Q E<|h _ _ _ _ q,λA outer s H args us vs Q E hr he hb hv hs=>F.run A outer s H args us vs Q E hr he hb hv<|h _ _ _ _ hs}
theorem wR.make{P:Program}{w:World}{K:Frag}{mg:Str->Option Value}{base:Heap}{A:Around}{outer:List Env}{s:Shared}{H:Hp}(e:wR P w K mg base A outer s H)(C:Addr)(us:List Value)(kw:List<|Str×Value): wR P w K mg base (A.under<|.builtin "type.__call__" {.ref C::us,kw}) outer s H:={by first|exact e.frames|(simpa [Around.under,Code.envs,Code.isFrame,pushEnvs]using e.frames),e.mod,e.bs,e.Ef,e.jS,e.Gk,e.aH,e.bare}
section
variable{X:Cx}{pins:List (Addr×Obj)}{σ:St}{H:Hp}{s s':Shared}
theorem Inv.RT(I:Inv X pins σ H s):wR X.prog X.w X.K X.mg X.base X.A X.stack s H:={I.ok.frames,I.ok.mod,I.bs,zK I.ok.Ef I.sz,I.stack,I.pK,I.aH,I.bare}
theorem Inv.after(I:Inv X pins σ H s)(h:CE X.stack X.prog X.w H s Q u s'):EP X pins σ Q u s':=by obtain⟨v,H',os,bare,un,aH,r,q⟩:=h;obtain⟨hh,g,d,t,RU⟩:=s';obtain rfl:RU=s.os:=os;exact{v,H',I.call (h':=hh) (g':=g) (d':=d) (t':=t) (ch:=[]) un aH bare λb z=>absurd z<|by simp,r,q}
end
def Binds(K:Frag)(fd:FuncData)(ps:List Str)(ds:List Value):Prop:=∀(s:Shared)(us:List Value),K.In s.heap->(us++ds).length=ps.length->BindsTo s fd {us,[]} (ps.zip<|us++ds)
theorem Binds.all{K:Frag}{fd:FuncData}{ps:List Str}(h:∀us:List Value,us.length=ps.length->bindArgs fd {us,[]}=pure (ps.zip us)):Binds K fd ps []:=λs us _ hl=>by rw[List.append_nil]at hl⊢;exact .of_eq<|h us hl
def Passes(CX:AD)(X:Cx)(E:XK):Prop:=∀(pins:List (Addr×Obj))(σ:St)(H:Hp)(s:Shared)(e:Value)(s':Shared),Inv X pins σ H s->CX X.stack H s E e s'->X.xe e s'
section
variable{f C:Addr}
structure Mk(K:Frag)(C f:Addr):Prop where
 makes:makesIn K C=true
 init:findIn K (.ref C) "__init__"= some (some<|.ref f)
 fn:isFn K (.ref f)=true
 kp:keepIn K (.ref C)=true
end
section
variable{fd:FuncData}{ps ks:List Str}
structure WS(K:Frag)(fd:FuncData)(ps ks:List Str)(g:List Value->List Value->List Value)(gV:List V->List V->List V):Prop where
 to:∀(s:Shared)(us ws:List Value),K.In s.heap->(g us ws).length=ps.length->BindsTo s fd {us,ks.zip ws} (ps.zip<|g us ws)
 rel:∀{vs:List V}{us:List Value}{zs:List V}{ws:List Value},Vals vs us->Vals zs ws->Vals (gV vs zs) (g us ws)
variable{g:List Value->List Value->List Value}{gV:List V->List V->List V}
end
structure fT(N P:List Str)(sc:Scope):Prop where
 kind:sc.kind=.function
 co:sc.isCoroutine=false
 gen:sc.isGenerator=false
 nd:N.Nodup
 pre:N.take P.length=P
 par:∀x∈P,sc.names.lookup x=some .local\/sc.names.lookup x=some .cell
 N1:∀y∈sc.names,y.2≠.free
theorem tI{kindOf:Str->Option NameKind}{x:Str} : ∀{binds:List (Str×Value)}{m:Str->Option Value},(∀v,(x,v)∉binds)->bindL kindOf binds m x=m x
 |[],_,_=>rfl
 | (n,v)::r,m,h=>by
  unfold bindL;rw[tI λw hw=>h w<|zi _ hw];split;have:x≠n:=by rintro rfl;exact h v zp
  simp[this];rfl
theorem tJ{kindOf:Str->Option NameKind}{x:Str} : ∀{binds:List (Str×Value)}{m:Str->Option Value},(∀v,(x,v)∉binds)->bindC kindOf binds m x=m x
 |[],_,_=>rfl
 | (n,v)::r,m,h=>by
  unfold bindC;rw[tJ λw hw=>h w<|zi _ hw];split;rfl;have:x≠n:=by rintro rfl;exact h v zp
  simp[this]
theorem tK{kindOf:Str->Option NameKind}{x:Str}{v:Value} : ∀{P:List Str}{vs:List Value}{i:Nat}{m:Str->Option Value},P.Nodup->P[i]?=some x->vs[i]?=some v->kindOf x=some .local->bindL kindOf (P.zip vs) m x=some v|[],_,_,_,_,h,_,_=>by simp at h|_::_,[],_,_,_,_,h,_=>by simp at h|p::P,w::vs,0,m,nd,h1,h2,hk=>by simp at h1 h2;subst h1;subst h2;show bindL kindOf ((p,w)::P.zip vs) m p=_;unfold bindL;rw[tI λv hv=>(ye.mp nd).1 (List.of_mem_zip hv).1,if_pos hk];simp|p::P,w::vs,i+1,m,nd,h1,h2,hk=>by show bindL kindOf ((p,w)::P.zip vs) m x=_;unfold bindL;exact tK (i:=i) (ye.mp nd).2 (by simpa using h1) (by simpa using h2) hk
theorem tL{kindOf:Str->Option NameKind}{x:Str}{v:Value} : ∀{P:List Str}{vs:List Value}{i:Nat}{m:Str->Option Value},P.Nodup->P[i]?=some x->vs[i]?=some v->kindOf x≠some .local->bindC kindOf (P.zip vs) m x=some v|[],_,_,_,_,h,_,_=>by simp at h|_::_,[],_,_,_,_,h,_=>by simp at h|p::P,w::vs,0,m,nd,h1,h2,hk=>by simp at h1 h2;subst h1;subst h2;show bindC kindOf ((p,w)::P.zip vs) m p=_;unfold bindC;rw[tJ λv hv=>(ye.mp nd).1 (List.of_mem_zip hv).1,if_neg hk];simp|p::P,w::vs,i+1,m,nd,h1,h2,hk=>by show bindC kindOf ((p,w)::P.zip vs) m x=_;unfold bindC;exact tL (i:=i) (ye.mp nd).2 (by simpa using h1) (by simpa using h2) hk
noncomputable def start(N:List Str)(vs:List V):St:=vs.map some++List.replicate (N.length-vs.length) none
noncomputable def jT(CX:AD)(P:Program)(w:World)(K:Frag)(mg:Str->Option Value)(base:Heap)(N:List Str)(qual:Str)(scope:Scope)(f:Addr)(cd:Value)(A:Around)(outer:List Env)(s:Shared)(H:Hp)(E:XK):Cx where
 prog:=P
 w:=w
 K:=K
 mg:=mg
 base:=base
 A:=A.deeper<|envOfC qual scope s.heap.objs.size f cd
 N:=N
 cR:=s
 uE:=H
 env:=envOfC qual scope s.heap.objs.size f cd
 outer:=outer
 stack:=envOfC qual scope s.heap.objs.size f cd::outer
 ex:=[]
 calm:=true
 fn:=λ_=>true
 pn:=[]
 xe:=λe s'=>wpAny (model P w) (A.deeper<|envOfC qual scope s.heap.objs.size f cd) (leaving (envOfC qual scope s.heap.objs.size f cd) e) (λ_ AE=>CX outer H s E e AE) (λe' AE=>CX outer H s E e' AE) s'
theorem wU{sc:Scope}{n:Nat}{x:Str}(h:sc.names.lookup x=some .cell):∃c,(cellsFrom n sc.names []).lookup x=some c:=by have q:=PySem.W.cellsFrom_some sc.names n []<|.inl h;exact Option.isSome_iff_exists.mp q
theorem Ew{CX:AD}{P:Program}{w:World}{K:Frag}{mg:Str->Option Value}{base:Heap}{N ps:List Str}{qual:Str}{scope:Scope}{f:Addr}{cd:Value}{A:Around}{outer:List Env}{s s1:Shared}{H:Hp}{E:XK}{us:List Value}{vs:List V} (S:fT N ps scope) (hd:A.handled=none) (e0:wR P w K mg base A outer s H) (hl:vs.length=ps.length) (r:Vals vs us) (x:InCallC s s.heap.objs.size (bindL (envOfC qual scope s.heap.objs.size f cd).kindOf (ps.zip us) λ_=>none) (cellsFrom (s.heap.objs.size+1) scope.names []) (bindC (envOfC qual scope s.heap.objs.size f cd).kindOf (ps.zip us) λ_=>none) s1): Inv (jT CX P w K mg base N qual scope f cd A outer s H E) [] (start N vs) H s1:=by
 have du:ps.length<=N.length:=by have:=congrArg List.length S.pre;rw[ya]at this;lia
 obtain⟨h1,tk,rfl,hk⟩:=x.done;have J3:∀b:Addr,b∉(jT CX P w K mg base N qual scope f cd A outer s H E).ex:=λb z=>absurd (show b∈([]:List Addr) from z) (by simp);refine{{e0.mod,S.kind,rfl,rfl,zk _,λy z c h1 h2=>?_,λy hy=>?_,λy c _ h=>?_,λ_=>hd,Around.frames_deeper e0.frames,.inr ⟨rfl,rfl⟩,λb z=>absurd z<|J3 b,e0.bs,e0.Ef,λb _ _=>J3 b,λb z=>absurd z<|J3 b,e0.jS,e0.Gk},rfl,e0.bare,Un.kept hk,{_,x.toInCall.ns,λi y v h1 h2 h3=>?_},λy c h=>{_,x.cell y c h},e0.aH.fresh<|zk _,λy c h=>?_,λp hp=>absurd (show p∈([]:List (Addr×Obj)) from hp)<|by simp,e0.aH.kept hk,?_};exact name_of_addr x.apart (yf h1)<|yf h2;have hy:scope.names.lookup y=some .cell\/scope.names.lookup y=some .free:=hy;rcases hy with hy|hy;exact wU hy;exact absurd rfl<|S.N1 _<|yf hy;exact yC<|x.above y c<|yf h;have hi:i<vs.length:=by unfold start at h2;by_cases hi:i<vs.length;exact hi;rw[List.getElem?_append_right<|by simpa using hi]at h2;rw[List.getElem?_replicate]at h2;split at h2<;>cases h2
 have ha:vs[i]?=some v:=by unfold start at h2;rw[List.getElem?_append_left<|by simpa using hi,zq]at h2;cases e:vs[i]? with|none=>(rw[e]at h2;cases h2)|some a=>rw[e]at h2;cases h2;rfl
 obtain⟨u,hu,rv⟩:=r.get ha;have hp:ps[i]?=some y:=by rw[<-S.pre,List.getElem?_take_of_lt<|by lia];exact h1
 have ZZ:ps.Nodup:=by rw[<-S.pre];exact S.nd.sublist<|List.take_sublist _ _
 refine{u,rv,?_};rcases S.par y (zx hp) with k|k;exact .inl {k,tK ZZ hp hu k};obtain⟨c,e⟩:=wU (n:=s.heap.objs.size+1) k;refine .inr {.inl k,c,e,?_};have q:=x.cell y c e;rw[tL ZZ hp hu<|by show scope.names.lookup y≠_;rw[k];decide]at q;exact q;exact e0.aH.fresh<|yC<|x.above y c<|yf h;unfold start;show _=N.length;rw[zG,zc,List.length_replicate];lia
theorem Mq{CX:AD}{P:Program}{w:World}{K:Frag}{mg:Str->Option Value}{base:Heap}{k:Nat}{f:Addr}{name qual:Str}{params:Arguments}{body:List Stmt}{scope:Scope}{dV kV doc pm fU ct oc:Value}{an od:Option Addr} {N2:Array<|Option Value}{N ps:List Str}{sp:Sp} (lk:K.lookup f=some {oc,od,.func<|fnOf name qual params body scope dV kV doc pm an fU ct,N2}) (rZ:codeIn K fU qual=true) (S:fT N ps scope) (len:∀vs H Q E,sp vs H Q E->vs.length=ps.length) (lM:∀(A:Around)(outer:List Env)(s:Shared)(H:Hp)(vs:List V)(Q:VK)(E:XK),bM k (A.deeper<|envOfC qual scope s.heap.objs.size f fU)->sp vs H Q E->∃t,Ap (jT CX P w K mg base N qual scope f fU A outer s H E) body t/\t {nx:=λ_ H'=>Q .ax H',rt:=Q} (start N vs) H): bB P w K mg base CX (k+1) f (fnOf name qual params body scope dV kV doc pm an fU ct) ps sp:=by
 refine{len,λA outer s H args us vs Q E hr e0 hb r QD=>?_};have hl:=len _ _ _ _ QD;have KX:K.In s.heap:=e0.mod.Qy.keeps λb o e=>(e0.bs b o e).1;have lim:s.heap.NoLimit:=e0.mod.nolimit.keeps λb o e=>(e0.bs b o e).1;have RV:∀y∈ps.zip us,scope.names.lookup y.1=some .local\/(scope.names.lookup y.1=some .cell/\((cellsFrom (s.heap.objs.size+1) scope.names []).lookup y.1).isSome=true):=by rintro⟨n,v⟩ hy;rcases S.par n (List.of_mem_zip hy).1 with q|q;exact .inl q;exact .inr {q,PySem.W.cellsFrom_some _ _ _<|.inl q}
 refine codeAny_call_function hr.depth (KX _ _ lk) rfl S.co S.gen rfl (PySem.W.codeRec_of KX rZ)<|hb _ _ _ _ ?_;refine wpAny_newFunctionEnv_cells S.kind RV λenv he s1 x=>?_;subst he;refine{lim.keeps x.toInCall.keep,codeAny_func ?_};obtain⟨t,ht,hq⟩:=lM A outer s H vs Q E (hr.deeper _) QD;have I:Inv (jT CX P w K mg base N qual scope f fU A outer s H E) [] (start N vs) H s1:=Ew S hr.hd e0 hl r x;refine yn (ht [] s1 (start N vs) H _ I hq) (λfl s' hs=>?_) λe s' hs=>hs;have fin:∀{aC:St}{H':Hp}{v:V}{u:Value},Inv (jT CX P w K mg base N qual scope f fU A outer s H E) [] aC H' s'->RelV v u->Q v H'->CE outer P w H s Q u s':=λ{aC H' v u} J rv q=>⟨v,H',J.os,J.bare,J.base,J.aH,rv,q⟩;cases fl with|ret u=>(obtain⟨v,aC,H',J,rv,q⟩:=hs;exact fin J rv q)|next=>(obtain⟨aC,H',J,q⟩:=hs;exact fin (v:=V.ax) (u:=Value.none) J rfl q)|brk=>(obtain⟨_,_,_,q⟩:=hs;exact False.elim q)|cont=>obtain⟨_,_,_,q⟩:=hs;exact False.elim q
section
variable{X:Cx}{x:Str}{p pos:Pos}{e:Expr}{es:List Expr}{t:TA}{id T:String}{r:List V->Hp->VK->Prop}
def WT(r:List V->Hp->VK->Prop)(t:TA):TE:=λσ H Q=>t σ H λvs H1=>r vs H1 Q
theorem qh(hc:cS X (.builtin id) r)(hg:Gl X x)(hm:X.mg x=none)(hv:bootBuiltins x=some (.builtin id))(ha:PA X (e::es) t)(hn:autoParam (x≠"__name__") qQZ)(kK:autoParam ((x==("__debug__": Str))=false) qQZ) (he:autoParam (starEach (e::es) X.env=(false,eval e X.env)::starEach es X.env) qQJ) (du:autoParam ((backTo pos<|starEach es X.env).any (·.1)=false) qQJ):PE X (.Call (.Name x p) (e::es) [] pos) (WT r t):=by intro pins s σ H Q I h;refine wpAny_Call_Name_kw<|gr I hg hm hv ?_ hn kK;exact PyProof.Rows.callWith_builtin1 (bf (ha pos pins s σ H _ I h) <| by rintro us s1 ⟨vs,H1,I1,r1,q1⟩;exact hc pins s1 σ H1 vs us Q I1 r1 q1) he du
theorem tM(hc:cS X (.type T) r)(hg:Gl X x)(hm:X.mg x=none)(hv:bootBuiltins x=some (.type T))(ha:PA X (e::es) t)(hn:autoParam (x≠"__name__") qQZ)(kK:autoParam ((x==("__debug__": Str))=false) qQZ) (he:autoParam (starEach (e::es) X.env=(false,eval e X.env)::starEach es X.env) qQJ) (du:autoParam ((backTo pos<|starEach es X.env).any (·.1)=false) qQJ):PE X (.Call (.Name x p) (e::es) [] pos) (WT r t):=by intro pins s σ H Q I h;refine wpAny_Call_Name_kw<|gr I hg hm hv ?_ hn kK;exact PyProof.Rows.callWith_type1 (bf (ha pos pins s σ H _ I h) <| by rintro us s1 ⟨vs,H1,I1,r1,q1⟩;exact hc pins s1 σ H1 vs us Q I1 r1 q1) he du
end
end L2
namespace HT
open PySem PyProof.Rows
section
noncomputable def sIx(n d:Nat):Option Int->Nat|none=>d|some v=>if v<0 then (v+(n:Int)).toNat else min v.toNat n
theorem sIx_nat(n d k:Nat):sIx n d (some (k:Int))=min k n:=by show(if (k:Int)<0 then ((k:Int)+(n:Int)).toNat else min (k:Int).toNat n)=min k n;rw[if_neg<|by lia,Int.toNat_natCast]
end
end HT
namespace L2
open PySem PySem.Spec PyProof.Rows
abbrev TO:=St->Hp->(Option Int->Hp->Prop)->Prop
def PO(X:Cx)(e:Option Expr)(t:TO):Prop:=∀(pins:List (Addr×Obj))(s:Shared)(σ:St)(H:Hp)(Q:Option Int->Hp->Prop),Inv X pins σ H s->t σ H Q->wpAny (model X.prog X.w) X.A (evalPart e X.env) (λu s'=>∃o H',Inv X pins σ H' s'/\IsPart u o/\Q o H') X.xe s
def J4:TO:=λ_ H Q=>Q none H
def RW(t:TE):TO:=λσ H Q=>t σ H λx H1=>∃i,x=.int i/\Q (some i) H1
section
variable{X:Cx}{e:Expr}{te:TE}{lo hi:Option Expr}{tl th:TO}{pos p2:Pos}
theorem J5:PO X none J4:=by intro pins s σ H Q I h;rw[evalPart_none];exact zu {none,H,I,.none,h}
theorem CD(h:PE X e te):PO X (some e) (RW te):=by intro pins s σ H Q I hw;rw[evalPart_some];refine bf (h pins s σ H _ I hw) λu s1 ⟨x,H1,I1,r1,q1⟩=>?_;obtain⟨i,rfl,q⟩:=q1;obtain⟨t,rfl⟩:=r1;exact{some i,H1,I1,.int i t,q}
def WU(X:Cx)(r:V->Option Int->Option Int->Hp->VK->Prop):Prop:=∀(pins:List (Addr×Obj))(s:Shared)(σ:St)(H:Hp)(x:V)(v vl vu:Value)(lo hi:Option Int)(sl:Addr)(Q:VK),Inv X pins σ H s->RelV x v->s.heap.IsSliceOf sl vl vu .none->IsPart vl lo->IsPart vu hi->r x lo hi H Q->∃T id,typeLookup (.type T) "__getitem__"= pure (some<|.builtin id)/\s.TypeIs v T/\wpAny (model X.prog X.w) X.A (getItem v<|.ref sl) (EP X pins σ Q) X.xe s
def tSl(r:V->Option Int->Option Int->Hp->VK->Prop)(te:TE)(tl th:TO):TE:=λσ H Q=>te σ H λx H1=>tl σ H1 λl H2=>th σ H2 λu H3=>r x l u H3 Q
theorem GI{r:V->Option Int->Option Int->Hp->VK->Prop}(hr:WU X r)(he:PE X e te)(hl:PO X lo tl)(hu:PO X hi th):PE X (.Subscript e (.Slice lo hi none p2) pos) (tSl r te tl th):=by intro pins s σ H Q I h;refine Subscript_<|bf (he pins s σ H _ I h) λv s1 ⟨x,H1,I1,r1,q1⟩=>?_;refine wpAny_Slice<|bf (hl pins s1 σ H1 _ I1 q1) λvl s2 ⟨l,H2,I2,pl,q2⟩=>bf (hu pins s2 σ H2 _ I2 q2) λvu s3 ⟨u,H3,I3,pu,q3⟩=>?_;rw[evalPart_none];refine zu ?_;have I4:Inv X pins σ H3 {s3 with heap:=s3.heap.push {cls:=.type "slice",data:=.fields #[vl,vu,.none]}}:=I3.kept (t':=s3.toks) λb ob q=>za _ q;obtain⟨T,id,hT,ht,hg⟩:=hr pins {s3 with heap:=s3.heap.push {cls:=.type "slice",data:=.fields #[vl,vu,.none]}} σ H3 x v vl vu l u s3.heap.objs.size Q I4 r1 (Heap.IsSliceOf.new ..) pl pu q3;show wpAny (model X.prog X.w) X.A (subscriptTail e (.Slice lo hi none p2) v<|.ref s3.heap.objs.size) (EP X pins σ Q) X.xe {s3 with heap:=s3.heap.push {cls:=.type "slice",data:=.fields #[vl,vu,.none]}};exact tail_any (ops:=[.ref s3.heap.objs.size,v]) ht hT hg<|by with_unfolding_all rfl
noncomputable def Ex(xs:List V)(lo hi:Option Int):List V:=(xs.drop<|HT.sIx xs.length 0 lo).take<|HT.sIx xs.length xs.length hi-HT.sIx xs.length 0 lo
theorem wV(xs:List V)(lo hi:Option Int):(Ex xs lo hi).length<=xs.length:=by unfold Ex;rw[ya,List.length_drop];lia
end
noncomputable def Jz(n:Nat)(i:Int):Option Nat:=if 0<=i then (if i<n then some i.toNat else none) else if -(n:Int)<=i then some (i+n).toNat else none
noncomputable def uG{α:Type}(xs:List α)(i:Int):Option α:=(Jz xs.length i).bind λj=>xs[j]?
theorem CF(h:Jz n i=some j):seqIndex? i n=some j/\j<n/\-(n:Int)<=i/\i<n:=by unfold Jz at h;by_cases h0:0<=i;rw[if_pos h0]at h;by_cases h1:i<n;rw[if_pos h1]at h;have e:i.toNat=j:=zP h;exact{by rw[seqIndex_of h0 h1,e],by lia,by lia,h1};rw[if_neg h1]at h;cases h;rw[if_neg h0]at h;by_cases h1:-(n:Int)<=i;rw[if_pos h1]at h;have e:(i+n).toNat=j:=zP h;exact{by rw[seqIndex_neg (by lia) h1,e],by lia,h1,by lia};rw[if_neg h1]at h;cases h
theorem uH(h:uG xs i=some v):∃j,seqIndex? i xs.length=some j/\xs[j]?=some v/\j<xs.length/\-(xs.length:Int)<=i/\i<xs.length:=by unfold uG at h;cases e:Jz xs.length i with|none=>(rw[e]at h;cases h)|some j=>rw[e]at h;obtain⟨h1,h2,h3,h4⟩:=CF e;exact⟨j,h1,h,h2,h3,h4⟩
theorem dw{α:Type}{xs:List α}{j:Nat}{v:α}(h:xs[j]?=some v):uG xs (j:Int)=some v:=by
 have hj:j<xs.length:=(ze.mp h).1;have e:Jz xs.length (j:Int)=some j:=by unfold Jz;rw[if_pos<|by lia,if_pos<|by lia];simp
 unfold uG;rw[e];exact h
def CG(b:Expr):Prop:=∀o i,subscripted b false o i=operate [o,i] (getItem o i)
def RX(X:Cx)(r:R2):Prop:=∀(value slice:Expr)(pins:List (Addr×Obj))(s:Shared)(σ:St)(H:Hp)(x y:V)(v u:Value)(Q:VK),Inv X pins σ H s->RelV x v->RelV y u->r x y H Q->subscripted slice false v u=operate [v,u] (getItem v u)->wpAny (model X.prog X.w) X.A (subscriptTail value slice v u) (EP X pins σ Q) X.xe s
def QE(X:Cx)(id:String)(r:V->List V->Hp->VK->Prop):Prop:=∀(pins:List (Addr×Obj))(s:Shared)(σ:St)(H:Hp)(x:V)(xs:List V)(v:Value)(us:List Value)(Q:VK),Inv X pins σ H s->RelV x v->Vals xs us->r x xs H Q->wpAny (model X.prog X.w) X.A (call (.builtin id)<|v::us) (EP X pins σ Q) X.xe s
section
variable{X:Cx}{a b:Expr}{ta tb:TE}{pos:Pos}
theorem RY(hr:RX X r)(ha:PE X a ta)(hb:PE X b tb)(hs:CG b):PE X (.Subscript a b pos) (QB r ta tb):=by intro pins s σ H Q I h;exact Subscript_<|NN ha hb I h λv u s2 x y H2 I2 rx ry q=>hr a b pins s2 σ H2 x y v u Q I2 rx ry q<|hs _ _
def WV(K:Frag):R2:=λx y H Q=>∃p xs i v,x=.ref p/\y=.int i/\iU K H p xs/\uG xs i=some v/\Q v H
def WW(K:Frag):R2:=λx y H Q=>∃p xs i v,x=.ref p/\y=.int i/\iq K H p xs/\uG xs i=some v/\Q v H
def WX:R2:=λx y H Q=>∃z i c,x=.str z/\y=.int i/\z.length<=sizeLine/\uG z.cps.toList i=some c/\Q (.str ⟨#[c]⟩) H
theorem CH:RX X (WV X.K):=by
 intro value slice pins s σ H x y v u Q I rx ry h hs;obtain⟨p,xs,i,z,rfl,rfl,hq,he,q⟩:=h;cases rx;obtain⟨t,rfl⟩:=ry;obtain⟨ay,r,pl,hz⟩:=I.list hq;obtain⟨j,h1,h2,h3,h4,h5⟩:=uH he;obtain⟨w,ew,pe⟩:=r.get h2;have hl:=r.length;have hn:=p_;have fin:EP X pins σ Q w s:=⟨z,H,I,pe,q⟩;by_cases h0:0<=i;have hj:i.toNat=j:=by rw[seqIndex_of h0 h5]at h1;exact zP h1
 exact item_listR pl.isList h0 (by lia) (by rw[hj];simpa using ew) fin hs;have hj:(i+(ay.toArray.size:Int)).toNat=j:=by rw[seqIndex_neg (by lia) h4]at h1;rw[zm,<-hl];exact zP h1
 exact subscriptTail_builtinR (x:=w) pl.isList.typeIs slot_list_getitem.lookup (wpAny_getItem_list_neg (Q:=λr s'=>r=w/\EP X pins σ Q r s') pl.isList (by lia) (by rw[zm]<;>lia) (by lia) (by rw[hj];simpa using ew) ⟨rfl,fin⟩) hs
theorem GJ:RX X (WW X.K):=by intro value slice pins s σ H x y v u Q I rx ry h hs;obtain⟨p,xs,i,z,rfl,rfl,hq,he,q⟩:=h;cases rx;obtain⟨t,rfl⟩:=ry;obtain⟨ay,r,pl,hz⟩:=I.tuple hq;obtain⟨j,h1,h2,h3,h4,h5⟩:=uH he;obtain⟨w,ew,pe⟩:=r.get h2;have hl:=r.length;have hn:=p_;have fin:EP X pins σ Q w s:=⟨z,H,I,pe,q⟩;exact subscriptTail_builtinR (x:=w) pl.typeIs slot_tuple_getitem.lookup (getItem_tuple (j:=j) (Q:=λr s'=>r=w/\EP X pins σ Q r s') pl (by lia) (by lia) (by rw[zm,<-hl];exact h1) (by simpa using ew) ⟨rfl,fin⟩) hs
theorem N3:RX X WX:=by
 intro value slice pins s σ H x y v u Q I rx ry h hs;obtain⟨z,i,c,rfl,rfl,hz,he,q⟩:=h;obtain⟨t,rfl⟩:=rx;obtain⟨t',rfl⟩:=ry;obtain⟨j,h1,h2,h3,h4,h5⟩:=uH he;have hl:z.cps.toList.length=z.length:=by simp[Str.length]
 rw[hl]at h1 h4 h5;have hn:=p_;exact tail_any (typeIs_str s z t) slot_str_getitem.lookup (getItem_str (c:=c) (by have e1:decide (i < -(2^63:Int))=false:=zo (by lia);have e2:decide (i>=2^63)=false:=zo (by lia);rw[e1,e2,Bool.or_false]) (by rw[h1];simpa using h2) {.str ⟨#[c]⟩,H,I.tok _,{_,rfl},q}) hs
theorem AF(ay:List Value)(n j:Nat)(u:Value):Obj.mapSeq (·.setIfInBounds j u) {cls:=.type "list",data:=.seq ay.toArray n}={cls:=.type "list",data:=.seq (ay.set j u).toArray n}:=by simp[Obj.mapSeq]
theorem Inv.lst(I:Inv X pins σ H s)(h:H p=some (.lst xs)): ∃(ay:List Value)(n:Nat),Vals xs ay/\s.heap.get? p=some {cls:=.type "list",data:=.seq ay.toArray n}/\xs.length<=sizeLine:=by obtain⟨z,ay,n,r,e⟩:=I.aH p _ h;exact⟨ay,n,r,e,z⟩
theorem Inv.N4{pins:List<|Addr×Obj}{σ:St}{H:Hp}{s:Shared}{p:Addr}{xs ys:List V}{ay its':List Value}{n n':Nat}{f:Obj->Obj}(I:Inv X pins σ H s)(h:H p=some (.lst xs)) (ho:s.heap.get? p=some {cls:=.type "list",data:=.seq ay.toArray n}) (hf:f {cls:=.type "list",data:=.seq ay.toArray n}={cls:=.type "list",data:=.seq its'.toArray n'}) (r:Vals ys its') (hz:ys.length<=sizeLine) (t:Nat): Inv X pins σ (upd H p<|.lst ys) {s with heap:=s.heap.update p f,toks:=t}:=by
 have e:(s.heap.update p f).get? p=some {cls:=.type "list",data:=.seq its'.toArray n'}:=by rw[yp f ho<|by rw[hf]<;>rfl,hf]
 refine I.write (x:=p) (e:=p) (by rw[h];trivial) (.inl rfl) (λb u hb q=>(yk _ _<|Ne.symm hb).trans q) {_,e} ?_;exact⟨hz,its',n',r,e⟩
def RZ:V->V->V->Hp->(Hp->Prop)->Prop:=λo i v H Q=>∃p xs k j,o=.ref p/\i=.int k/\H p=some (.lst xs)/\Jz xs.length k=some j/\Q (upd H p<|.lst<|xs.set j v)
theorem set_list:RA X RZ:=by
 intro pins s σ H o i v ov iv u Q I ro ri rv h;obtain⟨p,xs,k,j,rfl,rfl,hp,hj,q⟩:=h;cases ro;obtain⟨t,rfl⟩:=ri;obtain⟨ay,n,r,ho,hz⟩:=I.lst hp;obtain⟨h1,h2,h3,h4⟩:=CF hj;have hl:=r.length;have hn:=p_;have I':Inv X pins σ (upd H p<|.lst<|xs.set j v) {s with heap:=s.heap.update p (Obj.mapSeq (·.setIfInBounds j u))}:=I.N4 hp ho (AF ay n j u) (r.set rv j) (by rw[List.length_set];exact hz) s.toks;by_cases h0:0<=k;have hk:k.toNat=j:=by rw[seqIndex_of h0 h4]at h1;exact zP h1
 exact PySem.W.ki_setAt ho h0 (by lia) (by rw[zm,<-hl];exact h4) (by rw[hk];exact{_,I',q});have hk:(k+(ay.toArray.size:Int)).toNat=j:=by rw[seqIndex_neg (by lia) h3]at h1;rw[zm,<-hl];exact zP h1
 exact PySem.W.ki_setBack ho (by lia) (by rw[zm,<-hl];exact h3) (by lia)<|by rw[hk];exact{_,I',q}
theorem uI(lo hi:Option Int)(n:Nat):(sliceBounds lo hi none n).1=((HT.sIx n 0 lo:Nat):Int)/\(sliceBounds lo hi none n).2.1=((HT.sIx n n hi:Nat):Int)/\(sliceBounds lo hi none n).2.2=1:=by
 refine{?_,?_,rfl};cases lo with|none=>simp[sliceBounds,HT.sIx]|some i=>simp only[sliceBounds,HT.sIx,Option.getD_none,show(1:Int)>0 by decide,if_true];by_cases h:i<0;simp only[h,if_true]<;>lia;simp only[h,if_false]<;>lia
 cases hi with|none=>simp[sliceBounds,HT.sIx]|some i=>simp only[sliceBounds,HT.sIx,Option.getD_none,show(1:Int)>0 by decide,if_true];by_cases h:i<0;simp only[h,if_true]<;>lia;simp only[h,if_false]<;>lia
theorem sy(ay:List Value)(lo hi:Option Int):slicePick ay.toArray lo hi none=((ay.drop<|HT.sIx ay.length 0 lo).take<|HT.sIx ay.length ay.length hi-HT.sIx ay.length 0 lo).toArray:=by obtain⟨h1,h2,h3⟩:=uI lo hi ay.toArray.size;unfold slicePick;rw[h1,h2,h3];simp only[sliceRange_one,pick_run,zm]<;>rfl
def WY(K:Frag):V->Option Int->Option Int->Hp->VK->Prop:=λx lo hi H Q=>∃a xs,x=.ref a/\iU K H a xs/\∀p,H p=none->Q (.ref p) (upd H p<|.lst<|Ex xs lo hi)
theorem CI:WU X (WY X.K):=by intro pins s σ H x v vl vu lo hi sl Q I rx hs pl pu h;obtain⟨a,xs,rfl,hx,q⟩:=h;cases rx;obtain⟨ay,r,ht,hz⟩:=I.list hx;have hlen:=r.length;refine{"list",_,slot_list_getitem.lookup,ht.isList.typeIs,?_};refine wpAny_getItem_list_slice ht.isList hs pl pu .none (by simp) ?_ (by rw[zm]<;>lia);rw[sy,<-hlen];refine{.ref s.heap.objs.size,_,I.laid (t':=s.toks) (o:=.lst<|Ex xs lo hi) (λb ob q=>za _ q) (zk _) ?_,rfl,q _<|I.aH.fresh<|zk _};exact{zK (wV xs lo hi) hz,_,0,(r.drop<|HT.sIx xs.length 0 lo).take<|HT.sIx xs.length xs.length hi-HT.sIx xs.length 0 lo,zj _ rfl}
noncomputable def gE:V->Bool|.ax=>true|.bl _=>true|.int _=>true|.str _=>true|_=>false
noncomputable def eqV:V->V->Bool|.ax,.ax=>true|.bl a,.bl b=>a==b|.bl a,.int b=>((if a then 1 else 0)==b)|.int a,.bl b=>(a==(if b then 1 else 0))|.int a,.int b=>a==b|.str a,.str b=>a==b|_,_=>false
theorem N5(ry:RelV y u)(rx:RelV x v)(fy:gE y=true)(fx:gE x=true):SeqAt.EqAt A s u v (eqV y x):=by cases y with|ax=>(cases ry;cases x with|ax=>(cases rx;exact SeqAt.EqAt.same _)|bl b=>(cases rx;exact SeqAt.EqAt.none_bool b)|int b=>(obtain⟨t,rfl⟩:=rx;exact SeqAt.EqAt.none_int b t)|str b=>(obtain⟨t,rfl⟩:=rx;exact SeqAt.EqAt.none_str b t)|_=>exact absurd (show false=true from fx) zd)|bl a=>(cases ry;cases x with|ax=>(cases rx;exact SeqAt.EqAt.bool_none a)|bl b=>(cases rx;exact SeqAt.EqAt.bool_bool a b)|int b=>(obtain⟨t,rfl⟩:=rx;exact SeqAt.EqAt.bool_int a b t)|str b=>(obtain⟨t,rfl⟩:=rx;exact SeqAt.EqAt.bool_str a b t)|_=>exact absurd (show false=true from fx) zd)|int a=>(obtain⟨t',rfl⟩:=ry;cases x with|ax=>(cases rx;exact SeqAt.EqAt.int_none a t')|bl b=>(cases rx;exact SeqAt.EqAt.int_bool a t' b)|int b=>(obtain⟨t,rfl⟩:=rx;exact SeqAt.EqAt.int_int a t' b t)|str b=>(obtain⟨t,rfl⟩:=rx;exact SeqAt.EqAt.int_str a t' b t)|_=>exact absurd (show false=true from fx) zd)|str a=>(obtain⟨t',rfl⟩:=ry;cases x with|ax=>(cases rx;exact SeqAt.EqAt.str_none a t')|bl b=>(cases rx;exact SeqAt.EqAt.str_bool a t' b)|int b=>(obtain⟨t,rfl⟩:=rx;exact SeqAt.EqAt.str_int a t' b t)|str b=>(obtain⟨t,rfl⟩:=rx;exact SeqAt.EqAt.str_str a t' b t)|_=>exact absurd (show false=true from fx) zd)|_=>exact absurd (show false=true from fy) zd
noncomputable def GK(x:V)(u:Value):Bool:=match u with|.none=>eqV .ax x|.bool b=>eqV (.bl b) x|.int i _=>eqV (.int i) x|.str z _=>eqV (.str z) x|_=>false
theorem AG(r:RelV y u)(f:gE y=true):GK x u=eqV y x:=by cases y with|ax=>(cases r;rfl)|bl b=>(cases r;rfl)|int i=>(obtain⟨t,rfl⟩:=r;rfl)|str z=>(obtain⟨t,rfl⟩:=r;rfl)|_=>exact absurd (show false=true from f) zd
theorem uJ:∀{xs:List V}{us:List Value},Vals xs us->xs.all gE=true->us.any (GK x)=xs.any λy=>eqV y x|_,_,.nil,_=>rfl|y::xs,u::us,.cons r t,f=>by rw[List.all_cons,zL]at f;rw[yJ,yJ,AG r f.1,uJ t f.2]
theorem lN(rx:RelV x v)(fx:gE x=true):∀{xs:List V}{us:List Value},Vals xs us->xs.all gE=true->∀u∈us,SeqAt.EqAt A s u v (GK x u)|_,_,.nil,_=>(λu hu=>by cases hu)|y::xs,u::us,.cons r t,f=>λu' hu=>by rw[List.all_cons,zL]at f;rcases zf.mp hu with rfl|hu;rw[AG r f.1];exact N5 r rx f.1 fx;exact lN rx fx t f.2 u' hu
noncomputable def Ey(x:V)(xs:List V):Bool:=xs.any λy=>eqV y x
def rIn(K:Frag)(neg:Bool):R2:=λx y H Q=>∃p xs,y=.ref p/\(iU K H p xs\/iq K H p xs)/\gE x=true/\xs.all gE=true/\Q (.bl<|if neg then !Ey x xs else Ey x xs) H
theorem mU:g9 X (compareOp .In) (rIn X.K false):=by intro pins s σ H x y v u Q I rx ry h;obtain⟨p,xs,rfl,hq,fx,fs,q⟩:=h;cases ry;rcases hq with hq|hq;obtain⟨ay,r,pl,hz⟩:=I.list hq;refine SeqAt.in_listAt (GK x) pl.isList (λw hw=>lN rx fx r fs w<|by simpa using hw) {.bl _,H,I,rfl,?_};rw[show ay.toArray.any (GK x)=ay.any (GK x) by simp,uJ r fs];exact q;obtain⟨ay,r,pl,hz⟩:=I.tuple hq;refine SeqAt.in_tupleAt (GK x) pl (λw hw=>lN rx fx r fs w<|by simpa using hw) {.bl _,H,I,rfl,?_};rw[show ay.toArray.any (GK x)=ay.any (GK x) by simp,uJ r fs];exact q
theorem lO:cS X (.type "list") (λxs H Q=>∃p ys,xs=[.ref p]/\(iU X.K H p ys\/iq X.K H p ys)/\∀l,H l=none->Q (.ref l) (upd H l<|.lst ys)):=by intro pins s σ H xs us Q I r h;obtain⟨p,ys,rfl,hq,q⟩:=h;obtain⟨u,rfl,rx⟩:=vals1 r;cases rx;have fin:∀(ay:List Value),Vals ys ay->ys.length<=sizeLine->∀(h':Heap) (c':Nat),(∀b o',s.heap.get? b=some o'->h'.get? b=some o')->h'.get? s.heap.objs.size=some {cls:=.type "list",dict:=none,data:=.seq ay.toArray c',slots:=#[]}->EP X pins σ Q (.ref s.heap.objs.size) {s with heap:=h'}:=λay r' hz h' c' kp e=>{.ref s.heap.objs.size,_,I.laid (t':=s.toks) kp (zk _)<|show ba X.prog X.w _ h' _ (.lst ys) from⟨hz,ay,c',r',e⟩,rfl,q _<|I.aH.fresh<|zk _};rcases hq with hq|hq;obtain⟨ay,r',pl,hz⟩:=I.list hq;have hlen:=r'.length;obtain⟨o,ho,hc,n,hd⟩:=pl.isList;exact call_list_seq p (.inl rfl) ho hc hd (λh' c' kp e=>fin ay r' hz h' c' kp e) (by simp only[zm]<;>lia);obtain⟨ay,r',pl,hz⟩:=I.tuple hq;have hlen:=r'.length;obtain⟨o,ho,hc,n,hd⟩:=pl;exact call_list_seq p (.inr rfl) ho hc hd (λh' c' kp e=>fin ay r' hz h' c' kp e)<|by simp only[zm]<;>lia
theorem ke:cS X (.type "tuple") (λxs H Q=>∃p ys,xs=[.ref p]/\((iU X.K H p ys/\∀l,H l=none->Q (.ref l) (upd H l<|.tup ys))\/(iq X.K H p ys/\Q (.ref p) H))):=by intro pins s σ H xs us Q I r h;obtain⟨p,ys,rfl,h⟩:=h;obtain⟨u,rfl,rx⟩:=vals1 r;cases rx;rcases h with⟨hq,q⟩|⟨hq,q⟩;obtain⟨ay,r',pl,hz⟩:=I.list hq;have hlen:=r'.length;refine call_tuple_list pl.isList (λh' kp=>?_) (by simp only[zm]<;>lia);have I1:Inv X pins σ H {s with heap:=h'}:=I.kept (t':=s.toks) kp;have I2:Inv X pins σ (upd H h'.objs.size<|.tup ys) {s with heap:=h'.push {cls:=.type "tuple",data:=.seq ay.toArray}}:=I1.laid (t':=s.toks) (λb o e=>za _ e) (zk _)<|show ba X.prog X.w _ _ _ (.tup ys) from{hz,ay,r',iX.new _ _};exact{.ref h'.objs.size,_,I2,rfl,q _<|I1.aH.fresh<|zk _};obtain⟨ay,r',pl,hz⟩:=I.tuple hq;exact call_tuple_same pl {.ref p,H,I,rfl,q}
def VC(K:Frag)(T:String)(x:V)(H:Hp):Prop:=match x with|.str _=>T ="str"|.int _=>T ="int"|.ref p=>(T ="list"/\∃xs,iU K H p xs)\/(T ="tuple"/\∃o,K.lookup p=some o/\o.cls=.type "tuple"/\o.dict=none)\/(T ="dict"/\((∃kvs,H p=some (.dK kvs))\/∃kvs,H p=some (.dT kvs)))\/(T ="set"/\∃S n,H p=some (.set S n))|_=>False
theorem GL{T:String}(I:Inv X pins σ H s)(r:RelV x v)(ty:VC X.K T x H): s.TypeIs v T/\∀a,v=.ref a->∃ob,s.heap.get? a=some ob/\ob.dict=none:=by cases x with|str z=>(obtain⟨t,rfl⟩:=r;cases (show T ="str" from ty);exact{typeIs_str s z t,λ_ e=>nomatch e})|int i=>(obtain⟨t,rfl⟩:=r;cases (show T ="int" from ty);exact{typeIs_int s i t,λ_ e=>nomatch e})|ref p=>(cases r;rcases ty with⟨rfl,xs,hq⟩|⟨rfl,o,hk,hc,hd⟩|⟨rfl,hk⟩|⟨rfl,S,n,hk⟩;obtain⟨ay,_,pl,_⟩:=I.list hq;refine{pl.isList.typeIs,λa e=>?_};cases e;obtain⟨o,n,e,c,hd,_⟩:=pl;exact⟨o,e,hd⟩;refine{{o,I.lE p o hk,hc},λa e=>?_};cases e;exact{o,I.lE _ o hk,hd};have z:∃o,s.heap.get? p=some o/\o.ExactDict:=(by rcases hk with⟨kvs,hk⟩|⟨kvs,hk⟩;obtain⟨_,_,_,_,o,_,_,e,ex,_⟩:=I.aH p _ hk;exact⟨o,e,ex⟩;exact False.elim<|I.aH p _ hk);obtain⟨o,e,ex⟩:=z;refine{⟨o,e,ex.1⟩,λa e2=>?_};cases e2;exact⟨o,e,ex.2.1⟩;obtain⟨o,_,_,_,e,ex,_⟩:=I.aH p _ hk;refine{⟨o,e,ex.1⟩,λa e2=>?_};cases e2;exact⟨o,e,ex.2.1⟩)|_=>exact False.elim ty
def WZ(K:Frag)(T:String)(r:V->List V->Hp->VK->Prop)(to:TE):TE:=λσ H Q=>to σ H λx H1=>VC K T x H1/\r x [] H1 Q
def tBM(K:Frag)(T:String)(r:V->List V->Hp->VK->Prop)(to:TE)(t:TA):TE:=λσ H Q=>to σ H λx H1=>VC K T x H1/\t σ H1 λxs H2=>r x xs H2 Q
variable{o e:Expr}{es:List Expr}{to:TE}{t:TA}{name:Str}{apos aN:Pos}{T id:String}{r:V->List V->Hp->VK->Prop}
theorem N6(pa:PlainAttrs T)(slot:Slot T name id)(N7:typeOf (.builtin id)=pure (.type "method_descriptor"))(hm:QE X id r)(ho:PE X o to) (lP:autoParam (attributeBase o name X.env (eval o X.env)=eval o X.env) qQJ) (qj:autoParam ((apos.endLine==aN.line)=true) qQJ):PE X (.Call (.Attribute o name apos) [] [] aN) (WZ X.K T r to):=by intro pins s σ H Q I h;refine wpAny_Call_method0_late lP qj<|bf (ho pins s σ H _ I h) λv s1 ⟨x,H1,I1,r1,ty,q1⟩=>?_;obtain⟨h1,h2⟩:=GL I1 r1 ty;exact{T,id,pa,slot,N7,h1,h2,Calls.callWith_builtin rfl<|PySem.evalArgs_none<|hm pins s1 σ H1 x [] v [] Q I1 r1 .nil q1}
theorem R1(pa:PlainAttrs T)(slot:Slot T name id)(N7:typeOf (.builtin id)=pure (.type "method_descriptor"))(hm:QE X id r)(ho:PE X o to)(ha:PA X (e::es) t) (lP:autoParam (attributeBase o name X.env (eval o X.env)=eval o X.env) qQJ) (N8:autoParam (((backTo aN<|starEach (e::es) X.env).all (λx=>!x.1)&&(backToKw aN<|keywordEach [] X.env).all (λx=>x.1.isSome)&&decide ((e::es).length+([]:List Keyword).length+(if ([]:List Keyword).isEmpty then 0 else 1)<30))=true) qQJ) (qj:autoParam ((apos.endLine==aN.line)=true) qQJ) (hs:autoParam (starEach (e::es) X.env=(false,eval e X.env)::starEach es X.env) qQJ) (AH:autoParam ((backTo aN<|starEach es X.env).any (·.1)=false) qQJ): PE X (.Call (.Attribute o name apos) (e::es) [] aN) (tBM X.K T r to t):=by intro pins s σ H Q I h;refine wpAny_Call_method_late lP N8 qj rfl<|bf (ho pins s σ H _ I h) λv s1 ⟨x,H1,I1,r1,ty,q1⟩=>?_;obtain⟨h1,h2⟩:=GL I1 r1 ty;refine{T,id,pa,slot,N7,h1,h2,?_};have hA:=ha aN pins s1 σ H1 _ I1 q1;rw[hs]at hA⊢;refine Calls.callWith_builtin (by show(false||(backTo aN<|starEach es X.env).any (·.1))=false;rw[AH]<;>rfl)<|Calls.evalArgs_plain ?_;exact bf hA <| by rintro us s2 ⟨vs,H2,I2,r2,q2⟩;exact hm pins s2 σ H2 x vs v us Q I2 r1 r2 q2
end
def W0(X:Cx)(id:String)(r:V->List V->Hp->VK->Prop):Prop:=∀(pins:List (Addr×Obj))(s:Shared)(σ:St)(H:Hp)(x:V)(xs:List V)(v:Value)(us:List Value)(Q:VK),Inv X pins σ H s->RelV x v->Vals xs us->r x xs H Q->wpAny (model X.prog X.w) X.A (call (.builtin id)<|v::us) (EP X pins σ Q) X.xe s
theorem Vals.one:∀{x:V}{us:List Value},Vals [x] us->∃u,us=[u]/\RelV x u:=by intro x us h;cases h with|cons r t=>cases t;exact{_,rfl,r}
theorem Vals.two:∀{x y:V}{us:List Value},Vals [x,y] us->∃u v,us=[u,v]/\RelV x u/\RelV y v:=by intro x y us h;cases h with|cons r t=>obtain⟨_,rfl,q⟩:=Vals.one t;exact{_,_,rfl,r,q}
theorem Vals.zero:∀{us:List Value},Vals [] us->us=[]|_,.nil=>rfl
theorem Vals.dropLast{xs:List V}{us:List Value}(h:Vals xs us):Vals xs.dropLast us.dropLast:=by induction h with|nil=>exact .nil|cons r t ih=>cases t with|nil=>exact .nil|cons q t'=>exact .cons r ih
theorem Vals.reverse{xs:List V}{us:List Value}(h:Vals xs us):Vals xs.reverse us.reverse:=by induction h with|nil=>exact .nil|cons r t ih=>rw[List.reverse_cons,List.reverse_cons];exact Vals.append ih<|.cons r .nil
theorem AI{α:Type}(l:List α):l.eraseIdx (l.length-1)=l.dropLast:=by induction l with|nil=>rfl|cons a r ih=>cases r with|nil=>rfl|cons b r=>have e:(a::b::r).length-1=((b::r).length-1)+1:=(by have h1:(a::b::r).length=r.length+2:=rfl;have h2:(b::r).length=r.length+1:=rfl;lia);rw[e,List.eraseIdx_cons_succ,ih];all_goals rfl
section
variable{X:Cx}{pins:List (Addr×Obj)}{σ:St}{H:Hp}{s:Shared}{l:Addr}{xs ys:List V}
theorem Inv.N9{ay its':List Value}{n:Nat}{f:Array Value->Array Value}{t':Nat}(I:Inv X pins σ H s)(hH:H l=some (.lst xs)) (e:s.heap.get? l=some {cls:=.type "list",data:=.seq ay.toArray n}) (hf:f ay.toArray=its'.toArray) (hv:Vals ys its') (hz:ys.length<=sizeLine): Inv X pins σ (upd H l<|.lst ys) {s with heap:=s.heap.update l<|Obj.mapSeq f,toks:=t'}:=by have q:=PySem.IsL.update e f;rw[hf]at q;refine I.write (x:=l) (e:=l) (by rw[hH];exact trivial) (.inl rfl) (λb' u hb hu=>(yk s.heap (Obj.mapSeq f)<|Ne.symm hb).trans hu) {_,q} ?_;exact{hz,its',_,hv,q}
theorem Inv.W2(I:Inv X pins σ H s)(hv:Vals ys ay)(hz:ys.length<=sizeLine): Inv X pins σ (upd H s.heap.objs.size<|.lst ys) {s with heap:=s.heap.push {cls:=.type "list",data:=.seq ay.toArray},toks:=t'}:=I.laid (λ_ _ q=>za _ q) (zk _) {hz,ay,0,hv,zj _ rfl}
theorem Inv.fresh(I:Inv X pins σ H s):H s.heap.objs.size=none:=I.aH.fresh<|zk _
theorem Inv.GN(I:Inv X pins σ H s)(hH:H l=some (.lst xs)):xs.length<=sizeLine/\∃(ay:List Value)(n:Nat),Vals xs ay/\xs.length=ay.length/\s.heap.get? l=some {cls:=.type "list",data:=.seq ay.toArray n}:=by obtain⟨z,ay,n,r,e⟩:=I.aH l _ hH;exact⟨z,ay,n,r,r.length,e⟩
theorem GO{n:Nat}(h:n<=sizeLine):Builtin.List.listTooLong n=false:=by unfold Builtin.List.listTooLong;exact zo<|by lia
end
section
variable{X:Cx}
def J6:V->List V->Hp->VK->Prop:=λx vs H Q=>∃l xs y,x=.ref l/\vs=[y]/\H l=some (.lst xs)/\xs.length<sizeLine/\Q .ax (upd H l<|.lst<|xs++[y])
theorem Ez:W0 X "list.append" J6:=by intro pins s σ H x vs v us Q I rx rv h;obtain⟨l,xs,y,rfl,rfl,hH,hz,q⟩:=h;cases rx;obtain⟨u,rfl,ru⟩:=rv.one;obtain⟨z,ay,n,r,hl,e⟩:=I.GN hH;refine call_meets F.slot_list_append {_,e,rfl} F.entry_list_append (F.args_list_append_2 _ _) (PySem.list_append l ay.toArray n u<|by rw[zm];lia) {e,?_};refine{.ax,_,I.N9 (its':=ay++[u]) hH e (by simp) (r.append<|.cons ru .nil) ?_,rfl,q};rw[zG,List.length_singleton];lia
def W3:V->List V->Hp->VK->Prop:=λx vs H Q=>∃l xs y,x=.ref l/\vs=[]/\H l=some (.lst xs)/\xs[xs.length-1]?=some y/\Q y (upd H l<|.lst xs.dropLast)
theorem N_:W0 X "list.pop" W3:=by
 intro pins s σ H x vs v us Q I rx rv h;obtain⟨l,xs,y,rfl,rfl,hH,hy,q⟩:=h;cases rx;have hus:=rv.zero;subst hus;obtain⟨z,ay,n,r,hl,e⟩:=I.GN hH;obtain⟨u,hu,ru⟩:=r.get hy;have R3:ay.toArray[ay.toArray.size-1]?=some u:=by show ay.toArray[ay.length-1]?=some u;rw[<-Array.getElem?_toList,<-hl];exact hu
 refine call_meets F.slot_list_pop {_,e,rfl} F.entry_list_pop (F.args_list_pop_1 _) (MeetsSeq.list_pop_last l ay.toArray n u R3<|by rw[zm];lia) {e,?_};refine{y,_,I.N9 (its':=ay.dropLast) hH e ?_ r.dropLast ?_,ru,q};show ay.toArray.eraseIdxIfInBounds (ay.toArray.size-1)=ay.dropLast.toArray;rw[zm,List.eraseIdxIfInBounds_toArray,AI];rw[List.length_dropLast];lia
def W4:R2:=λx y H Q=>∃l b xs zs,x=.ref l/\y=.ref b/\H l=some (.lst xs)/\H b=some (.lst zs)/\xs.length+zs.length<=sizeLine/\∀p,H p=none->Q (.ref p) (upd H p<|.lst<|xs++zs)
theorem Oa:g9 X (binaryOp .Add) W4:=by
 intro pins s σ H x y v u Q I rx ry h;obtain⟨l,b,xs,zs,rfl,rfl,hH,hB,hz,q⟩:=h;cases rx;cases ry;obtain⟨z,ay,n,r,hl,e⟩:=I.GN hH;obtain⟨z2,sA,n2,r2,wD,e2⟩:=I.GN hB;refine PySem.P.add_list e e2 ?_ (by rw[zm,zm];lia);have ea:ay.toArray++sA.toArray=(ay++sA).toArray:=by simp
 rw[ea];exact{.ref _,_,I.W2 (t':=s.toks) (r.append r2)<|by rw[zG];lia,rfl,q _ I.fresh}
end
section
variable{κ:Type}[DecidableEq κ]
noncomputable def fR(kvs:List<|κ×V)(k:κ):Option V:=(kvs.find? λkv=>decide<|kv.1=k).map (·.2)
noncomputable def putK(kvs:List<|κ×V)(k:κ)(v:V):List (κ×V):=if (kvs.any λkv=>decide<|kv.1=k)=true then kvs.map (λkv=>if kv.1=k then (kv.1,v) else kv) else kvs++[(k,v)]
noncomputable def oj(kvs:List<|κ×V)(k:κ):List (κ×V):=kvs.filter λkv=>decide<|kv.1≠k
theorem qk{p:κ×V}{r:List<|κ×V}{k:κ}(e:p.1=k):fR (p::r) k=some p.2:=by simp[fR,zT,e]
theorem ql{p:κ×V}{r:List<|κ×V}{k:κ}(e:¬p.1=k):fR (p::r) k=fR r k:=by simp[fR,zT,e]
theorem om(kvs:List<|κ×V)(k:κ)(v:V):(putK kvs k v).length<=kvs.length+1:=by unfold putK;split;rw[zc];lia;rw[zG,zO,List.length_nil];lia
theorem fP.mV(r:fP o u):o.isSome=u.isSome:=by cases o with|none=>(cases u with|none=>rfl|some _=>exact(show False from r).elim)|some _=>cases u with|none=>exact(show False from r).elim|some _=>rfl
theorem fP.getD{o:Option V}{u:Option Value}{d:V}{d':Value}(r:fP o u)(rd:RelV d d'):RelV (o.getD d) (u.getD d'):=by cases o with|none=>(cases u with|none=>exact rd|some _=>exact(show False from r).elim)|some _=>cases u with|none=>exact(show False from r).elim|some _=>exact r
theorem KV.val{kvs:List<|κ×V}{vs:List<|κ×Value}(r:KV kvs vs)(k:κ):fP (fR kvs k) (valueAt vs k):=by unfold KV at r;induction r with|nil=>exact True.intro|@cons p q ps qs h t ih=>obtain⟨h1,h2⟩:=h;by_cases e:p.1=k;have e':q.1=k:=h1.symm.trans e;have b:valueAt (q::qs) k=some q.2:=(by simp[valueAt,zT,e']);rw[qk e,b];exact h2;have e':¬q.1=k:=λz=>e<|h1.trans z;have b:valueAt (q::qs) k=valueAt qs k:=(by simp[valueAt,zT,e']);rw[ql e,b];exact ih
theorem KV.any{kvs:List<|κ×V}{vs:List<|κ×Value}(r:KV kvs vs)(k:κ):(kvs.any λkv=>decide<|kv.1=k)=vs.any λkv=>decide (kv.1=k):=by unfold KV at r;induction r with|nil=>rfl|cons h t ih=>rw[yJ,yJ,ih,h.1]
theorem KV.Ob(r:KV kvs vs)(k:κ)(ry:RelV y u): KV (kvs.map λkv=>if kv.1=k then (kv.1,y) else kv) (vs.map λkv=>if kv.1=k then (kv.1,u) else kv):=by unfold KV at r⊢;induction r with|nil=>exact .nil|@cons p q ps qs h t ih=>rw[zE,zE];refine .cons ?_ ih;obtain⟨h1,h2⟩:=h;by_cases e:p.1=k;rw[if_pos e,if_pos<|h1.symm.trans e];exact⟨h1,ry⟩;rw[if_neg e,if_neg λz=>e<|h1.trans z];exact⟨h1,h2⟩
theorem KV.put(r:KV kvs vs)(k:κ)(ry:RelV y u):KV (putK kvs k y) (stored vs k u):=by unfold putK stored;rw[r.any k];by_cases e:(vs.any λkv=>decide<|kv.1=k)=true;rw[if_pos e,if_pos e];exact r.Ob k ry;rw[if_neg e,if_neg e];exact Paired.snoc r ⟨rfl,ry⟩
theorem KV.drop(r:KV kvs vs)(k:κ):KV (oj kvs k) (without vs k):=by unfold KV at r⊢;unfold oj without;induction r with|nil=>exact .nil|@cons p q ps qs h t ih=>obtain⟨h1,h2⟩:=h;rw[yz,yz];by_cases e:p.1=k;have a:¬decide (p.1≠k)=true:=(by simp[e]);have b:¬decide (q.1≠k)=true:=(by simp[h1.symm.trans e]);rw[if_neg a,if_neg b];exact ih;have e':¬q.1=k:=λz=>e<|h1.trans z;have a:decide (p.1≠k)=true:=(by simp[e]);have b:decide (q.1≠k)=true:=(by simp[e']);rw[if_pos a,if_pos b];exact .cons ⟨h1,h2⟩ ih
theorem KV.length{kvs:List<|κ×V}{vs:List<|κ×Value}(r:KV kvs vs):kvs.length=vs.length:=yD r
theorem GP(kvs:List<|κ×V)(k:κ):(oj kvs k).length<=kvs.length:=List.length_filter_le _ _
end
theorem kf(r:RelV (kV k) u):(aF P w).is k u=true:=by cases k with|inl i=>(obtain⟨t,e⟩:=(show ∃t,u=Value.int i t from r);subst e;exact wM P w i t)|inr x=>obtain⟨t,e⟩:=(show ∃t,u=Value.str x t from r);subst e;exact iW P w x t
theorem tN:∀{ks:List Key}{us:List Value},Vals (ks.map kV) us->ItemsAre (aF P w) ks us|[],_,r=>(by rw[List.map_nil]at r;cases r;exact .nil)|k::ks,_,r=>by rw[zE]at r;cases r with|cons h t=>exact .cons (kf h)<|tN t
abbrev KT(H:Hp):List (List Key×V)->List (List Key×Addr×Value)->Prop:=Paired λp q=>p.1=q.1/\H q.2.1=some (.tup<|p.1.map kV)/\RelV p.2 q.2.2
theorem KT.val{H:Hp}{kvs:List<|List Key×V}{xs:List<|List Key×Addr×Value}(r:KT H kvs xs)(k:List Key):fP (fR kvs k) ((atKey xs k).map (·.2)):=by induction r with|nil=>exact True.intro|@cons p q ps qs h t ih=>obtain⟨h1,_,h2⟩:=h;by_cases e:p.1=k;have e':q.1=k:=h1.symm.trans e;have b:atKey (q::qs) k=some q.2:=(by simp[atKey,zT,e']);rw[qk e,b];exact h2;have e':¬q.1=k:=λz=>e<|h1.trans z;have b:atKey (q::qs) k=atKey qs k:=(by simp[atKey,zT,e']);rw[ql e,b];exact ih
section
variable{P:Program}{w:World}{H:Hp}{h:Heap}{a:Addr}
theorem Mr(ok:jR P w H h)(e:Rd H a u):ba P w H h a u:=e.ok ok
theorem oo(ok:jR P w H h)(e:Rd H a<|.dK kvs):kvs.length<=sizeLine/\(a==sysModules)=false/\∃vs,KV kvs vs/\h.DictOf (aF P w) a vs:=show ba P w H h a (.dK kvs) from Mr ok e
theorem CJ(ok:jR P w H h)(e:H a=some (.dK kvs)):kvs.length<=sizeLine/\(a==sysModules)=false/\∃vs,KV kvs vs/\h.DictOf (aF P w) a vs:=oo ok<|.inl e
theorem uK(ok:jR P w H h)(e:H a=some (.tup<|ks.map kV)):(tupleKind<|aF P w).is h ks a:=by obtain⟨_,ay,r,o,h1,h2,_,n,h3⟩:=(show ba P w H h a (.tup<|ks.map kV) from ok a _ e);exact{o,ay.toArray,n,h1,h2,h3,by simpa using tN r}
theorem tO(ok:jR P w H h)(e:Rd H a<|.dT kvs):kvs.length<=sizeLine/\(a==sysModules)=false/\∃xs,KT H kvs xs/\h.DictOfH (tupleKind<|aF P w) a xs:=by exact False.elim<|show ba P w H h a (.dT kvs) from Mr ok e
end
def pf(H:Hp)(a:Addr)(y:V)(r:Option V):Prop:=(∃kvs k,Rd H a (.dK kvs)/\y=kV k/\r=fR kvs k)\/∃kvs k b,Rd H a (.dT kvs)/\y=.ref b/\H b=some (.tup<|k.map kV)/\r=fR kvs k
def GQ(H:Hp)(a:Addr)(y v:V)(H':Hp):Prop:=(∃kvs k,H a=some (.dK kvs)/\y=kV k/\kvs.length<sizeLine/\H'=upd H a (.dK<|putK kvs k v))\/∃kvs k b,H a=some (.dT kvs)/\y=.ref b/\H b=some (.tup<|k.map kV)/\kvs.length<sizeLine/\H'=upd H a (.dT<|putK kvs k v)
theorem pf.k{H:Hp}{a:Addr}{kvs:List<|Key×V}{k:Key}(e:H a=some (.dK kvs)):pf H a (kV k) (fR kvs k):=.inl {kvs,k,.inl e,rfl,rfl}
theorem GQ.k{H:Hp}{a:Addr}{kvs:List<|Key×V}{k:Key}{v:V}(e:H a=some (.dK kvs))(hl:kvs.length<sizeLine):GQ H a (kV k) v (upd H a<|.dK<|putK kvs k v):=.inl ⟨kvs,k,e,rfl,hl,rfl⟩
section
variable{X:Cx}{pins:List (Addr×Obj)}{σ:St}{H:Hp}{s:Shared}{a:Addr}{y v:V}{u r:Value}{o:Option V}{A:Around}{E:Value->Shared->Prop}
theorem Inv.big(I:Inv X pins σ H s):sysModules<s.heap.objs.size:=by have h:mainGlobals<s.heap.objs.size:=(I.mod.glob.keeps I.bk).lt;exact Nat.lt_trans (by decide) h
theorem EA(hu:A.units+1<cLine)(I:Inv X pins σ H s)(g:pf H a y<|some v)(ry:RelV y u)(h:∀w' s',Inv X pins σ H s'->RelV v w'->Q w' s'): wpAny (model X.prog X.w) A (getItem (.ref a) u) Q E s:=by rcases g with⟨kvs,k,e,ey,l⟩|⟨kvs,k,b,e,ey,eb,l⟩;subst ey;obtain⟨z,hd,vs,rel,dd⟩:=oo I.aH e;obtain⟨w',hw,pe⟩:=fP.some_of (v:=v) (o:=valueAt vs k) (by rw[l];exact rel.val k);exact wpAny_getItem_of (kf ry) dd.mapOf hw<|h w' _ (I.tok _) pe;subst ey;cases (show u=Value.ref b from ry);obtain⟨z,hd,xs,rel,dd⟩:=tO I.aH e;obtain⟨w',hw,pe⟩:=fP.some_of (v:=v) (o:=(atKey xs k).map (·.2)) (by rw[l];exact rel.val k);obtain⟨p,hp,fV⟩:=Option.map_eq_some_iff.mp hw;refine wpAny_getItem_heap (tupleKind_room_in1 hu) (uK I.aH eb) dd hp ?_;rw[fV];exact h w' _ (I.tok _) pe
theorem W5(hu:A.units+1<cLine)(I:Inv X pins σ H s)(g:pf H a y o)(ry:RelV y u)(h:∀s',Inv X pins σ H s'->Q (.bool o.isSome) s'): wpAny (model X.prog X.w) A (compareOp .In u<|.ref a) Q E s:=by rcases g with⟨kvs,k,e,ey,l⟩|⟨kvs,k,b,e,ey,eb,l⟩;subst ey;obtain⟨z,hd,vs,rel,dd⟩:=oo I.aH e;refine wpAny_in_of (kf ry) hd dd.mapOf ?_;rw[<-(rel.val k).mV,<-l];exact h _<|I.tok _;subst ey;cases (show u=Value.ref b from ry);obtain⟨z,hd,xs,rel,dd⟩:=tO I.aH e;refine wpAny_in_heap (tupleKind_room_in1 hu) (uK I.aH eb) hd dd ?_;have q:=(rel.val k).mV;rw[Option.isSome_map]at q;rw[<-q,<-l];exact h _<|I.tok _
theorem uL(I:Inv X pins σ H s)(mu:Rn<|H a)(hs:Heap.SameBut a s.heap h')(he:∃q,h'.get? a=some q)(new:ba X.prog X.w (upd H a ob) h' a ob): Inv X pins σ (upd H a ob) {s with heap:=h',toks:=t'}:=I.write (x:=a) (e:=a) mu (.inl rfl) (λb q hb z=>(hs.2 b hb).trans z) he new
theorem AJ(z:kvs.length<=sizeLine)(hd:(a==sysModules)=false)(rel:KV kvs vs)(dd:h'.DictOf (aF P w) a vs): ba P w H' h' a (.dK kvs):=⟨z,hd,vs,rel,dd⟩
theorem EB(hu:A.units+1<cLine)(I:Inv X pins σ H s)(g:GQ H a y v H')(ry:RelV y u)(rv:RelV v r)(h:∀s',Inv X pins σ H' s'->Q () s'): wpAny (model X.prog X.w) A (setItem (.ref a) u r) Q E s:=by
 rcases g with⟨kvs,k,e,ey,l,eH⟩|⟨kvs,k,b,e,ey,eb,l,eH⟩;subst ey eH;obtain⟨z,hd,vs,rel,dd⟩:=CJ I.aH e;have hz:vs.length<=sizeLine:=by rw[<-rel.length];exact z
 have hl:(putK kvs k v).length<=sizeLine:=by have:=om kvs k v;lia
 refine wpAny_setItem_pairs (hsz:=hz) (kf ry) dd λh' JA hs=>h _ ?_;have he:∃q,h'.get? a=some q:=by obtain⟨q,_,_,hq,_⟩:=JA;exact⟨q,hq⟩
 exact uL I (by rw[e];exact True.intro) hs he<|AJ hl hd (rel.put k rv) JA;exact False.elim<|I.aH _ _ e
end
section
variable{X:Cx}{pins:List (Addr×Obj)}{σ:St}{H:Hp}{s:Shared}{a:Addr}{kvs:List (Key×V)}{k:Key}{u:Value}{A:Around}{E:Value->Shared->Prop}
theorem R4(I:Inv X pins σ H s)(e:H a=some (.dK kvs))(ry:RelV (kV k) u)(l:fR kvs k=some v)(hm:more=[]\/∃x,more=[x]) (h:∀w' s',Inv X pins σ (upd H a<|.dK<|oj kvs k) s'->RelV v w'->Q w' s'):wpAny (model X.prog X.w) A (call (.builtin "dict.pop")<|.ref a::u::more) Q E s:=by
 obtain⟨z,hd,vs,rel,dd⟩:=CJ I.aH e;obtain⟨w',hw,pe⟩:=fP.some_of (v:=v) (o:=valueAt vs k) (by rw[<-l];exact rel.val k);have hp:(keyPart u).isSome=true:=by cases k with|inl i=>(obtain⟨t,q⟩:=(show ∃t,u=Value.int i t from ry);subst q;rfl)|inr x=>obtain⟨t,q⟩:=(show ∃t,u=Value.str x t from ry);subst q;rfl
 have ha:argsOk "dict.pop" {.ref a::u::more,[]}:=by rcases hm with q|⟨x,q⟩;subst q;exact PySem.F.args_dict_pop_2 _ _;subst q;exact PySem.F.args_dict_pop_3 _ _ _
 refine call_meetsIn PySem.F.slot_dict_pop dd.typeIs PySem.F.entry_dict_pop ha (meets_dict_pop_there (aF X.prog X.w) a (kf ry) more hm hp) {vs,w',dd,by rw[<-rel.length];exact z,hw,λh' JA hs=>h w' _ ?_ pe};have he:∃q,h'.get? a=some q:=by obtain⟨q,_,_,hq,_⟩:=JA;exact⟨q,hq⟩
 exact uL I (by rw[e];exact True.intro) hs he<|AJ (zK (GP kvs k) z) hd (rel.drop k) JA
theorem R5(I:Inv X pins σ H s)(e:Rd H a<|.dK kvs)(h:∀t s',Inv X pins σ H s'->Q (.int kvs.length t) s'):wpAny (model X.prog X.w) A (call (.builtin "len") [.ref a]) Q E s:=by obtain⟨z,hd,vs,rel,dd⟩:=oo I.aH e;refine call_len_dict hd dd (by rw[<-rel.length];rw[zZ]at z;lia) ?_;rw[<-rel.length];exact h _ _<|I.tok _
end
theorem wW(I:Inv X pins σ H s)(g:pf H a y o):s.TypeIs (.ref a) "dict":=by rcases g with⟨kvs,k,e,_,_⟩|⟨kvs,k,b,e,_,_,_⟩;obtain⟨_,_,vs,_,dd⟩:=oo I.aH e;exact dd.typeIs;obtain⟨_,_,xs,_,dd⟩:=tO I.aH e;exact dd.typeIs
def R6(td ty tv:TE):TS:=λD σ H=>tv σ H λv H1=>td σ H1 λx H2=>ty σ H2 λy H3=>∃a H4,x=.ref a/\GQ H3 a y v H4/\D.nx σ H4
section
variable{X:Cx}{o i value:Expr}{pos pos':Pos}{td ty tv:TE}
theorem J_(hu:X.A.units+1<cLine)(ho:PE X o td)(hi:PE X i ty)(hv:PE X value tv)(hs:swapsWith value (some<|.Subscript o i pos') pos.line X.env=pure false): PS X (.Assign [.Subscript o i pos'] value pos) (R6 td ty tv):=by intro pins s σ H D I h;refine wpAny_Assign_Subscript (bf (hv pins s σ H _ I h) λr s1 ⟨v,H1,I1,rv,q1⟩=>bf (ho pins s1 σ H1 _ I1 q1) λu s2 ⟨x,H2,I2,rx,q2⟩=>bf (hi pins s2 σ H2 _ I2 q2) λiv s3 ⟨y,H3,I3,ry,a,H4,ex,g,q3⟩=>?_) hs;subst ex;obtain rfl:u=Value.ref a:=rx;exact EB hu I3 g ry rv λs4 I4=>⟨σ,H4,I4,q3⟩
end
theorem GR(h:Heap)(hb:sysModules<h.objs.size):ba P w H (h.push {cls:=.type "dict",data:=.dict #[]}) h.objs.size (.dK []):={zU _,beq_eq_false_iff_ne.mpr<|Ne.symm<|zy hb,[],.nil,Heap.DictOf.new h}
def Oc:TE:=λ_ H Q=>∀p,H p=none->Q (.ref p) (upd H p<|.dK [])
section
variable{X:Cx}{pos:Pos}
theorem GS:PE X (.Dict [] [] pos) Oc:=λpins s σ H Q I h=>wpAny_Dict_empty {.ref s.heap.objs.size,_,I.laid (a:=s.heap.objs.size) (o:=.dK []) (t':=s.toks) (λ_ _ q=>za _ q) (zk _)<|GR s.heap I.big,rfl,h _<|I.aH.fresh<|zk _}
end
structure M1(X:Cx)(o:Expr)(m:Str)(apos:Pos)(e:Expr)(aN:Pos):Prop where
 base:attributeBase o m X.env (eval o X.env)=eval o X.env
 FX:((backTo aN<|starEach [e] X.env).all (λx=>!x.1)&&(backToKw aN<|keywordEach [] X.env).all (λx=>x.1.isSome)
  && decide (([e]:List Expr).length+([]:List Keyword).length+(if ([]:List Keyword).isEmpty then 0 else 1)<30))=true
 line:(apos.endLine==aN.line)=true
 trees:backTo aN (starEach [e] X.env)=[(false,eval e X.env)]
structure M2(X:Cx)(o:Expr)(m:Str)(apos:Pos)(e f:Expr)(aN:Pos):Prop where
 base:attributeBase o m X.env (eval o X.env)=eval o X.env
 FX:((backTo aN<|starEach [e,f] X.env).all (λx=>!x.1)&&(backToKw aN<|keywordEach [] X.env).all (λx=>x.1.isSome)
  && decide (([e,f]:List Expr).length+([]:List Keyword).length+(if ([]:List Keyword).isEmpty then 0 else 1)<30))=true
 line:(apos.endLine==aN.line)=true
 trees:backTo aN (starEach [e,f] X.env)=[(false,eval e X.env),(false,eval f X.env)]
def QF(H:Hp)(a:Addr):Prop:=(∃kvs,Rd H a<|.dK kvs)\/∃kvs,Rd H a<|.dT kvs
theorem uM(I:Inv X pins σ H s)(d:QF H a): s.TypeIs (.ref a) "dict"/\(∀b,Value.ref a=.ref b->∃ob,s.heap.get? b=some ob/\ob.dict=none)/\(a==sysModules)=false:=by rcases d with⟨kvs,e⟩|⟨kvs,e⟩;obtain⟨_,hd,vs,_,dd⟩:=oo I.aH e;refine{dd.typeIs,λb q=>?_,hd};cases q;obtain⟨ob,_,_,h1,h2,_⟩:=dd;exact⟨ob,h1,h2.2.1⟩;obtain⟨_,hd,xs,_,dd⟩:=tO I.aH e;refine{dd.typeIs,λb q=>?_,hd};cases q;obtain⟨ob,_,_,h1,h2,_⟩:=dd;exact⟨ob,h1,h2.2.1⟩
section
variable{X:Cx}{pins:List (Addr×Obj)}{σ:St}{H:Hp}{s:Shared}{a:Addr}{y d:V}{u r:Value}{o:Option V}{A:Around}{E:Value->Shared->Prop}
theorem Od(hu:A.units+1<cLine)(I:Inv X pins σ H s)(g:pf H a y o)(ry:RelV y u)(h:∀w' s',Inv X pins σ H s'->RelV (o.getD .ax) w'->Q w' s'): wpAny (model X.prog X.w) A (call (.builtin "dict.get") [.ref a,u]) Q E s:=by rcases g with⟨kvs,k,e,ey,l⟩|⟨kvs,k,b,e,ey,eb,l⟩;subst ey;obtain⟨z,hd,vs,rel,dd⟩:=oo I.aH e;refine call_meetsIn yq dd.typeIs PySem.F.entry_dict_get (PySem.F.args_dict_get_2 _ _) (meets_dict_get (aF X.prog X.w) a (kf ry) hd) {_,dd.mapOf,h _ _ (I.tok _) ?_};rw[l];exact(rel.val k).getD rfl;subst ey;cases (show u=Value.ref b from ry);obtain⟨z,hd,xs,rel,dd⟩:=tO I.aH e;refine call_meetsIn yq dd.typeIs PySem.F.entry_dict_get (PySem.F.args_dict_get_2 _ _) (meetsH_dict_get (tupleKind<|aF X.prog X.w) a b hd) {tupleKind_room_in1 hu,k,xs,uK I.aH eb,dd,h _ _ (I.tok _) ?_};rw[l];exact(rel.val k).getD rfl
theorem Oe(hu:A.units+1<cLine)(I:Inv X pins σ H s)(g:pf H a y o)(ry:RelV y u)(rd:RelV d r)(h:∀w' s',Inv X pins σ H s'->RelV (o.getD d) w'->Q w' s'): wpAny (model X.prog X.w) A (call (.builtin "dict.get") [.ref a,u,r]) Q E s:=by rcases g with⟨kvs,k,e,ey,l⟩|⟨kvs,k,b,e,ey,eb,l⟩;subst ey;obtain⟨z,hd,vs,rel,dd⟩:=oo I.aH e;refine call_meetsIn yq dd.typeIs PySem.F.entry_dict_get (PySem.F.args_dict_get_3 _ _ _) (meets_dict_get_default (aF X.prog X.w) a (kf ry) hd r) {_,dd.mapOf,h _ _ (I.tok _) ?_};rw[l];exact(rel.val k).getD rd;subst ey;cases (show u=Value.ref b from ry);obtain⟨z,hd,xs,rel,dd⟩:=tO I.aH e;refine call_meetsIn yq dd.typeIs PySem.F.entry_dict_get (PySem.F.args_dict_get_3 _ _ _) (meetsH_dict_get_default (tupleKind<|aF X.prog X.w) a b hd r) {tupleKind_room_in1 hu,k,xs,uK I.aH eb,dd,h _ _ (I.tok _) ?_};rw[l];exact(rel.val k).getD rd
end
def Of(td ty:TE):TE:=λσ H Q=>td σ H λx H1=>∃a,x=.ref a/\QF H1 a/\ty σ H1 λy H2=>∃o,pf H2 a y o/\Q (o.getD .ax) H2
def Oh(td ty tx:TE):TE:=λσ H Q=>td σ H λx H1=>∃a,x=.ref a/\QF H1 a/\ty σ H1 λy H2=>tx σ H2 λz H3=>∃o,pf H3 a y o/\Q (o.getD z) H3
def Oi(td ty:TE):TE:=λσ H Q=>td σ H λx H1=>∃a,x=.ref a/\QF H1 a/\ty σ H1 λy H2=>∃kvs k v,H2 a=some (.dK kvs)/\y=kV k/\fR kvs k=some v/\Q v (upd H2 a<|.dK<|oj kvs k)
section
variable{X:Cx}{o e f:Expr}{apos aN:Pos}{td ty tx:TE}
theorem GU(hu:X.A.units+1<cLine)(ho:PE X o td)(he:PE X e ty)(m:M1 X o "get" apos e aN):PE X (.Call (.Attribute o "get" apos) [e] [] aN) (Of td ty):=by intro pins s σ H Q I h;refine wpAny_Call_method m.base m.FX m.line PySem.F.plainAttrs_dict yq PySem.F.type_dict_get<|bf (ho pins s σ H _ I h) λu s1 ⟨x,H1,I1,rx,a,ex,d,q1⟩=>?_;subst ex;obtain rfl:u=Value.ref a:=rx;obtain⟨t1,t2,_⟩:=uM I1 d;refine{t1,t2,?_};rw[m.trees];refine Calls.callWith_builtin rfl<|Calls.evalArgs_plain<|yy<|bf (he pins s1 σ H1 _ I1 q1) λiv s2 ⟨y,H2,I2,ry,ov,g,q2⟩=>Calls.spliced_nil ?_;exact Od hu I2 g ry λw' s3 I3 pe=>{_,H2,I3,pe,q2}
theorem GV(hu:X.A.units+1<cLine)(ho:PE X o td)(he:PE X e ty)(hf:PE X f tx)(m:M2 X o "get" apos e f aN):PE X (.Call (.Attribute o "get" apos) [e,f] [] aN) (Oh td ty tx):=by intro pins s σ H Q I h;refine wpAny_Call_method m.base m.FX m.line PySem.F.plainAttrs_dict yq PySem.F.type_dict_get<|bf (ho pins s σ H _ I h) λu s1 ⟨x,H1,I1,rx,a,ex,d,q1⟩=>?_;subst ex;obtain rfl:u=Value.ref a:=rx;obtain⟨t1,t2,_⟩:=uM I1 d;refine{t1,t2,?_};rw[m.trees];refine Calls.callWith_builtin rfl<|Calls.evalArgs_plain<|yy<|bf (he pins s1 σ H1 _ I1 q1) λiv s2 ⟨y,H2,I2,ry,q2⟩=>yy<|bf (hf pins s2 σ H2 _ I2 q2) λfv s3 ⟨z,H3,I3,rz,ov,g,q3⟩=>Calls.spliced_nil ?_;exact Oe hu I3 g ry rz λw' s4 I4 pe=>{_,H3,I4,pe,q3}
theorem GW(ho:PE X o td)(he:PE X e ty)(m:M1 X o "pop" apos e aN):PE X (.Call (.Attribute o "pop" apos) [e] [] aN) (Oi td ty):=by intro pins s σ H Q I h;refine wpAny_Call_method m.base m.FX m.line PySem.F.plainAttrs_dict PySem.F.slot_dict_pop PySem.F.type_dict_pop<|bf (ho pins s σ H _ I h) λu s1 ⟨x,H1,I1,rx,a,ex,d,q1⟩=>?_;subst ex;obtain rfl:u=Value.ref a:=rx;obtain⟨t1,t2,_⟩:=uM I1 d;refine{t1,t2,?_};rw[m.trees];refine Calls.callWith_builtin rfl<|Calls.evalArgs_plain<|yy<|bf (he pins s1 σ H1 _ I1 q1) λiv s2 ⟨y,H2,I2,ry,kvs,k,v,ea,ey,l,q2⟩=>Calls.spliced_nil ?_;subst ey;exact R4 I2 ea ry l (.inl rfl) λw' s3 I3 pe=>{v,_,I3,pe,q2}
end
end L2
namespace Att
open PySem PySem.W PySem.Calls PyProof.Rows
theorem ph{P:Params} : ∀(ns:List Int)(vs:List Value),WellAll P h vs (ns.map WData.int)->IntsAre vs ns:=by intro ns;induction ns with|nil=>(intro vs w;rw[List.map_nil]at w;cases w;exact .nil)|cons n ns ih=>intro vs w;rw[zE]at w;cases w with|cons a b=>cases a;exact .cons _ _<|ih _ b
theorem EC{l:OpenLaw}{n:Nat}(hn:l.most=some n){P:Params}{h:Heap}{args:List WData}{vals:List Value} (Kb:l.row.toRowW.claim.pre args=true) (W6:WellAll P h vals args): ∃a vs ns,vals=[Value.ref a]/\args=[WData.list<|ns.map WData.int]/\h.get? a=some {cls:=.type "list",data:=.seq vs.toArray}/\IntsAre vs ns/\ns.length<=n:=by
 have hsh:WShape.hasAll [] args [.list .int]=true:=(pre_splitW Kb).1;have hc:l.pre.holds [] {args:=args}=true:=(pre_splitW Kb).2;obtain⟨d,r,rfl,h1,h2⟩:=hasAllW_cons hsh;obtain rfl:=hasAllW_nil h2;obtain⟨xs,rfl,h3⟩:=hasW_list h1;obtain⟨ns,rfl⟩:=items_int h3;have hlen:ns.length<=n:=by unfold OpenLaw.pre at hc;have h4:(WTm.not<|.lt (.lit<|.int (n:Int))<|.len<|.arg 0).holds [] {args:=[.list<|ns.map .int]}=true:=(by have h4:=(holds_andW hc).1;rw[hn]at h4;exact h4);have h5:=condW_of h4<|w_not<|w_lt w_lit<|w_len_list<|w_arg rfl;rw[zc]at h5;refine Nat.le_of_not_lt λq=>?_;have q':(n:Int)<((ns.length:Nat):Int):=(by lia);first| (rw[zr q']at h5;exact absurd h5<|by decide)| (simp at h5;lia)
 cases W6 with|cons w1 w2=>cases w2;cases w1 with|list ho W7=>exact{_,_,ns,rfl,rfl,ho,ph ns _ W7,hlen}
theorem ED(l:OpenLaw)(args:List WData):l.row.toRowW.claim.post args (.bool true) args=true:=postW_of (r:=l.row.toRowW) (X:=(true==true)) (show WShape.has [] (.bool true) .bool=true by first|rfl|decide|simp[WShape.has,WShape.arms,WShape.armsAll]) (show(WTm.eq .res<|.lit<|.bool true).value [] {args:=args,res:=some<|.bool true,after:=args}=some (.bool<|true==true) from w_eq_bool (w_res rfl) w_lit) rfl
theorem wX{l:OpenLaw}{n:Nat}{q:Program}{loose:List Str}{XP:(Str->Option Value)->Heap->Prop}{YP:World->Heap->Prop}{d:DefRec} (hn:l.most=some n) (W8:d.params.defaults=[]) (call:∀(w:World)(cR aW:Shared)(mg mb:Str->Option Value)(fa:Addr)(o:Obj)(pm cd doc:Value)(a:Addr)(vs:List Value)(ns:List Int),Ground q loose [] XP w cR mg mb aW.heap->YP w aW.heap->aW.heap.get? fa=some o->o.data=.func (docDef d.name d.params d.body d.scope pm cd doc)->aW.heap.CodeRec cd d.name->mg d.name=some (.ref fa)->aW.heap.get? a=some {cls:=.type "list",data:=.seq vs.toArray}->IntsAre vs ns->ns.length<=n->aW.gens=#[]->codeAny (model l.prog w) callerA (.call (.ref fa) {[.ref a],[]}) (λr s'=>r=.ok (.ret<|.bool true)/\OldK aW.heap s'.heap/\s'.os=aW.os/\AllBare s'.gens) aW): WalkO q loose XP YP l.row.toRowW d [] (λf vs=>PySem.call f vs):=by intro w cR aW mg mb G Y fa o pm cd doc dV kV ho hd rZ hD Oj hg args vals as Kb abz hrd W6 hlo;obtain rfl:dV=.none:=Dflts.none hD W8;obtain rfl:kV=.none:=Dflts.noKw hD;obtain⟨a,vs,ns,rfl,rfl,Ol,hints,hlen⟩:=EC hn Kb W6;refine enter_call<|yL (call w cR aW mg mb fa o pm cd doc a vs ns G Y ho (fd_plain hd) rZ Oj Ol hints hlen hg) λr s' hq=>?_;obtain⟨rfl,h2,h3,h4⟩:=hq;exact{.inl {.bool true,.bool true,[],rfl,λ_=>rfl,.bool true,ED l _,λ_=>{List.Pairwise.nil,λ_ hm=>(nomatch hm)}},h2,h3,h4}
end Att
namespace L2
open PySem PySem.Spec PyProof.Rows
theorem tP:∀{vs:List Value}{ns:List Int},IntsAre vs ns->Vals (ns.map V.int) vs|_,_,.nil=>.nil|_,_,.cons n t h=>.cons ⟨t,rfl⟩<|tP h
def inClass(s:Stmt)(j:Nat):Stmt:=match s with|.ClassDef _ _ _ body _ _ _ _ _ _ _=>body.getD j (.Pass {0,0,0,0})|_=>.Pass {0,0,0,0}
def aX(s:Stmt):Arguments:=match s with|.FunctionDef _ a _ _ _ _ _ _ _ _=>a|_=>{posonlyargs:=[],args:=[],vararg:=none,kwonlyargs:=[],kw_defaults:=[],kwarg:=none,defaults:=[]}
def aU(s:Stmt):List Stmt:=match s with|.FunctionDef _ _ b _ _ _ _ _ _ _=>b|_=>[]
def ae(s:Stmt):Scope:=match s with|.FunctionDef _ _ _ _ _ _ sc _ _ _=>sc|_=>{kind:=.function,names:=[],isGenerator:=false,isCoroutine:=false}
abbrev VD:AD:=λ_ _ _ _ _ _=>False
abbrev E0:XK:=λ_ _ _=>False
structure Fun(K:Frag)(x qual:Str)(st:Stmt)(f:Addr)(fd:FuncData):Prop where
 ex:∃(oc:Value)(od:Option Addr)(kV doc pm:Value)(an:Option Addr)(fU ct:Value)(N2:Array (Option Value)),
  fd=fnOf x qual (aX st) (aU st) (ae st) .none kV doc pm an fU ct/\K.lookup f=some {oc,od,.func fd,N2}/\codeIn K fU qual=true
 kp:keepIn K (.ref f)=true
theorem jH(h:n<=1000):n<sizeLine:=Nat.lt_of_le_of_lt h<|by decide
section
variable{X:Cx}
theorem EF:cS X (.builtin "len") (λxs H Q=>∃a kvs,xs=[V.ref a]/\H a=some (.dK kvs)/\Q (.int kvs.length) H):=by intro pins s σ H xs us Q I r h;obtain⟨a,kvs,rfl,ha,q⟩:=h;obtain⟨u,rfl,ru⟩:=vals1 r;cases ru;exact R5 I (.inl ha) λt s' I'=>{.int kvs.length,H,I',⟨t,rfl⟩,q}
end
theorem bb{A B:Prop}(h:B):if false=true then A else B:=by rw[if_neg zd];exact h
theorem cN{A B:Prop}(h:A):if true=true then A else B:=by rw[if_pos rfl];exact h
section
variable{κ:Type}[DecidableEq κ]
theorem lQ:∀{l:List κ}{k:κ},l.Nodup->¬k∈l->(l++[k]).Nodup|[],k,_,_=>by simp|a::r,k,h,hk=>by obtain⟨h1,h2⟩:=ye.mp h;show(a::(r++[k])).Nodup;refine ye.mpr {λm=>?_,lQ h2 λm=>hk<|zf.mpr<|Or.inr m};rcases zJ.mp m with q|q;exact h1 q;exact hk<|zf.mpr<|Or.inl (zD.mp q).symm
end
end L2
set_option maxHeartbeats 4000000
namespace L2
open PySem PySem.Spec PyProof.Rows
section
variable{X:Cx}
noncomputable def FY(i j:Str):Bool:=!decide (j.cps.toList<i.cps.toList)
noncomputable def tQ(i j:Str):Bool:=decide<|i.cps.toList<j.cps.toList
def W9(g:Str->Str->Bool):R2:=λx y H Q=>∃i j,x=.str i/\y=.str j/\Q (.bl<|g i j) H
theorem EG:g9 X (compareOp .LtE) (W9 FY):=by intro pins s σ H x y v u Q I rx ry h;obtain⟨i,j,rfl,rfl,q⟩:=h;obtain⟨t,rfl⟩:=rx;obtain⟨t',rfl⟩:=ry;exact P.le_str<|aI I q rfl
theorem EH:g9 X (compareOp .GtE) (W9 λi j=>FY j i):=by intro pins s σ H x y v u Q I rx ry h;obtain⟨i,j,rfl,rfl,q⟩:=h;obtain⟨t,rfl⟩:=rx;obtain⟨t',rfl⟩:=ry;exact P.ge_str<|aI I q rfl
theorem EI:g9 X (compareOp .Gt) (W9 λi j=>tQ j i):=by intro pins s σ H x y v u Q I rx ry h;obtain⟨i,j,rfl,rfl,q⟩:=h;obtain⟨t,rfl⟩:=rx;obtain⟨t',rfl⟩:=ry;exact P.gt_str<|aI I q rfl
def Ms(_ j:Int):Prop:=0<j/\j.natAbs.log2<9000
theorem GX:g9 X (binaryOp .FloorDiv) (rI Ms λi j=>.int<|i/j):=VA λi j _ _ _ _ _ hc q=>by
 have hj:j≠0:=by have:=hc.1;omega
 exact floordiv_int hj (by rw[Int.fdiv_eq_ediv_of_nonneg _<|by have:=hc.1;omega];exact q)<|.inl<|PyProof.noPylong_of_log2 hc.2
end
noncomputable def W_(x:Str):It:={λi _=>i<x.cps.size,λi H v H'=>H'=H/\∃c,x.cps[i]?=some c/\v=.str ⟨#[c]⟩,λi _=>x.cps.size<=i}
theorem wY{P:Program}{w:World}{K:Frag}{tg:Expr}{T:String}(hT:["enumerate","zip","dict_itemiterator","dict_reverseitemiterator","odict_iterator","itertools.zip_longest","itertools.pairwise"].contains T=false)(it:Addr)(x:Str)(t:Tok)
  (W:∀A':Around,A'.handled=none->Walks P w A' it [it] [it] x.cps.size (SignAt x) (λi h=>h.IsStrIter it T x t i))
  (Xa:∀(A:Around)(s:Shared)(E:Value->Shared->Prop)(i:Nat)(Q:Option Value->Shared->Prop),A.handled=none->s.heap.IsStrIter it T x t i->x.cps[i]?=none->(∀h',Heap.ExtBut it s.heap h'->Q none {s with heap:=h'})->wpAny (model P w) A (pyNext<|.ref it) Q E s)
  (R7:∀(A:Around)(s:Shared)(E:Value->Shared->Prop)(i:Nat)(Q:Value->Shared->Prop),s.heap.IsStrIter it T x t i->Q (.ref it) s->wpAny (model P w) A (pyIter<|.ref it) Q E s):
  Turn P w K tg (W_ x) [it] it (λi h=>h.IsStrIter it T x t i) where
 mem:=by simp
 obj:=λi h st b hb=>by
  have e:b=it:=by simpa using hb
  subst e
  obtain⟨o,e,c,d⟩:=st
  exact{o,e,λv z=>by rw[d]at z;cases z}
 keep:=λi h h' st k=>by
  obtain⟨o,e,c,d⟩:=st
  exact{o,k it (by simp) o e,c,d}
 item:=by
  intro X hP hw hK hc i pins s σ H E I hf st hg
  subst hP hw hK
  obtain⟨f0,f1,f2,f3,f4,f5⟩:=hf it<|by simp
  refine(W X.A<|I.ok.hd hc).item i s _ _ hg st λv h' tk hv eO kk=>?_
  obtain⟨c,u,Kc,rfl⟩:=hv
  have I1:Inv X pins σ H {s with heap:=h',toks:=tk}:=I.turned (λb o hb e=>kk b o (by simpa using hb) e) f0 f1 f3 f4 f5
  obtain⟨o,e,c',d⟩:=id eO
  exact{_,rfl,tG (s:={s with heap:=h',toks:=tk}) e c' d hT {.str ⟨#[c]⟩,H,I1,⟨u,rfl⟩,⟨rfl,c,Kc,rfl⟩,eO,λb hb=>(hf b hb).1}}
 done:=by
  intro X hP hw hK hc i pins s σ H E I hf st hg
  subst hP hw hK
  obtain⟨f0,f1,f2,f3,f4,f5⟩:=hf it<|by simp
  have hg:x.cps.size<=i:=hg
  exact Xa X.A s E i _ (I.ok.hd hc) st (by simp;exact hg) λh' eb=>{rfl,I.turned (t':=s.toks) (λb o hb e=>eb b o hb e) f0 f1 f3 f4 f5}
 self:=λA' i s Q E st h=>R7 A' s E i Q st h
section
variable{X:Cx}{tg:Expr}
def Xb(tl:TE):TI:=λσ H R=>tl σ H λx H1=>∃z,x=.str z/\R (W_ z) H1
theorem Om(hl:PE X l tl):PI X tg l (Xb tl):=by
 intro pins s σ H R I h;refine bf (hl pins s σ H _ I h) λv s1 ⟨x,H1,I1,r1,q1⟩=>?_;obtain⟨z,e,q⟩:=q1;subst e;obtain⟨t,rfl⟩:=r1;have fin:∀(T:String)(_:Turn X.prog X.w X.K tg (W_ z) [s1.heap.objs.size] s1.heap.objs.size (λi h=>h.IsStrIter s1.heap.objs.size T z t i)),WD X pins σ tg R (.ref s1.heap.objs.size) {s1 with heap:=s1.heap.push {cls:=.type T,data:=.fields #[.str z t,.int 0 0]}}:=λT tn=>by refine{s1.heap.objs.size,[s1.heap.objs.size],_,_,H1,rfl,I1.kept (t':=s1.toks) λb o e=>za _ e,tn,{_,zj _ rfl,rfl,rfl},λb hb=>?_,q};have e:b=s1.heap.objs.size:=(by simpa using hb);subst e;exact I1.o_ (zk _)<|I1.aH.fresh<|zk _
 cases ha:z.cps.all (·<128);exact wpAny_pyIter_wide ha<|fin _<|wY (by decide) _ z t (λA' hA=>Walks.strWide hA _ z t) (λA s E i Q hh st hx hQ=>wpAny_pyNext_wide_end hh st hx hQ) λA s E i Q st hq=>wpAny_pyIter_striter_wide st hq;exact wpAny_pyIter_ascii ha<|fin _<|wY (by decide) _ z t (λA' hA=>Walks.strAscii hA _ z t) (λA s E i Q hh st hx hQ=>wpAny_pyNext_ascii_end hh st hx hQ) λA s E i Q st hq=>wpAny_pyIter_striter_ascii st hq
end
noncomputable def clOf(cells:List<|Str×Addr)(names:List<|Str×NameKind):List (Str×Addr):=names.foldl (λcs p=>if p.2==.free then match cells.lookup p.1 with|some a=>(p.1,a)::cs|none=>cs else cs) []
theorem qm(cells:List<|Str×Addr):∀(names:List (Str×NameKind))(cs:List (Str×Addr)),(∀x c,cs.lookup x=some c->cells.lookup x=some c)->∀x c,(names.foldl (λcs p=>if p.2==.free then match cells.lookup p.1 with|some a=>(p.1,a)::cs|none=>cs else cs) cs).lookup x=some c->cells.lookup x=some c|[],cs,h=>h| (n,k)::r,cs,h=>by rw[yI];refine qm cells r _ λx c e=>?_;dsimp only at e;split at e;split at e;rename_i a ha;rw[zX]at e;split at e;rename_i hx;have:=LawfulBEq.eq_of_beq hx;cases e;rw[this];exact ha;exact h x c e;exact h x c e;exact h x c e
theorem tR(cells:List<|Str×Addr):∀(names:List (Str×NameKind))(cs:List (Str×Addr))(x:Str)(c:Addr),(∀y c,cs.lookup y=some c->cells.lookup y=some c)->cs.lookup x=some c->(names.foldl (λcs p=>if p.2==.free then match cells.lookup p.1 with|some a=>(p.1,a)::cs|none=>cs else cs) cs).lookup x=some c
 |[],cs,x,c,_,h=>h
 | (n,k)::r,cs,x,c,hs,h=>by
  rw[yI];have VE:∀y c,(if (k==NameKind.free)=true then match cells.lookup n with|some a=>(n,a)::cs|none=>cs else cs).lookup y=some c->cells.lookup y=some c:=by intro y c e;split at e;split at e;rename_i a ha;rw[zX]at e;split at e;rename_i hx;have:=LawfulBEq.eq_of_beq hx;cases e;rw[this];exact ha;exact hs y c e;exact hs y c e;exact hs y c e
  refine tR cells r _ x c VE ?_;dsimp only;split;split;rename_i a ha;rw[zX];split;rename_i hx;have:=LawfulBEq.eq_of_beq hx;rw[this]at h;have:=hs _ _ h;rw[ha]at this;exact this;exact h;exact h;exact h
theorem i0(cells:List<|Str×Addr):∀(names:List (Str×NameKind))(cs:List (Str×Addr))(x:Str)(c:Addr),(∀y c,cs.lookup y=some c->cells.lookup y=some c)->(x,NameKind.free)∈names->cells.lookup x=some c->(names.foldl (λcs p=>if p.2==.free then match cells.lookup p.1 with|some a=>(p.1,a)::cs|none=>cs else cs) cs).lookup x=some c
 |[],cs,x,c,_,h,_=>nomatch h
 | (n,k)::r,cs,x,c,hs,h,hc=>by
  rw[yI];have VE:∀y c,(if (k==NameKind.free)=true then match cells.lookup n with|some a=>(n,a)::cs|none=>cs else cs).lookup y=some c->cells.lookup y=some c:=by intro y c e;split at e;split at e;rename_i a ha;rw[zX]at e;split at e;rename_i hx;have:=LawfulBEq.eq_of_beq hx;cases e;rw[this];exact ha;exact hs y c e;exact hs y c e;exact hs y c e
  rcases zf.mp h with e|h;cases e;refine tR cells r _ _ c VE ?_;dsimp only;rw[if_pos<|show(NameKind.free==NameKind.free)=true by decide,hc];simp[zX];exact i0 cells r _ x c VE h hc
theorem gs{scope:Scope}{env:Env}(h:∀x∈scope.names,x.2=.free->∃c,env.cells.lookup x.1=some c):closureFor scope env=pure (clOf env.cells scope.names):=by
 have go:∀(names:List (Str×NameKind))(cs:List (Str×Addr)),(∀x∈names,x.2=.free->∃c,env.cells.lookup x.1=some c)->(forIn names cs λx r=>match x with|(name,kind)=>if (kind==NameKind.free)=true then do let a <-cellOf env name;pure (ForInStep.yield<|(name,a)::r) else pure (ForInStep.yield r):Sem (List<|Str×Addr))=pure (names.foldl (λcs p=>if p.2==.free then match env.cells.lookup p.1 with|some a=>(p.1,a)::cs|none=>cs else cs) cs):=by intro names;induction names with|nil=>intro cs _;rfl|cons p r ih=>intro cs hp;obtain⟨n,k⟩:=p;rw[List.forIn_cons,yI];by_cases hk:k=.free;subst hk;obtain⟨c,hc⟩:=hp _ zp rfl;have hc:env.cells.lookup n=some c:=hc;have e1:cellOf env n=pure c:=(by unfold cellOf;rw[hc]);have ef:(NameKind.free==NameKind.free)=true:=(by decide);dsimp only;rw[if_pos ef,if_pos ef,e1,hc];exact ih _ λx hx=>hp x<|zi _ hx;have AK:(k==NameKind.free)=false:=(by simpa using hk);dsimp only;rw[AK,if_neg zd,if_neg zd];exact ih _ λx hx=>hp x<|zi _ hx
 have e:=go scope.names [] h;have e2:closureFor scope env=(forIn scope.names [] (λx r=>match x with|(name,kind)=>if (kind==NameKind.free)=true then do let a <-cellOf env name;pure (ForInStep.yield<|(name,a)::r) else pure (ForInStep.yield r)):Sem (List<|Str×Addr)) >>=λcs=>pure cs:=rfl;rw[e2,e];rfl
theorem i4{env:Env}{names:List<|Str×NameKind}{x:Str} : (names.map λ(n,k)=>if (k==NameKind.free&&env.scope.kind==.function&&env.kindOf n==some .cell) then (n,NameKind.cell) else (n,k)).lookup x=(names.lookup x).map λk=>if (k==NameKind.free&&env.scope.kind==.function&&env.kindOf x==some .cell) then NameKind.cell else k:=by induction names with|nil=>rfl|cons p r ih=>obtain⟨n,k⟩:=p;rw[zE,zX];by_cases hc:(k==NameKind.free&&env.scope.kind==.function&&env.kindOf n==some .cell)=true;dsimp only;rw[if_pos hc,zX];(cases hx:x==n with|true=>have:=LawfulBEq.eq_of_beq hx;subst this;dsimp only[Option.map];rw[if_pos hc]|false=>exact ih);dsimp only;rw[if_neg hc,zX];cases hx:x==n with|true=>have:=LawfulBEq.eq_of_beq hx;subst this;dsimp only[Option.map];rw[if_neg hc]|false=>exact ih
noncomputable def iu(X:Cx)(N:List Str)(scope:Scope)(C:Addr)(s:Shared)(H:Hp)(ex:List Addr)(pn:List<|Addr×Obj):Cx:={X with N:=N,cR:=s,uE:=H,env:=compEnvC scope (clOf X.env.cells scope.names) C X.env,outer:=X.stack,ex:=ex,fn:=λ_=>false,pn:=pn,xe:=λ_ _=>False}
noncomputable def pick(σ:St)(src:List<|Option Nat):St:=src.map λo=>match o with|some j=>(σ[j]?).join|none=>none
structure bE(X:Cx)(N:List Str)(src:List (Option Nat))(scope:Scope):Prop where
 kind:scope.kind=.function
 gu:∀y∈scope.names,y.2≠.cell
 loc:∀y∈scope.names,y.2=.local->scope.names.lookup y.1=some .local
 AL:∀y∈scope.names,y.2=.free->X.env.kindOf y.1=some .cell\/X.env.kindOf y.1=some .free
 len:src.length=N.length
 src:∀(i j:Nat)(x:Str),src[i]?=some (some j)->N[i]?=some x->X.N[j]?=some x/\scope.names.lookup x=some .free/\Qz X.env.scope x
def Ext(σ aC:St):Prop:=aC.length=σ.length/\∀(j:Nat) v,σ[j]?=some (some v)->aC[j]?=some (some v)
def AM(g:TG)(src:List<|Option Nat):Prop:=∀x σ H Q,g x (pick σ src) H Q->g x (pick σ src) H λaC H'=>Ext (pick σ src) aC/\Q aC H'
def GY(wi:TI)(src:List<|Option Nat)(g:TG)(tc:TT)(te:TE):TE:=λσ H Q=>wi σ H λJ H1=>∃W:Nat->Nat->List V->Hp->Prop,(∃m,W 0 m [] H1)/\∀i m out H',W i m out H'->(J.stop i H'/\∀D,H' D=none->Q (.ref D) (upd H' D<|.lst out))\/(J.go i H'/\out.length<sizeLine/\∀x H2,J.RB i H' x H2->g x (pick σ src) H2 λiK H3=>tc iK H3 λb H4=>if b=true then te iK H4 λv H5=>∃m',m'<m/\W (i+1) m' (out++[v]) H5 else ∃m',m'<m/\W (i+1) m' out H4)
section
variable{X:Cx}{N:List Str}{src:List (Option Nat)}{scope:Scope}{tg iter elt:Expr}{ifs:List Expr}{pos:Pos}{wi:TI}{g:TG}{tc:TT}{te:TE}
def QG(X:Cx)(ifs:List Expr)(t:TT):Prop:=∀(pins:List (Addr×Obj))(s:Shared)(σ:St)(H:Hp)(Q:Bool->Hp->Prop),Inv X pins σ H s->t σ H Q->wpAny (model X.prog X.w) X.A (forIn ifs true λc r=>if r=true then do let ok <-isTrue c X.env (eval c X.env);pure (ForInStep.yield ok) else pure (ForInStep.yield r)) (TP X pins σ Q) X.xe s
def R8:TT:=λ_ H Q=>Q true H
theorem Ke:QG X [] R8:=λpins s σ H Q I h=>wpAny_tests_nil ⟨H,I,h⟩
theorem Kf{t:TT}(h:PT X c t):QG X [c] t:=λpins s σ H Q I hw=>wpAny_tests_one<|h pins s σ H Q I hw
theorem jU(QH:∀x s',EE x s'->notedBy (model prog w) A env (λe s'=>R (.error e) s') x s')(I:Nat->Shared->Prop)
  (turn:∀n s,I n s->wpAny (model prog w) A (pyNext it) (λr aW=>match r with
   |none=>R (.ok .next) aW
   |some v=>wpAny (model prog w) A (letOwnedTupleGo target it v) (λ_ Mt=>wpAny (model prog w) A (assign target env v) (λ_ bL =>
     wpAny (model prog w) A (forIn ifs true λc r=>if r=true then do let ok <-isTrue c env (eval c env);pure (ForInStep.yield ok) else pure (ForInStep.yield r)) (λok Aq =>
      if ok=true then wpAny (model prog w) A (eval elt env) (λx wZ =>
       wpAny (model prog w) A (call (.builtin "list.append") [acc,x]) (λ_ R9=>∃m,m<n/\I m R9) EE wZ) EE Aq
      else ∃m,m<n/\I m Aq) EE bL) EE Mt) EE aW) EE s)
  (n:Nat) (h:I n s):
  codeAny (model prog w) A (.compLoop (.ListComp elt [{target,iter,ifs,0}] scope pos) 0 it acc env) R s:=by
 refine codeAny_loop rfl I (λn s hI=>?_) n h
 show wpAny _ A ((compTurn (.ListComp elt [{target,iter,ifs,0}] scope pos) 0 it acc env).onRaise λx=>do noteFrame x env;theTreesLotGoes x) _ _ s
 refine wpAny_noted ?_
 rw[compTurn_list]
 refine zb<|wpAny_standAt<|zb<|yn (turn n s hI) (λr aW h₁=>?_) QH
 cases r with
 |none=>exact zu h₁
 |some v =>
  refine zb<|yn h₁ (λ_ Mt R_=>?_) QH
  refine zb<|yn R_ (λ_ bL Xc=>zb<|yn Xc (λok Aq Sa=>?_) QH) QH
  cases ok with
  |false=>exact zu ⟨rfl,Sa⟩
  |true =>
   exact zb<|zb<|yn Sa (λx wZ Xd=>zb<|yn Xd (λ_ R9 Xe=>zu<|zu ⟨rfl,Xe⟩) QH) QH
def CompEnd(X:Cx)(pins:List<|Addr×Obj)(σ:St)(Q:VK)(D C:Addr)(s':Shared):Prop:=∃H' m,Inv X pins σ H' s'/\Q (.ref D) H'/\s'.heap.Ns C m/\H' C=none/\C≠X.env.locals/\X.cR.heap.objs.size<=C/\(∀x c,X.env.cells.lookup x=some c->c≠C)/\(∀p∈X.pn++pins,p.1≠C)
theorem tT{pins:List<|Addr×Obj}{bL:Shared}{σ:St}{iL:Hp}{Q:VK}{it:Addr}{fp:List Addr}{tn:Nat->Heap->Prop}{J:It}{E:Value->Shared->Prop}(S:bE X N src scope)(hc:X.calm=true) (hg:∀C s H ex pn,PG (iu X N scope C s H ex pn) tg g) (hx:AM g src) (hi:∀C s H ex pn,QG (iu X N scope C s H ex pn) ifs tc) (he:∀C s H ex pn,PE (iu X N scope C s H ex pn) elt te) (I:Inv X pins σ iL bL) (T:Turn X.prog X.w X.K tg J fp it tn) (st:tn 0 bL.heap) (ff:∀b∈fp,sx X pins iL b) (W:Nat->Nat->List V->Hp->Prop) (w0:∃m,W 0 m [] iL) (turn:∀i m out H',W i m out H'->(J.stop i H'/\∀D,H' D=none->Q (.ref D) (upd H' D<|.lst out))\/(J.go i H'/\out.length<sizeLine/\∀x H2,J.RB i H' x H2->g x (pick σ src) H2 λiK H3=>tc iK H3 λb H4=>if b=true then te iK H4 λv H5=>∃m',m'<m/\W (i+1) m' (out++[v]) H5 else ∃m',m'<m/\W (i+1) m' out H4)) {RR:Value->Addr->Result->Shared->Prop} (hRR:∀D C s',CompEnd X pins σ Q D C s'->RR (.ref D) C (.ok .next) s'): wpAny (model X.prog X.w) X.A (newList []) (λacc Aq=>wpAny (model X.prog X.w) X.A (newFunctionEnv scope X.env.globals (clOf X.env.cells scope.names) [] X.env.qual none .none<|some X.env) (λSb wZ=>codeAny (model X.prog X.w) X.A (.compStart (.ListComp elt [{tg,iter,ifs,0}] scope pos) 0 (.ref it) acc {Sb with scope:=relabel scope X.env}) (RR acc Sb.locals) wZ) E Aq) E bL:=by
 refine yA<|wpAny_newFunctionEnv S.gu (by intro y hy;simp at hy) (λh₁ uN qo=>?_) S.kind;dsimp only at uN qo⊢;generalize Xf:bL.heap.push {cls:=.type "list",dict:=none,data:=.seq ([]:List Value).toArray}=G2 at uN qo⊢;have hC:G2.objs.size=bL.heap.objs.size+1:=by rw[<-Xf,zV]
 have QI:bL.heap.objs.size≠G2.objs.size:=by rw[hC];exact zy<|yx _
 have Kg:bL.heap.objs.size<=G2.objs.size:=by rw[hC];exact yN _
 have old:∀b o,bL.heap.get? b=some o->h₁.get? b=some o:=λb o e=>qo.extBut b o (zy<|zl (zt e) Kg)<|za _<|Xf ▸ za _ e;have qp:h₁.get? bL.heap.objs.size=some {cls:=.type "list",dict:=none,data:=.seq ([]:List Value).toArray}:=qo.extBut _ _ QI<|za _<|Xf ▸ zj _ rfl;generalize hCC:G2.objs.size=C at hC QI Kg uN qo⊢;have lR:bL.heap.objs.size<=C:=Kg;generalize hD:bL.heap.objs.size=D at hC QI Kg qp⊢;have iw:∀x c,(clOf X.env.cells scope.names).lookup x=some c->X.env.cells.lookup x=some c:=qm X.env.cells scope.names [] (by intro x c h;simp at h);have GZ:∀x c,X.env.cells.lookup x=some c->c<bL.heap.objs.size:=λx c e=>by obtain⟨v,q⟩:=I.cell x c e;exact q.lt
 have Oo:∀b∈fp,b<bL.heap.objs.size:=λb hb=>by obtain⟨o,e,_⟩:=T.obj _ _ st b hb;exact zt e
 have ok:(iu X N scope C bL iL fp<|X.pn++pins).Ok:=by refine{I.ok.mod,S.kind,I.ok.glob,I.ok.blt,lR,λx y c h1 h2=>I.ok.inj x y c (iw _ _ h1)<|iw _ _ h2,λx hk=>?_,λx c h=>(nomatch h),I.ok.hd,I.ok.frames,.inl rfl,λb hb=>{?_,λx c h=>?_},I.bs,zK I.ok.Ef I.sz,λb o e hb=>?_,λb hb hf=>?_,I.stack,I.pK};have hk:(relabel scope X.env).names.lookup x=some .cell\/(relabel scope X.env).names.lookup x=some .free:=hk;unfold relabel at hk;dsimp only at hk;rw[i4]at hk;(cases hl:scope.names.lookup x with|none=>(rw[hl]at hk;rcases hk with z|z<;>cases z)|some k=>rw[hl]at hk;have hm:=yf hl;have Sd:k=.free:=(by by_cases Sd:k=.free;exact Sd;exfalso;have e1:(k==NameKind.free)=false:=(by simpa using Sd);simp only[Option.map,e1,zR,Bool.false_eq_true,if_false]at hk;rcases hk with z|z;exact S.gu _ hm<|zP z;exact Sd<|zP z);subst Sd;obtain⟨c,Kc⟩:=I.ok.has x<|S.AL _ hm rfl;exact{c,i0 X.env.cells scope.names [] x c (by intro x c h;simp at h) hm Kc});exact zy<|zl (Oo b hb) lR;exact(ff b hb).2.2.2.2.1 x c<|iw _ _ h;have q:b∈X.ex\/X.cR.heap.objs.size<=b:=(ff b hb).2.2.2.1;rcases q with q|q;exact I.ok.Al b o e q;exact absurd (zl (zt e)<|zK I.ok.Ef q)<|yi _;rcases zf.mp (I.mQ b hf) with z|z;exact(ff b hb).2.1 z;exact(ff b hb).2.2.1 z
 have Se:∀p∈X.pn++pins,p.1∉kJ X.stack:=λp hp z=>by obtain⟨_,_,ne,nf,_⟩:=I.pin p hp;rcases zf.mp (I.mQ _ z) with q|q;exact ne q;exact nf q
 have G0:∀p∈X.pn++pins,p.1<bL.heap.objs.size:=λp hp=>zt (I.pin p hp).1;have Sf:∀b∈kJ X.stack,b<bL.heap.objs.size:=λb hb=>by rcases zf.mp (I.mQ b hb) with z|z;rw[z];exact I.lt;obtain⟨_,o,ho,_⟩:=I.ok.jS.mem z;exact zl (zt ho) I.sz
 have Xg:∀(i:Nat)(x:Str)(v:V),N[i]?=some x->(pick σ src)[i]?=some (some v)->∃u c,RelV v u/\(clOf X.env.cells scope.names).lookup x=some c/\bL.heap.IsCell c (some u)/\scope.names.lookup x=some .free:=λi x v e1 e2=>by unfold pick at e2;rw[zq]at e2;cases es:src[i]? with|none=>(rw[es]at e2;cases e2)|some o=>rw[es]at e2;cases o with|none=>(cases e2)|some j=>have e3:(σ[j]?).join=some v:=zP e2;have e4:σ[j]?=some (some v):=(by cases q:σ[j]? with|none=>(rw[q]at e3;cases e3)|some z=>rw[q]at e3;exact congrArg some e3);obtain⟨a1,a2,a3⟩:=S.src i j x es e1;obtain⟨m0,_,hl⟩:=I.loc;obtain⟨u,r,l⟩:=hl j x v a1 e4 a3;have hm:=yf a2;have hk:=S.AL _ hm rfl;rcases l with⟨k,_⟩|⟨_,c,Kc,z⟩;rcases hk with hk|hk<;>(rw[k]at hk;cases hk);exact{u,c,r,i0 X.env.cells scope.names [] x c (by intro x c h;simp at h) hm Kc,z,a2}
 have kinds:∀x,scope.names.lookup x=some .free->(compEnvC scope (clOf X.env.cells scope.names) C X.env).kindOf x=some .cell\/(compEnvC scope (clOf X.env.cells scope.names) C X.env).kindOf x=some .free:=λx hx=>by show(relabel scope X.env).names.lookup x=some .cell\/(relabel scope X.env).names.lookup x=some .free;unfold relabel;dsimp only;rw[i4,hx];dsimp only[Option.map];split;exact .inl rfl;exact .inr rfl
 have Ic:Inv (iu X N scope C bL iL fp<|X.pn++pins) [] (pick σ src) iL {bL with heap:=h₁,toks:=bL.toks+([]:List (Str×Value)).length}:=by refine{ok,rfl,I.bare,Un.kept old,{_,uN,λi x v e1 e2 e3=>?_},λx c e=>?_,I.aH.fresh lR,λx c e=>I.df x c<|iw x c e,λp hp=>?_,I.aH.kept old,?_};obtain⟨u,c,r,e5,⟨o,ho,hd⟩,hf⟩:=Xg i x v e1 e2;exact{u,r,.inr {kinds x hf,c,e5,{o,old _ _ ho,hd}}};obtain⟨v,o,ho,hd⟩:=I.cell x c<|iw x c e;exact{v,o,old _ _ ho,hd};have hp:p∈X.pn++pins:=(by simpa [iu]using hp);obtain⟨e,n,_,_,d⟩:=I.pin p hp;exact{old _ _ e,n,zy<|zl (G0 p hp) lR,Se p hp,d};show(pick σ src).length=N.length;unfold pick;rw[zc,S.len]
 have w5:bL.heap.objs.size<=D:=Nat.le_of_eq hD;have Oq:D∉kJ X.stack:=λz=>absurd (zl (Sf D z) w5)<|yi _;have Mu:D∉fp:=λz=>absurd (zl (Oo D z) w5)<|yi _;have o_:∀{pl:List (Addr×Obj)}{H':Hp},(∀b∈fp,H' b=none)->(∀p∈pl,p.1∉fp)->∀b∈fp,sx (iu X N scope C bL iL fp<|X.pn++pins) pl H' b:=λ{pl H'} hn du b hb=>by obtain⟨f0,f1,f2,f3,f4,f5⟩:=ff b hb;refine{hn b hb,zy<|zl (Oo b hb) lR,λz=>?_,.inl hb,λx c e=>f4 x c<|iw x c e,λp hp=>?_};rcases zf.mp (I.mQ b z) with q|q;exact f1 q;exact f2 q;have hp:p∈(X.pn++pins)++pl:=hp;rcases zJ.mp hp with hp|hp;exact f5 p hp;exact λz=>du p hp<|z ▸ hb
 have back:∀{s':Shared}{H':Hp}{out:List V}{ay:List Value}{nn:Nat}{aC:St},Inv (iu X N scope C bL iL fp<|X.pn++pins) [] aC H' s'->H' D=none->out.length<=sizeLine->Vals out ay->s'.heap.get? D=some {cls:=.type "list",data:=.seq ay.toArray nn}->(∀D,H' D=none->Q (.ref D) (upd H' D<|.lst out))->CompEnd X pins σ Q D C s':=λ{s' H' out ay nn aC} I' hn hl hv ho q=>by obtain⟨m,hm,_⟩:=I'.loc;have un:Un (kJ X.stack) fp iL H' bL.heap s'.heap:=I'.base;have neD:∀b o,bL.heap.get? b=some o->b≠D:=λb o e=>zy<|zl (zt e) w5;have fD:iL D=none:=I.aH.fresh w5;refine{upd H' D<|.lst out,m,?_,q D hn,hm,by rw[au<|Ne.symm QI];exact I'.free,yj<|zl I.lt lR,zK I.sz lR,λx c e=>zy<|zl (GZ x c e) lR,λp hp=>zy<|zl (G0 p hp) lR};refine I.Gn (ch:=fp) I'.os {un.keep,un.slot,λb o e n hb=>?_,un.there,λb xs e=>?_,λb o u e=>?_,λb ps e=>?_} (λb o e=>?_) I'.bare λb hb=>?_;rw[au<|neD b o e];exact un.free b o e n hb;rw[au<|az e fD];exact un.fQ b xs e;rw[au<|az e fD];exact un.fg b o u e;rw[au<|az e fD];exact un.fh b ps e;by_cases hb:b=D;subst hb;rw[aE]at e;cases e;exact⟨hl,ay,nn,hv,ho⟩;rw[au hb]at e;refine(I'.aH b o e).lI (λc v _ q=>q) (λc q=>?_) λc xs q=>?_;rw[au<|az q hn];exact q;rw[au<|az q hn];exact q;obtain⟨f0,f1,f2,f3,f4,f5⟩:=ff b hb;exact⟨f3,f1,f4,f5⟩
 obtain⟨m0,w0⟩:=w0;have loop:∀wZ:Shared,wZ={bL with heap:=h₁,toks:=bL.toks+([]:List (Str×Value)).length}->codeAny (model X.prog X.w) X.A (.compLoop (.ListComp elt [{tg,iter,ifs,0}] scope pos) 0 (.ref it) (.ref D)<|compEnvC scope (clOf X.env.cells scope.names) C X.env) (RR (.ref D) C) wZ:=by rintro wZ rfl;refine jU (EE:=λ_ _=>False) (λ_ _ f=>f.elim) (λn s'=>∃i out ay nn H',Inv (iu X N scope C bL iL fp<|X.pn++pins) [] (pick σ src) H' s'/\H' D=none/\out.length<=sizeLine/\Vals out ay/\s'.heap.get? D=some {cls:=.type "list",data:=.seq ay.toArray nn}/\tn i s'.heap/\(∀b∈fp,H' b=none)/\W i n out H') ?_ m0 {0,[],[],0,iL,Ic,I.aH.fresh w5,zU _,.nil,qp,T.keep _ _ _ st λb hb o e=>old b o e,λb hb=>(ff b hb).1,w0};rintro n s3 ⟨i,out,ay,nn,H3,I3,Z1,QJ,Ot,ho3,RF,RG,w3⟩;have Ou:∀(ay:List Value) (nn:Nat) (v:Option Value),({cls:=.type "list",data:=.seq ay.toArray nn} : Obj).data≠.cell v:=λ_ _ _ z=>nomatch z;have Z2:Inv (iu X N scope C bL iL fp<|X.pn++pins) [(D,{cls:=.type "list",data:=.seq ay.toArray nn})] (pick σ src) H3 s3:=I3.lJ λp hp=>(by have e:p=(D,{cls:=.type "list",data:=.seq ay.toArray nn}):=(by simpa using hp);subst e;exact{ho3,Z1,QI,Oq,Ou ay nn});have Xh:∀p∈[((D,{cls:=.type "list",data:=.seq ay.toArray nn}):Addr×Obj)],p.1∉fp:=λp hp=>(by have e:p=(D,{cls:=.type "list",data:=.seq ay.toArray nn}):=(by simpa using hp);subst e;exact Mu);rcases turn i n out H3 w3 with⟨stop,qn⟩|⟨go,dW,step⟩;refine bf (T.done (iu X N scope C bL iL fp<|X.pn++pins) rfl rfl rfl hc i _ s3 _ H3 _ Z2 (o_ RG Xh) RF stop) λr s4 ⟨hr,I4⟩=>?_;subst hr;have p4:=(I4.pin (D,{cls:=.type "list",data:=.seq ay.toArray nn})<|zw _<|by simp).1;exact hRR D C s4<|back (I4.lJ (pins':=[]) λp hp=>nomatch hp) Z1 QJ Ot p4 qn;refine bf (T.item (iu X N scope C bL iL fp<|X.pn++pins) rfl rfl rfl hc i _ s3 _ H3 _ Z2 (o_ RG Xh) RF go) λr s4 ⟨u,hr,h4⟩=>?_;subst hr;refine bf h4 λ_ s5 ⟨x,H5,I5,r5,y5,st5,fr5⟩=>?_;have WH:=I5.pinned (o_ fr5 Xh)<|T.obj _ _ st5;refine bf (hg _ _ _ _ _ _ s5 _ H5 x u _ WH r5<|hx x σ H5 _<|step x H5 y5) λ_ s6 ⟨RH,H6,I6,e6,q6⟩=>?_;have fin:∀{s7:Shared}{H7:Hp},Inv (iu X N scope C bL iL fp<|X.pn++pins) ([(D,{cls:=.type "list",data:=.seq ay.toArray nn})]++p8 fp s5.heap) RH H7 s7->Inv (iu X N scope C bL iL fp<|X.pn++pins) [] (pick σ src) H7 s7/\H7 D=none/\s7.heap.get? D=some {cls:=.type "list",data:=.seq ay.toArray nn}/\tn (i+1) s7.heap/\∀b∈fp,H7 b=none:=λ{s7 H7} I7=>(by have pD:=I7.pin (D,{cls:=.type "list",data:=.seq ay.toArray nn})<|zw _ (by simp);refine{(I7.lJ (pins':=[]) λp hp=>nomatch hp).weak e6.1.symm e6.2,pD.2.1,pD.1,T.keep _ _ _ st5 λb hb o e=>(I7.pin (b,o)<|zw _<|zw _<|g8 hb e).1,λb hb=>?_};obtain⟨o,e,d⟩:=T.obj _ _ st5 b hb;exact(I7.pin (b,o)<|zw _<|zw _<|g8 hb e).2.1);refine bf (hi _ _ _ _ _ _ s6 RH H6 _ I6 q6) λb s7 ⟨H7,I7,q7⟩=>?_;cases b with|false=>(rw[if_neg zd]at q7⊢;obtain⟨m',hm,w7⟩:=q7;obtain⟨J7,d7,o7,t7,f7⟩:=fin I7;exact{m',hm,i+1,out,ay,nn,H7,J7,d7,QJ,Ot,o7,t7,f7,w7})|true=>rw[if_pos rfl]at q7⊢;refine bf (he _ _ _ _ _ _ s7 RH H7 _ I7 q7) λv s8 ⟨y,H8,I8,r8,m',hm,w8⟩=>?_;obtain⟨J8,d8,o8,t8,f8⟩:=fin I8;have hsz:ay.toArray.size<=sizeLine:=(by rw[zm,<-Ot.length];exact QJ);refine wpAny_list_append_plain (items:=ay.toArray) (hsz:=hsz) ⟨nn,o8⟩ λh9 ⟨n9,e9⟩ sb=>?_;have J9:Inv (iu X N scope C bL iL fp<|X.pn++pins) [] (pick σ src) H8 {s8 with heap:=h9}:=J8.turned (t':=s8.toks) (it:=D) (λb o hb e=>(sb.2 b hb).trans e) d8 QI (.inr w5) (λx c e=>zy<|zl (GZ x c<|iw x c e) w5) λp hp=>(by have hp:p∈X.pn++pins:=(by simpa [iu]using hp);exact zy<|zl (G0 p hp) w5);refine{m',hm,i+1,out++[y],ay++[v],n9,H8,J9,d8,?_,Ot.append<|.cons r8 .nil,?_,T.keep _ _ _ t8 λb hb o e=>(sb.2 b λz=>Mu<|z ▸ hb).trans e,f8,w8};rw[zG];exact dW;rw[e9];simp
 exact codeAny_compStart_list (loop _ rfl)<|T.self _ _ _ _ _ (T.keep _ _ _ st λb hb o e=>old b o e)<|loop _ rfl
theorem Kh(S:bE X N src scope)(hc:X.calm=true)(hit:PI X tg iter wi) (hg:∀C s H ex pn,PG (iu X N scope C s H ex pn) tg g) (hx:AM g src) (hi:∀C s H ex pn,QG (iu X N scope C s H ex pn) ifs tc) (he:∀C s H ex pn,PE (iu X N scope C s H ex pn) elt te) (hs:autoParam (∀x,foldedSetIterable iter X.env x=pure x) qQ0):PE X (.ListComp elt [{tg,iter,ifs,0}] scope pos) (GY wi src g tc te):=by intro pins s σ H Q I h;rw[eval_ListComp];have EJ:closureFor scope X.env=pure (clOf X.env.cells scope.names):=gs λy hy hf=>I.ok.has y.1<|S.AL y hy hf;refine wpAny_comprehension_free (use:=none) rfl hs EJ S.kind S.loc<|bf (hit pins s σ H _ I h) λv s1 h1=>bf h1 λVy s2 h2=>?_;obtain⟨it,fp,tn,J,H2,e,I2,T,RE,f2,W,w0,turn⟩:=h2;subst e;refine tT (RR:=λacc C=>compPost (model X.prog X.w) X.A X.xe none (EP X pins σ Q) acc C) S hc hg hx hi he I2 T RE f2 W w0 turn λD C s' ⟨H',m,I',q,hm,hn,h1,h2,h3,h4⟩=>?_;exact{m,hm,λh' sb=>{.ref D,H',I'.turned (t':=s'.toks) (it:=C) (λb o hb e=>(sb.2 b hb).trans e) hn h1 (.inr h2) h3 h4,rfl,q}}
theorem AN{i:Nat}{x:Str}{pos' Ki:Pos}(hN:X.N.Nodup)(Xi:X.N[i]?=some x)(VF:X.env.scope.names.lookup x=some .local) (S:bE X N src scope) (hc:X.calm=true) (hit:PI X tg iter wi) (hg:∀C s H ex pn,PG (iu X N scope C s H ex pn) tg g) (hx:AM g src) (hi:∀C s H ex pn,QG (iu X N scope C s H ex pn) ifs tc) (he:∀C s H ex pn,PE (iu X N scope C s H ex pn) elt te) (Xj:autoParam (swapsWith (.ListComp elt [{tg,iter,ifs,0}] scope pos) (some<|.Name x pos') Ki.line X.env=pure true) qQJ) (hs:autoParam (∀x,foldedSetIterable iter X.env x=pure x) qQ0):PS X (.Assign [.Name x pos'] (.ListComp elt [{tg,iter,ifs,0}] scope pos) Ki) (NF (GY wi src g tc te)<|ir i):=by
 intro pins s σ H D I h;rw[exec_Assign_Name_used _ _ _ _ Xj];refine zb<|wpAny_standAt<|zb ?_;have EJ:closureFor scope X.env=pure (clOf X.env.cells scope.names):=gs λy hy hf=>I.ok.has y.1<|S.AL y hy hf;show wpAny _ X.A (do let _ <-comprehension (.ListComp elt [⟨tg,iter,ifs,0⟩] scope pos) scope X.env _ (newList []) false (eval iter X.env) (some (assign (.Name x pos') X.env))) _ _ s;refine zb<|yn (wpAny_comprehension_free (use:=some<|assign (.Name x pos') X.env) (Q:=λ_ s'=>∃aC H',Inv X pins aC H' s'/\D.nx aC H') rfl hs EJ S.kind S.loc<|bf (hit pins s σ H _ I h) λv s1 h1=>bf h1 λVy s2 h2=>?_) (λ_ s' hq=>zu<|zu hq) λ_ _ e=>e;obtain⟨it,fp,tn,J,H2,e,I2,T,RE,f2,W,w0,turn⟩:=h2;subst e;refine tT (Q:=λv H1=>D.nx (σ.set i<|some v) H1) (RR:=λacc C=>compPost (model X.prog X.w) X.A X.xe (some<|assign (.Name x pos') X.env) (λ_ s'=>∃aC H',Inv X pins aC H' s'/\D.nx aC H') acc C) S hc hg hx hi he I2 T RE f2 W w0 turn λD' C s' ⟨H',m,I',q,hm,hn,h1,h2,h3,h4⟩=>?_;show wpAny _ X.A (assign (.Name x pos') X.env<|.ref D') _ _ _;refine wpAny_assign_Name<|tE I' hN Xi (.inl VF) (v:=.ref D') rfl (λAE I'' ⟨a,sb,ha⟩=>?_)<|.inr VF;have hCa:C≠a:=by rcases ha with ha|ha;rw[ha];exact h1;exact Ne.symm<|h3 _ _ ha
 refine{m,hm.sameBut sb hCa,λh'' AO=>{_,H',I''.turned (t':=AE.toks) (it:=C) (λb o hb e=>(AO.2 b hb).trans e) hn h1 (.inr h2) h3 h4,q}}
end
theorem mW{σ:St}{src:List<|Option Nat}{i:Nat}(h:src[i]?=some none):(pick σ src)[i]?=some none:=by unfold pick;rw[zq,h];rfl
theorem Ext.set(h:σ0[i]?=some none)(e:Ext σ0 σ):Ext σ0 (σ.set i<|some v):=by
 refine{by rw[List.length_set];exact e.1,λj w hj=>?_};have:i≠j:=by rintro rfl;rw[h]at hj;cases hj
 rw[List.getElem?_set_ne this];exact e.2 j w hj
theorem Ext.refl(σ:St):Ext σ σ:={rfl,λ_ _ h=>h}
theorem aZ{src:List<|Option Nat}{i:Nat}(h:src[i]?=some none):AM (ir i) src:=λx σ H Q q=>{(Ext.refl _).set<|mW h,q}
theorem pO{K:Frag}{n:Nat}{src:List<|Option Nat}{i j:Nat}(h:src[i]?=some none)(h':src[j]?=some none):AM (JS K n<|p6 (ir i)<|p6 (ir j) JR) src:=λx σ H Q q=>by obtain⟨a,xs,e1,hs,hl,v,r,e2,v2,r2,e3,e4,q⟩:=q;exact{a,xs,e1,hs,hl,v,r,e2,v2,r2,e3,e4,((Ext.refl _).set<|mW h).set<|mW h',q}
theorem all_bools{xs:List V}{ay:List Value}{bs:List Bool}(hv:Vals xs ay)(hb:xs=bs.map V.bl):∀(i:Nat)(v:Value),ay.toArray[i]?=some v->v=Value.bool ((bs[i]?).getD false):=by
 subst hb;intro i v h;have h':ay[i]?=some v:=by simpa using h
 have hl:=hv.length;rw[zc]at hl;have hi:i<ay.length:=(ze.mp h').1;have hb:bs[i]?=some (bs[i]'(by lia)):=by simp
 obtain⟨u,hu,r⟩:=hv.get (i:=i) (x:=V.bl<|bs[i]'(by lia)) (by rw[zq,hb];rfl);rw[h']at hu;cases hu;rw[hb];exact r
theorem range_all{bs:List Bool} : (List.range bs.length).all (λi=>(bs[i]?).getD false)=bs.all id:=by rw[yw,yh,yh];constructor;intro h b hb;obtain⟨i,hi,rfl⟩:=List.mem_iff_getElem.mp hb;have:=h i<|zN.mpr hi;simpa [hi]using this;intro h i hi;have hi:=zN.mp hi;simpa [hi]using h _ (List.getElem_mem hi)
theorem range_any{bs:List Bool} : (List.range bs.length).any (λi=>(bs[i]?).getD false)=bs.any id:=by rw[yw,List.any_eq_true,List.any_eq_true];constructor;rintro⟨i,hi,h⟩;have hi:=zN.mp hi;exact{bs[i],List.getElem_mem hi,by simpa [hi]using h};rintro⟨b,hb,h⟩;obtain⟨i,hi,rfl⟩:=List.mem_iff_getElem.mp hb;exact{i,zN.mpr hi,by simpa [hi]using h}
section
variable{X:Cx}
theorem sC(hc:X.calm=true):cS X (.builtin "all") (λxs H Q=>∃(a:Addr)(bs:List Bool),xs=[.ref a]/\iU X.K H a (bs.map V.bl)/\Q (.bl<|bs.all id) H):=by
 intro pins s σ H xs us Q I r h;obtain⟨a,bs,rfl,hq,q⟩:=h;obtain⟨u,rfl,ru⟩:=vals1 r;cases ru;obtain⟨ay,rv,p,hz⟩:=I.list hq;have hl:=rv.length;rw[zc]at hl;refine call_all_walk<|wpAny_pyIter_list p.isList ?_;refine{s.heap.objs.size,_,_,_,_,_,λi=>(bs[i]?).getD false,rfl,Walks.list (A:=X.A.in1) (I.ok.hd hc) s.heap.objs.size a (zy p.lt) ay.toArray,{{_,zj _ rfl,rfl,rfl},p.isList.at λo e=>za _ e},?_,λh' tk hk=>?_};intro i v s' Q' E' hv hQ;rw[all_bools rv rfl i v hv];exact yo hQ;have e:ay.toArray.size=bs.length:=by rw[zm,<-hl]
 rw[e,range_all];exact{.bl<|bs.all id,H,I.kept (h':=h') (t':=tk) λb o e=>hk b o (by simpa using zy (zt e))<|za _ e,rfl,q}
theorem sD(hc:X.calm=true):cS X (.builtin "any") (λxs H Q=>∃(a:Addr)(bs:List Bool),xs=[.ref a]/\iU X.K H a (bs.map V.bl)/\Q (.bl<|bs.any id) H):=by
 intro pins s σ H xs us Q I r h;obtain⟨a,bs,rfl,hq,q⟩:=h;obtain⟨u,rfl,ru⟩:=vals1 r;cases ru;obtain⟨ay,rv,p,hz⟩:=I.list hq;have hl:=rv.length;rw[zc]at hl;refine call_any_walk<|wpAny_pyIter_list p.isList ?_;refine{s.heap.objs.size,_,_,_,_,_,λi=>(bs[i]?).getD false,rfl,Walks.list (A:=X.A.in1) (I.ok.hd hc) s.heap.objs.size a (zy p.lt) ay.toArray,{{_,zj _ rfl,rfl,rfl},p.isList.at λo e=>za _ e},?_,λh' tk hk=>?_};intro i v s' Q' E' hv hQ;rw[all_bools rv rfl i v hv];exact yo hQ;have e:ay.toArray.size=bs.length:=by rw[zm,<-hl]
 rw[e,range_any];exact{.bl<|bs.any id,H,I.kept (h':=h') (t':=tk) λb o e=>hk b o (by simpa using zy (zt e))<|za _ e,rfl,q}
end
noncomputable def ownOf:HO->Option Addr|.ins _ dx _=>some dx|.kI _ u=>ownOf u|_=>none
structure Fg(H H' G:Hp):Prop where
 sub:∀b o,G b=some o->H' b=some o
 dom:∀b o,H b=some o->∃o',G b=some o'
 own:∀a o dx,G a=some o->ownOf o=some dx->(∃o',H a=some o'/\ownOf o'=some dx)\/∃o',G dx=some o'
theorem aJ:bootBuiltins "len"= some (.builtin "len"):=PySem.boot_len
theorem gv:bootBuiltins "all"= some (.builtin "all"):=boot_all
theorem Ov:bootBuiltins "any"= some (.builtin "any"):=boot_any
theorem aq:bootBuiltins "isinstance"= some (.builtin "isinstance"):=boot_isinstance
theorem uO:bootBuiltins "int"= some (.type "int"):=PyProof.Rows.boot_int
theorem Kj:bootBuiltins "bool"= some (.type "bool"):=PyProof.Rows.boot_bool
theorem g_:bootBuiltins "str"= some (.type "str"):=PyProof.Rows.boot_str
theorem aS:bootBuiltins "tuple"= some (.type "tuple"):=PyProof.Rows.boot_tuple
theorem Kk:bootBuiltins "list"= some (.type "list"):=PyProof.Rows.boot_list
theorem CK:bootBuiltins "dict"= some (.type "dict"):=PyProof.Rows.boot_dict
theorem Ow:bootBuiltins "set"= some (.type "set"):=PyProof.Rows.boot_set
set_option genInjectivity true in
set_option genSizeOfSpec true in
inductive Kd where
 |ax|bl|int|str|lst|tup|cA
 deriving DecidableEq
noncomputable def Kd.name:Kd->String|.ax=>"NoneType" |.bl=>"bool" |.int=>"int" |.str=>"str" |.lst=>"list" |.tup=>"tuple" |.cA=>"dict"
inductive qq (H:Hp):V->Kd->Prop where
 |ax:qq H .ax .ax
 |bl (b:Bool):qq H (.bl b) .bl
 |int (i:Int):qq H (.int i) .int
 |str (x:Str):qq H (.str x) .str
 |lst {a:Addr}{xs:List V} (e:H a=some (.lst xs)):qq H (.ref a) .lst
 |tup {a:Addr}{xs:List V} (e:H a=some (.tup xs)):qq H (.ref a) .tup
 |cA {a:Addr}{kvs:List<|Key×V} (e:H a=some (.dK kvs)):qq H (.ref a) .cA
theorem qq.ty{K:Frag}{H:Hp}{x:V}{k:Kd}(h:qq H x k):mT K H x (.type k.name):=by cases h with|ax=>exact .ax|bl b=>exact .bl b|int i=>exact .int i|str x=>exact .str x|lst e=>exact .lst e|tup e=>exact .tup e|cA e=>exact .dK e
noncomputable def w6(T:String):Option (Kd->Bool):=if T ="int" then some λk=>match k with|.int=>true|.bl=>true|_=>false else if T ="bool" then some λk=>match k with|.bl=>true|_=>false else if T ="str" then some λk=>match k with|.str=>true|_=>false else if T ="tuple" then some λk=>match k with|.tup=>true|_=>false else if T ="list" then some λk=>match k with|.lst=>true|_=>false else if T ="dict" then some λk=>match k with|.cA=>true|_=>false else none
theorem G1{K:Frag}{T:String}{g:Kd->Bool}(h:w6 T=some g)(k:Kd):kitOne K (.type k.name) (.type T)=some (g k):=by unfold w6 at h;split at h;rename_i e;subst e;cases h;cases k<;>rfl;split at h;rename_i e;subst e;cases h;cases k<;>rfl;split at h;rename_i e;subst e;cases h;cases k<;>rfl;split at h;rename_i e;subst e;cases h;cases k<;>rfl;split at h;rename_i e;subst e;cases h;cases k<;>rfl;split at h;rename_i e;subst e;cases h;cases k<;>rfl;cases h
section
variable{X:Cx}
theorem G4:cS X (.builtin "isinstance") (λxs H Q=>∃x T k g,xs=[x,.ty T]/\w6 T=some g/\qq H x k/\Q (.bl<|g k) H):=by intro pins s σ H xs us Q I r h;obtain⟨x,T,k,g,rfl,hg,hk,q⟩:=h;obtain⟨v,w',rfl,rv,pe⟩:=vals2 r;cases pe;exact Eu I rv hk.ty (G1 hg k) λtk=>{.bl<|g k,H,I.tok tk,rfl,q}
end
mutual
def Dt(K:Frag)(H:Hp):PyData->V->Prop|.none,v=>v=.ax|.bool b,v=>v=.bl b|.int i,v=>v=.int i|.str z,v=>v=.str z|.list ds,v=>∃a xs,v=.ref a/\iU K H a xs/\DtAll K H ds xs|.tuple ds,v=>∃a xs,v=.ref a/\iq K H a xs/\DtAll K H ds xs|.dict _,_=>False
def DtAll(K:Frag)(H:Hp):List PyData->List V->Prop|[],xs=>xs=[]|d::ds,xs=>∃y ys,xs=y::ys/\Dt K H d y/\DtAll K H ds ys
end
section
variable{X:Cx}{pins:List (Addr×Obj)}{σ:St}{H:Hp}{s:Shared}
mutual
theorem Inv.reads(I:Inv X pins σ H s):∀(d:PyData){x:V}{u:Value},Dt X.K H d x->RelV x u->∃as,Reads s.heap u d as
 |.none,x,u,h,r=>by
  have h:x=.ax:=by simpa only[Dt]using h
  subst h;cases r;exact{_,.none}
 |.bool b,x,u,h,r=>by
  have h:x=.bl b:=by simpa only[Dt]using h
  subst h;cases r;exact{_,.bool b}
 |.int i,x,u,h,r=>by
  have h:x=.int i:=by simpa only[Dt]using h
  subst h;obtain⟨t,rfl⟩:=r;exact{_,.int i t}
 |.str z,x,u,h,r=>by
  have h:x=.str z:=by simpa only[Dt]using h
  subst h;obtain⟨t,rfl⟩:=r;exact{_,.str z t}
 |.list ds,x,u,h,r=>by
  have h:∃a xs,x=.ref a/\iU X.K H a xs/\DtAll X.K H ds xs:=by simpa only[Dt]using h
  obtain⟨a,xs,rfl,hq,hd⟩:=h;cases r;obtain⟨ay,rv,p,_⟩:=I.list hq;obtain⟨as,ra⟩:=Inv.readsAll I ds hd rv;obtain⟨o,e,c,n,d⟩:=p.isList;exact{_,.list e c d<|by simpa using ra}
 |.tuple ds,x,u,h,r=>by
  have h:∃a xs,x=.ref a/\iq X.K H a xs/\DtAll X.K H ds xs:=by simpa only[Dt]using h
  obtain⟨a,xs,rfl,hq,hd⟩:=h;cases r;obtain⟨ay,rv,p,_⟩:=I.tuple hq;obtain⟨as,ra⟩:=Inv.readsAll I ds hd rv;obtain⟨o,e,c,n,d⟩:=p;exact{_,.tuple e c d<|by simpa using ra}
 |.dict _,x,u,h,r=>by
  have h:False:=by simpa only[Dt]using h
  exact h.elim
theorem Inv.readsAll(I:Inv X pins σ H s):∀(ds:List PyData){xs:List V}{us:List Value},DtAll X.K H ds xs->Vals xs us->∃as,ReadsAll s.heap us ds as
 |[],xs,us,h,r=>by
  have h:xs=[]:=by simpa only[DtAll]using h
  subst h;cases r;exact{_,.nil}
 |d::ds,xs,us,h,r=>by
  have h:∃y ys,xs=y::ys/\Dt X.K H d y/\DtAll X.K H ds ys:=by simpa only[DtAll]using h
  obtain⟨y,ys,rfl,h1,h2⟩:=h;cases r with|cons r1 r2=>obtain⟨as,ra⟩:=Inv.reads I d h1 r1;obtain⟨bs,rb⟩:=Inv.readsAll I ds h2 r2;exact{_,.cons ra rb}
end
end
def Sh(K:Frag)(neg:Bool):R2:=λx y H Q=>∃d e,Dt K H d x/\Dt K H e y/\d.canLay0=true/\e.canLay0=true/\(d.depth<=64\/e.depth<=64)/\Q (.bl<|if neg then !PyData.eqv d e else PyData.eqv d e) H
section
variable{X:Cx}
theorem G5(hu:X.A.units+64<cLine):g9 X (compareOp .Eq) (Sh X.K false):=by intro pins s σ H x y v u Q I rx ry h;obtain⟨d,e,hd,he,cd,ce,dp,q⟩:=h;obtain⟨as,ra⟩:=I.reads d hd rx;obtain⟨bs,rb⟩:=I.reads e he ry;exact SeqAt.compareEq_reads ra rb cd ce (by rcases dp with dp|dp<;>lia)<|aI I q rfl
theorem G6(hu:X.A.units+64<cLine):g9 X (compareOp .NotEq) (Sh X.K true):=by intro pins s σ H x y v u Q I rx ry h;obtain⟨d,e,hd,he,cd,ce,dp,q⟩:=h;obtain⟨as,ra⟩:=I.reads d hd rx;obtain⟨bs,rb⟩:=I.reads e he ry;exact SeqAt.compareNe_reads ra rb cd ce (by rcases dp with dp|dp<;>lia)<|aI I q rfl
end
theorem jI(a b:Nat):FY ⟨#[a]⟩ ⟨#[b]⟩=decide (a<=b):=by
 unfold FY;have e:([b]<[a])↔b<a:=by rw[List.cons_lt_cons_iff];constructor;rintro (h|⟨_,h⟩);exact h;exact absurd h<|List.not_lt_nil _;exact .inl
 rw[yw];show(!decide ([b]<[a]))=true↔_;rw[Bool.not_eq_true',decide_eq_false_iff_not,e,decide_eq_true_iff];lia
noncomputable def chkC(sc:Scope)(N0 N:List Str)(src:List<|Option Nat)(scope:Scope):Bool :=
 decide (scope.kind=.function)&&(scope.names.all (λy=>decide (y.2≠.cell)&&(decide (y.2≠.local)||decide (scope.names.lookup y.1=some .local))&&(decide (y.2≠.free)||(decide (sc.names.lookup y.1=some .cell)||decide (sc.names.lookup y.1=some .free)))) &&
  (decide (src.length=N.length)&&(List.range src.length).all λi=>match src[i]?,N[i]? with
   |some (some j),some x=>decide (N0[j]?=some x)&&(decide (scope.names.lookup x=some .free)&&(decide (sc.names.lookup x=some .cell)||decide (sc.names.lookup x=some .free)))
   |_,_=>true))
theorem lF(sc:Scope)(N0:List Str)(hs:X.env.scope=sc)(hN:X.N=N0)(h:chkC sc N0 N src scope=true):bE X N src scope:=by unfold chkC at h;simp only[zL,yb,yh,Bool.or_eq_true]at h;obtain⟨h1,h2,h3,h4⟩:=h;refine{h1,λy hy=>(h2 y hy).1.1,λy hy e=>?_,λy hy e=>?_,h3,λi j x e1 e2=>?_};rcases (h2 y hy).1.2 with z|z;exact absurd e z;exact z;rcases (h2 y hy).2 with z|z;exact absurd e z;show X.env.scope.names.lookup y.1=some .cell\/X.env.scope.names.lookup y.1=some .free;rw[hs];exact z;have hi:i<src.length:=(ze.mp e1).1;have q:=h4 i<|zN.mpr hi;rw[e1,e2]at q;simp only[zL,yb,Bool.or_eq_true]at q;refine{by rw[hN];exact q.1,q.2.1,?_};unfold Qz;rw[hs];exact .inr q.2.2
theorem uP(h0:0<=i)(h1:i<l.length):∃v,uG l i=some v/\l[i.toNat]?=some v:=by
 obtain⟨j,rfl⟩:=Int.eq_ofNat_of_zero_le h0;have hj:j<l.length:=by lia
 exact{l[j],dw<|by simp[hj],by simp[hj]}
theorem bD{c:Bool}{A B:Prop}(h:c=true->A)(h':c=false->B):if c=true then A else B:=by cases c with|true=>exact h rfl|false=>exact h' rfl
theorem nt(h:(!b)=true):b=false:=by cases b<;>simp_all
theorem nf(h:(!b)=false):b=true:=by cases b<;>simp_all
noncomputable def AQ:Kd->Bool|.int=>true|.bl=>true|_=>false
noncomputable def uQ:Kd->Bool|.bl=>true|_=>false
noncomputable def AR:Kd->Bool|.str=>true|_=>false
noncomputable def qr:Kd->Bool|.tup=>true|_=>false
theorem Kl:w6 "int"= some AQ:=if_pos rfl
theorem G7:w6 "bool"= some uQ:=(if_neg<|by decide).trans<|if_pos rfl
theorem cG:w6 "str"= some AR:=(if_neg<|by decide).trans<|(if_neg<|by decide).trans<|if_pos rfl
theorem aT:w6 "tuple"= some qr:=(if_neg<|by decide).trans<|(if_neg<|by decide).trans<|(if_neg<|by decide).trans<|if_pos rfl
theorem len_pos{z:Str}(h:1<=z.cps.size):∃c r,z.cps.toList=c::r:=by cases e:z.cps.toList with|nil=>have:z.cps.toList.length=0:=(by rw[e];rfl);rw[ym]at this;lia|cons c r=>exact⟨c,r,rfl⟩
theorem at0(e:l=c::r):uG l 0=some c:=by
 have:l[0]?=some c:=by rw[e];rfl
 exact dw (j:=0) this
noncomputable def isPlain:Expr->Bool|.Starred _ _=>false|_=>true
theorem AS(h:isPlain e=true):starEach (e::es) env=(false,eval e env)::starEach es env:=by cases e<;>first|rfl|exact absurd h zd
theorem Xk{t:TA}(ha:PE X e te)(hr:PA X es t)(hp:autoParam (isPlain e=true) qQJ):PA X (e::es) (Mp te t):=J2 ha hr<|AS hp
end L2
namespace HT
open PySem PyProof.Rows
open PySem.SeqAt
open PySem.AutoSeq1 (wpAny_loadPart')
open PySem.MeetsSeq PySem.MeetsSeq2 PySem.MeetsSeq3
end HT
namespace L2
open PySem PySem.Spec PyProof.Rows
def FZ(c:Value)(e:Addr)(h:Heap):Prop:=∃o vs,h.get? e=some o/\o.data=.fields vs/\vs[2]?=some c
section
variable{M:Model}{A:Around}{E:Value->Shared->Prop}{s:Shared}{base:Heap}{env:Env}{outer:List Env}{L e:Addr}{a0 c fl:Value}
theorem Si(tU:A.frames=some (env::outer))(hl:s.heap.FunFrames base<|env::outer)(hf:env.frame=some L) (he:s.heap.get? e=some oe) (F_:base.StaysIn s.heap) (wF:base.get? e=none) (hd:oe.data=.fields vs) (h0:vs[0]?=some a0) (h2:vs[2]?=some c) (h:∀h',Heap.NotedW base (env::outer) e oe.cls a0 (rawInt L) s.heap h'->FZ c e h'->Q () {s with heap:=h'}): wpAny M A (do let x <-frameOf env;let y <-entryPlaceOf L nx;let z <-EntryCells.newEntry head x .none (rawInt L) .none y;setField (.ref e) 1 z) Q E s:=by
 have hsz:1<vs.size:=by have:=(Array.getElem?_eq_some_iff.mp h2).1;lia
 have nfr:e∉(env::outer).filterMap (·.frame):=λm=>by obtain⟨_,o,q,n⟩:=hl.mem m;rw[he]at q;cases q;exact n vs hd
 refine zb<|wpAny_frameOf_fun tU hl hf λg sg=>?_;refine zb<|wpAny_entryPlaceOf λpl du=>?_;unfold EntryCells.newEntry newFields;refine zb<|yA ?_<|du.sizeOk5 _ _ _ _ _;have g1:g.get? e=some oe:=(sg.2.1 e nfr).trans he;have kg:base.StaysIn g:=λb o q=>(sg.2.1 b λm=>by rw[(hl.mem m).1]at q;cases q).trans<|F_ b o q;have t3:((([head,.ref L,.none,rawInt L,.none]++(if pl.isEmpty then List.replicate 6 Value.none else pl)).toArray:Array Value))[3]?=some (rawInt L):=by rcases du with rfl|⟨_,_,_,_,_,_,_,rfl⟩<;>simp
 generalize VG:(([head,.ref L,.none,rawInt L,.none]++(if pl.isEmpty then List.replicate 6 Value.none else pl)).toArray:Array Value)=ts at t3;have g2:=za (h:=g) {cls:=.type "traceback",dict:=none,data:=.fields ts} g1;refine yK g2 hd hsz<|h _ ?_ ?_;have ne:g.objs.size≠e:=yj<|zt g1;have d3:=yr hd (·.setIfInBounds 1 (Value.ref g.objs.size));have e3:=yp (Obj.mapFields (·.setIfInBounds 1 (Value.ref g.objs.size))) g2<|Obj.isFreed_of_fields d3;have T3:=(yk (g.push {cls:=.type "traceback",dict:=none,data:=.fields ts}) (Obj.mapFields (·.setIfInBounds 1 (Value.ref g.objs.size)))<|Ne.symm ne).trans<|zj g rfl;have keep:∀b o,b≠e->g.get? b=some o->((g.push {cls:=.type "traceback",dict:=none,data:=.fields ts}).update e (Obj.mapFields (·.setIfInBounds 1 (Value.ref g.objs.size)))).get? b=some o:=λb o n q=>by rw[yk _ _<|Ne.symm n];exact za _ q
 have w9:∀b o,s.heap.get? b=some o->(∀vs,o.data≠.fields vs)->b≠e:=λb o q n z=>by rw[z,he]at q;cases q;exact n vs hd
 refine{λb o q=>keep b o (λz=>by rw[z,wF]at q;cases q)<|kg b o q,hl.of_keeps λb o q n=>?_,?_,λb o q n=>?_};obtain⟨sl,z⟩:=sg.2.2 b o q;exact{_,keep b _ (w9 b o q n) z,rfl};exact{_,_,g.objs.size,_,_,e3,{Obj.cls_mapFields _ _,by rw[Array.getElem?_setIfInBounds_ne<|by decide];exact h0},d3,by simp[hsz],kg.fresh,ne,T3,rfl,t3};obtain⟨sl,z⟩:=sg.2.2 b o q;exact{sl,keep b _ (w9 b o q n) z};have d3:=yr hd (·.setIfInBounds 1 (Value.ref g.objs.size));exact{_,_,yp (Obj.mapFields (·.setIfInBounds 1 (Value.ref g.objs.size))) g2<|Obj.isFreed_of_fields d3,d3,by rw[Array.getElem?_setIfInBounds_ne<|by decide];exact h2}
theorem setC(F_:base.StaysIn s.heap)(wF:base.get? e=none)(hl:s.heap.FunFrames base l)(ht:s.heap.TracedAtW base e cls a0 fl)(hc:FZ c e s.heap) (h:∀h',Heap.FlyingW base l e cls a0 h'->s.heap.UpToSlots h'->FZ c e h'->Q () {s with heap:=h'}):wpAny M A (setFlight (.ref e) none) Q E s:=by
 obtain⟨o,vs,T,oT,ts,q,hk,hd,q1,nT,ne,qT,dT,q3⟩:=ht;obtain⟨o',Xl,q',Ao,q2⟩:=hc;rw[q]at q';cases q';rw[hd]at Ao;cases Ao;have Z3:3<ts.size:=(Array.getElem?_eq_some_iff.mp q3).1;have Km:∀b,b≠T->(s.heap.update T (Obj.mapFields (·.setIfInBounds 3 ((none:Option Addr).elim Value.none λf=>rawInt f)))).get? b=s.heap.get? b:=λb n=>yk _ _<|Ne.symm n;have w9:∀b o,s.heap.get? b=some o->(∀vs,o.data≠.fields vs)->b≠T:=λb o z n w=>by rw[w,qT]at z;cases z;exact n ts dT
 have qe:=(Km e<|Ne.symm ne).trans q;unfold setFlight;refine zb<|z0 q hd q1 ?_;rw[if_pos<|show(Value.ref T != Value.none)=true by simp];refine yK qT dT Z3<|h _ {λb o z=>(Km b λw=>by rw[w,nT]at z;cases z).trans<|F_ b o z,wF,hl.of_keeps λb o z n=>{o,(Km b<|w9 b o z n).trans z,rfl},?_} (λb o z n=>{o.slots,(Km b<|w9 b o z n).trans z}) ⟨o,vs,qe,hd,q2⟩;exact{o,vs,T,_,_,qe,hk,hd,q1,nT,ne,yp _ qT<|Obj.isFreed_of_fields<|yr dT _,yr dT _,by simp[Z3]}
theorem Sj(tU:A.frames=some (env::outer))(hf:env.frame=some L)(F_:base.StaysIn s.heap)(wF:base.get? e=none)(hl:s.heap.FunFrames base<|env::outer)(ht:s.heap.TracedAtW base e cls a0 fl)(hc:FZ c e s.heap) (h:∀h',Heap.HeldW base (env::outer) e cls a0 L h'->s.heap.UpToSlots h'->FZ c e h'->Q () {s with heap:=h'}):wpAny M A (noteFrame (.ref e) env) Q E s:=by
 by_cases Ko:fl=rawInt L;subst Ko;exact wpAny_noteFrame_againW hf ht<|h s.heap ⟨F_,wF,hl,ht⟩ (.refl _) hc;obtain⟨o,vs,T,oT,ts,q,⟨hk,h0⟩,hd,q1,nT,ne,qT,dT,q3⟩:=ht;obtain⟨o',Xl,q',Ao,q2⟩:=hc;rw[q]at q';cases q';rw[hd]at Ao;cases Ao;subst hk;have Km:∀b,b≠T->(s.heap.update T (Obj.mapFields (·.setIfInBounds 3 Value.none))).get? b=s.heap.get? b:=λb n=>yk _ _<|Ne.symm n;have w9:∀b o,s.heap.get? b=some o->(∀vs,o.data≠.fields vs)->b≠T:=λb o z n w=>by rw[w,qT]at z;cases z;exact n ts dT
 unfold noteFrame;simp only[hf];refine zb<|z0 q hd q1 ?_;rw[if_pos<|show(Value.ref T != Value.none)=true by simp];refine zb<|z0 qT dT q3 ?_;rw[if_neg<|show ¬((fl==rawInt L)=true) by simpa using Ko];refine zb<|yK qT dT (Array.getElem?_eq_some_iff.mp q3).1 ?_;refine Si tU (hl.of_keeps λb o z n=>{o,(Km b<|w9 b o z n).trans z,rfl}) hf ((Km e<|Ne.symm ne).trans q) (λb o z=>(Km b λw=>by rw[w,nT]at z;cases z).trans<|F_ b o z) wF hd h0 q2 λh' x y=>?_;obtain⟨x1,x2,x3,x4⟩:=x;exact h h' ⟨x1,wF,x2,x3⟩ (λb o z n=>x4 b o ((Km b<|w9 b o z n).trans z) n) y
theorem Ox(tU:A.frames=some (env::outer))(hf:env.frame=some L)(F_:base.StaysIn s.heap)(wF:base.get? e=none)(hl:s.heap.FunFrames base<|env::outer) (he:s.heap.get? e=some oe) (hd:oe.data=.fields vs) (h0:vs[0]?=some a0) (h1:vs[1]?=some .none) (h2:vs[2]?=some c) (h:∀h',Heap.HeldW base (env::outer) e oe.cls a0 L h'->s.heap.UpToSlots h'->FZ c e h'->Q () {s with heap:=h'}):wpAny M A (noteFrame (.ref e) env) Q E s:=by unfold noteFrame;simp only[hf];refine zb<|z0 he hd h1 ?_;rw[if_neg<|by decide];refine Si tU hl hf he F_ wF hd h0 h2 λh' x y=>?_;obtain⟨x1,x2,x3,x4⟩:=x;exact h h' ⟨x1,wF,x2,x3⟩ x4 y
theorem Oy(tU:A.frames=some (env::outer))(hf:env.frame=some L)(F_:base.StaysIn s.heap)(wF:base.get? e=none)(hl:s.heap.FunFrames base<|env::outer)(ht:s.heap.TracedAtW base e cls a0 fl)(hc:FZ c e s.heap) (h:∀h',Heap.FlyingW base outer e cls a0 h'->s.heap.UpToSlots h'->FZ c e h'->Q () {s with heap:=h'}):wpAny M A (leaving env<|.ref e) Q E s:=by unfold leaving;refine zb<|Sj tU hf F_ wF hl ht hc λh' x u y=>?_;obtain⟨x1,x2,x3,x4⟩:=x;refine setC x1 x2 x3 x4 y λh2 z u2 y2=>?_;obtain⟨z1,z2,⟨_,_,z3⟩,z4⟩:=z;exact h h2 ⟨z1,z2,z3,z4⟩ (u.trans u2) y2
theorem Kq(tU:A.frames=some (env::outer))(hf:env.frame=some L)(F_:base.StaysIn s.heap)(wF:base.get? e=none)(hl:s.heap.FunFrames base<|env::outer) (he:s.heap.get? e=some oe) (hd:oe.data=.fields vs) (h0:vs[0]?=some a0) (h1:vs[1]?=some .none) (h2:vs[2]?=some c) (h:∀h',Heap.FlyingW base outer e oe.cls a0 h'->s.heap.UpToSlots h'->FZ c e h'->Q () {s with heap:=h'}):wpAny M A (leaving env<|.ref e) Q E s:=by unfold leaving;refine zb<|Ox tU hf F_ wF hl he hd h0 h1 h2 λh' x u y=>?_;obtain⟨x1,x2,x3,x4⟩:=x;refine setC x1 x2 x3 x4 y λh2 z u2 y2=>?_;obtain⟨z1,z2,⟨_,_,z3⟩,z4⟩:=z;exact h h2 ⟨z1,z2,z3,z4⟩ (u.trans u2) y2
end
theorem ba.get(x:ba P w H h a o):∃u,h.get? a=some u:=by cases o with|lst xs=>(obtain⟨_,_,_,_,e⟩:=x;exact{_,e})|tup xs=>(obtain⟨_,_,_,ob,e,_⟩:=x;exact{_,e})|dK kvs=>(obtain⟨_,_,_,_,o,_,_,e,_⟩:=x;exact{_,e})|dT kvs=>exact False.elim x|set S n=>(obtain⟨o,_,_,_,e,_⟩:=x;exact{_,e})|ins C dx fs=>(obtain⟨_,_,_,e,_⟩:=x;exact{_,e})|own y=>(obtain⟨_,e⟩:=x;exact{_,e})|xd fs=>(obtain⟨_,⟨_,_,_,e,_⟩,_⟩:=x;exact{_,e})|Vq lo hi=>(obtain⟨_,_,_,e⟩:=x;exact{_,e})|kI ob u=>(obtain⟨e,_⟩:=x;exact{_,e})|pJ ps=>exact{_,show h.get? a=some _ from x}|met f y=>exact{_,show h.get? a=some _ from x}|ext φ=>obtain⟨_,e,_⟩:=x;exact e
structure qt(P:Program)(w:World)(mg:Str->Option Value)(outer:List Env)(H H':Hp)(h0:Heap)(a:Addr)(cls a0:Value)(B h:Heap):Prop where
 fl:Heap.FlyingW B outer a cls a0 h
 aH:jR P w H' B
 keep:∀b o,h0.get? b=some o->H b=none->b∉kJ outer->B.get? b=some o
 there:∀b o,h0.get? b=some o->b∉kJ outer->∃o',B.get? b=some o'
 slot:∀b o,h0.get? b=some o->b∈kJ outer->∃sl,h.get? b=some {o with slots:=sl}
 free:∀b o,h0.get? b=some o->H b=none->H' b=none
 fQ:∀b xs,H b=some (.tup xs)->H' b=some (.tup xs)
 fg:∀b o u,H b=some (.kI o u)->H' b=some (.kI o u)
 fh:∀b ps,H b=some (.pJ ps)->∃more,H' b=some (.pJ<|ps++more)
 cx:FZ .none a h\/mg "NoMark"= some cls
section
variable{P:Program}{w:World}{mg:Str->Option Value}{outer:List Env}{H H':Hp}{h0:Heap}{a:Addr}{cls a0:Value}{B h h2:Heap}
theorem qt.un(F:qt P w mg outer H H' h0 a cls a0 B h):Un (kJ outer) [] H H' h0 h where
 keep:=λb o e n hf _=>F.fl.1 b o<|F.keep b o e n hf
 slot:=λb o e _ hf _=>F.slot b o e hf
 free:=λb o e n _=>F.free b o e n
 there:=λb o e _=>by
  by_cases hf:b∈kJ outer
  ·obtain⟨sl,q⟩:=F.slot b o e hf;exact{_,q}
  ·obtain⟨o',q⟩:=F.there b o e hf;exact{o',F.fl.1 b o' q}
 fQ:=F.fQ
 fg:=F.fg
 fh:=F.fh
theorem qt.Xm(F:qt P w mg outer H H' h0 a cls a0 B h):jR P w H' h:=F.aH.kept F.fl.1
theorem qt.hn(F:qt P w mg outer H H' h0 a cls a0 B h):H' a=none:=by cases q:H' a with|none=>rfl|some o=>obtain⟨u,e⟩:=(F.aH a o q).get;rw[F.fl.2.1]at e;cases e
theorem qt.loose(F:qt P w mg outer H H' h0 a cls a0 B h):qt P w (λ_=>some cls) outer H H' h0 a cls a0 B h:={F.fl,F.aH,F.keep,F.there,F.slot,F.free,F.fQ,F.fg,F.fh,.inr rfl}
theorem qt.on(F:qt P w mg outer H H' h0 a cls a0 B h)(f2:Heap.FlyingW B outer a cls a0 h2)(u2:h.UpToSlots h2)(c2:FZ .none a h2\/mg "NoMark"= some cls):qt P w mg outer H H' h0 a cls a0 B h2 where
 cx:=c2
 fl:=f2
 aH:=F.aH
 keep:=F.keep
 there:=F.there
 slot:=λb o e hf=>by
  obtain⟨sl,q⟩:=F.slot b o e hf
  obtain⟨_,o1,q1,hd⟩:=F.fl.2.2.1.mem hf
  obtain⟨Mv,q2⟩:=u2 b o1 q1 hd
  rw[q]at q1;cases q1
  exact⟨Mv,q2⟩
 free:=F.free
 fQ:=F.fQ
 fg:=F.fg
 fh:=F.fh
end
def fb(P:Program)(w:World)(mg:Str->Option Value):AD:=λouter H s E e s'=>∃a cls a0 B H',e=.ref a/\s'.os=s.os/\AllBare s'.gens/\qt P w mg outer H H' s.heap a cls a0 B s'.heap/\E cls none H'
structure cO(X:Cx)(E:XK):Prop where
 ex:X.ex=[]
 st:X.stack=X.env::X.outer
 fr:X.env.frame=some X.env.locals
 xe:∀e s',wpAny (model X.prog X.w) X.A (leaving X.env e) (λ_ AE=>fb X.prog X.w X.mg X.outer X.uE X.cR E e AE) (λe' AE=>fb X.prog X.w X.mg X.outer X.uE X.cR E e' AE) s'->X.xe e s'
theorem tV{P:Program}{w:World}{K:Frag}{mg:Str->Option Value}{base:Heap}{N:List Str}{qual:Str}{scope:Scope}{f:Addr}{cd:Value}{A:Around}{outer:List Env}{s:Shared}{H:Hp}{E:XK} : cO (jT (fb P w mg) P w K mg base N qual scope f cd A outer s H E) E:={rfl,rfl,rfl,λ_ _ h=>h}
section
variable{X:Cx}{pins:List (Addr×Obj)}{σ:St}{H H':Hp}{s:Shared}{E E':XK}
theorem cO.mem(L:cO X E):b∈kJ X.stack↔b=X.env.locals\/b∈X.fs:=by unfold Cx.fs kJ;rw[L.st,List.filterMap_cons,L.fr];exact zf
theorem cO.Eh(L:cO X E)(I:Inv X pins σ H s)(e:X.cR.heap.get? b=some o)(h:b∉X.fs):b∉kJ X.stack:=λz=>by rcases L.mem.mp z with z|z;have:=zt e;have h2:=I.ok.above;rw[z]at this;exact absurd (zl this h2)<|yi _;exact h z
theorem cO.Z4(L:cO X E)(I:Inv X pins σ H s)(F:qt X.prog X.w X.mg X.stack H H' s.heap a cls a0 B h)(f2:Heap.FlyingW B X.outer a cls a0 h2)(u2:h.UpToSlots h2)(c2:FZ .none a h2\/X.mg "NoMark"= some cls):
  qt X.prog X.w X.mg X.outer X.uE H' X.cR.heap a cls a0 B h2 where
 cx:=c2
 fl:=f2
 aH:=F.aH
 keep:=λb o e n hf=>F.keep b o (I.base.keep b o e n hf<|by rw[L.ex];simp) (I.base.free b o e n<|by rw[L.ex];simp)<|L.Eh I e hf
 there:=λb o e hf=>by
  obtain⟨o',q⟩:=I.base.there b o e<|by rw[L.ex];simp
  exact F.there b o' q<|L.Eh I e hf
 slot:=λb o e hf=>by
  obtain⟨sl,q⟩:=I.base.slot b o e (I.ok.Gk b hf) hf<|by rw[L.ex];simp
  obtain⟨sl1,q1⟩:=F.slot b _ q<|L.mem.mpr<|.inr hf
  obtain⟨_,o2,q2,hd⟩:=F.fl.2.2.1.mem<|L.mem.mpr<|.inr hf
  obtain⟨Mv,q3⟩:=u2 b o2 q2 hd
  rw[q1]at q2;cases q2
  exact⟨Mv,q3⟩
 free:=λb o e n=>by
  obtain⟨o',q⟩:=I.base.there b o e<|by rw[L.ex];simp
  exact F.free b o' q<|I.base.free b o e n<|by rw[L.ex];simp
 fQ:=λb xs e=>F.fQ b xs<|I.base.fQ b xs e
 fg:=λb o u e=>F.fg b o u<|I.base.fg b o u e
 fh:=λb ps e=>by
  obtain⟨m1,q1⟩:=I.base.fh b ps e
  obtain⟨m2,q2⟩:=F.fh b _ q1
  exact{m1++m2,by rw[q2,Array.append_assoc]}
theorem Sl(L:cO X E)(hE:∀c d H',E' c d H'->E c d H'):Passes (fb X.prog X.w X.mg) X E':=λpins σ H s e s' I h=>by
 obtain⟨a,cls,a0,B,H',rfl,os,bare,F,q⟩:=h;refine L.xe _ _ ?_;have tU:X.A.frames=some (X.env::X.outer):=by rw[I.ok.frames,L.st]
 have fl:Heap.FlyingW B (X.env::X.outer) a cls a0 s'.heap:=by rw[<-L.st];exact F.fl
 rcases F.cx with hc|hc;obtain⟨f1,f2,f3,f4⟩:=fl;exact Oy tU L.fr f1 f2 f3 f4.at hc λh2 f2 u2 c2=>{a,cls,a0,B,H',rfl,os.trans I.os,bare,L.Z4 I F f2 u2<|.inl c2,hE _ _ _ q};exact wpAny_leaves_onW tU L.fr fl λh2 f2 u2=>{a,cls,a0,B,H',rfl,os.trans I.os,bare,L.Z4 I F f2 u2<|.inr hc,hE _ _ _ q}
theorem Oz(I:Inv X pins σ H s):jR X.prog X.w H (hideAll s.heap<|kJ X.stack):=λa o e=>(I.aH a o e).lI (λb u hb q=>hideAll_get _ q λz=>by have n:=I.pK b z;rcases hb with rfl|hb;rw[e]at n;cases n;rw[hb]at n;cases n) (λ_ q=>q) λ_ _ q=>q
theorem AU(L:cO X E)(I:Inv X pins σ H s)(hk:∀b o,s.heap.get? b=some o->h'.get? b=some o)(hn:s.heap.get? a=none)(he:h'.get? a=some oe)(hd:oe.data=.fields vs) (h0:vs[0]?=some a0) (h1:vs[1]?=some .none) (h2:vs[2]?=some c) (hc:c=.none\/X.mg "NoMark"= some oe.cls) (hE:E oe.cls none H):X.xe (.ref a) {s with heap:=h'}:=by
 refine L.xe _ _ ?_;have tU:X.A.frames=some (X.env::X.outer):=by rw[I.ok.frames,L.st]
 have Mw:∀env∈X.stack,∀b,env.frame=some b->b∈kJ X.stack:=λenv he b hb=>List.mem_filterMap.mpr ⟨env,he,hb⟩;have ff:s.heap.FunFrames (hideAll s.heap<|kJ X.stack) (X.env::X.outer):=by rw[<-L.st];exact PySem.W.funFrames_hide I.stack Mw
 have hb:(hideAll s.heap<|kJ X.stack).get? a=none:=by cases z:(hideAll s.heap<|kJ X.stack).get? a with|none=>rfl|some o=>have:=of_hideAll _ z;rw[hn]at this;cases this
 refine Kq (base:=hideAll s.heap<|kJ X.stack) tU L.fr (λb o q=>hk b o<|of_hideAll _ q) hb (ff.of_keeps λb o q _=>{o,hk b o q,rfl}) he hd h0 h1 h2 λh2 x1 x4 c2=>?_;refine{a,oe.cls,a0,_,H,rfl,I.os,I.bare,{x1,Oz I,λb o e n hf=>?_,λb o e hf=>?_,λb o e hf=>?_,λb o e n=>I.base.free b o e n<|by rw[L.ex];simp,I.base.fQ,I.base.fg,I.base.fh,?_},hE};exact hideAll_get _ (I.base.keep b o e n hf<|by rw[L.ex];simp)<|L.Eh I e hf;obtain⟨o',q⟩:=I.base.there b o e (by rw[L.ex];simp);exact{o',hideAll_get _ q<|L.Eh I e hf};obtain⟨sl,q⟩:=I.base.slot b o e (I.ok.Gk b hf) hf (by rw[L.ex];simp);obtain⟨_,o2,q2,hd⟩:=I.jS.mem hf;obtain⟨Mv,q3⟩:=x4 b o2 (hk _ _ q2) hd;rw[q]at q2;cases q2;exact⟨Mv,q3⟩;rcases hc with rfl|hc;exact .inl c2;exact .inr hc
theorem oq(L:cO X E)(I:Inv X pins σ H s)(hx:Heap.MadeExcOf s.heap h' a cls args)(hE:E cls none H):X.xe (.ref a) {s with heap:=h'}:=by obtain⟨t,he,_,_⟩:=hx.there;exact AU L I (λb o q=>hx.keeps b o q) hx.new he rfl rfl rfl rfl (.inl rfl) hE
end
abbrev lS:List Value:=[.type "ValueError",.type "Exception",.type "BaseException",.type "object"]
structure XC(K:Frag)(C:Addr):Prop where
 q:excIn K C lS "ValueError.__new__"= true
def qu(h:Heap)(C:Addr)(bm:List Value):Prop:=∃N nm q bs hdct sn sub ab col dd k0 k1 k2 k3 k5 mN,h.get? C=some (excClassObj nm q C N bs bm hdct sn sub ab col dd k0 k1 k2 k3 k5 "ValueError.__new__")/\h.Ns N mN/\mN "__init__"= none/\OwnTail h lS bm
theorem XC.at{K:Frag}{C:Addr}{h:Heap}(x:XC K C)(X:K.In h):∃bm,qu h C bm:=by have q:=x.q;unfold excIn at q;split at q;rename_i dd cd sl ho;split at q;rename_i C' bm' k0 k1 k2 k3 n k5 hm hs;simp only[zL,beq_iff_eq,Bool.not_eq_true']at q;obtain⟨⟨⟨⟨⟨q1,q2⟩,Sm⟩,ht⟩,aH⟩,VH⟩:=q;subst q1;subst q2;obtain⟨nm,bs,mro,ns,qn,hd,sn,sub,ab,col,del⟩:=cd;dsimp only at hm Sm aH VH;subst hm;subst Sm;obtain⟨sl⟩:=sl;dsimp only at hs;subst hs;exact{bm',ns,nm,qn,bs,hd,sn,sub,ab,col,dd,k0,k1,k2,k3,k5,_,X _ _ ho,.of_isNs<|PySem.W.isNs_of_in X aH,PySem.W.nsMap_none_of_in X aH VH,PySem.W.tail_of_in X ht};cases q;cases q
theorem qu.base(x:qu h C bm):bm.contains (.type "BaseException")=true:=by obtain⟨_,_,_,_,_,_,_,_,_,_,_,_,_,_,_,_,_,_,_,T⟩:=x;exact T.hasType<|by decide
section
variable{C D:Addr}{Z5:List Value}{E:XK}
theorem w_{M:Model}{A:Around}{E:Value->Shared->Prop}{h:Heap}{g:Array GenState}{d:Drawn}{tk:Nat}{os:OsState}{a:Addr}{oe:Obj}{b:Bool}{Q:Bool->Shared->Prop}(L:Looks M h (isSubtype (.ref C)<|.ref D) b)(cD:qu h D Z5) (he:h.get? a=some oe) (Gm:oe.cls=.ref C) (hq:Q b ⟨h,g,d,tk,os⟩):wpAny M A (excMatches (.ref a)<|.ref D) Q E ⟨h,g,d,tk,os⟩:=by
 have Xn:=cD.base;obtain⟨N',nm',q',bs',Z6,sn',abH,ab',abI,JA,k0',k1',k2',k3',k5',mN',hD,_,_,_⟩:=cD;have Xo:(Value.ref D::Z5).contains (.type "BaseException")=true:=by rw[List.contains_cons,Xn,Bool.or_true]
 have f:=tc_notTuple;unfold excMatches;repeat (first|(with_reducible refine wpAny_loadPart_at he ?_;rw[Gm])|with_reducible refine wpAny_loadPart_at hD ?_|with_reducible refine L.at ?_|(with_reducible refine wpAny_isSubtype_exc hD ?_;rw[Xo])|wp_step)
 cases b<;>(wp_walk;exact hq)
end
def sE(a:Addr)(cls:Value):HO:=.ext λh=>∃o vs,h.get? a=some o/\o.cls=cls/\o.data=.fields vs
section
variable{P:Program}{w:World}{mg:Str->Option Value}{outer:List Env}{H H':Hp}{h0:Heap}{a:Addr}{cls a0:Value}{B h:Heap}
theorem qt.fresh(F:qt P w mg outer H H' h0 a cls a0 B h)(e:h0.get? b=some o):b≠a:=by rintro rfl;by_cases hf:b∈kJ outer;obtain⟨_,o1,q1,hd⟩:=F.fl.2.2.1.mem hf;obtain⟨oe,vs,he,_,hdd,_⟩:=F.fl.first;rw[q1]at he;cases he;exact hd vs hdd;obtain⟨o',q⟩:=F.there b o e hf;rw[F.fl.2.1]at q;cases q
theorem qt.Z7(F:qt P w mg outer H H' h0 a cls a0 B h):Un (kJ outer) [] H (upd H' a u) h0 h where
 keep:=F.un.keep
 slot:=F.un.slot
 free:=λb o e n x=>by rw[au<|F.fresh e];exact F.un.free b o e n x
 there:=F.un.there
 fQ:=λb xs e=>by
  have q:=F.fQ b xs e
  rw[au<|az q F.hn];exact q
 fg:=λb o xs e=>by
  have q:=F.fg b o xs e
  rw[au<|az q F.hn];exact q
 fh:=λb ps e=>by
  obtain⟨m,q⟩:=F.fh b ps e
  exact{m,by rw[au<|az q F.hn];exact q}
theorem qt.Sn(F:qt P w mg outer H H' h0 a cls a0 B h):jR P w (upd H' a<|sE a cls) h:=λb u e=>by by_cases hb:b=a;subst hb;rw[aE]at e;cases e;obtain⟨oe,vs,he,hc,hd,_⟩:=F.fl.first;exact{⟨oe,vs,he,hc,hd⟩,⟨oe,he⟩,by rintro h1 h2 ⟨o,vs,q,r⟩ k;exact{o,vs,k o q,r}};rw[au hb]at e;exact(F.Xm b u e).lI (λ_ _ _ q=>q) (λc q=>by rw[au<|az q F.hn];exact q) λc xs q=>by rw[au<|az q F.hn];exact q
end
def XE(X:Cx)(pins:List<|Addr×Obj)(E:St->XK)(e:Value)(s':Shared):Prop:=∃aC H1 s1,Inv X pins aC H1 s1/\fb X.prog X.w X.mg X.stack H1 s1 (E aC) e s'
abbrev TX:=(St->XK)->TS
def So(X:Cx)(st:List Stmt)(t:TX):Prop:=∀(pins:List (Addr×Obj))(s:Shared)(σ:St)(H:Hp)(D:Ends)(E:St->XK),Inv X pins σ H s->t E D σ H->wpAny (model X.prog X.w) X.A (execs st X.env) (SP X pins D) (XE X pins E) s
noncomputable abbrev Cx.i5(X:Cx)(a:Addr):Cx:={X with A:=X.A.mark<|some<|.ref a,calm:=false,xe:=λ_ _=>False}
section
variable{X:Cx}{pins:List (Addr×Obj)}{σ:St}{H:Hp}{s:Shared}
theorem Cx.Ok.i5(ok:X.Ok)(a:Addr):(X.i5 a).Ok:={ok.mod,ok.kind,ok.glob,ok.blt,ok.above,ok.inj,ok.has,ok.Nq,λz=>(nomatch (show false=true from z)),ok.frames,ok.QA,ok.Vs,ok.bs,ok.Ef,ok.Al,ok.Eg,ok.jS,ok.Gk}
theorem Inv.i5(I:Inv X pins σ H s)(a:Addr):Inv (X.i5 a) pins σ H s:={I.ok.i5 a,I.os,I.bare,I.base,I.loc,I.cell,I.free,I.df,I.pin,I.aH,I.len}
theorem Inv.uR(I:Inv (X.i5 a) pins σ H s)(ok:X.Ok):Inv X pins σ H s:=⟨ok,I.os,I.bare,I.base,I.loc,I.cell,I.free,I.df,I.pin,I.aH,I.len⟩
theorem name_goes(I:Inv X pins σ H s)(hN:X.N.Nodup)(hi:X.N[i]?=some n)(hx:X.env.scope.names.lookup n=some .local) (h:∀s',Inv X pins (σ.set i none) H s'->Q () s'):wpAny M A (do bindName X.env n .none;unbindBehindTheSuite X.env n pos) Q E s:=by
 obtain⟨m,hn,hl⟩:=id I.loc;have Gm:(X.env.scope.kind==.class||(X.env.scope.kind==.module&&X.env.locals != X.env.globals))=false:=by rw[I.ok.kind];rfl
 have JN:i<σ.length:=by rw[I.len];exact(ze.mp hi).1
 have old:∀b o,X.cR.heap.get? b=some o->b≠X.env.locals:=λb o e=>zy<|zl (zt e) I.ok.above;refine wpAny_nameGoes_keeps hx hn Gm λh' v FV hs=>h _ ?_;refine{I.ok,I.os,I.bare,{λb o e n hb hx=>(hs.2 b<|old b o e).trans<|I.base.keep b o e n hb hx,λb o e n hb hx=>?_,I.base.free,λb o e hx=>?_,I.base.fQ,I.base.fg,I.base.fh},{_,FV,λj y v' e1 e2 e3=>?_},λy c e=>?_,I.free,I.df,λp hp=>?_,λb ob e=>?_,by simpa using I.len};obtain⟨sl,e1⟩:=I.base.slot b o e n hb hx;exact{sl,(hs.2 b<|old b o e).trans e1};obtain⟨o',e1⟩:=I.base.there b o e hx;exact{o',(hs.2 b<|old b o e).trans e1};have hj:j≠i:=by rintro rfl;rw[List.getElem?_set_self JN]at e2;cases e2
 rw[List.getElem?_set_ne<|Ne.symm hj]at e2;obtain⟨u',r',q⟩:=hl j y v' e1 e2 e3;refine{u',r',?_};have hy:y≠n:=λe=>hj<|p5 hN e1<|e ▸ hi;rcases q with⟨k,e⟩|⟨k,c,e,z⟩;exact .inl {k,by show(if y=n then v else m y)=some u';rw[if_neg hy];exact e};exact .inr {k,c,e,z.sameBut hs<|I.JM y c e};obtain⟨w',z⟩:=I.cell y c e;exact{w',z.sameBut hs<|I.JM y c e};obtain⟨e,n,ne,nf,d⟩:=I.pin p hp;exact{(hs.2 p.1 ne).trans e,n,ne,nf,d};refine(I.aH b ob e).lI (λc w' hc q=>(hs.2 c ?_).trans q) (λ_ q=>q) λ_ _ q=>q;rintro rfl;rcases hc with z|z;rw[<-z,I.free]at e;cases e;rw[I.free]at z;cases z
end
noncomputable def Ends.less(D:Ends)(i:Nat):Ends:={nx:=λσ H=>D.nx (σ.set i none) H,rt:=D.rt,bk:=λσ H=>D.bk (σ.set i none) H,ct:=λσ H=>D.ct (σ.set i none) H}
def Xp(K:Frag)(i:Nat)(C0:Addr)(tb:TX)(ts:TS):TS:=λD σ H=>tb (λaC cls _ H'=>∃C,cls=.ref C/\mroIn K C (.ref C0)=some true/\∀a,H' a=none->ts (D.less i) (aC.set i<|some<|.ref a) (upd H' a<|sE a<|.ref C)) D σ H
section
variable{X:Cx}{i:Nat}{n x:Str}{C0:Addr}{body xb:List Stmt}{G8:Stmt}{np mX pos:Pos}{tb:TX}{ts:TS}
theorem OA(og:X.stack=X.env::X.outer)(fr:X.env.frame=some X.env.locals)(hN:X.N.Nodup)(hi:X.N[i]?=some n)(hx:X.env.scope.names.lookup n=some .local)(Xq:Gl X x)(hm:X.mg x=some (.ref C0))(c0:XC X.K C0) (hb:So X body tb) (hs:∀a,Ap (X.i5 a) (G8::xb) ts) (kK:autoParam ((x==("__debug__": Str))=false) qQZ): PS X (.Try body [.ExceptHandler (some<|.Name x np) (some n) (G8::xb) mX] [] [] pos) (Xp X.K i C0 tb ts):=by intro pins s σ H D I h;refine wpAny_Try_except<|yn (hb pins s σ H D _ I h) (λf s1 q=>?_) λe s1 q=>?_;{cases f with|next=>(obtain⟨aC,H',I',q⟩:=q;exact Cw pins s1 aC H' D I' q)|ret v=>exact q|brk=>exact q|cont=>exact q};{obtain⟨aC,H1,s2,I2,a,cls,a0,B,H',rfl,os,bare,F,C,rfl,OB,hq⟩:=q;have tU:X.A.frames=some (X.env::X.outer):=(by rw[I.ok.frames,og]);have fl:Heap.FlyingW B (X.env::X.outer) a (.ref C) a0 s1.heap:=(by rw[<-og];exact F.fl);refine wpAny_looks_onW tU fr fl λh4 Sq u4=>?_;refine wpAny_landsW Sq λh5 f5 u5=>?_;have F5:qt X.prog X.w (λ_=>some<|.ref C) X.stack H1 H' s2.heap a (.ref C) a0 B h5:=F.loose.on (by rw[og];exact f5) (u4.trans u5)<|.inr rfl;have I5:Inv X pins aC (upd H' a<|sE a<|.ref C) {s1 with heap:=h5}:=I2.Gn (ch:=[]) os F5.Z7 F5.Sn bare λb z=>absurd z (by simp);refine wpAny_handleBy_cons (codeAny_handlers_test<|lL (I5.i5 a) Xq hm ?_ kK) (by intro q;cases q);obtain⟨oe,vs,he,hc,hd,_⟩:=F5.fl.first;obtain⟨Z8,c0'⟩:=c0.at I5.lE;refine w_ (PySem.W.looks_mroIn I5.lE OB) c0' he hc ?_;refine codeAny_handlers_suite_as ?_;refine lands_againW f5 λh6 f6 u6=>?_;have F6:qt X.prog X.w (λ_=>some<|.ref C) X.stack H1 H' s2.heap a (.ref C) a0 B h6:=F5.on (by rw[og];exact f6) u6<|.inr rfl;have I6:Inv X pins aC (upd H' a<|sE a<|.ref C) {s1 with heap:=h6}:=I2.Gn (ch:=[]) os F6.Z7 F6.Sn bare λb z=>absurd z (by simp);refine lK (X:=X.i5 a) (I6.i5 a) hN hi (.inl hx) (v:=.ref a) rfl (λs7 I7=>?_)<|.inr hx;refine yn (hs a pins s7 _ _ _ I7<|hq a F.hn) (λf s8 q8=>?_) λ_ _ z=>False.elim z;cases f with|next=>(obtain⟨Kr,H8,I8,q8⟩:=q8;exact name_goes (I8.uR I.ok) hN hi hx λs9 I9=>{_,H8,I9,q8})|brk=>(obtain⟨Kr,H8,I8,q8⟩:=q8;exact name_goes (I8.uR I.ok) hN hi hx λs9 I9=>{_,H8,I9,q8})|cont=>(obtain⟨Kr,H8,I8,q8⟩:=q8;exact name_goes (I8.uR I.ok) hN hi hx λs9 I9=>{_,H8,I9,q8})|ret u=>obtain⟨v,Kr,H8,I8,r8,q8⟩:=q8;exact name_goes (I8.uR I.ok) hN hi hx λs9 I9=>{v,_,H8,I9,r8,q8}}
end
structure XA(K:Frag)(C:Addr):Prop where
 ga:findIn K (.ref C) "__getattribute__"= some (some<|.builtin "BaseException.__getattribute__")
 gh:findIn K (.ref C) "__getattr__"= some none
 cl:findIn K (.ref C) "__class__"= some (some<|.builtin "object.__class__")
section
variable{prog:Program}{w:World}{A:Around}{E:Value->Shared->Prop}{h:Heap}{g:Array GenState}{d:Drawn}{t:Nat}{os:OsState}{a:Addr}{o:Obj}{C:Addr}{bm:List Value}{K:Frag}
theorem OC(c:qu h C bm)(OD:bm.contains (.type "object")=true)(hx:h.get? a=some o)(hc:o.cls=.ref C)(hq:R (.ok<|.ret<|.ref C) ⟨h,g,d,t,os⟩): codeAny (model prog w) A (.call (.builtin "getset_descriptor.__get__") {[.builtin "object.__class__",.ref a,.ref C],[]}) R ⟨h,g,d,t,os⟩:=by
 obtain⟨N,nm,q,bs,hdct,sn,sub,ab,col,dd,k0,k1,k2,k3,k5,mN,hC,_,_,_⟩:=c;have Z9:(⟨h,g,d,t,os⟩:Shared).TypeIs (.builtin "object.__class__") "getset_descriptor":=F.typeOf_object_class;have ow: ".".intercalate ("object.__class__".cutAt '.').dropLast ="object":=by trivial
 have Xo:(Value.ref C::bm).contains (.type<|".".intercalate ("object.__class__".cutAt '.').dropLast)=true:=by rw[ow,List.contains_cons,OD,Bool.or_true]
 refine codeAny_call_builtin F.slot_gs_get.plain F.entry_gs_get<|F.slot_gs_get.check _ _ _ _ _ _ _ _ Z9 (F.args_gs_get _ _ _) ?_;repeat (any_goals (first|assumption|(with_reducible refine wpAny_loadPart_at hx ?_;rw[hc])|(with_reducible refine wpAny_isSubtype_exc hC ?_;rw[Xo])|wp_step))
 refine{Code.quiet_builtin _<|by trivial,yB F.entry_object_class ?_};repeat (any_goals (first|assumption|(with_reducible refine wpAny_loadPart_at hx ?_;rw[hc])|wp_step))
theorem G9(c:qu h C bm)(hx:h.get? a=some o)(hc:o.cls=.ref C)(hq:Q () ⟨h,g,d,t,os⟩):wpAny M A (checkBuiltinCall "BaseException.__getattribute__" {[.ref a,nameV],[]}) Q E ⟨h,g,d,t,os⟩:=by
 have hb:=c.base;obtain⟨N,nm,q,bs,hdct,sn,sub,ab,col,dd,k0,k1,k2,k3,k5,mN,hC,_,_,_⟩:=c;have k1:builtinKind "BaseException.__getattribute__"= some .slot:=by trivial
 have k2:splitId "BaseException.__getattribute__"= some ("BaseException","__getattribute__"):=by trivial
 have hB:(Value.ref C::bm).contains (.type "BaseException")=true:=by rw[List.contains_cons,hb,Bool.or_true]
 have ha:=F.args_bexc_ga (.ref a) nameV;simp only[checkBuiltinCall,k1,k2];refine zb ?_;unfold isInstance;repeat (first|(with_reducible refine wpAny_loadPart_at hx ?_;rw[hc])|(with_reducible refine wpAny_isSubtype_exc hC ?_;rw[hB])|wp_step)
 exact hq
theorem G_(X:K.In h)(xa:XA K C)(c:qu h C bm)(OD:bm.contains (.type "object")=true)(hx:h.get? a=some o)(hc:o.cls=.ref C)(hq:Q (.done<|.ret<|.ref C) ⟨h,g,d,t,os⟩): wpAny (model prog w) A (Builtin.«object.__getattribute__» {[.ref a,.str "__class__" tk],[]}) Q E ⟨h,g,d,t,os⟩:=by
 have Z9:(⟨h,g,d,t,os⟩:Shared).TypeIs (.builtin "object.__class__") "getset_descriptor":=F.typeOf_object_class;have L1:=looks_findIn (M:=model prog w) X xa.cl;have f5:=F.typeOf_object_class;have f6:=F.slot_gs_get.lookup;have f7:=F.slot_gs_set.lookup;repeat (any_goals (first|assumption|(with_reducible refine wpAny_loadPart_at hx ?_;rw[hc])|with_reducible refine L1.at ?_|wp_step))
 refine OC c OD hx hc ?_;repeat (any_goals (first|assumption|wp_step))
theorem Sr(X:K.In h)(xa:XA K C)(c:qu h C bm)(OD:bm.contains (.type "object")=true)(hx:h.get? a=some o)(hc:o.cls=.ref C)(hq:Q (.ref C) ⟨h,g,d,t,os⟩): wpAny (model prog w) A (getAttrBy (.ref a) (.str "__class__" tk) false) Q E ⟨h,g,d,t,os⟩:=by
 have FB:=F.attrBase_ValueError;have f3:=FB.ga.bind<|.ref a;have L1:=looks_findIn (M:=model prog w) X xa.ga;have L2:=looks_findIn (M:=model prog w) X xa.gh;have Ha:(Value.builtin "BaseException.__getattribute__"== Value.builtin "object.__getattribute__")=false:=by trivial
 have hx0:(false&&onTheHeap (Value.builtin "BaseException.__getattribute__"))=false:=rfl;have OE:(onTheHeap (Value.ref C)&&Value.builtin "BaseException.__getattribute__"== Value.builtin "object.__getattribute__")=false:=by rw[Ha];rfl
 repeat (any_goals (first|assumption|(with_reducible refine wpAny_loadPart_at hx ?_;rw[hc])|with_reducible refine L1.at ?_|with_reducible refine L2.at ?_|wp_step))
 refine codeAny_call_builtin FB.ga.plain F.entry_bexc_ga<|G9 c hx hc<|G_ X xa c OD hx hc ?_;repeat (any_goals (first|assumption|wp_step))
theorem Hb(X:K.In h)(xa:XA K C)(c:qu h C bm)(OD:bm.contains (.type "object")=true)(hx:h.get? a=some o)(hc:o.cls=.ref C)(hq:Q (some<|.ref C) {h,g,d,t+1,os}): wpAny (model prog w) A (getAttr? (.ref a) "__class__") Q E ⟨h,g,d,t,os⟩:=by unfold getAttr? getAttrBy?;repeat (any_goals (first|assumption|with_reducible apply Sr X xa c OD hx hc|wp_step))
end
theorem qu.obj(x:qu h C bm):bm.contains (.type "object")=true:=by obtain⟨_,_,_,_,_,_,_,_,_,_,_,_,_,_,_,_,_,_,_,T⟩:=x;exact T.hasType<|by decide
theorem xc{K:Frag}{a C:Addr}(c:XC K C)(xa:XA K C):KitX K (.ref a) (.ref C) (λh=>∃o vs,h.get? a=some o/\o.cls=.ref C/\o.data=.fields vs) where
 ty:=by
  rintro M h X ⟨o,vs,hx,hc,_⟩
  exact hc ▸ (PySem.W.Looks.ld hx).andThen .now
 it:=λM h X _=>by
  obtain⟨bm,N,nm,q,bs,hdct,sn,sub,ab,col,dd,k0,k1,k2,k3,k5,mN,hC,_,_,_⟩:=c.at X
  intro A Q E s k q
  unfold isType loadHead
  exact zb<|wpAny_loadPart (k _ _ hC)<|zu q
 ne:=λh tp dd ay n sl X htp=>by
  obtain⟨bm,N,nm,q,bs,hdct,sn,sub,ab,col,JA,k0,k1,k2,k3,k5,mN,hC,_,_,_⟩:=c.at X
  refine Bool.eq_false_iff.mpr λz=>?_
  have e:C=tp:=Value.ref.inj<|beq_iff_eq.mp z
  subst e
  have q:=congrArg (λx=>x.map (·.cls))<|hC.symm.trans htp
  have q:some (Value.type "type")=some (Value.type "tuple"):=q
  exact absurd q<|by decide
 ca:=λ{prog w A E Q s} X ⟨o,vs,hx,hc,_⟩ k=>by
  obtain⟨h,g,d,t,os⟩:=s
  obtain⟨bm,c'⟩:=c.at X
  exact Hb X xa c' c'.obj hx hc k
section
variable{X:Cx}
theorem uS:cS X (.builtin "isinstance") (λxs H Q=>∃a C c u b,xs=[.ref a,c]/\H a=some (sE a<|.ref C)/\XC X.K C/\XA X.K C/\RelV c u/\(∀u',RelV c u'->u'=u)/\kitOne X.K (.ref C) u=some b/\Q (.bl b) H):=by intro pins s σ H xs us Q I r h;obtain⟨a,C,c,u,b,rfl,ha,cC,xa,rc,uc,e,q⟩:=h;obtain⟨v,w',rfl,rv,pe⟩:=vals2 r;have:=uc w' pe;subst this;cases (show v=Value.ref a from rv);obtain⟨p,_⟩:=I.aH a _ ha;exact kia_one (xc cC xa) I.lE p e (λz=>nomatch z) λtk=>{.bl b,H,I.tok tk,rfl,q}
theorem Mx(L:cO X E):Passes (fb X.prog X.w X.mg) X E:=Sl L λ_ _ _ h=>h
end
theorem kh{X:Cx}{K:Frag}(hK:X.K=K):cS X (.builtin "isinstance") (λxs H Q=>∃a C c u b,xs=[.ref a,c]/\H a=some (sE a<|.ref C)/\XC K C/\XA K C/\RelV c u/\(∀u',RelV c u'->u'=u)/\kitOne K (.ref C) u=some b/\Q (.bl b) H):=by subst hK;exact uS
noncomputable def iy(l:List Str):List Str:=l.foldl (λc x=>if x∈c then c else c++[x]) []
theorem xf(l:List Str)(x:Str):iy (l++[x])=if x∈iy l then iy l else iy l++[x]:=by unfold iy;rw[List.foldl_append];rfl
theorem Ks:∀(l:List Str),(iy l).length<=l.length:=λl=>by
 have all:∀(r c:List Str),(r.foldl (λc x=>if x∈c then c else c++[x]) c).length<=c.length+r.length:=by intro r;induction r with|nil=>intro c;simp|cons x r ih=>intro c;rw[yI];refine zK (ih _) ?_;split<;>simp<;>try lia
 simpa [iy]using all l []
section
variable{prog:Program}{w:World}{A:Around}{R:Result->Shared->Prop}{I:Addr}{fp wr:List Addr}{G:Array GenState->Array GenState->Prop}{n:Nat}{P:Nat->Value->Prop}{St:Nat->Shared->Prop}
theorem Hc(W:WalksS prog w A.in1 I fp wr G n P St)(S:Addr)(Z_:S∉fp)(xs:List Str)(hx:xs.length=n)(OF:∀i v,P i v->∃x t,xs[i]?=some x/\v=.str x t)(hb:n+1<scanBound): ∀(k i:Nat)(s:Shared),i+k=n->St i s->s.heap.SetOf (strKind prog w) S (λy=>decide<|y∈iy (xs.take i)) (iy<|xs.take i).length->(∀s',Moved (S::wr) G s s'->s'.heap.SetOf (strKind prog w) S (λy=>decide<|y∈iy xs) (iy xs).length->R (.ok<|.ret .none) s')->codeAny (model prog w) A (.builtin "set.update.loop" {[.ref S,.ref I],[]}) R s:=by have nw:S∉wr:=λh=>Z_<|W.sub _ h;have up:∀b∈wr,b∈S::wr:=λb hb=>zi _ hb;have mv:∀{i:Nat}{s s':Shared},Moved wr G s s'->s.heap.SetOf (strKind prog w) S (λy=>decide<|y∈iy (xs.take i)) (iy<|xs.take i).length->s'.heap.SetOf (strKind prog w) S (λy=>decide<|y∈iy (xs.take i)) (iy<|xs.take i).length:=λhm ⟨o,es,ep,tb,ho,rest⟩=>{o,es,ep,tb,hm.heap S _ nw ho,rest};intro k;induction k with|zero=>intro i s hk og hS hR;have e:i=n:=(by lia);subst e;refine yB F.entry_set_update_loop ?_;rw[Around.under_plainId F.plain_set_update_loop _];show wpAny _ A.in1 (pyNext (.ref I) >>=_) _ _ s;refine zb<|W.done s _ _ og λs' hm=>?_;show wpAny _ A.in1 (ret Value.none) _ _ s';have q:=mv hm hS;rw[<-hx,List.take_length]at q;exact zu (hR s' (hm.mono up) q)|succ k ih=>intro i s hk og hS hR;have lt:i<n:=(by lia);refine yB F.entry_set_update_loop ?_;rw[Around.under_plainId F.plain_set_update_loop _];show wpAny _ A.in1 (pyNext (.ref I) >>=_) _ _ s;refine zb<|W.item i s _ _ lt og λv s' hP OG hm=>?_;obtain⟨x,t,ex,rfl⟩:=OF i v hP;have q:=mv hm hS;show wpAny _ A.in1 (holding [Value.str x t] (setAdd S<|.str x t) >>=_) _ _ s';refine zb<|yE ?_;unfold setAdd;refine yE ?_;refine zb<|(strKind prog w).pyHash (k:=x) (strKind_is _ _ _ _) ?_;have room:(iy<|xs.take i).length+1<scanBound:=(by have:=Ks<|xs.take i;rw[ya]at this;lia);refine wpAny_setAddHashed_of (knd:=strKind prog w) (s:={s' with toks:=s'.toks+1}) (strKind_is _ _ _ _) rfl q room λh' Kt q2=>?_;have tk:xs.take (i+1)=xs.take i++[x]:=(by rw[List.take_succ,ex];rfl);have qi:h'.SetOf (strKind prog w) S (λy=>decide<|y∈iy (xs.take<|i+1)) (iy<|xs.take<|i+1).length:=(by refine SetOf_congr q2 (λy=>?_) ?_;rw[tk,xf];by_cases h:x∈iy (xs.take i);rw[if_pos h];by_cases hy:y=x;subst hy;simp[h];simp[hy];rw[if_neg h];simp;rw[tk,xf];by_cases h:x∈iy (xs.take i);rw[if_pos h,if_pos<|by simpa using h];rw[if_neg h,if_neg<|by simpa using h];simp);refine zu {plainId_quiet F.plain_set_update_loop _,ih (i+1) _ (by lia) (W.frame _ s' _ _ OG (yN _) λb hb o e=>?_) qi λAE OH Xs=>?_};rw[Kt.2 b (λh:b=S=>Z_<|by rw[<-h];exact hb)];exact e;refine hR AE (Moved.trans W.gtrans ((hm.mono up).then_heap (yN _) λb o hb e=>?_) OH) Xs;rw[Kt.2 b (λh:b=S=>hb<|by rw[h];exact zp)];exact e
theorem xg(hh:A.handled=none)(hl:s.heap.IsList l items)(hx:xs.length=items.size) (hi:∀(i:Nat)(v:Value),items[i]?=some v->∃x t,xs[i]?=some x/\v=.str x t) (hb:items.size+1<scanBound) (h:∀(h':Heap)(tk:Nat),h'.SetOf (strKind prog w) s.heap.objs.size (λy=>decide<|y∈iy xs) (iy xs).length->(∀b o,b<s.heap.objs.size->s.heap.get? b=some o->h'.get? b=some o)->Q (.ref s.heap.objs.size) {s with heap:=h',toks:=tk}): wpAny (model prog w) A (call (.type "set") [.ref l]) Q E s:=by
 obtain⟨c,tl,m0⟩:=F.called_set.mro;have m1:=F.called_set.made;have m2:=F.called_set.sub;refine wpAny_call<|codeAny_of_tree ?_;show wpAny _ _ (callAny (.type "set") _) _ _ _;refine zu {Code.quiet_builtin _<|by trivial,yB F.entry_type_call ?_};rw[Around.under_plain (weight_type_call_type "set" [.ref l] []) rfl];have m3:=F.called_set.notType;have m4:=F.called_set.canCreate;have m5:=F.typeCall_set_1<|.ref l;repeat (any_goals (first|assumption|wp_step))
 refine yL (code_set_new_1 (.ref l) (E:=E) (Q₁:=λob s1=>∃led:Bool,ob=.ref s.heap.objs.size/\s1={s with heap:=s.heap.push {cls:=.type "set",dict:=none,data:=.set #[] 0 (.fresh 0 0 led)}}) λled=>⟨led,rfl,rfl⟩) λr s1 hr=>?_
 cases r with
 |error e=>exact hr
 |ok fl =>
  cases fl with
  |ret ob =>
   obtain⟨led,rfl,rfl⟩:=hr;generalize hO:({cls:=.type "set",dict:=none,data:=.set #[] 0 (.fresh 0 0 led)} : Obj)=O;have gS:(s.heap.push O).get? s.heap.objs.size=some O:=zj _ (by rw[<-hO];rfl);have tS:Shared.TypeIs {s with heap:=s.heap.push O} (.ref s.heap.objs.size) "set":={_,gS,by rw[<-hO]};have i1:=F.called_set.init.lookup;have i2:=F.called_set.init.bind<|.ref s.heap.objs.size;(repeat (any_goals (first|assumption|wp_step)));refine yL (codeAny_call_builtin (R:=wants (λr s2=>r=.none/\∃h' tk,s2={s with heap:=h',toks:=tk}/\h'.SetOf (strKind prog w) s.heap.objs.size (λy=>decide<|y∈iy xs) (iy xs).length/\(∀b o,b<s.heap.objs.size->s.heap.get? b=some o->h'.get? b=some o)) E) F.called_set.init.plain F.entry_set_init<|check_set_init_1 tS ?_) λr2 s2 Xt=>?_
   ·obtain⟨ol,gl,cl,nl,dl⟩:=hl;obtain⟨abM,Ss,aaa,OI⟩:=ol;simp only at cl dl;subst cl;subst dl;have Su:(s.heap.push O).get? l=some {cls:=.type "list",dict:=Ss,data:=.seq items nl,slots:=OI}:=za _ gl;have j1:=F.sub_list_set;have j2:=F.sub_list_frozenset;have j3:(Value.type "list"== Value.type "dict")=false:=(by decide);have il:(s.heap.push O).IsList l items:={_,Su,rfl,nl,rfl};subst hO;unfold Builtin.«set.__init__» noKeywords Builtin.Frozenset.updateFrom;generalize hPI:pyIter=PI;wp_walk;subst hPI;refine wpAny_pyIter_list il ?_;refine zb<|wpAny_runValue ?_;have ll:l<s.heap.objs.size:=zt gl;have h3:A.in1.in1.in1.handled=none:=(by simp[hh]);have ne:l≠(s.heap.push {cls:=.type "set",dict:=none,data:=.set #[] 0 (.fresh 0 0 led)}).objs.size:=(by rw[zV];exact zy<|Nat.lt_succ_of_lt ll);have nf:s.heap.objs.size∉[(s.heap.push {cls:=.type "set",dict:=none,data:=.set #[] 0 (.fresh 0 0 led)}).objs.size,l]:=(by rw[zV];simp only[zf,zD,zB,or_false,not_or];exact{zy<|yx _,yj ll});refine Hc ((Walks.list h3 _ l ne items).toS) s.heap.objs.size nf xs hx hi hb (items.size-0) 0 _ (by lia) {{_,zj _ rfl,rfl,rfl},(il.push _)} ?hS0 ?hR
    case hS0 =>
     have gg:=za {cls:=.type "list_iterator",data:=.fields #[.ref l,.int 0 0]} gS
     exact SetOf_congr ((setObjOf_fresh (knd:=strKind prog w) led).setOf gg<|by unfold scanBound;lia) (λ_=>rfl) rfl
    case hR =>
     intro s' hm q
     obtain⟨h',g',d',QK,RU⟩:=s'
     have eg:g'=s.gens:=hm.gens;have ed:d'=s.drawn:=hm.drawn;have eo:RU=s.os:=hm.os
     subst eg;subst ed;subst eo
     show wpAny _ _ _ _ _ _;refine zu ?_;show wpAny _ _ (ret Value.none) _ _ _
     refine zu {rfl,h',QK,rfl,q,λb o hb e=>?_}
     have b2:b≠(s.heap.push {cls:=.type "set",dict:=none,data:=.set #[] 0 (.fresh 0 0 led)}).objs.size:=by rw[zV];exact zy<|Nat.lt_succ_of_lt hb
     refine hm.heap b o ?_<|za _<|za _ e
     simp only[zf,zD,zB,or_false,not_or];exact{zy hb,b2}
   {cases r2 with|error e=>exact Xt|ok f2=>cases f2 with|ret r=>(obtain⟨rfl,h',tk,rfl,q,k'⟩:=Xt;(repeat (any_goals (first|assumption|wp_step)));exact h _ _ q k')|_=>exact Xt.elim}
  |_=>exact hr.elim
end
noncomputable def OJ(P:Program)(w:World)(a:Addr)(xs:List Str):HO:=.ext λh=>h.SetOf (strKind P w) a (λy=>decide<|y∈iy xs) (iy xs).length
theorem Ku(q:h.SetOf (strKind P w) a (λy=>decide<|y∈iy xs) (iy xs).length):ba P w H h a (OJ P w a xs):=by obtain⟨o,es,ep,t,ho,rest⟩:=id q;exact{q,⟨o,ho⟩,by rintro h1 h2 ⟨o,es,ep,t,ho,rest⟩ k;exact{o,es,ep,t,k _ ho,rest}}
theorem xh:∀{xs:List Str}{ay:List Value},Vals (xs.map V.str) ay->∀(i:Nat)(v:Value),ay[i]?=some v->∃x t,xs[i]?=some x/\v=.str x t|[],_,.nil,i,v,e=>by simp at e|x::xs,_,.cons r rs,0,v,e=>(by obtain⟨t,q⟩:=r;simp at e;exact{x,t,rfl,by rw[<-e];exact q})|x::xs,_,.cons r rs,i+1,v,e=>by obtain⟨y,t,e1,e2⟩:=xh rs i v (by simpa using e);exact{y,t,by simpa using e1,e2}
section
variable{X:Cx}
theorem EK{P:Program}{w:World}{K:Frag}(hP:X.prog=P)(hw:X.w=w)(hK:X.K=K)(hc:X.calm=true): cS X (.type "set") (λvs H Q=>∃p xs,vs=[.ref p]/\iU K H p (xs.map V.str)/\xs.length<4000/\∀l,H l=none->Q (.ref l) (upd H l<|OJ P w l xs)):=by
 subst hP;subst hw;subst hK;intro pins s σ H vs us Q I r h;obtain⟨p,xs,rfl,hq,hz,q⟩:=h;obtain⟨u,rfl,rx⟩:=vals1 r;cases rx;obtain⟨ay,r',pl,_⟩:=I.list hq;have hlen:xs.length=ay.toArray.size:=by have:=r'.length;simpa using this
 refine xg (I.ok.hd hc) pl.isList hlen (λi v e=>xh r' i v<|by simpa using e) (by rw[<-hlen];unfold scanBound;lia) λh' tk qs kp=>?_;refine{.ref s.heap.objs.size,_,I.laid (t':=tk) (λb o e=>kp b o (zt e) e) (zk _)<|Ku qs,rfl,q _<|I.aH.fresh<|zk _}
theorem EL(hP:X.prog=P)(hw:X.w=w):cS X (.builtin "len") (λvs H Q=>∃a xs,vs=[.ref a]/\H a=some (OJ P w a xs)/\Q (.int (iy xs).length) H):=by subst hP;subst hw;intro pins s σ H vs us Q I r h;obtain⟨a,xs,rfl,ha,q⟩:=h;obtain⟨u,rfl,rx⟩:=vals1 r;cases rx;obtain⟨⟨o,es,ep,t,ho,hex,hd,Mz,OL,hb,hf,hn⟩,_⟩:=I.aH a _ ha;refine call_len_set ho hex hd hf (by unfold scanBound at hb;lia) ?_;exact{.int (iy xs).length,H,I.tok _,{_,by rw[hn]},q}
end
theorem tW(l:List Str):(iy l).length=l.length↔l.Nodup:=by
 have all:∀(r c:List Str),c.Nodup->((r.foldl (λc x=>if x∈c then c else c++[x]) c).length=c.length+r.length↔(c++r).Nodup):=by intro r;induction r with|nil=>intro c hc;simpa using hc|cons x r ih=>intro c hc;rw[yI];by_cases h:x∈c;{rw[if_pos h];have le:(r.foldl (λc x=>if x∈c then c else c++[x]) c).length<=c.length+r.length:=(by have all2:∀(r c:List Str),(r.foldl (λc x=>if x∈c then c else c++[x]) c).length<=c.length+r.length:=(by intro r;induction r with|nil=>intro c;simp|cons x r ih=>intro c;rw[yI];refine zK (ih _) ?_;split<;>simp<;>try lia);exact all2 r c);refine{λe=>by simp at e;lia,λe=>?_};exact absurd rfl<|(List.nodup_append.mp e).2.2 x h x<|by simp};rw[if_neg h];have Jy:(c++[x]).Nodup:=lQ hc h;have:=ih (c++[x]) Jy;simp only[zG,zO,List.length_nil,List.append_assoc,List.singleton_append]at this⊢;rw[<-this];constructor<;>intro e<;>lia
 simpa [iy]using all l [] List.nodup_nil
theorem iz:entryFor table "dict.update.loop"= some Builtin.«dict.update.loop»:=entryFor_of_tree<|by kernel_rfl
theorem cT:plainId "dict.update.loop"= true:=by trivial
theorem sF:typeLookup (.type "tuple") "keys"= pure none:=by rw[typeLookup_type,builtinLookup_eq_fast];kernel_rfl
section
variable{prog:Program}{w:World}{A:Around}{E:Value->Shared->Prop}{s:Shared}
theorem sG(hx:s.heap.get? a=some o)(hc:o.cls=.type "tuple")(Sv:o.data=.seq xs k)(hd:o.dict=none)(hA:A.handled=none) (h:∀h' tk,(∀b ob,s.heap.get? b=some ob->h'.get? b=some ob)->Q none {s with heap:=h',toks:=tk}):wpAny (model prog w) A (getAttr? (.ref a) "keys") Q E s:=by
 obtain⟨c,cA,dat,sl⟩:=o;simp only at hc Sv hd;subst hc Sv hd;obtain⟨hp,g,d,tk,os⟩:=s;have hT:∀QK,(⟨hp,g,d,QK,os⟩:Shared).TypeIs (.ref a) "tuple":=λ_=>{_,hx,rfl};have f1:=sub_AttributeError;have f3:=F.slot_tuple_getattribute.lookup;have f4:=F.slot_tuple_getattribute.bind<|.ref a;have f5:=am_tuple_getattr_none;unfold getAttr? getAttrBy? getAttrBy;repeat (any_goals (first|assumption|exact hT _|((with_reducible show wpAny _ _ (call (Value.builtin "tuple.__getattribute__") _ _) _ _ _);refine call_meets F.slot_tuple_getattribute (hT _) am_entry_tuple_getattribute (F.args_tuple_getattribute_2 _ _) (meets_getattribute_miss_tuple a xs k sl "keys" _ sF (by trivial)<|by size_fits) {hx,hA,λh' QK e Sw=>?_})|wp_step))
 obtain⟨t',u',he⟩:=Sw.there;show wpAny _ _ (getattributeRaised _ _ _ _ _ _ _) _ _ _;unfold getattributeRaised;repeat (any_goals (first|assumption|wp_step))
 exact h _ _ Sw.keeps
end
section
variable{prog:Program}{w:World}{A:Around}{R:Result->Shared->Prop}{I:Addr}{fp wr:List Addr}{G:Array GenState->Array GenState->Prop}{n:Nat}{P:Nat->Value->Prop}{St:Nat->Shared->Prop}
theorem EM(W:WalksS prog w A.in1 I fp wr G n P St)(D:Addr)(hDf:D∉fp)(kvs:List<|Key×Value)(hx:kvs.length=n)(base:Heap) (OF:∀i v,P i v->∃(b:Addr) (k:Key) (key val:Value) (o:Obj) (m:Nat),kvs[i]?=some (k,val)/\v=.ref b/\(aF prog w).is k key=true/\base.get? b=some o/\o.cls=.type "tuple"/\o.data=.seq #[key,val] m/\b≠D/\b∉wr) (hb:n<=sizeLine): ∀(k i:Nat) (s:Shared) (c:Int) (t:Tok),i+k=n->St i s->s.heap.DictOf (aF prog w) D (merged []<|kvs.take i)->(∀b o,base.get? b=some o->b≠D->b∉wr->s.heap.get? b=some o)->(∀s',Moved (D::wr) G s s'->s'.heap.DictOf (aF prog w) D (merged [] kvs)->R (.ok<|.ret .none) s')->codeAny (model prog w) A (.builtin "dict.update.loop" {[.ref D,.ref I,.int c t,.none],[]}) R s:=by have nw:D∉wr:=λh=>hDf<|W.sub _ h;have up:∀b∈wr,b∈D::wr:=λb hb=>zi _ hb;intro k;induction k with|zero=>(intro i s c t hk og hS hB hR;have e:i=n:=(by lia);subst e;refine yB iz ?_;rw[Around.under_plainId cT _];show wpAny _ A.in1 (pyNext (.ref I) >>=_) _ _ s;refine zb<|W.done s _ _ og λs' hm=>?_;show wpAny _ A.in1 (Builtin.Dict.addKeywords D [] >>=_) _ _ s';have q:s'.heap.DictOf (aF prog w) D (merged []<|kvs.take i):=(by obtain⟨o,es,ep,ho,rest⟩:=hS;exact{o,es,ep,hm.heap D _ nw ho,rest});rw[<-hx,List.take_length]at q;exact zb<|zu<|zu<|hR s' (hm.mono up) q)|succ k ih=>intro i s c t hk og hS hB hR;have lt:i<n:=(by lia);refine yB iz ?_;rw[Around.under_plainId cT _];show wpAny _ A.in1 (pyNext (.ref I) >>=_) _ _ s;refine zb<|W.item i s _ _ lt og λv s' hP OG hm=>?_;obtain⟨b,ky,key,val,o,m,ek,rfl,NU,ho,hc,hd,Xn,hbw⟩:=OF i v hP;have q:s'.heap.DictOf (aF prog w) D (merged []<|kvs.take i):=(by obtain⟨o,es,ep,ho,rest⟩:=hS;exact{o,es,ep,hm.heap D _ nw ho,rest});have hb':s'.heap.get? b=some o:=hm.heap b o hbw<|hB b o ho Xn hbw;have room:(merged []<|kvs.take i).length<=sizeLine:=(by have:=merged_length_le ([]:List (Key×Value))<|kvs.take i;rw[ya]at this;simp at this;lia);have tk:merged [] (kvs.take<|i+1)=stored (merged []<|kvs.take i) ky val:=merged_take_succ [] kvs i (ky,val) ek;refine zb<|yE<|zb<|wpAny_tryCatch ?_;unfold Builtin.Dict.pairItems;refine zb<|wpAny_typeOf (T:="tuple") ⟨o,hb',hc⟩ ?_;show wpAny _ A.in1 (seqItems? (.ref b) >>=_) _ _ s';refine zb<|wpAny_seqItems hb' hd<|zu ?_;show wpAny _ A.in1 (holding [key,val]<|dictSet D key val) _ _ s';refine yE<|wpAny_dictSet_pairs NU q (λh' q2 Kt=>?_) room;rw[<-tk]at q2;refine zu {plainId_quiet cT _,ih (i+1) _ _ _ (by lia) (W.frame _ s' _ _ OG (yN _) λb hb o e=>?_) q2 (λb o e h1 h2=>?_) λAE OH Xs=>?_};rw[Kt.2 b (λh:b=D=>hDf<|by rw[<-h];exact hb)];exact e;rw[Kt.2 b h1];exact hm.heap b o h2<|hB b o e h1 h2;refine hR AE (Moved.trans W.gtrans ((hm.mono up).then_heap (yN _) λb o hb e=>?_) OH) Xs;rw[Kt.2 b (λh:b=D=>hb<|by rw[h];exact zp)];exact e
theorem sH(hh:A.handled=none)(gl:s.heap.get? l=some ol)(cl:ol.cls=.type "tuple")(dl:ol.data=.seq items m)(nl:ol.dict=none)(hx:kvs.length=items.size) (hi:∀(i:Nat) (v:Value),items[i]?=some v->∃(b:Addr) (k:Key) (key val:Value) (o:Obj) (m:Nat),kvs[i]?=some (k,val)/\v=.ref b/\(aF prog w).is k key=true/\s.heap.get? b=some o/\o.cls=.type "tuple"/\o.data=.seq #[key,val] m) (hb:items.size<=sizeLine) (h:∀(h':Heap) (tk:Nat),h'.DictOf (aF prog w) s.heap.objs.size (merged [] kvs)->(∀b o,s.heap.get? b=some o->h'.get? b=some o)->Q (.ref s.heap.objs.size) {s with heap:=h',toks:=tk}): wpAny (model prog w) A (call (.type "dict") [.ref l]) Q E s:=by
 refine callType_codes (Q₁:=λobj aW=>obj=.ref s.heap.objs.size/\aW={s with heap:=s.heap.push {cls:=.type "dict",data:=.dict #[]}}) F.kt_called_dict (F.kt_typeCall_dict_1 _) F.entry_dict_init (kt_code_dict_new _ ⟨rfl,rfl⟩) ?_;rintro obj aW ⟨rfl,rfl⟩;have OM:(s.heap.push {cls:=.type "dict",data:=.dict #[]}).DictOf (aF prog w) s.heap.objs.size []:=Heap.DictOf.new s.heap;have Su:(s.heap.push {cls:=.type "dict",data:=.dict #[]}).get? l=some ol:=za _ gl;refine{OM.typeIs,F.args_dict_init_2 _ _,?_};unfold Builtin.«dict.__init__»;refine zb ?_;unfold Builtin.Dict.selfAndRest;refine zb<|wpAny_notOrdered_dict OM.typeIs ?_;show wpAny _ _ (pure (s.heap.objs.size,[Value.ref l])) _ _ _;refine zu ?_;show wpAny _ _ (Builtin.Dict.updateFrom "dict.__init__" s.heap.objs.size (.ref l) [] .none) _ _ _;unfold Builtin.Dict.updateFrom;refine zb<|wpAny_typeOf (T:="tuple") ⟨ol,Su,cl⟩ ?_;rw[if_pos<|by decide];have h3:A.in1.in1.handled=none:=by simp[hh]
 refine zb<|sG Su cl dl nl h3 λh1 tk1 VI=>?_;have g1:h1.get? l=some ol:=VI _ _ Su;have d1:h1.DictOf (aF prog w) s.heap.objs.size []:=by obtain⟨o,es,ep,ho,rest⟩:=OM;exact{o,es,ep,VI _ _ ho,rest}
 have lD:s.heap.objs.size<h1.objs.size:=by obtain⟨o,es,ep,ho,rest⟩:=d1;exact zt ho
 have ll:l<s.heap.objs.size:=zt gl;show wpAny _ _ (rule _ >>=_) _ _ _;refine zb<|wpAny_rule ?_;have it1:h1.IsTuple l items:=⟨ol,g1,cl,m,dl⟩;refine zb<|wpAny_pyIter_tuple (s:=⟨h1,s.gens,s.drawn,tk1,s.os⟩) it1 ?_;have ne:l≠h1.objs.size:=zy<|Nat.lt_trans ll lD;have nf:s.heap.objs.size∉[h1.objs.size,l]:=by simp only[zf,zD,zB,or_false,not_or];exact{zy lD,yj ll}
 refine zu {plainId_quiet cT _,?_};refine EM ((Walks.tuple h3 _ l ne items).toS) s.heap.objs.size nf kvs hx s.heap (λi v e=>?_) hb (items.size-0) 0 _ _ _ (by lia) {{_,zj _ rfl,rfl,rfl},it1.push _} ?hS0 ?hB ?hR;obtain⟨b,k,key,val,o,m',e1,e2,e3,e4,e5,e6⟩:=hi i v e;have lb:=zt e4;exact{b,k,key,val,o,m',e1,e2,e3,e4,e5,e6,zy lb,by simp;exact zy<|Nat.lt_trans lb lD};case hS0=>exact d1.push _
 case hB=>exact λb o e EN Xu=>za _<|VI _ _<|za _ e
 case hR =>
  intro s' hm q
  obtain⟨h',g',d',QK,RU⟩:=s'
  have eg:g'=s.gens:=hm.gens;have ed:d'=s.drawn:=hm.drawn;have eo:RU=s.os:=hm.os
  subst eg;subst ed;subst eo
  refine{rfl,h h' QK q λb o e=>?_}
  have lb:=zt e
  refine hm.heap b o ?_<|za _<|VI _ _<|za _ e
  simp only[zf,zD,zB,or_false,not_or];exact{zy lb,zy<|Nat.lt_trans lb lD}
end
noncomputable def CL(l:List<|Str×V):List (Key×V):=l.foldl (λc p=>putK c (.inr p.1) p.2) []
def Prs(H:Hp)(ps:List V)(kvs:List<|Str×V):Prop:=kvs.length=ps.length/\∀(i:Nat)(x:V)(p:Str×V),ps[i]?=some x->kvs[i]?=some p->∃b,x=.ref b/\H b=some (.tup [.str p.1,p.2])
section
variable{X:Cx}
theorem AV(hc:X.calm=true):cS X (.type "dict") (λvs H Q=>∃p ps kvs,vs=[.ref p]/\H p=some (.tup ps)/\Prs H ps kvs/\∀l,H l=none->Q (.ref l) (upd H l<|.dK<|CL kvs)):=by
 intro pins s σ H vs us Q I r h;obtain⟨p,ps,kvs,rfl,hp,⟨hl,hq⟩,q⟩:=h;obtain⟨u,rfl,rx⟩:=vals1 r;cases rx;obtain⟨hz,ay,rv,ol,gl,cl,nl,m,dl⟩:=(show ba X.prog X.w H s.heap p (.tup ps) from I.aH p _ hp);have hlen:=rv.length;have each:∀(i:Nat)(x:V)(pr:Str×V),ps[i]?=some x->kvs[i]?=some pr->∃(b:Addr)(key val:Value)(o:Obj)(m:Nat),ay[i]?=some (.ref b)/\(aF X.prog X.w).is (.inr pr.1) key=true/\RelV pr.2 val/\s.heap.get? b=some o/\o.cls=.type "tuple"/\o.data=.seq #[key,val] m:=by intro i x pr e1 e2;obtain⟨b,rfl,hb⟩:=hq i x pr e1 e2;obtain⟨u,e3,ru⟩:=rv.get e1;cases ru;obtain⟨_,it2,r2,o,go,co,no,m2,do2⟩:=(show ba X.prog X.w H s.heap b (.tup [.str pr.1,pr.2]) from I.aH b _ hb);obtain⟨k',v',rfl,⟨tk,rfl⟩,rv'⟩:=r2.two;exact{b,_,v',o,m2,e3,iW _ _ _ _,rv',go,co,by simpa using do2}
 have kv:∃vals:List (Key×Value),KV (kvs.map λp=>((.inr p.1:Key),p.2)) vals/\∀(i:Nat)(x:V),ps[i]?=some x->∃(b:Addr)(k:Key)(key val:Value)(o:Obj)(m:Nat),vals[i]?=some (k,val)/\ay[i]?=some (.ref b)/\(aF X.prog X.w).is k key=true/\s.heap.get? b=some o/\o.cls=.type "tuple"/\o.data=.seq #[key,val] m:=by clear hp q rv dl hz;induction kvs generalizing ps ay with|nil=>refine{[],.nil,λi x e=>?_};have:ps=[]:=List.eq_nil_of_length_eq_zero (by simpa using hl.symm);subst this;simp at e|cons pr r ih=>cases ps with|nil=>simp at hl|cons y ys=>cases ay with|nil=>simp at hlen|cons w0 ws=>obtain⟨b,key,val,o,m,e1,e2,e3,e4,e5,e6⟩:=each 0 y pr rfl rfl;obtain⟨vals,k1,k2⟩:=ih ys (by simpa using hl) (λi x p a b=>hq (i+1) x p (by simpa using a)<|by simpa using b) ws (by simpa using hlen) (λi x p a b=>by simpa using each (i+1) x p (by simpa using a) (by simpa using b));refine{(.inr pr.1,val)::vals,.cons ⟨rfl,e3⟩ k1,λi x e=>?_};cases i with|zero=>exact{b,.inr pr.1,key,val,o,m,rfl,e1,e2,e4,e5,e6}|succ i=>simpa using k2 i x (by simpa using e)
 obtain⟨vals,kv1,kv2⟩:=kv;have lv:vals.length=ay.length:=by have:=kv1.length;rw[zc]at this;lia
 refine sH (kvs:=vals) (I.ok.hd hc) gl cl dl nl (by simpa using lv) (λi v e=>?_) (by simp;lia) λh' tk qs kp=>?_;have e':ay[i]?=some v:=by simpa using e
 have hi:i<ay.length:=(ze.mp e').1;obtain⟨b,k,key,val,o,m',e1,e2,e3,e4,e5,e6⟩:=kv2 i (ps[i]'(by lia))<|zg _;rw[e']at e2;exact{b,k,key,val,o,m',e1,zP e2,e3,e4,e5,e6};have rel:KV (CL kvs) (merged [] vals):=by have all:∀(l:List (Str×V))(vl:List (Key×Value))(c:List (Key×V))(cv:List (Key×Value)),KV (l.map λp=>((.inr p.1:Key),p.2)) vl->KV c cv->KV (l.foldl (λc p=>putK c (.inr p.1) p.2) c) (merged cv vl):=(by intro l;induction l with|nil=>(intro vl c cv h1 h2;cases h1;exact h2)|cons p r ih=>intro vl c cv h1 h2;cases h1 with|@cons _ q _ qs r1 r2=>obtain⟨k,v⟩:=q;obtain⟨rfl,rv⟩:=r1;exact ih qs _ _ r2<|h2.put _ rv);exact all kvs vals [] [] kv1 .nil
 have big:=I.big;refine{.ref s.heap.objs.size,_,I.laid (t':=tk) (λb o e=>kp b o e) (zk _) (o:=.dK<|CL kvs) {?_,?_,_,rel,qs},rfl,q _<|I.aH.fresh<|zk _};have e1:=rel.length;have e2:=merged_length_le ([]:List (Key×Value)) vals;simp at e2;lia;simp;exact yj big
theorem smz(h:n<=1000):n<=sizeLine:=yC<|jH h
end
abbrev lT(h:Heap)(T:Addr)(arr:Array Value):Prop:=h.get? T=some {cls:=.type "tuple",data:=.seq arr}
theorem uT(hs:Heap.ExtBut b h h')(n:a≠b)(x:h.IsTupleIter a l i):h'.IsTupleIter a l i:=x.extBut hs n
theorem MA{h h':Heap}{a l:Addr}{i:Nat}(k:∀o,h.get? a=some o->h'.get? a=some o)(x:h.IsTupleIter a l i):h'.IsTupleIter a l i:=by obtain⟨o,e,r⟩:=x;exact{o,k o e,r}
section
variable{prog:Program}{w:World}{A:Around}{E:Value->Shared->Prop}{s:Shared}
theorem Xv(h:n<=3):n<=sizeLine:=smz<|zK h<|by decide
theorem EO(hT:lT s.heap T arr)(hz:arr.size<=3)(h:∀h',lT h' T (arr.setIfInBounds k x)->Heap.SameBut T s.heap h'->Q () {s with heap:=h'}):wpAny (model prog w) A (updateSeq T (·.setIfInBounds k x)) Q E s:=by refine wpAny_updateSeq hT rfl (h _ ?_<|yt ..) (hz:=Xv hz) (_hz':=by have:=Xv hz;simp;lia);show Heap.get? _ _=_;rw[yp _ hT rfl];simp[Obj.mapSeq]
theorem AW(hit:s.heap.IsTupleIter it l i)(hl:s.heap.IsTuple l items)(hx:items[i]?=some x)(hQ:∀h',h'.IsTupleIter it l (i+1)->Heap.SameBut it s.heap h'->Q x {s with heap:=h'}): wpAny (model prog w) A (Builtin.SmallTypes.nextOf<|.ref it) Q E s:=by obtain⟨o,ho,hc,hd⟩:=id hit;obtain⟨ol,Sy,_,nl,Ga⟩:=hl;unfold Builtin.SmallTypes.nextOf;refine zb<|wpAny_callSpecial?_slot (name:=Str.ofString "__next__") hit.typeIs F.slot_tuple_iterator_next<|yF F.slot_tuple_iterator_next hit.typeIs F.entry_tuple_iterator_next ?_<|F.args_tuple_iterator_next_1 _;show wpAny _ _ (field (.ref it) 0 >>=_) _ _ s;refine zb<|z0 ho hd (x:=.ref l) rfl ?_;show wpAny _ _ (if (Value.ref l==Value.none)=true then _ else _) _ _ s;rw[if_neg<|show ¬((Value.ref l==Value.none)=true) from zd];show wpAny _ _ (field (.ref it) 1 >>=_) _ _ s;refine zb<|z0 ho hd (x:=.int i 0) rfl ?_;show wpAny _ _ (seqItems? (.ref l) >>=_) _ _ s;refine zb<|wpAny_seqItems Sy Ga ?_;simp only[Int.toNat_natCast,hx];refine zb<|yK ho hd (by simp)<|zu {x,rfl,zu<|hQ _ {_,yp _ ho<|Obj.isFreed_of_fields<|yr hd _,(Obj.cls_mapFields ..).trans hc,by rw[yr hd];simp[rawInt]}<|yt ..}
theorem qv(hh:A.handled=none)(hit:s.heap.IsTupleIter it l i)(hl:s.heap.IsTuple l items)(hx:items[i]?=none) (hE:∀h' e,Heap.ExtBut it s.heap h'->(∃o,h'.get? e=some o/\o.cls=.type "StopIteration")->E (.ref e) {s with heap:=h'}):wpAny (model prog w) A (Builtin.SmallTypes.nextOf<|.ref it) Q E s:=by
 obtain⟨o,ho,hc,hd⟩:=id hit;obtain⟨ol,Sy,_,nl,Ga⟩:=hl;unfold Builtin.SmallTypes.nextOf;refine zb<|wpAny_callSpecial?_slot (name:=Str.ofString "__next__") hit.typeIs F.slot_tuple_iterator_next<|yF F.slot_tuple_iterator_next hit.typeIs F.entry_tuple_iterator_next ?_<|F.args_tuple_iterator_next_1 _;show wpAny _ _ (field (.ref it) 0 >>=_) _ _ s;refine zb<|z0 ho hd (x:=.ref l) rfl ?_;show wpAny _ _ (if (Value.ref l==Value.none)=true then _ else _) _ _ s;rw[if_neg<|show ¬((Value.ref l==Value.none)=true) from zd];show wpAny _ _ (field (.ref it) 1 >>=_) _ _ s;refine zb<|z0 ho hd (x:=.int i 0) rfl ?_;show wpAny _ _ (seqItems? (.ref l) >>=_) _ _ s;refine zb<|wpAny_seqItems Sy Ga ?_;simp only[Int.toNat_natCast,hx];refine zb<|wpAny_rule<|zb<|yK ho hd (by simp) ?_;show wpAny _ _ (newExc (.type "StopIteration") [] >>=_) _ _ _;refine zb ?_;simp only[newExc,newTuple];refine zb<|yA ?_ (by size_fits);refine zb (m:=firstArgMember _ _)<|yO (a:=Value.none) (by first|rfl|(simp only[firstArgMember];rfl)) ?_;refine yA ?_ (by size_fits);simp only[raiseNew];refine zb<|wpAny_handled ?_;first|rw[show A.in1.handled=none from hh]|rw[hh]
 refine zb<|zu<|wpAny_throw<|hE _ _ (((yt ..).extBut.push _).push _) {_,zj _ rfl,rfl}
end
def ZS2(n l0 l1:Nat)(i:Nat)(h:Heap):Prop:=IsZip h (n+4) (n+2) (n+3) .none/\lT h (n+2) #[.ref n,.ref<|n+1]/\(∃arr:Array Value,arr.size=2/\lT h (n+3) arr)/\h.IsTupleIter n l0 i/\h.IsTupleIter (n+1) l1 i
section
variable{X:Cx}{pins:List (Addr×Obj)}{σ:St}{H:Hp}{s:Shared}{h':Heap}
theorem Inv.Kv(I:Inv X pins σ H s)(wr:List Addr)(hw:∀b∈wr,sx X pins H b)(k:∀b o,b∉wr->s.heap.get? b=some o->h'.get? b=some o):Inv X pins σ H {s with heap:=h',toks:=t'}:=by refine I.step (g':=s.gens) (d':=s.drawn) (ch:=wr) (λb hb=>by obtain⟨_,a,_,c,d,e⟩:=hw b hb;exact⟨c,a,d,e⟩) (λb o _ _ hc e _=>k b o hc e) (λb o _ _ hc e _=>{o.slots,k b o hc e}) (λ_ _ _ _ n=>n) (λb o hc e=>{o,k b o hc e}) (λ_ _ e=>e) (λ_ _ _ e=>e) (λb ps e=>{#[],by rw[e];simp}) (λm hm=>?_) (λb u e=>?_) I.bare;obtain⟨o,es,ep,ho,r⟩:=hm;exact{o,es,ep,k _ o (λz=>(hw _ z).2.1 rfl) ho,r};refine(I.aH b u e).lI (λc v hc q=>k c v (λz=>?_) q) (λ_ q=>q) λ_ _ q=>q;have n:=(hw c z).1;rcases hc with rfl|hc;rw[n]at e;cases e;rw[n]at hc;cases hc
theorem Inv.Kw(I:Inv X pins σ H s)(wr:List Addr)(hw:∀b∈wr,sx X pins H b)(k:∀b o,b∉wr->s.heap.get? b=some o->h'.get? b=some o)(hT:s.heap.get? T=none)(new:ba X.prog X.w (upd H T o) h' T o): Inv X pins σ (upd H T o) {s with heap:=h',toks:=t'}:=by
 have fr:H T=none:=by cases q:H T with|none=>rfl|some u=>obtain⟨z,e⟩:=(I.aH T u q).get;rw[hT]at e;cases e
 have ne:∀b u,H b=some u->b≠T:=λb u e z=>by rw[z,fr]at e;cases e
 refine I.step (g':=s.gens) (d':=s.drawn) (ch:=wr) (λb hb=>by obtain⟨_,a,_,c,d,e⟩:=hw b hb;exact⟨c,a,d,e⟩) (λb o _ _ hc e _=>k b o hc e) (λb o _ _ hc e _=>{o.slots,k b o hc e}) (λb ob _ e n=>?_) (λb o hc e=>{o,k b o hc e}) (λb xs e=>by rw[au<|ne b _ e];exact e) (λb ob u e=>by rw[au<|ne b _ e];exact e) (λb ps e=>{#[],by rw[au<|ne b _ e,e];simp}) (λm hm=>?_) (λb u e=>?_) I.bare;have:b≠T:=λz=>by rw[z,hT]at e;cases e
 rw[au this];exact n;obtain⟨o,es,ep,ho,r⟩:=hm;exact{o,es,ep,k _ o (λz=>(hw _ z).2.1 rfl) ho,r};by_cases hb:b=T;subst hb;rw[aE]at e;cases e;exact new;rw[au hb]at e;refine(I.aH b u e).lI (λc v hc q=>k c v (λz=>?_) q) (λc q=>by rw[au<|ne c _ q];exact q) λc xs q=>by rw[au<|ne c _ q];exact q
 have n:=(hw c z).1;rcases hc with rfl|hc;rw[n]at e;cases e;rw[n]at hc;cases hc
end
noncomputable abbrev Kx(h:Heap)(l0:Addr):Heap:=(h).push {cls:=.type "tuple_iterator",data:=.fields #[.ref l0,.int 0 0]}
noncomputable abbrev Ky(h:Heap)(l0 l1:Addr):Heap:=(Kx h l0).push {cls:=.type "tuple_iterator",data:=.fields #[.ref l1,.int 0 0]}
noncomputable abbrev Kz(h:Heap)(l0 l1:Addr):Heap:=(Ky h l0 l1).push {cls:=.type "tuple",data:=.seq #[.ref h.objs.size,.ref (Kx h l0).objs.size]}
noncomputable abbrev KA(h:Heap)(l0 l1:Addr):Heap:=(Kz h l0 l1).push {cls:=.type "tuple",data:=.seq #[.none,.none]}
noncomputable abbrev AZ(h:Heap)(l0 l1:Addr):Heap:=(KA h l0 l1).push {cls:=.type "zip",data:=.fields #[.none,.bool false,.bool false,.ref (Ky h l0 l1).objs.size,.ref (Kz h l0 l1).objs.size]}
theorem A1(l0 l1:Addr)(AX AY:Array Value):Meets (Builtin.«zip.__new__» {[.type "zip",.ref l0,.ref l1],[]}) (λ_ R s=>s.heap.IsTuple l0 AX/\s.heap.IsTuple l1 AY/\R (.ok<|.ret<|.ref (KA s.heap l0 l1).objs.size) {s with heap:=AZ s.heap l0 l1}):=.of_wp λprog w A R s h=>by obtain⟨hp,g,d,tk,os⟩:=s;obtain⟨t0,t1,h⟩:=h;have OB:=sub_zip;have L0:Heap.IsTuple (Shared.heap ⟨hp,g,d,tk,os⟩) l0 AX:=t0;have L1:Heap.IsTuple (Shared.heap {hp.push {cls:=.type "tuple_iterator",data:=.fields #[.ref l0,.int 0 0]},g,d,tk,os}) l1 AY:=Heap.IsTuple.push (t1) _;wp_walk using wpAny_pyIter_tuple L0,wpAny_pyIter_tuple L1;exact{_,rfl,h}
theorem A2(t0:s.heap.IsTuple l0 AX)(t1:s.heap.IsTuple l1 AY) (h:∀h',ZS2 s.heap.objs.size l0 l1 0 h'->(∀c o,s.heap.get? c=some o->h'.get? c=some o)->Q (.ref<|s.heap.objs.size+4) {s with heap:=h'}):wpAny (model prog w) A (call (.type "zip") [.ref l0,.ref l1]) Q E s:=by
 refine callType_new F.called_zip (by decide) (F.typeCall_zip_2 _ _) (F.newCall_zip_2 _ _) (λobj=>F.args_object_init_3 obj _ _) F.entry_zip_new (A1 l0 l1 AX AY) {t0,t1,?_};have z1:(Kx s.heap l0).objs.size=s.heap.objs.size+1:=zV ..;have z2:(Ky s.heap l0 l1).objs.size=s.heap.objs.size+2:=by rw[zV,z1]
 have z3:(Kz s.heap l0 l1).objs.size=s.heap.objs.size+3:=by rw[zV,z2]
 have z4:(KA s.heap l0 l1).objs.size=s.heap.objs.size+4:=by rw[zV,z3]
 have z5:(AZ s.heap l0 l1).objs.size=s.heap.objs.size+5:=by rw[zV,z4]
 have g0:(AZ s.heap l0 l1).get? (s.heap).objs.size=some _:=za _<|za _<|za _<|za _<|zj _ rfl;have g1:(AZ s.heap l0 l1).get? (Kx s.heap l0).objs.size=some _:=za _<|za _<|za _<|zj _ rfl;have g2:(AZ s.heap l0 l1).get? (Ky s.heap l0 l1).objs.size=some _:=za _<|za _<|zj _ rfl;have g3:(AZ s.heap l0 l1).get? (Kz s.heap l0 l1).objs.size=some _:=za _<|zj _ rfl;have g4:(AZ s.heap l0 l1).get? (KA s.heap l0 l1).objs.size=some _:=zj _ rfl;show _/\_;rw[z2,z3,z4]at g4;rw[z3]at g3;rw[z1,z2]at g2;rw[z1]at g1;rw[z4];exact{{_,g4,rfl},h _ {g4,g2,{_,rfl,g3},{_,g0,rfl,rfl},{_,g1,rfl,rfl}} λc o x=>za _<|za _<|za _<|za _<|za _ x}
def KC(K:Frag):V->List V->Hp->VK->Prop:=λx vs H Q=>∃(a:Addr)(xs:List V)(y z:V)(j:Nat),x=.ref a/\vs=[y]/\iU K H a xs/\gE y=true/\xs.all gE=true/\xs[j]?=some z/\eqV z y=true/\(∀m u,m<j->xs[m]?=some u->eqV u y=false)/\Q (.int j) H
theorem ER:QE X "list.index" (KC X.K):=by
 intro pins s σ H x vs v us Q I rx rv h;obtain⟨a,xs,y,z,j,rfl,rfl,hq,fy,fx,hj,hit,A3,q⟩:=h;cases rx;obtain⟨u,rfl,ru⟩:=rv.one;obtain⟨ay,r,p,hz⟩:=I.list hq;obtain⟨⟨cls,dd,data,sl⟩,ho,hc,n,hd⟩:=p.isList;simp only at hc hd;subst hc hd;have hl:=r.length;have dW:j<xs.length:=(ze.mp hj).1;have fl:∀(m:Nat)(w:V),xs[m]?=some w->gE w=true:=λm w e=>yh.mp fx w<|zx e;have at':∀(m:Nat)(hm:m<ay.toArray.size)(w:V),xs[m]?=some w->GK y ay.toArray[m]=eqV w y:=λm hm w e=>by obtain⟨u',e',ru'⟩:=r.get e;have:ay.toArray[m]=u':=(by have:=ze.mp e';simpa using this.2);rw[this];exact AG ru'<|fl m w e
 have hs:sizeLine=16777216:=zZ;refine call_meets PySem.F.slot_list_index {_,ho,rfl} PySem.F.entry_list_index (PySem.F.args_list_index_2 _ _) (SeqAt.list_indexAt a ay.toArray n dd sl u (GK y) j (by simp;lia) (by lia) ?_ ?_) {ho,λw hw=>lN ru fy r fx w<|by simpa using hw,{.int j,H,I.tok _,{_,rfl},q}};rw[at' j _ z hj];exact hit;intro m hm hmj;have hmx:m<xs.length:=by lia
 rw[at' m hm _<|zg hmx];exact A3 m _ hmj<|zg hmx
def Sz:R2:=λx y H Q=>∃z n,x=.str z/\y=.int n/\MulOk z n/\Q (.str<|PySem.Txt.mul z n) H
theorem A4:g9 X (binaryOp .Mult) Sz:=by intro pins s σ H x y v u Q I rx ry h;obtain⟨z,n,rfl,rfl,hm,q⟩:=h;obtain⟨t,rfl⟩:=rx;obtain⟨t',rfl⟩:=ry;exact SB.mul hm λt'' k=>{.str _,H,I.tok k,{_,rfl},q}
def JB(w:World)(K:Frag)(a:Addr)(kvs:List<|Str×V):Prop:=(a==sysModules)=false/\∃(o:Obj)(es:Array DictEntry)(ep:Nat),K.lookup a=some o/\o.ExactDict/\o.data=.dict es ep/\Paired (λ(e:DictEntry)(kv:Str×V)=>e.hash=hashStr w kv.1/\(∃t,e.key=.str kv.1 t)/\RelV kv.2 e.val) es.toList kvs/\(kvs.map Prod.fst).Nodup
theorem qw(z:Str):∀kvs:List (Str×V),fR (kvs.map λp=>((.inr p.1:Key),p.2)) (.inr z)=kvs.lookup z
 |[]=>rfl
 | (x,v)::r=>by
  rw[zE,zX];by_cases e:z=x;subst e;rw[qk rfl];simp;have e1:(z==x)=false:=by simpa using e
  rw[ql λq=>e (yH q).symm,e1];exact qw z r
section
variable{X:Cx}{pins:List (Addr×Obj)}{σ:St}{H:Hp}{s:Shared}{a:Addr}{kvs:List (Str×V)}
theorem A5(I:Inv X pins σ H s)(d:JB X.w X.K a kvs):(a==sysModules)=false/\∃vs,KV (kvs.map λp=>((.inr p.1:Key),p.2)) vs/\s.heap.DictOf (aF X.prog X.w) a vs:=by
 obtain⟨ns,o,es,ep,hk,hx,hd,hp,hn⟩:=d;have all:∀(es:List DictEntry)(kvs:List (Str×V)),Paired (λ(e:DictEntry)(kv:Str×V)=>e.hash=hashStr X.w kv.1/\(∃t,e.key=.str kv.1 t)/\RelV kv.2 e.val) es kvs->∃vs:List (Key×Value),KV (kvs.map λp=>((.inr p.1:Key),p.2)) vs/\Pairs (aF X.prog X.w) es vs/\vs.map (·.1)=kvs.map (λp=>(.inr p.1:Key))/\∀e∈es,∃k,(aF X.prog X.w).is k e.key=true/\e.hash=(aF X.prog X.w).hash k:=by intro es kvs hp;induction hp with|nil=>exact{[],.nil,.nil,rfl,by simp}|@cons e kv Vu kvs' h t ih=>obtain⟨vs,k1,k2,k3,k4⟩:=ih;obtain⟨h1,⟨tk,h2⟩,h3⟩:=h;have hi:(aF X.prog X.w).is (.inr kv.1) e.key=true:=(by rw[h2];exact iW _ _ _ _);refine{(.inr kv.1,e.val)::vs,.cons ⟨rfl,h3⟩ k1,.cons hi rfl k2,by rw[zE,zE,k3],λe' he=>?_};rcases zf.mp he with rfl|he;exact{.inr kv.1,hi,h1};exact k4 e' he
 obtain⟨vs,k1,k2,k3,k4⟩:=all _ _ hp;refine{ns,vs,k1,o,es,ep,I.lE a o hk,hx,hd,λe he=>k4 e<|by simpa using he,k2,?_};rw[k3];have:(kvs.map λp=>(.inr p.1:Key))=(kvs.map Prod.fst).map Sum.inr:=by rw[zA];rfl
 rw[this];exact List.Pairwise.map _ (λx y h q=>h<|yH q) hn
theorem Hd{w:World}{K:Frag}(hw:X.w=w)(hK:X.K=K):g9 X (compareOp .In) (λx y H Q=>∃z a kvs,x=.str z/\y=.ref a/\JB w K a kvs/\Q (.bl (kvs.lookup z).isSome) H):=by subst hw hK;intro pins s σ H x y v u Q I rx ry h;obtain⟨z,a,kvs,rfl,rfl,d,q⟩:=h;cases ry;obtain⟨ns,vs,rel,dd⟩:=A5 I d;refine wpAny_in_of (kf (k:=.inr z) rx) ns dd.mapOf ?_;rw[<-(rel.val<|.inr z).mV,qw];exact{.bl _,H,I.tok _,rfl,q}
def SE(w:World)(K:Frag):V->List V->Hp->VK->Prop:=λx vs H Q=>∃a z kvs,x=.ref a/\vs=[.str z]/\JB w K a kvs/\Q ((kvs.lookup z).getD .ax) H
theorem KG{w:World}{K:Frag}(hw:X.w=w)(hK:X.K=K):QE X "dict.get" (SE w K):=by subst hw hK;intro pins s σ H x vs v us Q I rx rv h;obtain⟨a,z,kvs,rfl,rfl,d,q⟩:=h;cases rx;obtain⟨u,rfl,ru⟩:=rv.one;obtain⟨ns,vs,rel,dd⟩:=A5 I d;refine call_meetsIn yq dd.typeIs PySem.F.entry_dict_get (PySem.F.args_dict_get_2 _ _) (meets_dict_get (aF X.prog X.w) a (kf (k:=.inr z) ru) ns) {_,dd.mapOf,_,H,I.tok _,?_,q};rw[<-qw];exact(rel.val<|.inr z).getD rfl
theorem He{w:World}{K:Frag}{o e:Expr}{apos aN:Pos}{td ty:TE}(hw:X.w=w)(hK:X.K=K)(ho:PE X o td)(he:PE X e ty)(m:M1 X o "get" apos e aN):PE X (.Call (.Attribute o "get" apos) [e] [] aN) (λσ H Q=>td σ H λx H1=>∃a kvs,x=.ref a/\JB w K a kvs/\ty σ H1 λy H2=>∃z,y=.str z/\Q ((kvs.lookup z).getD .ax) H2):=by subst hw hK;intro pins s σ H Q I h;refine wpAny_Call_method m.base m.FX m.line PySem.F.plainAttrs_dict yq PySem.F.type_dict_get<|bf (ho pins s σ H _ I h) λu s1 ⟨x,H1,I1,rx,a,kvs,ex,d,q1⟩=>?_;subst ex;obtain rfl:u=Value.ref a:=rx;obtain⟨ns,vs,rel,dd⟩:=A5 I1 d;obtain⟨ob,_,_,h1,h2,_⟩:=id dd;refine{dd.typeIs,λb q=>by cases q;exact⟨ob,h1,h2.2.1⟩,?_};rw[m.trees];refine Calls.callWith_builtin rfl<|Calls.evalArgs_plain<|yy<|bf (he pins s1 σ H1 _ I1 q1) λiv s2 ⟨y,H2,I2,ry,z,ey,q2⟩=>Calls.spliced_nil ?_;subst ey;exact KG rfl rfl pins s2 σ H2 (.ref a) [.str z] _ [iv] Q I2 rfl (.cons ry .nil) ⟨a,z,kvs,rfl,rfl,d,q2⟩
end
theorem Hf:bootBuiltins "min"= some (.builtin "min"):=by trivial
def ZS3(n l0 l1 l2:Nat)(i:Nat)(h:Heap):Prop:=IsZip h (n+5) (n+3) (n+4) .none/\lT h (n+3) #[.ref n,.ref<|n+1,.ref<|n+2]/\(∃arr:Array Value,arr.size=3/\lT h (n+4) arr)/\h.IsTupleIter n l0 i/\h.IsTupleIter (n+1) l1 i/\h.IsTupleIter (n+2) l2 i
noncomputable abbrev KH(h:Heap)(l0:Addr):Heap:=(h).push {cls:=.type "tuple_iterator",data:=.fields #[.ref l0,.int 0 0]}
noncomputable abbrev KJ(h:Heap)(l0 l1:Addr):Heap:=(KH h l0).push {cls:=.type "tuple_iterator",data:=.fields #[.ref l1,.int 0 0]}
noncomputable abbrev KL(h:Heap)(l0 l1 l2:Addr):Heap:=(KJ h l0 l1).push {cls:=.type "tuple_iterator",data:=.fields #[.ref l2,.int 0 0]}
noncomputable abbrev KN(h:Heap)(l0 l1 l2:Addr):Heap:=(KL h l0 l1 l2).push {cls:=.type "tuple",data:=.seq #[.ref h.objs.size,.ref (KH h l0).objs.size,.ref (KJ h l0 l1).objs.size]}
noncomputable abbrev KO(h:Heap)(l0 l1 l2:Addr):Heap:=(KN h l0 l1 l2).push {cls:=.type "tuple",data:=.seq #[.none,.none,.none]}
noncomputable abbrev xi(h:Heap)(l0 l1 l2:Addr):Heap:=(KO h l0 l1 l2).push {cls:=.type "zip",data:=.fields #[.none,.bool false,.bool false,.ref (KL h l0 l1 l2).objs.size,.ref (KN h l0 l1 l2).objs.size]}
theorem A6(l0 l1 l2:Addr)(AX AY QL:Array Value):Meets (Builtin.«zip.__new__» {[.type "zip",.ref l0,.ref l1,.ref l2],[]}) (λ_ R s=>s.heap.IsTuple l0 AX/\s.heap.IsTuple l1 AY/\s.heap.IsTuple l2 QL/\R (.ok<|.ret<|.ref (KO s.heap l0 l1 l2).objs.size) {s with heap:=xi s.heap l0 l1 l2}):=.of_wp λprog w A R s h=>by obtain⟨hp,g,d,tk,os⟩:=s;obtain⟨t0,t1,t2,h⟩:=h;have OB:=sub_zip;have L0:Heap.IsTuple (Shared.heap ⟨hp,g,d,tk,os⟩) l0 AX:=t0;have L1:Heap.IsTuple (Shared.heap {hp.push {cls:=.type "tuple_iterator",data:=.fields #[.ref l0,.int 0 0]},g,d,tk,os}) l1 AY:=Heap.IsTuple.push (t1) _;have L2:Heap.IsTuple (Shared.heap {(hp.push {cls:=.type "tuple_iterator",data:=.fields #[.ref l0,.int 0 0]}).push {cls:=.type "tuple_iterator",data:=.fields #[.ref l1,.int 0 0]},g,d,tk,os}) l2 QL:=Heap.IsTuple.push (Heap.IsTuple.push (t2) _) _;wp_walk using wpAny_pyIter_tuple L0,wpAny_pyIter_tuple L1,wpAny_pyIter_tuple L2;exact{_,rfl,h}
theorem A7(a0 a1 a2:Value):checkTypeCall "zip" {[a0,a1,a2],[]}=pure ():=by kernel_rfl
theorem A8(a0 a1 a2:Value):checkBuiltinCall "zip.__new__" {[.type "zip",a0,a1,a2],[]}=pure ():=by kernel_rfl
theorem ON(x a0 a1 a2:Value):argsOk "object.__init__" {[x,a0,a1,a2],[]}:=by unfold argsOk;rw[signature?_of (id:="object.__init__") (n:=['_','_','t','i','n','i','_','_']) (o:=['t','c','e','j','b','o']) (by kernel_rfl) F.owner_object];kernel_rfl
theorem A9(t0:s.heap.IsTuple l0 AX)(t1:s.heap.IsTuple l1 AY)(t2:s.heap.IsTuple l2 QL) (h:∀h',ZS3 s.heap.objs.size l0 l1 l2 0 h'->(∀c o,s.heap.get? c=some o->h'.get? c=some o)->Q (.ref<|s.heap.objs.size+5) {s with heap:=h'}):wpAny (model prog w) A (call (.type "zip") [.ref l0,.ref l1,.ref l2]) Q E s:=by
 refine callType_new F.called_zip (by decide) (A7 _ _ _) (A8 _ _ _) (λobj=>ON obj _ _ _) F.entry_zip_new (A6 l0 l1 l2 AX AY QL) {t0,t1,t2,?_};have z1:(KH s.heap l0).objs.size=s.heap.objs.size+1:=zV ..;have z2:(KJ s.heap l0 l1).objs.size=s.heap.objs.size+2:=by rw[zV,z1]
 have z3:(KL s.heap l0 l1 l2).objs.size=s.heap.objs.size+3:=by rw[zV,z2]
 have z4:(KN s.heap l0 l1 l2).objs.size=s.heap.objs.size+4:=by rw[zV,z3]
 have z5:(KO s.heap l0 l1 l2).objs.size=s.heap.objs.size+5:=by rw[zV,z4]
 have z6:(xi s.heap l0 l1 l2).objs.size=s.heap.objs.size+6:=by rw[zV,z5]
 have g0:(xi s.heap l0 l1 l2).get? (s.heap).objs.size=some _:=za _<|za _<|za _<|za _<|za _<|zj _ rfl;have g1:(xi s.heap l0 l1 l2).get? (KH s.heap l0).objs.size=some _:=za _<|za _<|za _<|za _<|zj _ rfl;have g2:(xi s.heap l0 l1 l2).get? (KJ s.heap l0 l1).objs.size=some _:=za _<|za _<|za _<|zj _ rfl;have g3:(xi s.heap l0 l1 l2).get? (KL s.heap l0 l1 l2).objs.size=some _:=za _<|za _<|zj _ rfl;have g4:(xi s.heap l0 l1 l2).get? (KN s.heap l0 l1 l2).objs.size=some _:=za _<|zj _ rfl;have g5:(xi s.heap l0 l1 l2).get? (KO s.heap l0 l1 l2).objs.size=some _:=zj _ rfl;show _/\_;rw[z3,z4,z5]at g5;rw[z4]at g4;rw[z1,z2,z3]at g3;rw[z1]at g1;rw[z2]at g2;rw[z5];exact{{_,g5,rfl},h _ {g5,g3,{_,rfl,g4},{_,g0,rfl,rfl},{_,g1,rfl,rfl},{_,g2,rfl,rfl}} λc o x=>za _<|za _<|za _<|za _<|za _<|za _ x}
theorem Vals.three(h:Vals [x,y,z] us):∃u v w,us=[u,v,w]/\RelV x u/\RelV y v/\RelV z w:=by cases h with|cons r h=>cases h with|cons q h=>cases h with|cons p h=>cases h;exact{_,_,_,rfl,r,q,p}
section
variable{X:Cx}
def KP:V->List V->Hp->VK->Prop:=λx vs H Q=>∃z y,x=.str z/\vs=[.str y]/\Q (.bl<|PySem.Txt.startswith z y) H
theorem sI:QE X "str.startswith" KP:=by intro pins s σ H x vs v us Q I rx rv h;obtain⟨z,y,rfl,rfl,q⟩:=h;obtain⟨t,rfl⟩:=rx;obtain⟨u,rfl,ru⟩:=rv.one;obtain⟨t',rfl⟩:=ru;exact PySem.SC.startswith {.bl _,H,I,rfl,q}
end
theorem A_:∀l:List α,(List.range l.length).filterMap (λk=>l[k]?)=l:=by
 intro l;have h:∀n,n<=l.length->(List.range n).filterMap (λk=>l[k]?)=l.take n:=by intro n;induction n with|zero=>intro _;rfl|succ n ih=>intro hn;have dW:n<l.length:=(by lia);rw[List.range_succ,List.filterMap_append,ih<|by lia,List.take_add_one,zg dW];simp[dW]
 rw[h _<|zk _,List.take_length]
theorem xj:∀{l:List α},(∀x∈l,f x=g x)->l.filterMap f=l.filterMap g|[],_=>rfl|a::l,h=>by rw[List.filterMap_cons,List.filterMap_cons,h a zp,xj λx hx=>h x<|zi _ hx]
theorem sJ(ay:List Value):slicePick ay.toArray none none (some (-1))=ay.reverse.toArray:=by
 unfold slicePick sliceBounds sliceRange;have e0:((some (-1:Int)).getD 1) = -1:=rfl;simp only[e0,zm,show ¬((-1:Int)>0) by decide,if_false];have ec:(if ((ay.length:Int)-1) > -1 then (((ay.length:Int)-1) - -1 - -1-1)/(- -1) else 0).toNat=ay.length:=by split;{first|(simp;done)|(simp;lia)};lia
 rw[ec];congr 1;rw[List.filterMap_map];have e2:=A_ ay.reverse;rw[yg]at e2;conv=>rhs;rw[<-e2]
 refine xj λk hk=>?_;have hk:k<ay.length:=zN.mp hk;show ay.toArray[((ay.length:Int)-1 + -1*(k:Int)).toNat]?=ay.reverse[k]?;have e3:((ay.length:Int)-1 + -1*(k:Int)).toNat=ay.length-1-k:=by lia
 rw[e3,List.getElem?_reverse hk];simp
def Xw(K:Frag):V->Hp->VK->Prop:=λx H Q=>∃a xs,x=.ref a/\iU K H a xs/\∀p,H p=none->Q (.ref p) (upd H p<|.lst xs.reverse)
theorem OO{X:Cx}{K:Frag}{e st:Expr}{te:TE}{p2 pos:Pos}(hK:X.K=K)(he:PE X e te){tst:TO}(og:PO X (some st) tst)(hv:∀σ H (R:Option Int->Hp->Prop),R (some (-1)) H->tst σ H R):PE X (.Subscript e (.Slice none none (some st) p2) pos) (λσ H Q=>te σ H λx H1=>Xw K x H1 Q):=by
 subst hK;intro pins s σ H Q I h;refine Subscript_<|bf (he pins s σ H _ I h) λv s1 ⟨x,H1,I1,r1,q1⟩=>?_;refine wpAny_Slice ?_;rw[evalPart_none];refine zu ?_;refine zu ?_;refine bf (og pins s1 σ H1 (λo H2=>o=some (-1)/\H2=H1) I1<|hv _ _ _ ⟨rfl,rfl⟩) λvs s3 ⟨o,H3,I3,ps,eo,eH⟩=>?_;subst eo eH;obtain⟨a,xs,rfl,hx,q⟩:=q1;cases r1;have I4:Inv X pins σ H3 {s3 with heap:=s3.heap.push {cls:=.type "slice",data:=.fields #[.none,.none,vs]}}:=I3.kept (t':=s3.toks) λb ob q=>za _ q;obtain⟨ay,r,ht,hz⟩:=I4.list hx;have hlen:=r.length;have hg:wpAny (model X.prog X.w) X.A (getItem (.ref a)<|.ref s3.heap.objs.size) (EP X pins σ Q) X.xe {s3 with heap:=s3.heap.push {cls:=.type "slice",data:=.fields #[.none,.none,vs]}}:=by refine wpAny_getItem_list_slice ht.isList (Heap.IsSliceOf.new ..) .none .none ps (by simp) ?_ (by rw[zm]<;>lia);rw[sJ];refine{.ref _,_,I4.laid (t':=s3.toks) (o:=.lst xs.reverse) (λb ob q=>za _ q) (zk _) ?_,rfl,q _<|I4.aH.fresh<|zk _};exact{by rw[yg];exact hz,_,0,r.reverse,zj _ rfl}
 exact tail_any (ops:=[.ref a,.ref s3.heap.objs.size]) ht.isList.typeIs slot_list_getitem.lookup hg<|by with_unfolding_all rfl
end L2
namespace L2
open PySem PySem.Spec PyProof.Rows PySem.SeqAt
end L2
namespace L2
open PySem PySem.Spec PyProof.Rows
theorem uU(l:Addr)(items:Array Value)(n:Nat)(b:Addr)(qx:Array Value)(n2:Nat)(sl:Array<|Option Value)(QM:¬(!items.isEmpty&&Builtin.List.listTooLong (items.size+qx.size))=true)(hs1:items.size<=sizeLine)(wQ:items.size+qx.size<=sizeLine+1): Meets (Builtin.«list.extend» {[.ref l,.ref b],[]}) (λ_ R s=>s.heap.get? l=some {cls:=.type "list",dict:=none,data:=.seq items n,slots:=#[]}/\s.heap.get? b=some {cls:=.type "tuple",dict:=none,data:=.seq qx n2,slots:=sl}/\R (.ok<|.ret Value.none) {s with heap:=s.heap.update l<|Obj.mapSeq λx=>x++qx,toks:=s.toks}):=.of_wp λprog w A R s h=>by
 obtain⟨hp,g,d,tk,os⟩:=s;obtain⟨hl,hb,h⟩:=h;have f1:=AutoSeq1.idx_int;have f2:=AutoSeq1.sub_tuple_tuple;have f3:=AutoSeq1.sub_list_list;have f4:=AutoSeq1.sub_tuple_list;have f5:=AutoSeq1.sub_list_tuple;have Xx:(items++qx).size<=sizeLine+1:=by rw[Array.size_append];exact wQ
 wp_walk using (wpAny_updateSeq hl rfl (hz:=hs1) (_hz':=Xx)),AutoSeq1.wpAny_loadPart' hl,AutoSeq1.wpAny_loadPart' hb;exact{_,rfl,h}
section
variable{X:Cx}{K:Frag}
def Hg:V->List V->Hp->VK->Prop:=λx vs H Q=>∃l b xs zs,x=.ref l/\vs=[.ref b]/\H l=some (.lst xs)/\H b=some (.tup zs)/\xs.length+zs.length<=sizeLine/\Q .ax (upd H l<|.lst<|xs++zs)
theorem Ba:W0 X "list.extend" Hg:=by
 intro pins s σ H x vs v us Q I rx rv h;obtain⟨l,b,xs,zs,rfl,rfl,hH,hB,hz,q⟩:=h;cases rx;obtain⟨u,rfl,ru⟩:=rv.one;cases ru;obtain⟨z,ay,n,r,hl,e⟩:=I.GN hH;obtain⟨z2,sA,r2,⟨c2,d2,dt2,Mv⟩,e2,ec,ed,n2,en⟩:=(show ba X.prog X.w H s.heap b (.tup zs) from I.aH b _ hB);dsimp only at ec ed en;subst ec ed en;have wD:=r2.length;have hsz:ay.toArray.size+sA.toArray.size<=sizeLine:=by rw[zm,zm];lia
 have SF:¬(!ay.toArray.isEmpty&&Builtin.List.listTooLong (ay.toArray.size+sA.toArray.size))=true:=by rw[GO hsz,Bool.and_false];exact zd
 refine call_meets F.slot_list_extend {_,e,rfl} F.entry_list_extend (F.args_list_extend_2 _ _) (uU l ay.toArray n b sA.toArray n2 Mv SF (by rw[zm];lia)<|by lia) {e,e2,?_};refine{.ax,_,I.N9 (its':=ay++sA) hH e (by simp) (r.append r2) ?_,rfl,q};rw[zG];lia
theorem sL(hK:X.K=K):cS X (.builtin "isinstance") (λxs H Q=>∃a C b cs r,xs=[.ref a,.ref b]/\H a=some (sE a<|.ref C)/\XC K C/\XA K C/\H b=some (.tup cs)/\(∀ay,Vals cs ay->kitAny K (.ref C) ay=some r)/\Q (.bl r) H):=by subst hK;intro pins s σ H xs us Q I r h;obtain⟨a,C,b,cs,r',rfl,ha,cC,xa,hb,e,q⟩:=h;obtain⟨v,w',rfl,rv,pe⟩:=vals2 r;cases (show v=Value.ref a from rv);cases (show w'=Value.ref b from pe);obtain⟨p,_⟩:=I.aH a _ ha;obtain⟨z2,sA,r2,⟨c2,d2,dt2,Mv⟩,e2,ec,ed,n2,en⟩:=(show ba X.prog X.w H s.heap b (.tup cs) from I.aH b _ hb);dsimp only at ec ed en;subst ec ed en;exact PySem.W.kia_tup (xc cC xa) I.lE p e2 (e _ r2) (λz=>nomatch z) λtk=>{.bl r',H,I.tok tk,rfl,q}
end
def JC(n l:Nat)(i:Nat)(h:Heap):Prop:=(∃old,IsEnum h (n+1) n (i:Int) old)/\h.IsListIter n l i
set_option genInjectivity true in
set_option genSizeOfSpec true in
inductive D where
 |ax|bl (b:Bool)|int (i:Int)|str (x:Str)|tup (ds:List D)|iM (ds:List D)|kt (ds:List D)|ref (a:Addr)|ty (n:String)
def Xy(K:Frag)(a:Addr)(xs:List V):Prop:=∃(o:Obj)(ay:Array Value)(n:Nat),K.lookup a=some o/\o.cls=.type "tuple"/\o.data=.seq ay n/\ay.size<=sizeLine/\Vals xs ay.toList
def MB(K:Frag)(H:Hp)(a:Addr)(xs:List V):Prop:=(∃o,H a=some (.kI o<|.lst xs))\/∃(o:Obj)(ay:Array Value)(n:Nat),K.lookup a=some o/\o.cls=.type "list"/\o.dict=none/\o.data=.seq ay n/\ay.size<=sizeLine/\Vals xs ay.toList
theorem MB.sq{K:Frag}{H:Hp}{a:Addr}{xs:List V}(h:MB K H a xs):iU K H a xs:=by rcases h with h|h;exact .inl<|.inr h;exact .inr h
structure Kp(K:Frag)(H H':Hp):Prop where
 t:∀a xs,H a=some (.tup xs)->H' a=some (.tup xs)
 r:∀a xs,MB K H a xs->MB K H' a xs
 f:∀a o u,H a=some (.kI o u)->H' a=some (.kI o u)
theorem Kp.refl{K:Frag}(H:Hp):Kp K H H:={λ_ _ h=>h,λ_ _ h=>h,λ_ _ _ h=>h}
theorem Kp.trans{K:Frag}{H H1 H2:Hp}(a:Kp K H H1)(b:Kp K H1 H2):Kp K H H2:={λp xs h=>b.t p xs<|a.t p xs h,λp xs h=>b.r p xs<|a.r p xs h,λp o u h=>b.f p o u<|a.f p o u h}
theorem Kp.of{K:Frag}{H H':Hp}(h:∀b o,H b=some o->H' b=some o\/(∀xs,o≠.tup xs)/\∀u v,o≠.kI u v):Kp K H H' where
 t:=λa xs q=>(h _ _ q).resolve_right λz=>z.1 _ rfl
 r:=λa xs q=>by
  rcases q with⟨o,q⟩|q
  ·exact .inl {o,(h _ _ q).resolve_right λz=>z.2 _ _ rfl}
  ·exact .inr q
 f:=λa o u q=>(h _ _ q).resolve_right λz=>z.2 _ _ rfl
theorem Kp.new{K:Frag}{H:Hp}{a:Addr}{o:HO}(h:H a=none):Kp K H (upd H a o):=.of λb u e=>.inl<|by rw[au<|az e h];exact e
theorem Kp.put{K:Frag}{H:Hp}{a:Addr}{o u:HO}(h:H a=some o)(h1:∀xs,o≠.tup xs)(h2:∀u v,o≠.kI u v):Kp K H (upd H a u):=.of λb v e=>by by_cases q:b=a;subst q;rw[h]at e;cases e;exact .inr ⟨h1,h2⟩;exact .inl<|by rw[au q];exact e
mutual
def Rv(K:Frag)(H:Hp):D->V->Prop|.ax,v=>v=.ax|.bl b,v=>v=.bl b|.int i,v=>v=.int i|.str z,v=>v=.str z|.tup ds,v=>∃a xs,v=.ref a/\H a=some (.tup xs)/\RvAll K H ds xs|.iM ds,v=>∃a xs,v=.ref a/\MB K H a xs/\RvAll K H ds xs|.kt ds,v=>∃a xs,v=.ref a/\Xy K a xs/\RvAll K H ds xs|.ref a,v=>v=.ref a|.ty n,v=>v=.ty n
def RvAll(K:Frag)(H:Hp):List D->List V->Prop|[],xs=>xs=[]|d::ds,xs=>∃y ys,xs=y::ys/\Rv K H d y/\RvAll K H ds ys
end
section
variable{K:Frag}{H H':Hp}
theorem i6:Rv K H .ax .ax:=by simp only[Rv]
theorem bC(b:Bool):Rv K H (.bl b) (.bl b):=by simp only[Rv]
theorem aL(i:Int):Rv K H (.int i) (.int i):=by simp only[Rv]
theorem i7(z:Str):Rv K H (.str z) (.str z):=by simp only[Rv]
theorem fi(a:Addr):Rv K H (.ref a) (.ref a):=by simp only[Rv]
theorem SG(n:String):Rv K H (.ty n) (.ty n):=by simp only[Rv]
theorem MC(h:Xy K a xs)(t:RvAll K H ds xs):Rv K H (.kt ds) (.ref a):=by simp only[Rv];exact⟨a,xs,rfl,h,t⟩
theorem mY(h:H a=some (.tup xs))(t:RvAll K H ds xs):Rv K H (.tup ds) (.ref a):=by simp only[Rv];exact⟨a,xs,rfl,h,t⟩
theorem Hh(h:MB K H a xs)(t:RvAll K H ds xs):Rv K H (.iM ds) (.ref a):=by simp only[Rv];exact⟨a,xs,rfl,h,t⟩
theorem Rv.ax(h:Rv K H .ax v):v=.ax:=by simpa only[Rv]using h
theorem Rv.bl(h:Rv K H (.bl b) v):v=.bl b:=by simpa only[Rv]using h
theorem Rv.int(h:Rv K H (.int i) v):v=.int i:=by simpa only[Rv]using h
theorem Rv.str(h:Rv K H (.str z) v):v=.str z:=by simpa only[Rv]using h
theorem Rv.ref(h:Rv K H (.ref a) v):v=.ref a:=by simpa only[Rv]using h
theorem Rv.ty(h:Rv K H (.ty n) v):v=.ty n:=by simpa only[Rv]using h
theorem Rv.kt(h:Rv K H (.kt ds) v):∃a xs,v=.ref a/\Xy K a xs/\RvAll K H ds xs:=by simpa only[Rv]using h
theorem Rv.tup(h:Rv K H (.tup ds) v):∃a xs,v=.ref a/\H a=some (.tup xs)/\RvAll K H ds xs:=by simpa only[Rv]using h
theorem Rv.iM(h:Rv K H (.iM ds) v):∃a xs,v=.ref a/\MB K H a xs/\RvAll K H ds xs:=by simpa only[Rv]using h
theorem bq:RvAll K H [] []:=by simp only[RvAll]
theorem aO(h:Rv K H d x)(t:RvAll K H ds xs):RvAll K H (d::ds) (x::xs):=by simp only[RvAll];exact⟨x,xs,rfl,h,t⟩
theorem RvAll.nil(h:RvAll K H [] xs):xs=[]:=by simpa only[RvAll]using h
theorem RvAll.cons(h:RvAll K H (d::ds) xs):∃y ys,xs=y::ys/\Rv K H d y/\RvAll K H ds ys:=by simpa only[RvAll]using h
mutual
theorem Rv.ts(s:Kp K H H'):∀(d:D){v:V},Rv K H d v->Rv K H' d v|.ax,v,h=>by simpa only[Rv]using h|.bl b,v,h=>by simpa only[Rv]using h|.int i,v,h=>by simpa only[Rv]using h|.str z,v,h=>by simpa only[Rv]using h|.tup ds,v,h=>(by obtain⟨a,xs,rfl,e,t⟩:=h.tup;exact mY (s.t _ _ e)<|RvAll.ts s ds t)|.iM ds,v,h=>(by obtain⟨a,xs,rfl,e,t⟩:=h.iM;exact Hh (s.r _ _ e)<|RvAll.ts s ds t)|.kt ds,v,h=>(by obtain⟨a,xs,rfl,e,t⟩:=h.kt;exact MC e<|RvAll.ts s ds t)|.ref a,v,h=>by simpa only[Rv]using h|.ty n,v,h=>by simpa only[Rv]using h
theorem RvAll.ts(s:Kp K H H'):∀(ds:List D){xs:List V},RvAll K H ds xs->RvAll K H' ds xs|[],xs,h=>by rw[h.nil];exact bq|d::ds,xs,h=>by obtain⟨y,ys,rfl,h1,h2⟩:=h.cons;exact aO (Rv.ts s d h1)<|RvAll.ts s ds h2
end
theorem RvAll.len:∀{ds:List D}{xs:List V},RvAll K H ds xs->xs.length=ds.length|[],xs,h=>by rw[h.nil];rfl|d::ds,xs,h=>by obtain⟨y,ys,rfl,_,h2⟩:=h.cons;rw[zO,zO,h2.len]
theorem RvAll.get:∀{ds:List D}{xs:List V}{i:Nat}{d:D},RvAll K H ds xs->ds[i]?=some d->∃v,xs[i]?=some v/\Rv K H d v|[],xs,i,d,h,e=>by simp at e|d0::ds,xs,0,d,h,e=>(by obtain⟨y,ys,rfl,h1,h2⟩:=h.cons;simp at e;subst e;exact⟨y,rfl,h1⟩)|d0::ds,xs,i+1,d,h,e=>by obtain⟨y,ys,rfl,h1,h2⟩:=h.cons;obtain⟨v,e1,e2⟩:=h2.get (i:=i) (by simpa using e);exact{v,by simpa using e1,e2}
theorem RvAll.app:∀{ds es:List D}{xs ys:List V},RvAll K H ds xs->RvAll K H es ys->RvAll K H (ds++es) (xs++ys)|[],es,xs,ys,h,k=>by rw[h.nil];exact k|d::ds,es,xs,ys,h,k=>by obtain⟨y,zs,rfl,h1,h2⟩:=h.cons;exact aO h1<|h2.app k
theorem RvAll.take:∀{ds:List D}{xs:List V}(n:Nat),RvAll K H ds xs->RvAll K H (ds.take n) (xs.take n)|[],xs,n,h=>by rw[h.nil];simp only[List.take_nil];exact bq|d::ds,xs,0,h=>by simp only[List.take_zero];exact bq|d::ds,xs,n+1,h=>by obtain⟨y,zs,rfl,h1,h2⟩:=h.cons;exact aO h1<|h2.take n
theorem RvAll.drop:∀{ds:List D}{xs:List V}(n:Nat),RvAll K H ds xs->RvAll K H (ds.drop n) (xs.drop n)|[],xs,n,h=>by rw[h.nil];simp only[List.drop_nil];exact bq|d::ds,xs,0,h=>h|d::ds,xs,n+1,h=>by obtain⟨y,zs,rfl,h1,h2⟩:=h.cons;exact h2.drop n
theorem RvAll.set:∀{ds:List D}{xs:List V}{d:D}{v:V}(n:Nat),RvAll K H ds xs->Rv K H d v->RvAll K H (ds.set n d) (xs.set n v)|[],xs,d,v,n,h,r=>by rw[h.nil];exact bq|d0::ds,xs,d,v,0,h,r=>(by obtain⟨y,zs,rfl,h1,h2⟩:=h.cons;exact aO r h2)|d0::ds,xs,d,v,n+1,h,r=>by obtain⟨y,zs,rfl,h1,h2⟩:=h.cons;exact aO h1<|h2.set n r
theorem RvAll.dropLast:∀{ds:List D}{xs:List V},RvAll K H ds xs->RvAll K H ds.dropLast xs.dropLast|[],xs,h=>by rw[h.nil];exact bq|[d],xs,h=>(by obtain⟨y,zs,rfl,h1,h2⟩:=h.cons;rw[h2.nil];exact bq)|d::e::ds,xs,h=>by obtain⟨y,zs,rfl,h1,h2⟩:=h.cons;obtain⟨y2,zs2,rfl,h3,h4⟩:=id h2.cons;exact aO h1<|RvAll.dropLast h2
theorem RvAll.rev:∀{ds:List D}{xs:List V},RvAll K H ds xs->RvAll K H ds.reverse xs.reverse|[],xs,h=>by rw[h.nil];exact bq|d::ds,xs,h=>by obtain⟨y,zs,rfl,h1,h2⟩:=h.cons;rw[List.reverse_cons,List.reverse_cons];exact h2.rev.app<|aO h1 bq
theorem RvAll.bools:∀{bs:List Bool}{xs:List V},RvAll K H (bs.map D.bl) xs->xs=bs.map V.bl|[],xs,h=>h.nil|b::bs,xs,h=>by obtain⟨y,ys,rfl,h1,h2⟩:=h.cons;rw[h1.bl,h2.bools];rfl
theorem RvAll.ints:∀{bs:List Int}{xs:List V},RvAll K H (bs.map D.int) xs->xs=bs.map V.int|[],xs,h=>h.nil|b::bs,xs,h=>by obtain⟨y,ys,rfl,h1,h2⟩:=h.cons;rw[h1.int,h2.ints];rfl
theorem RvAll.strs:∀{bs:List Str}{xs:List V},RvAll K H (bs.map D.str) xs->xs=bs.map V.str|[],xs,h=>h.nil|b::bs,xs,h=>by obtain⟨y,ys,rfl,h1,h2⟩:=h.cons;rw[h1.str,h2.strs];rfl
theorem CM:∀(bs:List Int),RvAll K H (bs.map D.int) (bs.map V.int)|[]=>bq|b::bs=>aO (aL b)<|CM bs
theorem uV:∀(bs:List Str),RvAll K H (bs.map D.str) (bs.map V.str)|[]=>bq|b::bs=>aO (i7 b)<|uV bs
def bO{κ:Type}(K:Frag)(H:Hp):List (κ×D)->List (κ×V)->Prop:=Paired λp q=>p.1=q.1/\Rv K H p.2 q.2
theorem bO.ts(s:Kp K H H'):∀{ks:List (κ×D)}{vs:List (κ×V)},bO K H ks vs->bO K H' ks vs|_,_,.nil=>.nil|_,_,.cons r t=>.cons {r.1,Rv.ts s _ r.2}<|bO.ts s t
theorem bO.look(h:bO K H ks vs)(f:Str):(∀d,ks.lookup f=some d->∃v,vs.lookup f=some v/\Rv K H d v)/\(ks.lookup f=none->vs.lookup f=none):=by induction h with|nil=>(exact{λd e=>(by cases e),λ_=>rfl})|@cons a b l m r t ih=>obtain⟨k,d⟩:=a;obtain⟨k',v⟩:=b;obtain⟨rfl,r⟩:=r;simp only[zX];cases q:f==k with|true=>(exact{λd' e=>{v,rfl,(by cases e;exact r)},λe=>(by cases e)})|false=>exact ih
end
set_option genInjectivity true in
set_option genSizeOfSpec true in
inductive Ce where
 |lst (ds:List D)|cA (kvs:List<|Key×D)|ins (c:Addr) (fs:List<|Str×D)|well|exc (c:Addr)|tab (q:Str)
def CO(H:Hp)(q:Str)(ps:Array Value):Prop:=TriplesOk ps.toList/\∀pos cv,codeAmong pos ps.toList=some cv->∃c o vs t,cv=.ref c/\H c=some (.kI o<|.own 0)/\o.data=.fields vs/\vs[1]?=some (.str q t)
abbrev av:=Addr->Option Ce
noncomputable def av.set(S:av)(a:Addr)(c:Ce):av:=λb=>if b=a then some c else S b
theorem aa{S:av}{a:Addr}{c:Ce} : S.set a c a=some c:=by unfold av.set;rw[if_pos rfl]
theorem ag{S:av}{a b:Addr}{c:Ce}(h:b≠a):S.set a c b=S b:=by unfold av.set;rw[if_neg h]
theorem dX{S:av}{a:Addr}{c e:Ce} : (S.set a c).set a e=S.set a e:=by funext b;unfold av.set;split<;>rfl
theorem g6{S:av}{a b:Addr}{c:Ce}(h:S a=some c)(h':S b=none):a≠b:=by intro e;subst e;rw[h]at h';cases h'
def Rc(K:Frag)(H:Hp)(a:Addr):Ce->Prop|.lst ds=>∃xs,H a=some (.lst xs)/\RvAll K H ds xs|.cA kvs=>∃vs,H a=some (.dK vs)/\bO K H kvs vs|.ins c fs=>∃dx vs,H a=some (.ins c dx vs)/\bO K H fs vs|.well=>∃x y z:Int,H a=some (.lst [.int x,.int y,.int z])|.exc c=>H a=some (sE a<|.ref c)|.tab q=>∃ps,H a=some (.pJ ps)/\CO H q ps
def Rs(K:Frag)(S:av)(H:Hp):Prop:=∀a c,S a=some c->Rc K H a c
section
variable{K:Frag}{H H':Hp}{S:av}{a b:Addr}{c:Ce}
theorem Rc.has(h:Rc K H a c):∃o,H a=some o/\(∀xs,o≠.tup xs)/\∀u v,o≠.kI u v:=by cases c with|lst ds=>(obtain⟨xs,e,_⟩:=h;exact{_,e,λ_=>nofun,λ_ _=>nofun})|cA ds=>(obtain⟨xs,e,_⟩:=h;exact{_,e,λ_=>nofun,λ_ _=>nofun})|ins c fs=>(obtain⟨dx,vs,e,_⟩:=h;exact{_,e,λ_=>nofun,λ_ _=>nofun})|well=>(obtain⟨x,y,z,e⟩:=h;exact{_,e,λ_=>nofun,λ_ _=>nofun})|exc c=>exact{_,h,λ_=>nofun,λ_ _=>nofun}|tab q=>obtain⟨ps,e,_⟩:=h;exact{_,e,λ_=>nofun,λ_ _=>nofun}
theorem Rc.keep(h:Rc K H a c)(e:∀o,H a=some o->H' a=some o)(s:Kp K H H'):Rc K H' a c:=by cases c with|lst ds=>(obtain⟨xs,e1,r⟩:=h;exact{xs,e _ e1,RvAll.ts s _ r})|cA ds=>(obtain⟨xs,e1,r⟩:=h;exact{xs,e _ e1,r.ts s})|ins c fs=>(obtain⟨dx,vs,e1,r⟩:=h;exact{dx,vs,e _ e1,r.ts s})|well=>(obtain⟨x,y,z,e1⟩:=h;exact{x,y,z,e _ e1})|exc c=>exact e _ h|tab q=>obtain⟨ps,e1,r,r2⟩:=h;exact{ps,e _ e1,r,λpos cv z=>by obtain⟨c,o,vs,t,z1,z2,z3⟩:=r2 pos cv z;exact{c,o,vs,t,z1,s.f _ _ _ z2,z3}}
theorem Rs.fresh(h:Rs K S H)(e:H a=none):S a=none:=by cases q:S a with|none=>rfl|some c=>obtain⟨o,e1,_⟩:=(h a c q).has;rw[e]at e1;cases e1
theorem Rs.new(h:Rs K S H)(e:H a=none){o:HO}(r:Rc K (upd H a o) a c):Rs K (S.set a c) (upd H a o):=λb x hb=>by by_cases q:b=a;subst q;rw[aa]at hb;cases hb;exact r;rw[ag q]at hb;exact(h b x hb).keep (λo e1=>by rw[au q];exact e1)<|Kp.new e
theorem Rs.grow(h:Rs K S H)(e:H a=none):Rs K S (upd H a o):=λb x hb=>by obtain⟨u,e1,_⟩:=(h b x hb).has;have q:b≠a:=az e1 e;exact(h b x hb).keep (λo e1=>by rw[au q];exact e1)<|Kp.new e
theorem Rs.hG(h:Rs K S H)(ha:S a=some e):Kp K H (upd H a o):=by obtain⟨u,e1,n1,n2⟩:=(h a e ha).has;exact Kp.put e1 n1 n2
theorem Rs.put(h:Rs K S H){e:Ce}(ha:S a=some e){o:HO}(r:Rc K (upd H a o) a c):Rs K (S.set a c) (upd H a o):=λb x hb=>by by_cases q:b=a;subst q;rw[aa]at hb;cases hb;exact r;rw[ag q]at hb;exact(h b x hb).keep (λo e1=>by rw[au q];exact e1)<|h.hG ha
theorem Rs.lst(h:Rs K S H)(e:S a=some (.lst ds)):∃xs,H a=some (.lst xs)/\RvAll K H ds xs:=h a _ e
theorem Rs.cA(h:Rs K S H)(e:S a=some (.cA ds)):∃xs,H a=some (.dK xs)/\bO K H ds xs:=h a _ e
theorem Rs.ins{c:Addr}{fs:List<|Str×D}(h:Rs K S H)(e:S a=some (.ins c fs)):∃dx vs,H a=some (.ins c dx vs)/\bO K H fs vs:=h a _ e
end
abbrev KD:=D->av->Prop
abbrev KX:=Addr->av->Prop
abbrev SD:=List<|Option D
def fS(K:Frag)(H:Hp):SD->St->Prop:=Paired λ(o:Option D)(u:Option V)=>∀d,o=some d->∃v,u=some v/\Rv K H d v
section
variable{K:Frag}{H H':Hp}
theorem fS.ts(s:Kp K H H'):∀{σ:SD}{τ:St},fS K H σ τ->fS K H' σ τ|_,_,.nil=>.nil|_,_,.cons r t=>.cons (λd e=>by obtain⟨v,e1,r1⟩:=r d e;exact{v,e1,Rv.ts s _ r1})<|fS.ts s t
theorem fS.get:∀{σ:SD}{τ:St}{i:Nat}{d:D},fS K H σ τ->σ[i]?=some (some d)->∃v,τ[i]?=some (some v)/\Rv K H d v|_,_,i,d,.nil,e=>by simp at e|_,_,0,d,.cons r t,e=>(by simp at e;obtain⟨v,e1,r1⟩:=r d e;exact{v,by simp[e1],r1})|_,_,i+1,d,.cons r t,e=>by obtain⟨v,e1,r1⟩:=fS.get (i:=i) t (by simpa using e);exact{v,by simpa using e1,r1}
theorem fS.set:∀{σ:SD}{τ:St}(i:Nat){d:D}{v:V},fS K H σ τ->Rv K H d v->fS K H (σ.set i<|some d) (τ.set i<|some v)|_,_,i,d,v,.nil,r=>.nil|_,_,0,d,v,.cons r t,q=>(.cons (λd' e=>by cases e;exact⟨v,rfl,q⟩) t)|_,_,i+1,d,v,.cons r t,q=>.cons r<|fS.set i t q
theorem fS.unset:∀{σ:SD}{τ:St}(i:Nat)(o:Option V),fS K H σ τ->fS K H (σ.set i none) (τ.set i o)|_,_,i,o,.nil=>.nil|_,_,0,o,.cons r t=>(.cons (λd' e=>by cases e) t)|_,_,i+1,o,.cons r t=>.cons r<|fS.unset i o t
theorem qy:∀(n:Nat)(τ:St),τ.length=n->fS K H (List.replicate n none) τ|0,[],_=>.nil|n+1,_::τ,h=>.cons (λd e=>by cases e)<|qy n τ<|by simpa using h
theorem qz:∀{ds:List D}{vs:List V},RvAll K H ds vs->fS K H (ds.map some) (vs.map some)|[],vs,h=>by rw[h.nil];exact .nil|d::ds,vs,h=>by obtain⟨y,ys,rfl,h1,h2⟩:=h.cons;exact .cons (λd' e=>by cases e;exact⟨y,rfl,h1⟩)<|qz h2
theorem fS.app:∀{σ aC:SD}{τ QN:St},fS K H σ τ->fS K H aC QN->fS K H (σ++aC) (τ++QN)|_,_,_,_,.nil,h=>h|_,_,_,_,.cons r t,h=>.cons r<|fS.app t h
end
structure Rdy(Y:Cx)(E:St->XK)(b:Bool):Prop where
 call:∀p2 τ H s e s',Inv Y p2 τ H s->fb Y.prog Y.w Y.mg Y.stack H s (E τ) e s'->Y.xe e s'
 own:b=true->∀p2 τ H s h' a cls args,Inv Y p2 τ H s->Heap.MadeExcOf s.heap h' a cls args->E τ cls none H->Y.xe (.ref a) {s with heap:=h'}
 loop:b=true->PassesOwn (model Y.prog Y.w) Y.A Y.env Y.xe
structure Ev(X:Cx)(b:Bool) where
 pn:List (Addr×Obj)
 xe:Value->Shared->Prop
 E:St->XK
 ok:Rdy {X with pn:=pn,xe:=xe} E b
noncomputable abbrev Ev.cx{X:Cx}{b:Bool}(y:Ev X b):Cx:={X with pn:=y.pn,xe:=y.xe}
def Cn(K:Frag)(H:Hp)(R:KD)(Q:VK):Prop:=∀d S v H',R d S->Rv K H' d v->Rs K S H'->Kp K H H'->Q v H'
def ES(K:Frag)(H:Hp)(Z:KX)(e:XK):Prop:=∀C S H',Z C S->Rs K S H'->Kp K H H'->e (.ref C) none H'
theorem Cn.kp{K:Frag}{H H1:Hp}{R:KD}{Q:VK}(h:Cn K H R Q)(k:Kp K H H1):Cn K H1 R Q:=λd S v H' r v1 s1 k1=>h d S v H' r v1 s1<|k.trans k1
theorem ES.kp{K:Frag}{H H1:Hp}{Z:KX}{e:XK}(h:ES K H Z e)(k:Kp K H H1):ES K H1 Z e:=λC S H' r s1 k1=>h C S H' r s1<|k.trans k1
abbrev TD:=SD->av->KD->KX->Prop
def T(K:Frag)(E:St->XK)(t:TD):TE:=λτ H Q=>∃σ S R Z,fS K H σ τ/\Rs K S H/\t σ S R Z/\Cn K H R Q/\ES K H Z (E τ)
structure DE(K:Frag)(X:Cx)(e:Expr)(t:TD):Prop where
 of:∀{b:Bool}(y:Ev X b),PE y.cx e<|T K y.E t
abbrev kL:=SD->av->(Bool->av->Prop)->KX->Prop
def VJ(K:Frag)(H:Hp)(R:Bool->av->Prop)(Q:Bool->Hp->Prop):Prop:=∀b S H',R b S->Rs K S H'->Kp K H H'->Q b H'
theorem VJ.kp{K:Frag}{H H1:Hp}{R:Bool->av->Prop}{Q:Bool->Hp->Prop}(h:VJ K H R Q)(k:Kp K H H1):VJ K H1 R Q:=λd S H' r s1 k1=>h d S H' r s1<|k.trans k1
def Tt(K:Frag)(E:St->XK)(t:kL):TT:=λτ H Q=>∃σ S R Z,fS K H σ τ/\Rs K S H/\t σ S R Z/\VJ K H R Q/\ES K H Z (E τ)
structure DT(K:Frag)(X:Cx)(e:Expr)(t:kL):Prop where
 of:∀{b:Bool}(y:Ev X b),PT y.cx e<|Tt K y.E t
abbrev iN:=SD->av->(List D->av->Prop)->KX->Prop
def CnA(K:Frag)(H:Hp)(R:List D->av->Prop)(Q:List V->Hp->Prop):Prop:=∀ds S vs H',R ds S->RvAll K H' ds vs->Rs K S H'->Kp K H H'->Q vs H'
def Ta(K:Frag)(E:St->XK)(t:iN):TA:=λτ H Q=>∃σ S R Z,fS K H σ τ/\Rs K S H/\t σ S R Z/\CnA K H R Q/\ES K H Z (E τ)
structure DA(K:Frag)(X:Cx)(es:List Expr)(t:iN):Prop where
 of:∀{b:Bool}(y:Ev X b),PA y.cx es<|Ta K y.E t
theorem PE.mono{t t':TE}(h:PE X e t)(i:∀τ H Q,t' τ H Q->t τ H Q):PE X e t':=λpins s τ H Q I q=>h pins s τ H Q I<|i τ H Q q
theorem PT.mono{t t':TT}(h:PT X e t)(i:∀τ H Q,t' τ H Q->t τ H Q):PT X e t':=λpins s τ H Q I q=>h pins s τ H Q I<|i τ H Q q
theorem PA.mono{t t':TA}(h:PA X e t)(i:∀τ H Q,t' τ H Q->t τ H Q):PA X e t':=λpos pins s τ H Q I q=>h pos pins s τ H Q I<|i τ H Q q
section
variable{K:Frag}{X:Cx}
inductive SH (i:Nat) (σ:SD) (S:av) (R:KD):Prop where
 |mk (d:D) (h:σ[i]?=some (some d)) (r:R d S):SH i σ S R
def SI(i:Nat):TD:=λσ S R _=>SH i σ S R
inductive QO (x:D) (S:av) (R:Bool->av->Prop):Prop where
 |mk (b:Bool) (h:x=.bl b) (r:R b S):QO x S R
def dC(d:D):TD:=λ_ S R _=>R d S
theorem dv(i:Nat)(hN:autoParam (X.N[i]?=some x) qQJ)(hv:Qz X.env.scope x:=by first|exact Or.inl rfl|exact Or.inr (Or.inl rfl)|exact Or.inr (Or.inr rfl))(hd:autoParam ((x==("__debug__": Str))=false) qQZ) (rZ:autoParam ((x==("__classdict__": Str))=false) qQZ):DE K X (.Name x pos) (SI i):=⟨λy=>(Nt (X:=y.cx) hN hv hd rZ).mono <| by rintro τ H Q ⟨σ,S,R,Z,aD,hS,⟨d,e,r⟩,hR,_⟩;exact by obtain⟨v,e1,rv⟩:=aD.get e;exact{v,e1,hR d S v H r rv hS<|Kp.refl _}⟩
theorem DE.const(h:∀Y:Cx,Y.env=X.env->Y.mg=X.mg->PE Y e (tC v))(r:∀H,Rv K H d v):DE K X e (dC d):=⟨λy=>(h y.cx rfl rfl).mono <| by rintro τ H Q ⟨σ,S,R,Z,aD,hS,q,hR,_⟩;exact hR d S v H q (r H) hS<|Kp.refl _⟩
theorem di:DE K X (.Constant (.int i) j pos) (dC<|.int i):=.const (λ_ _ _=>Gq) λ_=>aL i
theorem ds:DE K X (.Constant (.str i) j pos) (dC<|.str i):=.const (λ_ _ _=>Nv) λ_=>i7 i
theorem db:DE K X (.Constant (.bool i) j pos) (dC<|.bl i):=.const (λ_ _ _=>Mh) λ_=>bC i
theorem dn:DE K X (.Constant .none j pos) (dC .ax):=.const (λ_ _ _=>Nu) λ_=>i6
theorem dg(hm:X.mg x=some u)(r:RelV v u)(rd:∀H,Rv K H d v)(hg:autoParam (Gl X x) qQJ)(hd:autoParam ((x==("__debug__": Str))=false) qQZ):DE K X (.Name x pos) (dC d):=.const (λY e1 e2=>Cv (X:=Y) (u:=u) (show Y.env.kindOf x=_ by rw[e1];exact hg) (by rw[e2];exact hm) r hd) rd
theorem r9(hm:X.mg x=none)(hv:bootBuiltins x=some (.type n))(hg:autoParam (Gl X x) qQJ)(hn:autoParam (x≠"__name__") qQZ)(hd:autoParam ((x==("__debug__": Str))=false) qQZ):DE K X (.Name x pos) (dC<|.ty n):=.const (λY e1 e2=>JO (X:=Y) (v:=.ty n) (show Y.env.kindOf x=_ by rw[e1];exact hg) (by rw[e2];exact hm) hv rfl hn hd) λ_=>SG n
def KQ:iN:=λ_ S R _=>R [] S
def MD(t:TD)(u:iN):iN:=λσ S R Z=>t σ S (λd S1=>u σ S1 (λds S2=>R (d::ds) S2) Z) Z
theorem an:DA K X [] KQ:=⟨λy=>(AB (X:=y.cx)).mono <| by rintro τ H Q ⟨σ,S,R,Z,aD,hS,q,hR,_⟩;exact hR [] S [] H q bq hS<|Kp.refl _⟩
theorem ac{t:TD}(h:DE K X e t)(hr:DA K X es u)(hp:autoParam (isPlain e=true) qQJ):DA K X (e::es) (MD t u):=
 ⟨λy=>(Xk (h.of y) (hr.of y) hp).mono <| by rintro τ H Q ⟨σ,S,R,Z,aD,hS,q,hR,hZ⟩;exact
  ⟨σ,S,_,Z,aD,hS,q,λd S1 x H1 r1 v1 s1 k1=>⟨σ,S1,_,Z,aD.ts k1,s1,r1,λds S2 xs H2 r2 v2 s2 k2=>hR (d::ds) S2 (x::xs) H2 r2 (aO (Rv.ts k2 _ v1) v2) s2<|k1.trans k2,hZ.kp k1⟩,hZ⟩⟩
abbrev uW:=D->D->av->KD->Prop
def Lr(K:Frag)(r:uW):R2:=λx y H Q=>∃d e S R,Rv K H d x/\Rv K H e y/\Rs K S H/\r d e S R/\Cn K H R Q
def pj(K:Frag)(f:Value->Value->Sem Value)(r:uW):Prop:=∀X:Cx,X.K=K->X.A.units+64<cLine->g9 X f (Lr K r)
def OP(r:uW)(ta tb:TD):TD:=λσ S R Z=>ta σ S (λx S1=>tb σ S1 (λy S2=>r x y S2 R) Z) Z
theorem T.op(h:T K E (OP r ta tb) τ H Q):QB (Lr K r) (T K E ta) (T K E tb) τ H Q:=by obtain⟨σ,S,R,Z,aD,hS,q,hR,hZ⟩:=h;exact{σ,S,_,Z,aD,hS,q,λd S1 x H1 r1 v1 s1 k1=>{σ,S1,_,Z,aD.ts k1,s1,r1,λe S2 y H2 r2 v2 s2 k2=>{d,e,S2,R,Rv.ts k2 _ v1,v2,s2,r2,hR.kp<|k1.trans k2},hZ.kp k1},hZ}
theorem bo(ho:pj K (binaryOp op) r)(hu:X.A.units+64<cLine)(ha:DE K X a ta)(hb:DE K X b tb)(hK:autoParam (X.K=K) qQJ):DE K X (.BinOp a op b pos) (OP r ta tb):=⟨λy=>(RJ (ho y.cx hK hu) (ha.of y)<|hb.of y).mono λ_ _ _ h=>h.op⟩
theorem cm(ho:pj K (compareOp op) r)(hu:X.A.units+64<cLine)(ha:DE K X a ta)(hb:DE K X b tb)(hm:autoParam (behindInMarks op b=false) qQ2)(hK:autoParam (X.K=K) qQJ):DE K X (.Compare a [op] [b] pos) (OP r ta tb):=⟨λy=>(CC (ho y.cx hK hu) (ha.of y) (hb.of y) hm).mono λ_ _ _ h=>h.op⟩
def dB(t:TD):kL:=λσ S R Z=>t σ S (λx S1=>QO x S1 R) Z
theorem Tt.b{t:TD}(h:Tt K E (dB t) τ H Q):T K E t τ H λx H'=>∃k,x=.bl k/\Q k H':=by obtain⟨σ,S,R,Z,aD,hS,q,hR,hZ⟩:=h;exact{σ,S,_,Z,aD,hS,q,by rintro d S1 x H1 ⟨b,e,r1⟩ v1 s1 k1;exact by subst e;exact{b,v1.bl,hR b S1 H1 r1 s1 k1},hZ}
theorem Tt.bop(h:Tt K E (dB<|OP r ta tb) τ H Q):GB (QB (Lr K r) (T K E ta)<|T K E tb) τ H Q:=h.b.op
theorem bh(ho:pj K (compareOp op) r)(hu:X.A.units+64<cLine)(ha:DE K X a ta)(hb:DE K X b tb)(hm:autoParam (behindInMarks op b=false) qQ2)(hK:autoParam (X.K=K) qQJ):DT K X (.Compare a [op] [b] pos) (dB<|OP r ta tb):=⟨λy=>(JY (ho y.cx hK hu) (ha.of y) (hb.of y) hm).mono λ_ _ _ h=>h.bop⟩
theorem tv{t:TD}(h:DE K X e t)(he:autoParam (∀whole,isTrue e X.env whole=(do let v <-whole;standAt e.pos;holding [v] (truthy v))) qQ0):DT K X e (dB t):=⟨λy=>(Nw (X:=y.cx) (h.of y) he).mono λ_ _ _ h=>h.b⟩
def Bb(r r':uW)(ta tb tc:TD):TD:=λσ S R Z=>ta σ S (λx S1=>tb σ S1 (λy S2=>r x y S2 λz S3=>QO z S3 λk S3=>if k=true then tc σ S3 (λw S4=>r' y w S4 R) Z else R (.bl false) S3) Z) Z
theorem T.chain(h:T K E (Bb r r' ta tb tc) τ H Q):Au (Lr K r) (Lr K r') (T K E ta) (T K E tb) (T K E tc) τ H Q:=by obtain⟨σ,S,R,Z,aD,hS,q,hR,hZ⟩:=h;refine{σ,S,_,Z,aD,hS,q,λd S1 x H1 r1 v1 s1 k1=>{σ,S1,_,Z,aD.ts k1,s1,r1,λe S2 y H2 r2 v2 s2 k2=>{d,e,S2,_,Rv.ts k2 _ v1,v2,s2,r2,λz S3 v H3 r3 v3 s3 k3=>?_},hZ.kp k1},hZ};obtain⟨k,rfl,r3⟩:=r3;refine{k,v3.bl,?_};cases k with|true=>rw[if_pos rfl]at r3⊢;exact{σ,S3,_,Z,((aD.ts k1).ts k2).ts k3,s3,r3,λw S4 wv H4 r4 v4 s4 k4=>{e,w,S4,R,Rv.ts (k3.trans k4) _ v2,v4,s4,r4,hR.kp<|((k1.trans k2).trans k3).trans k4},hZ.kp<|(k1.trans k2).trans k3}|false=>rw[if_neg zd]at r3⊢;exact hR _ S3 _ H3 r3 (bC false) s3<|(k1.trans k2).trans k3
theorem cc(ho:pj K (compareOp op) r)(Am:pj K (compareOp Eo) r')(hu:X.A.units+64<cLine)(ha:DE K X a ta)(hb:DE K X b tb)(hc:DE K X c tc) (hm:autoParam (lastMarks [op,Eo] [b,c]=false) qQ2) (hK:autoParam (X.K=K) qQJ):DE K X (.Compare a [op,Eo] [b,c] pos) (Bb r r' ta tb tc):=⟨λy=>(GC (ho y.cx hK hu) (Am y.cx hK hu) (ha.of y) (hb.of y) (hc.of y) hm).mono λ_ _ _ h=>h.chain⟩
theorem VL(ho:pj K (compareOp op) r)(Am:pj K (compareOp Eo) r')(hu:X.A.units+64<cLine)(ha:DE K X a ta)(hb:DE K X b tb)(hc:DE K X c tc) (hm:autoParam (lastMarks [op,Eo] [b,c]=false) qQ2) (hK:autoParam (X.K=K) qQJ):DT K X (.Compare a [op,Eo] [b,c] pos) (dB<|Bb r r' ta tb tc):=⟨λy=>(GF (ho y.cx hK hu) (Am y.cx hK hu) (ha.of y) (hb.of y) (hc.of y) hm).mono λ_ _ _ h=>h.b.chain⟩
def SJ(ta tb:TD):TD:=λσ S R Z=>ta σ S (λx S1=>QO x S1 λc S1=>if c=true then tb σ S1 R Z else R (.bl false) S1) Z
def Xz(ta tb:TD):TD:=λσ S R Z=>ta σ S (λx S1=>QO x S1 λc S1=>if c=true then R (.bl true) S1 else tb σ S1 R Z) Z
def SK(ta:TD):TD:=λσ S R Z=>ta σ S (λx S1=>QO x S1 λc S1=>R (.bl<|!c) S1) Z
theorem Hi{t:TD}(h:DE K X a t):DE K X (.BoolOp op [a] pos) t:=⟨λy=>Ny<|h.of y⟩
theorem qA{a b:Expr}{rest:List Expr}{ta tb:TD}{pos:Pos}(ha:DE K X a ta)(hb:DE K X (.BoolOp .And (b::rest) pos) tb):DE K X (.BoolOp .And (a::b::rest) pos) (SJ ta tb):=
 ⟨λy=>(Nz (ha.of y)<|hb.of y).mono <| by rintro τ H Q ⟨σ,S,R,Z,aD,hS,q,hR,hZ⟩;exact
  ⟨σ,S,_,Z,aD,hS,q,by
   rintro d S1 x H1 ⟨c,e,r1⟩ v1 s1 k1
   subst e
   refine{c,v1.bl,?_}
   cases c with
   |true=>rw[if_pos rfl]at r1⊢;exact{σ,S1,R,Z,aD.ts k1,s1,r1,hR.kp k1,hZ.kp k1}
   |false=>rw[if_neg zd]at r1⊢;exact hR _ S1 _ H1 r1 (bC false) s1 k1,hZ⟩⟩
theorem eor{a b:Expr}{rest:List Expr}{ta tb:TD}{pos:Pos}(ha:DE K X a ta)(hb:DE K X (.BoolOp .Or (b::rest) pos) tb):DE K X (.BoolOp .Or (a::b::rest) pos) (Xz ta tb):=
 ⟨λy=>(Rw (ha.of y)<|hb.of y).mono <| by rintro τ H Q ⟨σ,S,R,Z,aD,hS,q,hR,hZ⟩;exact
  ⟨σ,S,_,Z,aD,hS,q,by
   rintro d S1 x H1 ⟨c,e,r1⟩ v1 s1 k1
   subst e
   refine{c,v1.bl,?_}
   cases c with
   |false=>rw[if_neg zd]at r1⊢;exact{σ,S1,R,Z,aD.ts k1,s1,r1,hR.kp k1,hZ.kp k1}
   |true=>rw[if_pos rfl]at r1⊢;exact hR _ S1 _ H1 r1 (bC true) s1 k1,hZ⟩⟩
theorem SM(ha:DE K X a ta):DE K X (.UnaryOp .Not a pos) (SK ta):=
 ⟨λy=>(NA<|ha.of y).mono <| by rintro τ H Q ⟨σ,S,R,Z,aD,hS,q,hR,hZ⟩;exact
  ⟨σ,S,_,Z,aD,hS,q,by rintro d S1 x H1 ⟨c,e,r1⟩ v1 s1 k1;exact by subst e;exact⟨c,v1.bl,hR _ S1 _ H1 r1 (bC _) s1 k1⟩,hZ⟩⟩
def XB(t:kL):kL:=λσ S R Z=>t σ S (λc S1=>R (!c) S1) Z
def XD(t u:kL):kL:=λσ S R Z=>t σ S (λc S1=>if c=true then u σ S1 R Z else R false S1) Z
def dOr(t u:kL):kL:=λσ S R Z=>t σ S (λc S1=>if c=true then R true S1 else u σ S1 R Z) Z
theorem cz{t:kL}(ha:DT K X a t):DT K X (.UnaryOp .Not a pos) (XB t):=⟨λy=>(Nx<|ha.of y).mono <| by rintro τ H Q ⟨σ,S,R,Z,aD,hS,q,hR,hZ⟩;exact{σ,S,_,Z,aD,hS,q,λc S1 H1 r1 s1 k1=>hR _ S1 H1 r1 s1 k1,hZ}⟩
structure DW(K:Frag)(X:Cx)(e:Expr)(t:kL):Prop where
 of:∀{b:Bool}(y:Ev X b),PW y.cx e<|Tt K y.E t
theorem PW.mono{t t':TT}(h:PW X e t)(i:∀τ H Q,t' τ H Q->t τ H Q):PW X e t':=λwh pins s τ H Q I q=>h wh pins s τ H Q I<|i τ H Q q
theorem twd{t:kL}(h:DW K X e t):DT K X e t:=⟨λy=>(h.of y).pt⟩
theorem tw1{t:kL}(h:DT K X a t):DW K X (.BoolOp op [a] pos) t:=⟨λy=>by cases op with|And=>exact pw_and1 (h.of y)|Or=>exact pw_or1<|h.of y⟩
theorem twand{a b:Expr}{rest:List Expr}{t u:kL}{pos:Pos}(ha:DT K X a t)(hb:DW K X (.BoolOp .And (b::rest) pos) u):DW K X (.BoolOp .And (a::b::rest) pos) (XD t u):=
 ⟨λy=>(pw_and (ha.of y)<|hb.of y).mono <| by rintro τ H Q ⟨σ,S,R,Z,aD,hS,q,hR,hZ⟩;exact
  ⟨σ,S,_,Z,aD,hS,q,λc S1 H1 r1 s1 k1=>by
   cases c with
   |true=>rw[if_pos rfl]at r1⊢;exact{σ,S1,R,Z,aD.ts k1,s1,r1,hR.kp k1,hZ.kp k1}
   |false=>rw[if_neg zd]at r1⊢;exact hR _ S1 H1 r1 s1 k1,hZ⟩⟩
theorem twor{a b:Expr}{rest:List Expr}{t u:kL}{pos:Pos}(ha:DT K X a t)(hb:DW K X (.BoolOp .Or (b::rest) pos) u):DW K X (.BoolOp .Or (a::b::rest) pos) (dOr t u):=
 ⟨λy=>(pw_or (ha.of y)<|hb.of y).mono <| by rintro τ H Q ⟨σ,S,R,Z,aD,hS,q,hR,hZ⟩;exact
  ⟨σ,S,_,Z,aD,hS,q,λc S1 H1 r1 s1 k1=>by
   cases c with
   |false=>rw[if_neg zd]at r1⊢;exact{σ,S1,R,Z,aD.ts k1,s1,r1,hR.kp k1,hZ.kp k1}
   |true=>rw[if_pos rfl]at r1⊢;exact hR _ S1 H1 r1 s1 k1,hZ⟩⟩
def XF(t:kL)(ta tb:TD):TD:=λσ S R Z=>t σ S (λc S1=>if c=true then ta σ S1 R Z else tb σ S1 R Z) Z
theorem ME{t:kL}(hc:DT K X c t)(ha:DE K X a ta)(hb:DE K X b tb):DE K X (.IfExp c a b pos) (XF t ta tb):=
 ⟨λy=>(Gr (hc.of y) (ha.of y)<|hb.of y).mono <| by rintro τ H Q ⟨σ,S,R,Z,aD,hS,q,hR,hZ⟩;exact
  ⟨σ,S,_,Z,aD,hS,q,λc S1 H1 r1 s1 k1=>by
   cases c with
   |true=>rw[if_pos rfl]at r1⊢;exact{σ,S1,R,Z,aD.ts k1,s1,r1,hR.kp k1,hZ.kp k1}
   |false=>rw[if_neg zd]at r1⊢;exact{σ,S1,R,Z,aD.ts k1,s1,r1,hR.kp k1,hZ.kp k1},hZ⟩⟩
def XG(t:iN):TD:=λσ S R Z=>t σ S (λds S1=>ds.length<=sizeLine/\∀p,S1 p=none->R (.ref p) (S1.set p<|.lst ds)) Z
def XH(t:iN):TD:=λσ S R Z=>t σ S (λds S1=>ds.length<=sizeLine/\R (.tup ds) S1) Z
theorem dR{t:iN}(h:DA K X es t):DE K X (.List es pos) (XG t):=
 ⟨λy=>(NZ<|h.of y).mono <| by rintro τ H Q ⟨σ,S,R,Z,aD,hS,q,hR,hZ⟩;exact
  ⟨σ,S,_,Z,aD,hS,q,by rintro ds S1 xs H1 ⟨hl,r1⟩ v1 s1 k1;exact⟨by rw[v1.len];exact hl,λp hp=>hR _ _ _ _ (r1 p<|s1.fresh hp) (fi p) (s1.new hp ⟨xs,aE,RvAll.ts (.new hp) _ v1⟩)<|k1.trans<|.new hp⟩,hZ⟩⟩
theorem bP{t:iN}(h:DA K X es t):DE K X (.Tuple es x1 pos) (XH t):=
 ⟨λy=>(NY<|h.of y).mono <| by rintro τ H Q ⟨σ,S,R,Z,aD,hS,q,hR,hZ⟩;exact
  ⟨σ,S,_,Z,aD,hS,q,by rintro ds S1 xs H1 ⟨hl,r1⟩ v1 s1 k1;exact⟨by rw[v1.len];exact hl,λp hp=>hR _ _ _ _ r1 (mY aE<|RvAll.ts (.new hp) _ v1) (s1.grow hp)<|k1.trans<|.new hp⟩,hZ⟩⟩
def XI:TD:=λ_ S R _=>∀p,S p=none->R (.ref p) (S.set p<|.cA [])
theorem SN:DE K X (.Dict [] [] pos) XI:=⟨λy=>(GS (X:=y.cx)).mono <| by rintro τ H Q ⟨σ,S,R,Z,aD,hS,q,hR,hZ⟩ p hp;exact hR _ _ _ _ (q p<|hS.fresh hp) (fi p) (hS.new hp {[],aE,.nil})<|.new hp⟩
def Lc(K:Frag)(r:List D->av->KD->Prop):List V->Hp->VK->Prop:=λxs H Q=>∃ds S R,RvAll K H ds xs/\Rs K S H/\r ds S R/\Cn K H R Q
def fW(K:Frag)(f:Value)(r:List D->av->KD->Prop):Prop:=∀X:Cx,X.K=K->X.calm=true->cS X f (Lc K r)
def SO(r:List D->av->KD->Prop)(t:iN):TD:=λσ S R Z=>t σ S (λds S1=>r ds S1 R) Z
theorem T.cb{t:iN}(h:T K E (SO r t) τ H Q):WT (Lc K r) (Ta K E t) τ H Q:=by obtain⟨σ,S,R,Z,aD,hS,q,hR,hZ⟩:=h;exact{σ,S,_,Z,aD,hS,q,λds S1 xs H1 r1 v1 s1 k1=>{ds,S1,R,v1,s1,r1,hR.kp k1},hZ}
theorem cb{x:Str}{id:String}{r:List D->av->KD->Prop}{e:Expr}{es:List Expr}{t:iN}{p pos:Pos}(hc:fW K (.builtin id) r)(hm:X.mg x=none)(hv:bootBuiltins x=some (.builtin id))(ha:DA K X (e::es) t)(hg:autoParam (Gl X x) qQJ) (hn:autoParam (x≠"__name__") qQZ) (kK:autoParam ((x==("__debug__": Str))=false) qQZ) (he:autoParam (starEach (e::es) X.env=(false,eval e X.env)::starEach es X.env) qQJ) (du:autoParam ((backTo pos<|starEach es X.env).any (·.1)=false) qQJ) (hK:autoParam (X.K=K) qQJ) (hC:autoParam (X.calm=true) qQJ): DE K X (.Call (.Name x p) (e::es) [] pos) (SO r t):=⟨λy=>(qh (X:=y.cx) (hc _ hK hC) hg hm hv (ha.of y) hn kK he du).mono λ_ _ _ h=>h.cb⟩
theorem ct{x:Str}{id:String}{r:List D->av->KD->Prop}{e:Expr}{es:List Expr}{t:iN}{p pos:Pos}(hc:fW K (.type id) r)(hm:X.mg x=none)(hv:bootBuiltins x=some (.type id))(ha:DA K X (e::es) t)(hg:autoParam (Gl X x) qQJ) (hn:autoParam (x≠"__name__") qQZ) (kK:autoParam ((x==("__debug__": Str))=false) qQZ) (he:autoParam (starEach (e::es) X.env=(false,eval e X.env)::starEach es X.env) qQJ) (du:autoParam ((backTo pos<|starEach es X.env).any (·.1)=false) qQJ) (hK:autoParam (X.K=K) qQJ) (hC:autoParam (X.calm=true) qQJ): DE K X (.Call (.Name x p) (e::es) [] pos) (SO r t):=⟨λy=>(tM (X:=y.cx) (hc _ hK hC) hg hm hv (ha.of y) hn kK he du).mono λ_ _ _ h=>h.cb⟩
end
section
variable{K:Frag}
theorem Cn.now(h:Cn K H R Q)(hS:Rs K S H)(r:R d S)(rv:Rv K H d v):Q v H:=h d S v H r rv hS<|.refl _
theorem Cn.new{H:Hp}{R:KD}{Q:VK}{S:av}{p:Addr}{ds:List D}{xs:List V}(h:Cn K H R Q)(hS:Rs K S H)(hp:H p=none)(r:S p=none->R (.ref p) (S.set p<|.lst ds))(rv:RvAll K H ds xs):Q (.ref p) (upd H p<|.lst xs):=h _ _ _ _ (r<|hS.fresh hp) (fi p) (hS.new hp {xs,aE,RvAll.ts (.new hp) _ rv})<|.new hp
theorem Cn.XJ{H:Hp}{R:KD}{Q:VK}{S:av}{p:Addr}{ds:List D}{xs:List V}(h:Cn K H R Q)(hS:Rs K S H)(hp:H p=none)(r:R (.tup ds) S)(rv:RvAll K H ds xs):Q (.ref p) (upd H p<|.tup xs):=h _ _ _ _ r (mY aE<|RvAll.ts (.new hp) _ rv) (hS.grow hp)<|.new hp
theorem Cn.put{H:Hp}{R:KD}{Q:VK}{S:av}{p:Addr}{ds es:List D}{xs:List V}{d:D}{v:V}(h:Cn K H R Q)(hS:Rs K S H)(hp:S p=some (.lst es))(r:R d<|S.set p<|.lst ds)(rd:Rv K H d v)(rv:RvAll K H ds xs):Q v (upd H p<|.lst xs):=h _ _ _ _ r (Rv.ts (hS.hG hp) _ rd) (hS.put hp {xs,aE,RvAll.ts (hS.hG hp) _ rv})<|hS.hG hp
def wG(S:av):D->List D->Prop|.ref a,ds=>S a=some (.lst ds)|.iM es,ds=>es=ds|_,_=>False
theorem wG.at{H:Hp}{S:av}{d:D}{ds:List D}{v:V}(h:wG S d ds)(hS:Rs K S H)(r:Rv K H d v):∃a xs,v=.ref a/\iU K H a xs/\RvAll K H ds xs:=by cases d with|ref a=>(obtain⟨xs,e,q⟩:=hS.lst h;exact{a,xs,r.ref,.of e,q})|iM es=>(have h:es=ds:=h;subst h;obtain⟨a,xs,e,q,t⟩:=r.iM;exact⟨a,xs,e,q.sq,t⟩)|_=>exact h.elim
def XM:uW:=λx y S R=>match x,y with|.int i,.int j=>R (.int<|i-j) S|_,_=>False
theorem ot:pj K (binaryOp .Sub) XM:=by rintro X hK hu pins s σ H x y v u Q I rx ry ⟨d,e,S,R,r1,r2,hS,h,hR⟩;cases d<;>cases e<;>first|exact False.elim h|exact NP pins s σ H x y v u Q I rx ry {_,_,r1.int,r2.int,hR.now hS h<|aL _}
def XN:uW:=λx y S R=>match x,y with|.int i,.int j=>JW i j/\R (.int<|i*j) S|.str z,.int n=>MulOk z n/\R (.str<|PySem.Txt.mul z n) S|_,_=>False
theorem kl:pj K (binaryOp .Mult) XN:=by rintro X hK hu pins s σ H x y v u Q I rx ry ⟨d,e,S,R,r1,r2,hS,h,hR⟩;cases d<;>cases e<;>first|exact False.elim h|exact NQ pins s σ H x y v u Q I rx ry {_,_,r1.int,r2.int,h.1,hR.now hS h.2<|aL _}|exact A4 pins s σ H x y v u Q I rx ry {_,_,r1.str,r2.int,h.1,hR.now hS h.2<|i7 _}
def XO:uW:=λx y S R=>match x,y with|.int i,.int j=>0<j/\R (.int<|i%j) S|_,_=>False
theorem i8:pj K (binaryOp .Mod) XO:=by rintro X hK hu pins s σ H x y v u Q I rx ry ⟨d,e,S,R,r1,r2,hS,h,hR⟩;cases d<;>cases e<;>first|exact False.elim h|exact NR pins s σ H x y v u Q I rx ry {_,_,r1.int,r2.int,h.1,hR.now hS h.2<|aL _}
def SQ:uW:=λx y S R=>match x,y with|.int i,.int j=>Ms i j/\R (.int<|i/j) S|_,_=>False
theorem uX:pj K (binaryOp .FloorDiv) SQ:=by rintro X hK hu pins s σ H x y v u Q I rx ry ⟨d,e,S,R,r1,r2,hS,h,hR⟩;cases d<;>cases e<;>first|exact False.elim h|exact GX pins s σ H x y v u Q I rx ry {_,_,r1.int,r2.int,h.1,hR.now hS h.2<|aL _}
def XQ:uW:=λx y S R=>match x,y with|.int i,.int j=>RL i j/\R (.int<|i^j.toNat) S|_,_=>False
theorem CP:pj K (binaryOp .Pow) XQ:=by rintro X hK hu pins s σ H x y v u Q I rx ry ⟨d,e,S,R,r1,r2,hS,h,hR⟩;cases d<;>cases e<;>first|exact False.elim h|exact NS pins s σ H x y v u Q I rx ry {_,_,r1.int,r2.int,h.1,hR.now hS h.2<|aL _}
def Hj(f:Int->Int->Bool)(g:Str->Str->Bool):uW:=λx y S R=>match x,y with|.int i,.int j=>R (.bl<|f i j) S|.str i,.str j=>R (.bl<|g i j) S|_,_=>False
theorem CQ(h1:∀X:Cx,g9 X (compareOp op)<|JU λi j=>.bl<|f i j) (h2:∀X:Cx,g9 X (compareOp op) λx y H Q=>∃i j,x=.str i/\y=.str j/\Q (.bl<|g i j) H):pj K (compareOp op) (Hj f g):=by rintro X hK hu pins s σ H x y v u Q I rx ry ⟨d,e,S,R,r1,r2,hS,h,hR⟩;cases d<;>cases e<;>first|exact False.elim h|exact h1 X pins s σ H x y v u Q I rx ry {_,_,r1.int,r2.int,hR.now hS h<|bC _}|exact h2 X pins s σ H x y v u Q I rx ry {_,_,r1.str,r2.str,hR.now hS h<|bC _}
theorem uY:pj K (compareOp .Lt) (Hj (λi j=>decide<|i<j) λi j=>tQ i j):=CQ (λ_=>RN) λ_=>El
theorem i9:pj K (compareOp .LtE) (Hj (λi j=>decide<|i<=j) λi j=>FY i j):=CQ (λ_=>RO) λ_=>EG
theorem qB:pj K (compareOp .Gt) (Hj (λi j=>decide<|j<i) λi j=>tQ j i):=CQ (λ_=>RP) λ_=>EI
theorem XR:pj K (compareOp .GtE) (Hj (λi j=>decide<|j<=i) λi j=>FY j i):=CQ (λ_=>RQ) λ_=>EH
noncomputable def ah:D->Bool|.ax=>true|_=>false
theorem xk(r:Rv K H d v):decide (v=.ax)=ah d:=by cases d with|ax=>rw[r.ax];rfl|bl b=>rw[r.bl];rfl|int b=>rw[r.int];rfl|str b=>rw[r.str];rfl|ref b=>rw[r.ref];rfl|ty b=>rw[r.ty];rfl|tup b=>(obtain⟨a,xs,rfl,_⟩:=r.tup;rfl)|iM b=>(obtain⟨a,xs,rfl,_⟩:=r.iM;rfl)|kt b=>obtain⟨a,xs,rfl,_⟩:=r.kt;rfl
def XS:uW:=λx y S R=>match y with|.ax=>R (.bl<|ah x) S|_=>False
def SR:uW:=λx y S R=>match y with|.ax=>R (.bl<|!ah x) S|_=>False
theorem iO:pj K (compareOp .Is) XS:=by rintro X hK hu pins s σ H x y v u Q I rx ry ⟨d,e,S,R,r1,r2,hS,h,hR⟩;cases e<;>first|exact False.elim h|exact NT pins s σ H x y v u Q I rx ry {r2.ax,by rw[xk r1];exact hR.now hS h<|bC _}
theorem mZ:pj K (compareOp .IsNot) SR:=by rintro X hK hu pins s σ H x y v u Q I rx ry ⟨d,e,S,R,r1,r2,hS,h,hR⟩;cases e<;>first|exact False.elim h|exact JX pins s σ H x y v u Q I rx ry {r2.ax,by rw[xk r1];exact hR.now hS h<|bC _}
mutual
def Dp(S:av):D->PyData->Prop|.ax,p=>p=.none|.bl b,p=>p=.bool b|.int i,p=>p=.int i|.str z,p=>p=.str z|.tup ds,p=>∃ps,p=.tuple ps/\DpAll S ds ps|.iM ds,p=>∃ps,p=.list ps/\DpAll S ds ps|.kt _,_=>False|.ref _,_=>False|.ty _,_=>False
def DpAll(S:av):List D->List PyData->Prop|[],ps=>ps=[]|d::ds,ps=>∃q qs,ps=q::qs/\Dp S d q/\DpAll S ds qs
end
mutual
theorem Dp.dt:∀(d:D){p:PyData}{v:V},Dp S d p->Rv K H d v->Dt K H p v|.ax,p,v,h,r=>by simp only[Dp]at h;subst h;simp only[Dt];exact r.ax|.bl b,p,v,h,r=>by simp only[Dp]at h;subst h;simp only[Dt];exact r.bl|.int b,p,v,h,r=>by simp only[Dp]at h;subst h;simp only[Dt];exact r.int|.str b,p,v,h,r=>by simp only[Dp]at h;subst h;simp only[Dt];exact r.str|.tup ds,p,v,h,r=>(by simp only[Dp]at h;obtain⟨ps,rfl,h⟩:=h;obtain⟨a,xs,rfl,q,t⟩:=r.tup;simp only[Dt];exact{a,xs,rfl,.of q,DpAll.dt ds h t})|.iM ds,p,v,h,r=>(by simp only[Dp]at h;obtain⟨ps,rfl,h⟩:=h;obtain⟨a,xs,rfl,q,t⟩:=r.iM;simp only[Dt];exact{a,xs,rfl,q.sq,DpAll.dt ds h t})|.kt a,p,v,h,r=>by simp only[Dp]at h|.ref a,p,v,h,r=>by simp only[Dp]at h|.ty a,p,v,h,r=>by simp only[Dp]at h
theorem DpAll.dt:∀(ds:List D){ps:List PyData}{vs:List V},DpAll S ds ps->RvAll K H ds vs->DtAll K H ps vs|[],ps,vs,h,r=>by simp only[DpAll]at h;subst h;rw[r.nil];simp only[DtAll]|d::ds,ps,vs,h,r=>by simp only[DpAll]at h;obtain⟨q,qs,rfl,h1,h2⟩:=h;obtain⟨y,ys,rfl,r1,r2⟩:=r.cons;simp only[DtAll];exact{y,ys,rfl,Dp.dt d h1 r1,DpAll.dt ds h2 r2}
end
def Dl(S:av):D->PyData->Prop|.ref a,p=>∃ds ps,S a=some (.lst ds)/\p=.list ps/\DpAll S ds ps|d,p=>Dp S d p
theorem Dl.dt(h:Dl S d p)(hS:Rs K S H)(r:Rv K H d v):Dt K H p v:=by cases d with|ref a=>(obtain⟨ds,ps,e,rfl,h⟩:=h;obtain⟨xs,e1,t⟩:=hS.lst e;rw[r.ref];simp only[Dt];exact{a,xs,rfl,.of e1,DpAll.dt ds h t})|_=>exact Dp.dt _ h r
def JD(neg:Bool):uW:=λx y S R=>match x,y with|.int i,.int j=>(R (.bl<|if neg then !decide (i=j) else decide (i=j)) S)|.str i,.str j=>(R (.bl<|if neg then !decide (i=j) else decide (i=j)) S)|x,y=>∃p q,Dl S x p/\Dl S y q/\p.canLay0=true/\q.canLay0=true/\(p.depth<=64\/q.depth<=64)/\R (.bl<|if neg then !PyData.eqv p q else PyData.eqv p q) S
theorem Hl(h:JD neg x y S R):(∃i j,x=.int i/\y=.int j/\R (.bl<|if neg then !decide (i=j) else decide (i=j)) S)\/(∃i j,x=.str i/\y=.str j/\R (.bl<|if neg then !decide (i=j) else decide (i=j)) S)\/∃p q,Dl S x p/\Dl S y q/\p.canLay0=true/\q.canLay0=true/\(p.depth<=64\/q.depth<=64)/\R (.bl<|if neg then !PyData.eqv p q else PyData.eqv p q) S:=by cases x<;>cases y<;>first|exact .inl {_,_,rfl,rfl,h}|exact .inr (.inl {_,_,rfl,rfl,h})|exact .inr (.inr h)
theorem bj:pj K (compareOp .Eq) (JD false):=by
 rintro X hK hu pins s σ H x y v u Q I rx ry ⟨d,e,S,R,r1,r2,hS,h,hR⟩;subst hK;rcases Hl h with⟨i,j,rfl,rfl,h⟩|⟨i,j,rfl,rfl,h⟩|⟨p,q,h1,h2,c1,c2,dp,h⟩;cases r1.int;cases r2.int;refine Mm pins s σ H _ _ v u Q I rx ry {rfl,?_};have e:decide (V.int i=V.int j)=decide (i=j):=by simp
 rw[e];exact hR.now hS h<|bC _;cases r1.str;cases r2.str;refine Mm pins s σ H _ _ v u Q I rx ry {rfl,?_};have e:decide (V.str i=V.str j)=decide (i=j):=by simp
 rw[e];exact hR.now hS h<|bC _;exact G5 hu pins s σ H x y v u Q I rx ry {p,q,h1.dt hS r1,h2.dt hS r2,c1,c2,dp,hR.now hS h<|bC _}
theorem lU:pj K (compareOp .NotEq) (JD true):=by
 rintro X hK hu pins s σ H x y v u Q I rx ry ⟨d,e,S,R,r1,r2,hS,h,hR⟩;subst hK;rcases Hl h with⟨i,j,rfl,rfl,h⟩|⟨i,j,rfl,rfl,h⟩|⟨p,q,h1,h2,c1,c2,dp,h⟩;cases r1.int;cases r2.int;refine Mn pins s σ H _ _ v u Q I rx ry {rfl,?_};have e:decide (V.int i=V.int j)=decide (i=j):=by simp
 rw[e];exact hR.now hS h<|bC _;cases r1.str;cases r2.str;refine Mn pins s σ H _ _ v u Q I rx ry {rfl,?_};have e:decide (V.str i=V.str j)=decide (i=j):=by simp
 rw[e];exact hR.now hS h<|bC _;exact G6 hu pins s σ H x y v u Q I rx ry {p,q,h1.dt hS r1,h2.dt hS r2,c1,c2,dp,hR.now hS h<|bC _}
noncomputable def bY(kvs:List<|Key×D)(k:Key):Option D:=(kvs.find? λkv=>decide<|kv.1=k).map (·.2)
noncomputable def dput(kvs:List<|Key×D)(k:Key)(v:D):List (Key×D):=if (kvs.any λkv=>decide<|kv.1=k)=true then kvs.map (λkv=>if kv.1=k then (kv.1,v) else kv) else kvs++[(k,v)]
noncomputable def xl(kvs:List<|Key×D)(k:Key):List (Key×D):=kvs.filter λkv=>decide<|kv.1≠k
theorem bO.val(h:bO K H ks vs)(k:Key):(∀d,bY ks k=some d->∃v,fR vs k=some v/\Rv K H d v)/\(bY ks k=none->fR vs k=none):=by induction h with|nil=>(exact{λd e=>(by cases e),λ_=>rfl})|@cons a b l m r t ih=>obtain⟨k',d⟩:=a;obtain⟨k'',v⟩:=b;obtain⟨e0,r⟩:=r;dsimp only at e0;subst e0;unfold bY fR;simp only[zT];by_cases q:k'=k;rw[zr q];exact{λd' e=>{v,rfl,(by cases e;exact r)},λe=>(by cases e)};rw[zo q];exact ih
theorem bO.any(h:bO K H ks vs)(k:Key):(ks.any λkv=>decide<|kv.1=k)=(vs.any λkv=>decide<|kv.1=k):=by induction h with|nil=>rfl|cons r t ih=>rw[yJ,yJ,ih,r.1]
theorem bO.len(h:bO K H ks vs):vs.length=ks.length:=(yD h).symm
theorem bO.app:∀{ks ls:List (κ×D)}{vs ws:List (κ×V)},bO K H ks vs->bO K H ls ws->bO K H (ks++ls) (vs++ws)|_,_,_,_,.nil,h=>h|_,_,_,_,.cons r t,h=>.cons r<|bO.app t h
theorem bO.Ob(h:bO K H ks vs)(k:Key)(rd:Rv K H d v):bO K H (ks.map λkv=>if kv.1=k then (kv.1,d) else kv) (vs.map λkv=>if kv.1=k then (kv.1,v) else kv):=by induction h with|nil=>exact .nil|@cons a b l m r t ih=>refine .cons ?_ ih;dsimp only;by_cases q:b.1=k;rw[if_pos q,if_pos<|r.1.trans q];exact⟨r.1,rd⟩;rw[if_neg q,if_neg λz=>q<|r.1.symm.trans z];exact r
theorem bO.put(h:bO K H ks vs)(k:Key)(rd:Rv K H d v):bO K H (dput ks k d) (putK vs k v):=by unfold dput putK;rw[h.any k];split;exact h.Ob k rd;exact h.app<|.cons ⟨rfl,rd⟩ .nil
theorem bO.drop(h:bO K H ks vs)(k:Key):bO K H (xl ks k) (oj vs k):=by unfold xl oj;induction h with|nil=>exact .nil|@cons a b l m r t ih=>rw[yz,yz,r.1];by_cases q:b.1=k;rw[if_neg<|by simp[q],if_neg<|by simp[q]];exact ih;rw[if_pos<|by simp[q],if_pos<|by simp[q]];exact .cons r ih
noncomputable def Bc:D->Option Key|.int i=>some (.inl i)|.str z=>some (.inr z)|_=>none
theorem m6(h:Bc d=some k)(r:Rv K H d v):v=kV k:=by cases d with|int i=>(cases h;exact r.int)|str i=>(cases h;exact r.str)|_=>cases h
noncomputable def km:D->Bool|.ax=>true|.bl _=>true|.int _=>true|.str _=>true|_=>false
noncomputable def lV:D->V|.ax=>.ax|.bl b=>.bl b|.int i=>.int i|.str z=>.str z|.ref a=>.ref a|.ty n=>.ty n|_=>.ax
theorem qC(h:km d=true)(r:Rv K H d v):v=lV d/\gE v=true:=by cases d with|ax=>(cases r.ax;exact⟨rfl,rfl⟩)|bl b=>(cases r.bl;exact⟨rfl,rfl⟩)|int b=>(cases r.int;exact⟨rfl,rfl⟩)|str b=>(cases r.str;exact⟨rfl,rfl⟩)|_=>cases h
theorem lW:∀{ds:List D}{vs:List V},ds.all km=true->RvAll K H ds vs->vs=ds.map lV/\vs.all gE=true|[],vs,_,r=>by rw[r.nil];exact⟨rfl,rfl⟩|d::ds,vs,h,r=>by obtain⟨y,ys,rfl,r1,r2⟩:=r.cons;rw[List.all_cons,zL]at h;obtain⟨e1,f1⟩:=qC h.1 r1;obtain⟨e2,f2⟩:=lW h.2 r2;refine{by rw[e1,e2];rfl,?_};rw[List.all_cons,f1,f2];rfl
def inD(neg:Bool):uW:=λx y S R=>match y with|.str j=>(∃i,x=.str i/\R (.bl<|if neg then !(!(Builtin.Str.occurrences j i 0 j.length 1).isEmpty) else !(Builtin.Str.occurrences j i 0 j.length 1).isEmpty) S)|.kt ds=>(km x=true/\ds.all km=true/\R (.bl<|if neg then !Ey (lV x) (ds.map lV) else Ey (lV x) (ds.map lV)) S)|.tup ds=>(km x=true/\ds.all km=true/\R (.bl<|if neg then !Ey (lV x) (ds.map lV) else Ey (lV x) (ds.map lV)) S)|.ref a=>((∃ds,S a=some (.lst ds)/\km x=true/\ds.all km=true/\R (.bl<|if neg then !Ey (lV x) (ds.map lV) else Ey (lV x) (ds.map lV)) S)\/∃kvs k,S a=some (.cA kvs)/\Bc x=some k/\R (.bl<|if neg then !(bY kvs k).isSome else (bY kvs k).isSome) S)|_=>False
theorem uZ(hS:Rs K S H)(e:S a=some (.cA kvs)):∃o,pf H a (kV k) o/\o.isSome=(bY kvs k).isSome/\∀d,bY kvs k=some d->∃v,o=some v/\Rv K H d v:=by obtain⟨vs,e1,t⟩:=hS.cA e;refine{_,pf.k e1,?_,λd h=>(t.val k).1 d h};cases q:bY kvs k with|none=>rw[(t.val k).2 q];rfl|some d=>obtain⟨v,e2,_⟩:=(t.val k).1 d q;rw[e2];rfl
theorem ET:pj K (compareOp .In) (inD false):=by rintro X hK hu pins s σ H x y v u Q I rx ry ⟨d,e,S,R,r1,r2,hS,h,hR⟩;subst hK;cases e with|str j=>(obtain⟨i,rfl,h⟩:=h;exact Em pins s σ H x y v u Q I rx ry {i,j,r1.str,r2.str,hR.now hS h<|bC _})|tup ds=>(obtain⟨f1,f2,h⟩:=h;obtain⟨a,xs,rfl,q,t⟩:=r2.tup;obtain⟨e1,g1⟩:=qC f1 r1;obtain⟨e2,g2⟩:=lW f2 t;subst e1 e2;exact mU pins s σ H _ _ v u Q I rx ry {a,_,rfl,.inr<|.of q,g1,g2,hR.now hS h<|bC _})|kt ds=>(obtain⟨f1,f2,h⟩:=h;obtain⟨a,xs,rfl,q,t⟩:=r2.kt;obtain⟨e1,g1⟩:=qC f1 r1;obtain⟨e2,g2⟩:=lW f2 t;subst e1 e2;exact mU pins s σ H _ _ v u Q I rx ry {a,_,rfl,.inr<|.inr q,g1,g2,hR.now hS h<|bC _})|ref a=>(cases r2.ref;rcases h with⟨ds,e,f1,f2,h⟩|⟨kvs,k,e,hk,h⟩;obtain⟨xs,e1,t⟩:=hS.lst e;obtain⟨e2,g1⟩:=qC f1 r1;obtain⟨e3,g2⟩:=lW f2 t;subst e2 e3;exact mU pins s σ H _ _ v u Q I rx ry {a,_,rfl,.inl<|.of e1,g1,g2,hR.now hS h<|bC _};cases m6 hk r1;cases ry;obtain⟨o,g,e1,_⟩:=uZ (k:=k) hS e;refine W5 (by lia) I g rx λs' I'=>{.bl o.isSome,H,I',rfl,?_};rw[e1];exact hR.now hS h<|bC _)|_=>exact h.elim
def IxD(K:Frag)(r:uW):Prop:=∀X:Cx,X.K=K->X.A.units+64<cLine->RX X (Lr K r)
inductive VM (ds:List D) (i:Int) (S:av) (R:KD):Prop where
 |mk (d:D) (h:uG ds i=some d) (r:R d S):VM ds i S R
inductive XT (a:Addr) (i:Int) (S:av) (R:KD):Prop where
 |mk (ds:List D) (d:D) (e:S a=some (.lst ds)) (h:uG ds i=some d) (r:R d S):XT a i S R
def ixD:uW:=λx y S R=>match x,y with|.tup ds,.int i=>VM ds i S R|.kt ds,.int i=>VM ds i S R|.iM ds,.int i=>VM ds i S R|.str z,.int i=>∃c,z.length<=sizeLine/\uG z.cps.toList i=some c/\R (.str ⟨#[c]⟩) S|.ref a,.int i=>XT a i S R|.ref a,.str z=>∃kvs d,S a=some (.cA kvs)/\bY kvs (.inr z)=some d/\R d S|_,_=>False
theorem RvAll.at{H:Hp}{ds:List D}{xs:List V}{i:Int}{d:D}(h:RvAll K H ds xs)(e:uG ds i=some d):∃v,uG xs i=some v/\Rv K H d v:=by unfold uG at e⊢;rw[h.len];cases q:Jz ds.length i with|none=>(rw[q]at e;cases e)|some j=>rw[q]at e;exact h.get e
theorem XU:IxD K ixD:=by rintro X hK hu value slice pins s σ H x y v u Q I rx ry ⟨d,e,S,R,r1,r2,hS,h,hR⟩ hs;subst hK;cases d with|tup ds=>(cases e with|int i=>(obtain⟨d,e,h⟩:=h;obtain⟨a,xs,rfl,q,t⟩:=r1.tup;obtain⟨z,e1,r⟩:=t.at e;exact GJ value slice pins s σ H _ _ v u Q I rx ry {a,xs,i,z,rfl,r2.int,.of q,e1,hR.now hS h r} hs)|_=>exact h.elim)|kt ds=>(cases e with|int i=>(obtain⟨d,e,h⟩:=h;obtain⟨a,xs,rfl,q,t⟩:=r1.kt;obtain⟨z,e1,r⟩:=t.at e;exact GJ value slice pins s σ H _ _ v u Q I rx ry {a,xs,i,z,rfl,r2.int,.inr q,e1,hR.now hS h r} hs)|_=>exact h.elim)|iM ds=>(cases e with|int i=>(obtain⟨d,e,h⟩:=h;obtain⟨a,xs,rfl,q,t⟩:=r1.iM;obtain⟨z,e1,r⟩:=t.at e;exact CH value slice pins s σ H _ _ v u Q I rx ry {a,xs,i,z,rfl,r2.int,q.sq,e1,hR.now hS h r} hs)|_=>exact h.elim)|str w=>(cases e with|int i=>(obtain⟨c,e0,e,h⟩:=h;exact N3 value slice pins s σ H _ _ v u Q I rx ry {w,i,c,r1.str,r2.int,e0,e,hR.now hS h<|i7 _} hs)|_=>exact h.elim)|ref a=>(cases e with|int i=>(obtain⟨ds,d,e,e1,h⟩:=h;obtain⟨xs,e2,t⟩:=hS.lst e;obtain⟨z,e3,r⟩:=t.at e1;exact CH value slice pins s σ H _ _ v u Q I rx ry {a,xs,i,z,r1.ref,r2.int,.of e2,e3,hR.now hS h r} hs)|str w=>(obtain⟨kvs,d,e,e1,h⟩:=h;cases r1.ref;cases r2.str;cases rx;obtain⟨o,g,_,e2⟩:=uZ (k:=.inr w) hS e;obtain⟨z,rfl,r⟩:=e2 d e1;exact tail_any (wW I g) PySem.F.slot_dict_getitem.lookup (EA (by lia) I g ry λw' s' I' pe=>{z,H,I',pe,hR.now hS h r}) hs)|_=>exact h.elim)|_=>exact h.elim
theorem ix(hu:X.A.units+64<cLine)(ha:DE K X a ta)(hb:DE K X b tb)(hs:CG b:=by exact λ_ _=>rfl)(hK:autoParam (X.K=K) qQJ):DE K X (.Subscript a b pos) (OP ixD ta tb):=⟨λy=>(RY (XU y.cx hK hu) (ha.of y) (hb.of y) hs).mono λ_ _ _ h=>h.op⟩
end
section
variable{K:Frag}{X:Cx}
abbrev QP:=SD->av->(Option Int->av->Prop)->KX->Prop
def To(K:Frag)(E:St->XK)(t:QP):TO:=λτ H Q=>∃σ S R Z,fS K H σ τ/\Rs K S H/\t σ S R Z/\(∀o S' H',R o S'->Rs K S' H'->Kp K H H'->Q o H')/\ES K H Z (E τ)
structure DO(K:Frag)(X:Cx)(e:Option Expr)(t:QP):Prop where
 of:∀{b:Bool}(y:Ev X b),PO y.cx e<|To K y.E t
theorem PO.mono{t t':TO}(h:PO X e t)(i:∀τ H Q,t' τ H Q->t τ H Q):PO X e t':=λpins s τ H Q I q=>h pins s τ H Q I<|i τ H Q q
def SS:QP:=λ_ S R _=>R none S
inductive SU (d:D) (S:av) (R:Option Int->av->Prop):Prop where
 |mk (i:Int) (h:d=.int i) (r:R (some i) S):SU d S R
def SV(t:TD):QP:=λσ S R Z=>t σ S (λd S1=>SU d S1 R) Z
theorem o0:DO K X none SS:=⟨λy=>(J5 (X:=y.cx)).mono <| by rintro τ H Q ⟨σ,S,R,Z,aD,hS,q,hR,hZ⟩;exact hR _ S H q hS<|.refl _⟩
theorem o1{t:TD}(h:DE K X e t):DO K X (some e) (SV t):=⟨λy=>(CD<|h.of y).mono <| by rintro τ H Q ⟨σ,S,R,Z,aD,hS,q,hR,hZ⟩;exact{σ,S,_,Z,aD,hS,q,by rintro d S1 x H1 ⟨i,e,r1⟩ v1 s1 k1;exact by subst e;exact{i,v1.int,hR _ S1 H1 r1 s1 k1},hZ}⟩
noncomputable def bQ{α:Type}(xs:List α)(lo hi:Option Int):List α:=(xs.drop<|HT.sIx xs.length 0 lo).take<|HT.sIx xs.length xs.length hi-HT.sIx xs.length 0 lo
theorem RvAll.cut{H:Hp}{ds:List D}{xs:List V}(h:RvAll K H ds xs)(lo hi:Option Int):RvAll K H (bQ ds lo hi) (Ex xs lo hi):=by unfold bQ Ex;rw[h.len];exact(h.drop _).take _
def XW(te:TD):TD:=λσ S R Z=>te σ S (λx S1=>∃ds,wG S1 x ds/\∀p,S1 p=none->R (.ref p) (S1.set p<|.lst ds.reverse)) Z
theorem XX(he:DE K X e te)(hK:autoParam (X.K=K) qQJ):DE K X (.Subscript e (.Slice none none (some<|.UnaryOp .USub (.Constant (.int 1) j p3) p4) p2) pos) (XW te):=
 ⟨λy=>(OO (X:=y.cx) hK (he.of y) (CD<|Ml Gz Gq) λ_ _ _ h=>⟨_,rfl,_,rfl,h⟩).mono <| by rintro τ H Q ⟨σ,S,R,Z,aD,hS,q,hR,hZ⟩;exact
  ⟨σ,S,_,Z,aD,hS,q,by
   rintro d S1 x H1 ⟨ds,h1,r1⟩ v1 s1 k1
   obtain⟨a,xs,rfl,q,t⟩:=h1.at s1 v1
   exact{a,xs,rfl,q,λp hp=>(hR.kp k1).new s1 hp (r1 p) t.rev},hZ⟩⟩
def XY(te:TD):TD:=λσ S R Z=>te σ S (λx S1=>∃i,x=.int i/\R (.int (-i)) S1) Z
theorem OQ(he:DE K X e te):DE K X (.UnaryOp .USub e pos) (XY te):=⟨λy=>(Ml Gz<|he.of y).mono <| by rintro τ H Q ⟨σ,S,R,Z,aD,hS,q,hR,hZ⟩;exact{σ,S,_,Z,aD,hS,q,by rintro d S1 x H1 ⟨i,e,r1⟩ v1 s1 k1;exact by subst e;exact{i,v1.int,hR _ S1 _ H1 r1 (aL _) s1 k1},hZ}⟩
def XZ(T:String)(S:av):D->Prop|.str _=>T ="str"|.ref a=>T ="list"/\∃ds,S a=some (.lst ds)|.iM _=>T ="list"|_=>False
theorem MF{H:Hp}{S:av}{T:String}{d:D}{v:V}(h:XZ T S d)(hS:Rs K S H)(r:Rv K H d v):VC K T v H:=by cases d with|str z=>rw[r.str];exact h|ref a=>(obtain⟨e,ds,h⟩:=h;obtain⟨xs,e1,_⟩:=hS.lst h;rw[r.ref];exact .inl {e,xs,.of e1})|iM ds=>(obtain⟨a,xs,rfl,q,_⟩:=r.iM;exact .inl ⟨h,xs,q.sq⟩)|_=>exact h.elim
abbrev Hm:=D->List D->av->KD->Prop
def Lm(K:Frag)(r:Hm):V->List V->Hp->VK->Prop:=λx xs H Q=>∃d ds S R,Rv K H d x/\RvAll K H ds xs/\Rs K S H/\r d ds S R/\Cn K H R Q
def OR(K:Frag)(id:String)(r:Hm):Prop:=∀X:Cx,X.K=K->QE X id (Lm K r)
def dBM(T:String)(r:Hm)(to:TD)(t:iN):TD:=λσ S R Z=>to σ S (λx S1=>XZ T S1 x/\t σ S1 (λds S2=>r x ds S2 R) Z) Z
def X0(T:String)(r:Hm)(to:TD):TD:=λσ S R Z=>to σ S (λx S1=>XZ T S1 x/\r x [] S1 R) Z
theorem bm{o e:Expr}{es:List Expr}{T id:String}{name:Str}{r:Hm}{to:TD}{t:iN}{apos aN:Pos}(pa:PlainAttrs T)(slot:Slot T name id)(N7:typeOf (.builtin id)=pure (.type "method_descriptor"))(hm:OR K id r)(ho:DE K X o to)(ha:DA K X (e::es) t) (lP:autoParam (attributeBase o name X.env (eval o X.env)=eval o X.env) qQJ) (N8:autoParam (((backTo aN<|starEach (e::es) X.env).all (λx=>!x.1)&&(backToKw aN<|keywordEach [] X.env).all (λx=>x.1.isSome)&&decide ((e::es).length+([]:List Keyword).length+(if ([]:List Keyword).isEmpty then 0 else 1)<30))=true) qQJ) (qj:autoParam ((apos.endLine==aN.line)=true) qQJ) (hs:autoParam (starEach (e::es) X.env=(false,eval e X.env)::starEach es X.env) qQJ) (AH:autoParam ((backTo aN<|starEach es X.env).any (·.1)=false) qQJ) (hK:autoParam (X.K=K) qQJ): DE K X (.Call (.Attribute o name apos) (e::es) [] aN) (dBM T r to t):=by
 subst hK
 exact⟨λy=>(R1 (X:=y.cx) pa slot N7 (hm _ rfl) (ho.of y) (ha.of y) lP N8 qj hs AH).mono <| by rintro τ H Q ⟨σ,S,R,Z,aD,hS,q,hR,hZ⟩;exact
  ⟨σ,S,_,Z,aD,hS,q,by rintro d S1 x H1 ⟨h1,r1⟩ v1 s1 k1;exact⟨MF h1 s1 v1,σ,S1,_,Z,aD.ts k1,s1,r1,λds S2 xs H2 r2 v2 s2 k2=>⟨d,ds,S2,R,Rv.ts k2 _ v1,v2,s2,r2,hR.kp<|k1.trans k2⟩,hZ.kp k1⟩,hZ⟩⟩
theorem Z8{o:Expr}{T id:String}{name:Str}{r:Hm}{to:TD}{apos aN:Pos}(pa:PlainAttrs T)(slot:Slot T name id)(N7:typeOf (.builtin id)=pure (.type "method_descriptor"))(hm:OR K id r)(ho:DE K X o to) (lP:autoParam (attributeBase o name X.env (eval o X.env)=eval o X.env) qQJ) (qj:autoParam ((apos.endLine==aN.line)=true) qQJ) (hK:autoParam (X.K=K) qQJ): DE K X (.Call (.Attribute o name apos) [] [] aN) (X0 T r to):=by
 subst hK
 exact⟨λy=>(N6 (X:=y.cx) pa slot N7 (hm _ rfl) (ho.of y) lP qj).mono <| by rintro τ H Q ⟨σ,S,R,Z,aD,hS,q,hR,hZ⟩;exact
  ⟨σ,S,_,Z,aD,hS,q,by rintro d S1 x H1 ⟨h1,r1⟩ v1 s1 k1;exact⟨MF h1 s1 v1,d,[],S1,R,v1,bq,s1,r1,hR.kp k1⟩,hZ⟩⟩
theorem RvAll.one(h:RvAll K H [d] xs):∃v,xs=[v]/\Rv K H d v:=by obtain⟨y,ys,rfl,h1,h2⟩:=h.cons;rw[h2.nil];exact⟨y,rfl,h1⟩
inductive SW (x:D) (ds:List D) (S:av) (R:KD):Prop where
 |mk (a:Addr) (es:List D) (d:D) (e1:x=.ref a) (e2:ds=[d]) (e3:S a=some (.lst es)) (e4:es.length<sizeLine) (r:R .ax<|S.set a<|.lst<|es++[d]):SW x ds S R
def KR:Hm:=λx ds S R=>SW x ds S R
theorem dy:OR K "list.append" KR:=by rintro X hK pins s σ H x xs v us Q I rx rs ⟨d,ds,S,R,r1,r2,hS,⟨a,es,y,e1,e2,e3,hl,h⟩,hR⟩;subst e1 e2;obtain⟨w0,rfl,q2⟩:=r2.one;obtain⟨zs,e4,t⟩:=hS.lst e3;exact Ez pins s σ H x _ v us Q I rx rs {a,zs,w0,r1.ref,rfl,e4,by rw[t.len];exact hl,hR.put hS e3 h i6<|t.app<|aO q2 bq}
def X1:Hm:=λx ds S R=>∃a es d,x=.ref a/\ds=[]/\S a=some (.lst es)/\es[es.length-1]?=some d/\R d (S.set a<|.lst es.dropLast)
theorem S_:OR K "list.pop" X1:=by rintro X hK pins s σ H x xs v us Q I rx rs ⟨d,ds,S,R,r1,r2,hS,⟨a,es,y,e1,e2,e3,hl,h⟩,hR⟩;subst e1 e2;obtain⟨zs,e4,t⟩:=hS.lst e3;obtain⟨w,e5,r⟩:=t.get hl;exact N_ pins s σ H x _ v us Q I rx rs {a,zs,w,r1.ref,r2.nil,e4,by rw[t.len];exact e5,hR.put hS e3 h r t.dropLast}
def KU:Hm:=λx ds S R=>∃(es:List D)(d:D)(j:Nat),ds=[d]/\wG S x es/\km d=true/\es.all km=true/\(∃z,es[j]?=some z/\eqV (lV z) (lV d)=true)/\(∀m u,m<j->es[m]?=some u->eqV (lV u) (lV d)=false)/\R (.int j) S
theorem Hn:OR K "list.index" KU:=by rintro X hK pins s σ H x xs v us Q I rx rs ⟨d,ds,S,R,r1,r2,hS,⟨es,y,j,e2,e3,f1,f2,⟨z,e4,e5⟩,h4,h⟩,hR⟩;subst hK e2;obtain⟨w0,rfl,q2⟩:=r2.one;obtain⟨a,zs,rfl,q,t⟩:=e3.at hS r1;obtain⟨g1,g2⟩:=qC f1 q2;obtain⟨g3,g4⟩:=lW f2 t;subst g1 g3;refine ER pins s σ H _ _ v us Q I rx rs {a,_,_,lV z,j,rfl,rfl,q,g2,g4,by rw[zq,e4];rfl,e5,λm u hm e=>?_,hR.now hS h<|aL _};rw[zq]at e;cases q2:es[m]? with|none=>(rw[q2]at e;cases e)|some u'=>rw[q2]at e;cases e;exact h4 m u' hm q2
def KW:Hm:=λx ds S R=>∃z y,x=.str z/\ds=[.str y]/\R (.bl<|PySem.Txt.startswith z y) S
theorem Ho:OR K "str.startswith" KW:=by rintro X hK pins s σ H x xs v us Q I rx rs ⟨d,ds,S,R,r1,r2,hS,⟨z,y,e1,e2,h⟩,hR⟩;subst e1 e2;obtain⟨w0,rfl,q2⟩:=r2.one;exact sI pins s σ H _ _ v us Q I rx rs {z,y,r1.str,by rw[q2.str],hR.now hS h<|bC _}
def Tc(S:av)(R:KD):D->Prop|.str z=>z.length<=sizeLine/\R (.int z.length) S|.tup es=>R (.int es.length) S|.kt es=>R (.int es.length) S|.iM es=>R (.int es.length) S|.ref a=>(∃es,S a=some (.lst es)/\R (.int es.length) S)\/∃kvs,S a=some (.cA kvs)/\R (.int kvs.length) S|_=>False
inductive Td (ds:List D) (S:av) (R:KD):Prop where
 |mk (x:D) (h:ds=[x]) (r:Tc S R x):Td ds S R
def X2:List D->av->KD->Prop:=λds S R=>Td ds S R
theorem aY:fW K (.builtin "len") X2:=by rintro X hK hc pins s σ H xs us Q I rx ⟨ds,S,R,r,hS,⟨x,e,h⟩,hR⟩;subst hK e;obtain⟨w,rfl,r'⟩:=r.one;cases x with|str z=>(cases r'.str;exact iY pins s σ H _ us Q I rx {_,_,rfl,⟨h.1,rfl⟩,hR.now hS h.2<|aL _})|tup es=>(obtain⟨a,xs,rfl,q,t⟩:=r'.tup;exact iY pins s σ H _ us Q I rx {_,_,rfl,.inr {xs,.of q,t.len.symm},hR.now hS h<|aL _})|kt es=>(obtain⟨a,xs,rfl,q,t⟩:=r'.kt;exact iY pins s σ H _ us Q I rx {_,_,rfl,.inr {xs,.inr q,t.len.symm},hR.now hS h<|aL _})|iM es=>(obtain⟨a,xs,rfl,q,t⟩:=r'.iM;exact iY pins s σ H _ us Q I rx {_,_,rfl,.inl ⟨xs,q.sq,t.len.symm⟩,hR.now hS h<|aL _})|ref a=>(cases r'.ref;rcases h with⟨es,e,h⟩|⟨kvs,e,h⟩;obtain⟨xs,e1,t⟩:=hS.lst e;exact iY pins s σ H _ us Q I rx {_,_,rfl,.inl {xs,.of e1,t.len.symm},hR.now hS h<|aL _};obtain⟨xs,e1,t⟩:=hS.cA e;exact EF pins s σ H _ us Q I rx {a,xs,rfl,e1,by rw[t.len];exact hR.now hS h<|aL _})|_=>exact h.elim
def OS(S:av):D->Kd->Prop|.ax,k=>k=.ax|.bl _,k=>k=.bl|.int _,k=>k=.int|.str _,k=>k=.str|.ref a,k=>(k=.lst/\∃ds,S a=some (.lst ds))\/(k=.cA/\∃ds,S a=some (.cA ds))|.tup _,k=>k=.tup|_,_=>False
theorem Te(h:OS S d k)(hS:Rs K S H)(r:Rv K H d v):qq H v k:=by cases d with|ax=>(cases h;rw[r.ax];exact .ax)|bl b=>(cases h;rw[r.bl];exact .bl b)|int b=>(cases h;rw[r.int];exact .int b)|str b=>(cases h;rw[r.str];exact .str b)|tup b=>(cases h;obtain⟨a,xs,rfl,q,_⟩:=r.tup;exact .tup q)|ref a=>(rw[r.ref];rcases h with⟨rfl,ds,h⟩|⟨rfl,ds,h⟩;obtain⟨xs,e,_⟩:=hS.lst h;exact .lst e;obtain⟨xs,e,_⟩:=hS.cA h;exact .cA e)|_=>exact h.elim
inductive Tf (ds:List D) (S:av) (R:KD):Prop where
 |mk (x:D) (n:String) (k:Kd) (g:Kd->Bool) (e:ds=[x,.ty n]) (a:w6 n=some g) (b:OS S x k) (r:R (.bl<|g k) S):Tf ds S R
def X3:List D->av->KD->Prop:=λds S R=>Tf ds S R
theorem RvAll.two(h:RvAll K H [d,e] xs):∃v u,xs=[v,u]/\Rv K H d v/\Rv K H e u:=by obtain⟨y,ys,rfl,h1,h2⟩:=h.cons;obtain⟨u,rfl,h3⟩:=h2.one;exact⟨y,u,rfl,h1,h3⟩
theorem cK:fW K (.builtin "isinstance") X3:=by rintro X hK hc pins s σ H xs us Q I rx ⟨ds,S,R,r,hS,⟨x,n,k,g,e,h1,h2,h⟩,hR⟩;subst hK e;obtain⟨v,u,rfl,r1,r2⟩:=r.two;rw[r2.ty]at rx;exact G4 pins s σ H _ us Q I rx {v,n,k,g,rfl,h1,Te h2 hS r1,hR.now hS h<|bC _}
inductive Th (ds:List D) (S:av) (f:List Bool->Bool) (R:KD):Prop where
 |mk (x:D) (bs:List Bool) (e:ds=[x]) (h:wG S x<|bs.map D.bl) (r:R (.bl<|f bs) S):Th ds S f R
def Tj:List D->av->KD->Prop:=λds S R=>Th ds S (λbs=>bs.all id) R
theorem ko:fW K (.builtin "all") Tj:=by rintro X hK hc pins s σ H xs us Q I rx ⟨ds,S,R,r,hS,⟨x,bs,e,h1,h⟩,hR⟩;subst hK e;obtain⟨v,rfl,r1⟩:=r.one;obtain⟨a,zs,rfl,q,t⟩:=h1.at hS r1;rw[t.bools]at q;exact sC hc pins s σ H _ us Q I rx {a,bs,rfl,q,hR.now hS h<|bC _}
def X4:List D->av->KD->Prop:=λds S R=>∃(x:D)(bs:List Bool),ds=[x]/\wG S x (bs.map D.bl)/\R (.bl<|bs.any id) S
theorem Tp:fW K (.builtin "any") X4:=by rintro X hK hc pins s σ H xs us Q I rx ⟨ds,S,R,r,hS,⟨x,bs,e,h1,h⟩,hR⟩;subst hK e;obtain⟨v,rfl,r1⟩:=r.one;obtain⟨a,zs,rfl,q,t⟩:=h1.at hS r1;rw[t.bools]at q;exact sD hc pins s σ H _ us Q I rx {a,bs,rfl,q,hR.now hS h<|bC _}
def intD:List D->av->KD->Prop:=λds S R=>(∃i,ds=[.int i]/\R (.int i) S)\/∃k,ds=[.bl k]/\R (.int<|if k then 1 else 0) S
theorem Hq:fW K (.type "int") intD:=by rintro X hK hc pins s σ H xs us Q I rx ⟨ds,S,R,r,hS,h,hR⟩;rcases h with⟨i,rfl,h⟩|⟨k,rfl,h⟩;obtain⟨v,rfl,r1⟩:=r.one;exact tH pins s σ H _ us Q I rx<|.inl {i,by rw[r1.int],hR.now hS h<|aL _};obtain⟨v,rfl,r1⟩:=r.one;exact tH pins s σ H _ us Q I rx<|.inr {k,by rw[r1.bl],hR.now hS h<|aL _}
def Tq:List D->av->KD->Prop:=λds S R=>∃x es,ds=[x]/\(wG S x es\/x=.tup es)/\∀p,S p=none->R (.ref p) (S.set p<|.lst es)
theorem OT:fW K (.type "list") Tq:=by rintro X hK hc pins s σ H xs us Q I rx ⟨ds,S,R,r,hS,⟨x,es,e,h1,h⟩,hR⟩;subst hK e;obtain⟨v,rfl,r1⟩:=r.one;rcases h1 with h1|rfl;obtain⟨a,zs,rfl,q,t⟩:=h1.at hS r1;exact lO pins s σ H _ us Q I rx {a,zs,rfl,.inl q,λp hp=>hR.new hS hp (h p) t};obtain⟨a,zs,rfl,q,t⟩:=r1.tup;exact lO pins s σ H _ us Q I rx {a,zs,rfl,.inr<|.of q,λp hp=>hR.new hS hp (h p) t}
inductive Tr (ds:List D) (S:av) (R:KD):Prop where
 |mk (x:D) (es:List D) (e:ds=[x]) (h:wG S x es\/x=.tup es) (r:R (.tup es) S):Tr ds S R
def OU:List D->av->KD->Prop:=λds S R=>Tr ds S R
theorem fX:fW K (.type "tuple") OU:=by rintro X hK hc pins s σ H xs us Q I rx ⟨ds,S,R,r,hS,⟨x,es,e,h1,h⟩,hR⟩;subst hK e;obtain⟨v,rfl,r1⟩:=r.one;rcases h1 with h1|rfl;obtain⟨a,zs,rfl,q,t⟩:=h1.at hS r1;exact ke pins s σ H _ us Q I rx {a,zs,rfl,.inl {q,λp hp=>hR.XJ hS hp h t}};obtain⟨a,zs,rfl,q,t⟩:=r1.tup;exact ke pins s σ H _ us Q I rx {a,zs,rfl,.inr {.of q,hR.now hS h<|mY q t}}
def minD(f:Int->Int->Bool):List D->av->KD->Prop:=λds S R=>∃i j,ds=[.int i,.int j]/\R (.int<|if f j i then j else i) S
theorem MG:fW K (.builtin "min") (minD λa b=>decide<|a<b):=by rintro X hK hc pins s σ H xs us Q I rx ⟨ds,S,R,r,hS,⟨i,j,e,h⟩,hR⟩;subst e;obtain⟨v,u,rfl,r1,r2⟩:=r.two;refine Er hc pins s σ H _ us Q I rx {i,j,by rw[r1.int,r2.int],?_};have:=hR.now hS h<|aL _;simpa using this
theorem Ts:fW K (.builtin "max") (minD λa b=>decide<|b<a):=by rintro X hK hc pins s σ H xs us Q I rx ⟨ds,S,R,r,hS,⟨i,j,e,h⟩,hR⟩;subst e;obtain⟨v,u,rfl,r1,r2⟩:=r.two;refine Ep hc pins s σ H _ us Q I rx {i,j,by rw[r1.int,r2.int],?_};have:=hR.now hS h<|aL _;simpa using this
end
abbrev iV:=List D->av->KD->KX->Prop
def pq(K:Frag)(sp:iV):Sp:=λvs H Q e=>∃ds S R Z,RvAll K H ds vs/\Rs K S H/\sp ds S R Z/\Cn K H R Q/\ES K H Z e
section
variable{K:Frag}{X:Cx}{k:Nat}{f C:Addr}{fd:FuncData}{ps:List Str}{sp:Sp}{pb:List V}{ds:List Value}{x m:Str}{p pos apos:Pos}{e o:Expr}{es:List Expr}{b:Bool}{y:Ev X b}
theorem u0(F:bB X.prog X.w X.K X.mg X.base (fb X.prog X.w X.mg) k f fd ps sp)(hr:bM k X.A)(hb:Binds X.K fd ps ds)(hd:Vals pb ds) (I:Inv y.cx p2 σ H s) (r:Vals vs us) (h:sp (vs++pb) H Q<|y.E σ):wpAny (model X.prog X.w) X.A (call (.ref f) us) (EP y.cx p2 σ Q) y.xe s:=by
 have r2:Vals (vs++pb) (us++ds):=r.append hd;have hl:(us++ds).length=ps.length:=by rw[<-r2.length];exact F.len _ _ _ _ h
 refine wpAny_call<|yL (F.run X.A X.stack s H {us,[]} (us++ds) (vs++pb) Q (y.E σ) hr I.RT (hb s us I.lE hl) r2 h) λres s' hq=>?_;cases res with|error e=>exact y.ok.call p2 σ H s e s' I hq|ok fl=>cases fl with|ret u=>exact I.after hq|next=>exact False.elim hq|brk=>exact False.elim hq|cont=>exact False.elim hq
theorem Hr{t:TA}(F:bB X.prog X.w X.K X.mg X.base (fb X.prog X.w X.mg) k f fd ps sp)(hr:bM k X.A)(hg:Gl X x)(hm:X.mg x=some (.ref f))(hk:keepIn X.K (.ref f)=true)(hb:Binds X.K fd ps ds)(hd:Vals pb ds) (ha:PA y.cx (e::es) t) (kK:(x==("__debug__": Str))=false) (he:starEach (e::es) X.env=(false,eval e X.env)::starEach es X.env) (du:(backTo pos<|starEach es X.env).any (·.1)=false): PE y.cx (.Call (.Name x p) (e::es) [] pos) (λσ H Q=>t σ H λvs H1=>sp (vs++pb) H1 Q<|y.E σ):=by intro p2 s σ H Q I h;refine wpAny_Call_Name_kw<|lL I hg hm ?_ kK;refine callWith_K (h₀:=X.base) I.ok.mod.Qy hk (bf (ha pos p2 s σ H _ I h) λus s1 ⟨vs,H1,I1,r,q⟩=>{I1.lE,?_}) he du;exact u0 F hr hb hd I1 r q
theorem Hs{pl:Sem Bool}{ta:TE}{t:TA}(he:PE y.cx o ta)(c:qd X.K C)(hm:Meth X.K C m f)(F:bB X.prog X.w X.K X.mg X.base (fb X.prog X.w X.mg) k f fd ps sp)(hr:bM k X.A)(hb:Binds X.K fd ps ds)(hd:Vals pb ds)(ha:PA y.cx (e::es) t)
  (og:starEach (e::es) X.env=(false,eval e X.env)::starEach es X.env) (du:(backTo pos<|starEach es X.env).any (·.1)=false)
  (ht:eval (.Call (.Attribute o m apos) (e::es) [] pos) X.env=(do
   let ov <-eval o X.env
   standAt apos.atName
   let (f,first) <-holding [ov] (getMethod ov m pl)
   callWith pos f first (backTo pos<|starEach (e::es) X.env) (backToKw pos<|keywordEach [] X.env))):
  PE y.cx (.Call (.Attribute o m apos) (e::es) [] pos) (λσ H Q=>ta σ H λx H1=>∃a dx fs,x=.ref a/\H1 a=some (.ins C dx fs)/\fs.lookup m=none/\t σ H1 λvs H2=>sp (x::(vs++pb)) H2 Q<|y.E σ):=by
 intro p2 s σ H Q I h
 refine methodCall_KW (pl:=pl) (bf (he p2 s σ H _ I h) λu s1 ⟨x,H1,I1,rx,a,dx,fs,ex,ea,l,q⟩=>?_) ht
 subst ex
 obtain rfl:u=Value.ref a:=rx
 refine qf I1 ea c hm l ?_
 refine callWith_K (first:=[.ref a]) (h₀:=X.base) I.ok.mod.Qy hm.kp (bf (ha pos p2 s1 σ H1 _ I1 q) λus s2 ⟨vs,H2,I2,r,q2⟩=>{I2.lE,?_}) og du
 exact u0 (us:=.ref a::us) (vs:=.ref a::vs) F hr hb hd I2 (.cons rfl r) q2
theorem EU(he:PE y.cx o ta)(c:qd X.K C)(hm:Meth X.K C m f)(F:bB X.prog X.w X.K X.mg X.base (fb X.prog X.w X.mg) k f fd ps sp)(hr:bM k X.A)(hb:Binds X.K fd ps ds)(hd:Vals pb ds)
  (ht:eval (.Call (.Attribute o m apos) [] [] pos) X.env=(do
   let ov <-eval o X.env
   standAt apos.atName
   let (f,first) <-holding [ov] (getMethod ov m pl)
   callWith pos f first (backTo pos<|starEach [] X.env) (backToKw pos<|keywordEach [] X.env))):
  PE y.cx (.Call (.Attribute o m apos) [] [] pos) (λσ H Q=>ta σ H λx H1=>∃a dx fs,x=.ref a/\H1 a=some (.ins C dx fs)/\fs.lookup m=none/\sp (x::pb) H1 Q (y.E σ)):=by
 intro p2 s σ H Q I h
 refine methodCall_KW (pl:=pl) (bf (he p2 s σ H _ I h) λu s1 ⟨x,H1,I1,rx,a,dx,fs,ex,ea,l,q⟩=>?_) ht
 subst ex
 obtain rfl:u=Value.ref a:=rx
 refine qf I1 ea c hm l ?_
 exact PySem.W.callWith_K0 (first:=[.ref a]) I1.lE hm.kp<|u0 (us:=[.ref a]) (vs:=[.ref a]) F hr hb hd I1 (.cons rfl .nil) q
theorem EV(M:Mk X.K C f)(F:bB X.prog X.w X.K X.mg X.base (fb X.prog X.w X.mg) k f fd ps sp)(hr:bM (k+1) X.A)(hb:Binds X.K fd ps ds)(hd:Vals pb ds) (I:Inv y.cx p2 σ H s) (r:Vals vs us) (h:∀x dx,H x=none->H dx=none->dx≠x->sp (.ref x::(vs++pb)) (upd (upd H dx<|.own x) x<|.ins C dx []) (λv H2=>v=.ax/\Q (.ref x) H2) (y.E σ)): wpAny (model X.prog X.w) X.A (call (.ref C) us) (EP y.cx p2 σ Q) y.xe s:=by
 have hq:=h (s.heap.objs.size+1) s.heap.objs.size (I.aH.fresh<|yN _) (I.aH.fresh<|zk _)<|zy<|yx _;have I2:=Inv.made (C:=C) I;have r2:Vals (V.ref (s.heap.objs.size+1)::(vs++pb)) (Value.ref (s.heap.objs.size+1)::(us++ds)):=.cons rfl<|r.append hd;have hl:(Value.ref (s.heap.objs.size+1)::us++ds).length=ps.length:=by have e:=r2.length;rw[F.len _ _ _ _ hq]at e;exact e.symm
 refine wpAny_call<|GH (f:=f) I.lE M.makes M.init (beq_iff_eq.mp M.fn)<|yL (F.run _ X.stack _ _ {Value.ref (s.heap.objs.size+1)::us,[]} (Value.ref (s.heap.objs.size+1)::(us++ds)) _ _ (y.E σ) (hr.make C us []) (I2.RT.make C us []) (hb _ (Value.ref (s.heap.objs.size+1)::us) I2.lE hl) r2 hq) λr s' Gb=>?_;cases r with|error e=>exact y.ok.call p2 σ _ _ e s' I2 Gb|ok fl=>cases fl with|ret u=>(obtain⟨v,H',I3,rv,ev,q3⟩:=I2.after Gb;subst ev;exact{rv,{V.ref<|s.heap.objs.size+1,H',I3,rfl,q3}})|next=>exact False.elim Gb|brk=>exact False.elim Gb|cont=>exact False.elim Gb
theorem Ht{t:TA}(M:Mk X.K C f)(F:bB X.prog X.w X.K X.mg X.base (fb X.prog X.w X.mg) k f fd ps sp)(hr:bM (k+1) X.A)(hg:Gl X x)(hm:X.mg x=some (.ref C))(hb:Binds X.K fd ps ds)(hd:Vals pb ds) (ha:PA y.cx (e::es) t) (kK:(x==("__debug__": Str))=false) (he:starEach (e::es) X.env=(false,eval e X.env)::starEach es X.env) (du:(backTo pos<|starEach es X.env).any (·.1)=false): PE y.cx (.Call (.Name x p) (e::es) [] pos) (λσ H Q=>t σ H λvs H1=>∀x dx,H1 x=none->H1 dx=none->dx≠x->sp (.ref x::(vs++pb)) (upd (upd H1 dx<|.own x) x<|.ins C dx []) (λv H2=>v=.ax/\Q (.ref x) H2) (y.E σ)):=by intro p2 s σ H Q I h;refine wpAny_Call_Name_kw<|lL I hg hm ?_ kK;refine callWith_K (h₀:=X.base) I.ok.mod.Qy M.kp (bf (ha pos p2 s σ H _ I h) λus s1 ⟨vs,H1,I1,r,q⟩=>{I1.lE,?_}) he du;exact EV M F hr hb hd I1 r q
end
section
variable{K:Frag}{X:Cx}{k:Nat}{f C:Addr}{fd:FuncData}{ps:List Str}{sp:iV}{xm:List D}{pb:List V}{ds:List Value}{x m:Str}{p pos apos:Pos}{e o:Expr}{es:List Expr}
structure QQ(K:Frag)(xm:List D)(pb:List V)(ds:List Value):Prop where
 v:Vals pb ds
 d:∀H,RvAll K H xm pb
theorem d0:QQ K [] [] []:={.nil,λ_=>bq}
theorem d1:QQ K [.ax] [.ax] [.none]:={.cons rfl .nil,λ_=>aO i6 bq}
def MH(sp:iV)(xm:List D)(t:iN):TD:=λσ S R Z=>t σ S (λds S1=>sp (ds++xm) S1 R Z) Z
theorem cf{t:iN}(F:bB X.prog X.w K X.mg X.base (fb X.prog X.w X.mg) k f fd ps<|pq K sp)(hr:bM k X.A)(hm:X.mg x=some (.ref f))(hk:keepIn K (.ref f)=true)(hb:Binds K fd ps ds)(hd:QQ K xm pb ds)(ha:DA K X (e::es) t) (hg:autoParam (Gl X x) qQJ) (kK:autoParam ((x==("__debug__": Str))=false) qQZ) (he:autoParam (starEach (e::es) X.env=(false,eval e X.env)::starEach es X.env) qQJ) (du:autoParam ((backTo pos<|starEach es X.env).any (·.1)=false) qQJ) (hK:autoParam (X.K=K) qQJ): DE K X (.Call (.Name x p) (e::es) [] pos) (MH sp xm t):=by
 subst hK
 exact⟨λy=>(Hr F hr hg hm hk hb hd.v (ha.of y) kK he du).mono <| by rintro τ H Q ⟨σ,S,R,Z,aD,hS,q,hR,hZ⟩;exact
  ⟨σ,S,_,Z,aD,hS,q,λes S1 xs H1 r1 v1 s1 k1=>⟨es++xm,S1,R,Z,v1.app<|hd.d _,s1,r1,hR.kp k1,hZ.kp k1⟩,hZ⟩⟩
inductive MeR (C:Addr) (m:Str) (x:D) (S:av) (p:Prop):Prop where
 |mk (a:Addr) (fs:List<|Str×D) (e1:x=.ref a) (e2:S a=some (.ins C fs)) (e3:fs.lookup m=none) (r:p):MeR C m x S p
def CT(C:Addr)(m:Str)(sp:iV)(xm:List D)(ta:TD)(t:iN):TD:=λσ S R Z=>ta σ S (λx S1=>MeR C m x S1<|t σ S1 (λds S2=>sp (x::(ds++xm)) S2 R Z) Z) Z
theorem X5{t:iN}(he:DE K X o ta)(c:qd K C)(hm:Meth K C m f)(F:bB X.prog X.w K X.mg X.base (fb X.prog X.w X.mg) k f fd ps<|pq K sp)(hr:bM k X.A)(hb:Binds K fd ps ds)(hd:QQ K xm pb ds)(ha:DA K X (e::es) t)
  (og:autoParam (starEach (e::es) X.env=(false,eval e X.env)::starEach es X.env) qQJ) (du:autoParam ((backTo pos<|starEach es X.env).any (·.1)=false) qQJ)
  (ht:autoParam (eval (.Call (.Attribute o m apos) (e::es) [] pos) X.env=(do
   let ov <-eval o X.env
   standAt apos.atName
   let (f,first) <-holding [ov] (getMethod ov m pl)
   callWith pos f first (backTo pos<|starEach (e::es) X.env) (backToKw pos<|keywordEach [] X.env))) qQJ) (hK:autoParam (X.K=K) qQJ):
  DE K X (.Call (.Attribute o m apos) (e::es) [] pos) (CT C m sp xm ta t):=by
 subst hK
 exact⟨λy=>(Hs (he.of y) c hm F hr hb hd.v (ha.of y) og du ht).mono <| by rintro τ H Q ⟨σ,S,R,Z,aD,hS,q,hR,hZ⟩;exact
  ⟨σ,S,_,Z,aD,hS,q,by
   rintro d S1 x H1 ⟨a,fs,e1,e2,e3,r1⟩ v1 s1 k1
   subst e1
   obtain⟨dx,vs,e4,t4⟩:=s1.ins e2
   exact{a,dx,vs,v1.ref,e4,(t4.look m).2 e3,σ,S1,_,Z,aD.ts k1,s1,r1,λes S2 xs H2 r2 v2 s2 k2=>{_,S2,R,Z,aO (Rv.ts k2 _ v1)<|v2.app<|hd.d _,s2,r2,hR.kp<|k1.trans k2,hZ.kp<|k1.trans k2},hZ.kp k1},hZ⟩⟩
theorem Tu(he:DE K X o ta)(c:qd K C)(hm:Meth K C m f)(F:bB X.prog X.w K X.mg X.base (fb X.prog X.w X.mg) k f fd ps<|pq K sp)(hr:bM k X.A)(hb:Binds K fd ps ds)(hd:QQ K xm pb ds)
  (ht:autoParam (eval (.Call (.Attribute o m apos) [] [] pos) X.env=(do
   let ov <-eval o X.env
   standAt apos.atName
   let (f,first) <-holding [ov] (getMethod ov m pl)
   callWith pos f first (backTo pos<|starEach [] X.env) (backToKw pos<|keywordEach [] X.env))) qQJ) (hK:autoParam (X.K=K) qQJ):
  DE K X (.Call (.Attribute o m apos) [] [] pos) (CT C m sp xm ta KQ):=by
 subst hK
 exact⟨λy=>(EU (he.of y) c hm F hr hb hd.v ht).mono <| by rintro τ H Q ⟨σ,S,R,Z,aD,hS,q,hR,hZ⟩;exact
  ⟨σ,S,_,Z,aD,hS,q,by
   rintro d S1 x H1 ⟨a,fs,e1,e2,e3,r1⟩ v1 s1 k1
   subst e1
   obtain⟨dx,vs,e4,t4⟩:=s1.ins e2
   exact{a,dx,vs,v1.ref,e4,(t4.look m).2 e3,_,S1,R,Z,aO v1<|hd.d _,s1,r1,hR.kp k1,hZ.kp k1},hZ⟩⟩
def Tv(C:Addr)(sp:iV)(xm:List D)(t:iN):TD:=λσ S R Z=>t σ S (λds S1=>∀x,S1 x=none->sp (.ref x::(ds++xm)) (S1.set x<|.ins C []) (λd S2=>d=.ax/\R (.ref x) S2) Z) Z
theorem mk{t:iN}(M:Mk K C f)(F:bB X.prog X.w K X.mg X.base (fb X.prog X.w X.mg) k f fd ps<|pq K sp)(hr:bM (k+1) X.A)(hm:X.mg x=some (.ref C))(hb:Binds K fd ps ds)(hd:QQ K xm pb ds)(ha:DA K X (e::es) t) (hg:autoParam (Gl X x) qQJ) (kK:autoParam ((x==("__debug__": Str))=false) qQZ) (he:autoParam (starEach (e::es) X.env=(false,eval e X.env)::starEach es X.env) qQJ) (du:autoParam ((backTo pos<|starEach es X.env).any (·.1)=false) qQJ) (hK:autoParam (X.K=K) qQJ): DE K X (.Call (.Name x p) (e::es) [] pos) (Tv C sp xm t):=by
 subst hK
 exact⟨λy=>(Ht M F hr hg hm hb hd.v (ha.of y) kK he du).mono <| by rintro τ H Q ⟨σ,S,R,Z,aD,hS,q,hR,hZ⟩;exact
  ⟨σ,S,_,Z,aD,hS,q,λes S1 xs H1 r1 v1 s1 k1 x dx hx hdx ne=>by
   have Ha:upd H1 dx (.own x) x=none:=by rw[au ne.symm];exact hx
   have k2:Kp X.K H1 (upd (upd H1 dx<|.own x) x<|.ins C dx []):=(Kp.new hdx).trans<|Kp.new Ha
   exact{_,_,_,Z,aO (fi x)<|RvAll.ts k2 _<|v1.app<|hd.d _,(s1.grow hdx).new (c:=.ins C []) Ha {dx,[],aE,.nil},r1 x<|s1.fresh hx,by rintro d S2 v H2 ⟨e,r2⟩ v2 s2 k3;exact by subst e;exact{v2.ax,hR _ _ _ _ r2 (fi x) s2<|(k1.trans k2).trans k3},(hZ.kp k1).kp k2},hZ⟩⟩
inductive FlR (C:Addr) (f:Str) (x:D) (S:av) (R:KD):Prop where
 |mk (a:Addr) (fs:List<|Str×D) (d:D) (e1:x=.ref a) (e2:S a=some (.ins C fs)) (e3:fs.lookup f=some d) (r:R d S):FlR C f x S R
def X6(C:Addr)(f:Str)(ta:TD):TD:=λσ S R Z=>ta σ S (λx S1=>FlR C f x S1 R) Z
theorem fl{f:Str}{ta:TD}(c:qd K C)(n:iZ K C f)(he:DE K X e ta)(hb:autoParam (attributeBase e f X.env (eval e X.env)=eval e X.env) qQJ)(hK:autoParam (X.K=K) qQJ):DE K X (.Attribute e f pos) (X6 C f ta):=by
 subst hK
 exact⟨λy=>(NW (X:=y.cx) (he.of y) hb).mono <| by rintro τ H Q ⟨σ,S,R,Z,aD,hS,q,hR,hZ⟩;exact
  ⟨σ,S,_,Z,aD,hS,q,by
   rintro d S1 x H1 ⟨a,fs,y,e1,e2,e3,r1⟩ v1 s1 k1
   subst e1
   obtain⟨dx,vs,e4,t4⟩:=s1.ins e2
   obtain⟨v,e5,r5⟩:=(t4.look f).1 y e3
   exact{a,C,dx,vs,v,v1.ref,e4,c,n,e5,(hR.kp k1).now s1 r1 r5},hZ⟩⟩
end
structure tX where
 nx:SD->av->Prop
 rt:KD
 bk:SD->av->Prop:=λ_ _=>False
 ct:SD->av->Prop:=λ_ _=>False
abbrev jV:=tX->SD->av->(SD->KX)->Prop
def MI(K:Frag)(H:Hp)(R:SD->av->Prop)(Q:St->Hp->Prop):Prop:=∀σ S τ H',R σ S->fS K H' σ τ->Rs K S H'->Kp K H H'->Q τ H'
structure VN(K:Frag)(H:Hp)(De:tX)(Dv:Ends):Prop where
 nx:MI K H De.nx Dv.nx
 rt:Cn K H De.rt Dv.rt
 bk:MI K H De.bk Dv.bk
 ct:MI K H De.ct Dv.ct
def xn(K:Frag)(H:Hp)(Z:SD->KX)(E:St->XK):Prop:=∀σ τ C S H',Z σ C S->fS K H' σ τ->Rs K S H'->Kp K H H'->E τ (.ref C) none H'
section
variable{K:Frag}{H H1:Hp}{De:tX}{Dv:Ends}{Z:SD->KX}{E:St->XK}{σ:SD}{τ:St}{S:av}
theorem MI.kp(h:MI K H R Q)(k:Kp K H H1):MI K H1 R Q:=λσ S τ H' r a b c=>h σ S τ H' r a b<|k.trans c
theorem VN.kp(h:VN K H De Dv)(k:Kp K H H1):VN K H1 De Dv:={h.nx.kp k,h.rt.kp k,h.bk.kp k,h.ct.kp k}
theorem xn.kp(h:xn K H Z E)(k:Kp K H H1):xn K H1 Z E:=λσ τ C S H' r a b c=>h σ τ C S H' r a b<|k.trans c
theorem xn.at(h:xn K H Z E)(r:fS K H σ τ):ES K H (Z σ) (E τ):=λC S H' z s k=>h σ τ C S H' z (r.ts k) s k
theorem xn.on(h:xn K H Z E)(k:Kp K H H1)(r:fS K H1 σ τ):ES K H1 (Z σ) (E τ):=(h.kp k).at r
end
def Tl(K:Frag)(E:St->XK)(t:jV):TS:=λDv τ H=>∃σ S De Z,fS K H σ τ/\Rs K S H/\t De σ S Z/\VN K H De Dv/\xn K H Z E
structure DS(K:Frag)(X:Cx)(b:Bool)(st:Stmt)(t:jV):Prop where
 of:∀y:Ev X b,PS y.cx st<|Tl K y.E t
structure Bd(K:Frag)(X:Cx)(b:Bool)(st:List Stmt)(t:jV):Prop where
 of:∀y:Ev X b,Ap y.cx st<|Tl K y.E t
theorem PS.mono{t t':TS}(h:PS X e t)(i:∀D τ H,t' D τ H->t D τ H):PS X e t':=λpins s τ H D I q=>h pins s τ H D I<|i D τ H q
theorem Ap.mono{t t':TS}(h:Ap X e t)(i:∀D τ H,t' D τ H->t D τ H):Ap X e t':=λpins s τ H D I q=>h pins s τ H D I<|i D τ H q
section
variable{K:Frag}{X:Cx}{b:Bool}{pos:Pos}
def Tw:jV:=λDe σ S _=>De.nx σ S
def X7(t u:jV):jV:=λDe σ S Z=>t {De with nx:=λaC S'=>u De aC S' Z} σ S Z
theorem s0:Bd K X b [] Tw:=⟨λy=>(Cw (X:=y.cx)).mono <| by rintro D τ H ⟨σ,S,De,Z,aD,hS,q,hD,hZ⟩;exact hD.nx _ _ _ _ q aD hS<|.refl _⟩
theorem sc{st:Stmt}{r:List Stmt}{t u:jV}(h1:DS K X b st t)(h2:Bd K X b r u):Bd K X b (st::r) (X7 t u):=
 ⟨λy=>(Gs (h1.of y)<|h2.of y).mono <| by rintro D τ H ⟨σ,S,De,Z,aD,hS,q,hD,hZ⟩;exact
  ⟨σ,S,_,Z,aD,hS,q,⟨λuF S1 VO H1 r1 a b c=>⟨uF,S1,De,Z,a,b,r1,hD.kp c,hZ.kp c⟩,hD.rt,hD.bk,hD.ct⟩,hZ⟩⟩
theorem s1{st:Stmt}{t:jV}(h:DS K X b st t):Bd K X b [st] t:=⟨λy=>JP<|h.of y⟩
def Tx(t:TD):jV:=λDe σ S Z=>t σ S (λ_ S1=>De.nx σ S1)<|Z σ
theorem se{t:TD}(h:DE K X e t)(hs:autoParam (swapsWith e none pos.line X.env=pure false) qQJ):DS K X b (.Expr e pos) (Tx t):=⟨λy=>(JQ (X:=y.cx) (h.of y) hs).mono <| by rintro D τ H ⟨σ,S,De,Z,aD,hS,q,hD,hZ⟩;exact{σ,S,_,_,aD,hS,q,λd S1 v H1 r1 _ s1 k1=>hD.nx _ _ _ _ r1 (aD.ts k1) s1 k1,hZ.at aD}⟩
def X8(t:TD):jV:=λDe σ S Z=>t σ S De.rt<|Z σ
theorem sr{t:TD}(h:DE K X e t):DS K X b (.Return (some e) pos) (X8 t):=⟨λy=>(NB<|h.of y).mono <| by rintro D τ H ⟨σ,S,De,Z,aD,hS,q,hD,hZ⟩;exact{σ,S,_,_,aD,hS,q,hD.rt,hZ.at aD}⟩
def dIf(c:kL)(t u:jV):jV:=λDe σ S Z=>c σ S (λb S1=>if b=true then t De σ S1 Z else u De σ S1 Z)<|Z σ
theorem si{t u:jV}(hc:DT K X c tc)(ha:Bd K X b a t)(hb:Bd K X b a' u):DS K X b (.If c a a' pos) (dIf tc t u):=
 ⟨λy=>(Rz (hc.of y) (ha.of y)<|hb.of y).mono <| by rintro D τ H ⟨σ,S,De,Z,aD,hS,q,hD,hZ⟩;exact
  ⟨σ,S,_,_,aD,hS,q,λc S1 H1 r1 s1 k1=>by
   cases c with
   |true=>rw[if_pos rfl]at r1⊢;exact{σ,S1,De,Z,aD.ts k1,s1,r1,hD.kp k1,hZ.kp k1}
   |false=>rw[if_neg zd]at r1⊢;exact{σ,S1,De,Z,aD.ts k1,s1,r1,hD.kp k1,hZ.kp k1},hZ.at aD⟩⟩
abbrev Be:=D->SD->av->(SD->av->Prop)->Prop
def Tg(K:Frag)(g:Be):TG:=λv τ H Q=>∃d σ S R,Rv K H d v/\fS K H σ τ/\Rs K S H/\g d σ S R/\MI K H R Q
structure DG(K:Frag)(X:Cx)(e:Expr)(g:Be):Prop where
 of:∀Y:Cx,Y.K=X.K->Y.N=X.N->Y.env=X.env->Y.fn=X.fn->Y.calm=X.calm->PG Y e (Tg K g)
theorem PG.mono{t t':TG}(h:PG X e t)(i:∀v τ H Q,t' v τ H Q->t v τ H Q):PG X e t':=λpins s τ H v u Q I r q=>h pins s τ H v u Q I r<|i v τ H Q q
def VP(i:Nat):Be:=λd σ S R=>R (σ.set i<|some d) S
theorem gn(hN:X.N.Nodup)(hi:autoParam (X.N[i]?=some x) qQJ)(hx:autoParam (Loc X.env.scope x) qJK)(hf:autoParam (X.fn x=true\/X.env.scope.names.lookup x=some .local) qQ8):DG K X (.Name x pos) (VP i):={λY _ e2 e3 e4 _=>(pL (X:=Y) (by rw[e2];exact hN) (by rw[e2];exact hi) (by rw[e3];exact hx)<|by rw[e3,e4];exact hf).mono <| by rintro v τ H Q ⟨d,σ,S,R,rv,aD,hS,q,hR⟩;exact hR _ S _ H q (aD.set i rv) hS<|.refl _}
abbrev EW:=List D->SD->av->(SD->av->Prop)->Prop
def Tgs(K:Frag)(g:EW):Mi:=λvs τ H Q=>∃ds σ S R,RvAll K H ds vs/\fS K H σ τ/\Rs K S H/\g ds σ S R/\MI K H R Q
structure VQ(K:Frag)(X:Cx)(es:List Expr)(g:EW):Prop where
 of:∀Y:Cx,Y.K=X.K->Y.N=X.N->Y.env=X.env->Y.fn=X.fn->Y.calm=X.calm->Mj Y es (Tgs K g)
theorem Mj.mono{t t':Mi}(h:Mj X e t)(i:∀v τ H Q,t' v τ H Q->t v τ H Q):Mj X e t':=λpins s τ H v u Q I r q=>h pins s τ H v u Q I r<|i v τ H Q q
def MJ:EW:=λds σ S R=>ds=[]/\R σ S
def Bf(g:Be)(u:EW):EW:=λds σ S R=>∃d r,ds=d::r/\g d σ S λuF S1=>u r uF S1 R
theorem g0:VQ K X [] MJ:={λY _ _ _ _ _=>(Cy (X:=Y)).mono <| by rintro vs τ H Q ⟨ds,σ,S,R,rv,aD,hS,⟨e,q⟩,hR⟩;exact by subst e;exact{rv.nil,hR _ _ _ _ q aD hS<|.refl _}}
theorem gc(h1:DG K X e g)(h2:VQ K X es u)(hs:autoParam (∀env:Env,(assignEach (e::es) env).map (·.2)=assign e env::(assignEach es env).map (·.2)) qQ0):VQ K X (e::es) (Bf g u):={λY a b c d f=>(p7 (h1.of Y a b c d f) (h2.of Y a b c d f)<|hs _).mono <| by rintro vs τ H Q ⟨ds,σ,S,R,rv,aD,hS,⟨d,r,e,q⟩,hR⟩;subst e;obtain⟨y,ys,e1,r1,r2⟩:=rv.cons;exact{y,ys,e1,d,σ,S,_,r1,aD,hS,q,λuF S1 VO H1 q1 a b c=>{r,uF,S1,R,RvAll.ts c _ r2,a,b,q1,hR.kp c}}}
def MK(n:Nat)(g:EW):Be:=λd σ S R=>∃ds,d=.tup ds/\ds.length=n/\g ds σ S R
theorem gt(h:VQ K X es g)(hn:autoParam (∀env:Env,(assignEach es env).length=n) qQ0)(og:autoParam (∀env:Env,(assignEach es env).findIdx? (·.1)=none) qQ0)(hK:autoParam (X.K=K) qQJ)(hc:autoParam (X.calm=true) qQJ):DG K X (.Tuple es j pos) (MK n g):={λY a b c d f=>(Gu (X:=Y) (by rw[f];exact hc) (h.of Y a b c d f) (hn _)<|og _).mono <| by rintro v τ H Q ⟨d,σ,S,R,rv,aD,hS,⟨ds,e,hl,q⟩,hR⟩;subst e;obtain⟨p,xs,e1,e2,t⟩:=rv.tup;exact{p,xs,e1,.of e2,by rw[t.len];exact hl,ds,σ,S,R,t,aD,hS,q,hR}}
def Tz(i:Nat)(t:TD):jV:=λDe σ S Z=>t σ S (λd S1=>De.nx (σ.set i<|some d) S1)<|Z σ
theorem cF{t:TD}(hN:X.N.Nodup)(h:DE K X e t)(hi:autoParam (X.N[i]?=some x) qQJ)(hx:autoParam (Loc X.env.scope x) qJK)(hs:autoParam (swapsWith e (some<|.Name x pos') pos.line X.env=pure false) qQJ) (hf:autoParam (X.fn x=true\/X.env.scope.names.lookup x=some .local) qQ8):DS K X b (.Assign [.Name x pos'] e pos) (Tz i t):=⟨λy=>(NG (X:=y.cx) (i:=i) hN hi hx (h.of y) hs hf).mono <| by rintro D τ H ⟨σ,S,De,Z,aD,hS,q,hD,hZ⟩;exact{σ,S,_,_,aD,hS,q,λd S1 v H1 r1 v1 s1 k1=>hD.nx _ _ _ _ r1 ((aD.ts k1).set i v1) s1 k1,hZ.at aD}⟩
def X9(t:TD)(g:Be):jV:=λDe σ S Z=>t σ S (λd S1=>g d σ S1 De.nx)<|Z σ
theorem sa{t:TD}(h:DE K X e t)(hg:DG K X tg g)(hs:autoParam (swapsWithSole [tg] e pos.line X.env=pure false) qQJ)(hw:autoParam (swappedStores [tg] e X.env=pure none) qQJ)(h1:autoParam ((assignEach [tg] X.env).map (·.2)=[assign tg X.env]) qQJ): DS K X b (.Assign [tg] e pos) (X9 t g):=⟨λy=>(Gv (X:=y.cx) (h.of y) (hg.of _ rfl rfl rfl rfl rfl) hs hw h1).mono <| by rintro D τ H ⟨σ,S,De,Z,aD,hS,q,hD,hZ⟩;exact{σ,S,_,_,aD,hS,q,λd S1 v H1 r1 v1 s1 k1=>{d,σ,S1,_,v1,aD.ts k1,s1,r1,hD.nx.kp k1},hZ.at aD}⟩
def X_(td ty tv:TD):jV:=λDe σ S Z=>tv σ S (λv S1=>td σ S1 (λx S2=>ty σ S2 (λy S3=>∃a kvs k,x=.ref a/\S3 a=some (.cA kvs)/\Bc y=some k/\kvs.length<sizeLine/\De.nx σ (S3.set a<|.cA<|dput kvs k v))<|Z σ)<|Z σ)<|Z σ
theorem sd{o i value:Expr}{td ty tv:TD}{pos':Pos}(hu:X.A.units+64<cLine)(ho:DE K X o td)(hi:DE K X i ty)(hv:DE K X value tv)(hs:autoParam (swapsWith value (some<|.Subscript o i pos') pos.line X.env=pure false) qQJ):DS K X b (.Assign [.Subscript o i pos'] value pos) (X_ td ty tv):=
 ⟨λy=>(J_ (X:=y.cx) (by show X.A.units+1<cLine;lia) (ho.of y) (hi.of y) (hv.of y) hs).mono <| by rintro D τ H ⟨σ,S,De,Z,aD,hS,q,hD,hZ⟩;exact
  ⟨σ,S,_,_,aD,hS,q,λv S1 vv H1 r1 v1 s1 k1=>⟨σ,S1,_,_,aD.ts k1,s1,r1,λx S2 xv H2 r2 v2 s2 k2=>⟨σ,S2,_,_,aD.ts<|k1.trans k2,s2,r2,by
   rintro y S3 yv H3 ⟨a,kvs,k,e1,e2,e3,hl,r3⟩ v3 s3 k3
   subst e1
   obtain⟨vs,e4,t⟩:=s3.cA e2
   have kk:=s3.hG (o:=.dK<|putK vs k vv) e2
   refine{a,_,(Rv.ts k3 _ v2).ref,by rw[m6 e3 v3];exact GQ.k e4<|by rw[t.len];exact hl,?_}
   exact hD.nx _ _ _ _ r3 (aD.ts<|((k1.trans k2).trans k3).trans kk) (s3.put (c:=.cA _) e2 {_,aE,(t.put k<|Rv.ts (k2.trans k3) _ v1).ts kk})<|((k1.trans k2).trans k3).trans kk,hZ.on (k1.trans k2)<|aD.ts<|k1.trans k2⟩,hZ.on k1<|aD.ts k1⟩,hZ.at aD⟩⟩
end
section
variable{X:Cx}{pins:List (Addr×Obj)}{σ:St}{H:Hp}{s:Shared}{A:Around}{E:Value->Shared->Prop}{a:Addr}{kvs:List (Key×V)}{k:Key}{u:Value}
theorem OV(I:Inv X pins σ H s)(e:H a=some (.dK kvs))(ry:RelV (kV k) u)(rz:RelV z r)(hl:kvs.length<sizeLine) (h1:∀v w' s',fR kvs k=some v->Inv X pins σ H s'->RelV v w'->Q w' s') (h2:fR kvs k=none->∀s',Inv X pins σ (upd H a<|.dK<|putK kvs k z) s'->Q r s'): wpAny (model X.prog X.w) A (call (.builtin "dict.setdefault") [.ref a,u,r]) Q E s:=by
 obtain⟨zz,hd,vs,rel,dd⟩:=CJ I.aH e;have hp:=om kvs k z;refine call_meetsIn PySem.F.slot_dict_setdefault dd.typeIs PySem.F.entry_dict_setdefault (PySem.F.args_dict_setdefault_3 _ _ _) (PySem.kt_meets_setdefault (aF X.prog X.w) a (kf ry) hd r) {vs,dd,by rw[<-rel.length];exact zz,λw' hw=>?_,λhn h' JA hs=>?_};cases q:fR kvs k with|none=>(have:=fP.none_of (o:=valueAt vs k) (by rw[<-q];exact rel.val k);rw[this]at hw;cases hw)|some v=>obtain⟨w2,pP,rw2⟩:=fP.some_of (v:=v) (o:=valueAt vs k) (by rw[<-q];exact rel.val k);rw[pP]at hw;cases hw;exact h1 v _ _ q (I.tok _) rw2
 cases q:fR kvs k with|some v=>(obtain⟨w2,pP,rw2⟩:=fP.some_of (v:=v) (o:=valueAt vs k) (by rw[<-q];exact rel.val k);rw[pP]at hn;cases hn)|none=>have he:∃q,h'.get? a=some q:=(by obtain⟨q,_,_,hq,_⟩:=JA;exact⟨q,hq⟩);exact h2 q _<|uL I (by rw[e];exact True.intro) hs he<|AJ (by lia) hd (rel.put k rz) JA
end
section
variable{X:Cx}{o e f:Expr}{apos aN:Pos}{td ty tx:TE}
def TB(td ty tx:TE):TE:=λσ H Q=>td σ H λx H1=>∃a,x=.ref a/\QF H1 a/\ty σ H1 λy H2=>tx σ H2 λz H3=>∃kvs k,H3 a=some (.dK kvs)/\y=kV k/\kvs.length<sizeLine/\(∀v,fR kvs k=some v->Q v H3)/\(fR kvs k=none->Q z (upd H3 a<|.dK<|putK kvs k z))
theorem Hu(ho:PE X o td)(he:PE X e ty)(hf:PE X f tx)(m:M2 X o "setdefault" apos e f aN):PE X (.Call (.Attribute o "setdefault" apos) [e,f] [] aN) (TB td ty tx):=by intro pins s σ H Q I h;refine wpAny_Call_method m.base m.FX m.line PySem.F.plainAttrs_dict PySem.F.slot_dict_setdefault PySem.F.type_dict_setdefault<|bf (ho pins s σ H _ I h) λu s1 ⟨x,H1,I1,rx,a,ex,d,q1⟩=>?_;subst ex;obtain rfl:u=Value.ref a:=rx;obtain⟨t1,t2,_⟩:=uM I1 d;refine{t1,t2,?_};rw[m.trees];refine Calls.callWith_builtin rfl<|Calls.evalArgs_plain<|yy<|bf (he pins s1 σ H1 _ I1 q1) λiv s2 ⟨y,H2,I2,ry,q2⟩=>yy<|bf (hf pins s2 σ H2 _ I2 q2) λfv s3 ⟨z,H3,I3,rz,kvs,k,ea,ey,hl,q3,q4⟩=>Calls.spliced_nil ?_;subst ey;exact OV I3 ea ry rz hl (λv w' s4 l I4 pe=>{v,H3,I4,pe,q3 v l}) λl s4 I4=>{z,_,I4,rz,q4 l}
end
section
variable{K:Frag}{X:Cx}{b:Bool}{o e f:Expr}{apos aN pos:Pos}{td ty tx:TD}
theorem u1(hS:Rs K S H)(e:S a=some (.cA kvs)):QF H a:=by obtain⟨vs,e1,_⟩:=hS.cA e;exact .inl {vs,.inl e1}
def TC(td ty:TD):TD:=λσ S R Z=>td σ S (λx S1=>∃a kvs,x=.ref a/\S1 a=some (.cA kvs)/\ty σ S1 (λy S2=>∃kvs k,S2 a=some (.cA kvs)/\Bc y=some k/\R ((bY kvs k).getD .ax) S2) Z) Z
theorem Hv(hS:Rs K S H)(e:S a=some (.cA kvs))(r:Rv K H d v):∃o,pf H a (kV k) o/\Rv K H ((bY kvs k).getD d) (o.getD v):=by obtain⟨o,g,h1,h2⟩:=uZ (k:=k) hS e;refine{o,g,?_};cases q:bY kvs k with|none=>(rw[q]at h1;cases o with|none=>exact r|some _=>cases h1)|some d'=>obtain⟨v',rfl,r'⟩:=h2 d' q;exact r'
theorem mg1(hu:X.A.units+64<cLine)(ho:DE K X o td)(he:DE K X e ty)(m:autoParam (M1 X o "get" apos e aN) qQ4):DE K X (.Call (.Attribute o "get" apos) [e] [] aN) (TC td ty):=
 ⟨λy=>(GU (X:=y.cx) (by show X.A.units+1<cLine;lia) (ho.of y) (he.of y) ⟨m.base,m.FX,m.line,m.trees⟩).mono <| by rintro τ H Q ⟨σ,S,R,Z,aD,hS,q,hR,hZ⟩;exact
  ⟨σ,S,_,Z,aD,hS,q,by
   rintro x S1 xv H1 ⟨a,kvs,e1,e2,r1⟩ v1 s1 k1
   subst e1
   exact⟨a,v1.ref,u1 s1 e2,σ,S1,_,Z,aD.ts k1,s1,r1,by
    rintro y S2 yv H2 ⟨kvs,k,e3,e4,r2⟩ v2 s2 k2
    obtain⟨o,g,r⟩:=Hv (k:=k) s2 e3 i6
    exact{o,by rw[m6 e4 v2];exact g,(hR.kp<|k1.trans k2).now s2 r2 r},hZ.kp k1⟩,hZ⟩⟩
def TF(td ty tx:TD):TD:=λσ S R Z=>td σ S (λx S1=>∃a kvs,x=.ref a/\S1 a=some (.cA kvs)/\ty σ S1 (λy S2=>tx σ S2 (λz S3=>∃kvs k,S3 a=some (.cA kvs)/\Bc y=some k/\R ((bY kvs k).getD z) S3) Z) Z) Z
theorem mg2(hu:X.A.units+64<cLine)(ho:DE K X o td)(he:DE K X e ty)(hf:DE K X f tx)(m:autoParam (M2 X o "get" apos e f aN) qQ4):DE K X (.Call (.Attribute o "get" apos) [e,f] [] aN) (TF td ty tx):=
 ⟨λy=>(GV (X:=y.cx) (by show X.A.units+1<cLine;lia) (ho.of y) (he.of y) (hf.of y) ⟨m.base,m.FX,m.line,m.trees⟩).mono <| by rintro τ H Q ⟨σ,S,R,Z,aD,hS,q,hR,hZ⟩;exact
  ⟨σ,S,_,Z,aD,hS,q,by
   rintro x S1 xv H1 ⟨a,kvs,e1,e2,r1⟩ v1 s1 k1
   subst e1
   exact⟨a,v1.ref,u1 s1 e2,σ,S1,_,Z,aD.ts k1,s1,r1,λy S2 yv H2 r2 v2 s2 k2=>⟨σ,S2,_,Z,aD.ts<|k1.trans k2,s2,r2,by
    rintro z S3 zv H3 ⟨kvs,k,e3,e4,r3⟩ v3 s3 k3
    obtain⟨o,g,r⟩:=Hv (k:=k) s3 e3 v3
    exact{o,by rw[m6 e4 v2];exact g,(hR.kp<|(k1.trans k2).trans k3).now s3 r3 r},hZ.kp<|k1.trans k2⟩,hZ.kp k1⟩,hZ⟩⟩
def TH(td ty:TD):TD:=λσ S R Z=>td σ S (λx S1=>∃a kvs,x=.ref a/\S1 a=some (.cA kvs)/\ty σ S1 (λy S2=>∃kvs k d,S2 a=some (.cA kvs)/\Bc y=some k/\bY kvs k=some d/\R d (S2.set a<|.cA<|xl kvs k)) Z) Z
theorem mp1(ho:DE K X o td)(he:DE K X e ty)(m:autoParam (M1 X o "pop" apos e aN) qQ4):DE K X (.Call (.Attribute o "pop" apos) [e] [] aN) (TH td ty):=
 ⟨λy=>(GW (X:=y.cx) (ho.of y) (he.of y) ⟨m.base,m.FX,m.line,m.trees⟩).mono <| by rintro τ H Q ⟨σ,S,R,Z,aD,hS,q,hR,hZ⟩;exact
  ⟨σ,S,_,Z,aD,hS,q,by
   rintro x S1 xv H1 ⟨a,kvs,e1,e2,r1⟩ v1 s1 k1
   subst e1
   exact⟨a,v1.ref,u1 s1 e2,σ,S1,_,Z,aD.ts k1,s1,r1,by
    rintro y S2 yv H2 ⟨kvs,k,d,e3,e4,e5,r2⟩ v2 s2 k2
    obtain⟨vs,e6,t⟩:=s2.cA e3
    obtain⟨v,e7,r7⟩:=(t.val k).1 d e5
    have kk:=s2.hG (o:=.dK<|oj vs k) e3
    exact{vs,k,v,e6,m6 e4 v2,e7,hR _ _ _ _ r2 (Rv.ts kk _ r7) (s2.put (c:=.cA _) e3 {_,aE,(t.drop k).ts kk})<|(k1.trans k2).trans kk},hZ.kp k1⟩,hZ⟩⟩
def TJ(td ty tx:TD):TD:=λσ S R Z=>td σ S (λx S1=>∃a kvs,x=.ref a/\S1 a=some (.cA kvs)/\ty σ S1 (λy S2=>tx σ S2 (λz S3=>∃kvs k,S3 a=some (.cA kvs)/\Bc y=some k/\kvs.length<sizeLine/\(∀d,bY kvs k=some d->R d S3)/\(bY kvs k=none->R z (S3.set a<|.cA<|dput kvs k z))) Z) Z) Z
theorem ms2(ho:DE K X o td)(he:DE K X e ty)(hf:DE K X f tx)(m:autoParam (M2 X o "setdefault" apos e f aN) qQ4):DE K X (.Call (.Attribute o "setdefault" apos) [e,f] [] aN) (TJ td ty tx):=
 ⟨λy=>(Hu (X:=y.cx) (ho.of y) (he.of y) (hf.of y) ⟨m.base,m.FX,m.line,m.trees⟩).mono <| by rintro τ H Q ⟨σ,S,R,Z,aD,hS,q,hR,hZ⟩;exact
  ⟨σ,S,_,Z,aD,hS,q,by
   rintro x S1 xv H1 ⟨a,kvs,e1,e2,r1⟩ v1 s1 k1
   subst e1
   exact⟨a,v1.ref,u1 s1 e2,σ,S1,_,Z,aD.ts k1,s1,r1,λy S2 yv H2 r2 v2 s2 k2=>⟨σ,S2,_,Z,aD.ts<|k1.trans k2,s2,r2,by
    rintro z S3 zv H3 ⟨kvs,k,e3,e4,hl,r3,r4⟩ v3 s3 k3
    obtain⟨vs,e6,t⟩:=s3.cA e3
    have kk:=s3.hG (o:=.dK<|putK vs k zv) e3
    have hR3:=hR.kp<|(k1.trans k2).trans k3
    refine{vs,k,e6,m6 e4<|Rv.ts k3 _ v2,by rw[t.len];exact hl,λv hv=>?_,λhn=>?_}
    ·cases q:bY kvs k with
     |none=>rw[(t.val k).2 q]at hv;cases hv
     |some d =>
      obtain⟨v',e7,r7⟩:=(t.val k).1 d q
      rw[e7]at hv;cases hv
      exact hR3.now s3 (r3 d q) r7
    ·cases q:bY kvs k with
     |some d=>obtain⟨v',e7,r7⟩:=(t.val k).1 d q;rw[e7]at hn;cases hn
     |none=>exact hR3 _ _ _ _ (r4 q) (Rv.ts kk _ v3) (s3.put (c:=.cA _) e3 {_,aE,(t.put k v3).ts kk}) kk,hZ.kp<|k1.trans k2⟩,hZ.kp k1⟩,hZ⟩⟩
noncomputable def Bh(f:Str)(d:D):List (Str×D)->List (Str×D)|[]=>[(f,d)]| (g,x)::r=>if g=f then (g,d)::r else (g,x)::Bh f d r
theorem bO.Bh{H:Hp}{f:Str}{d:D}{v:V}(rd:Rv K H d v):∀{ks:List (Str×D)}{vs:List (Str×V)},bO K H ks vs->bO K H (Bh f d ks) (putF f v vs)|_,_,.nil=>.cons ⟨rfl,rd⟩ .nil| (g,x)::r,(g',y)::r',.cons h t=>by obtain⟨e,h⟩:=h;dsimp only at e;subst e;show bO K H (if g=f then (g,d)::r else (g,x)::L2.Bh f d r) (if g=f then (g,v)::r' else (g,y)::putF f v r');by_cases q:g=f;rw[if_pos q,if_pos q];exact .cons ⟨rfl,rd⟩ t;rw[if_neg q,if_neg q];exact .cons ⟨rfl,h⟩<|bO.Bh rd t
def TK(C:Addr)(f:Str)(ta tv:TD):jV:=λDe σ S Z=>tv σ S (λy S1=>ta σ S1 (λx S2=>∃a fs,x=.ref a/\S2 a=some (.ins C fs)/\fs.length<1000/\De.nx σ (S2.set a<|.ins C<|Bh f y fs))<|Z σ)<|Z σ
theorem sf{C:Addr}{f:Str}{value:Expr}{ta tv:TD}{pos':Pos}(c:qd K C)(n:iZ K C f)(ha:DE K X o ta)(hv:DE K X value tv)(hs:autoParam (swapsWith value (some<|.Attribute o f pos') pos.line X.env=pure false) qQJ)(hK:autoParam (X.K=K) qQJ): DS K X b (.Assign [.Attribute o f pos'] value pos) (TK C f ta tv):=by
 subst hK
 exact⟨λy=>(NX (X:=y.cx) (ha.of y) (hv.of y) hs).mono <| by rintro D τ H ⟨σ,S,De,Z,aD,hS,q,hD,hZ⟩;exact
  ⟨σ,S,_,_,aD,hS,q,λy S1 yv H1 r1 v1 s1 k1=>⟨σ,S1,_,_,aD.ts k1,s1,r1,by
   rintro x S2 xv H2 ⟨a,fs,e1,e2,hl,r2⟩ v2 s2 k2
   subst e1
   obtain⟨dx,vs,e4,t4⟩:=s2.ins e2
   have kk:=s2.hG (o:=.ins C dx<|putF f yv vs) e2
   exact{a,C,dx,vs,v2.ref,e4,c,n,by rw[t4.len];exact hl,hD.nx _ _ _ _ r2 (aD.ts<|(k1.trans k2).trans kk) (s2.put (c:=.ins C _) e2 {dx,_,aE,(bO.Bh (Rv.ts k2 _ v1) t4).ts kk})<|(k1.trans k2).trans kk},hZ.on k1<|aD.ts k1⟩,hZ.at aD⟩⟩
def OW(C:Addr)(t:iN):jV:=λ_ σ S Z=>t σ S (λds S1=>ds.length<=sizeLine/\Z σ C S1)<|Z σ
end
section
variable{K:Frag}{X:Cx}{C:Addr}{x:Str}{e:Expr}{es:List Expr}{np aN pos:Pos}
theorem EX{t:TA}{y:Ev X true}(hc:X.calm=true)(c:XC X.K C)(hg:Gl X x)(hm:X.mg x=some (.ref C))(ha:PA y.cx (e::es) t)(kK:(x==("__debug__": Str))=false) (he:starEach (e::es) X.env=(false,eval e X.env)::starEach es X.env) (du:(backTo aN<|starEach es X.env).any (·.1)=false): PS y.cx (.Raise (some<|.Call (.Name x np) (e::es) [] aN) none pos) (λ_ σ H=>t σ H λvs H1=>vs.length<=sizeLine/\y.E σ (.ref C) none H1):=by intro pins s σ H D I h;obtain⟨bm,N,nm,q,bs,hdct,sn,sub,ab,col,dd,k0,k1,k2,k3,k5,mN,hC,hN,VH,T⟩:=c.at I.mod.Qy;have lP:bm.contains (.type "BaseException")=true:=T.hasType (by decide);refine wpAny_Raise_call_subT (C:=C) (nm:=nm) (q:=q) (N:=N) (bs:=bs) (bm:=bm) (hdct:=hdct) (sn:=sn) (sub:=sub) (ab:=ab) (col:=col) (dd:=dd) (k0:=k0) (k1:=k1) (k2:=k2) (k3:=k3) (k5:=k5) PySem.F.excBase_ValueError (mN:=mN) lP (I.ok.hd hc) (by show((backTo aN<|starEach (e::es) X.env).any (·.1))=false;rw[he];show(false||(backTo aN<|starEach es X.env).any (·.1))=false;rw[du];rfl) VH<|lL I hg hm {rfl,?_} kK;have h1:=ha aN pins s σ H _ I h;have Ya:starEach (e::es) y.cx.env=(false,eval e X.env)::starEach es X.env:=he;rw[Ya]at h1⊢;exact Calls.evalArgs_plain<|bf h1 <| by rintro us s2 ⟨vs,H2,I2,r,z,q2⟩;exact{rfl,by show us.length<=sizeLine;rw[<-r.length];exact z,I2.bk _ _ hC,hN.keeps I2.bk,T.keeps I2.bk,λh' a hx=>y.ok.own rfl pins σ H2 s2 h' a _ _ I2 hx q2}
theorem qE{t:iN}(c:XC K C)(hm:X.mg x=some (.ref C))(ha:DA K X (e::es) t)(hg:autoParam (Gl X x) qQJ)(kK:autoParam ((x==("__debug__": Str))=false) qQZ) (he:autoParam (starEach (e::es) X.env=(false,eval e X.env)::starEach es X.env) qQJ) (du:autoParam ((backTo aN<|starEach es X.env).any (·.1)=false) qQJ) (hc:autoParam (X.calm=true) qQJ) (hK:autoParam (X.K=K) qQJ): DS K X true (.Raise (some<|.Call (.Name x np) (e::es) [] aN) none pos) (OW C t):=by subst hK;exact⟨λy=>(EX (y:=y) hc c hg hm (ha.of y) kK he du).mono λD τ H ⟨σ,S,De,Z,aD,hS,q,hD,hZ⟩=>{σ,S,_,_,aD,hS,q,λds S1 vs H1 ⟨hl,r1⟩ v1 s1 k1=>{by rw[v1.len];exact hl,hZ.at aD C S1 H1 r1 s1 k1},hZ.at aD}⟩
end
structure Hw where
 xs:List D
 ok:av->Prop
def TL(K:Frag)(H0:Hp)(J:It)(I:Hw):Prop:=∀i S H,Kp K H0 H->Rs K S H->I.ok S->(∀d,I.xs[i]?=some d->J.go i H/\∀x H',J.RB i H x H'->Rv K H' d x/\Kp K H H'/\Rs K S H')/\(I.xs.length<=i->J.stop i H)
abbrev Bi:=SD->av->(Hw->av->Prop)->KX->Prop
def Ti(K:Frag)(E:St->XK)(t:Bi):TI:=λτ H R=>∃σ S RI Z,fS K H σ τ/\Rs K S H/\t σ S RI Z/\(∀I S' J H',RI I S'->TL K H' J I->Rs K S' H'->Kp K H H'->R J H')/\ES K H Z (E τ)
structure DI(K:Frag)(X:Cx)(tg it:Expr)(t:Bi):Prop where
 of:∀{b:Bool}(y:Ev X b),PI y.cx tg it<|Ti K y.E t
theorem PI.mono{t t':TI}(h:PI X tg it t)(i:∀τ H R,t' τ H R->t τ H R):PI X tg it t':=λpins s τ H R I q=>h pins s τ H R I<|i τ H R q
section
variable{K:Frag}{X:Cx}{tg l:Expr}
def Yb(t:TD):Bi:=λσ S R Z=>t σ S (λx S1=>∃ds,wG S1 x ds/\R {ds,λS=>wG S x ds} S1) Z
theorem il{t:TD}(h:DE K X l t)(hK:autoParam (X.K=K) qQJ):DI K X tg l (Yb t):=by subst hK;exact⟨λy=>(JT (X:=y.cx)<|h.of y).mono <| by rintro τ H R ⟨σ,S,RI,Z,aD,hS,q,hR,hZ⟩;exact{σ,S,_,Z,aD,hS,q,by rintro x S1 v H1 ⟨ds,h1,r1⟩ v1 s1 k1;obtain⟨a,xs,rfl,hq,t⟩:=h1.at s1 v1;refine{a,rfl,⟨xs,hq⟩,hR _ S1 _ H1 r1 (λi S2 H2 k2 s2 VR=>?_) s1 k1};obtain⟨a',OX,e',Gb,t'⟩:=wG.at VR s2<|Rv.ts k2 _ v1;cases e';refine{λd hd=>?_,λhl=>{OX,Gb,by rw[t'.len];exact hl}};obtain⟨v,e1,r⟩:=t'.get hd;refine{⟨OX,v,Gb,e1⟩,λx' H' ⟨e2,e3⟩=>?_};subst e2;have:=e3 OX Gb;rw[e1]at this;cases this;exact{r,.refl _,s2},hZ}⟩
def TM(t:TD):Bi:=λσ S R Z=>t σ S (λx S1=>∃ds,(x=.tup ds\/x=.kt ds)/\R {ds,λ_=>True} S1) Z
theorem OY{H:Hp}{x:D}{ds:List D}{v:V}(h:x=.tup ds\/x=.kt ds)(r:Rv K H x v):∃a xs,v=.ref a/\(∀H',Kp K H H'->iq K H' a xs)/\RvAll K H ds xs:=by rcases h with rfl|rfl;obtain⟨a,xs,rfl,q,t⟩:=r.tup;exact{a,xs,rfl,λH' k=>.of<|k.t _ _ q,t};obtain⟨a,xs,rfl,q,t⟩:=r.kt;exact{a,xs,rfl,λH' k=>.inr q,t}
theorem Hx{t:TD}(h:DE K X l t)(hK:autoParam (X.K=K) qQJ):DI K X tg l (TM t):=by subst hK;exact⟨λy=>(NK (X:=y.cx)<|h.of y).mono <| by rintro τ H R ⟨σ,S,RI,Z,aD,hS,q,hR,hZ⟩;exact{σ,S,_,Z,aD,hS,q,by rintro x S1 v H1 ⟨ds,h1,r1⟩ v1 s1 k1;obtain⟨a,xs,rfl,hq,t⟩:=OY h1 v1;refine{a,rfl,{xs,hq _<|.refl _},hR _ S1 _ H1 r1 (λi S2 H2 k2 s2 _=>?_) s1 k1};have QR:=hq H2 k2;refine{λd hd=>?_,λhl=>{xs,QR,by rw[t.len];exact hl}};obtain⟨v,e1,r⟩:=(RvAll.ts k2 _ t).get hd;refine{⟨xs,v,QR,e1⟩,λx' H' ⟨e2,e3⟩=>?_};subst e2;have:=e3 xs QR;rw[e1]at this;cases this;exact{r,.refl _,s2},hZ}⟩
noncomputable def EY(lo:Int)(n:Nat):List D:=(List.range n).map λi=>D.int<|lo+(i:Nat)
theorem dA{lo:Int}{n:Nat} : (EY lo n).length=n:=by unfold EY;rw[zc,List.length_range]
theorem i_{lo:Int}{n i:Nat}{d:D}(h:(EY lo n)[i]?=some d):i<n/\d=.int (lo+i):=by unfold EY at h;rw[zq]at h;by_cases q:i<n;rw[List.getElem?_range q]at h;exact{q,(zP h).symm};rw[List.getElem?_eq_none<|by rw[List.length_range];omega]at h;cases h
theorem OZ{H0:Hp}{lo:Int}{n:Nat} : TL K H0 (Vz lo n) {EY lo n,λ_=>True}:=λi S H k s _=>{λd hd=>by obtain⟨h1,rfl⟩:=i_ hd;exact{h1,by rintro x H' ⟨e1,e2⟩;exact by subst e1 e2;exact{aL _,.refl _,s}},λhl=>by rw[dA]at hl;exact hl}
def Yc(t:iN):Bi:=λσ S R Z=>t σ S (λds S1=>∃j:Int,ds=[.int j]/\-(2^62)<=j/\j<2^62/\R {EY 0 j.toNat,λ_=>True} S1) Z
theorem QS{t:iN}(hm:X.mg "range"= none)(ha:DA K X [a] t)(hg:autoParam (Gl X "range") qQJ)(hs:autoParam (starEach [a] X.env=[(false,eval a X.env)]) qQJ):DI K X tg (.Call (.Name "range" p) [a] [] pos) (Yc t):=⟨λy=>(Ej (X:=y.cx) hg hm (ha.of y) hs).mono <| by rintro τ H R ⟨σ,S,RI,Z,aD,hS,q,hR,hZ⟩;exact{σ,S,_,Z,aD,hS,q,by rintro ds S1 vs H1 ⟨j,e,h1,h2,r1⟩ v1 s1 k1;subst e;obtain⟨v,rfl,r⟩:=v1.one;exact{j,by rw[r.int],h1,h2,hR _ S1 _ H1 r1 OZ s1 k1},hZ}⟩
end
section
variable{K:Frag}{X:Cx}{tg iter:Expr}{pos:Pos}
def Yd(ti:Bi)(g:Be)(tb:jV):jV:=λDe σ S Z=>ti σ S (λI S1=>∃P:Nat->SD->av->Prop,P 0 σ S1/\(∀i σ S,P i σ S->I.ok S)/\(∀i d σ S,I.xs[i]?=some d->P i σ S->g d σ S λpM S2=>tb {De with nx:=P<|i+1,ct:=P<|i+1,bk:=De.nx} pM S2 Z)/\∀σ S,P I.xs.length σ S->De.nx σ S)<|Z σ
theorem Hy(hi:DI K X tg iter ti)(hg:DG K X tg g)(hb:Bd K X true body tb)(hs:autoParam (∀x,foldedSetIterable iter X.env x=pure x) qQ0)(hc:autoParam (X.calm=true) qQJ):DS K X true (.For tg iter body [] pos) (Yd ti g tb):=
 ⟨λy=>(NL (X:=y.cx) (y.ok.loop rfl) hc (hi.of y) (hg.of _ rfl rfl rfl rfl rfl) (hb.of y) hs).mono <| by rintro D τ H ⟨σ,S,De,Z,aD,hS,q,hD,hZ⟩;exact
  ⟨σ,S,_,_,aD,hS,q,by
   rintro I S1 J H1 ⟨P,p0,Ye,Yf,pend⟩ hJ s1 k1
   refine{λi m τ H=>m=I.xs.length-i/\i<=I.xs.length/\∃σ S,fS K H σ τ/\Rs K S H/\P i σ S/\Kp K H1 H,{_,rfl,zU _,σ,S1,aD.ts k1,s1,p0,.refl _},?_}
   rintro i m τ2 H2 ⟨rfl,TN,pM,S2,a2,s2,p2,k2⟩
   have ok:=hJ i S2 H2 k2 s2<|Ye _ _ _ p2
   by_cases dW:i<I.xs.length
   ·obtain⟨go,yl⟩:=ok.1 _ (zg dW)
    refine .inr {go,λQN H'=>i+1<=I.xs.length/\∃σ S,fS K H' σ QN/\Rs K S H'/\P (i+1) σ S/\Kp K H1 H',λaC H' h'=>{_,by omega,rfl,h'},λx H' hy=>?_}
    obtain⟨rx,k3,s3⟩:=yl x H' hy
    refine{_,pM,S2,_,rx,a2.ts k3,s3,Yf i _ pM S2 (zg dW) p2,λVS S4 τ4 H4 r4 a4 s4 k4=>?_}
    have kk:=(k2.trans k3).trans k4
    exact{VS,S4,_,Z,a4,s4,r4,{λO0 S5 Yg H5 r5 a5 s5 k5=>{dW,O0,S5,a5,s5,r5,kk.trans k5},hD.rt.kp<|k1.trans kk,(hD.nx.kp<|k1.trans kk),λO0 S5 Yg H5 r5 a5 s5 k5=>{dW,O0,S5,a5,s5,r5,kk.trans k5}},hZ.kp<|k1.trans kk}
   ·have e:i=I.xs.length:=by omega
    subst e
    exact .inl {ok.2<|zk _,hD.nx _ _ _ _ (pend _ _ p2) a2 s2<|k1.trans k2},hZ.at aD⟩⟩
end
noncomputable def ou(σ:SD)(src:List<|Option Nat):SD:=src.map λo=>match o with|some j=>(σ[j]?).join|none=>none
theorem fS.pick{K:Frag}{H:Hp}{σ:SD}{τ:St}(h:fS K H σ τ):∀src:List (Option Nat),fS K H (ou σ src) (pick τ src)|[]=>.nil|o::r=>.cons (λd e=>by cases o with|none=>(cases e)|some j=>dsimp only at e⊢;cases q:σ[j]? with|none=>(rw[q]at e;cases e)|some o'=>rw[q]at e;obtain rfl:o'=some d:=e;obtain⟨v,e1,r1⟩:=h.get q;exact{v,by rw[e1];rfl,r1})<|fS.pick h r
def Zf:KX:=λ_ _=>False
def CU(σ:SD)(src:List<|Option Nat)(g:Be)(tc:kL)(te:TD)(R:KD)(I:Hw)(S1:av):Prop:=∃P:Nat->List D->av->Prop,P 0 [] S1/\(∀i out S,P i out S->I.ok S)/\(∀i d out S,I.xs[i]?=some d->P i out S->out.length<sizeLine/\g d (ou σ src) S λiK S3=>tc iK S3 (λb S4=>if b=true then te iK S4 (λv S5=>P (i+1) (out++[v]) S5) Zf else P (i+1) out S4) Zf)/\∀out S2,P I.xs.length out S2->∀p,S2 p=none->R (.ref p) (S2.set p<|.lst out)
def CV(ti:Bi)(src:List<|Option Nat)(g:Be)(tc:kL)(te:TD):TD:=λσ S R Z=>ti σ S (λI S1=>CU σ src g tc te R I S1) Z
theorem ES.f{K:Frag}{H:Hp}{e:XK} : ES K H Zf e:=λ_ _ _ z=>z.elim
theorem T.comp{K:Frag}{E E':St->XK}{ti:Bi}{src:List<|Option Nat}{g:TG}{gd:Be}{tc:kL}{te:TD}{τ:St}{H:Hp}{Q:VK}(hg:∀v τ H Q,Tg K gd v τ H Q->g v τ H Q) (h:T K E (CV ti src gd tc te) τ H Q):GY (Ti K E ti) src g (Tt K E' tc) (T K E' te) τ H Q:=by
 obtain⟨σ,S,R,Z,aD,hS,q,hR,hZ⟩:=h;refine{σ,S,_,Z,aD,hS,q,λI S1 J H1 ⟨P,p0,Ye,Yf,pend⟩ hJ s1 k1=>?_,hZ};refine{λi m out H=>m=I.xs.length-i/\i<=I.xs.length/\∃ds S,RvAll K H ds out/\Rs K S H/\P i ds S/\Kp K H1 H,{_,rfl,zU _,[],S1,bq,s1,p0,.refl _},?_};rintro i m out H2 ⟨rfl,TN,ds,S2,v2,s2,p2,k2⟩;have ok:=hJ i S2 H2 k2 s2<|Ye _ _ _ p2;by_cases dW:i<I.xs.length;obtain⟨go,yl⟩:=ok.1 _<|zg dW;obtain⟨hz,st⟩:=Yf i _ ds S2 (zg dW) p2;refine .inr {go,by rw[v2.len];exact hz,λx H' hy=>?_};obtain⟨rx,k3,s3⟩:=yl x H' hy;refine hg _ _ _ _ {_,_,S2,_,rx,(((aD.ts k1).ts k2).ts k3).pick src,s3,st,λVS S4 τ4 H4 r4 a4 s4 k4=>?_};refine{VS,S4,_,Zf,a4,s4,r4,λc S5 H5 r5 s5 k5=>?_,.f};cases c with|true=>rw[if_pos rfl]at r5⊢;exact{VS,S5,_,Zf,a4.ts k5,s5,r5,λd S6 v H6 r6 v6 s6 k6=>{_,by omega,rfl,dW,ds++[d],S6,(RvAll.ts (((k3.trans k4).trans k5).trans k6) _ v2).app<|aO v6 bq,s6,r6,(((k2.trans k3).trans k4).trans k5).trans k6},.f}|false=>rw[if_neg zd]at r5⊢;exact{_,by omega,rfl,dW,ds,S5,RvAll.ts ((k3.trans k4).trans k5) _ v2,s5,r5,((k2.trans k3).trans k4).trans k5}
 have e:i=I.xs.length:=by omega
 subst e;exact .inl {ok.2<|zk _,λp hp=>(hR.kp<|k1.trans k2).new s2 hp (pend _ _ p2 p) v2}
noncomputable def Ev.none(X:Cx)(h:X.xe=λ_ _=>False):Ev X false:={X.pn,X.xe,λ_=>E0,{by rintro p2 τ H s e s' _ ⟨_,_,_,_,_,_,_,_,_,z⟩;exact z.elim,λe=>(by cases e),λe=>(by cases e)}}
section
variable{K:Frag}{X:Cx}{b:Bool}{N:List Str}{src:List (Option Nat)}{scope:Scope}{tg iter elt:Expr}{ifs:List Expr}{pos:Pos}{ti:Bi}{g:TG}{gd:Be}{tc:kL}{te:TD}
structure VT(K:Frag)(X:Cx)(ifs:List Expr)(t:kL):Prop where
 of:∀{b:Bool}(y:Ev X b),QG y.cx ifs<|Tt K y.E t
def tY:kL:=λ_ S R _=>R true S
theorem sM:VT K X [] tY:={λy pins s τ H Q I ⟨σ,S,R,Z,aD,hS,q,hR,hZ⟩=>Ke pins s τ H Q I<|hR true S H q hS<|.refl _}
theorem if1{t:kL}(h:DT K X c t):VT K X [c] t:=⟨λy=>Kf<|h.of y⟩
theorem tZ(S:bE X N src scope)(hit:DI K X tg iter ti)(hg:∀C s H ex pn,PG (iu X N scope C s H ex pn) tg g)(hx:AM g src)(TQ:∀v τ H Q,Tg K gd v τ H Q->g v τ H Q) (hi:∀C s H ex pn,VT K (iu X N scope C s H ex pn) ifs tc) (he:∀C s H ex pn,DE K (iu X N scope C s H ex pn) elt te) (hs:autoParam (∀x,foldedSetIterable iter X.env x=pure x) qQ0) (hc:autoParam (X.calm=true) qQJ):DE K X (.ListComp elt [{tg,iter,ifs,0}] scope pos) (CV ti src gd tc te):=⟨λy=>(Kh (X:=y.cx) (tc:=Tt K (λ_=>E0) tc) (te:=T K (λ_=>E0) te) ⟨S.kind,S.gu,S.loc,S.AL,S.len,S.src⟩ hc (hit.of y) hg hx (λC s H ex pn=>(hi C s H ex pn).of<|.none _ rfl) (λC s H ex pn=>(he C s H ex pn).of<|.none _ rfl) hs).mono λ_ _ _ h=>h.comp TQ⟩
theorem QT(hN:X.N.Nodup)(S:bE X N src scope)(hit:DI K X tg iter ti)(hg:∀C s H ex pn,PG (iu X N scope C s H ex pn) tg g)(hx:AM g src)(TQ:∀v τ H Q,Tg K gd v τ H Q->g v τ H Q) (hi:∀C s H ex pn,VT K (iu X N scope C s H ex pn) ifs tc) (he:∀C s H ex pn,DE K (iu X N scope C s H ex pn) elt te) (Xi:autoParam (X.N[i]?=some x) qQJ) (VF:autoParam (X.env.scope.names.lookup x=some .local) qQJ) (Xj:autoParam (swapsWith (.ListComp elt [{tg,iter,ifs,0}] scope pos) (some<|.Name x pos') Ki.line X.env=pure true) qQJ) (hs:autoParam (∀x,foldedSetIterable iter X.env x=pure x) qQ0) (hc:autoParam (X.calm=true) qQJ):DS K X b (.Assign [.Name x pos'] (.ListComp elt [{tg,iter,ifs,0}] scope pos) Ki) (Tz i<|CV ti src gd tc te):=⟨λy=>(AN (X:=y.cx) (i:=i) (tc:=Tt K (λ_=>E0) tc) (te:=T K (λ_=>E0) te) hN Xi VF ⟨S.kind,S.gu,S.loc,S.AL,S.len,S.src⟩ hc (hit.of y) hg hx (λC s H ex pn=>(hi C s H ex pn).of<|.none _ rfl) (λC s H ex pn=>(he C s H ex pn).of<|.none _ rfl) Xj hs).mono <| by rintro D τ H ⟨σ,S,De,Z,aD,hS,q,hD,hZ⟩;exact T.comp TQ {σ,S,_,_,aD,hS,q,λd S1 v H1 r1 v1 s1 k1=>hD.nx _ _ _ _ r1 ((aD.ts k1).set i v1) s1 k1,hZ.at aD}⟩
theorem a_:∀v τ H Q,Tg K (VP i) v τ H Q->ir i v τ H Q:=by rintro v τ H Q ⟨d,σ,S,R,rv,aD,hS,q,hR⟩;exact hR _ S _ H q (aD.set i rv) hS<|.refl _
end
structure u3(K:Frag)(x qual:Str)(st:Stmt)(f:Addr)(fd:FuncData):Prop where
 ex:∃(oc:Value)(od:Option Addr)(dV kV doc pm:Value)(an:Option Addr)(fU ct:Value)(N2:Array (Option Value)),
  fd=fnOf x qual (aX st) (aU st) (ae st) dV kV doc pm an fU ct/\K.lookup f=some {oc,od,.func fd,N2}/\codeIn K fU qual=true
noncomputable def ja(N:List Str)(ds:List D):SD:=ds.map some++List.replicate (N.length-ds.length) none
section
variable{P:Program}{w:World}{K:Frag}{mg:Str->Option Value}{base:Heap}
theorem u3.okD{x qual:Str}{st:Stmt}{f:Addr}{fd:FuncData}{N ps:List Str}{k:Nat}{sp:iV}(F:u3 K x qual st f fd)(S:fT N ps<|ae st)(len:∀ds S R Z,sp ds S R Z->ds.length=ps.length) (lM:∀(fU:Value)(A:Around)(outer:List Env)(s:Shared)(H:Hp)(E:XK)(ds:List D)(S:av)(R:KD)(Z:KX),bM k (A.deeper<|envOfC qual (ae st) s.heap.objs.size f fU)->sp ds S R Z->∃t,Bd K (jT (fb P w mg) P w K mg base N qual (ae st) f fU A outer s H E) true (aU st) t/\t {nx:=λ_ S'=>R .ax S',rt:=R} (ja N ds) S λ_=>Z):bB P w K mg base (fb P w mg) (k+1) f fd ps (pq K sp):=by
 obtain⟨oc,od,dV,kV,doc,pm,an,fU,ct,N2,rfl,lk,rZ⟩:=F.ex;have du:ps.length<=N.length:=by have:=congrArg List.length S.pre;rw[ya]at this;lia
 refine Mq lk rZ S (by rintro vs H Q E ⟨ds,S',R,Z,v,_,h,_⟩;exact by rw[v.len];exact len _ _ _ _ h) λA outer s H vs Q E hr ⟨ds,S',R,Z,v,hS,h,hR,hZ⟩=>?_;obtain⟨t,ht,q⟩:=lM fU A outer s H E ds S' R Z hr h;have L:cO (jT (fb P w mg) P w K mg base N qual (ae st) f fU A outer s H E) E:=tV;let y:Ev (jT (fb P w mg) P w K mg base N qual (ae st) f fU A outer s H E) true:={_,(jT (fb P w mg) P w K mg base N qual (ae st) f fU A outer s H E).xe,λ_=>E,{λp2 τ H1 s1 e s' I h=>Mx L p2 τ H1 s1 e s' I h,λ_ p2 τ H1 s1 h' a cls args I hx he=>oq L I hx he,λ_=>PassesOwn.leaving}};refine{Tl K (λ_=>E) t,ht.of y,ja N ds,S',_,λ_=>Z,?_,hS,q,{λσ S1 τ H1 r a b c=>hR.kp c |>.now b r i6,hR,λ_ _ _ _ z=>z.elim,λ_ _ _ _ z=>z.elim},λσ τ C S1 H1 z a b c=>hZ C S1 H1 z b c};unfold ja start;refine(qz v).app ?_;rw[v.len];exact qy _ _<|by rw[List.length_replicate]
theorem bB.Hz(F:bB P w K mg base (fb P w mg) k f fd ps<|pq K sp)(h:∀ds S R Z,VB ds S R Z->sp ds S R Z):bB P w K mg base (fb P w mg) k f fd ps (pq K VB):=F.imp <| by rintro vs H Q E ⟨ds,S,R,Z,a,b,c,d⟩;exact{ds,S,R,Z,a,b,h _ _ _ _ c,d}
theorem bB.calm(F:bB P w K mg base (fb P w mg) k f fd ps sp):bB P w K mg base VD k f fd ps λvs H Q _=>sp vs H Q E0:=by refine{λvs H Q E h=>F.len vs H Q E0 h,λA outer s H args us vs Q E hr e0 hb r h=>yL (F.run A outer s H args us vs Q E0 hr e0 hb r h) λres s' q=>?_};cases res with|error e=>(obtain⟨_,_,_,_,_,_,_,_,_,z⟩:=q;exact z.elim)|ok fl=>cases fl<;>exact q
end
section
variable{K:Frag}{X:Cx}{b:Bool}{i:Nat}{n x:Str}{C0:Addr}{body xb:List Stmt}{G8:Stmt}{np mX pos:Pos}
theorem O3{t:jV}(h:Bd K X false body t):So X body (λE=>Tl K E t):=by intro pins s σ H D E I q;let y:Ev X false:={X.pn++pins,XE X pins E,E,{λp2 τ H1 s1 e s' I1 hq=>{τ,H1,s1,{⟨I1.ok.mod,I1.ok.kind,I1.ok.glob,I1.ok.blt,I1.ok.above,I1.ok.inj,I1.ok.has,I1.ok.Nq,I1.ok.hd,I1.ok.frames,I1.ok.QA,I1.ok.Vs,I1.ok.bs,I1.ok.Ef,I1.ok.Al,I1.ok.Eg,I1.ok.jS,I1.ok.Gk⟩,I1.os,I1.bare,I1.base,I1.loc,I1.cell,I1.free,I1.df,λp hp=>I1.pin p<|zQ _ hp,I1.aH,I1.len},hq},λe=>(by cases e),λe=>(by cases e)}};have back:∀{aC:St}{H':Hp}{s':Shared},Inv y.cx [] aC H' s'->Inv X pins aC H' s':=λI1=>{⟨I1.ok.mod,I1.ok.kind,I1.ok.glob,I1.ok.blt,I1.ok.above,I1.ok.inj,I1.ok.has,I1.ok.Nq,I1.ok.hd,I1.ok.frames,I1.ok.QA,I1.ok.Vs,I1.ok.bs,I1.ok.Ef,I1.ok.Al,I1.ok.Eg,I1.ok.jS,I1.ok.Gk⟩,I1.os,I1.bare,I1.base,I1.loc,I1.cell,I1.free,I1.df,λp hp=>I1.pin p<|zQ _ hp,I1.aH,I1.len};have I0:Inv y.cx [] σ H s:={⟨I.ok.mod,I.ok.kind,I.ok.glob,I.ok.blt,I.ok.above,I.ok.inj,I.ok.has,I.ok.Nq,I.ok.hd,I.ok.frames,I.ok.QA,I.ok.Vs,I.ok.bs,I.ok.Ef,I.ok.Al,I.ok.Eg,I.ok.jS,I.ok.Gk⟩,I.os,I.bare,I.base,I.loc,I.cell,I.free,I.df,λp hp=>I.pin p<|by rw[List.append_nil]at hp;exact hp,I.aH,I.len};refine yn (h.of y [] s σ H D I0 q) (λf s' r=>?_) λ_ _ r=>r;cases f with|next=>(obtain⟨aC,H',I',q⟩:=r;exact{aC,H',back I',q})|brk=>(obtain⟨aC,H',I',q⟩:=r;exact{aC,H',back I',q})|cont=>(obtain⟨aC,H',I',q⟩:=r;exact{aC,H',back I',q})|ret u=>obtain⟨v,aC,H',I',r1,q⟩:=r;exact{v,aC,H',back I',r1,q}
noncomputable def tX.less(De:tX)(i:Nat):tX:={nx:=λσ S=>De.nx (σ.set i none) S,rt:=De.rt,bk:=λσ S=>De.bk (σ.set i none) S,ct:=λσ S=>De.ct (σ.set i none) S}
def Yh(K:Frag)(i:Nat)(C0:Addr)(tb ts:jV):jV:=λDe σ S _=>tb De σ S λaC C S'=>mroIn K C (.ref C0)=some true/\∀a,S' a=none->ts (De.less i) (aC.set i<|some<|.ref a) (S'.set a<|.exc C) λ_=>Zf
theorem Yi{tb ts:jV}(hN:X.N.Nodup)(hm:X.mg x=some (.ref C0))(c0:XC K C0)(hb:Bd K X false body tb)(hs:∀a,Bd K (X.i5 a) false (G8::xb) ts) (hi:autoParam (X.N[i]?=some n) qQJ) (hx:autoParam (X.env.scope.names.lookup n=some .local) qQJ) (Xq:autoParam (Gl X x) qQJ) (kK:autoParam ((x==("__debug__": Str))=false) qQZ) (og:autoParam (X.stack=X.env::X.outer) qQJ) (fr:autoParam (X.env.frame=some X.env.locals) qQJ) (hK:autoParam (X.K=K) qQJ): DS K X b (.Try body [.ExceptHandler (some<|.Name x np) (some n) (G8::xb) mX] [] [] pos) (Yh K i C0 tb ts):=by subst hK;refine⟨λy=>(OA (X:=y.cx) (ts:=Tl X.K (λ_=>E0) ts) og fr hN hi hx Xq hm c0 (O3 (X:=y.cx) (K:=X.K) (t:=tb) ⟨λz=>hb.of ⟨z.pn,z.xe,z.E,z.ok⟩⟩) (λa=>(hs a).of {y.pn,λ_ _=>False,λ_=>E0,{λp2 τ H s e s' _ ⟨_,_,_,_,_,_,_,_,_,z⟩=>z.elim,λe=>(by cases e),λe=>(by cases e)}}) kK).mono λD τ H ⟨σ,S,De,Z,aD,hS,q,hD,hZ⟩=>?_⟩;refine{σ,S,De,_,aD,hS,q,hD,λuF VO C S1 H1 ⟨m1,r1⟩ a1 s1 k1=>{C,rfl,m1,λa ha=>?_}};have kn:Kp X.K H1 (upd H1 a<|sE a<|.ref C):=.new ha;have kk:=k1.trans kn;have un:∀{Kr:SD}{TR:St}{H8:Hp},fS X.K H8 Kr TR->fS X.K H8 (Kr.set i none) (TR.set i none):=λr=>r.unset i none;exact{_,_,De.less i,λ_=>Zf,(a1.ts kn).set i<|fi a,s1.new (c:=.exc C) ha aE,r1 a<|s1.fresh ha,{λKr S8 TR H8 r8 a8 s8 k8=>hD.nx _ _ _ _ r8 (un a8) s8<|kk.trans k8,hD.rt.kp kk,λKr S8 TR H8 r8 a8 s8 k8=>hD.bk _ _ _ _ r8 (un a8) s8<|kk.trans k8,λKr S8 TR H8 r8 a8 s8 k8=>hD.ct _ _ _ _ r8 (un a8) s8<|kk.trans k8},λ_ _ _ _ _ z=>z.elim}
end
section
variable{K:Frag}{X:Cx}{x:Str}{id:String}{e:Expr}{es:List Expr}{p pos:Pos}{t:iN}{r:List D->av->KD->Prop}
def ML(K:Frag)(f:Value)(r:List D->av->KD->Prop):Prop:=∀X:Cx,X.K=K->cS X f (Lc K r)
theorem cbn(hc:ML K (.builtin id) r)(hm:X.mg x=none)(hv:bootBuiltins x=some (.builtin id))(ha:DA K X (e::es) t)(hg:autoParam (Gl X x) qQJ) (hn:autoParam (x≠"__name__") qQZ) (kK:autoParam ((x==("__debug__": Str))=false) qQZ) (he:autoParam (starEach (e::es) X.env=(false,eval e X.env)::starEach es X.env) qQJ) (du:autoParam ((backTo pos<|starEach es X.env).any (·.1)=false) qQJ) (hK:autoParam (X.K=K) qQJ): DE K X (.Call (.Name x p) (e::es) [] pos) (SO r t):=⟨λy=>(qh (X:=y.cx) (hc _ hK) hg hm hv (ha.of y) hn kK he du).mono λ_ _ _ h=>h.cb⟩
def Yj(K:Frag):List D->av->KD->Prop:=λds S R=>∃a C c b,ds=[.ref a,c]/\S a=some (.exc C)/\XC K C/\XA K C/\((∃Cd,c=.ref Cd/\kitOne K (.ref C) (.ref Cd)=some b)\/(∃n,c=.ty n/\kitOne K (.ref C) (.type n)=some b)\/∃as:List Addr,c=.tup (as.map D.ref)/\kitAny K (.ref C) (as.map Value.ref)=some b)/\R (.bl b) S
theorem RvAll.refs:∀{as:List Addr}{xs:List V},RvAll K H (as.map D.ref) xs->xs=as.map V.ref|[],xs,h=>h.nil|b::bs,xs,h=>by obtain⟨y,ys,rfl,h1,h2⟩:=h.cons;rw[h1.ref,h2.refs];rfl
theorem t5:∀{as:List Addr}{ay:List Value},Vals (as.map V.ref) ay->ay=as.map Value.ref|[],_,.nil=>rfl|_::_,_,.cons r t=>by rw[t5 t];cases r;rfl
theorem TU:ML K (.builtin "isinstance") (Yj K):=by rintro X hK pins s σ H xs us Q I rx ⟨ds,S,R,r,hS,⟨a,C,c,b,e,h1,h2,h3,h4,h⟩,hR⟩;subst hK e;obtain⟨v,u,rfl,r1,r2⟩:=r.two;have ha:H a=some (sE a<|.ref C):=hS a _ h1;rcases h4 with⟨Cd,rfl,h4⟩|⟨n,rfl,h4⟩|⟨as,rfl,h4⟩;exact kh rfl pins s σ H _ us Q I rx {a,C,.ref Cd,.ref Cd,b,by rw[r1.ref,r2.ref],ha,h2,h3,rfl,λu' e=>e,h4,hR.now hS h<|bC _};exact kh rfl pins s σ H _ us Q I rx {a,C,.ty n,.type n,b,by rw[r1.ref,r2.ty],ha,h2,h3,rfl,λu' e=>e,h4,hR.now hS h<|bC _};obtain⟨p,zs,rfl,q,t⟩:=r2.tup;rw[t.refs]at q;exact sL rfl pins s σ H _ us Q I rx {a,C,p,_,b,by rw[r1.ref],ha,h2,h3,q,λay hv=>by rw[t5 hv];exact h4,hR.now hS h<|bC _}
end
theorem t6{P:Program}{w:World} : ∀{ss:List Str}{vs:List Value},vs.length=ss.length->(∀(j:Nat)(v:Value),vs[j]?=some v->∃x,ss[j]?=some x/\keyIs (.inr x) v=true)->StrsAre vs ss|[],[],_,_=>.nil|[],_::_,h,_=>by simp at h|_::_,[],h,_=>by simp at h|x::ss,v::vs,h,k=>by obtain⟨x',e,q⟩:=k 0 v rfl;cases e;rcases bw q with⟨i,t,e,_⟩|⟨y,t,e,rfl⟩;cases e;cases e;exact .cons x t<|t6 (P:=P) (w:=w) (by simpa using h) λj v e=>k (j+1) v<|by simpa using e
theorem t9:∀{vs:List Value}{ss:List Str},StrsAre vs ss->Vals (ss.map V.str) vs|_,_,.nil=>.nil|_,_,.cons y t h=>.cons ⟨t,rfl⟩<|t9 h
theorem KV.Yk{κ:Type}{kvs:List<|κ×V}{vs:List<|κ×Value}(h:KV kvs vs):vs.map (·.1)=kvs.map (·.1):=by unfold KV at h;induction h with|nil=>rfl|cons r t ih=>rw[zE,zE,ih,r.1]
theorem HA{prog:Program}{w:World}{A:Around}{E:Value->Shared->Prop}{s:Shared}{T:String}{r d:Addr}{n:Nat}{P:Nat->Value->Prop}{OK:Heap->Prop}{R:List Value->Shared->Prop}(K:PySem.W.KdlSrc prog w T r d n P OK)(hh:A.handled=none)(aH:OK s.heap)(hn:n<=sizeLine) (h:∀(h':Heap) (tk:Nat) (acc:Array Value),(∀b o,s.heap.get? b=some o->h'.get? b=some o)->s.heap.objs.size<=h'.objs.size->ItemsOf P acc n->R acc.toList {s with heap:=h',toks:=tk}): wpAny (model prog w) A (collect<|.ref r) R E s:=by have dW:=K.there _ aH;unfold collect;refine zb<|wpAny_runValue<|yB entry_proto_collect' ?_;rw[Around.under_plainId PySem.F.plain_proto_collect _];show wpAny _ A.in1 (newList [] >>=λl=>again<|.builtin "list.__iadd__" {[l,.ref r],[]}) _ _ s;refine zb<|yA ?_;refine zu {plainId_quiet PySem.F.plain_list_iadd _,yB entry_list_iadd' ?_};rw[Around.under_plainId PySem.F.plain_list_iadd _];have TV:(s.heap.push {cls:=.type "list",data:=.seq ([]:List Value).toArray}).get? s.heap.objs.size=some {cls:=.type "list",data:=.seq #[]}:=zj _ rfl;show wpAny _ A.in1 (Builtin.List.listExtendWith (.ref s.heap.objs.size) (.ref r)<|.ref s.heap.objs.size) _ _ _;have key:=PySem.W.kdl_extend (A:=A) (s:={s with heap:=s.heap.push {cls:=.type "list",data:=.seq ([]:List Value).toArray}}) (R:=λ(q:Result) (s':Shared)=>∃(h':Heap) (tk:Nat) (xo:Array Value) (c':Nat),q=.ok (.ret<|.ref s.heap.objs.size)/\s'={s with heap:=h',toks:=tk}/\(∀b o,s.heap.get? b=some o->h'.get? b=some o)/\h'.get? s.heap.objs.size=some {cls:=.type "list",dict:=none,data:=.seq xo c',slots:=#[]}/\ItemsOf P xo n) K hh (K.keep _ _ aH λb _ o e=>za _ e) s.heap.objs.size (yj dW.1) (yj dW.2) (.ref s.heap.objs.size) 0 TV (λh' tk xo c' hk ox qp=>{h',tk,xo,c',rfl,rfl,λb o e=>hk b o (zy<|zt e)<|za _ e,ox,qp}) hn;refine yn key (λfin s' x=>?_) λe s' x=>?_;{cases fin with|done f=>(obtain⟨h',tk,xo,c',e,rfl,hk,ox,qp⟩:=x;cases e;show wpAny _ A (load s.heap.objs.size >>=_) _ _ _;exact zb<|wpAny_load ox<|zu<|h h' tk xo hk (yC<|zt ox) qp)|again c₁=>refine{x.1,yL x.2 λq bL y=>?_};obtain⟨h',tk,xo,c',rfl,rfl,hk,ox,qp⟩:=y;show wpAny _ A (load s.heap.objs.size >>=_) _ _ _;exact zb<|wpAny_load ox<|zu<|h h' tk xo hk (yC<|zt ox) qp};obtain⟨_,_,_,_,e',_⟩:=x;cases e'
theorem u7{X:Cx}(hc:X.calm=true):cS X (.builtin "sorted") (λxs H Q=>∃(a:Addr)(kvs:List (Key×V))(ss:List Str),xs=[.ref a]/\H a=some (.dK kvs)/\kvs.map (·.1)=ss.map Sum.inr/\kvs.length<64/\∀CW,CW.Perm ss->sortedS CW=true->∀l,H l=none->Q (.ref l) (upd H l<|.lst<|CW.map V.str)):=by
 intro pins s σ H xs us Q I r h;obtain⟨a,kvs,ss,rfl,e,hk,hl,q⟩:=h;obtain⟨u,rfl,ru⟩:=vals1 r;cases ru;obtain⟨z,hd,vs,rel,dd⟩:=CJ I.aH e;obtain⟨ep,VU⟩:=dd.dictAt;have hlen:vs.length<64:=by rw[<-rel.length];exact hl
 have hh:=I.ok.hd hc;refine PySem.Calls.call_function_entry kind_sorted plain_sorted entry_sorted (args_sorted1 _) ?_;unfold Builtin.«sorted»;refine zb (m:=checkCount "sorted" 1 1 _)<|zu ?_;refine zb<|HA (A:=X.A.in1) (PySem.W.kdl_dict (knd:=aF X.prog X.w) (kvs:=vs) (ep:=ep) hd) hh VU (by rw[zZ];omega) λh' tk acc hkp hB qp=>?_;have wD:acc.toList.length=vs.length:=by rw[ym];exact qp.1
 refine zb<|wpAny_newList ?_ (by rw[wD,zZ];omega);have hS:StrsAre acc.toList ss:=by have hkv:=rel.Yk;refine t6 (P:=X.prog) (w:=X.w) (by rw[wD,<-rel.length];have:=congrArg List.length hk;simpa using this) λj v ev=>?_;obtain⟨k,x,e1,e2⟩:=qp.2 j v (by rw[<-Array.getElem?_toList];exact ev);have e3:(vs.map (·.1))[j]?=some k:=(by rw[zq,e1];rfl);rw[hkv,hk,zq]at e3;cases q2:ss[j]? with|none=>(rw[q2]at e3;cases e3)|some y=>rw[q2]at e3;cases e3;exact⟨y,rfl,e2⟩
 have FW:(h'.push<|seqObj "list" acc.toList.toArray 0).get? h'.objs.size=some (seqObj "list" acc.toList.toArray 0):=zj _ rfl;show wpAny _ _ _ _ _ {s with heap:=h'.push<|seqObj "list" acc.toList.toArray 0,toks:=tk};refine zb<|yE<|yF slot_list_sort {_,FW,rfl} entry_list_sort (list_sort_treeK (s:={s with heap:=h'.push<|seqObj "list" acc.toList.toArray 0,toks:=tk}) strKind_oneLt FW hS.keysOf (λm7 m8 rest e=>keyKind_strs<|by rw[<-e];exact hS) (by rw[wD];exact hlen) λeO hp hs=>{_,rfl,?_})<|args_list_sort _;refine zu {_,rfl,?_};obtain⟨CW,h1,h2,h3⟩:=sorted_out_str hS hp hs;obtain⟨e1,he1⟩:=sortedHeap_at (vs:=acc.toList) (n:=0) (out:=(arrOf eO).map (·.2)) FW;have QU:CW.length<=sizeLine:=by rw[h2.length_eq,zZ];have:=congrArg List.length hk;rw[zc,zc]at this;omega
 refine{.ref h'.objs.size,_,I.laid (a:=h'.objs.size) (o:=.lst<|CW.map V.str) (λb u hb=>?_) hB {by rw[zc];exact QU,_,e1,t9 h1,he1},rfl,q CW h2 h3 _<|I.aH.fresh hB};have dW:=zt<|hkp b u hb;rw[sortedHeap_old (zy dW)<|by rw[zV];exact Nat.lt_succ_of_lt dW,za _<|hkp b u hb]
section
variable{K:Frag}
def KY:List D->av->KD->Prop:=λds S R=>∃(a:Addr)(kvs:List (Key×D))(ss:List Str),ds=[.ref a]/\S a=some (.cA kvs)/\kvs.map (·.1)=ss.map Sum.inr/\kvs.length<64/\∀CW,CW.Perm ss->sortedS CW=true->∀p,S p=none->R (.ref p) (S.set p<|.lst<|CW.map D.str)
theorem bO.keys{κ:Type}{H:Hp}{ks:List<|κ×D}{vs:List<|κ×V}(h:bO K H ks vs):vs.map (·.1)=ks.map (·.1):=by unfold bO at h;induction h with|nil=>rfl|cons r t ih=>rw[zE,zE,ih,r.1]
theorem xp:fW K (.builtin "sorted") KY:=by rintro X hK hc pins s σ H xs us Q I rx ⟨ds,S,R,r,hS,⟨a,kvs,ss,e,e1,hk,hl,h⟩,hR⟩;subst e;obtain⟨v,rfl,r1⟩:=r.one;obtain⟨vs,e2,t⟩:=hS.cA e1;exact u7 hc pins s σ H _ us Q I rx {a,vs,ss,by rw[r1.ref],e2,by rw[t.keys];exact hk,by rw[t.len];exact hl,λCW p1 p2 l hl=>hR.new hS hl (h CW p1 p2 l)<|uV CW}
end
noncomputable def MM(K:Frag)(a:Addr)(n:Nat):It:={λi H=>∃xs x,iU K H a xs/\xs.length=n/\i<n/\xs[n-1-i]?=some x,λi H x H'=>H'=H/\∀xs,iU K H a xs->xs.length=n->xs[n-1-i]?=some x,λi _=>n<=i}
theorem HB{P:Program}{w:World}{K:Frag}{tg:Expr}(a it:Addr)(n:Nat):Turn P w K tg (MM K a n) [it] it (λi h=>i<=n/\h.IsRevIter it a ((n:Int)-1-(i:Int))) where
 mem:=by simp
 obj:=λi h st b hb=>by
  have e:b=it:=by simpa using hb
  subst e
  obtain⟨_,o,e,c,d⟩:=st
  exact{o,e,λv z=>by rw[d]at z;cases z}
 keep:=λi h h' st k=>{st.1,st.2.at λo e=>k it (by simp) o e}
 item:=by
  intro X hP hw hK hc i pins s σ H E I hf st hg
  subst hP hw hK
  obtain⟨xs,x,hq,hn,hi,hx⟩:=hg
  obtain⟨ay,rv,p,hz⟩:=I.list hq
  obtain⟨u,hu,ru⟩:=rv.get hx
  obtain⟨f0,f1,f2,f3,f4,f5⟩:=hf it<|by simp
  have e:(n:Int)-1-(i:Int)=((n-1-i:Nat):Int):=by lia
  have hit:=st.2
  rw[e]at hit
  refine wpAny_pyNext_rev_item hit p.isList (x:=u) (by simpa using hu) λh' eO sb=>?_
  have I1:Inv X pins σ H {s with heap:=h'}:=I.turned (t':=s.toks) (λb o hb e=>(sb.2 b hb).trans e) f0 f1 f3 f4 f5
  obtain⟨o,e1,c,d⟩:=id eO
  refine{u,rfl,tG (s:={s with heap:=h'}) e1 c d (by decide) {x,H,I1,ru,{rfl,λys hy _=>by rw[I.wO hy hq];exact hx},{hi,?_},λb hb=>(hf b hb).1}}
  have e2:(n:Int)-1-((i+1:Nat):Int)=((n-1-i:Nat):Int)-1:=by lia
  rw[e2];exact eO
 done:=by
  intro X hP hw hK hc i pins s σ H E I hf st hg
  subst hP hw hK
  obtain⟨f0,f1,f2,f3,f4,f5⟩:=hf it<|by simp
  have hg:n<=i:=hg
  have e:(n:Int)-1-(i:Int) = -1:=by have:=st.1;lia
  have hit:=st.2
  rw[e]at hit
  exact wpAny_pyNext_rev_end (I.ok.hd hc) hit λh' eb=>{rfl,I.turned (t':=s.toks) (λb o hb e=>eb b o hb e) f0 f1 f3 f4 f5}
 self:=λ_ _ _ _ _ st h=>wpAny_pyIter_revIter st.2 h
def Yl(K:Frag)(ta:TA):TI:=λσ H R=>ta σ H λvs H1=>∃a xs,vs=[.ref a]/\iU K H1 a xs/\R (MM K a xs.length) H1
theorem O4{X:Cx}{tg a:Expr}{ta:TA}{p pos:Pos}(hg:Gl X "reversed")(hm:X.mg "reversed"= none)(ha:PA X [a] ta)(hs:starEach [a] X.env=[(false,eval a X.env)]):PI X tg (.Call (.Name "reversed" p) [a] [] pos) (Yl X.K ta):=by
 intro pins s σ H R I h;refine Call_<|gr I hg hm boot_reversed<|PyProof.Rows.callWith_type1 (bf (ha pos pins s σ H _ I h) λus s1 ⟨vs,H1,I1,r1,q1⟩=>?_) hs rfl;obtain⟨l,xs,e,q,hR⟩:=q1;subst e;obtain⟨u,rfl,ru⟩:=vals1 r1;cases ru;obtain⟨ay,rv,pl,hz⟩:=I1.list q;have hn:ay.toArray.size=xs.length:=by rw[zm,rv.length]
 refine call_reversed_list pl.isList ?_;rw[hn];have st:(s1.heap.push<|revObj l<|(xs.length:Int)-1).IsRevIter s1.heap.objs.size l ((xs.length:Int)-1-((0:Nat):Int)):={_,zj _ rfl,rfl,by show Data.fields _=Data.fields _;simp};have I2:Inv X pins σ H1 {s1 with heap:=s1.heap.push<|revObj l<|(xs.length:Int)-1}:=I1.kept (t':=s1.toks) λb o e=>za _ e;refine wpAny_pyIter_revIter st {_,_,_,_,H1,rfl,I2,HB l s1.heap.objs.size xs.length,{zU _,st},λb hb=>?_,hR};have hb:b=s1.heap.objs.size:=by simpa using hb
 subst hb;exact I1.o_ (zk _)<|I1.aH.fresh<|zk _
section
variable{K:Frag}{X:Cx}{tg:Expr}
def TY(t:iN):Bi:=λσ S R Z=>t σ S (λds S1=>∃x es,ds=[x]/\wG S1 x es/\R {es.reverse,λS=>wG S x es} S1) Z
theorem irv{t:iN}(hm:X.mg "reversed"= none)(ha:DA K X [a] t)(hg:autoParam (Gl X "reversed") qQJ)(hs:autoParam (starEach [a] X.env=[(false,eval a X.env)]) qQJ)(hK:autoParam (X.K=K) qQJ):DI K X tg (.Call (.Name "reversed" p) [a] [] pos) (TY t):=by subst hK;exact⟨λy=>(O4 (X:=y.cx) hg hm (ha.of y) hs).mono <| by rintro τ H R ⟨σ,S,RI,Z,aD,hS,q,hR,hZ⟩;exact{σ,S,_,Z,aD,hS,q,by rintro ds S1 vs H1 ⟨x,es,e,h1,r1⟩ v1 s1 k1;subst e;obtain⟨v,rfl,r⟩:=v1.one;obtain⟨a,xs,rfl,hq,t⟩:=h1.at s1 r;refine{a,xs,rfl,hq,hR _ S1 _ H1 r1 (λi S2 H2 k2 s2 VR=>?_) s1 k1};obtain⟨a',OX,e',Gb,t'⟩:=wG.at VR s2<|Rv.ts k2 _ r;cases e';have hl:xs.length=es.length:=t.len;have ZT:OX.length=es.length:=t'.len;refine{λd hd=>?_,λh=>by rw[yg]at h;show xs.length<=i;lia};have hi:i<es.length:=(by have:=(ze.mp hd).1;rwa [yg]at this);rw[List.getElem?_reverse hi]at hd;obtain⟨v,e1,r⟩:=t'.get hd;rw[<-hl]at e1;refine{{OX,v,Gb,by lia,by lia,e1},λx' H' ⟨e2,e3⟩=>?_};subst e2;have:=e3 OX Gb (by lia);rw[e1]at this;cases this;exact{r,.refl _,s2},hZ}⟩
noncomputable def br(xs ys:List D):List D:=List.zipWith (λa b=>D.tup [a,b]) xs ys
def TZ(t:iN):Bi:=λσ S R Z=>t σ S (λds S1=>∃xs ys,ds=[.tup xs,.tup ys]/\xs.length=ys.length/\R {br xs ys,λ_=>True} S1) Z
theorem pQ:∀v τ H Q,Tg K (MK 2<|Bf (VP i)<|Bf (VP j) MJ) v τ H Q->JS K 2 (p6 (ir i)<|p6 (ir j) JR) v τ H Q:=by rintro v τ H Q ⟨d,σ,S,R,rv,aD,hS,⟨ds,e,hl,a,r,e1,b,r',e2,e3,q⟩,hR⟩;subst e e1 e2 e3;obtain⟨p,xs,rfl,hp,t⟩:=rv.tup;obtain⟨v1,v2,rfl,r1,r2⟩:=t.two;exact{p,_,rfl,.of hp,rfl,v1,[v2],rfl,v2,[],rfl,rfl,hR _ S _ H q ((aD.set i r1).set j r2) hS<|.refl _}
end
section
variable{K:Frag}{X:Cx}{b:Bool}{pos:Pos}
def T4(tl ti tv:TD):jV:=λDe σ S Z=>tv σ S (λv S1=>tl σ S1 (λx S2=>ti σ S2 (λy S3=>∃a es i j,x=.ref a/\y=.int i/\S3 a=some (.lst es)/\Jz es.length i=some j/\De.nx σ (S3.set a<|.lst<|es.set j v))<|Z σ)<|Z σ)<|Z σ
theorem sls{o i value:Expr}{tl ti tv:TD}{pos':Pos}(ho:DE K X o tl)(hi:DE K X i ti)(hv:DE K X value tv)
  (ha:autoParam (∀v,assign (.Subscript o i pos') X.env v=(do
   let ov <-holding [v] (eval o X.env)
   let iv <-holding [v,ov] (eval i X.env)
   standAt pos'
   holding [v,ov,iv] (setItem ov iv v)
   release [v,ov,iv] [])) qQ0)
  (hs:autoParam (swapsWithSole [.Subscript o i pos'] value pos.line X.env=pure false) qQJ) (hw:autoParam (swappedStores [.Subscript o i pos'] value X.env=pure none) qQJ) (h1:autoParam ((assignEach [.Subscript o i pos'] X.env).map (·.2)=[assign (.Subscript o i pos') X.env]) qQJ):
  DS K X b (.Assign [.Subscript o i pos'] value pos) (T4 tl ti tv):=
 ⟨λy=>(Gv (X:=y.cx) (hv.of y) (ND (ho.of y) (hi.of y) set_list ha) hs hw h1).mono <| by rintro D τ H ⟨σ,S,De,Z,aD,hS,q,hD,hZ⟩;exact
  ⟨σ,S,_,_,aD,hS,q,λv S1 vv H1 r1 v1 s1 k1=>⟨σ,S1,_,_,aD.ts k1,s1,r1,λx S2 xv H2 r2 v2 s2 k2=>⟨σ,S2,_,_,aD.ts<|k1.trans k2,s2,r2,by
   rintro y S3 yv H3 ⟨a,es,i,j,e1,e2,e3,e4,r3⟩ v3 s3 k3
   subst e1 e2
   obtain⟨xs,e5,t⟩:=s3.lst e3
   have kk:=s3.hG (o:=.lst<|xs.set j vv) e3
   refine{a,xs,i,j,(Rv.ts k3 _ v2).ref,v3.int,e5,by rw[t.len];exact e4,?_}
   exact hD.nx _ _ _ _ r3 (aD.ts<|((k1.trans k2).trans k3).trans kk) (s3.put (c:=.lst _) e3 {_,aE,RvAll.ts kk _<|t.set j<|Rv.ts (k2.trans k3) _ v1})<|((k1.trans k2).trans k3).trans kk,hZ.on (k1.trans k2)<|aD.ts<|k1.trans k2⟩,hZ.on k1<|aD.ts k1⟩,hZ.at aD⟩⟩
noncomputable def fj(z:Str):List D:=z.cps.toList.map λc=>D.str ⟨#[c]⟩
def MN(t:TD):Bi:=λσ S R Z=>t σ S (λx S1=>∃z,x=.str z/\R {fj z,λ_=>True} S1) Z
theorem O5{t:TD}(h:DE K X l t):DI K X tg l (MN t):=⟨λy=>(Om (X:=y.cx)<|h.of y).mono <| by rintro τ H R ⟨σ,S,RI,Z,aD,hS,q,hR,hZ⟩;exact⟨σ,S,_,Z,aD,hS,q,by
 rintro x S1 v H1 ⟨z,e,r1⟩ v1 s1 k1;subst e;refine{z,v1.str,hR _ S1 _ H1 r1 (λi S2 H2 k2 s2 _=>{λd hd=>?_,λhl=>?_}) s1 k1};unfold fj at hd;rw[zq,Array.getElem?_toList]at hd;cases q:z.cps[i]? with|none=>(rw[q]at hd;cases hd)|some c=>rw[q]at hd;cases hd;refine{(Array.getElem?_eq_some_iff.mp q).1,λx' H' ⟨e1,c',e2,e3⟩=>?_};rw[q]at e2;cases e2;subst e1 e3;exact{i7 _,.refl _,s2}
 unfold fj at hl;rw[zc,ym]at hl;exact hl,hZ⟩⟩
def KZ(t:TD):TD:=λσ S R Z=>t σ S (λx S1=>∃ss:List Str,wG S1 x (ss.map D.str)/\ss.length<4000/\R (.int (iy ss).length) S1) Z
theorem lse{t:TD}(h:DE K X e t)(hm:X.mg "len"= none)(hm':X.mg "set"= none)(hp:autoParam (isPlain e=true) qQJ)(hg:autoParam (Gl X "len") qQJ)(O6:autoParam (Gl X "set") qQJ)(he:autoParam (starEach [e] X.env=[(false,eval e X.env)]) qQJ) (he2:autoParam (starEach [Expr.Call (.Name "set" p') [e] [] pos'] X.env=[(false,eval (.Call (.Name "set" p') [e] [] pos') X.env)]) qQJ) (hK:autoParam (X.K=K) qQJ) (hc:autoParam (X.calm=true) qQJ): DE K X (.Call (.Name "len" p) [.Call (.Name "set" p') [e] [] pos'] [] pos) (KZ t):=by subst hK;refine⟨λy=>(qh (X:=y.cx) (EL (X:=y.cx) rfl rfl) hg hm aJ (Xk (tM (X:=y.cx) (EK (X:=y.cx) rfl rfl rfl hc) O6 hm' Ow (Xk (h.of y) AB hp) (by decide) (by decide) he rfl) AB rfl) (by decide) (by decide) he2 rfl).mono λτ H Q ⟨σ,S,R,Z,aD,hS,q,hR,hZ⟩=>?_⟩;refine{σ,S,_,Z,aD,hS,q,λx S1 v H1 ⟨ss,h1,hl,r1⟩ v1 s1 k1=>?_,hZ};obtain⟨a,xs,rfl,hq,t⟩:=h1.at s1 v1;rw[t.strs]at hq;exact{a,ss,rfl,hq,hl,λl hl=>{l,ss,rfl,aE,hR _ _ _ _ r1 (aL _) (s1.grow hl)<|k1.trans<|.new hl}}
end
theorem EZ{K:Frag}{S:av}{H:Hp}{l:Addr}(hS:Rs K S H)(h:S l=some .well):∃x y z:Int,Rs K (S.set l<|.lst [.int x,.int y,.int z]) H:=by obtain⟨x,y,z,e⟩:∃x y z:Int,H l=some (.lst [.int x,.int y,.int z]):=hS l _ h;refine{x,y,z,λb c hb=>?_};by_cases q:b=l;subst q;rw[aa]at hb;cases hb;exact{_,e,aO (aL x)<|aO (aL y)<|aO (aL z) bq};rw[ag q]at hb;exact hS b c hb
theorem t_{K:Frag}{S:av}{H:Hp}{l:Addr}{x y z:Int}(h:S l=some .well)(hS:Rs K (S.set l<|.lst [.int x,.int y,.int z]) H):Rs K S H:=λb c hb=>by by_cases q:b=l;subst q;rw[h]at hb;cases hb;obtain⟨xs,e,t⟩:=hS.lst (a:=b) aa;rw[t.ints (bs:=[x,y,z])]at e;exact⟨x,y,z,e⟩;exact hS b c<|by rw[ag q];exact hb
def O7(pre:List D->Addr->Prop)(post:List D->D->Prop):iV:=λds S R _=>∃l x y z,pre ds l/\S l=some (.lst [.int x,.int y,.int z])/\∀d x' y' z',post ds d->R d (S.set l<|.lst [.int x',.int y',.int z'])
def HC(pre:List D->Addr->Prop)(post:List D->D->Prop):iV:=λds S R _=>∃l,pre ds l/\S l=some .well/\∀d,post ds d->R d S
theorem E1{P:Program}{w:World}{K:Frag}{mg:Str->Option Value}{base:Heap}{k:Nat}{f:Addr}{fd:FuncData}{ps:List Str}{pre:List D->Addr->Prop}{post:List D->D->Prop} (F:bB P w K mg base (fb P w mg) k f fd ps<|pq K<|O7 pre post):bB P w K mg base (fb P w mg) k f fd ps (pq K<|HC pre post):=by refine F.imp λvs H Q E ⟨ds,S,R,Z,v,hS,⟨l,hp,hw,h⟩,hR,hZ⟩=>?_;obtain⟨x,y,z,ox⟩:=EZ hS hw;refine{ds,_,λd S2=>∃x' y' z',post ds d/\S2=S.set l (.lst [.int x',.int y',.int z']),λ_ _=>False,v,ox,{l,x,y,z,hp,aa,λd x' y' z' hd=>⟨x',y',z',hd,dX⟩},λd S2 u H' ⟨x',y',z',hd,e⟩ rv hs kp=>?_,λ_ _ _ q=>q.elim};subst e;exact hR d S u H' (h d hd) rv (t_ hw hs) kp
theorem fc:bootBuiltins "sorted"= some (.builtin "sorted"):=by trivial
def Sub(S S':av):Prop:=∀b c,S b=some c->S' b=some c
theorem Sub.refl(S:av):Sub S S:=λ_ _ h=>h
theorem Sub.trans(a:Sub S S1)(b:Sub S1 S2):Sub S S2:=λp c h=>b p c<|a p c h
theorem Sub.new(h:S p=none):Sub S (S.set p c):=λb c' hb=>by rw[ag<|g6 hb h];exact hb
theorem Rs.sub{K:Frag}{S S':av}{H:Hp}(h:Rs K S' H)(s:Sub S S'):Rs K S H:=λa c e=>h a c<|s a c e
inductive Fo (S':av) (p:av->Prop):Prop where
 |mk (S:av) (h:Sub S S') (r:p S):Fo S' p
theorem fo(h:p S):Fo S p:={S,.refl S,h}
section
variable{P:Program}{w:World}{K:Frag}{mg:Str->Option Value}{base:Heap}
theorem u3.ok{x qual:Str}{st:Stmt}{f:Addr}{fd:FuncData}{N ps:List Str}{k:Nat}{sp:iV}(F:u3 K x qual st f fd)(S:fT N ps<|ae st)(len:∀ds S R Z,sp ds S R Z->ds.length=ps.length) (lM:∀(fU:Value)(A:Around)(outer:List Env)(s:Shared)(H:Hp)(E:XK)(ds:List D)(S:av)(R:KD)(Z:KX),bM k (A.deeper<|envOfC qual (ae st) s.heap.objs.size f fU)->sp ds S R Z->∃t,Bd K (jT (fb P w mg) P w K mg base N qual (ae st) f fU A outer s H E) true (aU st) t/\t {nx:=λ_ S'=>Fo S'<|R .ax,rt:=λd S'=>Fo S'<|R d} (ja N ds) S λ_ C S'=>Fo S'<|Z C):bB P w K mg base (fb P w mg) (k+1) f fd ps (pq K sp):=by
 have F2:bB P w K mg base (fb P w mg) (k+1) f fd ps (pq K λds S R' Z'=>∃R Z,sp ds S R Z/\R'=(λd S'=>Fo S'<|R d)/\Z'=λC S'=>Fo S'<|Z C):=by refine F.okD S (by rintro ds S R Z ⟨R0,Z0,h,_⟩;exact len _ _ _ _ h) λfU A outer s H E ds S R Z hr ⟨R0,Z0,h,e1,e2⟩=>?_;subst e1 e2;exact lM fU A outer s H E ds S R0 Z0 hr h
 refine F2.imp <| by rintro vs H Q E ⟨ds,S,R,Z,v,hS,h,hR,hZ⟩;exact{ds,S,_,_,v,hS,⟨R,Z,h,rfl,rfl⟩,by rintro d S' u H' ⟨S2,sb,r⟩ rv rs kp;exact hR d S2 u H' r rv (rs.sub sb) kp,by rintro C S' H' ⟨S2,sb,r⟩ rs kp;exact hZ C S2 H' r (rs.sub sb) kp}
end
section
variable{K:Frag}{X:Cx}{b:Bool}
def T5(t:jV):jV:=λDe σ S Z=>∃P:SD->av->Prop,t {De with nx:=λaC S'=>Fo S'<|P aC} σ S Z/\∀aC S',P aC S'->De.nx aC S'
theorem xq{st:Stmt}{t:jV}(h:DS K X b st t):DS K X b st (T5 t):=⟨λy=>(h.of y).mono <| by rintro D τ H ⟨σ,S,De,Z,aD,hS,⟨P,q,hP⟩,hD,hZ⟩;exact{σ,S,_,Z,aD,hS,q,{by rintro uF S1 VO H1 ⟨S2,sb,r1⟩ a b c;exact hD.nx _ _ _ _ (hP _ _ r1) a (b.sub sb) c,hD.rt,hD.bk,hD.ct},hZ}⟩
def dFo(t:TD):TD:=λσ S R Z=>t σ S (λd S'=>Fo S'<|R d) Z
theorem CY{t:TD}(h:DE K X e t):DE K X e (dFo t):=⟨λy=>(h.of y).mono <| by rintro τ H Q ⟨σ,S,R,Z,aD,hS,q,hR,hZ⟩;exact{σ,S,_,Z,aD,hS,q,by rintro d S' v H' ⟨S2,sb,r⟩ rv rs kp;exact hR d S2 v H' r rv (rs.sub sb) kp,hZ}⟩
theorem r_(nd:N.Nodup)(h0:autoParam (N[0]?=some a) qQJ)(hx:autoParam (∀C s H ex pn,Loc (iu X N scope C s H ex pn).env.scope a/\(iu X N scope C s H ex pn).env.scope.names.lookup a=some .local) qJQ): ∀C s H ex pn,PG (iu X N scope C s H ex pn) (.Name a p) (ir 0):=λC s H ex pn=>pL (i:=0) nd h0 (hx C s H ex pn).1<|.inr (hx C s H ex pn).2
theorem VV(nd:N.Nodup)(h0:autoParam (N[0]?=some a) qQJ)(h1:autoParam (N[1]?=some c) qQJ) (hx:autoParam (∀C s H ex pn,Loc (iu X N scope C s H ex pn).env.scope a/\(iu X N scope C s H ex pn).env.scope.names.lookup a=some .local) qJQ) (hy:autoParam (∀C s H ex pn,Loc (iu X N scope C s H ex pn).env.scope c/\(iu X N scope C s H ex pn).env.scope.names.lookup c=some .local) qJQ) (hl:∀env:Env,(assignEach [.Name a p,.Name c p'] env).length=2/\(assignEach [.Name a p,.Name c p'] env).findIdx? (·.1)=none/\(assignEach [.Name a p,.Name c p'] env).map (·.2)=assign (.Name a p) env::(assignEach [.Name c p'] env).map (·.2)/\(assignEach [.Name c p'] env).map (·.2)=assign (.Name c p') env::(assignEach [] env).map (·.2):=by intro _;exact⟨rfl,rfl,rfl,rfl⟩) (hK:autoParam (X.K=K) qQJ) (hc:autoParam (X.calm=true) qQJ): ∀C s H ex pn,PG (iu X N scope C s H ex pn) (.Tuple [.Name a p,.Name c p'] j p2) (JS K 2<|p6 (ir 0)<|p6 (ir 1) JR):=λC s H ex pn=>by subst hK;have e:=hl (iu X N scope C s H ex pn).env;exact Gu (X:=iu X N scope C s H ex pn) hc (p7 (pL (i:=0) nd h0 (hx C s H ex pn).1<|.inr (hx C s H ex pn).2) (p7 (pL (i:=1) nd h1 (hy C s H ex pn).1<|.inr (hy C s H ex pn).2) Cy e.2.2.2) e.2.2.1) e.1 e.2.1
end
theorem qF:∀{ss:List Str}{ay:List Value},Vals (ss.map V.str) ay->StrsAre ay ss|[],_,.nil=>.nil|z::ss,_,.cons r t=>by obtain⟨tk,rfl⟩:=r;exact .cons z tk<|qF t
section
noncomputable def iP(xs:List D):List D:=(List.range xs.length).zipWith (λi x=>.tup [.int (i:Nat),x]) xs
end
end L2
namespace HT
open PySem PySem.Spec PyProof.Rows
end HT
namespace L2
open PySem PySem.Spec PyProof.Rows
inductive HD (S:av):List D->List PyData->Prop where
 |nil:HD S [] []
 |cons {d:D}{p:PyData}{ds:List D}{ps:List PyData} : Dl S d p->HD S ds ps->HD S (d::ds) (p::ps)
section
variable{K:Frag}
noncomputable def CZ(p:Str×D):D:=.tup [.str p.1,p.2]
noncomputable def gw(l:List<|Str×D):List (Key×D):=l.foldl (λc p=>dput c (.inr p.1) p.2) []
theorem C3:∀{kvs:List (Str×D)}{ys:List V},RvAll K H (kvs.map CZ) ys->∃kv:List (Str×V),Prs H ys kv/\∀c c',bO K H c c'->bO K H (kvs.foldl (λc p=>dput c (.inr p.1) p.2) c) (kv.foldl (λc p=>putK c (.inr p.1) p.2) c')|[],ys,h=>(by rw[h.nil];exact{[],{rfl,λi x p e=>(by cases i<;>cases e)},λc c' h=>h})|p::kvs,ys,h=>by obtain⟨y,ys,rfl,r1,r2⟩:=h.cons;obtain⟨b,zs,rfl,hb,tz⟩:=Rv.tup<|show Rv K H (.tup [.str p.1,p.2]) y from r1;obtain⟨v,u,rfl,rv,ru⟩:=tz.two;have ev:=rv.str;subst ev;obtain⟨kv,⟨hl,hp⟩,hf⟩:=C3 r2;refine{(p.1,u)::kv,{by rw[zO,zO,hl],λi x q e1 e2=>?_},λc c' h=>hf _ _<|h.put (.inr p.1) ru};cases i with|zero=>(cases e1;cases e2;exact⟨b,rfl,hb⟩)|succ i=>exact hp i x q e1 e2
def T6:List D->av->KD->Prop:=λds S R=>∃kvs:List (Str×D),ds=[.tup<|kvs.map CZ]/\∀p,S p=none->R (.ref p) (S.set p<|.cA<|gw kvs)
theorem HE:fW K (.type "dict") T6:=by rintro X hK hc pins s σ H xs us Q I rx ⟨ds,S,R,r,hS,⟨kvs,e,h⟩,hR⟩;subst hK e;obtain⟨v,rfl,r1⟩:=r.one;obtain⟨a,ys,rfl,q,t⟩:=r1.tup;obtain⟨kv,hp,hf⟩:=C3 t;refine AV hc pins s σ H _ us Q I rx {a,ys,kv,rfl,q,hp,λl hl=>?_};have kn:Kp X.K H (upd H l<|.dK<|CL kv):=.new hl;exact hR _ _ _ _ (h l<|hS.fresh hl) (fi l) (hS.new (c:=.cA<|gw kvs) hl {_,aE,(hf [] [] .nil).ts kn}) kn
theorem xr(kvs:List<|Key×D)(k k':Key)(d:D):bY (dput kvs k d) k'=if k'=k then some d else bY kvs k':=by
 unfold dput;by_cases hk:(kvs.any λkv=>decide<|kv.1=k)=true;rw[if_pos hk];unfold bY;induction kvs with|nil=>(cases hk)|cons r kvs ih=>rw[zE,zT,zT];by_cases e:r.1=k;rw[if_pos e];by_cases e2:k'=k;rw[if_pos e2,show decide (r.1=k')=true from zr (e.trans e2.symm)];rfl;rw[if_neg e2,show decide (r.1=k')=false from zo λq=>e2<|q.symm.trans e];by_cases dY:(kvs.any λkv=>decide<|kv.1=k)=true;have:=ih dY;rw[if_neg e2]at this;exact this;have em:kvs.map (λkv=>if kv.1=k then (kv.1,d) else kv)=kvs:=(by(conv=>rhs;rw[<-List.map_id kvs]);refine zW λx hx=>?_;rw[if_neg λq=>dY<|List.any_eq_true.mpr {x,hx,zr q}];rfl);rw[em];rw[if_neg e];have dY:(kvs.any λkv=>decide<|kv.1=k)=true:=(by rw[yJ,zo e,yM]at hk;exact hk);by_cases e3:r.1=k';rw[zr e3,if_neg λq=>e<|e3.trans q];rw[zo e3];exact ih dY
 rw[if_neg hk];unfold bY;rw[List.find?_append];have hn:∀x∈kvs,x.1≠k:=λx hx q=>hk<|List.any_eq_true.mpr {x,hx,zr q};by_cases e:k'=k;subst e;rw[if_pos rfl,List.find?_eq_none.mpr λx hx=>by simp[hn x hx]];simp;rw[if_neg e];have:([(k,d)].find? λkv=>decide<|kv.1=k')=none:=by rw[zT,show decide (k=k')=false from zo λq=>e q.symm];rfl
 rw[this,Option.or_none]
theorem ua(l:List<|Str×D)(z:Str):(bY (gw l)<|.inr z).isSome=l.any λp=>decide (p.1=z):=by
 have all:∀(l:List (Str×D))(c:List (Key×D)),(bY (l.foldl (λc p=>dput c (.inr p.1) p.2) c)<|.inr z).isSome=((bY c<|.inr z).isSome||l.any λp=>decide<|p.1=z):=by intro l;induction l with|nil=>intro c;simp|cons p l ih=>intro c;rw[yI,ih,xr,yJ];by_cases e:p.1=z;rw[if_pos<|by rw[e],zr e];simp;rw[if_neg λq=>e (yH q).symm,zo e];simp
 exact(all l []).trans<|by rfl
def T7(a:Addr)(kvs:List<|Str×V):uW:=λx y S R=>∃z,x=.str z/\y=.ref a/\R (.bl (kvs.lookup z).isSome) S
theorem Ym{X:Cx}{a b:Expr}{ta tb:TD}{pos:Pos}{w:World}{ad:Addr}{kvs:List<|Str×V}(d:JB w K ad kvs)(ha:DE K X a ta)(hb:DE K X b tb)(hw:autoParam (X.w=w) qQJ)(hm:autoParam (behindInMarks .In b=false) qQ2)(hK:autoParam (X.K=K) qQJ): DE K X (.Compare a [.In] [b] pos) (OP (T7 ad kvs) ta tb):=by refine⟨λy=>(CC (X:=y.cx) (r:=Lr K<|T7 ad kvs) ?_ (ha.of y) (hb.of y) hm).mono λ_ _ _ h=>h.op⟩;rintro pins s σ H x y' v u Q I rx ry ⟨d',e,S,R,r1,r2,hS,⟨z,e1,e2,h⟩,hR⟩;subst e1 e2;exact Hd (X:=y.cx) hw hK pins s σ H x y' v u Q I rx ry {z,ad,kvs,r1.str,r2.ref,d,hR.now hS h<|bC _}
end
structure T8(k:Nat)(A:Around):Prop where
 dp:A.depth+3*k+5<recursionLimit
 un:A.units+16*k+200<cLine
structure FnH(P:Program)(w:World)(K:Frag)(mg:Str->Option Value)(base:Heap)(k:Nat)(f:Addr)(fd:FuncData)(ps:List Str)(sp:iV):Prop where
 len:∀ds S R Z,sp ds S R Z->ds.length=ps.length
 run:∀(A:Around)(outer:List Env)(s:Shared)(H:Hp)(args:Args)(us:List Value)(vs:List V)(Q:VK),T8 k A->wR P w K mg base A outer s H->BindsTo s fd args (ps.zip us)->Vals vs us->pq K sp vs H Q E0 ->
  codeAny (model P w) A (.call (.ref f) args) (CR (fb P w mg) outer P w H s Q E0) s
section
variable{K:Frag}
def Yn:List D->av->KD->Prop:=λds S R=>∃n,ds=[.int n]/\n.natAbs.log2<1920/\R (.str<|Str.ofString<|toString n) S
theorem T9:fW K (.type "str") Yn:=by rintro X hK hc pins s σ H xs us Q I rx ⟨ds,S,R,r,hS,⟨n,e,h1,h⟩,hR⟩;subst hK e;obtain⟨v,rfl,r1⟩:=r.one;have ev:=r1.int;subst ev;obtain⟨u,rfl,ru⟩:=vals1 rx;obtain⟨t,rfl⟩:=ru;exact PySem.P.str_of_int h1 {.str _,H,I.tok _,{_,rfl},hR.now hS h<|i7 _}
end
def PEg(pre:Nat)(X:Cx)(e:Expr)(t:TE):Prop:=∀(pins:List (Addr×Obj))(s:Shared)(σ:St)(H:Hp)(Q:VK),Inv X pins σ H s->pre<=s.toks->t σ H Q->wpAny (model X.prog X.w) X.A (eval e X.env) (λu s'=>EP X pins σ Q u s'/\1<=s'.toks) X.xe s
structure DEg(pre:Nat)(K:Frag)(X:Cx)(e:Expr)(t:TD):Prop where
 of:∀{b:Bool}(y:Ev X b),PEg pre y.cx e<|T K y.E t
theorem Yo{a b:Str}(h:a.cps.toList=b.cps.toList):a=b:=by obtain⟨⟨x⟩⟩:=a;obtain⟨⟨y⟩⟩:=b;cases h;rfl
end L2
namespace HT
open PySem PySem.Spec PyProof.Rows
end HT
namespace L2
open PySem PySem.Spec PyProof.Rows
section
variable{K:Frag}{X:Cx}
def T_:Hm:=λx ds S R=>∃a es fs,x=.ref a/\ds=[.tup fs]/\S a=some (.lst es)/\es.length+fs.length<=sizeLine/\R .ax (S.set a<|.lst<|es++fs)
theorem E3:OR K "list.extend" T_:=by rintro X hK pins s σ H x xs v us Q I rx rs ⟨d,ds,S,R,r1,r2,hS,⟨a,es,fs,e1,e2,e3,hl,h⟩,hR⟩;subst e1 e2;obtain⟨w0,rfl,q2⟩:=r2.one;obtain⟨zs,e5,t⟩:=hS.lst e3;obtain⟨p,ys,rfl,q,t2⟩:=q2.tup;exact Ba pins s σ H x _ v us Q I rx rs {a,p,zs,ys,r1.ref,rfl,e5,q,by rw[t.len,t2.len];exact hl,hR.put hS e3 h i6<|t.app t2}
end
section
variable{K:Frag}{X:Cx}{E:XK}
structure DEx(K:Frag)(X:Cx)(E:XK)(e:Expr)(t:TD):Prop where
 of:∀(y:Ev X true),y.E=(λ_=>E)->cO y.cx E->PE y.cx e (T K y.E t)
structure DAx(K:Frag)(X:Cx)(E:XK)(es:List Expr)(t:iN):Prop where
 of:∀(y:Ev X true),y.E=(λ_=>E)->cO y.cx E->PA y.cx es (Ta K y.E t)
structure DSx(K:Frag)(X:Cx)(E:XK)(b:List Stmt)(t:jV):Prop where
 of:∀(y:Ev X true),y.E=(λ_=>E)->cO y.cx E->Ap y.cx b (Tl K y.E t)
variable{N:List Str}{src:List (Option Nat)}{scope:Scope}{tg iter elt:Expr}{ifs:List Expr}{ti:Bi}{g:TG}{gd:Be}{tc:kL}{te:TD}
end
open PySem.Builtin PySem.Builtin.Str
structure M3(X:Cx)(o:Expr)(m:Str)(apos:Pos)(e f g:Expr)(aN:Pos):Prop where
 base:attributeBase o m X.env (eval o X.env)=eval o X.env
 FX:((backTo aN<|starEach [e,f,g] X.env).all (λx=>!x.1)&&(backToKw aN<|keywordEach [] X.env).all (λx=>x.1.isSome)
  && decide (([e,f,g]:List Expr).length+([]:List Keyword).length+(if ([]:List Keyword).isEmpty then 0 else 1)<30))=true
 line:(apos.endLine==aN.line)=true
 trees:backTo aN (starEach [e,f,g] X.env)=[(false,eval e X.env),(false,eval f X.env),(false,eval g X.env)]
section
variable{X:Cx}{t:TE}
def PAg(pre:Nat)(X:Cx)(es:List Expr)(t:TA):Prop:=∀(pos:Pos)(pins:List (Addr×Obj))(s:Shared)(σ:St)(H:Hp)(Q:List V->Hp->Prop),Inv X pins σ H s->pre<=s.toks->t σ H Q->wpAny (model X.prog X.w) X.A (spliced<|backTo pos<|starEach es X.env) (AP X pins σ Q) X.xe s
end
section
variable{K:Frag}{X:Cx}
structure DAg(pre:Nat)(K:Frag)(X:Cx)(es:List Expr)(t:iN):Prop where
 of:∀{b:Bool}(y:Ev X b),PAg pre y.cx es<|Ta K y.E t
end
structure Gh(a₀:Array Keyed)(g:Nat->Nat)(xs:Array Keyed):Prop where
 at_:∀k,k<a₀.size->xs[k]?=a₀[g k]?
 lt:∀k,k<a₀.size->g k<a₀.size
 inj:∀i j,i<a₀.size->j<a₀.size->g i=g j->i=j
def Log(κ:KeyKind)(a₀:Array Keyed)(i j:Nat):Prop:=κ.klt (KK κ a₀ i) (KK κ a₀ j)\/(KK κ a₀ i=KK κ a₀ j/\i<j)
def Bj(κ:KeyKind)(a₀:Array Keyed)(g:Nat->Nat)(k:Nat):Prop:=∀i j,i<j->j<k->Log κ a₀ (g i) (g j)
def VW(κ:KeyKind)(a₀:Array Keyed)(g:Nat->Nat)(k:Nat):Prop:=∀i j,i<j->j<k->Log κ a₀ (g j) (g i)
def E6(g:Nat->Nat)(m n:Nat):Prop:=∀k,m<=k->k<n->g k=k
noncomputable def HF(g:Nat->Nat)(i j k:Nat):Nat:=if i<=k/\k<j then g (i+j-1-k) else g k
noncomputable def K0(g:Nat->Nat)(src l k:Nat):Nat:=if k=l then g src else if l<k/\k<=src then g (k-1) else g k
section
variable{κ:KeyKind}{a₀ xs:Array Keyed}{g:Nat->Nat}
theorem Log.kle(h:Log κ a₀ i j):κ.kle (KK κ a₀ i) (KK κ a₀ j):=by rcases h with h|⟨h,_⟩;exact KeyOrd.kle_of_klt h;rw[h];exact KeyOrd.kle_refl _
theorem MO(h:κ.kle (KK κ a₀ i)<|KK κ a₀ j)(hl:i<j):Log κ a₀ i j:=by cases q:κ.blt (KK κ a₀ i) (KK κ a₀ j) with|true=>exact .inl q|false=>exact .inr {KeyOrd.kle_antisymm h q,hl}
theorem Gh.low(h:Gh a₀ g xs)(t:E6 g m a₀.size)(hm:m<=a₀.size)(hi:i<m):g i<m:=by refine Nat.lt_of_not_le λq=>?_;have h1:=h.lt i (by lia);have h2:=h.inj (g i) i h1 (by lia)<|t (g i) q h1;lia
theorem Gh.key(h:Gh a₀ g xs)(hk:k<a₀.size):KK κ xs k=KK κ a₀ (g k):=KK_congr<|h.at_ k hk
theorem Gh.mirror(h:Gh a₀ g xs)(hs:xs.size=a₀.size)(hj:j<=a₀.size):Gh a₀ (HF g i j) (mirror xs i j<|(j-i)/2) where
 at_:=λk hk=>by
  rw[getElem?_mirror_all<|by lia]
  unfold HF
  by_cases q:i<=k/\k<j
  ·rw[if_pos q,if_pos q];exact h.at_ _<|by lia
  ·rw[if_neg q,if_neg q];exact h.at_ _ hk
 lt:=λk hk=>by
  unfold HF
  by_cases q:i<=k/\k<j
  ·rw[if_pos q];exact h.lt _<|by lia
  ·rw[if_neg q];exact h.lt _ hk
 inj:=λa b ha hb e=>by
  unfold HF at e
  by_cases q:i<=a/\a<j<;>by_cases r:i<=b/\b<j
  ·rw[if_pos q,if_pos r]at e;have:=h.inj _ _ (by lia) (by lia) e;lia
  ·rw[if_pos q,if_neg r]at e;have:=h.inj _ _ (by lia) (by lia) e;lia
  ·rw[if_neg q,if_pos r]at e;have:=h.inj _ _ (by lia) (by lia) e;lia
  ·rw[if_neg q,if_neg r]at e;exact h.inj _ _ ha hb e
theorem Gh.bubble(h:Gh a₀ g xs)(hs:xs.size=a₀.size)(hl:l<=src)(hj:src<a₀.size):Gh a₀ (K0 g src l) (bubble xs src<|src-l) where
 at_:=λk hk=>by
  rw[getElem?_bubble (by lia) _<|by lia,show src-(src-l)=l by lia]
  unfold K0
  by_cases q:k=l
  ·rw[if_pos q,if_pos q];exact h.at_ _ hj
  ·rw[if_neg q,if_neg q]
   by_cases r:l<k/\k<=src
   ·rw[if_pos r,if_pos r];exact h.at_ _<|by lia
   ·rw[if_neg r,if_neg r];exact h.at_ _ hk
 lt:=λk hk=>by
  unfold K0
  by_cases q:k=l
  ·rw[if_pos q];exact h.lt _ hj
  ·rw[if_neg q]
   by_cases r:l<k/\k<=src
   ·rw[if_pos r];exact h.lt _<|by lia
   ·rw[if_neg r];exact h.lt _ hk
 inj:=λa b ha hb e=>by
  unfold K0 at e
  repeat' split at e
  all_goals (have:=h.inj _ _ (by lia) (by lia) e;lia)
theorem hU(h:i<=k/\k<j):HF g i j k=g (i+j-1-k):=by unfold HF;rw[if_pos h]
theorem fY(h:¬(i<=k/\k<j)):HF g i j k=g k:=by unfold HF;rw[if_neg h]
end
section
variable{prog:Program}{w:World}{A:Around}{E:Value->Shared->Prop}{s:Shared}{a₀:Array Keyed}{κ:KeyKind}
theorem MP{st:SortSt}{g:Nat->Nat}{a top:Nat}{Q:AscSt->SortSt->Prop}(hO:κ.OneLt)(h0:KeysOf κ a₀)(ht:top<=a₀.size)(h1:1<=a)(h2:a<=top)(B:SBase a₀ st)(G:Gh a₀ g<|arrOf st)(T:E6 g a a₀.size)(U:Bj κ a₀ g a) (h:∀n,a<=n->n<=top->Bj κ a₀ g n->(n=top\/κ.klt (KK κ a₀<|g n) (KK κ a₀<|g<|n-1))->Q (none,n) st):wpS (model prog w) A E s (ascLoop a top) Q st:=by
 unfold ascLoop;refine wpS_forRange (I:=λx c t=>t=st/\c=(none,x)/\Bj κ a₀ g x) ?_ ?_ ⟨rfl,rfl,U⟩;rintro x c t OE Ha ⟨rfl,rfl,V⟩;dsimp only;refine wpS_bind<|wpS_ltKK hO B h0 (by lia) (by lia) ?_;rw[G.key<|by lia,G.key<|by lia];cases q:κ.blt (KK κ a₀<|g x) (KK κ a₀<|g<|x-1) with|true=>exact wpS_pure (h x OE (by lia) V<|.inr q)|false=>refine wpS_pure {rfl,rfl,λi j kM hj=>?_};rcases Nat.lt_or_ge j x with z|z;exact V i j kM z;obtain rfl:j=x:=(by lia);have lw:=G.low (m:=j) (λk hk dY=>T k (by lia) dY) (by lia) kM;rw[T j OE<|by lia]at q⊢;refine MO ?_ lw;rcases Nat.lt_or_ge i (j-1) with y|y;exact KeyOrd.kle_trans (V i (j-1) y<|by lia).kle q;obtain rfl:i=j-1:=(by lia);exact q
 rintro c t ⟨rfl,rfl,V⟩;rw[show max a top=top by lia]at V⊢;exact h top h2 (zk _) V<|.inl rfl
theorem HG{st:SortSt}{g:Nat->Nat}{n top:Nat}{Q:Option Nat->SortSt->Prop}(hO:κ.OneLt)(h0:KeysOf κ a₀)(ht:top<=a₀.size)(h1:1<=n)(h2:n<=top)(B:SBase a₀ st)(G:Gh a₀ g<|arrOf st)(T:E6 g n a₀.size)(D:VW κ a₀ g n) (h:∀m g' eO,SBase a₀ eO->Gh a₀ g' (arrOf eO)->E6 g' m a₀.size->1<=m->m<=top->Bj κ a₀ g' m->Q (some m) eO):wpS (model prog w) A E s (tail3 n top) Q st:=by
 unfold tail3;refine wpS_bind<|wpS_reverse ?_;have B':SBase a₀ (setArr st<|mirror (arrOf st) 0 n<|(n-0)/2):=B.setArr<|mirror_perm _ _ _ _;have G':Gh a₀ (HF g 0 n) (arrOf<|setArr st<|mirror (arrOf st) 0 n<|(n-0)/2):=G.mirror B.size (by lia);have T':E6 (HF g 0 n) n a₀.size:=λk hk dY=>by rw[fY<|by lia];exact T k hk dY
 refine wpS_bind<|MP hO h0 ht h1 h2 B' G' T' (λi j kM hj=>?_) λm hm1 QV V _=>wpS_pure<|h m _ _ B' G' (λk hk dY=>T' k (by lia) dY) (by lia) QV V;rw[hU<|by lia,hU<|by lia];exact D _ _ (by lia)<|by lia
structure JE(κ:KeyKind)(a₀:Array Keyed)(g:Nat->Nat)(x q:Nat):Prop where
 le:q+1<=x
 tl:E6 g (x-(q+1)) a₀.size
 dn:∀i j,i<j->j<x->i<x-(q+1)->Log κ a₀ (g j) (g i)
 eq:∀i,x-(q+1)<=i->i<x->KK κ a₀ (g i)=KK κ a₀ (g<|x-1)
theorem JE.full(F:JE κ a₀ g x q)(hx:x<=a₀.size):VW κ a₀ (HF g (x-(q+1)) x) x:=λi j kM hj=>by have le:=F.le;by_cases hi:i<x-(q+1);rw[fY (k:=i)<|by lia];by_cases VX:j<x-(q+1);rw[fY<|by lia];exact F.dn i j kM hj hi;rw[hU<|by lia];exact F.dn i _ (by lia) (by lia) hi;rw[hU<|by lia,hU<|by lia];refine .inr {(F.eq _ (by lia)<|by lia).trans (F.eq _ (by lia)<|by lia).symm,?_};rw[F.tl _ (by lia)<|by lia,F.tl _ (by lia)<|by lia];lia
theorem JE.MQ(F:JE κ a₀ g x 0):VW κ a₀ g x:=λi j kM hj=>F.dn i j kM hj<|by lia
theorem JE.next(D:VW κ a₀ g x)(T:E6 g x a₀.size)(hx:x<a₀.size)(h1:1<=x)(hl:κ.klt (KK κ a₀<|g x)<|KK κ a₀<|g<|x-1):JE κ a₀ g (x+1) 0 where
 le:=by lia
 tl:=λk hk dY=>T k (by lia) dY
 dn:=λi j kM hj hi=>by
  by_cases VX:j<x
  ·exact D i j kM VX
  ·obtain rfl:j=x:=by lia
   refine .inl ?_
   by_cases q:i=j-1
   ·rw[q];exact hl
   ·exact KeyOrd.klt_of_klt_of_kle hl (D i (j-1) (by lia)<|by lia).kle
 eq:=λi hi hj=>by rw[show i=x+1-1 by lia]
theorem O8{st:SortSt}{g:Nat->Nat}{n top:Nat}{Q:DescSt->SortSt->Prop}(hO:κ.OneLt)(h0:KeysOf κ a₀)(ht:top<=a₀.size)(h1:1<=n)(h2:n<=top)(B:SBase a₀ st)(G:Gh a₀ g<|arrOf st)(F:JE κ a₀ g n 0) (h:∀m q g' eO,SBase a₀ eO->Gh a₀ g' (arrOf eO)->n<=m->m<=top->JE κ a₀ g' m q->Q (none,m,q) eO):wpS (model prog w) A E s (descLoop n top) Q st:=by
 unfold descLoop;refine wpS_forRange (I:=λx c t=>∃q g',c=(none,x,q)/\SBase a₀ t/\Gh a₀ g' (arrOf t)/\JE κ a₀ g' x q) ?_ ?_ {0,g,rfl,B,G,F};rintro x c t OE Ha ⟨q,g',rfl,B',G',F'⟩;have le:=F'.le;dsimp only;refine wpS_bind<|wpS_ltKK hO B' h0 (by lia) (by lia) ?_;rw[G'.key<|by lia,G'.key<|by lia];cases hl:κ.blt (KK κ a₀<|g' x) (KK κ a₀<|g'<|x-1) with|true=>(simp only[if_true];by_cases hq:q>0;rw[if_pos hq];refine wpS_bind<|wpS_reverse<|wpS_pure {0,_,rfl,B'.setArr<|mirror_perm _ _ _ _,G'.mirror B'.size<|by lia,?_};refine .next (F'.full<|by lia) (λk hk dY=>?_) (by lia) (by lia) ?_;rw[fY<|by lia];exact F'.tl k (by lia) dY;rw[fY<|by lia,hU<|by lia,F'.eq (x-(q+1)+x-1-(x-1)) (by lia)<|by lia];exact hl;rw[if_neg hq];obtain rfl:q=0:=(by lia);exact wpS_pure {0,g',rfl,B',G',.next F'.MQ (λk hk dY=>F'.tl k (by lia) dY) (by lia) (by lia) hl})|false=>simp only[Bool.false_eq_true,if_false];refine wpS_bind<|wpS_ltKK hO B' h0 (by lia) (by lia) ?_;rw[G'.key<|by lia,G'.key<|by lia];cases hg:κ.blt (KK κ a₀<|g'<|x-1) (KK κ a₀<|g' x) with|true=>exact wpS_pure (h x q g' t B' G' OE (by lia) F')|false=>have e:KK κ a₀ (g' x)=KK κ a₀ (g'<|x-1):=KeyOrd.kle_antisymm hg hl;refine wpS_pure {q+1,g',rfl,B',G',{by lia,λk hk dY=>F'.tl k (by lia) dY,λi j kM hj hi=>?_,λi hi hj=>?_}};by_cases VX:j<x;exact F'.dn i j kM VX (by lia);obtain rfl:j=x:=(by lia);have:=F'.dn i (j-1) (by lia) (by lia) (by lia);rcases this with z|⟨_,z⟩;exact .inl (by rw[e];exact z);rw[F'.tl (j-1) (by lia)<|by lia]at z;have:=G'.low (m:=j-(q+1)) F'.tl (by lia) (i:=i) (by lia);lia;rw[show x+1-1=x by lia];by_cases TN:i=x;rw[TN];rw[e];exact F'.eq i (by lia)<|by lia
 rintro c t ⟨q,g',rfl,B',G',F'⟩;rw[show max n top=top by lia]at F'⊢;exact h top q g' t B' G' h2 (zk _) F'
theorem HH{st:SortSt}{g:Nat->Nat}{n top:Nat}{Q:Option Nat->SortSt->Prop}(hO:κ.OneLt)(h0:KeysOf κ a₀)(ht:top<=a₀.size)(h2:n+1<=top)(B:SBase a₀ st)(G:Gh a₀ g<|arrOf st)(F:JE κ a₀ g (n+1) 0) (h:∀m g' eO,SBase a₀ eO->Gh a₀ g' (arrOf eO)->E6 g' m a₀.size->1<=m->m<=top->Bj κ a₀ g' m->Q (some m) eO):wpS (model prog w) A E s (descPart n top) Q st:=by
 unfold descPart;refine wpS_bind<|wpS_lift<|wpAny_rule {rfl,?_};refine wpS_bind<|O8 hO h0 ht (by lia) h2 B G F λm q g' eO B' G' hm1 QV F'=>?_;have le:=F'.le;dsimp only;by_cases hq:q>0;rw[if_pos hq];refine wpS_bind<|wpS_reverse<|HG hO h0 ht (by lia) QV (B'.setArr<|mirror_perm _ _ _ _) (G'.mirror B'.size<|by lia) (λk hk dY=>?_) (F'.full<|by lia) h;rw[fY<|by lia];exact F'.tl k (by lia) dY;rw[if_neg hq];obtain rfl:q=0:=by lia
 exact HG hO h0 ht (by lia) QV B' G' (λk hk dY=>F'.tl k (by lia) dY) F'.MQ h
theorem Ua{st:SortSt}{g:Nat->Nat}{top:Nat}{Q:Option Nat->SortSt->Prop}(hO:κ.OneLt)(h0:KeysOf κ a₀)(ht:top<=a₀.size)(h1:1<=top)(B:SBase a₀ st)(G:Gh a₀ g<|arrOf st)(T:E6 g 0 a₀.size) (h:∀m g' eO,SBase a₀ eO->Gh a₀ g' (arrOf eO)->E6 g' m a₀.size->1<=m->m<=top->Bj κ a₀ g' m->Q (some m) eO):wpS (model prog w) A E s (countRun' 0 top) Q st:=by
 rw[countRun0_eq];refine wpS_bind<|MP hO h0 ht (zk 1) h1 B G (λk hk dY=>T k (by lia) dY) (λi j kM hj=>by lia) λn VY NV U hor=>?_;dsimp only;have Tn:∀m,E6 g m a₀.size:=λm k hk dY=>T k (by lia) dY;by_cases Ub:n=top;rw[if_pos<|by simpa using Ub];exact wpS_pure<|h n g st B G (Tn n) VY NV U;rw[if_neg<|by simpa using Ub];have dW:=hor.resolve_left Ub;by_cases VZ:n>1;rw[if_pos VZ];refine wpS_bind<|wpS_ltKK hO B h0 (by lia) (by lia) ?_;rw[G.key<|by lia,G.key<|by lia];cases hr:κ.blt (KK κ a₀<|g 0) (KK κ a₀<|g<|n-1) with|true=>exact wpS_pure (h n g st B G (Tn n) VY NV U)|false=>simp only[Bool.false_eq_true,if_false];have all:∀k,k<n->KK κ a₀ (g k)=KK κ a₀ (g<|n-1):=λk hk=>(by have a1:κ.kle (KK κ a₀<|g 0) (KK κ a₀<|g k):=(by by_cases z:k=0;rw[z];exact KeyOrd.kle_refl _;exact(U 0 k (by lia) hk).kle);have a2:κ.kle (KK κ a₀<|g k) (KK κ a₀<|g<|n-1):=(by by_cases z:k=n-1;rw[z];exact KeyOrd.kle_refl _;exact(U k (n-1) (by lia)<|by lia).kle);exact KeyOrd.kle_antisymm a2<|KeyOrd.kle_trans hr a1);refine wpS_bind<|wpS_reverse<|HH hO h0 ht (by lia) (B.setArr<|mirror_perm _ _ _ _) (G.mirror B.size<|by lia) ?_ h;refine .next (λi j kM hj=>?_) (λk hk dY=>by rw[fY<|by lia];exact T k (by lia) dY) (by lia) (by lia) ?_;rw[hU<|by lia,hU<|by lia];refine .inr {(all _<|by lia).trans (all _<|by lia).symm,?_};rw[T _ (by lia)<|by lia,T _ (by lia)<|by lia];lia;rw[fY<|by lia,hU<|by lia,all (0+n-1-(n-1))<|by lia];exact dW
 rw[if_neg VZ];obtain rfl:n=1:=by lia
 exact HH hO h0 ht (by lia) B G (.next (λi j kM hj=>by lia) (Tn 1) (by lia) (by lia) dW) h
theorem Uc{st:SortSt}{g:Nat->Nat}{n ok:Nat}{Q:Bool->SortSt->Prop}(hO:κ.OneLt)(h0:KeysOf κ a₀)(hn:n<=a₀.size)(aH:ok<=n)(B:SBase a₀ st)(G:Gh a₀ g<|arrOf st)(T:E6 g ok a₀.size)(U:Bj κ a₀ g ok) (h:∀g' eO,SBase a₀ eO->Gh a₀ g' (arrOf eO)->Bj κ a₀ g' n->Q true eO):wpS (model prog w) A E s (binarySort' 0 n ok) Q st:=by
 rw[binarySort'_eq];simp only[Nat.zero_add];refine wpS_bind<|wpS_mono (wpS_forRange (I:=λk c t=>c=(none,())/\∃g',SBase a₀ t/\Gh a₀ g' (arrOf t)/\E6 g' k a₀.size/\Bj κ a₀ g' (min k n)) (Q:=λc t=>c=(none,())/\∃g',SBase a₀ t/\Gh a₀ g' (arrOf t)/\Bj κ a₀ g' n) ?_ ?_ ?_) ?_;rintro k c t hk1 dY ⟨rfl,g',B',G',T',V⟩;rw[show min k n=k by lia]at V;have hk:k<a₀.size:=by lia
 refine wpS_bind<|wpS_mono (wpS_forRange (I:=λx c t2=>t2=t/\∃l r,c=(none,l,r)/\l<=r/\r<=k/\r-l<=k-x/\(∀i,i<l->κ.kle (KK κ a₀<|g' i) (KK κ a₀<|g' k))/\(∀i,r<=i->i<k->κ.klt (KK κ a₀<|g' k) (KK κ a₀<|g' i))) (Q:=λc t2=>t2=t/\∃l r,c=(none,l,r)/\l<=k/\(∀i,i<l->κ.kle (KK κ a₀<|g' i) (KK κ a₀<|g' k))/\(∀i,l<=i->i<k->κ.klt (KK κ a₀<|g' k) (KK κ a₀<|g' i))) ?_ ?_ ?_) ?_;rintro x c t2 _ hxk ⟨rfl,l,r,rfl,C4,Yp,hm,lo,hi⟩;dsimp only;by_cases V0:l>=r;rw[if_pos V0];obtain rfl:l=r:=by lia
 exact wpS_pure ⟨rfl,l,l,rfl,Yp,lo,hi⟩;rw[if_neg V0];refine wpS_bind<|wpS_ltKK hO B' h0 hk (by lia) ?_;rw[G'.key hk,G'.key<|by lia];cases hl:κ.blt (KK κ a₀<|g' k) (KK κ a₀<|g'<|(l+r)/2) with|true=>refine wpS_pure {rfl,l,(l+r)/2,rfl,by lia,by lia,by lia,lo,λi a b=>?_};by_cases z:i=(l+r)/2;rw[z];exact hl;exact KeyOrd.klt_of_klt_of_kle hl (V _ _ (by lia) b).kle|false=>refine wpS_pure {rfl,(l+r)/2+1,r,rfl,by lia,by lia,by lia,λi a=>?_,hi};by_cases z:i=(l+r)/2;rw[z];exact hl;exact KeyOrd.kle_trans (V i ((l+r)/2) (by lia)<|by lia).kle hl
 rintro c t2 ⟨rfl,l,r,rfl,C4,Yp,hm,lo,hi⟩;obtain rfl:l=r:=by lia
 exact⟨rfl,l,l,rfl,Yp,lo,hi⟩;exact{rfl,0,k,rfl,by lia,by lia,by lia,λi hi=>by lia,λi a b=>by lia};rintro c t2 ⟨rfl,l,r,rfl,Yq,lo,hi⟩;show wpS _ _ _ _ (do moveDown' k l;pure (ForInStep.yield (none,()))) _ _;rw[moveDown'_eq];refine wpS_bind<|wpS_modify<|wpS_pure {rfl,_,B'.setArr<|bubble_perm _ _ _,G'.bubble B'.size Yq hk,λx OE Ha=>?_,?_};show K0 g' k l x=x;unfold K0;rw[if_neg<|by lia,if_neg<|by lia];exact T' x (by lia) Ha;rw[show min (k+1) n=k+1 by lia];have lw:∀i,i<k->g' i<k:=λi q=>G'.low T' (by lia) q;have ek:=T' k (zk _) hk;intro i j kM hj;show Log κ a₀ (K0 g' k l i) (K0 g' k l j);unfold K0;by_cases i1:i=l;rw[if_pos i1,if_neg<|by lia,if_pos<|by lia];exact .inl<|hi _ (by lia) (by lia);rw[if_neg i1];by_cases j1:j=l;rw[if_pos j1,if_neg<|by lia];have h1:=lo i (by lia);have h2:=lw i (by lia);rw[ek]at h1⊢;exact MO h1 h2;rw[if_neg j1];by_cases i2:l<i/\i<=k<;>by_cases j2:l<j/\j<=k;rw[if_pos i2,if_pos j2];exact V _ _ (by lia) (by lia);lia;rw[if_neg i2,if_pos j2];exact V _ _ (by lia) (by lia);rw[if_neg i2,if_neg j2];exact V _ _ (by lia) (by lia);rintro c t ⟨hc,g',B',G',T',V⟩;refine{hc,g',B',G',?_};rwa [show min (max (max ok 1) n) n=n by lia]at V;refine{rfl,g,B,G,λk hk dY=>T k (by lia) dY,λi j kM hj=>?_};exact U i j kM (by lia);rintro c t ⟨rfl,g',B',G',V⟩;exact wpS_pure<|h g' t B' G' V
def O9(κ:KeyKind)(a₀:Array Keyed)(st:SortSt):Prop:=failedOf st=none/\pendingOf st=#[(0,a₀.size,0)]/\∃g,(arrOf st).size=a₀.size/\Gh a₀ g (arrOf st)/\Bj κ a₀ g a₀.size
theorem O_{st:SortSt}{Q:Unit->SortSt->Prop}(hO:κ.OneLt)(h0:KeysOf κ a₀)(B:SBase a₀ st)(e0:arrOf st=a₀)(h2:2<=a₀.size)(Ge:a₀.size<64) (h:∀eO g,failedOf eO=none->(arrOf eO).size=a₀.size->Gh a₀ g (arrOf eO)->Bj κ a₀ g a₀.size->Q () eO):wpS (model prog w) A E s sortRuns' Q st:=by
 have G:Gh a₀ (λk=>k) (arrOf st):={λk _=>by rw[e0],λk hk=>hk,λ_ _ _ _ e=>e};have fin:∀(t:SortSt)(g:Nat->Nat),SBase a₀ t->Gh a₀ g (arrOf t)->Bj κ a₀ g a₀.size->O9 κ a₀ (setPending t<|(pendingOf t).push (0,a₀.size,0)):=λt g B' G' U=>{B'.failed,by show(pendingOf t).push _=_;rw[B'.pend];rfl,g,B'.size,G',U};rw[sortRuns'_eq];refine wpS_bind<|wpS_get ?_;dsimp only;have hm:minRun' a₀.size a₀.size 0=a₀.size:=by obtain⟨f,hf⟩:∃f,a₀.size=f+1:={a₀.size-1,by lia};have:minRun' (f+1) a₀.size 0=a₀.size:=(by rw[minRun'_succ,if_pos Ge];rfl);rwa [<-hf]at this
 simp only[B.size,hm];refine wpS_bind<|wpS_mono (wpS_forRange (I:=λx c t=>(x=0/\c=(none,0)/\t=st)\/(1<=x/\c=(none,a₀.size)/\O9 κ a₀ t)) (Q:=λc t=>c=(none,a₀.size)/\O9 κ a₀ t) ?_ ?_<|.inl ⟨rfl,rfl,rfl⟩) ?_;rintro x c t _ hx (⟨rfl,rfl,rfl⟩|⟨OE,rfl,D⟩);dsimp only;rw[if_neg<|by lia];simp only[Nat.sub_zero,Nat.min_self,Nat.zero_add];refine wpS_bind<|Ua hO h0 (zk _) (by lia) B G (λ_ _ _=>rfl) λm g' t2 B2 G2 T2 hm1 QV U2=>?_;dsimp only;by_cases dW:m<a₀.size;rw[if_pos dW];refine wpS_bind<|wpS_lift<|wpAny_rule {rfl,?_};refine wpS_bind<|Uc hO h0 (zk _) QV B2 G2 T2 U2 λg3 t3 B3 G3 U3=>?_;simp only[Bool.not_true,Bool.false_eq_true,if_false];refine wpS_bind<|wpS_get ?_;rw[show(pendingOf t3).back?=none by rw[B3.pend];rfl];dsimp only;exact wpS_bind<|wpS_modify<|wpS_pure<|.inr {by lia,rfl,fin t3 g3 B3 G3 U3};rw[if_neg dW];obtain rfl:m=a₀.size:=by lia
 refine wpS_bind<|wpS_get ?_;rw[show(pendingOf t2).back?=none by rw[B2.pend];rfl];dsimp only;exact wpS_bind<|wpS_modify<|wpS_pure<|.inr {by lia,rfl,fin t2 g' B2 G2 U2};dsimp only;rw[if_pos<|zk _];exact wpS_pure ⟨rfl,D⟩;rintro c t (⟨hx,_,_⟩|⟨_,hc,D⟩);lia;exact⟨hc,D⟩;rintro c t ⟨rfl,D⟩;dsimp only;obtain⟨d1,d2,g,d3,d4,d5⟩:=D;refine wpS_bind<|wpS_mono (wpS_forRange (I:=λ_ c t2=>t2=t/\c=(none,())) (Q:=λc t2=>t2=t/\c=(none,())) ?_ (λ_ _ z=>z) ⟨rfl,rfl⟩) ?_;rintro x c t2 _ _ ⟨rfl,rfl⟩;refine wpS_bind<|wpS_get ?_;rw[if_pos<|by rw[d2];exact zk 1];exact wpS_pure ⟨rfl,rfl⟩;rintro c t2 ⟨rfl,rfl⟩;exact wpS_pure<|h _ g d1 d3 d4 d5
end
noncomputable abbrev K1(X:Cx)(qual:Str)(scope:Scope)(L f:Addr)(cv:Value):Env:=envX qual scope L f cv<|clOf X.env.cells scope.names
noncomputable def QW(X:Cx)(N:List Str)(qual:Str)(scope:Scope)(f:Addr)(cv:Value)(A:Around)(s:Shared)(H:Hp):Cx:={X with A:=A.deeper<|K1 X qual scope s.heap.objs.size f cv,N:=N,cR:=s,uE:=H,env:=K1 X qual scope s.heap.objs.size f cv,outer:=X.stack,stack:=K1 X qual scope s.heap.objs.size f cv::X.stack,ex:=[],fn:=λ_=>false,calm:=true,pn:=[],xe:=λ_ _=>False}
noncomputable abbrev xt(X:Cx)(qual:Str)(params:Arguments)(body:Expr)(scope:Scope)(pm cv lG:Value):Obj:={cls:=.type "function",data:=.func<|kla_fn "<lambda>" qual params body scope (clOf X.env.cells scope.names) pm cv lG}
section
variable{X:Cx}{pins:List (Addr×Obj)}{σ:St}{H:Hp}{s:Shared}{N:List Str}{src:List (Option Nat)}{scope:Scope}{params:Arguments}{body:Expr}{qual p:Str}{pm cv lG u:Value}{f:Addr}{A:Around}{v:V}{te:TE}{Q:VK}
theorem K2(I:Inv X pins σ H s)(S:bE X N src scope)(K3:N[0]?=some p)(hp:scope.names.lookup p=some .local)(h0:src[0]?=some none)(tU:A.frames=some X.stack)(hh:A.handled=none)(r:RelV v u) (Pa:h₁.Ns s.heap.objs.size λx=>[(p,u)].reverse.lookup x) (old:∀b o,s.heap.get? b=some o->h₁.get? b=some o): Inv (QW X N qual scope f cv A s H) [] ((pick σ src).set 0<|some v) H {s with heap:=h₁,toks:=tk}:=by
 have iw:∀x c,(clOf X.env.cells scope.names).lookup x=some c->X.env.cells.lookup x=some c:=qm X.env.cells scope.names [] (by intro x c h;simp at h);have J3:∀b:Addr,b∉(QW X N qual scope f cv A s H).ex:=λb z=>absurd (show b∈([]:List Addr) from z) (by simp);have AL:∀x,scope.names.lookup x=some .free->∃c,(clOf X.env.cells scope.names).lookup x=some c:=λx hl=>by have hm:=yf hl;obtain⟨c,Kc⟩:=I.ok.has x<|S.AL _ hm rfl;exact{c,i0 X.env.cells scope.names [] x c (by intro x c h;simp at h) hm Kc}
 refine{{I.ok.mod,S.kind,rfl,rfl,zk _,λx y c h1 h2=>I.ok.inj x y c (iw _ _ h1)<|iw _ _ h2,λx hk=>?_,λx c h=>(nomatch h),λ_=>hh,Around.frames_deeper tU,.inr ⟨rfl,rfl⟩,λb z=>absurd z<|J3 b,I.bs,zK I.ok.Ef I.sz,λb _ _=>J3 b,λb z=>absurd z<|J3 b,I.stack,I.pK},rfl,I.bare,Un.kept old,{_,Pa,λi x w e1 e2 e3=>?_},λx c e=>?_,I.aH.fresh<|zk _,λx c e=>I.df x c<|iw x c e,λq hq=>absurd (show q∈([]:List (Addr×Obj)) from hq)<|by simp,I.aH.kept old,?_};have hk:scope.names.lookup x=some .cell\/scope.names.lookup x=some .free:=hk;rcases hk with hk|hk;exact absurd rfl<|S.gu _<|yf hk;exact AL x hk;have e1:N[i]?=some x:=e1;by_cases hi:i=0;subst hi;rw[K3]at e1;cases e1;have hl:0<(pick σ src).length:=by unfold pick;rw[zc];exact(ze.mp h0).1
 rw[List.getElem?_set_self hl]at e2;cases e2;exact{u,r,.inl {hp,by simp[zX]}};rw[List.getElem?_set_ne<|Ne.symm hi]at e2;unfold pick at e2;rw[zq]at e2;cases es:src[i]? with|none=>(rw[es]at e2;cases e2)|some o=>rw[es]at e2;cases o with|none=>(cases e2)|some j=>have e3:(σ[j]?).join=some w:=zP e2;have e4:σ[j]?=some (some w):=(by cases q:σ[j]? with|none=>(rw[q]at e3;cases e3)|some z=>rw[q]at e3;exact congrArg some e3);obtain⟨a1,a2,a3⟩:=S.src i j x es e1;obtain⟨m0,_,hl⟩:=I.loc;obtain⟨u',r',l⟩:=hl j x w a1 e4 a3;have hm:=yf a2;have hk:=S.AL _ hm rfl;rcases l with⟨k,_⟩|⟨_,c,Kc,⟨o,ho,hd⟩⟩;rcases hk with hk|hk<;>(rw[k]at hk;cases hk);exact{u',r',.inr {.inr a2,c,i0 X.env.cells scope.names [] x c (by intro x c h;simp at h) hm Kc,o,old _ _ ho,hd}}
 obtain⟨w,o,ho,hd⟩:=I.cell x c<|iw x c e;exact{w,o,old _ _ ho,hd};show((pick σ src).set 0<|some v).length=N.length;unfold pick;rw[List.length_set,zc,S.len]
theorem HI(I:Inv X pins σ H s)(S:bE X N src scope)(K3:N[0]?=some p)(hp:scope.names.lookup p=some .local)(h0:src[0]?=some none)(tU:A.frames=some X.stack)(hh:A.handled=none)(Ud:A.depth<recursionLimit)(r:RelV v u) (ho:s.heap.get? f=some (xt X qual params body scope pm cv lG)) (rZ:s.heap.CodeRec cv qual) (K4:scope.isCoroutine=false) (Bk:scope.isGenerator=false) (hb:bindArgs (kla_fn "<lambda>" qual params body scope (clOf X.env.cells scope.names) pm cv lG) {[u],[]}=pure [(p,u)]) (he:PE (QW X N qual scope f cv A s H) body te) (h:te ((pick σ src).set 0<|some v) H Q): codeAny (model X.prog X.w) A (.call (.ref f) {[u],[]}) (λq s'=>∃w,q=.ok (.ret w)/\CE X.stack X.prog X.w H s Q w s') s:=by refine PySem.W.kla_callFunE Ud ho rfl K4 Bk rfl rZ ?_;show wpAny _ _ (bindArgs (kla_fn "<lambda>" qual params body scope (clOf X.env.cells scope.names) pm cv lG) {[u],[]}) _ _ _;rw[hb];refine zu<|wpAny_newFunctionEnv S.gu (λx hx=>?_) (λh₁ Pa Kt=>{I.nolimit.fresh _ Kt,?_}) S.kind;rw[zD.mp hx];exact hp;have old:∀b o,s.heap.get? b=some o->h₁.get? b=some o:=λb o e=>Kt.extBut b o (zy<|zt e)<|za _ e;show codeAny _ _ (.expr body<|K1 X qual scope s.heap.objs.size f cv) _ _;refine PySem.W.kla_codeExpr<|yn (he [] _ _ H Q (K2 I S K3 hp h0 tU hh r Pa old) h) (by rintro w s' ⟨x,H',J,rv,q⟩;exact⟨w,rfl,x,H',J.os,J.bare,J.base,J.aH,rv,q⟩) λ_ _ z=>z.elim
end
@[reducible] def intK:KeyKind where
 α:=Int
 blt a b:=decide<|a<b
 irrefl a:=by simp
 trans a b c h1 h2:=by simp only[yb]at *;lia
 negTrans a b c h:=by simp only[yb]at *;lia
 total a b h1 h2:=by simp only[decide_eq_false_iff_not]at *;lia
 keyOf v:=match v with|.int x _=>some x|_=>none
 dflt:=0
theorem HJ:intK.OneLt:=by intro prog w A E s x y a b Q ha hb h;cases x<;>simp only[intK,reduceCtorEq,Option.some.injEq]at ha;cases y<;>simp only[intK,reduceCtorEq,Option.some.injEq]at hb;cases ha;cases hb;exact oneLt_int h
structure V1(κ:KeyKind)(b:Bool)(key:Nat->κ.α)(n:Nat)(g:Nat->Nat):Prop where
 lt:∀k,k<n->g k<n
 inj:∀i j,i<n->j<n->g i=g j->i=j
 ord:∀i j,i<j->j<n->(if b=true then κ.klt (key<|g j) (key<|g i) else κ.klt (key<|g i) (key<|g j))\/(key (g i)=key (g j)/\g i<g j)
noncomputable def iA(κ:KeyKind)(us:List Value)(j:Nat):κ.α:=(κ.keyOf<|us.getD j .none).getD κ.dflt
theorem HK{us vs:List Value}(hl:us.length=vs.length){j:Nat}(hj:j<vs.length):(us.toArray.zip vs.toArray)[j]?=some (us.getD j .none,vs.getD j .none):=by have e:(us.zip vs)[j]?=some (us.getD j .none,vs.getD j .none):=List.getElem?_zip_eq_some.mpr {by show us[j]?=some (us.getD j .none);rw[zH,zg<|by lia];rfl,by show vs[j]?=some (vs.getD j .none);rw[zH,zg hj];rfl};rw[<-Array.getElem?_toList,ksk_zip,List.toList_toArray];exact e
theorem u9{κ:KeyKind}{us vs:List Value}(hl:us.length=vs.length){j:Nat}(hj:j<vs.length):KK κ (us.toArray.zip vs.toArray) j=iA κ us j:=by unfold KK iA;rw[HK hl hj]
theorem xu{l m:List Value}{n:Nat}(h1:l.length=n)(h2:m.length=n)(h:∀k,k<n->l[k]?=m[k]?):l=m:=by apply List.ext_getElem?;intro k;by_cases hk:k<n;exact h k hk;rw[List.getElem?_eq_none<|by lia,List.getElem?_eq_none<|by lia]
section
variable{prog:Program}{w:World}{A:Around}{E:Value->Shared->Prop}{s:Shared}{a kS:Addr}{b:Bool}{us vs:List Value}{e e1:Nat}{P:PySem.Fin->Shared->Prop}{κ:KeyKind}
theorem C5{st:SortSt}{keys:Array Value}(hk:s.heap.get? kS=some (seqObj "list" keys e))(ha:s.heap.get? a=some (seqObj "list" #[] e1))(Pb:kS≠a)(hz:keys.size<64)(Pc:(arrOf st).size<64)(Ko:failedOf st=none) (h:∀h' c,(∀b o,b≠a->b≠kS->s.heap.get? b=some o->h'.get? b=some o)->h'.get? a=some (seqObj "list" (if b then ((arrOf st).map (·.2)).reverse else (arrOf st).map (·.2)) c)->P (.done<|.ret .none) {s with heap:=h'}): wpAny (model prog w) A (ksk_tail a b e1 (.ref kS) st) P E s:=by
 have s1:=yt s.heap kS<|Obj.mapSeq λ_=>(#[]:Array Value);have Yr:(s.heap.update kS<|Obj.mapSeq λ_=>(#[]:Array Value)).get? a=some (seqObj "list" #[] e1):=(s1.2 a Pb.symm).trans ha;have E7:∀o:Array Value,o=(if b then ((arrOf st).map (·.2)).reverse else (arrOf st).map (·.2))->o.size<64:=by rintro o rfl;cases b with|false=>rw[if_neg zd,Array.size_map];exact Pc|true=>rw[if_pos rfl,Array.size_reverse,Array.size_map];exact Pc
 generalize ho:(if b then ((arrOf st).map (·.2)).reverse else (arrOf st).map (·.2))=out at h E7;have E7:=E7 out rfl;have s2:=yt (s.heap.update kS<|Obj.mapSeq λ_=>(#[]:Array Value)) a<|Obj.mapSeq λ_=>out;obtain⟨c2,Ys⟩:∃c2,((s.heap.update kS<|Obj.mapSeq λ_=>(#[]:Array Value)).update a<|Obj.mapSeq λ_=>out).get? a=some (seqObj "list" out c2):={_,get?_update_seq Yr λ_=>out};unfold ksk_tail;try dsimp only
 refine zb<|listUpdate_at hk rfl ?_ (by rw[zZ];lia)<|zU _;refine zb<|wpAny_letGo ?_;refine zb<|seqEpoch_at Yr rfl ?_;rw[ho];refine zb<|listUpdate_at Yr rfl ?_ (zU _)<|zK (yC E7) (by rw[zZ];lia);rw[Ko];simp only[bne_self_eq_false,Bool.false_eq_true,if_false];exact zu<|h _ c2 (λb o h1 h2 q=>(s2.2 b h1).trans<|(s1.2 b h2).trans q) Ys
theorem HL{xs:Array Keyed}{g:Nat->Nat}(hl:us.length=vs.length)(hs:xs.size=vs.length) (G:Gh (if b=true then (us.toArray.zip vs.toArray).reverse else us.toArray.zip vs.toArray) g xs) (U:Bj κ (if b=true then (us.toArray.zip vs.toArray).reverse else us.toArray.zip vs.toArray) g vs.length): ∃g',V1 κ b (iA κ us) vs.length g'/\(if b then (xs.map (·.2)).reverse else xs.map (·.2)).toList=(List.range vs.length).map λk=>vs.getD (g' k) .none:=by
 have Ae:(us.toArray.zip vs.toArray).size=vs.length:=by rw[Array.size_zip,zm,zm,hl,Nat.min_self]
 have zat:∀k,k<vs.length->(us.toArray.zip vs.toArray)[k]?=some (us.getD k .none,vs.getD k .none):=λk hk=>HK hl hk;cases b with|false=>rw[if_neg zd]at G U;refine{g,{λk hk=>by have:=G.lt k (by rw[Ae];exact hk);rwa [Ae]at this,λi j hi hj=>G.inj i j (by rw[Ae];exact hi)<|by rw[Ae];exact hj,λi j kM hj=>?_},?_};have h1:=G.lt i (by rw[Ae];lia);have h2:=G.lt j (by rw[Ae];lia);rw[Ae]at h1 h2;have:=U i j kM hj;unfold Log at this;rw[u9 hl h1,u9 hl h2]at this;rw[if_neg zd];exact this;rw[if_neg zd];refine xu (n:=vs.length) (by rw[ym,Array.size_map,hs]) (by simp) λk hk=>?_;have h1:=G.lt k (by rw[Ae];lia);rw[Ae]at h1;rw[Array.getElem?_toList,Array.getElem?_map,G.at_ k<|by rw[Ae];exact hk,zat _ h1,zq,List.getElem?_range hk];rfl|true=>rw[if_pos rfl]at G U;have sj:(us.toArray.zip vs.toArray).reverse.size=vs.length:=(by rw[Array.size_reverse,Ae]);have lt:∀k,k<vs.length->g k<vs.length:=λk hk=>(by have:=G.lt k (by rw[sj];exact hk);rwa [sj]at this);have rat:∀k,k<vs.length->(us.toArray.zip vs.toArray).reverse[k]?=(us.toArray.zip vs.toArray)[vs.length-1-k]?:=λk hk=>(by rw[Array.getElem?_reverse<|by rw[Ae];exact hk,Ae]);refine{λk=>vs.length-1-g (vs.length-1-k),{λk hk=>by have:=lt (vs.length-1-k) (by lia);lia,λi j hi hj e=>?_,λi j kM hj=>?_},?_};have h1:=lt (vs.length-1-i) (by lia);have h2:=lt (vs.length-1-j) (by lia);have:=G.inj (vs.length-1-i) (vs.length-1-j) (by rw[sj];lia) (by rw[sj];lia) (by lia);lia;have h1:=lt (vs.length-1-i) (by lia);have h2:=lt (vs.length-1-j) (by lia);have:=U (vs.length-1-j) (vs.length-1-i) (by lia) (by lia);unfold Log at this;have e1:KK κ (us.toArray.zip vs.toArray).reverse (g<|vs.length-1-i)=iA κ us (vs.length-1-g (vs.length-1-i)):=(KK_congr<|rat _ h1).trans<|u9 hl (by lia);have e2:KK κ (us.toArray.zip vs.toArray).reverse (g<|vs.length-1-j)=iA κ us (vs.length-1-g (vs.length-1-j)):=(KK_congr<|rat _ h2).trans<|u9 hl (by lia);rw[e1,e2]at this;rw[if_pos rfl];rcases this with z|⟨z1,z2⟩;exact .inl z;exact .inr {z1.symm,by lia};rw[if_pos rfl];refine xu (n:=vs.length) (by rw[ym,Array.size_reverse,Array.size_map,hs]) (by simp) λk hk=>?_;have h1:=lt (vs.length-1-k) (by lia);rw[Array.getElem?_toList,Array.getElem?_reverse<|by rw[Array.size_map,hs];exact hk,Array.size_map,hs,Array.getElem?_map,G.at_ _<|by rw[sj];lia,rat _ h1,zat _<|by lia,zq,List.getElem?_range hk];rfl
theorem Pd(hO:κ.OneLt)(hk:s.heap.get? kS=some (seqObj "list" us.toArray e))(ha:s.heap.get? a=some (seqObj "list" #[] e1))(Pb:kS≠a)(hl:us.length=vs.length)(Ge:vs.length<64)(h0:∀u∈us,∃x,κ.keyOf u=some x) (hkk:∀m7 m8 rest,us=m7::m8::rest->keyKind' (m7::m8::rest).toArray=pure oneType') (h:∀h' c g out,(∀b o,b≠a->b≠kS->s.heap.get? b=some o->h'.get? b=some o)->h'.get? a=some (seqObj "list" out c)->V1 κ b (iA κ us) vs.length g->out.toList=(List.range vs.length).map (λk=>vs.getD (g k) .none)->P (.done<|.ret .none) {s with heap:=h'}): wpAny (model prog w) A (ksk_end a b vs.toArray e1 (.ref kS) us.toArray) P E s:=by
 have Ae:(us.toArray.zip vs.toArray).size=vs.length:=by rw[Array.size_zip,zm,zm,hl,Nat.min_self]
 have step:∀t:Sem PySem.Fin,wpAny (model prog w) A t P E s->wpAny (model prog w) A (if b=true then (do let _ <-rule "list.sort.reverse";t) else t) P E s:=by intro t ht;split;exact zb<|wpAny_rule ht;exact ht
 have hsz:(if b=true then (us.toArray.zip vs.toArray).reverse else us.toArray.zip vs.toArray).size=vs.length:=by cases b with|false=>exact Ae|true=>rw[if_pos rfl,Array.size_reverse,Ae]
 have keys:KeysOf κ (if b=true then (us.toArray.zip vs.toArray).reverse else us.toArray.zip vs.toArray):=λp hp=>by have hp:p∈us.zip vs:=(by have e2:(us.toArray.zip vs.toArray).toList=us.zip vs:=(by rw[ksk_zip]);cases b with|false=>rw[if_neg zd,e2]at hp;exact hp|true=>rw[if_pos rfl,Array.toList_reverse,e2]at hp;exact List.mem_reverse.mp hp);obtain⟨x,y⟩:=p;exact h0 _ (List.of_mem_zip hp).1
 unfold ksk_end;try dsimp only
 refine step _ ?_;by_cases h2:vs.toArray.size<2;{rw[if_pos h2,if_pos h2];refine zb<|zu ?_;rw[StateT.run_pure];refine zb<|zu ?_;(try dsimp only);rw[zm]at h2;refine C5 (st:=SortSt.mk' general' (if b=true then (us.toArray.zip vs.toArray).reverse else us.toArray.zip vs.toArray) #[] 7 none) hk ha Pb (by rw[zm];lia) (by show(if b=true then (us.toArray.zip vs.toArray).reverse else us.toArray.zip vs.toArray).size<64;lia) rfl λh' c k1 k2=>?_;obtain⟨g,g1,g2⟩:=HL (κ:=κ) (b:=b) (xs:=if b=true then (us.toArray.zip vs.toArray).reverse else us.toArray.zip vs.toArray) (g:=λk=>k) hl hsz {λ_ _=>rfl,λ_ hk=>hk,λ_ _ _ _ e=>e} (λi j kM hj=>by lia);exact h h' c g _ k1 k2 g1 g2};{rw[if_neg h2,if_neg h2];rw[zm]at h2;obtain⟨m7,m8,rest,eu⟩:∃m7 m8 rest,us=m7::m8::rest:=(by match us,hl with|[],hl=>simp at hl;lia|[_],hl=>simp at hl;lia|m7::m8::rest,_=>exact⟨m7,m8,rest,rfl⟩);have ek:keyKind' us.toArray=pure oneType':=(by rw[eu];exact hkk _ _ _ eu);rw[ek];refine zb<|zu ?_;refine zb<|yn (O_ (κ:=κ) hO (a₀:=if b=true then (us.toArray.zip vs.toArray).reverse else us.toArray.zip vs.toArray) (st:=SortSt.mk' oneType' (if b=true then (us.toArray.zip vs.toArray).reverse else us.toArray.zip vs.toArray) #[] 7 none) (Q:=λ_ eO=>failedOf eO=none/\(arrOf eO).size=vs.length/\∃g,Gh (if b=true then (us.toArray.zip vs.toArray).reverse else us.toArray.zip vs.toArray) g (arrOf eO)/\Bj κ (if b=true then (us.toArray.zip vs.toArray).reverse else us.toArray.zip vs.toArray) g vs.length) keys {Array.Perm.refl _,rfl,rfl,rfl} rfl (by lia) (by lia) λeO g q1 q2 q3 q4=>{q1,q2.trans hsz,g,q3,by rw[hsz]at q4;exact q4}) ?_ λ_ _ e=>e;rintro⟨⟨⟩,eO⟩ s' ⟨rfl,hf,Yt,g,G,U⟩;(try dsimp only);have Yt:(arrOf eO).size=vs.length:=Yt;refine C5 hk ha Pb (by rw[zm];lia) (by lia) hf λh' c k1 k2=>?_;obtain⟨g',g1,g2⟩:=HL (κ:=κ) hl Yt G U;exact h h' c g' _ k1 k2 g1 g2}
end
structure MR(X:Cx)(pins:List (Addr×Obj))(b:Addr):Prop where
 loc:b≠X.env.locals
 fs:b∉X.fs
 cell:∀x c,X.env.cells.lookup x=some c->c≠b
 pin:∀p∈X.pn++pins,p.1≠b
 new:X.cR.heap.objs.size<=b
section
variable{X:Cx}{pins:List (Addr×Obj)}{σ:St}{H:Hp}{s:Shared}
theorem Inv.V2(I:Inv X pins σ H s)(h:s.heap.objs.size<=b):MR X pins b:={yj<|zl I.lt h,I.Rp h,λx c e=>by obtain⟨v,q⟩:=I.cell x c e;exact zy<|zl q.lt h,λp hp=>zy<|zl (zt (I.pin p hp).1) h,zK I.sz h}
theorem Inv.K5(I:Inv X pins σ H s)(kp:∀b o,b≠a->b≠k->s.heap.get? b=some o->h'.get? b=some o)(ha:H a=none)(hk:H k=none)(Aa:MR X pins a)(Ak:MR X pins k):Inv X pins σ H {s with heap:=h',toks:=t'}:=by have Nr:∀b u,H b=some u->b≠a/\b≠k:=λb u e=>{λz=>(by rw[z,ha]at e;cases e),λz=>(by rw[z,hk]at e;cases e)};refine I.step (g':=s.gens) (d':=s.drawn) (ch:=[a,k]) (λb hb=>?_) (λb o _ _ hc e _=>kp b o (λz=>hc<|by simp[z]) (λz=>hc<|by simp[z]) e) (λb o _ _ hc e _=>{o.slots,kp b o (λz=>hc<|by simp[z]) (λz=>hc<|by simp[z]) e}) (λ_ _ _ _ n=>n) (λb o hc e=>{o,kp b o (λz=>hc<|by simp[z]) (λz=>hc<|by simp[z]) e}) (λ_ _ e=>e) (λ_ _ _ e=>e) (λb ps e=>{#[],by rw[e];simp}) (λm hm=>?_) (λb u e=>?_) I.bare;simp only[zf,zB,or_false]at hb;rcases hb with rfl|rfl;exact{.inr Aa.new,Aa.loc,Aa.cell,Aa.pin};exact{.inr Ak.new,Ak.loc,Ak.cell,Ak.pin};obtain⟨o,es,ep,ho,r⟩:=hm;exact{o,es,ep,kp _ o (Ne.symm Aa.loc) (Ne.symm Ak.loc) ho,r};refine(I.aH b u e).lI (λc v hc q=>?_) (λ_ q=>q) λ_ _ q=>q;rcases hc with z|z;rw[z]at q⊢;exact kp b v (Nr b u e).1 (Nr b u e).2 q;exact kp c v (Nr c _ z).1 (Nr c _ z).2 q
theorem Inv.Ue(I:Inv X pins σ H s)(ha:H a=none)(A:MR X pins a)(new:ba X.prog X.w (upd H a o) s.heap a o):Inv X pins σ (upd H a o) s:=by refine I.step (h':=s.heap) (g':=s.gens) (d':=s.drawn) (t':=s.toks) (ch:=[a]) (λb hb=>?_) (λb o _ _ hc e _=>e) (λb o _ _ hc e _=>⟨o.slots,e⟩) (λb u hc e n=>?_) (λb o hc e=>⟨o,e⟩) (λb xs e=>?_) (λb u v e=>?_) (λb ps e=>?_) (λm hm=>hm) (λb u e=>?_) I.bare;rw[zD.mp hb];exact{.inr A.new,A.loc,A.cell,A.pin};rw[au λz=>hc<|by simp[z]];exact n;rw[au<|az e ha];exact e;rw[au<|az e ha];exact e;exact{#[],by rw[au<|az e ha,e];simp};by_cases hb:b=a;subst hb;rw[aE]at e;cases e;exact new;rw[au hb]at e;exact(I.aH b u e).lI (λc v _ q=>q) (λc q=>by rw[au<|az q ha];exact q) λc xs q=>by rw[au<|az q ha];exact q
end
def HM(X:Cx)(pins:List<|Addr×Obj)(σ:St)(A:Around)(f:Addr)(xs:List V)(W:Nat->List V->Hp->Prop):Prop:=∀i x u ks s' H' more,Inv X (pins++more) σ H' s'->W i ks H'->xs[i]?=some x->RelV x u->codeAny (model X.prog X.w) A (.call (.ref f) {[u],[]}) (λq AE=>∃w,q=.ok (.ret w)/\CE X.stack X.prog X.w H' s' (λk H''=>W (i+1) (ks++[k]) H'') w AE) s'
structure MS(κ:KeyKind)(us:List Value):Prop where
 all:∀u∈us,∃x,κ.keyOf u=some x
 kind:∀m7 m8 rest,us=m7::m8::rest->keyKind' (m7::m8::rest).toArray=pure oneType'
section
variable{X:Cx}{pins:List (Addr×Obj)}{σ:St}{H:Hp}{s:Shared}{A:Around}{E:Value->Shared->Prop}{xs:List V}{vs:List Value}{f:Addr}{b:Bool}{κ:KeyKind}{W:Nat->List V->Hp->Prop}
theorem E8{P:PySem.Fin->Shared->Prop}(hO:κ.OneLt)(I:Inv X pins σ H s)(ha:s.heap.get? a=some (seqObj "list" #[] e1))(hk:s.heap.get? kS=some (seqObj "list" #[] 0))(Pb:kS≠a)(na:H a=none)(nk:H kS=none)(Aa:MR X pins a)(Ak:MR X pins kS) (hv:Vals xs vs) (Ge:vs.length<64) (T:HM X pins σ A f xs W) (w0:W 0 [] H) (G:∀ks us H',W vs.length ks H'->Vals ks us->ks.length=vs.length->MS κ us) (h:∀s' H' ks us c g out,Inv X pins σ H' s'->H' a=none->s'.heap.get? a=some (seqObj "list" out c)->W vs.length ks H'->Vals ks us->ks.length=vs.length->V1 κ b (iA κ us) vs.length g->out.toList=(List.range vs.length).map (λk=>vs.getD (g k) .none)->P (.done<|.ret .none) s'): wpAny (model X.prog X.w) A (ksk_rest a (.ref f) b vs.toArray e1<|.ref kS) P E s:=by
 have nc:∀(k:Array Value) (n:Nat) (v:Option Value),(seqObj "list" k n).data≠.cell v:=λ_ _ _ z=>nomatch z;unfold ksk_rest;refine zb<|wpAny_rule ?_;rw[List.forIn_toArray];refine zb<|ksk_fold (λi s'=>∃ks kA e H',Inv X pins σ H' s'/\W i ks H'/\Vals ks kA.toList/\ks.length=i/\H' a=none/\H' kS=none/\s'.heap.get? a=some (seqObj "list" #[] e1)/\s'.heap.get? kS=some (seqObj "list" kA e)) vs 0 s {[],#[],0,H,I,w0,.nil,rfl,na,nk,ha,hk} ?_ ?_;rintro j x s' hx ⟨ks,kA,e,H',I',w',v',l',V3,Yu,Yv,AK⟩;simp only[Nat.zero_add]at l' w'⊢;have hj:j<vs.length:=(ze.mp hx).1;have hl:xs.length=vs.length:=hv.length;obtain⟨y,hy⟩:∃y,xs[j]?=some y:={_,zg<|by lia};obtain⟨u,hu,ru⟩:=hv.get hy;rw[hx]at hu;cases hu;have Ip:Inv X (pins++[(a,seqObj "list" #[] e1),(kS,seqObj "list" kA e)]) σ H' s':=by refine{I'.ok,I'.os,I'.bare,I'.base,I'.loc,I'.cell,I'.free,I'.df,λp hp=>?_,I'.aH,I'.len};rcases zJ.mp hp with hp|hp;exact I'.pin p<|zQ _ hp;rcases zJ.mp hp with hp|hp;exact I'.pin p<|zw _ hp;simp only[zf,zB,or_false]at hp;rcases hp with rfl|rfl;exact{Yv,V3,Aa.loc,Aa.fs,nc _ _};exact{AK,Yu,Ak.loc,Ak.fs,nc _ _}
 have hz:kA.size=j:=by have h1:ks.length=kA.toList.length:=v'.length;have h2:kA.toList.length=kA.size:=ym;lia
 refine zb<|wpAny_attempt<|wpAny_call<|yL (T j y x ks s' H' _ Ip w' hy ru) λr s2 hq=>?_;obtain⟨w,rfl,ce⟩:=hq;obtain⟨k,H2,I2,rk,w2⟩:=Ip.after ce;dsimp only;have pa:=I2.pin (a,seqObj "list" #[] e1)<|zw _<|zw _ (by simp);have pk:=I2.pin (kS,seqObj "list" kA e)<|zw _<|zw _ (by simp);have I3:Inv X pins σ H2 s2:={I2.ok,I2.os,I2.bare,I2.base,I2.loc,I2.cell,I2.free,I2.df,λp hp=>I2.pin p<|by rcases zJ.mp hp with z|z;exact zQ _ z;exact zw _<|zQ _ z,I2.aH,I2.len};have s1:=yt s2.heap kS (Obj.mapSeq (·.push w));obtain⟨c2,Ys⟩:∃c2,(s2.heap.update kS (Obj.mapSeq (·.push w))).get? kS=some (seqObj "list" (kA.push w) c2):={_,get?_update_seq pk.1 (·.push w)};refine zb<|listUpdate_at pk.1 rfl ?_ (by rw[zZ];lia)<|zK (Nat.le_of_eq<|Array.size_push ..) (by rw[zZ];lia);refine zu {rfl,ks++[k],kA.push w,c2,H2,I3.turned (t':=s2.toks) (it:=kS) (λb o hb q=>(s1.2 b hb).trans q) pk.2.1 Ak.loc (.inr Ak.new) Ak.cell Ak.pin,w2,?_,by simp[l'],pa.2.1,pk.2.1,(s1.2 a Pb.symm).trans pa.1,Ys};rw[show(kA.push w).toList=kA.toList++[w] by simp];exact v'.append<|.cons rk .nil;rintro s' ⟨ks,kA,e,H',I',w',v',l',V3,Yu,Yv,AK⟩;simp only[Nat.zero_add]at l' w';refine zb<|listItems_at AK rfl ?_;have eA:kA=kA.toList.toArray:=by simp
 have good:=G ks kA.toList H' w' v' l';have hl:kA.toList.length=vs.length:=by have h1:ks.length=kA.toList.length:=v'.length;lia
 rw[eA]at AK;show wpAny _ _ (ksk_end a b vs.toArray e1 (.ref kS) kA) _ _ _;rw[eA];refine Pd (κ:=κ) hO AK Yv Pb hl Ge good.all good.kind λh' c g out k1 k2 k3 k4=>?_;exact h _ H' ks kA.toList c g out (I'.K5 (t':=s'.toks) k1 V3 Yu Aa Ak) V3 k2 w' v' l' k3 k4
theorem ub(hO:κ.OneLt)(I:Inv X pins σ H s)(hl:iU X.K H l xs)(Ge:xs.length<64)(V4:argsOk "sorted" {[.ref l],kw})(QX:∀x,argsOk "list.sort" {[.ref x],kw})(ht:∀x,Builtin.«list.sort» {[.ref x],kw}=ksk_tree x (.ref f) b) (T:HM X pins σ A.in1.in1 f xs W) (w0:W 0 [] H) (G:∀ks us H',W xs.length ks H'->Vals ks us->ks.length=xs.length->MS κ us) (h:∀H' ks us g D,W xs.length ks H'->Vals ks us->ks.length=xs.length->V1 κ b (iA κ us) xs.length g->H' D=none->Q (.ref D) (upd H' D<|.lst<|(List.range xs.length).map λk=>xs.getD (g k) .ax)): wpAny (model X.prog X.w) A (call (.builtin "sorted") [.ref l] kw) (EP X pins σ Q) E s:=by
 obtain⟨vs,hv,pl,_⟩:=I.list hl;have QY:xs.length=vs.length:=hv.length;rw[QY]at Ge G h;refine call_function_entry_kw kind_sorted plain_sorted entry_sorted V4 ?_;unfold Builtin.«sorted»;refine zb (m:=checkCount "sorted" 1 1 _)<|zu ?_;refine zb<|collect_list pl.isList ?_ (by rw[zZ];lia);refine zb<|wpAny_newList ?_ (by rw[zZ];lia);have hsz:((s.heap.push<|seqObj "list" #[] 0).update s.heap.objs.size (Obj.mapSeq (·++vs.toArray))).objs.size=s.heap.objs.size+1:=by rw[Heap.size_update,size_push']
 have FW:(((s.heap.push<|seqObj "list" #[] 0).update s.heap.objs.size (Obj.mapSeq (·++vs.toArray))).push<|seqObj "list" vs.toArray 0).get? (s.heap.objs.size+1)=some (seqObj "list" vs.toArray 0):=by rw[<-hsz];exact zj _ rfl
 have keep:∀b o,s.heap.get? b=some o->(((s.heap.push<|seqObj "list" #[] 0).update s.heap.objs.size (Obj.mapSeq (·++vs.toArray))).push<|seqObj "list" vs.toArray 0).get? b=some o:=λb o q=>by have dW:b<s.heap.objs.size:=zt q;rw[Heap.get?_push_ne _ _ _<|by rw[hsz];exact zy<|Nat.lt_succ_of_lt dW,Heap.get?_update_ne _ _ _ _<|zy dW,Heap.get?_push_ne _ _ _<|zy dW];exact q
 show wpAny _ _ _ _ _ {s with heap:=((s.heap.push<|seqObj "list" #[] 0).update s.heap.objs.size (Obj.mapSeq (·++vs.toArray))).push<|seqObj "list" vs.toArray 0};rw[hsz];generalize hg:((s.heap.push<|seqObj "list" #[] 0).update s.heap.objs.size (Obj.mapSeq (·++vs.toArray))).push (seqObj "list" vs.toArray 0)=h1 at FW keep⊢;have I1:Inv X pins σ H {s with heap:=h1}:=I.kept (t':=s.toks) keep;have Aa:MR X pins (s.heap.objs.size+1):=I.V2<|yN _;have na:H (s.heap.objs.size+1)=none:=I.aH.fresh<|yN _;generalize s.heap.objs.size+1=a at FW Aa na⊢;refine zb<|yE<|wpAny_call_entry_kw slot_list_sort {_,FW,rfl} entry_list_sort ?_<|QX _;show wpAny (model X.prog X.w) A.in1.in1 (Builtin.«list.sort» {[.ref a],kw}) _ _ _;rw[ht a];have s1:=yt h1 a<|Obj.mapSeq λ_=>(#[]:Array Value);obtain⟨e1,Pe⟩:∃e1,(h1.update a<|Obj.mapSeq λ_=>(#[]:Array Value)).get? a=some (seqObj "list" #[] e1):={_,get?_update_seq FW λ_=>#[]};have I2:Inv X pins σ H {s with heap:=h1.update a<|Obj.mapSeq λ_=>(#[]:Array Value)}:=Inv.turned (s:={s with heap:=h1}) (h':=h1.update a<|Obj.mapSeq λ_=>(#[]:Array Value)) (t':=s.toks) (it:=a) I1 (λb o hb q=>(s1.2 b hb).trans q) na Aa.loc (.inr Aa.new) Aa.cell Aa.pin;unfold ksk_tree;refine zb<|listItems_at FW rfl ?_;refine zb<|listUpdate_at FW rfl ?_ (by rw[zm,zZ];lia)<|zU _;refine zb<|seqEpoch_at Pe rfl ?_;refine zb<|wpAny_newTuple ?_ (by show vs.length<=_;rw[zZ];lia);refine zb<|wpAny_newList ?_<|zU _;refine yE ?_;generalize h1.update a (Obj.mapSeq λ_=>(#[]:Array Value))=h2 at Pe I2⊢;have k3:∀b u,h2.get? b=some u->((h2.push<|seqObj "tuple" vs.toArray 0).push<|seqObj "list" #[] 0).get? b=some u:=λb u q=>za _<|za _ q;have I3:Inv X pins σ H {s with heap:=(h2.push<|seqObj "tuple" vs.toArray 0).push<|seqObj "list" #[] 0}:=I2.kept (t':=s.toks) k3;have Bl:h2.objs.size<=(h2.push<|seqObj "tuple" vs.toArray 0).objs.size:=by rw[size_push'];exact yN _
 refine E8 (s:={s with heap:=(h2.push<|seqObj "tuple" vs.toArray 0).push<|seqObj "list" #[] 0}) (kS:=(h2.push<|seqObj "tuple" vs.toArray 0).objs.size) hO I3 (k3 _ _ Pe) (zj _ rfl) (yj<|zl (zt Pe) Bl) na (I2.aH.fresh Bl) Aa (I2.V2 Bl) hv Ge T w0 G λs' H' ks us c g out J n1 o1 w1 v1 l1 q1 q2=>{.none,rfl,?_};refine zu {_,rfl,.ref a,_,J.Ue (o:=.lst<|(List.range vs.length).map λk=>xs.getD (g k) .ax) n1 Aa {?_,out.toList,c,?_,?_},rfl,h H' ks us g a w1 v1 l1 q1 n1};rw[zc,List.length_range,zZ];lia;rw[q2];have:∀(ns:List Nat),(∀k∈ns,g k<vs.length)->Vals (ns.map λk=>xs.getD (g k) .ax) (ns.map λk=>vs.getD (g k) .none):=λns=>by induction ns with|nil=>exact λ_=>.nil|cons k ns ih=>intro hk;have Yw:=hk k zp;obtain⟨y,hy⟩:∃y,xs[g k]?=some y:={_,zg<|by lia};obtain⟨u,hu,ru⟩:=hv.get hy;refine .cons ?_<|ih λk dY=>hk k<|zi _ dY;show RelV (xs.getD (g k) .ax) (vs.getD (g k) .none);rw[zH,hy,zH,hu];exact ru
 exact this _ λk hk=>q1.lt k<|zN.mp hk;rw[o1]
end
def Bm(mg:Str->Option Value)(base:Heap):Prop:=∃bm o,mg "__builtins__"= some (.ref bm)/\bm≠builtinsNs/\base.get? bm=some o/\o.cls=.type "module"/\o.dict=some builtinsNs/\o.data=.plain
structure Yx(K:Frag)(mg:Str->Option Value)(base:Heap)(c P:Addr):Prop where
 hd:codeHdIn K c P=true
 bm:Bm mg base
theorem Bn{pos p2:Pos}{c cv:Value}(l:List Value)(h:TriplesOk l)(e:codeAmong pos (l++[rawInt p2.line,rawInt p2.col,c])=some cv):codeAmong pos l=some cv\/cv=c:=by fun_induction TriplesOk l with|case1=>(simp only[List.nil_append,rawInt,codeAmong]at e;split at e;cases e;exact .inr rfl;cases e)|case2 a t b u x rest ih=>simp only[List.cons_append,codeAmong]at e⊢;split at e;rename_i hc;rw[if_pos hc];exact .inl e;rename_i hc;rw[if_neg hc];exact ih h e|case3 l h1 h2=>exact h.elim
section
variable{X:Cx}{pins:List (Addr×Obj)}{σ:St}{H:Hp}{s:Shared}
theorem Inv.tab{h':Heap}{tk:Nat}{P c:Addr}{ps QZ:Array Value}{oc fo:Obj}(I:Inv X pins σ H s)(hP:H P=some (.pJ ps))(hx:Heap.ExtBut P s.heap h')(h1:s.heap.objs.size<=c)(h2:c<h'.objs.size)(hc:h'.get? c=some oc)(hp:h'.get? P=some (tabObj<|ps++QZ)): Inv X pins σ (upd (upd H P<|.pJ<|ps++QZ) c<|.kI oc<|.own 0) {s with heap:=h'.push fo,toks:=tk}:=by
 have hcP:c≠P:=λz=>absurd (zl (I.aH.lt hP)<|z ▸ h1)<|yi _;have nc:H c=none:=I.aH.fresh h1;have other:∀b,b≠P->b≠c->upd (upd H P<|.pJ<|ps++QZ) c (.kI oc<|.own 0) b=H b:=λb z1 z2=>by rw[au z2,au z1]
 have nP:∀b o,H b=some o->(∀q,o≠.pJ q)->b≠P:=λb o e z q=>by rw[q,hP]at e;cases e;exact z _ rfl
 have Yy:∀b,H b=none->b≠P:=λb e q=>by rw[q,hP]at e;cases e
 have lt:∀b o,s.heap.get? b=some o->b≠c:=λb o e=>zy<|zl (zt e) h1;refine I.un (h':=h'.push fo) {λb o e n _ _=>za _<|hx b o (Yy b n) e,λb o e n _ _=>{o.slots,za _<|hx b o (Yy b n) e},λb o e n _=>by rw[other b (Yy b n)<|lt b o e];exact n,λb o e _=>?_,λb xs e=>by rw[other b (nP b _ e λ_=>nofun)<|az e nc];exact e,λb o u e=>by rw[other b (nP b _ e λ_=>nofun)<|az e nc];exact e,λb q e=>?_} λb u e=>?_;by_cases hb:b=P;rw[hb];exact{_,za _ hp};exact{o,za _<|hx b o hb e};by_cases hb:b=P;subst hb;rw[hP]at e;cases e;exact{QZ,by rw[au<|Ne.symm hcP,aE]};exact{#[],by rw[other b hb<|az e nc,e];simp};by_cases Q0:b=c;subst Q0;rw[aE]at e;cases e;exact{za _ hc,_,za _ hc};rw[au Q0]at e;by_cases hb:b=P;subst hb;rw[aE]at e;cases e;exact za _ hp;rw[au hb]at e;refine(I.aH b u e).lI (λd v hd q=>?_) (λd q=>by rw[other d (nP d _ q λ_=>nofun)<|az q nc];exact q) λd xs q=>by rw[other d (nP d _ q λ_=>nofun)<|az q nc];exact q
 rcases hd with rfl|hd;exact za _<|hx d v hb q;exact za _<|hx d v (nP d _ hd λ_=>nofun) q
theorem Inv.C6(I:Inv X pins σ H s)(ho:s.heap.get? f=some o)(hn:H f=none)(A:MR X pins f)(d:∀v,o.data≠.cell v):Inv X (pins++[(f,o)]) σ H s:=by refine{I.ok,I.os,I.bare,I.base,I.loc,I.cell,I.free,I.df,λp hp=>?_,I.aH,I.len};rcases zJ.mp hp with hp|hp;exact I.pin p<|zQ _ hp;rcases zJ.mp hp with hp|hp;exact I.pin p<|zw _ hp;rw[zD.mp hp];exact⟨ho,hn,A.loc,A.fs,d⟩
structure Ug(X:Cx)(pins:List (Addr×Obj))(σ:St)(H H':Hp)(P:Addr)(q:Str)(params:Arguments)(body:Expr)(scope:Scope)(u:Value)(s':Shared)(f:Addr)(pm cv lG:Value):Prop where
 u:u=.ref f
 inv:Inv X (pins++[(f,xt X q params body scope pm cv lG)]) σ H' s'
 code:∃c o vs t,cv=.ref c/\H' c=some (.kI o<|.own 0)/\o.data=.fields vs/\vs[1]?=some (.str q t)
 same:∀b,H' b=H b\/(b=P/\∃ps,H' b=some (.pJ ps)/\CO H' q ps)\/(H b=none/\∃o,H' b=some (.kI o<|.own 0))
theorem xw{M:Model}{A:Around}{E:Value->Shared->Prop}{N:List Str}{src:List<|Option Nat}{scope:Scope}{params:Arguments}{body:Expr}{pos:Pos}{c P:Addr}{q:Str}{ps:Array Value}{Q:Value->Shared->Prop}(I:Inv X pins σ H s)(S:bE X N src scope)(oy:X.env.code=.ref c)(mk:Yx X.K X.mg X.base c P) (hP:H P=some (.pJ ps)) (ok:CO H q ps) (hq:X.env.qual ++ "<lambda>"= q) (HN:defaultsOf params X.env=([],[])) (h:∀u s' H' f pm cv lG,Ug X pins σ H H' P q params body scope u s' f pm cv lG->Q u s'):wpAny M A (eval (.Lambda params body scope pos) X.env) Q E s:=by
 have EJ:closureFor scope X.env=pure (clOf X.env.cells scope.names):=gs λy hy hf=>I.ok.has y.1<|S.AL y hy hf;have V5:s.heap.get? P=some (tabObj ps):=I.aH P _ hP;have hg:s.heap.Ns mainGlobals X.mg:=I.mod.glob.keeps I.bk;have hC:=codeHd_of_K I.lE mk.hd;obtain⟨bm,ob,b1,b2,b3,b4,b5,b6⟩:=mk.bm;have V6:s.heap.get? bm=some ob:=I.bk _ _ b3;have hgP:mainGlobals≠P:=λz=>by obtain⟨o,es,ep,e,d,_⟩:=id hg;rw[z,V5]at e;cases e;cases d
 have hbG:bm≠mainGlobals:=λz=>by obtain⟨o,es,ep,e,d,_⟩:=id hg;rw[<-z,V6]at e;cases e;rw[b6]at d;cases d
 have hbP:bm≠P:=λz=>by rw[z,V5]at V6;cases V6;cases b4
 have hB:s.heap.BuiltinsAt X.mg P:=⟨bm,ob,b1,b2,hbG,hbP,V6,b4,b5,b6⟩;have hqs:H P≠none:=by rw[hP];nofun
 refine PySem.W.kla_eval HN ?_;rw[hq];cases hf:codeAmong pos ps.toList with|none=>(refine PySem.W.kla_makeFunction EJ I.ok.glob hg oy hC V5 ok.1 hf hgP hB λc' lG h' tk hx h1 h2 hr hp=>?_;obtain⟨c2,oc,vs,t,e2,Vv,hd,hv⟩:=hr;cases e2;have J:=I.tab (tk:=tk) (fo:=xt X q params body scope ((X.mg "__name__").getD .none) (.ref c') lG) hP hx h1 h2 Vv hp;have hcP:c'≠P:=λz=>absurd (zl (I.aH.lt hP)<|z ▸ h1)<|yi _;have nc:H c'=none:=I.aH.fresh h1;have fresh:∀b,h'.objs.size<=b->upd (upd H P<|.pJ<|ps++#[rawInt pos.line,rawInt pos.col,.ref c']) c' (.kI oc<|.own 0) b=none:=λb hb=>(by have wQ:s.heap.objs.size<=b:=zK (zK h1<|yC h2) hb;rw[au<|yj<|zl h2 hb,au<|yj<|zl (I.aH.lt hP) wQ];exact I.aH.fresh wQ);have hsz:s.heap.objs.size<=h'.objs.size:=zK h1<|yC h2;refine h _ _ _ h'.objs.size _ _ _ {rfl,J.C6 (zj _ rfl) (fresh _<|zk _) (I.V2 hsz) (λv z=>nomatch z),⟨c',oc,vs,t,rfl,aE,hd,hv⟩,λb=>?_};by_cases Q0:b=c';subst Q0;exact .inr<|.inr ⟨nc,oc,aE⟩;by_cases hb:b=P;subst hb;refine .inr<|.inl {rfl,_,by rw[au Q0,aE],?_,λp2 cv e=>?_};rw[Array.toList_append];exact TriplesOk_snoc _ _ _ _ ok.1;rw[Array.toList_append]at e;rcases Bn _ ok.1 e with e|e;obtain⟨d,o,ws,t2,z1,z2,z3⟩:=ok.2 p2 cv e;exact{d,o,ws,t2,z1,by rw[au<|az z2 nc,au λz=>by rw[z,hP]at z2;cases z2];exact z2,z3};exact⟨c',oc,vs,t,e,aE,hd,hv⟩;exact .inl<|by rw[au Q0,au hb])|some cv=>refine PySem.W.kla_makeFunctionHit EJ I.ok.glob hg oy hC V5 ok.1 hf hB λlG h' tk hk hsz=>?_;have J:Inv X pins σ H {s with heap:=h'.push<|xt X q params body scope ((X.mg "__name__").getD .none) cv lG,toks:=tk}:=I.kept λb u e=>za _<|hk b u e;exact h _ _ _ h'.objs.size _ _ _ {rfl,J.C6 (zj _ rfl) (I.aH.fresh hsz) (I.V2 hsz) (λv z=>nomatch z),ok.2 pos cv hf,λb=>.inl rfl}
end
def Uh:D->D->Prop|.int a,.int b=>a<b|.str a,.str b=>a.cps.toList<b.cps.toList|_,_=>False
def xx(ks:List D):Prop:=(∃zs:List Str,ks=zs.map D.str)\/∃ns:List Int,ks=ns.map D.int
structure Pf(b:Bool)(key:Nat->D)(n:Nat)(g:Nat->Nat):Prop where
 lt:∀k,k<n->g k<n
 inj:∀i j,i<n->j<n->g i=g j->i=j
 ord:∀i j,i<j->j<n->(if b=true then Uh (key<|g j) (key<|g i) else Uh (key<|g i) (key<|g j))\/(key (g i)=key (g j)/\g i<g j)
def xy(b:Bool)(P:Addr)(q:Str)(src:List<|Option Nat)(te:TD)(σ:SD)(R:KD)(d:D)(S1:av):Prop:=∃(l:Addr)(xs:List D)(f:D->D),d=.ref l/\S1 l=some (.lst xs)/\xs.length<64/\S1 P=some (.tab q)/\xx (xs.map f)/\(∀x,x∈xs->∀S',Sub S1 S'->∀Qk:KD,(∀S2,Sub S' S2->Qk (f x) S2)->te ((ou σ src).set 0<|some x) S' Qk Zf)/\∀g S2 p,Pf b (λj=>f<|xs.getD j .ax) xs.length g->Sub S1 S2->S2 p=none->R (.ref p) (S2.set p<|.lst<|(List.range xs.length).map λk=>xs.getD (g k) .ax)
def MT(b:Bool)(P:Addr)(q:Str)(src:List<|Option Nat)(tl te:TD):TD:=λσ S R Z=>tl σ S (λd S1=>xy b P q src te σ R d S1) Z
def HP(F:D->av->Prop):List D->av->Prop|[d],S=>F d S|_,_=>False
theorem C7{F:D->av->Prop}{ds:List D}{S:av}(h:HP F ds S):∃d,ds=[d]/\F d S:=by match ds,h with|[d],h=>exact⟨d,rfl,h⟩
theorem qG:∀{ss:List Int}{ay:List Value},Vals (ss.map V.int) ay->IntsAre ay ss|[],_,.nil=>.nil|z::ss,_,.cons r t=>by obtain⟨tk,rfl⟩:=r;exact .cons z tk<|qG t
theorem qH:∀{us:List Value}{zs:List Str},StrsAre us zs->∀j,j<zs.length->iA strKind us j=(zs.getD j "").cps.toList|_,_,.cons z t h,0,_=>rfl|_,_,.cons z t h,j+1,hj=>by have:=qH h j (by simpa using hj);unfold iA at this⊢;rw[List.getD_cons_succ,List.getD_cons_succ];exact this
theorem qI:∀{us:List Value}{zs:List Int},IntsAre us zs->∀j,j<zs.length->iA intK us j=zs.getD j 0|_,_,.cons z t h,0,_=>rfl|_,_,.cons z t h,j+1,hj=>by have:=qI h j (by simpa using hj);unfold iA at this⊢;rw[List.getD_cons_succ,List.getD_cons_succ];exact this
theorem HQ(h:StrsAre us zs):∀u∈us,∃x,strKind.keyOf u=some x:=by induction h with|nil=>(intro u hu;cases hu)|cons z t h ih=>intro u hu;rcases zf.mp hu with rfl|hu;exact{_,rfl};exact ih u hu
theorem HR(h:IntsAre us zs):∀u∈us,∃x,intK.keyOf u=some x:=by induction h with|nil=>(intro u hu;cases hu)|cons z t h ih=>intro u hu;rcases zf.mp hu with rfl|hu;exact{_,rfl};exact ih u hu
theorem HS{xs:List D}{f:D->D}{j:Nat}(hj:j<xs.length):(xs.map f)[j]?=some (f<|xs.getD j .ax):=by rw[zq,zH,zg hj];rfl
theorem u_{K:Frag}{H:Hp}{ds:List D}{xs:List V}(h:RvAll K H ds xs)(g:Nat->Nat):∀(ns:List Nat),(∀k∈ns,g k<ds.length)->RvAll K H (ns.map λk=>ds.getD (g k) .ax) (ns.map λk=>xs.getD (g k) .ax)|[],_=>bq|k::ns,hk=>by have Yw:=hk k zp;obtain⟨v,e,r⟩:=h.get<|zg Yw;refine aO ?_<|u_ h g ns λk dY=>hk k<|zi _ dY;show Rv K H (ds.getD (g k) .ax) (xs.getD (g k) .ax);rw[zH,zg Yw,zH,e];exact r
section
variable{K:Frag}{Y:Cx}{pins:List (Addr×Obj)}{τ:St}{H H2:Hp}{s:Shared}{N:List Str}{src:List (Option Nat)}{scope:Scope}{params:Arguments}{body:Expr}{q p:Str}{pm cv lG:Value}{f l:Addr}{te:TD}{b:Bool}{kw:List (Str×Value)}{k:Nat}
theorem xA{σ:SD}{S1:av}{xs:List D}{fD:D->D}{Q:VK}{R:KD}{E:Value->Shared->Prop}(I:Inv Y (pins++[(f,xt Y q params body scope pm cv lG)]) τ H s)(hK:Y.K=K)(Ui:Y.calm=true)(hr:bM k Y.A)(oy:∃c o vs t,cv=.ref c/\H c=some (.kI o<|.own 0)/\o.data=.fields vs/\vs[1]?=some (.str q t)) (CS:bE Y N src scope) (K3:N[0]?=some p) (hp:scope.names.lookup p=some .local) (h0:src[0]?=some none) (K4:scope.isCoroutine=false) (Bk:scope.isGenerator=false) (hb:∀cl pm cv lG u,bindArgs (kla_fn "<lambda>" q params body scope cl pm cv lG) {[u],[]}=pure [(p,u)]) (he:∀cv s H,DE K (QW Y N q scope f cv Y.A.in1.in1 s H) body te) (aD:fS K H σ τ) (hS:Rs K S1 H) (hl:S1 l=some (.lst xs)) (Ge:xs.length<64) (kd:xx<|xs.map fD) (step:∀x,x∈xs->∀S',Sub S1 S'->∀Qk:KD,(∀S2,Sub S' S2->Qk (fD x) S2)->te ((ou σ src).set 0<|some x) S' Qk Zf) (hR:Cn K H R Q) (fin:∀g S2 p,Pf b (λj=>fD<|xs.getD j .ax) xs.length g->Sub S1 S2->S2 p=none->R (.ref p) (S2.set p<|.lst<|(List.range xs.length).map λk=>xs.getD (g k) .ax)) (V4:argsOk "sorted" {[.ref l],kw}) (QX:∀x,argsOk "list.sort" {[.ref x],kw}) (ht:∀x,Builtin.«list.sort» {[.ref x],kw}=ksk_tree x (.ref f) b): wpAny (model Y.prog Y.w) Y.A (call (.builtin "sorted") [.ref l] kw) (EP Y pins τ Q) E s:=by
 subst hK;obtain⟨vs,hv,rv⟩:=hS.lst hl;have QY:vs.length=xs.length:=rv.len;obtain⟨c,oc,ws,tk,ecv,hc,rZ,hcq⟩:=oy;have drop:∀{u:Value}{s':Shared},EP Y (pins++[(f,xt Y q params body scope pm cv lG)]) τ Q u s'->EP Y pins τ Q u s':=λ⟨v,H',J,r,q⟩=>{v,H',{J.ok,J.os,J.bare,J.base,J.loc,J.cell,J.free,J.df,λp hp=>J.pin p<|by rcases zJ.mp hp with z|z;exact zQ _ z;exact zw _<|zQ _ z,J.aH,J.len},r,q};have T:HM Y (pins++[(f,xt Y q params body scope pm cv lG)]) τ Y.A.in1.in1 f vs λi ks H'=>∃S',Sub S1 S'/\Rs Y.K S' H'/\Kp Y.K H H'/\RvAll Y.K H' ((xs.take i).map fD) ks:=by rintro i x u ks s' H' more I' ⟨S',sb,rs,kp,rk⟩ hx ru;have hi:i<xs.length:=(by have:=(ze.mp hx).1;lia);obtain⟨v,e1,r1⟩:=rv.get<|zg hi;rw[hx]at e1;cases e1;have po:=(I'.pin (f,xt Y q params body scope pm cv lG)<|zw _<|zQ _<|zw _<|by simp).1;have hcr:s'.heap.CodeRec cv q:={c,oc,ws,tk,ecv,(I'.aH c _<|kp.f _ _ _ hc).1,rZ,hcq};refine HI (A:=Y.A.in1.in1) I' CS K3 hp h0 I'.ok.frames (I'.ok.hd Ui) (by have:=hr.dp;show Y.A.depth<_;lia) ru po hcr K4 Bk (hb _ _ _ _ _) ((he cv s' H').of<|.none _ rfl) ?_;refine{_,S',λkk S2=>kk=fD xs[i]/\Sub S' S2,Zf,((aD.ts kp).pick src).set 0<|Rv.ts kp _ r1,rs,step _ (List.getElem_mem hi) S' sb _ λS2 h2=>⟨rfl,h2⟩,λkk S2 v2 H2 ⟨e2,AO⟩ Q1 Uj V7=>?_,.f};subst e2;refine{S2,sb.trans AO,Uj,kp.trans V7,?_};rw[show xs.take (i+1)=xs.take i++[xs[i]] by rw[List.take_add_one,zg hi];rfl,zI];exact(RvAll.ts V7 _ rk).app<|aO Q1 bq
 have w0:∃S',Sub S1 S'/\Rs Y.K S' H/\Kp Y.K H H/\RvAll Y.K H ((xs.take 0).map fD) []:={S1,.refl _,hS,.refl _,by rw[List.take_zero];exact bq};have QC:iU Y.K H l vs:=.of hv;rcases kd with⟨zs,ez⟩|⟨zs,ez⟩;have hzl:zs.length=xs.length:=by have:=congrArg List.length ez;rw[zc,zc]at this;exact this.symm
 have ka:∀j,j<xs.length->fD (xs.getD j .ax)=.str (zs.getD j ""):=λj hj=>by have e1:=HS (f:=fD) hj;rw[ez,zq,zg<|by lia]at e1;rw[zH (l:=zs),zg<|by lia];exact(zP e1).symm
 have kv:∀ks us H',(∃S',Sub S1 S'/\Rs Y.K S' H'/\Kp Y.K H H'/\RvAll Y.K H' ((xs.take vs.length).map fD) ks)->Vals ks us->StrsAre us zs:=λks us H' ⟨S',_,_,_,rk⟩ hu=>by rw[QY,List.take_length,ez]at rk;rw[rk.strs]at hu;exact qF hu
 refine yn (ub (κ:=strKind) (Q:=Q) (b:=b) strKind_oneLt I QC (by lia) V4 QX ht T w0 (λks us H' w1 v1 l1=>{HQ<|kv ks us H' w1 v1,λm7 m8 rest e=>keyKind_strs<|by rw[<-e];exact kv ks us H' w1 v1}) λH' ks us g D w1 v1 l1 sr hD=>?_) (λu s' z=>drop z) λ_ _ z=>z;have sk:=kv ks us H' w1 v1;obtain⟨S',sb,rs,kp,rk⟩:=w1;rw[QY]at sr⊢;refine(hR.kp kp).new rs hD (λhp=>fin g S' D {sr.lt,sr.inj,λi j kM hj=>?_} sb hp)<|u_ (RvAll.ts kp _ rv) g _ λk hk=>sr.lt k<|zN.mp hk;have h1:=sr.lt i (by lia);have h2:=sr.lt j hj;have:=sr.ord i j kM hj;rw[qH sk _<|by lia,qH sk _<|by lia]at this;rw[ka _ h1,ka _ h2];rcases this with z|⟨z1,z2⟩;left;cases b with|false=>rw[if_neg zd]at z⊢;show(zs.getD (g i) "").cps.toList<(zs.getD (g j) "").cps.toList;exact zC z|true=>rw[if_pos rfl]at z⊢;show(zs.getD (g j) "").cps.toList<(zs.getD (g i) "").cps.toList;exact zC z
 exact .inr {by rw[Yo z1],z2};have hzl:zs.length=xs.length:=by have:=congrArg List.length ez;rw[zc,zc]at this;exact this.symm
 have ka:∀j,j<xs.length->fD (xs.getD j .ax)=.int (zs.getD j 0):=λj hj=>by have e1:=HS (f:=fD) hj;rw[ez,zq,zg<|by lia]at e1;rw[zH (l:=zs),zg<|by lia];exact(zP e1).symm
 have kv:∀ks us H',(∃S',Sub S1 S'/\Rs Y.K S' H'/\Kp Y.K H H'/\RvAll Y.K H' ((xs.take vs.length).map fD) ks)->Vals ks us->IntsAre us zs:=λks us H' ⟨S',_,_,_,rk⟩ hu=>by rw[QY,List.take_length,ez]at rk;rw[rk.ints]at hu;exact qG hu
 refine yn (ub (κ:=intK) (Q:=Q) (b:=b) HJ I QC (by lia) V4 QX ht T w0 (λks us H' w1 v1 l1=>{HR<|kv ks us H' w1 v1,λm7 m8 rest e=>keyKind_ints<|by rw[<-e];exact kv ks us H' w1 v1}) λH' ks us g D w1 v1 l1 sr hD=>?_) (λu s' z=>drop z) λ_ _ z=>z;have sk:=kv ks us H' w1 v1;obtain⟨S',sb,rs,kp,rk⟩:=w1;rw[QY]at sr⊢;refine(hR.kp kp).new rs hD (λhp=>fin g S' D {sr.lt,sr.inj,λi j kM hj=>?_} sb hp)<|u_ (RvAll.ts kp _ rv) g _ λk hk=>sr.lt k<|zN.mp hk;have h1:=sr.lt i (by lia);have h2:=sr.lt j hj;have:=sr.ord i j kM hj;rw[qI sk _<|by lia,qI sk _<|by lia]at this;rw[ka _ h1,ka _ h2];rcases this with z|⟨z1,z2⟩;left;cases b with|false=>rw[if_neg zd]at z⊢;show zs.getD (g i) 0<zs.getD (g j) 0;exact zC z|true=>rw[if_pos rfl]at z⊢;show zs.getD (g j) 0<zs.getD (g i) 0;exact zC z
 exact .inr {by rw[z1],z2}
end
section
variable{K:Frag}{X:Cx}{N:List Str}{src:List (Option Nat)}{scope:Scope}{params:Arguments}{e body:Expr}{q p x:Str}{np pos lp kq kq2 cp:Pos}{ci}{tl te:TD}{k:Nat}{c P:Addr}
theorem Ug.kp{pins:List<|Addr×Obj}{τ:St}{H H':Hp}{u:Value}{s':Shared}{f:Addr}{pm cv lG:Value}{Y:Cx}(L:Ug Y pins τ H H' P q params body scope u s' f pm cv lG){ps:Array Value}(hP:H P=some (.pJ ps)):Kp K H H':=.of λb o e=>by rcases L.same b with z|⟨z,_⟩|⟨z,_⟩;exact .inl (by rw[z];exact e);rw[z,hP]at e;cases e;exact .inr {λ_=>nofun,λ_ _=>nofun};rw[z]at e;cases e
theorem Ug.rs{pins:List<|Addr×Obj}{τ:St}{H H':Hp}{u:Value}{s':Shared}{f:Addr}{pm cv lG:Value}{Y:Cx}{S:av}(L:Ug Y pins τ H H' P q params body scope u s' f pm cv lG)(hS:Rs K S H)(ht:S P=some (.tab q)):Rs K S H':=λb x hb=>by obtain⟨ps,hP,_⟩:=hS P _ ht;have kp:Kp K H H':=L.kp hP;rcases L.same b with z|⟨rfl,QZ,z1,z2⟩|⟨z,_⟩;exact(hS b x hb).keep (λo e=>by rw[z];exact e) kp;rw[ht]at hb;cases hb;exact⟨QZ,z1,z2⟩;obtain⟨o,e,_⟩:=(hS b x hb).has;rw[z]at e;cases e
theorem Uk(oy:X.env.code=.ref c)(mk:Yx K X.mg X.base c P)(hr:bM k X.A)(CS:bE X N src scope)(hl:DE K X e tl)(he:∀f cv s H,DE K (QW X N q scope f cv X.A.in1.in1 s H) body te)(hm:X.mg x=none)(hv:bootBuiltins x=some (.builtin "sorted")) (hq:autoParam (X.env.qual ++ "<lambda>"= q) qQJ) (K3:autoParam (N[0]?=some p) qQJ) (hp:autoParam (scope.names.lookup p=some .local) qQJ) (h0:autoParam (src[0]?=some none) qQJ) (K4:autoParam (scope.isCoroutine=false) qQJ) (Bk:autoParam (scope.isGenerator=false) qQJ) (hb:autoParam (∀cl pm cv lG u,bindArgs (kla_fn "<lambda>" q params body scope cl pm cv lG) {[u],[]}=pure [(p,u)]) qJ1) (HN:autoParam (defaultsOf params X.env=([],[])) qQJ) (hg:autoParam (Gl X x) qQJ) (hn:autoParam (x≠"__name__") qQZ) (kK:autoParam ((x==("__debug__": Str))=false) qQZ) (Yz:autoParam (backTo pos (starEach [e] X.env)=(false,eval e X.env)::backTo pos (starEach [] X.env)) qQJ) (du:autoParam ((backTo pos<|starEach [e] X.env).any (·.1)=false) qQJ) (YA:autoParam (isPlain e=true) qQJ) (hK:autoParam (X.K=K) qQJ) (hC:autoParam (X.calm=true) qQJ): DE K X (.Call (.Name x np) [e] [{some "key",.Lambda params body scope lp,kq}] pos) (MT false P q src tl te):=by subst hK;refine⟨λy=>?_⟩;rintro pins s τ H Q I ⟨σ,S,R,Z,aD,hS,t,hR,hZ⟩;refine wpAny_Call_Name_kw<|gr I hg hm hv ?_ hn kK;refine callWith_kw (bf (((ac hl an YA).of y) pos pins s τ H (λvs H1=>∃ds S1,HP (xy false P q src te σ R) ds S1/\RvAll X.K H1 ds vs/\Rs X.K S1 H1/\Kp X.K H H1) I {σ,S,HP<|xy false P q src te σ R,Z,aD,hS,t,λds S1 vs H1 r rv rs k1=>⟨ds,S1,r,rv,rs,k1⟩,hZ}) λus s1 ⟨vs,H1,I1,r1,ds,S1,r,rv,rs,k1⟩=>?_) Yz du;obtain⟨d,rfl,l,xs,fD,rfl,el,Ge,et,kd,step,fin⟩:=C7 r;obtain⟨v,Xl,rfl,Ul,Q1⟩:=rv.cons;cases Q1.nil;cases Ul.ref;obtain⟨u,rfl,ru⟩:=vals1 r1;cases ru;obtain⟨ps,hP,aH⟩:=rs P _ et;refine kws_cons<|xw I1 ⟨CS.kind,CS.gu,CS.loc,CS.AL,CS.len,CS.src⟩ oy mk hP aH hq HN λw s2 H2 f pm cv lG L=>?_;refine kws_nil ?_;cases L.u;have k2:Kp X.K H1 H2:=L.kp hP;exact xA L.inv rfl hC hr L.code ⟨CS.kind,CS.gu,CS.loc,CS.AL,CS.len,CS.src⟩ K3 hp h0 K4 Bk hb (he f) ((aD.ts k1).ts k2) (L.rs rs et) el Ge kd step (hR.kp<|k1.trans k2) fin (ksk_s1 _ _) (λx=>ksk_l1 _ _) λx=>ksk_t1 _ _
theorem MU(oy:X.env.code=.ref c)(mk:Yx K X.mg X.base c P)(hr:bM k X.A)(CS:bE X N src scope)(hl:DE K X e tl)(he:∀f cv s H,DE K (QW X N q scope f cv X.A.in1.in1 s H) body te)(hm:X.mg x=none)(hv:bootBuiltins x=some (.builtin "sorted")) (hq:autoParam (X.env.qual ++ "<lambda>"= q) qQJ) (K3:autoParam (N[0]?=some p) qQJ) (hp:autoParam (scope.names.lookup p=some .local) qQJ) (h0:autoParam (src[0]?=some none) qQJ) (K4:autoParam (scope.isCoroutine=false) qQJ) (Bk:autoParam (scope.isGenerator=false) qQJ) (hb:autoParam (∀cl pm cv lG u,bindArgs (kla_fn "<lambda>" q params body scope cl pm cv lG) {[u],[]}=pure [(p,u)]) qJ1) (HN:autoParam (defaultsOf params X.env=([],[])) qQJ) (hg:autoParam (Gl X x) qQJ) (hn:autoParam (x≠"__name__") qQZ) (kK:autoParam ((x==("__debug__": Str))=false) qQZ) (Yz:autoParam (backTo pos (starEach [e] X.env)=(false,eval e X.env)::backTo pos (starEach [] X.env)) qQJ) (du:autoParam ((backTo pos<|starEach [e] X.env).any (·.1)=false) qQJ) (YA:autoParam (isPlain e=true) qQJ) (hK:autoParam (X.K=K) qQJ) (hC:autoParam (X.calm=true) qQJ): DE K X (.Call (.Name x np) [e] [{some "key",.Lambda params body scope lp,kq},{some "reverse",.Constant (.bool true) ci cp,kq2}] pos) (MT true P q src tl te):=by subst hK;refine⟨λy=>?_⟩;rintro pins s τ H Q I ⟨σ,S,R,Z,aD,hS,t,hR,hZ⟩;refine wpAny_Call_Name_kw<|gr I hg hm hv ?_ hn kK;refine callWith_kw (bf (((ac hl an YA).of y) pos pins s τ H (λvs H1=>∃ds S1,HP (xy true P q src te σ R) ds S1/\RvAll X.K H1 ds vs/\Rs X.K S1 H1/\Kp X.K H H1) I {σ,S,HP<|xy true P q src te σ R,Z,aD,hS,t,λds S1 vs H1 r rv rs k1=>⟨ds,S1,r,rv,rs,k1⟩,hZ}) λus s1 ⟨vs,H1,I1,r1,ds,S1,r,rv,rs,k1⟩=>?_) Yz du;obtain⟨d,rfl,l,xs,fD,rfl,el,Ge,et,kd,step,fin⟩:=C7 r;obtain⟨v,Xl,rfl,Ul,Q1⟩:=rv.cons;cases Q1.nil;cases Ul.ref;obtain⟨u,rfl,ru⟩:=vals1 r1;cases ru;obtain⟨ps,hP,aH⟩:=rs P _ et;refine kws_cons<|xw I1 ⟨CS.kind,CS.gu,CS.loc,CS.AL,CS.len,CS.src⟩ oy mk hP aH hq HN λw s2 H2 f pm cv lG L=>?_;refine kws_cons<|bf (Mh (X:=y.cx) _ s2 τ H2 (λv H'=>v=.bl true/\H'=H2) L.inv ⟨rfl,rfl⟩) λw2 s3 ⟨v2,H3,I3,r3,e3,e4⟩=>?_;subst e3 e4;obtain rfl:w2=Value.bool true:=r3;refine kws_nil ?_;cases L.u;have k2:Kp X.K H1 H3:=L.kp hP;exact xA I3 rfl hC hr L.code ⟨CS.kind,CS.gu,CS.loc,CS.AL,CS.len,CS.src⟩ K3 hp h0 K4 Bk hb (he f) ((aD.ts k1).ts k2) (L.rs rs et) el Ge kd step (hR.kp<|k1.trans k2) fin (ksk_s2 _ _ _) (λx=>ksk_l2 _ _ _) λx=>ksk_t2 _ _ _
end
section
variable{P:Program}{w:World}{K:Frag}{mg:Str->Option Value}{base:Heap}
theorem u3.okC{x qual:Str}{st:Stmt}{f:Addr}{fd:FuncData}{N ps:List Str}{k:Nat}{sp:iV}(F:u3 K x qual st f fd)(S:fT N ps<|ae st)(len:∀ds S R Z,sp ds S R Z->ds.length=ps.length) (lM:∀(fU:Value)(A:Around)(outer:List Env)(s:Shared)(H:Hp)(E:XK)(ds:List D)(S:av)(R:KD)(Z:KX),fU=fd.code->bM k (A.deeper<|envOfC qual (ae st) s.heap.objs.size f fU)->sp ds S R Z->∃t,Bd K (jT (fb P w mg) P w K mg base N qual (ae st) f fU A outer s H E) true (aU st) t/\t {nx:=λ_ S'=>Fo S'<|R .ax,rt:=λd S'=>Fo S'<|R d} (ja N ds) S λ_ C S'=>Fo S'<|Z C):bB P w K mg base (fb P w mg) (k+1) f fd ps (pq K sp):=by
 obtain⟨oc,od,dV,kV,doc,pm,an,fU,ct,N2,rfl,lk,rZ⟩:=F.ex;have du:ps.length<=N.length:=by have:=congrArg List.length S.pre;rw[ya]at this;lia
 refine Mq lk rZ S (by rintro vs H Q E ⟨ds,S',R,Z,v,_,h,_⟩;exact by rw[v.len];exact len _ _ _ _ h) λA outer s H vs Q E hr ⟨ds,S',R,Z,v,hS,h,hR,hZ⟩=>?_;obtain⟨t,ht,q⟩:=lM fU A outer s H E ds S' R Z rfl hr h;have L:cO (jT (fb P w mg) P w K mg base N qual (ae st) f fU A outer s H E) E:=tV;let y:Ev (jT (fb P w mg) P w K mg base N qual (ae st) f fU A outer s H E) true:={_,(jT (fb P w mg) P w K mg base N qual (ae st) f fU A outer s H E).xe,λ_=>E,{λp2 τ H1 s1 e s' I h=>Mx L p2 τ H1 s1 e s' I h,λ_ p2 τ H1 s1 h' a cls args I hx he=>oq L I hx he,λ_=>PassesOwn.leaving}};refine{L2.Tl K (λ_=>E) t,ht.of y,ja N ds,S',_,λ_ C S'=>Fo S'<|Z C,?_,hS,q,{by rintro σ S1 τ H1 ⟨S2,sb,r⟩ a b c;exact(hR.kp c).now (b.sub sb) r i6,by rintro d S1 v H1 ⟨S2,sb,r⟩ a b c;exact hR _ _ _ _ r a (b.sub sb) c,λ_ _ _ _ z=>z.elim,λ_ _ _ _ z=>z.elim},by rintro σ τ C S1 H1 ⟨S2,sb,r⟩ a b c;exact hZ C S2 H1 r (b.sub sb) c};unfold ja start;refine(qz v).app ?_;rw[v.len];exact qy _ _<|by rw[List.length_replicate]
end
structure xB(ts:List Addr)(H:Hp):Prop where
 all:∀b,H b=none\/(∃o xs,H b=some (.kI o<|.lst xs))\/(b∈ts/\H b=some (.pJ #[]))
 tab:∀b∈ts,H b=some (.pJ #[])
theorem E9{P:Program}{w:World}{K:Frag}{mg mb:Str->Option Value}{CX:AD}{k:Nat}{fa a:Addr}{fd:FuncData}{x:Str}{sp:Sp}{aW:Shared}{vs:List Value}{ns:List Int}{ts:List Addr} (KX:K.In aW.heap) (Pa:aW.heap.Ns mainGlobals mg) (hb:aW.heap.Ns builtinsNs mb) (hbb:∀x:Str,x≠"__name__"->mb x=bootBuiltins x) (YB:aW.heap.NoLimit) (hbm:Bm mg aW.heap) (hg:aW.gens=#[]) (hT:∀b∈ts,aW.heap.get? b=some (tabObj #[])) (hC:∀b∈ts,isCodeTable aW.heap b) (hN:∀b∈ts,K.lookup b=none) (ha:aW.heap.get? a=some {cls:=.type "list",data:=.seq vs.toArray}) (hi:IntsAre vs ns) (hl:ns.length<=sizeLine) (hr:bM k callerA) (F:∀base:Heap,Bm mg base->K.In base->base.Ns mainGlobals mg->bB P w K mg base CX k fa fd [x] sp) (Um:∀(s:Shared) (u:Value),BindsTo s fd {[u],[]} [(x,u)]) (QD:∀H:Hp,xB ts H->iU K H a (ns.map V.int)->sp [.ref a] H (λv _=>v=.bl true) λ_ _ _=>False) (YC:∀H e s',CX [] H aW (λ_ _ _=>False) e s'->False): codeAny (model P w) callerA (.call (.ref fa) {[.ref a],[]}) (λr s'=>r=.ok (.ret<|.bool true)/\OldK aW.heap s'.heap/\s'.os=aW.os/\AllBare s'.gens) aW:=by
 have rv:=tP hi;have YD:=hi.length;have VU:a∉ts:=λz=>by rw[hT a z]at ha;cases ha
 have core:∀H:Hp,xB ts H->iU K H a (ns.map V.int)->jR P w H aW.heap->(∀b,H b≠none->b=a\/b∈ts)->(H a≠none->K.lookup a=none)->codeAny (model P w) callerA (.call (.ref fa) {[.ref a],[]}) (λr s'=>r=.ok (.ret<|.bool true)/\OldK aW.heap s'.heap/\s'.os=aW.os/\AllBare s'.gens) aW:=by intro H hO hS aH hA hK;have vd:∀{b:Addr}{o:Obj},aW.heap.get? b=some o->H b=none->(sv aW.heap H).get? b=some o:=λe n=>Gj e n;have J3:∀{b:Addr}{o:Obj}{es:Array DictEntry}{ep:Nat},aW.heap.get? b=some o->o.data=.dict es ep->H b=none:=λ{b o es ep} e d=>(by cases q:H b with|none=>rfl|some u=>rcases hA b (by rw[q];simp) with e'|e';subst e';rw[ha]at e;cases e;have d':Data.seq vs.toArray _=Data.dict es ep:=d;cases d';rw[hT b e']at e;cases e;cases d);have V8:∀{b:Addr}{m:Str->Option Value},aW.heap.Ns b m->(sv aW.heap H).Ns b m:=λ{b m} ⟨o,es,ep,e,d,r⟩=>{o,es,ep,vd e<|J3 e d,d,r};have hKb:K.In (sv aW.heap H):=λb o e=>vd (KX b o e) (by cases q:H b with|none=>rfl|some u=>rcases hA b (by rw[q];simp) with e'|e';subst e';rw[hK<|by rw[q];simp]at e;cases e;rw[hN b e']at e;cases e);have hM:Mod K mg (sv aW.heap H):={hKb,V8 Pa,{mb,V8 hb,hbb},by obtain⟨mc,h1,h2⟩:=YB;exact{mc,V8 h1,h2}};have e0:wR P w K mg (sv aW.heap H) callerA [] aW H:={rfl,hM,λb o e=>JK e,Nat.le_of_eq<|Ee _ _,trivial,λb hb=>absurd (show b∈([]:List Addr) from hb)<|by simp,aH,.of_eq hg};have hBm:Bm mg (sv aW.heap H):=(by obtain⟨bm,ob,b1,b2,b3,b4,b5,b6⟩:=hbm;refine{bm,ob,b1,b2,vd b3 ?_,b4,b5,b6};cases q:H bm with|none=>rfl|some u=>rcases hA bm (by rw[q];simp) with e'|e';rw[e',ha]at b3;cases b3;cases b6;rw[hT bm e']at b3;cases b3;cases b4);refine yL ((F _ hBm hKb<|V8 Pa).run callerA [] aW H {[.ref a],[]} [.ref a] [.ref a] _ _ hr e0 (Um aW<|.ref a) (.cons rfl .nil)<|QD H hO hS) λr s' h=>?_;cases r with|error e=>exact(YC H e s' h).elim|ok fl=>cases fl with|next=>exact False.elim h|brk=>exact False.elim h|cont=>exact False.elim h|ret u=>obtain⟨v,H',os,bare,un,Uo,r',q⟩:=h;have q':v=.bl true:=q;subst q';obtain rfl:u=Value.bool true:=r';refine{rfl,{λb o e=>?_,λb o e=>un.there b o e<|by simp},os,bare};rcases hO.all b with z|⟨ob,xs,z⟩|⟨z1,z⟩;exact .inl<|un.keep b o e z (by intro z;exact absurd (show b∈([]:List Addr) from z)<|by simp) (by simp);have z2:=un.fg b ob _ z;obtain⟨e1,_⟩:=aH b _ z;obtain⟨e2,_⟩:=Uo b _ z2;rw[e]at e1;cases e1;exact .inl e2;obtain⟨more,z2⟩:=un.fh b _ z;have e2:=hT b z1;rw[e]at e2;cases e2;exact .inr<|.inl {hC b z1,rfl,#[],more,rfl,by have:=Uo b _ z2;exact this}
 have tabs:∀(H:Hp),(∀b,b∈ts->H b=some (.pJ #[]))->∀b u,b∈ts->H b=some u->ba P w H aW.heap b u:=λH h b u hb e=>by rw[h b hb]at e;cases e;exact hT b hb
 cases hk:K.lookup a with|some o=>(have e:=KX a o hk;rw[ha]at e;cases e;refine core (λb=>if b∈ts then some (.pJ #[]) else none) {λb=>?_,λb hb=>if_pos hb} (.inr {_,vs.toArray,_,hk,rfl,rfl,rfl,by rw[zm,YD];exact hl,by simpa using rv}) (λb u z=>?_) (λb z=>?_) λz=>absurd (if_neg VU) z;by_cases hb:b∈ts;exact .inr<|.inr {hb,if_pos hb};exact .inl<|if_neg hb;by_cases hb:b∈ts;exact tabs _ (λb hb=>if_pos hb) b u hb z;have z':=(if_neg hb).symm.trans z;cases z';by_cases hb:b∈ts;exact .inr hb;exact absurd (if_neg hb) z)|none=>refine core (λb=>if b=a then some (.kI {cls:=.type "list",data:=.seq vs.toArray}<|.lst<|ns.map V.int) else if b∈ts then some (.pJ #[]) else none) {λb=>?_,λb hb=>?_} (.inl<|.inr ⟨{cls:=.type "list",data:=.seq vs.toArray},if_pos rfl⟩) (λb u z=>?_) (λb z=>?_) λ_=>hk;by_cases hb:b=a;exact .inr<|.inl {_,_,if_pos hb};by_cases E_:b∈ts;exact .inr<|.inr {E_,(if_neg hb).trans<|if_pos E_};exact .inl<|(if_neg hb).trans<|if_neg E_;have:b≠a:=λz=>VU<|z ▸ hb;exact(if_neg this).trans<|if_pos hb;by_cases hb:b=a;have z':=(if_pos hb).symm.trans z;cases z';subst hb;exact{ha,by rw[zc];exact hl,vs,_,rv,ha};have z':=(if_neg hb).symm.trans z;by_cases E_:b∈ts;have z2:=(if_pos E_).symm.trans z';cases z2;exact hT b E_;have z2:=(if_neg E_).symm.trans z';cases z2;by_cases hb:b=a;exact .inl hb;by_cases E_:b∈ts;exact .inr E_;exact absurd ((if_neg hb).trans<|if_neg E_) z
theorem C8:∀{K:Frag},b∉K.map (·.1)->K.lookup b=none|[],_=>rfl| (a,o)::K,h=>by rw[zE,zf,not_or]at h;rw[zX,show(b==a)=false from beq_false_of_ne h.1];exact C8 h.2
theorem K6{K:Params->Frag}{as:List Addr}{e:∀P,as=(K P).map (·.1)}{ts:List Addr}{w:World}{h:Heap}(_:(PySem.W.kmHook K as e ts).says w h)(d:∀b∈ts,b∉as):∀b∈ts,(K w.params).lookup b=none:=λb hb=>C8<|by rw[<-e];exact d b hb
theorem HU{l:PySem.W.OpenLaw}{n k:Nat}{q:Program}{loose:List Str}{XP:(Str->Option Value)->Heap->Prop}{YP:World->Heap->Prop}{d:DefRec}{K:Params->Frag}{CX:AD}{x:Str}{ts:List Addr} (hn:l.most=some n) (NV:n<=sizeLine) (W8:d.params.defaults=[]) (hr:bM k callerA) (hY:∀(w:World)(h:Heap),YP w h->(K w.params).In h) (hT:∀(w:World)(h:Heap),YP w h->∀b∈ts,h.get? b=some (tabObj #[])) (hN:∀(w:World)(h:Heap),YP w h->∀b∈ts,(K w.params).lookup b=none) (F:∀(w:World)(mg:Str->Option Value)(fa:Addr)(h:Heap),(K w.params).In h->h.Ns mainGlobals mg->mg d.name=some (.ref fa)->∃(fd:FuncData)(sp:Sp),(∀b∈ts,∃c,codeHdIn (K w.params) c b=true)/\(∀(s:Shared)(u:Value),BindsTo s fd {[u],[]} [(x,u)])/\(∀base:Heap,Bm mg base->(K w.params).In base->base.Ns mainGlobals mg->bB l.prog w (K w.params) mg base CX k fa fd [x] sp)/\∀(H:Hp)(a:Addr)(ns:List Int),ns.length<=n->xB ts H->iU (K w.params) H a (ns.map V.int)->sp [.ref a] H (λv _=>v=.bl true) λ_ _ _=>False) (YC:∀(H:Hp)(s:Shared)(e:Value)(s':Shared),CX [] H s (λ_ _ _=>False) e s'->False): PySem.W.WalkO q loose XP YP l.row.toRowW d [] (λf vs=>PySem.call f vs):=by refine Att.wX hn W8 λw cR aW mg mb fa o pm cd doc a vs ns G Y ho hd rZ Oj Ol hints hlen hg=>?_;have KX:=hY w _ Y;obtain⟨fd,sp,hC,hb,hF,QD⟩:=F w mg fa _ KX G.T.g Oj;have hT':=hT w _ Y;exact E9 KX G.T.g G.T.b G.T.builtins G.T.nolimit G.T.bmain hg hT' (λb z=>by obtain⟨c,hc⟩:=hC b z;exact((codeHd_of_K KX hc).tab<|hT' b z).isCodeTable) (hN w _ Y) Ol hints (zK hlen NV) hr hF hb (λH hO hS=>QD H a ns hlen hO hS) λH e s'=>YC H aW e s'
namespace Rt
theorem own:Manifest.owners.lookup (String.ofList ['d','e','s','r','e','v','e','r'].reverse)=some Manifest.sig_reversed:=by kernel_rfl
theorem lX:Slot "reversed" "__next__" "reversed.__next__":=.of (owner:="reversed") (n:="__next__") (by rw[typeLookup_type,builtinLookup_eq_fast];kernel_rfl) (by trivial) (by trivial) (by trivial) (by first|exact .inl (by trivial)|exact .inr (by trivial))<|by rw[isSubtype_type];kernel_rfl
theorem C9:entryFor table "reversed.__next__"= some Builtin.«reversed.__next__»:=entryFor_of_tree<|by kernel_rfl
theorem C_(a:Value):argsOk "reversed.__next__" {[a],[]}:=by unfold argsOk;rw[signature?_of (id:="reversed.__next__") (n:=['_','_','t','x','e','n','_','_']) (o:=['d','e','s','r','e','v','e','r']) (by kernel_rfl) own];kernel_rfl
theorem Dc:Slot "reversed" "__iter__" "reversed.__iter__":=.of (owner:="reversed") (n:="__iter__") (by rw[typeLookup_type,builtinLookup_eq_fast];kernel_rfl) (by trivial) (by trivial) (by trivial) (by first|exact .inl (by trivial)|exact .inr (by trivial))<|by rw[isSubtype_type];kernel_rfl
theorem K7(a:Value):argsOk "reversed.__iter__" {[a],[]}:=by unfold argsOk;rw[signature?_of (id:="reversed.__iter__") (n:=['_','_','r','e','t','i','_','_']) (o:=['d','e','s','r','e','v','e','r']) (by kernel_rfl) own];kernel_rfl
theorem K8:entryFor table "reversed.__iter__"= some Builtin.«dict_keyiterator.__iter__»:=entryFor_alias (id':="dict_keyiterator.__iter__") (by kernel_rfl) (by first|rfl|decide +kernel|(unfold String.splitOn;simp +decide [String.splitOnAux])) (by trivial)<|by kernel_rfl
theorem K9:Slot "reversed" "__init__" "object.__init__":=.of (owner:="object") (n:="__init__") (by rw[typeLookup_type,builtinLookup_eq_fast];kernel_rfl) (by trivial) (by trivial) (by trivial) (by first|exact .inl (by trivial)|exact .inr (by trivial))<|by rw[isSubtype_type];kernel_rfl
theorem called:TypeCalled "reversed" "reversed.__new__" "object.__init__":={by trivial,by trivial,{_,_,F.mro_reversed},F.made_reversed,by trivial,by rw[isSubtype_type];kernel_rfl,K9}
theorem Pg:typeLookup (.type "tuple") "__reversed__"= pure none:=by rw[typeLookup_type,builtinLookup_eq_fast];kernel_rfl
theorem Dd:typeLookup (.type "tuple") "__getitem__"= pure (some<|.builtin "tuple.__getitem__"):=by rw[typeLookup_type,builtinLookup_eq_fast];kernel_rfl
theorem K_:isSubtype (.type "tuple") (.type "dict")=pure false:=by rw[isSubtype_type];kernel_rfl
end Rt
noncomputable def xC(l:Addr)(i:Int):Obj:={cls:=.type "reversed",data:=.fields #[.ref l,rawInt i]}
def qJ(h:Heap)(a l:Addr)(i:Int):Prop:=∃o,h.get? a=some o/\o.cls=.type "reversed"/\o.data=.fields #[.ref l,rawInt i]
section
variable{prog:Program}{w:World}{A:Around}{E:Value->Shared->Prop}{s:Shared}
theorem qJ.typeIs(x:qJ s.heap a l i):s.TypeIs (.ref a) "reversed":=by obtain⟨o,ho,hc,_⟩:=x;exact⟨o,ho,hc⟩
theorem qJ.keep(x:qJ h a l i)(e:∀o,h.get? a=some o->h'.get? a=some o):qJ h' a l i:=by obtain⟨o,ho,r⟩:=x;exact{o,e _ ho,r}
theorem Ph(hl:IsTup s.heap l items)(hz:items.size<=sizeLine)(h:Q₁ (.ref s.heap.objs.size) {s with heap:=s.heap.push<|xC l<|(items.size:Int)-1,toks:=s.toks+1+1}): codeAny (model prog w) A (.call (.builtin "reversed.__new__") {[.type "reversed",.ref l],[]}) (wants Q₁ E) s:=by
 refine codeAny_of_tree ?_;show wpAny _ A.in1 (do checkBuiltinCall "reversed.__new__" {[.type "reversed",.ref l],[]};again (.builtin "reversed.__new__" {[.type "reversed",.ref l],[]})) _ _ s;refine zb<|yO (F.newCall_reversed_1 _)<|zu {plainId_quiet F.plain_reversed_new _,yB F.entry_reversed_new ?_};rw[Around.under_plainId F.plain_reversed_new _];unfold Builtin.«reversed.__new__»;refine zb<|yO (newClass_reversed _) ?_;refine zb<|yO (a:=()) (by first|rfl|kernel_rfl)<|zb<|yO (a:=()) (by first|rfl|kernel_rfl) ?_;refine zb<|wpAny_specialOf hl.typeIs Rt.Pg ?_;refine zb<|zb<|wpAny_isInstance hl.typeIs Rt.K_<|zb<|wpAny_specialOf hl.typeIs Rt.Dd ?_;show wpAny _ _ (if (["tuple.__getitem__","str.__getitem__","bytes.__getitem__","bytearray.__getitem__","memoryview.__getitem__","numpy.ndarray.__getitem__","sqlite3.Row.__getitem__"]:List String).contains "tuple.__getitem__"= true then pure true else _) _ _ _;rw[if_pos<|by trivial];refine zu ?_
 show wpAny _ _ (do
     let m9 <-call (Value.builtin "len") [Value.ref l]
     let __x <-asInt? m9
     match __x with
      |some n=>do
       let m9 <-Builtin.SmallTypes.newRecord (Value.type "reversed") [Value.ref l,rawInt (n-1)]
       ret m9
      |x=>unsupported "internal:reversed.__new__") _ _ _
 refine zb<|len_tuple hl (by rw[zZ]at hz;lia) ?_;refine zb<|yO (a:=some ((items.size:Nat):Int)) rfl ?_;exact zb (m:=newObj (.type "reversed")<|.fields #[.ref l,rawInt<|((items.size:Nat):Int)-1])<|yA<|zu h
theorem La(hl:IsTup s.heap l items)(hz:items.size<=sizeLine)(h:Q (.ref s.heap.objs.size) {s with heap:=s.heap.push<|xC l<|(items.size:Int)-1,toks:=s.toks+1+1}): wpAny (model prog w) A (call (.type "reversed") [.ref l]) Q E s:=by refine callType_codes Rt.called (F.typeCall_reversed_1 _) F.entry_object_init (Q₁:=λobj aW=>aW.TypeIs obj "reversed"/\Q obj aW) (Ph hl hz {{_,zj _ rfl,rfl},h}) λobj aW h₁=>?_;exact{h₁.1,F.args_object_init_2 obj _,object_init_meets Rt.called.init.lookup Rt.called.made (by decide) prog w A.in1 _ aW ⟨h₁.1,rfl,h₁.2⟩}
theorem sqx(h:k<n):seqIndex? ((k:Nat):Int) n=some k:=by have e:(if ((k:Nat):Int)<0 then ((k:Nat):Int)+(n:Int) else ((k:Nat):Int))=((k:Nat):Int):=if_neg (by lia);unfold seqIndex?;dsimp only;rw[e,if_pos<|by simp;lia];rfl
theorem Lb{it l:Addr}{i:Nat}{items:Array Value}{x:Value}{Q:Option Value->Shared->Prop}(hit:qJ s.heap it l (i:Int))(hl:IsTup s.heap l items)(hz:items.size<=sizeLine)(hx:items[i]?=some x) (hQ:∀h' tk,qJ h' it l ((i:Int)-1)->Heap.SameBut it s.heap h'->Q (some x) {s with heap:=h',toks:=tk}):wpAny (model prog w) A (pyNext<|.ref it) Q E s:=by obtain⟨o,ho,hc,hd⟩:=id hit;have hi:i<items.size:=(Array.getElem?_eq_some_iff.mp hx).1;unfold pyNext;refine zb<|wpAny_attempt<|wpAny_callSpecial?_slot (name:=Str.ofString "__next__") hit.typeIs Rt.lX<|yF Rt.lX hit.typeIs Rt.C9 ?_<|Rt.C_ _;unfold Builtin.«reversed.__next__»;refine zb<|yO (a:=(Value.ref it,[])) rfl<|zb<|z0 ho hd (x:=.ref l) rfl<|zb<|z0 ho hd (x:=rawInt (i:Int)) rfl ?_;show wpAny _ _ (if (i:Int)<0 then _ else _) _ _ s;rw[if_neg<|by lia];show wpAny _ _ (specialOf (.ref l) "__getitem__" >>=_) _ _ s;refine zb<|wpAny_specialOf hl.typeIs Rt.Dd ?_;show wpAny _ _ (mkInt (i:Int) >>=_) _ _ s;refine zb<|wpAny_mkInt ?_;refine zb<|wpAny_attempt<|getItem_tuple (j:=i) hl (by lia) (by rw[zZ]at hz;lia) (sqx hi) hx ?_;refine zb<|z0 ho hd (x:=rawInt (i:Int)) rfl ?_;show wpAny _ _ (setField (.ref it) 1 (rawInt<|(i:Int)-1) >>=λ_=>ret x) _ _ _;refine zb<|yK ho hd (by simp)<|zu {x,rfl,zu<|hQ _ _ ?_<|yt ..};exact{_,yp _ ho<|Obj.isFreed_of_fields<|yr hd _,(Obj.cls_mapFields ..).trans hc,by rw[yr hd];simp}
theorem Pj(hh:A.handled=none)(hit:qJ s.heap it l (-1))(hQ:∀h',Heap.ExtBut it s.heap h'->Q none {s with heap:=h'}):wpAny (model prog w) A (pyNext<|.ref it) Q E s:=by
 obtain⟨o,ho,hc,hd⟩:=id hit;unfold pyNext;refine zb<|wpAny_attempt<|wpAny_callSpecial?_slot (name:=Str.ofString "__next__") hit.typeIs Rt.lX<|yF Rt.lX hit.typeIs Rt.C9 ?_<|Rt.C_ _;unfold Builtin.«reversed.__next__»;refine zb<|yO (a:=(Value.ref it,[])) rfl<|zb<|z0 ho hd (x:=.ref l) rfl<|zb<|z0 ho hd (x:=rawInt (-1)) rfl ?_;show wpAny _ _ (if (-1:Int)<0 then _ else _) _ _ s;rw[if_pos<|by decide];refine zb<|wpAny_rule ?_;have hd1:=yr hd (·.setIfInBounds 1 (rawInt (-1)));have Pe:=yp (Obj.mapFields (·.setIfInBounds 1 (rawInt (-1)))) ho<|Obj.isFreed_of_fields hd1;refine zb (m:=setField (.ref it) 1 (rawInt (-1)) >>=λ_=>setField (.ref it) 0 .none)<|zb<|yK ho hd (by simp)<|yK Pe hd1 (by simp) ?_;have eb:Heap.ExtBut it s.heap ((s.heap.update it (Obj.mapFields (·.setIfInBounds 1 (rawInt (-1))))).update it (Obj.mapFields (·.setIfInBounds 0 Value.none))):=λb u hb e=>by rw[yk _ _<|Ne.symm hb,yk _ _<|Ne.symm hb];exact e
 refine zb ?_;show wpAny _ _ (newExc (.type "StopIteration") [] >>=_) _ _ _;refine zb ?_;simp only[newExc,newTuple];refine zb<|yA ?_ (by size_fits);refine zb (m:=firstArgMember _ _)<|yO (a:=Value.none) (by first|rfl|(simp only[firstArgMember];rfl)) ?_;refine yA ?_ (by size_fits);simp only[raiseNew];refine zb<|wpAny_handled ?_;first|rw[show A.in1.handled=none from hh]|rw[hh]
 refine zb<|zu<|wpAny_throw ?_;refine zb<|wpAny_isInstance (T:="StopIteration") (b:=true) {_,zj _ rfl,rfl} isSubtype_stop ?_;exact zu<|hQ _<|(eb.push _).push _
theorem Df(hit:qJ s.heap it l i)(h:Q (.ref it) s):wpAny (model prog w) A (pyIter<|.ref it) Q E s:=by refine wpAny_pyIter_slot hit.typeIs Rt.Dc<|yF Rt.Dc hit.typeIs Rt.K8 ?_<|Rt.K7 _;show wpAny _ _ (ret<|.ref it) _ _ s;exact zu {_,rfl,"reversed",_,hit.typeIs,Rt.lX.lookup,h}
end
end L2
namespace L2
open PySem PySem.Spec PyProof.Rows
noncomputable def Up(K:Frag)(a:Addr)(n:Nat):It:={λi H=>∃xs x,iq K H a xs/\xs.length=n/\i<n/\xs[n-1-i]?=some x,λi H x H'=>H'=H/\∀xs,iq K H a xs->xs.length=n->xs[n-1-i]?=some x,λi _=>n<=i}
theorem Le{P:Program}{w:World}{K:Frag}{tg:Expr}(a it:Addr)(n:Nat):Turn P w K tg (Up K a n) [it] it (λi h=>i<=n/\qJ h it a ((n:Int)-1-(i:Int))) where
 mem:=by simp
 obj:=λi h st b hb=>by
  have e:b=it:=by simpa using hb
  subst e
  obtain⟨_,o,e,c,d⟩:=st
  exact{o,e,λv z=>by rw[d]at z;cases z}
 keep:=λi h h' st k=>{st.1,st.2.keep λo e=>k it (by simp) o e}
 item:=by
  intro X hP hw hK hc i pins s σ H E I hf st hg
  subst hP hw hK
  obtain⟨xs,x,hq,hn,hi,hx⟩:=hg
  obtain⟨ay,rv,p,hz⟩:=I.tuple hq
  obtain⟨u,hu,ru⟩:=rv.get hx
  obtain⟨f0,f1,f2,f3,f4,f5⟩:=hf it<|by simp
  have e:(n:Int)-1-(i:Int)=((n-1-i:Nat):Int):=by lia
  have hit:=st.2
  rw[e]at hit
  refine Lb hit p (by rw[zm,<-rv.length];exact hz) (x:=u) (by simpa using hu) λh' tk eO sb=>?_
  have I1:Inv X pins σ H {s with heap:=h',toks:=tk}:=I.turned (t':=tk) (λb o hb e=>(sb.2 b hb).trans e) f0 f1 f3 f4 f5
  obtain⟨o,e1,c,d⟩:=id eO
  refine{u,rfl,tG (s:={s with heap:=h',toks:=tk}) e1 c d (by decide) {x,H,I1,ru,{rfl,λys hy _=>by rw[I.mR hy hq];exact hx},{hi,?_},λb hb=>(hf b hb).1}}
  have e2:(n:Int)-1-((i+1:Nat):Int)=((n-1-i:Nat):Int)-1:=by lia
  rw[e2];exact eO
 done:=by
  intro X hP hw hK hc i pins s σ H E I hf st hg
  subst hP hw hK
  obtain⟨f0,f1,f2,f3,f4,f5⟩:=hf it<|by simp
  have hg:n<=i:=hg
  have e:(n:Int)-1-(i:Int) = -1:=by have:=st.1;lia
  have hit:=st.2
  rw[e]at hit
  exact Pj (I.ok.hd hc) hit λh' eb=>{rfl,I.turned (t':=s.toks) (λb o hb e=>eb b o hb e) f0 f1 f3 f4 f5}
 self:=λ_ _ _ _ _ st h=>Df st.2 h
def iRt(K:Frag)(ta:TA):TI:=λσ H R=>ta σ H λvs H1=>∃a xs,vs=[.ref a]/\iq K H1 a xs/\R (Up K a xs.length) H1
theorem Uq{X:Cx}{tg a:Expr}{ta:TA}{p pos:Pos}(hg:Gl X "reversed")(hm:X.mg "reversed"= none)(ha:PA X [a] ta)(hs:starEach [a] X.env=[(false,eval a X.env)]):PI X tg (.Call (.Name "reversed" p) [a] [] pos) (iRt X.K ta):=by
 intro pins s σ H R I h;refine Call_<|gr I hg hm boot_reversed<|PyProof.Rows.callWith_type1 (bf (ha pos pins s σ H _ I h) λus s1 ⟨vs,H1,I1,r1,q1⟩=>?_) hs rfl;obtain⟨l,xs,e,q,hR⟩:=q1;subst e;obtain⟨u,rfl,ru⟩:=vals1 r1;cases ru;obtain⟨ay,rv,pl,hz⟩:=I1.tuple q;have hn:ay.toArray.size=xs.length:=by rw[zm,rv.length]
 refine La pl (by rw[hn];exact hz) ?_;rw[hn];have st:qJ (s1.heap.push<|xC l<|(xs.length:Int)-1) s1.heap.objs.size l ((xs.length:Int)-1-((0:Nat):Int)):={_,zj _ rfl,rfl,by show Data.fields _=Data.fields _;simp};have I2:Inv X pins σ H1 {s1 with heap:=s1.heap.push<|xC l<|(xs.length:Int)-1,toks:=s1.toks+1+1}:=I1.kept (t':=s1.toks+1+1) λb o e=>za _ e;refine Df (s:={s1 with heap:=s1.heap.push<|xC l<|(xs.length:Int)-1,toks:=s1.toks+1+1}) st {_,_,_,_,H1,rfl,I2,Le l s1.heap.objs.size xs.length,{zU _,st},λb hb=>?_,hR};have hb:b=s1.heap.objs.size:=by simpa using hb
 subst hb;exact I1.o_ (zk _)<|I1.aH.fresh<|zk _
section
variable{K:Frag}{X:Cx}{tg:Expr}
def YE(t:iN):Bi:=λσ S R Z=>t σ S (λds S1=>∃es,ds=[.tup es]/\R {es.reverse,λ_=>True} S1) Z
theorem irt{t:iN}(hm:X.mg "reversed"= none)(ha:DA K X [a] t)(hg:autoParam (Gl X "reversed") qQJ)(hs:autoParam (starEach [a] X.env=[(false,eval a X.env)]) qQJ)(hK:autoParam (X.K=K) qQJ):DI K X tg (.Call (.Name "reversed" p) [a] [] pos) (YE t):=by subst hK;exact⟨λy=>(Uq (X:=y.cx) hg hm (ha.of y) hs).mono <| by rintro τ H R ⟨σ,S,RI,Z,aD,hS,q,hR,hZ⟩;exact{σ,S,_,Z,aD,hS,q,by rintro ds S1 vs H1 ⟨es,e,r1⟩ v1 s1 k1;subst e;obtain⟨v,rfl,r⟩:=v1.one;obtain⟨a,xs,rfl,hq,t⟩:=r.tup;refine{a,xs,rfl,.inl<|.of hq,hR _ S1 _ H1 r1 (λi S2 H2 k2 s2 VR=>?_) s1 k1};have QR:iq X.K H2 a xs:=.inl<|.of<|k2.t _ _ hq;have t2:=RvAll.ts k2 _ t;have hl:xs.length=es.length:=t.len;refine{λd hd=>?_,λh=>by rw[yg]at h;show xs.length<=i;lia};have hi:i<es.length:=(by have:=(ze.mp hd).1;rwa [yg]at this);rw[List.getElem?_reverse hi]at hd;obtain⟨v,e1,r⟩:=t2.get hd;rw[hl];refine{⟨xs,v,QR,hl,hi,e1⟩,λx' H' ⟨e2,e3⟩=>?_};subst e2;have:=e3 xs QR hl;rw[e1]at this;cases this;exact{r,.refl _,s2},hZ}⟩
end
section
variable{K:Frag}{X:Cx}{pos:Pos}
def Pk(tc:kL)(tb:jV):jV:=λDe σ S Z=>∃P:Nat->SD->av->Prop,(∃m,P m σ S)/\∀m σ S,P m σ S->tc σ S (λb S1=>if b=true then tb {De with nx:=λaC S'=>∃m',m'<m/\P m' aC S',ct:=λaC S'=>∃m',m'<m/\P m' aC S',bk:=De.nx} σ S1 Z else De.nx σ S1) (Z σ)
theorem swh(hc:DT K X c tc)(hb:Bd K X true body tb):DS K X true (.While c body [] pos) (Pk tc tb):=
 ⟨λy=>(Gw (X:=y.cx) (y.ok.loop rfl) (hc.of y)<|hb.of y).mono <| by rintro D τ H ⟨σ,S,De,Z,aD,hS,⟨P,⟨m,p0⟩,turn⟩,hD,hZ⟩;exact
  ⟨λm QN H'=>∃σ S,fS K H' σ QN/\Rs K S H'/\P m σ S/\Kp K H H',⟨m,σ,S,aD,hS,p0,.refl _⟩,by rintro m VO H1 ⟨uF,S1,a1,s1,p1,k1⟩;exact⟨uF,S1,_,Z uF,a1,s1,turn m uF S1 p1,λb S2 H2 r2 s2 k2=>by
   cases b with
   |true =>
    rw[if_pos rfl]at r2⊢
    refine{λτ3 H3=>∃σ S,fS K H3 σ τ3/\Rs K S H3/\(∃m',m'<m/\P m' σ S)/\Kp K H H3,by rintro τ3 H3 ⟨iK,S3,a3,s3,⟨m',hm,p3⟩,k3⟩;exact⟨m',hm,iK,S3,a3,s3,p3,k3⟩,?_}
    have kk:=k1.trans k2
    exact{uF,S2,_,Z,a1.ts k2,s2,r2,{λO0 S5 Yg H5 r5 a5 s5 k5=>{O0,S5,a5,s5,r5,kk.trans k5},hD.rt.kp kk,hD.nx.kp kk,λO0 S5 Yg H5 r5 a5 s5 k5=>{O0,S5,a5,s5,r5,kk.trans k5}},hZ.kp kk}
   |false =>
    rw[if_neg zd]at r2⊢
    exact hD.nx _ _ _ _ r2 (a1.ts k2) s2<|k1.trans k2,(hZ.kp k1).at a1⟩⟩⟩
def YF(i:Nat)(te:TD):jV:=λDe σ S Z=>∃a:Int,σ[i]?=some (some<|.int a)/\te σ S (λd S1=>∃b:Int,d=.int b/\De.nx (σ.set i<|some<|.int<|a+b) S1) (Z σ)
theorem sau(hN:X.N.Nodup)(he:DE K X e te)(hi:autoParam (X.N[i]?=some x) qQJ)(hx:autoParam (Loc X.env.scope x) qQ8)(hf:autoParam (X.fn x=true\/X.env.scope.names.lookup x=some .local) qQ8): DS K X b (.AugAssign (.Name x pos') .Add e pos) (YF i te):=⟨λy=>(NH (X:=y.cx) hN hi hx (he.of y) NI hf).mono <| by rintro D τ H ⟨σ,S,De,Z,aD,hS,⟨a,ha,t⟩,hD,hZ⟩;obtain⟨v,e1,r⟩:=aD.get ha;exact{v,e1,σ,S,_,Z σ,aD,hS,t,by rintro d S1 u H1 ⟨c,e2,n⟩ rv s1 k1;subst e2;exact{a,c,r.int,rv.int,hD.nx _ _ _ _ n ((aD.ts k1).set i<|aL _) s1 k1},hZ.at aD}⟩
noncomputable def vD:V->D|.int i=>.int i|.str z=>.str z|.bl b=>.bl b|_=>.ax
noncomputable def HV:V->Bool|.int _=>true|.str _=>true|_=>false
def Ur(kvs:List<|Str×V)(ty:TD):TD:=λσ S R Z=>ty σ S (λy S1=>∃z,y=.str z/\R ((kvs.lookup z).elim .ax vD) S1) Z
theorem mgk{w:World}{ad:Addr}{kvs:List<|Str×V}{o e:Expr}{apos aN:Pos}{ty:TD}(d:JB w K ad kvs)(hf:(kvs.all λp=>HV p.2)=true)(ho:∀Y:Cx,Y.env=X.env->Y.mg=X.mg->PE Y o (tC<|.ref ad))(he:DE K X e ty)(hw:autoParam (X.w=w) qQJ)(hK:autoParam (X.K=K) qQJ)(m:autoParam (M1 X o "get" apos e aN) qQ4): DE K X (.Call (.Attribute o "get" apos) [e] [] aN) (Ur kvs ty):=⟨λy=>(He (X:=y.cx) hw hK (ho y.cx rfl rfl) (he.of y) ⟨m.base,m.FX,m.line,m.trees⟩).mono <| by rintro τ H Q ⟨σ,S,R,Z,aD,hS,q,hR,hZ⟩;exact⟨ad,kvs,rfl,d,σ,S,_,Z,aD,hS,q,by
 rintro yv S1 v H1 ⟨z,e1,r⟩ rv s1 k1;subst e1;refine{z,rv.str,hR _ _ _ _ r ?_ s1 k1};have fl:∀v,kvs.lookup z=some v->HV v=true:=λv hv=>by have:=yf hv;exact yh.mp hf _ this
 cases q:kvs.lookup z with|none=>exact i6|some v=>have:=fl v q;cases v with|int i=>exact aL i|str i=>exact i7 i|_=>(cases this),hZ⟩⟩
end
theorem gK(hm:X.mg x=some (.ref a))(hg:autoParam (Gl X x) qQJ)(hd:autoParam ((x==("__debug__": Str))=false) qQZ):∀Y:Cx,Y.env=X.env->Y.mg=X.mg->PE Y (.Name x pos) (tC<|.ref a):=λY e1 e2=>Cv (X:=Y) (u:=.ref a) (show Y.env.kindOf x=_ by rw[e1];exact hg) (by rw[e2];exact hm) rfl hd
structure Fb(K:Frag)(x q:Str)(st:Stmt)(ps:List Str)(f:Addr)(d:FuncData):Prop where
 F:u3 K x q st f d
 b:Binds K d ps []
structure Bo(K:Frag)(mg:Str->Option Value)(x:Str)(st:Stmt)(ps:List Str)(f:Addr)(d:FuncData):Prop extends Fb K x x st ps f d where
 k:keepIn K (.ref f)=true
 m:mg x=some (.ref f)
structure MV(K:Frag)(c:Addr)(x q:Str)(st:Stmt)(ps:List Str)(f:Addr)(d:FuncData):Prop extends Fb K x q st ps f d where
 e:Meth K c x f
abbrev Ok(P:Program)(w:World)(base:Heap){K:Frag}{mg:Str->Option Value}{x:Str}{st:Stmt}{ps:List Str}{f:Addr}{d:FuncData}(_:Bo K mg x st ps f d)(k:Nat)(sp:iV):Prop:=bB P w K mg base (fb P w mg) k f d ps<|pq K sp
abbrev Af(P:Program)(w:World)(mg:Str->Option Value)(base:Heap){K:Frag}{c:Addr}{x q:Str}{st:Stmt}{ps:List Str}{f:Addr}{d:FuncData}(_:MV K c x q st ps f d)(k:Nat)(sp:iV):Prop:=bB P w K mg base (fb P w mg) k f d ps<|pq K sp
theorem fsc{N P:List Str}{sc:Scope}(a:autoParam (sc.kind=.function/\sc.isCoroutine=false/\sc.isGenerator=false/\N.take P.length=P) qQ4)(b:autoParam (N.Nodup/\(∀x∈P,sc.names.lookup x=some .local\/sc.names.lookup x=some .cell)/\∀y∈sc.names,y.2≠.free) qJ3):fT N P sc:=⟨a.1,a.2.1,a.2.2.1,b.1,a.2.2.2,b.2.1,b.2.2⟩
section
variable{R:Prop}{K:Frag}{h:Heap}{mg:Str->Option Value}{od an:Option Addr}{sl:Array (Option Value)}{oc dV kV dc pm cd ct:Value}{f da:Addr}{Lg:Option Addr}{dn:Nat}{Lh:Array (Option Value)}{c:Addr}{tk:Tok}{d:FuncData}
theorem fn1(X:K.In h)(G:h.Ns mainGlobals mg)(x:Str)(st:Stmt)(ps:List Str)(a:nsIn K mainGlobals x=some (some<|.ref f))(l:K.lookup f=some {oc,od,.func<|fnOf x x (aX st) (aU st) (ae st) dV kV dc pm an cd ct,sl}) (e:codeIn K cd x=true) (k:keepIn K (.ref f)=true) (b:∀us:List Value,us.length=ps.length->bindArgs (fnOf x x (aX st) (aU st) (ae st) dV kV dc pm an cd ct) {us,[]}=pure (ps.zip us)) (g:∀d,Bo K mg x st ps f d->R):R:=g _ {{{_,_,_,_,_,_,_,_,_,_,rfl,l,e},.all b},k,mg_of X G a}
theorem YG(X:K.In h)(G:h.Ns mainGlobals mg)(x:Str)(st:Stmt)(ps:List Str)(a:nsIn K mainGlobals x=some (some<|.ref f))(l:K.lookup f=some {oc,od,.func<|fnOf x x (aX st) (aU st) (ae st) dV kV dc pm an cd ct,sl}) (e:codeIn K cd x=true) (k:keepIn K (.ref f)=true) (b:∀us:List Value,us.length=ps.length->bindArgs (fnOf x x (aX st) (aU st) (ae st) dV kV dc pm an cd ct) {us,[]}=pure (ps.zip us)) (g:∀d,d.code=cd->(∀(s:Shared)(us:List Value),us.length=ps.length->BindsTo s d {us,[]} (ps.zip us))->Bo K mg x st ps f d->R):R:=g _ rfl (λs us h=>.of_eq<|b us h) {{{_,_,_,_,_,_,_,_,_,_,rfl,l,e},.all b},k,mg_of X G a}
theorem fm1(C:qd K c)(x q:Str)(st:Stmt)(ps:List Str)(a:findIn K (.ref c) x=some (some<|.ref f))(i:isFn K (.ref f)=true)(l:K.lookup f=some {oc,od,.func<|fnOf x q (aX st) (aU st) (ae st) dV kV dc pm an cd ct,sl}) (e:codeIn K cd q=true) (k:keepIn K (.ref f)=true) (b:∀us:List Value,us.length=ps.length->bindArgs (fnOf x q (aX st) (aU st) (ae st) dV kV dc pm an cd ct) {us,[]}=pure (ps.zip us)) (g:∀d,MV K c x q st ps f d->R):R:=g _ {{{_,_,_,_,_,_,_,_,_,_,rfl,l,e},.all b},a,i,k}
theorem fnd(X:K.In h)(G:h.Ns mainGlobals mg)(x:Str)(st:Stmt)(ps:List Str)(a:nsIn K mainGlobals x=some (some<|.ref f))(l:K.lookup f=some {oc,od,.func<|fnOf x x (aX st) (aU st) (ae st) (.ref da) kV dc pm an cd ct,sl}) (t:K.lookup da=some {.type "tuple",Lg,.seq #[.none] dn,Lh}) (e:codeIn K cd x=true) (k:keepIn K (.ref f)=true) (b:∀(s:Shared) (us:List Value),s.heap.get? da=some {.type "tuple",Lg,.seq #[.none] dn,Lh}->us.length=ps.length->BindsTo s (fnOf x x (aX st) (aU st) (ae st) (.ref da) kV dc pm an cd ct) {us,[]} (ps.zip us)) (b2:∀(s:Shared) (us:List Value),s.heap.get? da=some {.type "tuple",Lg,.seq #[.none] dn,Lh}->us.length+1=ps.length->BindsTo s (fnOf x x (aX st) (aU st) (ae st) (.ref da) kV dc pm an cd ct) {us,[]} (ps.zip<|us++[.none])) (g:∀d,Bo K mg x st ps f d->Binds K d ps [.none]->R):R:=g _ {{{_,_,_,_,_,_,_,_,_,_,rfl,l,e},λs us hK hl=>by rw[List.append_nil]at hl⊢;exact b s us (hK _ _ t) hl},k,mg_of X G a} λs us hK hl=>b2 s us (hK _ _ t)<|by simpa using hl
theorem fmd(C:qd K c)(x q:Str)(st:Stmt)(ps:List Str)(a:findIn K (.ref c) x=some (some<|.ref f))(i:isFn K (.ref f)=true)(l:K.lookup f=some {oc,od,.func<|fnOf x q (aX st) (aU st) (ae st) (.ref da) kV dc pm an cd ct,sl}) (t:K.lookup da=some {.type "tuple",Lg,.seq #[.none] dn,Lh}) (e:codeIn K cd q=true) (k:keepIn K (.ref f)=true) (b:∀(s:Shared) (us:List Value),s.heap.get? da=some {.type "tuple",Lg,.seq #[.none] dn,Lh}->us.length=ps.length->BindsTo s (fnOf x q (aX st) (aU st) (ae st) (.ref da) kV dc pm an cd ct) {us,[]} (ps.zip us)) (b2:∀(s:Shared) (us:List Value),s.heap.get? da=some {.type "tuple",Lg,.seq #[.none] dn,Lh}->us.length+1=ps.length->BindsTo s (fnOf x q (aX st) (aU st) (ae st) (.ref da) kV dc pm an cd ct) {us,[]} (ps.zip<|us++[.none])) (g:∀d,MV K c x q st ps f d->Binds K d ps [.none]->R):R:=g _ {{{_,_,_,_,_,_,_,_,_,_,rfl,l,e},λs us hK hl=>by rw[List.append_nil]at hl⊢;exact b s us (hK _ _ t) hl},a,i,k} λs us hK hl=>b2 s us (hK _ _ t)<|by simpa using hl
theorem xD(X:K.In h)(G:h.Ns mainGlobals mg)(x:Str)(a:nsIn K mainGlobals x=some none)(g:mg x=none->R):R:=g<|PySem.W.mg_none_of X G a
theorem Li(X:K.In h)(G:h.Ns mainGlobals mg)(x:Str)(i:Int)(a:nsIn K mainGlobals x=some (some<|.int i tk))(g:mg x=some (.int i tk)->R):R:=g<|mg_of X G a
theorem Us(X:K.In h)(G:h.Ns mainGlobals mg)(x:Str)(a:nsIn K mainGlobals x=some (some<|.ref c))(l:K.lookup c=some o)(g:mg x=some (.ref c)->K.lookup c=some o->R):R:=g (mg_of X G a) l
theorem JF(X:K.In h)(G:h.Ns mainGlobals mg)(x:Str)(a:nsIn K mainGlobals x=some (some<|.ref c))(e:excIn K c L2.lS "ValueError.__new__"= true)(g:mg x=some (.ref c)->excIn K c L2.lS "ValueError.__new__"= true->R):R:=g (mg_of X G a) e
theorem gvc(X:K.In h)(G:h.Ns mainGlobals mg)(x:Str)(a:nsIn K mainGlobals x=some (some<|.ref c))(pg:plainGet K c Str.empty=true)(hd:hasDictIn K c=true)(po:plainOver K c=true)(sa:findIn K (.ref c) "__setattr__"= some (some<|.builtin "object.__setattr__"))(ms:makesIn K c=true)(kc:keepIn K (.ref c)=true) (g:mg x=some (.ref c)->qd K c->makesIn K c=true->keepIn K (.ref c)=true->R):R:=g (mg_of X G a) ⟨pg,hd,po,sa⟩ ms kc
theorem YH(C:qd K c)(x:Str)(a:findIn K (.ref c) x=some none)(g:findIn K (.ref c) x=some none->R):R:=g a
theorem Pl{P:Addr}(l:K.lookup c=some o)(e:codeHdIn [(c,o)] c P=true):codeHdIn K c P=true:=by unfold codeHdIn at e⊢;rw[l];rw[show([(c,o)]:Frag).lookup c=some o by simp]at e;exact e
theorem gvm{P:Addr}(X:K.In h)(e:d.code=.ref c)(o:K.lookup c=some {oC,od,.fields vC,sl})(q:vC[11]?=some (.ref P))(hh:codeHdIn [(c,{oC,od,.fields vC,sl})] c P=true)(g:codeHdIn K c P=true->R):R:=g<|Pl o hh
end
section
variable{Q:List Value->Prop}
theorem YI(h:Q [])(us:List Value)(e:us.length=0):Q us:=by cases us with|nil=>exact h|cons a us=>cases e
theorem Fc(h:∀a us,us.length=n->Q (a::us))(us:List Value)(e:us.length=n+1):Q us:=by cases us with|nil=>(cases e)|cons a us=>exact h a us<|Nat.succ.inj e
theorem Ut(h:∀a,Q [a]):∀us:List Value,us.length=1->Q us:=Fc λa=>YI<|h a
theorem ln2(h:∀a b,Q [a,b]):∀us:List Value,us.length=2->Q us:=Fc λa=>Ut<|h a
theorem Pm(h:∀a b c,Q [a,b,c]):∀us:List Value,us.length=3->Q us:=Fc λa=>ln2<|h a
theorem V9(h:∀a b c d,Q [a,b,c,d]):∀us:List Value,us.length=4->Q us:=Fc λa=>Pm<|h a
theorem YJ(h:∀a b c d e,Q [a,b,c,d,e]):∀us:List Value,us.length=5->Q us:=Fc λa=>V9<|h a
theorem Uu(h:∀a b c d e f,Q [a,b,c,d,e,f]):∀us:List Value,us.length=6->Q us:=Fc λa=>YJ<|h a
theorem YK(h:∀a,Q [a])(us:List Value)(e:us.length+1=2):Q us:=Ut h us<|Nat.succ.inj e
theorem Uv(h:∀a b,Q [a,b])(us:List Value)(e:us.length+1=3):Q us:=ln2 h us<|Nat.succ.inj e
theorem YL(h:∀a b c,Q [a,b,c])(us:List Value)(e:us.length+1=4):Q us:=Pm h us<|Nat.succ.inj e
end
section
variable{R:Prop}{K:Frag}{h:Heap}{mg:Str->Option Value}{X Y:Str}{c d:Addr}
theorem gkk(_:K.In h)(_:mg X=some (.ref c))(_:mg Y=some (.ref d))(b:Bool)(e:kitOne K (.ref c) (.ref d)=some b)(g:kitOne K (.ref c) (.ref d)=some b->R):R:=g e
theorem gmk(_:K.In h)(_:mg X=some (.ref c))(_:mg Y=some (.ref d))(e:mroIn K c (.ref d)=some true)(g:mroIn K c (.ref d)=some true->R):R:=g e
theorem gxa(_:K.In h)(_:mg X=some (.ref c))(e1:findIn K (.ref c) "__getattribute__"= some (some<|.builtin "BaseException.__getattribute__"))(e2:findIn K (.ref c) "__getattr__"= some none)(e3:findIn K (.ref c) "__class__"= some (some<|.builtin "object.__class__"))(g:XA K c->R):R:=g ⟨e1,e2,e3⟩
end
section
variable{K:Frag}{X:Cx}{x:Str}{st:Stmt}{ps:List Str}{f:Addr}{fd:FuncData}{sp:iV}{e:Expr}{es:List Expr}{p pos:Pos}
theorem aG{t:iN}(T:Bo K X.mg x st ps f fd)(F:bB X.prog X.w K X.mg X.base (fb X.prog X.w X.mg) k f fd ps<|pq K sp)(hr:bM k' X.A)(ha:DA K X (e::es) t)(hle:autoParam (k<=k') qJX) (hg:autoParam (Gl X x) qQJ) (kK:autoParam ((x==("__debug__": Str))=false) qQZ) (he:autoParam (starEach (e::es) X.env=(false,eval e X.env)::starEach es X.env) qQJ) (du:autoParam ((backTo pos<|starEach es X.env).any (·.1)=false) qQJ) (hK:autoParam (X.K=K) qQJ): DE K X (.Call (.Name x p) (e::es) [] pos) (MH sp [] t):=cf (F.mono hle) hr T.m T.k T.b d0 ha hg kK he du hK
end
theorem bM.u(r:bM k A):A.units+64<cLine:=r.units
end L2
namespace L2
open PySem PySem.Spec PyProof.Rows PySem.SeqAt
def isStrOf(z:Str):Value->Bool|.str y _=>y==z|_=>false
end L2
namespace L2
open PySem PySem.Spec PyProof.Rows
section
variable{K:Frag}
theorem RvAll.thr(h:RvAll K H [a,b,c] vs):∃x y z,vs=[x,y,z]/\Rv K H a x/\Rv K H b y/\Rv K H c z:=by obtain⟨x,vs1,rfl,h1,h⟩:=h.cons;obtain⟨y,vs2,rfl,h2,h⟩:=h.cons;obtain⟨z,vs3,rfl,h3,h⟩:=h.cons;rw[h.nil];exact⟨x,y,z,rfl,h1,h2,h3⟩
theorem Pn:bootBuiltins "max"= some (.builtin "max"):=by with_unfolding_all rfl
noncomputable def jb:List D->List D->List D->List D|x::xs,y::ys,z::zs=>.tup [x,y,z]::jb xs ys zs|_,_,_=>[]
theorem m_:∀{xs ys zs:List D},xs.length=ys.length->xs.length=zs.length->(jb xs ys zs).length=xs.length|[],_,_,_,_=>by rw[jb.eq_def]|x::xs,y::ys,z::zs,h,k=>congrArg Nat.succ<|m_ (Nat.succ.inj h)<|Nat.succ.inj k
theorem ng:∀{xs ys zs:List D}{i:Nat}{d:D},(jb xs ys zs)[i]?=some d->∃x y z,xs[i]?=some x/\ys[i]?=some y/\zs[i]?=some z/\d=.tup [x,y,z]|x::xs,y::ys,z::zs,0,d,h=>{x,y,z,rfl,rfl,rfl,(zP h).symm}|x::xs,y::ys,z::zs,i+1,d,h=>ng (i:=i) h|[],_,_,i,d,h=>by rw[jb.eq_def]at h;simp at h|_::_,[],_,i,d,h=>by rw[jb.eq_def]at h;simp at h|_::_,_::_,[],i,d,h=>by rw[jb.eq_def]at h;simp at h
def Po(t:iN):Bi:=λσ S R Z=>t σ S (λds S1=>∃xs ys zs,ds=[.tup xs,.tup ys,.tup zs]/\xs.length=ys.length/\xs.length=zs.length/\R {jb xs ys zs,λ_=>True} S1) Z
end
section
variable{R:Prop}{K:Frag}{h:Heap}{mg:Str->Option Value}{od an:Option Addr}{sl:Array (Option Value)}{oc kV dc pm cd ct:Value}{f da:Addr}{Lg:Option Addr}{dn:Nat}{Lh:Array (Option Value)}
theorem YM(X:K.In h)(G:h.Ns mainGlobals mg)(x:Str)(st:Stmt)(ps:List Str)(ar:Array Value)(a:nsIn K mainGlobals x=some (some<|.ref f))(l:K.lookup f=some {oc,od,.func<|fnOf x x (aX st) (aU st) (ae st) (.ref da) kV dc pm an cd ct,sl}) (t:K.lookup da=some {.type "tuple",Lg,.seq ar dn,Lh}) (e:codeIn K cd x=true) (k:keepIn K (.ref f)=true) (b:∀(s:Shared) (us:List Value),s.heap.get? da=some {.type "tuple",Lg,.seq ar dn,Lh}->us.length=ps.length->BindsTo s (fnOf x x (aX st) (aU st) (ae st) (.ref da) kV dc pm an cd ct) {us,[]} (ps.zip us)) (g:∀d,Bo K mg x st ps f d->R):R:=g _ {{{_,_,_,_,_,_,_,_,_,_,rfl,l,e},λs us hK hl=>by rw[List.append_nil]at hl⊢;exact b s us (hK _ _ t) hl},k,mg_of X G a}
end
mutual
inductive Dr (S:av):D->PyData->Prop where
 |ax:Dr S .ax .none
 |bl (b:Bool):Dr S (.bl b) (.bool b)
 |int (i:Int):Dr S (.int i) (.int i)
 |str (z:Str):Dr S (.str z) (.str z)
 |tup {ds:List D}{ps:List PyData} : Gf S ds ps->Dr S (.tup ds) (.tuple ps)
 |ref {a:Addr}{ds:List D}{ps:List PyData} : S a=some (.lst ds)->Gf S ds ps->Dr S (.ref a) (.list ps)
inductive Gf (S:av):List D->List PyData->Prop where
 |nil:Gf S [] []
 |cons {d:D}{ds:List D}{p:PyData}{ps:List PyData} : Dr S d p->Gf S ds ps->Gf S (d::ds) (p::ps)
end
section
variable{K:Frag}{H:Hp}{S:av}
mutual
theorem Dr.dt(hS:Rs K S H):Dr S d p->Rv K H d v->Dt K H p v|.ax,r=>by simp only[Dt];exact r.ax|.bl b,r=>by simp only[Dt];exact r.bl|.int b,r=>by simp only[Dt];exact r.int|.str b,r=>by simp only[Dt];exact r.str|.tup h,r=>(by obtain⟨a,xs,rfl,q,t⟩:=r.tup;simp only[Dt];exact{a,xs,rfl,.of q,Gf.dt hS h t})|.ref e h,r=>by obtain⟨xs,e1,t⟩:=hS.lst e;rw[r.ref];simp only[Dt];exact{_,xs,rfl,.of e1,Gf.dt hS h t}
theorem Gf.dt(hS:Rs K S H){ds:List D}{ps:List PyData}{vs:List V} : Gf S ds ps->RvAll K H ds vs->DtAll K H ps vs|.nil,r=>by rw[r.nil];simp only[DtAll]|.cons h t,r=>by obtain⟨y,ys,rfl,r1,r2⟩:=r.cons;simp only[DtAll];exact{y,ys,rfl,Dr.dt hS h r1,Gf.dt hS t r2}
end
end
def Uw(neg:Bool):uW:=λx y S R=>∃p q,Dr S x p/\Dr S y q/\p.canLay0=true/\q.canLay0=true/\(p.depth<=64\/q.depth<=64)/\R (.bl<|if neg then !PyData.eqv p q else PyData.eqv p q) S
section
variable{K:Frag}
theorem HW:pj K (compareOp .Eq) (Uw false):=by rintro X hK hu pins s σ H x y v u Q I rx ry ⟨d,e,S,R,r1,r2,hS,⟨p,q,h1,h2,c1,c2,dp,h⟩,hR⟩;subst hK;exact G5 hu pins s σ H x y v u Q I rx ry {p,q,h1.dt hS r1,h2.dt hS r2,c1,c2,dp,hR.now hS h<|bC _}
theorem Ux:pj K (compareOp .NotEq) (Uw true):=by rintro X hK hu pins s σ H x y v u Q I rx ry ⟨d,e,S,R,r1,r2,hS,⟨p,q,h1,h2,c1,c2,dp,h⟩,hR⟩;subst hK;exact G6 hu pins s σ H x y v u Q I rx ry {p,q,h1.dt hS r1,h2.dt hS r2,c1,c2,dp,hR.now hS h<|bC _}
end
theorem HX(h1:Dr S x p)(h2:Dr S y p)(c:p.canLay0=true)(d:p.depth<=64)(q:R (.bl<|!neg) S):Uw neg x y S R:={p,p,h1,h2,c,c,.inl d,by rw[show(if neg then !PyData.eqv p p else PyData.eqv p p)=!neg by rw[SeqAt.eqv_refl p c];cases neg<;>rfl];exact q}
def kN:Stmt->Str|.FunctionDef n _ _ _ _ _ _ _ _ _=>n|_=>Str.empty
def sN(s:Stmt):List Str:=(aX s).args.map λa=>a.arg
def Fd(K:Frag)(mg:Str->Option Value)(top:Nat->Stmt)(f:Nat->Addr)(d:Nat->FuncData)(l:List Nat):Prop:=∀i∈l,Bo K mg (kN<|top i) (top i) (sN<|top i) (f i)<|d i
def Fe(K:Frag)(c:Addr)(q:Str)(cl:Stmt)(f:Nat->Addr)(d:Nat->FuncData)(l:List Nat):Prop:=∀i∈l,MV K c (kN<|inClass cl i) (q++kN (inClass cl i)) (inClass cl i) (sN<|inClass cl i) (f i)<|d i
section
variable{K:Frag}{h:Heap}{mg:Str->Option Value}{od an:Option Addr}{sl:Array (Option Value)}{oc dV kV dc pm cd ct:Value}{x:Addr}{top:Nat->Stmt}{l:List Nat}{c:Addr}{q:Str}{cl:Stmt}
theorem af(X:K.In h)(G:h.Ns mainGlobals mg)(i:Nat)(ni:i∉l)(a:nsIn K mainGlobals (kN<|top i)=some (some<|.ref x))(o:K.lookup x=some {oc,od,.func<|fnOf (kN<|top i) (kN<|top i) (aX<|top i) (aU<|top i) (ae<|top i) dV kV dc pm an cd ct,sl}) (e:codeIn K cd (kN<|top i)=true) (k:keepIn K (.ref x)=true) (b:∀us:List Value,us.length=(sN<|top i).length->bindArgs (fnOf (kN<|top i) (kN<|top i) (aX<|top i) (aU<|top i) (ae<|top i) dV kV dc pm an cd ct) {us,[]}=pure ((sN<|top i).zip us)) (g:∃f d,Fd K mg top f d l):∃f d,Fd K mg top f d (i::l):=by refine fn1 X G _ _ _ a o e k b λd0 F=>?_;obtain⟨f,d,A⟩:=g;refine{λj=>if j=i then x else f j,λj=>if j=i then d0 else d j,λj hj=>?_};by_cases z:j=i;subst z;dsimp only;rw[if_pos rfl,if_pos rfl];exact F;dsimp only;rw[if_neg z,if_neg z];exact A j<|(zf.mp hj).resolve_left z
theorem af0:∃f d,Fd K mg top f d []:={λ_=>0,λ_=>fnOf Str.empty Str.empty (aX<|.Pass {0,0,0,0}) [] (ae<|.Pass {0,0,0,0}) .none .none .none .none none .none .none,λ_ h=>nomatch h}
theorem afx{R:Prop}(_:K.In h)(_:h.Ns mainGlobals mg)(g:∃f d,Fd K mg top f d l)(r:∀f d,Fd K mg top f d l->R):R:=by obtain⟨f,d,A⟩:=g;exact r f d A
theorem amx{R:Prop}(_:qd K c)(g:∃f d,Fe K c q cl f d l)(r:∀f d,Fe K c q cl f d l->R):R:=by obtain⟨f,d,A⟩:=g;exact r f d A
theorem am(C:qd K c)(i:Nat)(ni:i∉l)(a:findIn K (.ref c) (kN<|inClass cl i)=some (some<|.ref x))(w:isFn K (.ref x)=true)(o:K.lookup x=some {oc,od,.func<|fnOf (kN<|inClass cl i) (q++kN (inClass cl i)) (aX<|inClass cl i) (aU<|inClass cl i) (ae<|inClass cl i) dV kV dc pm an cd ct,sl}) (e:codeIn K cd (q++kN (inClass cl i))=true) (k:keepIn K (.ref x)=true) (b:∀us:List Value,us.length=(sN<|inClass cl i).length->bindArgs (fnOf (kN<|inClass cl i) (q++kN (inClass cl i)) (aX<|inClass cl i) (aU<|inClass cl i) (ae<|inClass cl i) dV kV dc pm an cd ct) {us,[]}=pure ((sN<|inClass cl i).zip us)) (g:∃f d,Fe K c q cl f d l):∃f d,Fe K c q cl f d (i::l):=by refine fm1 C _ _ _ _ a w o e k b λd0 F=>?_;obtain⟨f,d,A⟩:=g;refine{λj=>if j=i then x else f j,λj=>if j=i then d0 else d j,λj hj=>?_};by_cases z:j=i;subst z;dsimp only;rw[if_pos rfl,if_pos rfl];exact F;dsimp only;rw[if_neg z,if_neg z];exact A j<|(zf.mp hj).resolve_left z
theorem am0:∃f d,Fe K c q cl f d []:={λ_=>0,λ_=>fnOf Str.empty Str.empty (aX<|.Pass {0,0,0,0}) [] (ae<|.Pass {0,0,0,0}) .none .none .none .none none .none .none,λ_ h=>nomatch h}
end
section
variable{K:Frag}{X:Cx}{x q:Str}{st:Stmt}{ps:List Str}{C f:Addr}{fd:FuncData}{sp:iV}{o e:Expr}{es:List Expr}{apos pos:Pos}{k k':Nat}
theorem wH{t:iN}(he:DE K X o ta)(c:qd K C)(T:MV K C x q st ps f fd)(F:bB X.prog X.w K X.mg X.base (fb X.prog X.w X.mg) k f fd ps<|pq K sp)(hr:bM k' X.A)(ha:DA K X (e::es) t)(hle:autoParam (k<=k') qJX)
  (og:autoParam (starEach (e::es) X.env=(false,eval e X.env)::starEach es X.env) qQJ) (du:autoParam ((backTo pos<|starEach es X.env).any (·.1)=false) qQJ)
  (ht:autoParam (eval (.Call (.Attribute o x apos) (e::es) [] pos) X.env=(do
   let ov <-eval o X.env
   standAt apos.atName
   let (f,first) <-holding [ov] (getMethod ov x pl)
   callWith pos f first (backTo pos<|starEach (e::es) X.env) (backToKw pos<|keywordEach [] X.env))) qQJ) (hK:autoParam (X.K=K) qQJ):
  DE K X (.Call (.Attribute o x apos) (e::es) [] pos) (CT C x sp [] ta t):=X5 he c T.e (F.mono hle) hr T.b d0 ha og du ht hK
theorem iQ(he:DE K X o ta)(c:qd K C)(T:MV K C x q st ps f fd)(F:bB X.prog X.w K X.mg X.base (fb X.prog X.w X.mg) k f fd ps<|pq K sp)(hr:bM k' X.A)(hle:autoParam (k<=k') qJX)
  (ht:autoParam (eval (.Call (.Attribute o x apos) [] [] pos) X.env=(do
   let ov <-eval o X.env
   standAt apos.atName
   let (f,first) <-holding [ov] (getMethod ov x pl)
   callWith pos f first (backTo pos<|starEach [] X.env) (backToKw pos<|keywordEach [] X.env))) qQJ) (hK:autoParam (X.K=K) qQJ):
  DE K X (.Call (.Attribute o x apos) [] [] pos) (CT C x sp [] ta KQ):=Tu he c T.e (F.mono hle) hr T.b d0 ht hK
end
section
variable{K:Frag}{X:Cx}
def Uy:D->Option Int->Option Int->av->KD->Prop:=λx lo hi S R=>match x with|.ref a=>∃ds,S a=some (.lst ds)/\∀p,S p=none->R (.ref p) (S.set p<|.lst<|bQ ds lo hi)|.iM ds=>∀p,S p=none->R (.ref p) (S.set p<|.lst<|bQ ds lo hi)|_=>False
theorem Uz(hK:X.K=K):WU X (λx lo hi H Q=>∃d S R,Rv K H d x/\Rs K S H/\Uy d lo hi S R/\Cn K H R Q):=by rintro pins s σ H x v vl vu lo hi sl Q I rx hs pl pu ⟨d,S,R,r1,hS,h,hR⟩;subst hK;cases d with|ref a=>(obtain⟨ds,e,h⟩:=h;obtain⟨xs,e1,t⟩:=hS.lst e;exact CI pins s σ H _ v vl vu lo hi sl Q I rx hs pl pu {a,xs,r1.ref,.of e1,λp hp=>hR.new hS hp (h p)<|t.cut lo hi})|iM ds=>(obtain⟨a,xs,rfl,q,t⟩:=r1.iM;exact CI pins s σ H _ v vl vu lo hi sl Q I rx hs pl pu {a,xs,rfl,q.sq,λp hp=>hR.new hS hp (h p)<|t.cut lo hi})|_=>exact h.elim
def YN(te:TD)(tl th:QP):TD:=λσ S R Z=>te σ S (λx S1=>tl σ S1 (λl S2=>th σ S2 (λu S3=>Uy x l u S3 R) Z) Z) Z
theorem UA{e:Expr}{lo hi:Option Expr}{te:TD}{tl th:QP}{p2 pos:Pos}(he:DE K X e te)(hl:DO K X lo tl)(hu:DO K X hi th)(hK:autoParam (X.K=K) qQJ):DE K X (.Subscript e (.Slice lo hi none p2) pos) (YN te tl th):=
 ⟨λy=>(GI (X:=y.cx) (Uz hK) (he.of y) (hl.of y)<|hu.of y).mono <| by rintro τ H Q ⟨σ,S,R,Z,aD,hS,q,hR,hZ⟩;exact
  ⟨σ,S,_,Z,aD,hS,q,λd S1 x H1 r1 v1 s1 k1=>⟨σ,S1,_,Z,aD.ts k1,s1,r1,λl S2 H2 r2 s2 k2=>⟨σ,S2,_,Z,aD.ts<|k1.trans k2,s2,r2,λu S3 H3 r3 s3 k3=>⟨d,S3,R,Rv.ts (k2.trans k3) _ v1,s3,r3,hR.kp<|(k1.trans k2).trans k3⟩,hZ.kp<|k1.trans k2⟩,hZ.kp k1⟩,hZ⟩⟩
def YO:uW:=λx y S R=>match x,y with|.int i,.int j=>R (.int<|i+j) S|.str a,.str b=>a.length+b.length<=sizeLine/\R (.str<|a++b) S|.ref a,.ref b=>∃xs ys,S a=some (.lst xs)/\S b=some (.lst ys)/\xs.length+ys.length<=sizeLine/\∀p,S p=none->R (.ref p) (S.set p<|.lst<|xs++ys)|_,_=>False
theorem bu:pj K (binaryOp .Add) YO:=by rintro X hK hu pins s σ H x y v u Q I rx ry ⟨d,e,S,R,r1,r2,hS,h,hR⟩;subst hK;cases d<;>cases e<;>first|exact False.elim h|exact NO pins s σ H x y v u Q I rx ry {_,_,r1.int,r2.int,hR.now hS h<|aL _}|exact Av pins s σ H x y v u Q I rx ry {_,_,r1.str,r2.str,h.1,hR.now hS h.2<|i7 _}|skip;obtain⟨xs,ys,e1,e2,hl,q⟩:=h;obtain⟨vs,h1,t1⟩:=hS.lst e1;obtain⟨ws,h2,t2⟩:=hS.lst e2;exact Oa pins s σ H x y v u Q I rx ry {_,_,vs,ws,r1.ref,r2.ref,h1,h2,by rw[t1.len,t2.len];exact hl,λp hp=>hR.new hS hp (q p)<|t1.app t2}
end
structure W(sp:iV)(ds:List D)(S:av)(R:KD)(Z:KX):Prop where
 of:sp ds S R Z
theorem bB.w{P:Program}{w:World}{K:Frag}{mg:Str->Option Value}{base:Heap}{k:Nat}{f:Addr}{fd:FuncData}{ps:List Str}{sp:iV}(F:bB P w K mg base (fb P w mg) k f fd ps<|pq K sp):bB P w K mg base (fb P w mg) k f fd ps (pq K<|W sp):=F.Hz λ_ _ _ _ h=>h.of
section
variable{K:Frag}{X:Cx}
def dTc(t:kL):kL:=λσ S R Z=>∃P:Bool->av->Prop,t σ S P Z/\∀b S',P b S'->R b S'
theorem YQ{t:kL}(h:DT K X e t):DT K X e (dTc t):=⟨λy=>(h.of y).mono <| by rintro τ H Q ⟨σ,S,R,Z,aD,hS,⟨P,q,hP⟩,hR,hZ⟩;exact{σ,S,P,Z,aD,hS,q,λb S1 H1 p s k=>hR b S1 H1 (hP b S1 p) s k,hZ}⟩
end
def YR(s:Stmt):List Str:=((ae s).names.filter λp=>p.2==.local||p.2==.cell).map (·.1)
theorem bF(s:Stmt)(a:autoParam ((ae s).kind=.function/\(ae s).isCoroutine=false/\(ae s).isGenerator=false/\(YR s).take (sN s).length=sN s) qQ4)(b:autoParam ((YR s).Nodup/\(∀x∈sN s,(ae s).names.lookup x=some .local\/(ae s).names.lookup x=some .cell)/\∀y∈(ae s).names,y.2≠.free) qJ3):fT (YR s) (sN s) (ae s):=fsc a b
section
variable{P:Program}{w:World}{K:Frag}{mg:Str->Option Value}{base:Heap}{x qual:Str}{st:Stmt}{f:Addr}{fd:FuncData}{N ps:List Str}{k:Nat}{sp:iV}
theorem u3.bX(F:u3 K x qual st f fd)(S:fT N ps<|ae st) (lM:∀(fU:Value)(A:Around)(outer:List Env)(s:Shared)(H:Hp)(E:XK)(ds:List D)(S:av)(R:KD)(Z:KX),bM k (A.deeper<|PyProof.Rows.envOfC qual (ae st) s.heap.objs.size f fU)->sp ds S R Z->∃t,Bd K (jT (fb P w mg) P w K mg base N qual (ae st) f fU A outer s H E) true (aU st) t/\t {nx:=λ_ S'=>Fo S'<|R .ax,rt:=λd S'=>Fo S'<|R d} (ja N ds) S λ_ C S'=>Fo S'<|Z C) (len:∀ds S R Z,sp ds S R Z->ds.length=ps.length:=by intro _ _ _ _ h;first|(cases h;subst_vars;rfl;done)|(repeat first|(obtain⟨e,_⟩:=h;rw[e];rfl;done)|obtain⟨_,h⟩:=h)):bB P w K mg base (fb P w mg) (k+1) f fd ps (pq K sp):=F.ok S len lM
end
noncomputable def fk(N:Nat)(v:Nat->Value):Array Value:=((List.range N).map v).toArray
structure ZN(n N:Nat)(l:Nat->Addr)(i:Nat)(h:Heap):Prop where
 z:IsZip h (n+N+2) (n+N) (n+N+1) .none
 t:lT h (n+N) (fk N λj=>.ref<|n+j)
 o:∃arr:Array Value,arr.size=N/\lT h (n+N+1) arr
 it:∀j,j<N->h.IsTupleIter (n+j) (l j) i
theorem jJ:(fk N v).size=N:=by unfold fk;simp
theorem jc:(fk N v).toList.length=N:=by unfold fk;simp
theorem Lj(h:arr.size=N)(e:∀j,j<N->arr[j]?=some (v j)):arr=fk N v:=by refine Array.ext (by rw[h,jJ]) λj h1 h2=>?_;have:=e j (by lia);rw[Array.getElem?_eq_getElem h1]at this;rw[zP this];simp[fk]
section
variable{prog:Program}{w:World}{A:Around}{E:Value->Shared->Prop}{s:Shared}{n N:Nat}{l:Nat->Addr}{i:Nat}{xs:Nat->Array Value}
theorem Ff{v:Nat->Value}{Q:Value->Shared->Prop}(h1:1<=N)(h3:N<=3)(lt:∀j,j<N->l j<n)(hs:ZN n N l i s.heap)(tu:∀j,j<N->s.heap.IsTuple (l j) (xs j))(ev:∀j,j<N->(xs j)[i]?=some (v j)) (hQ:∀h',IsZip h' (n+N+2) (n+N) (n+N+1) (rawInt s.heap.objs.size)->lT h' (n+N+1) (fk N v)->(∀j,j<N->h'.IsTupleIter (n+j) (l j) (i+1))->lT h' s.heap.objs.size (fk N v)->(∀c o,c≠n+N+2->c≠n+N+1->(∀j,j<N->c≠n+j)->s.heap.get? c=some o->h'.get? c=some o)->Q (.ref s.heap.objs.size) {s with heap:=h'}): wpAny (model prog w) A (Builtin.«zip.__next__» {[.ref<|n+N+2],[]}) (λfin s'=>∃v,fin=.done (.ret v)/\Q v s') E s:=by
 obtain⟨hz,hI,⟨arr,na,hO⟩,hit⟩:=hs;show wpAny _ _ (field (.ref<|n+N+2) 2 >>=_) _ _ _;refine zb<|z0 hz rfl (x:=.bool false) rfl ?_;show wpAny _ _ (field (.ref<|n+N+2) 3 >>=_) _ _ _;refine zb<|z0 hz rfl (x:=.ref<|n+N) rfl ?_;refine zb<|wpAny_seqItems hI rfl ?_;have he:(fk N λj=>Value.ref<|n+j).isEmpty=false:=by rw[Array.isEmpty_eq_false_iff];intro e;have:=congrArg Array.size e;rw[jJ]at this;simp at this;lia
 dsimp only;rw[if_neg<|by rw[he];exact zd];refine zb ?_;unfold Builtin.SmallTypes.ownedTupleIsFree;refine zb<|z0 hz rfl (x:=.none) rfl<|zu ?_;simp only[if_true];refine zb<|wpAny_rule ?_;refine zb<|z0 hz rfl (x:=.ref<|n+N+1) rfl ?_;refine zb<|wpAny_setField_rec hz (by simp) λh0 Pp q0=>?_;replace Pp:IsZip h0 (n+N+2) (n+N) (n+N+1) .ellipsis:=Pp;have k0:∀c o,c≠n+N+2->s.heap.get? c=some o->h0.get? c=some o:=λc o d e=>q0.extBut _ _ d e;refine zb<|wpAny_forIn_list _ (λrest b s'=>∃(k:Nat)(h':Heap)(a':Array Value),k<=N/\rest=((fk N λj=>Value.ref<|n+j).toList.zipIdx).drop k/\b=(none,())/\s'={s with heap:=h'}/\lT h' (n+N+1) a'/\a'.size=N/\(∀j,j<k->a'[j]?=some (v j))/\(∀j,j<N->h'.IsTupleIter (n+j) (l j) (if j<k then i+1 else i))/\IsZip h' (n+N+2) (n+N) (n+N+1) .ellipsis/\h'.objs.size=s.heap.objs.size/\(∀c o,c≠n+N+2->c≠n+N+1->(∀j,j<N->c≠n+j)->s.heap.get? c=some o->h'.get? c=some o)) _ ?_ ?_ _ _ ?_;rintro x rest b s' ⟨k,h',a',hk,e1,rfl,rfl,O,ha,hv,J,Z,sz,kp⟩;have dY:k<N:=by have:=congrArg List.length e1;rw[zO,List.length_drop,List.length_zipIdx,jc]at this;lia
 have e2:((fk N λj=>Value.ref<|n+j).toList.zipIdx).drop k=(Value.ref<|n+k,k)::((fk N λj=>Value.ref<|n+j).toList.zipIdx).drop (k+1):=by rw[List.drop_eq_getElem_cons<|by rw[List.length_zipIdx,jc];exact dY];simp[fk]
 rw[e2]at e1;cases e1;have lk:@LT.lt Nat _ (l k) n:=lt k dY;have Jk:=J k dY;rw[if_neg<|yi _]at Jk;have T0:Heap.IsTuple h' (l k) (xs k):=by obtain⟨o,a1,a2⟩:=tu k dY;exact{o,kp _ _ (by show @Ne Nat _ _;lia) (by show @Ne Nat _ _;lia) (λj _=>by show @Ne Nat _ _;lia) a1,a2}
 refine zb<|wpAny_onRaise ?_;show wpAny _ _ (Builtin.SmallTypes.nextOf (.ref<|n+k) >>=_) _ _ _;refine zb<|AW (s:={s with heap:=h'}) Jk T0 (ev k dY) λg1 m0 q1=>zu ?_;have O1:lT g1 (n+N+1) a':=q1.extBut _ _ (by show @Ne Nat _ _;lia) O;refine zb<|wpAny_seqItems (s:={s with heap:=g1}) O1 rfl ?_;refine zb<|EO (s:={s with heap:=g1}) O1 (by lia) λg2 O2 q2=>?_;refine zb<|wpAny_letGo<|zu ?_;refine{k+1,g2,_,dY,rfl,rfl,rfl,O2,by rw[Array.size_setIfInBounds];exact ha,λj hj=>?_,λj hj=>?_,q2.extBut _ _ (by show @Ne Nat _ _;lia)<|q1.extBut _ _ (by show @Ne Nat _ _;lia) Z,by rw[q2.1,q1.1];exact sz,λc o d1 d2 d3 e=>q2.extBut _ _ d2<|q1.extBut _ _ (d3 k dY)<|kp c o d1 d2 d3 e};by_cases z:j=k;subst z;rw[Array.getElem?_setIfInBounds_self_of_lt<|by lia];rw[Array.getElem?_setIfInBounds_ne<|Ne.symm z];exact hv j (by lia);by_cases z:j=k;subst z;rw[if_pos<|yx _];exact uT q2.extBut (by show @Ne Nat _ _;lia) m0;have:=J j hj;rw[show(if j<k+1 then i+1 else i)=if j<k then i+1 else i by by_cases y:j<k;rw[if_pos y,if_pos<|by lia];rw[if_neg y,if_neg<|by lia]];exact uT q2.extBut (by show @Ne Nat _ _;lia)<|uT q1.extBut (by show @Ne Nat _ _;lia) this;rintro b s' ⟨k,h',a',hk,e1,rfl,rfl,O,ha,hv,J,Z,sz,kp⟩;have dY:k=N:=by have:=congrArg List.length e1;rw[List.length_nil,List.length_drop,List.length_zipIdx,jc]at this;lia
 subst dY;have ea:=Lj ha hv;subst ea;refine zb<|wpAny_seqItems (s:={s with heap:=h'}) O rfl ?_;refine zb<|wpAny_newTuple ?_ (hsz:=by rw[jc];exact Xv h3);have lz:n+k+2<h'.objs.size:=zt Z;show wpAny _ _ (Builtin.SmallTypes.ownedTupleHandOut (.ref<|n+k+2) (.ref h'.objs.size) >>=_) _ _ _;refine zb ?_;unfold Builtin.SmallTypes.ownedTupleHandOut;have hzM:IsZip (h'.push {cls:=.type "tuple",data:=.seq<|fk k v}) (n+k+2) (n+k) (n+k+1) .ellipsis:=za _ Z;refine zb<|wpAny_setField_rec (s:={s with heap:=h'.push {cls:=.type "tuple",data:=.seq<|fk k v}}) hzM (by simp) λg1 Q2 r1=>?_;replace Q2:IsZip g1 (n+k+2) (n+k) (n+k+1) (rawInt h'.objs.size):=Q2;refine wpAny_setField_rec (s:={s with heap:=g1}) Q2 (by simp) λg2 Pc r2=>?_;replace Pc:IsZip g2 (n+k+2) (n+k) (n+k+1) (rawInt h'.objs.size):=Pc;have up:∀c o,c≠n+k+2->h'.get? c=some o->g2.get? c=some o:=λc o d e=>r2.extBut _ _ d<|r1.extBut _ _ d<|za _ e;have hT:lT g2 h'.objs.size (fk k v):=r2.extBut _ _ (yj lz)<|r1.extBut _ _ (yj lz)<|zj _ rfl;rw[sz]at Pc hT;refine zu {_,rfl,?_};show Q (.ref h'.objs.size) _;rw[sz];refine hQ g2 Pc (up _ _ (by show @Ne Nat _ _;lia) O) (λj hj=>?_) hT λc o d1 d2 d3 e=>up c o d1<|kp c o d1 d2 d3 e;have:=J j hj;rw[if_pos hj]at this;exact MA (λo e=>up _ o (by show @Ne Nat _ _;lia) e) this;refine{0,h0,arr,zU _,rfl,rfl,rfl,k0 _ _ (by show @Ne Nat _ _;lia) hO,na,λj hj=>absurd hj<|Nat.not_lt_zero _,λj hj=>?_,Pp,q0.1,λc o d _ _ e=>k0 c o d e};rw[if_neg<|Nat.not_lt_zero _];obtain⟨o,a1,a2⟩:=hit j hj;exact{o,k0 _ _ (by show @Ne Nat _ _;lia) a1,a2}
theorem HY(h1:1<=N)(hh:A.handled=none)(hs:ZN n N l i s.heap)(lt:l 0<n)(t0:s.heap.IsTuple (l 0)<|xs 0)(e0:(xs 0)[i]?=none) (hE:∀h' e,(∀c o,c≠n+N+2->c≠n+0->s.heap.get? c=some o->h'.get? c=some o)->(∃o,h'.get? e=some o/\o.cls=.type "StopIteration")->E (.ref e) {s with heap:=h'}): wpAny (model prog w) A (Builtin.«zip.__next__» {[.ref<|n+N+2],[]}) Q E s:=by
 obtain⟨hz,hI,⟨arr,na,hO⟩,hit⟩:=hs;show wpAny _ _ (field (.ref<|n+N+2) 2 >>=_) _ _ _;refine zb<|z0 hz rfl (x:=.bool false) rfl ?_;show wpAny _ _ (field (.ref<|n+N+2) 3 >>=_) _ _ _;refine zb<|z0 hz rfl (x:=.ref<|n+N) rfl ?_;refine zb<|wpAny_seqItems hI rfl ?_;have he:(fk N λj=>Value.ref<|n+j).isEmpty=false:=by rw[Array.isEmpty_eq_false_iff];intro e;have:=congrArg Array.size e;rw[jJ]at this;simp at this;lia
 dsimp only;rw[if_neg<|by rw[he];exact zd];refine zb ?_;unfold Builtin.SmallTypes.ownedTupleIsFree;refine zb<|z0 hz rfl (x:=.none) rfl<|zu ?_;simp only[if_true];refine zb<|wpAny_rule ?_;refine zb<|z0 hz rfl (x:=.ref<|n+N+1) rfl ?_;refine zb<|wpAny_setField_rec hz (by simp) λh0 Pp q0=>?_;replace Pp:IsZip h0 (n+N+2) (n+N) (n+N+1) .ellipsis:=Pp;have lk:@LT.lt Nat _ (l 0) n:=lt;have J0:Heap.IsTupleIter h0 (n+0) (l 0) i:=by obtain⟨o,a1,a2⟩:=hit 0 h1;exact{o,q0.extBut _ _ (by show @Ne Nat _ _;lia) a1,a2}
 have T0:Heap.IsTuple h0 (l 0) (xs 0):=by obtain⟨o,a1,a2⟩:=t0;exact{o,q0.extBut _ _ (by show @Ne Nat _ _;lia) a1,a2}
 have e2:(fk N λj=>Value.ref<|n+j).toList.zipIdx=(Value.ref<|n+0,0)::((fk N λj=>Value.ref<|n+j).toList.zipIdx).drop 1:=by have:=List.drop_eq_getElem_cons (l:=(fk N λj=>Value.ref<|n+j).toList.zipIdx) (i:=0) (by rw[List.length_zipIdx,jc];exact h1);rw[List.drop_zero]at this;rw[this];simp[fk]
 rw[e2,List.forIn_cons];refine zb<|zb<|zb<|wpAny_onRaise ?_;show wpAny _ _ (Builtin.SmallTypes.nextOf (.ref<|n+0) >>=_) _ _ _;refine zb<|qv (s:={s with heap:=h0}) hh J0 T0 e0 λh1 e q1 he=>?_;obtain⟨oe,YS,hce⟩:=he;have Q2:IsZip h1 (n+N+2) (n+N) (n+N+1) .ellipsis:=q1 _ _ (by show @Ne Nat _ _;lia) Pp;have ez:e≠n+N+2:=λx=>by subst x;rw[Q2]at YS;cases YS;simp at hce
 refine wpAny_setField_rec (s:={s with heap:=h1}) Q2 (by simp) λh2 _ q2=>hE h2 e (λc o dz d0 x=>q2.extBut _ _ dz<|q1 _ _ d0<|q0.extBut _ _ dz x) {oe,q2.extBut _ _ ez YS,hce}
end
noncomputable def Pq(K:Frag)(N:Nat)(l:Nat->Addr):It:={λi H=>∃(xs:Nat->List V)(x:Nat->V),∀j,j<N->iq K H (l j) (xs j)/\(xs j)[i]?=some (x j),λi H y H'=>∃T,H T=none/\y=.ref T/\∀(xs:Nat->List V)(x:Nat->V),(∀j,j<N->iq K H (l j) (xs j)/\(xs j)[i]?=some (x j))->H'=upd H T (.tup<|(List.range N).map x),λi H=>∃xs:Nat->List V,(∀j,j<N->iq K H (l j) (xs j))/\(xs 0).length<=i}
noncomputable def Q3(n N:Nat):List Addr:=(List.range<|N+3).map λj=>n+j
theorem pR(h:b∈Q3 n N):∃j,j<N+3/\b=n+j:=by obtain⟨j,hj,e⟩:=zh.mp h;exact{j,zN.mp hj,e.symm}
theorem fm(h:j<N+3):(n+j:Nat)∈Q3 n N:=zh.mpr {j,zN.mpr h,rfl}
theorem Bp(h:∀j,j<N->RelV (x j) (u j)):Vals ((List.range N).map x) ((List.range N).map u):=by
 have:∀l:List Nat,(∀j∈l,j<N)->Vals (l.map x) (l.map u):=by intro l;induction l with|nil=>exact λ_=>.nil|cons a l ih=>exact λhl=>.cons (h a<|hl a zp)<|ih λj hj=>hl j<|zi _ hj
 exact this _ λj hj=>zN.mp hj
theorem ud{P:Program}{w:World}{K:Frag}{es:List Expr}{kk:Nat}{tp:Pos}{n N:Nat}{l:Nat->Addr}(h1:1<=N)(h3:N<=3)(lt:∀j,j<N->l j<n):Turn P w K (.Tuple es kk tp) (Pq K N l) (Q3 n N) (n+N+2) (ZN n N l) where
 mem:=fm (j:=N+2)<|by lia
 obj:=λi h st b hb=>by
  obtain⟨j,hj,rfl⟩:=pR hb
  by_cases q:j<N
  ·obtain⟨o,e,c,d⟩:=st.it j q;exact{o,e,λv z=>by rw[d]at z;cases z}
  ·obtain⟨arr,na,hO⟩:=st.o
   have:j=N\/j=N+1\/j=N+2:=by lia
   rcases this with rfl|rfl|rfl
   ·exact{_,st.t,λv z=>by cases z}
   ·exact{_,hO,λv z=>by cases z}
   ·exact{_,st.z,λv z=>by cases z}
 keep:=λi h h' st k=>by
  obtain⟨hz,hI,⟨arr,na,hO⟩,J⟩:=st
  exact{k _ (fm (j:=N+2)<|by lia) _ hz,k _ (fm (j:=N)<|by lia) _ hI,{arr,na,k _ (fm (j:=N+1)<|by lia) _ hO},λj hj=>MA (λo e=>k _ (fm<|by lia) o e)<|J j hj}
 item:=by
  intro X hP hw hK hc i pins s σ H E I hf st hg
  subst hP hw hK
  obtain⟨xs,x,hx⟩:=hg
  have ex:∀j,∃(ay:List Value)(u:Value),j<N->Vals (xs j) ay/\s.heap.IsTuple (l j) ay.toArray/\ay[i]?=some u/\RelV (x j) u:=λj=>by
   by_cases q:j<N
   ·obtain⟨ay,rv,p,_⟩:=I.tuple (hx j q).1
    obtain⟨u,hu,ru⟩:=rv.get (hx j q).2
    exact{ay,u,λ_=>⟨rv,p,hu,ru⟩}
   ·exact{[],.none,λh=>absurd h q}
  have fx:=Classical.axiomOfChoice ex
  obtain⟨ay,fx⟩:=fx
  obtain⟨u,fx⟩:=Classical.axiomOfChoice fx
  have hT:s.TypeIs (.ref<|n+N+2) "zip":={_,st.z,rfl}
  have lz:@LT.lt Nat _ (n+N+2) s.heap.objs.size:=zt st.z
  unfold pyNext
  refine zb<|wpAny_attempt<|wpAny_callSpecial?_slot (name:=Str.ofString "__next__") hT F.slot_zip_next<|yF F.slot_zip_next hT F.entry_zip_next (Ff h1 h3 lt st (xs:=λj=>(ay j).toArray) (v:=u) (λj hj=>(fx j hj).2.1) (λj hj=>by simpa using (fx j hj).2.2.1) λg1 z1 O1 m1 T1 kp=>zu {_,rfl,?_})<|F.args_zip_next_1 _
  refine wpAny_letOwnedTupleGo_zip (s:={s with heap:=g1}) z1 λg2 z2 r2=>?_
  have V7:∀c o,c∉Q3 n N->s.heap.get? c=some o->g2.get? c=some o:=λc o hc e=>r2.extBut _ _ (λz=>hc<|z ▸ fm (j:=N+2) (by lia))<|kp c o (λz=>hc<|z ▸ fm (j:=N+2) (by lia)) (λz=>hc<|z ▸ fm (j:=N+1) (by lia)) (λj hj z=>hc<|z ▸ fm (by lia)) e
  have T2:lT g2 s.heap.objs.size (fk N u):=r2.extBut _ _ (yj lz) T1
  have I2:Inv X pins σ (upd H s.heap.objs.size<|.tup<|(List.range N).map x) {s with heap:=g2}:=I.Kw (t':=s.toks) (Q3 n N) hf V7 (Heap.get?_none_of_le<|zk _) {by rw[zc,List.length_range];exact smz<|zK h3<|by decide,_,Bp λj hj=>(fx j hj).2.2.2,{_,T2,rfl,rfl,_,rfl}}
  refine{.ref s.heap.objs.size,_,I2,rfl,{_,I.aH.fresh<|zk _,rfl,λys y hy=>?_},{z2,?_,{_,jJ,r2.extBut _ _ (by show @Ne Nat _ _;lia) O1},λj hj=>uT r2.extBut (by show @Ne Nat _ _;lia)<|m1 j hj},λb hb=>?_}
  ·congr 2
   refine zW λj hj=>?_
   have hj:=zN.mp hj
   have:=I.mR (hy j hj).1 (hx j hj).1
   have e:=(hy j hj).2
   rw[this,(hx j hj).2]at e
   exact zP e
  ·exact r2.extBut _ _ (by show @Ne Nat _ _;lia) (kp _ _ (by show @Ne Nat _ _;lia) (by show @Ne Nat _ _;lia) (λj hj=>by show @Ne Nat _ _;lia) st.t)
  ·obtain⟨j,hj,rfl⟩:=pR hb
   rw[au<|by show @Ne Nat _ _;lia]
   exact(hf _ hb).1
 done:=by
  intro X hP hw hK hc i pins s σ H E I hf st hg
  subst hP hw hK
  obtain⟨xs,hx,hl⟩:=hg
  obtain⟨HZ,YT,p0,_⟩:=I.tuple<|hx 0 h1
  have hT:s.TypeIs (.ref<|n+N+2) "zip":={_,st.z,rfl}
  have V_:=YT.length
  unfold pyNext
  refine zb<|wpAny_attempt<|wpAny_callSpecial?_slot (name:=Str.ofString "__next__") hT F.slot_zip_next<|yF F.slot_zip_next hT F.entry_zip_next (HY h1 (I.ok.hd hc) st (lt 0 h1) (xs:=λ_=>HZ.toArray) p0 (by simp;lia) λh1 e kp he=>?_)<|F.args_zip_next_1 _
  obtain⟨o,ho,K4⟩:=he
  refine zb<|wpAny_isInstance (T:="StopIteration") (b:=true) ⟨o,ho,K4⟩ isSubtype_stop<|zu {rfl,?_}
  exact I.Kv (t':=s.toks) (Q3 n N) hf λc o hc e=>kp c o (λz=>hc<|z ▸ fm (j:=N+2) (by lia)) (λz=>hc<|z ▸ fm (j:=0) (by lia)) e
 self:=λA' i s Q E st h=>wpAny_pyIter_zip st.z h
noncomputable def two(a b:Addr):Nat->Addr:=λj=>if j=0 then a else b
noncomputable def Pr(a b c:Addr):Nat->Addr:=λj=>if j=0 then a else if j=1 then b else c
theorem Wa{p:Nat->Prop}(h0:p 0)(h1:p 1):∀j,j<2->p j|0,_=>h0|1,_=>h1|j+2,h=>by lia
theorem Wb{p:Nat->Prop}(h0:p 0)(h1:p 1)(h2:p 2):∀j,j<3->p j|0,_=>h0|1,_=>h1|2,_=>h2|j+3,h=>by lia
section
variable{X:Cx}{a b c:Expr}{ta:TA}{p pos tp:Pos}{es:List Expr}{kk:Nat}
theorem Pt(hg:Gl X "zip")(hm:X.mg "zip"= none)(ha:PA X [a,b] ta)(hs:starEach [a,b] X.env=[(false,eval a X.env),(false,eval b X.env)])(wQ:starEach [b] X.env=[(false,eval b X.env)]): PI X (.Tuple es kk tp) (.Call (.Name "zip" p) [a,b] [] pos) (λσ H R=>ta σ H λvs H1=>∃l0 l1,vs=[.ref l0,.ref l1]/\(∃xs,iq X.K H1 l0 xs)/\(∃xs,iq X.K H1 l1 xs)/\R (Pq X.K 2<|two l0 l1) H1):=by intro pins s σ H R I h;refine Call_<|gr I hg hm boot_zip<|PyProof.Rows.callWith_type1 (bf (ha pos pins s σ H _ I h) λus s1 ⟨vs,H1,I1,r1,q1⟩=>?_) (by rw[hs,wQ]) (by rw[wQ];rfl);obtain⟨l0,l1,e,⟨AX,q0⟩,⟨AY,q2⟩,q⟩:=q1;subst e;obtain⟨u,v,rfl,r,r'⟩:=r1.two;cases r;cases r';obtain⟨HZ,YT,p0,_⟩:=I1.tuple q0;obtain⟨Pu,Ul,p1,_⟩:=I1.tuple q2;refine A2 (show s1.heap.IsTuple l0 HZ.toArray from p0) (show s1.heap.IsTuple l1 Pu.toArray from p1) λh' zs kp=>?_;have zn:ZN s1.heap.objs.size 2 (two l0 l1) 0 h':={zs.1,zs.2.1,zs.2.2.1,Wa zs.2.2.2.1 zs.2.2.2.2};refine wpAny_pyIter_zip (s:={s1 with heap:=h'}) zs.1 {_,_,_,_,H1,rfl,I1.kept (t':=s1.toks) kp,ud (by decide) (by decide)<|Wa p0.lt p1.lt,zn,λb hb=>?_,q};obtain⟨j,_,rfl⟩:=pR hb;exact I1.o_ (Nat.le_add_right _ _)<|I1.aH.fresh<|Nat.le_add_right _ _
theorem Pw(hg:Gl X "zip")(hm:X.mg "zip"= none)(ha:PA X [a,b,c] ta)(hs:starEach [a,b,c] X.env=[(false,eval a X.env),(false,eval b X.env),(false,eval c X.env)])(wQ:starEach [b,c] X.env=[(false,eval b X.env),(false,eval c X.env)]): PI X (.Tuple es kk tp) (.Call (.Name "zip" p) [a,b,c] [] pos) (λσ H R=>ta σ H λvs H1=>∃l0 l1 l2,vs=[.ref l0,.ref l1,.ref l2]/\(∃xs,iq X.K H1 l0 xs)/\(∃xs,iq X.K H1 l1 xs)/\(∃xs,iq X.K H1 l2 xs)/\R (Pq X.K 3<|Pr l0 l1 l2) H1):=by intro pins s σ H R I h;refine Call_<|gr I hg hm boot_zip<|PyProof.Rows.callWith_type1 (bf (ha pos pins s σ H _ I h) λus s1 ⟨vs,H1,I1,r1,q1⟩=>?_) (by rw[hs,wQ]) (by rw[wQ];rfl);obtain⟨l0,l1,l2,e,⟨AX,q0⟩,⟨AY,q2⟩,⟨QL,q3⟩,q⟩:=q1;subst e;obtain⟨u,v,z,rfl,r,r',r''⟩:=r1.three;cases r;cases r';cases r'';obtain⟨HZ,YT,p0,_⟩:=I1.tuple q0;obtain⟨Pu,Ul,p1,_⟩:=I1.tuple q2;obtain⟨sA,Q1,p2,_⟩:=I1.tuple q3;refine A9 (show s1.heap.IsTuple l0 HZ.toArray from p0) (show s1.heap.IsTuple l1 Pu.toArray from p1) (show s1.heap.IsTuple l2 sA.toArray from p2) λh' zs kp=>?_;have zn:ZN s1.heap.objs.size 3 (Pr l0 l1 l2) 0 h':={zs.1,zs.2.1,zs.2.2.1,Wb zs.2.2.2.1 zs.2.2.2.2.1 zs.2.2.2.2.2};refine wpAny_pyIter_zip (s:={s1 with heap:=h'}) zs.1 {_,_,_,_,H1,rfl,I1.kept (t':=s1.toks) kp,ud (by decide) (by decide)<|Wb p0.lt p1.lt p2.lt,zn,λb hb=>?_,q};obtain⟨j,_,rfl⟩:=pR hb;exact I1.o_ (Nat.le_add_right _ _)<|I1.aH.fresh<|Nat.le_add_right _ _
end
section
variable{K:Frag}{X:Cx}{a c e:Expr}{t:iN}{p pos tp:Pos}{es:List Expr}{kk:Nat}
theorem YU(hm:X.mg "zip"= none)(ha:DA K X [a,c] t)(hg:autoParam (Gl X "zip") qQJ)(hs:autoParam (starEach [a,c] X.env=[(false,eval a X.env),(false,eval c X.env)]) qQJ)(wQ:autoParam (starEach [c] X.env=[(false,eval c X.env)]) qQJ)(hK:autoParam (X.K=K) qQJ): DI K X (.Tuple es kk tp) (.Call (.Name "zip" p) [a,c] [] pos) (TZ t):=by subst hK;exact⟨λy=>(Pt (X:=y.cx) hg hm (ha.of y) hs wQ).mono λτ H R ⟨σ,S,RI,Z,aD,hS,q,hR,hZ⟩=>{σ,S,_,Z,aD,hS,q,λds S1 vs H1 ⟨xs,ys,e,hl,r1⟩ v1 s1 k1=>by subst e;obtain⟨v,u,rfl,ra,rb⟩:=v1.two;obtain⟨a,va,rfl,qa,ta⟩:=ra.tup;obtain⟨b,vb,rfl,qb,tb⟩:=rb.tup;refine{a,b,rfl,{va,.of qa},{vb,.of qb},hR _ S1 _ H1 r1 (λi S2 H2 k2 s2 _=>?_) s1 k1};have UB:iq X.K H2 a va:=.of<|k2.t _ _ qa;have UC:iq X.K H2 b vb:=.of<|k2.t _ _ qb;have la:va.length=xs.length:=ta.len;let f:Nat->List V:=λj=>if j=0 then va else vb;refine{λd hd=>?_,λh=>{f,Wa UB UC,by show va.length<=i;unfold br at h;rw[List.length_zipWith]at h;lia}};unfold br at hd;obtain⟨x,y',e1,e2,e3⟩:=List.getElem?_zipWith_eq_some.mp hd;subst e3;obtain⟨vx,f1,g1⟩:=(RvAll.ts k2 _ ta).get e1;obtain⟨vy,f2,g2⟩:=(RvAll.ts k2 _ tb).get e2;let g:Nat->V:=λj=>if j=0 then vx else vy;have ok:∀j,j<2->iq X.K H2 (two a b j) (f j)/\(f j)[i]?=some (g j):=Wa ⟨UB,f1⟩ ⟨UC,f2⟩;refine{⟨f,g,ok⟩,λx' H' ⟨T,hT,e4,e5⟩=>?_};have:=e5 f g ok;subst this e4;have kk:Kp X.K H2 (upd H2 T<|.tup [vx,vy]):=.new hT;exact{mY aE<|RvAll.ts kk _<|aO g1<|aO g2 bq,kk,s2.grow hT},hZ}⟩
theorem YV(hm:X.mg "zip"= none)(ha:DA K X [a,c,e] t)(hg:autoParam (Gl X "zip") qQJ)(hs:autoParam (starEach [a,c,e] X.env=[(false,eval a X.env),(false,eval c X.env),(false,eval e X.env)]) qQJ)(wQ:autoParam (starEach [c,e] X.env=[(false,eval c X.env),(false,eval e X.env)]) qQJ)(hK:autoParam (X.K=K) qQJ): DI K X (.Tuple es kk tp) (.Call (.Name "zip" p) [a,c,e] [] pos) (Po t):=by subst hK;exact⟨λy=>(Pw (X:=y.cx) hg hm (ha.of y) hs wQ).mono λτ H R ⟨σ,S,RI,Z,aD,hS,q,hR,hZ⟩=>{σ,S,_,Z,aD,hS,q,λds S1 vs H1 ⟨xs,ys,zs,e,hl,wD,r1⟩ v1 s1 k1=>by subst e;obtain⟨v,u,w,rfl,ra,rb,rc⟩:=v1.thr;obtain⟨a,va,rfl,qa,ta⟩:=ra.tup;obtain⟨b,vb,rfl,qb,tb⟩:=rb.tup;obtain⟨c,vc,rfl,qc,tc⟩:=rc.tup;refine{a,b,c,rfl,{va,.of qa},{vb,.of qb},{vc,.of qc},hR _ S1 _ H1 r1 (λi S2 H2 k2 s2 _=>?_) s1 k1};have UB:iq X.K H2 a va:=.of<|k2.t _ _ qa;have UC:iq X.K H2 b vb:=.of<|k2.t _ _ qb;have qc2:iq X.K H2 c vc:=.of<|k2.t _ _ qc;have la:va.length=xs.length:=ta.len;let f:Nat->List V:=λj=>if j=0 then va else if j=1 then vb else vc;refine{λd hd=>?_,λh=>{f,Wb UB UC qc2,by show va.length<=i;rw[la,<-m_ hl wD];exact h}};obtain⟨x,y',z,e1,e2,e3,e4⟩:=ng hd;subst e4;obtain⟨vx,f1,g1⟩:=(RvAll.ts k2 _ ta).get e1;obtain⟨vy,f2,g2⟩:=(RvAll.ts k2 _ tb).get e2;obtain⟨vz,f3,g3⟩:=(RvAll.ts k2 _ tc).get e3;let g:Nat->V:=λj=>if j=0 then vx else if j=1 then vy else vz;have ok:∀j,j<3->iq X.K H2 (Pr a b c j) (f j)/\(f j)[i]?=some (g j):=Wb ⟨UB,f1⟩ ⟨UC,f2⟩ ⟨qc2,f3⟩;refine{⟨f,g,ok⟩,λx' H' ⟨T,hT,e4,e5⟩=>?_};have:=e5 f g ok;subst this e4;have kk:Kp X.K H2 (upd H2 T<|.tup [vx,vy,vz]):=.new hT;exact{mY aE<|RvAll.ts kk _<|aO g1<|aO g2<|aO g3 bq,kk,s2.grow hT},hZ}⟩
end
end L2
namespace My
open PySem L2
def top(i:Nat):Stmt:=PySem.Challenge.pw_pageturns_k90_whole_as_of_a_moment.main.body.getD i<|.Pass {0,0,0,0}
abbrev Fh:Stmt:=top 20
abbrev H9:Stmt:=top 21
abbrev Fi:Stmt:=top 22
abbrev px:Stmt:=top 29
abbrev Bq:Stmt:=top 31
abbrev ve:Stmt:=top 34
abbrev kr:Stmt:=top 44
abbrev kO:Stmt:=top 47
abbrev Br:Stmt:=top 49
abbrev sO:Stmt:=top 57
abbrev xE:Stmt:=top 58
abbrev xG:Stmt:=top 62
abbrev qL:Stmt:=top 68
abbrev gF:Stmt:=top 70
abbrev gG:Stmt:=top 71
abbrev ft:Stmt:=top 72
abbrev Bs:Stmt:=top 97
abbrev ue:Stmt:=top 100
abbrev Px:Stmt:=top 104
abbrev Dg:Stmt:=top 105
abbrev H_:Stmt:=top 109
abbrev bc:Stmt:=top 89
structure hW where
 (Lk Bt nh kP Fj xH Fl MW lY qM vf jd je hX uf jf lZ gH kQ qN qO ug qP l4 aR aj fZ aP eS aK:Addr)
 (Dh qQ gI fu Fm xI Fn Ia f9 jg:FuncData)
 (l5 nj l6 qR jW xJ jX l7 xK:Tok)
 ts:List Addr
 (f Bu:Nat->Addr)
 (d Py:Nat->FuncData)
structure Txt(w:World)(K:Frag)(mg:Str->Option Value)(t:hW):Prop where
 fn:Fd K mg top t.f t.d [17,18,19,20,21,22,23,24,25,26,29,30,31,32,33,34,35,41,42,43,44,45,46,47,48,49,50,51,57,58,59,60,61,62,63,67,68,69,71,77,78,79,80,81,82,83,84,85,86,90,92,93,94,95,96,97,98,99,100,101,102,103,104,105,106,107,108,109]
 dD:Fe K t.aj "Shelf." bc t.Bu t.Py [0,1,2,3,4,5,6,7,8,12,13]
 plain:Bo K mg "plain" (top 65) ["shelf","order","sieve","moment"] t.Lk t.Dh
 Q4:Binds K t.Dh ["shelf","order","sieve","moment"] [.none]
 qS:Bo K mg "count_of" (top 66) ["shelf","sieve","moment"] t.Bt t.qQ
 Ll:Binds K t.qQ ["shelf","sieve","moment"] [.none]
 fw:Bo K mg "sorted_by_keys" (top 70) ["rows","way"] t.nh t.gI
 dZ:Bo K mg "sorted_by_values" (top 72) ["columns","part","rows"] t.kP t.fu
 vg:Bo K mg "page_on" (top 75) ["shelf","order","sieve","size","gap","moment"] t.Fj t.Fm
 nq:Bo K mg "page_back" (top 76) ["shelf","order","sieve","size","gap","moment"] t.xH t.xI
 vh:Bo K mg "stretch" (top 87) ["shelf","order","sieve","fore","hinder","moment"] t.Fl t.Fn
 YW:Bo K mg "law" (top 110) ["_law_script"] t.MW t.Ia
 cU:MV K t.aj "worths_at" "Shelf.worths_at" (inClass bc 9) ["self","key","moment"] t.lY t.f9
 eT:Binds K t.f9 ["self","key","moment"] [.none]
 eW:MV K t.aj "all_at" "Shelf.all_at" (inClass bc 10) ["self","moment"] t.qM t.jg
 nr:Binds K t.jg ["self","moment"] [.none]
 kR:mg "MOST_NAME_SIGNS"= some (.int 8 t.l5)
 l8:mg "MOST_KEY_SIGNS"= some (.int 12 t.nj)
 kT:mg "MOST_WORD_SIGNS"= some (.int 40 t.l6)
 pz:mg "MOST_COLUMNS"= some (.int 8 t.qR)
 jh:mg "MOST_PARTS_orders"= some (.int 8 t.jW)
 vi:mg "MOST_DEEP"= some (.int 8 t.xJ)
 ji:mg "MOST_PARTS_sieves"= some (.int 200 t.jX)
 kU:mg "MOST_IN_A_TUPLE"= some (.int 8 t.l7)
 vj:mg "MOST_ROWS"= some (.int 1000 t.xK)
 Ib:mg "KINDS"= some (.ref t.vf)
 Ie:∀H,Rv K H (.kt [.str "number",.str "word"])<|.ref t.vf
 vk:mg "OTHER_WAY"= some (.ref t.jd)
 xM:JB w K t.jd [("up",.str "down"),("down",.str "up")]
 vm:mg "OTHER_END"= some (.ref t.je)
 xN:JB w K t.je [("first",.str "last"),("last",.str "first")]
 sP:mg "OTHER_SIDE"= some (.ref t.hX)
 vn:JB w K t.hX [("ahead",.str "behind"),("behind",.str "ahead")]
 Bv:mg "LENGTHS"= some (.ref t.uf)
 Fp:JB w K t.uf [("every",.int 1),("is",.int 3),("below",.int 3),("above",.int 3),("begins",.int 3),("key",.int 2),("not",.int 2),("and",.int 2),("or",.int 2)]
 aV:mg "len"= none
 ku:mg "all"= none
 UD:mg "any"= none
 aw:mg "isinstance"= none
 jK:mg "range"= none
 Di:mg "int"= none
 l9:mg "str"= none
 Pz:mg "bool"= none
 bp:mg "tuple"= none
 PB:mg "list"= none
 Ig:mg "dict"= none
 MX:mg "set"= none
 Dj:mg "zip"= none
 gJ:mg "sorted"= none
 MY:mg "min"= none
 UE:mg "max"= none
 qU:mg "reversed"= none
 vo:mg "PageError"= some (.ref t.jf)
 jj:excIn K t.jf L2.lS "ValueError.__new__"= true
 gx:mg "BadColumns"= some (.ref t.lZ)
 dE:excIn K t.lZ L2.lS "ValueError.__new__"= true
 jL:mg "BadRow"= some (.ref t.gH)
 gL:excIn K t.gH L2.lS "ValueError.__new__"= true
 eG:mg "BadOrder"= some (.ref t.kQ)
 cX:excIn K t.kQ L2.lS "ValueError.__new__"= true
 oA:mg "BadSieve"= some (.ref t.qN)
 h_:excIn K t.qN L2.lS "ValueError.__new__"= true
 eI:mg "BadPlace"= some (.ref t.qO)
 cY:excIn K t.qO L2.lS "ValueError.__new__"= true
 Bw:mg "BadSize"= some (.ref t.ug)
 nu:excIn K t.ug L2.lS "ValueError.__new__"= true
 Fq:mg "HasKey"= some (.ref t.qP)
 qW:excIn K t.qP L2.lS "ValueError.__new__"= true
 Ih:mg "NoKey"= some (.ref t.l4)
 vp:excIn K t.l4 L2.lS "ValueError.__new__"= true
 oB:mg "NoMoment"= some (.ref t.aR)
 ia:excIn K t.aR L2.lS "ValueError.__new__"= true
 jk:XA K t.aR
 cB:mroIn K t.aR (.ref t.jf)=some true
 k_NoMoment_NoMoment:kitOne K (.ref t.aR) (.ref t.aR)=some true
 xO:mg "Shelf"= some (.ref t.aj)
 ai:qd K t.aj
 xP:Mk K t.aj (t.Bu 0)
 cH:findIn K (.ref t.aj) "columns"= some none
 bR:findIn K (.ref t.aj) "deeds"= some none
 bJ:findIn K (.ref t.aj) "runs"= some none
 f_:t.gI.code=.ref t.fZ
 dF:codeHdIn K t.fZ t.aP=true
 l_:t.aP∈t.ts
 eU:t.fu.code=.ref t.eS
 cP:codeHdIn K t.eS t.aK=true
 jY:t.aK∈t.ts
 np:[t.aP,t.aK].Nodup
 ta:∀b∈t.ts,b=t.aP\/b=t.aK
 bl:∀(s:Shared)(u:Value),BindsTo s t.Ia {[u],[]} [("_law_script",u)]
section
variable{w:World}{K:Frag}{mg:Str->Option Value}{t:hW}(T:Txt w K mg t)
def Txt.jl:=T.fn 17<|by decide
def Txt.gM:=T.fn 18<|by decide
def Txt.nv:=T.fn 19<|by decide
def Txt.pS:=T.fn 20<|by decide
def Txt.kW:=T.fn 21<|by decide
def Txt.vq:=T.fn 22<|by decide
def Txt.vt:=T.fn 23<|by decide
def Txt.jm:=T.fn 24<|by decide
def Txt.compared:=T.fn 25<|by decide
def Txt.cZ:=T.fn 26<|by decide
def Txt.gy:=T.fn 29<|by decide
def Txt.nA:=T.fn 30<|by decide
def Txt.ma:=T.fn 31<|by decide
def Txt.d_:=T.fn 32<|by decide
def Txt.jM:=T.fn 33<|by decide
def Txt.kX:=T.fn 34<|by decide
def Txt.ck:=T.fn 35<|by decide
def Txt.vA:=T.fn 41<|by decide
def Txt.Bx:=T.fn 42<|by decide
def Txt.vB:=T.fn 43<|by decide
def Txt.eJ:=T.fn 44<|by decide
def Txt.vE:=T.fn 45<|by decide
def Txt.jo:=T.fn 46<|by decide
def Txt.ee:=T.fn 47<|by decide
def Txt.nB:=T.fn 48<|by decide
def Txt.jq:=T.fn 49<|by decide
def Txt.eP:=T.fn 50<|by decide
def Txt.qX:=T.fn 51<|by decide
def Txt.dh:=T.fn 57<|by decide
def Txt.nC:=T.fn 58<|by decide
def Txt.dG:=T.fn 59<|by decide
def Txt.jr:=T.fn 60<|by decide
def Txt.gz:=T.fn 61<|by decide
def Txt.passes:=T.fn 62<|by decide
def Txt.ib:=T.fn 63<|by decide
def Txt.bS:=T.fn 67<|by decide
def Txt.eX:=T.fn 68<|by decide
def Txt.qY:=T.fn 69<|by decide
def Txt.fz:=T.fn 71<|by decide
def Txt.kY:=T.fn 77<|by decide
def Txt.ic:=T.fn 78<|by decide
def Txt.nD:=T.fn 79<|by decide
def Txt.kZ:=T.fn 80<|by decide
def Txt.eY:=T.fn 81<|by decide
def Txt.ie:=T.fn 82<|by decide
def Txt.k7:=T.fn 83<|by decide
def Txt.eK:=T.fn 84<|by decide
def Txt.dj:=T.fn 85<|by decide
def Txt.pT:=T.fn 86<|by decide
def Txt.gb:=T.fn 90<|by decide
def Txt.eB:=T.fn 92<|by decide
def Txt.qZ:=T.fn 93<|by decide
def Txt.aQ:=T.fn 94<|by decide
def Txt.nE:=T.fn 95<|by decide
def Txt.mf:=T.fn 96<|by decide
def Txt.gN:=T.fn 97<|by decide
def Txt.xQ:=T.fn 98<|by decide
def Txt.vF:=T.fn 99<|by decide
def Txt.jN:=T.fn 100<|by decide
def Txt.By:=T.fn 101<|by decide
def Txt.pU:=T.fn 102<|by decide
def Txt.nF:=T.fn 103<|by decide
def Txt.PC:=T.fn 104<|by decide
def Txt.Ii:=T.fn 105<|by decide
def Txt.Bz:=T.fn 106<|by decide
def Txt.k9:=T.fn 107<|by decide
def Txt.nG:=T.fn 108<|by decide
def Txt.BA:=T.fn 109<|by decide
def Txt.dH:=T.dD 0<|by decide
def Txt.fe:=T.dD 1<|by decide
def Txt.cI:=T.dD 2<|by decide
def Txt.eC:=T.dD 3<|by decide
def Txt.bZ:=T.dD 4<|by decide
def Txt.bG:=T.dD 5<|by decide
def Txt.b_:=T.dD 6<|by decide
def Txt.aB:=T.dD 7<|by decide
def Txt.dk:=T.dD 8<|by decide
def Txt.gA:=T.dD 12<|by decide
def Txt.cg:=T.dD 13<|by decide
end
def xR:=bF<|top 17
def vG:=bF<|top 18
def vH:=bF<|top 19
def BB:=bF<|top 20
def Fs:=bF<|top 21
def BC:=bF<|top 22
def BD:=bF<|top 23
def xS:=bF<|top 24
def oE:=bF<|top 25
def dS:=bF<|top 26
def nH:=bF<|top 29
def vI:=bF<|top 30
def xT:=bF<|top 31
def sQ:=bF<|top 32
def vJ:=bF<|top 33
def sR:=bF<|top 34
def xU:=bF<|top 35
def Ft:=bF<|top 41
def Fu:=bF<|top 42
def BE:=bF<|top 43
def fA:=bF<|top 44
def BF:=bF<|top 45
def q9:=bF<|top 46
def jZ:=bF<|top 47
def vK:=bF<|top 48
def oF:=bF<|top 49
def bx:=bF<|top 50
def oG:=bF<|top 51
def bz:=bF<|top 57
def vL:=bF<|top 58
def mh:=bF<|top 59
def js:=bF<|top 60
def eE:=bF<|top 61
def uh:=bF<|top 62
def pA:=bF<|top 63
def Ij:=bF<|top 65
def xV:=bF<|top 66
def mi:=bF<|top 67
def iB:=bF<|top 68
def gf:=bF<|top 69
def mj:=bF<|top 70
def cq:=bF<|top 71
def j0:=bF<|top 72
def BG:=bF<|top 75
def vM:=bF<|top 76
def kx:=bF<|top 77
def iC:=bF<|top 78
def vN:=bF<|top 79
def sS:=bF<|top 80
def pB:=bF<|top 81
def sT:=bF<|top 82
def sU:=bF<|top 83
def q_:=bF<|top 84
def bT:=bF<|top 85
def rf:=bF<|top 86
def fB:=bF<|top 87
def jt:=bF<|top 90
def vO:=bF<|top 92
def Fv:=bF<|top 93
def eF:=bF<|top 94
def dI:=bF<|top 95
def rh:=bF<|top 96
def xW:=bF<|top 97
def Ik:=bF<|top 98
def fC:=bF<|top 99
def c_:=bF<|top 100
def gO:=bF<|top 101
def BH:=bF<|top 102
def Fw:=bF<|top 103
def Ln:=bF<|top 104
def ju:=bF<|top 105
def Fx:=bF<|top 106
def bU:=bF<|top 107
def eZ:=bF<|top 108
def ui:=bF<|top 109
def bV:=bF<|top 110
def ml:=bF<|inClass bc 0
def vP:=bF<|inClass bc 1
def pC:=bF<|inClass bc 2
def sV:=bF<|inClass bc 3
def iR:=bF<|inClass bc 4
def gQ:=bF<|inClass bc 5
def dU:=bF<|inClass bc 6
def jv:=bF<|inClass bc 7
def vQ:=bF<|inClass bc 8
def fE:=bF<|inClass bc 9
def eQ:=bF<|inClass bc 10
def nI:=bF<|inClass bc 12
def iS:=bF<|inClass bc 13
theorem sm(h:n<=1000):n<=sizeLine:=yC<|jH h
theorem vR:0<=sizeLine:=sm<|by decide
theorem rj:1<=sizeLine:=sm<|by decide
theorem bW:2<=sizeLine:=sm<|by decide
theorem gR:3<=sizeLine:=sm<|by decide
theorem nJ:4<=sizeLine:=sm<|by decide
theorem YX:5<=sizeLine:=sm<|by decide
theorem YY:6<=sizeLine:=sm<|by decide
theorem YZ:7<=sizeLine:=sm<|by decide
theorem Y0:8<=sizeLine:=sm<|by decide
theorem UG:10<=sizeLine:=sm<|by decide
abbrev FnD(P:Program)(w:World)(K:Frag)(mg:Str->Option Value)(base:Heap)(k:Nat)(f:Addr)(fd:FuncData)(ps:List Str)(sp:iV):Prop:=bB P w K mg base (fb P w mg) k f fd ps<|pq K sp
def Gt(S:av)(d:D):Prop:=(∃k,OS S d k)/\∀z,d=.str z->z.cps.size<=1000
noncomputable def isLet(c:Nat):Bool:=decide (97<=c)&&decide (c<=122)
noncomputable def Dk(c:Nat):Bool:=decide (48<=c)&&decide (c<=57)
noncomputable def Il(c:Nat):Bool:=decide (32<=c)&&decide (c<=126)
noncomputable def kz(z:Str):Bool:=decide (1<=z.cps.size)&&decide (z.cps.size<=8)&&z.cps.toList.all isLet
noncomputable def j5(z:Str):Bool:=decide (1<=z.cps.size)&&decide (z.cps.size<=12)&&(z.cps.toList.head?.any isLet)&&z.cps.toList.all λc=>isLet c||Dk c
noncomputable def uj(z:Str):Bool:=decide (z.cps.size<=40)&&z.cps.toList.all Il
noncomputable def ofStr(f:Str->Bool):D->Bool|.str z=>f z|_=>false
noncomputable def rl:D->Bool|.int _=>true|_=>false
noncomputable def jw(kind:Str)(d:D):Bool:=ah d||if kind ="number" then rl d else ofStr uj d
def Lo(f:D->Bool):iV:=λds S R _=>∃d,ds=[d]/\Gt S d/\R (.bl<|f d) S
def Im(f:Nat->Bool):iV:=λds S R _=>∃c,ds=[.str ⟨#[c]⟩]/\R (.bl<|f c) S
theorem oH:∀{xs ys:List D}{a b:D},Paired rel xs ys->rel a b->Paired rel (xs++[a]) (ys++[b])|_,_,_,_,.nil,r=>.cons r .nil|_,_,_,_,.cons q t,r=>.cons q<|oH t r
theorem take_snoc{α:Type}{l:List α}{i:Nat}{d:α}(h:l[i]?=some d):l.take (i+1)=l.take i++[d]:=by rw[List.take_add_one,h];rfl
theorem fF{I:Hw}{S1:av}{g:Be}{te:TD}{σ:SD}{src:List<|Option Nat}{R:KD}(rel:D->D->Prop)(aH:I.ok S1)(hz:I.xs.length<=1000) (step:∀d,d∈I.xs->∀Q:KD,(∀v,rel d v->Q v S1)->g d (ou σ src) S1 λiK S3=>te iK S3 Q Zf) (fin:∀out,Paired rel I.xs out->∀p,S1 p=none->R (.ref p) (S1.set p<|.lst out)): CU σ src g tY te R I S1:=by
 refine{λi out S=>S=S1/\Paired rel (I.xs.take i) out,{rfl,.nil},λi out S h=>by rw[h.1];exact aH,?_,?_};rintro i d out S hd ⟨rfl,hp⟩;have hlen:=yD hp;rw[ya]at hlen;refine{jH<|by lia,?_};have e:(λ(iK:SD)(S3:av)=>tY iK S3 (λb S4=>if b=true then te iK S4 (λv S5=>S5=S/\Paired rel (I.xs.take<|i+1) (out++[v])) Zf else S4=S/\Paired rel (I.xs.take<|i+1) out) Zf)=λiK S3=>te iK S3 (λv S5=>S5=S/\Paired rel (I.xs.take<|i+1) (out++[v])) Zf:=by funext iK S3;simp[tY]
 rw[e];exact step d (zx hd) _ λv hv=>{rfl,by rw[take_snoc hd];exact oH hp hv};rintro out S2 ⟨rfl,hp⟩;rw[List.take_length]at hp;exact fin out hp
theorem rm:∀{xs out:List D},Paired (λd v=>v=f d) xs out->out=xs.map f|_,_,.nil=>rfl|_,_,.cons r t=>by rw[r,rm t];rfl
theorem comp_map(f:D->D)(aH:I.ok S1)(hz:I.xs.length<=1000) (step:∀d,d∈I.xs->∀Q:KD,Q (f d) S1->g d (ou σ src) S1 λiK S3=>te iK S3 Q Zf) (fin:∀p,S1 p=none->R (.ref p) (S1.set p<|.lst<|I.xs.map f)): CU σ src g tY te R I S1:=fF (λd v=>v=f d) aH hz (λd hd Q h=>step d hd Q<|h _ rfl) λout hp p Y1=>by rw[rm hp];exact fin p Y1
theorem gT{I:Hw}{S1:av}{g:Be}{tc:kL}{te:TD}{σ:SD}{src:List<|Option Nat}{R:KD}(keep:D->Bool)(f:D->D)(aH:I.ok S1)(hz:I.xs.length<=1000) (step:∀d,d∈I.xs->∀(Q:KD)(Q':av->Prop),(keep d=true->Q (f d) S1)->(keep d=false->Q' S1)->g d (ou σ src) S1 λiK S3=>tc iK S3 (λb S4=>if b=true then te iK S4 Q Zf else Q' S4) Zf) (fin:∀p,S1 p=none->R (.ref p) (S1.set p<|.lst<|(I.xs.filter keep).map f)): CU σ src g tc te R I S1:=by refine{λi out S=>S=S1/\out=((I.xs.take i).filter keep).map f,⟨rfl,rfl⟩,λi out S h=>by rw[h.1];exact aH,?_,?_};rintro i d out S hd ⟨rfl,rfl⟩;have hlen:((I.xs.take i).filter keep).length<=(I.xs.take i).length:=List.length_filter_le _ _;rw[ya]at hlen;refine{by rw[zc];exact jH<|by lia,?_};refine step d (zx hd) _ (λS4=>S4=S/\_=_) (λhk=>{rfl,?_}) λhk=>{rfl,?_};rw[take_snoc hd,List.filter_append,zI,yz,if_pos hk];rfl;rw[take_snoc hd,List.filter_append,yz,if_neg<|by rw[hk];exact zd];simp;rintro out S2 ⟨rfl,rfl⟩;rw[List.take_length];exact fin
variable{P:Program}{w:World}{K:Frag}{mg:Str->Option Value}{base:Heap}{t:hW}
theorem jx(T:Txt w K mg t):Ok P w base T.jl 1 (Lo rl):=by
 refine T.jl.F.bX xR ?_;rintro _ _ _ _ _ _ _ S R Z hr ⟨d,e,⟨⟨k,hk⟩,hz⟩,q⟩;subst e;refine{_,(s1<|sr<|qA (cb cK T.aw aq<|ac (dv 0)<|ac (r9 T.Di uO) an)<|Hi<|SM<|cb cK T.aw aq<|ac (dv 0)<|ac (r9 T.Pz Kj) an),?_};refine{_,rfl,_,_,_,_,rfl,Kl,hk,_,rfl,?_};have:(AQ k=true/\((rl d=true/\uQ k=false)\/(rl d=false/\uQ k=true)))\/(AQ k=false/\rl d=false):=by cases d with|ax=>(cases hk;exact .inr ⟨rfl,rfl⟩)|bl b=>(cases hk;exact .inl {rfl,.inr ⟨rfl,rfl⟩})|int b=>(cases hk;exact .inl {rfl,.inl ⟨rfl,rfl⟩})|str b=>(cases hk;exact .inr ⟨rfl,rfl⟩)|tup b=>(cases hk;exact .inr ⟨rfl,rfl⟩)|ref a=>(rcases hk with⟨rfl,_⟩|⟨rfl,_⟩<;>exact .inr ⟨rfl,rfl⟩)|_=>exact hk.elim
 rcases this with⟨h1,h2⟩|⟨h1,h2⟩;rw[h1];refine cN {_,rfl,_,_,_,_,rfl,G7,hk,_,rfl,?_};rcases h2 with⟨h2,h3⟩|⟨h2,h3⟩<;>(rw[h3];rw[h2]at q;exact fo q);rw[h1];rw[h2]at q;exact bb<|fo q
theorem ig(T:Txt w K mg t):Ok P w base T.gM 1 (Im isLet):=by refine T.gM.F.bX vG ?_;rintro _ _ _ _ _ _ _ S R Z hr ⟨c,e,q⟩;subst e;refine{_,(s1<|sr<|cc i9 i9 hr.u ds (dv 0) ds),?_};refine{_,rfl,_,rfl,?_};have e1:FY "a" ⟨#[c]⟩=decide (97<=c):=jI 97 c;have e2:FY ⟨#[c]⟩ "z"= decide (c<=122):=jI c 122;unfold isLet at q;refine bD (λh=>?_) λh=>?_;rw[e1.symm.trans h,zY,<-e2]at q;exact fo q;rw[e1.symm.trans h,zR]at q;exact fo q
theorem vS(T:Txt w K mg t):Ok P w base T.nv 1 (Im Dk):=by refine T.nv.F.bX vH ?_;rintro _ _ _ _ _ _ _ S R Z hr ⟨c,e,q⟩;subst e;refine{_,(s1<|sr<|cc i9 i9 hr.u ds (dv 0) ds),?_};refine{_,rfl,_,rfl,?_};have e1:FY "0" ⟨#[c]⟩=decide (48<=c):=jI 48 c;have e2:FY ⟨#[c]⟩ "9"= decide (c<=57):=jI c 57;unfold Dk at q;refine bD (λh=>?_) λh=>?_;rw[e1.symm.trans h,zY,<-e2]at q;exact fo q;rw[e1.symm.trans h,zR]at q;exact fo q
theorem Fy(h:d∈fj z):∃c,c∈z.cps.toList/\d=.str ⟨#[c]⟩:=by unfold fj at h;obtain⟨c,hc,e⟩:=zh.mp h;exact⟨c,hc,e.symm⟩
noncomputable def Dm(f:Nat->Bool):D->D|.str z=>.bl (z.cps.toList.head?.any f)|_=>.ax
theorem Fz:(fj z).map (Dm f)=(z.cps.toList.map f).map D.bl:=by unfold fj;rw[zA,zA];rfl
theorem all_map{α:Type}{l:List α}{f:α->Bool} : (l.map f).all id=l.all f:=by rw[List.all_map];rfl
theorem nK{z:Str}{f:Nat->Bool}{g:Be}{te:TD}{σ:SD}{src:List<|Option Nat}{S:av}{R:KD}{Z:KX}{i:Nat}(hv:σ[i]?=some (some<|.str z))(hz:z.cps.size<=1000) (step:∀c,c∈z.cps.toList->∀Q:KD,Q (.bl<|f c) S->g (.str ⟨#[c]⟩) (ou σ src) S λiK S3=>te iK S3 Q Zf) (q:R (.bl<|z.cps.toList.all f) S): SO Tj (MD (CV (MN<|SI i) src g tY te) KQ) σ S (λd S'=>Fo S'<|R d) Z:=by refine{_,hv,z,rfl,?_};refine My.comp_map (I:={fj z,λ_=>True}) (Dm f) trivial (by show(fj z).length<=1000;unfold fj;rw[zc,ym];exact hz) (λd hd Q hQ=>?_) λp hp=>?_;obtain⟨c,hc,rfl⟩:=Fy hd;exact step c hc Q (by simpa [Dm]using hQ);refine{.ref p,z.cps.toList.map f,rfl,?_,S,.new hp,?_};show(S.set p<|.lst<|(fj z).map<|Dm f) p=_;rw[aa,Fz];rw[all_map];exact q
theorem BI{S:av}{d:D}{k:Kd}(hk:OS S d k):(∃z,d=.str z/\AR k=true)\/(AR k=false/\∀f,ofStr f d=false):=by cases d with|str b=>(cases hk;exact .inl ⟨b,rfl,rfl⟩)|ax=>(cases hk;exact .inr {rfl,λ_=>rfl})|bl b=>(cases hk;exact .inr {rfl,λ_=>rfl})|int b=>(cases hk;exact .inr {rfl,λ_=>rfl})|tup b=>(cases hk;exact .inr {rfl,λ_=>rfl})|ref a=>(rcases hk with⟨rfl,_⟩|⟨rfl,_⟩<;>exact .inr {rfl,λ_=>rfl})|_=>exact hk.elim
theorem PD{S:av}{d:D}{k:Kd}(hk:OS S d k):(∃ds,d=.tup ds/\qr k=true)\/(qr k=false/\∀ds,d≠.tup ds):=by cases d with|tup b=>(cases hk;exact .inl ⟨b,rfl,rfl⟩)|ax=>(cases hk;exact .inr {rfl,λ_=>nofun})|bl b=>(cases hk;exact .inr {rfl,λ_=>nofun})|int b=>(cases hk;exact .inr {rfl,λ_=>nofun})|str b=>(cases hk;exact .inr {rfl,λ_=>nofun})|ref a=>(rcases hk with⟨rfl,_⟩|⟨rfl,_⟩<;>exact .inr {rfl,λ_=>nofun})|_=>exact hk.elim
theorem rn(T:Txt w K mg t):Ok P w base T.pS 2 (Lo<|ofStr kz):=by
 refine T.pS.F.bX BB ?_;rintro _ _ _ _ _ _ _ S R Z hr ⟨d,e,⟨⟨k,hk⟩,hz⟩,q⟩;subst e;refine{_,(sc (si (twd<|twor (cz<|tv<|cb cK T.aw aq<|ac (dv 0)<|ac (r9 T.l9 g_) an)<|tw1<|cz<|VL i9 i9 hr.u di (cb aY T.aV aJ<|ac (dv 0) an)<|dg (v:=.int 8) T.kR {_,rfl} λ_=>aL _) (s1<|sr db) s0)<|s1<|sr<|cb ko T.ku gv<|ac (tZ (N:=["sign"]) (src:=[none]) (lF (ae Fh) ["thing"] rfl rfl<|by trivial) (O5<|dv 0) (r_<|show(["sign"]:List Str).Nodup by trivial) (aZ rfl) a_ (λ_ _ _ _ _=>sM) λ_ _ _ _ _=>(aG T.gM (ig T) hr<|ac (dv 0) an)) an),?_};refine{_,rfl,_,_,_,_,rfl,cG,hk,_,rfl,?_};rcases BI hk with⟨z,rfl,h0⟩|⟨h0,h1⟩;have hz:=hz z rfl;rw[h0];refine bb ?_;refine{_,rfl,_,rfl,{sm hz,?_}};refine{_,rfl,?_};have e1:decide ((1:Int)<=(z.length:Nat))=decide (1<=z.cps.size):=by rw[yG];show(1:Int)<=((z.cps.size:Nat):Int)↔_;omega
 have e2:decide (((z.length:Nat):Int)<=8)=decide (z.cps.size<=8):=by rw[yG];show((z.cps.size:Nat):Int)<=8↔_;omega
 unfold ofStr kz at q;dsimp only at q;refine bD (λh2=>?_) λh2=>?_;rw[e1.symm.trans h2,zY]at q;refine{_,rfl,?_};refine bD (λh3=>?_) λh3=>?_;rw[e2.symm.trans<|nt h3,zR]at q;exact fo q;rw[e2.symm.trans<|nf h3,zY]at q;exact nK rfl hz (λc hc Q hQ=>{_,rfl,c,rfl,hQ}) q;rw[e1.symm.trans h2,zR,zR]at q;refine{_,rfl,?_};exact cN<|fo q;rw[h0];rw[h1]at q;exact cN<|cN<|fo q
def aA(c:Str×Str):D:=.tup [.str c.1,.str c.2]
def Gd(cs:List<|Str×Str):Prop:=cs.length<=8/\(cs.map Prod.fst).Nodup/\∀c∈cs,kz c.1=true/\(c.2 ="number"\/c.2 ="word")
noncomputable def mm(cs:List<|Str×Str):D->Bool|.tup ws=>decide (ws.length=cs.length)&&(List.zipWith (λc v=>jw c.2 v) cs ws).all id|_=>false
noncomputable def nL(cs:List<|Str×Str)(k v:D):Bool:=ofStr j5 k&&mm cs v
def Q5(S:av)(d:D):Prop:=Gt S d/\∀ws,d=.tup ws->ws.length<=1000/\∀v∈ws,Gt S v
theorem gU(T:Txt w K mg t):Ok P w base T.kW 2 (Lo<|ofStr j5):=by
 refine T.kW.F.bX Fs ?_;rintro _ _ _ _ _ _ _ S R Z hr ⟨d,e,⟨⟨k,hk⟩,hz⟩,q⟩;subst e;refine{_,(sc (si (twd<|twor (cz<|tv<|cb cK T.aw aq<|ac (dv 0)<|ac (r9 T.l9 g_) an)<|tw1<|cz<|VL i9 i9 hr.u di (cb aY T.aV aJ<|ac (dv 0) an)<|dg (v:=.int 12) T.l8 {_,rfl} λ_=>aL _) (s1<|sr db) s0)<|sc (si (cz<|tv<|aG T.gM (ig T) hr<|ac (ix hr.u (dv 0) di) an) (s1<|sr db) s0)<|s1<|sr<|cb ko T.ku gv<|ac (tZ (N:=["sign"]) (src:=[none]) (lF (ae H9) ["thing"] rfl rfl<|by trivial) (O5<|dv 0) (r_<|show(["sign"]:List Str).Nodup by trivial) (aZ rfl) a_ (λ_ _ _ _ _=>sM) λ_ _ _ _ _=>(eor (aG T.gM (ig T) hr<|ac (dv 0) an)<|Hi<|aG T.nv (vS T) hr<|ac (dv 0) an)) an),?_};refine{_,rfl,_,_,_,_,rfl,cG,hk,_,rfl,?_};rcases BI hk with⟨z,rfl,h0⟩|⟨h0,h1⟩;have hz:=hz z rfl;rw[h0];refine bb ?_;refine{_,rfl,_,rfl,{sm hz,?_}};refine{_,rfl,?_};have e1:decide ((1:Int)<=(z.length:Nat))=decide (1<=z.cps.size):=by rw[yG];show(1:Int)<=((z.cps.size:Nat):Int)↔_;omega
 have e2:decide (((z.length:Nat):Int)<=12)=decide (z.cps.size<=12):=by rw[yG];show((z.cps.size:Nat):Int)<=12↔_;omega
 unfold ofStr j5 at q;dsimp only at q;refine bD (λh2=>?_) λh2=>?_;have Xu:=e1.symm.trans h2;rw[Xu,zY]at q;refine{_,rfl,?_};refine bD (λh3=>?_) λh3=>?_;rw[e2.symm.trans<|nt h3,zR,zR]at q;exact fo q;rw[e2.symm.trans<|nf h3,zY]at q;obtain⟨c,r,ec⟩:=len_pos (z:=z)<|zC Xu;have eh:z.cps.toList.head?.any isLet=isLet c:=by rw[ec];rfl
 rw[eh]at q;refine{_,rfl,c,sm hz,at0 ec,c,rfl,_,rfl,?_};refine bD (λh4=>?_) λh4=>?_;rw[nt h4,zR]at q;exact fo q;rw[nf h4,zY]at q;refine nK (f:=λc=>isLet c||Dk c) rfl hz (λc hc Q hQ=>?_) q;refine{_,rfl,c,rfl,_,rfl,?_};refine bD (λh5=>?_) λh5=>?_;rw[h5,Bool.true_or]at hQ;exact hQ;rw[h5,yM]at hQ;exact{_,rfl,c,rfl,hQ};rw[e1.symm.trans h2,zR,zR,zR]at q;refine{_,rfl,?_};exact cN<|fo q;rw[h0];rw[h1]at q;exact cN<|cN<|fo q
theorem BJ(T:Txt w K mg t):Ok P w base T.vq 2 (Lo<|ofStr uj):=by
 refine T.vq.F.bX BC ?_;rintro _ _ _ _ _ _ _ S R Z hr ⟨d,e,⟨⟨k,hk⟩,hz⟩,q⟩;subst e;refine{_,(sc (si (twd<|twor (cz<|tv<|cb cK T.aw aq<|ac (dv 0)<|ac (r9 T.l9 g_) an)<|tw1<|bh qB hr.u (cb aY T.aV aJ<|ac (dv 0) an)<|dg (v:=.int 40) T.kT {_,rfl} λ_=>aL _) (s1<|sr db) s0)<|s1<|sr<|cb ko T.ku gv<|ac (tZ (N:=["sign"]) (src:=[none]) (lF (ae Fi) ["thing"] rfl rfl<|by trivial) (O5<|dv 0) (r_<|show(["sign"]:List Str).Nodup by trivial) (aZ rfl) a_ (λ_ _ _ _ _=>sM) λ_ _ _ _ _=>(cc i9 i9 hr.u ds (dv 0) ds)) an),?_};refine{_,rfl,_,_,_,_,rfl,cG,hk,_,rfl,?_};rcases BI hk with⟨z,rfl,h0⟩|⟨h0,h1⟩;have hz:=hz z rfl;rw[h0];refine bb ?_;refine{_,rfl,_,rfl,{sm hz,?_}};refine{_,rfl,?_};have e2:decide ((40:Int)<((z.length:Nat):Int))=!decide (z.cps.size<=40):=by rw[yw];simp only[decide_eq_true_iff,Bool.not_eq_true',decide_eq_false_iff_not];show(40:Int)<((z.cps.size:Nat):Int)↔_;omega
 unfold ofStr uj at q;dsimp only at q;refine bD (λh3=>?_) λh3=>?_;rw[nt<|e2.symm.trans h3,zR]at q;exact fo q;rw[nf<|e2.symm.trans h3,zY]at q;refine nK (f:=Il) rfl hz (λc hc Q hQ=>?_) q;refine{_,rfl,_,rfl,?_};have e3:FY " " ⟨#[c]⟩=decide (32<=c):=jI 32 c;have e4:FY ⟨#[c]⟩ "~"= decide (c<=126):=jI c 126;unfold Il at hQ;refine bD (λh=>?_) λh=>?_;rw[e3.symm.trans h,zY,<-e4]at hQ;exact hQ;rw[e3.symm.trans h,zR]at hQ;exact hQ;rw[h0];rw[h1]at q;exact cN<|cN<|fo q
inductive rq (ds:List D) (S:av) (R:KD) (Z:KX):Prop where
 |mk (kind d) (h0:ds=[.str kind,d]) (h1:Gt S d) (h2:R (.bl<|jw kind d) S):rq ds S R Z
theorem jy(T:Txt w K mg t):Ok P w base T.jm 3 rq:=by refine T.jm.F.bX xS ?_;rintro _ _ _ _ _ _ _ S R Z hr ⟨kind,d,e,hd,q⟩;subst e;refine{_,(sc (si (bh iO hr.u (dv 1) dn) (s1<|sr db) s0)<|sc (si (bh bj hr.u (dv 0) ds) (s1<|sr<|aG T.jl (jx T) hr<|ac (dv 1) an) s0)<|s1<|sr<|aG T.vq (BJ T) hr<|ac (dv 1) an),?_};refine{_,rfl,_,rfl,?_};unfold jw at q;refine bD (λh=>?_) λh=>?_;rw[h,Bool.true_or]at q;exact fo q;rw[h,yM]at q;refine{_,rfl,_,rfl,?_};refine bD (λh=>?_) λh=>?_;rw[if_pos<|zC h]at q;exact{_,rfl,d,rfl,hd,fo q};rw[if_neg<|zM h]at q;exact{_,rfl,d,rfl,hd,fo q}
theorem gt_str(h:z.cps.size<=1000):Gt S (.str z):={{.str,rfl},λy e=>by cases e;exact h}
theorem nM(h:kz z=true):z.cps.size<=1000:=by unfold kz at h;simp only[zL,yb]at h;lia
theorem FA(h:∀c v,f (.tup [aA c,v])=.bl (jw c.2 v)):(br (cs.map aA) ws).map f=(List.zipWith (λc v=>jw c.2 v) cs ws).map D.bl:=by unfold br;induction cs generalizing ws with|nil=>(cases ws<;>rfl)|cons c cs ih=>cases ws with|nil=>rfl|cons v ws=>show f (.tup [aA c,v])::(List.zipWith _ (cs.map aA) ws).map f=.bl (jw c.2 v)::_;rw[h,ih]
noncomputable def pairF:D->D|.tup [.tup [_,.str k],v]=>.bl (jw k v)|_=>.ax
inductive uk (ds:List D) (S:av) (R:KD) (Z:KX):Prop where
 |mk (z) (h0:ds=[.str z]) (h1:(z ="number"\/z ="word")) (h2:R (.bl true) S):uk ds S R Z
theorem BK(T:Txt w K mg t):Ok P w base T.vt 1 uk:=by
 refine T.vt.F.bX BD ?_;rintro _ _ _ _ _ _ _ S R Z hr ⟨z,e,hz,q⟩;subst e;refine{_,(s1<|sr<|qA (cb cK T.aw aq<|ac (dv 0)<|ac (r9 T.l9 g_) an)<|Hi<|cm ET hr.u (dv 0)<|dg (v:=.ref t.vf) T.Ib rfl T.Ie),?_};refine{_,rfl,_,_,_,_,rfl,cG,rfl,_,rfl,cN {_,rfl,rfl,rfl,?_}};have e:Ey (lV<|.str z) ([D.str "number",D.str "word"].map lV)=true:=by rcases hz with rfl|rfl<;>decide +kernel
 show Fo S (R<|.bl<|if false=true then _ else Ey (lV<|.str z) ([D.str "number",D.str "word"].map lV));rw[if_neg zd,e];exact fo q
inductive oI (ds:List D) (S:av) (R:KD) (Z:KX):Prop where
 |mk (c) (h0:ds=[aA c]) (h1:kz c.1=true) (h2:(c.2 ="number"\/c.2 ="word")) (h3:R (.bl true) S):oI ds S R Z
theorem vT(T:Txt w K mg t):Ok P w base T.nA 3 oI:=by refine T.nA.F.bX vI ?_;rintro _ _ _ _ _ _ _ S R Z hr ⟨c,e,h1,h2,q⟩;subst e;refine{_,(sc (si (twd<|twor (cz<|tv<|cb cK T.aw aq<|ac (dv 0)<|ac (r9 T.bp aS) an)<|tw1<|bh lU hr.u (cb aY T.aV aJ<|ac (dv 0) an) di) (s1<|sr db) s0)<|s1<|sr<|qA (aG T.pS (rn T) hr<|ac (ix hr.u (dv 0) di) an)<|Hi<|aG T.vt (BK T) hr<|ac (ix hr.u (dv 0) di) an),?_};refine{_,rfl,_,_,_,_,rfl,aT,rfl,_,rfl,?_};refine bb {_,rfl,_,rfl,_,rfl,bb ?_};refine{_,rfl,_,rfl,_,rfl,gt_str<|nM h1,_,rfl,?_};show if kz c.1=true then _ else _;rw[h1];exact cN {_,rfl,_,rfl,_,rfl,h2,fo q}
inductive rA (ds:List D) (S:av) (R:KD) (Z:KX):Prop where
 |mk (cs:List<|Str×Str) (h0:ds=[.tup<|cs.map aA]) (h1:cs.length<=8) (h2:∀p,S p=none->R (.ref p) (S.set p<|.lst<|(cs.map Prod.fst).map D.str)):rA ds S R Z
theorem oJ(T:Txt w K mg t):Ok P w base T.ma 1 rA:=by
 refine T.ma.F.bX xT ?_;rintro _ _ _ _ _ _ _ S R Z hr ⟨cs,e,hl,q⟩;subst e;refine{_,(s1<|sr<|tZ (N:=["name","kind"]) (src:=[none,none]) (lF (ae Bq) ["columns"] rfl rfl<|by trivial) (Hx<|dv 0) (VV<|show(["name","kind"]:List Str).Nodup by trivial) (pO rfl rfl) pQ (λ_ _ _ _ _=>sM) λ_ _ _ _ _=>(dv 0)),?_};refine{_,rfl,_,.inl rfl,?_};refine comp_map (λd=>match d with|.tup (x::_)=>x|_=>.ax) trivial (by show(cs.map aA).length<=1000;rw[zc];lia) (λd hd Q hQ=>?_) λp hp=>?_;obtain⟨c,hc,rfl⟩:=zh.mp hd;exact{_,rfl,rfl,_,_,rfl,_,_,rfl,rfl,_,rfl,hQ};have e:(cs.map aA).map (λd=>match d with|.tup (x::_)=>x|_=>.ax)=(cs.map Prod.fst).map D.str:=by rw[zA,zA];rfl
 show Fo (S.set p<|.lst<|(cs.map aA).map _) (R<|.ref p);rw[e];exact fo<|q p hp
inductive iD (ds:List D) (S:av) (R:KD) (Z:KX):Prop where
 |mk (cs) (h0:ds=[.tup<|cs.map aA]) (h1:Gd cs) (h2:R .ax S):iD ds S R Z
theorem nN(T:Txt w K mg t):Ok P w base T.gy 4 iD:=by
 refine T.gy.F.bX nH ?_;rintro _ _ _ _ _ _ _ S R Z hr ⟨cs,e,⟨hl,hn,hg⟩,q⟩;subst e;refine{_,(sc (si (twd<|twor (cz<|tv<|cb cK T.aw aq<|ac (dv 0)<|ac (r9 T.bp aS) an)<|tw1<|bh qB hr.u (cb aY T.aV aJ<|ac (dv 0) an)<|dg (v:=.int 8) T.pz {_,rfl} λ_=>aL _) (s1<|qE ⟨T.dE⟩ T.gx<|ac ds an) s0)<|sc (si (cz<|tv<|cb ko T.ku gv<|ac (tZ (N:=["column"]) (src:=[none]) (lF (ae px) ["columns"] rfl rfl<|by trivial) (Hx<|dv 0) (r_<|show(["column"]:List Str).Nodup by trivial) (aZ rfl) a_ (λ_ _ _ _ _=>sM) λ_ _ _ _ _=>(aG T.nA (vT T) hr<|ac (dv 0) an)) an) (s1<|qE ⟨T.dE⟩ T.gx<|ac ds an) s0)<|s1<|si (bh lU hr.u (lse (aG T.ma (oJ T) hr<|ac (dv 0) an) T.aV T.MX)<|cb aY T.aV aJ<|ac (dv 0) an) (s1<|qE ⟨T.dE⟩ T.gx<|ac ds an) s0),?_};refine{_,rfl,_,_,_,_,rfl,aT,rfl,_,rfl,?_};have e1:decide ((8:Int)<((cs.map aA).length:Nat))=false:=zo (by rw[zc];lia);refine bb {_,rfl,_,rfl,_,rfl,?_};show if decide ((8:Int)<((cs.map aA).length:Nat))=true then _ else _;rw[e1];refine bb ?_;refine{_,rfl,_,.inl rfl,?_};refine comp_map (λ_=>.bl true) trivial (by show(cs.map aA).length<=1000;rw[zc];lia) (λd hd Q hQ=>?_) λp hp=>?_;obtain⟨c,hc,rfl⟩:=zh.mp hd;exact{_,rfl,c,rfl,(hg c hc).1,(hg c hc).2,hQ};have e2:(cs.map aA).map (λ_=>D.bl true)=(cs.map λ_=>true).map D.bl:=by rw[zA,zA];rfl
 have e3:(cs.map λ_=>true).all id=true:=by rw[all_map];exact yh.mpr λ_ _=>rfl
 refine{.ref p,cs.map λ_=>true,rfl,?_,_,rfl,?_};show(S.set p<|.lst<|(cs.map aA).map _) p=_;rw[aa,e2];rw[e3];refine bb ?_;refine{_,rfl,cs,rfl,hl,λp2 fV=>?_};refine{cs.map Prod.fst,aa,by rw[zc];lia,_,rfl,_,rfl,_,rfl,?_};have e4:decide ((((iy<|cs.map Prod.fst).length:Nat):Int)=(((cs.map aA).length:Nat):Int))=true:=zr (by rw[(tW _).mpr hn,zc,zc]);show if (if true=true then !decide ((((iy<|cs.map Prod.fst).length:Nat):Int)=(((cs.map aA).length:Nat):Int)) else _)=true then _ else _;rw[if_pos rfl,e4];exact bb {S,(Sub.new hp).trans<|.new fV,q}
inductive mn (ds:List D) (S:av) (R:KD) (Z:KX):Prop where
 |mk (cs d) (h0:ds=[.tup<|cs.map aA,d]) (h1:cs.length<=8) (h2:Q5 S d) (h3:R (.bl<|mm cs d) S):mn ds S R Z
theorem sW(T:Txt w K mg t):Ok P w base T.kX 4 mn:=by
 refine T.kX.F.bX sR ?_;rintro _ _ _ _ _ _ _ S R Z hr ⟨cs,d,e,hl,⟨⟨⟨k,hk⟩,hz⟩,hw⟩,q⟩;subst e;refine{_,(sc (si (twd<|twor (cz<|tv<|cb cK T.aw aq<|ac (dv 1)<|ac (r9 T.bp aS) an)<|tw1<|bh lU hr.u (cb aY T.aV aJ<|ac (dv 1) an)<|cb aY T.aV aJ<|ac (dv 0) an) (s1<|sr db) s0)<|s1<|sr<|cb ko T.ku gv<|ac (tZ (N:=["column","value"]) (src:=[none,none]) (lF (ae ve) ["columns","thing"] rfl rfl<|by trivial) (YU T.Dj<|ac (dv 0)<|ac (dv 1) an) (VV<|show(["column","value"]:List Str).Nodup by trivial) (pO rfl rfl) pQ (λ_ _ _ _ _=>sM) λ_ _ _ _ _=>(aG T.jm (jy T) hr<|ac (ix hr.u (dv 0) di)<|ac (dv 1) an)) an),?_};refine{_,rfl,_,_,_,_,rfl,aT,hk,_,rfl,?_};rcases PD hk with⟨ws,rfl,h0⟩|⟨h0,h1⟩;obtain⟨hw1,pP⟩:=hw ws rfl;rw[h0];refine bb {_,rfl,_,rfl,_,rfl,_,rfl,_,rfl,?_};have e1:decide (((ws.length:Nat):Int)=(((cs.map aA).length:Nat):Int))=decide (ws.length=cs.length):=by rw[yG,zc];lia
 unfold mm at q;dsimp only at q;show if (if true=true then !decide (((ws.length:Nat):Int)=(((cs.map aA).length:Nat):Int)) else _)=true then _ else _;rw[if_pos rfl,e1];refine bD (λh=>?_) λh=>?_;rw[nt h,zR]at q;exact fo q;have h:=nf h;rw[h,zY]at q;have h:=zC h;refine{_,rfl,_,rfl,cs.map aA,ws,rfl,by rw[zc];exact h.symm,?_};refine comp_map pairF trivial (by show(br (cs.map aA) ws).length<=1000;unfold br;rw[List.length_zipWith,zc];lia) (λd hd Q hQ=>?_) λp hp=>?_;unfold br at hd;obtain⟨i,ei⟩:=List.getElem?_of_mem hd;obtain⟨x,y,e2,e3,e4⟩:=List.getElem?_zipWith_eq_some.mp ei;subst e4;rw[zq]at e2;cases e5:cs[i]? with|none=>(rw[e5]at e2;cases e2)|some c=>rw[e5]at e2;cases e2;exact{_,rfl,rfl,_,_,rfl,_,_,rfl,rfl,_,rfl,_,rfl,_,rfl,c.2,y,rfl,pP y<|zx e3,hQ}
 refine{.ref p,List.zipWith (λc v=>jw c.2 v) cs ws,rfl,?_,S,.new hp,q};show(S.set p<|.lst<|(br (cs.map aA) ws).map pairF) p=_;rw[aa,FA λ_ _=>rfl];rw[h0];have e:mm cs d=false:=by cases d with|tup ws=>exact absurd rfl (h1 ws)|_=>rfl
 rw[e]at q;exact cN<|cN<|fo q
inductive oK (t:hW) (ds:List D) (S:av) (R:KD) (Z:KX):Prop where
 |mk (cs k v) (h0:ds=[.tup<|cs.map aA,.tup [k,v]]) (h1:cs.length<=8) (h2:Gt S k) (h3:Q5 S v) (h4:(nL cs k v=true->R .ax S)) (h5:(nL cs k v=false->Z t.gH S)):oK t ds S R Z
theorem mq(T:Txt w K mg t):Ok P w base T.jM 5 (oK t):=by refine T.jM.F.bX vJ ?_;rintro _ _ _ _ _ _ _ S R Z hr ⟨cs,k,v,e,hl,hk,hv,q1,q2⟩;subst e;refine{_,(sc (si (twd<|twor (cz<|tv<|cb cK T.aw aq<|ac (dv 1)<|ac (r9 T.bp aS) an)<|tw1<|bh lU hr.u (cb aY T.aV aJ<|ac (dv 1) an) di) (s1<|qE ⟨T.gL⟩ T.jL<|ac ds an) s0)<|sc (si (cz<|tv<|aG T.kW (gU T) hr<|ac (ix hr.u (dv 1) di) an) (s1<|qE ⟨T.gL⟩ T.jL<|ac ds an) s0)<|s1<|si (cz<|tv<|aG T.kX (sW T) hr<|ac (dv 0)<|ac (ix hr.u (dv 1) di) an) (s1<|qE ⟨T.gL⟩ T.jL<|ac ds an) s0),?_};refine{_,rfl,_,_,_,_,rfl,aT,rfl,_,rfl,?_};refine bb {_,rfl,_,rfl,_,rfl,bb ?_};refine{_,rfl,_,rfl,k,rfl,hk,_,rfl,?_};unfold nL at q1 q2;refine bD (λh=>?_) λh=>?_;rw[nt h,zR]at q2;exact{sm<|by decide,fo<|q2 rfl};rw[nf h,zY]at q1 q2;refine{_,rfl,_,rfl,_,rfl,cs,v,rfl,hl,hv,_,rfl,?_};refine bD (λh=>?_) λh=>?_;exact{sm<|by decide,fo<|q2<|nt h};exact fo<|q1<|nf h
theorem bg(h:n<=100000):n<sizeLine:=by rw[zZ];lia
structure Std where
 b:Nat
 e:Option Nat
 ws:List D
def eD:Option Nat->D|none=>.ax|some n=>.int (n:Nat)
def jz(s:Std):D:=.tup [.int (s.b:Nat),eD s.e,.tup s.ws]
noncomputable def Io:List Std->Int->D|[],_=>.ax|s::r,m=>if (s.b:Int)<=m then (match s.e with|none=>.tup s.ws|some n=>if m<=(n:Int) then .tup s.ws else .ax) else Io r m
noncomputable def wt(l:List Std)(m:Int):D:=Io l.reverse m
abbrev Ra:=List<|Str×Addr×List Std
abbrev lH:=List<|Str×List Std
def gW(ra:Ra):lH:=ra.map λr=>(r.1,r.2.2)
def dJ(ra:Ra):List (Key×D):=ra.map λr=>(Sum.inr r.1,D.ref r.2.1)
noncomputable def lu(rs:lH)(k:Str):Option (List Std):=(rs.find? λr=>decide<|r.1=k).map (·.2)
noncomputable def so(ra:Ra)(k:Str):Option (Addr×List Std):=(ra.find? λr=>decide<|r.1=k).map (·.2)
noncomputable def su(ra:Ra)(k:Str)(s:List Std):Ra:=ra.map λr=>if r.1=k then (r.1,r.2.1,s) else r
noncomputable def BL(rs:lH)(k:Str)(s:List Std):lH:=if (lu rs k).isSome then rs.map λr=>if r.1=k then (r.1,s) else r else rs++[(k,s)]
theorem gB(ra:Ra)(k:Str):lu (gW ra) k=(so ra k).map (·.2):=by unfold lu so gW;induction ra with|nil=>rfl|cons r ra ih=>rw[zE,zT,zT];by_cases h:r.1=k;rw[zr h];rfl;rw[zo h];exact ih
theorem gX(ra:Ra)(k:Str):bY (dJ ra) (.inr k)=(so ra k).map λp=>D.ref p.1:=by unfold bY so dJ;induction ra with|nil=>rfl|cons r ra ih=>rw[zE,zT,zT];by_cases h:r.1=k;rw[zr h];have:decide ((Sum.inr r.1:Key)=.inr k)=true:=zr (by rw[h]);dsimp only;rw[this];rfl;rw[zo h];have:decide ((Sum.inr r.1:Key)=.inr k)=false:=zo λe=>h<|yH e;dsimp only;rw[this];exact ih
theorem cW(h:so ra k=some (l,s)):(k,l,s)∈ra:=by unfold so at h;cases q:ra.find? λr=>decide (r.1=k) with|none=>(rw[q]at h;cases h)|some r=>rw[q]at h;have h1:=List.find?_some q;have h2:=List.mem_of_find?_eq_some q;obtain⟨k',l',s'⟩:=r;have e:k'=k:=zC h1;cases h;rw[<-e];exact h2
theorem mr(h:so ra k=none):∀r∈ra,r.1≠k:=by unfold so at h;intro r hr e;have:=List.find?_eq_none.mp (Option.map_eq_none_iff.mp h) r hr;simp[e]at this
theorem gk:∀{l:List α}{x y:α},(l.map f).Nodup->x∈l->y∈l->f x=f y->x=y|z::l,x,y,nd,hx,hy,e=>by rw[zE]at nd;obtain⟨n1,n2⟩:=ye.mp nd;rcases zf.mp hx with ex|Sw;rcases zf.mp hy with ey|R3;rw[ex,ey];exact absurd (zh.mpr {y,R3,by rw[<-e,ex]}) n1;rcases zf.mp hy with ey|R3;exact absurd (zh.mpr {x,Sw,by rw[e,ey]}) n1;exact gk n2 Sw R3 e
structure BM(C:Addr)(S:av)(a ld lr:Addr)(cs:List (Str×Str))(dl:List D)(ra:Ra):Prop where
 ins:S a=some (.ins C [("columns",.tup<|cs.map aA),("deeds",.ref ld),("runs",.ref lr)])
 wI:S ld=some (.lst dl)
 run:S lr=some (.cA<|dJ ra)
 cell:∀r∈ra,S r.2.1=some (.lst<|r.2.2.map jz)
 kn:(ra.map (·.1)).Nodup
 an:(ld::ra.map (·.2.1)).Nodup
 sz:∀r∈ra,r.2.2.length<=dl.length
def fp(a ld lr:Addr)(ra:Ra):List Addr:=a::ld::lr::ra.map (·.2.1)
def cn(C:Addr)(S:av)(a:Addr)(F:List Addr)(cs:List<|Str×Str)(dl:List D)(rs:lH):Prop:=∃ld lr ra,BM C S a ld lr cs dl ra/\F=fp a ld lr ra/\rs=gW ra
def BN(F F':List Addr)(S S':av):Prop:=∀b c,b∉F->S b=some c->b∉F'/\S' b=some c
theorem BN.trans(a:BN F F1 S S1)(b:BN F1 F2 S1 S2):BN F F2 S S2:=λp c h e=>by obtain⟨h1,e1⟩:=a p c h e;exact b p c h1 e1
section
variable{C a ld lr:Addr}{S:av}{cs:List (Str×Str)}{dl:List D}{ra:Ra}
theorem BM.BO(h:BM C S a ld lr cs dl ra){l:Addr}{ds:List D}(e:S l=some (.lst ds)):l≠a/\l≠lr:=by constructor;rintro rfl;rw[h.ins]at e;cases e;rintro rfl;rw[h.run]at e;cases e
theorem BM.put(h:BM C S a ld lr cs dl ra)(hk:so ra k=some (l,s))(hs:s'.length<=dl.length):BM C (S.set l<|.lst<|s'.map jz) a ld lr cs dl (su ra k s'):=by
 have hm:=cW hk;have hl:=h.cell _ hm;obtain⟨n1,n2⟩:=h.BO hl;obtain⟨Y2,nd2⟩:=ye.mp h.an;have n3:l≠ld:=λe=>Y2 (by rw[<-e];exact zh.mpr {_,hm,rfl});have e1:(su ra k s').map (·.1)=ra.map (·.1):=by unfold su;rw[zA];exact zW λr _=>by dsimp only[Function.comp];split<;>rfl
 have e2:(su ra k s').map (·.2.1)=ra.map (·.2.1):=by unfold su;rw[zA];exact zW λr _=>by dsimp only[Function.comp];split<;>rfl
 have e3:dJ (su ra k s')=dJ ra:=by unfold dJ su;rw[zA];exact zW λr _=>by dsimp only[Function.comp];split<;>rfl
 refine{by rw[ag n1.symm];exact h.ins,by rw[ag n3.symm];exact h.wI,by rw[ag n2.symm,e3];exact h.run,λr hr=>?_,by rw[e1];exact h.kn,by rw[e2];exact h.an,λr hr=>?_};unfold su at hr;obtain⟨r0,wJ,e⟩:=zh.mp hr;by_cases q:r0.1=k;rw[if_pos q]at e;have er:r0=(k,l,s):=gk h.kn wJ hm q;subst er e;rw[aa];rw[if_neg q]at e;subst e;have:r0.2.1≠l:=λe=>q (by have:=gk nd2 wJ hm e;rw[this]);rw[ag this];exact h.cell _ wJ;unfold su at hr;obtain⟨r0,wJ,e⟩:=zh.mp hr;by_cases q:r0.1=k;rw[if_pos q]at e;subst e;exact hs;rw[if_neg q]at e;subst e;exact h.sz _ wJ
theorem BM.add(h:BM C S a ld lr cs dl ra)(hk:so ra k=none)(hl:S l=none)(hs:s.length<=dl.length)(e1:S' l=some (.lst<|s.map jz))(e2:S' lr=some (.cA<|dJ<|ra++[(k,l,s)]))(e3:∀b,b≠l->b≠lr->S' b=S b):BM C S' a ld lr cs dl (ra++[(k,l,s)]):=by
 have n1:a≠l:=g6 h.ins hl;have n2:ld≠l:=g6 h.wI hl;have n3:a≠lr:=by rintro rfl;have:=h.run;rw[h.ins]at this;cases this
 have n4:ld≠lr:=by rintro rfl;have:=h.run;rw[h.wI]at this;cases this
 refine{by rw[e3 _ n1 n3];exact h.ins,by rw[e3 _ n2 n4];exact h.wI,e2,λr hr=>?_,?_,?_,λr hr=>?_};rcases zJ.mp hr with hr|hr;have hc:=h.cell r hr;rw[e3 _ (g6 hc hl) (h.BO hc).2];exact hc;rw[zD.mp hr];exact e1;rw[zI];exact lQ h.kn λm=>by obtain⟨r,hr,e⟩:=zh.mp m;exact mr hk r hr e
 rw[zI,<-List.cons_append];refine lQ h.an λm=>?_;rcases zf.mp m with e|m;exact n2 e.symm;obtain⟨r,hr,e⟩:=zh.mp m;exact g6 (h.cell r hr) hl e;rcases zJ.mp hr with hr|hr;exact h.sz r hr;rw[zD.mp hr];exact hs
theorem BM.PF(h:BM C S a ld lr cs dl ra)(d:D):BM C (S.set ld<|.lst<|dl++[d]) a ld lr cs (dl++[d]) ra:=by obtain⟨n1,n2⟩:=h.BO h.wI;obtain⟨Y2,nd2⟩:=ye.mp h.an;refine{by rw[ag n1.symm];exact h.ins,aa,by rw[ag n2.symm];exact h.run,λr hr=>?_,h.kn,h.an,λr hr=>by rw[zG];exact zK (h.sz r hr)<|Nat.le_add_right _ _};rw[ag λe=>Y2<|by rw[<-e];exact zh.mpr ⟨r,hr,rfl⟩];exact h.cell r hr
end
def UH(C:Addr):iV:=λds S R _=>∃a F cs dl rs,ds=[.ref a]/\cn C S a F cs dl rs/\R (.int (dl.length:Nat)) S
theorem nO(T:Txt w K mg t):Af P w mg base T.dk 1 (UH t.aj):=by refine T.dk.F.bX vQ ?_;rintro _ _ _ _ _ _ _ S R Z hr ⟨a,F,cs,dl,rs,e,⟨ld,lr,ra,h,_⟩,q⟩;subst e;refine{_,(s1<|sr<|cb aY T.aV aJ<|ac (fl T.ai T.bR<|dv 0) an),?_};exact{_,rfl,a,_,_,rfl,h.ins,rfl,_,rfl,.inl {dl,h.wI,fo q}}
inductive eV (t:hW) (ds:List D) (S:av) (R:KD) (Z:KX):Prop where
 |mk (a F cs dl rs) (h0:ds=[.ref a]) (h1:cn t.aj S a F cs dl rs) (h2:R (.tup<|cs.map aA) S):eV t ds S R Z
theorem aM(T:Txt w K mg t):Af P w mg base T.aB 1 (eV t):=by refine T.aB.F.bX jv ?_;rintro _ _ _ _ _ _ _ S R Z hr ⟨a,F,cs,dl,rs,e,⟨ld,lr,ra,h,_⟩,q⟩;subst e;refine{_,(s1<|sr<|fl T.ai T.cH<|dv 0),?_};exact{_,rfl,a,_,_,rfl,h.ins,rfl,fo q}
noncomputable def pE(n:Nat):D->Option Int|.ax=>some n|.int i=>(if 0<=i/\i<=(n:Int) then some i else none)|_=>none
def Lp(C N:Addr):iV:=λds S R Z=>∃a F cs dl rs m,ds=[.ref a,m]/\cn C S a F cs dl rs/\Gt S m/\(∀i,pE dl.length m=some i->R (.int i) S)/\(pE dl.length m=none->Z N S)
theorem iE(T:Txt w K mg t):Af P w mg base T.cg 2 (Lp t.aj t.aR):=by
 refine T.cg.F.bX iS ?_;rintro _ _ _ _ _ _ _ S R Z hr ⟨a,F,cs,dl,rs,m,e,hS,hm,q1,q2⟩;subst e;obtain⟨ld,lr,ra,h,hF,sj⟩:=id hS;refine{_,(sc (si (bh iO hr.u (dv 1) dn) (s1<|sr<|iQ (dv 0) T.ai T.dk (nO T) hr) s0)<|sc (si (twd<|twor (cz<|tv<|aG T.jl (jx T) hr<|ac (dv 1) an)<|tw1<|cz<|VL i9 i9 hr.u di (dv 1)<|iQ (dv 0) T.ai T.dk (nO T) hr) (s1<|qE ⟨T.ia⟩ T.oB<|ac ds an) s0)<|s1<|sr<|dv 1),?_};refine{_,rfl,_,rfl,?_};refine bD (λh1=>?_) λh1=>?_;have e:m=.ax:=by cases m<;>first|rfl|cases h1
 subst e;exact{_,rfl,a,_,rfl,h.ins,rfl,a,F,cs,dl,rs,rfl,hS,fo<|q1 _ rfl};refine{_,rfl,m,rfl,hm,_,rfl,?_};refine bD (λh2=>?_) λh2=>?_;have h2:=nt h2;have e:pE dl.length m=none:=by cases m with|ax=>(cases h1)|int i=>(cases h2)|_=>rfl
 exact cN {sm<|by decide,fo<|q2 e};have h2:=nf h2;obtain⟨i,rfl⟩:∃i,m=.int i:=by cases m<;>first|exact{_,rfl}|cases h2
 refine{_,rfl,_,rfl,?_};refine bD (λh3=>?_) λh3=>?_;have h3:0<=i:=zC h3;refine{_,rfl,a,_,rfl,h.ins,rfl,a,F,cs,dl,rs,rfl,hS,_,rfl,?_};refine bD (λh4=>?_) λh4=>?_;have h4:¬i<=((dl.length:Nat):Int):=zM<|nt h4;exact{sm<|by decide,fo<|q2<|if_neg λz=>h4 z.2};have h4:i<=((dl.length:Nat):Int):=zC<|nf h4;exact{_,rfl,fo<|q1 i<|if_pos ⟨h3,h4⟩};have h3:¬0<=i:=zM h3;exact{_,rfl,cN {sm<|by decide,fo<|q2<|if_neg λz=>h3 z.1}}
inductive kB (ds:List D) (S:av) (R:KD) (Z:KX):Prop where
 |mk (l um m) (h0:ds=[.ref l,.int m]) (h1:S l=some (.lst<|um.map jz)) (h2:R (wt um m) S):kB ds S R Z
theorem jA(T:Txt w K mg t):Ok P w base T.gb 1 kB:=by
 refine T.gb.F.bX jt ?_;rintro _ _ _ _ _ _ _ S R Z hr ⟨l,um,m,e,hl,q⟩;subst e;refine{_,(sc (xq<|Hy (irv T.qU<|ac (dv 0) an) (gn (i:=2) jt.nd)<|s1<|si (bh i9 hr.u (ix hr.u (dv 2) di)<|dv 1) (s1<|sr<|ME (twd<|twor (bh iO hr.u (ix hr.u (dv 2) di) dn)<|tw1<|bh i9 hr.u (dv 1)<|ix hr.u (dv 2) di) (ix hr.u (dv 2) di) dn) s0)<|s1<|sr dn),?_};refine{λaC S'=>S'=S/\wt um m=.ax,?_,?_};refine{_,rfl,_,_,rfl,hl,?_};refine{λi aC S'=>(∃o,aC=[some<|.ref l,some<|.int m,o])/\S'=S/\wt um m=Io (um.reverse.drop i) m,{⟨none,rfl⟩,rfl,by rw[List.drop_zero];rfl},λi aC S' h=>by rw[h.2.1];exact hl,?_,?_};rintro i d aC S' hd ⟨⟨o,rfl⟩,rfl,hw⟩;rw[<-List.map_reverse,zq]at hd;cases e1:um.reverse[i]? with|none=>(rw[e1]at hd;cases hd)|some sd=>rw[e1]at hd;cases hd;have e2:um.reverse.drop i=sd::um.reverse.drop (i+1):=(by obtain⟨hi,e⟩:=ze.mp e1;rw[List.drop_eq_getElem_cons hi,e]);obtain⟨sb,se,sw⟩:=sd;rw[e2]at hw;refine{_,rfl,_,rfl,_,rfl,_,rfl,?_};unfold Io at hw;refine bD (λh=>?_) λh=>?_;rw[if_pos<|zC h]at hw;refine{_,rfl,_,rfl,_,rfl,?_};(cases se with|none=>refine cN<|cN {_,rfl,_,rfl,?_};rw[hw]at q;exact fo q|some n=>refine bb {_,rfl,_,rfl,_,rfl,_,rfl,?_};dsimp only at hw;refine bD (λh=>?_) λh=>?_;rw[if_pos<|zC h]at hw;rw[hw]at q;exact{_,rfl,_,rfl,fo q};rw[if_neg<|zM h]at hw;rw[hw]at q;exact fo q);rw[if_neg<|zM h]at hw;exact{{_,rfl},rfl,hw}
 rintro aC S' ⟨_,rfl,hw⟩;refine fo {rfl,?_};rw[hw,yg,zc,List.drop_eq_nil_of_le<|by rw[yg];exact zk _];rfl;rintro aC S' ⟨rfl,hw⟩;rw[hw]at q;exact fo q
noncomputable def Ag(rs:lH)(k:D)(i:Int):D:=match k with|.str z=>(if j5 z=true then wt ((lu rs z).getD []) i else .ax)|_=>.ax
def UI(C N:Addr):iV:=λds S R Z=>∃a F cs dl rs k m,ds=[.ref a,k,m]/\cn C S a F cs dl rs/\Gt S k/\Gt S m/\(∀i,pE dl.length m=some i->R (Ag rs k i) S)/\(pE dl.length m=none->Z N S)
theorem mw(T:Txt w K mg t):Af P w mg base T.cU 3 (UI t.aj t.aR):=by
 refine T.cU.F.bX fE ?_;rintro _ _ _ _ _ _ _ S R Z hr ⟨a,F,cs,dl,rs,k,m,e,hS,hk,hm,q1,q2⟩;subst e;obtain⟨ld,lr,ra,h,hF,sj⟩:=id hS;refine{_,(sc (cF (i:=3) fE.nd<|wH (dv 0) T.ai T.cg (iE T) hr<|ac (dv 2) an)<|sc (si (cz<|tv<|aG T.kW (gU T) hr<|ac (dv 1) an) (s1<|sr dn) s0)<|s1<|sr<|aG T.gb (jA T) hr<|ac (mg2 hr.u (fl T.ai T.bJ<|dv 0) (dv 1)<|dR an)<|ac (dv 3) an),?_};refine{_,rfl,a,_,rfl,h.ins,rfl,_,rfl,a,F,cs,dl,rs,m,rfl,hS,hm,λi hi=>?_,λhn=>fo<|q2 hn};have q:=q1 i hi;refine{_,rfl,k,rfl,hk,_,rfl,?_};refine bD (λh1=>?_) λh1=>?_;have e:Ag rs k i=.ax:=by cases k with|str z=>exact if_neg (by rw[show j5 z=false from nt h1];exact zd)|_=>rfl
 rw[e]at q;exact fo q;have h1:=nf h1;obtain⟨z,rfl⟩:∃z,k=.str z:=by cases k with|str z=>exact⟨z,rfl⟩|_=>cases h1
 have e:Ag rs (.str z) i=wt ((lu rs z).getD []) i:=if_pos h1;rw[e]at q;refine{_,rfl,a,_,_,rfl,h.ins,rfl,lr,_,rfl,h.run,_,rfl,sm<|by decide,λp hp=>{dJ ra,.inr z,?_,rfl,?_}};rw[ag<|g6 h.run hp];exact h.run;rw[gX];refine{_,rfl,?_};cases e1:so ra z with|none=>have e2:lu rs z=none:=(by rw[sj,gB,e1];rfl);rw[e2]at q;exact{p,[],i,rfl,aa,S,.new hp,q}|some ls=>obtain⟨l,um⟩:=ls;have e2:lu rs z=some um:=(by rw[sj,gB,e1];rfl);rw[e2]at q;have hc:=h.cell _<|cW e1;exact{l,um,i,rfl,by rw[ag<|g6 hc hp];exact hc,S,.new hp,q}
theorem MZ(h:so ra k=some (l,s)):BL (gW ra) k s'=gW (su ra k s'):=by unfold BL;rw[gB,h,if_pos<|show(Option.map (λx:Addr×List Std=>x.2)<|some (l,s)).isSome=true from rfl];unfold gW su;rw[zA,zA];exact zW λr _=>by dsimp only[Function.comp];split<;>rfl
theorem PH(h:so ra k=none):BL (gW ra) k s=gW (ra++[(k,l,s)]):=by unfold BL;rw[gB,h,if_neg<|show ¬(Option.map (λx:Addr×List Std=>x.2) none).isSome=true from zd];unfold gW;rw[zI];rfl
theorem PJ(h:so ra k=none):dput (dJ ra) (.inr k) (.ref l)=dJ (ra++[(k,l,s)]):=by
 unfold dput;have e:((dJ ra).any λkv=>decide<|kv.1=.inr k)=false:=by rw[List.any_eq_false];intro x hx;unfold dJ at hx;obtain⟨r,hr,rfl⟩:=zh.mp hx;simp only[yb];exact λe=>mr h r hr<|yH e
 rw[e,if_neg zd];unfold dJ;rw[zI];rfl
theorem Iq:fp a ld lr (su ra k s)=fp a ld lr ra:=by unfold fp su;rw[zA];congr 3;exact zW λr _=>by dsimp only[Function.comp];split<;>rfl
theorem rB(h:l∈F):BN F F S (S.set l c):=λb x hb e=>{hb,by rw[ag<|show b≠l from λz=>hb<|by rw[z];exact h];exact e}
theorem Ir(h:r∈ra):r.2.1∈fp a ld lr ra:=zi _<|zi _<|zi _<|zh.mpr ⟨r,h,rfl⟩
def Lq(C:Addr):iV:=λds S R _=>∃a F cs dl rs z ws,ds=[.ref a,.str z,.tup ws]/\cn C S a F cs dl rs/\((lu rs z).getD []).length<dl.length/\dl.length<=9000/\rs.length<=9000/\∀S' F',cn C S' a F' cs dl (BL rs z<|(lu rs z).getD []++[Std.mk dl.length none ws])->BN F F' S S'->R .ax S'
theorem xX(T:Txt w K mg t):Af P w mg base T.bG 2 (Lq t.aj):=by
 refine T.bG.F.bX gQ ?_;rintro _ _ _ _ _ _ _ S R Z hr ⟨a,F,cs,dl,rs,z,ws,e,⟨ld,lr,ra,h,hF,sj⟩,hl,hd,hn,q⟩;subst e hF sj;have FV:(dJ ra).length<=9000:=by unfold gW at hn;unfold dJ;rw[zc]at hn⊢;exact hn
 refine{_,(s1<|se<|bm zS yc yd dy (ms2 (fl T.ai T.bJ<|dv 0) (dv 1)<|dR an)<|ac (bP<|ac (iQ (dv 0) T.ai T.dk (nO T) hr)<|ac dn<|ac (dv 2) an) an),?_};refine{_,rfl,a,_,_,rfl,h.ins,rfl,lr,dJ ra,rfl,h.run,_,rfl,sm<|by decide,λp hp=>{dJ ra,.inr z,?_,rfl,bg<|by lia,λd Ao=>?_,λhn=>?_}};rw[ag<|g6 h.run hp];exact h.run;rw[gX]at Ao;cases e1:so ra z with|none=>(rw[e1]at Ao;cases Ao)|some ls=>obtain⟨l,um⟩:=ls;rw[e1]at Ao;cases Ao;have e2:lu (gW ra) z=some um:=(by rw[gB,e1];rfl);rw[e2]at q hl;have hc:=h.cell _<|cW e1;have Jy:(S.set p<|.lst []) l=some (.lst<|um.map jz):=(by rw[ag<|g6 hc hp];exact hc);have hi':(S.set p<|.lst []) a=some (.ins t.aj [("columns",.tup<|cs.map aA),("deeds",.ref ld),("runs",.ref lr)]):=(by rw[ag<|g6 h.ins hp];exact h.ins);have ox:BM t.aj (S.set p<|.lst []) a ld lr cs dl ra:={hi',by rw[ag<|g6 h.wI hp];exact h.wI,by rw[ag<|g6 h.run hp];exact h.run,λr hr=>by rw[ag<|g6 (h.cell r hr) hp];exact h.cell r hr,h.kn,h.an,h.sz};refine{{rfl,_,Jy},_,rfl,a,_,rfl,hi',rfl,a,_,cs,dl,_,rfl,⟨ld,lr,ra,ox,rfl,rfl⟩,_,rfl,gR,?_};have hle:um.length<dl.length:=hl;refine{l,um.map jz,_,rfl,rfl,Jy,bg<|by rw[zc];lia,S.set l<|.lst<|(um++[Std.mk dl.length none ws]).map jz,λb c hb=>?_,q _ _ {ld,lr,_,h.put e1<|by rw[zG];show um.length+1<=_;lia,rfl,MZ e1} ?_};by_cases Y3:b=l;subst Y3;rw[aa]at hb⊢;rw[zI]at hb;exact hb;rw[ag Y3]at hb;rw[ag Y3,ag<|g6 hb hp];exact hb;rw[Iq];exact rB<|Ir<|cW e1
 rw[gX]at hn;cases e1:so ra z with|some ls=>(rw[e1]at hn;cases hn)|none=>have e2:lu (gW ra) z=none:=(by rw[gB,e1];rfl);rw[e2]at q hl;have npr:p≠lr:=(g6 h.run hp).symm;generalize Dn:(S.set p<|.lst []).set lr _=S1;have Y4:S1 p=some (.lst []):=(by rw[<-Dn,ag npr,aa]);have s1r:S1 lr=some (.cA<|dJ<|ra++[(z,p,[])]):=(by rw[<-Dn,aa,PJ e1]);have Y5:∀b,b≠p->b≠lr->S1 b=S b:=λb h1 h2=>(by rw[<-Dn,ag h2,ag h1]);have ox:BM t.aj S1 a ld lr cs dl (ra++[(z,p,[])]):=h.add e1 hp (zU _) Y4 s1r Y5;refine{{rfl,_,Y4},_,rfl,a,_,rfl,ox.ins,rfl,a,_,cs,dl,_,rfl,{ld,lr,_,ox,rfl,rfl},_,rfl,gR,?_};refine{p,[],_,rfl,rfl,Y4,bg<|by show 0<=_;lia,S1.set p<|.lst<|[Std.mk dl.length none ws].map jz,.refl _,q _ _ {ld,lr,ra++[(z,p,[Std.mk dl.length none ws])],h.add e1 hp (by show 1<=_;have:0<dl.length:=hl;lia) aa ?_ λb h1 h2=>by rw[ag h1];exact Y5 b h1 h2,rfl,PH e1} ?_};rw[ag npr.symm,s1r];unfold dJ;rw[zI,zI];rfl;intro b c hb e;have h1:b≠p:=g6 e hp;have h2:b≠lr:=λz=>hb (by rw[z];exact zi _<|zi _ zp);refine{λm=>?_,by rw[ag h1,Y5 b h1 h2];exact e};unfold fp at m hb;rw[zI]at m;rcases zf.mp m with m|m;exact hb<|m ▸ zp;rcases zf.mp m with m|m;exact hb<|m ▸ zi _ zp;rcases zf.mp m with m|m;exact h2 m;rcases zJ.mp m with m|m;exact hb<|zi _<|zi _<|zi _ m;exact h1<|zD.mp m
noncomputable def ij(n:Nat)(l:List Std):List Std:=l.dropLast++(l.getLast?.map λs=>Std.mk s.b (some n) s.ws).toList
noncomputable def nQ(rs:lH)(z:Str)(n:Nat):lH:=BL rs z<|ij n<|(lu rs z).getD []
noncomputable def sY(rs:lH)(z:Str)(n:Nat)(ws:List D):lH:=BL rs z<|(lu rs z).getD []++[Std.mk n none ws]
theorem Iu(h:cn C S a F cs dl rs)(z:Str):((lu rs z).getD []).length<=dl.length:=by obtain⟨ld,lr,ra,h,_,rfl⟩:=h;rw[gB];cases e:so ra z with|none=>exact zU _|some ls=>exact h.sz _<|cW (l:=ls.1) (s:=ls.2) e
theorem Ls(rs:lH)(z:Str)(s:List Std):(BL rs z s).length<=rs.length+1:=by unfold BL;split;rw[zc];lia;rw[zG];exact zk _
theorem e_:lu (r::rs) k=if r.1=k then some r.2 else lu rs k:=by unfold lu;rw[zT];by_cases h:r.1=k;rw[zr h,if_pos h];rfl;rw[zo h,if_neg h]
theorem jB:lu (BL rs z s) k=if k=z then some s else lu rs k:=by
 unfold BL;by_cases hs:(lu rs z).isSome=true;rw[if_pos hs];by_cases hk:k=z;subst hk;rw[if_pos rfl];induction rs with|nil=>(cases hs)|cons r rs ih=>rw[zE,e_];by_cases h:r.1=k;rw[if_pos h,if_pos h];rw[if_neg h,if_neg h];rw[e_,if_neg h]at hs;exact ih hs
 rw[if_neg hk];clear hs;induction rs with|nil=>rfl|cons r rs ih=>rw[zE,e_,e_,ih];by_cases h:r.1=z;rw[if_pos h,if_neg<|show ¬r.1=k from λe=>hk<|e.symm.trans h,if_neg<|show ¬r.1=k from λe=>hk<|e.symm.trans h];rw[if_neg h]
 rw[if_neg hs];have hn:lu rs z=none:=by cases e:lu rs z<;>simp_all
 clear hs;induction rs with|nil=>rw[List.nil_append,e_];by_cases hk:k=z;rw[if_pos hk,if_pos hk.symm];rw[if_neg hk,if_neg λe=>hk e.symm]|cons r rs ih=>rw[e_]at hn;by_cases h:r.1=z;rw[if_pos h]at hn;cases hn;rw[if_neg h]at hn;rw[List.cons_append,e_,e_,ih hn];by_cases h2:r.1=k;rw[if_pos h2,if_pos h2,if_neg<|show ¬k=z from λe=>h<|h2.trans e];rw[if_neg h2,if_neg h2]
def UJ(C:Addr):iV:=λds S R _=>∃a F cs dl rs z,ds=[.ref a,.str z]/\cn C S a F cs dl rs/\(∃s,lu rs z=some s/\s≠[])/\dl.length<=9000/\∀S',cn C S' a F cs dl (nQ rs z dl.length)->BN F F S S'->R .ax S'
theorem jO(h:l≠[]):∃r s,l=r++[s]:={l.dropLast,l.getLast h,(List.dropLast_concat_getLast h).symm}
theorem eM(n:Nat)(r:List Std)(s:Std):ij n (r++[s])=r++[Std.mk s.b (some n) s.ws]:=by unfold ij;rw[List.dropLast_concat,List.getLast?_concat];rfl
theorem Iv(T:Txt w K mg t):Af P w mg base T.b_ 2 (UJ t.aj):=by refine T.b_.F.bX dU ?_;rintro _ _ _ _ _ _ _ S R Z hr ⟨a,F,cs,dl,rs,z,e,⟨ld,lr,ra,h,hF,sj⟩,⟨s0,QM,wK⟩,hd,q⟩;subst e hF sj;rw[gB]at QM;cases e1:so ra z with|none=>(rw[e1]at QM;cases QM)|some ls=>obtain⟨l,um⟩:=ls;rw[e1]at QM;cases QM;obtain⟨r,sd,rfl⟩:=jO wK;have hlen:=h.sz _<|cW e1;dsimp only at hlen;rw[zG]at hlen;have hlen:r.length+1<=dl.length:=hlen;have hc:=h.cell _<|cW e1;dsimp only at hc;have ed:bY (dJ ra) (.inr z)=some (.ref l):=(by rw[gX,e1];rfl);refine{_,(sc (cF (i:=2) dU.nd<|Z8 zS PySem.F.slot_list_pop PySem.F.type_list_pop S_<|ix hr.u (fl T.ai T.bJ<|dv 0)<|dv 1)<|s1<|se<|bm zS yc yd dy (ix hr.u (fl T.ai T.bJ<|dv 0)<|dv 1)<|ac (bP<|ac (ix hr.u (dv 2) di)<|ac (iQ (dv 0) T.ai T.dk (nO T) hr)<|ac (ix hr.u (dv 2) di) an) an),?_};refine{_,rfl,a,_,_,rfl,h.ins,rfl,_,rfl,dJ ra,_,h.run,ed,{rfl,_,hc},l,_,jz sd,rfl,rfl,hc,?_,?_};rw[zI,zG];show(r.map jz++[jz sd])[(r.map jz).length+1-1]?=_;simp;have e2:((r++[sd]).map jz).dropLast=r.map jz:=(by rw[zI];exact List.dropLast_concat);rw[e2];have h1:BM t.aj (S.set l<|.lst<|r.map jz) a ld lr cs dl (su ra z r):=h.put e1 (by lia);generalize Dn:S.set l _=S1 at h1;have Y6:so (su ra z r) z=some (l,r):=(by have hm:(z,l,r)∈su ra z r:=(by unfold su;exact zh.mpr {_,cW e1,if_pos rfl});cases e3:so (su ra z r) z with|none=>exact absurd rfl (mr e3 _ hm)|some x=>exact congrArg some<|congrArg Prod.snd<|gk (f:=λr:Str×Addr×List Std=>r.1) h1.kn (cW (l:=x.1) (s:=x.2) e3) hm rfl);have ed':bY (dJ<|su ra z r) (.inr z)=some (.ref l):=(by rw[gX,Y6];rfl);have Wc:=h1.cell _<|cW Y6;refine{_,rfl,a,_,_,rfl,h1.ins,rfl,_,rfl,_,_,h1.run,ed',{rfl,_,Wc},_,rfl,_,rfl,_,rfl,a,_,rfl,h1.ins,rfl,a,_,cs,dl,_,rfl,{ld,lr,_,h1,rfl,rfl},_,rfl,_,rfl,gR,l,_,_,rfl,rfl,Wc,bg<|by rw[zc];show r.length<=_;lia,?_};have h2:=h1.put (s':=r++[Std.mk sd.b (some dl.length) sd.ws]) Y6 (by rw[zG];exact hlen);have e4:nQ (gW ra) z dl.length=gW (su (su ra z r) z<|r++[Std.mk sd.b (some dl.length) sd.ws]):=(by unfold nQ;rw[gB,e1];show BL (gW ra) z (ij dl.length<|r++[sd])=_;rw[eM,MZ e1];unfold gW su;rw[zA,zA,zA];exact zW λx _=>by dsimp only[Function.comp];by_cases hx:x.1=z<;>simp[hx]);refine{_,?_,q _ {ld,lr,_,h2,by rw[Iq,Iq],e4} ?_};show Sub (S1.set l<|.lst<|(r++[_]).map jz) (S1.set l<|.lst<|r.map jz++[_]);rw[zI];exact .refl _;rw[<-Dn,dX];exact rB<|Ir<|cW e1
theorem Dq(h:ofStr j5 d=true):∃z,d=.str z/\j5 z=true:=by cases d with|str z=>exact⟨z,rfl,h⟩|_=>cases h
theorem Ds(h:nL cs k v=true):∃z ws,k=.str z/\v=.tup ws/\j5 z=true:=by unfold nL at h;rw[zL]at h;obtain⟨z,rfl,hz⟩:=Dq h.1;cases v with|tup ws=>exact⟨z,ws,rfl,rfl,hz⟩|_=>exact absurd h.2 zd
theorem rC:Gt S .ax:={{.ax,rfl},λ_=>nofun}
theorem M0(h:ah (wt l m)=false):l≠[]:=by rintro rfl;cases h
theorem vU(hz:j5 z=true)(i:Int):Ag rs (.str z) i=wt ((lu rs z).getD []) i:=if_pos hz
inductive eN (t:hW) (ds:List D) (S:av) (R:KD) (Z:KX):Prop where
 |mk (a F cs dl rs k) (h0:ds=[.ref a,k]) (h1:cn t.aj S a F cs dl rs) (h2:Gt S k) (h3:(ah (Ag rs k dl.length)=false->R .ax S)) (h4:(ah (Ag rs k dl.length)=true->Z t.l4 S)):eN t ds S R Z
theorem iF(T:Txt w K mg t):Af P w mg base T.bZ 4 (eN t):=by refine T.bZ.F.bX iR ?_;rintro _ _ _ _ _ _ _ S R Z hr ⟨a,F,cs,dl,rs,k,e,hS,hk,q1,q2⟩;subst e;obtain⟨ld,lr,ra,h,_⟩:=id hS;refine{_,(s1<|si (bh iO hr.u (X5 (dv 0) T.ai T.cU.e ((mw T).mono<|by decide) hr T.eT d1<|ac (dv 1) an) dn) (s1<|qE ⟨T.vp⟩ T.Ih<|ac ds an) s0),?_};refine{_,rfl,a,_,rfl,h.ins,rfl,_,rfl,a,F,cs,dl,rs,k,.ax,rfl,hS,hk,rC,λi hi=>?_,λhn=>by cases hn};cases hi;refine{_,rfl,?_};refine bD (λh1=>?_) λh1=>?_;exact{rj,fo<|q2 h1};exact fo<|q1 h1
inductive jC (t:hW) (ds:List D) (S:av) (R:KD) (Z:KX):Prop where
 |mk (a F cs dl rs k v) (h0:ds=[.ref a,k,v]) (h1:cn t.aj S a F cs dl rs) (h2:cs.length<=8) (h3:Gt S k) (h4:Q5 S v) (h5:dl.length<=8000) (h6:rs.length<=8000) (h7:(nL cs k v=false->Z t.gH S)) (h8:(nL cs k v=true->ah (Ag rs k dl.length)=false->Z t.qP S)) (h9:(∀z ws,k=.str z->v=.tup ws->nL cs k v=true->ah (Ag rs k dl.length)=true->∀S' F',cn t.aj S' a F' cs (dl++[.tup [.str "put",k,v]]) (sY rs z (dl.length+1) ws)->BN F F' S S'->R .ax S')):jC t ds S R Z
theorem PK(T:Txt w K mg t):Af P w mg base T.fe 6 (jC t):=by refine T.fe.F.bX vP ?_;rintro _ _ _ _ _ _ _ S R Z hr ⟨a,F,cs,dl,rs,k,v,e,hS,hc,hk,hv,hd,hn,q1,q2,q3⟩;subst e;obtain⟨ld,lr,ra,h,hF,sj⟩:=id hS;refine{_,(sc (se<|aG T.jM (mq T) hr<|ac (fl T.ai T.cH<|dv 0)<|ac (bP<|ac (dv 1)<|ac (dv 2) an) an)<|sc (si (bh mZ hr.u (X5 (dv 0) T.ai T.cU.e ((mw T).mono<|by decide) hr T.eT d1<|ac (dv 1) an) dn) (s1<|qE ⟨T.qW⟩ T.Fq<|ac ds an) s0)<|sc (se<|bm zS yc yd dy (fl T.ai T.bR<|dv 0)<|ac (bP<|ac ds<|ac (dv 1)<|ac (dv 2) an) an)<|s1<|se<|wH (dv 0) T.ai T.bG (xX T) hr<|ac (dv 1)<|ac (dv 2) an),?_};refine{_,rfl,a,_,_,rfl,h.ins,rfl,_,rfl,_,rfl,bW,cs,k,v,rfl,hc,hk,hv,λxY=>?_,λwJ=>fo<|q1 wJ};refine{_,rfl,a,_,rfl,h.ins,rfl,_,rfl,a,F,cs,dl,rs,k,.ax,rfl,hS,hk,rC,λi hi=>?_,λhn=>by cases hn};cases hi;refine{_,rfl,?_};refine bD (λh1=>?_) λh1=>?_;exact{rj,fo<|q2 xY<|nt h1};obtain⟨z,ws,rfl,rfl,hz⟩:=Ds xY;refine{_,rfl,a,_,_,rfl,h.ins,rfl,{rfl,_,h.wI},_,rfl,_,rfl,gR,ld,dl,_,rfl,rfl,h.wI,bg<|by lia,?_};have EN:=h.PF<|.tup [.str "put",.str z,.tup ws];have Dn:cn t.aj (S.set ld<|.lst<|dl++[.tup [.str "put",.str z,.tup ws]]) a F cs (dl++[.tup [.str "put",.str z,.tup ws]]) rs:=⟨ld,lr,ra,EN,hF,sj⟩;have hl:=Iu hS z;refine{_,rfl,a,_,rfl,EN.ins,rfl,_,rfl,_,rfl,a,F,cs,_,rs,z,ws,rfl,Dn,by rw[zG];exact Nat.lt_succ_of_le hl,by rw[zG];show dl.length+1<=_;lia,by lia,λS' F' ox hK=>fo<|q3 z ws rfl rfl xY (nf h1) S' F' ?_ ?_};have:(dl++[D.tup [.str "put",.str z,.tup ws]]).length=dl.length+1:=zG;rw[this]at ox;exact ox;refine BN.trans (rB ?_) hK;rw[hF];exact zi _ zp
inductive fG (t:hW) (ds:List D) (S:av) (R:KD) (Z:KX):Prop where
 |mk (a F cs dl rs k v) (h0:ds=[.ref a,k,v]) (h1:cn t.aj S a F cs dl rs) (h2:cs.length<=8) (h3:Gt S k) (h4:Q5 S v) (h5:dl.length<=8000) (h6:rs.length<=8000) (h7:(nL cs k v=false->Z t.gH S)) (h8:(nL cs k v=true->ah (Ag rs k dl.length)=true->Z t.l4 S)) (h9:(∀z ws,k=.str z->v=.tup ws->nL cs k v=true->ah (Ag rs k dl.length)=false->∀S' F',cn t.aj S' a F' cs (dl++[.tup [.str "change",k,v]]) (sY (nQ rs z dl.length) z (dl.length+1) ws)->BN F F' S S'->R .ax S')):fG t ds S R Z
theorem FC(T:Txt w K mg t):Af P w mg base T.cI 6 (fG t):=by
 refine T.cI.F.bX pC ?_;rintro _ _ _ _ _ _ _ S R Z hr ⟨a,F,cs,dl,rs,k,v,e,hS,hc,hk,hv,hd,hn,q1,q2,q3⟩;subst e;obtain⟨ld,lr,ra,h,hF,sj⟩:=id hS;refine{_,(sc (se<|aG T.jM (mq T) hr<|ac (fl T.ai T.cH<|dv 0)<|ac (bP<|ac (dv 1)<|ac (dv 2) an) an)<|sc (se<|wH (dv 0) T.ai T.bZ (iF T) hr<|ac (dv 1) an)<|sc (se<|wH (dv 0) T.ai T.b_ (Iv T) hr<|ac (dv 1) an)<|sc (se<|bm zS yc yd dy (fl T.ai T.bR<|dv 0)<|ac (bP<|ac ds<|ac (dv 1)<|ac (dv 2) an) an)<|s1<|se<|wH (dv 0) T.ai T.bG (xX T) hr<|ac (dv 1)<|ac (dv 2) an),?_};refine{_,rfl,a,_,_,rfl,h.ins,rfl,_,rfl,_,rfl,bW,cs,k,v,rfl,hc,hk,hv,λxY=>?_,λwJ=>fo<|q1 wJ};refine{_,rfl,a,_,rfl,h.ins,rfl,_,rfl,a,F,cs,dl,rs,k,rfl,hS,hk,λh1=>?_,λh1=>fo<|q2 xY h1};obtain⟨z,ws,rfl,rfl,hz⟩:=Ds xY;have wK:∃s,lu rs z=some s/\s≠[]:=by rw[vU hz]at h1;have:=M0 h1;cases e:lu rs z with|none=>rw[e]at this;exact absurd rfl this|some s=>rw[e]at this;exact⟨s,rfl,this⟩
 refine{_,rfl,a,_,rfl,h.ins,rfl,_,rfl,a,F,cs,dl,rs,z,rfl,hS,wK,by lia,λS1 Dn UK=>?_};obtain⟨Q6,Y7,Y8,EN,UL,PL⟩:=id Dn;refine{_,rfl,a,_,_,rfl,EN.ins,rfl,{rfl,_,EN.wI},_,rfl,_,rfl,gR,Q6,dl,_,rfl,rfl,EN.wI,bg<|by lia,?_};have h2:=EN.PF<|.tup [.str "change",.str z,.tup ws];have Du:cn t.aj (S1.set Q6<|.lst<|dl++[.tup [.str "change",.str z,.tup ws]]) a F cs (dl++[.tup [.str "change",.str z,.tup ws]]) (nQ rs z dl.length):=⟨Q6,Y7,Y8,h2,UL,PL⟩;have hl:=Iu Dn z;have C4:(nQ rs z dl.length).length<=rs.length+1:=Ls _ _ _;refine{_,rfl,a,_,rfl,h2.ins,rfl,_,rfl,_,rfl,a,F,cs,_,_,z,ws,rfl,Du,by rw[zG];exact Nat.lt_succ_of_le hl,by rw[zG];show dl.length+1<=_;lia,by lia,λS' F' ox hK=>fo<|q3 z ws rfl rfl xY h1 S' F' ?_ ?_};have:(dl++[D.tup [.str "change",.str z,.tup ws]]).length=dl.length+1:=zG;rw[this]at ox;exact ox;refine UK.trans<|BN.trans (rB ?_) hK;rw[UL];exact zi _ zp
inductive ik (t:hW) (ds:List D) (S:av) (R:KD) (Z:KX):Prop where
 |mk (a F cs dl rs k) (h0:ds=[.ref a,k]) (h1:cn t.aj S a F cs dl rs) (h2:Gt S k) (h3:dl.length<=8000) (h4:(ofStr j5 k=false->Z t.gH S)) (h5:(ofStr j5 k=true->ah (Ag rs k dl.length)=true->Z t.l4 S)) (h6:(∀z,k=.str z->j5 z=true->ah (Ag rs k dl.length)=false->∀S',cn t.aj S' a F cs (dl++[.tup [.str "take",k]]) (nQ rs z dl.length)->BN F F S S'->R .ax S')):ik t ds S R Z
theorem Lu(T:Txt w K mg t):Af P w mg base T.eC 6 (ik t):=by
 refine T.eC.F.bX sV ?_;rintro _ _ _ _ _ _ _ S R Z hr ⟨a,F,cs,dl,rs,k,e,hS,hk,hd,q1,q2,q3⟩;subst e;obtain⟨ld,lr,ra,h,hF,sj⟩:=id hS;refine{_,(sc (si (cz<|tv<|aG T.kW (gU T) hr<|ac (dv 1) an) (s1<|qE ⟨T.gL⟩ T.jL<|ac ds an) s0)<|sc (se<|wH (dv 0) T.ai T.bZ (iF T) hr<|ac (dv 1) an)<|sc (se<|wH (dv 0) T.ai T.b_ (Iv T) hr<|ac (dv 1) an)<|s1<|se<|bm zS yc yd dy (fl T.ai T.bR<|dv 0)<|ac (bP<|ac ds<|ac (dv 1) an) an),?_};refine{_,rfl,k,rfl,hk,_,rfl,?_};refine bD (λh0=>?_) λh0=>?_;exact{rj,fo<|q1<|nt h0};have h0:=nf h0;refine{_,rfl,a,_,rfl,h.ins,rfl,_,rfl,a,F,cs,dl,rs,k,rfl,hS,hk,λh1=>?_,λh1=>fo<|q2 h0 h1};obtain⟨z,rfl,hz⟩:=Dq h0;have wK:∃s,lu rs z=some s/\s≠[]:=by rw[vU hz]at h1;have:=M0 h1;cases e:lu rs z with|none=>rw[e]at this;exact absurd rfl this|some s=>rw[e]at this;exact⟨s,rfl,this⟩
 refine{_,rfl,a,_,rfl,h.ins,rfl,_,rfl,a,F,cs,dl,rs,z,rfl,hS,wK,by lia,λS1 Dn UK=>?_};obtain⟨Q6,Y7,Y8,EN,UL,PL⟩:=id Dn;refine{_,rfl,a,_,_,rfl,EN.ins,rfl,{rfl,_,EN.wI},_,rfl,bW,Q6,dl,_,rfl,rfl,EN.wI,bg<|by lia,?_};refine fo<|q3 z rfl hz h1 _ {Q6,Y7,Y8,EN.PF _,UL,PL}<|UK.trans<|rB ?_;rw[UL];exact zi _ zp
inductive gY (t:hW) (ds:List D) (S:av) (R:KD) (Z:KX):Prop where
 |mk (a cs) (h0:ds=[.ref a,.tup<|cs.map aA]) (h1:Gd cs) (h2:S a=some (.ins t.aj [])) (h3:∀S' F,cn t.aj S' a F cs [] []->BN [a] F S S'->R .ax S'):gY t ds S R Z
theorem Dw(T:Txt w K mg t):Af P w mg base T.dH 5 (gY t):=by
 refine T.dH.F.bX ml ?_;rintro _ _ _ _ _ _ _ S R Z hr ⟨a,cs,e,hg,ha,q⟩;subst e;refine{_,(sc (se<|aG T.gy (nN T) hr<|ac (dv 1) an)<|sc (sf T.ai T.cH (dv 0)<|dv 1)<|sc (sf T.ai T.bR (dv 0)<|dR an)<|s1<|sf T.ai T.bJ (dv 0) SN),?_};refine{_,rfl,cs,rfl,hg,_,rfl,_,rfl,a,[],rfl,ha,(show 0<1000 by decide),?_};refine{vR,λld Q7=>{_,rfl,a,[("columns",.tup<|cs.map aA)],rfl,?_,(show 1<1000 by decide),λlr C4=>{_,rfl,a,[("columns",.tup<|cs.map aA),("deeds",.ref ld)],rfl,?_,(show 2<1000 by decide),?_}}};have nl:a≠ld:=by rintro rfl;rw[aa]at Q7;cases Q7
 rw[ag nl,aa];rfl;have nl:a≠lr:=by rintro rfl;rw[aa]at C4;cases C4
 rw[ag nl,aa];rfl;have n1:a≠ld:=by rintro rfl;rw[aa]at Q7;cases Q7
 have n2:a≠lr:=by rintro rfl;rw[aa]at C4;cases C4
 have n3:ld≠lr:=by rintro rfl;rw[ag n1.symm,aa]at C4;cases C4
 rw[ag n1.symm]at Q7;rw[ag n2.symm,ag n3.symm,ag n2.symm]at C4;refine fo<|q _ (fp a ld lr []) {ld,lr,[],{aa,?_,?_,λr hr=>(nomatch hr),List.nodup_nil,(by simp),λr hr=>(nomatch hr)},rfl,rfl} λb c hb e=>?_;rw[ag n1.symm,ag n3,ag n1.symm,aa];rw[ag n2.symm,aa];rfl;have b1:b≠a:=λz=>hb (by rw[z];exact zp);have b2:b≠ld:=g6 e Q7;have b3:b≠lr:=g6 e C4;refine{λm=>?_,by rw[ag b1,ag b3,ag b1,ag b2,ag b1];exact e};unfold fp at m;simp only[List.map_nil,zf,zB,or_false]at m;rcases m with m|m|m;exact b1 m;exact b2 m;exact b3 m
noncomputable def vV(rs:lH)(i:Int)(z:Str):D:=.tup [.str z,wt ((lu rs z).getD []) i]
noncomputable def k_(rs:lH)(i:Int)(ss:List Str):List D:=(ss.filter λz=>!ah (wt ((lu rs z).getD []) i)).map<|vV rs i
noncomputable def vW:D->Bool|.tup [_,x]=>!ah x|_=>false
theorem xZ(ss:List Str):((ss.map<|vV rs i).filter vW).map id=k_ rs i ss:=by unfold k_;rw[List.map_id,List.filter_map];rfl
def M4(C N:Addr):iV:=λds S R Z=>∃a F cs dl rs m,ds=[.ref a,m]/\cn C S a F cs dl rs/\rs.length<64/\Gt S m/\(∀i ss,pE dl.length m=some i->ss.Perm (rs.map (·.1))->PyProof.Rows.sortedS ss=true->∀p,S p=none->R (.ref p) (S.set p<|.lst<|k_ rs i ss))/\(pE dl.length m=none->Z N S)
theorem uo(T:Txt w K mg t):Af P w mg base T.eW 3 (M4 t.aj t.aR):=by
 refine T.eW.F.bX eQ ?_;rintro _ _ _ _ _ _ _ S R Z hr ⟨a,F,cs,dl,rs,m,e,hS,hn,hm,q1,q2⟩;subst e;obtain⟨ld,lr,ra,h,hF,sj⟩:=id hS;have ek:(dJ ra).map (·.1)=(rs.map (·.1)).map Sum.inr:=by rw[sj];unfold dJ gW;rw[zA,zA,zA];rfl
 have el:(dJ ra).length<64:=by rw[sj]at hn;unfold gW at hn;unfold dJ;rw[zc]at hn⊢;exact hn
 refine{_,(sc (cF (i:=2) eQ.nd<|wH (dv 0) T.ai T.cg (iE T) hr<|ac (dv 1) an)<|sc (QT (i:=3) (N:=["key","then","self"]) (src:=[none,some 2,some 0]) eQ.nd (lF (ae<|inClass bc 10) ["self","moment","then","rows"] rfl rfl<|by trivial) (il<|cb xp T.gJ fc<|ac (fl T.ai T.bJ<|dv 0) an) (r_<|show(["key","then","self"]:List Str).Nodup by trivial) (aZ rfl) a_ (λ_ _ _ _ _=>sM) λ_ _ _ _ _=>(bP<|ac (dv 0)<|ac (aG T.gb (jA T) hr<|ac (ix hr.u (fl T.ai T.bJ<|dv 2)<|dv 0)<|ac (dv 1) an) an))<|s1<|sr<|tZ (N:=["row"]) (src:=[none]) (lF (ae<|inClass bc 10) ["self","moment","then","rows"] rfl rfl<|by trivial) (il<|dv 3) (r_<|show(["row"]:List Str).Nodup by trivial) (aZ rfl) a_ (λ_ _ _ _ _=>(if1<|bh mZ hr.u (ix hr.u (dv 0) di) dn)) λ_ _ _ _ _=>(dv 0)),?_};refine{_,rfl,a,_,rfl,h.ins,rfl,_,rfl,a,F,cs,dl,rs,m,rfl,hS,hm,λi hi=>?_,λhn=>fo<|q2 hn};refine{_,rfl,a,_,_,rfl,h.ins,rfl,lr,dJ ra,rs.map (·.1),rfl,h.run,ek,el,λss hp hs p nR=>?_};have hlen:ss.length<64:=by rw[hp.length_eq,zc];exact hn
 refine{_,aa,?_};refine comp_map (λd=>match d with|.str z=>vV rs i z|_=>.ax) aa (by show(ss.map D.str).length<=1000;rw[zc];omega) (λd hd Q hQ=>?_) λp2 fV=>?_;obtain⟨z,hz,rfl⟩:=zh.mp hd;have Xx:z∈rs.map (·.1):=hp.mem_iff.mp hz;obtain⟨r,pF,e⟩:=zh.mp Xx;rw[sj]at pF;unfold gW at pF;obtain⟨r0,wJ,rfl⟩:=zh.mp pF;have e1:so ra z=some r0.2:=by cases e3:so ra z with|none=>exact absurd e (mr e3 _ wJ)|some x=>exact congrArg some<|congrArg Prod.snd<|gk (f:=λr:Str×Addr×List Std=>r.1) h.kn (cW (l:=x.1) (s:=x.2) e3) wJ e.symm
 have ed:bY (dJ ra) (.inr z)=some (.ref r0.2.1):=by rw[gX,e1];rfl
 have hc:=h.cell _ wJ;have eq:(lu rs z).getD []=r0.2.2:=by rw[sj,gB,e1];rfl
 have hQ:Q (.tup [.str z,wt ((lu rs z).getD []) i]) (S.set p<|.lst<|ss.map D.str):=hQ;rw[eq]at hQ;have Y9:(S.set p<|.lst<|ss.map D.str) a=_:=(ag<|g6 h.ins nR).trans h.ins;have xY:(S.set p<|.lst<|ss.map D.str) lr=_:=(ag<|g6 h.run nR).trans h.run;have Wc:(S.set p<|.lst<|ss.map D.str) r0.2.1=_:=(ag<|g6 hc nR).trans hc;exact{_,rfl,_,rfl,a,_,_,rfl,Y9,rfl,_,rfl,dJ ra,_,xY,ed,_,rfl,_,_,i,rfl,Wc,bW,hQ};have em:(ss.map D.str).map (λd=>match d with|.str z=>vV rs i z|_=>.ax)=ss.map (vV rs i):=by rw[zA];rfl
 refine{_,rfl,ss.map<|vV rs i,by show((S.set p _).set p2<|.lst<|(ss.map D.str).map _) p2=_;rw[aa,em],?_};refine gT vW id (by show((S.set p _).set p2<|.lst<|(ss.map D.str).map _) p2=_;rw[aa,em]) (by show(ss.map<|vV rs i).length<=1000;rw[zc];omega) (λd hd Q Q' hQ Lv=>?_) λp3 Dx=>?_;obtain⟨z,hz,rfl⟩:=zh.mp hd;refine{_,rfl,_,rfl,_,rfl,?_};exact bD (λh=>{_,rfl,hQ h}) λh=>Lv h;have Y_:S p3=none:=by cases e:S p3 with|none=>rfl|some c=>exact absurd Dx<|by rw[ag (g6 e<|by have:(S.set p<|.lst<|ss.map D.str) p2=none:=fV;cases e':S p2 with|none=>rfl|some c'=>rw[ag<|g6 e' nR,e']at this;cases this),ag<|g6 e nR,e];exact nofun
 refine{S.set p3<|.lst<|k_ rs i ss,λb c hb=>?_,q1 i ss hi hp hs p3 Y_};show((((S.set p<|.lst<|ss.map D.str).set p2 _).set p3<|.lst<|((ss.map<|vV rs i).filter vW).map id)) b=some c;rw[xZ];by_cases Za:b=p3;subst Za;rw[aa]at hb⊢;exact hb;rw[ag Za]at hb;have Zb:S p2=none:=by cases e':S p2 with|none=>rfl|some c'=>have:(S.set p<|.lst<|ss.map D.str) p2=none:=fV;rw[ag<|g6 e' nR,e']at this;cases this
 rw[ag Za,ag<|g6 hb Zb,ag<|g6 hb nR];exact hb
theorem Lw{P:Program}{w:World}{K:Frag}{mg:Str->Option Value}{base:Heap}{k:Nat}{f:Addr}{fd:FuncData}{ps:List Str}{pre:List D->Prop} (F:FnD P w K mg base k f fd ps λds S R _=>pre ds/\∀l x y z,S l=none->R (.ref l) (S.set l<|.lst [.int x,.int y,.int z])):FnD P w K mg base k f fd ps (λds S R _=>pre ds/\∀l,S l=none->R (.ref l) (S.set l .well)):=by refine F.imp λvs H Q E ⟨ds,S,R,Z,v,hS,⟨hp,h⟩,hR,hZ⟩=>{ds,S,λd S2=>∃l x y z,S l=none/\d=.ref l/\S2=S.set l (.lst [.int x,.int y,.int z]),λ_ _=>False,v,hS,{hp,λl x y z hl=>⟨l,x,y,z,hl,rfl,rfl⟩},λd S2 u H' ⟨l,x,y,z,hl,e1,e2⟩ rv hs kp=>?_,λ_ _ _ q=>q.elim};subst e1 e2;refine hR _ _ u H' (h l hl) rv ?_ kp;refine t_ (x:=x) (y:=y) (z:=z) aa ?_;rw[dX];exact hs
def Zc(ds:List D)(l:Addr):Prop:=∃m:Int,ds=[.ref l,.int m]/\0<m/\m.natAbs.log2<9000
def UM(ds:List D)(d:D):Prop:=∃(l:Addr)(m n:Int),ds=[.ref l,.int m]/\d=.int n/\0<=n/\n<m
inductive oM (ds:List D) (S:av) (R:KD) (Z:KX):Prop where
 |mk (ns:List Int) (k:Nat) (h0:ds=[.iM<|ns.map D.int,.int k]) (h1:∀c:Int,R (.int c) S):oM ds S R Z
theorem fH(T:Txt w K mg t):Ok P w base T.eB 1 oM:=by
 refine T.eB.F.bX vO ?_;rintro _ _ _ _ _ _ _ S R Z hr ⟨ns,k,e,q⟩;subst e;refine{_,(sc (si (bh uY hr.u (dv 1)<|cb aY T.aV aJ<|ac (dv 0) an) (s1<|sr<|ix hr.u (dv 0)<|dv 1) s0)<|s1<|sr di),?_};refine{_,rfl,_,rfl,_,rfl,_,rfl,?_};refine bD (λh=>?_) λh=>?_;have h:(k:Int)<(((ns.map D.int).length:Nat):Int):=zC h;have hk:k<ns.length:=by rw[zc]at h;lia
 exact{_,rfl,_,rfl,.int ns[k],dw<|by rw[zq];simp[hk],fo<|q _};exact fo<|q 0
theorem vX(T:Txt w K mg t):Ok P w base T.qZ 1 (λds S R _=>(∃c:Int,ds=[.int c])/\∀l,S l=none->R (.ref l) (S.set l .well)):=by refine Lw ?_;refine T.qZ.F.ok Fv (by rintro ds S R Z ⟨⟨_,e⟩,_⟩;rw[e];rfl) ?_;rintro _ _ _ _ _ _ _ S R Z hr ⟨⟨c,e⟩,q⟩;subst e;refine{_,(s1<|sr<|dR<|ac (bo kl hr.u (dv 0)<|ct Hq T.Di uO<|ac (cm XR hr.u (dv 0)<|bo CP hr.u di di) an)<|ac (bo i8 hr.u (dv 0) di)<|ac di an),?_};refine{_,rfl,_,rfl,{by decide,by decide,by decide},.inr {_,rfl,?_}};refine{.inr {by split<;>decide,by split<;>decide},_,rfl,by decide,gR,λl hl=>fo<|q l _ _ _ hl}
theorem Lx(T:Txt w K mg t):Ok P w base T.aQ 1 (HC Zc UM):=by refine E1 ?_;refine T.aQ.F.ok eF (by rintro ds S R Z ⟨_,_,_,_,⟨_,e,_⟩,_⟩;rw[e];rfl) ?_;rintro _ _ _ _ _ _ _ S R Z hr ⟨l,x,y,z,⟨m,e,hm,hlg⟩,hl,q⟩;subst e;refine{_,(sc (si (bh qB hr.u (ix hr.u (dv 0) di) di) (sc (cF (i:=2) eF.nd<|bo i8 hr.u (ix hr.u (dv 0) di)<|dv 1)<|sc (sls (dv 0) di<|bo uX hr.u (ix hr.u (dv 0) di)<|dv 1)<|s1<|sr<|dv 2) s0)<|sc (cF (i:=2) eF.nd di)<|sc (xq<|Hy (QS T.jK<|ac (bo bu hr.u di<|bo kl hr.u di<|ct Hq T.Di uO<|ac (cm qB hr.u (dv 1)<|bo CP hr.u di di) an) an) (gn (i:=3) eF.nd)<|sc (sls (dv 0) di<|bo bu hr.u (ix hr.u (dv 0) di) di)<|sc (cF (i:=4) eF.nd<|bo i8 hr.u (bo kl hr.u (bo bu hr.u (bo bu hr.u (ix hr.u (dv 0) di)<|bo kl hr.u di<|ix hr.u (dv 0) di) di) di) di)<|sc (cF (i:=4) eF.nd<|bo i8 hr.u (bo kl hr.u (dv 4)<|bo bu hr.u (bo uX hr.u (dv 4) di) di) di)<|s1<|cF (i:=2) eF.nd<|bo bu hr.u (bo kl hr.u (dv 2) di)<|bo i8 hr.u (bo kl hr.u (dv 4)<|bo bu hr.u (bo uX hr.u (dv 4) di) di) di)<|s1<|sr<|bo i8 hr.u (dv 2)<|dv 1),?_};refine{_,rfl,_,_,hl,rfl,_,rfl,?_};refine bD (λh=>?_) λh=>?_;refine{_,rfl,_,_,hl,rfl,_,rfl,hm,?_};refine{_,rfl,_,_,hl,rfl,_,rfl,⟨hm,hlg⟩,_,rfl,l,_,0,0,rfl,rfl,hl,rfl,?_};exact{_,rfl,fo<|q _ _ _ _ {l,m,_,rfl,rfl,Int.emod_nonneg _<|by lia,Int.emod_lt_of_pos _ hm}};refine{λaC S'=>∃(f:Int)(o1 o2:Option D)(x y z:Int),aC=[some<|.ref l,some<|.int m,some<|.int f,o1,o2]/\S'=S.set l (.lst [.int x,.int y,.int z]),?_,?_};refine{_,rfl,{by decide,by decide,by decide},.inr {_,rfl,.inl {by decide,by decide},_,rfl,?_,?_,?_}};split<;>decide;split<;>decide;refine{λi aC S'=>∃(f:Int)(o1 o2:Option D)(x y z:Int),aC=[some<|.ref l,some<|.int m,some<|.int f,o1,o2]/\S'=S.set l (.lst [.int x,.int y,.int z]),{0,none,none,x,y,z,rfl,?_},λ_ _ _ _=>trivial,?_,λaC S' h=>fo h};funext b;unfold av.set;split;rename_i h;rw[h];exact hl;rfl;rintro i d aC S' hd ⟨f,o1,o2,x,y,z,rfl,rfl⟩;have Lz:(S.set l<|.lst [.int x,.int y,.int z]) l=some (.lst [.int x,.int y,.int z]):=aa;refine{_,rfl,_,_,Lz,rfl,_,rfl,l,_,2,2,rfl,rfl,Lz,rfl,?_};rw[dX,show([D.int x,D.int y,D.int z].set 2<|D.int<|z+1)=[D.int x,D.int y,D.int<|z+1] from rfl];have wD:(S.set l<|.lst [.int x,.int y,.int<|z+1]) l=some (.lst [.int x,.int y,.int<|z+1]):=aa;refine{_,rfl,_,_,wD,rfl,_,rfl,_,_,wD,rfl,.inl {by decide,by decide},.inr {by decide,by decide},(show(0:Int)<2147483647 by decide),?_};have nb:∀z:Int,0<=z%2147483647/\z%2147483647<2147483647:=λz=>{Int.emod_nonneg z<|by decide,Int.emod_lt_of_pos z<|by decide};have n1:=nb<|(y+7919*(z+1)+1)*48271;generalize (y+7919*(z+1)+1)*48271%2147483647=u at *;refine{_,rfl,_,rfl,{by decide,by trivial},.inl {by lia,by lia},(show(0:Int)<2147483647 by decide),?_};have n2:=nb<|u*(u/1009+69621);generalize u*(u/1009+69621)%2147483647=v at *;exact{_,rfl,.inr {by decide,by decide},_,rfl,_,rfl,{by decide,by trivial},.inl {by lia,by lia},(show(0:Int)<2147483399 by decide),_,_,_,_,_,_,rfl,rfl};rintro aC S' ⟨f,o1,o2,x,y,z,rfl,rfl⟩;exact{_,rfl,_,rfl,hm,fo<|q _ _ _ _ {l,m,_,rfl,rfl,Int.emod_nonneg _<|by lia,Int.emod_lt_of_pos _ hm}}
inductive Iw (ds:List D) (S:av) (R:KD) (Z:KX):Prop where
 |mk (l:Addr) (m:Int) (h0:ds=[.ref l,.int m]) (h1:0<m) (h2:m.natAbs.log2<9000) (h3:S l=some .well) (h4:∀n:Int,0<=n->n<m->R (.int n) S):Iw ds S R Z
theorem bA{P:Program}{w:World}{K:Frag}{mg:Str->Option Value}{base:Heap}{t:hW}(T:Txt w K mg t):Ok P w base T.aQ 1 Iw:=(Lx T).Hz <| by rintro ds S R Z ⟨l,m,e,h0,h1,hw,q⟩;exact{l,⟨m,e,h0,h1⟩,hw,by rintro d ⟨l',m',n,e1,e2,a,b⟩;exact by rw[e]at e1;cases e1;subst e2;exact q n a b}
theorem wl{S:av}{l p:Addr}{c:Ce}(hw:S l=some .well)(hp:S p=none):(S.set p c) l=some .well:=(ag<|g6 hw hp).trans hw
theorem cu{L:List D}{S:av}{p:Addr}{n:Int}{R:KD}(h0:0<=n)(h1:n<(L.length:Int))(hp:S p=none)(q:∀d,d∈L->R d S):XT p n (S.set p<|.lst L) λd S'=>Fo S' (R d):=by obtain⟨v,e1,e2⟩:=uP (l:=L) h0 h1;exact{L,v,aa,e1,S,.new hp,q v<|zx e2}
theorem vY{m:Int}(h0:0<m)(h1:m<=8000):m.natAbs.log2<9000:=by
 have h2:m.natAbs<=8000:=by omega
 have h3:m.natAbs.log2<=m.natAbs:=Nat.log2_le_self _;omega
noncomputable abbrev KT:List Str:=["a","ab","b","abc","a1","key","z","ba","b2","abcdefghijkl"]
noncomputable abbrev Zd:List Str:=["k0","k1","k2","k3","k4","k5","k6","k7","k8","k9","k10","k11","k12","k13","k14","k15","k16","k17","k18","k19","k20","k21","k22","k23","k24","k25","k26","k27","k28","k29"]
noncomputable abbrev KS:List Str:=KT++Zd
theorem x5(h:z∈KT):z∈KS:=zQ _ h
theorem eR:∀z∈KS,j5 z=true/\z.cps.size<=12/\PyData.strOk z=true:=by trivial
noncomputable abbrev vZ:List Str:=["key","up","a","at","ab","mark","every","now"]
theorem BP:∀z∈vZ,kz z=true/\PyData.strOk z=true:=by trivial
noncomputable def cQ:D->Bool|.ax=>true|.int _=>true|.str z=>decide (z.cps.size<=40)&&PyData.strOk z|_=>false
def Vg(kind:Str)(d:D):Prop:=jw kind d=true/\cQ d=true
noncomputable abbrev STS:List Str:=["","a","ab","b","A b","#"]
noncomputable abbrev SUF:List Str:=["","a","\""]
theorem Iy:∀a∈("~~~~~~~~~~~~~~~~~~~~~~~~~~~~~~~~~~~~~~~": Str)::STS,∀b∈SUF,uj (a++b)=true/\(a++b).cps.size<=40/\PyData.strOk (a++b)=true/\a.length+b.length<=1000:=by trivial
theorem PM:PySem.Txt.mul "~" 39 ="~~~~~~~~~~~~~~~~~~~~~~~~~~~~~~~~~~~~~~~":=by trivial
theorem PN:MulOk "~" 39:={by decide,by decide,by trivial}
def UN(pre:List D->Prop)(post:List D->D->Prop):iV:=λds S R _=>∃l r,ds=.ref l::r/\pre r/\S l=some .well/\∀d,post r d->R d S
theorem BQ(T:Txt w K mg t):Ok P w base T.xQ 2 (UN (·=[]) λ_ d=>∃z∈KT,d=.str z):=by refine T.xQ.F.ok Ik (by rintro ds S R Z ⟨_,_,e,e2,_⟩;rw[e,e2];rfl) ?_;rintro _ _ _ _ _ _ _ S R Z hr ⟨l,r,e,e2,hw,q⟩;subst e e2;refine{_,(s1<|sr<|CY<|ix hr.u (dR<|ac ds<|ac ds<|ac ds<|ac ds<|ac ds<|ac ds<|ac ds<|ac ds<|ac ds<|ac ds an)<|aG T.aQ (bA T) hr<|ac (dv 0)<|ac di an),?_};refine{UG,λp hp=>{_,rfl,l,_,rfl,(by decide),(by decide),wl hw hp,λn h0 h1=>cu h0 h1 hp λd hd=>?_}};have hd:d∈KT.map D.str:=hd;obtain⟨z,hz,rfl⟩:=zh.mp hd;exact fo<|q _ ⟨z,hz,rfl⟩
theorem rD(T:Txt w K mg t):Ok P w base T.mf 2 (UN (λr=>r=[.str "number"]\/r=[.str "word"]) λr d=>∃k,r=[.str k]/\Vg k d):=by
 refine T.mf.F.ok rh (λds S R Z ⟨_,_,e,e2,_⟩=>by rw[e];rcases e2 with e2|e2<;>rw[e2]<;>rfl) λfU A outer s H E ds S R Z hr ⟨l,r,e,e2,hw,q⟩=>?_;subst e;obtain⟨k,rfl,hk⟩:∃k,r=[.str k]/\(k ="number"\/k ="word"):=by rcases e2 with e|e;exact{_,e,.inl rfl};exact{_,e,.inr rfl}
 have q:∀d,Vg k d->R d S:=λd hd=>q d ⟨k,rfl,hd⟩;have hint:k ="number"->∀i:Int,R (.int i) S:=λe i=>q _ {by rw[e];rfl,rfl};refine{_,(sc (si (bh bj hr.u (aG T.aQ (bA T) hr<|ac (dv 0)<|ac di an) di) (s1<|sr dn) s0)<|sc (si (twd<|twand (bh bj hr.u (dv 1) ds)<|tw1<|bh bj hr.u (aG T.aQ (bA T) hr<|ac (dv 0)<|ac di an) di) (s1<|sr<|bo ot hr.u (aG T.aQ (bA T) hr<|ac (dv 0)<|ac (bo kl hr.u di<|bo CP hr.u di di) an)<|bo CP hr.u di di) s0)<|sc (si (bh bj hr.u (dv 1) ds) (s1<|sr<|bo ot hr.u (aG T.aQ (bA T) hr<|ac (dv 0)<|ac di an) di) s0)<|sc (cF (i:=2) rh.nd<|CY<|ix hr.u (dR<|ac ds<|ac ds<|ac ds<|ac ds<|ac ds<|ac ds<|ac (bo kl hr.u ds di) an)<|aG T.aQ (bA T) hr<|ac (dv 0)<|ac di an)<|s1<|sr<|bo bu hr.u (dv 2)<|CY<|ix hr.u (dR<|ac ds<|ac ds<|ac ds<|ac ds an)<|aG T.aQ (bA T) hr<|ac (dv 0)<|ac di an),?_};refine{_,rfl,l,_,rfl,(by decide),(by decide),hw,λn h0 h1=>{_,rfl,?_}};refine bD (λh=>?_) λh=>?_;exact fo<|q .ax ⟨rfl,rfl⟩;refine{_,rfl,_,rfl,?_};refine bD (λh2=>?_) λh2=>?_;have ek:k ="number":=zC h2;refine{_,rfl,l,_,rfl,(by decide),(by decide),hw,λn1 h01 h11=>{_,rfl,?_}};refine bD (λh3=>?_) λh3=>?_;refine{_,rfl,{by decide,by decide,by decide},.inl {by decide,by decide},l,_,rfl,(by trivial),(by trivial),hw,λn2 Ze Zg=>{{by decide,by decide,by decide},fo<|hint ek _}};refine{_,rfl,_,rfl,?_};show if decide (k ="number")=true then _ else _;rw[zr ek];exact cN {_,rfl,l,_,rfl,(by decide),(by decide),hw,λn2 Ze Zg=>fo<|hint ek _};have ek:¬k ="number":=zM h2;have ek':k ="word":=hk.resolve_left ek;refine{_,rfl,_,rfl,?_};show if decide (k ="number")=true then _ else _;rw[zo ek];refine bb ?_;refine{PN,YZ,λp hp=>{_,rfl,l,_,rfl,(by decide),(by decide),wl hw hp,λn1 h01 h11=>cu h01 h11 hp λd hd=>?_}};rw[PM]at hd;have hd:d∈[D.str "",.str "a",.str "ab",.str "b",.str "A b",.str "#",.str "~~~~~~~~~~~~~~~~~~~~~~~~~~~~~~~~~~~~~~~"]:=hd;obtain⟨a,ha,rfl⟩:∃a∈("~~~~~~~~~~~~~~~~~~~~~~~~~~~~~~~~~~~~~~~": Str)::STS,d=.str a:=by simp only[zf,zB,or_false]at hd;rcases hd with h|h|h|h|h|h|h<;>exact{_,by simp,h}
 refine{_,rfl,nJ,λp2 fV=>{_,rfl,l,_,rfl,(by decide),(by decide),wl hw fV,λn2 Ze Zg=>cu Ze Zg fV λd hd=>?_}};have hd:d∈[D.str "",.str "",.str "a",.str "\""]:=hd;obtain⟨b,hb,rfl⟩:∃b∈SUF,d=.str b:=by simp only[zf,zB,or_false]at hd;rcases hd with h|h|h|h<;>exact{_,by simp,h}
 obtain⟨w1,w2,w3,w4⟩:=Iy a ha b hb;refine{sm w4,fo<|q _ {?_,?_}};rw[ek'];show(false||if ("word": Str) ="number" then _ else uj (a++b))=true;rw[if_neg<|by decide,w1];rfl;show(decide ((a++b).cps.size<=40)&&PyData.strOk (a++b))=true;rw[zr w2,w3];rfl
def Wg(cs:List<|Str×Str)(ws:List D):Prop:=Paired (λ(c:Str×Str) v=>Vg c.2 v) cs ws
theorem rE{rel:(Str×Str)->D->Prop} : ∀{cs:List (Str×Str)}{out:List D},Paired (λd v=>∃c,d=aA c/\rel c v) (cs.map aA) out->Paired (λc v=>rel c v) cs out
 |[],_,.nil=>.nil
 |c::cs,_,.cons ⟨c',e,r⟩ t=>by
  have:c=c':=by unfold aA at e;injection e with e;injection e with e1 e2;injection e1 with e1;injection e2 with e2 _;injection e2 with e2;exact Prod.ext e1 e2
  subst this;exact .cons r<|rE t
noncomputable def x6(tr j:Nat):Str:=vZ.getD ((j+tr)%8) ""
theorem Iz:∀tr<8,∀i<9,((List.range i).map<|x6 tr).Nodup:=by trivial
theorem PQ(tr j:Nat):x6 tr j∈vZ:=by have:(j+tr)%8<8:=Nat.mod_lt _ (by decide);unfold x6;rw[zH,zg<|show(j+tr)%8<vZ.length from this];exact List.getElem_mem _
inductive rF (ds:List D) (S:av) (R:KD) (Z:KX):Prop where
 |mk (l cs) (h0:ds=[.ref l,.tup<|cs.map aA]) (h1:Gd cs) (h2:S l=some .well) (h3:∀ws,Wg cs ws->R (.tup ws) S):rF ds S R Z
theorem jP(T:Txt w K mg t):Ok P w base T.gN 3 rF:=by refine T.gN.F.bX xW ?_;rintro _ _ _ _ _ _ _ S R Z hr ⟨l,cs,e,hg,hw,q⟩;subst e;refine{_,(s1<|sr<|ct fX T.bp aS<|ac (tZ (N:=["_law_column","_law_well_here"]) (src:=[none,some 0]) (lF (ae Bs) ["_law_well_here","_law_columns_here"] rfl rfl<|by trivial) (Hx<|dv 1) (r_<|show(["_law_column","_law_well_here"]:List Str).Nodup by trivial) (aZ rfl) a_ (λ_ _ _ _ _=>sM) λ_ _ _ _ _=>(aG T.mf (rD T) hr<|ac (dv 1)<|ac (ix hr.u (dv 0) di) an)) an),?_};refine{_,rfl,_,.inl rfl,?_};refine fF (λd v=>∃c:Str×Str,d=aA c/\Vg c.2 v) trivial (by show(cs.map aA).length<=1000;rw[zc];have:=hg.1;lia) (λd hd Q hQ=>?_) λout hp p nR=>?_;obtain⟨c,hc,rfl⟩:=zh.mp hd;refine{_,rfl,_,rfl,.str c.2,rfl,l,_,rfl,?_,hw,λv ⟨k,e,hv⟩=>hQ v {c,rfl,?_}};rcases (hg.2.2 c hc).2 with e|e<;>rw[e];exact .inl rfl;exact .inr rfl;cases e;exact hv;exact{_,out,rfl,.inl aa,S,.new nR,q out<|rE hp}
inductive oN (ds:List D) (S:av) (R:KD) (Z:KX):Prop where
 |mk (l) (h0:ds=[.ref l]) (h1:S l=some .well) (h2:∀cs,Gd cs->(∀c∈cs,c.1∈vZ)->R (.tup<|cs.map aA) S):oN ds S R Z
theorem BR(T:Txt w K mg t):Ok P w base T.nE 2 oN:=by
 refine T.nE.F.bX dI ?_;rintro _ _ _ _ _ _ _ S R Z hr ⟨l,e,hw,q⟩;subst e;refine{_,(sc (cF (i:=1) dI.nd<|dR<|ac ds<|ac ds<|ac ds<|ac ds<|ac ds<|ac ds<|ac ds<|ac ds an)<|sc (cF (i:=2) dI.nd<|aG T.aQ (bA T) hr<|ac (dv 0)<|ac di an)<|sc (cF (i:=3) dI.nd<|dR an)<|sc (xq<|Hy (QS T.jK<|ac (CY<|ix hr.u (dR<|ac di<|ac di<|ac di<|ac (aG T.aQ (bA T) hr<|ac (dv 0)<|ac di an) an)<|aG T.aQ (bA T) hr<|ac (dv 0)<|ac di an) an) (gn (i:=4) dI.nd)<|s1<|se<|bm zS yc yd dy (dv 3)<|ac (bP<|ac (ix hr.u (dv 1)<|bo i8 hr.u (bo bu hr.u (dv 4)<|dv 2) di)<|ac (CY<|ix hr.u (dR<|ac ds<|ac ds an)<|aG T.aQ (bA T) hr<|ac (dv 0)<|ac di an) an) an)<|s1<|sr<|ct fX T.bp aS<|ac (dv 3) an),?_};refine{Y0,λln QU=>{_,rfl,l,_,rfl,(by decide),(by decide),wl hw QU,λtr ht0 ht1=>{vR,λlf IA=>?_}}};obtain⟨tn,rfl⟩:∃n:Nat,tr=(n:Int):={tr.toNat,by lia};have htn:tn<8:=by lia
 have nfl:lf≠ln:=by rintro rfl;rw[aa]at IA;cases IA
 have UO:S lf=none:=by rw[ag nfl]at IA;exact IA
 refine{λaC S'=>∃(o:Option D)(cs:List (Str×Str)),aC=[some<|.ref l,some<|.ref ln,some<|.int tn,some<|.ref lf,o]/\Gd cs/\(∀c∈cs,c.1∈vZ)/\S'=S.set lf (.lst<|cs.map aA),?_,?_};have pP:=wl (c:=.lst []) (wl (c:=.lst [.str "key",.str "up",.str "a",.str "at",.str "ab",.str "mark",.str "every",.str "now"]) hw QU) IA;refine{_,rfl,l,_,rfl,(by decide),(by decide),pP,λn9 h90 h91=>{nJ,λp hp=>{_,rfl,l,_,rfl,(by decide),(by decide),wl pP hp,λn4 Wd Zh=>cu Wd Zh hp λd hd=>?_}}};obtain⟨m,rfl,hm⟩:∃m:Nat,d=.int m/\m<=8:=by have hd:d∈[D.int 1,.int 2,.int 3,.int n9]:=hd;simp only[zf,zB,or_false]at hd;rcases hd with h|h|h|h;exact{1,h,by decide};exact{2,h,by decide};exact{3,h,by decide};exact{n9.toNat,by rw[h];congr 1;lia,by lia}
 refine{m,rfl,by lia,by lia,?_};refine{λi aC S'=>∃(o:Option D)(cs:List (Str×Str)),aC=[some<|.ref l,some<|.ref ln,some<|.int tn,some<|.ref lf,o]/\cs.map Prod.fst=(List.range i).map (x6 tn)/\(∀c∈cs,c.2 ="number"\/c.2 ="word")/\S'=(S.set ln<|.lst<|vZ.map D.str).set lf (.lst<|cs.map aA),{none,[],rfl,rfl,λ_ h=>(nomatch h),rfl},λ_ _ _ _=>trivial,?_,?_};rintro i d aC S' hd ⟨o,cs,rfl,hn,hk,rfl⟩;obtain⟨hi,rfl⟩:=i_ hd;have hi:i<m:=by simpa using hi
 have EJ:cs.length=i:=by have:=congrArg List.length hn;simpa using this
 generalize Du:(S.set ln<|.lst<|vZ.map D.str).set lf (.lst<|cs.map aA)=S2;have ef:S2 lf=some (.lst<|cs.map aA):=by rw[<-Du,aa]
 have en:S2 ln=some (.lst<|vZ.map D.str):=by rw[<-Du,ag nfl.symm,aa]
 have ew:S2 l=some .well:=by rw[<-Du,ag<|g6 hw UO,ag<|g6 hw QU];exact hw
 have enm:uG (vZ.map D.str) (((0:Int)+(i:Nat)+(tn:Nat))%8)=some (.str<|x6 tn i):=by have e:((0:Int)+(i:Nat)+(tn:Nat))%8=(((i+tn)%8:Nat):Int):=(by lia);have dW:(i+tn)%8<8:=Nat.mod_lt _ (by decide);rw[e];refine dw ?_;rw[zq];unfold x6;rw[zH,zg<|show(i+tn)%8<vZ.length from dW];rfl
 refine{_,rfl,{rfl,_,ef},_,rfl,_,rfl,_,rfl,(show(0:Int)<8 by decide),_,_,en,enm,bW,λp hp=>{_,rfl,l,_,rfl,(by decide),(by decide),wl ew hp,λn2 PR IB=>cu PR IB hp λd hd=>?_}};obtain⟨kd,rfl,IC⟩:∃kd:Str,d=.str kd/\(kd ="number"\/kd ="word"):=by have hd:d∈[D.str "number",.str "word"]:=hd;simp only[zf,zB,or_false]at hd;rcases hd with h|h;exact{_,h,.inl rfl};exact{_,h,.inr rfl}
 refine{bW,lf,_,_,rfl,rfl,ef,bg<|by rw[zc];lia,_,cs++[(x6 tn i,kd)],rfl,?_,?_,?_};rw[zI,hn,List.range_succ,zI];rfl;intro c hc;rcases zJ.mp hc with h|h;exact hk c h;rw[zD.mp h];exact IC;rw[<-Du,dX,zI];rfl;rintro aC S' ⟨o,cs,rfl,hn,hk,rfl⟩;rw[dA]at hn;have hn:cs.map Prod.fst=(List.range m).map (x6 tn):=by simpa using hn
 have EJ:cs.length=m:=by have:=congrArg List.length hn;simpa using this
 have Mw:∀c∈cs,c.1∈vZ:=λc hc=>by have:c.1∈cs.map Prod.fst:=zh.mpr ⟨c,hc,rfl⟩;rw[hn]at this;obtain⟨j,_,e⟩:=zh.mp this;rw[<-e];exact PQ tn j
 refine{S.set lf<|.lst<|cs.map aA,λb c hb=>?_,o,cs,rfl,{by lia,by rw[hn];exact Iz tn htn m<|by lia,λc hc=>{(BP _<|Mw c hc).1,hk c hc}},Mw,rfl};by_cases Zi:b=lf;subst Zi;rw[aa]at hb⊢;exact hb;rw[ag Zi]at hb;rw[ag Zi,ag<|g6 hb QU];exact hb;rintro aC S' ⟨o,cs,rfl,hg,Mw,rfl⟩;exact{_,rfl,_,cs.map aA,rfl,.inl aa,S,.new UO,q cs hg Mw}
abbrev Kn:=List<|Str×List D
noncomputable def g7(kn:Kn):List (Key×D):=kn.map λr=>(Sum.inr r.1,D.tup r.2)
noncomputable def gm(kn:Kn)(z:Str):Option (List D):=(kn.find? λr=>decide<|r.1=z).map (·.2)
structure KI(cs:List (Str×Str))(kn:Kn):Prop where
 nd:(kn.map (·.1)).Nodup
 ok:∀r∈kn,r.1∈KS/\Wg cs r.2
theorem bH:gm (r::kn) k=if r.1=k then some r.2 else gm kn k:=by unfold gm;rw[zT];by_cases h:r.1=k;rw[zr h,if_pos h];rfl;rw[zo h,if_neg h]
theorem x8(kn:Kn)(k:Str):bY (g7 kn) (.inr k)=(gm kn k).map D.tup:=by induction kn with|nil=>rfl|cons r kn ih=>rw[bH];unfold bY g7 at *;rw[zE,zT];by_cases h:r.1=k;have:decide ((Sum.inr r.1:Key)=.inr k)=true:=zr (by rw[h]);dsimp only;rw[this,if_pos h];rfl;have:decide ((Sum.inr r.1:Key)=.inr k)=false:=zo λe=>h<|yH e;dsimp only;rw[this,if_neg h];exact ih
theorem mx(h:gm kn k=some ws):(k,ws)∈kn:=by induction kn with|nil=>(cases h)|cons r kn ih=>rw[bH]at h;by_cases hk:r.1=k;rw[if_pos hk]at h;cases h;rw[<-hk];exact zp;rw[if_neg hk]at h;exact zi _<|ih h
theorem nS(h:k∈kn.map (·.1)):∃ws,gm kn k=some ws:=by induction kn with|nil=>(cases h)|cons r kn ih=>rw[bH];by_cases hk:r.1=k;exact{r.2,if_pos hk};rw[if_neg hk];rw[zE]at h;rcases zf.mp h with e|h;exact absurd e.symm hk;exact ih h
theorem sub_len[DecidableEq α]:∀{l m:List α},l.Nodup->(∀x∈l,x∈m)->l.length<=m.length|[],m,_,_=>zU _|a::l,m,nd,h=>by obtain⟨n1,n2⟩:=ye.mp nd;have h1:=sub_len (m:=m.erase a) n2 λx hx=>(List.mem_erase_of_ne λe=>n1<|by rw[<-e];exact hx).mpr<|h x<|zi _ hx;have h2:=List.length_erase_of_mem<|h a zp;have h3:0<m.length:=List.length_pos_of_mem<|h a zp;rw[zO];omega
theorem KI.len(h:KI cs kn):kn.length<=40:=by
 have:=sub_len h.nd (m:=KS) λx hx=>by obtain⟨r,hr,rfl⟩:=zh.mp hx;exact(h.ok r hr).1
 rw[zc]at this;exact this
noncomputable def my(kn:Kn)(z:Str)(ws:List D):Kn:=if (gm kn z).isSome then kn.map λr=>if r.1=z then (r.1,ws) else r else kn++[(z,ws)]
noncomputable def v5(kn:Kn)(z:Str):Kn:=kn.filter λr=>decide<|r.1≠z
theorem PU(kn:Kn)(z:Str)(ws:List D):dput (g7 kn) (.inr z) (.tup ws)=g7 (my kn z ws):=by
 unfold dput my;have e:((g7 kn).any λkv=>decide<|kv.1=.inr z)=(gm kn z).isSome:=by induction kn with|nil=>rfl|cons r kn ih=>unfold g7 at *;rw[zE,yJ,ih,bH];by_cases h:r.1=z;rw[if_pos h,zr<|by rw[h],Bool.true_or];rfl;rw[if_neg h,zo λe=>h<|yH e,yM]
 rw[e];split;unfold g7;rw[zA,zA];refine zW λr _=>?_;dsimp only[Function.comp];by_cases h:r.1=z;rw[if_pos h,if_pos<|by rw[h]];rw[if_neg h,if_neg λe=>h<|yH e];unfold g7;rw[zI];rfl
theorem PX(kn:Kn)(z:Str):xl (g7 kn) (.inr z)=g7 (v5 kn z):=by unfold xl v5 g7;rw[List.filter_map];congr 1;refine List.filter_congr λr _=>?_;dsimp only[Function.comp];rw[yG];exact{λh e=>h<|by rw[e],λh e=>h<|yH e}
theorem LA:gm (my kn z ws) k=if k=z then some ws else gm kn k:=by
 unfold my;by_cases hs:(gm kn z).isSome=true;rw[if_pos hs];by_cases hk:k=z;subst hk;rw[if_pos rfl];induction kn with|nil=>(cases hs)|cons r rs ih=>rw[zE,bH];by_cases h:r.1=k;rw[if_pos h,if_pos h];rw[if_neg h,if_neg h];rw[bH,if_neg h]at hs;exact ih hs
 rw[if_neg hk];clear hs;induction kn with|nil=>rfl|cons r rs ih=>rw[zE,bH,bH,ih];by_cases h:r.1=z;rw[if_pos h,if_neg<|show ¬r.1=k from λe=>hk<|e.symm.trans h,if_neg<|show ¬r.1=k from λe=>hk<|e.symm.trans h];rw[if_neg h]
 rw[if_neg hs];have hn:gm kn z=none:=by cases e:gm kn z<;>simp_all
 clear hs;induction kn with|nil=>rw[List.nil_append,bH];by_cases hk:k=z;rw[if_pos hk,if_pos hk.symm];rw[if_neg hk,if_neg λe=>hk e.symm]|cons r rs ih=>rw[bH]at hn;by_cases h:r.1=z;rw[if_pos h]at hn;cases hn;rw[if_neg h]at hn;rw[List.cons_append,bH,bH,ih hn];by_cases h2:r.1=k;rw[if_pos h2,if_pos h2,if_neg<|show ¬k=z from λe=>h<|h2.trans e];rw[if_neg h2,if_neg h2]
theorem LB:gm (v5 kn z) k=if k=z then none else gm kn k:=by unfold v5;induction kn with|nil=>(split<;>rfl)|cons r kn ih=>rw[yz,bH];by_cases h:r.1=z;rw[if_neg<|by simp[h],ih];by_cases hk:k=z;rw[if_pos hk,if_pos hk];rw[if_neg hk,if_neg hk,if_neg<|show ¬r.1=k from λe=>hk<|e.symm.trans h];rw[if_pos<|by simp[h],bH,ih];by_cases hk:k=z;rw[if_pos hk,if_pos hk,if_neg<|show ¬r.1=k from λe=>h<|e.trans hk];rw[if_neg hk,if_neg hk]
theorem KI.put(h:KI cs kn)(hz:z∈KS)(hw:Wg cs ws):KI cs (my kn z ws):=by
 unfold my;split;refine{?_,λr hr=>?_};have:(kn.map λr=>if r.1=z then (r.1,ws) else r).map (·.1)=kn.map (·.1):=by rw[zA];exact zW λr _=>by dsimp only[Function.comp];split<;>rfl
 rw[this];exact h.nd;obtain⟨r0,wJ,e⟩:=zh.mp hr;by_cases q:r0.1=z;rw[if_pos q]at e;subst e;exact{(h.ok r0 wJ).1,hw};rw[if_neg q]at e;subst e;exact h.ok r0 wJ;rename_i hs;refine{?_,λr hr=>?_};rw[zI];refine lQ h.nd λm=>hs ?_;obtain⟨Q8,e⟩:=nS m;show(gm kn z).isSome=true;rw[show gm kn z=some Q8 from e];rfl;rcases zJ.mp hr with hr|hr;exact h.ok r hr;rw[zD.mp hr];exact⟨hz,hw⟩
theorem KI.del(h:KI cs kn)(z:Str):KI cs (v5 kn z):={(List.Sublist.map _ List.filter_sublist).nodup h.nd,λr hr=>h.ok r (yu.mp hr).1}
def GD(ks:List Str)(cs:List<|Str×Str)(kn:Kn)(d:D):Prop:=(∃z ws,z∈ks/\Wg cs ws/\gm kn z=none/\d=.tup [.str "put",.str z,.tup ws])\/(∃z ws,z∈KS/\Wg cs ws/\(gm kn z).isSome=true/\d=.tup [.str "change",.str z,.tup ws])\/∃z,z∈KS/\(gm kn z).isSome=true/\d=.tup [.str "take",.str z]
def Ly(S:av)(n:Nat)(d:D):Prop:=∃p,Dp S d p/\p.canLay0=true/\p.depth<=n
theorem Ly.all:∀{ds:List D},(∀d∈ds,Ly S n d)->∃ps:List PyData,DpAll S ds ps/\PyData.canLayAll0 ps=true/\PyData.depthAll ps<=n/\ps.length=ds.length|[],_=>{[],by simp only[DpAll],rfl,zU _,rfl}|d::ds,h=>by obtain⟨p,h1,h2,h3⟩:=h d zp;obtain⟨ps,k1,k2,k3,k4⟩:=Ly.all λx hx=>h x<|zi _ hx;refine{p::ps,by simp only[DpAll];exact⟨p,ps,rfl,h1,k1⟩,by simp only[PyData.canLayAll0,h2,k2,Bool.and_self],by simp only[PyData.depthAll];lia,by rw[zO,zO,k4]}
theorem Ly.tup{S:av}{n:Nat}{ds:List D}(h:∀d∈ds,Ly S n d):Ly S (n+1) (.tup ds):=by obtain⟨ps,k1,k2,k3,_⟩:=Ly.all h;exact{.tuple ps,by simp only[Dp];exact⟨ps,rfl,k1⟩,by simp only[PyData.canLay0];exact k2,by simp only[PyData.depth];lia}
theorem Ly.str{S:av}{z:Str}(h:PyData.strOk z=true):Ly S 0 (.str z):={.str z,by simp only[Dp],by simp only[PyData.canLay0];exact h,by simp only[PyData.depth];lia}
theorem Ly.le(h:Ly S n d)(l:n<=m):Ly S m d:=by obtain⟨p,a,b,c⟩:=h;exact{p,a,b,zK c l}
theorem Ly.ax:Ly S 0 .ax:={.none,by simp only[Dp],by simp only[PyData.canLay0],by simp only[PyData.depth];lia}
theorem Ly.plain(h:cQ d=true):Ly S 0 d:=by cases d with|ax=>exact Ly.ax|int i=>exact{.int i,by simp only[Dp],by simp only[PyData.canLay0],by simp only[PyData.depth];lia}|str z=>have h:(decide (z.cps.size<=40)&&PyData.strOk z)=true:=h;rw[zL]at h;exact Ly.str h.2|_=>cases h
theorem Ly.dl(h:Ly S n d):∃p,Dl S d p/\p.canLay0=true/\p.depth<=n:=by obtain⟨p,a,b,c⟩:=h;refine{p,?_,b,c};cases d with|ref x=>simp only[Dp]at a|_=>exact a
theorem rG(ps:List PyData):PyData.eqv (.list ps) (.list [])=ps.isEmpty:=by cases ps<;>simp[PyData.eqv,PyData.eqvAll]
theorem ID(ps:List PyData):PyData.eqv (.tuple ps) (.tuple [])=ps.isEmpty:=by cases ps<;>simp[PyData.eqv,PyData.eqvAll]
theorem eq_nil{S:av}{a b:Addr}{ds:List D}{R:KD}(e1:S a=some (.lst ds))(e2:S b=some (.lst []))(h:∀d∈ds,Ly S 60 d)(q:R (.bl ds.isEmpty) S):JD false (.ref a) (.ref b) S R:=by obtain⟨ps,k1,k2,k3,k4⟩:=Ly.all h;refine{.list ps,.list [],⟨ds,ps,e1,rfl,k1⟩,{[],[],e2,rfl,by simp only[DpAll]},by simp only[PyData.canLay0];exact k2,by simp only[PyData.canLay0,PyData.canLayAll0],.inl<|by simp only[PyData.depth];lia,?_};rw[if_neg zd,rG,show ps.isEmpty=ds.isEmpty by cases ps<;>cases ds<;>first|rfl|cases k4];exact q
theorem LC{S:av}{ds:List D}{R:KD}(h:∀d∈ds,Ly S 60 d)(q:R (.bl ds.isEmpty) S):JD false (.tup ds) (.tup []) S R:=by obtain⟨ps,k1,k2,k3,k4⟩:=Ly.all h;refine{.tuple ps,.tuple [],by simp only[Dl,Dp];exact⟨ps,rfl,k1⟩,by simp only[Dl,Dp];exact{[],rfl,by simp only[DpAll]},by simp only[PyData.canLay0];exact k2,by simp only[PyData.canLay0,PyData.canLayAll0],.inl<|by simp only[PyData.depth];lia,?_};rw[if_neg zd,ID,show ps.isEmpty=ds.isEmpty by cases ps<;>cases ds<;>first|rfl|cases k4];exact q
theorem Wg.all(h:Wg cs ws):∀d∈ws,cQ d=true:=by unfold Wg at h;induction h with|nil=>exact λ_ h=>(nomatch h)|cons r t ih=>intro d hd;rcases zf.mp hd with e|hd;rw[e];exact r.2;exact ih d hd
theorem Wg.ly{cs:List<|Str×Str}{ws:List D}(h:Wg cs ws){S:av} : Ly S 1 (.tup ws):=Ly.tup λd hd=>Ly.plain<|h.all d hd
theorem KI.ly{cs:List<|Str×Str}{kn:Kn}(hI:KI cs kn){ss:List Str}(hp:ss.Perm (kn.map (·.1))){S:av} : ∀d∈ss.map D.str,Ly S 60 d:=λd hd=>by obtain⟨z,hz,rfl⟩:=zh.mp hd;obtain⟨r,hr,e⟩:=zh.mp<|hp.mem_iff.mp hz;rw[<-e];exact(Ly.str (eR _ (hI.ok r hr).1).2.2).le<|zU _
inductive IE (ds:List D) (S:av) (R:KD) (Z:KX):Prop where
 |mk (l cs lk kn) (h0:ds=[.ref l,.tup<|cs.map aA,.ref lk]) (h1:Gd cs) (h2:S l=some .well) (h3:S lk=some (.cA<|g7 kn)) (h4:KI cs kn) (h5:∀d,GD KT cs kn d->R d S):IE ds S R Z
theorem LD(T:Txt w K mg t):Ok P w base T.By 4 IE:=by
 refine T.By.F.bX gO ?_;rintro _ _ _ _ _ _ _ S R Z hr ⟨l,cs,lk,kn,e,hg,hw,hk,hI,q⟩;subst e;have hlen:=hI.len;refine{_,(sc (cF (i:=3) gO.nd<|aG T.aQ (bA T) hr<|ac (dv 0)<|ac di an)<|sc (cF (i:=4) gO.nd<|cb xp T.gJ fc<|ac (dv 2) an)<|sc (si (twd<|twor (bh bj hr.u (dv 4)<|dR an)<|tw1<|bh uY hr.u (dv 3) di) (sc (cF (i:=5) gO.nd<|aG T.xQ (BQ T) hr<|ac (dv 0) an)<|sc (si (bh ET hr.u (dv 5)<|dv 2) (s1<|sr<|bP<|ac ds<|ac (dv 5)<|ac (aG T.gN (jP T) hr<|ac (dv 0)<|ac (dv 1) an) an) s0)<|s1<|sr<|bP<|ac ds<|ac (dv 5)<|ac (aG T.gN (jP T) hr<|ac (dv 0)<|ac (dv 1) an) an) s0)<|sc (cF (i:=5) gO.nd<|ix hr.u (dv 4)<|aG T.aQ (bA T) hr<|ac (dv 0)<|ac (cb aY T.aV aJ<|ac (dv 4) an) an)<|sc (si (bh bj hr.u (dv 3) di) (s1<|sr<|bP<|ac ds<|ac (dv 5) an) s0)<|sc (si (bh bj hr.u (dv 3) di) (s1<|sr<|bP<|ac ds<|ac (dv 5)<|ac (ix hr.u (dv 2)<|dv 5) an) s0)<|s1<|sr<|bP<|ac ds<|ac (dv 5)<|ac (aG T.gN (jP T) hr<|ac (dv 0)<|ac (dv 1) an) an),?_};have ek:(g7 kn).map (·.1)=(kn.map (·.1)).map Sum.inr:=by unfold g7;rw[zA,zA];rfl
 have el:(g7 kn).length<64:=by unfold g7;rw[zc];lia
 refine{_,rfl,l,_,rfl,(by decide),(by decide),hw,λway h0 h1=>{_,rfl,lk,g7 kn,kn.map (·.1),rfl,hk,ek,el,λss hp hs p nR=>?_}};refine{_,rfl,vR,λp2 fV=>?_};generalize Du:(S.set p<|.lst<|ss.map D.str).set p2 (.lst [])=S2;have sub:Sub S S2:=by rw[<-Du];exact(Sub.new nR).trans<|.new fV
 have pP:=sub _ _ hw;have dY:=sub _ _ hk;have sZ:S2 p=some (.lst<|ss.map D.str):=by rw[<-Du,ag (show p≠p2 by rintro rfl;rw[aa]at fV;cases fV),aa]
 have Zj:S2 p2=some (.lst []):=by rw[<-Du,aa]
 have fin:∀d,GD KT cs kn d->Fo S2 (R d):=λd hd=>{S,sub,q d hd};have ed:∀z,bY (g7 kn) (.inr z)=(gm kn z).map D.tup:=x8 kn;have PY:∀z,(bY (g7 kn)<|.inr z).isSome=(gm kn z).isSome:=λz=>by rw[ed];cases gm kn z<;>rfl
 refine eq_nil sZ Zj (hI.ly hp) {_,rfl,?_};refine bD (λh=>?_) λh=>{_,rfl,_,rfl,bD (λh3=>?_) λh3=>?_};refine{_,rfl,l,[],rfl,rfl,pP,λd ⟨z,hz,e⟩=>?_};subst e;refine{_,rfl,_,rfl,.inr {g7 kn,.inr z,dY,rfl,_,rfl,?_}};refine bD (λh5=>?_) λh5=>?_;exact{_,rfl,_,rfl,_,rfl,l,cs,rfl,hg,pP,λws nU=>{gR,fin _<|.inr<|.inl {z,ws,x5 hz,nU,(PY z).symm.trans h5,rfl}}};have h6:gm kn z=none:=by have:=(PY z).symm.trans h5;cases e:gm kn z with|none=>rfl|some _=>rw[e]at this;cases this
 exact{_,rfl,_,rfl,_,rfl,l,cs,rfl,hg,pP,λws nU=>{gR,fin _<|.inl ⟨z,ws,hz,nU,h6,rfl⟩}};refine{_,rfl,l,[],rfl,rfl,pP,λd ⟨z,hz,e⟩=>?_};subst e;refine{_,rfl,_,rfl,.inr {g7 kn,.inr z,dY,rfl,_,rfl,?_}};refine bD (λh5=>?_) λh5=>?_;exact{_,rfl,_,rfl,_,rfl,l,cs,rfl,hg,pP,λws nU=>{gR,fin _<|.inr<|.inl {z,ws,x5 hz,nU,(PY z).symm.trans h5,rfl}}};have h6:gm kn z=none:=by have:=(PY z).symm.trans h5;cases e:gm kn z with|none=>rfl|some _=>rw[e]at this;cases this
 exact{_,rfl,_,rfl,_,rfl,l,cs,rfl,hg,pP,λws nU=>{gR,fin _<|.inl ⟨z,ws,hz,nU,h6,rfl⟩}};have mX:0<(ss.map D.str).length:=by have h:(ss.map D.str).isEmpty=false:=h;cases ss with|nil=>(cases h)|cons a ss=>exact Nat.succ_pos _
 have hle:(ss.map D.str).length<=40:=by rw[zc,hp.length_eq,zc];exact hlen
 refine{_,rfl,_,rfl,_,rfl,_,rfl,.inl {_,sZ,l,_,rfl,(by lia),vY (by lia)<|by lia,pP,λn hn0 VY=>?_}};obtain⟨v,a1,a2⟩:=uP (l:=ss.map D.str) hn0 VY;obtain⟨z,hz,rfl⟩:=zh.mp<|zx a2;obtain⟨ws,nU⟩:=nS<|hp.mem_iff.mp hz;obtain⟨Zk,hwg⟩:=hI.ok _<|mx nU;have Zl:(gm kn z).isSome=true:=by rw[nU];rfl
 refine{_,_,sZ,a1,_,rfl,_,rfl,?_};refine bD (λh4=>?_) λh4=>?_;exact{_,rfl,bW,fin _<|.inr<|.inr ⟨z,Zk,Zl,rfl⟩};refine{_,rfl,_,rfl,?_};refine bD (λh4=>?_) λh4=>?_;exact{_,rfl,_,rfl,_,rfl,g7 kn,.tup ws,dY,by rw[ed,nU];rfl,gR,fin _<|.inr<|.inl ⟨z,ws,Zk,hwg,Zl,rfl⟩};exact{_,rfl,_,rfl,_,rfl,l,cs,rfl,hg,pP,λQ8 Zm=>{gR,fin _<|.inr<|.inl ⟨z,Q8,Zk,Zm,Zl,rfl⟩}}
def Mo(sp:iV):iV:=λds S R Z=>∃R0 Z0,sp ds S R0 Z0/\(∀d S',R0 d S'->R d S')/\∀C S',Z0 C S'->Z C S'
theorem PZ(F:bB P w K mg base (fb P w mg) k f fd ps<|pq K sp):bB P w K mg base (fb P w mg) k f fd ps (pq K<|Mo sp):=F.imp <| by rintro vs H Q E ⟨ds,S,R,Z,v,hS,⟨R0,Z0,h,h1,h2⟩,hR,hZ⟩;exact{ds,S,R0,Z0,v,hS,h,λd S' u H' r=>hR d S' u H'<|h1 _ _ r,λC S' H' z=>hZ C S' H'<|h2 _ _ z}
abbrev M5:=jC
abbrev x9:=fG
abbrev IF:=ik
def P0(kn:Kn)(d:D)(cL:Kn):Prop:=(∃(n:Str) (z:Str) (ws:List D),(n ="put"\/n ="change")/\d=.tup [.str n,.str z,.tup ws]/\cL=my kn z ws)\/∃z,(gm kn z).isSome=true/\d=.tup [.str "take",.str z]/\cL=v5 kn z
inductive BS (t:hW) (ds:List D) (S:av) (R:KD) (Z:KX):Prop where
 |mk (a fs) (h0:S a=some (.ins t.aj fs)) (h1:fs.map Prod.fst=(["columns","deeds","runs"]:List Str)) (h2:((∃k v,ds=[.ref a,.tup [.str "put",k,v]]/\M5 t [.ref a,k,v] S R Z)\/(∃k v,ds=[.ref a,.tup [.str "change",k,v]]/\x9 t [.ref a,k,v] S R Z)\/∃k,ds=[.ref a,.tup [.str "take",k]]/\IF t [.ref a,k] S R Z)):BS t ds S R Z
theorem lk0:∀{fs:List (Str×D)},m∉fs.map Prod.fst->fs.lookup m=none|[],_=>rfl| (a,b)::fs,h=>by rw[zE,zf]at h;rw[zX,show(m==a)=false from beq_false_of_ne λe=>h<|.inl e];exact lk0 λq=>h<|.inr q
theorem Zn{fs:List<|Str×D}(h:fs.map Prod.fst=(["columns","deeds","runs"]:List Str)){m:Str}(hm:m∉(["columns","deeds","runs"]:List Str)):fs.lookup m=none:=lk0<|by rw[h];exact hm
inductive uq (ds:List D) (S:av) (R:KD) (Z:KX):Prop where
 |mk (lk kn d cL) (h0:ds=[.ref lk,d]) (h1:S lk=some (.cA<|g7 kn)) (h2:kn.length<=100) (h3:P0 kn d cL) (h4:R .ax<|S.set lk<|.cA<|g7 cL):uq ds S R Z
theorem x_(T:Txt w K mg t):Ok P w base T.pU 1 uq:=by refine T.pU.F.bX BH ?_;rintro _ _ _ _ _ _ _ S R Z hr ⟨lk,kn,d,cL,e,hk,hn,hd,q⟩;subst e;refine{_,(s1<|si (bh bj hr.u (ix hr.u (dv 1) di) ds) (s1<|se<|mp1 (dv 0)<|ix hr.u (dv 1) di)<|s1<|sd hr.u (dv 0) (ix hr.u (dv 1) di)<|ix hr.u (dv 1) di),?_};have hl:(g7 kn).length<sizeLine:=bg (by unfold g7;rw[zc];lia);rcases hd with⟨n,z,ws,FV,rfl,rfl⟩|⟨z,hz,rfl,rfl⟩;refine{_,rfl,_,rfl,_,rfl,?_};refine bD (λh=>?_) λh=>?_;have h:n ="take":=zC h;rcases FV with e|e<;>rw[e]at h<;>exact absurd h (by decide);refine{_,rfl,_,rfl,_,rfl,_,rfl,_,rfl,lk,g7 kn,.inr z,rfl,hk,rfl,hl,?_};rw[PU];exact fo q;refine{_,rfl,_,rfl,_,rfl,?_};refine bD (λh=>?_) λh=>absurd h (by decide);obtain⟨ws,nU⟩:=Option.isSome_iff_exists.mp hz;refine{_,rfl,lk,g7 kn,rfl,hk,_,rfl,_,rfl,g7 kn,.inr z,.tup ws,hk,rfl,by rw[x8,nU];rfl,?_};rw[PX];exact fo q
theorem LF(T:Txt w K mg t):Ok P w base T.nF 7 (BS t):=by have jD:Af P w mg base T.fe 6 (Mo<|M5 t):=PZ<|PK T;have fI:Af P w mg base T.cI 6 (Mo<|x9 t):=PZ<|FC T;have ip:Af P w mg base T.eC 6 (Mo<|IF t):=PZ<|Lu T;refine T.nF.F.ok Fw (λds S R Z ⟨_,_,_,_,h⟩=>by rcases h with⟨_,_,e,_⟩|⟨_,_,e,_⟩|⟨_,e,_⟩<;>rw[e]<;>rfl) λfU A outer s H E ds S R Z hr ⟨a,fs,ha,hf,h⟩=>?_;rcases h with⟨k,v,e,h⟩|⟨k,v,e,h⟩|⟨k,e,h⟩;subst e;refine{_,(sc (si (bh bj hr.u (ix hr.u (dv 1) di) ds) (s1<|sr<|wH (dv 0) T.ai T.fe jD hr<|ac (ix hr.u (dv 1) di)<|ac (ix hr.u (dv 1) di) an) s0)<|sc (si (bh bj hr.u (ix hr.u (dv 1) di) ds) (s1<|sr<|wH (dv 0) T.ai T.cI fI hr<|ac (ix hr.u (dv 1) di)<|ac (ix hr.u (dv 1) di) an) s0)<|s1<|sr<|wH (dv 0) T.ai T.eC ip hr<|ac (ix hr.u (dv 1) di) an),?_};refine{_,rfl,_,rfl,_,rfl,?_};refine bD (λ_=>?_) λh=>absurd h (by decide);exact{_,rfl,a,_,rfl,ha,Zn hf<|by decide,_,rfl,_,rfl,_,rfl,_,rfl,R,Z,h,λd S' r=>fo r,λC S' z=>fo z};subst e;refine{_,(sc (si (bh bj hr.u (ix hr.u (dv 1) di) ds) (s1<|sr<|wH (dv 0) T.ai T.fe jD hr<|ac (ix hr.u (dv 1) di)<|ac (ix hr.u (dv 1) di) an) s0)<|sc (si (bh bj hr.u (ix hr.u (dv 1) di) ds) (s1<|sr<|wH (dv 0) T.ai T.cI fI hr<|ac (ix hr.u (dv 1) di)<|ac (ix hr.u (dv 1) di) an) s0)<|s1<|sr<|wH (dv 0) T.ai T.eC ip hr<|ac (ix hr.u (dv 1) di) an),?_};refine{_,rfl,_,rfl,_,rfl,?_};refine bD (λh=>absurd h<|by decide) λ_=>?_;refine{_,rfl,_,rfl,_,rfl,?_};refine bD (λ_=>?_) λh=>absurd h (by decide);exact{_,rfl,a,_,rfl,ha,Zn hf<|by decide,_,rfl,_,rfl,_,rfl,_,rfl,R,Z,h,λd S' r=>fo r,λC S' z=>fo z};subst e;refine{_,(sc (si (bh bj hr.u (ix hr.u (dv 1) di) ds) (s1<|sr<|wH (dv 0) T.ai T.fe jD hr<|ac (ix hr.u (dv 1) di)<|ac (ix hr.u (dv 1) di) an) s0)<|sc (si (bh bj hr.u (ix hr.u (dv 1) di) ds) (s1<|sr<|wH (dv 0) T.ai T.cI fI hr<|ac (ix hr.u (dv 1) di)<|ac (ix hr.u (dv 1) di) an) s0)<|s1<|sr<|wH (dv 0) T.ai T.eC ip hr<|ac (ix hr.u (dv 1) di) an),?_};refine{_,rfl,_,rfl,_,rfl,?_};refine bD (λh=>absurd h<|by decide) λ_=>?_;refine{_,rfl,_,rfl,_,rfl,?_};refine bD (λh=>absurd h<|by decide) λ_=>?_;exact{_,rfl,a,_,rfl,ha,Zn hf<|by decide,_,rfl,_,rfl,R,Z,h,λd S' r=>fo r,λC S' z=>fo z}
noncomputable def p3(p:Str×Str×Str):D:=.tup [.str p.1,.str p.2.1,.str p.2.2]
noncomputable def j6(z:Str):Bool:=decide (z ="up")||decide (z ="down")
noncomputable def v7(z:Str):Bool:=decide (z ="first")||decide (z ="last")
theorem IG(z a b:Str)(x y:V):(([(a,x),(b,y)]:List (Str×V)).lookup z).isSome=(decide (z=a)||decide (z=b)):=by rw[zX,zX];by_cases h:z=a;rw[show(z==a)=true by simp[h],zr h];rfl;rw[show(z==a)=false by simp[h],zo h];by_cases h2:z=b;rw[show(z==b)=true by simp[h2],zr h2];rfl;rw[show(z==b)=false by simp[h2],zo h2];rfl
noncomputable def fJ(cs:List<|Str×Str)(p:Str×Str×Str):Bool:=decide (p.1∈cs.map Prod.fst)&&(j6 p.2.1&&v7 p.2.2)
noncomputable def yP(cs:List<|Str×Str)(ps:List<|Str×Str×Str)(wy:Str):Bool:=decide (ps.length<=8)&&(ps.all (fJ cs)&&(decide ((ps.map Prod.fst).Nodup)&&j6 wy))
theorem mz(l:List<|Str×D)(z:Str)(h:bY (gw l) (.inr z)=some d):∃p∈l,p.1=z/\d=p.2:=by
 have all:∀(l:List (Str×D))(c:List (Key×D)),bY (l.foldl (λc p=>dput c (.inr p.1) p.2) c) (.inr z)=some d->(∃p∈l,p.1=z/\d=p.2)\/bY c (.inr z)=some d:=by intro l;induction l with|nil=>intro c h;exact .inr h|cons p l ih=>intro c h;rcases ih _ h with⟨q,hq,e⟩|h;exact .inl {q,zi _ hq,e};rw[xr]at h;by_cases e:(.inr z:Key)=.inr p.1;rw[if_pos e]at h;exact .inl {p,zp,(yH e).symm,(zP h).symm};rw[if_neg e]at h;exact .inr h
 rcases all l [] h with h|h;exact h;cases h
def Zo(p:Str×Str×Str):Prop:=p.1.cps.size<=1000/\p.2.1.cps.size<=1000/\p.2.2.cps.size<=1000
inductive yQ (ds:List D) (S:av) (R:KD) (Z:KX):Prop where
 |mk (z) (h0:ds=[.str z]) (h1:R (.bl<|j6 z) S):yQ ds S R Z
theorem ur(T:Txt w K mg t):Ok P w base T.vA 1 yQ:=by refine T.vA.F.bX Ft ?_;rintro _ _ _ _ _ _ _ S R Z hr ⟨z,e,q⟩;subst e;refine{_,(s1<|sr<|qA (cb cK T.aw aq<|ac (dv 0)<|ac (r9 T.l9 g_) an)<|Hi<|Ym T.xM (dv 0)<|dg (v:=.ref t.jd) T.vk rfl λ_=>fi _),?_};refine{_,rfl,_,_,_,_,rfl,cG,rfl,_,rfl,cN {_,rfl,z,rfl,rfl,?_}};rw[IG];exact fo q
inductive yR (ds:List D) (S:av) (R:KD) (Z:KX):Prop where
 |mk (z) (h0:ds=[.str z]) (h1:R (.bl<|v7 z) S):yR ds S R Z
theorem FD(T:Txt w K mg t):Ok P w base T.Bx 1 yR:=by refine T.Bx.F.bX Fu ?_;rintro _ _ _ _ _ _ _ S R Z hr ⟨z,e,q⟩;subst e;refine{_,(s1<|sr<|qA (cb cK T.aw aq<|ac (dv 0)<|ac (r9 T.l9 g_) an)<|Hi<|Ym T.xN (dv 0)<|dg (v:=.ref t.je) T.vm rfl λ_=>fi _),?_};refine{_,rfl,_,_,_,_,rfl,cG,rfl,_,rfl,cN {_,rfl,z,rfl,rfl,?_}};rw[IG];exact fo q
inductive mB (ds:List D) (S:av) (R:KD) (Z:KX):Prop where
 |mk (cs z) (h0:ds=[.tup<|cs.map aA,.str z]) (h1:Gd cs) (h2:z.cps.size<=1000) (h3:(∀k,(z,k)∈cs->R (.str k) S)) (h4:(z∉cs.map Prod.fst->R .ax S)):mB ds S R Z
theorem gC(T:Txt w K mg t):Ok P w base T.d_ 3 mB:=by
 refine T.d_.F.bX sQ ?_;rintro _ _ _ _ _ _ _ S R Z hr ⟨cs,z,e,hg,hz,q1,q2⟩;subst e;refine{_,(sc (si (cz<|tv<|aG T.pS (rn T) hr<|ac (dv 1) an) (s1<|sr dn) s0)<|s1<|sr<|mg1 hr.u (ct HE T.Ig CK<|ac (dv 0) an)<|dv 1),?_};refine{_,rfl,.str z,rfl,gt_str hz,_,rfl,?_};refine bD (λh=>?_) λh=>?_;have h:kz z=false:=nt h;refine fo<|q2 λm=>?_;obtain⟨c,hc,rfl⟩:=zh.mp m;rw[(hg.2.2 c hc).1]at h;cases h;have ek:cs.map aA=(cs.map λc=>(c.1,D.str c.2)).map CZ:=by rw[zA];rfl
 refine{_,rfl,(cs.map λc=>(c.1,D.str c.2)),by rw[ek],λp hp=>{p,_,rfl,aa,_,rfl,_,.inr z,aa,rfl,S,.new hp,?_}};have h1:=ua (cs.map λc=>(c.1,D.str c.2)) z;cases q3:bY (gw<|cs.map λc=>(c.1,D.str c.2)) (.inr z) with|none=>(rw[q3]at h1;refine q2 λm=>?_;obtain⟨c,hc,e⟩:=zh.mp m;have:(cs.map λc=>(c.1,D.str c.2)).any (λp=>decide<|p.1=z)=true:=List.any_eq_true.mpr {_,zh.mpr ⟨c,hc,rfl⟩,zr e};rw[this]at h1;cases h1)|some d=>obtain⟨p,hp,e1,rfl⟩:=mz _ _ q3;obtain⟨c,hc,rfl⟩:=zh.mp hp;have e1:c.1=z:=e1;exact q1 c.2<|by rw[<-e1];exact hc
inductive uu (ds:List D) (S:av) (R:KD) (Z:KX):Prop where
 |mk (cs p) (h0:ds=[.tup<|cs.map aA,p3 p]) (h1:Gd cs) (h2:Zo p) (h3:R (.bl<|fJ cs p) S):uu ds S R Z
theorem BU(T:Txt w K mg t):Ok P w base T.vE 4 uu:=by
 have v8:Ok P w base T.d_ 3 (λds S R _=>∃cs z,ds=[.tup<|cs.map aA,.str z]/\Gd cs/\z.cps.size<=1000/\∀d,ah d=!decide (z∈cs.map Prod.fst)->R d S):=(gC T).Hz <| by rintro ds S R Z ⟨cs,z,e,hg,hz,q⟩;exact{cs,z,e,hg,hz,λk hk=>q _<|by rw[zr<|zh.mpr {_,hk,rfl}];rfl,λhn=>q _<|by rw[zo hn];rfl}
 refine T.vE.F.bX BF ?_;rintro _ _ _ _ _ _ _ S R Z hr ⟨cs,p,e,hg,hp,q⟩;subst e;refine{_,(sc (si (twd<|twor (cz<|tv<|cb cK T.aw aq<|ac (dv 1)<|ac (r9 T.bp aS) an)<|tw1<|bh lU hr.u (cb aY T.aV aJ<|ac (dv 1) an) di) (s1<|sr db) s0)<|s1<|sr<|qA (cm mZ hr.u (aG T.d_ v8 hr<|ac (dv 0)<|ac (ix hr.u (dv 1) di) an) dn)<|qA (aG T.vA (ur T) hr<|ac (ix hr.u (dv 1) di) an)<|Hi<|aG T.Bx (FD T) hr<|ac (ix hr.u (dv 1) di) an),?_};refine{_,rfl,_,_,_,_,rfl,aT,rfl,_,rfl,bb {_,rfl,_,rfl,_,rfl,bb ?_}};refine{_,rfl,_,rfl,_,rfl,cs,p.1,rfl,hg,hp.1,λd hd=>{_,rfl,?_}};unfold fJ at q;refine bD (λh=>?_) λh=>?_;have h:(!ah d)=true:=h;rw[hd,Bool.not_not]at h;rw[h,zY]at q;refine{_,rfl,_,rfl,p.2.1,rfl,_,rfl,?_};refine bD (λh2=>?_) λh2=>?_;rw[h2,zY]at q;exact{_,rfl,_,rfl,p.2.2,rfl,fo q};rw[h2,zR]at q;exact fo q;have h:(!ah d)=false:=h;rw[hd,Bool.not_not]at h;rw[h,zR]at q;exact fo q
inductive kC (t:hW) (ds:List D) (S:av) (R:KD) (Z:KX):Prop where
 |mk (cs ps wy) (h0:ds=[.tup<|cs.map aA,.tup [.tup<|ps.map p3,.str wy]]) (h1:Gd cs) (h2:(∀p∈ps,Zo p)) (h3:(yP cs ps wy=true->R .ax S)) (h4:(yP cs ps wy=false->Z t.kQ S)):kC t ds S R Z
theorem fK(T:Txt w K mg t):Ok P w base T.eJ 5 (kC t):=by
 refine T.eJ.F.bX fA ?_;rintro _ _ _ _ _ _ _ S R Z hr ⟨cs,ps,wy,e,hg,hp,q1,q2⟩;subst e;have UP:(ps.map p3).length=ps.length:=zc _;refine{_,(sc (si (twd<|twor (cz<|tv<|cb cK T.aw aq<|ac (dv 1)<|ac (r9 T.bp aS) an)<|tw1<|bh lU hr.u (cb aY T.aV aJ<|ac (dv 1) an) di) (s1<|qE ⟨T.cX⟩ T.eG<|ac ds an) s0)<|sc (cF (i:=2) fA.nd<|ix hr.u (dv 1) di)<|sc (si (twd<|twor (cz<|tv<|cb cK T.aw aq<|ac (dv 2)<|ac (r9 T.bp aS) an)<|tw1<|bh qB hr.u (cb aY T.aV aJ<|ac (dv 2) an)<|dg (v:=.int 8) T.jh {_,rfl} λ_=>aL _) (s1<|qE ⟨T.cX⟩ T.eG<|ac ds an) s0)<|sc (si (cz<|tv<|cb ko T.ku gv<|ac (tZ (N:=["part","columns"]) (src:=[none,some 0]) (lF (ae kr) ["columns","order","parts","names"] rfl rfl<|by trivial) (Hx<|dv 2) (r_<|show(["part","columns"]:List Str).Nodup by trivial) (aZ rfl) a_ (λ_ _ _ _ _=>sM) λ_ _ _ _ _=>(aG T.vE (BU T) hr<|ac (dv 1)<|ac (dv 0) an)) an) (s1<|qE ⟨T.cX⟩ T.eG<|ac ds an) s0)<|sc (QT (i:=3) (N:=["part"]) (src:=[none]) fA.nd (lF (ae kr) ["columns","order","parts","names"] rfl rfl<|by trivial) (Hx<|dv 2) (r_<|show(["part"]:List Str).Nodup by trivial) (aZ rfl) a_ (λ_ _ _ _ _=>sM) λ_ _ _ _ _=>(ix hr.u (dv 0) di))<|sc (si (bh lU hr.u (lse (dv 3) T.aV T.MX)<|cb aY T.aV aJ<|ac (dv 3) an) (s1<|qE ⟨T.cX⟩ T.eG<|ac ds an) s0)<|s1<|si (cz<|tv<|aG T.vA (ur T) hr<|ac (ix hr.u (dv 1) di) an) (s1<|qE ⟨T.cX⟩ T.eG<|ac ds an) s0),?_};refine{_,rfl,_,_,_,_,rfl,aT,rfl,_,rfl,bb {_,rfl,_,rfl,_,rfl,bb ?_}};refine{_,rfl,_,rfl,_,rfl,_,_,_,_,rfl,aT,rfl,_,rfl,bb {_,rfl,_,rfl,_,rfl,?_}};refine bD (λh=>?_) λh=>?_;have h:(8:Int)<(((ps.map p3).length:Nat):Int):=zC h;rw[UP]at h;exact{rj,fo<|q2<|by unfold yP;rw[zo<|by omega];rfl};have h:¬(8:Int)<(((ps.map p3).length:Nat):Int):=zM h;rw[UP]at h;have h8:ps.length<=8:=by omega
 unfold yP at q1 q2;rw[zr h8,zY]at q1 q2;refine{_,rfl,_,.inl rfl,?_};refine fF (λd v=>∃p,d=p3 p/\v=.bl (fJ cs p)) trivial (by show(ps.map p3).length<=_;omega) (λd hd Q hQ=>?_) λout ho p nR=>?_;obtain⟨p,hpm,rfl⟩:=zh.mp hd;exact{_,rfl,_,rfl,cs,p,rfl,hg,hp p hpm,hQ _ ⟨p,rfl,rfl⟩};have eo:out=(ps.map<|fJ cs).map D.bl:=by have:∀{ps:List (Str×Str×Str)}{out:List D},Paired (λd v=>∃p,d=p3 p/\v=.bl (fJ cs p)) (ps.map p3) out->out=(ps.map<|fJ cs).map D.bl:=(by intro ps;induction ps with|nil=>(intro out h;cases h;rfl)|cons x ps ih=>intro out h;cases h with|cons r t=>obtain⟨p,e1,e2⟩:=r;have:x=p:=(by obtain⟨a,b,c⟩:=x;obtain⟨a',b',c'⟩:=p;unfold p3 at e1;injection e1 with e1;injection e1 with h1 e1;injection e1 with h2 e1;injection e1 with h3 _;injection h1 with h1;injection h2 with h2;injection h3 with h3;rw[show a=a' from h1,show b=b' from h2,show c=c' from h3]);rw[e2,ih t,<-this];rfl);exact this ho
 subst eo;refine{.ref p,ps.map<|fJ cs,rfl,aa,_,rfl,?_};rw[show(ps.map<|fJ cs).all id=ps.all (fJ cs) from all_map];refine bD (λha=>?_) λha=>?_;have ha:=nt ha;exact{rj,S,.new nR,q2<|by rw[ha];rfl};have ha:=nf ha;rw[ha,zY]at q1 q2;refine{_,rfl,_,.inl rfl,?_};refine comp_map (λd=>match d with|.tup (x::_)=>x|_=>.ax) trivial (by show(ps.map p3).length<=_;omega) (λd hd Q hQ=>?_) λp2 fV=>?_;obtain⟨p,hpm,rfl⟩:=zh.mp hd;exact{_,rfl,_,rfl,hQ};have e3:(ps.map p3).map (λd=>match d with|.tup (x::_)=>x|_=>.ax)=(ps.map Prod.fst).map D.str:=by rw[zA,zA];rfl
 rw[show({ps.map p3,λ_=>True}:Hw).xs=ps.map p3 from rfl,e3];have sb:Sub S ((S.set p<|.lst<|(ps.map<|fJ cs).map D.bl).set p2<|.lst<|(ps.map Prod.fst).map D.str):=(Sub.new nR).trans<|.new fV;have Du:((S.set p<|.lst<|(ps.map<|fJ cs).map D.bl).set p2<|.lst<|(ps.map Prod.fst).map D.str) p2=some (.lst<|(ps.map Prod.fst).map D.str):=aa;generalize (S.set p<|.lst<|(ps.map<|fJ cs).map D.bl).set p2 (.lst<|(ps.map Prod.fst).map D.str)=S2 at sb Du⊢;refine{_,rfl,ps.map Prod.fst,Du,by rw[zc];omega,_,rfl,_,rfl,.inl {_,Du,_,rfl,?_}};have e4:decide ((((iy<|ps.map Prod.fst).length:Nat):Int)=((((ps.map Prod.fst).map D.str).length:Nat):Int))=decide ((ps.map Prod.fst).Nodup):=by rw[yG,<-tW,zc];omega
 refine bD (λhn=>?_) λhn=>?_;have hn:(!decide ((((iy<|ps.map Prod.fst).length:Nat):Int)=((((ps.map Prod.fst).map D.str).length:Nat):Int)))=true:=hn;rw[e4]at hn;exact{rj,S,sb,q2<|by rw[nt hn];rfl};have hn:(!decide ((((iy<|ps.map Prod.fst).length:Nat):Int)=((((ps.map Prod.fst).map D.str).length:Nat):Int)))=false:=hn;rw[e4]at hn;rw[nf hn,zY]at q1 q2;refine{_,rfl,_,rfl,wy,rfl,_,rfl,?_};refine bD (λhw=>?_) λhw=>?_;exact{rj,S,sb,q2<|nt hw};exact{S,sb,q1<|nf hw}
theorem bI{p:Bool}{A B:Prop}(h:p=false)(q:B):if p=true then A else B:=by rw[h];exact bb q
theorem rH{p:Bool}{A B:Prop}(h:p=true)(q:A):if p=true then A else B:=by rw[h];exact cN q
def BV(o:Str)(c:Str×Str)(v:D):Prop:=o ="is"\/(v≠.ax/\(o ="below"\/o ="above"\/(o ="begins"/\c.2 ="word")))
def Lf(cs:List<|Str×Str)(d:D):Prop:=d=.tup [.str "every"]\/(∃ks:List Str,d=.tup [.str "key",.tup<|ks.map .str]/\ks.length<=8/\∀k∈ks,k∈KS)\/∃(o:Str) (c:Str×Str) (v:D),c∈cs/\Vg c.2 v/\BV o c v/\d=.tup [.str o,.str c.1,v]
def Sg(cs:List<|Str×Str):Nat->D->Prop|0,_=>False|n+1,d=>Lf cs d\/(∃e,d=.tup [.str "not",e]/\Sg cs n e)\/∃(o:Str) (ds:List D),(o ="and"\/o ="or")/\d=.tup [.str o,.tup ds]/\ds.length<=2/\∀e∈ds,Sg cs n e
theorem M6{k:Str}{v:D}(h:Vg k v){S:av} : Gt S v:=by have h:=h.2;cases v with|ax=>(exact{{_,rfl},λz e=>by cases e})|int i=>(exact{{_,rfl},λz e=>by cases e})|str z=>unfold cQ at h;simp only[zL,yb]at h;exact gt_str (by lia)|_=>cases h
inductive gZ (ds:List D) (S:av) (R:KD) (Z:KX):Prop where
 |mk (es) (h0:ds=[.tup es]) (h1:es.length<=8) (h2:R (.bl true) S):gZ ds S R Z
theorem oO(T:Txt w K mg t):Ok P w base T.dG 1 gZ:=by refine T.dG.F.bX mh ?_;rintro _ _ _ _ _ _ _ S R Z hr ⟨es,e,hl,q⟩;subst e;refine{_,(s1<|sr<|qA (cb cK T.aw aq<|ac (dv 0)<|ac (r9 T.bp aS) an)<|Hi<|cm i9 hr.u (cb aY T.aV aJ<|ac (dv 0) an)<|dg (v:=.int 8) T.kU {_,rfl} λ_=>aL _),?_};refine{_,rfl,_,_,_,_,rfl,aT,rfl,_,rfl,cN {_,rfl,_,rfl,?_}};have e1:decide (((es.length:Nat):Int)<=8)=true:=zr (by lia);show Fo S (R<|.bl<|decide<|((es.length:Nat):Int)<=8);rw[e1];exact fo q
inductive gD (ds:List D) (S:av) (R:KD) (Z:KX):Prop where
 |mk (cs o c v) (h0:ds=[.tup<|cs.map aA,.tup [.str o,.str c.1,v]]) (h1:Gd cs) (h2:c∈cs) (h3:Vg c.2 v) (h4:BV o c v) (h5:R (.bl true) S):gD ds S R Z
theorem rJ(T:Txt w K mg t):Ok P w base T.jr 4 gD:=by
 refine T.jr.F.bX js ?_;rintro _ _ _ _ _ _ _ S R Z hr ⟨cs,o,c,v,e,hg,hc,hv,ho,q⟩;subst e;have hn:∀k,(c.1,k)∈cs->k=c.2:=λk hk=>by have:=gk hg.2.1 hk hc rfl;rw[<-this]
 refine{_,(sc (cF (i:=2) js.nd<|aG T.d_ (gC T) hr<|ac (dv 0)<|ac (ix hr.u (dv 1) di) an)<|sc (si (twd<|twor (bh iO hr.u (dv 2) dn)<|tw1<|cz<|tv<|aG T.jm (jy T) hr<|ac (dv 2)<|ac (ix hr.u (dv 1) di) an) (s1<|sr db) s0)<|sc (si (bh bj hr.u (ix hr.u (dv 1) di) ds) (s1<|sr db) s0)<|sc (si (twd<|twand (bh bj hr.u (ix hr.u (dv 1) di) ds)<|tw1<|bh lU hr.u (dv 2) ds) (s1<|sr db) s0)<|s1<|sr<|cm mZ hr.u (ix hr.u (dv 1) di) dn),?_};refine{_,rfl,_,rfl,_,rfl,cs,c.1,rfl,hg,nM (hg.2.2 c hc).1,λk hk=>?_,λhk=>absurd (zh.mpr ⟨c,hc,rfl⟩) hk};cases hn k hk;refine{_,rfl,_,rfl,bb {_,rfl,_,rfl,_,rfl,c.2,v,rfl,M6 hv,_,rfl,?_}};rw[hv.1];refine bb {_,rfl,_,rfl,_,rfl,?_};rcases ho with rfl|⟨We,ho⟩;exact rH (by trivial)<|fo q;have Ub:ah v=false:=by cases v<;>first|rfl|exact absurd rfl We
 have e9:(!ah v)=true:=by rw[Ub];rfl
 have fin:Fo S (R<|.bl<|!ah v):=by rw[e9];exact fo q
 rcases ho with rfl|rfl|⟨rfl,hw⟩;refine bI (by trivial) {_,rfl,_,rfl,_,rfl,bI (by trivial) {_,rfl,_,rfl,fin}};refine bI (by trivial) {_,rfl,_,rfl,_,rfl,bI (by trivial) {_,rfl,_,rfl,fin}};refine bI (by trivial) {_,rfl,_,rfl,_,rfl,rH (by trivial) {_,rfl,_,rfl,?_}};rw[hw];exact bI (by trivial) {_,rfl,_,rfl,fin}
theorem LG(h:z∈KS):z.cps.size<=1000:=zK (eR z h).2.1<|by decide
inductive oP (ds:List D) (S:av) (R:KD) (Z:KX):Prop where
 |mk (cs n d) (h0:ds=[.tup<|cs.map aA,d]) (h1:Gd cs) (h2:Sg cs n d) (h3:R (.bl true) S):oP ds S R Z
theorem v9(T:Txt w K mg t):Ok P w base T.nC 5 oP:=by
 refine T.nC.F.bX vL ?_;rintro _ _ _ _ _ _ _ S R Z hr ⟨cs,n,d,e,hg,hs,q⟩;subst e;refine{_,(sc (si (twd<|twor (cz<|tv<|cb cK T.aw aq<|ac (dv 1)<|ac (r9 T.bp aS) an)<|twor (bh bj hr.u (cb aY T.aV aJ<|ac (dv 1) an) di)<|tw1<|cz<|tv<|cb cK T.aw aq<|ac (ix hr.u (dv 1) di)<|ac (r9 T.l9 g_) an) (s1<|sr db) s0)<|sc (si (bh lU hr.u (mgk T.Fp (by decide) (gK T.Bv)<|ix hr.u (dv 1) di)<|cb aY T.aV aJ<|ac (dv 1) an) (s1<|sr db) s0)<|sc (si (bh ET hr.u (ix hr.u (dv 1) di)<|bP<|ac ds<|ac ds<|ac ds<|ac ds an) (s1<|sr<|aG T.jr (rJ T) hr<|ac (dv 0)<|ac (dv 1) an) s0)<|sc (si (bh bj hr.u (ix hr.u (dv 1) di) ds) (s1<|sr<|qA (aG T.dG (oO T) hr<|ac (ix hr.u (dv 1) di) an)<|Hi<|cb ko T.ku gv<|ac (tZ (N:=["key"]) (src:=[none]) (lF (ae xE) ["columns","thing"] rfl rfl<|by trivial) (Hx<|ix hr.u (dv 1) di) (r_<|show(["key"]:List Str).Nodup by trivial) (aZ rfl) a_ (λ_ _ _ _ _=>sM) λ_ _ _ _ _=>(aG T.kW (gU T) hr<|ac (dv 0) an)) an) s0)<|sc (si (bh ET hr.u (ix hr.u (dv 1) di)<|bP<|ac ds<|ac ds an) (s1<|sr<|aG T.dG (oO T) hr<|ac (ix hr.u (dv 1) di) an) s0)<|s1<|sr db),?_};cases n with|zero=>exact hs.elim|succ n =>
 rcases hs with (rfl|⟨ks,rfl,hk8,Bl⟩|⟨o,c,v,hc,hv,ho,rfl⟩)|⟨e,rfl,he⟩|⟨o,es,ho,rfl,yS,_⟩;refine{_,rfl,_,_,_,_,rfl,aT,rfl,_,rfl,bb {_,rfl,_,rfl,_,rfl,bI rfl {_,rfl,_,rfl,_,_,_,_,rfl,cG,rfl,_,rfl,bb ?_}}};refine{_,rfl,_,rfl,_,rfl,_,rfl,_,rfl,_,rfl,bI rfl ?_};exact{_,rfl,_,rfl,nJ,rfl,rfl,_,rfl,bI (by trivial) {_,rfl,_,rfl,_,rfl,bI (by trivial) {_,rfl,_,rfl,bW,rfl,rfl,_,rfl,bI (by trivial)<|fo q}}};refine{_,rfl,_,_,_,_,rfl,aT,rfl,_,rfl,bb {_,rfl,_,rfl,_,rfl,bI rfl {_,rfl,_,rfl,_,_,_,_,rfl,cG,rfl,_,rfl,bb ?_}}};refine{_,rfl,_,rfl,_,rfl,_,rfl,_,rfl,_,rfl,bI rfl ?_};refine{_,rfl,_,rfl,nJ,rfl,rfl,_,rfl,bI (by trivial) {_,rfl,_,rfl,_,rfl,rH (by trivial) ?_}};refine{_,rfl,_,rfl,_,rfl,by rw[zc];exact hk8,_,rfl,cN {_,rfl,_,rfl,_,.inl rfl,?_}};refine comp_map (λ_=>.bl true) trivial (by show(ks.map D.str).length<=1000;rw[zc];lia) (λd hd Q hQ=>?_) λp hp=>?_;obtain⟨k,hk,rfl⟩:=zh.mp hd;refine{_,rfl,.str k,rfl,gt_str<|LG<|Bl k hk,?_};show Q (.bl<|j5 k) S;rw[(eR k<|Bl k hk).1];exact hQ;have e2:(ks.map D.str).map (λ_=>D.bl true)=(ks.map λ_=>true).map D.bl:=by rw[zA,zA];rfl
 have e3:(ks.map λ_=>true).all id=true:=by rw[all_map];exact yh.mpr λ_ _=>rfl
 refine{.ref p,ks.map λ_=>true,rfl,?_,S,.new hp,?_};show(S.set p<|.lst<|(ks.map D.str).map _) p=_;rw[aa,e2];rw[e3];exact q;have h4:o ="is"\/o ="below"\/o ="above"\/o ="begins":=by rcases ho with h|⟨_,h|h|⟨h,_⟩⟩;exact .inl h;exact .inr<|.inl h;exact .inr<|.inr<|.inl h;exact .inr<|.inr<|.inr h
 refine{_,rfl,_,_,_,_,rfl,aT,rfl,_,rfl,bb {_,rfl,_,rfl,_,rfl,bI rfl {_,rfl,_,rfl,_,_,_,_,rfl,cG,rfl,_,rfl,bb ?_}}};have fin:∀Zq:KX,gD [D.tup<|cs.map aA,.tup [.str o,.str c.1,v]] S (λd S'=>Fo S'<|R d) Zq:=λ_=>{cs,o,c,v,rfl,hg,hc,hv,ho,fo q};rcases h4 with rfl|rfl|rfl|rfl;exact{_,rfl,_,rfl,_,rfl,_,rfl,_,rfl,_,rfl,bI rfl {_,rfl,_,rfl,nJ,rfl,rfl,_,rfl,rH (by trivial) {_,rfl,_,rfl,(fin _)}}};exact{_,rfl,_,rfl,_,rfl,_,rfl,_,rfl,_,rfl,bI rfl {_,rfl,_,rfl,nJ,rfl,rfl,_,rfl,rH (by trivial) {_,rfl,_,rfl,(fin _)}}};exact{_,rfl,_,rfl,_,rfl,_,rfl,_,rfl,_,rfl,bI rfl {_,rfl,_,rfl,nJ,rfl,rfl,_,rfl,rH (by trivial) {_,rfl,_,rfl,(fin _)}}};exact{_,rfl,_,rfl,_,rfl,_,rfl,_,rfl,_,rfl,bI rfl {_,rfl,_,rfl,nJ,rfl,rfl,_,rfl,rH (by trivial) {_,rfl,_,rfl,(fin _)}}};refine{_,rfl,_,_,_,_,rfl,aT,rfl,_,rfl,bb {_,rfl,_,rfl,_,rfl,bI rfl {_,rfl,_,rfl,_,_,_,_,rfl,cG,rfl,_,rfl,bb ?_}}};refine{_,rfl,_,rfl,_,rfl,_,rfl,_,rfl,_,rfl,bI rfl ?_};exact{_,rfl,_,rfl,nJ,rfl,rfl,_,rfl,bI (by trivial) {_,rfl,_,rfl,_,rfl,bI (by trivial) {_,rfl,_,rfl,bW,rfl,rfl,_,rfl,bI (by trivial)<|fo q}}};have h8:es.length<=8:=by lia
 rcases ho with rfl|rfl;refine{_,rfl,_,_,_,_,rfl,aT,rfl,_,rfl,bb {_,rfl,_,rfl,_,rfl,bI rfl {_,rfl,_,rfl,_,_,_,_,rfl,cG,rfl,_,rfl,bb ?_}}};refine{_,rfl,_,rfl,_,rfl,_,rfl,_,rfl,_,rfl,bI rfl ?_};exact{_,rfl,_,rfl,nJ,rfl,rfl,_,rfl,bI (by trivial) {_,rfl,_,rfl,_,rfl,bI (by trivial) {_,rfl,_,rfl,bW,rfl,rfl,_,rfl,rH (by trivial) {_,rfl,_,rfl,_,rfl,h8,fo q}}}};refine{_,rfl,_,_,_,_,rfl,aT,rfl,_,rfl,bb {_,rfl,_,rfl,_,rfl,bI rfl {_,rfl,_,rfl,_,_,_,_,rfl,cG,rfl,_,rfl,bb ?_}}};refine{_,rfl,_,rfl,_,rfl,_,rfl,_,rfl,_,rfl,bI rfl ?_};exact{_,rfl,_,rfl,nJ,rfl,rfl,_,rfl,bI (by trivial) {_,rfl,_,rfl,_,rfl,bI (by trivial) {_,rfl,_,rfl,bW,rfl,rfl,_,rfl,rH (by trivial) {_,rfl,_,rfl,_,rfl,h8,fo q}}}}
inductive iG (ds:List D) (S:av) (R:KD) (Z:KX):Prop where
 |mk (l es cs m) (h0:ds=[.ref l]) (h1:S l=some (.lst es)) (h2:es.length<=16) (h3:(∀e∈es,Sg cs (m+1) e)) (h4:∀p fs,fs.length<=2*es.length->(∀f∈fs,Sg cs m f)->S p=none->R (.ref p) (S.set p<|.lst fs)):iG ds S R Z
theorem nV(T:Txt w K mg t):Ok P w base T.gz 1 iG:=by
 refine T.gz.F.bX eE ?_;rintro _ _ _ _ _ _ _ S R Z hr ⟨l,es,cs,m,e,hl,h8,yS,q⟩;subst e;refine{_,(sc (cF (i:=1) eE.nd<|dR an)<|sc (xq<|Hy (il<|dv 0) (gn (i:=2) eE.nd)<|sc (xq<|si (bh bj hr.u (ix hr.u (dv 2) di) ds) (s1<|se<|bm zS yc yd dy (dv 1)<|ac (ix hr.u (dv 2) di) an) s0)<|s1<|si (bh ET hr.u (ix hr.u (dv 2) di)<|bP<|ac ds<|ac ds an) (s1<|se<|bm zS PySem.F.slot_list_extend PySem.F.type_list_extend E3 (dv 1)<|ac (ix hr.u (dv 2) di) an) s0)<|s1<|sr<|dv 1),?_};refine{vR,λf hf=>?_};have IA:l≠f:=g6 hl hf;refine{λaC S'=>∃o fs,aC=[some<|.ref l,some<|.ref f,o]/\S'=S.set f (.lst fs)/\fs.length<=2*es.length/\∀x∈fs,Sg cs m x,?_,?_};refine{_,rfl,es,(ag IA).trans hl,?_};refine{λi aC S'=>∃o fs,aC=[some<|.ref l,some<|.ref f,o]/\S'=S.set f (.lst fs)/\fs.length<=2*i/\∀x∈fs,Sg cs m x,{none,[],rfl,rfl,zk _,λ_ h=>(nomatch h)},?_,?_,?_};rintro i aC S' ⟨o,fs,rfl,rfl,_⟩;exact(ag IA).trans hl;rintro i e aC S' he ⟨o,fs,rfl,rfl,Ko,Q9⟩;have he:es[i]?=some e:=he;have Zp:=yS e<|zx he;have hi:i<es.length:=(ze.mp he).1;have Q_:(S.set f<|.lst fs) f=some (.lst fs):=aa;have keep:∀e:D,∃o wN,[some<|D.ref l,some<|D.ref f,some e]=[some<|.ref l,some<|.ref f,o]/\S.set f (.lst fs)=S.set f (.lst wN)/\wN.length<=2*(i+1)/\∀x∈wN,Sg cs m x:=λe=>{_,fs,rfl,rfl,by lia,Q9};have more:∀(e:D)(ds:List D),ds.length<=2->(∀x∈ds,Sg cs m x)->∃o wN,[some<|D.ref l,some<|D.ref f,some e]=[some<|.ref l,some<|.ref f,o]/\(S.set f<|.lst fs).set f (.lst<|fs++ds)=S.set f (.lst wN)/\wN.length<=2*(i+1)/\∀x∈wN,Sg cs m x:=λe ds h1 h2=>{_,fs++ds,rfl,dX,by rw[zG];lia,λx hx=>(zJ.mp hx).elim (Q9 x)<|h2 x};have ac5:fs.length+2<=1000:=by lia
 rcases Zp with (rfl|⟨ks,rfl,_,_⟩|⟨o,c,v,_,_,ho,rfl⟩)|⟨e',rfl,Ya⟩|⟨o,ds,ho,rfl,hds,hd⟩;refine{λpM S2=>pM=_/\S2=S.set f (.lst fs),{_,rfl,_,rfl,_,rfl,bI (by trivial)<|fo ⟨rfl,rfl⟩},?_};rintro _ _ ⟨rfl,rfl⟩;exact{_,rfl,_,rfl,bW,rfl,rfl,_,rfl,bI (by trivial)<|keep _};refine{λpM S2=>pM=_/\S2=S.set f (.lst fs),{_,rfl,_,rfl,_,rfl,bI (by trivial)<|fo ⟨rfl,rfl⟩},?_};rintro _ _ ⟨rfl,rfl⟩;exact{_,rfl,_,rfl,bW,rfl,rfl,_,rfl,bI (by trivial)<|keep _};rcases ho with rfl|⟨_,rfl|rfl|⟨rfl,_⟩⟩;refine{λpM S2=>pM=_/\S2=S.set f (.lst fs),{_,rfl,_,rfl,_,rfl,bI (by trivial)<|fo ⟨rfl,rfl⟩},?_};rintro _ _ ⟨rfl,rfl⟩;exact{_,rfl,_,rfl,bW,rfl,rfl,_,rfl,bI (by trivial)<|keep _};refine{λpM S2=>pM=_/\S2=S.set f (.lst fs),{_,rfl,_,rfl,_,rfl,bI (by trivial)<|fo ⟨rfl,rfl⟩},?_};rintro _ _ ⟨rfl,rfl⟩;exact{_,rfl,_,rfl,bW,rfl,rfl,_,rfl,bI (by trivial)<|keep _};refine{λpM S2=>pM=_/\S2=S.set f (.lst fs),{_,rfl,_,rfl,_,rfl,bI (by trivial)<|fo ⟨rfl,rfl⟩},?_};rintro _ _ ⟨rfl,rfl⟩;exact{_,rfl,_,rfl,bW,rfl,rfl,_,rfl,bI (by trivial)<|keep _};refine{λpM S2=>pM=_/\S2=S.set f (.lst fs),{_,rfl,_,rfl,_,rfl,bI (by trivial)<|fo ⟨rfl,rfl⟩},?_};rintro _ _ ⟨rfl,rfl⟩;exact{_,rfl,_,rfl,bW,rfl,rfl,_,rfl,bI (by trivial)<|keep _};refine{λpM S2=>pM=_/\S2=(S.set f<|.lst fs).set f (.lst<|fs++[e']),{_,rfl,_,rfl,_,rfl,rH (by trivial) {_,rfl,{rfl,_,Q_},_,rfl,_,rfl,f,_,_,rfl,rfl,Q_,bg<|by lia,fo ⟨rfl,rfl⟩}},?_};rintro _ _ ⟨rfl,rfl⟩;exact{_,rfl,_,rfl,bW,rfl,rfl,_,rfl,bI (by trivial)<|more _ [e'] (by simp) λx hx=>by rw[zD.mp hx];exact Ya};rcases ho with rfl|rfl;refine{λpM S2=>pM=_/\S2=S.set f (.lst fs),{_,rfl,_,rfl,_,rfl,bI (by trivial)<|fo ⟨rfl,rfl⟩},?_};rintro _ _ ⟨rfl,rfl⟩;exact{_,rfl,_,rfl,bW,rfl,rfl,_,rfl,rH (by trivial) {_,rfl,{rfl,_,Q_},_,rfl,_,rfl,f,_,_,rfl,rfl,Q_,sm<|by lia,more _ ds hds hd}};refine{λpM S2=>pM=_/\S2=S.set f (.lst fs),{_,rfl,_,rfl,_,rfl,bI (by trivial)<|fo ⟨rfl,rfl⟩},?_};rintro _ _ ⟨rfl,rfl⟩;exact{_,rfl,_,rfl,bW,rfl,rfl,_,rfl,rH (by trivial) {_,rfl,{rfl,_,Q_},_,rfl,_,rfl,f,_,_,rfl,rfl,Q_,sm<|by lia,more _ ds hds hd}};rintro aC S' ⟨o,fs,rfl,rfl,Ko,Q9⟩;exact fo ⟨o,fs,rfl,rfl,Ko,Q9⟩;rintro aC S' ⟨o,fs,rfl,rfl,Ko,Q9⟩;exact{_,rfl,fo<|q f fs Ko Q9 hf}
inductive kD (ds:List D) (S:av) (R:KD) (Z:KX):Prop where
 |mk (cs d) (h0:ds=[.tup<|cs.map aA,d]) (h1:Gd cs) (h2:Sg cs 4 d) (h3:R .ax S):kD ds S R Z
theorem dM(T:Txt w K mg t):Ok P w base T.dh 6 kD:=by
 refine T.dh.F.bX bz ?_;rintro _ _ _ _ _ _ _ S R Z hr ⟨cs,d,e,hg,hd,q⟩;subst e;refine{_,(sc (cF (i:=2) bz.nd<|dR<|ac (dv 1) an)<|sc (cF (i:=3) bz.nd di)<|sc (cF (i:=4) bz.nd di)<|s1<|swh (bh qB hr.u (cb aY T.aV aJ<|ac (dv 2) an) di)<|sc (sau (i:=3) bz.nd di)<|sc (sau (i:=4) bz.nd<|cb aY T.aV aJ<|ac (dv 2) an)<|sc (si (twd<|twor (bh qB hr.u (dv 3)<|dg (v:=.int 8) T.vi {_,rfl} λ_=>aL _)<|tw1<|bh qB hr.u (dv 4)<|dg (v:=.int 200) T.ji {_,rfl} λ_=>aL _) (s1<|qE ⟨T.h_⟩ T.oA<|ac ds an) s0)<|sc (si (cz<|tv<|cb ko T.ku gv<|ac (tZ (N:=["thing","columns"]) (src:=[none,some 0]) (lF (ae sO) ["columns","sieve","level","deep","parts"] rfl rfl<|by trivial) (il<|dv 2) (r_<|show(["thing","columns"]:List Str).Nodup by trivial) (aZ rfl) a_ (λ_ _ _ _ _=>sM) λ_ _ _ _ _=>(aG T.nC (v9 T) hr<|ac (dv 1)<|ac (dv 0) an)) an) (s1<|qE ⟨T.h_⟩ T.oA<|ac ds an) s0)<|s1<|cF (i:=2) bz.nd<|aG T.gz (nV T) hr<|ac (dv 2) an),?_};refine{_,rfl,rj,λl0 V_=>?_};refine{λm aC S'=>∃(l:Addr) (es:List D) (dp p:Nat),aC=[some<|.tup<|cs.map aA,some d,some<|.ref l,some<|.int dp,some<|.int p]/\S' l=some (.lst es)/\Sub S S'/\(∀e∈es,Sg cs m e)/\dp+m=4/\p<=16*dp/\es.length*2^m<=16,{4,l0,[d],0,0,rfl,aa,.new V_,λe he=>by rw[zD.mp he];exact hd,rfl,zk _,zk 16},?_};rintro m aC S' ⟨l,es,dp,p,rfl,hl,sb,yS,hdp,hp,h8⟩;refine{_,rfl,_,rfl,.inl {_,hl,_,rfl,?_}};refine bD (λh1=>?_) λh1=>?_;have mX:0<es.length:=by have h1:(0:Int)<((es.length:Nat):Int):=zC h1;lia
 obtain⟨e0,he0⟩:=List.exists_mem_of_length_pos mX;obtain⟨n,rfl⟩:∃n,m=n+1:=by cases m with|zero=>exact(yS e0 he0).elim|succ n=>exact⟨n,rfl⟩
 have hle:es.length<=16:=zK (Nat.le_mul_of_pos_right _<|Nat.two_pow_pos _) h8;refine{_,rfl,_,rfl,_,rfl,_,rfl,_,rfl,.inl {_,hl,_,rfl,?_}};refine{_,rfl,_,rfl,bI (zo<|by lia) {_,rfl,_,rfl,bI (zo<|by lia) ?_}};refine{_,rfl,es,hl,?_};refine comp_map (λ_=>.bl true) hl (by show es.length<=1000;lia) (λe he Q hQ=>?_) λp1 sZ=>?_;exact{_,rfl,_,rfl,cs,_,e,rfl,hg,yS e he,hQ};have e2:es.map (λ_=>D.bl true)=(es.map λ_=>true).map D.bl:=by rw[zA];rfl
 have e3:(es.map λ_=>true).all id=true:=by rw[all_map];exact yh.mpr λ_ _=>rfl
 refine{.ref p1,es.map λ_=>true,rfl,?_,_,rfl,?_};show(S'.set p1<|.lst<|es.map _) p1=_;rw[aa,e2];rw[e3];refine bb ?_;have s1:=sb.trans<|.new (c:=.lst<|es.map λ_=>D.bl true) sZ;have Lz:(S'.set p1<|.lst<|es.map λ_=>D.bl true) l=some (.lst es):=(ag<|g6 hl sZ).trans hl;refine{_,rfl,l,es,cs,n,rfl,Lz,hle,yS,λp2 fs h1 h2 h3=>?_};refine{n,yx n,p2,fs,dp+1,p+es.length,?_,aa,s1.trans<|.new h3,h2,by lia,by lia,?_};show[_,_,_,some<|D.int<|((dp:Nat):Int)+1,some<|D.int<|((p:Nat):Int)+((es.length:Nat):Int)]=_;rw[show(((dp:Nat):Int)+1)=((dp+1:Nat):Int) by lia,show(((p:Nat):Int)+((es.length:Nat):Int))=((p+es.length:Nat):Int) by lia];rw[Nat.pow_succ]at h8;exact zK (Nat.mul_le_mul_right _ h1) (by rw[Nat.mul_comm 2,Nat.mul_assoc,Nat.mul_comm 2];exact h8);exact⟨S,sb,q⟩
noncomputable def LH(cs:List<|Str×Str)(z:Str):Nat:=(cs.map Prod.fst).idxOf z
noncomputable def ao(cs:List<|Str×Str)(ws:List D)(z:Str):D:=(ws[LH cs z]?).getD .ax
noncomputable def ak(r:Str×List D):D:=.tup [.str r.1,.tup r.2]
theorem rK:∀{l:List α}{m:List β},Paired rel l m->∀{i:Nat}{a:α},l[i]?=some a->∃b,m[i]?=some b/\rel a b|_,_,.nil,_,_,h=>by simp at h|_,_,.cons r t,0,a,h=>(by rw[List.getElem?_cons_zero]at h⊢;cases h;exact{_,rfl,r})|_,_,.cons r t,i+1,a,h=>by rw[List.getElem?_cons_succ]at h⊢;exact rK t h
theorem rL(hg:Gd cs)(h:c∈cs):cs[LH cs c.1]?=some c/\(cs.map Prod.fst)[LH cs c.1]?=some c.1:=by
 have hm:c.1∈cs.map Prod.fst:=zh.mpr ⟨c,h,rfl⟩;have hi:(cs.map Prod.fst).idxOf c.1<(cs.map Prod.fst).length:=List.idxOf_lt_length_of_mem hm;have e1:(cs.map Prod.fst)[(cs.map Prod.fst).idxOf c.1]?=some c.1:=by rw[zg hi,List.getElem_idxOf]
 refine{?_,e1};obtain⟨j,ej⟩:=List.getElem?_of_mem h;have ej1:(cs.map Prod.fst)[j]?=some c.1:=by rw[zq,ej];rfl
 obtain⟨b1,c1⟩:=ze.mp e1;obtain⟨b2,c2⟩:=ze.mp ej1;have:=(List.getElem_inj hg.2.1 (h₀:=b1) (h₁:=b2)).mp<|c1.trans c2.symm;unfold LH;rw[this];exact ej
theorem pV(hg:Gd cs)(hw:Wg cs ws)(h:c∈cs):ws[LH cs c.1]?=some (ao cs ws c.1)/\Vg c.2 (ao cs ws c.1):=by obtain⟨v,e,r⟩:=rK hw (rL hg h).1;unfold ao;rw[e];exact⟨rfl,r⟩
noncomputable def nW:D->D->Bool|.ax,.ax=>true|.int i,.int j=>decide (i=j)|.str i,.str j=>decide (i=j)|_,_=>false
theorem cw(ha:cQ a=true)(hb:cQ b=true):nW a b=true↔a=b:=by cases a<;>cases b<;>first|(cases ha;done)|(cases hb;done)|simp[nW]
theorem yT(ha:cQ a=true)(hb:cQ b=true)(q:R (.bl<|if neg then !nW a b else nW a b) S):JD neg a b S R:=by
 have mix:∀{a b:D},cQ a=true->cQ b=true->(∀p q,Dp S a p->Dp S b q->PyData.eqv p q=nW a b)->(∀i j,a=.int i->b≠.int j)->(∀i j,a=.str i->b≠.str j)->R (.bl<|if neg then !nW a b else nW a b) S->JD neg a b S R:=by intro a b ha hb h h1 h2 q;obtain⟨p,p1,p2,p3⟩:=Ly.plain (S:=S) ha;obtain⟨r,r1,r2,r3⟩:=Ly.plain (S:=S) hb;have e:=h p r p1 r1;obtain⟨p',p1',p2',p3'⟩:=Ly.dl<|Ly.plain (S:=S) ha;cases a<;>cases b<;>first|(cases ha;done)|(cases hb;done)|exact absurd rfl (h1 _ _ rfl)|exact absurd rfl (h2 _ _ rfl)|exact{p,r,p1,r1,p2,r2,.inl<|by lia,by rw[e];exact q}
 cases a with|ax=>(cases b with|ax=>exact mix ha hb (λp q h1 h2=>by simp only[Dp]at h1 h2;subst h1 h2;rfl) nofun nofun q|int j=>exact mix ha hb (λp q h1 h2=>by simp only[Dp]at h1 h2;subst h1 h2;rfl) nofun nofun q|str j=>exact mix ha hb (λp q h1 h2=>by simp only[Dp]at h1 h2;subst h1 h2;rfl) nofun nofun q|_=>cases hb)|int i=>(cases b with|ax=>exact mix ha hb (λp q h1 h2=>by simp only[Dp]at h1 h2;subst h1 h2;rfl) nofun nofun q|int j=>exact q|str j=>exact mix ha hb (λp q h1 h2=>by simp only[Dp]at h1 h2;subst h1 h2;rfl) nofun nofun q|_=>cases hb)|str i=>(cases b with|ax=>exact mix ha hb (λp q h1 h2=>by simp only[Dp]at h1 h2;subst h1 h2;rfl) nofun nofun q|int j=>exact mix ha hb (λp q h1 h2=>by simp only[Dp]at h1 h2;subst h1 h2;rfl) nofun nofun q|str j=>exact q|_=>cases hb)|_=>cases ha
noncomputable def s_:D->D->Bool|.int i,.int j=>decide (i<j)|.str i,.str j=>tQ i j|_,_=>false
noncomputable def stP:D->D->Bool|.str i,.str j=>PySem.Txt.startswith i j|_,_=>false
noncomputable def Dy(o:Str)(a b:D):Bool:=if o ="is" then nW a b else if ah a then false else if o ="below" then s_ a b else if o ="above" then s_ b a else stP a b
noncomputable def FE:D->List D|.tup ds=>ds|_=>[]
noncomputable def UQ(cs:List<|Str×Str)(r:Str×List D)(f:D->Bool):D->Bool|.tup [.str _]=>true|.tup [.str o,e]=>(if o ="not" then !f e else if o ="key" then Ey (lV<|.str r.1) ((FE e).map lV) else if o ="and" then (FE e).all f else (FE e).any f)|.tup [.str o,.str z,v]=>Dy o (ao cs r.2 z) v|_=>false
noncomputable def bK(cs:List<|Str×Str)(r:Str×List D):Nat->D->Bool|0,_=>false|n+1,d=>UQ cs r (bK cs r n) d
theorem Dz(cs:List<|Str×Str)(r:Str×List D)(n:Nat)(o:Str)(e:D):bK cs r (n+1) (.tup [.str o,e])=if o ="not" then !bK cs r n e else if o ="key" then Ey (lV<|.str r.1) ((FE e).map lV) else if o ="and" then (FE e).all (bK cs r n) else (FE e).any (bK cs r n):=rfl
theorem UR(cs:List<|Str×Str)(r:Str×List D)(n:Nat)(o z:Str)(v:D):bK cs r (n+1) (.tup [.str o,.str z,v])=Dy o (ao cs r.2 z) v:=rfl
theorem IH(cs:List<|Str×Str)(r:Str×List D)(n:Nat)(ks:List D):bK cs r (n+1) (.tup [.str "key",.tup ks])=Ey (lV<|.str r.1) (ks.map lV):=by rw[Dz,if_neg<|by trivial,if_pos rfl];rfl
theorem II(cs:List<|Str×Str)(r:Str×List D)(n:Nat)(e:D):bK cs r (n+1) (.tup [.str "not",e])=!bK cs r n e:=by rw[Dz,if_pos rfl]
theorem IJ(cs:List<|Str×Str)(r:Str×List D)(n:Nat)(es:List D):bK cs r (n+1) (.tup [.str "and",.tup es])=es.all (bK cs r n):=by rw[Dz,if_neg<|by trivial,if_neg<|by trivial,if_pos rfl];rfl
theorem LI(cs:List<|Str×Str)(r:Str×List D)(n:Nat)(es:List D):bK cs r (n+1) (.tup [.str "or",.tup es])=es.any (bK cs r n):=by rw[Dz,if_neg<|by trivial,if_neg<|by trivial,if_neg<|by trivial];rfl
theorem v_{k:Str}(ha:Vg k a)(hb:Vg k b)(na:a≠.ax)(nb:b≠.ax):(∃i j,a=.int i/\b=.int j)\/∃i j,a=.str i/\b=.str j:=by obtain⟨a1,a2⟩:=ha;obtain⟨b1,b2⟩:=hb;cases a with|ax=>exact absurd rfl na|int i=>(cases b with|ax=>exact absurd rfl nb|int j=>exact .inl ⟨i,j,rfl,rfl⟩|str j=>(exfalso;unfold jw at a1 b1;simp only[ah,yM]at a1 b1;by_cases e:k ="number";rw[if_pos e]at b1;cases b1;rw[if_neg e]at a1;cases a1)|_=>cases b2)|str i=>(cases b with|ax=>exact absurd rfl nb|str j=>exact .inr ⟨i,j,rfl,rfl⟩|int j=>(exfalso;unfold jw at a1 b1;simp only[ah,yM]at a1 b1;by_cases e:k ="number";rw[if_pos e]at a1;cases a1;rw[if_neg e]at b1;cases b1)|_=>cases b2)|_=>cases a2
theorem DB(h:Vg "word" a)(n:a≠.ax):∃z,a=.str z:=by obtain⟨h1,h2⟩:=h;cases a with|ax=>exact absurd rfl n|str z=>exact⟨z,rfl⟩|int i=>(unfold jw at h1;rw[if_neg<|by trivial]at h1;cases h1)|_=>cases h2
theorem bt(h:ah a=false):a≠.ax:=by rintro rfl;cases h
inductive lg (ds:List D) (S:av) (R:KD) (Z:KX):Prop where
 |mk (cs r c) (h0:ds=[.tup<|cs.map aA,ak r,.str c.1]) (h1:Gd cs) (h2:Wg cs r.2) (h3:c∈cs) (h4:R (ao cs r.2 c.1) S):lg ds S R Z
theorem dm(T:Txt w K mg t):Ok P w base T.ck 2 lg:=by
 refine T.ck.F.bX xU ?_;rintro _ _ _ _ _ _ _ S R Z hr ⟨cs,r,c,e,hg,hw,hc,q⟩;subst e;obtain⟨n1,n2⟩:=rL hg hc;refine{_,(s1<|sr<|ix hr.u (ix hr.u (dv 1) di)<|bm zS PySem.F.slot_list_index PySem.F.type_list_index Hn (aG T.ma (oJ T) hr<|ac (dv 0) an)<|ac (dv 2) an),?_};refine{_,rfl,_,rfl,_,rfl,cs,rfl,hg.1,λp hp=>?_};refine{{rfl,_,aa},_,rfl,(cs.map Prod.fst).map D.str,.str c.1,LH cs c.1,rfl,aa,rfl,?_,{.str c.1,by rw[zq,n2];rfl,by show(c.1==c.1)=true;simp},?_,?_};rw[List.all_map];exact yh.mpr λ_ _=>rfl;intro m u hm hu;rw[zq]at hu;cases e:(cs.map Prod.fst)[m]? with|none=>(rw[e]at hu;cases hu)|some z'=>rw[e]at hu;cases hu;show(z'==c.1)=false;have:z'≠c.1:=λq=>(by subst q;obtain⟨b1,c1⟩:=ze.mp e;obtain⟨b2,c2⟩:=ze.mp n2;have:=(List.getElem_inj hg.2.1 (h₀:=b1) (h₁:=b2)).mp<|c1.trans c2.symm;lia);simpa using this
 exact{_,dw (pV hg hw hc).1,S,.new hp,q}
inductive fL (ds:List D) (S:av) (R:KD) (Z:KX):Prop where
 |mk (o a b c) (h0:ds=[.str o,a,b]) (h1:Vg c.2 a) (h2:Vg c.2 b) (h3:BV o c b) (h4:R (.bl<|Dy o a b) S):fL ds S R Z
theorem pG(T:Txt w K mg t):Ok P w base T.ib 1 fL:=by
 refine T.ib.F.bX pA ?_;rintro _ _ _ _ _ _ _ S R Z hr ⟨o,a,b,c,e,ha,hb,ho,q⟩;subst e;refine{_,(sc (si (bh bj hr.u (dv 0) ds) (s1<|sr<|cm bj hr.u (dv 1)<|dv 2) s0)<|sc (si (bh iO hr.u (dv 1) dn) (s1<|sr db) s0)<|sc (si (bh bj hr.u (dv 0) ds) (s1<|sr<|cm uY hr.u (dv 1)<|dv 2) s0)<|sc (si (bh bj hr.u (dv 0) ds) (s1<|sr<|cm qB hr.u (dv 1)<|dv 2) s0)<|s1<|sr<|bm PySem.F.plainAttrs_str PySem.F.slot_str_startswith PySem.F.type_str_startswith Ho (dv 1)<|ac (dv 2) an),?_};unfold Dy at q;rcases ho with rfl|⟨nb,ho⟩;rw[if_pos rfl]at q;exact{_,rfl,_,rfl,rH (by trivial) {_,rfl,_,rfl,yT ha.2 hb.2<|fo q}};have ne:∀{A B:Bool},o≠"is"->R (.bl<|if o ="is" then A else B) S->R (.bl B) S:=λh q=>by rw[if_neg h]at q;exact q
 rcases ho with rfl|rfl|⟨rfl,hk⟩;rw[if_neg<|by trivial]at q;refine{_,rfl,_,rfl,bI (by trivial) {_,rfl,_,rfl,bD (λh=>?_) λh=>?_}};rw[if_pos h]at q;exact fo q;rw[if_neg<|by rw[show ah a=false from h];exact zd,if_pos rfl]at q;refine{_,rfl,_,rfl,rH (by trivial) {_,rfl,_,rfl,?_}};rcases v_ ha hb (bt h) nb with⟨i,j,rfl,rfl⟩|⟨i,j,rfl,rfl⟩<;>exact fo q;rw[if_neg<|by trivial]at q;refine{_,rfl,_,rfl,bI (by trivial) {_,rfl,_,rfl,bD (λh=>?_) λh=>?_}};rw[if_pos h]at q;exact fo q;rw[if_neg<|by rw[show ah a=false from h];exact zd,if_neg<|by trivial,if_pos rfl]at q;refine{_,rfl,_,rfl,bI (by trivial) {_,rfl,_,rfl,rH (by trivial) {_,rfl,_,rfl,?_}}};rcases v_ ha hb (bt h) nb with⟨i,j,rfl,rfl⟩|⟨i,j,rfl,rfl⟩<;>exact fo q;rw[if_neg<|by trivial]at q;refine{_,rfl,_,rfl,bI (by trivial) {_,rfl,_,rfl,bD (λh=>?_) λh=>?_}};rw[if_pos h]at q;exact fo q;rw[if_neg<|by rw[show ah a=false from h];exact zd,if_neg<|by trivial,if_neg<|by trivial]at q;refine{_,rfl,_,rfl,bI (by trivial) {_,rfl,_,rfl,bI (by trivial) ?_}};rw[hk]at ha hb;obtain⟨i,rfl⟩:=DB ha<|bt h;obtain⟨j,rfl⟩:=DB hb nb;exact{_,rfl,rfl,_,rfl,i,j,rfl,rfl,fo q}
def P1(n:Nat):iV:=λds S R _=>∃cs d r,ds=[.tup<|cs.map aA,d,ak r]/\Gd cs/\Sg cs n d/\Wg cs r.2/\R (.bl<|bK cs r n d) S
theorem jQ(T:Txt w K mg t):∀n,Ok P w base T.passes (3+n) (P1 n)
 |0=>by refine T.passes.F.ok (k:=2) uh (by rintro ds S R Z ⟨_,_,_,e,_⟩;exact by rw[e];rfl) (by rintro fU A outer s H E ds S R Z hr ⟨cs,d,r,e,hg,hs,_⟩;exact hs.elim)
 |n+1=>by
  refine T.passes.F.ok (k:=3+n) uh (by rintro ds S R Z ⟨_,_,_,e,_⟩;rw[e];rfl) ?_;rintro _ _ _ _ _ _ _ S R Z hr ⟨cs,d,r,e,hg,hs,hw,q⟩;subst e;refine{_,(sc (si (bh bj hr.u (ix hr.u (dv 1) di) ds) (s1<|sr db) s0)<|sc (si (bh bj hr.u (ix hr.u (dv 1) di) ds) (s1<|sr<|cm ET hr.u (ix hr.u (dv 2) di)<|ix hr.u (dv 1) di) s0)<|sc (si (bh bj hr.u (ix hr.u (dv 1) di) ds) (s1<|sr<|SM<|aG T.passes (jQ T n) hr<|ac (dv 0)<|ac (ix hr.u (dv 1) di)<|ac (dv 2) an) s0)<|sc (si (bh bj hr.u (ix hr.u (dv 1) di) ds) (s1<|sr<|cb ko T.ku gv<|ac (tZ (N:=["inner","columns","row"]) (src:=[none,some 0,some 2]) (lF (ae xG) ["columns","sieve","row"] rfl rfl<|by trivial) (Hx<|ix hr.u (dv 1) di) (r_<|show(["inner","columns","row"]:List Str).Nodup by trivial) (aZ rfl) a_ (λ_ _ _ _ _=>sM) λ_ _ _ _ _=>(aG T.passes (jQ T n) hr<|ac (dv 1)<|ac (dv 0)<|ac (dv 2) an)) an) s0)<|sc (si (bh bj hr.u (ix hr.u (dv 1) di) ds) (s1<|sr<|cb Tp T.UD Ov<|ac (tZ (N:=["inner","columns","row"]) (src:=[none,some 0,some 2]) (lF (ae xG) ["columns","sieve","row"] rfl rfl<|by trivial) (Hx<|ix hr.u (dv 1) di) (r_<|show(["inner","columns","row"]:List Str).Nodup by trivial) (aZ rfl) a_ (λ_ _ _ _ _=>sM) λ_ _ _ _ _=>(aG T.passes (jQ T n) hr<|ac (dv 1)<|ac (dv 0)<|ac (dv 2) an)) an) s0)<|s1<|sr<|aG T.ib (pG T) hr<|ac (ix hr.u (dv 1) di)<|ac (aG T.ck (dm T) hr<|ac (dv 0)<|ac (dv 2)<|ac (ix hr.u (dv 1) di) an)<|ac (ix hr.u (dv 1) di) an),?_};rcases hs with (rfl|⟨ks,rfl,hk8,Bl⟩|⟨o,c,v,hc,hv,ho,rfl⟩)|⟨e,rfl,he⟩|⟨o,es,ho,rfl,yS,Mz⟩;exact{_,rfl,_,rfl,_,rfl,rH (by trivial)<|fo q};refine{_,rfl,_,rfl,_,rfl,bI (by trivial) {_,rfl,_,rfl,_,rfl,rH (by trivial) ?_}};refine{_,rfl,_,rfl,_,rfl,_,rfl,rfl,?_,?_};rw[List.all_map];exact yh.mpr λ_ _=>rfl;rw[IH]at q;exact fo q;rw[UR]at q;have fin:∀Zq,fL [D.str o,ao cs r.2 c.1,v] S (λd S'=>Fo S'<|R d) Zq:=λ_=>{o,_,v,c,rfl,(pV hg hw hc).2,hv,ho,fo q};have h4:o ="is"\/o ="below"\/o ="above"\/o ="begins":=by rcases ho with h|⟨_,h|h|⟨h,_⟩⟩;exact .inl h;exact .inr<|.inl h;exact .inr<|.inr<|.inl h;exact .inr<|.inr<|.inr h
  rcases h4 with rfl|rfl|rfl|rfl;exact{_,rfl,_,rfl,_,rfl,bI (by trivial) {_,rfl,_,rfl,_,rfl,bI (by trivial) {_,rfl,_,rfl,_,rfl,bI (by trivial) {_,rfl,_,rfl,_,rfl,bI (by trivial) {_,rfl,_,rfl,_,rfl,bI (by trivial) {_,rfl,_,rfl,_,rfl,_,rfl,_,rfl,_,rfl,cs,r,c,rfl,hg,hw,hc,_,rfl,_,rfl,fin _}}}}}};exact{_,rfl,_,rfl,_,rfl,bI (by trivial) {_,rfl,_,rfl,_,rfl,bI (by trivial) {_,rfl,_,rfl,_,rfl,bI (by trivial) {_,rfl,_,rfl,_,rfl,bI (by trivial) {_,rfl,_,rfl,_,rfl,bI (by trivial) {_,rfl,_,rfl,_,rfl,_,rfl,_,rfl,_,rfl,cs,r,c,rfl,hg,hw,hc,_,rfl,_,rfl,fin _}}}}}};exact{_,rfl,_,rfl,_,rfl,bI (by trivial) {_,rfl,_,rfl,_,rfl,bI (by trivial) {_,rfl,_,rfl,_,rfl,bI (by trivial) {_,rfl,_,rfl,_,rfl,bI (by trivial) {_,rfl,_,rfl,_,rfl,bI (by trivial) {_,rfl,_,rfl,_,rfl,_,rfl,_,rfl,_,rfl,cs,r,c,rfl,hg,hw,hc,_,rfl,_,rfl,fin _}}}}}};exact{_,rfl,_,rfl,_,rfl,bI (by trivial) {_,rfl,_,rfl,_,rfl,bI (by trivial) {_,rfl,_,rfl,_,rfl,bI (by trivial) {_,rfl,_,rfl,_,rfl,bI (by trivial) {_,rfl,_,rfl,_,rfl,bI (by trivial) {_,rfl,_,rfl,_,rfl,_,rfl,_,rfl,_,rfl,cs,r,c,rfl,hg,hw,hc,_,rfl,_,rfl,fin _}}}}}};rw[II]at q;exact{_,rfl,_,rfl,_,rfl,bI (by trivial) {_,rfl,_,rfl,_,rfl,bI (by trivial) {_,rfl,_,rfl,_,rfl,rH (by trivial) {_,rfl,_,rfl,_,rfl,_,rfl,cs,e,r,rfl,hg,he,hw,_,rfl,fo q}}}};have hz:es.length<=1000:=by lia
  rcases ho with rfl|rfl;rw[IJ]at q;refine{_,rfl,_,rfl,_,rfl,bI (by trivial) {_,rfl,_,rfl,_,rfl,bI (by trivial) {_,rfl,_,rfl,_,rfl,bI (by trivial) {_,rfl,_,rfl,_,rfl,rH (by trivial) {_,rfl,_,rfl,_,.inl rfl,?_}}}}};refine comp_map (λd=>.bl<|bK cs r n d) trivial hz (λd hd Q hQ=>{_,rfl,_,rfl,_,rfl,cs,d,r,rfl,hg,Mz d hd,hw,hQ}) λp hp=>?_;refine{.ref p,es.map<|bK cs r n,rfl,?_,S,.new hp,?_};show(S.set p<|.lst<|es.map _) p=_;rw[aa,zA];rfl;rw[all_map];exact q;rw[LI]at q;refine{_,rfl,_,rfl,_,rfl,bI (by trivial) {_,rfl,_,rfl,_,rfl,bI (by trivial) {_,rfl,_,rfl,_,rfl,bI (by trivial) {_,rfl,_,rfl,_,rfl,bI (by trivial) {_,rfl,_,rfl,_,rfl,rH (by trivial) {_,rfl,_,rfl,_,.inl rfl,?_}}}}}};refine comp_map (λd=>.bl<|bK cs r n d) trivial hz (λd hd Q hQ=>{_,rfl,_,rfl,_,rfl,cs,d,r,rfl,hg,Mz d hd,hw,hQ}) λp hp=>?_;refine{.ref p,es.map<|bK cs r n,rfl,?_,S,.new hp,?_};show(S.set p<|.lst<|es.map _) p=_;rw[aa,zA];rfl;rw[List.any_map];exact q
abbrev Row:=Str×List D
abbrev Part:=Str×Str×Str
theorem P2{a b:Str}(h:a.cps.toList=b.cps.toList):a=b:=by obtain⟨x⟩:=a;obtain⟨y⟩:=b;exact congrArg Str.mk<|Array.ext' h
theorem DC(a:Str):tQ a a=false:=zo<|List.lt_irrefl _
theorem wa{a b:Str}(h:a≠b):tQ b a=!tQ a b:=by unfold tQ;rw[yw];simp only[decide_eq_true_iff,Bool.not_eq_true',decide_eq_false_iff_not];constructor;exact λh1 h2=>List.lt_irrefl _<|List.lt_trans h1 h2;intro h1;by_cases h2:b.cps.toList<a.cps.toList;exact h2;exact absurd (P2<|List.le_antisymm (List.not_lt.mp h2)<|List.not_lt.mp h1) h
theorem P4(h1:tQ a b=true)(h2:tQ b c=true):tQ a c=true:=zr<|List.lt_trans (zC h1)<|zC h2
theorem DD(a:D):s_ a a=false:=by cases a<;>first|rfl|exact DC _|exact zo (Int.lt_irrefl _)
theorem mC(ha:Vg k a)(hb:Vg k b)(na:a≠.ax)(nb:b≠.ax)(h:a≠b):s_ b a=!s_ a b:=by rcases v_ ha hb na nb with⟨i,j,rfl,rfl⟩|⟨i,j,rfl,rfl⟩;have kM:i≠j:=λe=>h<|congrArg D.int e;show decide (j<i)=!decide (i<j);rw[yw];simp only[decide_eq_true_iff,Bool.not_eq_true',decide_eq_false_iff_not];lia;exact wa λe=>h<|congrArg D.str e
theorem IK(h1:s_ a b=true)(h2:s_ b c=true):s_ a c=true:=by cases a with|int i=>(cases b with|int j=>(cases c with|int l=>have h1:i<j:=zC h1;have h2:j<l:=zC h2;exact zr (by lia)|_=>cases h2)|_=>cases h1)|str i=>(cases b with|str j=>(cases c with|str l=>exact P4 h1 h2|_=>cases h2)|_=>cases h1)|_=>cases h1
theorem IL(h:Uh a b):s_ a b=true:=by cases a with|int i=>(cases b with|int j=>exact zr h|_=>exact h.elim)|str i=>(cases b with|str j=>exact zr h|_=>exact h.elim)|_=>exact h.elim
noncomputable def cM(p:Part)(x y:D):Bool:=if (ah x != ah y)=true then ah x==decide (p.2.2 ="first") else s_ x y==decide (p.2.1 ="up")
noncomputable def cJ(cs:List<|Str×Str)(wy:Str):List Part->Row->Row->Bool|[],a,b=>tQ a.1 b.1==decide (wy ="up")|p::ps,a,b=>if nW (ao cs a.2 p.1) (ao cs b.2 p.1)=true then cJ cs wy ps a b else cM p (ao cs a.2 p.1) (ao cs b.2 p.1)
theorem bxor:((!x)==u)=!(x==u):=by cases x<;>cases u<;>rfl
theorem dN(h:ah x=true):x=.ax:=by cases x<;>first|rfl|cases h
theorem nX(hx:Vg k x)(hy:Vg k y)(h:x≠y):cM p y x=!cM p x y:=by unfold cM;cases nx:ah x with|true=>(cases ny:ah y with|true=>exact absurd ((dN nx).trans (dN ny).symm) h|false=>rw[if_pos<|by rfl,if_pos<|by rfl];cases decide (p.2.2 ="first")<;>rfl)|false=>cases ny:ah y with|true=>(rw[if_pos<|by rfl,if_pos<|by rfl];cases decide (p.2.2 ="first")<;>rfl)|false=>rw[if_neg<|by simp,if_neg<|by simp,mC hx hy (bt nx) (bt ny) h,bxor]
theorem LJ(hx:Vg k x)(hy:Vg k y)(hz:Vg k z)(Zr:x≠y)(hyz:y≠z)(h1:cM p x y=true)(h2:cM p y z=true):x≠z/\cM p x z=true:=by
 have Zs:x≠z:=by rintro rfl;have:=nX (p:=p) hx hy Zr;rw[h1,h2]at this;cases this
 refine{Zs,?_};unfold cM at h1 h2⊢;cases nx:ah x with|true=>(cases ny:ah y with|true=>exact absurd ((dN nx).trans (dN ny).symm) Zr|false=>rw[nx,ny,if_pos<|by rfl]at h1;cases nz:ah z with|true=>exact absurd ((dN nx).trans (dN nz).symm) Zs|false=>rw[if_pos<|by rfl];exact h1)|false=>cases ny:ah y with|true=>(rw[nx,ny,if_pos<|by rfl]at h1;cases nz:ah z with|true=>exact absurd ((dN ny).trans (dN nz).symm) hyz|false=>rw[ny,nz,if_pos<|by rfl]at h2;cases e:decide (p.2.2 ="first")<;>rw[e]at h1 h2<;>first|cases h1;done|cases h2;done)|false=>rw[nx,ny,if_neg<|by simp]at h1;cases nz:ah z with|true=>rw[ny,nz,if_pos<|by rfl]at h2;rw[if_pos<|by rfl];exact h2|false=>rw[ny,nz,if_neg<|by simp]at h2;rw[if_neg<|by simp];cases e:decide (p.2.1 ="up") with|true=>rw[e]at h1 h2;rw[IK (a:=x) (b:=y) (c:=z) (by simpa using h1)<|by simpa using h2];rfl|false=>rw[e]at h1 h2;have h1:s_ x y=false:=(by simpa using h1);have h2:s_ y z=false:=(by simpa using h2);have a1:=mC hx hy (bt nx) (bt ny) Zr;have a2:=mC hy hz (bt ny) (bt nz) hyz;rw[h1]at a1;rw[h2]at a2;have a3:=IK a2 a1;have a4:=mC hx hz (bt nx) (bt nz) Zs;rw[a3]at a4;cases q:s_ x z with|true=>(rw[q]at a4;cases a4)|false=>rfl
def Pin(cs:List<|Str×Str)(ps:List Part):Prop:=∀p∈ps,∃c∈cs,c.1=p.1
section
variable{cs:List (Str×Str)}{wy:Str}
theorem Pin.tail(h:Pin cs<|p::ps):Pin cs ps:=λq hq=>h q<|zi _ hq
theorem wb(hg:Gd cs)(h:Pin cs<|p::ps):∃k,∀ws,Wg cs ws->Vg k (ao cs ws p.1):=by obtain⟨c,hc,e⟩:=h p zp;rw[<-e];exact{c.2,λws hw=>(pV hg hw hc).2}
theorem yU(hg:Gd cs):∀{ps:List Part}{a b:Row},Pin cs ps->Wg cs a.2->Wg cs b.2->a.1≠b.1->cJ cs wy ps b a=!cJ cs wy ps a b|[],a,b,_,_,_,h=>by show(tQ b.1 a.1==_)=!(tQ a.1 b.1==_);rw[wa h,bxor]|p::ps,a,b,hp,ha,hb,h=>by obtain⟨k,hk⟩:=wb hg hp;have va:=hk _ ha;have vb:=hk _ hb;unfold cJ;by_cases e:ao cs a.2 p.1=ao cs b.2 p.1;rw[if_pos<|(cw vb.2 va.2).mpr e.symm,if_pos<|(cw va.2 vb.2).mpr e];exact yU hg hp.tail ha hb h;rw[if_neg λq=>e ((cw vb.2 va.2).mp q).symm,if_neg λq=>e<|(cw va.2 vb.2).mp q];exact nX va vb e
def Rg(cs:List<|Str×Str)(rs:List Row):Prop:=(∀r∈rs,Wg cs r.2)/\(rs.map Prod.fst).Nodup
theorem Rg.perm(h:Rg cs rs)(p:bN.Perm rs):Rg cs bN:={λr hr=>h.1 r<|p.mem_iff.mp hr,(p.map _).nodup_iff.mpr h.2}
theorem Rg.sub(h:Rg cs rs)(p:bN.Sublist rs):Rg cs bN:={λr hr=>h.1 r<|p.subset hr,h.2.sublist<|p.map _}
theorem LK(hg:Gd cs)(hp:Pin cs ps)(hr:Rg cs m)(hl:l.Pairwise λa b=>cJ cs wy ps a b=true)(hm:m.Pairwise λa b=>cJ cs wy ps a b=true)(pm:l.Perm m):l=m:=by refine List.Perm.eq_of_pairwise (le:=λa b=>cJ cs wy ps a b=true) (λa b ha hb h1 h2=>?_) hl hm pm;have ha:=pm.mem_iff.mp ha;by_cases e:a.1=b.1;exact gk (f:=Prod.fst) hr.2 ha hb e;have:=yU (wy:=wy) hg hp (hr.1 a ha) (hr.1 b hb) e;rw[h1,h2]at this;cases this
end
theorem BW{l m:List Nat}(hl:l.Nodup)(hm:m.Nodup)(h:∀x,x∈l↔x∈m):l.Perm m:=by induction l generalizing m with|nil=>(cases m with|nil=>exact .nil|cons y m=>exact absurd ((h y).mpr zp)<|by simp)|cons x l ih=>obtain⟨n1,n2⟩:=ye.mp hl;have hx:=(h x).mp zp;refine .trans ((ih n2 (hm.erase x) λy=>?_).cons x) (List.perm_cons_erase hx).symm;rw[hm.mem_erase_iff];constructor;intro hy;exact{λe=>n1<|e ▸ hy,(h y).mp<|zi _ hy};rintro⟨h1,h2⟩;rcases zf.mp ((h y).mpr h2) with e|e;exact absurd e h1;exact e
theorem map_range(d:α)(xs:List α):(List.range xs.length).map (λk=>xs.getD k d)=xs:=by refine List.ext_getElem (by simp) λi h1 h2=>?_;simp[zg h2]
theorem FF{α:Type}(d:α){xs:List α}{g:Nat->Nat}(lt:∀k,k<xs.length->g k<xs.length)(inj:∀i j,i<xs.length->j<xs.length->g i=g j->i=j):((List.range xs.length).map λk=>xs.getD (g k) d).Perm xs:=by
 have nd:((List.range xs.length).map g).Nodup:=by refine List.pairwise_map.mpr<|List.nodup_range.imp_of_mem λ{a b} ha hb n e=>n<|inj a b (zN.mp ha) (zN.mp hb) e
 have sub:∀x∈(List.range xs.length).map g,x∈List.range xs.length:=λx hx=>by obtain⟨k,hk,rfl⟩:=zh.mp hx;exact zN.mpr<|lt k<|zN.mp hk
 have p:((List.range xs.length).map g).Perm (List.range xs.length):=BW nd List.nodup_range λx=>by refine{sub x,λhx=>?_};by_cases h:x∈(List.range xs.length).map g;exact h;exfalso;have:=sub_len nd (m:=(List.range xs.length).erase x) λy hy=>(List.Nodup.mem_erase_iff List.nodup_range).mpr {λe=>h<|e ▸ hy,sub y hy};rw[zc,List.length_erase_of_mem hx,List.length_range]at this;have:=zN.mp hx;lia
 have e:((List.range xs.length).map λk=>xs.getD (g k) d)=((List.range xs.length).map g).map λk=>xs.getD k d:=by rw[zA];rfl
 rw[e];have:=p.map λk=>xs.getD k d;rw[map_range]at this;exact this
theorem FG{α:Type}(d:α){xs:List α}{g:Nat->Nat}{r:α->α->Prop}(h:∀i j,i<j->j<xs.length->r (xs.getD (g i) d) (xs.getD (g j) d)):((List.range xs.length).map λk=>xs.getD (g k) d).Pairwise r:=by rw[List.pairwise_map,List.pairwise_iff_getElem];intro i j hi hj kM;rw[List.length_range]at hj;rw[List.getElem_range,List.getElem_range];exact h i j kM hj
noncomputable def r0:Row:=("",[])
theorem getD_map{rs:List Row}{j:Nat}(h:j<rs.length):(rs.map ak).getD j .ax=ak (rs.getD j r0):=by rw[zH,zH,zq,zg h];rfl
theorem getD_mem{rs:List Row}{j:Nat}(h:j<rs.length):rs.getD j r0∈rs:=by rw[zH,zg h];exact List.getElem_mem h
theorem mD{rs:List Row}{b:Bool}{f:D->D}{g:Nat->Nat}(h:Pf b (λj=>f<|(rs.map ak).getD j .ax) (rs.map ak).length g): ∃bN:List Row,(List.range (rs.map ak).length).map (λk=>(rs.map ak).getD (g k) .ax)=bN.map ak/\bN.Perm rs/\∀q r:Row->Row->Prop,rs.Pairwise q->(∀x y,x∈rs->y∈rs->(if b=true then Uh (f<|ak y) (f<|ak x) else Uh (f<|ak x) (f<|ak y))->r x y)->(∀x y,x∈rs->y∈rs->f (ak x)=f (ak y)->q x y->r x y)->bN.Pairwise r:=by have hn:(rs.map ak).length=rs.length:=zc _;rw[hn]at h⊢;refine{(List.range rs.length).map λk=>rs.getD (g k) r0,?_,FF r0 h.lt h.inj,λq r hq h1 h2=>FG r0 λi j kM hj=>?_};rw[zA];exact zW λk hk=>getD_map<|h.lt k<|zN.mp hk;have gi:=h.lt i<|Nat.lt_trans kM hj;have gj:=h.lt j hj;have o:=h.ord i j kM hj;rw[getD_map gi,getD_map gj]at o;rcases o with o|⟨o,l⟩;exact h1 _ _ (getD_mem gi) (getD_mem gj) o;refine h2 _ _ (getD_mem gi) (getD_mem gj) o ?_;have:=List.pairwise_iff_getElem.mp hq (g i) (g j) gi gj l;rw[zH,zH,zg gi,zg gj];exact this
section
variable{cs:List (Str×Str)}{wy:Str}
noncomputable def valued(cs:List<|Str×Str)(p:Part)(r:Row):Bool:=!ah (ao cs r.2 p.1)
theorem LL(h1:ah x=true)(h2:ah y=true):nW x y=true:=by rw[dN h1,dN h2];rfl
theorem wc(h:ah x≠ah y):nW x y=false:=by cases x<;>cases y<;>first|rfl|exact absurd rfl h
theorem FH{ps:List Part}{p:Part}{L V:List Row}(hL:L.Pairwise λa b=>cJ cs wy ps a b=true)(hV:V.Perm<|L.filter<|valued cs p)(Wf:V.Pairwise λa b=>cJ cs wy (p::ps) a b=true): (if p.2.2 ="first" then L.filter (λr=>!valued cs p r)++V else V++L.filter (λr=>!valued cs p r)).Perm L/\(if p.2.2 ="first" then L.filter (λr=>!valued cs p r)++V else V++L.filter (λr=>!valued cs p r)).Pairwise λa b=>cJ cs wy (p::ps) a b=true:=by
 have hN:(L.filter λr=>!valued cs p r).Pairwise λa b=>cJ cs wy (p::ps) a b=true:=by refine(hL.sublist List.filter_sublist).imp_of_mem λ{a b} ha hb h=>?_;have ha:=(yu.mp ha).2;have hb:=(yu.mp hb).2;unfold valued at ha hb;rw[Bool.not_not]at ha hb;show(if nW (ao cs a.2 p.1) (ao cs b.2 p.1)=true then cJ cs wy ps a b else _)=true;rw[if_pos<|LL ha hb];exact h
 have M7:∀a∈L.filter (λr=>!valued cs p r),∀b∈V,ah (ao cs a.2 p.1)=true/\ah (ao cs b.2 p.1)=false:=λa ha b hb=>by have ha:=(yu.mp ha).2;have hb:=(yu.mp<|hV.mem_iff.mp hb).2;unfold valued at ha hb;rw[Bool.not_not]at ha;exact{ha,by simpa using hb}
 have pm:(L.filter (λr=>!valued cs p r)++V).Perm L:=(List.Perm.append_left _ hV).trans<|List.perm_append_comm.trans<|List.filter_append_perm (valued cs p) L;by_cases e:p.2.2 ="first";rw[if_pos e];refine{pm,List.pairwise_append.mpr {hN,Wf,λa ha b hb=>?_}};obtain⟨na,nb⟩:=M7 a ha b hb;show(if nW (ao cs a.2 p.1) (ao cs b.2 p.1)=true then cJ cs wy ps a b else cM p (ao cs a.2 p.1) (ao cs b.2 p.1))=true;rw[wc<|by rw[na,nb];nofun,if_neg zd];unfold cM;rw[na,nb,if_pos<|by rfl,zr e];rfl;rw[if_neg e];refine{List.perm_append_comm.trans pm,List.pairwise_append.mpr {Wf,hN,λa ha b hb=>?_}};obtain⟨na,nb⟩:=M7 b hb a ha;show(if nW (ao cs a.2 p.1) (ao cs b.2 p.1)=true then cJ cs wy ps a b else cM p (ao cs a.2 p.1) (ao cs b.2 p.1))=true;rw[wc<|by rw[na,nb];nofun,if_neg zd];unfold cM;rw[na,nb,if_pos<|by rfl,zo e];rfl
end
noncomputable abbrev qK:Str:="sorted_by_keys.<locals>.<lambda>"
noncomputable abbrev qV:Str:="sorted_by_values.<locals>.<lambda>"
noncomputable def P5:D->D|.tup (x::_)=>x|_=>.ax
noncomputable def BX(cs:List<|Str×Str)(z:Str):D->D|.tup [_,.tup ws]=>ao cs ws z|_=>.ax
inductive IM (t:hW) (ds:List D) (S:av) (R:KD) (Z:KX):Prop where
 |mk (cs:List<|Str×Str) (l:Addr) (rs:List Row) (wy:Str) (h0:ds=[.ref l,.str wy]) (h1:j6 wy=true) (h2:S l=some (.lst<|rs.map ak)) (h3:rs.length<64) (h4:Rg cs rs) (h5:S t.aP=some (.tab qK)) (h6:∀(bN:List Row)(p:Addr),bN.Perm rs->(bN.Pairwise λa b=>cJ cs wy [] a b=true)->S p=none->R (.ref p) (S.set p<|.lst<|bN.map ak)):IM t ds S R Z
theorem gp{S S2:av}{p:Addr}{c:Ce}(h:Sub S S2):Sub (S.set p c) (S2.set p c):=λb e hb=>by by_cases q:b=p;subst q;rw[aa]at hb⊢;exact hb;rw[ag q]at hb⊢;exact h b e hb
theorem dO{S S2:av}{p:Addr}(h:Sub S S2)(e:S2 p=none):S p=none:=by cases q:S p with|none=>rfl|some c=>rw[h p c q]at e;cases e
theorem pW{z:Str}(h:j6 z=true):z ="up"\/z ="down":=by unfold j6 at h;simpa using h
theorem Rg.unlike(h:Rg cs rs):rs.Pairwise λa b=>a.1≠b.1:=List.pairwise_map.mp h.2
theorem mE(T:Txt w K mg t)(B:Bm mg base):Ok P w base T.fw 4 (IM t):=by
 refine T.fw.F.okC (k:=3) mj (by rintro ds S R Z ⟨_,_,_,_,e,_⟩;rw[e];rfl) ?_;rintro fU A outer s H E ds S R Z rZ hr ⟨cs,l,rs,wy,e,JG,hl,hn,pF,ht,q⟩;subst e;have Bl:xx ((rs.map ak).map P5):=.inl {rs.map Prod.fst,by rw[zA,zA];rfl};have un:rs.Pairwise λa b=>a.1≠b.1:=pF.unlike;have FV:(rs.map ak).length<64:=by rw[zc];exact hn
 refine{_,(sc (si (bh bj hr.u (dv 1) ds) (s1<|sr<|MU (N:=["row"]) (src:=[none]) (rZ.trans T.f_) ⟨T.dF,B⟩ hr (lF (ae gF) ["rows","way"] rfl rfl<|by trivial) (dv 0) (λ_ _ _ _=>(ix (hr.in1.in1.deeper _).units (dv 0) di)) T.gJ fc) s0)<|s1<|sr<|Uk (N:=["row"]) (src:=[none]) (rZ.trans T.f_) ⟨T.dF,B⟩ hr (lF (ae gF) ["rows","way"] rfl rfl<|by trivial) (dv 0) (λ_ _ _ _=>(ix (hr.in1.in1.deeper _).units (dv 0) di)) T.gJ fc),?_};rcases pW JG with rfl|rfl;refine{_,rfl,_,rfl,bI (by trivial) {_,rfl,l,rs.map ak,P5,rfl,hl,FV,ht,Bl,λx hx S' hs Qk hQ=>?_,λg S2 p hg hs hp=>?_}};obtain⟨r,hr,rfl⟩:=zh.mp hx;exact{_,rfl,_,rfl,hQ S'<|.refl _};obtain⟨bN,e,pm,h⟩:=mD hg;rw[e];refine{S.set p<|.lst<|bN.map ak,gp hs,q bN p pm (h _ _ un (λx y hx hy dW=>?_) λx y hx hy e ne=>absurd (D.str.inj e) ne)<|dO hs hp};show(tQ x.1 y.1==decide (("up": Str) ="up"))=true;have:tQ x.1 y.1=true:=zr dW;rw[this];rfl;refine{_,rfl,_,rfl,rH (by trivial) {_,rfl,l,rs.map ak,P5,rfl,hl,FV,ht,Bl,λx hx S' hs Qk hQ=>?_,λg S2 p hg hs hp=>?_}};obtain⟨r,hr,rfl⟩:=zh.mp hx;exact{_,rfl,_,rfl,hQ S'<|.refl _};obtain⟨bN,e,pm,h⟩:=mD hg;rw[e];refine{S.set p<|.lst<|bN.map ak,gp hs,q bN p pm (h _ _ un (λx y hx hy dW=>?_) λx y hx hy e ne=>absurd (D.str.inj e) ne)<|dO hs hp};show(tQ x.1 y.1==decide (("down": Str) ="up"))=true;have:tQ y.1 x.1=true:=zr dW;by_cases e:x.1=y.1;rw[e,DC]at this;cases this;rw[wa e]at this;have h2:tQ x.1 y.1=false:=by simpa using this
 rw[h2,zo<|by trivial];rfl
inductive IP (t:hW) (ds:List D) (S:av) (R:KD) (Z:KX):Prop where
 |mk (cs:List<|Str×Str) (ps:List Part) (p:Part) (wy:Str) (l:Addr) (rs:List Row) (h0:ds=[.tup<|cs.map aA,p3 p,.ref l]) (h1:Gd cs) (h2:Pin cs<|p::ps) (h3:j6 p.2.1=true) (h4:S l=some (.lst<|rs.map ak)) (h5:rs.length<64) (h6:Rg cs rs) (h7:(∀r∈rs,valued cs p r=true)) (h8:(rs.Pairwise λa b=>cJ cs wy ps a b=true)) (h9:S t.aK=some (.tab qV)) (h10:∀(bN:List Row)(a:Addr),bN.Perm rs->(bN.Pairwise λa b=>cJ cs wy (p::ps) a b=true)->S a=none->R (.ref a) (S.set a<|.lst<|bN.map ak)):IP t ds S R Z
theorem BY{α:Type}{f:α->D}{β:Type}{mk:β->D} : ∀{l:List α},(∀x∈l,∃b,f x=mk b)->∃bs:List β,l.map f=bs.map mk|[],_=>{[],rfl}|x::l,h=>by obtain⟨b,e⟩:=h x zp;obtain⟨bs,e2⟩:=BY λy hy=>h y<|zi _ hy;exact{b::bs,by rw[zE,e,e2];rfl}
theorem FI{cs:List<|Str×Str}{p:Part}{k:Str}{rs:List Row}(hk:∀r∈rs,Vg k<|ao cs r.2 p.1)(hv:∀r∈rs,valued cs p r=true):xx ((rs.map ak).map<|BX cs p.1):=by
 rw[zA];have nn:∀r∈rs,ao cs r.2 p.1≠.ax:=λr hr=>bt (by have:=hv r hr;unfold valued at this;simpa using this);by_cases e:k ="number";refine .inr<|BY λr hr=>?_;have h1:=hk r hr;have h2:=nn r hr;show ∃b,ao cs r.2 p.1=.int b;generalize ao cs r.2 p.1=v at h1 h2;cases v with|ax=>exact absurd rfl h2|int i=>exact⟨i,rfl⟩|str z=>(have h1:=h1.1;unfold jw at h1;simp only[ah,yM]at h1;rw[if_pos e]at h1;cases h1)|_=>cases h1.2
 refine .inl<|BY λr hr=>?_;have h1:=hk r hr;have h2:=nn r hr;show ∃b,ao cs r.2 p.1=.str b;generalize ao cs r.2 p.1=v at h1 h2;cases v with|ax=>exact absurd rfl h2|str i=>exact⟨i,rfl⟩|int z=>(have h1:=h1.1;unfold jw at h1;simp only[ah,yM]at h1;rw[if_neg e]at h1;cases h1)|_=>cases h1.2
theorem IQ{cs:List<|Str×Str}{wy:Str}{ps:List Part}{p:Part}{x y:Row}(nx:valued cs p x=true)(ny:valued cs p y=true)(ne:nW (ao cs x.2 p.1) (ao cs y.2 p.1)=false)(h:(s_ (ao cs x.2 p.1) (ao cs y.2 p.1)==decide (p.2.1 ="up"))=true):cJ cs wy (p::ps) x y=true:=by
 unfold valued at nx ny;have nx:ah (ao cs x.2 p.1)=false:=by simpa using nx
 have ny:ah (ao cs y.2 p.1)=false:=by simpa using ny
 show(if nW (ao cs x.2 p.1) (ao cs y.2 p.1)=true then cJ cs wy ps x y else cM p (ao cs x.2 p.1) (ao cs y.2 p.1))=true;rw[ne,if_neg zd];unfold cM;rw[nx,ny,if_neg<|by simp];exact h
theorem IS{x y:D}(h:s_ x y=true):nW x y=false:=by cases x with|int i=>(cases y with|int j=>(exact zo λe=>by rw[e,DD]at h;cases h)|_=>cases h)|str i=>(cases y with|str j=>(exact zo λe=>by rw[e,DD]at h;cases h)|_=>cases h)|_=>cases h
theorem IT(x y:D):nW x y=nW y x:=by cases x<;>cases y<;>first|rfl|exact yG.mpr ⟨Eq.symm,Eq.symm⟩
theorem j7(T:Txt w K mg t)(B:Bm mg base):Ok P w base T.dZ 6 (IP t):=by
 refine T.dZ.F.okC (k:=5) j0 (by rintro ds S R Z ⟨_,_,_,_,_,_,e,_⟩;rw[e];rfl) ?_;rintro fU A outer s H E ds S R Z rZ hr ⟨cs,ps,p,wy,l,rs,e,hg,IU,JG,hl,hn,pF,hv,US,ht,q⟩;subst e;obtain⟨c,hc,ec⟩:=IU p zp;obtain⟨k,hk⟩:=wb hg IU;have Bl:xx ((rs.map ak).map<|BX cs p.1):=FI (λr hr=>hk _<|pF.1 r hr) hv;have FV:(rs.map ak).length<64:=by rw[zc];exact hn
 have same:∀x y:Row,x∈rs->y∈rs->BX cs p.1 (ak x)=BX cs p.1 (ak y)->cJ cs wy ps x y=true->cJ cs wy (p::ps) x y=true:=λx y hx hy e h=>by show(if nW (ao cs x.2 p.1) (ao cs y.2 p.1)=true then cJ cs wy ps x y else _)=true;rw[if_pos<|(cw (hk _<|pF.1 x hx).2 (hk _<|pF.1 y hy).2).mpr e];exact h
 have step:∀x,x∈rs.map ak->∀Qk:KD,∀S':av,Qk (BX cs p.1 x) S'->∀Zq,lg [D.tup<|cs.map aA,x,.str p.1] S' Qk Zq:=λx hx Qk S' hQ _=>by obtain⟨r,hr,rfl⟩:=zh.mp hx;exact{cs,r,c,by rw[ec],hg,pF.1 r hr,hc,by rw[ec];exact hQ}
 refine{_,(sc (si (bh bj hr.u (ix hr.u (dv 1) di) ds) (s1<|sr<|MU (N:=["row","columns","part"]) (src:=[none,some 0,some 1]) (rZ.trans T.eU) ⟨T.cP,B⟩ hr (lF (ae ft) ["columns","part","rows"] rfl rfl<|by trivial) (dv 2) (λ_ _ _ _=>(cf ((dm T).mono<|by decide) (hr.in1.in1.deeper _) T.ck.m T.ck.k T.ck.b d0<|ac (dv 1)<|ac (dv 0)<|ac (ix (hr.in1.in1.deeper _).units (dv 2) di) an)) T.gJ fc) s0)<|s1<|sr<|Uk (N:=["row","columns","part"]) (src:=[none,some 0,some 1]) (rZ.trans T.eU) ⟨T.cP,B⟩ hr (lF (ae ft) ["columns","part","rows"] rfl rfl<|by trivial) (dv 2) (λ_ _ _ _=>(cf ((dm T).mono<|by decide) (hr.in1.in1.deeper _) T.ck.m T.ck.k T.ck.b d0<|ac (dv 1)<|ac (dv 0)<|ac (ix (hr.in1.in1.deeper _).units (dv 2) di) an)) T.gJ fc),?_};rcases pW JG with e1|e1;refine{_,rfl,_,rfl,_,rfl,bI (by rw[e1];decide +kernel) {_,rfl,l,rs.map ak,BX cs p.1,rfl,hl,FV,ht,Bl,λx hx S' hs Qk hQ=>{_,rfl,_,rfl,_,rfl,_,rfl,step x hx _ S' (hQ S'<|.refl _) _},λg S2 a hg hs ha=>?_}};obtain⟨bN,e,pm,h⟩:=mD hg;rw[e];refine{S.set a<|.lst<|bN.map ak,gp hs,q bN a pm (h _ _ US (λx y hx hy dW=>?_) same)<|dO hs ha};have dW:=IL (a:=ao cs x.2 p.1) (b:=ao cs y.2 p.1) dW;exact IQ (hv x hx) (hv y hy) (IS dW) (by rw[dW,zr e1];rfl);refine{_,rfl,_,rfl,_,rfl,rH (by rw[e1];decide +kernel) {_,rfl,l,rs.map ak,BX cs p.1,rfl,hl,FV,ht,Bl,λx hx S' hs Qk hQ=>{_,rfl,_,rfl,_,rfl,_,rfl,step x hx _ S' (hQ S'<|.refl _) _},λg S2 a O6 hs ha=>?_}};obtain⟨bN,e,pm,h⟩:=mD O6;rw[e];refine{S.set a<|.lst<|bN.map ak,gp hs,q bN a pm (h _ _ US (λx y hx hy dW=>?_) same)<|dO hs ha};have dW:=IL (a:=ao cs y.2 p.1) (b:=ao cs x.2 p.1) dW;have ne:=IS dW;refine IQ (hv x hx) (hv y hy) (by rw[IT];exact ne) ?_;have nn:∀r∈rs,ao cs r.2 p.1≠.ax:=λr hr=>bt (by have:=hv r hr;unfold valued at this;simpa using this);have wK:ao cs x.2 p.1≠ao cs y.2 p.1:=λe=>by have:=(cw (hk _<|pF.1 y hy).2 (hk _<|pF.1 x hx).2).mpr e.symm;rw[ne]at this;cases this
 have:=mC (hk _<|pF.1 x hx) (hk _<|pF.1 y hy) (nn x hx) (nn y hy) wK;rw[dW]at this;have h2:s_ (ao cs x.2 p.1) (ao cs y.2 p.1)=false:=by simpa using this
 rw[h2,e1,zo<|by trivial];rfl
def Tb(t:hW)(S:av):Prop:=S t.aP=some (.tab qK)/\S t.aK=some (.tab qV)
theorem Tb.sub{t:hW}{S S':av}(h:Tb t S)(s:Sub S S'):Tb t S':={s _ _ h.1,s _ _ h.2}
noncomputable def DF(b:Bool)(cs:List<|Str×Str)(p:Part):D->Bool|.tup [_,.tup ws]=>ah (ao cs ws p.1)==b|_=>false
theorem nY{rs:List Row}{f:D->Bool}{g:Row->Bool}(h:∀r,f (ak r)=g r):((rs.map ak).filter f).map id=(rs.filter g).map ak:=by rw[List.map_id,List.filter_map];exact congrArg (List.map ak)<|List.filter_congr λr _=>h r
inductive IV (t:hW) (ds:List D) (S:av) (R:KD) (Z:KX):Prop where
 |mk (cs:List<|Str×Str) (ps:List Part) (p:Part) (wy:Str) (l:Addr) (rs:List Row) (h0:ds=[.tup<|cs.map aA,p3 p,.ref l]) (h1:Gd cs) (h2:Pin cs<|p::ps) (h3:j6 p.2.1=true) (h4:S l=some (.lst<|rs.map ak)) (h5:rs.length<64) (h6:Rg cs rs) (h7:(rs.Pairwise λa b=>cJ cs wy ps a b=true)) (h8:Tb t S) (h9:∀(bN:List Row)(a:Addr),bN.Perm rs->(bN.Pairwise λa b=>cJ cs wy (p::ps) a b=true)->S a=none->R (.ref a) (S.set a<|.lst<|bN.map ak)):IV t ds S R Z
theorem mF(T:Txt w K mg t)(B:Bm mg base):Ok P w base T.fz 7 (IV t):=by
 refine T.fz.F.bX cq ?_;rintro _ _ _ _ _ _ _ S R Z hr ⟨cs,ps,p,wy,l,rs,e,hg,IU,JG,hl,hn,pF,US,ht,q⟩;subst e;obtain⟨c,hc,ec⟩:=IU p zp;have hz:(rs.map ak).length<=1000:=by rw[zc];lia
 refine{_,(sc (QT (i:=3) (N:=["row","columns","part"]) (src:=[none,some 0,some 1]) cq.nd (lF (ae gG) ["columns","part","rows","without","valued"] rfl rfl<|by trivial) (il<|dv 2) (r_<|show(["row","columns","part"]:List Str).Nodup by trivial) (aZ rfl) a_ (λ_ _ _ _ _=>(if1<|bh iO hr.u (aG T.ck (dm T) hr<|ac (dv 1)<|ac (dv 0)<|ac (ix hr.u (dv 2) di) an) dn)) λ_ _ _ _ _=>(dv 0))<|sc (QT (i:=4) (N:=["row","columns","part"]) (src:=[none,some 0,some 1]) cq.nd (lF (ae gG) ["columns","part","rows","without","valued"] rfl rfl<|by trivial) (il<|dv 2) (r_<|show(["row","columns","part"]:List Str).Nodup by trivial) (aZ rfl) a_ (λ_ _ _ _ _=>(if1<|bh mZ hr.u (aG T.ck (dm T) hr<|ac (dv 1)<|ac (dv 0)<|ac (ix hr.u (dv 2) di) an) dn)) λ_ _ _ _ _=>(dv 0))<|sc (cF (i:=4) cq.nd<|aG T.dZ (j7 T B) hr<|ac (dv 0)<|ac (dv 1)<|ac (dv 4) an)<|s1<|sr<|ME (bh bj hr.u (ix hr.u (dv 1) di) ds) (bo bu hr.u (dv 3)<|dv 4)<|bo bu hr.u (dv 4)<|dv 3),?_};refine{_,rfl,_,hl,?_};refine gT (DF true cs p) id hl hz (λd hd Q Q' hQ Lv=>?_) λp1 sZ=>?_;obtain⟨r,hr,rfl⟩:=zh.mp hd;refine{_,rfl,_,rfl,_,rfl,_,rfl,cs,r,c,(show[D.tup<|cs.map aA,ak r,D.str p.1]=[_,_,D.str c.1] by rw[ec]),hg,pF.1 r hr,hc,?_};rw[ec];refine{_,rfl,bD (λh=>{_,rfl,hQ ?_}) λh=>Lv ?_};show(ah (ao cs r.2 p.1)==true)=true;rw[show ah (ao cs r.2 p.1)=true from h];rfl;show(ah (ao cs r.2 p.1)==true)=false;rw[show ah (ao cs r.2 p.1)=false from h];rfl;have e1:((rs.map ak).filter<|DF true cs p).map id=(rs.filter λr=>!valued cs p r).map ak:=nY λr=>by show(ah (ao cs r.2 p.1)==true)=!valued cs p r;unfold valued;cases ah (ao cs r.2 p.1)<;>rfl
 rw[show({rs.map ak,λS=>wG S (.ref l)<|rs.map ak}:Hw).xs=rs.map ak from rfl,e1];have DH:Sub S (S.set p1<|.lst<|(rs.filter λr=>!valued cs p r).map ak):=.new sZ;have h1:(S.set p1<|.lst<|(rs.filter λr=>!valued cs p r).map ak) p1=some (.lst<|(rs.filter λr=>!valued cs p r).map ak):=aa;generalize S.set p1 (.lst<|(rs.filter λr=>!valued cs p r).map ak)=S1 at DH h1⊢;have Lz:=DH _ _ hl;refine{_,rfl,_,Lz,?_};refine gT (DF false cs p) id Lz hz (λd hd Q Q' hQ Lv=>?_) λp2 fV=>?_;obtain⟨r,hr,rfl⟩:=zh.mp hd;refine{_,rfl,_,rfl,_,rfl,_,rfl,cs,r,c,(show[D.tup<|cs.map aA,ak r,D.str p.1]=[_,_,D.str c.1] by rw[ec]),hg,pF.1 r hr,hc,?_};rw[ec];refine{_,rfl,bD (λh=>{_,rfl,hQ ?_}) λh=>Lv ?_};show(ah (ao cs r.2 p.1)==false)=true;rw[show ah (ao cs r.2 p.1)=false from nt h];rfl;show(ah (ao cs r.2 p.1)==false)=false;rw[show ah (ao cs r.2 p.1)=true from nf h];rfl;have e2:((rs.map ak).filter<|DF false cs p).map id=(rs.filter<|valued cs p).map ak:=nY λr=>by show(ah (ao cs r.2 p.1)==false)=valued cs p r;unfold valued;cases ah (ao cs r.2 p.1)<;>rfl
 rw[show({rs.map ak,λS=>wG S (.ref l)<|rs.map ak}:Hw).xs=rs.map ak from rfl,e2];have AO:Sub S (S1.set p2<|.lst<|(rs.filter<|valued cs p).map ak):=DH.trans<|.new fV;have IB:(S1.set p2<|.lst<|(rs.filter<|valued cs p).map ak) p1=_:=(ag<|g6 h1 fV).trans h1;have h22:(S1.set p2<|.lst<|(rs.filter<|valued cs p).map ak) p2=_:=aa;generalize S1.set p2 (.lst<|(rs.filter<|valued cs p).map ak)=S2 at AO IB h22⊢;have fl:(rs.filter<|valued cs p).length<=rs.length:=List.length_filter_le _ _;have fl2:(rs.filter λr=>!valued cs p r).length<=rs.length:=List.length_filter_le _ _;refine{_,rfl,_,rfl,_,rfl,cs,ps,p,wy,p2,rs.filter<|valued cs p,rfl,hg,IU,JG,h22,by lia,pF.sub List.filter_sublist,λr hr=>(yu.mp hr).2,US.sublist List.filter_sublist,(ht.sub AO).2,λV p3 hV Wf Dx=>?_};obtain⟨pm,pw⟩:=FH US hV Wf;have Wh:(S2.set p3<|.lst<|V.map ak) p1=_:=(ag<|g6 IB Dx).trans IB;have Zt:(S2.set p3<|.lst<|V.map ak) p3=some (.lst<|V.map ak):=aa;have LM:Sub S (S2.set p3<|.lst<|V.map ak):=AO.trans<|.new Dx;generalize S2.set p3 (.lst<|V.map ak)=S3 at Wh Zt LM⊢;have hVl:=hV.length_eq;refine{_,rfl,_,rfl,_,rfl,bD (λh=>?_) λh=>?_};rw[if_pos<|zC h]at pm pw;refine{_,rfl,_,rfl,_,_,Wh,Zt,sm<|by rw[zc,zc];lia,λp4 Zu=>?_};rw[<-zI];exact{_,gp LM,q _ p4 pm pw<|dO LM Zu};rw[if_neg<|zM h]at pm pw;refine{_,rfl,_,rfl,_,_,Zt,Wh,sm<|by rw[zc,zc];lia,λp4 Zu=>?_};rw[<-zI];exact{_,gp LM,q _ p4 pm pw<|dO LM Zu}
structure Og(cs:List (Str×Str))(ps:List Part)(wy:Str):Prop where
 pin:Pin cs ps
 Zv:∀p∈ps,j6 p.2.1=true
 way:j6 wy=true
 ok:yP cs ps wy=true
 tx:∀p∈ps,Zo p
noncomputable def dP(ps:List Part)(wy:Str):D:=.tup [.tup<|ps.map p3,.str wy]
inductive M8 (t:hW) (ds:List D) (S:av) (R:KD) (Z:KX):Prop where
 |mk (cs:List<|Str×Str) (ps:List Part) (wy:Str) (l:Addr) (rs:List Row) (h0:ds=[.tup<|cs.map aA,dP ps wy,.ref l]) (h1:Gd cs) (h2:Og cs ps wy) (h3:S l=some (.lst<|rs.map ak)) (h4:rs.length<64) (h5:Rg cs rs) (h6:Tb t S) (h7:∀(bN:List Row)(a:Addr),bN.Perm rs->(bN.Pairwise λa b=>cJ cs wy ps a b=true)->S a=none->R (.ref a) (S.set a<|.lst<|bN.map ak)):M8 t ds S R Z
structure Vw(C:Addr)(S:av)(a:Addr)(cs:List (Str×Str))(m:D)(no:Bool)(rows:List Row):Prop where
 sh:∃F dl rs,cn C S a F cs dl rs/\rs.length<64/\(pE dl.length m=none->no=true)/\(no=true->pE dl.length m=none)/\∀i ss,pE dl.length m=some i->ss.Perm (rs.map (·.1))->PyProof.Rows.sortedS ss=true->k_ rs i ss=rows.map ak
 mo:Gt S m
 len:rows.length<64
 rg:Rg cs rows
theorem cn.sub(b:Sub S S')(h:cn C S a F cs dl rs):cn C S' a F cs dl rs:=by obtain⟨ld,lr,ra,h,e⟩:=h;exact{ld,lr,ra,{b _ _ h.ins,b _ _ h.wI,b _ _ h.run,λr hr=>b _ _<|h.cell r hr,h.kn,h.an,h.sz},e}
theorem yV(T:Txt w K mg t)(B:Bm mg base):Ok P w base T.qY 8 (M8 t):=by
 refine T.qY.F.bX gf ?_;rintro _ _ _ _ _ _ _ S R Z hr ⟨cs,ps,wy,l,rs,e,hg,ho,hl,hn,pF,ht,q⟩;subst e;refine{_,(sc (cF (i:=3) gf.nd<|aG T.fw (mE T B) hr<|ac (dv 2)<|ac (ix hr.u (dv 1) di) an)<|sc (xq<|Hy (irt T.qU<|ac (ix hr.u (dv 1) di) an) (gn (i:=4) gf.nd)<|s1<|cF (i:=3) gf.nd<|aG T.fz (mF T B) hr<|ac (dv 0)<|ac (dv 4)<|ac (dv 3) an)<|s1<|sr<|dv 3),?_};refine{_,rfl,_,rfl,_,rfl,cs,l,rs,wy,rfl,ho.way,hl,hn,pF,ht.1,λrs1 p1 pm1 pw1 sZ=>?_};have hrl:ps.reverse.length=ps.length:=yg;refine{λaC S'=>∃(o:Option D)(p:Addr)(bN:List Row),aC=[some<|.tup<|cs.map aA,some<|dP ps wy,some<|.ref l,some<|.ref p,o]/\S p=none/\S' p=some (.lst<|bN.map ak)/\Sub S S'/\bN.Perm rs/\bN.Pairwise λa b=>cJ cs wy ps a b=true,?_,?_};refine{_,rfl,_,rfl,_,rfl,?_};refine{λi aC S'=>∃(o:Option D)(p:Addr)(bN:List Row),aC=[some<|.tup<|cs.map aA,some<|dP ps wy,some<|.ref l,some<|.ref p,o]/\S p=none/\S' p=some (.lst<|bN.map ak)/\Sub S S'/\bN.Perm rs/\bN.Pairwise λa b=>cJ cs wy (ps.reverse.take i).reverse a b=true,{none,p1,rs1,rfl,sZ,aa,.new sZ,pm1,pw1},λ_ _ _ _=>trivial,?_,?_};rintro i d aC S' hd ⟨o,p,bN,rfl,hp,du,sb,pm,pw⟩;have hd:(ps.map p3).reverse[i]?=some d:=hd;rw[<-List.map_reverse,zq]at hd;cases e5:ps.reverse[i]? with|none=>(rw[e5]at hd;cases hd)|some pt=>rw[e5]at hd;cases hd;have OL:pt∈ps:=List.mem_reverse.mp<|zx e5;have et:(ps.reverse.take<|i+1).reverse=pt::(ps.reverse.take i).reverse:=(by rw[List.take_add_one,e5,List.reverse_append];rfl);have Mw:Pin cs (pt::(ps.reverse.take i).reverse):=λx hx=>(by rcases zf.mp hx with rfl|hx;exact ho.pin _ OL;exact ho.pin _<|List.mem_reverse.mp<|List.mem_of_mem_take<|List.mem_reverse.mp hx);refine{_,rfl,_,rfl,_,rfl,cs,(ps.reverse.take i).reverse,pt,wy,p,bN,rfl,hg,Mw,ho.Zv pt OL,du,by rw[pm.length_eq];exact hn,pF.perm pm,pw,ht.sub sb,λUj p2 pm2 Wi fV=>?_};rw[<-et]at Wi;exact{_,p2,Uj,rfl,dO sb fV,aa,sb.trans<|.new fV,pm2.trans pm,Wi}
 rintro aC S' ⟨o,p,bN,rfl,hp,du,sb,pm,pw⟩;have pw:bN.Pairwise λa b=>cJ cs wy (ps.reverse.take (ps.map p3).reverse.length).reverse a b=true:=pw;rw[yg,zc,List.take_of_length_le<|Nat.le_of_eq hrl,List.reverse_reverse]at pw;exact fo ⟨o,p,bN,rfl,hp,du,sb,pm,pw⟩;rintro aC S' ⟨o,p,bN,rfl,hp,du,sb,pm,pw⟩;refine{_,rfl,S.set p<|.lst<|bN.map ak,λb c hb=>?_,q bN p pm pw hp};by_cases e:b=p;subst e;rw[aa]at hb;cases hb;exact du;rw[ag e]at hb;exact sb b c hb
noncomputable def M9(cs:List<|Str×Str)(d:D):D->Bool|.tup [.str k,.tup ws]=>bK cs (k,ws) 4 d|_=>false
inductive IW (t:hW) (ds:List D) (S:av) (R:KD) (Z:KX):Prop where
 |mk (a:_) (cs:_) (d:_) (m:_) (no:_) (rows:_) (h0:ds=[.ref a,d,m]) (h1:Gd cs) (h2:Sg cs 4 d) (h3:Vw t.aj S a cs m no rows) (h4:(no=true->Z t.aR S)) (h5:(no=false->∀p,S p=none->R (.ref p) (S.set p<|.lst<|(rows.filter λr=>bK cs r 4 d).map ak))):IW t ds S R Z
theorem iH(T:Txt w K mg t):Ok P w base T.eX 8 (IW t):=by
 refine T.eX.F.bX iB ?_;rintro _ _ _ _ _ _ _ S R Z hr ⟨a,cs,d,m,no,rows,e,hg,hd,hv,z,q⟩;subst e;obtain⟨F,dl,rs,hS,hn,P6,BZ,P7⟩:=hv.sh;obtain⟨ld,lr,ra,h,_⟩:=id hS;refine{_,(sc (cF (i:=3) iB.nd<|iQ (dv 0) T.ai T.aB (aM T) hr)<|s1<|sr<|tZ (N:=["row","columns","sieve"]) (src:=[none,some 3,some 1]) (lF (ae qL) ["shelf","sieve","moment","columns"] rfl rfl<|by trivial) (il<|wH (dv 0) T.ai T.eW (uo T) hr<|ac (dv 2) an) (r_<|show(["row","columns","sieve"]:List Str).Nodup by trivial) (aZ rfl) a_ (λ_ _ _ _ _=>(if1<|tv<|aG T.passes (jQ T 4) hr<|ac (dv 1)<|ac (dv 2)<|ac (dv 0) an)) λ_ _ _ _ _=>(dv 0)),?_};refine{_,rfl,a,_,rfl,h.ins,rfl,a,F,cs,dl,rs,rfl,hS,?_};refine{_,rfl,a,_,rfl,h.ins,rfl,_,rfl,a,F,cs,dl,rs,m,rfl,hS,hn,hv.mo,λi ss hi hp hs p nR=>?_,λh=>fo<|z<|P6 h};have A3:no=false:=by cases no with|false=>rfl|true=>rw[BZ rfl]at hi;cases hi
 rw[P7 i ss hi hp hs];refine{_,aa,?_};refine gT (M9 cs d) id aa (by show(rows.map ak).length<=1000;rw[zc];have:=hv.len;lia) (λx hx Q Q' hQ Lv=>?_) λp2 fV=>?_;obtain⟨r,hr,rfl⟩:=zh.mp hx;refine{_,rfl,_,rfl,_,rfl,cs,d,r,rfl,hg,hd,hv.rg.1 r hr,_,rfl,bD (λh=>{_,rfl,hQ h}) λh=>Lv h};have e1:((rows.map ak).filter<|M9 cs d).map id=(rows.filter λr=>bK cs r 4 d).map ak:=nY λr=>rfl;rw[show({rows.map ak,λS=>wG S (.ref p)<|rows.map ak}:Hw).xs=rows.map ak from rfl,e1];exact{_,gp<|.new nR,q A3 p2<|dO (.new nR) fV}
inductive UT (t:hW) (ds:List D) (S:av) (R:KD) (Z:KX):Prop where
 |mk (a:_) (cs:_) (ps:_) (wy:_) (d:_) (m:_) (no:_) (rows:_) (h0:ds=[.ref a,dP ps wy,d,m]) (h1:Gd cs) (h2:Og cs ps wy) (h3:Sg cs 4 d) (h4:Vw t.aj S a cs m no rows) (h5:Tb t S) (h6:(no=true->Z t.aR S)) (h7:(no=false ->
 ∀(bN:List Row)(p:Addr),bN.Perm (rows.filter λr=>bK cs r 4 d)->(bN.Pairwise λa b=>cJ cs wy ps a b=true)->S p=none->R (.ref p) (S.set p<|.lst<|bN.map ak))):UT t ds S R Z
theorem cy(T:Txt w K mg t)(B:Bm mg base):Ok P w base T.bS 9 (UT t):=by refine T.bS.F.bX mi ?_;rintro _ _ _ _ _ _ _ S R Z hr ⟨a,cs,ps,wy,d,m,no,rows,e,hg,ho,hd,hv,ht,z,q⟩;subst e;obtain⟨F,dl,rs,hS,hn,P6,BZ,P7⟩:=hv.sh;obtain⟨ld,lr,ra,h,_⟩:=id hS;refine{_,(s1<|sr<|aG T.qY (yV T B) hr<|ac (iQ (dv 0) T.ai T.aB (aM T) hr)<|ac (dv 1)<|ac (aG T.eX (iH T) hr<|ac (dv 0)<|ac (dv 2)<|ac (dv 3) an) an),?_};refine{_,rfl,a,_,rfl,h.ins,rfl,a,F,cs,dl,rs,rfl,hS,?_};refine{_,rfl,_,rfl,_,rfl,_,rfl,a,cs,d,m,no,rows,rfl,hg,hd,hv,λh=>fo<|z h,λA3 p hp=>?_};have fl:(rows.filter λr=>bK cs r 4 d).length<=rows.length:=List.length_filter_le _ _;have:=hv.len;refine{cs,ps,wy,p,rows.filter λr=>bK cs r 4 d,rfl,hg,ho,aa,Nat.lt_of_le_of_lt fl this,hv.rg.sub List.filter_sublist,ht.sub<|.new hp,λbN p2 pm pw fV=>?_};exact{_,gp<|.new hp,q A3 bN p2 pm pw<|dO (.new hp) fV}
inductive DJ (t:hW) (ds:List D) (S:av) (R:KD) (Z:KX):Prop where
 |mk (a:_) (cs:_) (ps:_) (wy:_) (d:_) (m:_) (rows:_) (h0:ds=[.ref a,dP ps wy,d,m]) (h1:Gd cs) (h2:Og cs ps wy) (h3:Sg cs 4 d) (h4:Vw t.aj S a cs m false rows) (h5:Tb t S) (h6:∀(bN:List Row)(p:Addr),bN.Perm (rows.filter λr=>bK cs r 4 d)->(bN.Pairwise λa b=>cJ cs wy ps a b=true)->S p=none->R (.ref p) (S.set p<|.lst<|bN.map ak)):DJ t ds S R Z
theorem IX(T:Txt w K mg t)(B:Bm mg base):Ok P w base T.plain 10 (DJ t):=by refine T.plain.F.bX Ij ?_;rintro _ _ _ _ _ _ _ S R Z hr ⟨a,cs,ps,wy,d,m,rows,e,hg,ho,hd,hv,ht,q⟩;subst e;obtain⟨F,dl,rs,hS,hn,P6,BZ,P7⟩:=hv.sh;obtain⟨ld,lr,ra,h,_⟩:=id hS;refine{_,(sc (se<|aG T.eJ (fK T) hr<|ac (iQ (dv 0) T.ai T.aB (aM T) hr)<|ac (dv 1) an)<|sc (se<|aG T.dh (dM T) hr<|ac (iQ (dv 0) T.ai T.aB (aM T) hr)<|ac (dv 2) an)<|s1<|sr<|aG T.bS (cy T B) hr<|ac (dv 0)<|ac (dv 1)<|ac (dv 2)<|ac (dv 3) an),?_};refine{_,rfl,a,_,rfl,h.ins,rfl,a,F,cs,dl,rs,rfl,hS,_,rfl,cs,ps,wy,rfl,hg,ho.tx,λ_=>?_,λz=>by rw[ho.ok]at z;cases z};refine{_,rfl,a,_,rfl,h.ins,rfl,a,F,cs,dl,rs,rfl,hS,_,rfl,cs,d,rfl,hg,hd,?_};exact{_,rfl,_,rfl,_,rfl,_,rfl,a,cs,ps,wy,d,m,false,rows,rfl,hg,ho,hd,hv,ht,nofun,λ_ bN p pm pw hp=>fo<|q bN p pm pw hp}
inductive rM (t:hW) (ds:List D) (S:av) (R:KD) (Z:KX):Prop where
 |mk (a:_) (cs:_) (d:_) (m:_) (rows:_) (h0:ds=[.ref a,d,m]) (h1:Gd cs) (h2:Sg cs 4 d) (h3:Vw t.aj S a cs m false rows) (h4:R (.int ((rows.filter λr=>bK cs r 4 d).length:Nat)) S):rM t ds S R Z
theorem yW(T:Txt w K mg t):Ok P w base T.qS 9 (rM t):=by refine T.qS.F.bX xV ?_;rintro _ _ _ _ _ _ _ S R Z hr ⟨a,cs,d,m,rows,e,hg,hd,hv,q⟩;subst e;obtain⟨F,dl,rs,hS,hn,P6,BZ,P7⟩:=hv.sh;obtain⟨ld,lr,ra,h,_⟩:=id hS;refine{_,(sc (se<|aG T.dh (dM T) hr<|ac (iQ (dv 0) T.ai T.aB (aM T) hr)<|ac (dv 1) an)<|s1<|sr<|cb aY T.aV aJ<|ac (aG T.eX (iH T) hr<|ac (dv 0)<|ac (dv 1)<|ac (dv 2) an) an),?_};refine{_,rfl,a,_,rfl,h.ins,rfl,a,F,cs,dl,rs,rfl,hS,_,rfl,cs,d,rfl,hg,hd,?_};refine{_,rfl,_,rfl,_,rfl,a,cs,d,m,false,rows,rfl,hg,hd,hv,nofun,λ_ p hp=>{_,rfl,.inl {_,aa,S,.new hp,?_}}};rw[zc];exact q
noncomputable def DK(z:Str):D->Bool|.tup [.tup (.str n::_),_]=>decide (n=z)|_=>false
noncomputable def UU:D->D|.tup [_,v]=>v|_=>.ax
theorem yX:∀{cs:List (Str×Str)}{ws:List D},z∈cs.map Prod.fst->ws.length=cs.length->(((br (cs.map aA) ws).filter<|DK z).map UU)[0]?=some (ao cs ws z)
 |[],_,h,_=>by cases h
 |c::cs,[],_,h=>by cases h
 |c::cs,v::ws,h,hl=>by
  have e0:br ((c::cs).map aA) (v::ws)=.tup [aA c,v]::br (cs.map aA) ws:=rfl;rw[e0];unfold ao LH;by_cases e:c.1=z;rw[yz,if_pos<|show DK z (.tup [aA c,v])=true from zr e,zE,zE,e,List.idxOf_cons_self];rfl;have hz:z∈cs.map Prod.fst:=by rw[zE]at h;rcases zf.mp h with h|h;exact absurd h.symm e;exact h
  have ih:=yX (ws:=ws) hz (by simpa using hl);unfold ao LH at ih;rw[yz,if_neg<|by rw[show DK z (.tup [aA c,v])=false from zo e];exact zd,ih,zE,List.idxOf_cons,show(c.1==z)=false by simpa using e];rfl
theorem DL(q:R (.bl<|if neg then !(x==y) else (x==y)) S):JD neg (.bl x) (.bl y) S R:=⟨.bool x,.bool y,by simp only[Dl,Dp],by simp only[Dl,Dp],by simp only[PyData.canLay0],by simp only[PyData.canLay0],.inl<|by simp only[PyData.depth];lia,by
 have e:PyData.eqv (.bool x) (.bool y)=(x==y):=by cases x<;>cases y<;>rfl
 rw[e];exact q⟩
inductive IY (ds:List D) (S:av) (R:KD) (Z:KX):Prop where
 |mk (cs r c) (h0:ds=[.tup<|cs.map aA,ak r,.str c.1]) (h1:Gd cs) (h2:Wg cs r.2) (h3:c∈cs) (h4:R (ao cs r.2 c.1) S):IY ds S R Z
theorem UW(T:Txt w K mg t):Ok P w base T.PC 1 IY:=by
 refine T.PC.F.bX Ln ?_;rintro _ _ _ _ _ _ _ S R Z hr ⟨cs,r,c,e,hg,hw,hc,q⟩;subst e;have hlen:r.2.length=cs.length:=(yD hw).symm;have du:(br (cs.map aA) r.2).length<=1000:=by unfold br;rw[List.length_zipWith,zc];have:=hg.1;lia
 refine{_,(s1<|sr<|ix hr.u (tZ (N:=["_law_column","_law_value_here","_law_name"]) (src:=[none,none,some 2]) (lF (ae Px) ["_law_columns_here","_law_row","_law_name"] rfl rfl<|by trivial) (YU T.Dj<|ac (dv 0)<|ac (ix hr.u (dv 1) di) an) (VV<|show(["_law_column","_law_value_here","_law_name"]:List Str).Nodup by trivial) (pO rfl rfl) pQ (λ_ _ _ _ _=>(if1<|bh bj hr.u (ix hr.u (dv 0) di)<|dv 2)) λ_ _ _ _ _=>(dv 1)) di),?_};refine{_,rfl,_,rfl,_,rfl,cs.map aA,r.2,rfl,by rw[zc];exact hlen.symm,?_};refine gT (DK c.1) UU trivial du (λd hd Q Q' hQ Lv=>?_) λp hp=>?_;have hd:d∈br (cs.map aA) r.2:=hd;unfold br at hd;obtain⟨i,ei⟩:=List.getElem?_of_mem hd;obtain⟨x,y,e2,e3,e4⟩:=List.getElem?_zipWith_eq_some.mp ei;subst e4;rw[zq]at e2;cases e5:cs[i]? with|none=>(rw[e5]at e2;cases e2)|some c'=>rw[e5]at e2;cases e2;exact{_,rfl,rfl,_,_,rfl,_,_,rfl,rfl,_,rfl,_,rfl,_,rfl,_,rfl,bD (λh=>{_,rfl,hQ h}) λh=>Lv h}
 exact{_,_,aa,dw<|yX (zh.mpr ⟨c,hc,rfl⟩) hlen,S,.new hp,q}
theorem kd_sub(h:Sub S S')(hk:OS S d k):OS S' d k:=by cases d with|ref a=>(rcases hk with⟨e,ds,q⟩|⟨e,ds,q⟩;exact .inl {e,ds,h _ _ q};exact .inr {e,ds,h _ _ q})|_=>exact hk
theorem Gt.sub(h:Sub S S')(g:Gt S d):Gt S' d:={by obtain⟨k,hk⟩:=g.1;exact{k,kd_sub h hk},g.2}
theorem P8:Gt S (.tup ws):={{.tup,rfl},λ_=>nofun}
theorem LN(h:ws.length<=1000)(g:∀v∈ws,Gt S v):Q5 S (.tup ws):={P8,λQ8 e=>by cases e;exact⟨h,g⟩}
theorem gt_int:Gt S (.int i):={{.int,rfl},λ_=>nofun}
theorem DM(h:z.cps.size<=1000):Gt S (.str z):={{.str,rfl},λz' e=>by cases e;exact h}
theorem IZ(h:cQ d=true):Gt S d:=by cases d with|ax=>exact rC|int i=>exact gt_int|str z=>have h:(decide (z.cps.size<=40)&&PyData.strOk z)=true:=h;rw[zL]at h;have:=zC h.1;exact DM (by lia)|_=>cases h
theorem rN:∀{cs:List (Str×Str)}{ws:List D},Paired rel cs ws->ws.length=cs.length|_,_,.nil=>rfl|_,_,.cons _ t=>by rw[zO,zO,rN t]
theorem Wg.len(h:Wg cs ws):ws.length=cs.length:=rN h
theorem Wg.P9(h:Wg cs ws):mm cs (.tup ws)=true:=by show(decide (ws.length=cs.length)&&(List.zipWith (λc v=>jw c.2 v) cs ws).all id)=true;rw[zr h.len,zY];unfold Wg at h;induction h with|nil=>rfl|cons r t ih=>rw[List.zipWith_cons_cons,List.all_cons,ih];show(id (jw _ _)&&true)=true;rw[show id (jw _ _)=true from r.1];rfl
theorem Wg.gts(h:Wg cs ws)(hc:cs.length<=8):Q5 S (.tup ws):=LN (by rw[h.len];lia) λv hv=>IZ<|h.all v hv
theorem LO(hg:Gd cs)(hN:∀c∈cs,c.1∈vZ):∀d∈cs.map aA,Ly S 60 d:=λd hd=>by obtain⟨c,hc,rfl⟩:=zh.mp hd;refine(Ly.tup (n:=0) λx hx=>?_).le (by decide);have hx:x∈[D.str c.1,D.str c.2]:=hx;simp only[zf,zB,or_false]at hx;rcases hx with rfl|rfl;exact Ly.str (BP _<|hN c hc).2;rcases (hg.2.2 c hc).2 with e|e<;>rw[e]<;>exact Ly.str (by trivial)
theorem LP{n a b tn:Nat}(ha:a<n)(hb:b<n)(h:(a+tn)%n=(b+tn)%n):a=b:=by rcases Nat.lt_trichotomy a b with l|l|l;have:=Nat.sub_mod_eq_zero_of_mod_eq h.symm;rw[show b+tn-(a+tn)=b-a by lia,Nat.mod_eq_of_lt<|by lia]at this;lia;exact l;have:=Nat.sub_mod_eq_zero_of_mod_eq h;rw[show a+tn-(b+tn)=a-b by lia,Nat.mod_eq_of_lt<|by lia]at this;lia
noncomputable def rO(cs:List<|Str×Str)(tn k:Nat):Str:=(cs.getD ((k+tn)%cs.length) ("","")).1
theorem yY(h:0<cs.length):∃c∈cs,cs[(k+tn)%cs.length]?=some c/\c.1=rO cs tn k:=by have dW:(k+tn)%cs.length<cs.length:=Nat.mod_lt _ h;refine{cs[(k+tn)%cs.length],List.getElem_mem dW,zg dW,?_};unfold rO;rw[zH,zg dW];rfl
theorem yZ{cs:List<|Str×Str}(hg:(cs.map Prod.fst).Nodup){tn i:Nat}(hi:i<=cs.length):((List.range i).map<|rO cs tn).Nodup:=by
 refine List.pairwise_map.mpr<|List.nodup_range.imp_of_mem λ{a b} ha hb n e=>n ?_;have ha:=zN.mp ha;have hb:=zN.mp hb;have h0:0<cs.length:=by lia
 have la:(a+tn)%cs.length<cs.length:=Nat.mod_lt _ h0;have lb:(b+tn)%cs.length<cs.length:=Nat.mod_lt _ h0;unfold rO at e;rw[zH,zg la,zH,zg lb]at e;have e:(cs[(a+tn)%cs.length]).1=(cs[(b+tn)%cs.length]).1:=e;have e2:(cs.map Prod.fst)[(a+tn)%cs.length]'(by rw[zc];exact la)=(cs.map Prod.fst)[(b+tn)%cs.length]'(by rw[zc];exact lb):=by rw[List.getElem_map,List.getElem_map];exact e
 exact LP (n:=cs.length) (by lia) (by lia)<|(List.getElem_inj hg).mp e2
inductive uv (ds:List D) (S:av) (R:KD) (Z:KX):Prop where
 |mk (l cs) (h0:ds=[.ref l,.tup<|cs.map aA]) (h1:Gd cs) (h2:S l=some .well) (h3:∀(ps:List Part)(wy:Str),Og cs ps wy->R (dP ps wy) S):uv ds S R Z
theorem I_(T:Txt w K mg t):Ok P w base T.vF 2 uv:=by
 refine T.vF.F.bX fC ?_;rintro _ _ _ _ _ _ _ S R Z hr ⟨l,cs,e,hg,hw,q⟩;subst e;have h8:=hg.1;have EJ:(cs.map aA).length=cs.length:=zc _;refine{_,(sc (cF (i:=2) fC.nd<|aG T.aQ (bA T) hr<|ac (dv 0)<|ac di an)<|sc (cF (i:=3) fC.nd<|dR an)<|sc (xq<|Hy (QS T.jK<|ac (cb MG T.MY Hf<|ac (cb aY T.aV aJ<|ac (dv 1) an)<|ac (CY<|ix hr.u (dR<|ac di<|ac di<|ac di<|ac di an)<|aG T.aQ (bA T) hr<|ac (dv 0)<|ac di an) an) an) (gn (i:=4) fC.nd)<|sc (cF (i:=5) fC.nd<|ix hr.u (ix hr.u (dv 1)<|bo i8 hr.u (bo bu hr.u (dv 4)<|dv 2)<|cb aY T.aV aJ<|ac (dv 1) an) di)<|s1<|se<|bm zS yc yd dy (dv 3)<|ac (bP<|ac (dv 5)<|ac (CY<|ix hr.u (dR<|ac ds<|ac ds an)<|aG T.aQ (bA T) hr<|ac (dv 0)<|ac di an)<|ac (CY<|ix hr.u (dR<|ac ds<|ac ds an)<|aG T.aQ (bA T) hr<|ac (dv 0)<|ac di an) an) an)<|s1<|sr<|bP<|ac (ct fX T.bp aS<|ac (dv 3) an)<|ac (CY<|ix hr.u (dR<|ac ds<|ac ds an)<|aG T.aQ (bA T) hr<|ac (dv 0)<|ac di an) an),?_};refine{_,rfl,l,_,rfl,(by decide),(by decide),hw,λtr ht0 ht1=>{vR,λlp Zw=>?_}};obtain⟨tn,rfl⟩:∃n:Nat,tr=(n:Int):={tr.toNat,by lia};have hlw:l≠lp:=g6 hw Zw;refine{λaC S'=>∃(o4 o5:Option D)(ps:List Part)(i:Nat),aC=[some<|.ref l,some<|.tup<|cs.map aA,some<|.int tn,some<|.ref lp,o4,o5]/\i<=cs.length/\ps.map Prod.fst=(List.range i).map (rO cs tn)/\(∀p∈ps,j6 p.2.1=true/\v7 p.2.2=true)/\S'=S.set lp (.lst<|ps.map p3),?_,?_};refine{_,rfl,_,rfl,nJ,λp hp=>{_,rfl,l,_,rfl,(by decide),(by decide),wl (wl hw Zw) hp,λn4 Wd Zh=>cu Wd Zh hp λd hd=>?_}};obtain⟨m,rfl⟩:∃m:Nat,d=.int m:=by have hd:d∈[D.int 1,.int 2,.int 0,.int 8]:=hd;simp only[zf,zB,or_false]at hd;rcases hd with h|h|h|h;exact{1,h};exact{2,h};exact{0,h};exact{8,h}
 obtain⟨k,hk,ek⟩:∃k:Nat,k<=cs.length/\(if decide ((m:Int)<(((cs.map aA).length:Nat):Int))=true then (m:Int) else (((cs.map aA).length:Nat):Int))=(k:Int):=by rw[EJ];by_cases h:(m:Int)<((cs.length:Nat):Int);exact{m,by lia,by rw[zr h,if_pos rfl]};exact{cs.length,zk _,by rw[zo h,if_neg zd]}
 refine{_,_,rfl,k,congrArg (λi=>[D.int i]) ek,by lia,by lia,?_};refine{λi aC S'=>∃(o4 o5:Option D)(ps:List Part),aC=[some<|.ref l,some<|.tup<|cs.map aA,some<|.int tn,some<|.ref lp,o4,o5]/\ps.map Prod.fst=(List.range i).map (rO cs tn)/\(∀p∈ps,j6 p.2.1=true/\v7 p.2.2=true)/\S'=S.set lp (.lst<|ps.map p3),{none,none,[],rfl,rfl,λ_ h=>(nomatch h),rfl},λ_ _ _ _=>trivial,?_,?_};rintro i d aC S' hd ⟨o4,o5,ps,rfl,hn,dY,rfl⟩;obtain⟨hi,rfl⟩:=i_ hd;have hi:i<k:=by simpa using hi
 have h0:0<cs.length:=by lia
 have du:ps.length=i:=by have:=congrArg List.length hn;simpa using this
 obtain⟨c,hc,ec,ec1⟩:=yY (cs:=cs) (tn:=tn) (k:=i) h0;have pP:(S.set lp<|.lst<|ps.map p3) l=some .well:=(ag hlw).trans hw;have wD:(S.set lp<|.lst<|ps.map p3) lp=some (.lst<|ps.map p3):=aa;have eat:uG (cs.map aA) (((0:Int)+(i:Nat)+(tn:Nat))%(((cs.map aA).length:Nat):Int))=some (aA c):=by rw[EJ,show((0:Int)+(i:Nat)+(tn:Nat))%((cs.length:Nat):Int)=(((i+tn)%cs.length:Nat):Int) by rw[Int.zero_add,Int.natCast_emod,Int.natCast_add]];refine dw ?_;rw[zq,ec];rfl
 refine{_,rfl,_,rfl,_,rfl,_,rfl,_,rfl,(by rw[EJ];lia),_,eat,_,rfl,?_};refine{_,rfl,{rfl,_,wD},_,rfl,bW,λp hp=>{_,rfl,l,_,rfl,(by decide),(by decide),wl pP hp,λn2 PR IB=>cu PR IB hp λd hd=>?_}};obtain⟨wy,rfl,JG⟩:∃wy:Str,d=.str wy/\j6 wy=true:=by have hd:d∈[D.str "up",.str "down"]:=hd;simp only[zf,zB,or_false]at hd;rcases hd with h|h;exact{_,h,by trivial};exact{_,h,by trivial}
 refine{bW,λp hp=>{_,rfl,l,_,rfl,(by decide),(by decide),wl pP hp,λn2 PR IB=>cu PR IB hp λd hd=>?_}};obtain⟨en,rfl,wF⟩:∃en:Str,d=.str en/\v7 en=true:=by have hd:d∈[D.str "first",.str "last"]:=hd;simp only[zf,zB,or_false]at hd;rcases hd with h|h;exact{_,h,by trivial};exact{_,h,by trivial}
 refine{gR,lp,_,_,rfl,rfl,wD,bg<|by rw[zc];lia,?_};refine{_,_,ps++[(c.1,wy,en)],rfl,?_,λx hx=>?_,?_};rw[zI,hn,List.range_succ,zI];show _=_++[rO cs tn i];rw[<-ec1];rfl;rcases zJ.mp hx with h|h;exact dY x h;rw[zD.mp h];exact⟨JG,wF⟩;rw[dX,zI];rfl;rintro aC S' ⟨o4,o5,ps,rfl,hn,dY,rfl⟩;rw[dA]at hn;exact fo {o4,o5,ps,k,rfl,hk,by simpa using hn,dY,rfl};rintro aC S' ⟨o4,o5,ps,i,rfl,hi,hn,hk,rfl⟩;have pP:(S.set lp<|.lst<|ps.map p3) l=some .well:=(ag hlw).trans hw;have wD:(S.set lp<|.lst<|ps.map p3) lp=some (.lst<|ps.map p3):=aa;refine{_,rfl,_,_,rfl,.inl wD,bW,λp hp=>{_,rfl,l,_,rfl,(by decide),(by decide),wl pP hp,λn2 PR IB=>cu PR IB hp λd hd=>?_}};obtain⟨wy,rfl,JG⟩:∃wy:Str,d=.str wy/\j6 wy=true:=by have hd:d∈[D.str "up",.str "down"]:=hd;simp only[zf,zB,or_false]at hd;rcases hd with h|h;exact{_,h,by trivial};exact{_,h,by trivial}
 have du:ps.length=i:=by have:=congrArg List.length hn;simpa using this
 have pin:Pin cs ps:=λx hx=>by have:x.1∈ps.map Prod.fst:=zh.mpr ⟨x,hx,rfl⟩;rw[hn]at this;obtain⟨k,hk,e⟩:=zh.mp this;have:=zN.mp hk;obtain⟨c,hc,_,ec⟩:=yY (cs:=cs) (tn:=tn) (k:=k) (by lia);exact{c,hc,ec.trans e}
 have wsz:∀z,j6 z=true->z.cps.size<=1000:=λz h=>by rcases pW h with rfl|rfl<;>decide +kernel
 have esz:∀z,v7 z=true->z.cps.size<=1000:=λz h=>by unfold v7 at h;simp only[Bool.or_eq_true,yb]at h;rcases h with rfl|rfl<;>decide +kernel
 refine{bW,S,.new Zw,q ps wy {pin,λx hx=>(hk x hx).1,JG,?_,λx hx=>?_}};unfold yP;rw[zr<|show ps.length<=8 by lia,zY,zL,zL];refine{yh.mpr λx hx=>?_,zr<|by rw[hn];exact yZ hg.2.1 hi,JG};obtain⟨c,hc,ec⟩:=pin x hx;unfold fJ;rw[zr<|zh.mpr ⟨c,hc,ec⟩,(hk x hx).1,(hk x hx).2];rfl;obtain⟨c,hc,ec⟩:=pin x hx;exact{by rw[<-ec];exact nM (hg.2.2 c hc).1,wsz _ (hk x hx).1,esz _ (hk x hx).2}
def Zx(n:Nat):iV:=λds S R _=>∃l cs m,n=m+1/\ds=[.ref l,.tup<|cs.map aA,.int ((m:Nat):Int)]/\Gd cs/\(∀c∈cs,c.1∈vZ)/\S l=some .well/\∀d,Sg cs n d->R d S
theorem keys_str:(∀d∈out,∃z∈KS,d=.str z)->∃ks:List Str,out=ks.map D.str/\∀k∈ks,k∈KS:=by induction out with|nil=>exact λ_=>{[],rfl,λ_ h=>(nomatch h)}|cons x l ih=>intro h;obtain⟨z,hz,e⟩:=h x zp;obtain⟨ks,e2,hk⟩:=ih λd hd=>h d<|zi _ hd;exact{z::ks,by rw[e,e2];rfl,λk AK=>(zf.mp AK).elim (λe=>e ▸ hz)<|hk k}
theorem lh:∀{xs out:List D},Paired rel xs out->∀v∈out,∃x,rel x v|_,_,.nil,_,h=>(nomatch h)|_,_,.cons r t,v,h=>by rcases zf.mp h with rfl|h;exact{_,r};exact lh t v h
theorem nZ(T:Txt w K mg t):∀n,Ok P w base T.jN (3+n) (Zx n)
 |0=>by refine T.jN.F.ok (k:=2) c_ (by rintro ds S R Z ⟨_,_,_,_,e,_⟩;exact by rw[e];rfl) (by rintro fU A outer s H E ds S R Z hr ⟨_,_,m,e,_⟩;exact by cases e)
 |n+1=>by
  refine T.jN.F.ok (k:=3+n) c_ (by rintro ds S R Z ⟨_,_,_,_,e,_⟩;rw[e];rfl) ?_;rintro _ _ _ _ _ _ _ S R Z hr ⟨l,cs,m,em,e,hg,hN,hw,q⟩;subst e;cases em;have EJ:(cs.map aA).length=cs.length:=zc _;have h8:=hg.1;refine{_,(sc (cF (i:=3) c_.nd<|aG T.aQ (bA T) hr<|ac (dv 0)<|ac (bo bu hr.u di<|bo kl hr.u di<|ct Hq T.Di uO<|ac (cm qB hr.u (dv 2) di) an) an)<|sc (si (twd<|twor (bh bj hr.u (dv 3) di)<|tw1<|twd<|twand (bh bj hr.u (dv 1)<|bP an)<|tw1<|bh uY hr.u (dv 3) di) (s1<|sr<|bP<|ac ds an) s0)<|sc (si (bh bj hr.u (dv 3) di) (s1<|sr<|bP<|ac ds<|ac (ct fX T.bp aS<|ac (tZ (N:=["_law_k","_law_well_here"]) (src:=[none,some 0]) (lF (ae ue) ["_law_well_here","_law_columns_here","_law_deep","_law_way","_law_some","_law_name","_law_kind","_law_value_here"] rfl rfl<|by trivial) (QS T.jK<|ac (aG T.aQ (bA T) hr<|ac (dv 0)<|ac di an) an) (r_<|show(["_law_k","_law_well_here"]:List Str).Nodup by trivial) (aZ rfl) a_ (λ_ _ _ _ _=>sM) λ_ _ _ _ _=>(aG T.xQ (BQ T) hr<|ac (dv 1) an)) an) an) s0)<|sc (si (bh bj hr.u (dv 3) di) (s1<|sr<|bP<|ac ds<|ac (aG T.jN (nZ T n) hr<|ac (dv 0)<|ac (dv 1)<|ac (bo ot hr.u (dv 2) di) an) an) s0)<|sc (si (bh qB hr.u (dv 3) di) (sc (QT (i:=4) (N:=["_law_k","_law_well_here","_law_columns_here","_law_deep"]) (src:=[none,some 0,some 1,some 2]) c_.nd (lF (ae ue) ["_law_well_here","_law_columns_here","_law_deep","_law_way","_law_some","_law_name","_law_kind","_law_value_here"] rfl rfl<|by trivial) (QS T.jK<|ac (aG T.aQ (bA T) hr<|ac (dv 0)<|ac di an) an) (r_<|show(["_law_k","_law_well_here","_law_columns_here","_law_deep"]:List Str).Nodup by trivial) (aZ rfl) a_ (λ_ _ _ _ _=>sM) λ_ _ _ _ _=>(aG T.jN (nZ T n) hr<|ac (dv 1)<|ac (dv 2)<|ac (bo ot hr.u (dv 3) di) an))<|s1<|sr<|bP<|ac (CY<|ix hr.u (dR<|ac ds<|ac ds an)<|bo ot hr.u (dv 3) di)<|ac (ct fX T.bp aS<|ac (dv 4) an) an) s0)<|sc (sa (ix hr.u (dv 1)<|aG T.aQ (bA T) hr<|ac (dv 0)<|ac (cb aY T.aV aJ<|ac (dv 1) an) an)<|gt (n:=2)<|gc (gn (i:=5) c_.nd)<|gc (gn (i:=6) c_.nd) g0)<|sc (cF (i:=7) c_.nd<|aG T.mf (rD T) hr<|ac (dv 0)<|ac (dv 6) an)<|sc (si (twd<|twor (bh bj hr.u (dv 3) di)<|tw1<|bh iO hr.u (dv 7) dn) (s1<|sr<|bP<|ac ds<|ac (dv 5)<|ac (dv 7) an) s0)<|sc (si (twd<|twand (bh bj hr.u (dv 3) di)<|tw1<|bh bj hr.u (dv 6) ds) (s1<|sr<|bP<|ac ds<|ac (dv 5)<|ac (dv 7) an) s0)<|s1<|sr<|bP<|ac (CY<|ix hr.u (dR<|ac ds<|ac ds an)<|bo i8 hr.u (dv 3) di)<|ac (dv 5)<|ac (dv 7) an),?_};obtain⟨x,ex,hx⟩:∃x:Int,(if (λi j:Int=>decide<|j<i) (↑n) 0=true then (1:Int) else 0)=x/\(x=0\/(x=1/\0<n)):=by by_cases e:(0:Int)<(n:Int);exact{1,if_pos<|zr e,.inr {rfl,by lia}};exact{0,if_neg<|by rw[show(λi j:Int=>decide<|j<i) (↑n) 0=false from zo e];exact zd,.inl rfl}
  refine{_,rfl,_,rfl,.inr {_,rfl,?_}};rw[ex];refine{.inl {by decide,by decide},l,_,rfl,by lia,vY (by lia)<|by lia,hw,λway h0 h1=>?_};have h9:way<9:=by lia
  have M_:6<=way->0<n:=λh=>by lia
  have Na:Fo S (R<|.tup [.str "every"]):=fo<|q _<|.inl<|.inl rfl;have lys:∀d∈cs.map aA,Ly S 60 d:=LO hg hN;refine{_,rfl,_,rfl,bD (λh=>⟨rj,Na⟩) λh=>{_,rfl,vR,LC lys {_,rfl,bD (λh2=>{_,rfl,_,rfl,bD (λh3=>⟨rj,Na⟩) λh3=>?_}) λh2=>?_}}}
  all_goals
   have wK:way<5->0<cs.length:=by
    first
    |exact λh=>absurd h (zM h3)
    |exact λ_=>List.length_pos_iff.mpr λe=>by subst e;cases h2
   have hw0:way≠0:=zM h
   refine{_,rfl,_,rfl,bD (λh5=>?_) λh5=>?_}
   ·refine{_,rfl,l,_,rfl,(by decide),(by decide),hw,λn5 h50 h51=>{n5,rfl,by lia,by lia,?_}}
    refine fF (λ_ v=>∃z∈KS,v=.str z) trivial (by rw[dA];lia) (λd hd Q hQ=>?_) λout ho p hp=>?_
    ·exact{_,rfl,l,[],rfl,rfl,hw,by rintro d ⟨z,hz,e⟩;exact hQ d {z,x5 hz,e}}
    ·obtain⟨ks,rfl,Bl⟩:=keys_str λd hd=>(lh ho d hd).elim λ_ h=>h
     have Zy:ks.length<=8:=by
      have:=yD ho
      rw[dA,zc]at this
      lia
     exact{_,_,rfl,.inl aa,bW,S,.new hp,q _<|.inl<|.inr<|.inl ⟨ks,rfl,Zy,Bl⟩}
   have UX:way≠5:=zM h5
   refine{_,rfl,_,rfl,bD (λh6=>?_) λh6=>?_}
   ·have h6:way=6:=zC h6
    have hn:=M_<|by lia
    refine{_,rfl,_,rfl,_,rfl,l,cs,n-1,by lia,?_,hg,hN,hw,λd hd=>{bW,fo<|q _<|.inr<|.inl ⟨d,rfl,hd⟩}}
    show[D.ref l,.tup<|cs.map aA,.int<|(n:Int)-1]=[_,_,D.int ((n-1:Nat):Int)]
    rw[show((n-1:Nat):Int)=(n:Int)-1 by lia]
   have hw6:way≠6:=zM h6
   refine{_,rfl,_,rfl,bD (λh7=>?_) λh7=>?_}
   ·have h7:6<way:=zC h7
    have hn:=M_<|by lia
    refine{_,rfl,l,_,rfl,(by decide),(by decide),hw,λn3 h30 Wh=>{n3,rfl,by lia,by lia,?_}}
    refine fF (λ_ v=>Sg cs n v) trivial (by rw[dA];lia) (λd hd Q hQ=>?_) λout ho p hp=>?_
    ·refine{_,rfl,_,rfl,_,rfl,l,cs,n-1,by lia,?_,hg,hN,hw,λd hd=>hQ d hd}
     show[D.ref l,.tup<|cs.map aA,.int<|(n:Int)-1]=[_,_,D.int ((n-1:Nat):Int)]
     rw[show((n-1:Nat):Int)=(n:Int)-1 by lia]
    ·have Sy:out.length<=2:=by
      have:=yD ho
      rw[dA]at this
      lia
     refine{bW,λp2 fV=>{_,rfl,cu (by lia) (by show way-7<2;lia) fV λd hd=>?_}}
     obtain⟨o,rfl,Zz⟩:∃o:Str,d=.str o/\(o ="and"\/o ="or"):=by
      have hd:d∈[D.str "and",.str "or"]:=hd
      simp only[zf,zB,or_false]at hd
      rcases hd with h|h
      ·exact{_,h,.inl rfl}
      ·exact{_,h,.inr rfl}
     exact{_,rfl,_,_,rfl,.inl aa,bW,S,.new hp,q _<|.inr<|.inr {o,out,Zz,rfl,Sy,λe he=>(lh ho e he).elim λ_ h=>h}}
   have h7:¬6<way:=zM h7
   have mX:=wK<|by lia
   refine{_,rfl,_,rfl,_,rfl,_,rfl,l,_,rfl,by lia,vY (by lia)<|by lia,hw,λj hj0 hj1=>?_}
   obtain⟨jn,rfl⟩:∃jn:Nat,j=(jn:Int):={j.toNat,by lia}
   have hjn:jn<cs.length:=by lia
   have ec:cs[jn]?=some cs[jn]:=zg hjn
   have hc:cs[jn]∈cs:=List.getElem_mem hjn
   generalize cs[jn]=c at ec hc
   refine{aA c,dw<|by rw[zq,ec];rfl,_,rfl,rfl,_,_,rfl,_,_,rfl,rfl,?_}
   refine{_,rfl,_,rfl,l,[.str c.2],rfl,?_,hw,λv hv=>?_}
   ·rcases (hg.2.2 c hc).2 with e|e<;>rw[e]
    ·exact .inl rfl
    ·exact .inr rfl
   obtain⟨k,ek,hv⟩:=hv
   cases ek
   have PY:Fo S (R<|.tup [.str "is",.str c.1,v]):=fo<|q _<|.inl<|.inr<|.inr {"is",c,v,hc,hv,.inl rfl,rfl}
   refine{_,rfl,_,rfl,bD (λh8=>{_,rfl,_,rfl,gR,PY}) λh8=>{_,rfl,_,rfl,bD (λh9=>{_,rfl,_,rfl,gR,PY}) λh9=>?_}}
   have We:v≠.ax:=bt h9
   refine{_,rfl,_,rfl,bD (λh10=>{_,rfl,_,rfl,bD (λh11=>?_) λh11=>?_}) λh10=>?_}
   ·exact{_,rfl,_,rfl,gR,fo<|q _<|.inl<|.inr<|.inr {"begins",c,v,hc,hv,.inr {We,.inr<|.inr {rfl,zC h11}},rfl}}
   all_goals
    refine{bW,λp hp=>{_,rfl,(by decide),cu (by lia) (by show way%2<2;lia) hp λd hd=>?_}}
    obtain⟨o,rfl,Zz⟩:∃o:Str,d=.str o/\(o ="below"\/o ="above"):=by
     have hd:d∈[D.str "below",.str "above"]:=hd
     simp only[zf,zB,or_false]at hd
     rcases hd with h|h
     ·exact{_,h,.inl rfl}
     ·exact{_,h,.inr rfl}
    exact{_,rfl,_,rfl,gR,fo<|q _<|.inl<|.inr<|.inr {o,c,v,hc,hv,.inr {We,Zz.elim .inl λh=>.inr<|.inl h},rfl}}
theorem DN:∀{l:List Str}{p:Str},PyProof.Rows.risingS p l=true->(p::l).Pairwise λa b=>a.cps.toList<=b.cps.toList|[],p,_=>List.pairwise_singleton _ _|x::r,p,h=>by have h:(!PySem.Spec.ltCps x.cps.toList p.cps.toList&&PyProof.Rows.risingS x r)=true:=h;rw[zL,PyProof.Rows.ltCps_eq,Bool.not_eq_true',decide_eq_false_iff_not]at h;have ih:=DN h.2;have hpx:p.cps.toList<=x.cps.toList:=List.not_lt.mp h.1;refine List.pairwise_cons.mpr {λy hy=>?_,ih};rcases zf.mp hy with e|hy;rw[e];exact hpx;exact List.le_trans hpx<|(List.pairwise_cons.mp ih).1 y hy
theorem uw(h:PyProof.Rows.sortedS l=true):l.Pairwise λa b=>a.cps.toList<=b.cps.toList:=by cases l with|nil=>exact List.Pairwise.nil|cons x r=>exact DN h
theorem LQ{a b:Str}(h:a.cps.toList=b.cps.toList):a=b:=by obtain⟨⟨x⟩⟩:=a;obtain⟨⟨y⟩⟩:=b;cases h;rfl
theorem FJ{l m:List Str}(hl:l.Pairwise λa b=>a.cps.toList<=b.cps.toList)(hm:m.Pairwise λa b=>a.cps.toList<=b.cps.toList)(nl:l.Nodup)(nm:m.Nodup)(h:∀z,z∈l↔z∈m):l=m:=List.Perm.eq_of_pairwise (λa b _ _ h1 h2=>LQ<|List.le_antisymm h1 h2) hl hm<|(List.perm_ext_iff_of_nodup nl nm).mpr h
def TI(l:List Std)(n:Nat):Prop:=∀s∈l,s.b<=n/\∀m,s.e=some m->m<n
noncomputable def LR(s:Std):D:=match s.e with|none=>.tup s.ws|some _=>.ax
noncomputable def cur(l:List Std):D:=match l.getLast? with|none=>.ax|some s=>LR s
theorem jE(r:List Std)(s:Std):cur (r++[s])=LR s:=by unfold cur;rw[List.getLast?_concat]
theorem P_(h:TI l n):wt l n=cur l:=by by_cases e:l=[];subst e;rfl;obtain⟨r,s,rfl⟩:=jO e;rw[jE];unfold wt;rw[List.reverse_append];obtain⟨h1,h2⟩:=h s<|zw _<|zD.mpr rfl;show Io (s::r.reverse) (n:Int)=_;unfold Io LR;rw[if_pos<|show(s.b:Int)<=(n:Int) by lia];cases q:s.e with|none=>rfl|some m=>have:=h2 m q;exact if_neg<|show ¬(n:Int)<=(m:Int) by lia
theorem TI.up(h:TI l n):TI l (n+1):=λs hs=>{Nat.le_succ_of_le (h s hs).1,λm e=>Nat.lt_succ_of_lt<|(h s hs).2 m e}
theorem TI.close(h:TI l n):TI (ij n l) (n+1):=by by_cases e:l=[];subst e;exact λs hs=>(nomatch hs);obtain⟨r,s,rfl⟩:=jO e;rw[eM];intro x hx;rcases zJ.mp hx with hx|hx;exact h.up x<|zQ _ hx;rw[zD.mp hx];exact{Nat.le_succ_of_le (h s<|zw _<|zD.mpr rfl).1,λm e=>by cases e;exact yx _}
theorem TI.beg(h:TI l<|n+1):TI (l++[Std.mk (n+1) none ws]) (n+1):=λs hs=>by rcases zJ.mp hs with hs|hs;exact h s hs;rw[zD.mp hs];exact{zk _,λm e=>(by cases e)}
theorem FK:cur (ij n l)=.ax:=by by_cases e:l=[];subst e;rfl;obtain⟨r,s,rfl⟩:=jO e;rw[eM,jE];rfl
noncomputable def wL(kn:Kn)(z:Str):D:=match gm kn z with|none=>.ax|some ws=>.tup ws
structure RI(rs:lH)(n:Nat)(kn:Kn):Prop where
 ti:∀z,TI ((lu rs z).getD []) n
 eq:∀z,cur ((lu rs z).getD [])=wL kn z
 ks:∀r∈rs,r.1∈KS
theorem LS(h:r∈BL rs z s):r.1=z\/∃r'∈rs,r'.1=r.1:=by unfold BL at h;split at h;obtain⟨r0,wJ,e⟩:=zh.mp h;refine .inr {r0,wJ,?_};subst e;split<;>rfl;rcases zJ.mp h with h|h;exact .inr ⟨r,h,rfl⟩;rw[zD.mp h];exact .inl rfl
theorem Ja(h:∀r∈rs,r.1∈KS)(hz:z∈KS):∀r∈BL rs z s,r.1∈KS:=λr hr=>by rcases LS hr with e|⟨r',pF,e⟩;rw[e];exact hz;rw[<-e];exact h r' pF
theorem DP:wL (my kn z ws) k=if k=z then .tup ws else wL kn k:=by unfold wL;rw[LA];by_cases h:k=z;rw[if_pos h,if_pos h];rw[if_neg h,if_neg h]
theorem DQ:wL (v5 kn z) k=if k=z then .ax else wL kn k:=by unfold wL;rw[LB];by_cases h:k=z;rw[if_pos h,if_pos h];rw[if_neg h,if_neg h]
theorem RI.nil:RI [] 0 []:={λz s hs=>(nomatch hs),λz=>rfl,λr hr=>(nomatch hr)}
theorem RI.put(h:RI rs n kn)(hz:z∈KS):RI (sY rs z (n+1) ws) (n+1) (my kn z ws):=by refine{λk=>?_,λk=>?_,Ja h.ks hz};unfold sY;rw[jB];by_cases e:k=z;rw[if_pos e];exact(h.ti z).up.beg;rw[if_neg e];exact(h.ti k).up;unfold sY;rw[jB,DP];by_cases e:k=z;rw[if_pos e,if_pos e];exact jE _ _;rw[if_neg e,if_neg e];exact h.eq k
theorem RI.del(h:RI rs n kn)(hz:z∈KS):RI (nQ rs z n) (n+1) (v5 kn z):=by refine{λk=>?_,λk=>?_,Ja h.ks hz};unfold nQ;rw[jB];by_cases e:k=z;rw[if_pos e];exact(h.ti z).close;rw[if_neg e];exact(h.ti k).up;unfold nQ;rw[jB,DQ];by_cases e:k=z;rw[if_pos e,if_pos e];exact FK;rw[if_neg e,if_neg e];exact h.eq k
theorem RI.change(h:RI rs n kn)(hz:z∈KS):RI (sY (nQ rs z n) z (n+1) ws) (n+1) (my kn z ws):=by have h1:=h.del hz;refine{λk=>?_,λk=>?_,Ja h1.ks hz};unfold sY;rw[jB];by_cases e:k=z;rw[if_pos e];exact(h1.ti z).beg;rw[if_neg e];exact h1.ti k;unfold sY;rw[jB,DP];by_cases e:k=z;rw[if_pos e,if_pos e];exact jE _ _;rw[if_neg e,if_neg e,h1.eq k,DQ,if_neg e]
theorem RI.wt{rs:lH}{n:Nat}{kn:Kn}(h:RI rs n kn)(z:Str):wt ((lu rs z).getD []) n=wL kn z:=by rw[P_<|h.ti z,h.eq]
theorem RI.Ag(h:RI rs n kn)(hz:z∈KS):Ag rs (.str z) n=wL kn z:=by rw[vU (eR z hz).1,h.wt]
theorem ux(kn:Kn)(z:Str):ah (wL kn z)=!(gm kn z).isSome:=by unfold wL;cases gm kn z<;>rfl
theorem Nb(h:cn C S a F cs dl rs):(rs.map (·.1)).Nodup:=by obtain⟨ld,lr,ra,h,_,rfl⟩:=h;unfold gW;rw[zA];exact h.kn
theorem RI.len(h:RI rs n kn)(hs:cn C S a F cs dl rs):rs.length<=40:=by
 have:=sub_len (Nb hs) (m:=KS) λx hx=>by obtain⟨r,hr,rfl⟩:=zh.mp hx;exact h.ks r hr
 rw[zc]at this;exact this
noncomputable def Qa(kn:Kn)(ss:List Str):List D:=ss.map λz=>.tup [.str z,wL kn z]
theorem UY(h:lu rs k=some s):k∈rs.map (·.1):=by induction rs with|nil=>(cases h)|cons r rs ih=>rw[e_]at h;rw[zE];by_cases e:r.1=k;exact zf.mpr<|.inl e.symm;rw[if_neg e]at h;exact zi _<|ih h
noncomputable def n0(k:Nat)(l:List Std):List Std:=match l.getLast? with|none=>l|some s=>match s.e with|none=>ij k l|some _=>l
theorem oQ(h:s.e=none):n0 k (r++[s])=r++[Std.mk s.b (some k) s.ws]:=by unfold n0;rw[List.getLast?_concat];dsimp only;rw[h];exact eM _ _ _
theorem y0(h:s.e=some n):n0 k (r++[s])=r++[s]:=by unfold n0;rw[List.getLast?_concat];dsimp only;rw[h]
theorem LU{s:Std}{r:List Std}{m:Nat}(h:m<s.b):Io (s::r) m=Io r m:=by show(if (s.b:Int)<=(m:Int) then _ else Io r m)=_;rw[if_neg<|by lia]
theorem FL(hm:m<=n):wt (n0 n l) m=wt l m:=by by_cases e:l=[];subst e;rfl;obtain⟨r,s,rfl⟩:=jO e;cases q:s.e with|some k=>rw[y0 q]|none=>rw[oQ q];unfold wt;rw[List.reverse_append,List.reverse_append];show(if (s.b:Int)<=(m:Int) then (if (m:Int)<=(n:Int) then D.tup s.ws else .ax) else Io r.reverse m)=(if (s.b:Int)<=(m:Int) then (match s.e with|none=>.tup s.ws|some n=>if (m:Int)<=(n:Int) then .tup s.ws else .ax) else Io r.reverse m);rw[q,if_pos<|show(m:Int)<=(n:Int) by lia]
theorem B0(h:cur l≠.ax):n0 n l=ij n l:=by by_cases e:l=[];subst e;rfl;obtain⟨r,s,rfl⟩:=jO e;rw[jE]at h;cases q:s.e with|none=>rw[oQ q,eM]|some m=>unfold LR at h;rw[q]at h;exact absurd rfl h
noncomputable def oR(kn:Kn)(ss:List Str):List Row:=ss.map λz=>(z,(gm kn z).getD [])
structure Snap(rs:lH)(cs:List (Str×Str))(m:Nat)(rows:List Row):Prop where
 ex:∃kn ss,rows=oR kn ss/\KI cs kn/\ss.Perm (kn.map (·.1))/\PyProof.Rows.sortedS ss=true/\∀z,wt ((lu rs z).getD []) m=wL kn z
theorem FN(p:ss.Perm (kn.map (·.1))):(oR kn ss).map ak=Qa kn ss:=by unfold oR Qa;rw[zA];refine zW λz hz=>?_;obtain⟨ws,nU⟩:=nS<|p.mem_iff.mp hz;show D.tup [.str z,.tup<|(gm kn z).getD []]=.tup [.str z,wL kn z];unfold wL;rw[nU];rfl
theorem Jb(hI:KI cs kn)(p:ss.Perm (kn.map (·.1))):Rg cs (oR kn ss):=by refine{λr hr=>?_,?_};obtain⟨z,hz,rfl⟩:=zh.mp hr;obtain⟨ws,nU⟩:=nS<|p.mem_iff.mp hz;show Wg cs ((gm kn z).getD []);rw[nU];exact(hI.ok _<|mx nU).2;unfold oR;rw[zA];show(ss.map id).Nodup;rw[List.map_id];exact p.nodup_iff.mpr hI.nd
theorem FO(hI:KI cs kn)(p:ss.Perm (kn.map (·.1))):(oR kn ss).length<=40:=by unfold oR;rw[zc,p.length_eq,zc];exact hI.len
theorem Snap.rg(h:Snap rs cs m rows):Rg cs rows/\rows.length<=40:=by obtain⟨kn,ss,rfl,hI,p,_⟩:=h.ex;exact{Jb hI p,FO hI p}
theorem Snap.key(h:Snap rs cs m rows):∀r∈rows,r.1∈KS:=by obtain⟨kn,ss,rfl,hI,p,_⟩:=h.ex;intro r hr;obtain⟨z,hz,rfl⟩:=zh.mp hr;obtain⟨ws,nU⟩:=nS<|p.mem_iff.mp hz;exact(hI.ok _<|mx nU).1
theorem uy{C a:Addr}{S:av}{F:List Addr}{cs:List<|Str×Str}{dl:List D}{rs:lH}{m:Nat}{rows:List Row}(h:Snap rs cs m rows)(hs:cn C S a F cs dl rs){ss:List Str} (p1:ss.Perm (rs.map (·.1))) (o1:PyProof.Rows.sortedS ss=true):k_ rs m ss=rows.map ak:=by
 obtain⟨kn,s2,rfl,hI,p2,o2,hw⟩:=h.ex;rw[FN p2];have e:ss.filter (λz=>!ah (wt ((lu rs z).getD []) m))=s2:=by refine FJ ((uw o1).filter _) (uw o2) ?_ (p2.nodup_iff.mpr hI.nd) λz=>?_;exact List.filter_sublist.nodup<|p1.nodup_iff.mpr<|Nb hs;rw[yu,hw,ux,Bool.not_not,p1.mem_iff,p2.mem_iff];constructor;rintro⟨_,hz⟩;obtain⟨ws,nU⟩:=Option.isSome_iff_exists.mp hz;exact zh.mpr {_,mx nU,rfl};intro hz;obtain⟨ws,nU⟩:=nS hz;refine{?_,by rw[nU];rfl};have e:=hw z;unfold wL at e;rw[nU]at e;cases q:lu rs z with|none=>(rw[q]at e;cases e)|some s=>exact UY q
 unfold k_ Qa;rw[e];refine zW λz _=>?_;unfold vV;rw[hw]
theorem Qb{l:List Std}{n m:Nat}{ws:List D}(hm:m<=n):wt (l++[Std.mk (n+1) none ws]) m=wt l m:=by unfold wt;rw[List.reverse_append];exact LU<|show m<n+1 by lia
theorem DR(k:Str)(m:Nat)(hm:m<=n):wt ((lu (sY rs z (n+1) ws) k).getD []) m=wt ((lu rs k).getD []) m:=by unfold sY;rw[jB];by_cases e:k=z;rw[if_pos e,e];exact Qb hm;rw[if_neg e]
theorem DU(h:RI rs n kn)(hz:(gm kn z).isSome=true)(k:Str)(m:Nat)(hm:m<=n):wt ((lu (nQ rs z n) k).getD []) m=wt ((lu rs k).getD []) m:=by
 unfold nQ;rw[jB];by_cases e:k=z;rw[if_pos e,e];have hc:cur ((lu rs z).getD [])≠.ax:=by rw[h.eq];unfold wL;cases q:gm kn z with|none=>(rw[q]at hz;cases hz)|some ws=>exact λe=>by cases e
 show wt (ij n<|(lu rs z).getD []) m=_;rw[<-B0 hc,FL hm];rw[if_neg e]
theorem DV(hz:z∈KS):Gt S (.str z):=DM<|by have:=(eR z hz).2.1;lia
section
variable{t:hW}{S:av}{a:Addr}{F:List Addr}{cs:List (Str×Str)}{dl:List D}{rs:lH}{kn:Kn}{d:D}{R:KD}{Z:KX}
theorem Jc(hz:z∈KS)(h:Wg cs ws):nL cs (.str z) (.tup ws)=true:=by unfold nL;rw[h.P9,show ofStr j5 (.str z)=true from(eR z hz).1];rfl
theorem B1(hR:RI rs dl.length kn)(hz:z∈KS):ah (Ag rs (.str z) dl.length)=!(gm kn z).isSome:=by rw[hR.Ag hz,ux]
theorem UZ(h:gm kn z=none):(!(gm kn z).isSome)=true:=by rw[h];rfl
theorem Jd(h:(gm kn z).isSome=true):(!(gm kn z).isSome)=false:=by rw[h];rfl
theorem tf{b:Bool}(h1:b=true)(h2:b=false){p:Prop} : p:=by rw[h1]at h2;cases h2
theorem cn.out(hS:cn C S a F cs dl rs)(hb:S b=none):b∉F:=λm=>by obtain⟨ld,lr,ra,h,rfl,_⟩:=hS;unfold fp at m;simp only[zf,zh]at m;rcases m with e|e|e|⟨r,hr,e⟩;have:=h.ins;rw[<-e,hb]at this;cases this;have:=h.wI;rw[<-e,hb]at this;cases this;have:=h.run;rw[<-e,hb]at this;cases this;have:=h.cell r hr;rw[e,hb]at this;cases this
theorem cn.off(hS:cn C S a F cs dl rs)(hp:p∉F):cn C (S.set p c) a F cs dl rs:=by obtain⟨ld,lr,ra,hh,rfl,e2⟩:=hS;unfold fp at hp;simp only[zf,not_or]at hp;obtain⟨n1,n2,n3,n4⟩:=hp;exact{ld,lr,ra,{(ag<|Ne.symm n1).trans hh.ins,(ag<|Ne.symm n2).trans hh.wI,(ag<|Ne.symm n3).trans hh.run,λr hr=>(ag λe=>n4<|by rw[<-e];exact zh.mpr ⟨r,hr,rfl⟩).trans<|hh.cell r hr,hh.kn,hh.an,hh.sz},rfl,e2}
theorem GD.up(hd:GD KT cs kn d):GD KS cs kn d:=by rcases hd with⟨z,ws,hz,h⟩|h;exact .inl {z,ws,x5 hz,h};exact .inr h
theorem GD.as(hd:GD KS cs kn d)(hI:KI cs kn):∃cL,P0 kn d cL/\KI cs cL:=by rcases hd with⟨z,ws,hz,hw,hn,rfl⟩|⟨z,ws,hz,hw,hn,rfl⟩|⟨z,hz,hn,rfl⟩;exact{_,.inl {_,z,ws,.inl rfl,rfl,rfl},hI.put hz hw};exact{_,.inl {_,z,ws,.inr rfl,rfl,rfl},hI.put hz hw};exact{_,.inr ⟨z,hn,rfl,rfl⟩,hI.del z}
structure ZA(t:hW)(ds:List D)(S:av)(R:KD)(Z:KX):Prop where
 of:BS t ds S R Z
theorem FP(hS:cn t.aj S a F cs dl rs)(hg:Gd cs)(hI:KI cs kn)(hR:RI rs dl.length kn)(hl:dl.length<=100)(hd:GD KS cs kn d){cL:Kn}(Rb:P0 kn d cL) (q:∀S' F' bN,cn t.aj S' a F' cs (dl++[d]) bN->BN F F' S S'->RI bN (dl.length+1) cL->(∀z m,m<=dl.length->wt ((lu bN z).getD []) m=wt ((lu rs z).getD []) m)->R .ax S'):ZA t [.ref a,d] S R Z:=by
 have hrl:=hR.len hS;have Wj:=hg.1;obtain⟨ld,lr,ra,h,_,_⟩:=id hS;refine{a,_,h.ins,rfl,?_};rcases hd with⟨z,ws,hz,hw,hn,rfl⟩|⟨z,ws,hz,hw,hn,rfl⟩|⟨z,hz,hn,rfl⟩;have ro:=Jc hz hw;have st:=(B1 hR hz).trans<|UZ hn;refine .inl {_,_,rfl,a,F,cs,_,rs,_,_,rfl,hS,Wj,DV hz,hw.gts Wj,by lia,by lia,λe=>tf ro e,λ_ e=>tf st e,λz' Q8 e1 e2 _ _ S' F' ox hK=>?_};cases e1;cases e2;have U0:cL=my kn z ws:=by rcases Rb with⟨n,y,vs,_,e1,e2⟩|⟨y,_,e1,_⟩<;>cases e1;exact e2
 subst U0;exact q S' F' _ ox hK (hR.put hz) DR;have ro:=Jc hz hw;have st:=(B1 hR hz).trans<|Jd hn;refine .inr<|.inl {_,_,rfl,a,F,cs,_,rs,_,_,rfl,hS,Wj,DV hz,hw.gts Wj,by lia,by lia,λe=>tf ro e,λ_ e=>tf e st,λz' Q8 e1 e2 _ _ S' F' ox hK=>?_};cases e1;cases e2;have U0:cL=my kn z ws:=by rcases Rb with⟨n,y,vs,_,e1,e2⟩|⟨y,_,e1,_⟩<;>cases e1;exact e2
 subst U0;exact q S' F' _ ox hK (hR.change hz) λk m hm=>(DR k m hm).trans<|DU hR hn k m hm;have st:=(B1 hR hz).trans<|Jd hn;refine .inr<|.inr {_,rfl,a,F,cs,_,rs,_,rfl,hS,DV hz,by lia,λe=>tf (eR z hz).1 e,λ_ e=>tf e st,λz' e1 _ _ S' ox hK=>?_};cases e1;have U0:cL=v5 kn z:=by rcases Rb with⟨n,y,vs,_,e1,e2⟩|⟨y,_,e1,e2⟩<;>cases e1;exact e2
 subst U0;exact q S' F _ ox hK (hR.del hz)<|DU hR hn
theorem Snap.vw(h:Snap rs cs m rows)(hS:cn t.aj S a F cs dl rs)(hR:RI rs dl.length kn)(hm:pE dl.length md=some (m:Int))(VZ:Gt S md):Vw t.aj S a cs md false rows:=by have:=h.rg;refine{{F,dl,rs,hS,by have:=hR.len hS;lia,(λe=>by rw[hm]at e;cases e),nofun,λi ss hi hp hs=>?_},VZ,by lia,this.1};rw[hm]at hi;cases hi;exact uy h hS hp hs
end
noncomputable def kj(j:Nat):Str:=Zd.getD j ""
theorem Qc:∀j<30,("k": Str)++Str.ofString (toString<|(0:Int)+((j:Nat):Int))=kj j/\("k": Str).length+(Str.ofString<|toString<|(0:Int)+((j:Nat):Int)).length<=1000:=by trivial
theorem U1:∀j<30,kj j∈Zd/\kj j∉KT:=by trivial
theorem Qd:∀j<30,∀i<30,kj j=kj i->j=i:=by trivial
theorem dq:∀{l:List α}{m:List β},Paired rel l m->∀{i:Nat}{b:β},m[i]?=some b->∃a,l[i]?=some a/\rel a b|_,_,.nil,_,_,h=>by simp at h|_,_,.cons r t,0,b,h=>(by rw[List.getElem?_cons_zero]at h⊢;cases h;exact{_,rfl,r})|_,_,.cons r t,i+1,b,h=>by rw[List.getElem?_cons_succ]at h⊢;exact dq t h
def ZC(cs:List<|Str×Str)(j:Nat)(d:D):Prop:=j<30/\∃ws,Wg cs ws/\d=.tup [.str "put",.str<|kj j,.tup ws]
inductive y1 (ds:List D) (S:av) (R:KD) (Z:KX):Prop where
 |mk (l:_) (cs:_) (h0:ds=[.ref l,.tup<|cs.map aA,.int 13,.int 20]) (h1:Gd cs) (h2:S l=some .well) (h3:∀(out:List D)(p:Addr),out.length<=30->(∀j d,out[j]?=some d->ZC cs j d)->S p=none->R (.ref p) (S.set p<|.lst out)):y1 ds S R Z
theorem LV(T:Txt w K mg t):Ok P w base T.BA 4 y1:=by
 refine T.BA.F.bX ui ?_;rintro _ _ _ _ _ _ _ S R Z hr ⟨l,cs,e,hg,hw,q⟩;subst e;refine{_,(sc (cF (i:=4) ui.nd<|bo bu hr.u (dv 2)<|aG T.aQ (bA T) hr<|ac (dv 0)<|ac (bo bu hr.u (bo ot hr.u (dv 3)<|dv 2) di) an)<|s1<|sr<|tZ (N:=["_law_j","_law_well_here","_law_columns_here"]) (src:=[none,some 0,some 1]) (lF (ae H_) ["_law_well_here","_law_columns_here","_law_least","_law_most","_law_many_here"] rfl rfl<|by trivial) (QS T.jK<|ac (dv 4) an) (r_<|show(["_law_j","_law_well_here","_law_columns_here"]:List Str).Nodup by trivial) (aZ rfl) a_ (λ_ _ _ _ _=>sM) λ_ _ _ _ _=>(bP<|ac ds<|ac (bo bu hr.u ds<|ct T9 T.l9 g_<|ac (dv 0) an)<|ac (aG T.gN (jP T) hr<|ac (dv 1)<|ac (dv 2) an) an)),?_};refine{_,rfl,_,rfl,_,rfl,_,rfl,l,_,rfl,(by decide),(by decide),hw,λn h0 h1=>?_};have h1:n<8:=h1;obtain⟨N,hN⟩:∃N:Nat,(13:Int)+n=(N:Int):={(13+n).toNat,by lia};refine{_,rfl,13+n,rfl,by lia,by lia,?_};refine fF (λd v=>∃j:Nat,d=.int ((j:Nat):Int)/\ZC cs j v) trivial (by rw[dA];lia) (λd hd Q hQ=>?_) λout ho p hp=>?_;obtain⟨i,ei⟩:=List.getElem?_of_mem hd;obtain⟨hi,rfl⟩:=i_ ei;have hi:i<30:=by lia
 obtain⟨k1,k2⟩:=Qc i hi;refine{_,rfl,_,rfl,(by have:=Nat.log2_le_self ((0:Int)+(i:Nat)).natAbs;lia),sm k2,_,rfl,_,rfl,l,cs,rfl,hg,hw,λws nU=>{gR,hQ _ {i,?_,hi,ws,nU,?_}}};rw[Int.zero_add];rw[k1];refine fo<|q out p ?_ (λj d hd=>?_) hp;have:=yD ho;rw[dA]at this;lia;obtain⟨x,hx,j',e,hm⟩:=dq ho hd;obtain⟨_,e2⟩:=i_ hx;rw[e2]at e;have e:(0:Int)+(j:Nat)=((j':Nat):Int):=D.int.inj e;have:j=j':=by lia
 rw[this];exact hm
def U4(S:av)(F:List Addr)(S':av):Prop:=∀b c,S b=some c->b∉F/\S' b=some c
theorem U4.sub(h:U4 S F S'):Sub S S':=λb c e=>(h b c e).2
theorem KI.nil(cs:List<|Str×Str):KI cs []:={List.nodup_nil,λ_ h=>(nomatch h)}
theorem y3(ns:List Int)(lo hi:Option Int):bQ (ns.map D.int) lo hi=(bQ ns lo hi).map D.int:=by unfold bQ;rw[zc,List.map_take,List.map_drop]
theorem DX(ns:List Int)(lo hi:Option Int):(bQ ns lo hi).length<=ns.length:=by unfold bQ;rw[ya,List.length_drop];lia
structure St(t:hW)(S0:av)(a:Addr)(fs:List (Addr×Ce))(F:List Addr)(cs:List (Str×Str))(dl:List D)(rs:lH)(S:av):Prop where
 sh:cn t.aj S a F cs dl rs
 fa:∀x∈fs,S x.1=some x.2/\x.1∉F/\S0 x.1=none
 nd:(fs.map Prod.fst).Nodup
 DY:U4 S0 F S
section
variable{t:hW}{S0:av}{a:Addr}{fs:List (Addr×Ce)}{F:List Addr}{cs:List (Str×Str)}{dl:List D}{rs:lH}{S:av}
theorem St.at(h:St t S0 a fs F cs dl rs S)(i:Nat)(e:fs[i]?=some (b,c)):S b=some c:=(h.fa _<|zx e).1
theorem St.sub(h:St t S0 a fs F cs dl rs S)(b:Sub S S'):St t S0 a fs F cs dl rs S':={h.sh.sub b,λx hx=>{b _ _ (h.fa x hx).1,(h.fa x hx).2},h.nd,λx c hx=>{(h.DY x c hx).1,b _ _ (h.DY x c hx).2}}
theorem St.zero(h:St t S0 a fs F cs dl rs S)(hb:S b=none):S0 b=none:=by cases e:S0 b with|none=>rfl|some c=>have:=h.DY.sub _ _ e;rw[hb]at this;cases this
theorem St.new(h:St t S0 a fs F cs dl rs S)(hp:S p=none)(c:Ce):St t S0 a (fs++[(p,c)]) F cs dl rs (S.set p c):=by
 have h1:=h.sub<|.new (c:=c) hp;refine{h1.sh,λx hx=>?_,?_,h1.DY};rcases zJ.mp hx with hx|hx;exact h1.fa x hx;rw[zD.mp hx];exact{aa,h.sh.out hp,h.zero hp};rw[zI,List.nodup_append];refine{h.nd,by simp,λx hx y hy e=>?_};obtain⟨z,hz,rfl⟩:=zh.mp hx;have hy:y=p:=by simpa using hy
 have:=(h.fa z hz).1;rw[e,hy,hp]at this;cases this
theorem St.put(h:St t S0 a fs F cs dl rs S)(i:Nat)(e:fs[i]?=some (b,c))(c':Ce):St t S0 a (fs.set i (b,c')) F cs dl rs (S.set b c'):=by
 have hb:=h.fa _<|zx e;have hi:=(ze.mp e).1;have em:(fs.set i (b,c')).map Prod.fst=fs.map Prod.fst:=by refine List.ext_getElem? λj=>?_;rw[zq,zq];by_cases q:j=i;subst q;rw[List.getElem?_set_self hi,e];rfl;rw[List.getElem?_set_ne<|Ne.symm q]
 refine{h.sh.off hb.2.1,λx hx=>?_,by rw[em];exact h.nd,λx c hx=>{(h.DY x c hx).1,(ag<|g6 hx hb.2.2).trans (h.DY x c hx).2}};obtain⟨j,hj⟩:=List.getElem?_of_mem hx;by_cases q:j=i;subst q;rw[List.getElem?_set_self hi]at hj;cases hj;exact⟨aa,hb.2⟩;rw[List.getElem?_set_ne<|Ne.symm q]at hj;have Ha:=h.fa x<|zx hj;refine{(ag λe2=>q ?_).trans Ha.1,Ha.2};have a1:(fs.map Prod.fst)[j]?=some x.1:=by rw[zq,hj];rfl
 have a2:(fs.map Prod.fst)[i]?=some b:=by rw[zq,e];rfl
 obtain⟨b1,c1⟩:=ze.mp a1;obtain⟨b2,c2⟩:=ze.mp a2;exact(List.getElem_inj h.nd (h₀:=b1) (h₁:=b2)).mp<|by rw[c1,c2];exact e2
theorem St.perm(h:St t S0 a fs F cs dl rs S)(p:wN.Perm fs):St t S0 a wN F cs dl rs S:={h.sh,λx hx=>h.fa x<|p.mem_iff.mp hx,(p.map _).nodup_iff.mpr h.nd,h.DY}
theorem St.less(h:St t S0 a fs F cs dl rs S)(n:(wN.map Prod.fst).Nodup)(p:∀x∈wN,x∈fs):St t S0 a wN F cs dl rs S:={h.sh,λx hx=>h.fa x<|p x hx,n,h.DY}
theorem St.ZD(h:St t S0 a fs F cs dl rs S)(hS:cn t.aj S' a F' cs dl' bN)(hK:BN F F' S S'):St t S0 a fs F' cs dl' bN S':={hS,λx hx=>by obtain⟨h1,h2,h3⟩:=h.fa x hx;exact by obtain⟨k1,k2⟩:=hK _ _ h2 h1;exact⟨k2,k1,h3⟩,h.nd,λx c hx=>by obtain⟨h1,h2⟩:=h.DY x c hx;exact hK _ _ h1 h2}
end
theorem Qe(hk:r.1∈KS)(hw:Wg cs r.2):Ly S 60 (ak r):=by refine(Ly.tup (n:=1) λx hx=>?_).le (by decide);simp only[zf,zB,or_false]at hx;rcases hx with rfl|rfl;exact(Ly.str (eR _ hk).2.2).le (by decide);exact hw.ly
theorem FQ(h:x∈(my kn z ws).map (·.1)):x=z\/x∈kn.map (·.1):=by unfold my at h;split at h;rw[zA]at h;obtain⟨r,hr,e⟩:=zh.mp h;refine .inr<|zh.mpr {r,hr,?_};rw[<-e];dsimp only[Function.comp];split<;>rfl;rw[zI]at h;rcases zJ.mp h with h|h;exact .inr h;exact .inl<|by simpa using h
theorem Vw.sub(h:Vw C S a cs m no rows)(b:Sub S S'):Vw C S' a cs m no rows:=by obtain⟨F,dl,rs,h1,h2⟩:=h.sh;exact{{F,dl,rs,h1.sub b,h2},h.mo.sub b,h.len,h.rg}
theorem Nc(q:R (.bl<|if neg then !decide (i=j) else decide (i=j)) S):JD neg (.str i) (.str j) S R:=q
noncomputable def cV(w e:Str)(x y:D):Int:=if nW x y=true then 0 else if cM ("",w,e) x y=true then -1 else 1
def Cm(x y:D):Prop:=∃k,Vg k x/\Vg k y
theorem mG{w e:Str}(h:Cm x y):cV w e x y=0↔x=y:=by obtain⟨k,hx,hy⟩:=h;unfold cV;by_cases q:nW x y=true;rw[if_pos q];simpa using (cw hx.2 hy.2).mp q;rw[if_neg q];have q':¬x=y:=λz=>q<|(cw hx.2 hy.2).mpr z;constructor;intro z;split at z<;>cases z;exact λz=>absurd z q'
theorem uz{w e:Str}(h:Cm x y):cV w e x y<0↔x≠y/\cM ("",w,e) x y=true:=by obtain⟨k,hx,hy⟩:=h;unfold cV;by_cases q:nW x y=true;rw[if_pos q];have:=(cw hx.2 hy.2).mp q;simp[this];rw[if_neg q];have q':¬x=y:=λz=>q<|(cw hx.2 hy.2).mpr z;by_cases l:cM ("",w,e) x y=true;rw[if_pos l];simp[q',l];rw[if_neg l];simp[l]
theorem LW{w e:Str}(h:Cm x y):cV w e y x<0↔0<cV w e x y:=by
 have h':Cm y x:=by obtain⟨k,a,b⟩:=h;exact⟨k,b,a⟩
 rw[uz h'];obtain⟨k,hx,hy⟩:=h;unfold cV;by_cases q:nW x y=true;rw[if_pos q];have:=(cw hx.2 hy.2).mp q;simp[this];rw[if_neg q];have q':¬x=y:=λz=>q<|(cw hx.2 hy.2).mpr z;have:=nX (p:=("",w,e)) hx hy q';rw[this];cases cM ("",w,e) x y<;>simp[Ne.symm q']
inductive cE (ds:List D) (S:av) (R:KD) (Z:KX):Prop where
 |mk (x y wy e) (h0:ds=[x,y,.str e]) (h1:Cm x y) (h2:(x=.ax\/y=.ax)) (h3:R (.int<|cV wy e x y) S):cE ds S R Z
theorem iT(T:Txt w K mg t):Ok P w base T.cZ 1 cE:=by
 refine T.cZ.F.bX dS ?_;rintro _ _ _ _ _ _ _ S R Z hr ⟨x,y,wy,e,e0,⟨k,hx,hy⟩,hn,q⟩;subst e0;refine{_,(sc (si (twd<|twand (bh iO hr.u (dv 0) dn)<|tw1<|bh iO hr.u (dv 1) dn) (s1<|sr di) s0)<|sc (cF (i:=3) dS.nd<|cm bj hr.u (dv 2) ds)<|s1<|sr<|ME (bh bj hr.u (dv 3)<|cm iO hr.u (dv 0) dn) (OQ di) di),?_};unfold cV at q;refine{_,rfl,_,rfl,bD (λh=>{_,rfl,_,rfl,bD (λh2=>?_) λh2=>?_}) λh=>?_};rw[dN h,dN h2]at q;exact fo q;have e1:ah x≠ah y:=by rw[show ah x=true from h,show ah y=false from h2];decide
 rw[wc e1,if_neg zd]at q;unfold cM at q;rw[show ah x=true from h,show ah y=false from h2]at q;refine{_,rfl,_,rfl,_,rfl,?_};dsimp only[dC,XS];refine DL {_,rfl,?_};have q:R (.int<|if (ah x==decide (e ="first"))=true then -1 else 1) S:=by rw[show ah x=true from h];exact q
 rw[Bool.beq_comm]at q;refine bD (λz=>?_) λz=>?_;rw[if_pos<|show(decide (e ="first")==ah x)=true from z]at q;exact{_,rfl,fo q};rw[if_neg λz2=>tf z2<|show(decide (e ="first")==ah x)=false from z]at q;exact fo q;have hy1:ah y=true:=by rcases hn with rfl|rfl;cases h;rfl
 have e1:ah x≠ah y:=by rw[show ah x=false from h,hy1];decide
 rw[wc e1,if_neg zd]at q;unfold cM at q;rw[show ah x=false from h,hy1]at q;refine{_,rfl,_,rfl,_,rfl,?_};dsimp only[dC,XS];refine DL {_,rfl,?_};have q:R (.int<|if (ah x==decide (e ="first"))=true then -1 else 1) S:=by rw[show ah x=false from h];exact q
 rw[Bool.beq_comm]at q;refine bD (λz=>?_) λz=>?_;rw[if_pos<|show(decide (e ="first")==ah x)=true from z]at q;exact{_,rfl,fo q};rw[if_neg λz2=>tf z2<|show(decide (e ="first")==ah x)=false from z]at q;exact fo q
inductive rP (ds:List D) (S:av) (R:KD) (Z:KX):Prop where
 |mk (x y wy e) (h0:ds=[x,y,.str wy,.str e]) (h1:Cm x y) (h2:R (.int<|cV wy e x y) S):rP ds S R Z
theorem oS(T:Txt w K mg t):Ok P w base T.compared 2 rP:=by refine T.compared.F.bX oE ?_;rintro _ _ _ _ _ _ _ S R Z hr ⟨x,y,wy,e,e0,hc,q⟩;subst e0;obtain⟨k,hx,hy⟩:=id hc;refine{_,(sc (si (twd<|twor (bh iO hr.u (dv 0) dn)<|tw1<|bh iO hr.u (dv 1) dn) (s1<|sr<|aG T.cZ (iT T) hr<|ac (dv 0)<|ac (dv 1)<|ac (dv 3) an) s0)<|sc (si (bh bj hr.u (dv 0)<|dv 1) (s1<|sr di) s0)<|sc (cF (i:=4) oE.nd<|cm uY hr.u (dv 0)<|dv 1)<|s1<|sr<|ME (bh bj hr.u (dv 4)<|cm bj hr.u (dv 2) ds) (OQ di) di),?_};have none:∀Zq:KX,x=.ax\/y=.ax->cE [x,y,.str e] S (λd S'=>Fo S'<|R d) Zq:=λ_ hn=>{x,y,wy,e,rfl,hc,hn,fo q};refine{_,rfl,_,rfl,bD (λh=>?_) λh=>{_,rfl,_,rfl,bD (λh2=>?_) λh2=>?_}};exact{_,rfl,_,rfl,_,rfl,none _<|.inl<|dN h};exact{_,rfl,_,rfl,_,rfl,none _<|.inr<|dN h2};clear none;have nx:ah x=false:=h;have ny:ah y=false:=h2;unfold cV at q;refine{_,rfl,_,rfl,yT hx.2 hy.2 {_,rfl,bD (λh3=>?_) λh3=>?_}};have h3:nW x y=true:=h3;rw[if_pos h3]at q;exact fo q;have h3:nW x y=false:=h3;rw[h3,if_neg zd]at q;unfold cM at q;rw[nx,ny]at q;have q:R (.int<|if (s_ x y==decide (wy ="up"))=true then -1 else 1) S:=q;rcases v_ hx hy (bt nx) (bt ny) with⟨i,j,rfl,rfl⟩|⟨i,j,rfl,rfl⟩;refine{_,rfl,_,rfl,_,rfl,_,rfl,?_};dsimp only[dC];refine Nc ?_;refine DL ?_;refine{_,rfl,?_};refine bD (λz=>?_) λz=>?_;rw[if_pos<|show(s_ (.int i) (.int j)==decide (wy ="up"))=true from z]at q;exact{_,rfl,fo q};rw[if_neg λz2=>tf z2<|show(s_ (.int i) (.int j)==decide (wy ="up"))=false from z]at q;exact fo q;refine{_,rfl,_,rfl,_,rfl,_,rfl,?_};dsimp only[dC];refine Nc ?_;refine DL ?_;refine{_,rfl,?_};refine bD (λz=>?_) λz=>?_;rw[if_pos<|show(s_ (.str i) (.str j)==decide (wy ="up"))=true from z]at q;exact{_,rfl,fo q};rw[if_neg λz2=>tf z2<|show(s_ (.str i) (.str j)==decide (wy ="up"))=false from z]at q;exact fo q
noncomputable def pX(ps:List Part)(wy:Str):List (Str×Str):=ps.map Prod.snd++[(wy,("last": Str))]
noncomputable def cj:List (Str×Str)->List D->List D->Int|w::ws,x::xs,y::ys=>(if cV w.1 w.2 x y=0 then cj ws xs ys else cV w.1 w.2 x y)|_,_,_=>0
def PV(ks:List Str)(xs:List D):Prop:=Paired (λk x=>Vg k x) ks xs
theorem rQ:∀{ws:List (Str×Str)}{ks:List Str}{xs ys:List D},ws.length=ks.length->PV ks xs->PV ks ys->(cj ws xs ys=0↔xs=ys)|[],_,_,_,h,.nil,.nil=>by simp[cj]|w::ws,_,_,_,h,.cons (b:=x) a1 a2,.cons (b:=y) b1 b2=>by unfold cj;have c:=mG (w:=w.1) (e:=w.2) {_,a1,b1};by_cases q:cV w.1 w.2 x y=0;rw[if_pos q,rQ (Nat.succ.inj h) a2 b2,c.mp q];simp;rw[if_neg q];exact{λz=>absurd z q,λz=>absurd (c.mpr (List.cons.inj z).1) q}
theorem y4:∀{ws:List (Str×Str)}{ks:List Str}{xs ys:List D},PV ks xs->PV ks ys->(cj ws ys xs<0↔0<cj ws xs ys)|[],_,_,_,_,_=>by simp[cj]|w::ws,_,_,_,.nil,.nil=>by simp[cj]|w::ws,_,_,_,.cons (b:=x) a1 a2,.cons (b:=y) b1 b2=>by unfold cj;have c:=mG (w:=w.1) (e:=w.2) {_,a1,b1};have c':=mG (w:=w.1) (e:=w.2) {_,b1,a1};by_cases q:x=y;rw[if_pos<|c.mpr q,if_pos<|c'.mpr q.symm];exact y4 a2 b2;rw[if_neg λz=>q<|c.mp z,if_neg λz=>q (c'.mp z).symm];exact LW {_,a1,b1}
theorem Je:∀{ws:List (Str×Str)}{ks:List Str}{xs ys zs:List D},PV ks xs->PV ks ys->PV ks zs->cj ws xs ys<0->cj ws ys zs<0->cj ws xs zs<0|[],_,_,_,_,_,_,_,h,_=>by simp[cj]at h|w::ws,_,_,_,_,.nil,.nil,.nil,h,_=>by simp[cj]at h|w::ws,_,_,_,_,.cons (b:=x) a1 a2,.cons (b:=y) b1 b2,.cons (b:=z) c1 c2,h1,h2=>by unfold cj at h1 h2⊢;have e1:=mG (w:=w.1) (e:=w.2) {_,a1,b1};have e2:=mG (w:=w.1) (e:=w.2) {_,b1,c1};have e3:=mG (w:=w.1) (e:=w.2) {_,a1,c1};by_cases q1:x=y;subst q1;rw[if_pos<|e1.mpr rfl]at h1;by_cases q2:x=z;subst q2;rw[if_pos<|e2.mpr rfl]at h2⊢;exact Je a2 b2 c2 h1 h2;rw[if_neg λz=>q2<|e2.mp z]at h2⊢;exact h2;rw[if_neg λz=>q1<|e1.mp z]at h1;by_cases q2:y=z;subst q2;rw[if_neg λz=>q1<|e3.mp z];exact h1;rw[if_neg λz=>q2<|e2.mp z]at h2;obtain⟨q3,l3⟩:=LJ (p:=("",w.1,w.2)) a1 b1 c1 q1 q2 ((uz {_,a1,b1}).mp h1).2 ((uz {_,b1,c1}).mp h2).2;rw[if_neg λz=>q3<|e3.mp z];exact(uz {_,a1,c1}).mpr ⟨q3,l3⟩
noncomputable def Ah(cs:List<|Str×Str)(z:Str):Str:=((cs[LH cs z]?).map Prod.snd).getD "word"
noncomputable def Wk(cs:List<|Str×Str)(ps:List Part):List Str:=ps.map (λp=>Ah cs p.1)++[("word": Str)]
noncomputable def oU(cs:List<|Str×Str)(ps:List Part)(r:Row):List D:=ps.map (λp=>ao cs r.2 p.1)++[.str r.1]
theorem oV:∀z∈KS,Vg "word" (.str z):=by
 have h:∀z∈KS,(uj z&&cQ (.str z))=true:=by trivial
 exact λz hz=>let q:=Bool.and_eq_true_iff.mp<|h z hz;⟨q.1,q.2⟩
theorem lj:∀{l:List α}{m:List β}{l':List α}{m':List β},Paired r l m->Paired r l' m'->Paired r (l++l') (m++m')|_,_,_,_,.nil,h=>h|_,_,_,_,.cons a t,h=>.cons a<|lj t h
theorem B4(hg:Gd cs)(hp:Pin cs ps)(hw:Wg cs ws):Paired (λk x=>Vg k x) (ps.map λp=>Ah cs p.1) (ps.map λp=>ao cs ws p.1):=by induction ps with|nil=>exact .nil|cons p ps ih=>refine .cons ?_<|ih hp.tail;obtain⟨c,hc,e⟩:=hp p zp;show Vg (Ah cs p.1) (ao cs ws p.1);unfold Ah;rw[<-e,(rL hg hc).1];exact(pV hg hw hc).2
theorem n6(hg:Gd cs)(hp:Pin cs ps)(hw:Wg cs r.2)(hk:r.1∈KS):PV (Wk cs ps) (oU cs ps r):=lj (B4 hg hp hw)<|.cons (oV _ hk) .nil
theorem DZ(hg:Gd cs){wy:Str}(ha:Wg cs a.2)(hb:Wg cs b.2)(ka:a.1∈KS)(kb:b.1∈KS)(n:a.1≠b.1):∀{ps:List Part},Pin cs ps->(cJ cs wy ps a b=true↔cj (pX ps wy) (oU cs ps a) (oU cs ps b)<0)|[],_=>(by show(tQ a.1 b.1==decide (wy ="up"))=true↔(if cV wy "last" (.str a.1) (.str b.1)=0 then 0 else cV wy "last" (.str a.1) (.str b.1))<0;have n':(.str a.1:D)≠.str b.1:=λe=>n<|D.str.inj e;rw[if_neg λz=>n'<|(mG {_,oV _ ka,oV _ kb}).mp z,uz {_,oV _ ka,oV _ kb}];exact{λh=>⟨n',h⟩,λh=>h.2})|p::ps,hp=>by obtain⟨k,hk⟩:=wb hg hp;have va:=hk _ ha;have vb:=hk _ hb;show(if nW (ao cs a.2 p.1) (ao cs b.2 p.1)=true then cJ cs wy ps a b else cM p (ao cs a.2 p.1) (ao cs b.2 p.1))=true↔(if cV p.2.1 p.2.2 (ao cs a.2 p.1) (ao cs b.2 p.1)=0 then cj (pX ps wy) (oU cs ps a) (oU cs ps b) else cV p.2.1 p.2.2 (ao cs a.2 p.1) (ao cs b.2 p.1))<0;by_cases q:ao cs a.2 p.1=ao cs b.2 p.1;rw[if_pos<|(cw va.2 vb.2).mpr q,if_pos<|(mG {_,va,vb}).mpr q];exact DZ hg ha hb ka kb n hp.tail;rw[if_neg λz=>q<|(cw va.2 vb.2).mp z,if_neg λz=>q<|(mG {_,va,vb}).mp z,uz {_,va,vb}];exact{λh=>⟨q,h⟩,λh=>h.2}
noncomputable def U5(ws:List<|Str×Str)(g:List D)(sd:Str)(x:List D):Bool:=decide (cj ws x g<0)||(decide (cj ws x g=0)&&decide (sd ="behind"))
theorem U6{ws:List<|Str×Str}{ks:List Str}{g x y:List D}{sd:Str}(hl:ws.length=ks.length)(hx:PV ks x)(hy:PV ks y)(hg:PV ks g)(h:cj ws x y<0)(q:U5 ws g sd y=true):U5 ws g sd x=true:=by unfold U5 at q⊢;simp only[Bool.or_eq_true,zL,yb]at q⊢;rcases q with q|⟨q,_⟩;exact .inl<|Je hx hy hg h q;rw[<-(rQ hl hy hg).mp q];exact .inl h
theorem B5:∀{l:List α},(l.Pairwise λa b=>g b=true->g a=true)->∀{i:Nat}{a:α},l[i]?=some a->(g a=true↔i<l.countP g)
 |[],_,i,a,h=>by simp at h
 |x::l,hp,i,a,h=>by
  obtain⟨h1,h2⟩:=List.pairwise_cons.mp hp;rw[List.countP_cons];by_cases q:g x=true;rw[if_pos q];cases i with|zero=>(cases h;simp[q])|succ i=>rw[B5 h2<|show l[i]?=some a from h];lia
  have z:l.countP g=0:=List.countP_eq_zero.mpr λb hb e=>q<|h1 b hb e;rw[if_neg q,z];have:g a≠true:=by cases i with|zero=>(cases h;exact q)|succ i=>exact λe=>q<|h1 a (zx h) e
  simp[this]
theorem B6{α:Type}{g:α->Bool}{l:List α}(hp:l.Pairwise λa b=>g b=true->g a=true){n:Nat}(hn:n<=l.length)(h1:∀i a,i<n->l[i]?=some a->g a=true)(h2:∀i a,n<=i->l[i]?=some a->g a=false):n=l.countP g:=by
 have hc:l.countP g<=l.length:=List.countP_le_length;rcases Nat.lt_trichotomy n (l.countP g) with h|h|h;have hi:n<l.length:=by lia
 have e:=zg hi;have:=(B5 hp e).mpr h;rw[h2 n _ (zk _) e]at this;cases this;exact h;have hi:l.countP g<l.length:=by lia
 have e:=zg hi;have:=(B5 hp e).mp<|h1 _ _ h e;lia
noncomputable def JH(xs:List D)(k:Str):D:=.tup [.tup xs,.str k]
abbrev y6:=List D×Str×Str
noncomputable def tj(g:y6):D:=.tup [JH g.1 g.2.1,.str g.2.2]
noncomputable def FR:Option y6->D|none=>.ax|some g=>tj g
noncomputable def uA(z:Str):Bool:=decide (z ="ahead")||decide (z ="behind")
structure Gp(cs:List (Str×Str))(ps:List Part)(g:y6):Prop where
 pv:Paired (λk x=>Vg k x) (ps.map λp=>Ah cs p.1) g.1
 key:g.2.1∈KS
 side:uA g.2.2=true
def Bg(cs:List<|Str×Str)(ps:List Part)(b:Option y6):Prop:=∀g,b=some g->Gp cs ps g
noncomputable def U7(g:y6):List D:=g.1++[.str g.2.1]
theorem Gp.vs(h:Gp cs ps g):PV (Wk cs ps) (U7 g):=lj h.pv<|.cons (oV _ h.key) .nil
theorem Gp.len(h:Gp cs ps g):g.1.length=ps.length:=by have:=yD h.pv;rw[zc]at this;exact this.symm
theorem Og.len(h:Og cs ps wy):ps.length<=8:=by have:=h.ok;unfold yP at this;simp only[zL,yb]at this;exact this.1
theorem B8(hg:Gd cs)(hc:c∈cs):c.1.cps.size<=1000:=by have h:=(hg.2.2 c hc).1;unfold kz at h;simp only[zL,yb]at h;lia
inductive uB (ds:List D) (S:av) (R:KD) (Z:KX):Prop where
 |mk (z) (h0:ds=[.str z]) (h1:R (.bl<|uA z) S):uB ds S R Z
theorem B9(T:Txt w K mg t):Ok P w base T.vB 1 uB:=by refine T.vB.F.bX BE ?_;rintro _ _ _ _ _ _ _ S R Z hr ⟨z,e,q⟩;subst e;refine{_,(s1<|sr<|qA (cb cK T.aw aq<|ac (dv 0)<|ac (r9 T.l9 g_) an)<|Hi<|Ym T.vn (dv 0)<|dg (v:=.ref t.hX) T.sP rfl λ_=>fi _),?_};refine{_,rfl,_,_,_,_,rfl,cG,rfl,_,rfl,cN {_,rfl,z,rfl,rfl,?_}};rw[IG];exact fo q
inductive fM (ds:List D) (S:av) (R:KD) (Z:KX):Prop where
 |mk (cs ps xs) (h0:ds=[.tup<|cs.map aA,.tup<|ps.map p3,.tup xs]) (h1:Gd cs) (h2:Pin cs ps) (h3:ps.length<=8) (h4:Paired (λk x=>Vg k x) (ps.map λp=>Ah cs p.1) xs) (h5:R (.bl true) S):fM ds S R Z
theorem j8(T:Txt w K mg t):Ok P w base T.ee 4 fM:=by
 refine T.ee.F.bX jZ ?_;rintro _ _ _ _ _ _ _ S R Z hr ⟨cs,ps,xs,e,hg,hp,h8,hv,q⟩;subst e;have hl:xs.length=ps.length:=by have:=yD hv;rw[zc]at this;exact this.symm
 have UP:(ps.map p3).length=ps.length:=zc _;refine{_,(sc (si (twd<|twor (cz<|tv<|cb cK T.aw aq<|ac (dv 2)<|ac (r9 T.bp aS) an)<|tw1<|bh lU hr.u (cb aY T.aV aJ<|ac (dv 2) an)<|cb aY T.aV aJ<|ac (dv 1) an) (s1<|sr db) s0)<|s1<|sr<|cb ko T.ku gv<|ac (tZ (N:=["part","value","columns"]) (src:=[none,none,some 0]) (lF (ae kO) ["columns","parts","thing"] rfl rfl<|by trivial) (YU T.Dj<|ac (dv 1)<|ac (dv 2) an) (VV<|show(["part","value","columns"]:List Str).Nodup by trivial) (pO rfl rfl) pQ (λ_ _ _ _ _=>sM) λ_ _ _ _ _=>(aG T.jm (jy T) hr<|ac (aG T.d_ (gC T) hr<|ac (dv 2)<|ac (ix hr.u (dv 0) di) an)<|ac (dv 1) an)) an),?_};refine{_,rfl,_,_,_,_,rfl,aT,rfl,_,rfl,bb {_,rfl,_,rfl,_,rfl,_,rfl,_,rfl,bI (by rw[hl,UP];simp) ?_}};refine{_,rfl,_,rfl,_,_,rfl,by rw[hl,UP],?_};refine comp_map (λ_=>.bl true) trivial (by show(br _ _).length<=_;unfold br;rw[List.length_zipWith];lia) (λd hd Q hQ=>?_) λp nR=>?_;have hd:d∈br (ps.map p3) xs:=hd;unfold br at hd;obtain⟨i,ei⟩:=List.getElem?_of_mem hd;obtain⟨x,y,e2,e3,e4⟩:=List.getElem?_zipWith_eq_some.mp ei;subst e4;rw[zq]at e2;cases e5:ps[i]? with|none=>(rw[e5]at e2;cases e2)|some pt=>rw[e5]at e2;cases e2;obtain⟨c,hc,ec⟩:=hp pt<|zx e5;obtain⟨k,ek,hk⟩:=dq hv e3;rw[zq,e5]at ek;cases ek;have hk:Vg (Ah cs pt.1) y:=hk;unfold Ah at hk;rw[<-ec,(rL hg hc).1]at hk;have hk:Vg c.2 y:=hk;refine{_,rfl,rfl,_,_,rfl,_,_,rfl,rfl,_,rfl,_,rfl,_,rfl,cs,pt.1,rfl,hg,by rw[<-ec];exact B8 hg hc,λk' AK=>?_,λhn=>absurd (zh.mpr ⟨c,hc,ec⟩) hn};have e6:k'=c.2:=(by have:=gk (f:=Prod.fst) hg.2.1 AK hc ec.symm;rw[<-this]);rw[e6];refine{_,rfl,c.2,y,rfl,M6 hk,?_};rw[hk.1];exact hQ
 have e2:(br (ps.map p3) xs).map (λ_=>D.bl true)=((br (ps.map p3) xs).map λ_=>true).map D.bl:=by rw[zA];rfl
 have e3:((br (ps.map p3) xs).map λ_=>true).all id=true:=by rw[all_map];exact yh.mpr λ_ _=>rfl
 refine{.ref p,(br (ps.map p3) xs).map λ_=>true,rfl,?_,?_};show(S.set p<|.lst<|(br (ps.map p3) xs).map _) p=_;rw[aa,e2];rw[e3];exact{S,.new nR,q}
inductive kE (ds:List D) (S:av) (R:KD) (Z:KX):Prop where
 |mk (cs ps wy xs k) (h0:ds=[.tup<|cs.map aA,dP ps wy,JH xs k]) (h1:Gd cs) (h2:Pin cs ps) (h3:ps.length<=8) (h4:Paired (λk x=>Vg k x) (ps.map λp=>Ah cs p.1) xs) (h5:k∈KS) (h6:R .ax S):kE ds S R Z
theorem rR(T:Txt w K mg t):Ok P w base T.jo 5 kE:=by refine T.jo.F.bX q9 ?_;rintro _ _ _ _ _ _ _ S R Z hr ⟨cs,ps,wy,xs,k,e,hg,hp,h8,hv,hk,q⟩;subst e;refine{_,(sc (si (twd<|twor (cz<|tv<|cb cK T.aw aq<|ac (dv 2)<|ac (r9 T.bp aS) an)<|tw1<|bh lU hr.u (cb aY T.aV aJ<|ac (dv 2) an) di) (s1<|qE ⟨T.cY⟩ T.eI<|ac ds an) s0)<|sc (si (cz<|tv<|aG T.ee (j8 T) hr<|ac (dv 0)<|ac (ix hr.u (dv 1) di)<|ac (ix hr.u (dv 2) di) an) (s1<|qE ⟨T.cY⟩ T.eI<|ac ds an) s0)<|s1<|si (cz<|tv<|aG T.kW (gU T) hr<|ac (ix hr.u (dv 2) di) an) (s1<|qE ⟨T.cY⟩ T.eI<|ac ds an) s0),?_};refine{_,rfl,_,_,_,_,rfl,aT,rfl,_,rfl,bb {_,rfl,_,rfl,_,rfl,bb ?_}};refine{_,rfl,_,rfl,_,rfl,_,rfl,_,rfl,cs,ps,xs,rfl,hg,hp,h8,hv,_,rfl,bb ?_};refine{_,rfl,_,rfl,.str k,rfl,DV hk,_,rfl,?_};rw[show ofStr j5 (.str k)=true from(eR k hk).1];exact bb<|fo q
inductive oW (ds:List D) (S:av) (R:KD) (Z:KX):Prop where
 |mk (cs ps wy g) (h0:ds=[.tup<|cs.map aA,dP ps wy,tj g]) (h1:Gd cs) (h2:Pin cs ps) (h3:ps.length<=8) (h4:Gp cs ps g) (h5:R .ax S):oW ds S R Z
theorem we(T:Txt w K mg t):Ok P w base T.nB 6 oW:=by refine T.nB.F.bX vK ?_;rintro _ _ _ _ _ _ _ S R Z hr ⟨cs,ps,wy,g,e,hg,hp,h8,hv,q⟩;subst e;refine{_,(sc (si (twd<|twor (cz<|tv<|cb cK T.aw aq<|ac (dv 2)<|ac (r9 T.bp aS) an)<|tw1<|bh lU hr.u (cb aY T.aV aJ<|ac (dv 2) an) di) (s1<|qE ⟨T.cY⟩ T.eI<|ac ds an) s0)<|sc (se<|aG T.jo (rR T) hr<|ac (dv 0)<|ac (dv 1)<|ac (ix hr.u (dv 2) di) an)<|s1<|si (cz<|tv<|aG T.vB (B9 T) hr<|ac (ix hr.u (dv 2) di) an) (s1<|qE ⟨T.cY⟩ T.eI<|ac ds an) s0),?_};refine{_,rfl,_,_,_,_,rfl,aT,rfl,_,rfl,bb {_,rfl,_,rfl,_,rfl,bb ?_}};refine{_,rfl,_,rfl,_,rfl,_,rfl,cs,ps,wy,g.1,g.2.1,rfl,hg,hp,h8,hv.pv,hv.key,?_};refine{_,rfl,_,rfl,g.2.2,rfl,_,rfl,?_};rw[hv.side];exact bb<|fo q
inductive kF (ds:List D) (S:av) (R:KD) (Z:KX):Prop where
 |mk (cs ps wy b) (h0:ds=[.tup<|cs.map aA,dP ps wy,FR b]) (h1:Gd cs) (h2:Pin cs ps) (h3:ps.length<=8) (h4:Bg cs ps b) (h5:R .ax S):kF ds S R Z
theorem fN(T:Txt w K mg t):Ok P w base T.eK 7 kF:=by refine T.eK.F.bX q_ ?_;rintro _ _ _ _ _ _ _ S R Z hr ⟨cs,ps,wy,b,e,hg,hp,h8,hv,q⟩;subst e;refine{_,(s1<|si (bh mZ hr.u (dv 2) dn) (s1<|se<|aG T.nB (we T) hr<|ac (dv 0)<|ac (dv 1)<|ac (dv 2) an) s0),?_};cases b with|none=>exact{_,rfl,_,rfl,bb<|fo q}|some g=>exact{_,rfl,_,rfl,cN {_,rfl,_,rfl,_,rfl,cs,ps,wy,g,rfl,hg,hp,h8,hv g rfl,fo q}}
inductive mH (ds:List D) (S:av) (R:KD) (Z:KX):Prop where
 |mk (n:Int) (h0:ds=[.int n]) (h1:1<=n) (h2:n<=1000) (h3:R .ax S):mH ds S R Z
theorem tm(T:Txt w K mg t):Ok P w base T.k7 2 mH:=by refine T.k7.F.bX sU ?_;rintro _ _ _ _ _ _ _ S R Z hr ⟨n,e,h1,h2,q⟩;subst e;refine{_,(s1<|si (twd<|twor (cz<|tv<|aG T.jl (jx T) hr<|ac (dv 0) an)<|tw1<|cz<|VL i9 i9 hr.u di (dv 0)<|dg (v:=.int 1000) T.vj {_,rfl} λ_=>aL _) (s1<|qE ⟨T.nu⟩ T.Bw<|ac ds an) s0),?_};refine{_,rfl,.int n,rfl,gt_int,_,rfl,bb {_,rfl,_,rfl,rH (zr h1) {_,rfl,?_}}};exact bI (by show(!decide (n<=1000))=false;rw[zr h2];rfl)<|fo q
inductive mI (ds:List D) (S:av) (R:KD) (Z:KX):Prop where
 |mk (cs ps wy d n b) (h0:ds=[.tup<|cs.map aA,dP ps wy,d,.int n,FR b]) (h1:Gd cs) (h2:Og cs ps wy) (h3:Sg cs 4 d) (h4:1<=n) (h5:n<=1000) (h6:Bg cs ps b) (h7:R .ax S):mI ds S R Z
theorem kG(T:Txt w K mg t):Ok P w base T.ie 8 mI:=by refine T.ie.F.bX sT ?_;rintro _ _ _ _ _ _ _ S R Z hr ⟨cs,ps,wy,d,n,b,e,hg,ho,hd,h1,h2,hv,q⟩;subst e;refine{_,(sc (se<|aG T.eJ (fK T) hr<|ac (dv 0)<|ac (dv 1) an)<|sc (se<|aG T.dh (dM T) hr<|ac (dv 0)<|ac (dv 2) an)<|sc (se<|aG T.k7 (tm T) hr<|ac (dv 3) an)<|s1<|se<|aG T.eK (fN T) hr<|ac (dv 0)<|ac (dv 1)<|ac (dv 4) an),?_};refine{_,rfl,_,rfl,cs,ps,wy,rfl,hg,ho.tx,λ_=>?_,λz=>tf ho.ok z};refine{_,rfl,_,rfl,cs,d,rfl,hg,hd,_,rfl,n,rfl,h1,h2,?_};exact{_,rfl,_,rfl,_,rfl,cs,ps,wy,b,rfl,hg,ho.pin,ho.len,hv,fo q}
structure An(cs:List (Str×Str))(ps:List Part)(wy:Str)(A:List Row):Prop where
 rg:Rg cs A
 ky:∀r∈A,r.1∈KS
 pw:A.Pairwise λa b=>cJ cs wy ps a b=true
noncomputable def gP(cs:List<|Str×Str)(ps:List Part)(wy:Str)(g:y6)(r:Row):Bool:=U5 (pX ps wy) (U7 g) g.2.2<|oU cs ps r
theorem D2:(pX ps wy).length=(Wk cs ps).length:=by unfold pX Wk;simp
theorem An.lex(hg:Gd cs)(hp:Pin cs ps)(h:An cs ps wy A):A.Pairwise λa b=>cj (pX ps wy) (oU cs ps a) (oU cs ps b)<0:=by have nd:A.Pairwise λa b=>a.1≠b.1:=List.pairwise_map.mp h.rg.2;refine(h.pw.and nd).imp_of_mem λ{a b} ha hb q=>?_;exact(DZ hg (h.rg.1 a ha) (h.rg.1 b hb) (h.ky a ha) (h.ky b hb) q.2 hp).mp q.1
theorem An.mono(hg:Gd cs)(hp:Pin cs ps)(h:An cs ps wy A)(hv:Gp cs ps g):A.Pairwise λa b=>gP cs ps wy g b=true->gP cs ps wy g a=true:=by refine(h.lex hg hp).imp_of_mem λ{a b} ha hb q=>?_;exact U6 D2 (n6 hg hp (h.rg.1 a ha)<|h.ky a ha) (n6 hg hp (h.rg.1 b hb)<|h.ky b hb) hv.vs q
inductive rS (ds:List D) (S:av) (R:KD) (Z:KX):Prop where
 |mk (cs ps wy r) (h0:ds=[.tup<|cs.map aA,dP ps wy,ak r]) (h1:Gd cs) (h2:Pin cs ps) (h3:ps.length<=8) (h4:Wg cs r.2) (h5:R (JH (ps.map λp=>ao cs r.2 p.1) r.1) S):rS ds S R Z
theorem jF(T:Txt w K mg t):Ok P w base T.jq 3 rS:=by
 refine T.jq.F.bX oF ?_;rintro _ _ _ _ _ _ _ S R Z hr ⟨cs,ps,wy,r,e,hg,hp,h8,hw,q⟩;subst e;refine{_,(sc (QT (i:=3) (N:=["part","columns","row"]) (src:=[none,some 0,some 2]) oF.nd (lF (ae Br) ["columns","order","row","values"] rfl rfl<|by trivial) (Hx<|ix hr.u (dv 1) di) (r_<|show(["part","columns","row"]:List Str).Nodup by trivial) (aZ rfl) a_ (λ_ _ _ _ _=>sM) λ_ _ _ _ _=>(aG T.ck (dm T) hr<|ac (dv 1)<|ac (dv 2)<|ac (ix hr.u (dv 0) di) an))<|s1<|sr<|bP<|ac (ct fX T.bp aS<|ac (dv 3) an)<|ac (ix hr.u (dv 2) di) an),?_};refine{_,rfl,_,rfl,_,.inl rfl,?_};refine comp_map (λd=>match d with|.tup (.str z::_)=>ao cs r.2 z|_=>.ax) trivial (by show(ps.map p3).length<=_;rw[zc];lia) (λd hd Q hQ=>?_) λp nR=>?_;obtain⟨pt,U8,rfl⟩:=zh.mp hd;obtain⟨c,hc,ec⟩:=hp pt U8;refine{_,rfl,_,rfl,_,rfl,_,rfl,cs,r,c,(by rw[ec];rfl),hg,hw,hc,?_};rw[ec];exact hQ;have e3:(ps.map p3).map (λd=>match d with|.tup (.str z::_)=>ao cs r.2 z|_=>.ax)=ps.map λp=>ao cs r.2 p.1:=by rw[zA];rfl
 rw[show({ps.map p3,λ_=>True}:Hw).xs=ps.map p3 from rfl,e3];exact{_,rfl,_,_,rfl,.inl aa,_,rfl,_,rfl,bW,S,.new nR,q}
inductive gq (ds:List D) (S:av) (R:KD) (Z:KX):Prop where
 |mk (ps:List Part) (wy:Str) (xs:List D) (k:Str) (ys:List D) (l:Str) (ks:List Str) (h0:ds=[dP ps wy,JH xs k,JH ys l]) (h1:ps.length=xs.length) (h2:ps.length=ys.length) (h3:Paired (λk x=>Vg k x) ks xs) (h4:Paired (λk x=>Vg k x) ks ys) (h5:k∈KS) (h6:l∈KS) (h7:R (.int<|cj (pX ps wy) (xs++[.str k])<|ys++[.str l]) S):gq ds S R Z
theorem lA(T:Txt w K mg t):Ok P w base T.eP 3 gq:=by refine T.eP.F.bX bx ?_;rintro _ _ _ _ _ _ _ S R Z hr ⟨ps,wy,xs,k,ys,l,ks,e,h1,h2,vx,vy,hk,hl,q⟩;subst e;refine{_,(sc (xq<|Hy (YV T.Dj<|ac (ix hr.u (dv 0) di)<|ac (ix hr.u (dv 1) di)<|ac (ix hr.u (dv 2) di) an) (gt (n:=3)<|gc (gn (i:=3) bx.nd)<|gc (gn (i:=4) bx.nd)<|gc (gn (i:=5) bx.nd) g0)<|sc (cF (i:=6) bx.nd<|aG T.compared (oS T) hr<|ac (dv 4)<|ac (dv 5)<|ac (ix hr.u (dv 3) di)<|ac (ix hr.u (dv 3) di) an)<|s1<|si (bh lU hr.u (dv 6) di) (s1<|sr<|dv 6) s0)<|s1<|sr<|aG T.compared (oS T) hr<|ac (ix hr.u (dv 1) di)<|ac (ix hr.u (dv 2) di)<|ac (ix hr.u (dv 0) di)<|ac ds an),?_};refine{λaC S'=>∃(o3 o4 o5 o6:Option D),aC=[some<|dP ps wy,some<|JH xs k,some<|JH ys l,o3,o4,o5,o6]/\S'=S/\cj (pX ps wy) (xs++[.str k]) (ys++[.str l])=cV wy "last" (.str k) (.str l),?_,?_};{refine{_,rfl,_,rfl,_,rfl,_,rfl,_,rfl,_,rfl,_,_,_,rfl,by rw[zc];exact h1,by rw[zc];exact h2,?_};refine{λi aC S'=>∃(o3 o4 o5 o6:Option D),aC=[some<|dP ps wy,some<|JH xs k,some<|JH ys l,o3,o4,o5,o6]/\S'=S/\cj (pX ps wy) (xs++[.str k]) (ys++[.str l])=cj (pX (ps.drop i) wy) (xs.drop i++[.str k]) (ys.drop i++[.str l]),{_,_,_,_,rfl,rfl,rfl},λ_ _ _ _=>trivial,?_,?_};rintro i d aC S' hd ⟨o3,o4,o5,o6,rfl,rfl,he⟩;obtain⟨x,y,z,e1,e2,e3,rfl⟩:=ng hd;rw[zq]at e1;(cases e5:ps[i]? with|none=>(rw[e5]at e1;cases e1)|some p=>rw[e5]at e1;cases e1;obtain⟨i1,g1⟩:=ze.mp e5;obtain⟨i2,g2⟩:=ze.mp e2;obtain⟨i3,g3⟩:=ze.mp e3;rw[List.drop_eq_getElem_cons i1,List.drop_eq_getElem_cons i2,List.drop_eq_getElem_cons i3,g1,g2,g3]at he;have he:_=if cV p.2.1 p.2.2 y z=0 then cj (pX (ps.drop<|i+1) wy) (xs.drop (i+1)++[.str k]) (ys.drop (i+1)++[.str l]) else cV p.2.1 p.2.2 y z:=he;obtain⟨k1,q1,v1⟩:=dq vx e2;obtain⟨k2,q2,v2⟩:=dq vy e3;cases q1.symm.trans q2;refine{_,rfl,rfl,_,_,rfl,_,_,rfl,_,_,rfl,rfl,?_};refine{_,rfl,_,rfl,_,rfl,_,rfl,_,rfl,_,rfl,y,z,p.2.1,p.2.2,rfl,⟨k1,v1,v2⟩,_,rfl,_,rfl,bD (λh=>?_) λh=>?_};have h:(!decide (cV p.2.1 p.2.2 y z=0))=true:=h;rw[if_neg<|zM<|nt h]at he;rw[he]at q;exact{_,rfl,fo q};have h:(!decide (cV p.2.1 p.2.2 y z=0))=false:=h;rw[if_pos<|zC<|nf h]at he;exact{_,_,_,_,rfl,rfl,he});{rintro aC S' ⟨o3,o4,o5,o6,rfl,rfl,he⟩;have he:_=cj (pX (ps.drop (jb (ps.map p3) xs ys).length) wy) (xs.drop (jb (ps.map p3) xs ys).length++[.str k]) (ys.drop (jb (ps.map p3) xs ys).length++[.str l]):=he;rw[m_ (by rw[zc];exact h1)<|by rw[zc];exact h2,zc,List.drop_length,h1,List.drop_length,<-h1,h2,List.drop_length]at he;refine fo {o3,o4,o5,o6,rfl,rfl,he.trans ?_};show(if cV wy "last" (.str k) (.str l)=0 then 0 else cV wy "last" (.str k) (.str l))=_;split;{next h=>exact h.symm};rfl}};rintro aC S' ⟨o3,o4,o5,o6,rfl,rfl,he⟩;rw[he]at q;exact{_,rfl,_,rfl,_,rfl,_,rfl,_,rfl,_,rfl,_,_,_,_,rfl,{_,oV k hk,oV l hl},fo q}
inductive rT (ds:List D) (S:av) (R:KD) (Z:KX):Prop where
 |mk (cs ps wy r g) (h0:ds=[dP ps wy,JH (ps.map λp=>ao cs r.2 p.1) r.1,tj g]) (h1:Gd cs) (h2:Pin cs ps) (h3:Wg cs r.2) (h4:r.1∈KS) (h5:Gp cs ps g) (h6:R (.bl<|gP cs ps wy g r) S):rT ds S R Z
theorem y7(T:Txt w K mg t):Ok P w base T.qX 4 rT:=by refine T.qX.F.bX oG ?_;rintro _ _ _ _ _ _ _ S R Z hr ⟨cs,ps,wy,r,g,e,hg,hp,hw,hk,hv,q⟩;subst e;refine{_,(sc (cF (i:=3) oG.nd<|aG T.eP (lA T) hr<|ac (dv 0)<|ac (dv 1)<|ac (ix hr.u (dv 2) di) an)<|sc (si (bh bj hr.u (dv 3) di) (s1<|sr<|cm bj hr.u (ix hr.u (dv 2) di) ds) s0)<|s1<|sr<|cm uY hr.u (dv 3) di),?_};refine{_,rfl,_,rfl,_,rfl,_,rfl,ps,wy,_,r.1,g.1,g.2.1,_,rfl,by rw[zc],hv.len.symm,B4 hg hp hw,hv.pv,hk,hv.key,_,rfl,_,rfl,?_};unfold gP U5 at q;change R (.bl<|decide (cj (pX ps wy) ((ps.map λp=>ao cs r.2 p.1)++[.str r.1]) (g.1++[.str g.2.1])<0)||decide (cj (pX ps wy) ((ps.map λp=>ao cs r.2 p.1)++[.str r.1]) (g.1++[.str g.2.1])=0)&&decide (g.2.2 ="behind")) S at q;generalize cj (pX ps wy) _ _=n at q⊢;refine bD (λh=>?_) λh=>?_;have h:n=0:=zC h;subst h;exact{_,rfl,_,rfl,fo q};have h:¬n=0:=zM h;rw[zo h,zR,Bool.or_false]at q;exact{_,rfl,fo q}
inductive kH (ds:List D) (S:av) (R:KD) (Z:KX):Prop where
 |mk (cs ps wy A l g) (h0:ds=[.tup<|cs.map aA,dP ps wy,.ref l,tj g]) (h1:Gd cs) (h2:Pin cs ps) (h3:ps.length<=8) (h4:S l=some (.lst<|A.map ak)) (h5:An cs ps wy A) (h6:Gp cs ps g) (h7:R (.int ((A.countP (gP cs ps wy g):Nat):Int)) S):kH ds S R Z
theorem dQ(T:Txt w K mg t):Ok P w base T.dj 5 kH:=by
 refine T.dj.F.bX bT ?_;rintro _ _ _ _ _ _ _ S R Z hr ⟨cs,ps,wy,A,l,g,e,hg,hp,h8,hl,hA,hv,q⟩;subst e;refine{_,(sc (cF (i:=4) bT.nd di)<|sc (cF (i:=5) bT.nd<|cb aY T.aV aJ<|ac (dv 2) an)<|sc (xq<|swh (bh uY hr.u (dv 4)<|dv 5)<|sc (cF (i:=6) bT.nd<|bo uX hr.u (bo bu hr.u (dv 4)<|dv 5) di)<|s1<|si (tv<|aG T.qX (y7 T) hr<|ac (dv 1)<|ac (aG T.jq (jF T) hr<|ac (dv 0)<|ac (dv 1)<|ac (ix hr.u (dv 2)<|dv 6) an)<|ac (dv 3) an) (s1<|cF (i:=4) bT.nd<|bo bu hr.u (dv 6) di)<|s1<|cF (i:=5) bT.nd<|dv 6)<|s1<|sr<|dv 4),?_};refine{_,rfl,_,rfl,.inl {_,hl,?_}};rw[zc];refine{λaC S'=>∃(o6:Option D),aC=[some<|.tup<|cs.map aA,some<|dP ps wy,some<|.ref l,some<|tj g,some<|.int ((A.countP (gP cs ps wy g):Nat):Int),some<|.int ((A.countP (gP cs ps wy g):Nat):Int),o6]/\S'=S,?_,?_};refine{λm aC S'=>∃(lo hi:Nat)(o6:Option D),aC=[some<|.tup<|cs.map aA,some<|dP ps wy,some<|.ref l,some<|tj g,some<|.int (lo:Nat),some<|.int (hi:Nat),o6]/\S'=S/\m=hi-lo/\lo<=hi/\hi<=A.length/\(∀i a,i<lo->A[i]?=some a->gP cs ps wy g a=true)/\(∀i a,hi<=i->A[i]?=some a->gP cs ps wy g a=false),{_,0,A.length,none,rfl,rfl,rfl,zU _,zk _,λi a h=>absurd h<|Nat.not_lt_zero _,λi a h e=>?_},?_};rw[List.getElem?_eq_none h]at e;cases e;rintro m aC S' ⟨lo,hi,o6,rfl,rfl,rfl,h1,h2,b1,b2⟩;refine{_,rfl,_,rfl,_,rfl,bD (λh=>?_) λh=>?_};have h:lo<hi:=by have:=zC h;lia
 have hm:(lo+hi)/2<A.length:=by lia
 have em:=zg hm;generalize A[(lo+hi)/2]=r at em;have xY:=zx em;have ed:(((lo:Nat):Int)+((hi:Nat):Int))/2=(((lo+hi)/2:Nat):Int):=by lia
 have mono:=hA.mono hg hp hv;refine{_,rfl,_,rfl,{by decide,by decide},?_};rw[ed];refine{_,rfl,_,rfl,_,rfl,_,rfl,_,rfl,_,ak r,hl,dw<|by rw[zq,em];rfl,cs,ps,wy,r,rfl,hg,hp,h8,hA.rg.1 r xY,_,rfl,cs,ps,wy,r,g,rfl,hg,hp,hA.rg.1 r xY,hA.ky r xY,hv,_,rfl,bD (λz=>?_) λz=>?_};refine{_,rfl,hi-((lo+hi)/2+1),by lia,(lo+hi)/2+1,hi,_,rfl,rfl,rfl,by lia,h2,λi a TN ei=>?_,b2};rcases Nat.lt_or_ge i ((lo+hi)/2) with dW|V0;exact List.pairwise_iff_getElem.mp mono i _ (ze.mp ei).1 hm dW |> λk=>by rw[(ze.mp ei).2,(ze.mp em).2]at k;exact k z
 have:i=(lo+hi)/2:=by lia
 subst this;rw[em]at ei;cases ei;exact z;refine{_,rfl,(lo+hi)/2-lo,by lia,lo,(lo+hi)/2,_,rfl,rfl,rfl,by lia,by lia,b1,λi a TN ei=>?_};rcases Nat.lt_or_ge ((lo+hi)/2) i with dW|V0;cases qa:gP cs ps wy g a with|false=>rfl|true=>have k:=List.pairwise_iff_getElem.mp mono _ i hm (ze.mp ei).1 dW;rw[(ze.mp ei).2,(ze.mp em).2]at k;exact tf (k qa) z
 have:i=(lo+hi)/2:=by lia
 subst this;rw[em]at ei;cases ei;exact z;have h:lo=hi:=by have:=zM h;lia
 subst h;have:=B6 (hA.mono hg hp hv) h2 b1 b2;subst this;exact fo {_,rfl,rfl};rintro aC S' ⟨o6,rfl,rfl⟩;exact{_,rfl,fo q}
noncomputable def seg{α:Type}(A:List α)(b e:Nat):List α:=(A.drop b).take<|e-b
theorem LX(h:b<=e)(h2:e<=A.length):(seg A b e).length=e-b:=by unfold seg;rw[ya,List.length_drop];omega
theorem D3(h:i<e-b):(seg A b e)[i]?=A[b+i]?:=by unfold seg;rw[List.getElem?_take,if_pos h,List.getElem?_drop]
theorem D4(h:b<=e)(h2:e<=A.length):bQ (A.map ak) (some ((b:Nat):Int)) (some ((e:Nat):Int))=(seg A b e).map ak:=by unfold bQ seg;rw[HT.sIx_nat,HT.sIx_nat,zc,Nat.min_eq_left h2,Nat.min_eq_left<|zK h h2,List.map_take,List.map_drop]
noncomputable def JI(p:Addr)(b c:Nat):D:=.tup [.ref p,.int (b:Nat),.int (c:Nat)]
noncomputable def B_(cs:List<|Str×Str)(ps:List Part)(wy:Str)(A:List Row)(n:Nat):Option y6->Nat|none=>n|some g=>A.countP<|gP cs ps wy g
theorem Jf(h:n<=A.length):∀b,B_ cs ps wy A n b<=A.length|none=>h|some _=>List.countP_le_length
structure Jg(cs:List (Str×Str))(ps:List Part)(wy:Str)(n:Nat)(d:D)(rows A:List Row):Prop where
 an:An cs ps wy A
 pm:A.Perm (rows.filter λr=>bK cs r n d)
theorem Jg.one(hg:Gd cs)(hp:Pin cs ps)(h:Jg cs ps wy n d rows A)(h':Jg cs ps wy n d rows A'):A=A':=LK hg hp h'.an.rg h.an.pw h'.an.pw<|h.pm.trans h'.pm.symm
def Jh(rows:List Row):Prop:=∀r∈rows,r.1∈KS
theorem wg{cs:List<|Str×Str}{ps:List Part}{wy:Str}{n:Nat}{d:D}{rows A:List Row}(hr:Rg cs rows)(hk:Jh rows)(pm:A.Perm<|rows.filter λr=>bK cs r n d)(pw:A.Pairwise λa b=>cJ cs wy ps a b=true):Jg cs ps wy n d rows A:={{(hr.sub List.filter_sublist).perm pm,λr h=>hk r (yu.mp<|pm.mem_iff.mp h).1,pw},pm}
noncomputable def LY(A:List Row)(b n:Nat):Nat:=min (b+n) A.length
def U9(t:hW)(f:List (Str×Str)->List Part->Str->List Row->Option y6->Nat->Nat×Nat):iV:=λds S R Z=>∃(a:Addr)(cs:List (Str×Str))(ps:List Part)(wy:Str)(d m:D)(n:Nat)(b:Option y6)(no:Bool)(rows:List Row),ds=[.ref a,dP ps wy,d,.int (n:Nat),FR b,m]/\Gd cs/\Og cs ps wy/\Sg cs 4 d/\1<=n/\n<=1000/\Bg cs ps b/\Vw t.aj S a cs m no rows/\Jh rows/\Tb t S/\(no=true->Z t.aR S)/\(no=false->∀(A:List Row)(p:Addr),Jg cs ps wy 4 d rows A->S p=none->R (JI p (f cs ps wy A b n).1<|A.length-(f cs ps wy A b n).2) (S.set p<|.lst<|(seg A (f cs ps wy A b n).1 (f cs ps wy A b n).2).map ak))
noncomputable def Rf(cs:List<|Str×Str)(ps:List Part)(wy:Str)(A:List Row)(b:Option y6)(n:Nat):Nat×Nat:=(B_ cs ps wy A 0 b,LY A (B_ cs ps wy A 0 b) n)
noncomputable def Rh(cs:List<|Str×Str)(ps:List Part)(wy:Str)(A:List Row)(b:Option y6)(n:Nat):Nat×Nat:=(B_ cs ps wy A A.length b-n,B_ cs ps wy A A.length b)
theorem wj{S:av}{p q:Addr}{c e:Ce}(h:S q=none)(hp:S p=none)(hn:q≠p):Sub (S.set q e) ((S.set p c).set q e):=λb x hb=>by by_cases z:b=q;subst z;rw[aa]at hb⊢;exact hb;rw[ag z]at hb⊢;rw[ag<|g6 hb hp];exact hb
inductive jG (ds:List D) (S:av) (R:KD) (Z:KX):Prop where
 |mk (l:Addr) (A:List Row) (b e:Nat) (h0:ds=[.ref l,.int (b:Nat),.int (e:Nat)]) (h1:S l=some (.lst<|A.map ak)) (h2:b<=e) (h3:e<=A.length) (h4:∀p,S p=none->R (JI p b<|A.length-e) (S.set p<|.lst<|(seg A b e).map ak)):jG ds S R Z
theorem iI(T:Txt w K mg t):Ok P w base T.eY 1 jG:=by refine T.eY.F.bX pB ?_;rintro _ _ _ _ _ _ _ S R Z hr ⟨l,A,b,e,e0,hl,h1,h2,q⟩;subst e0;refine{_,(s1<|sr<|bP<|ac (UA (dv 0) (o1<|dv 1)<|o1<|dv 2)<|ac (dv 1)<|ac (bo ot hr.u (cb aY T.aV aJ<|ac (dv 0) an)<|dv 2) an),?_};refine{_,rfl,_,rfl,_,rfl,_,rfl,_,rfl,_,hl,λp hp=>?_};rw[D4 h1 h2];refine{_,rfl,_,rfl,_,rfl,.inl {_,(Sub.new hp) _ _ hl,_,rfl,gR,?_}};rw[zc,show((A.length:Nat):Int)-((e:Nat):Int)=((A.length-e:Nat):Int) by omega];exact fo<|q p hp
inductive oX (ds:List D) (S:av) (R:KD) (Z:KX):Prop where
 |mk (l:Addr) (A:List Row) (b n:Nat) (h0:ds=[.ref l,.int (b:Nat),.int (n:Nat)]) (h1:S l=some (.lst<|A.map ak)) (h2:b<=A.length) (h3:∀p,S p=none->R (JI p b<|A.length-LY A b n) (S.set p<|.lst<|(seg A b<|LY A b n).map ak)):oX ds S R Z
theorem wk(T:Txt w K mg t):Ok P w base T.nD 2 oX:=by
 refine T.nD.F.bX vN ?_;rintro _ _ _ _ _ _ _ S R Z hr ⟨l,A,b,n,e0,hl,h1,q⟩;subst e0;refine{_,(s1<|sr<|aG T.eY (iI T) hr<|ac (dv 0)<|ac (dv 1)<|ac (cb MG T.MY Hf<|ac (bo bu hr.u (dv 1)<|dv 2)<|ac (cb aY T.aV aJ<|ac (dv 0) an) an) an),?_};refine{_,rfl,_,rfl,_,rfl,_,rfl,_,rfl,_,rfl,.inl {_,hl,_,_,rfl,?_}};rw[zc];have e1:(if decide (((A.length:Nat):Int)<((b:Nat):Int)+((n:Nat):Int))=true then ((A.length:Nat):Int) else ((b:Nat):Int)+((n:Nat):Int))=((LY A b n:Nat):Int):=by unfold LY;by_cases h:((A.length:Nat):Int)<((b:Nat):Int)+((n:Nat):Int);rw[if_pos<|zr h];omega;rw[if_neg<|by rw[zo h];exact zd];omega
 rw[e1];exact{l,A,b,LY A b n,rfl,hl,by unfold LY;omega,by unfold LY;omega,λp hp=>fo<|q p hp}
inductive mJ (ds:List D) (S:av) (R:KD) (Z:KX):Prop where
 |mk (l:Addr) (A:List Row) (e n:Nat) (h0:ds=[.ref l,.int (e:Nat),.int (n:Nat)]) (h1:S l=some (.lst<|A.map ak)) (h2:e<=A.length) (h3:∀p,S p=none->R (JI p (e-n)<|A.length-e) (S.set p<|.lst<|(seg A (e-n) e).map ak)):mJ ds S R Z
theorem tq(T:Txt w K mg t):Ok P w base T.kZ 2 mJ:=by
 refine T.kZ.F.bX sS ?_;rintro _ _ _ _ _ _ _ S R Z hr ⟨l,A,e,n,e0,hl,h1,q⟩;subst e0;refine{_,(s1<|sr<|aG T.eY (iI T) hr<|ac (dv 0)<|ac (cb Ts T.UE Pn<|ac (bo ot hr.u (dv 1)<|dv 2)<|ac di an)<|ac (dv 1) an),?_};refine{_,rfl,_,rfl,_,rfl,_,_,rfl,?_};have e1:(if decide (((e:Nat):Int)-((n:Nat):Int)<0)=true then (0:Int) else ((e:Nat):Int)-((n:Nat):Int))=((e-n:Nat):Int):=by by_cases h:((e:Nat):Int)-((n:Nat):Int)<0;rw[if_pos<|zr h];omega;rw[if_neg<|by rw[zo h];exact zd];omega
 rw[e1];exact{_,rfl,l,A,e-n,e,rfl,hl,Nat.sub_le _ _,h1,λp hp=>fo<|q p hp}
def Nd(f:List (Str×Str)->List Part->Str->List Row->Option y6->Nat->Nat×Nat):iV:=λds S R _=>∃(cs:List (Str×Str))(ps:List Part)(wy:Str)(l:Addr)(A:List Row)(n:Nat)(b:Option y6),ds=[.tup<|cs.map aA,dP ps wy,.ref l,.int (n:Nat),FR b]/\Gd cs/\Pin cs ps/\ps.length<=8/\S l=some (.lst<|A.map ak)/\An cs ps wy A/\Bg cs ps b/\∀p,S p=none->R (JI p (f cs ps wy A b n).1<|A.length-(f cs ps wy A b n).2) (S.set p<|.lst<|(seg A (f cs ps wy A b n).1 (f cs ps wy A b n).2).map ak)
theorem tw(T:Txt w K mg t):Ok P w base T.kY 6 (Nd Rf):=by refine T.kY.F.bX kx ?_;rintro _ _ _ _ _ _ _ S R Z hr ⟨cs,ps,wy,l,A,n,b,e0,hg,hp,h8,hl,hA,hb,q⟩;subst e0;refine{_,(sc (cF (i:=5) kx.nd<|ME (bh iO hr.u (dv 4) dn) di<|aG T.dj (dQ T) hr<|ac (dv 0)<|ac (dv 1)<|ac (dv 2)<|ac (dv 4) an)<|s1<|sr<|aG T.nD (wk T) hr<|ac (dv 2)<|ac (dv 5)<|ac (dv 3) an),?_};cases b with|none=>exact{_,rfl,_,rfl,cN {_,rfl,_,rfl,_,rfl,l,A,0,n,rfl,hl,zU _,λp hp=>fo<|q p hp}}|some g=>exact{_,rfl,_,rfl,bb {_,rfl,_,rfl,_,rfl,_,rfl,cs,ps,wy,A,l,g,rfl,hg,hp,h8,hl,hA,hb g rfl,_,rfl,_,rfl,_,rfl,l,A,_,n,rfl,hl,List.countP_le_length,λp hp=>fo<|q p hp}}
theorem pH(T:Txt w K mg t):Ok P w base T.ic 6 (Nd Rh):=by refine T.ic.F.bX iC ?_;rintro _ _ _ _ _ _ _ S R Z hr ⟨cs,ps,wy,l,A,n,b,e0,hg,hp,h8,hl,hA,hb,q⟩;subst e0;refine{_,(sc (cF (i:=5) iC.nd<|ME (bh iO hr.u (dv 4) dn) (cb aY T.aV aJ<|ac (dv 2) an)<|aG T.dj (dQ T) hr<|ac (dv 0)<|ac (dv 1)<|ac (dv 2)<|ac (dv 4) an)<|s1<|sr<|aG T.kZ (tq T) hr<|ac (dv 2)<|ac (dv 5)<|ac (dv 3) an),?_};cases b with|none=>refine{_,rfl,_,rfl,cN {_,rfl,_,rfl,.inl {_,hl,?_}}};rw[zc];exact{_,rfl,_,rfl,_,rfl,l,A,A.length,n,rfl,hl,zk _,λp hp=>fo<|q p hp}|some g=>exact{_,rfl,_,rfl,bb {_,rfl,_,rfl,_,rfl,_,rfl,cs,ps,wy,A,l,g,rfl,hg,hp,h8,hl,hA,hb g rfl,_,rfl,_,rfl,_,rfl,l,A,_,n,rfl,hl,List.countP_le_length,λp hp=>fo<|q p hp}}
theorem Ca(T:Txt w K mg t)(B:Bm mg base):Ok P w base T.vg 10 (U9 t Rf):=by
 refine T.vg.F.bX BG ?_;rintro _ _ _ _ _ _ _ S R Z hr ⟨a,cs,ps,wy,d,m,n,b,no,rows,e0,hg,ho,hd,h1,h2,hb,hv,hk,ht,z,q⟩;subst e0;obtain⟨F,dl,rs,hS,hn,P6,BZ,P7⟩:=hv.sh;obtain⟨ld,lr,ra,h,_⟩:=id hS;refine{_,(sc (se<|aG T.ie (kG T) hr<|ac (iQ (dv 0) T.ai T.aB (aM T) hr)<|ac (dv 1)<|ac (dv 2)<|ac (dv 3)<|ac (dv 4) an)<|s1<|sr<|aG T.kY (tw T) hr<|ac (iQ (dv 0) T.ai T.aB (aM T) hr)<|ac (dv 1)<|ac (aG T.bS (cy T B) hr<|ac (dv 0)<|ac (dv 1)<|ac (dv 2)<|ac (dv 5) an)<|ac (dv 3)<|ac (dv 4) an),?_};refine{_,rfl,a,_,rfl,h.ins,rfl,a,F,cs,dl,rs,rfl,hS,_,rfl,_,rfl,_,rfl,_,rfl,cs,ps,wy,d,n,b,rfl,hg,ho,hd,by omega,by omega,hb,?_};refine{_,rfl,a,_,rfl,h.ins,rfl,a,F,cs,dl,rs,rfl,hS,_,rfl,_,rfl,_,rfl,_,rfl,_,rfl,a,cs,ps,wy,d,m,no,rows,rfl,hg,ho,hd,hv,ht,λh=>fo<|z h,λA3 A l pm pw hl=>?_};have an:=wg hv.rg hk pm pw;refine{_,rfl,_,rfl,cs,ps,wy,l,A,n,b,rfl,hg,ho.pin,ho.len,aa,an.an,hb,λp hp=>?_};have du:p≠l:=λe=>by rw[e,aa]at hp;cases hp
 have Nf:S p=none:=by rw[ag du]at hp;exact hp
 exact{_,wj Nf hl du,q A3 A p an Nf}
theorem wo(T:Txt w K mg t)(B:Bm mg base):Ok P w base T.nq 10 (U9 t Rh):=by
 refine T.nq.F.bX vM ?_;rintro _ _ _ _ _ _ _ S R Z hr ⟨a,cs,ps,wy,d,m,n,b,no,rows,e0,hg,ho,hd,h1,h2,hb,hv,hk,ht,z,q⟩;subst e0;obtain⟨F,dl,rs,hS,hn,P6,BZ,P7⟩:=hv.sh;obtain⟨ld,lr,ra,h,_⟩:=id hS;refine{_,(sc (se<|aG T.ie (kG T) hr<|ac (iQ (dv 0) T.ai T.aB (aM T) hr)<|ac (dv 1)<|ac (dv 2)<|ac (dv 3)<|ac (dv 4) an)<|s1<|sr<|aG T.ic (pH T) hr<|ac (iQ (dv 0) T.ai T.aB (aM T) hr)<|ac (dv 1)<|ac (aG T.bS (cy T B) hr<|ac (dv 0)<|ac (dv 1)<|ac (dv 2)<|ac (dv 5) an)<|ac (dv 3)<|ac (dv 4) an),?_};refine{_,rfl,a,_,rfl,h.ins,rfl,a,F,cs,dl,rs,rfl,hS,_,rfl,_,rfl,_,rfl,_,rfl,cs,ps,wy,d,n,b,rfl,hg,ho,hd,by omega,by omega,hb,?_};refine{_,rfl,a,_,rfl,h.ins,rfl,a,F,cs,dl,rs,rfl,hS,_,rfl,_,rfl,_,rfl,_,rfl,_,rfl,a,cs,ps,wy,d,m,no,rows,rfl,hg,ho,hd,hv,ht,λh=>fo<|z h,λA3 A l pm pw hl=>?_};have an:=wg hv.rg hk pm pw;refine{_,rfl,_,rfl,cs,ps,wy,l,A,n,b,rfl,hg,ho.pin,ho.len,aa,an.an,hb,λp hp=>?_};have du:p≠l:=λe=>by rw[e,aa]at hp;cases hp
 have Nf:S p=none:=by rw[ag du]at hp;exact hp
 exact{_,wj Nf hl du,q A3 A p an Nf}
inductive uC (t:hW) (ds:List D) (S:av) (R:KD) (Z:KX):Prop where
 |mk (a:Addr) (cs:List<|Str×Str) (ps:List Part) (wy:Str) (d m:D) (f g:Option y6) (rows:List Row) (h0:ds=[.ref a,dP ps wy,d,FR f,FR g,m]) (h1:Gd cs) (h2:Og cs ps wy) (h3:Sg cs 4 d) (h4:Bg cs ps f) (h5:Bg cs ps g) (h6:Vw t.aj S a cs m false rows) (h7:Jh rows) (h8:Tb t S) (h9:∀(A:List Row)(p:Addr),Jg cs ps wy 4 d rows A->S p=none->R (.ref p) (S.set p<|.lst<|bQ (A.map ak) (some ((B_ cs ps wy A 0 f:Nat):Int))<|some ((B_ cs ps wy A A.length g:Nat):Int))):uC t ds S R Z
theorem Cb(T:Txt w K mg t)(B:Bm mg base):Ok P w base T.vh 10 (uC t):=by
 refine T.vh.F.bX fB ?_;rintro _ _ _ _ _ _ _ S R Z hr ⟨a,cs,ps,wy,d,m,f,g,rows,e0,hg,ho,hd,hf,ZE,hv,hk,ht,q⟩;subst e0;obtain⟨F,dl,rs,hS,hn,P6,BZ,P7⟩:=hv.sh;obtain⟨ld,lr,ra,h,_⟩:=id hS;refine{_,(sc (cF (i:=6) fB.nd<|iQ (dv 0) T.ai T.aB (aM T) hr)<|sc (se<|aG T.eJ (fK T) hr<|ac (dv 6)<|ac (dv 1) an)<|sc (se<|aG T.dh (dM T) hr<|ac (dv 6)<|ac (dv 2) an)<|sc (se<|aG T.eK (fN T) hr<|ac (dv 6)<|ac (dv 1)<|ac (dv 3) an)<|sc (se<|aG T.eK (fN T) hr<|ac (dv 6)<|ac (dv 1)<|ac (dv 4) an)<|sc (cF (i:=7) fB.nd<|aG T.bS (cy T B) hr<|ac (dv 0)<|ac (dv 1)<|ac (dv 2)<|ac (dv 5) an)<|sc (cF (i:=8) fB.nd<|ME (bh iO hr.u (dv 3) dn) di<|aG T.dj (dQ T) hr<|ac (dv 6)<|ac (dv 1)<|ac (dv 7)<|ac (dv 3) an)<|sc (cF (i:=9) fB.nd<|ME (bh iO hr.u (dv 4) dn) (cb aY T.aV aJ<|ac (dv 7) an)<|aG T.dj (dQ T) hr<|ac (dv 6)<|ac (dv 1)<|ac (dv 7)<|ac (dv 4) an)<|s1<|sr<|UA (dv 7) (o1<|dv 8)<|o1<|dv 9),?_};refine{_,rfl,a,_,rfl,h.ins,rfl,a,F,cs,dl,rs,rfl,hS,?_};refine{_,rfl,_,rfl,cs,ps,wy,rfl,hg,ho.tx,λ_=>?_,λz=>tf ho.ok z};refine{_,rfl,_,rfl,cs,d,rfl,hg,hd,?_};refine{_,rfl,_,rfl,_,rfl,cs,ps,wy,f,rfl,hg,ho.pin,ho.len,hf,?_};refine{_,rfl,_,rfl,_,rfl,cs,ps,wy,g,rfl,hg,ho.pin,ho.len,ZE,?_};refine{_,rfl,_,rfl,_,rfl,_,rfl,a,cs,ps,wy,d,m,false,rows,rfl,hg,ho,hd,hv,ht,nofun,λ_ A l pm pw hl=>?_};have an:=wg hv.rg hk pm pw;have fin:∀p,(S.set l<|.lst<|A.map ak) p=none->Fo (((S.set l<|.lst<|A.map ak).set p<|.lst<|bQ (A.map ak) (some ((B_ cs ps wy A 0 f:Nat):Int))<|some ((B_ cs ps wy A A.length g:Nat):Int))) (R<|.ref p):=λp hp=>by have du:p≠l:=λe=>(by rw[e,aa]at hp;cases hp);have Nf:S p=none:=(by rw[ag du]at hp;exact hp);exact{_,wj Nf hl du,q A p an Nf}
 cases f with|none=>(refine{_,rfl,_,rfl,cN ?_};cases g with|none=>refine{_,rfl,_,rfl,cN {_,rfl,_,rfl,.inl {_,aa,?_}}};rw[zc];exact{_,rfl,_,rfl,_,rfl,_,rfl,_,rfl,_,aa,fin}|some g=>exact{_,rfl,_,rfl,bb {_,rfl,_,rfl,_,rfl,_,rfl,cs,ps,wy,A,l,g,rfl,hg,ho.pin,ho.len,aa,an.an,ZE g rfl,_,rfl,_,rfl,_,rfl,_,rfl,_,rfl,_,aa,fin}})|some f=>refine{_,rfl,_,rfl,bb {_,rfl,_,rfl,_,rfl,_,rfl,cs,ps,wy,A,l,f,rfl,hg,ho.pin,ho.len,aa,an.an,hf f rfl,?_}};cases g with|none=>refine{_,rfl,_,rfl,cN {_,rfl,_,rfl,.inl {_,aa,?_}}};rw[zc];exact{_,rfl,_,rfl,_,rfl,_,rfl,_,rfl,_,aa,fin}|some g=>exact{_,rfl,_,rfl,bb {_,rfl,_,rfl,_,rfl,_,rfl,cs,ps,wy,A,l,g,rfl,hg,ho.pin,ho.len,aa,an.an,ZE g rfl,_,rfl,_,rfl,_,rfl,_,rfl,_,rfl,_,aa,fin}}
theorem LZ{S:av}{a b:Addr}{ds:List D}{R:KD}(e1:S a=some (.lst ds))(e2:S b=some (.lst []))(h:∀d∈ds,Ly S 60 d)(q:R (.bl<|!ds.isEmpty) S):JD true (.ref a) (.ref b) S R:=by obtain⟨ps,k1,k2,k3,k4⟩:=Ly.all h;refine{.list ps,.list [],⟨ds,ps,e1,rfl,k1⟩,{[],[],e2,rfl,by simp only[DpAll]},by simp only[PyData.canLay0];exact k2,by simp only[PyData.canLay0,PyData.canLayAll0],.inl<|by simp only[PyData.depth];lia,?_};rw[if_pos rfl,rG,show ps.isEmpty=ds.isEmpty by cases ps<;>cases ds<;>first|rfl|cases k4];exact q
theorem L3{cs:List<|Str×Str}{rows:List Row}(hr:Rg cs rows)(hk:Jh rows){S:av} : ∀d∈rows.map ak,Ly S 60 d:=λd hd=>by obtain⟨r,h,rfl⟩:=zh.mp hd;exact Qe (hk r h)<|hr.1 r h
noncomputable def Gg(cs:List<|Str×Str)(ps:List Part)(sd:Str)(r:Row):y6:=(ps.map λp=>ao cs r.2 p.1,r.1,sd)
theorem rV{cs:List<|Str×Str}(hg:Gd cs){ps:List Part}(hp:Pin cs ps){r:Row}(hw:Wg cs r.2)(hk:r.1∈KS){sd:Str}(hs:uA sd=true):Gp cs ps (Gg cs ps sd r):={B4 hg hp hw,hk,hs}
inductive uD (ds:List D) (S:av) (R:KD) (Z:KX):Prop where
 |mk (cs:List<|Str×Str) (ps:List Part) (wy:Str) (p:Addr) (rows:List Row) (b c:Nat) (h0:ds=[.tup<|cs.map aA,dP ps wy,JI p b c]) (h1:Gd cs) (h2:Pin cs ps) (h3:ps.length<=8) (h4:S p=some (.lst<|rows.map ak)) (h5:(∀r∈rows,Wg cs r.2)) (h6:(rows=[]->R .ax S)) (h7:∀r0 r1,rows[0]?=some r0->rows[rows.length-1]?=some r1->R (.tup [tj<|Gg cs ps "ahead" r0,tj<|Gg cs ps "behind" r1]) S):uD ds S R Z
theorem Cc(T:Txt w K mg t):Ok P w base T.pT 4 uD:=by
 refine T.pT.F.bX rf ?_;rintro _ _ _ _ _ _ _ S R Z hr ⟨cs,ps,wy,p,rows,b,c,e0,hg,hp,h8,hS,hw,q1,q2⟩;subst e0;refine{_,(sc (cF (i:=3) rf.nd<|ix hr.u (dv 2) di)<|sc (si (bh bj hr.u (cb aY T.aV aJ<|ac (dv 3) an) di) (s1<|sr dn) s0)<|s1<|sr<|bP<|ac (bP<|ac (aG T.jq (jF T) hr<|ac (dv 0)<|ac (dv 1)<|ac (ix hr.u (dv 3) di) an)<|ac ds an)<|ac (bP<|ac (aG T.jq (jF T) hr<|ac (dv 0)<|ac (dv 1)<|ac (ix hr.u (dv 3)<|OQ di) an)<|ac ds an) an),?_};refine{_,rfl,_,rfl,_,rfl,_,rfl,.inl {_,hS,_,rfl,?_}};rw[zc];refine bD (λh=>?_) λh=>?_;have h:((rows.length:Nat):Int)=0:=zC h;exact fo<|q1<|List.length_eq_zero_iff.mp (by lia);have h:¬((rows.length:Nat):Int)=0:=zM h;have h0:0<rows.length:=by lia
 have hl:rows.length-1<rows.length:=by lia
 have e0:=zg h0;have e1:=zg hl;generalize rows[0]=r0 at e0;generalize rows[rows.length-1]=r1 at e1;have w0:=hw r0<|zx e0;have w1:=hw r1<|zx e1;have ea:uG (rows.map ak) (-1)=some (ak r1):=by unfold uG Jz;rw[zc,if_neg<|by decide,if_pos<|by lia,show((-1:Int)+((rows.length:Nat):Int)).toNat=rows.length-1 by lia];show(rows.map ak)[rows.length-1]?=_;rw[zq,e1];rfl
 refine{_,rfl,_,rfl,_,rfl,_,ak r0,hS,dw (j:=0)<|by rw[zq,e0];rfl,cs,ps,wy,r0,rfl,hg,hp,h8,w0,bW,?_};refine{_,rfl,_,rfl,_,rfl,_,rfl,_,ak r1,hS,ea,cs,ps,wy,r1,rfl,hg,hp,h8,w1,bW,bW,?_};exact fo<|q2 r0 r1 e0 e1
inductive y8 (ds:List D) (S:av) (R:KD) (Z:KX):Prop where
 |mk (l) (h0:ds=[.ref l]) (h1:S l=some .well) (h2:∀n:Nat,1<=n->n<=1000->R (.int (n:Nat)) S):y8 ds S R Z
theorem L4(T:Txt w K mg t):Ok P w base T.Bz 2 y8:=by
 refine T.Bz.F.bX Fx ?_;rintro _ _ _ _ _ _ _ S R Z hr ⟨l,e,hw,q⟩;subst e;refine{_,(s1<|sr<|CY<|ix hr.u (dR<|ac di<|ac di<|ac di<|ac (bo bu hr.u di<|aG T.aQ (bA T) hr<|ac (dv 0)<|ac di an)<|ac (bo bu hr.u di<|aG T.aQ (bA T) hr<|ac (dv 0)<|ac di an)<|ac di an)<|aG T.aQ (bA T) hr<|ac (dv 0)<|ac di an),?_};refine{_,rfl,l,_,rfl,(by decide),(by decide),hw,λn1 a0 a1=>{_,rfl,l,_,rfl,(by decide),(by decide),hw,λn2 b0 b1=>{YY,λp hp=>{_,rfl,l,_,rfl,(by decide),(by decide),wl hw hp,λn h0 h1=>cu h0 h1 hp λd hd=>?_}}}};have a1:n1<9:=a1;have b1:n2<40:=b1;have hd:d∈[D.int 1,.int 2,.int 3,.int<|1+n1,.int<|13+n2,.int 1000]:=hd;have one:∀i:Int,d=.int i->1<=i->i<=1000->Fo S (R d):=λi e h1 h2=>by obtain⟨m,rfl⟩:=Int.eq_ofNat_of_zero_le (show 0<=i by lia);rw[e];exact fo<|q m (by lia)<|by lia
 simp only[zf,zB,or_false]at hd;rcases hd with h|h|h|h|h|h<;>exact one _ h (by lia) (by lia)
inductive D5 (ds:List D) (S:av) (R:KD) (Z:KX):Prop where
 |mk (l cs ps wy lr rows) (h0:ds=[.ref l,.tup<|cs.map aA,dP ps wy,.ref lr]) (h1:Gd cs) (h2:Og cs ps wy) (h3:S l=some .well) (h4:S lr=some (.lst<|rows.map ak)) (h5:Rg cs rows) (h6:Jh rows) (h7:rows.length<=40) (h8:∀b,Bg cs ps b->R (FR b) S):D5 ds S R Z
theorem L5(T:Txt w K mg t):Ok P w base T.Ii 4 D5:=by
 refine T.Ii.F.bX ju ?_;rintro _ _ _ _ _ _ _ S R Z hr ⟨l,cs,ps,wy,lr,rows,e,hg,ho,hw,C4,ZF,hk,Wd,q⟩;subst e;refine{_,(sc (cF (i:=4) ju.nd<|aG T.aQ (bA T) hr<|ac (dv 0)<|ac di an)<|sc (cF (i:=5) ju.nd<|CY<|ix hr.u (dR<|ac ds<|ac ds an)<|aG T.aQ (bA T) hr<|ac (dv 0)<|ac di an)<|sc (si (bh bj hr.u (dv 4) di) (s1<|sr dn) s0)<|sc (xq<|si (twd<|twand (bh uY hr.u (dv 4) di)<|tw1<|bh lU hr.u (dv 3)<|dR an) (sc (cF (i:=6) ju.nd<|ix hr.u (dv 3)<|aG T.aQ (bA T) hr<|ac (dv 0)<|ac (cb aY T.aV aJ<|ac (dv 3) an) an)<|s1<|sr<|bP<|ac (bP<|ac (ct fX T.bp aS<|ac (tZ (N:=["_law_part","_law_columns_here","_law_row"]) (src:=[none,some 1,some 6]) (lF (ae Dg) ["_law_well_here","_law_columns_here","_law_order_here","_law_rows","_law_way","_law_side","_law_row","_law_kinds"] rfl rfl<|by trivial) (Hx<|ix hr.u (dv 2) di) (r_<|show(["_law_part","_law_columns_here","_law_row"]:List Str).Nodup by trivial) (aZ rfl) a_ (λ_ _ _ _ _=>sM) λ_ _ _ _ _=>(aG T.PC (UW T) hr<|ac (dv 1)<|ac (dv 2)<|ac (ix hr.u (dv 0) di) an)) an)<|ac (ix hr.u (dv 6) di) an)<|ac (dv 5) an) s0)<|sc (cF (i:=7) ju.nd<|ct HE T.Ig CK<|ac (dv 1) an)<|s1<|sr<|bP<|ac (bP<|ac (ct fX T.bp aS<|ac (tZ (N:=["_law_part","_law_well_here","_law_kinds"]) (src:=[none,some 0,some 7]) (lF (ae Dg) ["_law_well_here","_law_columns_here","_law_order_here","_law_rows","_law_way","_law_side","_law_row","_law_kinds"] rfl rfl<|by trivial) (Hx<|ix hr.u (dv 2) di) (r_<|show(["_law_part","_law_well_here","_law_kinds"]:List Str).Nodup by trivial) (aZ rfl) a_ (λ_ _ _ _ _=>sM) λ_ _ _ _ _=>(aG T.mf (rD T) hr<|ac (dv 1)<|ac (ix hr.u (dv 2)<|ix hr.u (dv 0) di) an)) an)<|ac (aG T.xQ (BQ T) hr<|ac (dv 0) an) an)<|ac (dv 5) an),?_};refine{_,rfl,l,_,rfl,(by decide),(by decide),hw,λn a0 a1=>{bW,λp hp=>{_,rfl,l,_,rfl,(by decide),(by decide),wl hw hp,λn2 h0 h1=>cu h0 h1 hp λd hd=>?_}}};obtain⟨sd,rfl,hsd⟩:∃sd:Str,d=.str sd/\uA sd=true:=by have hd:d∈[D.str "ahead",.str "behind"]:=hd;simp only[zf,zB,or_false]at hd;rcases hd with h|h;exact{_,h,by trivial};exact{_,h,by trivial}
 have h8:=ho.len;refine{_,rfl,_,rfl,bD (λh=>fo<|q none nofun) λh=>?_};refine{λaC S'=>aC=[some<|D.ref l,some<|.tup<|cs.map aA,some<|dP ps wy,some<|.ref lr,some<|.int n,some<|.str sd,none,none]/\Sub S S',?_,?_};refine{_,rfl,_,rfl,bD (λh=>{_,rfl,vR,λp2 fV=>LZ ((Sub.new fV) _ _ C4) aa (L3 ZF hk) {_,rfl,bD (λh2=>?_) λh2=>?_}}) λh=>fo {rfl,.refl _}};have h2:(!(rows.map ak).isEmpty)=true:=h2;have mX:0<rows.length:=by cases rows with|nil=>(cases h2)|cons _ _=>exact Nat.succ_pos _
 have wD:=(Sub.new (c:=.lst []) fV) _ _ C4;have pP:=wl (c:=.lst []) hw fV;refine{_,rfl,_,rfl,_,rfl,_,rfl,.inl {_,wD,?_}};rw[zc];refine{l,_,rfl,by lia,vY (by lia)<|by lia,pP,λm m0 m1=>?_};obtain⟨k,rfl⟩:=Int.eq_ofNat_of_zero_le m0;have hk1:k<rows.length:=by lia
 have ek:=zg hk1;generalize rows[k]=r at ek;have xY:=zx ek;refine{_,ak r,wD,dw<|by rw[zq,ek];rfl,?_};refine{_,rfl,_,rfl,_,.inl rfl,?_};refine comp_map (λd=>match d with|.tup (.str z::_)=>ao cs r.2 z|_=>.ax) trivial (by show(ps.map p3).length<=_;rw[zc];lia) (λd hd Q hQ=>?_) λp nR=>?_;obtain⟨pt,U8,rfl⟩:=zh.mp hd;obtain⟨c,hc,ec⟩:=ho.pin pt U8;refine{_,rfl,_,rfl,_,rfl,_,rfl,cs,r,c,(by rw[ec];rfl),hg,ZF.1 r xY,hc,?_};rw[ec];exact hQ;have e3:(ps.map p3).map (λd=>match d with|.tup (.str z::_)=>ao cs r.2 z|_=>.ax)=ps.map λp=>ao cs r.2 p.1:=by rw[zA];rfl
 rw[show({ps.map p3,λ_=>True}:Hw).xs=ps.map p3 from rfl,e3];refine{_,_,rfl,.inl aa,_,rfl,_,rfl,bW,_,rfl,bW,S,(Sub.new fV).trans<|.new nR,?_};exact q (some<|Gg cs ps sd r) λg O6=>by cases O6;exact rV hg ho.pin (ZF.1 r xY) (hk r xY) hsd
 exact fo {rfl,.new fV};rintro aC S' ⟨rfl,sb⟩;have ek:cs.map aA=(cs.map λc=>(c.1,D.str c.2)).map CZ:=by rw[zA];rfl
 refine{_,rfl,(cs.map λc=>(c.1,D.str c.2)),by rw[ek],λpd hpd=>?_};have g1:=sb.trans<|Sub.new (c:=.cA<|gw<|cs.map λc=>(c.1,D.str c.2)) hpd;have s1:(S'.set pd<|.cA<|gw<|cs.map λc=>(c.1,D.str c.2)) pd=some (.cA<|gw<|cs.map λc=>(c.1,D.str c.2)):=aa;generalize S'.set pd (.cA<|gw<|cs.map λc=>(c.1,D.str c.2))=S1 at g1 s1⊢;refine{_,rfl,_,rfl,_,.inl rfl,?_};refine fF (λd v=>∃z w e,d=.tup [.str z,.str w,.str e]/\Vg (Ah cs z) v) trivial (by show(ps.map p3).length<=_;rw[zc];lia) (λd hd Q hQ=>?_) λout E7 p nR=>?_;obtain⟨pt,U8,rfl⟩:=zh.mp hd;obtain⟨c,hc,ec⟩:=ho.pin pt U8;have h1:=ua (cs.map λc=>(c.1,D.str c.2)) pt.1;rw[show(cs.map λc=>(c.1,D.str c.2)).any (λq=>decide<|q.1=pt.1)=true from List.any_eq_true.mpr {_,zh.mpr ⟨c,hc,rfl⟩,zr ec}]at h1;cases q3:bY (gw<|cs.map λc=>(c.1,D.str c.2)) (.inr pt.1) with|none=>(rw[q3]at h1;cases h1)|some d=>obtain⟨p',Y1,e1,rfl⟩:=mz _ _ q3;obtain⟨c',Jy,rfl⟩:=zh.mp Y1;have e1:c'.1=pt.1:=e1;have IC:Ah cs pt.1=c'.2:=(by unfold Ah;rw[<-e1,(rL hg Jy).1];rfl);refine{_,rfl,_,rfl,_,rfl,_,rfl,_,_,s1,q3,l,_,rfl,?_,g1 _ _ hw,λv hv=>?_};rcases (hg.2.2 c' Jy).2 with h|h;exact .inl (by show[D.str c'.2]=_;rw[h]);exact .inr (by show[D.str c'.2]=_;rw[h]);obtain⟨k,ek,hv⟩:=hv;cases ek;exact hQ v {_,_,_,rfl,by rw[IC];exact hv}
 have hv:Paired (λk x=>Vg k x) (ps.map λp=>Ah cs p.1) out:=by have:∀{ps:List Part}{out:List D},Paired (λd v=>∃z w e,d=D.tup [.str z,.str w,.str e]/\Vg (Ah cs z) v) (ps.map p3) out->Paired (λk x=>Vg k x) (ps.map λp=>Ah cs p.1) out:=(by intro ps;induction ps with|nil=>(intro out h;cases h;exact .nil)|cons x ps ih=>intro out h;cases h with|cons r t=>obtain⟨z,w,e,e1,hv⟩:=r;injection e1 with e1;injection e1 with e1 _;injection e1 with e1;refine .cons ?_<|ih t;show Vg (Ah cs x.1) _;rw[show x.1=z from e1];exact hv);exact this E7
 refine{_,_,rfl,.inl aa,?_};have g2:=g1.trans<|Sub.new (c:=.lst out) nR;generalize S1.set p (.lst out)=S2 at g2⊢;refine{_,rfl,l,_,rfl,rfl,g2 _ _ hw,λd hd=>?_};obtain⟨z,hz,rfl⟩:=hd;refine{bW,_,rfl,bW,S,g2,?_};exact q (some (out,z,sd)) λg O6=>by cases O6;exact{hv,x5 hz,hsd}
noncomputable def y9:D->PyData|.int i=>.int i|.str z=>.str z|_=>.none
theorem Ji(hx:cQ x=true):Dp S x (y9 x)/\(y9 x).canLay0=true/\(y9 x).depth<=0:=by cases x with|ax=>exact{by simp only[Dp,y9],by simp only[y9,PyData.canLay0],by simp only[y9,PyData.depth];lia}|int i=>exact{by simp only[Dp,y9],by simp only[y9,PyData.canLay0],by simp only[y9,PyData.depth];lia}|str z=>refine{by simp only[Dp,y9],?_,by simp only[y9,PyData.depth];lia};unfold cQ at hx;simp only[zL]at hx;simp only[y9,PyData.canLay0];exact hx.2|_=>cases hx
theorem D6:∀{xs:List D},(∀x∈xs,cQ x=true)->DpAll S xs (xs.map y9)/\PyData.canLayAll0 (xs.map y9)=true/\PyData.depthAll (xs.map y9)<=0|[],_=>{by simp only[List.map_nil,DpAll],rfl,zU _}|x::xs,h=>by obtain⟨a,b,c⟩:=Ji (S:=S)<|h x zp;obtain⟨a',b',c'⟩:=D6 (S:=S) λy hy=>h y<|zi _ hy;exact{by simp only[zE,DpAll];exact{_,_,rfl,a,a'},by simp only[zE,PyData.canLayAll0,b,b',Bool.and_self],by simp only[zE,PyData.depthAll];lia}
theorem Sg.up:∀{n:Nat}{d:D},Sg cs n d->Sg cs (n+1) d|0,_,h=>h.elim|n+1,d,h=>by rcases h with h|⟨e,h1,h2⟩|⟨o,ds,h1,h2,h3,h4⟩;exact .inl h;exact .inr<|.inl ⟨e,h1,h2.up⟩;exact .inr<|.inr {o,ds,h1,h2,h3,λe he=>(h4 e he).up}
theorem D7:∀{l:List Str}{p:Str},((p::l).Pairwise λa b=>a.cps.toList<=b.cps.toList)->PyProof.Rows.risingS p l=true|[],p,_=>rfl|x::r,p,h=>by obtain⟨h1,h2⟩:=List.pairwise_cons.mp h;show(!PySem.Spec.ltCps x.cps.toList p.cps.toList&&PyProof.Rows.risingS x r)=true;rw[zL,PyProof.Rows.ltCps_eq,Bool.not_eq_true',decide_eq_false_iff_not];exact{List.not_lt.mpr<|h1 x zp,D7 h2}
theorem Jj(x:Str):∀{l:List Str},(l.Pairwise λa b=>a.cps.toList<=b.cps.toList)->∃m:List Str,m.Perm (x::l)/\m.Pairwise λa b=>a.cps.toList<=b.cps.toList|[],_=>{[x],.refl _,List.pairwise_singleton _ _}|y::l,h=>by obtain⟨h1,h2⟩:=List.pairwise_cons.mp h;by_cases q:x.cps.toList<=y.cps.toList;refine{x::y::l,.refl _,List.pairwise_cons.mpr {λz hz=>?_,h}};rcases zf.mp hz with rfl|hz;exact q;exact List.le_trans q<|h1 z hz;have q:y.cps.toList<=x.cps.toList:=(List.le_total _ _).resolve_left q;obtain⟨m,pm,pw⟩:=Jj x h2;refine{y::m,(pm.cons y).trans<|.swap x y l,List.pairwise_cons.mpr {λz hz=>?_,pw}};rcases zf.mp (pm.mem_iff.mp hz) with rfl|hz;exact q;exact h1 z hz
theorem lB(l:List Str):∃ss:List Str,ss.Perm l/\PyProof.Rows.sortedS ss=true:=by
 have:∃ss:List Str,ss.Perm l/\ss.Pairwise λa b=>a.cps.toList<=b.cps.toList:=by induction l with|nil=>exact{[],.refl _,.nil}|cons x l ih=>obtain⟨m,pm,pw⟩:=ih;obtain⟨k,pk,Wi⟩:=Jj x pw;exact{k,pk.trans<|pm.cons x,Wi}
 obtain⟨ss,pm,pw⟩:=this;refine{ss,pm,?_};cases ss with|nil=>rfl|cons x r=>exact D7 pw
structure Qn where
 w:Str
 ps:List Part
 wy:Str
 d:D
 n:Nat
 b:Option y6
noncomputable def qD(q:Qn):D:=.tup [.str q.w,dP q.ps q.wy,q.d,.int (q.n:Nat),FR q.b]
structure Qg(cs:List (Str×Str))(q:Qn):Prop where
 o:Og cs q.ps q.wy
 s:Sg cs 4 q.d
 n1:1<=q.n
 n2:q.n<=1000
 b:Bg cs q.ps q.b
noncomputable def fq(cs:List<|Str×Str)(q:Qn)(A:List Row):Nat×Nat:=if decide (q.w ="on")=true then Rf cs q.ps q.wy A q.b q.n else Rh cs q.ps q.wy A q.b q.n
theorem U_:(fq cs q A).1<=(fq cs q A).2/\(fq cs q A).2<=A.length:=by have h1:=Jf (cs:=cs) (ps:=q.ps) (wy:=q.wy) (A:=A) (n:=0) (zU _) q.b;have h2:=Jf (cs:=cs) (ps:=q.ps) (wy:=q.wy) (A:=A) (n:=A.length) (zk _) q.b;unfold fq;split;unfold Rf LY;dsimp only;lia;unfold Rh;dsimp only;lia
noncomputable def rW(cs:List<|Str×Str)(q:Qn)(A:List Row):List D:=if (seg A (fq cs q A).1 (fq cs q A).2).length=0 then bQ (A.map ak) (some ((B_ cs q.ps q.wy A 0 q.b:Nat):Int)) (some ((B_ cs q.ps q.wy A A.length q.b:Nat):Int)) else (seg A (fq cs q A).1 (fq cs q A).2).map ak
noncomputable def pY(cs:List<|Str×Str)(q:Qn)(A:List Row):List D:=(seg A (fq cs q A).1 (fq cs q A).2).map ak
noncomputable def Ng(cs:List<|Str×Str)(q:Qn)(A:List Row)(p1 p2 p3:Addr):D:=.tup [JI p1 (fq cs q A).1<|A.length-(fq cs q A).2,.ref p2,.int (A.length:Nat),.ref p3]
theorem Jl(hg:Gd cs)(hp:Pin cs ps)(hw:Wg cs r.2)(hk:r.1∈KS):cj (pX ps wy) (oU cs ps r) (oU cs ps r)=0:=(rQ D2 (n6 hg hp hw hk)<|n6 hg hp hw hk).mpr rfl
theorem An.at(hg:Gd cs)(hp:Pin cs ps)(h:An cs ps wy A)(e:A[i]?=some r):A.countP (gP cs ps wy<|Gg cs ps "ahead" r)=i/\A.countP (gP cs ps wy<|Gg cs ps "behind" r)=i+1:=by
 have hi:=(ze.mp e).1;have hr:=zx e;have lx:=List.pairwise_iff_getElem.mp<|h.lex hg hp;have lt:∀j a,j<i->A[j]?=some a->cj (pX ps wy) (oU cs ps a) (oU cs ps r)<0:=λj a hj ej=>by have:=lx j i (ze.mp ej).1 hi hj;rw[(ze.mp ej).2,(ze.mp e).2]at this;exact this
 have gt:∀j a,i<j->A[j]?=some a->0<cj (pX ps wy) (oU cs ps a) (oU cs ps r):=λj a hj ej=>by have hj':=(ze.mp ej).1;have:=lx i j hi hj' hj;rw[(ze.mp ej).2,(ze.mp e).2]at this;have ha:=zx ej;exact(y4 (n6 hg hp (h.rg.1 a ha)<|h.ky a ha)<|n6 hg hp (h.rg.1 r hr)<|h.ky r hr).mp this
 have me:=Jl (wy:=wy) hg hp (h.rg.1 r hr)<|h.ky r hr;constructor;refine(B6 (h.mono hg hp<|rV hg hp (h.rg.1 r hr) (h.ky r hr)<|by trivial) (yC hi) (λj a hj ej=>?_) λj a hj ej=>?_).symm;show(decide (cj (pX ps wy) (oU cs ps a) (oU cs ps r)<0)||_)=true;rw[zr<|lt j a hj ej];rfl;show(decide (cj (pX ps wy) (oU cs ps a) (oU cs ps r)<0)||(_&&decide (("ahead": Str) ="behind")))=false;rw[show decide (("ahead": Str) ="behind")=false by trivial,Bool.and_false,Bool.or_false,zo];rcases Nat.lt_or_ge i j with q|q;have:=gt j a q ej;lia;have:j=i:=by lia
 subst this;rw[e]at ej;cases ej;lia;refine(B6 (h.mono hg hp<|rV hg hp (h.rg.1 r hr) (h.ky r hr)<|by trivial) hi (λj a hj ej=>?_) λj a hj ej=>?_).symm;show(decide (cj (pX ps wy) (oU cs ps a) (oU cs ps r)<0)||(decide (cj (pX ps wy) (oU cs ps a) (oU cs ps r)=0)&&decide (("behind": Str) ="behind")))=true;rcases Nat.lt_or_ge j i with q|q;rw[zr<|lt j a q ej];rfl;have:j=i:=by lia
 subst this;rw[e]at ej;cases ej;rw[me];rfl;show(decide (cj (pX ps wy) (oU cs ps a) (oU cs ps r)<0)||(decide (cj (pX ps wy) (oU cs ps a) (oU cs ps r)=0)&&decide (("behind": Str) ="behind")))=false;have:=gt j a (by lia) ej;rw[zo<|by lia,zo<|by lia];rfl
inductive wq (t:hW) (ds:List D) (S:av) (R:KD) (Z:KX):Prop where
 |mk (a:Addr) (cs:List<|Str×Str) (q:Qn) (m:D) (no:Bool) (rows:List Row) (h0:ds=[.ref a,qD q,m]) (h1:Gd cs) (h2:Qg cs q) (h3:Vw t.aj S a cs m no rows) (h4:Jh rows) (h5:Tb t S) (h6:(no=true->Z t.aR S)) (h7:(no=false ->
 ∀(A:List Row)(p1 p3 p2:Addr),Jg cs q.ps q.wy 4 q.d rows A->S p1=none->(S.set p1<|.lst<|pY cs q A) p3=none->((S.set p1<|.lst<|pY cs q A).set p3<|.lst<|rW cs q A) p2=none->R (Ng cs q A p1 p2 p3) (((S.set p1<|.lst<|pY cs q A).set p3<|.lst<|rW cs q A).set p2<|.lst<|A.map ak))):wq t ds S R Z
def ZG(cs:List<|Str×Str)(ps:List Part)(rows:List Row)(v:D):Prop:=(rows=[]/\v=.ax)\/∃r0 r1,rows[0]?=some r0/\rows[rows.length-1]?=some r1/\v=.tup [tj<|Gg cs ps "ahead" r0,tj<|Gg cs ps "behind" r1]
inductive Jm (ds:List D) (S:av) (R:KD) (Z:KX):Prop where
 |mk (cs:List<|Str×Str) (ps:List Part) (wy:Str) (p:Addr) (rows:List Row) (b c:Nat) (h0:ds=[.tup<|cs.map aA,dP ps wy,JI p b c]) (h1:Gd cs) (h2:Pin cs ps) (h3:ps.length<=8) (h4:S p=some (.lst<|rows.map ak)) (h5:(∀r∈rows,Wg cs r.2)) (h6:∀v,ZG cs ps rows v->R v S):Jm ds S R Z
theorem Jn(T:Txt w K mg t):Ok P w base T.pT 4 Jm:=(Cc T).Hz <| by rintro ds S R Z ⟨cs,ps,wy,p,rows,b,c,e,h1,h2,h3,h4,h5,q⟩;exact{cs,ps,wy,p,rows,b,c,e,h1,h2,h3,h4,h5,λz=>q _<|.inl ⟨z,rfl⟩,λr0 r1 e0 e1=>q _<|.inr ⟨r0,r1,e0,e1,rfl⟩}
inductive iJ (t:hW) (ds:List D) (S:av) (R:KD) (Z:KX):Prop where
 |mk (a:_) (F:_) (cs:_) (dl:_) (rs:_) (h0:ds=[.ref a]) (h1:cn t.aj S a F cs dl rs) (h2:∀p,S p=none->R (.ref p) (S.set p<|.lst dl)):iJ t ds S R Z
theorem Cf(T:Txt w K mg t):Af P w mg base T.gA 1 (iJ t):=by refine T.gA.F.bX nI ?_;rintro _ _ _ _ _ _ _ S R Z hr ⟨a,F,cs,dl,rs,e,⟨ld,lr,ra,h,_⟩,q⟩;subst e;refine{_,(s1<|sr<|ct OT T.PB Kk<|ac (fl T.ai T.bR<|dv 0) an),?_};exact{_,rfl,a,_,_,rfl,h.ins,rfl,_,dl,rfl,.inl h.wI,λp hp=>fo<|q p hp}
theorem mK(T:Txt w K mg t)(B:Bm mg base):Ok P w base T.k9 11 (wq t):=by
 refine T.k9.F.bX bU ?_;rintro _ _ _ _ _ _ _ S R Z hr ⟨a,cs,q,m,no,rows,e0,hg,hq,hv,hk,ht,z,hR⟩;subst e0;have ho:=hq.o;obtain⟨F,dl,rs,hS,_⟩:=hv.sh;obtain⟨ld,lr,ra,hh,_⟩:=id hS;refine{_,(sc (sa (dv 1)<|gt (n:=5)<|gc (gn (i:=3) bU.nd)<|gc (gn (i:=4) bU.nd)<|gc (gn (i:=5) bU.nd)<|gc (gn (i:=6) bU.nd)<|gc (gn (i:=7) bU.nd) g0)<|sc (xq<|si (bh bj hr.u (dv 3) ds) (s1<|cF (i:=8) bU.nd<|aG T.vg (Ca T B) hr<|ac (dv 0)<|ac (dv 4)<|ac (dv 5)<|ac (dv 6)<|ac (dv 7)<|ac (dv 2) an)<|s1<|cF (i:=8) bU.nd<|aG T.nq (wo T B) hr<|ac (dv 0)<|ac (dv 4)<|ac (dv 5)<|ac (dv 6)<|ac (dv 7)<|ac (dv 2) an)<|sc (cF (i:=9) bU.nd<|aG T.pT (Jn T) hr<|ac (iQ (dv 0) T.ai T.aB (aM T) hr)<|ac (dv 4)<|ac (dv 8) an)<|sc (xq<|si (bh iO hr.u (dv 9) dn) (s1<|cF (i:=9) bU.nd<|bP<|ac (dv 7)<|ac (dv 7) an) s0)<|sc (cF (i:=10) bU.nd<|aG T.vh (Cb T B) hr<|ac (dv 0)<|ac (dv 4)<|ac (dv 5)<|ac (ix hr.u (dv 9) di)<|ac (ix hr.u (dv 9) di)<|ac (dv 2) an)<|s1<|sr<|bP<|ac (dv 8)<|ac (aG T.plain (IX T B) hr<|ac (dv 0)<|ac (dv 4)<|ac (dv 5)<|ac (dv 2) an)<|ac (aG T.qS (yW T) hr<|ac (dv 0)<|ac (dv 5)<|ac (dv 2) an)<|ac (dv 10) an),?_};refine{_,rfl,_,rfl,rfl,_,_,rfl,_,_,rfl,_,_,rfl,_,_,rfl,_,_,rfl,rfl,?_};refine{λaC S'=>∃(A:List Row) (p1:Addr),no=false/\Jg cs q.ps q.wy 4 q.d rows A/\S p1=none/\aC=[some<|.ref a,some<|qD q,some m,some<|.str q.w,some<|dP q.ps q.wy,some q.d,some<|.int (q.n:Nat),some<|FR q.b,some<|JI p1 (fq cs q A).1<|A.length-(fq cs q A).2,none,none]/\S'=S.set p1 (.lst<|pY cs q A),?_,?_};refine{_,rfl,_,rfl,bD (λh=>?_) λh=>?_};refine{_,rfl,_,rfl,_,rfl,_,rfl,_,rfl,_,rfl,a,cs,q.ps,q.wy,q.d,m,q.n,q.b,no,rows,rfl,hg,ho,hq.s,hq.n1,hq.n2,hq.b,hv,hk,ht,λh=>fo<|z h,λA3 A p hA hp=>fo {A,p,A3,hA,hp,?_,?_}};rw[show fq cs q A=Rf cs q.ps q.wy A q.b q.n from if_pos h];rfl;unfold pY;rw[show fq cs q A=Rf cs q.ps q.wy A q.b q.n from if_pos h];have h:¬(decide (q.w ="on")=true):=by rw[show decide (q.w ="on")=false from h];exact zd
 refine{_,rfl,_,rfl,_,rfl,_,rfl,_,rfl,_,rfl,a,cs,q.ps,q.wy,q.d,m,q.n,q.b,no,rows,rfl,hg,ho,hq.s,hq.n1,hq.n2,hq.b,hv,hk,ht,λh=>fo<|z h,λA3 A p hA hp=>fo {A,p,A3,hA,hp,?_,?_}};rw[show fq cs q A=Rh cs q.ps q.wy A q.b q.n from if_neg h];rfl;unfold pY;rw[show fq cs q A=Rh cs q.ps q.wy A q.b q.n from if_neg h];rintro aC S' ⟨A,p1,A3,hA,sZ,rfl,rfl⟩;subst A3;have DH:Sub S (S.set p1<|.lst<|pY cs q A):=.new sZ;have h1:(S.set p1<|.lst<|pY cs q A) p1=some (.lst<|pY cs q A):=aa;have hR:=hR rfl A p1;generalize S.set p1 (.lst<|pY cs q A)=S1 at DH h1 hR⊢;obtain⟨f1,f2⟩:=U_ (cs:=cs) (q:=q) (A:=A);have sl:=LX f1 f2;refine{_,rfl,a,_,rfl,DH _ _ hh.ins,rfl,a,F,cs,dl,rs,rfl,hS.sub DH,_,rfl,_,rfl,cs,q.ps,q.wy,p1,seg A (fq cs q A).1 (fq cs q A).2,_,_,rfl,hg,ho.pin,ho.len,h1,λr pF=>hA.an.rg.1 r<|List.mem_of_mem_drop<|List.mem_of_mem_take pF,λv QC=>?_};refine{λaC S'=>∃x y,aC=[some<|.ref a,some<|qD q,some m,some<|.str q.w,some<|dP q.ps q.wy,some q.d,some<|.int (q.n:Nat),some<|FR q.b,some<|JI p1 (fq cs q A).1<|A.length-(fq cs q A).2,some<|.tup [FR x,FR y],none]/\S'=S1/\Bg cs q.ps x/\Bg cs q.ps y/\bQ (A.map ak) (some ((B_ cs q.ps q.wy A 0 x:Nat):Int)) (some ((B_ cs q.ps q.wy A A.length y:Nat):Int))=rW cs q A,?_,?_};rcases QC with⟨ZH,rfl⟩|⟨r0,r1,e0,e1,rfl⟩;refine{_,rfl,_,rfl,cN {_,rfl,_,rfl,bW,fo {q.b,q.b,rfl,rfl,hq.b,hq.b,?_}}};unfold rW;rw[if_pos<|by rw[ZH];rfl];have mX:0<(seg A (fq cs q A).1 (fq cs q A).2).length:=(ze.mp e0).1;have e3:rW cs q A=(seg A (fq cs q A).1 (fq cs q A).2).map ak:=by unfold rW;rw[if_neg<|by lia]
 rw[sl]at mX;rw[D3<|by lia]at e0;rw[sl,D3<|by lia]at e1;have c0:=(hA.an.at hg ho.pin e0).1;have c1:=(hA.an.at hg ho.pin e1).2;have m0:=zx e0;have m1:=zx e1;refine{_,rfl,_,rfl,bb<|fo {some<|Gg cs q.ps "ahead" r0,some<|Gg cs q.ps "behind" r1,rfl,rfl,λg z=>by cases z;exact rV hg ho.pin (hA.an.rg.1 r0 m0) (hA.an.ky r0 m0)<|by trivial,λg z=>by cases z;exact rV hg ho.pin (hA.an.rg.1 r1 m1) (hA.an.ky r1 m1)<|by trivial,?_}};rw[e3];show bQ (A.map ak) (some ((A.countP (gP cs q.ps q.wy<|Gg cs q.ps "ahead" r0):Nat):Int)) (some ((A.countP (gP cs q.ps q.wy<|Gg cs q.ps "behind" r1):Nat):Int))=_;rw[c0,c1,Nat.add_zero,show(fq cs q A).1+((fq cs q A).2-(fq cs q A).1-1)+1=(fq cs q A).2 by lia,D4 f1 f2];rintro aC S1 ⟨x,y,rfl,rfl,hx,hy,ec⟩;have hv1:=hv.sub DH;refine{_,rfl,_,rfl,_,rfl,_,rfl,_,rfl,_,rfl,_,rfl,_,rfl,a,cs,q.ps,q.wy,q.d,m,x,y,rows,rfl,hg,ho,hq.s,hx,hy,hv1,hk,ht.sub DH,λA' p3 ZI Dx=>?_};cases ZI.one hg ho.pin hA;rw[ec];have LM:Sub S1 (S1.set p3<|.lst<|rW cs q A):=.new Dx;have hR:=hR p3;have hR:=λp2 h2=>hR p2 hA sZ Dx h2;generalize S1.set p3 (.lst<|rW cs q A)=S3 at LM hR⊢;have Ot:=hv1.sub LM;refine{_,rfl,_,rfl,_,rfl,_,rfl,_,rfl,a,cs,q.ps,q.wy,q.d,m,rows,rfl,hg,ho,hq.s,Ot,(ht.sub DH).sub LM,λA' p2 pm pw fV=>?_};cases (wg hv.rg hk pm pw).one hg ho.pin hA;have AO:Sub S3 (S3.set p2<|.lst<|A.map ak):=.new fV;refine{_,rfl,_,rfl,_,rfl,a,cs,q.d,m,rows,rfl,hg,hq.s,Ot.sub AO,_,rfl,nJ,?_};rw[<-hA.pm.length_eq];exact fo<|hR p2 fV
inductive oY (t:hW) (ds:List D) (S:av) (R:KD) (Z:KX):Prop where
 |mk (a:Addr) (cs:List<|Str×Str) (q:Qn) (m:D) (rows:List Row) (h0:ds=[.ref a,qD q,m]) (h1:Gd cs) (h2:Qg cs q) (h3:Vw t.aj S a cs m true rows) (h4:Jh rows) (h5:Tb t S) (h6:R (.bl true) S):oY t ds S R Z
theorem Cg(T:Txt w K mg t)(B:Bm mg base):Ok P w base T.nG 12 (oY t):=by refine T.nG.F.bX eZ ?_;rintro _ _ _ _ _ _ _ S R Z hr ⟨a,cs,q,m,rows,e0,hg,hq,hv,hk,ht,hR⟩;subst e0;refine{_,(sc (cF (i:=3) eZ.nd db)<|sc (xq<|Yi (i:=4) eZ.nd T.vo ⟨T.jj⟩ (s1<|se<|aG T.k9 (mK T B) hr<|ac (dv 0)<|ac (dv 1)<|ac (dv 2) an) λ_=>(s1<|cF (i:=3) eZ.nd<|cbn TU T.aw aq<|ac (dv 4)<|ac (dg (v:=.ref t.aR) T.oB rfl λ_=>fi _) an))<|s1<|sr<|dv 3),?_};refine{λaC S'=>aC=[some<|.ref a,some<|qD q,some m,some<|.bl true,none]/\Sub S S',?_,?_};refine{_,rfl,_,rfl,_,rfl,a,cs,q,m,true,rows,rfl,hg,hq,hv,hk,ht,λ_=>{T.cB,λe he=>?_},λh=>by cases h};exact{_,rfl,e,t.aR,_,_,rfl,aa,⟨T.ia⟩,T.jk,.inl {_,rfl,T.k_NoMoment_NoMoment},fo {rfl,.new he}};rintro aC S' ⟨rfl,sb⟩;exact{_,rfl,S,sb,hR}
noncomputable def JJ(r:Row):PyData:=.tuple [.str r.1,.tuple<|r.2.map y9]
theorem Qf(hw:Wg cs r.2):Dr S (ak r) (JJ r):=by refine .tup<|.cons (.str _)<|.cons (.tup ?_) .nil;have h:=Wg.all hw;generalize r.2=ws at h;induction ws with|nil=>exact .nil|cons v ws ih=>refine .cons ?_<|ih λd hd=>h d<|zi _ hd;have hv:=h v zp;cases v<;>first|exact .ax|exact .int _|exact .str _|cases hv
theorem pZ:∀{rows:List Row},(∀r∈rows,Wg cs r.2)->Gf S (rows.map ak) (rows.map JJ)|[],_=>.nil|r::rows,h=>.cons (Qf<|h r zp)<|pZ λx hx=>h x<|zi _ hx
theorem L6(hw:Wg cs r.2)(hk:r.1∈KS):(JJ r).canLay0=true/\(JJ r).depth<=2:=by obtain⟨_,b,c⟩:=D6 (S:=λ_=>none)<|Wg.all hw;have z:=(eR _ hk).2.2;unfold JJ;refine{by simp only[PyData.canLay0,PyData.canLayAll0,z,b,Bool.and_self],?_};simp only[PyData.depth,PyData.depthAll];lia
theorem mL:∀{rows:List Row},(∀r∈rows,Wg cs r.2)->Jh rows->PyData.canLayAll0 (rows.map JJ)=true/\PyData.depthAll (rows.map JJ)<=2|[],_,_=>{rfl,zU _}|r::rows,h,k=>by obtain⟨a,b⟩:=L6 (h r zp)<|k r zp;obtain⟨a',b'⟩:=mL (λx hx=>h x<|zi _ hx) λx hx=>k x<|zi _ hx;exact{by simp only[zE,PyData.canLayAll0,a,a',Bool.and_self],by simp only[zE,PyData.depthAll];lia}
theorem Jo(A:List Row)(lo hi:Option Int):bQ (A.map ak) lo hi=(bQ A lo hi).map ak:=by unfold bQ;rw[zc,List.map_take,List.map_drop]
theorem L7(h:r∈bQ A lo hi):r∈A:=List.mem_of_mem_drop<|List.mem_of_mem_take h
noncomputable def Ri(cs:List<|Str×Str)(q:Qn)(A:List Row):List Row:=if (seg A (fq cs q A).1 (fq cs q A).2).length=0 then bQ A (some ((B_ cs q.ps q.wy A 0 q.b:Nat):Int)) (some ((B_ cs q.ps q.wy A A.length q.b:Nat):Int)) else seg A (fq cs q A).1 (fq cs q A).2
theorem Qh:rW cs q A=(Ri cs q A).map ak:=by unfold rW Ri;split;exact Jo _ _ _;rfl
theorem wu(h:r∈Ri cs q A):r∈A:=by unfold Ri at h;split at h;exact L7 h;exact List.mem_of_mem_drop<|List.mem_of_mem_take h
noncomputable def Va(cs:List<|Str×Str)(q:Qn)(A:List Row):PyData:=.tuple [.tuple [.list<|(seg A (fq cs q A).1 (fq cs q A).2).map JJ,.int ((fq cs q A).1:Nat),.int<|(A.length-(fq cs q A).2:Nat)],.list<|A.map JJ,.int (A.length:Nat),.list<|(Ri cs q A).map JJ]
theorem Nh{cs:List<|Str×Str}{ps:List Part}{wy:Str}{q:Qn}{A:List Row}(h:An cs ps wy A){S:av}{p1 p2 p3:Addr}(h1:S p1=some (.lst<|pY cs q A))(h2:S p2=some (.lst<|A.map ak))(h3:S p3=some (.lst<|rW cs q A)):Dr S (Ng cs q A p1 p2 p3) (Va cs q A):=by rw[Qh]at h3;refine .tup<|.cons (.tup<|.cons (.ref h1<|pZ λr hr=>h.rg.1 r<|List.mem_of_mem_drop<|List.mem_of_mem_take hr)<|.cons (.int _)<|.cons (.int _) .nil)<|.cons (.ref h2<|pZ h.rg.1)<|.cons (.int _)<|.cons (.ref h3<|pZ λr hr=>h.rg.1 r<|wu hr) .nil
theorem wx(h:An cs ps wy A):(Va cs q A).canLay0=true/\(Va cs q A).depth<=64:=by have s:∀r∈seg A (fq cs q A).1 (fq cs q A).2,r∈A:=λr hr=>List.mem_of_mem_drop<|List.mem_of_mem_take hr;obtain⟨a1,b1⟩:=mL (λr hr=>h.rg.1 r<|s r hr) λr hr=>h.ky r<|s r hr;obtain⟨a2,b2⟩:=mL h.rg.1 h.ky;obtain⟨a3,b3⟩:=mL (rows:=Ri cs q A) (λr hr=>h.rg.1 r<|wu hr) λr hr=>h.ky r<|wu hr;unfold Va;refine{by simp only[PyData.canLay0,PyData.canLayAll0,a1,a2,a3,Bool.and_self],?_};simp only[PyData.depth,PyData.depthAll];lia
noncomputable def D_(k:Kn):List Row:=oR k (Classical.choose (lB (k.map (·.1))))
structure Hk(rs:lH)(cs:List (Str×Str))(dl:List D)(ks:List Kn):Prop where
 len:ks.length=dl.length+1
 z:ks[0]?=some []
 ki:∀k∈ks,KI cs k
 st:∀i d k k',dl[i]?=some d->ks[i]?=some k->ks[i+1]?=some k'->GD KS cs k d/\P0 k d k'
 wv:∀(m:Nat) k,ks[m]?=some k->∀z,wt ((lu rs z).getD []) m=wL k z
theorem Hk.snap(h:Hk rs cs dl ks)(e:ks[m]?=some k):Snap rs cs m (D_ k):={k,_,rfl,h.ki k<|zx e,(Classical.choose_spec (lB (k.map (·.1)))).1,(Classical.choose_spec (lB (k.map (·.1)))).2,h.wv m k e}
theorem Hk.nil(cs:List<|Str×Str):Hk [] cs [] [[]]:=by refine{rfl,rfl,λk hk=>by rw[zD.mp hk];exact KI.nil cs,λi d k k' h=>by simp at h,λm k e z=>?_};cases m with|zero=>(cases e;rfl)|succ m=>simp at e
theorem Hk.add{rs bN:lH}{cs:List<|Str×Str}{dl:List D}{ks:List Kn}(h:Hk rs cs dl ks){kn cL:Kn}{d:D}(hl:ks[dl.length]?=some kn)(hd:GD KS cs kn d)(hk:P0 kn d cL)(hI:KI cs cL)(hR:RI bN (dl.length+1) cL) (old:∀z m,m<=dl.length->wt ((lu bN z).getD []) m=wt ((lu rs z).getD []) m):Hk bN cs (dl++[d]) (ks++[cL]):=by
 have len:=h.len;have at_:∀{m:Nat}{k:Kn},(ks++[cL])[m]?=some k->(m<=dl.length/\ks[m]?=some k)\/(m=dl.length+1/\k=cL):=λ{m k} e=>by by_cases q:m<ks.length;rw[List.getElem?_append_left q]at e;exact .inl {by lia,e};rw[List.getElem?_append_right<|by lia]at e;cases q2:m-ks.length with|zero=>(rw[q2]at e;cases e;exact .inr {by lia,rfl})|succ j=>rw[q2]at e;simp at e
 refine{by rw[zG,zG,len];rfl,by rw[List.getElem?_append_left<|by lia];exact h.z,λk AK=>?_,λi d' k k' h1 h2 h3=>?_,λm k e z=>?_};rcases zJ.mp AK with q|q;exact h.ki k q;rw[zD.mp q];exact hI;rcases at_ h2 with⟨q1,g2⟩|⟨q1,_⟩;rcases at_ h3 with⟨q2,g3⟩|⟨q2,rfl⟩;rw[List.getElem?_append_left<|by lia]at h1;exact h.st i d' k k' h1 g2 g3;have:i=dl.length:=by lia
 subst this;rw[List.getElem?_append_right<|zk _,Nat.sub_self]at h1;cases h1;rw[hl]at g2;cases g2;exact⟨hd,hk⟩;rw[q1,List.getElem?_eq_none<|by rw[zG,len];show dl.length+1+1<=_;lia]at h3;cases h3;rcases at_ e with⟨q1,e⟩|⟨rfl,rfl⟩;rw[old z m q1];exact h.wv m k e z;exact hR.wt z
theorem Hk.last{rs:lH}{cs:List<|Str×Str}{dl:List D}{ks:List Kn}{d:D}{k:Kn}(h:ks.length=dl.length+1):(ks++[k])[(dl++[d]).length]?=some k:=by rw[zG,List.getElem?_append_right<|by rw[h];exact zk _,h];simp
section
variable{t:hW}{S0 S:av}{a:Addr}{fs:List (Addr×Ce)}{F:List Addr}{cs:List (Str×Str)}{dl:List D}{rs:lH}{kn cL:Kn}{ks:List Kn}{d:D}{R:KD}{Z:KX}
structure Sk(t:hW)(S0:av)(a:Addr)(fs:List (Addr×Ce))(F:List Addr)(cs:List (Str×Str))(dl:List D)(rs:lH)(kn:Kn)(ks:List Kn)(S:av):Prop where
 st:St t S0 a fs F cs dl rs S
 ri:RI rs dl.length kn
 hk:Hk rs cs dl ks
 at_:ks[dl.length]?=some kn
theorem Sk.ki(h:Sk t S0 a fs F cs dl rs kn ks S):KI cs kn:=h.hk.ki kn<|zx h.at_
theorem Sk.with{S':av}{wN:List<|Addr×Ce}(h:Sk t S0 a fs F cs dl rs kn ks S)(st:St t S0 a wN F cs dl rs S'):Sk t S0 a wN F cs dl rs kn ks S':=⟨st,h.ri,h.hk,h.at_⟩
theorem Sk.step(h:Sk t S0 a fs F cs dl rs kn ks S)(hg:Gd cs)(hl:dl.length<=100)(hd:GD KS cs kn d)(Rb:P0 kn d cL)(Vb:KI cs cL)(q:∀S' F' bN,Sk t S0 a fs F' cs (dl++[d]) bN cL (ks++[cL]) S'->R .ax S'):ZA t [.ref a,d] S R Z:=FP h.st.sh hg h.ki h.ri hl hd Rb λS4 F4 rs4 hS4 hK4 hR4 hold=>q S4 F4 rs4 {h.st.ZD hS4 hK4,by rw[zG];exact hR4,h.hk.add h.at_ hd Rb Vb hR4 hold,Hk.last (rs:=rs) (cs:=cs) h.hk.len}
theorem Sk.vw(h:Sk t S0 a fs F cs dl rs kn ks S)(e:ks[m]?=some k):Vw t.aj S a cs (.int (m:Nat)) false (D_ k):=by
 have hm:m<=dl.length:=by have:=(ze.mp e).1;have:=h.hk.len;lia
 refine(h.hk.snap e).vw h.st.sh h.ri ?_ gt_int;show(if 0<=((m:Nat):Int)/\((m:Nat):Int)<=((dl.length:Nat):Int) then some ((m:Nat):Int) else none)=_;rw[if_pos<|by lia]
theorem Sk.now(h:Sk t S0 a fs F cs dl rs kn ks S):Vw t.aj S a cs .ax false (D_ kn):=(h.hk.snap h.at_).vw h.st.sh h.ri rfl rC
theorem Sk.key(h:Sk t S0 a fs F cs dl rs kn ks S){m:Nat}{k:Kn}(e:ks[m]?=some k):Jh (D_ k):=(h.hk.snap e).key
theorem Sk.no(h:Sk t S0 a fs F cs dl rs kn ks S):Vw t.aj S a cs (.int<|(dl.length:Nat)+1) true []:=by
 have hm:pE dl.length (.int<|(dl.length:Nat)+1)=none:=by show(if 0<=(((dl.length:Nat):Int)+1)/\(((dl.length:Nat):Int)+1)<=((dl.length:Nat):Int) then some _ else none)=_;rw[if_neg<|by lia]
 refine{{F,dl,rs,h.st.sh,by have:=h.ri.len h.st.sh;lia,λ_=>rfl,λ_=>hm,λi ss hi=>by rw[hm]at hi;cases hi},gt_int,by decide,{λ_ h=>(nomatch h),List.nodup_nil}}
theorem Sk.all(h:Sk t S0 a fs F cs dl rs kn ks S)(sb:Sub S S1)(k:∀p,S1 p=none->R' (.ref p) (S1.set p<|.lst<|(D_ kn).map ak)):W (M4 t.aj t.aR) [.ref a,.ax] S1 R' Z':={a,F,cs,dl,rs,_,rfl,h.st.sh.sub sb,by have:=h.ri.len h.st.sh;lia,rC,λi ss hi hp hs p nR=>by cases hi;rw[uy (h.hk.snap h.at_) h.st.sh hp hs];exact k p nR,λh=>by cases h}
end
structure En where
 q:Qn
 m:Nat
 A:List Row
 p1:Addr
 p2:Addr
 p3:Addr
noncomputable def iP(cs:List<|Str×Str)(e:En):D:=.tup [qD e.q,.int (e.m:Nat),Ng cs e.q e.A e.p1 e.p2 e.p3]
noncomputable def Gi(cs:List<|Str×Str)(e:En):List (Addr×Ce):=[(e.p1,.lst<|pY cs e.q e.A),(e.p3,.lst<|rW cs e.q e.A),(e.p2,.lst<|e.A.map ak)]
structure y_(cs:List (Str×Str))(ks:List Kn)(e:En):Prop where
 q:Qg cs e.q
 ex:∃k,ks[e.m]?=some k/\Jg cs e.q.ps e.q.wy 4 e.q.d (D_ k) e.A
theorem y_.more(h:y_ cs ks e):y_ cs (ks++ks') e:=by obtain⟨k,e1,e2⟩:=h.ex;exact{h.q,k,by rw[List.getElem?_append_left (ze.mp e1).1];exact e1,e2}
def JC(cs:List<|Str×Str)(S:av)(e:En):Prop:=S e.p1=some (.lst<|pY cs e.q e.A)/\S e.p2=some (.lst<|e.A.map ak)/\S e.p3=some (.lst<|rW cs e.q e.A)
theorem JC.sub(h:JC cs S e)(b:Sub S S'):JC cs S' e:={b _ _ h.1,b _ _ h.2.1,b _ _ h.2.2}
theorem JC.dr(h:JC cs S e)(a:An cs ps wy e.A):Dr S (Ng cs e.q e.A e.p1 e.p2 e.p3) (Va cs e.q e.A):=Nh a h.1 h.2.1 h.2.2
def Ld(S:av)(n:Nat)(d:D):Prop:=∃p,Dr S d p/\p.canLay0=true/\p.depth<=n
theorem Ld.le(h:Ld S n d)(l:n<=m):Ld S m d:=by obtain⟨p,a,b,c⟩:=h;exact{p,a,b,zK c l}
theorem Ld.all:∀{ds:List D},(∀d∈ds,Ld S n d)->∃ps,Gf S ds ps/\PyData.canLayAll0 ps=true/\PyData.depthAll ps<=n/\ps.length=ds.length|[],_=>{[],.nil,rfl,zU _,rfl}|d::ds,h=>by obtain⟨p,a,b,c⟩:=h d zp;obtain⟨ps,a',b',c',e⟩:=Ld.all λx hx=>h x<|zi _ hx;exact{p::ps,.cons a a',by simp only[PyData.canLayAll0,b,b',Bool.and_self],by simp only[PyData.depthAll];lia,by rw[zO,zO,e]}
theorem Ld.tup{S:av}{n:Nat}{ds:List D}(h:∀d∈ds,Ld S n d):Ld S (n+1) (.tup ds):=by obtain⟨ps,a,b,c,_⟩:=Ld.all h;exact{.tuple ps,.tup a,by simp only[PyData.canLay0];exact b,by simp only[PyData.depth];lia}
theorem Ld.int(i:Int):Ld S 0 (.int i):={.int i,.int i,by simp only[PyData.canLay0],by simp only[PyData.depth];lia}
theorem Ld.plain(h:cQ d=true):Ld S 0 d:=by obtain⟨_,b,c⟩:=Ji (S:=S) h;refine{y9 d,?_,b,c};cases d<;>first|exact .ax|exact .int _|exact .str _|cases h
theorem Ld.str(h:PyData.strOk z=true):Ld S 0 (.str z):={.str z,.str z,by simp only[PyData.canLay0];exact h,by simp only[PyData.depth];lia}
theorem Ea{cs:List<|Str×Str}(hN:∀c∈cs,c.1∈vZ){c:Str×Str}(h:c∈cs):PyData.strOk c.1=true:=(BP _<|hN c h).2
theorem Sg.ld{cs:List<|Str×Str}(hN:∀c∈cs,c.1∈vZ){S:av} : ∀{n:Nat}{d:D},Sg cs n d->Ld S (2*n) d
 |0,_,h=>h.elim
 |n+1,d,h=>by
  rcases h with (rfl|⟨ks,rfl,_,hk⟩|⟨o,c,v,hc,hv,hw,rfl⟩)|⟨e,rfl,h2⟩|⟨o,ds,ho,rfl,h3,h4⟩;exact(Ld.tup (n:=1) λx hx=>by rw[zD.mp hx];exact(Ld.str<|by trivial).le<|by decide).le (by lia);refine(Ld.tup (n:=1) λx hx=>?_).le (by lia);simp only[zf,zB,or_false]at hx;rcases hx with rfl|rfl;exact(Ld.str<|by trivial).le (by decide);refine Ld.tup λx hx=>?_;obtain⟨k,AK,rfl⟩:=zh.mp hx;exact Ld.str (eR k<|hk k AK).2.2;have ho:PyData.strOk o=true:=by rcases hw with rfl|⟨_,rfl|rfl|⟨rfl,_⟩⟩<;>decide +kernel
  refine(Ld.tup (n:=1) λx hx=>?_).le (by lia);simp only[zf,zB,or_false]at hx;rcases hx with rfl|rfl|rfl;exact(Ld.str ho).le (by decide);exact(Ld.str<|Ea hN hc).le (by decide);exact(Ld.plain hv.2).le (by decide);refine(Ld.tup (n:=2*n) λx hx=>?_).le (by lia);simp only[zf,zB,or_false]at hx;rcases hx with rfl|rfl;exact(Ld.str<|by trivial).le (by lia);exact h2.ld hN;refine Ld.tup (n:=2*n+1) λx hx=>?_;simp only[zf,zB,or_false]at hx;rcases hx with rfl|rfl;exact(Ld.str<|by rcases ho with rfl|rfl<;>decide +kernel).le (by lia);exact Ld.tup λx hx=>(h4 x hx).ld hN
theorem Jp(h:j6 z=true):PyData.strOk z=true:=by rcases pW h with rfl|rfl<;>decide +kernel
theorem Qi(h:v7 z=true):PyData.strOk z=true:=by unfold v7 at h;simp only[Bool.or_eq_true,yb]at h;rcases h with rfl|rfl<;>decide +kernel
theorem L8(h:uA z=true):PyData.strOk z=true:=by unfold uA at h;simp only[Bool.or_eq_true,yb]at h;rcases h with rfl|rfl<;>decide +kernel
theorem Og.ld{cs:List<|Str×Str}(hN:∀c∈cs,c.1∈vZ){ps:List Part}{wy:Str}(h:Og cs ps wy){S:av} : Ld S 3 (dP ps wy):=by have hk:=h.ok;unfold yP at hk;simp only[zL,yh]at hk;refine Ld.tup λx hx=>?_;simp only[zf,zB,or_false]at hx;rcases hx with rfl|rfl;refine Ld.tup λx hx=>?_;obtain⟨p,hp,rfl⟩:=zh.mp hx;have Dx:=hk.2.1 p hp;unfold fJ at Dx;simp only[zL]at Dx;obtain⟨c,hc,ec⟩:=h.pin p hp;refine Ld.tup λx hx=>?_;simp only[zf,zB,or_false]at hx;rcases hx with rfl|rfl|rfl;rw[<-ec];exact Ld.str<|Ea hN hc;exact Ld.str<|Jp Dx.2.1;exact Ld.str<|Qi Dx.2.2;exact(Ld.str<|Jp h.way).le<|by decide
theorem Bg.ld{cs:List<|Str×Str}{ps:List Part}{b:Option y6}(h:Bg cs ps b){S:av} : Ld S 3 (FR b):=by cases b with|none=>exact(Ld.plain rfl).le (by decide)|some g=>have hg:=h g rfl;refine Ld.tup λx hx=>?_;simp only[zf,zB,or_false]at hx;rcases hx with rfl|rfl;refine Ld.tup λx hx=>?_;simp only[zf,zB,or_false]at hx;rcases hx with rfl|rfl;refine Ld.tup λx hx=>?_;obtain⟨i,e⟩:=List.getElem?_of_mem hx;obtain⟨k,_,hv⟩:=dq hg.pv e;exact Ld.plain hv.2;exact(Ld.str (eR _ hg.key).2.2).le (by decide);exact(Ld.str<|L8 hg.side).le<|by decide
theorem Qg.ld{cs:List<|Str×Str}(hN:∀c∈cs,c.1∈vZ){q:Qn}(h:Qg cs q)(hw:PyData.strOk q.w=true){S:av} : Ld S 9 (qD q):=by refine Ld.tup λx hx=>?_;simp only[zf,zB,or_false]at hx;rcases hx with rfl|rfl|rfl|rfl|rfl;exact(Ld.str hw).le (by decide);exact(h.o.ld hN).le (by decide);exact h.s.ld hN;exact(Ld.int _).le (by decide);exact h.b.ld.le<|by decide
theorem y_.ld{cs:List<|Str×Str}(hN:∀c∈cs,c.1∈vZ){ks:List Kn}{e:En}(h:y_ cs ks e)(hw:PyData.strOk e.q.w=true){S:av}(hs:JC cs S e):Ld S 65 (iP cs e):=by obtain⟨k,_,hA⟩:=h.ex;refine Ld.tup λx hx=>?_;simp only[zf,zB,or_false]at hx;rcases hx with rfl|rfl|rfl;exact(h.q.ld hN hw).le (by decide);exact(Ld.int _).le (by decide);exact{_,hs.dr hA.an,(wx hA.an).1,(wx hA.an).2}
theorem L9{S:av}{a b:Addr}{ds:List D}{R:KD}{n:Nat}(e1:S a=some (.lst ds))(e2:S b=some (.lst []))(h:∀d∈ds,Ld S n d)(q:R (.bl ds.isEmpty) S):Uw false (.ref a) (.ref b) S R:=by obtain⟨ps,k1,k2,k3,k4⟩:=Ld.all h;refine{.list ps,.list [],.ref e1 k1,.ref e2 .nil,by simp only[PyData.canLay0];exact k2,by simp only[PyData.canLay0,PyData.canLayAll0],.inr<|by simp only[PyData.depth,PyData.depthAll];lia,?_};rw[if_neg zd,rG,show ps.isEmpty=ds.isEmpty by cases ps<;>cases ds<;>first|rfl|cases k4];exact q
section
variable{cs:List (Str×Str)}{kn cL:Kn}{d:D}
def Ka(j:Nat)(kn:Kn):Prop:=∀x∈kn.map (·.1),x∈KT\/∃i,i<j/\x=kj i
theorem Ka.many(h:Ka j kn)(hI:KI cs kn)(hm:ZC cs j d):GD KS cs kn d/\∃cL,P0 kn d cL/\KI cs cL/\Ka (j+1) cL:=by
 obtain⟨hj,ws,hw,rfl⟩:=hm;obtain⟨k1,k2⟩:=U1 j hj;have hn:gm kn (kj j)=none:=by cases q:gm kn (kj j) with|none=>rfl|some w=>exfalso;rcases h (kj j) (zh.mpr {_,mx q,rfl}) with z|⟨i,hi,e⟩;exact k2 z;have:=Qd j hj i (by lia) e;lia
 have hz:=zw KT k1;refine{.inl {kj j,ws,hz,hw,hn,rfl},_,.inl {"put",kj j,ws,.inl rfl,rfl,rfl},hI.put hz hw,λx hx=>?_};rcases FQ hx with rfl|hx;exact .inr {j,yx _,rfl};exact(h x hx).imp id <| by rintro⟨i,hi,e⟩;exact{i,by lia,e}
end
inductive Jq (t:hW) (ds:List D) (S:av) (R:KD) (Z:KX):Prop where
 |mk (ns:List Int) (h0:ds=[.iM<|ns.map D.int]) (h1:ns.length<=63) (h2:Tb t S) (h3:R (.bl true) S):Jq t ds S R Z
theorem Eb(hg:Gd cs)(hq:Qg cs q)(hv:Vw t.aj S a cs m false rows)(hk:Jh rows)(ht:Tb t S) (k:∀(A:List Row)(p1 p3 p2:Addr),Jg cs q.ps q.wy 4 q.d rows A->S p1=none->(S.set p1<|.lst<|pY cs q A) p3=none->((S.set p1<|.lst<|pY cs q A).set p3<|.lst<|rW cs q A) p2=none->R (Ng cs q A p1 p2 p3) (((S.set p1<|.lst<|pY cs q A).set p3<|.lst<|rW cs q A).set p2<|.lst<|A.map ak)):W (wq t) [.ref a,qD q,m] S R Z:={a,cs,q,m,false,rows,rfl,hg,hq,hv,hk,ht,nofun,λ_=>k}
theorem n8(hg:Gd cs)(hq:Qg cs e.q)(hA:Jg cs e.q.ps e.q.wy 4 e.q.d (D_ k) e.A)(hv:Vw t.aj S a cs m false<|D_ k)(hk:Jh<|D_ k)(ht:Tb t S)(hs:JC cs S e) (q:∀v S',Sub S S'->(∀neg (R':KD),R' (.bl<|!neg) S'->Uw neg v (Ng cs e.q e.A e.p1 e.p2 e.p3) S' R')->R v S'):W (wq t) [.ref a,qD e.q,m] S R Z:=Eb hg hq hv hk ht λA p1 p3 p2 ZI h1 h3 h2=>by cases ZI.one hg hq.o.pin hA;have s1:Sub S (S.set p1<|.lst<|pY cs e.q e.A):=.new h1;have a1:(S.set p1<|.lst<|pY cs e.q e.A) p1=some (.lst<|pY cs e.q e.A):=aa;generalize S.set p1 (.lst<|pY cs e.q e.A)=S1 at s1 a1 h3 h2⊢;have s3:Sub S1 (S1.set p3<|.lst<|rW cs e.q e.A):=.new h3;have a3:(S1.set p3<|.lst<|rW cs e.q e.A) p3=some (.lst<|rW cs e.q e.A):=aa;generalize S1.set p3 (.lst<|rW cs e.q e.A)=S3 at s3 a3 h2⊢;have s2:Sub S3 (S3.set p2<|.lst<|e.A.map ak):=.new h2;have a2:(S3.set p2<|.lst<|e.A.map ak) p2=some (.lst<|e.A.map ak):=aa;generalize S3.set p2 (.lst<|e.A.map ak)=S2 at s2 a2⊢;have sb:=(s1.trans s3).trans s2;refine q _ S2 sb λneg R' hr=>HX (Nh hA.an (s2 _ _<|s3 _ _ a1) a2<|s2 _ _ a3) ((hs.sub sb).dr hA.an) (wx hA.an).1 (wx hA.an).2 hr
def Vc(t:hW)(S0:av)(a lk lq:Addr)(fx:List<|Addr×Ce)(cs:List<|Str×Str)(i:Nat)(S:av):Prop:=∃(F:List Addr)(dl:List D)(rs:lH)(kn:Kn)(ks:List Kn)(es:List En),dl.length<=30+i/\Sk t S0 a ((lk,.cA<|g7 kn)::(lq,.lst<|es.map<|iP cs)::(fx++es.flatMap (Gi cs))) F cs dl rs kn ks S/\(∀e∈es,y_ cs ks e/\PyData.strOk e.q.w=true)/\es.length<=6/\(0<i->es≠[])
theorem St.tail(h:St t S0 a (x::fs) F cs dl rs S):St t S0 a fs F cs dl rs S:=h.less (ye.mp h.nd).2 λy hy=>zi _ hy
theorem Ni{S0 S:av}{a lk lq:Addr}{fx:List<|Addr×Ce}{F:List Addr}{cs:List<|Str×Str}{dl:List D}{rs:lH}{c1 c2:Ce}{es:List En}(h:St t S0 a ((lk,c1)::(lq,c2)::(fx++es.flatMap (Gi cs))) F cs dl rs S){e:En}(he:e∈es):JC cs S e:=by have m:∀x∈Gi cs e,x∈(lk,c1)::(lq,c2)::(fx++es.flatMap (Gi cs)):=λx hx=>zi _<|zi _<|zw _<|List.mem_flatMap.mpr ⟨e,he,hx⟩;exact{(h.fa _<|m (e.p1,_)<|by simp[Gi]).1,(h.fa _<|m (e.p2,_)<|by simp[Gi]).1,(h.fa _<|m (e.p3,_)<|by simp[Gi]).1}
theorem L_(T:Txt w K mg t)(B:Bm mg base):Ok P w base T.YW 20 (Jq t):=by
 have rX:Ok P w base T.nF 7 (ZA t):=(LF T).Hz λds S R Z h=>h.of;refine T.YW.F.bX bV ?_;rintro _ _ _ _ _ _ _ S R Z hr ⟨ns,e,Pa,VG,q⟩;subst e;refine{_,(sc (cF (i:=1) bV.nd<|aG T.nE (BR T) hr<|ac (aG T.qZ (vX T) hr<|ac (aG T.eB (fH T) hr<|ac (dv 0)<|ac di an) an) an)<|sc (cF (i:=2) bV.nd<|mk T.xP (Dw T) (hr.mono<|by decide) T.xO T.dH.b d0<|ac (dv 1) an)<|sc (cF (i:=3) bV.nd SN)<|sc (cF (i:=4) bV.nd<|dR an)<|sc (xq<|si (bh bj hr.u (bo i8 hr.u (aG T.eB (fH T) hr<|ac (dv 0)<|ac di an) di) di) (s1<|Hy (il<|aG T.BA (LV T) hr<|ac (aG T.qZ (vX T) hr<|ac (aG T.eB (fH T) hr<|ac (dv 0)<|ac di an) an)<|ac (dv 1)<|ac di<|ac di an) (gn (i:=5) bV.nd)<|sc (se<|aG T.pU (x_ T) hr<|ac (dv 3)<|ac (dv 5) an)<|s1<|se<|aG T.nF rX hr<|ac (dv 2)<|ac (dv 5) an) s0)<|sc (xq<|Hy (il<|bo bu hr.u (dR<|ac (aG T.eB (fH T) hr<|ac (dv 0)<|ac di an) an)<|UA (dv 0) (o1 di)<|o1 di) (gn (i:=6) bV.nd)<|sc (cF (i:=7) bV.nd<|aG T.qZ (vX T) hr<|ac (dv 6) an)<|sc (cF (i:=5) bV.nd<|aG T.By ((LD T).w) hr<|ac (dv 7)<|ac (dv 1)<|ac (dv 3) an)<|sc (se<|aG T.pU (x_ T) hr<|ac (dv 3)<|ac (dv 5) an)<|sc (se<|aG T.nF rX hr<|ac (dv 2)<|ac (dv 5) an)<|s1<|si (YQ<|twd<|twand (bh uY hr.u (cb aY T.aV aJ<|ac (dv 4) an) di)<|tw1<|twd<|twor (bh bj hr.u (aG T.aQ (bA T) hr<|ac (dv 7)<|ac di an) di)<|tw1<|bh HW hr.u (dv 4)<|dR an) (sc (cF (i:=8) bV.nd<|aG T.vF (I_ T) hr<|ac (dv 7)<|ac (dv 1) an)<|sc (cF (i:=9) bV.nd<|aG T.Ii (L5 T) hr<|ac (dv 7)<|ac (dv 1)<|ac (dv 8)<|ac (Tu (dv 2) T.ai T.eW.e (((uo T).w).mono<|by decide) hr T.nr d1) an)<|sc (cF (i:=10) bV.nd<|bP<|ac (CY<|ix hr.u (dR<|ac ds<|ac ds an)<|aG T.aQ (bA T) hr<|ac (dv 7)<|ac di an)<|ac (dv 8)<|ac (aG T.jN (nZ T 3) hr<|ac (dv 7)<|ac (dv 1)<|ac di an)<|ac (aG T.Bz (L4 T) hr<|ac (dv 7) an)<|ac (dv 9) an)<|sc (se<|bm zS yc yd dy (dv 4)<|ac (bP<|ac (dv 10)<|ac (iQ (dv 2) T.ai T.dk (nO T) hr)<|ac (aG T.k9 ((mK T B).w) hr<|ac (dv 2)<|ac (dv 10)<|ac dn an) an) an)<|s1<|si (cz<|tv<|aG T.nG (Cg T B) hr<|ac (dv 2)<|ac (dv 10)<|ac (bo bu hr.u (iQ (dv 2) T.ai T.dk (nO T) hr) di) an) (s1<|sr db) s0) s0)<|sc (xq<|Hy (il<|bo bu hr.u (XX<|dv 4)<|UA (dv 4) o0<|o1 di) (gt (n:=3)<|gc (gn (i:=10) bV.nd)<|gc (gn (i:=11) bV.nd)<|gc (gn (i:=12) bV.nd) g0)<|s1<|si (bh Ux hr.u (aG T.k9 ((mK T B).w) hr<|ac (dv 2)<|ac (dv 10)<|ac (dv 11) an)<|dv 12) (s1<|sr db) s0)<|sc (sa (ix hr.u (dv 4)<|bo i8 hr.u (aG T.eB (fH T) hr<|ac (dv 0)<|ac di an)<|cb aY T.aV aJ<|ac (dv 4) an)<|gt (n:=3)<|gc (gn (i:=10) bV.nd)<|gc (gn (i:=11) bV.nd)<|gc (gn (i:=12) bV.nd) g0)<|sc (cF (i:=13) bV.nd<|mk T.xP (Dw T) (hr.mono<|by decide) T.xO T.dH.b d0<|ac (dv 1) an)<|sc (xq<|Hy (il<|UA (iQ (dv 2) T.ai T.gA (Cf T) hr) o0<|o1<|dv 11) (gn (i:=5) bV.nd)<|s1<|se<|aG T.nF rX hr<|ac (dv 13)<|ac (dv 5) an)<|s1<|sr<|qA (cm HW hr.u (aG T.k9 ((mK T B).w) hr<|ac (dv 13)<|ac (dv 10)<|ac dn an)<|dv 12)<|Hi<|cm HW hr.u (aG T.k9 ((mK T B).w) hr<|ac (dv 13)<|ac (dv 10)<|ac (dv 11) an)<|dv 12),?_};refine{_,rfl,ns,0,rfl,λc0=>{⟨c0,rfl⟩,λl0 V_=>{l0,rfl,aa,λcs hg hN=>?_}}};refine{_,rfl,λa ha=>{a,cs,rfl,hg,aa,λS1 F1 Dn UK=>{rfl,?_}}};have ZJ:U4 S F1 S1:=λb c hb=>by have h1:(S.set l0 .well) b=some c:=(Sub.new V_) _ _ hb;have h2:b≠a:=g6 h1 ha;exact UK b c (λm=>h2<|zD.mp m)<|(ag h2).trans h1
 have st0:St t S a [] F1 cs [] [] S1:={Dn,λ_ h=>(nomatch h),.nil,ZJ};refine λlk Yq=>{vR,λlq Rj=>?_};have Ai:Sk t S a [(lk,.cA<|g7 []),(lq,.lst [])] F1 cs [] [] [] [[]] ((S1.set lk<|.cA []).set lq<|.lst []):={(st0.new Yq<|.cA []).new Rj<|.lst [],RI.nil,Hk.nil cs,rfl};generalize (S1.set lk<|.cA []).set lq (.lst [])=SA at Ai⊢;refine{λaC S'=>∃(o5:Option D),aC=[some<|.iM<|ns.map D.int,some<|.tup<|cs.map aA,some<|.ref a,some<|.ref lk,some<|.ref lq,o5,none,none,none,none,none,none,none,none]/\Vc t S a lk lq [] cs 0 S',?_,?_};refine{_,rfl,ns,0,rfl,λc1=>{(by decide),_,rfl,bD (λh=>?_) λh=>?_}};refine{_,rfl,ns,26,rfl,λc2=>{⟨c2,rfl⟩,λl1 Lz=>{_,rfl,l1,cs,rfl,hg,aa,λout p Pe ho2 hp=>{_,aa,?_}}}};have Rk:=Ai.with<|(Ai.st.sub<|.new (c:=.well) Lz).new hp<|.lst out;generalize av.set (SA.set l1 .well) p _=SC at Rk⊢;refine{λi aC S'=>∃(o5:Option D)(F:List Addr)(dl:List D)(rs:lH)(kn:Kn)(ks:List Kn),aC=[some<|.iM<|ns.map D.int,some<|.tup<|cs.map aA,some<|.ref a,some<|.ref lk,some<|.ref lq,o5,none,none,none,none,none,none,none,none]/\dl.length=i/\Sk t S a [(lk,.cA<|g7 kn),(lq,.lst []),(p,.lst out)] F cs dl rs kn ks S'/\Ka i kn,{_,F1,[],[],[],[[]],rfl,rfl,Rk,λx hx=>by cases hx},?_,?_,?_};rintro i aC S' ⟨o5,F,dl,rs,kn,ks,_,_,sk,_⟩;exact sk.st.at 2 rfl;rintro i d aC S' hd ⟨o5,F,dl,rs,kn,ks,rfl,Ga,sk,hKa⟩;have hd:out[i]?=some d:=hd;have hi:=(ze.mp hd).1;obtain⟨Wl,cL,IC,Vb,ZK⟩:=hKa.many sk.ki<|ho2 i d hd;have Zy:=sk.ki.len;refine{_,rfl,_,rfl,lk,kn,d,cL,rfl,sk.st.at 0 rfl,by lia,IC,?_};have Ci:=sk.with<|sk.st.put 0 rfl<|.cA<|g7 cL;generalize S'.set lk (.cA<|g7 cL)=S3 at Ci⊢;refine{_,rfl,_,rfl,Ci.step hg (by lia) Wl IC Vb λS5 F5 rs5 Cj=>?_};exact{_,F5,dl++[d],rs5,cL,ks++[cL],rfl,by rw[zG,Ga];rfl,Cj,ZK};rintro aC S' ⟨o5,F,dl,rs,kn,ks,rfl,Ga,sk,_⟩;have Ga:dl.length=out.length:=Ga;refine fo {o5,rfl,F,dl,rs,kn,ks,[],by lia,sk.with<|sk.st.less ?_ λx hx=>?_,λe he=>(nomatch he),by decide,λh=>absurd h<|yi _};have nd:=sk.st.nd;simp only[zE,List.map_nil,ye,zf,zB,not_or,or_false,List.flatMap_nil,List.append_nil,List.nil_append]at nd⊢;grind;simp only[List.map_nil,List.flatMap_nil,List.append_nil,zf,zB,or_false]at hx⊢;rcases hx with rfl|rfl<;>simp;exact fo {none,rfl,F1,[],[],[],[[]],[],by decide,Ai,λe he=>(nomatch he),by decide,λh=>absurd h<|yi _};rintro aC S' ⟨o5,rfl,in1⟩;clear Ai;refine{λaC S''=>∃(o5 o6 o7 o8 o9 Ck:Option D)(i:Nat),aC=[some<|.iM<|ns.map D.int,some<|.tup<|cs.map aA,some<|.ref a,some<|.ref lk,some<|.ref lq,o5,o6,o7,o8,o9,Ck,none,none,none]/\0<i/\i<=64/\Vc t S a lk lq [] cs i S'',?_,?_};refine{_,rfl,ns,1,rfl,λc1=>{rj,λp1 sZ=>{_,rfl,_,rfl,_,rfl,λp2 fV=>{_,_,(Sub.new fV) _ _ aa,aa,?_,λlf IA=>{_,aa,?_}}}}};rw[y3,zc];have:=DX ns (some 2)<|some 26;exact sm (by show 1+_<=_;lia);rw[y3]at IA⊢;have eL:([D.int c1]++(bQ ns (some 2)<|some 26).map D.int)=(c1::bQ ns (some 2) (some 26)).map D.int:=rfl;have ZL:(c1::bQ ns (some 2) (some 26)).length<=64/\0<(c1::bQ ns (some 2) (some 26)).length:=by have:=DX ns (some 2)<|some 26;rw[zO];lia
 generalize (c1::bQ ns (some 2) (some 26))=ls at eL ZL;rw[eL];have in2:Vc t S a lk lq [(lf,.lst<|ls.map D.int)] cs 0 (((S'.set p1<|.lst [.int c1]).set p2<|.lst<|(bQ ns (some 2)<|some 26).map D.int).set lf<|.lst<|ls.map D.int):=by obtain⟨F,dl,rs,kn,ks,es,h1,sk,h2,h3,h4⟩:=in1;have st:=(sk.st.sub<|(Sub.new (c:=.lst [.int c1]) sZ).trans<|.new (c:=.lst<|(bQ ns (some 2)<|some 26).map D.int) fV).new IA<|.lst<|ls.map D.int;refine{F,dl,rs,kn,ks,es,h1,sk.with<|st.perm ?_,h2,h3,h4};rw[List.nil_append];exact .cons _<|.cons _<|List.perm_append_comm (l₁:=[_])
 generalize ((S'.set p1<|.lst [.int c1]).set p2<|.lst<|(bQ ns (some 2)<|some 26).map D.int).set lf (.lst<|ls.map D.int)=SB at in2⊢;refine{λi aC S'=>∃(o5 o6 o7 o8 o9 Ck:Option D),aC=[some<|.iM<|ns.map D.int,some<|.tup<|cs.map aA,some<|.ref a,some<|.ref lk,some<|.ref lq,o5,o6,o7,o8,o9,Ck,none,none,none]/\Vc t S a lk lq [(lf,.lst<|ls.map D.int)] cs i S',{_,_,_,_,_,_,rfl,in2},?_,?_,?_};rintro i aC S' ⟨_,_,_,_,_,_,_,F,dl,rs,kn,ks,es,_,sk,_⟩;exact sk.st.at 2 rfl;rintro i d aC S' hd ⟨o5,o6,o7,o8,o9,Ck,rfl,F,dl,rs,kn,ks,es,Ga,sk,yS,Mz,wK⟩;have hd:(ls.map D.int)[i]?=some d:=hd;have hi:i<ls.length:=by have:=(ze.mp hd).1;rwa [zc]at this
 obtain⟨c,hc,rfl⟩:=zh.mp<|zx hd;refine{_,rfl,⟨c,rfl⟩,λl hl=>?_};have Ai:=sk.with<|sk.st.new hl .well;generalize S'.set l .well=S1x at Ai⊢;have wm:∀{c1 c2:Ce}{x:List (Addr×Ce)},(l,Ce.well)∈((lk,c1)::(lq,c2)::x)++[(l,.well)]:=λ{_ _ _}=>zw _<|zD.mpr rfl;refine{_,rfl,_,rfl,_,rfl,⟨{l,cs,lk,kn,rfl,hg,(Ai.st.fa _ wm).1,Ai.st.at 0 rfl,Ai.ki,λde Wl=>?_}⟩};obtain⟨cL,IC,Vb⟩:=(GD.up Wl).as Ai.ki;have Zy:=Ai.ki.len;refine{_,rfl,_,rfl,lk,kn,de,cL,rfl,Ai.st.at 0 rfl,by lia,IC,?_};have Rk:=Ai.with<|Ai.st.put 0 rfl<|.cA<|g7 cL;generalize S1x.set lk (.cA<|g7 cL)=S2x at Rk⊢;refine{_,rfl,_,rfl,Rk.step hg (by lia) (GD.up Wl) IC Vb λS3 F3 Qj Ci=>?_};clear Ai Rk sk;have Ci:Sk t S a (((lk,.cA<|g7 cL)::(lq,.lst<|es.map<|iP cs)::([(lf,.lst<|ls.map D.int)]++es.flatMap (Gi cs)))++[(l,.well)]) F3 cs (dl++[de]) Qj cL (ks++[cL]) S3:=Ci;have Jr:∀e∈es,y_ cs (ks++[cL]) e/\PyData.strOk e.q.w=true:=λe he=>{(yS e he).1.more,(yS e he).2};have Ql:(dl++[de]).length<=30+(i+1):=by rw[zG];show dl.length+1<=_;lia
 generalize dl++[de]=dl3 at Ci Ql;generalize ks++[cL]=ks3 at Ci Jr;have hw3:=(Ci.st.fa _ wm).1;have Qm:S3 lq=some (.lst<|es.map<|iP cs):=Ci.st.at 1 rfl;have out:∀{S4:av},Sub S3 S4->Vc t S a lk lq [(lf,.lst<|ls.map D.int)] cs i S4->True:=λ_ _=>trivial;have drop:St t S a ((lk,.cA<|g7 cL)::(lq,.lst<|es.map<|iP cs)::([(lf,.lst<|ls.map D.int)]++es.flatMap (Gi cs))) F3 cs dl3 Qj S3:=Ci.st.less ((List.nodup_append.mp<|by have:=Ci.st.nd;rw[zI]at this;exact this).1) λx hx=>zQ _ hx;refine{λb S4=>Sub S3 S4/\(b=true->es.length<6)/\(b=false->es≠[]),?_,?_};refine{_,rfl,_,rfl,.inl {_,Qm,_,rfl,?_}};rw[zc];refine bD (λh=>?_) λh=>{.refl _,(λz=>by cases z),λ_ z=>?_};have h:es.length<6:=by have:=zC h;lia
 refine{_,rfl,l,_,rfl,(by decide),(by decide),hw3,λn h0 h1=>{_,rfl,bD (λh2=>{.refl _,λ_=>h,(λz=>by cases z)}) λh2=>?_}};refine{_,rfl,vR,λp hp=>L9 (n:=65) ((Sub.new hp) _ _ Qm) aa (λd hd=>?_) {_,rfl,.new hp,λ_=>h,λz e=>?_}};obtain⟨e,he,rfl⟩:=zh.mp hd;exact(Jr e he).1.ld hN (Jr e he).2<|(Ni drop he).sub<|.new hp;rw[e]at z;cases z;have h:¬es.length<6:=by have:=zM h;lia
 rw[z]at h;exact h (by decide);rintro b S4 ⟨ZM,hb1,E_⟩;cases b with|false=>refine bb {_,_,_,_,_,_,rfl,F3,dl3,Qj,cL,ks3,es,Ql,Ci.with<|drop.sub ZM,Jr,Mz,λ_=>E_ rfl}|true=>have h6:=hb1 rfl;refine cN ?_;have Vd:=Ci.with<|Ci.st.sub ZM;clear drop Ci Qm hw3 hb1 E_ ZM;have hw4:=(Vd.st.fa _ wm).1;obtain⟨ld4,lr4,ra4,hh4,_⟩:=id Vd.st.sh;refine{_,rfl,_,rfl,l,cs,rfl,hg,hw4,λps wy ho=>?_};refine{_,rfl,_,rfl,_,rfl,_,rfl,a,_,rfl,hh4.ins,rfl,Vd.all (.refl _) λp hp=>?_};have Cj:=Vd.with<|Vd.st.sub<|.new (c:=.lst<|(D_ cL).map ak) hp;have hp5:(S4.set p<|.lst<|(D_ cL).map ak) p=some (.lst<|(D_ cL).map ak):=aa;generalize S4.set p (.lst<|(D_ cL).map ak)=S5 at Cj hp5⊢;have UX:=(Cj.st.fa _ wm).1;have ZO:=Cj.hk.snap Cj.at_;refine{l,cs,ps,wy,p,D_ cL,rfl,hg,ho,UX,hp5,ZO.rg.1,ZO.key,ZO.rg.2,λb hb=>?_};refine{bW,λp hp=>{_,rfl,l,_,rfl,(by decide),(by decide),wl UX hp,λn2 h0 h1=>cu h0 h1 hp λd hd=>?_}};obtain⟨wd,rfl,hwd⟩:∃z:Str,d=.str z/\PyData.strOk z=true:=(by have hd:d∈[D.str "on",.str "back"]:=hd;simp only[zf,zB,or_false]at hd;rcases hd with h|h;exact{_,h,by trivial};exact{_,h,by trivial});refine{_,rfl,_,rfl,_,rfl,l,cs,2,rfl,rfl,hg,hN,UX,λdv hdv=>?_};refine{_,rfl,l,rfl,UX,λn h1 h2=>{_,rfl,YX,?_}};let qn:Qn:=⟨wd,ps,wy,dv,n,b⟩;have hq:Qg cs qn:=⟨ho,hdv.up,h1,h2,hb⟩;have ZP:S5 lq=some (.lst<|es.map<|iP cs):=Cj.st.at 1 rfl;obtain⟨ld5,lr5,ra5,hh5,_⟩:=id Cj.st.sh;have tb5:Tb t S5:=VG.sub Cj.st.DY.sub;refine{_,rfl,{rfl,_,ZP},_,rfl,_,rfl,a,_,rfl,hh5.ins,rfl,a,F3,cs,dl3,Qj,rfl,Cj.st.sh,_,rfl,_,rfl,Eb (q:=qn) hg hq Cj.now (Cj.key Cj.at_) tb5 λA p1 p3 p2 hA g1 g3 g2=>?_};have Ve:=Cj.with<|((Cj.st.new g1<|.lst<|pY cs qn A).new g3<|.lst<|rW cs qn A).new g2<|.lst<|A.map ak;generalize ((S5.set p1<|.lst<|pY cs qn A).set p3<|.lst<|rW cs qn A).set p2 (.lst<|A.map ak)=S6 at Ve⊢;let en:En:=⟨qn,dl3.length,A,p1,p2,p3⟩;have wF:y_ cs ks3 en:=⟨hq,cL,Ve.at_,hA⟩;refine{gR,lq,_,_,rfl,rfl,Ve.st.at 1 rfl,bg<|by rw[zc];lia,?_};have st7:=Ve.st.put 1 rfl<|.lst<|es.map (iP cs)++[iP cs en];have Rl:Sk t S a ((lk,.cA<|g7 cL)::(lq,.lst<|(es++[en]).map<|iP cs)::([(lf,.lst<|ls.map D.int)]++(es++[en]).flatMap (Gi cs))) F3 cs dl3 Qj cL ks3 (S6.set lq<|.lst<|es.map (iP cs)++[iP cs en]):=(by refine Ve.with<|St.tail (x:=(l,.well))<|st7.perm ?_;rw[zI,List.flatMap_append];show List.Perm _ ((lk,Ce.cA<|g7 cL)::(lq,Ce.lst<|es.map (iP cs)++[iP cs en])::(lf,Ce.lst<|ls.map D.int)::((((es.flatMap (Gi cs)++[(l,Ce.well)])++[(p1,Ce.lst<|pY cs qn A)])++[(p3,Ce.lst<|rW cs qn A)])++[(p2,Ce.lst<|A.map ak)]));rw[List.append_assoc,List.append_assoc,List.append_assoc];refine(List.Perm.swap _ _ _).trans<|.cons _<|(List.Perm.swap _ _ _).trans<|.cons _<|(List.Perm.swap _ _ _).trans<|.cons _ ?_;exact(List.perm_middle (l₁:=es.flatMap<|Gi cs) (a:=(l,Ce.well)) (l₂:=[(p1,Ce.lst<|pY cs qn A),(p3,Ce.lst<|rW cs qn A),(p2,Ce.lst<|A.map ak)])).symm);generalize hS7:S6.set lq _=S7;rw[show S6.set lq (.lst<|es.map (iP cs)++[iP cs en])=S7 from hS7]at Rl;obtain⟨ld7,lr7,ra7,hh7,_⟩:=id Rl.st.sh;refine{_,rfl,_,rfl,_,rfl,a,_,rfl,hh7.ins,rfl,a,F3,cs,dl3,Qj,rfl,Rl.st.sh,a,cs,qn,_,[],rfl,hg,hq,Rl.no,λ_ h=>(nomatch h),VG.sub Rl.st.DY.sub,_,rfl,bb ?_};refine{_,_,_,_,_,_,rfl,F3,dl3,Qj,cL,ks3,es++[en],Ql,Rl,λe he=>?_,by rw[zG];show es.length+1<=6;lia,λ_ z=>by simp at z};rcases zJ.mp he with he|he;exact Jr e he;rw[zD.mp he];exact⟨wF,hwd⟩
 rintro aC S' ⟨o5,o6,o7,o8,o9,Ck,rfl,F,dl,rs,kn,ks,es,Ga,sk,yS,Mz,wK⟩;have e:(ls.map D.int).length=ls.length:=zc _;refine fo {o5,o6,o7,o8,o9,Ck,ls.length,rfl,ZL.2,ZL.1,F,dl,rs,kn,ks,es,by rw[<-e];exact Ga,sk.with<|sk.st.less ?_ λx hx=>?_,yS,Mz,λh=>wK<|by show 0<(ls.map D.int).length;rw[e];exact h};have nd:=sk.st.nd;simp only[zE,ye,zf,not_or,List.cons_append,List.nil_append]at nd⊢;grind;simp only[zf,List.cons_append,List.nil_append]at hx⊢;rcases hx with h|h|h;exact .inl h;exact .inr<|.inl h;exact .inr<|.inr<|.inr h;clear in1;rintro aC S' ⟨o5,o6,o7,o8,o9,Ck,i,rfl,hi0,hi,F,dl,rs,kn,ks,es,Ga,sk,yS,Mz,wK⟩;have wK:=wK hi0;have Rj:S' lq=some (.lst<|es.map<|iP cs):=sk.st.at 1 rfl;have Qo:∀e∈es,JC cs S' e:=λe he=>Ni sk.st he;obtain⟨ldx,lrx,rax,hhx,_⟩:=id sk.st.sh;have ZQ:Tb t S':=VG.sub sk.st.DY.sub;refine{λaC S2=>∃(Ck Qp Qq:Option D),aC=[some<|.iM<|ns.map D.int,some<|.tup<|cs.map aA,some<|.ref a,some<|.ref lk,some<|.ref lq,o5,o6,o7,o8,o9,Ck,Qp,Qq,none]/\Sub S' S2,?_,?_};refine{_,rfl,_,Rj,λp1 sZ=>{_,rfl,_,rfl,_,(Sub.new sZ) _ _ Rj,λp2 fV=>{_,_,(Sub.new fV) _ _ aa,aa,?_,λp3 Dx=>{_,aa,?_}}}};have:(bQ (es.map<|iP cs) none<|some 3).length<=(es.map<|iP cs).length:=by unfold bQ;rw[ya,List.length_drop];lia
 rw[yg];rw[zc]at this⊢;exact sm (by lia);have DH:=((Sub.new (c:=.lst (es.map<|iP cs).reverse) sZ).trans<|.new (c:=.lst<|bQ (es.map<|iP cs) none<|some 3) fV).trans<|.new (c:=.lst<|(es.map<|iP cs).reverse++bQ (es.map<|iP cs) none (some 3)) Dx;have QJ:(((S'.set p1<|.lst (es.map<|iP cs).reverse).set p2<|.lst<|bQ (es.map<|iP cs) none<|some 3).set p3<|.lst<|(es.map<|iP cs).reverse++bQ (es.map<|iP cs) none (some 3)) p3=some (.lst<|(es.map<|iP cs).reverse++bQ (es.map<|iP cs) none (some 3)):=aa;generalize ((S'.set p1<|.lst (es.map<|iP cs).reverse).set p2<|.lst<|bQ (es.map<|iP cs) none<|some 3).set p3 (.lst<|(es.map<|iP cs).reverse++bQ (es.map<|iP cs) none (some 3))=SB at DH QJ⊢;refine{λi aC S3=>∃(Ck Qp Qq:Option D),aC=[some<|.iM<|ns.map D.int,some<|.tup<|cs.map aA,some<|.ref a,some<|.ref lk,some<|.ref lq,o5,o6,o7,o8,o9,Ck,Qp,Qq,none]/\Sub SB S3,{_,_,_,rfl,.refl _},by rintro i aC S3 ⟨_,_,_,_,sb⟩;exact sb _ _ QJ,?_,?_};rintro i d aC S3 hd ⟨Ck,Qp,Qq,rfl,sb⟩;have hd:((es.map<|iP cs).reverse++bQ (es.map<|iP cs) none (some 3))[i]?=some d:=hd;obtain⟨e,he,rfl⟩:∃e∈es,d=iP cs e:=by rcases zJ.mp (zx hd) with h|h;obtain⟨e,he,e2⟩:=zh.mp<|List.mem_reverse.mp h;exact⟨e,he,e2.symm⟩;obtain⟨e,he,e2⟩:=zh.mp<|List.mem_of_mem_drop<|List.mem_of_mem_take h;exact⟨e,he,e2.symm⟩
 obtain⟨k,ek,hA⟩:=(yS e he).1.ex;have s3:=DH.trans sb;refine{_,rfl,rfl,_,_,rfl,_,_,rfl,_,_,rfl,rfl,?_};refine{_,rfl,_,rfl,_,rfl,n8 (e:=e) hg (yS e he).1.q hA ((sk.vw ek).sub s3) (sk.key ek) (ZQ.sub s3) ((Qo e he).sub s3) λv S4 s4 heq=>?_};exact{_,rfl,heq true _ {_,rfl,bb {_,_,_,rfl,sb.trans s4}}};rintro aC S3 ⟨Ck,Qp,Qq,rfl,sb⟩;exact fo {Ck,Qp,Qq,rfl,DH.trans sb};rintro aC S2 ⟨Ck,Qp,Qq,rfl,AO⟩;have mX:0<es.length:=List.length_pos_iff.mpr wK;refine{_,rfl,_,rfl,ns,1,rfl,λc=>{_,rfl,_,rfl,.inl {_,AO _ _ Rj,?_}}};rw[zc];refine{by lia,?_};have m0:0<=c%((es.length:Nat):Int):=Int.emod_nonneg _ (by lia);have m1:c%((es.length:Nat):Int)<((es.length:Nat):Int):=Int.emod_lt_of_pos _ (by lia);obtain⟨v,e1,e2⟩:=uP (l:=es.map<|iP cs) m0 (by rw[zc];exact m1);obtain⟨e,he,rfl⟩:=zh.mp<|zx e2;obtain⟨k,ek,hA⟩:=(yS e he).1.ex;have Zp:e.m<=dl.length:=by have:=(ze.mp ek).1;have:=sk.hk.len;lia
 refine{_,_,AO _ _ Rj,e1,_,rfl,rfl,_,_,rfl,_,_,rfl,_,_,rfl,rfl,?_};refine{_,rfl,λa2 QX=>{a2,cs,rfl,hg,aa,λS9 F9 hS9 hK9=>{rfl,?_}}};have Qr:U4 S2 F9 S9:=λb c hb=>by have h2:b≠a2:=g6 hb QX;exact hK9 b c (λm=>h2<|zD.mp m)<|(ag h2).trans hb
 have sk9:Sk t S2 a2 [] F9 cs [] [] [] [[]] S9:={{hS9,λ_ h=>(nomatch h),.nil,Qr},RI.nil,Hk.nil cs,rfl};refine{λaC SX=>∃(o5:Option D)(F':List Addr)(bN:lH),aC=[some<|.iM<|ns.map D.int,some<|.tup<|cs.map aA,some<|.ref a,some<|.ref lk,some<|.ref lq,o5,o6,o7,o8,o9,some<|qD e.q,some<|.int (e.m:Nat),some<|Ng cs e.q e.A e.p1 e.p2 e.p3,some<|.ref a2]/\Sk t S2 a2 [] F' cs (dl.take e.m) bN k (ks.take<|e.m+1) SX,?_,?_};refine{_,rfl,a,_,rfl,(AO.trans Qr.sub) _ _ hhx.ins,rfl,a,F,cs,dl,rs,rfl,sk.st.sh.sub<|AO.trans Qr.sub,λp1 sZ=>{_,rfl,_,rfl,_,aa,λp2 fV=>{_,aa,?_}}};have ec:bQ dl none (some ((e.m:Nat):Int))=dl.take e.m:=by unfold bQ;rw[HT.sIx_nat,Nat.min_eq_left Zp];show(dl.drop 0).take (e.m-0)=_;rw[List.drop_zero,Nat.sub_zero]
 rw[ec];have skA:=sk9.with<|(sk9.st.sub<|.new (c:=.lst dl) sZ).new fV<|.lst<|dl.take e.m;generalize av.set (S9.set p1<|.lst dl) p2 _=SA2 at skA⊢;have hz:ks[0]?=some []:=sk.hk.z;refine{λi aC SX=>∃(o5:Option D)(F':List Addr)(bN:lH)(cL:Kn),aC=[some<|.iM<|ns.map D.int,some<|.tup<|cs.map aA,some<|.ref a,some<|.ref lk,some<|.ref lq,o5,o6,o7,o8,o9,some<|qD e.q,some<|.int (e.m:Nat),some<|Ng cs e.q e.A e.p1 e.p2 e.p3,some<|.ref a2]/\ks[i]?=some cL/\Sk t S2 a2 [(p2,.lst<|dl.take e.m)] F' cs (dl.take i) bN cL (ks.take<|i+1) SX,{_,F9,[],[],rfl,hz,?_},?_,?_,?_};have:ks.take 1=[[]]:=by cases ks with|nil=>(cases hz)|cons x r=>cases hz;rfl
 rw[List.take_zero,this];exact skA;rintro i aC SX ⟨o5,F',bN,cL,_,_,Aj⟩;exact Aj.st.at 0 rfl;rintro i d aC SX hd ⟨o5,F',bN,cL,rfl,Rm,Aj⟩;have hd:(dl.take e.m)[i]?=some d:=hd;have Y9:i<e.m:=by have:=(ze.mp hd).1;rw[ya]at this;lia
 rw[List.getElem?_take,if_pos Y9]at hd;have dY:i+1<ks.length:=by have:=sk.hk.len;lia
 have Vf:=zg dY;generalize ks[i+1]=k2 at Vf;obtain⟨TQ,IC⟩:=sk.hk.st i d cL k2 hd Rm Vf;refine{_,rfl,_,rfl,Aj.step hg (by rw[ya];lia) TQ IC (sk.hk.ki k2<|zx Vf) λSY F2 Uj sky=>?_};rw[<-take_snoc hd,<-take_snoc Vf]at sky;exact{_,F2,Uj,k2,rfl,Vf,sky};rintro aC SX ⟨o5,F',bN,cL,rfl,Rm,Aj⟩;have el:(dl.take e.m).length=e.m:=by rw[ya];lia
 have Rm:ks[(dl.take e.m).length]?=some cL:=Rm;have Aj:Sk t S2 a2 [(p2,.lst<|dl.take e.m)] F' cs (dl.take (dl.take e.m).length) bN cL (ks.take<|(dl.take e.m).length+1) SX:=Aj;rw[el]at Rm Aj;cases ek.symm.trans Rm;exact fo {o5,F',bN,rfl,Aj.with<|Aj.st.less .nil λ_ h=>(nomatch h)};rintro aC SX ⟨oz,F',bN,rfl,Aj⟩;have sX:Sub S' SX:=AO.trans Aj.st.DY.sub;have qg:=(yS e he).1.q;refine{_,rfl,_,rfl,n8 (e:=e) hg qg hA Aj.now (Aj.key Aj.at_) (ZQ.sub sX) ((Qo e he).sub sX) λv S4 s4 heq=>?_};refine{_,rfl,heq false _ {_,rfl,cN ?_}};have ekx:(ks.take<|e.m+1)[e.m]?=some k:=by rw[List.getElem?_take,if_pos<|yx _];exact ek
 refine{_,rfl,_,rfl,_,rfl,n8 (e:=e) hg qg hA ((Aj.vw ekx).sub s4) (Aj.key ekx) ((ZQ.sub sX).sub s4) (((Qo e he).sub sX).sub s4) λv S5 s5 heq=>?_};exact{_,rfl,heq false _ {S,((sk.st.DY.sub.trans sX).trans s4).trans s5,q}}
def Js(t:hW)(K:Frag):Sp:=λvs H Q _=>pq K (Jq t) vs H Q E0
theorem Qs(T:Txt w K mg t)(B:Bm mg base):bB P w K mg base VD 20 t.MW t.Ia ["_law_script"] (Js t K):=bB.calm<|L_ T B
theorem Jt{w:World}{K:Frag}{mg:Str->Option Value}{t:hW}(T:Txt w K mg t){H:Hp}{a:Addr}{ns:List Int}(hl:ns.length<=63)(hO:xB t.ts H)(hS:iU K H a<|ns.map V.int):Js t K [.ref a] H (λv _=>v=.bl true) λ_ _ _=>False:=by
 have hR:MB K H a (ns.map V.int):=by rcases hS with (h|h)|h;rcases hO.all a with q|⟨o,xs,q⟩|⟨_,q⟩;rw[q]at h;cases h;rw[q]at h;cases h;rw[q]at h;cases h;exact .inl h;exact .inr h
 have wK:t.aK≠t.aP:=λe=>by have:=T.np;rw[e]at this;simp at this
 have tok:∀q,CO H q #[]:=λq=>{trivial,λ_ _ e=>by cases e};refine{[.iM<|ns.map D.int],λb=>if b=t.aP then some (.tab qK) else if b=t.aK then some (.tab qV) else none,λd _=>d=.bl true,λ_ _=>False,aO (Hh hR<|CM ns) bq,λb c e=>?_,{ns,rfl,hl,{if_pos rfl,(if_neg wK).trans<|if_pos rfl},rfl},λd S v H' e r _ _=>by subst e;exact r.bl,λ_ _ _ z=>z.elim};by_cases h1:b=t.aP;have e:=(if_pos h1).symm.trans e;cases e;rw[h1];exact{#[],hO.tab _ T.l_,tok _};by_cases h2:b=t.aK;have e:=(if_neg h1).symm.trans e;have e:=(if_pos h2).symm.trans e;cases e;rw[h2];exact{#[],hO.tab _ T.jY,tok _};have e:=(if_neg h1).symm.trans e;have e:=(if_neg h2).symm.trans e;cases e
theorem Qt{P:Program}{w:World}{K:Frag}{mg:Str->Option Value}{fa:Addr}{ts:List Addr}(Oj:mg "law"= some (.ref fa))(T:∃t:hW,t.ts=ts/\Txt w K mg t):∃(fd:FuncData) (sp:Sp),(∀b∈ts,∃c,codeHdIn K c b=true)/\(∀(s:Shared) (u:Value),BindsTo s fd {[u],[]} [("_law_script",u)])/\(∀base:Heap,Bm mg base->K.In base->base.Ns mainGlobals mg->bB P w K mg base VD 20 fa fd ["_law_script"] sp)/\∀(H:Hp) (a:Addr) (ns:List Int),ns.length<=63->xB ts H->iU K H a (ns.map V.int)->sp [.ref a] H (λv _=>v=.bl true) λ_ _ _=>False:=by obtain⟨t,et,T⟩:=T;have e0:=Oj.symm.trans T.YW.m;cases e0;subst et;exact{_,_,λb hb=>(T.ta b<|hb).elim (λe=>{_,e ▸ T.dF}) λe=>{_,e ▸ T.cP},T.bl,λbase B kb nb=>Qs T B,λH a ns hl hO hS=>Jt T hl hO hS}
end My
end Tactic
open Tactic
local macro_rules|`(command|universe $xs*)=>do return Lean.mkNullNode (← (xs[0]!.getId.toString.foldl (fun (h,n,k,l) c=>let n:=n*62+(if c.isDigit then c.toNat-48 else if c.isUpper then c.toNat-55 else c.toNat-61);if k=9 then (h+n-10*62^9,0,0,l.push (h+n-10*62^9)) else (h,n,k+1,l)) (0,0,0,(#[]:Array Nat))).2.2.2.mapM fun v=>`(command|theorem $(Lean.mkIdent (.mkSimple s!"tw{v}")):ident : True:=trivial))
namespace PySem.W.Fast
universe A8kaCp3dmQBq5bCJzL8FE7VxPCO9rxCihHSxdkG1FqAze45QudA5dwVAXhDMAZWvlTccNsEDQQ4RLqfSBIYufojMZXCRwgEhtYIQBK5farj1xXBLlb9zynJWBtabrSqhKSBFW0yX5MOMALwU1TLx1hAzbhH9zuGhBBdb04k5uDBYqRnkhRq1Cj9wDnb9UJEYDdlydRpKC8yQh2lUYsA8oncOOToaBOIad8FUXhGWI2C357hUBWXlDClGuyAD0owp5GGOCdaPP7w1viA3mab5u56SA6Q6JuNraVBKjtQysxzXDhCyHM0P10Dld91TMIDeFGjVjgeB7sAOqrOsymOzATnhlXAe6jA1vnDzMdPyC4QZJL3NcHD5YGu48LsXABwoz4RUnICMtqNHecwFADRwtXYk1jBIOtaDj51rBHdDFKsKgoDZntQPJRFyCh8T7oHYt6BARWak6Q2LBidKYwyp5EGn1OmJDY5sEgbQtgWE0rFqxThcGqncARM3iMoBO9CqY5UBlMMoAAwJx5WwrdAzgoKbLxngBYUbw2sKcLCOWNE8jN5WAl7Dd18KMAAZ2qGypULqCAoTjxHfN2Ah6RbY4OXyA17ecIo8nYDDhNVuzMRIBF97CX8nKMA6hYoldJ90AFYr72HYG4AneKeEFjlJBEddd1oJcJABmDA0yhF4ARsiFPBuBQAic1L2IjT8B4TYeTdQcPIjWVcq432UBZN0eQHpxRBfgXrTzPbOB16sEkbC6HAB35D7mD2rC2zLmGiKxcBFdJL5juW5Bi0tcumP2GD5gxujmNHIADIj7S2v8MCfjeh49iAdB7B3scYbzRBDqKv2eTZaAr2hrQs0HmH2QSmBhLO1BEMugbAJT4BsLGQn3uNIA9MzxAm5uqE5M5IF9Gq4BUliVzwkluAGeN8zLLtUBKWs4MM0dZCELt2flRQkAhaY7mE9tNBAhLd65aSUAJIbEXIL9ECg44NyHsqVAKhM1nahw0BfJokC7YgVBneOVINmJtB081ok21NhBtkCYjt0VaAF37zN9x7TCPjcvSnRuGARCMZmxW0bBR0wdgXU8FBgcc7KXPJRAALJH1zQUMCn7gYS9SdOBp3XI02eJGBb9pxkYTV0DiVBpsboNAAsNPA22x3HB1Ct6sYw1bAHlmL5DgwmA2wyZ5Jt9NCZJbnVrhu0AJ4oZoLyITARZU7EWeCACUBMfT6vqfBBIsCsY0HsAeFJVDYZIAGsrhWYDnRZAeUZFEqvqlAvxYvXbJJgAJtqO9zQ0nEai19eMFXBAyVsnVYwv6A6StGRFXt5BeUMxYwvA3COK5pbitGxANJegAI4O5Bz3uejSFpjAlPsEmD71cAFCErdAO5jBjLLtPrpt5BxRHcVcrfrBC4sjlqzvbBf3XLLaUhhAJnyfXnaxiGMA6VEQ4b2DXgrzkabdrAFWYhDkcLICpRRfcJ5bvAasQBZ8zxrDUAJWq6gCrBKXKDcK5ULBwDyZp4aJ5B551ruIko7CQ5AJMNCVYA00RJrFiZuE5QkUi86XVCD9lU0WgxBA1hKfFf4TbCccWYz7GomBVgEfyLZmrBde8kn5XGDE2Ad37sCltBZBo3qzjnOBSxJnNDY7YAhpoTGOvmPCMHBo9NVY5AOnVlqxJjbCCEsMWTR4uGPfgmsGIi7BoWVu9rDxeAUAvpZHnLHEe1PE4OMJGAsg9AXdtuRC5q5yrRABYAWCNTekz6eB283PU9lmYA3H3TBLAcjBtSO50Dh28AzvDprIeouBHWTsN9FgYA4BjPl717UBl6tjLJ4tYAD5YJi1IjJAtPnMUt9oXBXcgV4yGLoAyQTGExWnqBSQaZtC8xNC2MJS1I1Y9BGzwwd6VpHA0rSGzCRuSDWVrPaI965Ey6JHDTcEbA0M1FAQSpaAhpB2ad1HuAAAgxRkqotAL8j7GKUCYCppAG9KqP5CCxADlGczxBL0sL4iq83DJ1fp0Wy78AtRUky7U90BNcPYeDIxdAHj0Mupl2TALGc4ZPXEUB8fVYtdmmDCIJqzzzeMbAZgaFUTgpvCUqPKDtLL0BDtuDcvchUBamQOc11IiBt68nAHkjXDceWjPf4SxArbxR4aALbAgcPvLfXxLChiWL4t0ZVAiOtPb0QnRAydkQArtp0CvJ3oHvKYxAnNDnScJWdAmfEx04nbWA6LtkftgsPAIZ47pELqvACUephYMBKAPZwt4U0hlBCxxLpRImkA1bAtNytxbBw7mqYjTCqAJW1PuPTJZAMGVUdi0nEB4kdv8aFjABH56StZhNICdcrGnxWNDAWZ8qQh0Y4A52mDCQaA7DpBvMcYOojArmzppeKs4C0VdVjXHfeAYanKzUeHABTCFWyiIgYAG00PR913NBUx2m4ekxTE8vDI85KZtC9Lb77RakGCaXsSd2GnLCM6ojrHO0MBhzH2fQd5RAdoTsCgPYzACcDIPSsmqC1SV4Aa0SaAhs5Aev0giCISTXNdnXdCa1qLZqyVnBgDoiTFJTvA4R9R02RbJAQJrNx5Jv1B4b8d4uXI9DRIYfr4BWFCguOFCNdFrANdNNSiIWPC1RxHucAwlAf6JM0A7dOBNP8QrGGktC3oBNho4gwBigtPL07PPAxv4d0BrFRAFfqPvQLyFAkfaUAAMs7CRWuPUwnpFA39t4NgHzUA1rzV7dB85BMnlBH8puVBOlvYnxyYqCwzHEqFd7fB6o2rRQnjyAvL8OoWErODL8W0loUHUBU4wZMGMMLGVk0Hgk323H7HOVjYtOpBWvnk41t5GBL7n3mVMGVBeiTbYVvjbAsKHxrrydTDKNditHutKAqgj8wsL60AAU2z71CvoAFQkkD0Xf6A72yo2zNN3Gc2crE0toVBLJ8qozSaBBmLNIU9x20AHKBscpvtFA3hNibRwRIAsHkBLQUfoAPlnqnQkrKAFMoZlkrloCFGIURmh0dBLqtVP6wzAEQmjlb8lQBAmu3XxseNnAB4Esl7CrIAUQXnv9QGCCvVz9TcZcCBsVbeDZ1eGCDuXVxziPsABB3KMuIQRAA1DbCEQ2lCEcw4JWXsNAmDVfF4aLCC3qJw1FHCyAo3ywVrBTSAHwWsqD7m6C98AH0cdKjAv84FyIJEvBZBMNKq4MlALXRHhTfaKAej5iw2b4hA67Hp3Y4tpAeiXM2QkZ6DN5HYddbAdA3GDTRSF2CE9O4fZwRSJCbZClgo2EVBnLKtHoedGF8jVpE8Al1ADzVTN2mJoBmZKlPEN0xGYbrQxPI5yAJQ56ssZxJAgFdeGMlURGFZu1a5P1BAo8MgUJZd1BEE8t0CTORAt7qNa6k0TBCHGQ411ImAtblO42IEqAokUQvSntwAhWA0s5KySAm8ElXwpyDB6mKqLTJEjCnck3VLBv0AxZFQ1VyZhBxwMsxIVsfB7p0gBRlZ4ARRKVBWRR4AE5KUoVqRRA36i5YVE3tCXRFweLhyLBsoVlxUTbfBVY8Hp388cEaTc2BjEllA4XPlABW0dD13fC4P3otAZ8KTmEApKFNPosn0l0qABZUXRmmSjBXExzRgO4gCDinp6c1kLAZR7xg5AB1BXlyHKCXzZAUoIojUCrkB9oZgZqioEAB0pw6RheAAEl0u4DnxwA8bAYi4m37A4F3MDrLvVB1tihK1sk2ESyc4kd4xZBhdE8KAUS4B6D3ZE3VegCJUnXeuP8eA3F2qF5eLMAaug0QzPCCAgkw9N77KLAhvT2JAeApAvqYhnd05yHPCaztU6gyC70dWMpp3gBhY5rWayqUAwbzc3gorkC8xbxLH3B3B4cJqyyyCWAidCKd32OHAMKM500DTaBPEAsF92lzA5LU1iiRtdA9xwwjcbEbBQIYlzpRYmFlSAws2AKwBm3xDKFa9YBLWQ3rm7gDC1HPxVqn3wAQl85MkbIfBzzoL8iRMSBO8MwLN8xeBC2zytLuOUDVgGSPMax8AjPHdbyG1MAjnR6UcU6fAuXMc6pwSxA2zdmbJy6QB7tRBS4drWAL48Pia6i8ACsCXP5eYlB0OznVL0yoCBNC3HRpiJABYpffeMB9EdqdDavEWlAHwmL8K7QlA9Cw85fpIUC4Bt0zeVaEAc5BQlJKlIAihcj85IicAsLWvpcOvPA0qlLUS00QAImsgpdiWyAKLtrD1KqRBd83iI8YbdDuUjnQO1q1A4216dIupFA5B5XppPLwKNbRsK59W8B7JmeZOi3PB5tY4pBOijAPDBsh69pNCaPVYsnkrsACi1PUHv6rBrRbzDokF8EXWUCLQkV5AAp2QBJYLoDDF2xvGlZLA9ohjgUrWdBwBLXQb6mWCf22DiZw9aCaHtQ6mj47ABv1BMm9J7AsmFuC7KmwA0Mv6TsHxWACrLPXhlXKB4Hu61XItDAURoFgiKN1AeBTHs6m6yCyFuWW16aAAXZhM1hPZ9EDskLOvqXwCYZUEsc4u2AlcOOiL1OGCDrlVNnPbcCqzwkE2vRxAOfYmzcKjpB8axSVuHRoAEpsomfia2BbwBUWg8knASYThWURPjHCX1W6rLzdBnBJmYfe1bCOS9LmiIzmBF3sS7XpeeAjn6QVSYb5Dok2LlqZBDEFynFb0GegDnzWUq5fIzE2JkhhKAZvBLgEfMjy37BNxBEXL2nmAYDIVK6MTcAzfVCH0HB9DhyA0512YwCy9CBT6YvoAF6MclA2JeCPkUCrmBM8AHZEaL2dgDAgM0MBiQHrBENRDsxCAQBIPJQaYSVZCztAa5GKZJAdPhe4LMJQDv6AnH2arYAqV3HaVulTAVHAZRLw1BAvgtK1tF1RAWC3lhUd13A8uUUgSWlBB2QQSh0DlsACevZFLPT1AhDb2UOxEfFyB5Df4xdlDl6hgUP7TPBZp0KOVCeiAgTTvekexfDpFz9EMvz9BY6GtQfOXHAxuytmk3Y1DfhP1KinrfBsSx3FujI3BrWV8bHv2CCAj3hoezX2BqIYaAv7AVDnt24APn3LAMtRzabBu6CBOl9hBvODFIOIoBN7ggBUUPqwET0UAMue4AjyEACXOI5esoKpA2dobCQIxCAWSjBvvgsQBP7FQm9pVZADYwibrXA9BK37f5qtRIAYQlq7HJnJA7DBvIsAtcB24GpQoKLoE0QcYgpNToA2ZECfz556ETXbBxMxmUAd3R0rq48PD4dVNZZWRoAEvKFT9UImAwzzlUvHMVBcefkmbfJpBysYdvRWGPAFypOCgYzvAf7FqYkCOoAahe7wLxINEjnKzB5KAUCcMrhXmMpMB2xmUhtb7UBLYeCICwmuAY9w5079ccBJhkuk4VfvAVtQat9mZVDdzMAnB8zNAnDLQiSFOOChUEd1a0eoByhIsC6j3ZDWdZPvBdLWAbtbtSajegAhou4Njok2ACLK6lR7XWBYA8RlrmW6AUAVA78Y4lA6l7CL44SgFSwU5p3kv0AT62bEfiXKA3xNENh1v7AipZp6gYZGC3DDHqimDiFUaKgKW1dMBvMcLVvCAOCGm3jvi2wgBzYvTisygmALnwB2MiFmClxWfre3d6BAA1VpVNqPAPXIGO62HtA9SsUg2THOBHiWpNuYvlCI4KNxidhwAxJSTxeEdrBQ6b9nMKBEAHIp5wRoiHBbawXlDO8hA1UgRHVNSCAIkRngcwqnBq9hQATmr7AtbTWWuHlqB6DljEJpmMBqinUcHDj7EXwBNw2seMAOb3WQnUshBKE3yIg5OjAL44ZEvDYbAWTvmc2sPEAbhWTag44wAV0wx4it5pDNVraPq6rPAs9UyttkVqBy3XPhmgIfDjVBhaqzM6DqbG5BZhAbAQpjfEKSIWA7wpqNXrnbInmhcIllQ3A2CCrtjPvZCSpT6wVuIwESWbOgCswDD8P90GPehCC3m5fm4QweABx4pMVRjrAH0dQjGF6nAKbaYN4dK7B0rLPg86jkAk7V4FTvUlAIidIkgBA0DMvuxR5Es3A0XCgzv52FAf2m0zFRhEAjEzi7P94uA03Lq4AMVLCG9yxdST4cAAnsXCk5xTALBQ9oBqy9BbNdP8276VBoWrMQmjjkB0uklbAUKuAIWu0UbGp5DC4YNnq6uPEPpwqPrNZ6DWhZpAg53sAzDXhB5jmBBVTCbe8yXSBSfg26WlutDWapa0nTfYBU6DPPOn6RAtsWvCPS0oDHsFhrLgrBBzWb6KxHaoBRMiag8rVpArYNI1zUviAgO5tu864HH8xHXAuD9eAbvejsBwgmAk7GNNDiALADdmZmoSdRCZywNGlOpJCOxS0AzzxyATOK67fUT9BAINBbhmPnCmnIGJtRKgFvBKst19iXBEVaWheXcCBm0LzndGwiDp921DODzYBBQEryTuXyBu9goDCKEXACk1HUiKLjBlu6A9QdX3A9F4wiQvRQCTwpgVX83DA2ujBhX08ZAAixFIld44AY9g1AvpxQAt9N3irRg2D94Nk3jx47BrcJN3FIKaAbjyqC0bK0BcTliKOYGRAV2EyRLhCeB1wRSib3STAhtq616QtTCDNH6b4UcgAVUBAc7at7BGarfKDcXIA7HgZTxJJVD0k91mdaCvA5XpsvkluYAjv7v06t1lAGRZN1sHTADWQwocsxU3BfUsIenAbrDewW6y2gieAb0QFVYpekBPVooV7V0rEMxMg4W1DtAfeMTR3MKVLYCcjdYoXLCRx8YDCAJLCh8FxQnnklBtQyXWU4U2DrSn31iBQwC6hkiMv2vMAKXuk2WsA9BTmr8rxwokCnSfDZGXkZB5eEMFJW8HDEbykgigm3DxsuZ9E8GcFzGDv8ZsQxBc9UPxFevWAAoj4nBfaWB4DIGg11s6AVHlOdRfsgEaVWJJbbV7DPBfbwMOxeCnc5F5J0dBASmrgSEWStBodgJqoUSSA42wSCP5VBAcKWU6gRPrBgCMSzL8X3IPna7oJUxzB9Xs2ICnENCz0j9O03CZDQG8a25n3ZAIYOI6QAdQARoR7cn8wvAzQxMSWK02Aj4XHqxbqbAkBOVDrjegEVz74vo8WAB0y39TTGDBCWTQeiJF51BF5Or9a8H5C7GscdVdYwA7JlOQvDnyH3SqTn4mplB2Lrrqjv8sB6Ntm6gjaYAxDt29wzBXBZw95G5m55B3ogSS6o5uCblCVU1OwCAo9HEPX6MjBRJWPCpihTBPmqkXRXX3AxYm2lLdT9BvFLttnLYQBzQFrqd3PdCjlt3QAfrrDV5Nau5RT6Iw7M9uN0bLDseQf4VTf0Gck41YMjARC5BDYpLkJJA0UQCaymvxAZLMEBcDqmAN9L7lWpt9Bh7JMsw2PTAm6YPrHyvhAuHanTpr0gBDI6LTCiHpAzaNeAqIyzBUwRjV9pUlB0bkK2sMZcBZX5JRQ03lDXGAIQWx4TDW6qLd6rlIE8zcNuSmn2BHEsziQW6dG7yEC1h2TwD367SieT7PDYMcalqn4fDK6PEXaS4SAcwwXw5nmSFwuaa3Gr0BFaHDPxXkB2ASkv1MueYmABhbUDbnzmCWFinjsnS1A54STwBg1UAgz5IgP9goAoWhR5QDEvAiphHi3b53B4xfmmhX3mBPNI81MnCqBAuSEwklKHBwCkk3XwsqAhjva52hfZBDlshY960AA5g4OnrQsUE45CrkGUtAB4drAtx3pOAkfVLDm34GD2MCzp1d6gF4Y2gTuhP7BZ4cMQAPJpBx5jWGG39hA2y4zeOLIsCOZ24CcNHYEGOCNSDS0PBpZe9P7Mv4I4np5PF9MEAyn08d1vNFCNmMrjsEGNDspmE42Rw1FuEmerFj3wAUW8d4sN3gBXitKF5ZGAA5wMC2G1NZAw13PLuebWAsKtiYgFPpGJegak1veuAtX9eoVlYNDMnyJRuhwgAbcA1epxElAEfBlxTLnzAGyiyliDRsBLguQ9TZKVBbshEuKS9BBVLHPdUsFIC7DCTmA5xE
end PySem.W.Fast
open PySem PySem.W PyProof.Rows
set_option maxRecDepth 100000 in
set_option maxHeartbeats 0 in
theorem PySem.Challenge.cw_pageturns_k90_whole_as_of_a_moment_holds : PySem.Challenge.rw_pageturns_k90_whole_as_of_a_moment.Holds := by
 w_on;o_law;k_head;(case hw=>w_witness2)
 k_fill
 refine L2.HU (l:=PySem.Challenge.rw_pageturns_k90_whole_as_of_a_moment) (n:=63) (k:=20) (x := "_law_script") (CX:=L2.VD) rfl (by decide) rfl ⟨rfl,by decide,by decide⟩ (fun w h Y=>PySem.W.km_in_of Y) (fun w h Y=>PySem.W.km_tabs_of Y) (fun w h Y=>L2.K6 Y (by trivial)) ?tF fun _ _ _ _ z=>z
 intro w mg fa h KX G Oj
 refine My.Qt Oj ?_
 refine' L2.gvc KX G "Shelf" ?a1 ?b1 ?c1 ?d1 ?e1 ?f1 ?g1 fun Ma aj Mb k_Shelf=>?z1
 (case a1|b1|c1|d1|e1|f1|g1=>k_is)
 refine' L2.afx KX G (l:=[17,18,19,20,21,22,23,24,25,26,29,30,31,32,33,34,35,41,42,43,44,45,46,47,48,49,50,51,57,58,59,60,61,62,63,67,68,69,71,77,78,79,80,81,82,83,84,85,86,90,92,93,94,95,96,97,98,99,100,101,102,103,104,105,106,107,108,109]) (top:=My.top) ?xF fun f0 g0 A0=>?zF
 case xF =>
  repeat' (refine' L2.af KX G _ (by decide) ?a ?b ?c ?d ?e ?_;(case a|b|c|d=>k_is);(case e=>first|exact L2.Ut fun _=>rfl|exact L2.ln2 fun _ _=>rfl|exact L2.Pm fun _ _ _=>rfl|exact L2.V9 fun _ _ _ _=>rfl|exact L2.YJ fun _ _ _ _ _=>rfl|exact L2.Uu fun _ _ _ _ _ _=>rfl|exact L2.YI rfl))
  exact L2.af0
 refine' L2.amx aj (l:=[0,1,2,3,4,5,6,7,8,12,13]) (q := "Shelf.") (cl:=My.bc) ?xMShelf fun Bu ZR Co=>?zMShelf
 case xMShelf =>
  repeat' (refine' L2.am aj _ (by decide) ?a ?b ?c ?d ?f ?e ?_;(case a|b|c|d|f=>k_is);(case e=>first|exact L2.Ut fun _=>rfl|exact L2.ln2 fun _ _=>rfl|exact L2.Pm fun _ _ _=>rfl|exact L2.V9 fun _ _ _ _=>rfl|exact L2.YJ fun _ _ _ _ _=>rfl|exact L2.Uu fun _ _ _ _ _ _=>rfl|exact L2.YI rfl))
  exact L2.am0
 refine' L2.fnd KX G "plain" (My.top 65) ["shelf","order","sieve","moment"] ?a2 ?b2 ?c2 ?d2 ?e2 ?f2 ?g2 fun d0 F0 D0=>?z2
 (case a2|b2|c2|d2|e2=>k_is)
 (case f2=>intro s us t;revert us;exact L2.V9 fun _ _ _ _=>.of_defaults rfl t rfl rfl rfl)
 (case g2=>intro s us t;revert us;exact L2.YL fun _ _ _=>.of_defaults rfl t rfl rfl rfl)
 refine' L2.fnd KX G "count_of" (My.top 66) ["shelf","sieve","moment"] ?a3 ?b3 ?c3 ?d3 ?e3 ?f3 ?g3 fun d1 F1 D1=>?z3
 (case a3|b3|c3|d3|e3=>k_is)
 (case f3=>intro s us t;revert us;exact L2.Pm fun _ _ _=>.of_defaults rfl t rfl rfl rfl)
 (case g3=>intro s us t;revert us;exact L2.Uv fun _ _=>.of_defaults rfl t rfl rfl rfl)
 refine' L2.YG KX G "sorted_by_keys" (My.top 70) ["rows","way"] ?a4 ?b4 ?c4 ?d4 ?e4 fun d2 e2 B2 F2=>?z4
 (case a4|b4|c4|d4=>k_is)
 (case e4=>exact L2.ln2 fun _ _=>rfl)
 refine' L2.YG KX G "sorted_by_values" (My.top 72) ["columns","part","rows"] ?a5 ?b5 ?c5 ?d5 ?e5 fun d3 e3 B3 F3=>?z5
 (case a5|b5|c5|d5=>k_is)
 (case e5=>exact L2.Pm fun _ _ _=>rfl)
 refine' L2.YM KX G "page_on" (My.top 75) ["shelf","order","sieve","size","gap","moment"] #[.none,.none] ?a6 ?b6 ?c6 ?d6 ?e6 ?f6 fun d4 F4=>?z6
 (case a6|b6|c6|d6|e6=>k_is)
 (case f6=>intro s us t;revert us;exact L2.Uu fun _ _ _ _ _ _=>.of_defaults rfl t rfl rfl rfl)
 refine' L2.YM KX G "page_back" (My.top 76) ["shelf","order","sieve","size","gap","moment"] #[.none,.none] ?a7 ?b7 ?c7 ?d7 ?e7 ?f7 fun d5 F5=>?z7
 (case a7|b7|c7|d7|e7=>k_is)
 (case f7=>intro s us t;revert us;exact L2.Uu fun _ _ _ _ _ _=>.of_defaults rfl t rfl rfl rfl)
 refine' L2.YM KX G "stretch" (My.top 87) ["shelf","order","sieve","fore","hinder","moment"] #[.none,.none,.none] ?a8 ?b8 ?c8 ?d8 ?e8 ?f8 fun d6 F6=>?z8
 (case a8|b8|c8|d8|e8=>k_is)
 (case f8=>intro s us t;revert us;exact L2.Uu fun _ _ _ _ _ _=>.of_defaults rfl t rfl rfl rfl)
 refine' L2.YG KX G "law" (My.top 110) ["_law_script"] ?a9 ?b9 ?c9 ?d9 ?e9 fun d7 e7 B7 F7=>?z9
 (case a9|b9|c9|d9=>k_is)
 (case e9=>exact L2.Ut fun _=>rfl)
 refine' L2.fmd aj "worths_at" "Shelf.worths_at" ((L2.inClass My.bc 9)) ["self","key","moment"] ?a10 ?b10 ?c10 ?d10 ?e10 ?f10 ?g10 ?h10 fun d8 F8 D8=>?z10
 (case a10|b10|c10|d10|e10|f10=>k_is)
 (case g10=>intro s us t;revert us;exact L2.Pm fun _ _ _=>.of_defaults rfl t rfl rfl rfl)
 (case h10=>intro s us t;revert us;exact L2.Uv fun _ _=>.of_defaults rfl t rfl rfl rfl)
 refine' L2.fmd aj "all_at" "Shelf.all_at" ((L2.inClass My.bc 10)) ["self","moment"] ?a11 ?b11 ?c11 ?d11 ?e11 ?f11 ?g11 ?h11 fun d9 F9 D9=>?z11
 (case a11|b11|c11|d11|e11|f11=>k_is)
 (case g11=>intro s us t;revert us;exact L2.ln2 fun _ _=>.of_defaults rfl t rfl rfl rfl)
 (case h11=>intro s us t;revert us;exact L2.YK fun _=>.of_defaults rfl t rfl rfl rfl)
 refine' L2.Li KX G "MOST_NAME_SIGNS" 8 ?a12 fun mM=>?z12
 (case a12=>k_is)
 refine' L2.Li KX G "MOST_KEY_SIGNS" 12 ?a13 fun n_=>?z13
 (case a13=>k_is)
 refine' L2.Li KX G "MOST_WORD_SIGNS" 40 ?a14 fun mO=>?z14
 (case a14=>k_is)
 refine' L2.Li KX G "MOST_COLUMNS" 8 ?a15 fun rY=>?z15
 (case a15=>k_is)
 refine' L2.Li KX G "MOST_PARTS_orders" 8 ?a16 fun j9=>?z16
 (case a16=>k_is)
 refine' L2.Li KX G "MOST_DEEP" 8 ?a17 fun z_=>?z17
 (case a17=>k_is)
 refine' L2.Li KX G "MOST_PARTS_sieves" 200 ?a18 fun j_=>?z18
 (case a18=>k_is)
 refine' L2.Li KX G "MOST_IN_A_TUPLE" 8 ?a19 fun mP=>?z19
 (case a19=>k_is)
 refine' L2.Li KX G "MOST_ROWS" 1000 ?a20 fun Ab=>?z20
 (case a20=>k_is)
 refine' L2.Us KX G "KINDS" ?a21 ?b21 fun Mc w_KINDS=>?z21
 (case a21|b21=>k_is)
 refine' L2.Us KX G "OTHER_WAY" ?a22 ?b22 fun Ac w_OTHER_WAY=>?z22
 (case a22|b22=>k_is)
 refine' L2.Us KX G "OTHER_END" ?a23 ?b23 fun Ad w_OTHER_END=>?z23
 (case a23|b23=>k_is)
 refine' L2.Us KX G "OTHER_SIDE" ?a24 ?b24 fun wz w_OTHER_SIDE=>?z24
 (case a24|b24=>k_is)
 refine' L2.Us KX G "LENGTHS" ?a25 ?b25 fun FT w_LENGTHS=>?z25
 (case a25|b25=>k_is)
 refine' L2.xD KX G "len" ?a26 fun Vh=>?z26
 (case a26=>k_is)
 refine' L2.xD KX G "all" ?a27 fun Vi=>?z27
 (case a27=>k_is)
 refine' L2.xD KX G "any" ?a28 fun Vj=>?z28
 (case a28=>k_is)
 refine' L2.xD KX G "isinstance" ?a29 fun wA=>?z29
 (case a29=>k_is)
 refine' L2.xD KX G "range" ?a30 fun Md=>?z30
 (case a30=>k_is)
 refine' L2.xD KX G "int" ?a31 fun Vk=>?z31
 (case a31=>k_is)
 refine' L2.xD KX G "str" ?a32 fun Vl=>?z32
 (case a32=>k_is)
 refine' L2.xD KX G "bool" ?a33 fun Qu=>?z33
 (case a33=>k_is)
 refine' L2.xD KX G "tuple" ?a34 fun Me=>?z34
 (case a34=>k_is)
 refine' L2.xD KX G "list" ?a35 fun Qv=>?z35
 (case a35=>k_is)
 refine' L2.xD KX G "dict" ?a36 fun Qw=>?z36
 (case a36=>k_is)
 refine' L2.xD KX G "set" ?a37 fun Vm=>?z37
 (case a37=>k_is)
 refine' L2.xD KX G "zip" ?a38 fun Vn=>?z38
 (case a38=>k_is)
 refine' L2.xD KX G "sorted" ?a39 fun Ju=>?z39
 (case a39=>k_is)
 refine' L2.xD KX G "min" ?a40 fun Vo=>?z40
 (case a40=>k_is)
 refine' L2.xD KX G "max" ?a41 fun Vp=>?z41
 (case a41=>k_is)
 refine' L2.xD KX G "reversed" ?a42 fun Cp=>?z42
 (case a42=>k_is)
 refine' L2.JF KX G "PageError" ?a43 ?b43 fun oZ jj=>?z43
 (case a43=>k_is)
 (case b43=>k_exc)
 refine' L2.JF KX G "BadColumns" ?a44 ?b44 fun wB dE=>?z44
 (case a44=>k_is)
 (case b44=>k_exc)
 refine' L2.JF KX G "BadRow" ?a45 ?b45 fun Jv gL=>?z45
 (case a45=>k_is)
 (case b45=>k_exc)
 refine' L2.JF KX G "BadOrder" ?a46 ?b46 fun Cq cX=>?z46
 (case a46=>k_is)
 (case b46=>k_exc)
 refine' L2.JF KX G "BadSieve" ?a47 ?b47 fun Cr h_=>?z47
 (case a47=>k_is)
 (case b47=>k_exc)
 refine' L2.JF KX G "BadPlace" ?a48 ?b48 fun Cs cY=>?z48
 (case a48=>k_is)
 (case b48=>k_exc)
 refine' L2.JF KX G "BadSize" ?a49 ?b49 fun FU nu=>?z49
 (case a49=>k_is)
 (case b49=>k_exc)
 refine' L2.JF KX G "HasKey" ?a50 ?b50 fun Jw qW=>?z50
 (case a50=>k_is)
 (case b50=>k_exc)
 refine' L2.JF KX G "NoKey" ?a51 ?b51 fun Mf vp=>?z51
 (case a51=>k_is)
 (case b51=>k_exc)
 refine' L2.JF KX G "NoMoment" ?a52 ?b52 fun fO ia=>?z52
 (case a52=>k_is)
 (case b52=>k_exc)
 refine' L2.gxa KX fO ?a53 ?b53 ?c53 fun jk=>?z53
 (case a53|b53|c53=>k_is)
 refine' L2.gmk KX fO oZ ?a54 fun cB=>?z54
 (case a54=>k_is)
 refine' L2.gkk KX fO fO true ?a55 fun k_NoMoment_NoMoment=>?z55
 (case a55=>kit_is)
 refine' L2.YH aj "columns" ?a56 fun pI=>?z56
 (case a56=>k_is)
 refine' L2.YH aj "deeds" ?a57 fun tD=>?z57
 (case a57=>k_is)
 refine' L2.YH aj "runs" ?a58 fun wC=>?z58
 (case a58=>k_is)
 refine' L2.gvm KX e2 ?a59 ?b59 ?c59 fun oa=>?z59
 (case a59=>k_is)
 (case b59=>rfl)
 (case c59=>first|rfl|decide|simp [codeHdIn])
 refine' L2.gvm KX e3 ?a60 ?b60 ?c60 fun lC=>?z60
 (case a60=>k_is)
 (case b60=>rfl)
 (case c60=>first|rfl|decide|simp [codeHdIn])
 exact⟨⟨_,_,_,_,_,_,_,_,_,_,_,_,_,_,_,_,_,_,_,_,_,_,_,_,_,_,_,_,_,_,_,_,_,_,_,_,_,_,_,_,_,_,_,_,_,_,_,_,_,_,_,_,_,_⟩,rfl,⟨A0,Co,F0,D0,F1,D1,F2,F3,F4,F5,F6,F7,F8,D8,F9,D9,mM,n_,mO,rY,j9,z_,j_,mP,Ab,Mc,fun H=>L2.MC (xs:=[.str "number",.str "word"]) ⟨_,_,_,w_KINDS,rfl,rfl,(by rw[zZ];show 2≤16777216;decide),.cons ⟨_,rfl⟩ (.cons ⟨_,rfl⟩ (.nil))⟩ (L2.uV ["number","word"]),Ac,⟨by first|rfl|decide,_,_,_,w_OTHER_WAY,⟨rfl,rfl,rfl⟩,rfl,.cons ⟨rfl,⟨_,rfl⟩,⟨_,rfl⟩⟩ (.cons ⟨rfl,⟨_,rfl⟩,⟨_,rfl⟩⟩ (.nil)),by trivial⟩,Ad,⟨by first|rfl|decide,_,_,_,w_OTHER_END,⟨rfl,rfl,rfl⟩,rfl,.cons ⟨rfl,⟨_,rfl⟩,⟨_,rfl⟩⟩ (.cons ⟨rfl,⟨_,rfl⟩,⟨_,rfl⟩⟩ (.nil)),by trivial⟩,wz,⟨by first|rfl|decide,_,_,_,w_OTHER_SIDE,⟨rfl,rfl,rfl⟩,rfl,.cons ⟨rfl,⟨_,rfl⟩,⟨_,rfl⟩⟩ (.cons ⟨rfl,⟨_,rfl⟩,⟨_,rfl⟩⟩ (.nil)),by trivial⟩,FT,⟨by first|rfl|decide,_,_,_,w_LENGTHS,⟨rfl,rfl,rfl⟩,rfl,.cons ⟨rfl,⟨_,rfl⟩,⟨_,rfl⟩⟩ (.cons ⟨rfl,⟨_,rfl⟩,⟨_,rfl⟩⟩ (.cons ⟨rfl,⟨_,rfl⟩,⟨_,rfl⟩⟩ (.cons ⟨rfl,⟨_,rfl⟩,⟨_,rfl⟩⟩ (.cons ⟨rfl,⟨_,rfl⟩,⟨_,rfl⟩⟩ (.cons ⟨rfl,⟨_,rfl⟩,⟨_,rfl⟩⟩ (.cons ⟨rfl,⟨_,rfl⟩,⟨_,rfl⟩⟩ (.cons ⟨rfl,⟨_,rfl⟩,⟨_,rfl⟩⟩ (.cons ⟨rfl,⟨_,rfl⟩,⟨_,rfl⟩⟩ (.nil))))))))),by trivial⟩,Vh,Vi,Vj,wA,Md,Vk,Vl,Qu,Me,Qv,Qw,Vm,Vn,Ju,Vo,Vp,Cp,oZ,jj,wB,dE,Jv,gL,Cq,cX,Cr,h_,Cs,cY,FU,nu,Jw,qW,Mf,vp,fO,ia,jk,cB,k_NoMoment_NoMoment,Ma,aj,⟨Mb,(Co 0 (by decide)).e.at_,(Co 0 (by decide)).e.fn,k_Shelf⟩,pI,tD,wC,e2,oa,by simp,e3,lC,by simp,by simp,by simp,fun s v=>B7 s [v] rfl⟩⟩
