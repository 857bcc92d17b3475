import PyProof.Rows.All
import Wide.All
import OpenK.AllK
import Wide.FinOn
import Lean
import PyProof.EqAt
import PyProof.EqKinds
import PyProof.TupleCall
import PyProof.NsDelKeeps
import KE.KIsBytes
import PyProof.Rows.SetFrom
import KE.KDictOf
import PyProof.AttrMissSeq
import PyProof.WalksMore
import PyProof.ZipIter
import PyProof.StrBlock2
import PyProof.StrBlockI
import PyProof.Rows.StrJoin2
import PyProof.Rows.CountFlat
import PyProof.Rows.Range3
import PyProof.SumWalkG
import PyProof.Rows.ListMulArg
import PyProof.FactsAll.tuple
import PyProof.EnumFor
import PyProof.EnumMake
import KE.KDictLaws
import KE.KDictSum
import KE.KRevIter
import PyProof.Rows.SortStr
import PyProof.Rows.SortWalk
import PyProof.AutoListH
import PyProof.StrLawsReplace
import PyProof.Rows.SortShellK
import KE.KLam
import KE.KSortKey
import KE.KNestM
import PyProof.EnumStmt
import PyProof.ListMulRoad
import PySem.Challenge.RW_pageturns_k92_whole_counts_add_up
set_option compiler.extract_closed false
local macro_rules|`(!⟨$x,*⟩)=>`(⟨_,rfl,$x,*⟩)|`(!!⟨$x,*⟩)=>`(⟨_,rfl,_,rfl,$x,*⟩)|`(!!!⟨$x,*⟩)=>`(⟨_,rfl,_,rfl,_,rfl,$x,*⟩)|`(!!!!⟨$x,*⟩)=>`(⟨_,rfl,_,rfl,_,rfl,_,rfl,$x,*⟩)|`(!!!!!⟨$x,*⟩)=>`(⟨_,rfl,_,rfl,_,rfl,_,rfl,_,rfl,$x,*⟩)|`(!!!!!!⟨$x,*⟩)=>`(⟨_,rfl,_,rfl,_,rfl,_,rfl,_,rfl,_,rfl,$x,*⟩)|`(!!!!!!!⟨$x,*⟩)=>`(⟨_,rfl,_,rfl,_,rfl,_,rfl,_,rfl,_,rfl,_,rfl,$x,*⟩)|`(!!!!!!!!⟨$x,*⟩)=>`(⟨_,rfl,_,rfl,_,rfl,_,rfl,_,rfl,_,rfl,_,rfl,_,rfl,$x,*⟩)|`(!!!!!!!!!⟨$x,*⟩)=>`(⟨_,rfl,_,rfl,_,rfl,_,rfl,_,rfl,_,rfl,_,rfl,_,rfl,_,rfl,$x,*⟩)
local macro_rules|`(tactic| trivial)=>`(tactic| decide +kernel)
set_option Elab.async false
set_option linter.all false
set_option maxRecDepth 100000
namespace Tactic
open PySem.W (instObj methodObj hideAll hideAll_get of_hideAll Frag lookIn plainGet hasDictIn findIn handedIn plainGet_of isFn plainOver takerIn makesIn emptyDict specialIn keepIn mroIn kitOne kia_one kitx_list fnOf codeIn excIn callWith_K methodCall_KW envX kla_fn codeHdIn tabObj codeHd_of_K nsIn mg_of)
theorem za:type_of% @PySem.Heap.get?_push_of_some:=@PySem.Heap.get?_push_of_some
theorem zb:type_of% @List.length_map:=@List.length_map
theorem zc:type_of% @PySem.wpAny_bind:=@PySem.wpAny_bind
theorem zd:type_of% @Bool.false_ne_true:=@Bool.false_ne_true
theorem ze:type_of% @List.getElem?_eq_some_iff:=@List.getElem?_eq_some_iff
theorem zf:type_of% @List.getElem?_eq_getElem:=@List.getElem?_eq_getElem
theorem zg:type_of% @List.mem_map:=@List.mem_map
theorem zh:type_of% @List.mem_cons_of_mem:=@List.mem_cons_of_mem
theorem zi:type_of% @List.mem_cons:=@List.mem_cons
theorem zj:type_of% @PySem.Heap.get?_push_size:=@PySem.Heap.get?_push_size
theorem zk:type_of% @decide_eq_false:=@decide_eq_false
theorem zl:type_of% @Nat.lt_of_lt_of_le:=@Nat.lt_of_lt_of_le
theorem zm:type_of% @Nat.le_refl:=@Nat.le_refl
theorem zo:type_of% @List.mem_cons_self:=@List.mem_cons_self
theorem zp:type_of% @List.getElem?_map:=@List.getElem?_map
theorem zq:type_of% @decide_eq_true:=@decide_eq_true
theorem zr:type_of% @List.size_toArray:=@List.size_toArray
theorem zt:type_of% @PySem.Heap.lt_size:=@PySem.Heap.lt_size
theorem zu:type_of% @PySem.wpAny_pure:=@PySem.wpAny_pure
theorem zw:type_of% @List.map_map:=@List.map_map
theorem zx:type_of% @Nat.ne_of_lt:=@Nat.ne_of_lt
theorem zy:type_of% @List.mem_append_right:=@List.mem_append_right
theorem zA:type_of% @of_decide_eq_true:=@of_decide_eq_true
theorem zB:type_of% @List.map_cons:=@List.map_cons
theorem zC:type_of% @List.mem_of_getElem?:=@List.mem_of_getElem?
theorem zD:type_of% @List.getD_eq_getElem?_getD:=@List.getD_eq_getElem?_getD
theorem zE:type_of% @List.length_append:=@List.length_append
theorem zG:type_of% @List.mem_singleton:=@List.mem_singleton
theorem zH:type_of% @List.map_append:=@List.map_append
theorem zI:type_of% @Nat.le_trans:=@Nat.le_trans
theorem zJ:type_of% @Bool.and_eq_true:=@Bool.and_eq_true
theorem zK:type_of% @List.not_mem_nil:=@List.not_mem_nil
theorem zL:type_of% @List.mem_append:=@List.mem_append
theorem zM:type_of% @Option.some.inj:=@Option.some.inj
theorem zN:type_of% @List.mem_range:=@List.mem_range
theorem zO:type_of% @of_decide_eq_false:=@of_decide_eq_false
theorem zP:type_of% @Bool.false_and:=@Bool.false_and
theorem zQ:type_of% @List.length_cons:=@List.length_cons
theorem zR:type_of% @List.find?_cons:=@List.find?_cons
theorem zS:type_of% @Nat.zero_le:=@Nat.zero_le
theorem zT:type_of% @PySem.F.plainAttrs_list:=@PySem.F.plainAttrs_list
theorem zU:type_of% @PySem.Heap.size_push:=@PySem.Heap.size_push
theorem zV:type_of% @List.map_congr_left:=@List.map_congr_left
theorem zW:type_of% @List.lookup_cons:=@List.lookup_cons
theorem zX:type_of% @decide_eq_true_eq:=@decide_eq_true_eq
theorem zY:type_of% @Bool.true_and:=@Bool.true_and
theorem zZ:type_of% @PySem.sizeLine_eq:=@PySem.sizeLine_eq
theorem z0:type_of% @PySem.wpAny_field:=@PySem.wpAny_field
theorem ya:type_of% @List.mem_append_left:=@List.mem_append_left
theorem yb:type_of% @PySem.mem_of_lookup:=@PySem.mem_of_lookup
theorem yc:type_of% @List.all_eq_true:=@List.all_eq_true
theorem yd:type_of% @PySem.F.slot_list_append:=@PySem.F.slot_list_append
theorem ye:type_of% @PySem.F.type_list_append:=@PySem.F.type_list_append
theorem yf:type_of% @List.mem_filter:=@List.mem_filter
theorem yg:type_of% @Nat.ne_of_gt:=@Nat.ne_of_gt
theorem yh:type_of% @PySem.Heap.get?_update_other:=@PySem.Heap.get?_update_other
theorem yi:type_of% @List.filter_cons:=@List.filter_cons
theorem yj:type_of% @Array.length_toList:=@Array.length_toList
theorem yk:type_of% @PySem.wpAny_truthy_bool:=@PySem.wpAny_truthy_bool
theorem ym:type_of% @PySem.Heap.get?_update_self:=@PySem.Heap.get?_update_self
theorem yn:type_of% @PySem.F.slot_dict_get:=@PySem.F.slot_dict_get
theorem yo:type_of% @List.nodup_cons:=@List.nodup_cons
theorem yp:type_of% @PySem.Obj.data_mapFields:=@PySem.Obj.data_mapFields
theorem yq:type_of% @List.length_take:=@List.length_take
theorem yr:type_of% @Nat.lt_irrefl:=@Nat.lt_irrefl
theorem yt:type_of% @List.any_cons:=@List.any_cons
theorem yu:type_of% @PySem.Heap.SameBut.update:=@PySem.Heap.SameBut.update
theorem yw:type_of% @List.length_reverse:=@List.length_reverse
theorem yx:type_of% @Bool.eq_iff_iff:=@Bool.eq_iff_iff
theorem yy:type_of% @PySem.Calls.spliced_cons:=@PySem.Calls.spliced_cons
theorem yz:type_of% @PySem.wpAny_mono:=@PySem.wpAny_mono
theorem yA:type_of% @PySem.wpAny_newObj_type:=@PySem.wpAny_newObj_type
theorem yB:type_of% @Nat.le_of_lt:=@Nat.le_of_lt
theorem yC:type_of% @PySem.Paired.length:=@PySem.Paired.length
theorem yD:type_of% @PySem.wpAny_holding:=@PySem.wpAny_holding
theorem yE:type_of% @Nat.lt_succ_self:=@Nat.lt_succ_self
theorem yF:type_of% @PySem.wpAny_call_entry:=@PySem.wpAny_call_entry
theorem yG:type_of% @decide_eq_decide:=@decide_eq_decide
theorem yH:type_of% @Sum.inr.inj:=@Sum.inr.inj
theorem yI:type_of% @List.foldl_cons:=@List.foldl_cons
theorem yJ:type_of% @PySem.codeAny_builtin:=@PySem.codeAny_builtin
theorem yK:type_of% @List.all_cons:=@List.all_cons
theorem yL:type_of% @PySem.wpAny_setField:=@PySem.wpAny_setField
theorem yM:type_of% @PySem.codeAny_mono:=@PySem.codeAny_mono
theorem yN:type_of% @Bool.false_or:=@Bool.false_or
theorem yO:type_of% @Nat.le_succ:=@Nat.le_succ
theorem yP:type_of% @PySem.wpAny_of_eq:=@PySem.wpAny_of_eq
namespace L2
open PySem PySem.Spec PyProof.Rows
abbrev Key:=Sum Int Str
def keyIs:Key→Value→Bool
 |.inl k,v=>Value.isInt k v
 |.inr x,v=>Value.isStrOf x v
def UQ(w:World):Key→Int
 |.inl k=>hashInt k
 |.inr x=>hashStr w x
theorem bA:∀{k:Key}{v:Value},keyIs k v=true→(∃i t,k=Sum.inl i∧v=Value.int i t)∨(∃x t,k=Sum.inr x∧v=Value.str x t)
 |.inl i,v,h=>by
  obtain⟨t,e⟩:=Value.isInt_shape (k:=i) (v:=v) h
  exact .inl ⟨i,t,rfl,e⟩
 |.inr x,v,h=>by
  obtain⟨t,e⟩:=Value.isStrOf_shape (x:=x) (v:=v) h
  exact .inr ⟨x,t,rfl,e⟩
theorem Dd(i:Int)(t:Tok):keyIs (.inl i) (.int i t)=true:=by simp [keyIs,Value.isInt]
theorem Df(x:Str)(t:Tok):keyIs (.inr x) (.str x t)=true:=by simp [keyIs,Value.isStrOf]
theorem Mf(a b:Int):decide ((Sum.inl a:Key)=Sum.inl b)=(a == b):=by
 by_cases e:a=b
 ·subst e;simp
 ·have h:¬ (Sum.inl a:Key)=Sum.inl b:=fun q=>e (Sum.inl.inj q)
  rw[zk h]
  exact (beq_eq_false_iff_ne.mpr e).symm
theorem Mg(a b:Str):decide ((Sum.inr a:Key)=Sum.inr b)=decide (a=b):=by
 by_cases e:a=b
 ·subst e;simp
 ·have h:¬ (Sum.inr a:Key)=Sum.inr b:=fun q=>e (yH q)
  rw[zk h,zk e]
theorem Mh(a:Int)(b:Str):decide ((Sum.inl a:Key)=Sum.inr b)=false:=zk (fun q=>nomatch q)
theorem Mi(a:Str)(b:Int):decide ((Sum.inr a:Key)=Sum.inl b)=false:=zk (fun q=>nomatch q)
def aH(prog:Program)(w:World):PySem.KeyKind prog w Key where
 is:=keyIs
 hash:=UQ w
 inj:=fun v a b ha hb=>by
  rcases bA ha with ⟨i,t,rfl,rfl⟩|⟨x,t,rfl,rfl⟩
  ·rcases bA hb with ⟨j,u,rfl,e⟩|⟨y,u,rfl,e⟩
   ·injection e with e1 _;rw[e1]
   ·exact nomatch e
  ·rcases bA hb with ⟨j,u,rfl,e⟩|⟨y,u,rfl,e⟩
   ·exact nomatch e
   ·injection e with e1 _;rw[e1]
 byValue:=fun k v h=>by
  rcases bA h with ⟨i,t,rfl,rfl⟩|⟨x,t,rfl,rfl⟩ <;> rfl
 pyHash:=fun hv h=>by
  rcases bA hv with ⟨i,t,rfl,rfl⟩|⟨x,t,rfl,rfl⟩
  ·exact wpAny_pyHash_int h
  ·exact wpAny_pyHash_str h
 eqBool:=fun hu hv h=>by
  rcases bA hu with ⟨i,t,rfl,rfl⟩|⟨x,t,rfl,rfl⟩
  ·rcases bA hv with ⟨j,u,rfl,rfl⟩|⟨y,u,rfl,rfl⟩
   ·rw[Mf] at h;exact wpAny_eqBool_int h
   ·rw[Mh] at h;exact SeqAt.EqAt.int_str i t y u _ _ _ _ h
  ·rcases bA hv with ⟨j,u,rfl,rfl⟩|⟨y,u,rfl,rfl⟩
   ·rw[Mi] at h;exact SeqAt.EqAt.str_int x t j u _ _ _ _ h
   ·rw[Mg] at h;exact wpAny_eqBool_str h
 «strs»:=fun k x t v h=>by
  rcases bA h with ⟨i,u,rfl,e⟩|⟨y,u,rfl,e⟩
  ·exact nomatch e
  ·injection e with e1 _
   subst e1
   cases v <;> rfl
theorem wa(prog:Program)(w:World)(i:Int)(t:Tok):(aH prog w).is (.inl i) (.int i t)=true:=Dd i t
theorem iR(prog:Program)(w:World)(x:Str)(t:Tok):(aH prog w).is (.inr x) (.str x t)=true:=Df x t
inductive V where
 |aw|bl (b:Bool)|int (i:Int)|str (x:Str)|BM (b:Array UInt8)|Mj (b:UInt64)|ref (a:Addr)|ty (n:String)
 deriving DecidableEq
def RelV:V→Value→Prop
 |.aw,u=>u=Value.none
 |.bl b,u=>u=Value.bool b
 |.int i,u=>∃t,u=Value.int i t
 |.str x,u=>∃t,u=Value.str x t
 |.BM b,u=>∃t,u=Value.bytes b t
 |.Mj b,u=>∃t,u=Value.float b t
 |.ref a,u=>u=Value.ref a
 |.ty n,u=>u=Value.type n
abbrev Vals:List V→List Value→Prop:=Paired RelV
theorem Vals.length{xs:List V}{us:List Value}(r:Vals xs us):xs.length=us.length:=yC r
theorem Vals.get:∀{xs:List V}{us:List Value}{i:Nat}{x:V},Vals xs us→xs[i]?=some x→∃u,us[i]?=some u∧RelV x u
 |_,_,_,_,.nil,e=>by simp at e
 |_,_,0,_,.cons r _,e=>by simp at e;subst e;exact !⟨r⟩
 |_,_,i+1,x,.cons _ t,e=>by
  obtain⟨u,h1,h2⟩:=Vals.get (i:=i) (x:=x) t (by simpa using e)
  exact⟨u,by simpa using h1,h2⟩
theorem Vals.set(r:RelV x u):∀{xs:List V}{us:List Value} (i:Nat),Vals xs us→Vals (xs.set i x) (us.set i u)
 |_,_,_,.nil=>.nil
 |_,_,0,.cons _ t=>.cons r t
 |_,_,i+1,.cons q t=>.cons q (Vals.set r i t)
theorem Vals.append:∀{xs ys:List V}{us ws:List Value},Vals xs us→Vals ys ws→Vals (xs++ys) (us++ws)
 |_,_,_,_,.nil,s=>s
 |_,_,_,_,.cons r t,s=>.cons r (Vals.append t s)
theorem Vals.take:∀{xs:List V}{us:List Value} (n:Nat),Vals xs us→Vals (xs.take n) (us.take n)
 |_,_,0,_=>.nil
 |_,_,_+1,.nil=>.nil
 |_,_,n+1,.cons r t=>.cons r (Vals.take n t)
theorem Vals.drop:∀{xs:List V}{us:List Value} (n:Nat),Vals xs us→Vals (xs.drop n) (us.drop n)
 |_,_,0,r=>r
 |_,_,_+1,.nil=>.nil
 |_,_,n+1,.cons _ t=>Vals.drop n t
def fC:Option V→Option Value→Prop
 |some v,some u=>RelV v u
 |none,none=>True
 |_,_=>False
def KV{κ:Type} : List (κ×V)→List (κ×Value)→Prop:=Paired fun (p:κ×V) (q:κ×Value)=>p.1=q.1∧RelV p.2 q.2
def kV:Key→V
 |.inl i=>.int i
 |.inr x=>.str x
inductive HO where
  |lst (xs:List V)
  |tup (xs:List V)
  |dK (kvs:List (Key×V))|dT (kvs:List (List Key×V))
  |set (S:Int→Bool) (n:Nat)
  |ins (C dx:Addr) (fs:List (Str×V))
  |own (x:Addr)
  |xd (fs:List (Str×V))
  |met (f x:Addr)
  |Tz (lo hi:Int)
  |kI (o:Obj) (u:HO)
  |pE (ps:Array Value)
  |ext (φ:Heap→Prop)
abbrev Hp:=Addr→Option HO
def upd(H:Hp)(a:Addr)(o:HO):Hp:=fun b=>if b=a then some o else H b
theorem aF{H:Hp}{a:Addr}{o:HO} : upd H a o a=some o:=by unfold upd;rw[if_pos rfl]
theorem ax{H:Hp}{a b:Addr}{o:HO}(h:b≠a):upd H a o b=H b:=by unfold upd;rw[if_neg h]
theorem aD{H:Hp}{a b:Addr}{o:HO}(h:H a=some o)(h':H b=none):a≠b:=by
 intro e;subst e;rw[h] at h';cases h'
def iS(h:Heap)(a:Addr)(items:Array Value):Prop:=∃o,h.get? a=some o∧o.cls=.type "tuple" ∧ o.dict=none∧∃n,o.data=.seq items n
theorem iS.tup(x:iS h a items):IsTup h a items:=by obtain⟨o,e,c,_,n,d⟩:=x;exact⟨o,e,c,n,d⟩
theorem iS.lt(x:iS h a items):a<h.objs.size:=x.tup.lt
theorem iS.new(h:Heap)(items:Array Value):iS (h.push { cls:=.type "tuple",data:=.seq items }) h.objs.size items:=⟨_,zj _ rfl,rfl,rfl,_,rfl⟩
section
variable(P:Program)(w:World)
def bp(H:Hp)(h:Heap)(a:Addr):HO→Prop
 |.lst xs=>xs.length≤sizeLine∧∃(aA:List Value) (n:Nat),Vals xs aA∧h.get? a=some { cls:=.type "list",data:=.seq aA.toArray n }
 |.tup xs=>xs.length≤sizeLine∧∃aA:List Value,Vals xs aA∧iS h a aA.toArray
 |.dK kvs=>kvs.length≤sizeLine∧(a == sysModules)=false∧∃vs,KV kvs vs∧h.DictOf (aH P w) a vs
 |.dT _=>False
 |.set S n=>h.SetOf (intKind P w) a S n
 |.ins C dx fs=>H dx=some (.own a)∧fs.length≤1000∧dx≠a∧h.get? a=some (instObj C dx) ∧
   ∃mA,h.Ns1 dx mA∧(∀f,fC (fs.lookup f) (mA f))∧PySem.Within mA (fs.map (·.1))
 |.own _=>∃o,h.get? a=some o
 |.xd fs=>∃mA,h.Ns1 a mA∧∀f,fC (fs.lookup f) (mA f)
 |.Tz lo hi=>∃t u v,h.get? a=some { cls:=.type "range",data:=.fields #[.int lo t,.int hi u,.int 1 v] }
 |.kI o u=>h.get? a=some o∧bp H h a u
 |.pE ps=>h.get? a=some { cls:=.none,data:=.fields ps }
 |.met f x=>h.get? a=some (methodObj (.ref f) (.ref x))
 |.ext φ=>φ h∧(∃o,h.get? a=some o)∧∀h1 h2:Heap,φ h1→(∀o,h1.get? a=some o→h2.get? a=some o)→φ h2
def kJ(H:Hp)(h:Heap):Prop:=∀a o,H a=some o→bp P w H h a o
end
section
variable{P:Program}{w:World}{H H':Hp}{h h':Heap}{a:Addr}{o:HO}
theorem bp.lt(x:bp P w H h a o):a<h.objs.size:=by
 cases o with
 |lst xs=>obtain⟨_,_,_,_,e⟩:=x;exact zt e
 |tup xs=>obtain⟨_,_,_,p⟩:=x;exact p.lt
 |dK kvs=>obtain⟨_,_,_,_,o,_,_,e,_⟩:=x;exact zt e
 |dT kvs=>exact False.elim x
 |set S n=>obtain⟨o,_,_,_,e,_⟩:=x;exact zt e
 |ins C dx fs=>obtain⟨_,_,_,e,_⟩:=x;exact zt e
 |own y=>obtain⟨_,e⟩:=x;exact zt e
 |xd fs=>obtain⟨_,⟨_,_,_,e,_⟩,_⟩:=x;exact zt e
 |Tz lo hi=>obtain⟨_,_,_,e⟩:=x;exact zt e
 |kI ob u=>obtain⟨e,_⟩:=x;exact zt e
 |pE ps=>exact zt (show h.get? a=some _ from x)
 |met f y=>exact zt (show h.get? a=some _ from x)
 |ext φ=>obtain⟨_,⟨_,e⟩,_⟩:=x;exact zt e
theorem bp.oV(x:bp P w H h a o)(k:∀b u,(b=a∨H b=some (.own a))→h.get? b=some u→h'.get? b=some u)
  (ho:∀b,H b=some (.own a)→H' b=some (.own a)) (ht:∀b xs,H b=some (.tup xs)→H' b=some (.tup xs)):bp P w H' h' a o:=by
 induction o with
 |lst xs=>obtain⟨z,aA,n,r,e⟩:=x;exact⟨z,aA,n,r,k _ _ (.inl rfl) e⟩
 |tup xs=>obtain⟨z,aA,r,ob,e,c⟩:=x;exact⟨z,aA,r,ob,k _ _ (.inl rfl) e,c⟩
 |dK kvs=>obtain⟨z,y,vs,r,ob,es,ep,e,c⟩:=x;exact⟨z,y,vs,r,ob,es,ep,k _ _ (.inl rfl) e,c⟩
 |dT kvs=>exact False.elim x
 |set S n=>obtain⟨ob,es,ep,t,e,c⟩:=x;exact⟨ob,es,ep,t,k _ _ (.inl rfl) e,c⟩
 |ins C dx fs =>
  obtain⟨d,z,ne,e,mA,⟨od,es,ep,e2,c⟩,r⟩:=x
  exact⟨ho _ d,z,ne,k _ _ (.inl rfl) e,mA,⟨od,es,ep,k _ _ (.inr d) e2,c⟩,r⟩
 |own y=>obtain⟨ob,e⟩:=x;exact⟨ob,k _ _ (.inl rfl) e⟩
 |xd fs=>obtain⟨mA,⟨od,es,ep,e,c⟩,r⟩:=x;exact⟨mA,⟨od,es,ep,k _ _ (.inl rfl) e,c⟩,r⟩
 |Tz lo hi=>obtain⟨t,u,v,e⟩:=x;exact⟨t,u,v,k _ _ (.inl rfl) e⟩
 |kI ob u ih=>obtain⟨e,q⟩:=x;exact⟨k _ _ (.inl rfl) e,ih q⟩
 |pE ps =>
  have e:h.get? a=some { cls:=.none,data:=.fields ps }:=x
  show h'.get? a=some { cls:=.none,data:=.fields ps }
  exact k a _ (.inl rfl) e
 |met f y =>
  have e:h.get? a=some (methodObj (.ref f) (.ref y)):=x
  show h'.get? a=some (methodObj (.ref f) (.ref y))
  exact k a _ (.inl rfl) e
 |ext φ=>obtain⟨p,⟨o,e⟩,st⟩:=x;exact⟨st _ _ p fun o q=>k _ _ (.inl rfl) q,⟨o,k _ _ (.inl rfl) e⟩,st⟩
theorem kJ.lt(x:kJ P w H h)(e:H a=some o):a<h.objs.size:=(x a o e).lt
theorem kJ.fresh(x:kJ P w H h)(e:h.objs.size≤a):H a=none:=by
 cases q:H a with
 |none=>rfl
 |some u=>exact absurd (zl (x.lt q) e) (yr _)
theorem kJ.kept(x:kJ P w H h)(k:∀b u,h.get? b=some u→h'.get? b=some u):kJ P w H h':=fun a o e =>
 (x a o e).oV (fun b u _ q=>k b u q) (fun _ q=>q) fun _ _ q=>q
theorem kJ.laid(x:kJ P w H h)(k:∀b u,h.get? b=some u→h'.get? b=some u)(hp:h.objs.size≤a)(new:bp P w (upd H a o) h' a o):kJ P w (upd H a o) h':=fun b u e=>by
 have hn:=x.fresh hp
 by_cases hb:b=a
 ·subst hb;rw[aF] at e;cases e;exact new
 ·rw[ax hb] at e
  exact (x b u e).oV (fun c v _ q=>k c v q) (fun c q=>by rw[ax (aD q hn)];exact q) fun c xs q=>by rw[ax (aD q hn)];exact q
end
def Rd(H:Hp)(a:Addr)(u:HO):Prop:=H a=some u∨∃o,H a=some (.kI o u)
theorem Rd.of(h:H a=some u):Rd H a u:=.inl h
theorem Rd.ok{P:Program}{w:World}{H:Hp}{h:Heap}{a:Addr}{u:HO}(r:Rd H a u)(x:kJ P w H h):bp P w H h a u:=by
 rcases r with r|⟨o,r⟩
 ·exact x a u r
 ·obtain⟨_,q⟩:=x a _ r
  exact q
def PR:Option HO→Prop
 |some (.lst _)=>True
 |some (.dK _)=>True
 |some (.dT _)=>True
 |some (.set _ _)=>True
 |some (.ins _ _ _)=>True
 |some (.ext _)=>True
 |_=>False
section
variable{P:Program}{w:World}{H:Hp}{h h':Heap}{x e:Addr}{o':HO}
theorem kJ.write(ok:kJ P w H h)(mu:PR (H x))(he:e=x∨H e=some (.own x))(k:∀b u,b≠e→h.get? b=some u→h'.get? b=some u)(O6:∃u,h'.get? e=some u)
  (new:bp P w (upd H x o') h' x o'):kJ P w (upd H x o') h':=fun b u q=>by
 have PU:∀c y,H c=some (.own y)→c≠x:=fun c y r z=>by subst z;rw[r] at mu;exact mu
 have UR:∀c xs,H c=some (.tup xs)→c≠x:=fun c xs r z=>by subst z;rw[r] at mu;exact mu
 by_cases hb:b=x
 ·subst hb;rw[aF] at q;cases q;exact new
 ·rw[ax hb] at q
  by_cases Ml:b=e
  ·have q':H b=some (.own x):=by
    rcases he with z|z
    ·exact absurd (Ml.trans z) hb
    ·rw[Ml];exact z
   rw[q] at q';cases q'
   obtain⟨v,hv⟩:=O6
   exact⟨v,by rw[Ml];exact hv⟩
  ·refine (ok b u q).oV (fun c v hc r=>k c v ?_ r) (fun c r=>by rw[ax (PU c b r)];exact r) fun c xs r=>by rw[ax (UR c xs r)];exact r
   rcases hc with rfl|hc
   ·exact Ml
   ·rintro rfl
    rcases he with z|z
    ·exact PU c b hc z
    ·rw[hc] at z;cases z;exact hb rfl
end
structure Un(fs ex:List Addr)(H H':Hp)(h h':Heap):Prop where
 keep:∀b o,h.get? b=some o→H b=none→b∉fs→b∉ex→h'.get? b=some o
 slot:∀b o,h.get? b=some o→H b=none→b∈fs→b∉ex→∃sl,h'.get? b=some { o with slots:=sl }
 free:∀b o,h.get? b=some o→H b=none→b∉ex→H' b=none
 there:∀b o,h.get? b=some o→b∉ex→∃o',h'.get? b=some o'
 lN:∀b xs,H b=some (.tup xs)→H' b=some (.tup xs)
 kK:∀b o u,H b=some (.kI o u)→H' b=some (.kI o u)
 kL:∀b ps,H b=some (.pE ps)→∃more,H' b=some (.pE (ps++more))
section
variable{fs ex:List Addr}{H H1:Hp}{h h1 h':Heap}{a x e:Addr}{o:HO}
theorem Un.any(u:Un fs ex H H1 h h1){b:Addr}{ob:Obj}(q:h.get? b=some ob)(n:H b=none)(hx:b∉ex):∃sl,h1.get? b=some { ob with slots:=sl }:=by
 by_cases hb:b∈fs
 ·exact u.slot b ob q n hb hx
 ·exact⟨ob.slots,u.keep b ob q n hb hx⟩
theorem Un.kept(k:∀b u,h.get? b=some u→h'.get? b=some u):Un fs ex H H h h' :=
 ⟨fun b ob q _ _ _=>k b ob q,fun b ob q _ _ _=>⟨ob.slots,k b ob q⟩,fun _ _ _ n _=>n,fun b ob q _=>⟨ob,k b ob q⟩,fun _ _ q=>q,fun _ _ _ q=>q,fun _ ps q=>⟨#[],by rw[q];simp⟩⟩
theorem Un.refl:Un fs ex H H h h:=Un.kept fun _ _ q=>q
theorem Un.laid(k:∀b u,h.get? b=some u→h'.get? b=some u)(hp:h.objs.size≤a)(hn:H a=none):Un fs ex H (upd H a o) h h' where
 keep:=fun b u q _ _ _=>k b u q
 slot:=fun b u q _ _ _=>⟨u.slots,k b u q⟩
 free:=fun b u q n _=>by rw[ax (zx (zl (zt q) hp))];exact n
 there:=fun b u q _=>⟨u,k b u q⟩
 lN:=fun b xs q=>by rw[ax (aD q hn)];exact q
 kK:=fun b u xs q=>by rw[ax (aD q hn)];exact q
 kL:=fun b ps q=>⟨#[],by rw[ax (aD q hn),q];simp⟩
theorem Un.write(mu:PR (H x))(he:e=x∨H e=some (.own x))(k:∀b u,b≠e→h.get? b=some u→h'.get? b=some u)(O6:∃u,h'.get? e=some u):Un fs ex H (upd H x o) h h':=by
 have hx:∀b,H b=none→b≠x:=fun b n z=>by subst z;rw[n] at mu;exact mu
 have hb:∀b,H b=none→b≠e:=fun b n z=>by
  subst z
  rcases he with r|r
  ·exact hx b n r
  ·rw[n] at r;cases r
 have hm:∀b u,H b=some u→¬ PR (some u)→b≠x:=fun b u q nm z=>by subst z;rw[q] at mu;exact nm mu
 refine⟨fun b u q n _ _=>k b u (hb b n) q,fun b u q n _ _=>⟨u.slots,k b u (hb b n) q⟩,fun b u q n _=>by rw[ax (hx b n)];exact n,fun b u q _=>?_,
  fun b xs q=>by rw[ax (hm b _ q fun z=>z)];exact q,fun b u xs q=>by rw[ax (hm b _ q fun z=>z)];exact q,fun b ps q=>⟨#[],by rw[ax (hm b _ q fun z=>z),q];simp⟩⟩
 by_cases Ml:b=e
 ·subst Ml;exact O6
 ·exact⟨u,k b u Ml q⟩
end
def TB(h:Heap)(H:Hp):List Addr:=(List.range h.objs.size).filter fun a=>(H a).isSome
def rV(h:Heap)(H:Hp):Heap:=hideAll h (TB h H)
theorem Dg(h:Heap)(H:Hp):(rV h H).objs.size=h.objs.size:=PySem.W.hideAll_size _ _
theorem Ff(e:h.get? b=some o)(n:H b=none):(rV h H).get? b=some o :=
 hideAll_get _ e fun hm=>by
  have q:(H b).isSome=true:=(yf.mp hm).2
  rw[n] at q;simp at q
theorem Iu(e:(rV h H).get? b=some o):h.get? b=some o∧H b=none:=by
 have e':h.get? b=some o:=of_hideAll (TB h H) e
 refine⟨e',?_⟩
 cases q:H b with
 |none=>rfl
 |some x =>
  have hm:b∈TB h H:=yf.mpr ⟨zN.mpr (zt e'),by simp [q]⟩
  have z:(rV h H).get? b=none:=PySem.W.hideAll_none (TB h H) hm
  rw[z] at e;cases e
def Iv(g h:Heap)(L:Addr):List (Addr×Obj):=(List.range h.objs.size).filterMap fun a=>if a=L∨(g.get? a).isSome=true then none else (h.get? a).map fun o=>(a,o)
def rest(g h:Heap)(L d:Addr):List (Addr×Obj):=(Iv g h L).filter fun p=>decide (p.1≠d)
structure Mod(K:Frag)(mg:Str→Option Value)(base:Heap):Prop where
 O7:K.In base
 glob:base.Ns mainGlobals mg
 blt:∃mb,base.Ns builtinsNs mb∧∀x:Str,x ≠ "__name__" → mb x=bootBuiltins x
 nolimit:base.NoLimit
structure Cx where
 prog:Program
 w:World
 K:Frag
 mg:Str→Option Value
 base:Heap
 A:Around
 N:List Str
 cP:Shared
 um:Hp
 env:Env
 outer:List Env
 stack:List Env
 ex:List Addr
 fn:Str→Bool
 calm:Bool
 pn:List (Addr×Obj)
 xe:Value→Shared→Prop
def mZ(l:List Env):List Addr:=l.filterMap (·.frame)
abbrev Cx.fs(X:Cx):List Addr:=mZ X.outer
def O8(sc:Scope)(x:Str):Prop:=sc.names.lookup x=some .local∨sc.names.lookup x=some .cell∨sc.names.lookup x=some .free
def Loc(sc:Scope)(x:Str):Prop:=sc.names.lookup x=some .local∨sc.names.lookup x=some .cell
def Look(env:Env)(h:Heap)(m:Str→Option Value)(x:Str)(u:Value):Prop :=
 (env.kindOf x=some .local∧m x=some u)∨((env.kindOf x=some .cell∨env.kindOf x=some .free)∧∃c,env.cells.lookup x=some c∧h.IsCell c (some u))
structure Cx.Ok(X:Cx):Prop where
 mod:Mod X.K X.mg X.base
 kind:X.env.scope.kind=.function
 glob:X.env.globals=mainGlobals
 blt:X.env.builtins=builtinsNs
 above:X.cP.heap.objs.size≤X.env.locals
 inj:∀x y c,X.env.cells.lookup x=some c→X.env.cells.lookup y=some c→x=y
 has:∀x,(X.env.kindOf x=some .cell∨X.env.kindOf x=some .free)→∃c,X.env.cells.lookup x=some c
 US:∀x c,X.fn x=true→X.env.cells.lookup x=some c→X.cP.heap.objs.size≤c
 hd:X.calm=true→X.A.handled=none
 frames:X.A.frames=some X.stack
 Yj:X.stack=X.outer∨(X.stack=X.env::X.outer∧X.env.frame=some X.env.locals)
 exf:∀b∈X.ex,b≠X.env.locals∧∀x c,X.env.cells.lookup x=some c→c≠b
 bs:∀b o,X.base.get? b=some o→X.cP.heap.get? b=some o∧X.um b=none
 Iw:X.base.objs.size≤X.cP.heap.objs.size
 Mm:∀b o,X.base.get? b=some o→b∉X.ex
 PX:∀b∈X.ex,b∉X.fs
 oW:X.cP.heap.FunFrames X.base X.outer
 Mn:∀b∈X.fs,X.um b=none
structure Inv(X:Cx)(pins:List (Addr×Obj))(σ:List (Option V))(H:Hp)(s:Shared):Prop where
 ok:X.Ok
 os:s.os=X.cP.os
 bare:AllBare s.gens
 base:Un X.fs X.ex X.um H X.cP.heap s.heap
 loc:∃m,s.heap.Ns X.env.locals m∧∀(i:Nat) (x:Str) (v:V),X.N[i]?=some x→σ[i]?=some (some v)→O8 X.env.scope x→∃u,RelV v u∧Look X.env s.heap m x u
 cell:∀x c,X.env.cells.lookup x=some c→∃v,s.heap.IsCell c v
 free:H X.env.locals=none
 fI:∀x c,X.env.cells.lookup x=some c→H c=none
 pin:∀p∈X.pn++pins,s.heap.get? p.1=some p.2∧H p.1=none∧p.1≠X.env.locals∧p.1∉X.fs∧∀v,p.2.data≠.cell v
 aM:kJ X.prog X.w H s.heap
 len:σ.length=X.N.length
section
variable{X:Cx}{pins:List (Addr×Obj)}{σ:List (Option V)}{H H':Hp}{s:Shared}{h':Heap}
theorem Cx.Ok.Dh(ok:X.Ok)(e:X.base.get? b=some o):b∉X.fs:=fun hb=>by
 have:=(ok.oW.mem hb).1
 rw[e] at this;cases this
theorem Inv.bs(I:Inv X pins σ H s):∀b o,X.base.get? b=some o→s.heap.get? b=some o∧H b=none:=fun b o e =>
 ⟨I.base.keep b o (I.ok.bs b o e).1 (I.ok.bs b o e).2 (I.ok.Dh e) (I.ok.Mm b o e),I.base.free b o (I.ok.bs b o e).1 (I.ok.bs b o e).2 (I.ok.Mm b o e)⟩
theorem Inv.bk(I:Inv X pins σ H s):∀b o,X.base.get? b=some o→s.heap.get? b=some o:=fun b o e=>(I.bs b o e).1
theorem Inv.mod(I:Inv X pins σ H s):Mod X.K X.mg X.base:=I.ok.mod
theorem Inv.oh(I:Inv X pins σ H s):X.K.In s.heap:=I.ok.mod.O7.keeps I.bk
theorem Inv.nolimit(I:Inv X pins σ H s):s.heap.NoLimit:=I.ok.mod.nolimit.keeps I.bk
theorem Inv.fr(I:Inv X pins σ H s):∃m,Fr X.base X.env.locals s.heap m :=
 let ⟨m,hn,_⟩:=I.loc
 ⟨m,hn,I.bk,zI I.ok.Iw I.ok.above⟩
theorem Inv.lt(I:Inv X pins σ H s):X.env.locals<s.heap.objs.size:=by obtain⟨_,hn,_⟩:=I.loc;exact hn.lt
theorem Inv.sz(I:Inv X pins σ H s):X.cP.heap.objs.size≤s.heap.objs.size:=zI I.ok.above (yB I.lt)
theorem Inv.PY(I:Inv X pins σ H s)(h:s.heap.objs.size≤a):a∉X.fs:=fun hb=>by
 obtain⟨_,o,ho,_⟩:=I.ok.oW.mem hb
 exact absurd (zl (zt ho) (zI I.sz h)) (yr _)
theorem Inv.Mp(I:Inv X pins σ H s):∀x c,X.env.cells.lookup x=some c→c≠X.env.locals:=fun x c e z=>by
 obtain⟨v,o,ho,hd⟩:=I.cell x c e
 obtain⟨m,⟨o',es,ep,x_,yQ,_⟩,_⟩:=I.loc
 rw[z,x_] at ho;cases ho;rw[yQ] at hd;cases hd
theorem Inv.oW(I:Inv X pins σ H s):s.heap.FunFrames X.base X.outer:=by
 have all:∀(l:List Env),(∀b∈mZ l,b∈X.fs)→X.cP.heap.FunFrames X.base l→s.heap.FunFrames X.base l:=by
  intro l
  induction l with
  |nil=>intro _ _;trivial
  |cons env r ih =>
   intro hs hl
   obtain⟨hk,⟨L,o,hf,hn,ho,hd⟩,hr⟩:=hl
   have hL:L∈X.fs:=hs L (by unfold mZ;rw[List.filterMap_cons,hf];exact zo)
   obtain⟨sl,e⟩:=I.base.slot L o ho (I.ok.Mn L hL) hL fun z=>I.ok.PX L z hL
   exact⟨hk,⟨L,_,hf,hn,e,hd⟩,ih (fun b hb=>hs b (by unfold mZ;rw[List.filterMap_cons,hf];exact zh _ hb)) hr⟩
 exact all X.outer (fun _ hb=>hb) I.ok.oW
theorem Inv.stack(I:Inv X pins σ H s):s.heap.FunFrames X.base X.stack:=by
 rcases I.ok.Yj with e|⟨e,hf⟩
 ·rw[e];exact I.oW
 ·rw[e]
  obtain⟨m,hn,_⟩:=I.loc
  refine .cons (by rw[I.ok.kind];decide) hf hn ?_ I.oW
  exact Heap.get?_none_of_le (zI I.ok.Iw I.ok.above)
theorem Inv.m6(I:Inv X pins σ H s):∀b∈mZ X.stack,b∈X.env.locals::X.fs:=fun b hb=>by
 rcases I.ok.Yj with e|⟨e,hf⟩
 ·rw[e] at hb;exact zh _ hb
 ·rw[e] at hb
  unfold mZ at hb
  rw[List.filterMap_cons,hf] at hb
  exact hb
theorem Inv.pF(I:Inv X pins σ H s):∀b∈mZ X.stack,H b=none:=fun b hb=>by
 rcases zi.mp (I.m6 b hb) with e|hb
 ·rw[e];exact I.free
 ·obtain⟨_,o,ho,_⟩:=I.ok.oW.mem hb
  exact I.base.free b o ho (I.ok.Mn b hb) fun z=>I.ok.PX b z hb
theorem Inv.step{g':Array GenState}{t':Nat}{d':Drawn}{ch:List Addr}(I:Inv X pins σ H s)
  (Ib:∀b∈ch,(b∈X.ex∨X.cP.heap.objs.size≤b)∧b≠X.env.locals∧(∀x c,X.env.cells.lookup x=some c→c≠b)∧∀p∈X.pn++pins,p.1≠b)
  (keep:∀b o,b≠X.env.locals→b∉X.fs→b∉ch→s.heap.get? b=some o→H b=none→h'.get? b=some o)
  (slot:∀b o,b≠X.env.locals→b∈X.fs→b∉ch→s.heap.get? b=some o→H b=none→∃sl,h'.get? b=some { o with slots:=sl }) (free:∀b o,b∉ch→s.heap.get? b=some o→H b=none→H' b=none)
  (there:∀b o,b∉ch→s.heap.get? b=some o→∃o',h'.get? b=some o')
  (lN:∀b xs,H b=some (.tup xs)→H' b=some (.tup xs)) (kK:∀b o u,H b=some (.kI o u)→H' b=some (.kI o u)) (kL:∀b ps,H b=some (.pE ps)→∃more,H' b=some (.pE (ps++more)))
  (ns:∀m,s.heap.Ns X.env.locals m→h'.Ns X.env.locals m) (aM:kJ X.prog X.w H' h') (hg:AllBare g') :
  Inv X pins σ H' { s with heap:=h',gens:=g',drawn:=d',toks:=t' }:=by
 have Yk:∀b o,X.cP.heap.get? b=some o→b≠X.env.locals:=fun b o e=>zx (zl (zt e) I.ok.above)
 have TC:∀b o,X.cP.heap.get? b=some o→b∉X.ex→b∉ch:=fun b o e hx hb=>by
  rcases (Ib b hb).1 with z|z
  ·exact hx z
  ·exact absurd (zl (zt e) z) (yr _)
 have cellK:∀x c,X.env.cells.lookup x=some c→∀v,s.heap.IsCell c v→h'.IsCell c v:=by
  rintro x c e v ⟨o,ho,hd⟩
  have PZ:c∉ch:=fun z=>(Ib c z).2.2.1 x c e rfl
  by_cases hc:c∈X.fs
  ·obtain⟨sl,q⟩:=slot c o (I.Mp x c e) hc PZ ho (I.fI x c e)
   exact⟨_,q,hd⟩
  ·exact⟨o,keep c o (I.Mp x c e) hc PZ ho (I.fI x c e),hd⟩
 refine⟨I.ok,I.os,hg,⟨fun b o e n hb hx=>?_,fun b o e n hb hx=>?_,fun b o e n hx=>?_,fun b o e hx=>?_,fun b xs e=>lN b xs (I.base.lN b xs e),fun b o xs e=>kK b o xs (I.base.kK b o xs e),fun b ps e=>?_⟩,?_,fun x c e=>?_,?_,fun x c e=>?_,fun p hp=>?_,aM,I.len⟩
 ·exact keep b o (Yk b o e) hb (TC b o e hx) (I.base.keep b o e n hb hx) (I.base.free b o e n hx)
 ·obtain⟨sl,e1⟩:=I.base.slot b o e n hb hx
  obtain⟨ZH,e2⟩:=slot b _ (Yk b o e) hb (TC b o e hx) e1 (I.base.free b o e n hx)
  exact⟨ZH,e2⟩
 ·obtain⟨o',e1⟩:=I.base.there b o e hx
  exact free b o' (TC b o e hx) e1 (I.base.free b o e n hx)
 ·obtain⟨o',e1⟩:=I.base.there b o e hx
  exact there b o' (TC b o e hx) e1
 ·obtain⟨m1,e1⟩:=I.base.kL b ps e
  obtain⟨m2,e2⟩:=kL b _ e1
  exact⟨m1++m2,by rw[e2,Array.append_assoc]⟩
 ·obtain⟨m,hn,hl⟩:=I.loc
  refine⟨m,ns m hn,fun i x v e1 e2 e3=>?_⟩
  obtain⟨u,r,l⟩:=hl i x v e1 e2 e3
  refine⟨u,r,?_⟩
  rcases l with l|⟨k,c,e,z⟩
  ·exact .inl l
  ·exact .inr ⟨k,c,e,cellK x c e _ z⟩
 ·obtain⟨v,z⟩:=I.cell x c e
  exact⟨v,cellK x c e v z⟩
 ·obtain⟨m,⟨o,_,_,ho,_⟩,_⟩:=I.loc
  exact free _ o (fun z=>(Ib _ z).2.1 rfl) ho I.free
 ·obtain⟨v,o,ho,hd⟩:=I.cell x c e
  exact free c o (fun z=>(Ib c z).2.2.1 x c e rfl) ho (I.fI x c e)
 ·obtain⟨e,n,ne,nf,d⟩:=I.pin p hp
  have PZ:p.1∉ch:=fun z=>(Ib p.1 z).2.2.2 p hp rfl
  exact⟨keep p.1 p.2 ne nf PZ e n,free p.1 p.2 PZ e n,ne,nf,d⟩
theorem Inv.un{t':Nat}(I:Inv X pins σ H s)(u:Un X.fs [] H H' s.heap h')(aM:kJ X.prog X.w H' h'):Inv X pins σ H' { s with heap:=h',toks:=t' }:=by
 obtain⟨m,⟨o,es,ep,ho,r⟩,_⟩:=id I.loc
 obtain⟨sl,hL⟩:=u.any ho I.free (by simp)
 exact I.step (g':=s.gens) (d':=s.drawn) (ch:=[]) (fun _ z=>nomatch z) (fun b o _ hb _ e n=>u.keep b o e n hb (by simp)) (fun b o _ hb _ e n=>u.slot b o e n hb (by simp)) (fun b o _ e n=>u.free b o e n (by simp)) (fun b o _ e=>u.there b o e (by simp)) u.lN u.kK u.kL (fun m' hm=>by
  obtain⟨o',TF,UT,x_,r'⟩:=hm
  rw[ho] at x_;cases x_
  exact⟨_,TF,UT,hL,r'⟩) aM I.bare
theorem Inv.call{g':Array GenState}{t':Nat}{d':Drawn}{ch:List Addr}(I:Inv X pins σ H s)(u:Un (mZ X.stack) ch H H' s.heap h')(aM:kJ X.prog X.w H' h')(hg:AllBare g')
  (Ib:∀b∈ch,(b∈X.ex∨X.cP.heap.objs.size≤b)∧b≠X.env.locals∧(∀x c,X.env.cells.lookup x=some c→c≠b)∧∀p∈X.pn++pins,p.1≠b) :
  Inv X pins σ H' { s with heap:=h',gens:=g',drawn:=d',toks:=t' }:=by
 obtain⟨m,⟨o,es,ep,ho,r⟩,_⟩:=id I.loc
 obtain⟨sl,hL⟩:=u.any ho I.free fun z=>(Ib _ z).2.1 rfl
 exact I.step (ch:=ch) Ib (fun b o hL hb hc e n=>u.keep b o e n (fun z=>(zi.mp (I.m6 b z)).elim hL hb) hc) (fun b o _ _ hc e n=>u.any e n hc) (fun b o hc e n=>u.free b o e n hc) (fun b o hc e=>u.there b o e hc) u.lN u.kK u.kL (fun m' hm=>by
  obtain⟨o',TF,UT,x_,r'⟩:=hm
  rw[ho] at x_;cases x_
  exact⟨_,TF,UT,hL,r'⟩) aM hg
theorem Inv.turned{t':Nat}{it:Addr}(I:Inv X pins σ H s)(k:∀b o,b≠it→s.heap.get? b=some o→h'.get? b=some o)(hn:H it=none)(hL:it≠X.env.locals)
  (h1:it∈X.ex∨X.cP.heap.objs.size≤it) (h2:∀x c,X.env.cells.lookup x=some c→c≠it) (h3:∀p∈X.pn++pins,p.1≠it):Inv X pins σ H { s with heap:=h',toks:=t' }:=by
 have Mq:∀b u,H b=some u→b≠it:=fun b u e z=>by rw[z,hn] at e;cases e
 refine I.step (g':=s.gens) (d':=s.drawn) (ch:=[it]) (fun b hb=>?_) (fun b o _ _ hc e _=>k b o (fun z=>hc (by simp [z])) e) (fun b o _ _ hc e _=>⟨o.slots,k b o (fun z=>hc (by simp [z])) e⟩) (fun _ _ _ _ n=>n)
  (fun b o hc e=>⟨o,k b o (fun z=>hc (by simp [z])) e⟩) (fun _ _ e=>e) (fun _ _ _ e=>e) (fun b ps e=>⟨#[],by rw[e];simp⟩) (fun m hm=>?_) (fun b u e=>?_) I.bare
 ·have e:b=it:=by simpa using hb
  subst e
  exact⟨h1,hL,h2,h3⟩
 ·obtain⟨o,es,ep,ho,r⟩:=hm
  exact⟨o,es,ep,k _ o (Ne.symm hL) ho,r⟩
 ·refine (I.aM b u e).oV (fun c v hc q=>k c v ?_ q) (fun _ q=>q) fun _ _ q=>q
  rcases hc with z|z
  ·rw[z];exact Mq b u e
  ·exact Mq c _ z
theorem Inv.tok(I:Inv X pins σ H s)(t:Nat):Inv X pins σ H { s with toks:=t }:=I.un (h':=s.heap) (t':=t) Un.refl I.aM
theorem Inv.kept(I:Inv X pins σ H s)(k:∀b u,s.heap.get? b=some u→h'.get? b=some u):Inv X pins σ H { s with heap:=h',toks:=t' }:=I.un (Un.kept k) (I.aM.kept k)
theorem Inv.laid{a:Addr}{o:HO}{t':Nat}(I:Inv X pins σ H s)(k:∀b u,s.heap.get? b=some u→h'.get? b=some u)(hp:s.heap.objs.size≤a)(new:bp X.prog X.w (upd H a o) h' a o) :
  Inv X pins σ (upd H a o) { s with heap:=h',toks:=t' }:=I.un (Un.laid k hp (I.aM.fresh hp)) (I.aM.laid k hp new)
theorem Inv.write(I:Inv X pins σ H s)(mu:PR (H x))(he:e=x∨H e=some (.own x))(k:∀b u,b≠e→s.heap.get? b=some u→h'.get? b=some u)(O6:∃u,h'.get? e=some u)
  (new:bp X.prog X.w (upd H x o) h' x o):Inv X pins σ (upd H x o) { s with heap:=h',toks:=t' }:=I.un (Un.write mu he k O6) (I.aM.write mu he k O6 new)
theorem Inv.weak(I:Inv X pins σ H s)(hl:aG.length=σ.length)(w:∀(i:Nat) v,aG[i]?=some (some v)→σ[i]?=some (some v)):Inv X pins aG H s :=
 ⟨I.ok,I.os,I.bare,I.base,by obtain⟨m,hn,Yl⟩:=I.loc;exact⟨m,hn,fun i x v e1 e2 e3=>Yl i x v e1 (w i v e2) e3⟩,I.cell,I.free,I.fI,I.pin,I.aM,hl.trans I.len⟩
theorem Inv.lO(I:Inv X pins σ H s)(h:∀p∈pins',s.heap.get? p.1=some p.2∧H p.1=none∧p.1≠X.env.locals∧p.1∉X.fs∧∀v,p.2.data≠.cell v):Inv X pins' σ H s :=
 ⟨I.ok,I.os,I.bare,I.base,I.loc,I.cell,I.free,I.fI,fun p hp=>(zL.mp hp).elim (fun z=>I.pin p (ya _ z)) (h p),I.aM,I.len⟩
theorem wb{N:List Str}(hN:N.Nodup){i j:Nat}{x:Str}(a:N[i]?=some x)(b:N[j]?=some x):i=j:=by
 obtain⟨h1,e1⟩:=ze.mp a
 obtain⟨h2,e2⟩:=ze.mp b
 exact (List.getElem_inj hN).mp (e1.trans e2.symm)
theorem sX{M:Model}{A:Around}{E:Value→Shared→Prop}{i:Nat}{x:Str}{v:V}{u:Value}{Q:Unit→Shared→Prop}(I:Inv X pins σ H s)(hN:X.N.Nodup)(hi:X.N[i]?=some x)(hx:Loc X.env.scope x)(r:RelV v u)
  (h:∀s',Inv X pins (σ.set i (some v)) H s'→(∃a,Heap.SameBut a s.heap s'.heap∧(a=X.env.locals∨X.env.cells.lookup x=some a))→Q () s') (hf:X.fn x=true∨X.env.scope.names.lookup x=some .local:=by first|exact .inl rfl|exact .inr rfl|assumption):wpAny M A (storeName X.env x u) Q E s:=by
 obtain⟨m,hn,hl⟩:=id I.loc
 have UU:(X.env.scope.kind == .class || (X.env.scope.kind == .module && X.env.locals != X.env.globals))=false:=by rw[I.ok.kind];rfl
 have P0:i<σ.length:=by rw[I.len];exact (ze.mp hi).1
 have Mp:=I.Mp
 have tracked:∀{a:Addr}{h':Heap},(∃o,s.heap.get? a=some o∧H a=none)→Heap.SameBut a s.heap h'→kJ X.prog X.w H h':=fun {a h'} ha hs b ob e=>by
  obtain⟨_,_,K8⟩:=ha
  refine (I.aM b ob e).oV (fun c w' hc q=>(hs.2 c ?_).trans q) (fun _ q=>q) fun _ _ q=>q
  rintro rfl
  rcases hc with rfl|hc
  ·rw[K8] at e;cases e
  ·rw[K8] at hc;cases hc
 rcases hx with hk|hk
 ·refine wpAny_storeName_local hk hn (fun h' Ie hs=>?_) UU
  obtain⟨oL,_,_,EZ,_⟩:=id hn
  refine h _ ⟨I.ok,I.os,I.bare,⟨fun b o e n hb hx=>?_,fun b o e n hb hx=>?_,I.base.free,fun b o e hx=>?_,I.base.lN,I.base.kK,I.base.kL⟩,⟨_,Ie,fun j y v' e1 e2 e3=>?_⟩,fun y c e=>?_,I.free,I.fI,fun p hp=>?_,tracked ⟨oL,EZ,I.free⟩ hs,by simpa using I.len⟩ ⟨_,hs,.inl rfl⟩
  ·exact (hs.2 b (zx (zl (zt e) I.ok.above))).trans (I.base.keep b o e n hb hx)
  ·obtain⟨sl,e1⟩:=I.base.slot b o e n hb hx
   exact⟨sl,(hs.2 b (zx (zl (zt e) I.ok.above))).trans e1⟩
  ·obtain⟨o',e1⟩:=I.base.there b o e hx
   exact⟨o',(hs.2 b (zx (zl (zt e) I.ok.above))).trans e1⟩
  ·by_cases hj:j=i
   ·subst hj
    rw[hi] at e1;cases e1
    rw[List.getElem?_set_self P0] at e2
    cases e2
    exact⟨u,r,.inl ⟨hk,by simp⟩⟩
   ·rw[List.getElem?_set_ne (Ne.symm hj)] at e2
    obtain⟨u',r',q⟩:=hl j y v' e1 e2 e3
    refine⟨u',r',?_⟩
    rcases q with ⟨k,e⟩|⟨k,c,e,z⟩
    ·refine .inl ⟨k,?_⟩
     have:y≠x:=fun e=>hj (wb hN e1 (e ▸ hi))
     simp [this,e]
    ·exact .inr ⟨k,c,e,z.sameBut hs (Mp y c e)⟩
  ·obtain⟨w',z⟩:=I.cell y c e
   exact⟨w',z.sameBut hs (Mp y c e)⟩
  ·obtain⟨e,n,ne,nf,d⟩:=I.pin p hp
   exact⟨(hs.2 p.1 ne).trans e,n,ne,nf,d⟩
 ·have UW:X.fn x=true:=by
   rcases hf with z|z
   ·exact z
   ·rw[z] at hk;cases hk
  obtain⟨c,hc⟩:=I.ok.has x (.inl hk)
  obtain⟨w',z⟩:=I.cell x c hc
  refine wpAny_storeName_cell I.ok.kind hk hc z (fun h' Ig hs=>?_)
  obtain⟨oc,TH,UX⟩:=id z
  refine h { s with heap:=h' } ⟨I.ok,I.os,I.bare,⟨fun b o e n hb hx=>?_,fun b o e n hb hx=>?_,I.base.free,fun b o e hx=>?_,I.base.lN,I.base.kK,I.base.kL⟩,⟨m,hn.sameBut hs (Ne.symm (Mp x c hc)),fun j y v' e1 e2 e3=>?_⟩,fun y c' e=>?_,I.free,I.fI,fun p hp=>?_,tracked ⟨oc,TH,I.fI x c hc⟩ hs,by simpa using I.len⟩ ⟨c,hs,.inr hc⟩
  ·exact (hs.2 b (zx (zl (zt e) (I.ok.US x c UW hc)))).trans (I.base.keep b o e n hb hx)
  ·obtain⟨sl,e1⟩:=I.base.slot b o e n hb hx
   exact⟨sl,(hs.2 b (zx (zl (zt e) (I.ok.US x c UW hc)))).trans e1⟩
  ·obtain⟨o',e1⟩:=I.base.there b o e hx
   exact⟨o',(hs.2 b (zx (zl (zt e) (I.ok.US x c UW hc)))).trans e1⟩
  ·by_cases hj:j=i
   ·subst hj
    rw[hi] at e1;cases e1
    rw[List.getElem?_set_self P0] at e2
    cases e2
    exact⟨u,r,.inr ⟨.inl hk,c,hc,Ig⟩⟩
   ·rw[List.getElem?_set_ne (Ne.symm hj)] at e2
    obtain⟨u',r',q⟩:=hl j y v' e1 e2 e3
    refine⟨u',r',?_⟩
    rcases q with q|⟨k,c',e,z'⟩
    ·exact .inl q
    ·refine .inr ⟨k,c',e,z'.sameBut hs ?_⟩
     rintro rfl
     exact hj (wb hN e1 (I.ok.inj _ _ _ e hc ▸ hi))
  ·by_cases Ym:c'=c
   ·subst Ym;exact⟨_,Ig⟩
   ·obtain⟨w2,z2⟩:=I.cell y c' e
    exact⟨w2,z2.sameBut hs Ym⟩
  ·obtain⟨e,n,ne,nf,d⟩:=I.pin p hp
   refine⟨(hs.2 p.1 ?_).trans e,n,ne,nf,d⟩
   intro q
   rw[q,TH] at e
   have q':oc=p.2:=zM e
   exact d w' (by rw[← q'];exact UX)
theorem pX(I:Inv X pins σ H s)(hN:X.N.Nodup)(hi:X.N[i]?=some x)(hx:Loc X.env.scope x)(r:RelV v u)
  (h:∀s',Inv X pins (σ.set i (some v)) H s'→Q () s') (hf:X.fn x=true∨X.env.scope.names.lookup x=some .local:=by first|exact .inl rfl|exact .inr rfl|assumption):wpAny M A (storeName X.env x u) Q E s :=
 sX I hN hi hx r (fun s' I' _=>h s' I') hf
theorem Inv.P1(I:Inv X pins σ H s)(ho:s'.os=s.os)(u:Un (mZ X.stack) ch H H' s.heap s'.heap)(aM:kJ X.prog X.w H' s'.heap)(hg:AllBare s'.gens)
  (Ib:∀b∈ch,(b∈X.ex∨X.cP.heap.objs.size≤b)∧b≠X.env.locals∧(∀x c,X.env.cells.lookup x=some c→c≠b)∧∀p∈X.pn++pins,p.1≠b):Inv X pins σ H' s':=by
 obtain⟨h',g',d',t',o'⟩:=s'
 have e:o'=s.os:=ho
 subst e
 exact I.call (g':=g') (t':=t') (d':=d') u aM hg Ib
end
abbrev XK:=Value→Option Addr→Hp→Prop
abbrev St:=List (Option V)
abbrev VK:=V→Hp→Prop
abbrev TE:=St→Hp→VK→Prop
abbrev TT:=St→Hp→(Bool→Hp→Prop)→Prop
abbrev TA:=St→Hp→(List V→Hp→Prop)→Prop
structure Ends where
 nx:St→Hp→Prop
 rt:VK
 bk:St→Hp→Prop:=fun _ _=>False
 ct:St→Hp→Prop:=fun _ _=>False
abbrev TS:=Ends→St→Hp→Prop
def EP(X:Cx)(pins:List (Addr×Obj))(σ:St)(Q:VK)(u:Value)(s':Shared):Prop:=∃v H',Inv X pins σ H' s'∧RelV v u∧Q v H'
def TP(X:Cx)(pins:List (Addr×Obj))(σ:St)(Q:Bool→Hp→Prop)(b:Bool)(s':Shared):Prop:=∃H',Inv X pins σ H' s'∧Q b H'
def AP(X:Cx)(pins:List (Addr×Obj))(σ:St)(Q:List V→Hp→Prop)(us:List Value)(s':Shared):Prop:=∃vs H',Inv X pins σ H' s'∧Vals vs us∧Q vs H'
def SP(X:Cx)(pins:List (Addr×Obj))(D:Ends)(f:Flow)(s':Shared):Prop :=
 match f with
 |.next=>∃aG H',Inv X pins aG H' s'∧D.nx aG H'
 |.brk=>∃aG H',Inv X pins aG H' s'∧D.bk aG H'
 |.cont=>∃aG H',Inv X pins aG H' s'∧D.ct aG H'
 |.ret u=>∃v aG H',Inv X pins aG H' s'∧RelV v u∧D.rt v H'
def PE(X:Cx)(e:Expr)(t:TE):Prop :=
 ∀(pins:List (Addr×Obj)) (s:Shared) (σ:St) (H:Hp) (Q:VK),Inv X pins σ H s→t σ H Q→wpAny (model X.prog X.w) X.A (eval e X.env) (EP X pins σ Q) X.xe s
def PT(X:Cx)(e:Expr)(t:TT):Prop :=
 ∀(pins:List (Addr×Obj)) (s:Shared) (σ:St) (H:Hp) (Q:Bool→Hp→Prop),Inv X pins σ H s→t σ H Q→wpAny (model X.prog X.w) X.A (isTrue e X.env (eval e X.env)) (TP X pins σ Q) X.xe s
def PW(X:Cx)(e:Expr)(t:TT):Prop :=
 ∀(whole:Sem Value) (pins:List (Addr×Obj)) (s:Shared) (σ:St) (H:Hp) (Q:Bool→Hp→Prop),Inv X pins σ H s→t σ H Q→wpAny (model X.prog X.w) X.A (isTrue e X.env whole) (TP X pins σ Q) X.xe s
theorem PW.pt{t:TT}(h:PW X e t):PT X e t:=h _
def PA(X:Cx)(es:List Expr)(t:TA):Prop :=
 ∀(pos:Pos) (pins:List (Addr×Obj)) (s:Shared) (σ:St) (H:Hp) (Q:List V→Hp→Prop),Inv X pins σ H s→t σ H Q→wpAny (model X.prog X.w) X.A (spliced (backTo pos (starEach es X.env))) (AP X pins σ Q) X.xe s
def PS(X:Cx)(st:Stmt)(t:TS):Prop :=
 ∀(pins:List (Addr×Obj)) (s:Shared) (σ:St) (H:Hp) (D:Ends),Inv X pins σ H s→t D σ H→wpAny (model X.prog X.w) X.A (exec st X.env) (SP X pins D) X.xe s
def BN(X:Cx)(st:List Stmt)(t:TS):Prop :=
 ∀(pins:List (Addr×Obj)) (s:Shared) (σ:St) (H:Hp) (D:Ends),Inv X pins σ H s→t D σ H→wpAny (model X.prog X.w) X.A (execs st X.env) (SP X pins D) X.xe s
theorem bq{t:Sem α}(h:wpAny M A t Q E s)(hQ:∀a s,Q a s→Q' a s):wpAny M A t Q' E s:=yz h hQ fun _ _ x=>x
section
variable{X:Cx}
def UY(i:Nat):TE:=fun σ H Q=>∃v,σ[i]?=some (some v)∧Q v H
def tC(v:V):TE:=fun _ H Q=>Q v H
theorem Mr(hN:X.N[i]?=some x)(hv:O8 X.env.scope x)(hd:(x == ("__debug__" : Str))=false:=by decide)(rO:(x == ("__classdict__" : Str))=false:=by decide):PE X (.Name x pos) (UY i):=by
 intro pins s σ H Q I h
 obtain⟨v,e,h⟩:=h
 obtain⟨m,hn,hl⟩:=I.loc
 obtain⟨u,r,l⟩:=hl i x v hN e hv
 have fin:EP X pins σ Q u s:=⟨v,H,I,r,h⟩
 rcases l with ⟨hk,hm⟩|⟨hk,c,hc,BO⟩
 ·exact wpAny_Name (wpAny_loadName_local I.ok.kind hk hn hm fin) hd
 ·rcases hk with hk|hk
  ·exact wpAny_Name (wpAny_loadName_cell I.ok.kind hk hc BO fin) hd
  ·exact wpAny_Name (wpAny_loadName_free I.ok.kind hk hc BO fin rO) hd
theorem Ms:PE X (.Constant (.int i) j pos) (tC (.int i)):=fun _ _ _ H _ I h=>wpAny_Constant_int ⟨.int i,H,I.tok _,⟨_,rfl⟩,h⟩
theorem K9:PE X (.Constant (.bool b) j pos) (tC (.bl b)):=fun _ _ _ H _ I h=>Constant_bool ⟨.bl b,H,I,rfl,h⟩
theorem Mt:PE X (.Constant .none j pos) (tC .aw):=fun _ _ _ H _ I h=>Constant_none ⟨.aw,H,I,rfl,h⟩
theorem Mu:PE X (.Constant (.str x) j pos) (tC (.str x)):=fun _ _ _ H _ I h=>Calls.Constant_str ⟨.str x,H,I.tok _,⟨_,rfl⟩,h⟩
def Gl(X:Cx)(x:Str):Prop:=X.env.kindOf x=some .globalImplicit
theorem pG(I:Inv X pins σ H s)(hg:Gl X x)(hm:X.mg x=some u)(h:Q u s)
  (hd:(x == ("__debug__" : Str))=false:=by decide):wpAny (model X.prog X.w) X.A (eval (.Name x pos) X.env) Q E s :=
 Calls.Name_function_global I.ok.kind hg (Calls.loadGlobal_global (by rw[I.ok.glob];exact I.mod.glob.keeps I.bk) hm h) hd
theorem fW(I:Inv X pins σ H s)(hg:Gl X x)(hm:X.mg x=none)(hv:bootBuiltins x=some u)(h:Q u s)
  (hn:x ≠ "__name__" := by decide) (hd:(x == ("__debug__" : Str))=false:=by decide):wpAny (model X.prog X.w) X.A (eval (.Name x pos) X.env) Q E s:=by
 obtain⟨mb,h1,h2⟩:=I.mod.blt
 exact Calls.Name_function_global I.ok.kind hg (Calls.loadGlobal_builtin (by rw[I.ok.glob];exact I.mod.glob.keeps I.bk) hm (by rw[I.ok.blt];exact h1.keeps I.bk) ((h2 x hn).trans hv) h) hd
theorem BP(hg:Gl X x)(hm:X.mg x=some u)(r:RelV v u)(hd:(x == ("__debug__" : Str))=false:=by decide):PE X (.Name x pos) (tC v) :=
 fun _ _ _ H _ I h=>pG I hg hm ⟨v,H,I,r,h⟩ hd
theorem Iy(hg:Gl X x)(hm:X.mg x=none)(hv:bootBuiltins x=some u)(r:RelV v u)(hn:x ≠ "__name__" := by decide)(hd:(x == ("__debug__" : Str))=false:=by decide):PE X (.Name x pos) (tC v) :=
 fun _ _ _ H _ I h=>fW I hg hm hv ⟨v,H,I,r,h⟩ hn hd
variable{a b:Expr}{ta tb:TE}{pos:Pos}
def tB(t:TE):TT:=fun σ H Q=>t σ H fun x H1=>∃c,x=.bl c∧Q c H1
theorem Mv{t:TE}(h:PE X e t)(he:∀whole,isTrue e X.env whole=(do let v ← whole;standAt e.pos;holding [v] (truthy v)):=by intro _;rfl):PT X e (tB t):=by
 intro pins s σ H Q I hw
 refine isTrue_plain (bq (h pins s σ H _ I hw) fun v s1 ⟨x,H1,I1,r1,q1⟩=>?_) (he _)
 obtain⟨d,rfl,q⟩:=q1
 cases r1
 exact yk ⟨H1,I1,q⟩
variable{tA TJ:TT}{rest:List Expr}
def UZ(t u:TT):TT:=fun σ H Q=>t σ H fun c H1=>if c=true then u σ H1 Q else Q false H1
def ZI(t u:TT):TT:=fun σ H Q=>t σ H fun c H1=>if c=true then Q true H1 else u σ H1 Q
def U0(t:TT):TT:=fun σ H Q=>t σ H fun c H1=>Q (!c) H1
theorem pw_and1(ha:PT X a tA):PW X (.BoolOp .And [a] pos) tA:=by
 intro wh pins s σ H Q I h
 refine isTrue_and (bq (ha pins s σ H Q I h) fun c s1 e=>?_)
 cases c with
 |true=>exact isTrue_and_nil e
 |false=>exact e
theorem pw_or1(ha:PT X a tA):PW X (.BoolOp .Or [a] pos) tA:=by
 intro wh pins s σ H Q I h
 refine isTrue_or (bq (ha pins s σ H Q I h) fun c s1 e=>?_)
 cases c with
 |false=>exact isTrue_or_nil e
 |true=>exact e
theorem pw_and(ha:PT X a tA)(hb:PW X (.BoolOp .And (b::rest) pos) TJ):PW X (.BoolOp .And (a::b::rest) pos) (UZ tA TJ):=by
 intro wh pins s σ H Q I h
 refine isTrue_and (bq (ha pins s σ H _ I h) fun c s1 ⟨H1,I1,q1⟩=>?_)
 cases c with
 |true=>exact hb wh pins s1 σ H1 Q I1 q1
 |false=>exact⟨H1,I1,q1⟩
theorem pw_or(ha:PT X a tA)(hb:PW X (.BoolOp .Or (b::rest) pos) TJ):PW X (.BoolOp .Or (a::b::rest) pos) (ZI tA TJ):=by
 intro wh pins s σ H Q I h
 refine isTrue_or (bq (ha pins s σ H _ I h) fun c s1 ⟨H1,I1,q1⟩=>?_)
 cases c with
 |true=>exact⟨H1,I1,q1⟩
 |false=>exact hb wh pins s1 σ H1 Q I1 q1
theorem Mw(ha:PT X a tA):PT X (.UnaryOp .Not a pos) (U0 tA):=by
 intro pins s σ H Q I h
 exact isTrue_not (ha pins s σ H (fun c H1=>Q (!c) H1) I h)
def P2(ta tb:TE):TE:=fun σ H Q=>ta σ H fun x H1=>∃c,x=.bl c∧if c=true then tb σ H1 Q else Q (.bl false) H1
def U1(ta tb:TE):TE:=fun σ H Q=>ta σ H fun x H1=>∃c,x=.bl c∧if c=true then Q (.bl true) H1 else tb σ H1 Q
def P4(ta:TE):TE:=fun σ H Q=>ta σ H fun x H1=>∃c,x=.bl c∧Q (.bl (!c)) H1
theorem Mx{t:TE}(h:PE X a t):PE X (.BoolOp op [a] pos) t:=fun pins s σ H Q I hw=>BoolOp_one (h pins s σ H Q I hw)
theorem Mz(ha:PE X a ta)(hb:PE X (.BoolOp .And (b::rest) pos) tb):PE X (.BoolOp .And (a::b::rest) pos) (P2 ta tb):=by
 intro pins s σ H Q I h
 refine BoolOp_and (bq (ha pins s σ H _ I h) fun v s1 ⟨x,H1,I1,r1,q1⟩=>?_)
 obtain⟨c,rfl,q1⟩:=q1
 cases r1
 refine yk ?_
 cases c with
 |true=>exact hb pins s1 σ H1 Q I1 q1
 |false=>exact⟨.bl false,H1,I1,rfl,q1⟩
theorem P5(ha:PE X a ta)(hb:PE X (.BoolOp .Or (b::rest) pos) tb):PE X (.BoolOp .Or (a::b::rest) pos) (U1 ta tb):=by
 intro pins s σ H Q I h
 refine BoolOp_or (bq (ha pins s σ H _ I h) fun v s1 ⟨x,H1,I1,r1,q1⟩=>?_)
 obtain⟨c,rfl,q1⟩:=q1
 cases r1
 refine yk ?_
 cases c with
 |false=>exact hb pins s1 σ H1 Q I1 q1
 |true=>exact⟨.bl true,H1,I1,rfl,q1⟩
theorem MA(ha:PE X a ta):PE X (.UnaryOp .Not a pos) (P4 ta):=by
 intro pins s σ H Q I h
 refine UnaryOp_ (bq (ha pins s σ H _ I h) fun v s1 ⟨x,H1,I1,r1,q1⟩=>?_)
 obtain⟨c,rfl,q1⟩:=q1
 cases r1
 exact not_of (yk ⟨.bl (!c),H1,I1,rfl,q1⟩)
def ZJ(t:TT)(ta tb:TE):TE:=fun σ H Q=>t σ H fun c H1=>if c=true then ta σ H1 Q else tb σ H1 Q
theorem Fh(hc:PT X c tA)(ha:PE X a ta)(hb:PE X b tb):PE X (.IfExp c a b pos) (ZJ tA ta tb):=by
 intro pins s σ H Q I h
 refine wpAny_IfExp (bq (hc pins s σ H _ I h) fun d s1 ⟨H1,I1,q1⟩=>?_)
 cases d with
 |true=>exact ha pins s1 σ H1 Q I1 q1
 |false=>exact hb pins s1 σ H1 Q I1 q1
end
def jE(K:Frag)(H:Hp)(a:Addr)(xs:List V):Prop :=
 Rd H a (.lst xs) ∨
  ∃(o:Obj) (aA:Array Value) (n:Nat),K.lookup a=some o∧o.cls=.type "list" ∧ o.dict=none∧o.data=.seq aA n∧aA.size≤sizeLine∧Vals xs aA.toList
def iH(K:Frag)(H:Hp)(a:Addr)(xs:List V):Prop :=
 Rd H a (.tup xs) ∨
  ∃(o:Obj) (aA:Array Value) (n:Nat),K.lookup a=some o∧o.cls=.type "tuple" ∧ o.data=.seq aA n∧aA.size≤sizeLine∧Vals xs aA.toList
def U4:Value→Option V
 |.none=>some .aw
 |.bool b=>some (.bl b)
 |.int i _=>some (.int i)
 |.str x _=>some (.str x)
 |.bytes b _=>some (.BM b)
 |.float b _=>some (.Mj b)
 |.ref a=>some (.ref a)
 |.type n=>some (.ty n)
 |_=>none
theorem RelV.abs(r:RelV x u):U4 u=some x:=by
 cases x with
 |aw=>cases r;rfl
 |bl _=>cases r;rfl
 |int _=>obtain⟨t,rfl⟩:=r;rfl
 |str _=>obtain⟨t,rfl⟩:=r;rfl
 |BM _=>obtain⟨t,rfl⟩:=r;rfl
 |Mj _=>obtain⟨t,rfl⟩:=r;rfl
 |ref _=>cases r;rfl
 |ty _=>cases r;rfl
theorem RelV.inj(r:RelV x u)(q:RelV y u):x=y:=zM (r.abs.symm.trans q.abs)
theorem Vals.inj:∀{xs ys:List V}{us:List Value},Vals xs us→Vals ys us→xs=ys
 |_,_,_,.nil,.nil=>rfl
 |_,_,_,.cons r t,.cons r' t'=>by rw[r.inj r',Vals.inj t t']
section
variable{X:Cx}{pins:List (Addr×Obj)}{σ:St}{H:Hp}{s:Shared}{a:Addr}{xs ys:List V}
theorem jE.of{K:Frag}(h:H a=some (.lst xs)):jE K H a xs:=.inl (.inl h)
theorem iH.of{K:Frag}(h:H a=some (.tup xs)):iH K H a xs:=.inl (.inl h)
theorem Inv.list(I:Inv X pins σ H s)(h:jE X.K H a xs):∃aA:List Value,Vals xs aA∧PlainL s.heap a aA.toArray∧xs.length≤sizeLine:=by
 rcases h with h|⟨o,aA,n,hk,hc,hd,hs,hz,r⟩
 ·obtain⟨z,aA,n,r,e⟩:=h.ok I.aM
  exact⟨aA,r,⟨_,n,e,rfl,rfl,rfl⟩,z⟩
 ·refine⟨aA.toList,r,⟨o,n,I.oh a o hk,hc,hd,by simpa using hs⟩,?_⟩
  have e:=r.length
  simp only [yj] at e
  lia
theorem Inv.tuple(I:Inv X pins σ H s)(h:iH X.K H a xs):∃aA:List Value,Vals xs aA∧IsTup s.heap a aA.toArray∧xs.length≤sizeLine:=by
 rcases h with h|⟨o,aA,n,hk,hc,hs,hz,r⟩
 ·obtain⟨z,aA,r,p⟩:=h.ok I.aM
  exact⟨aA,r,p.tup,z⟩
 ·refine⟨aA.toList,r,⟨o,I.oh a o hk,hc,n,by simpa using hs⟩,?_⟩
  have e:=r.length
  simp only [yj] at e
  lia
theorem Inv.wc(I:Inv X pins σ H s)(h:jE X.K H a xs)(h':jE X.K H a ys):xs=ys:=by
 obtain⟨aA,r,⟨o,n,e,_,_,d⟩,_⟩:=I.list h
 obtain⟨its',r',⟨o',n',e',_,_,d'⟩,_⟩:=I.list h'
 rw[e] at e';cases e'
 rw[d] at d'
 injection d' with d1 _
 have:aA=its':=by simpa using congrArg Array.toList d1
 subst this
 exact r.inj r'
theorem Inv.m7(I:Inv X pins σ H s)(h:iH X.K H a xs)(h':iH X.K H a ys):xs=ys:=by
 obtain⟨aA,r,⟨o,e,_,n,d⟩,_⟩:=I.tuple h
 obtain⟨its',r',⟨o',e',_,n',d'⟩,_⟩:=I.tuple h'
 rw[e] at e';cases e'
 rw[d] at d'
 injection d' with d1 _
 have:aA=its':=by simpa using congrArg Array.toList d1
 subst this
 exact r.inj r'
end
abbrev Cx.ZK(X:Cx)(E:Value→Shared→Prop):Cx:={ X with xe:=E }
section
variable{X:Cx}{st:Stmt}{rest:List Stmt}{t u:TS}{e:Expr}{te:TE}{pos:Pos}
def P6:TS:=fun D σ H=>D.nx σ H
def U5(t u:TS):TS:=fun D σ H=>t { D with nx:=u D } σ H
theorem Iz:BN X [] P6:=fun _ _ σ H _ I h=>wpAny_execs_nil ⟨σ,H,I,h⟩
theorem Fi(h1:PS X st t)(h2:BN X rest u):BN X (st::rest) (U5 t u):=by
 intro pins s σ H D I h
 refine wpAny_execs_cons (bq (h1 pins s σ H { D with nx:=u D } I h) fun f s1 q=>?_)
 cases f with
 |next =>
  obtain⟨aG,H',I',q⟩:=q
  exact h2 pins s1 aG H' D I' q
 |ret v=>exact q
 |brk=>exact q
 |cont=>exact q
theorem IA(h1:PS X st t):BN X [st] t:=by
 intro pins s σ H D I h
 refine wpAny_execs_cons (bq (h1 pins s σ H D I h) fun f s1 q=>?_)
 cases f with
 |next=>exact wpAny_execs_nil q
 |ret v=>exact q
 |brk=>exact q
 |cont=>exact q
theorem Inv.quiet(I:Inv X pins σ H s):interactive X.env=false:=by simp [interactive,I.ok.kind]
def P7(te:TE):TS:=fun D σ H=>te σ H fun _ H1=>D.nx σ H1
theorem IB(he:PE X e te)(hs:swapsWith e none pos.line X.env=pure false:=by rfl):PS X (.Expr e pos) (P7 te):=by
 intro pins s σ H D I h
 exact wpAny_Expr_any (bq (he pins s σ H _ I h) <| by rintro v s1 ⟨x,H1,I1,r1,q1⟩;exact⟨σ,H1,I1,q1⟩) I.quiet hs
def U6(te:TE):TS:=fun D σ H=>te σ H D.rt
theorem MB(he:PE X e te):PS X (.Return (some e) pos) (U6 te):=by
 intro pins s σ H D I h
 exact wpAny_Return_some (bq (he pins s σ H _ I h) <| by rintro v s1 ⟨x,H1,I1,r1,q1⟩;exact⟨x,σ,H1,I1,r1,q1⟩)
def U7(c:TT)(t u:TS):TS:=fun D σ H=>c σ H fun b H1=>if b=true then t D σ H1 else u D σ H1
theorem P8(hc:PT X c tc)(ha:BN X a t)(hb:BN X b u):PS X (.If c a b pos) (U7 tc t u):=by
 intro pins s σ H D I h
 refine wpAny_If (bq (hc pins s σ H _ I h) fun d s1 ⟨H1,I1,q1⟩=>?_)
 cases d with
 |true=>exact ha pins s1 σ H1 D I1 q1
 |false=>exact hb pins s1 σ H1 D I1 q1
end
abbrev TG:=V→St→Hp→(St→Hp→Prop)→Prop
abbrev K_:=List V→St→Hp→(St→Hp→Prop)→Prop
def PG(X:Cx)(target:Expr)(t:TG):Prop :=
 ∀(pins:List (Addr×Obj)) (s:Shared) (σ:St) (H:Hp) (v:V) (u:Value) (Q:St→Hp→Prop),Inv X pins σ H s→RelV v u→t v σ H Q →
  wpAny (model X.prog X.w) X.A (assign target X.env u) (fun _ s'=>∃aG H',Inv X pins aG H' s'∧Q aG H') X.xe s
def La(X:Cx)(ts:List Expr)(t:K_):Prop :=
 ∀(pins:List (Addr×Obj)) (s:Shared) (σ:St) (H:Hp) (vs:List V) (us:List Value) (Q:St→Hp→Prop),Inv X pins σ H s→Vals vs us→t vs σ H Q →
  wpAny (model X.prog X.w) X.A (assignInOrder ((assignEach ts X.env).map (·.2)) us) (fun _ s'=>∃aG H',Inv X pins aG H' s'∧Q aG H') X.xe s
abbrev MC:=V→V→V→Hp→(Hp→Prop)→Prop
def P9(X:Cx)(t:MC):Prop :=
 ∀(pins:List (Addr×Obj)) (s:Shared) (σ:St) (H:Hp) (o i v:V) (ov iv u:Value) (Q:Hp→Prop),Inv X pins σ H s→RelV o ov→RelV i iv→RelV v u→t o i v H Q →
  wpAny (model X.prog X.w) X.A (setItem ov iv u) (fun _ s'=>∃H',Inv X pins σ H' s'∧Q H') X.xe s
abbrev U8:=V→V→Hp→VK→Prop
def Yn(X:Cx)(op:Operator)(t:U8):Prop :=
 ∀(pins:List (Addr×Obj)) (s:Shared) (σ:St) (H:Hp) (x y:V) (v u:Value) (Q:VK),Inv X pins σ H s→RelV x v→RelV y u→t x y H Q →
  wpAny (model X.prog X.w) X.A (inplaceOp op v u) (EP X pins σ Q) X.xe s
section
variable{X:Cx}{pos:Pos}
def ik(i:Nat):TG:=fun v σ H Q=>Q (σ.set i (some v)) H
theorem pH(hN:X.N.Nodup)(hi:X.N[i]?=some x)(hx:Loc X.env.scope x)(hf:X.fn x=true∨X.env.scope.names.lookup x=some .local:=by first|exact .inl rfl|exact .inr rfl|assumption):PG X (.Name x pos) (ik i):=by
 intro pins s σ H v u Q I r h
 exact wpAny_assign_Name (pX I hN hi hx r (fun s' I'=>⟨_,H,I',h⟩) hf)
def IC:K_:=fun vs σ H Q=>vs=[]∧Q σ H
def pY(t:TG)(u:K_):K_:=fun vs σ H Q=>∃v r,vs=v::r∧t v σ H fun aG H'=>u r aG H' Q
theorem BQ:La X [] IC:=by
 intro pins s σ H vs us Q I r h
 obtain⟨e,h⟩:=h
 subst e
 cases r
 exact assignInOrder_nil ⟨σ,H,I,h⟩
theorem pZ{t:TG}(h1:PG X e t)(h2:La X es u)
  (hs:(assignEach (e::es) X.env).map (·.2)=assign e X.env::(assignEach es X.env).map (·.2):=by rfl):La X (e::es) (pY t u):=by
 intro pins s σ H vs us Q I r h
 obtain⟨v,vr,e1,h⟩:=h
 subst e1
 cases r with
 |cons r rr =>
  rw[hs]
  refine assignInOrder_cons (bq (h1 pins s σ H _ _ _ I r h) fun _ s1 ⟨vX,H1,I1,q1⟩=>?_)
  exact h2 pins s1 vX H1 _ _ Q I1 rr q1
def ID(K:Frag)(n:Nat)(t:K_):TG:=fun v σ H Q=>∃a xs,v=.ref a∧iH K H a xs∧xs.length=n∧t xs σ H Q
theorem Fj{t:K_}(hc:X.calm=true)(h:La X es t)
  (hn:(assignEach es X.env).length=n:=by rfl) (we:(assignEach es X.env).findIdx? (·.1)=none:=by rfl):PG X (.Tuple es k pos) (ID X.K n t):=by
 intro pins s σ H v u Q I r hw
 obtain⟨a,xs,e1,hq,hl,hw⟩:=hw
 subst e1
 cases r
 obtain⟨aA,rv,ht,hz⟩:=I.tuple hq
 refine assign_Tuple_tuple (I.ok.hd hc) ht (by simp [hn,← hl,rv.length]) we fun h' hx=>?_
 have I1:Inv X pins σ H { s with heap:=h' }:=I.kept (t':=s.toks) fun b o e=>hx b o (zx (zt e)) e
 exact h pins _ σ H xs _ Q I1 (by simpa using rv) hw
def U9(to ti:TE)(t:MC):TG:=fun v σ H Q=>to σ H fun o H1=>ti σ H1 fun i H2=>t o i v H2 fun H3=>Q σ H3
theorem MD{t:MC}(ho:PE X o to)(hi:PE X i ti)(hs:P9 X t)
  (ha:∀v,assign (.Subscript o i pos) X.env v=(do
   let ov ← holding [v] (eval o X.env)
   let iv ← holding [v,ov] (eval i X.env)
   standAt pos
   holding [v,ov,iv] (setItem ov iv v)
   release [v,ov,iv] []):=by intro _;rfl):PG X (.Subscript o i pos) (U9 to ti t):=by
 intro pins s σ H v u Q I r h
 rw[ha]
 refine zc (yD (bq (ho pins s σ H _ I h) fun ov s1 ⟨x,H1,I1,r1,q1⟩=>?_))
 refine zc (yD (bq (hi pins s1 σ H1 _ I1 q1) fun iv s2 ⟨y,H2,I2,r2,q2⟩=>?_))
 refine zc (wpAny_standAt (zc (yD (bq (hs pins s2 σ H2 x y v ov iv u _ I2 r1 r2 r q2) fun _ s3 ⟨H3,I3,q3⟩=>?_))))
 exact wpAny_release ⟨σ,H3,I3,q3⟩
def ME(te:TE)(g:TG):TS:=fun D σ H=>te σ H fun x H1=>g x σ H1 D.nx
theorem Fl(he:PE X e te)(hg:PG X tg g)(hs:swapsWithSole [tg] e pos.line X.env=pure false:=by rfl)(hw:swappedStores [tg] e X.env=pure none:=by rfl)
  (h1:(assignEach [tg] X.env).map (·.2)=[assign tg X.env]:=by rfl):PS X (.Assign [tg] e pos) (ME te g):=by
 intro pins s σ H D I h
 refine wpAny_Assign_stores (bq (he pins s σ H _ I h) fun v s1 ⟨x,H1,I1,r1,q1⟩=>?_) hs hw
 rw[h1]
 exact bq (hg pins s1 σ H1 x v _ I1 r1 q1) fun _ s2 q=>q
theorem MF(hN:X.N.Nodup)(hi:X.N[i]?=some x)(hx:Loc X.env.scope x)(he:PE X e te)(hs:swapsWith e (some (.Name x pos')) pos.line X.env=pure false:=by rfl)(hf:X.fn x=true∨X.env.scope.names.lookup x=some .local:=by first|exact .inl rfl|exact .inr rfl|assumption) :
  PS X (.Assign [.Name x pos'] e pos) (ME te (ik i)):=by
 intro pins s σ H D I h
 refine wpAny_Assign_Name (bq (he pins s σ H _ I h) fun v s1 ⟨y,H1,I1,r1,q1⟩=>?_) hs
 exact pX I1 hN hi hx r1 (fun s2 I2=>⟨_,H1,I2,q1⟩) hf
def U_(i:Nat)(te:TE)(ti:U8):TS:=fun D σ H=>∃x,σ[i]?=some (some x)∧te σ H fun y H1=>ti x y H1 fun z H2=>D.nx (σ.set i (some z)) H2
theorem MG(hN:X.N.Nodup)(hi:X.N[i]?=some x)(hx:Loc X.env.scope x)(he:PE X e te)(ho:Yn X op ti)(hf:X.fn x=true∨X.env.scope.names.lookup x=some .local:=by first|exact .inl rfl|exact .inr rfl|assumption) :
  PS X (.AugAssign (.Name x pos') op e pos) (U_ i te ti):=by
 intro pins s σ H D I h
 obtain⟨v,e1,h⟩:=h
 obtain⟨m,hn,hl⟩:=I.loc
 have ZL:O8 X.env.scope x:=by rcases hx with k|k;exact .inl k;exact .inr (.inl k)
 obtain⟨u,r,l⟩:=hl i x v hi e1 ZL
 refine wpAny_AugAssign_Name ?_
 have go:wpAny (model X.prog X.w) X.A (eval e X.env) (fun w bP=>wpAny (model X.prog X.w) X.A (inplaceOp op u w) (fun r yR=>wpAny (model X.prog X.w) X.A (storeName X.env x r) (fun _=>SP X pins D .next) X.xe yR) X.xe bP) X.xe s:=by
  refine bq (he pins s σ H _ I h) fun w s1 ⟨y,H1,I1,r1,q1⟩=>?_
  refine bq (ho pins s1 σ H1 v y u w _ I1 r r1 q1) fun z s2 ⟨zv,H2,I2,r2,q2⟩=>?_
  exact pX I2 hN hi hx r2 (fun s3 I3=>⟨_,H2,I3,q2⟩) hf
 rcases l with ⟨hk,hm⟩|⟨hk,c,hc,BO⟩
 ·exact wpAny_loadName_local I.ok.kind hk hn hm go
 ·rcases hk with hk|hk
  ·exact wpAny_loadName_cell I.ok.kind hk hc BO go
  ·rcases hx with k|k
   ·have:X.env.scope.names.lookup x=some .free:=hk
    rw[k] at this;cases this
   ·have:X.env.scope.names.lookup x=some .free:=hk
    rw[k] at this;cases this
def ZM(f:Int→Int→Int):U8:=fun x y H Q=>∃i j,x=.int i∧y=.int j∧Q (.int (f i j)) H
theorem MH:Yn X .Add (ZM fun i j=>i+j):=by
 intro pins s σ H x y v u Q I r1 r2 h
 obtain⟨i,j,e1,e2,q⟩:=h
 subst e1;subst e2
 obtain⟨t,rfl⟩:=r1
 obtain⟨t',rfl⟩:=r2
 exact iadd_int ⟨.int _,H,I.tok _,⟨_,rfl⟩,q⟩
def MI(c:TT)(tb:TS):TS:=fun D σ H=>∃W:Nat→St→Hp→Prop,(∃m,W m σ H)∧∀m σ H,W m σ H →
 c σ H fun b H1=>if b=true then ∃N:St→Hp→Prop,(∀aG H',N aG H'→∃m',m'<m∧W m' aG H')∧tb { D with nx:=N,ct:=N,bk:=D.nx } σ H1 else D.nx σ H1
theorem Fm(hp:PassesOwn (model X.prog X.w) X.A X.env X.xe)(hc:PT X c tc)(hb:BN X body tb):PS X (.While c body [] pos) (MI tc tb):=by
 intro pins s σ H D I h
 obtain⟨W,⟨m0,w0⟩,turn⟩:=h
 refine wpAny_While (codeAny_whileLoop (fun n s'=>∃aG H',Inv X pins aG H' s'∧W n aG H') ?_ m0 ⟨σ,H,I,w0⟩)
 rintro n s1 ⟨vX,H1,I1,w1⟩
 refine wpAny_passesOwn hp (bq (hc pins s1 vX H1 _ I1 (turn n vX H1 w1)) fun b s2 ⟨H2,I2,q2⟩=>?_)
 cases b with
 |true =>
  obtain⟨N,hN,q2⟩:=q2
  rw[if_pos rfl]
  refine wpAny_passesOwn hp (bq (hb pins s2 vX H2 _ I2 q2) fun f s3 q3=>?_)
  cases f with
  |next =>
   obtain⟨iI,H3,I3,n3⟩:=q3
   obtain⟨m',hm,w3⟩:=hN iI H3 n3
   exact⟨m',hm,iI,H3,I3,w3⟩
  |cont =>
   obtain⟨iI,H3,I3,n3⟩:=q3
   obtain⟨m',hm,w3⟩:=hN iI H3 n3
   exact⟨m',hm,iI,H3,I3,w3⟩
  |brk=>exact q3
  |ret v=>exact q3
 |false =>
  rw[if_neg zd]
  exact wpAny_execs_nil ⟨vX,H2,I2,q2⟩
end
structure It where
 go:Nat→Hp→Prop
 P_:Nat→Hp→V→Hp→Prop
 stop:Nat→Hp→Prop
def rW(X:Cx)(pins:List (Addr×Obj))(H:Hp)(b:Addr):Prop :=
 H b=none∧b≠X.env.locals∧b∉X.fs∧(b∈X.ex∨X.cP.heap.objs.size≤b)∧(∀x c,X.env.cells.lookup x=some c→c≠b)∧∀p∈X.pn++pins,p.1≠b
theorem Inv.oX(I:Inv X pins σ H s)(hb:s.heap.objs.size≤b)(hn:H' b=none):rW X pins H' b:=by
 refine⟨hn,yg (zl I.lt hb),I.PY hb,.inr (zI I.sz hb),fun x c e z=>?_,fun p hp z=>?_⟩
 ·obtain⟨v,q⟩:=I.cell x c e
  exact absurd (zl q.lt (by rw[z];exact hb)) (yr _)
 ·exact absurd (zl (zt (I.pin p hp).1) (by rw[z];exact hb)) (yr _)
structure Turn(P:Program)(w:World)(K:Frag)(tg:Expr)(J:It)(fp:List Addr)(it:Addr)(tn:Nat→Heap→Prop):Prop where
 mem:it∈fp
 obj:∀i h,tn i h→∀b∈fp,∃o,h.get? b=some o∧∀v,o.data≠.cell v
 keep:∀i h h',tn i h→(∀b∈fp,∀o,h.get? b=some o→h'.get? b=some o)→tn i h'
 item:∀(X:Cx),X.prog=P→X.w=w→X.K=K→X.calm=true→∀(i:Nat) (pins:List (Addr×Obj)) (s:Shared) (σ:St) (H:Hp) (E:Value→Shared→Prop),Inv X pins σ H s→(∀b∈fp,rW X pins H b)→tn i s.heap→J.go i H →
  wpAny (model P w) X.A (pyNext (.ref it)) (fun r s1=>∃u,r=some u ∧
   wpAny (model P w) X.A (letOwnedTupleGo tg (.ref it) u) (fun _ s2=>∃x H',Inv X pins σ H' s2∧RelV x u∧J.P_ i H x H'∧tn (i+1) s2.heap∧∀b∈fp,H' b=none) E s1) E s
 done:∀(X:Cx),X.prog=P→X.w=w→X.K=K→X.calm=true→∀(i:Nat) (pins:List (Addr×Obj)) (s:Shared) (σ:St) (H:Hp) (E:Value→Shared→Prop),Inv X pins σ H s→(∀b∈fp,rW X pins H b)→tn i s.heap→J.stop i H →
  wpAny (model P w) X.A (pyNext (.ref it)) (fun r s1=>r=none∧Inv X pins σ H s1) E s
 self:∀(A:Around) (i:Nat) (s:Shared) (Q:Value→Shared→Prop) (E:Value→Shared→Prop),tn i s.heap→Q (.ref it) s→wpAny (model P w) A (pyIter (.ref it)) Q E s
abbrev TI:=St→Hp→(It→Hp→Prop)→Prop
def Va(X:Cx)(pins:List (Addr×Obj))(σ:St)(tg:Expr)(R:It→Hp→Prop)(TK:Value)(s2:Shared):Prop :=
 ∃(it:Addr) (fp:List Addr) (tn:Nat→Heap→Prop) (J:It) (H':Hp),TK=.ref it∧Inv X pins σ H' s2∧Turn X.prog X.w X.K tg J fp it tn∧tn 0 s2.heap∧(∀b∈fp,rW X pins H' b)∧R J H'
def PI(X:Cx)(tg iter:Expr)(wi:TI):Prop :=
 ∀(pins:List (Addr×Obj)) (s:Shared) (σ:St) (H:Hp) (R:It→Hp→Prop),Inv X pins σ H s→wi σ H R →
  wpAny (model X.prog X.w) X.A (eval iter X.env) (fun v s1=>wpAny (model X.prog X.w) X.A (pyIter v) (Va X pins σ tg R) X.xe s1) X.xe s
theorem sY(ho:s.heap.get? it=some o)(hc:o.cls=.type n)(hd:o.data=.fields vs)
  (hn:["enumerate","zip","dict_itemiterator","dict_reverseitemiterator","odict_iterator","itertools.zip_longest","itertools.pairwise"].contains n=false) (hQ:Q () s):wpAny M A (letOwnedTupleGo tg (.ref it) u) Q E s:=by
 unfold letOwnedTupleGo
 cases tg <;> first
  |exact zu hQ
  | (cases u <;> first
    |exact zu hQ
    | (refine zc (wpAny_load ho ?_)
       rw[hc,hd]
       show wpAny M A (if (["enumerate","zip","dict_itemiterator","dict_reverseitemiterator","odict_iterator","itertools.zip_longest","itertools.pairwise"].contains n && vs[0]? == some (rawInt _))=true then _ else _) Q E s
       rw[if_neg (by intro h;rw[hn,zP] at h;cases h)]
       exact zu hQ))
def Yo(K:Frag)(a:Addr):It :=
 ⟨fun i H=>∃xs x,jE K H a xs∧xs[i]?=some x,fun i H x H'=>H'=H∧∀xs,jE K H a xs→xs[i]?=some x,fun i H=>∃xs,jE K H a xs∧xs.length≤i⟩
def Yp(K:Frag)(a:Addr):It :=
 ⟨fun i H=>∃xs x,iH K H a xs∧xs[i]?=some x,fun i H x H'=>H'=H∧∀xs,iH K H a xs→xs[i]?=some x,fun i H=>∃xs,iH K H a xs∧xs.length≤i⟩
def TL(lo:Int)(n:Nat):It:=⟨fun i _=>i<n,fun i H x H'=>H'=H∧x=.int (lo+i),fun i _=>n≤i⟩
theorem Di{P:Program}{w:World}{K:Frag}{tg:Expr}(a it:Addr):Turn P w K tg (Yo K a) [it] it (fun i h=>h.IsListIter it a i) where
 mem:=by simp
 obj:=fun i h st b hb=>by
  have e:b=it:=by simpa using hb
  subst e
  obtain⟨o,e,c,d⟩:=st
  exact⟨o,e,fun v z=>by rw[d] at z;cases z⟩
 keep:=fun i h h' st k=>st.at fun o e=>k it (by simp) o e
 item:=by
  intro X hP hw hK hc i pins s σ H E I hf st hg
  subst hP hw hK
  obtain⟨xs,x,hq,hx⟩:=hg
  obtain⟨aA,rv,p,hz⟩:=I.list hq
  obtain⟨u,hu,ru⟩:=rv.get hx
  obtain⟨f0,f1,f2,f3,f4,f5⟩:=hf it (by simp)
  refine wpAny_pyNext_list_item st p.isList (x:=u) (by simpa using hu) fun h' eC sb=>?_
  have I1:Inv X pins σ H { s with heap:=h' }:=I.turned (t':=s.toks) (fun b o hb e=>(sb.2 b hb).trans e) f0 f1 f3 f4 f5
  obtain⟨o,e,c,d⟩:=id eC
  exact⟨u,rfl,sY (s:={ s with heap:=h' }) e c d (by decide) ⟨x,H,I1,ru,⟨rfl,fun ys hy=>by rw[I.wc hy hq];exact hx⟩,eC,fun b hb=>(hf b hb).1⟩⟩
 done:=by
  intro X hP hw hK hc i pins s σ H E I hf st hg
  subst hP hw hK
  obtain⟨xs,hq,hx⟩:=hg
  obtain⟨aA,rv,p,hz⟩:=I.list hq
  obtain⟨f0,f1,f2,f3,f4,f5⟩:=hf it (by simp)
  have hl:=rv.length
  exact wpAny_pyNext_list_end (I.ok.hd hc) st p.isList (by simp;lia) fun h' eb=>⟨rfl,I.turned (t':=s.toks) (fun b o hb e=>eb b o hb e) f0 f1 f3 f4 f5⟩
 self:=fun _ _ _ _ _ st h=>wpAny_pyIter_listiter st h
theorem yS{P:Program}{w:World}{K:Frag}{tg:Expr}(a it:Addr):Turn P w K tg (Yp K a) [it] it (fun i h=>h.IsTupleIter it a i) where
 mem:=by simp
 obj:=fun i h st b hb=>by
  have e:b=it:=by simpa using hb
  subst e
  obtain⟨o,e,c,d⟩:=st
  exact⟨o,e,fun v z=>by rw[d] at z;cases z⟩
 keep:=fun i h h' st k=>st.at fun o e=>k it (by simp) o e
 item:=by
  intro X hP hw hK hc i pins s σ H E I hf st hg
  subst hP hw hK
  obtain⟨xs,x,hq,hx⟩:=hg
  obtain⟨aA,rv,p,hz⟩:=I.tuple hq
  obtain⟨u,hu,ru⟩:=rv.get hx
  obtain⟨f0,f1,f2,f3,f4,f5⟩:=hf it (by simp)
  refine wpAny_pyNext_tuple_item st (show s.heap.IsTuple a aA.toArray from p) (x:=u) (by simpa using hu) fun h' eC sb=>?_
  have I1:Inv X pins σ H { s with heap:=h' }:=I.turned (t':=s.toks) (fun b o hb e=>(sb.2 b hb).trans e) f0 f1 f3 f4 f5
  obtain⟨o,e,c,d⟩:=id eC
  exact⟨u,rfl,sY (s:={ s with heap:=h' }) e c d (by decide) ⟨x,H,I1,ru,⟨rfl,fun ys hy=>by rw[I.m7 hy hq];exact hx⟩,eC,fun b hb=>(hf b hb).1⟩⟩
 done:=by
  intro X hP hw hK hc i pins s σ H E I hf st hg
  subst hP hw hK
  obtain⟨xs,hq,hx⟩:=hg
  obtain⟨aA,rv,p,hz⟩:=I.tuple hq
  obtain⟨f0,f1,f2,f3,f4,f5⟩:=hf it (by simp)
  have hl:=rv.length
  exact wpAny_pyNext_tuple_end (I.ok.hd hc) st (show s.heap.IsTuple a aA.toArray from p) (by simp;lia) fun h' eb=>⟨rfl,I.turned (t':=s.toks) (fun b o hb e=>eb b o hb e) f0 f1 f3 f4 f5⟩
 self:=fun _ _ _ _ _ st h=>wpAny_pyIter_tupleiter st h
theorem yT{P:Program}{w:World}{K:Frag}{tg:Expr}(it:Addr)(lo:Int)(n:Nat):Turn P w K tg (TL lo n) [it] it (fun i h=>IsRangeIter h it (lo+(i:Nat) * 1) ((n:Int) - (i:Nat)) 1) where
 mem:=by simp
 obj:=fun i h st b hb=>by
  have e:b=it:=by simpa using hb
  subst e
  exact⟨_,st,fun v z=>by
   have z':Data.fields _=Data.cell v:=z
   cases z'⟩
 keep:=fun i h h' st k=>k it (by simp) _ st
 item:=by
  intro X hP hw hK hc i pins s σ H E I hf st hg
  subst hP hw hK
  obtain⟨f0,f1,f2,f3,f4,f5⟩:=hf it (by simp)
  have W:=Walks.range (prog:=X.prog) (w:=X.w) (I.ok.hd hc) it lo 1 n
  refine W.item i s _ _ hg st fun v h' tk hv eC kk=>?_
  obtain⟨t,rfl⟩:=hv
  have I1:Inv X pins σ H { s with heap:=h',toks:=tk }:=I.turned (fun b o hb e=>kk b o (by simpa using hb) e) f0 f1 f3 f4 f5
  refine !⟨sY (s:={ s with heap:=h',toks:=tk }) (n := "range_iterator") eC rfl rfl (by decide) ⟨.int (lo+i),H,I1,⟨t,?_⟩,⟨rfl,rfl⟩,eC,fun b hb=>(hf b hb).1⟩⟩
  rw[Int.mul_one]
 done:=by
  intro X hP hw hK hc i pins s σ H E I hf st hg
  subst hP hw hK
  obtain⟨f0,f1,f2,f3,f4,f5⟩:=hf it (by simp)
  exact wpAny_pyNext_range_end (I.ok.hd hc) st (by have:n≤i:=hg;lia) fun h' eb=>⟨rfl,I.turned (t':=s.toks) (fun b o hb e=>eb b o hb e) f0 f1 f3 f4 f5⟩
 self:=fun _ _ _ _ _ st h=>wpAny_pyIter_rangeiter st h
section
variable{X:Cx}{tg:Expr}
def Qa(K:Frag)(tl:TE):TI:=fun σ H R=>tl σ H fun x H1=>∃a,x=.ref a∧(∃xs,jE K H1 a xs)∧R (Yo K a) H1
def Vb(K:Frag)(tl:TE):TI:=fun σ H R=>tl σ H fun x H1=>∃a,x=.ref a∧(∃xs,iH K H1 a xs)∧R (Yp K a) H1
theorem IE{l:Expr}{tl:TE}(hl:PE X l tl):PI X tg l (Qa X.K tl):=by
 intro pins s σ H R I h
 refine bq (hl pins s σ H _ I h) fun v s1 ⟨x,H1,I1,r1,q1⟩=>?_
 obtain⟨a,e,⟨xs,hq⟩,q⟩:=q1
 subst e
 cases r1
 obtain⟨aA,rv,p,hz⟩:=I1.list hq
 refine wpAny_pyIter_list p.isList ?_
 refine⟨s1.heap.objs.size,[s1.heap.objs.size],_,_,H1,rfl,I1.kept (t':=s1.toks) fun b o e=>za _ e,Di a _,⟨_,zj _ rfl,rfl,rfl⟩,fun b hb=>?_,q⟩
 have e:b=s1.heap.objs.size:=by simpa using hb
 subst e
 exact I1.oX (zm _) (I1.aM.fresh (zm _))
theorem MJ{l:Expr}{tl:TE}(hl:PE X l tl):PI X tg l (Vb X.K tl):=by
 intro pins s σ H R I h
 refine bq (hl pins s σ H _ I h) fun v s1 ⟨x,H1,I1,r1,q1⟩=>?_
 obtain⟨a,e,⟨xs,hq⟩,q⟩:=q1
 subst e
 cases r1
 obtain⟨aA,rv,p,hz⟩:=I1.tuple hq
 refine wpAny_pyIter_tuple (show s1.heap.IsTuple a aA.toArray from p) ?_
 refine⟨s1.heap.objs.size,[s1.heap.objs.size],_,_,H1,rfl,I1.kept (t':=s1.toks) fun b o e=>za _ e,yS a _,⟨_,zj _ rfl,rfl,rfl⟩,fun b hb=>?_,q⟩
 have e:b=s1.heap.objs.size:=by simpa using hb
 subst e
 exact I1.oX (zm _) (I1.aM.fresh (zm _))
theorem Fn{pins:List (Addr×Obj)}{σ:St}{H:Hp}{s:Shared}{R:It→Hp→Prop}{E:Value→Shared→Prop}{lo hi:Int}{t u v:Tok}{tk:Nat}(I:Inv X pins σ H s)(h1:-(2 ^ 62)≤lo)(h2:lo<2 ^ 62)(h3:-(2 ^ 62)≤hi)(h4:hi<2 ^ 62)
  (q:R (TL lo (hi - lo).toNat) H):wpAny (model X.prog X.w) X.A (pyIter (.ref s.heap.objs.size)) (Va X pins σ tg R) E { s with heap:=s.heap.push { cls:=.type "range",data:=.fields #[.int lo t,.int hi u,.int 1 v] },toks:=tk }:=by
 refine wpAny_pyIter_range (IsRange.new ..) (small_one h1 h2 h3 h4) ?_
 have I1:Inv X pins σ H { s with heap:=s.heap.push { cls:=.type "range",data:=.fields #[.int lo t,.int hi u,.int 1 v] },toks:=tk }:=I.kept fun b o e=>za _ e
 refine⟨(s.heap.push { cls:=.type "range",data:=.fields #[.int lo t,.int hi u,.int 1 v] }).objs.size,[(s.heap.push { cls:=.type "range",data:=.fields #[.int lo t,.int hi u,.int 1 v] }).objs.size],_,_,H,rfl,
  I1.kept (t':=tk) fun b o e=>za _ e,yT _ lo (hi - lo).toNat,?_,fun b hb=>?_,q⟩
 ·have e1:lo+((0:Nat):Int) * 1=lo:=by simp
  have e2:(((hi - lo).toNat:Nat):Int) - ((0:Nat):Int)=Builtin.Range.rangeSize lo hi 1:=by rw[rangeSize_one];split <;> lia
  show IsRangeIter _ _ (lo+((0:Nat):Int) * 1) ((((hi - lo).toNat:Nat):Int) - ((0:Nat):Int)) 1
  rw[e1,e2]
  exact zj _ rfl
 ·have e:b=(s.heap.push { cls:=.type "range",data:=.fields #[.int lo t,.int hi u,.int 1 v] }).objs.size:=by simpa using hb
  subst e
  exact I1.oX (zm _) (I1.aM.fresh (zm _))
def Qb(ta:TA):TI:=fun σ H R=>ta σ H fun vs H1=>∃j:Int,vs=[.int j]∧-(2 ^ 62)≤j∧j<2 ^ 62∧R (TL 0 j.toNat) H1
theorem Dj{a:Expr}{ta:TA}{p pos:Pos}(hg:Gl X "range")(hm:X.mg "range" = none)(ha:PA X [a] ta)(hs:starEach [a] X.env=[(false,eval a X.env)]:=by rfl):PI X tg (.Call (.Name "range" p) [a] [] pos) (Qb ta):=by
 intro pins s σ H R I h
 refine Call_ (fW I hg hm boot_range (PyProof.Rows.callWith_type1 (bq (ha pos pins s σ H _ I h) fun us s1 ⟨vs,H1,I1,r1,q1⟩=>?_) hs rfl))
 obtain⟨j,e,q1,q2,q⟩:=q1
 subst e
 cases r1 with
 |cons r rr =>
  cases rr
  obtain⟨t,rfl⟩:=r
  exact call_range_1 (Fn I1 (by lia) (by lia) q1 q2 (by simpa using q))
def Vc(wi:TI)(g:TG)(tb:TS):TS:=fun D σ H=>wi σ H fun J H1=>∃W:Nat→Nat→St→Hp→Prop,(∃m,W 0 m σ H1)∧∀i m σ H,W i m σ H →
 (J.stop i H∧D.nx σ H)∨(J.go i H∧∃N:St→Hp→Prop,(∀aG H',N aG H'→∃m',m'<m∧W (i+1) m' aG H')∧∀x H',J.P_ i H x H'→g x σ H' fun pI H2=>tb { D with nx:=N,ct:=N,bk:=D.nx } pI H2)
def p7(fp:List Addr)(h:Heap):List (Addr×Obj):=fp.filterMap fun b=>(h.get? b).map fun o=>(b,o)
theorem gQ(hb:b∈fp)(e:h.get? b=some o):(b,o)∈p7 fp h:=List.mem_filterMap.mpr ⟨b,hb,by rw[e];rfl⟩
theorem Dk(hp:p∈p7 fp h):p.1∈fp∧h.get? p.1=some p.2:=by
 obtain⟨b,hb,e⟩:=List.mem_filterMap.mp hp
 cases q:h.get? b with
 |none=>rw[q] at e;cases e
 |some o =>
  rw[q] at e
  have e':(b,o)=p:=zM e
  subst e'
  exact⟨hb,q⟩
theorem Inv.pinned(I:Inv X pins σ H s)(hf:∀b∈fp,rW X pins H b)(ho:∀b∈fp,∃o,s.heap.get? b=some o∧∀v,o.data≠.cell v):Inv X (pins++p7 fp s.heap) σ H s :=
 I.lO fun p hp=>(zL.mp hp).elim (fun z=>I.pin p (zy _ z)) fun z=>by
  obtain⟨hb,e⟩:=Dk z
  obtain⟨f0,f1,f2,_⟩:=hf p.1 hb
  obtain⟨o,e',d⟩:=ho p.1 hb
  rw[e] at e';cases e'
  exact⟨e,f0,f1,f2,d⟩
theorem Inv.p8(I:Inv X (pins++pl) σ H s):Inv X pins σ H s:=I.lO fun p hp=>I.pin p (zy _ (ya _ hp))
theorem MK(hp:PassesOwn (model X.prog X.w) X.A X.env X.xe)(hc:X.calm=true)(hi:PI X tg iter wi)(hg:PG X tg g)(hb:BN X body tb)
  (hs:∀x,foldedSetIterable iter X.env x=pure x:=by intro _;rfl):PS X (.For tg iter body [] pos) (Vc wi g tb):=by
 intro pins s σ H D I h
 refine wpAny_For (bq (hi pins s σ H _ I h) fun v s1 h1=>bq h1 fun TK s2 h2=>?_) hs
 obtain⟨it,fp,tn,J,H2,e,I2,T,Dm,f2,W,⟨m0,w0⟩,turn⟩:=h2
 subst e
 -- what stays true of the iterator's objects through the loop
 have ML:∀{H':Hp},(∀b∈fp,H' b=none)→∀b∈fp,rW X pins H' b:=fun hn b hb=>⟨hn b hb,(f2 b hb).2⟩
 refine codeAny_forLoop_any (fun n s'=>∃i aG H',Inv X pins aG H' s'∧tn i s'.heap∧(∀b∈fp,H' b=none)∧W i n aG H') ?_ m0 ⟨0,σ,H2,I2,Dm,fun b hb=>(f2 b hb).1,w0⟩
 rintro n s3 ⟨i,iI,H3,I3,IF,Qc,w3⟩
 rcases turn i n iI H3 w3 with ⟨stop,qn⟩|⟨go,N,hN,step⟩
 ·refine wpAny_passesOwn hp (bq (T.done X rfl rfl rfl hc i pins s3 iI H3 X.xe I3 (ML Qc) IF stop) fun r s4 ⟨hr,I4⟩=>?_)
  subst hr
  exact wpAny_execs_nil ⟨iI,H3,I4,qn⟩
 ·refine wpAny_passesOwn hp (bq (T.item X rfl rfl rfl hc i pins s3 iI H3 X.xe I3 (ML Qc) IF go) fun r s4 ⟨u,hr,h4⟩=>?_)
  subst hr
  refine wpAny_passesOwn hp (bq h4 fun _ s5 ⟨x,H5,I5,r5,y5,Fp,fr5⟩=>?_)
  have Vd:=I5.pinned (ML fr5) (T.obj _ _ Fp)
  refine wpAny_passesOwn hp (bq (hg _ s5 iI H5 x u _ Vd r5 (step x H5 y5)) fun _ s6 ⟨Qd,H6,I6,q6⟩=>?_)
  refine wpAny_passesOwn hp (bq (hb _ s6 Qd H6 _ I6 q6) fun f s7 q7=>?_)
  have again:∀{Fq:St}{H7:Hp},Inv X (pins++p7 fp s5.heap) Fq H7 s7→N Fq H7→∃m,m<n∧∃i aG H',Inv X pins aG H' s7∧tn i s7.heap∧(∀b∈fp,H' b=none)∧W i m aG H':=fun {Fq H7} I7 n7=>by
   obtain⟨m',hm,w7⟩:=hN Fq H7 n7
   refine⟨m',hm,i+1,Fq,H7,I7.p8,T.keep _ _ _ Fp fun b hb o e=>(I7.pin (b,o) (zy _ (zy _ (gQ hb e)))).1,fun b hb=>?_,w7⟩
   obtain⟨o,e,d⟩:=T.obj _ _ Fp b hb
   exact (I7.pin (b,o) (zy _ (zy _ (gQ hb e)))).2.1
  cases f with
  |next=>obtain⟨Fq,H7,I7,n7⟩:=q7;exact again I7 n7
  |cont=>obtain⟨Fq,H7,I7,n7⟩:=q7;exact again I7 n7
  |brk=>obtain⟨Fq,H7,I7,q7⟩:=q7;exact⟨Fq,H7,I7.p8,q7⟩
  |ret v=>obtain⟨x7,Fq,H7,I7,r7,q7⟩:=q7;exact⟨x7,Fq,H7,I7.p8,r7,q7⟩
end
abbrev R2:=V→V→Hp→VK→Prop
def gR(X:Cx)(f:Value→Value→Sem Value)(r:R2):Prop :=
 ∀(pins:List (Addr×Obj)) (s:Shared) (σ:St) (H:Hp) (x y:V) (v u:Value) (Q:VK),Inv X pins σ H s→RelV x v→RelV y u→r x y H Q →
  wpAny (model X.prog X.w) X.A (f v u) (EP X pins σ Q) X.xe s
def Ve(X:Cx)(f:Value→Sem Value)(r:V→Hp→VK→Prop):Prop :=
 ∀(pins:List (Addr×Obj)) (s:Shared) (σ:St) (H:Hp) (x:V) (v:Value) (Q:VK),Inv X pins σ H s→RelV x v→r x H Q →
  wpAny (model X.prog X.w) X.A (f v) (EP X pins σ Q) X.xe s
def eI(X:Cx)(f:Value)(r:List V→Hp→VK→Prop):Prop :=
 ∀(pins:List (Addr×Obj)) (s:Shared) (σ:St) (H:Hp) (xs:List V) (us:List Value) (Q:VK),Inv X pins σ H s→Vals xs us→r xs H Q →
  wpAny (model X.prog X.w) X.A (call f us) (EP X pins σ Q) X.xe s
def O9(r:R2)(ta tb:TE):TE:=fun σ H Q=>ta σ H fun x H1=>tb σ H1 fun y H2=>r x y H2 Q
def ZO(r:V→Hp→VK→Prop)(ta:TE):TE:=fun σ H Q=>ta σ H fun x H1=>r x H1 Q
def rI(C:Int→Int→Prop)(g:Int→Int→V):R2:=fun x y H Q=>∃i j,x=.int i∧y=.int j∧C i j∧Q (g i j) H
def IG(g:Int→Int→V):R2:=fun x y H Q=>∃i j,x=.int i∧y=.int j∧Q (g i j) H
def rU(g:Int→V):V→Hp→VK→Prop:=fun x H Q=>∃i,x=.int i∧Q (g i) H
section
variable{X:Cx}{a b:Expr}{ta tb:TE}{pos:Pos}
theorem MM(ha:PE X a ta)(hb:PE X b tb){pins:List (Addr×Obj)}{s:Shared}{σ:St}{H:Hp}{R:V→V→Hp→Prop}(I:Inv X pins σ H s)
  (h:ta σ H fun x H1=>tb σ H1 fun y H2=>R x y H2) {Q:Value→Shared→Prop}{f:Value→Value→Sem Value}
  (hf:∀v u s2 x y H2,Inv X pins σ H2 s2→RelV x v→RelV y u→R x y H2→wpAny (model X.prog X.w) X.A (f v u) Q X.xe s2) :
  wpAny (model X.prog X.w) X.A (eval a X.env) (fun v aZ=>wpAny (model X.prog X.w) X.A (eval b X.env) (fun u bP=>wpAny (model X.prog X.w) X.A (f v u) Q X.xe bP) X.xe aZ) X.xe s:=by
 refine bq (ha pins s σ H _ I h) fun v s1 ⟨x,H1,I1,r1,q1⟩=>?_
 refine bq (hb pins s1 σ H1 _ I1 q1) fun u s2 ⟨y,H2,I2,r2,q2⟩=>?_
 exact hf v u s2 x y H2 I2 r1 r2 q2
theorem Qe{op:Operator}{r:R2}(ho:gR X (binaryOp op) r)(ha:PE X a ta)(hb:PE X b tb):PE X (.BinOp a op b pos) (O9 r ta tb):=by
 intro pins s σ H Q I h
 exact wpAny_BinOp (MM ha hb I h fun v u s2 x y H2 I2 rx ry q=>ho pins s2 σ H2 x y v u Q I2 rx ry q)
theorem Qf(ho:Ve X (unaryOp op) r)(ha:PE X a ta):PE X (.UnaryOp op a pos) (ZO r ta):=by
 intro pins s σ H Q I h
 exact UnaryOp_ (bq (ha pins s σ H _ I h) <| by rintro v s1 ⟨x,H1,I1,r1,q1⟩;exact ho pins s1 σ H1 x v Q I1 r1 q1)
theorem TM{f:Value→Value→Sem Value}{C:Int→Int→Prop}{g:Int→Int→Int}
  (rule:∀(i j:Int) (t u:Tok) (s:Shared) (Q:Value→Shared→Prop) (E:Value→Shared→Prop),C i j→Q (.int (g i j) s.toks) { s with toks:=s.toks+1 }→wpAny (model X.prog X.w) X.A (f (.int i t) (.int j u)) Q E s) :
  gR X f (rI C fun i j=>.int (g i j)):=by
 intro pins s σ H x y v u Q I rx ry h
 obtain⟨i,j,rfl,rfl,hc,q⟩:=h
 obtain⟨t,rfl⟩:=rx
 obtain⟨t',rfl⟩:=ry
 exact rule i j t t' s _ _ hc ⟨.int (g i j),H,I.tok _,⟨_,rfl⟩,q⟩
theorem Qg{f:Value→Value→Sem Value}{g:Int→Int→Int}
  (rule:∀(i j:Int) (t u:Tok) (s:Shared) (Q:Value→Shared→Prop) (E:Value→Shared→Prop),Q (.int (g i j) s.toks) { s with toks:=s.toks+1 }→wpAny (model X.prog X.w) X.A (f (.int i t) (.int j u)) Q E s) :
  gR X f (IG fun i j=>.int (g i j)):=by
 intro pins s σ H x y v u Q I rx ry h
 obtain⟨i,j,rfl,rfl,q⟩:=h
 obtain⟨t,rfl⟩:=rx
 obtain⟨t',rfl⟩:=ry
 exact rule i j t t' s _ _ ⟨.int (g i j),H,I.tok _,⟨_,rfl⟩,q⟩
theorem IH{f:Value→Value→Sem Value}{g:Int→Int→Bool}
  (rule:∀(i j:Int) (t u:Tok) (s:Shared) (Q:Value→Shared→Prop) (E:Value→Shared→Prop),Q (.bool (g i j)) s→wpAny (model X.prog X.w) X.A (f (.int i t) (.int j u)) Q E s) :
  gR X f (IG fun i j=>.bl (g i j)):=by
 intro pins s σ H x y v u Q I rx ry h
 obtain⟨i,j,rfl,rfl,q⟩:=h
 obtain⟨t,rfl⟩:=rx
 obtain⟨t',rfl⟩:=ry
 exact rule i j t t' s _ _ ⟨.bl (g i j),H,I,rfl,q⟩
def Qh(i j:Int):Prop:=0≤j∧j≤1000000∧i.natAbs<2 ^ 64
def II(i j:Int):Prop:=(-(2 ^ 64)<i∧i<2 ^ 64)∨(-(2 ^ 64)<j∧j<2 ^ 64)
theorem II.ok{i j:Int}(h:II i j):IntMulOk i j:=by
 rcases h with ⟨h1,h2⟩|⟨h1,h2⟩
 ·exact .of_left (intBits_le_64 h1 h2)
 ·exact .of_right (intBits_le_64 h1 h2)
theorem MN:gR X (binaryOp .Add) (IG fun i j=>.int (i+j)):=Qg fun _ _ _ _ _ _ _ q=>add_int q
theorem MO:gR X (binaryOp .Sub) (IG fun i j=>.int (i - j)):=Qg fun _ _ _ _ _ _ _ q=>sub_int q
theorem MP:gR X (binaryOp .Mult) (rI II fun i j=>.int (i * j)):=TM fun _ _ _ _ _ _ _ hc q=>mul_int q hc.ok
theorem MQ:gR X (binaryOp .Mod) (rI (fun _ j=>0<j) fun i j=>.int (i % j)):=TM fun i j _ _ _ _ _ hc q=>by
 have h1:(0:Int)<j:=hc
 exact mod_int' (by lia) (by rw[Int.fmod_eq_emod_of_nonneg i (by lia)];exact q)
theorem MR:gR X (binaryOp .Pow) (rI Qh fun i j=>.int (i ^ j.toNat)):=TM fun _ _ _ _ _ _ _ hc q=>pow_int_small hc.1 hc.2.1 hc.2.2 q
theorem ZP{f:Value→Sem Value}{g:Int→Int}
  (rule:∀(i:Int) (t:Tok) (s:Shared) (Q:Value→Shared→Prop) (E:Value→Shared→Prop),Q (.int (g i) s.toks) { s with toks:=s.toks+1 }→wpAny (model X.prog X.w) X.A (f (.int i t)) Q E s) :
  Ve X f (rU fun i=>.int (g i)):=by
 intro pins s σ H x v Q I rx h
 obtain⟨i,rfl,q⟩:=h
 obtain⟨t,rfl⟩:=rx
 exact rule i t s _ _ ⟨.int (g i),H,I.tok _,⟨_,rfl⟩,q⟩
theorem MS:Ve X (unaryOp .USub) (rU fun i=>.int (-i)):=ZP fun _ _ _ _ _ q=>neg_int q
end
def Qi:V→V→Bool
 |.aw,.aw=>true|.aw,.int _=>true|.int _,.aw=>true|.aw,.bl _=>true|.bl _,.aw=>true|.aw,.str _=>true|.str _,.aw=>true
 |.int _,.int _=>true|.bl _,.bl _=>true|.str _,.str _=>true|.BM _,.BM _=>true
 |.int _,.str _=>true|.str _,.int _=>true|.bl _,.str _=>true|.str _,.bl _=>true
 |_,_=>false
def ZQ:R2:=fun x y H Q=>Qi x y=true∧Q (.bl (decide (x=y))) H
def ZR:R2:=fun x y H Q=>Qi x y=true∧Q (.bl (!decide (x=y))) H
theorem BR:decide (V.int i=V.int j)=(i == j):=by
 rw[yx]
 simp
theorem Fs:decide (V.bl i=V.bl j)=(i == j):=by
 rw[yx]
 simp
theorem BS:decide (V.str i=V.str j)=(i == j):=by
 rw[yx]
 simp
theorem BU:decide (V.BM i=V.BM j)=(i.toList == j.toList):=by
 rw[yx]
 cases i
 cases j
 simp
section
variable{X:Cx}{a b c:Expr}{ta tb tc:TE}{pos:Pos}
theorem aJ(I:Inv X pins σ H s)(q:Q (.bl k) H)(e:k=k'):EP X pins σ Q (.bool k') s:=by
 subst e
 exact⟨.bl k,H,I,rfl,q⟩
theorem Lb:gR X (compareOp .Eq) ZQ:=by
 intro pins s σ H x y v u Q I rx ry h
 obtain⟨hs,q⟩:=h
 cases x with
 |aw =>
  cases rx
  cases y with
  |aw=>cases ry;exact PySem.EqNone.eq_none_none (aJ I q (by simp))
  |bl j=>cases ry;exact PySem.EqNone.eq_none_bool (aJ I q (by simp))
  |int j=>obtain⟨t',rfl⟩:=ry;exact PySem.EqNone.eq_none_int (aJ I q (by simp))
  |str j=>obtain⟨t',rfl⟩:=ry;exact PySem.EqNone.eq_none_str (aJ I q (by simp))
  |_=>exact absurd (show false=true from hs) zd
 |bl i =>
  cases rx
  cases y with
  |aw=>cases ry;exact PySem.EqNone.eq_bool_none (aJ I q (by simp))
  |bl j=>cases ry;exact eq_bool (aJ I q Fs)
  |str j=>obtain⟨t',rfl⟩:=ry;exact PySem.EqMixed.eq_bool_str (aJ I q (by simp))
  |_=>exact absurd (show false=true from hs) zd
 |int i =>
  obtain⟨t,rfl⟩:=rx
  cases y with
  |aw=>cases ry;exact PySem.EqNone.eq_int_none (aJ I q (by simp))
  |int j=>obtain⟨t',rfl⟩:=ry;exact eq_int (aJ I q BR)
  |str j=>obtain⟨t',rfl⟩:=ry;exact PySem.EqMixed.eq_int_str (aJ I q (by simp))
  |_=>exact absurd (show false=true from hs) zd
 |str i =>
  obtain⟨t,rfl⟩:=rx
  cases y with
  |aw=>cases ry;exact PySem.EqNone.eq_str_none (aJ I q (by simp))
  |bl j=>cases ry;exact PySem.EqMixed.eq_str_bool (aJ I q (by simp))
  |int j=>obtain⟨t',rfl⟩:=ry;exact PySem.EqMixed.eq_str_int (aJ I q (by simp))
  |str j=>obtain⟨t',rfl⟩:=ry;exact eq_str (aJ I q BS)
  |_=>exact absurd (show false=true from hs) zd
 |BM i =>
  obtain⟨t,rfl⟩:=rx
  cases y with
  |BM j=>obtain⟨t',rfl⟩:=ry;exact PySem.W.eq_bytes (aJ I q BU)
  |_=>exact absurd (show false=true from hs) zd
 |_=>cases y <;> exact absurd (show false=true from hs) zd
theorem Ld:gR X (compareOp .NotEq) ZR:=by
 intro pins s σ H x y v u Q I rx ry h
 obtain⟨hs,q⟩:=h
 cases x with
 |aw =>
  cases rx
  cases y with
  |aw=>cases ry;exact PySem.EqNone.ne_none_none (aJ I q (by simp))
  |bl j=>cases ry;exact PySem.EqNone.ne_none_bool (aJ I q (by simp))
  |int j=>obtain⟨t',rfl⟩:=ry;exact PySem.EqNone.ne_none_int (aJ I q (by simp))
  |str j=>obtain⟨t',rfl⟩:=ry;exact PySem.EqNone.ne_none_str (aJ I q (by simp))
  |_=>exact absurd (show false=true from hs) zd
 |bl i =>
  cases rx
  cases y with
  |aw=>cases ry;exact PySem.EqNone.ne_bool_none (aJ I q (by simp))
  |bl j=>cases ry;exact ne_bool (aJ I q (congrArg not Fs))
  |str j=>obtain⟨t',rfl⟩:=ry;exact PySem.EqMixed.ne_bool_str (aJ I q (by simp))
  |_=>exact absurd (show false=true from hs) zd
 |int i =>
  obtain⟨t,rfl⟩:=rx
  cases y with
  |aw=>cases ry;exact PySem.EqNone.ne_int_none (aJ I q (by simp))
  |int j=>obtain⟨t',rfl⟩:=ry;exact ne_int (aJ I q (congrArg not BR))
  |str j=>obtain⟨t',rfl⟩:=ry;exact PySem.EqMixed.ne_int_str (aJ I q (by simp))
  |_=>exact absurd (show false=true from hs) zd
 |str i =>
  obtain⟨t,rfl⟩:=rx
  cases y with
  |aw=>cases ry;exact PySem.EqNone.ne_str_none (aJ I q (by simp))
  |bl j=>cases ry;exact PySem.EqMixed.ne_str_bool (aJ I q (by simp))
  |int j=>obtain⟨t',rfl⟩:=ry;exact PySem.EqMixed.ne_str_int (aJ I q (by simp))
  |str j=>obtain⟨t',rfl⟩:=ry;exact ne_str (aJ I q (congrArg not BS))
  |_=>exact absurd (show false=true from hs) zd
 |BM i =>
  obtain⟨t,rfl⟩:=rx
  cases y with
  |BM j=>obtain⟨t',rfl⟩:=ry;exact PySem.W.ne_bytes (aJ I q (congrArg not BU))
  |_=>exact absurd (show false=true from hs) zd
 |_=>cases y <;> exact absurd (show false=true from hs) zd
theorem Qj:gR X (compareOp .Lt) (IG fun i j=>.bl (decide (i<j))):=IH fun _ _ _ _ _ _ _ q=>lt_int q
theorem Ql:gR X (compareOp .LtE) (IG fun i j=>.bl (decide (i≤j))):=IH fun _ _ _ _ _ _ _ q=>le_int q
theorem Qm:gR X (compareOp .Gt) (IG fun i j=>.bl (decide (j<i))):=IH fun _ _ _ _ _ _ _ q=>gt_int q
theorem Qn:gR X (compareOp .GtE) (IG fun i j=>.bl (decide (j≤i))):=IH fun _ _ _ _ _ _ _ q=>ge_int q
theorem Dn:gR X (compareOp .Lt) (fun x y H Q=>∃i j,x=.str i∧y=.str j∧Q (.bl (decide (i.cps.toList<j.cps.toList))) H):=by
 intro pins s σ H x y v u Q I rx ry h
 obtain⟨i,j,rfl,rfl,q⟩:=h
 obtain⟨t,rfl⟩:=rx
 obtain⟨t',rfl⟩:=ry
 exact lt_str (aJ I q rfl)
theorem Dq:gR X (compareOp .In) (fun x y H Q=>∃i j,x=.str i∧y=.str j∧Q (.bl (!(Builtin.Str.occurrences j i 0 j.length 1).isEmpty)) H):=by
 intro pins s σ H x y v u Q I rx ry h
 obtain⟨i,j,rfl,rfl,q⟩:=h
 obtain⟨t,rfl⟩:=rx
 obtain⟨t',rfl⟩:=ry
 exact in_str (aJ I q rfl)
theorem MT:gR X (compareOp .Is) (fun x y H Q=>y=.aw∧Q (.bl (decide (x=.aw))) H):=by
 intro pins s σ H x y v u Q I rx ry h
 obtain⟨rfl,q⟩:=h
 cases ry
 refine is_none_gen (aJ I q ?_)
 cases x <;> first
  | (cases rx;rfl)
  | (obtain⟨t,rfl⟩:=rx;rfl)
theorem IJ:gR X (compareOp .IsNot) (fun x y H Q=>y=.aw∧Q (.bl (!decide (x=.aw))) H):=by
 intro pins s σ H x y v u Q I rx ry h
 obtain⟨rfl,q⟩:=h
 cases ry
 refine isnot_none_gen (aJ I q ?_)
 cases x <;> first
  | (cases rx;rfl)
  | (obtain⟨t,rfl⟩:=rx;rfl)
theorem Vf(b:Expr)(h:op≠.In:=by decide)(h2:op≠.NotIn:=by decide):behindInMarks op b=false:=by
 have e1:(op == CmpOp.In)=false:=by cases op <;> first|rfl|exact absurd rfl h
 have e2:(op == CmpOp.NotIn)=false:=by cases op <;> first|rfl|exact absurd rfl h2
 cases b <;> simp [behindInMarks,e1,e2]
theorem BV{op:CmpOp}{r:R2}(ho:gR X (compareOp op) r)(ha:PE X a ta)(hb:PE X b tb)(hm:behindInMarks op b=false):PE X (.Compare a [op] [b] pos) (O9 r ta tb):=by
 intro pins s σ H Q I h
 exact wpAny_Compare1 (MM ha hb I h fun v u s2 x y H2 I2 rx ry q=>ho pins s2 σ H2 x y v u Q I2 rx ry q) hm
def Ft(t:TE):TT:=fun σ H Q=>t σ H fun x H'=>∃k,x=.bl k∧Q k H'
theorem IK{op:CmpOp}{r:R2}(ho:gR X (compareOp op) r)(ha:PE X a ta)(hb:PE X b tb)(hm:behindInMarks op b=false):PT X (.Compare a [op] [b] pos) (Ft (O9 r ta tb)):=by
 intro pins s σ H Q I h
 refine wpAny_isTrue_Compare1 (bq (ha pins s σ H _ I h) fun v s1 ⟨x,H1,I1,r1,q1⟩=>bq (hb pins s1 σ H1 _ I1 q1) fun u s2 ⟨y,H2,I2,r2,q2⟩ =>
  bq (ho pins s2 σ H2 x y v u _ I2 r1 r2 q2) fun c s3 ⟨z,H3,I3,r3,k,e,q3⟩=>?_) hm
 subst e
 cases r3
 exact yk ⟨H3,I3,q3⟩
def yU(r r':R2)(ta tb tc:TE):TE:=fun σ H Q=>ta σ H fun x H1=>tb σ H1 fun y H2=>r x y H2 fun z H3=>∃k,z=.bl k ∧
 (if k=true then tc σ H3 fun w' H4=>r' y w' H4 Q else Q (.bl false) H3)
theorem Fu{op Ds:CmpOp}{r r':R2}(ho:gR X (compareOp op) r)(x_:gR X (compareOp Ds) r')(ha:PE X a ta)(hb:PE X b tb)(hc:PE X c tc)
  (hm:lastMarks [op,Ds] [b,c]=false:=by with_unfolding_all rfl):PE X (.Compare a [op,Ds] [b,c] pos) (yU r r' ta tb tc):=by
 intro pins s σ H Q I h
 refine Compare_chain (bq (ha pins s σ H _ I h) fun v s1 ⟨x,H1,I1,r1,q1⟩=>chain_link (bq (hb pins s1 σ H1 _ I1 q1) fun u s2 ⟨y,H2,I2,r2,q2⟩ =>
  bq (ho pins s2 σ H2 x y v u _ I2 r1 r2 q2) fun d s3 ⟨z,H3,I3,r3,k,e,q3⟩=>?_)) hm
 subst e
 cases r3
 refine yk ?_
 cases k with
 |false=>exact ite_ff ⟨.bl false,H3,I3,rfl,q3⟩
 |true=>exact ite_tt (chain_last (bq (hc pins s3 σ H3 _ I3 q3) fun w' s4 ⟨z',H4,I4,r4,q4⟩=>x_ pins s4 σ H4 y z' u w' Q I4 r2 r4 q4))
theorem Fv{op Ds:CmpOp}{r r':R2}(ho:gR X (compareOp op) r)(x_:gR X (compareOp Ds) r')(ha:PE X a ta)(hb:PE X b tb)(hc:PE X c tc)
  (hm:lastMarks [op,Ds] [b,c]=false:=by with_unfolding_all rfl):PT X (.Compare a [op,Ds] [b,c] pos) (Ft (yU r r' ta tb tc)):=by
 intro pins s σ H Q I h
 refine isTrue_chain (bq (ha pins s σ H _ I h) fun v s1 ⟨x,H1,I1,r1,q1⟩=>test_link (bq (hb pins s1 σ H1 _ I1 q1) fun u s2 ⟨y,H2,I2,r2,q2⟩ =>
  bq (ho pins s2 σ H2 x y v u _ I2 r1 r2 q2) fun d s3 ⟨z,H3,I3,r3,k,e,q3⟩=>?_)) hm
 subst e
 cases r3
 refine yk ?_
 cases k with
 |false =>
  obtain⟨k',e',q'⟩:=q3
  cases e'
  exact ite_ff ⟨H3,I3,q'⟩
 |true =>
  refine ite_tt (test_last (bq (hc pins s3 σ H3 _ I3 q3) fun w' s4 ⟨z',H4,I4,r4,q4⟩=>bq (x_ pins s4 σ H4 y z' u w' _ I4 r2 r4 q4) fun d' s5 ⟨z2,H5,I5,r5,k2,e2,q5⟩=>?_))
  subst e2
  cases r5
  exact yk ⟨H5,I5,q5⟩
theorem p9:(sizeLine:Nat)<2 ^ 63:=by rw[zZ];decide
theorem yV:gR X (binaryOp .Add) (fun x y H Q=>∃i j,x=.str i∧y=.str j∧i.length+j.length≤sizeLine∧Q (.str (i++j)) H):=by
 intro pins s σ H x y v u Q I rx ry h
 obtain⟨i,j,rfl,rfl,hz,q⟩:=h
 obtain⟨t,rfl⟩:=rx
 obtain⟨t',rfl⟩:=ry
 exact add_str (fun t' tk=>⟨.str (i++j),H,I.tok _,⟨_,rfl⟩,q⟩) hz
theorem vals1(r:Vals [x] us):∃u,us=[u]∧RelV x u:=by
 cases r with
 |cons r1 r2=>cases r2;exact !⟨r1⟩
theorem vals2(r:Vals [x,y] us):∃u w',us=[u,w']∧RelV x u∧RelV y w':=by
 cases r with
 |cons r1 r2 =>
  cases r2 with
  |cons r3 r4=>cases r4;exact⟨_,_,rfl,r1,r3⟩
theorem Du(hc:X.calm=true):eI X (.builtin "max") (fun xs H Q=>∃i j,xs=[.int i,.int j]∧Q (.int (if j>i then j else i)) H):=by
 intro pins s σ H xs us Q I r h
 obtain⟨i,j,rfl,q⟩:=h
 obtain⟨u,w',rfl,⟨t,rfl⟩,⟨t',rfl⟩⟩:=vals2 r
 refine max_two_ints (I.ok.hd hc) fun h' tk k=>⟨_,H,I.kept k,?_,q⟩
 by_cases hj:j>i
 ·rw[if_pos hj,if_pos hj];exact⟨_,rfl⟩
 ·rw[if_neg hj,if_neg hj];exact⟨_,rfl⟩
theorem Dw(hc:X.calm=true):eI X (.builtin "min") (fun xs H Q=>∃i j,xs=[.int i,.int j]∧Q (.int (if j<i then j else i)) H):=by
 intro pins s σ H xs us Q I r h
 obtain⟨i,j,rfl,q⟩:=h
 obtain⟨u,w',rfl,⟨t,rfl⟩,⟨t',rfl⟩⟩:=vals2 r
 refine min_two_ints (I.ok.hd hc) fun h' tk k=>⟨_,H,I.kept k,?_,q⟩
 by_cases hj:j<i
 ·rw[if_pos hj,if_pos hj];exact⟨_,rfl⟩
 ·rw[if_neg hj,if_neg hj];exact⟨_,rfl⟩
theorem sZ:eI X (.type "int") (fun xs H Q=>(∃i,xs=[.int i]∧Q (.int i) H)∨∃k,xs=[.bl k]∧Q (.int (if k then 1 else 0)) H):=by
 intro pins s σ H xs us Q I r h
 rcases h with ⟨i,rfl,q⟩|⟨k,rfl,q⟩
 ·obtain⟨u,rfl,t,rfl⟩:=vals1 r
  exact call_int_int ⟨.int i,H,I,⟨_,rfl⟩,q⟩
 ·obtain⟨u,rfl,r1⟩:=vals1 r
  cases r1
  exact call_int_bool ⟨.int (if k then 1 else 0),H,I.tok _,⟨_,rfl⟩,q⟩
def Vh(K:Frag)(x:V)(H:Hp)(n:Nat):Prop :=
 match x with
 |.str y=>y.length≤sizeLine∧n=y.length
 |.BM y=>y.size≤sizeLine∧n=y.size
 |.ref p=>(∃xs,jE K H p xs∧n=xs.length)∨∃xs,iH K H p xs∧n=xs.length
 |_=>False
theorem iT:eI X (.builtin "len") (fun xs H Q=>∃x n,xs=[x]∧Vh X.K x H n∧Q (.int n) H):=by
 intro pins s σ H xs us Q I r h
 obtain⟨x,n,rfl,e,q⟩:=h
 obtain⟨u,rfl,rx⟩:=vals1 r
 have hl:=p9
 have hs:sizeLine=16777216:=zZ
 cases x with
 |str y =>
  obtain⟨t,rfl⟩:=rx
  obtain⟨hy,e'⟩:y.length≤sizeLine∧n=y.length:=e
  subst e'
  exact len_str (by lia) ⟨.int _,H,I.tok _,⟨_,rfl⟩,q⟩
 |BM y =>
  obtain⟨t,rfl⟩:=rx
  obtain⟨hy,e'⟩:y.size≤sizeLine∧n=y.size:=e
  subst e'
  exact PySem.W.len_bytes (by lia) ⟨.int _,H,I.tok _,⟨_,rfl⟩,q⟩
 |ref p =>
  cases rx
  have e':(∃xs,jE X.K H p xs∧n=xs.length)∨∃xs,iH X.K H p xs∧n=xs.length:=e
  rcases e' with ⟨xs,hx,e'⟩|⟨xs,hx,e'⟩
  ·subst e'
   obtain⟨aA,r',pl,hz⟩:=I.list hx
   have hlen:=r'.length
   exact Calls.call_len_list pl.isList (by simp only [zr];lia) ⟨.int xs.length,H,I.tok _,⟨_,by simp only [zr];rw[hlen]⟩,q⟩
  ·subst e'
   obtain⟨aA,r',pl,hz⟩:=I.tuple hx
   have hlen:=r'.length
   exact len_tuple pl (by simp only [zr];lia) ⟨.int xs.length,H,I.tok _,⟨_,by simp only [zr];rw[hlen]⟩,q⟩
 |_=>exact (show False from e).elim
end
structure yW(h:Heap)(x dx C:Addr)(mA:Str→Option Value):Prop where
 obj:h.get? x=some (instObj C dx)
 ns:h.Ns1 dx mA
 ne:dx≠x
theorem Dx{h:Heap}{dx:Addr}{mA:Str→Option Value}(n:h.Ns1 dx mA):∃od,h.get? dx=some od∧∀name,lookIn name od=some (mA name):=by
 obtain⟨o,es,ep,ho,hd,hk,_,hm⟩:=n
 refine⟨o,ho,fun name=>?_⟩
 have e:=hm name
 unfold nsFind findBy at e
 rw[← Array.find?_toList] at e
 unfold lookIn
 rw[hd]
 dsimp only
 split
 ·rename_i y q
  rw[q] at e
  exact congrArg some e
 ·rename_i q
  rw[q] at e
  have a:es.toList.any (·.refKey)=false:=by
   rw[List.any_eq_false]
   intro y hy
   obtain⟨z,t,MU⟩:=hk y (Array.mem_toList_iff.mp hy)
   simp [DictEntry.refKey,MU]
  have a':¬ es.toList.any (·.refKey)=true:=by rw[a];exact zd
  rw[if_neg a']
  exact congrArg some e
theorem yW.look(I:yW h x dx C mA):∃od,PySem.W.InstAt h x (instObj C dx) C (some od)∧∀name,lookIn name od=some (mA name) :=
 let ⟨od,ho,hl⟩:=Dx I.ns
 ⟨od,⟨I.obj,rfl,rfl,ho⟩,hl⟩
section
variable{prog:Program}{w:World}{A:Around}{E:Value→Shared→Prop}{s:Shared}{K:Frag}{x dx C f:Addr}{mA:Str→Option Value}{name:Str}{v:Value}
theorem get_map(X:K.In s.heap)(I:yW s.heap x dx C mA)(hg:plainGet K C name=true)(hh:hasDictIn K C=true)
  (ha:findIn K (.ref C) name=some none) (hv:mA name=some v) (TN:handedIn v=true) (h:Q v { s with toks:=s.toks+1 }) :
  wpAny (model prog w) A (getAttr (.ref x) name expr) Q E s:=by
 obtain⟨od,J,hl⟩:=I.look
 exact PySem.W.get_value X J (plainGet_of hg).1 (PySem.W.findObj_own hh ha rfl (by rw[hl,hv])) TN h
theorem Fw(X:K.In s.heap)(I:yW s.heap x dx C mA)(hg:plainGet K C name=true)
  (hf:findIn K (.ref C) name=some (some (.ref f))) (ht:isFn K (.ref f)=true) (hv:mA name=none) (h:Q (.ref f,[.ref x]) s) :
  wpAny (model prog w) A (getMethod (.ref x) name pl) Q E s:=by
 obtain⟨od,J,hl⟩:=I.look
 exact PySem.W.method_fn X J (plainGet_of hg).1 (plainGet_of hg).2 hf (beq_iff_eq.mp ht) (by show (lookIn name od).map (·.isSome)=some false;rw[hl,hv];rfl) h
theorem IL(X:K.In s.heap)(I:yW s.heap x dx C mA)
  (hs:findIn K (.ref C) "__setattr__" = some (some (.builtin "object.__setattr__"))) (hp:plainOver K C=true) (ht:takerIn K C name=some none) (hh:hasDictIn K C=true)
  (hw:PySem.Within mA ns) (hsz:ns.length≤sizeLine)
  (h:∀h',yW h' x dx C (fun y=>if y=name then some v else mA y)→Heap.SameBut dx s.heap h'→Q () { s with heap:=h',toks:=s.toks+2 }) :
  wpAny (model prog w) A (setAttr (.ref x) name v) Q E s:=by
 obtain⟨od,J,hl⟩:=I.look
 refine PySem.W.set_plain X J hs (PySem.W.osa_open (s:={ s with toks:=s.toks+1 }) (r:=none) X J hp ht fun b=>?_)
 obtain⟨cd,hc,yQ⟩:=PySem.W.any_some hh
 have hx:s.heap.get? x=some ⟨.ref C,some dx,.plain,#[]⟩:=I.obj
 refine zc (zu (zc (zc (wpAny_loadPart hx (zc (PySem.W.Looks.here (s:={ s with toks:=s.toks+1 }) (PySem.W.looks_clsIn X hc) ?_))))))
 rw[yQ]
 refine zu (a:=some dx) (zc (zu (zc ?_)))
 refine wpAny_nsSet1 (s:={ s with toks:=s.toks+1 }) I.ns fun h' Le wg=>?_
 obtain⟨oD,esD,epD,ZS,ZT,ZU⟩:=Le.count (PySem.Within.cons name v hw)
 refine zc (wpAny_lookBehind ZS (by rw[ZT];exact pastItsLine_dict (zI ZU (by rw[zQ];lia))) ?_)
 exact zu (h _ ⟨(wg.2 _ (Ne.symm I.ne)).trans I.obj,Le,I.ne⟩ wg)
theorem Fx(X:K.In s.heap)(hm:makesIn K C=true)
  (hi:findIn K (.ref C) "__init__" = some (some (.ref f))) (hf:PySem.W.typeIn K (.ref f)=some (.type "function"))
  (h:codeAny (model prog w) (A.under (.builtin "type.__call__" ⟨.ref C::vs,kw⟩)) (.call (.ref f) ⟨.ref (s.heap.objs.size+1)::vs,kw⟩) (PySem.W.InitBack (s.heap.objs.size+1) R)
   { s with heap:=(s.heap.push emptyDict).push (instObj C s.heap.objs.size) }) :
  codeAny (model prog w) A (.call (.ref C) ⟨vs,kw⟩) R s:=by
 obtain⟨hh,g,d,t,os⟩:=s
 exact PySem.W.make_core (PySem.W.makes_of X hm) (PySem.W.looks_findIn X hi) (fun self=>PySem.W.bind_fn X self hf) (.inl rfl) h
end
def putF(f:Str)(v:V):List (Str×V)→List (Str×V)
 |[]=>[(f,v)]
 | (g,x)::r=>if g=f then (g,v)::r else (g,x)::putF f v r
theorem oi(f g:Str)(v:V):∀fs:List (Str×V),(putF f v fs).lookup g=if g=f then some v else fs.lookup g
 |[]=>by
  show List.lookup g [(f,v)]=_
  by_cases h:g=f
  ·have hb:(g == f)=true:=beq_iff_eq.mpr h
   simp only [List.lookup,hb,if_pos h]
  ·have hb:(g == f)=false:=beq_eq_false_iff_ne.mpr h
   simp only [List.lookup,hb,if_neg h]
 | (k,x)::r=>by
  have ih:=oi f g v r
  rw[show putF f v ((k,x)::r)=(if k=f then (k,v)::r else (k,x)::putF f v r) from rfl]
  by_cases hk:k=f
  ·rw[if_pos hk]
   by_cases h:g=k
   ·have hb:(g == k)=true:=beq_iff_eq.mpr h
    simp only [List.lookup,hb,if_pos (h.trans hk)]
   ·have hb:(g == k)=false:=beq_eq_false_iff_ne.mpr h
    simp only [List.lookup,hb,if_neg (fun e:g=f=>h (e.trans hk.symm))]
  ·rw[if_neg hk]
   by_cases h:g=k
   ·have hb:(g == k)=true:=beq_iff_eq.mpr h
    simp only [List.lookup,hb,if_neg (fun e:g=f=>hk (h.symm.trans e))]
   ·have hb:(g == k)=false:=beq_eq_false_iff_ne.mpr h
    simp only [List.lookup,hb]
    exact ih
theorem m8(f:Str)(v:V):∀fs:List (Str×V),f∈(putF f v fs).map (·.1)∧∀g,g∈fs.map (·.1)→g∈(putF f v fs).map (·.1)
 |[]=>⟨by simp [putF],fun g h=>by simp at h⟩
 | (k,x)::r=>by
  obtain⟨i1,i2⟩:=m8 f v r
  rw[show putF f v ((k,x)::r)=(if k=f then (k,v)::r else (k,x)::putF f v r) from rfl]
  by_cases hk:k=f
  ·rw[if_pos hk]
   subst hk
   exact⟨by simp,fun g h=>by simpa using h⟩
  ·rw[if_neg hk]
   refine⟨?_,fun g h=>?_⟩
   ·rw[zB]
    exact zh _ i1
   ·rw[zB] at h ⊢
    rcases zi.mp h with e|e
    ·exact zi.mpr (.inl e)
    ·exact zh _ (i2 g e)
theorem oj(f:Str)(v:V):∀fs:List (Str×V),(putF f v fs).length≤fs.length+1
 |[]=>by simp [putF]
 | (k,x)::r=>by
  have ih:=oj f v r
  rw[show putF f v ((k,x)::r)=(if k=f then (k,v)::r else (k,x)::putF f v r) from rfl]
  by_cases hk:k=f
  ·rw[if_pos hk,zQ,zQ];lia
  ·rw[if_neg hk,zQ,zQ];lia
theorem fC.some_of(r:fC (some v) o):∃u,o=some u∧RelV v u:=by
 cases o with
 |none=>exact (show False from r).elim
 |some u=>exact⟨u,rfl,r⟩
theorem fC.none_of(r:fC none o):o=none:=by
 cases o with
 |none=>rfl
 |some u=>exact (show False from r).elim
theorem Dy(r:RelV v u):handedIn u=true:=by
 cases v with
 |aw=>cases (show u=Value.none from r);rfl
 |bl b=>cases (show u=Value.bool b from r);rfl
 |int i=>obtain⟨t,e⟩:=(show ∃t,u=Value.int i t from r);cases e;rfl
 |str x=>obtain⟨t,e⟩:=(show ∃t,u=Value.str x t from r);cases e;rfl
 |BM b=>obtain⟨t,e⟩:=(show ∃t,u=Value.bytes b t from r);cases e;rfl
 |Mj b=>obtain⟨t,e⟩:=(show ∃t,u=Value.float b t from r);cases e;rfl
 |ref a=>cases (show u=Value.ref a from r);rfl
 |ty n=>cases (show u=Value.type n from r);rfl
section
variable{P:Program}{w:World}{H:Hp}{h:Heap}{a C dx:Addr}{fs:List (Str×V)}
theorem pJ(aM:kJ P w H h)(e:H a=some (.ins C dx fs)):∃mA,yW h a dx C mA∧(∀f,fC (fs.lookup f) (mA f))∧PySem.Within mA (fs.map (·.1))∧fs.length≤1000∧H dx=some (.own a):=by
 obtain⟨d,z,ne,ob,mA,n,r,q⟩:=(show bp P w H h a (.ins C dx fs) from aM a _ e)
 exact⟨mA,⟨ob,n,ne⟩,r,q,z,d⟩
end
structure p_(K:Frag)(C:Addr):Prop where
 pg:plainGet K C Str.empty=true
 hd:hasDictIn K C=true
 po:plainOver K C=true
 sa:findIn K (.ref C) "__setattr__" = some (some (.builtin "object.__setattr__"))
theorem p_.get{K:Frag}{C:Addr}(c:p_ K C)(f:Str):plainGet K C f=true:=c.pg
def iU(K:Frag)(C:Addr)(f:Str):Prop:=findIn K (.ref C) f=some none
theorem iU.Qo{K:Frag}{C:Addr}{f:Str}(n:iU K C f):takerIn K C f=some none:=by
 unfold takerIn
 rw[show findIn K (.ref C) f=some none from n]
 rfl
structure Con(K:Frag)(C:Addr)(f:Str)(v:V)(u:Value):Prop where
 at_:findIn K (.ref C) f=some (some u)
 rel:RelV v u
 get:specialIn K u "__get__" = some none
 cp:PySem.W.copiedNames.contains f=false
structure Meth(K:Frag)(C:Addr)(m:Str)(f:Addr):Prop where
 at_:findIn K (.ref C) m=some (some (.ref f))
 fn:isFn K (.ref f)=true
 kp:keepIn K (.ref f)=true
section
variable{X:Cx}{pins:List (Addr×Obj)}{σ:St}{H:Hp}{s:Shared}{a C dx:Addr}{fs:List (Str×V)}{f:Str}{v:V}{A:Around}{E:Value→Shared→Prop}
theorem yX(I:Inv X pins σ H s)(e:H a=some (.ins C dx fs))(c:p_ X.K C)(n:iU X.K C f)(l:fs.lookup f=some v)
  (h:∀u s',Inv X pins σ H s'→RelV v u→Q u s'):wpAny (model X.prog X.w) A (getAttr (.ref a) f b) Q E s:=by
 obtain⟨mA,O,r,_,_,_⟩:=pJ I.aM e
 obtain⟨u,hu,ru⟩:=fC.some_of (v:=v) (o:=mA f) (by rw[← l];exact r f)
 exact get_map I.oh O (c.get f) c.hd n hu (Dy ru) (h u _ (I.tok _) ru)
theorem qd(I:Inv X pins σ H s)(e:H a=some (.ins C dx fs))(c:p_ X.K C)(k:Meth X.K C m g)(l:fs.lookup m=none)
  (h:Q (.ref g,[.ref a]) s):wpAny (model X.prog X.w) A (getMethod (.ref a) m pl) Q E s:=by
 obtain⟨mA,O,r,_,_,_⟩:=pJ I.aM e
 have hn:mA m=none:=fC.none_of (by rw[← l];exact r m)
 exact Fw I.oh O (c.get m) k.at_ k.fn hn h
theorem yY(I:Inv X pins σ H s)(e:H a=some (.ins C dx fs))(c:p_ X.K C)(n:iU X.K C f)(hl:fs.length<1000)(ry:RelV y u)
  (h:∀s',Inv X pins σ (upd H a (.ins C dx (putF f y fs))) s'→Q () s'):wpAny (model X.prog X.w) A (setAttr (.ref a) f u) Q E s:=by
 obtain⟨mA,O,r,wi,_,ho⟩:=pJ I.aM e
 have hz:(fs.map (·.1)).length≤sizeLine:=by rw[zb,zZ];lia
 refine IL I.oh O c.sa c.po n.Qo c.hd wi hz fun h' O' sb=>h _ ?_
 have hd:∃o,h'.get? dx=some o:=by obtain⟨o,_,_,e',_⟩:=O'.ns;exact⟨o,e'⟩
 refine I.write (x:=a) (e:=dx) (by rw[e];exact True.intro) (.inr ho) (fun b q hb z=>(sb.2 b hb).trans z) hd ?_
 refine⟨by rw[ax O.ne];exact ho,?_,O.ne,O'.obj,_,O'.ns,fun g=>?_,fun g hg=>?_⟩
 ·have:=oj f y fs;lia
 ·show fC ((putF f y fs).lookup g) (if g=f then some u else mA g)
  rw[oi]
  by_cases q:g=f
  ·rw[if_pos q,if_pos q];exact ry
  ·rw[if_neg q,if_neg q];exact r g
 ·by_cases q:g=f
  ·rw[q];exact (m8 f y fs).1
  ·refine (m8 f y fs).2 g (wi g fun z=>hg ?_)
   show (if g=f then some u else mA g)=none
   rw[if_neg q];exact z
theorem Inv.made(I:Inv X pins σ H s):Inv X pins σ (upd (upd H s.heap.objs.size (.own (s.heap.objs.size+1))) (s.heap.objs.size+1) (.ins C s.heap.objs.size []))
  { s with heap:=(s.heap.push emptyDict).push (instObj C s.heap.objs.size) }:=by
 have e1:(s.heap.push emptyDict).get? s.heap.objs.size=some emptyDict:=zj s.heap rfl
 have e2:((s.heap.push emptyDict).push (instObj C s.heap.objs.size)).get? (s.heap.objs.size+1)=some (instObj C s.heap.objs.size):=by
  have:=zj (s.heap.push emptyDict) (o:=instObj C s.heap.objs.size) rfl
  rwa [zU] at this
 have e3:(s.heap.push emptyDict).Ns s.heap.objs.size (fun _=>none):=⟨emptyDict,#[],_,e1,rfl,(fun e he=>absurd he (by simp)),fun _=>rfl⟩
 have I1:=I.laid (a:=s.heap.objs.size) (o:=.own (s.heap.objs.size+1)) (h':=s.heap.push emptyDict) (t':=s.toks) (fun b u q=>za _ q) (zm _) ⟨_,e1⟩
 refine I1.laid (a:=s.heap.objs.size+1) (o:=.ins C s.heap.objs.size []) (t':=s.toks) (fun b u q=>za _ q) (Nat.le_of_eq (zU _ _)) ?_
 have ne:s.heap.objs.size≠s.heap.objs.size+1:=zx (yE _)
 refine⟨by rw[ax ne,aF],zS _,ne,e2,fun _=>none,(Heap.Ns1.of_empty e3).at fun o q=>za _ q,fun _=>True.intro,fun y hy=>absurd rfl hy⟩
theorem IM(hb:attributeBase e f env (eval e env)=eval e env)
  (h:wpAny (model prog w) A (eval e env) (fun o aZ=>wpAny (model prog w) A (getAttr o f true) Q E aZ) E s):wpAny (model prog w) A (eval (.Attribute e f pos) env) Q E s :=
 Attribute_any_ h (by rw[arm_eval_Attribute,hb])
end
def Vi(K:Frag)(ta:TE)(f:Str):TE:=fun σ H Q=>ta σ H fun x H1=>∃a C dx fs v,x=.ref a∧H1 a=some (.ins C dx fs)∧p_ K C∧iU K C f∧fs.lookup f=some v∧Q v H1
def Vj(K:Frag)(ta tv:TE)(f:Str):TS:=fun D σ H=>tv σ H fun y H1=>ta σ H1 fun x H2=>∃a C dx fs,x=.ref a∧H2 a=some (.ins C dx fs)∧p_ K C∧iU K C f∧fs.length<1000 ∧
 D.nx σ (upd H2 a (.ins C dx (putF f y fs)))
section
variable{X:Cx}{o e value:Expr}{f:Str}{pos pos':Pos}{ta tv:TE}
theorem MV(he:PE X e ta)(hb:attributeBase e f X.env (eval e X.env)=eval e X.env):PE X (.Attribute e f pos) (Vi X.K ta f):=by
 intro pins s σ H Q I h
 refine IM hb (bq (he pins s σ H _ I h) fun u s1 ⟨x,H1,I1,rx,a,C,dx,fs,v,ex,ea,c,n,l,q⟩=>?_)
 subst ex
 obtain rfl:u=Value.ref a:=rx
 exact yX I1 ea c n l fun u' s2 I2 ru=>⟨v,H1,I2,ru,q⟩
theorem MW(ha:PE X o ta)(hv:PE X value tv)(hs:swapsWith value (some (.Attribute o f pos')) pos.line X.env=pure false):PS X (.Assign [.Attribute o f pos'] value pos) (Vj X.K ta tv f):=by
 intro pins s σ H D I h
 refine plainObj_wpAny_Assign_Attribute (bq (hv pins s σ H _ I h) fun u s1 ⟨y,H1,I1,ry,q⟩=>bq (ha pins s1 σ H1 _ I1 q) fun ov s2 ⟨x,H2,I2,rx,a,C,dx,fs,ex,ea,c,n,l,q2⟩=>?_) hs
 subst ex
 obtain rfl:ov=Value.ref a:=rx
 exact yY I2 ea c n l ry fun s3 I3=>⟨σ,_,I3,q2⟩
end
section
variable{X:Cx}{pins:List (Addr×Obj)}{σ:St}{H:Hp}{s:Shared}{A:Around}{E Q:Value→Shared→Prop}{c:Value}{b:Bool}
inductive m9 (K:Frag) (H:Hp):V→Value→Prop where
 |aw:m9 K H .aw (.type "NoneType")
 |bl (x:Bool):m9 K H (.bl x) (.type "bool")
 |int (i:Int):m9 K H (.int i) (.type "int")
 |str (x:Str):m9 K H (.str x) (.type "str")
 |Mj (x:UInt64):m9 K H (.Mj x) (.type "float")
 |lst {a:Addr}{xs:List V} (e:H a=some (.lst xs)):m9 K H (.ref a) (.type "list")
 |kI {a:Addr}{o:Obj}{xs:List V} (e:H a=some (.kI o (.lst xs))):m9 K H (.ref a) (.type "list")
 |tup {a:Addr}{xs:List V} (e:H a=some (.tup xs)):m9 K H (.ref a) (.type "tuple")
 |dK {a:Addr}{kvs:List (Key×V)} (e:H a=some (.dK kvs)):m9 K H (.ref a) (.type "dict")
 |dT {a:Addr}{kvs:List (List Key×V)} (e:H a=some (.dT kvs)):m9 K H (.ref a) (.type "dict")
 |ins {a C dx:Addr}{fs:List (Str×V)} (e:H a=some (.ins C dx fs)) (cl:p_ K C) (ha:findIn K (.ref C) "__class__" = some (some (.builtin "object.__class__")))
   (hn:specialIn K (.builtin "object.__class__") "__get__" = some (some (.builtin "getset_descriptor.__get__"))) (Yq:PySem.W.takesIn K (.builtin "object.__class__")=some true)
   (hm:mroIn K C (.type "object")=some true):m9 K H (.ref a) (.ref C)
theorem Dz{u t:Value}(I:Inv X pins σ H s)(rx:RelV x u)(ty:m9 X.K H x t)(e:kitOne X.K t c=some b)(h:∀tk,Q (.bool b) { s with toks:=tk }) :
  wpAny (model X.prog X.w) A (call (.builtin "isinstance") [u,c]) Q E s:=by
 cases ty with
 |aw=>cases (show u=Value.none from rx);exact kia_one PySem.W.kitx_none I.oh True.intro e (fun z=>nomatch z) h
 |bl y=>cases (show u=Value.bool y from rx);exact kia_one PySem.W.kitx_bool I.oh True.intro e (fun z=>nomatch z) h
 |int i=>obtain⟨t,q⟩:=(show ∃t,u=Value.int i t from rx);cases q;exact kia_one PySem.W.kitx_int I.oh True.intro e (fun z=>nomatch z) h
 |str y=>obtain⟨t,q⟩:=(show ∃t,u=Value.str y t from rx);cases q;exact kia_one PySem.W.kitx_str I.oh True.intro e (fun z=>nomatch z) h
 |Mj y=>obtain⟨t,q⟩:=(show ∃t,u=Value.float y t from rx);cases q;exact kia_one PySem.W.kitx_float I.oh True.intro e (fun z=>nomatch z) h
 |@lst a xs ea =>
  cases (show u=Value.ref a from rx)
  obtain⟨_,_,n,_,h1⟩:=(show bp X.prog X.w H s.heap a (.lst xs) from I.aM a _ ea)
  exact kia_one kitx_list I.oh ⟨_,h1,rfl⟩ e (fun z=>nomatch z) h
 |@kI a ob xs ea =>
  cases (show u=Value.ref a from rx)
  obtain⟨_,_,_,n,_,h1⟩:=(show bp X.prog X.w H s.heap a (.kI ob (.lst xs)) from I.aM a _ ea)
  exact kia_one kitx_list I.oh ⟨_,h1,rfl⟩ e (fun z=>nomatch z) h
 |@tup a xs ea =>
  cases (show u=Value.ref a from rx)
  obtain⟨_,_,_,p⟩:=(show bp X.prog X.w H s.heap a (.tup xs) from I.aM a _ ea)
  obtain⟨o,h1,h2,_⟩:=p
  exact kia_one PySem.W.kitx_tuple I.oh ⟨o,h1,h2⟩ e (fun z=>nomatch z) h
 |@dK a kvs ea =>
  cases (show u=Value.ref a from rx)
  obtain⟨_,_,vs,_,p⟩:=(show bp X.prog X.w H s.heap a (.dK kvs) from I.aM a _ ea)
  obtain⟨o,es,ep,h1,h2,_⟩:=p
  exact kia_one PySem.W.kitx_dict I.oh ⟨o,h1,h2.1⟩ e (fun z=>nomatch z) h
 |@dT a kvs ea=>exact False.elim (show bp X.prog X.w H s.heap a (.dT kvs) from I.aM a _ ea)
 |@ins a C dx fs ea cl ha hn Yq hm =>
  cases (show u=Value.ref a from rx)
  obtain⟨mA,O,_⟩:=pJ I.aM ea
  obtain⟨od,J,_⟩:=O.look
  exact kia_one (PySem.W.kitx_own (cl.get _) cl.hd ha hn Yq hm) I.oh J e (fun z=>nomatch z) h
end
structure bQ(k:Nat)(A:Around):Prop where
 hd:A.handled=none
 dp:A.depth+3 * k+5<recursionLimit
 un:A.units+16 * k+200<cLine
theorem bQ.mono(r:bQ k A)(h:j≤k):bQ j A:=⟨r.hd,by have:=r.dp;lia,by have:=r.un;lia⟩
theorem bQ.deeper(r:bQ (k+1) A)(env:Env):bQ k (A.deeper env) :=
 ⟨r.hd,by have:=r.dp;show A.depth+1+3 * k+5<_;lia,by have:=r.un;show A.units+3+16 * k+200<_;lia⟩
theorem bQ.in1(r:bQ (k+1) A):bQ k A.in1 :=
 ⟨r.hd,by have:=r.dp;show A.depth+3 * k+5<_;lia,by have:=r.un;show A.units+1+16 * k+200<_;lia⟩
theorem yZ{A:Around}{C:Addr}{us:List Value}{kw:List (Str×Value)} : (A.under (.builtin "type.__call__" ⟨.ref C::us,kw⟩)).depth=A.depth+1:=by
 first|rfl|simp [Around.under,Code.weight,Code.isCreation,Code.isGuard,Code.isCaller,Code.frames,Code.isFrame,guardIds]
theorem y0{A:Around}{C:Addr}{us:List Value}{kw:List (Str×Value)} : (A.under (.builtin "type.__call__" ⟨.ref C::us,kw⟩)).units=A.units+1:=by
 first|rfl|simp [Around.under,Code.cUnits,Code.frames,Code.isFrame]
theorem bQ.make(r:bQ (k+1) A)(C:Addr)(us:List Value)(kw:List (Str×Value)):bQ k (A.under (.builtin "type.__call__" ⟨.ref C::us,kw⟩)) :=
 ⟨r.hd,by have:=r.dp;rw[yZ];lia,by have:=r.un;rw[y0];lia⟩
theorem bQ.depth(r:bQ k A):A.depth<recursionLimit:=by have:=r.dp;lia
theorem bQ.units(r:bQ k A):A.units+64<cLine:=by have:=r.un;lia
def Vl:TA:=fun _ H Q=>Q [] H
def Lg(ta:TE)(tr:TA):TA:=fun σ H Q=>ta σ H fun x H1=>tr σ H1 fun xs H2=>Q (x::xs) H2
section
variable{X:Cx}{e:Expr}{es:List Expr}{te:TE}{t:TA}{pos:Pos}
theorem y1:PA X [] Vl:=fun _ _ _ _ H Q I h=>Calls.spliced_nil ⟨[],H,I,.nil,h⟩
theorem IP(ha:PE X e te)(hr:PA X es t)(hs:starEach (e::es) X.env=(false,eval e X.env)::starEach es X.env:=by rfl):PA X (e::es) (Lg te t):=by
 intro pos pins s σ H Q I h
 rw[hs]
 show wpAny _ _ (spliced ((false,eval e X.env)::backTo pos (starEach es X.env))) _ _ s
 refine yy (bq (ha pins s σ H _ I h) fun u s1 ⟨x,H1,I1,r1,q1⟩=>?_)
 exact bq (hr pos pins s1 σ H1 _ I1 q1) <| by rintro us s2 ⟨xs,H2,I2,r2,q2⟩;exact⟨x::xs,H2,I2,.cons r1 r2,q2⟩
def Vm(t:TA):TE:=fun σ H Q=>t σ H fun xs H1=>xs.length≤sizeLine∧∀p,H1 p=none→Q (.ref p) (upd H1 p (.tup xs))
def Vn(t:TA):TE:=fun σ H Q=>t σ H fun xs H1=>xs.length≤sizeLine∧∀p,H1 p=none→Q (.ref p) (upd H1 p (.lst xs))
theorem MX{x1}(h:PA X es t):PE X (.Tuple es x1 pos) (Vm t):=by
 intro pins s σ H Q I hq
 refine wpAny_Tuple_spliced (bq (h pos pins s σ H _ I hq) fun us s1 ⟨xs,H1,I1,r,z,q⟩=>⟨by rw[← r.length];exact z,?_⟩)
 have hf:H1 s1.heap.objs.size=none:=I1.aM.fresh (zm _)
 refine⟨.ref s1.heap.objs.size,upd H1 s1.heap.objs.size (.tup xs),I1.laid (t':=s1.toks) (fun b u e=>za _ e) (zm _) ?_,rfl,q _ hf⟩
 exact⟨z,us,r,⟨_,zj _ rfl,rfl,rfl,_,rfl⟩⟩
theorem MY(h:PA X es t):PE X (.List es pos) (Vn t):=by
 intro pins s σ H Q I hq
 refine wpAny_List_spliced (bq (h pos pins s σ H _ I hq) fun us s1 ⟨xs,H1,I1,r,z,q⟩=>⟨by rw[← r.length];exact z,?_⟩)
 have hf:H1 s1.heap.objs.size=none:=I1.aM.fresh (zm _)
 refine⟨.ref s1.heap.objs.size,upd H1 s1.heap.objs.size (.lst xs),I1.laid (t':=s1.toks) (fun b u e=>za _ e) (zm _) ?_,rfl,q _ hf⟩
 exact⟨z,us,0,r,zj _ rfl⟩
end
abbrev Sp:=List V→Hp→VK→XK→Prop
abbrev y3:=List Env→Hp→Shared→XK→Value→Shared→Prop
structure wj(P:Program)(w:World)(K:Frag)(mg:Str→Option Value)(base:Heap)(A:Around)(outer:List Env)(s:Shared)(H:Hp):Prop where
 frames:A.frames=some outer
 mod:Mod K mg base
 bs:∀b o,base.get? b=some o→s.heap.get? b=some o∧H b=none
 Iw:base.objs.size≤s.heap.objs.size
 oW:s.heap.FunFrames base outer
 Mn:∀b∈mZ outer,H b=none
 aM:kJ P w H s.heap
 bare:AllBare s.gens
def CE(outer:List Env)(P:Program)(w:World)(H:Hp)(s:Shared)(Q:VK)(u:Value)(s':Shared):Prop :=
 ∃v H',s'.os=s.os∧AllBare s'.gens∧Un (mZ outer) [] H H' s.heap s'.heap∧kJ P w H' s'.heap∧RelV v u∧Q v H'
def CR(CX:y3)(outer:List Env)(P:Program)(w:World)(H:Hp)(s:Shared)(Q:VK)(E:XK)(r:Result)(s':Shared):Prop :=
 match r with
 |.ok (.ret u)=>CE outer P w H s Q u s'
 |.ok _=>False
 |.error e=>CX outer H s E e s'
structure bG(P:Program)(w:World)(K:Frag)(mg:Str→Option Value)(base:Heap)(CX:y3)(k:Nat)(f:Addr)(fd:FuncData)(ps:List Str)(sp:Sp):Prop where
 len:∀vs H Q E,sp vs H Q E→vs.length=ps.length
 run:∀(A:Around) (outer:List Env) (s:Shared) (H:Hp) (args:Args) (us:List Value) (vs:List V) (Q:VK) (E:XK),bQ k A→wj P w K mg base A outer s H→BindsTo s fd args (ps.zip us)→Vals vs us→sp vs H Q E →
  codeAny (model P w) A (.call (.ref f) args) (CR CX outer P w H s Q E) s
theorem bG.mono{P:Program}{w:World}{K:Frag}{mg:Str→Option Value}{base:Heap}{CX:y3}{j k:Nat}{f:Addr}{fd:FuncData}{ps:List Str}{sp:Sp}(F:bG P w K mg base CX j f fd ps sp)(h:j≤k) :
  bG P w K mg base CX k f fd ps sp:=⟨F.len,fun A outer s H args us vs Q E hr=>F.run A outer s H args us vs Q E (hr.mono h)⟩
theorem bG.imp{P:Program}{w:World}{K:Frag}{mg:Str→Option Value}{base:Heap}{CX:y3}{k:Nat}{f:Addr}{fd:FuncData}{ps:List Str}{sp TQ:Sp}(F:bG P w K mg base CX k f fd ps sp)
  (h:∀vs H Q E,TQ vs H Q E→sp vs H Q E):bG P w K mg base CX k f fd ps TQ :=
 ⟨fun vs H Q E q=>F.len vs H Q E (h _ _ _ _ q),fun A outer s H args us vs Q E hr he hb hv hs=>F.run A outer s H args us vs Q E hr he hb hv (h _ _ _ _ hs)⟩
theorem wj.make{P:Program}{w:World}{K:Frag}{mg:Str→Option Value}{base:Heap}{A:Around}{outer:List Env}{s:Shared}{H:Hp}(e:wj P w K mg base A outer s H)(C:Addr)(us:List Value)(kw:List (Str×Value)) :
  wj P w K mg base (A.under (.builtin "type.__call__" ⟨.ref C::us,kw⟩)) outer s H:=⟨by first|exact e.frames|(simpa [Around.under,Code.envs,Code.isFrame,pushEnvs] using e.frames),e.mod,e.bs,e.Iw,e.oW,e.Mn,e.aM,e.bare⟩
section
variable{X:Cx}{pins:List (Addr×Obj)}{σ:St}{H:Hp}{s s':Shared}
theorem Inv.Qp(I:Inv X pins σ H s):wj X.prog X.w X.K X.mg X.base X.A X.stack s H :=
 ⟨I.ok.frames,I.ok.mod,I.bs,zI I.ok.Iw I.sz,I.stack,I.pF,I.aM,I.bare⟩
theorem Inv.after(I:Inv X pins σ H s)(h:CE X.stack X.prog X.w H s Q u s'):EP X pins σ Q u s':=by
 obtain⟨v,H',os,bare,un,aM,r,q⟩:=h
 obtain⟨hh,g,d,t,Qq⟩:=s'
 obtain rfl:Qq=s.os:=os
 exact⟨v,H',I.call (h':=hh) (g':=g) (d':=d) (t':=t) (ch:=[]) un aM bare (fun b z=>absurd z (by simp)),r,q⟩
end
def Binds(K:Frag)(fd:FuncData)(ps:List Str)(ds:List Value):Prop :=
 ∀(s:Shared) (us:List Value),K.In s.heap→(us++ds).length=ps.length→BindsTo s fd ⟨us,[]⟩ (ps.zip (us++ds))
theorem Binds.all{K:Frag}{fd:FuncData}{ps:List Str}(h:∀us:List Value,us.length=ps.length→bindArgs fd ⟨us,[]⟩=pure (ps.zip us)):Binds K fd ps []:=fun s us _ hl=>by
 rw[List.append_nil] at hl ⊢
 exact .of_eq (h us hl)
def Passes(CX:y3)(X:Cx)(E:XK):Prop:=∀(pins:List (Addr×Obj)) (σ:St) (H:Hp) (s:Shared) (e:Value) (s':Shared),Inv X pins σ H s→CX X.stack H s E e s'→X.xe e s'
section
variable{f C:Addr}
structure Mk(K:Frag)(C f:Addr):Prop where
 makes:makesIn K C=true
 init:findIn K (.ref C) "__init__" = some (some (.ref f))
 fn:isFn K (.ref f)=true
 kp:keepIn K (.ref C)=true
end
section
variable{fd:FuncData}{ps ks:List Str}
structure Vo(K:Frag)(fd:FuncData)(ps ks:List Str)(g:List Value→List Value→List Value)(gV:List V→List V→List V):Prop where
 to:∀(s:Shared) (us ws:List Value),K.In s.heap→(g us ws).length=ps.length→BindsTo s fd ⟨us,ks.zip ws⟩ (ps.zip (g us ws))
 rel:∀{vs:List V}{us:List Value}{zs:List V}{ws:List Value},Vals vs us→Vals zs ws→Vals (gV vs zs) (g us ws)
variable{g:List Value→List Value→List Value}{gV:List V→List V→List V}
end
structure fJ(N P:List Str)(sc:Scope):Prop where
 kind:sc.kind=.function
 co:sc.isCoroutine=false
 gen:sc.isGenerator=false
 nd:N.Nodup
 pre:N.take P.length=P
 par:∀x∈P,sc.names.lookup x=some .local∨sc.names.lookup x=some .cell
 MZ:∀y∈sc.names,y.2≠.free
theorem s9{kindOf:Str→Option NameKind}{x:Str} : ∀{binds:List (Str×Value)}{m:Str→Option Value},(∀v,(x,v)∉binds)→bindL kindOf binds m x=m x
 |[],_,_=>rfl
 | (n,v)::r,m,h=>by
  unfold bindL
  rw[s9 fun w hw=>h w (zh _ hw)]
  split
  ·have:x≠n:=by rintro rfl;exact h v zo
   simp [this]
  ·rfl
theorem s_{kindOf:Str→Option NameKind}{x:Str} : ∀{binds:List (Str×Value)}{m:Str→Option Value},(∀v,(x,v)∉binds)→bindC kindOf binds m x=m x
 |[],_,_=>rfl
 | (n,v)::r,m,h=>by
  unfold bindC
  rw[s_ fun w hw=>h w (zh _ hw)]
  split
  ·rfl
  ·have:x≠n:=by rintro rfl;exact h v zo
   simp [this]
theorem tj{kindOf:Str→Option NameKind}{x:Str}{v:Value} : ∀{P:List Str}{vs:List Value}{i:Nat}{m:Str→Option Value},P.Nodup→P[i]?=some x→vs[i]?=some v→kindOf x=some .local →
  bindL kindOf (P.zip vs) m x=some v
 |[],_,_,_,_,h,_,_=>by simp at h
 |_::_,[],_,_,_,_,h,_=>by simp at h
 |p::P,w::vs,0,m,nd,h1,h2,hk=>by
  simp at h1 h2;subst h1;subst h2
  show bindL kindOf ((p,w)::P.zip vs) m p=_
  unfold bindL
  rw[s9 fun v hv=>(yo.mp nd).1 (List.of_mem_zip hv).1,if_pos hk]
  simp
 |p::P,w::vs,i+1,m,nd,h1,h2,hk=>by
  show bindL kindOf ((p,w)::P.zip vs) m x=_
  unfold bindL
  exact tj (i:=i) (yo.mp nd).2 (by simpa using h1) (by simpa using h2) hk
theorem tm{kindOf:Str→Option NameKind}{x:Str}{v:Value} : ∀{P:List Str}{vs:List Value}{i:Nat}{m:Str→Option Value},P.Nodup→P[i]?=some x→vs[i]?=some v→kindOf x≠some .local →
  bindC kindOf (P.zip vs) m x=some v
 |[],_,_,_,_,h,_,_=>by simp at h
 |_::_,[],_,_,_,_,h,_=>by simp at h
 |p::P,w::vs,0,m,nd,h1,h2,hk=>by
  simp at h1 h2;subst h1;subst h2
  show bindC kindOf ((p,w)::P.zip vs) m p=_
  unfold bindC
  rw[s_ fun v hv=>(yo.mp nd).1 (List.of_mem_zip hv).1,if_neg hk]
  simp
 |p::P,w::vs,i+1,m,nd,h1,h2,hk=>by
  show bindC kindOf ((p,w)::P.zip vs) m x=_
  unfold bindC
  exact tm (i:=i) (yo.mp nd).2 (by simpa using h1) (by simpa using h2) hk
def start(N:List Str)(vs:List V):St:=vs.map some++List.replicate (N.length - vs.length) none
def jR(CX:y3)(P:Program)(w:World)(K:Frag)(mg:Str→Option Value)(base:Heap)(N:List Str)(qual:Str)(scope:Scope)(f:Addr)(cd:Value)(A:Around)(outer:List Env)(s:Shared)(H:Hp)(E:XK):Cx where
 prog:=P
 w:=w
 K:=K
 mg:=mg
 base:=base
 A:=A.deeper (envOfC qual scope s.heap.objs.size f cd)
 N:=N
 cP:=s
 um:=H
 env:=envOfC qual scope s.heap.objs.size f cd
 outer:=outer
 stack:=envOfC qual scope s.heap.objs.size f cd::outer
 ex:=[]
 calm:=true
 fn:=fun _=>true
 pn:=[]
 xe:=fun e s'=>wpAny (model P w) (A.deeper (envOfC qual scope s.heap.objs.size f cd)) (leaving (envOfC qual scope s.heap.objs.size f cd) e) (fun _ y4=>CX outer H s E e y4) (fun e' y4=>CX outer H s E e' y4) s'
theorem wk{sc:Scope}{n:Nat}{x:Str}(h:sc.names.lookup x=some .cell):∃c,(cellsFrom n sc.names []).lookup x=some c:=by
 have q:=PySem.W.cellsFrom_some sc.names n [] (.inl h)
 exact Option.isSome_iff_exists.mp q
theorem DB{CX:y3}{P:Program}{w:World}{K:Frag}{mg:Str→Option Value}{base:Heap}{N ps:List Str}{qual:Str}{scope:Scope}{f:Addr}{cd:Value}{A:Around}{outer:List Env}{s s1:Shared}{H:Hp}{E:XK}{us:List Value}{vs:List V}
  (S:fJ N ps scope) (hd:A.handled=none) (e0:wj P w K mg base A outer s H) (hl:vs.length=ps.length) (r:Vals vs us)
  (x:InCallC s s.heap.objs.size (bindL (envOfC qual scope s.heap.objs.size f cd).kindOf (ps.zip us) fun _=>none) (cellsFrom (s.heap.objs.size+1) scope.names []) (bindC (envOfC qual scope s.heap.objs.size f cd).kindOf (ps.zip us) fun _=>none) s1) :
  Inv (jR CX P w K mg base N qual scope f cd A outer s H E) [] (start N vs) H s1:=by
 have dD:ps.length≤N.length:=by have:=congrArg List.length S.pre;rw[yq] at this;lia
 obtain⟨h1,tk,rfl,hk⟩:=x.done
 have IQ:∀b:Addr,b∉(jR CX P w K mg base N qual scope f cd A outer s H E).ex:=fun b z=>absurd (show b∈([]:List Addr) from z) (by simp)
 refine⟨⟨e0.mod,S.kind,rfl,rfl,zm _,fun y z c h1 h2=>?_,fun y hy=>?_,fun y c _ h=>?_,fun _=>hd,Around.frames_deeper e0.frames,.inr ⟨rfl,rfl⟩,fun b z=>absurd z (IQ b),e0.bs,e0.Iw,fun b _ _=>IQ b,fun b z=>absurd z (IQ b),e0.oW,e0.Mn⟩,
  rfl,e0.bare,Un.kept hk,⟨_,x.toInCall.ns,fun i y v h1 h2 h3=>?_⟩,fun y c h=>⟨_,x.cell y c h⟩,e0.aM.fresh (zm _),fun y c h=>?_,fun p hp=>absurd (show p∈([]:List (Addr×Obj)) from hp) (by simp),e0.aM.kept hk,?_⟩
 ·exact name_of_addr x.apart (yb h1) (yb h2)
 ·have hy:scope.names.lookup y=some .cell∨scope.names.lookup y=some .free:=hy
  rcases hy with hy|hy
  ·exact wk hy
  ·exact absurd rfl (S.MZ _ (yb hy))
 ·exact yB (x.above y c (yb h))
 ·have hi:i<vs.length:=by
   unfold start at h2
   by_cases hi:i<vs.length
   ·exact hi
   ·rw[List.getElem?_append_right (by simpa using hi)] at h2
    rw[List.getElem?_replicate] at h2
    split at h2 <;> cases h2
  have ha:vs[i]?=some v:=by
   unfold start at h2
   rw[List.getElem?_append_left (by simpa using hi),zp] at h2
   cases e:vs[i]? with
   |none=>rw[e] at h2;cases h2
   |some a=>rw[e] at h2;cases h2;rfl
  obtain⟨u,hu,rv⟩:=r.get ha
  have hp:ps[i]?=some y:=by
   rw[← S.pre,List.getElem?_take_of_lt (by lia)];exact h1
  have Yr:ps.Nodup:=by rw[← S.pre];exact S.nd.sublist (List.take_sublist _ _)
  refine⟨u,rv,?_⟩
  rcases S.par y (zC hp) with k|k
  ·exact .inl ⟨k,tj Yr hp hu k⟩
  ·obtain⟨c,e⟩:=wk (n:=s.heap.objs.size+1) k
   refine .inr ⟨.inl k,c,e,?_⟩
   have q:=x.cell y c e
   rw[tm Yr hp hu (by show scope.names.lookup y≠_;rw[k];decide)] at q
   exact q
 ·exact e0.aM.fresh (yB (x.above y c (yb h)))
 ·unfold start
  show _=N.length
  rw[zE,zb,List.length_replicate]
  lia
theorem Lh{CX:y3}{P:Program}{w:World}{K:Frag}{mg:Str→Option Value}{base:Heap}{k:Nat}{f:Addr}{name qual:Str}{params:Arguments}{body:List Stmt}{scope:Scope}{dV kV doc pm fK ct oc:Value}{an od:Option Addr}
  {M0:Array (Option Value)}{N ps:List Str}{sp:Sp} (lk:K.lookup f=some ⟨oc,od,.func (fnOf name qual params body scope dV kV doc pm an fK ct),M0⟩) (rO:codeIn K fK qual=true) (S:fJ N ps scope)
  (len:∀vs H Q E,sp vs H Q E→vs.length=ps.length)
  (lP:∀(A:Around) (outer:List Env) (s:Shared) (H:Hp) (vs:List V) (Q:VK) (E:XK),bQ k (A.deeper (envOfC qual scope s.heap.objs.size f fK))→sp vs H Q E →
   ∃t,BN (jR CX P w K mg base N qual scope f fK A outer s H E) body t∧t { nx:=fun _ H'=>Q .aw H',rt:=Q } (start N vs) H) :
  bG P w K mg base CX (k+1) f (fnOf name qual params body scope dV kV doc pm an fK ct) ps sp:=by
 refine⟨len,fun A outer s H args us vs Q E hr e0 hb r O_=>?_⟩
 have hl:=len _ _ _ _ O_
 have KX:K.In s.heap:=e0.mod.O7.keeps fun b o e=>(e0.bs b o e).1
 have lim:s.heap.NoLimit:=e0.mod.nolimit.keeps fun b o e=>(e0.bs b o e).1
 have Qr:∀y∈ps.zip us,scope.names.lookup y.1=some .local∨(scope.names.lookup y.1=some .cell∧((cellsFrom (s.heap.objs.size+1) scope.names []).lookup y.1).isSome=true):=by
  rintro⟨n,v⟩ hy
  rcases S.par n (List.of_mem_zip hy).1 with q|q
  ·exact .inl q
  ·exact .inr ⟨q,PySem.W.cellsFrom_some _ _ _ (.inl q)⟩
 refine codeAny_call_function hr.depth (KX _ _ lk) rfl S.co S.gen rfl (PySem.W.codeRec_of KX rO) (hb _ _ _ _ ?_)
 refine wpAny_newFunctionEnv_cells S.kind Qr fun env he s1 x=>?_
 subst he
 refine⟨lim.keeps x.toInCall.keep,codeAny_func ?_⟩
 obtain⟨t,ht,hq⟩:=lP A outer s H vs Q E (hr.deeper _) O_
 have I:Inv (jR CX P w K mg base N qual scope f fK A outer s H E) [] (start N vs) H s1:=DB S hr.hd e0 hl r x
 refine yz (ht [] s1 (start N vs) H _ I hq) (fun fl s' hs=>?_) fun e s' hs=>hs
 have fin:∀{aG:St}{H':Hp}{v:V}{u:Value},Inv (jR CX P w K mg base N qual scope f fK A outer s H E) [] aG H' s'→RelV v u→Q v H'→CE outer P w H s Q u s' :=
  fun {aG H' v u} J rv q=>⟨v,H',J.os,J.bare,J.base,J.aM,rv,q⟩
 cases fl with
 |ret u =>
  obtain⟨v,aG,H',J,rv,q⟩:=hs
  exact fin J rv q
 |next =>
  obtain⟨aG,H',J,q⟩:=hs
  exact fin (v:=V.aw) (u:=Value.none) J rfl q
 |brk =>
  obtain⟨_,_,_,q⟩:=hs
  exact False.elim q
 |cont =>
  obtain⟨_,_,_,q⟩:=hs
  exact False.elim q
section
variable{X:Cx}{x:Str}{p pos:Pos}{e:Expr}{es:List Expr}{t:TA}{id T:String}{r:List V→Hp→VK→Prop}
def Vp(r:List V→Hp→VK→Prop)(t:TA):TE:=fun σ H Q=>t σ H fun vs H1=>r vs H1 Q
theorem wm(hc:eI X (.builtin id) r)(hg:Gl X x)(hm:X.mg x=none)(hv:bootBuiltins x=some (.builtin id))(ha:PA X (e::es) t)(hn:x ≠ "__name__" := by decide)(oZ:(x == ("__debug__" : Str))=false:=by decide)
  (he:starEach (e::es) X.env=(false,eval e X.env)::starEach es X.env:=by rfl) (dD:(backTo pos (starEach es X.env)).any (·.1)=false:=by rfl):PE X (.Call (.Name x p) (e::es) [] pos) (Vp r t):=by
 intro pins s σ H Q I h
 refine wpAny_Call_Name_kw (fW I hg hm hv ?_ hn oZ)
 exact PyProof.Rows.callWith_builtin1 (bq (ha pos pins s σ H _ I h) <| by rintro us s1 ⟨vs,H1,I1,r1,q1⟩;exact hc pins s1 σ H1 vs us Q I1 r1 q1) he dD
theorem tq(hc:eI X (.type T) r)(hg:Gl X x)(hm:X.mg x=none)(hv:bootBuiltins x=some (.type T))(ha:PA X (e::es) t)(hn:x ≠ "__name__" := by decide)(oZ:(x == ("__debug__" : Str))=false:=by decide)
  (he:starEach (e::es) X.env=(false,eval e X.env)::starEach es X.env:=by rfl) (dD:(backTo pos (starEach es X.env)).any (·.1)=false:=by rfl):PE X (.Call (.Name x p) (e::es) [] pos) (Vp r t):=by
 intro pins s σ H Q I h
 refine wpAny_Call_Name_kw (fW I hg hm hv ?_ hn oZ)
 exact PyProof.Rows.callWith_type1 (bq (ha pos pins s σ H _ I h) <| by rintro us s1 ⟨vs,H1,I1,r1,q1⟩;exact hc pins s1 σ H1 vs us Q I1 r1 q1) he dD
end
end L2
namespace HT
open PySem PyProof.Rows
section
def sIx(n d:Nat):Option Int→Nat
 |none=>d
 |some v=>if v<0 then (v+(n:Int)).toNat else min v.toNat n
theorem sIx_nat(n d k:Nat):sIx n d (some (k:Int))=min k n:=by
 show (if (k:Int)<0 then ((k:Int)+(n:Int)).toNat else min (k:Int).toNat n)=min k n
 rw[if_neg (by lia),Int.toNat_natCast]
end
end HT
namespace L2
open PySem PySem.Spec PyProof.Rows
abbrev TO:=St→Hp→(Option Int→Hp→Prop)→Prop
def PO(X:Cx)(e:Option Expr)(t:TO):Prop :=
 ∀(pins:List (Addr×Obj)) (s:Shared) (σ:St) (H:Hp) (Q:Option Int→Hp→Prop),Inv X pins σ H s→t σ H Q →
  wpAny (model X.prog X.w) X.A (evalPart e X.env) (fun u s'=>∃o H',Inv X pins σ H' s'∧IsPart u o∧Q o H') X.xe s
def IS:TO:=fun _ H Q=>Q none H
def Qt(t:TE):TO:=fun σ H Q=>t σ H fun x H1=>∃i,x=.int i∧Q (some i) H1
section
variable{X:Cx}{e:Expr}{te:TE}{lo hi:Option Expr}{tl th:TO}{pos p2:Pos}
theorem IT:PO X none IS:=by
 intro pins s σ H Q I h
 rw[evalPart_none]
 exact zu ⟨none,H,I,.none,h⟩
theorem IU(h:PE X e te):PO X (some e) (Qt te):=by
 intro pins s σ H Q I hw
 rw[evalPart_some]
 refine bq (h pins s σ H _ I hw) fun u s1 ⟨x,H1,I1,r1,q1⟩=>?_
 obtain⟨i,rfl,q⟩:=q1
 obtain⟨t,rfl⟩:=r1
 exact⟨some i,H1,I1,.int i t,q⟩
def Vq(X:Cx)(r:V→Option Int→Option Int→Hp→VK→Prop):Prop :=
 ∀(pins:List (Addr×Obj)) (s:Shared) (σ:St) (H:Hp) (x:V) (v vl vu:Value) (lo hi:Option Int) (sl:Addr) (Q:VK),Inv X pins σ H s→RelV x v→s.heap.IsSliceOf sl vl vu .none→IsPart vl lo→IsPart vu hi→r x lo hi H Q →
  ∃T id,typeLookup (.type T) "__getitem__" = pure (some (.builtin id))∧s.TypeIs v T∧wpAny (model X.prog X.w) X.A (getItem v (.ref sl)) (EP X pins σ Q) X.xe s
def ZW(r:V→Option Int→Option Int→Hp→VK→Prop)(te:TE)(tl th:TO):TE:=fun σ H Q=>te σ H fun x H1=>tl σ H1 fun l H2=>th σ H2 fun u H3=>r x l u H3 Q
theorem Fy{r:V→Option Int→Option Int→Hp→VK→Prop}(hr:Vq X r)(he:PE X e te)(hl:PO X lo tl)(hu:PO X hi th):PE X (.Subscript e (.Slice lo hi none p2) pos) (ZW r te tl th):=by
 intro pins s σ H Q I h
 refine Subscript_ (bq (he pins s σ H _ I h) fun v s1 ⟨x,H1,I1,r1,q1⟩=>?_)
 refine wpAny_Slice (bq (hl pins s1 σ H1 _ I1 q1) fun vl s2 ⟨l,H2,I2,pl,q2⟩=>bq (hu pins s2 σ H2 _ I2 q2) fun vu s3 ⟨u,H3,I3,pu,q3⟩=>?_)
 rw[evalPart_none]
 refine zu ?_
 have I4:Inv X pins σ H3 { s3 with heap:=s3.heap.push { cls:=.type "slice",data:=.fields #[vl,vu,.none] } }:=I3.kept (t':=s3.toks) fun b ob q=>za _ q
 obtain⟨T,id,hT,ht,hg⟩:=hr pins { s3 with heap:=s3.heap.push { cls:=.type "slice",data:=.fields #[vl,vu,.none] } } σ H3 x v vl vu l u s3.heap.objs.size Q I4 r1 (Heap.IsSliceOf.new ..) pl pu q3
 show wpAny (model X.prog X.w) X.A (subscriptTail e (.Slice lo hi none p2) v (.ref s3.heap.objs.size)) (EP X pins σ Q) X.xe { s3 with heap:=s3.heap.push { cls:=.type "slice",data:=.fields #[vl,vu,.none] } }
 exact tail_any (ops:=[.ref s3.heap.objs.size,v]) ht hT hg (by with_unfolding_all rfl)
def DC(xs:List V)(lo hi:Option Int):List V:=(xs.drop (HT.sIx xs.length 0 lo)).take (HT.sIx xs.length xs.length hi - HT.sIx xs.length 0 lo)
theorem wo(xs:List V)(lo hi:Option Int):(DC xs lo hi).length≤xs.length:=by
 unfold DC
 rw[yq,List.length_drop]
 lia
end
def Ih(n:Nat)(i:Int):Option Nat:=if 0≤i then (if i<n then some i.toNat else none) else if -(n:Int)≤i then some (i+n).toNat else none
def uo{α:Type}(xs:List α)(i:Int):Option α:=(Ih xs.length i).bind fun j=>xs[j]?
theorem BW(h:Ih n i=some j):seqIndex? i n=some j∧j<n∧-(n:Int)≤i∧i<n:=by
 unfold Ih at h
 by_cases h0:0≤i
 ·rw[if_pos h0] at h
  by_cases h1:i<n
  ·rw[if_pos h1] at h
   have e:i.toNat=j:=zM h
   exact⟨by rw[seqIndex_of h0 h1,e],by lia,by lia,h1⟩
  ·rw[if_neg h1] at h;cases h
 ·rw[if_neg h0] at h
  by_cases h1:-(n:Int)≤i
  ·rw[if_pos h1] at h
   have e:(i+n).toNat=j:=zM h
   exact⟨by rw[seqIndex_neg (by lia) h1,e],by lia,h1,by lia⟩
  ·rw[if_neg h1] at h;cases h
theorem uq(h:uo xs i=some v):∃j,seqIndex? i xs.length=some j∧xs[j]?=some v∧j<xs.length∧-(xs.length:Int)≤i∧i<xs.length:=by
 unfold uo at h
 cases e:Ih xs.length i with
 |none=>rw[e] at h;cases h
 |some j =>
  rw[e] at h
  obtain⟨h1,h2,h3,h4⟩:=BW e
  exact⟨j,h1,h,h2,h3,h4⟩
theorem df{α:Type}{xs:List α}{j:Nat}{v:α}(h:xs[j]?=some v):uo xs (j:Int)=some v:=by
 have hj:j<xs.length:=(ze.mp h).1
 have e:Ih xs.length (j:Int)=some j:=by
  unfold Ih
  rw[if_pos (by lia),if_pos (by lia)];simp
 unfold uo;rw[e];exact h
def BX(b:Expr):Prop:=∀o i,subscripted b false o i=operate [o,i] (getItem o i)
def Qu(X:Cx)(r:R2):Prop :=
 ∀(value slice:Expr) (pins:List (Addr×Obj)) (s:Shared) (σ:St) (H:Hp) (x y:V) (v u:Value) (Q:VK),Inv X pins σ H s→RelV x v→RelV y u→r x y H Q →
  subscripted slice false v u=operate [v,u] (getItem v u)→wpAny (model X.prog X.w) X.A (subscriptTail value slice v u) (EP X pins σ Q) X.xe s
def Pa(X:Cx)(id:String)(r:V→List V→Hp→VK→Prop):Prop :=
 ∀(pins:List (Addr×Obj)) (s:Shared) (σ:St) (H:Hp) (x:V) (xs:List V) (v:Value) (us:List Value) (Q:VK),Inv X pins σ H s→RelV x v→Vals xs us→r x xs H Q →
  wpAny (model X.prog X.w) X.A (call (.builtin id) (v::us)) (EP X pins σ Q) X.xe s
section
variable{X:Cx}{a b:Expr}{ta tb:TE}{pos:Pos}
theorem Qv(hr:Qu X r)(ha:PE X a ta)(hb:PE X b tb)(hs:BX b):PE X (.Subscript a b pos) (O9 r ta tb):=by
 intro pins s σ H Q I h
 exact Subscript_ (MM ha hb I h fun v u s2 x y H2 I2 rx ry q=>hr a b pins s2 σ H2 x y v u Q I2 rx ry q (hs _ _))
def Vr(K:Frag):R2:=fun x y H Q=>∃p xs i v,x=.ref p∧y=.int i∧jE K H p xs∧uo xs i=some v∧Q v H
def Vs(K:Frag):R2:=fun x y H Q=>∃p xs i v,x=.ref p∧y=.int i∧iH K H p xs∧uo xs i=some v∧Q v H
def Vt:R2:=fun x y H Q=>∃z i c,x=.str z∧y=.int i∧z.length≤sizeLine∧uo z.cps.toList i=some c∧Q (.str ⟨#[c]⟩) H
theorem BY:Qu X (Vr X.K):=by
 intro value slice pins s σ H x y v u Q I rx ry h hs
 obtain⟨p,xs,i,z,rfl,rfl,hq,he,q⟩:=h
 cases rx
 obtain⟨t,rfl⟩:=ry
 obtain⟨aA,r,pl,hz⟩:=I.list hq
 obtain⟨j,h1,h2,h3,h4,h5⟩:=uq he
 obtain⟨w,ew,rX⟩:=r.get h2
 have hl:=r.length
 have hn:=p9
 have fin:EP X pins σ Q w s:=⟨z,H,I,rX,q⟩
 by_cases h0:0≤i
 ·have hj:i.toNat=j:=by
   rw[seqIndex_of h0 h5] at h1
   exact zM h1
  exact item_listR pl.isList h0 (by lia) (by rw[hj];simpa using ew) fin hs
 ·have hj:(i+(aA.toArray.size:Int)).toNat=j:=by
   rw[seqIndex_neg (by lia) h4] at h1
   rw[zr,← hl]
   exact zM h1
  exact subscriptTail_builtinR (x:=w) pl.isList.typeIs slot_list_getitem.lookup
   (wpAny_getItem_list_neg (Q:=fun r s'=>r=w∧EP X pins σ Q r s') pl.isList (by lia) (by rw[zr] <;> lia) (by lia) (by rw[hj];simpa using ew) ⟨rfl,fin⟩) hs
theorem Fz:Qu X (Vs X.K):=by
 intro value slice pins s σ H x y v u Q I rx ry h hs
 obtain⟨p,xs,i,z,rfl,rfl,hq,he,q⟩:=h
 cases rx
 obtain⟨t,rfl⟩:=ry
 obtain⟨aA,r,pl,hz⟩:=I.tuple hq
 obtain⟨j,h1,h2,h3,h4,h5⟩:=uq he
 obtain⟨w,ew,rX⟩:=r.get h2
 have hl:=r.length
 have hn:=p9
 have fin:EP X pins σ Q w s:=⟨z,H,I,rX,q⟩
 exact subscriptTail_builtinR (x:=w) pl.typeIs slot_tuple_getitem.lookup
  (getItem_tuple (j:=j) (Q:=fun r s'=>r=w∧EP X pins σ Q r s') pl (by lia) (by lia) (by rw[zr,← hl];exact h1) (by simpa using ew) ⟨rfl,fin⟩) hs
theorem M4:Qu X Vt:=by
 intro value slice pins s σ H x y v u Q I rx ry h hs
 obtain⟨z,i,c,rfl,rfl,hz,he,q⟩:=h
 obtain⟨t,rfl⟩:=rx
 obtain⟨t',rfl⟩:=ry
 obtain⟨j,h1,h2,h3,h4,h5⟩:=uq he
 have hl:z.cps.toList.length=z.length:=by simp [Str.length]
 rw[hl] at h1 h4 h5
 have hn:=p9
 exact tail_any (typeIs_str s z t) slot_str_getitem.lookup (getItem_str (c:=c) (by
  have e1:decide (i < -(2 ^ 63:Int))=false:=zk (by lia)
  have e2:decide (i≥2 ^ 63)=false:=zk (by lia)
  rw[e1,e2,Bool.or_false]) (by rw[h1];simpa using h2) ⟨.str ⟨#[c]⟩,H,I.tok _,⟨_,rfl⟩,q⟩) hs
theorem y6(aA:List Value)(n j:Nat)(u:Value):Obj.mapSeq (·.setIfInBounds j u) { cls:=.type "list",data:=.seq aA.toArray n }={ cls:=.type "list",data:=.seq (aA.set j u).toArray n }:=by
 simp [Obj.mapSeq]
theorem Inv.lst(I:Inv X pins σ H s)(h:H p=some (.lst xs)) :
  ∃(aA:List Value) (n:Nat),Vals xs aA∧s.heap.get? p=some { cls:=.type "list",data:=.seq aA.toArray n }∧xs.length≤sizeLine:=by
 obtain⟨z,aA,n,r,e⟩:=I.aM p _ h
 exact⟨aA,n,r,e,z⟩
theorem Inv.M5{pins:List (Addr×Obj)}{σ:St}{H:Hp}{s:Shared}{p:Addr}{xs ys:List V}{aA its':List Value}{n n':Nat}{f:Obj→Obj}(I:Inv X pins σ H s)(h:H p=some (.lst xs))
  (ho:s.heap.get? p=some { cls:=.type "list",data:=.seq aA.toArray n }) (hf:f { cls:=.type "list",data:=.seq aA.toArray n }={ cls:=.type "list",data:=.seq its'.toArray n' }) (r:Vals ys its') (hz:ys.length≤sizeLine) (t:Nat) :
  Inv X pins σ (upd H p (.lst ys)) { s with heap:=s.heap.update p f,toks:=t }:=by
 have e:(s.heap.update p f).get? p=some { cls:=.type "list",data:=.seq its'.toArray n' }:=by
  rw[ym f ho (by rw[hf] <;> rfl),hf]
 refine I.write (x:=p) (e:=p) (by rw[h];trivial) (.inl rfl) (fun b u hb q=>(yh _ _ (Ne.symm hb)).trans q) ⟨_,e⟩ ?_
 exact⟨hz,its',n',r,e⟩
def Qw:V→V→V→Hp→(Hp→Prop)→Prop:=fun o i v H Q=>∃p xs k j,o=.ref p∧i=.int k∧H p=some (.lst xs)∧Ih xs.length k=some j∧Q (upd H p (.lst (xs.set j v)))
theorem set_list:P9 X Qw:=by
 intro pins s σ H o i v ov iv u Q I ro ri rv h
 obtain⟨p,xs,k,j,rfl,rfl,hp,hj,q⟩:=h
 cases ro
 obtain⟨t,rfl⟩:=ri
 obtain⟨aA,n,r,ho,hz⟩:=I.lst hp
 obtain⟨h1,h2,h3,h4⟩:=BW hj
 have hl:=r.length
 have hn:=p9
 have I':Inv X pins σ (upd H p (.lst (xs.set j v))) { s with heap:=s.heap.update p (Obj.mapSeq (·.setIfInBounds j u)) } :=
  I.M5 hp ho (y6 aA n j u) (r.set rv j) (by rw[List.length_set];exact hz) s.toks
 by_cases h0:0≤k
 ·have hk:k.toNat=j:=by
   rw[seqIndex_of h0 h4] at h1
   exact zM h1
  exact PySem.W.ki_setAt ho h0 (by lia) (by rw[zr,← hl];exact h4) (by rw[hk];exact⟨_,I',q⟩)
 ·have hk:(k+(aA.toArray.size:Int)).toNat=j:=by
   rw[seqIndex_neg (by lia) h3] at h1
   rw[zr,← hl]
   exact zM h1
  exact PySem.W.ki_setBack ho (by lia) (by rw[zr,← hl];exact h3) (by lia) (by rw[hk];exact⟨_,I',q⟩)
theorem ur(lo hi:Option Int)(n:Nat):(sliceBounds lo hi none n).1=((HT.sIx n 0 lo:Nat):Int)∧(sliceBounds lo hi none n).2.1=((HT.sIx n n hi:Nat):Int)∧(sliceBounds lo hi none n).2.2=1:=by
 refine⟨?_,?_,rfl⟩
 ·cases lo with
  |none=>simp [sliceBounds,HT.sIx]
  |some i =>
   simp only [sliceBounds,HT.sIx,Option.getD_none,show (1:Int)>0 by decide,if_true]
   by_cases h:i<0
   ·simp only [h,if_true] <;> lia
   ·simp only [h,if_false] <;> lia
 ·cases hi with
  |none=>simp [sliceBounds,HT.sIx]
  |some i =>
   simp only [sliceBounds,HT.sIx,Option.getD_none,show (1:Int)>0 by decide,if_true]
   by_cases h:i<0
   ·simp only [h,if_true] <;> lia
   ·simp only [h,if_false] <;> lia
theorem rY(aA:List Value)(lo hi:Option Int):slicePick aA.toArray lo hi none=((aA.drop (HT.sIx aA.length 0 lo)).take (HT.sIx aA.length aA.length hi - HT.sIx aA.length 0 lo)).toArray:=by
 obtain⟨h1,h2,h3⟩:=ur lo hi aA.toArray.size
 unfold slicePick
 rw[h1,h2,h3]
 simp only [sliceRange_one,pick_run,zr] <;> rfl
def Vu(K:Frag):V→Option Int→Option Int→Hp→VK→Prop:=fun x lo hi H Q=>∃a xs,x=.ref a∧jE K H a xs∧∀p,H p=none→Q (.ref p) (upd H p (.lst (DC xs lo hi)))
theorem BZ:Vq X (Vu X.K):=by
 intro pins s σ H x v vl vu lo hi sl Q I rx hs pl pu h
 obtain⟨a,xs,rfl,hx,q⟩:=h
 cases rx
 obtain⟨aA,r,ht,hz⟩:=I.list hx
 have hlen:=r.length
 refine⟨"list",_,slot_list_getitem.lookup,ht.isList.typeIs,?_⟩
 refine wpAny_getItem_list_slice ht.isList hs pl pu .none (by simp) ?_ (by rw[zr] <;> lia)
 rw[rY,← hlen]
 refine⟨.ref s.heap.objs.size,_,I.laid (t':=s.toks) (o:=.lst (DC xs lo hi)) (fun b ob q=>za _ q) (zm _) ?_,rfl,q _ (I.aM.fresh (zm _))⟩
 exact⟨zI (wo xs lo hi) hz,_,0,(r.drop (HT.sIx xs.length 0 lo)).take (HT.sIx xs.length xs.length hi - HT.sIx xs.length 0 lo),zj _ rfl⟩
def gu:V→Bool
 |.aw=>true
 |.bl _=>true
 |.int _=>true
 |.str _=>true
 |_=>false
def eqV:V→V→Bool
 |.aw,.aw=>true
 |.bl a,.bl b=>a == b
 |.bl a,.int b=>(if a then 1 else 0) == b
 |.int a,.bl b=>a == (if b then 1 else 0)
 |.int a,.int b=>a == b
 |.str a,.str b=>a == b
 |_,_=>false
theorem M6(ry:RelV y u)(rx:RelV x v)(fy:gu y=true)(fx:gu x=true):SeqAt.EqAt A s u v (eqV y x):=by
 cases y with
 |aw =>
  cases ry
  cases x with
  |aw=>cases rx;exact SeqAt.EqAt.same _
  |bl b=>cases rx;exact SeqAt.EqAt.none_bool b
  |int b=>obtain⟨t,rfl⟩:=rx;exact SeqAt.EqAt.none_int b t
  |str b=>obtain⟨t,rfl⟩:=rx;exact SeqAt.EqAt.none_str b t
  |_=>exact absurd (show false=true from fx) zd
 |bl a =>
  cases ry
  cases x with
  |aw=>cases rx;exact SeqAt.EqAt.bool_none a
  |bl b=>cases rx;exact SeqAt.EqAt.bool_bool a b
  |int b=>obtain⟨t,rfl⟩:=rx;exact SeqAt.EqAt.bool_int a b t
  |str b=>obtain⟨t,rfl⟩:=rx;exact SeqAt.EqAt.bool_str a b t
  |_=>exact absurd (show false=true from fx) zd
 |int a =>
  obtain⟨t',rfl⟩:=ry
  cases x with
  |aw=>cases rx;exact SeqAt.EqAt.int_none a t'
  |bl b=>cases rx;exact SeqAt.EqAt.int_bool a t' b
  |int b=>obtain⟨t,rfl⟩:=rx;exact SeqAt.EqAt.int_int a t' b t
  |str b=>obtain⟨t,rfl⟩:=rx;exact SeqAt.EqAt.int_str a t' b t
  |_=>exact absurd (show false=true from fx) zd
 |str a =>
  obtain⟨t',rfl⟩:=ry
  cases x with
  |aw=>cases rx;exact SeqAt.EqAt.str_none a t'
  |bl b=>cases rx;exact SeqAt.EqAt.str_bool a t' b
  |int b=>obtain⟨t,rfl⟩:=rx;exact SeqAt.EqAt.str_int a t' b t
  |str b=>obtain⟨t,rfl⟩:=rx;exact SeqAt.EqAt.str_str a t' b t
  |_=>exact absurd (show false=true from fx) zd
 |_=>exact absurd (show false=true from fy) zd
def FA(x:V)(u:Value):Bool:=match u with
 |.none=>eqV .aw x
 |.bool b=>eqV (.bl b) x
 |.int i _=>eqV (.int i) x
 |.str z _=>eqV (.str z) x
 |_=>false
theorem y7(r:RelV y u)(f:gu y=true):FA x u=eqV y x:=by
 cases y with
 |aw=>cases r;rfl
 |bl b=>cases r;rfl
 |int i=>obtain⟨t,rfl⟩:=r;rfl
 |str z=>obtain⟨t,rfl⟩:=r;rfl
 |_=>exact absurd (show false=true from f) zd
theorem uu:∀{xs:List V}{us:List Value},Vals xs us→xs.all gu=true→us.any (FA x)=xs.any fun y=>eqV y x
 |_,_,.nil,_=>rfl
 |y::xs,u::us,.cons r t,f=>by
  rw[yK,zJ] at f
  rw[yt,yt,y7 r f.1,uu t f.2]
theorem lQ(rx:RelV x v)(fx:gu x=true):∀{xs:List V}{us:List Value},Vals xs us→xs.all gu=true→∀u∈us,SeqAt.EqAt A s u v (FA x u)
 |_,_,.nil,_=>fun u hu=>by cases hu
 |y::xs,u::us,.cons r t,f=>fun u' hu=>by
  rw[yK,zJ] at f
  rcases zi.mp hu with rfl|hu
  ·rw[y7 r f.1];exact M6 r rx f.1 fx
  ·exact lQ rx fx t f.2 u' hu
def y8(x:V)(xs:List V):Bool:=xs.any fun y=>eqV y x
def ZX(K:Frag)(neg:Bool):R2:=fun x y H Q=>∃p xs,y=.ref p∧(jE K H p xs∨iH K H p xs)∧gu x=true∧xs.all gu=true∧Q (.bl (if neg then !y8 x xs else y8 x xs)) H
theorem m_:gR X (compareOp .In) (ZX X.K false):=by
 intro pins s σ H x y v u Q I rx ry h
 obtain⟨p,xs,rfl,hq,fx,fs,q⟩:=h
 cases ry
 rcases hq with hq|hq
 ·obtain⟨aA,r,pl,hz⟩:=I.list hq
  refine SeqAt.in_listAt (FA x) pl.isList (fun w hw=>lQ rx fx r fs w (by simpa using hw)) ⟨.bl _,H,I,rfl,?_⟩
  rw[show aA.toArray.any (FA x)=aA.any (FA x) by simp,uu r fs]
  exact q
 ·obtain⟨aA,r,pl,hz⟩:=I.tuple hq
  refine SeqAt.in_tupleAt (FA x) pl (fun w hw=>lQ rx fx r fs w (by simpa using hw)) ⟨.bl _,H,I,rfl,?_⟩
  rw[show aA.toArray.any (FA x)=aA.any (FA x) by simp,uu r fs]
  exact q
theorem j9:eI X (.type "tuple") (fun xs H Q=>∃p ys,xs=[.ref p]∧((jE X.K H p ys∧∀l,H l=none→Q (.ref l) (upd H l (.tup ys)))∨(iH X.K H p ys∧Q (.ref p) H))):=by
 intro pins s σ H xs us Q I r h
 obtain⟨p,ys,rfl,h⟩:=h
 obtain⟨u,rfl,rx⟩:=vals1 r
 cases rx
 rcases h with ⟨hq,q⟩|⟨hq,q⟩
 ·obtain⟨aA,r',pl,hz⟩:=I.list hq
  have hlen:=r'.length
  refine call_tuple_list pl.isList (fun h' kp=>?_) (by simp only [zr] <;> lia)
  have I1:Inv X pins σ H { s with heap:=h' }:=I.kept (t':=s.toks) kp
  have I2:Inv X pins σ (upd H h'.objs.size (.tup ys)) { s with heap:=h'.push { cls:=.type "tuple",data:=.seq aA.toArray } } :=
   I1.laid (t':=s.toks) (fun b o e=>za _ e) (zm _) (show bp X.prog X.w _ _ _ (.tup ys) from ⟨hz,aA,r',iS.new _ _⟩)
  exact⟨.ref h'.objs.size,_,I2,rfl,q _ (I1.aM.fresh (zm _))⟩
 ·obtain⟨aA,r',pl,hz⟩:=I.tuple hq
  exact call_tuple_same pl ⟨.ref p,H,I,rfl,q⟩
def TR(K:Frag)(T:String)(x:V)(H:Hp):Prop:=match x with
 |.str _=>T = "str"
 |.int _=>T = "int"
 |.ref p=>(T = "list" ∧ ∃xs,jE K H p xs)∨(T = "tuple" ∧ ∃o,K.lookup p=some o∧o.cls=.type "tuple" ∧ o.dict=none) ∨
   (T = "dict" ∧ ((∃kvs,H p=some (.dK kvs))∨∃kvs,H p=some (.dT kvs)))∨(T = "set" ∧ ∃S n,H p=some (.set S n))
 |_=>False
theorem FC{T:String}(I:Inv X pins σ H s)(r:RelV x v)(ty:TR X.K T x H) :
  s.TypeIs v T∧∀a,v=.ref a→∃ob,s.heap.get? a=some ob∧ob.dict=none:=by
 cases x with
 |str z =>
  obtain⟨t,rfl⟩:=r
  cases (show T = "str" from ty)
  exact⟨typeIs_str s z t,fun _ e=>nomatch e⟩
 |int i =>
  obtain⟨t,rfl⟩:=r
  cases (show T = "int" from ty)
  exact⟨typeIs_int s i t,fun _ e=>nomatch e⟩
 |ref p =>
  cases r
  rcases ty with ⟨rfl,xs,hq⟩|⟨rfl,o,hk,hc,hd⟩|⟨rfl,hk⟩|⟨rfl,S,n,hk⟩
  ·obtain⟨aA,_,pl,_⟩:=I.list hq
   refine⟨pl.isList.typeIs,fun a e=>?_⟩
   cases e
   obtain⟨o,n,e,c,hd,_⟩:=pl
   exact⟨o,e,hd⟩
  ·refine⟨⟨o,I.oh p o hk,hc⟩,fun a e=>?_⟩
   cases e
   exact⟨o,I.oh _ o hk,hd⟩
  ·have z:∃o,s.heap.get? p=some o∧o.ExactDict:=by
    rcases hk with ⟨kvs,hk⟩|⟨kvs,hk⟩
    ·obtain⟨_,_,_,_,o,_,_,e,ex,_⟩:=I.aM p _ hk
     exact⟨o,e,ex⟩
    ·exact False.elim (I.aM p _ hk)
   obtain⟨o,e,ex⟩:=z
   refine⟨⟨o,e,ex.1⟩,fun a e2=>?_⟩
   cases e2
   exact⟨o,e,ex.2.1⟩
  ·obtain⟨o,_,_,_,e,ex,_⟩:=I.aM p _ hk
   refine⟨⟨o,e,ex.1⟩,fun a e2=>?_⟩
   cases e2
   exact⟨o,e,ex.2.1⟩
 |_=>exact False.elim ty
def Vv(K:Frag)(T:String)(r:V→List V→Hp→VK→Prop)(to:TE):TE:=fun σ H Q=>to σ H fun x H1=>TR K T x H1∧r x [] H1 Q
def ZY(K:Frag)(T:String)(r:V→List V→Hp→VK→Prop)(to:TE)(t:TA):TE:=fun σ H Q=>to σ H fun x H1=>TR K T x H1∧t σ H1 fun xs H2=>r x xs H2 Q
variable{o e:Expr}{es:List Expr}{to:TE}{t:TA}{name:Str}{apos aP:Pos}{T id:String}{r:V→List V→Hp→VK→Prop}
theorem M7(pa:PlainAttrs T)(slot:Slot T name id)(M8:typeOf (.builtin id)=pure (.type "method_descriptor"))(hm:Pa X id r)(ho:PE X o to)
  (lR:attributeBase o name X.env (eval o X.env)=eval o X.env:=by rfl) (qf:(apos.endLine == aP.line)=true:=by rfl):PE X (.Call (.Attribute o name apos) [] [] aP) (Vv X.K T r to):=by
 intro pins s σ H Q I h
 refine wpAny_Call_method0_late lR qf (bq (ho pins s σ H _ I h) fun v s1 ⟨x,H1,I1,r1,ty,q1⟩=>?_)
 obtain⟨h1,h2⟩:=FC I1 r1 ty
 exact⟨T,id,pa,slot,M8,h1,h2,Calls.callWith_builtin rfl (PySem.evalArgs_none (hm pins s1 σ H1 x [] v [] Q I1 r1 .nil q1))⟩
theorem Qx(pa:PlainAttrs T)(slot:Slot T name id)(M8:typeOf (.builtin id)=pure (.type "method_descriptor"))(hm:Pa X id r)(ho:PE X o to)(ha:PA X (e::es) t)
  (lR:attributeBase o name X.env (eval o X.env)=eval o X.env:=by rfl)
  (M9:((backTo aP (starEach (e::es) X.env)).all (fun x=>!x.1) && (backToKw aP (keywordEach [] X.env)).all (fun x=>x.1.isSome)
   && decide ((e::es).length+([]:List Keyword).length+(if ([]:List Keyword).isEmpty then 0 else 1)<30))=true:=by rfl)
  (qf:(apos.endLine == aP.line)=true:=by rfl) (hs:starEach (e::es) X.env=(false,eval e X.env)::starEach es X.env:=by rfl) (y9:(backTo aP (starEach es X.env)).any (·.1)=false:=by rfl) :
  PE X (.Call (.Attribute o name apos) (e::es) [] aP) (ZY X.K T r to t):=by
 intro pins s σ H Q I h
 refine wpAny_Call_method_late lR M9 qf rfl (bq (ho pins s σ H _ I h) fun v s1 ⟨x,H1,I1,r1,ty,q1⟩=>?_)
 obtain⟨h1,h2⟩:=FC I1 r1 ty
 refine⟨T,id,pa,slot,M8,h1,h2,?_⟩
 have hA:=ha aP pins s1 σ H1 _ I1 q1
 rw[hs] at hA ⊢
 refine Calls.callWith_builtin (by show (false || (backTo aP (starEach es X.env)).any (·.1))=false;rw[y9] <;> rfl) (Calls.evalArgs_plain ?_)
 exact bq hA <| by rintro us s2 ⟨vs,H2,I2,r2,q2⟩;exact hm pins s2 σ H2 x vs v us Q I2 r1 r2 q2
end
def Vx(X:Cx)(id:String)(r:V→List V→Hp→VK→Prop):Prop :=
 ∀(pins:List (Addr×Obj)) (s:Shared) (σ:St) (H:Hp) (x:V) (xs:List V) (v:Value) (us:List Value) (Q:VK),Inv X pins σ H s→RelV x v→Vals xs us→r x xs H Q →
  wpAny (model X.prog X.w) X.A (call (.builtin id) (v::us)) (EP X pins σ Q) X.xe s
theorem Vals.one:∀{x:V}{us:List Value},Vals [x] us→∃u,us=[u]∧RelV x u:=by
 intro x us h
 cases h with
 |cons r t=>cases t;exact !⟨r⟩
theorem Vals.two:∀{x y:V}{us:List Value},Vals [x,y] us→∃u v,us=[u,v]∧RelV x u∧RelV y v:=by
 intro x y us h
 cases h with
 |cons r t =>
  obtain⟨_,rfl,q⟩:=Vals.one t
  exact⟨_,_,rfl,r,q⟩
theorem Vals.zero:∀{us:List Value},Vals [] us→us=[]
 |_,.nil=>rfl
theorem Vals.dropLast{xs:List V}{us:List Value}(h:Vals xs us):Vals xs.dropLast us.dropLast:=by
 induction h with
 |nil=>exact .nil
 |cons r t ih =>
  cases t with
  |nil=>exact .nil
  |cons q t'=>exact .cons r ih
theorem y_{α:Type}(l:List α):l.eraseIdx (l.length - 1)=l.dropLast:=by
 induction l with
 |nil=>rfl
 |cons a r ih =>
  cases r with
  |nil=>rfl
  |cons b r =>
   have e:(a::b::r).length - 1=((b::r).length - 1)+1:=by
    have h1:(a::b::r).length=r.length+2:=rfl
    have h2:(b::r).length=r.length+1:=rfl
    lia
   rw[e,List.eraseIdx_cons_succ,ih]
   all_goals rfl
section
variable{X:Cx}{pins:List (Addr×Obj)}{σ:St}{H:Hp}{s:Shared}{l:Addr}{xs ys:List V}
theorem Inv.M_{aA its':List Value}{n:Nat}{f:Array Value→Array Value}{t':Nat}(I:Inv X pins σ H s)(hH:H l=some (.lst xs))
  (e:s.heap.get? l=some { cls:=.type "list",data:=.seq aA.toArray n }) (hf:f aA.toArray=its'.toArray) (hv:Vals ys its') (hz:ys.length≤sizeLine) :
  Inv X pins σ (upd H l (.lst ys)) { s with heap:=s.heap.update l (Obj.mapSeq f),toks:=t' }:=by
 have q:=PySem.IsL.update e f
 rw[hf] at q
 refine I.write (x:=l) (e:=l) (by rw[hH];exact trivial) (.inl rfl) (fun b' u hb hu=>(yh s.heap (Obj.mapSeq f) (Ne.symm hb)).trans hu) ⟨_,q⟩ ?_
 exact⟨hz,its',_,hv,q⟩
theorem Inv.Vy(I:Inv X pins σ H s)(hv:Vals ys aA)(hz:ys.length≤sizeLine) :
  Inv X pins σ (upd H s.heap.objs.size (.lst ys)) { s with heap:=s.heap.push { cls:=.type "list",data:=.seq aA.toArray },toks:=t' } :=
 I.laid (fun _ _ q=>za _ q) (zm _) ⟨hz,aA,0,hv,zj _ rfl⟩
theorem Inv.fresh(I:Inv X pins σ H s):H s.heap.objs.size=none:=I.aM.fresh (zm _)
theorem Inv.FD(I:Inv X pins σ H s)(hH:H l=some (.lst xs)):xs.length≤sizeLine∧∃(aA:List Value) (n:Nat),Vals xs aA∧xs.length=aA.length∧s.heap.get? l=some { cls:=.type "list",data:=.seq aA.toArray n }:=by
 obtain⟨z,aA,n,r,e⟩:=I.aM l _ hH
 exact⟨z,aA,n,r,r.length,e⟩
theorem FE{n:Nat}(h:n≤sizeLine):Builtin.List.listTooLong n=false:=by
 unfold Builtin.List.listTooLong
 exact zk (by lia)
end
section
variable{X:Cx}
def IV:V→List V→Hp→VK→Prop:=fun x vs H Q=>∃l xs y,x=.ref l∧vs=[y]∧H l=some (.lst xs)∧xs.length<sizeLine∧Q .aw (upd H l (.lst (xs++[y])))
theorem DD:Vx X "list.append" IV:=by
 intro pins s σ H x vs v us Q I rx rv h
 obtain⟨l,xs,y,rfl,rfl,hH,hz,q⟩:=h
 cases rx
 obtain⟨u,rfl,ru⟩:=rv.one
 obtain⟨z,aA,n,r,hl,e⟩:=I.FD hH
 refine call_meets F.slot_list_append ⟨_,e,rfl⟩ F.entry_list_append (F.args_list_append_2 _ _) (PySem.list_append l aA.toArray n u (by rw[zr];lia)) ⟨e,?_⟩
 refine⟨.aw,_,I.M_ (its':=aA++[u]) hH e (by simp) (r.append (.cons ru .nil)) ?_,rfl,q⟩
 rw[zE,List.length_singleton]
 lia
def Vz:V→List V→Hp→VK→Prop:=fun x vs H Q=>∃l xs y,x=.ref l∧vs=[]∧H l=some (.lst xs)∧xs[xs.length - 1]?=some y∧Q y (upd H l (.lst xs.dropLast))
theorem Na:Vx X "list.pop" Vz:=by
 intro pins s σ H x vs v us Q I rx rv h
 obtain⟨l,xs,y,rfl,rfl,hH,hy,q⟩:=h
 cases rx
 have ZZ:=rv.zero
 subst ZZ
 obtain⟨z,aA,n,r,hl,e⟩:=I.FD hH
 obtain⟨u,hu,ru⟩:=r.get hy
 have Qy:aA.toArray[aA.toArray.size - 1]?=some u:=by
  show aA.toArray[aA.length - 1]?=some u
  rw[← Array.getElem?_toList,← hl]
  exact hu
 refine call_meets F.slot_list_pop ⟨_,e,rfl⟩ F.entry_list_pop (F.args_list_pop_1 _) (MeetsSeq.list_pop_last l aA.toArray n u Qy (by rw[zr];lia)) ⟨e,?_⟩
 refine⟨y,_,I.M_ (its':=aA.dropLast) hH e ?_ r.dropLast ?_,ru,q⟩
 ·show aA.toArray.eraseIdxIfInBounds (aA.toArray.size - 1)=aA.dropLast.toArray
  rw[zr,List.eraseIdxIfInBounds_toArray,y_]
 ·rw[List.length_dropLast]
  lia
def VA:R2:=fun x y H Q=>∃l b xs zs,x=.ref l∧y=.ref b∧H l=some (.lst xs)∧H b=some (.lst zs)∧xs.length+zs.length≤sizeLine∧∀p,H p=none→Q (.ref p) (upd H p (.lst (xs++zs)))
theorem Nb:gR X (binaryOp .Add) VA:=by
 intro pins s σ H x y v u Q I rx ry h
 obtain⟨l,b,xs,zs,rfl,rfl,hH,hB,hz,q⟩:=h
 cases rx
 cases ry
 obtain⟨z,aA,n,r,hl,e⟩:=I.FD hH
 obtain⟨z2,uv,n2,r2,vY,e2⟩:=I.FD hB
 refine PySem.P.add_list e e2 ?_ (by rw[zr,zr];lia)
 have ea:aA.toArray++uv.toArray=(aA++uv).toArray:=by simp
 rw[ea]
 exact⟨.ref _,_,I.Vy (t':=s.toks) (r.append r2) (by rw[zE];lia),rfl,q _ I.fresh⟩
end
section
variable{κ:Type}[DecidableEq κ]
def fE(kvs:List (κ×V))(k:κ):Option V:=(kvs.find? fun kv=>decide (kv.1=k)).map (·.2)
def putK(kvs:List (κ×V))(k:κ)(v:V):List (κ×V) :=
 if (kvs.any fun kv=>decide (kv.1=k))=true then kvs.map (fun kv=>if kv.1=k then (kv.1,v) else kv) else kvs++[(k,v)]
def om(kvs:List (κ×V))(k:κ):List (κ×V):=kvs.filter fun kv=>decide (kv.1≠k)
theorem qg{p:κ×V}{r:List (κ×V)}{k:κ}(e:p.1=k):fE (p::r) k=some p.2:=by simp [fE,zR,e]
theorem qh{p:κ×V}{r:List (κ×V)}{k:κ}(e:¬ p.1=k):fE (p::r) k=fE r k:=by simp [fE,zR,e]
theorem oo(kvs:List (κ×V))(k:κ)(v:V):(putK kvs k v).length≤kvs.length+1:=by
 unfold putK
 split
 ·rw[zb];lia
 ·rw[zE,zQ,List.length_nil];lia
theorem fC.ng(r:fC o u):o.isSome=u.isSome:=by
 cases o with
 |none=>cases u with
  |none=>rfl
  |some _=>exact (show False from r).elim
 |some _=>cases u with
  |none=>exact (show False from r).elim
  |some _=>rfl
theorem fC.getD{o:Option V}{u:Option Value}{d:V}{d':Value}(r:fC o u)(rd:RelV d d'):RelV (o.getD d) (u.getD d'):=by
 cases o with
 |none=>cases u with
  |none=>exact rd
  |some _=>exact (show False from r).elim
 |some _=>cases u with
  |none=>exact (show False from r).elim
  |some _=>exact r
theorem KV.val{kvs:List (κ×V)}{vs:List (κ×Value)}(r:KV kvs vs)(k:κ):fC (fE kvs k) (valueAt vs k):=by
 unfold KV at r
 induction r with
 |nil=>exact True.intro
 |@cons p q ps qs h t ih =>
  obtain⟨h1,h2⟩:=h
  by_cases e:p.1=k
  ·have e':q.1=k:=h1.symm.trans e
   have b:valueAt (q::qs) k=some q.2:=by simp [valueAt,zR,e']
   rw[qg e,b];exact h2
  ·have e':¬ q.1=k:=fun z=>e (h1.trans z)
   have b:valueAt (q::qs) k=valueAt qs k:=by simp [valueAt,zR,e']
   rw[qh e,b];exact ih
theorem KV.any{kvs:List (κ×V)}{vs:List (κ×Value)}(r:KV kvs vs)(k:κ):(kvs.any fun kv=>decide (kv.1=k))=vs.any fun kv=>decide (kv.1=k):=by
 unfold KV at r
 induction r with
 |nil=>rfl
 |cons h t ih=>rw[yt,yt,ih,h.1]
theorem KV.Nc(r:KV kvs vs)(k:κ)(ry:RelV y u) :
  KV (kvs.map fun kv=>if kv.1=k then (kv.1,y) else kv) (vs.map fun kv=>if kv.1=k then (kv.1,u) else kv):=by
 unfold KV at r ⊢
 induction r with
 |nil=>exact .nil
 |@cons p q ps qs h t ih =>
  rw[zB,zB]
  refine .cons ?_ ih
  obtain⟨h1,h2⟩:=h
  by_cases e:p.1=k
  ·rw[if_pos e,if_pos (h1.symm.trans e)];exact⟨h1,ry⟩
  ·rw[if_neg e,if_neg (fun z=>e (h1.trans z))];exact⟨h1,h2⟩
theorem KV.put(r:KV kvs vs)(k:κ)(ry:RelV y u):KV (putK kvs k y) (stored vs k u):=by
 unfold putK stored
 rw[r.any k]
 by_cases e:(vs.any fun kv=>decide (kv.1=k))=true
 ·rw[if_pos e,if_pos e];exact r.Nc k ry
 ·rw[if_neg e,if_neg e];exact Paired.snoc r ⟨rfl,ry⟩
theorem KV.drop(r:KV kvs vs)(k:κ):KV (om kvs k) (without vs k):=by
 unfold KV at r ⊢
 unfold om without
 induction r with
 |nil=>exact .nil
 |@cons p q ps qs h t ih =>
  obtain⟨h1,h2⟩:=h
  rw[yi,yi]
  by_cases e:p.1=k
  ·have a:¬ decide (p.1≠k)=true:=by simp [e]
   have b:¬ decide (q.1≠k)=true:=by simp [h1.symm.trans e]
   rw[if_neg a,if_neg b];exact ih
  ·have e':¬ q.1=k:=fun z=>e (h1.trans z)
   have a:decide (p.1≠k)=true:=by simp [e]
   have b:decide (q.1≠k)=true:=by simp [e']
   rw[if_pos a,if_pos b];exact .cons ⟨h1,h2⟩ ih
theorem KV.length{kvs:List (κ×V)}{vs:List (κ×Value)}(r:KV kvs vs):kvs.length=vs.length:=yC r
theorem FF(kvs:List (κ×V))(k:κ):(om kvs k).length≤kvs.length:=List.length_filter_le _ _
end
theorem j_(r:RelV (kV k) u):(aH P w).is k u=true:=by
 cases k with
 |inl i=>obtain⟨t,e⟩:=(show ∃t,u=Value.int i t from r);subst e;exact wa P w i t
 |inr x=>obtain⟨t,e⟩:=(show ∃t,u=Value.str x t from r);subst e;exact iR P w x t
theorem tw:∀{ks:List Key}{us:List Value},Vals (ks.map kV) us→ItemsAre (aH P w) ks us
 |[],_,r=>by rw[List.map_nil] at r;cases r;exact .nil
 |k::ks,_,r=>by
  rw[zB] at r
  cases r with
  |cons h t=>exact .cons (j_ h) (tw t)
abbrev KT(H:Hp):List (List Key×V)→List (List Key×Addr×Value)→Prop:=Paired fun p q=>p.1=q.1∧H q.2.1=some (.tup (p.1.map kV))∧RelV p.2 q.2.2
theorem KT.val{H:Hp}{kvs:List (List Key×V)}{xs:List (List Key×Addr×Value)}(r:KT H kvs xs)(k:List Key):fC (fE kvs k) ((atKey xs k).map (·.2)):=by
 induction r with
 |nil=>exact True.intro
 |@cons p q ps qs h t ih =>
  obtain⟨h1,_,h2⟩:=h
  by_cases e:p.1=k
  ·have e':q.1=k:=h1.symm.trans e
   have b:atKey (q::qs) k=some q.2:=by simp [atKey,zR,e']
   rw[qg e,b];exact h2
  ·have e':¬ q.1=k:=fun z=>e (h1.trans z)
   have b:atKey (q::qs) k=atKey qs k:=by simp [atKey,zR,e']
   rw[qh e,b];exact ih
section
variable{P:Program}{w:World}{H:Hp}{h:Heap}{a:Addr}
theorem Li(ok:kJ P w H h)(e:Rd H a u):bp P w H h a u:=e.ok ok
theorem oq(ok:kJ P w H h)(e:Rd H a (.dK kvs)):kvs.length≤sizeLine∧(a == sysModules)=false∧∃vs,KV kvs vs∧h.DictOf (aH P w) a vs :=
 show bp P w H h a (.dK kvs) from Li ok e
theorem B0(ok:kJ P w H h)(e:H a=some (.dK kvs)):kvs.length≤sizeLine∧(a == sysModules)=false∧∃vs,KV kvs vs∧h.DictOf (aH P w) a vs:=oq ok (.inl e)
theorem uw(ok:kJ P w H h)(e:H a=some (.tup (ks.map kV))):(tupleKind (aH P w)).is h ks a:=by
 obtain⟨_,aA,r,o,h1,h2,_,n,h3⟩:=(show bp P w H h a (.tup (ks.map kV)) from ok a _ e)
 exact⟨o,aA.toArray,n,h1,h2,h3,by simpa using tw r⟩
theorem tD(ok:kJ P w H h)(e:Rd H a (.dT kvs)):kvs.length≤sizeLine∧(a == sysModules)=false ∧
  ∃xs,KT H kvs xs∧h.DictOfH (tupleKind (aH P w)) a xs:=by
 exact False.elim (show bp P w H h a (.dT kvs) from Li ok e)
end
def o_(H:Hp)(a:Addr)(y:V)(r:Option V):Prop :=
 (∃kvs k,Rd H a (.dK kvs)∧y=kV k∧r=fE kvs k)∨∃kvs k b,Rd H a (.dT kvs)∧y=.ref b∧H b=some (.tup (k.map kV))∧r=fE kvs k
def FG(H:Hp)(a:Addr)(y v:V)(H':Hp):Prop :=
 (∃kvs k,H a=some (.dK kvs)∧y=kV k∧kvs.length<sizeLine∧H'=upd H a (.dK (putK kvs k v))) ∨
 ∃kvs k b,H a=some (.dT kvs)∧y=.ref b∧H b=some (.tup (k.map kV))∧kvs.length<sizeLine∧H'=upd H a (.dT (putK kvs k v))
theorem o_.k{H:Hp}{a:Addr}{kvs:List (Key×V)}{k:Key}(e:H a=some (.dK kvs)):o_ H a (kV k) (fE kvs k):=.inl ⟨kvs,k,.inl e,rfl,rfl⟩
theorem FG.k{H:Hp}{a:Addr}{kvs:List (Key×V)}{k:Key}{v:V}(e:H a=some (.dK kvs))(hl:kvs.length<sizeLine):FG H a (kV k) v (upd H a (.dK (putK kvs k v))):=.inl ⟨kvs,k,e,rfl,hl,rfl⟩
section
variable{X:Cx}{pins:List (Addr×Obj)}{σ:St}{H:Hp}{s:Shared}{a:Addr}{y v:V}{u r:Value}{o:Option V}{A:Around}{E:Value→Shared→Prop}
theorem Inv.big(I:Inv X pins σ H s):sysModules<s.heap.objs.size:=by
 have h:mainGlobals<s.heap.objs.size:=(I.mod.glob.keeps I.bk).lt
 exact Nat.lt_trans (by decide) h
theorem DF(hu:A.units+1<cLine)(I:Inv X pins σ H s)(g:o_ H a y (some v))(ry:RelV y u)(h:∀w' s',Inv X pins σ H s'→RelV v w'→Q w' s') :
  wpAny (model X.prog X.w) A (getItem (.ref a) u) Q E s:=by
 rcases g with ⟨kvs,k,e,ey,l⟩|⟨kvs,k,b,e,ey,eb,l⟩
 ·subst ey
  obtain⟨z,hd,vs,rel,dd⟩:=oq I.aM e
  obtain⟨w',hw,rX⟩:=fC.some_of (v:=v) (o:=valueAt vs k) (by rw[l];exact rel.val k)
  exact wpAny_getItem_of (j_ ry) dd.mapOf hw (h w' _ (I.tok _) rX)
 ·subst ey
  cases (show u=Value.ref b from ry)
  obtain⟨z,hd,xs,rel,dd⟩:=tD I.aM e
  obtain⟨w',hw,rX⟩:=fC.some_of (v:=v) (o:=(atKey xs k).map (·.2)) (by rw[l];exact rel.val k)
  obtain⟨p,hp,gO⟩:=Option.map_eq_some_iff.mp hw
  refine wpAny_getItem_heap (tupleKind_room_in1 hu) (uw I.aM eb) dd hp ?_
  rw[gO]
  exact h w' _ (I.tok _) rX
theorem VB(hu:A.units+1<cLine)(I:Inv X pins σ H s)(g:o_ H a y o)(ry:RelV y u)(h:∀s',Inv X pins σ H s'→Q (.bool o.isSome) s') :
  wpAny (model X.prog X.w) A (compareOp .In u (.ref a)) Q E s:=by
 rcases g with ⟨kvs,k,e,ey,l⟩|⟨kvs,k,b,e,ey,eb,l⟩
 ·subst ey
  obtain⟨z,hd,vs,rel,dd⟩:=oq I.aM e
  refine wpAny_in_of (j_ ry) hd dd.mapOf ?_
  rw[← (rel.val k).ng,← l]
  exact h _ (I.tok _)
 ·subst ey
  cases (show u=Value.ref b from ry)
  obtain⟨z,hd,xs,rel,dd⟩:=tD I.aM e
  refine wpAny_in_heap (tupleKind_room_in1 hu) (uw I.aM eb) hd dd ?_
  have q:=(rel.val k).ng
  rw[Option.isSome_map] at q
  rw[← q,← l]
  exact h _ (I.tok _)
theorem ux(I:Inv X pins σ H s)(mu:PR (H a))(hs:Heap.SameBut a s.heap h')(he:∃q,h'.get? a=some q)(new:bp X.prog X.w (upd H a ob) h' a ob) :
  Inv X pins σ (upd H a ob) { s with heap:=h',toks:=t' } :=
 I.write (x:=a) (e:=a) mu (.inl rfl) (fun b q hb z=>(hs.2 b hb).trans z) he new
theorem z_(z:kvs.length≤sizeLine)(hd:(a == sysModules)=false)(rel:KV kvs vs)(dd:h'.DictOf (aH P w) a vs) :
  bp P w H' h' a (.dK kvs):=⟨z,hd,vs,rel,dd⟩
theorem DH(hu:A.units+1<cLine)(I:Inv X pins σ H s)(g:FG H a y v H')(ry:RelV y u)(rv:RelV v r)(h:∀s',Inv X pins σ H' s'→Q () s') :
  wpAny (model X.prog X.w) A (setItem (.ref a) u r) Q E s:=by
 rcases g with ⟨kvs,k,e,ey,l,eH⟩|⟨kvs,k,b,e,ey,eb,l,eH⟩
 ·subst ey eH
  obtain⟨z,hd,vs,rel,dd⟩:=B0 I.aM e
  have hz:vs.length≤sizeLine:=by rw[← rel.length];exact z
  have hl:(putK kvs k v).length≤sizeLine:=by have:=oo kvs k v;lia
  refine wpAny_setItem_pairs (hsz:=hz) (j_ ry) dd fun h' Lj hs=>h _ ?_
  have he:∃q,h'.get? a=some q:=by obtain⟨q,_,_,hq,_⟩:=Lj;exact⟨q,hq⟩
  exact ux I (by rw[e];exact True.intro) hs he (z_ hl hd (rel.put k rv) Lj)
 ·exact False.elim (I.aM _ _ e)
end
section
variable{X:Cx}{pins:List (Addr×Obj)}{σ:St}{H:Hp}{s:Shared}{a:Addr}{kvs:List (Key×V)}{k:Key}{u:Value}{A:Around}{E:Value→Shared→Prop}
theorem Qz(I:Inv X pins σ H s)(e:H a=some (.dK kvs))(ry:RelV (kV k) u)(l:fE kvs k=some v)(hm:more=[]∨∃x,more=[x])
  (h:∀w' s',Inv X pins σ (upd H a (.dK (om kvs k))) s'→RelV v w'→Q w' s'):wpAny (model X.prog X.w) A (call (.builtin "dict.pop") (.ref a::u::more)) Q E s:=by
 obtain⟨z,hd,vs,rel,dd⟩:=B0 I.aM e
 obtain⟨w',hw,rX⟩:=fC.some_of (v:=v) (o:=valueAt vs k) (by rw[← l];exact rel.val k)
 have hp:(keyPart u).isSome=true:=by
  cases k with
  |inl i=>obtain⟨t,q⟩:=(show ∃t,u=Value.int i t from ry);subst q;rfl
  |inr x=>obtain⟨t,q⟩:=(show ∃t,u=Value.str x t from ry);subst q;rfl
 have ha:argsOk "dict.pop" ⟨.ref a::u::more,[]⟩:=by
  rcases hm with q|⟨x,q⟩
  ·subst q;exact PySem.F.args_dict_pop_2 _ _
  ·subst q;exact PySem.F.args_dict_pop_3 _ _ _
 refine call_meetsIn PySem.F.slot_dict_pop dd.typeIs PySem.F.entry_dict_pop ha (meets_dict_pop_there (aH X.prog X.w) a (j_ ry) more hm hp)
  ⟨vs,w',dd,by rw[← rel.length];exact z,hw,fun h' Lj hs=>h w' _ ?_ rX⟩
 have he:∃q,h'.get? a=some q:=by obtain⟨q,_,_,hq,_⟩:=Lj;exact⟨q,hq⟩
 exact ux I (by rw[e];exact True.intro) hs he (z_ (zI (FF kvs k) z) hd (rel.drop k) Lj)
theorem QA(I:Inv X pins σ H s)(e:Rd H a (.dK kvs))(h:∀t s',Inv X pins σ H s'→Q (.int kvs.length t) s'):wpAny (model X.prog X.w) A (call (.builtin "len") [.ref a]) Q E s:=by
 obtain⟨z,hd,vs,rel,dd⟩:=oq I.aM e
 refine call_len_dict hd dd (by rw[← rel.length];rw[zZ] at z;lia) ?_
 rw[← rel.length]
 exact h _ _ (I.tok _)
end
theorem wq(I:Inv X pins σ H s)(g:o_ H a y o):s.TypeIs (.ref a) "dict" := by
 rcases g with ⟨kvs,k,e,_,_⟩|⟨kvs,k,b,e,_,_,_⟩
 ·obtain⟨_,_,vs,_,dd⟩:=oq I.aM e
  exact dd.typeIs
 ·obtain⟨_,_,xs,_,dd⟩:=tD I.aM e
  exact dd.typeIs
def QB(td ty tv:TE):TS:=fun D σ H=>tv σ H fun v H1=>td σ H1 fun x H2=>ty σ H2 fun y H3=>∃a H4,x=.ref a∧FG H3 a y v H4∧D.nx σ H4
section
variable{X:Cx}{o i value:Expr}{pos pos':Pos}{td ty tv:TE}
theorem IW(hu:X.A.units+1<cLine)(ho:PE X o td)(hi:PE X i ty)(hv:PE X value tv)(hs:swapsWith value (some (.Subscript o i pos')) pos.line X.env=pure false) :
  PS X (.Assign [.Subscript o i pos'] value pos) (QB td ty tv):=by
 intro pins s σ H D I h
 refine wpAny_Assign_Subscript (bq (hv pins s σ H _ I h) fun r s1 ⟨v,H1,I1,rv,q1⟩=>bq (ho pins s1 σ H1 _ I1 q1) fun u s2 ⟨x,H2,I2,rx,q2⟩=>bq (hi pins s2 σ H2 _ I2 q2) fun iv s3 ⟨y,H3,I3,ry,a,H4,ex,g,q3⟩=>?_) hs
 subst ex
 obtain rfl:u=Value.ref a:=rx
 exact DH hu I3 g ry rv fun s4 I4=>⟨σ,H4,I4,q3⟩
end
theorem FH(h:Heap)(hb:sysModules<h.objs.size):bp P w H (h.push { cls:=.type "dict",data:=.dict #[] }) h.objs.size (.dK []) :=
 ⟨zS _,beq_eq_false_iff_ne.mpr (Ne.symm (zx hb)),[],.nil,Heap.DictOf.new h⟩
def Nd:TE:=fun _ H Q=>∀p,H p=none→Q (.ref p) (upd H p (.dK []))
section
variable{X:Cx}{pos:Pos}
theorem FI:PE X (.Dict [] [] pos) Nd:=fun pins s σ H Q I h =>
 wpAny_Dict_empty ⟨.ref s.heap.objs.size,_,I.laid (a:=s.heap.objs.size) (o:=.dK []) (t':=s.toks) (fun _ _ q=>za _ q) (zm _) (FH s.heap I.big),rfl,h _ (I.aM.fresh (zm _))⟩
end
structure M1(X:Cx)(o:Expr)(m:Str)(apos:Pos)(e:Expr)(aP:Pos):Prop where
 base:attributeBase o m X.env (eval o X.env)=eval o X.env
 E1:((backTo aP (starEach [e] X.env)).all (fun x=>!x.1) && (backToKw aP (keywordEach [] X.env)).all (fun x=>x.1.isSome)
  && decide (([e]:List Expr).length+([]:List Keyword).length+(if ([]:List Keyword).isEmpty then 0 else 1)<30))=true
 line:(apos.endLine == aP.line)=true
 trees:backTo aP (starEach [e] X.env)=[(false,eval e X.env)]
structure M2(X:Cx)(o:Expr)(m:Str)(apos:Pos)(e f:Expr)(aP:Pos):Prop where
 base:attributeBase o m X.env (eval o X.env)=eval o X.env
 E1:((backTo aP (starEach [e,f] X.env)).all (fun x=>!x.1) && (backToKw aP (keywordEach [] X.env)).all (fun x=>x.1.isSome)
  && decide (([e,f]:List Expr).length+([]:List Keyword).length+(if ([]:List Keyword).isEmpty then 0 else 1)<30))=true
 line:(apos.endLine == aP.line)=true
 trees:backTo aP (starEach [e,f] X.env)=[(false,eval e X.env),(false,eval f X.env)]
def Pb(H:Hp)(a:Addr):Prop:=(∃kvs,Rd H a (.dK kvs))∨∃kvs,Rd H a (.dT kvs)
theorem uy(I:Inv X pins σ H s)(d:Pb H a) :
  s.TypeIs (.ref a) "dict" ∧ (∀b,Value.ref a=.ref b→∃ob,s.heap.get? b=some ob∧ob.dict=none)∧(a == sysModules)=false:=by
 rcases d with ⟨kvs,e⟩|⟨kvs,e⟩
 ·obtain⟨_,hd,vs,_,dd⟩:=oq I.aM e
  refine⟨dd.typeIs,fun b q=>?_,hd⟩
  cases q
  obtain⟨ob,_,_,h1,h2,_⟩:=dd
  exact⟨ob,h1,h2.2.1⟩
 ·obtain⟨_,hd,xs,_,dd⟩:=tD I.aM e
  refine⟨dd.typeIs,fun b q=>?_,hd⟩
  cases q
  obtain⟨ob,_,_,h1,h2,_⟩:=dd
  exact⟨ob,h1,h2.2.1⟩
section
variable{X:Cx}{pins:List (Addr×Obj)}{σ:St}{H:Hp}{s:Shared}{a:Addr}{y d:V}{u r:Value}{o:Option V}{A:Around}{E:Value→Shared→Prop}
theorem Nf(hu:A.units+1<cLine)(I:Inv X pins σ H s)(g:o_ H a y o)(ry:RelV y u)(h:∀w' s',Inv X pins σ H s'→RelV (o.getD .aw) w'→Q w' s') :
  wpAny (model X.prog X.w) A (call (.builtin "dict.get") [.ref a,u]) Q E s:=by
 rcases g with ⟨kvs,k,e,ey,l⟩|⟨kvs,k,b,e,ey,eb,l⟩
 ·subst ey
  obtain⟨z,hd,vs,rel,dd⟩:=oq I.aM e
  refine call_meetsIn yn dd.typeIs PySem.F.entry_dict_get (PySem.F.args_dict_get_2 _ _) (meets_dict_get (aH X.prog X.w) a (j_ ry) hd) ⟨_,dd.mapOf,h _ _ (I.tok _) ?_⟩
  rw[l]
  exact (rel.val k).getD rfl
 ·subst ey
  cases (show u=Value.ref b from ry)
  obtain⟨z,hd,xs,rel,dd⟩:=tD I.aM e
  refine call_meetsIn yn dd.typeIs PySem.F.entry_dict_get (PySem.F.args_dict_get_2 _ _) (meetsH_dict_get (tupleKind (aH X.prog X.w)) a b hd) ⟨tupleKind_room_in1 hu,k,xs,uw I.aM eb,dd,h _ _ (I.tok _) ?_⟩
  rw[l]
  exact (rel.val k).getD rfl
theorem Ng(hu:A.units+1<cLine)(I:Inv X pins σ H s)(g:o_ H a y o)(ry:RelV y u)(rd:RelV d r)(h:∀w' s',Inv X pins σ H s'→RelV (o.getD d) w'→Q w' s') :
  wpAny (model X.prog X.w) A (call (.builtin "dict.get") [.ref a,u,r]) Q E s:=by
 rcases g with ⟨kvs,k,e,ey,l⟩|⟨kvs,k,b,e,ey,eb,l⟩
 ·subst ey
  obtain⟨z,hd,vs,rel,dd⟩:=oq I.aM e
  refine call_meetsIn yn dd.typeIs PySem.F.entry_dict_get (PySem.F.args_dict_get_3 _ _ _) (meets_dict_get_default (aH X.prog X.w) a (j_ ry) hd r) ⟨_,dd.mapOf,h _ _ (I.tok _) ?_⟩
  rw[l]
  exact (rel.val k).getD rd
 ·subst ey
  cases (show u=Value.ref b from ry)
  obtain⟨z,hd,xs,rel,dd⟩:=tD I.aM e
  refine call_meetsIn yn dd.typeIs PySem.F.entry_dict_get (PySem.F.args_dict_get_3 _ _ _) (meetsH_dict_get_default (tupleKind (aH X.prog X.w)) a b hd r) ⟨tupleKind_room_in1 hu,k,xs,uw I.aM eb,dd,h _ _ (I.tok _) ?_⟩
  rw[l]
  exact (rel.val k).getD rd
end
def Nh(td ty:TE):TE:=fun σ H Q=>td σ H fun x H1=>∃a,x=.ref a∧Pb H1 a∧ty σ H1 fun y H2=>∃o,o_ H2 a y o∧Q (o.getD .aw) H2
def Ni(td ty tx:TE):TE:=fun σ H Q=>td σ H fun x H1=>∃a,x=.ref a∧Pb H1 a∧ty σ H1 fun y H2=>tx σ H2 fun z H3=>∃o,o_ H3 a y o∧Q (o.getD z) H3
def Nj(td ty:TE):TE:=fun σ H Q=>td σ H fun x H1=>∃a,x=.ref a∧Pb H1 a∧ty σ H1 fun y H2=>∃kvs k v,H2 a=some (.dK kvs)∧y=kV k∧fE kvs k=some v∧Q v (upd H2 a (.dK (om kvs k)))
section
variable{X:Cx}{o e f:Expr}{apos aP:Pos}{td ty tx:TE}
theorem FJ(hu:X.A.units+1<cLine)(ho:PE X o td)(he:PE X e ty)(m:M1 X o "get" apos e aP):PE X (.Call (.Attribute o "get" apos) [e] [] aP) (Nh td ty):=by
 intro pins s σ H Q I h
 refine wpAny_Call_method m.base m.E1 m.line PySem.F.plainAttrs_dict yn PySem.F.type_dict_get (bq (ho pins s σ H _ I h) fun u s1 ⟨x,H1,I1,rx,a,ex,d,q1⟩=>?_)
 subst ex
 obtain rfl:u=Value.ref a:=rx
 obtain⟨t1,t2,_⟩:=uy I1 d
 refine⟨t1,t2,?_⟩
 rw[m.trees]
 refine Calls.callWith_builtin rfl (Calls.evalArgs_plain (yy (bq (he pins s1 σ H1 _ I1 q1) fun iv s2 ⟨y,H2,I2,ry,ov,g,q2⟩=>Calls.spliced_nil ?_)))
 exact Nf hu I2 g ry fun w' s3 I3 rX=>⟨_,H2,I3,rX,q2⟩
theorem FK(hu:X.A.units+1<cLine)(ho:PE X o td)(he:PE X e ty)(hf:PE X f tx)(m:M2 X o "get" apos e f aP):PE X (.Call (.Attribute o "get" apos) [e,f] [] aP) (Ni td ty tx):=by
 intro pins s σ H Q I h
 refine wpAny_Call_method m.base m.E1 m.line PySem.F.plainAttrs_dict yn PySem.F.type_dict_get (bq (ho pins s σ H _ I h) fun u s1 ⟨x,H1,I1,rx,a,ex,d,q1⟩=>?_)
 subst ex
 obtain rfl:u=Value.ref a:=rx
 obtain⟨t1,t2,_⟩:=uy I1 d
 refine⟨t1,t2,?_⟩
 rw[m.trees]
 refine Calls.callWith_builtin rfl (Calls.evalArgs_plain (yy (bq (he pins s1 σ H1 _ I1 q1) fun iv s2 ⟨y,H2,I2,ry,q2⟩ =>
  yy (bq (hf pins s2 σ H2 _ I2 q2) fun fv s3 ⟨z,H3,I3,rz,ov,g,q3⟩=>Calls.spliced_nil ?_))))
 exact Ng hu I3 g ry rz fun w' s4 I4 rX=>⟨_,H3,I4,rX,q3⟩
theorem FL(ho:PE X o td)(he:PE X e ty)(m:M1 X o "pop" apos e aP):PE X (.Call (.Attribute o "pop" apos) [e] [] aP) (Nj td ty):=by
 intro pins s σ H Q I h
 refine wpAny_Call_method m.base m.E1 m.line PySem.F.plainAttrs_dict PySem.F.slot_dict_pop PySem.F.type_dict_pop (bq (ho pins s σ H _ I h) fun u s1 ⟨x,H1,I1,rx,a,ex,d,q1⟩=>?_)
 subst ex
 obtain rfl:u=Value.ref a:=rx
 obtain⟨t1,t2,_⟩:=uy I1 d
 refine⟨t1,t2,?_⟩
 rw[m.trees]
 refine Calls.callWith_builtin rfl (Calls.evalArgs_plain (yy (bq (he pins s1 σ H1 _ I1 q1) fun iv s2 ⟨y,H2,I2,ry,kvs,k,v,ea,ey,l,q2⟩=>Calls.spliced_nil ?_)))
 subst ey
 exact Qz I2 ea ry l (.inl rfl) fun w' s3 I3 rX=>⟨v,_,I3,rX,q2⟩
end
end L2
namespace Att
open PySem PySem.W PySem.Calls PyProof.Rows
theorem pb{P:Params} : ∀(ns:List Int) (vs:List Value),WellAll P h vs (ns.map WData.int)→IntsAre vs ns:=by
 intro ns
 induction ns with
 |nil =>
  intro vs w
  rw[List.map_nil] at w
  cases w
  exact .nil
 |cons n ns ih =>
  intro vs w
  rw[zB] at w
  cases w with
  |cons a b =>
   cases a
   exact .cons _ _ (ih _ b)
theorem DJ{l:OpenLaw}{n:Nat}(hn:l.most=some n){P:Params}{h:Heap}{args:List WData}{vals:List Value}
  (IX:l.row.toRowW.claim.pre args=true) (VC:WellAll P h vals args) :
  ∃a vs ns,vals=[Value.ref a]∧args=[WData.list (ns.map WData.int)]∧h.get? a=some { cls:=.type "list",data:=.seq vs.toArray }∧IntsAre vs ns∧ns.length≤n:=by
 have Z1:WShape.hasAll [] args [.list .int]=true:=(pre_splitW IX).1
 have hc:l.pre.holds [] { args:=args }=true:=(pre_splitW IX).2
 obtain⟨d,r,rfl,h1,h2⟩:=hasAllW_cons Z1
 obtain rfl:=hasAllW_nil h2
 obtain⟨xs,rfl,h3⟩:=hasW_list h1
 obtain⟨ns,rfl⟩:=items_int h3
 have hlen:ns.length≤n:=by
  unfold OpenLaw.pre at hc
  have h4:(WTm.not (.lt (.lit (.int (n:Int))) (.len (.arg 0)))).holds [] { args:=[.list (ns.map .int)] }=true:=by
   have h4:=(holds_andW hc).1
   rw[hn] at h4
   exact h4
  have h5:=condW_of h4 (w_not (w_lt w_lit (w_len_list (w_arg rfl))))
  rw[zb] at h5
  refine Nat.le_of_not_lt fun q=>?_
  have q':(n:Int)<((ns.length:Nat):Int):=by lia
  first
   | (rw[zq q'] at h5;exact absurd h5 (by decide))
   | (simp at h5;lia)
 cases VC with
 |cons w1 w2 =>
  cases w2
  cases w1 with
  |list ho VD=>exact⟨_,_,ns,rfl,rfl,ho,pb ns _ VD,hlen⟩
theorem DK(l:OpenLaw)(args:List WData):l.row.toRowW.claim.post args (.bool true) args=true :=
 postW_of (r:=l.row.toRowW) (X:=(true == true))
  (show WShape.has [] (.bool true) .bool=true by first|rfl|decide|simp [WShape.has,WShape.arms,WShape.armsAll])
  (show (WTm.eq .res (.lit (.bool true))).value [] { args:=args,res:=some (.bool true),after:=args }=some (.bool (true == true)) from w_eq_bool (w_res rfl) w_lit) rfl
theorem wu{l:OpenLaw}{n:Nat}{q:Program}{loose:List Str}{XP:(Str→Option Value)→Heap→Prop}{YP:World→Heap→Prop}{d:DefRec}
  (hn:l.most=some n) (VE:d.params.defaults=[])
  (call:∀(w:World) (cP aZ:Shared) (mg mb:Str→Option Value) (fa:Addr) (o:Obj) (pm cd doc:Value) (a:Addr) (vs:List Value) (ns:List Int),
   Ground q loose [] XP w cP mg mb aZ.heap→YP w aZ.heap →
   aZ.heap.get? fa=some o→o.data=.func (docDef d.name d.params d.body d.scope pm cd doc)→aZ.heap.CodeRec cd d.name→mg d.name=some (.ref fa) →
   aZ.heap.get? a=some { cls:=.type "list",data:=.seq vs.toArray }→IntsAre vs ns→ns.length≤n→aZ.gens=#[] →
   codeAny (model l.prog w) callerA (.call (.ref fa) ⟨[.ref a],[]⟩) (fun r s'=>r=.ok (.ret (.bool true))∧OldK aZ.heap s'.heap∧s'.os=aZ.os∧AllBare s'.gens) aZ) :
  WalkO q loose XP YP l.row.toRowW d [] (fun f vs=>PySem.call f vs):=by
 intro w cP aZ mg mb G Y fa o pm cd doc dV kV ho hd rO hD Nk hg args vals as IX Z2 hrd VC hlo
 obtain rfl:dV=.none:=Dflts.none hD VE
 obtain rfl:kV=.none:=Dflts.noKw hD
 obtain⟨a,vs,ns,rfl,rfl,Nl,hints,hlen⟩:=DJ hn IX VC
 refine enter_call (yM (call w cP aZ mg mb fa o pm cd doc a vs ns G Y ho (fd_plain hd) rO Nk Nl hints hlen hg) fun r s' hq=>?_)
 obtain⟨rfl,h2,h3,h4⟩:=hq
 exact⟨.inl ⟨.bool true,.bool true,[],rfl,fun _=>rfl,.bool true,DK l _,fun _=>⟨List.Pairwise.nil,fun _ hm=>(nomatch hm)⟩⟩,h2,h3,h4⟩
end Att
namespace L2
open PySem PySem.Spec PyProof.Rows
theorem tE:∀{vs:List Value}{ns:List Int},IntsAre vs ns→Vals (ns.map V.int) vs
 |_,_,.nil=>.nil
 |_,_,.cons n t h=>.cons ⟨t,rfl⟩ (tE h)
def inClass(s:Stmt)(j:Nat):Stmt:=match s with
 |.ClassDef _ _ _ body _ _ _ _ _ _ _=>body.getD j (.Pass ⟨0,0,0,0⟩)
 |_=>.Pass ⟨0,0,0,0⟩
def a_(s:Stmt):Arguments:=match s with
 |.FunctionDef _ a _ _ _ _ _ _ _ _=>a
 |_=>{ posonlyargs:=[],args:=[],vararg:=none,kwonlyargs:=[],kw_defaults:=[],kwarg:=none,defaults:=[] }
def aY(s:Stmt):List Stmt:=match s with
 |.FunctionDef _ _ b _ _ _ _ _ _ _=>b
 |_=>[]
def ae(s:Stmt):Scope:=match s with
 |.FunctionDef _ _ _ _ _ _ sc _ _ _=>sc
 |_=>{ kind:=.function,names:=[],isGenerator:=false,isCoroutine:=false }
abbrev TU:y3:=fun _ _ _ _ _ _=>False
abbrev E0:XK:=fun _ _ _=>False
structure Fun(K:Frag)(x qual:Str)(st:Stmt)(f:Addr)(fd:FuncData):Prop where
 ex:∃(oc:Value) (od:Option Addr) (kV doc pm:Value) (an:Option Addr) (fK ct:Value) (M0:Array (Option Value)),
  fd=fnOf x qual (a_ st) (aY st) (ae st) .none kV doc pm an fK ct∧K.lookup f=some ⟨oc,od,.func fd,M0⟩∧codeIn K fK qual=true
 kp:keepIn K (.ref f)=true
theorem jF(h:n≤1000):n<sizeLine:=Nat.lt_of_le_of_lt h (by decide)
section
variable{X:Cx}
theorem DL:eI X (.builtin "len") (fun xs H Q=>∃a kvs,xs=[V.ref a]∧H a=some (.dK kvs)∧Q (.int kvs.length) H):=by
 intro pins s σ H xs us Q I r h
 obtain⟨a,kvs,rfl,ha,q⟩:=h
 obtain⟨u,rfl,ru⟩:=vals1 r
 cases ru
 exact QA I (.inl ha) fun t s' I'=>⟨.int kvs.length,H,I',⟨t,rfl⟩,q⟩
end
theorem bf{A B:Prop}(h:B):if false=true then A else B:=by
 rw[if_neg zd]
 exact h
theorem cI{A B:Prop}(h:A):if true=true then A else B:=by
 rw[if_pos rfl]
 exact h
section
variable{κ:Type}[DecidableEq κ]
theorem lS:∀{l:List κ}{k:κ},l.Nodup→¬ k∈l→(l++[k]).Nodup
 |[],k,_,_=>by simp
 |a::r,k,h,hk=>by
  obtain⟨h1,h2⟩:=yo.mp h
  show (a::(r++[k])).Nodup
  refine yo.mpr ⟨fun m=>?_,lS h2 fun m=>hk (zi.mpr (Or.inr m))⟩
  rcases zL.mp m with q|q
  ·exact h1 q
  ·exact hk (zi.mpr (Or.inl (zG.mp q).symm))
end
end L2
set_option maxHeartbeats 4000000
namespace L2
open PySem PySem.Spec PyProof.Rows
section
variable{X:Cx}
def E3(i j:Str):Bool:=!decide (j.cps.toList<i.cps.toList)
def tG(i j:Str):Bool:=decide (i.cps.toList<j.cps.toList)
def VF(g:Str→Str→Bool):R2:=fun x y H Q=>∃i j,x=.str i∧y=.str j∧Q (.bl (g i j)) H
theorem DM:gR X (compareOp .LtE) (VF E3):=by
 intro pins s σ H x y v u Q I rx ry h
 obtain⟨i,j,rfl,rfl,q⟩:=h
 obtain⟨t,rfl⟩:=rx
 obtain⟨t',rfl⟩:=ry
 exact P.le_str (aJ I q rfl)
theorem DN:gR X (compareOp .GtE) (VF fun i j=>E3 j i):=by
 intro pins s σ H x y v u Q I rx ry h
 obtain⟨i,j,rfl,rfl,q⟩:=h
 obtain⟨t,rfl⟩:=rx
 obtain⟨t',rfl⟩:=ry
 exact P.ge_str (aJ I q rfl)
theorem DP:gR X (compareOp .Gt) (VF fun i j=>tG j i):=by
 intro pins s σ H x y v u Q I rx ry h
 obtain⟨i,j,rfl,rfl,q⟩:=h
 obtain⟨t,rfl⟩:=rx
 obtain⟨t',rfl⟩:=ry
 exact P.gt_str (aJ I q rfl)
def Lk(_ j:Int):Prop:=0<j∧j.natAbs.log2<9000
theorem FN:gR X (binaryOp .FloorDiv) (rI Lk fun i j=>.int (i / j)):=TM fun i j _ _ _ _ _ hc q=>by
 have hj:j≠0:=by have:=hc.1;omega
 exact floordiv_int hj (by rw[Int.fdiv_eq_ediv_of_nonneg _ (by have:=hc.1;omega)];exact q) (.inl (PyProof.noPylong_of_log2 hc.2))
end
def VG(x:Str):It:=⟨fun i _=>i<x.cps.size,fun i H v H'=>H'=H∧∃c,x.cps[i]?=some c∧v=.str ⟨#[c]⟩,fun i _=>x.cps.size≤i⟩
theorem wx{P:Program}{w:World}{K:Frag}{tg:Expr}{T:String}(hT:["enumerate","zip","dict_itemiterator","dict_reverseitemiterator","odict_iterator","itertools.zip_longest","itertools.pairwise"].contains T=false)(it:Addr)(x:Str)(t:Tok)
  (W:∀A':Around,A'.handled=none→Walks P w A' it [it] [it] x.cps.size (SignAt x) (fun i h=>h.IsStrIter it T x t i))
  (VH:∀(A:Around) (s:Shared) (E:Value→Shared→Prop) (i:Nat) (Q:Option Value→Shared→Prop),A.handled=none→s.heap.IsStrIter it T x t i→x.cps[i]?=none→(∀h',Heap.ExtBut it s.heap h'→Q none { s with heap:=h' })→wpAny (model P w) A (pyNext (.ref it)) Q E s)
  (QC:∀(A:Around) (s:Shared) (E:Value→Shared→Prop) (i:Nat) (Q:Value→Shared→Prop),s.heap.IsStrIter it T x t i→Q (.ref it) s→wpAny (model P w) A (pyIter (.ref it)) Q E s) :
  Turn P w K tg (VG x) [it] it (fun i h=>h.IsStrIter it T x t i) where
 mem:=by simp
 obj:=fun i h st b hb=>by
  have e:b=it:=by simpa using hb
  subst e
  obtain⟨o,e,c,d⟩:=st
  exact⟨o,e,fun v z=>by rw[d] at z;cases z⟩
 keep:=fun i h h' st k=>by
  obtain⟨o,e,c,d⟩:=st
  exact⟨o,k it (by simp) o e,c,d⟩
 item:=by
  intro X hP hw hK hc i pins s σ H E I hf st hg
  subst hP hw hK
  obtain⟨f0,f1,f2,f3,f4,f5⟩:=hf it (by simp)
  refine (W X.A (I.ok.hd hc)).item i s _ _ hg st fun v h' tk hv eC kk=>?_
  obtain⟨c,u,IY,rfl⟩:=hv
  have I1:Inv X pins σ H { s with heap:=h',toks:=tk }:=I.turned (fun b o hb e=>kk b o (by simpa using hb) e) f0 f1 f3 f4 f5
  obtain⟨o,e,c',d⟩:=id eC
  exact !⟨sY (s:={ s with heap:=h',toks:=tk }) e c' d hT ⟨.str ⟨#[c]⟩,H,I1,⟨u,rfl⟩,⟨rfl,c,IY,rfl⟩,eC,fun b hb=>(hf b hb).1⟩⟩
 done:=by
  intro X hP hw hK hc i pins s σ H E I hf st hg
  subst hP hw hK
  obtain⟨f0,f1,f2,f3,f4,f5⟩:=hf it (by simp)
  have hg:x.cps.size≤i:=hg
  exact VH X.A s E i _ (I.ok.hd hc) st (by simp;exact hg) fun h' eb=>⟨rfl,I.turned (t':=s.toks) (fun b o hb e=>eb b o hb e) f0 f1 f3 f4 f5⟩
 self:=fun A' i s Q E st h=>QC A' s E i Q st h
section
variable{X:Cx}{tg:Expr}
def VI(tl:TE):TI:=fun σ H R=>tl σ H fun x H1=>∃z,x=.str z∧R (VG z) H1
theorem Nm(hl:PE X l tl):PI X tg l (VI tl):=by
 intro pins s σ H R I h
 refine bq (hl pins s σ H _ I h) fun v s1 ⟨x,H1,I1,r1,q1⟩=>?_
 obtain⟨z,e,q⟩:=q1
 subst e
 obtain⟨t,rfl⟩:=r1
 have fin:∀(T:String) (_:Turn X.prog X.w X.K tg (VG z) [s1.heap.objs.size] s1.heap.objs.size (fun i h=>h.IsStrIter s1.heap.objs.size T z t i)),
   Va X pins σ tg R (.ref s1.heap.objs.size) { s1 with heap:=s1.heap.push { cls:=.type T,data:=.fields #[.str z t,.int 0 0] } }:=fun T tn=>by
  refine⟨s1.heap.objs.size,[s1.heap.objs.size],_,_,H1,rfl,I1.kept (t':=s1.toks) fun b o e=>za _ e,tn,⟨_,zj _ rfl,rfl,rfl⟩,fun b hb=>?_,q⟩
  have e:b=s1.heap.objs.size:=by simpa using hb
  subst e
  exact I1.oX (zm _) (I1.aM.fresh (zm _))
 cases ha:z.cps.all (·<128)
 ·exact wpAny_pyIter_wide ha (fin _ (wx (by decide) _ z t (fun A' hA=>Walks.strWide hA _ z t) (fun A s E i Q hh st hx hQ=>wpAny_pyNext_wide_end hh st hx hQ) (fun A s E i Q st hq=>wpAny_pyIter_striter_wide st hq)))
 ·exact wpAny_pyIter_ascii ha (fin _ (wx (by decide) _ z t (fun A' hA=>Walks.strAscii hA _ z t) (fun A s E i Q hh st hx hQ=>wpAny_pyNext_ascii_end hh st hx hQ) (fun A s E i Q st hq=>wpAny_pyIter_striter_ascii st hq)))
end
def clOf(cells:List (Str×Addr))(names:List (Str×NameKind)):List (Str×Addr) :=
 names.foldl (fun cs p=>if p.2 == .free then match cells.lookup p.1 with|some a=>(p.1,a)::cs|none=>cs else cs) []
theorem qj(cells:List (Str×Addr)):∀(names:List (Str×NameKind)) (cs:List (Str×Addr)),(∀x c,cs.lookup x=some c→cells.lookup x=some c) →
  ∀x c,(names.foldl (fun cs p=>if p.2 == .free then match cells.lookup p.1 with|some a=>(p.1,a)::cs|none=>cs else cs) cs).lookup x=some c→cells.lookup x=some c
 |[],cs,h=>h
 | (n,k)::r,cs,h=>by
  rw[yI]
  refine qj cells r _ fun x c e=>?_
  dsimp only at e
  split at e
  ·split at e
   ·rename_i a ha
    rw[zW] at e
    split at e
    ·rename_i hx
     have:=LawfulBEq.eq_of_beq hx
     cases e
     rw[this]
     exact ha
    ·exact h x c e
   ·exact h x c e
  ·exact h x c e
theorem tH(cells:List (Str×Addr)):∀(names:List (Str×NameKind)) (cs:List (Str×Addr)) (x:Str) (c:Addr),(∀y c,cs.lookup y=some c→cells.lookup y=some c)→cs.lookup x=some c →
  (names.foldl (fun cs p=>if p.2 == .free then match cells.lookup p.1 with|some a=>(p.1,a)::cs|none=>cs else cs) cs).lookup x=some c
 |[],cs,x,c,_,h=>h
 | (n,k)::r,cs,x,c,hs,h=>by
  rw[yI]
  have Pc:∀y c,(if (k == NameKind.free)=true then match cells.lookup n with|some a=>(n,a)::cs|none=>cs else cs).lookup y=some c→cells.lookup y=some c:=by
   intro y c e
   split at e
   ·split at e
    ·rename_i a ha
     rw[zW] at e
     split at e
     ·rename_i hx
      have:=LawfulBEq.eq_of_beq hx
      cases e
      rw[this]
      exact ha
     ·exact hs y c e
    ·exact hs y c e
   ·exact hs y c e
  refine tH cells r _ x c Pc ?_
  dsimp only
  split
  ·split
   ·rename_i a ha
    rw[zW]
    split
    ·rename_i hx
     have:=LawfulBEq.eq_of_beq hx
     rw[this] at h
     have:=hs _ _ h
     rw[ha] at this
     exact this
    ·exact h
   ·exact h
  ·exact h
theorem iV(cells:List (Str×Addr)):∀(names:List (Str×NameKind)) (cs:List (Str×Addr)) (x:Str) (c:Addr),(∀y c,cs.lookup y=some c→cells.lookup y=some c)→(x,NameKind.free)∈names→cells.lookup x=some c →
  (names.foldl (fun cs p=>if p.2 == .free then match cells.lookup p.1 with|some a=>(p.1,a)::cs|none=>cs else cs) cs).lookup x=some c
 |[],cs,x,c,_,h,_=>nomatch h
 | (n,k)::r,cs,x,c,hs,h,hc=>by
  rw[yI]
  have Pc:∀y c,(if (k == NameKind.free)=true then match cells.lookup n with|some a=>(n,a)::cs|none=>cs else cs).lookup y=some c→cells.lookup y=some c:=by
   intro y c e
   split at e
   ·split at e
    ·rename_i a ha
     rw[zW] at e
     split at e
     ·rename_i hx
      have:=LawfulBEq.eq_of_beq hx
      cases e
      rw[this]
      exact ha
     ·exact hs y c e
    ·exact hs y c e
   ·exact hs y c e
  rcases zi.mp h with e|h
  ·cases e
   refine tH cells r _ _ c Pc ?_
   dsimp only
   rw[if_pos (show (NameKind.free == NameKind.free)=true by decide),hc]
   simp [zW]
  ·exact iV cells r _ x c Pc h hc
theorem fX{scope:Scope}{env:Env}(h:∀x∈scope.names,x.2=.free→∃c,env.cells.lookup x.1=some c):closureFor scope env=pure (clOf env.cells scope.names):=by
 have go:∀(names:List (Str×NameKind)) (cs:List (Str×Addr)),(∀x∈names,x.2=.free→∃c,env.cells.lookup x.1=some c) →
   (forIn names cs fun x r=>match x with|(name,kind)=>if (kind == NameKind.free)=true then do let a ← cellOf env name;pure (ForInStep.yield ((name,a)::r)) else pure (ForInStep.yield r):Sem (List (Str×Addr))) =
    pure (names.foldl (fun cs p=>if p.2 == .free then match env.cells.lookup p.1 with|some a=>(p.1,a)::cs|none=>cs else cs) cs):=by
  intro names
  induction names with
  |nil=>intro cs _;rfl
  |cons p r ih =>
   intro cs hp
   obtain⟨n,k⟩:=p
   rw[List.forIn_cons,yI]
   by_cases hk:k=.free
   ·subst hk
    obtain⟨c,hc⟩:=hp _ zo rfl
    have hc:env.cells.lookup n=some c:=hc
    have e1:cellOf env n=pure c:=by unfold cellOf;rw[hc]
    have ef:(NameKind.free == NameKind.free)=true:=by decide
    dsimp only
    rw[if_pos ef,if_pos ef,e1,hc]
    exact ih _ fun x hx=>hp x (zh _ hx)
   ·have FO:(k == NameKind.free)=false:=by simpa using hk
    dsimp only
    rw[FO,if_neg zd,if_neg zd]
    exact ih _ fun x hx=>hp x (zh _ hx)
 have e:=go scope.names [] h
 have e2:closureFor scope env=(forIn scope.names [] (fun x r=>match x with|(name,kind)=>if (kind == NameKind.free)=true then do let a ← cellOf env name;pure (ForInStep.yield ((name,a)::r)) else pure (ForInStep.yield r)):Sem (List (Str×Addr))) >>= fun cs=>pure cs:=rfl
 rw[e2,e]
 rfl
theorem iW{env:Env}{names:List (Str×NameKind)}{x:Str} :
  (names.map fun (n,k)=>if (k == NameKind.free && env.scope.kind == .function && env.kindOf n == some .cell) then (n,NameKind.cell) else (n,k)).lookup x =
   (names.lookup x).map fun k=>if (k == NameKind.free && env.scope.kind == .function && env.kindOf x == some .cell) then NameKind.cell else k:=by
 induction names with
 |nil=>rfl
 |cons p r ih =>
  obtain⟨n,k⟩:=p
  rw[zB,zW]
  by_cases hc:(k == NameKind.free && env.scope.kind == .function && env.kindOf n == some .cell)=true
  ·dsimp only
   rw[if_pos hc,zW]
   cases hx:x == n with
   |true =>
    have:=LawfulBEq.eq_of_beq hx
    subst this
    dsimp only [Option.map]
    rw[if_pos hc]
   |false=>exact ih
  ·dsimp only
   rw[if_neg hc,zW]
   cases hx:x == n with
   |true =>
    have:=LawfulBEq.eq_of_beq hx
    subst this
    dsimp only [Option.map]
    rw[if_neg hc]
   |false=>exact ih
def ip(X:Cx)(N:List Str)(scope:Scope)(C:Addr)(s:Shared)(H:Hp)(ex:List Addr)(pn:List (Addr×Obj)):Cx :=
 { X with N:=N,cP:=s,um:=H,env:=compEnvC scope (clOf X.env.cells scope.names) C X.env,outer:=X.stack,ex:=ex,fn:=fun _=>false,pn:=pn,xe:=fun _ _=>False }
def pick(σ:St)(src:List (Option Nat)):St:=src.map fun o=>match o with|some j=>(σ[j]?).join|none=>none
structure bJ(X:Cx)(N:List Str)(src:List (Option Nat))(scope:Scope):Prop where
 kind:scope.kind=.function
 fY:∀y∈scope.names,y.2≠.cell
 loc:∀y∈scope.names,y.2=.local→scope.names.lookup y.1=some .local
 Ab:∀y∈scope.names,y.2=.free→X.env.kindOf y.1=some .cell∨X.env.kindOf y.1=some .free
 len:src.length=N.length
 src:∀(i j:Nat) (x:Str),src[i]?=some (some j)→N[i]?=some x→X.N[j]?=some x∧scope.names.lookup x=some .free∧O8 X.env.scope x
def Ext(σ aG:St):Prop:=aG.length=σ.length∧∀(j:Nat) v,σ[j]?=some (some v)→aG[j]?=some (some v)
def Ac(g:TG)(src:List (Option Nat)):Prop:=∀x σ H Q,g x (pick σ src) H Q→g x (pick σ src) H fun aG H'=>Ext (pick σ src) aG∧Q aG H'
def FP(wi:TI)(src:List (Option Nat))(g:TG)(tc:TT)(te:TE):TE:=fun σ H Q=>wi σ H fun J H1 =>
 ∃W:Nat→Nat→List V→Hp→Prop,(∃m,W 0 m [] H1)∧∀i m out H',W i m out H' →
  (J.stop i H'∧∀D,H' D=none→Q (.ref D) (upd H' D (.lst out))) ∨
  (J.go i H'∧out.length<sizeLine∧∀x H2,J.P_ i H' x H2→g x (pick σ src) H2 fun iI H3=>tc iI H3 fun b H4 =>
   if b=true then te iI H4 fun v H5=>∃m',m'<m∧W (i+1) m' (out++[v]) H5 else ∃m',m'<m∧W (i+1) m' out H4)
section
variable{X:Cx}{N:List Str}{src:List (Option Nat)}{scope:Scope}{tg iter elt:Expr}{ifs:List Expr}{pos:Pos}{wi:TI}{g:TG}{tc:TT}{te:TE}
def Pd(X:Cx)(ifs:List Expr)(t:TT):Prop :=
 ∀(pins:List (Addr×Obj)) (s:Shared) (σ:St) (H:Hp) (Q:Bool→Hp→Prop),Inv X pins σ H s→t σ H Q →
  wpAny (model X.prog X.w) X.A (forIn ifs true fun c r=>if r=true then do let ok ← isTrue c X.env (eval c X.env);pure (ForInStep.yield ok) else pure (ForInStep.yield r)) (TP X pins σ Q) X.xe s
def QD:TT:=fun _ H Q=>Q true H
theorem IZ:Pd X [] QD:=fun pins s σ H Q I h=>wpAny_tests_nil ⟨H,I,h⟩
theorem I0{t:TT}(h:PT X c t):Pd X [c] t:=fun pins s σ H Q I hw=>wpAny_tests_one (h pins s σ H Q I hw)
theorem jS(Pe:∀x s',EE x s'→notedBy (model prog w) A env (fun e s'=>R (.error e) s') x s')(I:Nat→Shared→Prop)
  (turn:∀n s,I n s→wpAny (model prog w) A (pyNext it) (fun r aZ=>match r with
   |none=>R (.ok .next) aZ
   |some v=>wpAny (model prog w) A (letOwnedTupleGo target it v) (fun _ Ll=>wpAny (model prog w) A (assign target env v) (fun _ bP =>
     wpAny (model prog w) A (forIn ifs true fun c r=>if r=true then do let ok ← isTrue c env (eval c env);pure (ForInStep.yield ok) else pure (ForInStep.yield r)) (fun ok yR =>
      if ok=true then wpAny (model prog w) A (eval elt env) (fun x wz =>
       wpAny (model prog w) A (call (.builtin "list.append") [acc,x]) (fun _ QE=>∃m,m<n∧I m QE) EE wz) EE yR
      else ∃m,m<n∧I m yR) EE bP) EE Ll) EE aZ) EE s)
  (n:Nat) (h:I n s) :
  codeAny (model prog w) A (.compLoop (.ListComp elt [⟨target,iter,ifs,0⟩] scope pos) 0 it acc env) R s:=by
 refine codeAny_loop rfl I (fun n s hI=>?_) n h
 show wpAny _ A ((compTurn (.ListComp elt [⟨target,iter,ifs,0⟩] scope pos) 0 it acc env).onRaise (fun x=>do noteFrame x env;theTreesLotGoes x)) _ _ s
 refine wpAny_noted ?_
 rw[compTurn_list]
 refine zc (wpAny_standAt (zc (yz (turn n s hI) (fun r aZ h₁=>?_) Pe)))
 cases r with
 |none=>exact zu h₁
 |some v =>
  refine zc (yz h₁ (fun _ Ll QF=>?_) Pe)
  refine zc (yz QF (fun _ bP VJ=>zc (yz VJ (fun ok yR QG=>?_) Pe)) Pe)
  cases ok with
  |false=>exact zu ⟨rfl,QG⟩
  |true =>
   exact zc (zc (yz QG (fun x wz VL=>zc (yz VL (fun _ QE VM=>zu (zu ⟨rfl,VM⟩)) Pe)) Pe))
def CompEnd(X:Cx)(pins:List (Addr×Obj))(σ:St)(Q:VK)(D C:Addr)(s':Shared):Prop :=
 ∃H' m,Inv X pins σ H' s'∧Q (.ref D) H'∧s'.heap.Ns C m∧H' C=none∧C≠X.env.locals∧X.cP.heap.objs.size≤C∧(∀x c,X.env.cells.lookup x=some c→c≠C)∧(∀p∈X.pn++pins,p.1≠C)
theorem tI{pins:List (Addr×Obj)}{bP:Shared}{σ:St}{iJ:Hp}{Q:VK}{it:Addr}{fp:List Addr}{tn:Nat→Heap→Prop}{J:It}{E:Value→Shared→Prop}(S:bJ X N src scope)(hc:X.calm=true)
  (hg:∀C s H ex pn,PG (ip X N scope C s H ex pn) tg g) (hx:Ac g src) (hi:∀C s H ex pn,Pd (ip X N scope C s H ex pn) ifs tc) (he:∀C s H ex pn,PE (ip X N scope C s H ex pn) elt te)
  (I:Inv X pins σ iJ bP) (T:Turn X.prog X.w X.K tg J fp it tn) (st:tn 0 bP.heap) (ff:∀b∈fp,rW X pins iJ b)
  (W:Nat→Nat→List V→Hp→Prop) (w0:∃m,W 0 m [] iJ)
  (turn:∀i m out H',W i m out H'→(J.stop i H'∧∀D,H' D=none→Q (.ref D) (upd H' D (.lst out))) ∨
   (J.go i H'∧out.length<sizeLine∧∀x H2,J.P_ i H' x H2→g x (pick σ src) H2 fun iI H3=>tc iI H3 fun b H4 =>
    if b=true then te iI H4 fun v H5=>∃m',m'<m∧W (i+1) m' (out++[v]) H5 else ∃m',m'<m∧W (i+1) m' out H4))
  {RR:Value→Addr→Result→Shared→Prop} (Z3:∀D C s',CompEnd X pins σ Q D C s'→RR (.ref D) C (.ok .next) s') :
  wpAny (model X.prog X.w) X.A (newList []) (fun acc yR=>wpAny (model X.prog X.w) X.A (newFunctionEnv scope X.env.globals (clOf X.env.cells scope.names) [] X.env.qual none .none (some X.env)) (fun QH wz =>
   codeAny (model X.prog X.w) X.A (.compStart (.ListComp elt [⟨tg,iter,ifs,0⟩] scope pos) 0 (.ref it) acc { QH with scope:=relabel scope X.env }) (RR acc QH.locals) wz) E yR) E bP:=by
 refine yA (wpAny_newFunctionEnv S.fY (by intro y hy;simp at hy) (fun h₁ uz qk=>?_) S.kind)
 dsimp only at uz qk ⊢
 generalize VN:bP.heap.push { cls:=.type "list",dict:=none,data:=.seq ([]:List Value).toArray }=G2 at uz qk ⊢
 have hC:G2.objs.size=bP.heap.objs.size+1:=by rw[← VN,zU]
 have Pf:bP.heap.objs.size≠G2.objs.size:=by rw[hC];exact zx (yE _)
 have I9:bP.heap.objs.size≤G2.objs.size:=by rw[hC];exact yO _
 have old:∀b o,bP.heap.get? b=some o→h₁.get? b=some o:=fun b o e =>
  qk.extBut b o (zx (zl (zt e) I9)) (za _ (VN ▸ za _ e))
 have ql:h₁.get? bP.heap.objs.size=some { cls:=.type "list",dict:=none,data:=.seq ([]:List Value).toArray }:=qk.extBut _ _ Pf (za _ (VN ▸ zj _ rfl))
 generalize hCC:G2.objs.size=C at hC Pf I9 uz qk ⊢
 have lT:bP.heap.objs.size≤C:=I9
 generalize hD:bP.heap.objs.size=D at hC Pf I9 ql ⊢
 have iq:∀x c,(clOf X.env.cells scope.names).lookup x=some c→X.env.cells.lookup x=some c:=qj X.env.cells scope.names [] (by intro x c h;simp at h)
 have FQ:∀x c,X.env.cells.lookup x=some c→c<bP.heap.objs.size:=fun x c e=>by obtain⟨v,q⟩:=I.cell x c e;exact q.lt
 have Nn:∀b∈fp,b<bP.heap.objs.size:=fun b hb=>by
  obtain⟨o,e,_⟩:=T.obj _ _ st b hb
  exact zt e
 -- the block's context
 have ok:(ip X N scope C bP iJ fp (X.pn++pins)).Ok:=by
  refine⟨I.ok.mod,S.kind,I.ok.glob,I.ok.blt,lT,fun x y c h1 h2=>I.ok.inj x y c (iq _ _ h1) (iq _ _ h2),fun x hk=>?_,fun x c h=>(nomatch h),I.ok.hd,I.ok.frames,.inl rfl,fun b hb=>⟨?_,fun x c h=>?_⟩,
   I.bs,zI I.ok.Iw I.sz,fun b o e hb=>?_,fun b hb hf=>?_,I.stack,I.pF⟩
  ·-- cells for the names
   have hk:(relabel scope X.env).names.lookup x=some .cell∨(relabel scope X.env).names.lookup x=some .free:=hk
   unfold relabel at hk
   dsimp only at hk
   rw[iW] at hk
   cases hl:scope.names.lookup x with
   |none=>rw[hl] at hk;rcases hk with z|z <;> cases z
   |some k =>
    rw[hl] at hk
    have hm:=yb hl
    have QI:k=.free:=by
     by_cases QI:k=.free
     ·exact QI
     ·exfalso
      have e1:(k == NameKind.free)=false:=by simpa using QI
      simp only [Option.map,e1,zP,Bool.false_eq_true,if_false] at hk
      rcases hk with z|z
      ·exact S.fY _ hm (zM z)
      ·exact QI (zM z)
    subst QI
    obtain⟨c,IY⟩:=I.ok.has x (S.Ab _ hm rfl)
    exact⟨c,iV X.env.cells scope.names [] x c (by intro x c h;simp at h) hm IY⟩
  ·exact zx (zl (Nn b hb) lT)
  ·exact (ff b hb).2.2.2.2.1 x c (iq _ _ h)
  ·have q:b∈X.ex∨X.cP.heap.objs.size≤b:=(ff b hb).2.2.2.1
   rcases q with q|q
   ·exact I.ok.Mm b o e q
   ·exact absurd (zl (zt e) (zI I.ok.Iw q)) (yr _)
  ·rcases zi.mp (I.m6 b hf) with z|z
   ·exact (ff b hb).2.1 z
   ·exact (ff b hb).2.2.1 z
 have QJ:∀p∈X.pn++pins,p.1∉mZ X.stack:=fun p hp z=>by
  obtain⟨_,_,ne,nf,_⟩:=I.pin p hp
  rcases zi.mp (I.m6 _ z) with q|q
  ·exact ne q
  ·exact nf q
 have FR:∀p∈X.pn++pins,p.1<bP.heap.objs.size:=fun p hp=>zt (I.pin p hp).1
 have QK:∀b∈mZ X.stack,b<bP.heap.objs.size:=fun b hb=>by
  rcases zi.mp (I.m6 b hb) with z|z
  ·rw[z];exact I.lt
  ·obtain⟨_,o,ho,_⟩:=I.ok.oW.mem z
   exact zl (zt ho) I.sz
 have VO:∀(i:Nat) (x:Str) (v:V),N[i]?=some x→(pick σ src)[i]?=some (some v)→∃u c,RelV v u∧(clOf X.env.cells scope.names).lookup x=some c∧bP.heap.IsCell c (some u)∧scope.names.lookup x=some .free:=fun i x v e1 e2=>by
  unfold pick at e2
  rw[zp] at e2
  cases es:src[i]? with
  |none=>rw[es] at e2;cases e2
  |some o =>
   rw[es] at e2
   cases o with
   |none=>cases e2
   |some j =>
    have e3:(σ[j]?).join=some v:=zM e2
    have e4:σ[j]?=some (some v):=by
     cases q:σ[j]? with
     |none=>rw[q] at e3;cases e3
     |some z=>rw[q] at e3;exact congrArg some e3
    obtain⟨a1,a2,a3⟩:=S.src i j x es e1
    obtain⟨m0,_,hl⟩:=I.loc
    obtain⟨u,r,l⟩:=hl j x v a1 e4 a3
    have hm:=yb a2
    have hk:=S.Ab _ hm rfl
    rcases l with ⟨k,_⟩|⟨_,c,IY,z⟩
    ·rcases hk with hk|hk <;> (rw[k] at hk;cases hk)
    ·exact⟨u,c,r,iV X.env.cells scope.names [] x c (by intro x c h;simp at h) hm IY,z,a2⟩
 have kinds:∀x,scope.names.lookup x=some .free→(compEnvC scope (clOf X.env.cells scope.names) C X.env).kindOf x=some .cell∨(compEnvC scope (clOf X.env.cells scope.names) C X.env).kindOf x=some .free:=fun x hx=>by
  show (relabel scope X.env).names.lookup x=some .cell∨(relabel scope X.env).names.lookup x=some .free
  unfold relabel
  dsimp only
  rw[iW,hx]
  dsimp only [Option.map]
  split
  ·exact .inl rfl
  ·exact .inr rfl
 have Ic:Inv (ip X N scope C bP iJ fp (X.pn++pins)) [] (pick σ src) iJ { bP with heap:=h₁,toks:=bP.toks+([]:List (Str×Value)).length }:=by
  refine⟨ok,rfl,I.bare,Un.kept old,⟨_,uz,fun i x v e1 e2 e3=>?_⟩,fun x c e=>?_,I.aM.fresh lT,fun x c e=>I.fI x c (iq x c e),fun p hp=>?_,I.aM.kept old,?_⟩
  ·obtain⟨u,c,r,e5,⟨o,ho,hd⟩,hf⟩:=VO i x v e1 e2
   exact⟨u,r,.inr ⟨kinds x hf,c,e5,⟨o,old _ _ ho,hd⟩⟩⟩
  ·obtain⟨v,o,ho,hd⟩:=I.cell x c (iq x c e)
   exact⟨v,o,old _ _ ho,hd⟩
  ·have hp:p∈X.pn++pins:=by simpa [ip] using hp
   obtain⟨e,n,_,_,d⟩:=I.pin p hp
   exact⟨old _ _ e,n,zx (zl (FR p hp) lT),QJ p hp,d⟩
  ·show (pick σ src).length=N.length
   unfold pick
   rw[zb,S.len]
 have wA:bP.heap.objs.size≤D:=Nat.le_of_eq hD
 have Np:D∉mZ X.stack:=fun z=>absurd (zl (QK D z) wA) (yr _)
 have Ln:D∉fp:=fun z=>absurd (zl (Nn D z) wA) (yr _)
 have oX:∀{pl:List (Addr×Obj)}{H':Hp},(∀b∈fp,H' b=none)→(∀p∈pl,p.1∉fp)→∀b∈fp,rW (ip X N scope C bP iJ fp (X.pn++pins)) pl H' b:=fun {pl H'} hn dD b hb=>by
  obtain⟨f0,f1,f2,f3,f4,f5⟩:=ff b hb
  refine⟨hn b hb,zx (zl (Nn b hb) lT),fun z=>?_,.inl hb,fun x c e=>f4 x c (iq x c e),fun p hp=>?_⟩
  ·rcases zi.mp (I.m6 b z) with q|q
   ·exact f1 q
   ·exact f2 q
  ·have hp:p∈(X.pn++pins)++pl:=hp
   rcases zL.mp hp with hp|hp
   ·exact f5 p hp
   ·exact fun z=>dD p hp (z ▸ hb)
 -- back in the def's own frame
 have back:∀{s':Shared}{H':Hp}{out:List V}{aA:List Value}{nn:Nat}{aG:St},Inv (ip X N scope C bP iJ fp (X.pn++pins)) [] aG H' s'→H' D=none→out.length≤sizeLine→Vals out aA →
   s'.heap.get? D=some { cls:=.type "list",data:=.seq aA.toArray nn }→(∀D,H' D=none→Q (.ref D) (upd H' D (.lst out)))→CompEnd X pins σ Q D C s':=fun {s' H' out aA nn aG} I' hn hl hv ho q=>by
  obtain⟨m,hm,_⟩:=I'.loc
  have un:Un (mZ X.stack) fp iJ H' bP.heap s'.heap:=I'.base
  have Z4:∀b o,bP.heap.get? b=some o→b≠D:=fun b o e=>zx (zl (zt e) wA)
  have fD:iJ D=none:=I.aM.fresh wA
  refine⟨upd H' D (.lst out),m,?_,q D hn,hm,by rw[ax (Ne.symm Pf)];exact I'.free,yg (zl I.lt lT),zI I.sz lT,fun x c e=>zx (zl (FQ x c e) lT),fun p hp=>zx (zl (FR p hp) lT)⟩
  refine I.P1 (ch:=fp) I'.os ⟨un.keep,un.slot,fun b o e n hb=>?_,un.there,fun b xs e=>?_,fun b o u e=>?_,fun b ps e=>?_⟩ (fun b o e=>?_) I'.bare fun b hb=>?_
  ·rw[ax (Z4 b o e)];exact un.free b o e n hb
  ·rw[ax (aD e fD)];exact un.lN b xs e
  ·rw[ax (aD e fD)];exact un.kK b o u e
  ·rw[ax (aD e fD)];exact un.kL b ps e
  ·by_cases hb:b=D
   ·subst hb
    rw[aF] at e
    cases e
    exact⟨hl,aA,nn,hv,ho⟩
   ·rw[ax hb] at e
    refine (I'.aM b o e).oV (fun c v _ q=>q) (fun c q=>?_) fun c xs q=>?_
    ·rw[ax (aD q hn)];exact q
    ·rw[ax (aD q hn)];exact q
  ·obtain⟨f0,f1,f2,f3,f4,f5⟩:=ff b hb
   exact⟨f3,f1,f4,f5⟩
 obtain⟨m0,w0⟩:=w0
 have loop:∀wz:Shared,wz={ bP with heap:=h₁,toks:=bP.toks+([]:List (Str×Value)).length } →
   codeAny (model X.prog X.w) X.A (.compLoop (.ListComp elt [⟨tg,iter,ifs,0⟩] scope pos) 0 (.ref it) (.ref D) (compEnvC scope (clOf X.env.cells scope.names) C X.env)) (RR (.ref D) C) wz:=by
  rintro wz rfl
  refine jS (EE:=fun _ _=>False) (fun _ _ f=>f.elim) (fun n s'=>∃i out aA nn H',Inv (ip X N scope C bP iJ fp (X.pn++pins)) [] (pick σ src) H' s'∧H' D=none∧out.length≤sizeLine∧Vals out aA ∧
   s'.heap.get? D=some { cls:=.type "list",data:=.seq aA.toArray nn }∧tn i s'.heap∧(∀b∈fp,H' b=none)∧W i n out H') ?_ m0
   ⟨0,[],[],0,iJ,Ic,I.aM.fresh wA,zS _,.nil,ql,T.keep _ _ _ st fun b hb o e=>old b o e,fun b hb=>(ff b hb).1,w0⟩
  rintro n s3 ⟨i,out,aA,nn,H3,I3,Ys,Pg,TV,Z5,IF,Qc,w3⟩
  have Nq:∀(aA:List Value) (nn:Nat) (v:Option Value),({ cls:=.type "list",data:=.seq aA.toArray nn } : Obj).data≠.cell v:=fun _ _ _ z=>nomatch z
  have Yt:Inv (ip X N scope C bP iJ fp (X.pn++pins)) [(D,{ cls:=.type "list",data:=.seq aA.toArray nn })] (pick σ src) H3 s3:=I3.lO fun p hp=>by
   have e:p=(D,{ cls:=.type "list",data:=.seq aA.toArray nn }):=by simpa using hp
   subst e
   exact⟨Z5,Ys,Pf,Np,Nq aA nn⟩
  have VP:∀p∈[((D,{ cls:=.type "list",data:=.seq aA.toArray nn }):Addr×Obj)],p.1∉fp:=fun p hp=>by
   have e:p=(D,{ cls:=.type "list",data:=.seq aA.toArray nn }):=by simpa using hp
   subst e
   exact Ln
  rcases turn i n out H3 w3 with ⟨stop,qn⟩|⟨go,eE,step⟩
  ·refine bq (T.done (ip X N scope C bP iJ fp (X.pn++pins)) rfl rfl rfl hc i _ s3 _ H3 _ Yt (oX Qc VP) IF stop) fun r s4 ⟨hr,I4⟩=>?_
   subst hr
   have p4:=(I4.pin (D,{ cls:=.type "list",data:=.seq aA.toArray nn }) (zy _ (by simp))).1
   exact Z3 D C s4 (back (I4.lO (pins':=[]) fun p hp=>nomatch hp) Ys Pg TV p4 qn)
  ·refine bq (T.item (ip X N scope C bP iJ fp (X.pn++pins)) rfl rfl rfl hc i _ s3 _ H3 _ Yt (oX Qc VP) IF go) fun r s4 ⟨u,hr,h4⟩=>?_
   subst hr
   refine bq h4 fun _ s5 ⟨x,H5,I5,r5,y5,Fp,fr5⟩=>?_
   have Vd:=I5.pinned (oX fr5 VP) (T.obj _ _ Fp)
   refine bq (hg _ _ _ _ _ _ s5 _ H5 x u _ Vd r5 (hx x σ H5 _ (step x H5 y5))) fun _ s6 ⟨Qd,H6,I6,e6,q6⟩=>?_
   have fin:∀{s7:Shared}{H7:Hp},Inv (ip X N scope C bP iJ fp (X.pn++pins)) ([(D,{ cls:=.type "list",data:=.seq aA.toArray nn })]++p7 fp s5.heap) Qd H7 s7 →
     Inv (ip X N scope C bP iJ fp (X.pn++pins)) [] (pick σ src) H7 s7∧H7 D=none∧s7.heap.get? D=some { cls:=.type "list",data:=.seq aA.toArray nn }∧tn (i+1) s7.heap∧∀b∈fp,H7 b=none:=fun {s7 H7} I7=>by
    have pD:=I7.pin (D,{ cls:=.type "list",data:=.seq aA.toArray nn }) (zy _ (by simp))
    refine⟨(I7.lO (pins':=[]) fun p hp=>nomatch hp).weak e6.1.symm e6.2,pD.2.1,pD.1,T.keep _ _ _ Fp fun b hb o e=>(I7.pin (b,o) (zy _ (zy _ (gQ hb e)))).1,fun b hb=>?_⟩
    obtain⟨o,e,d⟩:=T.obj _ _ Fp b hb
    exact (I7.pin (b,o) (zy _ (zy _ (gQ hb e)))).2.1
   refine bq (hi _ _ _ _ _ _ s6 Qd H6 _ I6 q6) fun b s7 ⟨H7,I7,q7⟩=>?_
   cases b with
   |false =>
    rw[if_neg zd] at q7 ⊢
    obtain⟨m',hm,w7⟩:=q7
    obtain⟨J7,d7,o7,t7,f7⟩:=fin I7
    exact⟨m',hm,i+1,out,aA,nn,H7,J7,d7,Pg,TV,o7,t7,f7,w7⟩
   |true =>
    rw[if_pos rfl] at q7 ⊢
    refine bq (he _ _ _ _ _ _ s7 Qd H7 _ I7 q7) fun v s8 ⟨y,H8,I8,r8,m',hm,w8⟩=>?_
    obtain⟨J8,d8,o8,t8,f8⟩:=fin I8
    have hsz:aA.toArray.size≤sizeLine:=by rw[zr,← TV.length];exact Pg
    refine wpAny_list_append_plain (items:=aA.toArray) (hsz:=hsz) ⟨nn,o8⟩ fun h9 ⟨n9,e9⟩ sb=>?_
    have J9:Inv (ip X N scope C bP iJ fp (X.pn++pins)) [] (pick σ src) H8 { s8 with heap:=h9 }:=J8.turned (t':=s8.toks) (it:=D) (fun b o hb e=>(sb.2 b hb).trans e) d8 Pf (.inr wA) (fun x c e=>zx (zl (FQ x c (iq x c e)) wA)) fun p hp=>by
     have hp:p∈X.pn++pins:=by simpa [ip] using hp
     exact zx (zl (FR p hp) wA)
    refine⟨m',hm,i+1,out++[y],aA++[v],n9,H8,J9,d8,?_,TV.append (.cons r8 .nil),?_,T.keep _ _ _ t8 fun b hb o e=>(sb.2 b (fun z=>Ln (z ▸ hb))).trans e,f8,w8⟩
    ·rw[zE];exact eE
    ·rw[e9];simp
 exact codeAny_compStart_list (loop _ rfl) (T.self _ _ _ _ _ (T.keep _ _ _ st fun b hb o e=>old b o e) (loop _ rfl))
theorem I_(S:bJ X N src scope)(hc:X.calm=true)(hit:PI X tg iter wi)
  (hg:∀C s H ex pn,PG (ip X N scope C s H ex pn) tg g) (hx:Ac g src) (hi:∀C s H ex pn,Pd (ip X N scope C s H ex pn) ifs tc) (he:∀C s H ex pn,PE (ip X N scope C s H ex pn) elt te)
  (hs:∀x,foldedSetIterable iter X.env x=pure x:=by intro _;rfl):PE X (.ListComp elt [⟨tg,iter,ifs,0⟩] scope pos) (FP wi src g tc te):=by
 intro pins s σ H Q I h
 rw[eval_ListComp]
 have DQ:closureFor scope X.env=pure (clOf X.env.cells scope.names):=fX fun y hy hf=>I.ok.has y.1 (S.Ab y hy hf)
 refine wpAny_comprehension_free (use:=none) rfl hs DQ S.kind S.loc (bq (hit pins s σ H _ I h) fun v s1 h1=>bq h1 fun TK s2 h2=>?_)
 obtain⟨it,fp,tn,J,H2,e,I2,T,Dm,f2,W,w0,turn⟩:=h2
 subst e
 refine tI (RR:=fun acc C=>compPost (model X.prog X.w) X.A X.xe none (EP X pins σ Q) acc C) S hc hg hx hi he I2 T Dm f2 W w0 turn fun D C s' ⟨H',m,I',q,hm,hn,h1,h2,h3,h4⟩=>?_
 exact⟨m,hm,fun h' sb=>⟨.ref D,H',I'.turned (t':=s'.toks) (it:=C) (fun b o hb e=>(sb.2 b hb).trans e) hn h1 (.inr h2) h3 h4,rfl,q⟩⟩
theorem Ad{i:Nat}{x:Str}{pos' Ja:Pos}(hN:X.N.Nodup)(VQ:X.N[i]?=some x)(TY:X.env.scope.names.lookup x=some .local)
  (S:bJ X N src scope) (hc:X.calm=true) (hit:PI X tg iter wi)
  (hg:∀C s H ex pn,PG (ip X N scope C s H ex pn) tg g) (hx:Ac g src) (hi:∀C s H ex pn,Pd (ip X N scope C s H ex pn) ifs tc) (he:∀C s H ex pn,PE (ip X N scope C s H ex pn) elt te)
  (VR:swapsWith (.ListComp elt [⟨tg,iter,ifs,0⟩] scope pos) (some (.Name x pos')) Ja.line X.env=pure true:=by rfl)
  (hs:∀x,foldedSetIterable iter X.env x=pure x:=by intro _;rfl):PS X (.Assign [.Name x pos'] (.ListComp elt [⟨tg,iter,ifs,0⟩] scope pos) Ja) (ME (FP wi src g tc te) (ik i)):=by
 intro pins s σ H D I h
 rw[exec_Assign_Name_used _ _ _ _ VR]
 refine zc (wpAny_standAt (zc ?_))
 have DQ:closureFor scope X.env=pure (clOf X.env.cells scope.names):=fX fun y hy hf=>I.ok.has y.1 (S.Ab y hy hf)
 show wpAny _ X.A (do let _ ← comprehension (.ListComp elt [⟨tg,iter,ifs,0⟩] scope pos) scope X.env _ (newList []) false (eval iter X.env) (some (assign (.Name x pos') X.env))) _ _ s
 refine zc (yz (wpAny_comprehension_free (use:=some (assign (.Name x pos') X.env)) (Q:=fun _ s'=>∃aG H',Inv X pins aG H' s'∧D.nx aG H') rfl hs DQ S.kind S.loc (bq (hit pins s σ H _ I h) fun v s1 h1=>bq h1 fun TK s2 h2=>?_))
  (fun _ s' hq=>zu (zu hq)) fun _ _ e=>e)
 obtain⟨it,fp,tn,J,H2,e,I2,T,Dm,f2,W,w0,turn⟩:=h2
 subst e
 refine tI (Q:=fun v H1=>D.nx (σ.set i (some v)) H1) (RR:=fun acc C=>compPost (model X.prog X.w) X.A X.xe (some (assign (.Name x pos') X.env)) (fun _ s'=>∃aG H',Inv X pins aG H' s'∧D.nx aG H') acc C) S hc hg hx hi he I2 T Dm f2 W w0 turn fun D' C s' ⟨H',m,I',q,hm,hn,h1,h2,h3,h4⟩=>?_
 show wpAny _ X.A (assign (.Name x pos') X.env (.ref D')) _ _ _
 refine wpAny_assign_Name (sX I' hN VQ (.inl TY) (v:=.ref D') rfl (fun y4 Z6 ⟨a,sb,ha⟩=>?_) (.inr TY))
 have Z7:C≠a:=by
  rcases ha with ha|ha
  ·rw[ha];exact h1
  ·exact Ne.symm (h3 _ _ ha)
 refine⟨m,hm.sameBut sb Z7,fun h'' uA=>⟨_,H',Z6.turned (t':=y4.toks) (it:=C) (fun b o hb e=>(uA.2 b hb).trans e) hn h1 (.inr h2) h3 h4,q⟩⟩
end
theorem nh{σ:St}{src:List (Option Nat)}{i:Nat}(h:src[i]?=some none):(pick σ src)[i]?=some none:=by
 unfold pick
 rw[zp,h]
 rfl
theorem Ext.set(h:σ0[i]?=some none)(e:Ext σ0 σ):Ext σ0 (σ.set i (some v)):=by
 refine⟨by rw[List.length_set];exact e.1,fun j w hj=>?_⟩
 have:i≠j:=by
  rintro rfl
  rw[h] at hj
  cases hj
 rw[List.getElem?_set_ne this]
 exact e.2 j w hj
theorem Ext.refl(σ:St):Ext σ σ:=⟨rfl,fun _ _ h=>h⟩
theorem ba{src:List (Option Nat)}{i:Nat}(h:src[i]?=some none):Ac (ik i) src:=fun x σ H Q q=>⟨(Ext.refl _).set (nh h),q⟩
theorem pK{K:Frag}{n:Nat}{src:List (Option Nat)}{i j:Nat}(h:src[i]?=some none)(h':src[j]?=some none):Ac (ID K n (pY (ik i) (pY (ik j) IC))) src:=fun x σ H Q q=>by
 obtain⟨a,xs,e1,hs,hl,v,r,e2,v2,r2,e3,e4,q⟩:=q
 exact⟨a,xs,e1,hs,hl,v,r,e2,v2,r2,e3,e4,((Ext.refl _).set (nh h)).set (nh h'),q⟩
theorem all_bools{xs:List V}{aA:List Value}{bs:List Bool}(hv:Vals xs aA)(hb:xs=bs.map V.bl):∀(i:Nat) (v:Value),aA.toArray[i]?=some v→v=Value.bool ((bs[i]?).getD false):=by
 subst hb
 intro i v h
 have h':aA[i]?=some v:=by simpa using h
 have hl:=hv.length
 rw[zb] at hl
 have hi:i<aA.length:=(ze.mp h').1
 have hb:bs[i]?=some (bs[i]'(by lia)):=by simp
 obtain⟨u,hu,r⟩:=hv.get (i:=i) (x:=V.bl (bs[i]'(by lia))) (by rw[zp,hb];rfl)
 rw[h'] at hu
 cases hu
 rw[hb]
 exact r
theorem range_all{bs:List Bool} : (List.range bs.length).all (fun i=>(bs[i]?).getD false)=bs.all id:=by
 rw[yx,yc,yc]
 constructor
 ·intro h b hb
  obtain⟨i,hi,rfl⟩:=List.mem_iff_getElem.mp hb
  have:=h i (zN.mpr hi)
  simpa [hi] using this
 ·intro h i hi
  have hi:=zN.mp hi
  simpa [hi] using h _ (List.getElem_mem hi)
theorem range_any{bs:List Bool} : (List.range bs.length).any (fun i=>(bs[i]?).getD false)=bs.any id:=by
 rw[yx,List.any_eq_true,List.any_eq_true]
 constructor
 ·rintro⟨i,hi,h⟩
  have hi:=zN.mp hi
  exact⟨bs[i],List.getElem_mem hi,by simpa [hi] using h⟩
 ·rintro⟨b,hb,h⟩
  obtain⟨i,hi,rfl⟩:=List.mem_iff_getElem.mp hb
  exact⟨i,zN.mpr hi,by simpa [hi] using h⟩
section
variable{X:Cx}
theorem rZ(hc:X.calm=true):eI X (.builtin "all") (fun xs H Q=>∃(a:Addr) (bs:List Bool),xs=[.ref a]∧jE X.K H a (bs.map V.bl)∧Q (.bl (bs.all id)) H):=by
 intro pins s σ H xs us Q I r h
 obtain⟨a,bs,rfl,hq,q⟩:=h
 obtain⟨u,rfl,ru⟩:=vals1 r
 cases ru
 obtain⟨aA,rv,p,hz⟩:=I.list hq
 have hl:=rv.length
 rw[zb] at hl
 refine call_all_walk (wpAny_pyIter_list p.isList ?_)
 refine⟨s.heap.objs.size,_,_,_,_,_,fun i=>(bs[i]?).getD false,rfl,Walks.list (A:=X.A.in1) (I.ok.hd hc) s.heap.objs.size a (zx p.lt) aA.toArray,⟨⟨_,zj _ rfl,rfl,rfl⟩,p.isList.at fun o e=>za _ e⟩,?_,fun h' tk hk=>?_⟩
 ·intro i v s' Q' E' hv hQ
  rw[all_bools rv rfl i v hv]
  exact yk hQ
 ·have e:aA.toArray.size=bs.length:=by rw[zr,← hl]
  rw[e,range_all]
  exact⟨.bl (bs.all id),H,I.kept (h':=h') (t':=tk) (fun b o e=>hk b o (by simpa using zx (zt e)) (za _ e)),rfl,q⟩
theorem r9(hc:X.calm=true):eI X (.builtin "any") (fun xs H Q=>∃(a:Addr) (bs:List Bool),xs=[.ref a]∧jE X.K H a (bs.map V.bl)∧Q (.bl (bs.any id)) H):=by
 intro pins s σ H xs us Q I r h
 obtain⟨a,bs,rfl,hq,q⟩:=h
 obtain⟨u,rfl,ru⟩:=vals1 r
 cases ru
 obtain⟨aA,rv,p,hz⟩:=I.list hq
 have hl:=rv.length
 rw[zb] at hl
 refine call_any_walk (wpAny_pyIter_list p.isList ?_)
 refine⟨s.heap.objs.size,_,_,_,_,_,fun i=>(bs[i]?).getD false,rfl,Walks.list (A:=X.A.in1) (I.ok.hd hc) s.heap.objs.size a (zx p.lt) aA.toArray,⟨⟨_,zj _ rfl,rfl,rfl⟩,p.isList.at fun o e=>za _ e⟩,?_,fun h' tk hk=>?_⟩
 ·intro i v s' Q' E' hv hQ
  rw[all_bools rv rfl i v hv]
  exact yk hQ
 ·have e:aA.toArray.size=bs.length:=by rw[zr,← hl]
  rw[e,range_any]
  exact⟨.bl (bs.any id),H,I.kept (h':=h') (t':=tk) (fun b o e=>hk b o (by simpa using zx (zt e)) (za _ e)),rfl,q⟩
end
def ownOf:HO→Option Addr
 |.ins _ dx _=>some dx
 |.kI _ u=>ownOf u
 |_=>none
structure Fg(H H' G:Hp):Prop where
 sub:∀b o,G b=some o→H' b=some o
 dom:∀b o,H b=some o→∃o',G b=some o'
 own:∀a o dx,G a=some o→ownOf o=some dx→(∃o',H a=some o'∧ownOf o'=some dx)∨∃o',G dx=some o'
theorem aE:bootBuiltins "len" = some (.builtin "len"):=PySem.boot_len
theorem fZ:bootBuiltins "all" = some (.builtin "all"):=boot_all
theorem Nr:bootBuiltins "any" = some (.builtin "any"):=boot_any
theorem au:bootBuiltins "isinstance" = some (.builtin "isinstance"):=boot_isinstance
theorem qm:bootBuiltins "int" = some (.type "int"):=PyProof.Rows.boot_int
theorem Jb:bootBuiltins "bool" = some (.type "bool"):=PyProof.Rows.boot_bool
theorem gT:bootBuiltins "str" = some (.type "str"):=PyProof.Rows.boot_str
theorem aV:bootBuiltins "tuple" = some (.type "tuple"):=PyProof.Rows.boot_tuple
theorem B4:bootBuiltins "dict" = some (.type "dict"):=PyProof.Rows.boot_dict
theorem Nt:bootBuiltins "set" = some (.type "set"):=PyProof.Rows.boot_set
inductive Kd where
 |aw|bl|int|str|lst|tup|cQ
 deriving DecidableEq
def Kd.name:Kd→String
 |.aw => "NoneType" |.bl => "bool" |.int => "int" |.str => "str" |.lst => "list" |.tup => "tuple" |.cQ => "dict"
inductive qo (H:Hp):V→Kd→Prop where
 |aw:qo H .aw .aw
 |bl (b:Bool):qo H (.bl b) .bl
 |int (i:Int):qo H (.int i) .int
 |str (x:Str):qo H (.str x) .str
 |lst {a:Addr}{xs:List V} (e:H a=some (.lst xs)):qo H (.ref a) .lst
 |tup {a:Addr}{xs:List V} (e:H a=some (.tup xs)):qo H (.ref a) .tup
 |cQ {a:Addr}{kvs:List (Key×V)} (e:H a=some (.dK kvs)):qo H (.ref a) .cQ
theorem qo.ty{K:Frag}{H:Hp}{x:V}{k:Kd}(h:qo H x k):m9 K H x (.type k.name):=by
 cases h with
 |aw=>exact .aw
 |bl b=>exact .bl b
 |int i=>exact .int i
 |str x=>exact .str x
 |lst e=>exact .lst e
 |tup e=>exact .tup e
 |cQ e=>exact .dK e
def wB(T:String):Option (Kd→Bool) :=
 if T = "int" then some fun k=>match k with|.int=>true|.bl=>true|_=>false
 else if T = "bool" then some fun k=>match k with|.bl=>true|_=>false
 else if T = "str" then some fun k=>match k with|.str=>true|_=>false
 else if T = "tuple" then some fun k=>match k with|.tup=>true|_=>false
 else if T = "list" then some fun k=>match k with|.lst=>true|_=>false
 else if T = "dict" then some fun k=>match k with|.cQ=>true|_=>false
 else none
theorem FT{K:Frag}{T:String}{g:Kd→Bool}(h:wB T=some g)(k:Kd):kitOne K (.type k.name) (.type T)=some (g k):=by
 unfold wB at h
 split at h
 ·rename_i e;subst e;cases h;cases k <;> rfl
 ·split at h
  ·rename_i e;subst e;cases h;cases k <;> rfl
  ·split at h
   ·rename_i e;subst e;cases h;cases k <;> rfl
   ·split at h
    ·rename_i e;subst e;cases h;cases k <;> rfl
    ·split at h
     ·rename_i e;subst e;cases h;cases k <;> rfl
     ·split at h
      ·rename_i e;subst e;cases h;cases k <;> rfl
      ·cases h
section
variable{X:Cx}
theorem FU:eI X (.builtin "isinstance") (fun xs H Q=>∃x T k g,xs=[x,.ty T]∧wB T=some g∧qo H x k∧Q (.bl (g k)) H):=by
 intro pins s σ H xs us Q I r h
 obtain⟨x,T,k,g,rfl,hg,hk,q⟩:=h
 obtain⟨v,w',rfl,rv,rX⟩:=vals2 r
 cases rX
 exact Dz I rv hk.ty (FT hg k) fun tk=>⟨.bl (g k),H,I.tok tk,rfl,q⟩
end
mutual
def Dt(K:Frag)(H:Hp):PyData→V→Prop
 |.none,v=>v=.aw
 |.bool b,v=>v=.bl b
 |.int i,v=>v=.int i
 |.str z,v=>v=.str z
 |.list ds,v=>∃a xs,v=.ref a∧jE K H a xs∧DtAll K H ds xs
 |.tuple ds,v=>∃a xs,v=.ref a∧iH K H a xs∧DtAll K H ds xs
 |.dict _,_=>False
def DtAll(K:Frag)(H:Hp):List PyData→List V→Prop
 |[],xs=>xs=[]
 |d::ds,xs=>∃y ys,xs=y::ys∧Dt K H d y∧DtAll K H ds ys
end
section
variable{X:Cx}{pins:List (Addr×Obj)}{σ:St}{H:Hp}{s:Shared}
mutual
theorem Inv.reads(I:Inv X pins σ H s):∀(d:PyData) {x:V}{u:Value},Dt X.K H d x→RelV x u→∃as,Reads s.heap u d as
 |.none,x,u,h,r=>by
  have h:x=.aw:=by simpa only [Dt] using h
  subst h;cases r;exact⟨_,.none⟩
 |.bool b,x,u,h,r=>by
  have h:x=.bl b:=by simpa only [Dt] using h
  subst h;cases r;exact⟨_,.bool b⟩
 |.int i,x,u,h,r=>by
  have h:x=.int i:=by simpa only [Dt] using h
  subst h;obtain⟨t,rfl⟩:=r;exact⟨_,.int i t⟩
 |.str z,x,u,h,r=>by
  have h:x=.str z:=by simpa only [Dt] using h
  subst h;obtain⟨t,rfl⟩:=r;exact⟨_,.str z t⟩
 |.list ds,x,u,h,r=>by
  have h:∃a xs,x=.ref a∧jE X.K H a xs∧DtAll X.K H ds xs:=by simpa only [Dt] using h
  obtain⟨a,xs,rfl,hq,hd⟩:=h
  cases r
  obtain⟨aA,rv,p,_⟩:=I.list hq
  obtain⟨as,ra⟩:=Inv.readsAll I ds hd rv
  obtain⟨o,e,c,n,d⟩:=p.isList
  exact⟨_,.list e c d (by simpa using ra)⟩
 |.tuple ds,x,u,h,r=>by
  have h:∃a xs,x=.ref a∧iH X.K H a xs∧DtAll X.K H ds xs:=by simpa only [Dt] using h
  obtain⟨a,xs,rfl,hq,hd⟩:=h
  cases r
  obtain⟨aA,rv,p,_⟩:=I.tuple hq
  obtain⟨as,ra⟩:=Inv.readsAll I ds hd rv
  obtain⟨o,e,c,n,d⟩:=p
  exact⟨_,.tuple e c d (by simpa using ra)⟩
 |.dict _,x,u,h,r=>by
  have h:False:=by simpa only [Dt] using h
  exact h.elim
theorem Inv.readsAll(I:Inv X pins σ H s):∀(ds:List PyData) {xs:List V}{us:List Value},DtAll X.K H ds xs→Vals xs us→∃as,ReadsAll s.heap us ds as
 |[],xs,us,h,r=>by
  have h:xs=[]:=by simpa only [DtAll] using h
  subst h;cases r;exact⟨_,.nil⟩
 |d::ds,xs,us,h,r=>by
  have h:∃y ys,xs=y::ys∧Dt X.K H d y∧DtAll X.K H ds ys:=by simpa only [DtAll] using h
  obtain⟨y,ys,rfl,h1,h2⟩:=h
  cases r with
  |cons r1 r2 =>
   obtain⟨as,ra⟩:=Inv.reads I d h1 r1
   obtain⟨bs,rb⟩:=Inv.readsAll I ds h2 r2
   exact⟨_,.cons ra rb⟩
end
end
def QL(K:Frag)(neg:Bool):R2:=fun x y H Q=>∃d e,Dt K H d x∧Dt K H e y∧d.canLay0=true∧e.canLay0=true∧(d.depth≤64∨e.depth≤64)∧Q (.bl (if neg then !PyData.eqv d e else PyData.eqv d e)) H
section
variable{X:Cx}
theorem Nu(hu:X.A.units+64<cLine):gR X (compareOp .Eq) (QL X.K false):=by
 intro pins s σ H x y v u Q I rx ry h
 obtain⟨d,e,hd,he,cd,ce,dp,q⟩:=h
 obtain⟨as,ra⟩:=I.reads d hd rx
 obtain⟨bs,rb⟩:=I.reads e he ry
 exact SeqAt.compareEq_reads ra rb cd ce (by rcases dp with dp|dp <;> lia) (aJ I q rfl)
theorem Nv(hu:X.A.units+64<cLine):gR X (compareOp .NotEq) (QL X.K true):=by
 intro pins s σ H x y v u Q I rx ry h
 obtain⟨d,e,hd,he,cd,ce,dp,q⟩:=h
 obtain⟨as,ra⟩:=I.reads d hd rx
 obtain⟨bs,rb⟩:=I.reads e he ry
 exact SeqAt.compareNe_reads ra rb cd ce (by rcases dp with dp|dp <;> lia) (aJ I q rfl)
end
theorem jG(a b:Nat):E3 ⟨#[a]⟩ ⟨#[b]⟩=decide (a≤b):=by
 unfold E3
 have e:([b]<[a])↔b<a:=by
  rw[List.cons_lt_cons_iff]
  constructor
  ·rintro (h|⟨_,h⟩)
   ·exact h
   ·exact absurd h (List.not_lt_nil _)
  ·exact .inl
 rw[yx]
 show (!decide ([b]<[a]))=true↔_
 rw[Bool.not_eq_true',decide_eq_false_iff_not,e,decide_eq_true_iff]
 lia
def chkC(sc:Scope)(N0 N:List Str)(src:List (Option Nat))(scope:Scope):Bool :=
 decide (scope.kind=.function) && (scope.names.all (fun y=>decide (y.2≠.cell) && (decide (y.2≠.local) || decide (scope.names.lookup y.1=some .local)) && (decide (y.2≠.free) || (decide (sc.names.lookup y.1=some .cell) || decide (sc.names.lookup y.1=some .free)))) &&
  (decide (src.length=N.length) && (List.range src.length).all fun i=>match src[i]?,N[i]? with
   |some (some j),some x=>decide (N0[j]?=some x) && (decide (scope.names.lookup x=some .free) && (decide (sc.names.lookup x=some .cell) || decide (sc.names.lookup x=some .free)))
   |_,_=>true))
theorem kM(sc:Scope)(N0:List Str)(hs:X.env.scope=sc)(hN:X.N=N0)(h:chkC sc N0 N src scope=true):bJ X N src scope:=by
 unfold chkC at h
 simp only [zJ,zX,yc,Bool.or_eq_true] at h
 obtain⟨h1,h2,h3,h4⟩:=h
 refine⟨h1,fun y hy=>(h2 y hy).1.1,fun y hy e=>?_,fun y hy e=>?_,h3,fun i j x e1 e2=>?_⟩
 ·rcases (h2 y hy).1.2 with z|z
  ·exact absurd e z
  ·exact z
 ·rcases (h2 y hy).2 with z|z
  ·exact absurd e z
  ·show X.env.scope.names.lookup y.1=some .cell∨X.env.scope.names.lookup y.1=some .free
   rw[hs];exact z
 ·have hi:i<src.length:=(ze.mp e1).1
  have q:=h4 i (zN.mpr hi)
  rw[e1,e2] at q
  simp only [zJ,zX,Bool.or_eq_true] at q
  refine⟨by rw[hN];exact q.1,q.2.1,?_⟩
  unfold O8
  rw[hs]
  exact .inr q.2.2
theorem B5(h0:0≤i)(h1:i<l.length):∃v,uo l i=some v∧l[i.toNat]?=some v:=by
 obtain⟨j,rfl⟩:=Int.eq_ofNat_of_zero_le h0
 have hj:j<l.length:=by lia
 exact⟨l[j],df (by simp [hj]),by simp [hj]⟩
theorem bK{c:Bool}{A B:Prop}(h:c=true→A)(h':c=false→B):if c=true then A else B:=by
 cases c with
 |true=>exact h rfl
 |false=>exact h' rfl
theorem nt(h:(!b)=true):b=false:=by cases b <;> simp_all
theorem nf(h:(!b)=false):b=true:=by cases b <;> simp_all
def Af:Kd→Bool|.int=>true|.bl=>true|_=>false
def uB:Kd→Bool|.bl=>true|_=>false
def Ag:Kd→Bool|.str=>true|_=>false
def qp:Kd→Bool|.tup=>true|_=>false
theorem Jc:wB "int" = some Af:=if_pos rfl
theorem FV:wB "bool" = some uB:=(if_neg (by decide)).trans (if_pos rfl)
theorem cB:wB "str" = some Ag:=(if_neg (by decide)).trans ((if_neg (by decide)).trans (if_pos rfl))
theorem aX:wB "tuple" = some qp:=(if_neg (by decide)).trans ((if_neg (by decide)).trans ((if_neg (by decide)).trans (if_pos rfl)))
theorem len_pos{z:Str}(h:1≤z.cps.size):∃c r,z.cps.toList=c::r:=by
 cases e:z.cps.toList with
 |nil =>
  have:z.cps.toList.length=0:=by rw[e];rfl
  rw[yj] at this
  lia
 |cons c r=>exact⟨c,r,rfl⟩
theorem Z8(e:l=c::r):uo l 0=some c:=by
 have:l[0]?=some c:=by rw[e];rfl
 exact df (j:=0) this
def isPlain:Expr→Bool
 |.Starred _ _=>false
 |_=>true
theorem Ah(h:isPlain e=true):starEach (e::es) env=(false,eval e env)::starEach es env:=by
 cases e <;> first
  |rfl
  |exact absurd h zd
theorem VS{t:TA}(ha:PE X e te)(hr:PA X es t)(hp:isPlain e=true:=by rfl):PA X (e::es) (Lg te t):=IP ha hr (Ah hp)
end L2
namespace HT
open PySem PyProof.Rows
open PySem.SeqAt
open PySem.AutoSeq1 (wpAny_loadPart')
open PySem.MeetsSeq PySem.MeetsSeq2 PySem.MeetsSeq3
end HT
namespace L2
open PySem PySem.Spec PyProof.Rows
def FW(c:Value)(e:Addr)(h:Heap):Prop:=∃o vs,h.get? e=some o∧o.data=.fields vs∧vs[2]?=some c
section
variable{M:Model}{A:Around}{E:Value→Shared→Prop}{s:Shared}{base:Heap}{env:Env}{outer:List Env}{L e:Addr}{a0 c fl:Value}
theorem QM(vZ:A.frames=some (env::outer))(hl:s.heap.FunFrames base (env::outer))(hf:env.frame=some L)
  (he:s.heap.get? e=some oe) (E6:base.StaysIn s.heap) (xY:base.get? e=none) (hd:oe.data=.fields vs) (h0:vs[0]?=some a0) (h2:vs[2]?=some c)
  (h:∀h',Heap.NotedW base (env::outer) e oe.cls a0 (rawInt L) s.heap h'→FW c e h'→Q () { s with heap:=h' }) :
  wpAny M A (do let x ← frameOf env;let y ← entryPlaceOf L nx;let z ← EntryCells.newEntry head x .none (rawInt L) .none y;setField (.ref e) 1 z) Q E s:=by
 have hsz:1<vs.size:=by have:=(Array.getElem?_eq_some_iff.mp h2).1;lia
 have Z9:e∉(env::outer).filterMap (·.frame):=fun m=>by
  obtain⟨_,o,q,n⟩:=hl.mem m
  rw[he] at q;cases q
  exact n vs hd
 refine zc (wpAny_frameOf_fun vZ hl hf fun g sg=>?_)
 refine zc (wpAny_entryPlaceOf fun pl dD=>?_)
 unfold EntryCells.newEntry newFields
 refine zc (yA ?_ (dD.sizeOk5 _ _ _ _ _))
 have g1:g.get? e=some oe:=(sg.2.1 e Z9).trans he
 have kg:base.StaysIn g:=fun b o q=>(sg.2.1 b fun m=>by rw[(hl.mem m).1] at q;cases q).trans (E6 b o q)
 have t3:((([head,.ref L,.none,rawInt L,.none]++(if pl.isEmpty then List.replicate 6 Value.none else pl)).toArray:Array Value))[3]?=some (rawInt L):=by
  rcases dD with rfl|⟨_,_,_,_,_,_,_,rfl⟩ <;> simp
 generalize Yu:(([head,.ref L,.none,rawInt L,.none]++(if pl.isEmpty then List.replicate 6 Value.none else pl)).toArray:Array Value)=ts at t3
 have g2:=za (h:=g) { cls:=.type "traceback",dict:=none,data:=.fields ts } g1
 refine yL g2 hd hsz (h _ ?_ ?_)
 ·have ne:g.objs.size≠e:=yg (zt g1)
  have d3:=yp hd (·.setIfInBounds 1 (Value.ref g.objs.size))
  have e3:=ym (Obj.mapFields (·.setIfInBounds 1 (Value.ref g.objs.size))) g2 (Obj.isFreed_of_fields d3)
  have T3:=(yh (g.push { cls:=.type "traceback",dict:=none,data:=.fields ts }) (Obj.mapFields (·.setIfInBounds 1 (Value.ref g.objs.size))) (Ne.symm ne)).trans (zj g rfl)
  have keep:∀b o,b≠e→g.get? b=some o→((g.push { cls:=.type "traceback",dict:=none,data:=.fields ts }).update e (Obj.mapFields (·.setIfInBounds 1 (Value.ref g.objs.size)))).get? b=some o:=fun b o n q=>by
   rw[yh _ _ (Ne.symm n)]
   exact za _ q
  have wC:∀b o,s.heap.get? b=some o→(∀vs,o.data≠.fields vs)→b≠e:=fun b o q n z=>by
   rw[z,he] at q;cases q
   exact n vs hd
  refine⟨fun b o q=>keep b o (fun z=>by rw[z,xY] at q;cases q) (kg b o q),hl.of_keeps fun b o q n=>?_,?_,fun b o q n=>?_⟩
  ·obtain⟨sl,z⟩:=sg.2.2 b o q
   exact⟨_,keep b _ (wC b o q n) z,rfl⟩
  ·exact⟨_,_,g.objs.size,_,_,e3,⟨Obj.cls_mapFields _ _,by rw[Array.getElem?_setIfInBounds_ne (by decide)];exact h0⟩,d3,by simp [hsz],kg.fresh,ne,T3,rfl,t3⟩
  ·obtain⟨sl,z⟩:=sg.2.2 b o q
   exact⟨sl,keep b _ (wC b o q n) z⟩
 ·have d3:=yp hd (·.setIfInBounds 1 (Value.ref g.objs.size))
  exact⟨_,_,ym (Obj.mapFields (·.setIfInBounds 1 (Value.ref g.objs.size))) g2 (Obj.isFreed_of_fields d3),d3,by rw[Array.getElem?_setIfInBounds_ne (by decide)];exact h2⟩
theorem setC(E6:base.StaysIn s.heap)(xY:base.get? e=none)(hl:s.heap.FunFrames base l)(ht:s.heap.TracedAtW base e cls a0 fl)(hc:FW c e s.heap)
  (h:∀h',Heap.FlyingW base l e cls a0 h'→s.heap.UpToSlots h'→FW c e h'→Q () { s with heap:=h' }):wpAny M A (setFlight (.ref e) none) Q E s:=by
 obtain⟨o,vs,T,oT,ts,q,hk,hd,q1,nT,ne,qT,dT,q3⟩:=ht
 obtain⟨o',VT,q',yQ,q2⟩:=hc
 rw[q] at q';cases q'
 rw[hd] at yQ;cases yQ
 have Yv:3<ts.size:=(Array.getElem?_eq_some_iff.mp q3).1
 have Jd:∀b,b≠T→(s.heap.update T (Obj.mapFields (·.setIfInBounds 3 ((none:Option Addr).elim Value.none fun f=>rawInt f)))).get? b=s.heap.get? b:=fun b n=>yh _ _ (Ne.symm n)
 have wC:∀b o,s.heap.get? b=some o→(∀vs,o.data≠.fields vs)→b≠T:=fun b o z n w=>by
  rw[w,qT] at z;cases z
  exact n ts dT
 have qe:=(Jd e (Ne.symm ne)).trans q
 unfold setFlight
 refine zc (z0 q hd q1 ?_)
 rw[if_pos (show (Value.ref T != Value.none)=true by simp)]
 refine yL qT dT Yv (h _ ⟨fun b o z=>(Jd b fun w=>by rw[w,nT] at z;cases z).trans (E6 b o z),xY,hl.of_keeps fun b o z n=>⟨o,(Jd b (wC b o z n)).trans z,rfl⟩,?_⟩ (fun b o z n=>⟨o.slots,(Jd b (wC b o z n)).trans z⟩) ⟨o,vs,qe,hd,q2⟩)
 exact⟨o,vs,T,_,_,qe,hk,hd,q1,nT,ne,ym _ qT (Obj.isFreed_of_fields (yp dT _)),yp dT _,by simp [Yv]⟩
theorem QN(vZ:A.frames=some (env::outer))(hf:env.frame=some L)(E6:base.StaysIn s.heap)(xY:base.get? e=none)(hl:s.heap.FunFrames base (env::outer))(ht:s.heap.TracedAtW base e cls a0 fl)(hc:FW c e s.heap)
  (h:∀h',Heap.HeldW base (env::outer) e cls a0 L h'→s.heap.UpToSlots h'→FW c e h'→Q () { s with heap:=h' }):wpAny M A (noteFrame (.ref e) env) Q E s:=by
 by_cases Je:fl=rawInt L
 ·subst Je
  exact wpAny_noteFrame_againW hf ht (h s.heap ⟨E6,xY,hl,ht⟩ (.refl _) hc)
 ·obtain⟨o,vs,T,oT,ts,q,⟨hk,h0⟩,hd,q1,nT,ne,qT,dT,q3⟩:=ht
  obtain⟨o',VT,q',yQ,q2⟩:=hc
  rw[q] at q';cases q'
  rw[hd] at yQ;cases yQ
  subst hk
  have Jd:∀b,b≠T→(s.heap.update T (Obj.mapFields (·.setIfInBounds 3 Value.none))).get? b=s.heap.get? b:=fun b n=>yh _ _ (Ne.symm n)
  have wC:∀b o,s.heap.get? b=some o→(∀vs,o.data≠.fields vs)→b≠T:=fun b o z n w=>by
   rw[w,qT] at z;cases z
   exact n ts dT
  unfold noteFrame
  simp only [hf]
  refine zc (z0 q hd q1 ?_)
  rw[if_pos (show (Value.ref T != Value.none)=true by simp)]
  refine zc (z0 qT dT q3 ?_)
  rw[if_neg (show ¬ ((fl == rawInt L)=true) by simpa using Je)]
  refine zc (yL qT dT (Array.getElem?_eq_some_iff.mp q3).1 ?_)
  refine QM vZ (hl.of_keeps fun b o z n=>⟨o,(Jd b (wC b o z n)).trans z,rfl⟩) hf ((Jd e (Ne.symm ne)).trans q) (fun b o z=>(Jd b fun w=>by rw[w,nT] at z;cases z).trans (E6 b o z)) xY hd h0 q2 fun h' x y=>?_
  obtain⟨x1,x2,x3,x4⟩:=x
  exact h h' ⟨x1,xY,x2,x3⟩ (fun b o z n=>x4 b o ((Jd b (wC b o z n)).trans z) n) y
theorem Nw(vZ:A.frames=some (env::outer))(hf:env.frame=some L)(E6:base.StaysIn s.heap)(xY:base.get? e=none)(hl:s.heap.FunFrames base (env::outer))
  (he:s.heap.get? e=some oe) (hd:oe.data=.fields vs) (h0:vs[0]?=some a0) (h1:vs[1]?=some .none) (h2:vs[2]?=some c)
  (h:∀h',Heap.HeldW base (env::outer) e oe.cls a0 L h'→s.heap.UpToSlots h'→FW c e h'→Q () { s with heap:=h' }):wpAny M A (noteFrame (.ref e) env) Q E s:=by
 unfold noteFrame
 simp only [hf]
 refine zc (z0 he hd h1 ?_)
 rw[if_neg (by decide)]
 refine QM vZ hl hf he E6 xY hd h0 h2 fun h' x y=>?_
 obtain⟨x1,x2,x3,x4⟩:=x
 exact h h' ⟨x1,xY,x2,x3⟩ x4 y
theorem Nx(vZ:A.frames=some (env::outer))(hf:env.frame=some L)(E6:base.StaysIn s.heap)(xY:base.get? e=none)(hl:s.heap.FunFrames base (env::outer))(ht:s.heap.TracedAtW base e cls a0 fl)(hc:FW c e s.heap)
  (h:∀h',Heap.FlyingW base outer e cls a0 h'→s.heap.UpToSlots h'→FW c e h'→Q () { s with heap:=h' }):wpAny M A (leaving env (.ref e)) Q E s:=by
 unfold leaving
 refine zc (QN vZ hf E6 xY hl ht hc fun h' x u y=>?_)
 obtain⟨x1,x2,x3,x4⟩:=x
 refine setC x1 x2 x3 x4 y fun h2 z u2 y2=>?_
 obtain⟨z1,z2,⟨_,_,z3⟩,z4⟩:=z
 exact h h2 ⟨z1,z2,z3,z4⟩ (u.trans u2) y2
theorem Jf(vZ:A.frames=some (env::outer))(hf:env.frame=some L)(E6:base.StaysIn s.heap)(xY:base.get? e=none)(hl:s.heap.FunFrames base (env::outer))
  (he:s.heap.get? e=some oe) (hd:oe.data=.fields vs) (h0:vs[0]?=some a0) (h1:vs[1]?=some .none) (h2:vs[2]?=some c)
  (h:∀h',Heap.FlyingW base outer e oe.cls a0 h'→s.heap.UpToSlots h'→FW c e h'→Q () { s with heap:=h' }):wpAny M A (leaving env (.ref e)) Q E s:=by
 unfold leaving
 refine zc (Nw vZ hf E6 xY hl he hd h0 h1 h2 fun h' x u y=>?_)
 obtain⟨x1,x2,x3,x4⟩:=x
 refine setC x1 x2 x3 x4 y fun h2 z u2 y2=>?_
 obtain⟨z1,z2,⟨_,_,z3⟩,z4⟩:=z
 exact h h2 ⟨z1,z2,z3,z4⟩ (u.trans u2) y2
end
theorem bp.get(x:bp P w H h a o):∃u,h.get? a=some u:=by
 cases o with
 |lst xs=>obtain⟨_,_,_,_,e⟩:=x;exact⟨_,e⟩
 |tup xs=>obtain⟨_,_,_,ob,e,_⟩:=x;exact⟨_,e⟩
 |dK kvs=>obtain⟨_,_,_,_,o,_,_,e,_⟩:=x;exact⟨_,e⟩
 |dT kvs=>exact False.elim x
 |set S n=>obtain⟨o,_,_,_,e,_⟩:=x;exact⟨_,e⟩
 |ins C dx fs=>obtain⟨_,_,_,e,_⟩:=x;exact⟨_,e⟩
 |own y=>obtain⟨_,e⟩:=x;exact⟨_,e⟩
 |xd fs=>obtain⟨_,⟨_,_,_,e,_⟩,_⟩:=x;exact⟨_,e⟩
 |Tz lo hi=>obtain⟨_,_,_,e⟩:=x;exact⟨_,e⟩
 |kI ob u=>obtain⟨e,_⟩:=x;exact⟨_,e⟩
 |pE ps=>exact⟨_,show h.get? a=some _ from x⟩
 |met f y=>exact⟨_,show h.get? a=some _ from x⟩
 |ext φ=>obtain⟨_,e,_⟩:=x;exact e
structure VU(P:Program)(w:World)(mg:Str→Option Value)(outer:List Env)(H H':Hp)(h0:Heap)(a:Addr)(cls a0:Value)(B h:Heap):Prop where
 fl:Heap.FlyingW B outer a cls a0 h
 aM:kJ P w H' B
 keep:∀b o,h0.get? b=some o→H b=none→b∉mZ outer→B.get? b=some o
 there:∀b o,h0.get? b=some o→b∉mZ outer→∃o',B.get? b=some o'
 slot:∀b o,h0.get? b=some o→b∈mZ outer→∃sl,h.get? b=some { o with slots:=sl }
 free:∀b o,h0.get? b=some o→H b=none→H' b=none
 lN:∀b xs,H b=some (.tup xs)→H' b=some (.tup xs)
 kK:∀b o u,H b=some (.kI o u)→H' b=some (.kI o u)
 kL:∀b ps,H b=some (.pE ps)→∃more,H' b=some (.pE (ps++more))
 cx:FW .none a h∨mg "NoMark" = some cls
def eW(P:Program)(w:World)(mg:Str→Option Value):y3:=fun outer H s E e s' =>
 ∃a cls a0 B H',e=.ref a∧s'.os=s.os∧AllBare s'.gens∧VU P w mg outer H H' s.heap a cls a0 B s'.heap∧E cls none H'
structure cJ(X:Cx)(E:XK):Prop where
 ex:X.ex=[]
 st:X.stack=X.env::X.outer
 fr:X.env.frame=some X.env.locals
 xe:∀e s',wpAny (model X.prog X.w) X.A (leaving X.env e) (fun _ y4=>eW X.prog X.w X.mg X.outer X.um X.cP E e y4) (fun e' y4=>eW X.prog X.w X.mg X.outer X.um X.cP E e' y4) s'→X.xe e s'
theorem tJ{P:Program}{w:World}{K:Frag}{mg:Str→Option Value}{base:Heap}{N:List Str}{qual:Str}{scope:Scope}{f:Addr}{cd:Value}{A:Around}{outer:List Env}{s:Shared}{H:Hp}{E:XK} :
  cJ (jR (eW P w mg) P w K mg base N qual scope f cd A outer s H E) E:=⟨rfl,rfl,rfl,fun _ _ h=>h⟩
section
variable{X:Cx}{pins:List (Addr×Obj)}{σ:St}{H H':Hp}{s:Shared}{E E':XK}
theorem cJ.mem(L:cJ X E):b∈mZ X.stack↔b=X.env.locals∨b∈X.fs:=by
 unfold Cx.fs mZ
 rw[L.st,List.filterMap_cons,L.fr]
 exact zi
theorem cJ.Dh(L:cJ X E)(I:Inv X pins σ H s)(e:X.cP.heap.get? b=some o)(h:b∉X.fs):b∉mZ X.stack:=fun z=>by
 rcases L.mem.mp z with z|z
 ·have:=zt e
  have h2:=I.ok.above
  rw[z] at this
  exact absurd (zl this h2) (yr _)
 ·exact h z
theorem cJ.Yw(L:cJ X E)(I:Inv X pins σ H s)(F:VU X.prog X.w X.mg X.stack H H' s.heap a cls a0 B h)(f2:Heap.FlyingW B X.outer a cls a0 h2)(u2:h.UpToSlots h2)(c2:FW .none a h2∨X.mg "NoMark" = some cls) :
  VU X.prog X.w X.mg X.outer X.um H' X.cP.heap a cls a0 B h2 where
 cx:=c2
 fl:=f2
 aM:=F.aM
 keep:=fun b o e n hf=>F.keep b o (I.base.keep b o e n hf (by rw[L.ex];simp)) (I.base.free b o e n (by rw[L.ex];simp)) (L.Dh I e hf)
 there:=fun b o e hf=>by
  obtain⟨o',q⟩:=I.base.there b o e (by rw[L.ex];simp)
  exact F.there b o' q (L.Dh I e hf)
 slot:=fun b o e hf=>by
  obtain⟨sl,q⟩:=I.base.slot b o e (I.ok.Mn b hf) hf (by rw[L.ex];simp)
  obtain⟨sl1,q1⟩:=F.slot b _ q (L.mem.mpr (.inr hf))
  obtain⟨_,o2,q2,hd⟩:=F.fl.2.2.1.mem (L.mem.mpr (.inr hf))
  obtain⟨QO,q3⟩:=u2 b o2 q2 hd
  rw[q1] at q2;cases q2
  exact⟨QO,q3⟩
 free:=fun b o e n=>by
  obtain⟨o',q⟩:=I.base.there b o e (by rw[L.ex];simp)
  exact F.free b o' q (I.base.free b o e n (by rw[L.ex];simp))
 lN:=fun b xs e=>F.lN b xs (I.base.lN b xs e)
 kK:=fun b o u e=>F.kK b o u (I.base.kK b o u e)
 kL:=fun b ps e=>by
  obtain⟨m1,q1⟩:=I.base.kL b ps e
  obtain⟨m2,q2⟩:=F.kL b _ q1
  exact⟨m1++m2,by rw[q2,Array.append_assoc]⟩
theorem QP(L:cJ X E)(hE:∀c d H',E' c d H'→E c d H'):Passes (eW X.prog X.w X.mg) X E':=fun pins σ H s e s' I h=>by
 obtain⟨a,cls,a0,B,H',rfl,os,bare,F,q⟩:=h
 refine L.xe _ _ ?_
 have vZ:X.A.frames=some (X.env::X.outer):=by rw[I.ok.frames,L.st]
 have fl:Heap.FlyingW B (X.env::X.outer) a cls a0 s'.heap:=by rw[← L.st];exact F.fl
 rcases F.cx with hc|hc
 ·obtain⟨f1,f2,f3,f4⟩:=fl
  exact Nx vZ L.fr f1 f2 f3 f4.at hc fun h2 f2 u2 c2=>⟨a,cls,a0,B,H',rfl,os.trans I.os,bare,L.Yw I F f2 u2 (.inl c2),hE _ _ _ q⟩
 ·exact wpAny_leaves_onW vZ L.fr fl fun h2 f2 u2=>⟨a,cls,a0,B,H',rfl,os.trans I.os,bare,L.Yw I F f2 u2 (.inr hc),hE _ _ _ q⟩
theorem Ny(I:Inv X pins σ H s):kJ X.prog X.w H (hideAll s.heap (mZ X.stack)):=fun a o e =>
 (I.aM a o e).oV (fun b u hb q=>hideAll_get _ q fun z=>by
  have n:=I.pF b z
  rcases hb with rfl|hb
  ·rw[e] at n;cases n
  ·rw[hb] at n;cases n) (fun _ q=>q) fun _ _ q=>q
theorem Ai(L:cJ X E)(I:Inv X pins σ H s)(hk:∀b o,s.heap.get? b=some o→h'.get? b=some o)(hn:s.heap.get? a=none)(he:h'.get? a=some oe)(hd:oe.data=.fields vs)
  (h0:vs[0]?=some a0) (h1:vs[1]?=some .none) (h2:vs[2]?=some c) (hc:c=.none∨X.mg "NoMark" = some oe.cls) (hE:E oe.cls none H):X.xe (.ref a) { s with heap:=h' }:=by
 refine L.xe _ _ ?_
 have vZ:X.A.frames=some (X.env::X.outer):=by rw[I.ok.frames,L.st]
 have FX:∀env∈X.stack,∀b,env.frame=some b→b∈mZ X.stack:=fun env he b hb=>List.mem_filterMap.mpr ⟨env,he,hb⟩
 have ff:s.heap.FunFrames (hideAll s.heap (mZ X.stack)) (X.env::X.outer):=by rw[← L.st];exact PySem.W.funFrames_hide I.stack FX
 have hb:(hideAll s.heap (mZ X.stack)).get? a=none:=by
  cases z:(hideAll s.heap (mZ X.stack)).get? a with
  |none=>rfl
  |some o=>have:=of_hideAll _ z;rw[hn] at this;cases this
 refine Jf (base:=hideAll s.heap (mZ X.stack)) vZ L.fr (fun b o q=>hk b o (of_hideAll _ q)) hb (ff.of_keeps fun b o q _=>⟨o,hk b o q,rfl⟩) he hd h0 h1 h2 fun h2 x1 x4 c2=>?_
 refine⟨a,oe.cls,a0,_,H,rfl,I.os,I.bare,⟨x1,Ny I,fun b o e n hf=>?_,fun b o e hf=>?_,fun b o e hf=>?_,fun b o e n=>I.base.free b o e n (by rw[L.ex];simp),I.base.lN,I.base.kK,I.base.kL,?_⟩,hE⟩
 ·exact hideAll_get _ (I.base.keep b o e n hf (by rw[L.ex];simp)) (L.Dh I e hf)
 ·obtain⟨o',q⟩:=I.base.there b o e (by rw[L.ex];simp)
  exact⟨o',hideAll_get _ q (L.Dh I e hf)⟩
 ·obtain⟨sl,q⟩:=I.base.slot b o e (I.ok.Mn b hf) hf (by rw[L.ex];simp)
  obtain⟨_,o2,q2,hd⟩:=I.oW.mem hf
  obtain⟨QO,q3⟩:=x4 b o2 (hk _ _ q2) hd
  rw[q] at q2;cases q2
  exact⟨QO,q3⟩
 ·rcases hc with rfl|hc
  ·exact .inl c2
  ·exact .inr hc
theorem ot(L:cJ X E)(I:Inv X pins σ H s)(hx:Heap.MadeExcOf s.heap h' a cls args)(hE:E cls none H):X.xe (.ref a) { s with heap:=h' }:=by
 obtain⟨t,he,_,_⟩:=hx.there
 exact Ai L I (fun b o q=>hx.keeps b o q) hx.new he rfl rfl rfl rfl (.inl rfl) hE
end
abbrev nj:List Value:=[.type "ValueError",.type "Exception",.type "BaseException",.type "object"]
structure XC(K:Frag)(C:Addr):Prop where
 q:excIn K C nj "ValueError.__new__" = true
def VV(h:Heap)(C:Addr)(bm:List Value):Prop:=∃N nm q bs hdct sn sub ab col dd k0 k1 k2 k3 k5 mN,
 h.get? C=some (excClassObj nm q C N bs bm hdct sn sub ab col dd k0 k1 k2 k3 k5 "ValueError.__new__")∧h.Ns N mN∧mN "__init__" = none∧OwnTail h nj bm
theorem XC.at{K:Frag}{C:Addr}{h:Heap}(x:XC K C)(X:K.In h):∃bm,VV h C bm:=by
 have q:=x.q
 unfold excIn at q
 split at q
 ·rename_i dd cd sl ho
  split at q
  ·rename_i C' bm' k0 k1 k2 k3 n k5 hm hs
   simp only [zJ,beq_iff_eq,Bool.not_eq_true'] at q
   obtain⟨⟨⟨⟨⟨q1,q2⟩,QQ⟩,ht⟩,aM⟩,TZ⟩:=q
   subst q1;subst q2
   obtain⟨nm,bs,mro,ns,qn,hd,sn,sub,ab,col,del⟩:=cd
   dsimp only at hm QQ aM TZ
   subst hm;subst QQ
   obtain⟨sl⟩:=sl
   dsimp only at hs
   subst hs
   exact⟨bm',ns,nm,qn,bs,hd,sn,sub,ab,col,dd,k0,k1,k2,k3,k5,_,X _ _ ho,.of_isNs (PySem.W.isNs_of_in X aM),PySem.W.nsMap_none_of_in X aM TZ,PySem.W.tail_of_in X ht⟩
  ·cases q
 ·cases q
def VW(a:Addr)(cls:Value):HO:=.ext fun h=>∃o vs,h.get? a=some o∧o.cls=cls∧o.data=.fields vs
abbrev TX:=(St→XK)→TS
def Ends.less(D:Ends)(i:Nat):Ends:={ nx:=fun σ H=>D.nx (σ.set i none) H,rt:=D.rt,bk:=fun σ H=>D.bk (σ.set i none) H,ct:=fun σ H=>D.ct (σ.set i none) H }
structure XA(K:Frag)(C:Addr):Prop where
 ga:findIn K (.ref C) "__getattribute__" = some (some (.builtin "BaseException.__getattribute__"))
 gh:findIn K (.ref C) "__getattr__" = some none
 cl:findIn K (.ref C) "__class__" = some (some (.builtin "object.__class__"))
section
variable{X:Cx}
theorem Lo(L:cJ X E):Passes (eW X.prog X.w X.mg) X E:=QP L fun _ _ _ h=>h
end
def ir(l:List Str):List Str:=l.foldl (fun c x=>if x∈c then c else c++[x]) []
theorem wD(l:List Str)(x:Str):ir (l++[x])=if x∈ir l then ir l else ir l++[x]:=by
 unfold ir
 rw[List.foldl_append]
 rfl
theorem Jg:∀(l:List Str),(ir l).length≤l.length:=fun l=>by
 have all:∀(r c:List Str),(r.foldl (fun c x=>if x∈c then c else c++[x]) c).length≤c.length+r.length:=by
  intro r
  induction r with
  |nil=>intro c;simp
  |cons x r ih =>
   intro c
   rw[yI]
   refine zI (ih _) ?_
   split <;> simp <;> try lia
 simpa [ir] using all l []
section
variable{prog:Program}{w:World}{A:Around}{R:Result→Shared→Prop}{I:Addr}{fp wr:List Addr}{G:Array GenState→Array GenState→Prop}{n:Nat}{P:Nat→Value→Prop}{St:Nat→Shared→Prop}
theorem FY(W:WalksS prog w A.in1 I fp wr G n P St)(S:Addr)(Yx:S∉fp)(xs:List Str)(hx:xs.length=n)(Nz:∀i v,P i v→∃x t,xs[i]?=some x∧v=.str x t)(hb:n+1<scanBound) :
  ∀(k i:Nat) (s:Shared),i+k=n→St i s→s.heap.SetOf (strKind prog w) S (fun y=>decide (y∈ir (xs.take i))) (ir (xs.take i)).length →
   (∀s',Moved (S::wr) G s s'→s'.heap.SetOf (strKind prog w) S (fun y=>decide (y∈ir xs)) (ir xs).length→R (.ok (.ret .none)) s') →
   codeAny (model prog w) A (.builtin "set.update.loop" ⟨[.ref S,.ref I],[]⟩) R s:=by
 have nw:S∉wr:=fun h=>Yx (W.sub _ h)
 have up:∀b∈wr,b∈S::wr:=fun b hb=>zh _ hb
 have mv:∀{i:Nat}{s s':Shared},Moved wr G s s'→s.heap.SetOf (strKind prog w) S (fun y=>decide (y∈ir (xs.take i))) (ir (xs.take i)).length→s'.heap.SetOf (strKind prog w) S (fun y=>decide (y∈ir (xs.take i))) (ir (xs.take i)).length :=
  fun hm ⟨o,es,ep,tb,ho,rest⟩=>⟨o,es,ep,tb,hm.heap S _ nw ho,rest⟩
 intro k
 induction k with
 |zero =>
  intro i s hk we hS hR
  have e:i=n:=by lia
  subst e
  refine yJ F.entry_set_update_loop ?_ ;rw[Around.under_plainId F.plain_set_update_loop _]
  show wpAny _ A.in1 (pyNext (.ref I) >>= _) _ _ s ;refine zc (W.done s _ _ we fun s' hm=>?_)
  show wpAny _ A.in1 (ret Value.none) _ _ s' ;have q:=mv hm hS
  rw[← hx,List.take_length] at q
  exact zu (hR s' (hm.mono up) q)
 |succ k ih =>
  intro i s hk we hS hR
  have lt:i<n:=by lia
  refine yJ F.entry_set_update_loop ?_ ;rw[Around.under_plainId F.plain_set_update_loop _]
  show wpAny _ A.in1 (pyNext (.ref I) >>= _) _ _ s ;refine zc (W.item i s _ _ lt we fun v s' hP NA hm=>?_)
  obtain⟨x,t,ex,rfl⟩:=Nz i v hP
  have q:=mv hm hS
  show wpAny _ A.in1 (holding [Value.str x t] (setAdd S (.str x t)) >>= _) _ _ s'
  refine zc (yD ?_) ;unfold setAdd ;refine yD ?_
  refine zc ((strKind prog w).pyHash (k:=x) (strKind_is _ _ _ _) ?_)
  have room:(ir (xs.take i)).length+1<scanBound:=by have:=Jg (xs.take i);rw[yq] at this;lia
  refine wpAny_setAddHashed_of (knd:=strKind prog w) (s:={ s' with toks:=s'.toks+1 }) (strKind_is _ _ _ _) rfl q room fun h' Jh q2=>?_
  have tk:xs.take (i+1)=xs.take i++[x]:=by rw[List.take_succ,ex];rfl
  have qi:h'.SetOf (strKind prog w) S (fun y=>decide (y∈ir (xs.take (i+1)))) (ir (xs.take (i+1))).length:=by
   refine SetOf_congr q2 (fun y=>?_) ?_
   ·rw[tk,wD]
    by_cases h:x∈ir (xs.take i)
    ·rw[if_pos h]
     by_cases hy:y=x
     ·subst hy;simp [h]
     ·simp [hy]
    ·rw[if_neg h];simp
   ·rw[tk,wD]
    by_cases h:x∈ir (xs.take i)
    ·rw[if_pos h,if_pos (by simpa using h)]
    ·rw[if_neg h,if_neg (by simpa using h)];simp
  refine zu ⟨plainId_quiet F.plain_set_update_loop _,ih (i+1) _ (by lia) (W.frame _ s' _ _ NA (yO _) fun b hb o e=>?_) qi fun y4 NB VZ=>?_⟩
  ·rw[Jh.2 b (fun h:b=S=>Yx (by rw[← h];exact hb))] ;exact e
  ·refine hR y4 (Moved.trans W.gtrans ((hm.mono up).then_heap (yO _) fun b o hb e=>?_) NB) VZ
   rw[Jh.2 b (fun h:b=S=>hb (by rw[h];exact zo))] ;exact e
theorem wF(hh:A.handled=none)(hl:s.heap.IsList l items)(hx:xs.length=items.size)
  (hi:∀(i:Nat) (v:Value),items[i]?=some v→∃x t,xs[i]?=some x∧v=.str x t) (hb:items.size+1<scanBound)
  (h:∀(h':Heap) (tk:Nat),h'.SetOf (strKind prog w) s.heap.objs.size (fun y=>decide (y∈ir xs)) (ir xs).length→(∀b o,b<s.heap.objs.size→s.heap.get? b=some o→h'.get? b=some o)→Q (.ref s.heap.objs.size) { s with heap:=h',toks:=tk }) :
  wpAny (model prog w) A (call (.type "set") [.ref l]) Q E s:=by
 obtain⟨c,tl,m0⟩:=F.called_set.mro ;have m1:=F.called_set.made ;have m2:=F.called_set.sub
 refine wpAny_call (codeAny_of_tree ?_) ;show wpAny _ _ (callAny (.type "set") _) _ _ _
 refine zu ⟨Code.quiet_builtin _ (by trivial),yJ F.entry_type_call ?_⟩ ;rw[Around.under_plain (weight_type_call_type "set" [.ref l] []) rfl]
 have m3:=F.called_set.notType ;have m4:=F.called_set.canCreate ;have m5:=F.typeCall_set_1 (.ref l)
 repeat (any_goals (first|assumption|wp_step))
 refine yM (code_set_new_1 (.ref l) (E:=E) (Q₁:=fun ob s1=>∃led:Bool,ob=.ref s.heap.objs.size∧s1={ s with heap:=s.heap.push { cls:=.type "set",dict:=none,data:=.set #[] 0 (.fresh 0 0 led) } }) fun led=>⟨led,rfl,rfl⟩) fun r s1 hr=>?_
 cases r with
 |error e=>exact hr
 |ok fl =>
  cases fl with
  |ret ob =>
   obtain⟨led,rfl,rfl⟩:=hr
   generalize hO:({ cls:=.type "set",dict:=none,data:=.set #[] 0 (.fresh 0 0 led) } : Obj)=O
   have gS:(s.heap.push O).get? s.heap.objs.size=some O:=zj _ (by rw[← hO];rfl)
   have tS:Shared.TypeIs { s with heap:=s.heap.push O } (.ref s.heap.objs.size) "set" := ⟨_,gS,by rw[← hO]⟩
   have i1:=F.called_set.init.lookup ;have i2:=F.called_set.init.bind (.ref s.heap.objs.size)
   repeat (any_goals (first|assumption|wp_step))
   refine yM (codeAny_call_builtin (R:=wants (fun r s2=>r=.none∧∃h' tk,s2={ s with heap:=h',toks:=tk }∧h'.SetOf (strKind prog w) s.heap.objs.size (fun y=>decide (y∈ir xs)) (ir xs).length∧(∀b o,b<s.heap.objs.size→s.heap.get? b=some o→h'.get? b=some o)) E)
    F.called_set.init.plain F.entry_set_init (check_set_init_1 tS ?_)) fun r2 s2 V0=>?_
   ·obtain⟨ol,gl,cl,nl,dl⟩:=hl
    obtain⟨Z_,QS,Yy,NC⟩:=ol
    simp only at cl dl ;subst cl ;subst dl
    have QT:(s.heap.push O).get? l=some { cls:=.type "list",dict:=QS,data:=.seq items nl,slots:=NC }:=za _ gl
    have j1:=F.sub_list_set ;have j2:=F.sub_list_frozenset
    have j3:(Value.type "list" == Value.type "dict")=false:=by decide
    have il:(s.heap.push O).IsList l items:=⟨_,QT,rfl,nl,rfl⟩
    subst hO
    unfold Builtin.«set.__init__» noKeywords Builtin.Frozenset.updateFrom ;generalize hPI:pyIter=PI
    wp_walk
    subst hPI ;refine wpAny_pyIter_list il ?_ ;refine zc (wpAny_runValue ?_)
    have ll:l<s.heap.objs.size:=zt gl
    have h3:A.in1.in1.in1.handled=none:=by simp [hh]
    have ne:l≠(s.heap.push { cls:=.type "set",dict:=none,data:=.set #[] 0 (.fresh 0 0 led) }).objs.size:=by rw[zU] ;exact zx (Nat.lt_succ_of_lt ll)
    have nf:s.heap.objs.size∉[(s.heap.push { cls:=.type "set",dict:=none,data:=.set #[] 0 (.fresh 0 0 led) }).objs.size,l]:=by
     rw[zU] ;simp only [zi,zG,zK,or_false,not_or] ;exact⟨zx (yE _),yg ll⟩
    refine FY ((Walks.list h3 _ l ne items).toS) s.heap.objs.size nf xs hx hi hb (items.size - 0) 0 _ (by lia) ⟨⟨_,zj _ rfl,rfl,rfl⟩,(il.push _)⟩ ?hS0 ?hR
    case hS0 =>
     have gg:=za { cls:=.type "list_iterator",data:=.fields #[.ref l,.int 0 0] } gS
     exact SetOf_congr ((setObjOf_fresh (knd:=strKind prog w) led).setOf gg (by unfold scanBound;lia)) (fun _=>rfl) rfl
    case hR =>
     intro s' hm q
     obtain⟨h',g',d',Ph,Qq⟩:=s'
     have eg:g'=s.gens:=hm.gens ;have ed:d'=s.drawn:=hm.drawn ;have eo:Qq=s.os:=hm.os
     subst eg ;subst ed ;subst eo
     show wpAny _ _ _ _ _ _ ;refine zu ?_ ;show wpAny _ _ (ret Value.none) _ _ _
     refine zu ⟨rfl,h',Ph,rfl,q,fun b o hb e=>?_⟩
     have b2:b≠(s.heap.push { cls:=.type "set",dict:=none,data:=.set #[] 0 (.fresh 0 0 led) }).objs.size:=by rw[zU] ;exact zx (Nat.lt_succ_of_lt hb)
     refine hm.heap b o ?_ (za _ (za _ e))
     simp only [zi,zG,zK,or_false,not_or] ;exact⟨zx hb,b2⟩
   ·cases r2 with
    |error e=>exact V0
    |ok f2 =>
     cases f2 with
     |ret r =>
      obtain⟨rfl,h',tk,rfl,q,k'⟩:=V0
      repeat (any_goals (first|assumption|wp_step))
      exact h _ _ q k'
     |_=>exact V0.elim
  |_=>exact hr.elim
end
def ND(P:Program)(w:World)(a:Addr)(xs:List Str):HO:=.ext fun h=>h.SetOf (strKind P w) a (fun y=>decide (y∈ir xs)) (ir xs).length
theorem Ji(q:h.SetOf (strKind P w) a (fun y=>decide (y∈ir xs)) (ir xs).length):bp P w H h a (ND P w a xs):=by
 obtain⟨o,es,ep,t,ho,rest⟩:=id q
 exact⟨q,⟨o,ho⟩,by rintro h1 h2 ⟨o,es,ep,t,ho,rest⟩ k;exact⟨o,es,ep,t,k _ ho,rest⟩⟩
theorem wG:∀{xs:List Str}{aA:List Value},Vals (xs.map V.str) aA→∀(i:Nat) (v:Value),aA[i]?=some v→∃x t,xs[i]?=some x∧v=.str x t
 |[],_,.nil,i,v,e=>by simp at e
 |x::xs,_,.cons r rs,0,v,e=>by
  obtain⟨t,q⟩:=r
  simp at e
  exact⟨x,t,rfl,by rw[← e];exact q⟩
 |x::xs,_,.cons r rs,i+1,v,e=>by
  obtain⟨y,t,e1,e2⟩:=wG rs i v (by simpa using e)
  exact⟨y,t,by simpa using e1,e2⟩
section
variable{X:Cx}
theorem DR{P:Program}{w:World}{K:Frag}(hP:X.prog=P)(hw:X.w=w)(hK:X.K=K)(hc:X.calm=true) :
  eI X (.type "set") (fun vs H Q=>∃p xs,vs=[.ref p]∧jE K H p (xs.map V.str)∧xs.length<4000∧∀l,H l=none→Q (.ref l) (upd H l (ND P w l xs))):=by
 subst hP;subst hw;subst hK
 intro pins s σ H vs us Q I r h
 obtain⟨p,xs,rfl,hq,hz,q⟩:=h
 obtain⟨u,rfl,rx⟩:=vals1 r
 cases rx
 obtain⟨aA,r',pl,_⟩:=I.list hq
 have hlen:xs.length=aA.toArray.size:=by have:=r'.length;simpa using this
 refine wF (I.ok.hd hc) pl.isList hlen (fun i v e=>wG r' i v (by simpa using e)) (by rw[← hlen];unfold scanBound;lia) fun h' tk qs kp=>?_
 refine⟨.ref s.heap.objs.size,_,I.laid (t':=tk) (fun b o e=>kp b o (zt e) e) (zm _) (Ji qs),rfl,q _ (I.aM.fresh (zm _))⟩
theorem DU(hP:X.prog=P)(hw:X.w=w):eI X (.builtin "len") (fun vs H Q=>∃a xs,vs=[.ref a]∧H a=some (ND P w a xs)∧Q (.int (ir xs).length) H):=by
 subst hP;subst hw
 intro pins s σ H vs us Q I r h
 obtain⟨a,xs,rfl,ha,q⟩:=h
 obtain⟨u,rfl,rx⟩:=vals1 r
 cases rx
 obtain⟨⟨o,es,ep,t,ho,hex,hd,V1,NF,hb,hf,hn⟩,_⟩:=I.aM a _ ha
 refine call_len_set ho hex hd hf (by unfold scanBound at hb;lia) ?_
 exact⟨.int (ir xs).length,H,I.tok _,⟨_,by rw[hn]⟩,q⟩
end
theorem tK(l:List Str):(ir l).length=l.length↔l.Nodup:=by
 have all:∀(r c:List Str),c.Nodup→((r.foldl (fun c x=>if x∈c then c else c++[x]) c).length=c.length+r.length↔(c++r).Nodup):=by
  intro r
  induction r with
  |nil=>intro c hc;simpa using hc
  |cons x r ih =>
   intro c hc
   rw[yI]
   by_cases h:x∈c
   ·rw[if_pos h]
    have le:(r.foldl (fun c x=>if x∈c then c else c++[x]) c).length≤c.length+r.length:=by
     have all2:∀(r c:List Str),(r.foldl (fun c x=>if x∈c then c else c++[x]) c).length≤c.length+r.length:=by
      intro r
      induction r with
      |nil=>intro c;simp
      |cons x r ih=>intro c;rw[yI];refine zI (ih _) ?_;split <;> simp <;> try lia
     exact all2 r c
    refine⟨fun e=>by simp at e;lia,fun e=>?_⟩
    exact absurd rfl ((List.nodup_append.mp e).2.2 x h x (by simp))
   ·rw[if_neg h]
    have Ig:(c++[x]).Nodup:=lS hc h
    have:=ih (c++[x]) Ig
    simp only [zE,zQ,List.length_nil,List.append_assoc,List.singleton_append] at this ⊢
    rw[← this]
    constructor <;> intro e <;> lia
 simpa [ir] using all l [] List.nodup_nil
theorem iu:entryFor table "dict.update.loop" = some Builtin.«dict.update.loop»:=entryFor_of_tree (by kernel_rfl)
theorem cN:plainId "dict.update.loop" = true:=by trivial
theorem sj:typeLookup (.type "tuple") "keys" = pure none:=by rw[typeLookup_type,builtinLookup_eq_fast];kernel_rfl
section
variable{prog:Program}{w:World}{A:Around}{E:Value→Shared→Prop}{s:Shared}
theorem so(hx:s.heap.get? a=some o)(hc:o.cls=.type "tuple")(QU:o.data=.seq xs k)(hd:o.dict=none)(hA:A.handled=none)
  (h:∀h' tk,(∀b ob,s.heap.get? b=some ob→h'.get? b=some ob)→Q none { s with heap:=h',toks:=tk }):wpAny (model prog w) A (getAttr? (.ref a) "keys") Q E s:=by
 obtain⟨c,cQ,dat,sl⟩:=o
 simp only at hc QU hd
 subst hc QU hd
 obtain⟨hp,g,d,tk,os⟩:=s
 have hT:∀Ph,(⟨hp,g,d,Ph,os⟩:Shared).TypeIs (.ref a) "tuple" := fun _=>⟨_,hx,rfl⟩
 have f1:=sub_AttributeError ;have f3:=F.slot_tuple_getattribute.lookup
 have f4:=F.slot_tuple_getattribute.bind (.ref a) ;have f5:=am_tuple_getattr_none
 unfold getAttr? getAttrBy? getAttrBy
 repeat (any_goals (first|assumption|exact hT _|((with_reducible show wpAny _ _ (call (Value.builtin "tuple.__getattribute__") _ _) _ _ _);refine call_meets F.slot_tuple_getattribute (hT _) am_entry_tuple_getattribute (F.args_tuple_getattribute_2 _ _) (meets_getattribute_miss_tuple a xs k sl "keys" _ sj (by trivial) (by size_fits)) ⟨hx,hA,fun h' Ph e QV=>?_⟩)|wp_step))
 obtain⟨t',u',he⟩:=QV.there
 show wpAny _ _ (getattributeRaised _ _ _ _ _ _ _) _ _ _ ;unfold getattributeRaised
 repeat (any_goals (first|assumption|wp_step))
 exact h _ _ QV.keeps
end
section
variable{prog:Program}{w:World}{A:Around}{R:Result→Shared→Prop}{I:Addr}{fp wr:List Addr}{G:Array GenState→Array GenState→Prop}{n:Nat}{P:Nat→Value→Prop}{St:Nat→Shared→Prop}
theorem DV(W:WalksS prog w A.in1 I fp wr G n P St)(D:Addr)(Yz:D∉fp)(kvs:List (Key×Value))(hx:kvs.length=n)(base:Heap)
  (Nz:∀i v,P i v→∃(b:Addr) (k:Key) (key val:Value) (o:Obj) (m:Nat),kvs[i]?=some (k,val)∧v=.ref b∧(aH prog w).is k key=true∧base.get? b=some o∧o.cls=.type "tuple" ∧ o.data=.seq #[key,val] m∧b≠D∧b∉wr) (hb:n≤sizeLine) :
  ∀(k i:Nat) (s:Shared) (c:Int) (t:Tok),i+k=n→St i s→s.heap.DictOf (aH prog w) D (merged [] (kvs.take i))→(∀b o,base.get? b=some o→b≠D→b∉wr→s.heap.get? b=some o) →
   (∀s',Moved (D::wr) G s s'→s'.heap.DictOf (aH prog w) D (merged [] kvs)→R (.ok (.ret .none)) s') →
   codeAny (model prog w) A (.builtin "dict.update.loop" ⟨[.ref D,.ref I,.int c t,.none],[]⟩) R s:=by
 have nw:D∉wr:=fun h=>Yz (W.sub _ h)
 have up:∀b∈wr,b∈D::wr:=fun b hb=>zh _ hb
 intro k
 induction k with
 |zero =>
  intro i s c t hk we hS hB hR
  have e:i=n:=by lia
  subst e
  refine yJ iu ?_ ;rw[Around.under_plainId cN _]
  show wpAny _ A.in1 (pyNext (.ref I) >>= _) _ _ s ;refine zc (W.done s _ _ we fun s' hm=>?_)
  show wpAny _ A.in1 (Builtin.Dict.addKeywords D [] >>= _) _ _ s'
  have q:s'.heap.DictOf (aH prog w) D (merged [] (kvs.take i)):=by
   obtain⟨o,es,ep,ho,rest⟩:=hS
   exact⟨o,es,ep,hm.heap D _ nw ho,rest⟩
  rw[← hx,List.take_length] at q
  exact zc (zu (zu (hR s' (hm.mono up) q)))
 |succ k ih =>
  intro i s c t hk we hS hB hR
  have lt:i<n:=by lia
  refine yJ iu ?_ ;rw[Around.under_plainId cN _]
  show wpAny _ A.in1 (pyNext (.ref I) >>= _) _ _ s ;refine zc (W.item i s _ _ lt we fun v s' hP NA hm=>?_)
  obtain⟨b,ky,key,val,o,m,ek,rfl,MU,ho,hc,hd,hbD,YA⟩:=Nz i v hP
  have q:s'.heap.DictOf (aH prog w) D (merged [] (kvs.take i)):=by
   obtain⟨o,es,ep,ho,rest⟩:=hS
   exact⟨o,es,ep,hm.heap D _ nw ho,rest⟩
  have YB:s'.heap.get? b=some o:=hm.heap b o YA (hB b o ho hbD YA)
  have room:(merged [] (kvs.take i)).length≤sizeLine:=by have:=merged_length_le ([]:List (Key×Value)) (kvs.take i);rw[yq] at this;simp at this;lia
  have tk:merged [] (kvs.take (i+1))=stored (merged [] (kvs.take i)) ky val:=merged_take_succ [] kvs i (ky,val) ek
  refine zc (yD (zc (wpAny_tryCatch ?_)))
  unfold Builtin.Dict.pairItems
  refine zc (wpAny_typeOf (T := "tuple") ⟨o,YB,hc⟩ ?_)
  show wpAny _ A.in1 (seqItems? (.ref b) >>= _) _ _ s'
  refine zc (wpAny_seqItems YB hd (zu ?_))
  show wpAny _ A.in1 (holding [key,val] (dictSet D key val)) _ _ s'
  refine yD (wpAny_dictSet_pairs MU q (fun h' q2 Jh=>?_) room)
  rw[← tk] at q2
  refine zu ⟨plainId_quiet cN _,ih (i+1) _ _ _ (by lia) (W.frame _ s' _ _ NA (yO _) fun b hb o e=>?_) q2 (fun b o e h1 h2=>?_) fun y4 NB VZ=>?_⟩
  ·rw[Jh.2 b (fun h:b=D=>Yz (by rw[← h];exact hb))] ;exact e
  ·rw[Jh.2 b h1] ;exact hm.heap b o h2 (hB b o e h1 h2)
  ·refine hR y4 (Moved.trans W.gtrans ((hm.mono up).then_heap (yO _) fun b o hb e=>?_) NB) VZ
   rw[Jh.2 b (fun h:b=D=>hb (by rw[h];exact zo))] ;exact e
theorem su(hh:A.handled=none)(gl:s.heap.get? l=some ol)(cl:ol.cls=.type "tuple")(dl:ol.data=.seq items m)(nl:ol.dict=none)(hx:kvs.length=items.size)
  (hi:∀(i:Nat) (v:Value),items[i]?=some v→∃(b:Addr) (k:Key) (key val:Value) (o:Obj) (m:Nat),kvs[i]?=some (k,val)∧v=.ref b∧(aH prog w).is k key=true∧s.heap.get? b=some o∧o.cls=.type "tuple" ∧ o.data=.seq #[key,val] m) (hb:items.size≤sizeLine)
  (h:∀(h':Heap) (tk:Nat),h'.DictOf (aH prog w) s.heap.objs.size (merged [] kvs)→(∀b o,s.heap.get? b=some o→h'.get? b=some o)→Q (.ref s.heap.objs.size) { s with heap:=h',toks:=tk }) :
  wpAny (model prog w) A (call (.type "dict") [.ref l]) Q E s:=by
 refine callType_codes (Q₁:=fun obj aZ=>obj=.ref s.heap.objs.size∧aZ={ s with heap:=s.heap.push { cls:=.type "dict",data:=.dict #[] } }) F.kt_called_dict (F.kt_typeCall_dict_1 _) F.entry_dict_init (kt_code_dict_new _ ⟨rfl,rfl⟩) ?_
 rintro obj aZ ⟨rfl,rfl⟩
 have NG:(s.heap.push { cls:=.type "dict",data:=.dict #[] }).DictOf (aH prog w) s.heap.objs.size []:=Heap.DictOf.new s.heap
 have QT:(s.heap.push { cls:=.type "dict",data:=.dict #[] }).get? l=some ol:=za _ gl
 refine⟨NG.typeIs,F.args_dict_init_2 _ _,?_⟩
 unfold Builtin.«dict.__init__»
 refine zc ?_
 unfold Builtin.Dict.selfAndRest
 refine zc (wpAny_notOrdered_dict NG.typeIs ?_) ;show wpAny _ _ (pure (s.heap.objs.size,[Value.ref l])) _ _ _
 refine zu ?_ ;show wpAny _ _ (Builtin.Dict.updateFrom "dict.__init__" s.heap.objs.size (.ref l) [] .none) _ _ _
 unfold Builtin.Dict.updateFrom
 refine zc (wpAny_typeOf (T := "tuple") ⟨ol,QT,cl⟩ ?_) ;rw[if_pos (by decide)]
 have h3:A.in1.in1.handled=none:=by simp [hh]
 refine zc (so QT cl dl nl h3 fun h1 tk1 T4=>?_)
 have g1:h1.get? l=some ol:=T4 _ _ QT
 have d1:h1.DictOf (aH prog w) s.heap.objs.size []:=by
  obtain⟨o,es,ep,ho,rest⟩:=NG
  exact⟨o,es,ep,T4 _ _ ho,rest⟩
 have lD:s.heap.objs.size<h1.objs.size:=by obtain⟨o,es,ep,ho,rest⟩:=d1;exact zt ho
 have ll:l<s.heap.objs.size:=zt gl
 show wpAny _ _ (rule _ >>= _) _ _ _ ;refine zc (wpAny_rule ?_)
 have YC:h1.IsTuple l items:=⟨ol,g1,cl,m,dl⟩
 refine zc (wpAny_pyIter_tuple (s:=⟨h1,s.gens,s.drawn,tk1,s.os⟩) YC ?_)
 have ne:l≠h1.objs.size:=zx (Nat.lt_trans ll lD)
 have nf:s.heap.objs.size∉[h1.objs.size,l]:=by
  simp only [zi,zG,zK,or_false,not_or] ;exact⟨zx lD,yg ll⟩
 refine zu ⟨plainId_quiet cN _,?_⟩
 refine DV ((Walks.tuple h3 _ l ne items).toS) s.heap.objs.size nf kvs hx s.heap (fun i v e=>?_) hb (items.size - 0) 0 _ _ _ (by lia) ⟨⟨_,zj _ rfl,rfl,rfl⟩,YC.push _⟩ ?hS0 ?hB ?hR
 ·obtain⟨b,k,key,val,o,m',e1,e2,e3,e4,e5,e6⟩:=hi i v e
  have lb:=zt e4
  exact⟨b,k,key,val,o,m',e1,e2,e3,e4,e5,e6,zx lb,by simp;exact zx (Nat.lt_trans lb lD)⟩
 case hS0=>exact d1.push _
 case hB=>exact fun b o e DX V2=>za _ (T4 _ _ (za _ e))
 case hR =>
  intro s' hm q
  obtain⟨h',g',d',Ph,Qq⟩:=s'
  have eg:g'=s.gens:=hm.gens ;have ed:d'=s.drawn:=hm.drawn ;have eo:Qq=s.os:=hm.os
  subst eg ;subst ed ;subst eo
  refine⟨rfl,h h' Ph q fun b o e=>?_⟩
  have lb:=zt e
  refine hm.heap b o ?_ (za _ (T4 _ _ (za _ e)))
  simp only [zi,zG,zK,or_false,not_or] ;exact⟨zx lb,zx (Nat.lt_trans lb lD)⟩
end
def B7(l:List (Str×V)):List (Key×V):=l.foldl (fun c p=>putK c (.inr p.1) p.2) []
def YD(H:Hp)(ps:List V)(kvs:List (Str×V)):Prop:=kvs.length=ps.length∧∀(i:Nat) (x:V) (p:Str×V),ps[i]?=some x→kvs[i]?=some p→∃b,x=.ref b∧H b=some (.tup [.str p.1,p.2])
section
variable{X:Cx}
theorem Aj(hc:X.calm=true):eI X (.type "dict") (fun vs H Q=>∃p ps kvs,vs=[.ref p]∧H p=some (.tup ps)∧YD H ps kvs∧∀l,H l=none→Q (.ref l) (upd H l (.dK (B7 kvs)))):=by
 intro pins s σ H vs us Q I r h
 obtain⟨p,ps,kvs,rfl,hp,⟨hl,hq⟩,q⟩:=h
 obtain⟨u,rfl,rx⟩:=vals1 r
 cases rx
 obtain⟨hz,aA,rv,ol,gl,cl,nl,m,dl⟩:=(show bp X.prog X.w H s.heap p (.tup ps) from I.aM p _ hp)
 have hlen:=rv.length
 -- the pairs as values
 have each:∀(i:Nat) (x:V) (pr:Str×V),ps[i]?=some x→kvs[i]?=some pr→∃(b:Addr) (key val:Value) (o:Obj) (m:Nat),aA[i]?=some (.ref b)∧(aH X.prog X.w).is (.inr pr.1) key=true∧RelV pr.2 val∧s.heap.get? b=some o∧o.cls=.type "tuple" ∧ o.data=.seq #[key,val] m:=by
  intro i x pr e1 e2
  obtain⟨b,rfl,hb⟩:=hq i x pr e1 e2
  obtain⟨u,e3,ru⟩:=rv.get e1
  cases ru
  obtain⟨_,it2,r2,o,go,co,no,m2,do2⟩:=(show bp X.prog X.w H s.heap b (.tup [.str pr.1,pr.2]) from I.aM b _ hb)
  obtain⟨k',v',rfl,⟨tk,rfl⟩,rv'⟩:=r2.two
  exact⟨b,_,v',o,m2,e3,iR _ _ _ _,rv',go,co,by simpa using do2⟩
 have kv:∃vals:List (Key×Value),KV (kvs.map fun p=>((.inr p.1:Key),p.2)) vals∧∀(i:Nat) (x:V),ps[i]?=some x→∃(b:Addr) (k:Key) (key val:Value) (o:Obj) (m:Nat),vals[i]?=some (k,val)∧aA[i]?=some (.ref b)∧(aH X.prog X.w).is k key=true∧s.heap.get? b=some o∧o.cls=.type "tuple" ∧ o.data=.seq #[key,val] m:=by
  clear hp q rv dl hz
  induction kvs generalizing ps aA with
  |nil =>
   refine⟨[],.nil,fun i x e=>?_⟩
   have:ps=[]:=List.eq_nil_of_length_eq_zero (by simpa using hl.symm)
   subst this
   simp at e
  |cons pr r ih =>
   cases ps with
   |nil=>simp at hl
   |cons y ys =>
    cases aA with
    |nil=>simp at hlen
    |cons w0 ws =>
     obtain⟨b,key,val,o,m,e1,e2,e3,e4,e5,e6⟩:=each 0 y pr rfl rfl
     obtain⟨vals,k1,k2⟩:=ih ys (by simpa using hl) (fun i x p a b=>hq (i+1) x p (by simpa using a) (by simpa using b)) ws (by simpa using hlen) (fun i x p a b=>by simpa using each (i+1) x p (by simpa using a) (by simpa using b))
     refine⟨(.inr pr.1,val)::vals,.cons ⟨rfl,e3⟩ k1,fun i x e=>?_⟩
     cases i with
     |zero=>exact⟨b,.inr pr.1,key,val,o,m,rfl,e1,e2,e4,e5,e6⟩
     |succ i=>simpa using k2 i x (by simpa using e)
 obtain⟨vals,YE,kv2⟩:=kv
 have lv:vals.length=aA.length:=by have:=YE.length;rw[zb] at this;lia
 refine su (kvs:=vals) (I.ok.hd hc) gl cl dl nl (by simpa using lv) (fun i v e=>?_) (by simp;lia) fun h' tk qs kp=>?_
 ·have e':aA[i]?=some v:=by simpa using e
  have hi:i<aA.length:=(ze.mp e').1
  obtain⟨b,k,key,val,o,m',e1,e2,e3,e4,e5,e6⟩:=kv2 i (ps[i]'(by lia)) (zf _)
  rw[e'] at e2
  exact⟨b,k,key,val,o,m',e1,zM e2,e3,e4,e5,e6⟩
 ·have rel:KV (B7 kvs) (merged [] vals):=by
   have all:∀(l:List (Str×V)) (vl:List (Key×Value)) (c:List (Key×V)) (cv:List (Key×Value)),KV (l.map fun p=>((.inr p.1:Key),p.2)) vl→KV c cv→KV (l.foldl (fun c p=>putK c (.inr p.1) p.2) c) (merged cv vl):=by
    intro l
    induction l with
    |nil=>intro vl c cv h1 h2;cases h1;exact h2
    |cons p r ih =>
     intro vl c cv h1 h2
     cases h1 with
     |@cons _ q _ qs r1 r2 =>
      obtain⟨k,v⟩:=q
      obtain⟨rfl,rv⟩:=r1
      exact ih qs _ _ r2 (h2.put _ rv)
   exact all kvs vals [] [] YE .nil
  have big:=I.big
  refine⟨.ref s.heap.objs.size,_,I.laid (t':=tk) (fun b o e=>kp b o e) (zm _) (o:=.dK (B7 kvs)) ⟨?_,?_,_,rel,qs⟩,rfl,q _ (I.aM.fresh (zm _))⟩
  ·have e1:=rel.length
   have e2:=merged_length_le ([]:List (Key×Value)) vals
   simp at e2
   lia
  ·simp;exact yg big
theorem YF(h:n≤1000):n≤sizeLine:=yB (jF h)
end
abbrev lU(h:Heap)(T:Addr)(arr:Array Value):Prop:=h.get? T=some { cls:=.type "tuple",data:=.seq arr }
theorem uC(hs:Heap.ExtBut b h h')(n:a≠b)(x:h.IsTupleIter a l i):h'.IsTupleIter a l i:=x.extBut hs n
theorem Lp{h h':Heap}{a l:Addr}{i:Nat}(k:∀o,h.get? a=some o→h'.get? a=some o)(x:h.IsTupleIter a l i):h'.IsTupleIter a l i:=by obtain⟨o,e,r⟩:=x;exact⟨o,k o e,r⟩
section
variable{prog:Program}{w:World}{A:Around}{E:Value→Shared→Prop}{s:Shared}
theorem V3(h:n≤3):n≤sizeLine:=YF (zI h (by decide))
theorem DY(hT:lU s.heap T arr)(hz:arr.size≤3)(h:∀h',lU h' T (arr.setIfInBounds k x)→Heap.SameBut T s.heap h'→Q () { s with heap:=h' }):wpAny (model prog w) A (updateSeq T (·.setIfInBounds k x)) Q E s:=by
 refine wpAny_updateSeq hT rfl (h _ ?_ (yu ..)) (hz:=V3 hz) (_hz':=by have:=V3 hz;simp;lia)
 show Heap.get? _ _=_
 rw[ym _ hT rfl] ;simp [Obj.mapSeq]
theorem Al(hit:s.heap.IsTupleIter it l i)(hl:s.heap.IsTuple l items)(hx:items[i]?=some x)(hQ:∀h',h'.IsTupleIter it l (i+1)→Heap.SameBut it s.heap h'→Q x { s with heap:=h' }) :
  wpAny (model prog w) A (Builtin.SmallTypes.nextOf (.ref it)) Q E s:=by
 obtain⟨o,ho,hc,hd⟩:=id hit ;obtain⟨ol,QW,_,nl,B8⟩:=hl
 unfold Builtin.SmallTypes.nextOf
 refine zc (wpAny_callSpecial?_slot (name:=Str.ofString "__next__") hit.typeIs F.slot_tuple_iterator_next (yF F.slot_tuple_iterator_next hit.typeIs F.entry_tuple_iterator_next ?_ (F.args_tuple_iterator_next_1 _)))
 show wpAny _ _ (field (.ref it) 0 >>= _) _ _ s ;refine zc (z0 ho hd (x:=.ref l) rfl ?_)
 show wpAny _ _ (if (Value.ref l == Value.none)=true then _ else _) _ _ s ;rw[if_neg (show ¬ ((Value.ref l == Value.none)=true) from zd)]
 show wpAny _ _ (field (.ref it) 1 >>= _) _ _ s ;refine zc (z0 ho hd (x:=.int i 0) rfl ?_)
 show wpAny _ _ (seqItems? (.ref l) >>= _) _ _ s ;refine zc (wpAny_seqItems QW B8 ?_)
 simp only [Int.toNat_natCast,hx]
 refine zc (yL ho hd (by simp) (zu ⟨x,rfl,zu (hQ _ ⟨_,ym _ ho (Obj.isFreed_of_fields (yp hd _)),(Obj.cls_mapFields ..).trans hc,by rw[yp hd];simp [rawInt]⟩ (yu ..))⟩))
theorem qq(hh:A.handled=none)(hit:s.heap.IsTupleIter it l i)(hl:s.heap.IsTuple l items)(hx:items[i]?=none)
  (hE:∀h' e,Heap.ExtBut it s.heap h'→(∃o,h'.get? e=some o∧o.cls=.type "StopIteration")→E (.ref e) { s with heap:=h' }):wpAny (model prog w) A (Builtin.SmallTypes.nextOf (.ref it)) Q E s:=by
 obtain⟨o,ho,hc,hd⟩:=id hit ;obtain⟨ol,QW,_,nl,B8⟩:=hl
 unfold Builtin.SmallTypes.nextOf
 refine zc (wpAny_callSpecial?_slot (name:=Str.ofString "__next__") hit.typeIs F.slot_tuple_iterator_next (yF F.slot_tuple_iterator_next hit.typeIs F.entry_tuple_iterator_next ?_ (F.args_tuple_iterator_next_1 _)))
 show wpAny _ _ (field (.ref it) 0 >>= _) _ _ s ;refine zc (z0 ho hd (x:=.ref l) rfl ?_)
 show wpAny _ _ (if (Value.ref l == Value.none)=true then _ else _) _ _ s ;rw[if_neg (show ¬ ((Value.ref l == Value.none)=true) from zd)]
 show wpAny _ _ (field (.ref it) 1 >>= _) _ _ s ;refine zc (z0 ho hd (x:=.int i 0) rfl ?_)
 show wpAny _ _ (seqItems? (.ref l) >>= _) _ _ s ;refine zc (wpAny_seqItems QW B8 ?_)
 simp only [Int.toNat_natCast,hx]
 refine zc (wpAny_rule (zc (yL ho hd (by simp) ?_))) ;show wpAny _ _ (newExc (.type "StopIteration") [] >>= _) _ _ _
 refine zc ?_ ;simp only [newExc,newTuple] ;refine zc (yA ?_ (by size_fits))
 refine zc (m:=firstArgMember _ _) (yP (a:=Value.none) (by first|rfl|(simp only [firstArgMember];rfl)) ?_) ;refine yA ?_ (by size_fits)
 simp only [raiseNew] ;refine zc (wpAny_handled ?_)
 first|rw[show A.in1.handled=none from hh]|rw[hh]
 refine zc (zu (wpAny_throw (hE _ _ (((yu ..).extBut.push _).push _) ⟨_,zj _ rfl,rfl⟩)))
end
def ZS2(n l0 l1:Nat)(i:Nat)(h:Heap):Prop:=IsZip h (n+4) (n+2) (n+3) .none∧lU h (n+2) #[.ref n,.ref (n+1)]∧(∃arr:Array Value,arr.size=2∧lU h (n+3) arr)∧h.IsTupleIter n l0 i∧h.IsTupleIter (n+1) l1 i
section
variable{X:Cx}{pins:List (Addr×Obj)}{σ:St}{H:Hp}{s:Shared}{h':Heap}
theorem Inv.Jj(I:Inv X pins σ H s)(wr:List Addr)(hw:∀b∈wr,rW X pins H b)(k:∀b o,b∉wr→s.heap.get? b=some o→h'.get? b=some o):Inv X pins σ H { s with heap:=h',toks:=t' }:=by
 refine I.step (g':=s.gens) (d':=s.drawn) (ch:=wr) (fun b hb=>by obtain⟨_,a,_,c,d,e⟩:=hw b hb;exact⟨c,a,d,e⟩) (fun b o _ _ hc e _=>k b o hc e) (fun b o _ _ hc e _=>⟨o.slots,k b o hc e⟩) (fun _ _ _ _ n=>n)
  (fun b o hc e=>⟨o,k b o hc e⟩) (fun _ _ e=>e) (fun _ _ _ e=>e) (fun b ps e=>⟨#[],by rw[e];simp⟩) (fun m hm=>?_) (fun b u e=>?_) I.bare
 ·obtain⟨o,es,ep,ho,r⟩:=hm
  exact⟨o,es,ep,k _ o (fun z=>(hw _ z).2.1 rfl) ho,r⟩
 ·refine (I.aM b u e).oV (fun c v hc q=>k c v (fun z=>?_) q) (fun _ q=>q) fun _ _ q=>q
  have n:=(hw c z).1
  rcases hc with rfl|hc
  ·rw[n] at e;cases e
  ·rw[n] at hc;cases hc
theorem Inv.Jl(I:Inv X pins σ H s)(wr:List Addr)(hw:∀b∈wr,rW X pins H b)(k:∀b o,b∉wr→s.heap.get? b=some o→h'.get? b=some o)(hT:s.heap.get? T=none)(new:bp X.prog X.w (upd H T o) h' T o) :
  Inv X pins σ (upd H T o) { s with heap:=h',toks:=t' }:=by
 have fr:H T=none:=by
  cases q:H T with
  |none=>rfl
  |some u=>obtain⟨z,e⟩:=(I.aM T u q).get;rw[hT] at e;cases e
 have ne:∀b u,H b=some u→b≠T:=fun b u e z=>by rw[z,fr] at e;cases e
 refine I.step (g':=s.gens) (d':=s.drawn) (ch:=wr) (fun b hb=>by obtain⟨_,a,_,c,d,e⟩:=hw b hb;exact⟨c,a,d,e⟩) (fun b o _ _ hc e _=>k b o hc e) (fun b o _ _ hc e _=>⟨o.slots,k b o hc e⟩) (fun b ob _ e n=>?_)
  (fun b o hc e=>⟨o,k b o hc e⟩) (fun b xs e=>by rw[ax (ne b _ e)];exact e) (fun b ob u e=>by rw[ax (ne b _ e)];exact e) (fun b ps e=>⟨#[],by rw[ax (ne b _ e),e];simp⟩) (fun m hm=>?_) (fun b u e=>?_) I.bare
 ·have:b≠T:=fun z=>by rw[z,hT] at e;cases e
  rw[ax this];exact n
 ·obtain⟨o,es,ep,ho,r⟩:=hm
  exact⟨o,es,ep,k _ o (fun z=>(hw _ z).2.1 rfl) ho,r⟩
 ·by_cases hb:b=T
  ·subst hb;rw[aF] at e;cases e;exact new
  ·rw[ax hb] at e
   refine (I.aM b u e).oV (fun c v hc q=>k c v (fun z=>?_) q) (fun c q=>by rw[ax (ne c _ q)];exact q) fun c xs q=>by rw[ax (ne c _ q)];exact q
   have n:=(hw c z).1
   rcases hc with rfl|hc
   ·rw[n] at e;cases e
   ·rw[n] at hc;cases hc
end
abbrev Jm(h:Heap)(l0:Addr):Heap:=(h).push { cls:=.type "tuple_iterator",data:=.fields #[.ref l0,.int 0 0] }
abbrev Jn(h:Heap)(l0 l1:Addr):Heap:=(Jm h l0).push { cls:=.type "tuple_iterator",data:=.fields #[.ref l1,.int 0 0] }
abbrev Jo(h:Heap)(l0 l1:Addr):Heap:=(Jn h l0 l1).push { cls:=.type "tuple",data:=.seq #[.ref h.objs.size,.ref (Jm h l0).objs.size] }
abbrev Jp(h:Heap)(l0 l1:Addr):Heap:=(Jo h l0 l1).push { cls:=.type "tuple",data:=.seq #[.none,.none] }
abbrev Ap(h:Heap)(l0 l1:Addr):Heap:=(Jp h l0 l1).push { cls:=.type "zip",data:=.fields #[.none,.bool false,.bool false,.ref (Jn h l0 l1).objs.size,.ref (Jo h l0 l1).objs.size] }
theorem Aq(l0 l1:Addr)(Am Ao:Array Value):Meets (Builtin.«zip.__new__» ⟨[.type "zip",.ref l0,.ref l1],[]⟩) (fun _ R s=>s.heap.IsTuple l0 Am∧s.heap.IsTuple l1 Ao∧R (.ok (.ret (.ref (Jp s.heap l0 l1).objs.size))) { s with heap:=Ap s.heap l0 l1 }) :=
 .of_wp fun prog w A R s h=>by
  obtain⟨hp,g,d,tk,os⟩:=s;obtain⟨t0,t1,h⟩:=h
  have V4:=sub_zip
  have L0:Heap.IsTuple (Shared.heap ⟨hp,g,d,tk,os⟩) l0 Am:=t0
  have L1:Heap.IsTuple (Shared.heap ⟨hp.push { cls:=.type "tuple_iterator",data:=.fields #[.ref l0,.int 0 0] },g,d,tk,os⟩) l1 Ao:=Heap.IsTuple.push (t1) _
  wp_walk using wpAny_pyIter_tuple L0,wpAny_pyIter_tuple L1
  exact !⟨h⟩
theorem Ar(t0:s.heap.IsTuple l0 Am)(t1:s.heap.IsTuple l1 Ao)
  (h:∀h',ZS2 s.heap.objs.size l0 l1 0 h'→(∀c o,s.heap.get? c=some o→h'.get? c=some o)→Q (.ref (s.heap.objs.size+4)) { s with heap:=h' }):wpAny (model prog w) A (call (.type "zip") [.ref l0,.ref l1]) Q E s:=by
 refine callType_new F.called_zip (by decide) (F.typeCall_zip_2 _ _) (F.newCall_zip_2 _ _) (fun obj=>F.args_object_init_3 obj _ _) F.entry_zip_new (Aq l0 l1 Am Ao) ⟨t0,t1,?_⟩
 have z1:(Jm s.heap l0).objs.size=s.heap.objs.size+1:=zU ..
 have z2:(Jn s.heap l0 l1).objs.size=s.heap.objs.size+2:=by rw[zU,z1]
 have z3:(Jo s.heap l0 l1).objs.size=s.heap.objs.size+3:=by rw[zU,z2]
 have z4:(Jp s.heap l0 l1).objs.size=s.heap.objs.size+4:=by rw[zU,z3]
 have z5:(Ap s.heap l0 l1).objs.size=s.heap.objs.size+5:=by rw[zU,z4]
 have g0:(Ap s.heap l0 l1).get? (s.heap).objs.size=some _:=za _ (za _ (za _ (za _ (zj _ rfl))))
 have g1:(Ap s.heap l0 l1).get? (Jm s.heap l0).objs.size=some _:=za _ (za _ (za _ (zj _ rfl)))
 have g2:(Ap s.heap l0 l1).get? (Jn s.heap l0 l1).objs.size=some _:=za _ (za _ (zj _ rfl))
 have g3:(Ap s.heap l0 l1).get? (Jo s.heap l0 l1).objs.size=some _:=za _ (zj _ rfl)
 have g4:(Ap s.heap l0 l1).get? (Jp s.heap l0 l1).objs.size=some _:=zj _ rfl
 show _∧_
 rw[z2,z3,z4] at g4
 rw[z3] at g3
 rw[z1,z2] at g2
 rw[z1] at g1
 rw[z4]
 exact⟨⟨_,g4,rfl⟩,h _ ⟨g4,g2,!⟨g3⟩,⟨_,g0,rfl,rfl⟩,⟨_,g1,rfl,rfl⟩⟩ fun c o x=>za _ (za _ (za _ (za _ (za _ x))))⟩
def Jq(K:Frag):V→List V→Hp→VK→Prop:=fun x vs H Q=>∃(a:Addr) (xs:List V) (y z:V) (j:Nat),x=.ref a∧vs=[y]∧jE K H a xs∧gu y=true∧xs.all gu=true∧xs[j]?=some z∧eqV z y=true∧(∀m u,m<j→xs[m]?=some u→eqV u y=false)∧Q (.int j) H
theorem DZ:Pa X "list.index" (Jq X.K):=by
 intro pins s σ H x vs v us Q I rx rv h
 obtain⟨a,xs,y,z,j,rfl,rfl,hq,fy,fx,hj,hit,V5,q⟩:=h
 cases rx
 obtain⟨u,rfl,ru⟩:=rv.one
 obtain⟨aA,r,p,hz⟩:=I.list hq
 obtain⟨⟨cls,dd,data,sl⟩,ho,hc,n,hd⟩:=p.isList
 simp only at hc hd
 subst hc hd
 have hl:=r.length
 have eE:j<xs.length:=(ze.mp hj).1
 have fl:∀(m:Nat) (w:V),xs[m]?=some w→gu w=true:=fun m w e=>yc.mp fx w (zC e)
 have at':∀(m:Nat) (hm:m<aA.toArray.size) (w:V),xs[m]?=some w→FA y aA.toArray[m]=eqV w y:=fun m hm w e=>by
  obtain⟨u',e',ru'⟩:=r.get e
  have:aA.toArray[m]=u':=by
   have:=ze.mp e'
   simpa using this.2
  rw[this]
  exact y7 ru' (fl m w e)
 have hs:sizeLine=16777216:=zZ
 refine call_meets PySem.F.slot_list_index ⟨_,ho,rfl⟩ PySem.F.entry_list_index (PySem.F.args_list_index_2 _ _) (SeqAt.list_indexAt a aA.toArray n dd sl u (FA y) j (by simp;lia) (by lia) ?_ ?_) ⟨ho,fun w hw=>lQ ru fy r fx w (by simpa using hw),⟨.int j,H,I.tok _,⟨_,rfl⟩,q⟩⟩
 ·rw[at' j _ z hj];exact hit
 ·intro m hm hmj
  have YG:m<xs.length:=by lia
  rw[at' m hm _ (zf YG)]
  exact V5 m _ hmj (zf YG)
def QX:R2:=fun x y H Q=>∃z n,x=.str z∧y=.int n∧MulOk z n∧Q (.str (PySem.Txt.mul z n)) H
theorem As:gR X (binaryOp .Mult) QX:=by
 intro pins s σ H x y v u Q I rx ry h
 obtain⟨z,n,rfl,rfl,hm,q⟩:=h
 obtain⟨t,rfl⟩:=rx
 obtain⟨t',rfl⟩:=ry
 exact SB.mul hm fun t'' k=>⟨.str _,H,I.tok k,⟨_,rfl⟩,q⟩
def Ii(w:World)(K:Frag)(a:Addr)(kvs:List (Str×V)):Prop:=(a == sysModules)=false∧∃(o:Obj) (es:Array DictEntry) (ep:Nat),K.lookup a=some o∧o.ExactDict∧o.data=.dict es ep ∧
 Paired (fun (e:DictEntry) (kv:Str×V)=>e.hash=hashStr w kv.1∧(∃t,e.key=.str kv.1 t)∧RelV kv.2 e.val) es.toList kvs∧(kvs.map Prod.fst).Nodup
theorem qr(z:Str):∀kvs:List (Str×V),fE (kvs.map fun p=>((.inr p.1:Key),p.2)) (.inr z)=kvs.lookup z
 |[]=>rfl
 | (x,v)::r=>by
  rw[zB,zW]
  by_cases e:z=x
  ·subst e
   rw[qg rfl]
   simp
  ·have e1:(z == x)=false:=by simpa using e
   rw[qh (fun q=>e (yH q).symm),e1]
   exact qr z r
section
variable{X:Cx}{pins:List (Addr×Obj)}{σ:St}{H:Hp}{s:Shared}{a:Addr}{kvs:List (Str×V)}
theorem Au(I:Inv X pins σ H s)(d:Ii X.w X.K a kvs):(a == sysModules)=false∧∃vs,KV (kvs.map fun p=>((.inr p.1:Key),p.2)) vs∧s.heap.DictOf (aH X.prog X.w) a vs:=by
 obtain⟨ns,o,es,ep,hk,hx,hd,hp,hn⟩:=d
 have all:∀(es:List DictEntry) (kvs:List (Str×V)),Paired (fun (e:DictEntry) (kv:Str×V)=>e.hash=hashStr X.w kv.1∧(∃t,e.key=.str kv.1 t)∧RelV kv.2 e.val) es kvs →
   ∃vs:List (Key×Value),KV (kvs.map fun p=>((.inr p.1:Key),p.2)) vs∧Pairs (aH X.prog X.w) es vs∧vs.map (·.1)=kvs.map (fun p=>(.inr p.1:Key))∧∀e∈es,∃k,(aH X.prog X.w).is k e.key=true∧e.hash=(aH X.prog X.w).hash k:=by
  intro es kvs hp
  induction hp with
  |nil=>exact⟨[],.nil,.nil,rfl,by simp⟩
  |@cons e kv TF kvs' h t ih =>
   obtain⟨vs,k1,k2,k3,k4⟩:=ih
   obtain⟨h1,⟨tk,h2⟩,h3⟩:=h
   have hi:(aH X.prog X.w).is (.inr kv.1) e.key=true:=by rw[h2];exact iR _ _ _ _
   refine⟨(.inr kv.1,e.val)::vs,.cons ⟨rfl,h3⟩ k1,.cons hi rfl k2,by rw[zB,zB,k3],fun e' he=>?_⟩
   rcases zi.mp he with rfl|he
   ·exact⟨.inr kv.1,hi,h1⟩
   ·exact k4 e' he
 obtain⟨vs,k1,k2,k3,k4⟩:=all _ _ hp
 refine⟨ns,vs,k1,o,es,ep,I.oh a o hk,hx,hd,fun e he=>k4 e (by simpa using he),k2,?_⟩
 rw[k3]
 have:(kvs.map fun p=>(.inr p.1:Key))=(kvs.map Prod.fst).map Sum.inr:=by rw[zw];rfl
 rw[this]
 exact List.Pairwise.map _ (fun x y h q=>h (yH q)) hn
theorem FZ{w:World}{K:Frag}(hw:X.w=w)(hK:X.K=K):gR X (compareOp .In) (fun x y H Q=>∃z a kvs,x=.str z∧y=.ref a∧Ii w K a kvs∧Q (.bl (kvs.lookup z).isSome) H):=by
 subst hw hK
 intro pins s σ H x y v u Q I rx ry h
 obtain⟨z,a,kvs,rfl,rfl,d,q⟩:=h
 cases ry
 obtain⟨ns,vs,rel,dd⟩:=Au I d
 refine wpAny_in_of (j_ (k:=.inr z) rx) ns dd.mapOf ?_
 rw[← (rel.val (.inr z)).ng,qr]
 exact⟨.bl _,H,I.tok _,rfl,q⟩
def QY(w:World)(K:Frag):V→List V→Hp→VK→Prop:=fun x vs H Q=>∃a z kvs,x=.ref a∧vs=[.str z]∧Ii w K a kvs∧Q ((kvs.lookup z).getD .aw) H
theorem Jr{w:World}{K:Frag}(hw:X.w=w)(hK:X.K=K):Pa X "dict.get" (QY w K):=by
 subst hw hK
 intro pins s σ H x vs v us Q I rx rv h
 obtain⟨a,z,kvs,rfl,rfl,d,q⟩:=h
 cases rx
 obtain⟨u,rfl,ru⟩:=rv.one
 obtain⟨ns,vs,rel,dd⟩:=Au I d
 refine call_meetsIn yn dd.typeIs PySem.F.entry_dict_get (PySem.F.args_dict_get_2 _ _) (meets_dict_get (aH X.prog X.w) a (j_ (k:=.inr z) ru) ns) ⟨_,dd.mapOf,_,H,I.tok _,?_,q⟩
 rw[← qr]
 exact (rel.val (.inr z)).getD rfl
theorem F9{w:World}{K:Frag}{o e:Expr}{apos aP:Pos}{td ty:TE}(hw:X.w=w)(hK:X.K=K)(ho:PE X o td)(he:PE X e ty)(m:M1 X o "get" apos e aP):PE X (.Call (.Attribute o "get" apos) [e] [] aP)
  (fun σ H Q=>td σ H fun x H1=>∃a kvs,x=.ref a∧Ii w K a kvs∧ty σ H1 fun y H2=>∃z,y=.str z∧Q ((kvs.lookup z).getD .aw) H2):=by
 subst hw hK
 intro pins s σ H Q I h
 refine wpAny_Call_method m.base m.E1 m.line PySem.F.plainAttrs_dict yn PySem.F.type_dict_get (bq (ho pins s σ H _ I h) fun u s1 ⟨x,H1,I1,rx,a,kvs,ex,d,q1⟩=>?_)
 subst ex
 obtain rfl:u=Value.ref a:=rx
 obtain⟨ns,vs,rel,dd⟩:=Au I1 d
 obtain⟨ob,_,_,h1,h2,_⟩:=id dd
 refine⟨dd.typeIs,fun b q=>by cases q;exact⟨ob,h1,h2.2.1⟩,?_⟩
 rw[m.trees]
 refine Calls.callWith_builtin rfl (Calls.evalArgs_plain (yy (bq (he pins s1 σ H1 _ I1 q1) fun iv s2 ⟨y,H2,I2,ry,z,ey,q2⟩=>Calls.spliced_nil ?_)))
 subst ey
 exact Jr rfl rfl pins s2 σ H2 (.ref a) [.str z] _ [iv] Q I2 rfl (.cons ry .nil) ⟨a,z,kvs,rfl,rfl,d,q2⟩
end
theorem F_:bootBuiltins "min" = some (.builtin "min"):=by trivial
def ZS3(n l0 l1 l2:Nat)(i:Nat)(h:Heap):Prop:=IsZip h (n+5) (n+3) (n+4) .none∧lU h (n+3) #[.ref n,.ref (n+1),.ref (n+2)]∧(∃arr:Array Value,arr.size=3∧lU h (n+4) arr)∧h.IsTupleIter n l0 i∧h.IsTupleIter (n+1) l1 i∧h.IsTupleIter (n+2) l2 i
abbrev Js(h:Heap)(l0:Addr):Heap:=(h).push { cls:=.type "tuple_iterator",data:=.fields #[.ref l0,.int 0 0] }
abbrev Jt(h:Heap)(l0 l1:Addr):Heap:=(Js h l0).push { cls:=.type "tuple_iterator",data:=.fields #[.ref l1,.int 0 0] }
abbrev Ju(h:Heap)(l0 l1 l2:Addr):Heap:=(Jt h l0 l1).push { cls:=.type "tuple_iterator",data:=.fields #[.ref l2,.int 0 0] }
abbrev Jv(h:Heap)(l0 l1 l2:Addr):Heap:=(Ju h l0 l1 l2).push { cls:=.type "tuple",data:=.seq #[.ref h.objs.size,.ref (Js h l0).objs.size,.ref (Jt h l0 l1).objs.size] }
abbrev Jw(h:Heap)(l0 l1 l2:Addr):Heap:=(Jv h l0 l1 l2).push { cls:=.type "tuple",data:=.seq #[.none,.none,.none] }
abbrev wH(h:Heap)(l0 l1 l2:Addr):Heap:=(Jw h l0 l1 l2).push { cls:=.type "zip",data:=.fields #[.none,.bool false,.bool false,.ref (Ju h l0 l1 l2).objs.size,.ref (Jv h l0 l1 l2).objs.size] }
theorem Av(l0 l1 l2:Addr)(Am Ao Pj:Array Value):Meets (Builtin.«zip.__new__» ⟨[.type "zip",.ref l0,.ref l1,.ref l2],[]⟩) (fun _ R s=>s.heap.IsTuple l0 Am∧s.heap.IsTuple l1 Ao∧s.heap.IsTuple l2 Pj∧R (.ok (.ret (.ref (Jw s.heap l0 l1 l2).objs.size))) { s with heap:=wH s.heap l0 l1 l2 }) :=
 .of_wp fun prog w A R s h=>by
  obtain⟨hp,g,d,tk,os⟩:=s;obtain⟨t0,t1,t2,h⟩:=h
  have V4:=sub_zip
  have L0:Heap.IsTuple (Shared.heap ⟨hp,g,d,tk,os⟩) l0 Am:=t0
  have L1:Heap.IsTuple (Shared.heap ⟨hp.push { cls:=.type "tuple_iterator",data:=.fields #[.ref l0,.int 0 0] },g,d,tk,os⟩) l1 Ao:=Heap.IsTuple.push (t1) _
  have L2:Heap.IsTuple (Shared.heap ⟨(hp.push { cls:=.type "tuple_iterator",data:=.fields #[.ref l0,.int 0 0] }).push { cls:=.type "tuple_iterator",data:=.fields #[.ref l1,.int 0 0] },g,d,tk,os⟩) l2 Pj:=Heap.IsTuple.push (Heap.IsTuple.push (t2) _) _
  wp_walk using wpAny_pyIter_tuple L0,wpAny_pyIter_tuple L1,wpAny_pyIter_tuple L2
  exact !⟨h⟩
theorem Aw(a0 a1 a2:Value):checkTypeCall "zip" ⟨[a0,a1,a2],[]⟩=pure ():=by kernel_rfl
theorem Ax(a0 a1 a2:Value):checkBuiltinCall "zip.__new__" ⟨[.type "zip",a0,a1,a2],[]⟩=pure ():=by kernel_rfl
theorem NH(x a0 a1 a2:Value):argsOk "object.__init__" ⟨[x,a0,a1,a2],[]⟩:=by
 unfold argsOk;rw[signature?_of (id := "object.__init__") (n:=['_','_','t','i','n','i','_','_']) (o:=['t','c','e','j','b','o']) (by kernel_rfl) F.owner_object];kernel_rfl
theorem Ay(t0:s.heap.IsTuple l0 Am)(t1:s.heap.IsTuple l1 Ao)(t2:s.heap.IsTuple l2 Pj)
  (h:∀h',ZS3 s.heap.objs.size l0 l1 l2 0 h'→(∀c o,s.heap.get? c=some o→h'.get? c=some o)→Q (.ref (s.heap.objs.size+5)) { s with heap:=h' }):wpAny (model prog w) A (call (.type "zip") [.ref l0,.ref l1,.ref l2]) Q E s:=by
 refine callType_new F.called_zip (by decide) (Aw _ _ _) (Ax _ _ _) (fun obj=>NH obj _ _ _) F.entry_zip_new (Av l0 l1 l2 Am Ao Pj) ⟨t0,t1,t2,?_⟩
 have z1:(Js s.heap l0).objs.size=s.heap.objs.size+1:=zU ..
 have z2:(Jt s.heap l0 l1).objs.size=s.heap.objs.size+2:=by rw[zU,z1]
 have z3:(Ju s.heap l0 l1 l2).objs.size=s.heap.objs.size+3:=by rw[zU,z2]
 have z4:(Jv s.heap l0 l1 l2).objs.size=s.heap.objs.size+4:=by rw[zU,z3]
 have z5:(Jw s.heap l0 l1 l2).objs.size=s.heap.objs.size+5:=by rw[zU,z4]
 have z6:(wH s.heap l0 l1 l2).objs.size=s.heap.objs.size+6:=by rw[zU,z5]
 have g0:(wH s.heap l0 l1 l2).get? (s.heap).objs.size=some _:=za _ (za _ (za _ (za _ (za _ (zj _ rfl)))))
 have g1:(wH s.heap l0 l1 l2).get? (Js s.heap l0).objs.size=some _:=za _ (za _ (za _ (za _ (zj _ rfl))))
 have g2:(wH s.heap l0 l1 l2).get? (Jt s.heap l0 l1).objs.size=some _:=za _ (za _ (za _ (zj _ rfl)))
 have g3:(wH s.heap l0 l1 l2).get? (Ju s.heap l0 l1 l2).objs.size=some _:=za _ (za _ (zj _ rfl))
 have g4:(wH s.heap l0 l1 l2).get? (Jv s.heap l0 l1 l2).objs.size=some _:=za _ (zj _ rfl)
 have g5:(wH s.heap l0 l1 l2).get? (Jw s.heap l0 l1 l2).objs.size=some _:=zj _ rfl
 show _∧_
 rw[z3,z4,z5] at g5
 rw[z4] at g4
 rw[z1,z2,z3] at g3
 rw[z1] at g1
 rw[z2] at g2
 rw[z5]
 exact⟨⟨_,g5,rfl⟩,h _ ⟨g5,g3,!⟨g4⟩,⟨_,g0,rfl,rfl⟩,⟨_,g1,rfl,rfl⟩,⟨_,g2,rfl,rfl⟩⟩ fun c o x=>za _ (za _ (za _ (za _ (za _ (za _ x)))))⟩
theorem Vals.three(h:Vals [x,y,z] us):∃u v w,us=[u,v,w]∧RelV x u∧RelV y v∧RelV z w:=by
 cases h with
 |cons r h=>cases h with
  |cons q h=>cases h with
   |cons p h=>cases h;exact⟨_,_,_,rfl,r,q,p⟩
section
variable{X:Cx}
def Jx:V→List V→Hp→VK→Prop:=fun x vs H Q=>∃z y,x=.str z∧vs=[.str y]∧Q (.bl (PySem.Txt.startswith z y)) H
theorem sv:Pa X "str.startswith" Jx:=by
 intro pins s σ H x vs v us Q I rx rv h
 obtain⟨z,y,rfl,rfl,q⟩:=h
 obtain⟨t,rfl⟩:=rx
 obtain⟨u,rfl,ru⟩:=rv.one
 obtain⟨t',rfl⟩:=ru
 exact PySem.SC.startswith ⟨.bl _,H,I,rfl,q⟩
end
end L2
namespace L2
open PySem PySem.Spec PyProof.Rows PySem.SeqAt
end L2
namespace L2
open PySem PySem.Spec PyProof.Rows
theorem uD(l:Addr)(items:Array Value)(n:Nat)(b:Addr)(qt:Array Value)(n2:Nat)(sl:Array (Option Value))(Pk:¬(!items.isEmpty && Builtin.List.listTooLong (items.size+qt.size))=true)(hs1:items.size≤sizeLine)(wg:items.size+qt.size≤sizeLine+1) :
  Meets (Builtin.«list.extend» ⟨[.ref l,.ref b],[]⟩) (fun _ R s=>s.heap.get? l=some { cls:=.type "list",dict:=none,data:=.seq items n,slots:=#[] }∧s.heap.get? b=some { cls:=.type "tuple",dict:=none,data:=.seq qt n2,slots:=sl }∧R (.ok (.ret Value.none)) { s with heap:=s.heap.update l (Obj.mapSeq fun x=>x++qt),toks:=s.toks }) :=
 .of_wp fun prog w A R s h=>by
  obtain⟨hp,g,d,tk,os⟩:=s;obtain⟨hl,hb,h⟩:=h;have f1:=AutoSeq1.idx_int;have f2:=AutoSeq1.sub_tuple_tuple;have f3:=AutoSeq1.sub_list_list;have f4:=AutoSeq1.sub_tuple_list;have f5:=AutoSeq1.sub_list_tuple;
  have V6:(items++qt).size≤sizeLine+1:=by rw[Array.size_append];exact wg
  wp_walk using (wpAny_updateSeq hl rfl (hz:=hs1) (_hz':=V6)),AutoSeq1.wpAny_loadPart' hl,AutoSeq1.wpAny_loadPart' hb;exact !⟨h⟩
section
variable{X:Cx}
def Ga:V→List V→Hp→VK→Prop:=fun x vs H Q=>∃l b xs zs,x=.ref l∧vs=[.ref b]∧H l=some (.lst xs)∧H b=some (.tup zs)∧xs.length+zs.length≤sizeLine∧Q .aw (upd H l (.lst (xs++zs)))
theorem Az:Vx X "list.extend" Ga:=by
 intro pins s σ H x vs v us Q I rx rv h
 obtain⟨l,b,xs,zs,rfl,rfl,hH,hB,hz,q⟩:=h
 cases rx
 obtain⟨u,rfl,ru⟩:=rv.one
 cases ru
 obtain⟨z,aA,n,r,hl,e⟩:=I.FD hH
 obtain⟨z2,uv,r2,⟨c2,d2,dt2,QO⟩,e2,ec,ed,n2,en⟩:=(show bp X.prog X.w H s.heap b (.tup zs) from I.aM b _ hB)
 dsimp only at ec ed en
 subst ec ed en
 have vY:=r2.length
 have hsz:aA.toArray.size+uv.toArray.size≤sizeLine:=by rw[zr,zr];lia
 have QZ:¬ (!aA.toArray.isEmpty && Builtin.List.listTooLong (aA.toArray.size+uv.toArray.size))=true:=by
  rw[FE hsz,Bool.and_false]
  exact zd
 refine call_meets F.slot_list_extend ⟨_,e,rfl⟩ F.entry_list_extend (F.args_list_extend_2 _ _)
  (uD l aA.toArray n b uv.toArray n2 QO QZ (by rw[zr];lia) (by lia)) ⟨e,e2,?_⟩
 refine⟨.aw,_,I.M_ (its':=aA++uv) hH e (by simp) (r.append r2) ?_,rfl,q⟩
 rw[zE]
 lia
end
inductive D where
 |aw|bl (b:Bool)|int (i:Int)|str (x:Str)|tup (ds:List D)|iP (ds:List D)|kt (ds:List D)|ref (a:Addr)|ty (n:String)
def V7(K:Frag)(a:Addr)(xs:List V):Prop:=∃(o:Obj) (aA:Array Value) (n:Nat),K.lookup a=some o∧o.cls=.type "tuple" ∧ o.data=.seq aA n∧aA.size≤sizeLine∧Vals xs aA.toList
def Lq(K:Frag)(H:Hp)(a:Addr)(xs:List V):Prop :=
 (∃o,H a=some (.kI o (.lst xs)))∨∃(o:Obj) (aA:Array Value) (n:Nat),K.lookup a=some o∧o.cls=.type "list" ∧ o.dict=none∧o.data=.seq aA n∧aA.size≤sizeLine∧Vals xs aA.toList
theorem Lq.sq{K:Frag}{H:Hp}{a:Addr}{xs:List V}(h:Lq K H a xs):jE K H a xs:=by
 rcases h with h|h
 ·exact .inl (.inr h)
 ·exact .inr h
structure Kp(K:Frag)(H H':Hp):Prop where
 t:∀a xs,H a=some (.tup xs)→H' a=some (.tup xs)
 r:∀a xs,Lq K H a xs→Lq K H' a xs
 f:∀a o u,H a=some (.kI o u)→H' a=some (.kI o u)
theorem Kp.refl{K:Frag}(H:Hp):Kp K H H:=⟨fun _ _ h=>h,fun _ _ h=>h,fun _ _ _ h=>h⟩
theorem Kp.trans{K:Frag}{H H1 H2:Hp}(a:Kp K H H1)(b:Kp K H1 H2):Kp K H H2:=⟨fun p xs h=>b.t p xs (a.t p xs h),fun p xs h=>b.r p xs (a.r p xs h),fun p o u h=>b.f p o u (a.f p o u h)⟩
theorem Kp.of{K:Frag}{H H':Hp}(h:∀b o,H b=some o→H' b=some o∨(∀xs,o≠.tup xs)∧∀u v,o≠.kI u v):Kp K H H' where
 t:=fun a xs q=>(h _ _ q).resolve_right fun z=>z.1 _ rfl
 r:=fun a xs q=>by
  rcases q with ⟨o,q⟩|q
  ·exact .inl ⟨o,(h _ _ q).resolve_right fun z=>z.2 _ _ rfl⟩
  ·exact .inr q
 f:=fun a o u q=>(h _ _ q).resolve_right fun z=>z.2 _ _ rfl
theorem Kp.new{K:Frag}{H:Hp}{a:Addr}{o:HO}(h:H a=none):Kp K H (upd H a o):=.of fun b u e=>.inl (by rw[ax (aD e h)];exact e)
theorem Kp.put{K:Frag}{H:Hp}{a:Addr}{o u:HO}(h:H a=some o)(h1:∀xs,o≠.tup xs)(h2:∀u v,o≠.kI u v):Kp K H (upd H a u):=.of fun b v e=>by
 by_cases q:b=a
 ·subst q;rw[h] at e;cases e;exact .inr ⟨h1,h2⟩
 ·exact .inl (by rw[ax q];exact e)
mutual
def Rv(K:Frag)(H:Hp):D→V→Prop
 |.aw,v=>v=.aw
 |.bl b,v=>v=.bl b
 |.int i,v=>v=.int i
 |.str z,v=>v=.str z
 |.tup ds,v=>∃a xs,v=.ref a∧H a=some (.tup xs)∧RvAll K H ds xs
 |.iP ds,v=>∃a xs,v=.ref a∧Lq K H a xs∧RvAll K H ds xs
 |.kt ds,v=>∃a xs,v=.ref a∧V7 K a xs∧RvAll K H ds xs
 |.ref a,v=>v=.ref a
 |.ty n,v=>v=.ty n
def RvAll(K:Frag)(H:Hp):List D→List V→Prop
 |[],xs=>xs=[]
 |d::ds,xs=>∃y ys,xs=y::ys∧Rv K H d y∧RvAll K H ds ys
end
section
variable{K:Frag}{H H':Hp}
theorem iX:Rv K H .aw .aw:=by simp only [Rv]
theorem cg(b:Bool):Rv K H (.bl b) (.bl b):=by simp only [Rv]
theorem aL(i:Int):Rv K H (.int i) (.int i):=by simp only [Rv]
theorem iY(z:Str):Rv K H (.str z) (.str z):=by simp only [Rv]
theorem gU(a:Addr):Rv K H (.ref a) (.ref a):=by simp only [Rv]
theorem Q0(n:String):Rv K H (.ty n) (.ty n):=by simp only [Rv]
theorem Ls(h:V7 K a xs)(t:RvAll K H ds xs):Rv K H (.kt ds) (.ref a):=by simp only [Rv];exact⟨a,xs,rfl,h,t⟩
theorem nq(h:H a=some (.tup xs))(t:RvAll K H ds xs):Rv K H (.tup ds) (.ref a):=by simp only [Rv];exact⟨a,xs,rfl,h,t⟩
theorem Gb(h:Lq K H a xs)(t:RvAll K H ds xs):Rv K H (.iP ds) (.ref a):=by simp only [Rv];exact⟨a,xs,rfl,h,t⟩
theorem Rv.aw(h:Rv K H .aw v):v=.aw:=by simpa only [Rv] using h
theorem Rv.bl(h:Rv K H (.bl b) v):v=.bl b:=by simpa only [Rv] using h
theorem Rv.int(h:Rv K H (.int i) v):v=.int i:=by simpa only [Rv] using h
theorem Rv.str(h:Rv K H (.str z) v):v=.str z:=by simpa only [Rv] using h
theorem Rv.ref(h:Rv K H (.ref a) v):v=.ref a:=by simpa only [Rv] using h
theorem Rv.ty(h:Rv K H (.ty n) v):v=.ty n:=by simpa only [Rv] using h
theorem Rv.kt(h:Rv K H (.kt ds) v):∃a xs,v=.ref a∧V7 K a xs∧RvAll K H ds xs:=by simpa only [Rv] using h
theorem Rv.tup(h:Rv K H (.tup ds) v):∃a xs,v=.ref a∧H a=some (.tup xs)∧RvAll K H ds xs:=by simpa only [Rv] using h
theorem Rv.iP(h:Rv K H (.iP ds) v):∃a xs,v=.ref a∧Lq K H a xs∧RvAll K H ds xs:=by simpa only [Rv] using h
theorem bC:RvAll K H [] []:=by simp only [RvAll]
theorem aS(h:Rv K H d x)(t:RvAll K H ds xs):RvAll K H (d::ds) (x::xs):=by simp only [RvAll];exact⟨x,xs,rfl,h,t⟩
theorem RvAll.nil(h:RvAll K H [] xs):xs=[]:=by simpa only [RvAll] using h
theorem RvAll.cons(h:RvAll K H (d::ds) xs):∃y ys,xs=y::ys∧Rv K H d y∧RvAll K H ds ys:=by simpa only [RvAll] using h
mutual
theorem Rv.ts(s:Kp K H H'):∀(d:D) {v:V},Rv K H d v→Rv K H' d v
 |.aw,v,h=>by simpa only [Rv] using h
 |.bl b,v,h=>by simpa only [Rv] using h
 |.int i,v,h=>by simpa only [Rv] using h
 |.str z,v,h=>by simpa only [Rv] using h
 |.tup ds,v,h=>by
  obtain⟨a,xs,rfl,e,t⟩:=h.tup
  exact nq (s.t _ _ e) (RvAll.ts s ds t)
 |.iP ds,v,h=>by
  obtain⟨a,xs,rfl,e,t⟩:=h.iP
  exact Gb (s.r _ _ e) (RvAll.ts s ds t)
 |.kt ds,v,h=>by
  obtain⟨a,xs,rfl,e,t⟩:=h.kt
  exact Ls e (RvAll.ts s ds t)
 |.ref a,v,h=>by simpa only [Rv] using h
 |.ty n,v,h=>by simpa only [Rv] using h
theorem RvAll.ts(s:Kp K H H'):∀(ds:List D) {xs:List V},RvAll K H ds xs→RvAll K H' ds xs
 |[],xs,h=>by rw[h.nil];exact bC
 |d::ds,xs,h=>by
  obtain⟨y,ys,rfl,h1,h2⟩:=h.cons
  exact aS (Rv.ts s d h1) (RvAll.ts s ds h2)
end
theorem RvAll.len:∀{ds:List D}{xs:List V},RvAll K H ds xs→xs.length=ds.length
 |[],xs,h=>by rw[h.nil];rfl
 |d::ds,xs,h=>by
  obtain⟨y,ys,rfl,_,h2⟩:=h.cons
  rw[zQ,zQ,h2.len]
theorem RvAll.get:∀{ds:List D}{xs:List V}{i:Nat}{d:D},RvAll K H ds xs→ds[i]?=some d→∃v,xs[i]?=some v∧Rv K H d v
 |[],xs,i,d,h,e=>by simp at e
 |d0::ds,xs,0,d,h,e=>by
  obtain⟨y,ys,rfl,h1,h2⟩:=h.cons
  simp at e;subst e;exact⟨y,rfl,h1⟩
 |d0::ds,xs,i+1,d,h,e=>by
  obtain⟨y,ys,rfl,h1,h2⟩:=h.cons
  obtain⟨v,e1,e2⟩:=h2.get (i:=i) (by simpa using e)
  exact⟨v,by simpa using e1,e2⟩
theorem RvAll.app:∀{ds es:List D}{xs ys:List V},RvAll K H ds xs→RvAll K H es ys→RvAll K H (ds++es) (xs++ys)
 |[],es,xs,ys,h,k=>by rw[h.nil];exact k
 |d::ds,es,xs,ys,h,k=>by
  obtain⟨y,zs,rfl,h1,h2⟩:=h.cons
  exact aS h1 (h2.app k)
theorem RvAll.take:∀{ds:List D}{xs:List V} (n:Nat),RvAll K H ds xs→RvAll K H (ds.take n) (xs.take n)
 |[],xs,n,h=>by rw[h.nil];simp only [List.take_nil];exact bC
 |d::ds,xs,0,h=>by simp only [List.take_zero];exact bC
 |d::ds,xs,n+1,h=>by
  obtain⟨y,zs,rfl,h1,h2⟩:=h.cons
  exact aS h1 (h2.take n)
theorem RvAll.drop:∀{ds:List D}{xs:List V} (n:Nat),RvAll K H ds xs→RvAll K H (ds.drop n) (xs.drop n)
 |[],xs,n,h=>by rw[h.nil];simp only [List.drop_nil];exact bC
 |d::ds,xs,0,h=>h
 |d::ds,xs,n+1,h=>by
  obtain⟨y,zs,rfl,h1,h2⟩:=h.cons
  exact h2.drop n
theorem RvAll.set:∀{ds:List D}{xs:List V}{d:D}{v:V} (n:Nat),RvAll K H ds xs→Rv K H d v→RvAll K H (ds.set n d) (xs.set n v)
 |[],xs,d,v,n,h,r=>by rw[h.nil];exact bC
 |d0::ds,xs,d,v,0,h,r=>by
  obtain⟨y,zs,rfl,h1,h2⟩:=h.cons
  exact aS r h2
 |d0::ds,xs,d,v,n+1,h,r=>by
  obtain⟨y,zs,rfl,h1,h2⟩:=h.cons
  exact aS h1 (h2.set n r)
theorem RvAll.dropLast:∀{ds:List D}{xs:List V},RvAll K H ds xs→RvAll K H ds.dropLast xs.dropLast
 |[],xs,h=>by rw[h.nil];exact bC
 |[d],xs,h=>by
  obtain⟨y,zs,rfl,h1,h2⟩:=h.cons
  rw[h2.nil];exact bC
 |d::e::ds,xs,h=>by
  obtain⟨y,zs,rfl,h1,h2⟩:=h.cons
  obtain⟨y2,zs2,rfl,h3,h4⟩:=id h2.cons
  exact aS h1 (RvAll.dropLast h2)
theorem RvAll.bools:∀{bs:List Bool}{xs:List V},RvAll K H (bs.map D.bl) xs→xs=bs.map V.bl
 |[],xs,h=>h.nil
 |b::bs,xs,h=>by
  obtain⟨y,ys,rfl,h1,h2⟩:=h.cons
  rw[h1.bl,h2.bools];rfl
theorem RvAll.ints:∀{bs:List Int}{xs:List V},RvAll K H (bs.map D.int) xs→xs=bs.map V.int
 |[],xs,h=>h.nil
 |b::bs,xs,h=>by
  obtain⟨y,ys,rfl,h1,h2⟩:=h.cons
  rw[h1.int,h2.ints];rfl
theorem RvAll.strs:∀{bs:List Str}{xs:List V},RvAll K H (bs.map D.str) xs→xs=bs.map V.str
 |[],xs,h=>h.nil
 |b::bs,xs,h=>by
  obtain⟨y,ys,rfl,h1,h2⟩:=h.cons
  rw[h1.str,h2.strs];rfl
theorem B9:∀(bs:List Int),RvAll K H (bs.map D.int) (bs.map V.int)
 |[]=>bC
 |b::bs=>aS (aL b) (B9 bs)
theorem uE:∀(bs:List Str),RvAll K H (bs.map D.str) (bs.map V.str)
 |[]=>bC
 |b::bs=>aS (iY b) (uE bs)
def bR{κ:Type}(K:Frag)(H:Hp):List (κ×D)→List (κ×V)→Prop:=Paired fun p q=>p.1=q.1∧Rv K H p.2 q.2
theorem bR.ts(s:Kp K H H'):∀{ks:List (κ×D)}{vs:List (κ×V)},bR K H ks vs→bR K H' ks vs
 |_,_,.nil=>.nil
 |_,_,.cons r t=>.cons ⟨r.1,Rv.ts s _ r.2⟩ (bR.ts s t)
theorem bR.look(h:bR K H ks vs)(f:Str):(∀d,ks.lookup f=some d→∃v,vs.lookup f=some v∧Rv K H d v)∧(ks.lookup f=none→vs.lookup f=none):=by
 induction h with
 |nil=>exact⟨fun d e=>(by cases e),fun _=>rfl⟩
 |@cons a b l m r t ih =>
  obtain⟨k,d⟩:=a
  obtain⟨k',v⟩:=b
  obtain⟨rfl,r⟩:=r
  simp only [zW]
  cases q:f == k with
  |true=>exact⟨fun d' e=>⟨v,rfl,(by cases e;exact r)⟩,fun e=>(by cases e)⟩
  |false=>exact ih
end
inductive Ce where
 |lst (ds:List D)|cQ (kvs:List (Key×D))|ins (c:Addr) (fs:List (Str×D))|well|exc (c:Addr)|tab (q:Str)
def B_(H:Hp)(q:Str)(ps:Array Value):Prop:=TriplesOk ps.toList∧∀pos cv,codeAmong pos ps.toList=some cv→∃c o vs t,cv=.ref c∧H c=some (.kI o (.own 0))∧o.data=.fields vs∧vs[1]?=some (.str q t)
abbrev av:=Addr→Option Ce
def av.set(S:av)(a:Addr)(c:Ce):av:=fun b=>if b=a then some c else S b
theorem aa{S:av}{a:Addr}{c:Ce} : S.set a c a=some c:=by unfold av.set;rw[if_pos rfl]
theorem ag{S:av}{a b:Addr}{c:Ce}(h:b≠a):S.set a c b=S b:=by unfold av.set;rw[if_neg h]
theorem dG{S:av}{a:Addr}{c e:Ce} : (S.set a c).set a e=S.set a e:=by
 funext b;unfold av.set;split <;> rfl
theorem gW{S:av}{a b:Addr}{c:Ce}(h:S a=some c)(h':S b=none):a≠b:=by
 intro e;subst e;rw[h] at h';cases h'
def Rc(K:Frag)(H:Hp)(a:Addr):Ce→Prop
 |.lst ds=>∃xs,H a=some (.lst xs)∧RvAll K H ds xs
 |.cQ kvs=>∃vs,H a=some (.dK vs)∧bR K H kvs vs
 |.ins c fs=>∃dx vs,H a=some (.ins c dx vs)∧bR K H fs vs
 |.well=>∃x y z:Int,H a=some (.lst [.int x,.int y,.int z])
 |.exc c=>H a=some (VW a (.ref c))
 |.tab q=>∃ps,H a=some (.pE ps)∧B_ H q ps
def Rs(K:Frag)(S:av)(H:Hp):Prop:=∀a c,S a=some c→Rc K H a c
section
variable{K:Frag}{H H':Hp}{S:av}{a b:Addr}{c:Ce}
theorem Rc.has(h:Rc K H a c):∃o,H a=some o∧(∀xs,o≠.tup xs)∧∀u v,o≠.kI u v:=by
 cases c with
 |lst ds=>obtain⟨xs,e,_⟩:=h;exact⟨_,e,fun _=>nofun,fun _ _=>nofun⟩
 |cQ ds=>obtain⟨xs,e,_⟩:=h;exact⟨_,e,fun _=>nofun,fun _ _=>nofun⟩
 |ins c fs=>obtain⟨dx,vs,e,_⟩:=h;exact⟨_,e,fun _=>nofun,fun _ _=>nofun⟩
 |well=>obtain⟨x,y,z,e⟩:=h;exact⟨_,e,fun _=>nofun,fun _ _=>nofun⟩
 |exc c=>exact⟨_,h,fun _=>nofun,fun _ _=>nofun⟩
 |tab q=>obtain⟨ps,e,_⟩:=h;exact⟨_,e,fun _=>nofun,fun _ _=>nofun⟩
theorem Rc.keep(h:Rc K H a c)(e:∀o,H a=some o→H' a=some o)(s:Kp K H H'):Rc K H' a c:=by
 cases c with
 |lst ds=>obtain⟨xs,e1,r⟩:=h;exact⟨xs,e _ e1,RvAll.ts s _ r⟩
 |cQ ds=>obtain⟨xs,e1,r⟩:=h;exact⟨xs,e _ e1,r.ts s⟩
 |ins c fs=>obtain⟨dx,vs,e1,r⟩:=h;exact⟨dx,vs,e _ e1,r.ts s⟩
 |well=>obtain⟨x,y,z,e1⟩:=h;exact⟨x,y,z,e _ e1⟩
 |exc c=>exact e _ h
 |tab q=>obtain⟨ps,e1,r,r2⟩:=h;exact⟨ps,e _ e1,r,fun pos cv z=>by obtain⟨c,o,vs,t,z1,z2,z3⟩:=r2 pos cv z;exact⟨c,o,vs,t,z1,s.f _ _ _ z2,z3⟩⟩
theorem Rs.fresh(h:Rs K S H)(e:H a=none):S a=none:=by
 cases q:S a with
 |none=>rfl
 |some c=>obtain⟨o,e1,_⟩:=(h a c q).has;rw[e] at e1;cases e1
theorem Rs.new(h:Rs K S H)(e:H a=none){o:HO}(r:Rc K (upd H a o) a c):Rs K (S.set a c) (upd H a o):=fun b x hb=>by
 by_cases q:b=a
 ·subst q;rw[aa] at hb;cases hb;exact r
 ·rw[ag q] at hb
  exact (h b x hb).keep (fun o e1=>by rw[ax q];exact e1) (Kp.new e)
theorem Rs.grow(h:Rs K S H)(e:H a=none):Rs K S (upd H a o):=fun b x hb=>by
 obtain⟨u,e1,_⟩:=(h b x hb).has
 have q:b≠a:=aD e1 e
 exact (h b x hb).keep (fun o e1=>by rw[ax q];exact e1) (Kp.new e)
theorem Rs.gX(h:Rs K S H)(ha:S a=some e):Kp K H (upd H a o):=by
 obtain⟨u,e1,n1,n2⟩:=(h a e ha).has
 exact Kp.put e1 n1 n2
theorem Rs.put(h:Rs K S H){e:Ce}(ha:S a=some e){o:HO}(r:Rc K (upd H a o) a c):Rs K (S.set a c) (upd H a o):=fun b x hb=>by
 by_cases q:b=a
 ·subst q;rw[aa] at hb;cases hb;exact r
 ·rw[ag q] at hb
  exact (h b x hb).keep (fun o e1=>by rw[ax q];exact e1) (h.gX ha)
theorem Rs.lst(h:Rs K S H)(e:S a=some (.lst ds)):∃xs,H a=some (.lst xs)∧RvAll K H ds xs:=h a _ e
theorem Rs.cQ(h:Rs K S H)(e:S a=some (.cQ ds)):∃xs,H a=some (.dK xs)∧bR K H ds xs:=h a _ e
theorem Rs.ins{c:Addr}{fs:List (Str×D)}(h:Rs K S H)(e:S a=some (.ins c fs)):∃dx vs,H a=some (.ins c dx vs)∧bR K H fs vs:=h a _ e
end
abbrev KD:=D→av→Prop
abbrev KX:=Addr→av→Prop
abbrev SD:=List (Option D)
def gY(K:Frag)(H:Hp):SD→St→Prop:=Paired fun (o:Option D) (u:Option V)=>∀d,o=some d→∃v,u=some v∧Rv K H d v
section
variable{K:Frag}{H H':Hp}
theorem gY.ts(s:Kp K H H'):∀{σ:SD}{τ:St},gY K H σ τ→gY K H' σ τ
 |_,_,.nil=>.nil
 |_,_,.cons r t=>.cons (fun d e=>by obtain⟨v,e1,r1⟩:=r d e;exact⟨v,e1,Rv.ts s _ r1⟩) (gY.ts s t)
theorem gY.get:∀{σ:SD}{τ:St}{i:Nat}{d:D},gY K H σ τ→σ[i]?=some (some d)→∃v,τ[i]?=some (some v)∧Rv K H d v
 |_,_,i,d,.nil,e=>by simp at e
 |_,_,0,d,.cons r t,e=>by
  simp at e
  obtain⟨v,e1,r1⟩:=r d e
  exact⟨v,by simp [e1],r1⟩
 |_,_,i+1,d,.cons r t,e=>by
  obtain⟨v,e1,r1⟩:=gY.get (i:=i) t (by simpa using e)
  exact⟨v,by simpa using e1,r1⟩
theorem gY.set:∀{σ:SD}{τ:St} (i:Nat) {d:D}{v:V},gY K H σ τ→Rv K H d v→gY K H (σ.set i (some d)) (τ.set i (some v))
 |_,_,i,d,v,.nil,r=>.nil
 |_,_,0,d,v,.cons r t,q=>.cons (fun d' e=>by cases e;exact⟨v,rfl,q⟩) t
 |_,_,i+1,d,v,.cons r t,q=>.cons r (gY.set i t q)
theorem qu:∀(n:Nat) (τ:St),τ.length=n→gY K H (List.replicate n none) τ
 |0,[],_=>.nil
 |n+1,_::τ,h=>.cons (fun d e=>by cases e) (qu n τ (by simpa using h))
theorem qv:∀{ds:List D}{vs:List V},RvAll K H ds vs→gY K H (ds.map some) (vs.map some)
 |[],vs,h=>by rw[h.nil];exact .nil
 |d::ds,vs,h=>by
  obtain⟨y,ys,rfl,h1,h2⟩:=h.cons
  exact .cons (fun d' e=>by cases e;exact⟨y,rfl,h1⟩) (qv h2)
theorem gY.app:∀{σ aG:SD}{τ Pl:St},gY K H σ τ→gY K H aG Pl→gY K H (σ++aG) (τ++Pl)
 |_,_,_,_,.nil,h=>h
 |_,_,_,_,.cons r t,h=>.cons r (gY.app t h)
end
structure Rdy(Y:Cx)(E:St→XK)(b:Bool):Prop where
 call:∀p2 τ H s e s',Inv Y p2 τ H s→eW Y.prog Y.w Y.mg Y.stack H s (E τ) e s'→Y.xe e s'
 own:b=true→∀p2 τ H s h' a cls args,Inv Y p2 τ H s→Heap.MadeExcOf s.heap h' a cls args→E τ cls none H→Y.xe (.ref a) { s with heap:=h' }
 loop:b=true→PassesOwn (model Y.prog Y.w) Y.A Y.env Y.xe
structure Ev(X:Cx)(b:Bool) where
 pn:List (Addr×Obj)
 xe:Value→Shared→Prop
 E:St→XK
 ok:Rdy { X with pn:=pn,xe:=xe } E b
abbrev Ev.cx{X:Cx}{b:Bool}(y:Ev X b):Cx:={ X with pn:=y.pn,xe:=y.xe }
def Cn(K:Frag)(H:Hp)(R:KD)(Q:VK):Prop:=∀d S v H',R d S→Rv K H' d v→Rs K S H'→Kp K H H'→Q v H'
def D1(K:Frag)(H:Hp)(Z:KX)(e:XK):Prop:=∀C S H',Z C S→Rs K S H'→Kp K H H'→e (.ref C) none H'
theorem Cn.kp{K:Frag}{H H1:Hp}{R:KD}{Q:VK}(h:Cn K H R Q)(k:Kp K H H1):Cn K H1 R Q:=fun d S v H' r v1 s1 k1=>h d S v H' r v1 s1 (k.trans k1)
theorem D1.kp{K:Frag}{H H1:Hp}{Z:KX}{e:XK}(h:D1 K H Z e)(k:Kp K H H1):D1 K H1 Z e:=fun C S H' r s1 k1=>h C S H' r s1 (k.trans k1)
abbrev TD:=SD→av→KD→KX→Prop
def T(K:Frag)(E:St→XK)(t:TD):TE:=fun τ H Q=>∃σ S R Z,gY K H σ τ∧Rs K S H∧t σ S R Z∧Cn K H R Q∧D1 K H Z (E τ)
structure DE(K:Frag)(X:Cx)(e:Expr)(t:TD):Prop where
 of:∀{b:Bool} (y:Ev X b),PE y.cx e (T K y.E t)
abbrev mY:=SD→av→(Bool→av→Prop)→KX→Prop
def T5(K:Frag)(H:Hp)(R:Bool→av→Prop)(Q:Bool→Hp→Prop):Prop:=∀b S H',R b S→Rs K S H'→Kp K H H'→Q b H'
theorem T5.kp{K:Frag}{H H1:Hp}{R:Bool→av→Prop}{Q:Bool→Hp→Prop}(h:T5 K H R Q)(k:Kp K H H1):T5 K H1 R Q:=fun d S H' r s1 k1=>h d S H' r s1 (k.trans k1)
def Tt(K:Frag)(E:St→XK)(t:mY):TT:=fun τ H Q=>∃σ S R Z,gY K H σ τ∧Rs K S H∧t σ S R Z∧T5 K H R Q∧D1 K H Z (E τ)
structure DT(K:Frag)(X:Cx)(e:Expr)(t:mY):Prop where
 of:∀{b:Bool} (y:Ev X b),PT y.cx e (Tt K y.E t)
abbrev iK:=SD→av→(List D→av→Prop)→KX→Prop
def CnA(K:Frag)(H:Hp)(R:List D→av→Prop)(Q:List V→Hp→Prop):Prop:=∀ds S vs H',R ds S→RvAll K H' ds vs→Rs K S H'→Kp K H H'→Q vs H'
def Ta(K:Frag)(E:St→XK)(t:iK):TA:=fun τ H Q=>∃σ S R Z,gY K H σ τ∧Rs K S H∧t σ S R Z∧CnA K H R Q∧D1 K H Z (E τ)
structure DA(K:Frag)(X:Cx)(es:List Expr)(t:iK):Prop where
 of:∀{b:Bool} (y:Ev X b),PA y.cx es (Ta K y.E t)
theorem PE.mono{t t':TE}(h:PE X e t)(i:∀τ H Q,t' τ H Q→t τ H Q):PE X e t':=fun pins s τ H Q I q=>h pins s τ H Q I (i τ H Q q)
theorem PT.mono{t t':TT}(h:PT X e t)(i:∀τ H Q,t' τ H Q→t τ H Q):PT X e t':=fun pins s τ H Q I q=>h pins s τ H Q I (i τ H Q q)
theorem PA.mono{t t':TA}(h:PA X e t)(i:∀τ H Q,t' τ H Q→t τ H Q):PA X e t':=fun pos pins s τ H Q I q=>h pos pins s τ H Q I (i τ H Q q)
section
variable{K:Frag}{X:Cx}
inductive Q1 (i:Nat) (σ:SD) (S:av) (R:KD):Prop where
 |mk (d:D) (h:σ[i]?=some (some d)) (r:R d S):Q1 i σ S R
def Q2(i:Nat):TD:=fun σ S R _=>Q1 i σ S R
inductive Pm (x:D) (S:av) (R:Bool→av→Prop):Prop where
 |mk (b:Bool) (h:x=.bl b) (r:R b S):Pm x S R
def dC(d:D):TD:=fun _ S R _=>R d S
theorem dv(i:Nat)(hN:X.N[i]?=some x:=by rfl)(hv:O8 X.env.scope x:=by first|exact Or.inl rfl|exact Or.inr (Or.inl rfl)|exact Or.inr (Or.inr rfl))(hd:(x == ("__debug__" : Str))=false:=by decide)
  (rO:(x == ("__classdict__" : Str))=false:=by decide):DE K X (.Name x pos) (Q2 i) :=
 ⟨fun y=>(Mr (X:=y.cx) hN hv hd rO).mono <| by rintro τ H Q ⟨σ,S,R,Z,aB,hS,⟨d,e,r⟩,hR,_⟩;exact by obtain⟨v,e1,rv⟩:=aB.get e;exact⟨v,e1,hR d S v H r rv hS (Kp.refl _)⟩⟩
theorem DE.const(h:∀Y:Cx,Y.env=X.env→Y.mg=X.mg→PE Y e (tC v))(r:∀H,Rv K H d v):DE K X e (dC d) :=
 ⟨fun y=>(h y.cx rfl rfl).mono <| by rintro τ H Q ⟨σ,S,R,Z,aB,hS,q,hR,_⟩;exact hR d S v H q (r H) hS (Kp.refl _)⟩
theorem di:DE K X (.Constant (.int i) j pos) (dC (.int i)):=.const (fun _ _ _=>Ms) fun _=>aL i
theorem ds:DE K X (.Constant (.str i) j pos) (dC (.str i)):=.const (fun _ _ _=>Mu) fun _=>iY i
theorem db:DE K X (.Constant (.bool i) j pos) (dC (.bl i)):=.const (fun _ _ _=>K9) fun _=>cg i
theorem dn:DE K X (.Constant .none j pos) (dC .aw):=.const (fun _ _ _=>Mt) fun _=>iX
theorem dg(hm:X.mg x=some u)(r:RelV v u)(rd:∀H,Rv K H d v)(hg:Gl X x:=by rfl)(hd:(x == ("__debug__" : Str))=false:=by decide):DE K X (.Name x pos) (dC d) :=
 .const (fun Y e1 e2=>BP (X:=Y) (u:=u) (show Y.env.kindOf x=_ by rw[e1];exact hg) (by rw[e2];exact hm) r hd) rd
theorem rP(hm:X.mg x=none)(hv:bootBuiltins x=some (.type n))(hg:Gl X x:=by rfl)(hn:x ≠ "__name__" := by decide)(hd:(x == ("__debug__" : Str))=false:=by decide):DE K X (.Name x pos) (dC (.ty n)) :=
 .const (fun Y e1 e2=>Iy (X:=Y) (v:=.ty n) (show Y.env.kindOf x=_ by rw[e1];exact hg) (by rw[e2];exact hm) hv rfl hn hd) fun _=>Q0 n
def Jy:iK:=fun _ S R _=>R [] S
def Lu(t:TD)(u:iK):iK:=fun σ S R Z=>t σ S (fun d S1=>u σ S1 (fun ds S2=>R (d::ds) S2) Z) Z
theorem an:DA K X [] Jy:=⟨fun y=>(y1 (X:=y.cx)).mono <| by rintro τ H Q ⟨σ,S,R,Z,aB,hS,q,hR,_⟩;exact hR [] S [] H q bC hS (Kp.refl _)⟩
theorem ac{t:TD}(h:DE K X e t)(hr:DA K X es u)(hp:isPlain e=true:=by rfl):DA K X (e::es) (Lu t u) :=
 ⟨fun y=>(VS (h.of y) (hr.of y) hp).mono <| by rintro τ H Q ⟨σ,S,R,Z,aB,hS,q,hR,hZ⟩;exact
  ⟨σ,S,_,Z,aB,hS,q,fun d S1 x H1 r1 v1 s1 k1=>⟨σ,S1,_,Z,aB.ts k1,s1,r1,fun ds S2 xs H2 r2 v2 s2 k2=>hR (d::ds) S2 (x::xs) H2 r2 (aS (Rv.ts k2 _ v1) v2) s2 (k1.trans k2),hZ.kp k1⟩,hZ⟩⟩
abbrev v5:=D→D→av→KD→Prop
def Lr(K:Frag)(r:v5):R2:=fun x y H Q=>∃d e S R,Rv K H d x∧Rv K H e y∧Rs K S H∧r d e S R∧Cn K H R Q
def qw(K:Frag)(f:Value→Value→Sem Value)(r:v5):Prop:=∀X:Cx,X.K=K→X.A.units+64<cLine→gR X f (Lr K r)
def NI(r:v5)(ta tb:TD):TD:=fun σ S R Z=>ta σ S (fun x S1=>tb σ S1 (fun y S2=>r x y S2 R) Z) Z
theorem T.op(h:T K E (NI r ta tb) τ H Q):O9 (Lr K r) (T K E ta) (T K E tb) τ H Q:=by
 obtain⟨σ,S,R,Z,aB,hS,q,hR,hZ⟩:=h
 exact⟨σ,S,_,Z,aB,hS,q,fun d S1 x H1 r1 v1 s1 k1=>⟨σ,S1,_,Z,aB.ts k1,s1,r1,fun e S2 y H2 r2 v2 s2 k2=>⟨d,e,S2,R,Rv.ts k2 _ v1,v2,s2,r2,hR.kp (k1.trans k2)⟩,hZ.kp k1⟩,hZ⟩
theorem bo(ho:qw K (binaryOp op) r)(hu:X.A.units+64<cLine)(ha:DE K X a ta)(hb:DE K X b tb)(hK:X.K=K:=by rfl):DE K X (.BinOp a op b pos) (NI r ta tb) :=
 ⟨fun y=>(Qe (ho y.cx hK hu) (ha.of y) (hb.of y)).mono fun _ _ _ h=>h.op⟩
theorem cm(ho:qw K (compareOp op) r)(hu:X.A.units+64<cLine)(ha:DE K X a ta)(hb:DE K X b tb)(hm:behindInMarks op b=false:=by with_unfolding_all rfl)(hK:X.K=K:=by rfl):DE K X (.Compare a [op] [b] pos) (NI r ta tb) :=
 ⟨fun y=>(BV (ho y.cx hK hu) (ha.of y) (hb.of y) hm).mono fun _ _ _ h=>h.op⟩
def dB(t:TD):mY:=fun σ S R Z=>t σ S (fun x S1=>Pm x S1 R) Z
theorem Tt.b{t:TD}(h:Tt K E (dB t) τ H Q):T K E t τ H fun x H'=>∃k,x=.bl k∧Q k H':=by
 obtain⟨σ,S,R,Z,aB,hS,q,hR,hZ⟩:=h
 exact⟨σ,S,_,Z,aB,hS,q,by rintro d S1 x H1 ⟨b,e,r1⟩ v1 s1 k1;exact by subst e;exact⟨b,v1.bl,hR b S1 H1 r1 s1 k1⟩,hZ⟩
theorem Tt.bop(h:Tt K E (dB (NI r ta tb)) τ H Q):Ft (O9 (Lr K r) (T K E ta) (T K E tb)) τ H Q:=h.b.op
theorem bh(ho:qw K (compareOp op) r)(hu:X.A.units+64<cLine)(ha:DE K X a ta)(hb:DE K X b tb)(hm:behindInMarks op b=false:=by with_unfolding_all rfl)(hK:X.K=K:=by rfl):DT K X (.Compare a [op] [b] pos) (dB (NI r ta tb)) :=
 ⟨fun y=>(IK (ho y.cx hK hu) (ha.of y) (hb.of y) hm).mono fun _ _ _ h=>h.bop⟩
theorem tv{t:TD}(h:DE K X e t)(he:∀whole,isTrue e X.env whole=(do let v ← whole;standAt e.pos;holding [v] (truthy v)):=by intro _;rfl):DT K X e (dB t) :=
 ⟨fun y=>(Mv (X:=y.cx) (h.of y) he).mono fun _ _ _ h=>h.b⟩
def AA(r r':v5)(ta tb tc:TD):TD:=fun σ S R Z=>ta σ S (fun x S1=>tb σ S1 (fun y S2=>r x y S2 fun z S3=>Pm z S3 fun k S3=>if k=true then tc σ S3 (fun w S4=>r' y w S4 R) Z else R (.bl false) S3) Z) Z
theorem T.chain(h:T K E (AA r r' ta tb tc) τ H Q):yU (Lr K r) (Lr K r') (T K E ta) (T K E tb) (T K E tc) τ H Q:=by
 obtain⟨σ,S,R,Z,aB,hS,q,hR,hZ⟩:=h
 refine⟨σ,S,_,Z,aB,hS,q,fun d S1 x H1 r1 v1 s1 k1=>⟨σ,S1,_,Z,aB.ts k1,s1,r1,fun e S2 y H2 r2 v2 s2 k2=>⟨d,e,S2,_,Rv.ts k2 _ v1,v2,s2,r2,fun z S3 v H3 r3 v3 s3 k3=>?_⟩,hZ.kp k1⟩,hZ⟩
 obtain⟨k,rfl,r3⟩:=r3
 refine⟨k,v3.bl,?_⟩
 cases k with
 |true =>
  rw[if_pos rfl] at r3 ⊢
  exact⟨σ,S3,_,Z,((aB.ts k1).ts k2).ts k3,s3,r3,fun w S4 wv H4 r4 v4 s4 k4=>⟨e,w,S4,R,Rv.ts (k3.trans k4) _ v2,v4,s4,r4,hR.kp (((k1.trans k2).trans k3).trans k4)⟩,hZ.kp ((k1.trans k2).trans k3)⟩
 |false =>
  rw[if_neg zd] at r3 ⊢
  exact hR _ S3 _ H3 r3 (cg false) s3 ((k1.trans k2).trans k3)
theorem cc(ho:qw K (compareOp op) r)(x_:qw K (compareOp Ds) r')(hu:X.A.units+64<cLine)(ha:DE K X a ta)(hb:DE K X b tb)(hc:DE K X c tc)
  (hm:lastMarks [op,Ds] [b,c]=false:=by with_unfolding_all rfl) (hK:X.K=K:=by rfl):DE K X (.Compare a [op,Ds] [b,c] pos) (AA r r' ta tb tc) :=
 ⟨fun y=>(Fu (ho y.cx hK hu) (x_ y.cx hK hu) (ha.of y) (hb.of y) (hc.of y) hm).mono fun _ _ _ h=>h.chain⟩
theorem T6(ho:qw K (compareOp op) r)(x_:qw K (compareOp Ds) r')(hu:X.A.units+64<cLine)(ha:DE K X a ta)(hb:DE K X b tb)(hc:DE K X c tc)
  (hm:lastMarks [op,Ds] [b,c]=false:=by with_unfolding_all rfl) (hK:X.K=K:=by rfl):DT K X (.Compare a [op,Ds] [b,c] pos) (dB (AA r r' ta tb tc)) :=
 ⟨fun y=>(Fv (ho y.cx hK hu) (x_ y.cx hK hu) (ha.of y) (hb.of y) (hc.of y) hm).mono fun _ _ _ h=>h.b.chain⟩
def Q3(ta tb:TD):TD:=fun σ S R Z=>ta σ S (fun x S1=>Pm x S1 fun c S1=>if c=true then tb σ S1 R Z else R (.bl false) S1) Z
def V8(ta tb:TD):TD:=fun σ S R Z=>ta σ S (fun x S1=>Pm x S1 fun c S1=>if c=true then R (.bl true) S1 else tb σ S1 R Z) Z
def Q4(ta:TD):TD:=fun σ S R Z=>ta σ S (fun x S1=>Pm x S1 fun c S1=>R (.bl (!c)) S1) Z
theorem Ij{t:TD}(h:DE K X a t):DE K X (.BoolOp op [a] pos) t:=⟨fun y=>Mx (h.of y)⟩
theorem sx{a b:Expr}{rest:List Expr}{ta tb:TD}{pos:Pos}(ha:DE K X a ta)(hb:DE K X (.BoolOp .And (b::rest) pos) tb):DE K X (.BoolOp .And (a::b::rest) pos) (Q3 ta tb) :=
 ⟨fun y=>(Mz (ha.of y) (hb.of y)).mono <| by rintro τ H Q ⟨σ,S,R,Z,aB,hS,q,hR,hZ⟩;exact
  ⟨σ,S,_,Z,aB,hS,q,by
   rintro d S1 x H1 ⟨c,e,r1⟩ v1 s1 k1
   subst e
   refine⟨c,v1.bl,?_⟩
   cases c with
   |true=>rw[if_pos rfl] at r1 ⊢;exact⟨σ,S1,R,Z,aB.ts k1,s1,r1,hR.kp k1,hZ.kp k1⟩
   |false=>rw[if_neg zd] at r1 ⊢;exact hR _ S1 _ H1 r1 (cg false) s1 k1,hZ⟩⟩
theorem eor{a b:Expr}{rest:List Expr}{ta tb:TD}{pos:Pos}(ha:DE K X a ta)(hb:DE K X (.BoolOp .Or (b::rest) pos) tb):DE K X (.BoolOp .Or (a::b::rest) pos) (V8 ta tb) :=
 ⟨fun y=>(P5 (ha.of y) (hb.of y)).mono <| by rintro τ H Q ⟨σ,S,R,Z,aB,hS,q,hR,hZ⟩;exact
  ⟨σ,S,_,Z,aB,hS,q,by
   rintro d S1 x H1 ⟨c,e,r1⟩ v1 s1 k1
   subst e
   refine⟨c,v1.bl,?_⟩
   cases c with
   |false=>rw[if_neg zd] at r1 ⊢;exact⟨σ,S1,R,Z,aB.ts k1,s1,r1,hR.kp k1,hZ.kp k1⟩
   |true=>rw[if_pos rfl] at r1 ⊢;exact hR _ S1 _ H1 r1 (cg true) s1 k1,hZ⟩⟩
theorem Q5(ha:DE K X a ta):DE K X (.UnaryOp .Not a pos) (Q4 ta) :=
 ⟨fun y=>(MA (ha.of y)).mono <| by rintro τ H Q ⟨σ,S,R,Z,aB,hS,q,hR,hZ⟩;exact
  ⟨σ,S,_,Z,aB,hS,q,by rintro d S1 x H1 ⟨c,e,r1⟩ v1 s1 k1;exact by subst e;exact⟨c,v1.bl,hR _ S1 _ H1 r1 (cg _) s1 k1⟩,hZ⟩⟩
def V9(t:mY):mY:=fun σ S R Z=>t σ S (fun c S1=>R (!c) S1) Z
def V_(t u:mY):mY:=fun σ S R Z=>t σ S (fun c S1=>if c=true then u σ S1 R Z else R false S1) Z
def dOr(t u:mY):mY:=fun σ S R Z=>t σ S (fun c S1=>if c=true then R true S1 else u σ S1 R Z) Z
theorem cq{t:mY}(ha:DT K X a t):DT K X (.UnaryOp .Not a pos) (V9 t) :=
 ⟨fun y=>(Mw (ha.of y)).mono <| by rintro τ H Q ⟨σ,S,R,Z,aB,hS,q,hR,hZ⟩;exact⟨σ,S,_,Z,aB,hS,q,fun c S1 H1 r1 s1 k1=>hR _ S1 H1 r1 s1 k1,hZ⟩⟩
structure DW(K:Frag)(X:Cx)(e:Expr)(t:mY):Prop where
 of:∀{b:Bool} (y:Ev X b),PW y.cx e (Tt K y.E t)
theorem PW.mono{t t':TT}(h:PW X e t)(i:∀τ H Q,t' τ H Q→t τ H Q):PW X e t':=fun wh pins s τ H Q I q=>h wh pins s τ H Q I (i τ H Q q)
theorem twd{t:mY}(h:DW K X e t):DT K X e t:=⟨fun y=>(h.of y).pt⟩
theorem tw1{t:mY}(h:DT K X a t):DW K X (.BoolOp op [a] pos) t:=⟨fun y=>by
 cases op with
 |And=>exact pw_and1 (h.of y)
 |Or=>exact pw_or1 (h.of y)⟩
theorem twand{a b:Expr}{rest:List Expr}{t u:mY}{pos:Pos}(ha:DT K X a t)(hb:DW K X (.BoolOp .And (b::rest) pos) u):DW K X (.BoolOp .And (a::b::rest) pos) (V_ t u) :=
 ⟨fun y=>(pw_and (ha.of y) (hb.of y)).mono <| by rintro τ H Q ⟨σ,S,R,Z,aB,hS,q,hR,hZ⟩;exact
  ⟨σ,S,_,Z,aB,hS,q,fun c S1 H1 r1 s1 k1=>by
   cases c with
   |true=>rw[if_pos rfl] at r1 ⊢;exact⟨σ,S1,R,Z,aB.ts k1,s1,r1,hR.kp k1,hZ.kp k1⟩
   |false=>rw[if_neg zd] at r1 ⊢;exact hR _ S1 H1 r1 s1 k1,hZ⟩⟩
theorem twor{a b:Expr}{rest:List Expr}{t u:mY}{pos:Pos}(ha:DT K X a t)(hb:DW K X (.BoolOp .Or (b::rest) pos) u):DW K X (.BoolOp .Or (a::b::rest) pos) (dOr t u) :=
 ⟨fun y=>(pw_or (ha.of y) (hb.of y)).mono <| by rintro τ H Q ⟨σ,S,R,Z,aB,hS,q,hR,hZ⟩;exact
  ⟨σ,S,_,Z,aB,hS,q,fun c S1 H1 r1 s1 k1=>by
   cases c with
   |false=>rw[if_neg zd] at r1 ⊢;exact⟨σ,S1,R,Z,aB.ts k1,s1,r1,hR.kp k1,hZ.kp k1⟩
   |true=>rw[if_pos rfl] at r1 ⊢;exact hR _ S1 H1 r1 s1 k1,hZ⟩⟩
def Wa(t:mY)(ta tb:TD):TD:=fun σ S R Z=>t σ S (fun c S1=>if c=true then ta σ S1 R Z else tb σ S1 R Z) Z
theorem Lv{t:mY}(hc:DT K X c t)(ha:DE K X a ta)(hb:DE K X b tb):DE K X (.IfExp c a b pos) (Wa t ta tb) :=
 ⟨fun y=>(Fh (hc.of y) (ha.of y) (hb.of y)).mono <| by rintro τ H Q ⟨σ,S,R,Z,aB,hS,q,hR,hZ⟩;exact
  ⟨σ,S,_,Z,aB,hS,q,fun c S1 H1 r1 s1 k1=>by
   cases c with
   |true=>rw[if_pos rfl] at r1 ⊢;exact⟨σ,S1,R,Z,aB.ts k1,s1,r1,hR.kp k1,hZ.kp k1⟩
   |false=>rw[if_neg zd] at r1 ⊢;exact⟨σ,S1,R,Z,aB.ts k1,s1,r1,hR.kp k1,hZ.kp k1⟩,hZ⟩⟩
def Wb(t:iK):TD:=fun σ S R Z=>t σ S (fun ds S1=>ds.length≤sizeLine∧∀p,S1 p=none→R (.ref p) (S1.set p (.lst ds))) Z
def Wc(t:iK):TD:=fun σ S R Z=>t σ S (fun ds S1=>ds.length≤sizeLine∧R (.tup ds) S1) Z
theorem dS{t:iK}(h:DA K X es t):DE K X (.List es pos) (Wb t) :=
 ⟨fun y=>(MY (h.of y)).mono <| by rintro τ H Q ⟨σ,S,R,Z,aB,hS,q,hR,hZ⟩;exact
  ⟨σ,S,_,Z,aB,hS,q,by rintro ds S1 xs H1 ⟨hl,r1⟩ v1 s1 k1;exact⟨by rw[v1.len];exact hl,fun p hp=>hR _ _ _ _ (r1 p (s1.fresh hp)) (gU p) (s1.new hp ⟨xs,aF,RvAll.ts (.new hp) _ v1⟩) (k1.trans (.new hp))⟩,hZ⟩⟩
theorem bD{t:iK}(h:DA K X es t):DE K X (.Tuple es x1 pos) (Wc t) :=
 ⟨fun y=>(MX (h.of y)).mono <| by rintro τ H Q ⟨σ,S,R,Z,aB,hS,q,hR,hZ⟩;exact
  ⟨σ,S,_,Z,aB,hS,q,by rintro ds S1 xs H1 ⟨hl,r1⟩ v1 s1 k1;exact⟨by rw[v1.len];exact hl,fun p hp=>hR _ _ _ _ r1 (nq aF (RvAll.ts (.new hp) _ v1)) (s1.grow hp) (k1.trans (.new hp))⟩,hZ⟩⟩
def Wd:TD:=fun _ S R _=>∀p,S p=none→R (.ref p) (S.set p (.cQ []))
theorem Q6:DE K X (.Dict [] [] pos) Wd :=
 ⟨fun y=>(FI (X:=y.cx)).mono <| by rintro τ H Q ⟨σ,S,R,Z,aB,hS,q,hR,hZ⟩ p hp;exact hR _ _ _ _ (q p (hS.fresh hp)) (gU p) (hS.new hp ⟨[],aF,.nil⟩) (.new hp)⟩
def Lc(K:Frag)(r:List D→av→KD→Prop):List V→Hp→VK→Prop:=fun xs H Q=>∃ds S R,RvAll K H ds xs∧Rs K S H∧r ds S R∧Cn K H R Q
def gv(K:Frag)(f:Value)(r:List D→av→KD→Prop):Prop:=∀X:Cx,X.K=K→X.calm=true→eI X f (Lc K r)
def T7(r:List D→av→KD→Prop)(t:iK):TD:=fun σ S R Z=>t σ S (fun ds S1=>r ds S1 R) Z
theorem T.cb{t:iK}(h:T K E (T7 r t) τ H Q):Vp (Lc K r) (Ta K E t) τ H Q:=by
 obtain⟨σ,S,R,Z,aB,hS,q,hR,hZ⟩:=h
 exact⟨σ,S,_,Z,aB,hS,q,fun ds S1 xs H1 r1 v1 s1 k1=>⟨ds,S1,R,v1,s1,r1,hR.kp k1⟩,hZ⟩
theorem cb{x:Str}{id:String}{r:List D→av→KD→Prop}{e:Expr}{es:List Expr}{t:iK}{p pos:Pos}(hc:gv K (.builtin id) r)(hm:X.mg x=none)(hv:bootBuiltins x=some (.builtin id))(ha:DA K X (e::es) t)(hg:Gl X x:=by rfl)
  (hn:x ≠ "__name__" := by decide) (oZ:(x == ("__debug__" : Str))=false:=by decide) (he:starEach (e::es) X.env=(false,eval e X.env)::starEach es X.env:=by rfl) (dD:(backTo pos (starEach es X.env)).any (·.1)=false:=by rfl) (hK:X.K=K:=by rfl) (hC:X.calm=true:=by rfl) :
  DE K X (.Call (.Name x p) (e::es) [] pos) (T7 r t) :=
 ⟨fun y=>(wm (X:=y.cx) (hc _ hK hC) hg hm hv (ha.of y) hn oZ he dD).mono fun _ _ _ h=>h.cb⟩
theorem ct{x:Str}{id:String}{r:List D→av→KD→Prop}{e:Expr}{es:List Expr}{t:iK}{p pos:Pos}(hc:gv K (.type id) r)(hm:X.mg x=none)(hv:bootBuiltins x=some (.type id))(ha:DA K X (e::es) t)(hg:Gl X x:=by rfl)
  (hn:x ≠ "__name__" := by decide) (oZ:(x == ("__debug__" : Str))=false:=by decide) (he:starEach (e::es) X.env=(false,eval e X.env)::starEach es X.env:=by rfl) (dD:(backTo pos (starEach es X.env)).any (·.1)=false:=by rfl) (hK:X.K=K:=by rfl) (hC:X.calm=true:=by rfl) :
  DE K X (.Call (.Name x p) (e::es) [] pos) (T7 r t) :=
 ⟨fun y=>(tq (X:=y.cx) (hc _ hK hC) hg hm hv (ha.of y) hn oZ he dD).mono fun _ _ _ h=>h.cb⟩
end
section
variable{K:Frag}
theorem Cn.now(h:Cn K H R Q)(hS:Rs K S H)(r:R d S)(rv:Rv K H d v):Q v H:=h d S v H r rv hS (.refl _)
theorem Cn.new{H:Hp}{R:KD}{Q:VK}{S:av}{p:Addr}{ds:List D}{xs:List V}(h:Cn K H R Q)(hS:Rs K S H)(hp:H p=none)(r:S p=none→R (.ref p) (S.set p (.lst ds)))(rv:RvAll K H ds xs):Q (.ref p) (upd H p (.lst xs)) :=
 h _ _ _ _ (r (hS.fresh hp)) (gU p) (hS.new hp ⟨xs,aF,RvAll.ts (.new hp) _ rv⟩) (.new hp)
theorem Cn.We{H:Hp}{R:KD}{Q:VK}{S:av}{p:Addr}{ds:List D}{xs:List V}(h:Cn K H R Q)(hS:Rs K S H)(hp:H p=none)(r:R (.tup ds) S)(rv:RvAll K H ds xs):Q (.ref p) (upd H p (.tup xs)) :=
 h _ _ _ _ r (nq aF (RvAll.ts (.new hp) _ rv)) (hS.grow hp) (.new hp)
theorem Cn.put{H:Hp}{R:KD}{Q:VK}{S:av}{p:Addr}{ds es:List D}{xs:List V}{d:D}{v:V}(h:Cn K H R Q)(hS:Rs K S H)(hp:S p=some (.lst es))(r:R d (S.set p (.lst ds)))(rd:Rv K H d v)(rv:RvAll K H ds xs):Q v (upd H p (.lst xs)) :=
 h _ _ _ _ r (Rv.ts (hS.gX hp) _ rd) (hS.put hp ⟨xs,aF,RvAll.ts (hS.gX hp) _ rv⟩) (hS.gX hp)
def xZ(S:av):D→List D→Prop
 |.ref a,ds=>S a=some (.lst ds)
 |.iP es,ds=>es=ds
 |_,_=>False
theorem xZ.at{H:Hp}{S:av}{d:D}{ds:List D}{v:V}(h:xZ S d ds)(hS:Rs K S H)(r:Rv K H d v):∃a xs,v=.ref a∧jE K H a xs∧RvAll K H ds xs:=by
 cases d with
 |ref a =>
  obtain⟨xs,e,q⟩:=hS.lst h
  exact⟨a,xs,r.ref,.of e,q⟩
 |iP es =>
  have h:es=ds:=h
  subst h
  obtain⟨a,xs,e,q,t⟩:=r.iP
  exact⟨a,xs,e,q.sq,t⟩
 |_=>exact h.elim
def Wf:v5:=fun x y S R=>match x,y with
 |.int i,.int j=>R (.int (i - j)) S
 |_,_=>False
theorem lV:qw K (binaryOp .Sub) Wf:=by
 rintro X hK hu pins s σ H x y v u Q I rx ry ⟨d,e,S,R,r1,r2,hS,h,hR⟩
 cases d <;> cases e <;> first|exact False.elim h|exact MO pins s σ H x y v u Q I rx ry ⟨_,_,r1.int,r2.int,hR.now hS h (aL _)⟩
def Wh:v5:=fun x y S R=>match x,y with
 |.int i,.int j=>II i j∧R (.int (i * j)) S
 |.str z,.int n=>MulOk z n∧R (.str (PySem.Txt.mul z n)) S
 |_,_=>False
theorem iZ:qw K (binaryOp .Mult) Wh:=by
 rintro X hK hu pins s σ H x y v u Q I rx ry ⟨d,e,S,R,r1,r2,hS,h,hR⟩
 cases d <;> cases e <;> first
  |exact False.elim h
  |exact MP pins s σ H x y v u Q I rx ry ⟨_,_,r1.int,r2.int,h.1,hR.now hS h.2 (aL _)⟩
  |exact As pins s σ H x y v u Q I rx ry ⟨_,_,r1.str,r2.int,h.1,hR.now hS h.2 (iY _)⟩
def Wi:v5:=fun x y S R=>match x,y with
 |.int i,.int j=>0<j∧R (.int (i % j)) S
 |_,_=>False
theorem ke:qw K (binaryOp .Mod) Wi:=by
 rintro X hK hu pins s σ H x y v u Q I rx ry ⟨d,e,S,R,r1,r2,hS,h,hR⟩
 cases d <;> cases e <;> first|exact False.elim h|exact MQ pins s σ H x y v u Q I rx ry ⟨_,_,r1.int,r2.int,h.1,hR.now hS h.2 (aL _)⟩
def Q7:v5:=fun x y S R=>match x,y with
 |.int i,.int j=>Lk i j∧R (.int (i / j)) S
 |_,_=>False
theorem uF:qw K (binaryOp .FloorDiv) Q7:=by
 rintro X hK hu pins s σ H x y v u Q I rx ry ⟨d,e,S,R,r1,r2,hS,h,hR⟩
 cases d <;> cases e <;> first|exact False.elim h|exact FN pins s σ H x y v u Q I rx ry ⟨_,_,r1.int,r2.int,h.1,hR.now hS h.2 (aL _)⟩
def Wj:v5:=fun x y S R=>match x,y with
 |.int i,.int j=>Qh i j∧R (.int (i ^ j.toNat)) S
 |_,_=>False
theorem Ca:qw K (binaryOp .Pow) Wj:=by
 rintro X hK hu pins s σ H x y v u Q I rx ry ⟨d,e,S,R,r1,r2,hS,h,hR⟩
 cases d <;> cases e <;> first|exact False.elim h|exact MR pins s σ H x y v u Q I rx ry ⟨_,_,r1.int,r2.int,h.1,hR.now hS h.2 (aL _)⟩
def Ge(f:Int→Int→Bool)(g:Str→Str→Bool):v5:=fun x y S R=>match x,y with
 |.int i,.int j=>R (.bl (f i j)) S
 |.str i,.str j=>R (.bl (g i j)) S
 |_,_=>False
theorem Cb(h1:∀X:Cx,gR X (compareOp op) (IG fun i j=>.bl (f i j)))
  (h2:∀X:Cx,gR X (compareOp op) (fun x y H Q=>∃i j,x=.str i∧y=.str j∧Q (.bl (g i j)) H)):qw K (compareOp op) (Ge f g):=by
 rintro X hK hu pins s σ H x y v u Q I rx ry ⟨d,e,S,R,r1,r2,hS,h,hR⟩
 cases d <;> cases e <;> first
  |exact False.elim h
  |exact h1 X pins s σ H x y v u Q I rx ry ⟨_,_,r1.int,r2.int,hR.now hS h (cg _)⟩
  |exact h2 X pins s σ H x y v u Q I rx ry ⟨_,_,r1.str,r2.str,hR.now hS h (cg _)⟩
theorem sy:qw K (compareOp .Lt) (Ge (fun i j=>decide (i<j)) fun i j=>tG i j):=Cb (fun _=>Qj) fun _=>Dn
theorem i0:qw K (compareOp .LtE) (Ge (fun i j=>decide (i≤j)) fun i j=>E3 i j):=Cb (fun _=>Ql) fun _=>DM
theorem nr:qw K (compareOp .Gt) (Ge (fun i j=>decide (j<i)) fun i j=>tG j i):=Cb (fun _=>Qm) fun _=>DP
theorem Wk:qw K (compareOp .GtE) (Ge (fun i j=>decide (j≤i)) fun i j=>E3 j i):=Cb (fun _=>Qn) fun _=>DN
def ai:D→Bool
 |.aw=>true
 |_=>false
theorem wI(r:Rv K H d v):decide (v=.aw)=ai d:=by
 cases d with
 |aw=>rw[r.aw];rfl
 |bl b=>rw[r.bl];rfl
 |int b=>rw[r.int];rfl
 |str b=>rw[r.str];rfl
 |ref b=>rw[r.ref];rfl
 |ty b=>rw[r.ty];rfl
 |tup b=>obtain⟨a,xs,rfl,_⟩:=r.tup;rfl
 |iP b=>obtain⟨a,xs,rfl,_⟩:=r.iP;rfl
 |kt b=>obtain⟨a,xs,rfl,_⟩:=r.kt;rfl
def Wl:v5:=fun x y S R=>match y with
 |.aw=>R (.bl (ai x)) S
 |_=>False
def Q8:v5:=fun x y S R=>match y with
 |.aw=>R (.bl (!ai x)) S
 |_=>False
theorem i4:qw K (compareOp .Is) Wl:=by
 rintro X hK hu pins s σ H x y v u Q I rx ry ⟨d,e,S,R,r1,r2,hS,h,hR⟩
 cases e <;> first|exact False.elim h|exact MT pins s σ H x y v u Q I rx ry ⟨r2.aw,by rw[wI r1];exact hR.now hS h (cg _)⟩
theorem gZ:qw K (compareOp .IsNot) Q8:=by
 rintro X hK hu pins s σ H x y v u Q I rx ry ⟨d,e,S,R,r1,r2,hS,h,hR⟩
 cases e <;> first|exact False.elim h|exact IJ pins s σ H x y v u Q I rx ry ⟨r2.aw,by rw[wI r1];exact hR.now hS h (cg _)⟩
mutual
def Dp(S:av):D→PyData→Prop
 |.aw,p=>p=.none
 |.bl b,p=>p=.bool b
 |.int i,p=>p=.int i
 |.str z,p=>p=.str z
 |.tup ds,p=>∃ps,p=.tuple ps∧DpAll S ds ps
 |.iP ds,p=>∃ps,p=.list ps∧DpAll S ds ps
 |.kt _,_=>False
 |.ref _,_=>False
 |.ty _,_=>False
def DpAll(S:av):List D→List PyData→Prop
 |[],ps=>ps=[]
 |d::ds,ps=>∃q qs,ps=q::qs∧Dp S d q∧DpAll S ds qs
end
mutual
theorem Dp.dt:∀(d:D) {p:PyData}{v:V},Dp S d p→Rv K H d v→Dt K H p v
 |.aw,p,v,h,r=>by simp only [Dp] at h;subst h;simp only [Dt];exact r.aw
 |.bl b,p,v,h,r=>by simp only [Dp] at h;subst h;simp only [Dt];exact r.bl
 |.int b,p,v,h,r=>by simp only [Dp] at h;subst h;simp only [Dt];exact r.int
 |.str b,p,v,h,r=>by simp only [Dp] at h;subst h;simp only [Dt];exact r.str
 |.tup ds,p,v,h,r=>by
  simp only [Dp] at h
  obtain⟨ps,rfl,h⟩:=h
  obtain⟨a,xs,rfl,q,t⟩:=r.tup
  simp only [Dt]
  exact⟨a,xs,rfl,.of q,DpAll.dt ds h t⟩
 |.iP ds,p,v,h,r=>by
  simp only [Dp] at h
  obtain⟨ps,rfl,h⟩:=h
  obtain⟨a,xs,rfl,q,t⟩:=r.iP
  simp only [Dt]
  exact⟨a,xs,rfl,q.sq,DpAll.dt ds h t⟩
 |.kt a,p,v,h,r=>by simp only [Dp] at h
 |.ref a,p,v,h,r=>by simp only [Dp] at h
 |.ty a,p,v,h,r=>by simp only [Dp] at h
theorem DpAll.dt:∀(ds:List D) {ps:List PyData}{vs:List V},DpAll S ds ps→RvAll K H ds vs→DtAll K H ps vs
 |[],ps,vs,h,r=>by simp only [DpAll] at h;subst h;rw[r.nil];simp only [DtAll]
 |d::ds,ps,vs,h,r=>by
  simp only [DpAll] at h
  obtain⟨q,qs,rfl,h1,h2⟩:=h
  obtain⟨y,ys,rfl,r1,r2⟩:=r.cons
  simp only [DtAll]
  exact⟨y,ys,rfl,Dp.dt d h1 r1,DpAll.dt ds h2 r2⟩
end
def Dl(S:av):D→PyData→Prop
 |.ref a,p=>∃ds ps,S a=some (.lst ds)∧p=.list ps∧DpAll S ds ps
 |d,p=>Dp S d p
theorem Dl.dt(h:Dl S d p)(hS:Rs K S H)(r:Rv K H d v):Dt K H p v:=by
 cases d with
 |ref a =>
  obtain⟨ds,ps,e,rfl,h⟩:=h
  obtain⟨xs,e1,t⟩:=hS.lst e
  rw[r.ref]
  simp only [Dt]
  exact⟨a,xs,rfl,.of e1,DpAll.dt ds h t⟩
 |_=>exact Dp.dt _ h r
def E7(neg:Bool):v5:=fun x y S R=>match x,y with
 |.int i,.int j=>R (.bl (if neg then !decide (i=j) else decide (i=j))) S
 |.str i,.str j=>R (.bl (if neg then !decide (i=j) else decide (i=j))) S
 |x,y=>∃p q,Dl S x p∧Dl S y q∧p.canLay0=true∧q.canLay0=true∧(p.depth≤64∨q.depth≤64)∧R (.bl (if neg then !PyData.eqv p q else PyData.eqv p q)) S
theorem Gf(h:E7 neg x y S R):(∃i j,x=.int i∧y=.int j∧R (.bl (if neg then !decide (i=j) else decide (i=j))) S)∨(∃i j,x=.str i∧y=.str j∧R (.bl (if neg then !decide (i=j) else decide (i=j))) S) ∨
  ∃p q,Dl S x p∧Dl S y q∧p.canLay0=true∧q.canLay0=true∧(p.depth≤64∨q.depth≤64)∧R (.bl (if neg then !PyData.eqv p q else PyData.eqv p q)) S:=by
 cases x <;> cases y <;> first|exact .inl ⟨_,_,rfl,rfl,h⟩|exact .inr (.inl ⟨_,_,rfl,rfl,h⟩)|exact .inr (.inr h)
theorem br:qw K (compareOp .Eq) (E7 false):=by
 rintro X hK hu pins s σ H x y v u Q I rx ry ⟨d,e,S,R,r1,r2,hS,h,hR⟩
 subst hK
 rcases Gf h with ⟨i,j,rfl,rfl,h⟩|⟨i,j,rfl,rfl,h⟩|⟨p,q,h1,h2,c1,c2,dp,h⟩
 ·cases r1.int;cases r2.int
  refine Lb pins s σ H _ _ v u Q I rx ry ⟨rfl,?_⟩
  have e:decide (V.int i=V.int j)=decide (i=j):=by simp
  rw[e];exact hR.now hS h (cg _)
 ·cases r1.str;cases r2.str
  refine Lb pins s σ H _ _ v u Q I rx ry ⟨rfl,?_⟩
  have e:decide (V.str i=V.str j)=decide (i=j):=by simp
  rw[e];exact hR.now hS h (cg _)
 ·exact Nu hu pins s σ H x y v u Q I rx ry ⟨p,q,h1.dt hS r1,h2.dt hS r2,c1,c2,dp,hR.now hS h (cg _)⟩
theorem fF:qw K (compareOp .NotEq) (E7 true):=by
 rintro X hK hu pins s σ H x y v u Q I rx ry ⟨d,e,S,R,r1,r2,hS,h,hR⟩
 subst hK
 rcases Gf h with ⟨i,j,rfl,rfl,h⟩|⟨i,j,rfl,rfl,h⟩|⟨p,q,h1,h2,c1,c2,dp,h⟩
 ·cases r1.int;cases r2.int
  refine Ld pins s σ H _ _ v u Q I rx ry ⟨rfl,?_⟩
  have e:decide (V.int i=V.int j)=decide (i=j):=by simp
  rw[e];exact hR.now hS h (cg _)
 ·cases r1.str;cases r2.str
  refine Ld pins s σ H _ _ v u Q I rx ry ⟨rfl,?_⟩
  have e:decide (V.str i=V.str j)=decide (i=j):=by simp
  rw[e];exact hR.now hS h (cg _)
 ·exact Nv hu pins s σ H x y v u Q I rx ry ⟨p,q,h1.dt hS r1,h2.dt hS r2,c1,c2,dp,hR.now hS h (cg _)⟩
def bT(kvs:List (Key×D))(k:Key):Option D:=(kvs.find? fun kv=>decide (kv.1=k)).map (·.2)
def dput(kvs:List (Key×D))(k:Key)(v:D):List (Key×D):=if (kvs.any fun kv=>decide (kv.1=k))=true then kvs.map (fun kv=>if kv.1=k then (kv.1,v) else kv) else kvs++[(k,v)]
def wJ(kvs:List (Key×D))(k:Key):List (Key×D):=kvs.filter fun kv=>decide (kv.1≠k)
theorem bR.val(h:bR K H ks vs)(k:Key):(∀d,bT ks k=some d→∃v,fE vs k=some v∧Rv K H d v)∧(bT ks k=none→fE vs k=none):=by
 induction h with
 |nil=>exact⟨fun d e=>(by cases e),fun _=>rfl⟩
 |@cons a b l m r t ih =>
  obtain⟨k',d⟩:=a
  obtain⟨k'',v⟩:=b
  obtain⟨e0,r⟩:=r
  dsimp only at e0
  subst e0
  unfold bT fE
  simp only [zR]
  by_cases q:k'=k
  ·rw[zq q];exact⟨fun d' e=>⟨v,rfl,(by cases e;exact r)⟩,fun e=>(by cases e)⟩
  ·rw[zk q];exact ih
theorem bR.any(h:bR K H ks vs)(k:Key):(ks.any fun kv=>decide (kv.1=k))=(vs.any fun kv=>decide (kv.1=k)):=by
 induction h with
 |nil=>rfl
 |cons r t ih=>rw[yt,yt,ih,r.1]
theorem bR.len(h:bR K H ks vs):vs.length=ks.length:=(yC h).symm
theorem bR.app:∀{ks ls:List (κ×D)}{vs ws:List (κ×V)},bR K H ks vs→bR K H ls ws→bR K H (ks++ls) (vs++ws)
 |_,_,_,_,.nil,h=>h
 |_,_,_,_,.cons r t,h=>.cons r (bR.app t h)
theorem bR.Nc(h:bR K H ks vs)(k:Key)(rd:Rv K H d v):bR K H (ks.map fun kv=>if kv.1=k then (kv.1,d) else kv) (vs.map fun kv=>if kv.1=k then (kv.1,v) else kv):=by
 induction h with
 |nil=>exact .nil
 |@cons a b l m r t ih =>
  refine .cons ?_ ih
  dsimp only
  by_cases q:b.1=k
  ·rw[if_pos q,if_pos (r.1.trans q)];exact⟨r.1,rd⟩
  ·rw[if_neg q,if_neg fun z=>q (r.1.symm.trans z)];exact r
theorem bR.put(h:bR K H ks vs)(k:Key)(rd:Rv K H d v):bR K H (dput ks k d) (putK vs k v):=by
 unfold dput putK
 rw[h.any k]
 split
 ·exact h.Nc k rd
 ·exact h.app (.cons ⟨rfl,rd⟩ .nil)
theorem bR.drop(h:bR K H ks vs)(k:Key):bR K H (wJ ks k) (om vs k):=by
 unfold wJ om
 induction h with
 |nil=>exact .nil
 |@cons a b l m r t ih =>
  rw[yi,yi,r.1]
  by_cases q:b.1=k
  ·rw[if_neg (by simp [q]),if_neg (by simp [q])];exact ih
  ·rw[if_pos (by simp [q]),if_pos (by simp [q])];exact .cons r ih
def AB:D→Option Key
 |.int i=>some (.inl i)
 |.str z=>some (.inr z)
 |_=>none
theorem nu(h:AB d=some k)(r:Rv K H d v):v=kV k:=by
 cases d with
 |int i=>cases h;exact r.int
 |str i=>cases h;exact r.str
 |_=>cases h
def kh:D→Bool
 |.aw=>true|.bl _=>true|.int _=>true|.str _=>true
 |_=>false
def lW:D→V
 |.aw=>.aw|.bl b=>.bl b|.int i=>.int i|.str z=>.str z|.ref a=>.ref a|.ty n=>.ty n
 |_=>.aw
theorem qx(h:kh d=true)(r:Rv K H d v):v=lW d∧gu v=true:=by
 cases d with
 |aw=>cases r.aw;exact⟨rfl,rfl⟩
 |bl b=>cases r.bl;exact⟨rfl,rfl⟩
 |int b=>cases r.int;exact⟨rfl,rfl⟩
 |str b=>cases r.str;exact⟨rfl,rfl⟩
 |_=>cases h
theorem lX:∀{ds:List D}{vs:List V},ds.all kh=true→RvAll K H ds vs→vs=ds.map lW∧vs.all gu=true
 |[],vs,_,r=>by rw[r.nil];exact⟨rfl,rfl⟩
 |d::ds,vs,h,r=>by
  obtain⟨y,ys,rfl,r1,r2⟩:=r.cons
  rw[yK,zJ] at h
  obtain⟨e1,f1⟩:=qx h.1 r1
  obtain⟨e2,f2⟩:=lX h.2 r2
  refine⟨by rw[e1,e2];rfl,?_⟩
  rw[yK,f1,f2];rfl
def inD(neg:Bool):v5:=fun x y S R=>match y with
 |.str j=>∃i,x=.str i∧R (.bl (if neg then !(!(Builtin.Str.occurrences j i 0 j.length 1).isEmpty) else !(Builtin.Str.occurrences j i 0 j.length 1).isEmpty)) S
 |.kt ds=>kh x=true∧ds.all kh=true∧R (.bl (if neg then !y8 (lW x) (ds.map lW) else y8 (lW x) (ds.map lW))) S
 |.tup ds=>kh x=true∧ds.all kh=true∧R (.bl (if neg then !y8 (lW x) (ds.map lW) else y8 (lW x) (ds.map lW))) S
 |.ref a=>(∃ds,S a=some (.lst ds)∧kh x=true∧ds.all kh=true∧R (.bl (if neg then !y8 (lW x) (ds.map lW) else y8 (lW x) (ds.map lW))) S) ∨
   ∃kvs k,S a=some (.cQ kvs)∧AB x=some k∧R (.bl (if neg then !(bT kvs k).isSome else (bT kvs k).isSome)) S
 |_=>False
theorem uG(hS:Rs K S H)(e:S a=some (.cQ kvs)):∃o,o_ H a (kV k) o∧o.isSome=(bT kvs k).isSome∧∀d,bT kvs k=some d→∃v,o=some v∧Rv K H d v:=by
 obtain⟨vs,e1,t⟩:=hS.cQ e
 refine⟨_,o_.k e1,?_,fun d h=>(t.val k).1 d h⟩
 cases q:bT kvs k with
 |none=>rw[(t.val k).2 q];rfl
 |some d=>obtain⟨v,e2,_⟩:=(t.val k).1 d q;rw[e2];rfl
theorem D2:qw K (compareOp .In) (inD false):=by
 rintro X hK hu pins s σ H x y v u Q I rx ry ⟨d,e,S,R,r1,r2,hS,h,hR⟩
 subst hK
 cases e with
 |str j =>
  obtain⟨i,rfl,h⟩:=h
  exact Dq pins s σ H x y v u Q I rx ry ⟨i,j,r1.str,r2.str,hR.now hS h (cg _)⟩
 |tup ds =>
  obtain⟨f1,f2,h⟩:=h
  obtain⟨a,xs,rfl,q,t⟩:=r2.tup
  obtain⟨e1,g1⟩:=qx f1 r1
  obtain⟨e2,g2⟩:=lX f2 t
  subst e1 e2
  exact m_ pins s σ H _ _ v u Q I rx ry ⟨a,_,rfl,.inr (.of q),g1,g2,hR.now hS h (cg _)⟩
 |kt ds =>
  obtain⟨f1,f2,h⟩:=h
  obtain⟨a,xs,rfl,q,t⟩:=r2.kt
  obtain⟨e1,g1⟩:=qx f1 r1
  obtain⟨e2,g2⟩:=lX f2 t
  subst e1 e2
  exact m_ pins s σ H _ _ v u Q I rx ry ⟨a,_,rfl,.inr (.inr q),g1,g2,hR.now hS h (cg _)⟩
 |ref a =>
  cases r2.ref
  rcases h with ⟨ds,e,f1,f2,h⟩|⟨kvs,k,e,hk,h⟩
  ·obtain⟨xs,e1,t⟩:=hS.lst e
   obtain⟨e2,g1⟩:=qx f1 r1
   obtain⟨e3,g2⟩:=lX f2 t
   subst e2 e3
   exact m_ pins s σ H _ _ v u Q I rx ry ⟨a,_,rfl,.inl (.of e1),g1,g2,hR.now hS h (cg _)⟩
  ·cases nu hk r1
   cases ry
   obtain⟨o,g,e1,_⟩:=uG (k:=k) hS e
   refine VB (by lia) I g rx fun s' I'=>⟨.bl o.isSome,H,I',rfl,?_⟩
   rw[e1];exact hR.now hS h (cg _)
 |_=>exact h.elim
def IxD(K:Frag)(r:v5):Prop:=∀X:Cx,X.K=K→X.A.units+64<cLine→Qu X (Lr K r)
inductive T8 (ds:List D) (i:Int) (S:av) (R:KD):Prop where
 |mk (d:D) (h:uo ds i=some d) (r:R d S):T8 ds i S R
inductive Wm (a:Addr) (i:Int) (S:av) (R:KD):Prop where
 |mk (ds:List D) (d:D) (e:S a=some (.lst ds)) (h:uo ds i=some d) (r:R d S):Wm a i S R
def YH:v5:=fun x y S R=>match x,y with
 |.tup ds,.int i=>T8 ds i S R
 |.kt ds,.int i=>T8 ds i S R
 |.iP ds,.int i=>T8 ds i S R
 |.str z,.int i=>∃c,z.length≤sizeLine∧uo z.cps.toList i=some c∧R (.str ⟨#[c]⟩) S
 |.ref a,.int i=>Wm a i S R
 |.ref a,.str z=>∃kvs d,S a=some (.cQ kvs)∧bT kvs (.inr z)=some d∧R d S
 |_,_=>False
theorem RvAll.at{H:Hp}{ds:List D}{xs:List V}{i:Int}{d:D}(h:RvAll K H ds xs)(e:uo ds i=some d):∃v,uo xs i=some v∧Rv K H d v:=by
 unfold uo at e ⊢
 rw[h.len]
 cases q:Ih ds.length i with
 |none=>rw[q] at e;cases e
 |some j =>
  rw[q] at e
  exact h.get e
theorem Wn:IxD K YH:=by
 rintro X hK hu value slice pins s σ H x y v u Q I rx ry ⟨d,e,S,R,r1,r2,hS,h,hR⟩ hs
 subst hK
 cases d with
 |tup ds =>
  cases e with
  |int i =>
   obtain⟨d,e,h⟩:=h
   obtain⟨a,xs,rfl,q,t⟩:=r1.tup
   obtain⟨z,e1,r⟩:=t.at e
   exact Fz value slice pins s σ H _ _ v u Q I rx ry ⟨a,xs,i,z,rfl,r2.int,.of q,e1,hR.now hS h r⟩ hs
  |_=>exact h.elim
 |kt ds =>
  cases e with
  |int i =>
   obtain⟨d,e,h⟩:=h
   obtain⟨a,xs,rfl,q,t⟩:=r1.kt
   obtain⟨z,e1,r⟩:=t.at e
   exact Fz value slice pins s σ H _ _ v u Q I rx ry ⟨a,xs,i,z,rfl,r2.int,.inr q,e1,hR.now hS h r⟩ hs
  |_=>exact h.elim
 |iP ds =>
  cases e with
  |int i =>
   obtain⟨d,e,h⟩:=h
   obtain⟨a,xs,rfl,q,t⟩:=r1.iP
   obtain⟨z,e1,r⟩:=t.at e
   exact BY value slice pins s σ H _ _ v u Q I rx ry ⟨a,xs,i,z,rfl,r2.int,q.sq,e1,hR.now hS h r⟩ hs
  |_=>exact h.elim
 |str w =>
  cases e with
  |int i =>
   obtain⟨c,e0,e,h⟩:=h
   exact M4 value slice pins s σ H _ _ v u Q I rx ry ⟨w,i,c,r1.str,r2.int,e0,e,hR.now hS h (iY _)⟩ hs
  |_=>exact h.elim
 |ref a =>
  cases e with
  |int i =>
   obtain⟨ds,d,e,e1,h⟩:=h
   obtain⟨xs,e2,t⟩:=hS.lst e
   obtain⟨z,e3,r⟩:=t.at e1
   exact BY value slice pins s σ H _ _ v u Q I rx ry ⟨a,xs,i,z,r1.ref,r2.int,.of e2,e3,hR.now hS h r⟩ hs
  |str w =>
   obtain⟨kvs,d,e,e1,h⟩:=h
   cases r1.ref
   cases r2.str
   cases rx
   obtain⟨o,g,_,e2⟩:=uG (k:=.inr w) hS e
   obtain⟨z,rfl,r⟩:=e2 d e1
   exact tail_any (wq I g) PySem.F.slot_dict_getitem.lookup (DF (by lia) I g ry fun w' s' I' rX=>⟨z,H,I',rX,hR.now hS h r⟩) hs
  |_=>exact h.elim
 |_=>exact h.elim
theorem ix(hu:X.A.units+64<cLine)(ha:DE K X a ta)(hb:DE K X b tb)(hs:BX b:=by exact fun _ _=>rfl)(hK:X.K=K:=by rfl):DE K X (.Subscript a b pos) (NI YH ta tb) :=
 ⟨fun y=>(Qv (Wn y.cx hK hu) (ha.of y) (hb.of y) hs).mono fun _ _ _ h=>h.op⟩
end
section
variable{K:Frag}{X:Cx}
abbrev Pn:=SD→av→(Option Int→av→Prop)→KX→Prop
def To(K:Frag)(E:St→XK)(t:Pn):TO:=fun τ H Q=>∃σ S R Z,gY K H σ τ∧Rs K S H∧t σ S R Z∧(∀o S' H',R o S'→Rs K S' H'→Kp K H H'→Q o H')∧D1 K H Z (E τ)
structure DO(K:Frag)(X:Cx)(e:Option Expr)(t:Pn):Prop where
 of:∀{b:Bool} (y:Ev X b),PO y.cx e (To K y.E t)
theorem PO.mono{t t':TO}(h:PO X e t)(i:∀τ H Q,t' τ H Q→t τ H Q):PO X e t':=fun pins s τ H Q I q=>h pins s τ H Q I (i τ H Q q)
def Q9:Pn:=fun _ S R _=>R none S
inductive Q_ (d:D) (S:av) (R:Option Int→av→Prop):Prop where
 |mk (i:Int) (h:d=.int i) (r:R (some i) S):Q_ d S R
def Rb(t:TD):Pn:=fun σ S R Z=>t σ S (fun d S1=>Q_ d S1 R) Z
theorem o0:DO K X none Q9:=⟨fun y=>(IT (X:=y.cx)).mono <| by rintro τ H Q ⟨σ,S,R,Z,aB,hS,q,hR,hZ⟩;exact hR _ S H q hS (.refl _)⟩
theorem o1{t:TD}(h:DE K X e t):DO K X (some e) (Rb t) :=
 ⟨fun y=>(IU (h.of y)).mono <| by rintro τ H Q ⟨σ,S,R,Z,aB,hS,q,hR,hZ⟩;exact⟨σ,S,_,Z,aB,hS,q,by rintro d S1 x H1 ⟨i,e,r1⟩ v1 s1 k1;exact by subst e;exact⟨i,v1.int,hR _ S1 H1 r1 s1 k1⟩,hZ⟩⟩
def cR{α:Type}(xs:List α)(lo hi:Option Int):List α:=(xs.drop (HT.sIx xs.length 0 lo)).take (HT.sIx xs.length xs.length hi - HT.sIx xs.length 0 lo)
theorem RvAll.cut{H:Hp}{ds:List D}{xs:List V}(h:RvAll K H ds xs)(lo hi:Option Int):RvAll K H (cR ds lo hi) (DC xs lo hi):=by
 unfold cR DC
 rw[h.len]
 exact (h.drop _).take _
def Wo(te:TD):TD:=fun σ S R Z=>te σ S (fun x S1=>∃i,x=.int i∧R (.int (-i)) S1) Z
theorem NJ(he:DE K X e te):DE K X (.UnaryOp .USub e pos) (Wo te) :=
 ⟨fun y=>(Qf MS (he.of y)).mono <| by rintro τ H Q ⟨σ,S,R,Z,aB,hS,q,hR,hZ⟩;exact⟨σ,S,_,Z,aB,hS,q,by rintro d S1 x H1 ⟨i,e,r1⟩ v1 s1 k1;exact by subst e;exact⟨i,v1.int,hR _ S1 _ H1 r1 (aL _) s1 k1⟩,hZ⟩⟩
def Wq(T:String)(S:av):D→Prop
 |.str _=>T = "str"
 |.ref a=>T = "list" ∧ ∃ds,S a=some (.lst ds)
 |.iP _=>T = "list"
 |_=>False
theorem Lw{H:Hp}{S:av}{T:String}{d:D}{v:V}(h:Wq T S d)(hS:Rs K S H)(r:Rv K H d v):TR K T v H:=by
 cases d with
 |str z=>rw[r.str];exact h
 |ref a=>obtain⟨e,ds,h⟩:=h;obtain⟨xs,e1,_⟩:=hS.lst h;rw[r.ref];exact .inl ⟨e,xs,.of e1⟩
 |iP ds=>obtain⟨a,xs,rfl,q,_⟩:=r.iP;exact .inl ⟨h,xs,q.sq⟩
 |_=>exact h.elim
abbrev Gg:=D→List D→av→KD→Prop
def Lm(K:Frag)(r:Gg):V→List V→Hp→VK→Prop:=fun x xs H Q=>∃d ds S R,Rv K H d x∧RvAll K H ds xs∧Rs K S H∧r d ds S R∧Cn K H R Q
def NK(K:Frag)(id:String)(r:Gg):Prop:=∀X:Cx,X.K=K→Pa X id (Lm K r)
def dBM(T:String)(r:Gg)(to:TD)(t:iK):TD:=fun σ S R Z=>to σ S (fun x S1=>Wq T S1 x∧t σ S1 (fun ds S2=>r x ds S2 R) Z) Z
def Wr(T:String)(r:Gg)(to:TD):TD:=fun σ S R Z=>to σ S (fun x S1=>Wq T S1 x∧r x [] S1 R) Z
theorem bm{o e:Expr}{es:List Expr}{T id:String}{name:Str}{r:Gg}{to:TD}{t:iK}{apos aP:Pos}(pa:PlainAttrs T)(slot:Slot T name id)(M8:typeOf (.builtin id)=pure (.type "method_descriptor"))(hm:NK K id r)(ho:DE K X o to)(ha:DA K X (e::es) t)
  (lR:attributeBase o name X.env (eval o X.env)=eval o X.env:=by rfl)
  (M9:((backTo aP (starEach (e::es) X.env)).all (fun x=>!x.1) && (backToKw aP (keywordEach [] X.env)).all (fun x=>x.1.isSome)
   && decide ((e::es).length+([]:List Keyword).length+(if ([]:List Keyword).isEmpty then 0 else 1)<30))=true:=by rfl)
  (qf:(apos.endLine == aP.line)=true:=by rfl) (hs:starEach (e::es) X.env=(false,eval e X.env)::starEach es X.env:=by rfl) (y9:(backTo aP (starEach es X.env)).any (·.1)=false:=by rfl) (hK:X.K=K:=by rfl) :
  DE K X (.Call (.Attribute o name apos) (e::es) [] aP) (dBM T r to t):=by
 subst hK
 exact⟨fun y=>(Qx (X:=y.cx) pa slot M8 (hm _ rfl) (ho.of y) (ha.of y) lR M9 qf hs y9).mono <| by rintro τ H Q ⟨σ,S,R,Z,aB,hS,q,hR,hZ⟩;exact
  ⟨σ,S,_,Z,aB,hS,q,by rintro d S1 x H1 ⟨h1,r1⟩ v1 s1 k1;exact⟨Lw h1 s1 v1,σ,S1,_,Z,aB.ts k1,s1,r1,fun ds S2 xs H2 r2 v2 s2 k2=>⟨d,ds,S2,R,Rv.ts k2 _ v1,v2,s2,r2,hR.kp (k1.trans k2)⟩,hZ.kp k1⟩,hZ⟩⟩
theorem bm0{o:Expr}{T id:String}{name:Str}{r:Gg}{to:TD}{apos aP:Pos}(pa:PlainAttrs T)(slot:Slot T name id)(M8:typeOf (.builtin id)=pure (.type "method_descriptor"))(hm:NK K id r)(ho:DE K X o to)
  (lR:attributeBase o name X.env (eval o X.env)=eval o X.env:=by rfl) (qf:(apos.endLine == aP.line)=true:=by rfl) (hK:X.K=K:=by rfl) :
  DE K X (.Call (.Attribute o name apos) [] [] aP) (Wr T r to):=by
 subst hK
 exact⟨fun y=>(M7 (X:=y.cx) pa slot M8 (hm _ rfl) (ho.of y) lR qf).mono <| by rintro τ H Q ⟨σ,S,R,Z,aB,hS,q,hR,hZ⟩;exact
  ⟨σ,S,_,Z,aB,hS,q,by rintro d S1 x H1 ⟨h1,r1⟩ v1 s1 k1;exact⟨Lw h1 s1 v1,d,[],S1,R,v1,bC,s1,r1,hR.kp k1⟩,hZ⟩⟩
theorem RvAll.one(h:RvAll K H [d] xs):∃v,xs=[v]∧Rv K H d v:=by
 obtain⟨y,ys,rfl,h1,h2⟩:=h.cons
 rw[h2.nil];exact⟨y,rfl,h1⟩
inductive Rf (x:D) (ds:List D) (S:av) (R:KD):Prop where
 |mk (a:Addr) (es:List D) (d:D) (e1:x=.ref a) (e2:ds=[d]) (e3:S a=some (.lst es)) (e4:es.length<sizeLine) (r:R .aw (S.set a (.lst (es++[d])))):Rf x ds S R
def Jz:Gg:=fun x ds S R=>Rf x ds S R
theorem dU:NK K "list.append" Jz:=by
 rintro X hK pins s σ H x xs v us Q I rx rs ⟨d,ds,S,R,r1,r2,hS,⟨a,es,y,e1,e2,e3,hl,h⟩,hR⟩
 subst e1 e2
 obtain⟨w0,rfl,q2⟩:=r2.one
 obtain⟨zs,e4,t⟩:=hS.lst e3
 exact DD pins s σ H x _ v us Q I rx rs ⟨a,zs,w0,r1.ref,rfl,e4,by rw[t.len];exact hl,hR.put hS e3 h iX (t.app (aS q2 bC))⟩
def Ws:Gg:=fun x ds S R=>∃a es d,x=.ref a∧ds=[]∧S a=some (.lst es)∧es[es.length - 1]?=some d∧R d (S.set a (.lst es.dropLast))
theorem Rh:NK K "list.pop" Ws:=by
 rintro X hK pins s σ H x xs v us Q I rx rs ⟨d,ds,S,R,r1,r2,hS,⟨a,es,y,e1,e2,e3,hl,h⟩,hR⟩
 subst e1 e2
 obtain⟨zs,e4,t⟩:=hS.lst e3
 obtain⟨w,e5,r⟩:=t.get hl
 exact Na pins s σ H x _ v us Q I rx rs ⟨a,zs,w,r1.ref,r2.nil,e4,by rw[t.len];exact e5,hR.put hS e3 h r t.dropLast⟩
def JA:Gg:=fun x ds S R=>∃(es:List D) (d:D) (j:Nat),ds=[d]∧xZ S x es∧kh d=true∧es.all kh=true∧(∃z,es[j]?=some z∧eqV (lW z) (lW d)=true)∧(∀m u,m<j→es[m]?=some u→eqV (lW u) (lW d)=false)∧R (.int j) S
theorem Gi:NK K "list.index" JA:=by
 rintro X hK pins s σ H x xs v us Q I rx rs ⟨d,ds,S,R,r1,r2,hS,⟨es,y,j,e2,e3,f1,f2,⟨z,e4,e5⟩,h4,h⟩,hR⟩
 subst hK e2
 obtain⟨w0,rfl,q2⟩:=r2.one
 obtain⟨a,zs,rfl,q,t⟩:=e3.at hS r1
 obtain⟨g1,g2⟩:=qx f1 q2
 obtain⟨g3,g4⟩:=lX f2 t
 subst g1 g3
 refine DZ pins s σ H _ _ v us Q I rx rs ⟨a,_,_,lW z,j,rfl,rfl,q,g2,g4,by rw[zp,e4];rfl,e5,fun m u hm e=>?_,hR.now hS h (aL _)⟩
 rw[zp] at e
 cases q2:es[m]? with
 |none=>rw[q2] at e;cases e
 |some u'=>rw[q2] at e;cases e;exact h4 m u' hm q2
def JB:Gg:=fun x ds S R=>∃z y,x=.str z∧ds=[.str y]∧R (.bl (PySem.Txt.startswith z y)) S
theorem Gj:NK K "str.startswith" JB:=by
 rintro X hK pins s σ H x xs v us Q I rx rs ⟨d,ds,S,R,r1,r2,hS,⟨z,y,e1,e2,h⟩,hR⟩
 subst e1 e2
 obtain⟨w0,rfl,q2⟩:=r2.one
 exact sv pins s σ H _ _ v us Q I rx rs ⟨z,y,r1.str,by rw[q2.str],hR.now hS h (cg _)⟩
def Ri(S:av)(R:KD):D→Prop
 |.str z=>z.length≤sizeLine∧R (.int z.length) S
 |.tup es=>R (.int es.length) S
 |.kt es=>R (.int es.length) S
 |.iP es=>R (.int es.length) S
 |.ref a=>(∃es,S a=some (.lst es)∧R (.int es.length) S)∨∃kvs,S a=some (.cQ kvs)∧R (.int kvs.length) S
 |_=>False
inductive Rj (ds:List D) (S:av) (R:KD):Prop where
 |mk (x:D) (h:ds=[x]) (r:Ri S R x):Rj ds S R
def Wt:List D→av→KD→Prop:=fun ds S R=>Rj ds S R
theorem aT:gv K (.builtin "len") Wt:=by
 rintro X hK hc pins s σ H xs us Q I rx ⟨ds,S,R,r,hS,⟨x,e,h⟩,hR⟩
 subst hK e
 obtain⟨w,rfl,r'⟩:=r.one
 cases x with
 |str z =>
  cases r'.str
  exact iT pins s σ H _ us Q I rx ⟨_,_,rfl,⟨h.1,rfl⟩,hR.now hS h.2 (aL _)⟩
 |tup es =>
  obtain⟨a,xs,rfl,q,t⟩:=r'.tup
  exact iT pins s σ H _ us Q I rx ⟨_,_,rfl,.inr ⟨xs,.of q,t.len.symm⟩,hR.now hS h (aL _)⟩
 |kt es =>
  obtain⟨a,xs,rfl,q,t⟩:=r'.kt
  exact iT pins s σ H _ us Q I rx ⟨_,_,rfl,.inr ⟨xs,.inr q,t.len.symm⟩,hR.now hS h (aL _)⟩
 |iP es =>
  obtain⟨a,xs,rfl,q,t⟩:=r'.iP
  exact iT pins s σ H _ us Q I rx ⟨_,_,rfl,.inl ⟨xs,q.sq,t.len.symm⟩,hR.now hS h (aL _)⟩
 |ref a =>
  cases r'.ref
  rcases h with ⟨es,e,h⟩|⟨kvs,e,h⟩
  ·obtain⟨xs,e1,t⟩:=hS.lst e
   exact iT pins s σ H _ us Q I rx ⟨_,_,rfl,.inl ⟨xs,.of e1,t.len.symm⟩,hR.now hS h (aL _)⟩
  ·obtain⟨xs,e1,t⟩:=hS.cQ e
   exact DL pins s σ H _ us Q I rx ⟨a,xs,rfl,e1,by rw[t.len];exact hR.now hS h (aL _)⟩
 |_=>exact h.elim
def NL(S:av):D→Kd→Prop
 |.aw,k=>k=.aw
 |.bl _,k=>k=.bl
 |.int _,k=>k=.int
 |.str _,k=>k=.str
 |.ref a,k=>(k=.lst∧∃ds,S a=some (.lst ds))∨(k=.cQ∧∃ds,S a=some (.cQ ds))
 |.tup _,k=>k=.tup
 |_,_=>False
theorem Rk(h:NL S d k)(hS:Rs K S H)(r:Rv K H d v):qo H v k:=by
 cases d with
 |aw=>cases h;rw[r.aw];exact .aw
 |bl b=>cases h;rw[r.bl];exact .bl b
 |int b=>cases h;rw[r.int];exact .int b
 |str b=>cases h;rw[r.str];exact .str b
 |tup b=>cases h;obtain⟨a,xs,rfl,q,_⟩:=r.tup;exact .tup q
 |ref a =>
  rw[r.ref]
  rcases h with ⟨rfl,ds,h⟩|⟨rfl,ds,h⟩
  ·obtain⟨xs,e,_⟩:=hS.lst h;exact .lst e
  ·obtain⟨xs,e,_⟩:=hS.cQ h;exact .cQ e
 |_=>exact h.elim
inductive Rl (ds:List D) (S:av) (R:KD):Prop where
 |mk (x:D) (n:String) (k:Kd) (g:Kd→Bool) (e:ds=[x,.ty n]) (a:wB n=some g) (b:NL S x k) (r:R (.bl (g k)) S):Rl ds S R
def Wu:List D→av→KD→Prop:=fun ds S R=>Rl ds S R
theorem RvAll.two(h:RvAll K H [d,e] xs):∃v u,xs=[v,u]∧Rv K H d v∧Rv K H e u:=by
 obtain⟨y,ys,rfl,h1,h2⟩:=h.cons
 obtain⟨u,rfl,h3⟩:=h2.one
 exact⟨y,u,rfl,h1,h3⟩
theorem cG:gv K (.builtin "isinstance") Wu:=by
 rintro X hK hc pins s σ H xs us Q I rx ⟨ds,S,R,r,hS,⟨x,n,k,g,e,h1,h2,h⟩,hR⟩
 subst hK e
 obtain⟨v,u,rfl,r1,r2⟩:=r.two
 rw[r2.ty] at rx
 exact FU pins s σ H _ us Q I rx ⟨v,n,k,g,rfl,h1,Rk h2 hS r1,hR.now hS h (cg _)⟩
inductive Rm (ds:List D) (S:av) (f:List Bool→Bool) (R:KD):Prop where
 |mk (x:D) (bs:List Bool) (e:ds=[x]) (h:xZ S x (bs.map D.bl)) (r:R (.bl (f bs)) S):Rm ds S f R
def Rn:List D→av→KD→Prop:=fun ds S R=>Rm ds S (fun bs=>bs.all id) R
theorem ki:gv K (.builtin "all") Rn:=by
 rintro X hK hc pins s σ H xs us Q I rx ⟨ds,S,R,r,hS,⟨x,bs,e,h1,h⟩,hR⟩
 subst hK e
 obtain⟨v,rfl,r1⟩:=r.one
 obtain⟨a,zs,rfl,q,t⟩:=h1.at hS r1
 rw[t.bools] at q
 exact rZ hc pins s σ H _ us Q I rx ⟨a,bs,rfl,q,hR.now hS h (cg _)⟩
def Ww:List D→av→KD→Prop:=fun ds S R=>∃(x:D) (bs:List Bool),ds=[x]∧xZ S x (bs.map D.bl)∧R (.bl (bs.any id)) S
theorem Ro:gv K (.builtin "any") Ww:=by
 rintro X hK hc pins s σ H xs us Q I rx ⟨ds,S,R,r,hS,⟨x,bs,e,h1,h⟩,hR⟩
 subst hK e
 obtain⟨v,rfl,r1⟩:=r.one
 obtain⟨a,zs,rfl,q,t⟩:=h1.at hS r1
 rw[t.bools] at q
 exact r9 hc pins s σ H _ us Q I rx ⟨a,bs,rfl,q,hR.now hS h (cg _)⟩
def intD:List D→av→KD→Prop:=fun ds S R=>(∃i,ds=[.int i]∧R (.int i) S)∨∃k,ds=[.bl k]∧R (.int (if k then 1 else 0)) S
theorem Cc:gv K (.type "int") intD:=by
 rintro X hK hc pins s σ H xs us Q I rx ⟨ds,S,R,r,hS,h,hR⟩
 rcases h with ⟨i,rfl,h⟩|⟨k,rfl,h⟩
 ·obtain⟨v,rfl,r1⟩:=r.one
  exact sZ pins s σ H _ us Q I rx (.inl ⟨i,by rw[r1.int],hR.now hS h (aL _)⟩)
 ·obtain⟨v,rfl,r1⟩:=r.one
  exact sZ pins s σ H _ us Q I rx (.inr ⟨k,by rw[r1.bl],hR.now hS h (aL _)⟩)
inductive Rp (ds:List D) (S:av) (R:KD):Prop where
 |mk (x:D) (es:List D) (e:ds=[x]) (h:xZ S x es∨x=.tup es) (r:R (.tup es) S):Rp ds S R
def NM:List D→av→KD→Prop:=fun ds S R=>Rp ds S R
theorem eO:gv K (.type "tuple") NM:=by
 rintro X hK hc pins s σ H xs us Q I rx ⟨ds,S,R,r,hS,⟨x,es,e,h1,h⟩,hR⟩
 subst hK e
 obtain⟨v,rfl,r1⟩:=r.one
 rcases h1 with h1|rfl
 ·obtain⟨a,zs,rfl,q,t⟩:=h1.at hS r1
  exact j9 pins s σ H _ us Q I rx ⟨a,zs,rfl,.inl ⟨q,fun p hp=>hR.We hS hp h t⟩⟩
 ·obtain⟨a,zs,rfl,q,t⟩:=r1.tup
  exact j9 pins s σ H _ us Q I rx ⟨a,zs,rfl,.inr ⟨.of q,hR.now hS h (nq q t)⟩⟩
def minD(f:Int→Int→Bool):List D→av→KD→Prop:=fun ds S R=>∃i j,ds=[.int i,.int j]∧R (.int (if f j i then j else i)) S
theorem Lx:gv K (.builtin "min") (minD fun a b=>decide (a<b)):=by
 rintro X hK hc pins s σ H xs us Q I rx ⟨ds,S,R,r,hS,⟨i,j,e,h⟩,hR⟩
 subst e
 obtain⟨v,u,rfl,r1,r2⟩:=r.two
 refine Dw hc pins s σ H _ us Q I rx ⟨i,j,by rw[r1.int,r2.int],?_⟩
 have:=hR.now hS h (aL _)
 simpa using this
theorem Rq:gv K (.builtin "max") (minD fun a b=>decide (b<a)):=by
 rintro X hK hc pins s σ H xs us Q I rx ⟨ds,S,R,r,hS,⟨i,j,e,h⟩,hR⟩
 subst e
 obtain⟨v,u,rfl,r1,r2⟩:=r.two
 refine Du hc pins s σ H _ us Q I rx ⟨i,j,by rw[r1.int,r2.int],?_⟩
 have:=hR.now hS h (aL _)
 simpa using this
end
abbrev iL:=List D→av→KD→KX→Prop
def pe(K:Frag)(sp:iL):Sp:=fun vs H Q e=>∃ds S R Z,RvAll K H ds vs∧Rs K S H∧sp ds S R Z∧Cn K H R Q∧D1 K H Z e
section
variable{K:Frag}{X:Cx}{k:Nat}{f C:Addr}{fd:FuncData}{ps:List Str}{sp:Sp}{oY:List V}{ds:List Value}{x m:Str}{p pos apos:Pos}{e o:Expr}{es:List Expr}{b:Bool}{y:Ev X b}
theorem uH(F:bG X.prog X.w X.K X.mg X.base (eW X.prog X.w X.mg) k f fd ps sp)(hr:bQ k X.A)(hb:Binds X.K fd ps ds)(hd:Vals oY ds)
  (I:Inv y.cx p2 σ H s) (r:Vals vs us) (h:sp (vs++oY) H Q (y.E σ)):wpAny (model X.prog X.w) X.A (call (.ref f) us) (EP y.cx p2 σ Q) y.xe s:=by
 have r2:Vals (vs++oY) (us++ds):=r.append hd
 have hl:(us++ds).length=ps.length:=by rw[← r2.length];exact F.len _ _ _ _ h
 refine wpAny_call (yM (F.run X.A X.stack s H ⟨us,[]⟩ (us++ds) (vs++oY) Q (y.E σ) hr I.Qp (hb s us I.oh hl) r2 h) fun res s' hq=>?_)
 cases res with
 |error e=>exact y.ok.call p2 σ H s e s' I hq
 |ok fl =>
  cases fl with
  |ret u=>exact I.after hq
  |next=>exact False.elim hq
  |brk=>exact False.elim hq
  |cont=>exact False.elim hq
theorem Gk{t:TA}(F:bG X.prog X.w X.K X.mg X.base (eW X.prog X.w X.mg) k f fd ps sp)(hr:bQ k X.A)(hg:Gl X x)(hm:X.mg x=some (.ref f))(hk:keepIn X.K (.ref f)=true)(hb:Binds X.K fd ps ds)(hd:Vals oY ds)
  (ha:PA y.cx (e::es) t) (oZ:(x == ("__debug__" : Str))=false) (he:starEach (e::es) X.env=(false,eval e X.env)::starEach es X.env) (dD:(backTo pos (starEach es X.env)).any (·.1)=false) :
  PE y.cx (.Call (.Name x p) (e::es) [] pos) (fun σ H Q=>t σ H fun vs H1=>sp (vs++oY) H1 Q (y.E σ)):=by
 intro p2 s σ H Q I h
 refine wpAny_Call_Name_kw (pG I hg hm ?_ oZ)
 refine callWith_K (h₀:=X.base) I.ok.mod.O7 hk (bq (ha pos p2 s σ H _ I h) fun us s1 ⟨vs,H1,I1,r,q⟩=>⟨I1.oh,?_⟩) he dD
 exact uH F hr hb hd I1 r q
theorem Gm{pl:Sem Bool}{ta:TE}{t:TA}(he:PE y.cx o ta)(c:p_ X.K C)(hm:Meth X.K C m f)(F:bG X.prog X.w X.K X.mg X.base (eW X.prog X.w X.mg) k f fd ps sp)(hr:bQ k X.A)(hb:Binds X.K fd ps ds)(hd:Vals oY ds)(ha:PA y.cx (e::es) t)
  (we:starEach (e::es) X.env=(false,eval e X.env)::starEach es X.env) (dD:(backTo pos (starEach es X.env)).any (·.1)=false)
  (ht:eval (.Call (.Attribute o m apos) (e::es) [] pos) X.env=(do
   let ov ← eval o X.env
   standAt apos.atName
   let (f,first) ← holding [ov] (getMethod ov m pl)
   callWith pos f first (backTo pos (starEach (e::es) X.env)) (backToKw pos (keywordEach [] X.env)))) :
  PE y.cx (.Call (.Attribute o m apos) (e::es) [] pos) (fun σ H Q=>ta σ H fun x H1=>∃a dx fs,x=.ref a∧H1 a=some (.ins C dx fs)∧fs.lookup m=none∧t σ H1 fun vs H2=>sp (x::(vs++oY)) H2 Q (y.E σ)):=by
 intro p2 s σ H Q I h
 refine methodCall_KW (pl:=pl) (bq (he p2 s σ H _ I h) fun u s1 ⟨x,H1,I1,rx,a,dx,fs,ex,ea,l,q⟩=>?_) ht
 subst ex
 obtain rfl:u=Value.ref a:=rx
 refine qd I1 ea c hm l ?_
 refine callWith_K (first:=[.ref a]) (h₀:=X.base) I.ok.mod.O7 hm.kp (bq (ha pos p2 s1 σ H1 _ I1 q) fun us s2 ⟨vs,H2,I2,r,q2⟩=>⟨I2.oh,?_⟩) we dD
 exact uH (us:=.ref a::us) (vs:=.ref a::vs) F hr hb hd I2 (.cons rfl r) q2
theorem D3(he:PE y.cx o ta)(c:p_ X.K C)(hm:Meth X.K C m f)(F:bG X.prog X.w X.K X.mg X.base (eW X.prog X.w X.mg) k f fd ps sp)(hr:bQ k X.A)(hb:Binds X.K fd ps ds)(hd:Vals oY ds)
  (ht:eval (.Call (.Attribute o m apos) [] [] pos) X.env=(do
   let ov ← eval o X.env
   standAt apos.atName
   let (f,first) ← holding [ov] (getMethod ov m pl)
   callWith pos f first (backTo pos (starEach [] X.env)) (backToKw pos (keywordEach [] X.env)))) :
  PE y.cx (.Call (.Attribute o m apos) [] [] pos) (fun σ H Q=>ta σ H fun x H1=>∃a dx fs,x=.ref a∧H1 a=some (.ins C dx fs)∧fs.lookup m=none∧sp (x::oY) H1 Q (y.E σ)):=by
 intro p2 s σ H Q I h
 refine methodCall_KW (pl:=pl) (bq (he p2 s σ H _ I h) fun u s1 ⟨x,H1,I1,rx,a,dx,fs,ex,ea,l,q⟩=>?_) ht
 subst ex
 obtain rfl:u=Value.ref a:=rx
 refine qd I1 ea c hm l ?_
 exact PySem.W.callWith_K0 (first:=[.ref a]) I1.oh hm.kp (uH (us:=[.ref a]) (vs:=[.ref a]) F hr hb hd I1 (.cons rfl .nil) q)
theorem D4(M:Mk X.K C f)(F:bG X.prog X.w X.K X.mg X.base (eW X.prog X.w X.mg) k f fd ps sp)(hr:bQ (k+1) X.A)(hb:Binds X.K fd ps ds)(hd:Vals oY ds)
  (I:Inv y.cx p2 σ H s) (r:Vals vs us)
  (h:∀x dx,H x=none→H dx=none→dx≠x→sp (.ref x::(vs++oY)) (upd (upd H dx (.own x)) x (.ins C dx [])) (fun v H2=>v=.aw∧Q (.ref x) H2) (y.E σ)) :
  wpAny (model X.prog X.w) X.A (call (.ref C) us) (EP y.cx p2 σ Q) y.xe s:=by
 have hq:=h (s.heap.objs.size+1) s.heap.objs.size (I.aM.fresh (yO _)) (I.aM.fresh (zm _)) (zx (yE _))
 have I2:=Inv.made (C:=C) I
 have r2:Vals (V.ref (s.heap.objs.size+1)::(vs++oY)) (Value.ref (s.heap.objs.size+1)::(us++ds)):=.cons rfl (r.append hd)
 have hl:(Value.ref (s.heap.objs.size+1)::us++ds).length=ps.length:=by
  have e:=r2.length
  rw[F.len _ _ _ _ hq] at e
  exact e.symm
 refine wpAny_call (Fx (f:=f) I.oh M.makes M.init (beq_iff_eq.mp M.fn) (yM (F.run _ X.stack _ _ ⟨Value.ref (s.heap.objs.size+1)::us,[]⟩ (Value.ref (s.heap.objs.size+1)::(us++ds)) _ _ (y.E σ) (hr.make C us [])
  (I2.Qp.make C us []) (hb _ (Value.ref (s.heap.objs.size+1)::us) I2.oh hl) r2 hq) fun r s' E8=>?_))
 cases r with
 |error e=>exact y.ok.call p2 σ _ _ e s' I2 E8
 |ok fl =>
  cases fl with
  |ret u =>
   obtain⟨v,H',I3,rv,ev,q3⟩:=I2.after E8
   subst ev
   exact⟨rv,⟨V.ref (s.heap.objs.size+1),H',I3,rfl,q3⟩⟩
  |next=>exact False.elim E8
  |brk=>exact False.elim E8
  |cont=>exact False.elim E8
theorem Gn{t:TA}(M:Mk X.K C f)(F:bG X.prog X.w X.K X.mg X.base (eW X.prog X.w X.mg) k f fd ps sp)(hr:bQ (k+1) X.A)(hg:Gl X x)(hm:X.mg x=some (.ref C))(hb:Binds X.K fd ps ds)(hd:Vals oY ds)
  (ha:PA y.cx (e::es) t) (oZ:(x == ("__debug__" : Str))=false) (he:starEach (e::es) X.env=(false,eval e X.env)::starEach es X.env) (dD:(backTo pos (starEach es X.env)).any (·.1)=false) :
  PE y.cx (.Call (.Name x p) (e::es) [] pos) (fun σ H Q=>t σ H fun vs H1=>∀x dx,H1 x=none→H1 dx=none→dx≠x →
   sp (.ref x::(vs++oY)) (upd (upd H1 dx (.own x)) x (.ins C dx [])) (fun v H2=>v=.aw∧Q (.ref x) H2) (y.E σ)):=by
 intro p2 s σ H Q I h
 refine wpAny_Call_Name_kw (pG I hg hm ?_ oZ)
 refine callWith_K (h₀:=X.base) I.ok.mod.O7 M.kp (bq (ha pos p2 s σ H _ I h) fun us s1 ⟨vs,H1,I1,r,q⟩=>⟨I1.oh,?_⟩) he dD
 exact D4 M F hr hb hd I1 r q
end
section
variable{K:Frag}{X:Cx}{k:Nat}{f C:Addr}{fd:FuncData}{ps:List Str}{sp:iL}{wK:List D}{oY:List V}{ds:List Value}{x m:Str}{p pos apos:Pos}{e o:Expr}{es:List Expr}
structure Po(K:Frag)(wK:List D)(oY:List V)(ds:List Value):Prop where
 v:Vals oY ds
 d:∀H,RvAll K H wK oY
theorem d0:Po K [] [] []:=⟨.nil,fun _=>bC⟩
theorem d1:Po K [.aw] [.aw] [.none]:=⟨.cons rfl .nil,fun _=>aS iX bC⟩
def Lz(sp:iL)(wK:List D)(t:iK):TD:=fun σ S R Z=>t σ S (fun ds S1=>sp (ds++wK) S1 R Z) Z
theorem cf{t:iK}(F:bG X.prog X.w K X.mg X.base (eW X.prog X.w X.mg) k f fd ps (pe K sp))(hr:bQ k X.A)(hm:X.mg x=some (.ref f))(hk:keepIn K (.ref f)=true)(hb:Binds K fd ps ds)(hd:Po K wK oY ds)(ha:DA K X (e::es) t)
  (hg:Gl X x:=by rfl) (oZ:(x == ("__debug__" : Str))=false:=by decide) (he:starEach (e::es) X.env=(false,eval e X.env)::starEach es X.env:=by rfl) (dD:(backTo pos (starEach es X.env)).any (·.1)=false:=by rfl) (hK:X.K=K:=by rfl) :
  DE K X (.Call (.Name x p) (e::es) [] pos) (Lz sp wK t):=by
 subst hK
 exact⟨fun y=>(Gk F hr hg hm hk hb hd.v (ha.of y) oZ he dD).mono <| by rintro τ H Q ⟨σ,S,R,Z,aB,hS,q,hR,hZ⟩;exact
  ⟨σ,S,_,Z,aB,hS,q,fun es S1 xs H1 r1 v1 s1 k1=>⟨es++wK,S1,R,Z,v1.app (hd.d _),s1,r1,hR.kp k1,hZ.kp k1⟩,hZ⟩⟩
inductive YI (C:Addr) (m:Str) (x:D) (S:av) (p:Prop):Prop where
 |mk (a:Addr) (fs:List (Str×D)) (e1:x=.ref a) (e2:S a=some (.ins C fs)) (e3:fs.lookup m=none) (r:p):YI C m x S p
def Cd(C:Addr)(m:Str)(sp:iL)(wK:List D)(ta:TD)(t:iK):TD:=fun σ S R Z=>ta σ S (fun x S1=>YI C m x S1 (t σ S1 (fun ds S2=>sp (x::(ds++wK)) S2 R Z) Z)) Z
theorem Wx{t:iK}(he:DE K X o ta)(c:p_ K C)(hm:Meth K C m f)(F:bG X.prog X.w K X.mg X.base (eW X.prog X.w X.mg) k f fd ps (pe K sp))(hr:bQ k X.A)(hb:Binds K fd ps ds)(hd:Po K wK oY ds)(ha:DA K X (e::es) t)
  (we:starEach (e::es) X.env=(false,eval e X.env)::starEach es X.env:=by rfl) (dD:(backTo pos (starEach es X.env)).any (·.1)=false:=by rfl)
  (ht:eval (.Call (.Attribute o m apos) (e::es) [] pos) X.env=(do
   let ov ← eval o X.env
   standAt apos.atName
   let (f,first) ← holding [ov] (getMethod ov m pl)
   callWith pos f first (backTo pos (starEach (e::es) X.env)) (backToKw pos (keywordEach [] X.env))):=by rfl) (hK:X.K=K:=by rfl) :
  DE K X (.Call (.Attribute o m apos) (e::es) [] pos) (Cd C m sp wK ta t):=by
 subst hK
 exact⟨fun y=>(Gm (he.of y) c hm F hr hb hd.v (ha.of y) we dD ht).mono <| by rintro τ H Q ⟨σ,S,R,Z,aB,hS,q,hR,hZ⟩;exact
  ⟨σ,S,_,Z,aB,hS,q,by
   rintro d S1 x H1 ⟨a,fs,e1,e2,e3,r1⟩ v1 s1 k1
   subst e1
   obtain⟨dx,vs,e4,t4⟩:=s1.ins e2
   exact⟨a,dx,vs,v1.ref,e4,(t4.look m).2 e3,σ,S1,_,Z,aB.ts k1,s1,r1,fun es S2 xs H2 r2 v2 s2 k2=>⟨_,S2,R,Z,aS (Rv.ts k2 _ v1) (v2.app (hd.d _)),s2,r2,hR.kp (k1.trans k2),hZ.kp (k1.trans k2)⟩,hZ.kp k1⟩,hZ⟩⟩
theorem Rr(he:DE K X o ta)(c:p_ K C)(hm:Meth K C m f)(F:bG X.prog X.w K X.mg X.base (eW X.prog X.w X.mg) k f fd ps (pe K sp))(hr:bQ k X.A)(hb:Binds K fd ps ds)(hd:Po K wK oY ds)
  (ht:eval (.Call (.Attribute o m apos) [] [] pos) X.env=(do
   let ov ← eval o X.env
   standAt apos.atName
   let (f,first) ← holding [ov] (getMethod ov m pl)
   callWith pos f first (backTo pos (starEach [] X.env)) (backToKw pos (keywordEach [] X.env))):=by rfl) (hK:X.K=K:=by rfl) :
  DE K X (.Call (.Attribute o m apos) [] [] pos) (Cd C m sp wK ta Jy):=by
 subst hK
 exact⟨fun y=>(D3 (he.of y) c hm F hr hb hd.v ht).mono <| by rintro τ H Q ⟨σ,S,R,Z,aB,hS,q,hR,hZ⟩;exact
  ⟨σ,S,_,Z,aB,hS,q,by
   rintro d S1 x H1 ⟨a,fs,e1,e2,e3,r1⟩ v1 s1 k1
   subst e1
   obtain⟨dx,vs,e4,t4⟩:=s1.ins e2
   exact⟨a,dx,vs,v1.ref,e4,(t4.look m).2 e3,_,S1,R,Z,aS v1 (hd.d _),s1,r1,hR.kp k1,hZ.kp k1⟩,hZ⟩⟩
def Ru(C:Addr)(sp:iL)(wK:List D)(t:iK):TD:=fun σ S R Z=>t σ S (fun ds S1=>∀x,S1 x=none→sp (.ref x::(ds++wK)) (S1.set x (.ins C [])) (fun d S2=>d=.aw∧R (.ref x) S2) Z) Z
theorem mk{t:iK}(M:Mk K C f)(F:bG X.prog X.w K X.mg X.base (eW X.prog X.w X.mg) k f fd ps (pe K sp))(hr:bQ (k+1) X.A)(hm:X.mg x=some (.ref C))(hb:Binds K fd ps ds)(hd:Po K wK oY ds)(ha:DA K X (e::es) t)
  (hg:Gl X x:=by rfl) (oZ:(x == ("__debug__" : Str))=false:=by decide) (he:starEach (e::es) X.env=(false,eval e X.env)::starEach es X.env:=by rfl) (dD:(backTo pos (starEach es X.env)).any (·.1)=false:=by rfl) (hK:X.K=K:=by rfl) :
  DE K X (.Call (.Name x p) (e::es) [] pos) (Ru C sp wK t):=by
 subst hK
 exact⟨fun y=>(Gn M F hr hg hm hb hd.v (ha.of y) oZ he dD).mono <| by rintro τ H Q ⟨σ,S,R,Z,aB,hS,q,hR,hZ⟩;exact
  ⟨σ,S,_,Z,aB,hS,q,fun es S1 xs H1 r1 v1 s1 k1 x dx hx YJ ne=>by
   have JC:upd H1 dx (.own x) x=none:=by rw[ax ne.symm];exact hx
   have k2:Kp X.K H1 (upd (upd H1 dx (.own x)) x (.ins C dx [])):=(Kp.new YJ).trans (Kp.new JC)
   exact⟨_,_,_,Z,aS (gU x) (RvAll.ts k2 _ (v1.app (hd.d _))),(s1.grow YJ).new (c:=.ins C []) JC ⟨dx,[],aF,.nil⟩,r1 x (s1.fresh hx),by rintro d S2 v H2 ⟨e,r2⟩ v2 s2 k3;exact by subst e;exact⟨v2.aw,hR _ _ _ _ r2 (gU x) s2 ((k1.trans k2).trans k3)⟩,(hZ.kp k1).kp k2⟩,hZ⟩⟩
inductive YK (C:Addr) (f:Str) (x:D) (S:av) (R:KD):Prop where
 |mk (a:Addr) (fs:List (Str×D)) (d:D) (e1:x=.ref a) (e2:S a=some (.ins C fs)) (e3:fs.lookup f=some d) (r:R d S):YK C f x S R
def Wy(C:Addr)(f:Str)(ta:TD):TD:=fun σ S R Z=>ta σ S (fun x S1=>YK C f x S1 R) Z
theorem fl{f:Str}{ta:TD}(c:p_ K C)(n:iU K C f)(he:DE K X e ta)(hb:attributeBase e f X.env (eval e X.env)=eval e X.env:=by rfl)(hK:X.K=K:=by rfl):DE K X (.Attribute e f pos) (Wy C f ta):=by
 subst hK
 exact⟨fun y=>(MV (X:=y.cx) (he.of y) hb).mono <| by rintro τ H Q ⟨σ,S,R,Z,aB,hS,q,hR,hZ⟩;exact
  ⟨σ,S,_,Z,aB,hS,q,by
   rintro d S1 x H1 ⟨a,fs,y,e1,e2,e3,r1⟩ v1 s1 k1
   subst e1
   obtain⟨dx,vs,e4,t4⟩:=s1.ins e2
   obtain⟨v,e5,r5⟩:=(t4.look f).1 y e3
   exact⟨a,C,dx,vs,v,v1.ref,e4,c,n,e5,(hR.kp k1).now s1 r1 r5⟩,hZ⟩⟩
end
structure tL where
 nx:SD→av→Prop
 rt:KD
 bk:SD→av→Prop:=fun _ _=>False
 ct:SD→av→Prop:=fun _ _=>False
abbrev lY:=tL→SD→av→(SD→KX)→Prop
def LA(K:Frag)(H:Hp)(R:SD→av→Prop)(Q:St→Hp→Prop):Prop:=∀σ S τ H',R σ S→gY K H' σ τ→Rs K S H'→Kp K H H'→Q τ H'
structure T9(K:Frag)(H:Hp)(De:tL)(Dv:Ends):Prop where
 nx:LA K H De.nx Dv.nx
 rt:Cn K H De.rt Dv.rt
 bk:LA K H De.bk Dv.bk
 ct:LA K H De.ct Dv.ct
def wL(K:Frag)(H:Hp)(Z:SD→KX)(E:St→XK):Prop:=∀σ τ C S H',Z σ C S→gY K H' σ τ→Rs K S H'→Kp K H H'→E τ (.ref C) none H'
section
variable{K:Frag}{H H1:Hp}{De:tL}{Dv:Ends}{Z:SD→KX}{E:St→XK}{σ:SD}{τ:St}{S:av}
theorem LA.kp(h:LA K H R Q)(k:Kp K H H1):LA K H1 R Q:=fun σ S τ H' r a b c=>h σ S τ H' r a b (k.trans c)
theorem T9.kp(h:T9 K H De Dv)(k:Kp K H H1):T9 K H1 De Dv:=⟨h.nx.kp k,h.rt.kp k,h.bk.kp k,h.ct.kp k⟩
theorem wL.kp(h:wL K H Z E)(k:Kp K H H1):wL K H1 Z E:=fun σ τ C S H' r a b c=>h σ τ C S H' r a b (k.trans c)
theorem wL.at(h:wL K H Z E)(r:gY K H σ τ):D1 K H (Z σ) (E τ):=fun C S H' z s k=>h σ τ C S H' z (r.ts k) s k
theorem wL.on(h:wL K H Z E)(k:Kp K H H1)(r:gY K H1 σ τ):D1 K H1 (Z σ) (E τ):=(h.kp k).at r
end
def Tl(K:Frag)(E:St→XK)(t:lY):TS:=fun Dv τ H=>∃σ S De Z,gY K H σ τ∧Rs K S H∧t De σ S Z∧T9 K H De Dv∧wL K H Z E
structure DS(K:Frag)(X:Cx)(b:Bool)(st:Stmt)(t:lY):Prop where
 of:∀y:Ev X b,PS y.cx st (Tl K y.E t)
structure E9(K:Frag)(X:Cx)(b:Bool)(st:List Stmt)(t:lY):Prop where
 of:∀y:Ev X b,BN y.cx st (Tl K y.E t)
theorem PS.mono{t t':TS}(h:PS X e t)(i:∀D τ H,t' D τ H→t D τ H):PS X e t':=fun pins s τ H D I q=>h pins s τ H D I (i D τ H q)
theorem BN.mono{t t':TS}(h:BN X e t)(i:∀D τ H,t' D τ H→t D τ H):BN X e t':=fun pins s τ H D I q=>h pins s τ H D I (i D τ H q)
section
variable{K:Frag}{X:Cx}{b:Bool}{pos:Pos}
def Rw:lY:=fun De σ S _=>De.nx σ S
def Wz(t u:lY):lY:=fun De σ S Z=>t { De with nx:=fun aG S'=>u De aG S' Z } σ S Z
theorem s0:E9 K X b [] Rw:=⟨fun y=>(Iz (X:=y.cx)).mono <| by rintro D τ H ⟨σ,S,De,Z,aB,hS,q,hD,hZ⟩;exact hD.nx _ _ _ _ q aB hS (.refl _)⟩
theorem sc{st:Stmt}{r:List Stmt}{t u:lY}(h1:DS K X b st t)(h2:E9 K X b r u):E9 K X b (st::r) (Wz t u) :=
 ⟨fun y=>(Fi (h1.of y) (h2.of y)).mono <| by rintro D τ H ⟨σ,S,De,Z,aB,hS,q,hD,hZ⟩;exact
  ⟨σ,S,_,Z,aB,hS,q,⟨fun vX S1 WA H1 r1 a b c=>⟨vX,S1,De,Z,a,b,r1,hD.kp c,hZ.kp c⟩,hD.rt,hD.bk,hD.ct⟩,hZ⟩⟩
theorem s1{st:Stmt}{t:lY}(h:DS K X b st t):E9 K X b [st] t:=⟨fun y=>IA (h.of y)⟩
def Rx(t:TD):lY:=fun De σ S Z=>t σ S (fun _ S1=>De.nx σ S1) (Z σ)
theorem se{t:TD}(h:DE K X e t)(hs:swapsWith e none pos.line X.env=pure false:=by rfl):DS K X b (.Expr e pos) (Rx t) :=
 ⟨fun y=>(IB (X:=y.cx) (h.of y) hs).mono <| by rintro D τ H ⟨σ,S,De,Z,aB,hS,q,hD,hZ⟩;exact⟨σ,S,_,_,aB,hS,q,fun d S1 v H1 r1 _ s1 k1=>hD.nx _ _ _ _ r1 (aB.ts k1) s1 k1,hZ.at aB⟩⟩
def WB(t:TD):lY:=fun De σ S Z=>t σ S De.rt (Z σ)
theorem sr{t:TD}(h:DE K X e t):DS K X b (.Return (some e) pos) (WB t) :=
 ⟨fun y=>(MB (h.of y)).mono <| by rintro D τ H ⟨σ,S,De,Z,aB,hS,q,hD,hZ⟩;exact⟨σ,S,_,_,aB,hS,q,hD.rt,hZ.at aB⟩⟩
def dIf(c:mY)(t u:lY):lY:=fun De σ S Z=>c σ S (fun b S1=>if b=true then t De σ S1 Z else u De σ S1 Z) (Z σ)
theorem si{t u:lY}(hc:DT K X c tc)(ha:E9 K X b a t)(hb:E9 K X b a' u):DS K X b (.If c a a' pos) (dIf tc t u) :=
 ⟨fun y=>(P8 (hc.of y) (ha.of y) (hb.of y)).mono <| by rintro D τ H ⟨σ,S,De,Z,aB,hS,q,hD,hZ⟩;exact
  ⟨σ,S,_,_,aB,hS,q,fun c S1 H1 r1 s1 k1=>by
   cases c with
   |true=>rw[if_pos rfl] at r1 ⊢;exact⟨σ,S1,De,Z,aB.ts k1,s1,r1,hD.kp k1,hZ.kp k1⟩
   |false=>rw[if_neg zd] at r1 ⊢;exact⟨σ,S1,De,Z,aB.ts k1,s1,r1,hD.kp k1,hZ.kp k1⟩,hZ.at aB⟩⟩
abbrev AD:=D→SD→av→(SD→av→Prop)→Prop
def Tg(K:Frag)(g:AD):TG:=fun v τ H Q=>∃d σ S R,Rv K H d v∧gY K H σ τ∧Rs K S H∧g d σ S R∧LA K H R Q
structure DG(K:Frag)(X:Cx)(e:Expr)(g:AD):Prop where
 of:∀Y:Cx,Y.K=X.K→Y.N=X.N→Y.env=X.env→Y.fn=X.fn→Y.calm=X.calm→PG Y e (Tg K g)
theorem PG.mono{t t':TG}(h:PG X e t)(i:∀v τ H Q,t' v τ H Q→t v τ H Q):PG X e t':=fun pins s τ H v u Q I r q=>h pins s τ H v u Q I r (i v τ H Q q)
def T_(i:Nat):AD:=fun d σ S R=>R (σ.set i (some d)) S
theorem gn(hN:X.N.Nodup)(hi:X.N[i]?=some x:=by rfl)(hx:Loc X.env.scope x:=by first|exact Or.inl rfl|exact Or.inr rfl)(hf:X.fn x=true∨X.env.scope.names.lookup x=some .local:=by first|exact .inl rfl|exact .inr rfl):DG K X (.Name x pos) (T_ i) :=
 ⟨fun Y _ e2 e3 e4 _=>(pH (X:=Y) (by rw[e2];exact hN) (by rw[e2];exact hi) (by rw[e3];exact hx) (by rw[e3,e4];exact hf)).mono <| by rintro v τ H Q ⟨d,σ,S,R,rv,aB,hS,q,hR⟩;exact hR _ S _ H q (aB.set i rv) hS (.refl _)⟩
abbrev D5:=List D→SD→av→(SD→av→Prop)→Prop
def Tgs(K:Frag)(g:D5):K_:=fun vs τ H Q=>∃ds σ S R,RvAll K H ds vs∧gY K H σ τ∧Rs K S H∧g ds σ S R∧LA K H R Q
structure Ua(K:Frag)(X:Cx)(es:List Expr)(g:D5):Prop where
 of:∀Y:Cx,Y.K=X.K→Y.N=X.N→Y.env=X.env→Y.fn=X.fn→Y.calm=X.calm→La Y es (Tgs K g)
theorem La.mono{t t':K_}(h:La X e t)(i:∀v τ H Q,t' v τ H Q→t v τ H Q):La X e t':=fun pins s τ H v u Q I r q=>h pins s τ H v u Q I r (i v τ H Q q)
def LB:D5:=fun ds σ S R=>ds=[]∧R σ S
def AE(g:AD)(u:D5):D5:=fun ds σ S R=>∃d r,ds=d::r∧g d σ S fun vX S1=>u r vX S1 R
theorem g0:Ua K X [] LB:=⟨fun Y _ _ _ _ _=>(BQ (X:=Y)).mono <| by rintro vs τ H Q ⟨ds,σ,S,R,rv,aB,hS,⟨e,q⟩,hR⟩;exact by subst e;exact⟨rv.nil,hR _ _ _ _ q aB hS (.refl _)⟩⟩
theorem gc(h1:DG K X e g)(h2:Ua K X es u)(hs:∀env:Env,(assignEach (e::es) env).map (·.2)=assign e env::(assignEach es env).map (·.2):=by intro _;rfl):Ua K X (e::es) (AE g u) :=
 ⟨fun Y a b c d f=>(pZ (h1.of Y a b c d f) (h2.of Y a b c d f) (hs _)).mono <| by
  rintro vs τ H Q ⟨ds,σ,S,R,rv,aB,hS,⟨d,r,e,q⟩,hR⟩
  subst e
  obtain⟨y,ys,e1,r1,r2⟩:=rv.cons
  exact⟨y,ys,e1,d,σ,S,_,r1,aB,hS,q,fun vX S1 WA H1 q1 a b c=>⟨r,vX,S1,R,RvAll.ts c _ r2,a,b,q1,hR.kp c⟩⟩⟩
def LC(n:Nat)(g:D5):AD:=fun d σ S R=>∃ds,d=.tup ds∧ds.length=n∧g ds σ S R
theorem gt(h:Ua K X es g)(hn:∀env:Env,(assignEach es env).length=n:=by intro _;rfl)(we:∀env:Env,(assignEach es env).findIdx? (·.1)=none:=by intro _;rfl)(hK:X.K=K:=by rfl)(hc:X.calm=true:=by rfl):DG K X (.Tuple es j pos) (LC n g) :=
 ⟨fun Y a b c d f=>(Fj (X:=Y) (by rw[f];exact hc) (h.of Y a b c d f) (hn _) (we _)).mono <| by
  rintro v τ H Q ⟨d,σ,S,R,rv,aB,hS,⟨ds,e,hl,q⟩,hR⟩
  subst e
  obtain⟨p,xs,e1,e2,t⟩:=rv.tup
  exact⟨p,xs,e1,.of e2,by rw[t.len];exact hl,ds,σ,S,R,t,aB,hS,q,hR⟩⟩
def Ry(i:Nat)(t:TD):lY:=fun De σ S Z=>t σ S (fun d S1=>De.nx (σ.set i (some d)) S1) (Z σ)
theorem cn{t:TD}(hN:X.N.Nodup)(h:DE K X e t)(hi:X.N[i]?=some x:=by rfl)(hx:Loc X.env.scope x:=by first|exact Or.inl rfl|exact Or.inr rfl)(hs:swapsWith e (some (.Name x pos')) pos.line X.env=pure false:=by rfl)
  (hf:X.fn x=true∨X.env.scope.names.lookup x=some .local:=by first|exact .inl rfl|exact .inr rfl):DS K X b (.Assign [.Name x pos'] e pos) (Ry i t) :=
 ⟨fun y=>(MF (X:=y.cx) (i:=i) hN hi hx (h.of y) hs hf).mono <| by rintro D τ H ⟨σ,S,De,Z,aB,hS,q,hD,hZ⟩;exact⟨σ,S,_,_,aB,hS,q,fun d S1 v H1 r1 v1 s1 k1=>hD.nx _ _ _ _ r1 ((aB.ts k1).set i v1) s1 k1,hZ.at aB⟩⟩
def WC(t:TD)(g:AD):lY:=fun De σ S Z=>t σ S (fun d S1=>g d σ S1 De.nx) (Z σ)
theorem sa{t:TD}(h:DE K X e t)(hg:DG K X tg g)(hs:swapsWithSole [tg] e pos.line X.env=pure false:=by rfl)(hw:swappedStores [tg] e X.env=pure none:=by rfl)(h1:(assignEach [tg] X.env).map (·.2)=[assign tg X.env]:=by rfl) :
  DS K X b (.Assign [tg] e pos) (WC t g) :=
 ⟨fun y=>(Fl (X:=y.cx) (h.of y) (hg.of _ rfl rfl rfl rfl rfl) hs hw h1).mono <| by rintro D τ H ⟨σ,S,De,Z,aB,hS,q,hD,hZ⟩;exact⟨σ,S,_,_,aB,hS,q,fun d S1 v H1 r1 v1 s1 k1=>⟨d,σ,S1,_,v1,aB.ts k1,s1,r1,hD.nx.kp k1⟩,hZ.at aB⟩⟩
def WD(td ty tv:TD):lY:=fun De σ S Z=>tv σ S (fun v S1=>td σ S1 (fun x S2=>ty σ S2 (fun y S3=>∃a kvs k,x=.ref a∧S3 a=some (.cQ kvs)∧AB y=some k∧kvs.length<sizeLine∧De.nx σ (S3.set a (.cQ (dput kvs k v)))) (Z σ)) (Z σ)) (Z σ)
theorem sd{o i value:Expr}{td ty tv:TD}{pos':Pos}(hu:X.A.units+64<cLine)(ho:DE K X o td)(hi:DE K X i ty)(hv:DE K X value tv)(hs:swapsWith value (some (.Subscript o i pos')) pos.line X.env=pure false:=by rfl):DS K X b (.Assign [.Subscript o i pos'] value pos) (WD td ty tv) :=
 ⟨fun y=>(IW (X:=y.cx) (by show X.A.units+1<cLine;lia) (ho.of y) (hi.of y) (hv.of y) hs).mono <| by rintro D τ H ⟨σ,S,De,Z,aB,hS,q,hD,hZ⟩;exact
  ⟨σ,S,_,_,aB,hS,q,fun v S1 vv H1 r1 v1 s1 k1=>⟨σ,S1,_,_,aB.ts k1,s1,r1,fun x S2 xv H2 r2 v2 s2 k2=>⟨σ,S2,_,_,aB.ts (k1.trans k2),s2,r2,by
   rintro y S3 yv H3 ⟨a,kvs,k,e1,e2,e3,hl,r3⟩ v3 s3 k3
   subst e1
   obtain⟨vs,e4,t⟩:=s3.cQ e2
   have kk:=s3.gX (o:=.dK (putK vs k vv)) e2
   refine⟨a,_,(Rv.ts k3 _ v2).ref,by rw[nu e3 v3];exact FG.k e4 (by rw[t.len];exact hl),?_⟩
   exact hD.nx _ _ _ _ r3 (aB.ts (((k1.trans k2).trans k3).trans kk)) (s3.put (c:=.cQ _) e2 ⟨_,aF,(t.put k (Rv.ts (k2.trans k3) _ v1)).ts kk⟩) (((k1.trans k2).trans k3).trans kk),hZ.on (k1.trans k2) (aB.ts (k1.trans k2))⟩,hZ.on k1 (aB.ts k1)⟩,hZ.at aB⟩⟩
end
section
variable{X:Cx}{pins:List (Addr×Obj)}{σ:St}{H:Hp}{s:Shared}{A:Around}{E:Value→Shared→Prop}{a:Addr}{kvs:List (Key×V)}{k:Key}{u:Value}
theorem NN(I:Inv X pins σ H s)(e:H a=some (.dK kvs))(ry:RelV (kV k) u)(rz:RelV z r)(hl:kvs.length<sizeLine)
  (h1:∀v w' s',fE kvs k=some v→Inv X pins σ H s'→RelV v w'→Q w' s') (h2:fE kvs k=none→∀s',Inv X pins σ (upd H a (.dK (putK kvs k z))) s'→Q r s') :
  wpAny (model X.prog X.w) A (call (.builtin "dict.setdefault") [.ref a,u,r]) Q E s:=by
 obtain⟨zz,hd,vs,rel,dd⟩:=B0 I.aM e
 have hp:=oo kvs k z
 refine call_meetsIn PySem.F.slot_dict_setdefault dd.typeIs PySem.F.entry_dict_setdefault (PySem.F.args_dict_setdefault_3 _ _ _) (PySem.kt_meets_setdefault (aH X.prog X.w) a (j_ ry) hd r)
  ⟨vs,dd,by rw[← rel.length];exact zz,fun w' hw=>?_,fun hn h' Lj hs=>?_⟩
 ·cases q:fE kvs k with
  |none =>
   have:=fC.none_of (o:=valueAt vs k) (by rw[← q];exact rel.val k)
   rw[this] at hw;cases hw
  |some v =>
   obtain⟨w2,pL,YL⟩:=fC.some_of (v:=v) (o:=valueAt vs k) (by rw[← q];exact rel.val k)
   rw[pL] at hw;cases hw
   exact h1 v _ _ q (I.tok _) YL
 ·cases q:fE kvs k with
  |some v =>
   obtain⟨w2,pL,YL⟩:=fC.some_of (v:=v) (o:=valueAt vs k) (by rw[← q];exact rel.val k)
   rw[pL] at hn;cases hn
  |none =>
   have he:∃q,h'.get? a=some q:=by obtain⟨q,_,_,hq,_⟩:=Lj;exact⟨q,hq⟩
   exact h2 q _ (ux I (by rw[e];exact True.intro) hs he (z_ (by lia) hd (rel.put k rz) Lj))
end
section
variable{X:Cx}{o e f:Expr}{apos aP:Pos}{td ty tx:TE}
def Rz(td ty tx:TE):TE:=fun σ H Q=>td σ H fun x H1=>∃a,x=.ref a∧Pb H1 a∧ty σ H1 fun y H2=>tx σ H2 fun z H3=>∃kvs k,H3 a=some (.dK kvs)∧y=kV k∧kvs.length<sizeLine ∧
 (∀v,fE kvs k=some v→Q v H3)∧(fE kvs k=none→Q z (upd H3 a (.dK (putK kvs k z))))
theorem Gq(ho:PE X o td)(he:PE X e ty)(hf:PE X f tx)(m:M2 X o "setdefault" apos e f aP):PE X (.Call (.Attribute o "setdefault" apos) [e,f] [] aP) (Rz td ty tx):=by
 intro pins s σ H Q I h
 refine wpAny_Call_method m.base m.E1 m.line PySem.F.plainAttrs_dict PySem.F.slot_dict_setdefault PySem.F.type_dict_setdefault (bq (ho pins s σ H _ I h) fun u s1 ⟨x,H1,I1,rx,a,ex,d,q1⟩=>?_)
 subst ex
 obtain rfl:u=Value.ref a:=rx
 obtain⟨t1,t2,_⟩:=uy I1 d
 refine⟨t1,t2,?_⟩
 rw[m.trees]
 refine Calls.callWith_builtin rfl (Calls.evalArgs_plain (yy (bq (he pins s1 σ H1 _ I1 q1) fun iv s2 ⟨y,H2,I2,ry,q2⟩ =>
  yy (bq (hf pins s2 σ H2 _ I2 q2) fun fv s3 ⟨z,H3,I3,rz,kvs,k,ea,ey,hl,q3,q4⟩=>Calls.spliced_nil ?_))))
 subst ey
 exact NN I3 ea ry rz hl (fun v w' s4 l I4 rX=>⟨v,H3,I4,rX,q3 v l⟩) fun l s4 I4=>⟨z,_,I4,rz,q4 l⟩
end
section
variable{K:Frag}{X:Cx}{b:Bool}{o e f:Expr}{apos aP pos:Pos}{td ty tx:TD}
theorem uI(hS:Rs K S H)(e:S a=some (.cQ kvs)):Pb H a:=by
 obtain⟨vs,e1,_⟩:=hS.cQ e
 exact .inl ⟨vs,.inl e1⟩
def RA(td ty:TD):TD:=fun σ S R Z=>td σ S (fun x S1=>∃a kvs,x=.ref a∧S1 a=some (.cQ kvs)∧ty σ S1 (fun y S2=>∃kvs k,S2 a=some (.cQ kvs)∧AB y=some k∧R ((bT kvs k).getD .aw) S2) Z) Z
theorem Gr(hS:Rs K S H)(e:S a=some (.cQ kvs))(r:Rv K H d v):∃o,o_ H a (kV k) o∧Rv K H ((bT kvs k).getD d) (o.getD v):=by
 obtain⟨o,g,h1,h2⟩:=uG (k:=k) hS e
 refine⟨o,g,?_⟩
 cases q:bT kvs k with
 |none =>
  rw[q] at h1
  cases o with
  |none=>exact r
  |some _=>cases h1
 |some d' =>
  obtain⟨v',rfl,r'⟩:=h2 d' q
  exact r'
theorem mg1(hu:X.A.units+64<cLine)(ho:DE K X o td)(he:DE K X e ty)(m:M1 X o "get" apos e aP:=by exact⟨rfl,rfl,rfl,rfl⟩):DE K X (.Call (.Attribute o "get" apos) [e] [] aP) (RA td ty) :=
 ⟨fun y=>(FJ (X:=y.cx) (by show X.A.units+1<cLine;lia) (ho.of y) (he.of y) ⟨m.base,m.E1,m.line,m.trees⟩).mono <| by rintro τ H Q ⟨σ,S,R,Z,aB,hS,q,hR,hZ⟩;exact
  ⟨σ,S,_,Z,aB,hS,q,by
   rintro x S1 xv H1 ⟨a,kvs,e1,e2,r1⟩ v1 s1 k1
   subst e1
   exact⟨a,v1.ref,uI s1 e2,σ,S1,_,Z,aB.ts k1,s1,r1,by
    rintro y S2 yv H2 ⟨kvs,k,e3,e4,r2⟩ v2 s2 k2
    obtain⟨o,g,r⟩:=Gr (k:=k) s2 e3 iX
    exact⟨o,by rw[nu e4 v2];exact g,(hR.kp (k1.trans k2)).now s2 r2 r⟩,hZ.kp k1⟩,hZ⟩⟩
def RB(td ty tx:TD):TD:=fun σ S R Z=>td σ S (fun x S1=>∃a kvs,x=.ref a∧S1 a=some (.cQ kvs)∧ty σ S1 (fun y S2=>tx σ S2 (fun z S3=>∃kvs k,S3 a=some (.cQ kvs)∧AB y=some k∧R ((bT kvs k).getD z) S3) Z) Z) Z
theorem mg2(hu:X.A.units+64<cLine)(ho:DE K X o td)(he:DE K X e ty)(hf:DE K X f tx)(m:M2 X o "get" apos e f aP:=by exact⟨rfl,rfl,rfl,rfl⟩):DE K X (.Call (.Attribute o "get" apos) [e,f] [] aP) (RB td ty tx) :=
 ⟨fun y=>(FK (X:=y.cx) (by show X.A.units+1<cLine;lia) (ho.of y) (he.of y) (hf.of y) ⟨m.base,m.E1,m.line,m.trees⟩).mono <| by rintro τ H Q ⟨σ,S,R,Z,aB,hS,q,hR,hZ⟩;exact
  ⟨σ,S,_,Z,aB,hS,q,by
   rintro x S1 xv H1 ⟨a,kvs,e1,e2,r1⟩ v1 s1 k1
   subst e1
   exact⟨a,v1.ref,uI s1 e2,σ,S1,_,Z,aB.ts k1,s1,r1,fun y S2 yv H2 r2 v2 s2 k2=>⟨σ,S2,_,Z,aB.ts (k1.trans k2),s2,r2,by
    rintro z S3 zv H3 ⟨kvs,k,e3,e4,r3⟩ v3 s3 k3
    obtain⟨o,g,r⟩:=Gr (k:=k) s3 e3 v3
    exact⟨o,by rw[nu e4 v2];exact g,(hR.kp ((k1.trans k2).trans k3)).now s3 r3 r⟩,hZ.kp (k1.trans k2)⟩,hZ.kp k1⟩,hZ⟩⟩
def RC(td ty:TD):TD:=fun σ S R Z=>td σ S (fun x S1=>∃a kvs,x=.ref a∧S1 a=some (.cQ kvs)∧ty σ S1 (fun y S2=>∃kvs k d,S2 a=some (.cQ kvs)∧AB y=some k∧bT kvs k=some d∧R d (S2.set a (.cQ (wJ kvs k)))) Z) Z
theorem mp1(ho:DE K X o td)(he:DE K X e ty)(m:M1 X o "pop" apos e aP:=by exact⟨rfl,rfl,rfl,rfl⟩):DE K X (.Call (.Attribute o "pop" apos) [e] [] aP) (RC td ty) :=
 ⟨fun y=>(FL (X:=y.cx) (ho.of y) (he.of y) ⟨m.base,m.E1,m.line,m.trees⟩).mono <| by rintro τ H Q ⟨σ,S,R,Z,aB,hS,q,hR,hZ⟩;exact
  ⟨σ,S,_,Z,aB,hS,q,by
   rintro x S1 xv H1 ⟨a,kvs,e1,e2,r1⟩ v1 s1 k1
   subst e1
   exact⟨a,v1.ref,uI s1 e2,σ,S1,_,Z,aB.ts k1,s1,r1,by
    rintro y S2 yv H2 ⟨kvs,k,d,e3,e4,e5,r2⟩ v2 s2 k2
    obtain⟨vs,e6,t⟩:=s2.cQ e3
    obtain⟨v,e7,r7⟩:=(t.val k).1 d e5
    have kk:=s2.gX (o:=.dK (om vs k)) e3
    exact⟨vs,k,v,e6,nu e4 v2,e7,hR _ _ _ _ r2 (Rv.ts kk _ r7) (s2.put (c:=.cQ _) e3 ⟨_,aF,(t.drop k).ts kk⟩) ((k1.trans k2).trans kk)⟩,hZ.kp k1⟩,hZ⟩⟩
def RD(td ty tx:TD):TD:=fun σ S R Z=>td σ S (fun x S1=>∃a kvs,x=.ref a∧S1 a=some (.cQ kvs)∧ty σ S1 (fun y S2=>tx σ S2 (fun z S3=>∃kvs k,S3 a=some (.cQ kvs)∧AB y=some k∧kvs.length<sizeLine ∧
 (∀d,bT kvs k=some d→R d S3)∧(bT kvs k=none→R z (S3.set a (.cQ (dput kvs k z))))) Z) Z) Z
theorem ms2(ho:DE K X o td)(he:DE K X e ty)(hf:DE K X f tx)(m:M2 X o "setdefault" apos e f aP:=by exact⟨rfl,rfl,rfl,rfl⟩):DE K X (.Call (.Attribute o "setdefault" apos) [e,f] [] aP) (RD td ty tx) :=
 ⟨fun y=>(Gq (X:=y.cx) (ho.of y) (he.of y) (hf.of y) ⟨m.base,m.E1,m.line,m.trees⟩).mono <| by rintro τ H Q ⟨σ,S,R,Z,aB,hS,q,hR,hZ⟩;exact
  ⟨σ,S,_,Z,aB,hS,q,by
   rintro x S1 xv H1 ⟨a,kvs,e1,e2,r1⟩ v1 s1 k1
   subst e1
   exact⟨a,v1.ref,uI s1 e2,σ,S1,_,Z,aB.ts k1,s1,r1,fun y S2 yv H2 r2 v2 s2 k2=>⟨σ,S2,_,Z,aB.ts (k1.trans k2),s2,r2,by
    rintro z S3 zv H3 ⟨kvs,k,e3,e4,hl,r3,r4⟩ v3 s3 k3
    obtain⟨vs,e6,t⟩:=s3.cQ e3
    have kk:=s3.gX (o:=.dK (putK vs k zv)) e3
    have YM:=hR.kp ((k1.trans k2).trans k3)
    refine⟨vs,k,e6,nu e4 (Rv.ts k3 _ v2),by rw[t.len];exact hl,fun v hv=>?_,fun hn=>?_⟩
    ·cases q:bT kvs k with
     |none=>rw[(t.val k).2 q] at hv;cases hv
     |some d =>
      obtain⟨v',e7,r7⟩:=(t.val k).1 d q
      rw[e7] at hv;cases hv
      exact YM.now s3 (r3 d q) r7
    ·cases q:bT kvs k with
     |some d=>obtain⟨v',e7,r7⟩:=(t.val k).1 d q;rw[e7] at hn;cases hn
     |none=>exact YM _ _ _ _ (r4 q) (Rv.ts kk _ v3) (s3.put (c:=.cQ _) e3 ⟨_,aF,(t.put k v3).ts kk⟩) kk,hZ.kp (k1.trans k2)⟩,hZ.kp k1⟩,hZ⟩⟩
def AF(f:Str)(d:D):List (Str×D)→List (Str×D)
 |[]=>[(f,d)]
 | (g,x)::r=>if g=f then (g,d)::r else (g,x)::AF f d r
theorem bR.AF{H:Hp}{f:Str}{d:D}{v:V}(rd:Rv K H d v):∀{ks:List (Str×D)}{vs:List (Str×V)},bR K H ks vs→bR K H (AF f d ks) (putF f v vs)
 |_,_,.nil=>.cons ⟨rfl,rd⟩ .nil
 | (g,x)::r,(g',y)::r',.cons h t=>by
  obtain⟨e,h⟩:=h
  dsimp only at e
  subst e
  show bR K H (if g=f then (g,d)::r else (g,x)::L2.AF f d r) (if g=f then (g,v)::r' else (g,y)::putF f v r')
  by_cases q:g=f
  ·rw[if_pos q,if_pos q];exact .cons ⟨rfl,rd⟩ t
  ·rw[if_neg q,if_neg q];exact .cons ⟨rfl,h⟩ (bR.AF rd t)
def RE(C:Addr)(f:Str)(ta tv:TD):lY:=fun De σ S Z=>tv σ S (fun y S1=>ta σ S1 (fun x S2=>∃a fs,x=.ref a∧S2 a=some (.ins C fs)∧fs.length<1000∧De.nx σ (S2.set a (.ins C (AF f y fs)))) (Z σ)) (Z σ)
theorem sf{C:Addr}{f:Str}{value:Expr}{ta tv:TD}{pos':Pos}(c:p_ K C)(n:iU K C f)(ha:DE K X o ta)(hv:DE K X value tv)(hs:swapsWith value (some (.Attribute o f pos')) pos.line X.env=pure false:=by rfl)(hK:X.K=K:=by rfl) :
  DS K X b (.Assign [.Attribute o f pos'] value pos) (RE C f ta tv):=by
 subst hK
 exact⟨fun y=>(MW (X:=y.cx) (ha.of y) (hv.of y) hs).mono <| by rintro D τ H ⟨σ,S,De,Z,aB,hS,q,hD,hZ⟩;exact
  ⟨σ,S,_,_,aB,hS,q,fun y S1 yv H1 r1 v1 s1 k1=>⟨σ,S1,_,_,aB.ts k1,s1,r1,by
   rintro x S2 xv H2 ⟨a,fs,e1,e2,hl,r2⟩ v2 s2 k2
   subst e1
   obtain⟨dx,vs,e4,t4⟩:=s2.ins e2
   have kk:=s2.gX (o:=.ins C dx (putF f yv vs)) e2
   exact⟨a,C,dx,vs,v2.ref,e4,c,n,by rw[t4.len];exact hl,hD.nx _ _ _ _ r2 (aB.ts ((k1.trans k2).trans kk)) (s2.put (c:=.ins C _) e2 ⟨dx,_,aF,(bR.AF (Rv.ts k2 _ v1) t4).ts kk⟩) ((k1.trans k2).trans kk)⟩,hZ.on k1 (aB.ts k1)⟩,hZ.at aB⟩⟩
def NO(C:Addr)(t:iK):lY:=fun _ σ S Z=>t σ S (fun ds S1=>ds.length≤sizeLine∧Z σ C S1) (Z σ)
end
section
variable{K:Frag}{X:Cx}{C:Addr}{x:Str}{e:Expr}{es:List Expr}{np aP pos:Pos}
theorem D6{t:TA}{y:Ev X true}(hc:X.calm=true)(c:XC X.K C)(hg:Gl X x)(hm:X.mg x=some (.ref C))(ha:PA y.cx (e::es) t)(oZ:(x == ("__debug__" : Str))=false)
  (he:starEach (e::es) X.env=(false,eval e X.env)::starEach es X.env) (dD:(backTo aP (starEach es X.env)).any (·.1)=false) :
  PS y.cx (.Raise (some (.Call (.Name x np) (e::es) [] aP)) none pos) (fun _ σ H=>t σ H fun vs H1=>vs.length≤sizeLine∧y.E σ (.ref C) none H1):=by
 intro pins s σ H D I h
 obtain⟨bm,N,nm,q,bs,hdct,sn,sub,ab,col,dd,k0,k1,k2,k3,k5,mN,hC,hN,TZ,T⟩:=c.at I.mod.O7
 have lR:bm.contains (.type "BaseException")=true:=T.hasType (by decide)
 refine wpAny_Raise_call_subT (C:=C) (nm:=nm) (q:=q) (N:=N) (bs:=bs) (bm:=bm) (hdct:=hdct) (sn:=sn) (sub:=sub) (ab:=ab) (col:=col) (dd:=dd) (k0:=k0) (k1:=k1) (k2:=k2) (k3:=k3) (k5:=k5) PySem.F.excBase_ValueError (mN:=mN)
  lR (I.ok.hd hc) (by show ((backTo aP (starEach (e::es) X.env)).any (·.1))=false;rw[he];show (false || (backTo aP (starEach es X.env)).any (·.1))=false;rw[dD];rfl) TZ (pG I hg hm ⟨rfl,?_⟩ oZ)
 have h1:=ha aP pins s σ H _ I h
 have WE:starEach (e::es) y.cx.env=(false,eval e X.env)::starEach es X.env:=he
 rw[WE] at h1 ⊢
 exact Calls.evalArgs_plain (bq h1 <| by rintro us s2 ⟨vs,H2,I2,r,z,q2⟩;exact⟨rfl,by show us.length≤sizeLine;rw[← r.length];exact z,I2.bk _ _ hC,hN.keeps I2.bk,T.keeps I2.bk,fun h' a hx=>y.ok.own rfl pins σ H2 s2 h' a _ _ I2 hx q2⟩)
theorem qy{t:iK}(c:XC K C)(hm:X.mg x=some (.ref C))(ha:DA K X (e::es) t)(hg:Gl X x:=by rfl)(oZ:(x == ("__debug__" : Str))=false:=by decide)
  (he:starEach (e::es) X.env=(false,eval e X.env)::starEach es X.env:=by rfl) (dD:(backTo aP (starEach es X.env)).any (·.1)=false:=by rfl) (hc:X.calm=true:=by rfl) (hK:X.K=K:=by rfl) :
  DS K X true (.Raise (some (.Call (.Name x np) (e::es) [] aP)) none pos) (NO C t):=by
 subst hK
 exact⟨fun y=>(D6 (y:=y) hc c hg hm (ha.of y) oZ he dD).mono fun D τ H ⟨σ,S,De,Z,aB,hS,q,hD,hZ⟩ =>
  ⟨σ,S,_,_,aB,hS,q,fun ds S1 vs H1 ⟨hl,r1⟩ v1 s1 k1=>⟨by rw[v1.len];exact hl,hZ.at aB C S1 H1 r1 s1 k1⟩,hZ.at aB⟩⟩
end
structure E_ where
 xs:List D
 ok:av→Prop
def RF(K:Frag)(H0:Hp)(J:It)(I:E_):Prop:=∀i S H,Kp K H0 H→Rs K S H→I.ok S→(∀d,I.xs[i]?=some d→J.go i H∧∀x H',J.P_ i H x H'→Rv K H' d x∧Kp K H H'∧Rs K S H')∧(I.xs.length≤i→J.stop i H)
abbrev AG:=SD→av→(E_→av→Prop)→KX→Prop
def Ti(K:Frag)(E:St→XK)(t:AG):TI:=fun τ H R=>∃σ S RI Z,gY K H σ τ∧Rs K S H∧t σ S RI Z∧(∀I S' J H',RI I S'→RF K H' J I→Rs K S' H'→Kp K H H'→R J H')∧D1 K H Z (E τ)
structure DI(K:Frag)(X:Cx)(tg it:Expr)(t:AG):Prop where
 of:∀{b:Bool} (y:Ev X b),PI y.cx tg it (Ti K y.E t)
theorem PI.mono{t t':TI}(h:PI X tg it t)(i:∀τ H R,t' τ H R→t τ H R):PI X tg it t':=fun pins s τ H R I q=>h pins s τ H R I (i τ H R q)
section
variable{K:Frag}{X:Cx}{tg l:Expr}
def WG(t:TD):AG:=fun σ S R Z=>t σ S (fun x S1=>∃ds,xZ S1 x ds∧R ⟨ds,fun S=>xZ S x ds⟩ S1) Z
theorem il{t:TD}(h:DE K X l t)(hK:X.K=K:=by rfl):DI K X tg l (WG t):=by
 subst hK
 exact⟨fun y=>(IE (X:=y.cx) (h.of y)).mono <| by rintro τ H R ⟨σ,S,RI,Z,aB,hS,q,hR,hZ⟩;exact⟨σ,S,_,Z,aB,hS,q,by
  rintro x S1 v H1 ⟨ds,h1,r1⟩ v1 s1 k1
  obtain⟨a,xs,rfl,hq,t⟩:=h1.at s1 v1
  refine⟨a,rfl,⟨xs,hq⟩,hR _ S1 _ H1 r1 (fun i S2 H2 k2 s2 Ub=>?_) s1 k1⟩
  obtain⟨a',NP,e',E8,t'⟩:=xZ.at Ub s2 (Rv.ts k2 _ v1)
  cases e'
  refine⟨fun d hd=>?_,fun hl=>⟨NP,E8,by rw[t'.len];exact hl⟩⟩
  obtain⟨v,e1,r⟩:=t'.get hd
  refine⟨⟨NP,v,E8,e1⟩,fun x' H' ⟨e2,e3⟩=>?_⟩
  subst e2
  have:=e3 NP E8
  rw[e1] at this;cases this
  exact⟨r,.refl _,s2⟩,hZ⟩⟩
def RG(t:TD):AG:=fun σ S R Z=>t σ S (fun x S1=>∃ds,(x=.tup ds∨x=.kt ds)∧R ⟨ds,fun _=>True⟩ S1) Z
theorem NQ{H:Hp}{x:D}{ds:List D}{v:V}(h:x=.tup ds∨x=.kt ds)(r:Rv K H x v):∃a xs,v=.ref a∧(∀H',Kp K H H'→iH K H' a xs)∧RvAll K H ds xs:=by
 rcases h with rfl|rfl
 ·obtain⟨a,xs,rfl,q,t⟩:=r.tup
  exact⟨a,xs,rfl,fun H' k=>.of (k.t _ _ q),t⟩
 ·obtain⟨a,xs,rfl,q,t⟩:=r.kt
  exact⟨a,xs,rfl,fun H' k=>.inr q,t⟩
theorem Fc{t:TD}(h:DE K X l t)(hK:X.K=K:=by rfl):DI K X tg l (RG t):=by
 subst hK
 exact⟨fun y=>(MJ (X:=y.cx) (h.of y)).mono <| by rintro τ H R ⟨σ,S,RI,Z,aB,hS,q,hR,hZ⟩;exact⟨σ,S,_,Z,aB,hS,q,by
  rintro x S1 v H1 ⟨ds,h1,r1⟩ v1 s1 k1
  obtain⟨a,xs,rfl,hq,t⟩:=NQ h1 v1
  refine⟨a,rfl,⟨xs,hq _ (.refl _)⟩,hR _ S1 _ H1 r1 (fun i S2 H2 k2 s2 _=>?_) s1 k1⟩
  have LD:=hq H2 k2
  refine⟨fun d hd=>?_,fun hl=>⟨xs,LD,by rw[t.len];exact hl⟩⟩
  obtain⟨v,e1,r⟩:=(RvAll.ts k2 _ t).get hd
  refine⟨⟨xs,v,LD,e1⟩,fun x' H' ⟨e2,e3⟩=>?_⟩
  subst e2
  have:=e3 xs LD
  rw[e1] at this;cases this
  exact⟨r,.refl _,s2⟩,hZ⟩⟩
def D9(lo:Int)(n:Nat):List D:=(List.range n).map fun i=>D.int (lo+(i:Nat))
theorem dh{lo:Int}{n:Nat} : (D9 lo n).length=n:=by unfold D9;rw[zb,List.length_range]
theorem i5{lo:Int}{n i:Nat}{d:D}(h:(D9 lo n)[i]?=some d):i<n∧d=.int (lo+i):=by
 unfold D9 at h
 rw[zp] at h
 by_cases q:i<n
 ·rw[List.getElem?_range q] at h;exact⟨q,(zM h).symm⟩
 ·rw[List.getElem?_eq_none (by rw[List.length_range];omega)] at h;cases h
theorem NR{H0:Hp}{lo:Int}{n:Nat} : RF K H0 (TL lo n) ⟨D9 lo n,fun _=>True⟩:=fun i S H k s _=>⟨fun d hd=>by
 obtain⟨h1,rfl⟩:=i5 hd
 exact⟨h1,by rintro x H' ⟨e1,e2⟩;exact by subst e1 e2;exact⟨aL _,.refl _,s⟩⟩,fun hl=>by rw[dh] at hl;exact hl⟩
def WH(t:iK):AG:=fun σ S R Z=>t σ S (fun ds S1=>∃j:Int,ds=[.int j]∧-(2 ^ 62)≤j∧j<2 ^ 62∧R ⟨D9 0 j.toNat,fun _=>True⟩ S1) Z
theorem Pp{t:iK}(hm:X.mg "range" = none)(ha:DA K X [a] t)(hg:Gl X "range" := by rfl)(hs:starEach [a] X.env=[(false,eval a X.env)]:=by rfl):DI K X tg (.Call (.Name "range" p) [a] [] pos) (WH t) :=
 ⟨fun y=>(Dj (X:=y.cx) hg hm (ha.of y) hs).mono <| by rintro τ H R ⟨σ,S,RI,Z,aB,hS,q,hR,hZ⟩;exact⟨σ,S,_,Z,aB,hS,q,by
  rintro ds S1 vs H1 ⟨j,e,h1,h2,r1⟩ v1 s1 k1
  subst e
  obtain⟨v,rfl,r⟩:=v1.one
  exact⟨j,by rw[r.int],h1,h2,hR _ S1 _ H1 r1 NR s1 k1⟩,hZ⟩⟩
end
section
variable{K:Frag}{X:Cx}{tg iter:Expr}{pos:Pos}
def WI(ti:AG)(g:AD)(tb:lY):lY:=fun De σ S Z=>ti σ S (fun I S1=>∃P:Nat→SD→av→Prop,P 0 σ S1∧(∀i σ S,P i σ S→I.ok S) ∧
 (∀i d σ S,I.xs[i]?=some d→P i σ S→g d σ S fun pI S2=>tb { De with nx:=P (i+1),ct:=P (i+1),bk:=De.nx } pI S2 Z)∧∀σ S,P I.xs.length σ S→De.nx σ S) (Z σ)
theorem Gs(hi:DI K X tg iter ti)(hg:DG K X tg g)(hb:E9 K X true body tb)(hs:∀x,foldedSetIterable iter X.env x=pure x:=by intro _;rfl)(hc:X.calm=true:=by rfl):DS K X true (.For tg iter body [] pos) (WI ti g tb) :=
 ⟨fun y=>(MK (X:=y.cx) (y.ok.loop rfl) hc (hi.of y) (hg.of _ rfl rfl rfl rfl rfl) (hb.of y) hs).mono <| by rintro D τ H ⟨σ,S,De,Z,aB,hS,q,hD,hZ⟩;exact
  ⟨σ,S,_,_,aB,hS,q,by
   rintro I S1 J H1 ⟨P,p0,WJ,WK,pend⟩ hJ s1 k1
   refine⟨fun i m τ H=>m=I.xs.length - i∧i≤I.xs.length∧∃σ S,gY K H σ τ∧Rs K S H∧P i σ S∧Kp K H1 H,!⟨zS _,σ,S1,aB.ts k1,s1,p0,.refl _⟩,?_⟩
   rintro i m τ2 H2 ⟨rfl,RH,pI,S2,a2,s2,p2,k2⟩
   have ok:=hJ i S2 H2 k2 s2 (WJ _ _ _ p2)
   by_cases eE:i<I.xs.length
   ·obtain⟨go,yl⟩:=ok.1 _ (zf eE)
    refine .inr ⟨go,fun Pl H'=>i+1≤I.xs.length∧∃σ S,gY K H' σ Pl∧Rs K S H'∧P (i+1) σ S∧Kp K H1 H',fun aG H' h'=>⟨_,by omega,rfl,h'⟩,fun x H' hy=>?_⟩
    obtain⟨rx,k3,s3⟩:=yl x H' hy
    refine⟨_,pI,S2,_,rx,a2.ts k3,s3,WK i _ pI S2 (zf eE) p2,fun Uc S4 τ4 H4 r4 a4 s4 k4=>?_⟩
    have kk:=(k2.trans k3).trans k4
    exact⟨Uc,S4,_,Z,a4,s4,r4,⟨fun NS S5 WL H5 r5 a5 s5 k5=>⟨eE,NS,S5,a5,s5,r5,kk.trans k5⟩,hD.rt.kp (k1.trans kk),(hD.nx.kp (k1.trans kk)),fun NS S5 WL H5 r5 a5 s5 k5=>⟨eE,NS,S5,a5,s5,r5,kk.trans k5⟩⟩,hZ.kp (k1.trans kk)⟩
   ·have e:i=I.xs.length:=by omega
    subst e
    exact .inl ⟨ok.2 (zm _),hD.nx _ _ _ _ (pend _ _ p2) a2 s2 (k1.trans k2)⟩,hZ.at aB⟩⟩
end
def ou(σ:SD)(src:List (Option Nat)):SD:=src.map fun o=>match o with|some j=>(σ[j]?).join|none=>none
theorem gY.pick{K:Frag}{H:Hp}{σ:SD}{τ:St}(h:gY K H σ τ):∀src:List (Option Nat),gY K H (ou σ src) (pick τ src)
 |[]=>.nil
 |o::r=>.cons (fun d e=>by
  cases o with
  |none=>cases e
  |some j =>
   dsimp only at e ⊢
   cases q:σ[j]? with
   |none=>rw[q] at e;cases e
   |some o' =>
    rw[q] at e
    obtain rfl:o'=some d:=e
    obtain⟨v,e1,r1⟩:=h.get q
    exact⟨v,by rw[e1];rfl,r1⟩) (gY.pick h r)
def Zf:KX:=fun _ _=>False
def Cf(σ:SD)(src:List (Option Nat))(g:AD)(tc:mY)(te:TD)(R:KD)(I:E_)(S1:av):Prop:=∃P:Nat→List D→av→Prop,P 0 [] S1∧(∀i out S,P i out S→I.ok S) ∧
 (∀i d out S,I.xs[i]?=some d→P i out S→out.length<sizeLine∧g d (ou σ src) S fun iI S3=>tc iI S3 (fun b S4=>if b=true then te iI S4 (fun v S5=>P (i+1) (out++[v]) S5) Zf else P (i+1) out S4) Zf) ∧
 ∀out S2,P I.xs.length out S2→∀p,S2 p=none→R (.ref p) (S2.set p (.lst out))
def Cg(ti:AG)(src:List (Option Nat))(g:AD)(tc:mY)(te:TD):TD:=fun σ S R Z=>ti σ S (fun I S1=>Cf σ src g tc te R I S1) Z
theorem D1.f{K:Frag}{H:Hp}{e:XK} : D1 K H Zf e:=fun _ _ _ z=>z.elim
theorem T.comp{K:Frag}{E E':St→XK}{ti:AG}{src:List (Option Nat)}{g:TG}{gd:AD}{tc:mY}{te:TD}{τ:St}{H:Hp}{Q:VK}(hg:∀v τ H Q,Tg K gd v τ H Q→g v τ H Q)
  (h:T K E (Cg ti src gd tc te) τ H Q):FP (Ti K E ti) src g (Tt K E' tc) (T K E' te) τ H Q:=by
 obtain⟨σ,S,R,Z,aB,hS,q,hR,hZ⟩:=h
 refine⟨σ,S,_,Z,aB,hS,q,fun I S1 J H1 ⟨P,p0,WJ,WK,pend⟩ hJ s1 k1=>?_,hZ⟩
 refine⟨fun i m out H=>m=I.xs.length - i∧i≤I.xs.length∧∃ds S,RvAll K H ds out∧Rs K S H∧P i ds S∧Kp K H1 H,!⟨zS _,[],S1,bC,s1,p0,.refl _⟩,?_⟩
 rintro i m out H2 ⟨rfl,RH,ds,S2,v2,s2,p2,k2⟩
 have ok:=hJ i S2 H2 k2 s2 (WJ _ _ _ p2)
 by_cases eE:i<I.xs.length
 ·obtain⟨go,yl⟩:=ok.1 _ (zf eE)
  obtain⟨hz,st⟩:=WK i _ ds S2 (zf eE) p2
  refine .inr ⟨go,by rw[v2.len];exact hz,fun x H' hy=>?_⟩
  obtain⟨rx,k3,s3⟩:=yl x H' hy
  refine hg _ _ _ _ ⟨_,_,S2,_,rx,(((aB.ts k1).ts k2).ts k3).pick src,s3,st,fun Uc S4 τ4 H4 r4 a4 s4 k4=>?_⟩
  refine⟨Uc,S4,_,Zf,a4,s4,r4,fun c S5 H5 r5 s5 k5=>?_,.f⟩
  cases c with
  |true =>
   rw[if_pos rfl] at r5 ⊢
   exact⟨Uc,S5,_,Zf,a4.ts k5,s5,r5,fun d S6 v H6 r6 v6 s6 k6=>⟨_,by omega,rfl,eE,ds++[d],S6,(RvAll.ts (((k3.trans k4).trans k5).trans k6) _ v2).app (aS v6 bC),s6,r6,(((k2.trans k3).trans k4).trans k5).trans k6⟩,.f⟩
  |false =>
   rw[if_neg zd] at r5 ⊢
   exact⟨_,by omega,rfl,eE,ds,S5,RvAll.ts ((k3.trans k4).trans k5) _ v2,s5,r5,((k2.trans k3).trans k4).trans k5⟩
 ·have e:i=I.xs.length:=by omega
  subst e
  exact .inl ⟨ok.2 (zm _),fun p hp=>(hR.kp (k1.trans k2)).new s2 hp (pend _ _ p2 p) v2⟩
def Ev.none(X:Cx)(h:X.xe=fun _ _=>False):Ev X false:=⟨X.pn,X.xe,fun _=>E0,⟨by rintro p2 τ H s e s' _ ⟨_,_,_,_,_,_,_,_,_,z⟩;exact z.elim,fun e=>(by cases e),fun e=>(by cases e)⟩⟩
section
variable{K:Frag}{X:Cx}{b:Bool}{N:List Str}{src:List (Option Nat)}{scope:Scope}{tg iter elt:Expr}{ifs:List Expr}{pos:Pos}{ti:AG}{g:TG}{gd:AD}{tc:mY}{te:TD}
structure Ud(K:Frag)(X:Cx)(ifs:List Expr)(t:mY):Prop where
 of:∀{b:Bool} (y:Ev X b),Pd y.cx ifs (Tt K y.E t)
def tM:mY:=fun _ S R _=>R true S
theorem rQ:Ud K X [] tM:=⟨fun y pins s τ H Q I ⟨σ,S,R,Z,aB,hS,q,hR,hZ⟩=>IZ pins s τ H Q I (hR true S H q hS (.refl _))⟩
theorem if1{t:mY}(h:DT K X c t):Ud K X [c] t:=⟨fun y=>I0 (h.of y)⟩
theorem sA(S:bJ X N src scope)(hit:DI K X tg iter ti)(hg:∀C s H ex pn,PG (ip X N scope C s H ex pn) tg g)(hx:Ac g src)(WM:∀v τ H Q,Tg K gd v τ H Q→g v τ H Q)
  (hi:∀C s H ex pn,Ud K (ip X N scope C s H ex pn) ifs tc) (he:∀C s H ex pn,DE K (ip X N scope C s H ex pn) elt te)
  (hs:∀x,foldedSetIterable iter X.env x=pure x:=by intro _;rfl) (hc:X.calm=true:=by rfl):DE K X (.ListComp elt [⟨tg,iter,ifs,0⟩] scope pos) (Cg ti src gd tc te) :=
 ⟨fun y=>(I_ (X:=y.cx) (tc:=Tt K (fun _=>E0) tc) (te:=T K (fun _=>E0) te) ⟨S.kind,S.fY,S.loc,S.Ab,S.len,S.src⟩ hc (hit.of y) hg hx (fun C s H ex pn=>(hi C s H ex pn).of (.none _ rfl)) (fun C s H ex pn=>(he C s H ex pn).of (.none _ rfl)) hs).mono fun _ _ _ h=>h.comp WM⟩
theorem Pq(hN:X.N.Nodup)(S:bJ X N src scope)(hit:DI K X tg iter ti)(hg:∀C s H ex pn,PG (ip X N scope C s H ex pn) tg g)(hx:Ac g src)(WM:∀v τ H Q,Tg K gd v τ H Q→g v τ H Q)
  (hi:∀C s H ex pn,Ud K (ip X N scope C s H ex pn) ifs tc) (he:∀C s H ex pn,DE K (ip X N scope C s H ex pn) elt te) (VQ:X.N[i]?=some x:=by rfl) (TY:X.env.scope.names.lookup x=some .local:=by rfl)
  (VR:swapsWith (.ListComp elt [⟨tg,iter,ifs,0⟩] scope pos) (some (.Name x pos')) Ja.line X.env=pure true:=by rfl)
  (hs:∀x,foldedSetIterable iter X.env x=pure x:=by intro _;rfl) (hc:X.calm=true:=by rfl):DS K X b (.Assign [.Name x pos'] (.ListComp elt [⟨tg,iter,ifs,0⟩] scope pos) Ja) (Ry i (Cg ti src gd tc te)) :=
 ⟨fun y=>(Ad (X:=y.cx) (i:=i) (tc:=Tt K (fun _=>E0) tc) (te:=T K (fun _=>E0) te) hN VQ TY ⟨S.kind,S.fY,S.loc,S.Ab,S.len,S.src⟩ hc (hit.of y) hg hx (fun C s H ex pn=>(hi C s H ex pn).of (.none _ rfl)) (fun C s H ex pn=>(he C s H ex pn).of (.none _ rfl)) VR hs).mono
  <| by rintro D τ H ⟨σ,S,De,Z,aB,hS,q,hD,hZ⟩;exact T.comp WM ⟨σ,S,_,_,aB,hS,q,fun d S1 v H1 r1 v1 s1 k1=>hD.nx _ _ _ _ r1 ((aB.ts k1).set i v1) s1 k1,hZ.at aB⟩⟩
theorem bb:∀v τ H Q,Tg K (T_ i) v τ H Q→ik i v τ H Q:=by rintro v τ H Q ⟨d,σ,S,R,rv,aB,hS,q,hR⟩;exact hR _ S _ H q (aB.set i rv) hS (.refl _)
end
structure uJ(K:Frag)(x qual:Str)(st:Stmt)(f:Addr)(fd:FuncData):Prop where
 ex:∃(oc:Value) (od:Option Addr) (dV kV doc pm:Value) (an:Option Addr) (fK ct:Value) (M0:Array (Option Value)),
  fd=fnOf x qual (a_ st) (aY st) (ae st) dV kV doc pm an fK ct∧K.lookup f=some ⟨oc,od,.func fd,M0⟩∧codeIn K fK qual=true
def i6(N:List Str)(ds:List D):SD:=ds.map some++List.replicate (N.length - ds.length) none
section
variable{i:Nat}{P:Program}{w:World}{K:Frag}{mg:Str→Option Value}{base:Heap}
theorem uJ.okD{x qual:Str}{st:Stmt}{f:Addr}{fd:FuncData}{N ps:List Str}{k:Nat}{sp:iL}(F:uJ K x qual st f fd)(S:fJ N ps (ae st))(len:∀ds S R Z,sp ds S R Z→ds.length=ps.length)
  (lP:∀(fK:Value) (A:Around) (outer:List Env) (s:Shared) (H:Hp) (E:XK) (ds:List D) (S:av) (R:KD) (Z:KX),bQ k (A.deeper (envOfC qual (ae st) s.heap.objs.size f fK))→sp ds S R Z →
   ∃t,E9 K (jR (eW P w mg) P w K mg base N qual (ae st) f fK A outer s H E) true (aY st) t∧t { nx:=fun _ S'=>R .aw S',rt:=R } (i6 N ds) S fun _=>Z):bG P w K mg base (eW P w mg) (k+1) f fd ps (pe K sp):=by
 obtain⟨oc,od,dV,kV,doc,pm,an,fK,ct,M0,rfl,lk,rO⟩:=F.ex
 have dD:ps.length≤N.length:=by have:=congrArg List.length S.pre;rw[yq] at this;lia
 refine Lh lk rO S (by rintro vs H Q E ⟨ds,S',R,Z,v,_,h,_⟩;exact by rw[v.len];exact len _ _ _ _ h) fun A outer s H vs Q E hr ⟨ds,S',R,Z,v,hS,h,hR,hZ⟩=>?_
 obtain⟨t,ht,q⟩:=lP fK A outer s H E ds S' R Z hr h
 have L:cJ (jR (eW P w mg) P w K mg base N qual (ae st) f fK A outer s H E) E:=tJ
 let y:Ev (jR (eW P w mg) P w K mg base N qual (ae st) f fK A outer s H E) true:=⟨_,(jR (eW P w mg) P w K mg base N qual (ae st) f fK A outer s H E).xe,fun _=>E,⟨fun p2 τ H1 s1 e s' I h=>Lo L p2 τ H1 s1 e s' I h,fun _ p2 τ H1 s1 h' a cls args I hx he=>ot L I hx he,fun _=>PassesOwn.leaving⟩⟩
 refine⟨Tl K (fun _=>E) t,ht.of y,i6 N ds,S',_,fun _=>Z,?_,hS,q,⟨fun σ S1 τ H1 r a b c=>hR.kp c |>.now b r iX,hR,fun _ _ _ _ z=>z.elim,fun _ _ _ _ z=>z.elim⟩,fun σ τ C S1 H1 z a b c=>hZ C S1 H1 z b c⟩
 unfold i6 start
 refine (qv v).app ?_
 rw[v.len]
 exact qu _ _ (by rw[List.length_replicate])
theorem bG.Gu(F:bG P w K mg base (eW P w mg) k f fd ps (pe K sp))(h:∀ds S R Z,TQ ds S R Z→sp ds S R Z):bG P w K mg base (eW P w mg) k f fd ps (pe K TQ) :=
 F.imp <| by rintro vs H Q E ⟨ds,S,R,Z,a,b,c,d⟩;exact⟨ds,S,R,Z,a,b,h _ _ _ _ c,d⟩
theorem bG.calm(F:bG P w K mg base (eW P w mg) k f fd ps sp):bG P w K mg base TU k f fd ps fun vs H Q _=>sp vs H Q E0:=by
 refine⟨fun vs H Q E h=>F.len vs H Q E0 h,fun A outer s H args us vs Q E hr e0 hb r h=>yM (F.run A outer s H args us vs Q E0 hr e0 hb r h) fun res s' q=>?_⟩
 cases res with
 |error e=>obtain⟨_,_,_,_,_,_,_,_,_,z⟩:=q;exact z.elim
 |ok fl=>cases fl <;> exact q
def tL.less(De:tL)(i:Nat):tL:={ nx:=fun σ S=>De.nx (σ.set i none) S,rt:=De.rt,bk:=fun σ S=>De.bk (σ.set i none) S,ct:=fun σ S=>De.ct (σ.set i none) S }
end
theorem tN{P:Program}{w:World} : ∀{ss:List Str}{vs:List Value},vs.length=ss.length→(∀(j:Nat) (v:Value),vs[j]?=some v→∃x,ss[j]?=some x∧keyIs (.inr x) v=true)→StrsAre vs ss
 |[],[],_,_=>.nil
 |[],_::_,h,_=>by simp at h
 |_::_,[],h,_=>by simp at h
 |x::ss,v::vs,h,k=>by
  obtain⟨x',e,q⟩:=k 0 v rfl
  cases e
  rcases bA q with ⟨i,t,e,_⟩|⟨y,t,e,rfl⟩
  ·cases e
  ·cases e
   exact .cons x t (tN (P:=P) (w:=w) (by simpa using h) fun j v e=>k (j+1) v (by simpa using e))
theorem tO:∀{vs:List Value}{ss:List Str},StrsAre vs ss→Vals (ss.map V.str) vs
 |_,_,.nil=>.nil
 |_,_,.cons y t h=>.cons ⟨t,rfl⟩ (tO h)
theorem KV.WN{κ:Type}{kvs:List (κ×V)}{vs:List (κ×Value)}(h:KV kvs vs):vs.map (·.1)=kvs.map (·.1):=by
 unfold KV at h
 induction h with
 |nil=>rfl
 |cons r t ih=>rw[zB,zB,ih,r.1]
theorem Gv{prog:Program}{w:World}{A:Around}{E:Value→Shared→Prop}{s:Shared}{T:String}{r d:Addr}{n:Nat}{P:Nat→Value→Prop}{OK:Heap→Prop}{R:List Value→Shared→Prop}(K:PySem.W.KdlSrc prog w T r d n P OK)(hh:A.handled=none)(aM:OK s.heap)(hn:n≤sizeLine)
  (h:∀(h':Heap) (tk:Nat) (acc:Array Value),(∀b o,s.heap.get? b=some o→h'.get? b=some o)→s.heap.objs.size≤h'.objs.size→ItemsOf P acc n→R acc.toList { s with heap:=h',toks:=tk }) :
  wpAny (model prog w) A (collect (.ref r)) R E s:=by
 have eE:=K.there _ aM
 unfold collect
 refine zc (wpAny_runValue (yJ entry_proto_collect' ?_))
 rw[Around.under_plainId PySem.F.plain_proto_collect _]
 show wpAny _ A.in1 (newList [] >>= fun l=>again (.builtin "list.__iadd__" ⟨[l,.ref r],[]⟩)) _ _ s
 refine zc (yA ?_)
 refine zu ⟨plainId_quiet PySem.F.plain_list_iadd _,yJ entry_list_iadd' ?_⟩
 rw[Around.under_plainId PySem.F.plain_list_iadd _]
 have RJ:(s.heap.push { cls:=.type "list",data:=.seq ([]:List Value).toArray }).get? s.heap.objs.size=some { cls:=.type "list",data:=.seq #[] }:=zj _ rfl
 show wpAny _ A.in1 (Builtin.List.listExtendWith (.ref s.heap.objs.size) (.ref r) (.ref s.heap.objs.size)) _ _ _
 have key:=PySem.W.kdl_extend (A:=A) (s:={ s with heap:=s.heap.push { cls:=.type "list",data:=.seq ([]:List Value).toArray } })
  (R:=fun (q:Result) (s':Shared)=>∃(h':Heap) (tk:Nat) (wM:Array Value) (c':Nat),q=.ok (.ret (.ref s.heap.objs.size))∧s'={ s with heap:=h',toks:=tk } ∧
   (∀b o,s.heap.get? b=some o→h'.get? b=some o)∧h'.get? s.heap.objs.size=some { cls:=.type "list",dict:=none,data:=.seq wM c',slots:=#[] }∧ItemsOf P wM n)
  K hh (K.keep _ _ aM fun b _ o e=>za _ e) s.heap.objs.size (yg eE.1) (yg eE.2) (.ref s.heap.objs.size) 0 RJ
  (fun h' tk wM c' hk ow ql=>⟨h',tk,wM,c',rfl,rfl,fun b o e=>hk b o (zx (zt e)) (za _ e),ow,ql⟩) hn
 refine yz key (fun fin s' x=>?_) fun e s' x=>?_
 ·cases fin with
  |done f =>
   obtain⟨h',tk,wM,c',e,rfl,hk,ow,ql⟩:=x
   cases e
   show wpAny _ A (load s.heap.objs.size >>= _) _ _ _
   exact zc (wpAny_load ow (zu (h h' tk wM hk (yB (zt ow)) ql)))
  |again c₁ =>
   refine⟨x.1,yM x.2 fun q bP y=>?_⟩
   obtain⟨h',tk,wM,c',rfl,rfl,hk,ow,ql⟩:=y
   show wpAny _ A (load s.heap.objs.size >>= _) _ _ _
   exact zc (wpAny_load ow (zu (h h' tk wM hk (yB (zt ow)) ql)))
 ·obtain⟨_,_,_,_,e',_⟩:=x
  cases e'
theorem uK{X:Cx}(hc:X.calm=true):eI X (.builtin "sorted") (fun xs H Q=>∃(a:Addr) (kvs:List (Key×V)) (ss:List Str),xs=[.ref a]∧H a=some (.dK kvs)∧kvs.map (·.1)=ss.map Sum.inr∧kvs.length<64 ∧
  ∀Ci,Ci.Perm ss→sortedS Ci=true→∀l,H l=none→Q (.ref l) (upd H l (.lst (Ci.map V.str)))):=by
 intro pins s σ H xs us Q I r h
 obtain⟨a,kvs,ss,rfl,e,hk,hl,q⟩:=h
 obtain⟨u,rfl,ru⟩:=vals1 r
 cases ru
 obtain⟨z,hd,vs,rel,dd⟩:=B0 I.aM e
 obtain⟨ep,Ue⟩:=dd.dictAt
 have hlen:vs.length<64:=by rw[← rel.length];exact hl
 have hh:=I.ok.hd hc
 refine PySem.Calls.call_function_entry kind_sorted plain_sorted entry_sorted (args_sorted1 _) ?_
 unfold Builtin.«sorted»
 refine zc (m:=checkCount "sorted" 1 1 _) (zu ?_)
 refine zc (Gv (A:=X.A.in1) (PySem.W.kdl_dict (knd:=aH X.prog X.w) (kvs:=vs) (ep:=ep) hd) hh Ue (by rw[zZ];omega) fun h' tk acc YN hB ql=>?_)
 have vY:acc.toList.length=vs.length:=by rw[yj];exact ql.1
 refine zc (wpAny_newList ?_ (by rw[vY,zZ];omega))
 have hS:StrsAre acc.toList ss:=by
  have hkv:=rel.WN
  refine tN (P:=X.prog) (w:=X.w) (by rw[vY,← rel.length];have:=congrArg List.length hk;simpa using this) fun j v ev=>?_
  obtain⟨k,x,e1,e2⟩:=ql.2 j v (by rw[← Array.getElem?_toList];exact ev)
  have e3:(vs.map (·.1))[j]?=some k:=by rw[zp,e1];rfl
  rw[hkv,hk,zp] at e3
  cases q2:ss[j]? with
  |none=>rw[q2] at e3;cases e3
  |some y=>rw[q2] at e3;cases e3;exact⟨y,rfl,e2⟩
 have EZ:(h'.push (seqObj "list" acc.toList.toArray 0)).get? h'.objs.size=some (seqObj "list" acc.toList.toArray 0):=zj _ rfl
 show wpAny _ _ _ _ _ { s with heap:=h'.push (seqObj "list" acc.toList.toArray 0),toks:=tk }
 refine zc (yD (yF slot_list_sort ⟨_,EZ,rfl⟩ entry_list_sort (list_sort_treeK (s:={ s with heap:=h'.push (seqObj "list" acc.toList.toArray 0),toks:=tk }) strKind_oneLt EZ hS.keysOf (fun nv nA rest e=>keyKind_strs (by rw[← e];exact hS)) (by rw[vY];exact hlen) fun eC hp hs=>!⟨?_⟩) (args_list_sort _)))
 refine zu !⟨?_⟩
 obtain⟨Ci,h1,h2,h3⟩:=sorted_out_str hS hp hs
 obtain⟨e1,he1⟩:=sortedHeap_at (vs:=acc.toList) (n:=0) (out:=(arrOf eC).map (·.2)) EZ
 have Pr:Ci.length≤sizeLine:=by rw[h2.length_eq,zZ];have:=congrArg List.length hk;rw[zb,zb] at this;omega
 refine⟨.ref h'.objs.size,_,I.laid (a:=h'.objs.size) (o:=.lst (Ci.map V.str)) (fun b u hb=>?_) hB ⟨by rw[zb];exact Pr,_,e1,tO h1,he1⟩,rfl,q Ci h2 h3 _ (I.aM.fresh hB)⟩
 have eE:=zt (YN b u hb)
 rw[sortedHeap_old (zx eE) (by rw[zU];exact Nat.lt_succ_of_lt eE),za _ (YN b u hb)]
section
variable{K:Frag}
def JD:List D→av→KD→Prop:=fun ds S R=>∃(a:Addr) (kvs:List (Key×D)) (ss:List Str),ds=[.ref a]∧S a=some (.cQ kvs)∧kvs.map (·.1)=ss.map Sum.inr∧kvs.length<64 ∧
 ∀Ci,Ci.Perm ss→sortedS Ci=true→∀p,S p=none→R (.ref p) (S.set p (.lst (Ci.map D.str)))
theorem bR.keys{κ:Type}{H:Hp}{ks:List (κ×D)}{vs:List (κ×V)}(h:bR K H ks vs):vs.map (·.1)=ks.map (·.1):=by
 unfold bR at h
 induction h with
 |nil=>rfl
 |cons r t ih=>rw[zB,zB,ih,r.1]
theorem wN:gv K (.builtin "sorted") JD:=by
 rintro X hK hc pins s σ H xs us Q I rx ⟨ds,S,R,r,hS,⟨a,kvs,ss,e,e1,hk,hl,h⟩,hR⟩
 subst e
 obtain⟨v,rfl,r1⟩:=r.one
 obtain⟨vs,e2,t⟩:=hS.cQ e1
 exact uK hc pins s σ H _ us Q I rx ⟨a,vs,ss,by rw[r1.ref],e2,by rw[t.keys];exact hk,by rw[t.len];exact hl,fun Ci p1 p2 l hl=>hR.new hS hl (h Ci p1 p2 l) (uE Ci)⟩
end
def LF(K:Frag)(a:Addr)(n:Nat):It :=
 ⟨fun i H=>∃xs x,jE K H a xs∧xs.length=n∧i<n∧xs[n - 1 - i]?=some x,fun i H x H'=>H'=H∧∀xs,jE K H a xs→xs.length=n→xs[n - 1 - i]?=some x,fun i _=>n≤i⟩
theorem Gw{P:Program}{w:World}{K:Frag}{tg:Expr}(a it:Addr)(n:Nat):Turn P w K tg (LF K a n) [it] it (fun i h=>i≤n∧h.IsRevIter it a ((n:Int) - 1 - (i:Int))) where
 mem:=by simp
 obj:=fun i h st b hb=>by
  have e:b=it:=by simpa using hb
  subst e
  obtain⟨_,o,e,c,d⟩:=st
  exact⟨o,e,fun v z=>by rw[d] at z;cases z⟩
 keep:=fun i h h' st k=>⟨st.1,st.2.at fun o e=>k it (by simp) o e⟩
 item:=by
  intro X hP hw hK hc i pins s σ H E I hf st hg
  subst hP hw hK
  obtain⟨xs,x,hq,hn,hi,hx⟩:=hg
  obtain⟨aA,rv,p,hz⟩:=I.list hq
  obtain⟨u,hu,ru⟩:=rv.get hx
  obtain⟨f0,f1,f2,f3,f4,f5⟩:=hf it (by simp)
  have e:(n:Int) - 1 - (i:Int)=((n - 1 - i:Nat):Int):=by lia
  have hit:=st.2
  rw[e] at hit
  refine wpAny_pyNext_rev_item hit p.isList (x:=u) (by simpa using hu) fun h' eC sb=>?_
  have I1:Inv X pins σ H { s with heap:=h' }:=I.turned (t':=s.toks) (fun b o hb e=>(sb.2 b hb).trans e) f0 f1 f3 f4 f5
  obtain⟨o,e1,c,d⟩:=id eC
  refine⟨u,rfl,sY (s:={ s with heap:=h' }) e1 c d (by decide) ⟨x,H,I1,ru,⟨rfl,fun ys hy _=>by rw[I.wc hy hq];exact hx⟩,⟨hi,?_⟩,fun b hb=>(hf b hb).1⟩⟩
  have e2:(n:Int) - 1 - ((i+1:Nat):Int)=((n - 1 - i:Nat):Int) - 1:=by lia
  rw[e2];exact eC
 done:=by
  intro X hP hw hK hc i pins s σ H E I hf st hg
  subst hP hw hK
  obtain⟨f0,f1,f2,f3,f4,f5⟩:=hf it (by simp)
  have hg:n≤i:=hg
  have e:(n:Int) - 1 - (i:Int) = -1:=by have:=st.1;lia
  have hit:=st.2
  rw[e] at hit
  exact wpAny_pyNext_rev_end (I.ok.hd hc) hit fun h' eb=>⟨rfl,I.turned (t':=s.toks) (fun b o hb e=>eb b o hb e) f0 f1 f3 f4 f5⟩
 self:=fun _ _ _ _ _ st h=>wpAny_pyIter_revIter st.2 h
def WO(K:Frag)(ta:TA):TI:=fun σ H R=>ta σ H fun vs H1=>∃a xs,vs=[.ref a]∧jE K H1 a xs∧R (LF K a xs.length) H1
theorem NT{X:Cx}{tg a:Expr}{ta:TA}{p pos:Pos}(hg:Gl X "reversed")(hm:X.mg "reversed" = none)(ha:PA X [a] ta)(hs:starEach [a] X.env=[(false,eval a X.env)]):PI X tg (.Call (.Name "reversed" p) [a] [] pos) (WO X.K ta):=by
 intro pins s σ H R I h
 refine Call_ (fW I hg hm boot_reversed (PyProof.Rows.callWith_type1 (bq (ha pos pins s σ H _ I h) fun us s1 ⟨vs,H1,I1,r1,q1⟩=>?_) hs rfl))
 obtain⟨l,xs,e,q,hR⟩:=q1
 subst e
 obtain⟨u,rfl,ru⟩:=vals1 r1
 cases ru
 obtain⟨aA,rv,pl,hz⟩:=I1.list q
 have hn:aA.toArray.size=xs.length:=by rw[zr,rv.length]
 refine call_reversed_list pl.isList ?_
 rw[hn]
 have st:(s1.heap.push (revObj l ((xs.length:Int) - 1))).IsRevIter s1.heap.objs.size l ((xs.length:Int) - 1 - ((0:Nat):Int)):=⟨_,zj _ rfl,rfl,by show Data.fields _=Data.fields _;simp⟩
 have I2:Inv X pins σ H1 { s1 with heap:=s1.heap.push (revObj l ((xs.length:Int) - 1)) }:=I1.kept (t':=s1.toks) fun b o e=>za _ e
 refine wpAny_pyIter_revIter st ⟨_,_,_,_,H1,rfl,I2,Gw l s1.heap.objs.size xs.length,⟨zS _,st⟩,fun b hb=>?_,hR⟩
 have hb:b=s1.heap.objs.size:=by simpa using hb
 subst hb
 exact I1.oX (zm _) (I1.aM.fresh (zm _))
section
variable{K:Frag}{X:Cx}{tg:Expr}
def RK(t:iK):AG:=fun σ S R Z=>t σ S (fun ds S1=>∃x es,ds=[x]∧xZ S1 x es∧R ⟨es.reverse,fun S=>xZ S x es⟩ S1) Z
theorem irv{t:iK}(hm:X.mg "reversed" = none)(ha:DA K X [a] t)(hg:Gl X "reversed" := by rfl)(hs:starEach [a] X.env=[(false,eval a X.env)]:=by rfl)(hK:X.K=K:=by rfl):DI K X tg (.Call (.Name "reversed" p) [a] [] pos) (RK t):=by
 subst hK
 exact⟨fun y=>(NT (X:=y.cx) hg hm (ha.of y) hs).mono <| by rintro τ H R ⟨σ,S,RI,Z,aB,hS,q,hR,hZ⟩;exact⟨σ,S,_,Z,aB,hS,q,by
  rintro ds S1 vs H1 ⟨x,es,e,h1,r1⟩ v1 s1 k1
  subst e
  obtain⟨v,rfl,r⟩:=v1.one
  obtain⟨a,xs,rfl,hq,t⟩:=h1.at s1 r
  refine⟨a,xs,rfl,hq,hR _ S1 _ H1 r1 (fun i S2 H2 k2 s2 Ub=>?_) s1 k1⟩
  obtain⟨a',NP,e',E8,t'⟩:=xZ.at Ub s2 (Rv.ts k2 _ r)
  cases e'
  have hl:xs.length=es.length:=t.len
  have Yl:NP.length=es.length:=t'.len
  refine⟨fun d hd=>?_,fun h=>by rw[yw] at h;show xs.length≤i;lia⟩
  have hi:i<es.length:=by have:=(ze.mp hd).1;rwa [yw] at this
  rw[List.getElem?_reverse hi] at hd
  obtain⟨v,e1,r⟩:=t'.get hd
  rw[← hl] at e1
  refine⟨⟨NP,v,E8,by lia,by lia,e1⟩,fun x' H' ⟨e2,e3⟩=>?_⟩
  subst e2
  have:=e3 NP E8 (by lia)
  rw[e1] at this;cases this
  exact⟨r,.refl _,s2⟩,hZ⟩⟩
def bu(xs ys:List D):List D:=List.zipWith (fun a b=>D.tup [a,b]) xs ys
def RL(t:iK):AG:=fun σ S R Z=>t σ S (fun ds S1=>∃xs ys,ds=[.tup xs,.tup ys]∧xs.length=ys.length∧R ⟨bu xs ys,fun _=>True⟩ S1) Z
theorem pM:∀v τ H Q,Tg K (LC 2 (AE (T_ i) (AE (T_ j) LB))) v τ H Q→ID K 2 (pY (ik i) (pY (ik j) IC)) v τ H Q:=by
 rintro v τ H Q ⟨d,σ,S,R,rv,aB,hS,⟨ds,e,hl,a,r,e1,b,r',e2,e3,q⟩,hR⟩
 subst e e1 e2 e3
 obtain⟨p,xs,rfl,hp,t⟩:=rv.tup
 obtain⟨v1,v2,rfl,r1,r2⟩:=t.two
 exact⟨p,_,rfl,.of hp,rfl,v1,[v2],rfl,v2,[],rfl,rfl,hR _ S _ H q ((aB.set i r1).set j r2) hS (.refl _)⟩
end
section
variable{K:Frag}{X:Cx}{b:Bool}{pos:Pos}
def RM(tl ti tv:TD):lY:=fun De σ S Z=>tv σ S (fun v S1=>tl σ S1 (fun x S2=>ti σ S2 (fun y S3=>∃a es i j,x=.ref a∧y=.int i∧S3 a=some (.lst es)∧Ih es.length i=some j∧De.nx σ (S3.set a (.lst (es.set j v)))) (Z σ)) (Z σ)) (Z σ)
theorem YO{o i value:Expr}{tl ti tv:TD}{pos':Pos}(ho:DE K X o tl)(hi:DE K X i ti)(hv:DE K X value tv)
  (ha:∀v,assign (.Subscript o i pos') X.env v=(do
   let ov ← holding [v] (eval o X.env)
   let iv ← holding [v,ov] (eval i X.env)
   standAt pos'
   holding [v,ov,iv] (setItem ov iv v)
   release [v,ov,iv] []):=by intro _;rfl)
  (hs:swapsWithSole [.Subscript o i pos'] value pos.line X.env=pure false:=by rfl) (hw:swappedStores [.Subscript o i pos'] value X.env=pure none:=by rfl) (h1:(assignEach [.Subscript o i pos'] X.env).map (·.2)=[assign (.Subscript o i pos') X.env]:=by rfl) :
  DS K X b (.Assign [.Subscript o i pos'] value pos) (RM tl ti tv) :=
 ⟨fun y=>(Fl (X:=y.cx) (hv.of y) (MD (ho.of y) (hi.of y) set_list ha) hs hw h1).mono <| by rintro D τ H ⟨σ,S,De,Z,aB,hS,q,hD,hZ⟩;exact
  ⟨σ,S,_,_,aB,hS,q,fun v S1 vv H1 r1 v1 s1 k1=>⟨σ,S1,_,_,aB.ts k1,s1,r1,fun x S2 xv H2 r2 v2 s2 k2=>⟨σ,S2,_,_,aB.ts (k1.trans k2),s2,r2,by
   rintro y S3 yv H3 ⟨a,es,i,j,e1,e2,e3,e4,r3⟩ v3 s3 k3
   subst e1 e2
   obtain⟨xs,e5,t⟩:=s3.lst e3
   have kk:=s3.gX (o:=.lst (xs.set j vv)) e3
   refine⟨a,xs,i,j,(Rv.ts k3 _ v2).ref,v3.int,e5,by rw[t.len];exact e4,?_⟩
   exact hD.nx _ _ _ _ r3 (aB.ts (((k1.trans k2).trans k3).trans kk)) (s3.put (c:=.lst _) e3 ⟨_,aF,RvAll.ts kk _ (t.set j (Rv.ts (k2.trans k3) _ v1))⟩) (((k1.trans k2).trans k3).trans kk),hZ.on (k1.trans k2) (aB.ts (k1.trans k2))⟩,hZ.on k1 (aB.ts k1)⟩,hZ.at aB⟩⟩
def eX(z:Str):List D:=z.cps.toList.map fun c=>D.str ⟨#[c]⟩
def LG(t:TD):AG:=fun σ S R Z=>t σ S (fun x S1=>∃z,x=.str z∧R ⟨eX z,fun _=>True⟩ S1) Z
theorem NU{t:TD}(h:DE K X l t):DI K X tg l (LG t) :=
 ⟨fun y=>(Nm (X:=y.cx) (h.of y)).mono <| by rintro τ H R ⟨σ,S,RI,Z,aB,hS,q,hR,hZ⟩;exact⟨σ,S,_,Z,aB,hS,q,by
  rintro x S1 v H1 ⟨z,e,r1⟩ v1 s1 k1
  subst e
  refine⟨z,v1.str,hR _ S1 _ H1 r1 (fun i S2 H2 k2 s2 _=>⟨fun d hd=>?_,fun hl=>?_⟩) s1 k1⟩
  ·unfold eX at hd
   rw[zp,Array.getElem?_toList] at hd
   cases q:z.cps[i]? with
   |none=>rw[q] at hd;cases hd
   |some c =>
    rw[q] at hd;cases hd
    refine⟨(Array.getElem?_eq_some_iff.mp q).1,fun x' H' ⟨e1,c',e2,e3⟩=>?_⟩
    rw[q] at e2;cases e2
    subst e1 e3
    exact⟨iY _,.refl _,s2⟩
  ·unfold eX at hl;rw[zb,yj] at hl;exact hl,hZ⟩⟩
def JE(t:TD):TD:=fun σ S R Z=>t σ S (fun x S1=>∃ss:List Str,xZ S1 x (ss.map D.str)∧ss.length<4000∧R (.int (ir ss).length) S1) Z
theorem YQ{t:TD}(h:DE K X e t)(hm:X.mg "len" = none)(hm':X.mg "set" = none)(hp:isPlain e=true:=by rfl)(hg:Gl X "len" := by rfl)(NV:Gl X "set" := by rfl)(he:starEach [e] X.env=[(false,eval e X.env)]:=by rfl)
  (he2:starEach [Expr.Call (.Name "set" p') [e] [] pos'] X.env=[(false,eval (.Call (.Name "set" p') [e] [] pos') X.env)]:=by rfl) (hK:X.K=K:=by rfl) (hc:X.calm=true:=by rfl) :
  DE K X (.Call (.Name "len" p) [.Call (.Name "set" p') [e] [] pos'] [] pos) (JE t):=by
 subst hK
 refine⟨fun y=>(wm (X:=y.cx) (DU (X:=y.cx) rfl rfl) hg hm aE (VS (tq (X:=y.cx) (DR (X:=y.cx) rfl rfl rfl hc) NV hm' Nt (VS (h.of y) y1 hp) (by decide) (by decide) he rfl) y1 rfl) (by decide) (by decide) he2 rfl).mono fun τ H Q ⟨σ,S,R,Z,aB,hS,q,hR,hZ⟩=>?_⟩
 refine⟨σ,S,_,Z,aB,hS,q,fun x S1 v H1 ⟨ss,h1,hl,r1⟩ v1 s1 k1=>?_,hZ⟩
 obtain⟨a,xs,rfl,hq,t⟩:=h1.at s1 v1
 rw[t.strs] at hq
 exact⟨a,ss,rfl,hq,hl,fun l hl=>⟨l,ss,rfl,aF,hR _ _ _ _ r1 (aL _) (s1.grow hl) (k1.trans (.new hl))⟩⟩
end
theorem D_{K:Frag}{S:av}{H:Hp}{l:Addr}(hS:Rs K S H)(h:S l=some .well):∃x y z:Int,Rs K (S.set l (.lst [.int x,.int y,.int z])) H:=by
 obtain⟨x,y,z,e⟩:∃x y z:Int,H l=some (.lst [.int x,.int y,.int z]):=hS l _ h
 refine⟨x,y,z,fun b c hb=>?_⟩
 by_cases q:b=l
 ·subst q;rw[aa] at hb;cases hb
  exact⟨_,e,aS (aL x) (aS (aL y) (aS (aL z) bC))⟩
 ·rw[ag q] at hb;exact hS b c hb
theorem tP{K:Frag}{S:av}{H:Hp}{l:Addr}{x y z:Int}(h:S l=some .well)(hS:Rs K (S.set l (.lst [.int x,.int y,.int z])) H):Rs K S H:=fun b c hb=>by
 by_cases q:b=l
 ·subst q;rw[h] at hb;cases hb
  obtain⟨xs,e,t⟩:=hS.lst (a:=b) aa
  rw[t.ints (bs:=[x,y,z])] at e
  exact⟨x,y,z,e⟩
 ·exact hS b c (by rw[ag q];exact hb)
def NW(pre:List D→Addr→Prop)(post:List D→D→Prop):iL:=fun ds S R _=>∃l x y z,pre ds l∧S l=some (.lst [.int x,.int y,.int z])∧∀d x' y' z',post ds d→R d (S.set l (.lst [.int x',.int y',.int z']))
def Gx(pre:List D→Addr→Prop)(post:List D→D→Prop):iL:=fun ds S R _=>∃l,pre ds l∧S l=some .well∧∀d,post ds d→R d S
theorem Ea{P:Program}{w:World}{K:Frag}{mg:Str→Option Value}{base:Heap}{k:Nat}{f:Addr}{fd:FuncData}{ps:List Str}{pre:List D→Addr→Prop}{post:List D→D→Prop}
  (F:bG P w K mg base (eW P w mg) k f fd ps (pe K (NW pre post))):bG P w K mg base (eW P w mg) k f fd ps (pe K (Gx pre post)):=by
 refine F.imp fun vs H Q E ⟨ds,S,R,Z,v,hS,⟨l,hp,hw,h⟩,hR,hZ⟩=>?_
 obtain⟨x,y,z,ow⟩:=D_ hS hw
 refine⟨ds,_,fun d S2=>∃x' y' z',post ds d∧S2=S.set l (.lst [.int x',.int y',.int z']),fun _ _=>False,v,ow,⟨l,x,y,z,hp,aa,fun d x' y' z' hd=>⟨x',y',z',hd,dG⟩⟩,fun d S2 u H' ⟨x',y',z',hd,e⟩ rv hs kp=>?_,fun _ _ _ q=>q.elim⟩
 subst e
 exact hR d S u H' (h d hd) rv (tP hw hs) kp
theorem eT:bootBuiltins "sorted" = some (.builtin "sorted"):=by trivial
def Sub(S S':av):Prop:=∀b c,S b=some c→S' b=some c
theorem Sub.refl(S:av):Sub S S:=fun _ _ h=>h
theorem Sub.trans(a:Sub S S1)(b:Sub S1 S2):Sub S S2:=fun p c h=>b p c (a p c h)
theorem Sub.new(h:S p=none):Sub S (S.set p c):=fun b c' hb=>by rw[ag (gW hb h)];exact hb
theorem Rs.sub{K:Frag}{S S':av}{H:Hp}(h:Rs K S' H)(s:Sub S S'):Rs K S H:=fun a c e=>h a c (s a c e)
inductive Fo (S':av) (p:av→Prop):Prop where
 |mk (S:av) (h:Sub S S') (r:p S):Fo S' p
theorem fo(h:p S):Fo S p:=⟨S,.refl S,h⟩
section
variable{P:Program}{w:World}{K:Frag}{mg:Str→Option Value}{base:Heap}
theorem uJ.ok{x qual:Str}{st:Stmt}{f:Addr}{fd:FuncData}{N ps:List Str}{k:Nat}{sp:iL}(F:uJ K x qual st f fd)(S:fJ N ps (ae st))(len:∀ds S R Z,sp ds S R Z→ds.length=ps.length)
  (lP:∀(fK:Value) (A:Around) (outer:List Env) (s:Shared) (H:Hp) (E:XK) (ds:List D) (S:av) (R:KD) (Z:KX),bQ k (A.deeper (envOfC qual (ae st) s.heap.objs.size f fK))→sp ds S R Z →
   ∃t,E9 K (jR (eW P w mg) P w K mg base N qual (ae st) f fK A outer s H E) true (aY st) t∧t { nx:=fun _ S'=>Fo S' (R .aw),rt:=fun d S'=>Fo S' (R d) } (i6 N ds) S fun _ C S'=>Fo S' (Z C)):bG P w K mg base (eW P w mg) (k+1) f fd ps (pe K sp):=by
 have F2:bG P w K mg base (eW P w mg) (k+1) f fd ps (pe K fun ds S R' Z'=>∃R Z,sp ds S R Z∧R'=(fun d S'=>Fo S' (R d))∧Z'=fun C S'=>Fo S' (Z C)):=by
  refine F.okD S (by rintro ds S R Z ⟨R0,Z0,h,_⟩;exact len _ _ _ _ h) fun fK A outer s H E ds S R Z hr ⟨R0,Z0,h,e1,e2⟩=>?_
  subst e1 e2
  exact lP fK A outer s H E ds S R0 Z0 hr h
 refine F2.imp <| by rintro vs H Q E ⟨ds,S,R,Z,v,hS,h,hR,hZ⟩;exact⟨ds,S,_,_,v,hS,⟨R,Z,h,rfl,rfl⟩,by rintro d S' u H' ⟨S2,sb,r⟩ rv rs kp;exact hR d S2 u H' r rv (rs.sub sb) kp,by rintro C S' H' ⟨S2,sb,r⟩ rs kp;exact hZ C S2 H' r (rs.sub sb) kp⟩
end
section
variable{K:Frag}{X:Cx}{b:Bool}
def RN(t:lY):lY:=fun De σ S Z=>∃P:SD→av→Prop,t { De with nx:=fun aG S'=>Fo S' (P aG) } σ S Z∧∀aG S',P aG S'→De.nx aG S'
theorem wO{st:Stmt}{t:lY}(h:DS K X b st t):DS K X b st (RN t) :=
 ⟨fun y=>(h.of y).mono <| by rintro D τ H ⟨σ,S,De,Z,aB,hS,⟨P,q,hP⟩,hD,hZ⟩;exact⟨σ,S,_,Z,aB,hS,q,⟨by rintro vX S1 WA H1 ⟨S2,sb,r1⟩ a b c;exact hD.nx _ _ _ _ (hP _ _ r1) a (b.sub sb) c,hD.rt,hD.bk,hD.ct⟩,hZ⟩⟩
def dFo(t:TD):TD:=fun σ S R Z=>t σ S (fun d S'=>Fo S' (R d)) Z
theorem Eb{t:TD}(h:DE K X e t):DE K X e (dFo t) :=
 ⟨fun y=>(h.of y).mono <| by rintro τ H Q ⟨σ,S,R,Z,aB,hS,q,hR,hZ⟩;exact⟨σ,S,_,Z,aB,hS,q,by rintro d S' v H' ⟨S2,sb,r⟩ rv rs kp;exact hR d S2 v H' r rv (rs.sub sb) kp,hZ⟩⟩
theorem qz(nd:N.Nodup)(h0:N[0]?=some a:=by rfl)(hx:∀C s H ex pn,Loc (ip X N scope C s H ex pn).env.scope a∧(ip X N scope C s H ex pn).env.scope.names.lookup a=some .local:=by intro _ _ _ _ _;exact⟨Or.inl rfl,rfl⟩) :
  ∀C s H ex pn,PG (ip X N scope C s H ex pn) (.Name a p) (ik 0):=fun C s H ex pn=>pH (i:=0) nd h0 (hx C s H ex pn).1 (.inr (hx C s H ex pn).2)
theorem Ug(nd:N.Nodup)(h0:N[0]?=some a:=by rfl)(h1:N[1]?=some c:=by rfl)
  (hx:∀C s H ex pn,Loc (ip X N scope C s H ex pn).env.scope a∧(ip X N scope C s H ex pn).env.scope.names.lookup a=some .local:=by intro _ _ _ _ _;exact⟨Or.inl rfl,rfl⟩)
  (hy:∀C s H ex pn,Loc (ip X N scope C s H ex pn).env.scope c∧(ip X N scope C s H ex pn).env.scope.names.lookup c=some .local:=by intro _ _ _ _ _;exact⟨Or.inl rfl,rfl⟩)
  (hl:∀env:Env,(assignEach [.Name a p,.Name c p'] env).length=2∧(assignEach [.Name a p,.Name c p'] env).findIdx? (·.1)=none∧(assignEach [.Name a p,.Name c p'] env).map (·.2)=assign (.Name a p) env::(assignEach [.Name c p'] env).map (·.2)∧(assignEach [.Name c p'] env).map (·.2)=assign (.Name c p') env::(assignEach [] env).map (·.2):=by intro _;exact⟨rfl,rfl,rfl,rfl⟩) (hK:X.K=K:=by rfl) (hc:X.calm=true:=by rfl) :
  ∀C s H ex pn,PG (ip X N scope C s H ex pn) (.Tuple [.Name a p,.Name c p'] j p2) (ID K 2 (pY (ik 0) (pY (ik 1) IC))):=fun C s H ex pn=>by
 subst hK
 have e:=hl (ip X N scope C s H ex pn).env
 exact Fj (X:=ip X N scope C s H ex pn) hc (pZ (pH (i:=0) nd h0 (hx C s H ex pn).1 (.inr (hx C s H ex pn).2)) (pZ (pH (i:=1) nd h1 (hy C s H ex pn).1 (.inr (hy C s H ex pn).2)) BQ e.2.2.2) e.2.2.1) e.1 e.2.1
end
theorem qA:∀{ss:List Str}{aA:List Value},Vals (ss.map V.str) aA→StrsAre aA ss
 |[],_,.nil=>.nil
 |z::ss,_,.cons r t=>by
  obtain⟨tk,rfl⟩:=r
  exact .cons z tk (qA t)
end L2
namespace HT
open PySem PySem.Spec PyProof.Rows
end HT
namespace L2
open PySem PySem.Spec PyProof.Rows
inductive Gy (S:av):List D→List PyData→Prop where
 |nil:Gy S [] []
 |cons {d:D}{p:PyData}{ds:List D}{ps:List PyData} : Dl S d p→Gy S ds ps→Gy S (d::ds) (p::ps)
section
variable{K:Frag}
def Cj(p:Str×D):D:=.tup [.str p.1,p.2]
def f_(l:List (Str×D)):List (Key×D):=l.foldl (fun c p=>dput c (.inr p.1) p.2) []
theorem Ck:∀{kvs:List (Str×D)}{ys:List V},RvAll K H (kvs.map Cj) ys→∃kv:List (Str×V),YD H ys kv∧∀c c',bR K H c c'→bR K H (kvs.foldl (fun c p=>dput c (.inr p.1) p.2) c) (kv.foldl (fun c p=>putK c (.inr p.1) p.2) c')
 |[],ys,h=>by
  rw[h.nil]
  exact⟨[],⟨rfl,fun i x p e=>(by cases i <;> cases e)⟩,fun c c' h=>h⟩
 |p::kvs,ys,h=>by
  obtain⟨y,ys,rfl,r1,r2⟩:=h.cons
  obtain⟨b,zs,rfl,hb,tz⟩:=Rv.tup (show Rv K H (.tup [.str p.1,p.2]) y from r1)
  obtain⟨v,u,rfl,rv,ru⟩:=tz.two
  have ev:=rv.str
  subst ev
  obtain⟨kv,⟨hl,hp⟩,hf⟩:=Ck r2
  refine⟨(p.1,u)::kv,⟨by rw[zQ,zQ,hl],fun i x q e1 e2=>?_⟩,fun c c' h=>hf _ _ (h.put (.inr p.1) ru)⟩
  cases i with
  |zero=>cases e1;cases e2;exact⟨b,rfl,hb⟩
  |succ i=>exact hp i x q e1 e2
def RO:List D→av→KD→Prop:=fun ds S R=>∃kvs:List (Str×D),ds=[.tup (kvs.map Cj)]∧∀p,S p=none→R (.ref p) (S.set p (.cQ (f_ kvs)))
theorem Gz:gv K (.type "dict") RO:=by
 rintro X hK hc pins s σ H xs us Q I rx ⟨ds,S,R,r,hS,⟨kvs,e,h⟩,hR⟩
 subst hK e
 obtain⟨v,rfl,r1⟩:=r.one
 obtain⟨a,ys,rfl,q,t⟩:=r1.tup
 obtain⟨kv,hp,hf⟩:=Ck t
 refine Aj hc pins s σ H _ us Q I rx ⟨a,ys,kv,rfl,q,hp,fun l hl=>?_⟩
 have kn:Kp X.K H (upd H l (.dK (B7 kv))):=.new hl
 exact hR _ _ _ _ (h l (hS.fresh hl)) (gU l) (hS.new (c:=.cQ (f_ kvs)) hl ⟨_,aF,(hf [] [] .nil).ts kn⟩) kn
theorem wQ(kvs:List (Key×D))(k k':Key)(d:D):bT (dput kvs k d) k'=if k'=k then some d else bT kvs k':=by
 unfold dput
 by_cases hk:(kvs.any fun kv=>decide (kv.1=k))=true
 ·rw[if_pos hk]
  unfold bT
  induction kvs with
  |nil=>cases hk
  |cons r kvs ih =>
   rw[zB,zR,zR]
   by_cases e:r.1=k
   ·rw[if_pos e]
    by_cases e2:k'=k
    ·rw[if_pos e2,show decide (r.1=k')=true from zq (e.trans e2.symm)];rfl
    ·rw[if_neg e2,show decide (r.1=k')=false from zk fun q=>e2 (q.symm.trans e)]
     by_cases dW:(kvs.any fun kv=>decide (kv.1=k))=true
     ·have:=ih dW
      rw[if_neg e2] at this
      exact this
     ·have em:kvs.map (fun kv=>if kv.1=k then (kv.1,d) else kv)=kvs:=by
       conv=>rhs;rw[← List.map_id kvs]
       refine zV fun x hx=>?_
       rw[if_neg fun q=>dW (List.any_eq_true.mpr ⟨x,hx,zq q⟩)];rfl
      rw[em]
   ·rw[if_neg e]
    have dW:(kvs.any fun kv=>decide (kv.1=k))=true:=by
     rw[yt,zk e,yN] at hk;exact hk
    by_cases e3:r.1=k'
    ·rw[zq e3,if_neg fun q=>e (e3.trans q)]
    ·rw[zk e3];exact ih dW
 ·rw[if_neg hk]
  unfold bT
  rw[List.find?_append]
  have hn:∀x∈kvs,x.1≠k:=fun x hx q=>hk (List.any_eq_true.mpr ⟨x,hx,zq q⟩)
  by_cases e:k'=k
  ·subst e
   rw[if_pos rfl,List.find?_eq_none.mpr fun x hx=>by simp [hn x hx]]
   simp
  ·rw[if_neg e]
   have:([(k,d)].find? fun kv=>decide (kv.1=k'))=none:=by
    rw[zR,show decide (k=k')=false from zk fun q=>e q.symm];rfl
   rw[this,Option.or_none]
theorem tQ(l:List (Str×D))(z:Str):(bT (f_ l) (.inr z)).isSome=l.any fun p=>decide (p.1=z):=by
 have all:∀(l:List (Str×D)) (c:List (Key×D)),(bT (l.foldl (fun c p=>dput c (.inr p.1) p.2) c) (.inr z)).isSome=((bT c (.inr z)).isSome || l.any fun p=>decide (p.1=z)):=by
  intro l
  induction l with
  |nil=>intro c;simp
  |cons p l ih =>
   intro c
   rw[yI,ih,wQ,yt]
   by_cases e:p.1=z
   ·rw[if_pos (by rw[e]),zq e];simp
   ·rw[if_neg fun q=>e (yH q).symm,zk e];simp
 exact (all l []).trans (by rfl)
def RP(a:Addr)(kvs:List (Str×V)):v5:=fun x y S R=>∃z,x=.str z∧y=.ref a∧R (.bl (kvs.lookup z).isSome) S
theorem WQ{X:Cx}{a b:Expr}{ta tb:TD}{pos:Pos}{w:World}{ad:Addr}{kvs:List (Str×V)}(d:Ii w K ad kvs)(ha:DE K X a ta)(hb:DE K X b tb)(hw:X.w=w:=by rfl)(hm:behindInMarks .In b=false:=by with_unfolding_all rfl)(hK:X.K=K:=by rfl) :
  DE K X (.Compare a [.In] [b] pos) (NI (RP ad kvs) ta tb):=by
 refine⟨fun y=>(BV (X:=y.cx) (r:=Lr K (RP ad kvs)) ?_ (ha.of y) (hb.of y) hm).mono fun _ _ _ h=>h.op⟩
 rintro pins s σ H x y' v u Q I rx ry ⟨d',e,S,R,r1,r2,hS,⟨z,e1,e2,h⟩,hR⟩
 subst e1 e2
 exact FZ (X:=y.cx) hw hK pins s σ H x y' v u Q I rx ry ⟨z,ad,kvs,r1.str,r2.ref,d,hR.now hS h (cg _)⟩
end
structure RQ(k:Nat)(A:Around):Prop where
 dp:A.depth+3 * k+5<recursionLimit
 un:A.units+16 * k+200<cLine
structure FnH(P:Program)(w:World)(K:Frag)(mg:Str→Option Value)(base:Heap)(k:Nat)(f:Addr)(fd:FuncData)(ps:List Str)(sp:iL):Prop where
 len:∀ds S R Z,sp ds S R Z→ds.length=ps.length
 run:∀(A:Around) (outer:List Env) (s:Shared) (H:Hp) (args:Args) (us:List Value) (vs:List V) (Q:VK),RQ k A→wj P w K mg base A outer s H→BindsTo s fd args (ps.zip us)→Vals vs us→pe K sp vs H Q E0 →
  codeAny (model P w) A (.call (.ref f) args) (CR (eW P w mg) outer P w H s Q E0) s
section
variable{K:Frag}
def WR:List D→av→KD→Prop:=fun ds S R=>∃n,ds=[.int n]∧n.natAbs.log2<1920∧R (.str (Str.ofString (toString n))) S
theorem RS:gv K (.type "str") WR:=by
 rintro X hK hc pins s σ H xs us Q I rx ⟨ds,S,R,r,hS,⟨n,e,h1,h⟩,hR⟩
 subst hK e
 obtain⟨v,rfl,r1⟩:=r.one
 have ev:=r1.int
 subst ev
 obtain⟨u,rfl,ru⟩:=vals1 rx
 obtain⟨t,rfl⟩:=ru
 exact PySem.P.str_of_int h1 ⟨.str _,H,I.tok _,⟨_,rfl⟩,hR.now hS h (iY _)⟩
end
def PEg(pre:Nat)(X:Cx)(e:Expr)(t:TE):Prop:=∀(pins:List (Addr×Obj)) (s:Shared) (σ:St) (H:Hp) (Q:VK),Inv X pins σ H s→pre≤s.toks→t σ H Q→wpAny (model X.prog X.w) X.A (eval e X.env) (fun u s'=>EP X pins σ Q u s'∧1≤s'.toks) X.xe s
structure DEg(pre:Nat)(K:Frag)(X:Cx)(e:Expr)(t:TD):Prop where
 of:∀{b:Bool} (y:Ev X b),PEg pre y.cx e (T K y.E t)
theorem WS{a b:Str}(h:a.cps.toList=b.cps.toList):a=b:=by
 obtain⟨⟨x⟩⟩:=a
 obtain⟨⟨y⟩⟩:=b
 cases h;rfl
end L2
namespace HT
open PySem PySem.Spec PyProof.Rows
end HT
namespace L2
open PySem PySem.Spec PyProof.Rows
section
variable{K:Frag}{X:Cx}
def RT:Gg:=fun x ds S R=>∃a es fs,x=.ref a∧ds=[.tup fs]∧S a=some (.lst es)∧es.length+fs.length≤sizeLine∧R .aw (S.set a (.lst (es++fs)))
theorem Ec:NK K "list.extend" RT:=by
 rintro X hK pins s σ H x xs v us Q I rx rs ⟨d,ds,S,R,r1,r2,hS,⟨a,es,fs,e1,e2,e3,hl,h⟩,hR⟩
 subst e1 e2
 obtain⟨w0,rfl,q2⟩:=r2.one
 obtain⟨zs,e5,t⟩:=hS.lst e3
 obtain⟨p,ys,rfl,q,t2⟩:=q2.tup
 exact Az pins s σ H x _ v us Q I rx rs ⟨a,p,zs,ys,r1.ref,rfl,e5,q,by rw[t.len,t2.len];exact hl,hR.put hS e3 h iX (t.app t2)⟩
end
section
variable{K:Frag}{X:Cx}{E:XK}
structure DEx(K:Frag)(X:Cx)(E:XK)(e:Expr)(t:TD):Prop where
 of:∀(y:Ev X true),y.E=(fun _=>E)→cJ y.cx E→PE y.cx e (T K y.E t)
structure DAx(K:Frag)(X:Cx)(E:XK)(es:List Expr)(t:iK):Prop where
 of:∀(y:Ev X true),y.E=(fun _=>E)→cJ y.cx E→PA y.cx es (Ta K y.E t)
structure DSx(K:Frag)(X:Cx)(E:XK)(b:List Stmt)(t:lY):Prop where
 of:∀(y:Ev X true),y.E=(fun _=>E)→cJ y.cx E→BN y.cx b (Tl K y.E t)
variable{N:List Str}{src:List (Option Nat)}{scope:Scope}{tg iter elt:Expr}{ifs:List Expr}{ti:AG}{g:TG}{gd:AD}{tc:mY}{te:TD}
end
open PySem.Builtin PySem.Builtin.Str
structure M3(X:Cx)(o:Expr)(m:Str)(apos:Pos)(e f g:Expr)(aP:Pos):Prop where
 base:attributeBase o m X.env (eval o X.env)=eval o X.env
 E1:((backTo aP (starEach [e,f,g] X.env)).all (fun x=>!x.1) && (backToKw aP (keywordEach [] X.env)).all (fun x=>x.1.isSome)
  && decide (([e,f,g]:List Expr).length+([]:List Keyword).length+(if ([]:List Keyword).isEmpty then 0 else 1)<30))=true
 line:(apos.endLine == aP.line)=true
 trees:backTo aP (starEach [e,f,g] X.env)=[(false,eval e X.env),(false,eval f X.env),(false,eval g X.env)]
section
variable{X:Cx}{t:TE}
def PAg(pre:Nat)(X:Cx)(es:List Expr)(t:TA):Prop :=
 ∀(pos:Pos) (pins:List (Addr×Obj)) (s:Shared) (σ:St) (H:Hp) (Q:List V→Hp→Prop),Inv X pins σ H s→pre≤s.toks→t σ H Q→wpAny (model X.prog X.w) X.A (spliced (backTo pos (starEach es X.env))) (AP X pins σ Q) X.xe s
end
section
variable{K:Frag}{X:Cx}
structure DAg(pre:Nat)(K:Frag)(X:Cx)(es:List Expr)(t:iK):Prop where
 of:∀{b:Bool} (y:Ev X b),PAg pre y.cx es (Ta K y.E t)
end
structure Gh(a₀:Array Keyed)(g:Nat→Nat)(xs:Array Keyed):Prop where
 at_:∀k,k<a₀.size→xs[k]?=a₀[g k]?
 lt:∀k,k<a₀.size→g k<a₀.size
 inj:∀i j,i<a₀.size→j<a₀.size→g i=g j→i=j
def Log(κ:KeyKind)(a₀:Array Keyed)(i j:Nat):Prop:=κ.klt (KK κ a₀ i) (KK κ a₀ j)∨(KK κ a₀ i=KK κ a₀ j∧i<j)
def AH(κ:KeyKind)(a₀:Array Keyed)(g:Nat→Nat)(k:Nat):Prop:=∀i j,i<j→j<k→Log κ a₀ (g i) (g j)
def Uh(κ:KeyKind)(a₀:Array Keyed)(g:Nat→Nat)(k:Nat):Prop:=∀i j,i<j→j<k→Log κ a₀ (g j) (g i)
def Ed(g:Nat→Nat)(m n:Nat):Prop:=∀k,m≤k→k<n→g k=k
def GA(g:Nat→Nat)(i j k:Nat):Nat:=if i≤k∧k<j then g (i+j - 1 - k) else g k
def JF(g:Nat→Nat)(src l k:Nat):Nat:=if k=l then g src else if l<k∧k≤src then g (k - 1) else g k
section
variable{κ:KeyKind}{a₀ xs:Array Keyed}{g:Nat→Nat}
theorem Log.kle(h:Log κ a₀ i j):κ.kle (KK κ a₀ i) (KK κ a₀ j):=by
 rcases h with h|⟨h,_⟩
 ·exact KeyOrd.kle_of_klt h
 ·rw[h];exact KeyOrd.kle_refl _
theorem LH(h:κ.kle (KK κ a₀ i) (KK κ a₀ j))(hl:i<j):Log κ a₀ i j:=by
 cases q:κ.blt (KK κ a₀ i) (KK κ a₀ j) with
 |true=>exact .inl q
 |false=>exact .inr ⟨KeyOrd.kle_antisymm h q,hl⟩
theorem Gh.low(h:Gh a₀ g xs)(t:Ed g m a₀.size)(hm:m≤a₀.size)(hi:i<m):g i<m:=by
 refine Nat.lt_of_not_le fun q=>?_
 have h1:=h.lt i (by lia)
 have h2:=h.inj (g i) i h1 (by lia) (t (g i) q h1)
 lia
theorem Gh.key(h:Gh a₀ g xs)(hk:k<a₀.size):KK κ xs k=KK κ a₀ (g k):=KK_congr (h.at_ k hk)
theorem Gh.mirror(h:Gh a₀ g xs)(hs:xs.size=a₀.size)(hj:j≤a₀.size):Gh a₀ (GA g i j) (mirror xs i j ((j - i) / 2)) where
 at_:=fun k hk=>by
  rw[getElem?_mirror_all (by lia)]
  unfold GA
  by_cases q:i≤k∧k<j
  ·rw[if_pos q,if_pos q];exact h.at_ _ (by lia)
  ·rw[if_neg q,if_neg q];exact h.at_ _ hk
 lt:=fun k hk=>by
  unfold GA
  by_cases q:i≤k∧k<j
  ·rw[if_pos q];exact h.lt _ (by lia)
  ·rw[if_neg q];exact h.lt _ hk
 inj:=fun a b ha hb e=>by
  unfold GA at e
  by_cases q:i≤a∧a<j <;> by_cases r:i≤b∧b<j
  ·rw[if_pos q,if_pos r] at e;have:=h.inj _ _ (by lia) (by lia) e;lia
  ·rw[if_pos q,if_neg r] at e;have:=h.inj _ _ (by lia) (by lia) e;lia
  ·rw[if_neg q,if_pos r] at e;have:=h.inj _ _ (by lia) (by lia) e;lia
  ·rw[if_neg q,if_neg r] at e;exact h.inj _ _ ha hb e
theorem Gh.bubble(h:Gh a₀ g xs)(hs:xs.size=a₀.size)(hl:l≤src)(hj:src<a₀.size):Gh a₀ (JF g src l) (bubble xs src (src - l)) where
 at_:=fun k hk=>by
  rw[getElem?_bubble (by lia) _ (by lia),show src - (src - l)=l by lia]
  unfold JF
  by_cases q:k=l
  ·rw[if_pos q,if_pos q];exact h.at_ _ hj
  ·rw[if_neg q,if_neg q]
   by_cases r:l<k∧k≤src
   ·rw[if_pos r,if_pos r];exact h.at_ _ (by lia)
   ·rw[if_neg r,if_neg r];exact h.at_ _ hk
 lt:=fun k hk=>by
  unfold JF
  by_cases q:k=l
  ·rw[if_pos q];exact h.lt _ hj
  ·rw[if_neg q]
   by_cases r:l<k∧k≤src
   ·rw[if_pos r];exact h.lt _ (by lia)
   ·rw[if_neg r];exact h.lt _ hk
 inj:=fun a b ha hb e=>by
  unfold JF at e
  repeat' split at e
  all_goals (have:=h.inj _ _ (by lia) (by lia) e;lia)
theorem g6(h:i≤k∧k<j):GA g i j k=g (i+j - 1 - k):=by unfold GA;rw[if_pos h]
theorem fL(h:¬ (i≤k∧k<j)):GA g i j k=g k:=by unfold GA;rw[if_neg h]
end
section
variable{prog:Program}{w:World}{A:Around}{E:Value→Shared→Prop}{s:Shared}{a₀:Array Keyed}{κ:KeyKind}
theorem LI{st:SortSt}{g:Nat→Nat}{a top:Nat}{Q:AscSt→SortSt→Prop}(hO:κ.OneLt)(h0:KeysOf κ a₀)(ht:top≤a₀.size)(h1:1≤a)(h2:a≤top)(B:SBase a₀ st)(G:Gh a₀ g (arrOf st))(T:Ed g a a₀.size)(U:AH κ a₀ g a)
  (h:∀n,a≤n→n≤top→AH κ a₀ g n→(n=top∨κ.klt (KK κ a₀ (g n)) (KK κ a₀ (g (n - 1))))→Q (none,n) st):wpS (model prog w) A E s (ascLoop a top) Q st:=by
 unfold ascLoop
 refine wpS_forRange (I:=fun x c t=>t=st∧c=(none,x)∧AH κ a₀ g x) ?_ ?_ ⟨rfl,rfl,U⟩
 ·rintro x c t Pt JC ⟨rfl,rfl,V⟩
  dsimp only
  refine wpS_bind (wpS_ltKK hO B h0 (by lia) (by lia) ?_)
  rw[G.key (by lia),G.key (by lia)]
  cases q:κ.blt (KK κ a₀ (g x)) (KK κ a₀ (g (x - 1))) with
  |true=>exact wpS_pure (h x Pt (by lia) V (.inr q))
  |false =>
   refine wpS_pure ⟨rfl,rfl,fun i j kN hj=>?_⟩
   rcases Nat.lt_or_ge j x with z|z
   ·exact V i j kN z
   ·obtain rfl:j=x:=by lia
    have lw:=G.low (m:=j) (fun k hk dW=>T k (by lia) dW) (by lia) kN
    rw[T j Pt (by lia)] at q ⊢
    refine LH ?_ lw
    rcases Nat.lt_or_ge i (j - 1) with y|y
    ·exact KeyOrd.kle_trans (V i (j - 1) y (by lia)).kle q
    ·obtain rfl:i=j - 1:=by lia
     exact q
 ·rintro c t ⟨rfl,rfl,V⟩
  rw[show max a top=top by lia] at V ⊢
  exact h top h2 (zm _) V (.inl rfl)
theorem GB{st:SortSt}{g:Nat→Nat}{n top:Nat}{Q:Option Nat→SortSt→Prop}(hO:κ.OneLt)(h0:KeysOf κ a₀)(ht:top≤a₀.size)(h1:1≤n)(h2:n≤top)(B:SBase a₀ st)(G:Gh a₀ g (arrOf st))(T:Ed g n a₀.size)(D:Uh κ a₀ g n)
  (h:∀m g' eC,SBase a₀ eC→Gh a₀ g' (arrOf eC)→Ed g' m a₀.size→1≤m→m≤top→AH κ a₀ g' m→Q (some m) eC):wpS (model prog w) A E s (tail3 n top) Q st:=by
 unfold tail3
 refine wpS_bind (wpS_reverse ?_)
 have B':SBase a₀ (setArr st (mirror (arrOf st) 0 n ((n - 0) / 2))):=B.setArr (mirror_perm _ _ _ _)
 have G':Gh a₀ (GA g 0 n) (arrOf (setArr st (mirror (arrOf st) 0 n ((n - 0) / 2)))):=G.mirror B.size (by lia)
 have T':Ed (GA g 0 n) n a₀.size:=fun k hk dW=>by rw[fL (by lia)];exact T k hk dW
 refine wpS_bind (LI hO h0 ht h1 h2 B' G' T' (fun i j kN hj=>?_) fun m WT LJ V _=>wpS_pure (h m _ _ B' G' (fun k hk dW=>T' k (by lia) dW) (by lia) LJ V))
 rw[g6 (by lia),g6 (by lia)]
 exact D _ _ (by lia) (by lia)
structure Ik(κ:KeyKind)(a₀:Array Keyed)(g:Nat→Nat)(x q:Nat):Prop where
 le:q+1≤x
 tl:Ed g (x - (q+1)) a₀.size
 dn:∀i j,i<j→j<x→i<x - (q+1)→Log κ a₀ (g j) (g i)
 eq:∀i,x - (q+1)≤i→i<x→KK κ a₀ (g i)=KK κ a₀ (g (x - 1))
theorem Ik.full(F:Ik κ a₀ g x q)(hx:x≤a₀.size):Uh κ a₀ (GA g (x - (q+1)) x) x:=fun i j kN hj=>by
 have le:=F.le
 by_cases hi:i<x - (q+1)
 ·rw[fL (k:=i) (by lia)]
  by_cases Ui:j<x - (q+1)
  ·rw[fL (by lia)];exact F.dn i j kN hj hi
  ·rw[g6 (by lia)];exact F.dn i _ (by lia) (by lia) hi
 ·rw[g6 (by lia),g6 (by lia)]
  refine .inr ⟨(F.eq _ (by lia) (by lia)).trans (F.eq _ (by lia) (by lia)).symm,?_⟩
  rw[F.tl _ (by lia) (by lia),F.tl _ (by lia) (by lia)];lia
theorem Ik.LK(F:Ik κ a₀ g x 0):Uh κ a₀ g x:=fun i j kN hj=>F.dn i j kN hj (by lia)
theorem Ik.next(D:Uh κ a₀ g x)(T:Ed g x a₀.size)(hx:x<a₀.size)(h1:1≤x)(hl:κ.klt (KK κ a₀ (g x)) (KK κ a₀ (g (x - 1)))):Ik κ a₀ g (x+1) 0 where
 le:=by lia
 tl:=fun k hk dW=>T k (by lia) dW
 dn:=fun i j kN hj hi=>by
  by_cases Ui:j<x
  ·exact D i j kN Ui
  ·obtain rfl:j=x:=by lia
   refine .inl ?_
   by_cases q:i=j - 1
   ·rw[q];exact hl
   ·exact KeyOrd.klt_of_klt_of_kle hl (D i (j - 1) (by lia) (by lia)).kle
 eq:=fun i hi hj=>by rw[show i=x+1 - 1 by lia]
theorem NX{st:SortSt}{g:Nat→Nat}{n top:Nat}{Q:DescSt→SortSt→Prop}(hO:κ.OneLt)(h0:KeysOf κ a₀)(ht:top≤a₀.size)(h1:1≤n)(h2:n≤top)(B:SBase a₀ st)(G:Gh a₀ g (arrOf st))(F:Ik κ a₀ g n 0)
  (h:∀m q g' eC,SBase a₀ eC→Gh a₀ g' (arrOf eC)→n≤m→m≤top→Ik κ a₀ g' m q→Q (none,m,q) eC):wpS (model prog w) A E s (descLoop n top) Q st:=by
 unfold descLoop
 refine wpS_forRange (I:=fun x c t=>∃q g',c=(none,x,q)∧SBase a₀ t∧Gh a₀ g' (arrOf t)∧Ik κ a₀ g' x q) ?_ ?_ ⟨0,g,rfl,B,G,F⟩
 ·rintro x c t Pt JC ⟨q,g',rfl,B',G',F'⟩
  have le:=F'.le
  dsimp only
  refine wpS_bind (wpS_ltKK hO B' h0 (by lia) (by lia) ?_)
  rw[G'.key (by lia),G'.key (by lia)]
  cases hl:κ.blt (KK κ a₀ (g' x)) (KK κ a₀ (g' (x - 1))) with
  |true =>
   simp only [if_true]
   by_cases hq:q>0
   ·rw[if_pos hq]
    refine wpS_bind (wpS_reverse (wpS_pure ⟨0,_,rfl,B'.setArr (mirror_perm _ _ _ _),G'.mirror B'.size (by lia),?_⟩))
    refine .next (F'.full (by lia)) (fun k hk dW=>?_) (by lia) (by lia) ?_
    ·rw[fL (by lia)];exact F'.tl k (by lia) dW
    ·rw[fL (by lia),g6 (by lia),F'.eq (x - (q+1)+x - 1 - (x - 1)) (by lia) (by lia)];exact hl
   ·rw[if_neg hq]
    obtain rfl:q=0:=by lia
    exact wpS_pure ⟨0,g',rfl,B',G',.next F'.LK (fun k hk dW=>F'.tl k (by lia) dW) (by lia) (by lia) hl⟩
  |false =>
   simp only [Bool.false_eq_true,if_false]
   refine wpS_bind (wpS_ltKK hO B' h0 (by lia) (by lia) ?_)
   rw[G'.key (by lia),G'.key (by lia)]
   cases hg:κ.blt (KK κ a₀ (g' (x - 1))) (KK κ a₀ (g' x)) with
   |true=>exact wpS_pure (h x q g' t B' G' Pt (by lia) F')
   |false =>
    have e:KK κ a₀ (g' x)=KK κ a₀ (g' (x - 1)):=KeyOrd.kle_antisymm hg hl
    refine wpS_pure ⟨q+1,g',rfl,B',G',⟨by lia,fun k hk dW=>F'.tl k (by lia) dW,fun i j kN hj hi=>?_,fun i hi hj=>?_⟩⟩
    ·by_cases Ui:j<x
     ·exact F'.dn i j kN Ui (by lia)
     ·obtain rfl:j=x:=by lia
      have:=F'.dn i (j - 1) (by lia) (by lia) (by lia)
      rcases this with z|⟨_,z⟩
      ·exact .inl (by rw[e];exact z)
      ·rw[F'.tl (j - 1) (by lia) (by lia)] at z
       have:=G'.low (m:=j - (q+1)) F'.tl (by lia) (i:=i) (by lia)
       lia
    ·rw[show x+1 - 1=x by lia]
     by_cases RH:i=x
     ·rw[RH]
     ·rw[e];exact F'.eq i (by lia) (by lia)
 ·rintro c t ⟨q,g',rfl,B',G',F'⟩
  rw[show max n top=top by lia] at F' ⊢
  exact h top q g' t B' G' h2 (zm _) F'
theorem GC{st:SortSt}{g:Nat→Nat}{n top:Nat}{Q:Option Nat→SortSt→Prop}(hO:κ.OneLt)(h0:KeysOf κ a₀)(ht:top≤a₀.size)(h2:n+1≤top)(B:SBase a₀ st)(G:Gh a₀ g (arrOf st))(F:Ik κ a₀ g (n+1) 0)
  (h:∀m g' eC,SBase a₀ eC→Gh a₀ g' (arrOf eC)→Ed g' m a₀.size→1≤m→m≤top→AH κ a₀ g' m→Q (some m) eC):wpS (model prog w) A E s (descPart n top) Q st:=by
 unfold descPart
 refine wpS_bind (wpS_lift (wpAny_rule ⟨rfl,?_⟩))
 refine wpS_bind (NX hO h0 ht (by lia) h2 B G F fun m q g' eC B' G' WT LJ F'=>?_)
 have le:=F'.le
 dsimp only
 by_cases hq:q>0
 ·rw[if_pos hq]
  refine wpS_bind (wpS_reverse (GB hO h0 ht (by lia) LJ (B'.setArr (mirror_perm _ _ _ _)) (G'.mirror B'.size (by lia)) (fun k hk dW=>?_) (F'.full (by lia)) h))
  rw[fL (by lia)];exact F'.tl k (by lia) dW
 ·rw[if_neg hq]
  obtain rfl:q=0:=by lia
  exact GB hO h0 ht (by lia) LJ B' G' (fun k hk dW=>F'.tl k (by lia) dW) F'.LK h
theorem RU{st:SortSt}{g:Nat→Nat}{top:Nat}{Q:Option Nat→SortSt→Prop}(hO:κ.OneLt)(h0:KeysOf κ a₀)(ht:top≤a₀.size)(h1:1≤top)(B:SBase a₀ st)(G:Gh a₀ g (arrOf st))(T:Ed g 0 a₀.size)
  (h:∀m g' eC,SBase a₀ eC→Gh a₀ g' (arrOf eC)→Ed g' m a₀.size→1≤m→m≤top→AH κ a₀ g' m→Q (some m) eC):wpS (model prog w) A E s (countRun' 0 top) Q st:=by
 rw[countRun0_eq]
 refine wpS_bind (LI hO h0 ht (zm 1) h1 B G (fun k hk dW=>T k (by lia) dW) (fun i j kN hj=>by lia) fun n RV Le U hor=>?_)
 dsimp only
 have Tn:∀m,Ed g m a₀.size:=fun m k hk dW=>T k (by lia) dW
 by_cases RW:n=top
 ·rw[if_pos (by simpa using RW)]
  exact wpS_pure (h n g st B G (Tn n) RV Le U)
 ·rw[if_neg (by simpa using RW)]
  have eE:=hor.resolve_left RW
  by_cases Uj:n>1
  ·rw[if_pos Uj]
   refine wpS_bind (wpS_ltKK hO B h0 (by lia) (by lia) ?_)
   rw[G.key (by lia),G.key (by lia)]
   cases hr:κ.blt (KK κ a₀ (g 0)) (KK κ a₀ (g (n - 1))) with
   |true=>exact wpS_pure (h n g st B G (Tn n) RV Le U)
   |false =>
    simp only [Bool.false_eq_true,if_false]
    have all:∀k,k<n→KK κ a₀ (g k)=KK κ a₀ (g (n - 1)):=fun k hk=>by
     have a1:κ.kle (KK κ a₀ (g 0)) (KK κ a₀ (g k)):=by
      by_cases z:k=0
      ·rw[z];exact KeyOrd.kle_refl _
      ·exact (U 0 k (by lia) hk).kle
     have a2:κ.kle (KK κ a₀ (g k)) (KK κ a₀ (g (n - 1))):=by
      by_cases z:k=n - 1
      ·rw[z];exact KeyOrd.kle_refl _
      ·exact (U k (n - 1) (by lia) (by lia)).kle
     exact KeyOrd.kle_antisymm a2 (KeyOrd.kle_trans hr a1)
    refine wpS_bind (wpS_reverse (GC hO h0 ht (by lia) (B.setArr (mirror_perm _ _ _ _)) (G.mirror B.size (by lia)) ?_ h))
    refine .next (fun i j kN hj=>?_) (fun k hk dW=>by rw[fL (by lia)];exact T k (by lia) dW) (by lia) (by lia) ?_
    ·rw[g6 (by lia),g6 (by lia)]
     refine .inr ⟨(all _ (by lia)).trans (all _ (by lia)).symm,?_⟩
     rw[T _ (by lia) (by lia),T _ (by lia) (by lia)];lia
    ·rw[fL (by lia),g6 (by lia),all (0+n - 1 - (n - 1)) (by lia)];exact eE
  ·rw[if_neg Uj]
   obtain rfl:n=1:=by lia
   exact GC hO h0 ht (by lia) B G (.next (fun i j kN hj=>by lia) (Tn 1) (by lia) (by lia) eE) h
theorem RX{st:SortSt}{g:Nat→Nat}{n ok:Nat}{Q:Bool→SortSt→Prop}(hO:κ.OneLt)(h0:KeysOf κ a₀)(hn:n≤a₀.size)(aM:ok≤n)(B:SBase a₀ st)(G:Gh a₀ g (arrOf st))(T:Ed g ok a₀.size)(U:AH κ a₀ g ok)
  (h:∀g' eC,SBase a₀ eC→Gh a₀ g' (arrOf eC)→AH κ a₀ g' n→Q true eC):wpS (model prog w) A E s (binarySort' 0 n ok) Q st:=by
 rw[binarySort'_eq]
 simp only [Nat.zero_add]
 refine wpS_bind (wpS_mono (wpS_forRange (I:=fun k c t=>c=(none,())∧∃g',SBase a₀ t∧Gh a₀ g' (arrOf t)∧Ed g' k a₀.size∧AH κ a₀ g' (min k n)) (Q:=fun c t=>c=(none,())∧∃g',SBase a₀ t∧Gh a₀ g' (arrOf t)∧AH κ a₀ g' n) ?_ ?_ ?_) ?_)
 ·rintro k c t YR dW ⟨rfl,g',B',G',T',V⟩
  rw[show min k n=k by lia] at V
  have hk:k<a₀.size:=by lia
  refine wpS_bind (wpS_mono (wpS_forRange (I:=fun x c t2=>t2=t∧∃l r,c=(none,l,r)∧l≤r∧r≤k∧r - l≤k - x∧(∀i,i<l→κ.kle (KK κ a₀ (g' i)) (KK κ a₀ (g' k)))∧(∀i,r≤i→i<k→κ.klt (KK κ a₀ (g' k)) (KK κ a₀ (g' i))))
   (Q:=fun c t2=>t2=t∧∃l r,c=(none,l,r)∧l≤k∧(∀i,i<l→κ.kle (KK κ a₀ (g' i)) (KK κ a₀ (g' k)))∧(∀i,l≤i→i<k→κ.klt (KK κ a₀ (g' k)) (KK κ a₀ (g' i)))) ?_ ?_ ?_) ?_)
  ·rintro x c t2 _ hxk ⟨rfl,l,r,rfl,Co,WU,hm,lo,hi⟩
   dsimp only
   by_cases Uk:l≥r
   ·rw[if_pos Uk]
    obtain rfl:l=r:=by lia
    exact wpS_pure ⟨rfl,l,l,rfl,WU,lo,hi⟩
   ·rw[if_neg Uk]
    refine wpS_bind (wpS_ltKK hO B' h0 hk (by lia) ?_)
    rw[G'.key hk,G'.key (by lia)]
    cases hl:κ.blt (KK κ a₀ (g' k)) (KK κ a₀ (g' ((l+r) / 2))) with
    |true =>
     refine wpS_pure ⟨rfl,l,(l+r) / 2,rfl,by lia,by lia,by lia,lo,fun i a b=>?_⟩
     by_cases z:i=(l+r) / 2
     ·rw[z];exact hl
     ·exact KeyOrd.klt_of_klt_of_kle hl (V _ _ (by lia) b).kle
    |false =>
     refine wpS_pure ⟨rfl,(l+r) / 2+1,r,rfl,by lia,by lia,by lia,fun i a=>?_,hi⟩
     by_cases z:i=(l+r) / 2
     ·rw[z];exact hl
     ·exact KeyOrd.kle_trans (V i ((l+r) / 2) (by lia) (by lia)).kle hl
  ·rintro c t2 ⟨rfl,l,r,rfl,Co,WU,hm,lo,hi⟩
   obtain rfl:l=r:=by lia
   exact⟨rfl,l,l,rfl,WU,lo,hi⟩
  ·exact⟨rfl,0,k,rfl,by lia,by lia,by lia,fun i hi=>by lia,fun i a b=>by lia⟩
  ·rintro c t2 ⟨rfl,l,r,rfl,WV,lo,hi⟩
   show wpS _ _ _ _ (do moveDown' k l;pure (ForInStep.yield (none,()))) _ _
   rw[moveDown'_eq]
   refine wpS_bind (wpS_modify (wpS_pure ⟨rfl,_,B'.setArr (bubble_perm _ _ _),G'.bubble B'.size WV hk,fun x Pt JC=>?_,?_⟩))
   ·show JF g' k l x=x
    unfold JF
    rw[if_neg (by lia),if_neg (by lia)]
    exact T' x (by lia) JC
   ·rw[show min (k+1) n=k+1 by lia]
    have lw:∀i,i<k→g' i<k:=fun i q=>G'.low T' (by lia) q
    have ek:=T' k (zm _) hk
    intro i j kN hj
    show Log κ a₀ (JF g' k l i) (JF g' k l j)
    unfold JF
    by_cases i1:i=l
    ·rw[if_pos i1,if_neg (by lia),if_pos (by lia)]
     exact .inl (hi _ (by lia) (by lia))
    ·rw[if_neg i1]
     by_cases j1:j=l
     ·rw[if_pos j1,if_neg (by lia)]
      have h1:=lo i (by lia)
      have h2:=lw i (by lia)
      rw[ek] at h1 ⊢
      exact LH h1 h2
     ·rw[if_neg j1]
      by_cases i2:l<i∧i≤k <;> by_cases j2:l<j∧j≤k
      ·rw[if_pos i2,if_pos j2];exact V _ _ (by lia) (by lia)
      ·lia
      ·rw[if_neg i2,if_pos j2];exact V _ _ (by lia) (by lia)
      ·rw[if_neg i2,if_neg j2];exact V _ _ (by lia) (by lia)
 ·rintro c t ⟨hc,g',B',G',T',V⟩
  refine⟨hc,g',B',G',?_⟩
  rwa [show min (max (max ok 1) n) n=n by lia] at V
 ·refine⟨rfl,g,B,G,fun k hk dW=>T k (by lia) dW,fun i j kN hj=>?_⟩
  exact U i j kN (by lia)
 ·rintro c t ⟨rfl,g',B',G',V⟩
  exact wpS_pure (h g' t B' G' V)
def NY(κ:KeyKind)(a₀:Array Keyed)(st:SortSt):Prop:=failedOf st=none∧pendingOf st=#[(0,a₀.size,0)]∧∃g,(arrOf st).size=a₀.size∧Gh a₀ g (arrOf st)∧AH κ a₀ g a₀.size
theorem NZ{st:SortSt}{Q:Unit→SortSt→Prop}(hO:κ.OneLt)(h0:KeysOf κ a₀)(B:SBase a₀ st)(e0:arrOf st=a₀)(h2:2≤a₀.size)(Fd:a₀.size<64)
  (h:∀eC g,failedOf eC=none→(arrOf eC).size=a₀.size→Gh a₀ g (arrOf eC)→AH κ a₀ g a₀.size→Q () eC):wpS (model prog w) A E s sortRuns' Q st:=by
 have G:Gh a₀ (fun k=>k) (arrOf st):=⟨fun k _=>by rw[e0],fun k hk=>hk,fun _ _ _ _ e=>e⟩
 have fin:∀(t:SortSt) (g:Nat→Nat),SBase a₀ t→Gh a₀ g (arrOf t)→AH κ a₀ g a₀.size→NY κ a₀ (setPending t ((pendingOf t).push (0,a₀.size,0))):=fun t g B' G' U=>⟨B'.failed,by show (pendingOf t).push _=_;rw[B'.pend];rfl,g,B'.size,G',U⟩
 rw[sortRuns'_eq]
 refine wpS_bind (wpS_get ?_)
 dsimp only
 have hm:minRun' a₀.size a₀.size 0=a₀.size:=by
  obtain⟨f,hf⟩:∃f,a₀.size=f+1:=⟨a₀.size - 1,by lia⟩
  have:minRun' (f+1) a₀.size 0=a₀.size:=by rw[minRun'_succ,if_pos Fd];rfl
  rwa [← hf] at this
 simp only [B.size,hm]
 refine wpS_bind (wpS_mono (wpS_forRange (I:=fun x c t=>(x=0∧c=(none,0)∧t=st)∨(1≤x∧c=(none,a₀.size)∧NY κ a₀ t)) (Q:=fun c t=>c=(none,a₀.size)∧NY κ a₀ t) ?_ ?_ (.inl ⟨rfl,rfl,rfl⟩)) ?_)
 ·rintro x c t _ hx (⟨rfl,rfl,rfl⟩|⟨Pt,rfl,D⟩)
  ·dsimp only
   rw[if_neg (by lia)]
   simp only [Nat.sub_zero,Nat.min_self,Nat.zero_add]
   refine wpS_bind (RU hO h0 (zm _) (by lia) B G (fun _ _ _=>rfl) fun m g' t2 B2 G2 T2 WT LJ U2=>?_)
   dsimp only
   by_cases eE:m<a₀.size
   ·rw[if_pos eE]
    refine wpS_bind (wpS_lift (wpAny_rule ⟨rfl,?_⟩))
    refine wpS_bind (RX hO h0 (zm _) LJ B2 G2 T2 U2 fun g3 t3 B3 G3 U3=>?_)
    simp only [Bool.not_true,Bool.false_eq_true,if_false]
    refine wpS_bind (wpS_get ?_)
    rw[show (pendingOf t3).back?=none by rw[B3.pend];rfl]
    dsimp only
    exact wpS_bind (wpS_modify (wpS_pure (.inr ⟨by lia,rfl,fin t3 g3 B3 G3 U3⟩)))
   ·rw[if_neg eE]
    obtain rfl:m=a₀.size:=by lia
    refine wpS_bind (wpS_get ?_)
    rw[show (pendingOf t2).back?=none by rw[B2.pend];rfl]
    dsimp only
    exact wpS_bind (wpS_modify (wpS_pure (.inr ⟨by lia,rfl,fin t2 g' B2 G2 U2⟩)))
  ·dsimp only
   rw[if_pos (zm _)]
   exact wpS_pure ⟨rfl,D⟩
 ·rintro c t (⟨hx,_,_⟩|⟨_,hc,D⟩)
  ·lia
  ·exact⟨hc,D⟩
 ·rintro c t ⟨rfl,D⟩
  dsimp only
  obtain⟨d1,d2,g,d3,d4,d5⟩:=D
  refine wpS_bind (wpS_mono (wpS_forRange (I:=fun _ c t2=>t2=t∧c=(none,())) (Q:=fun c t2=>t2=t∧c=(none,())) ?_ (fun _ _ z=>z) ⟨rfl,rfl⟩) ?_)
  ·rintro x c t2 _ _ ⟨rfl,rfl⟩
   refine wpS_bind (wpS_get ?_)
   rw[if_pos (by rw[d2];exact zm 1)]
   exact wpS_pure ⟨rfl,rfl⟩
  ·rintro c t2 ⟨rfl,rfl⟩
   exact wpS_pure (h _ g d1 d3 d4 d5)
end
abbrev JG(X:Cx)(qual:Str)(scope:Scope)(L f:Addr)(cv:Value):Env:=envX qual scope L f cv (clOf X.env.cells scope.names)
def Pu(X:Cx)(N:List Str)(qual:Str)(scope:Scope)(f:Addr)(cv:Value)(A:Around)(s:Shared)(H:Hp):Cx :=
 { X with A:=A.deeper (JG X qual scope s.heap.objs.size f cv),N:=N,cP:=s,um:=H,env:=JG X qual scope s.heap.objs.size f cv,outer:=X.stack,stack:=JG X qual scope s.heap.objs.size f cv::X.stack,ex:=[],fn:=fun _=>false,calm:=true,pn:=[],xe:=fun _ _=>False }
abbrev wR(X:Cx)(qual:Str)(params:Arguments)(body:Expr)(scope:Scope)(pm cv lK:Value):Obj :=
 { cls:=.type "function",data:=.func (kla_fn "<lambda>" qual params body scope (clOf X.env.cells scope.names) pm cv lK) }
section
variable{X:Cx}{pins:List (Addr×Obj)}{σ:St}{H:Hp}{s:Shared}{N:List Str}{src:List (Option Nat)}{scope:Scope}{params:Arguments}{body:Expr}{qual p:Str}{pm cv lK u:Value}{f:Addr}{A:Around}{v:V}{te:TE}{Q:VK}
theorem JH(I:Inv X pins σ H s)(S:bJ X N src scope)(JI:N[0]?=some p)(hp:scope.names.lookup p=some .local)(h0:src[0]?=some none)(vZ:A.frames=some X.stack)(hh:A.handled=none)(r:RelV v u)
  (LL:h₁.Ns s.heap.objs.size fun x=>[(p,u)].reverse.lookup x) (old:∀b o,s.heap.get? b=some o→h₁.get? b=some o) :
  Inv (Pu X N qual scope f cv A s H) [] ((pick σ src).set 0 (some v)) H { s with heap:=h₁,toks:=tk }:=by
 have iq:∀x c,(clOf X.env.cells scope.names).lookup x=some c→X.env.cells.lookup x=some c:=qj X.env.cells scope.names [] (by intro x c h;simp at h)
 have IQ:∀b:Addr,b∉(Pu X N qual scope f cv A s H).ex:=fun b z=>absurd (show b∈([]:List Addr) from z) (by simp)
 have Ab:∀x,scope.names.lookup x=some .free→∃c,(clOf X.env.cells scope.names).lookup x=some c:=fun x hl=>by
  have hm:=yb hl
  obtain⟨c,IY⟩:=I.ok.has x (S.Ab _ hm rfl)
  exact⟨c,iV X.env.cells scope.names [] x c (by intro x c h;simp at h) hm IY⟩
 refine⟨⟨I.ok.mod,S.kind,rfl,rfl,zm _,fun x y c h1 h2=>I.ok.inj x y c (iq _ _ h1) (iq _ _ h2),fun x hk=>?_,fun x c h=>(nomatch h),fun _=>hh,Around.frames_deeper vZ,.inr ⟨rfl,rfl⟩,fun b z=>absurd z (IQ b),I.bs,zI I.ok.Iw I.sz,fun b _ _=>IQ b,fun b z=>absurd z (IQ b),I.stack,I.pF⟩,
  rfl,I.bare,Un.kept old,⟨_,LL,fun i x w e1 e2 e3=>?_⟩,fun x c e=>?_,I.aM.fresh (zm _),fun x c e=>I.fI x c (iq x c e),fun q hq=>absurd (show q∈([]:List (Addr×Obj)) from hq) (by simp),I.aM.kept old,?_⟩
 ·have hk:scope.names.lookup x=some .cell∨scope.names.lookup x=some .free:=hk
  rcases hk with hk|hk
  ·exact absurd rfl (S.fY _ (yb hk))
  ·exact Ab x hk
 ·have e1:N[i]?=some x:=e1
  by_cases hi:i=0
  ·subst hi
   rw[JI] at e1;cases e1
   have hl:0<(pick σ src).length:=by unfold pick;rw[zb];exact (ze.mp h0).1
   rw[List.getElem?_set_self hl] at e2
   cases e2
   exact⟨u,r,.inl ⟨hp,by simp [zW]⟩⟩
  ·rw[List.getElem?_set_ne (Ne.symm hi)] at e2
   unfold pick at e2
   rw[zp] at e2
   cases es:src[i]? with
   |none=>rw[es] at e2;cases e2
   |some o =>
    rw[es] at e2
    cases o with
    |none=>cases e2
    |some j =>
     have e3:(σ[j]?).join=some w:=zM e2
     have e4:σ[j]?=some (some w):=by
      cases q:σ[j]? with
      |none=>rw[q] at e3;cases e3
      |some z=>rw[q] at e3;exact congrArg some e3
     obtain⟨a1,a2,a3⟩:=S.src i j x es e1
     obtain⟨m0,_,hl⟩:=I.loc
     obtain⟨u',r',l⟩:=hl j x w a1 e4 a3
     have hm:=yb a2
     have hk:=S.Ab _ hm rfl
     rcases l with ⟨k,_⟩|⟨_,c,IY,⟨o,ho,hd⟩⟩
     ·rcases hk with hk|hk <;> (rw[k] at hk;cases hk)
     ·exact⟨u',r',.inr ⟨.inr a2,c,iV X.env.cells scope.names [] x c (by intro x c h;simp at h) hm IY,o,old _ _ ho,hd⟩⟩
 ·obtain⟨w,o,ho,hd⟩:=I.cell x c (iq x c e)
  exact⟨w,o,old _ _ ho,hd⟩
 ·show ((pick σ src).set 0 (some v)).length=N.length
  unfold pick
  rw[List.length_set,zb,S.len]
theorem GF(I:Inv X pins σ H s)(S:bJ X N src scope)(JI:N[0]?=some p)(hp:scope.names.lookup p=some .local)(h0:src[0]?=some none)(vZ:A.frames=some X.stack)(hh:A.handled=none)(RY:A.depth<recursionLimit)(r:RelV v u)
  (ho:s.heap.get? f=some (wR X qual params body scope pm cv lK)) (rO:s.heap.CodeRec cv qual) (JJ:scope.isCoroutine=false) (AI:scope.isGenerator=false)
  (hb:bindArgs (kla_fn "<lambda>" qual params body scope (clOf X.env.cells scope.names) pm cv lK) ⟨[u],[]⟩=pure [(p,u)])
  (he:PE (Pu X N qual scope f cv A s H) body te) (h:te ((pick σ src).set 0 (some v)) H Q) :
  codeAny (model X.prog X.w) A (.call (.ref f) ⟨[u],[]⟩) (fun q s'=>∃w,q=.ok (.ret w)∧CE X.stack X.prog X.w H s Q w s') s:=by
 refine PySem.W.kla_callFunE RY ho rfl JJ AI rfl rO ?_
 show wpAny _ _ (bindArgs (kla_fn "<lambda>" qual params body scope (clOf X.env.cells scope.names) pm cv lK) ⟨[u],[]⟩) _ _ _
 rw[hb]
 refine zu (wpAny_newFunctionEnv S.fY (fun x hx=>?_) (fun h₁ LL Jh=>⟨I.nolimit.fresh _ Jh,?_⟩) S.kind)
 ·rw[zG.mp hx];exact hp
 have old:∀b o,s.heap.get? b=some o→h₁.get? b=some o:=fun b o e=>Jh.extBut b o (zx (zt e)) (za _ e)
 show codeAny _ _ (.expr body (JG X qual scope s.heap.objs.size f cv)) _ _
 refine PySem.W.kla_codeExpr (yz (he [] _ _ H Q (JH I S JI hp h0 vZ hh r LL old) h) (by rintro w s' ⟨x,H',J,rv,q⟩;exact⟨w,rfl,x,H',J.os,J.bare,J.base,J.aM,rv,q⟩) fun _ _ z=>z.elim)
end
@[reducible] def intK:KeyKind where
 α:=Int
 blt a b:=decide (a<b)
 irrefl a:=by simp
 trans a b c h1 h2:=by simp only [zX] at *;lia
 negTrans a b c h:=by simp only [zX] at *;lia
 total a b h1 h2:=by simp only [decide_eq_false_iff_not] at *;lia
 keyOf v:=match v with|.int x _=>some x|_=>none
 dflt:=0
theorem GG:intK.OneLt:=by
 intro prog w A E s x y a b Q ha hb h
 cases x <;> simp only [intK,reduceCtorEq,Option.some.injEq] at ha
 cases y <;> simp only [intK,reduceCtorEq,Option.some.injEq] at hb
 cases ha;cases hb
 exact oneLt_int h
structure Ul(κ:KeyKind)(b:Bool)(key:Nat→κ.α)(n:Nat)(g:Nat→Nat):Prop where
 lt:∀k,k<n→g k<n
 inj:∀i j,i<n→j<n→g i=g j→i=j
 ord:∀i j,i<j→j<n→(if b=true then κ.klt (key (g j)) (key (g i)) else κ.klt (key (g i)) (key (g j)))∨(key (g i)=key (g j)∧g i<g j)
def iw(κ:KeyKind)(us:List Value)(j:Nat):κ.α:=(κ.keyOf (us.getD j .none)).getD κ.dflt
theorem GH{us vs:List Value}(hl:us.length=vs.length){j:Nat}(hj:j<vs.length):(us.toArray.zip vs.toArray)[j]?=some (us.getD j .none,vs.getD j .none):=by
 have e:(us.zip vs)[j]?=some (us.getD j .none,vs.getD j .none):=List.getElem?_zip_eq_some.mpr ⟨by show us[j]?=some (us.getD j .none);rw[zD,zf (by lia)];rfl,by show vs[j]?=some (vs.getD j .none);rw[zD,zf hj];rfl⟩
 rw[← Array.getElem?_toList,ksk_zip,List.toList_toArray]
 exact e
theorem uL{κ:KeyKind}{us vs:List Value}(hl:us.length=vs.length){j:Nat}(hj:j<vs.length):KK κ (us.toArray.zip vs.toArray) j=iw κ us j:=by
 unfold KK iw
 rw[GH hl hj]
theorem wU{l m:List Value}{n:Nat}(h1:l.length=n)(h2:m.length=n)(h:∀k,k<n→l[k]?=m[k]?):l=m:=by
 apply List.ext_getElem?
 intro k
 by_cases hk:k<n
 ·exact h k hk
 ·rw[List.getElem?_eq_none (by lia),List.getElem?_eq_none (by lia)]
section
variable{prog:Program}{w:World}{A:Around}{E:Value→Shared→Prop}{s:Shared}{a kS:Addr}{b:Bool}{us vs:List Value}{e e1:Nat}{P:PySem.Fin→Shared→Prop}{κ:KeyKind}
theorem Cp{st:SortSt}{keys:Array Value}(hk:s.heap.get? kS=some (seqObj "list" keys e))(ha:s.heap.get? a=some (seqObj "list" #[] e1))(N1:kS≠a)(hz:keys.size<64)(N2:(arrOf st).size<64)(Je:failedOf st=none)
  (h:∀h' c,(∀b o,b≠a→b≠kS→s.heap.get? b=some o→h'.get? b=some o)→h'.get? a=some (seqObj "list" (if b then ((arrOf st).map (·.2)).reverse else (arrOf st).map (·.2)) c)→P (.done (.ret .none)) { s with heap:=h' }) :
  wpAny (model prog w) A (ksk_tail a b e1 (.ref kS) st) P E s:=by
 have s1:=yu s.heap kS (Obj.mapSeq fun _=>(#[]:Array Value))
 have WW:(s.heap.update kS (Obj.mapSeq fun _=>(#[]:Array Value))).get? a=some (seqObj "list" #[] e1):=(s1.2 a N1.symm).trans ha
 have Ee:∀o:Array Value,o=(if b then ((arrOf st).map (·.2)).reverse else (arrOf st).map (·.2))→o.size<64:=by
  rintro o rfl
  cases b with
  |false=>rw[if_neg zd,Array.size_map];exact N2
  |true=>rw[if_pos rfl,Array.size_reverse,Array.size_map];exact N2
 generalize ho:(if b then ((arrOf st).map (·.2)).reverse else (arrOf st).map (·.2))=out at h Ee
 have Ee:=Ee out rfl
 have s2:=yu (s.heap.update kS (Obj.mapSeq fun _=>(#[]:Array Value))) a (Obj.mapSeq fun _=>out)
 obtain⟨c2,WX⟩:∃c2,((s.heap.update kS (Obj.mapSeq fun _=>(#[]:Array Value))).update a (Obj.mapSeq fun _=>out)).get? a=some (seqObj "list" out c2):=⟨_,get?_update_seq WW fun _=>out⟩
 unfold ksk_tail
 try dsimp only
 refine zc (listUpdate_at hk rfl ?_ (by rw[zZ];lia) (zS _))
 refine zc (wpAny_letGo ?_)
 refine zc (seqEpoch_at WW rfl ?_)
 rw[ho]
 refine zc (listUpdate_at WW rfl ?_ (zS _) (zI (yB Ee) (by rw[zZ];lia)))
 rw[Je]
 simp only [bne_self_eq_false,Bool.false_eq_true,if_false]
 exact zu (h _ c2 (fun b o h1 h2 q=>(s2.2 b h1).trans ((s1.2 b h2).trans q)) WX)
theorem GI{xs:Array Keyed}{g:Nat→Nat}(hl:us.length=vs.length)(hs:xs.size=vs.length)
  (G:Gh (if b=true then (us.toArray.zip vs.toArray).reverse else us.toArray.zip vs.toArray) g xs) (U:AH κ (if b=true then (us.toArray.zip vs.toArray).reverse else us.toArray.zip vs.toArray) g vs.length) :
  ∃g',Ul κ b (iw κ us) vs.length g'∧(if b then (xs.map (·.2)).reverse else xs.map (·.2)).toList=(List.range vs.length).map fun k=>vs.getD (g' k) .none:=by
 have x5:(us.toArray.zip vs.toArray).size=vs.length:=by rw[Array.size_zip,zr,zr,hl,Nat.min_self]
 have YS:∀k,k<vs.length→(us.toArray.zip vs.toArray)[k]?=some (us.getD k .none,vs.getD k .none):=fun k hk=>GH hl hk
 cases b with
 |false =>
  rw[if_neg zd] at G U
  refine⟨g,⟨fun k hk=>by have:=G.lt k (by rw[x5];exact hk);rwa [x5] at this,fun i j hi hj=>G.inj i j (by rw[x5];exact hi) (by rw[x5];exact hj),fun i j kN hj=>?_⟩,?_⟩
  ·have h1:=G.lt i (by rw[x5];lia)
   have h2:=G.lt j (by rw[x5];lia)
   rw[x5] at h1 h2
   have:=U i j kN hj
   unfold Log at this
   rw[uL hl h1,uL hl h2] at this
   rw[if_neg zd]
   exact this
  ·rw[if_neg zd]
   refine wU (n:=vs.length) (by rw[yj,Array.size_map,hs]) (by simp) fun k hk=>?_
   have h1:=G.lt k (by rw[x5];lia)
   rw[x5] at h1
   rw[Array.getElem?_toList,Array.getElem?_map,G.at_ k (by rw[x5];exact hk),YS _ h1,zp,List.getElem?_range hk]
   rfl
 |true =>
  rw[if_pos rfl] at G U
  have rR:(us.toArray.zip vs.toArray).reverse.size=vs.length:=by rw[Array.size_reverse,x5]
  have lt:∀k,k<vs.length→g k<vs.length:=fun k hk=>by have:=G.lt k (by rw[rR];exact hk);rwa [rR] at this
  have rat:∀k,k<vs.length→(us.toArray.zip vs.toArray).reverse[k]?=(us.toArray.zip vs.toArray)[vs.length - 1 - k]?:=fun k hk=>by
   rw[Array.getElem?_reverse (by rw[x5];exact hk),x5]
  refine⟨fun k=>vs.length - 1 - g (vs.length - 1 - k),⟨fun k hk=>by have:=lt (vs.length - 1 - k) (by lia);lia,fun i j hi hj e=>?_,fun i j kN hj=>?_⟩,?_⟩
  ·have h1:=lt (vs.length - 1 - i) (by lia)
   have h2:=lt (vs.length - 1 - j) (by lia)
   have:=G.inj (vs.length - 1 - i) (vs.length - 1 - j) (by rw[rR];lia) (by rw[rR];lia) (by lia)
   lia
  ·have h1:=lt (vs.length - 1 - i) (by lia)
   have h2:=lt (vs.length - 1 - j) (by lia)
   have:=U (vs.length - 1 - j) (vs.length - 1 - i) (by lia) (by lia)
   unfold Log at this
   have e1:KK κ (us.toArray.zip vs.toArray).reverse (g (vs.length - 1 - i))=iw κ us (vs.length - 1 - g (vs.length - 1 - i)):=(KK_congr (rat _ h1)).trans (uL hl (by lia))
   have e2:KK κ (us.toArray.zip vs.toArray).reverse (g (vs.length - 1 - j))=iw κ us (vs.length - 1 - g (vs.length - 1 - j)):=(KK_congr (rat _ h2)).trans (uL hl (by lia))
   rw[e1,e2] at this
   rw[if_pos rfl]
   rcases this with z|⟨z1,z2⟩
   ·exact .inl z
   ·exact .inr ⟨z1.symm,by lia⟩
  ·rw[if_pos rfl]
   refine wU (n:=vs.length) (by rw[yj,Array.size_reverse,Array.size_map,hs]) (by simp) fun k hk=>?_
   have h1:=lt (vs.length - 1 - k) (by lia)
   rw[Array.getElem?_toList,Array.getElem?_reverse (by rw[Array.size_map,hs];exact hk),Array.size_map,hs,Array.getElem?_map,G.at_ _ (by rw[rR];lia),rat _ h1,YS _ (by lia),zp,List.getElem?_range hk]
   rfl
theorem N3(hO:κ.OneLt)(hk:s.heap.get? kS=some (seqObj "list" us.toArray e))(ha:s.heap.get? a=some (seqObj "list" #[] e1))(N1:kS≠a)(hl:us.length=vs.length)(Fd:vs.length<64)(h0:∀u∈us,∃x,κ.keyOf u=some x)
  (hkk:∀nv nA rest,us=nv::nA::rest→keyKind' (nv::nA::rest).toArray=pure oneType')
  (h:∀h' c g out,(∀b o,b≠a→b≠kS→s.heap.get? b=some o→h'.get? b=some o)→h'.get? a=some (seqObj "list" out c)→Ul κ b (iw κ us) vs.length g→out.toList=(List.range vs.length).map (fun k=>vs.getD (g k) .none)→P (.done (.ret .none)) { s with heap:=h' }) :
  wpAny (model prog w) A (ksk_end a b vs.toArray e1 (.ref kS) us.toArray) P E s:=by
 have x5:(us.toArray.zip vs.toArray).size=vs.length:=by rw[Array.size_zip,zr,zr,hl,Nat.min_self]
 have step:∀t:Sem PySem.Fin,wpAny (model prog w) A t P E s→wpAny (model prog w) A (if b=true then (do let _ ← rule "list.sort.reverse";t) else t) P E s:=by
  intro t ht
  split
  ·exact zc (wpAny_rule ht)
  ·exact ht
 have hsz:(if b=true then (us.toArray.zip vs.toArray).reverse else us.toArray.zip vs.toArray).size=vs.length:=by
  cases b with
  |false=>exact x5
  |true=>rw[if_pos rfl,Array.size_reverse,x5]
 have keys:KeysOf κ (if b=true then (us.toArray.zip vs.toArray).reverse else us.toArray.zip vs.toArray):=fun p hp=>by
  have hp:p∈us.zip vs:=by
   have e2:(us.toArray.zip vs.toArray).toList=us.zip vs:=by rw[ksk_zip]
   cases b with
   |false=>rw[if_neg zd,e2] at hp;exact hp
   |true=>rw[if_pos rfl,Array.toList_reverse,e2] at hp;exact List.mem_reverse.mp hp
  obtain⟨x,y⟩:=p
  exact h0 _ (List.of_mem_zip hp).1
 unfold ksk_end
 try dsimp only
 refine step _ ?_
 by_cases h2:vs.toArray.size<2
 ·rw[if_pos h2,if_pos h2]
  refine zc (zu ?_)
  rw[StateT.run_pure]
  refine zc (zu ?_)
  try dsimp only
  rw[zr] at h2
  refine Cp (st:=SortSt.mk' general' (if b=true then (us.toArray.zip vs.toArray).reverse else us.toArray.zip vs.toArray) #[] 7 none) hk ha N1 (by rw[zr];lia) (by show (if b=true then (us.toArray.zip vs.toArray).reverse else us.toArray.zip vs.toArray).size<64;lia) rfl fun h' c k1 k2=>?_
  obtain⟨g,g1,g2⟩:=GI (κ:=κ) (b:=b) (xs:=if b=true then (us.toArray.zip vs.toArray).reverse else us.toArray.zip vs.toArray) (g:=fun k=>k) hl hsz ⟨fun _ _=>rfl,fun _ hk=>hk,fun _ _ _ _ e=>e⟩ (fun i j kN hj=>by lia)
  exact h h' c g _ k1 k2 g1 g2
 ·rw[if_neg h2,if_neg h2]
  rw[zr] at h2
  obtain⟨nv,nA,rest,eu⟩:∃nv nA rest,us=nv::nA::rest:=by
   match us,hl with
   |[],hl=>simp at hl;lia
   |[_],hl=>simp at hl;lia
   |nv::nA::rest,_=>exact⟨nv,nA,rest,rfl⟩
  have ek:keyKind' us.toArray=pure oneType':=by rw[eu];exact hkk _ _ _ eu
  rw[ek]
  refine zc (zu ?_)
  refine zc (yz (NZ (κ:=κ) hO (a₀:=if b=true then (us.toArray.zip vs.toArray).reverse else us.toArray.zip vs.toArray) (st:=SortSt.mk' oneType' (if b=true then (us.toArray.zip vs.toArray).reverse else us.toArray.zip vs.toArray) #[] 7 none)
   (Q:=fun _ eC=>failedOf eC=none∧(arrOf eC).size=vs.length∧∃g,Gh (if b=true then (us.toArray.zip vs.toArray).reverse else us.toArray.zip vs.toArray) g (arrOf eC)∧AH κ (if b=true then (us.toArray.zip vs.toArray).reverse else us.toArray.zip vs.toArray) g vs.length)
   keys ⟨Array.Perm.refl _,rfl,rfl,rfl⟩ rfl (by lia) (by lia) fun eC g q1 q2 q3 q4=>⟨q1,q2.trans hsz,g,q3,by rw[hsz] at q4;exact q4⟩) ?_ fun _ _ e=>e)
  rintro⟨⟨⟩,eC⟩ s' ⟨rfl,hf,WY,g,G,U⟩
  try dsimp only
  have WY:(arrOf eC).size=vs.length:=WY
  refine Cp hk ha N1 (by rw[zr];lia) (by lia) hf fun h' c k1 k2=>?_
  obtain⟨g',g1,g2⟩:=GI (κ:=κ) hl WY G U
  exact h h' c g' _ k1 k2 g1 g2
end
structure LM(X:Cx)(pins:List (Addr×Obj))(b:Addr):Prop where
 loc:b≠X.env.locals
 fs:b∉X.fs
 cell:∀x c,X.env.cells.lookup x=some c→c≠b
 pin:∀p∈X.pn++pins,p.1≠b
 new:X.cP.heap.objs.size≤b
section
variable{X:Cx}{pins:List (Addr×Obj)}{σ:St}{H:Hp}{s:Shared}
theorem Inv.Um(I:Inv X pins σ H s)(h:s.heap.objs.size≤b):LM X pins b :=
 ⟨yg (zl I.lt h),I.PY h,fun x c e=>by obtain⟨v,q⟩:=I.cell x c e;exact zx (zl q.lt h),fun p hp=>zx (zl (zt (I.pin p hp).1) h),zI I.sz h⟩
theorem Inv.JK(I:Inv X pins σ H s)(kp:∀b o,b≠a→b≠k→s.heap.get? b=some o→h'.get? b=some o)(ha:H a=none)(hk:H k=none)(Aa:LM X pins a)(Ak:LM X pins k):Inv X pins σ H { s with heap:=h',toks:=t' }:=by
 have Mq:∀b u,H b=some u→b≠a∧b≠k:=fun b u e=>⟨fun z=>(by rw[z,ha] at e;cases e),fun z=>(by rw[z,hk] at e;cases e)⟩
 refine I.step (g':=s.gens) (d':=s.drawn) (ch:=[a,k]) (fun b hb=>?_) (fun b o _ _ hc e _=>kp b o (fun z=>hc (by simp [z])) (fun z=>hc (by simp [z])) e) (fun b o _ _ hc e _=>⟨o.slots,kp b o (fun z=>hc (by simp [z])) (fun z=>hc (by simp [z])) e⟩) (fun _ _ _ _ n=>n)
  (fun b o hc e=>⟨o,kp b o (fun z=>hc (by simp [z])) (fun z=>hc (by simp [z])) e⟩) (fun _ _ e=>e) (fun _ _ _ e=>e) (fun b ps e=>⟨#[],by rw[e];simp⟩) (fun m hm=>?_) (fun b u e=>?_) I.bare
 ·simp only [zi,zK,or_false] at hb
  rcases hb with rfl|rfl
  ·exact⟨.inr Aa.new,Aa.loc,Aa.cell,Aa.pin⟩
  ·exact⟨.inr Ak.new,Ak.loc,Ak.cell,Ak.pin⟩
 ·obtain⟨o,es,ep,ho,r⟩:=hm
  exact⟨o,es,ep,kp _ o (Ne.symm Aa.loc) (Ne.symm Ak.loc) ho,r⟩
 ·refine (I.aM b u e).oV (fun c v hc q=>?_) (fun _ q=>q) fun _ _ q=>q
  rcases hc with z|z
  ·rw[z] at q ⊢;exact kp b v (Mq b u e).1 (Mq b u e).2 q
  ·exact kp c v (Mq c _ z).1 (Mq c _ z).2 q
theorem Inv.RZ(I:Inv X pins σ H s)(ha:H a=none)(A:LM X pins a)(new:bp X.prog X.w (upd H a o) s.heap a o):Inv X pins σ (upd H a o) s:=by
 refine I.step (h':=s.heap) (g':=s.gens) (d':=s.drawn) (t':=s.toks) (ch:=[a]) (fun b hb=>?_) (fun b o _ _ hc e _=>e) (fun b o _ _ hc e _=>⟨o.slots,e⟩) (fun b u hc e n=>?_) (fun b o hc e=>⟨o,e⟩) (fun b xs e=>?_) (fun b u v e=>?_) (fun b ps e=>?_) (fun m hm=>hm) (fun b u e=>?_) I.bare
 ·rw[zG.mp hb];exact⟨.inr A.new,A.loc,A.cell,A.pin⟩
 ·rw[ax (fun z=>hc (by simp [z]))];exact n
 ·rw[ax (aD e ha)];exact e
 ·rw[ax (aD e ha)];exact e
 ·exact⟨#[],by rw[ax (aD e ha),e];simp⟩
 ·by_cases hb:b=a
  ·subst hb;rw[aF] at e;cases e;exact new
  ·rw[ax hb] at e
   exact (I.aM b u e).oV (fun c v _ q=>q) (fun c q=>by rw[ax (aD q ha)];exact q) fun c xs q=>by rw[ax (aD q ha)];exact q
end
def GJ(X:Cx)(pins:List (Addr×Obj))(σ:St)(A:Around)(f:Addr)(xs:List V)(W:Nat→List V→Hp→Prop):Prop :=
 ∀i x u ks s' H' more,Inv X (pins++more) σ H' s'→W i ks H'→xs[i]?=some x→RelV x u→codeAny (model X.prog X.w) A (.call (.ref f) ⟨[u],[]⟩) (fun q y4=>∃w,q=.ok (.ret w)∧CE X.stack X.prog X.w H' s' (fun k H''=>W (i+1) (ks++[k]) H'') w y4) s'
structure LN(κ:KeyKind)(us:List Value):Prop where
 all:∀u∈us,∃x,κ.keyOf u=some x
 kind:∀nv nA rest,us=nv::nA::rest→keyKind' (nv::nA::rest).toArray=pure oneType'
section
variable{X:Cx}{pins:List (Addr×Obj)}{σ:St}{H:Hp}{s:Shared}{A:Around}{E:Value→Shared→Prop}{xs:List V}{vs:List Value}{f:Addr}{b:Bool}{κ:KeyKind}{W:Nat→List V→Hp→Prop}
theorem Ef{P:PySem.Fin→Shared→Prop}(hO:κ.OneLt)(I:Inv X pins σ H s)(ha:s.heap.get? a=some (seqObj "list" #[] e1))(hk:s.heap.get? kS=some (seqObj "list" #[] 0))(N1:kS≠a)(na:H a=none)(nk:H kS=none)(Aa:LM X pins a)(Ak:LM X pins kS)
  (hv:Vals xs vs) (Fd:vs.length<64) (T:GJ X pins σ A f xs W) (w0:W 0 [] H) (G:∀ks us H',W vs.length ks H'→Vals ks us→ks.length=vs.length→LN κ us)
  (h:∀s' H' ks us c g out,Inv X pins σ H' s'→H' a=none→s'.heap.get? a=some (seqObj "list" out c)→W vs.length ks H'→Vals ks us→ks.length=vs.length→Ul κ b (iw κ us) vs.length g→out.toList=(List.range vs.length).map (fun k=>vs.getD (g k) .none)→P (.done (.ret .none)) s') :
  wpAny (model X.prog X.w) A (ksk_rest a (.ref f) b vs.toArray e1 (.ref kS)) P E s:=by
 have nc:∀(k:Array Value) (n:Nat) (v:Option Value),(seqObj "list" k n).data≠.cell v:=fun _ _ _ z=>nomatch z
 unfold ksk_rest
 refine zc (wpAny_rule ?_)
 rw[List.forIn_toArray]
 refine zc (ksk_fold (fun i s'=>∃ks kA e H',Inv X pins σ H' s'∧W i ks H'∧Vals ks kA.toList∧ks.length=i∧H' a=none∧H' kS=none∧s'.heap.get? a=some (seqObj "list" #[] e1)∧s'.heap.get? kS=some (seqObj "list" kA e)) vs 0 s ⟨[],#[],0,H,I,w0,.nil,rfl,na,nk,ha,hk⟩ ?_ ?_)
 ·rintro j x s' hx ⟨ks,kA,e,H',I',w',v',l',Uo,WZ,W0,FO⟩
  simp only [Nat.zero_add] at l' w' ⊢
  have hj:j<vs.length:=(ze.mp hx).1
  have hl:xs.length=vs.length:=hv.length
  obtain⟨y,hy⟩:∃y,xs[j]?=some y:=⟨_,zf (by lia)⟩
  obtain⟨u,hu,ru⟩:=hv.get hy
  rw[hx] at hu;cases hu
  have Ip:Inv X (pins++[(a,seqObj "list" #[] e1),(kS,seqObj "list" kA e)]) σ H' s':=by
   refine⟨I'.ok,I'.os,I'.bare,I'.base,I'.loc,I'.cell,I'.free,I'.fI,fun p hp=>?_,I'.aM,I'.len⟩
   rcases zL.mp hp with hp|hp
   ·exact I'.pin p (ya _ hp)
   ·rcases zL.mp hp with hp|hp
    ·exact I'.pin p (zy _ hp)
    ·simp only [zi,zK,or_false] at hp
     rcases hp with rfl|rfl
     ·exact⟨W0,Uo,Aa.loc,Aa.fs,nc _ _⟩
     ·exact⟨FO,WZ,Ak.loc,Ak.fs,nc _ _⟩
  have hz:kA.size=j:=by
   have h1:ks.length=kA.toList.length:=v'.length
   have h2:kA.toList.length=kA.size:=yj
   lia
  refine zc (wpAny_attempt (wpAny_call (yM (T j y x ks s' H' _ Ip w' hy ru) fun r s2 hq=>?_)))
  obtain⟨w,rfl,ce⟩:=hq
  obtain⟨k,H2,I2,rk,w2⟩:=Ip.after ce
  dsimp only
  have pa:=I2.pin (a,seqObj "list" #[] e1) (zy _ (zy _ (by simp)))
  have pk:=I2.pin (kS,seqObj "list" kA e) (zy _ (zy _ (by simp)))
  have I3:Inv X pins σ H2 s2:=⟨I2.ok,I2.os,I2.bare,I2.base,I2.loc,I2.cell,I2.free,I2.fI,fun p hp=>I2.pin p (by rcases zL.mp hp with z|z;exact ya _ z;exact zy _ (ya _ z)),I2.aM,I2.len⟩
  have s1:=yu s2.heap kS (Obj.mapSeq (·.push w))
  obtain⟨c2,WX⟩:∃c2,(s2.heap.update kS (Obj.mapSeq (·.push w))).get? kS=some (seqObj "list" (kA.push w) c2):=⟨_,get?_update_seq pk.1 (·.push w)⟩
  refine zc (listUpdate_at pk.1 rfl ?_ (by rw[zZ];lia) (zI (Nat.le_of_eq (Array.size_push ..)) (by rw[zZ];lia)))
  refine zu ⟨rfl,ks++[k],kA.push w,c2,H2,I3.turned (t':=s2.toks) (it:=kS) (fun b o hb q=>(s1.2 b hb).trans q) pk.2.1 Ak.loc (.inr Ak.new) Ak.cell Ak.pin,w2,?_,by simp [l'],pa.2.1,pk.2.1,(s1.2 a N1.symm).trans pa.1,WX⟩
  rw[show (kA.push w).toList=kA.toList++[w] by simp]
  exact v'.append (.cons rk .nil)
 ·rintro s' ⟨ks,kA,e,H',I',w',v',l',Uo,WZ,W0,FO⟩
  simp only [Nat.zero_add] at l' w'
  refine zc (listItems_at FO rfl ?_)
  have eA:kA=kA.toList.toArray:=by simp
  have good:=G ks kA.toList H' w' v' l'
  have hl:kA.toList.length=vs.length:=by
   have h1:ks.length=kA.toList.length:=v'.length
   lia
  rw[eA] at FO
  show wpAny _ _ (ksk_end a b vs.toArray e1 (.ref kS) kA) _ _ _
  rw[eA]
  refine N3 (κ:=κ) hO FO W0 N1 hl Fd good.all good.kind fun h' c g out k1 k2 k3 k4=>?_
  exact h _ H' ks kA.toList c g out (I'.JK (t':=s'.toks) k1 Uo WZ Aa Ak) Uo k2 w' v' l' k3 k4
theorem tR(hO:κ.OneLt)(I:Inv X pins σ H s)(hl:jE X.K H l xs)(Fd:xs.length<64)(Up:argsOk "sorted" ⟨[.ref l],kw⟩)(Uq:∀x,argsOk "list.sort" ⟨[.ref x],kw⟩)(ht:∀x,Builtin.«list.sort» ⟨[.ref x],kw⟩=ksk_tree x (.ref f) b)
  (T:GJ X pins σ A.in1.in1 f xs W) (w0:W 0 [] H) (G:∀ks us H',W xs.length ks H'→Vals ks us→ks.length=xs.length→LN κ us)
  (h:∀H' ks us g D,W xs.length ks H'→Vals ks us→ks.length=xs.length→Ul κ b (iw κ us) xs.length g→H' D=none→Q (.ref D) (upd H' D (.lst ((List.range xs.length).map fun k=>xs.getD (g k) .aw)))) :
  wpAny (model X.prog X.w) A (call (.builtin "sorted") [.ref l] kw) (EP X pins σ Q) E s:=by
 obtain⟨vs,hv,pl,_⟩:=I.list hl
 have Pw:xs.length=vs.length:=hv.length
 rw[Pw] at Fd G h
 refine call_function_entry_kw kind_sorted plain_sorted entry_sorted Up ?_
 unfold Builtin.«sorted»
 refine zc (m:=checkCount "sorted" 1 1 _) (zu ?_)
 refine zc (collect_list pl.isList ?_ (by rw[zZ];lia))
 refine zc (wpAny_newList ?_ (by rw[zZ];lia))
 have hsz:((s.heap.push (seqObj "list" #[] 0)).update s.heap.objs.size (Obj.mapSeq (·++vs.toArray))).objs.size=s.heap.objs.size+1:=by rw[Heap.size_update,size_push']
 have EZ:(((s.heap.push (seqObj "list" #[] 0)).update s.heap.objs.size (Obj.mapSeq (·++vs.toArray))).push (seqObj "list" vs.toArray 0)).get? (s.heap.objs.size+1)=some (seqObj "list" vs.toArray 0):=by
  rw[← hsz];exact zj _ rfl
 have keep:∀b o,s.heap.get? b=some o→(((s.heap.push (seqObj "list" #[] 0)).update s.heap.objs.size (Obj.mapSeq (·++vs.toArray))).push (seqObj "list" vs.toArray 0)).get? b=some o:=fun b o q=>by
  have eE:b<s.heap.objs.size:=zt q
  rw[Heap.get?_push_ne _ _ _ (by rw[hsz];exact zx (Nat.lt_succ_of_lt eE)),Heap.get?_update_ne _ _ _ _ (zx eE),Heap.get?_push_ne _ _ _ (zx eE)]
  exact q
 show wpAny _ _ _ _ _ { s with heap:=((s.heap.push (seqObj "list" #[] 0)).update s.heap.objs.size (Obj.mapSeq (·++vs.toArray))).push (seqObj "list" vs.toArray 0) }
 rw[hsz]
 generalize hg:((s.heap.push (seqObj "list" #[] 0)).update s.heap.objs.size (Obj.mapSeq (·++vs.toArray))).push (seqObj "list" vs.toArray 0)=h1 at EZ keep ⊢
 have I1:Inv X pins σ H { s with heap:=h1 }:=I.kept (t':=s.toks) keep
 have Aa:LM X pins (s.heap.objs.size+1):=I.Um (yO _)
 have na:H (s.heap.objs.size+1)=none:=I.aM.fresh (yO _)
 generalize s.heap.objs.size+1=a at EZ Aa na ⊢
 refine zc (yD (wpAny_call_entry_kw slot_list_sort ⟨_,EZ,rfl⟩ entry_list_sort ?_ (Uq _)))
 show wpAny (model X.prog X.w) A.in1.in1 (Builtin.«list.sort» ⟨[.ref a],kw⟩) _ _ _
 rw[ht a]
 have s1:=yu h1 a (Obj.mapSeq fun _=>(#[]:Array Value))
 obtain⟨e1,N4⟩:∃e1,(h1.update a (Obj.mapSeq fun _=>(#[]:Array Value))).get? a=some (seqObj "list" #[] e1):=⟨_,get?_update_seq EZ fun _=>#[]⟩
 have I2:Inv X pins σ H { s with heap:=h1.update a (Obj.mapSeq fun _=>(#[]:Array Value)) }:=Inv.turned (s:={ s with heap:=h1 }) (h':=h1.update a (Obj.mapSeq fun _=>(#[]:Array Value))) (t':=s.toks) (it:=a) I1 (fun b o hb q=>(s1.2 b hb).trans q) na Aa.loc (.inr Aa.new) Aa.cell Aa.pin
 unfold ksk_tree
 refine zc (listItems_at EZ rfl ?_)
 refine zc (listUpdate_at EZ rfl ?_ (by rw[zr,zZ];lia) (zS _))
 refine zc (seqEpoch_at N4 rfl ?_)
 refine zc (wpAny_newTuple ?_ (by show vs.length≤_;rw[zZ];lia))
 refine zc (wpAny_newList ?_ (zS _))
 refine yD ?_
 generalize h1.update a (Obj.mapSeq fun _=>(#[]:Array Value))=h2 at N4 I2 ⊢
 have k3:∀b u,h2.get? b=some u→((h2.push (seqObj "tuple" vs.toArray 0)).push (seqObj "list" #[] 0)).get? b=some u:=fun b u q=>za _ (za _ q)
 have I3:Inv X pins σ H { s with heap:=(h2.push (seqObj "tuple" vs.toArray 0)).push (seqObj "list" #[] 0) }:=I2.kept (t':=s.toks) k3
 have AJ:h2.objs.size≤(h2.push (seqObj "tuple" vs.toArray 0)).objs.size:=by rw[size_push'];exact yO _
 refine Ef (s:={ s with heap:=(h2.push (seqObj "tuple" vs.toArray 0)).push (seqObj "list" #[] 0) }) (kS:=(h2.push (seqObj "tuple" vs.toArray 0)).objs.size) hO I3 (k3 _ _ N4) (zj _ rfl) (yg (zl (zt N4) AJ)) na (I2.aM.fresh AJ) Aa (I2.Um AJ) hv Fd T w0 G fun s' H' ks us c g out J n1 o1 w1 v1 l1 q1 q2=>⟨.none,rfl,?_⟩
 refine zu !⟨.ref a,_,J.RZ (o:=.lst ((List.range vs.length).map fun k=>xs.getD (g k) .aw)) n1 Aa ⟨?_,out.toList,c,?_,?_⟩,rfl,h H' ks us g a w1 v1 l1 q1 n1⟩
 ·rw[zb,List.length_range,zZ];lia
 ·rw[q2]
  have:∀(ns:List Nat),(∀k∈ns,g k<vs.length)→Vals (ns.map fun k=>xs.getD (g k) .aw) (ns.map fun k=>vs.getD (g k) .none):=fun ns=>by
   induction ns with
   |nil=>exact fun _=>.nil
   |cons k ns ih =>
    intro hk
    have W2:=hk k zo
    obtain⟨y,hy⟩:∃y,xs[g k]?=some y:=⟨_,zf (by lia)⟩
    obtain⟨u,hu,ru⟩:=hv.get hy
    refine .cons ?_ (ih fun k dW=>hk k (zh _ dW))
    show RelV (xs.getD (g k) .aw) (vs.getD (g k) .none)
    rw[zD,hy,zD,hu]
    exact ru
  exact this _ fun k hk=>q1.lt k (zN.mp hk)
 ·rw[o1]
end
def Bm(mg:Str→Option Value)(base:Heap):Prop:=∃bm o,mg "__builtins__" = some (.ref bm)∧bm≠builtinsNs∧base.get? bm=some o∧o.cls=.type "module" ∧ o.dict=some builtinsNs∧o.data=.plain
structure W3(K:Frag)(mg:Str→Option Value)(base:Heap)(c P:Addr):Prop where
 hd:codeHdIn K c P=true
 bm:Bm mg base
theorem AK{pos p2:Pos}{c cv:Value}(l:List Value)(h:TriplesOk l)(e:codeAmong pos (l++[rawInt p2.line,rawInt p2.col,c])=some cv):codeAmong pos l=some cv∨cv=c:=by
 fun_induction TriplesOk l with
 |case1 =>
  simp only [List.nil_append,rawInt,codeAmong] at e
  split at e
  ·cases e;exact .inr rfl
  ·cases e
 |case2 a t b u x rest ih =>
  simp only [List.cons_append,codeAmong] at e ⊢
  split at e
  ·rename_i hc;rw[if_pos hc];exact .inl e
  ·rename_i hc;rw[if_neg hc];exact ih h e
 |case3 l h1 h2=>exact h.elim
section
variable{X:Cx}{pins:List (Addr×Obj)}{σ:St}{H:Hp}{s:Shared}
theorem Inv.tab{h':Heap}{tk:Nat}{P c:Addr}{ps Px:Array Value}{oc fo:Obj}(I:Inv X pins σ H s)(hP:H P=some (.pE ps))(hx:Heap.ExtBut P s.heap h')(h1:s.heap.objs.size≤c)(h2:c<h'.objs.size)(hc:h'.get? c=some oc)(hp:h'.get? P=some (tabObj (ps++Px))) :
  Inv X pins σ (upd (upd H P (.pE (ps++Px))) c (.kI oc (.own 0))) { s with heap:=h'.push fo,toks:=tk }:=by
 have YT:c≠P:=fun z=>absurd (zl (I.aM.lt hP) (z ▸ h1)) (yr _)
 have nc:H c=none:=I.aM.fresh h1
 have other:∀b,b≠P→b≠c→upd (upd H P (.pE (ps++Px))) c (.kI oc (.own 0)) b=H b:=fun b z1 z2=>by rw[ax z2,ax z1]
 have nP:∀b o,H b=some o→(∀q,o≠.pE q)→b≠P:=fun b o e z q=>by rw[q,hP] at e;cases e;exact z _ rfl
 have W4:∀b,H b=none→b≠P:=fun b e q=>by rw[q,hP] at e;cases e
 have lt:∀b o,s.heap.get? b=some o→b≠c:=fun b o e=>zx (zl (zt e) h1)
 refine I.un (h':=h'.push fo) ⟨fun b o e n _ _=>za _ (hx b o (W4 b n) e),fun b o e n _ _=>⟨o.slots,za _ (hx b o (W4 b n) e)⟩,fun b o e n _=>by rw[other b (W4 b n) (lt b o e)];exact n,fun b o e _=>?_,fun b xs e=>by rw[other b (nP b _ e fun _=>nofun) (aD e nc)];exact e,fun b o u e=>by rw[other b (nP b _ e fun _=>nofun) (aD e nc)];exact e,fun b q e=>?_⟩ fun b u e=>?_
 ·by_cases hb:b=P
  ·rw[hb];exact⟨_,za _ hp⟩
  ·exact⟨o,za _ (hx b o hb e)⟩
 ·by_cases hb:b=P
  ·subst hb
   rw[hP] at e;cases e
   exact⟨Px,by rw[ax (Ne.symm YT),aF]⟩
  ·exact⟨#[],by rw[other b hb (aD e nc),e];simp⟩
 ·by_cases Py:b=c
  ·subst Py
   rw[aF] at e;cases e
   exact⟨za _ hc,_,za _ hc⟩
  ·rw[ax Py] at e
   by_cases hb:b=P
   ·subst hb
    rw[aF] at e;cases e
    exact za _ hp
   ·rw[ax hb] at e
    refine (I.aM b u e).oV (fun d v hd q=>?_) (fun d q=>by rw[other d (nP d _ q fun _=>nofun) (aD q nc)];exact q) fun d xs q=>by rw[other d (nP d _ q fun _=>nofun) (aD q nc)];exact q
    rcases hd with rfl|hd
    ·exact za _ (hx d v hb q)
    ·exact za _ (hx d v (nP d _ hd fun _=>nofun) q)
theorem Inv.Cq(I:Inv X pins σ H s)(ho:s.heap.get? f=some o)(hn:H f=none)(A:LM X pins f)(d:∀v,o.data≠.cell v):Inv X (pins++[(f,o)]) σ H s:=by
 refine⟨I.ok,I.os,I.bare,I.base,I.loc,I.cell,I.free,I.fI,fun p hp=>?_,I.aM,I.len⟩
 rcases zL.mp hp with hp|hp
 ·exact I.pin p (ya _ hp)
 ·rcases zL.mp hp with hp|hp
  ·exact I.pin p (zy _ hp)
  ·rw[zG.mp hp];exact⟨ho,hn,A.loc,A.fs,d⟩
structure R1(X:Cx)(pins:List (Addr×Obj))(σ:St)(H H':Hp)(P:Addr)(q:Str)(params:Arguments)(body:Expr)(scope:Scope)(u:Value)(s':Shared)(f:Addr)(pm cv lK:Value):Prop where
 u:u=.ref f
 inv:Inv X (pins++[(f,wR X q params body scope pm cv lK)]) σ H' s'
 code:∃c o vs t,cv=.ref c∧H' c=some (.kI o (.own 0))∧o.data=.fields vs∧vs[1]?=some (.str q t)
 same:∀b,H' b=H b∨(b=P∧∃ps,H' b=some (.pE ps)∧B_ H' q ps)∨(H b=none∧∃o,H' b=some (.kI o (.own 0)))
theorem wV{M:Model}{A:Around}{E:Value→Shared→Prop}{N:List Str}{src:List (Option Nat)}{scope:Scope}{params:Arguments}{body:Expr}{pos:Pos}{c P:Addr}{q:Str}{ps:Array Value}{Q:Value→Shared→Prop}(I:Inv X pins σ H s)(S:bJ X N src scope)(ox:X.env.code=.ref c)(mk:W3 X.K X.mg X.base c P)
  (hP:H P=some (.pE ps)) (ok:B_ H q ps) (hq:X.env.qual ++ "<lambda>" = q) (GK:defaultsOf params X.env=([],[]))
  (h:∀u s' H' f pm cv lK,R1 X pins σ H H' P q params body scope u s' f pm cv lK→Q u s'):wpAny M A (eval (.Lambda params body scope pos) X.env) Q E s:=by
 have DQ:closureFor scope X.env=pure (clOf X.env.cells scope.names):=fX fun y hy hf=>I.ok.has y.1 (S.Ab y hy hf)
 have Ur:s.heap.get? P=some (tabObj ps):=I.aM P _ hP
 have hg:s.heap.Ns mainGlobals X.mg:=I.mod.glob.keeps I.bk
 have hC:=codeHd_of_K I.oh mk.hd
 obtain⟨bm,ob,b1,b2,b3,b4,b5,b6⟩:=mk.bm
 have Us:s.heap.get? bm=some ob:=I.bk _ _ b3
 have hgP:mainGlobals≠P:=fun z=>by
  obtain⟨o,es,ep,e,d,_⟩:=id hg
  rw[z,Ur] at e;cases e;cases d
 have hbG:bm≠mainGlobals:=fun z=>by
  obtain⟨o,es,ep,e,d,_⟩:=id hg
  rw[← z,Us] at e;cases e;rw[b6] at d;cases d
 have hbP:bm≠P:=fun z=>by rw[z,Ur] at Us;cases Us;cases b4
 have hB:s.heap.BuiltinsAt X.mg P:=⟨bm,ob,b1,b2,hbG,hbP,Us,b4,b5,b6⟩
 have hqs:H P≠none:=by rw[hP];nofun
 refine PySem.W.kla_eval GK ?_
 rw[hq]
 cases hf:codeAmong pos ps.toList with
 |none =>
  refine PySem.W.kla_makeFunction DQ I.ok.glob hg ox hC Ur ok.1 hf hgP hB fun c' lK h' tk hx h1 h2 hr hp=>?_
  obtain⟨c2,oc,vs,t,e2,TH,hd,hv⟩:=hr
  cases e2
  have J:=I.tab (tk:=tk) (fo:=wR X q params body scope ((X.mg "__name__").getD .none) (.ref c') lK) hP hx h1 h2 TH hp
  have YT:c'≠P:=fun z=>absurd (zl (I.aM.lt hP) (z ▸ h1)) (yr _)
  have nc:H c'=none:=I.aM.fresh h1
  have fresh:∀b,h'.objs.size≤b→upd (upd H P (.pE (ps++#[rawInt pos.line,rawInt pos.col,.ref c']))) c' (.kI oc (.own 0)) b=none:=fun b hb=>by
   have wg:s.heap.objs.size≤b:=zI (zI h1 (yB h2)) hb
   rw[ax (yg (zl h2 hb)),ax (yg (zl (I.aM.lt hP) wg))]
   exact I.aM.fresh wg
  have hsz:s.heap.objs.size≤h'.objs.size:=zI h1 (yB h2)
  refine h _ _ _ h'.objs.size _ _ _ ⟨rfl,J.Cq (zj _ rfl) (fresh _ (zm _)) (I.Um hsz) (fun v z=>nomatch z),⟨c',oc,vs,t,rfl,aF,hd,hv⟩,fun b=>?_⟩
  by_cases Py:b=c'
  ·subst Py;exact .inr (.inr ⟨nc,oc,aF⟩)
  ·by_cases hb:b=P
   ·subst hb
    refine .inr (.inl ⟨rfl,_,by rw[ax Py,aF],?_,fun p2 cv e=>?_⟩)
    ·rw[Array.toList_append];exact TriplesOk_snoc _ _ _ _ ok.1
    ·rw[Array.toList_append] at e
     rcases AK _ ok.1 e with e|e
     ·obtain⟨d,o,ws,t2,z1,z2,z3⟩:=ok.2 p2 cv e
      exact⟨d,o,ws,t2,z1,by rw[ax (aD z2 nc),ax (fun z=>by rw[z,hP] at z2;cases z2)];exact z2,z3⟩
     ·exact⟨c',oc,vs,t,e,aF,hd,hv⟩
   ·exact .inl (by rw[ax Py,ax hb])
 |some cv =>
  refine PySem.W.kla_makeFunctionHit DQ I.ok.glob hg ox hC Ur ok.1 hf hB fun lK h' tk hk hsz=>?_
  have J:Inv X pins σ H { s with heap:=h'.push (wR X q params body scope ((X.mg "__name__").getD .none) cv lK),toks:=tk }:=I.kept fun b u e=>za _ (hk b u e)
  exact h _ _ _ h'.objs.size _ _ _ ⟨rfl,J.Cq (zj _ rfl) (I.aM.fresh hsz) (I.Um hsz) (fun v z=>nomatch z),ok.2 pos cv hf,fun b=>.inl rfl⟩
end
def R3:D→D→Prop
 |.int a,.int b=>a<b
 |.str a,.str b=>a.cps.toList<b.cps.toList
 |_,_=>False
def wW(ks:List D):Prop:=(∃zs:List Str,ks=zs.map D.str)∨∃ns:List Int,ks=ns.map D.int
structure N5(b:Bool)(key:Nat→D)(n:Nat)(g:Nat→Nat):Prop where
 lt:∀k,k<n→g k<n
 inj:∀i j,i<n→j<n→g i=g j→i=j
 ord:∀i j,i<j→j<n→(if b=true then R3 (key (g j)) (key (g i)) else R3 (key (g i)) (key (g j)))∨(key (g i)=key (g j)∧g i<g j)
def wX(b:Bool)(P:Addr)(q:Str)(src:List (Option Nat))(te:TD)(σ:SD)(R:KD)(d:D)(S1:av):Prop:=∃(l:Addr) (xs:List D) (f:D→D),d=.ref l∧S1 l=some (.lst xs)∧xs.length<64∧S1 P=some (.tab q)∧wW (xs.map f) ∧
 (∀x,x∈xs→∀S',Sub S1 S'→∀Qk:KD,(∀S2,Sub S' S2→Qk (f x) S2)→te ((ou σ src).set 0 (some x)) S' Qk Zf) ∧
 ∀g S2 p,N5 b (fun j=>f (xs.getD j .aw)) xs.length g→Sub S1 S2→S2 p=none→R (.ref p) (S2.set p (.lst ((List.range xs.length).map fun k=>xs.getD (g k) .aw)))
def LO(b:Bool)(P:Addr)(q:Str)(src:List (Option Nat))(tl te:TD):TD:=fun σ S R Z=>tl σ S (fun d S1=>wX b P q src te σ R d S1) Z
def GL(F:D→av→Prop):List D→av→Prop
 |[d],S=>F d S
 |_,_=>False
theorem Cr{F:D→av→Prop}{ds:List D}{S:av}(h:GL F ds S):∃d,ds=[d]∧F d S:=by
 match ds,h with
 |[d],h=>exact⟨d,rfl,h⟩
theorem qB:∀{ss:List Int}{aA:List Value},Vals (ss.map V.int) aA→IntsAre aA ss
 |[],_,.nil=>.nil
 |z::ss,_,.cons r t=>by
  obtain⟨tk,rfl⟩:=r
  exact .cons z tk (qB t)
theorem qC:∀{us:List Value}{zs:List Str},StrsAre us zs→∀j,j<zs.length→iw strKind us j=(zs.getD j "").cps.toList
 |_,_,.cons z t h,0,_=>rfl
 |_,_,.cons z t h,j+1,hj=>by
  have:=qC h j (by simpa using hj)
  unfold iw at this ⊢
  rw[List.getD_cons_succ,List.getD_cons_succ]
  exact this
theorem qD:∀{us:List Value}{zs:List Int},IntsAre us zs→∀j,j<zs.length→iw intK us j=zs.getD j 0
 |_,_,.cons z t h,0,_=>rfl
 |_,_,.cons z t h,j+1,hj=>by
  have:=qD h j (by simpa using hj)
  unfold iw at this ⊢
  rw[List.getD_cons_succ,List.getD_cons_succ]
  exact this
theorem GN(h:StrsAre us zs):∀u∈us,∃x,strKind.keyOf u=some x:=by
 induction h with
 |nil=>intro u hu;cases hu
 |cons z t h ih =>
  intro u hu
  rcases zi.mp hu with rfl|hu
  ·exact⟨_,rfl⟩
  ·exact ih u hu
theorem GO(h:IntsAre us zs):∀u∈us,∃x,intK.keyOf u=some x:=by
 induction h with
 |nil=>intro u hu;cases hu
 |cons z t h ih =>
  intro u hu
  rcases zi.mp hu with rfl|hu
  ·exact⟨_,rfl⟩
  ·exact ih u hu
theorem GP{xs:List D}{f:D→D}{j:Nat}(hj:j<xs.length):(xs.map f)[j]?=some (f (xs.getD j .aw)):=by
 rw[zp,zD,zf hj];rfl
theorem uM{K:Frag}{H:Hp}{ds:List D}{xs:List V}(h:RvAll K H ds xs)(g:Nat→Nat):∀(ns:List Nat),(∀k∈ns,g k<ds.length)→RvAll K H (ns.map fun k=>ds.getD (g k) .aw) (ns.map fun k=>xs.getD (g k) .aw)
 |[],_=>bC
 |k::ns,hk=>by
  have W2:=hk k zo
  obtain⟨v,e,r⟩:=h.get (zf W2)
  refine aS ?_ (uM h g ns fun k dW=>hk k (zh _ dW))
  show Rv K H (ds.getD (g k) .aw) (xs.getD (g k) .aw)
  rw[zD,zf W2,zD,e]
  exact r
section
variable{K:Frag}{Y:Cx}{pins:List (Addr×Obj)}{τ:St}{H H2:Hp}{s:Shared}{N:List Str}{src:List (Option Nat)}{scope:Scope}{params:Arguments}{body:Expr}{q p:Str}{pm cv lK:Value}{f l:Addr}{te:TD}{b:Bool}{kw:List (Str×Value)}{k:Nat}
theorem wY{σ:SD}{S1:av}{xs:List D}{fD:D→D}{Q:VK}{R:KD}{E:Value→Shared→Prop}(I:Inv Y (pins++[(f,wR Y q params body scope pm cv lK)]) τ H s)(hK:Y.K=K)(R4:Y.calm=true)(hr:bQ k Y.A)(ox:∃c o vs t,cv=.ref c∧H c=some (.kI o (.own 0))∧o.data=.fields vs∧vs[1]?=some (.str q t))
  (CS:bJ Y N src scope) (JI:N[0]?=some p) (hp:scope.names.lookup p=some .local) (h0:src[0]?=some none) (JJ:scope.isCoroutine=false) (AI:scope.isGenerator=false)
  (hb:∀cl pm cv lK u,bindArgs (kla_fn "<lambda>" q params body scope cl pm cv lK) ⟨[u],[]⟩=pure [(p,u)]) (he:∀cv s H,DE K (Pu Y N q scope f cv Y.A.in1.in1 s H) body te)
  (aB:gY K H σ τ) (hS:Rs K S1 H) (hl:S1 l=some (.lst xs)) (Fd:xs.length<64) (kd:wW (xs.map fD))
  (step:∀x,x∈xs→∀S',Sub S1 S'→∀Qk:KD,(∀S2,Sub S' S2→Qk (fD x) S2)→te ((ou σ src).set 0 (some x)) S' Qk Zf)
  (hR:Cn K H R Q) (fin:∀g S2 p,N5 b (fun j=>fD (xs.getD j .aw)) xs.length g→Sub S1 S2→S2 p=none→R (.ref p) (S2.set p (.lst ((List.range xs.length).map fun k=>xs.getD (g k) .aw))))
  (Up:argsOk "sorted" ⟨[.ref l],kw⟩) (Uq:∀x,argsOk "list.sort" ⟨[.ref x],kw⟩) (ht:∀x,Builtin.«list.sort» ⟨[.ref x],kw⟩=ksk_tree x (.ref f) b) :
  wpAny (model Y.prog Y.w) Y.A (call (.builtin "sorted") [.ref l] kw) (EP Y pins τ Q) E s:=by
 subst hK
 obtain⟨vs,hv,rv⟩:=hS.lst hl
 have Pw:vs.length=xs.length:=rv.len
 obtain⟨c,oc,ws,tk,ecv,hc,rO,hcq⟩:=ox
 have drop:∀{u:Value}{s':Shared},EP Y (pins++[(f,wR Y q params body scope pm cv lK)]) τ Q u s'→EP Y pins τ Q u s':=fun ⟨v,H',J,r,q⟩=>⟨v,H',⟨J.ok,J.os,J.bare,J.base,J.loc,J.cell,J.free,J.fI,fun p hp=>J.pin p (by
  rcases zL.mp hp with z|z
  ·exact ya _ z
  ·exact zy _ (ya _ z)),J.aM,J.len⟩,r,q⟩
 have T:GJ Y (pins++[(f,wR Y q params body scope pm cv lK)]) τ Y.A.in1.in1 f vs fun i ks H'=>∃S',Sub S1 S'∧Rs Y.K S' H'∧Kp Y.K H H'∧RvAll Y.K H' ((xs.take i).map fD) ks:=by
  rintro i x u ks s' H' more I' ⟨S',sb,rs,kp,rk⟩ hx ru
  have hi:i<xs.length:=by have:=(ze.mp hx).1;lia
  obtain⟨v,e1,r1⟩:=rv.get (zf hi)
  rw[hx] at e1;cases e1
  have po:=(I'.pin (f,wR Y q params body scope pm cv lK) (zy _ (ya _ (zy _ (by simp))))).1
  have hcr:s'.heap.CodeRec cv q:=⟨c,oc,ws,tk,ecv,(I'.aM c _ (kp.f _ _ _ hc)).1,rO,hcq⟩
  refine GF (A:=Y.A.in1.in1) I' CS JI hp h0 I'.ok.frames (I'.ok.hd R4) (by have:=hr.dp;show Y.A.depth<_;lia) ru po hcr JJ AI (hb _ _ _ _ _) ((he cv s' H').of (.none _ rfl)) ?_
  refine⟨_,S',fun kk S2=>kk=fD xs[i]∧Sub S' S2,Zf,((aB.ts kp).pick src).set 0 (Rv.ts kp _ r1),rs,step _ (List.getElem_mem hi) S' sb _ fun S2 h2=>⟨rfl,h2⟩,fun kk S2 v2 H2 ⟨e2,uA⟩ Pz W5 Ut=>?_,.f⟩
  subst e2
  refine⟨S2,sb.trans uA,W5,kp.trans Ut,?_⟩
  rw[show xs.take (i+1)=xs.take i++[xs[i]] by rw[List.take_add_one,zf hi];rfl,zH]
  exact (RvAll.ts Ut _ rk).app (aS Pz bC)
 have w0:∃S',Sub S1 S'∧Rs Y.K S' H∧Kp Y.K H H∧RvAll Y.K H ((xs.take 0).map fD) []:=⟨S1,.refl _,hS,.refl _,by rw[List.take_zero];exact bC⟩
 have TN:jE Y.K H l vs:=.of hv
 rcases kd with ⟨zs,ez⟩|⟨zs,ez⟩
 ·have hzl:zs.length=xs.length:=by have:=congrArg List.length ez;rw[zb,zb] at this;exact this.symm
  have ka:∀j,j<xs.length→fD (xs.getD j .aw)=.str (zs.getD j ""):=fun j hj=>by
   have e1:=GP (f:=fD) hj
   rw[ez,zp,zf (by lia)] at e1
   rw[zD (l:=zs),zf (by lia)]
   exact (zM e1).symm
  have kv:∀ks us H',(∃S',Sub S1 S'∧Rs Y.K S' H'∧Kp Y.K H H'∧RvAll Y.K H' ((xs.take vs.length).map fD) ks)→Vals ks us→StrsAre us zs:=fun ks us H' ⟨S',_,_,_,rk⟩ hu=>by
   rw[Pw,List.take_length,ez] at rk
   rw[rk.strs] at hu
   exact qA hu
  refine yz (tR (κ:=strKind) (Q:=Q) (b:=b) strKind_oneLt I TN (by lia) Up Uq ht T w0 (fun ks us H' w1 v1 l1=>⟨GN (kv ks us H' w1 v1),fun nv nA rest e=>keyKind_strs (by rw[← e];exact kv ks us H' w1 v1)⟩) fun H' ks us g D w1 v1 l1 sr hD=>?_) (fun u s' z=>drop z) fun _ _ z=>z
  have sk:=kv ks us H' w1 v1
  obtain⟨S',sb,rs,kp,rk⟩:=w1
  rw[Pw] at sr ⊢
  refine (hR.kp kp).new rs hD (fun hp=>fin g S' D ⟨sr.lt,sr.inj,fun i j kN hj=>?_⟩ sb hp) (uM (RvAll.ts kp _ rv) g _ fun k hk=>sr.lt k (zN.mp hk))
  have h1:=sr.lt i (by lia)
  have h2:=sr.lt j hj
  have:=sr.ord i j kN hj
  rw[qC sk _ (by lia),qC sk _ (by lia)] at this
  rw[ka _ h1,ka _ h2]
  rcases this with z|⟨z1,z2⟩
  ·left
   cases b with
   |false =>
    rw[if_neg zd] at z ⊢
    show (zs.getD (g i) "").cps.toList<(zs.getD (g j) "").cps.toList
    exact zA z
   |true =>
    rw[if_pos rfl] at z ⊢
    show (zs.getD (g j) "").cps.toList<(zs.getD (g i) "").cps.toList
    exact zA z
  ·exact .inr ⟨by rw[WS z1],z2⟩
 ·have hzl:zs.length=xs.length:=by have:=congrArg List.length ez;rw[zb,zb] at this;exact this.symm
  have ka:∀j,j<xs.length→fD (xs.getD j .aw)=.int (zs.getD j 0):=fun j hj=>by
   have e1:=GP (f:=fD) hj
   rw[ez,zp,zf (by lia)] at e1
   rw[zD (l:=zs),zf (by lia)]
   exact (zM e1).symm
  have kv:∀ks us H',(∃S',Sub S1 S'∧Rs Y.K S' H'∧Kp Y.K H H'∧RvAll Y.K H' ((xs.take vs.length).map fD) ks)→Vals ks us→IntsAre us zs:=fun ks us H' ⟨S',_,_,_,rk⟩ hu=>by
   rw[Pw,List.take_length,ez] at rk
   rw[rk.ints] at hu
   exact qB hu
  refine yz (tR (κ:=intK) (Q:=Q) (b:=b) GG I TN (by lia) Up Uq ht T w0 (fun ks us H' w1 v1 l1=>⟨GO (kv ks us H' w1 v1),fun nv nA rest e=>keyKind_ints (by rw[← e];exact kv ks us H' w1 v1)⟩) fun H' ks us g D w1 v1 l1 sr hD=>?_) (fun u s' z=>drop z) fun _ _ z=>z
  have sk:=kv ks us H' w1 v1
  obtain⟨S',sb,rs,kp,rk⟩:=w1
  rw[Pw] at sr ⊢
  refine (hR.kp kp).new rs hD (fun hp=>fin g S' D ⟨sr.lt,sr.inj,fun i j kN hj=>?_⟩ sb hp) (uM (RvAll.ts kp _ rv) g _ fun k hk=>sr.lt k (zN.mp hk))
  have h1:=sr.lt i (by lia)
  have h2:=sr.lt j hj
  have:=sr.ord i j kN hj
  rw[qD sk _ (by lia),qD sk _ (by lia)] at this
  rw[ka _ h1,ka _ h2]
  rcases this with z|⟨z1,z2⟩
  ·left
   cases b with
   |false =>
    rw[if_neg zd] at z ⊢
    show zs.getD (g i) 0<zs.getD (g j) 0
    exact zA z
   |true =>
    rw[if_pos rfl] at z ⊢
    show zs.getD (g j) 0<zs.getD (g i) 0
    exact zA z
  ·exact .inr ⟨by rw[z1],z2⟩
end
section
variable{K:Frag}{X:Cx}{N:List Str}{src:List (Option Nat)}{scope:Scope}{params:Arguments}{e body:Expr}{q p x:Str}{np pos lp kq kq2 cp:Pos}{ci}{tl te:TD}{k:Nat}{c P:Addr}
theorem R1.kp{pins:List (Addr×Obj)}{τ:St}{H H':Hp}{u:Value}{s':Shared}{f:Addr}{pm cv lK:Value}{Y:Cx}(L:R1 Y pins τ H H' P q params body scope u s' f pm cv lK){ps:Array Value}(hP:H P=some (.pE ps)):Kp K H H':=.of fun b o e=>by
 rcases L.same b with z|⟨z,_⟩|⟨z,_⟩
 ·exact .inl (by rw[z];exact e)
 ·rw[z,hP] at e;cases e;exact .inr ⟨fun _=>nofun,fun _ _=>nofun⟩
 ·rw[z] at e;cases e
theorem R1.rs{pins:List (Addr×Obj)}{τ:St}{H H':Hp}{u:Value}{s':Shared}{f:Addr}{pm cv lK:Value}{Y:Cx}{S:av}(L:R1 Y pins τ H H' P q params body scope u s' f pm cv lK)(hS:Rs K S H)(ht:S P=some (.tab q)):Rs K S H':=fun b x hb=>by
 obtain⟨ps,hP,_⟩:=hS P _ ht
 have kp:Kp K H H':=L.kp hP
 rcases L.same b with z|⟨rfl,Px,z1,z2⟩|⟨z,_⟩
 ·exact (hS b x hb).keep (fun o e=>by rw[z];exact e) kp
 ·rw[ht] at hb;cases hb;exact⟨Px,z1,z2⟩
 ·obtain⟨o,e,_⟩:=(hS b x hb).has;rw[z] at e;cases e
theorem R5(ox:X.env.code=.ref c)(mk:W3 K X.mg X.base c P)(hr:bQ k X.A)(CS:bJ X N src scope)(hl:DE K X e tl)(he:∀f cv s H,DE K (Pu X N q scope f cv X.A.in1.in1 s H) body te)(hm:X.mg x=none)(hv:bootBuiltins x=some (.builtin "sorted"))
  (hq:X.env.qual ++ "<lambda>" = q:=by rfl) (JI:N[0]?=some p:=by rfl) (hp:scope.names.lookup p=some .local:=by rfl) (h0:src[0]?=some none:=by rfl) (JJ:scope.isCoroutine=false:=by rfl) (AI:scope.isGenerator=false:=by rfl)
  (hb:∀cl pm cv lK u,bindArgs (kla_fn "<lambda>" q params body scope cl pm cv lK) ⟨[u],[]⟩=pure [(p,u)]:=by intro _ _ _ _ _;rfl) (GK:defaultsOf params X.env=([],[]):=by rfl) (hg:Gl X x:=by rfl) (hn:x ≠ "__name__" := by decide) (oZ:(x == ("__debug__" : Str))=false:=by decide)
  (W6:backTo pos (starEach [e] X.env)=(false,eval e X.env)::backTo pos (starEach [] X.env):=by rfl) (dD:(backTo pos (starEach [e] X.env)).any (·.1)=false:=by rfl) (W7:isPlain e=true:=by rfl) (hK:X.K=K:=by rfl) (hC:X.calm=true:=by rfl) :
  DE K X (.Call (.Name x np) [e] [⟨some "key",.Lambda params body scope lp,kq⟩] pos) (LO false P q src tl te):=by
 subst hK
 refine⟨fun y=>?_⟩
 rintro pins s τ H Q I ⟨σ,S,R,Z,aB,hS,t,hR,hZ⟩
 refine wpAny_Call_Name_kw (fW I hg hm hv ?_ hn oZ)
 refine callWith_kw (bq (((ac hl an W7).of y) pos pins s τ H (fun vs H1=>∃ds S1,GL (wX false P q src te σ R) ds S1∧RvAll X.K H1 ds vs∧Rs X.K S1 H1∧Kp X.K H H1) I ⟨σ,S,GL (wX false P q src te σ R),Z,aB,hS,t,fun ds S1 vs H1 r rv rs k1=>⟨ds,S1,r,rv,rs,k1⟩,hZ⟩) fun us s1 ⟨vs,H1,I1,r1,ds,S1,r,rv,rs,k1⟩=>?_) W6 dD
 obtain⟨d,rfl,l,xs,fD,rfl,el,Fd,et,kd,step,fin⟩:=Cr r
 obtain⟨v,VT,rfl,R6,Pz⟩:=rv.cons
 cases Pz.nil
 cases R6.ref
 obtain⟨u,rfl,ru⟩:=vals1 r1
 cases ru
 obtain⟨ps,hP,aM⟩:=rs P _ et
 refine kws_cons (wV I1 ⟨CS.kind,CS.fY,CS.loc,CS.Ab,CS.len,CS.src⟩ ox mk hP aM hq GK fun w s2 H2 f pm cv lK L=>?_)
 refine kws_nil ?_
 cases L.u
 have k2:Kp X.K H1 H2:=L.kp hP
 exact wY L.inv rfl hC hr L.code ⟨CS.kind,CS.fY,CS.loc,CS.Ab,CS.len,CS.src⟩ JI hp h0 JJ AI hb (he f) ((aB.ts k1).ts k2) (L.rs rs et) el Fd kd step (hR.kp (k1.trans k2)) fin (ksk_s1 _ _) (fun x=>ksk_l1 _ _) fun x=>ksk_t1 _ _
theorem LP(ox:X.env.code=.ref c)(mk:W3 K X.mg X.base c P)(hr:bQ k X.A)(CS:bJ X N src scope)(hl:DE K X e tl)(he:∀f cv s H,DE K (Pu X N q scope f cv X.A.in1.in1 s H) body te)(hm:X.mg x=none)(hv:bootBuiltins x=some (.builtin "sorted"))
  (hq:X.env.qual ++ "<lambda>" = q:=by rfl) (JI:N[0]?=some p:=by rfl) (hp:scope.names.lookup p=some .local:=by rfl) (h0:src[0]?=some none:=by rfl) (JJ:scope.isCoroutine=false:=by rfl) (AI:scope.isGenerator=false:=by rfl)
  (hb:∀cl pm cv lK u,bindArgs (kla_fn "<lambda>" q params body scope cl pm cv lK) ⟨[u],[]⟩=pure [(p,u)]:=by intro _ _ _ _ _;rfl) (GK:defaultsOf params X.env=([],[]):=by rfl) (hg:Gl X x:=by rfl) (hn:x ≠ "__name__" := by decide) (oZ:(x == ("__debug__" : Str))=false:=by decide)
  (W6:backTo pos (starEach [e] X.env)=(false,eval e X.env)::backTo pos (starEach [] X.env):=by rfl) (dD:(backTo pos (starEach [e] X.env)).any (·.1)=false:=by rfl) (W7:isPlain e=true:=by rfl) (hK:X.K=K:=by rfl) (hC:X.calm=true:=by rfl) :
  DE K X (.Call (.Name x np) [e] [⟨some "key",.Lambda params body scope lp,kq⟩,⟨some "reverse",.Constant (.bool true) ci cp,kq2⟩] pos) (LO true P q src tl te):=by
 subst hK
 refine⟨fun y=>?_⟩
 rintro pins s τ H Q I ⟨σ,S,R,Z,aB,hS,t,hR,hZ⟩
 refine wpAny_Call_Name_kw (fW I hg hm hv ?_ hn oZ)
 refine callWith_kw (bq (((ac hl an W7).of y) pos pins s τ H (fun vs H1=>∃ds S1,GL (wX true P q src te σ R) ds S1∧RvAll X.K H1 ds vs∧Rs X.K S1 H1∧Kp X.K H H1) I ⟨σ,S,GL (wX true P q src te σ R),Z,aB,hS,t,fun ds S1 vs H1 r rv rs k1=>⟨ds,S1,r,rv,rs,k1⟩,hZ⟩) fun us s1 ⟨vs,H1,I1,r1,ds,S1,r,rv,rs,k1⟩=>?_) W6 dD
 obtain⟨d,rfl,l,xs,fD,rfl,el,Fd,et,kd,step,fin⟩:=Cr r
 obtain⟨v,VT,rfl,R6,Pz⟩:=rv.cons
 cases Pz.nil
 cases R6.ref
 obtain⟨u,rfl,ru⟩:=vals1 r1
 cases ru
 obtain⟨ps,hP,aM⟩:=rs P _ et
 refine kws_cons (wV I1 ⟨CS.kind,CS.fY,CS.loc,CS.Ab,CS.len,CS.src⟩ ox mk hP aM hq GK fun w s2 H2 f pm cv lK L=>?_)
 refine kws_cons (bq (K9 (X:=y.cx) _ s2 τ H2 (fun v H'=>v=.bl true∧H'=H2) L.inv ⟨rfl,rfl⟩) fun w2 s3 ⟨v2,H3,I3,r3,e3,e4⟩=>?_)
 subst e3 e4
 obtain rfl:w2=Value.bool true:=r3
 refine kws_nil ?_
 cases L.u
 have k2:Kp X.K H1 H3:=L.kp hP
 exact wY I3 rfl hC hr L.code ⟨CS.kind,CS.fY,CS.loc,CS.Ab,CS.len,CS.src⟩ JI hp h0 JJ AI hb (he f) ((aB.ts k1).ts k2) (L.rs rs et) el Fd kd step (hR.kp (k1.trans k2)) fin (ksk_s2 _ _ _) (fun x=>ksk_l2 _ _ _) fun x=>ksk_t2 _ _ _
end
section
variable{P:Program}{w:World}{K:Frag}{mg:Str→Option Value}{base:Heap}
theorem uJ.YU{x qual:Str}{st:Stmt}{f:Addr}{fd:FuncData}{N ps:List Str}{k:Nat}{sp:iL}(F:uJ K x qual st f fd)(S:fJ N ps (ae st))(len:∀ds S R Z,sp ds S R Z→ds.length=ps.length)
  (lP:∀(fK:Value) (A:Around) (outer:List Env) (s:Shared) (H:Hp) (E:XK) (ds:List D) (S:av) (R:KD) (Z:KX),fK=fd.code→bQ k (A.deeper (envOfC qual (ae st) s.heap.objs.size f fK))→sp ds S R Z →
   ∃t,E9 K (jR (eW P w mg) P w K mg base N qual (ae st) f fK A outer s H E) true (aY st) t∧t { nx:=fun _ S'=>Fo S' (R .aw),rt:=fun d S'=>Fo S' (R d) } (i6 N ds) S fun _ C S'=>Fo S' (Z C)):bG P w K mg base (eW P w mg) (k+1) f fd ps (pe K sp):=by
 obtain⟨oc,od,dV,kV,doc,pm,an,fK,ct,M0,rfl,lk,rO⟩:=F.ex
 have dD:ps.length≤N.length:=by have:=congrArg List.length S.pre;rw[yq] at this;lia
 refine Lh lk rO S (by rintro vs H Q E ⟨ds,S',R,Z,v,_,h,_⟩;exact by rw[v.len];exact len _ _ _ _ h) fun A outer s H vs Q E hr ⟨ds,S',R,Z,v,hS,h,hR,hZ⟩=>?_
 obtain⟨t,ht,q⟩:=lP fK A outer s H E ds S' R Z rfl hr h
 have L:cJ (jR (eW P w mg) P w K mg base N qual (ae st) f fK A outer s H E) E:=tJ
 let y:Ev (jR (eW P w mg) P w K mg base N qual (ae st) f fK A outer s H E) true:=⟨_,(jR (eW P w mg) P w K mg base N qual (ae st) f fK A outer s H E).xe,fun _=>E,⟨fun p2 τ H1 s1 e s' I h=>Lo L p2 τ H1 s1 e s' I h,fun _ p2 τ H1 s1 h' a cls args I hx he=>ot L I hx he,fun _=>PassesOwn.leaving⟩⟩
 refine⟨L2.Tl K (fun _=>E) t,ht.of y,i6 N ds,S',_,fun _ C S'=>Fo S' (Z C),?_,hS,q,⟨by rintro σ S1 τ H1 ⟨S2,sb,r⟩ a b c;exact (hR.kp c).now (b.sub sb) r iX,by rintro d S1 v H1 ⟨S2,sb,r⟩ a b c;exact hR _ _ _ _ r a (b.sub sb) c,fun _ _ _ _ z=>z.elim,fun _ _ _ _ z=>z.elim⟩,by rintro σ τ C S1 H1 ⟨S2,sb,r⟩ a b c;exact hZ C S2 H1 r (b.sub sb) c⟩
 unfold i6 start
 refine (qv v).app ?_
 rw[v.len]
 exact qu _ _ (by rw[List.length_replicate])
end
structure wZ(ts:List Addr)(H:Hp):Prop where
 all:∀b,H b=none∨(∃o xs,H b=some (.kI o (.lst xs)))∨(b∈ts∧H b=some (.pE #[]))
 tab:∀b∈ts,H b=some (.pE #[])
theorem Eg{P:Program}{w:World}{K:Frag}{mg mb:Str→Option Value}{CX:y3}{k:Nat}{fa a:Addr}{fd:FuncData}{x:Str}{sp:Sp}{aZ:Shared}{vs:List Value}{ns:List Int}{ts:List Addr}
  (KX:K.In aZ.heap) (LL:aZ.heap.Ns mainGlobals mg) (hb:aZ.heap.Ns builtinsNs mb) (hbb:∀x:Str,x ≠ "__name__" → mb x=bootBuiltins x) (W8:aZ.heap.NoLimit) (hbm:Bm mg aZ.heap) (hg:aZ.gens=#[])
  (hT:∀b∈ts,aZ.heap.get? b=some (tabObj #[])) (hC:∀b∈ts,isCodeTable aZ.heap b) (hN:∀b∈ts,K.lookup b=none)
  (ha:aZ.heap.get? a=some { cls:=.type "list",data:=.seq vs.toArray }) (hi:IntsAre vs ns) (hl:ns.length≤sizeLine) (hr:bQ k callerA)
  (F:∀base:Heap,Bm mg base→K.In base→base.Ns mainGlobals mg→bG P w K mg base CX k fa fd [x] sp) (R7:∀(s:Shared) (u:Value),BindsTo s fd ⟨[u],[]⟩ [(x,u)])
  (O_:∀H:Hp,wZ ts H→jE K H a (ns.map V.int)→sp [.ref a] H (fun v _=>v=.bl true) fun _ _ _=>False)
  (W9:∀H e s',CX [] H aZ (fun _ _ _=>False) e s'→False) :
  codeAny (model P w) callerA (.call (.ref fa) ⟨[.ref a],[]⟩) (fun r s'=>r=.ok (.ret (.bool true))∧OldK aZ.heap s'.heap∧s'.os=aZ.os∧AllBare s'.gens) aZ:=by
 have rv:=tE hi
 have W_:=hi.length
 have Ue:a∉ts:=fun z=>by rw[hT a z] at ha;cases ha
 have core:∀H:Hp,wZ ts H→jE K H a (ns.map V.int)→kJ P w H aZ.heap→(∀b,H b≠none→b=a∨b∈ts)→(H a≠none→K.lookup a=none) →
   codeAny (model P w) callerA (.call (.ref fa) ⟨[.ref a],[]⟩) (fun r s'=>r=.ok (.ret (.bool true))∧OldK aZ.heap s'.heap∧s'.os=aZ.os∧AllBare s'.gens) aZ:=by
  intro H hO hS aM hA hK
  have uN:∀{b:Addr}{o:Obj},aZ.heap.get? b=some o→H b=none→(rV aZ.heap H).get? b=some o:=fun e n=>Ff e n
  have IQ:∀{b:Addr}{o:Obj}{es:Array DictEntry}{ep:Nat},aZ.heap.get? b=some o→o.data=.dict es ep→H b=none:=fun {b o es ep} e d=>by
   cases q:H b with
   |none=>rfl
   |some u =>
    rcases hA b (by rw[q];simp) with e'|e'
    ·subst e'
     rw[ha] at e;cases e
     have d':Data.seq vs.toArray _=Data.dict es ep:=d
     cases d'
    ·rw[hT b e'] at e;cases e;cases d
  have Uu:∀{b:Addr}{m:Str→Option Value},aZ.heap.Ns b m→(rV aZ.heap H).Ns b m:=fun {b m} ⟨o,es,ep,e,d,r⟩=>⟨o,es,ep,uN e (IQ e d),d,r⟩
  have YV:K.In (rV aZ.heap H):=fun b o e=>uN (KX b o e) (by
   cases q:H b with
   |none=>rfl
   |some u =>
    rcases hA b (by rw[q];simp) with e'|e'
    ·subst e'
     rw[hK (by rw[q];simp)] at e;cases e
    ·rw[hN b e'] at e;cases e)
  have hM:Mod K mg (rV aZ.heap H):=⟨YV,Uu LL,⟨mb,Uu hb,hbb⟩,by obtain⟨mc,h1,h2⟩:=W8;exact⟨mc,Uu h1,h2⟩⟩
  have e0:wj P w K mg (rV aZ.heap H) callerA [] aZ H:=⟨rfl,hM,fun b o e=>Iu e,Nat.le_of_eq (Dg _ _),trivial,fun b hb=>absurd (show b∈([]:List Addr) from hb) (by simp),aM,.of_eq hg⟩
  have hBm:Bm mg (rV aZ.heap H):=by
   obtain⟨bm,ob,b1,b2,b3,b4,b5,b6⟩:=hbm
   refine⟨bm,ob,b1,b2,uN b3 ?_,b4,b5,b6⟩
   cases q:H bm with
   |none=>rfl
   |some u =>
    rcases hA bm (by rw[q];simp) with e'|e'
    ·rw[e',ha] at b3;cases b3;cases b6
    ·rw[hT bm e'] at b3;cases b3;cases b4
  refine yM ((F _ hBm YV (Uu LL)).run callerA [] aZ H ⟨[.ref a],[]⟩ [.ref a] [.ref a] _ _ hr e0 (R7 aZ (.ref a)) (.cons rfl .nil) (O_ H hO hS)) fun r s' h=>?_
  cases r with
  |error e=>exact (W9 H e s' h).elim
  |ok fl =>
   cases fl with
   |next=>exact False.elim h
   |brk=>exact False.elim h
   |cont=>exact False.elim h
   |ret u =>
    obtain⟨v,H',os,bare,un,R8,r',q⟩:=h
    have q':v=.bl true:=q
    subst q'
    obtain rfl:u=Value.bool true:=r'
    refine⟨rfl,⟨fun b o e=>?_,fun b o e=>un.there b o e (by simp)⟩,os,bare⟩
    rcases hO.all b with z|⟨ob,xs,z⟩|⟨z1,z⟩
    ·exact .inl (un.keep b o e z (by intro z;exact absurd (show b∈([]:List Addr) from z) (by simp)) (by simp))
    ·have z2:=un.kK b ob _ z
     obtain⟨e1,_⟩:=aM b _ z
     obtain⟨e2,_⟩:=R8 b _ z2
     rw[e] at e1;cases e1
     exact .inl e2
    ·obtain⟨more,z2⟩:=un.kL b _ z
     have e2:=hT b z1
     rw[e] at e2;cases e2
     exact .inr (.inl ⟨hC b z1,rfl,#[],more,rfl,by have:=R8 b _ z2;exact this⟩)
 have tabs:∀(H:Hp),(∀b,b∈ts→H b=some (.pE #[]))→∀b u,b∈ts→H b=some u→bp P w H aZ.heap b u:=fun H h b u hb e=>by
  rw[h b hb] at e;cases e;exact hT b hb
 cases hk:K.lookup a with
 |some o =>
  have e:=KX a o hk
  rw[ha] at e
  cases e
  refine core (fun b=>if b∈ts then some (.pE #[]) else none) ⟨fun b=>?_,fun b hb=>if_pos hb⟩ (.inr ⟨_,vs.toArray,_,hk,rfl,rfl,rfl,by rw[zr,W_];exact hl,by simpa using rv⟩) (fun b u z=>?_) (fun b z=>?_) fun z=>absurd (if_neg Ue) z
  ·by_cases hb:b∈ts
   ·exact .inr (.inr ⟨hb,if_pos hb⟩)
   ·exact .inl (if_neg hb)
  ·by_cases hb:b∈ts
   ·exact tabs _ (fun b hb=>if_pos hb) b u hb z
   ·have z':=(if_neg hb).symm.trans z;cases z'
  ·by_cases hb:b∈ts
   ·exact .inr hb
   ·exact absurd (if_neg hb) z
 |none =>
  refine core (fun b=>if b=a then some (.kI { cls:=.type "list",data:=.seq vs.toArray } (.lst (ns.map V.int))) else if b∈ts then some (.pE #[]) else none) ⟨fun b=>?_,fun b hb=>?_⟩ (.inl (.inr ⟨{ cls:=.type "list",data:=.seq vs.toArray },if_pos rfl⟩)) (fun b u z=>?_) (fun b z=>?_) fun _=>hk
  ·by_cases hb:b=a
   ·exact .inr (.inl ⟨_,_,if_pos hb⟩)
   ·by_cases Il:b∈ts
    ·exact .inr (.inr ⟨Il,(if_neg hb).trans (if_pos Il)⟩)
    ·exact .inl ((if_neg hb).trans (if_neg Il))
  ·have:b≠a:=fun z=>Ue (z ▸ hb)
   exact (if_neg this).trans (if_pos hb)
  ·by_cases hb:b=a
   ·have z':=(if_pos hb).symm.trans z
    cases z'
    subst hb
    exact⟨ha,by rw[zb];exact hl,vs,_,rv,ha⟩
   ·have z':=(if_neg hb).symm.trans z
    by_cases Il:b∈ts
    ·have z2:=(if_pos Il).symm.trans z'
     cases z2
     exact hT b Il
    ·have z2:=(if_neg Il).symm.trans z'
     cases z2
  ·by_cases hb:b=a
   ·exact .inl hb
   ·by_cases Il:b∈ts
    ·exact .inr Il
    ·exact absurd ((if_neg hb).trans (if_neg Il)) z
theorem Cs:∀{K:Frag},b∉K.map (·.1)→K.lookup b=none
 |[],_=>rfl
 | (a,o)::K,h=>by
  rw[zB,zi,not_or] at h
  rw[zW,show (b == a)=false from beq_false_of_ne h.1]
  exact Cs h.2
theorem JL{K:Params→Frag}{as:List Addr}{e:∀P,as=(K P).map (·.1)}{ts:List Addr}{w:World}{h:Heap}(_:(PySem.W.kmHook K as e ts).says w h)(d:∀b∈ts,b∉as):∀b∈ts,(K w.params).lookup b=none:=fun b hb=>Cs (by rw[← e];exact d b hb)
theorem GQ{l:PySem.W.OpenLaw}{n k:Nat}{q:Program}{loose:List Str}{XP:(Str→Option Value)→Heap→Prop}{YP:World→Heap→Prop}{d:DefRec}{K:Params→Frag}{CX:y3}{x:Str}{ts:List Addr}
  (hn:l.most=some n) (Le:n≤sizeLine) (VE:d.params.defaults=[]) (hr:bQ k callerA)
  (hY:∀(w:World) (h:Heap),YP w h→(K w.params).In h) (hT:∀(w:World) (h:Heap),YP w h→∀b∈ts,h.get? b=some (tabObj #[])) (hN:∀(w:World) (h:Heap),YP w h→∀b∈ts,(K w.params).lookup b=none)
  (F:∀(w:World) (mg:Str→Option Value) (fa:Addr) (h:Heap),(K w.params).In h→h.Ns mainGlobals mg→mg d.name=some (.ref fa) →
   ∃(fd:FuncData) (sp:Sp),(∀b∈ts,∃c,codeHdIn (K w.params) c b=true)∧(∀(s:Shared) (u:Value),BindsTo s fd ⟨[u],[]⟩ [(x,u)]) ∧
    (∀base:Heap,Bm mg base→(K w.params).In base→base.Ns mainGlobals mg→bG l.prog w (K w.params) mg base CX k fa fd [x] sp) ∧
    ∀(H:Hp) (a:Addr) (ns:List Int),ns.length≤n→wZ ts H→jE (K w.params) H a (ns.map V.int)→sp [.ref a] H (fun v _=>v=.bl true) fun _ _ _=>False)
  (W9:∀(H:Hp) (s:Shared) (e:Value) (s':Shared),CX [] H s (fun _ _ _=>False) e s'→False) :
  PySem.W.WalkO q loose XP YP l.row.toRowW d [] (fun f vs=>PySem.call f vs):=by
 refine Att.wu hn VE fun w cP aZ mg mb fa o pm cd doc a vs ns G Y ho hd rO Nk Nl hints hlen hg=>?_
 have KX:=hY w _ Y
 obtain⟨fd,sp,hC,hb,hF,O_⟩:=F w mg fa _ KX G.T.g Nk
 have YW:=hT w _ Y
 exact Eg KX G.T.g G.T.b G.T.builtins G.T.nolimit G.T.bmain hg YW (fun b z=>by obtain⟨c,hc⟩:=hC b z;exact ((codeHd_of_K KX hc).tab (YW b z)).isCodeTable) (hN w _ Y) Nl hints (zI hlen Le) hr hF hb (fun H hO hS=>O_ H a ns hlen hO hS) fun H e s'=>W9 H aZ e s'
namespace Rt
theorem own:Manifest.owners.lookup (String.ofList ['d','e','s','r','e','v','e','r'].reverse)=some Manifest.sig_reversed:=by kernel_rfl
theorem lZ:Slot "reversed" "__next__" "reversed.__next__" := .of (owner := "reversed") (n := "__next__") (by rw[typeLookup_type,builtinLookup_eq_fast];kernel_rfl) (by trivial) (by trivial) (by trivial) (by first|exact .inl (by trivial)|exact .inr (by trivial)) (by rw[isSubtype_type];kernel_rfl)
theorem Ct:entryFor table "reversed.__next__" = some Builtin.«reversed.__next__»:=entryFor_of_tree (by kernel_rfl)
theorem Cu(a:Value):argsOk "reversed.__next__" ⟨[a],[]⟩:=by
 unfold argsOk;rw[signature?_of (id := "reversed.__next__") (n:=['_','_','t','x','e','n','_','_']) (o:=['d','e','s','r','e','v','e','r']) (by kernel_rfl) own];kernel_rfl
theorem Cv:Slot "reversed" "__iter__" "reversed.__iter__" := .of (owner := "reversed") (n := "__iter__") (by rw[typeLookup_type,builtinLookup_eq_fast];kernel_rfl) (by trivial) (by trivial) (by trivial) (by first|exact .inl (by trivial)|exact .inr (by trivial)) (by rw[isSubtype_type];kernel_rfl)
theorem JM(a:Value):argsOk "reversed.__iter__" ⟨[a],[]⟩:=by
 unfold argsOk;rw[signature?_of (id := "reversed.__iter__") (n:=['_','_','r','e','t','i','_','_']) (o:=['d','e','s','r','e','v','e','r']) (by kernel_rfl) own];kernel_rfl
theorem JN:entryFor table "reversed.__iter__" = some Builtin.«dict_keyiterator.__iter__» :=
 entryFor_alias (id' := "dict_keyiterator.__iter__") (by kernel_rfl) (by first|rfl|decide +kernel|(unfold String.splitOn;simp +decide [String.splitOnAux])) (by trivial) (by kernel_rfl)
theorem JO:Slot "reversed" "__init__" "object.__init__" := .of (owner := "object") (n := "__init__") (by rw[typeLookup_type,builtinLookup_eq_fast];kernel_rfl) (by trivial) (by trivial) (by trivial) (by first|exact .inl (by trivial)|exact .inr (by trivial)) (by rw[isSubtype_type];kernel_rfl)
theorem called:TypeCalled "reversed" "reversed.__new__" "object.__init__" := ⟨by trivial,by trivial,⟨_,_,F.mro_reversed⟩,F.made_reversed,by trivial,by rw[isSubtype_type];kernel_rfl,JO⟩
theorem N6:typeLookup (.type "tuple") "__reversed__" = pure none:=by rw[typeLookup_type,builtinLookup_eq_fast];kernel_rfl
theorem Cw:typeLookup (.type "tuple") "__getitem__" = pure (some (.builtin "tuple.__getitem__")):=by rw[typeLookup_type,builtinLookup_eq_fast];kernel_rfl
theorem JP:isSubtype (.type "tuple") (.type "dict")=pure false:=by rw[isSubtype_type];kernel_rfl
end Rt
def w5(l:Addr)(i:Int):Obj:={ cls:=.type "reversed",data:=.fields #[.ref l,rawInt i] }
def qE(h:Heap)(a l:Addr)(i:Int):Prop:=∃o,h.get? a=some o∧o.cls=.type "reversed" ∧ o.data=.fields #[.ref l,rawInt i]
section
variable{prog:Program}{w:World}{A:Around}{E:Value→Shared→Prop}{s:Shared}
theorem qE.typeIs(x:qE s.heap a l i):s.TypeIs (.ref a) "reversed" := by obtain⟨o,ho,hc,_⟩:=x;exact⟨o,ho,hc⟩
theorem qE.keep(x:qE h a l i)(e:∀o,h.get? a=some o→h'.get? a=some o):qE h' a l i:=by obtain⟨o,ho,r⟩:=x;exact⟨o,e _ ho,r⟩
theorem N7(hl:IsTup s.heap l items)(hz:items.size≤sizeLine)(h:Q₁ (.ref s.heap.objs.size) { s with heap:=s.heap.push (w5 l ((items.size:Int) - 1)),toks:=s.toks+1+1 }) :
  codeAny (model prog w) A (.call (.builtin "reversed.__new__") ⟨[.type "reversed",.ref l],[]⟩) (wants Q₁ E) s:=by
 refine codeAny_of_tree ?_
 show wpAny _ A.in1 (do checkBuiltinCall "reversed.__new__" ⟨[.type "reversed",.ref l],[]⟩;again (.builtin "reversed.__new__" ⟨[.type "reversed",.ref l],[]⟩)) _ _ s
 refine zc (yP (F.newCall_reversed_1 _) (zu ⟨plainId_quiet F.plain_reversed_new _,yJ F.entry_reversed_new ?_⟩))
 rw[Around.under_plainId F.plain_reversed_new _]
 unfold Builtin.«reversed.__new__»
 refine zc (yP (newClass_reversed _) ?_)
 refine zc (yP (a:=()) (by first|rfl|kernel_rfl) (zc (yP (a:=()) (by first|rfl|kernel_rfl) ?_)))
 refine zc (wpAny_specialOf hl.typeIs Rt.N6 ?_)
 refine zc (zc (wpAny_isInstance hl.typeIs Rt.JP (zc (wpAny_specialOf hl.typeIs Rt.Cw ?_))))
 show wpAny _ _ (if (["tuple.__getitem__","str.__getitem__","bytes.__getitem__","bytearray.__getitem__","memoryview.__getitem__","numpy.ndarray.__getitem__","sqlite3.Row.__getitem__"]:List String).contains "tuple.__getitem__" = true then pure true else _) _ _ _
 rw[if_pos (by trivial)]
 refine zu ?_
 show wpAny _ _ (do
     let nB ← call (Value.builtin "len") [Value.ref l]
     let __x ← asInt? nB
     match __x with
      |some n=>do
       let nB ← Builtin.SmallTypes.newRecord (Value.type "reversed") [Value.ref l,rawInt (n - 1)]
       ret nB
      |x=>unsupported "internal:reversed.__new__") _ _ _
 refine zc (len_tuple hl (by rw[zZ] at hz;lia) ?_)
 refine zc (yP (a:=some ((items.size:Nat):Int)) rfl ?_)
 exact zc (m:=newObj (.type "reversed") (.fields #[.ref l,rawInt (((items.size:Nat):Int) - 1)])) (yA (zu h))
theorem JQ(hl:IsTup s.heap l items)(hz:items.size≤sizeLine)(h:Q (.ref s.heap.objs.size) { s with heap:=s.heap.push (w5 l ((items.size:Int) - 1)),toks:=s.toks+1+1 }) :
  wpAny (model prog w) A (call (.type "reversed") [.ref l]) Q E s:=by
 refine callType_codes Rt.called (F.typeCall_reversed_1 _) F.entry_object_init (Q₁:=fun obj aZ=>aZ.TypeIs obj "reversed" ∧ Q obj aZ) (N7 hl hz ⟨⟨_,zj _ rfl,rfl⟩,h⟩) fun obj aZ h₁=>?_
 exact⟨h₁.1,F.args_object_init_2 obj _,object_init_meets Rt.called.init.lookup Rt.called.made (by decide) prog w A.in1 _ aZ ⟨h₁.1,rfl,h₁.2⟩⟩
theorem sqx(h:k<n):seqIndex? ((k:Nat):Int) n=some k:=by
 have e:(if ((k:Nat):Int)<0 then ((k:Nat):Int)+(n:Int) else ((k:Nat):Int))=((k:Nat):Int):=if_neg (by lia)
 unfold seqIndex?
 dsimp only
 rw[e,if_pos (by simp;lia)];rfl
theorem JR{it l:Addr}{i:Nat}{items:Array Value}{x:Value}{Q:Option Value→Shared→Prop}(hit:qE s.heap it l (i:Int))(hl:IsTup s.heap l items)(hz:items.size≤sizeLine)(hx:items[i]?=some x)
  (hQ:∀h' tk,qE h' it l ((i:Int) - 1)→Heap.SameBut it s.heap h'→Q (some x) { s with heap:=h',toks:=tk }):wpAny (model prog w) A (pyNext (.ref it)) Q E s:=by
 obtain⟨o,ho,hc,hd⟩:=id hit
 have hi:i<items.size:=(Array.getElem?_eq_some_iff.mp hx).1
 unfold pyNext
 refine zc (wpAny_attempt (wpAny_callSpecial?_slot (name:=Str.ofString "__next__") hit.typeIs Rt.lZ (yF Rt.lZ hit.typeIs Rt.Ct ?_ (Rt.Cu _))))
 unfold Builtin.«reversed.__next__»
 refine zc (yP (a:=(Value.ref it,[])) rfl (zc (z0 ho hd (x:=.ref l) rfl (zc (z0 ho hd (x:=rawInt (i:Int)) rfl ?_)))))
 show wpAny _ _ (if (i:Int)<0 then _ else _) _ _ s
 rw[if_neg (by lia)]
 show wpAny _ _ (specialOf (.ref l) "__getitem__" >>= _) _ _ s
 refine zc (wpAny_specialOf hl.typeIs Rt.Cw ?_)
 show wpAny _ _ (mkInt (i:Int) >>= _) _ _ s
 refine zc (wpAny_mkInt ?_)
 refine zc (wpAny_attempt (getItem_tuple (j:=i) hl (by lia) (by rw[zZ] at hz;lia) (sqx hi) hx ?_))
 refine zc (z0 ho hd (x:=rawInt (i:Int)) rfl ?_)
 show wpAny _ _ (setField (.ref it) 1 (rawInt ((i:Int) - 1)) >>= fun _=>ret x) _ _ _
 refine zc (yL ho hd (by simp) (zu ⟨x,rfl,zu (hQ _ _ ?_ (yu ..))⟩))
 exact⟨_,ym _ ho (Obj.isFreed_of_fields (yp hd _)),(Obj.cls_mapFields ..).trans hc,by rw[yp hd];simp⟩
theorem N8(hh:A.handled=none)(hit:qE s.heap it l (-1))(hQ:∀h',Heap.ExtBut it s.heap h'→Q none { s with heap:=h' }):wpAny (model prog w) A (pyNext (.ref it)) Q E s:=by
 obtain⟨o,ho,hc,hd⟩:=id hit
 unfold pyNext
 refine zc (wpAny_attempt (wpAny_callSpecial?_slot (name:=Str.ofString "__next__") hit.typeIs Rt.lZ (yF Rt.lZ hit.typeIs Rt.Ct ?_ (Rt.Cu _))))
 unfold Builtin.«reversed.__next__»
 refine zc (yP (a:=(Value.ref it,[])) rfl (zc (z0 ho hd (x:=.ref l) rfl (zc (z0 ho hd (x:=rawInt (-1)) rfl ?_)))))
 show wpAny _ _ (if (-1:Int)<0 then _ else _) _ _ s
 rw[if_pos (by decide)]
 refine zc (wpAny_rule ?_)
 have YX:=yp hd (·.setIfInBounds 1 (rawInt (-1)))
 have N4:=ym (Obj.mapFields (·.setIfInBounds 1 (rawInt (-1)))) ho (Obj.isFreed_of_fields YX)
 refine zc (m:=setField (.ref it) 1 (rawInt (-1)) >>= fun _=>setField (.ref it) 0 .none) (zc (yL ho hd (by simp) (yL N4 YX (by simp) ?_)))
 have eb:Heap.ExtBut it s.heap ((s.heap.update it (Obj.mapFields (·.setIfInBounds 1 (rawInt (-1))))).update it (Obj.mapFields (·.setIfInBounds 0 Value.none))):=fun b u hb e=>by
  rw[yh _ _ (Ne.symm hb),yh _ _ (Ne.symm hb)];exact e
 refine zc ?_
 show wpAny _ _ (newExc (.type "StopIteration") [] >>= _) _ _ _
 refine zc ?_
 simp only [newExc,newTuple]
 refine zc (yA ?_ (by size_fits))
 refine zc (m:=firstArgMember _ _) (yP (a:=Value.none) (by first|rfl|(simp only [firstArgMember];rfl)) ?_)
 refine yA ?_ (by size_fits)
 simp only [raiseNew]
 refine zc (wpAny_handled ?_)
 first|rw[show A.in1.handled=none from hh]|rw[hh]
 refine zc (zu (wpAny_throw ?_))
 refine zc (wpAny_isInstance (T := "StopIteration") (b:=true) ⟨_,zj _ rfl,rfl⟩ isSubtype_stop ?_)
 exact zu (hQ _ ((eb.push _).push _))
theorem Cy(hit:qE s.heap it l i)(h:Q (.ref it) s):wpAny (model prog w) A (pyIter (.ref it)) Q E s:=by
 refine wpAny_pyIter_slot hit.typeIs Rt.Cv (yF Rt.Cv hit.typeIs Rt.JN ?_ (Rt.JM _))
 show wpAny _ _ (ret (.ref it)) _ _ s
 exact zu !⟨ "reversed",_,hit.typeIs,Rt.lZ.lookup,h⟩
end
end L2
namespace L2
open PySem PySem.Spec PyProof.Rows
def R9(K:Frag)(a:Addr)(n:Nat):It :=
 ⟨fun i H=>∃xs x,iH K H a xs∧xs.length=n∧i<n∧xs[n - 1 - i]?=some x,fun i H x H'=>H'=H∧∀xs,iH K H a xs→xs.length=n→xs[n - 1 - i]?=some x,fun i _=>n≤i⟩
theorem JS{P:Program}{w:World}{K:Frag}{tg:Expr}(a it:Addr)(n:Nat):Turn P w K tg (R9 K a n) [it] it (fun i h=>i≤n∧qE h it a ((n:Int) - 1 - (i:Int))) where
 mem:=by simp
 obj:=fun i h st b hb=>by
  have e:b=it:=by simpa using hb
  subst e
  obtain⟨_,o,e,c,d⟩:=st
  exact⟨o,e,fun v z=>by rw[d] at z;cases z⟩
 keep:=fun i h h' st k=>⟨st.1,st.2.keep fun o e=>k it (by simp) o e⟩
 item:=by
  intro X hP hw hK hc i pins s σ H E I hf st hg
  subst hP hw hK
  obtain⟨xs,x,hq,hn,hi,hx⟩:=hg
  obtain⟨aA,rv,p,hz⟩:=I.tuple hq
  obtain⟨u,hu,ru⟩:=rv.get hx
  obtain⟨f0,f1,f2,f3,f4,f5⟩:=hf it (by simp)
  have e:(n:Int) - 1 - (i:Int)=((n - 1 - i:Nat):Int):=by lia
  have hit:=st.2
  rw[e] at hit
  refine JR hit p (by rw[zr,← rv.length];exact hz) (x:=u) (by simpa using hu) fun h' tk eC sb=>?_
  have I1:Inv X pins σ H { s with heap:=h',toks:=tk }:=I.turned (t':=tk) (fun b o hb e=>(sb.2 b hb).trans e) f0 f1 f3 f4 f5
  obtain⟨o,e1,c,d⟩:=id eC
  refine⟨u,rfl,sY (s:={ s with heap:=h',toks:=tk }) e1 c d (by decide) ⟨x,H,I1,ru,⟨rfl,fun ys hy _=>by rw[I.m7 hy hq];exact hx⟩,⟨hi,?_⟩,fun b hb=>(hf b hb).1⟩⟩
  have e2:(n:Int) - 1 - ((i+1:Nat):Int)=((n - 1 - i:Nat):Int) - 1:=by lia
  rw[e2];exact eC
 done:=by
  intro X hP hw hK hc i pins s σ H E I hf st hg
  subst hP hw hK
  obtain⟨f0,f1,f2,f3,f4,f5⟩:=hf it (by simp)
  have hg:n≤i:=hg
  have e:(n:Int) - 1 - (i:Int) = -1:=by have:=st.1;lia
  have hit:=st.2
  rw[e] at hit
  exact N8 (I.ok.hd hc) hit fun h' eb=>⟨rfl,I.turned (t':=s.toks) (fun b o hb e=>eb b o hb e) f0 f1 f3 f4 f5⟩
 self:=fun _ _ _ _ _ st h=>Cy st.2 h
def iRt(K:Frag)(ta:TA):TI:=fun σ H R=>ta σ H fun vs H1=>∃a xs,vs=[.ref a]∧iH K H1 a xs∧R (R9 K a xs.length) H1
theorem R_{X:Cx}{tg a:Expr}{ta:TA}{p pos:Pos}(hg:Gl X "reversed")(hm:X.mg "reversed" = none)(ha:PA X [a] ta)(hs:starEach [a] X.env=[(false,eval a X.env)]):PI X tg (.Call (.Name "reversed" p) [a] [] pos) (iRt X.K ta):=by
 intro pins s σ H R I h
 refine Call_ (fW I hg hm boot_reversed (PyProof.Rows.callWith_type1 (bq (ha pos pins s σ H _ I h) fun us s1 ⟨vs,H1,I1,r1,q1⟩=>?_) hs rfl))
 obtain⟨l,xs,e,q,hR⟩:=q1
 subst e
 obtain⟨u,rfl,ru⟩:=vals1 r1
 cases ru
 obtain⟨aA,rv,pl,hz⟩:=I1.tuple q
 have hn:aA.toArray.size=xs.length:=by rw[zr,rv.length]
 refine JQ pl (by rw[hn];exact hz) ?_
 rw[hn]
 have st:qE (s1.heap.push (w5 l ((xs.length:Int) - 1))) s1.heap.objs.size l ((xs.length:Int) - 1 - ((0:Nat):Int)):=⟨_,zj _ rfl,rfl,by show Data.fields _=Data.fields _;simp⟩
 have I2:Inv X pins σ H1 { s1 with heap:=s1.heap.push (w5 l ((xs.length:Int) - 1)),toks:=s1.toks+1+1 }:=I1.kept (t':=s1.toks+1+1) fun b o e=>za _ e
 refine Cy (s:={ s1 with heap:=s1.heap.push (w5 l ((xs.length:Int) - 1)),toks:=s1.toks+1+1 }) st ⟨_,_,_,_,H1,rfl,I2,JS l s1.heap.objs.size xs.length,⟨zS _,st⟩,fun b hb=>?_,hR⟩
 have hb:b=s1.heap.objs.size:=by simpa using hb
 subst hb
 exact I1.oX (zm _) (I1.aM.fresh (zm _))
section
variable{K:Frag}{X:Cx}{tg:Expr}
def Xa(t:iK):AG:=fun σ S R Z=>t σ S (fun ds S1=>∃es,ds=[.tup es]∧R ⟨es.reverse,fun _=>True⟩ S1) Z
theorem irt{t:iK}(hm:X.mg "reversed" = none)(ha:DA K X [a] t)(hg:Gl X "reversed" := by rfl)(hs:starEach [a] X.env=[(false,eval a X.env)]:=by rfl)(hK:X.K=K:=by rfl):DI K X tg (.Call (.Name "reversed" p) [a] [] pos) (Xa t):=by
 subst hK
 exact⟨fun y=>(R_ (X:=y.cx) hg hm (ha.of y) hs).mono <| by rintro τ H R ⟨σ,S,RI,Z,aB,hS,q,hR,hZ⟩;exact⟨σ,S,_,Z,aB,hS,q,by
  rintro ds S1 vs H1 ⟨es,e,r1⟩ v1 s1 k1
  subst e
  obtain⟨v,rfl,r⟩:=v1.one
  obtain⟨a,xs,rfl,hq,t⟩:=r.tup
  refine⟨a,xs,rfl,.inl (.of hq),hR _ S1 _ H1 r1 (fun i S2 H2 k2 s2 Ub=>?_) s1 k1⟩
  have LD:iH X.K H2 a xs:=.inl (.of (k2.t _ _ hq))
  have t2:=RvAll.ts k2 _ t
  have hl:xs.length=es.length:=t.len
  refine⟨fun d hd=>?_,fun h=>by rw[yw] at h;show xs.length≤i;lia⟩
  have hi:i<es.length:=by have:=(ze.mp hd).1;rwa [yw] at this
  rw[List.getElem?_reverse hi] at hd
  obtain⟨v,e1,r⟩:=t2.get hd
  rw[hl]
  refine⟨⟨xs,v,LD,hl,hi,e1⟩,fun x' H' ⟨e2,e3⟩=>?_⟩
  subst e2
  have:=e3 xs LD hl
  rw[e1] at this;cases this
  exact⟨r,.refl _,s2⟩,hZ⟩⟩
end
section
variable{K:Frag}{X:Cx}{pos:Pos}
def N9(tc:mY)(tb:lY):lY:=fun De σ S Z=>∃P:Nat→SD→av→Prop,(∃m,P m σ S)∧∀m σ S,P m σ S→tc σ S (fun b S1=>if b=true then tb { De with nx:=fun aG S'=>∃m',m'<m∧P m' aG S',ct:=fun aG S'=>∃m',m'<m∧P m' aG S',bk:=De.nx } σ S1 Z else De.nx σ S1) (Z σ)
theorem YY(hc:DT K X c tc)(hb:E9 K X true body tb):DS K X true (.While c body [] pos) (N9 tc tb) :=
 ⟨fun y=>(Fm (X:=y.cx) (y.ok.loop rfl) (hc.of y) (hb.of y)).mono <| by rintro D τ H ⟨σ,S,De,Z,aB,hS,⟨P,⟨m,p0⟩,turn⟩,hD,hZ⟩;exact
  ⟨fun m Pl H'=>∃σ S,gY K H' σ Pl∧Rs K S H'∧P m σ S∧Kp K H H',⟨m,σ,S,aB,hS,p0,.refl _⟩,by rintro m WA H1 ⟨vX,S1,a1,s1,p1,k1⟩;exact⟨vX,S1,_,Z vX,a1,s1,turn m vX S1 p1,fun b S2 H2 r2 s2 k2=>by
   cases b with
   |true =>
    rw[if_pos rfl] at r2 ⊢
    refine⟨fun YZ H3=>∃σ S,gY K H3 σ YZ∧Rs K S H3∧(∃m',m'<m∧P m' σ S)∧Kp K H H3,by rintro YZ H3 ⟨iI,S3,a3,s3,⟨m',hm,p3⟩,k3⟩;exact⟨m',hm,iI,S3,a3,s3,p3,k3⟩,?_⟩
    have kk:=k1.trans k2
    exact⟨vX,S2,_,Z,a1.ts k2,s2,r2,⟨fun NS S5 WL H5 r5 a5 s5 k5=>⟨NS,S5,a5,s5,r5,kk.trans k5⟩,hD.rt.kp kk,hD.nx.kp kk,fun NS S5 WL H5 r5 a5 s5 k5=>⟨NS,S5,a5,s5,r5,kk.trans k5⟩⟩,hZ.kp kk⟩
   |false =>
    rw[if_neg zd] at r2 ⊢
    exact hD.nx _ _ _ _ r2 (a1.ts k2) s2 (k1.trans k2),(hZ.kp k1).at a1⟩⟩⟩
def Xb(i:Nat)(te:TD):lY:=fun De σ S Z=>∃a:Int,σ[i]?=some (some (.int a))∧te σ S (fun d S1=>∃b:Int,d=.int b∧De.nx (σ.set i (some (.int (a+b)))) S1) (Z σ)
theorem Y0(hN:X.N.Nodup)(he:DE K X e te)(hi:X.N[i]?=some x:=by rfl)(hx:Loc X.env.scope x:=by first|exact .inl rfl|exact .inr rfl)(hf:X.fn x=true∨X.env.scope.names.lookup x=some .local:=by first|exact .inl rfl|exact .inr rfl) :
  DS K X b (.AugAssign (.Name x pos') .Add e pos) (Xb i te) :=
 ⟨fun y=>(MG (X:=y.cx) hN hi hx (he.of y) MH hf).mono <| by
  rintro D τ H ⟨σ,S,De,Z,aB,hS,⟨a,ha,t⟩,hD,hZ⟩
  obtain⟨v,e1,r⟩:=aB.get ha
  exact⟨v,e1,σ,S,_,Z σ,aB,hS,t,by
   rintro d S1 u H1 ⟨c,e2,n⟩ rv s1 k1
   subst e2
   exact⟨a,c,r.int,rv.int,hD.nx _ _ _ _ n ((aB.ts k1).set i (aL _)) s1 k1⟩,hZ.at aB⟩⟩
def vD:V→D
 |.int i=>.int i
 |.str z=>.str z
 |.bl b=>.bl b
 |_=>.aw
def GR:V→Bool
 |.int _=>true
 |.str _=>true
 |_=>false
def Sa(kvs:List (Str×V))(ty:TD):TD:=fun σ S R Z=>ty σ S (fun y S1=>∃z,y=.str z∧R ((kvs.lookup z).elim .aw vD) S1) Z
theorem mgk{w:World}{ad:Addr}{kvs:List (Str×V)}{o e:Expr}{apos aP:Pos}{ty:TD}(d:Ii w K ad kvs)(hf:(kvs.all fun p=>GR p.2)=true)(ho:∀Y:Cx,Y.env=X.env→Y.mg=X.mg→PE Y o (tC (.ref ad)))(he:DE K X e ty)(hw:X.w=w:=by rfl)(hK:X.K=K:=by rfl)(m:M1 X o "get" apos e aP:=by exact⟨rfl,rfl,rfl,rfl⟩) :
  DE K X (.Call (.Attribute o "get" apos) [e] [] aP) (Sa kvs ty) :=
 ⟨fun y=>(F9 (X:=y.cx) hw hK (ho y.cx rfl rfl) (he.of y) ⟨m.base,m.E1,m.line,m.trees⟩).mono <| by rintro τ H Q ⟨σ,S,R,Z,aB,hS,q,hR,hZ⟩;exact⟨ad,kvs,rfl,d,σ,S,_,Z,aB,hS,q,by
  rintro yv S1 v H1 ⟨z,e1,r⟩ rv s1 k1
  subst e1
  refine⟨z,rv.str,hR _ _ _ _ r ?_ s1 k1⟩
  have fl:∀v,kvs.lookup z=some v→GR v=true:=fun v hv=>by
   have:=yb hv
   exact yc.mp hf _ this
  cases q:kvs.lookup z with
  |none=>exact iX
  |some v =>
   have:=fl v q
   cases v with
   |int i=>exact aL i
   |str i=>exact iY i
   |_=>(cases this),hZ⟩⟩
end
theorem gK(hm:X.mg x=some (.ref a))(hg:Gl X x:=by rfl)(hd:(x == ("__debug__" : Str))=false:=by decide):∀Y:Cx,Y.env=X.env→Y.mg=X.mg→PE Y (.Name x pos) (tC (.ref a)) :=
 fun Y e1 e2=>BP (X:=Y) (u:=.ref a) (show Y.env.kindOf x=_ by rw[e1];exact hg) (by rw[e2];exact hm) rfl hd
structure Fb(K:Frag)(x q:Str)(st:Stmt)(ps:List Str)(f:Addr)(d:FuncData):Prop where
 F:uJ K x q st f d
 b:Binds K d ps []
structure Cz(K:Frag)(mg:Str→Option Value)(x:Str)(st:Stmt)(ps:List Str)(f:Addr)(d:FuncData):Prop extends Fb K x x st ps f d where
 k:keepIn K (.ref f)=true
 m:mg x=some (.ref f)
structure LQ(K:Frag)(c:Addr)(x q:Str)(st:Stmt)(ps:List Str)(f:Addr)(d:FuncData):Prop extends Fb K x q st ps f d where
 e:Meth K c x f
abbrev Ok(P:Program)(w:World)(base:Heap){K:Frag}{mg:Str→Option Value}{x:Str}{st:Stmt}{ps:List Str}{f:Addr}{d:FuncData}(_:Cz K mg x st ps f d)(k:Nat)(sp:iL):Prop:=bG P w K mg base (eW P w mg) k f d ps (pe K sp)
abbrev x6(P:Program)(w:World)(mg:Str→Option Value)(base:Heap){K:Frag}{c:Addr}{x q:Str}{st:Stmt}{ps:List Str}{f:Addr}{d:FuncData}(_:LQ K c x q st ps f d)(k:Nat)(sp:iL):Prop:=bG P w K mg base (eW P w mg) k f d ps (pe K sp)
theorem fsc{N P:List Str}{sc:Scope}(a:sc.kind=.function∧sc.isCoroutine=false∧sc.isGenerator=false∧N.take P.length=P:=by exact⟨rfl,rfl,rfl,rfl⟩)(b:N.Nodup∧(∀x∈P,sc.names.lookup x=some .local∨sc.names.lookup x=some .cell)∧∀y∈sc.names,y.2≠.free:=by trivial):fJ N P sc:=⟨a.1,a.2.1,a.2.2.1,b.1,a.2.2.2,b.2.1,b.2.2⟩
section
variable{R:Prop}{K:Frag}{h:Heap}{mg:Str→Option Value}{od an:Option Addr}{sl:Array (Option Value)}{oc dV kV dc pm cd ct:Value}{f da:Addr}{JT:Option Addr}{dn:Nat}{JU:Array (Option Value)}{c:Addr}{tk:Tok}{d:FuncData}
theorem fn1(X:K.In h)(G:h.Ns mainGlobals mg)(x:Str)(st:Stmt)(ps:List Str)(a:nsIn K mainGlobals x=some (some (.ref f)))(l:K.lookup f=some ⟨oc,od,.func (fnOf x x (a_ st) (aY st) (ae st) dV kV dc pm an cd ct),sl⟩)
  (e:codeIn K cd x=true) (k:keepIn K (.ref f)=true) (b:∀us:List Value,us.length=ps.length→bindArgs (fnOf x x (a_ st) (aY st) (ae st) dV kV dc pm an cd ct) ⟨us,[]⟩=pure (ps.zip us)) (g:∀d,Cz K mg x st ps f d→R):R :=
 g _ ⟨⟨⟨_,_,_,_,_,_,_,_,_,_,rfl,l,e⟩,.all b⟩,k,mg_of X G a⟩
theorem Xc(X:K.In h)(G:h.Ns mainGlobals mg)(x:Str)(st:Stmt)(ps:List Str)(a:nsIn K mainGlobals x=some (some (.ref f)))(l:K.lookup f=some ⟨oc,od,.func (fnOf x x (a_ st) (aY st) (ae st) dV kV dc pm an cd ct),sl⟩)
  (e:codeIn K cd x=true) (k:keepIn K (.ref f)=true) (b:∀us:List Value,us.length=ps.length→bindArgs (fnOf x x (a_ st) (aY st) (ae st) dV kV dc pm an cd ct) ⟨us,[]⟩=pure (ps.zip us)) (g:∀d,d.code=cd→(∀(s:Shared) (us:List Value),us.length=ps.length→BindsTo s d ⟨us,[]⟩ (ps.zip us))→Cz K mg x st ps f d→R):R :=
 g _ rfl (fun s us h=>.of_eq (b us h)) ⟨⟨⟨_,_,_,_,_,_,_,_,_,_,rfl,l,e⟩,.all b⟩,k,mg_of X G a⟩
theorem fm1(C:p_ K c)(x q:Str)(st:Stmt)(ps:List Str)(a:findIn K (.ref c) x=some (some (.ref f)))(i:isFn K (.ref f)=true)(l:K.lookup f=some ⟨oc,od,.func (fnOf x q (a_ st) (aY st) (ae st) dV kV dc pm an cd ct),sl⟩)
  (e:codeIn K cd q=true) (k:keepIn K (.ref f)=true) (b:∀us:List Value,us.length=ps.length→bindArgs (fnOf x q (a_ st) (aY st) (ae st) dV kV dc pm an cd ct) ⟨us,[]⟩=pure (ps.zip us)) (g:∀d,LQ K c x q st ps f d→R):R :=
 g _ ⟨⟨⟨_,_,_,_,_,_,_,_,_,_,rfl,l,e⟩,.all b⟩,a,i,k⟩
theorem fnd(X:K.In h)(G:h.Ns mainGlobals mg)(x:Str)(st:Stmt)(ps:List Str)(a:nsIn K mainGlobals x=some (some (.ref f)))(l:K.lookup f=some ⟨oc,od,.func (fnOf x x (a_ st) (aY st) (ae st) (.ref da) kV dc pm an cd ct),sl⟩)
  (t:K.lookup da=some ⟨.type "tuple",JT,.seq #[.none] dn,JU⟩) (e:codeIn K cd x=true) (k:keepIn K (.ref f)=true)
  (b:∀(s:Shared) (us:List Value),s.heap.get? da=some ⟨.type "tuple",JT,.seq #[.none] dn,JU⟩→us.length=ps.length→BindsTo s (fnOf x x (a_ st) (aY st) (ae st) (.ref da) kV dc pm an cd ct) ⟨us,[]⟩ (ps.zip us))
  (b2:∀(s:Shared) (us:List Value),s.heap.get? da=some ⟨.type "tuple",JT,.seq #[.none] dn,JU⟩→us.length+1=ps.length→BindsTo s (fnOf x x (a_ st) (aY st) (ae st) (.ref da) kV dc pm an cd ct) ⟨us,[]⟩ (ps.zip (us++[.none])))
  (g:∀d,Cz K mg x st ps f d→Binds K d ps [.none]→R):R :=
 g _ ⟨⟨⟨_,_,_,_,_,_,_,_,_,_,rfl,l,e⟩,fun s us hK hl=>by rw[List.append_nil] at hl ⊢;exact b s us (hK _ _ t) hl⟩,k,mg_of X G a⟩ fun s us hK hl=>b2 s us (hK _ _ t) (by simpa using hl)
theorem Y1(C:p_ K c)(x q:Str)(st:Stmt)(ps:List Str)(a:findIn K (.ref c) x=some (some (.ref f)))(i:isFn K (.ref f)=true)(l:K.lookup f=some ⟨oc,od,.func (fnOf x q (a_ st) (aY st) (ae st) (.ref da) kV dc pm an cd ct),sl⟩)
  (t:K.lookup da=some ⟨.type "tuple",JT,.seq #[.none] dn,JU⟩) (e:codeIn K cd q=true) (k:keepIn K (.ref f)=true)
  (b:∀(s:Shared) (us:List Value),s.heap.get? da=some ⟨.type "tuple",JT,.seq #[.none] dn,JU⟩→us.length=ps.length→BindsTo s (fnOf x q (a_ st) (aY st) (ae st) (.ref da) kV dc pm an cd ct) ⟨us,[]⟩ (ps.zip us))
  (b2:∀(s:Shared) (us:List Value),s.heap.get? da=some ⟨.type "tuple",JT,.seq #[.none] dn,JU⟩→us.length+1=ps.length→BindsTo s (fnOf x q (a_ st) (aY st) (ae st) (.ref da) kV dc pm an cd ct) ⟨us,[]⟩ (ps.zip (us++[.none])))
  (g:∀d,LQ K c x q st ps f d→Binds K d ps [.none]→R):R :=
 g _ ⟨⟨⟨_,_,_,_,_,_,_,_,_,_,rfl,l,e⟩,fun s us hK hl=>by rw[List.append_nil] at hl ⊢;exact b s us (hK _ _ t) hl⟩,a,i,k⟩ fun s us hK hl=>b2 s us (hK _ _ t) (by simpa using hl)
theorem x8(X:K.In h)(G:h.Ns mainGlobals mg)(x:Str)(a:nsIn K mainGlobals x=some none)(g:mg x=none→R):R:=g (PySem.W.mg_none_of X G a)
theorem JV(X:K.In h)(G:h.Ns mainGlobals mg)(x:Str)(i:Int)(a:nsIn K mainGlobals x=some (some (.int i tk)))(g:mg x=some (.int i tk)→R):R:=g (mg_of X G a)
theorem Sb(X:K.In h)(G:h.Ns mainGlobals mg)(x:Str)(a:nsIn K mainGlobals x=some (some (.ref c)))(l:K.lookup c=some o)(g:mg x=some (.ref c)→K.lookup c=some o→R):R:=g (mg_of X G a) l
theorem JW(X:K.In h)(G:h.Ns mainGlobals mg)(x:Str)(a:nsIn K mainGlobals x=some (some (.ref c)))(e:excIn K c L2.nj "ValueError.__new__" = true)(g:mg x=some (.ref c)→excIn K c L2.nj "ValueError.__new__" = true→R):R:=g (mg_of X G a) e
theorem gvc(X:K.In h)(G:h.Ns mainGlobals mg)(x:Str)(a:nsIn K mainGlobals x=some (some (.ref c)))(pg:plainGet K c Str.empty=true)(hd:hasDictIn K c=true)(po:plainOver K c=true)(sa:findIn K (.ref c) "__setattr__" = some (some (.builtin "object.__setattr__")))(ms:makesIn K c=true)(kc:keepIn K (.ref c)=true)
  (g:mg x=some (.ref c)→p_ K c→makesIn K c=true→keepIn K (.ref c)=true→R):R:=g (mg_of X G a) ⟨pg,hd,po,sa⟩ ms kc
theorem Xd(C:p_ K c)(x:Str)(a:findIn K (.ref c) x=some none)(g:findIn K (.ref c) x=some none→R):R:=g a
theorem N_{P:Addr}(l:K.lookup c=some o)(e:codeHdIn [(c,o)] c P=true):codeHdIn K c P=true:=by
 unfold codeHdIn at e ⊢
 rw[l]
 rw[show ([(c,o)]:Frag).lookup c=some o by simp] at e
 exact e
theorem Y2{P:Addr}(X:K.In h)(e:d.code=.ref c)(o:K.lookup c=some ⟨oC,od,.fields vC,sl⟩)(q:vC[11]?=some (.ref P))(hh:codeHdIn [(c,⟨oC,od,.fields vC,sl⟩)] c P=true)(g:codeHdIn K c P=true→R):R:=g (N_ o hh)
end
section
variable{Q:List Value→Prop}
theorem Xe(h:Q [])(us:List Value)(e:us.length=0):Q us:=by cases us with
 |nil=>exact h
 |cons a us=>cases e
theorem Eh(h:∀a us,us.length=n→Q (a::us))(us:List Value)(e:us.length=n+1):Q us:=by cases us with
 |nil=>cases e
 |cons a us=>exact h a us (Nat.succ.inj e)
theorem Sd(h:∀a,Q [a]):∀us:List Value,us.length=1→Q us:=Eh fun a=>Xe (h a)
theorem ln2(h:∀a b,Q [a,b]):∀us:List Value,us.length=2→Q us:=Eh fun a=>Sd (h a)
theorem PB(h:∀a b c,Q [a,b,c]):∀us:List Value,us.length=3→Q us:=Eh fun a=>ln2 (h a)
theorem Xf(h:∀a b c d,Q [a,b,c,d]):∀us:List Value,us.length=4→Q us:=Eh fun a=>PB (h a)
theorem Xg(h:∀a b c d e,Q [a,b,c,d,e]):∀us:List Value,us.length=5→Q us:=Eh fun a=>Xf (h a)
theorem Se(h:∀a b c d e f,Q [a,b,c,d,e,f]):∀us:List Value,us.length=6→Q us:=Eh fun a=>Xg (h a)
theorem Xh(h:∀a,Q [a])(us:List Value)(e:us.length+1=2):Q us:=Sd h us (Nat.succ.inj e)
theorem Sf(h:∀a b,Q [a,b])(us:List Value)(e:us.length+1=3):Q us:=ln2 h us (Nat.succ.inj e)
end
section
variable{K:Frag}{X:Cx}{x:Str}{st:Stmt}{ps:List Str}{f:Addr}{fd:FuncData}{sp:iL}{e:Expr}{es:List Expr}{p pos:Pos}
theorem aI{t:iK}(T:Cz K X.mg x st ps f fd)(F:bG X.prog X.w K X.mg X.base (eW X.prog X.w X.mg) k f fd ps (pe K sp))(hr:bQ k' X.A)(ha:DA K X (e::es) t)(hle:k≤k':=by first|decide|omega)
  (hg:Gl X x:=by rfl) (oZ:(x == ("__debug__" : Str))=false:=by decide) (he:starEach (e::es) X.env=(false,eval e X.env)::starEach es X.env:=by rfl) (dD:(backTo pos (starEach es X.env)).any (·.1)=false:=by rfl) (hK:X.K=K:=by rfl) :
  DE K X (.Call (.Name x p) (e::es) [] pos) (Lz sp [] t):=cf (F.mono hle) hr T.m T.k T.b d0 ha hg oZ he dD hK
end
theorem bQ.u(r:bQ k A):A.units+64<cLine:=r.units
end L2
namespace L2
open PySem PySem.Spec PyProof.Rows PySem.SeqAt
def isStrOf(z:Str):Value→Bool
 |.str y _=>y == z
 |_=>false
end L2
namespace L2
open PySem PySem.Spec PyProof.Rows
section
variable{K:Frag}
theorem RvAll.thr(h:RvAll K H [a,b,c] vs):∃x y z,vs=[x,y,z]∧Rv K H a x∧Rv K H b y∧Rv K H c z:=by
 obtain⟨x,vs1,rfl,h1,h⟩:=h.cons
 obtain⟨y,vs2,rfl,h2,h⟩:=h.cons
 obtain⟨z,vs3,rfl,h3,h⟩:=h.cons
 rw[h.nil]
 exact⟨x,y,z,rfl,h1,h2,h3⟩
theorem Oa:bootBuiltins "max" = some (.builtin "max"):=by with_unfolding_all rfl
def i7:List D→List D→List D→List D
 |x::xs,y::ys,z::zs=>.tup [x,y,z]::i7 xs ys zs
 |_,_,_=>[]
theorem nC:∀{xs ys zs:List D},xs.length=ys.length→xs.length=zs.length→(i7 xs ys zs).length=xs.length
 |[],_,_,_,_=>by rw[i7.eq_def]
 |x::xs,y::ys,z::zs,h,k=>congrArg Nat.succ (nC (Nat.succ.inj h) (Nat.succ.inj k))
theorem nD:∀{xs ys zs:List D}{i:Nat}{d:D},(i7 xs ys zs)[i]?=some d→∃x y z,xs[i]?=some x∧ys[i]?=some y∧zs[i]?=some z∧d=.tup [x,y,z]
 |x::xs,y::ys,z::zs,0,d,h=>⟨x,y,z,rfl,rfl,rfl,(zM h).symm⟩
 |x::xs,y::ys,z::zs,i+1,d,h=>nD (i:=i) h
 |[],_,_,i,d,h=>by rw[i7.eq_def] at h;simp at h
 |_::_,[],_,i,d,h=>by rw[i7.eq_def] at h;simp at h
 |_::_,_::_,[],i,d,h=>by rw[i7.eq_def] at h;simp at h
def Ob(t:iK):AG:=fun σ S R Z=>t σ S (fun ds S1=>∃xs ys zs,ds=[.tup xs,.tup ys,.tup zs]∧xs.length=ys.length∧xs.length=zs.length∧R ⟨i7 xs ys zs,fun _=>True⟩ S1) Z
end
section
variable{R:Prop}{K:Frag}{h:Heap}{mg:Str→Option Value}{od an:Option Addr}{sl:Array (Option Value)}{oc kV dc pm cd ct:Value}{f da:Addr}{JT:Option Addr}{dn:Nat}{JU:Array (Option Value)}
theorem Xi(X:K.In h)(G:h.Ns mainGlobals mg)(x:Str)(st:Stmt)(ps:List Str)(ar:Array Value)(a:nsIn K mainGlobals x=some (some (.ref f)))(l:K.lookup f=some ⟨oc,od,.func (fnOf x x (a_ st) (aY st) (ae st) (.ref da) kV dc pm an cd ct),sl⟩)
  (t:K.lookup da=some ⟨.type "tuple",JT,.seq ar dn,JU⟩) (e:codeIn K cd x=true) (k:keepIn K (.ref f)=true)
  (b:∀(s:Shared) (us:List Value),s.heap.get? da=some ⟨.type "tuple",JT,.seq ar dn,JU⟩→us.length=ps.length→BindsTo s (fnOf x x (a_ st) (aY st) (ae st) (.ref da) kV dc pm an cd ct) ⟨us,[]⟩ (ps.zip us))
  (g:∀d,Cz K mg x st ps f d→R):R :=
 g _ ⟨⟨⟨_,_,_,_,_,_,_,_,_,_,rfl,l,e⟩,fun s us hK hl=>by rw[List.append_nil] at hl ⊢;exact b s us (hK _ _ t) hl⟩,k,mg_of X G a⟩
end
mutual
inductive Dr (S:av):D→PyData→Prop where
 |aw:Dr S .aw .none
 |bl (b:Bool):Dr S (.bl b) (.bool b)
 |int (i:Int):Dr S (.int i) (.int i)
 |str (z:Str):Dr S (.str z) (.str z)
 |tup {ds:List D}{ps:List PyData} : Sh S ds ps→Dr S (.tup ds) (.tuple ps)
 |ref {a:Addr}{ds:List D}{ps:List PyData} : S a=some (.lst ds)→Sh S ds ps→Dr S (.ref a) (.list ps)
inductive Sh (S:av):List D→List PyData→Prop where
 |nil:Sh S [] []
 |cons {d:D}{ds:List D}{p:PyData}{ps:List PyData} : Dr S d p→Sh S ds ps→Sh S (d::ds) (p::ps)
end
def kO:Stmt→Str
 |.FunctionDef n _ _ _ _ _ _ _ _ _=>n
 |_=>Str.empty
def sC(s:Stmt):List Str:=(a_ s).args.map fun a=>a.arg
def Ei(K:Frag)(mg:Str→Option Value)(top:Nat→Stmt)(f:Nat→Addr)(d:Nat→FuncData)(l:List Nat):Prop:=∀i∈l,Cz K mg (kO (top i)) (top i) (sC (top i)) (f i) (d i)
def Ej(K:Frag)(c:Addr)(q:Str)(cl:Stmt)(f:Nat→Addr)(d:Nat→FuncData)(l:List Nat):Prop:=∀i∈l,LQ K c (kO (inClass cl i)) (q++kO (inClass cl i)) (inClass cl i) (sC (inClass cl i)) (f i) (d i)
section
variable{K:Frag}{h:Heap}{mg:Str→Option Value}{od an:Option Addr}{sl:Array (Option Value)}{oc dV kV dc pm cd ct:Value}{x:Addr}{top:Nat→Stmt}{l:List Nat}{c:Addr}{q:Str}{cl:Stmt}
theorem af(X:K.In h)(G:h.Ns mainGlobals mg)(i:Nat)(ni:i∉l)(a:nsIn K mainGlobals (kO (top i))=some (some (.ref x)))(o:K.lookup x=some ⟨oc,od,.func (fnOf (kO (top i)) (kO (top i)) (a_ (top i)) (aY (top i)) (ae (top i)) dV kV dc pm an cd ct),sl⟩)
  (e:codeIn K cd (kO (top i))=true) (k:keepIn K (.ref x)=true) (b:∀us:List Value,us.length=(sC (top i)).length→bindArgs (fnOf (kO (top i)) (kO (top i)) (a_ (top i)) (aY (top i)) (ae (top i)) dV kV dc pm an cd ct) ⟨us,[]⟩=pure ((sC (top i)).zip us))
  (g:∃f d,Ei K mg top f d l):∃f d,Ei K mg top f d (i::l):=by
 refine fn1 X G _ _ _ a o e k b fun d0 F=>?_
 obtain⟨f,d,A⟩:=g
 refine⟨fun j=>if j=i then x else f j,fun j=>if j=i then d0 else d j,fun j hj=>?_⟩
 by_cases z:j=i
 ·subst z;dsimp only;rw[if_pos rfl,if_pos rfl];exact F
 ·dsimp only;rw[if_neg z,if_neg z];exact A j ((zi.mp hj).resolve_left z)
theorem af0:∃f d,Ei K mg top f d []:=⟨fun _=>0,fun _=>fnOf Str.empty Str.empty (a_ (.Pass ⟨0,0,0,0⟩)) [] (ae (.Pass ⟨0,0,0,0⟩)) .none .none .none .none none .none .none,fun _ h=>nomatch h⟩
theorem afx{R:Prop}(_:K.In h)(_:h.Ns mainGlobals mg)(g:∃f d,Ei K mg top f d l)(r:∀f d,Ei K mg top f d l→R):R:=by obtain⟨f,d,A⟩:=g;exact r f d A
theorem amx{R:Prop}(_:p_ K c)(g:∃f d,Ej K c q cl f d l)(r:∀f d,Ej K c q cl f d l→R):R:=by obtain⟨f,d,A⟩:=g;exact r f d A
theorem am(C:p_ K c)(i:Nat)(ni:i∉l)(a:findIn K (.ref c) (kO (inClass cl i))=some (some (.ref x)))(w:isFn K (.ref x)=true)(o:K.lookup x=some ⟨oc,od,.func (fnOf (kO (inClass cl i)) (q++kO (inClass cl i)) (a_ (inClass cl i)) (aY (inClass cl i)) (ae (inClass cl i)) dV kV dc pm an cd ct),sl⟩)
  (e:codeIn K cd (q++kO (inClass cl i))=true) (k:keepIn K (.ref x)=true) (b:∀us:List Value,us.length=(sC (inClass cl i)).length→bindArgs (fnOf (kO (inClass cl i)) (q++kO (inClass cl i)) (a_ (inClass cl i)) (aY (inClass cl i)) (ae (inClass cl i)) dV kV dc pm an cd ct) ⟨us,[]⟩=pure ((sC (inClass cl i)).zip us))
  (g:∃f d,Ej K c q cl f d l):∃f d,Ej K c q cl f d (i::l):=by
 refine fm1 C _ _ _ _ a w o e k b fun d0 F=>?_
 obtain⟨f,d,A⟩:=g
 refine⟨fun j=>if j=i then x else f j,fun j=>if j=i then d0 else d j,fun j hj=>?_⟩
 by_cases z:j=i
 ·subst z;dsimp only;rw[if_pos rfl,if_pos rfl];exact F
 ·dsimp only;rw[if_neg z,if_neg z];exact A j ((zi.mp hj).resolve_left z)
theorem am0:∃f d,Ej K c q cl f d []:=⟨fun _=>0,fun _=>fnOf Str.empty Str.empty (a_ (.Pass ⟨0,0,0,0⟩)) [] (ae (.Pass ⟨0,0,0,0⟩)) .none .none .none .none none .none .none,fun _ h=>nomatch h⟩
end
section
variable{K:Frag}{X:Cx}{x q:Str}{st:Stmt}{ps:List Str}{C f:Addr}{fd:FuncData}{sp:iL}{o e:Expr}{es:List Expr}{apos pos:Pos}{k k':Nat}
theorem sD{t:iK}(he:DE K X o ta)(c:p_ K C)(T:LQ K C x q st ps f fd)(F:bG X.prog X.w K X.mg X.base (eW X.prog X.w X.mg) k f fd ps (pe K sp))(hr:bQ k' X.A)(ha:DA K X (e::es) t)(hle:k≤k':=by first|decide|omega)
  (we:starEach (e::es) X.env=(false,eval e X.env)::starEach es X.env:=by rfl) (dD:(backTo pos (starEach es X.env)).any (·.1)=false:=by rfl)
  (ht:eval (.Call (.Attribute o x apos) (e::es) [] pos) X.env=(do
   let ov ← eval o X.env
   standAt apos.atName
   let (f,first) ← holding [ov] (getMethod ov x pl)
   callWith pos f first (backTo pos (starEach (e::es) X.env)) (backToKw pos (keywordEach [] X.env))):=by rfl) (hK:X.K=K:=by rfl) :
  DE K X (.Call (.Attribute o x apos) (e::es) [] pos) (Cd C x sp [] ta t):=Wx he c T.e (F.mono hle) hr T.b d0 ha we dD ht hK
theorem kP(he:DE K X o ta)(c:p_ K C)(T:LQ K C x q st ps f fd)(F:bG X.prog X.w K X.mg X.base (eW X.prog X.w X.mg) k f fd ps (pe K sp))(hr:bQ k' X.A)(hle:k≤k':=by first|decide|omega)
  (ht:eval (.Call (.Attribute o x apos) [] [] pos) X.env=(do
   let ov ← eval o X.env
   standAt apos.atName
   let (f,first) ← holding [ov] (getMethod ov x pl)
   callWith pos f first (backTo pos (starEach [] X.env)) (backToKw pos (keywordEach [] X.env))):=by rfl) (hK:X.K=K:=by rfl) :
  DE K X (.Call (.Attribute o x apos) [] [] pos) (Cd C x sp [] ta Jy):=Rr he c T.e (F.mono hle) hr T.b d0 ht hK
end
section
variable{K:Frag}{X:Cx}
def Si:D→Option Int→Option Int→av→KD→Prop:=fun x lo hi S R=>match x with
 |.ref a=>∃ds,S a=some (.lst ds)∧∀p,S p=none→R (.ref p) (S.set p (.lst (cR ds lo hi)))
 |.iP ds=>∀p,S p=none→R (.ref p) (S.set p (.lst (cR ds lo hi)))
 |_=>False
theorem Sj(hK:X.K=K):Vq X (fun x lo hi H Q=>∃d S R,Rv K H d x∧Rs K S H∧Si d lo hi S R∧Cn K H R Q):=by
 rintro pins s σ H x v vl vu lo hi sl Q I rx hs pl pu ⟨d,S,R,r1,hS,h,hR⟩
 subst hK
 cases d with
 |ref a =>
  obtain⟨ds,e,h⟩:=h
  obtain⟨xs,e1,t⟩:=hS.lst e
  exact BZ pins s σ H _ v vl vu lo hi sl Q I rx hs pl pu ⟨a,xs,r1.ref,.of e1,fun p hp=>hR.new hS hp (h p) (t.cut lo hi)⟩
 |iP ds =>
  obtain⟨a,xs,rfl,q,t⟩:=r1.iP
  exact BZ pins s σ H _ v vl vu lo hi sl Q I rx hs pl pu ⟨a,xs,rfl,q.sq,fun p hp=>hR.new hS hp (h p) (t.cut lo hi)⟩
 |_=>exact h.elim
def Xj(te:TD)(tl th:Pn):TD:=fun σ S R Z=>te σ S (fun x S1=>tl σ S1 (fun l S2=>th σ S2 (fun u S3=>Si x l u S3 R) Z) Z) Z
theorem Sk{e:Expr}{lo hi:Option Expr}{te:TD}{tl th:Pn}{p2 pos:Pos}(he:DE K X e te)(hl:DO K X lo tl)(hu:DO K X hi th)(hK:X.K=K:=by rfl):DE K X (.Subscript e (.Slice lo hi none p2) pos) (Xj te tl th) :=
 ⟨fun y=>(Fy (X:=y.cx) (Sj hK) (he.of y) (hl.of y) (hu.of y)).mono <| by rintro τ H Q ⟨σ,S,R,Z,aB,hS,q,hR,hZ⟩;exact
  ⟨σ,S,_,Z,aB,hS,q,fun d S1 x H1 r1 v1 s1 k1=>⟨σ,S1,_,Z,aB.ts k1,s1,r1,fun l S2 H2 r2 s2 k2=>⟨σ,S2,_,Z,aB.ts (k1.trans k2),s2,r2,fun u S3 H3 r3 s3 k3=>⟨d,S3,R,Rv.ts (k2.trans k3) _ v1,s3,r3,hR.kp ((k1.trans k2).trans k3)⟩,hZ.kp (k1.trans k2)⟩,hZ.kp k1⟩,hZ⟩⟩
def Xk:v5:=fun x y S R=>match x,y with
 |.int i,.int j=>R (.int (i+j)) S
 |.str a,.str b=>a.length+b.length≤sizeLine∧R (.str (a++b)) S
 |.ref a,.ref b=>∃xs ys,S a=some (.lst xs)∧S b=some (.lst ys)∧xs.length+ys.length≤sizeLine∧∀p,S p=none→R (.ref p) (S.set p (.lst (xs++ys)))
 |_,_=>False
theorem bc:qw K (binaryOp .Add) Xk:=by
 rintro X hK hu pins s σ H x y v u Q I rx ry ⟨d,e,S,R,r1,r2,hS,h,hR⟩
 subst hK
 cases d <;> cases e <;> first
  |exact False.elim h
  |exact MN pins s σ H x y v u Q I rx ry ⟨_,_,r1.int,r2.int,hR.now hS h (aL _)⟩
  |exact yV pins s σ H x y v u Q I rx ry ⟨_,_,r1.str,r2.str,h.1,hR.now hS h.2 (iY _)⟩
  |skip
 obtain⟨xs,ys,e1,e2,hl,q⟩:=h
 obtain⟨vs,h1,t1⟩:=hS.lst e1
 obtain⟨ws,h2,t2⟩:=hS.lst e2
 exact Nb pins s σ H x y v u Q I rx ry ⟨_,_,vs,ws,r1.ref,r2.ref,h1,h2,by rw[t1.len,t2.len];exact hl,fun p hp=>hR.new hS hp (q p) (t1.app t2)⟩
end
structure W(sp:iL)(ds:List D)(S:av)(R:KD)(Z:KX):Prop where
 of:sp ds S R Z
theorem bG.w{P:Program}{w:World}{K:Frag}{mg:Str→Option Value}{base:Heap}{k:Nat}{f:Addr}{fd:FuncData}{ps:List Str}{sp:iL}(F:bG P w K mg base (eW P w mg) k f fd ps (pe K sp)):bG P w K mg base (eW P w mg) k f fd ps (pe K (W sp)):=F.Gu fun _ _ _ _ h=>h.of
def Xl(s:Stmt):List Str:=((ae s).names.filter fun p=>p.2 == .local || p.2 == .cell).map (·.1)
theorem bN(s:Stmt)(a:(ae s).kind=.function∧(ae s).isCoroutine=false∧(ae s).isGenerator=false∧(Xl s).take (sC s).length=sC s:=by exact⟨rfl,rfl,rfl,rfl⟩)(b:(Xl s).Nodup∧(∀x∈sC s,(ae s).names.lookup x=some .local∨(ae s).names.lookup x=some .cell)∧∀y∈(ae s).names,y.2≠.free:=by trivial):fJ (Xl s) (sC s) (ae s):=fsc a b
section
variable{P:Program}{w:World}{K:Frag}{mg:Str→Option Value}{base:Heap}{x qual:Str}{st:Stmt}{f:Addr}{fd:FuncData}{N ps:List Str}{k:Nat}{sp:iL}
theorem uJ.bU(F:uJ K x qual st f fd)(S:fJ N ps (ae st))
  (lP:∀(fK:Value) (A:Around) (outer:List Env) (s:Shared) (H:Hp) (E:XK) (ds:List D) (S:av) (R:KD) (Z:KX),bQ k (A.deeper (PyProof.Rows.envOfC qual (ae st) s.heap.objs.size f fK))→sp ds S R Z →
   ∃t,E9 K (jR (eW P w mg) P w K mg base N qual (ae st) f fK A outer s H E) true (aY st) t∧t { nx:=fun _ S'=>Fo S' (R .aw),rt:=fun d S'=>Fo S' (R d) } (i6 N ds) S fun _ C S'=>Fo S' (Z C))
  (len:∀ds S R Z,sp ds S R Z→ds.length=ps.length:=by intro _ _ _ _ h;first|(cases h;subst_vars;rfl;done)|(repeat first|(obtain⟨e,_⟩:=h;rw[e];rfl;done)|obtain⟨_,h⟩:=h)):bG P w K mg base (eW P w mg) (k+1) f fd ps (pe K sp):=F.ok S len lP
end
def eY(N:Nat)(v:Nat→Value):Array Value:=((List.range N).map v).toArray
structure ZN(n N:Nat)(l:Nat→Addr)(i:Nat)(h:Heap):Prop where
 z:IsZip h (n+N+2) (n+N) (n+N+1) .none
 t:lU h (n+N) (eY N fun j=>.ref (n+j))
 o:∃arr:Array Value,arr.size=N∧lU h (n+N+1) arr
 it:∀j,j<N→h.IsTupleIter (n+j) (l j) i
theorem jH:(eY N v).size=N:=by unfold eY;simp
theorem i8:(eY N v).toList.length=N:=by unfold eY;simp
theorem JX(h:arr.size=N)(e:∀j,j<N→arr[j]?=some (v j)):arr=eY N v:=by
 refine Array.ext (by rw[h,jH]) fun j h1 h2=>?_
 have:=e j (by lia)
 rw[Array.getElem?_eq_getElem h1] at this
 rw[zM this]
 simp [eY]
section
variable{prog:Program}{w:World}{A:Around}{E:Value→Shared→Prop}{s:Shared}{n N:Nat}{l:Nat→Addr}{i:Nat}{xs:Nat→Array Value}
theorem Ek{v:Nat→Value}{Q:Value→Shared→Prop}(h1:1≤N)(h3:N≤3)(lt:∀j,j<N→l j<n)(hs:ZN n N l i s.heap)(tu:∀j,j<N→s.heap.IsTuple (l j) (xs j))(ev:∀j,j<N→(xs j)[i]?=some (v j))
  (hQ:∀h',IsZip h' (n+N+2) (n+N) (n+N+1) (rawInt s.heap.objs.size)→lU h' (n+N+1) (eY N v)→(∀j,j<N→h'.IsTupleIter (n+j) (l j) (i+1))→lU h' s.heap.objs.size (eY N v)→(∀c o,c≠n+N+2→c≠n+N+1→(∀j,j<N→c≠n+j)→s.heap.get? c=some o→h'.get? c=some o)→Q (.ref s.heap.objs.size) { s with heap:=h' }) :
  wpAny (model prog w) A (Builtin.«zip.__next__» ⟨[.ref (n+N+2)],[]⟩) (fun fin s'=>∃v,fin=.done (.ret v)∧Q v s') E s:=by
 obtain⟨hz,hI,⟨arr,na,hO⟩,hit⟩:=hs
 show wpAny _ _ (field (.ref (n+N+2)) 2 >>= _) _ _ _
 refine zc (z0 hz rfl (x:=.bool false) rfl ?_)
 show wpAny _ _ (field (.ref (n+N+2)) 3 >>= _) _ _ _
 refine zc (z0 hz rfl (x:=.ref (n+N)) rfl ?_)
 refine zc (wpAny_seqItems hI rfl ?_)
 have he:(eY N fun j=>Value.ref (n+j)).isEmpty=false:=by rw[Array.isEmpty_eq_false_iff];intro e;have:=congrArg Array.size e;rw[jH] at this;simp at this;lia
 dsimp only
 rw[if_neg (by rw[he];exact zd)]
 refine zc ?_
 unfold Builtin.SmallTypes.ownedTupleIsFree
 refine zc (z0 hz rfl (x:=.none) rfl (zu ?_))
 simp only [if_true]
 refine zc (wpAny_rule ?_)
 refine zc (z0 hz rfl (x:=.ref (n+N+1)) rfl ?_)
 refine zc (wpAny_setField_rec hz (by simp) fun h0 Oc q0=>?_)
 replace Oc:IsZip h0 (n+N+2) (n+N) (n+N+1) .ellipsis:=Oc
 have k0:∀c o,c≠n+N+2→s.heap.get? c=some o→h0.get? c=some o:=fun c o d e=>q0.extBut _ _ d e
 refine zc (wpAny_forIn_list _ (fun rest b s'=>∃(k:Nat) (h':Heap) (a':Array Value),k≤N∧rest=((eY N fun j=>Value.ref (n+j)).toList.zipIdx).drop k∧b=(none,())∧s'={ s with heap:=h' }∧lU h' (n+N+1) a'∧a'.size=N∧(∀j,j<k→a'[j]?=some (v j))∧(∀j,j<N→h'.IsTupleIter (n+j) (l j) (if j<k then i+1 else i))∧IsZip h' (n+N+2) (n+N) (n+N+1) .ellipsis∧h'.objs.size=s.heap.objs.size∧(∀c o,c≠n+N+2→c≠n+N+1→(∀j,j<N→c≠n+j)→s.heap.get? c=some o→h'.get? c=some o)) _ ?_ ?_ _ _ ?_)
 ·rintro x rest b s' ⟨k,h',a',hk,e1,rfl,rfl,O,ha,hv,J,Z,sz,kp⟩
  have dW:k<N:=by
   have:=congrArg List.length e1
   rw[zQ,List.length_drop,List.length_zipIdx,i8] at this
   lia
  have e2:((eY N fun j=>Value.ref (n+j)).toList.zipIdx).drop k=(Value.ref (n+k),k)::((eY N fun j=>Value.ref (n+j)).toList.zipIdx).drop (k+1):=by
   rw[List.drop_eq_getElem_cons (by rw[List.length_zipIdx,i8];exact dW)]
   simp [eY]
  rw[e2] at e1
  cases e1
  have lk:@LT.lt Nat _ (l k) n:=lt k dW
  have Jk:=J k dW
  rw[if_neg (yr _)] at Jk
  have T0:Heap.IsTuple h' (l k) (xs k):=by
   obtain⟨o,a1,a2⟩:=tu k dW
   exact⟨o,kp _ _ (by show @Ne Nat _ _;lia) (by show @Ne Nat _ _;lia) (fun j _=>by show @Ne Nat _ _;lia) a1,a2⟩
  refine zc (wpAny_onRaise ?_)
  show wpAny _ _ (Builtin.SmallTypes.nextOf (.ref (n+k)) >>= _) _ _ _
  refine zc (Al (s:={ s with heap:=h' }) Jk T0 (ev k dW) fun g1 m0 q1=>zu ?_)
  have O1:lU g1 (n+N+1) a':=q1.extBut _ _ (by show @Ne Nat _ _;lia) O
  refine zc (wpAny_seqItems (s:={ s with heap:=g1 }) O1 rfl ?_)
  refine zc (DY (s:={ s with heap:=g1 }) O1 (by lia) fun g2 O2 q2=>?_)
  refine zc (wpAny_letGo (zu ?_))
  refine⟨k+1,g2,_,dW,rfl,rfl,rfl,O2,by rw[Array.size_setIfInBounds];exact ha,fun j hj=>?_,fun j hj=>?_,q2.extBut _ _ (by show @Ne Nat _ _;lia) (q1.extBut _ _ (by show @Ne Nat _ _;lia) Z),by rw[q2.1,q1.1];exact sz,fun c o d1 d2 d3 e=>q2.extBut _ _ d2 (q1.extBut _ _ (d3 k dW) (kp c o d1 d2 d3 e))⟩
  ·by_cases z:j=k
   ·subst z;rw[Array.getElem?_setIfInBounds_self_of_lt (by lia)]
   ·rw[Array.getElem?_setIfInBounds_ne (Ne.symm z)];exact hv j (by lia)
  ·by_cases z:j=k
   ·subst z
    rw[if_pos (yE _)]
    exact uC q2.extBut (by show @Ne Nat _ _;lia) m0
   ·have:=J j hj
    rw[show (if j<k+1 then i+1 else i)=if j<k then i+1 else i by by_cases y:j<k;rw[if_pos y,if_pos (by lia)];rw[if_neg y,if_neg (by lia)]]
    exact uC q2.extBut (by show @Ne Nat _ _;lia) (uC q1.extBut (by show @Ne Nat _ _;lia) this)
 ·rintro b s' ⟨k,h',a',hk,e1,rfl,rfl,O,ha,hv,J,Z,sz,kp⟩
  have dW:k=N:=by
   have:=congrArg List.length e1
   rw[List.length_nil,List.length_drop,List.length_zipIdx,i8] at this
   lia
  subst dW
  have ea:=JX ha hv
  subst ea
  refine zc (wpAny_seqItems (s:={ s with heap:=h' }) O rfl ?_)
  refine zc (wpAny_newTuple ?_ (hsz:=by rw[i8];exact V3 h3))
  have lz:n+k+2<h'.objs.size:=zt Z
  show wpAny _ _ (Builtin.SmallTypes.ownedTupleHandOut (.ref (n+k+2)) (.ref h'.objs.size) >>= _) _ _ _
  refine zc ?_
  unfold Builtin.SmallTypes.ownedTupleHandOut
  have hzM:IsZip (h'.push { cls:=.type "tuple",data:=.seq (eY k v) }) (n+k+2) (n+k) (n+k+1) .ellipsis:=za _ Z
  refine zc (wpAny_setField_rec (s:={ s with heap:=h'.push { cls:=.type "tuple",data:=.seq (eY k v) } }) hzM (by simp) fun g1 PC r1=>?_)
  replace PC:IsZip g1 (n+k+2) (n+k) (n+k+1) (rawInt h'.objs.size):=PC
  refine wpAny_setField_rec (s:={ s with heap:=g1 }) PC (by simp) fun g2 N2 r2=>?_
  replace N2:IsZip g2 (n+k+2) (n+k) (n+k+1) (rawInt h'.objs.size):=N2
  have up:∀c o,c≠n+k+2→h'.get? c=some o→g2.get? c=some o:=fun c o d e=>r2.extBut _ _ d (r1.extBut _ _ d (za _ e))
  have hT:lU g2 h'.objs.size (eY k v):=r2.extBut _ _ (yg lz) (r1.extBut _ _ (yg lz) (zj _ rfl))
  rw[sz] at N2 hT
  refine zu !⟨?_⟩
  show Q (.ref h'.objs.size) _
  rw[sz]
  refine hQ g2 N2 (up _ _ (by show @Ne Nat _ _;lia) O) (fun j hj=>?_) hT fun c o d1 d2 d3 e=>up c o d1 (kp c o d1 d2 d3 e)
  have:=J j hj
  rw[if_pos hj] at this
  exact Lp (fun o e=>up _ o (by show @Ne Nat _ _;lia) e) this
 ·refine⟨0,h0,arr,zS _,rfl,rfl,rfl,k0 _ _ (by show @Ne Nat _ _;lia) hO,na,fun j hj=>absurd hj (Nat.not_lt_zero _),fun j hj=>?_,Oc,q0.1,fun c o d _ _ e=>k0 c o d e⟩
  rw[if_neg (Nat.not_lt_zero _)]
  obtain⟨o,a1,a2⟩:=hit j hj
  exact⟨o,k0 _ _ (by show @Ne Nat _ _;lia) a1,a2⟩
theorem GS(h1:1≤N)(hh:A.handled=none)(hs:ZN n N l i s.heap)(lt:l 0<n)(t0:s.heap.IsTuple (l 0) (xs 0))(e0:(xs 0)[i]?=none)
  (hE:∀h' e,(∀c o,c≠n+N+2→c≠n+0→s.heap.get? c=some o→h'.get? c=some o)→(∃o,h'.get? e=some o∧o.cls=.type "StopIteration")→E (.ref e) { s with heap:=h' }) :
  wpAny (model prog w) A (Builtin.«zip.__next__» ⟨[.ref (n+N+2)],[]⟩) Q E s:=by
 obtain⟨hz,hI,⟨arr,na,hO⟩,hit⟩:=hs
 show wpAny _ _ (field (.ref (n+N+2)) 2 >>= _) _ _ _
 refine zc (z0 hz rfl (x:=.bool false) rfl ?_)
 show wpAny _ _ (field (.ref (n+N+2)) 3 >>= _) _ _ _
 refine zc (z0 hz rfl (x:=.ref (n+N)) rfl ?_)
 refine zc (wpAny_seqItems hI rfl ?_)
 have he:(eY N fun j=>Value.ref (n+j)).isEmpty=false:=by rw[Array.isEmpty_eq_false_iff];intro e;have:=congrArg Array.size e;rw[jH] at this;simp at this;lia
 dsimp only
 rw[if_neg (by rw[he];exact zd)]
 refine zc ?_
 unfold Builtin.SmallTypes.ownedTupleIsFree
 refine zc (z0 hz rfl (x:=.none) rfl (zu ?_))
 simp only [if_true]
 refine zc (wpAny_rule ?_)
 refine zc (z0 hz rfl (x:=.ref (n+N+1)) rfl ?_)
 refine zc (wpAny_setField_rec hz (by simp) fun h0 Oc q0=>?_)
 replace Oc:IsZip h0 (n+N+2) (n+N) (n+N+1) .ellipsis:=Oc
 have lk:@LT.lt Nat _ (l 0) n:=lt
 have J0:Heap.IsTupleIter h0 (n+0) (l 0) i:=by obtain⟨o,a1,a2⟩:=hit 0 h1;exact⟨o,q0.extBut _ _ (by show @Ne Nat _ _;lia) a1,a2⟩
 have T0:Heap.IsTuple h0 (l 0) (xs 0):=by obtain⟨o,a1,a2⟩:=t0;exact⟨o,q0.extBut _ _ (by show @Ne Nat _ _;lia) a1,a2⟩
 have e2:(eY N fun j=>Value.ref (n+j)).toList.zipIdx=(Value.ref (n+0),0)::((eY N fun j=>Value.ref (n+j)).toList.zipIdx).drop 1:=by
  have:=List.drop_eq_getElem_cons (l:=(eY N fun j=>Value.ref (n+j)).toList.zipIdx) (i:=0) (by rw[List.length_zipIdx,i8];exact h1)
  rw[List.drop_zero] at this
  rw[this]
  simp [eY]
 rw[e2,List.forIn_cons]
 refine zc (zc (zc (wpAny_onRaise ?_)))
 show wpAny _ _ (Builtin.SmallTypes.nextOf (.ref (n+0)) >>= _) _ _ _
 refine zc (qq (s:={ s with heap:=h0 }) hh J0 T0 e0 fun h1 e q1 he=>?_)
 obtain⟨oe,Xm,Y3⟩:=he
 have PC:IsZip h1 (n+N+2) (n+N) (n+N+1) .ellipsis:=q1 _ _ (by show @Ne Nat _ _;lia) Oc
 have ez:e≠n+N+2:=fun x=>by subst x;rw[PC] at Xm;cases Xm;simp at Y3
 refine wpAny_setField_rec (s:={ s with heap:=h1 }) PC (by simp) fun h2 _ q2=>hE h2 e (fun c o dz d0 x=>q2.extBut _ _ dz (q1 _ _ d0 (q0.extBut _ _ dz x))) ⟨oe,q2.extBut _ _ ez Xm,Y3⟩
end
def Od(K:Frag)(N:Nat)(l:Nat→Addr):It :=
 ⟨fun i H=>∃(xs:Nat→List V) (x:Nat→V),∀j,j<N→iH K H (l j) (xs j)∧(xs j)[i]?=some (x j),
  fun i H y H'=>∃T,H T=none∧y=.ref T∧∀(xs:Nat→List V) (x:Nat→V),(∀j,j<N→iH K H (l j) (xs j)∧(xs j)[i]?=some (x j))→H'=upd H T (.tup ((List.range N).map x)),
  fun i H=>∃xs:Nat→List V,(∀j,j<N→iH K H (l j) (xs j))∧(xs 0).length≤i⟩
def PD(n N:Nat):List Addr:=(List.range (N+3)).map fun j=>n+j
theorem pN(h:b∈PD n N):∃j,j<N+3∧b=n+j:=by
 obtain⟨j,hj,e⟩:=zg.mp h
 exact⟨j,zN.mp hj,e.symm⟩
theorem eZ(h:j<N+3):(n+j:Nat)∈PD n N:=zg.mpr ⟨j,zN.mpr h,rfl⟩
theorem AL(h:∀j,j<N→RelV (x j) (u j)):Vals ((List.range N).map x) ((List.range N).map u):=by
 have:∀l:List Nat,(∀j∈l,j<N)→Vals (l.map x) (l.map u):=by
  intro l
  induction l with
  |nil=>exact fun _=>.nil
  |cons a l ih=>exact fun hl=>.cons (h a (hl a zo)) (ih fun j hj=>hl j (zh _ hj))
 exact this _ fun j hj=>zN.mp hj
theorem tT{P:Program}{w:World}{K:Frag}{es:List Expr}{kk:Nat}{tp:Pos}{n N:Nat}{l:Nat→Addr}(h1:1≤N)(h3:N≤3)(lt:∀j,j<N→l j<n):Turn P w K (.Tuple es kk tp) (Od K N l) (PD n N) (n+N+2) (ZN n N l) where
 mem:=eZ (j:=N+2) (by lia)
 obj:=fun i h st b hb=>by
  obtain⟨j,hj,rfl⟩:=pN hb
  by_cases q:j<N
  ·obtain⟨o,e,c,d⟩:=st.it j q;exact⟨o,e,fun v z=>by rw[d] at z;cases z⟩
  ·obtain⟨arr,na,hO⟩:=st.o
   have:j=N∨j=N+1∨j=N+2:=by lia
   rcases this with rfl|rfl|rfl
   ·exact⟨_,st.t,fun v z=>by cases z⟩
   ·exact⟨_,hO,fun v z=>by cases z⟩
   ·exact⟨_,st.z,fun v z=>by cases z⟩
 keep:=fun i h h' st k=>by
  obtain⟨hz,hI,⟨arr,na,hO⟩,J⟩:=st
  exact⟨k _ (eZ (j:=N+2) (by lia)) _ hz,k _ (eZ (j:=N) (by lia)) _ hI,⟨arr,na,k _ (eZ (j:=N+1) (by lia)) _ hO⟩,fun j hj=>Lp (fun o e=>k _ (eZ (by lia)) o e) (J j hj)⟩
 item:=by
  intro X hP hw hK hc i pins s σ H E I hf st hg
  subst hP hw hK
  obtain⟨xs,x,hx⟩:=hg
  have ex:∀j,∃(aA:List Value) (u:Value),j<N→Vals (xs j) aA∧s.heap.IsTuple (l j) aA.toArray∧aA[i]?=some u∧RelV (x j) u:=fun j=>by
   by_cases q:j<N
   ·obtain⟨aA,rv,p,_⟩:=I.tuple (hx j q).1
    obtain⟨u,hu,ru⟩:=rv.get (hx j q).2
    exact⟨aA,u,fun _=>⟨rv,p,hu,ru⟩⟩
   ·exact⟨[],.none,fun h=>absurd h q⟩
  have fx:=Classical.axiomOfChoice ex
  obtain⟨aA,fx⟩:=fx
  obtain⟨u,fx⟩:=Classical.axiomOfChoice fx
  have hT:s.TypeIs (.ref (n+N+2)) "zip" := ⟨_,st.z,rfl⟩
  have lz:@LT.lt Nat _ (n+N+2) s.heap.objs.size:=zt st.z
  unfold pyNext
  refine zc (wpAny_attempt (wpAny_callSpecial?_slot (name:=Str.ofString "__next__") hT F.slot_zip_next (yF F.slot_zip_next hT F.entry_zip_next (Ek h1 h3 lt st (xs:=fun j=>(aA j).toArray) (v:=u) (fun j hj=>(fx j hj).2.1) (fun j hj=>by simpa using (fx j hj).2.2.1) fun g1 z1 O1 m1 T1 kp=>zu !⟨?_⟩) (F.args_zip_next_1 _))))
  refine wpAny_letOwnedTupleGo_zip (s:={ s with heap:=g1 }) z1 fun g2 z2 r2=>?_
  have Ut:∀c o,c∉PD n N→s.heap.get? c=some o→g2.get? c=some o:=fun c o hc e=>r2.extBut _ _ (fun z=>hc (z ▸ eZ (j:=N+2) (by lia))) (kp c o (fun z=>hc (z ▸ eZ (j:=N+2) (by lia))) (fun z=>hc (z ▸ eZ (j:=N+1) (by lia))) (fun j hj z=>hc (z ▸ eZ (by lia))) e)
  have T2:lU g2 s.heap.objs.size (eY N u):=r2.extBut _ _ (yg lz) T1
  have I2:Inv X pins σ (upd H s.heap.objs.size (.tup ((List.range N).map x))) { s with heap:=g2 }:=I.Jl (t':=s.toks) (PD n N) hf Ut (Heap.get?_none_of_le (zm _)) ⟨by rw[zb,List.length_range];exact YF (zI h3 (by decide)),_,AL fun j hj=>(fx j hj).2.2.2,⟨_,T2,rfl,rfl,_,rfl⟩⟩
  refine⟨.ref s.heap.objs.size,_,I2,rfl,⟨_,I.aM.fresh (zm _),rfl,fun ys y hy=>?_⟩,⟨z2,?_,⟨_,jH,r2.extBut _ _ (by show @Ne Nat _ _;lia) O1⟩,fun j hj=>uC r2.extBut (by show @Ne Nat _ _;lia) (m1 j hj)⟩,fun b hb=>?_⟩
  ·congr 2
   refine zV fun j hj=>?_
   have hj:=zN.mp hj
   have:=I.m7 (hy j hj).1 (hx j hj).1
   have e:=(hy j hj).2
   rw[this,(hx j hj).2] at e
   exact zM e
  ·exact r2.extBut _ _ (by show @Ne Nat _ _;lia) (kp _ _ (by show @Ne Nat _ _;lia) (by show @Ne Nat _ _;lia) (fun j hj=>by show @Ne Nat _ _;lia) st.t)
  ·obtain⟨j,hj,rfl⟩:=pN hb
   rw[ax (by show @Ne Nat _ _;lia)]
   exact (hf _ hb).1
 done:=by
  intro X hP hw hK hc i pins s σ H E I hf st hg
  subst hP hw hK
  obtain⟨xs,hx,hl⟩:=hg
  obtain⟨GU,Xn,p0,_⟩:=I.tuple (hx 0 h1)
  have hT:s.TypeIs (.ref (n+N+2)) "zip" := ⟨_,st.z,rfl⟩
  have Uv:=Xn.length
  unfold pyNext
  refine zc (wpAny_attempt (wpAny_callSpecial?_slot (name:=Str.ofString "__next__") hT F.slot_zip_next (yF F.slot_zip_next hT F.entry_zip_next (GS h1 (I.ok.hd hc) st (lt 0 h1) (xs:=fun _=>GU.toArray) p0 (by simp;lia) fun h1 e kp he=>?_) (F.args_zip_next_1 _))))
  obtain⟨o,ho,JJ⟩:=he
  refine zc (wpAny_isInstance (T := "StopIteration") (b:=true) ⟨o,ho,JJ⟩ isSubtype_stop (zu ⟨rfl,?_⟩))
  exact I.Jj (t':=s.toks) (PD n N) hf fun c o hc e=>kp c o (fun z=>hc (z ▸ eZ (j:=N+2) (by lia))) (fun z=>hc (z ▸ eZ (j:=0) (by lia))) e
 self:=fun A' i s Q E st h=>wpAny_pyIter_zip st.z h
def two(a b:Addr):Nat→Addr:=fun j=>if j=0 then a else b
def Oe(a b c:Addr):Nat→Addr:=fun j=>if j=0 then a else if j=1 then b else c
theorem Uw{p:Nat→Prop}(h0:p 0)(h1:p 1):∀j,j<2→p j
 |0,_=>h0
 |1,_=>h1
 |j+2,h=>by lia
theorem Ux{p:Nat→Prop}(h0:p 0)(h1:p 1)(h2:p 2):∀j,j<3→p j
 |0,_=>h0
 |1,_=>h1
 |2,_=>h2
 |j+3,h=>by lia
section
variable{X:Cx}{a b c:Expr}{ta:TA}{p pos tp:Pos}{es:List Expr}{kk:Nat}
theorem Of(hg:Gl X "zip")(hm:X.mg "zip" = none)(ha:PA X [a,b] ta)(hs:starEach [a,b] X.env=[(false,eval a X.env),(false,eval b X.env)])(wg:starEach [b] X.env=[(false,eval b X.env)]) :
  PI X (.Tuple es kk tp) (.Call (.Name "zip" p) [a,b] [] pos) (fun σ H R=>ta σ H fun vs H1=>∃l0 l1,vs=[.ref l0,.ref l1]∧(∃xs,iH X.K H1 l0 xs)∧(∃xs,iH X.K H1 l1 xs)∧R (Od X.K 2 (two l0 l1)) H1):=by
 intro pins s σ H R I h
 refine Call_ (fW I hg hm boot_zip (PyProof.Rows.callWith_type1 (bq (ha pos pins s σ H _ I h) fun us s1 ⟨vs,H1,I1,r1,q1⟩=>?_) (by rw[hs,wg]) (by rw[wg];rfl)))
 obtain⟨l0,l1,e,⟨Am,q0⟩,⟨Ao,q2⟩,q⟩:=q1
 subst e
 obtain⟨u,v,rfl,r,r'⟩:=r1.two
 cases r
 cases r'
 obtain⟨GU,Xn,p0,_⟩:=I1.tuple q0
 obtain⟨Oh,R6,p1,_⟩:=I1.tuple q2
 refine Ar (show s1.heap.IsTuple l0 GU.toArray from p0) (show s1.heap.IsTuple l1 Oh.toArray from p1) fun h' zs kp=>?_
 have zn:ZN s1.heap.objs.size 2 (two l0 l1) 0 h':=⟨zs.1,zs.2.1,zs.2.2.1,Uw zs.2.2.2.1 zs.2.2.2.2⟩
 refine wpAny_pyIter_zip (s:={ s1 with heap:=h' }) zs.1 ⟨_,_,_,_,H1,rfl,I1.kept (t':=s1.toks) kp,tT (by decide) (by decide) (Uw p0.lt p1.lt),zn,fun b hb=>?_,q⟩
 obtain⟨j,_,rfl⟩:=pN hb
 exact I1.oX (Nat.le_add_right _ _) (I1.aM.fresh (Nat.le_add_right _ _))
theorem Oi(hg:Gl X "zip")(hm:X.mg "zip" = none)(ha:PA X [a,b,c] ta)(hs:starEach [a,b,c] X.env=[(false,eval a X.env),(false,eval b X.env),(false,eval c X.env)])(wg:starEach [b,c] X.env=[(false,eval b X.env),(false,eval c X.env)]) :
  PI X (.Tuple es kk tp) (.Call (.Name "zip" p) [a,b,c] [] pos) (fun σ H R=>ta σ H fun vs H1=>∃l0 l1 l2,vs=[.ref l0,.ref l1,.ref l2]∧(∃xs,iH X.K H1 l0 xs)∧(∃xs,iH X.K H1 l1 xs)∧(∃xs,iH X.K H1 l2 xs)∧R (Od X.K 3 (Oe l0 l1 l2)) H1):=by
 intro pins s σ H R I h
 refine Call_ (fW I hg hm boot_zip (PyProof.Rows.callWith_type1 (bq (ha pos pins s σ H _ I h) fun us s1 ⟨vs,H1,I1,r1,q1⟩=>?_) (by rw[hs,wg]) (by rw[wg];rfl)))
 obtain⟨l0,l1,l2,e,⟨Am,q0⟩,⟨Ao,q2⟩,⟨Pj,q3⟩,q⟩:=q1
 subst e
 obtain⟨u,v,z,rfl,r,r',r''⟩:=r1.three
 cases r
 cases r'
 cases r''
 obtain⟨GU,Xn,p0,_⟩:=I1.tuple q0
 obtain⟨Oh,R6,p1,_⟩:=I1.tuple q2
 obtain⟨uv,Pz,p2,_⟩:=I1.tuple q3
 refine Ay (show s1.heap.IsTuple l0 GU.toArray from p0) (show s1.heap.IsTuple l1 Oh.toArray from p1) (show s1.heap.IsTuple l2 uv.toArray from p2) fun h' zs kp=>?_
 have zn:ZN s1.heap.objs.size 3 (Oe l0 l1 l2) 0 h':=⟨zs.1,zs.2.1,zs.2.2.1,Ux zs.2.2.2.1 zs.2.2.2.2.1 zs.2.2.2.2.2⟩
 refine wpAny_pyIter_zip (s:={ s1 with heap:=h' }) zs.1 ⟨_,_,_,_,H1,rfl,I1.kept (t':=s1.toks) kp,tT (by decide) (by decide) (Ux p0.lt p1.lt p2.lt),zn,fun b hb=>?_,q⟩
 obtain⟨j,_,rfl⟩:=pN hb
 exact I1.oX (Nat.le_add_right _ _) (I1.aM.fresh (Nat.le_add_right _ _))
end
section
variable{K:Frag}{X:Cx}{a c e:Expr}{t:iK}{p pos tp:Pos}{es:List Expr}{kk:Nat}
theorem Xo(hm:X.mg "zip" = none)(ha:DA K X [a,c] t)(hg:Gl X "zip" := by rfl)(hs:starEach [a,c] X.env=[(false,eval a X.env),(false,eval c X.env)]:=by rfl)(wg:starEach [c] X.env=[(false,eval c X.env)]:=by rfl)(hK:X.K=K:=by rfl) :
  DI K X (.Tuple es kk tp) (.Call (.Name "zip" p) [a,c] [] pos) (RL t):=by
 subst hK
 exact⟨fun y=>(Of (X:=y.cx) hg hm (ha.of y) hs wg).mono fun τ H R ⟨σ,S,RI,Z,aB,hS,q,hR,hZ⟩=>⟨σ,S,_,Z,aB,hS,q,fun ds S1 vs H1 ⟨xs,ys,e,hl,r1⟩ v1 s1 k1=>by
  subst e
  obtain⟨v,u,rfl,ra,rb⟩:=v1.two
  obtain⟨a,va,rfl,qa,ta⟩:=ra.tup
  obtain⟨b,vb,rfl,qb,tb⟩:=rb.tup
  refine⟨a,b,rfl,⟨va,.of qa⟩,⟨vb,.of qb⟩,hR _ S1 _ H1 r1 (fun i S2 H2 k2 s2 _=>?_) s1 k1⟩
  have Sl:iH X.K H2 a va:=.of (k2.t _ _ qa)
  have Sm:iH X.K H2 b vb:=.of (k2.t _ _ qb)
  have la:va.length=xs.length:=ta.len
  let f:Nat→List V:=fun j=>if j=0 then va else vb
  refine⟨fun d hd=>?_,fun h=>⟨f,Uw Sl Sm,by show va.length≤i;unfold bu at h;rw[List.length_zipWith] at h;lia⟩⟩
  unfold bu at hd
  obtain⟨x,y',e1,e2,e3⟩:=List.getElem?_zipWith_eq_some.mp hd
  subst e3
  obtain⟨vx,f1,g1⟩:=(RvAll.ts k2 _ ta).get e1
  obtain⟨vy,f2,g2⟩:=(RvAll.ts k2 _ tb).get e2
  let g:Nat→V:=fun j=>if j=0 then vx else vy
  have ok:∀j,j<2→iH X.K H2 (two a b j) (f j)∧(f j)[i]?=some (g j):=Uw ⟨Sl,f1⟩ ⟨Sm,f2⟩
  refine⟨⟨f,g,ok⟩,fun x' H' ⟨T,hT,e4,e5⟩=>?_⟩
  have:=e5 f g ok
  subst this e4
  have kk:Kp X.K H2 (upd H2 T (.tup [vx,vy])):=.new hT
  exact⟨nq aF (RvAll.ts kk _ (aS g1 (aS g2 bC))),kk,s2.grow hT⟩,hZ⟩⟩
theorem Xp(hm:X.mg "zip" = none)(ha:DA K X [a,c,e] t)(hg:Gl X "zip" := by rfl)(hs:starEach [a,c,e] X.env=[(false,eval a X.env),(false,eval c X.env),(false,eval e X.env)]:=by rfl)(wg:starEach [c,e] X.env=[(false,eval c X.env),(false,eval e X.env)]:=by rfl)(hK:X.K=K:=by rfl) :
  DI K X (.Tuple es kk tp) (.Call (.Name "zip" p) [a,c,e] [] pos) (Ob t):=by
 subst hK
 exact⟨fun y=>(Oi (X:=y.cx) hg hm (ha.of y) hs wg).mono fun τ H R ⟨σ,S,RI,Z,aB,hS,q,hR,hZ⟩=>⟨σ,S,_,Z,aB,hS,q,fun ds S1 vs H1 ⟨xs,ys,zs,e,hl,vY,r1⟩ v1 s1 k1=>by
  subst e
  obtain⟨v,u,w,rfl,ra,rb,rc⟩:=v1.thr
  obtain⟨a,va,rfl,qa,ta⟩:=ra.tup
  obtain⟨b,vb,rfl,qb,tb⟩:=rb.tup
  obtain⟨c,vc,rfl,qc,tc⟩:=rc.tup
  refine⟨a,b,c,rfl,⟨va,.of qa⟩,⟨vb,.of qb⟩,⟨vc,.of qc⟩,hR _ S1 _ H1 r1 (fun i S2 H2 k2 s2 _=>?_) s1 k1⟩
  have Sl:iH X.K H2 a va:=.of (k2.t _ _ qa)
  have Sm:iH X.K H2 b vb:=.of (k2.t _ _ qb)
  have Y4:iH X.K H2 c vc:=.of (k2.t _ _ qc)
  have la:va.length=xs.length:=ta.len
  let f:Nat→List V:=fun j=>if j=0 then va else if j=1 then vb else vc
  refine⟨fun d hd=>?_,fun h=>⟨f,Ux Sl Sm Y4,by show va.length≤i;rw[la,← nC hl vY];exact h⟩⟩
  obtain⟨x,y',z,e1,e2,e3,e4⟩:=nD hd
  subst e4
  obtain⟨vx,f1,g1⟩:=(RvAll.ts k2 _ ta).get e1
  obtain⟨vy,f2,g2⟩:=(RvAll.ts k2 _ tb).get e2
  obtain⟨vz,f3,g3⟩:=(RvAll.ts k2 _ tc).get e3
  let g:Nat→V:=fun j=>if j=0 then vx else if j=1 then vy else vz
  have ok:∀j,j<3→iH X.K H2 (Oe a b c j) (f j)∧(f j)[i]?=some (g j):=Ux ⟨Sl,f1⟩ ⟨Sm,f2⟩ ⟨Y4,f3⟩
  refine⟨⟨f,g,ok⟩,fun x' H' ⟨T,hT,e4,e5⟩=>?_⟩
  have:=e5 f g ok
  subst this e4
  have kk:Kp X.K H2 (upd H2 T (.tup [vx,vy,vz])):=.new hT
  exact⟨nq aF (RvAll.ts kk _ (aS g1 (aS g2 (aS g3 bC)))),kk,s2.grow hT⟩,hZ⟩⟩
end
end L2
namespace My
open PySem L2
def top(i:Nat):Stmt:=PySem.Challenge.pw_pageturns_k92_whole_counts_add_up.main.body.getD i (.Pass ⟨0,0,0,0⟩)
abbrev El:Stmt:=top 20
abbrev GV:Stmt:=top 21
abbrev Em:Stmt:=top 22
abbrev pf:Stmt:=top 29
abbrev AM:Stmt:=top 31
abbrev uO:Stmt:=top 34
abbrev kl:Stmt:=top 44
abbrev kQ:Stmt:=top 47
abbrev AN:Stmt:=top 49
abbrev sE:Stmt:=top 57
abbrev w6:Stmt:=top 58
abbrev w9:Stmt:=top 62
abbrev qF:Stmt:=top 67
abbrev gw:Stmt:=top 69
abbrev gx:Stmt:=top 70
abbrev e_:Stmt:=top 71
abbrev AO:Stmt:=top 96
abbrev tU:Stmt:=top 99
abbrev Oj:Stmt:=top 103
abbrev CA:Stmt:=top 104
abbrev sF:Stmt:=top 108
abbrev GW:Stmt:=top 109
abbrev bt:Stmt:=top 88
set_option genInjectivity false in
set_option genSizeOfSpec false in
structure fG where
 (AQ nE kR En w_ Eo LR l4 qG uP i9 i_ g7 tV l5 gy kT qH qI tW qJ l6 dH ao fM aQ eJ aK:Addr)
 (qL gz fb Ep xa Er GX fN ja:FuncData)
 (l7 nF l8 qM jT xb jU l9 xc:Tok)
 ts:List Addr
 (f AR:Nat→Addr)
 (d Ol:Nat→FuncData)
structure Txt(w:World)(K:Frag)(mg:Str→Option Value)(t:fG):Prop where
 fn:Ei K mg top t.f t.d [17,18,19,20,21,22,23,24,25,26,29,30,31,32,33,34,35,41,42,43,44,45,46,47,48,49,50,51,57,58,59,60,61,62,63,66,67,68,70,76,77,78,79,80,81,82,83,84,85,89,91,92,93,94,95,96,97,98,99,100,101,102,103,104,105,106,107,108,109]
 dR:Ej K t.ao "Shelf." bt t.AR t.Ol [0,1,2,3,4,5,6,7,8,13]
 gA:Cz K mg "count_of" (top 65) ["shelf","sieve","moment"] t.AQ t.qL
 JY:Binds K t.qL ["shelf","sieve","moment"] [.none]
 fc:Cz K mg "sorted_by_keys" (top 69) ["rows","way"] t.nE t.gz
 dI:Cz K mg "sorted_by_values" (top 71) ["columns","part","rows"] t.kR t.fb
 l_:Cz K mg "page_on" (top 74) ["shelf","order","sieve","size","gap","moment"] t.En t.Ep
 jI:Cz K mg "page_back" (top 75) ["shelf","order","sieve","size","gap","moment"] t.w_ t.xa
 ma:Cz K mg "stretch" (top 86) ["shelf","order","sieve","fore","hinder","moment"] t.Eo t.Er
 Xq:Cz K mg "law" (top 110) ["_law_script"] t.LR t.GX
 cj:LQ K t.ao "worths_at" "Shelf.worths_at" (inClass bt 9) ["self","key","moment"] t.l4 t.fN
 eK:Binds K t.fN ["self","key","moment"] [.none]
 bV:LQ K t.ao "all_at" "Shelf.all_at" (inClass bt 10) ["self","moment"] t.qG t.ja
 nH:Binds K t.ja ["self","moment"] [.none]
 kU:mg "MOST_NAME_SIGNS" = some (.int 8 t.l7)
 mf:mg "MOST_KEY_SIGNS" = some (.int 12 t.nF)
 kW:mg "MOST_WORD_SIGNS" = some (.int 40 t.l8)
 ph:mg "MOST_COLUMNS" = some (.int 8 t.qM)
 jb:mg "MOST_PARTS_orders" = some (.int 8 t.jT)
 uQ:mg "MOST_DEEP" = some (.int 8 t.xb)
 jc:mg "MOST_PARTS_sieves" = some (.int 200 t.jU)
 kX:mg "MOST_IN_A_TUPLE" = some (.int 8 t.l9)
 uR:mg "MOST_ROWS" = some (.int 1000 t.xc)
 GY:mg "KINDS" = some (.ref t.uP)
 GZ:∀H,Rv K H (.kt [.str "number",.str "word"]) (.ref t.uP)
 uS:mg "OTHER_WAY" = some (.ref t.i9)
 xf:Ii w K t.i9 [("up",.str "down"),("down",.str "up")]
 uT:mg "OTHER_END" = some (.ref t.i_)
 xg:Ii w K t.i_ [("first",.str "last"),("last",.str "first")]
 sG:mg "OTHER_SIDE" = some (.ref t.g7)
 uU:Ii w K t.g7 [("ahead",.str "behind"),("behind",.str "ahead")]
 AS:mg "LENGTHS" = some (.ref t.tV)
 Es:Ii w K t.tV [("every",.int 1),("is",.int 3),("below",.int 3),("above",.int 3),("begins",.int 3),("key",.int 2),("not",.int 2),("and",.int 2),("or",.int 2)]
 aO:mg "len" = none
 km:mg "all" = none
 Sn:mg "any" = none
 ay:mg "isinstance" = none
 jJ:mg "range" = none
 xh:mg "int" = none
 mh:mg "str" = none
 Om:mg "bool" = none
 bj:mg "tuple" = none
 G0:mg "dict" = none
 LS:mg "set" = none
 CB:mg "zip" = none
 gB:mg "sorted" = none
 LU:mg "min" = none
 So:mg "max" = none
 qN:mg "reversed" = none
 gb:mg "BadColumns" = some (.ref t.l5)
 dj:excIn K t.l5 L2.nj "ValueError.__new__" = true
 jK:mg "BadRow" = some (.ref t.gy)
 gC:excIn K t.gy L2.nj "ValueError.__new__" = true
 dX:mg "BadOrder" = some (.ref t.kT)
 cS:excIn K t.kT L2.nj "ValueError.__new__" = true
 oy:mg "BadSieve" = some (.ref t.qH)
 g8:excIn K t.qH L2.nj "ValueError.__new__" = true
 dY:mg "BadPlace" = some (.ref t.qI)
 cT:excIn K t.qI L2.nj "ValueError.__new__" = true
 AU:mg "BadSize" = some (.ref t.tW)
 nI:excIn K t.tW L2.nj "ValueError.__new__" = true
 Et:mg "HasKey" = some (.ref t.qJ)
 qO:excIn K t.qJ L2.nj "ValueError.__new__" = true
 G1:mg "NoKey" = some (.ref t.l6)
 uV:excIn K t.l6 L2.nj "ValueError.__new__" = true
 xi:mg "NoMoment" = some (.ref t.dH)
 kY:excIn K t.dH L2.nj "ValueError.__new__" = true
 G4:mg "Shelf" = some (.ref t.ao)
 aj:p_ K t.ao
 G5:Mk K t.ao (t.AR 0)
 cC:findIn K (.ref t.ao) "columns" = some none
 cw:findIn K (.ref t.ao) "deeds" = some none
 bO:findIn K (.ref t.ao) "runs" = some none
 fO:t.gz.code=.ref t.fM
 dk:codeHdIn K t.fM t.aQ=true
 mi:t.aQ∈t.ts
 eM:t.fb.code=.ref t.eJ
 cK:codeHdIn K t.eJ t.aK=true
 jV:t.aK∈t.ts
 np:[t.aQ,t.aK].Nodup
 ta:∀b∈t.ts,b=t.aQ∨b=t.aK
 bl:∀(s:Shared) (u:Value),BindsTo s t.GX ⟨[u],[]⟩ [("_law_script",u)]
section
variable{w:World}{K:Frag}{mg:Str→Option Value}{t:fG}(T:Txt w K mg t)
def Txt.jd:=T.fn 17 (by decide)
def Txt.gD:=T.fn 18 (by decide)
def Txt.nJ:=T.fn 19 (by decide)
def Txt.pO:=T.fn 20 (by decide)
def Txt.kZ:=T.fn 21 (by decide)
def Txt.uW:=T.fn 22 (by decide)
def Txt.uX:=T.fn 23 (by decide)
def Txt.je:=T.fn 24 (by decide)
def Txt.compared:=T.fn 25 (by decide)
def Txt.cU:=T.fn 26 (by decide)
def Txt.gf:=T.fn 29 (by decide)
def Txt.nK:=T.fn 30 (by decide)
def Txt.mj:=T.fn 31 (by decide)
def Txt.dJ:=T.fn 32 (by decide)
def Txt.jL:=T.fn 33 (by decide)
def Txt.k7:=T.fn 34 (by decide)
def Txt.ck:=T.fn 35 (by decide)
def Txt.uY:=T.fn 41 (by decide)
def Txt.AV:=T.fn 42 (by decide)
def Txt.uZ:=T.fn 43 (by decide)
def Txt.fP:=T.fn 44 (by decide)
def Txt.u0:=T.fn 45 (by decide)
def Txt.jf:=T.fn 46 (by decide)
def Txt.dM:=T.fn 47 (by decide)
def Txt.nL:=T.fn 48 (by decide)
def Txt.jg:=T.fn 49 (by decide)
def Txt.eF:=T.fn 50 (by decide)
def Txt.qP:=T.fn 51 (by decide)
def Txt.dZ:=T.fn 57 (by decide)
def Txt.nM:=T.fn 58 (by decide)
def Txt.dm:=T.fn 59 (by decide)
def Txt.jh:=T.fn 60 (by decide)
def Txt.gk:=T.fn 61 (by decide)
def Txt.passes:=T.fn 62 (by decide)
def Txt.g_:=T.fn 63 (by decide)
def Txt.cy:=T.fn 66 (by decide)
def Txt.eP:=T.fn 67 (by decide)
def Txt.qQ:=T.fn 68 (by decide)
def Txt.fe:=T.fn 70 (by decide)
def Txt.k8:=T.fn 76 (by decide)
def Txt.hG:=T.fn 77 (by decide)
def Txt.nN:=T.fn 78 (by decide)
def Txt.k9:=T.fn 79 (by decide)
def Txt.eQ:=T.fn 80 (by decide)
def Txt.hU:=T.fn 81 (by decide)
def Txt.k_:=T.fn 82 (by decide)
def Txt.d_:=T.fn 83 (by decide)
def Txt.cY:=T.fn 84 (by decide)
def Txt.u1:=T.fn 85 (by decide)
def Txt.fQ:=T.fn 89 (by decide)
def Txt.eU:=T.fn 91 (by decide)
def Txt.nO:=T.fn 92 (by decide)
def Txt.aR:=T.fn 93 (by decide)
def Txt.nQ:=T.fn 94 (by decide)
def Txt.mm:=T.fn 95 (by decide)
def Txt.gE:=T.fn 96 (by decide)
def Txt.xj:=T.fn 97 (by decide)
def Txt.u3:=T.fn 98 (by decide)
def Txt.jM:=T.fn 99 (by decide)
def Txt.AW:=T.fn 100 (by decide)
def Txt.u4:=T.fn 101 (by decide)
def Txt.qR:=T.fn 102 (by decide)
def Txt.JZ:=T.fn 103 (by decide)
def Txt.G6:=T.fn 104 (by decide)
def Txt.AX:=T.fn 105 (by decide)
def Txt.hW:=T.fn 106 (by decide)
def Txt.gm:=T.fn 107 (by decide)
def Txt.ji:=T.fn 108 (by decide)
def Txt.AY:=T.fn 109 (by decide)
def Txt.fg:=T.dR 0 (by decide)
def Txt.eV:=T.dR 1 (by decide)
def Txt.cD:=T.dR 2 (by decide)
def Txt.dN:=T.dR 3 (by decide)
def Txt.bW:=T.dR 4 (by decide)
def Txt.bL:=T.dR 5 (by decide)
def Txt.bX:=T.dR 6 (by decide)
def Txt.aC:=T.dR 7 (by decide)
def Txt.dO:=T.dR 8 (by decide)
def Txt.bY:=T.dR 13 (by decide)
end
def xk:=bN (top 17)
def u5:=bN (top 18)
def u6:=bN (top 19)
def AZ:=bN (top 20)
def Eu:=bN (top 21)
def A1:=bN (top 22)
def A2:=bN (top 23)
def xl:=bN (top 24)
def oz:=bN (top 25)
def dE:=bN (top 26)
def nR:=bN (top 29)
def u7:=bN (top 30)
def xm:=bN (top 31)
def sH:=bN (top 32)
def u9:=bN (top 33)
def sI:=bN (top 34)
def xn:=bN (top 35)
def Ew:=bN (top 41)
def Ex:=bN (top 42)
def A3:=bN (top 43)
def fh:=bN (top 44)
def A4:=bN (top 45)
def qS:=bN (top 46)
def jW:=bN (top 47)
def u_:=bN (top 48)
def oA:=bN (top 49)
def bE:=bN (top 50)
def oB:=bN (top 51)
def bF:=bN (top 57)
def vd:=bN (top 58)
def mn:=bN (top 59)
def jj:=bN (top 60)
def dP:=bN (top 61)
def tX:=bN (top 62)
def pj:=bN (top 63)
def xo:=bN (top 65)
def mq:=bN (top 66)
def iy:=bN (top 67)
def fR:=bN (top 68)
def mr:=bN (top 69)
def cu:=bN (top 70)
def jX:=bN (top 71)
def A5:=bN (top 74)
def ve:=bN (top 75)
def ko:=bN (top 76)
def iz:=bN (top 77)
def vf:=bN (top 78)
def sJ:=bN (top 79)
def pq:=bN (top 80)
def sL:=bN (top 81)
def sM:=bN (top 82)
def qU:=bN (top 83)
def bS:=bN (top 84)
def qW:=bN (top 85)
def fi:=bN (top 86)
def jk:=bN (top 89)
def vg:=bN (top 91)
def Ey:=bN (top 92)
def dQ:=bN (top 93)
def dq:=bN (top 94)
def qX:=bN (top 95)
def xp:=bN (top 96)
def G7:=bN (top 97)
def fj:=bN (top 98)
def cW:=bN (top 99)
def gF:=bN (top 100)
def A6:=bN (top 101)
def Ez:=bN (top 102)
def J1:=bN (top 103)
def jl:=bN (top 104)
def EA:=bN (top 105)
def A7:=bN (top 106)
def cE:=bN (top 107)
def aN:=bN (top 108)
def tY:=bN (top 109)
def cX:=bN (top 110)
def mw:=bN (inClass bt 0)
def vh:=bN (inClass bt 1)
def px:=bN (inClass bt 2)
def sN:=bN (inClass bt 3)
def iM:=bN (inClass bt 4)
def gG:=bN (inClass bt 5)
def dF:=bN (inClass bt 6)
def jm:=bN (inClass bt 7)
def vi:=bN (inClass bt 8)
def fk:=bN (inClass bt 9)
def eG:=bN (inClass bt 10)
def iN:=bN (inClass bt 13)
theorem sm(h:n≤1000):n≤sizeLine:=yB (jF h)
theorem A8:0≤sizeLine:=sm (by decide)
theorem mx:1≤sizeLine:=sm (by decide)
theorem bH:2≤sizeLine:=sm (by decide)
theorem hX:3≤sizeLine:=sm (by decide)
theorem pz:4≤sizeLine:=sm (by decide)
theorem Xr:6≤sizeLine:=sm (by decide)
theorem Xs:7≤sizeLine:=sm (by decide)
theorem Xt:8≤sizeLine:=sm (by decide)
theorem Sq:10≤sizeLine:=sm (by decide)
abbrev Y5(P:Program)(w:World)(K:Frag)(mg:Str→Option Value)(base:Heap)(k:Nat)(f:Addr)(fd:FuncData)(ps:List Str)(sp:iL):Prop:=bG P w K mg base (eW P w mg) k f fd ps (pe K sp)
def Gt(S:av)(d:D):Prop:=(∃k,NL S d k)∧∀z,d=.str z→z.cps.size≤1000
def isLet(c:Nat):Bool:=decide (97≤c) && decide (c≤122)
def CC(c:Nat):Bool:=decide (48≤c) && decide (c≤57)
def G8(c:Nat):Bool:=decide (32≤c) && decide (c≤126)
def kr(z:Str):Bool:=decide (1≤z.cps.size) && decide (z.cps.size≤8) && z.cps.toList.all isLet
def jY(z:Str):Bool:=decide (1≤z.cps.size) && decide (z.cps.size≤12) && (z.cps.toList.head?.any isLet) && z.cps.toList.all fun c=>isLet c || CC c
def tZ(z:Str):Bool:=decide (z.cps.size≤40) && z.cps.toList.all G8
def ofStr(f:Str→Bool):D→Bool
 |.str z=>f z
 |_=>false
def qY:D→Bool
 |.int _=>true
 |_=>false
def jo(kind:Str)(d:D):Bool:=ai d || if kind = "number" then qY d else ofStr tZ d
def J2(f:D→Bool):iL:=fun ds S R _=>∃d,ds=[d]∧Gt S d∧R (.bl (f d)) S
def G9(f:Nat→Bool):iL:=fun ds S R _=>∃c,ds=[.str ⟨#[c]⟩]∧R (.bl (f c)) S
theorem oE:∀{xs ys:List D}{a b:D},Paired rel xs ys→rel a b→Paired rel (xs++[a]) (ys++[b])
 |_,_,_,_,.nil,r=>.cons r .nil
 |_,_,_,_,.cons q t,r=>.cons q (oE t r)
theorem take_snoc{α:Type}{l:List α}{i:Nat}{d:α}(h:l[i]?=some d):l.take (i+1)=l.take i++[d]:=by
 rw[List.take_add_one,h];rfl
theorem fm{I:E_}{S1:av}{g:AD}{te:TD}{σ:SD}{src:List (Option Nat)}{R:KD}(rel:D→D→Prop)(aM:I.ok S1)(hz:I.xs.length≤1000)
  (step:∀d,d∈I.xs→∀Q:KD,(∀v,rel d v→Q v S1)→g d (ou σ src) S1 fun iI S3=>te iI S3 Q Zf) (fin:∀out,Paired rel I.xs out→∀p,S1 p=none→R (.ref p) (S1.set p (.lst out))) :
  Cf σ src g tM te R I S1:=by
 refine⟨fun i out S=>S=S1∧Paired rel (I.xs.take i) out,⟨rfl,.nil⟩,fun i out S h=>by rw[h.1];exact aM,?_,?_⟩
 ·rintro i d out S hd ⟨rfl,hp⟩
  have hlen:=yC hp
  rw[yq] at hlen
  refine⟨jF (by lia),?_⟩
  have e:(fun (iI:SD) (S3:av)=>tM iI S3 (fun b S4=>if b=true then te iI S4 (fun v S5=>S5=S∧Paired rel (I.xs.take (i+1)) (out++[v])) Zf else S4=S∧Paired rel (I.xs.take (i+1)) out) Zf)=fun iI S3=>te iI S3 (fun v S5=>S5=S∧Paired rel (I.xs.take (i+1)) (out++[v])) Zf:=by
   funext iI S3
   simp [tM]
  rw[e]
  exact step d (zC hd) _ fun v hv=>⟨rfl,by rw[take_snoc hd];exact oE hp hv⟩
 ·rintro out S2 ⟨rfl,hp⟩
  rw[List.take_length] at hp
  exact fin out hp
theorem qZ:∀{xs out:List D},Paired (fun d v=>v=f d) xs out→out=xs.map f
 |_,_,.nil=>rfl
 |_,_,.cons r t=>by rw[r,qZ t];rfl
theorem comp_map(f:D→D)(aM:I.ok S1)(hz:I.xs.length≤1000)
  (step:∀d,d∈I.xs→∀Q:KD,Q (f d) S1→g d (ou σ src) S1 fun iI S3=>te iI S3 Q Zf) (fin:∀p,S1 p=none→R (.ref p) (S1.set p (.lst (I.xs.map f)))) :
  Cf σ src g tM te R I S1 :=
 fm (fun d v=>v=f d) aM hz (fun d hd Q h=>step d hd Q (h _ rfl)) fun out hp p Oo=>by rw[qZ hp];exact fin p Oo
theorem gH{I:E_}{S1:av}{g:AD}{tc:mY}{te:TD}{σ:SD}{src:List (Option Nat)}{R:KD}(keep:D→Bool)(f:D→D)(aM:I.ok S1)(hz:I.xs.length≤1000)
  (step:∀d,d∈I.xs→∀(Q:KD) (Q':av→Prop),(keep d=true→Q (f d) S1)→(keep d=false→Q' S1)→g d (ou σ src) S1 fun iI S3=>tc iI S3 (fun b S4=>if b=true then te iI S4 Q Zf else Q' S4) Zf)
  (fin:∀p,S1 p=none→R (.ref p) (S1.set p (.lst ((I.xs.filter keep).map f)))) :
  Cf σ src g tc te R I S1:=by
 refine⟨fun i out S=>S=S1∧out=((I.xs.take i).filter keep).map f,⟨rfl,rfl⟩,fun i out S h=>by rw[h.1];exact aM,?_,?_⟩
 ·rintro i d out S hd ⟨rfl,rfl⟩
  have hlen:((I.xs.take i).filter keep).length≤(I.xs.take i).length:=List.length_filter_le _ _
  rw[yq] at hlen
  refine⟨by rw[zb];exact jF (by lia),?_⟩
  refine step d (zC hd) _ (fun S4=>S4=S∧_=_) (fun hk=>⟨rfl,?_⟩) fun hk=>⟨rfl,?_⟩
  ·rw[take_snoc hd,List.filter_append,zH,yi,if_pos hk];rfl
  ·rw[take_snoc hd,List.filter_append,yi,if_neg (by rw[hk];exact zd)];simp
 ·rintro out S2 ⟨rfl,rfl⟩
  rw[List.take_length]
  exact fin
variable{P:Program}{w:World}{K:Frag}{mg:Str→Option Value}{base:Heap}{t:fG}
theorem jq(T:Txt w K mg t):Ok P w base T.jd 1 (J2 qY):=by
 refine T.jd.F.bU xk ?_
 rintro _ _ _ _ _ _ _ S R Z hr ⟨d,e,⟨⟨k,hk⟩,hz⟩,q⟩
 subst e
 refine⟨_,(s1 (sr (sx (cb cG T.ay au (ac (dv 0) (ac (rP T.xh qm) an))) (Ij (Q5 (cb cG T.ay au (ac (dv 0) (ac (rP T.Om Jb) an)))))))),?_⟩
 refine !⟨_,_,_,_,rfl,Jc,hk,_,rfl,?_⟩
 have:(Af k=true∧((qY d=true∧uB k=false)∨(qY d=false∧uB k=true)))∨(Af k=false∧qY d=false):=by
  cases d with
  |aw=>cases hk;exact .inr ⟨rfl,rfl⟩
  |bl b=>cases hk;exact .inl ⟨rfl,.inr ⟨rfl,rfl⟩⟩
  |int b=>cases hk;exact .inl ⟨rfl,.inl ⟨rfl,rfl⟩⟩
  |str b=>cases hk;exact .inr ⟨rfl,rfl⟩
  |tup b=>cases hk;exact .inr ⟨rfl,rfl⟩
  |ref a=>rcases hk with ⟨rfl,_⟩|⟨rfl,_⟩ <;> exact .inr ⟨rfl,rfl⟩
  |_=>exact hk.elim
 rcases this with ⟨h1,h2⟩|⟨h1,h2⟩
 ·rw[h1]
  refine cI !⟨_,_,_,_,rfl,FV,hk,_,rfl,?_⟩
  rcases h2 with ⟨h2,h3⟩|⟨h2,h3⟩ <;> (rw[h3];rw[h2] at q;exact fo q)
 ·rw[h1]
  rw[h2] at q
  exact bf (fo q)
theorem h_(T:Txt w K mg t):Ok P w base T.gD 1 (G9 isLet):=by
 refine T.gD.F.bU u5 ?_
 rintro _ _ _ _ _ _ _ S R Z hr ⟨c,e,q⟩
 subst e
 refine⟨_,(s1 (sr (cc i0 i0 hr.u ds (dv 0) ds))),?_⟩
 refine !!⟨?_⟩
 have e1:E3 "a" ⟨#[c]⟩=decide (97≤c):=jG 97 c
 have e2:E3 ⟨#[c]⟩ "z" = decide (c≤122):=jG c 122
 unfold isLet at q
 refine bK (fun h=>?_) (fun h=>?_)
 ·rw[e1.symm.trans h,zY,← e2] at q
  exact fo q
 ·rw[e1.symm.trans h,zP] at q
  exact fo q
theorem vj(T:Txt w K mg t):Ok P w base T.nJ 1 (G9 CC):=by
 refine T.nJ.F.bU u6 ?_
 rintro _ _ _ _ _ _ _ S R Z hr ⟨c,e,q⟩
 subst e
 refine⟨_,(s1 (sr (cc i0 i0 hr.u ds (dv 0) ds))),?_⟩
 refine !!⟨?_⟩
 have e1:E3 "0" ⟨#[c]⟩=decide (48≤c):=jG 48 c
 have e2:E3 ⟨#[c]⟩ "9" = decide (c≤57):=jG c 57
 unfold CC at q
 refine bK (fun h=>?_) (fun h=>?_)
 ·rw[e1.symm.trans h,zY,← e2] at q
  exact fo q
 ·rw[e1.symm.trans h,zP] at q
  exact fo q
theorem EB(h:d∈eX z):∃c,c∈z.cps.toList∧d=.str ⟨#[c]⟩:=by
 unfold eX at h
 obtain⟨c,hc,e⟩:=zg.mp h
 exact⟨c,hc,e.symm⟩
def CD(f:Nat→Bool):D→D
 |.str z=>.bl (z.cps.toList.head?.any f)
 |_=>.aw
theorem EC:(eX z).map (CD f)=(z.cps.toList.map f).map D.bl:=by
 unfold eX
 rw[zw,zw]
 rfl
theorem all_map{α:Type}{l:List α}{f:α→Bool} : (l.map f).all id=l.all f:=by
 rw[List.all_map];rfl
theorem nS{z:Str}{f:Nat→Bool}{g:AD}{te:TD}{σ:SD}{src:List (Option Nat)}{S:av}{R:KD}{Z:KX}{i:Nat}(hv:σ[i]?=some (some (.str z)))(hz:z.cps.size≤1000)
  (step:∀c,c∈z.cps.toList→∀Q:KD,Q (.bl (f c)) S→g (.str ⟨#[c]⟩) (ou σ src) S fun iI S3=>te iI S3 Q Zf) (q:R (.bl (z.cps.toList.all f)) S) :
  T7 Rn (Lu (Cg (LG (Q2 i)) src g tM te) Jy) σ S (fun d S'=>Fo S' (R d)) Z:=by
 refine⟨_,hv,z,rfl,?_⟩
 refine My.comp_map (I:=⟨eX z,fun _=>True⟩) (CD f) trivial (by show (eX z).length≤1000;unfold eX;rw[zb,yj];exact hz) (fun d hd Q hQ=>?_) fun p hp=>?_
 ·obtain⟨c,hc,rfl⟩:=EB hd
  exact step c hc Q (by simpa [CD] using hQ)
 ·refine⟨.ref p,z.cps.toList.map f,rfl,?_,S,.new hp,?_⟩
  ·show (S.set p (.lst ((eX z).map (CD f)))) p=_
   rw[aa,EC]
  ·rw[all_map];exact q
theorem A9{S:av}{d:D}{k:Kd}(hk:NL S d k):(∃z,d=.str z∧Ag k=true)∨(Ag k=false∧∀f,ofStr f d=false):=by
 cases d with
 |str b=>cases hk;exact .inl ⟨b,rfl,rfl⟩
 |aw=>cases hk;exact .inr ⟨rfl,fun _=>rfl⟩
 |bl b=>cases hk;exact .inr ⟨rfl,fun _=>rfl⟩
 |int b=>cases hk;exact .inr ⟨rfl,fun _=>rfl⟩
 |tup b=>cases hk;exact .inr ⟨rfl,fun _=>rfl⟩
 |ref a=>rcases hk with ⟨rfl,_⟩|⟨rfl,_⟩ <;> exact .inr ⟨rfl,fun _=>rfl⟩
 |_=>exact hk.elim
theorem Oq{S:av}{d:D}{k:Kd}(hk:NL S d k):(∃ds,d=.tup ds∧qp k=true)∨(qp k=false∧∀ds,d≠.tup ds):=by
 cases d with
 |tup b=>cases hk;exact .inl ⟨b,rfl,rfl⟩
 |aw=>cases hk;exact .inr ⟨rfl,fun _=>nofun⟩
 |bl b=>cases hk;exact .inr ⟨rfl,fun _=>nofun⟩
 |int b=>cases hk;exact .inr ⟨rfl,fun _=>nofun⟩
 |str b=>cases hk;exact .inr ⟨rfl,fun _=>nofun⟩
 |ref a=>rcases hk with ⟨rfl,_⟩|⟨rfl,_⟩ <;> exact .inr ⟨rfl,fun _=>nofun⟩
 |_=>exact hk.elim
theorem q8(T:Txt w K mg t):Ok P w base T.pO 2 (J2 (ofStr kr)):=by
 refine T.pO.F.bU AZ ?_
 rintro _ _ _ _ _ _ _ S R Z hr ⟨d,e,⟨⟨k,hk⟩,hz⟩,q⟩
 subst e
 refine⟨_,(sc (si (twd (twor (cq (tv (cb cG T.ay au (ac (dv 0) (ac (rP T.mh gT) an))))) (tw1 (cq (T6 i0 i0 hr.u di (cb aT T.aO aE (ac (dv 0) an)) (dg (v:=.int 8) T.kU ⟨_,rfl⟩ fun _=>aL _)))))) (s1 (sr db)) s0) (s1 (sr (cb ki T.km fZ (ac (sA (N:=["sign"]) (src:=[none]) (kM (ae El) ["thing"] rfl rfl (by trivial)) (NU (dv 0)) (qz (show (["sign"]:List Str).Nodup by trivial)) (ba rfl) bb (fun _ _ _ _ _=>rQ) (fun _ _ _ _ _=>(aI T.gD (h_ T) hr (ac (dv 0) an)))) an))))),?_⟩
 refine !⟨_,_,_,_,rfl,cB,hk,_,rfl,?_⟩
 rcases A9 hk with ⟨z,rfl,h0⟩|⟨h0,h1⟩
 ·have hz:=hz z rfl
  rw[h0]
  refine bf ?_
  refine !!⟨⟨sm hz,?_⟩⟩
  refine !⟨?_⟩
  have e1:decide ((1:Int)≤(z.length:Nat))=decide (1≤z.cps.size):=by rw[yG];show (1:Int)≤((z.cps.size:Nat):Int)↔_;omega
  have e2:decide (((z.length:Nat):Int)≤8)=decide (z.cps.size≤8):=by rw[yG];show ((z.cps.size:Nat):Int)≤8↔_;omega
  unfold ofStr kr at q
  dsimp only at q
  refine bK (fun h2=>?_) (fun h2=>?_)
  ·rw[e1.symm.trans h2,zY] at q
   refine !⟨?_⟩
   refine bK (fun h3=>?_) (fun h3=>?_)
   ·rw[e2.symm.trans (nt h3),zP] at q
    exact fo q
   ·rw[e2.symm.trans (nf h3),zY] at q
    exact nS rfl hz (fun c hc Q hQ=>!⟨c,rfl,hQ⟩) q
  ·rw[e1.symm.trans h2,zP,zP] at q
   refine !⟨?_⟩
   exact cI (fo q)
 ·rw[h0]
  rw[h1] at q
  exact cI (cI (fo q))
def az(c:Str×Str):D:=.tup [.str c.1,.str c.2]
def Gd(cs:List (Str×Str)):Prop:=cs.length≤8∧(cs.map Prod.fst).Nodup∧∀c∈cs,kr c.1=true∧(c.2 = "number" ∨ c.2 = "word")
def my(cs:List (Str×Str)):D→Bool
 |.tup ws=>decide (ws.length=cs.length) && (List.zipWith (fun c v=>jo c.2 v) cs ws).all id
 |_=>false
def nU(cs:List (Str×Str))(k v:D):Bool:=ofStr jY k && my cs v
def PF(S:av)(d:D):Prop:=Gt S d∧∀ws,d=.tup ws→ws.length≤1000∧∀v∈ws,Gt S v
theorem gI(T:Txt w K mg t):Ok P w base T.kZ 2 (J2 (ofStr jY)):=by
 refine T.kZ.F.bU Eu ?_
 rintro _ _ _ _ _ _ _ S R Z hr ⟨d,e,⟨⟨k,hk⟩,hz⟩,q⟩
 subst e
 refine⟨_,(sc (si (twd (twor (cq (tv (cb cG T.ay au (ac (dv 0) (ac (rP T.mh gT) an))))) (tw1 (cq (T6 i0 i0 hr.u di (cb aT T.aO aE (ac (dv 0) an)) (dg (v:=.int 12) T.mf ⟨_,rfl⟩ fun _=>aL _)))))) (s1 (sr db)) s0) (sc (si (cq (tv (aI T.gD (h_ T) hr (ac (ix hr.u (dv 0) di) an)))) (s1 (sr db)) s0) (s1 (sr (cb ki T.km fZ (ac (sA (N:=["sign"]) (src:=[none]) (kM (ae GV) ["thing"] rfl rfl (by trivial)) (NU (dv 0)) (qz (show (["sign"]:List Str).Nodup by trivial)) (ba rfl) bb (fun _ _ _ _ _=>rQ) (fun _ _ _ _ _=>(eor (aI T.gD (h_ T) hr (ac (dv 0) an)) (Ij (aI T.nJ (vj T) hr (ac (dv 0) an)))))) an)))))),?_⟩
 refine !⟨_,_,_,_,rfl,cB,hk,_,rfl,?_⟩
 rcases A9 hk with ⟨z,rfl,h0⟩|⟨h0,h1⟩
 ·have hz:=hz z rfl
  rw[h0]
  refine bf ?_
  refine !!⟨⟨sm hz,?_⟩⟩
  refine !⟨?_⟩
  have e1:decide ((1:Int)≤(z.length:Nat))=decide (1≤z.cps.size):=by rw[yG];show (1:Int)≤((z.cps.size:Nat):Int)↔_;omega
  have e2:decide (((z.length:Nat):Int)≤12)=decide (z.cps.size≤12):=by rw[yG];show ((z.cps.size:Nat):Int)≤12↔_;omega
  unfold ofStr jY at q
  dsimp only at q
  refine bK (fun h2=>?_) (fun h2=>?_)
  ·have V2:=e1.symm.trans h2
   rw[V2,zY] at q
   refine !⟨?_⟩
   refine bK (fun h3=>?_) (fun h3=>?_)
   ·rw[e2.symm.trans (nt h3),zP,zP] at q
    exact fo q
   ·rw[e2.symm.trans (nf h3),zY] at q
    obtain⟨c,r,ec⟩:=len_pos (z:=z) (zA V2)
    have eh:z.cps.toList.head?.any isLet=isLet c:=by rw[ec];rfl
    rw[eh] at q
    refine !⟨c,sm hz,Z8 ec,c,rfl,_,rfl,?_⟩
    refine bK (fun h4=>?_) (fun h4=>?_)
    ·rw[nt h4,zP] at q
     exact fo q
    ·rw[nf h4,zY] at q
     refine nS (f:=fun c=>isLet c || CC c) rfl hz (fun c hc Q hQ=>?_) q
     refine !⟨c,rfl,_,rfl,?_⟩
     refine bK (fun h5=>?_) (fun h5=>?_)
     ·rw[h5,Bool.true_or] at hQ
      exact hQ
     ·rw[h5,yN] at hQ
      exact !⟨c,rfl,hQ⟩
  ·rw[e1.symm.trans h2,zP,zP,zP] at q
   refine !⟨?_⟩
   exact cI (fo q)
 ·rw[h0]
  rw[h1] at q
  exact cI (cI (fo q))
theorem A_(T:Txt w K mg t):Ok P w base T.uW 2 (J2 (ofStr tZ)):=by
 refine T.uW.F.bU A1 ?_
 rintro _ _ _ _ _ _ _ S R Z hr ⟨d,e,⟨⟨k,hk⟩,hz⟩,q⟩
 subst e
 refine⟨_,(sc (si (twd (twor (cq (tv (cb cG T.ay au (ac (dv 0) (ac (rP T.mh gT) an))))) (tw1 (bh nr hr.u (cb aT T.aO aE (ac (dv 0) an)) (dg (v:=.int 40) T.kW ⟨_,rfl⟩ fun _=>aL _))))) (s1 (sr db)) s0) (s1 (sr (cb ki T.km fZ (ac (sA (N:=["sign"]) (src:=[none]) (kM (ae Em) ["thing"] rfl rfl (by trivial)) (NU (dv 0)) (qz (show (["sign"]:List Str).Nodup by trivial)) (ba rfl) bb (fun _ _ _ _ _=>rQ) (fun _ _ _ _ _=>(cc i0 i0 hr.u ds (dv 0) ds))) an))))),?_⟩
 refine !⟨_,_,_,_,rfl,cB,hk,_,rfl,?_⟩
 rcases A9 hk with ⟨z,rfl,h0⟩|⟨h0,h1⟩
 ·have hz:=hz z rfl
  rw[h0]
  refine bf ?_
  refine !!⟨⟨sm hz,?_⟩⟩
  refine !⟨?_⟩
  have e2:decide ((40:Int)<((z.length:Nat):Int))=!decide (z.cps.size≤40):=by
   rw[yx];simp only [decide_eq_true_iff,Bool.not_eq_true',decide_eq_false_iff_not];show (40:Int)<((z.cps.size:Nat):Int)↔_;omega
  unfold ofStr tZ at q
  dsimp only at q
  refine bK (fun h3=>?_) (fun h3=>?_)
  ·rw[nt (e2.symm.trans h3),zP] at q
   exact fo q
  ·rw[nf (e2.symm.trans h3),zY] at q
   refine nS (f:=G8) rfl hz (fun c hc Q hQ=>?_) q
   refine !!⟨?_⟩
   have e3:E3 " " ⟨#[c]⟩=decide (32≤c):=jG 32 c
   have e4:E3 ⟨#[c]⟩ "~" = decide (c≤126):=jG c 126
   unfold G8 at hQ
   refine bK (fun h=>?_) (fun h=>?_)
   ·rw[e3.symm.trans h,zY,← e4] at hQ
    exact hQ
   ·rw[e3.symm.trans h,zP] at hQ
    exact hQ
 ·rw[h0]
  rw[h1] at q
  exact cI (cI (fo q))
inductive q9 (ds:List D) (S:av) (R:KD) (Z:KX):Prop where
 |mk (kind d) (h0:ds=[.str kind,d]) (h1:Gt S d) (h2:R (.bl (jo kind d)) S):q9 ds S R Z
theorem jr(T:Txt w K mg t):Ok P w base T.je 3 q9:=by
 refine T.je.F.bU xl ?_
 rintro _ _ _ _ _ _ _ S R Z hr ⟨kind,d,e,hd,q⟩
 subst e
 refine⟨_,(sc (si (bh i4 hr.u (dv 1) dn) (s1 (sr db)) s0) (sc (si (bh br hr.u (dv 0) ds) (s1 (sr (aI T.jd (jq T) hr (ac (dv 1) an)))) s0) (s1 (sr (aI T.uW (A_ T) hr (ac (dv 1) an)))))),?_⟩
 refine !!⟨?_⟩
 unfold jo at q
 refine bK (fun h=>?_) (fun h=>?_)
 ·rw[h,Bool.true_or] at q
  exact fo q
 ·rw[h,yN] at q
  refine !!⟨?_⟩
  refine bK (fun h=>?_) (fun h=>?_)
  ·rw[if_pos (zA h)] at q
   exact !⟨d,rfl,hd,fo q⟩
  ·rw[if_neg (zO h)] at q
   exact !⟨d,rfl,hd,fo q⟩
theorem gt_str(h:z.cps.size≤1000):Gt S (.str z):=⟨⟨.str,rfl⟩,fun y e=>by cases e;exact h⟩
theorem nV(h:kr z=true):z.cps.size≤1000:=by
 unfold kr at h
 simp only [zJ,zX] at h
 lia
theorem ED(h:∀c v,f (.tup [az c,v])=.bl (jo c.2 v)):(bu (cs.map az) ws).map f=(List.zipWith (fun c v=>jo c.2 v) cs ws).map D.bl:=by
 unfold bu
 induction cs generalizing ws with
 |nil=>cases ws <;> rfl
 |cons c cs ih =>
  cases ws with
  |nil=>rfl
  |cons v ws =>
   show f (.tup [az c,v])::(List.zipWith _ (cs.map az) ws).map f=.bl (jo c.2 v)::_
   rw[h,ih]
def pairF:D→D
 |.tup [.tup [_,.str k],v]=>.bl (jo k v)
 |_=>.aw
inductive t5 (ds:List D) (S:av) (R:KD) (Z:KX):Prop where
 |mk (z) (h0:ds=[.str z]) (h1:(z = "number" ∨ z = "word")) (h2:R (.bl true) S):t5 ds S R Z
theorem Ba(T:Txt w K mg t):Ok P w base T.uX 1 t5:=by
 refine T.uX.F.bU A2 ?_
 rintro _ _ _ _ _ _ _ S R Z hr ⟨z,e,hz,q⟩
 subst e
 refine⟨_,(s1 (sr (sx (cb cG T.ay au (ac (dv 0) (ac (rP T.mh gT) an))) (Ij (cm D2 hr.u (dv 0) (dg (v:=.ref t.uP) T.GY rfl T.GZ)))))),?_⟩
 refine !⟨_,_,_,_,rfl,cB,rfl,_,rfl,cI !⟨rfl,rfl,?_⟩⟩
 have e:y8 (lW (.str z)) ([D.str "number",D.str "word"].map lW)=true:=by rcases hz with rfl|rfl <;> decide +kernel
 show Fo S (R (.bl (if false=true then _ else y8 (lW (.str z)) ([D.str "number",D.str "word"].map lW))))
 rw[if_neg zd,e]
 exact fo q
inductive oF (ds:List D) (S:av) (R:KD) (Z:KX):Prop where
 |mk (c) (h0:ds=[az c]) (h1:kr c.1=true) (h2:(c.2 = "number" ∨ c.2 = "word")) (h3:R (.bl true) S):oF ds S R Z
theorem vk(T:Txt w K mg t):Ok P w base T.nK 3 oF:=by
 refine T.nK.F.bU u7 ?_
 rintro _ _ _ _ _ _ _ S R Z hr ⟨c,e,h1,h2,q⟩
 subst e
 refine⟨_,(sc (si (twd (twor (cq (tv (cb cG T.ay au (ac (dv 0) (ac (rP T.bj aV) an))))) (tw1 (bh fF hr.u (cb aT T.aO aE (ac (dv 0) an)) di)))) (s1 (sr db)) s0) (s1 (sr (sx (aI T.pO (q8 T) hr (ac (ix hr.u (dv 0) di) an)) (Ij (aI T.uX (Ba T) hr (ac (ix hr.u (dv 0) di) an))))))),?_⟩
 refine !⟨_,_,_,_,rfl,aX,rfl,_,rfl,?_⟩
 refine bf !!!⟨bf ?_⟩
 refine !!!⟨gt_str (nV h1),_,rfl,?_⟩
 show if kr c.1=true then _ else _
 rw[h1]
 exact cI !!!⟨h2,fo q⟩
inductive q_ (ds:List D) (S:av) (R:KD) (Z:KX):Prop where
 |mk (cs:List (Str×Str)) (h0:ds=[.tup (cs.map az)]) (h1:cs.length≤8) (h2:∀p,S p=none→R (.ref p) (S.set p (.lst ((cs.map Prod.fst).map D.str)))):q_ ds S R Z
theorem oG(T:Txt w K mg t):Ok P w base T.mj 1 q_:=by
 refine T.mj.F.bU xm ?_
 rintro _ _ _ _ _ _ _ S R Z hr ⟨cs,e,hl,q⟩
 subst e
 refine⟨_,(s1 (sr (sA (N:=["name","kind"]) (src:=[none,none]) (kM (ae AM) ["columns"] rfl rfl (by trivial)) (Fc (dv 0)) (Ug (show (["name","kind"]:List Str).Nodup by trivial)) (pK rfl rfl) pM (fun _ _ _ _ _=>rQ) (fun _ _ _ _ _=>(dv 0))))),?_⟩
 refine !⟨_,.inl rfl,?_⟩
 refine comp_map (fun d=>match d with|.tup (x::_)=>x|_=>.aw) trivial (by show (cs.map az).length≤1000;rw[zb];lia) (fun d hd Q hQ=>?_) fun p hp=>?_
 ·obtain⟨c,hc,rfl⟩:=zg.mp hd
  exact !⟨rfl,_,_,rfl,_,_,rfl,rfl,_,rfl,hQ⟩
 ·have e:(cs.map az).map (fun d=>match d with|.tup (x::_)=>x|_=>.aw)=(cs.map Prod.fst).map D.str:=by
   rw[zw,zw];rfl
  show Fo (S.set p (.lst ((cs.map az).map _))) (R (.ref p))
  rw[e]
  exact fo (q p hp)
inductive iA (ds:List D) (S:av) (R:KD) (Z:KX):Prop where
 |mk (cs) (h0:ds=[.tup (cs.map az)]) (h1:Gd cs) (h2:R .aw S):iA ds S R Z
theorem nW(T:Txt w K mg t):Ok P w base T.gf 4 iA:=by
 refine T.gf.F.bU nR ?_
 rintro _ _ _ _ _ _ _ S R Z hr ⟨cs,e,⟨hl,hn,hg⟩,q⟩
 subst e
 refine⟨_,(sc (si (twd (twor (cq (tv (cb cG T.ay au (ac (dv 0) (ac (rP T.bj aV) an))))) (tw1 (bh nr hr.u (cb aT T.aO aE (ac (dv 0) an)) (dg (v:=.int 8) T.ph ⟨_,rfl⟩ fun _=>aL _))))) (s1 (qy ⟨T.dj⟩ T.gb (ac ds an))) s0) (sc (si (cq (tv (cb ki T.km fZ (ac (sA (N:=["column"]) (src:=[none]) (kM (ae pf) ["columns"] rfl rfl (by trivial)) (Fc (dv 0)) (qz (show (["column"]:List Str).Nodup by trivial)) (ba rfl) bb (fun _ _ _ _ _=>rQ) (fun _ _ _ _ _=>(aI T.nK (vk T) hr (ac (dv 0) an)))) an)))) (s1 (qy ⟨T.dj⟩ T.gb (ac ds an))) s0) (s1 (si (bh fF hr.u (YQ (aI T.mj (oG T) hr (ac (dv 0) an)) T.aO T.LS) (cb aT T.aO aE (ac (dv 0) an))) (s1 (qy ⟨T.dj⟩ T.gb (ac ds an))) s0)))),?_⟩
 refine !⟨_,_,_,_,rfl,aX,rfl,_,rfl,?_⟩
 have e1:decide ((8:Int)<((cs.map az).length:Nat))=false:=zk (by rw[zb];lia)
 refine bf !!!⟨?_⟩
 show if decide ((8:Int)<((cs.map az).length:Nat))=true then _ else _
 rw[e1]
 refine bf ?_
 refine !⟨_,.inl rfl,?_⟩
 refine comp_map (fun _=>.bl true) trivial (by show (cs.map az).length≤1000;rw[zb];lia) (fun d hd Q hQ=>?_) fun p hp=>?_
 ·obtain⟨c,hc,rfl⟩:=zg.mp hd
  exact !⟨c,rfl,(hg c hc).1,(hg c hc).2,hQ⟩
 ·have e2:(cs.map az).map (fun _=>D.bl true)=(cs.map fun _=>true).map D.bl:=by rw[zw,zw];rfl
  have e3:(cs.map fun _=>true).all id=true:=by rw[all_map];exact yc.mpr fun _ _=>rfl
  refine⟨.ref p,cs.map fun _=>true,rfl,?_,_,rfl,?_⟩
  ·show (S.set p (.lst ((cs.map az).map _))) p=_
   rw[aa,e2]
  rw[e3]
  refine bf ?_
  refine !⟨cs,rfl,hl,fun p2 gO=>?_⟩
  refine⟨cs.map Prod.fst,aa,by rw[zb];lia,_,rfl,_,rfl,_,rfl,?_⟩
  have e4:decide ((((ir (cs.map Prod.fst)).length:Nat):Int)=(((cs.map az).length:Nat):Int))=true:=zq (by rw[(tK _).mpr hn,zb,zb])
  show if (if true=true then !decide ((((ir (cs.map Prod.fst)).length:Nat):Int)=(((cs.map az).length:Nat):Int)) else _)=true then _ else _
  rw[if_pos rfl,e4]
  exact bf ⟨S,(Sub.new hp).trans (.new gO),q⟩
inductive mz (ds:List D) (S:av) (R:KD) (Z:KX):Prop where
 |mk (cs d) (h0:ds=[.tup (cs.map az),d]) (h1:cs.length≤8) (h2:PF S d) (h3:R (.bl (my cs d)) S):mz ds S R Z
theorem sO(T:Txt w K mg t):Ok P w base T.k7 4 mz:=by
 refine T.k7.F.bU sI ?_
 rintro _ _ _ _ _ _ _ S R Z hr ⟨cs,d,e,hl,⟨⟨⟨k,hk⟩,hz⟩,hw⟩,q⟩
 subst e
 refine⟨_,(sc (si (twd (twor (cq (tv (cb cG T.ay au (ac (dv 1) (ac (rP T.bj aV) an))))) (tw1 (bh fF hr.u (cb aT T.aO aE (ac (dv 1) an)) (cb aT T.aO aE (ac (dv 0) an)))))) (s1 (sr db)) s0) (s1 (sr (cb ki T.km fZ (ac (sA (N:=["column","value"]) (src:=[none,none]) (kM (ae uO) ["columns","thing"] rfl rfl (by trivial)) (Xo T.CB (ac (dv 0) (ac (dv 1) an))) (Ug (show (["column","value"]:List Str).Nodup by trivial)) (pK rfl rfl) pM (fun _ _ _ _ _=>rQ) (fun _ _ _ _ _=>(aI T.je (jr T) hr (ac (ix hr.u (dv 0) di) (ac (dv 1) an))))) an))))),?_⟩
 refine !⟨_,_,_,_,rfl,aX,hk,_,rfl,?_⟩
 rcases Oq hk with ⟨ws,rfl,h0⟩|⟨h0,h1⟩
 ·obtain⟨Sr,pL⟩:=hw ws rfl
  rw[h0]
  refine bf !!!!!⟨?_⟩
  have e1:decide (((ws.length:Nat):Int)=(((cs.map az).length:Nat):Int))=decide (ws.length=cs.length):=by rw[yG,zb];lia
  unfold my at q
  dsimp only at q
  show if (if true=true then !decide (((ws.length:Nat):Int)=(((cs.map az).length:Nat):Int)) else _)=true then _ else _
  rw[if_pos rfl,e1]
  refine bK (fun h=>?_) (fun h=>?_)
  ·rw[nt h,zP] at q
   exact fo q
  ·have h:=nf h
   rw[h,zY] at q
   have h:=zA h
   refine !!⟨cs.map az,ws,rfl,by rw[zb];exact h.symm,?_⟩
   refine comp_map pairF trivial (by show (bu (cs.map az) ws).length≤1000;unfold bu;rw[List.length_zipWith,zb];lia) (fun d hd Q hQ=>?_) fun p hp=>?_
   ·unfold bu at hd
    obtain⟨i,ei⟩:=List.getElem?_of_mem hd
    obtain⟨x,y,e2,e3,e4⟩:=List.getElem?_zipWith_eq_some.mp ei
    subst e4
    rw[zp] at e2
    cases e5:cs[i]? with
    |none=>rw[e5] at e2;cases e2
    |some c =>
     rw[e5] at e2;cases e2
     exact !⟨rfl,_,_,rfl,_,_,rfl,rfl,_,rfl,_,rfl,_,rfl,c.2,y,rfl,pL y (zC e3),hQ⟩
   ·refine⟨.ref p,List.zipWith (fun c v=>jo c.2 v) cs ws,rfl,?_,S,.new hp,q⟩
    show (S.set p (.lst ((bu (cs.map az) ws).map pairF))) p=_
    rw[aa,ED fun _ _=>rfl]
 ·rw[h0]
  have e:my cs d=false:=by
   cases d with
   |tup ws=>exact absurd rfl (h1 ws)
   |_=>rfl
  rw[e] at q
  exact cI (cI (fo q))
inductive oH (t:fG) (ds:List D) (S:av) (R:KD) (Z:KX):Prop where
 |mk (cs k v) (h0:ds=[.tup (cs.map az),.tup [k,v]]) (h1:cs.length≤8) (h2:Gt S k) (h3:PF S v) (h4:(nU cs k v=true→R .aw S)) (h5:(nU cs k v=false→Z t.gy S)):oH t ds S R Z
theorem mB(T:Txt w K mg t):Ok P w base T.jL 5 (oH t):=by
 refine T.jL.F.bU u9 ?_
 rintro _ _ _ _ _ _ _ S R Z hr ⟨cs,k,v,e,hl,hk,hv,q1,q2⟩
 subst e
 refine⟨_,(sc (si (twd (twor (cq (tv (cb cG T.ay au (ac (dv 1) (ac (rP T.bj aV) an))))) (tw1 (bh fF hr.u (cb aT T.aO aE (ac (dv 1) an)) di)))) (s1 (qy ⟨T.gC⟩ T.jK (ac ds an))) s0) (sc (si (cq (tv (aI T.kZ (gI T) hr (ac (ix hr.u (dv 1) di) an)))) (s1 (qy ⟨T.gC⟩ T.jK (ac ds an))) s0) (s1 (si (cq (tv (aI T.k7 (sO T) hr (ac (dv 0) (ac (ix hr.u (dv 1) di) an))))) (s1 (qy ⟨T.gC⟩ T.jK (ac ds an))) s0)))),?_⟩
 refine !⟨_,_,_,_,rfl,aX,rfl,_,rfl,?_⟩
 refine bf !!!⟨bf ?_⟩
 refine !!⟨k,rfl,hk,_,rfl,?_⟩
 unfold nU at q1 q2
 refine bK (fun h=>?_) (fun h=>?_)
 ·rw[nt h,zP] at q2
  exact⟨sm (by decide),fo (q2 rfl)⟩
 ·rw[nf h,zY] at q1 q2
  refine !!!⟨cs,v,rfl,hl,hv,_,rfl,?_⟩
  refine bK (fun h=>?_) (fun h=>?_)
  ·exact⟨sm (by decide),fo (q2 (nt h))⟩
  ·exact fo (q1 (nf h))
theorem bg(h:n≤100000):n<sizeLine:=by rw[zZ];lia
structure Std where
 b:Nat
 e:Option Nat
 ws:List D
def eD:Option Nat→D
 |none=>.aw
 |some n=>.int (n:Nat)
def js(s:Std):D:=.tup [.int (s.b:Nat),eD s.e,.tup s.ws]
def G_:List Std→Int→D
 |[],_=>.aw
 |s::r,m=>if (s.b:Int)≤m then (match s.e with|none=>.tup s.ws|some n=>if m≤(n:Int) then .tup s.ws else .aw) else G_ r m
def wt(l:List Std)(m:Int):D:=G_ l.reverse m
abbrev Ra:=List (Str×Addr×List Std)
abbrev pP:=List (Str×List Std)
def gJ(ra:Ra):pP:=ra.map fun r=>(r.1,r.2.2)
def dr(ra:Ra):List (Key×D):=ra.map fun r=>(Sum.inr r.1,D.ref r.2.1)
def lu(rs:pP)(k:Str):Option (List Std):=(rs.find? fun r=>decide (r.1=k)).map (·.2)
def rS(ra:Ra)(k:Str):Option (Addr×List Std):=(ra.find? fun r=>decide (r.1=k)).map (·.2)
def rT(ra:Ra)(k:Str)(s:List Std):Ra:=ra.map fun r=>if r.1=k then (r.1,r.2.1,s) else r
def Bb(rs:pP)(k:Str)(s:List Std):pP:=if (lu rs k).isSome then rs.map fun r=>if r.1=k then (r.1,s) else r else rs++[(k,s)]
theorem gp(ra:Ra)(k:Str):lu (gJ ra) k=(rS ra k).map (·.2):=by
 unfold lu rS gJ
 induction ra with
 |nil=>rfl
 |cons r ra ih =>
  rw[zB,zR,zR]
  by_cases h:r.1=k
  ·rw[zq h];rfl
  ·rw[zk h];exact ih
theorem gL(ra:Ra)(k:Str):bT (dr ra) (.inr k)=(rS ra k).map fun p=>D.ref p.1:=by
 unfold bT rS dr
 induction ra with
 |nil=>rfl
 |cons r ra ih =>
  rw[zB,zR,zR]
  by_cases h:r.1=k
  ·rw[zq h]
   have:decide ((Sum.inr r.1:Key)=.inr k)=true:=zq (by rw[h])
   dsimp only
   rw[this];rfl
  ·rw[zk h]
   have:decide ((Sum.inr r.1:Key)=.inr k)=false:=zk fun e=>h (yH e)
   dsimp only
   rw[this];exact ih
theorem cO(h:rS ra k=some (l,s)):(k,l,s)∈ra:=by
 unfold rS at h
 cases q:ra.find? fun r=>decide (r.1=k) with
 |none=>rw[q] at h;cases h
 |some r =>
  rw[q] at h
  have h1:=List.find?_some q
  have h2:=List.mem_of_find?_eq_some q
  obtain⟨k',l',s'⟩:=r
  have e:k'=k:=zA h1
  cases h
  rw[← e];exact h2
theorem mC(h:rS ra k=none):∀r∈ra,r.1≠k:=by
 unfold rS at h
 intro r hr e
 have:=List.find?_eq_none.mp (Option.map_eq_none_iff.mp h) r hr
 simp [e] at this
theorem eR:∀{l:List α}{x y:α},(l.map f).Nodup→x∈l→y∈l→f x=f y→x=y
 |z::l,x,y,nd,hx,hy,e=>by
  rw[zB] at nd
  obtain⟨n1,n2⟩:=yo.mp nd
  rcases zi.mp hx with ex|QV
  ·rcases zi.mp hy with ey|Qy
   ·rw[ex,ey]
   ·exact absurd (zg.mpr ⟨y,Qy,by rw[← e,ex]⟩) n1
  ·rcases zi.mp hy with ey|Qy
   ·exact absurd (zg.mpr ⟨x,QV,by rw[e,ey]⟩) n1
   ·exact eR n2 QV Qy e
structure Bc(C:Addr)(S:av)(a ld lr:Addr)(cs:List (Str×Str))(dl:List D)(ra:Ra):Prop where
 ins:S a=some (.ins C [("columns",.tup (cs.map az)),("deeds",.ref ld),("runs",.ref lr)])
 xq:S ld=some (.lst dl)
 run:S lr=some (.cQ (dr ra))
 cell:∀r∈ra,S r.2.1=some (.lst (r.2.2.map js))
 kn:(ra.map (·.1)).Nodup
 an:(ld::ra.map (·.2.1)).Nodup
 sz:∀r∈ra,r.2.2.length≤dl.length
def fp(a ld lr:Addr)(ra:Ra):List Addr:=a::ld::lr::ra.map (·.2.1)
def bZ(C:Addr)(S:av)(a:Addr)(F:List Addr)(cs:List (Str×Str))(dl:List D)(rs:pP):Prop:=∃ld lr ra,Bc C S a ld lr cs dl ra∧F=fp a ld lr ra∧rs=gJ ra
def Bd(F F':List Addr)(S S':av):Prop:=∀b c,b∉F→S b=some c→b∉F'∧S' b=some c
theorem Bd.trans(a:Bd F F1 S S1)(b:Bd F1 F2 S1 S2):Bd F F2 S S2:=fun p c h e=>by obtain⟨h1,e1⟩:=a p c h e;exact b p c h1 e1
section
variable{C a ld lr:Addr}{S:av}{cs:List (Str×Str)}{dl:List D}{ra:Ra}
theorem Bc.Be(h:Bc C S a ld lr cs dl ra){l:Addr}{ds:List D}(e:S l=some (.lst ds)):l≠a∧l≠lr:=by
 constructor
 ·rintro rfl;rw[h.ins] at e;cases e
 ·rintro rfl;rw[h.run] at e;cases e
theorem Bc.put(h:Bc C S a ld lr cs dl ra)(hk:rS ra k=some (l,s))(hs:s'.length≤dl.length):Bc C (S.set l (.lst (s'.map js))) a ld lr cs dl (rT ra k s'):=by
 have hm:=cO hk
 have hl:=h.cell _ hm
 obtain⟨n1,n2⟩:=h.Be hl
 obtain⟨Xu,Y6⟩:=yo.mp h.an
 have n3:l≠ld:=fun e=>Xu (by rw[← e];exact zg.mpr ⟨_,hm,rfl⟩)
 have e1:(rT ra k s').map (·.1)=ra.map (·.1):=by
  unfold rT;rw[zw];exact zV fun r _=>by dsimp only [Function.comp];split <;> rfl
 have e2:(rT ra k s').map (·.2.1)=ra.map (·.2.1):=by
  unfold rT;rw[zw];exact zV fun r _=>by dsimp only [Function.comp];split <;> rfl
 have e3:dr (rT ra k s')=dr ra:=by
  unfold dr rT;rw[zw];exact zV fun r _=>by dsimp only [Function.comp];split <;> rfl
 refine⟨by rw[ag n1.symm];exact h.ins,by rw[ag n3.symm];exact h.xq,by rw[ag n2.symm,e3];exact h.run,fun r hr=>?_,by rw[e1];exact h.kn,by rw[e2];exact h.an,fun r hr=>?_⟩
 ·unfold rT at hr
  obtain⟨r0,v7,e⟩:=zg.mp hr
  by_cases q:r0.1=k
  ·rw[if_pos q] at e
   have er:r0=(k,l,s):=eR h.kn v7 hm q
   subst er e
   rw[aa]
  ·rw[if_neg q] at e
   subst e
   have:r0.2.1≠l:=fun e=>q (by
    have:=eR Y6 v7 hm e
    rw[this])
   rw[ag this];exact h.cell _ v7
 ·unfold rT at hr
  obtain⟨r0,v7,e⟩:=zg.mp hr
  by_cases q:r0.1=k
  ·rw[if_pos q] at e;subst e;exact hs
  ·rw[if_neg q] at e;subst e;exact h.sz _ v7
theorem Bc.add(h:Bc C S a ld lr cs dl ra)(hk:rS ra k=none)(hl:S l=none)(hs:s.length≤dl.length)(e1:S' l=some (.lst (s.map js)))(e2:S' lr=some (.cQ (dr (ra++[(k,l,s)]))))(e3:∀b,b≠l→b≠lr→S' b=S b):Bc C S' a ld lr cs dl (ra++[(k,l,s)]):=by
 have n1:a≠l:=gW h.ins hl
 have n2:ld≠l:=gW h.xq hl
 have n3:a≠lr:=by rintro rfl;have:=h.run;rw[h.ins] at this;cases this
 have n4:ld≠lr:=by rintro rfl;have:=h.run;rw[h.xq] at this;cases this
 refine⟨by rw[e3 _ n1 n3];exact h.ins,by rw[e3 _ n2 n4];exact h.xq,e2,fun r hr=>?_,?_,?_,fun r hr=>?_⟩
 ·rcases zL.mp hr with hr|hr
  ·have hc:=h.cell r hr
   rw[e3 _ (gW hc hl) (h.Be hc).2];exact hc
  ·rw[zG.mp hr];exact e1
 ·rw[zH]
  exact lS h.kn fun m=>by
   obtain⟨r,hr,e⟩:=zg.mp m
   exact mC hk r hr e
 ·rw[zH,← List.cons_append]
  refine lS h.an fun m=>?_
  rcases zi.mp m with e|m
  ·exact n2 e.symm
  ·obtain⟨r,hr,e⟩:=zg.mp m
   exact gW (h.cell r hr) hl e
 ·rcases zL.mp hr with hr|hr
  ·exact h.sz r hr
  ·rw[zG.mp hr];exact hs
theorem Bc.Bf(h:Bc C S a ld lr cs dl ra)(d:D):Bc C (S.set ld (.lst (dl++[d]))) a ld lr cs (dl++[d]) ra:=by
 obtain⟨n1,n2⟩:=h.Be h.xq
 obtain⟨Xu,Y6⟩:=yo.mp h.an
 refine⟨by rw[ag n1.symm];exact h.ins,aa,by rw[ag n2.symm];exact h.run,fun r hr=>?_,h.kn,h.an,fun r hr=>by rw[zE];exact zI (h.sz r hr) (Nat.le_add_right _ _)⟩
 rw[ag fun e=>Xu (by rw[← e];exact zg.mpr ⟨r,hr,rfl⟩)]
 exact h.cell r hr
end
def Ss(C:Addr):iL:=fun ds S R _=>∃a F cs dl rs,ds=[.ref a]∧bZ C S a F cs dl rs∧R (.int (dl.length:Nat)) S
theorem rf(T:Txt w K mg t):x6 P w mg base T.dO 1 (Ss t.ao):=by
 refine T.dO.F.bU vi ?_
 rintro _ _ _ _ _ _ _ S R Z hr ⟨a,F,cs,dl,rs,e,⟨ld,lr,ra,h,_⟩,q⟩
 subst e
 refine⟨_,(s1 (sr (cb aT T.aO aE (ac (fl T.aj T.cw (dv 0)) an)))),?_⟩
 exact !⟨a,_,_,rfl,h.ins,rfl,_,rfl,.inl ⟨dl,h.xq,fo q⟩⟩
inductive eN (t:fG) (ds:List D) (S:av) (R:KD) (Z:KX):Prop where
 |mk (a F cs dl rs) (h0:ds=[.ref a]) (h1:bZ t.ao S a F cs dl rs) (h2:R (.tup (cs.map az)) S):eN t ds S R Z
theorem aW(T:Txt w K mg t):x6 P w mg base T.aC 1 (eN t):=by
 refine T.aC.F.bU jm ?_
 rintro _ _ _ _ _ _ _ S R Z hr ⟨a,F,cs,dl,rs,e,⟨ld,lr,ra,h,_⟩,q⟩
 subst e
 refine⟨_,(s1 (sr (fl T.aj T.cC (dv 0)))),?_⟩
 exact !⟨a,_,_,rfl,h.ins,rfl,fo q⟩
def nX(n:Nat):D→Option Int
 |.aw=>some n
 |.int i=>if 0≤i∧i≤(n:Int) then some i else none
 |_=>none
def J3(C N:Addr):iL:=fun ds S R Z=>∃a F cs dl rs m,ds=[.ref a,m]∧bZ C S a F cs dl rs∧Gt S m∧(∀i,nX dl.length m=some i→R (.int i) S)∧(nX dl.length m=none→Z N S)
theorem iB(T:Txt w K mg t):x6 P w mg base T.bY 2 (J3 t.ao t.dH):=by
 refine T.bY.F.bU iN ?_
 rintro _ _ _ _ _ _ _ S R Z hr ⟨a,F,cs,dl,rs,m,e,hS,hm,q1,q2⟩
 subst e
 obtain⟨ld,lr,ra,h,hF,rR⟩:=id hS
 refine⟨_,(sc (si (bh i4 hr.u (dv 1) dn) (s1 (sr (kP (dv 0) T.aj T.dO (rf T) hr))) s0) (sc (si (twd (twor (cq (tv (aI T.jd (jq T) hr (ac (dv 1) an)))) (tw1 (cq (T6 i0 i0 hr.u di (dv 1) (kP (dv 0) T.aj T.dO (rf T) hr)))))) (s1 (qy ⟨T.kY⟩ T.xi (ac ds an))) s0) (s1 (sr (dv 1))))),?_⟩
 refine !!⟨?_⟩
 refine bK (fun h1=>?_) (fun h1=>?_)
 ·have e:m=.aw:=by cases m <;> first|rfl|cases h1
  subst e
  exact !⟨a,_,rfl,h.ins,rfl,a,F,cs,dl,rs,rfl,hS,fo (q1 _ rfl)⟩
 ·refine !⟨m,rfl,hm,_,rfl,?_⟩
  refine bK (fun h2=>?_) (fun h2=>?_)
  ·have h2:=nt h2
   have e:nX dl.length m=none:=by
    cases m with
    |aw=>cases h1
    |int i=>cases h2
    |_=>rfl
   exact cI ⟨sm (by decide),fo (q2 e)⟩
  ·have h2:=nf h2
   obtain⟨i,rfl⟩:∃i,m=.int i:=by cases m <;> first|exact⟨_,rfl⟩|cases h2
   refine !!⟨?_⟩
   refine bK (fun h3=>?_) (fun h3=>?_)
   ·have h3:0≤i:=zA h3
    refine !⟨a,_,rfl,h.ins,rfl,a,F,cs,dl,rs,rfl,hS,_,rfl,?_⟩
    refine bK (fun h4=>?_) (fun h4=>?_)
    ·have h4:¬ i≤((dl.length:Nat):Int):=zO (nt h4)
     exact⟨sm (by decide),fo (q2 (if_neg fun z=>h4 z.2))⟩
    ·have h4:i≤((dl.length:Nat):Int):=zA (nf h4)
     exact !⟨fo (q1 i (if_pos ⟨h3,h4⟩))⟩
   ·have h3:¬ 0≤i:=zO h3
    exact !⟨cI ⟨sm (by decide),fo (q2 (if_neg fun z=>h3 z.1))⟩⟩
inductive ku (ds:List D) (S:av) (R:KD) (Z:KX):Prop where
 |mk (l t6 m) (h0:ds=[.ref l,.int m]) (h1:S l=some (.lst (t6.map js))) (h2:R (wt t6 m) S):ku ds S R Z
theorem jt(T:Txt w K mg t):Ok P w base T.fQ 1 ku:=by
 refine T.fQ.F.bU jk ?_
 rintro _ _ _ _ _ _ _ S R Z hr ⟨l,t6,m,e,hl,q⟩
 subst e
 refine⟨_,(sc (wO (Gs (irv T.qN (ac (dv 0) an)) (gn (i:=2) jk.nd) (s1 (si (bh i0 hr.u (ix hr.u (dv 2) di) (dv 1)) (s1 (sr (Lv (twd (twor (bh i4 hr.u (ix hr.u (dv 2) di) dn) (tw1 (bh i0 hr.u (dv 1) (ix hr.u (dv 2) di))))) (ix hr.u (dv 2) di) dn))) s0)))) (s1 (sr dn))),?_⟩
 refine⟨fun aG S'=>S'=S∧wt t6 m=.aw,?_,?_⟩
 ·refine !⟨_,_,rfl,hl,?_⟩
  refine⟨fun i aG S'=>(∃o,aG=[some (.ref l),some (.int m),o])∧S'=S∧wt t6 m=G_ (t6.reverse.drop i) m,⟨⟨none,rfl⟩,rfl,by rw[List.drop_zero];rfl⟩,fun i aG S' h=>by rw[h.2.1];exact hl,?_,?_⟩
  ·rintro i d aG S' hd ⟨⟨o,rfl⟩,rfl,hw⟩
   rw[← List.map_reverse,zp] at hd
   cases e1:t6.reverse[i]? with
   |none=>rw[e1] at hd;cases hd
   |some sd =>
    rw[e1] at hd;cases hd
    have e2:t6.reverse.drop i=sd::t6.reverse.drop (i+1):=by
     obtain⟨hi,e⟩:=ze.mp e1
     rw[List.drop_eq_getElem_cons hi,e]
    obtain⟨sb,se,sw⟩:=sd
    rw[e2] at hw
    refine !!!!⟨?_⟩
    unfold G_ at hw
    refine bK (fun h=>?_) (fun h=>?_)
    ·rw[if_pos (zA h)] at hw
     refine !!!⟨?_⟩
     cases se with
     |none =>
      refine cI (cI !!⟨?_⟩)
      rw[hw] at q
      exact fo q
     |some n =>
      refine bf !!!!⟨?_⟩
      dsimp only at hw
      refine bK (fun h=>?_) (fun h=>?_)
      ·rw[if_pos (zA h)] at hw
       rw[hw] at q
       exact !!⟨fo q⟩
      ·rw[if_neg (zO h)] at hw
       rw[hw] at q
       exact fo q
    ·rw[if_neg (zO h)] at hw
     exact⟨⟨_,rfl⟩,rfl,hw⟩
  ·rintro aG S' ⟨_,rfl,hw⟩
   refine fo ⟨rfl,?_⟩
   rw[hw,yw,zb,List.drop_eq_nil_of_le (by rw[yw];exact zm _)]
   rfl
 ·rintro aG S' ⟨rfl,hw⟩
  rw[hw] at q
  exact fo q
def v8(rs:pP)(k:D)(i:Int):D:=match k with
 |.str z=>if jY z=true then wt ((lu rs z).getD []) i else .aw
 |_=>.aw
def Su(C N:Addr):iL:=fun ds S R Z=>∃a F cs dl rs k m,ds=[.ref a,k,m]∧bZ C S a F cs dl rs∧Gt S k∧Gt S m∧(∀i,nX dl.length m=some i→R (v8 rs k i) S)∧(nX dl.length m=none→Z N S)
theorem ia(T:Txt w K mg t):x6 P w mg base T.cj 3 (Su t.ao t.dH):=by
 refine T.cj.F.bU fk ?_
 rintro _ _ _ _ _ _ _ S R Z hr ⟨a,F,cs,dl,rs,k,m,e,hS,hk,hm,q1,q2⟩
 subst e
 obtain⟨ld,lr,ra,h,hF,rR⟩:=id hS
 refine⟨_,(sc (cn (i:=3) fk.nd (sD (dv 0) T.aj T.bY (iB T) hr (ac (dv 2) an))) (sc (si (cq (tv (aI T.kZ (gI T) hr (ac (dv 1) an)))) (s1 (sr dn)) s0) (s1 (sr (aI T.fQ (jt T) hr (ac (mg2 hr.u (fl T.aj T.bO (dv 0)) (dv 1) (dS an)) (ac (dv 3) an))))))),?_⟩
 refine !⟨a,_,rfl,h.ins,rfl,_,rfl,a,F,cs,dl,rs,m,rfl,hS,hm,fun i hi=>?_,fun hn=>fo (q2 hn)⟩
 have q:=q1 i hi
 refine !⟨k,rfl,hk,_,rfl,?_⟩
 refine bK (fun h1=>?_) (fun h1=>?_)
 ·have e:v8 rs k i=.aw:=by
   cases k with
   |str z=>exact if_neg (by rw[show jY z=false from nt h1];exact zd)
   |_=>rfl
  rw[e] at q
  exact fo q
 ·have h1:=nf h1
  obtain⟨z,rfl⟩:∃z,k=.str z:=by
   cases k with
   |str z=>exact⟨z,rfl⟩
   |_=>cases h1
  have e:v8 rs (.str z) i=wt ((lu rs z).getD []) i:=if_pos h1
  rw[e] at q
  refine !⟨a,_,_,rfl,h.ins,rfl,lr,_,rfl,h.run,_,rfl,sm (by decide),fun p hp=>⟨dr ra,.inr z,?_,rfl,?_⟩⟩
  ·rw[ag (gW h.run hp)];exact h.run
  ·rw[gL]
   refine !⟨?_⟩
   cases e1:rS ra z with
   |none =>
    have e2:lu rs z=none:=by rw[rR,gp,e1];rfl
    rw[e2] at q
    exact⟨p,[],i,rfl,aa,S,.new hp,q⟩
   |some ls =>
    obtain⟨l,t6⟩:=ls
    have e2:lu rs z=some t6:=by rw[rR,gp,e1];rfl
    rw[e2] at q
    have hc:=h.cell _ (cO e1)
    exact⟨l,t6,i,rfl,by rw[ag (gW hc hp)];exact hc,S,.new hp,q⟩
theorem LV(h:rS ra k=some (l,s)):Bb (gJ ra) k s'=gJ (rT ra k s'):=by
 unfold Bb
 rw[gp,h,if_pos (show (Option.map (fun x:Addr×List Std=>x.2) (some (l,s))).isSome=true from rfl)]
 unfold gJ rT
 rw[zw,zw]
 exact zV fun r _=>by dsimp only [Function.comp];split <;> rfl
theorem Ot(h:rS ra k=none):Bb (gJ ra) k s=gJ (ra++[(k,l,s)]):=by
 unfold Bb
 rw[gp,h,if_neg (show ¬ (Option.map (fun x:Addr×List Std=>x.2) none).isSome=true from zd)]
 unfold gJ
 rw[zH];rfl
theorem Ou(h:rS ra k=none):dput (dr ra) (.inr k) (.ref l)=dr (ra++[(k,l,s)]):=by
 unfold dput
 have e:((dr ra).any fun kv=>decide (kv.1=.inr k))=false:=by
  rw[List.any_eq_false]
  intro x hx
  unfold dr at hx
  obtain⟨r,hr,rfl⟩:=zg.mp hx
  simp only [zX]
  exact fun e=>mC h r hr (yH e)
 rw[e,if_neg zd]
 unfold dr
 rw[zH];rfl
theorem Ha:fp a ld lr (rT ra k s)=fp a ld lr ra:=by
 unfold fp rT
 rw[zw]
 congr 3
 exact zV fun r _=>by dsimp only [Function.comp];split <;> rfl
theorem rh(h:l∈F):Bd F F S (S.set l c):=fun b x hb e=>⟨hb,by rw[ag (show b≠l from fun z=>hb (by rw[z];exact h))];exact e⟩
theorem Hb(h:r∈ra):r.2.1∈fp a ld lr ra:=zh _ (zh _ (zh _ (zg.mpr ⟨r,h,rfl⟩)))
def J4(C:Addr):iL:=fun ds S R _=>∃a F cs dl rs z ws,ds=[.ref a,.str z,.tup ws]∧bZ C S a F cs dl rs∧((lu rs z).getD []).length<dl.length∧dl.length≤9000∧rs.length≤9000 ∧
 ∀S' F',bZ C S' a F' cs dl (Bb rs z ((lu rs z).getD []++[Std.mk dl.length none ws]))→Bd F F' S S'→R .aw S'
theorem xr(T:Txt w K mg t):x6 P w mg base T.bL 2 (J4 t.ao):=by
 refine T.bL.F.bU gG ?_
 rintro _ _ _ _ _ _ _ S R Z hr ⟨a,F,cs,dl,rs,z,ws,e,⟨ld,lr,ra,h,hF,rR⟩,hl,hd,hn,q⟩
 subst e hF rR
 have Ie:(dr ra).length≤9000:=by unfold gJ at hn;unfold dr;rw[zb] at hn ⊢;exact hn
 refine⟨_,(s1 (se (bm zT yd ye dU (ms2 (fl T.aj T.bO (dv 0)) (dv 1) (dS an)) (ac (bD (ac (kP (dv 0) T.aj T.dO (rf T) hr) (ac dn (ac (dv 2) an)))) an)))),?_⟩
 refine !⟨a,_,_,rfl,h.ins,rfl,lr,dr ra,rfl,h.run,_,rfl,sm (by decide),fun p hp=>⟨dr ra,.inr z,?_,rfl,bg (by lia),fun d yQ=>?_,fun hn=>?_⟩⟩
 ·rw[ag (gW h.run hp)];exact h.run
 ·rw[gL] at yQ
  cases e1:rS ra z with
  |none=>rw[e1] at yQ;cases yQ
  |some ls =>
   obtain⟨l,t6⟩:=ls
   rw[e1] at yQ;cases yQ
   have e2:lu (gJ ra) z=some t6:=by rw[gp,e1];rfl
   rw[e2] at q hl
   have hc:=h.cell _ (cO e1)
   have Ig:(S.set p (.lst [])) l=some (.lst (t6.map js)):=by rw[ag (gW hc hp)];exact hc
   have Y7:(S.set p (.lst [])) a=some (.ins t.ao [("columns",.tup (cs.map az)),("deeds",.ref ld),("runs",.ref lr)]):=by rw[ag (gW h.ins hp)];exact h.ins
   have ow:Bc t.ao (S.set p (.lst [])) a ld lr cs dl ra:=⟨Y7,by rw[ag (gW h.xq hp)];exact h.xq,by rw[ag (gW h.run hp)];exact h.run,fun r hr=>by rw[ag (gW (h.cell r hr) hp)];exact h.cell r hr,h.kn,h.an,h.sz⟩
   refine⟨⟨rfl,_,Ig⟩,_,rfl,a,_,rfl,Y7,rfl,a,_,cs,dl,_,rfl,⟨ld,lr,ra,ow,rfl,rfl⟩,_,rfl,hX,?_⟩
   have hle:t6.length<dl.length:=hl
   refine⟨l,t6.map js,_,rfl,rfl,Ig,bg (by rw[zb];lia),S.set l (.lst ((t6++[Std.mk dl.length none ws]).map js)),fun b c hb=>?_,q _ _ ⟨ld,lr,_,h.put e1 (by rw[zE];show t6.length+1≤_;lia),rfl,LV e1⟩ ?_⟩
   ·by_cases Xv:b=l
    ·subst Xv;rw[aa] at hb ⊢;rw[zH] at hb;exact hb
    ·rw[ag Xv] at hb
     rw[ag Xv,ag (gW hb hp)];exact hb
   ·rw[Ha];exact rh (Hb (cO e1))
 ·rw[gL] at hn
  cases e1:rS ra z with
  |some ls=>rw[e1] at hn;cases hn
  |none =>
   have e2:lu (gJ ra) z=none:=by rw[gp,e1];rfl
   rw[e2] at q hl
   have Y8:p≠lr:=(gW h.run hp).symm
   generalize CF:(S.set p (.lst [])).set lr _=S1
   have Xw:S1 p=some (.lst []):=by rw[← CF,ag Y8,aa]
   have Y9:S1 lr=some (.cQ (dr (ra++[(z,p,[])]))):=by rw[← CF,aa,Ou e1]
   have Xx:∀b,b≠p→b≠lr→S1 b=S b:=fun b h1 h2=>by rw[← CF,ag h2,ag h1]
   have ow:Bc t.ao S1 a ld lr cs dl (ra++[(z,p,[])]):=h.add e1 hp (zS _) Xw Y9 Xx
   refine⟨⟨rfl,_,Xw⟩,_,rfl,a,_,rfl,ow.ins,rfl,a,_,cs,dl,_,rfl,⟨ld,lr,_,ow,rfl,rfl⟩,_,rfl,hX,?_⟩
   refine⟨p,[],_,rfl,rfl,Xw,bg (by show 0≤_;lia),S1.set p (.lst ([Std.mk dl.length none ws].map js)),.refl _,q _ _ ⟨ld,lr,ra++[(z,p,[Std.mk dl.length none ws])],h.add e1 hp (by show 1≤_;have:0<dl.length:=hl;lia) aa ?_ (fun b h1 h2=>by rw[ag h1];exact Xx b h1 h2),rfl,Ot e1⟩ ?_⟩
   ·rw[ag Y8.symm,Y9];unfold dr;rw[zH,zH];rfl
   ·intro b c hb e
    have h1:b≠p:=gW e hp
    have h2:b≠lr:=fun z=>hb (by rw[z];exact zh _ (zh _ zo))
    refine⟨fun m=>?_,by rw[ag h1,Xx b h1 h2];exact e⟩
    unfold fp at m hb
    rw[zH] at m
    rcases zi.mp m with m|m
    ·exact hb (m ▸ zo)
    ·rcases zi.mp m with m|m
     ·exact hb (m ▸ zh _ zo)
     ·rcases zi.mp m with m|m
      ·exact h2 m
      ·rcases zL.mp m with m|m
       ·exact hb (zh _ (zh _ (zh _ m)))
       ·exact h1 (zG.mp m)
def ib(n:Nat)(l:List Std):List Std:=l.dropLast++(l.getLast?.map fun s=>Std.mk s.b (some n) s.ws).toList
def nY(rs:pP)(z:Str)(n:Nat):pP:=Bb rs z (ib n ((lu rs z).getD []))
def sP(rs:pP)(z:Str)(n:Nat)(ws:List D):pP:=Bb rs z ((lu rs z).getD []++[Std.mk n none ws])
theorem Hc(h:bZ C S a F cs dl rs)(z:Str):((lu rs z).getD []).length≤dl.length:=by
 obtain⟨ld,lr,ra,h,_,rfl⟩:=h
 rw[gp]
 cases e:rS ra z with
 |none=>exact zS _
 |some ls=>exact h.sz _ (cO (l:=ls.1) (s:=ls.2) e)
theorem J5(rs:pP)(z:Str)(s:List Std):(Bb rs z s).length≤rs.length+1:=by
 unfold Bb
 split
 ·rw[zb];lia
 ·rw[zE];exact zm _
theorem eS:lu (r::rs) k=if r.1=k then some r.2 else lu rs k:=by
 unfold lu
 rw[zR]
 by_cases h:r.1=k
 ·rw[zq h,if_pos h];rfl
 ·rw[zk h,if_neg h]
theorem ju:lu (Bb rs z s) k=if k=z then some s else lu rs k:=by
 unfold Bb
 by_cases hs:(lu rs z).isSome=true
 ·rw[if_pos hs]
  by_cases hk:k=z
  ·subst hk
   rw[if_pos rfl]
   induction rs with
   |nil=>cases hs
   |cons r rs ih =>
    rw[zB,eS]
    by_cases h:r.1=k
    ·rw[if_pos h,if_pos h]
    ·rw[if_neg h,if_neg h]
     rw[eS,if_neg h] at hs
     exact ih hs
  ·rw[if_neg hk]
   clear hs
   induction rs with
   |nil=>rfl
   |cons r rs ih =>
    rw[zB,eS,eS,ih]
    by_cases h:r.1=z
    ·rw[if_pos h,if_neg (show ¬ r.1=k from fun e=>hk (e.symm.trans h)),if_neg (show ¬ r.1=k from fun e=>hk (e.symm.trans h))]
    ·rw[if_neg h]
 ·rw[if_neg hs]
  have hn:lu rs z=none:=by cases e:lu rs z <;> simp_all
  clear hs
  induction rs with
  |nil =>
   rw[List.nil_append,eS]
   by_cases hk:k=z
   ·rw[if_pos hk,if_pos hk.symm]
   ·rw[if_neg hk,if_neg fun e=>hk e.symm]
  |cons r rs ih =>
   rw[eS] at hn
   by_cases h:r.1=z
   ·rw[if_pos h] at hn;cases hn
   ·rw[if_neg h] at hn
    rw[List.cons_append,eS,eS,ih hn]
    by_cases h2:r.1=k
    ·rw[if_pos h2,if_pos h2,if_neg (show ¬ k=z from fun e=>h (h2.trans e))]
    ·rw[if_neg h2,if_neg h2]
def Sv(C:Addr):iL:=fun ds S R _=>∃a F cs dl rs z,ds=[.ref a,.str z]∧bZ C S a F cs dl rs∧(∃s,lu rs z=some s∧s≠[])∧dl.length≤9000 ∧
 ∀S',bZ C S' a F cs dl (nY rs z dl.length)→Bd F F S S'→R .aw S'
theorem jN(h:l≠[]):∃r s,l=r++[s]:=⟨l.dropLast,l.getLast h,(List.dropLast_concat_getLast h).symm⟩
theorem ee(n:Nat)(r:List Std)(s:Std):ib n (r++[s])=r++[Std.mk s.b (some n) s.ws]:=by
 unfold ib
 rw[List.dropLast_concat,List.getLast?_concat];rfl
theorem Hd(T:Txt w K mg t):x6 P w mg base T.bX 2 (Sv t.ao):=by
 refine T.bX.F.bU dF ?_
 rintro _ _ _ _ _ _ _ S R Z hr ⟨a,F,cs,dl,rs,z,e,⟨ld,lr,ra,h,hF,rR⟩,⟨s0,Pk,He⟩,hd,q⟩
 subst e hF rR
 rw[gp] at Pk
 cases e1:rS ra z with
 |none=>rw[e1] at Pk;cases Pk
 |some ls =>
  obtain⟨l,t6⟩:=ls
  rw[e1] at Pk;cases Pk
  obtain⟨r,sd,rfl⟩:=jN He
  have hlen:=h.sz _ (cO e1)
  dsimp only at hlen
  rw[zE] at hlen
  have hlen:r.length+1≤dl.length:=hlen
  have hc:=h.cell _ (cO e1)
  dsimp only at hc
  have ed:bT (dr ra) (.inr z)=some (.ref l):=by rw[gL,e1];rfl
  refine⟨_,(sc (cn (i:=2) dF.nd (bm0 zT PySem.F.slot_list_pop PySem.F.type_list_pop Rh (ix hr.u (fl T.aj T.bO (dv 0)) (dv 1)))) (s1 (se (bm zT yd ye dU (ix hr.u (fl T.aj T.bO (dv 0)) (dv 1)) (ac (bD (ac (ix hr.u (dv 2) di) (ac (kP (dv 0) T.aj T.dO (rf T) hr) (ac (ix hr.u (dv 2) di) an)))) an))))),?_⟩
  refine !⟨a,_,_,rfl,h.ins,rfl,_,rfl,dr ra,_,h.run,ed,⟨rfl,_,hc⟩,l,_,js sd,rfl,rfl,hc,?_,?_⟩
  ·rw[zH,zE];show (r.map js++[js sd])[(r.map js).length+1 - 1]?=_;simp
  have e2:((r++[sd]).map js).dropLast=r.map js:=by rw[zH];exact List.dropLast_concat
  rw[e2]
  have h1:Bc t.ao (S.set l (.lst (r.map js))) a ld lr cs dl (rT ra z r):=h.put e1 (by lia)
  generalize CF:S.set l _=S1 at h1
  have Xy:rS (rT ra z r) z=some (l,r):=by
   have hm:(z,l,r)∈rT ra z r:=by unfold rT;exact zg.mpr ⟨_,cO e1,if_pos rfl⟩
   cases e3:rS (rT ra z r) z with
   |none=>exact absurd rfl (mC e3 _ hm)
   |some x=>exact congrArg some (congrArg Prod.snd (eR (f:=fun r:Str×Addr×List Std=>r.1) h1.kn (cO (l:=x.1) (s:=x.2) e3) hm rfl))
  have ed':bT (dr (rT ra z r)) (.inr z)=some (.ref l):=by rw[gL,Xy];rfl
  have Uy:=h1.cell _ (cO Xy)
  refine !⟨a,_,_,rfl,h1.ins,rfl,_,rfl,_,_,h1.run,ed',⟨rfl,_,Uy⟩,_,rfl,_,rfl,_,rfl,a,_,rfl,h1.ins,rfl,a,_,cs,dl,_,rfl,⟨ld,lr,_,h1,rfl,rfl⟩,_,rfl,_,rfl,hX,l,_,_,rfl,rfl,Uy,bg (by rw[zb];show r.length≤_;lia),?_⟩
  have h2:=h1.put (s':=r++[Std.mk sd.b (some dl.length) sd.ws]) Xy (by rw[zE];exact hlen)
  have e4:nY (gJ ra) z dl.length=gJ (rT (rT ra z r) z (r++[Std.mk sd.b (some dl.length) sd.ws])):=by
   unfold nY
   rw[gp,e1]
   show Bb (gJ ra) z (ib dl.length (r++[sd]))=_
   rw[ee,LV e1]
   unfold gJ rT
   rw[zw,zw,zw]
   exact zV fun x _=>by dsimp only [Function.comp];by_cases hx:x.1=z <;> simp [hx]
  refine⟨_,?_,q _ ⟨ld,lr,_,h2,by rw[Ha,Ha],e4⟩ ?_⟩
  ·show Sub (S1.set l (.lst ((r++[_]).map js))) (S1.set l (.lst (r.map js++[_])))
   rw[zH];exact .refl _
  ·rw[← CF,dG];exact rh (Hb (cO e1))
theorem CG(h:ofStr jY d=true):∃z,d=.str z∧jY z=true:=by
 cases d with
 |str z=>exact⟨z,rfl,h⟩
 |_=>cases h
theorem CH(h:nU cs k v=true):∃z ws,k=.str z∧v=.tup ws∧jY z=true:=by
 unfold nU at h
 rw[zJ] at h
 obtain⟨z,rfl,hz⟩:=CG h.1
 cases v with
 |tup ws=>exact⟨z,ws,rfl,rfl,hz⟩
 |_=>exact absurd h.2 zd
theorem vm:Gt S .aw:=⟨⟨.aw,rfl⟩,fun _=>nofun⟩
theorem LW(h:ai (wt l m)=false):l≠[]:=by
 rintro rfl
 cases h
theorem pQ(hz:jY z=true)(i:Int):v8 rs (.str z) i=wt ((lu rs z).getD []) i:=if_pos hz
inductive eB (t:fG) (ds:List D) (S:av) (R:KD) (Z:KX):Prop where
 |mk (a F cs dl rs k) (h0:ds=[.ref a,k]) (h1:bZ t.ao S a F cs dl rs) (h2:Gt S k) (h3:(ai (v8 rs k dl.length)=false→R .aw S)) (h4:(ai (v8 rs k dl.length)=true→Z t.l6 S)):eB t ds S R Z
theorem iC(T:Txt w K mg t):x6 P w mg base T.bW 4 (eB t):=by
 refine T.bW.F.bU iM ?_
 rintro _ _ _ _ _ _ _ S R Z hr ⟨a,F,cs,dl,rs,k,e,hS,hk,q1,q2⟩
 subst e
 obtain⟨ld,lr,ra,h,_⟩:=id hS
 refine⟨_,(s1 (si (bh i4 hr.u (Wx (dv 0) T.aj T.cj.e ((ia T).mono (by decide)) hr T.eK d1 (ac (dv 1) an)) dn) (s1 (qy ⟨T.uV⟩ T.G1 (ac ds an))) s0)),?_⟩
 refine !⟨a,_,rfl,h.ins,rfl,_,rfl,a,F,cs,dl,rs,k,.aw,rfl,hS,hk,vm,fun i hi=>?_,fun hn=>by cases hn⟩
 cases hi
 refine !⟨?_⟩
 refine bK (fun h1=>?_) (fun h1=>?_)
 ·exact⟨mx,fo (q2 h1)⟩
 ·exact fo (q1 h1)
inductive jv (t:fG) (ds:List D) (S:av) (R:KD) (Z:KX):Prop where
 |mk (a F cs dl rs k v) (h0:ds=[.ref a,k,v]) (h1:bZ t.ao S a F cs dl rs) (h2:cs.length≤8) (h3:Gt S k) (h4:PF S v) (h5:dl.length≤8000) (h6:rs.length≤8000) (h7:(nU cs k v=false→Z t.gy S)) (h8:(nU cs k v=true→ai (v8 rs k dl.length)=false→Z t.qJ S)) (h9:(∀z ws,k=.str z→v=.tup ws→nU cs k v=true→ai (v8 rs k dl.length)=true→∀S' F',bZ t.ao S' a F' cs (dl++[.tup [.str "put",k,v]]) (sP rs z (dl.length+1) ws)→Bd F F' S S'→R .aw S')):jv t ds S R Z
theorem Ov(T:Txt w K mg t):x6 P w mg base T.eV 6 (jv t):=by
 refine T.eV.F.bU vh ?_
 rintro _ _ _ _ _ _ _ S R Z hr ⟨a,F,cs,dl,rs,k,v,e,hS,hc,hk,hv,hd,hn,q1,q2,q3⟩
 subst e
 obtain⟨ld,lr,ra,h,hF,rR⟩:=id hS
 refine⟨_,(sc (se (aI T.jL (mB T) hr (ac (fl T.aj T.cC (dv 0)) (ac (bD (ac (dv 1) (ac (dv 2) an))) an)))) (sc (si (bh gZ hr.u (Wx (dv 0) T.aj T.cj.e ((ia T).mono (by decide)) hr T.eK d1 (ac (dv 1) an)) dn) (s1 (qy ⟨T.qO⟩ T.Et (ac ds an))) s0) (sc (se (bm zT yd ye dU (fl T.aj T.cw (dv 0)) (ac (bD (ac ds (ac (dv 1) (ac (dv 2) an)))) an))) (s1 (se (sD (dv 0) T.aj T.bL (xr T) hr (ac (dv 1) (ac (dv 2) an)))))))),?_⟩
 refine !⟨a,_,_,rfl,h.ins,rfl,_,rfl,_,rfl,bH,cs,k,v,rfl,hc,hk,hv,fun xt=>?_,fun v7=>fo (q1 v7)⟩
 refine !⟨a,_,rfl,h.ins,rfl,_,rfl,a,F,cs,dl,rs,k,.aw,rfl,hS,hk,vm,fun i hi=>?_,fun hn=>by cases hn⟩
 cases hi
 refine !⟨?_⟩
 refine bK (fun h1=>?_) (fun h1=>?_)
 ·exact⟨mx,fo (q2 xt (nt h1))⟩
 ·obtain⟨z,ws,rfl,rfl,hz⟩:=CH xt
  refine !⟨a,_,_,rfl,h.ins,rfl,⟨rfl,_,h.xq⟩,_,rfl,_,rfl,hX,ld,dl,_,rfl,rfl,h.xq,bg (by lia),?_⟩
  have DX:=h.Bf (.tup [.str "put",.str z,.tup ws])
  have CF:bZ t.ao (S.set ld (.lst (dl++[.tup [.str "put",.str z,.tup ws]]))) a F cs (dl++[.tup [.str "put",.str z,.tup ws]]) rs:=⟨ld,lr,ra,DX,hF,rR⟩
  have hl:=Hc hS z
  refine !⟨a,_,rfl,DX.ins,rfl,_,rfl,_,rfl,a,F,cs,_,rs,z,ws,rfl,CF,by rw[zE];exact Nat.lt_succ_of_le hl,by rw[zE];show dl.length+1≤_;lia,by lia,fun S' F' ow hK=>fo (q3 z ws rfl rfl xt (nf h1) S' F' ?_ ?_)⟩
  ·have:(dl++[D.tup [.str "put",.str z,.tup ws]]).length=dl.length+1:=zE
   rw[this] at ow;exact ow
  ·refine Bd.trans (rh ?_) hK
   rw[hF];exact zh _ zo
inductive fq (t:fG) (ds:List D) (S:av) (R:KD) (Z:KX):Prop where
 |mk (a F cs dl rs k v) (h0:ds=[.ref a,k,v]) (h1:bZ t.ao S a F cs dl rs) (h2:cs.length≤8) (h3:Gt S k) (h4:PF S v) (h5:dl.length≤8000) (h6:rs.length≤8000) (h7:(nU cs k v=false→Z t.gy S)) (h8:(nU cs k v=true→ai (v8 rs k dl.length)=true→Z t.l6 S)) (h9:(∀z ws,k=.str z→v=.tup ws→nU cs k v=true→ai (v8 rs k dl.length)=false→∀S' F',bZ t.ao S' a F' cs (dl++[.tup [.str "change",k,v]]) (sP (nY rs z dl.length) z (dl.length+1) ws)→Bd F F' S S'→R .aw S')):fq t ds S R Z
theorem EF(T:Txt w K mg t):x6 P w mg base T.cD 6 (fq t):=by
 refine T.cD.F.bU px ?_
 rintro _ _ _ _ _ _ _ S R Z hr ⟨a,F,cs,dl,rs,k,v,e,hS,hc,hk,hv,hd,hn,q1,q2,q3⟩
 subst e
 obtain⟨ld,lr,ra,h,hF,rR⟩:=id hS
 refine⟨_,(sc (se (aI T.jL (mB T) hr (ac (fl T.aj T.cC (dv 0)) (ac (bD (ac (dv 1) (ac (dv 2) an))) an)))) (sc (se (sD (dv 0) T.aj T.bW (iC T) hr (ac (dv 1) an))) (sc (se (sD (dv 0) T.aj T.bX (Hd T) hr (ac (dv 1) an))) (sc (se (bm zT yd ye dU (fl T.aj T.cw (dv 0)) (ac (bD (ac ds (ac (dv 1) (ac (dv 2) an)))) an))) (s1 (se (sD (dv 0) T.aj T.bL (xr T) hr (ac (dv 1) (ac (dv 2) an))))))))),?_⟩
 refine !⟨a,_,_,rfl,h.ins,rfl,_,rfl,_,rfl,bH,cs,k,v,rfl,hc,hk,hv,fun xt=>?_,fun v7=>fo (q1 v7)⟩
 refine !⟨a,_,rfl,h.ins,rfl,_,rfl,a,F,cs,dl,rs,k,rfl,hS,hk,fun h1=>?_,fun h1=>fo (q2 xt h1)⟩
 obtain⟨z,ws,rfl,rfl,hz⟩:=CH xt
 have He:∃s,lu rs z=some s∧s≠[]:=by
  rw[pQ hz] at h1
  have:=LW h1
  cases e:lu rs z with
  |none=>rw[e] at this;exact absurd rfl this
  |some s=>rw[e] at this;exact⟨s,rfl,this⟩
 refine !⟨a,_,rfl,h.ins,rfl,_,rfl,a,F,cs,dl,rs,z,rfl,hS,He,by lia,fun S1 CF Sw=>?_⟩
 obtain⟨PH,Xz,XB,DX,Sy,Ow⟩:=id CF
 refine !⟨a,_,_,rfl,DX.ins,rfl,⟨rfl,_,DX.xq⟩,_,rfl,_,rfl,hX,PH,dl,_,rfl,rfl,DX.xq,bg (by lia),?_⟩
 have h2:=DX.Bf (.tup [.str "change",.str z,.tup ws])
 have CI:bZ t.ao (S1.set PH (.lst (dl++[.tup [.str "change",.str z,.tup ws]]))) a F cs (dl++[.tup [.str "change",.str z,.tup ws]]) (nY rs z dl.length):=⟨PH,Xz,XB,h2,Sy,Ow⟩
 have hl:=Hc CF z
 have Co:(nY rs z dl.length).length≤rs.length+1:=J5 _ _ _
 refine !⟨a,_,rfl,h2.ins,rfl,_,rfl,_,rfl,a,F,cs,_,_,z,ws,rfl,CI,by rw[zE];exact Nat.lt_succ_of_le hl,by rw[zE];show dl.length+1≤_;lia,by lia,fun S' F' ow hK=>fo (q3 z ws rfl rfl xt h1 S' F' ?_ ?_)⟩
 ·have:(dl++[D.tup [.str "change",.str z,.tup ws]]).length=dl.length+1:=zE
  rw[this] at ow;exact ow
 ·refine Sw.trans (Bd.trans (rh ?_) hK)
  rw[Sy];exact zh _ zo
inductive ic (t:fG) (ds:List D) (S:av) (R:KD) (Z:KX):Prop where
 |mk (a F cs dl rs k) (h0:ds=[.ref a,k]) (h1:bZ t.ao S a F cs dl rs) (h2:Gt S k) (h3:dl.length≤8000) (h4:(ofStr jY k=false→Z t.gy S)) (h5:(ofStr jY k=true→ai (v8 rs k dl.length)=true→Z t.l6 S)) (h6:(∀z,k=.str z→jY z=true→ai (v8 rs k dl.length)=false→∀S',bZ t.ao S' a F cs (dl++[.tup [.str "take",k]]) (nY rs z dl.length)→Bd F F S S'→R .aw S')):ic t ds S R Z
theorem J6(T:Txt w K mg t):x6 P w mg base T.dN 6 (ic t):=by
 refine T.dN.F.bU sN ?_
 rintro _ _ _ _ _ _ _ S R Z hr ⟨a,F,cs,dl,rs,k,e,hS,hk,hd,q1,q2,q3⟩
 subst e
 obtain⟨ld,lr,ra,h,hF,rR⟩:=id hS
 refine⟨_,(sc (si (cq (tv (aI T.kZ (gI T) hr (ac (dv 1) an)))) (s1 (qy ⟨T.gC⟩ T.jK (ac ds an))) s0) (sc (se (sD (dv 0) T.aj T.bW (iC T) hr (ac (dv 1) an))) (sc (se (sD (dv 0) T.aj T.bX (Hd T) hr (ac (dv 1) an))) (s1 (se (bm zT yd ye dU (fl T.aj T.cw (dv 0)) (ac (bD (ac ds (ac (dv 1) an))) an))))))),?_⟩
 refine !⟨k,rfl,hk,_,rfl,?_⟩
 refine bK (fun h0=>?_) (fun h0=>?_)
 ·exact⟨mx,fo (q1 (nt h0))⟩
 ·have h0:=nf h0
  refine !⟨a,_,rfl,h.ins,rfl,_,rfl,a,F,cs,dl,rs,k,rfl,hS,hk,fun h1=>?_,fun h1=>fo (q2 h0 h1)⟩
  obtain⟨z,rfl,hz⟩:=CG h0
  have He:∃s,lu rs z=some s∧s≠[]:=by
   rw[pQ hz] at h1
   have:=LW h1
   cases e:lu rs z with
   |none=>rw[e] at this;exact absurd rfl this
   |some s=>rw[e] at this;exact⟨s,rfl,this⟩
  refine !⟨a,_,rfl,h.ins,rfl,_,rfl,a,F,cs,dl,rs,z,rfl,hS,He,by lia,fun S1 CF Sw=>?_⟩
  obtain⟨PH,Xz,XB,DX,Sy,Ow⟩:=id CF
  refine !⟨a,_,_,rfl,DX.ins,rfl,⟨rfl,_,DX.xq⟩,_,rfl,bH,PH,dl,_,rfl,rfl,DX.xq,bg (by lia),?_⟩
  refine fo (q3 z rfl hz h1 _ ⟨PH,Xz,XB,DX.Bf _,Sy,Ow⟩ (Sw.trans (rh ?_)))
  rw[Sy];exact zh _ zo
inductive gM (t:fG) (ds:List D) (S:av) (R:KD) (Z:KX):Prop where
 |mk (a cs) (h0:ds=[.ref a,.tup (cs.map az)]) (h1:Gd cs) (h2:S a=some (.ins t.ao [])) (h3:∀S' F,bZ t.ao S' a F cs [] []→Bd [a] F S S'→R .aw S'):gM t ds S R Z
theorem J_(T:Txt w K mg t):x6 P w mg base T.fg 5 (gM t):=by
 refine T.fg.F.bU mw ?_
 rintro _ _ _ _ _ _ _ S R Z hr ⟨a,cs,e,hg,ha,q⟩
 subst e
 refine⟨_,(sc (se (aI T.gf (nW T) hr (ac (dv 1) an))) (sc (sf T.aj T.cC (dv 0) (dv 1)) (sc (sf T.aj T.cw (dv 0) (dS an)) (s1 (sf T.aj T.bO (dv 0) Q6))))),?_⟩
 refine !⟨cs,rfl,hg,_,rfl,_,rfl,a,[],rfl,ha,(show 0<1000 by decide),?_⟩
 refine⟨A8,fun ld PJ=>!⟨a,[("columns",.tup (cs.map az))],rfl,?_,(show 1<1000 by decide),fun lr Co=>!⟨a,[("columns",.tup (cs.map az)),("deeds",.ref ld)],rfl,?_,(show 2<1000 by decide),?_⟩⟩⟩
 ·have nl:a≠ld:=by rintro rfl;rw[aa] at PJ;cases PJ
  rw[ag nl,aa];rfl
 ·have nl:a≠lr:=by rintro rfl;rw[aa] at Co;cases Co
  rw[ag nl,aa];rfl
 have n1:a≠ld:=by rintro rfl;rw[aa] at PJ;cases PJ
 have n2:a≠lr:=by rintro rfl;rw[aa] at Co;cases Co
 have n3:ld≠lr:=by rintro rfl;rw[ag n1.symm,aa] at Co;cases Co
 rw[ag n1.symm] at PJ
 rw[ag n2.symm,ag n3.symm,ag n2.symm] at Co
 refine fo (q _ (fp a ld lr []) ⟨ld,lr,[],⟨aa,?_,?_,fun r hr=>(nomatch hr),List.nodup_nil,(by simp),fun r hr=>(nomatch hr)⟩,rfl,rfl⟩ fun b c hb e=>?_)
 ·rw[ag n1.symm,ag n3,ag n1.symm,aa]
 ·rw[ag n2.symm,aa];rfl
 ·have b1:b≠a:=fun z=>hb (by rw[z];exact zo)
  have b2:b≠ld:=gW e PJ
  have b3:b≠lr:=gW e Co
  refine⟨fun m=>?_,by rw[ag b1,ag b3,ag b1,ag b2,ag b1];exact e⟩
  unfold fp at m
  simp only [List.map_nil,zi,zK,or_false] at m
  rcases m with m|m|m
  ·exact b1 m
  ·exact b2 m
  ·exact b3 m
def vn(rs:pP)(i:Int)(z:Str):D:=.tup [.str z,wt ((lu rs z).getD []) i]
def lh(rs:pP)(i:Int)(ss:List Str):List D:=(ss.filter fun z=>!ai (wt ((lu rs z).getD []) i)).map (vn rs i)
def vo:D→Bool
 |.tup [_,x]=>!ai x
 |_=>false
theorem xu(ss:List Str):((ss.map (vn rs i)).filter vo).map id=lh rs i ss:=by
 unfold lh
 rw[List.map_id,List.filter_map]
 rfl
def LX(C N:Addr):iL:=fun ds S R Z=>∃a F cs dl rs m,ds=[.ref a,m]∧bZ C S a F cs dl rs∧rs.length<64∧Gt S m ∧
 (∀i ss,nX dl.length m=some i→ss.Perm (rs.map (·.1))→PyProof.Rows.sortedS ss=true→∀p,S p=none→R (.ref p) (S.set p (.lst (lh rs i ss))))∧(nX dl.length m=none→Z N S)
theorem t9(T:Txt w K mg t):x6 P w mg base T.bV 3 (LX t.ao t.dH):=by
 refine T.bV.F.bU eG ?_
 rintro _ _ _ _ _ _ _ S R Z hr ⟨a,F,cs,dl,rs,m,e,hS,hn,hm,q1,q2⟩
 subst e
 obtain⟨ld,lr,ra,h,hF,rR⟩:=id hS
 have ek:(dr ra).map (·.1)=(rs.map (·.1)).map Sum.inr:=by
  rw[rR];unfold dr gJ;rw[zw,zw,zw];rfl
 have el:(dr ra).length<64:=by rw[rR] at hn;unfold gJ at hn;unfold dr;rw[zb] at hn ⊢;exact hn
 refine⟨_,(sc (cn (i:=2) eG.nd (sD (dv 0) T.aj T.bY (iB T) hr (ac (dv 1) an))) (sc (Pq (i:=3) (N:=["key","then","self"]) (src:=[none,some 2,some 0]) eG.nd (kM (ae (inClass bt 10)) ["self","moment","then","rows"] rfl rfl (by trivial)) (il (cb wN T.gB eT (ac (fl T.aj T.bO (dv 0)) an))) (qz (show (["key","then","self"]:List Str).Nodup by trivial)) (ba rfl) bb (fun _ _ _ _ _=>rQ) (fun _ _ _ _ _=>(bD (ac (dv 0) (ac (aI T.fQ (jt T) hr (ac (ix hr.u (fl T.aj T.bO (dv 2)) (dv 0)) (ac (dv 1) an))) an))))) (s1 (sr (sA (N:=["row"]) (src:=[none]) (kM (ae (inClass bt 10)) ["self","moment","then","rows"] rfl rfl (by trivial)) (il (dv 3)) (qz (show (["row"]:List Str).Nodup by trivial)) (ba rfl) bb (fun _ _ _ _ _=>(if1 (bh gZ hr.u (ix hr.u (dv 0) di) dn))) (fun _ _ _ _ _=>(dv 0))))))),?_⟩
 refine !⟨a,_,rfl,h.ins,rfl,_,rfl,a,F,cs,dl,rs,m,rfl,hS,hm,fun i hi=>?_,fun hn=>fo (q2 hn)⟩
 refine !⟨a,_,_,rfl,h.ins,rfl,lr,dr ra,rs.map (·.1),rfl,h.run,ek,el,fun ss hp hs p jO=>?_⟩
 have hlen:ss.length<64:=by rw[hp.length_eq,zb];exact hn
 refine⟨_,aa,?_⟩
 refine comp_map (fun d=>match d with|.str z=>vn rs i z|_=>.aw) aa (by show (ss.map D.str).length≤1000;rw[zb];omega) (fun d hd Q hQ=>?_) fun p2 gO=>?_
 ·obtain⟨z,hz,rfl⟩:=zg.mp hd
  have V6:z∈rs.map (·.1):=hp.mem_iff.mp hz
  obtain⟨r,lL,e⟩:=zg.mp V6
  rw[rR] at lL
  unfold gJ at lL
  obtain⟨r0,v7,rfl⟩:=zg.mp lL
  have e1:rS ra z=some r0.2:=by
   cases e3:rS ra z with
   |none=>exact absurd e (mC e3 _ v7)
   |some x=>exact congrArg some (congrArg Prod.snd (eR (f:=fun r:Str×Addr×List Std=>r.1) h.kn (cO (l:=x.1) (s:=x.2) e3) v7 e.symm))
  have ed:bT (dr ra) (.inr z)=some (.ref r0.2.1):=by rw[gL,e1];rfl
  have hc:=h.cell _ v7
  have eq:(lu rs z).getD []=r0.2.2:=by rw[rR,gp,e1];rfl
  have hQ:Q (.tup [.str z,wt ((lu rs z).getD []) i]) (S.set p (.lst (ss.map D.str))):=hQ
  rw[eq] at hQ
  have hi1:(S.set p (.lst (ss.map D.str))) a=_:=(ag (gW h.ins jO)).trans h.ins
  have xt:(S.set p (.lst (ss.map D.str))) lr=_:=(ag (gW h.run jO)).trans h.run
  have Uy:(S.set p (.lst (ss.map D.str))) r0.2.1=_:=(ag (gW hc jO)).trans hc
  exact !!⟨a,_,_,rfl,hi1,rfl,_,rfl,dr ra,_,xt,ed,_,rfl,_,_,i,rfl,Uy,bH,hQ⟩
 ·have em:(ss.map D.str).map (fun d=>match d with|.str z=>vn rs i z|_=>.aw)=ss.map (vn rs i):=by rw[zw];rfl
  refine !⟨ss.map (vn rs i),by show ((S.set p _).set p2 (.lst ((ss.map D.str).map _))) p2=_;rw[aa,em],?_⟩
  refine gH vo id (by show ((S.set p _).set p2 (.lst ((ss.map D.str).map _))) p2=_;rw[aa,em]) (by show (ss.map (vn rs i)).length≤1000;rw[zb];omega) (fun d hd Q Q' hQ Kb=>?_) fun p3 Hf=>?_
  ·obtain⟨z,hz,rfl⟩:=zg.mp hd
   refine !!!⟨?_⟩
   exact bK (fun h=>!⟨hQ h⟩) fun h=>Kb h
  ·have XD:S p3=none:=by
    cases e:S p3 with
    |none=>rfl
    |some c=>exact absurd Hf (by
      rw[ag (gW e (by
       have:(S.set p (.lst (ss.map D.str))) p2=none:=gO
       cases e':S p2 with
       |none=>rfl
       |some c'=>rw[ag (gW e' jO),e'] at this;cases this)),ag (gW e jO),e];exact nofun)
   refine⟨S.set p3 (.lst (lh rs i ss)),fun b c hb=>?_,q1 i ss hi hp hs p3 XD⟩
   show ((((S.set p (.lst (ss.map D.str))).set p2 _).set p3 (.lst (((ss.map (vn rs i)).filter vo).map id)))) b=some c
   rw[xu]
   by_cases XE:b=p3
   ·subst XE;rw[aa] at hb ⊢;exact hb
   ·rw[ag XE] at hb
    have XF:S p2=none:=by
     cases e':S p2 with
     |none=>rfl
     |some c'=>have:(S.set p (.lst (ss.map D.str))) p2=none:=gO;rw[ag (gW e' jO),e'] at this;cases this
    rw[ag XE,ag (gW hb XF),ag (gW hb jO)];exact hb
theorem Kc{P:Program}{w:World}{K:Frag}{mg:Str→Option Value}{base:Heap}{k:Nat}{f:Addr}{fd:FuncData}{ps:List Str}{pre:List D→Prop}
  (F:Y5 P w K mg base k f fd ps (fun ds S R _=>pre ds∧∀l x y z,S l=none→R (.ref l) (S.set l (.lst [.int x,.int y,.int z])))):Y5 P w K mg base k f fd ps (fun ds S R _=>pre ds∧∀l,S l=none→R (.ref l) (S.set l .well)):=by
 refine F.imp fun vs H Q E ⟨ds,S,R,Z,v,hS,⟨hp,h⟩,hR,hZ⟩=>⟨ds,S,fun d S2=>∃l x y z,S l=none∧d=.ref l∧S2=S.set l (.lst [.int x,.int y,.int z]),fun _ _=>False,v,hS,⟨hp,fun l x y z hl=>⟨l,x,y,z,hl,rfl,rfl⟩⟩,fun d S2 u H' ⟨l,x,y,z,hl,e1,e2⟩ rv hs kp=>?_,fun _ _ _ q=>q.elim⟩
 subst e1 e2
 refine hR _ _ u H' (h l hl) rv ?_ kp
 refine tP (x:=x) (y:=y) (z:=z) aa ?_
 rw[dG];exact hs
def XG(ds:List D)(l:Addr):Prop:=∃m:Int,ds=[.ref l,.int m]∧0<m∧m.natAbs.log2<9000
def Sz(ds:List D)(d:D):Prop:=∃(l:Addr) (m n:Int),ds=[.ref l,.int m]∧d=.int n∧0≤n∧n<m
inductive oI (ds:List D) (S:av) (R:KD) (Z:KX):Prop where
 |mk (ns:List Int) (k:Nat) (h0:ds=[.iP (ns.map D.int),.int k]) (h1:∀c:Int,R (.int c) S):oI ds S R Z
theorem ie(T:Txt w K mg t):Ok P w base T.eU 1 oI:=by
 refine T.eU.F.bU vg ?_
 rintro _ _ _ _ _ _ _ S R Z hr ⟨ns,k,e,q⟩
 subst e
 refine⟨_,(sc (si (bh sy hr.u (dv 1) (cb aT T.aO aE (ac (dv 0) an))) (s1 (sr (ix hr.u (dv 0) (dv 1)))) s0) (s1 (sr di))),?_⟩
 refine !!!!⟨?_⟩
 refine bK (fun h=>?_) (fun h=>?_)
 ·have h:(k:Int)<(((ns.map D.int).length:Nat):Int):=zA h
  have hk:k<ns.length:=by rw[zb] at h;lia
  exact !!⟨.int ns[k],df (by rw[zp];simp [hk]),fo (q _)⟩
 ·exact fo (q 0)
theorem pR(T:Txt w K mg t):Ok P w base T.nO 1 (fun ds S R _=>(∃c:Int,ds=[.int c])∧∀l,S l=none→R (.ref l) (S.set l .well)):=by
 refine Kc ?_
 refine T.nO.F.ok Ey (by rintro ds S R Z ⟨⟨_,e⟩,_⟩;rw[e];rfl) ?_
 rintro _ _ _ _ _ _ _ S R Z hr ⟨⟨c,e⟩,q⟩
 subst e
 refine⟨_,(s1 (sr (dS (ac (bo iZ hr.u (dv 0) (ct Cc T.xh qm (ac (cm Wk hr.u (dv 0) (bo Ca hr.u di di)) an))) (ac (bo ke hr.u (dv 0) di) (ac di an)))))),?_⟩
 refine !!⟨⟨by decide,by decide,by decide⟩,.inr !⟨?_⟩⟩
 refine⟨.inr ⟨by split <;> decide,by split <;> decide⟩,_,rfl,by decide,hX,fun l hl=>fo (q l _ _ _ hl)⟩
theorem Ke(T:Txt w K mg t):Ok P w base T.aR 1 (Gx XG Sz):=by
 refine Ea ?_
 refine T.aR.F.ok dQ (by rintro ds S R Z ⟨_,_,_,_,⟨_,e,_⟩,_⟩;rw[e];rfl) ?_
 rintro _ _ _ _ _ _ _ S R Z hr ⟨l,x,y,z,⟨m,e,hm,Uz⟩,hl,q⟩
 subst e
 refine⟨_,(sc (si (bh nr hr.u (ix hr.u (dv 0) di) di) (sc (cn (i:=2) dQ.nd (bo ke hr.u (ix hr.u (dv 0) di) (dv 1))) (sc (YO (dv 0) di (bo uF hr.u (ix hr.u (dv 0) di) (dv 1))) (s1 (sr (dv 2))))) s0) (sc (cn (i:=2) dQ.nd di) (sc (wO (Gs (Pp T.jJ (ac (bo bc hr.u di (bo iZ hr.u di (ct Cc T.xh qm (ac (cm nr hr.u (dv 1) (bo Ca hr.u di di)) an)))) an)) (gn (i:=3) dQ.nd) (sc (YO (dv 0) di (bo bc hr.u (ix hr.u (dv 0) di) di)) (sc (cn (i:=4) dQ.nd (bo ke hr.u (bo iZ hr.u (bo bc hr.u (bo bc hr.u (ix hr.u (dv 0) di) (bo iZ hr.u di (ix hr.u (dv 0) di))) di) di) di)) (sc (cn (i:=4) dQ.nd (bo ke hr.u (bo iZ hr.u (dv 4) (bo bc hr.u (bo uF hr.u (dv 4) di) di)) di)) (s1 (cn (i:=2) dQ.nd (bo bc hr.u (bo iZ hr.u (dv 2) di) (bo ke hr.u (bo iZ hr.u (dv 4) (bo bc hr.u (bo uF hr.u (dv 4) di) di)) di))))))))) (s1 (sr (bo ke hr.u (dv 2) (dv 1))))))),?_⟩
 refine !⟨_,_,hl,rfl,_,rfl,?_⟩
 refine bK (fun h=>?_) (fun h=>?_)
 ·refine !⟨_,_,hl,rfl,_,rfl,hm,?_⟩
  refine !⟨_,_,hl,rfl,_,rfl,⟨hm,Uz⟩,_,rfl,l,_,0,0,rfl,rfl,hl,rfl,?_⟩
  exact !⟨fo (q _ _ _ _ ⟨l,m,_,rfl,rfl,Int.emod_nonneg _ (by lia),Int.emod_lt_of_pos _ hm⟩)⟩
 ·refine⟨fun aG S'=>∃(f:Int) (o1 o2:Option D) (x y z:Int),aG=[some (.ref l),some (.int m),some (.int f),o1,o2]∧S'=S.set l (.lst [.int x,.int y,.int z]),?_,?_⟩
  ·refine !⟨⟨by decide,by decide,by decide⟩,.inr !⟨.inl ⟨by decide,by decide⟩,_,rfl,?_,?_,?_⟩⟩
   ·split <;> decide
   ·split <;> decide
   refine⟨fun i aG S'=>∃(f:Int) (o1 o2:Option D) (x y z:Int),aG=[some (.ref l),some (.int m),some (.int f),o1,o2]∧S'=S.set l (.lst [.int x,.int y,.int z]),⟨0,none,none,x,y,z,rfl,?_⟩,fun _ _ _ _=>trivial,?_,fun aG S' h=>fo h⟩
   ·funext b;unfold av.set;split
    ·rename_i h;rw[h];exact hl
    ·rfl
   rintro i d aG S' hd ⟨f,o1,o2,x,y,z,rfl,rfl⟩
   have Kf:(S.set l (.lst [.int x,.int y,.int z])) l=some (.lst [.int x,.int y,.int z]):=aa
   refine !⟨_,_,Kf,rfl,_,rfl,l,_,2,2,rfl,rfl,Kf,rfl,?_⟩
   rw[dG,show ([D.int x,D.int y,D.int z].set 2 (D.int (z+1)))=[D.int x,D.int y,D.int (z+1)] from rfl]
   have vY:(S.set l (.lst [.int x,.int y,.int (z+1)])) l=some (.lst [.int x,.int y,.int (z+1)]):=aa
   refine !⟨_,_,vY,rfl,_,rfl,_,_,vY,rfl,.inl ⟨by decide,by decide⟩,.inr ⟨by decide,by decide⟩,(show (0:Int)<2147483647 by decide),?_⟩
   have nb:∀z:Int,0≤z % 2147483647∧z % 2147483647<2147483647:=fun z=>⟨Int.emod_nonneg z (by decide),Int.emod_lt_of_pos z (by decide)⟩
   have n1:=nb ((y+7919 * (z+1)+1) * 48271)
   generalize (y+7919 * (z+1)+1) * 48271 % 2147483647=u at *
   refine !!⟨⟨by decide,by trivial⟩,.inl ⟨by lia,by lia⟩,(show (0:Int)<2147483647 by decide),?_⟩
   have n2:=nb (u * (u / 1009+69621))
   generalize u * (u / 1009+69621) % 2147483647=v at *
   exact !⟨.inr ⟨by decide,by decide⟩,_,rfl,_,rfl,⟨by decide,by trivial⟩,.inl ⟨by lia,by lia⟩,(show (0:Int)<2147483399 by decide),_,_,_,_,_,_,rfl,rfl⟩
  ·rintro aG S' ⟨f,o1,o2,x,y,z,rfl,rfl⟩
   exact !!⟨hm,fo (q _ _ _ _ ⟨l,m,_,rfl,rfl,Int.emod_nonneg _ (by lia),Int.emod_lt_of_pos _ hm⟩)⟩
inductive Hg (ds:List D) (S:av) (R:KD) (Z:KX):Prop where
 |mk (l:Addr) (m:Int) (h0:ds=[.ref l,.int m]) (h1:0<m) (h2:m.natAbs.log2<9000) (h3:S l=some .well) (h4:∀n:Int,0≤n→n<m→R (.int n) S):Hg ds S R Z
theorem bI{P:Program}{w:World}{K:Frag}{mg:Str→Option Value}{base:Heap}{t:fG}(T:Txt w K mg t):Ok P w base T.aR 1 Hg :=
 (Ke T).Gu <| by rintro ds S R Z ⟨l,m,e,h0,h1,hw,q⟩;exact⟨l,⟨m,e,h0,h1⟩,hw,by rintro d ⟨l',m',n,e1,e2,a,b⟩;exact by rw[e] at e1;cases e1;subst e2;exact q n a b⟩
theorem wl{S:av}{l p:Addr}{c:Ce}(hw:S l=some .well)(hp:S p=none):(S.set p c) l=some .well:=(ag (gW hw hp)).trans hw
theorem cF{L:List D}{S:av}{p:Addr}{n:Int}{R:KD}(h0:0≤n)(h1:n<(L.length:Int))(hp:S p=none)(q:∀d,d∈L→R d S):Wm p n (S.set p (.lst L)) fun d S'=>Fo S' (R d):=by
 obtain⟨v,e1,e2⟩:=B5 (l:=L) h0 h1
 exact⟨L,v,aa,e1,S,.new hp,q v (zC e2)⟩
theorem rj{m:Int}(h0:0<m)(h1:m≤8000):m.natAbs.log2<9000:=by
 have h2:m.natAbs≤8000:=by omega
 have h3:m.natAbs.log2≤m.natAbs:=Nat.log2_le_self _
 omega
abbrev KT:List Str:=["a","ab","b","abc","a1","key","z","ba","b2","abcdefghijkl"]
abbrev XH:List Str:=["k0","k1","k2","k3","k4","k5","k6","k7","k8","k9","k10","k11","k12","k13","k14","k15","k16","k17","k18","k19","k20","k21","k22","k23","k24","k25","k26","k27","k28","k29"]
abbrev KS:List Str:=KT++XH
theorem xw(h:z∈KT):z∈KS:=ya _ h
theorem gq:∀z∈KS,jY z=true∧z.cps.size≤12∧PyData.strOk z=true:=by trivial
abbrev CJ:List Str:=["key","up","a","at","ab","mark","every","now"]
theorem Hh:∀z∈CJ,kr z=true∧PyData.strOk z=true:=by trivial
def bx:D→Bool
 |.aw=>true
 |.int _=>true
 |.str z=>decide (z.cps.size≤40) && PyData.strOk z
 |_=>false
def Vg(kind:Str)(d:D):Prop:=jo kind d=true∧bx d=true
abbrev Y_:List Str:=["","a","ab","b","A b","#"]
abbrev Za:List Str:=["","a","\""]
theorem Hi:∀a∈("~~~~~~~~~~~~~~~~~~~~~~~~~~~~~~~~~~~~~~~" : Str)::Y_,∀b∈Za,tZ (a++b)=true∧(a++b).cps.size≤40∧PyData.strOk (a++b)=true∧a.length+b.length≤1000:=by trivial
theorem Ox:PySem.Txt.mul "~" 39 = "~~~~~~~~~~~~~~~~~~~~~~~~~~~~~~~~~~~~~~~" := by trivial
theorem Oy:MulOk "~" 39:=⟨by decide,by decide,by trivial⟩
def SE(pre:List D→Prop)(post:List D→D→Prop):iL:=fun ds S R _=>∃l r,ds=.ref l::r∧pre r∧S l=some .well∧∀d,post r d→R d S
theorem Bh(T:Txt w K mg t):Ok P w base T.xj 2 (SE (·=[]) fun _ d=>∃z∈KT,d=.str z):=by
 refine T.xj.F.ok G7 (by rintro ds S R Z ⟨_,_,e,e2,_⟩;rw[e,e2];rfl) ?_
 rintro _ _ _ _ _ _ _ S R Z hr ⟨l,r,e,e2,hw,q⟩
 subst e e2
 refine⟨_,(s1 (sr (Eb (ix hr.u (dS (ac ds (ac ds (ac ds (ac ds (ac ds (ac ds (ac ds (ac ds (ac ds (ac ds an))))))))))) (aI T.aR (bI T) hr (ac (dv 0) (ac di an))))))),?_⟩
 refine⟨Sq,fun p hp=>!⟨l,_,rfl,(by decide),(by decide),wl hw hp,fun n h0 h1=>cF h0 h1 hp fun d hd=>?_⟩⟩
 have hd:d∈KT.map D.str:=hd
 obtain⟨z,hz,rfl⟩:=zg.mp hd
 exact fo (q _ ⟨z,hz,rfl⟩)
theorem rl(T:Txt w K mg t):Ok P w base T.mm 2 (SE (fun r=>r=[.str "number"]∨r=[.str "word"]) fun r d=>∃k,r=[.str k]∧Vg k d):=by
 refine T.mm.F.ok qX (fun ds S R Z ⟨_,_,e,e2,_⟩=>by rw[e];rcases e2 with e2|e2 <;> rw[e2] <;> rfl) (fun fK A outer s H E ds S R Z hr ⟨l,r,e,e2,hw,q⟩=>?_)
 subst e
 obtain⟨k,rfl,hk⟩:∃k,r=[.str k]∧(k = "number" ∨ k = "word"):=by
  rcases e2 with e|e
  ·exact⟨_,e,.inl rfl⟩
  ·exact⟨_,e,.inr rfl⟩
 have q:∀d,Vg k d→R d S:=fun d hd=>q d ⟨k,rfl,hd⟩
 have hint:k = "number" → ∀i:Int,R (.int i) S:=fun e i=>q _ ⟨by rw[e];rfl,rfl⟩
 refine⟨_,(sc (si (bh br hr.u (aI T.aR (bI T) hr (ac (dv 0) (ac di an))) di) (s1 (sr dn)) s0) (sc (si (twd (twand (bh br hr.u (dv 1) ds) (tw1 (bh br hr.u (aI T.aR (bI T) hr (ac (dv 0) (ac di an))) di)))) (s1 (sr (bo lV hr.u (aI T.aR (bI T) hr (ac (dv 0) (ac (bo iZ hr.u di (bo Ca hr.u di di)) an))) (bo Ca hr.u di di)))) s0) (sc (si (bh br hr.u (dv 1) ds) (s1 (sr (bo lV hr.u (aI T.aR (bI T) hr (ac (dv 0) (ac di an))) di))) s0) (sc (cn (i:=2) qX.nd (Eb (ix hr.u (dS (ac ds (ac ds (ac ds (ac ds (ac ds (ac ds (ac (bo iZ hr.u ds di) an)))))))) (aI T.aR (bI T) hr (ac (dv 0) (ac di an)))))) (s1 (sr (bo bc hr.u (dv 2) (Eb (ix hr.u (dS (ac ds (ac ds (ac ds (ac ds an))))) (aI T.aR (bI T) hr (ac (dv 0) (ac di an)))))))))))),?_⟩
 refine !⟨l,_,rfl,(by decide),(by decide),hw,fun n h0 h1=>!⟨?_⟩⟩
 refine bK (fun h=>?_) (fun h=>?_)
 ·exact fo (q .aw ⟨rfl,rfl⟩)
 refine !!⟨?_⟩
 refine bK (fun h2=>?_) (fun h2=>?_)
 ·have ek:k = "number" := zA h2
  refine !⟨l,_,rfl,(by decide),(by decide),hw,fun n1 Zb SF=>!⟨?_⟩⟩
  refine bK (fun h3=>?_) (fun h3=>?_)
  ·refine !⟨⟨by decide,by decide,by decide⟩,.inl ⟨by decide,by decide⟩,l,_,rfl,(by trivial),(by trivial),hw,fun n2 XI XJ=>⟨⟨by decide,by decide,by decide⟩,fo (hint ek _)⟩⟩
  ·refine !!⟨?_⟩
   show if decide (k = "number")=true then _ else _
   rw[zq ek]
   exact cI !⟨l,_,rfl,(by decide),(by decide),hw,fun n2 XI XJ=>fo (hint ek _)⟩
 ·have ek:¬ k = "number" := zO h2
  have ek':k = "word" := hk.resolve_left ek
  refine !!⟨?_⟩
  show if decide (k = "number")=true then _ else _
  rw[zk ek]
  refine bf ?_
  refine⟨Oy,Xs,fun p hp=>!⟨l,_,rfl,(by decide),(by decide),wl hw hp,fun n1 Zb SF=>cF Zb SF hp fun d hd=>?_⟩⟩
  rw[Ox] at hd
  have hd:d∈[D.str "",.str "a",.str "ab",.str "b",.str "A b",.str "#",.str "~~~~~~~~~~~~~~~~~~~~~~~~~~~~~~~~~~~~~~~"]:=hd
  obtain⟨a,ha,rfl⟩:∃a∈("~~~~~~~~~~~~~~~~~~~~~~~~~~~~~~~~~~~~~~~" : Str)::Y_,d=.str a:=by
   simp only [zi,zK,or_false] at hd
   rcases hd with h|h|h|h|h|h|h <;> exact⟨_,by simp,h⟩
  refine !⟨pz,fun p2 gO=>!⟨l,_,rfl,(by decide),(by decide),wl hw gO,fun n2 XI XJ=>cF XI XJ gO fun d hd=>?_⟩⟩
  have hd:d∈[D.str "",.str "",.str "a",.str "\""]:=hd
  obtain⟨b,hb,rfl⟩:∃b∈Za,d=.str b:=by
   simp only [zi,zK,or_false] at hd
   rcases hd with h|h|h|h <;> exact⟨_,by simp,h⟩
  obtain⟨w1,w2,w3,w4⟩:=Hi a ha b hb
  refine⟨sm w4,fo (q _ ⟨?_,?_⟩)⟩
  ·rw[ek'];show (false || if ("word" : Str) = "number" then _ else tZ (a++b))=true
   rw[if_neg (by decide),w1];rfl
  ·show (decide ((a++b).cps.size≤40) && PyData.strOk (a++b))=true
   rw[zq w2,w3];rfl
def Wg(cs:List (Str×Str))(ws:List D):Prop:=Paired (fun (c:Str×Str) v=>Vg c.2 v) cs ws
theorem rm{rel:(Str×Str)→D→Prop} : ∀{cs:List (Str×Str)}{out:List D},Paired (fun d v=>∃c,d=az c∧rel c v) (cs.map az) out→Paired (fun c v=>rel c v) cs out
 |[],_,.nil=>.nil
 |c::cs,_,.cons ⟨c',e,r⟩ t=>by
  have:c=c':=by
   unfold az at e
   injection e with e
   injection e with e1 e2
   injection e1 with e1
   injection e2 with e2 _
   injection e2 with e2
   exact Prod.ext e1 e2
  subst this
  exact .cons r (rm t)
def xx(tr j:Nat):Str:=CJ.getD ((j+tr) % 8) ""
theorem Hj:∀tr<8,∀i<9,((List.range i).map (xx tr)).Nodup:=by trivial
theorem Oz(tr j:Nat):xx tr j∈CJ:=by
 have:(j+tr) % 8<8:=Nat.mod_lt _ (by decide)
 unfold xx
 rw[zD,zf (show (j+tr) % 8<CJ.length from this)]
 exact List.getElem_mem _
inductive rn (ds:List D) (S:av) (R:KD) (Z:KX):Prop where
 |mk (l cs) (h0:ds=[.ref l,.tup (cs.map az)]) (h1:Gd cs) (h2:S l=some .well) (h3:∀ws,Wg cs ws→R (.tup ws) S):rn ds S R Z
theorem jP(T:Txt w K mg t):Ok P w base T.gE 3 rn:=by
 refine T.gE.F.bU xp ?_
 rintro _ _ _ _ _ _ _ S R Z hr ⟨l,cs,e,hg,hw,q⟩
 subst e
 refine⟨_,(s1 (sr (ct eO T.bj aV (ac (sA (N:=["_law_column","_law_well_here"]) (src:=[none,some 0]) (kM (ae AO) ["_law_well_here","_law_columns_here"] rfl rfl (by trivial)) (Fc (dv 1)) (qz (show (["_law_column","_law_well_here"]:List Str).Nodup by trivial)) (ba rfl) bb (fun _ _ _ _ _=>rQ) (fun _ _ _ _ _=>(aI T.mm (rl T) hr (ac (dv 1) (ac (ix hr.u (dv 0) di) an))))) an)))),?_⟩
 refine !⟨_,.inl rfl,?_⟩
 refine fm (fun d v=>∃c:Str×Str,d=az c∧Vg c.2 v) trivial (by show (cs.map az).length≤1000;rw[zb];have:=hg.1;lia) (fun d hd Q hQ=>?_) fun out hp p jO=>?_
 ·obtain⟨c,hc,rfl⟩:=zg.mp hd
  refine !!⟨.str c.2,rfl,l,_,rfl,?_,hw,fun v ⟨k,e,hv⟩=>hQ v ⟨c,rfl,?_⟩⟩
  ·rcases (hg.2.2 c hc).2 with e|e <;> rw[e]
   ·exact .inl rfl
   ·exact .inr rfl
  ·cases e;exact hv
 ·exact⟨_,out,rfl,.inl aa,S,.new jO,q out (rm hp)⟩
inductive oJ (ds:List D) (S:av) (R:KD) (Z:KX):Prop where
 |mk (l) (h0:ds=[.ref l]) (h1:S l=some .well) (h2:∀cs,Gd cs→(∀c∈cs,c.1∈CJ)→R (.tup (cs.map az)) S):oJ ds S R Z
theorem Bi(T:Txt w K mg t):Ok P w base T.nQ 2 oJ:=by
 refine T.nQ.F.bU dq ?_
 rintro _ _ _ _ _ _ _ S R Z hr ⟨l,e,hw,q⟩
 subst e
 refine⟨_,(sc (cn (i:=1) dq.nd (dS (ac ds (ac ds (ac ds (ac ds (ac ds (ac ds (ac ds (ac ds an)))))))))) (sc (cn (i:=2) dq.nd (aI T.aR (bI T) hr (ac (dv 0) (ac di an)))) (sc (cn (i:=3) dq.nd (dS an)) (sc (wO (Gs (Pp T.jJ (ac (Eb (ix hr.u (dS (ac di (ac di (ac di (ac (aI T.aR (bI T) hr (ac (dv 0) (ac di an))) an))))) (aI T.aR (bI T) hr (ac (dv 0) (ac di an))))) an)) (gn (i:=4) dq.nd) (s1 (se (bm zT yd ye dU (dv 3) (ac (bD (ac (ix hr.u (dv 1) (bo ke hr.u (bo bc hr.u (dv 4) (dv 2)) di)) (ac (Eb (ix hr.u (dS (ac ds (ac ds an))) (aI T.aR (bI T) hr (ac (dv 0) (ac di an))))) an))) an)))))) (s1 (sr (ct eO T.bj aV (ac (dv 3) an)))))))),?_⟩
 refine⟨Xt,fun ln Pr=>!⟨l,_,rfl,(by decide),(by decide),wl hw Pr,fun tr ht0 ht1=>⟨A8,fun lf LY=>?_⟩⟩⟩
 obtain⟨tn,rfl⟩:∃n:Nat,tr=(n:Int):=⟨tr.toNat,by lia⟩
 have htn:tn<8:=by lia
 have Zc:lf≠ln:=by rintro rfl;rw[aa] at LY;cases LY
 have SG:S lf=none:=by rw[ag Zc] at LY;exact LY
 refine⟨fun aG S'=>∃(o:Option D) (cs:List (Str×Str)),aG=[some (.ref l),some (.ref ln),some (.int tn),some (.ref lf),o]∧Gd cs∧(∀c∈cs,c.1∈CJ)∧S'=S.set lf (.lst (cs.map az)),?_,?_⟩
 ·have pL:=wl (c:=.lst []) (wl (c:=.lst [.str "key",.str "up",.str "a",.str "at",.str "ab",.str "mark",.str "every",.str "now"]) hw Pr) LY
  refine !⟨l,_,rfl,(by decide),(by decide),pL,fun n9 h90 h91=>⟨pz,fun p hp=>!⟨l,_,rfl,(by decide),(by decide),wl pL hp,fun n4 UA XM=>cF UA XM hp fun d hd=>?_⟩⟩⟩
  obtain⟨m,rfl,hm⟩:∃m:Nat,d=.int m∧m≤8:=by
   have hd:d∈[D.int 1,.int 2,.int 3,.int n9]:=hd
   simp only [zi,zK,or_false] at hd
   rcases hd with h|h|h|h
   ·exact⟨1,h,by decide⟩
   ·exact⟨2,h,by decide⟩
   ·exact⟨3,h,by decide⟩
   ·exact⟨n9.toNat,by rw[h];congr 1;lia,by lia⟩
  refine⟨m,rfl,by lia,by lia,?_⟩
  refine⟨fun i aG S'=>∃(o:Option D) (cs:List (Str×Str)),aG=[some (.ref l),some (.ref ln),some (.int tn),some (.ref lf),o]∧cs.map Prod.fst=(List.range i).map (xx tn)∧(∀c∈cs,c.2 = "number" ∨ c.2 = "word")∧S'=(S.set ln (.lst (CJ.map D.str))).set lf (.lst (cs.map az)),⟨none,[],rfl,rfl,fun _ h=>(nomatch h),rfl⟩,fun _ _ _ _=>trivial,?_,?_⟩
  ·rintro i d aG S' hd ⟨o,cs,rfl,hn,hk,rfl⟩
   obtain⟨hi,rfl⟩:=i5 hd
   have hi:i<m:=by simpa using hi
   have DQ:cs.length=i:=by have:=congrArg List.length hn;simpa using this
   generalize CI:(S.set ln (.lst (CJ.map D.str))).set lf (.lst (cs.map az))=S2
   have ef:S2 lf=some (.lst (cs.map az)):=by rw[← CI,aa]
   have en:S2 ln=some (.lst (CJ.map D.str)):=by rw[← CI,ag Zc.symm,aa]
   have ew:S2 l=some .well:=by rw[← CI,ag (gW hw SG),ag (gW hw Pr)];exact hw
   have enm:uo (CJ.map D.str) (((0:Int)+(i:Nat)+(tn:Nat)) % 8)=some (.str (xx tn i)):=by
    have e:((0:Int)+(i:Nat)+(tn:Nat)) % 8=(((i+tn) % 8:Nat):Int):=by lia
    have eE:(i+tn) % 8<8:=Nat.mod_lt _ (by decide)
    rw[e]
    refine df ?_
    rw[zp]
    unfold xx
    rw[zD,zf (show (i+tn) % 8<CJ.length from eE)]
    rfl
   refine !⟨⟨rfl,_,ef⟩,_,rfl,_,rfl,_,rfl,(show (0:Int)<8 by decide),_,_,en,enm,bH,fun p hp=>!⟨l,_,rfl,(by decide),(by decide),wl ew hp,fun n2 OA Hk=>cF OA Hk hp fun d hd=>?_⟩⟩
   obtain⟨kd,rfl,Kg⟩:∃kd:Str,d=.str kd∧(kd = "number" ∨ kd = "word"):=by
    have hd:d∈[D.str "number",.str "word"]:=hd
    simp only [zi,zK,or_false] at hd
    rcases hd with h|h
    ·exact⟨_,h,.inl rfl⟩
    ·exact⟨_,h,.inr rfl⟩
   refine⟨bH,lf,_,_,rfl,rfl,ef,bg (by rw[zb];lia),_,cs++[(xx tn i,kd)],rfl,?_,?_,?_⟩
   ·rw[zH,hn,List.range_succ,zH];rfl
   ·intro c hc
    rcases zL.mp hc with h|h
    ·exact hk c h
    ·rw[zG.mp h];exact Kg
   ·rw[← CI,dG,zH];rfl
  ·rintro aG S' ⟨o,cs,rfl,hn,hk,rfl⟩
   rw[dh] at hn
   have hn:cs.map Prod.fst=(List.range m).map (xx tn):=by simpa using hn
   have DQ:cs.length=m:=by have:=congrArg List.length hn;simpa using this
   have FX:∀c∈cs,c.1∈CJ:=fun c hc=>by
    have:c.1∈cs.map Prod.fst:=zg.mpr ⟨c,hc,rfl⟩
    rw[hn] at this
    obtain⟨j,_,e⟩:=zg.mp this
    rw[← e];exact Oz tn j
   refine⟨S.set lf (.lst (cs.map az)),fun b c hb=>?_,o,cs,rfl,⟨by lia,by rw[hn];exact Hj tn htn m (by lia),fun c hc=>⟨(Hh _ (FX c hc)).1,hk c hc⟩⟩,FX,rfl⟩
   by_cases XN:b=lf
   ·subst XN;rw[aa] at hb ⊢;exact hb
   ·rw[ag XN] at hb
    rw[ag XN,ag (gW hb Pr)];exact hb
 ·rintro aG S' ⟨o,cs,rfl,hg,FX,rfl⟩
  exact !⟨_,cs.map az,rfl,.inl aa,S,.new SG,q cs hg FX⟩
abbrev Kn:=List (Str×List D)
def kx(kn:Kn):List (Key×D):=kn.map fun r=>(Sum.inr r.1,D.tup r.2)
def fH(kn:Kn)(z:Str):Option (List D):=(kn.find? fun r=>decide (r.1=z)).map (·.2)
structure KI(cs:List (Str×Str))(kn:Kn):Prop where
 nd:(kn.map (·.1)).Nodup
 ok:∀r∈kn,r.1∈KS∧Wg cs r.2
theorem bM:fH (r::kn) k=if r.1=k then some r.2 else fH kn k:=by
 unfold fH
 rw[zR]
 by_cases h:r.1=k
 ·rw[zq h,if_pos h];rfl
 ·rw[zk h,if_neg h]
theorem xy(kn:Kn)(k:Str):bT (kx kn) (.inr k)=(fH kn k).map D.tup:=by
 induction kn with
 |nil=>rfl
 |cons r kn ih =>
  rw[bM]
  unfold bT kx at *
  rw[zB,zR]
  by_cases h:r.1=k
  ·have:decide ((Sum.inr r.1:Key)=.inr k)=true:=zq (by rw[h])
   dsimp only
   rw[this,if_pos h];rfl
  ·have:decide ((Sum.inr r.1:Key)=.inr k)=false:=zk fun e=>h (yH e)
   dsimp only
   rw[this,if_neg h];exact ih
theorem ig(h:fH kn k=some ws):(k,ws)∈kn:=by
 induction kn with
 |nil=>cases h
 |cons r kn ih =>
  rw[bM] at h
  by_cases hk:r.1=k
  ·rw[if_pos hk] at h;cases h;rw[← hk];exact zo
  ·rw[if_neg hk] at h;exact zh _ (ih h)
theorem lj(h:k∈kn.map (·.1)):∃ws,fH kn k=some ws:=by
 induction kn with
 |nil=>cases h
 |cons r kn ih =>
  rw[bM]
  by_cases hk:r.1=k
  ·exact⟨r.2,if_pos hk⟩
  ·rw[if_neg hk]
   rw[zB] at h
   rcases zi.mp h with e|h
   ·exact absurd e.symm hk
   ·exact ih h
theorem sub_len[DecidableEq α]:∀{l m:List α},l.Nodup→(∀x∈l,x∈m)→l.length≤m.length
 |[],m,_,_=>zS _
 |a::l,m,nd,h=>by
  obtain⟨n1,n2⟩:=yo.mp nd
  have h1:=sub_len (m:=m.erase a) n2 fun x hx=>(List.mem_erase_of_ne (fun e=>n1 (by rw[← e];exact hx))).mpr (h x (zh _ hx))
  have h2:=List.length_erase_of_mem (h a zo)
  have h3:0<m.length:=List.length_pos_of_mem (h a zo)
  rw[zQ];omega
theorem KI.len(h:KI cs kn):kn.length≤40:=by
 have:=sub_len h.nd (m:=KS) fun x hx=>by
  obtain⟨r,hr,rfl⟩:=zg.mp hx
  exact (h.ok r hr).1
 rw[zb] at this
 exact this
def mD(kn:Kn)(z:Str)(ws:List D):Kn:=if (fH kn z).isSome then kn.map fun r=>if r.1=z then (r.1,ws) else r else kn++[(z,ws)]
def sQ(kn:Kn)(z:Str):Kn:=kn.filter fun r=>decide (r.1≠z)
theorem OB(kn:Kn)(z:Str)(ws:List D):dput (kx kn) (.inr z) (.tup ws)=kx (mD kn z ws):=by
 unfold dput mD
 have e:((kx kn).any fun kv=>decide (kv.1=.inr z))=(fH kn z).isSome:=by
  induction kn with
  |nil=>rfl
  |cons r kn ih =>
   unfold kx at *
   rw[zB,yt,ih,bM]
   by_cases h:r.1=z
   ·rw[if_pos h,zq (by rw[h]),Bool.true_or];rfl
   ·rw[if_neg h,zk fun e=>h (yH e),yN]
 rw[e]
 split
 ·unfold kx
  rw[zw,zw]
  refine zV fun r _=>?_
  dsimp only [Function.comp]
  by_cases h:r.1=z
  ·rw[if_pos h,if_pos (by rw[h])]
  ·rw[if_neg h,if_neg fun e=>h (yH e)]
 ·unfold kx
  rw[zH];rfl
theorem OC(kn:Kn)(z:Str):wJ (kx kn) (.inr z)=kx (sQ kn z):=by
 unfold wJ sQ kx
 rw[List.filter_map]
 congr 1
 refine List.filter_congr fun r _=>?_
 dsimp only [Function.comp]
 rw[yG]
 exact⟨fun h e=>h (by rw[e]),fun h e=>h (yH e)⟩
theorem Kh:fH (mD kn z ws) k=if k=z then some ws else fH kn k:=by
 unfold mD
 by_cases hs:(fH kn z).isSome=true
 ·rw[if_pos hs]
  by_cases hk:k=z
  ·subst hk
   rw[if_pos rfl]
   induction kn with
   |nil=>cases hs
   |cons r rs ih =>
    rw[zB,bM]
    by_cases h:r.1=k
    ·rw[if_pos h,if_pos h]
    ·rw[if_neg h,if_neg h]
     rw[bM,if_neg h] at hs
     exact ih hs
  ·rw[if_neg hk]
   clear hs
   induction kn with
   |nil=>rfl
   |cons r rs ih =>
    rw[zB,bM,bM,ih]
    by_cases h:r.1=z
    ·rw[if_pos h,if_neg (show ¬ r.1=k from fun e=>hk (e.symm.trans h)),if_neg (show ¬ r.1=k from fun e=>hk (e.symm.trans h))]
    ·rw[if_neg h]
 ·rw[if_neg hs]
  have hn:fH kn z=none:=by cases e:fH kn z <;> simp_all
  clear hs
  induction kn with
  |nil =>
   rw[List.nil_append,bM]
   by_cases hk:k=z
   ·rw[if_pos hk,if_pos hk.symm]
   ·rw[if_neg hk,if_neg fun e=>hk e.symm]
  |cons r rs ih =>
   rw[bM] at hn
   by_cases h:r.1=z
   ·rw[if_pos h] at hn;cases hn
   ·rw[if_neg h] at hn
    rw[List.cons_append,bM,bM,ih hn]
    by_cases h2:r.1=k
    ·rw[if_pos h2,if_pos h2,if_neg (show ¬ k=z from fun e=>h (h2.trans e))]
    ·rw[if_neg h2,if_neg h2]
theorem Ki:fH (sQ kn z) k=if k=z then none else fH kn k:=by
 unfold sQ
 induction kn with
 |nil=>split <;> rfl
 |cons r kn ih =>
  rw[yi,bM]
  by_cases h:r.1=z
  ·rw[if_neg (by simp [h]),ih]
   by_cases hk:k=z
   ·rw[if_pos hk,if_pos hk]
   ·rw[if_neg hk,if_neg hk,if_neg (show ¬ r.1=k from fun e=>hk (e.symm.trans h))]
  ·rw[if_pos (by simp [h]),bM,ih]
   by_cases hk:k=z
   ·rw[if_pos hk,if_pos hk,if_neg (show ¬ r.1=k from fun e=>h (e.trans hk))]
   ·rw[if_neg hk,if_neg hk]
theorem KI.put(h:KI cs kn)(hz:z∈KS)(hw:Wg cs ws):KI cs (mD kn z ws):=by
 unfold mD
 split
 ·refine⟨?_,fun r hr=>?_⟩
  ·have:(kn.map fun r=>if r.1=z then (r.1,ws) else r).map (·.1)=kn.map (·.1):=by
    rw[zw];exact zV fun r _=>by dsimp only [Function.comp];split <;> rfl
   rw[this];exact h.nd
  ·obtain⟨r0,v7,e⟩:=zg.mp hr
   by_cases q:r0.1=z
   ·rw[if_pos q] at e;subst e;exact⟨(h.ok r0 v7).1,hw⟩
   ·rw[if_neg q] at e;subst e;exact h.ok r0 v7
 ·rename_i hs
  refine⟨?_,fun r hr=>?_⟩
  ·rw[zH]
   refine lS h.nd fun m=>hs ?_
   obtain⟨LZ,e⟩:=lj m
   show (fH kn z).isSome=true
   rw[show fH kn z=some LZ from e];rfl
  ·rcases zL.mp hr with hr|hr
   ·exact h.ok r hr
   ·rw[zG.mp hr];exact⟨hz,hw⟩
theorem KI.del(h:KI cs kn)(z:Str):KI cs (sQ kn z) :=
 ⟨(List.Sublist.map _ List.filter_sublist).nodup h.nd,fun r hr=>h.ok r (yf.mp hr).1⟩
def GD(ks:List Str)(cs:List (Str×Str))(kn:Kn)(d:D):Prop :=
 (∃z ws,z∈ks∧Wg cs ws∧fH kn z=none∧d=.tup [.str "put",.str z,.tup ws])∨(∃z ws,z∈KS∧Wg cs ws∧(fH kn z).isSome=true∧d=.tup [.str "change",.str z,.tup ws])∨∃z,z∈KS∧(fH kn z).isSome=true∧d=.tup [.str "take",.str z]
def Ly(S:av)(n:Nat)(d:D):Prop:=∃p,Dp S d p∧p.canLay0=true∧p.depth≤n
theorem Ly.all:∀{ds:List D},(∀d∈ds,Ly S n d)→∃ps:List PyData,DpAll S ds ps∧PyData.canLayAll0 ps=true∧PyData.depthAll ps≤n∧ps.length=ds.length
 |[],_=>⟨[],by simp only [DpAll],rfl,zS _,rfl⟩
 |d::ds,h=>by
  obtain⟨p,h1,h2,h3⟩:=h d zo
  obtain⟨ps,k1,k2,k3,k4⟩:=Ly.all fun x hx=>h x (zh _ hx)
  refine⟨p::ps,by simp only [DpAll];exact⟨p,ps,rfl,h1,k1⟩,by simp only [PyData.canLayAll0,h2,k2,Bool.and_self],by simp only [PyData.depthAll];lia,by rw[zQ,zQ,k4]⟩
theorem Ly.tup{S:av}{n:Nat}{ds:List D}(h:∀d∈ds,Ly S n d):Ly S (n+1) (.tup ds):=by
 obtain⟨ps,k1,k2,k3,_⟩:=Ly.all h
 exact⟨.tuple ps,by simp only [Dp];exact⟨ps,rfl,k1⟩,by simp only [PyData.canLay0];exact k2,by simp only [PyData.depth];lia⟩
theorem Ly.str{S:av}{z:Str}(h:PyData.strOk z=true):Ly S 0 (.str z):=⟨.str z,by simp only [Dp],by simp only [PyData.canLay0];exact h,by simp only [PyData.depth];lia⟩
theorem Ly.le(h:Ly S n d)(l:n≤m):Ly S m d:=by obtain⟨p,a,b,c⟩:=h;exact⟨p,a,b,zI c l⟩
theorem Ly.aw:Ly S 0 .aw:=⟨.none,by simp only [Dp],by simp only [PyData.canLay0],by simp only [PyData.depth];lia⟩
theorem Ly.plain(h:bx d=true):Ly S 0 d:=by
 cases d with
 |aw=>exact Ly.aw
 |int i=>exact⟨.int i,by simp only [Dp],by simp only [PyData.canLay0],by simp only [PyData.depth];lia⟩
 |str z =>
  have h:(decide (z.cps.size≤40) && PyData.strOk z)=true:=h
  rw[zJ] at h
  exact Ly.str h.2
 |_=>cases h
theorem Ly.dl(h:Ly S n d):∃p,Dl S d p∧p.canLay0=true∧p.depth≤n:=by
 obtain⟨p,a,b,c⟩:=h
 refine⟨p,?_,b,c⟩
 cases d with
 |ref x=>simp only [Dp] at a
 |_=>exact a
theorem Ly.lst{S:av}{n:Nat}{a:Addr}{ds:List D}(e:S a=some (.lst ds))(h:∀d∈ds,Ly S n d):∃p,Dl S (.ref a) p∧p.canLay0=true∧p.depth≤n+1∧∀b,S b=some (.lst ds)→Dl S (.ref b) p:=by
 obtain⟨ps,k1,k2,k3,_⟩:=Ly.all h
 exact⟨.list ps,⟨ds,ps,e,rfl,k1⟩,by simp only [PyData.canLay0];exact k2,by simp only [PyData.depth];lia,fun b hb=>⟨ds,ps,hb,rfl,k1⟩⟩
theorem Hl{S:av}{a b:Addr}{ds:List D}{R:KD}{neg:Bool}(e1:S a=some (.lst ds))(e2:S b=some (.lst ds))(h:∀d∈ds,Ly S 60 d)(q:R (.bl (!neg)) S):E7 neg (.ref a) (.ref b) S R:=by
 obtain⟨p,k1,k2,k3,k4⟩:=Ly.lst e1 h
 have e:(if neg then !PyData.eqv p p else PyData.eqv p p)=!neg:=by rw[SeqAt.eqv_refl p k2];cases neg <;> rfl
 exact⟨p,p,k1,k4 b e2,k2,k2,.inl (by lia),by rw[e];exact q⟩
theorem xA(ps:List PyData):PyData.eqv (.list ps) (.list [])=ps.isEmpty:=by cases ps <;> simp [PyData.eqv,PyData.eqvAll]
theorem Hm(ps:List PyData):PyData.eqv (.tuple ps) (.tuple [])=ps.isEmpty:=by cases ps <;> simp [PyData.eqv,PyData.eqvAll]
theorem eq_nil{S:av}{a b:Addr}{ds:List D}{R:KD}(e1:S a=some (.lst ds))(e2:S b=some (.lst []))(h:∀d∈ds,Ly S 60 d)(q:R (.bl ds.isEmpty) S):E7 false (.ref a) (.ref b) S R:=by
 obtain⟨ps,k1,k2,k3,k4⟩:=Ly.all h
 refine⟨.list ps,.list [],⟨ds,ps,e1,rfl,k1⟩,⟨[],[],e2,rfl,by simp only [DpAll]⟩,by simp only [PyData.canLay0];exact k2,by simp only [PyData.canLay0,PyData.canLayAll0],.inl (by simp only [PyData.depth];lia),?_⟩
 rw[if_neg zd,xA,show ps.isEmpty=ds.isEmpty by cases ps <;> cases ds <;> first|rfl|cases k4];exact q
theorem Kj{S:av}{ds:List D}{R:KD}(h:∀d∈ds,Ly S 60 d)(q:R (.bl ds.isEmpty) S):E7 false (.tup ds) (.tup []) S R:=by
 obtain⟨ps,k1,k2,k3,k4⟩:=Ly.all h
 refine⟨.tuple ps,.tuple [],by simp only [Dl,Dp];exact⟨ps,rfl,k1⟩,by simp only [Dl,Dp];exact⟨[],rfl,by simp only [DpAll]⟩,by simp only [PyData.canLay0];exact k2,by simp only [PyData.canLay0,PyData.canLayAll0],.inl (by simp only [PyData.depth];lia),?_⟩
 rw[if_neg zd,Hm,show ps.isEmpty=ds.isEmpty by cases ps <;> cases ds <;> first|rfl|cases k4];exact q
theorem Wg.all(h:Wg cs ws):∀d∈ws,bx d=true:=by
 unfold Wg at h
 induction h with
 |nil=>exact fun _ h=>(nomatch h)
 |cons r t ih =>
  intro d hd
  rcases zi.mp hd with e|hd
  ·rw[e];exact r.2
  ·exact ih d hd
theorem Wg.ly{cs:List (Str×Str)}{ws:List D}(h:Wg cs ws){S:av} : Ly S 1 (.tup ws):=Ly.tup fun d hd=>Ly.plain (h.all d hd)
theorem KI.ly{cs:List (Str×Str)}{kn:Kn}(hI:KI cs kn){ss:List Str}(hp:ss.Perm (kn.map (·.1))){S:av} : ∀d∈ss.map D.str,Ly S 60 d:=fun d hd=>by
 obtain⟨z,hz,rfl⟩:=zg.mp hd
 obtain⟨r,hr,e⟩:=zg.mp (hp.mem_iff.mp hz)
 rw[← e]
 exact (Ly.str (gq _ (hI.ok r hr).1).2.2).le (zS _)
inductive Hn (ds:List D) (S:av) (R:KD) (Z:KX):Prop where
 |mk (l cs lk kn) (h0:ds=[.ref l,.tup (cs.map az),.ref lk]) (h1:Gd cs) (h2:S l=some .well) (h3:S lk=some (.cQ (kx kn))) (h4:KI cs kn) (h5:∀d,GD KT cs kn d→R d S):Hn ds S R Z
theorem Kk(T:Txt w K mg t):Ok P w base T.AW 4 Hn:=by
 refine T.AW.F.bU gF ?_
 rintro _ _ _ _ _ _ _ S R Z hr ⟨l,cs,lk,kn,e,hg,hw,hk,hI,q⟩
 subst e
 have hlen:=hI.len
 refine⟨_,(sc (cn (i:=3) gF.nd (aI T.aR (bI T) hr (ac (dv 0) (ac di an)))) (sc (cn (i:=4) gF.nd (cb wN T.gB eT (ac (dv 2) an))) (sc (si (twd (twor (bh br hr.u (dv 4) (dS an)) (tw1 (bh sy hr.u (dv 3) di)))) (sc (cn (i:=5) gF.nd (aI T.xj (Bh T) hr (ac (dv 0) an))) (sc (si (bh D2 hr.u (dv 5) (dv 2)) (s1 (sr (bD (ac ds (ac (dv 5) (ac (aI T.gE (jP T) hr (ac (dv 0) (ac (dv 1) an))) an)))))) s0) (s1 (sr (bD (ac ds (ac (dv 5) (ac (aI T.gE (jP T) hr (ac (dv 0) (ac (dv 1) an))) an)))))))) s0) (sc (cn (i:=5) gF.nd (ix hr.u (dv 4) (aI T.aR (bI T) hr (ac (dv 0) (ac (cb aT T.aO aE (ac (dv 4) an)) an))))) (sc (si (bh br hr.u (dv 3) di) (s1 (sr (bD (ac ds (ac (dv 5) an))))) s0) (sc (si (bh br hr.u (dv 3) di) (s1 (sr (bD (ac ds (ac (dv 5) (ac (ix hr.u (dv 2) (dv 5)) an)))))) s0) (s1 (sr (bD (ac ds (ac (dv 5) (ac (aI T.gE (jP T) hr (ac (dv 0) (ac (dv 1) an))) an)))))))))))),?_⟩
 have ek:(kx kn).map (·.1)=(kn.map (·.1)).map Sum.inr:=by unfold kx;rw[zw,zw];rfl
 have el:(kx kn).length<64:=by unfold kx;rw[zb];lia
 refine !⟨l,_,rfl,(by decide),(by decide),hw,fun way h0 h1=>!⟨lk,kx kn,kn.map (·.1),rfl,hk,ek,el,fun ss hp hs p jO=>?_⟩⟩
 refine !⟨A8,fun p2 gO=>?_⟩
 generalize CI:(S.set p (.lst (ss.map D.str))).set p2 (.lst [])=S2
 have sub:Sub S S2:=by rw[← CI];exact (Sub.new jO).trans (.new gO)
 have pL:=sub _ _ hw
 have dW:=sub _ _ hk
 have vp:S2 p=some (.lst (ss.map D.str)):=by
  rw[← CI,ag (show p≠p2 by rintro rfl;rw[aa] at gO;cases gO),aa]
 have XO:S2 p2=some (.lst []):=by rw[← CI,aa]
 have fin:∀d,GD KT cs kn d→Fo S2 (R d):=fun d hd=>⟨S,sub,q d hd⟩
 have ed:∀z,bT (kx kn) (.inr z)=(fH kn z).map D.tup:=xy kn
 have OD:∀z,(bT (kx kn) (.inr z)).isSome=(fH kn z).isSome:=fun z=>by rw[ed];cases fH kn z <;> rfl
 refine eq_nil vp XO (hI.ly hp) !⟨?_⟩
 refine bK (fun h=>?_) (fun h=>!!⟨bK (fun h3=>?_) (fun h3=>?_)⟩)
 ·refine !⟨l,[],rfl,rfl,pL,fun d ⟨z,hz,e⟩=>?_⟩
  subst e
  refine !!⟨.inr ⟨kx kn,.inr z,dW,rfl,_,rfl,?_⟩⟩
  refine bK (fun h5=>?_) (fun h5=>?_)
  ·exact !!!⟨l,cs,rfl,hg,pL,fun ws lM=>⟨hX,fin _ (.inr (.inl ⟨z,ws,xw hz,lM,(OD z).symm.trans h5,rfl⟩))⟩⟩
  ·have h6:fH kn z=none:=by have:=(OD z).symm.trans h5;cases e:fH kn z with|none=>rfl|some _=>rw[e] at this;cases this
   exact !!!⟨l,cs,rfl,hg,pL,fun ws lM=>⟨hX,fin _ (.inl ⟨z,ws,hz,lM,h6,rfl⟩)⟩⟩
 ·refine !⟨l,[],rfl,rfl,pL,fun d ⟨z,hz,e⟩=>?_⟩
  subst e
  refine !!⟨.inr ⟨kx kn,.inr z,dW,rfl,_,rfl,?_⟩⟩
  refine bK (fun h5=>?_) (fun h5=>?_)
  ·exact !!!⟨l,cs,rfl,hg,pL,fun ws lM=>⟨hX,fin _ (.inr (.inl ⟨z,ws,xw hz,lM,(OD z).symm.trans h5,rfl⟩))⟩⟩
  ·have h6:fH kn z=none:=by have:=(OD z).symm.trans h5;cases e:fH kn z with|none=>rfl|some _=>rw[e] at this;cases this
   exact !!!⟨l,cs,rfl,hg,pL,fun ws lM=>⟨hX,fin _ (.inl ⟨z,ws,hz,lM,h6,rfl⟩)⟩⟩
 ·have r_:0<(ss.map D.str).length:=by
   have h:(ss.map D.str).isEmpty=false:=h
   cases ss with
   |nil=>cases h
   |cons a ss=>exact Nat.succ_pos _
  have hle:(ss.map D.str).length≤40:=by rw[zb,hp.length_eq,zb];exact hlen
  refine !!!!⟨.inl ⟨_,vp,l,_,rfl,(by lia),rj (by lia) (by lia),pL,fun n hn0 RV=>?_⟩⟩
  obtain⟨v,a1,a2⟩:=B5 (l:=ss.map D.str) hn0 RV
  obtain⟨z,hz,rfl⟩:=zg.mp (zC a2)
  obtain⟨ws,lM⟩:=lj (hp.mem_iff.mp hz)
  obtain⟨XQ,hwg⟩:=hI.ok _ (ig lM)
  have XR:(fH kn z).isSome=true:=by rw[lM];rfl
  refine⟨_,_,vp,a1,_,rfl,_,rfl,?_⟩
  refine bK (fun h4=>?_) (fun h4=>?_)
  ·exact !⟨bH,fin _ (.inr (.inr ⟨z,XQ,XR,rfl⟩))⟩
  refine !!⟨?_⟩
  refine bK (fun h4=>?_) (fun h4=>?_)
  ·exact !!!⟨kx kn,.tup ws,dW,by rw[ed,lM];rfl,hX,fin _ (.inr (.inl ⟨z,ws,XQ,hwg,XR,rfl⟩))⟩
  ·exact !!!⟨l,cs,rfl,hg,pL,fun LZ XS=>⟨hX,fin _ (.inr (.inl ⟨z,LZ,XQ,XS,XR,rfl⟩))⟩⟩
def Mo(sp:iL):iL:=fun ds S R Z=>∃R0 Z0,sp ds S R0 Z0∧(∀d S',R0 d S'→R d S')∧∀C S',Z0 C S'→Z C S'
theorem OE(F:bG P w K mg base (eW P w mg) k f fd ps (pe K sp)):bG P w K mg base (eW P w mg) k f fd ps (pe K (Mo sp)) :=
 F.imp <| by rintro vs H Q E ⟨ds,S,R,Z,v,hS,⟨R0,Z0,h,h1,h2⟩,hR,hZ⟩;exact⟨ds,S,R0,Z0,v,hS,h,fun d S' u H' r=>hR d S' u H' (h1 _ _ r),fun C S' H' z=>hZ C S' H' (h2 _ _ z)⟩
abbrev L3:=jv
abbrev xB:=fq
abbrev Ho:=ic
def OF(kn:Kn)(d:D)(jw:Kn):Prop:=(∃(n:Str) (z:Str) (ws:List D),(n = "put" ∨ n = "change")∧d=.tup [.str n,.str z,.tup ws]∧jw=mD kn z ws)∨∃z,(fH kn z).isSome=true∧d=.tup [.str "take",.str z]∧jw=sQ kn z
inductive Bj (t:fG) (ds:List D) (S:av) (R:KD) (Z:KX):Prop where
 |mk (a fs) (h0:S a=some (.ins t.ao fs)) (h1:fs.map Prod.fst=(["columns","deeds","runs"]:List Str)) (h2:((∃k v,ds=[.ref a,.tup [.str "put",k,v]]∧L3 t [.ref a,k,v] S R Z)∨(∃k v,ds=[.ref a,.tup [.str "change",k,v]]∧xB t [.ref a,k,v] S R Z)∨∃k,ds=[.ref a,.tup [.str "take",k]]∧Ho t [.ref a,k] S R Z)):Bj t ds S R Z
theorem Zd:∀{fs:List (Str×D)},m∉fs.map Prod.fst→fs.lookup m=none
 |[],_=>rfl
 | (a,b)::fs,h=>by
  rw[zB,zi] at h
  rw[zW,show (m == a)=false from beq_false_of_ne fun e=>h (.inl e)]
  exact Zd fun q=>h (.inr q)
theorem XT{fs:List (Str×D)}(h:fs.map Prod.fst=(["columns","deeds","runs"]:List Str)){m:Str}(hm:m∉(["columns","deeds","runs"]:List Str)):fs.lookup m=none:=Zd (by rw[h];exact hm)
inductive t_ (ds:List D) (S:av) (R:KD) (Z:KX):Prop where
 |mk (lk kn d jw) (h0:ds=[.ref lk,d]) (h1:S lk=some (.cQ (kx kn))) (h2:kn.length≤100) (h3:OF kn d jw) (h4:R .aw (S.set lk (.cQ (kx jw)))):t_ ds S R Z
theorem Hq(T:Txt w K mg t):Ok P w base T.u4 1 t_:=by
 refine T.u4.F.bU A6 ?_
 rintro _ _ _ _ _ _ _ S R Z hr ⟨lk,kn,d,jw,e,hk,hn,hd,q⟩
 subst e
 refine⟨_,(s1 (si (bh br hr.u (ix hr.u (dv 1) di) ds) (s1 (se (mp1 (dv 0) (ix hr.u (dv 1) di)))) (s1 (sd hr.u (dv 0) (ix hr.u (dv 1) di) (ix hr.u (dv 1) di))))),?_⟩
 have hl:(kx kn).length<sizeLine:=bg (by unfold kx;rw[zb];lia)
 rcases hd with ⟨n,z,ws,Ie,rfl,rfl⟩|⟨z,hz,rfl,rfl⟩
 ·refine !!!⟨?_⟩
  refine bK (fun h=>?_) (fun h=>?_)
  ·have h:n = "take" := zA h
   rcases Ie with e|e <;> rw[e] at h <;> exact absurd h (by decide)
  ·refine !!!!!⟨lk,kx kn,.inr z,rfl,hk,rfl,hl,?_⟩
   rw[OB]
   exact fo q
 ·refine !!!⟨?_⟩
  refine bK (fun h=>?_) (fun h=>absurd h (by decide))
  obtain⟨ws,lM⟩:=Option.isSome_iff_exists.mp hz
  refine !⟨lk,kx kn,rfl,hk,_,rfl,_,rfl,kx kn,.inr z,.tup ws,hk,rfl,by rw[xy,lM];rfl,?_⟩
  rw[OC]
  exact fo q
theorem Kl(T:Txt w K mg t):Ok P w base T.qR 7 (Bj t):=by
 have jx:x6 P w mg base T.eV 6 (Mo (L3 t)):=OE (Ov T)
 have ft:x6 P w mg base T.cD 6 (Mo (xB t)):=OE (EF T)
 have ij:x6 P w mg base T.dN 6 (Mo (Ho t)):=OE (J6 T)
 refine T.qR.F.ok Ez (fun ds S R Z ⟨_,_,_,_,h⟩=>by rcases h with ⟨_,_,e,_⟩|⟨_,_,e,_⟩|⟨_,e,_⟩ <;> rw[e] <;> rfl) (fun fK A outer s H E ds S R Z hr ⟨a,fs,ha,hf,h⟩=>?_)
 rcases h with ⟨k,v,e,h⟩|⟨k,v,e,h⟩|⟨k,e,h⟩
 ·subst e
  refine⟨_,(sc (si (bh br hr.u (ix hr.u (dv 1) di) ds) (s1 (sr (sD (dv 0) T.aj T.eV jx hr (ac (ix hr.u (dv 1) di) (ac (ix hr.u (dv 1) di) an))))) s0) (sc (si (bh br hr.u (ix hr.u (dv 1) di) ds) (s1 (sr (sD (dv 0) T.aj T.cD ft hr (ac (ix hr.u (dv 1) di) (ac (ix hr.u (dv 1) di) an))))) s0) (s1 (sr (sD (dv 0) T.aj T.dN ij hr (ac (ix hr.u (dv 1) di) an)))))),?_⟩
  refine !!!⟨?_⟩
  refine bK (fun _=>?_) (fun h=>absurd h (by decide))
  exact !⟨a,_,rfl,ha,XT hf (by decide),_,rfl,_,rfl,_,rfl,_,rfl,R,Z,h,fun d S' r=>fo r,fun C S' z=>fo z⟩
 ·subst e
  refine⟨_,(sc (si (bh br hr.u (ix hr.u (dv 1) di) ds) (s1 (sr (sD (dv 0) T.aj T.eV jx hr (ac (ix hr.u (dv 1) di) (ac (ix hr.u (dv 1) di) an))))) s0) (sc (si (bh br hr.u (ix hr.u (dv 1) di) ds) (s1 (sr (sD (dv 0) T.aj T.cD ft hr (ac (ix hr.u (dv 1) di) (ac (ix hr.u (dv 1) di) an))))) s0) (s1 (sr (sD (dv 0) T.aj T.dN ij hr (ac (ix hr.u (dv 1) di) an)))))),?_⟩
  refine !!!⟨?_⟩
  refine bK (fun h=>absurd h (by decide)) (fun _=>?_)
  refine !!!⟨?_⟩
  refine bK (fun _=>?_) (fun h=>absurd h (by decide))
  exact !⟨a,_,rfl,ha,XT hf (by decide),_,rfl,_,rfl,_,rfl,_,rfl,R,Z,h,fun d S' r=>fo r,fun C S' z=>fo z⟩
 ·subst e
  refine⟨_,(sc (si (bh br hr.u (ix hr.u (dv 1) di) ds) (s1 (sr (sD (dv 0) T.aj T.eV jx hr (ac (ix hr.u (dv 1) di) (ac (ix hr.u (dv 1) di) an))))) s0) (sc (si (bh br hr.u (ix hr.u (dv 1) di) ds) (s1 (sr (sD (dv 0) T.aj T.cD ft hr (ac (ix hr.u (dv 1) di) (ac (ix hr.u (dv 1) di) an))))) s0) (s1 (sr (sD (dv 0) T.aj T.dN ij hr (ac (ix hr.u (dv 1) di) an)))))),?_⟩
  refine !!!⟨?_⟩
  refine bK (fun h=>absurd h (by decide)) (fun _=>?_)
  refine !!!⟨?_⟩
  refine bK (fun h=>absurd h (by decide)) (fun _=>?_)
  exact !⟨a,_,rfl,ha,XT hf (by decide),_,rfl,_,rfl,R,Z,h,fun d S' r=>fo r,fun C S' z=>fo z⟩
def p3(p:Str×Str×Str):D:=.tup [.str p.1,.str p.2.1,.str p.2.2]
def lq(z:Str):Bool:=decide (z = "up") || decide (z = "down")
def Bk(z:Str):Bool:=decide (z = "first") || decide (z = "last")
theorem Hr(z a b:Str)(x y:V):(([(a,x),(b,y)]:List (Str×V)).lookup z).isSome=(decide (z=a) || decide (z=b)):=by
 rw[zW,zW]
 by_cases h:z=a
 ·rw[show (z == a)=true by simp [h],zq h];rfl
 ·rw[show (z == a)=false by simp [h],zk h]
  by_cases h2:z=b
  ·rw[show (z == b)=true by simp [h2],zq h2];rfl
  ·rw[show (z == b)=false by simp [h2],zk h2];rfl
def fS(cs:List (Str×Str))(p:Str×Str×Str):Bool:=decide (p.1∈cs.map Prod.fst) && (lq p.2.1 && Bk p.2.2)
def Bl(cs:List (Str×Str))(ps:List (Str×Str×Str))(wy:Str):Bool:=decide (ps.length≤8) && (ps.all (fS cs) && (decide ((ps.map Prod.fst).Nodup) && lq wy))
theorem mE(l:List (Str×D))(z:Str)(h:bT (f_ l) (.inr z)=some d):∃p∈l,p.1=z∧d=p.2:=by
 have all:∀(l:List (Str×D)) (c:List (Key×D)),bT (l.foldl (fun c p=>dput c (.inr p.1) p.2) c) (.inr z)=some d→(∃p∈l,p.1=z∧d=p.2)∨bT c (.inr z)=some d:=by
  intro l
  induction l with
  |nil=>intro c h;exact .inr h
  |cons p l ih =>
   intro c h
   rcases ih _ h with ⟨q,hq,e⟩|h
   ·exact .inl ⟨q,zh _ hq,e⟩
   ·rw[wQ] at h
    by_cases e:(.inr z:Key)=.inr p.1
    ·rw[if_pos e] at h;exact .inl ⟨p,zo,(yH e).symm,(zM h).symm⟩
    ·rw[if_neg e] at h;exact .inr h
 rcases all l [] h with h|h
 ·exact h
 ·cases h
def XU(p:Str×Str×Str):Prop:=p.1.cps.size≤1000∧p.2.1.cps.size≤1000∧p.2.2.cps.size≤1000
inductive xC (ds:List D) (S:av) (R:KD) (Z:KX):Prop where
 |mk (z) (h0:ds=[.str z]) (h1:R (.bl (lq z)) S):xC ds S R Z
theorem ua(T:Txt w K mg t):Ok P w base T.uY 1 xC:=by
 refine T.uY.F.bU Ew ?_
 rintro _ _ _ _ _ _ _ S R Z hr ⟨z,e,q⟩
 subst e
 refine⟨_,(s1 (sr (sx (cb cG T.ay au (ac (dv 0) (ac (rP T.mh gT) an))) (Ij (WQ T.xf (dv 0) (dg (v:=.ref t.i9) T.uS rfl fun _=>gU _)))))),?_⟩
 refine !⟨_,_,_,_,rfl,cB,rfl,_,rfl,cI !⟨z,rfl,rfl,?_⟩⟩
 rw[Hr]
 exact fo q
inductive xD (ds:List D) (S:av) (R:KD) (Z:KX):Prop where
 |mk (z) (h0:ds=[.str z]) (h1:R (.bl (Bk z)) S):xD ds S R Z
theorem EG(T:Txt w K mg t):Ok P w base T.AV 1 xD:=by
 refine T.AV.F.bU Ex ?_
 rintro _ _ _ _ _ _ _ S R Z hr ⟨z,e,q⟩
 subst e
 refine⟨_,(s1 (sr (sx (cb cG T.ay au (ac (dv 0) (ac (rP T.mh gT) an))) (Ij (WQ T.xg (dv 0) (dg (v:=.ref t.i_) T.uT rfl fun _=>gU _)))))),?_⟩
 refine !⟨_,_,_,_,rfl,cB,rfl,_,rfl,cI !⟨z,rfl,rfl,?_⟩⟩
 rw[Hr]
 exact fo q
inductive mF (ds:List D) (S:av) (R:KD) (Z:KX):Prop where
 |mk (cs z) (h0:ds=[.tup (cs.map az),.str z]) (h1:Gd cs) (h2:z.cps.size≤1000) (h3:(∀k,(z,k)∈cs→R (.str k) S)) (h4:(z∉cs.map Prod.fst→R .aw S)):mF ds S R Z
theorem gr(T:Txt w K mg t):Ok P w base T.dJ 3 mF:=by
 refine T.dJ.F.bU sH ?_
 rintro _ _ _ _ _ _ _ S R Z hr ⟨cs,z,e,hg,hz,q1,q2⟩
 subst e
 refine⟨_,(sc (si (cq (tv (aI T.pO (q8 T) hr (ac (dv 1) an)))) (s1 (sr dn)) s0) (s1 (sr (mg1 hr.u (ct Gz T.G0 B4 (ac (dv 0) an)) (dv 1))))),?_⟩
 refine !⟨.str z,rfl,gt_str hz,_,rfl,?_⟩
 refine bK (fun h=>?_) (fun h=>?_)
 ·have h:kr z=false:=nt h
  refine fo (q2 fun m=>?_)
  obtain⟨c,hc,rfl⟩:=zg.mp m
  rw[(hg.2.2 c hc).1] at h;cases h
 ·have ek:cs.map az=(cs.map fun c=>(c.1,D.str c.2)).map Cj:=by rw[zw];rfl
  refine !⟨(cs.map fun c=>(c.1,D.str c.2)),by rw[ek],fun p hp=>⟨p,_,rfl,aa,_,rfl,_,.inr z,aa,rfl,S,.new hp,?_⟩⟩
  have h1:=tQ (cs.map fun c=>(c.1,D.str c.2)) z
  cases q3:bT (f_ (cs.map fun c=>(c.1,D.str c.2))) (.inr z) with
  |none =>
   rw[q3] at h1
   refine q2 fun m=>?_
   obtain⟨c,hc,e⟩:=zg.mp m
   have:(cs.map fun c=>(c.1,D.str c.2)).any (fun p=>decide (p.1=z))=true:=List.any_eq_true.mpr ⟨_,zg.mpr ⟨c,hc,rfl⟩,zq e⟩
   rw[this] at h1;cases h1
  |some d =>
   obtain⟨p,hp,e1,rfl⟩:=mE _ _ q3
   obtain⟨c,hc,rfl⟩:=zg.mp hp
   have e1:c.1=z:=e1
   exact q1 c.2 (by rw[← e1];exact hc)
inductive ub (ds:List D) (S:av) (R:KD) (Z:KX):Prop where
 |mk (cs p) (h0:ds=[.tup (cs.map az),p3 p]) (h1:Gd cs) (h2:XU p) (h3:R (.bl (fS cs p)) S):ub ds S R Z
theorem Bn(T:Txt w K mg t):Ok P w base T.u0 4 ub:=by
 have vq:Ok P w base T.dJ 3 (fun ds S R _=>∃cs z,ds=[.tup (cs.map az),.str z]∧Gd cs∧z.cps.size≤1000∧∀d,ai d=!decide (z∈cs.map Prod.fst)→R d S) :=
  (gr T).Gu <| by rintro ds S R Z ⟨cs,z,e,hg,hz,q⟩;exact⟨cs,z,e,hg,hz,fun k hk=>q _ (by rw[zq (zg.mpr ⟨_,hk,rfl⟩)];rfl),fun hn=>q _ (by rw[zk hn];rfl)⟩
 refine T.u0.F.bU A4 ?_
 rintro _ _ _ _ _ _ _ S R Z hr ⟨cs,p,e,hg,hp,q⟩
 subst e
 refine⟨_,(sc (si (twd (twor (cq (tv (cb cG T.ay au (ac (dv 1) (ac (rP T.bj aV) an))))) (tw1 (bh fF hr.u (cb aT T.aO aE (ac (dv 1) an)) di)))) (s1 (sr db)) s0) (s1 (sr (sx (cm gZ hr.u (aI T.dJ vq hr (ac (dv 0) (ac (ix hr.u (dv 1) di) an))) dn) (sx (aI T.uY (ua T) hr (ac (ix hr.u (dv 1) di) an)) (Ij (aI T.AV (EG T) hr (ac (ix hr.u (dv 1) di) an)))))))),?_⟩
 refine !⟨_,_,_,_,rfl,aX,rfl,_,rfl,bf !!!⟨bf ?_⟩⟩
 refine !!!⟨cs,p.1,rfl,hg,hp.1,fun d hd=>!⟨?_⟩⟩
 unfold fS at q
 refine bK (fun h=>?_) (fun h=>?_)
 ·have h:(!ai d)=true:=h
  rw[hd,Bool.not_not] at h
  rw[h,zY] at q
  refine !!⟨p.2.1,rfl,_,rfl,?_⟩
  refine bK (fun h2=>?_) (fun h2=>?_)
  ·rw[h2,zY] at q
   exact !!⟨p.2.2,rfl,fo q⟩
  ·rw[h2,zP] at q
   exact fo q
 ·have h:(!ai d)=false:=h
  rw[hd,Bool.not_not] at h
  rw[h,zP] at q
  exact fo q
inductive kz (t:fG) (ds:List D) (S:av) (R:KD) (Z:KX):Prop where
 |mk (cs ps wy) (h0:ds=[.tup (cs.map az),.tup [.tup (ps.map p3),.str wy]]) (h1:Gd cs) (h2:(∀p∈ps,XU p)) (h3:(Bl cs ps wy=true→R .aw S)) (h4:(Bl cs ps wy=false→Z t.kT S)):kz t ds S R Z
theorem jy(T:Txt w K mg t):Ok P w base T.fP 5 (kz t):=by
 refine T.fP.F.bU fh ?_
 rintro _ _ _ _ _ _ _ S R Z hr ⟨cs,ps,wy,e,hg,hp,q1,q2⟩
 subst e
 have SH:(ps.map p3).length=ps.length:=zb _
 refine⟨_,(sc (si (twd (twor (cq (tv (cb cG T.ay au (ac (dv 1) (ac (rP T.bj aV) an))))) (tw1 (bh fF hr.u (cb aT T.aO aE (ac (dv 1) an)) di)))) (s1 (qy ⟨T.cS⟩ T.dX (ac ds an))) s0) (sc (cn (i:=2) fh.nd (ix hr.u (dv 1) di)) (sc (si (twd (twor (cq (tv (cb cG T.ay au (ac (dv 2) (ac (rP T.bj aV) an))))) (tw1 (bh nr hr.u (cb aT T.aO aE (ac (dv 2) an)) (dg (v:=.int 8) T.jb ⟨_,rfl⟩ fun _=>aL _))))) (s1 (qy ⟨T.cS⟩ T.dX (ac ds an))) s0) (sc (si (cq (tv (cb ki T.km fZ (ac (sA (N:=["part","columns"]) (src:=[none,some 0]) (kM (ae kl) ["columns","order","parts","names"] rfl rfl (by trivial)) (Fc (dv 2)) (qz (show (["part","columns"]:List Str).Nodup by trivial)) (ba rfl) bb (fun _ _ _ _ _=>rQ) (fun _ _ _ _ _=>(aI T.u0 (Bn T) hr (ac (dv 1) (ac (dv 0) an))))) an)))) (s1 (qy ⟨T.cS⟩ T.dX (ac ds an))) s0) (sc (Pq (i:=3) (N:=["part"]) (src:=[none]) fh.nd (kM (ae kl) ["columns","order","parts","names"] rfl rfl (by trivial)) (Fc (dv 2)) (qz (show (["part"]:List Str).Nodup by trivial)) (ba rfl) bb (fun _ _ _ _ _=>rQ) (fun _ _ _ _ _=>(ix hr.u (dv 0) di))) (sc (si (bh fF hr.u (YQ (dv 3) T.aO T.LS) (cb aT T.aO aE (ac (dv 3) an))) (s1 (qy ⟨T.cS⟩ T.dX (ac ds an))) s0) (s1 (si (cq (tv (aI T.uY (ua T) hr (ac (ix hr.u (dv 1) di) an)))) (s1 (qy ⟨T.cS⟩ T.dX (ac ds an))) s0)))))))),?_⟩
 refine !⟨_,_,_,_,rfl,aX,rfl,_,rfl,bf !!!⟨bf ?_⟩⟩
 refine !!!⟨_,_,_,_,rfl,aX,rfl,_,rfl,bf !!!⟨?_⟩⟩
 refine bK (fun h=>?_) (fun h=>?_)
 ·have h:(8:Int)<(((ps.map p3).length:Nat):Int):=zA h
  rw[SH] at h
  exact⟨mx,fo (q2 (by unfold Bl;rw[zk (by omega)];rfl))⟩
 have h:¬ (8:Int)<(((ps.map p3).length:Nat):Int):=zO h
 rw[SH] at h
 have h8:ps.length≤8:=by omega
 unfold Bl at q1 q2
 rw[zq h8,zY] at q1 q2
 refine !⟨_,.inl rfl,?_⟩
 refine fm (fun d v=>∃p,d=p3 p∧v=.bl (fS cs p)) trivial (by show (ps.map p3).length≤_;omega) (fun d hd Q hQ=>?_) fun out ho p jO=>?_
 ·obtain⟨p,Ze,rfl⟩:=zg.mp hd
  exact !!⟨cs,p,rfl,hg,hp p Ze,hQ _ ⟨p,rfl,rfl⟩⟩
 have eo:out=(ps.map (fS cs)).map D.bl:=by
  have:∀{ps:List (Str×Str×Str)}{out:List D},Paired (fun d v=>∃p,d=p3 p∧v=.bl (fS cs p)) (ps.map p3) out→out=(ps.map (fS cs)).map D.bl:=by
   intro ps
   induction ps with
   |nil=>intro out h;cases h;rfl
   |cons x ps ih =>
    intro out h
    cases h with
    |cons r t =>
     obtain⟨p,e1,e2⟩:=r
     have:x=p:=by
      obtain⟨a,b,c⟩:=x
      obtain⟨a',b',c'⟩:=p
      unfold p3 at e1
      injection e1 with e1
      injection e1 with h1 e1
      injection e1 with h2 e1
      injection e1 with h3 _
      injection h1 with h1
      injection h2 with h2
      injection h3 with h3
      rw[show a=a' from h1,show b=b' from h2,show c=c' from h3]
     rw[e2,ih t,← this];rfl
  exact this ho
 subst eo
 refine⟨.ref p,ps.map (fS cs),rfl,aa,_,rfl,?_⟩
 rw[show (ps.map (fS cs)).all id=ps.all (fS cs) from all_map]
 refine bK (fun ha=>?_) (fun ha=>?_)
 ·have ha:=nt ha
  exact⟨mx,S,.new jO,q2 (by rw[ha];rfl)⟩
 have ha:=nf ha
 rw[ha,zY] at q1 q2
 refine !⟨_,.inl rfl,?_⟩
 refine comp_map (fun d=>match d with|.tup (x::_)=>x|_=>.aw) trivial (by show (ps.map p3).length≤_;omega) (fun d hd Q hQ=>?_) fun p2 gO=>?_
 ·obtain⟨p,Ze,rfl⟩:=zg.mp hd
  exact !!⟨hQ⟩
 have e3:(ps.map p3).map (fun d=>match d with|.tup (x::_)=>x|_=>.aw)=(ps.map Prod.fst).map D.str:=by rw[zw,zw];rfl
 rw[show (⟨ps.map p3,fun _=>True⟩:E_).xs=ps.map p3 from rfl,e3]
 have sb:Sub S ((S.set p (.lst ((ps.map (fS cs)).map D.bl))).set p2 (.lst ((ps.map Prod.fst).map D.str))):=(Sub.new jO).trans (.new gO)
 have CI:((S.set p (.lst ((ps.map (fS cs)).map D.bl))).set p2 (.lst ((ps.map Prod.fst).map D.str))) p2=some (.lst ((ps.map Prod.fst).map D.str)):=aa
 generalize (S.set p (.lst ((ps.map (fS cs)).map D.bl))).set p2 (.lst ((ps.map Prod.fst).map D.str))=S2 at sb CI ⊢
 refine !⟨ps.map Prod.fst,CI,by rw[zb];omega,_,rfl,_,rfl,.inl ⟨_,CI,_,rfl,?_⟩⟩
 have e4:decide ((((ir (ps.map Prod.fst)).length:Nat):Int)=((((ps.map Prod.fst).map D.str).length:Nat):Int))=decide ((ps.map Prod.fst).Nodup):=by
  rw[yG,← tK,zb];omega
 refine bK (fun hn=>?_) (fun hn=>?_)
 ·have hn:(!decide ((((ir (ps.map Prod.fst)).length:Nat):Int)=((((ps.map Prod.fst).map D.str).length:Nat):Int)))=true:=hn
  rw[e4] at hn
  exact⟨mx,S,sb,q2 (by rw[nt hn];rfl)⟩
 have hn:(!decide ((((ir (ps.map Prod.fst)).length:Nat):Int)=((((ps.map Prod.fst).map D.str).length:Nat):Int)))=false:=hn
 rw[e4] at hn
 rw[nf hn,zY] at q1 q2
 refine !!⟨wy,rfl,_,rfl,?_⟩
 refine bK (fun hw=>?_) (fun hw=>?_)
 ·exact⟨mx,S,sb,q2 (nt hw)⟩
 ·exact⟨S,sb,q1 (nf hw)⟩
theorem bz{p:Bool}{A B:Prop}(h:p=false)(q:B):if p=true then A else B:=by rw[h];exact bf q
theorem rq{p:Bool}{A B:Prop}(h:p=true)(q:A):if p=true then A else B:=by rw[h];exact cI q
def Bo(o:Str)(c:Str×Str)(v:D):Prop:=o = "is" ∨ (v≠.aw∧(o = "below" ∨ o = "above" ∨ (o = "begins" ∧ c.2 = "word")))
def Lf(cs:List (Str×Str))(d:D):Prop :=
 d=.tup [.str "every"]∨(∃ks:List Str,d=.tup [.str "key",.tup (ks.map .str)]∧ks.length≤8∧∀k∈ks,k∈KS) ∨
 ∃(o:Str) (c:Str×Str) (v:D),c∈cs∧Vg c.2 v∧Bo o c v∧d=.tup [.str o,.str c.1,v]
def Sg(cs:List (Str×Str)):Nat→D→Prop
 |0,_=>False
 |n+1,d=>Lf cs d∨(∃e,d=.tup [.str "not",e]∧Sg cs n e)∨∃(o:Str) (ds:List D),(o = "and" ∨ o = "or")∧d=.tup [.str o,.tup ds]∧ds.length≤2∧∀e∈ds,Sg cs n e
theorem L4{k:Str}{v:D}(h:Vg k v){S:av} : Gt S v:=by
 have h:=h.2
 cases v with
 |aw=>exact⟨⟨_,rfl⟩,fun z e=>by cases e⟩
 |int i=>exact⟨⟨_,rfl⟩,fun z e=>by cases e⟩
 |str z =>
  unfold bx at h
  simp only [zJ,zX] at h
  exact gt_str (by lia)
 |_=>cases h
inductive gN (ds:List D) (S:av) (R:KD) (Z:KX):Prop where
 |mk (es) (h0:ds=[.tup es]) (h1:es.length≤8) (h2:R (.bl true) S):gN ds S R Z
theorem oK(T:Txt w K mg t):Ok P w base T.dm 1 gN:=by
 refine T.dm.F.bU mn ?_
 rintro _ _ _ _ _ _ _ S R Z hr ⟨es,e,hl,q⟩
 subst e
 refine⟨_,(s1 (sr (sx (cb cG T.ay au (ac (dv 0) (ac (rP T.bj aV) an))) (Ij (cm i0 hr.u (cb aT T.aO aE (ac (dv 0) an)) (dg (v:=.int 8) T.kX ⟨_,rfl⟩ fun _=>aL _)))))),?_⟩
 refine !⟨_,_,_,_,rfl,aX,rfl,_,rfl,cI !!⟨?_⟩⟩
 have e1:decide (((es.length:Nat):Int)≤8)=true:=zq (by lia)
 show Fo S (R (.bl (decide (((es.length:Nat):Int)≤8))))
 rw[e1]
 exact fo q
inductive gs (ds:List D) (S:av) (R:KD) (Z:KX):Prop where
 |mk (cs o c v) (h0:ds=[.tup (cs.map az),.tup [.str o,.str c.1,v]]) (h1:Gd cs) (h2:c∈cs) (h3:Vg c.2 v) (h4:Bo o c v) (h5:R (.bl true) S):gs ds S R Z
theorem rA(T:Txt w K mg t):Ok P w base T.jh 4 gs:=by
 refine T.jh.F.bU jj ?_
 rintro _ _ _ _ _ _ _ S R Z hr ⟨cs,o,c,v,e,hg,hc,hv,ho,q⟩
 subst e
 have hn:∀k,(c.1,k)∈cs→k=c.2:=fun k hk=>by
  have:=eR hg.2.1 hk hc rfl
  rw[← this]
 refine⟨_,(sc (cn (i:=2) jj.nd (aI T.dJ (gr T) hr (ac (dv 0) (ac (ix hr.u (dv 1) di) an)))) (sc (si (twd (twor (bh i4 hr.u (dv 2) dn) (tw1 (cq (tv (aI T.je (jr T) hr (ac (dv 2) (ac (ix hr.u (dv 1) di) an)))))))) (s1 (sr db)) s0) (sc (si (bh br hr.u (ix hr.u (dv 1) di) ds) (s1 (sr db)) s0) (sc (si (twd (twand (bh br hr.u (ix hr.u (dv 1) di) ds) (tw1 (bh fF hr.u (dv 2) ds)))) (s1 (sr db)) s0) (s1 (sr (cm gZ hr.u (ix hr.u (dv 1) di) dn))))))),?_⟩
 refine !!!⟨cs,c.1,rfl,hg,nV (hg.2.2 c hc).1,fun k hk=>?_,fun hk=>absurd (zg.mpr ⟨c,hc,rfl⟩) hk⟩
 cases hn k hk
 refine !!⟨bf !!!⟨c.2,v,rfl,L4 hv,_,rfl,?_⟩⟩
 rw[hv.1]
 refine bf !!!⟨?_⟩
 rcases ho with rfl|⟨UB,ho⟩
 ·exact rq (by trivial) (fo q)
 have RW:ai v=false:=by cases v <;> first|rfl|exact absurd rfl UB
 have e9:(!ai v)=true:=by rw[RW];rfl
 have fin:Fo S (R (.bl (!ai v))):=by rw[e9];exact fo q
 rcases ho with rfl|rfl|⟨rfl,hw⟩
 ·refine bz (by trivial) !!!⟨bz (by trivial) !!⟨fin⟩⟩
 ·refine bz (by trivial) !!!⟨bz (by trivial) !!⟨fin⟩⟩
 ·refine bz (by trivial) !!!⟨rq (by trivial) !!⟨?_⟩⟩
  rw[hw]
  exact bz (by trivial) !!⟨fin⟩
theorem Km(h:z∈KS):z.cps.size≤1000:=zI (gq z h).2.1 (by decide)
inductive oM (ds:List D) (S:av) (R:KD) (Z:KX):Prop where
 |mk (cs n d) (h0:ds=[.tup (cs.map az),d]) (h1:Gd cs) (h2:Sg cs n d) (h3:R (.bl true) S):oM ds S R Z
theorem vt(T:Txt w K mg t):Ok P w base T.nM 5 oM:=by
 refine T.nM.F.bU vd ?_
 rintro _ _ _ _ _ _ _ S R Z hr ⟨cs,n,d,e,hg,hs,q⟩
 subst e
 refine⟨_,(sc (si (twd (twor (cq (tv (cb cG T.ay au (ac (dv 1) (ac (rP T.bj aV) an))))) (twor (bh br hr.u (cb aT T.aO aE (ac (dv 1) an)) di) (tw1 (cq (tv (cb cG T.ay au (ac (ix hr.u (dv 1) di) (ac (rP T.mh gT) an))))))))) (s1 (sr db)) s0) (sc (si (bh fF hr.u (mgk T.Es (by decide) (gK T.AS) (ix hr.u (dv 1) di)) (cb aT T.aO aE (ac (dv 1) an))) (s1 (sr db)) s0) (sc (si (bh D2 hr.u (ix hr.u (dv 1) di) (bD (ac ds (ac ds (ac ds (ac ds an)))))) (s1 (sr (aI T.jh (rA T) hr (ac (dv 0) (ac (dv 1) an))))) s0) (sc (si (bh br hr.u (ix hr.u (dv 1) di) ds) (s1 (sr (sx (aI T.dm (oK T) hr (ac (ix hr.u (dv 1) di) an)) (Ij (cb ki T.km fZ (ac (sA (N:=["key"]) (src:=[none]) (kM (ae w6) ["columns","thing"] rfl rfl (by trivial)) (Fc (ix hr.u (dv 1) di)) (qz (show (["key"]:List Str).Nodup by trivial)) (ba rfl) bb (fun _ _ _ _ _=>rQ) (fun _ _ _ _ _=>(aI T.kZ (gI T) hr (ac (dv 0) an)))) an)))))) s0) (sc (si (bh D2 hr.u (ix hr.u (dv 1) di) (bD (ac ds (ac ds an)))) (s1 (sr (aI T.dm (oK T) hr (ac (ix hr.u (dv 1) di) an)))) s0) (s1 (sr db))))))),?_⟩
 cases n with
 |zero=>exact hs.elim
 |succ n =>
 rcases hs with (rfl|⟨ks,rfl,Zg,AJ⟩|⟨o,c,v,hc,hv,ho,rfl⟩)|⟨e,rfl,he⟩|⟨o,es,ho,rfl,OG,_⟩
 ·refine !⟨_,_,_,_,rfl,aX,rfl,_,rfl,bf !!!⟨bz rfl !!⟨_,_,_,_,rfl,cB,rfl,_,rfl,bf ?_⟩⟩⟩
  refine !!!!!!⟨bz rfl ?_⟩
  exact !!⟨pz,rfl,rfl,_,rfl,bz (by trivial) !!!⟨bz (by trivial) !!⟨bH,rfl,rfl,_,rfl,bz (by trivial) (fo q)⟩⟩⟩
 ·refine !⟨_,_,_,_,rfl,aX,rfl,_,rfl,bf !!!⟨bz rfl !!⟨_,_,_,_,rfl,cB,rfl,_,rfl,bf ?_⟩⟩⟩
  refine !!!!!!⟨bz rfl ?_⟩
  refine !!⟨pz,rfl,rfl,_,rfl,bz (by trivial) !!!⟨rq (by trivial) ?_⟩⟩
  refine !!!⟨by rw[zb];exact Zg,_,rfl,cI !!⟨_,.inl rfl,?_⟩⟩
  refine comp_map (fun _=>.bl true) trivial (by show (ks.map D.str).length≤1000;rw[zb];lia) (fun d hd Q hQ=>?_) fun p hp=>?_
  ·obtain⟨k,hk,rfl⟩:=zg.mp hd
   refine !⟨.str k,rfl,gt_str (Km (AJ k hk)),?_⟩
   show Q (.bl (jY k)) S
   rw[(gq k (AJ k hk)).1];exact hQ
  ·have e2:(ks.map D.str).map (fun _=>D.bl true)=(ks.map fun _=>true).map D.bl:=by rw[zw,zw];rfl
   have e3:(ks.map fun _=>true).all id=true:=by rw[all_map];exact yc.mpr fun _ _=>rfl
   refine⟨.ref p,ks.map fun _=>true,rfl,?_,S,.new hp,?_⟩
   ·show (S.set p (.lst ((ks.map D.str).map _))) p=_
    rw[aa,e2]
   ·rw[e3];exact q
 ·have h4:o = "is" ∨ o = "below" ∨ o = "above" ∨ o = "begins" := by
   rcases ho with h|⟨_,h|h|⟨h,_⟩⟩
   ·exact .inl h
   ·exact .inr (.inl h)
   ·exact .inr (.inr (.inl h))
   ·exact .inr (.inr (.inr h))
  refine !⟨_,_,_,_,rfl,aX,rfl,_,rfl,bf !!!⟨bz rfl !!⟨_,_,_,_,rfl,cB,rfl,_,rfl,bf ?_⟩⟩⟩
  have fin:∀Zq:KX,gs [D.tup (cs.map az),.tup [.str o,.str c.1,v]] S (fun d S'=>Fo S' (R d)) Zq:=fun _=>⟨cs,o,c,v,rfl,hg,hc,hv,ho,fo q⟩
  rcases h4 with rfl|rfl|rfl|rfl
  ·exact !!!!!!⟨bz rfl !!⟨pz,rfl,rfl,_,rfl,rq (by trivial) !!⟨(fin _)⟩⟩⟩
  ·exact !!!!!!⟨bz rfl !!⟨pz,rfl,rfl,_,rfl,rq (by trivial) !!⟨(fin _)⟩⟩⟩
  ·exact !!!!!!⟨bz rfl !!⟨pz,rfl,rfl,_,rfl,rq (by trivial) !!⟨(fin _)⟩⟩⟩
  ·exact !!!!!!⟨bz rfl !!⟨pz,rfl,rfl,_,rfl,rq (by trivial) !!⟨(fin _)⟩⟩⟩
 ·refine !⟨_,_,_,_,rfl,aX,rfl,_,rfl,bf !!!⟨bz rfl !!⟨_,_,_,_,rfl,cB,rfl,_,rfl,bf ?_⟩⟩⟩
  refine !!!!!!⟨bz rfl ?_⟩
  exact !!⟨pz,rfl,rfl,_,rfl,bz (by trivial) !!!⟨bz (by trivial) !!⟨bH,rfl,rfl,_,rfl,bz (by trivial) (fo q)⟩⟩⟩
 ·have h8:es.length≤8:=by lia
  rcases ho with rfl|rfl
  ·refine !⟨_,_,_,_,rfl,aX,rfl,_,rfl,bf !!!⟨bz rfl !!⟨_,_,_,_,rfl,cB,rfl,_,rfl,bf ?_⟩⟩⟩
   refine !!!!!!⟨bz rfl ?_⟩
   exact !!⟨pz,rfl,rfl,_,rfl,bz (by trivial) !!!⟨bz (by trivial) !!⟨bH,rfl,rfl,_,rfl,rq (by trivial) !!!⟨h8,fo q⟩⟩⟩⟩
  ·refine !⟨_,_,_,_,rfl,aX,rfl,_,rfl,bf !!!⟨bz rfl !!⟨_,_,_,_,rfl,cB,rfl,_,rfl,bf ?_⟩⟩⟩
   refine !!!!!!⟨bz rfl ?_⟩
   exact !!⟨pz,rfl,rfl,_,rfl,bz (by trivial) !!!⟨bz (by trivial) !!⟨bH,rfl,rfl,_,rfl,rq (by trivial) !!!⟨h8,fo q⟩⟩⟩⟩
inductive iD (ds:List D) (S:av) (R:KD) (Z:KX):Prop where
 |mk (l es cs m) (h0:ds=[.ref l]) (h1:S l=some (.lst es)) (h2:es.length≤16) (h3:(∀e∈es,Sg cs (m+1) e)) (h4:∀p fs,fs.length≤2 * es.length→(∀f∈fs,Sg cs m f)→S p=none→R (.ref p) (S.set p (.lst fs))):iD ds S R Z
theorem nZ(T:Txt w K mg t):Ok P w base T.gk 1 iD:=by
 refine T.gk.F.bU dP ?_
 rintro _ _ _ _ _ _ _ S R Z hr ⟨l,es,cs,m,e,hl,h8,OG,q⟩
 subst e
 refine⟨_,(sc (cn (i:=1) dP.nd (dS an)) (sc (wO (Gs (il (dv 0)) (gn (i:=2) dP.nd) (sc (wO (si (bh br hr.u (ix hr.u (dv 2) di) ds) (s1 (se (bm zT yd ye dU (dv 1) (ac (ix hr.u (dv 2) di) an)))) s0)) (s1 (si (bh D2 hr.u (ix hr.u (dv 2) di) (bD (ac ds (ac ds an)))) (s1 (se (bm zT PySem.F.slot_list_extend PySem.F.type_list_extend Ec (dv 1) (ac (ix hr.u (dv 2) di) an)))) s0))))) (s1 (sr (dv 1))))),?_⟩
 refine⟨A8,fun f hf=>?_⟩
 have LY:l≠f:=gW hl hf
 refine⟨fun aG S'=>∃o fs,aG=[some (.ref l),some (.ref f),o]∧S'=S.set f (.lst fs)∧fs.length≤2 * es.length∧∀x∈fs,Sg cs m x,?_,?_⟩
 ·refine !⟨es,(ag LY).trans hl,?_⟩
  refine⟨fun i aG S'=>∃o fs,aG=[some (.ref l),some (.ref f),o]∧S'=S.set f (.lst fs)∧fs.length≤2 * i∧∀x∈fs,Sg cs m x,⟨none,[],rfl,rfl,zm _,fun _ h=>(nomatch h)⟩,?_,?_,?_⟩
  ·rintro i aG S' ⟨o,fs,rfl,rfl,_⟩
   exact (ag LY).trans hl
  ·rintro i e aG S' he ⟨o,fs,rfl,rfl,Je,PK⟩
   have he:es[i]?=some e:=he
   have hem:=OG e (zC he)
   have hi:i<es.length:=(ze.mp he).1
   have PL:(S.set f (.lst fs)) f=some (.lst fs):=aa
   have keep:∀e:D,∃o EY,[some (D.ref l),some (D.ref f),some e]=[some (.ref l),some (.ref f),o]∧S.set f (.lst fs)=S.set f (.lst EY)∧EY.length≤2 * (i+1)∧∀x∈EY,Sg cs m x:=fun e=>⟨_,fs,rfl,rfl,by lia,PK⟩
   have more:∀(e:D) (ds:List D),ds.length≤2→(∀x∈ds,Sg cs m x)→∃o EY,[some (D.ref l),some (D.ref f),some e]=[some (.ref l),some (.ref f),o]∧(S.set f (.lst fs)).set f (.lst (fs++ds))=S.set f (.lst EY)∧EY.length≤2 * (i+1)∧∀x∈EY,Sg cs m x:=fun e ds h1 h2=>⟨_,fs++ds,rfl,dG,by rw[zE];lia,fun x hx=>(zL.mp hx).elim (PK x) (h2 x)⟩
   have abn:fs.length+2≤1000:=by lia
   rcases hem with (rfl|⟨ks,rfl,_,_⟩|⟨o,c,v,_,_,ho,rfl⟩)|⟨e',rfl,WE⟩|⟨o,ds,ho,rfl,Zh,hd⟩
   ·refine⟨fun pI S2=>pI=_∧S2=S.set f (.lst fs),!!!⟨bz (by trivial) (fo ⟨rfl,rfl⟩)⟩,?_⟩
    rintro _ _ ⟨rfl,rfl⟩
    exact !!⟨bH,rfl,rfl,_,rfl,bz (by trivial) (keep _)⟩
   ·refine⟨fun pI S2=>pI=_∧S2=S.set f (.lst fs),!!!⟨bz (by trivial) (fo ⟨rfl,rfl⟩)⟩,?_⟩
    rintro _ _ ⟨rfl,rfl⟩
    exact !!⟨bH,rfl,rfl,_,rfl,bz (by trivial) (keep _)⟩
   ·rcases ho with rfl|⟨_,rfl|rfl|⟨rfl,_⟩⟩
    ·refine⟨fun pI S2=>pI=_∧S2=S.set f (.lst fs),!!!⟨bz (by trivial) (fo ⟨rfl,rfl⟩)⟩,?_⟩
     rintro _ _ ⟨rfl,rfl⟩
     exact !!⟨bH,rfl,rfl,_,rfl,bz (by trivial) (keep _)⟩
    ·refine⟨fun pI S2=>pI=_∧S2=S.set f (.lst fs),!!!⟨bz (by trivial) (fo ⟨rfl,rfl⟩)⟩,?_⟩
     rintro _ _ ⟨rfl,rfl⟩
     exact !!⟨bH,rfl,rfl,_,rfl,bz (by trivial) (keep _)⟩
    ·refine⟨fun pI S2=>pI=_∧S2=S.set f (.lst fs),!!!⟨bz (by trivial) (fo ⟨rfl,rfl⟩)⟩,?_⟩
     rintro _ _ ⟨rfl,rfl⟩
     exact !!⟨bH,rfl,rfl,_,rfl,bz (by trivial) (keep _)⟩
    ·refine⟨fun pI S2=>pI=_∧S2=S.set f (.lst fs),!!!⟨bz (by trivial) (fo ⟨rfl,rfl⟩)⟩,?_⟩
     rintro _ _ ⟨rfl,rfl⟩
     exact !!⟨bH,rfl,rfl,_,rfl,bz (by trivial) (keep _)⟩
   ·refine⟨fun pI S2=>pI=_∧S2=(S.set f (.lst fs)).set f (.lst (fs++[e'])),!!!⟨rq (by trivial) !⟨⟨rfl,_,PL⟩,_,rfl,_,rfl,f,_,_,rfl,rfl,PL,bg (by lia),fo ⟨rfl,rfl⟩⟩⟩,?_⟩
    rintro _ _ ⟨rfl,rfl⟩
    exact !!⟨bH,rfl,rfl,_,rfl,bz (by trivial) (more _ [e'] (by simp) (fun x hx=>by rw[zG.mp hx];exact WE))⟩
   ·rcases ho with rfl|rfl
    ·refine⟨fun pI S2=>pI=_∧S2=S.set f (.lst fs),!!!⟨bz (by trivial) (fo ⟨rfl,rfl⟩)⟩,?_⟩
     rintro _ _ ⟨rfl,rfl⟩
     exact !!⟨bH,rfl,rfl,_,rfl,rq (by trivial) !⟨⟨rfl,_,PL⟩,_,rfl,_,rfl,f,_,_,rfl,rfl,PL,sm (by lia),more _ ds Zh hd⟩⟩
    ·refine⟨fun pI S2=>pI=_∧S2=S.set f (.lst fs),!!!⟨bz (by trivial) (fo ⟨rfl,rfl⟩)⟩,?_⟩
     rintro _ _ ⟨rfl,rfl⟩
     exact !!⟨bH,rfl,rfl,_,rfl,rq (by trivial) !⟨⟨rfl,_,PL⟩,_,rfl,_,rfl,f,_,_,rfl,rfl,PL,sm (by lia),more _ ds Zh hd⟩⟩
  ·rintro aG S' ⟨o,fs,rfl,rfl,Je,PK⟩
   exact fo ⟨o,fs,rfl,rfl,Je,PK⟩
 ·rintro aG S' ⟨o,fs,rfl,rfl,Je,PK⟩
  exact !⟨fo (q f fs Je PK hf)⟩
inductive kB (ds:List D) (S:av) (R:KD) (Z:KX):Prop where
 |mk (cs d) (h0:ds=[.tup (cs.map az),d]) (h1:Gd cs) (h2:Sg cs 4 d) (h3:R .aw S):kB ds S R Z
theorem fu(T:Txt w K mg t):Ok P w base T.dZ 6 kB:=by
 refine T.dZ.F.bU bF ?_
 rintro _ _ _ _ _ _ _ S R Z hr ⟨cs,d,e,hg,hd,q⟩
 subst e
 refine⟨_,(sc (cn (i:=2) bF.nd (dS (ac (dv 1) an))) (sc (cn (i:=3) bF.nd di) (sc (cn (i:=4) bF.nd di) (s1 (YY (bh nr hr.u (cb aT T.aO aE (ac (dv 2) an)) di) (sc (Y0 (i:=3) bF.nd di) (sc (Y0 (i:=4) bF.nd (cb aT T.aO aE (ac (dv 2) an))) (sc (si (twd (twor (bh nr hr.u (dv 3) (dg (v:=.int 8) T.uQ ⟨_,rfl⟩ fun _=>aL _)) (tw1 (bh nr hr.u (dv 4) (dg (v:=.int 200) T.jc ⟨_,rfl⟩ fun _=>aL _))))) (s1 (qy ⟨T.g8⟩ T.oy (ac ds an))) s0) (sc (si (cq (tv (cb ki T.km fZ (ac (sA (N:=["thing","columns"]) (src:=[none,some 0]) (kM (ae sE) ["columns","sieve","level","deep","parts"] rfl rfl (by trivial)) (il (dv 2)) (qz (show (["thing","columns"]:List Str).Nodup by trivial)) (ba rfl) bb (fun _ _ _ _ _=>rQ) (fun _ _ _ _ _=>(aI T.nM (vt T) hr (ac (dv 1) (ac (dv 0) an))))) an)))) (s1 (qy ⟨T.g8⟩ T.oy (ac ds an))) s0) (s1 (cn (i:=2) bF.nd (aI T.gk (nZ T) hr (ac (dv 2) an))))))))))))),?_⟩
 refine !⟨mx,fun l0 Uv=>?_⟩
 refine⟨fun m aG S'=>∃(l:Addr) (es:List D) (dp p:Nat),aG=[some (.tup (cs.map az)),some d,some (.ref l),some (.int dp),some (.int p)]∧S' l=some (.lst es)∧Sub S S'∧(∀e∈es,Sg cs m e)∧dp+m=4∧p≤16 * dp∧es.length * 2 ^ m≤16,⟨4,l0,[d],0,0,rfl,aa,.new Uv,fun e he=>by rw[zG.mp he];exact hd,rfl,zm _,zm 16⟩,?_⟩
 rintro m aG S' ⟨l,es,dp,p,rfl,hl,sb,OG,hdp,hp,h8⟩
 refine !!⟨.inl ⟨_,hl,_,rfl,?_⟩⟩
 refine bK (fun h1=>?_) (fun h1=>?_)
 ·have r_:0<es.length:=by
   have h1:(0:Int)<((es.length:Nat):Int):=zA h1
   lia
  obtain⟨e0,he0⟩:=List.exists_mem_of_length_pos r_
  obtain⟨n,rfl⟩:∃n,m=n+1:=by
   cases m with
   |zero=>exact (OG e0 he0).elim
   |succ n=>exact⟨n,rfl⟩
  have hle:es.length≤16:=zI (Nat.le_mul_of_pos_right _ (Nat.two_pow_pos _)) h8
  refine !!!!!⟨.inl ⟨_,hl,_,rfl,?_⟩⟩
  refine !!⟨bz (zk (by lia)) !!⟨bz (zk (by lia)) ?_⟩⟩
  refine !⟨es,hl,?_⟩
  refine comp_map (fun _=>.bl true) hl (by show es.length≤1000;lia) (fun e he Q hQ=>?_) fun p1 vp=>?_
  ·exact !!⟨cs,_,e,rfl,hg,OG e he,hQ⟩
  have e2:es.map (fun _=>D.bl true)=(es.map fun _=>true).map D.bl:=by rw[zw];rfl
  have e3:(es.map fun _=>true).all id=true:=by rw[all_map];exact yc.mpr fun _ _=>rfl
  refine⟨.ref p1,es.map fun _=>true,rfl,?_,_,rfl,?_⟩
  ·show (S'.set p1 (.lst (es.map _))) p1=_
   rw[aa,e2]
  rw[e3]
  refine bf ?_
  have s1:=sb.trans (.new (c:=.lst (es.map fun _=>D.bl true)) vp)
  have Kf:(S'.set p1 (.lst (es.map fun _=>D.bl true))) l=some (.lst es):=(ag (gW hl vp)).trans hl
  refine !⟨l,es,cs,n,rfl,Kf,hle,OG,fun p2 fs h1 h2 h3=>?_⟩
  refine⟨n,yE n,p2,fs,dp+1,p+es.length,?_,aa,s1.trans (.new h3),h2,by lia,by lia,?_⟩
  ·show [_,_,_,some (D.int (((dp:Nat):Int)+1)),some (D.int (((p:Nat):Int)+((es.length:Nat):Int)))]=_
   rw[show (((dp:Nat):Int)+1)=((dp+1:Nat):Int) by lia,show (((p:Nat):Int)+((es.length:Nat):Int))=((p+es.length:Nat):Int) by lia]
  ·rw[Nat.pow_succ] at h8
   exact zI (Nat.mul_le_mul_right _ h1) (by rw[Nat.mul_comm 2,Nat.mul_assoc,Nat.mul_comm 2];exact h8)
 ·exact⟨S,sb,q⟩
def Ko(cs:List (Str×Str))(z:Str):Nat:=(cs.map Prod.fst).idxOf z
def ak(cs:List (Str×Str))(ws:List D)(z:Str):D:=(ws[Ko cs z]?).getD .aw
def aq(r:Str×List D):D:=.tup [.str r.1,.tup r.2]
theorem rB:∀{l:List α}{m:List β},Paired rel l m→∀{i:Nat}{a:α},l[i]?=some a→∃b,m[i]?=some b∧rel a b
 |_,_,.nil,_,_,h=>by simp at h
 |_,_,.cons r t,0,a,h=>by
  rw[List.getElem?_cons_zero] at h ⊢
  cases h
  exact !⟨r⟩
 |_,_,.cons r t,i+1,a,h=>by
  rw[List.getElem?_cons_succ] at h ⊢
  exact rB t h
theorem rC(hg:Gd cs)(h:c∈cs):cs[Ko cs c.1]?=some c∧(cs.map Prod.fst)[Ko cs c.1]?=some c.1:=by
 have hm:c.1∈cs.map Prod.fst:=zg.mpr ⟨c,h,rfl⟩
 have hi:(cs.map Prod.fst).idxOf c.1<(cs.map Prod.fst).length:=List.idxOf_lt_length_of_mem hm
 have e1:(cs.map Prod.fst)[(cs.map Prod.fst).idxOf c.1]?=some c.1:=by rw[zf hi,List.getElem_idxOf]
 refine⟨?_,e1⟩
 obtain⟨j,ej⟩:=List.getElem?_of_mem h
 have ej1:(cs.map Prod.fst)[j]?=some c.1:=by rw[zp,ej];rfl
 obtain⟨b1,c1⟩:=ze.mp e1
 obtain⟨b2,c2⟩:=ze.mp ej1
 have:=(List.getElem_inj hg.2.1 (h₀:=b1) (h₁:=b2)).mp (c1.trans c2.symm)
 unfold Ko
 rw[this]
 exact ej
theorem pS(hg:Gd cs)(hw:Wg cs ws)(h:c∈cs):ws[Ko cs c.1]?=some (ak cs ws c.1)∧Vg c.2 (ak cs ws c.1):=by
 obtain⟨v,e,r⟩:=rB hw (rC hg h).1
 unfold ak
 rw[e]
 exact⟨rfl,r⟩
def kC:D→D→Bool
 |.aw,.aw=>true
 |.int i,.int j=>decide (i=j)
 |.str i,.str j=>decide (i=j)
 |_,_=>false
theorem b_(ha:bx a=true)(hb:bx b=true):kC a b=true↔a=b:=by
 cases a <;> cases b <;> first|(cases ha;done)|(cases hb;done)|simp [kC]
theorem xE(ha:bx a=true)(hb:bx b=true)(q:R (.bl (if neg then !kC a b else kC a b)) S):E7 neg a b S R:=by
 have mix:∀{a b:D},bx a=true→bx b=true→(∀p q,Dp S a p→Dp S b q→PyData.eqv p q=kC a b)→(∀i j,a=.int i→b≠.int j)→(∀i j,a=.str i→b≠.str j)→R (.bl (if neg then !kC a b else kC a b)) S→E7 neg a b S R:=by
  intro a b ha hb h h1 h2 q
  obtain⟨p,p1,p2,p3⟩:=Ly.plain (S:=S) ha
  obtain⟨r,r1,r2,r3⟩:=Ly.plain (S:=S) hb
  have e:=h p r p1 r1
  obtain⟨p',p1',p2',p3'⟩:=Ly.dl (Ly.plain (S:=S) ha)
  cases a <;> cases b <;> first|(cases ha;done)|(cases hb;done)|exact absurd rfl (h1 _ _ rfl)|exact absurd rfl (h2 _ _ rfl)|exact⟨p,r,p1,r1,p2,r2,.inl (by lia),by rw[e];exact q⟩
 cases a with
 |aw =>
  cases b with
  |aw=>exact mix ha hb (fun p q h1 h2=>by simp only [Dp] at h1 h2;subst h1 h2;rfl) nofun nofun q
  |int j=>exact mix ha hb (fun p q h1 h2=>by simp only [Dp] at h1 h2;subst h1 h2;rfl) nofun nofun q
  |str j=>exact mix ha hb (fun p q h1 h2=>by simp only [Dp] at h1 h2;subst h1 h2;rfl) nofun nofun q
  |_=>cases hb
 |int i =>
  cases b with
  |aw=>exact mix ha hb (fun p q h1 h2=>by simp only [Dp] at h1 h2;subst h1 h2;rfl) nofun nofun q
  |int j=>exact q
  |str j=>exact mix ha hb (fun p q h1 h2=>by simp only [Dp] at h1 h2;subst h1 h2;rfl) nofun nofun q
  |_=>cases hb
 |str i =>
  cases b with
  |aw=>exact mix ha hb (fun p q h1 h2=>by simp only [Dp] at h1 h2;subst h1 h2;rfl) nofun nofun q
  |int j=>exact mix ha hb (fun p q h1 h2=>by simp only [Dp] at h1 h2;subst h1 h2;rfl) nofun nofun q
  |str j=>exact q
  |_=>cases hb
 |_=>cases ha
def sR:D→D→Bool
 |.int i,.int j=>decide (i<j)
 |.str i,.str j=>tG i j
 |_,_=>false
def stP:D→D→Bool
 |.str i,.str j=>PySem.Txt.startswith i j
 |_,_=>false
def CK(o:Str)(a b:D):Bool:=if o = "is" then kC a b else if ai a then false else if o = "below" then sR a b else if o = "above" then sR b a else stP a b
def EH:D→List D
 |.tup ds=>ds
 |_=>[]
def SI(cs:List (Str×Str))(r:Str×List D)(f:D→Bool):D→Bool
 |.tup [.str _]=>true
 |.tup [.str o,e]=>if o = "not" then !f e else if o = "key" then y8 (lW (.str r.1)) ((EH e).map lW) else if o = "and" then (EH e).all f else (EH e).any f
 |.tup [.str o,.str z,v]=>CK o (ak cs r.2 z) v
 |_=>false
def aU(cs:List (Str×Str))(r:Str×List D):Nat→D→Bool
 |0,_=>false
 |n+1,d=>SI cs r (aU cs r n) d
theorem CL(cs:List (Str×Str))(r:Str×List D)(n:Nat)(o:Str)(e:D):aU cs r (n+1) (.tup [.str o,e])=if o = "not" then !aU cs r n e else if o = "key" then y8 (lW (.str r.1)) ((EH e).map lW) else if o = "and" then (EH e).all (aU cs r n) else (EH e).any (aU cs r n):=rfl
theorem SJ(cs:List (Str×Str))(r:Str×List D)(n:Nat)(o z:Str)(v:D):aU cs r (n+1) (.tup [.str o,.str z,v])=CK o (ak cs r.2 z) v:=rfl
theorem mG(cs:List (Str×Str))(r:Str×List D)(n:Nat)(ks:List D):aU cs r (n+1) (.tup [.str "key",.tup ks])=y8 (lW (.str r.1)) (ks.map lW):=by
 rw[CL,if_neg (by trivial),if_pos rfl];rfl
theorem mH(cs:List (Str×Str))(r:Str×List D)(n:Nat)(e:D):aU cs r (n+1) (.tup [.str "not",e])=!aU cs r n e:=by
 rw[CL,if_pos rfl]
theorem mI(cs:List (Str×Str))(r:Str×List D)(n:Nat)(es:List D):aU cs r (n+1) (.tup [.str "and",.tup es])=es.all (aU cs r n):=by
 rw[CL,if_neg (by trivial),if_neg (by trivial),if_pos rfl];rfl
theorem vA(cs:List (Str×Str))(r:Str×List D)(n:Nat)(es:List D):aU cs r (n+1) (.tup [.str "or",.tup es])=es.any (aU cs r n):=by
 rw[CL,if_neg (by trivial),if_neg (by trivial),if_neg (by trivial)];rfl
theorem vB{k:Str}(ha:Vg k a)(hb:Vg k b)(na:a≠.aw)(nb:b≠.aw):(∃i j,a=.int i∧b=.int j)∨∃i j,a=.str i∧b=.str j:=by
 obtain⟨a1,a2⟩:=ha
 obtain⟨b1,b2⟩:=hb
 cases a with
 |aw=>exact absurd rfl na
 |int i =>
  cases b with
  |aw=>exact absurd rfl nb
  |int j=>exact .inl ⟨i,j,rfl,rfl⟩
  |str j =>
   exfalso
   unfold jo at a1 b1
   simp only [ai,yN] at a1 b1
   by_cases e:k = "number"
   ·rw[if_pos e] at b1;cases b1
   ·rw[if_neg e] at a1;cases a1
  |_=>cases b2
 |str i =>
  cases b with
  |aw=>exact absurd rfl nb
  |str j=>exact .inr ⟨i,j,rfl,rfl⟩
  |int j =>
   exfalso
   unfold jo at a1 b1
   simp only [ai,yN] at a1 b1
   by_cases e:k = "number"
   ·rw[if_pos e] at a1;cases a1
   ·rw[if_neg e] at b1;cases b1
  |_=>cases b2
 |_=>cases a2
theorem CM(h:Vg "word" a)(n:a≠.aw):∃z,a=.str z:=by
 obtain⟨h1,h2⟩:=h
 cases a with
 |aw=>exact absurd rfl n
 |str z=>exact⟨z,rfl⟩
 |int i =>
  unfold jo at h1
  rw[if_neg (by trivial)] at h1
  cases h1
 |_=>cases h2
theorem bw(h:ai a=false):a≠.aw:=by rintro rfl;cases h
inductive lA (ds:List D) (S:av) (R:KD) (Z:KX):Prop where
 |mk (cs r c) (h0:ds=[.tup (cs.map az),aq r,.str c.1]) (h1:Gd cs) (h2:Wg cs r.2) (h3:c∈cs) (h4:R (ak cs r.2 c.1) S):lA ds S R Z
theorem cZ(T:Txt w K mg t):Ok P w base T.ck 2 lA:=by
 refine T.ck.F.bU xn ?_
 rintro _ _ _ _ _ _ _ S R Z hr ⟨cs,r,c,e,hg,hw,hc,q⟩
 subst e
 obtain⟨n1,n2⟩:=rC hg hc
 refine⟨_,(s1 (sr (ix hr.u (ix hr.u (dv 1) di) (bm zT PySem.F.slot_list_index PySem.F.type_list_index Gi (aI T.mj (oG T) hr (ac (dv 0) an)) (ac (dv 2) an))))),?_⟩
 refine !!!⟨cs,rfl,hg.1,fun p hp=>?_⟩
 refine⟨⟨rfl,_,aa⟩,_,rfl,(cs.map Prod.fst).map D.str,.str c.1,Ko cs c.1,rfl,aa,rfl,?_,⟨.str c.1,by rw[zp,n2];rfl,by show (c.1 == c.1)=true;simp⟩,?_,?_⟩
 ·rw[List.all_map];exact yc.mpr fun _ _=>rfl
 ·intro m u hm hu
  rw[zp] at hu
  cases e:(cs.map Prod.fst)[m]? with
  |none=>rw[e] at hu;cases hu
  |some z' =>
   rw[e] at hu
   cases hu
   show (z' == c.1)=false
   have:z'≠c.1:=fun q=>by
    subst q
    obtain⟨b1,c1⟩:=ze.mp e
    obtain⟨b2,c2⟩:=ze.mp n2
    have:=(List.getElem_inj hg.2.1 (h₀:=b1) (h₁:=b2)).mp (c1.trans c2.symm)
    lia
   simpa using this
 ·exact⟨_,df (pS hg hw hc).1,S,.new hp,q⟩
inductive fw (ds:List D) (S:av) (R:KD) (Z:KX):Prop where
 |mk (o a b c) (h0:ds=[.str o,a,b]) (h1:Vg c.2 a) (h2:Vg c.2 b) (h3:Bo o c b) (h4:R (.bl (CK o a b)) S):fw ds S R Z
theorem pA(T:Txt w K mg t):Ok P w base T.g_ 1 fw:=by
 refine T.g_.F.bU pj ?_
 rintro _ _ _ _ _ _ _ S R Z hr ⟨o,a,b,c,e,ha,hb,ho,q⟩
 subst e
 refine⟨_,(sc (si (bh br hr.u (dv 0) ds) (s1 (sr (cm br hr.u (dv 1) (dv 2)))) s0) (sc (si (bh i4 hr.u (dv 1) dn) (s1 (sr db)) s0) (sc (si (bh br hr.u (dv 0) ds) (s1 (sr (cm sy hr.u (dv 1) (dv 2)))) s0) (sc (si (bh br hr.u (dv 0) ds) (s1 (sr (cm nr hr.u (dv 1) (dv 2)))) s0) (s1 (sr (bm PySem.F.plainAttrs_str PySem.F.slot_str_startswith PySem.F.type_str_startswith Gj (dv 1) (ac (dv 2) an)))))))),?_⟩
 unfold CK at q
 rcases ho with rfl|⟨nb,ho⟩
 ·rw[if_pos rfl] at q
  exact !!⟨rq (by trivial) !!⟨xE ha.2 hb.2 (fo q)⟩⟩
 ·have ne:∀{A B:Bool},o ≠ "is" → R (.bl (if o = "is" then A else B)) S→R (.bl B) S:=fun h q=>by rw[if_neg h] at q;exact q
  rcases ho with rfl|rfl|⟨rfl,hk⟩
  ·rw[if_neg (by trivial)] at q
   refine !!⟨bz (by trivial) !!⟨bK (fun h=>?_) (fun h=>?_)⟩⟩
   ·rw[if_pos h] at q;exact fo q
   ·rw[if_neg (by rw[show ai a=false from h];exact zd),if_pos rfl] at q
    refine !!⟨rq (by trivial) !!⟨?_⟩⟩
    rcases vB ha hb (bw h) nb with ⟨i,j,rfl,rfl⟩|⟨i,j,rfl,rfl⟩ <;> exact fo q
  ·rw[if_neg (by trivial)] at q
   refine !!⟨bz (by trivial) !!⟨bK (fun h=>?_) (fun h=>?_)⟩⟩
   ·rw[if_pos h] at q;exact fo q
   ·rw[if_neg (by rw[show ai a=false from h];exact zd),if_neg (by trivial),if_pos rfl] at q
    refine !!⟨bz (by trivial) !!⟨rq (by trivial) !!⟨?_⟩⟩⟩
    rcases vB ha hb (bw h) nb with ⟨i,j,rfl,rfl⟩|⟨i,j,rfl,rfl⟩ <;> exact fo q
  ·rw[if_neg (by trivial)] at q
   refine !!⟨bz (by trivial) !!⟨bK (fun h=>?_) (fun h=>?_)⟩⟩
   ·rw[if_pos h] at q;exact fo q
   ·rw[if_neg (by rw[show ai a=false from h];exact zd),if_neg (by trivial),if_neg (by trivial)] at q
    refine !!⟨bz (by trivial) !!⟨bz (by trivial) ?_⟩⟩
    rw[hk] at ha hb
    obtain⟨i,rfl⟩:=CM ha (bw h)
    obtain⟨j,rfl⟩:=CM hb nb
    exact !⟨rfl,_,rfl,i,j,rfl,rfl,fo q⟩
def OH(n:Nat):iL:=fun ds S R _=>∃cs d r,ds=[.tup (cs.map az),d,aq r]∧Gd cs∧Sg cs n d∧Wg cs r.2∧R (.bl (aU cs r n d)) S
theorem jQ(T:Txt w K mg t):∀n,Ok P w base T.passes (3+n) (OH n)
 |0=>by
  refine T.passes.F.ok (k:=2) tX (by rintro ds S R Z ⟨_,_,_,e,_⟩;exact by rw[e];rfl) (by rintro fK A outer s H E ds S R Z hr ⟨cs,d,r,e,hg,hs,_⟩;exact hs.elim)
 |n+1=>by
  refine T.passes.F.ok (k:=3+n) tX (by rintro ds S R Z ⟨_,_,_,e,_⟩;rw[e];rfl) ?_
  rintro _ _ _ _ _ _ _ S R Z hr ⟨cs,d,r,e,hg,hs,hw,q⟩
  subst e
  refine⟨_,(sc (si (bh br hr.u (ix hr.u (dv 1) di) ds) (s1 (sr db)) s0) (sc (si (bh br hr.u (ix hr.u (dv 1) di) ds) (s1 (sr (cm D2 hr.u (ix hr.u (dv 2) di) (ix hr.u (dv 1) di)))) s0) (sc (si (bh br hr.u (ix hr.u (dv 1) di) ds) (s1 (sr (Q5 (aI T.passes (jQ T n) hr (ac (dv 0) (ac (ix hr.u (dv 1) di) (ac (dv 2) an))))))) s0) (sc (si (bh br hr.u (ix hr.u (dv 1) di) ds) (s1 (sr (cb ki T.km fZ (ac (sA (N:=["inner","columns","row"]) (src:=[none,some 0,some 2]) (kM (ae w9) ["columns","sieve","row"] rfl rfl (by trivial)) (Fc (ix hr.u (dv 1) di)) (qz (show (["inner","columns","row"]:List Str).Nodup by trivial)) (ba rfl) bb (fun _ _ _ _ _=>rQ) (fun _ _ _ _ _=>(aI T.passes (jQ T n) hr (ac (dv 1) (ac (dv 0) (ac (dv 2) an)))))) an)))) s0) (sc (si (bh br hr.u (ix hr.u (dv 1) di) ds) (s1 (sr (cb Ro T.Sn Nr (ac (sA (N:=["inner","columns","row"]) (src:=[none,some 0,some 2]) (kM (ae w9) ["columns","sieve","row"] rfl rfl (by trivial)) (Fc (ix hr.u (dv 1) di)) (qz (show (["inner","columns","row"]:List Str).Nodup by trivial)) (ba rfl) bb (fun _ _ _ _ _=>rQ) (fun _ _ _ _ _=>(aI T.passes (jQ T n) hr (ac (dv 1) (ac (dv 0) (ac (dv 2) an)))))) an)))) s0) (s1 (sr (aI T.g_ (pA T) hr (ac (ix hr.u (dv 1) di) (ac (aI T.ck (cZ T) hr (ac (dv 0) (ac (dv 2) (ac (ix hr.u (dv 1) di) an)))) (ac (ix hr.u (dv 1) di) an))))))))))),?_⟩
  rcases hs with (rfl|⟨ks,rfl,Zg,AJ⟩|⟨o,c,v,hc,hv,ho,rfl⟩)|⟨e,rfl,he⟩|⟨o,es,ho,rfl,OG,V1⟩
  ·exact !!!⟨rq (by trivial) (fo q)⟩
  ·refine !!!⟨bz (by trivial) !!!⟨rq (by trivial) ?_⟩⟩
   refine !!!!⟨rfl,?_,?_⟩
   ·rw[List.all_map];exact yc.mpr fun _ _=>rfl
   ·rw[mG] at q
    exact fo q
  ·rw[SJ] at q
   have fin:∀Zq,fw [D.str o,ak cs r.2 c.1,v] S (fun d S'=>Fo S' (R d)) Zq:=fun _=>⟨o,_,v,c,rfl,(pS hg hw hc).2,hv,ho,fo q⟩
   have h4:o = "is" ∨ o = "below" ∨ o = "above" ∨ o = "begins" := by
    rcases ho with h|⟨_,h|h|⟨h,_⟩⟩
    ·exact .inl h
    ·exact .inr (.inl h)
    ·exact .inr (.inr (.inl h))
    ·exact .inr (.inr (.inr h))
   rcases h4 with rfl|rfl|rfl|rfl
   ·exact !!!⟨bz (by trivial) !!!⟨bz (by trivial) !!!⟨bz (by trivial) !!!⟨bz (by trivial) !!!⟨bz (by trivial) !!!!!!⟨cs,r,c,rfl,hg,hw,hc,_,rfl,_,rfl,fin _⟩⟩⟩⟩⟩⟩
   ·exact !!!⟨bz (by trivial) !!!⟨bz (by trivial) !!!⟨bz (by trivial) !!!⟨bz (by trivial) !!!⟨bz (by trivial) !!!!!!⟨cs,r,c,rfl,hg,hw,hc,_,rfl,_,rfl,fin _⟩⟩⟩⟩⟩⟩
   ·exact !!!⟨bz (by trivial) !!!⟨bz (by trivial) !!!⟨bz (by trivial) !!!⟨bz (by trivial) !!!⟨bz (by trivial) !!!!!!⟨cs,r,c,rfl,hg,hw,hc,_,rfl,_,rfl,fin _⟩⟩⟩⟩⟩⟩
   ·exact !!!⟨bz (by trivial) !!!⟨bz (by trivial) !!!⟨bz (by trivial) !!!⟨bz (by trivial) !!!⟨bz (by trivial) !!!!!!⟨cs,r,c,rfl,hg,hw,hc,_,rfl,_,rfl,fin _⟩⟩⟩⟩⟩⟩
  ·rw[mH] at q
   exact !!!⟨bz (by trivial) !!!⟨bz (by trivial) !!!⟨rq (by trivial) !!!!⟨cs,e,r,rfl,hg,he,hw,_,rfl,fo q⟩⟩⟩⟩
  ·have hz:es.length≤1000:=by lia
   rcases ho with rfl|rfl
   ·rw[mI] at q
    refine !!!⟨bz (by trivial) !!!⟨bz (by trivial) !!!⟨bz (by trivial) !!!⟨rq (by trivial) !!⟨_,.inl rfl,?_⟩⟩⟩⟩⟩
    refine comp_map (fun d=>.bl (aU cs r n d)) trivial hz (fun d hd Q hQ=>!!!⟨cs,d,r,rfl,hg,V1 d hd,hw,hQ⟩) fun p hp=>?_
    refine⟨.ref p,es.map (aU cs r n),rfl,?_,S,.new hp,?_⟩
    ·show (S.set p (.lst (es.map _))) p=_
     rw[aa,zw];rfl
    ·rw[all_map];exact q
   ·rw[vA] at q
    refine !!!⟨bz (by trivial) !!!⟨bz (by trivial) !!!⟨bz (by trivial) !!!⟨bz (by trivial) !!!⟨rq (by trivial) !!⟨_,.inl rfl,?_⟩⟩⟩⟩⟩⟩
    refine comp_map (fun d=>.bl (aU cs r n d)) trivial hz (fun d hd Q hQ=>!!!⟨cs,d,r,rfl,hg,V1 d hd,hw,hQ⟩) fun p hp=>?_
    refine⟨.ref p,es.map (aU cs r n),rfl,?_,S,.new hp,?_⟩
    ·show (S.set p (.lst (es.map _))) p=_
     rw[aa,zw];rfl
    ·rw[List.any_map];exact q
abbrev Row:=Str×List D
abbrev Part:=Str×Str×Str
theorem OI{a b:Str}(h:a.cps.toList=b.cps.toList):a=b:=by
 obtain⟨x⟩:=a
 obtain⟨y⟩:=b
 exact congrArg Str.mk (Array.ext' h)
theorem CO(a:Str):tG a a=false:=zk (List.lt_irrefl _)
theorem vE{a b:Str}(h:a≠b):tG b a=!tG a b:=by
 unfold tG
 rw[yx]
 simp only [decide_eq_true_iff,Bool.not_eq_true',decide_eq_false_iff_not]
 constructor
 ·exact fun h1 h2=>List.lt_irrefl _ (List.lt_trans h1 h2)
 ·intro h1
  by_cases h2:b.cps.toList<a.cps.toList
  ·exact h2
  ·exact absurd (OI (List.le_antisymm (List.not_lt.mp h2) (List.not_lt.mp h1))) h
theorem OJ(h1:tG a b=true)(h2:tG b c=true):tG a c=true :=
 zq (List.lt_trans (zA h1) (zA h2))
theorem CP(a:D):sR a a=false:=by
 cases a <;> first|rfl|exact CO _|exact zk (Int.lt_irrefl _)
theorem mJ(ha:Vg k a)(hb:Vg k b)(na:a≠.aw)(nb:b≠.aw)(h:a≠b):sR b a=!sR a b:=by
 rcases vB ha hb na nb with ⟨i,j,rfl,rfl⟩|⟨i,j,rfl,rfl⟩
 ·have kN:i≠j:=fun e=>h (congrArg D.int e)
  show decide (j<i)=!decide (i<j)
  rw[yx]
  simp only [decide_eq_true_iff,Bool.not_eq_true',decide_eq_false_iff_not]
  lia
 ·exact vE fun e=>h (congrArg D.str e)
theorem Hs(h1:sR a b=true)(h2:sR b c=true):sR a c=true:=by
 cases a with
 |int i =>
  cases b with
  |int j =>
   cases c with
   |int l =>
    have h1:i<j:=zA h1
    have h2:j<l:=zA h2
    exact zq (by lia)
   |_=>cases h2
  |_=>cases h1
 |str i =>
  cases b with
  |str j =>
   cases c with
   |str l=>exact OJ h1 h2
   |_=>cases h2
  |_=>cases h1
 |_=>cases h1
theorem Ht(h:R3 a b):sR a b=true:=by
 cases a with
 |int i =>
  cases b with
  |int j=>exact zq h
  |_=>exact h.elim
 |str i =>
  cases b with
  |str j=>exact zq h
  |_=>exact h.elim
 |_=>exact h.elim
def cH(p:Part)(x y:D):Bool:=if (ai x != ai y)=true then ai x == decide (p.2.2 = "first") else sR x y == decide (p.2.1 = "up")
def cL(cs:List (Str×Str))(wy:Str):List Part→Row→Row→Bool
 |[],a,b=>tG a.1 b.1 == decide (wy = "up")
 |p::ps,a,b=>if kC (ak cs a.2 p.1) (ak cs b.2 p.1)=true then cL cs wy ps a b else cH p (ak cs a.2 p.1) (ak cs b.2 p.1)
theorem bxor:((!x) == u)=!(x == u):=by cases x <;> cases u <;> rfl
theorem du(h:ai x=true):x=.aw:=by cases x <;> first|rfl|cases h
theorem n0(hx:Vg k x)(hy:Vg k y)(h:x≠y):cH p y x=!cH p x y:=by
 unfold cH
 cases nx:ai x with
 |true =>
  cases ny:ai y with
  |true=>exact absurd ((du nx).trans (du ny).symm) h
  |false =>
   rw[if_pos (by rfl),if_pos (by rfl)]
   cases decide (p.2.2 = "first") <;> rfl
 |false =>
  cases ny:ai y with
  |true =>
   rw[if_pos (by rfl),if_pos (by rfl)]
   cases decide (p.2.2 = "first") <;> rfl
  |false =>
   rw[if_neg (by simp),if_neg (by simp),mJ hx hy (bw nx) (bw ny) h,bxor]
theorem Kq(hx:Vg k x)(hy:Vg k y)(hz:Vg k z)(XW:x≠y)(Zi:y≠z)(h1:cH p x y=true)(h2:cH p y z=true):x≠z∧cH p x z=true:=by
 have XX:x≠z:=by
  rintro rfl
  have:=n0 (p:=p) hx hy XW
  rw[h1,h2] at this
  cases this
 refine⟨XX,?_⟩
 unfold cH at h1 h2 ⊢
 cases nx:ai x with
 |true =>
  cases ny:ai y with
  |true=>exact absurd ((du nx).trans (du ny).symm) XW
  |false =>
   rw[nx,ny,if_pos (by rfl)] at h1
   cases nz:ai z with
   |true=>exact absurd ((du nx).trans (du nz).symm) XX
   |false=>rw[if_pos (by rfl)];exact h1
 |false =>
  cases ny:ai y with
  |true =>
   rw[nx,ny,if_pos (by rfl)] at h1
   cases nz:ai z with
   |true=>exact absurd ((du ny).trans (du nz).symm) Zi
   |false =>
    rw[ny,nz,if_pos (by rfl)] at h2
    cases e:decide (p.2.2 = "first") <;> rw[e] at h1 h2 <;> first|cases h1;done|cases h2;done
  |false =>
   rw[nx,ny,if_neg (by simp)] at h1
   cases nz:ai z with
   |true =>
    rw[ny,nz,if_pos (by rfl)] at h2
    rw[if_pos (by rfl)];exact h2
   |false =>
    rw[ny,nz,if_neg (by simp)] at h2
    rw[if_neg (by simp)]
    cases e:decide (p.2.1 = "up") with
    |true =>
     rw[e] at h1 h2
     rw[Hs (a:=x) (b:=y) (c:=z) (by simpa using h1) (by simpa using h2)];rfl
    |false =>
     rw[e] at h1 h2
     have h1:sR x y=false:=by simpa using h1
     have h2:sR y z=false:=by simpa using h2
     have a1:=mJ hx hy (bw nx) (bw ny) XW
     have a2:=mJ hy hz (bw ny) (bw nz) Zi
     rw[h1] at a1
     rw[h2] at a2
     have a3:=Hs a2 a1
     have a4:=mJ hx hz (bw nx) (bw nz) XX
     rw[a3] at a4
     cases q:sR x z with
     |true=>rw[q] at a4;cases a4
     |false=>rfl
def Pin(cs:List (Str×Str))(ps:List Part):Prop:=∀p∈ps,∃c∈cs,c.1=p.1
section
variable{cs:List (Str×Str)}{wy:Str}
theorem Pin.tail(h:Pin cs (p::ps)):Pin cs ps:=fun q hq=>h q (zh _ hq)
theorem vF(hg:Gd cs)(h:Pin cs (p::ps)):∃k,∀ws,Wg cs ws→Vg k (ak cs ws p.1):=by
 obtain⟨c,hc,e⟩:=h p zo
 rw[← e]
 exact⟨c.2,fun ws hw=>(pS hg hw hc).2⟩
theorem xG(hg:Gd cs):∀{ps:List Part}{a b:Row},Pin cs ps→Wg cs a.2→Wg cs b.2→a.1≠b.1→cL cs wy ps b a=!cL cs wy ps a b
 |[],a,b,_,_,_,h=>by
  show (tG b.1 a.1 == _)=!(tG a.1 b.1 == _)
  rw[vE h,bxor]
 |p::ps,a,b,hp,ha,hb,h=>by
  obtain⟨k,hk⟩:=vF hg hp
  have va:=hk _ ha
  have vb:=hk _ hb
  unfold cL
  by_cases e:ak cs a.2 p.1=ak cs b.2 p.1
  ·rw[if_pos ((b_ vb.2 va.2).mpr e.symm),if_pos ((b_ va.2 vb.2).mpr e)]
   exact xG hg hp.tail ha hb h
  ·rw[if_neg (fun q=>e ((b_ vb.2 va.2).mp q).symm),if_neg (fun q=>e ((b_ va.2 vb.2).mp q))]
   exact n0 va vb e
def Rg(cs:List (Str×Str))(rs:List Row):Prop:=(∀r∈rs,Wg cs r.2)∧(rs.map Prod.fst).Nodup
theorem Rg.perm(h:Rg cs rs)(p:cz.Perm rs):Rg cs cz:=⟨fun r hr=>h.1 r (p.mem_iff.mp hr),(p.map _).nodup_iff.mpr h.2⟩
theorem Rg.sub(h:Rg cs rs)(p:cz.Sublist rs):Rg cs cz:=⟨fun r hr=>h.1 r (p.subset hr),h.2.sublist (p.map _)⟩
theorem Ks(hg:Gd cs)(hp:Pin cs ps)(hr:Rg cs m)(hl:l.Pairwise fun a b=>cL cs wy ps a b=true)(hm:m.Pairwise fun a b=>cL cs wy ps a b=true)(pm:l.Perm m):l=m:=by
 refine List.Perm.eq_of_pairwise (le:=fun a b=>cL cs wy ps a b=true) (fun a b ha hb h1 h2=>?_) hl hm pm
 have ha:=pm.mem_iff.mp ha
 by_cases e:a.1=b.1
 ·exact eR (f:=Prod.fst) hr.2 ha hb e
 ·have:=xG (wy:=wy) hg hp (hr.1 a ha) (hr.1 b hb) e
  rw[h1,h2] at this
  cases this
end
theorem Bp{l m:List Nat}(hl:l.Nodup)(hm:m.Nodup)(h:∀x,x∈l↔x∈m):l.Perm m:=by
 induction l generalizing m with
 |nil =>
  cases m with
  |nil=>exact .nil
  |cons y m=>exact absurd ((h y).mpr zo) (by simp)
 |cons x l ih =>
  obtain⟨n1,n2⟩:=yo.mp hl
  have hx:=(h x).mp zo
  refine .trans ((ih n2 (hm.erase x) fun y=>?_).cons x) (List.perm_cons_erase hx).symm
  rw[hm.mem_erase_iff]
  constructor
  ·intro hy
   exact⟨fun e=>n1 (e ▸ hy),(h y).mp (zh _ hy)⟩
  ·rintro⟨h1,h2⟩
   rcases zi.mp ((h y).mpr h2) with e|e
   ·exact absurd e h1
   ·exact e
theorem map_range(d:α)(xs:List α):(List.range xs.length).map (fun k=>xs.getD k d)=xs:=by
 refine List.ext_getElem (by simp) fun i h1 h2=>?_
 simp [zf h2]
theorem EI{α:Type}(d:α){xs:List α}{g:Nat→Nat}(lt:∀k,k<xs.length→g k<xs.length)(inj:∀i j,i<xs.length→j<xs.length→g i=g j→i=j):((List.range xs.length).map fun k=>xs.getD (g k) d).Perm xs:=by
 have nd:((List.range xs.length).map g).Nodup:=by
  refine List.pairwise_map.mpr (List.nodup_range.imp_of_mem fun {a b} ha hb n e=>n (inj a b (zN.mp ha) (zN.mp hb) e))
 have sub:∀x∈(List.range xs.length).map g,x∈List.range xs.length:=fun x hx=>by
  obtain⟨k,hk,rfl⟩:=zg.mp hx
  exact zN.mpr (lt k (zN.mp hk))
 have p:((List.range xs.length).map g).Perm (List.range xs.length):=Bp nd List.nodup_range fun x=>by
  refine⟨sub x,fun hx=>?_⟩
  by_cases h:x∈(List.range xs.length).map g
  ·exact h
  ·exfalso
   have:=sub_len nd (m:=(List.range xs.length).erase x) fun y hy=>(List.Nodup.mem_erase_iff List.nodup_range).mpr ⟨fun e=>h (e ▸ hy),sub y hy⟩
   rw[zb,List.length_erase_of_mem hx,List.length_range] at this
   have:=zN.mp hx
   lia
 have e:((List.range xs.length).map fun k=>xs.getD (g k) d)=((List.range xs.length).map g).map fun k=>xs.getD k d:=by rw[zw];rfl
 rw[e]
 have:=p.map fun k=>xs.getD k d
 rw[map_range] at this
 exact this
theorem EJ{α:Type}(d:α){xs:List α}{g:Nat→Nat}{r:α→α→Prop}(h:∀i j,i<j→j<xs.length→r (xs.getD (g i) d) (xs.getD (g j) d)):((List.range xs.length).map fun k=>xs.getD (g k) d).Pairwise r:=by
 rw[List.pairwise_map,List.pairwise_iff_getElem]
 intro i j hi hj kN
 rw[List.length_range] at hj
 rw[List.getElem_range,List.getElem_range]
 exact h i j kN hj
def r0:Row:=("",[])
theorem getD_map{rs:List Row}{j:Nat}(h:j<rs.length):(rs.map aq).getD j .aw=aq (rs.getD j r0):=by
 rw[zD,zD,zp,zf h];rfl
theorem getD_mem{rs:List Row}{j:Nat}(h:j<rs.length):rs.getD j r0∈rs:=by
 rw[zD,zf h];exact List.getElem_mem h
theorem mK{rs:List Row}{b:Bool}{f:D→D}{g:Nat→Nat}(h:N5 b (fun j=>f ((rs.map aq).getD j .aw)) (rs.map aq).length g) :
  ∃cz:List Row,(List.range (rs.map aq).length).map (fun k=>(rs.map aq).getD (g k) .aw)=cz.map aq∧cz.Perm rs∧∀q r:Row→Row→Prop,rs.Pairwise q →
   (∀x y,x∈rs→y∈rs→(if b=true then R3 (f (aq y)) (f (aq x)) else R3 (f (aq x)) (f (aq y)))→r x y)→(∀x y,x∈rs→y∈rs→f (aq x)=f (aq y)→q x y→r x y)→cz.Pairwise r:=by
 have hn:(rs.map aq).length=rs.length:=zb _
 rw[hn] at h ⊢
 refine⟨(List.range rs.length).map fun k=>rs.getD (g k) r0,?_,EI r0 h.lt h.inj,fun q r hq h1 h2=>EJ r0 fun i j kN hj=>?_⟩
 ·rw[zw]
  exact zV fun k hk=>getD_map (h.lt k (zN.mp hk))
 ·have gi:=h.lt i (Nat.lt_trans kN hj)
  have gj:=h.lt j hj
  have o:=h.ord i j kN hj
  rw[getD_map gi,getD_map gj] at o
  rcases o with o|⟨o,l⟩
  ·exact h1 _ _ (getD_mem gi) (getD_mem gj) o
  ·refine h2 _ _ (getD_mem gi) (getD_mem gj) o ?_
   have:=List.pairwise_iff_getElem.mp hq (g i) (g j) gi gj l
   rw[zD,zD,zf gi,zf gj]
   exact this
section
variable{cs:List (Str×Str)}{wy:Str}
def valued(cs:List (Str×Str))(p:Part)(r:Row):Bool:=!ai (ak cs r.2 p.1)
theorem Kt(h1:ai x=true)(h2:ai y=true):kC x y=true:=by rw[du h1,du h2];rfl
theorem vG(h:ai x≠ai y):kC x y=false:=by
 cases x <;> cases y <;> first|rfl|exact absurd rfl h
theorem EK{ps:List Part}{p:Part}{L V:List Row}(hL:L.Pairwise fun a b=>cL cs wy ps a b=true)(hV:V.Perm (L.filter (valued cs p)))(UC:V.Pairwise fun a b=>cL cs wy (p::ps) a b=true) :
  (if p.2.2 = "first" then L.filter (fun r=>!valued cs p r)++V else V++L.filter (fun r=>!valued cs p r)).Perm L∧(if p.2.2 = "first" then L.filter (fun r=>!valued cs p r)++V else V++L.filter (fun r=>!valued cs p r)).Pairwise fun a b=>cL cs wy (p::ps) a b=true:=by
 have hN:(L.filter fun r=>!valued cs p r).Pairwise fun a b=>cL cs wy (p::ps) a b=true:=by
  refine (hL.sublist List.filter_sublist).imp_of_mem fun {a b} ha hb h=>?_
  have ha:=(yf.mp ha).2
  have hb:=(yf.mp hb).2
  unfold valued at ha hb
  rw[Bool.not_not] at ha hb
  show (if kC (ak cs a.2 p.1) (ak cs b.2 p.1)=true then cL cs wy ps a b else _)=true
  rw[if_pos (Kt ha hb)]
  exact h
 have L5:∀a∈L.filter (fun r=>!valued cs p r),∀b∈V,ai (ak cs a.2 p.1)=true∧ai (ak cs b.2 p.1)=false:=fun a ha b hb=>by
  have ha:=(yf.mp ha).2
  have hb:=(yf.mp (hV.mem_iff.mp hb)).2
  unfold valued at ha hb
  rw[Bool.not_not] at ha
  exact⟨ha,by simpa using hb⟩
 have pm:(L.filter (fun r=>!valued cs p r)++V).Perm L:=(List.Perm.append_left _ hV).trans (List.perm_append_comm.trans (List.filter_append_perm (valued cs p) L))
 by_cases e:p.2.2 = "first"
 ·rw[if_pos e]
  refine⟨pm,List.pairwise_append.mpr ⟨hN,UC,fun a ha b hb=>?_⟩⟩
  obtain⟨na,nb⟩:=L5 a ha b hb
  show (if kC (ak cs a.2 p.1) (ak cs b.2 p.1)=true then cL cs wy ps a b else cH p (ak cs a.2 p.1) (ak cs b.2 p.1))=true
  rw[vG (by rw[na,nb];nofun),if_neg zd]
  unfold cH
  rw[na,nb,if_pos (by rfl),zq e];rfl
 ·rw[if_neg e]
  refine⟨List.perm_append_comm.trans pm,List.pairwise_append.mpr ⟨UC,hN,fun a ha b hb=>?_⟩⟩
  obtain⟨na,nb⟩:=L5 b hb a ha
  show (if kC (ak cs a.2 p.1) (ak cs b.2 p.1)=true then cL cs wy ps a b else cH p (ak cs a.2 p.1) (ak cs b.2 p.1))=true
  rw[vG (by rw[na,nb];nofun),if_neg zd]
  unfold cH
  rw[na,nb,if_pos (by rfl),zk e];rfl
end
abbrev qK:Str := "sorted_by_keys.<locals>.<lambda>"
abbrev qV:Str := "sorted_by_values.<locals>.<lambda>"
def OL:D→D
 |.tup (x::_)=>x
 |_=>.aw
def Bq(cs:List (Str×Str))(z:Str):D→D
 |.tup [_,.tup ws]=>ak cs ws z
 |_=>.aw
inductive Hu (t:fG) (ds:List D) (S:av) (R:KD) (Z:KX):Prop where
 |mk (cs:List (Str×Str)) (l:Addr) (rs:List Row) (wy:Str) (h0:ds=[.ref l,.str wy]) (h1:lq wy=true) (h2:S l=some (.lst (rs.map aq))) (h3:rs.length<64) (h4:Rg cs rs) (h5:S t.aQ=some (.tab qK)) (h6:∀(cz:List Row) (p:Addr),cz.Perm rs→(cz.Pairwise fun a b=>cL cs wy [] a b=true)→S p=none→R (.ref p) (S.set p (.lst (cz.map aq)))):Hu t ds S R Z
theorem fT{S S2:av}{p:Addr}{c:Ce}(h:Sub S S2):Sub (S.set p c) (S2.set p c):=fun b e hb=>by
 by_cases q:b=p
 ·subst q;rw[aa] at hb ⊢;exact hb
 ·rw[ag q] at hb ⊢;exact h b e hb
theorem dw{S S2:av}{p:Addr}(h:Sub S S2)(e:S2 p=none):S p=none:=by
 cases q:S p with
 |none=>rfl
 |some c=>rw[h p c q] at e;cases e
theorem vH{z:Str}(h:lq z=true):z = "up" ∨ z = "down" := by
 unfold lq at h
 simpa using h
theorem Rg.unlike(h:Rg cs rs):rs.Pairwise fun a b=>a.1≠b.1:=List.pairwise_map.mp h.2
theorem mL(T:Txt w K mg t)(B:Bm mg base):Ok P w base T.fc 4 (Hu t):=by
 refine T.fc.F.YU (k:=3) mr (by rintro ds S R Z ⟨_,_,_,_,e,_⟩;rw[e];rfl) ?_
 rintro fK A outer s H E ds S R Z rO hr ⟨cs,l,rs,wy,e,Im,hl,hn,lL,ht,q⟩
 subst e
 have AJ:wW ((rs.map aq).map OL):=.inl ⟨rs.map Prod.fst,by rw[zw,zw];rfl⟩
 have un:rs.Pairwise fun a b=>a.1≠b.1:=lL.unlike
 have Ie:(rs.map aq).length<64:=by rw[zb];exact hn
 refine⟨_,(sc (si (bh br hr.u (dv 1) ds) (s1 (sr (LP (N:=["row"]) (src:=[none]) (rO.trans T.fO) ⟨T.dk,B⟩ hr (kM (ae gw) ["rows","way"] rfl rfl (by trivial)) (dv 0) (fun _ _ _ _=>(ix (hr.in1.in1.deeper _).units (dv 0) di)) T.gB eT))) s0) (s1 (sr (R5 (N:=["row"]) (src:=[none]) (rO.trans T.fO) ⟨T.dk,B⟩ hr (kM (ae gw) ["rows","way"] rfl rfl (by trivial)) (dv 0) (fun _ _ _ _=>(ix (hr.in1.in1.deeper _).units (dv 0) di)) T.gB eT)))),?_⟩
 rcases vH Im with rfl|rfl
 ·refine !!⟨bz (by trivial) !⟨l,rs.map aq,OL,rfl,hl,Ie,ht,AJ,fun x hx S' hs Qk hQ=>?_,fun g S2 p hg hs hp=>?_⟩⟩
  ·obtain⟨r,hr,rfl⟩:=zg.mp hx
   exact !!⟨hQ S' (.refl _)⟩
  ·obtain⟨cz,e,pm,h⟩:=mK hg
   rw[e]
   refine⟨S.set p (.lst (cz.map aq)),fT hs,q cz p pm (h _ _ un (fun x y hx hy eE=>?_) fun x y hx hy e ne=>absurd (D.str.inj e) ne) (dw hs hp)⟩
   show (tG x.1 y.1 == decide (("up" : Str) = "up"))=true
   have:tG x.1 y.1=true:=zq eE
   rw[this];rfl
 ·refine !!⟨rq (by trivial) !⟨l,rs.map aq,OL,rfl,hl,Ie,ht,AJ,fun x hx S' hs Qk hQ=>?_,fun g S2 p hg hs hp=>?_⟩⟩
  ·obtain⟨r,hr,rfl⟩:=zg.mp hx
   exact !!⟨hQ S' (.refl _)⟩
  ·obtain⟨cz,e,pm,h⟩:=mK hg
   rw[e]
   refine⟨S.set p (.lst (cz.map aq)),fT hs,q cz p pm (h _ _ un (fun x y hx hy eE=>?_) fun x y hx hy e ne=>absurd (D.str.inj e) ne) (dw hs hp)⟩
   show (tG x.1 y.1 == decide (("down" : Str) = "up"))=true
   have:tG y.1 x.1=true:=zq eE
   by_cases e:x.1=y.1
   ·rw[e,CO] at this;cases this
   ·rw[vE e] at this
    have h2:tG x.1 y.1=false:=by simpa using this
    rw[h2,zk (by trivial)];rfl
inductive Hv (t:fG) (ds:List D) (S:av) (R:KD) (Z:KX):Prop where
 |mk (cs:List (Str×Str)) (ps:List Part) (p:Part) (wy:Str) (l:Addr) (rs:List Row) (h0:ds=[.tup (cs.map az),p3 p,.ref l]) (h1:Gd cs) (h2:Pin cs (p::ps)) (h3:lq p.2.1=true) (h4:S l=some (.lst (rs.map aq))) (h5:rs.length<64) (h6:Rg cs rs) (h7:(∀r∈rs,valued cs p r=true)) (h8:(rs.Pairwise fun a b=>cL cs wy ps a b=true)) (h9:S t.aK=some (.tab qV)) (h10:∀(cz:List Row) (a:Addr),cz.Perm rs→(cz.Pairwise fun a b=>cL cs wy (p::ps) a b=true)→S a=none→R (.ref a) (S.set a (.lst (cz.map aq)))):Hv t ds S R Z
theorem Br{α:Type}{f:α→D}{β:Type}{mk:β→D} : ∀{l:List α},(∀x∈l,∃b,f x=mk b)→∃bs:List β,l.map f=bs.map mk
 |[],_=>⟨[],rfl⟩
 |x::l,h=>by
  obtain⟨b,e⟩:=h x zo
  obtain⟨bs,e2⟩:=Br fun y hy=>h y (zh _ hy)
  exact⟨b::bs,by rw[zB,e,e2];rfl⟩
theorem EL{cs:List (Str×Str)}{p:Part}{k:Str}{rs:List Row}(hk:∀r∈rs,Vg k (ak cs r.2 p.1))(hv:∀r∈rs,valued cs p r=true):wW ((rs.map aq).map (Bq cs p.1)):=by
 rw[zw]
 have nn:∀r∈rs,ak cs r.2 p.1≠.aw:=fun r hr=>bw (by have:=hv r hr;unfold valued at this;simpa using this)
 by_cases e:k = "number"
 ·refine .inr (Br fun r hr=>?_)
  have h1:=hk r hr
  have h2:=nn r hr
  show ∃b,ak cs r.2 p.1=.int b
  generalize ak cs r.2 p.1=v at h1 h2
  cases v with
  |aw=>exact absurd rfl h2
  |int i=>exact⟨i,rfl⟩
  |str z =>
   have h1:=h1.1
   unfold jo at h1
   simp only [ai,yN] at h1
   rw[if_pos e] at h1;cases h1
  |_=>cases h1.2
 ·refine .inl (Br fun r hr=>?_)
  have h1:=hk r hr
  have h2:=nn r hr
  show ∃b,ak cs r.2 p.1=.str b
  generalize ak cs r.2 p.1=v at h1 h2
  cases v with
  |aw=>exact absurd rfl h2
  |str i=>exact⟨i,rfl⟩
  |int z =>
   have h1:=h1.1
   unfold jo at h1
   simp only [ai,yN] at h1
   rw[if_neg e] at h1;cases h1
  |_=>cases h1.2
theorem Hw{cs:List (Str×Str)}{wy:Str}{ps:List Part}{p:Part}{x y:Row}(nx:valued cs p x=true)(ny:valued cs p y=true)(ne:kC (ak cs x.2 p.1) (ak cs y.2 p.1)=false)(h:(sR (ak cs x.2 p.1) (ak cs y.2 p.1) == decide (p.2.1 = "up"))=true):cL cs wy (p::ps) x y=true:=by
 unfold valued at nx ny
 have nx:ai (ak cs x.2 p.1)=false:=by simpa using nx
 have ny:ai (ak cs y.2 p.1)=false:=by simpa using ny
 show (if kC (ak cs x.2 p.1) (ak cs y.2 p.1)=true then cL cs wy ps x y else cH p (ak cs x.2 p.1) (ak cs y.2 p.1))=true
 rw[ne,if_neg zd]
 unfold cH
 rw[nx,ny,if_neg (by simp)]
 exact h
theorem Hx{x y:D}(h:sR x y=true):kC x y=false:=by
 cases x with
 |int i =>
  cases y with
  |int j=>exact zk fun e=>by rw[e,CP] at h;cases h
  |_=>cases h
 |str i =>
  cases y with
  |str j=>exact zk fun e=>by rw[e,CP] at h;cases h
  |_=>cases h
 |_=>cases h
theorem Hy(x y:D):kC x y=kC y x:=by
 cases x <;> cases y <;> first|rfl|exact yG.mpr ⟨Eq.symm,Eq.symm⟩
theorem jZ(T:Txt w K mg t)(B:Bm mg base):Ok P w base T.dI 6 (Hv t):=by
 refine T.dI.F.YU (k:=5) jX (by rintro ds S R Z ⟨_,_,_,_,_,_,e,_⟩;rw[e];rfl) ?_
 rintro fK A outer s H E ds S R Z rO hr ⟨cs,ps,p,wy,l,rs,e,hg,Hz,Im,hl,hn,lL,hv,SK,ht,q⟩
 subst e
 obtain⟨c,hc,ec⟩:=Hz p zo
 obtain⟨k,hk⟩:=vF hg Hz
 have AJ:wW ((rs.map aq).map (Bq cs p.1)):=EL (fun r hr=>hk _ (lL.1 r hr)) hv
 have Ie:(rs.map aq).length<64:=by rw[zb];exact hn
 have same:∀x y:Row,x∈rs→y∈rs→Bq cs p.1 (aq x)=Bq cs p.1 (aq y)→cL cs wy ps x y=true→cL cs wy (p::ps) x y=true:=fun x y hx hy e h=>by
  show (if kC (ak cs x.2 p.1) (ak cs y.2 p.1)=true then cL cs wy ps x y else _)=true
  rw[if_pos ((b_ (hk _ (lL.1 x hx)).2 (hk _ (lL.1 y hy)).2).mpr e)]
  exact h
 have step:∀x,x∈rs.map aq→∀Qk:KD,∀S':av,Qk (Bq cs p.1 x) S'→∀Zq,lA [D.tup (cs.map az),x,.str p.1] S' Qk Zq:=fun x hx Qk S' hQ _=>by
  obtain⟨r,hr,rfl⟩:=zg.mp hx
  exact⟨cs,r,c,by rw[ec],hg,lL.1 r hr,hc,by rw[ec];exact hQ⟩
 refine⟨_,(sc (si (bh br hr.u (ix hr.u (dv 1) di) ds) (s1 (sr (LP (N:=["row","columns","part"]) (src:=[none,some 0,some 1]) (rO.trans T.eM) ⟨T.cK,B⟩ hr (kM (ae e_) ["columns","part","rows"] rfl rfl (by trivial)) (dv 2) (fun _ _ _ _=>(cf ((cZ T).mono (by decide)) (hr.in1.in1.deeper _) T.ck.m T.ck.k T.ck.b d0 (ac (dv 1) (ac (dv 0) (ac (ix (hr.in1.in1.deeper _).units (dv 2) di) an))))) T.gB eT))) s0) (s1 (sr (R5 (N:=["row","columns","part"]) (src:=[none,some 0,some 1]) (rO.trans T.eM) ⟨T.cK,B⟩ hr (kM (ae e_) ["columns","part","rows"] rfl rfl (by trivial)) (dv 2) (fun _ _ _ _=>(cf ((cZ T).mono (by decide)) (hr.in1.in1.deeper _) T.ck.m T.ck.k T.ck.b d0 (ac (dv 1) (ac (dv 0) (ac (ix (hr.in1.in1.deeper _).units (dv 2) di) an))))) T.gB eT)))),?_⟩
 rcases vH Im with e1|e1
 ·refine !!!⟨bz (by rw[e1];decide +kernel) !⟨l,rs.map aq,Bq cs p.1,rfl,hl,Ie,ht,AJ,fun x hx S' hs Qk hQ=>!!!!⟨step x hx _ S' (hQ S' (.refl _)) _⟩,fun g S2 a hg hs ha=>?_⟩⟩
  obtain⟨cz,e,pm,h⟩:=mK hg
  rw[e]
  refine⟨S.set a (.lst (cz.map aq)),fT hs,q cz a pm (h _ _ SK (fun x y hx hy eE=>?_) same) (dw hs ha)⟩
  have eE:=Ht (a:=ak cs x.2 p.1) (b:=ak cs y.2 p.1) eE
  exact Hw (hv x hx) (hv y hy) (Hx eE) (by rw[eE,zq e1];rfl)
 ·refine !!!⟨rq (by rw[e1];decide +kernel) !⟨l,rs.map aq,Bq cs p.1,rfl,hl,Ie,ht,AJ,fun x hx S' hs Qk hQ=>!!!!⟨step x hx _ S' (hQ S' (.refl _)) _⟩,fun g S2 a NV hs ha=>?_⟩⟩
  obtain⟨cz,e,pm,h⟩:=mK NV
  rw[e]
  refine⟨S.set a (.lst (cz.map aq)),fT hs,q cz a pm (h _ _ SK (fun x y hx hy eE=>?_) same) (dw hs ha)⟩
  have eE:=Ht (a:=ak cs y.2 p.1) (b:=ak cs x.2 p.1) eE
  have ne:=Hx eE
  refine Hw (hv x hx) (hv y hy) (by rw[Hy];exact ne) ?_
  have nn:∀r∈rs,ak cs r.2 p.1≠.aw:=fun r hr=>bw (by have:=hv r hr;unfold valued at this;simpa using this)
  have He:ak cs x.2 p.1≠ak cs y.2 p.1:=fun e=>by
   have:=(b_ (hk _ (lL.1 y hy)).2 (hk _ (lL.1 x hx)).2).mpr e.symm
   rw[ne] at this;cases this
  have:=mJ (hk _ (lL.1 x hx)) (hk _ (lL.1 y hy)) (nn x hx) (nn y hy) He
  rw[eE] at this
  have h2:sR (ak cs x.2 p.1) (ak cs y.2 p.1)=false:=by simpa using this
  rw[h2,e1,zk (by trivial)];rfl
def Tb(t:fG)(S:av):Prop:=S t.aQ=some (.tab qK)∧S t.aK=some (.tab qV)
theorem Tb.sub{t:fG}{S S':av}(h:Tb t S)(s:Sub S S'):Tb t S':=⟨s _ _ h.1,s _ _ h.2⟩
def CQ(b:Bool)(cs:List (Str×Str))(p:Part):D→Bool
 |.tup [_,.tup ws]=>ai (ak cs ws p.1) == b
 |_=>false
theorem n6{rs:List Row}{f:D→Bool}{g:Row→Bool}(h:∀r,f (aq r)=g r):((rs.map aq).filter f).map id=(rs.filter g).map aq:=by
 rw[List.map_id,List.filter_map]
 exact congrArg (List.map aq) (List.filter_congr fun r _=>h r)
inductive HA (t:fG) (ds:List D) (S:av) (R:KD) (Z:KX):Prop where
 |mk (cs:List (Str×Str)) (ps:List Part) (p:Part) (wy:Str) (l:Addr) (rs:List Row) (h0:ds=[.tup (cs.map az),p3 p,.ref l]) (h1:Gd cs) (h2:Pin cs (p::ps)) (h3:lq p.2.1=true) (h4:S l=some (.lst (rs.map aq))) (h5:rs.length<64) (h6:Rg cs rs) (h7:(rs.Pairwise fun a b=>cL cs wy ps a b=true)) (h8:Tb t S) (h9:∀(cz:List Row) (a:Addr),cz.Perm rs→(cz.Pairwise fun a b=>cL cs wy (p::ps) a b=true)→S a=none→R (.ref a) (S.set a (.lst (cz.map aq)))):HA t ds S R Z
theorem mM(T:Txt w K mg t)(B:Bm mg base):Ok P w base T.fe 7 (HA t):=by
 refine T.fe.F.bU cu ?_
 rintro _ _ _ _ _ _ _ S R Z hr ⟨cs,ps,p,wy,l,rs,e,hg,Hz,Im,hl,hn,lL,SK,ht,q⟩
 subst e
 obtain⟨c,hc,ec⟩:=Hz p zo
 have hz:(rs.map aq).length≤1000:=by rw[zb];lia
 refine⟨_,(sc (Pq (i:=3) (N:=["row","columns","part"]) (src:=[none,some 0,some 1]) cu.nd (kM (ae gx) ["columns","part","rows","without","valued"] rfl rfl (by trivial)) (il (dv 2)) (qz (show (["row","columns","part"]:List Str).Nodup by trivial)) (ba rfl) bb (fun _ _ _ _ _=>(if1 (bh i4 hr.u (aI T.ck (cZ T) hr (ac (dv 1) (ac (dv 0) (ac (ix hr.u (dv 2) di) an)))) dn))) (fun _ _ _ _ _=>(dv 0))) (sc (Pq (i:=4) (N:=["row","columns","part"]) (src:=[none,some 0,some 1]) cu.nd (kM (ae gx) ["columns","part","rows","without","valued"] rfl rfl (by trivial)) (il (dv 2)) (qz (show (["row","columns","part"]:List Str).Nodup by trivial)) (ba rfl) bb (fun _ _ _ _ _=>(if1 (bh gZ hr.u (aI T.ck (cZ T) hr (ac (dv 1) (ac (dv 0) (ac (ix hr.u (dv 2) di) an)))) dn))) (fun _ _ _ _ _=>(dv 0))) (sc (cn (i:=4) cu.nd (aI T.dI (jZ T B) hr (ac (dv 0) (ac (dv 1) (ac (dv 4) an))))) (s1 (sr (Lv (bh br hr.u (ix hr.u (dv 1) di) ds) (bo bc hr.u (dv 3) (dv 4)) (bo bc hr.u (dv 4) (dv 3)))))))),?_⟩
 refine !⟨_,hl,?_⟩
 refine gH (CQ true cs p) id hl hz (fun d hd Q Q' hQ Kb=>?_) fun p1 vp=>?_
 ·obtain⟨r,hr,rfl⟩:=zg.mp hd
  refine !!!!⟨cs,r,c,(show [D.tup (cs.map az),aq r,D.str p.1]=[_,_,D.str c.1] by rw[ec]),hg,lL.1 r hr,hc,?_⟩
  rw[ec]
  refine !⟨bK (fun h=>!⟨hQ ?_⟩) (fun h=>Kb ?_)⟩
  ·show (ai (ak cs r.2 p.1) == true)=true
   rw[show ai (ak cs r.2 p.1)=true from h];rfl
  ·show (ai (ak cs r.2 p.1) == true)=false
   rw[show ai (ak cs r.2 p.1)=false from h];rfl
 have e1:((rs.map aq).filter (CQ true cs p)).map id=(rs.filter fun r=>!valued cs p r).map aq:=n6 fun r=>by
  show (ai (ak cs r.2 p.1) == true)=!valued cs p r
  unfold valued;cases ai (ak cs r.2 p.1) <;> rfl
 rw[show (⟨rs.map aq,fun S=>xZ S (.ref l) (rs.map aq)⟩:E_).xs=rs.map aq from rfl,e1]
 have v9:Sub S (S.set p1 (.lst ((rs.filter fun r=>!valued cs p r).map aq))):=.new vp
 have h1:(S.set p1 (.lst ((rs.filter fun r=>!valued cs p r).map aq))) p1=some (.lst ((rs.filter fun r=>!valued cs p r).map aq)):=aa
 generalize S.set p1 (.lst ((rs.filter fun r=>!valued cs p r).map aq))=S1 at v9 h1 ⊢
 have Kf:=v9 _ _ hl
 refine !⟨_,Kf,?_⟩
 refine gH (CQ false cs p) id Kf hz (fun d hd Q Q' hQ Kb=>?_) fun p2 gO=>?_
 ·obtain⟨r,hr,rfl⟩:=zg.mp hd
  refine !!!!⟨cs,r,c,(show [D.tup (cs.map az),aq r,D.str p.1]=[_,_,D.str c.1] by rw[ec]),hg,lL.1 r hr,hc,?_⟩
  rw[ec]
  refine !⟨bK (fun h=>!⟨hQ ?_⟩) (fun h=>Kb ?_)⟩
  ·show (ai (ak cs r.2 p.1) == false)=true
   rw[show ai (ak cs r.2 p.1)=false from nt h];rfl
  ·show (ai (ak cs r.2 p.1) == false)=false
   rw[show ai (ak cs r.2 p.1)=true from nf h];rfl
 have e2:((rs.map aq).filter (CQ false cs p)).map id=(rs.filter (valued cs p)).map aq:=n6 fun r=>by
  show (ai (ak cs r.2 p.1) == false)=valued cs p r
  unfold valued;cases ai (ak cs r.2 p.1) <;> rfl
 rw[show (⟨rs.map aq,fun S=>xZ S (.ref l) (rs.map aq)⟩:E_).xs=rs.map aq from rfl,e2]
 have uA:Sub S (S1.set p2 (.lst ((rs.filter (valued cs p)).map aq))):=v9.trans (.new gO)
 have Hk:(S1.set p2 (.lst ((rs.filter (valued cs p)).map aq))) p1=_:=(ag (gW h1 gO)).trans h1
 have Zj:(S1.set p2 (.lst ((rs.filter (valued cs p)).map aq))) p2=_:=aa
 generalize S1.set p2 (.lst ((rs.filter (valued cs p)).map aq))=S2 at uA Hk Zj ⊢
 have fl:(rs.filter (valued cs p)).length≤rs.length:=List.length_filter_le _ _
 have fl2:(rs.filter fun r=>!valued cs p r).length≤rs.length:=List.length_filter_le _ _
 refine !!!⟨cs,ps,p,wy,p2,rs.filter (valued cs p),rfl,hg,Hz,Im,Zj,by lia,lL.sub List.filter_sublist,fun r hr=>(yf.mp hr).2,SK.sublist List.filter_sublist,(ht.sub uA).2,fun V p3 hV UC Hf=>?_⟩
 obtain⟨pm,pw⟩:=EK SK hV UC
 have UD:(S2.set p3 (.lst (V.map aq))) p1=_:=(ag (gW Hk Hf)).trans Hk
 have XY:(S2.set p3 (.lst (V.map aq))) p3=some (.lst (V.map aq)):=aa
 have Io:Sub S (S2.set p3 (.lst (V.map aq))):=uA.trans (.new Hf)
 generalize S2.set p3 (.lst (V.map aq))=S3 at UD XY Io ⊢
 have hVl:=hV.length_eq
 refine !!!⟨bK (fun h=>?_) (fun h=>?_)⟩
 ·rw[if_pos (zA h)] at pm pw
  refine !!⟨_,_,UD,XY,sm (by rw[zb,zb];lia),fun p4 SM=>?_⟩
  rw[← zH]
  exact⟨_,fT Io,q _ p4 pm pw (dw Io SM)⟩
 ·rw[if_neg (zO h)] at pm pw
  refine !!⟨_,_,XY,UD,sm (by rw[zb,zb];lia),fun p4 SM=>?_⟩
  rw[← zH]
  exact⟨_,fT Io,q _ p4 pm pw (dw Io SM)⟩
structure Og(cs:List (Str×Str))(ps:List Part)(wy:Str):Prop where
 pin:Pin cs ps
 XZ:∀p∈ps,lq p.2.1=true
 way:lq wy=true
 ok:Bl cs ps wy=true
 tx:∀p∈ps,XU p
def cM(ps:List Part)(wy:Str):D:=.tup [.tup (ps.map p3),.str wy]
inductive L6 (t:fG) (ds:List D) (S:av) (R:KD) (Z:KX):Prop where
 |mk (cs:List (Str×Str)) (ps:List Part) (wy:Str) (l:Addr) (rs:List Row) (h0:ds=[.tup (cs.map az),cM ps wy,.ref l]) (h1:Gd cs) (h2:Og cs ps wy) (h3:S l=some (.lst (rs.map aq))) (h4:rs.length<64) (h5:Rg cs rs) (h6:Tb t S) (h7:∀(cz:List Row) (a:Addr),cz.Perm rs→(cz.Pairwise fun a b=>cL cs wy ps a b=true)→S a=none→R (.ref a) (S.set a (.lst (cz.map aq)))):L6 t ds S R Z
structure Vw(C:Addr)(S:av)(a:Addr)(cs:List (Str×Str))(m:D)(rows:List Row):Prop where
 sh:∃F dl rs,bZ C S a F cs dl rs∧rs.length<64∧nX dl.length m≠none∧∀i ss,nX dl.length m=some i→ss.Perm (rs.map (·.1))→PyProof.Rows.sortedS ss=true→lh rs i ss=rows.map aq
 mo:Gt S m
 len:rows.length<64
 rg:Rg cs rows
theorem bZ.sub(b:Sub S S')(h:bZ C S a F cs dl rs):bZ C S' a F cs dl rs:=by
 obtain⟨ld,lr,ra,h,e⟩:=h
 exact⟨ld,lr,ra,⟨b _ _ h.ins,b _ _ h.xq,b _ _ h.run,fun r hr=>b _ _ (h.cell r hr),h.kn,h.an,h.sz⟩,e⟩
theorem xH(T:Txt w K mg t)(B:Bm mg base):Ok P w base T.qQ 8 (L6 t):=by
 refine T.qQ.F.bU fR ?_
 rintro _ _ _ _ _ _ _ S R Z hr ⟨cs,ps,wy,l,rs,e,hg,ho,hl,hn,lL,ht,q⟩
 subst e
 refine⟨_,(sc (cn (i:=3) fR.nd (aI T.fc (mL T B) hr (ac (dv 2) (ac (ix hr.u (dv 1) di) an)))) (sc (wO (Gs (irt T.qN (ac (ix hr.u (dv 1) di) an)) (gn (i:=4) fR.nd) (s1 (cn (i:=3) fR.nd (aI T.fe (mM T B) hr (ac (dv 0) (ac (dv 4) (ac (dv 3) an)))))))) (s1 (sr (dv 3))))),?_⟩
 refine !!!⟨cs,l,rs,wy,rfl,ho.way,hl,hn,lL,ht.1,fun rs1 p1 pm1 pw1 vp=>?_⟩
 have X0:ps.reverse.length=ps.length:=yw
 refine⟨fun aG S'=>∃(o:Option D) (p:Addr) (cz:List Row),aG=[some (.tup (cs.map az)),some (cM ps wy),some (.ref l),some (.ref p),o]∧S p=none∧S' p=some (.lst (cz.map aq))∧Sub S S'∧cz.Perm rs∧cz.Pairwise fun a b=>cL cs wy ps a b=true,?_,?_⟩
 ·refine !!!⟨?_⟩
  refine⟨fun i aG S'=>∃(o:Option D) (p:Addr) (cz:List Row),aG=[some (.tup (cs.map az)),some (cM ps wy),some (.ref l),some (.ref p),o]∧S p=none∧S' p=some (.lst (cz.map aq))∧Sub S S'∧cz.Perm rs∧cz.Pairwise fun a b=>cL cs wy (ps.reverse.take i).reverse a b=true,⟨none,p1,rs1,rfl,vp,aa,.new vp,pm1,pw1⟩,fun _ _ _ _=>trivial,?_,?_⟩
  ·rintro i d aG S' hd ⟨o,p,cz,rfl,hp,dD,sb,pm,pw⟩
   have hd:(ps.map p3).reverse[i]?=some d:=hd
   rw[← List.map_reverse,zp] at hd
   cases e5:ps.reverse[i]? with
   |none=>rw[e5] at hd;cases hd
   |some pt =>
    rw[e5] at hd
    cases hd
    have NF:pt∈ps:=List.mem_reverse.mp (zC e5)
    have et:(ps.reverse.take (i+1)).reverse=pt::(ps.reverse.take i).reverse:=by
     rw[List.take_add_one,e5,List.reverse_append];rfl
    have FX:Pin cs (pt::(ps.reverse.take i).reverse):=fun x hx=>by
     rcases zi.mp hx with rfl|hx
     ·exact ho.pin _ NF
     ·exact ho.pin _ (List.mem_reverse.mp (List.mem_of_mem_take (List.mem_reverse.mp hx)))
    refine !!!⟨cs,(ps.reverse.take i).reverse,pt,wy,p,cz,rfl,hg,FX,ho.XZ pt NF,dD,by rw[pm.length_eq];exact hn,lL.perm pm,pw,ht.sub sb,fun W5 p2 pm2 UE gO=>?_⟩
    rw[← et] at UE
    exact⟨_,p2,W5,rfl,dw sb gO,aa,sb.trans (.new gO),pm2.trans pm,UE⟩
  ·rintro aG S' ⟨o,p,cz,rfl,hp,dD,sb,pm,pw⟩
   have pw:cz.Pairwise fun a b=>cL cs wy (ps.reverse.take (ps.map p3).reverse.length).reverse a b=true:=pw
   rw[yw,zb,List.take_of_length_le (Nat.le_of_eq X0),List.reverse_reverse] at pw
   exact fo ⟨o,p,cz,rfl,hp,dD,sb,pm,pw⟩
 ·rintro aG S' ⟨o,p,cz,rfl,hp,dD,sb,pm,pw⟩
  refine !⟨S.set p (.lst (cz.map aq)),fun b c hb=>?_,q cz p pm pw hp⟩
  by_cases e:b=p
  ·subst e;rw[aa] at hb;cases hb;exact dD
  ·rw[ag e] at hb;exact sb b c hb
def L7(cs:List (Str×Str))(d:D):D→Bool
 |.tup [.str k,.tup ws]=>aU cs (k,ws) 4 d
 |_=>false
inductive HB (t:fG) (ds:List D) (S:av) (R:KD) (Z:KX):Prop where
 |mk (a cs d m rows) (h0:ds=[.ref a,d,m]) (h1:Gd cs) (h2:Sg cs 4 d) (h3:Vw t.ao S a cs m rows) (h4:∀p,S p=none→R (.ref p) (S.set p (.lst ((rows.filter fun r=>aU cs r 4 d).map aq)))):HB t ds S R Z
theorem iE(T:Txt w K mg t):Ok P w base T.eP 8 (HB t):=by
 refine T.eP.F.bU iy ?_
 rintro _ _ _ _ _ _ _ S R Z hr ⟨a,cs,d,m,rows,e,hg,hd,hv,q⟩
 subst e
 obtain⟨F,dl,rs,hS,hn,L8,PM⟩:=hv.sh
 obtain⟨ld,lr,ra,h,_⟩:=id hS
 refine⟨_,(sc (cn (i:=3) iy.nd (kP (dv 0) T.aj T.aC (aW T) hr)) (s1 (sr (sA (N:=["row","columns","sieve"]) (src:=[none,some 3,some 1]) (kM (ae qF) ["shelf","sieve","moment","columns"] rfl rfl (by trivial)) (il (sD (dv 0) T.aj T.bV (t9 T) hr (ac (dv 2) an))) (qz (show (["row","columns","sieve"]:List Str).Nodup by trivial)) (ba rfl) bb (fun _ _ _ _ _=>(if1 (tv (aI T.passes (jQ T 4) hr (ac (dv 1) (ac (dv 2) (ac (dv 0) an))))))) (fun _ _ _ _ _=>(dv 0)))))),?_⟩
 refine !⟨a,_,rfl,h.ins,rfl,a,F,cs,dl,rs,rfl,hS,?_⟩
 refine !⟨a,_,rfl,h.ins,rfl,_,rfl,a,F,cs,dl,rs,m,rfl,hS,hn,hv.mo,fun i ss hi hp hs p jO=>?_,fun h=>absurd h L8⟩
 rw[PM i ss hi hp hs]
 refine⟨_,aa,?_⟩
 refine gH (L7 cs d) id aa (by show (rows.map aq).length≤1000;rw[zb];have:=hv.len;lia) (fun x hx Q Q' hQ Kb=>?_) fun p2 gO=>?_
 ·obtain⟨r,hr,rfl⟩:=zg.mp hx
  refine !!!⟨cs,d,r,rfl,hg,hd,hv.rg.1 r hr,_,rfl,bK (fun h=>!⟨hQ h⟩) (fun h=>Kb h)⟩
 ·have e1:((rows.map aq).filter (L7 cs d)).map id=(rows.filter fun r=>aU cs r 4 d).map aq:=n6 fun r=>rfl
  rw[show (⟨rows.map aq,fun S=>xZ S (.ref p) (rows.map aq)⟩:E_).xs=rows.map aq from rfl,e1]
  exact⟨_,fT (.new jO),q p2 (dw (.new jO) gO)⟩
inductive SN (t:fG) (ds:List D) (S:av) (R:KD) (Z:KX):Prop where
 |mk (a cs ps wy d m rows) (h0:ds=[.ref a,cM ps wy,d,m]) (h1:Gd cs) (h2:Og cs ps wy) (h3:Sg cs 4 d) (h4:Vw t.ao S a cs m rows) (h5:Tb t S) (h6:∀(cz:List Row) (p:Addr),cz.Perm (rows.filter fun r=>aU cs r 4 d)→(cz.Pairwise fun a b=>cL cs wy ps a b=true)→S p=none→R (.ref p) (S.set p (.lst (cz.map aq)))):SN t ds S R Z
theorem dy(T:Txt w K mg t)(B:Bm mg base):Ok P w base T.cy 9 (SN t):=by
 refine T.cy.F.bU mq ?_
 rintro _ _ _ _ _ _ _ S R Z hr ⟨a,cs,ps,wy,d,m,rows,e,hg,ho,hd,hv,ht,q⟩
 subst e
 obtain⟨F,dl,rs,hS,hn,L8,PM⟩:=hv.sh
 obtain⟨ld,lr,ra,h,_⟩:=id hS
 refine⟨_,(s1 (sr (aI T.qQ (xH T B) hr (ac (kP (dv 0) T.aj T.aC (aW T) hr) (ac (dv 1) (ac (aI T.eP (iE T) hr (ac (dv 0) (ac (dv 2) (ac (dv 3) an)))) an)))))),?_⟩
 refine !⟨a,_,rfl,h.ins,rfl,a,F,cs,dl,rs,rfl,hS,?_⟩
 refine !!!!⟨a,cs,d,m,rows,rfl,hg,hd,hv,fun p hp=>?_⟩
 have fl:(rows.filter fun r=>aU cs r 4 d).length≤rows.length:=List.length_filter_le _ _
 have:=hv.len
 refine⟨cs,ps,wy,p,rows.filter fun r=>aU cs r 4 d,rfl,hg,ho,aa,Nat.lt_of_le_of_lt fl this,hv.rg.sub List.filter_sublist,ht.sub (.new hp),fun cz p2 pm pw gO=>?_⟩
 exact⟨_,fT (.new hp),q cz p2 pm pw (dw (.new hp) gO)⟩
inductive lB (t:fG) (ds:List D) (S:av) (R:KD) (Z:KX):Prop where
 |mk (a cs d m rows) (h0:ds=[.ref a,d,m]) (h1:Gd cs) (h2:Sg cs 4 d) (h3:Vw t.ao S a cs m rows) (h4:R (.int ((rows.filter fun r=>aU cs r 4 d).length:Nat)) S):lB t ds S R Z
theorem fU(T:Txt w K mg t):Ok P w base T.gA 9 (lB t):=by
 refine T.gA.F.bU xo ?_
 rintro _ _ _ _ _ _ _ S R Z hr ⟨a,cs,d,m,rows,e,hg,hd,hv,q⟩
 subst e
 obtain⟨F,dl,rs,hS,hn,L8,PM⟩:=hv.sh
 obtain⟨ld,lr,ra,h,_⟩:=id hS
 refine⟨_,(sc (se (aI T.dZ (fu T) hr (ac (kP (dv 0) T.aj T.aC (aW T) hr) (ac (dv 1) an)))) (s1 (sr (cb aT T.aO aE (ac (aI T.eP (iE T) hr (ac (dv 0) (ac (dv 1) (ac (dv 2) an)))) an))))),?_⟩
 refine !⟨a,_,rfl,h.ins,rfl,a,F,cs,dl,rs,rfl,hS,_,rfl,cs,d,rfl,hg,hd,?_⟩
 refine !!!⟨a,cs,d,m,rows,rfl,hg,hd,hv,fun p hp=>!⟨.inl ⟨_,aa,S,.new hp,?_⟩⟩⟩
 rw[zb]
 exact q
def CT(z:Str):D→Bool
 |.tup [.tup (.str n::_),_]=>decide (n=z)
 |_=>false
def SO:D→D
 |.tup [_,v]=>v
 |_=>.aw
theorem xI:∀{cs:List (Str×Str)}{ws:List D},z∈cs.map Prod.fst→ws.length=cs.length→(((bu (cs.map az) ws).filter (CT z)).map SO)[0]?=some (ak cs ws z)
 |[],_,h,_=>by cases h
 |c::cs,[],_,h=>by cases h
 |c::cs,v::ws,h,hl=>by
  have e0:bu ((c::cs).map az) (v::ws)=.tup [az c,v]::bu (cs.map az) ws:=rfl
  rw[e0]
  unfold ak Ko
  by_cases e:c.1=z
  ·rw[yi,if_pos (show CT z (.tup [az c,v])=true from zq e),zB,zB,e,List.idxOf_cons_self]
   rfl
  ·have hz:z∈cs.map Prod.fst:=by
    rw[zB] at h
    rcases zi.mp h with h|h
    ·exact absurd h.symm e
    ·exact h
   have ih:=xI (ws:=ws) hz (by simpa using hl)
   unfold ak Ko at ih
   rw[yi,if_neg (by rw[show CT z (.tup [az c,v])=false from zk e];exact zd),ih,zB,List.idxOf_cons,show (c.1 == z)=false by simpa using e]
   rfl
theorem CU(q:R (.bl (if neg then !(x == y) else (x == y))) S):E7 neg (.bl x) (.bl y) S R :=
 ⟨.bool x,.bool y,by simp only [Dl,Dp],by simp only [Dl,Dp],by simp only [PyData.canLay0],by simp only [PyData.canLay0],.inl (by simp only [PyData.depth];lia),by
  have e:PyData.eqv (.bool x) (.bool y)=(x == y):=by cases x <;> cases y <;> rfl
  rw[e];exact q⟩
inductive HC (ds:List D) (S:av) (R:KD) (Z:KX):Prop where
 |mk (cs r c) (h0:ds=[.tup (cs.map az),aq r,.str c.1]) (h1:Gd cs) (h2:Wg cs r.2) (h3:c∈cs) (h4:R (ak cs r.2 c.1) S):HC ds S R Z
theorem L9(T:Txt w K mg t):Ok P w base T.JZ 1 HC:=by
 refine T.JZ.F.bU J1 ?_
 rintro _ _ _ _ _ _ _ S R Z hr ⟨cs,r,c,e,hg,hw,hc,q⟩
 subst e
 have hlen:r.2.length=cs.length:=(yC hw).symm
 have dD:(bu (cs.map az) r.2).length≤1000:=by unfold bu;rw[List.length_zipWith,zb];have:=hg.1;lia
 refine⟨_,(s1 (sr (ix hr.u (sA (N:=["_law_column","_law_value_here","_law_name"]) (src:=[none,none,some 2]) (kM (ae Oj) ["_law_columns_here","_law_row","_law_name"] rfl rfl (by trivial)) (Xo T.CB (ac (dv 0) (ac (ix hr.u (dv 1) di) an))) (Ug (show (["_law_column","_law_value_here","_law_name"]:List Str).Nodup by trivial)) (pK rfl rfl) pM (fun _ _ _ _ _=>(if1 (bh br hr.u (ix hr.u (dv 0) di) (dv 2)))) (fun _ _ _ _ _=>(dv 1))) di))),?_⟩
 refine !!!⟨cs.map az,r.2,rfl,by rw[zb];exact hlen.symm,?_⟩
 refine gH (CT c.1) SO trivial dD (fun d hd Q Q' hQ Kb=>?_) fun p hp=>?_
 ·have hd:d∈bu (cs.map az) r.2:=hd
  unfold bu at hd
  obtain⟨i,ei⟩:=List.getElem?_of_mem hd
  obtain⟨x,y,e2,e3,e4⟩:=List.getElem?_zipWith_eq_some.mp ei
  subst e4
  rw[zp] at e2
  cases e5:cs[i]? with
  |none=>rw[e5] at e2;cases e2
  |some c' =>
   rw[e5] at e2
   cases e2
   exact !⟨rfl,_,_,rfl,_,_,rfl,rfl,_,rfl,_,rfl,_,rfl,_,rfl,bK (fun h=>!⟨hQ h⟩) (fun h=>Kb h)⟩
 ·exact⟨_,_,aa,df (xI (zg.mpr ⟨c,hc,rfl⟩) hlen),S,.new hp,q⟩
theorem kd_sub(h:Sub S S')(hk:NL S d k):NL S' d k:=by
 cases d with
 |ref a =>
  rcases hk with ⟨e,ds,q⟩|⟨e,ds,q⟩
  ·exact .inl ⟨e,ds,h _ _ q⟩
  ·exact .inr ⟨e,ds,h _ _ q⟩
 |_=>exact hk
theorem Gt.sub(h:Sub S S')(g:Gt S d):Gt S' d:=⟨by obtain⟨k,hk⟩:=g.1;exact⟨k,kd_sub h hk⟩,g.2⟩
theorem OM:Gt S (.tup ws):=⟨⟨.tup,rfl⟩,fun _=>nofun⟩
theorem Ku(h:ws.length≤1000)(g:∀v∈ws,Gt S v):PF S (.tup ws):=⟨OM,fun LZ e=>by cases e;exact⟨h,g⟩⟩
theorem gt_int:Gt S (.int i):=⟨⟨.int,rfl⟩,fun _=>nofun⟩
theorem CV(h:z.cps.size≤1000):Gt S (.str z):=⟨⟨.str,rfl⟩,fun z' e=>by cases e;exact h⟩
theorem HD(h:bx d=true):Gt S d:=by
 cases d with
 |aw=>exact vm
 |int i=>exact gt_int
 |str z =>
  have h:(decide (z.cps.size≤40) && PyData.strOk z)=true:=h
  rw[zJ] at h
  have:=zA h.1
  exact CV (by lia)
 |_=>cases h
theorem rD:∀{cs:List (Str×Str)}{ws:List D},Paired rel cs ws→ws.length=cs.length
 |_,_,.nil=>rfl
 |_,_,.cons _ t=>by rw[zQ,zQ,rD t]
theorem Wg.len(h:Wg cs ws):ws.length=cs.length:=rD h
theorem Wg.ON(h:Wg cs ws):my cs (.tup ws)=true:=by
 show (decide (ws.length=cs.length) && (List.zipWith (fun c v=>jo c.2 v) cs ws).all id)=true
 rw[zq h.len,zY]
 unfold Wg at h
 induction h with
 |nil=>rfl
 |cons r t ih =>
  rw[List.zipWith_cons_cons,yK,ih]
  show (id (jo _ _) && true)=true
  rw[show id (jo _ _)=true from r.1];rfl
theorem Wg.Zk(h:Wg cs ws)(hc:cs.length≤8):PF S (.tup ws):=Ku (by rw[h.len];lia) fun v hv=>HD (h.all v hv)
theorem Kv(hg:Gd cs)(hN:∀c∈cs,c.1∈CJ):∀d∈cs.map az,Ly S 60 d:=fun d hd=>by
 obtain⟨c,hc,rfl⟩:=zg.mp hd
 refine (Ly.tup (n:=0) fun x hx=>?_).le (by decide)
 have hx:x∈[D.str c.1,D.str c.2]:=hx
 simp only [zi,zK,or_false] at hx
 rcases hx with rfl|rfl
 ·exact Ly.str (Hh _ (hN c hc)).2
 ·rcases (hg.2.2 c hc).2 with e|e <;> rw[e] <;> exact Ly.str (by trivial)
theorem Kw{n a b tn:Nat}(ha:a<n)(hb:b<n)(h:(a+tn) % n=(b+tn) % n):a=b:=by
 rcases Nat.lt_trichotomy a b with l|l|l
 ·have:=Nat.sub_mod_eq_zero_of_mod_eq h.symm
  rw[show b+tn - (a+tn)=b - a by lia,Nat.mod_eq_of_lt (by lia)] at this
  lia
 ·exact l
 ·have:=Nat.sub_mod_eq_zero_of_mod_eq h
  rw[show a+tn - (b+tn)=a - b by lia,Nat.mod_eq_of_lt (by lia)] at this
  lia
def rE(cs:List (Str×Str))(tn k:Nat):Str:=(cs.getD ((k+tn) % cs.length) ("","")).1
theorem xJ(h:0<cs.length):∃c∈cs,cs[(k+tn) % cs.length]?=some c∧c.1=rE cs tn k:=by
 have eE:(k+tn) % cs.length<cs.length:=Nat.mod_lt _ h
 refine⟨cs[(k+tn) % cs.length],List.getElem_mem eE,zf eE,?_⟩
 unfold rE
 rw[zD,zf eE];rfl
theorem xK{cs:List (Str×Str)}(hg:(cs.map Prod.fst).Nodup){tn i:Nat}(hi:i≤cs.length):((List.range i).map (rE cs tn)).Nodup:=by
 refine List.pairwise_map.mpr (List.nodup_range.imp_of_mem fun {a b} ha hb n e=>n ?_)
 have ha:=zN.mp ha
 have hb:=zN.mp hb
 have h0:0<cs.length:=by lia
 have la:(a+tn) % cs.length<cs.length:=Nat.mod_lt _ h0
 have lb:(b+tn) % cs.length<cs.length:=Nat.mod_lt _ h0
 unfold rE at e
 rw[zD,zf la,zD,zf lb] at e
 have e:(cs[(a+tn) % cs.length]).1=(cs[(b+tn) % cs.length]).1:=e
 have e2:(cs.map Prod.fst)[(a+tn) % cs.length]'(by rw[zb];exact la)=(cs.map Prod.fst)[(b+tn) % cs.length]'(by rw[zb];exact lb):=by
  rw[List.getElem_map,List.getElem_map];exact e
 exact Kw (n:=cs.length) (by lia) (by lia) ((List.getElem_inj hg).mp e2)
inductive uc (ds:List D) (S:av) (R:KD) (Z:KX):Prop where
 |mk (l cs) (h0:ds=[.ref l,.tup (cs.map az)]) (h1:Gd cs) (h2:S l=some .well) (h3:∀(ps:List Part) (wy:Str),Og cs ps wy→R (cM ps wy) S):uc ds S R Z
theorem HE(T:Txt w K mg t):Ok P w base T.u3 2 uc:=by
 refine T.u3.F.bU fj ?_
 rintro _ _ _ _ _ _ _ S R Z hr ⟨l,cs,e,hg,hw,q⟩
 subst e
 have h8:=hg.1
 have DQ:(cs.map az).length=cs.length:=zb _
 refine⟨_,(sc (cn (i:=2) fj.nd (aI T.aR (bI T) hr (ac (dv 0) (ac di an)))) (sc (cn (i:=3) fj.nd (dS an)) (sc (wO (Gs (Pp T.jJ (ac (cb Lx T.LU F_ (ac (cb aT T.aO aE (ac (dv 1) an)) (ac (Eb (ix hr.u (dS (ac di (ac di (ac di (ac di an))))) (aI T.aR (bI T) hr (ac (dv 0) (ac di an))))) an))) an)) (gn (i:=4) fj.nd) (sc (cn (i:=5) fj.nd (ix hr.u (ix hr.u (dv 1) (bo ke hr.u (bo bc hr.u (dv 4) (dv 2)) (cb aT T.aO aE (ac (dv 1) an)))) di)) (s1 (se (bm zT yd ye dU (dv 3) (ac (bD (ac (dv 5) (ac (Eb (ix hr.u (dS (ac ds (ac ds an))) (aI T.aR (bI T) hr (ac (dv 0) (ac di an))))) (ac (Eb (ix hr.u (dS (ac ds (ac ds an))) (aI T.aR (bI T) hr (ac (dv 0) (ac di an))))) an)))) an))))))) (s1 (sr (bD (ac (ct eO T.bj aV (ac (dv 3) an)) (ac (Eb (ix hr.u (dS (ac ds (ac ds an))) (aI T.aR (bI T) hr (ac (dv 0) (ac di an))))) an)))))))),?_⟩
 refine !⟨l,_,rfl,(by decide),(by decide),hw,fun tr ht0 ht1=>⟨A8,fun lp X1=>?_⟩⟩
 obtain⟨tn,rfl⟩:∃n:Nat,tr=(n:Int):=⟨tr.toNat,by lia⟩
 have Zl:l≠lp:=gW hw X1
 refine⟨fun aG S'=>∃(o4 o5:Option D) (ps:List Part) (i:Nat),aG=[some (.ref l),some (.tup (cs.map az)),some (.int tn),some (.ref lp),o4,o5]∧i≤cs.length∧ps.map Prod.fst=(List.range i).map (rE cs tn)∧(∀p∈ps,lq p.2.1=true∧Bk p.2.2=true)∧S'=S.set lp (.lst (ps.map p3)),?_,?_⟩
 ·refine !!⟨pz,fun p hp=>!⟨l,_,rfl,(by decide),(by decide),wl (wl hw X1) hp,fun n4 UA XM=>cF UA XM hp fun d hd=>?_⟩⟩
  obtain⟨m,rfl⟩:∃m:Nat,d=.int m:=by
   have hd:d∈[D.int 1,.int 2,.int 0,.int 8]:=hd
   simp only [zi,zK,or_false] at hd
   rcases hd with h|h|h|h
   ·exact⟨1,h⟩
   ·exact⟨2,h⟩
   ·exact⟨0,h⟩
   ·exact⟨8,h⟩
  obtain⟨k,hk,ek⟩:∃k:Nat,k≤cs.length∧(if decide ((m:Int)<(((cs.map az).length:Nat):Int))=true then (m:Int) else (((cs.map az).length:Nat):Int))=(k:Int):=by
   rw[DQ]
   by_cases h:(m:Int)<((cs.length:Nat):Int)
   ·exact⟨m,by lia,by rw[zq h,if_pos rfl]⟩
   ·exact⟨cs.length,zm _,by rw[zk h,if_neg zd]⟩
  refine⟨_,_,rfl,k,congrArg (fun i=>[D.int i]) ek,by lia,by lia,?_⟩
  refine⟨fun i aG S'=>∃(o4 o5:Option D) (ps:List Part),aG=[some (.ref l),some (.tup (cs.map az)),some (.int tn),some (.ref lp),o4,o5]∧ps.map Prod.fst=(List.range i).map (rE cs tn)∧(∀p∈ps,lq p.2.1=true∧Bk p.2.2=true)∧S'=S.set lp (.lst (ps.map p3)),⟨none,none,[],rfl,rfl,fun _ h=>(nomatch h),rfl⟩,fun _ _ _ _=>trivial,?_,?_⟩
  ·rintro i d aG S' hd ⟨o4,o5,ps,rfl,hn,dW,rfl⟩
   obtain⟨hi,rfl⟩:=i5 hd
   have hi:i<k:=by simpa using hi
   have h0:0<cs.length:=by lia
   have dD:ps.length=i:=by have:=congrArg List.length hn;simpa using this
   obtain⟨c,hc,ec,ec1⟩:=xJ (cs:=cs) (tn:=tn) (k:=i) h0
   have pL:(S.set lp (.lst (ps.map p3))) l=some .well:=(ag Zl).trans hw
   have vY:(S.set lp (.lst (ps.map p3))) lp=some (.lst (ps.map p3)):=aa
   have eat:uo (cs.map az) (((0:Int)+(i:Nat)+(tn:Nat)) % (((cs.map az).length:Nat):Int))=some (az c):=by
    rw[DQ,show ((0:Int)+(i:Nat)+(tn:Nat)) % ((cs.length:Nat):Int)=(((i+tn) % cs.length:Nat):Int) by rw[Int.zero_add,Int.natCast_emod,Int.natCast_add]]
    refine df ?_
    rw[zp,ec];rfl
   refine !!!!!⟨(by rw[DQ];lia),_,eat,_,rfl,?_⟩
   refine !⟨⟨rfl,_,vY⟩,_,rfl,bH,fun p hp=>!⟨l,_,rfl,(by decide),(by decide),wl pL hp,fun n2 OA Hk=>cF OA Hk hp fun d hd=>?_⟩⟩
   obtain⟨wy,rfl,Im⟩:∃wy:Str,d=.str wy∧lq wy=true:=by
    have hd:d∈[D.str "up",.str "down"]:=hd
    simp only [zi,zK,or_false] at hd
    rcases hd with h|h
    ·exact⟨_,h,by trivial⟩
    ·exact⟨_,h,by trivial⟩
   refine⟨bH,fun p hp=>!⟨l,_,rfl,(by decide),(by decide),wl pL hp,fun n2 OA Hk=>cF OA Hk hp fun d hd=>?_⟩⟩
   obtain⟨en,rfl,xY⟩:∃en:Str,d=.str en∧Bk en=true:=by
    have hd:d∈[D.str "first",.str "last"]:=hd
    simp only [zi,zK,or_false] at hd
    rcases hd with h|h
    ·exact⟨_,h,by trivial⟩
    ·exact⟨_,h,by trivial⟩
   refine⟨hX,lp,_,_,rfl,rfl,vY,bg (by rw[zb];lia),?_⟩
   refine⟨_,_,ps++[(c.1,wy,en)],rfl,?_,fun x hx=>?_,?_⟩
   ·rw[zH,hn,List.range_succ,zH]
    show _=_++[rE cs tn i]
    rw[← ec1];rfl
   ·rcases zL.mp hx with h|h
    ·exact dW x h
    ·rw[zG.mp h];exact⟨Im,xY⟩
   ·rw[dG,zH];rfl
  ·rintro aG S' ⟨o4,o5,ps,rfl,hn,dW,rfl⟩
   rw[dh] at hn
   exact fo ⟨o4,o5,ps,k,rfl,hk,by simpa using hn,dW,rfl⟩
 ·rintro aG S' ⟨o4,o5,ps,i,rfl,hi,hn,hk,rfl⟩
  have pL:(S.set lp (.lst (ps.map p3))) l=some .well:=(ag Zl).trans hw
  have vY:(S.set lp (.lst (ps.map p3))) lp=some (.lst (ps.map p3)):=aa
  refine !⟨_,_,rfl,.inl vY,bH,fun p hp=>!⟨l,_,rfl,(by decide),(by decide),wl pL hp,fun n2 OA Hk=>cF OA Hk hp fun d hd=>?_⟩⟩
  obtain⟨wy,rfl,Im⟩:∃wy:Str,d=.str wy∧lq wy=true:=by
   have hd:d∈[D.str "up",.str "down"]:=hd
   simp only [zi,zK,or_false] at hd
   rcases hd with h|h
   ·exact⟨_,h,by trivial⟩
   ·exact⟨_,h,by trivial⟩
  have dD:ps.length=i:=by have:=congrArg List.length hn;simpa using this
  have pin:Pin cs ps:=fun x hx=>by
   have:x.1∈ps.map Prod.fst:=zg.mpr ⟨x,hx,rfl⟩
   rw[hn] at this
   obtain⟨k,hk,e⟩:=zg.mp this
   have:=zN.mp hk
   obtain⟨c,hc,_,ec⟩:=xJ (cs:=cs) (tn:=tn) (k:=k) (by lia)
   exact⟨c,hc,ec.trans e⟩
  have wsz:∀z,lq z=true→z.cps.size≤1000:=fun z h=>by rcases vH h with rfl|rfl <;> decide +kernel
  have esz:∀z,Bk z=true→z.cps.size≤1000:=fun z h=>by
   unfold Bk at h
   simp only [Bool.or_eq_true,zX] at h
   rcases h with rfl|rfl <;> decide +kernel
  refine⟨bH,S,.new X1,q ps wy ⟨pin,fun x hx=>(hk x hx).1,Im,?_,fun x hx=>?_⟩⟩
  ·unfold Bl
   rw[zq (show ps.length≤8 by lia),zY,zJ,zJ]
   refine⟨yc.mpr fun x hx=>?_,zq (by rw[hn];exact xK hg.2.1 hi),Im⟩
   obtain⟨c,hc,ec⟩:=pin x hx
   unfold fS
   rw[zq (zg.mpr ⟨c,hc,ec⟩),(hk x hx).1,(hk x hx).2];rfl
  ·obtain⟨c,hc,ec⟩:=pin x hx
   exact⟨by rw[← ec];exact nV (hg.2.2 c hc).1,wsz _ (hk x hx).1,esz _ (hk x hx).2⟩
def X2(n:Nat):iL:=fun ds S R _=>∃l cs m,n=m+1∧ds=[.ref l,.tup (cs.map az),.int ((m:Nat):Int)]∧Gd cs∧(∀c∈cs,c.1∈CJ)∧S l=some .well∧∀d,Sg cs n d→R d S
theorem keys_str:(∀d∈out,∃z∈KS,d=.str z)→∃ks:List Str,out=ks.map D.str∧∀k∈ks,k∈KS:=by
 induction out with
 |nil=>exact fun _=>⟨[],rfl,fun _ h=>(nomatch h)⟩
 |cons x l ih =>
  intro h
  obtain⟨z,hz,e⟩:=h x zo
  obtain⟨ks,e2,hk⟩:=ih fun d hd=>h d (zh _ hd)
  exact⟨z::ks,by rw[e,e2];rfl,fun k FO=>(zi.mp FO).elim (fun e=>e ▸ hz) (hk k)⟩
theorem lC:∀{xs out:List D},Paired rel xs out→∀v∈out,∃x,rel x v
 |_,_,.nil,_,h=>(nomatch h)
 |_,_,.cons r t,v,h=>by
  rcases zi.mp h with rfl|h
  ·exact⟨_,r⟩
  ·exact lC t v h
theorem n8(T:Txt w K mg t):∀n,Ok P w base T.jM (3+n) (X2 n)
 |0=>by
  refine T.jM.F.ok (k:=2) cW (by rintro ds S R Z ⟨_,_,_,_,e,_⟩;exact by rw[e];rfl) (by rintro fK A outer s H E ds S R Z hr ⟨_,_,m,e,_⟩;exact by cases e)
 |n+1=>by
  refine T.jM.F.ok (k:=3+n) cW (by rintro ds S R Z ⟨_,_,_,_,e,_⟩;rw[e];rfl) ?_
  rintro _ _ _ _ _ _ _ S R Z hr ⟨l,cs,m,em,e,hg,hN,hw,q⟩
  subst e
  cases em
  have DQ:(cs.map az).length=cs.length:=zb _
  have h8:=hg.1
  refine⟨_,(sc (cn (i:=3) cW.nd (aI T.aR (bI T) hr (ac (dv 0) (ac (bo bc hr.u di (bo iZ hr.u di (ct Cc T.xh qm (ac (cm nr hr.u (dv 2) di) an)))) an)))) (sc (si (twd (twor (bh br hr.u (dv 3) di) (tw1 (twd (twand (bh br hr.u (dv 1) (bD an)) (tw1 (bh sy hr.u (dv 3) di))))))) (s1 (sr (bD (ac ds an)))) s0) (sc (si (bh br hr.u (dv 3) di) (s1 (sr (bD (ac ds (ac (ct eO T.bj aV (ac (sA (N:=["_law_k","_law_well_here"]) (src:=[none,some 0]) (kM (ae tU) ["_law_well_here","_law_columns_here","_law_deep","_law_way","_law_some","_law_name","_law_kind","_law_value_here"] rfl rfl (by trivial)) (Pp T.jJ (ac (aI T.aR (bI T) hr (ac (dv 0) (ac di an))) an)) (qz (show (["_law_k","_law_well_here"]:List Str).Nodup by trivial)) (ba rfl) bb (fun _ _ _ _ _=>rQ) (fun _ _ _ _ _=>(aI T.xj (Bh T) hr (ac (dv 1) an)))) an)) an))))) s0) (sc (si (bh br hr.u (dv 3) di) (s1 (sr (bD (ac ds (ac (aI T.jM (n8 T n) hr (ac (dv 0) (ac (dv 1) (ac (bo lV hr.u (dv 2) di) an)))) an))))) s0) (sc (si (bh nr hr.u (dv 3) di) (sc (Pq (i:=4) (N:=["_law_k","_law_well_here","_law_columns_here","_law_deep"]) (src:=[none,some 0,some 1,some 2]) cW.nd (kM (ae tU) ["_law_well_here","_law_columns_here","_law_deep","_law_way","_law_some","_law_name","_law_kind","_law_value_here"] rfl rfl (by trivial)) (Pp T.jJ (ac (aI T.aR (bI T) hr (ac (dv 0) (ac di an))) an)) (qz (show (["_law_k","_law_well_here","_law_columns_here","_law_deep"]:List Str).Nodup by trivial)) (ba rfl) bb (fun _ _ _ _ _=>rQ) (fun _ _ _ _ _=>(aI T.jM (n8 T n) hr (ac (dv 1) (ac (dv 2) (ac (bo lV hr.u (dv 3) di) an)))))) (s1 (sr (bD (ac (Eb (ix hr.u (dS (ac ds (ac ds an))) (bo lV hr.u (dv 3) di))) (ac (ct eO T.bj aV (ac (dv 4) an)) an)))))) s0) (sc (sa (ix hr.u (dv 1) (aI T.aR (bI T) hr (ac (dv 0) (ac (cb aT T.aO aE (ac (dv 1) an)) an)))) (gt (n:=2) (gc (gn (i:=5) cW.nd) (gc (gn (i:=6) cW.nd) g0)))) (sc (cn (i:=7) cW.nd (aI T.mm (rl T) hr (ac (dv 0) (ac (dv 6) an)))) (sc (si (twd (twor (bh br hr.u (dv 3) di) (tw1 (bh i4 hr.u (dv 7) dn)))) (s1 (sr (bD (ac ds (ac (dv 5) (ac (dv 7) an)))))) s0) (sc (si (twd (twand (bh br hr.u (dv 3) di) (tw1 (bh br hr.u (dv 6) ds)))) (s1 (sr (bD (ac ds (ac (dv 5) (ac (dv 7) an)))))) s0) (s1 (sr (bD (ac (Eb (ix hr.u (dS (ac ds (ac ds an))) (bo ke hr.u (dv 3) di))) (ac (dv 5) (ac (dv 7) an))))))))))))))),?_⟩
  obtain⟨x,ex,hx⟩:∃x:Int,(if (fun i j:Int=>decide (j<i)) (↑n) 0=true then (1:Int) else 0)=x∧(x=0∨(x=1∧0<n)):=by
   by_cases e:(0:Int)<(n:Int)
   ·exact⟨1,if_pos (zq e),.inr ⟨rfl,by lia⟩⟩
   ·exact⟨0,if_neg (by rw[show (fun i j:Int=>decide (j<i)) (↑n) 0=false from zk e];exact zd),.inl rfl⟩
  refine !!⟨.inr !⟨?_⟩⟩
  rw[ex]
  refine⟨.inl ⟨by decide,by decide⟩,l,_,rfl,by lia,rj (by lia) (by lia),hw,fun way h0 h1=>?_⟩
  have h9:way<9:=by lia
  have L_:6≤way→0<n:=fun h=>by lia
  have Ma:Fo S (R (.tup [.str "every"])):=fo (q _ (.inl (.inl rfl)))
  have lys:∀d∈cs.map az,Ly S 60 d:=Kv hg hN
  refine !!⟨bK (fun h=>⟨mx,Ma⟩) (fun h=>!⟨A8,Kj lys !⟨bK (fun h2=>!!⟨bK (fun h3=>⟨mx,Ma⟩) (fun h3=>?_)⟩) (fun h2=>?_)⟩⟩)⟩
  all_goals
   have He:way<5→0<cs.length:=by
    first
    |exact fun h=>absurd h (zO h3)
    |exact fun _=>List.length_pos_iff.mpr fun e=>by subst e;cases h2
   have hw0:way≠0:=zO h
   refine !!⟨bK (fun h5=>?_) (fun h5=>?_)⟩
   ·refine !⟨l,_,rfl,(by decide),(by decide),hw,fun n5 h50 h51=>⟨n5,rfl,by lia,by lia,?_⟩⟩
    refine fm (fun _ v=>∃z∈KS,v=.str z) trivial (by rw[dh];lia) (fun d hd Q hQ=>?_) fun out ho p hp=>?_
    ·exact !⟨l,[],rfl,rfl,hw,by rintro d ⟨z,hz,e⟩;exact hQ d ⟨z,xw hz,e⟩⟩
    ·obtain⟨ks,rfl,AJ⟩:=keys_str fun d hd=>(lC ho d hd).elim fun _ h=>h
     have Zm:ks.length≤8:=by
      have:=yC ho
      rw[dh,zb] at this
      lia
     exact⟨_,_,rfl,.inl aa,bH,S,.new hp,q _ (.inl (.inr (.inl ⟨ks,rfl,Zm,AJ⟩)))⟩
   have SQ:way≠5:=zO h5
   refine !!⟨bK (fun h6=>?_) (fun h6=>?_)⟩
   ·have h6:way=6:=zA h6
    have hn:=L_ (by lia)
    refine !!!⟨l,cs,n - 1,by lia,?_,hg,hN,hw,fun d hd=>⟨bH,fo (q _ (.inr (.inl ⟨d,rfl,hd⟩)))⟩⟩
    show [D.ref l,.tup (cs.map az),.int ((n:Int) - 1)]=[_,_,D.int ((n - 1:Nat):Int)]
    rw[show ((n - 1:Nat):Int)=(n:Int) - 1 by lia]
   have hw6:way≠6:=zO h6
   refine !!⟨bK (fun h7=>?_) (fun h7=>?_)⟩
   ·have h7:6<way:=zA h7
    have hn:=L_ (by lia)
    refine !⟨l,_,rfl,(by decide),(by decide),hw,fun n3 h30 UD=>⟨n3,rfl,by lia,by lia,?_⟩⟩
    refine fm (fun _ v=>Sg cs n v) trivial (by rw[dh];lia) (fun d hd Q hQ=>?_) fun out ho p hp=>?_
    ·refine !!!⟨l,cs,n - 1,by lia,?_,hg,hN,hw,fun d hd=>hQ d hd⟩
     show [D.ref l,.tup (cs.map az),.int ((n:Int) - 1)]=[_,_,D.int ((n - 1:Nat):Int)]
     rw[show ((n - 1:Nat):Int)=(n:Int) - 1 by lia]
    ·have QW:out.length≤2:=by
      have:=yC ho
      rw[dh] at this
      lia
     refine⟨bH,fun p2 gO=>!⟨cF (by lia) (by show way - 7<2;lia) gO fun d hd=>?_⟩⟩
     obtain⟨o,rfl,X3⟩:∃o:Str,d=.str o∧(o = "and" ∨ o = "or"):=by
      have hd:d∈[D.str "and",.str "or"]:=hd
      simp only [zi,zK,or_false] at hd
      rcases hd with h|h
      ·exact⟨_,h,.inl rfl⟩
      ·exact⟨_,h,.inr rfl⟩
     exact !⟨_,_,rfl,.inl aa,bH,S,.new hp,q _ (.inr (.inr ⟨o,out,X3,rfl,QW,fun e he=>(lC ho e he).elim fun _ h=>h⟩))⟩
   have h7:¬ 6<way:=zO h7
   have r_:=He (by lia)
   refine !!!!⟨l,_,rfl,by lia,rj (by lia) (by lia),hw,fun j hj0 hj1=>?_⟩
   obtain⟨jn,rfl⟩:∃jn:Nat,j=(jn:Int):=⟨j.toNat,by lia⟩
   have Zn:jn<cs.length:=by lia
   have ec:cs[jn]?=some cs[jn]:=zf Zn
   have hc:cs[jn]∈cs:=List.getElem_mem Zn
   generalize cs[jn]=c at ec hc
   refine⟨az c,df (by rw[zp,ec];rfl),_,rfl,rfl,_,_,rfl,_,_,rfl,rfl,?_⟩
   refine !!⟨l,[.str c.2],rfl,?_,hw,fun v hv=>?_⟩
   ·rcases (hg.2.2 c hc).2 with e|e <;> rw[e]
    ·exact .inl rfl
    ·exact .inr rfl
   obtain⟨k,ek,hv⟩:=hv
   cases ek
   have OD:Fo S (R (.tup [.str "is",.str c.1,v])):=fo (q _ (.inl (.inr (.inr ⟨"is",c,v,hc,hv,.inl rfl,rfl⟩))))
   refine !!⟨bK (fun h8=>!!⟨hX,OD⟩) (fun h8=>!!⟨bK (fun h9=>!!⟨hX,OD⟩) (fun h9=>?_)⟩)⟩
   have UB:v≠.aw:=bw h9
   refine !!⟨bK (fun h10=>!!⟨bK (fun SF=>?_) (fun SF=>?_)⟩) (fun h10=>?_)⟩
   ·exact !!⟨hX,fo (q _ (.inl (.inr (.inr ⟨"begins",c,v,hc,hv,.inr ⟨UB,.inr (.inr ⟨rfl,zA SF⟩)⟩,rfl⟩))))⟩
   all_goals
    refine⟨bH,fun p hp=>!⟨(by decide),cF (by lia) (by show way % 2<2;lia) hp fun d hd=>?_⟩⟩
    obtain⟨o,rfl,X3⟩:∃o:Str,d=.str o∧(o = "below" ∨ o = "above"):=by
     have hd:d∈[D.str "below",.str "above"]:=hd
     simp only [zi,zK,or_false] at hd
     rcases hd with h|h
     ·exact⟨_,h,.inl rfl⟩
     ·exact⟨_,h,.inr rfl⟩
    exact !!⟨hX,fo (q _ (.inl (.inr (.inr ⟨o,c,v,hc,hv,.inr ⟨UB,X3.elim .inl fun h=>.inr (.inl h)⟩,rfl⟩))))⟩
theorem CW:∀{l:List Str}{p:Str},PyProof.Rows.risingS p l=true→(p::l).Pairwise fun a b=>a.cps.toList≤b.cps.toList
 |[],p,_=>List.pairwise_singleton _ _
 |x::r,p,h=>by
  have h:(!PySem.Spec.ltCps x.cps.toList p.cps.toList && PyProof.Rows.risingS x r)=true:=h
  rw[zJ,PyProof.Rows.ltCps_eq,Bool.not_eq_true',decide_eq_false_iff_not] at h
  have ih:=CW h.2
  have Zo:p.cps.toList≤x.cps.toList:=List.not_lt.mp h.1
  refine List.pairwise_cons.mpr ⟨fun y hy=>?_,ih⟩
  rcases zi.mp hy with e|hy
  ·rw[e];exact Zo
  ·exact List.le_trans Zo ((List.pairwise_cons.mp ih).1 y hy)
theorem ud(h:PyProof.Rows.sortedS l=true):l.Pairwise fun a b=>a.cps.toList≤b.cps.toList:=by
 cases l with
 |nil=>exact List.Pairwise.nil
 |cons x r=>exact CW h
theorem Kx{a b:Str}(h:a.cps.toList=b.cps.toList):a=b:=by
 obtain⟨⟨x⟩⟩:=a
 obtain⟨⟨y⟩⟩:=b
 cases h;rfl
theorem EM{l m:List Str}(hl:l.Pairwise fun a b=>a.cps.toList≤b.cps.toList)(hm:m.Pairwise fun a b=>a.cps.toList≤b.cps.toList)(nl:l.Nodup)(nm:m.Nodup)(h:∀z,z∈l↔z∈m):l=m :=
 List.Perm.eq_of_pairwise (fun a b _ _ h1 h2=>Kx (List.le_antisymm h1 h2)) hl hm ((List.perm_ext_iff_of_nodup nl nm).mpr h)
def TI(l:List Std)(n:Nat):Prop:=∀s∈l,s.b≤n∧∀m,s.e=some m→m<n
def Ky(s:Std):D:=match s.e with
 |none=>.tup s.ws
 |some _=>.aw
def cur(l:List Std):D:=match l.getLast? with
 |none=>.aw
 |some s=>Ky s
theorem jz(r:List Std)(s:Std):cur (r++[s])=Ky s:=by unfold cur;rw[List.getLast?_concat]
theorem OO(h:TI l n):wt l n=cur l:=by
 by_cases e:l=[]
 ·subst e;rfl
 ·obtain⟨r,s,rfl⟩:=jN e
  rw[jz]
  unfold wt
  rw[List.reverse_append]
  obtain⟨h1,h2⟩:=h s (zy _ (zG.mpr rfl))
  show G_ (s::r.reverse) (n:Int)=_
  unfold G_ Ky
  rw[if_pos (show (s.b:Int)≤(n:Int) by lia)]
  cases q:s.e with
  |none=>rfl
  |some m =>
   have:=h2 m q
   exact if_neg (show ¬ (n:Int)≤(m:Int) by lia)
theorem TI.up(h:TI l n):TI l (n+1):=fun s hs=>⟨Nat.le_succ_of_le (h s hs).1,fun m e=>Nat.lt_succ_of_lt ((h s hs).2 m e)⟩
theorem TI.close(h:TI l n):TI (ib n l) (n+1):=by
 by_cases e:l=[]
 ·subst e;exact fun s hs=>(nomatch hs)
 ·obtain⟨r,s,rfl⟩:=jN e
  rw[ee]
  intro x hx
  rcases zL.mp hx with hx|hx
  ·exact h.up x (ya _ hx)
  ·rw[zG.mp hx]
   exact⟨Nat.le_succ_of_le (h s (zy _ (zG.mpr rfl))).1,fun m e=>by cases e;exact yE _⟩
theorem TI.Zp(h:TI l (n+1)):TI (l++[Std.mk (n+1) none ws]) (n+1):=fun s hs=>by
 rcases zL.mp hs with hs|hs
 ·exact h s hs
 ·rw[zG.mp hs];exact⟨zm _,fun m e=>(by cases e)⟩
theorem EN:cur (ib n l)=.aw:=by
 by_cases e:l=[]
 ·subst e;rfl
 ·obtain⟨r,s,rfl⟩:=jN e
  rw[ee,jz];rfl
def v_(kn:Kn)(z:Str):D:=match fH kn z with
 |none=>.aw
 |some ws=>.tup ws
structure RI(rs:pP)(n:Nat)(kn:Kn):Prop where
 ti:∀z,TI ((lu rs z).getD []) n
 eq:∀z,cur ((lu rs z).getD [])=v_ kn z
 ks:∀r∈rs,r.1∈KS
theorem Kz(h:r∈Bb rs z s):r.1=z∨∃r'∈rs,r'.1=r.1:=by
 unfold Bb at h
 split at h
 ·obtain⟨r0,v7,e⟩:=zg.mp h
  refine .inr ⟨r0,v7,?_⟩
  subst e
  split <;> rfl
 ·rcases zL.mp h with h|h
  ·exact .inr ⟨r,h,rfl⟩
  ·rw[zG.mp h];exact .inl rfl
theorem HF(h:∀r∈rs,r.1∈KS)(hz:z∈KS):∀r∈Bb rs z s,r.1∈KS:=fun r hr=>by
 rcases Kz hr with e|⟨r',lL,e⟩
 ·rw[e];exact hz
 ·rw[← e];exact h r' lL
theorem CY:v_ (mD kn z ws) k=if k=z then .tup ws else v_ kn k:=by
 unfold v_;rw[Kh]
 by_cases h:k=z
 ·rw[if_pos h,if_pos h]
 ·rw[if_neg h,if_neg h]
theorem CZ:v_ (sQ kn z) k=if k=z then .aw else v_ kn k:=by
 unfold v_;rw[Ki]
 by_cases h:k=z
 ·rw[if_pos h,if_pos h]
 ·rw[if_neg h,if_neg h]
theorem RI.nil:RI [] 0 []:=⟨fun z s hs=>(nomatch hs),fun z=>rfl,fun r hr=>(nomatch hr)⟩
theorem RI.put(h:RI rs n kn)(hz:z∈KS):RI (sP rs z (n+1) ws) (n+1) (mD kn z ws):=by
 refine⟨fun k=>?_,fun k=>?_,HF h.ks hz⟩
 ·unfold sP;rw[ju]
  by_cases e:k=z
  ·rw[if_pos e];exact (h.ti z).up.Zp
  ·rw[if_neg e];exact (h.ti k).up
 ·unfold sP;rw[ju,CY]
  by_cases e:k=z
  ·rw[if_pos e,if_pos e];exact jz _ _
  ·rw[if_neg e,if_neg e];exact h.eq k
theorem RI.del(h:RI rs n kn)(hz:z∈KS):RI (nY rs z n) (n+1) (sQ kn z):=by
 refine⟨fun k=>?_,fun k=>?_,HF h.ks hz⟩
 ·unfold nY;rw[ju]
  by_cases e:k=z
  ·rw[if_pos e];exact (h.ti z).close
  ·rw[if_neg e];exact (h.ti k).up
 ·unfold nY;rw[ju,CZ]
  by_cases e:k=z
  ·rw[if_pos e,if_pos e];exact EN
  ·rw[if_neg e,if_neg e];exact h.eq k
theorem RI.change(h:RI rs n kn)(hz:z∈KS):RI (sP (nY rs z n) z (n+1) ws) (n+1) (mD kn z ws):=by
 have h1:=h.del hz
 refine⟨fun k=>?_,fun k=>?_,HF h1.ks hz⟩
 ·unfold sP;rw[ju]
  by_cases e:k=z
  ·rw[if_pos e];exact (h1.ti z).Zp
  ·rw[if_neg e];exact h1.ti k
 ·unfold sP;rw[ju,CY]
  by_cases e:k=z
  ·rw[if_pos e,if_pos e];exact jz _ _
  ·rw[if_neg e,if_neg e,h1.eq k,CZ,if_neg e]
theorem RI.wt{rs:pP}{n:Nat}{kn:Kn}(h:RI rs n kn)(z:Str):wt ((lu rs z).getD []) n=v_ kn z:=by rw[OO (h.ti z),h.eq]
theorem RI.v8(h:RI rs n kn)(hz:z∈KS):v8 rs (.str z) n=v_ kn z:=by rw[pQ (gq z hz).1,h.wt]
theorem ue(kn:Kn)(z:Str):ai (v_ kn z)=!(fH kn z).isSome:=by unfold v_;cases fH kn z <;> rfl
theorem Mb(h:bZ C S a F cs dl rs):(rs.map (·.1)).Nodup:=by
 obtain⟨ld,lr,ra,h,_,rfl⟩:=h
 unfold gJ
 rw[zw]
 exact h.kn
theorem RI.len(h:RI rs n kn)(hs:bZ C S a F cs dl rs):rs.length≤40:=by
 have:=sub_len (Mb hs) (m:=KS) fun x hx=>by
  obtain⟨r,hr,rfl⟩:=zg.mp hx
  exact h.ks r hr
 rw[zb] at this
 exact this
def OP(kn:Kn)(ss:List Str):List D:=ss.map fun z=>.tup [.str z,v_ kn z]
theorem SR(h:lu rs k=some s):k∈rs.map (·.1):=by
 induction rs with
 |nil=>cases h
 |cons r rs ih =>
  rw[eS] at h
  rw[zB]
  by_cases e:r.1=k
  ·exact zi.mpr (.inl e.symm)
  ·rw[if_neg e] at h;exact zh _ (ih h)
def n_(k:Nat)(l:List Std):List Std:=match l.getLast? with
 |none=>l
 |some s=>match s.e with
  |none=>ib k l
  |some _=>l
theorem oN(h:s.e=none):n_ k (r++[s])=r++[Std.mk s.b (some k) s.ws]:=by
 unfold n_;rw[List.getLast?_concat];dsimp only;rw[h];exact ee _ _ _
theorem xM(h:s.e=some n):n_ k (r++[s])=r++[s]:=by
 unfold n_;rw[List.getLast?_concat];dsimp only;rw[h]
theorem KA{s:Std}{r:List Std}{m:Nat}(h:m<s.b):G_ (s::r) m=G_ r m:=by
 show (if (s.b:Int)≤(m:Int) then _ else G_ r m)=_
 rw[if_neg (by lia)]
theorem EO(hm:m≤n):wt (n_ n l) m=wt l m:=by
 by_cases e:l=[]
 ·subst e;rfl
 ·obtain⟨r,s,rfl⟩:=jN e
  cases q:s.e with
  |some k=>rw[xM q]
  |none =>
   rw[oN q]
   unfold wt
   rw[List.reverse_append,List.reverse_append]
   show (if (s.b:Int)≤(m:Int) then (if (m:Int)≤(n:Int) then D.tup s.ws else .aw) else G_ r.reverse m)=(if (s.b:Int)≤(m:Int) then (match s.e with|none=>.tup s.ws|some n=>if (m:Int)≤(n:Int) then .tup s.ws else .aw) else G_ r.reverse m)
   rw[q,if_pos (show (m:Int)≤(n:Int) by lia)]
theorem Bs(h:cur l≠.aw):n_ n l=ib n l:=by
 by_cases e:l=[]
 ·subst e;rfl
 ·obtain⟨r,s,rfl⟩:=jN e
  rw[jz] at h
  cases q:s.e with
  |none=>rw[oN q,ee]
  |some m=>unfold Ky at h;rw[q] at h;exact absurd rfl h
def oO(kn:Kn)(ss:List Str):List Row:=ss.map fun z=>(z,(fH kn z).getD [])
structure Snap(rs:pP)(cs:List (Str×Str))(m:Nat)(rows:List Row):Prop where
 ex:∃kn ss,rows=oO kn ss∧KI cs kn∧ss.Perm (kn.map (·.1))∧PyProof.Rows.sortedS ss=true∧∀z,wt ((lu rs z).getD []) m=v_ kn z
theorem ER(p:ss.Perm (kn.map (·.1))):(oO kn ss).map aq=OP kn ss:=by
 unfold oO OP
 rw[zw]
 refine zV fun z hz=>?_
 obtain⟨ws,lM⟩:=lj (p.mem_iff.mp hz)
 show D.tup [.str z,.tup ((fH kn z).getD [])]=.tup [.str z,v_ kn z]
 unfold v_
 rw[lM];rfl
theorem HG(hI:KI cs kn)(p:ss.Perm (kn.map (·.1))):Rg cs (oO kn ss):=by
 refine⟨fun r hr=>?_,?_⟩
 ·obtain⟨z,hz,rfl⟩:=zg.mp hr
  obtain⟨ws,lM⟩:=lj (p.mem_iff.mp hz)
  show Wg cs ((fH kn z).getD [])
  rw[lM]
  exact (hI.ok _ (ig lM)).2
 ·unfold oO
  rw[zw]
  show (ss.map id).Nodup
  rw[List.map_id]
  exact p.nodup_iff.mpr hI.nd
theorem ES(hI:KI cs kn)(p:ss.Perm (kn.map (·.1))):(oO kn ss).length≤40:=by
 unfold oO
 rw[zb,p.length_eq,zb]
 exact hI.len
theorem Snap.rg(h:Snap rs cs m rows):Rg cs rows∧rows.length≤40:=by
 obtain⟨kn,ss,rfl,hI,p,_⟩:=h.ex
 exact⟨HG hI p,ES hI p⟩
theorem Snap.key(h:Snap rs cs m rows):∀r∈rows,r.1∈KS:=by
 obtain⟨kn,ss,rfl,hI,p,_⟩:=h.ex
 intro r hr
 obtain⟨z,hz,rfl⟩:=zg.mp hr
 obtain⟨ws,lM⟩:=lj (p.mem_iff.mp hz)
 exact (hI.ok _ (ig lM)).1
theorem uf{C a:Addr}{S:av}{F:List Addr}{cs:List (Str×Str)}{dl:List D}{rs:pP}{m:Nat}{rows:List Row}(h:Snap rs cs m rows)(hs:bZ C S a F cs dl rs){ss:List Str}
  (p1:ss.Perm (rs.map (·.1))) (o1:PyProof.Rows.sortedS ss=true):lh rs m ss=rows.map aq:=by
 obtain⟨kn,s2,rfl,hI,p2,o2,hw⟩:=h.ex
 rw[ER p2]
 have e:ss.filter (fun z=>!ai (wt ((lu rs z).getD []) m))=s2:=by
  refine EM ((ud o1).filter _) (ud o2) ?_ (p2.nodup_iff.mpr hI.nd) fun z=>?_
  ·exact List.filter_sublist.nodup (p1.nodup_iff.mpr (Mb hs))
  ·rw[yf,hw,ue,Bool.not_not,p1.mem_iff,p2.mem_iff]
   constructor
   ·rintro⟨_,hz⟩
    obtain⟨ws,lM⟩:=Option.isSome_iff_exists.mp hz
    exact zg.mpr ⟨_,ig lM,rfl⟩
   ·intro hz
    obtain⟨ws,lM⟩:=lj hz
    refine⟨?_,by rw[lM];rfl⟩
    have e:=hw z
    unfold v_ at e
    rw[lM] at e
    cases q:lu rs z with
    |none=>rw[q] at e;cases e
    |some s=>exact SR q
 unfold lh OP
 rw[e]
 refine zV fun z _=>?_
 unfold vn
 rw[hw]
def HI(rs:pP)(cs:List (Str×Str))(n:Nat)(hs:List (List Row)):Prop:=hs.length=n+1∧∀m rows,hs[m]?=some rows→Snap rs cs m rows
theorem HI.step{rs cz:pP}{cs:List (Str×Str)}{n:Nat}{hs:List (List Row)}(h:HI rs cs n hs)(old:∀z m,m≤n→wt ((lu cz z).getD []) m=wt ((lu rs z).getD []) m){kn:Kn}(hI:KI cs kn)(hR:RI cz (n+1) kn){ss:List Str}(p:ss.Perm (kn.map (·.1)))(o:PyProof.Rows.sortedS ss=true):HI cz cs (n+1) (hs++[oO kn ss]):=by
 refine⟨by rw[zE,h.1];rfl,fun m rows e=>?_⟩
 by_cases hm:m<hs.length
 ·rw[List.getElem?_append_left hm] at e
  obtain⟨kn0,s0,e0,h1,h2,h3,h4⟩:=(h.2 m rows e).ex
  have:=h.1
  exact⟨kn0,s0,e0,h1,h2,h3,fun z=>(old z m (by lia)).trans (h4 z)⟩
 ·rw[List.getElem?_append_right (by lia)] at e
  have LJ:m - hs.length=0:=by
   cases q:m - hs.length with
   |zero=>rfl
   |succ k=>rw[q] at e;simp at e
  rw[LJ] at e
  cases e
  have:=h.1
  have hmn:m=n+1:=by lia
  subst hmn
  exact⟨kn,ss,rfl,hI,p,o,fun z=>hR.wt z⟩
theorem OQ{l:List Std}{n m:Nat}{ws:List D}(hm:m≤n):wt (l++[Std.mk (n+1) none ws]) m=wt l m:=by
 unfold wt
 rw[List.reverse_append]
 exact KA (show m<n+1 by lia)
theorem C3(k:Str)(m:Nat)(hm:m≤n):wt ((lu (sP rs z (n+1) ws) k).getD []) m=wt ((lu rs k).getD []) m:=by
 unfold sP;rw[ju]
 by_cases e:k=z
 ·rw[if_pos e,e];exact OQ hm
 ·rw[if_neg e]
theorem C4(h:RI rs n kn)(hz:(fH kn z).isSome=true)(k:Str)(m:Nat)(hm:m≤n):wt ((lu (nY rs z n) k).getD []) m=wt ((lu rs k).getD []) m:=by
 unfold nY;rw[ju]
 by_cases e:k=z
 ·rw[if_pos e,e]
  have hc:cur ((lu rs z).getD [])≠.aw:=by
   rw[h.eq]
   unfold v_
   cases q:fH kn z with
   |none=>rw[q] at hz;cases hz
   |some ws=>exact fun e=>by cases e
  show wt (ib n ((lu rs z).getD [])) m=_
  rw[← Bs hc,EO hm]
 ·rw[if_neg e]
theorem xN(hz:z∈KS):Gt S (.str z):=CV (by have:=(gq z hz).2.1;lia)
section
variable{t:fG}{S:av}{a:Addr}{F:List Addr}{cs:List (Str×Str)}{dl:List D}{rs:pP}{kn:Kn}{d:D}{R:KD}{Z:KX}
theorem HH(hz:z∈KS)(h:Wg cs ws):nU cs (.str z) (.tup ws)=true:=by
 unfold nU
 rw[h.ON,show ofStr jY (.str z)=true from (gq z hz).1];rfl
theorem Bt(hR:RI rs dl.length kn)(hz:z∈KS):ai (v8 rs (.str z) dl.length)=!(fH kn z).isSome:=by rw[hR.v8 hz,ue]
theorem SS(h:fH kn z=none):(!(fH kn z).isSome)=true:=by rw[h];rfl
theorem HJ(h:(fH kn z).isSome=true):(!(fH kn z).isSome)=false:=by rw[h];rfl
theorem tf{b:Bool}(h1:b=true)(h2:b=false){p:Prop} : p:=by rw[h1] at h2;cases h2
theorem bZ.out(hS:bZ C S a F cs dl rs)(hb:S b=none):b∉F:=fun m=>by
 obtain⟨ld,lr,ra,h,rfl,_⟩:=hS
 unfold fp at m
 simp only [zi,zg] at m
 rcases m with e|e|e|⟨r,hr,e⟩
 ·have:=h.ins;rw[← e,hb] at this;cases this
 ·have:=h.xq;rw[← e,hb] at this;cases this
 ·have:=h.run;rw[← e,hb] at this;cases this
 ·have:=h.cell r hr;rw[e,hb] at this;cases this
theorem bZ.off(hS:bZ C S a F cs dl rs)(hp:p∉F):bZ C (S.set p c) a F cs dl rs:=by
 obtain⟨ld,lr,ra,hh,rfl,e2⟩:=hS
 unfold fp at hp
 simp only [zi,not_or] at hp
 obtain⟨n1,n2,n3,n4⟩:=hp
 exact⟨ld,lr,ra,⟨(ag (Ne.symm n1)).trans hh.ins,(ag (Ne.symm n2)).trans hh.xq,(ag (Ne.symm n3)).trans hh.run,fun r hr=>(ag fun e=>n4 (by rw[← e];exact zg.mpr ⟨r,hr,rfl⟩)).trans (hh.cell r hr),hh.kn,hh.an,hh.sz⟩,rfl,e2⟩
theorem GD.up(hd:GD KT cs kn d):GD KS cs kn d:=by
 rcases hd with ⟨z,ws,hz,h⟩|h
 ·exact .inl ⟨z,ws,xw hz,h⟩
 ·exact .inr h
theorem GD.as(hd:GD KS cs kn d)(hI:KI cs kn):∃jw,OF kn d jw∧KI cs jw:=by
 rcases hd with ⟨z,ws,hz,hw,hn,rfl⟩|⟨z,ws,hz,hw,hn,rfl⟩|⟨z,hz,hn,rfl⟩
 ·exact⟨_,.inl ⟨_,z,ws,.inl rfl,rfl,rfl⟩,hI.put hz hw⟩
 ·exact⟨_,.inl ⟨_,z,ws,.inr rfl,rfl,rfl⟩,hI.put hz hw⟩
 ·exact⟨_,.inr ⟨z,hn,rfl,rfl⟩,hI.del z⟩
structure X4(t:fG)(ds:List D)(S:av)(R:KD)(Z:KX):Prop where
 of:Bj t ds S R Z
theorem ET(hS:bZ t.ao S a F cs dl rs)(hg:Gd cs)(hI:KI cs kn)(hR:RI rs dl.length kn)(hl:dl.length≤100)(hd:GD KS cs kn d){jw:Kn}(SU:OF kn d jw)
  (q:∀S' F' cz,bZ t.ao S' a F' cs (dl++[d]) cz→Bd F F' S S'→RI cz (dl.length+1) jw→(∀z m,m≤dl.length→wt ((lu cz z).getD []) m=wt ((lu rs z).getD []) m)→R .aw S'):X4 t [.ref a,d] S R Z:=by
 have X0:=hR.len hS
 have UG:=hg.1
 obtain⟨ld,lr,ra,h,_,_⟩:=id hS
 refine⟨a,_,h.ins,rfl,?_⟩
 rcases hd with ⟨z,ws,hz,hw,hn,rfl⟩|⟨z,ws,hz,hw,hn,rfl⟩|⟨z,hz,hn,rfl⟩
 ·have ro:=HH hz hw
  have st:=(Bt hR hz).trans (SS hn)
  refine .inl ⟨_,_,rfl,a,F,cs,_,rs,_,_,rfl,hS,UG,xN hz,hw.Zk UG,by lia,by lia,fun e=>tf ro e,fun _ e=>tf st e,fun z' LZ e1 e2 _ _ S' F' ow hK=>?_⟩
  cases e1;cases e2
  have SV:jw=mD kn z ws:=by rcases SU with ⟨n,y,vs,_,e1,e2⟩|⟨y,_,e1,_⟩ <;> cases e1;exact e2
  subst SV
  exact q S' F' _ ow hK (hR.put hz) C3
 ·have ro:=HH hz hw
  have st:=(Bt hR hz).trans (HJ hn)
  refine .inr (.inl ⟨_,_,rfl,a,F,cs,_,rs,_,_,rfl,hS,UG,xN hz,hw.Zk UG,by lia,by lia,fun e=>tf ro e,fun _ e=>tf e st,fun z' LZ e1 e2 _ _ S' F' ow hK=>?_⟩)
  cases e1;cases e2
  have SV:jw=mD kn z ws:=by rcases SU with ⟨n,y,vs,_,e1,e2⟩|⟨y,_,e1,_⟩ <;> cases e1;exact e2
  subst SV
  exact q S' F' _ ow hK (hR.change hz) fun k m hm=>(C3 k m hm).trans (C4 hR hn k m hm)
 ·have st:=(Bt hR hz).trans (HJ hn)
  refine .inr (.inr !⟨a,F,cs,_,rs,_,rfl,hS,xN hz,by lia,fun e=>tf (gq z hz).1 e,fun _ e=>tf e st,fun z' e1 _ _ S' ow hK=>?_⟩)
  cases e1
  have SV:jw=sQ kn z:=by rcases SU with ⟨n,y,vs,_,e1,e2⟩|⟨y,_,e1,e2⟩ <;> cases e1;exact e2
  subst SV
  exact q S' F _ ow hK (hR.del hz) (C4 hR hn)
theorem Snap.vw(h:Snap rs cs m rows)(hS:bZ t.ao S a F cs dl rs)(hR:RI rs dl.length kn)(hm:nX dl.length md=some (m:Int))(Uj:Gt S md):Vw t.ao S a cs md rows:=by
 have:=h.rg
 refine⟨⟨F,dl,rs,hS,by have:=hR.len hS;lia,(fun e=>by rw[hm] at e;cases e),fun i ss hi hp hs=>?_⟩,Uj,by lia,this.1⟩
 rw[hm] at hi
 cases hi
 exact uf h hS hp hs
end
def kj(j:Nat):Str:=XH.getD j ""
theorem OR:∀j<30,("k" : Str)++Str.ofString (toString ((0:Int)+((j:Nat):Int)))=kj j∧("k" : Str).length+(Str.ofString (toString ((0:Int)+((j:Nat):Int)))).length≤1000:=by trivial
theorem SW:∀j<30,kj j∈XH∧kj j∉KT:=by trivial
theorem OS:∀j<30,∀i<30,kj j=kj i→j=i:=by trivial
theorem c_:∀{l:List α}{m:List β},Paired rel l m→∀{i:Nat}{b:β},m[i]?=some b→∃a,l[i]?=some a∧rel a b
 |_,_,.nil,_,_,h=>by simp at h
 |_,_,.cons r t,0,b,h=>by
  rw[List.getElem?_cons_zero] at h ⊢
  cases h
  exact !⟨r⟩
 |_,_,.cons r t,i+1,b,h=>by
  rw[List.getElem?_cons_succ] at h ⊢
  exact c_ t h
def X5(cs:List (Str×Str))(j:Nat)(d:D):Prop:=j<30∧∃ws,Wg cs ws∧d=.tup [.str "put",.str (kj j),.tup ws]
inductive xO (ds:List D) (S:av) (R:KD) (Z:KX):Prop where
 |mk (l cs) (h0:ds=[.ref l,.tup (cs.map az),.int 13,.int 30]) (h1:Gd cs) (h2:S l=some .well) (h3:∀(out:List D) (p:Addr),out.length≤30→(∀j d,out[j]?=some d→X5 cs j d)→S p=none→R (.ref p) (S.set p (.lst out))):xO ds S R Z
theorem KC(T:Txt w K mg t):Ok P w base T.AY 4 xO:=by
 refine T.AY.F.bU tY ?_
 rintro _ _ _ _ _ _ _ S R Z hr ⟨l,cs,e,hg,hw,q⟩
 subst e
 refine⟨_,(sc (cn (i:=4) tY.nd (bo bc hr.u (dv 2) (aI T.aR (bI T) hr (ac (dv 0) (ac (bo bc hr.u (bo lV hr.u (dv 3) (dv 2)) di) an))))) (s1 (sr (sA (N:=["_law_j","_law_well_here","_law_columns_here"]) (src:=[none,some 0,some 1]) (kM (ae GW) ["_law_well_here","_law_columns_here","_law_least","_law_most","_law_many_here"] rfl rfl (by trivial)) (Pp T.jJ (ac (dv 4) an)) (qz (show (["_law_j","_law_well_here","_law_columns_here"]:List Str).Nodup by trivial)) (ba rfl) bb (fun _ _ _ _ _=>rQ) (fun _ _ _ _ _=>(bD (ac ds (ac (bo bc hr.u ds (ct RS T.mh gT (ac (dv 0) an))) (ac (aI T.gE (jP T) hr (ac (dv 1) (ac (dv 2) an))) an))))))))),?_⟩
 refine !!!!⟨l,_,rfl,(by decide),(by decide),hw,fun n h0 h1=>?_⟩
 have h1:n<18:=h1
 obtain⟨N,hN⟩:∃N:Nat,(13:Int)+n=(N:Int):=⟨(13+n).toNat,by lia⟩
 refine !⟨13+n,rfl,by lia,by lia,?_⟩
 refine fm (fun d v=>∃j:Nat,d=.int ((j:Nat):Int)∧X5 cs j v) trivial (by rw[dh];lia) (fun d hd Q hQ=>?_) fun out ho p hp=>?_
 ·obtain⟨i,ei⟩:=List.getElem?_of_mem hd
  obtain⟨hi,rfl⟩:=i5 ei
  have hi:i<30:=by lia
  obtain⟨k1,k2⟩:=OR i hi
  refine !!⟨(by have:=Nat.log2_le_self ((0:Int)+(i:Nat)).natAbs;lia),sm k2,_,rfl,_,rfl,l,cs,rfl,hg,hw,fun ws lM=>⟨hX,hQ _ ⟨i,?_,hi,ws,lM,?_⟩⟩⟩
  ·rw[Int.zero_add]
  ·rw[k1]
 ·refine fo (q out p ?_ (fun j d hd=>?_) hp)
  ·have:=yC ho
   rw[dh] at this
   lia
  ·obtain⟨x,hx,j',e,hm⟩:=c_ ho hd
   obtain⟨_,e2⟩:=i5 hx
   rw[e2] at e
   have e:(0:Int)+(j:Nat)=((j':Nat):Int):=D.int.inj e
   have:j=j':=by lia
   rw[this];exact hm
def UH(S:av)(F:List Addr)(S':av):Prop:=∀b c,S b=some c→b∉F∧S' b=some c
theorem UH.sub(h:UH S F S'):Sub S S':=fun b c e=>(h b c e).2
theorem KI.nil(cs:List (Str×Str)):KI cs []:=⟨List.nodup_nil,fun _ h=>(nomatch h)⟩
theorem jA(ns:List Int)(lo hi:Option Int):cR (ns.map D.int) lo hi=(cR ns lo hi).map D.int:=by
 unfold cR
 rw[zb,List.map_take,List.map_drop]
theorem C5(ns:List Int)(lo hi:Option Int):(cR ns lo hi).length≤ns.length:=by
 unfold cR
 rw[yq,List.length_drop];lia
structure St(t:fG)(S0:av)(a:Addr)(fs:List (Addr×Ce))(F:List Addr)(cs:List (Str×Str))(dl:List D)(rs:pP)(S:av):Prop where
 sh:bZ t.ao S a F cs dl rs
 fa:∀x∈fs,S x.1=some x.2∧x.1∉F∧S0 x.1=none
 nd:(fs.map Prod.fst).Nodup
 Iq:UH S0 F S
section
variable{t:fG}{S0:av}{a:Addr}{fs:List (Addr×Ce)}{F:List Addr}{cs:List (Str×Str)}{dl:List D}{rs:pP}{S:av}
theorem St.at(h:St t S0 a fs F cs dl rs S)(i:Nat)(e:fs[i]?=some (b,c)):S b=some c:=(h.fa _ (zC e)).1
theorem St.sub(h:St t S0 a fs F cs dl rs S)(b:Sub S S'):St t S0 a fs F cs dl rs S' :=
 ⟨h.sh.sub b,fun x hx=>⟨b _ _ (h.fa x hx).1,(h.fa x hx).2⟩,h.nd,fun x c hx=>⟨(h.Iq x c hx).1,b _ _ (h.Iq x c hx).2⟩⟩
theorem St.zero(h:St t S0 a fs F cs dl rs S)(hb:S b=none):S0 b=none:=by
 cases e:S0 b with
 |none=>rfl
 |some c=>have:=h.Iq.sub _ _ e;rw[hb] at this;cases this
theorem St.new(h:St t S0 a fs F cs dl rs S)(hp:S p=none)(c:Ce):St t S0 a (fs++[(p,c)]) F cs dl rs (S.set p c):=by
 have h1:=h.sub (.new (c:=c) hp)
 refine⟨h1.sh,fun x hx=>?_,?_,h1.Iq⟩
 ·rcases zL.mp hx with hx|hx
  ·exact h1.fa x hx
  ·rw[zG.mp hx]
   exact⟨aa,h.sh.out hp,h.zero hp⟩
 ·rw[zH,List.nodup_append]
  refine⟨h.nd,by simp,fun x hx y hy e=>?_⟩
  obtain⟨z,hz,rfl⟩:=zg.mp hx
  have hy:y=p:=by simpa using hy
  have:=(h.fa z hz).1
  rw[e,hy,hp] at this;cases this
theorem St.put(h:St t S0 a fs F cs dl rs S)(i:Nat)(e:fs[i]?=some (b,c))(c':Ce):St t S0 a (fs.set i (b,c')) F cs dl rs (S.set b c'):=by
 have hb:=h.fa _ (zC e)
 have hi:=(ze.mp e).1
 have em:(fs.set i (b,c')).map Prod.fst=fs.map Prod.fst:=by
  refine List.ext_getElem? fun j=>?_
  rw[zp,zp]
  by_cases q:j=i
  ·subst q
   rw[List.getElem?_set_self hi,e];rfl
  ·rw[List.getElem?_set_ne (Ne.symm q)]
 refine⟨h.sh.off hb.2.1,fun x hx=>?_,by rw[em];exact h.nd,fun x c hx=>⟨(h.Iq x c hx).1,(ag (gW hx hb.2.2)).trans (h.Iq x c hx).2⟩⟩
 obtain⟨j,hj⟩:=List.getElem?_of_mem hx
 by_cases q:j=i
 ·subst q
  rw[List.getElem?_set_self hi] at hj
  cases hj
  exact⟨aa,hb.2⟩
 ·rw[List.getElem?_set_ne (Ne.symm q)] at hj
  have JC:=h.fa x (zC hj)
  refine⟨(ag fun e2=>q ?_).trans JC.1,JC.2⟩
  have a1:(fs.map Prod.fst)[j]?=some x.1:=by rw[zp,hj];rfl
  have a2:(fs.map Prod.fst)[i]?=some b:=by rw[zp,e];rfl
  obtain⟨b1,c1⟩:=ze.mp a1
  obtain⟨b2,c2⟩:=ze.mp a2
  exact (List.getElem_inj h.nd (h₀:=b1) (h₁:=b2)).mp (by rw[c1,c2];exact e2)
theorem St.less(h:St t S0 a fs F cs dl rs S)(n:(EY.map Prod.fst).Nodup)(p:∀x∈EY,x∈fs):St t S0 a EY F cs dl rs S :=
 ⟨h.sh,fun x hx=>h.fa x (p x hx),n,h.Iq⟩
theorem St.X6(h:St t S0 a fs F cs dl rs S)(hS:bZ t.ao S' a F' cs dl' cz)(hK:Bd F F' S S'):St t S0 a fs F' cs dl' cz S' :=
 ⟨hS,fun x hx=>by obtain⟨h1,h2,h3⟩:=h.fa x hx;exact by obtain⟨k1,k2⟩:=hK _ _ h2 h1;exact⟨k2,k1,h3⟩,h.nd,fun x c hx=>by obtain⟨h1,h2⟩:=h.Iq x c hx;exact hK _ _ h1 h2⟩
end
theorem HK(hk:r.1∈KS)(hw:Wg cs r.2):Ly S 60 (aq r):=by
 refine (Ly.tup (n:=1) fun x hx=>?_).le (by decide)
 simp only [zi,zK,or_false] at hx
 rcases hx with rfl|rfl
 ·exact (Ly.str (gq _ hk).2.2).le (by decide)
 ·exact hw.ly
def Kr(r:Nat)(kn:Kn):Prop:=∀x∈kn.map (·.1),x∈KT∨∃j,r≤j∧j<30∧x=kj j
theorem ug(h:x∈(mD kn z ws).map (·.1)):x=z∨x∈kn.map (·.1):=by
 unfold mD at h
 split at h
 ·rw[zw] at h
  obtain⟨r,hr,e⟩:=zg.mp h
  refine .inr (zg.mpr ⟨r,hr,?_⟩)
  rw[← e]
  dsimp only [Function.comp]
  split <;> rfl
 ·rw[zH] at h
  rcases zL.mp h with h|h
  ·exact .inr h
  ·exact .inl (by simpa using h)
theorem Kr.Bf(h:Kr r kn)(hd:GD KT cs kn d)(hk:OF kn d jw):Kr r jw:=by
 rcases hk with ⟨n,z,ws,hn,rfl,rfl⟩|⟨z,hz,rfl,rfl⟩
 ·intro x hx
  rcases ug hx with rfl|hx
  ·rcases hd with ⟨z',LZ,hz,_,_,e⟩|⟨z',LZ,hz,_,hs,e⟩|⟨z',_,_,e⟩
   ·injection e with e;injection e with _ e;injection e with e _;injection e with e
    rw[e];exact .inl hz
   ·injection e with e;injection e with _ e;injection e with e _;injection e with e
    obtain⟨w,hw⟩:=Option.isSome_iff_exists.mp hs
    rw[e]
    exact h _ (zg.mpr ⟨_,ig hw,rfl⟩)
   ·injection e with e;injection e with _ e;injection e with _ e;cases e
  ·exact h x hx
 ·intro x hx
  unfold sQ at hx
  obtain⟨r,hr,e⟩:=zg.mp hx
  exact h x (zg.mpr ⟨r,(yf.mp hr).1,e⟩)
theorem Vw.sub(h:Vw C S a cs m rows)(b:Sub S S'):Vw C S' a cs m rows:=by
 obtain⟨F,dl,rs,h1,h2⟩:=h.sh
 exact⟨⟨F,dl,rs,h1.sub b,h2⟩,h.mo.sub b,h.len,h.rg⟩
theorem Mc(q:R (.bl (if neg then !decide (i=j) else decide (i=j))) S):E7 neg (.str i) (.str j) S R:=q
def cV(w e:Str)(x y:D):Int:=if kC x y=true then 0 else if cH ("",w,e) x y=true then -1 else 1
def Cm(x y:D):Prop:=∃k,Vg k x∧Vg k y
theorem mO{w e:Str}(h:Cm x y):cV w e x y=0↔x=y:=by
 obtain⟨k,hx,hy⟩:=h
 unfold cV
 by_cases q:kC x y=true
 ·rw[if_pos q];simpa using (b_ hx.2 hy.2).mp q
 ·rw[if_neg q]
  have q':¬ x=y:=fun z=>q ((b_ hx.2 hy.2).mpr z)
  constructor
  ·intro z;split at z <;> cases z
  ·exact fun z=>absurd z q'
theorem uh{w e:Str}(h:Cm x y):cV w e x y<0↔x≠y∧cH ("",w,e) x y=true:=by
 obtain⟨k,hx,hy⟩:=h
 unfold cV
 by_cases q:kC x y=true
 ·rw[if_pos q]
  have:=(b_ hx.2 hy.2).mp q
  simp [this]
 ·rw[if_neg q]
  have q':¬ x=y:=fun z=>q ((b_ hx.2 hy.2).mpr z)
  by_cases l:cH ("",w,e) x y=true
  ·rw[if_pos l];simp [q',l]
  ·rw[if_neg l];simp [l]
theorem KG{w e:Str}(h:Cm x y):cV w e y x<0↔0<cV w e x y:=by
 have h':Cm y x:=by obtain⟨k,a,b⟩:=h;exact⟨k,b,a⟩
 rw[uh h']
 obtain⟨k,hx,hy⟩:=h
 unfold cV
 by_cases q:kC x y=true
 ·rw[if_pos q]
  have:=(b_ hx.2 hy.2).mp q
  simp [this]
 ·rw[if_neg q]
  have q':¬ x=y:=fun z=>q ((b_ hx.2 hy.2).mpr z)
  have:=n0 (p:=("",w,e)) hx hy q'
  rw[this]
  cases cH ("",w,e) x y <;> simp [Ne.symm q']
inductive cA (ds:List D) (S:av) (R:KD) (Z:KX):Prop where
 |mk (x y wy e) (h0:ds=[x,y,.str e]) (h1:Cm x y) (h2:(x=.aw∨y=.aw)) (h3:R (.int (cV wy e x y)) S):cA ds S R Z
theorem iO(T:Txt w K mg t):Ok P w base T.cU 1 cA:=by
 refine T.cU.F.bU dE ?_
 rintro _ _ _ _ _ _ _ S R Z hr ⟨x,y,wy,e,e0,⟨k,hx,hy⟩,hn,q⟩
 subst e0
 refine⟨_,(sc (si (twd (twand (bh i4 hr.u (dv 0) dn) (tw1 (bh i4 hr.u (dv 1) dn)))) (s1 (sr di)) s0) (sc (cn (i:=3) dE.nd (cm br hr.u (dv 2) ds)) (s1 (sr (Lv (bh br hr.u (dv 3) (cm i4 hr.u (dv 0) dn)) (NJ di) di))))),?_⟩
 unfold cV at q
 refine !!⟨bK (fun h=>!!⟨bK (fun h2=>?_) (fun h2=>?_)⟩) (fun h=>?_)⟩
 ·rw[du h,du h2] at q
  exact fo q
 ·have e1:ai x≠ai y:=by rw[show ai x=true from h,show ai y=false from h2];decide
  rw[vG e1,if_neg zd] at q
  unfold cH at q
  rw[show ai x=true from h,show ai y=false from h2] at q
  refine !!!⟨?_⟩
  dsimp only [dC,Wl]
  refine CU !⟨?_⟩
  have q:R (.int (if (ai x == decide (e = "first"))=true then -1 else 1)) S:=by rw[show ai x=true from h];exact q
  rw[Bool.beq_comm] at q
  refine bK (fun z=>?_) (fun z=>?_)
  ·rw[if_pos (show (decide (e = "first") == ai x)=true from z)] at q;exact !⟨fo q⟩
  ·rw[if_neg fun z2=>tf z2 (show (decide (e = "first") == ai x)=false from z)] at q;exact fo q
 ·have Zr:ai y=true:=by
   rcases hn with rfl|rfl
   ·cases h
   ·rfl
  have e1:ai x≠ai y:=by rw[show ai x=false from h,Zr];decide
  rw[vG e1,if_neg zd] at q
  unfold cH at q
  rw[show ai x=false from h,Zr] at q
  refine !!!⟨?_⟩
  dsimp only [dC,Wl]
  refine CU !⟨?_⟩
  have q:R (.int (if (ai x == decide (e = "first"))=true then -1 else 1)) S:=by rw[show ai x=false from h];exact q
  rw[Bool.beq_comm] at q
  refine bK (fun z=>?_) (fun z=>?_)
  ·rw[if_pos (show (decide (e = "first") == ai x)=true from z)] at q;exact !⟨fo q⟩
  ·rw[if_neg fun z2=>tf z2 (show (decide (e = "first") == ai x)=false from z)] at q;exact fo q
inductive rF (ds:List D) (S:av) (R:KD) (Z:KX):Prop where
 |mk (x y wy e) (h0:ds=[x,y,.str wy,.str e]) (h1:Cm x y) (h2:R (.int (cV wy e x y)) S):rF ds S R Z
theorem oP(T:Txt w K mg t):Ok P w base T.compared 2 rF:=by
 refine T.compared.F.bU oz ?_
 rintro _ _ _ _ _ _ _ S R Z hr ⟨x,y,wy,e,e0,hc,q⟩
 subst e0
 obtain⟨k,hx,hy⟩:=id hc
 refine⟨_,(sc (si (twd (twor (bh i4 hr.u (dv 0) dn) (tw1 (bh i4 hr.u (dv 1) dn)))) (s1 (sr (aI T.cU (iO T) hr (ac (dv 0) (ac (dv 1) (ac (dv 3) an)))))) s0) (sc (si (bh br hr.u (dv 0) (dv 1)) (s1 (sr di)) s0) (sc (cn (i:=4) oz.nd (cm sy hr.u (dv 0) (dv 1))) (s1 (sr (Lv (bh br hr.u (dv 4) (cm br hr.u (dv 2) ds)) (NJ di) di)))))),?_⟩
 have none:∀Zq:KX,x=.aw∨y=.aw→cA [x,y,.str e] S (fun d S'=>Fo S' (R d)) Zq:=fun _ hn=>⟨x,y,wy,e,rfl,hc,hn,fo q⟩
 refine !!⟨bK (fun h=>?_) (fun h=>!!⟨bK (fun h2=>?_) (fun h2=>?_)⟩)⟩
 ·exact !!!⟨none _ (.inl (du h))⟩
 ·exact !!!⟨none _ (.inr (du h2))⟩
 clear none
 have nx:ai x=false:=h
 have ny:ai y=false:=h2
 unfold cV at q
 refine !!⟨xE hx.2 hy.2 !⟨bK (fun h3=>?_) (fun h3=>?_)⟩⟩
 ·have h3:kC x y=true:=h3
  rw[if_pos h3] at q;exact fo q
 ·have h3:kC x y=false:=h3
  rw[h3,if_neg zd] at q
  unfold cH at q
  rw[nx,ny] at q
  have q:R (.int (if (sR x y == decide (wy = "up"))=true then -1 else 1)) S:=q
  rcases vB hx hy (bw nx) (bw ny) with ⟨i,j,rfl,rfl⟩|⟨i,j,rfl,rfl⟩
  ·refine !!!!⟨?_⟩
   dsimp only [dC]
   refine Mc ?_
   refine CU ?_
   refine !⟨?_⟩
   refine bK (fun z=>?_) (fun z=>?_)
   ·rw[if_pos (show (sR (.int i) (.int j) == decide (wy = "up"))=true from z)] at q;exact !⟨fo q⟩
   ·rw[if_neg fun z2=>tf z2 (show (sR (.int i) (.int j) == decide (wy = "up"))=false from z)] at q;exact fo q
  ·refine !!!!⟨?_⟩
   dsimp only [dC]
   refine Mc ?_
   refine CU ?_
   refine !⟨?_⟩
   refine bK (fun z=>?_) (fun z=>?_)
   ·rw[if_pos (show (sR (.str i) (.str j) == decide (wy = "up"))=true from z)] at q;exact !⟨fo q⟩
   ·rw[if_neg fun z2=>tf z2 (show (sR (.str i) (.str j) == decide (wy = "up"))=false from z)] at q;exact fo q
def j0(ps:List Part)(wy:Str):List (Str×Str):=ps.map Prod.snd++[(wy,("last" : Str))]
def bB:List (Str×Str)→List D→List D→Int
 |w::ws,x::xs,y::ys=>if cV w.1 w.2 x y=0 then bB ws xs ys else cV w.1 w.2 x y
 |_,_,_=>0
def PV(ks:List Str)(xs:List D):Prop:=Paired (fun k x=>Vg k x) ks xs
theorem mP:∀{ws:List (Str×Str)}{ks:List Str}{xs ys:List D},ws.length=ks.length→PV ks xs→PV ks ys→(bB ws xs ys=0↔xs=ys)
 |[],_,_,_,h,.nil,.nil=>by simp [bB]
 |w::ws,_,_,_,h,.cons (b:=x) a1 a2,.cons (b:=y) b1 b2=>by
  unfold bB
  have c:=mO (w:=w.1) (e:=w.2) ⟨_,a1,b1⟩
  by_cases q:cV w.1 w.2 x y=0
  ·rw[if_pos q,mP (Nat.succ.inj h) a2 b2,c.mp q];simp
  ·rw[if_neg q]
   exact⟨fun z=>absurd z q,fun z=>absurd (c.mpr (List.cons.inj z).1) q⟩
theorem xP:∀{ws:List (Str×Str)}{ks:List Str}{xs ys:List D},PV ks xs→PV ks ys→(bB ws ys xs<0↔0<bB ws xs ys)
 |[],_,_,_,_,_=>by simp [bB]
 |w::ws,_,_,_,.nil,.nil=>by simp [bB]
 |w::ws,_,_,_,.cons (b:=x) a1 a2,.cons (b:=y) b1 b2=>by
  unfold bB
  have c:=mO (w:=w.1) (e:=w.2) ⟨_,a1,b1⟩
  have c':=mO (w:=w.1) (e:=w.2) ⟨_,b1,a1⟩
  by_cases q:x=y
  ·rw[if_pos (c.mpr q),if_pos (c'.mpr q.symm)];exact xP a2 b2
  ·rw[if_neg fun z=>q (c.mp z),if_neg fun z=>q (c'.mp z).symm];exact KG ⟨_,a1,b1⟩
theorem HL:∀{ws:List (Str×Str)}{ks:List Str}{xs ys zs:List D},PV ks xs→PV ks ys→PV ks zs→bB ws xs ys<0→bB ws ys zs<0→bB ws xs zs<0
 |[],_,_,_,_,_,_,_,h,_=>by simp [bB] at h
 |w::ws,_,_,_,_,.nil,.nil,.nil,h,_=>by simp [bB] at h
 |w::ws,_,_,_,_,.cons (b:=x) a1 a2,.cons (b:=y) b1 b2,.cons (b:=z) c1 c2,h1,h2=>by
  unfold bB at h1 h2 ⊢
  have e1:=mO (w:=w.1) (e:=w.2) ⟨_,a1,b1⟩
  have e2:=mO (w:=w.1) (e:=w.2) ⟨_,b1,c1⟩
  have e3:=mO (w:=w.1) (e:=w.2) ⟨_,a1,c1⟩
  by_cases q1:x=y
  ·subst q1
   rw[if_pos (e1.mpr rfl)] at h1
   by_cases q2:x=z
   ·subst q2
    rw[if_pos (e2.mpr rfl)] at h2 ⊢
    exact HL a2 b2 c2 h1 h2
   ·rw[if_neg fun z=>q2 (e2.mp z)] at h2 ⊢
    exact h2
  ·rw[if_neg fun z=>q1 (e1.mp z)] at h1
   by_cases q2:y=z
   ·subst q2
    rw[if_neg fun z=>q1 (e3.mp z)]
    exact h1
   ·rw[if_neg fun z=>q2 (e2.mp z)] at h2
    obtain⟨q3,l3⟩:=Kq (p:=("",w.1,w.2)) a1 b1 c1 q1 q2 ((uh ⟨_,a1,b1⟩).mp h1).2 ((uh ⟨_,b1,c1⟩).mp h2).2
    rw[if_neg fun z=>q3 (e3.mp z)]
    exact (uh ⟨_,a1,c1⟩).mpr ⟨q3,l3⟩
def x9(cs:List (Str×Str))(z:Str):Str:=((cs[Ko cs z]?).map Prod.snd).getD "word"
def UI(cs:List (Str×Str))(ps:List Part):List Str:=ps.map (fun p=>x9 cs p.1)++[("word" : Str)]
def iQ(cs:List (Str×Str))(ps:List Part)(r:Row):List D:=ps.map (fun p=>ak cs r.2 p.1)++[.str r.1]
theorem oQ:∀z∈KS,Vg "word" (.str z):=by
 have h:∀z∈KS,(tZ z && bx (.str z))=true:=by trivial
 exact fun z hz=>let q:=Bool.and_eq_true_iff.mp (h z hz);⟨q.1,q.2⟩
theorem lE:∀{l:List α}{m:List β}{l':List α}{m':List β},Paired r l m→Paired r l' m'→Paired r (l++l') (m++m')
 |_,_,_,_,.nil,h=>h
 |_,_,_,_,.cons a t,h=>.cons a (lE t h)
theorem rG(hg:Gd cs)(hp:Pin cs ps)(hw:Wg cs ws):Paired (fun k x=>Vg k x) (ps.map fun p=>x9 cs p.1) (ps.map fun p=>ak cs ws p.1):=by
 induction ps with
 |nil=>exact .nil
 |cons p ps ih =>
  refine .cons ?_ (ih hp.tail)
  obtain⟨c,hc,e⟩:=hp p zo
  show Vg (x9 cs p.1) (ak cs ws p.1)
  unfold x9
  rw[← e,(rC hg hc).1]
  exact (pS hg hw hc).2
theorem lF(hg:Gd cs)(hp:Pin cs ps)(hw:Wg cs r.2)(hk:r.1∈KS):PV (UI cs ps) (iQ cs ps r):=lE (rG hg hp hw) (.cons (oQ _ hk) .nil)
theorem C6(hg:Gd cs){wy:Str}(ha:Wg cs a.2)(hb:Wg cs b.2)(ka:a.1∈KS)(kb:b.1∈KS)(n:a.1≠b.1):∀{ps:List Part},Pin cs ps→(cL cs wy ps a b=true↔bB (j0 ps wy) (iQ cs ps a) (iQ cs ps b)<0)
 |[],_=>by
  show (tG a.1 b.1 == decide (wy = "up"))=true↔(if cV wy "last" (.str a.1) (.str b.1)=0 then 0 else cV wy "last" (.str a.1) (.str b.1))<0
  have n':(.str a.1:D)≠.str b.1:=fun e=>n (D.str.inj e)
  rw[if_neg fun z=>n' ((mO ⟨_,oQ _ ka,oQ _ kb⟩).mp z),uh ⟨_,oQ _ ka,oQ _ kb⟩]
  exact⟨fun h=>⟨n',h⟩,fun h=>h.2⟩
 |p::ps,hp=>by
  obtain⟨k,hk⟩:=vF hg hp
  have va:=hk _ ha
  have vb:=hk _ hb
  show (if kC (ak cs a.2 p.1) (ak cs b.2 p.1)=true then cL cs wy ps a b else cH p (ak cs a.2 p.1) (ak cs b.2 p.1))=true↔(if cV p.2.1 p.2.2 (ak cs a.2 p.1) (ak cs b.2 p.1)=0 then bB (j0 ps wy) (iQ cs ps a) (iQ cs ps b) else cV p.2.1 p.2.2 (ak cs a.2 p.1) (ak cs b.2 p.1))<0
  by_cases q:ak cs a.2 p.1=ak cs b.2 p.1
  ·rw[if_pos ((b_ va.2 vb.2).mpr q),if_pos ((mO ⟨_,va,vb⟩).mpr q)]
   exact C6 hg ha hb ka kb n hp.tail
  ·rw[if_neg fun z=>q ((b_ va.2 vb.2).mp z),if_neg fun z=>q ((mO ⟨_,va,vb⟩).mp z),uh ⟨_,va,vb⟩]
   exact⟨fun h=>⟨q,h⟩,fun h=>h.2⟩
def SX(ws:List (Str×Str))(g:List D)(sd:Str)(x:List D):Bool:=decide (bB ws x g<0) || (decide (bB ws x g=0) && decide (sd = "behind"))
theorem SY{ws:List (Str×Str)}{ks:List Str}{g x y:List D}{sd:Str}(hl:ws.length=ks.length)(hx:PV ks x)(hy:PV ks y)(hg:PV ks g)(h:bB ws x y<0)(q:SX ws g sd y=true):SX ws g sd x=true:=by
 unfold SX at q ⊢
 simp only [Bool.or_eq_true,zJ,zX] at q ⊢
 rcases q with q|⟨q,_⟩
 ·exact .inl (HL hx hy hg h q)
 ·rw[← (mP hl hy hg).mp q];exact .inl h
theorem Bu:∀{l:List α},(l.Pairwise fun a b=>g b=true→g a=true)→∀{i:Nat}{a:α},l[i]?=some a→(g a=true↔i<l.countP g)
 |[],_,i,a,h=>by simp at h
 |x::l,hp,i,a,h=>by
  obtain⟨h1,h2⟩:=List.pairwise_cons.mp hp
  rw[List.countP_cons]
  by_cases q:g x=true
  ·rw[if_pos q]
   cases i with
   |zero=>cases h;simp [q]
   |succ i=>rw[Bu h2 (show l[i]?=some a from h)];lia
  ·have z:l.countP g=0:=List.countP_eq_zero.mpr fun b hb e=>q (h1 b hb e)
   rw[if_neg q,z]
   have:g a≠true:=by
    cases i with
    |zero=>cases h;exact q
    |succ i=>exact fun e=>q (h1 a (zC h) e)
   simp [this]
theorem Bv{α:Type}{g:α→Bool}{l:List α}(hp:l.Pairwise fun a b=>g b=true→g a=true){n:Nat}(hn:n≤l.length)(h1:∀i a,i<n→l[i]?=some a→g a=true)(h2:∀i a,n≤i→l[i]?=some a→g a=false):n=l.countP g:=by
 have hc:l.countP g≤l.length:=List.countP_le_length
 rcases Nat.lt_trichotomy n (l.countP g) with h|h|h
 ·have hi:n<l.length:=by lia
  have e:=zf hi
  have:=(Bu hp e).mpr h
  rw[h2 n _ (zm _) e] at this;cases this
 ·exact h
 ·have hi:l.countP g<l.length:=by lia
  have e:=zf hi
  have:=(Bu hp e).mp (h1 _ _ h e)
  lia
def HM(xs:List D)(k:Str):D:=.tup [.tup xs,.str k]
abbrev pT:=List D×Str×Str
def sS(g:pT):D:=.tup [HM g.1 g.2.1,.str g.2.2]
def Bw:Option pT→D
 |none=>.aw
 |some g=>sS g
def xQ(z:Str):Bool:=decide (z = "ahead") || decide (z = "behind")
structure Gp(cs:List (Str×Str))(ps:List Part)(g:pT):Prop where
 pv:Paired (fun k x=>Vg k x) (ps.map fun p=>x9 cs p.1) g.1
 key:g.2.1∈KS
 side:xQ g.2.2=true
def Bg(cs:List (Str×Str))(ps:List Part)(b:Option pT):Prop:=∀g,b=some g→Gp cs ps g
def KH(g:pT):List D:=g.1++[.str g.2.1]
theorem Gp.vs(h:Gp cs ps g):PV (UI cs ps) (KH g):=lE h.pv (.cons (oQ _ h.key) .nil)
theorem Gp.len(h:Gp cs ps g):g.1.length=ps.length:=by
 have:=yC h.pv
 rw[zb] at this
 exact this.symm
theorem Og.len(h:Og cs ps wy):ps.length≤8:=by
 have:=h.ok
 unfold Bl at this
 simp only [zJ,zX] at this
 exact this.1
theorem Bx(hg:Gd cs)(hc:c∈cs):c.1.cps.size≤1000:=by
 have h:=(hg.2.2 c hc).1
 unfold kr at h
 simp only [zJ,zX] at h
 lia
inductive ui (ds:List D) (S:av) (R:KD) (Z:KX):Prop where
 |mk (z) (h0:ds=[.str z]) (h1:R (.bl (xQ z)) S):ui ds S R Z
theorem By(T:Txt w K mg t):Ok P w base T.uZ 1 ui:=by
 refine T.uZ.F.bU A3 ?_
 rintro _ _ _ _ _ _ _ S R Z hr ⟨z,e,q⟩
 subst e
 refine⟨_,(s1 (sr (sx (cb cG T.ay au (ac (dv 0) (ac (rP T.mh gT) an))) (Ij (WQ T.uU (dv 0) (dg (v:=.ref t.g7) T.sG rfl fun _=>gU _)))))),?_⟩
 refine !⟨_,_,_,_,rfl,cB,rfl,_,rfl,cI !⟨z,rfl,rfl,?_⟩⟩
 rw[Hr]
 exact fo q
inductive fz (ds:List D) (S:av) (R:KD) (Z:KX):Prop where
 |mk (cs ps xs) (h0:ds=[.tup (cs.map az),.tup (ps.map p3),.tup xs]) (h1:Gd cs) (h2:Pin cs ps) (h3:ps.length≤8) (h4:Paired (fun k x=>Vg k x) (ps.map fun p=>x9 cs p.1) xs) (h5:R (.bl true) S):fz ds S R Z
theorem j5(T:Txt w K mg t):Ok P w base T.dM 4 fz:=by
 refine T.dM.F.bU jW ?_
 rintro _ _ _ _ _ _ _ S R Z hr ⟨cs,ps,xs,e,hg,hp,h8,hv,q⟩
 subst e
 have hl:xs.length=ps.length:=by have:=yC hv;rw[zb] at this;exact this.symm
 have SH:(ps.map p3).length=ps.length:=zb _
 refine⟨_,(sc (si (twd (twor (cq (tv (cb cG T.ay au (ac (dv 2) (ac (rP T.bj aV) an))))) (tw1 (bh fF hr.u (cb aT T.aO aE (ac (dv 2) an)) (cb aT T.aO aE (ac (dv 1) an)))))) (s1 (sr db)) s0) (s1 (sr (cb ki T.km fZ (ac (sA (N:=["part","value","columns"]) (src:=[none,none,some 0]) (kM (ae kQ) ["columns","parts","thing"] rfl rfl (by trivial)) (Xo T.CB (ac (dv 1) (ac (dv 2) an))) (Ug (show (["part","value","columns"]:List Str).Nodup by trivial)) (pK rfl rfl) pM (fun _ _ _ _ _=>rQ) (fun _ _ _ _ _=>(aI T.je (jr T) hr (ac (aI T.dJ (gr T) hr (ac (dv 2) (ac (ix hr.u (dv 0) di) an))) (ac (dv 1) an))))) an))))),?_⟩
 refine !⟨_,_,_,_,rfl,aX,rfl,_,rfl,bf !!!!!⟨bz (by rw[hl,SH];simp) ?_⟩⟩
 refine !!⟨_,_,rfl,by rw[hl,SH],?_⟩
 refine comp_map (fun _=>.bl true) trivial (by show (bu _ _).length≤_;unfold bu;rw[List.length_zipWith];lia) (fun d hd Q hQ=>?_) fun p jO=>?_
 ·have hd:d∈bu (ps.map p3) xs:=hd
  unfold bu at hd
  obtain⟨i,ei⟩:=List.getElem?_of_mem hd
  obtain⟨x,y,e2,e3,e4⟩:=List.getElem?_zipWith_eq_some.mp ei
  subst e4
  rw[zp] at e2
  cases e5:ps[i]? with
  |none=>rw[e5] at e2;cases e2
  |some pt =>
   rw[e5] at e2
   cases e2
   obtain⟨c,hc,ec⟩:=hp pt (zC e5)
   obtain⟨k,ek,hk⟩:=c_ hv e3
   rw[zp,e5] at ek
   cases ek
   have hk:Vg (x9 cs pt.1) y:=hk
   unfold x9 at hk
   rw[← ec,(rC hg hc).1] at hk
   have hk:Vg c.2 y:=hk
   refine !⟨rfl,_,_,rfl,_,_,rfl,rfl,_,rfl,_,rfl,_,rfl,cs,pt.1,rfl,hg,by rw[← ec];exact Bx hg hc,fun k' FO=>?_,fun hn=>absurd (zg.mpr ⟨c,hc,ec⟩) hn⟩
   have e6:k'=c.2:=by
    have:=eR (f:=Prod.fst) hg.2.1 FO hc ec.symm
    rw[← this]
   rw[e6]
   refine !⟨c.2,y,rfl,L4 hk,?_⟩
   rw[hk.1]
   exact hQ
 ·have e2:(bu (ps.map p3) xs).map (fun _=>D.bl true)=((bu (ps.map p3) xs).map fun _=>true).map D.bl:=by rw[zw];rfl
  have e3:((bu (ps.map p3) xs).map fun _=>true).all id=true:=by rw[all_map];exact yc.mpr fun _ _=>rfl
  refine⟨.ref p,(bu (ps.map p3) xs).map fun _=>true,rfl,?_,?_⟩
  ·show (S.set p (.lst ((bu (ps.map p3) xs).map _))) p=_
   rw[aa,e2]
  rw[e3]
  exact⟨S,.new jO,q⟩
inductive kD (ds:List D) (S:av) (R:KD) (Z:KX):Prop where
 |mk (cs ps wy xs k) (h0:ds=[.tup (cs.map az),cM ps wy,HM xs k]) (h1:Gd cs) (h2:Pin cs ps) (h3:ps.length≤8) (h4:Paired (fun k x=>Vg k x) (ps.map fun p=>x9 cs p.1) xs) (h5:k∈KS) (h6:R .aw S):kD ds S R Z
theorem rH(T:Txt w K mg t):Ok P w base T.jf 5 kD:=by
 refine T.jf.F.bU qS ?_
 rintro _ _ _ _ _ _ _ S R Z hr ⟨cs,ps,wy,xs,k,e,hg,hp,h8,hv,hk,q⟩
 subst e
 refine⟨_,(sc (si (twd (twor (cq (tv (cb cG T.ay au (ac (dv 2) (ac (rP T.bj aV) an))))) (tw1 (bh fF hr.u (cb aT T.aO aE (ac (dv 2) an)) di)))) (s1 (qy ⟨T.cT⟩ T.dY (ac ds an))) s0) (sc (si (cq (tv (aI T.dM (j5 T) hr (ac (dv 0) (ac (ix hr.u (dv 1) di) (ac (ix hr.u (dv 2) di) an)))))) (s1 (qy ⟨T.cT⟩ T.dY (ac ds an))) s0) (s1 (si (cq (tv (aI T.kZ (gI T) hr (ac (ix hr.u (dv 2) di) an)))) (s1 (qy ⟨T.cT⟩ T.dY (ac ds an))) s0)))),?_⟩
 refine !⟨_,_,_,_,rfl,aX,rfl,_,rfl,bf !!!⟨bf ?_⟩⟩
 refine !!!!!⟨cs,ps,xs,rfl,hg,hp,h8,hv,_,rfl,bf ?_⟩
 refine !!⟨.str k,rfl,xN hk,_,rfl,?_⟩
 rw[show ofStr jY (.str k)=true from (gq k hk).1]
 exact bf (fo q)
inductive oR (ds:List D) (S:av) (R:KD) (Z:KX):Prop where
 |mk (cs ps wy g) (h0:ds=[.tup (cs.map az),cM ps wy,sS g]) (h1:Gd cs) (h2:Pin cs ps) (h3:ps.length≤8) (h4:Gp cs ps g) (h5:R .aw S):oR ds S R Z
theorem vI(T:Txt w K mg t):Ok P w base T.nL 6 oR:=by
 refine T.nL.F.bU u_ ?_
 rintro _ _ _ _ _ _ _ S R Z hr ⟨cs,ps,wy,g,e,hg,hp,h8,hv,q⟩
 subst e
 refine⟨_,(sc (si (twd (twor (cq (tv (cb cG T.ay au (ac (dv 2) (ac (rP T.bj aV) an))))) (tw1 (bh fF hr.u (cb aT T.aO aE (ac (dv 2) an)) di)))) (s1 (qy ⟨T.cT⟩ T.dY (ac ds an))) s0) (sc (se (aI T.jf (rH T) hr (ac (dv 0) (ac (dv 1) (ac (ix hr.u (dv 2) di) an))))) (s1 (si (cq (tv (aI T.uZ (By T) hr (ac (ix hr.u (dv 2) di) an)))) (s1 (qy ⟨T.cT⟩ T.dY (ac ds an))) s0)))),?_⟩
 refine !⟨_,_,_,_,rfl,aX,rfl,_,rfl,bf !!!⟨bf ?_⟩⟩
 refine !!!!⟨cs,ps,wy,g.1,g.2.1,rfl,hg,hp,h8,hv.pv,hv.key,?_⟩
 refine !!⟨g.2.2,rfl,_,rfl,?_⟩
 rw[hv.side]
 exact bf (fo q)
inductive kE (ds:List D) (S:av) (R:KD) (Z:KX):Prop where
 |mk (cs ps wy b) (h0:ds=[.tup (cs.map az),cM ps wy,Bw b]) (h1:Gd cs) (h2:Pin cs ps) (h3:ps.length≤8) (h4:Bg cs ps b) (h5:R .aw S):kE ds S R Z
theorem fA(T:Txt w K mg t):Ok P w base T.d_ 7 kE:=by
 refine T.d_.F.bU qU ?_
 rintro _ _ _ _ _ _ _ S R Z hr ⟨cs,ps,wy,b,e,hg,hp,h8,hv,q⟩
 subst e
 refine⟨_,(s1 (si (bh gZ hr.u (dv 2) dn) (s1 (se (aI T.nL (vI T) hr (ac (dv 0) (ac (dv 1) (ac (dv 2) an)))))) s0)),?_⟩
 cases b with
 |none=>exact !!⟨bf (fo q)⟩
 |some g=>exact !!⟨cI !!!⟨cs,ps,wy,g,rfl,hg,hp,h8,hv g rfl,fo q⟩⟩
inductive mQ (ds:List D) (S:av) (R:KD) (Z:KX):Prop where
 |mk (n:Int) (h0:ds=[.int n]) (h1:1≤n) (h2:n≤1000) (h3:R .aw S):mQ ds S R Z
theorem sT(T:Txt w K mg t):Ok P w base T.k_ 2 mQ:=by
 refine T.k_.F.bU sM ?_
 rintro _ _ _ _ _ _ _ S R Z hr ⟨n,e,h1,h2,q⟩
 subst e
 refine⟨_,(s1 (si (twd (twor (cq (tv (aI T.jd (jq T) hr (ac (dv 0) an)))) (tw1 (cq (T6 i0 i0 hr.u di (dv 0) (dg (v:=.int 1000) T.uR ⟨_,rfl⟩ fun _=>aL _)))))) (s1 (qy ⟨T.nI⟩ T.AU (ac ds an))) s0)),?_⟩
 refine !⟨.int n,rfl,gt_int,_,rfl,bf !!⟨rq (zq h1) !⟨?_⟩⟩⟩
 exact bz (by show (!decide (n≤1000))=false;rw[zq h2];rfl) (fo q)
inductive mR (ds:List D) (S:av) (R:KD) (Z:KX):Prop where
 |mk (cs ps wy d n b) (h0:ds=[.tup (cs.map az),cM ps wy,d,.int n,Bw b]) (h1:Gd cs) (h2:Og cs ps wy) (h3:Sg cs 4 d) (h4:1≤n) (h5:n≤1000) (h6:Bg cs ps b) (h7:R .aw S):mR ds S R Z
theorem kF(T:Txt w K mg t):Ok P w base T.hU 8 mR:=by
 refine T.hU.F.bU sL ?_
 rintro _ _ _ _ _ _ _ S R Z hr ⟨cs,ps,wy,d,n,b,e,hg,ho,hd,h1,h2,hv,q⟩
 subst e
 refine⟨_,(sc (se (aI T.fP (jy T) hr (ac (dv 0) (ac (dv 1) an)))) (sc (se (aI T.dZ (fu T) hr (ac (dv 0) (ac (dv 2) an)))) (sc (se (aI T.k_ (sT T) hr (ac (dv 3) an))) (s1 (se (aI T.d_ (fA T) hr (ac (dv 0) (ac (dv 1) (ac (dv 4) an))))))))),?_⟩
 refine !!⟨cs,ps,wy,rfl,hg,ho.tx,fun _=>?_,fun z=>tf ho.ok z⟩
 refine !!⟨cs,d,rfl,hg,hd,_,rfl,n,rfl,h1,h2,?_⟩
 exact !!!⟨cs,ps,wy,b,rfl,hg,ho.pin,ho.len,hv,fo q⟩
structure An(cs:List (Str×Str))(ps:List Part)(wy:Str)(A:List Row):Prop where
 rg:Rg cs A
 ky:∀r∈A,r.1∈KS
 pw:A.Pairwise fun a b=>cL cs wy ps a b=true
def gP(cs:List (Str×Str))(ps:List Part)(wy:Str)(g:pT)(r:Row):Bool:=SX (j0 ps wy) (KH g) g.2.2 (iQ cs ps r)
theorem vJ:(j0 ps wy).length=(UI cs ps).length:=by unfold j0 UI;simp
theorem An.lex(hg:Gd cs)(hp:Pin cs ps)(h:An cs ps wy A):A.Pairwise fun a b=>bB (j0 ps wy) (iQ cs ps a) (iQ cs ps b)<0:=by
 have nd:A.Pairwise fun a b=>a.1≠b.1:=List.pairwise_map.mp h.rg.2
 refine (h.pw.and nd).imp_of_mem fun {a b} ha hb q=>?_
 exact (C6 hg (h.rg.1 a ha) (h.rg.1 b hb) (h.ky a ha) (h.ky b hb) q.2 hp).mp q.1
theorem An.mono(hg:Gd cs)(hp:Pin cs ps)(h:An cs ps wy A)(hv:Gp cs ps g):A.Pairwise fun a b=>gP cs ps wy g b=true→gP cs ps wy g a=true:=by
 refine (h.lex hg hp).imp_of_mem fun {a b} ha hb q=>?_
 exact SY vJ (lF hg hp (h.rg.1 a ha) (h.ky a ha)) (lF hg hp (h.rg.1 b hb) (h.ky b hb)) hv.vs q
inductive rJ (ds:List D) (S:av) (R:KD) (Z:KX):Prop where
 |mk (cs ps wy r) (h0:ds=[.tup (cs.map az),cM ps wy,aq r]) (h1:Gd cs) (h2:Pin cs ps) (h3:ps.length≤8) (h4:Wg cs r.2) (h5:R (HM (ps.map fun p=>ak cs r.2 p.1) r.1) S):rJ ds S R Z
theorem jB(T:Txt w K mg t):Ok P w base T.jg 3 rJ:=by
 refine T.jg.F.bU oA ?_
 rintro _ _ _ _ _ _ _ S R Z hr ⟨cs,ps,wy,r,e,hg,hp,h8,hw,q⟩
 subst e
 refine⟨_,(sc (Pq (i:=3) (N:=["part","columns","row"]) (src:=[none,some 0,some 2]) oA.nd (kM (ae AN) ["columns","order","row","values"] rfl rfl (by trivial)) (Fc (ix hr.u (dv 1) di)) (qz (show (["part","columns","row"]:List Str).Nodup by trivial)) (ba rfl) bb (fun _ _ _ _ _=>rQ) (fun _ _ _ _ _=>(aI T.ck (cZ T) hr (ac (dv 1) (ac (dv 2) (ac (ix hr.u (dv 0) di) an)))))) (s1 (sr (bD (ac (ct eO T.bj aV (ac (dv 3) an)) (ac (ix hr.u (dv 2) di) an)))))),?_⟩
 refine !!⟨_,.inl rfl,?_⟩
 refine comp_map (fun d=>match d with|.tup (.str z::_)=>ak cs r.2 z|_=>.aw) trivial (by show (ps.map p3).length≤_;rw[zb];lia) (fun d hd Q hQ=>?_) fun p jO=>?_
 ·obtain⟨pt,OT,rfl⟩:=zg.mp hd
  obtain⟨c,hc,ec⟩:=hp pt OT
  refine !!!!⟨cs,r,c,(by rw[ec];rfl),hg,hw,hc,?_⟩
  rw[ec];exact hQ
 ·have e3:(ps.map p3).map (fun d=>match d with|.tup (.str z::_)=>ak cs r.2 z|_=>.aw)=ps.map fun p=>ak cs r.2 p.1:=by rw[zw];rfl
  rw[show (⟨ps.map p3,fun _=>True⟩:E_).xs=ps.map p3 from rfl,e3]
  exact !⟨_,_,rfl,.inl aa,_,rfl,_,rfl,bH,S,.new jO,q⟩
inductive fV (ds:List D) (S:av) (R:KD) (Z:KX):Prop where
 |mk (ps:List Part) (wy:Str) (xs:List D) (k:Str) (ys:List D) (l:Str) (ks:List Str) (h0:ds=[cM ps wy,HM xs k,HM ys l]) (h1:ps.length=xs.length) (h2:ps.length=ys.length) (h3:Paired (fun k x=>Vg k x) ks xs) (h4:Paired (fun k x=>Vg k x) ks ys) (h5:k∈KS) (h6:l∈KS) (h7:R (.int (bB (j0 ps wy) (xs++[.str k]) (ys++[.str l]))) S):fV ds S R Z
theorem lG(T:Txt w K mg t):Ok P w base T.eF 3 fV:=by
 refine T.eF.F.bU bE ?_
 rintro _ _ _ _ _ _ _ S R Z hr ⟨ps,wy,xs,k,ys,l,ks,e,h1,h2,vx,vy,hk,hl,q⟩
 subst e
 refine⟨_,(sc (wO (Gs (Xp T.CB (ac (ix hr.u (dv 0) di) (ac (ix hr.u (dv 1) di) (ac (ix hr.u (dv 2) di) an)))) (gt (n:=3) (gc (gn (i:=3) bE.nd) (gc (gn (i:=4) bE.nd) (gc (gn (i:=5) bE.nd) g0)))) (sc (cn (i:=6) bE.nd (aI T.compared (oP T) hr (ac (dv 4) (ac (dv 5) (ac (ix hr.u (dv 3) di) (ac (ix hr.u (dv 3) di) an)))))) (s1 (si (bh fF hr.u (dv 6) di) (s1 (sr (dv 6))) s0))))) (s1 (sr (aI T.compared (oP T) hr (ac (ix hr.u (dv 1) di) (ac (ix hr.u (dv 2) di) (ac (ix hr.u (dv 0) di) (ac ds an)))))))),?_⟩
 refine⟨fun aG S'=>∃(o3 o4 o5 o6:Option D),aG=[some (cM ps wy),some (HM xs k),some (HM ys l),o3,o4,o5,o6]∧S'=S∧bB (j0 ps wy) (xs++[.str k]) (ys++[.str l])=cV wy "last" (.str k) (.str l),?_,?_⟩
 ·refine !!!!!!⟨_,_,_,rfl,by rw[zb];exact h1,by rw[zb];exact h2,?_⟩
  refine⟨fun i aG S'=>∃(o3 o4 o5 o6:Option D),aG=[some (cM ps wy),some (HM xs k),some (HM ys l),o3,o4,o5,o6]∧S'=S∧bB (j0 ps wy) (xs++[.str k]) (ys++[.str l])=bB (j0 (ps.drop i) wy) (xs.drop i++[.str k]) (ys.drop i++[.str l]),⟨_,_,_,_,rfl,rfl,rfl⟩,fun _ _ _ _=>trivial,?_,?_⟩
  ·rintro i d aG S' hd ⟨o3,o4,o5,o6,rfl,rfl,he⟩
   obtain⟨x,y,z,e1,e2,e3,rfl⟩:=nD hd
   rw[zp] at e1
   cases e5:ps[i]? with
   |none=>rw[e5] at e1;cases e1
   |some p =>
    rw[e5] at e1
    cases e1
    obtain⟨i1,g1⟩:=ze.mp e5
    obtain⟨i2,g2⟩:=ze.mp e2
    obtain⟨i3,g3⟩:=ze.mp e3
    rw[List.drop_eq_getElem_cons i1,List.drop_eq_getElem_cons i2,List.drop_eq_getElem_cons i3,g1,g2,g3] at he
    have he:_=if cV p.2.1 p.2.2 y z=0 then bB (j0 (ps.drop (i+1)) wy) (xs.drop (i+1)++[.str k]) (ys.drop (i+1)++[.str l]) else cV p.2.1 p.2.2 y z:=he
    obtain⟨k1,q1,v1⟩:=c_ vx e2
    obtain⟨k2,q2,v2⟩:=c_ vy e3
    cases q1.symm.trans q2
    refine !⟨rfl,_,_,rfl,_,_,rfl,_,_,rfl,rfl,?_⟩
    refine !!!!!!⟨y,z,p.2.1,p.2.2,rfl,⟨k1,v1,v2⟩,_,rfl,_,rfl,bK (fun h=>?_) (fun h=>?_)⟩
    ·have h:(!decide (cV p.2.1 p.2.2 y z=0))=true:=h
     rw[if_neg (zO (nt h))] at he
     rw[he] at q
     exact !⟨fo q⟩
    ·have h:(!decide (cV p.2.1 p.2.2 y z=0))=false:=h
     rw[if_pos (zA (nf h))] at he
     exact⟨_,_,_,_,rfl,rfl,he⟩
  ·rintro aG S' ⟨o3,o4,o5,o6,rfl,rfl,he⟩
   have he:_=bB (j0 (ps.drop (i7 (ps.map p3) xs ys).length) wy) (xs.drop (i7 (ps.map p3) xs ys).length++[.str k]) (ys.drop (i7 (ps.map p3) xs ys).length++[.str l]):=he
   rw[nC (by rw[zb];exact h1) (by rw[zb];exact h2),zb,List.drop_length,h1,List.drop_length,← h1,h2,List.drop_length] at he
   refine fo ⟨o3,o4,o5,o6,rfl,rfl,he.trans ?_⟩
   show (if cV wy "last" (.str k) (.str l)=0 then 0 else cV wy "last" (.str k) (.str l))=_
   split
   ·next h=>exact h.symm
   ·rfl
 ·rintro aG S' ⟨o3,o4,o5,o6,rfl,rfl,he⟩
  rw[he] at q
  exact !!!!!!⟨_,_,_,_,rfl,⟨_,oQ k hk,oQ l hl⟩,fo q⟩
inductive rK (ds:List D) (S:av) (R:KD) (Z:KX):Prop where
 |mk (cs ps wy r g) (h0:ds=[cM ps wy,HM (ps.map fun p=>ak cs r.2 p.1) r.1,sS g]) (h1:Gd cs) (h2:Pin cs ps) (h3:Wg cs r.2) (h4:r.1∈KS) (h5:Gp cs ps g) (h6:R (.bl (gP cs ps wy g r)) S):rK ds S R Z
theorem xR(T:Txt w K mg t):Ok P w base T.qP 4 rK:=by
 refine T.qP.F.bU oB ?_
 rintro _ _ _ _ _ _ _ S R Z hr ⟨cs,ps,wy,r,g,e,hg,hp,hw,hk,hv,q⟩
 subst e
 refine⟨_,(sc (cn (i:=3) oB.nd (aI T.eF (lG T) hr (ac (dv 0) (ac (dv 1) (ac (ix hr.u (dv 2) di) an))))) (sc (si (bh br hr.u (dv 3) di) (s1 (sr (cm br hr.u (ix hr.u (dv 2) di) ds))) s0) (s1 (sr (cm sy hr.u (dv 3) di))))),?_⟩
 refine !!!!⟨ps,wy,_,r.1,g.1,g.2.1,_,rfl,by rw[zb],hv.len.symm,rG hg hp hw,hv.pv,hk,hv.key,_,rfl,_,rfl,?_⟩
 unfold gP SX at q
 change R (.bl (decide (bB (j0 ps wy) ((ps.map fun p=>ak cs r.2 p.1)++[.str r.1]) (g.1++[.str g.2.1])<0) || decide (bB (j0 ps wy) ((ps.map fun p=>ak cs r.2 p.1)++[.str r.1]) (g.1++[.str g.2.1])=0) && decide (g.2.2 = "behind"))) S at q
 generalize bB (j0 ps wy) _ _=n at q ⊢
 refine bK (fun h=>?_) (fun h=>?_)
 ·have h:n=0:=zA h
  subst h
  exact !!⟨fo q⟩
 ·have h:¬ n=0:=zO h
  rw[zk h,zP,Bool.or_false] at q
  exact !⟨fo q⟩
inductive kG (ds:List D) (S:av) (R:KD) (Z:KX):Prop where
 |mk (cs ps wy A l g) (h0:ds=[.tup (cs.map az),cM ps wy,.ref l,sS g]) (h1:Gd cs) (h2:Pin cs ps) (h3:ps.length≤8) (h4:S l=some (.lst (A.map aq))) (h5:An cs ps wy A) (h6:Gp cs ps g) (h7:R (.int ((A.countP (gP cs ps wy g):Nat):Int)) S):kG ds S R Z
theorem dA(T:Txt w K mg t):Ok P w base T.cY 5 kG:=by
 refine T.cY.F.bU bS ?_
 rintro _ _ _ _ _ _ _ S R Z hr ⟨cs,ps,wy,A,l,g,e,hg,hp,h8,hl,hA,hv,q⟩
 subst e
 refine⟨_,(sc (cn (i:=4) bS.nd di) (sc (cn (i:=5) bS.nd (cb aT T.aO aE (ac (dv 2) an))) (sc (wO (YY (bh sy hr.u (dv 4) (dv 5)) (sc (cn (i:=6) bS.nd (bo uF hr.u (bo bc hr.u (dv 4) (dv 5)) di)) (s1 (si (tv (aI T.qP (xR T) hr (ac (dv 1) (ac (aI T.jg (jB T) hr (ac (dv 0) (ac (dv 1) (ac (ix hr.u (dv 2) (dv 6)) an)))) (ac (dv 3) an))))) (s1 (cn (i:=4) bS.nd (bo bc hr.u (dv 6) di))) (s1 (cn (i:=5) bS.nd (dv 6)))))))) (s1 (sr (dv 4)))))),?_⟩
 refine !!⟨.inl ⟨_,hl,?_⟩⟩
 rw[zb]
 refine⟨fun aG S'=>∃(o6:Option D),aG=[some (.tup (cs.map az)),some (cM ps wy),some (.ref l),some (sS g),some (.int ((A.countP (gP cs ps wy g):Nat):Int)),some (.int ((A.countP (gP cs ps wy g):Nat):Int)),o6]∧S'=S,?_,?_⟩
 ·refine⟨fun m aG S'=>∃(lo hi:Nat) (o6:Option D),aG=[some (.tup (cs.map az)),some (cM ps wy),some (.ref l),some (sS g),some (.int (lo:Nat)),some (.int (hi:Nat)),o6]∧S'=S∧m=hi - lo∧lo≤hi∧hi≤A.length∧(∀i a,i<lo→A[i]?=some a→gP cs ps wy g a=true)∧(∀i a,hi≤i→A[i]?=some a→gP cs ps wy g a=false),⟨_,0,A.length,none,rfl,rfl,rfl,zS _,zm _,fun i a h=>absurd h (Nat.not_lt_zero _),fun i a h e=>?_⟩,?_⟩
  ·rw[List.getElem?_eq_none h] at e;cases e
  rintro m aG S' ⟨lo,hi,o6,rfl,rfl,rfl,h1,h2,b1,b2⟩
  refine !!!⟨bK (fun h=>?_) (fun h=>?_)⟩
  ·have h:lo<hi:=by have:=zA h;lia
   have hm:(lo+hi) / 2<A.length:=by lia
   have em:=zf hm
   generalize A[(lo+hi) / 2]=r at em
   have xt:=zC em
   have ed:(((lo:Nat):Int)+((hi:Nat):Int)) / 2=(((lo+hi) / 2:Nat):Int):=by lia
   have mono:=hA.mono hg hp hv
   refine !!⟨⟨by decide,by decide⟩,?_⟩
   rw[ed]
   refine !!!!!⟨_,aq r,hl,df (by rw[zp,em];rfl),cs,ps,wy,r,rfl,hg,hp,h8,hA.rg.1 r xt,_,rfl,cs,ps,wy,r,g,rfl,hg,hp,hA.rg.1 r xt,hA.ky r xt,hv,_,rfl,bK (fun z=>?_) (fun z=>?_)⟩
   ·refine !⟨hi - ((lo+hi) / 2+1),by lia,(lo+hi) / 2+1,hi,_,rfl,rfl,rfl,by lia,h2,fun i a RH ei=>?_,b2⟩
    rcases Nat.lt_or_ge i ((lo+hi) / 2) with eE|Uk
    ·exact List.pairwise_iff_getElem.mp mono i _ (ze.mp ei).1 hm eE |> fun k=>by
      rw[(ze.mp ei).2,(ze.mp em).2] at k
      exact k z
    ·have:i=(lo+hi) / 2:=by lia
     subst this
     rw[em] at ei;cases ei;exact z
   ·refine !⟨(lo+hi) / 2 - lo,by lia,lo,(lo+hi) / 2,_,rfl,rfl,rfl,by lia,by lia,b1,fun i a RH ei=>?_⟩
    rcases Nat.lt_or_ge ((lo+hi) / 2) i with eE|Uk
    ·cases qa:gP cs ps wy g a with
     |false=>rfl
     |true =>
      have k:=List.pairwise_iff_getElem.mp mono _ i hm (ze.mp ei).1 eE
      rw[(ze.mp ei).2,(ze.mp em).2] at k
      exact tf (k qa) z
    ·have:i=(lo+hi) / 2:=by lia
     subst this
     rw[em] at ei;cases ei;exact z
  ·have h:lo=hi:=by have:=zO h;lia
   subst h
   have:=Bv (hA.mono hg hp hv) h2 b1 b2
   subst this
   exact fo !⟨rfl⟩
 ·rintro aG S' ⟨o6,rfl,rfl⟩
  exact !⟨fo q⟩
def seg{α:Type}(A:List α)(b e:Nat):List α:=(A.drop b).take (e - b)
theorem vK(h:b≤e)(h2:e≤A.length):(seg A b e).length=e - b:=by
 unfold seg;rw[yq,List.length_drop];omega
theorem C7(h:i<e - b):(seg A b e)[i]?=A[b+i]?:=by
 unfold seg;rw[List.getElem?_take,if_pos h,List.getElem?_drop]
theorem pU(h:b≤e)(h2:e≤A.length):cR (A.map aq) (some ((b:Nat):Int)) (some ((e:Nat):Int))=(seg A b e).map aq:=by
 unfold cR seg
 rw[HT.sIx_nat,HT.sIx_nat,zb,Nat.min_eq_left h2,Nat.min_eq_left (zI h h2),List.map_take,List.map_drop]
def Fe(p:Addr)(b c:Nat):D:=.tup [.ref p,.int (b:Nat),.int (c:Nat)]
def j6(cs:List (Str×Str))(ps:List Part)(wy:Str)(A:List Row)(n:Nat):Option pT→Nat
 |none=>n
 |some g=>A.countP (gP cs ps wy g)
theorem HN(h:n≤A.length):∀b,j6 cs ps wy A n b≤A.length
 |none=>h
 |some _=>List.countP_le_length
structure Ir(cs:List (Str×Str))(ps:List Part)(wy:Str)(n:Nat)(d:D)(rows A:List Row):Prop where
 an:An cs ps wy A
 pm:A.Perm (rows.filter fun r=>aU cs r n d)
theorem Ir.one(hg:Gd cs)(hp:Pin cs ps)(h:Ir cs ps wy n d rows A)(h':Ir cs ps wy n d rows A'):A=A' :=
 Ks hg hp h'.an.rg h.an.pw h'.an.pw (h.pm.trans h'.pm.symm)
def KJ(rows:List Row):Prop:=∀r∈rows,r.1∈KS
theorem Bz{cs:List (Str×Str)}{ps:List Part}{wy:Str}{n:Nat}{d:D}{rows A:List Row}(hr:Rg cs rows)(hk:KJ rows)(pm:A.Perm (rows.filter fun r=>aU cs r n d))(pw:A.Pairwise fun a b=>cL cs wy ps a b=true):Ir cs ps wy n d rows A :=
 ⟨⟨(hr.sub List.filter_sublist).perm pm,fun r h=>hk r (yf.mp (pm.mem_iff.mp h)).1,pw⟩,pm⟩
def KL(A:List Row)(b n:Nat):Nat:=min (b+n) A.length
def OU(t:fG)(f:List (Str×Str)→List Part→Str→List Row→Option pT→Nat→Nat×Nat):iL:=fun ds S R _=>∃(a:Addr) (cs:List (Str×Str)) (ps:List Part) (wy:Str) (d m:D) (n:Nat) (b:Option pT) (rows:List Row),ds=[.ref a,cM ps wy,d,.int (n:Nat),Bw b,m]∧Gd cs∧Og cs ps wy∧Sg cs 4 d∧1≤n∧n≤1000∧Bg cs ps b∧Vw t.ao S a cs m rows∧KJ rows∧Tb t S ∧
 ∀(A:List Row) (p:Addr),Ir cs ps wy 4 d rows A→S p=none→R (Fe p (f cs ps wy A b n).1 (A.length - (f cs ps wy A b n).2)) (S.set p (.lst ((seg A (f cs ps wy A b n).1 (f cs ps wy A b n).2).map aq)))
def vL(cs:List (Str×Str))(ps:List Part)(wy:Str)(A:List Row)(b:Option pT)(n:Nat):Nat×Nat:=(j6 cs ps wy A 0 b,KL A (j6 cs ps wy A 0 b) n)
def vM(cs:List (Str×Str))(ps:List Part)(wy:Str)(A:List Row)(b:Option pT)(n:Nat):Nat×Nat:=(j6 cs ps wy A A.length b - n,j6 cs ps wy A A.length b)
theorem vN{S:av}{p q:Addr}{c e:Ce}(h:S q=none)(hp:S p=none)(hn:q≠p):Sub (S.set q e) ((S.set p c).set q e):=fun b x hb=>by
 by_cases z:b=q
 ·subst z;rw[aa] at hb ⊢;exact hb
 ·rw[ag z] at hb ⊢
  rw[ag (gW hb hp)];exact hb
inductive HP (t:fG) (ds:List D) (S:av) (R:KD) (Z:KX):Prop where
 |mk (a:Addr) (cs:List (Str×Str)) (ps:List Part) (wy:Str) (d m:D) (f g:Option pT) (rows:List Row) (h0:ds=[.ref a,cM ps wy,d,Bw f,Bw g,m]) (h1:Gd cs) (h2:Og cs ps wy) (h3:Sg cs 4 d) (h4:Bg cs ps f) (h5:Bg cs ps g) (h6:Vw t.ao S a cs m rows) (h7:KJ rows) (h8:Tb t S) (h9:∀(A:List Row) (p:Addr),Ir cs ps wy 4 d rows A→S p=none→R (.ref p) (S.set p (.lst (cR (A.map aq) (some ((j6 cs ps wy A 0 f:Nat):Int)) (some ((j6 cs ps wy A A.length g:Nat):Int)))))):HP t ds S R Z
inductive jC (ds:List D) (S:av) (R:KD) (Z:KX):Prop where
 |mk (l:Addr) (A:List Row) (b e:Nat) (h0:ds=[.ref l,.int (b:Nat),.int (e:Nat)]) (h1:S l=some (.lst (A.map aq))) (h2:b≤e) (h3:e≤A.length) (h4:∀p,S p=none→R (Fe p b (A.length - e)) (S.set p (.lst ((seg A b e).map aq)))):jC ds S R Z
theorem iF(T:Txt w K mg t):Ok P w base T.eQ 1 jC:=by
 refine T.eQ.F.bU pq ?_
 rintro _ _ _ _ _ _ _ S R Z hr ⟨l,A,b,e,e0,hl,h1,h2,q⟩
 subst e0
 refine⟨_,(s1 (sr (bD (ac (Sk (dv 0) (o1 (dv 1)) (o1 (dv 2))) (ac (dv 1) (ac (bo lV hr.u (cb aT T.aO aE (ac (dv 0) an)) (dv 2)) an)))))),?_⟩
 refine !!!!!⟨_,hl,fun p hp=>?_⟩
 rw[pU h1 h2]
 refine !!!⟨.inl ⟨_,(Sub.new hp) _ _ hl,_,rfl,hX,?_⟩⟩
 rw[zb,show ((A.length:Nat):Int) - ((e:Nat):Int)=((A.length - e:Nat):Int) by omega]
 exact fo (q p hp)
inductive oS (ds:List D) (S:av) (R:KD) (Z:KX):Prop where
 |mk (l:Addr) (A:List Row) (b n:Nat) (h0:ds=[.ref l,.int (b:Nat),.int (n:Nat)]) (h1:S l=some (.lst (A.map aq))) (h2:b≤A.length) (h3:∀p,S p=none→R (Fe p b (A.length - KL A b n)) (S.set p (.lst ((seg A b (KL A b n)).map aq)))):oS ds S R Z
theorem vO(T:Txt w K mg t):Ok P w base T.nN 2 oS:=by
 refine T.nN.F.bU vf ?_
 rintro _ _ _ _ _ _ _ S R Z hr ⟨l,A,b,n,e0,hl,h1,q⟩
 subst e0
 refine⟨_,(s1 (sr (aI T.eQ (iF T) hr (ac (dv 0) (ac (dv 1) (ac (cb Lx T.LU F_ (ac (bo bc hr.u (dv 1) (dv 2)) (ac (cb aT T.aO aE (ac (dv 0) an)) an))) an)))))),?_⟩
 refine !!!!!!⟨.inl ⟨_,hl,_,_,rfl,?_⟩⟩
 rw[zb]
 have e1:(if decide (((A.length:Nat):Int)<((b:Nat):Int)+((n:Nat):Int))=true then ((A.length:Nat):Int) else ((b:Nat):Int)+((n:Nat):Int))=((KL A b n:Nat):Int):=by
  unfold KL
  by_cases h:((A.length:Nat):Int)<((b:Nat):Int)+((n:Nat):Int)
  ·rw[if_pos (zq h)];omega
  ·rw[if_neg (by rw[zk h];exact zd)];omega
 rw[e1]
 exact⟨l,A,b,KL A b n,rfl,hl,by unfold KL;omega,by unfold KL;omega,fun p hp=>fo (q p hp)⟩
inductive mS (ds:List D) (S:av) (R:KD) (Z:KX):Prop where
 |mk (l:Addr) (A:List Row) (e n:Nat) (h0:ds=[.ref l,.int (e:Nat),.int (n:Nat)]) (h1:S l=some (.lst (A.map aq))) (h2:e≤A.length) (h3:∀p,S p=none→R (Fe p (e - n) (A.length - e)) (S.set p (.lst ((seg A (e - n) e).map aq)))):mS ds S R Z
theorem sU(T:Txt w K mg t):Ok P w base T.k9 2 mS:=by
 refine T.k9.F.bU sJ ?_
 rintro _ _ _ _ _ _ _ S R Z hr ⟨l,A,e,n,e0,hl,h1,q⟩
 subst e0
 refine⟨_,(s1 (sr (aI T.eQ (iF T) hr (ac (dv 0) (ac (cb Rq T.So Oa (ac (bo lV hr.u (dv 1) (dv 2)) (ac di an))) (ac (dv 1) an)))))),?_⟩
 refine !!!⟨_,_,rfl,?_⟩
 have e1:(if decide (((e:Nat):Int) - ((n:Nat):Int)<0)=true then (0:Int) else ((e:Nat):Int) - ((n:Nat):Int))=((e - n:Nat):Int):=by
  by_cases h:((e:Nat):Int) - ((n:Nat):Int)<0
  ·rw[if_pos (zq h)];omega
  ·rw[if_neg (by rw[zk h];exact zd)];omega
 rw[e1]
 exact !⟨l,A,e - n,e,rfl,hl,Nat.sub_le _ _,h1,fun p hp=>fo (q p hp)⟩
def Md(f:List (Str×Str)→List Part→Str→List Row→Option pT→Nat→Nat×Nat):iL:=fun ds S R _=>∃(cs:List (Str×Str)) (ps:List Part) (wy:Str) (l:Addr) (A:List Row) (n:Nat) (b:Option pT),ds=[.tup (cs.map az),cM ps wy,.ref l,.int (n:Nat),Bw b]∧Gd cs∧Pin cs ps∧ps.length≤8∧S l=some (.lst (A.map aq))∧An cs ps wy A∧Bg cs ps b ∧
 ∀p,S p=none→R (Fe p (f cs ps wy A b n).1 (A.length - (f cs ps wy A b n).2)) (S.set p (.lst ((seg A (f cs ps wy A b n).1 (f cs ps wy A b n).2).map aq)))
theorem sV(T:Txt w K mg t):Ok P w base T.k8 6 (Md vL):=by
 refine T.k8.F.bU ko ?_
 rintro _ _ _ _ _ _ _ S R Z hr ⟨cs,ps,wy,l,A,n,b,e0,hg,hp,h8,hl,hA,hb,q⟩
 subst e0
 refine⟨_,(sc (cn (i:=5) ko.nd (Lv (bh i4 hr.u (dv 4) dn) di (aI T.cY (dA T) hr (ac (dv 0) (ac (dv 1) (ac (dv 2) (ac (dv 4) an))))))) (s1 (sr (aI T.nN (vO T) hr (ac (dv 2) (ac (dv 5) (ac (dv 3) an))))))),?_⟩
 cases b with
 |none=>exact !!⟨cI !!!⟨l,A,0,n,rfl,hl,zS _,fun p hp=>fo (q p hp)⟩⟩
 |some g=>exact !!⟨bf !!!!⟨cs,ps,wy,A,l,g,rfl,hg,hp,h8,hl,hA,hb g rfl,_,rfl,_,rfl,_,rfl,l,A,_,n,rfl,hl,List.countP_le_length,fun p hp=>fo (q p hp)⟩⟩
theorem pB(T:Txt w K mg t):Ok P w base T.hG 6 (Md vM):=by
 refine T.hG.F.bU iz ?_
 rintro _ _ _ _ _ _ _ S R Z hr ⟨cs,ps,wy,l,A,n,b,e0,hg,hp,h8,hl,hA,hb,q⟩
 subst e0
 refine⟨_,(sc (cn (i:=5) iz.nd (Lv (bh i4 hr.u (dv 4) dn) (cb aT T.aO aE (ac (dv 2) an)) (aI T.cY (dA T) hr (ac (dv 0) (ac (dv 1) (ac (dv 2) (ac (dv 4) an))))))) (s1 (sr (aI T.k9 (sU T) hr (ac (dv 2) (ac (dv 5) (ac (dv 3) an))))))),?_⟩
 cases b with
 |none =>
  refine !!⟨cI !!⟨.inl ⟨_,hl,?_⟩⟩⟩
  rw[zb]
  exact !!!⟨l,A,A.length,n,rfl,hl,zm _,fun p hp=>fo (q p hp)⟩
 |some g=>exact !!⟨bf !!!!⟨cs,ps,wy,A,l,g,rfl,hg,hp,h8,hl,hA,hb g rfl,_,rfl,_,rfl,_,rfl,l,A,_,n,rfl,hl,List.countP_le_length,fun p hp=>fo (q p hp)⟩⟩
theorem lH(T:Txt w K mg t)(B:Bm mg base):Ok P w base T.l_ 10 (OU t vL):=by
 refine T.l_.F.bU A5 ?_
 rintro _ _ _ _ _ _ _ S R Z hr ⟨a,cs,ps,wy,d,m,n,b,rows,e0,hg,ho,hd,h1,h2,hb,hv,hk,ht,q⟩
 subst e0
 obtain⟨F,dl,rs,hS,hn,L8,PM⟩:=hv.sh
 obtain⟨ld,lr,ra,h,_⟩:=id hS
 refine⟨_,(sc (se (aI T.hU (kF T) hr (ac (kP (dv 0) T.aj T.aC (aW T) hr) (ac (dv 1) (ac (dv 2) (ac (dv 3) (ac (dv 4) an))))))) (s1 (sr (aI T.k8 (sV T) hr (ac (kP (dv 0) T.aj T.aC (aW T) hr) (ac (dv 1) (ac (aI T.cy (dy T B) hr (ac (dv 0) (ac (dv 1) (ac (dv 2) (ac (dv 5) an))))) (ac (dv 3) (ac (dv 4) an))))))))),?_⟩
 refine !⟨a,_,rfl,h.ins,rfl,a,F,cs,dl,rs,rfl,hS,_,rfl,_,rfl,_,rfl,_,rfl,cs,ps,wy,d,n,b,rfl,hg,ho,hd,by omega,by omega,hb,?_⟩
 refine !⟨a,_,rfl,h.ins,rfl,a,F,cs,dl,rs,rfl,hS,_,rfl,_,rfl,_,rfl,_,rfl,_,rfl,a,cs,ps,wy,d,m,rows,rfl,hg,ho,hd,hv,ht,fun A l pm pw hl=>?_⟩
 have an:=Bz hv.rg hk pm pw
 refine !!⟨cs,ps,wy,l,A,n,b,rfl,hg,ho.pin,ho.len,aa,an.an,hb,fun p hp=>?_⟩
 have dD:p≠l:=fun e=>by rw[e,aa] at hp;cases hp
 have Me:S p=none:=by rw[ag dD] at hp;exact hp
 exact⟨_,vN Me hl dD,q A p an Me⟩
theorem mT(T:Txt w K mg t)(B:Bm mg base):Ok P w base T.jI 10 (OU t vM):=by
 refine T.jI.F.bU ve ?_
 rintro _ _ _ _ _ _ _ S R Z hr ⟨a,cs,ps,wy,d,m,n,b,rows,e0,hg,ho,hd,h1,h2,hb,hv,hk,ht,q⟩
 subst e0
 obtain⟨F,dl,rs,hS,hn,L8,PM⟩:=hv.sh
 obtain⟨ld,lr,ra,h,_⟩:=id hS
 refine⟨_,(sc (se (aI T.hU (kF T) hr (ac (kP (dv 0) T.aj T.aC (aW T) hr) (ac (dv 1) (ac (dv 2) (ac (dv 3) (ac (dv 4) an))))))) (s1 (sr (aI T.hG (pB T) hr (ac (kP (dv 0) T.aj T.aC (aW T) hr) (ac (dv 1) (ac (aI T.cy (dy T B) hr (ac (dv 0) (ac (dv 1) (ac (dv 2) (ac (dv 5) an))))) (ac (dv 3) (ac (dv 4) an))))))))),?_⟩
 refine !⟨a,_,rfl,h.ins,rfl,a,F,cs,dl,rs,rfl,hS,_,rfl,_,rfl,_,rfl,_,rfl,cs,ps,wy,d,n,b,rfl,hg,ho,hd,by omega,by omega,hb,?_⟩
 refine !⟨a,_,rfl,h.ins,rfl,a,F,cs,dl,rs,rfl,hS,_,rfl,_,rfl,_,rfl,_,rfl,_,rfl,a,cs,ps,wy,d,m,rows,rfl,hg,ho,hd,hv,ht,fun A l pm pw hl=>?_⟩
 have an:=Bz hv.rg hk pm pw
 refine !!⟨cs,ps,wy,l,A,n,b,rfl,hg,ho.pin,ho.len,aa,an.an,hb,fun p hp=>?_⟩
 have dD:p≠l:=fun e=>by rw[e,aa] at hp;cases hp
 have Me:S p=none:=by rw[ag dD] at hp;exact hp
 exact⟨_,vN Me hl dD,q A p an Me⟩
theorem lI(T:Txt w K mg t)(B:Bm mg base):Ok P w base T.ma 10 (HP t):=by
 refine T.ma.F.bU fi ?_
 rintro _ _ _ _ _ _ _ S R Z hr ⟨a,cs,ps,wy,d,m,f,g,rows,e0,hg,ho,hd,hf,X7,hv,hk,ht,q⟩
 subst e0
 obtain⟨F,dl,rs,hS,hn,L8,PM⟩:=hv.sh
 obtain⟨ld,lr,ra,h,_⟩:=id hS
 refine⟨_,(sc (cn (i:=6) fi.nd (kP (dv 0) T.aj T.aC (aW T) hr)) (sc (se (aI T.fP (jy T) hr (ac (dv 6) (ac (dv 1) an)))) (sc (se (aI T.dZ (fu T) hr (ac (dv 6) (ac (dv 2) an)))) (sc (se (aI T.d_ (fA T) hr (ac (dv 6) (ac (dv 1) (ac (dv 3) an))))) (sc (se (aI T.d_ (fA T) hr (ac (dv 6) (ac (dv 1) (ac (dv 4) an))))) (sc (cn (i:=7) fi.nd (aI T.cy (dy T B) hr (ac (dv 0) (ac (dv 1) (ac (dv 2) (ac (dv 5) an)))))) (sc (cn (i:=8) fi.nd (Lv (bh i4 hr.u (dv 3) dn) di (aI T.cY (dA T) hr (ac (dv 6) (ac (dv 1) (ac (dv 7) (ac (dv 3) an))))))) (sc (cn (i:=9) fi.nd (Lv (bh i4 hr.u (dv 4) dn) (cb aT T.aO aE (ac (dv 7) an)) (aI T.cY (dA T) hr (ac (dv 6) (ac (dv 1) (ac (dv 7) (ac (dv 4) an))))))) (s1 (sr (Sk (dv 7) (o1 (dv 8)) (o1 (dv 9))))))))))))),?_⟩
 refine !⟨a,_,rfl,h.ins,rfl,a,F,cs,dl,rs,rfl,hS,?_⟩
 refine !!⟨cs,ps,wy,rfl,hg,ho.tx,fun _=>?_,fun z=>tf ho.ok z⟩
 refine !!⟨cs,d,rfl,hg,hd,?_⟩
 refine !!!⟨cs,ps,wy,f,rfl,hg,ho.pin,ho.len,hf,?_⟩
 refine !!!⟨cs,ps,wy,g,rfl,hg,ho.pin,ho.len,X7,?_⟩
 refine !!!!⟨a,cs,ps,wy,d,m,rows,rfl,hg,ho,hd,hv,ht,fun A l pm pw hl=>?_⟩
 have an:=Bz hv.rg hk pm pw
 have fin:∀p,(S.set l (.lst (A.map aq))) p=none→Fo (((S.set l (.lst (A.map aq))).set p (.lst (cR (A.map aq) (some ((j6 cs ps wy A 0 f:Nat):Int)) (some ((j6 cs ps wy A A.length g:Nat):Int)))))) (R (.ref p)):=fun p hp=>by
  have dD:p≠l:=fun e=>by rw[e,aa] at hp;cases hp
  have Me:S p=none:=by rw[ag dD] at hp;exact hp
  exact⟨_,vN Me hl dD,q A p an Me⟩
 cases f with
 |none =>
  refine !!⟨cI ?_⟩
  cases g with
  |none =>
   refine !!⟨cI !!⟨.inl ⟨_,aa,?_⟩⟩⟩
   rw[zb]
   exact !!!!!⟨_,aa,fin⟩
  |some g=>exact !!⟨bf !!!!⟨cs,ps,wy,A,l,g,rfl,hg,ho.pin,ho.len,aa,an.an,X7 g rfl,_,rfl,_,rfl,_,rfl,_,rfl,_,rfl,_,aa,fin⟩⟩
 |some f =>
  refine !!⟨bf !!!!⟨cs,ps,wy,A,l,f,rfl,hg,ho.pin,ho.len,aa,an.an,hf f rfl,?_⟩⟩
  cases g with
  |none =>
   refine !!⟨cI !!⟨.inl ⟨_,aa,?_⟩⟩⟩
   rw[zb]
   exact !!!!!⟨_,aa,fin⟩
  |some g=>exact !!⟨bf !!!!⟨cs,ps,wy,A,l,g,rfl,hg,ho.pin,ho.len,aa,an.an,X7 g rfl,_,rfl,_,rfl,_,rfl,_,rfl,_,rfl,_,aa,fin⟩⟩
structure Qs(t:fG)(S:av)(a:Addr)(cs:List (Str×Str))(ps:List Part)(wy:Str)(d m:D)(rows:List Row):Prop where
 g:Gd cs
 o:Og cs ps wy
 s:Sg cs 4 d
 v:Vw t.ao S a cs m rows
 k:KJ rows
 t:Tb t S
theorem Qs.sub{t:fG}{S S':av}{a:Addr}{cs:List (Str×Str)}{ps:List Part}{wy:Str}{d m:D}{rows:List Row}(h:Qs t S a cs ps wy d m rows)(b:Sub S S'):Qs t S' a cs ps wy d m rows:=⟨h.g,h.o,h.s,h.v.sub b,h.k,h.t.sub b⟩
abbrev S7(t:fG):iL:=lB t
section
variable{t:fG}{S:av}{a:Addr}{cs:List (Str×Str)}{ps:List Part}{wy:Str}{d m:D}{rows:List Row}{R:KD}{Z:KX}(hq:Qs t S a cs ps wy d m rows)
include hq
theorem Qs.pg(b:Option pT)(h1:1≤n)(h2:n≤1000)(hb:Bg cs ps b)
  (k:∀(A:List Row) (p:Addr),Ir cs ps wy 4 d rows A→S p=none→R (Fe p (f cs ps wy A b n).1 (A.length - (f cs ps wy A b n).2)) (S.set p (.lst ((seg A (f cs ps wy A b n).1 (f cs ps wy A b n).2).map aq)))):W (OU t f) [.ref a,cM ps wy,d,.int (n:Nat),Bw b,m] S R Z :=
 ⟨a,cs,ps,wy,d,m,n,b,rows,rfl,hq.g,hq.o,hq.s,h1,h2,hb,hq.v,hq.k,hq.t,k⟩
theorem Qs.st(f g:Option pT)(hf:Bg cs ps f)(hg:Bg cs ps g)(k:∀(A:List Row) (p:Addr),Ir cs ps wy 4 d rows A→S p=none→R (.ref p) (S.set p (.lst (cR (A.map aq) (some ((j6 cs ps wy A 0 f:Nat):Int)) (some ((j6 cs ps wy A A.length g:Nat):Int)))))):W (HP t) [.ref a,cM ps wy,d,Bw f,Bw g,m] S R Z :=
 ⟨a,cs,ps,wy,d,m,f,g,rows,rfl,hq.g,hq.o,hq.s,hf,hg,hq.v,hq.k,hq.t,k⟩
theorem Qs.ct(he:Sg cs 4 e)(k:R (.int ((rows.filter fun r=>aU cs r 4 e).length:Nat)) S):W (S7 t) [.ref a,e,m] S R Z:=⟨a,cs,e,m,rows,rfl,hq.g,he,hq.v,k⟩
end
theorem KN{S:av}{a b:Addr}{ds:List D}{R:KD}(e1:S a=some (.lst ds))(e2:S b=some (.lst []))(h:∀d∈ds,Ly S 60 d)(q:R (.bl (!ds.isEmpty)) S):E7 true (.ref a) (.ref b) S R:=by
 obtain⟨ps,k1,k2,k3,k4⟩:=Ly.all h
 refine⟨.list ps,.list [],⟨ds,ps,e1,rfl,k1⟩,⟨[],[],e2,rfl,by simp only [DpAll]⟩,by simp only [PyData.canLay0];exact k2,by simp only [PyData.canLay0,PyData.canLayAll0],.inl (by simp only [PyData.depth];lia),?_⟩
 rw[if_pos rfl,xA,show ps.isEmpty=ds.isEmpty by cases ps <;> cases ds <;> first|rfl|cases k4];exact q
theorem KO{cs:List (Str×Str)}{rows:List Row}(hr:Rg cs rows)(hk:KJ rows){S:av} : ∀d∈rows.map aq,Ly S 60 d:=fun d hd=>by
 obtain⟨r,h,rfl⟩:=zg.mp hd
 exact HK (hk r h) (hr.1 r h)
def pV(cs:List (Str×Str))(ps:List Part)(sd:Str)(r:Row):pT:=(ps.map fun p=>ak cs r.2 p.1,r.1,sd)
theorem rL{cs:List (Str×Str)}(hg:Gd cs){ps:List Part}(hp:Pin cs ps){r:Row}(hw:Wg cs r.2)(hk:r.1∈KS){sd:Str}(hs:xQ sd=true):Gp cs ps (pV cs ps sd r):=⟨rG hg hp hw,hk,hs⟩
inductive uj (ds:List D) (S:av) (R:KD) (Z:KX):Prop where
 |mk (cs:List (Str×Str)) (ps:List Part) (wy:Str) (p:Addr) (rows:List Row) (b c:Nat) (h0:ds=[.tup (cs.map az),cM ps wy,Fe p b c]) (h1:Gd cs) (h2:Pin cs ps) (h3:ps.length≤8) (h4:S p=some (.lst (rows.map aq))) (h5:(∀r∈rows,Wg cs r.2)) (h6:(rows=[]→R .aw S)) (h7:∀r0 r1,rows[0]?=some r0→rows[rows.length - 1]?=some r1→R (.tup [sS (pV cs ps "ahead" r0),sS (pV cs ps "behind" r1)]) S):uj ds S R Z
theorem BA(T:Txt w K mg t):Ok P w base T.u1 4 uj:=by
 refine T.u1.F.bU qW ?_
 rintro _ _ _ _ _ _ _ S R Z hr ⟨cs,ps,wy,p,rows,b,c,e0,hg,hp,h8,hS,hw,q1,q2⟩
 subst e0
 refine⟨_,(sc (cn (i:=3) qW.nd (ix hr.u (dv 2) di)) (sc (si (bh br hr.u (cb aT T.aO aE (ac (dv 3) an)) di) (s1 (sr dn)) s0) (s1 (sr (bD (ac (bD (ac (aI T.jg (jB T) hr (ac (dv 0) (ac (dv 1) (ac (ix hr.u (dv 3) di) an)))) (ac ds an))) (ac (bD (ac (aI T.jg (jB T) hr (ac (dv 0) (ac (dv 1) (ac (ix hr.u (dv 3) (NJ di)) an)))) (ac ds an))) an))))))),?_⟩
 refine !!!!⟨.inl ⟨_,hS,_,rfl,?_⟩⟩
 rw[zb]
 refine bK (fun h=>?_) (fun h=>?_)
 ·have h:((rows.length:Nat):Int)=0:=zA h
  exact fo (q1 (List.length_eq_zero_iff.mp (by lia)))
 ·have h:¬ ((rows.length:Nat):Int)=0:=zO h
  have h0:0<rows.length:=by lia
  have hl:rows.length - 1<rows.length:=by lia
  have e0:=zf h0
  have e1:=zf hl
  generalize rows[0]=r0 at e0
  generalize rows[rows.length - 1]=r1 at e1
  have w0:=hw r0 (zC e0)
  have w1:=hw r1 (zC e1)
  have ea:uo (rows.map aq) (-1)=some (aq r1):=by
   unfold uo Ih
   rw[zb,if_neg (by decide),if_pos (by lia),show ((-1:Int)+((rows.length:Nat):Int)).toNat=rows.length - 1 by lia]
   show (rows.map aq)[rows.length - 1]?=_
   rw[zp,e1];rfl
  refine !!!⟨_,aq r0,hS,df (j:=0) (by rw[zp,e0];rfl),cs,ps,wy,r0,rfl,hg,hp,h8,w0,bH,?_⟩
  refine !!!!⟨_,aq r1,hS,ea,cs,ps,wy,r1,rfl,hg,hp,h8,w1,bH,bH,?_⟩
  exact fo (q2 r0 r1 e0 e1)
inductive xS (ds:List D) (S:av) (R:KD) (Z:KX):Prop where
 |mk (l) (h0:ds=[.ref l]) (h1:S l=some .well) (h2:∀n:Nat,1≤n→n≤1000→R (.int (n:Nat)) S):xS ds S R Z
theorem KP(T:Txt w K mg t):Ok P w base T.AX 2 xS:=by
 refine T.AX.F.bU EA ?_
 rintro _ _ _ _ _ _ _ S R Z hr ⟨l,e,hw,q⟩
 subst e
 refine⟨_,(s1 (sr (Eb (ix hr.u (dS (ac di (ac di (ac di (ac (bo bc hr.u di (aI T.aR (bI T) hr (ac (dv 0) (ac di an)))) (ac (bo bc hr.u di (aI T.aR (bI T) hr (ac (dv 0) (ac di an)))) (ac di an))))))) (aI T.aR (bI T) hr (ac (dv 0) (ac di an))))))),?_⟩
 refine !⟨l,_,rfl,(by decide),(by decide),hw,fun n1 a0 a1=>!⟨l,_,rfl,(by decide),(by decide),hw,fun n2 b0 b1=>⟨Xr,fun p hp=>!⟨l,_,rfl,(by decide),(by decide),wl hw hp,fun n h0 h1=>cF h0 h1 hp fun d hd=>?_⟩⟩⟩⟩
 have a1:n1<9:=a1
 have b1:n2<40:=b1
 have hd:d∈[D.int 1,.int 2,.int 3,.int (1+n1),.int (13+n2),.int 1000]:=hd
 have one:∀i:Int,d=.int i→1≤i→i≤1000→Fo S (R d):=fun i e h1 h2=>by
  obtain⟨m,rfl⟩:=Int.eq_ofNat_of_zero_le (show 0≤i by lia)
  rw[e]
  exact fo (q m (by lia) (by lia))
 simp only [zi,zK,or_false] at hd
 rcases hd with h|h|h|h|h|h <;> exact one _ h (by lia) (by lia)
inductive C8 (ds:List D) (S:av) (R:KD) (Z:KX):Prop where
 |mk (l cs ps wy lr rows) (h0:ds=[.ref l,.tup (cs.map az),cM ps wy,.ref lr]) (h1:Gd cs) (h2:Og cs ps wy) (h3:S l=some .well) (h4:S lr=some (.lst (rows.map aq))) (h5:Rg cs rows) (h6:KJ rows) (h7:rows.length≤40) (h8:∀b,Bg cs ps b→R (Bw b) S):C8 ds S R Z
theorem KQ(T:Txt w K mg t):Ok P w base T.G6 4 C8:=by
 refine T.G6.F.bU jl ?_
 rintro _ _ _ _ _ _ _ S R Z hr ⟨l,cs,ps,wy,lr,rows,e,hg,ho,hw,Co,KR,hk,UA,q⟩
 subst e
 refine⟨_,(sc (cn (i:=4) jl.nd (aI T.aR (bI T) hr (ac (dv 0) (ac di an)))) (sc (cn (i:=5) jl.nd (Eb (ix hr.u (dS (ac ds (ac ds an))) (aI T.aR (bI T) hr (ac (dv 0) (ac di an)))))) (sc (si (bh br hr.u (dv 4) di) (s1 (sr dn)) s0) (sc (wO (si (twd (twand (bh sy hr.u (dv 4) di) (tw1 (bh fF hr.u (dv 3) (dS an))))) (sc (cn (i:=6) jl.nd (ix hr.u (dv 3) (aI T.aR (bI T) hr (ac (dv 0) (ac (cb aT T.aO aE (ac (dv 3) an)) an))))) (s1 (sr (bD (ac (bD (ac (ct eO T.bj aV (ac (sA (N:=["_law_part","_law_columns_here","_law_row"]) (src:=[none,some 1,some 6]) (kM (ae CA) ["_law_well_here","_law_columns_here","_law_order_here","_law_rows","_law_way","_law_side","_law_row","_law_kinds"] rfl rfl (by trivial)) (Fc (ix hr.u (dv 2) di)) (qz (show (["_law_part","_law_columns_here","_law_row"]:List Str).Nodup by trivial)) (ba rfl) bb (fun _ _ _ _ _=>rQ) (fun _ _ _ _ _=>(aI T.JZ (L9 T) hr (ac (dv 1) (ac (dv 2) (ac (ix hr.u (dv 0) di) an)))))) an)) (ac (ix hr.u (dv 6) di) an))) (ac (dv 5) an)))))) s0)) (sc (cn (i:=7) jl.nd (ct Gz T.G0 B4 (ac (dv 1) an))) (s1 (sr (bD (ac (bD (ac (ct eO T.bj aV (ac (sA (N:=["_law_part","_law_well_here","_law_kinds"]) (src:=[none,some 0,some 7]) (kM (ae CA) ["_law_well_here","_law_columns_here","_law_order_here","_law_rows","_law_way","_law_side","_law_row","_law_kinds"] rfl rfl (by trivial)) (Fc (ix hr.u (dv 2) di)) (qz (show (["_law_part","_law_well_here","_law_kinds"]:List Str).Nodup by trivial)) (ba rfl) bb (fun _ _ _ _ _=>rQ) (fun _ _ _ _ _=>(aI T.mm (rl T) hr (ac (dv 1) (ac (ix hr.u (dv 2) (ix hr.u (dv 0) di)) an))))) an)) (ac (aI T.xj (Bh T) hr (ac (dv 0) an)) an))) (ac (dv 5) an)))))))))),?_⟩
 refine !⟨l,_,rfl,(by decide),(by decide),hw,fun n a0 a1=>⟨bH,fun p hp=>!⟨l,_,rfl,(by decide),(by decide),wl hw hp,fun n2 h0 h1=>cF h0 h1 hp fun d hd=>?_⟩⟩⟩
 obtain⟨sd,rfl,Zs⟩:∃sd:Str,d=.str sd∧xQ sd=true:=by
  have hd:d∈[D.str "ahead",.str "behind"]:=hd
  simp only [zi,zK,or_false] at hd
  rcases hd with h|h
  ·exact⟨_,h,by trivial⟩
  ·exact⟨_,h,by trivial⟩
 have h8:=ho.len
 refine !!⟨bK (fun h=>fo (q none nofun)) (fun h=>?_)⟩
 refine⟨fun aG S'=>aG=[some (D.ref l),some (.tup (cs.map az)),some (cM ps wy),some (.ref lr),some (.int n),some (.str sd),none,none]∧Sub S S',?_,?_⟩
 ·refine !!⟨bK (fun h=>!⟨A8,fun p2 gO=>KN ((Sub.new gO) _ _ Co) aa (KO KR hk) !⟨bK (fun h2=>?_) (fun h2=>?_)⟩⟩) (fun h=>fo ⟨rfl,.refl _⟩)⟩
  ·have h2:(!(rows.map aq).isEmpty)=true:=h2
   have r_:0<rows.length:=by
    cases rows with
    |nil=>cases h2
    |cons _ _=>exact Nat.succ_pos _
   have vY:=(Sub.new (c:=.lst []) gO) _ _ Co
   have pL:=wl (c:=.lst []) hw gO
   refine !!!!⟨.inl ⟨_,vY,?_⟩⟩
   rw[zb]
   refine⟨l,_,rfl,by lia,rj (by lia) (by lia),pL,fun m m0 m1=>?_⟩
   obtain⟨k,rfl⟩:=Int.eq_ofNat_of_zero_le m0
   have YR:k<rows.length:=by lia
   have ek:=zf YR
   generalize rows[k]=r at ek
   have xt:=zC ek
   refine⟨_,aq r,vY,df (by rw[zp,ek];rfl),?_⟩
   refine !!⟨_,.inl rfl,?_⟩
   refine comp_map (fun d=>match d with|.tup (.str z::_)=>ak cs r.2 z|_=>.aw) trivial (by show (ps.map p3).length≤_;rw[zb];lia) (fun d hd Q hQ=>?_) fun p jO=>?_
   ·obtain⟨pt,OT,rfl⟩:=zg.mp hd
    obtain⟨c,hc,ec⟩:=ho.pin pt OT
    refine !!!!⟨cs,r,c,(by rw[ec];rfl),hg,KR.1 r xt,hc,?_⟩
    rw[ec];exact hQ
   ·have e3:(ps.map p3).map (fun d=>match d with|.tup (.str z::_)=>ak cs r.2 z|_=>.aw)=ps.map fun p=>ak cs r.2 p.1:=by rw[zw];rfl
    rw[show (⟨ps.map p3,fun _=>True⟩:E_).xs=ps.map p3 from rfl,e3]
    refine⟨_,_,rfl,.inl aa,_,rfl,_,rfl,bH,_,rfl,bH,S,(Sub.new gO).trans (.new jO),?_⟩
    exact q (some (pV cs ps sd r)) fun g NV=>by cases NV;exact rL hg ho.pin (KR.1 r xt) (hk r xt) Zs
  ·exact fo ⟨rfl,.new gO⟩
 ·rintro aG S' ⟨rfl,sb⟩
  have ek:cs.map az=(cs.map fun c=>(c.1,D.str c.2)).map Cj:=by rw[zw];rfl
  refine !⟨(cs.map fun c=>(c.1,D.str c.2)),by rw[ek],fun pd hpd=>?_⟩
  have g1:=sb.trans (Sub.new (c:=.cQ (f_ (cs.map fun c=>(c.1,D.str c.2)))) hpd)
  have s1:(S'.set pd (.cQ (f_ (cs.map fun c=>(c.1,D.str c.2))))) pd=some (.cQ (f_ (cs.map fun c=>(c.1,D.str c.2)))):=aa
  generalize S'.set pd (.cQ (f_ (cs.map fun c=>(c.1,D.str c.2))))=S1 at g1 s1 ⊢
  refine !!⟨_,.inl rfl,?_⟩
  refine fm (fun d v=>∃z w e,d=.tup [.str z,.str w,.str e]∧Vg (x9 cs z) v) trivial (by show (ps.map p3).length≤_;rw[zb];lia) (fun d hd Q hQ=>?_) fun out Ee p jO=>?_
  ·obtain⟨pt,OT,rfl⟩:=zg.mp hd
   obtain⟨c,hc,ec⟩:=ho.pin pt OT
   have h1:=tQ (cs.map fun c=>(c.1,D.str c.2)) pt.1
   rw[show (cs.map fun c=>(c.1,D.str c.2)).any (fun q=>decide (q.1=pt.1))=true from List.any_eq_true.mpr ⟨_,zg.mpr ⟨c,hc,rfl⟩,zq ec⟩] at h1
   cases q3:bT (f_ (cs.map fun c=>(c.1,D.str c.2))) (.inr pt.1) with
   |none=>rw[q3] at h1;cases h1
   |some d =>
    obtain⟨p',Oo,e1,rfl⟩:=mE _ _ q3
    obtain⟨c',Ig,rfl⟩:=zg.mp Oo
    have e1:c'.1=pt.1:=e1
    have Kg:x9 cs pt.1=c'.2:=by unfold x9;rw[← e1,(rC hg Ig).1];rfl
    refine !!!!⟨_,_,s1,q3,l,_,rfl,?_,g1 _ _ hw,fun v hv=>?_⟩
    ·rcases (hg.2.2 c' Ig).2 with h|h
     ·exact .inl (by show [D.str c'.2]=_;rw[h])
     ·exact .inr (by show [D.str c'.2]=_;rw[h])
    ·obtain⟨k,ek,hv⟩:=hv
     cases ek
     exact hQ v ⟨_,_,_,rfl,by rw[Kg];exact hv⟩
  have hv:Paired (fun k x=>Vg k x) (ps.map fun p=>x9 cs p.1) out:=by
   have:∀{ps:List Part}{out:List D},Paired (fun d v=>∃z w e,d=D.tup [.str z,.str w,.str e]∧Vg (x9 cs z) v) (ps.map p3) out→Paired (fun k x=>Vg k x) (ps.map fun p=>x9 cs p.1) out:=by
    intro ps
    induction ps with
    |nil=>intro out h;cases h;exact .nil
    |cons x ps ih =>
     intro out h
     cases h with
     |cons r t =>
      obtain⟨z,w,e,e1,hv⟩:=r
      injection e1 with e1
      injection e1 with e1 _
      injection e1 with e1
      refine .cons ?_ (ih t)
      show Vg (x9 cs x.1) _
      rw[show x.1=z from e1];exact hv
   exact this Ee
  refine⟨_,_,rfl,.inl aa,?_⟩
  have g2:=g1.trans (Sub.new (c:=.lst out) jO)
  generalize S1.set p (.lst out)=S2 at g2 ⊢
  refine !⟨l,_,rfl,rfl,g2 _ _ hw,fun d hd=>?_⟩
  obtain⟨z,hz,rfl⟩:=hd
  refine⟨bH,_,rfl,bH,S,g2,?_⟩
  exact q (some (out,z,sd)) fun g NV=>by cases NV;exact⟨hv,xw hz,Zs⟩
theorem HQ(hg:Gd cs)(hp:Pin cs ps)(hw:Wg cs r.2)(hk:r.1∈KS):bB (j0 ps wy) (iQ cs ps r) (iQ cs ps r)=0:=(mP vJ (lF hg hp hw hk) (lF hg hp hw hk)).mpr rfl
theorem An.at(hg:Gd cs)(hp:Pin cs ps)(h:An cs ps wy A)(e:A[i]?=some r):A.countP (gP cs ps wy (pV cs ps "ahead" r))=i∧A.countP (gP cs ps wy (pV cs ps "behind" r))=i+1:=by
 have hi:=(ze.mp e).1
 have hr:=zC e
 have lx:=List.pairwise_iff_getElem.mp (h.lex hg hp)
 have lt:∀j a,j<i→A[j]?=some a→bB (j0 ps wy) (iQ cs ps a) (iQ cs ps r)<0:=fun j a hj ej=>by
  have:=lx j i (ze.mp ej).1 hi hj
  rw[(ze.mp ej).2,(ze.mp e).2] at this
  exact this
 have gt:∀j a,i<j→A[j]?=some a→0<bB (j0 ps wy) (iQ cs ps a) (iQ cs ps r):=fun j a hj ej=>by
  have hj':=(ze.mp ej).1
  have:=lx i j hi hj' hj
  rw[(ze.mp ej).2,(ze.mp e).2] at this
  have ha:=zC ej
  exact (xP (lF hg hp (h.rg.1 a ha) (h.ky a ha)) (lF hg hp (h.rg.1 r hr) (h.ky r hr))).mp this
 have me:=HQ (wy:=wy) hg hp (h.rg.1 r hr) (h.ky r hr)
 constructor
 ·refine (Bv (h.mono hg hp (rL hg hp (h.rg.1 r hr) (h.ky r hr) (by trivial))) (yB hi) (fun j a hj ej=>?_) fun j a hj ej=>?_).symm
  ·show (decide (bB (j0 ps wy) (iQ cs ps a) (iQ cs ps r)<0) || _)=true
   rw[zq (lt j a hj ej)];rfl
  ·show (decide (bB (j0 ps wy) (iQ cs ps a) (iQ cs ps r)<0) || (_ && decide (("ahead" : Str) = "behind")))=false
   rw[show decide (("ahead" : Str) = "behind")=false by trivial,Bool.and_false,Bool.or_false,zk]
   rcases Nat.lt_or_ge i j with q|q
   ·have:=gt j a q ej;lia
   ·have:j=i:=by lia
    subst this;rw[e] at ej;cases ej;lia
 ·refine (Bv (h.mono hg hp (rL hg hp (h.rg.1 r hr) (h.ky r hr) (by trivial))) hi (fun j a hj ej=>?_) fun j a hj ej=>?_).symm
  ·show (decide (bB (j0 ps wy) (iQ cs ps a) (iQ cs ps r)<0) || (decide (bB (j0 ps wy) (iQ cs ps a) (iQ cs ps r)=0) && decide (("behind" : Str) = "behind")))=true
   rcases Nat.lt_or_ge j i with q|q
   ·rw[zq (lt j a q ej)];rfl
   ·have:j=i:=by lia
    subst this;rw[e] at ej;cases ej;rw[me];rfl
  ·show (decide (bB (j0 ps wy) (iQ cs ps a) (iQ cs ps r)<0) || (decide (bB (j0 ps wy) (iQ cs ps a) (iQ cs ps r)=0) && decide (("behind" : Str) = "behind")))=false
   have:=gt j a (by lia) ej
   rw[zk (by lia),zk (by lia)];rfl
inductive OV (t:fG) (ds:List D) (S:av) (R:KD) (Z:KX):Prop where
 |mk (a:Addr) (cs:List (Str×Str)) (ps:List Part) (wy:Str) (d m:D) (b:Option pT) (rows:List Row) (h0:ds=[.ref a,cM ps wy,d,Bw b,m]) (h1:Qs t S a cs ps wy d m rows) (h2:Bg cs ps b) (h3:∀(A:List Row),Ir cs ps wy 4 d rows A→R (.int (j6 cs ps wy A 0 b:Nat)) S):OV t ds S R Z
theorem Qs.ah{t:fG}{S:av}{a:Addr}{cs:List (Str×Str)}{ps:List Part}{wy:Str}{d m:D}{rows:List Row}{R:KD}{Z:KX}(hq:Qs t S a cs ps wy d m rows)(b:Option pT)(hb:Bg cs ps b)(k:∀(A:List Row),Ir cs ps wy 4 d rows A→R (.int (j6 cs ps wy A 0 b:Nat)) S):W (OV t) [.ref a,cM ps wy,d,Bw b,m] S R Z:=⟨a,cs,ps,wy,d,m,b,rows,rfl,hq,hb,k⟩
theorem jD(T:Txt w K mg t)(B:Bm mg base):Ok P w base T.hW 11 (OV t):=by
 refine T.hW.F.bU A7 ?_
 rintro _ _ _ _ _ _ _ S R Z hr ⟨a,cs,ps,wy,d,m,b,rows,e0,hq,hb,q⟩
 subst e0
 refine⟨_,(s1 (sr (ix hr.u (aI T.l_ ((lH T B).w) hr (ac (dv 0) (ac (dv 1) (ac (dv 2) (ac di (ac (dv 3) (ac (dv 4) an))))))) di))),?_⟩
 exact !!!!!⟨hq.pg (n:=1) b (zm _) (by decide) hb fun A p hA hp=>!⟨S,.new hp,q A hA⟩⟩
def S8(S:av)(A:List Row)(n:Nat)(d:D):Prop:=∃(p:Addr) (b e:Nat),d=Fe p b (A.length - e)∧b≤e∧e≤A.length∧e - b≤n∧S p=some (.lst ((seg A b e).map aq))
theorem BB:(vL cs ps wy A b n).1≤(vL cs ps wy A b n).2∧(vL cs ps wy A b n).2≤A.length∧(vL cs ps wy A b n).2 - (vL cs ps wy A b n).1≤n:=by
 have:=HN (cs:=cs) (ps:=ps) (wy:=wy) (A:=A) (n:=0) (zS _) b
 unfold vL KL
 dsimp only
 lia
theorem BC:(vM cs ps wy A b n).1≤(vM cs ps wy A b n).2∧(vM cs ps wy A b n).2≤A.length∧(vM cs ps wy A b n).2 - (vM cs ps wy A b n).1≤n:=by
 have:=HN (cs:=cs) (ps:=ps) (wy:=wy) (A:=A) (n:=A.length) (zm _) b
 unfold vM
 dsimp only
 lia
inductive iG (t:fG) (ds:List D) (S:av) (R:KD) (Z:KX):Prop where
 |mk (a:Addr) (cs:List (Str×Str)) (ps:List Part) (wy:Str) (d m:D) (n:Nat) (b:Option pT) (rows:List Row) (h0:ds=[.ref a,cM ps wy,d,.int (n:Nat),Bw b,m]) (h1:Qs t S a cs ps wy d m rows) (h2:1≤n) (h3:n≤1000) (h4:Bg cs ps b) (h5:R (.bl true) S):iG t ds S R Z
theorem rM(T:Txt w K mg t)(B:Bm mg base):Ok P w base T.gm 11 (iG t):=by
 refine T.gm.F.bU cE ?_
 rintro _ _ _ _ _ _ _ S R Z hr ⟨a,cs,ps,wy,d,m,n,b,rows,e0,hq,h1,h2,hb,q⟩
 subst e0
 have hg:=hq.g
 have ho:=hq.o
 refine⟨_,(sc (cn (i:=6) cE.nd (aI T.gA ((fU T).w) hr (ac (dv 0) (ac (dv 2) (ac (dv 5) an))))) (sc (wO (Gs (il (dS (ac (aI T.l_ ((lH T B).w) hr (ac (dv 0) (ac (dv 1) (ac (dv 2) (ac (dv 3) (ac (dv 4) (ac (dv 5) an))))))) (ac (aI T.jI ((mT T B).w) hr (ac (dv 0) (ac (dv 1) (ac (dv 2) (ac (dv 3) (ac (dv 4) (ac (dv 5) an))))))) an)))) (gn (i:=7) cE.nd) (sc (si (twd (twor (bh fF hr.u (bo bc hr.u (bo bc hr.u (ix hr.u (dv 7) di) (cb aT T.aO aE (ac (ix hr.u (dv 7) di) an))) (ix hr.u (dv 7) di)) (dv 6)) (twor (bh nr hr.u (cb aT T.aO aE (ac (ix hr.u (dv 7) di) an)) (dv 3)) (twor (bh sy hr.u (ix hr.u (dv 7) di) di) (tw1 (bh sy hr.u (ix hr.u (dv 7) di) di)))))) (s1 (sr db)) s0) (sc (cn (i:=8) cE.nd (aI T.u1 (BA T) hr (ac (kP (dv 0) T.aj T.aC (aW T) hr) (ac (dv 1) (ac (dv 7) an))))) (s1 (si (bh gZ hr.u (dv 8) dn) (sc (si (bh fF hr.u (ix hr.u (aI T.jI ((mT T B).w) hr (ac (dv 0) (ac (dv 1) (ac (dv 2) (ac (dv 3) (ac (ix hr.u (dv 8) di) (ac (dv 5) an))))))) di) (bo bc hr.u (cb aT T.aO aE (ac (ix hr.u (dv 7) di) an)) (ix hr.u (dv 7) di))) (s1 (sr db)) s0) (sc (si (bh fF hr.u (ix hr.u (aI T.l_ ((lH T B).w) hr (ac (dv 0) (ac (dv 1) (ac (dv 2) (ac (dv 3) (ac (ix hr.u (dv 8) di) (ac (dv 5) an))))))) di) (bo bc hr.u (ix hr.u (dv 7) di) (cb aT T.aO aE (ac (ix hr.u (dv 7) di) an)))) (s1 (sr db)) s0) (s1 (si (bh fF hr.u (aI T.ma ((lI T B).w) hr (ac (dv 0) (ac (dv 1) (ac (dv 2) (ac (ix hr.u (dv 8) di) (ac (ix hr.u (dv 8) di) (ac (dv 5) an))))))) (ix hr.u (dv 7) di)) (s1 (sr db)) s0)))) s0)))))) (s1 (sr db)))),?_⟩
 refine !!!⟨hq.ct hq.s ?_⟩
 refine⟨fun aG S'=>Sub S S',?_,fun aG S' sb=>⟨S,sb,q⟩⟩
 refine !!!!!!⟨hq.pg b h1 h2 hb fun A p1 hA vp=>?_⟩
 have v9:Sub S (S.set p1 (.lst ((seg A (vL cs ps wy A b n).1 (vL cs ps wy A b n).2).map aq))):=.new vp
 have X8:S8 (S.set p1 (.lst ((seg A (vL cs ps wy A b n).1 (vL cs ps wy A b n).2).map aq))) A n (Fe p1 (vL cs ps wy A b n).1 (A.length - (vL cs ps wy A b n).2)):=⟨p1,_,_,rfl,BB.1,BB.2.1,BB.2.2,aa⟩
 generalize S.set p1 _=S1 at v9 X8 ⊢
 generalize Fe p1 (vL cs ps wy A b n).1 (A.length - (vL cs ps wy A b n).2)=d1 at X8 ⊢
 have KU:=hq.sub v9
 refine !!!!!!⟨KU.pg b h1 h2 hb fun A' p2 BD gO=>?_⟩
 cases BD.one hg ho.pin hA
 have uA:Sub S1 (S1.set p2 (.lst ((seg A (vM cs ps wy A b n).1 (vM cs ps wy A b n).2).map aq))):=.new gO
 have X9:S8 (S1.set p2 (.lst ((seg A (vM cs ps wy A b n).1 (vM cs ps wy A b n).2).map aq))) A n (Fe p2 (vM cs ps wy A b n).1 (A.length - (vM cs ps wy A b n).2)):=⟨p2,_,_,rfl,BC.1,BC.2.1,BC.2.2,aa⟩
 generalize S1.set p2 _=S2 at uA X9 ⊢
 generalize Fe p2 (vM cs ps wy A b n).1 (A.length - (vM cs ps wy A b n).2)=d2 at X9 ⊢
 refine⟨bH,fun p3 Hf=>⟨_,aa,?_⟩⟩
 have Zt:∀x∈[d1,d2],S8 (S2.set p3 (.lst [d1,d2])) A n x:=fun x hx=>by
  have up:∀{S0 x},Sub S0 (S2.set p3 (.lst [d1,d2]))→S8 S0 A n x→S8 (S2.set p3 (.lst [d1,d2])) A n x:=fun sb ⟨p,b,e,h1,h2,h3,h4,h5⟩=>⟨p,b,e,h1,h2,h3,h4,sb _ _ h5⟩
  simp only [zi,zK,or_false] at hx
  rcases hx with rfl|rfl
  ·exact up (uA.trans (.new Hf)) X8
  ·exact up (.new Hf) X9
 have Pg:(S2.set p3 (.lst [d1,d2])) p3=some (.lst [d1,d2]):=aa
 have UJ:=KU.sub (uA.trans (Sub.new (c:=.lst [d1,d2]) Hf))
 have Io:=v9.trans (uA.trans (Sub.new (c:=.lst [d1,d2]) Hf))
 generalize S2.set p3 (.lst [d1,d2])=S3 at Zt Pg UJ Io ⊢
 have S9:(rows.filter fun r=>aU cs r 4 d).length=A.length:=hA.pm.length_eq.symm
 refine⟨fun i aG S'=>∃(o7 o8:Option D),aG=[some (.ref a),some (cM ps wy),some d,some (.int (n:Nat)),some (Bw b),some m,some (.int ((rows.filter fun r=>aU cs r 4 d).length:Nat)),o7,o8]∧Sub S3 S',⟨_,_,rfl,.refl _⟩,fun i aG S' ⟨_,_,_,sb⟩=>sb _ _ Pg,?_,?_⟩
 ·rintro i x aG S' hx ⟨o7,o8,rfl,sb⟩
  obtain⟨p,bg,e,rfl,be,eA,en,hp⟩:=Zt x (zC hx)
  have Oo:=sb _ _ hp
  have Zu:=UJ.sub sb
  have sl:=vK be eA
  have ml:((seg A bg e).map aq).length=e - bg:=by rw[zb,sl]
  refine !!!!!⟨.inl ⟨_,Oo,_,rfl,_,rfl,_,rfl,_,rfl,?_⟩⟩
  rw[ml,S9]
  refine bz (by simp;lia) !!!⟨.inl ⟨_,Oo,_,rfl,?_⟩⟩
  rw[ml]
  refine !⟨bz (by simp;lia) !!!⟨bz (by simp) !!!⟨bz (by simp) ?_⟩⟩⟩
  obtain⟨F,dl,rs,hS,_⟩:=Zu.v.sh
  obtain⟨ld,lr,ra,hh,_⟩:=id hS
  refine !⟨a,_,rfl,hh.ins,rfl,a,F,cs,dl,rs,rfl,hS,_,rfl,_,rfl,cs,ps,wy,p,seg A bg e,bg,A.length - e,rfl,hg,ho.pin,ho.len,Oo,fun r lL=>hA.an.rg.1 r (List.mem_of_mem_drop (List.mem_of_mem_take lL)),fun z=>?_,fun r0 r1 e0 e1=>?_⟩
  ·exact !!⟨bf ⟨_,_,rfl,sb⟩⟩
  have r_:0<(seg A bg e).length:=(ze.mp e0).1
  rw[sl] at r_
  rw[C7 (by lia)] at e0
  rw[sl,C7 (by lia)] at e1
  have c0:=(hA.an.at hg ho.pin e0).1
  have c1:=(hA.an.at hg ho.pin e1).2
  have m0:=zC e0
  have m1:=zC e1
  have b0:Bg cs ps (some (pV cs ps "ahead" r0)):=fun g z=>by cases z;exact rL hg ho.pin (hA.an.rg.1 r0 m0) (hA.an.ky r0 m0) (by trivial)
  have b1:Bg cs ps (some (pV cs ps "behind" r1)):=fun g z=>by cases z;exact rL hg ho.pin (hA.an.rg.1 r1 m1) (hA.an.ky r1 m1) (by trivial)
  refine !!⟨cI ?_⟩
  refine !!!!!!!⟨Zu.pg (some (pV cs ps "ahead" r0)) h1 h2 b0 fun A' p4 BD SM=>?_⟩
  cases BD.one hg ho.pin hA
  have UK:=sb.trans (Sub.new (c:=.lst ((seg A (vM cs ps wy A (some (pV cs ps "ahead" r0)) n).1 (vM cs ps wy A (some (pV cs ps "ahead" r0)) n).2).map aq)) SM)
  generalize S'.set p4 _=S4 at UK ⊢
  have e2:A.length - (vM cs ps wy A (some (pV cs ps "ahead" r0)) n).2=A.length - bg:=by
   show A.length - A.countP (gP cs ps wy (pV cs ps "ahead" r0))=_
   rw[c0];rfl
  refine !!!!⟨.inl ⟨_,UK _ _ hp,_,rfl,_,rfl,_,rfl,?_⟩⟩
  rw[ml,e2]
  refine bz (by simp;lia) ?_
  have hq4:=UJ.sub UK
  refine !!!!!!!⟨hq4.pg (some (pV cs ps "behind" r1)) h1 h2 b1 fun A' p5 BD UL=>?_⟩
  cases BD.one hg ho.pin hA
  have EU:=UK.trans (Sub.new (c:=.lst ((seg A (vL cs ps wy A (some (pV cs ps "behind" r1)) n).1 (vL cs ps wy A (some (pV cs ps "behind" r1)) n).2).map aq)) UL)
  generalize S4.set p5 _=S5 at EU ⊢
  have e3:(vL cs ps wy A (some (pV cs ps "behind" r1)) n).1=e:=by
   show A.countP (gP cs ps wy (pV cs ps "behind" r1))=_
   rw[c1];lia
  refine !!!!!!⟨.inl ⟨_,EU _ _ hp,_,rfl,?_⟩⟩
  rw[ml,e3]
  refine bz (by simp;lia) ?_
  have S_:=UJ.sub EU
  refine !!!!!!!!⟨S_.st (some (pV cs ps "ahead" r0)) (some (pV cs ps "behind" r1)) b0 b1 fun A' p6 BD X_=>?_⟩
  cases BD.one hg ho.pin hA
  have e4:cR (A.map aq) (some ((j6 cs ps wy A 0 (some (pV cs ps "ahead" r0)):Nat):Int)) (some ((j6 cs ps wy A A.length (some (pV cs ps "behind" r1)):Nat):Int))=(seg A bg e).map aq:=by
   show cR (A.map aq) (some ((A.countP (gP cs ps wy (pV cs ps "ahead" r0)):Nat):Int)) (some ((A.countP (gP cs ps wy (pV cs ps "behind" r1)):Nat):Int))=_
   rw[c0,c1,show bg+0=bg from rfl,show bg+(e - bg - 1)+1=e by lia,pU be eA]
  rw[e4]
  have Zv:=EU.trans (Sub.new (c:=.lst ((seg A bg e).map aq)) X_)
  refine !!⟨Hl aa (Zv _ _ hp) (fun d hd=>?_) !⟨bf ⟨_,_,rfl,Zv⟩⟩⟩
  obtain⟨r,lL,rfl⟩:=zg.mp hd
  have lL:=List.mem_of_mem_drop (List.mem_of_mem_take lL)
  exact HK (hA.an.ky r lL) (hA.an.rg.1 r lL)
 ·rintro aG S' ⟨o7,o8,rfl,sb⟩
  exact fo (Io.trans sb)
def oU:D→PyData
 |.int i=>.int i
 |.str z=>.str z
 |_=>.none
def BE:List D→List D→Bool
 |[],[]=>true
 |x::xs,y::ys=>kC x y && BE xs ys
 |_,_=>false
theorem C9:∀{xs ys:List D},(∀x∈xs,bx x=true)→(∀x∈ys,bx x=true)→(BE xs ys=true↔xs=ys)
 |[],[],_,_=>by simp [BE]
 |[],_::_,_,_=>by simp [BE]
 |_::_,[],_,_=>by simp [BE]
 |x::xs,y::ys,h,k=>by
  unfold BE
  rw[zJ,b_ (h x zo) (k y zo),C9 (fun z hz=>h z (zh _ hz)) (fun z hz=>k z (zh _ hz)),List.cons.injEq]
theorem OW(hx:bx x=true)(hy:bx y=true):PyData.eqv (oU x) (oU y)=kC x y:=by
 cases x <;> cases y <;> first|(cases hx;done)|(cases hy;done)|(simp only [oU,PyData.eqv,kC];done)|(simp only [oU,PyData.eqv,kC];rfl)|(simp only [oU,PyData.eqv,kC];exact beq_eq_decide _ _)
theorem OX(hx:bx x=true):Dp S x (oU x)∧(oU x).canLay0=true∧(oU x).depth≤0:=by
 cases x with
 |aw=>exact⟨by simp only [Dp,oU],by simp only [oU,PyData.canLay0],by simp only [oU,PyData.depth];lia⟩
 |int i=>exact⟨by simp only [Dp,oU],by simp only [oU,PyData.canLay0],by simp only [oU,PyData.depth];lia⟩
 |str z =>
  refine⟨by simp only [Dp,oU],?_,by simp only [oU,PyData.depth];lia⟩
  unfold bx at hx
  simp only [zJ] at hx
  simp only [oU,PyData.canLay0]
  exact hx.2
 |_=>cases hx
theorem vP:∀{xs:List D},(∀x∈xs,bx x=true)→DpAll S xs (xs.map oU)∧PyData.canLayAll0 (xs.map oU)=true∧PyData.depthAll (xs.map oU)≤0
 |[],_=>⟨by simp only [List.map_nil,DpAll],rfl,zS _⟩
 |x::xs,h=>by
  obtain⟨a,b,c⟩:=OX (S:=S) (h x zo)
  obtain⟨a',b',c'⟩:=vP (S:=S) fun y hy=>h y (zh _ hy)
  exact⟨by simp only [zB,DpAll];exact⟨_,_,rfl,a,a'⟩,by simp only [zB,PyData.canLayAll0,b,b',Bool.and_self],by simp only [zB,PyData.depthAll];lia⟩
theorem C_:∀{xs ys:List D},(∀x∈xs,bx x=true)→(∀x∈ys,bx x=true)→PyData.eqvAll (xs.map oU) (ys.map oU)=BE xs ys
 |[],[],_,_=>by simp only [List.map_nil,PyData.eqvAll,BE]
 |[],y::ys,_,_=>by simp only [List.map_nil,zB,PyData.eqvAll,BE]
 |x::xs,[],_,_=>by simp only [List.map_nil,zB,PyData.eqvAll,BE]
 |x::xs,y::ys,h,k=>by
  have a:=OW (h x zo) (k y zo)
  have b:=C_ (fun z hz=>h z (zh _ hz)) (fun z hz=>k z (zh _ hz))
  simp only [zB,PyData.eqvAll,a,b,BE]
theorem KW(h:∀x∈xs,bx x=true)(k:∀x∈ys,bx x=true)(q:R (.bl (BE xs ys)) S):E7 false (.tup xs) (.tup ys) S R:=by
 obtain⟨a,b,c⟩:=vP (S:=S) h
 obtain⟨a',b',c'⟩:=vP (S:=S) k
 refine⟨.tuple (xs.map oU),.tuple (ys.map oU),by simp only [Dl,Dp];exact !⟨a⟩,by simp only [Dl,Dp];exact !⟨a'⟩,by simp only [PyData.canLay0];exact b,by simp only [PyData.canLay0];exact b',.inl (by simp only [PyData.depth];lia),?_⟩
 have e:PyData.eqv (.tuple (xs.map oU)) (.tuple (ys.map oU))=BE xs ys:=by simp only [PyData.eqv];exact C_ h k
 rw[if_neg zd,e];exact q
theorem Sg.up:∀{n:Nat}{d:D},Sg cs n d→Sg cs (n+1) d
 |0,_,h=>h.elim
 |n+1,d,h=>by
  rcases h with h|⟨e,h1,h2⟩|⟨o,ds,h1,h2,h3,h4⟩
  ·exact .inl h
  ·exact .inr (.inl ⟨e,h1,h2.up⟩)
  ·exact .inr (.inr ⟨o,ds,h1,h2,h3,fun e he=>(h4 e he).up⟩)
theorem HR{α:Type}{f g:α→Bool}{l:List α}(h:∀x∈l,f x=g x):l.all f=l.all g∧l.any f=l.any g:=by
 induction l with
 |nil=>exact⟨rfl,rfl⟩
 |cons x l ih =>
  obtain⟨a,b⟩:=ih fun y hy=>h y (zh _ hy)
  rw[yK,yK,yt,yt,h x zo,a,b];exact⟨rfl,rfl⟩
theorem pW{cs:List (Str×Str)}{r:Row} : ∀{n:Nat}{d:D},Sg cs n d→aU cs r (n+1) d=aU cs r n d
 |0,_,h=>h.elim
 |n+1,d,h=>by
  rcases h with (rfl|⟨ks,rfl,_⟩|⟨o,c,v,_,_,_,rfl⟩)|⟨e,rfl,h2⟩|⟨o,ds,h1,rfl,h3,h4⟩
  ·rfl
  ·rw[mG,mG]
  ·rfl
  ·rw[mH,mH,pW h2]
  ·obtain⟨a,b⟩:=HR fun e he=>pW (r:=r) (h4 e he)
   rcases h1 with rfl|rfl
   ·rw[mI,mI];exact a
   ·rw[vA,vA];exact b
theorem KY:aU cs r (n+1) (.tup [.str "key",.tup [.str k]])=decide (r.1=k):=by
 rw[mG]
 show y8 (V.str r.1) [V.str k]=_
 simp only [y8,yt,List.any_nil,Bool.or_false,eqV]
 by_cases h:r.1=k
 ·rw[zq h,h];exact beq_self_eq_true k
 ·rw[zk h];exact beq_eq_false_iff_ne.mpr fun e=>h e.symm
theorem EV{α:Type}{p q:α→Bool}{l:List α}(h:∀x∈l,p x=true→q x=false):l.countP (fun x=>p x || q x)=l.countP p+l.countP q:=by
 induction l with
 |nil=>rfl
 |cons x l ih =>
  have ih:=ih fun y hy=>h y (zh _ hy)
  have hx:=h x zo
  rw[List.countP_cons,List.countP_cons,List.countP_cons,ih]
  cases e:p x with
  |true=>rw[hx e];simp;lia
  |false=>cases q x <;> simp <;> lia
theorem vQ{α:Type}{p g:α→Bool}{l:List α} : (l.filter p).countP g+(l.filter fun x=>!p x).countP g=l.countP g:=by
 induction l with
 |nil=>rfl
 |cons x l ih =>
  rw[yi,yi,List.countP_cons]
  cases e:p x with
  |true=>simp only [if_true,Bool.not_true,Bool.false_eq_true,if_false,List.countP_cons];lia
  |false=>simp only [Bool.false_eq_true,if_false,Bool.not_false,if_true,List.countP_cons];lia
theorem mU{ks:List Str}{xs:List D}(h:Paired (fun k x=>Vg k x) ks xs):∀x∈xs,bx x=true:=fun x hx=>by
 obtain⟨i,e⟩:=List.getElem?_of_mem hx
 obtain⟨k,_,hv⟩:=c_ h e
 exact hv.2
section
variable{cs:List (Str×Str)}{ps:List Part}{wy:Str}{g:pT}{rows:List Row}{d:D}
def PN(cs:List (Str×Str))(ps:List Part)(wy:Str)(g:pT)(r:Row):Bool:=decide (bB (j0 ps wy) (iQ cs ps r) (KH g)=0)
theorem vR(hg:Gd cs)(hp:Pin cs ps)(hv:Gp cs ps g)(hw:Wg cs r.2)(hk:r.1∈KS):PN cs ps wy g r=true↔(ps.map fun p=>ak cs r.2 p.1)=g.1∧r.1=g.2.1:=by
 unfold PN
 rw[zX,mP vJ (lF hg hp hw hk) hv.vs]
 unfold iQ KH
 constructor
 ·intro h
  obtain⟨h1,h2⟩:=List.append_inj' h rfl
  exact⟨h1,D.str.inj (List.cons.inj h2).1⟩
 ·rintro⟨h1,h2⟩
  rw[h1,h2]
theorem HS{A:List Row}(xs:List D)(k:Str):A.countP (gP cs ps wy (xs,k, "behind"))=A.countP (gP cs ps wy (xs,k, "ahead"))+A.countP (PN cs ps wy (xs,k, "ahead")):=by
 have e1:gP cs ps wy (xs,k, "behind")=fun r=>gP cs ps wy (xs,k, "ahead") r || PN cs ps wy (xs,k, "ahead") r:=by
  funext r
  show (decide (bB (j0 ps wy) (iQ cs ps r) (xs++[.str k])<0) || (decide (bB (j0 ps wy) (iQ cs ps r) (xs++[.str k])=0) && decide (("behind" : Str) = "behind")))=((decide (bB (j0 ps wy) (iQ cs ps r) (xs++[.str k])<0) || (decide (bB (j0 ps wy) (iQ cs ps r) (xs++[.str k])=0) && decide (("ahead" : Str) = "behind"))) || decide (bB (j0 ps wy) (iQ cs ps r) (xs++[.str k])=0))
  rw[show decide (("ahead" : Str) = "behind")=false by trivial,show decide (("behind" : Str) = "behind")=true by trivial]
  simp
 rw[e1,EV]
 intro r _ h
 have h:(decide (bB (j0 ps wy) (iQ cs ps r) (xs++[.str k])<0) || (decide (bB (j0 ps wy) (iQ cs ps r) (xs++[.str k])=0) && decide (("ahead" : Str) = "behind")))=true:=h
 rw[show decide (("ahead" : Str) = "behind")=false by trivial,Bool.and_false,Bool.or_false,zX] at h
 exact zk (show ¬ bB (j0 ps wy) (iQ cs ps r) (xs++[.str k])=0 by lia)
def nG(cs:List (Str×Str))(ps:List Part)(wy:Str)(g:pT)(d:D)(rows:List Row):Nat:=(rows.filter fun r=>aU cs r 4 d).countP (PN cs ps wy g)
theorem KZ(hg:Gd cs)(hp:Pin cs ps)(hv:Gp cs ps g)(hr:Rg cs rows)(hk:KJ rows)(h:∀r∈rows,r.1≠g.2.1):nG cs ps wy g d rows=0:=by
 refine List.countP_eq_zero.mpr fun r hm e=>?_
 have hm:=(yf.mp hm).1
 exact h r hm ((vR hg hp hv (hr.1 r hm) (hk r hm)).mp e).2
theorem K0(hg:Gd cs)(hp:Pin cs ps)(hv:Gp cs ps g)(hr:Rg cs rows)(hk:KJ rows){ws:List D}(hm:(g.2.1,ws)∈rows):((nG cs ps wy g d rows:Nat):Int)=(if BE (ps.map fun p=>ak cs ws p.1) g.1=true then 1 else 0) * ((rows.filter fun r=>aU cs r 4 d && decide (r.1=g.2.1)).length:Nat):=by
 have one:∀r∈rows,r.1=g.2.1→r.2=ws:=fun r h1 h2=>congrArg Prod.snd (eR (f:=Prod.fst) hr.2 h1 hm h2)
 have pl1:=mU (rG hg hp (hr.1 _ hm))
 have iff:=C9 pl1 (mU hv.pv)
 unfold nG
 rw[List.countP_filter,← List.countP_eq_length_filter]
 by_cases q:BE (ps.map fun p=>ak cs ws p.1) g.1=true
 ·rw[if_pos q,Int.one_mul]
  congr 1
  refine List.countP_congr fun r h1=>?_
  rw[zJ,zJ,vR hg hp hv (hr.1 r h1) (hk r h1),zX,and_comm]
  refine and_congr_right fun _=>⟨fun h=>h.2,fun h=>⟨?_,h⟩⟩
  rw[one r h1 h];exact iff.mp q
 ·rw[if_neg q,Int.zero_mul]
  have:rows.countP (fun r=>PN cs ps wy g r && aU cs r 4 d)=0:=List.countP_eq_zero.mpr fun r h1 h2=>by
   rw[zJ,vR hg hp hv (hr.1 r h1) (hk r h1)] at h2
   rw[one r h1 h2.1.2] at h2
   exact q (iff.mpr h2.1.1)
  lia
end
theorem Qs.on{t:fG}{S:av}{a:Addr}{cs:List (Str×Str)}{ps:List Part}{wy:Str}{d e m:D}{rows:List Row}(h:Qs t S a cs ps wy d m rows)(s:Sg cs 4 e):Qs t S a cs ps wy e m rows:=⟨h.g,h.o,s,h.v,h.k,h.t⟩
structure Wv(t:fG)(S:av)(a:Addr)(cs:List (Str×Str))(m:D)(rows:List Row):Prop where
 ex:∃F dl rs i,bZ t.ao S a F cs dl rs∧nX dl.length m=some i∧∀z∈KS,(∃ws,v8 rs (.str z) i=.tup ws∧(z,ws)∈rows)∨(v8 rs (.str z) i=.aw∧∀r∈rows,r.1≠z)
theorem HU{A:List Row}{n:Nat}(h:n≤A.length):(cR (A.map aq) (some ((0:Nat):Int)) (some ((n:Nat):Int))).length=n:=by
 rw[pU (zS _) h,zb,vK (zS _) h];rfl
theorem HV{A:List Row}{n:Nat}(h:n≤A.length):(cR (A.map aq) (some ((n:Nat):Int)) (some ((A.length:Nat):Int))).length=A.length - n:=by
 rw[pU h (zm _),zb,vK h (zm _)]
inductive kH (t:fG) (ds:List D) (S:av) (R:KD) (Z:KX):Prop where
 |mk (a:Addr) (cs:List (Str×Str)) (ps:List Part) (wy:Str) (d m:D) (g:pT) (rows:List Row) (h0:ds=[.ref a,cM ps wy,d,sS g,m]) (h1:Sg cs 3 d) (h2:Qs t S a cs ps wy d m rows) (h3:Gp cs ps g) (h4:Wv t S a cs m rows) (h5:R (.bl true) S):kH t ds S R Z
theorem vS(T:Txt w K mg t)(B:Bm mg base):Ok P w base T.ji 12 (kH t):=by
 refine T.ji.F.bU aN ?_
 rintro _ _ _ _ _ _ _ S R Z hr ⟨a,cs,ps,wy,d,m,g,rows,e0,Tc,hq,hv,hw,q⟩
 subst e0
 have hg:=hq.g
 have ho:=hq.o
 have KR:=hq.v.rg
 obtain⟨F,dl,rs,i,hS,hm,hwa⟩:=hw.ex
 obtain⟨ld,lr,ra,hh,_⟩:=id hS
 have L8:=hq.v.mo
 refine⟨_,(sc (cn (i:=5) aN.nd (ix hr.u (dv 3) di)) (sc (cn (i:=6) aN.nd (kP (dv 0) T.aj T.aC (aW T) hr)) (sc (cn (i:=7) aN.nd (sD (dv 0) T.aj T.cj (ia T) hr (ac (ix hr.u (dv 5) di) (ac (dv 4) an)))) (sc (cn (i:=8) aN.nd di) (sc (wO (si (bh gZ hr.u (dv 7) dn) (sc (cn (i:=9) aN.nd (ct eO T.bj aV (ac (sA (N:=["_law_part","_law_columns_here","_law_worths_here","_law_place"]) (src:=[none,some 6,some 7,some 5]) (kM (ae sF) ["_law_shelf","_law_order_here","_law_sieve_here","_law_gap_here","_law_moment","_law_place","_law_columns_here","_law_worths_here","_law_there","_law_values","_law_alone","_law_one","_law_ahead_here","_law_other"] rfl rfl (by trivial)) (Fc (ix hr.u (dv 1) di)) (qz (show (["_law_part","_law_columns_here","_law_worths_here","_law_place"]:List Str).Nodup by trivial)) (ba rfl) bb (fun _ _ _ _ _=>rQ) (fun _ _ _ _ _=>(aI T.JZ (L9 T) hr (ac (dv 1) (ac (bD (ac (ix hr.u (dv 3) di) (ac (dv 2) an))) (ac (ix hr.u (dv 0) di) an)))))) an))) (sc (cn (i:=10) aN.nd (aI T.gA ((fU T).w) hr (ac (dv 0) (ac (bD (ac ds (ac (bD (ac (dv 2) (ac (bD (ac ds (ac (bD (ac (ix hr.u (dv 5) di) an)) an))) an))) an))) (ac (dv 4) an))))) (s1 (cn (i:=8) aN.nd (bo iZ hr.u (ct Cc T.xh qm (ac (cm br hr.u (dv 9) (ix hr.u (dv 5) di)) an)) (dv 10)))))) s0)) (sc (cn (i:=11) aN.nd (aI T.hW ((jD T B).w) hr (ac (dv 0) (ac (dv 1) (ac (dv 2) (ac (bD (ac (dv 5) (ac ds an))) (ac (dv 4) an))))))) (sc (si (bh fF hr.u (aI T.hW ((jD T B).w) hr (ac (dv 0) (ac (dv 1) (ac (dv 2) (ac (bD (ac (dv 5) (ac ds an))) (ac (dv 4) an)))))) (bo bc hr.u (dv 11) (dv 8))) (s1 (sr db)) s0) (sc (cn (i:=12) aN.nd (aI T.hW ((jD T B).w) hr (ac (dv 0) (ac (dv 1) (ac (dv 2) (ac (dv 3) (ac (dv 4) an))))))) (sc (cn (i:=13) aN.nd (aI T.hW ((jD T B).w) hr (ac (dv 0) (ac (dv 1) (ac (bD (ac ds (ac (dv 2) an))) (ac (dv 3) (ac (dv 4) an))))))) (sc (si (bh fF hr.u (bo bc hr.u (dv 12) (dv 13)) (aI T.hW ((jD T B).w) hr (ac (dv 0) (ac (dv 1) (ac (bD (ac ds an)) (ac (dv 3) (ac (dv 4) an))))))) (s1 (sr db)) s0) (sc (si (bh fF hr.u (cb aT T.aO aE (ac (aI T.ma ((lI T B).w) hr (ac (dv 0) (ac (dv 1) (ac (dv 2) (ac dn (ac (dv 3) (ac (dv 4) an))))))) an)) (dv 12)) (s1 (sr db)) s0) (s1 (sr (cm br hr.u (cb aT T.aO aE (ac (aI T.ma ((lI T B).w) hr (ac (dv 0) (ac (dv 1) (ac (dv 2) (ac (dv 3) (ac dn (ac (dv 4) an))))))) an)) (bo lV hr.u (aI T.gA ((fU T).w) hr (ac (dv 0) (ac (dv 2) (ac (dv 4) an)))) (dv 12)))))))))))))))),?_⟩
 refine !!!⟨a,_,rfl,hh.ins,rfl,a,F,cs,dl,rs,rfl,hS,?_⟩
 refine !⟨a,_,rfl,hh.ins,rfl,_,rfl,_,rfl,_,rfl,a,F,cs,dl,rs,.str g.2.1,m,rfl,hS,xN hv.key,L8,fun j hj=>?_,fun h=>by rw[hm] at h;cases h⟩
 cases hm.symm.trans hj
 have d4:Sg cs 4 d:=Tc.up
 refine⟨fun aG S'=>∃(wd:D) (o9 PQ:Option D),aG=[some (.ref a),some (cM ps wy),some d,some (sS g),some m,some (HM g.1 g.2.1),some (.tup (cs.map az)),some wd,some (.int (nG cs ps wy g d rows:Nat)),o9,PQ,none,none,none]∧Sub S S',?_,?_⟩
 ·rcases hwa g.2.1 hv.key with ⟨ws,e1,FX⟩|⟨e1,V5⟩
  ·rw[e1]
   have Zw:=KR.1 _ FX
   refine !!⟨cI ?_⟩
   refine !!⟨_,.inl rfl,?_⟩
   refine comp_map (fun d=>match d with|.tup (.str z::_)=>ak cs ws z|_=>.aw) trivial (by show (ps.map p3).length≤_;rw[zb];have:=ho.len;lia) (fun d hd Q hQ=>?_) fun p jO=>?_
   ·obtain⟨pt,OT,rfl⟩:=zg.mp hd
    obtain⟨c,hc,ec⟩:=ho.pin pt OT
    refine !!!!⟨bH,_,rfl,_,rfl,cs,(g.2.1,ws),c,(by rw[ec];rfl),hg,Zw,hc,?_⟩
    rw[ec];exact hQ
   have e3:(ps.map p3).map (fun d=>match d with|.tup (.str z::_)=>ak cs ws z|_=>.aw)=ps.map fun p=>ak cs ws p.1:=by rw[zw];rfl
   rw[show (⟨ps.map p3,fun _=>True⟩:E_).xs=ps.map p3 from rfl,e3]
   have sb:Sub S (S.set p (.lst (ps.map fun p=>ak cs ws p.1))):=.new jO
   refine⟨_,_,rfl,.inl aa,?_⟩
   generalize S.set p (.lst (ps.map fun p=>ak cs ws p.1))=S1 at sb ⊢
   have kf:Sg cs 3 (.tup [.str "key",.tup [.str g.2.1]]):=.inl (.inr (.inl ⟨[g.2.1],rfl,by show 1≤8;decide,fun k hk=>by rw[zG.mp hk];exact hv.key⟩))
   have ka:Sg cs 4 (.tup [.str "and",.tup [d,.tup [.str "key",.tup [.str g.2.1]]]]):=.inr (.inr ⟨"and",_,.inl rfl,rfl,by show 2≤2;decide,fun e he=>by
    simp only [zi,zK,or_false] at he
    rcases he with rfl|rfl
    ·exact Tc
    ·exact kf⟩)
   refine !!!!⟨mx,bH,bH,bH,_,rfl,(hq.sub sb).ct ka ?_⟩
   have ep:(fun r=>aU cs r 4 (.tup [.str "and",.tup [d,.tup [.str "key",.tup [.str g.2.1]]]]))=fun r=>aU cs r 4 d && decide (r.1=g.2.1):=by
    funext r
    rw[mI,yK,yK,List.all_nil,Bool.and_true,KY,pW Tc]
   rw[ep]
   refine !!!⟨KW (mU (rG hg ho.pin Zw)) (mU hv.pv) (.inr !!⟨.inl (by split <;> exact⟨by decide,by decide⟩),?_⟩)⟩
   rw[← K0 hg ho.pin hv KR hq.k FX]
   exact fo ⟨_,_,_,rfl,sb⟩
  ·rw[e1]
   refine !!⟨bf ?_⟩
   refine fo ⟨.aw,none,none,?_,.refl _⟩
   rw[KZ hg ho.pin hv KR hq.k V5]
   rfl
 ·rintro aG S' ⟨wd,o9,PQ,rfl,sb⟩
  have KU:=hq.sub sb
  have bo:∀sd,xQ sd=true→Bg cs ps (some (g.1,g.2.1,sd)):=fun sd hs g' e=>by cases e;exact⟨hv.pv,hv.key,hs⟩
  refine !!!!⟨bH,_,rfl,KU.ah (some (g.1,g.2.1, "ahead")) (bo _ (by trivial)) fun A hA=>?_⟩
  refine !!!!⟨bH,_,rfl,KU.ah (some (g.1,g.2.1, "behind")) (bo _ (by trivial)) fun A' BD=>?_⟩
  cases BD.one hg ho.pin hA
  have en:j6 cs ps wy A 0 (some (g.1,g.2.1, "behind"))=j6 cs ps wy A 0 (some (g.1,g.2.1, "ahead"))+nG cs ps wy g d rows:=by
   show A.countP _=A.countP _+_
   rw[HS]
   congr 1
   exact hA.pm.countP_eq _
  refine !!!⟨bz (by rw[en];simp) ?_⟩
  have bg:Bg cs ps (some g):=fun g' e=>by cases e;exact hv
  refine !!!!!⟨KU.ah (some g) bg fun A' BD=>?_⟩
  cases BD.one hg ho.pin hA
  have dn:Sg cs 4 (.tup [.str "not",d]):=.inr (.inl ⟨d,rfl,Tc⟩)
  refine !!!⟨bH,_,rfl,_,rfl,(KU.on dn).ah (some g) bg fun An hAn=>?_⟩
  have de:Sg cs 4 (.tup [.str "every"]):=.inl (.inl rfl)
  refine !!!!⟨mx,_,rfl,_,rfl,(KU.on de).ah (some g) bg fun Ae hAe=>?_⟩
  have es:j6 cs ps wy A 0 (some g)+j6 cs ps wy An 0 (some g)=j6 cs ps wy Ae 0 (some g):=by
   show A.countP _+An.countP _=Ae.countP _
   have e1:(fun r=>aU cs r 4 (.tup [.str "not",d]))=fun r=>!aU cs r 4 d:=by funext r;rw[mH,pW Tc]
   have e2:rows.filter (fun r=>aU cs r 4 (.tup [.str "every"]))=rows:=List.filter_eq_self.mpr fun _ _=>rfl
   rw[hA.pm.countP_eq,hAn.pm.countP_eq,hAe.pm.countP_eq,e1,e2]
   exact vQ
  refine !⟨bz (by simp;lia) ?_⟩
  have le:=List.countP_le_length (p:=gP cs ps wy g) (l:=A)
  refine !!!!!⟨KU.st none (some g) nofun bg fun A' p1 BD vp=>?_⟩
  cases BD.one hg ho.pin hA
  have e5:(cR (A.map aq) (some ((j6 cs ps wy A 0 none:Nat):Int)) (some ((j6 cs ps wy A A.length (some g):Nat):Int))).length=j6 cs ps wy A 0 (some g):=HU le
  refine !⟨.inl ⟨_,aa,_,rfl,_,rfl,?_⟩⟩
  rw[e5]
  have v9:=sb.trans (Sub.new (c:=.lst (cR (A.map aq) (some ((j6 cs ps wy A 0 none:Nat):Int)) (some ((j6 cs ps wy A A.length (some g):Nat):Int)))) vp)
  generalize S'.set p1 _=S1 at v9 ⊢
  have LD:=hq.sub v9
  refine bz (by simp) !!!!!⟨LD.st (some g) none bg nofun fun A' p2 BD gO=>?_⟩
  cases BD.one hg ho.pin hA
  have e6:(cR (A.map aq) (some ((j6 cs ps wy A 0 (some g):Nat):Int)) (some ((j6 cs ps wy A A.length none:Nat):Int))).length=A.length - j6 cs ps wy A 0 (some g):=HV le
  refine !⟨.inl ⟨_,aa,?_⟩⟩
  rw[e6]
  have uA:=v9.trans (Sub.new (c:=.lst (cR (A.map aq) (some ((j6 cs ps wy A 0 (some g):Nat):Int)) (some ((j6 cs ps wy A A.length none:Nat):Int)))) gO)
  generalize S1.set p2 _=S2 at uA ⊢
  refine !!!⟨(hq.sub uA).ct d4 !⟨S,uA,?_⟩⟩
  have el:(rows.filter fun r=>aU cs r 4 d).length=A.length:=hA.pm.length_eq.symm
  have ef:decide (((A.length - j6 cs ps wy A 0 (some g):Nat):Int)=(((rows.filter fun r=>aU cs r 4 d).length:Nat):Int) - ((j6 cs ps wy A 0 (some g):Nat):Int))=true:=zq (by have:j6 cs ps wy A 0 (some g)≤A.length:=le;lia)
  rw[if_neg zd,ef]
  exact q
theorem Dc:∀{l:List Str}{p:Str},((p::l).Pairwise fun a b=>a.cps.toList≤b.cps.toList)→PyProof.Rows.risingS p l=true
 |[],p,_=>rfl
 |x::r,p,h=>by
  obtain⟨h1,h2⟩:=List.pairwise_cons.mp h
  show (!PySem.Spec.ltCps x.cps.toList p.cps.toList && PyProof.Rows.risingS x r)=true
  rw[zJ,PyProof.Rows.ltCps_eq,Bool.not_eq_true',decide_eq_false_iff_not]
  exact⟨List.not_lt.mpr (h1 x zo),Dc h2⟩
theorem HW(x:Str):∀{l:List Str},(l.Pairwise fun a b=>a.cps.toList≤b.cps.toList)→∃m:List Str,m.Perm (x::l)∧m.Pairwise fun a b=>a.cps.toList≤b.cps.toList
 |[],_=>⟨[x],.refl _,List.pairwise_singleton _ _⟩
 |y::l,h=>by
  obtain⟨h1,h2⟩:=List.pairwise_cons.mp h
  by_cases q:x.cps.toList≤y.cps.toList
  ·refine⟨x::y::l,.refl _,List.pairwise_cons.mpr ⟨fun z hz=>?_,h⟩⟩
   rcases zi.mp hz with rfl|hz
   ·exact q
   ·exact List.le_trans q (h1 z hz)
  ·have q:y.cps.toList≤x.cps.toList:=(List.le_total _ _).resolve_left q
   obtain⟨m,pm,pw⟩:=HW x h2
   refine⟨y::m,(pm.cons y).trans (.swap x y l),List.pairwise_cons.mpr ⟨fun z hz=>?_,pw⟩⟩
   rcases zi.mp (pm.mem_iff.mp hz) with rfl|hz
   ·exact q
   ·exact h1 z hz
theorem BF(l:List Str):∃ss:List Str,ss.Perm l∧PyProof.Rows.sortedS ss=true:=by
 have:∃ss:List Str,ss.Perm l∧ss.Pairwise fun a b=>a.cps.toList≤b.cps.toList:=by
  induction l with
  |nil=>exact⟨[],.refl _,.nil⟩
  |cons x l ih =>
   obtain⟨m,pm,pw⟩:=ih
   obtain⟨k,pk,UE⟩:=HW x pw
   exact⟨k,pk.trans (pm.cons x),UE⟩
 obtain⟨ss,pm,pw⟩:=this
 refine⟨ss,pm,?_⟩
 cases ss with
 |nil=>rfl
 |cons x r=>exact Dc pw
section
variable{t:fG}{S0 S:av}{a:Addr}{fs:List (Addr×Ce)}{F:List Addr}{cs:List (Str×Str)}{dl:List D}{rs:pP}{kn jw:Kn}{hs:List (List Row)}{d:D}{R:KD}{Z:KX}
theorem uk(st:St t S0 a fs F cs dl rs S)(hg:Gd cs)(hI:KI cs kn)(hR:RI rs dl.length kn)(hH:HI rs cs dl.length hs)(hl:dl.length≤100)(hd:GD KS cs kn d)(SU:OF kn d jw)(OY:KI cs jw)
  (q:∀S' F' cz Pc,St t S0 a fs F' cs (dl++[d]) cz S'→RI cz (dl.length+1) jw→HI cz cs (dl.length+1) Pc→R .aw S'):X4 t [.ref a,d] S R Z :=
 ET st.sh hg hI hR hl hd SU fun S4 F4 rs4 hS4 hK4 Zx hold=>by
  obtain⟨ss,hp,ho⟩:=BF (jw.map (·.1))
  exact q S4 F4 rs4 _ (st.X6 hS4 hK4) Zx (hH.step hold OY Zx hp ho)
def Ka(j:Nat)(kn:Kn):Prop:=∀x∈kn.map (·.1),x∈KT∨∃i,i<j∧x=kj i
theorem Ka.Bf(h:Ka 0 kn)(hd:GD KT cs kn d)(hk:OF kn d jw):Ka 0 jw:=by
 have h1:Kr 30 kn:=fun x hx=>(h x hx).imp id <| by rintro⟨i,hi,_⟩;exact absurd hi (Nat.not_lt_zero _)
 exact fun x hx=>((h1.Bf hd hk) x hx).imp id <| by rintro⟨i,h1,h2,_⟩;exact by lia
theorem Ka.many(h:Ka j kn)(hI:KI cs kn)(hm:X5 cs j d):GD KS cs kn d∧∃jw,OF kn d jw∧KI cs jw∧Ka (j+1) jw:=by
 obtain⟨hj,ws,hw,rfl⟩:=hm
 obtain⟨k1,k2⟩:=SW j hj
 have hn:fH kn (kj j)=none:=by
  cases q:fH kn (kj j) with
  |none=>rfl
  |some w =>
   exfalso
   rcases h (kj j) (zg.mpr ⟨_,ig q,rfl⟩) with z|⟨i,hi,e⟩
   ·exact k2 z
   ·have:=OS j hj i (by lia) e
    lia
 have hz:=zy KT k1
 refine⟨.inl ⟨kj j,ws,hz,hw,hn,rfl⟩,_,.inl ⟨"put",kj j,ws,.inl rfl,rfl,rfl⟩,hI.put hz hw,fun x hx=>?_⟩
 rcases ug hx with rfl|hx
 ·exact .inr ⟨j,yE _,rfl⟩
 ·exact (h x hx).imp id <| by rintro⟨i,hi,e⟩;exact⟨i,by lia,e⟩
theorem Snap.wv(h:Snap rs cs m rows)(hS:bZ t.ao S a F cs dl rs)(hm:nX dl.length md=some (m:Int)):Wv t S a cs md rows:=by
 obtain⟨kn,ss,rfl,hI,p,_,hw⟩:=h.ex
 refine⟨F,dl,rs,m,hS,hm,fun z hz=>?_⟩
 rw[pQ (gq z hz).1,hw]
 unfold v_
 cases q:fH kn z with
 |some ws =>
  refine .inl ⟨ws,rfl,zg.mpr ⟨z,p.mem_iff.mpr (zg.mpr ⟨_,ig q,rfl⟩),?_⟩⟩
  rw[q];rfl
 |none =>
  refine .inr ⟨rfl,fun r hr e=>?_⟩
  obtain⟨y,hy,rfl⟩:=zg.mp hr
  have e:y=z:=e
  obtain⟨ws,lM⟩:=lj (p.mem_iff.mp hy)
  rw[e,q] at lM;cases lM
end
inductive HX (t:fG) (ds:List D) (S:av) (R:KD) (Z:KX):Prop where
 |mk (ns:List Int) (h0:ds=[.iP (ns.map D.int)]) (h1:ns.length≤63) (h2:Tb t S) (h3:R (.bl true) S):HX t ds S R Z
def UM(t:fG)(S0:av)(a:Addr)(fs:Kn→List (Addr×Ce))(cs:List (Str×Str))(i j:Nat)(S:av):Prop :=
 ∃(F:List Addr) (dl:List D) (rs:pP) (kn:Kn) (hs:List (List Row)),dl.length=i∧St t S0 a (fs kn) F cs dl rs S∧KI cs kn∧RI rs dl.length kn∧HI rs cs dl.length hs∧Ka j kn
structure Zy(t:fG)(ds:List D)(S:av)(R:KD)(Z:KX):Prop where
 of:LX t.ao t.dH ds S R Z
theorem K1(T:Txt w K mg t)(B:Bm mg base):Ok P w base T.Xq 20 (HX t):=by
 have xT:Ok P w base T.qR 7 (X4 t):=(Kl T).Gu fun ds S R Z h=>h.of
 have fB:x6 P w mg base T.bV 3 (Zy t):=(t9 T).Gu fun ds S R Z h=>h.of
 refine T.Xq.F.bU cX ?_
 rintro _ _ _ _ _ _ _ S R Z hr ⟨ns,e,LL,Yu,q⟩
 subst e
 refine⟨_,(sc (cn (i:=1) cX.nd (aI T.nQ (Bi T) hr (ac (aI T.nO (pR T) hr (ac (aI T.eU (ie T) hr (ac (dv 0) (ac di an))) an)) an))) (sc (cn (i:=2) cX.nd (mk T.G5 (J_ T) (hr.mono (by decide)) T.G4 T.fg.b d0 (ac (dv 1) an))) (sc (cn (i:=3) cX.nd Q6) (sc (wO (Gs (il (Sk (dv 0) (o1 di) (o1 di))) (gn (i:=4) cX.nd) (sc (cn (i:=5) cX.nd (aI T.AW (Kk T) hr (ac (aI T.nO (pR T) hr (ac (dv 4) an)) (ac (dv 1) (ac (dv 3) an))))) (sc (se (aI T.u4 (Hq T) hr (ac (dv 3) (ac (dv 5) an)))) (s1 (se (aI T.qR xT hr (ac (dv 2) (ac (dv 5) an))))))))) (sc (wO (si (bh br hr.u (bo ke hr.u (aI T.eU (ie T) hr (ac (dv 0) (ac di an))) di) di) (s1 (Gs (il (aI T.AY (KC T) hr (ac (aI T.nO (pR T) hr (ac (aI T.eU (ie T) hr (ac (dv 0) (ac di an))) an)) (ac (dv 1) (ac di (ac di an)))))) (gn (i:=5) cX.nd) (s1 (se (aI T.qR xT hr (ac (dv 2) (ac (dv 5) an))))))) s0)) (sc (cn (i:=6) cX.nd (bo bc hr.u (dS (ac (aI T.eU (ie T) hr (ac (dv 0) (ac di an))) an)) (Sk (dv 0) (o1 di) (o1 di)))) (sc (wO (si (bh nr hr.u (cb aT T.aO aE (ac (Rr (dv 2) T.aj T.bV.e (fB.mono (by decide)) hr T.nH d1) an)) di) (s1 (cn (i:=6) cX.nd (Sk (dv 6) o0 (o1 di)))) s0)) (sc (wO (Gs (il (dv 6)) (gn (i:=4) cX.nd) (sc (cn (i:=7) cX.nd (aI T.nO (pR T) hr (ac (dv 4) an))) (sc (cn (i:=8) cX.nd (aI T.u3 (HE T) hr (ac (dv 7) (ac (dv 1) an)))) (sc (cn (i:=9) cX.nd (aI T.aR (bI T) hr (ac (dv 7) (ac (bo bc hr.u (kP (dv 2) T.aj T.dO (rf T) hr) di) an)))) (sc (cn (i:=10) cX.nd (aI T.G6 (KQ T) hr (ac (dv 7) (ac (dv 1) (ac (dv 8) (ac (sD (dv 2) T.aj T.bV fB hr (ac (dv 9) an)) an)))))) (sc (cn (i:=11) cX.nd (aI T.jM (n8 T 3) hr (ac (dv 7) (ac (dv 1) (ac di an))))) (sc (si (cq (tv (aI T.gm (rM T B) hr (ac (dv 2) (ac (dv 8) (ac (dv 11) (ac (aI T.AX (KP T) hr (ac (dv 7) an)) (ac (dv 10) (ac (dv 9) an))))))))) (s1 (sr db)) s0) (sc (wO (si (twd (twand (bh gZ hr.u (dv 10) dn) (tw1 (cq (tv (aI T.ji (vS T B) hr (ac (dv 2) (ac (dv 8) (ac (dv 11) (ac (dv 10) (ac (dv 9) an))))))))))) (s1 (sr db)) s0)) (s1 (si (bh fF hr.u (aI T.gA (fU T) hr (ac (dv 2) (ac (bD (ac ds an)) (ac (dv 9) an)))) (cb aT T.aO aE (ac (sD (dv 2) T.aj T.bV fB hr (ac (dv 9) an)) an))) (s1 (sr db)) s0))))))))))) (s1 (sr db)))))))))),?_⟩
 refine !⟨ns,0,rfl,fun c0=>⟨⟨c0,rfl⟩,fun l0 Uv=>⟨l0,rfl,aa,fun cs hg hN=>?_⟩⟩⟩
 refine !⟨fun a ha=>⟨a,cs,rfl,hg,aa,fun S1 F1 CF Sw=>⟨rfl,?_⟩⟩⟩
 have Ya:UH S F1 S1:=fun b c hb=>by
  have h1:(S.set l0 .well) b=some c:=(Sub.new Uv) _ _ hb
  have h2:b≠a:=gW h1 ha
  exact Sw b c (fun m=>h2 (zG.mp m)) ((ag h2).trans h1)
 have st0:St t S a [] F1 cs [] [] S1:=⟨CF,fun _ h=>(nomatch h),.nil,Ya⟩
 refine fun lk WV=>?_
 have Zz:=st0.new WV (.cQ [])
 generalize S1.set lk (.cQ [])=SA at Zz ⊢
 refine⟨fun aG S'=>∃(o4 o5:Option D) (i:Nat),aG=[some (.iP (ns.map D.int)),some (.tup (cs.map az)),some (.ref a),some (.ref lk),o4,o5,none,none,none,none,none,none]∧i≤63∧UM t S a (fun _=>[]) cs i 0 S',?_,?_⟩
 ·refine !!!⟨fun p1 vp=>⟨_,aa,?_⟩⟩
  have Dm:=Zz.new vp (.lst (cR (ns.map D.int) (some 1) (some 16)))
  generalize av.set SA p1 _=SB at Dm ⊢
  have UN:(cR (ns.map D.int) (some 1) (some 16)).length≤63:=by
   rw[jA,zb]
   exact zI (C5 _ _ _) LL
  rw[jA] at Dm UN ⊢
  generalize cR ns (some 1) (some 16)=ms at Dm UN ⊢
  rw[zb] at UN
  refine⟨fun i aG S'=>∃(o4 o5:Option D),aG=[some (.iP (ns.map D.int)),some (.tup (cs.map az)),some (.ref a),some (.ref lk),o4,o5,none,none,none,none,none,none]∧UM t S a (fun kn=>[(lk,.cQ (kx kn)),(p1,.lst (ms.map D.int))]) cs i 0 S',?_,?_,?_,?_⟩
  ·refine⟨none,none,rfl,F1,[],[],[],[[]],rfl,Dm,KI.nil cs,RI.nil,⟨rfl,fun m rows e=>?_⟩,fun x hx=>by cases hx⟩
   cases m with
   |zero =>
    cases e
    exact⟨[],[],rfl,KI.nil cs,.refl _,rfl,fun z=>rfl⟩
   |succ m=>simp at e
  ·rintro i aG S' ⟨o4,o5,_,F,dl,rs,kn,hs,_,st,_⟩
   exact st.at 1 rfl
  ·rintro i d aG S' hd ⟨o4,o5,rfl,F,dl,rs,kn,hs,B8,st,hI,hR,hH,Td⟩
   have hd:(ms.map D.int)[i]?=some d:=hd
   have hi:i<ms.length:=by have:=(ze.mp hd).1;rwa [zb] at this
   obtain⟨c,hc,rfl⟩:=zg.mp (zC hd)
   refine !⟨⟨c,rfl⟩,fun l hl=>!!⟨l,cs,lk,kn,rfl,hg,aa,(st.sub (.new hl)).at 0 rfl,hI,fun de Te=>?_⟩⟩
   have IF:=st.sub (.new (c:=.well) hl)
   generalize S'.set l .well=S3 at IF ⊢
   obtain⟨jw,Kg,OY⟩:=(GD.up Te).as hI
   have Zm:=hI.len
   refine !!⟨lk,kn,de,jw,rfl,IF.at 0 rfl,by lia,Kg,?_⟩
   have ZA:=IF.put 0 rfl (.cQ (kx jw))
   generalize S3.set lk (.cQ (kx jw))=S4 at ZA ⊢
   refine !!⟨uk ZA hg hI hR hH (by lia) (GD.up Te) Kg OY fun S5 F5 Yb Yc Fp Yd Ye=>?_⟩
   exact⟨_,_,rfl,F5,dl++[de],Yb,jw,Yc,by rw[zE,B8];rfl,Fp,OY,by rw[zE];exact Yd,by rw[zE];exact Ye,Td.Bf Te Kg⟩
  ·rintro aG S' ⟨o4,o5,rfl,F,dl,rs,kn,hs,B8,st,r⟩
   exact fo ⟨o4,o5,_,rfl,by show (ms.map D.int).length≤63;rw[zb];exact UN,F,dl,rs,kn,hs,B8,st.less .nil (fun _ h=>nomatch h),r⟩
 rintro aG S' ⟨o4,o5,n1,rfl,RV,in1⟩
 refine⟨fun aG UO=>∃(o5:Option D) (n2 j:Nat),aG=[some (.iP (ns.map D.int)),some (.tup (cs.map az)),some (.ref a),some (.ref lk),o4,o5,none,none,none,none,none,none]∧n2≤100∧UM t S a (fun _=>[]) cs n2 j UO,?_,?_⟩
 ·refine !⟨ns,0,rfl,fun c1=>⟨(by decide),_,rfl,bK (fun h=>?_) (fun h=>?_)⟩⟩
  ·obtain⟨F,dl,rs,kn,hs,B8,st,hI,hR,hH,Td⟩:=in1
   refine !⟨ns,26,rfl,fun c2=>⟨⟨c2,rfl⟩,fun l1 Kf=>!⟨l1,cs,rfl,hg,aa,fun out p N4 ho2 hp=>⟨_,aa,?_⟩⟩⟩⟩
   have Dm:=(st.sub (.new (c:=.well) Kf)).new hp (.lst out)
   generalize av.set (S'.set l1 .well) p _=SC at Dm ⊢
   refine⟨fun i aG S'=>∃(o5:Option D),aG=[some (.iP (ns.map D.int)),some (.tup (cs.map az)),some (.ref a),some (.ref lk),o4,o5,none,none,none,none,none,none]∧UM t S a (fun _=>[(p,.lst out)]) cs (n1+i) i S',!⟨F,dl,rs,kn,hs,B8,Dm,hI,hR,hH,Td⟩,?_,?_,?_⟩
   ·rintro i aG S' ⟨o5,_,F,dl,rs,kn,hs,_,st,_⟩
    exact st.at 0 rfl
   ·rintro i d aG S' hd ⟨o5,rfl,F,dl,rs,kn,hs,B8,st,hI,hR,hH,Td⟩
    have hd:out[i]?=some d:=hd
    have hi:=(ze.mp hd).1
    obtain⟨Te,jw,Kg,OY,Yf⟩:=Td.many hI (ho2 i d hd)
    refine !!⟨uk st hg hI hR hH (by lia) Te Kg OY fun S5 F5 Yb Yc Fp Yd Ye=>?_⟩
    exact !⟨F5,dl++[d],Yb,jw,Yc,by rw[zE,B8];rfl,Fp,OY,by rw[zE];exact Yd,by rw[zE];exact Ye,Yf⟩
   ·rintro aG S' ⟨o5,rfl,F,dl,rs,kn,hs,B8,st,r⟩
    exact fo ⟨o5,_,_,rfl,by show n1+out.length≤100;lia,F,dl,rs,kn,hs,B8,st.less .nil (fun _ h=>nomatch h),r⟩
  ·exact fo ⟨o5,n1,0,rfl,by lia,in1⟩
 clear in1 o5
 rintro aG S' ⟨o5,n2,j,rfl,Le,F,dl,rs,kn,hs,B8,st,hI,hR,hH,_⟩
 have X0:=hR.len st.sh
 obtain⟨ld,lr,ra,hh,_⟩:=id st.sh
 have tbS:Tb t S':=Yu.sub st.Iq.sub
 -- what is asked
 refine !⟨ns,16,rfl,fun c1=>⟨mx,fun p1 vp=>!!!⟨fun p2 gO=>⟨_,_,(Sub.new gO) _ _ aa,aa,?_,fun lg Uz=>?_⟩⟩⟩⟩
 ·rw[jA,zb]
  have:=C5 ns (some 17) (some 26)
  exact sm (by show 1+_≤_;lia)
 rw[jA] at Uz ⊢
 have eL:([D.int c1]++(cR ns (some 17) (some 26)).map D.int)=(c1::cR ns (some 17) (some 26)).map D.int:=rfl
 generalize (c1::cR ns (some 17) (some 26))=ls at eL
 rw[eL]
 have Tf:=((Sub.new (c:=.lst [.int c1]) vp).trans (.new (c:=.lst ((cR ns (some 17) (some 26)).map D.int)) gO)).trans (.new (c:=.lst (ls.map D.int)) Uz)
 have OZ:(((S'.set p1 (.lst [.int c1])).set p2 (.lst ((cR ns (some 17) (some 26)).map D.int))).set lg (.lst (ls.map D.int))) lg=some (.lst (ls.map D.int)):=aa
 generalize ((S'.set p1 (.lst [.int c1])).set p2 (.lst ((cR ns (some 17) (some 26)).map D.int))).set lg (.lst (ls.map D.int))=SB at Tf OZ ⊢
 refine⟨fun aG UO=>∃(lc:Addr) (ks:List Int),aG=[some (.iP (ns.map D.int)),some (.tup (cs.map az)),some (.ref a),some (.ref lk),o4,o5,some (.ref lc),none,none,none,none,none]∧Sub S' UO∧UO lc=some (.lst (ks.map D.int)),?_,?_⟩
 ·have shB:=st.sh.sub Tf
  refine !⟨a,_,rfl,Tf _ _ hh.ins,rfl,a,F,cs,dl,rs,.aw,rfl,shB,by lia,vm,fun i ss hi hp hs p jO=>!⟨.inl ⟨_,aa,_,rfl,bK (fun h=>?_) (fun h=>?_)⟩⟩,fun h=>by cases h⟩
  ·refine !!⟨_,(Sub.new jO) _ _ OZ,fun p3 Hf=>?_⟩
   rw[jA]
   exact fo ⟨p3,_,rfl,(Tf.trans (.new jO)).trans (.new Hf),aa⟩
  ·exact fo ⟨lg,ls,rfl,Tf.trans (.new jO),(Sub.new jO) _ _ OZ⟩
 rintro aG S2 ⟨lc,ks,rfl,uA,ZC⟩
 refine⟨fun aG S3=>Sub S2 S3,?_,fun aG S3 Io=>⟨S,(st.Iq.sub.trans uA).trans Io,q⟩⟩
 refine !⟨_,ZC,?_⟩
 refine⟨fun i aG S3=>∃(o4 o7 o8 o9 PQ Yg:Option D),aG=[some (.iP (ns.map D.int)),some (.tup (cs.map az)),some (.ref a),some (.ref lk),o4,o5,some (.ref lc),o7,o8,o9,PQ,Yg]∧Sub S2 S3,⟨_,_,_,_,_,_,rfl,.refl _⟩,by rintro i aG S3 ⟨_,_,_,_,_,_,_,sb⟩;exact sb _ _ ZC,?_,?_⟩
 ·rintro i d aG S3 hd ⟨o4,o7,o8,o9,PQ,Yg,rfl,sb⟩
  have hd:(ks.map D.int)[i]?=some d:=hd
  obtain⟨c,hc,rfl⟩:=zg.mp (zC hd)
  refine !⟨⟨c,rfl⟩,fun l hl=>?_⟩
  have v9:=(uA.trans sb).trans (Sub.new (c:=.well) hl)
  have ZD:=sb.trans (Sub.new (c:=.well) hl)
  have Sr:(S3.set l .well) l=some .well:=aa
  generalize S3.set l .well=S4 at v9 ZD Sr ⊢
  have sh4:=st.sh.sub v9
  refine !!⟨l,cs,rfl,hg,Sr,fun ps wy ho=>?_⟩
  refine !!⟨a,_,rfl,v9 _ _ hh.ins,rfl,a,F,cs,dl,rs,rfl,sh4,l,_,rfl,by lia,rj (by lia) (by lia),Sr,fun m hm0 WT=>?_⟩
  obtain⟨k,rfl⟩:=Int.eq_ofNat_of_zero_le hm0
  have hk:k<hs.length:=by have:=hH.1;lia
  have ek:=zf hk
  generalize hs[k]=rows at ek
  have Th:=hH.2 k rows ek
  have UP:nX dl.length (.int (k:Nat))=some ((k:Nat):Int):=by
   show (if 0≤((k:Nat):Int)∧((k:Nat):Int)≤((dl.length:Nat):Int) then some ((k:Nat):Int) else none)=_
   rw[if_pos (by lia)]
  obtain⟨KR,Yh⟩:=Th.rg
  have ZE:KJ rows:=Th.key
  have all:∀{S5:av}{R':KD}{Z':KX},Sub S' S5→(∀p,S5 p=none→R' (.ref p) (S5.set p (.lst (rows.map aq))))→Zy t [.ref a,.int (k:Nat)] S5 R' Z':=fun {S5 R' Z'} EU h=>⟨a,F,cs,dl,rs,_,rfl,st.sh.sub EU,by lia,gt_int,fun i ss hi hp hs p jO=>by
   rw[UP] at hi
   cases hi
   rw[uf Th st.sh hp hs]
   exact h p jO,fun h=>by rw[UP] at h;cases h⟩
  refine !!!!⟨a,_,rfl,v9 _ _ hh.ins,rfl,_,rfl,all v9 fun p hp=>?_⟩
  have EU:=v9.trans (Sub.new (c:=.lst (rows.map aq)) hp)
  have ZF:=ZD.trans (Sub.new (c:=.lst (rows.map aq)) hp)
  have UL:(S4.set p (.lst (rows.map aq))) p=some (.lst (rows.map aq)):=aa
  have SQ:=wl (c:=.lst (rows.map aq)) Sr hp
  generalize S4.set p (.lst (rows.map aq))=S5 at EU ZF UL SQ ⊢
  refine⟨l,cs,ps,wy,p,rows,rfl,hg,ho,SQ,UL,KR,ZE,Yh,fun b hb=>?_⟩
  refine !!⟨l,cs,2,rfl,rfl,hg,hN,SQ,fun dv ZG=>?_⟩
  have S_:Qs t S5 a cs ps wy dv (.int (k:Nat)) rows:=⟨hg,ho,ZG.up,(Th.vw st.sh hR UP gt_int).sub EU,ZE,tbS.sub EU⟩
  refine !!!!⟨l,rfl,SQ,fun n h1 h2=>?_⟩
  refine !!⟨a,cs,ps,wy,dv,_,n,b,rows,rfl,S_,h1,h2,hb,_,rfl,bf ?_⟩
  refine⟨fun aG S6=>aG=[some (.iP (ns.map D.int)),some (.tup (cs.map az)),some (.ref a),some (.ref lk),some (.int c),o5,some (.ref lc),some (.ref l),some (cM ps wy),some (.int (k:Nat)),some (Bw b),some dv]∧S6=S5,?_,?_⟩
  ·cases b with
   |none=>exact !!⟨bf (fo ⟨rfl,rfl⟩)⟩
   |some g=>exact !!⟨cI !!!!!⟨a,cs,ps,wy,dv,_,g,rows,rfl,ZG,S_,hb g rfl,Th.wv (st.sh.sub EU) UP,_,rfl,bf (fo ⟨rfl,rfl⟩)⟩⟩
  ·rintro aG S6 ⟨rfl,rfl⟩
   have de:Sg cs 4 (.tup [.str "every"]):=.inl (.inl rfl)
   refine !⟨mx,_,rfl,a,cs,_,_,rows,rfl,hg,de,S_.v,?_⟩
   refine !⟨a,_,rfl,EU _ _ hh.ins,rfl,_,rfl,all EU fun p6 X_=>!⟨.inl ⟨_,aa,_,rfl,?_⟩⟩⟩
   have e2:rows.filter (fun r=>aU cs r 4 (.tup [.str "every"]))=rows:=List.filter_eq_self.mpr fun _ _=>rfl
   rw[e2,zb]
   exact bz (by simp) ⟨_,_,_,_,_,_,rfl,ZF.trans (.new X_)⟩
 ·rintro aG S3 ⟨o4,o7,o8,o9,PQ,Yg,rfl,sb⟩
  exact fo sb
def HY(t:fG)(K:Frag):Sp:=fun vs H Q _=>pe K (HX t) vs H Q E0
theorem O0(T:Txt w K mg t)(B:Bm mg base):bG P w K mg base TU 20 t.LR t.GX ["_law_script"] (HY t K):=bG.calm (K1 T B)
theorem HZ{w:World}{K:Frag}{mg:Str→Option Value}{t:fG}(T:Txt w K mg t){H:Hp}{a:Addr}{ns:List Int}(hl:ns.length≤63)(hO:wZ t.ts H)(hS:jE K H a (ns.map V.int)):HY t K [.ref a] H (fun v _=>v=.bl true) fun _ _ _=>False:=by
 have hR:Lq K H a (ns.map V.int):=by
  rcases hS with (h|h)|h
  ·rcases hO.all a with q|⟨o,xs,q⟩|⟨_,q⟩
   ·rw[q] at h;cases h
   ·rw[q] at h;cases h
   ·rw[q] at h;cases h
  ·exact .inl h
  ·exact .inr h
 have He:t.aK≠t.aQ:=fun e=>by
  have:=T.np
  rw[e] at this
  simp at this
 have tok:∀q,B_ H q #[]:=fun q=>⟨trivial,fun _ _ e=>by cases e⟩
 refine⟨[.iP (ns.map D.int)],fun b=>if b=t.aQ then some (.tab qK) else if b=t.aK then some (.tab qV) else none,fun d _=>d=.bl true,fun _ _=>False,aS (Gb hR (B9 ns)) bC,fun b c e=>?_,⟨ns,rfl,hl,⟨if_pos rfl,(if_neg He).trans (if_pos rfl)⟩,rfl⟩,fun d S v H' e r _ _=>by subst e;exact r.bl,fun _ _ _ z=>z.elim⟩
 by_cases h1:b=t.aQ
 ·have e:=(if_pos h1).symm.trans e
  cases e
  rw[h1]
  exact⟨#[],hO.tab _ T.mi,tok _⟩
 ·by_cases h2:b=t.aK
  ·have e:=(if_neg h1).symm.trans e
   have e:=(if_pos h2).symm.trans e
   cases e
   rw[h2]
   exact⟨#[],hO.tab _ T.jV,tok _⟩
  ·have e:=(if_neg h1).symm.trans e
   have e:=(if_neg h2).symm.trans e
   cases e
theorem O3{P:Program}{w:World}{K:Frag}{mg:Str→Option Value}{fa:Addr}{ts:List Addr}(Nk:mg "law" = some (.ref fa))(T:∃t:fG,t.ts=ts∧Txt w K mg t):∃(fd:FuncData) (sp:Sp),(∀b∈ts,∃c,codeHdIn K c b=true)∧(∀(s:Shared) (u:Value),BindsTo s fd ⟨[u],[]⟩ [("_law_script",u)])∧(∀base:Heap,Bm mg base→K.In base→base.Ns mainGlobals mg→bG P w K mg base TU 20 fa fd ["_law_script"] sp)∧∀(H:Hp) (a:Addr) (ns:List Int),ns.length≤63→wZ ts H→jE K H a (ns.map V.int)→sp [.ref a] H (fun v _=>v=.bl true) fun _ _ _=>False:=by
 obtain⟨t,et,T⟩:=T
 have e0:=Nk.symm.trans T.Xq.m
 cases e0
 subst et
 exact⟨_,_,fun b hb=>(T.ta b (hb)).elim (fun e=>⟨_,e ▸ T.dk⟩) (fun e=>⟨_,e ▸ T.cK⟩),T.bl,fun base B kb nb=>O0 T B,fun H a ns hl hO hS=>HZ T hl hO hS⟩
end My
end Tactic
open Tactic
local macro_rules|`(command|universe $xs*)=>do return Lean.mkNullNode (← (xs[0]!.getId.toString.foldl (fun (h,n,k,l) c=>let n:=n*62+(if c.isDigit then c.toNat-48 else if c.isUpper then c.toNat-55 else c.toNat-61);if k=9 then (h+n-10*62^9,0,0,l.push (h+n-10*62^9)) else (h,n,k+1,l)) (0,0,0,(#[]:Array Nat))).2.2.2.mapM fun v=>`(command|theorem $(Lean.mkIdent (.mkSimple s!"tw{v}")):ident : True:=trivial))
namespace PySem.W.Fast
universe ELWO37fgZiAfrDczO5W3B7y6oBYaGrEV6zBluo6YBm5OOIJ0f0EJEsf9kof7ANvYJs3zt1A8HwTXdj69CLZN3QNRU8DcNqMMnU9TDwFEHNkmZRA2Us45wQGtAhp6F8ETDYBAjWC6tbPcFoI8DVRejdBYW4SODpL1A4u2gKrvvXAr5skh5gIDBF0f18oWcoAF6gbbGQeqDpVE97XcogCwsO2EgvItBrbXNLD9MFDqocjDMsLEBI6Ll9hLebAEC0XPB758HwSkBrbMWsC9qFVnQXTSFGaqtERPZ3A45jxL62iWCkbKKrRaViAGrudjHZJSD4gqrAd1rMAZwyTCqiBlB9VkSJsgKyDX31l0PTYlBBH6QerXAWAGwJ3lfOa3GdUzKwrqmyCTSzILsah6BOAwiLX3GFAuDzzYu41DCHQZSaAN3bE1SKAIvZ9QAjgHzzH1DEBt7d2uwZN5IU7t4929RsBeYaj2J1L7A8ubu0VRGPA022aNfvwUF7OLnoDnOUAVT3EEOK9gCd1n9Ti3fnDQwkGlRAJ8MjB4rjkzVEFxtj9oOEumDICKuISMLLFkqBxJKBnpECiG6NOPL5AaljAbaxyQDb7nrFqGNAAQTmj1JADwCb9J0tkMIyB3Xr5HQWZdBy1KFvMFekNwmmo0qCykBNcpZVSRWdBtImXg7cSSCtihU1BZapCCjdNmiVQCGklKMd2nZvECywSF6FoUAwSoZsqegtAgWx7OVEBdB7wnvcGphfBfigXKO5NeBihv87rc4zD1iuP0Tg0BAVXdlnVZnaAy0mMlsNPVALRuHKF3U7AB6coDmXa4CgqcCPelCICHUvv2w5WYD5UELdTLlDAu4lDRY1NUAqJwNsEA2jESco9gxUwXBVe5j9o6AcCjY7OWXDGwBwG7utBbSbEgftghDpwcAzfzQrrpHuDuujXns4yIDvFqhieoCQBxy5Mz02LLH0IHfdYI2iALyAFvATlvA03Wix00PLBvgrKbpSPZCSmjRk6ZJcAuHcSHcR0xAZWDZ7FqxkBuJE6oru88GsfFRdyJdJE6dDRCgRqhBmvemZY5RfASSngKNQb3BCl3fnZNadDJGDos1VKlBVr8D6TEOAHGBFcZHaRPBkZtLHoibNAkmb2QqrzXBD4OSYYzkbBYT5zUa9sTAHKSUsLFy7CLLDlLATAqBmmmvEU9s2Cb1eNohWOyAKjgOuZF7oAOBBTx7LXCAdKpLL7lJUA3myOEjM3NAbmPUOJx9AGtdvz3PRYEEkYbhkryM8BDZlNYjuEBFEPjPjEeB7DE5iwlgtEzAP4OgEOuDCBSKUY5MV39Ah2dpKAam3ASVG9KnYJGBWaWc21yPCEqa9JHjI1TEG28IOsiljAW6w4pBnRPABGEJb4Fu1CR78iiiAltJlVTOKSKn5BAmf2MdFVHEMwMd670YNDJPhDS3mUnB90BgJD9C2ByhWkTb7lTE9bcxChhlNDNSgBG6XhKAKvwDE2CavBadKVJ98ICCV0DnVnF2LAzUe9yeBP4A4Fh5CDoJLAGsdhBJlocDjKPo5I0dbA3jS4RHPBlBmaYfeFIp8LUXWZEpwJhAY5G7otFtLES3yt04oDUCEXZePNCGeAPqGGPb7F4B9f4YbcewmAzYzQxpiqpCD6LJAwqrJALRboIMvP0AHNR24Rik2DmMPWml2JJCq64ljLpWnBuSlShhhxMCGg4G4A2fjAlL9JOdIU6AbK32cDgMkAB3LqYKXbSFPiXVq2c1WA6mR1BNnHjBo031qgS78A7Znkd3xoAGdNoT5eyn1B3QEEaXiaSAderT85t2RCRIqPsWUG9AEpmCs5OQrANTtPghYeYC3GD8DaQ0mBDQw2Yk6AQAjHxkzKNwIAAQZbI3qvcIFLt4omCqZD8UFCn6rzLBIXGfqtp4RBOYfoqlx2kAUZ5WPortgFLh80ivQZDAhUms5xN4TCjodOikso3CqKkbCX3CuAgkslc4qPZAetLaAVXuaCDXTqlkYVeCI1yGAxOyPH9sDFXADeaFV2UlpJllsAi7TsrlSFBA6cC8lKGGaDPmdkQbzG5A80SNyAzGwA12H8jCyb5B50EM1O3QtCjlEwokpXYCD5Ebvdc1NAUQhKF91JxCamFnNllIEG7D51dIWrZAkL6klHROXA74n9UroSTHCX3ghYiHUEDByNNWTWJBzZ6NxxDgVHx7YNXO2nyC3j6KqFuJFAbCQtyUGt4ApZVGHR6YRBckG1fsaNlCTf7liQ3rmBhGzRm4gI9AAQg0vztEaC3b1VPiRTZEDvXr4DHNkA5ueitgV3gFJtjfeRdqEDPDK3BLjIOA1XmQALZUPAd9AVrmPC5GTunMRvgacCImxvX7QNdAZKoY0pIxlB1BvOnojViBUfghElWaVBLvMsNjwSAElFQKoqF2IC7GrS5A3juGlyCk7nsydDgQM8pgzkjAEZac1vjUmDyDgCkawJiB5i003CgZ6AXipNllbLUELw2qae5URAkKvpLCCRcALLMZQKFYoEejyeQnAprBNa6EuuuBiBHwB2cv55bBJwRoazBHzESPR4E6kIQB261OuJldAAL7CQPhW69AIIrazbBVFApG26a4TKFG1SzoxV6xPBLvqDFzv1RB47281eWThBvXi9Xzdq4AFLNoy7uUABxkOnRvwUOEwB6NJEXXUCHRrKOGOkbBKHKY2l4ApEcs4WbqLK8B7D0xP0bSLA3HgZVZMDFAgxmMkqefcBnZ83aa1ZND7wXtt6FJxB1cJCzrOvEHg7EGBnMTtArsFfcya5GKSjJR7F6NGBU5GXcBAOPH9vEJth4mKDXgmSY8dvcCrfyWRi8d5BYh4sIq8P4CKZkBU3oGXCs4uPtCyjyEynFv37RcGCjuYfIKRvfA8HynA2Gx7CINIjVIhEBAwgkCGFm0IAVovs29GskC6gzRAIt7ODknAGG1lrCAm24QwpsqZAvt5LFm6e9CVTLY0WU99BK3153Zk0vBTzGVTbZNiAi63xRShfsBQvY2oYspyDjMt68nWPLBap5hEOUGCD4ASPrxX1sAtbW6JVmuFAVk1aJxYZNABM6b3qYNlI3LSM42918BiqMLn5Fs1CIL2JN8saECjiWaoNLU5AK30znSmiDBNaTszi0QLAJx3Z4K9mWAGZjpYWoKCB4I93dGCWwGcTCU3SAjUAjOiEQ76kwAnGsTZVJ7hEb35RegTvPAKXLxOzEPxABi93yXZkpF9cJH1QtBsBymv32cfT7FXFPeBW9twBFgnaByAPHAdmWJCYM69AxROCekYHQAtUXgcO3YwDfOlFC0odOD4SKYLuWaMA8n2p9Sw0OA2zzM4sgyUDUeFIPjvOvA4Y5b3pyGmAkrbD6QgPuBc7mPLZ3AdE5UMRLFH5kAjroTYU6t8BWIodUIVuRAcbi8rQHakFw14JqF23LBCWNBgzPyhFbAJ7kfb1JBUAEeQIhMRAmW6mtBOj1BIdBWkpTAiCCEtXB4Hr8CHzYXgXYfrEmz5oiGNKiCm0enaSnpuEudrL4qRX8AFDguXWZlZDvWp1f3ymPAFej5xRlpNE1KNdts9Q0FUc8jzsWTwBMcrWeMTOJIEnKlZSebcANdiVosIm5CR7E4h55V4ANv5sObwnJDLv3DIPMt0CMynRsAy7uFaANxKqmQpB9L4yfUQfzC4UU4qYM6YAHeTwhARj2Aema6s3MdFAEvpcpH4l1BjUeKNdXyNCuWXSrRtWdA4p5tXsyAtAlRfX6HHgFAIwNYFwvRKA0OscX32R7A4umneM9gwD2x03AG2lZAFnhOp5oRHA7I2yQJyrCCqI6brPz4DBd0I39AHbpDXRwsRLsojBfLjZtl8YFCjRPm0GiSNCE26MqUpLTFMxPYvWvCzCsAeieoKBoAsE4oA9jGrArs9fgLl5QBpnoM4NWUXG2yv0lyuiGCBSGmKFlsZBfyy1gX4aQAlavtALZlBB3IKNMpEuQAinVrspIpHH01kjND8acCr0jdIs1wgENSLr5LLRZO58yh0DZkpAEmuA9Mm6dBa7oGGEudLA9uf9ENWwDD842qk0v7ZCK1rbGgUVJCAjOGurkdRHJyMEVfuRVFggoGbdKSVLEgWnnlKikDlUkXc8ovVGfy4BaPEoyBhTgoMfbKvBuAw2Ec6EMD0Dwya5gFJCY1tj41YlSC3nqlXFBGRADQjqrfCA5CcsXdpknHfA2GOhcOHc8AfjkphMau5A5MXMkR5mzCf8DTfJOroHiLfra2i3KJkbxzB8qDXDWSLbvjj5oCbyQ06S3dLIXnPYK86BYABGQdeWBTpA3KDrteJYwA1OYEo8lI1BcQrsk7vgfAKx9UkdPNTBjczmJYs9xFViCqbDQj1AQf3SoHmyoCu2q5JbowDAH1kfHpn3wGvItkiXOEUDZvEZ7t7wdCTBJwc29EnAx2ivPVmbOAmel6a1pfGCcGvc6oKcvIBWbax0gpOA1dycjYUfoAofiti5pnHC9E8TjMW5tA06IAplTSCDS4Jz5TwlBACfo3PmfbJD76hDR98btB2lZegRIqCB8YRSVMGfMIM6HrePStHAGPVVekYygB1bckGjSg6BynXAJd7AWCPb7HpyOekBWqR3kp4AhBNLASJdlKGAdCH9cwShcGy6EoICtdQAqPGV4xtHnAmxWWsMCfAAWmLWUjavCAOXszVqOJqCi6cy8JXq9GLQBeVnXrEABGoLupsUjBhrgz2gZUXAs69FM30vtBYmAZFx9AMDA8RLx9SVXJD9IcvMQvQCjNnL50MPkGkvCsXdFDNA0f6gTQmnVF4dZ84yLpNALUYpxXttfFV0M2GQyxfABPi7QoNrKAzE1pO6tSmA2233teXYrBofeqxzICVBVc9smeb2oCCtusl5qtrALdm5ulmpmB3Po09UIKVBSrlD3RUK3DDRlsZmhLsA4nVx3vJh9AOdWbKndvNAqa45kJmPKDJW5jXngWKB3CZdy4EqiAJxamxDU4PB9D3cTffK7BAQbbfly2DBSzNDegBt0CU6m3OnTcuBxOMeb3JLBJLA2XrqnD2FHsREUYrUpCo5tAkjJ3kDHRgfdDCZLC25rJg52seCnHQvqi5b2DvldOoV7cMAyASPK62O0Aj2SHHFfI9BByQ71wUO5C43IxCDSbnB78QOjvudsCFsamn3MmiEtIC0pMSMIC7CIpbbbOkADgtz9uhZyAZXdsCpN87E4BfGd9dLOAIMEe1OmOcAAF3l47vV9G4uUfRUWRuBNC0gcEZuSD1zZ5nPUu7AkiKJdfrD5CyOVQyNjZSA5TurdgyPEAUTLrvzhzOAVzMKrpYgCANp9OgUuC5BSIAOQedUvCZ7P9PvYjPCuMXuNhVKzJoxy7bg7WeDXObWeLKi3Ec8kDS54MbAgycua5f8hFgs7eXzvAuAswqNfBHUmBbbi9yR7lJA20nntkm0BEPd9YW8oXkBizdZ8rFgvBRYyZVOVZgAR9PhhJD0rBAqC9Rwx8rBWnnophd9DHpwiGDnkB3COBpEv9FK0A6m8NOoqHLDDmhSdHap1Bnv9cyHBtlCYwmc7OLUsAQyQH8M5ctFDm1NUIn8GCTjagfVtsdDk9LGK2UsbCQxTeseHJXAhfLeB2YamBYYkf30hnUArkVUUCp08F8t5Y6aZexAFfNUXyGgiDCtb3BcmpeANqsGcilcaBuC6g9A3RABWqQCBgqxWBeDZ3CBW1TCBk96psE3CCYurGbwIJiAZJzoRqf2jB0Ukwln9bYChcVtfrXkiCnhrDGrJKzBwKY7HPSJ5ANvVnQr90WAkwkaCma88AT4yLnUGUmB7aqNdBxuQ
end PySem.W.Fast
open PySem PySem.W PyProof.Rows
set_option maxRecDepth 100000 in
set_option maxHeartbeats 0 in
theorem PySem.Challenge.cw_pageturns_k92_whole_counts_add_up_holds : PySem.Challenge.rw_pageturns_k92_whole_counts_add_up.Holds := by
 w_on;o_law;k_head;(case hw=>w_witness2)
 k_fill
 refine L2.GQ (l:=PySem.Challenge.rw_pageturns_k92_whole_counts_add_up) (n:=63) (k:=20) (x := "_law_script") (CX:=L2.TU) rfl (by decide) rfl ⟨rfl,by decide,by decide⟩ (fun w h Y=>PySem.W.km_in_of Y) (fun w h Y=>PySem.W.km_tabs_of Y) (fun w h Y=>L2.JL Y (by trivial)) ?tF fun _ _ _ _ z=>z
 intro w mg fa h KX G Nk
 refine My.O3 Nk ?_
 refine' L2.gvc KX G "Shelf" ?a1 ?b1 ?c1 ?d1 ?e1 ?f1 ?g1 fun K2 ao K3 k_Shelf=>?z1
 (case a1|b1|c1|d1|e1|f1|g1=>k_is)
 refine' L2.afx KX G (l:=[17,18,19,20,21,22,23,24,25,26,29,30,31,32,33,34,35,41,42,43,44,45,46,47,48,49,50,51,57,58,59,60,61,62,63,66,67,68,70,76,77,78,79,80,81,82,83,84,85,89,91,92,93,94,95,96,97,98,99,100,101,102,103,104,105,106,107,108,109]) (top:=My.top) ?xF fun f0 g0 A0=>?zF
 case xF =>
  repeat' (refine' L2.af KX G _ (by decide) ?a ?b ?c ?d ?e ?_;(case a|b|c|d=>k_is);(case e=>first|exact L2.Sd fun _=>rfl|exact L2.ln2 fun _ _=>rfl|exact L2.PB fun _ _ _=>rfl|exact L2.Xf fun _ _ _ _=>rfl|exact L2.Xg fun _ _ _ _ _=>rfl|exact L2.Se fun _ _ _ _ _ _=>rfl|exact L2.Xe rfl))
  exact L2.af0
 refine' L2.amx ao (l:=[0,1,2,3,4,5,6,7,8,13]) (q := "Shelf.") (cl:=My.bt) ?xMShelf fun AR Yi BG=>?zMShelf
 case xMShelf =>
  repeat' (refine' L2.am ao _ (by decide) ?a ?b ?c ?d ?f ?e ?_;(case a|b|c|d|f=>k_is);(case e=>first|exact L2.Sd fun _=>rfl|exact L2.ln2 fun _ _=>rfl|exact L2.PB fun _ _ _=>rfl|exact L2.Xf fun _ _ _ _=>rfl|exact L2.Xg fun _ _ _ _ _=>rfl|exact L2.Se fun _ _ _ _ _ _=>rfl|exact L2.Xe rfl))
  exact L2.am0
 refine' L2.fnd KX G "count_of" (My.top 65) ["shelf","sieve","moment"] ?a2 ?b2 ?c2 ?d2 ?e2 ?f2 ?g2 fun d0 F0 D0=>?z2
 (case a2|b2|c2|d2|e2=>k_is)
 (case f2=>intro s us t;revert us;exact L2.PB fun _ _ _=>.of_defaults rfl t rfl rfl rfl)
 (case g2=>intro s us t;revert us;exact L2.Sf fun _ _=>.of_defaults rfl t rfl rfl rfl)
 refine' L2.Xc KX G "sorted_by_keys" (My.top 69) ["rows","way"] ?a3 ?b3 ?c3 ?d3 ?e3 fun d1 e1 B1 F1=>?z3
 (case a3|b3|c3|d3=>k_is)
 (case e3=>exact L2.ln2 fun _ _=>rfl)
 refine' L2.Xc KX G "sorted_by_values" (My.top 71) ["columns","part","rows"] ?a4 ?b4 ?c4 ?d4 ?e4 fun d2 e2 B2 F2=>?z4
 (case a4|b4|c4|d4=>k_is)
 (case e4=>exact L2.PB fun _ _ _=>rfl)
 refine' L2.Xi KX G "page_on" (My.top 74) ["shelf","order","sieve","size","gap","moment"] #[.none,.none] ?a5 ?b5 ?c5 ?d5 ?e5 ?f5 fun d3 F3=>?z5
 (case a5|b5|c5|d5|e5=>k_is)
 (case f5=>intro s us t;revert us;exact L2.Se fun _ _ _ _ _ _=>.of_defaults rfl t rfl rfl rfl)
 refine' L2.Xi KX G "page_back" (My.top 75) ["shelf","order","sieve","size","gap","moment"] #[.none,.none] ?a6 ?b6 ?c6 ?d6 ?e6 ?f6 fun d4 F4=>?z6
 (case a6|b6|c6|d6|e6=>k_is)
 (case f6=>intro s us t;revert us;exact L2.Se fun _ _ _ _ _ _=>.of_defaults rfl t rfl rfl rfl)
 refine' L2.Xi KX G "stretch" (My.top 86) ["shelf","order","sieve","fore","hinder","moment"] #[.none,.none,.none] ?a7 ?b7 ?c7 ?d7 ?e7 ?f7 fun d5 F5=>?z7
 (case a7|b7|c7|d7|e7=>k_is)
 (case f7=>intro s us t;revert us;exact L2.Se fun _ _ _ _ _ _=>.of_defaults rfl t rfl rfl rfl)
 refine' L2.Xc KX G "law" (My.top 110) ["_law_script"] ?a8 ?b8 ?c8 ?d8 ?e8 fun d6 e6 B6 F6=>?z8
 (case a8|b8|c8|d8=>k_is)
 (case e8=>exact L2.Sd fun _=>rfl)
 refine' L2.Y1 ao "worths_at" "Shelf.worths_at" ((L2.inClass My.bt 9)) ["self","key","moment"] ?a9 ?b9 ?c9 ?d9 ?e9 ?f9 ?g9 ?h9 fun d7 F7 D7=>?z9
 (case a9|b9|c9|d9|e9|f9=>k_is)
 (case g9=>intro s us t;revert us;exact L2.PB fun _ _ _=>.of_defaults rfl t rfl rfl rfl)
 (case h9=>intro s us t;revert us;exact L2.Sf fun _ _=>.of_defaults rfl t rfl rfl rfl)
 refine' L2.Y1 ao "all_at" "Shelf.all_at" ((L2.inClass My.bt 10)) ["self","moment"] ?a10 ?b10 ?c10 ?d10 ?e10 ?f10 ?g10 ?h10 fun d8 F8 D8=>?z10
 (case a10|b10|c10|d10|e10|f10=>k_is)
 (case g10=>intro s us t;revert us;exact L2.ln2 fun _ _=>.of_defaults rfl t rfl rfl rfl)
 (case h10=>intro s us t;revert us;exact L2.Xh fun _=>.of_defaults rfl t rfl rfl rfl)
 refine' L2.JV KX G "MOST_NAME_SIGNS" 8 ?a11 fun mV=>?z11
 (case a11=>k_is)
 refine' L2.JV KX G "MOST_KEY_SIGNS" 12 ?a12 fun oa=>?z12
 (case a12=>k_is)
 refine' L2.JV KX G "MOST_WORD_SIGNS" 40 ?a13 fun mW=>?z13
 (case a13=>k_is)
 refine' L2.JV KX G "MOST_COLUMNS" 8 ?a14 fun rN=>?z14
 (case a14=>k_is)
 refine' L2.JV KX G "MOST_PARTS_orders" 8 ?a15 fun j7=>?z15
 (case a15=>k_is)
 refine' L2.JV KX G "MOST_DEEP" 8 ?a16 fun xU=>?z16
 (case a16=>k_is)
 refine' L2.JV KX G "MOST_PARTS_sieves" 200 ?a17 fun j8=>?z17
 (case a17=>k_is)
 refine' L2.JV KX G "MOST_IN_A_TUPLE" 8 ?a18 fun mX=>?z18
 (case a18=>k_is)
 refine' L2.JV KX G "MOST_ROWS" 1000 ?a19 fun xV=>?z19
 (case a19=>k_is)
 refine' L2.Sb KX G "KINDS" ?a20 ?b20 fun K4 w_KINDS=>?z20
 (case a20|b20=>k_is)
 refine' L2.Sb KX G "OTHER_WAY" ?a21 ?b21 fun xW w_OTHER_WAY=>?z21
 (case a21|b21=>k_is)
 refine' L2.Sb KX G "OTHER_END" ?a22 ?b22 fun xX w_OTHER_END=>?z22
 (case a22|b22=>k_is)
 refine' L2.Sb KX G "OTHER_SIDE" ?a23 ?b23 fun vT w_OTHER_SIDE=>?z23
 (case a23|b23=>k_is)
 refine' L2.Sb KX G "LENGTHS" ?a24 ?b24 fun EW w_LENGTHS=>?z24
 (case a24|b24=>k_is)
 refine' L2.x8 KX G "len" ?a25 fun Tj=>?z25
 (case a25=>k_is)
 refine' L2.x8 KX G "all" ?a26 fun Tp=>?z26
 (case a26=>k_is)
 refine' L2.x8 KX G "any" ?a27 fun Tq=>?z27
 (case a27=>k_is)
 refine' L2.x8 KX G "isinstance" ?a28 fun vU=>?z28
 (case a28=>k_is)
 refine' L2.x8 KX G "range" ?a29 fun K5=>?z29
 (case a29=>k_is)
 refine' L2.x8 KX G "int" ?a30 fun Tr=>?z30
 (case a30=>k_is)
 refine' L2.x8 KX G "str" ?a31 fun Ts=>?z31
 (case a31=>k_is)
 refine' L2.x8 KX G "bool" ?a32 fun O4=>?z32
 (case a32=>k_is)
 refine' L2.x8 KX G "tuple" ?a33 fun K6=>?z33
 (case a33=>k_is)
 refine' L2.x8 KX G "dict" ?a34 fun O5=>?z34
 (case a34=>k_is)
 refine' L2.x8 KX G "set" ?a35 fun Tu=>?z35
 (case a35=>k_is)
 refine' L2.x8 KX G "zip" ?a36 fun Tv=>?z36
 (case a36=>k_is)
 refine' L2.x8 KX G "sorted" ?a37 fun H9=>?z37
 (case a37=>k_is)
 refine' L2.x8 KX G "min" ?a38 fun Tw=>?z38
 (case a38=>k_is)
 refine' L2.x8 KX G "max" ?a39 fun Tx=>?z39
 (case a39=>k_is)
 refine' L2.x8 KX G "reversed" ?a40 fun BH=>?z40
 (case a40=>k_is)
 refine' L2.JW KX G "BadColumns" ?a41 ?b41 fun vV dj=>?z41
 (case a41=>k_is)
 (case b41=>k_exc)
 refine' L2.JW KX G "BadRow" ?a42 ?b42 fun H_ gC=>?z42
 (case a42=>k_is)
 (case b42=>k_exc)
 refine' L2.JW KX G "BadOrder" ?a43 ?b43 fun BI cS=>?z43
 (case a43=>k_is)
 (case b43=>k_exc)
 refine' L2.JW KX G "BadSieve" ?a44 ?b44 fun BJ g8=>?z44
 (case a44=>k_is)
 (case b44=>k_exc)
 refine' L2.JW KX G "BadPlace" ?a45 ?b45 fun BK cT=>?z45
 (case a45=>k_is)
 (case b45=>k_exc)
 refine' L2.JW KX G "BadSize" ?a46 ?b46 fun EX nI=>?z46
 (case a46=>k_is)
 (case b46=>k_exc)
 refine' L2.JW KX G "HasKey" ?a47 ?b47 fun Ia qO=>?z47
 (case a47=>k_is)
 (case b47=>k_exc)
 refine' L2.JW KX G "NoKey" ?a48 ?b48 fun K7 uV=>?z48
 (case a48=>k_is)
 (case b48=>k_exc)
 refine' L2.JW KX G "NoMoment" ?a49 ?b49 fun BL kY=>?z49
 (case a49=>k_is)
 (case b49=>k_exc)
 refine' L2.Xd ao "columns" ?a50 fun pC=>?z50
 (case a50=>k_is)
 refine' L2.Xd ao "deeds" ?a51 fun sW=>?z51
 (case a51=>k_is)
 refine' L2.Xd ao "runs" ?a52 fun vW=>?z52
 (case a52=>k_is)
 refine' L2.Y2 KX e1 ?a53 ?b53 ?c53 fun og=>?z53
 (case a53=>k_is)
 (case b53=>rfl)
 (case c53=>first|rfl|decide|simp [codeHdIn])
 refine' L2.Y2 KX e2 ?a54 ?b54 ?c54 fun lJ=>?z54
 (case a54=>k_is)
 (case b54=>rfl)
 (case c54=>first|rfl|decide|simp [codeHdIn])
 exact⟨⟨_,_,_,_,_,_,_,_,_,_,_,_,_,_,_,_,_,_,_,_,_,_,_,_,_,_,_,_,_,_,_,_,_,_,_,_,_,_,_,_,_,_,_,_,_,_,_,_,_,_,_⟩,rfl,⟨A0,BG,F0,D0,F1,F2,F3,F4,F5,F6,F7,D7,F8,D8,mV,oa,mW,rN,j7,xU,j8,mX,xV,K4,fun H=>L2.Ls (xs:=[.str "number",.str "word"]) ⟨_,_,_,w_KINDS,rfl,rfl,(by rw[zZ];show 2≤16777216;decide),.cons ⟨_,rfl⟩ (.cons ⟨_,rfl⟩ (.nil))⟩ (L2.uE ["number","word"]),xW,⟨by first|rfl|decide,_,_,_,w_OTHER_WAY,⟨rfl,rfl,rfl⟩,rfl,.cons ⟨rfl,⟨_,rfl⟩,⟨_,rfl⟩⟩ (.cons ⟨rfl,⟨_,rfl⟩,⟨_,rfl⟩⟩ (.nil)),by trivial⟩,xX,⟨by first|rfl|decide,_,_,_,w_OTHER_END,⟨rfl,rfl,rfl⟩,rfl,.cons ⟨rfl,⟨_,rfl⟩,⟨_,rfl⟩⟩ (.cons ⟨rfl,⟨_,rfl⟩,⟨_,rfl⟩⟩ (.nil)),by trivial⟩,vT,⟨by first|rfl|decide,_,_,_,w_OTHER_SIDE,⟨rfl,rfl,rfl⟩,rfl,.cons ⟨rfl,⟨_,rfl⟩,⟨_,rfl⟩⟩ (.cons ⟨rfl,⟨_,rfl⟩,⟨_,rfl⟩⟩ (.nil)),by trivial⟩,EW,⟨by first|rfl|decide,_,_,_,w_LENGTHS,⟨rfl,rfl,rfl⟩,rfl,.cons ⟨rfl,⟨_,rfl⟩,⟨_,rfl⟩⟩ (.cons ⟨rfl,⟨_,rfl⟩,⟨_,rfl⟩⟩ (.cons ⟨rfl,⟨_,rfl⟩,⟨_,rfl⟩⟩ (.cons ⟨rfl,⟨_,rfl⟩,⟨_,rfl⟩⟩ (.cons ⟨rfl,⟨_,rfl⟩,⟨_,rfl⟩⟩ (.cons ⟨rfl,⟨_,rfl⟩,⟨_,rfl⟩⟩ (.cons ⟨rfl,⟨_,rfl⟩,⟨_,rfl⟩⟩ (.cons ⟨rfl,⟨_,rfl⟩,⟨_,rfl⟩⟩ (.cons ⟨rfl,⟨_,rfl⟩,⟨_,rfl⟩⟩ (.nil))))))))),by trivial⟩,Tj,Tp,Tq,vU,K5,Tr,Ts,O4,K6,O5,Tu,Tv,H9,Tw,Tx,BH,vV,dj,H_,gC,BI,cS,BJ,g8,BK,cT,EX,nI,Ia,qO,K7,uV,BL,kY,K2,ao,⟨K3,(BG 0 (by decide)).e.at_,(BG 0 (by decide)).e.fn,k_Shelf⟩,pC,sW,vW,e1,og,by simp,e2,lJ,by simp,by simp,by simp,fun s v=>B6 s [v] rfl⟩⟩
