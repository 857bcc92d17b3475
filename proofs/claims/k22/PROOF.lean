import PyProof.Rows.All
import Wide.All
import OpenK.AllK
import Wide.FinOn
import Lean
import PyProof.EqAt
import PyProof.EqKinds
import PyProof.TupleCall
import PyProof.NsDelKeeps
import KE.KIsBytes
import PyProof.Rows.SetFrom
import KE.KDictOf
import PyProof.AttrMissSeq
import PyProof.WalksMore
import PyProof.ZipIter
import PyProof.StrBlock2
import PyProof.StrBlockI
import PyProof.Rows.StrJoin2
import PyProof.Rows.CountFlat
import PyProof.Rows.Range3
import PyProof.SumWalkG
import PyProof.Rows.ListMulArg
import PyProof.FactsAll.tuple
import PyProof.EnumFor
import PyProof.EnumMake
import KE.KDictLaws
import KE.KDictSum
import KE.KRevIter
import PyProof.Rows.SortStr
import PyProof.Rows.SortWalk
import PyProof.AutoListH
import PyProof.StrLawsReplace
import PyProof.Rows.SortShellK
import KE.KLam
import KE.KSortKey
import KE.KNestM
import PyProof.EnumStmt
import PyProof.ListMulRoad
import PySem.Challenge.RW_pageturns_k22_no_plain_answer
set_option compiler.extract_closed false
local macro_rules|`(tactic| trivial)=>`(tactic| decide +kernel)
set_option Elab.async false
set_option linter.all false
set_option maxRecDepth 100000
namespace Tactic
open PySem.W (instObj methodObj hideAll hideAll_get of_hideAll Frag lookIn plainGet hasDictIn findIn handedIn plainGet_of isFn plainOver takerIn makesIn emptyDict looks_findIn specialIn keepIn mroIn kitOne kia_one kitx_list fnOf codeIn excIn Looks KitX kitAny callWith_K methodCall_KW envX kla_fn codeHdIn tabObj codeHd_of_K nsIn mg_of)
theorem za:type_of% @PySem.wpAny_bind:=@PySem.wpAny_bind
theorem zb:type_of% @PySem.Heap.get?_push_of_some:=@PySem.Heap.get?_push_of_some
theorem zc:type_of% @List.length_map:=@List.length_map
theorem zd:type_of% @Bool.false_ne_true:=@Bool.false_ne_true
theorem ze:type_of% @List.mem_cons:=@List.mem_cons
theorem zf:type_of% @List.mem_map:=@List.mem_map
theorem zg:type_of% @PySem.wpAny_pure:=@PySem.wpAny_pure
theorem zh:type_of% @List.size_toArray:=@List.size_toArray
theorem zi:type_of% @List.mem_singleton:=@List.mem_singleton
theorem zj:type_of% @List.getElem?_eq_getElem:=@List.getElem?_eq_getElem
theorem zk:type_of% @Nat.lt_of_lt_of_le:=@Nat.lt_of_lt_of_le
theorem zl:type_of% @List.length_append:=@List.length_append
theorem zm:type_of% @List.not_mem_nil:=@List.not_mem_nil
theorem zo:type_of% @Nat.le_refl:=@Nat.le_refl
theorem zp:type_of% @List.mem_cons_of_mem:=@List.mem_cons_of_mem
theorem zq:type_of% @PySem.Heap.get?_push_size:=@PySem.Heap.get?_push_size
theorem zr:type_of% @List.getElem?_eq_some_iff:=@List.getElem?_eq_some_iff
theorem zt:type_of% @PySem.Heap.lt_size:=@PySem.Heap.lt_size
theorem zu:type_of% @of_decide_eq_true:=@of_decide_eq_true
theorem zw:type_of% @decide_eq_false:=@decide_eq_false
theorem zx:type_of% @List.mem_cons_self:=@List.mem_cons_self
theorem zy:type_of% @Nat.ne_of_lt:=@Nat.ne_of_lt
theorem zA:type_of% @List.mem_append_right:=@List.mem_append_right
theorem zB:type_of% @List.getElem?_map:=@List.getElem?_map
theorem zC:type_of% @List.mem_append:=@List.mem_append
theorem zD:type_of% @decide_eq_true:=@decide_eq_true
theorem zE:type_of% @List.length_cons:=@List.length_cons
theorem zF:type_of% @List.map_map:=@List.map_map
theorem zG:type_of% @List.length_replicate:=@List.length_replicate
theorem zH:type_of% @List.getD_eq_getElem?_getD:=@List.getD_eq_getElem?_getD
theorem zI:type_of% @of_decide_eq_false:=@of_decide_eq_false
theorem zJ:type_of% @List.lookup_cons:=@List.lookup_cons
theorem zK:type_of% @List.mem_of_getElem?:=@List.mem_of_getElem?
theorem zL:type_of% @Nat.le_trans:=@Nat.le_trans
theorem zM:type_of% @List.map_cons:=@List.map_cons
theorem zN:type_of% @List.map_append:=@List.map_append
theorem zO:type_of% @Bool.true_and:=@Bool.true_and
theorem zP:type_of% @Bool.and_eq_true:=@Bool.and_eq_true
theorem zQ:type_of% @PySem.F.plainAttrs_list:=@PySem.F.plainAttrs_list
theorem zR:type_of% @Bool.false_and:=@Bool.false_and
theorem zS:type_of% @Option.some.inj:=@Option.some.inj
theorem zT:type_of% @PySem.sizeLine_eq:=@PySem.sizeLine_eq
theorem zU:type_of% @List.mem_append_left:=@List.mem_append_left
theorem zV:type_of% @List.find?_cons:=@List.find?_cons
theorem zW:type_of% @List.mem_range:=@List.mem_range
theorem zX:type_of% @PySem.wpAny_field:=@PySem.wpAny_field
theorem zY:type_of% @PySem.mem_of_lookup:=@PySem.mem_of_lookup
theorem zZ:type_of% @List.map_congr_left:=@List.map_congr_left
theorem z0:type_of% @decide_eq_true_eq:=@decide_eq_true_eq
theorem ya:type_of% @Nat.zero_le:=@Nat.zero_le
theorem yb:type_of% @List.length_take:=@List.length_take
theorem yc:type_of% @PySem.F.slot_list_append:=@PySem.F.slot_list_append
theorem yd:type_of% @PySem.F.type_list_append:=@PySem.F.type_list_append
theorem ye:type_of% @Array.length_toList:=@Array.length_toList
theorem yf:type_of% @PySem.wpAny_newObj_type:=@PySem.wpAny_newObj_type
theorem yg:type_of% @List.all_eq_true:=@List.all_eq_true
theorem yh:type_of% @PySem.wpAny_mono:=@PySem.wpAny_mono
theorem yi:type_of% @PySem.wpAny_truthy_bool:=@PySem.wpAny_truthy_bool
theorem yj:type_of% @Nat.ne_of_gt:=@Nat.ne_of_gt
theorem yk:type_of% @PySem.Heap.size_push:=@PySem.Heap.size_push
theorem ym:type_of% @PySem.F.slot_dict_get:=@PySem.F.slot_dict_get
theorem yn:type_of% @List.nodup_cons:=@List.nodup_cons
theorem yo:type_of% @PySem.Heap.SameBut.update:=@PySem.Heap.SameBut.update
theorem yp:type_of% @PySem.Calls.spliced_cons:=@PySem.Calls.spliced_cons
theorem yq:type_of% @PySem.wpAny_call_entry:=@PySem.wpAny_call_entry
theorem yr:type_of% @Nat.lt_irrefl:=@Nat.lt_irrefl
theorem yt:type_of% @PySem.wpAny_holding:=@PySem.wpAny_holding
theorem yu:type_of% @List.foldl_cons:=@List.foldl_cons
theorem yw:type_of% @PySem.codeAny_builtin:=@PySem.codeAny_builtin
theorem yx:type_of% @List.take_length:=@List.take_length
theorem yy:type_of% @decide_eq_decide:=@decide_eq_decide
theorem yz:type_of% @Sum.inr.inj:=@Sum.inr.inj
theorem yA:type_of% @Nat.le_of_lt:=@Nat.le_of_lt
theorem yB:type_of% @Bool.eq_iff_iff:=@Bool.eq_iff_iff
theorem yC:type_of% @List.append_nil:=@List.append_nil
theorem yD:type_of% @List.any_cons:=@List.any_cons
theorem yE:type_of% @Bool.false_or:=@Bool.false_or
theorem yF:type_of% @PySem.wpAny_seqItems:=@PySem.wpAny_seqItems
theorem yG:type_of% @PySem.call_meets:=@PySem.call_meets
theorem yH:type_of% @PySem.codeAny_mono:=@PySem.codeAny_mono
theorem yI:type_of% @Nat.le_succ:=@Nat.le_succ
theorem yJ:type_of% @PySem.wpAny_of_eq:=@PySem.wpAny_of_eq
namespace L2
open PySem PySem.Spec PyProof.Rows
abbrev Key:=Sum Int Str
def keyIs:Key→Value→Bool
 |.inl k,v=>Value.isInt k v
 |.inr x,v=>Value.isStrOf x v
def VW(w:World):Key→Int
 |.inl k=>hashInt k
 |.inr x=>hashStr w x
theorem bu:∀{k:Key}{v:Value},keyIs k v=true→(∃i t,k=Sum.inl i∧v=Value.int i t)∨(∃x t,k=Sum.inr x∧v=Value.str x t)
 |.inl i,v,h=>by
  obtain⟨t,e⟩:=Value.isInt_shape (k:=i) (v:=v) h
  exact .inl ⟨i,t,rfl,e⟩
 |.inr x,v,h=>by
  obtain⟨t,e⟩:=Value.isStrOf_shape (x:=x) (v:=v) h
  exact .inr ⟨x,t,rfl,e⟩
theorem C_(i:Int)(t:Tok):keyIs (.inl i) (.int i t)=true:=by simp [keyIs,Value.isInt]
theorem Dc(x:Str)(t:Tok):keyIs (.inr x) (.str x t)=true:=by simp [keyIs,Value.isStrOf]
theorem MC(a b:Int):decide ((Sum.inl a:Key)=Sum.inl b)=(a == b):=by
 by_cases e:a=b
 ·subst e;simp
 ·have h:¬ (Sum.inl a:Key)=Sum.inl b:=fun q=>e (Sum.inl.inj q)
  rw[zw h]
  exact (beq_eq_false_iff_ne.mpr e).symm
theorem MD(a b:Str):decide ((Sum.inr a:Key)=Sum.inr b)=decide (a=b):=by
 by_cases e:a=b
 ·subst e;simp
 ·have h:¬ (Sum.inr a:Key)=Sum.inr b:=fun q=>e (yz q)
  rw[zw h,zw e]
theorem ME(a:Int)(b:Str):decide ((Sum.inl a:Key)=Sum.inr b)=false:=zw (fun q=>nomatch q)
theorem MF(a:Str)(b:Int):decide ((Sum.inr a:Key)=Sum.inl b)=false:=zw (fun q=>nomatch q)
def aF(prog:Program)(w:World):PySem.KeyKind prog w Key where
 is:=keyIs
 hash:=VW w
 inj:=fun v a b ha hb=>by
  rcases bu ha with ⟨i,t,rfl,rfl⟩|⟨x,t,rfl,rfl⟩
  ·rcases bu hb with ⟨j,u,rfl,e⟩|⟨y,u,rfl,e⟩
   ·injection e with e1 _;rw[e1]
   ·exact nomatch e
  ·rcases bu hb with ⟨j,u,rfl,e⟩|⟨y,u,rfl,e⟩
   ·exact nomatch e
   ·injection e with e1 _;rw[e1]
 byValue:=fun k v h=>by
  rcases bu h with ⟨i,t,rfl,rfl⟩|⟨x,t,rfl,rfl⟩ <;> rfl
 pyHash:=fun hv h=>by
  rcases bu hv with ⟨i,t,rfl,rfl⟩|⟨x,t,rfl,rfl⟩
  ·exact wpAny_pyHash_int h
  ·exact wpAny_pyHash_str h
 eqBool:=fun hu hv h=>by
  rcases bu hu with ⟨i,t,rfl,rfl⟩|⟨x,t,rfl,rfl⟩
  ·rcases bu hv with ⟨j,u,rfl,rfl⟩|⟨y,u,rfl,rfl⟩
   ·rw[MC] at h;exact wpAny_eqBool_int h
   ·rw[ME] at h;exact SeqAt.EqAt.int_str i t y u _ _ _ _ h
  ·rcases bu hv with ⟨j,u,rfl,rfl⟩|⟨y,u,rfl,rfl⟩
   ·rw[MF] at h;exact SeqAt.EqAt.str_int x t j u _ _ _ _ h
   ·rw[MD] at h;exact wpAny_eqBool_str h
 «strs»:=fun k x t v h=>by
  rcases bu h with ⟨i,u,rfl,e⟩|⟨y,u,rfl,e⟩
  ·exact nomatch e
  ·injection e with e1 _
   subst e1
   cases v <;> rfl
theorem wx(prog:Program)(w:World)(i:Int)(t:Tok):(aF prog w).is (.inl i) (.int i t)=true:=C_ i t
theorem iX(prog:Program)(w:World)(x:Str)(t:Tok):(aF prog w).is (.inr x) (.str x t)=true:=Dc x t
inductive V where
 |aw|bl (b:Bool)|int (i:Int)|str (x:Str)|BW (b:Array UInt8)|MG (b:UInt64)|ref (a:Addr)|ty (n:String)
 deriving DecidableEq
def RelV:V→Value→Prop
 |.aw,u=>u=Value.none
 |.bl b,u=>u=Value.bool b
 |.int i,u=>∃t,u=Value.int i t
 |.str x,u=>∃t,u=Value.str x t
 |.BW b,u=>∃t,u=Value.bytes b t
 |.MG b,u=>∃t,u=Value.float b t
 |.ref a,u=>u=Value.ref a
 |.ty n,u=>u=Value.type n
abbrev Vals:List V→List Value→Prop:=Paired RelV
theorem Vals.length{xs:List V}{us:List Value}(r:Vals xs us):xs.length=us.length:=Paired.length r
theorem Vals.get:∀{xs:List V}{us:List Value}{i:Nat}{x:V},Vals xs us→xs[i]?=some x→∃u,us[i]?=some u∧RelV x u
 |_,_,_,_,.nil,e=>by simp at e
 |_,_,0,_,.cons r _,e=>by simp at e;subst e;exact⟨_,rfl,r⟩
 |_,_,i+1,x,.cons _ t,e=>by
  obtain⟨u,h1,h2⟩:=Vals.get (i:=i) (x:=x) t (by simpa using e)
  exact⟨u,by simpa using h1,h2⟩
theorem Vals.set(r:RelV x u):∀{xs:List V}{us:List Value} (i:Nat),Vals xs us→Vals (xs.set i x) (us.set i u)
 |_,_,_,.nil=>.nil
 |_,_,0,.cons _ t=>.cons r t
 |_,_,i+1,.cons q t=>.cons q (Vals.set r i t)
theorem Vals.append:∀{xs ys:List V}{us ws:List Value},Vals xs us→Vals ys ws→Vals (xs++ys) (us++ws)
 |_,_,_,_,.nil,s=>s
 |_,_,_,_,.cons r t,s=>.cons r (Vals.append t s)
theorem Vals.take:∀{xs:List V}{us:List Value} (n:Nat),Vals xs us→Vals (xs.take n) (us.take n)
 |_,_,0,_=>.nil
 |_,_,_+1,.nil=>.nil
 |_,_,n+1,.cons r t=>.cons r (Vals.take n t)
theorem Vals.drop:∀{xs:List V}{us:List Value} (n:Nat),Vals xs us→Vals (xs.drop n) (us.drop n)
 |_,_,0,r=>r
 |_,_,_+1,.nil=>.nil
 |_,_,n+1,.cons _ t=>Vals.drop n t
def fK:Option V→Option Value→Prop
 |some v,some u=>RelV v u
 |none,none=>True
 |_,_=>False
def KV{κ:Type} : List (κ×V)→List (κ×Value)→Prop:=Paired fun (p:κ×V) (q:κ×Value)=>p.1=q.1∧RelV p.2 q.2
def kV:Key→V
 |.inl i=>.int i
 |.inr x=>.str x
inductive HO where
  |lst (xs:List V)
  |tup (xs:List V)
  |dK (kvs:List (Key×V))|dT (kvs:List (List Key×V))
  |set (S:Int→Bool) (n:Nat)
  |ins (C dx:Addr) (fs:List (Str×V))
  |own (x:Addr)
  |xd (fs:List (Str×V))
  |met (f x:Addr)
  |UM (lo hi:Int)
  |kN (o:Obj) (u:HO)
  |pF (ps:Array Value)
  |ext (φ:Heap→Prop)
abbrev Hp:=Addr→Option HO
def upd(H:Hp)(a:Addr)(o:HO):Hp:=fun b=>if b=a then some o else H b
theorem aB{H:Hp}{a:Addr}{o:HO} : upd H a o a=some o:=by unfold upd;rw[if_pos rfl]
theorem ao{H:Hp}{a b:Addr}{o:HO}(h:b≠a):upd H a o b=H b:=by unfold upd;rw[if_neg h]
theorem ar{H:Hp}{a b:Addr}{o:HO}(h:H a=some o)(h':H b=none):a≠b:=by
 intro e;subst e;rw[h] at h';cases h'
def fg(h:Heap)(a:Addr)(items:Array Value):Prop:=∃o,h.get? a=some o∧o.cls=.type "tuple" ∧ o.dict=none∧∃n,o.data=.seq items n
theorem fg.tup(x:fg h a items):IsTup h a items:=by obtain⟨o,e,c,_,n,d⟩:=x;exact⟨o,e,c,n,d⟩
theorem fg.lt(x:fg h a items):a<h.objs.size:=x.tup.lt
theorem fg.new(h:Heap)(items:Array Value):fg (h.push { cls:=.type "tuple",data:=.seq items }) h.objs.size items:=⟨_,zq _ rfl,rfl,rfl,_,rfl⟩
section
variable(P:Program)(w:World)
def aV(H:Hp)(h:Heap)(a:Addr):HO→Prop
 |.lst xs=>xs.length≤sizeLine∧∃(ax:List Value) (n:Nat),Vals xs ax∧h.get? a=some { cls:=.type "list",data:=.seq ax.toArray n }
 |.tup xs=>xs.length≤sizeLine∧∃ax:List Value,Vals xs ax∧fg h a ax.toArray
 |.dK kvs=>kvs.length≤sizeLine∧(a == sysModules)=false∧∃vs,KV kvs vs∧h.DictOf (aF P w) a vs
 |.dT _=>False
 |.set S n=>h.SetOf (intKind P w) a S n
 |.ins C dx fs=>H dx=some (.own a)∧fs.length≤1000∧dx≠a∧h.get? a=some (instObj C dx) ∧
   ∃mA,h.Ns1 dx mA∧(∀f,fK (fs.lookup f) (mA f))∧PySem.Within mA (fs.map (·.1))
 |.own _=>∃o,h.get? a=some o
 |.xd fs=>∃mA,h.Ns1 a mA∧∀f,fK (fs.lookup f) (mA f)
 |.UM lo hi=>∃t u v,h.get? a=some { cls:=.type "range",data:=.fields #[.int lo t,.int hi u,.int 1 v] }
 |.kN o u=>h.get? a=some o∧aV H h a u
 |.pF ps=>h.get? a=some { cls:=.none,data:=.fields ps }
 |.met f x=>h.get? a=some (methodObj (.ref f) (.ref x))
 |.ext φ=>φ h∧(∃o,h.get? a=some o)∧∀h1 h2:Heap,φ h1→(∀o,h1.get? a=some o→h2.get? a=some o)→φ h2
def ki(H:Hp)(h:Heap):Prop:=∀a o,H a=some o→aV P w H h a o
end
section
variable{P:Program}{w:World}{H H':Hp}{h h':Heap}{a:Addr}{o:HO}
theorem aV.lt(x:aV P w H h a o):a<h.objs.size:=by
 cases o with
 |lst xs=>obtain⟨_,_,_,_,e⟩:=x;exact zt e
 |tup xs=>obtain⟨_,_,_,p⟩:=x;exact p.lt
 |dK kvs=>obtain⟨_,_,_,_,o,_,_,e,_⟩:=x;exact zt e
 |dT kvs=>exact False.elim x
 |set S n=>obtain⟨o,_,_,_,e,_⟩:=x;exact zt e
 |ins C dx fs=>obtain⟨_,_,_,e,_⟩:=x;exact zt e
 |own y=>obtain⟨_,e⟩:=x;exact zt e
 |xd fs=>obtain⟨_,⟨_,_,_,e,_⟩,_⟩:=x;exact zt e
 |UM lo hi=>obtain⟨_,_,_,e⟩:=x;exact zt e
 |kN ob u=>obtain⟨e,_⟩:=x;exact zt e
 |pF ps=>exact zt (show h.get? a=some _ from x)
 |met f y=>exact zt (show h.get? a=some _ from x)
 |ext φ=>obtain⟨_,⟨_,e⟩,_⟩:=x;exact zt e
theorem aV.lO(x:aV P w H h a o)(k:∀b u,(b=a∨H b=some (.own a))→h.get? b=some u→h'.get? b=some u)
  (ho:∀b,H b=some (.own a)→H' b=some (.own a)) (ht:∀b xs,H b=some (.tup xs)→H' b=some (.tup xs)):aV P w H' h' a o:=by
 induction o with
 |lst xs=>obtain⟨z,ax,n,r,e⟩:=x;exact⟨z,ax,n,r,k _ _ (.inl rfl) e⟩
 |tup xs=>obtain⟨z,ax,r,ob,e,c⟩:=x;exact⟨z,ax,r,ob,k _ _ (.inl rfl) e,c⟩
 |dK kvs=>obtain⟨z,y,vs,r,ob,es,ep,e,c⟩:=x;exact⟨z,y,vs,r,ob,es,ep,k _ _ (.inl rfl) e,c⟩
 |dT kvs=>exact False.elim x
 |set S n=>obtain⟨ob,es,ep,t,e,c⟩:=x;exact⟨ob,es,ep,t,k _ _ (.inl rfl) e,c⟩
 |ins C dx fs =>
  obtain⟨d,z,ne,e,mA,⟨od,es,ep,e2,c⟩,r⟩:=x
  exact⟨ho _ d,z,ne,k _ _ (.inl rfl) e,mA,⟨od,es,ep,k _ _ (.inr d) e2,c⟩,r⟩
 |own y=>obtain⟨ob,e⟩:=x;exact⟨ob,k _ _ (.inl rfl) e⟩
 |xd fs=>obtain⟨mA,⟨od,es,ep,e,c⟩,r⟩:=x;exact⟨mA,⟨od,es,ep,k _ _ (.inl rfl) e,c⟩,r⟩
 |UM lo hi=>obtain⟨t,u,v,e⟩:=x;exact⟨t,u,v,k _ _ (.inl rfl) e⟩
 |kN ob u ih=>obtain⟨e,q⟩:=x;exact⟨k _ _ (.inl rfl) e,ih q⟩
 |pF ps =>
  have e:h.get? a=some { cls:=.none,data:=.fields ps }:=x
  show h'.get? a=some { cls:=.none,data:=.fields ps }
  exact k a _ (.inl rfl) e
 |met f y =>
  have e:h.get? a=some (methodObj (.ref f) (.ref y)):=x
  show h'.get? a=some (methodObj (.ref f) (.ref y))
  exact k a _ (.inl rfl) e
 |ext φ=>obtain⟨p,⟨o,e⟩,st⟩:=x;exact⟨st _ _ p fun o q=>k _ _ (.inl rfl) q,⟨o,k _ _ (.inl rfl) e⟩,st⟩
theorem ki.lt(x:ki P w H h)(e:H a=some o):a<h.objs.size:=(x a o e).lt
theorem ki.fresh(x:ki P w H h)(e:h.objs.size≤a):H a=none:=by
 cases q:H a with
 |none=>rfl
 |some u=>exact absurd (zk (x.lt q) e) (yr _)
theorem ki.kept(x:ki P w H h)(k:∀b u,h.get? b=some u→h'.get? b=some u):ki P w H h':=fun a o e =>
 (x a o e).lO (fun b u _ q=>k b u q) (fun _ q=>q) fun _ _ q=>q
theorem ki.laid(x:ki P w H h)(k:∀b u,h.get? b=some u→h'.get? b=some u)(hp:h.objs.size≤a)(new:aV P w (upd H a o) h' a o):ki P w (upd H a o) h':=fun b u e=>by
 have hn:=x.fresh hp
 by_cases hb:b=a
 ·subst hb;rw[aB] at e;cases e;exact new
 ·rw[ao hb] at e
  exact (x b u e).lO (fun c v _ q=>k c v q) (fun c q=>by rw[ao (ar q hn)];exact q) fun c xs q=>by rw[ao (ar q hn)];exact q
end
def Rd(H:Hp)(a:Addr)(u:HO):Prop:=H a=some u∨∃o,H a=some (.kN o u)
theorem Rd.of(h:H a=some u):Rd H a u:=.inl h
theorem Rd.ok{P:Program}{w:World}{H:Hp}{h:Heap}{a:Addr}{u:HO}(r:Rd H a u)(x:ki P w H h):aV P w H h a u:=by
 rcases r with r|⟨o,r⟩
 ·exact x a u r
 ·obtain⟨_,q⟩:=x a _ r
  exact q
def QP:Option HO→Prop
 |some (.lst _)=>True
 |some (.dK _)=>True
 |some (.dT _)=>True
 |some (.set _ _)=>True
 |some (.ins _ _ _)=>True
 |some (.ext _)=>True
 |_=>False
section
variable{P:Program}{w:World}{H:Hp}{h h':Heap}{x e:Addr}{o':HO}
theorem ki.write(ok:ki P w H h)(mu:QP (H x))(he:e=x∨H e=some (.own x))(k:∀b u,b≠e→h.get? b=some u→h'.get? b=some u)(P5:∃u,h'.get? e=some u)
  (new:aV P w (upd H x o') h' x o'):ki P w (upd H x o') h':=fun b u q=>by
 have QQ:∀c y,H c=some (.own y)→c≠x:=fun c y r z=>by subst z;rw[r] at mu;exact mu
 have VX:∀c xs,H c=some (.tup xs)→c≠x:=fun c xs r z=>by subst z;rw[r] at mu;exact mu
 by_cases hb:b=x
 ·subst hb;rw[aB] at q;cases q;exact new
 ·rw[ao hb] at q
  by_cases MH:b=e
  ·have q':H b=some (.own x):=by
    rcases he with z|z
    ·exact absurd (MH.trans z) hb
    ·rw[MH];exact z
   rw[q] at q';cases q'
   obtain⟨v,hv⟩:=P5
   exact⟨v,by rw[MH];exact hv⟩
  ·refine (ok b u q).lO (fun c v hc r=>k c v ?_ r) (fun c r=>by rw[ao (QQ c b r)];exact r) fun c xs r=>by rw[ao (VX c xs r)];exact r
   rcases hc with rfl|hc
   ·exact MH
   ·rintro rfl
    rcases he with z|z
    ·exact QQ c b hc z
    ·rw[hc] at z;cases z;exact hb rfl
end
structure Un(fs ex:List Addr)(H H':Hp)(h h':Heap):Prop where
 keep:∀b o,h.get? b=some o→H b=none→b∉fs→b∉ex→h'.get? b=some o
 slot:∀b o,h.get? b=some o→H b=none→b∈fs→b∉ex→∃sl,h'.get? b=some { o with slots:=sl }
 free:∀b o,h.get? b=some o→H b=none→b∉ex→H' b=none
 there:∀b o,h.get? b=some o→b∉ex→∃o',h'.get? b=some o'
 gk:∀b xs,H b=some (.tup xs)→H' b=some (.tup xs)
 fL:∀b o u,H b=some (.kN o u)→H' b=some (.kN o u)
 fM:∀b ps,H b=some (.pF ps)→∃more,H' b=some (.pF (ps++more))
section
variable{fs UN ex ex':List Addr}{H H1 H2:Hp}{h h1 h2 h':Heap}{a x e:Addr}{o:HO}
theorem Un.any(u:Un fs ex H H1 h h1){b:Addr}{ob:Obj}(q:h.get? b=some ob)(n:H b=none)(hx:b∉ex):∃sl,h1.get? b=some { ob with slots:=sl }:=by
 by_cases hb:b∈fs
 ·exact u.slot b ob q n hb hx
 ·exact⟨ob.slots,u.keep b ob q n hb hx⟩
theorem Un.kept(k:∀b u,h.get? b=some u→h'.get? b=some u):Un fs ex H H h h' :=
 ⟨fun b ob q _ _ _=>k b ob q,fun b ob q _ _ _=>⟨ob.slots,k b ob q⟩,fun _ _ _ n _=>n,fun b ob q _=>⟨ob,k b ob q⟩,fun _ _ q=>q,fun _ _ _ q=>q,fun _ ps q=>⟨#[],by rw[q];simp⟩⟩
theorem Un.refl:Un fs ex H H h h:=Un.kept fun _ _ q=>q
theorem Un.laid(k:∀b u,h.get? b=some u→h'.get? b=some u)(hp:h.objs.size≤a)(hn:H a=none):Un fs ex H (upd H a o) h h' where
 keep:=fun b u q _ _ _=>k b u q
 slot:=fun b u q _ _ _=>⟨u.slots,k b u q⟩
 free:=fun b u q n _=>by rw[ao (zy (zk (zt q) hp))];exact n
 there:=fun b u q _=>⟨u,k b u q⟩
 gk:=fun b xs q=>by rw[ao (ar q hn)];exact q
 fL:=fun b u xs q=>by rw[ao (ar q hn)];exact q
 fM:=fun b ps q=>⟨#[],by rw[ao (ar q hn),q];simp⟩
theorem Un.write(mu:QP (H x))(he:e=x∨H e=some (.own x))(k:∀b u,b≠e→h.get? b=some u→h'.get? b=some u)(P5:∃u,h'.get? e=some u):Un fs ex H (upd H x o) h h':=by
 have hx:∀b,H b=none→b≠x:=fun b n z=>by subst z;rw[n] at mu;exact mu
 have hb:∀b,H b=none→b≠e:=fun b n z=>by
  subst z
  rcases he with r|r
  ·exact hx b n r
  ·rw[n] at r;cases r
 have hm:∀b u,H b=some u→¬ QP (some u)→b≠x:=fun b u q nm z=>by subst z;rw[q] at mu;exact nm mu
 refine⟨fun b u q n _ _=>k b u (hb b n) q,fun b u q n _ _=>⟨u.slots,k b u (hb b n) q⟩,fun b u q n _=>by rw[ao (hx b n)];exact n,fun b u q _=>?_,
  fun b xs q=>by rw[ao (hm b _ q fun z=>z)];exact q,fun b u xs q=>by rw[ao (hm b _ q fun z=>z)];exact q,fun b ps q=>⟨#[],by rw[ao (hm b _ q fun z=>z),q];simp⟩⟩
 by_cases MH:b=e
 ·subst MH;exact P5
 ·exact⟨u,k b u MH q⟩
end
def UO(h:Heap)(H:Hp):List Addr:=(List.range h.objs.size).filter fun a=>(H a).isSome
def sF(h:Heap)(H:Hp):Heap:=hideAll h (UO h H)
theorem Dd(h:Heap)(H:Hp):(sF h H).objs.size=h.objs.size:=PySem.W.hideAll_size _ _
theorem Ff(e:h.get? b=some o)(n:H b=none):(sF h H).get? b=some o :=
 hideAll_get _ e fun hm=>by
  have q:(H b).isSome=true:=(List.mem_filter.mp hm).2
  rw[n] at q;simp at q
theorem II(e:(sF h H).get? b=some o):h.get? b=some o∧H b=none:=by
 have e':h.get? b=some o:=of_hideAll (UO h H) e
 refine⟨e',?_⟩
 cases q:H b with
 |none=>rfl
 |some x =>
  have hm:b∈UO h H:=List.mem_filter.mpr ⟨zW.mpr (zt e'),by simp [q]⟩
  have z:(sF h H).get? b=none:=PySem.W.hideAll_none (UO h H) hm
  rw[z] at e;cases e
def IJ(g h:Heap)(L:Addr):List (Addr×Obj):=(List.range h.objs.size).filterMap fun a=>if a=L∨(g.get? a).isSome=true then none else (h.get? a).map fun o=>(a,o)
def rest(g h:Heap)(L d:Addr):List (Addr×Obj):=(IJ g h L).filter fun p=>decide (p.1≠d)
structure Mod(K:Frag)(mg:Str→Option Value)(base:Heap):Prop where
 P6:K.In base
 glob:base.Ns mainGlobals mg
 blt:∃mb,base.Ns builtinsNs mb∧∀x:Str,x ≠ "__name__" → mb x=bootBuiltins x
 nolimit:base.NoLimit
structure Cx where
 prog:Program
 w:World
 K:Frag
 mg:Str→Option Value
 base:Heap
 A:Around
 N:List Str
 cT:Shared
 uB:Hp
 env:Env
 outer:List Env
 stack:List Env
 ex:List Addr
 fn:Str→Bool
 calm:Bool
 pn:List (Addr×Obj)
 xe:Value→Shared→Prop
def lP(l:List Env):List Addr:=l.filterMap (·.frame)
abbrev Cx.fs(X:Cx):List Addr:=lP X.outer
def P7(sc:Scope)(x:Str):Prop:=sc.names.lookup x=some .local∨sc.names.lookup x=some .cell∨sc.names.lookup x=some .free
def Loc(sc:Scope)(x:Str):Prop:=sc.names.lookup x=some .local∨sc.names.lookup x=some .cell
def Look(env:Env)(h:Heap)(m:Str→Option Value)(x:Str)(u:Value):Prop :=
 (env.kindOf x=some .local∧m x=some u)∨((env.kindOf x=some .cell∨env.kindOf x=some .free)∧∃c,env.cells.lookup x=some c∧h.IsCell c (some u))
structure Cx.Ok(X:Cx):Prop where
 mod:Mod X.K X.mg X.base
 kind:X.env.scope.kind=.function
 glob:X.env.globals=mainGlobals
 blt:X.env.builtins=builtinsNs
 above:X.cT.heap.objs.size≤X.env.locals
 inj:∀x y c,X.env.cells.lookup x=some c→X.env.cells.lookup y=some c→x=y
 has:∀x,(X.env.kindOf x=some .cell∨X.env.kindOf x=some .free)→∃c,X.env.cells.lookup x=some c
 MI:∀x c,X.fn x=true→X.env.cells.lookup x=some c→X.cT.heap.objs.size≤c
 hd:X.calm=true→X.A.handled=none
 frames:X.A.frames=some X.stack
 P8:X.stack=X.outer∨(X.stack=X.env::X.outer∧X.env.frame=some X.env.locals)
 UP:∀b∈X.ex,b≠X.env.locals∧∀x c,X.env.cells.lookup x=some c→c≠b
 bs:∀b o,X.base.get? b=some o→X.cT.heap.get? b=some o∧X.uB b=none
 Df:X.base.objs.size≤X.cT.heap.objs.size
 Ag:∀b o,X.base.get? b=some o→b∉X.ex
 Dg:∀b∈X.ex,b∉X.fs
 kj:X.cT.heap.FunFrames X.base X.outer
 Fh:∀b∈X.fs,X.uB b=none
structure Inv(X:Cx)(pins:List (Addr×Obj))(σ:List (Option V))(H:Hp)(s:Shared):Prop where
 ok:X.Ok
 os:s.os=X.cT.os
 bare:AllBare s.gens
 base:Un X.fs X.ex X.uB H X.cT.heap s.heap
 loc:∃m,s.heap.Ns X.env.locals m∧∀(i:Nat) (x:Str) (v:V),X.N[i]?=some x→σ[i]?=some (some v)→P7 X.env.scope x→∃u,RelV v u∧Look X.env s.heap m x u
 cell:∀x c,X.env.cells.lookup x=some c→∃v,s.heap.IsCell c v
 free:H X.env.locals=none
 dm:∀x c,X.env.cells.lookup x=some c→H c=none
 pin:∀p∈X.pn++pins,s.heap.get? p.1=some p.2∧H p.1=none∧p.1≠X.env.locals∧p.1∉X.fs∧∀v,p.2.data≠.cell v
 aH:ki X.prog X.w H s.heap
 len:σ.length=X.N.length
section
variable{X:Cx}{pins:List (Addr×Obj)}{σ:List (Option V)}{H H':Hp}{s:Shared}{h':Heap}
theorem Cx.Ok.Dh(ok:X.Ok)(e:X.base.get? b=some o):b∉X.fs:=fun hb=>by
 have:=(ok.kj.mem hb).1
 rw[e] at this;cases this
theorem Inv.bs(I:Inv X pins σ H s):∀b o,X.base.get? b=some o→s.heap.get? b=some o∧H b=none:=fun b o e =>
 ⟨I.base.keep b o (I.ok.bs b o e).1 (I.ok.bs b o e).2 (I.ok.Dh e) (I.ok.Ag b o e),I.base.free b o (I.ok.bs b o e).1 (I.ok.bs b o e).2 (I.ok.Ag b o e)⟩
theorem Inv.bk(I:Inv X pins σ H s):∀b o,X.base.get? b=some o→s.heap.get? b=some o:=fun b o e=>(I.bs b o e).1
theorem Inv.mod(I:Inv X pins σ H s):Mod X.K X.mg X.base:=I.ok.mod
theorem Inv.lL(I:Inv X pins σ H s):X.K.In s.heap:=I.ok.mod.P6.keeps I.bk
theorem Inv.nolimit(I:Inv X pins σ H s):s.heap.NoLimit:=I.ok.mod.nolimit.keeps I.bk
theorem Inv.fr(I:Inv X pins σ H s):∃m,Fr X.base X.env.locals s.heap m :=
 let ⟨m,hn,_⟩:=I.loc
 ⟨m,hn,I.bk,zL I.ok.Df I.ok.above⟩
theorem Inv.lt(I:Inv X pins σ H s):X.env.locals<s.heap.objs.size:=by obtain⟨_,hn,_⟩:=I.loc;exact hn.lt
theorem Inv.sz(I:Inv X pins σ H s):X.cT.heap.objs.size≤s.heap.objs.size:=zL I.ok.above (yA I.lt)
theorem Inv.QR(I:Inv X pins σ H s)(h:s.heap.objs.size≤a):a∉X.fs:=fun hb=>by
 obtain⟨_,o,ho,_⟩:=I.ok.kj.mem hb
 exact absurd (zk (zt ho) (zL I.sz h)) (yr _)
theorem Inv.IK(I:Inv X pins σ H s):∀x c,X.env.cells.lookup x=some c→c≠X.env.locals:=fun x c e z=>by
 obtain⟨v,o,ho,hd⟩:=I.cell x c e
 obtain⟨m,⟨o',es,ep,Ah,IL,_⟩,_⟩:=I.loc
 rw[z,Ah] at ho;cases ho;rw[IL] at hd;cases hd
theorem Inv.kj(I:Inv X pins σ H s):s.heap.FunFrames X.base X.outer:=by
 have all:∀(l:List Env),(∀b∈lP l,b∈X.fs)→X.cT.heap.FunFrames X.base l→s.heap.FunFrames X.base l:=by
  intro l
  induction l with
  |nil=>intro _ _;trivial
  |cons env r ih =>
   intro hs hl
   obtain⟨hk,⟨L,o,hf,hn,ho,hd⟩,hr⟩:=hl
   have hL:L∈X.fs:=hs L (by unfold lP;rw[List.filterMap_cons,hf];exact zx)
   obtain⟨sl,e⟩:=I.base.slot L o ho (I.ok.Fh L hL) hL fun z=>I.ok.Dg L z hL
   exact⟨hk,⟨L,_,hf,hn,e,hd⟩,ih (fun b hb=>hs b (by unfold lP;rw[List.filterMap_cons,hf];exact zp _ hb)) hr⟩
 exact all X.outer (fun _ hb=>hb) I.ok.kj
theorem Inv.stack(I:Inv X pins σ H s):s.heap.FunFrames X.base X.stack:=by
 rcases I.ok.P8 with e|⟨e,hf⟩
 ·rw[e];exact I.kj
 ·rw[e]
  obtain⟨m,hn,_⟩:=I.loc
  refine .cons (by rw[I.ok.kind];decide) hf hn ?_ I.kj
  exact Heap.get?_none_of_le (zL I.ok.Df I.ok.above)
theorem Inv.mW(I:Inv X pins σ H s):∀b∈lP X.stack,b∈X.env.locals::X.fs:=fun b hb=>by
 rcases I.ok.P8 with e|⟨e,hf⟩
 ·rw[e] at hb;exact zp _ hb
 ·rw[e] at hb
  unfold lP at hb
  rw[List.filterMap_cons,hf] at hb
  exact hb
theorem Inv.pG(I:Inv X pins σ H s):∀b∈lP X.stack,H b=none:=fun b hb=>by
 rcases ze.mp (I.mW b hb) with e|hb
 ·rw[e];exact I.free
 ·obtain⟨_,o,ho,_⟩:=I.ok.kj.mem hb
  exact I.base.free b o ho (I.ok.Fh b hb) fun z=>I.ok.Dg b z hb
theorem Inv.step{g':Array GenState}{t':Nat}{d':Drawn}{ch:List Addr}(I:Inv X pins σ H s)
  (Il:∀b∈ch,(b∈X.ex∨X.cT.heap.objs.size≤b)∧b≠X.env.locals∧(∀x c,X.env.cells.lookup x=some c→c≠b)∧∀p∈X.pn++pins,p.1≠b)
  (keep:∀b o,b≠X.env.locals→b∉X.fs→b∉ch→s.heap.get? b=some o→H b=none→h'.get? b=some o)
  (slot:∀b o,b≠X.env.locals→b∈X.fs→b∉ch→s.heap.get? b=some o→H b=none→∃sl,h'.get? b=some { o with slots:=sl }) (free:∀b o,b∉ch→s.heap.get? b=some o→H b=none→H' b=none)
  (there:∀b o,b∉ch→s.heap.get? b=some o→∃o',h'.get? b=some o')
  (gk:∀b xs,H b=some (.tup xs)→H' b=some (.tup xs)) (fL:∀b o u,H b=some (.kN o u)→H' b=some (.kN o u)) (fM:∀b ps,H b=some (.pF ps)→∃more,H' b=some (.pF (ps++more)))
  (ns:∀m,s.heap.Ns X.env.locals m→h'.Ns X.env.locals m) (aH:ki X.prog X.w H' h') (hg:AllBare g') :
  Inv X pins σ H' { s with heap:=h',gens:=g',drawn:=d',toks:=t' }:=by
 have ZW:∀b o,X.cT.heap.get? b=some o→b≠X.env.locals:=fun b o e=>zy (zk (zt e) I.ok.above)
 have UQ:∀b o,X.cT.heap.get? b=some o→b∉X.ex→b∉ch:=fun b o e hx hb=>by
  rcases (Il b hb).1 with z|z
  ·exact hx z
  ·exact absurd (zk (zt e) z) (yr _)
 have cellK:∀x c,X.env.cells.lookup x=some c→∀v,s.heap.IsCell c v→h'.IsCell c v:=by
  rintro x c e v ⟨o,ho,hd⟩
  have QS:c∉ch:=fun z=>(Il c z).2.2.1 x c e rfl
  by_cases hc:c∈X.fs
  ·obtain⟨sl,q⟩:=slot c o (I.IK x c e) hc QS ho (I.dm x c e)
   exact⟨_,q,hd⟩
  ·exact⟨o,keep c o (I.IK x c e) hc QS ho (I.dm x c e),hd⟩
 refine⟨I.ok,I.os,hg,⟨fun b o e n hb hx=>?_,fun b o e n hb hx=>?_,fun b o e n hx=>?_,fun b o e hx=>?_,fun b xs e=>gk b xs (I.base.gk b xs e),fun b o xs e=>fL b o xs (I.base.fL b o xs e),fun b ps e=>?_⟩,?_,fun x c e=>?_,?_,fun x c e=>?_,fun p hp=>?_,aH,I.len⟩
 ·exact keep b o (ZW b o e) hb (UQ b o e hx) (I.base.keep b o e n hb hx) (I.base.free b o e n hx)
 ·obtain⟨sl,e1⟩:=I.base.slot b o e n hb hx
  obtain⟨sl',e2⟩:=slot b _ (ZW b o e) hb (UQ b o e hx) e1 (I.base.free b o e n hx)
  exact⟨sl',e2⟩
 ·obtain⟨o',e1⟩:=I.base.there b o e hx
  exact free b o' (UQ b o e hx) e1 (I.base.free b o e n hx)
 ·obtain⟨o',e1⟩:=I.base.there b o e hx
  exact there b o' (UQ b o e hx) e1
 ·obtain⟨m1,e1⟩:=I.base.fM b ps e
  obtain⟨m2,e2⟩:=fM b _ e1
  exact⟨m1++m2,by rw[e2,Array.append_assoc]⟩
 ·obtain⟨m,hn,hl⟩:=I.loc
  refine⟨m,ns m hn,fun i x v e1 e2 e3=>?_⟩
  obtain⟨u,r,l⟩:=hl i x v e1 e2 e3
  refine⟨u,r,?_⟩
  rcases l with l|⟨k,c,e,z⟩
  ·exact .inl l
  ·exact .inr ⟨k,c,e,cellK x c e _ z⟩
 ·obtain⟨v,z⟩:=I.cell x c e
  exact⟨v,cellK x c e v z⟩
 ·obtain⟨m,⟨o,_,_,ho,_⟩,_⟩:=I.loc
  exact free _ o (fun z=>(Il _ z).2.1 rfl) ho I.free
 ·obtain⟨v,o,ho,hd⟩:=I.cell x c e
  exact free c o (fun z=>(Il c z).2.2.1 x c e rfl) ho (I.dm x c e)
 ·obtain⟨e,n,ne,nf,d⟩:=I.pin p hp
  have QS:p.1∉ch:=fun z=>(Il p.1 z).2.2.2 p hp rfl
  exact⟨keep p.1 p.2 ne nf QS e n,free p.1 p.2 QS e n,ne,nf,d⟩
theorem Inv.un{t':Nat}(I:Inv X pins σ H s)(u:Un X.fs [] H H' s.heap h')(aH:ki X.prog X.w H' h'):Inv X pins σ H' { s with heap:=h',toks:=t' }:=by
 obtain⟨m,⟨o,es,ep,ho,r⟩,_⟩:=id I.loc
 obtain⟨sl,hL⟩:=u.any ho I.free (by simp)
 exact I.step (g':=s.gens) (d':=s.drawn) (ch:=[]) (fun _ z=>nomatch z) (fun b o _ hb _ e n=>u.keep b o e n hb (by simp)) (fun b o _ hb _ e n=>u.slot b o e n hb (by simp)) (fun b o _ e n=>u.free b o e n (by simp)) (fun b o _ e=>u.there b o e (by simp)) u.gk u.fL u.fM (fun m' hm=>by
  obtain⟨o',UR,VY,Ah,r'⟩:=hm
  rw[ho] at Ah;cases Ah
  exact⟨_,UR,VY,hL,r'⟩) aH I.bare
theorem Inv.call{g':Array GenState}{t':Nat}{d':Drawn}{ch:List Addr}(I:Inv X pins σ H s)(u:Un (lP X.stack) ch H H' s.heap h')(aH:ki X.prog X.w H' h')(hg:AllBare g')
  (Il:∀b∈ch,(b∈X.ex∨X.cT.heap.objs.size≤b)∧b≠X.env.locals∧(∀x c,X.env.cells.lookup x=some c→c≠b)∧∀p∈X.pn++pins,p.1≠b) :
  Inv X pins σ H' { s with heap:=h',gens:=g',drawn:=d',toks:=t' }:=by
 obtain⟨m,⟨o,es,ep,ho,r⟩,_⟩:=id I.loc
 obtain⟨sl,hL⟩:=u.any ho I.free fun z=>(Il _ z).2.1 rfl
 exact I.step (ch:=ch) Il (fun b o hL hb hc e n=>u.keep b o e n (fun z=>(ze.mp (I.mW b z)).elim hL hb) hc) (fun b o _ _ hc e n=>u.any e n hc) (fun b o hc e n=>u.free b o e n hc) (fun b o hc e=>u.there b o e hc) u.gk u.fL u.fM (fun m' hm=>by
  obtain⟨o',UR,VY,Ah,r'⟩:=hm
  rw[ho] at Ah;cases Ah
  exact⟨_,UR,VY,hL,r'⟩) aH hg
theorem Inv.turned{t':Nat}{it:Addr}(I:Inv X pins σ H s)(k:∀b o,b≠it→s.heap.get? b=some o→h'.get? b=some o)(hn:H it=none)(hL:it≠X.env.locals)
  (h1:it∈X.ex∨X.cT.heap.objs.size≤it) (h2:∀x c,X.env.cells.lookup x=some c→c≠it) (h3:∀p∈X.pn++pins,p.1≠it):Inv X pins σ H { s with heap:=h',toks:=t' }:=by
 have MJ:∀b u,H b=some u→b≠it:=fun b u e z=>by rw[z,hn] at e;cases e
 refine I.step (g':=s.gens) (d':=s.drawn) (ch:=[it]) (fun b hb=>?_) (fun b o _ _ hc e _=>k b o (fun z=>hc (by simp [z])) e) (fun b o _ _ hc e _=>⟨o.slots,k b o (fun z=>hc (by simp [z])) e⟩) (fun _ _ _ _ n=>n)
  (fun b o hc e=>⟨o,k b o (fun z=>hc (by simp [z])) e⟩) (fun _ _ e=>e) (fun _ _ _ e=>e) (fun b ps e=>⟨#[],by rw[e];simp⟩) (fun m hm=>?_) (fun b u e=>?_) I.bare
 ·have e:b=it:=by simpa using hb
  subst e
  exact⟨h1,hL,h2,h3⟩
 ·obtain⟨o,es,ep,ho,r⟩:=hm
  exact⟨o,es,ep,k _ o (Ne.symm hL) ho,r⟩
 ·refine (I.aH b u e).lO (fun c v hc q=>k c v ?_ q) (fun _ q=>q) fun _ _ q=>q
  rcases hc with z|z
  ·rw[z];exact MJ b u e
  ·exact MJ c _ z
theorem Inv.tok(I:Inv X pins σ H s)(t:Nat):Inv X pins σ H { s with toks:=t }:=I.un (h':=s.heap) (t':=t) Un.refl I.aH
theorem Inv.kept(I:Inv X pins σ H s)(k:∀b u,s.heap.get? b=some u→h'.get? b=some u):Inv X pins σ H { s with heap:=h',toks:=t' }:=I.un (Un.kept k) (I.aH.kept k)
theorem Inv.laid{a:Addr}{o:HO}{t':Nat}(I:Inv X pins σ H s)(k:∀b u,s.heap.get? b=some u→h'.get? b=some u)(hp:s.heap.objs.size≤a)(new:aV X.prog X.w (upd H a o) h' a o) :
  Inv X pins σ (upd H a o) { s with heap:=h',toks:=t' }:=I.un (Un.laid k hp (I.aH.fresh hp)) (I.aH.laid k hp new)
theorem Inv.write(I:Inv X pins σ H s)(mu:QP (H x))(he:e=x∨H e=some (.own x))(k:∀b u,b≠e→s.heap.get? b=some u→h'.get? b=some u)(P5:∃u,h'.get? e=some u)
  (new:aV X.prog X.w (upd H x o) h' x o):Inv X pins σ (upd H x o) { s with heap:=h',toks:=t' }:=I.un (Un.write mu he k P5) (I.aH.write mu he k P5 new)
theorem Inv.weak(I:Inv X pins σ H s)(hl:aD.length=σ.length)(w:∀(i:Nat) v,aD[i]?=some (some v)→σ[i]?=some (some v)):Inv X pins aD H s :=
 ⟨I.ok,I.os,I.bare,I.base,by obtain⟨m,hn,ZX⟩:=I.loc;exact⟨m,hn,fun i x v e1 e2 e3=>ZX i x v e1 (w i v e2) e3⟩,I.cell,I.free,I.dm,I.pin,I.aH,hl.trans I.len⟩
theorem Inv.lQ(I:Inv X pins σ H s)(h:∀p∈pins',s.heap.get? p.1=some p.2∧H p.1=none∧p.1≠X.env.locals∧p.1∉X.fs∧∀v,p.2.data≠.cell v):Inv X pins' σ H s :=
 ⟨I.ok,I.os,I.bare,I.base,I.loc,I.cell,I.free,I.dm,fun p hp=>(zC.mp hp).elim (fun z=>I.pin p (zU _ z)) (h p),I.aH,I.len⟩
theorem pU{N:List Str}(hN:N.Nodup){i j:Nat}{x:Str}(a:N[i]?=some x)(b:N[j]?=some x):i=j:=by
 obtain⟨h1,e1⟩:=zr.mp a
 obtain⟨h2,e2⟩:=zr.mp b
 exact (List.getElem_inj hN).mp (e1.trans e2.symm)
theorem tL{M:Model}{A:Around}{E:Value→Shared→Prop}{i:Nat}{x:Str}{v:V}{u:Value}{Q:Unit→Shared→Prop}(I:Inv X pins σ H s)(hN:X.N.Nodup)(hi:X.N[i]?=some x)(hx:Loc X.env.scope x)(r:RelV v u)
  (h:∀s',Inv X pins (σ.set i (some v)) H s'→(∃a,Heap.SameBut a s.heap s'.heap∧(a=X.env.locals∨X.env.cells.lookup x=some a))→Q () s') (hf:X.fn x=true∨X.env.scope.names.lookup x=some .local:=by first|exact .inl rfl|exact .inr rfl|assumption):wpAny M A (storeName X.env x u) Q E s:=by
 obtain⟨m,hn,hl⟩:=id I.loc
 have Fi:(X.env.scope.kind == .class || (X.env.scope.kind == .module && X.env.locals != X.env.globals))=false:=by rw[I.ok.kind];rfl
 have IM:i<σ.length:=by rw[I.len];exact (zr.mp hi).1
 have IK:=I.IK
 have tracked:∀{a:Addr}{h':Heap},(∃o,s.heap.get? a=some o∧H a=none)→Heap.SameBut a s.heap h'→ki X.prog X.w H h':=fun {a h'} ha hs b ob e=>by
  obtain⟨_,_,Ls⟩:=ha
  refine (I.aH b ob e).lO (fun c w' hc q=>(hs.2 c ?_).trans q) (fun _ q=>q) fun _ _ q=>q
  rintro rfl
  rcases hc with rfl|hc
  ·rw[Ls] at e;cases e
  ·rw[Ls] at hc;cases hc
 rcases hx with hk|hk
 ·refine wpAny_storeName_local hk hn (fun h' E8 hs=>?_) Fi
  obtain⟨oL,_,_,E9,_⟩:=id hn
  refine h _ ⟨I.ok,I.os,I.bare,⟨fun b o e n hb hx=>?_,fun b o e n hb hx=>?_,I.base.free,fun b o e hx=>?_,I.base.gk,I.base.fL,I.base.fM⟩,⟨_,E8,fun j y v' e1 e2 e3=>?_⟩,fun y c e=>?_,I.free,I.dm,fun p hp=>?_,tracked ⟨oL,E9,I.free⟩ hs,by simpa using I.len⟩ ⟨_,hs,.inl rfl⟩
  ·exact (hs.2 b (zy (zk (zt e) I.ok.above))).trans (I.base.keep b o e n hb hx)
  ·obtain⟨sl,e1⟩:=I.base.slot b o e n hb hx
   exact⟨sl,(hs.2 b (zy (zk (zt e) I.ok.above))).trans e1⟩
  ·obtain⟨o',e1⟩:=I.base.there b o e hx
   exact⟨o',(hs.2 b (zy (zk (zt e) I.ok.above))).trans e1⟩
  ·by_cases hj:j=i
   ·subst hj
    rw[hi] at e1;cases e1
    rw[List.getElem?_set_self IM] at e2
    cases e2
    exact⟨u,r,.inl ⟨hk,by simp⟩⟩
   ·rw[List.getElem?_set_ne (Ne.symm hj)] at e2
    obtain⟨u',r',q⟩:=hl j y v' e1 e2 e3
    refine⟨u',r',?_⟩
    rcases q with ⟨k,e⟩|⟨k,c,e,z⟩
    ·refine .inl ⟨k,?_⟩
     have:y≠x:=fun e=>hj (pU hN e1 (e ▸ hi))
     simp [this,e]
    ·exact .inr ⟨k,c,e,z.sameBut hs (IK y c e)⟩
  ·obtain⟨w',z⟩:=I.cell y c e
   exact⟨w',z.sameBut hs (IK y c e)⟩
  ·obtain⟨e,n,ne,nf,d⟩:=I.pin p hp
   exact⟨(hs.2 p.1 ne).trans e,n,ne,nf,d⟩
 ·have VZ:X.fn x=true:=by
   rcases hf with z|z
   ·exact z
   ·rw[z] at hk;cases hk
  obtain⟨c,hc⟩:=I.ok.has x (.inl hk)
  obtain⟨w',z⟩:=I.cell x c hc
  refine wpAny_storeName_cell I.ok.kind hk hc z (fun h' MK hs=>?_)
  obtain⟨oc,US,V0⟩:=id z
  refine h { s with heap:=h' } ⟨I.ok,I.os,I.bare,⟨fun b o e n hb hx=>?_,fun b o e n hb hx=>?_,I.base.free,fun b o e hx=>?_,I.base.gk,I.base.fL,I.base.fM⟩,⟨m,hn.sameBut hs (Ne.symm (IK x c hc)),fun j y v' e1 e2 e3=>?_⟩,fun y c' e=>?_,I.free,I.dm,fun p hp=>?_,tracked ⟨oc,US,I.dm x c hc⟩ hs,by simpa using I.len⟩ ⟨c,hs,.inr hc⟩
  ·exact (hs.2 b (zy (zk (zt e) (I.ok.MI x c VZ hc)))).trans (I.base.keep b o e n hb hx)
  ·obtain⟨sl,e1⟩:=I.base.slot b o e n hb hx
   exact⟨sl,(hs.2 b (zy (zk (zt e) (I.ok.MI x c VZ hc)))).trans e1⟩
  ·obtain⟨o',e1⟩:=I.base.there b o e hx
   exact⟨o',(hs.2 b (zy (zk (zt e) (I.ok.MI x c VZ hc)))).trans e1⟩
  ·by_cases hj:j=i
   ·subst hj
    rw[hi] at e1;cases e1
    rw[List.getElem?_set_self IM] at e2
    cases e2
    exact⟨u,r,.inr ⟨.inl hk,c,hc,MK⟩⟩
   ·rw[List.getElem?_set_ne (Ne.symm hj)] at e2
    obtain⟨u',r',q⟩:=hl j y v' e1 e2 e3
    refine⟨u',r',?_⟩
    rcases q with q|⟨k,c',e,z'⟩
    ·exact .inl q
    ·refine .inr ⟨k,c',e,z'.sameBut hs ?_⟩
     rintro rfl
     exact hj (pU hN e1 (I.ok.inj _ _ _ e hc ▸ hi))
  ·by_cases QT:c'=c
   ·subst QT;exact⟨_,MK⟩
   ·obtain⟨w2,z2⟩:=I.cell y c' e
    exact⟨w2,z2.sameBut hs QT⟩
  ·obtain⟨e,n,ne,nf,d⟩:=I.pin p hp
   refine⟨(hs.2 p.1 ?_).trans e,n,ne,nf,d⟩
   intro q
   rw[q,US] at e
   have q':oc=p.2:=zS e
   exact d w' (by rw[← q'];exact V0)
theorem lR(I:Inv X pins σ H s)(hN:X.N.Nodup)(hi:X.N[i]?=some x)(hx:Loc X.env.scope x)(r:RelV v u)
  (h:∀s',Inv X pins (σ.set i (some v)) H s'→Q () s') (hf:X.fn x=true∨X.env.scope.names.lookup x=some .local:=by first|exact .inl rfl|exact .inr rfl|assumption):wpAny M A (storeName X.env x u) Q E s :=
 tL I hN hi hx r (fun s' I' _=>h s' I') hf
theorem Inv.Fj(I:Inv X pins σ H s)(ho:s'.os=s.os)(u:Un (lP X.stack) ch H H' s.heap s'.heap)(aH:ki X.prog X.w H' s'.heap)(hg:AllBare s'.gens)
  (Il:∀b∈ch,(b∈X.ex∨X.cT.heap.objs.size≤b)∧b≠X.env.locals∧(∀x c,X.env.cells.lookup x=some c→c≠b)∧∀p∈X.pn++pins,p.1≠b):Inv X pins σ H' s':=by
 obtain⟨h',g',d',t',o'⟩:=s'
 have e:o'=s.os:=ho
 subst e
 exact I.call (g':=g') (t':=t') (d':=d') u aH hg Il
end
abbrev XK:=Value→Option Addr→Hp→Prop
abbrev St:=List (Option V)
abbrev VK:=V→Hp→Prop
abbrev TE:=St→Hp→VK→Prop
abbrev TT:=St→Hp→(Bool→Hp→Prop)→Prop
abbrev TA:=St→Hp→(List V→Hp→Prop)→Prop
structure Ends where
 nx:St→Hp→Prop
 rt:VK
 bk:St→Hp→Prop:=fun _ _=>False
 ct:St→Hp→Prop:=fun _ _=>False
abbrev TS:=Ends→St→Hp→Prop
def EP(X:Cx)(pins:List (Addr×Obj))(σ:St)(Q:VK)(u:Value)(s':Shared):Prop:=∃v H',Inv X pins σ H' s'∧RelV v u∧Q v H'
def TP(X:Cx)(pins:List (Addr×Obj))(σ:St)(Q:Bool→Hp→Prop)(b:Bool)(s':Shared):Prop:=∃H',Inv X pins σ H' s'∧Q b H'
def AP(X:Cx)(pins:List (Addr×Obj))(σ:St)(Q:List V→Hp→Prop)(us:List Value)(s':Shared):Prop:=∃vs H',Inv X pins σ H' s'∧Vals vs us∧Q vs H'
def SP(X:Cx)(pins:List (Addr×Obj))(D:Ends)(f:Flow)(s':Shared):Prop :=
 match f with
 |.next=>∃aD H',Inv X pins aD H' s'∧D.nx aD H'
 |.brk=>∃aD H',Inv X pins aD H' s'∧D.bk aD H'
 |.cont=>∃aD H',Inv X pins aD H' s'∧D.ct aD H'
 |.ret u=>∃v aD H',Inv X pins aD H' s'∧RelV v u∧D.rt v H'
def PE(X:Cx)(e:Expr)(t:TE):Prop :=
 ∀(pins:List (Addr×Obj)) (s:Shared) (σ:St) (H:Hp) (Q:VK),Inv X pins σ H s→t σ H Q→wpAny (model X.prog X.w) X.A (eval e X.env) (EP X pins σ Q) X.xe s
def PT(X:Cx)(e:Expr)(t:TT):Prop :=
 ∀(pins:List (Addr×Obj)) (s:Shared) (σ:St) (H:Hp) (Q:Bool→Hp→Prop),Inv X pins σ H s→t σ H Q→wpAny (model X.prog X.w) X.A (isTrue e X.env (eval e X.env)) (TP X pins σ Q) X.xe s
def PW(X:Cx)(e:Expr)(t:TT):Prop :=
 ∀(whole:Sem Value) (pins:List (Addr×Obj)) (s:Shared) (σ:St) (H:Hp) (Q:Bool→Hp→Prop),Inv X pins σ H s→t σ H Q→wpAny (model X.prog X.w) X.A (isTrue e X.env whole) (TP X pins σ Q) X.xe s
theorem PW.pt(h:PW X e t):PT X e t:=h _
def PA(X:Cx)(es:List Expr)(t:TA):Prop :=
 ∀(pos:Pos) (pins:List (Addr×Obj)) (s:Shared) (σ:St) (H:Hp) (Q:List V→Hp→Prop),Inv X pins σ H s→t σ H Q→wpAny (model X.prog X.w) X.A (spliced (backTo pos (starEach es X.env))) (AP X pins σ Q) X.xe s
def PS(X:Cx)(st:Stmt)(t:TS):Prop :=
 ∀(pins:List (Addr×Obj)) (s:Shared) (σ:St) (H:Hp) (D:Ends),Inv X pins σ H s→t D σ H→wpAny (model X.prog X.w) X.A (exec st X.env) (SP X pins D) X.xe s
def Ai(X:Cx)(st:List Stmt)(t:TS):Prop :=
 ∀(pins:List (Addr×Obj)) (s:Shared) (σ:St) (H:Hp) (D:Ends),Inv X pins σ H s→t D σ H→wpAny (model X.prog X.w) X.A (execs st X.env) (SP X pins D) X.xe s
theorem bj(h:wpAny M A t Q E s)(hQ:∀a s,Q a s→Q' a s):wpAny M A t Q' E s:=yh h hQ fun _ _ x=>x
section
variable{X:Cx}
def V1(i:Nat):TE:=fun σ H Q=>∃v,σ[i]?=some (some v)∧Q v H
def tC(v:V):TE:=fun _ H Q=>Q v H
theorem ML(hN:X.N[i]?=some x)(hv:P7 X.env.scope x)(hd:(x == ("__debug__" : Str))=false:=by decide)(rY:(x == ("__classdict__" : Str))=false:=by decide):PE X (.Name x pos) (V1 i):=by
 intro pins s σ H Q I h
 obtain⟨v,e,h⟩:=h
 obtain⟨m,hn,hl⟩:=I.loc
 obtain⟨u,r,l⟩:=hl i x v hN e hv
 have fin:EP X pins σ Q u s:=⟨v,H,I,r,h⟩
 rcases l with ⟨hk,hm⟩|⟨hk,c,hc,BX⟩
 ·exact wpAny_Name (wpAny_loadName_local I.ok.kind hk hn hm fin) hd
 ·rcases hk with hk|hk
  ·exact wpAny_Name (wpAny_loadName_cell I.ok.kind hk hc BX fin) hd
  ·exact wpAny_Name (wpAny_loadName_free I.ok.kind hk hc BX fin rY) hd
theorem MM:PE X (.Constant (.int i) j pos) (tC (.int i)):=fun _ _ _ H _ I h=>wpAny_Constant_int ⟨.int i,H,I.tok _,⟨_,rfl⟩,h⟩
theorem Lu:PE X (.Constant (.bool b) j pos) (tC (.bl b)):=fun _ _ _ H _ I h=>Constant_bool ⟨.bl b,H,I,rfl,h⟩
theorem MN:PE X (.Constant .none j pos) (tC .aw):=fun _ _ _ H _ I h=>Constant_none ⟨.aw,H,I,rfl,h⟩
theorem MO:PE X (.Constant (.str x) j pos) (tC (.str x)):=fun _ _ _ H _ I h=>Calls.Constant_str ⟨.str x,H,I.tok _,⟨_,rfl⟩,h⟩
def Gl(X:Cx)(x:Str):Prop:=X.env.kindOf x=some .globalImplicit
theorem lS(I:Inv X pins σ H s)(hg:Gl X x)(hm:X.mg x=some u)(h:Q u s)
  (hd:(x == ("__debug__" : Str))=false:=by decide):wpAny (model X.prog X.w) X.A (eval (.Name x pos) X.env) Q E s :=
 Calls.Name_function_global I.ok.kind hg (Calls.loadGlobal_global (by rw[I.ok.glob];exact I.mod.glob.keeps I.bk) hm h) hd
theorem g_(I:Inv X pins σ H s)(hg:Gl X x)(hm:X.mg x=none)(hv:bootBuiltins x=some u)(h:Q u s)
  (hn:x ≠ "__name__" := by decide) (hd:(x == ("__debug__" : Str))=false:=by decide):wpAny (model X.prog X.w) X.A (eval (.Name x pos) X.env) Q E s:=by
 obtain⟨mb,h1,h2⟩:=I.mod.blt
 exact Calls.Name_function_global I.ok.kind hg (Calls.loadGlobal_builtin (by rw[I.ok.glob];exact I.mod.glob.keeps I.bk) hm (by rw[I.ok.blt];exact h1.keeps I.bk) ((h2 x hn).trans hv) h) hd
theorem BY(hg:Gl X x)(hm:X.mg x=some u)(r:RelV v u)(hd:(x == ("__debug__" : Str))=false:=by decide):PE X (.Name x pos) (tC v) :=
 fun _ _ _ H _ I h=>lS I hg hm ⟨v,H,I,r,h⟩ hd
theorem IP(hg:Gl X x)(hm:X.mg x=none)(hv:bootBuiltins x=some u)(r:RelV v u)(hn:x ≠ "__name__" := by decide)(hd:(x == ("__debug__" : Str))=false:=by decide):PE X (.Name x pos) (tC v) :=
 fun _ _ _ H _ I h=>g_ I hg hm hv ⟨v,H,I,r,h⟩ hn hd
variable{a b:Expr}{ta tb:TE}{pos:Pos}
def tB(t:TE):TT:=fun σ H Q=>t σ H fun x H1=>∃c,x=.bl c∧Q c H1
theorem MP(h:PE X e t)(he:∀whole,isTrue e X.env whole=(do let v ← whole;standAt e.pos;holding [v] (truthy v)):=by intro _;rfl):PT X e (tB t):=by
 intro pins s σ H Q I hw
 refine isTrue_plain (bj (h pins s σ H _ I hw) fun v s1 ⟨x,H1,I1,r1,q1⟩=>?_) (he _)
 obtain⟨d,rfl,q⟩:=q1
 cases r1
 exact yi ⟨H1,I1,q⟩
variable{tA UT:TT}{rest:List Expr}
def V2(t u:TT):TT:=fun σ H Q=>t σ H fun c H1=>if c=true then u σ H1 Q else Q false H1
def tOr(t u:TT):TT:=fun σ H Q=>t σ H fun c H1=>if c=true then Q true H1 else u σ H1 Q
def V3(t:TT):TT:=fun σ H Q=>t σ H fun c H1=>Q (!c) H1
theorem pw_and1(ha:PT X a tA):PW X (.BoolOp .And [a] pos) tA:=by
 intro wh pins s σ H Q I h
 refine isTrue_and (bj (ha pins s σ H Q I h) fun c s1 e=>?_)
 cases c with
 |true=>exact isTrue_and_nil e
 |false=>exact e
theorem pw_or1(ha:PT X a tA):PW X (.BoolOp .Or [a] pos) tA:=by
 intro wh pins s σ H Q I h
 refine isTrue_or (bj (ha pins s σ H Q I h) fun c s1 e=>?_)
 cases c with
 |false=>exact isTrue_or_nil e
 |true=>exact e
theorem pw_and(ha:PT X a tA)(hb:PW X (.BoolOp .And (b::rest) pos) UT):PW X (.BoolOp .And (a::b::rest) pos) (V2 tA UT):=by
 intro wh pins s σ H Q I h
 refine isTrue_and (bj (ha pins s σ H _ I h) fun c s1 ⟨H1,I1,q1⟩=>?_)
 cases c with
 |true=>exact hb wh pins s1 σ H1 Q I1 q1
 |false=>exact⟨H1,I1,q1⟩
theorem pw_or(ha:PT X a tA)(hb:PW X (.BoolOp .Or (b::rest) pos) UT):PW X (.BoolOp .Or (a::b::rest) pos) (tOr tA UT):=by
 intro wh pins s σ H Q I h
 refine isTrue_or (bj (ha pins s σ H _ I h) fun c s1 ⟨H1,I1,q1⟩=>?_)
 cases c with
 |true=>exact⟨H1,I1,q1⟩
 |false=>exact hb wh pins s1 σ H1 Q I1 q1
theorem MQ(ha:PT X a tA):PT X (.UnaryOp .Not a pos) (V3 tA):=by
 intro pins s σ H Q I h
 exact isTrue_not (ha pins s σ H (fun c H1=>Q (!c) H1) I h)
def QU(ta tb:TE):TE:=fun σ H Q=>ta σ H fun x H1=>∃c,x=.bl c∧if c=true then tb σ H1 Q else Q (.bl false) H1
def V4(ta tb:TE):TE:=fun σ H Q=>ta σ H fun x H1=>∃c,x=.bl c∧if c=true then Q (.bl true) H1 else tb σ H1 Q
def QV(ta:TE):TE:=fun σ H Q=>ta σ H fun x H1=>∃c,x=.bl c∧Q (.bl (!c)) H1
theorem MR(h:PE X a t):PE X (.BoolOp op [a] pos) t:=fun pins s σ H Q I hw=>BoolOp_one (h pins s σ H Q I hw)
theorem MS(ha:PE X a ta)(hb:PE X (.BoolOp .And (b::rest) pos) tb):PE X (.BoolOp .And (a::b::rest) pos) (QU ta tb):=by
 intro pins s σ H Q I h
 refine BoolOp_and (bj (ha pins s σ H _ I h) fun v s1 ⟨x,H1,I1,r1,q1⟩=>?_)
 obtain⟨c,rfl,q1⟩:=q1
 cases r1
 refine yi ?_
 cases c with
 |true=>exact hb pins s1 σ H1 Q I1 q1
 |false=>exact⟨.bl false,H1,I1,rfl,q1⟩
theorem QW(ha:PE X a ta)(hb:PE X (.BoolOp .Or (b::rest) pos) tb):PE X (.BoolOp .Or (a::b::rest) pos) (V4 ta tb):=by
 intro pins s σ H Q I h
 refine BoolOp_or (bj (ha pins s σ H _ I h) fun v s1 ⟨x,H1,I1,r1,q1⟩=>?_)
 obtain⟨c,rfl,q1⟩:=q1
 cases r1
 refine yi ?_
 cases c with
 |false=>exact hb pins s1 σ H1 Q I1 q1
 |true=>exact⟨.bl true,H1,I1,rfl,q1⟩
theorem MT(ha:PE X a ta):PE X (.UnaryOp .Not a pos) (QV ta):=by
 intro pins s σ H Q I h
 refine UnaryOp_ (bj (ha pins s σ H _ I h) fun v s1 ⟨x,H1,I1,r1,q1⟩=>?_)
 obtain⟨c,rfl,q1⟩:=q1
 cases r1
 exact not_of (yi ⟨.bl (!c),H1,I1,rfl,q1⟩)
def tIf(t:TT)(ta tb:TE):TE:=fun σ H Q=>t σ H fun c H1=>if c=true then ta σ H1 Q else tb σ H1 Q
theorem Fl(hc:PT X c tA)(ha:PE X a ta)(hb:PE X b tb):PE X (.IfExp c a b pos) (tIf tA ta tb):=by
 intro pins s σ H Q I h
 refine wpAny_IfExp (bj (hc pins s σ H _ I h) fun d s1 ⟨H1,I1,q1⟩=>?_)
 cases d with
 |true=>exact ha pins s1 σ H1 Q I1 q1
 |false=>exact hb pins s1 σ H1 Q I1 q1
end
def iW(K:Frag)(H:Hp)(a:Addr)(xs:List V):Prop :=
 Rd H a (.lst xs) ∨
  ∃(o:Obj) (ax:Array Value) (n:Nat),K.lookup a=some o∧o.cls=.type "list" ∧ o.dict=none∧o.data=.seq ax n∧ax.size≤sizeLine∧Vals xs ax.toList
def iE(K:Frag)(H:Hp)(a:Addr)(xs:List V):Prop :=
 Rd H a (.tup xs) ∨
  ∃(o:Obj) (ax:Array Value) (n:Nat),K.lookup a=some o∧o.cls=.type "tuple" ∧ o.data=.seq ax n∧ax.size≤sizeLine∧Vals xs ax.toList
def V5:Value→Option V
 |.none=>some .aw
 |.bool b=>some (.bl b)
 |.int i _=>some (.int i)
 |.str x _=>some (.str x)
 |.bytes b _=>some (.BW b)
 |.float b _=>some (.MG b)
 |.ref a=>some (.ref a)
 |.type n=>some (.ty n)
 |_=>none
theorem RelV.abs(r:RelV x u):V5 u=some x:=by
 cases x with
 |aw=>cases r;rfl
 |bl _=>cases r;rfl
 |int _=>obtain⟨t,rfl⟩:=r;rfl
 |str _=>obtain⟨t,rfl⟩:=r;rfl
 |BW _=>obtain⟨t,rfl⟩:=r;rfl
 |MG _=>obtain⟨t,rfl⟩:=r;rfl
 |ref _=>cases r;rfl
 |ty _=>cases r;rfl
theorem RelV.inj(r:RelV x u)(q:RelV y u):x=y:=zS (r.abs.symm.trans q.abs)
theorem Vals.inj:∀{xs ys:List V}{us:List Value},Vals xs us→Vals ys us→xs=ys
 |_,_,_,.nil,.nil=>rfl
 |_,_,_,.cons r t,.cons r' t'=>by rw[r.inj r',Vals.inj t t']
section
variable{X:Cx}{pins:List (Addr×Obj)}{σ:St}{H:Hp}{s:Shared}{a:Addr}{xs ys:List V}
theorem iW.of{K:Frag}(h:H a=some (.lst xs)):iW K H a xs:=.inl (.inl h)
theorem iE.of{K:Frag}(h:H a=some (.tup xs)):iE K H a xs:=.inl (.inl h)
theorem Inv.list(I:Inv X pins σ H s)(h:iW X.K H a xs):∃ax:List Value,Vals xs ax∧PlainL s.heap a ax.toArray∧xs.length≤sizeLine:=by
 rcases h with h|⟨o,ax,n,hk,hc,hd,hs,hz,r⟩
 ·obtain⟨z,ax,n,r,e⟩:=h.ok I.aH
  exact⟨ax,r,⟨_,n,e,rfl,rfl,rfl⟩,z⟩
 ·refine⟨ax.toList,r,⟨o,n,I.lL a o hk,hc,hd,by simpa using hs⟩,?_⟩
  have e:=r.length
  simp only [ye] at e
  lia
theorem Inv.tuple(I:Inv X pins σ H s)(h:iE X.K H a xs):∃ax:List Value,Vals xs ax∧IsTup s.heap a ax.toArray∧xs.length≤sizeLine:=by
 rcases h with h|⟨o,ax,n,hk,hc,hs,hz,r⟩
 ·obtain⟨z,ax,r,p⟩:=h.ok I.aH
  exact⟨ax,r,p.tup,z⟩
 ·refine⟨ax.toList,r,⟨o,I.lL a o hk,hc,n,by simpa using hs⟩,?_⟩
  have e:=r.length
  simp only [ye] at e
  lia
theorem Inv.wz(I:Inv X pins σ H s)(h:iW X.K H a xs)(h':iW X.K H a ys):xs=ys:=by
 obtain⟨ax,r,⟨o,n,e,_,_,d⟩,_⟩:=I.list h
 obtain⟨its',r',⟨o',n',e',_,_,d'⟩,_⟩:=I.list h'
 rw[e] at e';cases e'
 rw[d] at d'
 injection d' with d1 _
 have:ax=its':=by simpa using congrArg Array.toList d1
 subst this
 exact r.inj r'
theorem Inv.jV(I:Inv X pins σ H s)(h:iE X.K H a xs)(h':iE X.K H a ys):xs=ys:=by
 obtain⟨ax,r,⟨o,e,_,n,d⟩,_⟩:=I.tuple h
 obtain⟨its',r',⟨o',e',_,n',d'⟩,_⟩:=I.tuple h'
 rw[e] at e';cases e'
 rw[d] at d'
 injection d' with d1 _
 have:ax=its':=by simpa using congrArg Array.toList d1
 subst this
 exact r.inj r'
end
abbrev Cx.aby(X:Cx)(E:Value→Shared→Prop):Cx:={ X with xe:=E }
section
variable{X:Cx}{pins:List (Addr×Obj)}{σ:St}{H:Hp}{s:Shared}{E:Value→Shared→Prop}
end
section
variable{X:Cx}{st:Stmt}{rest:List Stmt}{t u:TS}{e:Expr}{te:TE}{pos:Pos}
def QX:TS:=fun D σ H=>D.nx σ H
def V6(t u:TS):TS:=fun D σ H=>t { D with nx:=u D } σ H
theorem BZ:Ai X [] QX:=fun _ _ σ H _ I h=>wpAny_execs_nil ⟨σ,H,I,h⟩
theorem Fm(h1:PS X st t)(h2:Ai X rest u):Ai X (st::rest) (V6 t u):=by
 intro pins s σ H D I h
 refine wpAny_execs_cons (bj (h1 pins s σ H { D with nx:=u D } I h) fun f s1 q=>?_)
 cases f with
 |next =>
  obtain⟨aD,H',I',q⟩:=q
  exact h2 pins s1 aD H' D I' q
 |ret v=>exact q
 |brk=>exact q
 |cont=>exact q
theorem IQ(h1:PS X st t):Ai X [st] t:=by
 intro pins s σ H D I h
 refine wpAny_execs_cons (bj (h1 pins s σ H D I h) fun f s1 q=>?_)
 cases f with
 |next=>exact wpAny_execs_nil q
 |ret v=>exact q
 |brk=>exact q
 |cont=>exact q
theorem Inv.quiet(I:Inv X pins σ H s):interactive X.env=false:=by simp [interactive,I.ok.kind]
def QY(te:TE):TS:=fun D σ H=>te σ H fun _ H1=>D.nx σ H1
theorem IS(he:PE X e te)(hs:swapsWith e none pos.line X.env=pure false:=by rfl):PS X (.Expr e pos) (QY te):=by
 intro pins s σ H D I h
 exact wpAny_Expr_any (bj (he pins s σ H _ I h) <| by rintro v s1 ⟨x,H1,I1,r1,q1⟩;exact⟨σ,H1,I1,q1⟩) I.quiet hs
def V7(te:TE):TS:=fun D σ H=>te σ H D.rt
theorem MU(he:PE X e te):PS X (.Return (some e) pos) (V7 te):=by
 intro pins s σ H D I h
 exact wpAny_Return_some (bj (he pins s σ H _ I h) <| by rintro v s1 ⟨x,H1,I1,r1,q1⟩;exact⟨x,σ,H1,I1,r1,q1⟩)
def V8(c:TT)(t u:TS):TS:=fun D σ H=>c σ H fun b H1=>if b=true then t D σ H1 else u D σ H1
theorem QZ(hc:PT X c tc)(ha:Ai X a t)(hb:Ai X b u):PS X (.If c a b pos) (V8 tc t u):=by
 intro pins s σ H D I h
 refine wpAny_If (bj (hc pins s σ H _ I h) fun d s1 ⟨H1,I1,q1⟩=>?_)
 cases d with
 |true=>exact ha pins s1 σ H1 D I1 q1
 |false=>exact hb pins s1 σ H1 D I1 q1
end
abbrev TG:=V→St→Hp→(St→Hp→Prop)→Prop
abbrev P9:=List V→St→Hp→(St→Hp→Prop)→Prop
def PG(X:Cx)(target:Expr)(t:TG):Prop :=
 ∀(pins:List (Addr×Obj)) (s:Shared) (σ:St) (H:Hp) (v:V) (u:Value) (Q:St→Hp→Prop),Inv X pins σ H s→RelV v u→t v σ H Q →
  wpAny (model X.prog X.w) X.A (assign target X.env u) (fun _ s'=>∃aD H',Inv X pins aD H' s'∧Q aD H') X.xe s
def Lv(X:Cx)(ts:List Expr)(t:P9):Prop :=
 ∀(pins:List (Addr×Obj)) (s:Shared) (σ:St) (H:Hp) (vs:List V) (us:List Value) (Q:St→Hp→Prop),Inv X pins σ H s→Vals vs us→t vs σ H Q →
  wpAny (model X.prog X.w) X.A (assignInOrder ((assignEach ts X.env).map (·.2)) us) (fun _ s'=>∃aD H',Inv X pins aD H' s'∧Q aD H') X.xe s
abbrev Q0:=V→V→V→Hp→(Hp→Prop)→Prop
def Q1(X:Cx)(t:Q0):Prop :=
 ∀(pins:List (Addr×Obj)) (s:Shared) (σ:St) (H:Hp) (o i v:V) (ov iv u:Value) (Q:Hp→Prop),Inv X pins σ H s→RelV o ov→RelV i iv→RelV v u→t o i v H Q →
  wpAny (model X.prog X.w) X.A (setItem ov iv u) (fun _ s'=>∃H',Inv X pins σ H' s'∧Q H') X.xe s
abbrev V9:=V→V→Hp→VK→Prop
def ZY(X:Cx)(op:Operator)(t:V9):Prop :=
 ∀(pins:List (Addr×Obj)) (s:Shared) (σ:St) (H:Hp) (x y:V) (v u:Value) (Q:VK),Inv X pins σ H s→RelV x v→RelV y u→t x y H Q →
  wpAny (model X.prog X.w) X.A (inplaceOp op v u) (EP X pins σ Q) X.xe s
section
variable{X:Cx}{pos:Pos}
def iF(i:Nat):TG:=fun v σ H Q=>Q (σ.set i (some v)) H
theorem pH(hN:X.N.Nodup)(hi:X.N[i]?=some x)(hx:Loc X.env.scope x)(hf:X.fn x=true∨X.env.scope.names.lookup x=some .local:=by first|exact .inl rfl|exact .inr rfl|assumption):PG X (.Name x pos) (iF i):=by
 intro pins s σ H v u Q I r h
 exact wpAny_assign_Name (lR I hN hi hx r (fun s' I'=>⟨_,H,I',h⟩) hf)
def IT:P9:=fun vs σ H Q=>vs=[]∧Q σ H
def pV(t:TG)(u:P9):P9:=fun vs σ H Q=>∃v r,vs=v::r∧t v σ H fun aD H'=>u r aD H' Q
theorem B0:Lv X [] IT:=by
 intro pins s σ H vs us Q I r h
 obtain⟨e,h⟩:=h
 subst e
 cases r
 exact assignInOrder_nil ⟨σ,H,I,h⟩
theorem pW(h1:PG X e t)(h2:Lv X es u)
  (hs:(assignEach (e::es) X.env).map (·.2)=assign e X.env::(assignEach es X.env).map (·.2):=by rfl):Lv X (e::es) (pV t u):=by
 intro pins s σ H vs us Q I r h
 obtain⟨v,vr,e1,h⟩:=h
 subst e1
 cases r with
 |cons r rr =>
  rw[hs]
  refine assignInOrder_cons (bj (h1 pins s σ H _ _ _ I r h) fun _ s1 ⟨uC,H1,I1,q1⟩=>?_)
  exact h2 pins s1 uC H1 _ _ Q I1 rr q1
def IU(K:Frag)(n:Nat)(t:P9):TG:=fun v σ H Q=>∃a xs,v=.ref a∧iE K H a xs∧xs.length=n∧t xs σ H Q
theorem Fn(hc:X.calm=true)(h:Lv X es t)
  (hn:(assignEach es X.env).length=n:=by rfl) (rZ:(assignEach es X.env).findIdx? (·.1)=none:=by rfl):PG X (.Tuple es k pos) (IU X.K n t):=by
 intro pins s σ H v u Q I r hw
 obtain⟨a,xs,e1,hq,hl,hw⟩:=hw
 subst e1
 cases r
 obtain⟨ax,rv,ht,hz⟩:=I.tuple hq
 refine assign_Tuple_tuple (I.ok.hd hc) ht (by simp [hn,← hl,rv.length]) rZ fun h' hx=>?_
 have I1:Inv X pins σ H { s with heap:=h' }:=I.kept (t':=s.toks) fun b o e=>hx b o (zy (zt e)) e
 exact h pins _ σ H xs _ Q I1 (by simpa using rv) hw
def V_(to ti:TE)(t:Q0):TG:=fun v σ H Q=>to σ H fun o H1=>ti σ H1 fun i H2=>t o i v H2 fun H3=>Q σ H3
theorem MV(ho:PE X o to)(hi:PE X i ti)(hs:Q1 X t)
  (ha:∀v,assign (.Subscript o i pos) X.env v=(do
   let ov ← holding [v] (eval o X.env)
   let iv ← holding [v,ov] (eval i X.env)
   standAt pos
   holding [v,ov,iv] (setItem ov iv v)
   release [v,ov,iv] []):=by intro _;rfl):PG X (.Subscript o i pos) (V_ to ti t):=by
 intro pins s σ H v u Q I r h
 rw[ha]
 refine za (yt (bj (ho pins s σ H _ I h) fun ov s1 ⟨x,H1,I1,r1,q1⟩=>?_))
 refine za (yt (bj (hi pins s1 σ H1 _ I1 q1) fun iv s2 ⟨y,H2,I2,r2,q2⟩=>?_))
 refine za (wpAny_standAt (za (yt (bj (hs pins s2 σ H2 x y v ov iv u _ I2 r1 r2 r q2) fun _ s3 ⟨H3,I3,q3⟩=>?_))))
 exact wpAny_release ⟨σ,H3,I3,q3⟩
def MW(te:TE)(g:TG):TS:=fun D σ H=>te σ H fun x H1=>g x σ H1 D.nx
theorem Fp(he:PE X e te)(hg:PG X tg g)(hs:swapsWithSole [tg] e pos.line X.env=pure false:=by rfl)(hw:swappedStores [tg] e X.env=pure none:=by rfl)
  (h1:(assignEach [tg] X.env).map (·.2)=[assign tg X.env]:=by rfl):PS X (.Assign [tg] e pos) (MW te g):=by
 intro pins s σ H D I h
 refine wpAny_Assign_stores (bj (he pins s σ H _ I h) fun v s1 ⟨x,H1,I1,r1,q1⟩=>?_) hs hw
 rw[h1]
 exact bj (hg pins s1 σ H1 x v _ I1 r1 q1) fun _ s2 q=>q
theorem MX(hN:X.N.Nodup)(hi:X.N[i]?=some x)(hx:Loc X.env.scope x)(he:PE X e te)(hs:swapsWith e (some (.Name x pos')) pos.line X.env=pure false:=by rfl)(hf:X.fn x=true∨X.env.scope.names.lookup x=some .local:=by first|exact .inl rfl|exact .inr rfl|assumption) :
  PS X (.Assign [.Name x pos'] e pos) (MW te (iF i)):=by
 intro pins s σ H D I h
 refine wpAny_Assign_Name (bj (he pins s σ H _ I h) fun v s1 ⟨y,H1,I1,r1,q1⟩=>?_) hs
 exact lR I1 hN hi hx r1 (fun s2 I2=>⟨_,H1,I2,q1⟩) hf
def Wa(i:Nat)(te:TE)(ti:V9):TS:=fun D σ H=>∃x,σ[i]?=some (some x)∧te σ H fun y H1=>ti x y H1 fun z H2=>D.nx (σ.set i (some z)) H2
theorem MY(hN:X.N.Nodup)(hi:X.N[i]?=some x)(hx:Loc X.env.scope x)(he:PE X e te)(ho:ZY X op ti)(hf:X.fn x=true∨X.env.scope.names.lookup x=some .local:=by first|exact .inl rfl|exact .inr rfl|assumption) :
  PS X (.AugAssign (.Name x pos') op e pos) (Wa i te ti):=by
 intro pins s σ H D I h
 obtain⟨v,e1,h⟩:=h
 obtain⟨m,hn,hl⟩:=I.loc
 have vis:P7 X.env.scope x:=by rcases hx with k|k;exact .inl k;exact .inr (.inl k)
 obtain⟨u,r,l⟩:=hl i x v hi e1 vis
 refine wpAny_AugAssign_Name ?_
 have go:wpAny (model X.prog X.w) X.A (eval e X.env) (fun w bW=>wpAny (model X.prog X.w) X.A (inplaceOp op u w) (fun r Aj=>wpAny (model X.prog X.w) X.A (storeName X.env x r) (fun _=>SP X pins D .next) X.xe Aj) X.xe bW) X.xe s:=by
  refine bj (he pins s σ H _ I h) fun w s1 ⟨y,H1,I1,r1,q1⟩=>?_
  refine bj (ho pins s1 σ H1 v y u w _ I1 r r1 q1) fun z s2 ⟨zv,H2,I2,r2,q2⟩=>?_
  exact lR I2 hN hi hx r2 (fun s3 I3=>⟨_,H2,I3,q2⟩) hf
 rcases l with ⟨hk,hm⟩|⟨hk,c,hc,BX⟩
 ·exact wpAny_loadName_local I.ok.kind hk hn hm go
 ·rcases hk with hk|hk
  ·exact wpAny_loadName_cell I.ok.kind hk hc BX go
  ·rcases hx with k|k
   ·have:X.env.scope.names.lookup x=some .free:=hk
    rw[k] at this;cases this
   ·have:X.env.scope.names.lookup x=some .free:=hk
    rw[k] at this;cases this
def ipI(f:Int→Int→Int):V9:=fun x y H Q=>∃i j,x=.int i∧y=.int j∧Q (.int (f i j)) H
theorem MZ:ZY X .Add (ipI fun i j=>i+j):=by
 intro pins s σ H x y v u Q I r1 r2 h
 obtain⟨i,j,e1,e2,q⟩:=h
 subst e1;subst e2
 obtain⟨t,rfl⟩:=r1
 obtain⟨t',rfl⟩:=r2
 exact iadd_int ⟨.int _,H,I.tok _,⟨_,rfl⟩,q⟩
end
section
variable{X:Cx}{pos:Pos}
def M5(c:TT)(tb:TS):TS:=fun D σ H=>∃W:Nat→St→Hp→Prop,(∃m,W m σ H)∧∀m σ H,W m σ H →
 c σ H fun b H1=>if b=true then ∃N:St→Hp→Prop,(∀aD H',N aD H'→∃m',m'<m∧W m' aD H')∧tb { D with nx:=N,ct:=N,bk:=D.nx } σ H1 else D.nx σ H1
theorem Fq(hp:PassesOwn (model X.prog X.w) X.A X.env X.xe)(hc:PT X c tc)(hb:Ai X body tb):PS X (.While c body [] pos) (M5 tc tb):=by
 intro pins s σ H D I h
 obtain⟨W,⟨m0,w0⟩,turn⟩:=h
 refine wpAny_While (codeAny_whileLoop (fun n s'=>∃aD H',Inv X pins aD H' s'∧W n aD H') ?_ m0 ⟨σ,H,I,w0⟩)
 rintro n s1 ⟨uC,H1,I1,w1⟩
 refine wpAny_passesOwn hp (bj (hc pins s1 uC H1 _ I1 (turn n uC H1 w1)) fun b s2 ⟨H2,I2,q2⟩=>?_)
 cases b with
 |true =>
  obtain⟨N,hN,q2⟩:=q2
  rw[if_pos rfl]
  refine wpAny_passesOwn hp (bj (hb pins s2 uC H2 _ I2 q2) fun f s3 q3=>?_)
  cases f with
  |next =>
   obtain⟨g8,H3,I3,n3⟩:=q3
   obtain⟨m',hm,w3⟩:=hN g8 H3 n3
   exact⟨m',hm,g8,H3,I3,w3⟩
  |cont =>
   obtain⟨g8,H3,I3,n3⟩:=q3
   obtain⟨m',hm,w3⟩:=hN g8 H3 n3
   exact⟨m',hm,g8,H3,I3,w3⟩
  |brk=>exact q3
  |ret v=>exact q3
 |false =>
  rw[if_neg zd]
  exact wpAny_execs_nil ⟨uC,H2,I2,q2⟩
end
structure It where
 go:Nat→Hp→Prop
 Q2:Nat→Hp→V→Hp→Prop
 stop:Nat→Hp→Prop
def pX(X:Cx)(pins:List (Addr×Obj))(H:Hp)(b:Addr):Prop :=
 H b=none∧b≠X.env.locals∧b∉X.fs∧(b∈X.ex∨X.cT.heap.objs.size≤b)∧(∀x c,X.env.cells.lookup x=some c→c≠b)∧∀p∈X.pn++pins,p.1≠b
theorem Inv.pY(I:Inv X pins σ H s)(hb:s.heap.objs.size≤b)(hn:H' b=none):pX X pins H' b:=by
 refine⟨hn,yj (zk I.lt hb),I.QR hb,.inr (zL I.sz hb),fun x c e z=>?_,fun p hp z=>?_⟩
 ·obtain⟨v,q⟩:=I.cell x c e
  exact absurd (zk q.lt (by rw[z];exact hb)) (yr _)
 ·exact absurd (zk (zt (I.pin p hp).1) (by rw[z];exact hb)) (yr _)
structure Turn(P:Program)(w:World)(K:Frag)(tg:Expr)(J:It)(fp:List Addr)(it:Addr)(tn:Nat→Heap→Prop):Prop where
 mem:it∈fp
 obj:∀i h,tn i h→∀b∈fp,∃o,h.get? b=some o∧∀v,o.data≠.cell v
 keep:∀i h h',tn i h→(∀b∈fp,∀o,h.get? b=some o→h'.get? b=some o)→tn i h'
 item:∀(X:Cx),X.prog=P→X.w=w→X.K=K→X.calm=true→∀(i:Nat) (pins:List (Addr×Obj)) (s:Shared) (σ:St) (H:Hp) (E:Value→Shared→Prop),Inv X pins σ H s→(∀b∈fp,pX X pins H b)→tn i s.heap→J.go i H →
  wpAny (model P w) X.A (pyNext (.ref it)) (fun r s1=>∃u,r=some u ∧
   wpAny (model P w) X.A (letOwnedTupleGo tg (.ref it) u) (fun _ s2=>∃x H',Inv X pins σ H' s2∧RelV x u∧J.Q2 i H x H'∧tn (i+1) s2.heap∧∀b∈fp,H' b=none) E s1) E s
 done:∀(X:Cx),X.prog=P→X.w=w→X.K=K→X.calm=true→∀(i:Nat) (pins:List (Addr×Obj)) (s:Shared) (σ:St) (H:Hp) (E:Value→Shared→Prop),Inv X pins σ H s→(∀b∈fp,pX X pins H b)→tn i s.heap→J.stop i H →
  wpAny (model P w) X.A (pyNext (.ref it)) (fun r s1=>r=none∧Inv X pins σ H s1) E s
 self:∀(A:Around) (i:Nat) (s:Shared) (Q:Value→Shared→Prop) (E:Value→Shared→Prop),tn i s.heap→Q (.ref it) s→wpAny (model P w) A (pyIter (.ref it)) Q E s
abbrev TI:=St→Hp→(It→Hp→Prop)→Prop
def Wb(X:Cx)(pins:List (Addr×Obj))(σ:St)(tg:Expr)(R:It→Hp→Prop)(UU:Value)(s2:Shared):Prop :=
 ∃(it:Addr) (fp:List Addr) (tn:Nat→Heap→Prop) (J:It) (H':Hp),UU=.ref it∧Inv X pins σ H' s2∧Turn X.prog X.w X.K tg J fp it tn∧tn 0 s2.heap∧(∀b∈fp,pX X pins H' b)∧R J H'
def PI(X:Cx)(tg iter:Expr)(wi:TI):Prop :=
 ∀(pins:List (Addr×Obj)) (s:Shared) (σ:St) (H:Hp) (R:It→Hp→Prop),Inv X pins σ H s→wi σ H R →
  wpAny (model X.prog X.w) X.A (eval iter X.env) (fun v s1=>wpAny (model X.prog X.w) X.A (pyIter v) (Wb X pins σ tg R) X.xe s1) X.xe s
theorem tM(ho:s.heap.get? it=some o)(hc:o.cls=.type n)(hd:o.data=.fields vs)
  (hn:["enumerate","zip","dict_itemiterator","dict_reverseitemiterator","odict_iterator","itertools.zip_longest","itertools.pairwise"].contains n=false) (hQ:Q () s):wpAny M A (letOwnedTupleGo tg (.ref it) u) Q E s:=by
 unfold letOwnedTupleGo
 cases tg <;> first
  |exact zg hQ
  | (cases u <;> first
    |exact zg hQ
    | (refine za (wpAny_load ho ?_)
       rw[hc,hd]
       show wpAny M A (if (["enumerate","zip","dict_itemiterator","dict_reverseitemiterator","odict_iterator","itertools.zip_longest","itertools.pairwise"].contains n && vs[0]? == some (rawInt _))=true then _ else _) Q E s
       rw[if_neg (by intro h;rw[hn,zR] at h;cases h)]
       exact zg hQ))
def ZZ(K:Frag)(a:Addr):It :=
 ⟨fun i H=>∃xs x,iW K H a xs∧xs[i]?=some x,fun i H x H'=>H'=H∧∀xs,iW K H a xs→xs[i]?=some x,fun i H=>∃xs,iW K H a xs∧xs.length≤i⟩
def Z1(K:Frag)(a:Addr):It :=
 ⟨fun i H=>∃xs x,iE K H a xs∧xs[i]?=some x,fun i H x H'=>H'=H∧∀xs,iE K H a xs→xs[i]?=some x,fun i H=>∃xs,iE K H a xs∧xs.length≤i⟩
def UW(lo:Int)(n:Nat):It:=⟨fun i _=>i<n,fun i H x H'=>H'=H∧x=.int (lo+i),fun i _=>n≤i⟩
theorem Di{P:Program}{w:World}{K:Frag}{tg:Expr}(a it:Addr):Turn P w K tg (ZZ K a) [it] it (fun i h=>h.IsListIter it a i) where
 mem:=by simp
 obj:=fun i h st b hb=>by
  have e:b=it:=by simpa using hb
  subst e
  obtain⟨o,e,c,d⟩:=st
  exact⟨o,e,fun v z=>by rw[d] at z;cases z⟩
 keep:=fun i h h' st k=>st.at fun o e=>k it (by simp) o e
 item:=by
  intro X hP hw hK hc i pins s σ H E I hf st hg
  subst hP hw hK
  obtain⟨xs,x,hq,hx⟩:=hg
  obtain⟨ax,rv,p,hz⟩:=I.list hq
  obtain⟨u,hu,ru⟩:=rv.get hx
  obtain⟨f0,f1,f2,f3,f4,f5⟩:=hf it (by simp)
  refine wpAny_pyNext_list_item st p.isList (x:=u) (by simpa using hu) fun h' eM sb=>?_
  have I1:Inv X pins σ H { s with heap:=h' }:=I.turned (t':=s.toks) (fun b o hb e=>(sb.2 b hb).trans e) f0 f1 f3 f4 f5
  obtain⟨o,e,c,d⟩:=id eM
  exact⟨u,rfl,tM (s:={ s with heap:=h' }) e c d (by decide) ⟨x,H,I1,ru,⟨rfl,fun ys hy=>by rw[I.wz hy hq];exact hx⟩,eM,fun b hb=>(hf b hb).1⟩⟩
 done:=by
  intro X hP hw hK hc i pins s σ H E I hf st hg
  subst hP hw hK
  obtain⟨xs,hq,hx⟩:=hg
  obtain⟨ax,rv,p,hz⟩:=I.list hq
  obtain⟨f0,f1,f2,f3,f4,f5⟩:=hf it (by simp)
  have hl:=rv.length
  exact wpAny_pyNext_list_end (I.ok.hd hc) st p.isList (by simp;lia) fun h' eb=>⟨rfl,I.turned (t':=s.toks) (fun b o hb e=>eb b o hb e) f0 f1 f3 f4 f5⟩
 self:=fun _ _ _ _ _ st h=>wpAny_pyIter_listiter st h
theorem Al{P:Program}{w:World}{K:Frag}{tg:Expr}(a it:Addr):Turn P w K tg (Z1 K a) [it] it (fun i h=>h.IsTupleIter it a i) where
 mem:=by simp
 obj:=fun i h st b hb=>by
  have e:b=it:=by simpa using hb
  subst e
  obtain⟨o,e,c,d⟩:=st
  exact⟨o,e,fun v z=>by rw[d] at z;cases z⟩
 keep:=fun i h h' st k=>st.at fun o e=>k it (by simp) o e
 item:=by
  intro X hP hw hK hc i pins s σ H E I hf st hg
  subst hP hw hK
  obtain⟨xs,x,hq,hx⟩:=hg
  obtain⟨ax,rv,p,hz⟩:=I.tuple hq
  obtain⟨u,hu,ru⟩:=rv.get hx
  obtain⟨f0,f1,f2,f3,f4,f5⟩:=hf it (by simp)
  refine wpAny_pyNext_tuple_item st (show s.heap.IsTuple a ax.toArray from p) (x:=u) (by simpa using hu) fun h' eM sb=>?_
  have I1:Inv X pins σ H { s with heap:=h' }:=I.turned (t':=s.toks) (fun b o hb e=>(sb.2 b hb).trans e) f0 f1 f3 f4 f5
  obtain⟨o,e,c,d⟩:=id eM
  exact⟨u,rfl,tM (s:={ s with heap:=h' }) e c d (by decide) ⟨x,H,I1,ru,⟨rfl,fun ys hy=>by rw[I.jV hy hq];exact hx⟩,eM,fun b hb=>(hf b hb).1⟩⟩
 done:=by
  intro X hP hw hK hc i pins s σ H E I hf st hg
  subst hP hw hK
  obtain⟨xs,hq,hx⟩:=hg
  obtain⟨ax,rv,p,hz⟩:=I.tuple hq
  obtain⟨f0,f1,f2,f3,f4,f5⟩:=hf it (by simp)
  have hl:=rv.length
  exact wpAny_pyNext_tuple_end (I.ok.hd hc) st (show s.heap.IsTuple a ax.toArray from p) (by simp;lia) fun h' eb=>⟨rfl,I.turned (t':=s.toks) (fun b o hb e=>eb b o hb e) f0 f1 f3 f4 f5⟩
 self:=fun _ _ _ _ _ st h=>wpAny_pyIter_tupleiter st h
theorem Am{P:Program}{w:World}{K:Frag}{tg:Expr}(it:Addr)(lo:Int)(n:Nat):Turn P w K tg (UW lo n) [it] it (fun i h=>IsRangeIter h it (lo+(i:Nat) * 1) ((n:Int) - (i:Nat)) 1) where
 mem:=by simp
 obj:=fun i h st b hb=>by
  have e:b=it:=by simpa using hb
  subst e
  exact⟨_,st,fun v z=>by
   have z':Data.fields _=Data.cell v:=z
   cases z'⟩
 keep:=fun i h h' st k=>k it (by simp) _ st
 item:=by
  intro X hP hw hK hc i pins s σ H E I hf st hg
  subst hP hw hK
  obtain⟨f0,f1,f2,f3,f4,f5⟩:=hf it (by simp)
  have W:=Walks.range (prog:=X.prog) (w:=X.w) (I.ok.hd hc) it lo 1 n
  refine W.item i s _ _ hg st fun v h' tk hv eM kk=>?_
  obtain⟨t,rfl⟩:=hv
  have I1:Inv X pins σ H { s with heap:=h',toks:=tk }:=I.turned (fun b o hb e=>kk b o (by simpa using hb) e) f0 f1 f3 f4 f5
  refine⟨_,rfl,tM (s:={ s with heap:=h',toks:=tk }) (n := "range_iterator") eM rfl rfl (by decide) ⟨.int (lo+i),H,I1,⟨t,?_⟩,⟨rfl,rfl⟩,eM,fun b hb=>(hf b hb).1⟩⟩
  rw[Int.mul_one]
 done:=by
  intro X hP hw hK hc i pins s σ H E I hf st hg
  subst hP hw hK
  obtain⟨f0,f1,f2,f3,f4,f5⟩:=hf it (by simp)
  exact wpAny_pyNext_range_end (I.ok.hd hc) st (by have:n≤i:=hg;lia) fun h' eb=>⟨rfl,I.turned (t':=s.toks) (fun b o hb e=>eb b o hb e) f0 f1 f3 f4 f5⟩
 self:=fun _ _ _ _ _ st h=>wpAny_pyIter_rangeiter st h
section
variable{X:Cx}{tg:Expr}
def Q3(K:Frag)(tl:TE):TI:=fun σ H R=>tl σ H fun x H1=>∃a,x=.ref a∧(∃xs,iW K H1 a xs)∧R (ZZ K a) H1
def Wc(K:Frag)(tl:TE):TI:=fun σ H R=>tl σ H fun x H1=>∃a,x=.ref a∧(∃xs,iE K H1 a xs)∧R (Z1 K a) H1
theorem IV{l:Expr}{tl:TE}(hl:PE X l tl):PI X tg l (Q3 X.K tl):=by
 intro pins s σ H R I h
 refine bj (hl pins s σ H _ I h) fun v s1 ⟨x,H1,I1,r1,q1⟩=>?_
 obtain⟨a,e,⟨xs,hq⟩,q⟩:=q1
 subst e
 cases r1
 obtain⟨ax,rv,p,hz⟩:=I1.list hq
 refine wpAny_pyIter_list p.isList ?_
 refine⟨s1.heap.objs.size,[s1.heap.objs.size],_,_,H1,rfl,I1.kept (t':=s1.toks) fun b o e=>zb _ e,Di a _,⟨_,zq _ rfl,rfl,rfl⟩,fun b hb=>?_,q⟩
 have e:b=s1.heap.objs.size:=by simpa using hb
 subst e
 exact I1.pY (zo _) (I1.aH.fresh (zo _))
theorem M6{l:Expr}{tl:TE}(hl:PE X l tl):PI X tg l (Wc X.K tl):=by
 intro pins s σ H R I h
 refine bj (hl pins s σ H _ I h) fun v s1 ⟨x,H1,I1,r1,q1⟩=>?_
 obtain⟨a,e,⟨xs,hq⟩,q⟩:=q1
 subst e
 cases r1
 obtain⟨ax,rv,p,hz⟩:=I1.tuple hq
 refine wpAny_pyIter_tuple (show s1.heap.IsTuple a ax.toArray from p) ?_
 refine⟨s1.heap.objs.size,[s1.heap.objs.size],_,_,H1,rfl,I1.kept (t':=s1.toks) fun b o e=>zb _ e,Al a _,⟨_,zq _ rfl,rfl,rfl⟩,fun b hb=>?_,q⟩
 have e:b=s1.heap.objs.size:=by simpa using hb
 subst e
 exact I1.pY (zo _) (I1.aH.fresh (zo _))
theorem Fs{pins:List (Addr×Obj)}{σ:St}{H:Hp}{s:Shared}{R:It→Hp→Prop}{E:Value→Shared→Prop}{lo hi:Int}{t u v:Tok}{tk:Nat}(I:Inv X pins σ H s)(h1:-(2 ^ 62)≤lo)(h2:lo<2 ^ 62)(h3:-(2 ^ 62)≤hi)(h4:hi<2 ^ 62)
  (q:R (UW lo (hi - lo).toNat) H):wpAny (model X.prog X.w) X.A (pyIter (.ref s.heap.objs.size)) (Wb X pins σ tg R) E { s with heap:=s.heap.push { cls:=.type "range",data:=.fields #[.int lo t,.int hi u,.int 1 v] },toks:=tk }:=by
 refine wpAny_pyIter_range (IsRange.new ..) (small_one h1 h2 h3 h4) ?_
 have I1:Inv X pins σ H { s with heap:=s.heap.push { cls:=.type "range",data:=.fields #[.int lo t,.int hi u,.int 1 v] },toks:=tk }:=I.kept fun b o e=>zb _ e
 refine⟨(s.heap.push { cls:=.type "range",data:=.fields #[.int lo t,.int hi u,.int 1 v] }).objs.size,[(s.heap.push { cls:=.type "range",data:=.fields #[.int lo t,.int hi u,.int 1 v] }).objs.size],_,_,H,rfl,
  I1.kept (t':=tk) fun b o e=>zb _ e,Am _ lo (hi - lo).toNat,?_,fun b hb=>?_,q⟩
 ·have e1:lo+((0:Nat):Int) * 1=lo:=by simp
  have e2:(((hi - lo).toNat:Nat):Int) - ((0:Nat):Int)=Builtin.Range.rangeSize lo hi 1:=by rw[rangeSize_one];split <;> lia
  show IsRangeIter _ _ (lo+((0:Nat):Int) * 1) ((((hi - lo).toNat:Nat):Int) - ((0:Nat):Int)) 1
  rw[e1,e2]
  exact zq _ rfl
 ·have e:b=(s.heap.push { cls:=.type "range",data:=.fields #[.int lo t,.int hi u,.int 1 v] }).objs.size:=by simpa using hb
  subst e
  exact I1.pY (zo _) (I1.aH.fresh (zo _))
def Q4(ta:TA):TI:=fun σ H R=>ta σ H fun vs H1=>∃j:Int,vs=[.int j]∧-(2 ^ 62)≤j∧j<2 ^ 62∧R (UW 0 j.toNat) H1
theorem Dj{a:Expr}{ta:TA}{p pos:Pos}(hg:Gl X "range")(hm:X.mg "range" = none)(ha:PA X [a] ta)(hs:starEach [a] X.env=[(false,eval a X.env)]:=by rfl):PI X tg (.Call (.Name "range" p) [a] [] pos) (Q4 ta):=by
 intro pins s σ H R I h
 refine Call_ (g_ I hg hm boot_range (PyProof.Rows.callWith_type1 (bj (ha pos pins s σ H _ I h) fun us s1 ⟨vs,H1,I1,r1,q1⟩=>?_) hs rfl))
 obtain⟨j,e,q1,q2,q⟩:=q1
 subst e
 cases r1 with
 |cons r rr =>
  cases rr
  obtain⟨t,rfl⟩:=r
  exact call_range_1 (Fs I1 (by lia) (by lia) q1 q2 (by simpa using q))
def Wd(wi:TI)(g:TG)(tb:TS):TS:=fun D σ H=>wi σ H fun J H1=>∃W:Nat→Nat→St→Hp→Prop,(∃m,W 0 m σ H1)∧∀i m σ H,W i m σ H →
 (J.stop i H∧D.nx σ H)∨(J.go i H∧∃N:St→Hp→Prop,(∀aD H',N aD H'→∃m',m'<m∧W (i+1) m' aD H')∧∀x H',J.Q2 i H x H'→g x σ H' fun B1 H2=>tb { D with nx:=N,ct:=N,bk:=D.nx } B1 H2)
def pZ(fp:List Addr)(h:Heap):List (Addr×Obj):=fp.filterMap fun b=>(h.get? b).map fun o=>(b,o)
theorem hG(hb:b∈fp)(e:h.get? b=some o):(b,o)∈pZ fp h:=List.mem_filterMap.mpr ⟨b,hb,by rw[e];rfl⟩
theorem Dk(hp:p∈pZ fp h):p.1∈fp∧h.get? p.1=some p.2:=by
 obtain⟨b,hb,e⟩:=List.mem_filterMap.mp hp
 cases q:h.get? b with
 |none=>rw[q] at e;cases e
 |some o =>
  rw[q] at e
  have e':(b,o)=p:=zS e
  subst e'
  exact⟨hb,q⟩
theorem Inv.pinned(I:Inv X pins σ H s)(hf:∀b∈fp,pX X pins H b)(ho:∀b∈fp,∃o,s.heap.get? b=some o∧∀v,o.data≠.cell v):Inv X (pins++pZ fp s.heap) σ H s :=
 I.lQ fun p hp=>(zC.mp hp).elim (fun z=>I.pin p (zA _ z)) fun z=>by
  obtain⟨hb,e⟩:=Dk z
  obtain⟨f0,f1,f2,_⟩:=hf p.1 hb
  obtain⟨o,e',d⟩:=ho p.1 hb
  rw[e] at e';cases e'
  exact⟨e,f0,f1,f2,d⟩
theorem Inv.p_(I:Inv X (pins++pl) σ H s):Inv X pins σ H s:=I.lQ fun p hp=>I.pin p (zA _ (zU _ hp))
theorem M7(hp:PassesOwn (model X.prog X.w) X.A X.env X.xe)(hc:X.calm=true)(hi:PI X tg iter wi)(hg:PG X tg g)(hb:Ai X body tb)
  (hs:∀x,foldedSetIterable iter X.env x=pure x:=by intro _;rfl):PS X (.For tg iter body [] pos) (Wd wi g tb):=by
 intro pins s σ H D I h
 refine wpAny_For (bj (hi pins s σ H _ I h) fun v s1 h1=>bj h1 fun UU s2 h2=>?_) hs
 obtain⟨it,fp,tn,J,H2,e,I2,T,Im,f2,W,⟨m0,w0⟩,turn⟩:=h2
 subst e
 -- what stays true of the iterator's objects through the loop
 have M8:∀{H':Hp},(∀b∈fp,H' b=none)→∀b∈fp,pX X pins H' b:=fun hn b hb=>⟨hn b hb,(f2 b hb).2⟩
 refine codeAny_forLoop_any (fun n s'=>∃i aD H',Inv X pins aD H' s'∧tn i s'.heap∧(∀b∈fp,H' b=none)∧W i n aD H') ?_ m0 ⟨0,σ,H2,I2,Im,fun b hb=>(f2 b hb).1,w0⟩
 rintro n s3 ⟨i,g8,H3,I3,IW,Q5,w3⟩
 rcases turn i n g8 H3 w3 with ⟨stop,qn⟩|⟨go,N,hN,step⟩
 ·refine wpAny_passesOwn hp (bj (T.done X rfl rfl rfl hc i pins s3 g8 H3 X.xe I3 (M8 Q5) IW stop) fun r s4 ⟨hr,I4⟩=>?_)
  subst hr
  exact wpAny_execs_nil ⟨g8,H3,I4,qn⟩
 ·refine wpAny_passesOwn hp (bj (T.item X rfl rfl rfl hc i pins s3 g8 H3 X.xe I3 (M8 Q5) IW go) fun r s4 ⟨u,hr,h4⟩=>?_)
  subst hr
  refine wpAny_passesOwn hp (bj h4 fun _ s5 ⟨x,H5,I5,r5,y5,Dm,fr5⟩=>?_)
  have We:=I5.pinned (M8 fr5) (T.obj _ _ Dm)
  refine wpAny_passesOwn hp (bj (hg _ s5 g8 H5 x u _ We r5 (step x H5 y5)) fun _ s6 ⟨Q6,H6,I6,q6⟩=>?_)
  refine wpAny_passesOwn hp (bj (hb _ s6 Q6 H6 _ I6 q6) fun f s7 q7=>?_)
  have again:∀{Ft:St}{H7:Hp},Inv X (pins++pZ fp s5.heap) Ft H7 s7→N Ft H7→∃m,m<n∧∃i aD H',Inv X pins aD H' s7∧tn i s7.heap∧(∀b∈fp,H' b=none)∧W i m aD H':=fun {Ft H7} I7 n7=>by
   obtain⟨m',hm,w7⟩:=hN Ft H7 n7
   refine⟨m',hm,i+1,Ft,H7,I7.p_,T.keep _ _ _ Dm fun b hb o e=>(I7.pin (b,o) (zA _ (zA _ (hG hb e)))).1,fun b hb=>?_,w7⟩
   obtain⟨o,e,d⟩:=T.obj _ _ Dm b hb
   exact (I7.pin (b,o) (zA _ (zA _ (hG hb e)))).2.1
  cases f with
  |next=>obtain⟨Ft,H7,I7,n7⟩:=q7;exact again I7 n7
  |cont=>obtain⟨Ft,H7,I7,n7⟩:=q7;exact again I7 n7
  |brk=>obtain⟨Ft,H7,I7,q7⟩:=q7;exact⟨Ft,H7,I7.p_,q7⟩
  |ret v=>obtain⟨x7,Ft,H7,I7,r7,q7⟩:=q7;exact⟨x7,Ft,H7,I7.p_,r7,q7⟩
end
abbrev R2:=V→V→Hp→VK→Prop
def gp(X:Cx)(f:Value→Value→Sem Value)(r:R2):Prop :=
 ∀(pins:List (Addr×Obj)) (s:Shared) (σ:St) (H:Hp) (x y:V) (v u:Value) (Q:VK),Inv X pins σ H s→RelV x v→RelV y u→r x y H Q →
  wpAny (model X.prog X.w) X.A (f v u) (EP X pins σ Q) X.xe s
def Wf(X:Cx)(f:Value→Sem Value)(r:V→Hp→VK→Prop):Prop :=
 ∀(pins:List (Addr×Obj)) (s:Shared) (σ:St) (H:Hp) (x:V) (v:Value) (Q:VK),Inv X pins σ H s→RelV x v→r x H Q →
  wpAny (model X.prog X.w) X.A (f v) (EP X pins σ Q) X.xe s
def dq(X:Cx)(f:Value)(r:List V→Hp→VK→Prop):Prop :=
 ∀(pins:List (Addr×Obj)) (s:Shared) (σ:St) (H:Hp) (xs:List V) (us:List Value) (Q:VK),Inv X pins σ H s→Vals xs us→r xs H Q →
  wpAny (model X.prog X.w) X.A (call f us) (EP X pins σ Q) X.xe s
def P_(r:R2)(ta tb:TE):TE:=fun σ H Q=>ta σ H fun x H1=>tb σ H1 fun y H2=>r x y H2 Q
def tUn(r:V→Hp→VK→Prop)(ta:TE):TE:=fun σ H Q=>ta σ H fun x H1=>r x H1 Q
def rI(C:Int→Int→Prop)(g:Int→Int→V):R2:=fun x y H Q=>∃i j,x=.int i∧y=.int j∧C i j∧Q (g i j) H
def IX(g:Int→Int→V):R2:=fun x y H Q=>∃i j,x=.int i∧y=.int j∧Q (g i j) H
def rU(g:Int→V):V→Hp→VK→Prop:=fun x H Q=>∃i,x=.int i∧Q (g i) H
section
variable{X:Cx}{a b c:Expr}{ta tb tc:TE}{pos:Pos}
theorem M9(ha:PE X a ta)(hb:PE X b tb){pins:List (Addr×Obj)}{s:Shared}{σ:St}{H:Hp}{R:V→V→Hp→Prop}(I:Inv X pins σ H s)
  (h:ta σ H fun x H1=>tb σ H1 fun y H2=>R x y H2) {Q:Value→Shared→Prop}{f:Value→Value→Sem Value}
  (hf:∀v u s2 x y H2,Inv X pins σ H2 s2→RelV x v→RelV y u→R x y H2→wpAny (model X.prog X.w) X.A (f v u) Q X.xe s2) :
  wpAny (model X.prog X.w) X.A (eval a X.env) (fun v aW=>wpAny (model X.prog X.w) X.A (eval b X.env) (fun u bW=>wpAny (model X.prog X.w) X.A (f v u) Q X.xe bW) X.xe aW) X.xe s:=by
 refine bj (ha pins s σ H _ I h) fun v s1 ⟨x,H1,I1,r1,q1⟩=>?_
 refine bj (hb pins s1 σ H1 _ I1 q1) fun u s2 ⟨y,H2,I2,r2,q2⟩=>?_
 exact hf v u s2 x y H2 I2 r1 r2 q2
theorem Q7{op:Operator}{r:R2}(ho:gp X (binaryOp op) r)(ha:PE X a ta)(hb:PE X b tb):PE X (.BinOp a op b pos) (P_ r ta tb):=by
 intro pins s σ H Q I h
 exact wpAny_BinOp (M9 ha hb I h fun v u s2 x y H2 I2 rx ry q=>ho pins s2 σ H2 x y v u Q I2 rx ry q)
theorem Q8(ho:Wf X (unaryOp op) r)(ha:PE X a ta):PE X (.UnaryOp op a pos) (tUn r ta):=by
 intro pins s σ H Q I h
 exact UnaryOp_ (bj (ha pins s σ H _ I h) <| by rintro v s1 ⟨x,H1,I1,r1,q1⟩;exact ho pins s1 σ H1 x v Q I1 r1 q1)
theorem UX{f:Value→Value→Sem Value}{C:Int→Int→Prop}{g:Int→Int→Int}
  (rule:∀(i j:Int) (t u:Tok) (s:Shared) (Q:Value→Shared→Prop) (E:Value→Shared→Prop),C i j→Q (.int (g i j) s.toks) { s with toks:=s.toks+1 }→wpAny (model X.prog X.w) X.A (f (.int i t) (.int j u)) Q E s) :
  gp X f (rI C fun i j=>.int (g i j)):=by
 intro pins s σ H x y v u Q I rx ry h
 obtain⟨i,j,rfl,rfl,hc,q⟩:=h
 obtain⟨t,rfl⟩:=rx
 obtain⟨t',rfl⟩:=ry
 exact rule i j t t' s _ _ hc ⟨.int (g i j),H,I.tok _,⟨_,rfl⟩,q⟩
theorem Q9{f:Value→Value→Sem Value}{g:Int→Int→Int}
  (rule:∀(i j:Int) (t u:Tok) (s:Shared) (Q:Value→Shared→Prop) (E:Value→Shared→Prop),Q (.int (g i j) s.toks) { s with toks:=s.toks+1 }→wpAny (model X.prog X.w) X.A (f (.int i t) (.int j u)) Q E s) :
  gp X f (IX fun i j=>.int (g i j)):=by
 intro pins s σ H x y v u Q I rx ry h
 obtain⟨i,j,rfl,rfl,q⟩:=h
 obtain⟨t,rfl⟩:=rx
 obtain⟨t',rfl⟩:=ry
 exact rule i j t t' s _ _ ⟨.int (g i j),H,I.tok _,⟨_,rfl⟩,q⟩
theorem IY{f:Value→Value→Sem Value}{g:Int→Int→Bool}
  (rule:∀(i j:Int) (t u:Tok) (s:Shared) (Q:Value→Shared→Prop) (E:Value→Shared→Prop),Q (.bool (g i j)) s→wpAny (model X.prog X.w) X.A (f (.int i t) (.int j u)) Q E s) :
  gp X f (IX fun i j=>.bl (g i j)):=by
 intro pins s σ H x y v u Q I rx ry h
 obtain⟨i,j,rfl,rfl,q⟩:=h
 obtain⟨t,rfl⟩:=rx
 obtain⟨t',rfl⟩:=ry
 exact rule i j t t' s _ _ ⟨.bl (g i j),H,I,rfl,q⟩
def Q_(i j:Int):Prop:=0≤j∧j≤1000000∧i.natAbs<2 ^ 64
def IZ(i j:Int):Prop:=(-(2 ^ 64)<i∧i<2 ^ 64)∨(-(2 ^ 64)<j∧j<2 ^ 64)
theorem IZ.ok{i j:Int}(h:IZ i j):IntMulOk i j:=by
 rcases h with ⟨h1,h2⟩|⟨h1,h2⟩
 ·exact .of_left (intBits_le_64 h1 h2)
 ·exact .of_right (intBits_le_64 h1 h2)
theorem M_:gp X (binaryOp .Add) (IX fun i j=>.int (i+j)):=Q9 fun _ _ _ _ _ _ _ q=>add_int q
theorem Na:gp X (binaryOp .Sub) (IX fun i j=>.int (i - j)):=Q9 fun _ _ _ _ _ _ _ q=>sub_int q
theorem Nb:gp X (binaryOp .Mult) (rI IZ fun i j=>.int (i * j)):=UX fun _ _ _ _ _ _ _ hc q=>mul_int q hc.ok
theorem Nc:gp X (binaryOp .Mod) (rI (fun _ j=>0<j) fun i j=>.int (i % j)):=UX fun i j _ _ _ _ _ hc q=>by
 have h1:(0:Int)<j:=hc
 exact mod_int' (by lia) (by rw[Int.fmod_eq_emod_of_nonneg i (by lia)];exact q)
theorem Nd:gp X (binaryOp .Pow) (rI Q_ fun i j=>.int (i ^ j.toNat)):=UX fun _ _ _ _ _ _ _ hc q=>pow_int_small hc.1 hc.2.1 hc.2.2 q
theorem unI{f:Value→Sem Value}{g:Int→Int}
  (rule:∀(i:Int) (t:Tok) (s:Shared) (Q:Value→Shared→Prop) (E:Value→Shared→Prop),Q (.int (g i) s.toks) { s with toks:=s.toks+1 }→wpAny (model X.prog X.w) X.A (f (.int i t)) Q E s) :
  Wf X f (rU fun i=>.int (g i)):=by
 intro pins s σ H x v Q I rx h
 obtain⟨i,rfl,q⟩:=h
 obtain⟨t,rfl⟩:=rx
 exact rule i t s _ _ ⟨.int (g i),H,I.tok _,⟨_,rfl⟩,q⟩
theorem Nf:Wf X (unaryOp .USub) (rU fun i=>.int (-i)):=unI fun _ _ _ _ _ q=>neg_int q
end
def Rb:V→V→Bool
 |.aw,.aw=>true|.aw,.int _=>true|.int _,.aw=>true|.aw,.bl _=>true|.bl _,.aw=>true|.aw,.str _=>true|.str _,.aw=>true
 |.int _,.int _=>true|.bl _,.bl _=>true|.str _,.str _=>true|.BW _,.BW _=>true
 |.int _,.str _=>true|.str _,.int _=>true|.bl _,.str _=>true|.str _,.bl _=>true
 |_,_=>false
def rEq:R2:=fun x y H Q=>Rb x y=true∧Q (.bl (decide (x=y))) H
def rNe:R2:=fun x y H Q=>Rb x y=true∧Q (.bl (!decide (x=y))) H
theorem B4:decide (V.int i=V.int j)=(i == j):=by
 rw[yB]
 simp
theorem Fu:decide (V.bl i=V.bl j)=(i == j):=by
 rw[yB]
 simp
theorem B5:decide (V.str i=V.str j)=(i == j):=by
 rw[yB]
 simp
theorem B6:decide (V.BW i=V.BW j)=(i.toList == j.toList):=by
 rw[yB]
 cases i
 cases j
 simp
section
variable{X:Cx}{a b c:Expr}{ta tb tc:TE}{pos:Pos}
theorem aI(I:Inv X pins σ H s)(q:Q (.bl k) H)(e:k=k'):EP X pins σ Q (.bool k') s:=by
 subst e
 exact⟨.bl k,H,I,rfl,q⟩
theorem Lw:gp X (compareOp .Eq) rEq:=by
 intro pins s σ H x y v u Q I rx ry h
 obtain⟨hs,q⟩:=h
 cases x with
 |aw =>
  cases rx
  cases y with
  |aw=>cases ry;exact PySem.EqNone.eq_none_none (aI I q (by simp))
  |bl j=>cases ry;exact PySem.EqNone.eq_none_bool (aI I q (by simp))
  |int j=>obtain⟨t',rfl⟩:=ry;exact PySem.EqNone.eq_none_int (aI I q (by simp))
  |str j=>obtain⟨t',rfl⟩:=ry;exact PySem.EqNone.eq_none_str (aI I q (by simp))
  |_=>exact absurd (show false=true from hs) zd
 |bl i =>
  cases rx
  cases y with
  |aw=>cases ry;exact PySem.EqNone.eq_bool_none (aI I q (by simp))
  |bl j=>cases ry;exact eq_bool (aI I q Fu)
  |str j=>obtain⟨t',rfl⟩:=ry;exact PySem.EqMixed.eq_bool_str (aI I q (by simp))
  |_=>exact absurd (show false=true from hs) zd
 |int i =>
  obtain⟨t,rfl⟩:=rx
  cases y with
  |aw=>cases ry;exact PySem.EqNone.eq_int_none (aI I q (by simp))
  |int j=>obtain⟨t',rfl⟩:=ry;exact eq_int (aI I q B4)
  |str j=>obtain⟨t',rfl⟩:=ry;exact PySem.EqMixed.eq_int_str (aI I q (by simp))
  |_=>exact absurd (show false=true from hs) zd
 |str i =>
  obtain⟨t,rfl⟩:=rx
  cases y with
  |aw=>cases ry;exact PySem.EqNone.eq_str_none (aI I q (by simp))
  |bl j=>cases ry;exact PySem.EqMixed.eq_str_bool (aI I q (by simp))
  |int j=>obtain⟨t',rfl⟩:=ry;exact PySem.EqMixed.eq_str_int (aI I q (by simp))
  |str j=>obtain⟨t',rfl⟩:=ry;exact eq_str (aI I q B5)
  |_=>exact absurd (show false=true from hs) zd
 |BW i =>
  obtain⟨t,rfl⟩:=rx
  cases y with
  |BW j=>obtain⟨t',rfl⟩:=ry;exact PySem.W.eq_bytes (aI I q B6)
  |_=>exact absurd (show false=true from hs) zd
 |_=>cases y <;> exact absurd (show false=true from hs) zd
theorem Lx:gp X (compareOp .NotEq) rNe:=by
 intro pins s σ H x y v u Q I rx ry h
 obtain⟨hs,q⟩:=h
 cases x with
 |aw =>
  cases rx
  cases y with
  |aw=>cases ry;exact PySem.EqNone.ne_none_none (aI I q (by simp))
  |bl j=>cases ry;exact PySem.EqNone.ne_none_bool (aI I q (by simp))
  |int j=>obtain⟨t',rfl⟩:=ry;exact PySem.EqNone.ne_none_int (aI I q (by simp))
  |str j=>obtain⟨t',rfl⟩:=ry;exact PySem.EqNone.ne_none_str (aI I q (by simp))
  |_=>exact absurd (show false=true from hs) zd
 |bl i =>
  cases rx
  cases y with
  |aw=>cases ry;exact PySem.EqNone.ne_bool_none (aI I q (by simp))
  |bl j=>cases ry;exact ne_bool (aI I q (congrArg not Fu))
  |str j=>obtain⟨t',rfl⟩:=ry;exact PySem.EqMixed.ne_bool_str (aI I q (by simp))
  |_=>exact absurd (show false=true from hs) zd
 |int i =>
  obtain⟨t,rfl⟩:=rx
  cases y with
  |aw=>cases ry;exact PySem.EqNone.ne_int_none (aI I q (by simp))
  |int j=>obtain⟨t',rfl⟩:=ry;exact ne_int (aI I q (congrArg not B4))
  |str j=>obtain⟨t',rfl⟩:=ry;exact PySem.EqMixed.ne_int_str (aI I q (by simp))
  |_=>exact absurd (show false=true from hs) zd
 |str i =>
  obtain⟨t,rfl⟩:=rx
  cases y with
  |aw=>cases ry;exact PySem.EqNone.ne_str_none (aI I q (by simp))
  |bl j=>cases ry;exact PySem.EqMixed.ne_str_bool (aI I q (by simp))
  |int j=>obtain⟨t',rfl⟩:=ry;exact PySem.EqMixed.ne_str_int (aI I q (by simp))
  |str j=>obtain⟨t',rfl⟩:=ry;exact ne_str (aI I q (congrArg not B5))
  |_=>exact absurd (show false=true from hs) zd
 |BW i =>
  obtain⟨t,rfl⟩:=rx
  cases y with
  |BW j=>obtain⟨t',rfl⟩:=ry;exact PySem.W.ne_bytes (aI I q (congrArg not B6))
  |_=>exact absurd (show false=true from hs) zd
 |_=>cases y <;> exact absurd (show false=true from hs) zd
theorem Rf:gp X (compareOp .Lt) (IX fun i j=>.bl (decide (i<j))):=IY fun _ _ _ _ _ _ _ q=>lt_int q
theorem Rh:gp X (compareOp .LtE) (IX fun i j=>.bl (decide (i≤j))):=IY fun _ _ _ _ _ _ _ q=>le_int q
theorem Ri:gp X (compareOp .Gt) (IX fun i j=>.bl (decide (j<i))):=IY fun _ _ _ _ _ _ _ q=>gt_int q
theorem Rj:gp X (compareOp .GtE) (IX fun i j=>.bl (decide (j≤i))):=IY fun _ _ _ _ _ _ _ q=>ge_int q
theorem Dn:gp X (compareOp .Lt) (fun x y H Q=>∃i j,x=.str i∧y=.str j∧Q (.bl (decide (i.cps.toList<j.cps.toList))) H):=by
 intro pins s σ H x y v u Q I rx ry h
 obtain⟨i,j,rfl,rfl,q⟩:=h
 obtain⟨t,rfl⟩:=rx
 obtain⟨t',rfl⟩:=ry
 exact lt_str (aI I q rfl)
theorem Dq:gp X (compareOp .In) (fun x y H Q=>∃i j,x=.str i∧y=.str j∧Q (.bl (!(Builtin.Str.occurrences j i 0 j.length 1).isEmpty)) H):=by
 intro pins s σ H x y v u Q I rx ry h
 obtain⟨i,j,rfl,rfl,q⟩:=h
 obtain⟨t,rfl⟩:=rx
 obtain⟨t',rfl⟩:=ry
 exact in_str (aI I q rfl)
theorem Ng:gp X (compareOp .Is) (fun x y H Q=>y=.aw∧Q (.bl (decide (x=.aw))) H):=by
 intro pins s σ H x y v u Q I rx ry h
 obtain⟨rfl,q⟩:=h
 cases ry
 refine is_none_gen (aI I q ?_)
 cases x <;> first
  | (cases rx;rfl)
  | (obtain⟨t,rfl⟩:=rx;rfl)
theorem I_:gp X (compareOp .IsNot) (fun x y H Q=>y=.aw∧Q (.bl (!decide (x=.aw))) H):=by
 intro pins s σ H x y v u Q I rx ry h
 obtain⟨rfl,q⟩:=h
 cases ry
 refine isnot_none_gen (aI I q ?_)
 cases x <;> first
  | (cases rx;rfl)
  | (obtain⟨t,rfl⟩:=rx;rfl)
theorem Wh(b:Expr)(h:op≠.In:=by decide)(h2:op≠.NotIn:=by decide):behindInMarks op b=false:=by
 have e1:(op == CmpOp.In)=false:=by cases op <;> first|rfl|exact absurd rfl h
 have e2:(op == CmpOp.NotIn)=false:=by cases op <;> first|rfl|exact absurd rfl h2
 cases b <;> simp [behindInMarks,e1,e2]
theorem B7{op:CmpOp}{r:R2}(ho:gp X (compareOp op) r)(ha:PE X a ta)(hb:PE X b tb)(hm:behindInMarks op b=false):PE X (.Compare a [op] [b] pos) (P_ r ta tb):=by
 intro pins s σ H Q I h
 exact wpAny_Compare1 (M9 ha hb I h fun v u s2 x y H2 I2 rx ry q=>ho pins s2 σ H2 x y v u Q I2 rx ry q) hm
def Fv(t:TE):TT:=fun σ H Q=>t σ H fun x H'=>∃k,x=.bl k∧Q k H'
theorem Ja{op:CmpOp}{r:R2}(ho:gp X (compareOp op) r)(ha:PE X a ta)(hb:PE X b tb)(hm:behindInMarks op b=false):PT X (.Compare a [op] [b] pos) (Fv (P_ r ta tb)):=by
 intro pins s σ H Q I h
 refine wpAny_isTrue_Compare1 (bj (ha pins s σ H _ I h) fun v s1 ⟨x,H1,I1,r1,q1⟩=>bj (hb pins s1 σ H1 _ I1 q1) fun u s2 ⟨y,H2,I2,r2,q2⟩ =>
  bj (ho pins s2 σ H2 x y v u _ I2 r1 r2 q2) fun c s3 ⟨z,H3,I3,r3,k,e,q3⟩=>?_) hm
 subst e
 cases r3
 exact yi ⟨H3,I3,q3⟩
def An(r r':R2)(ta tb tc:TE):TE:=fun σ H Q=>ta σ H fun x H1=>tb σ H1 fun y H2=>r x y H2 fun z H3=>∃k,z=.bl k ∧
 (if k=true then tc σ H3 fun w' H4=>r' y w' H4 Q else Q (.bl false) H3)
theorem Fw{op Dr:CmpOp}{r r':R2}(ho:gp X (compareOp op) r)(Ah:gp X (compareOp Dr) r')(ha:PE X a ta)(hb:PE X b tb)(hc:PE X c tc)
  (hm:lastMarks [op,Dr] [b,c]=false:=by with_unfolding_all rfl):PE X (.Compare a [op,Dr] [b,c] pos) (An r r' ta tb tc):=by
 intro pins s σ H Q I h
 refine Compare_chain (bj (ha pins s σ H _ I h) fun v s1 ⟨x,H1,I1,r1,q1⟩=>chain_link (bj (hb pins s1 σ H1 _ I1 q1) fun u s2 ⟨y,H2,I2,r2,q2⟩ =>
  bj (ho pins s2 σ H2 x y v u _ I2 r1 r2 q2) fun d s3 ⟨z,H3,I3,r3,k,e,q3⟩=>?_)) hm
 subst e
 cases r3
 refine yi ?_
 cases k with
 |false=>exact ite_ff ⟨.bl false,H3,I3,rfl,q3⟩
 |true=>exact ite_tt (chain_last (bj (hc pins s3 σ H3 _ I3 q3) fun w' s4 ⟨z',H4,I4,r4,q4⟩=>Ah pins s4 σ H4 y z' u w' Q I4 r2 r4 q4))
theorem Fx{op Dr:CmpOp}{r r':R2}(ho:gp X (compareOp op) r)(Ah:gp X (compareOp Dr) r')(ha:PE X a ta)(hb:PE X b tb)(hc:PE X c tc)
  (hm:lastMarks [op,Dr] [b,c]=false:=by with_unfolding_all rfl):PT X (.Compare a [op,Dr] [b,c] pos) (Fv (An r r' ta tb tc)):=by
 intro pins s σ H Q I h
 refine isTrue_chain (bj (ha pins s σ H _ I h) fun v s1 ⟨x,H1,I1,r1,q1⟩=>test_link (bj (hb pins s1 σ H1 _ I1 q1) fun u s2 ⟨y,H2,I2,r2,q2⟩ =>
  bj (ho pins s2 σ H2 x y v u _ I2 r1 r2 q2) fun d s3 ⟨z,H3,I3,r3,k,e,q3⟩=>?_)) hm
 subst e
 cases r3
 refine yi ?_
 cases k with
 |false =>
  obtain⟨k',e',q'⟩:=q3
  cases e'
  exact ite_ff ⟨H3,I3,q'⟩
 |true =>
  refine ite_tt (test_last (bj (hc pins s3 σ H3 _ I3 q3) fun w' s4 ⟨z',H4,I4,r4,q4⟩=>bj (Ah pins s4 σ H4 y z' u w' _ I4 r2 r4 q4) fun d' s5 ⟨z2,H5,I5,r5,k2,e2,q5⟩=>?_))
  subst e2
  cases r5
  exact yi ⟨H5,I5,q5⟩
theorem qc:(sizeLine:Nat)<2 ^ 63:=by rw[zT];decide
theorem Ao:gp X (binaryOp .Add) (fun x y H Q=>∃i j,x=.str i∧y=.str j∧i.length+j.length≤sizeLine∧Q (.str (i++j)) H):=by
 intro pins s σ H x y v u Q I rx ry h
 obtain⟨i,j,rfl,rfl,hz,q⟩:=h
 obtain⟨t,rfl⟩:=rx
 obtain⟨t',rfl⟩:=ry
 exact add_str (fun t' tk=>⟨.str (i++j),H,I.tok _,⟨_,rfl⟩,q⟩) hz
theorem vals1(r:Vals [x] us):∃u,us=[u]∧RelV x u:=by
 cases r with
 |cons r1 r2=>cases r2;exact⟨_,rfl,r1⟩
theorem vals2(r:Vals [x,y] us):∃u w',us=[u,w']∧RelV x u∧RelV y w':=by
 cases r with
 |cons r1 r2 =>
  cases r2 with
  |cons r3 r4=>cases r4;exact⟨_,_,rfl,r1,r3⟩
theorem Ds(hc:X.calm=true):dq X (.builtin "min") (fun xs H Q=>∃i j,xs=[.int i,.int j]∧Q (.int (if j<i then j else i)) H):=by
 intro pins s σ H xs us Q I r h
 obtain⟨i,j,rfl,q⟩:=h
 obtain⟨u,w',rfl,⟨t,rfl⟩,⟨t',rfl⟩⟩:=vals2 r
 refine min_two_ints (I.ok.hd hc) fun h' tk k=>⟨_,H,I.kept k,?_,q⟩
 by_cases hj:j<i
 ·rw[if_pos hj,if_pos hj];exact⟨_,rfl⟩
 ·rw[if_neg hj,if_neg hj];exact⟨_,rfl⟩
theorem tN:dq X (.type "int") (fun xs H Q=>(∃i,xs=[.int i]∧Q (.int i) H)∨∃k,xs=[.bl k]∧Q (.int (if k then 1 else 0)) H):=by
 intro pins s σ H xs us Q I r h
 rcases h with ⟨i,rfl,q⟩|⟨k,rfl,q⟩
 ·obtain⟨u,rfl,t,rfl⟩:=vals1 r
  exact call_int_int ⟨.int i,H,I,⟨_,rfl⟩,q⟩
 ·obtain⟨u,rfl,r1⟩:=vals1 r
  cases r1
  exact call_int_bool ⟨.int (if k then 1 else 0),H,I.tok _,⟨_,rfl⟩,q⟩
def Wi(K:Frag)(x:V)(H:Hp)(n:Nat):Prop :=
 match x with
 |.str y=>y.length≤sizeLine∧n=y.length
 |.BW y=>y.size≤sizeLine∧n=y.size
 |.ref p=>(∃xs,iW K H p xs∧n=xs.length)∨∃xs,iE K H p xs∧n=xs.length
 |_=>False
theorem iY:dq X (.builtin "len") (fun xs H Q=>∃x n,xs=[x]∧Wi X.K x H n∧Q (.int n) H):=by
 intro pins s σ H xs us Q I r h
 obtain⟨x,n,rfl,e,q⟩:=h
 obtain⟨u,rfl,rx⟩:=vals1 r
 have hl:=qc
 have hs:sizeLine=16777216:=zT
 cases x with
 |str y =>
  obtain⟨t,rfl⟩:=rx
  obtain⟨hy,e'⟩:y.length≤sizeLine∧n=y.length:=e
  subst e'
  exact len_str (by lia) ⟨.int _,H,I.tok _,⟨_,rfl⟩,q⟩
 |BW y =>
  obtain⟨t,rfl⟩:=rx
  obtain⟨hy,e'⟩:y.size≤sizeLine∧n=y.size:=e
  subst e'
  exact PySem.W.len_bytes (by lia) ⟨.int _,H,I.tok _,⟨_,rfl⟩,q⟩
 |ref p =>
  cases rx
  have e':(∃xs,iW X.K H p xs∧n=xs.length)∨∃xs,iE X.K H p xs∧n=xs.length:=e
  rcases e' with ⟨xs,hx,e'⟩|⟨xs,hx,e'⟩
  ·subst e'
   obtain⟨ax,r',pl,hz⟩:=I.list hx
   have hlen:=r'.length
   exact Calls.call_len_list pl.isList (by simp only [zh];lia) ⟨.int xs.length,H,I.tok _,⟨_,by simp only [zh];rw[hlen]⟩,q⟩
  ·subst e'
   obtain⟨ax,r',pl,hz⟩:=I.tuple hx
   have hlen:=r'.length
   exact len_tuple pl (by simp only [zh];lia) ⟨.int xs.length,H,I.tok _,⟨_,by simp only [zh];rw[hlen]⟩,q⟩
 |_=>exact (show False from e).elim
end
structure Ap(h:Heap)(x dx C:Addr)(mA:Str→Option Value):Prop where
 obj:h.get? x=some (instObj C dx)
 ns:h.Ns1 dx mA
 ne:dx≠x
theorem Du{h:Heap}{dx:Addr}{mA:Str→Option Value}(n:h.Ns1 dx mA):∃od,h.get? dx=some od∧∀name,lookIn name od=some (mA name):=by
 obtain⟨o,es,ep,ho,hd,hk,_,hm⟩:=n
 refine⟨o,ho,fun name=>?_⟩
 have e:=hm name
 unfold nsFind findBy at e
 rw[← Array.find?_toList] at e
 unfold lookIn
 rw[hd]
 dsimp only
 split
 ·rename_i y q
  rw[q] at e
  exact congrArg some e
 ·rename_i q
  rw[q] at e
  have a:es.toList.any (·.refKey)=false:=by
   rw[List.any_eq_false]
   intro y hy
   obtain⟨z,t,Nh⟩:=hk y (Array.mem_toList_iff.mp hy)
   simp [DictEntry.refKey,Nh]
  have a':¬ es.toList.any (·.refKey)=true:=by rw[a];exact zd
  rw[if_neg a']
  exact congrArg some e
theorem Ap.look(I:Ap h x dx C mA):∃od,PySem.W.InstAt h x (instObj C dx) C (some od)∧∀name,lookIn name od=some (mA name) :=
 let ⟨od,ho,hl⟩:=Du I.ns
 ⟨od,⟨I.obj,rfl,rfl,ho⟩,hl⟩
section
variable{prog:Program}{w:World}{A:Around}{E:Value→Shared→Prop}{s:Shared}{K:Frag}{x dx C f:Addr}{mA:Str→Option Value}{name:Str}{v:Value}
theorem get_map(X:K.In s.heap)(I:Ap s.heap x dx C mA)(hg:plainGet K C name=true)(hh:hasDictIn K C=true)
  (ha:findIn K (.ref C) name=some none) (hv:mA name=some v) (UY:handedIn v=true) (h:Q v { s with toks:=s.toks+1 }) :
  wpAny (model prog w) A (getAttr (.ref x) name expr) Q E s:=by
 obtain⟨od,J,hl⟩:=I.look
 exact PySem.W.get_value X J (plainGet_of hg).1 (PySem.W.findObj_own hh ha rfl (by rw[hl,hv])) UY h
theorem Fy(X:K.In s.heap)(I:Ap s.heap x dx C mA)(hg:plainGet K C name=true)
  (hf:findIn K (.ref C) name=some (some (.ref f))) (ht:isFn K (.ref f)=true) (hv:mA name=none) (h:Q (.ref f,[.ref x]) s) :
  wpAny (model prog w) A (getMethod (.ref x) name pl) Q E s:=by
 obtain⟨od,J,hl⟩:=I.look
 exact PySem.W.method_fn X J (plainGet_of hg).1 (plainGet_of hg).2 hf (beq_iff_eq.mp ht) (by show (lookIn name od).map (·.isSome)=some false;rw[hl,hv];rfl) h
theorem Jb(X:K.In s.heap)(I:Ap s.heap x dx C mA)
  (hs:findIn K (.ref C) "__setattr__" = some (some (.builtin "object.__setattr__"))) (hp:plainOver K C=true) (ht:takerIn K C name=some none) (hh:hasDictIn K C=true)
  (hw:PySem.Within mA ns) (hsz:ns.length≤sizeLine)
  (h:∀h',Ap h' x dx C (fun y=>if y=name then some v else mA y)→Heap.SameBut dx s.heap h'→Q () { s with heap:=h',toks:=s.toks+2 }) :
  wpAny (model prog w) A (setAttr (.ref x) name v) Q E s:=by
 obtain⟨od,J,hl⟩:=I.look
 refine PySem.W.set_plain X J hs (PySem.W.osa_open (s:={ s with toks:=s.toks+1 }) (r:=none) X J hp ht fun b=>?_)
 obtain⟨cd,hc,IL⟩:=PySem.W.any_some hh
 have hx:s.heap.get? x=some ⟨.ref C,some dx,.plain,#[]⟩:=I.obj
 refine za (zg (za (za (wpAny_loadPart hx (za (PySem.W.Looks.here (s:={ s with toks:=s.toks+1 }) (PySem.W.looks_clsIn X hc) ?_))))))
 rw[IL]
 refine zg (a:=some dx) (za (zg (za ?_)))
 refine wpAny_nsSet1 (s:={ s with toks:=s.toks+1 }) I.ns fun h' Ni Ab=>?_
 obtain⟨oD,esD,epD,hoD,hdD,hcD⟩:=Ni.count (PySem.Within.cons name v hw)
 refine za (wpAny_lookBehind hoD (by rw[hdD];exact pastItsLine_dict (zL hcD (by rw[zE];lia))) ?_)
 exact zg (h _ ⟨(Ab.2 _ (Ne.symm I.ne)).trans I.obj,Ni,I.ne⟩ Ab)
theorem Fz(X:K.In s.heap)(hm:makesIn K C=true)
  (hi:findIn K (.ref C) "__init__" = some (some (.ref f))) (hf:PySem.W.typeIn K (.ref f)=some (.type "function"))
  (h:codeAny (model prog w) (A.under (.builtin "type.__call__" ⟨.ref C::vs,kw⟩)) (.call (.ref f) ⟨.ref (s.heap.objs.size+1)::vs,kw⟩) (PySem.W.InitBack (s.heap.objs.size+1) R)
   { s with heap:=(s.heap.push emptyDict).push (instObj C s.heap.objs.size) }) :
  codeAny (model prog w) A (.call (.ref C) ⟨vs,kw⟩) R s:=by
 obtain⟨hh,g,d,t,os⟩:=s
 exact PySem.W.make_core (PySem.W.makes_of X hm) (looks_findIn X hi) (fun self=>PySem.W.bind_fn X self hf) (.inl rfl) h
end
def putF(f:Str)(v:V):List (Str×V)→List (Str×V)
 |[]=>[(f,v)]
 | (g,x)::r=>if g=f then (g,v)::r else (g,x)::putF f v r
theorem ou(f g:Str)(v:V):∀fs:List (Str×V),(putF f v fs).lookup g=if g=f then some v else fs.lookup g
 |[]=>by
  show List.lookup g [(f,v)]=_
  by_cases h:g=f
  ·have hb:(g == f)=true:=beq_iff_eq.mpr h
   simp only [List.lookup,hb,if_pos h]
  ·have hb:(g == f)=false:=beq_eq_false_iff_ne.mpr h
   simp only [List.lookup,hb,if_neg h]
 | (k,x)::r=>by
  have ih:=ou f g v r
  rw[show putF f v ((k,x)::r)=(if k=f then (k,v)::r else (k,x)::putF f v r) from rfl]
  by_cases hk:k=f
  ·rw[if_pos hk]
   by_cases h:g=k
   ·have hb:(g == k)=true:=beq_iff_eq.mpr h
    simp only [List.lookup,hb,if_pos (h.trans hk)]
   ·have hb:(g == k)=false:=beq_eq_false_iff_ne.mpr h
    simp only [List.lookup,hb,if_neg (fun e:g=f=>h (e.trans hk.symm))]
  ·rw[if_neg hk]
   by_cases h:g=k
   ·have hb:(g == k)=true:=beq_iff_eq.mpr h
    simp only [List.lookup,hb,if_neg (fun e:g=f=>hk (h.symm.trans e))]
   ·have hb:(g == k)=false:=beq_eq_false_iff_ne.mpr h
    simp only [List.lookup,hb]
    exact ih
theorem mX(f:Str)(v:V):∀fs:List (Str×V),f∈(putF f v fs).map (·.1)∧∀g,g∈fs.map (·.1)→g∈(putF f v fs).map (·.1)
 |[]=>⟨by simp [putF],fun g h=>by simp at h⟩
 | (k,x)::r=>by
  obtain⟨i1,i2⟩:=mX f v r
  rw[show putF f v ((k,x)::r)=(if k=f then (k,v)::r else (k,x)::putF f v r) from rfl]
  by_cases hk:k=f
  ·rw[if_pos hk]
   subst hk
   exact⟨by simp,fun g h=>by simpa using h⟩
  ·rw[if_neg hk]
   refine⟨?_,fun g h=>?_⟩
   ·rw[zM]
    exact zp _ i1
   ·rw[zM] at h ⊢
    rcases ze.mp h with e|e
    ·exact ze.mpr (.inl e)
    ·exact zp _ (i2 g e)
theorem ox(f:Str)(v:V):∀fs:List (Str×V),(putF f v fs).length≤fs.length+1
 |[]=>by simp [putF]
 | (k,x)::r=>by
  have ih:=ox f v r
  rw[show putF f v ((k,x)::r)=(if k=f then (k,v)::r else (k,x)::putF f v r) from rfl]
  by_cases hk:k=f
  ·rw[if_pos hk,zE,zE];lia
  ·rw[if_neg hk,zE,zE];lia
theorem fK.some_of(r:fK (some v) o):∃u,o=some u∧RelV v u:=by
 cases o with
 |none=>exact (show False from r).elim
 |some u=>exact⟨u,rfl,r⟩
theorem fK.none_of(r:fK none o):o=none:=by
 cases o with
 |none=>rfl
 |some u=>exact (show False from r).elim
theorem Dw(r:RelV v u):handedIn u=true:=by
 cases v with
 |aw=>cases (show u=Value.none from r);rfl
 |bl b=>cases (show u=Value.bool b from r);rfl
 |int i=>obtain⟨t,e⟩:=(show ∃t,u=Value.int i t from r);cases e;rfl
 |str x=>obtain⟨t,e⟩:=(show ∃t,u=Value.str x t from r);cases e;rfl
 |BW b=>obtain⟨t,e⟩:=(show ∃t,u=Value.bytes b t from r);cases e;rfl
 |MG b=>obtain⟨t,e⟩:=(show ∃t,u=Value.float b t from r);cases e;rfl
 |ref a=>cases (show u=Value.ref a from r);rfl
 |ty n=>cases (show u=Value.type n from r);rfl
section
variable{P:Program}{w:World}{H H':Hp}{h h':Heap}{a C dx:Addr}{fs UN:List (Str×V)}
theorem pI(aH:ki P w H h)(e:H a=some (.ins C dx fs)):∃mA,Ap h a dx C mA∧(∀f,fK (fs.lookup f) (mA f))∧PySem.Within mA (fs.map (·.1))∧fs.length≤1000∧H dx=some (.own a):=by
 obtain⟨d,z,ne,ob,mA,n,r,q⟩:=(show aV P w H h a (.ins C dx fs) from aH a _ e)
 exact⟨mA,⟨ob,n,ne⟩,r,q,z,d⟩
end
structure uD(K:Frag)(C:Addr):Prop where
 pg:plainGet K C Str.empty=true
 hd:hasDictIn K C=true
 po:plainOver K C=true
 sa:findIn K (.ref C) "__setattr__" = some (some (.builtin "object.__setattr__"))
theorem uD.get{K:Frag}{C:Addr}(c:uD K C)(f:Str):plainGet K C f=true:=c.pg
def iZ(K:Frag)(C:Addr)(f:Str):Prop:=findIn K (.ref C) f=some none
theorem iZ.Rk{K:Frag}{C:Addr}{f:Str}(n:iZ K C f):takerIn K C f=some none:=by
 unfold takerIn
 rw[show findIn K (.ref C) f=some none from n]
 rfl
structure Con(K:Frag)(C:Addr)(f:Str)(v:V)(u:Value):Prop where
 at_:findIn K (.ref C) f=some (some u)
 rel:RelV v u
 get:specialIn K u "__get__" = some none
 cp:PySem.W.copiedNames.contains f=false
structure Meth(K:Frag)(C:Addr)(m:Str)(f:Addr):Prop where
 at_:findIn K (.ref C) m=some (some (.ref f))
 fn:isFn K (.ref f)=true
 kp:keepIn K (.ref f)=true
section
variable{X:Cx}{pins:List (Addr×Obj)}{σ:St}{H:Hp}{s:Shared}{a C dx:Addr}{fs:List (Str×V)}{f:Str}{v:V}{A:Around}{E:Value→Shared→Prop}
theorem Aq(I:Inv X pins σ H s)(e:H a=some (.ins C dx fs))(c:uD X.K C)(n:iZ X.K C f)(l:fs.lookup f=some v)
  (h:∀u s',Inv X pins σ H s'→RelV v u→Q u s'):wpAny (model X.prog X.w) A (getAttr (.ref a) f b) Q E s:=by
 obtain⟨mA,O,r,_,_,_⟩:=pI I.aH e
 obtain⟨u,hu,ru⟩:=fK.some_of (v:=v) (o:=mA f) (by rw[← l];exact r f)
 exact get_map I.lL O (c.get f) c.hd n hu (Dw ru) (h u _ (I.tok _) ru)
theorem qe(I:Inv X pins σ H s)(e:H a=some (.ins C dx fs))(c:uD X.K C)(k:Meth X.K C m g)(l:fs.lookup m=none)
  (h:Q (.ref g,[.ref a]) s):wpAny (model X.prog X.w) A (getMethod (.ref a) m pl) Q E s:=by
 obtain⟨mA,O,r,_,_,_⟩:=pI I.aH e
 have hn:mA m=none:=fK.none_of (by rw[← l];exact r m)
 exact Fy I.lL O (c.get m) k.at_ k.fn hn h
theorem Ar(I:Inv X pins σ H s)(e:H a=some (.ins C dx fs))(c:uD X.K C)(n:iZ X.K C f)(hl:fs.length<1000)(ry:RelV y u)
  (h:∀s',Inv X pins σ (upd H a (.ins C dx (putF f y fs))) s'→Q () s'):wpAny (model X.prog X.w) A (setAttr (.ref a) f u) Q E s:=by
 obtain⟨mA,O,r,wi,_,ho⟩:=pI I.aH e
 have hz:(fs.map (·.1)).length≤sizeLine:=by rw[zc,zT];lia
 refine Jb I.lL O c.sa c.po n.Rk c.hd wi hz fun h' O' sb=>h _ ?_
 have hd:∃o,h'.get? dx=some o:=by obtain⟨o,_,_,e',_⟩:=O'.ns;exact⟨o,e'⟩
 refine I.write (x:=a) (e:=dx) (by rw[e];exact True.intro) (.inr ho) (fun b q hb z=>(sb.2 b hb).trans z) hd ?_
 refine⟨by rw[ao O.ne];exact ho,?_,O.ne,O'.obj,_,O'.ns,fun g=>?_,fun g hg=>?_⟩
 ·have:=ox f y fs;lia
 ·show fK ((putF f y fs).lookup g) (if g=f then some u else mA g)
  rw[ou]
  by_cases q:g=f
  ·rw[if_pos q,if_pos q];exact ry
  ·rw[if_neg q,if_neg q];exact r g
 ·by_cases q:g=f
  ·rw[q];exact (mX f y fs).1
  ·refine (mX f y fs).2 g (wi g fun z=>hg ?_)
   show (if g=f then some u else mA g)=none
   rw[if_neg q];exact z
theorem Inv.made(I:Inv X pins σ H s):Inv X pins σ (upd (upd H s.heap.objs.size (.own (s.heap.objs.size+1))) (s.heap.objs.size+1) (.ins C s.heap.objs.size []))
  { s with heap:=(s.heap.push emptyDict).push (instObj C s.heap.objs.size) }:=by
 have e1:(s.heap.push emptyDict).get? s.heap.objs.size=some emptyDict:=zq s.heap rfl
 have e2:((s.heap.push emptyDict).push (instObj C s.heap.objs.size)).get? (s.heap.objs.size+1)=some (instObj C s.heap.objs.size):=by
  have:=zq (s.heap.push emptyDict) (o:=instObj C s.heap.objs.size) rfl
  rwa [yk] at this
 have e3:(s.heap.push emptyDict).Ns s.heap.objs.size (fun _=>none):=⟨emptyDict,#[],_,e1,rfl,(fun e he=>absurd he (by simp)),fun _=>rfl⟩
 have I1:=I.laid (a:=s.heap.objs.size) (o:=.own (s.heap.objs.size+1)) (h':=s.heap.push emptyDict) (t':=s.toks) (fun b u q=>zb _ q) (zo _) ⟨_,e1⟩
 refine I1.laid (a:=s.heap.objs.size+1) (o:=.ins C s.heap.objs.size []) (t':=s.toks) (fun b u q=>zb _ q) (Nat.le_of_eq (yk _ _)) ?_
 have ne:s.heap.objs.size≠s.heap.objs.size+1:=zy (Nat.lt_succ_self _)
 refine⟨by rw[ao ne,aB],ya _,ne,e2,fun _=>none,(Heap.Ns1.of_empty e3).at fun o q=>zb _ q,fun _=>True.intro,fun y hy=>absurd rfl hy⟩
theorem Jc(hb:attributeBase e f env (eval e env)=eval e env)
  (h:wpAny (model prog w) A (eval e env) (fun o aW=>wpAny (model prog w) A (getAttr o f true) Q E aW) E s):wpAny (model prog w) A (eval (.Attribute e f pos) env) Q E s :=
 Attribute_any_ h (by rw[arm_eval_Attribute,hb])
end
def Wj(K:Frag)(ta:TE)(f:Str):TE:=fun σ H Q=>ta σ H fun x H1=>∃a C dx fs v,x=.ref a∧H1 a=some (.ins C dx fs)∧uD K C∧iZ K C f∧fs.lookup f=some v∧Q v H1
def Wk(K:Frag)(ta tv:TE)(f:Str):TS:=fun D σ H=>tv σ H fun y H1=>ta σ H1 fun x H2=>∃a C dx fs,x=.ref a∧H2 a=some (.ins C dx fs)∧uD K C∧iZ K C f∧fs.length<1000 ∧
 D.nx σ (upd H2 a (.ins C dx (putF f y fs)))
section
variable{X:Cx}{o e value:Expr}{f:Str}{pos pos' Wl:Pos}{ta tv:TE}
theorem Nj(he:PE X e ta)(hb:attributeBase e f X.env (eval e X.env)=eval e X.env):PE X (.Attribute e f pos) (Wj X.K ta f):=by
 intro pins s σ H Q I h
 refine Jc hb (bj (he pins s σ H _ I h) fun u s1 ⟨x,H1,I1,rx,a,C,dx,fs,v,ex,ea,c,n,l,q⟩=>?_)
 subst ex
 obtain rfl:u=Value.ref a:=rx
 exact Aq I1 ea c n l fun u' s2 I2 ru=>⟨v,H1,I2,ru,q⟩
theorem Nk(ha:PE X o ta)(hv:PE X value tv)(hs:swapsWith value (some (.Attribute o f pos')) pos.line X.env=pure false):PS X (.Assign [.Attribute o f pos'] value pos) (Wk X.K ta tv f):=by
 intro pins s σ H D I h
 refine plainObj_wpAny_Assign_Attribute (bj (hv pins s σ H _ I h) fun u s1 ⟨y,H1,I1,ry,q⟩=>bj (ha pins s1 σ H1 _ I1 q) fun ov s2 ⟨x,H2,I2,rx,a,C,dx,fs,ex,ea,c,n,l,q2⟩=>?_) hs
 subst ex
 obtain rfl:ov=Value.ref a:=rx
 exact Ar I2 ea c n l ry fun s3 I3=>⟨σ,_,I3,q2⟩
end
section
variable{X:Cx}{pins:List (Addr×Obj)}{σ:St}{H:Hp}{s:Shared}{A:Around}{E:Value→Shared→Prop}{Q:Value→Shared→Prop}{c:Value}{b:Bool}
inductive mY (K:Frag) (H:Hp):V→Value→Prop where
 |aw:mY K H .aw (.type "NoneType")
 |bl (x:Bool):mY K H (.bl x) (.type "bool")
 |int (i:Int):mY K H (.int i) (.type "int")
 |str (x:Str):mY K H (.str x) (.type "str")
 |MG (x:UInt64):mY K H (.MG x) (.type "float")
 |lst {a:Addr}{xs:List V} (e:H a=some (.lst xs)):mY K H (.ref a) (.type "list")
 |kN {a:Addr}{o:Obj}{xs:List V} (e:H a=some (.kN o (.lst xs))):mY K H (.ref a) (.type "list")
 |tup {a:Addr}{xs:List V} (e:H a=some (.tup xs)):mY K H (.ref a) (.type "tuple")
 |dK {a:Addr}{kvs:List (Key×V)} (e:H a=some (.dK kvs)):mY K H (.ref a) (.type "dict")
 |dT {a:Addr}{kvs:List (List Key×V)} (e:H a=some (.dT kvs)):mY K H (.ref a) (.type "dict")
 |ins {a C dx:Addr}{fs:List (Str×V)} (e:H a=some (.ins C dx fs)) (cl:uD K C) (ha:findIn K (.ref C) "__class__" = some (some (.builtin "object.__class__")))
   (hn:specialIn K (.builtin "object.__class__") "__get__" = some (some (.builtin "getset_descriptor.__get__"))) (Z2:PySem.W.takesIn K (.builtin "object.__class__")=some true)
   (hm:mroIn K C (.type "object")=some true):mY K H (.ref a) (.ref C)
theorem Dx(I:Inv X pins σ H s)(rx:RelV x u)(ty:mY X.K H x t)(e:kitOne X.K t c=some b)(h:∀tk,Q (.bool b) { s with toks:=tk }) :
  wpAny (model X.prog X.w) A (call (.builtin "isinstance") [u,c]) Q E s:=by
 cases ty with
 |aw=>cases (show u=Value.none from rx);exact kia_one PySem.W.kitx_none I.lL True.intro e (fun z=>nomatch z) h
 |bl y=>cases (show u=Value.bool y from rx);exact kia_one PySem.W.kitx_bool I.lL True.intro e (fun z=>nomatch z) h
 |int i=>obtain⟨t,q⟩:=(show ∃t,u=Value.int i t from rx);cases q;exact kia_one PySem.W.kitx_int I.lL True.intro e (fun z=>nomatch z) h
 |str y=>obtain⟨t,q⟩:=(show ∃t,u=Value.str y t from rx);cases q;exact kia_one PySem.W.kitx_str I.lL True.intro e (fun z=>nomatch z) h
 |MG y=>obtain⟨t,q⟩:=(show ∃t,u=Value.float y t from rx);cases q;exact kia_one PySem.W.kitx_float I.lL True.intro e (fun z=>nomatch z) h
 |@lst a xs ea =>
  cases (show u=Value.ref a from rx)
  obtain⟨_,_,n,_,h1⟩:=(show aV X.prog X.w H s.heap a (.lst xs) from I.aH a _ ea)
  exact kia_one kitx_list I.lL ⟨_,h1,rfl⟩ e (fun z=>nomatch z) h
 |@kN a ob xs ea =>
  cases (show u=Value.ref a from rx)
  obtain⟨_,_,_,n,_,h1⟩:=(show aV X.prog X.w H s.heap a (.kN ob (.lst xs)) from I.aH a _ ea)
  exact kia_one kitx_list I.lL ⟨_,h1,rfl⟩ e (fun z=>nomatch z) h
 |@tup a xs ea =>
  cases (show u=Value.ref a from rx)
  obtain⟨_,_,_,p⟩:=(show aV X.prog X.w H s.heap a (.tup xs) from I.aH a _ ea)
  obtain⟨o,h1,h2,_⟩:=p
  exact kia_one PySem.W.kitx_tuple I.lL ⟨o,h1,h2⟩ e (fun z=>nomatch z) h
 |@dK a kvs ea =>
  cases (show u=Value.ref a from rx)
  obtain⟨_,_,vs,_,p⟩:=(show aV X.prog X.w H s.heap a (.dK kvs) from I.aH a _ ea)
  obtain⟨o,es,ep,h1,h2,_⟩:=p
  exact kia_one PySem.W.kitx_dict I.lL ⟨o,h1,h2.1⟩ e (fun z=>nomatch z) h
 |@dT a kvs ea=>exact False.elim (show aV X.prog X.w H s.heap a (.dT kvs) from I.aH a _ ea)
 |@ins a C dx fs ea cl ha hn Z2 hm =>
  cases (show u=Value.ref a from rx)
  obtain⟨mA,O,_⟩:=pI I.aH ea
  obtain⟨od,J,_⟩:=O.look
  exact kia_one (PySem.W.kitx_own (cl.get _) cl.hd ha hn Z2 hm) I.lL J e (fun z=>nomatch z) h
end
structure cu(k:Nat)(A:Around):Prop where
 hd:A.handled=none
 dp:A.depth+3 * k+5<recursionLimit
 un:A.units+16 * k+200<cLine
theorem cu.mono(r:cu k A)(h:j≤k):cu j A:=⟨r.hd,by have:=r.dp;lia,by have:=r.un;lia⟩
theorem cu.deeper(r:cu (k+1) A)(env:Env):cu k (A.deeper env) :=
 ⟨r.hd,by have:=r.dp;show A.depth+1+3 * k+5<_;lia,by have:=r.un;show A.units+3+16 * k+200<_;lia⟩
theorem cu.in1(r:cu (k+1) A):cu k A.in1 :=
 ⟨r.hd,by have:=r.dp;show A.depth+3 * k+5<_;lia,by have:=r.un;show A.units+1+16 * k+200<_;lia⟩
theorem As{A:Around}{C:Addr}{us:List Value}{kw:List (Str×Value)} : (A.under (.builtin "type.__call__" ⟨.ref C::us,kw⟩)).depth=A.depth+1:=by
 first|rfl|simp [Around.under,Code.weight,Code.isCreation,Code.isGuard,Code.isCaller,Code.frames,Code.isFrame,guardIds]
theorem Au{A:Around}{C:Addr}{us:List Value}{kw:List (Str×Value)} : (A.under (.builtin "type.__call__" ⟨.ref C::us,kw⟩)).units=A.units+1:=by
 first|rfl|simp [Around.under,Code.cUnits,Code.frames,Code.isFrame]
theorem cu.make(r:cu (k+1) A)(C:Addr)(us:List Value)(kw:List (Str×Value)):cu k (A.under (.builtin "type.__call__" ⟨.ref C::us,kw⟩)) :=
 ⟨r.hd,by have:=r.dp;rw[As];lia,by have:=r.un;rw[Au];lia⟩
theorem cu.depth(r:cu k A):A.depth<recursionLimit:=by have:=r.dp;lia
theorem cu.units(r:cu k A):A.units+64<cLine:=by have:=r.un;lia
def Wm:TA:=fun _ H Q=>Q [] H
def Lz(ta:TE)(tr:TA):TA:=fun σ H Q=>ta σ H fun x H1=>tr σ H1 fun xs H2=>Q (x::xs) H2
section
variable{X:Cx}{e:Expr}{es:List Expr}{te:TE}{t:TA}{pos:Pos}
theorem Av:PA X [] Wm:=fun _ _ _ _ H Q I h=>Calls.spliced_nil ⟨[],H,I,.nil,h⟩
theorem Jd(ha:PE X e te)(hr:PA X es t)(hs:starEach (e::es) X.env=(false,eval e X.env)::starEach es X.env:=by rfl):PA X (e::es) (Lz te t):=by
 intro pos pins s σ H Q I h
 rw[hs]
 show wpAny _ _ (spliced ((false,eval e X.env)::backTo pos (starEach es X.env))) _ _ s
 refine yp (bj (ha pins s σ H _ I h) fun u s1 ⟨x,H1,I1,r1,q1⟩=>?_)
 exact bj (hr pos pins s1 σ H1 _ I1 q1) <| by rintro us s2 ⟨xs,H2,I2,r2,q2⟩;exact⟨x::xs,H2,I2,.cons r1 r2,q2⟩
def Wn(t:TA):TE:=fun σ H Q=>t σ H fun xs H1=>xs.length≤sizeLine∧∀p,H1 p=none→Q (.ref p) (upd H1 p (.tup xs))
def Wo(t:TA):TE:=fun σ H Q=>t σ H fun xs H1=>xs.length≤sizeLine∧∀p,H1 p=none→Q (.ref p) (upd H1 p (.lst xs))
theorem Nl{x1}(h:PA X es t):PE X (.Tuple es x1 pos) (Wn t):=by
 intro pins s σ H Q I hq
 refine wpAny_Tuple_spliced (bj (h pos pins s σ H _ I hq) fun us s1 ⟨xs,H1,I1,r,z,q⟩=>⟨by rw[← r.length];exact z,?_⟩)
 have hf:H1 s1.heap.objs.size=none:=I1.aH.fresh (zo _)
 refine⟨.ref s1.heap.objs.size,upd H1 s1.heap.objs.size (.tup xs),I1.laid (t':=s1.toks) (fun b u e=>zb _ e) (zo _) ?_,rfl,q _ hf⟩
 exact⟨z,us,r,⟨_,zq _ rfl,rfl,rfl,_,rfl⟩⟩
theorem Nm(h:PA X es t):PE X (.List es pos) (Wo t):=by
 intro pins s σ H Q I hq
 refine wpAny_List_spliced (bj (h pos pins s σ H _ I hq) fun us s1 ⟨xs,H1,I1,r,z,q⟩=>⟨by rw[← r.length];exact z,?_⟩)
 have hf:H1 s1.heap.objs.size=none:=I1.aH.fresh (zo _)
 refine⟨.ref s1.heap.objs.size,upd H1 s1.heap.objs.size (.lst xs),I1.laid (t':=s1.toks) (fun b u e=>zb _ e) (zo _) ?_,rfl,q _ hf⟩
 exact⟨z,us,0,r,zq _ rfl⟩
end
abbrev Sp:=List V→Hp→VK→XK→Prop
abbrev Aw:=List Env→Hp→Shared→XK→Value→Shared→Prop
structure wA(P:Program)(w:World)(K:Frag)(mg:Str→Option Value)(base:Heap)(A:Around)(outer:List Env)(s:Shared)(H:Hp):Prop where
 frames:A.frames=some outer
 mod:Mod K mg base
 bs:∀b o,base.get? b=some o→s.heap.get? b=some o∧H b=none
 Df:base.objs.size≤s.heap.objs.size
 kj:s.heap.FunFrames base outer
 Fh:∀b∈lP outer,H b=none
 aH:ki P w H s.heap
 bare:AllBare s.gens
def CE(outer:List Env)(P:Program)(w:World)(H:Hp)(s:Shared)(Q:VK)(u:Value)(s':Shared):Prop :=
 ∃v H',s'.os=s.os∧AllBare s'.gens∧Un (lP outer) [] H H' s.heap s'.heap∧ki P w H' s'.heap∧RelV v u∧Q v H'
def CR(CX:Aw)(outer:List Env)(P:Program)(w:World)(H:Hp)(s:Shared)(Q:VK)(E:XK)(r:Result)(s':Shared):Prop :=
 match r with
 |.ok (.ret u)=>CE outer P w H s Q u s'
 |.ok _=>False
 |.error e=>CX outer H s E e s'
structure bZ(P:Program)(w:World)(K:Frag)(mg:Str→Option Value)(base:Heap)(CX:Aw)(k:Nat)(f:Addr)(fd:FuncData)(ps:List Str)(sp:Sp):Prop where
 len:∀vs H Q E,sp vs H Q E→vs.length=ps.length
 run:∀(A:Around) (outer:List Env) (s:Shared) (H:Hp) (args:Args) (us:List Value) (vs:List V) (Q:VK) (E:XK),cu k A→wA P w K mg base A outer s H→BindsTo s fd args (ps.zip us)→Vals vs us→sp vs H Q E →
  codeAny (model P w) A (.call (.ref f) args) (CR CX outer P w H s Q E) s
theorem bZ.mono{P:Program}{w:World}{K:Frag}{mg:Str→Option Value}{base:Heap}{CX:Aw}{j k:Nat}{f:Addr}{fd:FuncData}{ps:List Str}{sp:Sp}(F:bZ P w K mg base CX j f fd ps sp)(h:j≤k) :
  bZ P w K mg base CX k f fd ps sp:=⟨F.len,fun A outer s H args us vs Q E hr=>F.run A outer s H args us vs Q E (hr.mono h)⟩
theorem bZ.imp{P:Program}{w:World}{K:Frag}{mg:Str→Option Value}{base:Heap}{CX:Aw}{k:Nat}{f:Addr}{fd:FuncData}{ps:List Str}{sp UZ:Sp}(F:bZ P w K mg base CX k f fd ps sp)
  (h:∀vs H Q E,UZ vs H Q E→sp vs H Q E):bZ P w K mg base CX k f fd ps UZ :=
 ⟨fun vs H Q E q=>F.len vs H Q E (h _ _ _ _ q),fun A outer s H args us vs Q E hr he hb hv hs=>F.run A outer s H args us vs Q E hr he hb hv (h _ _ _ _ hs)⟩
theorem wA.make{P:Program}{w:World}{K:Frag}{mg:Str→Option Value}{base:Heap}{A:Around}{outer:List Env}{s:Shared}{H:Hp}(e:wA P w K mg base A outer s H)(C:Addr)(us:List Value)(kw:List (Str×Value)) :
  wA P w K mg base (A.under (.builtin "type.__call__" ⟨.ref C::us,kw⟩)) outer s H:=⟨by first|exact e.frames|(simpa [Around.under,Code.envs,Code.isFrame,pushEnvs] using e.frames),e.mod,e.bs,e.Df,e.kj,e.Fh,e.aH,e.bare⟩
section
variable{X:Cx}{pins:List (Addr×Obj)}{σ:St}{H:Hp}{s s':Shared}
theorem Inv.Rl(I:Inv X pins σ H s):wA X.prog X.w X.K X.mg X.base X.A X.stack s H :=
 ⟨I.ok.frames,I.ok.mod,I.bs,zL I.ok.Df I.sz,I.stack,I.pG,I.aH,I.bare⟩
theorem Inv.after(I:Inv X pins σ H s)(h:CE X.stack X.prog X.w H s Q u s'):EP X pins σ Q u s':=by
 obtain⟨v,H',os,bare,un,aH,r,q⟩:=h
 obtain⟨hh,g,d,t,Rm⟩:=s'
 obtain rfl:Rm=s.os:=os
 exact⟨v,H',I.call (h':=hh) (g':=g) (d':=d) (t':=t) (ch:=[]) un aH bare (fun b z=>absurd z (by simp)),r,q⟩
end
def Binds(K:Frag)(fd:FuncData)(ps:List Str)(ds:List Value):Prop :=
 ∀(s:Shared) (us:List Value),K.In s.heap→(us++ds).length=ps.length→BindsTo s fd ⟨us,[]⟩ (ps.zip (us++ds))
theorem Binds.all{K:Frag}{fd:FuncData}{ps:List Str}(h:∀us:List Value,us.length=ps.length→bindArgs fd ⟨us,[]⟩=pure (ps.zip us)):Binds K fd ps []:=fun s us _ hl=>by
 rw[yC] at hl ⊢
 exact .of_eq (h us hl)
def Passes(CX:Aw)(X:Cx)(E:XK):Prop:=∀(pins:List (Addr×Obj)) (σ:St) (H:Hp) (s:Shared) (e:Value) (s':Shared),Inv X pins σ H s→CX X.stack H s E e s'→X.xe e s'
section
variable{X:Cx}{CX:Aw}{k:Nat}{f C:Addr}{fd:FuncData}{ps:List Str}{sp:Sp}{oQ:List V}{ds:List Value}{E:XK}{x m:Str}{p pos apos:Pos}{e o:Expr}{es:List Expr}{ta:TE}{t:TA}
structure Mk(K:Frag)(C f:Addr):Prop where
 makes:makesIn K C=true
 init:findIn K (.ref C) "__init__" = some (some (.ref f))
 fn:isFn K (.ref f)=true
 kp:keepIn K (.ref C)=true
end
section
variable{X:Cx}{CX:Aw}{k:Nat}{f C:Addr}{fd:FuncData}{ps ks:List Str}{sp:Sp}{E:XK}{x m:Str}{p pos apos abI:Pos}{e o:Expr}{es:List Expr}{kws:List Keyword}{te ta:TE}{t tk:TA}{nm:Option Str}
structure Wq(K:Frag)(fd:FuncData)(ps ks:List Str)(g:List Value→List Value→List Value)(gV:List V→List V→List V):Prop where
 to:∀(s:Shared) (us ws:List Value),K.In s.heap→(g us ws).length=ps.length→BindsTo s fd ⟨us,ks.zip ws⟩ (ps.zip (g us ws))
 rel:∀{vs:List V}{us:List Value}{zs:List V}{ws:List Value},Vals vs us→Vals zs ws→Vals (gV vs zs) (g us ws)
variable{g:List Value→List Value→List Value}{gV:List V→List V→List V}
end
structure ah(N P:List Str)(sc:Scope):Prop where
 kind:sc.kind=.function
 co:sc.isCoroutine=false
 gen:sc.isGenerator=false
 nd:N.Nodup
 pre:N.take P.length=P
 par:∀x∈P,sc.names.lookup x=some .local∨sc.names.lookup x=some .cell
 Nn:∀y∈sc.names,y.2≠.free
theorem tO{kindOf:Str→Option NameKind}{x:Str} : ∀{binds:List (Str×Value)}{m:Str→Option Value},(∀v,(x,v)∉binds)→bindL kindOf binds m x=m x
 |[],_,_=>rfl
 | (n,v)::r,m,h=>by
  unfold bindL
  rw[tO fun w hw=>h w (zp _ hw)]
  split
  ·have:x≠n:=by rintro rfl;exact h v zx
   simp [this]
  ·rfl
theorem tP{kindOf:Str→Option NameKind}{x:Str} : ∀{binds:List (Str×Value)}{m:Str→Option Value},(∀v,(x,v)∉binds)→bindC kindOf binds m x=m x
 |[],_,_=>rfl
 | (n,v)::r,m,h=>by
  unfold bindC
  rw[tP fun w hw=>h w (zp _ hw)]
  split
  ·rfl
  ·have:x≠n:=by rintro rfl;exact h v zx
   simp [this]
theorem tQ{kindOf:Str→Option NameKind}{x:Str}{v:Value} : ∀{P:List Str}{vs:List Value}{i:Nat}{m:Str→Option Value},P.Nodup→P[i]?=some x→vs[i]?=some v→kindOf x=some .local →
  bindL kindOf (P.zip vs) m x=some v
 |[],_,_,_,_,h,_,_=>by simp at h
 |_::_,[],_,_,_,_,h,_=>by simp at h
 |p::P,w::vs,0,m,nd,h1,h2,hk=>by
  simp at h1 h2;subst h1;subst h2
  show bindL kindOf ((p,w)::P.zip vs) m p=_
  unfold bindL
  rw[tO fun v hv=>(yn.mp nd).1 (List.of_mem_zip hv).1,if_pos hk]
  simp
 |p::P,w::vs,i+1,m,nd,h1,h2,hk=>by
  show bindL kindOf ((p,w)::P.zip vs) m x=_
  unfold bindL
  exact tQ (i:=i) (yn.mp nd).2 (by simpa using h1) (by simpa using h2) hk
theorem tR{kindOf:Str→Option NameKind}{x:Str}{v:Value} : ∀{P:List Str}{vs:List Value}{i:Nat}{m:Str→Option Value},P.Nodup→P[i]?=some x→vs[i]?=some v→kindOf x≠some .local →
  bindC kindOf (P.zip vs) m x=some v
 |[],_,_,_,_,h,_,_=>by simp at h
 |_::_,[],_,_,_,_,h,_=>by simp at h
 |p::P,w::vs,0,m,nd,h1,h2,hk=>by
  simp at h1 h2;subst h1;subst h2
  show bindC kindOf ((p,w)::P.zip vs) m p=_
  unfold bindC
  rw[tP fun v hv=>(yn.mp nd).1 (List.of_mem_zip hv).1,if_neg hk]
  simp
 |p::P,w::vs,i+1,m,nd,h1,h2,hk=>by
  show bindC kindOf ((p,w)::P.zip vs) m x=_
  unfold bindC
  exact tR (i:=i) (yn.mp nd).2 (by simpa using h1) (by simpa using h2) hk
def start(N:List Str)(vs:List V):St:=vs.map some++List.replicate (N.length - vs.length) none
def kl(CX:Aw)(P:Program)(w:World)(K:Frag)(mg:Str→Option Value)(base:Heap)(N:List Str)(qual:Str)(scope:Scope)(f:Addr)(cd:Value)(A:Around)(outer:List Env)(s:Shared)(H:Hp)(E:XK):Cx where
 prog:=P
 w:=w
 K:=K
 mg:=mg
 base:=base
 A:=A.deeper (envOfC qual scope s.heap.objs.size f cd)
 N:=N
 cT:=s
 uB:=H
 env:=envOfC qual scope s.heap.objs.size f cd
 outer:=outer
 stack:=envOfC qual scope s.heap.objs.size f cd::outer
 ex:=[]
 calm:=true
 fn:=fun _=>true
 pn:=[]
 xe:=fun e s'=>wpAny (model P w) (A.deeper (envOfC qual scope s.heap.objs.size f cd)) (leaving (envOfC qual scope s.heap.objs.size f cd) e) (fun _ Ax=>CX outer H s E e Ax) (fun e' Ax=>CX outer H s E e' Ax) s'
theorem wB{sc:Scope}{n:Nat}{x:Str}(h:sc.names.lookup x=some .cell):∃c,(cellsFrom n sc.names []).lookup x=some c:=by
 have q:=PySem.W.cellsFrom_some sc.names n [] (.inl h)
 exact Option.isSome_iff_exists.mp q
theorem Dy{CX:Aw}{P:Program}{w:World}{K:Frag}{mg:Str→Option Value}{base:Heap}{N ps:List Str}{qual:Str}{scope:Scope}{f:Addr}{cd:Value}{A:Around}{outer:List Env}{s s1:Shared}{H:Hp}{E:XK}{us:List Value}{vs:List V}
  (S:ah N ps scope) (hd:A.handled=none) (e0:wA P w K mg base A outer s H) (hl:vs.length=ps.length) (r:Vals vs us)
  (x:InCallC s s.heap.objs.size (bindL (envOfC qual scope s.heap.objs.size f cd).kindOf (ps.zip us) fun _=>none) (cellsFrom (s.heap.objs.size+1) scope.names []) (bindC (envOfC qual scope s.heap.objs.size f cd).kindOf (ps.zip us) fun _=>none) s1) :
  Inv (kl CX P w K mg base N qual scope f cd A outer s H E) [] (start N vs) H s1:=by
 have eT:ps.length≤N.length:=by have:=congrArg List.length S.pre;rw[yb] at this;lia
 obtain⟨h1,tk,rfl,hk⟩:=x.done
 have Je:∀b:Addr,b∉(kl CX P w K mg base N qual scope f cd A outer s H E).ex:=fun b z=>absurd (show b∈([]:List Addr) from z) (by simp)
 refine⟨⟨e0.mod,S.kind,rfl,rfl,zo _,fun y z c h1 h2=>?_,fun y hy=>?_,fun y c _ h=>?_,fun _=>hd,Around.frames_deeper e0.frames,.inr ⟨rfl,rfl⟩,fun b z=>absurd z (Je b),e0.bs,e0.Df,fun b _ _=>Je b,fun b z=>absurd z (Je b),e0.kj,e0.Fh⟩,
  rfl,e0.bare,Un.kept hk,⟨_,x.toInCall.ns,fun i y v h1 h2 h3=>?_⟩,fun y c h=>⟨_,x.cell y c h⟩,e0.aH.fresh (zo _),fun y c h=>?_,fun p hp=>absurd (show p∈([]:List (Addr×Obj)) from hp) (by simp),e0.aH.kept hk,?_⟩
 ·exact name_of_addr x.apart (zY h1) (zY h2)
 ·have hy:scope.names.lookup y=some .cell∨scope.names.lookup y=some .free:=hy
  rcases hy with hy|hy
  ·exact wB hy
  ·exact absurd rfl (S.Nn _ (zY hy))
 ·exact yA (x.above y c (zY h))
 ·have hi:i<vs.length:=by
   unfold start at h2
   by_cases hi:i<vs.length
   ·exact hi
   ·rw[List.getElem?_append_right (by simpa using hi)] at h2
    rw[List.getElem?_replicate] at h2
    split at h2 <;> cases h2
  have ha:vs[i]?=some v:=by
   unfold start at h2
   rw[List.getElem?_append_left (by simpa using hi),zB] at h2
   cases e:vs[i]? with
   |none=>rw[e] at h2;cases h2
   |some a=>rw[e] at h2;cases h2;rfl
  obtain⟨u,hu,rv⟩:=r.get ha
  have hp:ps[i]?=some y:=by
   rw[← S.pre,List.getElem?_take_of_lt (by lia)];exact h1
  have Z3:ps.Nodup:=by rw[← S.pre];exact S.nd.sublist (List.take_sublist _ _)
  refine⟨u,rv,?_⟩
  rcases S.par y (zK hp) with k|k
  ·exact .inl ⟨k,tQ Z3 hp hu k⟩
  ·obtain⟨c,e⟩:=wB (n:=s.heap.objs.size+1) k
   refine .inr ⟨.inl k,c,e,?_⟩
   have q:=x.cell y c e
   rw[tR Z3 hp hu (by show scope.names.lookup y≠_;rw[k];decide)] at q
   exact q
 ·exact e0.aH.fresh (yA (x.above y c (zY h)))
 ·unfold start
  show _=N.length
  rw[zl,zc,zG]
  lia
theorem LA{CX:Aw}{P:Program}{w:World}{K:Frag}{mg:Str→Option Value}{base:Heap}{k:Nat}{f:Addr}{name qual:Str}{params:Arguments}{body:List Stmt}{scope:Scope}{dV kV doc pm gq ct oc:Value}{an od:Option Addr}
  {Np:Array (Option Value)}{N ps:List Str}{sp:Sp} (lk:K.lookup f=some ⟨oc,od,.func (fnOf name qual params body scope dV kV doc pm an gq ct),Np⟩) (rY:codeIn K gq qual=true) (S:ah N ps scope)
  (len:∀vs H Q E,sp vs H Q E→vs.length=ps.length)
  (lT:∀(A:Around) (outer:List Env) (s:Shared) (H:Hp) (vs:List V) (Q:VK) (E:XK),cu k (A.deeper (envOfC qual scope s.heap.objs.size f gq))→sp vs H Q E →
   ∃t,Ai (kl CX P w K mg base N qual scope f gq A outer s H E) body t∧t { nx:=fun _ H'=>Q .aw H',rt:=Q } (start N vs) H) :
  bZ P w K mg base CX (k+1) f (fnOf name qual params body scope dV kV doc pm an gq ct) ps sp:=by
 refine⟨len,fun A outer s H args us vs Q E hr e0 hb r Qa=>?_⟩
 have hl:=len _ _ _ _ Qa
 have KX:K.In s.heap:=e0.mod.P6.keeps fun b o e=>(e0.bs b o e).1
 have lim:s.heap.NoLimit:=e0.mod.nolimit.keeps fun b o e=>(e0.bs b o e).1
 have Rn:∀y∈ps.zip us,scope.names.lookup y.1=some .local∨(scope.names.lookup y.1=some .cell∧((cellsFrom (s.heap.objs.size+1) scope.names []).lookup y.1).isSome=true):=by
  rintro⟨n,v⟩ hy
  rcases S.par n (List.of_mem_zip hy).1 with q|q
  ·exact .inl q
  ·exact .inr ⟨q,PySem.W.cellsFrom_some _ _ _ (.inl q)⟩
 refine codeAny_call_function hr.depth (KX _ _ lk) rfl S.co S.gen rfl (PySem.W.codeRec_of KX rY) (hb _ _ _ _ ?_)
 refine wpAny_newFunctionEnv_cells S.kind Rn fun env he s1 x=>?_
 subst he
 refine⟨lim.keeps x.toInCall.keep,codeAny_func ?_⟩
 obtain⟨t,ht,hq⟩:=lT A outer s H vs Q E (hr.deeper _) Qa
 have I:Inv (kl CX P w K mg base N qual scope f gq A outer s H E) [] (start N vs) H s1:=Dy S hr.hd e0 hl r x
 refine yh (ht [] s1 (start N vs) H _ I hq) (fun fl s' hs=>?_) fun e s' hs=>hs
 have fin:∀{aD:St}{H':Hp}{v:V}{u:Value},Inv (kl CX P w K mg base N qual scope f gq A outer s H E) [] aD H' s'→RelV v u→Q v H'→CE outer P w H s Q u s' :=
  fun {aD H' v u} J rv q=>⟨v,H',J.os,J.bare,J.base,J.aH,rv,q⟩
 cases fl with
 |ret u =>
  obtain⟨v,aD,H',J,rv,q⟩:=hs
  exact fin J rv q
 |next =>
  obtain⟨aD,H',J,q⟩:=hs
  exact fin (v:=V.aw) (u:=Value.none) J rfl q
 |brk =>
  obtain⟨_,_,_,q⟩:=hs
  exact False.elim q
 |cont =>
  obtain⟨_,_,_,q⟩:=hs
  exact False.elim q
section
variable{X:Cx}{x:Str}{p pos:Pos}{e:Expr}{es:List Expr}{t:TA}{id T:String}{r:List V→Hp→VK→Prop}
def Wr(r:List V→Hp→VK→Prop)(t:TA):TE:=fun σ H Q=>t σ H fun vs H1=>r vs H1 Q
theorem qf(hc:dq X (.builtin id) r)(hg:Gl X x)(hm:X.mg x=none)(hv:bootBuiltins x=some (.builtin id))(ha:PA X (e::es) t)(hn:x ≠ "__name__" := by decide)(kO:(x == ("__debug__" : Str))=false:=by decide)
  (he:starEach (e::es) X.env=(false,eval e X.env)::starEach es X.env:=by rfl) (eT:(backTo pos (starEach es X.env)).any (·.1)=false:=by rfl):PE X (.Call (.Name x p) (e::es) [] pos) (Wr r t):=by
 intro pins s σ H Q I h
 refine wpAny_Call_Name_kw (g_ I hg hm hv ?_ hn kO)
 exact PyProof.Rows.callWith_builtin1 (bj (ha pos pins s σ H _ I h) <| by rintro us s1 ⟨vs,H1,I1,r1,q1⟩;exact hc pins s1 σ H1 vs us Q I1 r1 q1) he eT
theorem tT(hc:dq X (.type T) r)(hg:Gl X x)(hm:X.mg x=none)(hv:bootBuiltins x=some (.type T))(ha:PA X (e::es) t)(hn:x ≠ "__name__" := by decide)(kO:(x == ("__debug__" : Str))=false:=by decide)
  (he:starEach (e::es) X.env=(false,eval e X.env)::starEach es X.env:=by rfl) (eT:(backTo pos (starEach es X.env)).any (·.1)=false:=by rfl):PE X (.Call (.Name x p) (e::es) [] pos) (Wr r t):=by
 intro pins s σ H Q I h
 refine wpAny_Call_Name_kw (g_ I hg hm hv ?_ hn kO)
 exact PyProof.Rows.callWith_type1 (bj (ha pos pins s σ H _ I h) <| by rintro us s1 ⟨vs,H1,I1,r1,q1⟩;exact hc pins s1 σ H1 vs us Q I1 r1 q1) he eT
end
end L2
namespace HT
open PySem PyProof.Rows
section
open PySem.SeqAt
open PySem.AutoSeq1 (wpAny_loadPart')
open PySem.MeetsSeq PySem.MeetsSeq2 PySem.MeetsSeq3
end
section
variable{prog:Program}{w:World}{A:Around}{E:Value→Shared→Prop}{s:Shared}
theorem cat_tup(ht:IsTup s.heap t vs.toArray)(hb:IsTup s.heap b ws.toArray)(hv:vs≠[])
  (h1:ws=[]→Q (.ref t) s) (h2:ws≠[]→Q (.ref s.heap.objs.size) { s with heap:=s.heap.push { cls:=.type "tuple",data:=.seq (vs++ws).toArray } })
  (hsz:vs.length+ws.length≤sizeLine):wpAny (model prog w) A (binaryOp .Add (.ref t) (.ref b)) Q E s:=by
 obtain⟨⟨cls,dd,data,sl⟩,ho,hc,n,hd⟩:=id ht
 obtain⟨⟨Ws,U0,data2,wC⟩,Jf,Jg,n2,hd2⟩:=id hb
 simp only at hc hd Jg hd2
 subst hc hd Jg hd2
 have e:vs.toArray++ws.toArray=(vs++ws).toArray:=by simp
 by_cases hw:ws=[]
 ·exact concat_meets ⟨_,ho,rfl⟩ ⟨_,Jf,rfl⟩ noFill_tuple_add seq_tuple_add PySem.F.slot_tuple_add PySem.F.entry_tuple_add (PySem.F.args_tuple_add_2 _ _)
   (tuple_addW1 t b vs.toArray ws.toArray n n2 dd U0 sl wC (by simpa using hv) (by simp [hw])) ⟨ho,Jf,h1 hw⟩
 ·refine concat_meets ⟨_,ho,rfl⟩ ⟨_,Jf,rfl⟩ noFill_tuple_add seq_tuple_add PySem.F.slot_tuple_add PySem.F.entry_tuple_add (PySem.F.args_tuple_add_2 _ _)
   (tuple_addW2 t b vs.toArray ws.toArray n n2 dd U0 sl wC (by simpa using hv) (by simpa using hw) (by rw[zh,zh];exact hsz)) ⟨ho,Jf,?_⟩
  rw[e]
  exact h2 hw
def sIx(n d:Nat):Option Int→Nat
 |none=>d
 |some v=>if v<0 then (v+(n:Int)).toNat else min v.toNat n
theorem sIx_le(n d:Nat)(hd:d≤n)(o:Option Int):sIx n d o≤n:=by
 cases o with
 |none=>exact hd
 |some v =>
  show (if v<0 then (v+(n:Int)).toNat else min v.toNat n)≤n
  by_cases hv:v<0
  ·rw[if_pos hv];lia
  ·rw[if_neg hv];exact Nat.min_le_right _ _
theorem clip_eq(v:Int)(n d:Nat):(if v<0 then max (v+(n:Int)) 0 else min v (n:Int))=((sIx n d (some v):Nat):Int):=by
 show (if v<0 then max (v+(n:Int)) 0 else min v (n:Int))=(((if v<0 then (v+(n:Int)).toNat else min v.toNat n):Nat):Int)
 by_cases hv:v<0
 ·simp only [if_pos hv];lia
 ·simp only [if_neg hv];lia
theorem adjust_gen(lo hi:Option Int)(n:Nat):Builtin.Slice.sliceAdjust lo hi 1 (n:Int)=(((sIx n 0 lo:Nat):Int),((sIx n n hi:Nat):Int)):=by
 have h1:¬ ((1:Int)<0):=by lia
 unfold Builtin.Slice.sliceAdjust
 simp only [h1,if_false]
 refine Prod.ext ?_ ?_
 ·cases lo with
  |none=>rfl
  |some v=>exact clip_eq v n 0
 ·cases hi with
  |none=>rfl
  |some v=>exact clip_eq v n n
theorem places_gen(i j:Nat):Builtin.Slice.slicePlaces (i:Int) (j:Int) 1=j - i:=by
 unfold Builtin.Slice.slicePlaces
 have h1:(1:Int)>0:=by lia
 simp only [h1,if_true,Int.ediv_one]
 split <;> lia
theorem slicePart_(p:IsPart v o)(h:Q o s):wpAny (model prog w) A (Builtin.Slice.slicePartIndex v) Q E s:=by
 cases p with
 |none=>exact slicePart_none h
 |int i t=>exact slicePart_int h
theorem sliceApplied_gen{sl:Addr}{vl vu:Value}{lo hi:Option Int}{n:Nat}{Q:Int×Int×Nat→Shared→Prop}(hs:s.heap.IsSliceOf sl vl vu .none)(pl:IsPart vl lo)(pu:IsPart vu hi)
  (h:Q (((sIx n 0 lo:Nat):Int),1,sIx n n hi - sIx n 0 lo) s):wpAny (model prog w) A (Builtin.Slice.sliceApplied (.ref sl) (pure (n:Int))) Q E s:=by
 obtain⟨os,Ro,Z4,U1⟩:=id hs
 unfold Builtin.Slice.sliceApplied Builtin.Slice.sliceFields
 refine za (za (zX Ro U1 (x:=vl) rfl (za (zX Ro U1 (x:=vu) rfl (za (zX Ro U1 (x:=.none) rfl (zg ?_)))))))
 refine za (slicePart_none ?_)
 show wpAny _ _ (if ((1:Int) == 0)=true then _ else _) _ _ s
 rw[if_neg (by decide)]
 refine za (slicePart_ pl (za (slicePart_ pu (za (zg ?_)))))
 show wpAny _ _ (match Builtin.Slice.sliceAdjust lo hi 1 (n:Int) with|(lo,hi)=>pure (lo,(1:Int),Builtin.Slice.slicePlaces lo hi 1)) _ _ s
 rw[adjust_gen lo hi n]
 show wpAny _ _ (pure (((sIx n 0 lo:Nat):Int),(1:Int),Builtin.Slice.slicePlaces ((sIx n 0 lo:Nat):Int) ((sIx n n hi:Nat):Int) 1)) _ _ s
 rw[places_gen]
 exact zg h
theorem pick_gen(xs:Array Value)(i k:Nat):((List.range k).filterMap fun (m:Nat)=>xs[((i:Int)+(m:Int) * 1).toNat]?).toArray=((xs.toList.drop i).take k).toArray:=by
 have e:(fun (m:Nat)=>xs[((i:Int)+(m:Int) * 1).toNat]?)=fun m=>xs[i+m]?:=by
  funext m
  have:((i:Int)+(m:Int) * 1).toNat=i+m:=by lia
  rw[this]
 rw[e]
 have:=pick_run xs i k
 rw[List.filterMap_map] at this
 have e2:((fun x=>xs[x]?) ∘ fun x=>i+x)=fun m=>xs[i+m]?:=rfl
 rw[e2] at this
 rw[this]
theorem getItem_tuple_cut{t sl:Addr}{items:Array Value}{vl vu:Value}{lo hi:Option Int}{Q:Value→Shared→Prop}(ht:IsTup s.heap t items)(hs:s.heap.IsSliceOf sl vl vu .none)(pl:IsPart vl lo)(pu:IsPart vu hi)
  (hw:¬ (sIx items.size 0 lo=0∧sIx items.size items.size hi=items.size))
  (h:Q (.ref s.heap.objs.size) { s with heap:=s.heap.push { cls:=.type "tuple",data:=.seq ((items.toList.drop (sIx items.size 0 lo)).take (sIx items.size items.size hi - sIx items.size 0 lo)).toArray } })
  (hsz:items.size≤sizeLine):wpAny (model prog w) A (getItem (.ref t) (.ref sl)) Q E s:=by
 have B8:sizeOk (.seq ((items.toList.drop (sIx items.size 0 lo)).take (sIx items.size items.size hi - sIx items.size 0 lo)).toArray):=by
  show ((items.toList.drop (sIx items.size 0 lo)).take (sIx items.size items.size hi - sIx items.size 0 lo)).toArray.size≤sizeLine
  rw[zh,yb,List.length_drop,ye]
  lia
 have hj:sIx items.size items.size hi≤items.size:=sIx_le _ _ (zo _) hi
 obtain⟨os,Ro,Z4,U1⟩:=id hs
 have hTs:s.TypeIs (.ref sl) "slice" := ⟨os,Ro,Z4⟩
 unfold getItem
 try with_reducible refine yt ?_
 first|refine za (zg ?_)|skip
 refine za (wpAny_sequenceKey ht.typeIs (by decide) ?_)
 refine za (wpAny_callSpecial?_slot (name:=Str.ofString "__getitem__") ht.typeIs PyProof.Rows.slot_tuple_getitem
  (yq PyProof.Rows.slot_tuple_getitem ht.typeIs entry_tuple_getitem ?_ (args_tuple_getitem _ _)))
 show wpAny _ _ (Builtin.Tuple.tupleItemsOf (.ref t) >>= _) _ _ s
 refine za (tupleItemsOf_ ht ?_)
 refine za (wpAny_typeOf hTs ?_)
 rw[if_pos (by decide)]
 refine za (sliceApplied_gen hs pl pu ?_)
 have Wt:¬ ((((sIx items.size 0 lo:Nat):Int) == 0 && (1:Int) == 1 && (sIx items.size items.size hi - sIx items.size 0 lo) == items.size)=true):=by
  intro q
  rw[zP,zP] at q
  have q1:((sIx items.size 0 lo:Nat):Int)=0:=eq_of_beq q.1.1
  have q2:sIx items.size items.size hi - sIx items.size 0 lo=items.size:=eq_of_beq q.2
  exact hw ⟨by lia,by lia⟩
 show wpAny _ _ (if (((sIx items.size 0 lo:Nat):Int) == 0 && (1:Int) == 1 && (sIx items.size items.size hi - sIx items.size 0 lo) == items.size)=true then _ else _) _ _ s
 rw[if_neg Wt,pick_gen]
 first
  |exact za (m:=Builtin.Tuple.tupleExact _) (yf (zg ⟨_,rfl,zg h⟩) B8)
  |exact za (m:=Builtin.Tuple.tupleExact _) (yf (za (zg (zg ⟨_,rfl,zg h⟩))) B8)
  |exact za (za (m:=Builtin.Tuple.tupleExact _) (yf (zg (zg ⟨_,rfl,zg h⟩)) B8))
  |exact za (za (m:=Builtin.Tuple.tupleExact _) (yf (zg ⟨_,rfl,zg h⟩) B8))
end
end HT
namespace L2
open PySem PySem.Spec PyProof.Rows
abbrev TO:=St→Hp→(Option Int→Hp→Prop)→Prop
def PO(X:Cx)(e:Option Expr)(t:TO):Prop :=
 ∀(pins:List (Addr×Obj)) (s:Shared) (σ:St) (H:Hp) (Q:Option Int→Hp→Prop),Inv X pins σ H s→t σ H Q →
  wpAny (model X.prog X.w) X.A (evalPart e X.env) (fun u s'=>∃o H',Inv X pins σ H' s'∧IsPart u o∧Q o H') X.xe s
def Rp(t:TE):TO:=fun σ H Q=>t σ H fun x H1=>∃i,x=.int i∧Q (some i) H1
section
variable{X:Cx}{e:Expr}{te:TE}{lo hi:Option Expr}{tl th:TO}{pos p2:Pos}
theorem Jh(h:PE X e te):PO X (some e) (Rp te):=by
 intro pins s σ H Q I hw
 rw[evalPart_some]
 refine bj (h pins s σ H _ I hw) fun u s1 ⟨x,H1,I1,r1,q1⟩=>?_
 obtain⟨i,rfl,q⟩:=q1
 obtain⟨t,rfl⟩:=r1
 exact⟨some i,H1,I1,.int i t,q⟩
def Rq(X:Cx)(r:V→Option Int→Option Int→Hp→VK→Prop):Prop :=
 ∀(pins:List (Addr×Obj)) (s:Shared) (σ:St) (H:Hp) (x:V) (v vl vu:Value) (lo hi:Option Int) (sl:Addr) (Q:VK),Inv X pins σ H s→RelV x v→s.heap.IsSliceOf sl vl vu .none→IsPart vl lo→IsPart vu hi→r x lo hi H Q →
  ∃T id,typeLookup (.type T) "__getitem__" = pure (some (.builtin id))∧s.TypeIs v T∧wpAny (model X.prog X.w) X.A (getItem v (.ref sl)) (EP X pins σ Q) X.xe s
def tSl(r:V→Option Int→Option Int→Hp→VK→Prop)(te:TE)(tl th:TO):TE:=fun σ H Q=>te σ H fun x H1=>tl σ H1 fun l H2=>th σ H2 fun u H3=>r x l u H3 Q
theorem FA{r:V→Option Int→Option Int→Hp→VK→Prop}(hr:Rq X r)(he:PE X e te)(hl:PO X lo tl)(hu:PO X hi th):PE X (.Subscript e (.Slice lo hi none p2) pos) (tSl r te tl th):=by
 intro pins s σ H Q I h
 refine Subscript_ (bj (he pins s σ H _ I h) fun v s1 ⟨x,H1,I1,r1,q1⟩=>?_)
 refine wpAny_Slice (bj (hl pins s1 σ H1 _ I1 q1) fun vl s2 ⟨l,H2,I2,pl,q2⟩=>bj (hu pins s2 σ H2 _ I2 q2) fun vu s3 ⟨u,H3,I3,pu,q3⟩=>?_)
 rw[evalPart_none]
 refine zg ?_
 have I4:Inv X pins σ H3 { s3 with heap:=s3.heap.push { cls:=.type "slice",data:=.fields #[vl,vu,.none] } }:=I3.kept (t':=s3.toks) fun b ob q=>zb _ q
 obtain⟨T,id,hT,ht,hg⟩:=hr pins { s3 with heap:=s3.heap.push { cls:=.type "slice",data:=.fields #[vl,vu,.none] } } σ H3 x v vl vu l u s3.heap.objs.size Q I4 r1 (Heap.IsSliceOf.new ..) pl pu q3
 show wpAny (model X.prog X.w) X.A (subscriptTail e (.Slice lo hi none p2) v (.ref s3.heap.objs.size)) (EP X pins σ Q) X.xe { s3 with heap:=s3.heap.push { cls:=.type "slice",data:=.fields #[vl,vu,.none] } }
 exact tail_any (ops:=[.ref s3.heap.objs.size,v]) ht hT hg (by with_unfolding_all rfl)
def wD(xs:List V)(lo hi:Option Int):List V:=(xs.drop (HT.sIx xs.length 0 lo)).take (HT.sIx xs.length xs.length hi - HT.sIx xs.length 0 lo)
theorem oy(xs:List V)(lo hi:Option Int):(wD xs lo hi).length≤xs.length:=by
 unfold wD
 rw[yb,List.length_drop]
 lia
def Wu(K:Frag):V→Option Int→Option Int→Hp→VK→Prop:=fun x lo hi H Q=>∃a xs,x=.ref a∧iE K H a xs ∧
 ¬ (HT.sIx xs.length 0 lo=0∧HT.sIx xs.length xs.length hi=xs.length)∧∀p,H p=none→Q (.ref p) (upd H p (.tup (wD xs lo hi)))
theorem Nq:Rq X (Wu X.K):=by
 intro pins s σ H x v vl vu lo hi sl Q I rx hs pl pu h
 obtain⟨a,xs,rfl,hx,hw,q⟩:=h
 cases rx
 obtain⟨ax,r,ht,hz⟩:=I.tuple hx
 have hlen:ax.toArray.size=xs.length:=by rw[zh];exact r.length.symm
 refine⟨"tuple",_,PyProof.Rows.slot_tuple_getitem.lookup,ht.typeIs,?_⟩
 refine HT.getItem_tuple_cut ht hs pl pu (by rw[hlen];exact hw) ?_ (by rw[hlen];exact hz)
 rw[hlen]
 refine⟨.ref s.heap.objs.size,_,I.laid (t':=s.toks) (o:=.tup (wD xs lo hi)) (fun b ob q=>zb _ q) (zo _) ?_,rfl,q _ (I.aH.fresh (zo _))⟩
 exact⟨zL (oy xs lo hi) hz,_,(r.drop (HT.sIx xs.length 0 lo)).take (HT.sIx xs.length xs.length hi - HT.sIx xs.length 0 lo),fg.new _ _⟩
def Rr(K:Frag):R2:=fun x y H Q=>∃a b xs ys,x=.ref a∧y=.ref b∧iE K H a xs∧iE K H b ys∧xs≠[]∧xs.length+ys.length≤sizeLine ∧
 (ys=[]→Q (.ref a) H)∧(ys≠[]→∀p,H p=none→Q (.ref p) (upd H p (.tup (xs++ys))))
theorem Vals.pJ(r:Vals xs us):us=[]↔xs=[]:=by
 cases r with
 |nil=>simp
 |cons _ _=>simp
theorem Ji:gp X (binaryOp .Add) (Rr X.K):=by
 intro pins s σ H x y v u Q I rx ry h
 obtain⟨a,b,xs,ys,rfl,rfl,ha,hb,hx,hz,q1,q2⟩:=h
 cases rx
 cases ry
 obtain⟨ax,r1,p1,_⟩:=I.tuple ha
 obtain⟨mZ,r2,p2,_⟩:=I.tuple hb
 refine HT.cat_tup p1 p2 (fun z=>hx (r1.pJ.mp z)) (fun z=>⟨.ref a,H,I,rfl,q1 (r2.pJ.mp z)⟩) (fun z=>?_) (by rw[← r1.length,← r2.length];exact hz)
 refine⟨.ref s.heap.objs.size,_,I.laid (t':=s.toks) (o:=.tup (xs++ys)) (fun b ob q=>zb _ q) (zo _) ?_,rfl,q2 (fun w=>z (r2.pJ.mpr w)) _ (I.aH.fresh (zo _))⟩
 exact⟨by rw[zl];exact hz,_,r1.append r2,fg.new _ _⟩
end
def Io(n:Nat)(i:Int):Option Nat:=if 0≤i then (if i<n then some i.toNat else none) else if -(n:Int)≤i then some (i+n).toNat else none
def m6{α:Type}(xs:List α)(i:Int):Option α:=(Io xs.length i).bind fun j=>xs[j]?
theorem B9(h:Io n i=some j):seqIndex? i n=some j∧j<n∧-(n:Int)≤i∧i<n:=by
 unfold Io at h
 by_cases h0:0≤i
 ·rw[if_pos h0] at h
  by_cases h1:i<n
  ·rw[if_pos h1] at h
   have e:i.toNat=j:=zS h
   exact⟨by rw[seqIndex_of h0 h1,e],by lia,by lia,h1⟩
  ·rw[if_neg h1] at h;cases h
 ·rw[if_neg h0] at h
  by_cases h1:-(n:Int)≤i
  ·rw[if_pos h1] at h
   have e:(i+n).toNat=j:=zS h
   exact⟨by rw[seqIndex_neg (by lia) h1,e],by lia,h1,by lia⟩
  ·rw[if_neg h1] at h;cases h
theorem uE(h:m6 xs i=some v):∃j,seqIndex? i xs.length=some j∧xs[j]?=some v∧j<xs.length∧-(xs.length:Int)≤i∧i<xs.length:=by
 unfold m6 at h
 cases e:Io xs.length i with
 |none=>rw[e] at h;cases h
 |some j =>
  rw[e] at h
  obtain⟨h1,h2,h3,h4⟩:=B9 e
  exact⟨j,h1,h,h2,h3,h4⟩
theorem hU{α:Type}{xs:List α}{j:Nat}{v:α}(h:xs[j]?=some v):m6 xs (j:Int)=some v:=by
 have hj:j<xs.length:=(zr.mp h).1
 have e:Io xs.length (j:Int)=some j:=by
  unfold Io
  rw[if_pos (by lia),if_pos (by lia)];simp
 unfold m6;rw[e];exact h
def B_(b:Expr):Prop:=∀o i,subscripted b false o i=operate [o,i] (getItem o i)
def Ru(X:Cx)(r:R2):Prop :=
 ∀(value slice:Expr) (pins:List (Addr×Obj)) (s:Shared) (σ:St) (H:Hp) (x y:V) (v u:Value) (Q:VK),Inv X pins σ H s→RelV x v→RelV y u→r x y H Q →
  subscripted slice false v u=operate [v,u] (getItem v u)→wpAny (model X.prog X.w) X.A (subscriptTail value slice v u) (EP X pins σ Q) X.xe s
def Nr(X:Cx)(id:String)(r:V→List V→Hp→VK→Prop):Prop :=
 ∀(pins:List (Addr×Obj)) (s:Shared) (σ:St) (H:Hp) (x:V) (xs:List V) (v:Value) (us:List Value) (Q:VK),Inv X pins σ H s→RelV x v→Vals xs us→r x xs H Q →
  wpAny (model X.prog X.w) X.A (call (.builtin id) (v::us)) (EP X pins σ Q) X.xe s
section
variable{X:Cx}{a b:Expr}{ta tb:TE}{pos:Pos}
theorem Rw(hr:Ru X r)(ha:PE X a ta)(hb:PE X b tb)(hs:B_ b):PE X (.Subscript a b pos) (P_ r ta tb):=by
 intro pins s σ H Q I h
 exact Subscript_ (M9 ha hb I h fun v u s2 x y H2 I2 rx ry q=>hr a b pins s2 σ H2 x y v u Q I2 rx ry q (hs _ _))
def Wv(K:Frag):R2:=fun x y H Q=>∃p xs i v,x=.ref p∧y=.int i∧iW K H p xs∧m6 xs i=some v∧Q v H
def Ww(K:Frag):R2:=fun x y H Q=>∃p xs i v,x=.ref p∧y=.int i∧iE K H p xs∧m6 xs i=some v∧Q v H
def Wx:R2:=fun x y H Q=>∃z i c,x=.str z∧y=.int i∧z.length≤sizeLine∧m6 z.cps.toList i=some c∧Q (.str ⟨#[c]⟩) H
theorem Ca:Ru X (Wv X.K):=by
 intro value slice pins s σ H x y v u Q I rx ry h hs
 obtain⟨p,xs,i,z,rfl,rfl,hq,he,q⟩:=h
 cases rx
 obtain⟨t,rfl⟩:=ry
 obtain⟨ax,r,pl,hz⟩:=I.list hq
 obtain⟨j,h1,h2,h3,h4,h5⟩:=uE he
 obtain⟨w,ew,lU⟩:=r.get h2
 have hl:=r.length
 have hn:=qc
 have fin:EP X pins σ Q w s:=⟨z,H,I,lU,q⟩
 by_cases h0:0≤i
 ·have hj:i.toNat=j:=by
   rw[seqIndex_of h0 h5] at h1
   exact zS h1
  exact item_listR pl.isList h0 (by lia) (by rw[hj];simpa using ew) fin hs
 ·have hj:(i+(ax.toArray.size:Int)).toNat=j:=by
   rw[seqIndex_neg (by lia) h4] at h1
   rw[zh,← hl]
   exact zS h1
  exact subscriptTail_builtinR (x:=w) pl.isList.typeIs slot_list_getitem.lookup
   (wpAny_getItem_list_neg (Q:=fun r s'=>r=w∧EP X pins σ Q r s') pl.isList (by lia) (by rw[zh] <;> lia) (by lia) (by rw[hj];simpa using ew) ⟨rfl,fin⟩) hs
theorem FC:Ru X (Ww X.K):=by
 intro value slice pins s σ H x y v u Q I rx ry h hs
 obtain⟨p,xs,i,z,rfl,rfl,hq,he,q⟩:=h
 cases rx
 obtain⟨t,rfl⟩:=ry
 obtain⟨ax,r,pl,hz⟩:=I.tuple hq
 obtain⟨j,h1,h2,h3,h4,h5⟩:=uE he
 obtain⟨w,ew,lU⟩:=r.get h2
 have hl:=r.length
 have hn:=qc
 have fin:EP X pins σ Q w s:=⟨z,H,I,lU,q⟩
 exact subscriptTail_builtinR (x:=w) pl.typeIs slot_tuple_getitem.lookup
  (getItem_tuple (j:=j) (Q:=fun r s'=>r=w∧EP X pins σ Q r s') pl (by lia) (by lia) (by rw[zh,← hl];exact h1) (by simpa using ew) ⟨rfl,fin⟩) hs
theorem Nt:Ru X Wx:=by
 intro value slice pins s σ H x y v u Q I rx ry h hs
 obtain⟨z,i,c,rfl,rfl,hz,he,q⟩:=h
 obtain⟨t,rfl⟩:=rx
 obtain⟨t',rfl⟩:=ry
 obtain⟨j,h1,h2,h3,h4,h5⟩:=uE he
 have hl:z.cps.toList.length=z.length:=by simp [Str.length]
 rw[hl] at h1 h4 h5
 have hn:=qc
 exact tail_any (typeIs_str s z t) slot_str_getitem.lookup (getItem_str (c:=c) (by
  have e1:decide (i < -(2 ^ 63:Int))=false:=zw (by lia)
  have e2:decide (i≥2 ^ 63)=false:=zw (by lia)
  rw[e1,e2,Bool.or_false]) (by rw[h1];simpa using h2) ⟨.str ⟨#[c]⟩,H,I.tok _,⟨_,rfl⟩,q⟩) hs
theorem Ay(ax:List Value)(n j:Nat)(u:Value):Obj.mapSeq (·.setIfInBounds j u) { cls:=.type "list",data:=.seq ax.toArray n }={ cls:=.type "list",data:=.seq (ax.set j u).toArray n }:=by
 simp [Obj.mapSeq]
theorem Inv.lst(I:Inv X pins σ H s)(h:H p=some (.lst xs)) :
  ∃(ax:List Value) (n:Nat),Vals xs ax∧s.heap.get? p=some { cls:=.type "list",data:=.seq ax.toArray n }∧xs.length≤sizeLine:=by
 obtain⟨z,ax,n,r,e⟩:=I.aH p _ h
 exact⟨ax,n,r,e,z⟩
theorem Inv.Nu{pins:List (Addr×Obj)}{σ:St}{H:Hp}{s:Shared}{p:Addr}{xs ys:List V}{ax its':List Value}{n n':Nat}{f:Obj→Obj}(I:Inv X pins σ H s)(h:H p=some (.lst xs))
  (ho:s.heap.get? p=some { cls:=.type "list",data:=.seq ax.toArray n }) (hf:f { cls:=.type "list",data:=.seq ax.toArray n }={ cls:=.type "list",data:=.seq its'.toArray n' }) (r:Vals ys its') (hz:ys.length≤sizeLine) (t:Nat) :
  Inv X pins σ (upd H p (.lst ys)) { s with heap:=s.heap.update p f,toks:=t }:=by
 have e:(s.heap.update p f).get? p=some { cls:=.type "list",data:=.seq its'.toArray n' }:=by
  rw[Heap.get?_update_self f ho (by rw[hf] <;> rfl),hf]
 refine I.write (x:=p) (e:=p) (by rw[h];trivial) (.inl rfl) (fun b u hb q=>(Heap.get?_update_other _ _ (Ne.symm hb)).trans q) ⟨_,e⟩ ?_
 exact⟨hz,its',n',r,e⟩
def Rx:V→V→V→Hp→(Hp→Prop)→Prop:=fun o i v H Q=>∃p xs k j,o=.ref p∧i=.int k∧H p=some (.lst xs)∧Io xs.length k=some j∧Q (upd H p (.lst (xs.set j v)))
theorem set_list:Q1 X Rx:=by
 intro pins s σ H o i v ov iv u Q I ro ri rv h
 obtain⟨p,xs,k,j,rfl,rfl,hp,hj,q⟩:=h
 cases ro
 obtain⟨t,rfl⟩:=ri
 obtain⟨ax,n,r,ho,hz⟩:=I.lst hp
 obtain⟨h1,h2,h3,h4⟩:=B9 hj
 have hl:=r.length
 have hn:=qc
 have I':Inv X pins σ (upd H p (.lst (xs.set j v))) { s with heap:=s.heap.update p (Obj.mapSeq (·.setIfInBounds j u)) } :=
  I.Nu hp ho (Ay ax n j u) (r.set rv j) (by rw[List.length_set];exact hz) s.toks
 by_cases h0:0≤k
 ·have hk:k.toNat=j:=by
   rw[seqIndex_of h0 h4] at h1
   exact zS h1
  exact PySem.W.ki_setAt ho h0 (by lia) (by rw[zh,← hl];exact h4) (by rw[hk];exact⟨_,I',q⟩)
 ·have hk:(k+(ax.toArray.size:Int)).toNat=j:=by
   rw[seqIndex_neg (by lia) h3] at h1
   rw[zh,← hl]
   exact zS h1
  exact PySem.W.ki_setBack ho (by lia) (by rw[zh,← hl];exact h3) (by lia) (by rw[hk];exact⟨_,I',q⟩)
theorem uF(lo hi:Option Int)(n:Nat):(sliceBounds lo hi none n).1=((HT.sIx n 0 lo:Nat):Int)∧(sliceBounds lo hi none n).2.1=((HT.sIx n n hi:Nat):Int)∧(sliceBounds lo hi none n).2.2=1:=by
 refine⟨?_,?_,rfl⟩
 ·cases lo with
  |none=>simp [sliceBounds,HT.sIx]
  |some i =>
   simp only [sliceBounds,HT.sIx,Option.getD_none,show (1:Int)>0 by decide,if_true]
   by_cases h:i<0
   ·simp only [h,if_true] <;> lia
   ·simp only [h,if_false] <;> lia
 ·cases hi with
  |none=>simp [sliceBounds,HT.sIx]
  |some i =>
   simp only [sliceBounds,HT.sIx,Option.getD_none,show (1:Int)>0 by decide,if_true]
   by_cases h:i<0
   ·simp only [h,if_true] <;> lia
   ·simp only [h,if_false] <;> lia
theorem sG(ax:List Value)(lo hi:Option Int):slicePick ax.toArray lo hi none=((ax.drop (HT.sIx ax.length 0 lo)).take (HT.sIx ax.length ax.length hi - HT.sIx ax.length 0 lo)).toArray:=by
 obtain⟨h1,h2,h3⟩:=uF lo hi ax.toArray.size
 unfold slicePick
 rw[h1,h2,h3]
 simp only [sliceRange_one,pick_run,zh] <;> rfl
def Wy(K:Frag):V→Option Int→Option Int→Hp→VK→Prop:=fun x lo hi H Q=>∃a xs,x=.ref a∧iW K H a xs∧∀p,H p=none→Q (.ref p) (upd H p (.lst (wD xs lo hi)))
theorem Cb:Rq X (Wy X.K):=by
 intro pins s σ H x v vl vu lo hi sl Q I rx hs pl pu h
 obtain⟨a,xs,rfl,hx,q⟩:=h
 cases rx
 obtain⟨ax,r,ht,hz⟩:=I.list hx
 have hlen:=r.length
 refine⟨"list",_,slot_list_getitem.lookup,ht.isList.typeIs,?_⟩
 refine wpAny_getItem_list_slice ht.isList hs pl pu .none (by simp) ?_ (by rw[zh] <;> lia)
 rw[sG,← hlen]
 refine⟨.ref s.heap.objs.size,_,I.laid (t':=s.toks) (o:=.lst (wD xs lo hi)) (fun b ob q=>zb _ q) (zo _) ?_,rfl,q _ (I.aH.fresh (zo _))⟩
 exact⟨zL (oy xs lo hi) hz,_,0,(r.drop (HT.sIx xs.length 0 lo)).take (HT.sIx xs.length xs.length hi - HT.sIx xs.length 0 lo),zq _ rfl⟩
def gH:V→Bool
 |.aw=>true
 |.bl _=>true
 |.int _=>true
 |.str _=>true
 |_=>false
def eqV:V→V→Bool
 |.aw,.aw=>true
 |.bl a,.bl b=>a == b
 |.bl a,.int b=>(if a then 1 else 0) == b
 |.int a,.bl b=>a == (if b then 1 else 0)
 |.int a,.int b=>a == b
 |.str a,.str b=>a == b
 |_,_=>false
theorem Nv(ry:RelV y u)(rx:RelV x v)(fy:gH y=true)(fx:gH x=true):SeqAt.EqAt A s u v (eqV y x):=by
 cases y with
 |aw =>
  cases ry
  cases x with
  |aw=>cases rx;exact SeqAt.EqAt.same _
  |bl b=>cases rx;exact SeqAt.EqAt.none_bool b
  |int b=>obtain⟨t,rfl⟩:=rx;exact SeqAt.EqAt.none_int b t
  |str b=>obtain⟨t,rfl⟩:=rx;exact SeqAt.EqAt.none_str b t
  |_=>exact absurd (show false=true from fx) zd
 |bl a =>
  cases ry
  cases x with
  |aw=>cases rx;exact SeqAt.EqAt.bool_none a
  |bl b=>cases rx;exact SeqAt.EqAt.bool_bool a b
  |int b=>obtain⟨t,rfl⟩:=rx;exact SeqAt.EqAt.bool_int a b t
  |str b=>obtain⟨t,rfl⟩:=rx;exact SeqAt.EqAt.bool_str a b t
  |_=>exact absurd (show false=true from fx) zd
 |int a =>
  obtain⟨t',rfl⟩:=ry
  cases x with
  |aw=>cases rx;exact SeqAt.EqAt.int_none a t'
  |bl b=>cases rx;exact SeqAt.EqAt.int_bool a t' b
  |int b=>obtain⟨t,rfl⟩:=rx;exact SeqAt.EqAt.int_int a t' b t
  |str b=>obtain⟨t,rfl⟩:=rx;exact SeqAt.EqAt.int_str a t' b t
  |_=>exact absurd (show false=true from fx) zd
 |str a =>
  obtain⟨t',rfl⟩:=ry
  cases x with
  |aw=>cases rx;exact SeqAt.EqAt.str_none a t'
  |bl b=>cases rx;exact SeqAt.EqAt.str_bool a t' b
  |int b=>obtain⟨t,rfl⟩:=rx;exact SeqAt.EqAt.str_int a t' b t
  |str b=>obtain⟨t,rfl⟩:=rx;exact SeqAt.EqAt.str_str a t' b t
  |_=>exact absurd (show false=true from fx) zd
 |_=>exact absurd (show false=true from fy) zd
def FD(x:V)(u:Value):Bool:=match u with
 |.none=>eqV .aw x
 |.bool b=>eqV (.bl b) x
 |.int i _=>eqV (.int i) x
 |.str z _=>eqV (.str z) x
 |_=>false
theorem Az(r:RelV y u)(f:gH y=true):FD x u=eqV y x:=by
 cases y with
 |aw=>cases r;rfl
 |bl b=>cases r;rfl
 |int i=>obtain⟨t,rfl⟩:=r;rfl
 |str z=>obtain⟨t,rfl⟩:=r;rfl
 |_=>exact absurd (show false=true from f) zd
theorem uG:∀{xs:List V}{us:List Value},Vals xs us→xs.all gH=true→us.any (FD x)=xs.any fun y=>eqV y x
 |_,_,.nil,_=>rfl
 |y::xs,u::us,.cons r t,f=>by
  rw[List.all_cons,zP] at f
  rw[yD,yD,Az r f.1,uG t f.2]
theorem lV(rx:RelV x v)(fx:gH x=true):∀{xs:List V}{us:List Value},Vals xs us→xs.all gH=true→∀u∈us,SeqAt.EqAt A s u v (FD x u)
 |_,_,.nil,_=>fun u hu=>by cases hu
 |y::xs,u::us,.cons r t,f=>fun u' hu=>by
  rw[List.all_cons,zP] at f
  rcases ze.mp hu with rfl|hu
  ·rw[Az r f.1];exact Nv r rx f.1 fx
  ·exact lV rx fx t f.2 u' hu
def FE(x:V)(xs:List V):Bool:=xs.any fun y=>eqV y x
def rIn(K:Frag)(neg:Bool):R2:=fun x y H Q=>∃p xs,y=.ref p∧(iW K H p xs∨iE K H p xs)∧gH x=true∧xs.all gH=true∧Q (.bl (if neg then !FE x xs else FE x xs)) H
theorem m7:gp X (compareOp .In) (rIn X.K false):=by
 intro pins s σ H x y v u Q I rx ry h
 obtain⟨p,xs,rfl,hq,fx,fs,q⟩:=h
 cases ry
 rcases hq with hq|hq
 ·obtain⟨ax,r,pl,hz⟩:=I.list hq
  refine SeqAt.in_listAt (FD x) pl.isList (fun w hw=>lV rx fx r fs w (by simpa using hw)) ⟨.bl _,H,I,rfl,?_⟩
  rw[show ax.toArray.any (FD x)=ax.any (FD x) by simp,uG r fs]
  exact q
 ·obtain⟨ax,r,pl,hz⟩:=I.tuple hq
  refine SeqAt.in_tupleAt (FD x) pl (fun w hw=>lV rx fx r fs w (by simpa using hw)) ⟨.bl _,H,I,rfl,?_⟩
  rw[show ax.toArray.any (FD x)=ax.any (FD x) by simp,uG r fs]
  exact q
theorem lW:dq X (.type "list") (fun xs H Q=>∃p ys,xs=[.ref p]∧(iW X.K H p ys∨iE X.K H p ys)∧∀l,H l=none→Q (.ref l) (upd H l (.lst ys))):=by
 intro pins s σ H xs us Q I r h
 obtain⟨p,ys,rfl,hq,q⟩:=h
 obtain⟨u,rfl,rx⟩:=vals1 r
 cases rx
 have fin:∀(ax:List Value),Vals ys ax→ys.length≤sizeLine→∀(h':Heap) (c':Nat),(∀b o',s.heap.get? b=some o'→h'.get? b=some o') →
   h'.get? s.heap.objs.size=some { cls:=.type "list",dict:=none,data:=.seq ax.toArray c',slots:=#[] }→EP X pins σ Q (.ref s.heap.objs.size) { s with heap:=h' }:=fun ax r' hz h' c' kp e =>
  ⟨.ref s.heap.objs.size,_,I.laid (t':=s.toks) kp (zo _) (show aV X.prog X.w _ h' _ (.lst ys) from ⟨hz,ax,c',r',e⟩),rfl,q _ (I.aH.fresh (zo _))⟩
 rcases hq with hq|hq
 ·obtain⟨ax,r',pl,hz⟩:=I.list hq
  have hlen:=r'.length
  obtain⟨o,ho,hc,n,hd⟩:=pl.isList
  exact call_list_seq p (.inl rfl) ho hc hd (fun h' c' kp e=>fin ax r' hz h' c' kp e) (by simp only [zh] <;> lia)
 ·obtain⟨ax,r',pl,hz⟩:=I.tuple hq
  have hlen:=r'.length
  obtain⟨o,ho,hc,n,hd⟩:=pl
  exact call_list_seq p (.inr rfl) ho hc hd (fun h' c' kp e=>fin ax r' hz h' c' kp e) (by simp only [zh] <;> lia)
theorem kI:dq X (.type "tuple") (fun xs H Q=>∃p ys,xs=[.ref p]∧((iW X.K H p ys∧∀l,H l=none→Q (.ref l) (upd H l (.tup ys)))∨(iE X.K H p ys∧Q (.ref p) H))):=by
 intro pins s σ H xs us Q I r h
 obtain⟨p,ys,rfl,h⟩:=h
 obtain⟨u,rfl,rx⟩:=vals1 r
 cases rx
 rcases h with ⟨hq,q⟩|⟨hq,q⟩
 ·obtain⟨ax,r',pl,hz⟩:=I.list hq
  have hlen:=r'.length
  refine call_tuple_list pl.isList (fun h' kp=>?_) (by simp only [zh] <;> lia)
  have I1:Inv X pins σ H { s with heap:=h' }:=I.kept (t':=s.toks) kp
  have I2:Inv X pins σ (upd H h'.objs.size (.tup ys)) { s with heap:=h'.push { cls:=.type "tuple",data:=.seq ax.toArray } } :=
   I1.laid (t':=s.toks) (fun b o e=>zb _ e) (zo _) (show aV X.prog X.w _ _ _ (.tup ys) from ⟨hz,ax,r',fg.new _ _⟩)
  exact⟨.ref h'.objs.size,_,I2,rfl,q _ (I1.aH.fresh (zo _))⟩
 ·obtain⟨ax,r',pl,hz⟩:=I.tuple hq
  exact call_tuple_same pl ⟨.ref p,H,I,rfl,q⟩
def U4(K:Frag)(T:String)(x:V)(H:Hp):Prop:=match x with
 |.str _=>T = "str"
 |.int _=>T = "int"
 |.ref p=>(T = "list" ∧ ∃xs,iW K H p xs)∨(T = "tuple" ∧ ∃o,K.lookup p=some o∧o.cls=.type "tuple" ∧ o.dict=none) ∨
   (T = "dict" ∧ ((∃kvs,H p=some (.dK kvs))∨∃kvs,H p=some (.dT kvs)))∨(T = "set" ∧ ∃S n,H p=some (.set S n))
 |_=>False
theorem FF(I:Inv X pins σ H s)(r:RelV x v)(ty:U4 X.K T x H) :
  s.TypeIs v T∧∀a,v=.ref a→∃ob,s.heap.get? a=some ob∧ob.dict=none:=by
 cases x with
 |str z =>
  obtain⟨t,rfl⟩:=r
  cases (show T = "str" from ty)
  exact⟨typeIs_str s z t,fun _ e=>nomatch e⟩
 |int i =>
  obtain⟨t,rfl⟩:=r
  cases (show T = "int" from ty)
  exact⟨typeIs_int s i t,fun _ e=>nomatch e⟩
 |ref p =>
  cases r
  rcases ty with ⟨rfl,xs,hq⟩|⟨rfl,o,hk,hc,hd⟩|⟨rfl,hk⟩|⟨rfl,S,n,hk⟩
  ·obtain⟨ax,_,pl,_⟩:=I.list hq
   refine⟨pl.isList.typeIs,fun a e=>?_⟩
   cases e
   obtain⟨o,n,e,c,hd,_⟩:=pl
   exact⟨o,e,hd⟩
  ·refine⟨⟨o,I.lL p o hk,hc⟩,fun a e=>?_⟩
   cases e
   exact⟨o,I.lL _ o hk,hd⟩
  ·have z:∃o,s.heap.get? p=some o∧o.ExactDict:=by
    rcases hk with ⟨kvs,hk⟩|⟨kvs,hk⟩
    ·obtain⟨_,_,_,_,o,_,_,e,ex,_⟩:=I.aH p _ hk
     exact⟨o,e,ex⟩
    ·exact False.elim (I.aH p _ hk)
   obtain⟨o,e,ex⟩:=z
   refine⟨⟨o,e,ex.1⟩,fun a e2=>?_⟩
   cases e2
   exact⟨o,e,ex.2.1⟩
  ·obtain⟨o,_,_,_,e,ex,_⟩:=I.aH p _ hk
   refine⟨⟨o,e,ex.1⟩,fun a e2=>?_⟩
   cases e2
   exact⟨o,e,ex.2.1⟩
 |_=>exact False.elim ty
def Wz(K:Frag)(T:String)(r:V→List V→Hp→VK→Prop)(to:TE):TE:=fun σ H Q=>to σ H fun x H1=>U4 K T x H1∧r x [] H1 Q
def tBM(K:Frag)(T:String)(r:V→List V→Hp→VK→Prop)(to:TE)(t:TA):TE:=fun σ H Q=>to σ H fun x H1=>U4 K T x H1∧t σ H1 fun xs H2=>r x xs H2 Q
variable{o e:Expr}{es:List Expr}{to:TE}{t:TA}{name:Str}{apos aQ:Pos}{T id:String}{r:V→List V→Hp→VK→Prop}
theorem Nw(pa:PlainAttrs T)(slot:Slot T name id)(Nx:typeOf (.builtin id)=pure (.type "method_descriptor"))(hm:Nr X id r)(ho:PE X o to)
  (lX:attributeBase o name X.env (eval o X.env)=eval o X.env:=by rfl) (qg:(apos.endLine == aQ.line)=true:=by rfl):PE X (.Call (.Attribute o name apos) [] [] aQ) (Wz X.K T r to):=by
 intro pins s σ H Q I h
 refine wpAny_Call_method0_late lX qg (bj (ho pins s σ H _ I h) fun v s1 ⟨x,H1,I1,r1,ty,q1⟩=>?_)
 obtain⟨h1,h2⟩:=FF I1 r1 ty
 exact⟨T,id,pa,slot,Nx,h1,h2,Calls.callWith_builtin rfl (PySem.evalArgs_none (hm pins s1 σ H1 x [] v [] Q I1 r1 .nil q1))⟩
theorem Ry(pa:PlainAttrs T)(slot:Slot T name id)(Nx:typeOf (.builtin id)=pure (.type "method_descriptor"))(hm:Nr X id r)(ho:PE X o to)(ha:PA X (e::es) t)
  (lX:attributeBase o name X.env (eval o X.env)=eval o X.env:=by rfl)
  (Ny:((backTo aQ (starEach (e::es) X.env)).all (fun x=>!x.1) && (backToKw aQ (keywordEach [] X.env)).all (fun x=>x.1.isSome)
   && decide ((e::es).length+([]:List Keyword).length+(if ([]:List Keyword).isEmpty then 0 else 1)<30))=true:=by rfl)
  (qg:(apos.endLine == aQ.line)=true:=by rfl) (hs:starEach (e::es) X.env=(false,eval e X.env)::starEach es X.env:=by rfl) (AA:(backTo aQ (starEach es X.env)).any (·.1)=false:=by rfl) :
  PE X (.Call (.Attribute o name apos) (e::es) [] aQ) (tBM X.K T r to t):=by
 intro pins s σ H Q I h
 refine wpAny_Call_method_late lX Ny qg rfl (bj (ho pins s σ H _ I h) fun v s1 ⟨x,H1,I1,r1,ty,q1⟩=>?_)
 obtain⟨h1,h2⟩:=FF I1 r1 ty
 refine⟨T,id,pa,slot,Nx,h1,h2,?_⟩
 have hA:=ha aQ pins s1 σ H1 _ I1 q1
 rw[hs] at hA ⊢
 refine Calls.callWith_builtin (by show (false || (backTo aQ (starEach es X.env)).any (·.1))=false;rw[AA] <;> rfl) (Calls.evalArgs_plain ?_)
 exact bj hA <| by rintro us s2 ⟨vs,H2,I2,r2,q2⟩;exact hm pins s2 σ H2 x vs v us Q I2 r1 r2 q2
end
def WA(X:Cx)(id:String)(r:V→List V→Hp→VK→Prop):Prop :=
 ∀(pins:List (Addr×Obj)) (s:Shared) (σ:St) (H:Hp) (x:V) (xs:List V) (v:Value) (us:List Value) (Q:VK),Inv X pins σ H s→RelV x v→Vals xs us→r x xs H Q →
  wpAny (model X.prog X.w) X.A (call (.builtin id) (v::us)) (EP X pins σ Q) X.xe s
theorem Vals.one:∀{x:V}{us:List Value},Vals [x] us→∃u,us=[u]∧RelV x u:=by
 intro x us h
 cases h with
 |cons r t=>cases t;exact⟨_,rfl,r⟩
theorem Vals.two:∀{x y:V}{us:List Value},Vals [x,y] us→∃u v,us=[u,v]∧RelV x u∧RelV y v:=by
 intro x y us h
 cases h with
 |cons r t =>
  obtain⟨_,rfl,q⟩:=Vals.one t
  exact⟨_,_,rfl,r,q⟩
theorem Vals.zero:∀{us:List Value},Vals [] us→us=[]
 |_,.nil=>rfl
theorem Vals.dropLast{xs:List V}{us:List Value}(h:Vals xs us):Vals xs.dropLast us.dropLast:=by
 induction h with
 |nil=>exact .nil
 |cons r t ih =>
  cases t with
  |nil=>exact .nil
  |cons q t'=>exact .cons r ih
theorem AB{α:Type}(l:List α):l.eraseIdx (l.length - 1)=l.dropLast:=by
 induction l with
 |nil=>rfl
 |cons a r ih =>
  cases r with
  |nil=>rfl
  |cons b r =>
   have e:(a::b::r).length - 1=((b::r).length - 1)+1:=by
    have h1:(a::b::r).length=r.length+2:=rfl
    have h2:(b::r).length=r.length+1:=rfl
    lia
   rw[e,List.eraseIdx_cons_succ,ih]
   all_goals rfl
section
variable{X:Cx}{pins:List (Addr×Obj)}{σ:St}{H:Hp}{s:Shared}{l b:Addr}{xs ys zs:List V}
theorem Inv.Nz{ax its':List Value}{n:Nat}{f:Array Value→Array Value}{t':Nat}(I:Inv X pins σ H s)(hH:H l=some (.lst xs))
  (e:s.heap.get? l=some { cls:=.type "list",data:=.seq ax.toArray n }) (hf:f ax.toArray=its'.toArray) (hv:Vals ys its') (hz:ys.length≤sizeLine) :
  Inv X pins σ (upd H l (.lst ys)) { s with heap:=s.heap.update l (Obj.mapSeq f),toks:=t' }:=by
 have q:=PySem.IsL.update e f
 rw[hf] at q
 refine I.write (x:=l) (e:=l) (by rw[hH];exact trivial) (.inl rfl) (fun b' u hb hu=>(Heap.get?_update_other s.heap (Obj.mapSeq f) (Ne.symm hb)).trans hu) ⟨_,q⟩ ?_
 exact⟨hz,its',_,hv,q⟩
theorem Inv.WB(I:Inv X pins σ H s)(hv:Vals ys ax)(hz:ys.length≤sizeLine) :
  Inv X pins σ (upd H s.heap.objs.size (.lst ys)) { s with heap:=s.heap.push { cls:=.type "list",data:=.seq ax.toArray },toks:=t' } :=
 I.laid (fun _ _ q=>zb _ q) (zo _) ⟨hz,ax,0,hv,zq _ rfl⟩
theorem Inv.fresh(I:Inv X pins σ H s):H s.heap.objs.size=none:=I.aH.fresh (zo _)
theorem Inv.Dz(I:Inv X pins σ H s)(hH:H l=some (.lst xs)):xs.length≤sizeLine∧∃(ax:List Value) (n:Nat),Vals xs ax∧xs.length=ax.length∧s.heap.get? l=some { cls:=.type "list",data:=.seq ax.toArray n }:=by
 obtain⟨z,ax,n,r,e⟩:=I.aH l _ hH
 exact⟨z,ax,n,r,r.length,e⟩
theorem FG{n:Nat}(h:n≤sizeLine):Builtin.List.listTooLong n=false:=by
 unfold Builtin.List.listTooLong
 exact zw (by lia)
end
section
variable{X:Cx}
def Jj:V→List V→Hp→VK→Prop:=fun x vs H Q=>∃l xs y,x=.ref l∧vs=[y]∧H l=some (.lst xs)∧xs.length<sizeLine∧Q .aw (upd H l (.lst (xs++[y])))
theorem DB:WA X "list.append" Jj:=by
 intro pins s σ H x vs v us Q I rx rv h
 obtain⟨l,xs,y,rfl,rfl,hH,hz,q⟩:=h
 cases rx
 obtain⟨u,rfl,ru⟩:=rv.one
 obtain⟨z,ax,n,r,hl,e⟩:=I.Dz hH
 refine yG F.slot_list_append ⟨_,e,rfl⟩ F.entry_list_append (F.args_list_append_2 _ _) (PySem.list_append l ax.toArray n u (by rw[zh];lia)) ⟨e,?_⟩
 refine⟨.aw,_,I.Nz (its':=ax++[u]) hH e (by simp) (r.append (.cons ru .nil)) ?_,rfl,q⟩
 rw[zl,List.length_singleton]
 lia
def WC:V→List V→Hp→VK→Prop:=fun x vs H Q=>∃l xs y,x=.ref l∧vs=[]∧H l=some (.lst xs)∧xs[xs.length - 1]?=some y∧Q y (upd H l (.lst xs.dropLast))
theorem NC:WA X "list.pop" WC:=by
 intro pins s σ H x vs v us Q I rx rv h
 obtain⟨l,xs,y,rfl,rfl,hH,hy,q⟩:=h
 cases rx
 have hus:=rv.zero
 subst hus
 obtain⟨z,ax,n,r,hl,e⟩:=I.Dz hH
 obtain⟨u,hu,ru⟩:=r.get hy
 have Rz:ax.toArray[ax.toArray.size - 1]?=some u:=by
  show ax.toArray[ax.length - 1]?=some u
  rw[← Array.getElem?_toList,← hl]
  exact hu
 refine yG F.slot_list_pop ⟨_,e,rfl⟩ F.entry_list_pop (F.args_list_pop_1 _) (MeetsSeq.list_pop_last l ax.toArray n u Rz (by rw[zh];lia)) ⟨e,?_⟩
 refine⟨y,_,I.Nz (its':=ax.dropLast) hH e ?_ r.dropLast ?_,ru,q⟩
 ·show ax.toArray.eraseIdxIfInBounds (ax.toArray.size - 1)=ax.dropLast.toArray
  rw[zh,List.eraseIdxIfInBounds_toArray,AB]
 ·rw[List.length_dropLast]
  lia
def WD:R2:=fun x y H Q=>∃l b xs zs,x=.ref l∧y=.ref b∧H l=some (.lst xs)∧H b=some (.lst zs)∧xs.length+zs.length≤sizeLine∧∀p,H p=none→Q (.ref p) (upd H p (.lst (xs++zs)))
theorem ND:gp X (binaryOp .Add) WD:=by
 intro pins s σ H x y v u Q I rx ry h
 obtain⟨l,b,xs,zs,rfl,rfl,hH,hB,hz,q⟩:=h
 cases rx
 cases ry
 obtain⟨z,ax,n,r,hl,e⟩:=I.Dz hH
 obtain⟨z2,mZ,n2,r2,sH,e2⟩:=I.Dz hB
 refine PySem.P.add_list e e2 ?_ (by rw[zh,zh];lia)
 have ea:ax.toArray++mZ.toArray=(ax++mZ).toArray:=by simp
 rw[ea]
 exact⟨.ref _,_,I.WB (t':=s.toks) (r.append r2) (by rw[zl];lia),rfl,q _ I.fresh⟩
end
section
variable{prog:Program}{w:World}{A:Around}{E:Value→Shared→Prop}{s:Shared}
end
section
variable{X:Cx}
end
section
variable{κ:Type}[DecidableEq κ]
def fN(kvs:List (κ×V))(k:κ):Option V:=(kvs.find? fun kv=>decide (kv.1=k)).map (·.2)
def putK(kvs:List (κ×V))(k:κ)(v:V):List (κ×V) :=
 if (kvs.any fun kv=>decide (kv.1=k))=true then kvs.map (fun kv=>if kv.1=k then (kv.1,v) else kv) else kvs++[(k,v)]
def oz(kvs:List (κ×V))(k:κ):List (κ×V):=kvs.filter fun kv=>decide (kv.1≠k)
theorem qh{p:κ×V}{r:List (κ×V)}{k:κ}(e:p.1=k):fN (p::r) k=some p.2:=by simp [fN,zV,e]
theorem qj{p:κ×V}{r:List (κ×V)}{k:κ}(e:¬ p.1=k):fN (p::r) k=fN r k:=by simp [fN,zV,e]
theorem oA(kvs:List (κ×V))(k:κ)(v:V):(putK kvs k v).length≤kvs.length+1:=by
 unfold putK
 split
 ·rw[zc];lia
 ·rw[zl,zE,List.length_nil];lia
theorem fK.m8(r:fK o u):o.isSome=u.isSome:=by
 cases o with
 |none=>cases u with
  |none=>rfl
  |some _=>exact (show False from r).elim
 |some _=>cases u with
  |none=>exact (show False from r).elim
  |some _=>rfl
theorem fK.getD{o:Option V}{u:Option Value}{d:V}{d':Value}(r:fK o u)(rd:RelV d d'):RelV (o.getD d) (u.getD d'):=by
 cases o with
 |none=>cases u with
  |none=>exact rd
  |some _=>exact (show False from r).elim
 |some _=>cases u with
  |none=>exact (show False from r).elim
  |some _=>exact r
theorem KV.val{kvs:List (κ×V)}{vs:List (κ×Value)}(r:KV kvs vs)(k:κ):fK (fN kvs k) (valueAt vs k):=by
 unfold KV at r
 induction r with
 |nil=>exact True.intro
 |@cons p q ps qs h t ih =>
  obtain⟨h1,h2⟩:=h
  by_cases e:p.1=k
  ·have e':q.1=k:=h1.symm.trans e
   have b:valueAt (q::qs) k=some q.2:=by simp [valueAt,zV,e']
   rw[qh e,b];exact h2
  ·have e':¬ q.1=k:=fun z=>e (h1.trans z)
   have b:valueAt (q::qs) k=valueAt qs k:=by simp [valueAt,zV,e']
   rw[qj e,b];exact ih
theorem KV.any{kvs:List (κ×V)}{vs:List (κ×Value)}(r:KV kvs vs)(k:κ):(kvs.any fun kv=>decide (kv.1=k))=vs.any fun kv=>decide (kv.1=k):=by
 unfold KV at r
 induction r with
 |nil=>rfl
 |cons h t ih=>rw[yD,yD,ih,h.1]
theorem KV.NF(r:KV kvs vs)(k:κ)(ry:RelV y u) :
  KV (kvs.map fun kv=>if kv.1=k then (kv.1,y) else kv) (vs.map fun kv=>if kv.1=k then (kv.1,u) else kv):=by
 unfold KV at r ⊢
 induction r with
 |nil=>exact .nil
 |@cons p q ps qs h t ih =>
  rw[zM,zM]
  refine .cons ?_ ih
  obtain⟨h1,h2⟩:=h
  by_cases e:p.1=k
  ·rw[if_pos e,if_pos (h1.symm.trans e)];exact⟨h1,ry⟩
  ·rw[if_neg e,if_neg (fun z=>e (h1.trans z))];exact⟨h1,h2⟩
theorem KV.put(r:KV kvs vs)(k:κ)(ry:RelV y u):KV (putK kvs k y) (stored vs k u):=by
 unfold putK stored
 rw[r.any k]
 by_cases e:(vs.any fun kv=>decide (kv.1=k))=true
 ·rw[if_pos e,if_pos e];exact r.NF k ry
 ·rw[if_neg e,if_neg e];exact Paired.snoc r ⟨rfl,ry⟩
theorem KV.drop(r:KV kvs vs)(k:κ):KV (oz kvs k) (without vs k):=by
 unfold KV at r ⊢
 unfold oz without
 induction r with
 |nil=>exact .nil
 |@cons p q ps qs h t ih =>
  obtain⟨h1,h2⟩:=h
  rw[List.filter_cons,List.filter_cons]
  by_cases e:p.1=k
  ·have a:¬ decide (p.1≠k)=true:=by simp [e]
   have b:¬ decide (q.1≠k)=true:=by simp [h1.symm.trans e]
   rw[if_neg a,if_neg b];exact ih
  ·have e':¬ q.1=k:=fun z=>e (h1.trans z)
   have a:decide (p.1≠k)=true:=by simp [e]
   have b:decide (q.1≠k)=true:=by simp [e']
   rw[if_pos a,if_pos b];exact .cons ⟨h1,h2⟩ ih
theorem KV.length{kvs:List (κ×V)}{vs:List (κ×Value)}(r:KV kvs vs):kvs.length=vs.length:=Paired.length r
theorem FH(kvs:List (κ×V))(k:κ):(oz kvs k).length≤kvs.length:=List.length_filter_le _ _
end
theorem kJ(r:RelV (kV k) u):(aF P w).is k u=true:=by
 cases k with
 |inl i=>obtain⟨t,e⟩:=(show ∃t,u=Value.int i t from r);subst e;exact wx P w i t
 |inr x=>obtain⟨t,e⟩:=(show ∃t,u=Value.str x t from r);subst e;exact iX P w x t
theorem tU:∀{ks:List Key}{us:List Value},Vals (ks.map kV) us→ItemsAre (aF P w) ks us
 |[],_,r=>by rw[List.map_nil] at r;cases r;exact .nil
 |k::ks,_,r=>by
  rw[zM] at r
  cases r with
  |cons h t=>exact .cons (kJ h) (tU t)
abbrev KT(H:Hp):List (List Key×V)→List (List Key×Addr×Value)→Prop:=Paired fun p q=>p.1=q.1∧H q.2.1=some (.tup (p.1.map kV))∧RelV p.2 q.2.2
theorem KT.val{H:Hp}{kvs:List (List Key×V)}{xs:List (List Key×Addr×Value)}(r:KT H kvs xs)(k:List Key):fK (fN kvs k) ((atKey xs k).map (·.2)):=by
 induction r with
 |nil=>exact True.intro
 |@cons p q ps qs h t ih =>
  obtain⟨h1,_,h2⟩:=h
  by_cases e:p.1=k
  ·have e':q.1=k:=h1.symm.trans e
   have b:atKey (q::qs) k=some q.2:=by simp [atKey,zV,e']
   rw[qh e,b];exact h2
  ·have e':¬ q.1=k:=fun z=>e (h1.trans z)
   have b:atKey (q::qs) k=atKey qs k:=by simp [atKey,zV,e']
   rw[qj e,b];exact ih
section
variable{P:Program}{w:World}{H:Hp}{h:Heap}{a:Addr}
theorem LB(ok:ki P w H h)(e:Rd H a u):aV P w H h a u:=e.ok ok
theorem oB(ok:ki P w H h)(e:Rd H a (.dK kvs)):kvs.length≤sizeLine∧(a == sysModules)=false∧∃vs,KV kvs vs∧h.DictOf (aF P w) a vs :=
 show aV P w H h a (.dK kvs) from LB ok e
theorem Cc(ok:ki P w H h)(e:H a=some (.dK kvs)):kvs.length≤sizeLine∧(a == sysModules)=false∧∃vs,KV kvs vs∧h.DictOf (aF P w) a vs:=oB ok (.inl e)
theorem uH(ok:ki P w H h)(e:H a=some (.tup (ks.map kV))):(tupleKind (aF P w)).is h ks a:=by
 obtain⟨_,ax,r,o,h1,h2,_,n,h3⟩:=(show aV P w H h a (.tup (ks.map kV)) from ok a _ e)
 exact⟨o,ax.toArray,n,h1,h2,h3,by simpa using tU r⟩
theorem tV(ok:ki P w H h)(e:Rd H a (.dT kvs)):kvs.length≤sizeLine∧(a == sysModules)=false ∧
  ∃xs,KT H kvs xs∧h.DictOfH (tupleKind (aF P w)) a xs:=by
 exact False.elim (show aV P w H h a (.dT kvs) from LB ok e)
end
def oR(H:Hp)(a:Addr)(y:V)(r:Option V):Prop :=
 (∃kvs k,Rd H a (.dK kvs)∧y=kV k∧r=fN kvs k)∨∃kvs k b,Rd H a (.dT kvs)∧y=.ref b∧H b=some (.tup (k.map kV))∧r=fN kvs k
def FI(H:Hp)(a:Addr)(y v:V)(H':Hp):Prop :=
 (∃kvs k,H a=some (.dK kvs)∧y=kV k∧kvs.length<sizeLine∧H'=upd H a (.dK (putK kvs k v))) ∨
 ∃kvs k b,H a=some (.dT kvs)∧y=.ref b∧H b=some (.tup (k.map kV))∧kvs.length<sizeLine∧H'=upd H a (.dT (putK kvs k v))
theorem oR.k{H:Hp}{a:Addr}{kvs:List (Key×V)}{k:Key}(e:H a=some (.dK kvs)):oR H a (kV k) (fN kvs k):=.inl ⟨kvs,k,.inl e,rfl,rfl⟩
theorem FI.k{H:Hp}{a:Addr}{kvs:List (Key×V)}{k:Key}{v:V}(e:H a=some (.dK kvs))(hl:kvs.length<sizeLine):FI H a (kV k) v (upd H a (.dK (putK kvs k v))):=.inl ⟨kvs,k,e,rfl,hl,rfl⟩
section
variable{X:Cx}{pins:List (Addr×Obj)}{σ:St}{H:Hp}{s:Shared}{a:Addr}{y v:V}{u r:Value}{o:Option V}{A:Around}{E:Value→Shared→Prop}
theorem Inv.big(I:Inv X pins σ H s):sysModules<s.heap.objs.size:=by
 have h:mainGlobals<s.heap.objs.size:=(I.mod.glob.keeps I.bk).lt
 exact Nat.lt_trans (by decide) h
theorem DC(hu:A.units+1<cLine)(I:Inv X pins σ H s)(g:oR H a y (some v))(ry:RelV y u)(h:∀w' s',Inv X pins σ H s'→RelV v w'→Q w' s') :
  wpAny (model X.prog X.w) A (getItem (.ref a) u) Q E s:=by
 rcases g with ⟨kvs,k,e,ey,l⟩|⟨kvs,k,b,e,ey,eb,l⟩
 ·subst ey
  obtain⟨z,hd,vs,rel,dd⟩:=oB I.aH e
  obtain⟨w',hw,lU⟩:=fK.some_of (v:=v) (o:=valueAt vs k) (by rw[l];exact rel.val k)
  exact wpAny_getItem_of (kJ ry) dd.mapOf hw (h w' _ (I.tok _) lU)
 ·subst ey
  cases (show u=Value.ref b from ry)
  obtain⟨z,hd,xs,rel,dd⟩:=tV I.aH e
  obtain⟨w',hw,lU⟩:=fK.some_of (v:=v) (o:=(atKey xs k).map (·.2)) (by rw[l];exact rel.val k)
  obtain⟨p,hp,fT⟩:=Option.map_eq_some_iff.mp hw
  refine wpAny_getItem_heap (tupleKind_room_in1 hu) (uH I.aH eb) dd hp ?_
  rw[fT]
  exact h w' _ (I.tok _) lU
theorem WE(hu:A.units+1<cLine)(I:Inv X pins σ H s)(g:oR H a y o)(ry:RelV y u)(h:∀s',Inv X pins σ H s'→Q (.bool o.isSome) s') :
  wpAny (model X.prog X.w) A (compareOp .In u (.ref a)) Q E s:=by
 rcases g with ⟨kvs,k,e,ey,l⟩|⟨kvs,k,b,e,ey,eb,l⟩
 ·subst ey
  obtain⟨z,hd,vs,rel,dd⟩:=oB I.aH e
  refine wpAny_in_of (kJ ry) hd dd.mapOf ?_
  rw[← (rel.val k).m8,← l]
  exact h _ (I.tok _)
 ·subst ey
  cases (show u=Value.ref b from ry)
  obtain⟨z,hd,xs,rel,dd⟩:=tV I.aH e
  refine wpAny_in_heap (tupleKind_room_in1 hu) (uH I.aH eb) hd dd ?_
  have q:=(rel.val k).m8
  rw[Option.isSome_map] at q
  rw[← q,← l]
  exact h _ (I.tok _)
theorem uI(I:Inv X pins σ H s)(mu:QP (H a))(hs:Heap.SameBut a s.heap h')(he:∃q,h'.get? a=some q)(new:aV X.prog X.w (upd H a ob) h' a ob) :
  Inv X pins σ (upd H a ob) { s with heap:=h',toks:=t' } :=
 I.write (x:=a) (e:=a) mu (.inl rfl) (fun b q hb z=>(hs.2 b hb).trans z) he new
theorem AD(z:kvs.length≤sizeLine)(hd:(a == sysModules)=false)(rel:KV kvs vs)(dd:h'.DictOf (aF P w) a vs) :
  aV P w H' h' a (.dK kvs):=⟨z,hd,vs,rel,dd⟩
theorem DD(hu:A.units+1<cLine)(I:Inv X pins σ H s)(g:FI H a y v H')(ry:RelV y u)(rv:RelV v r)(h:∀s',Inv X pins σ H' s'→Q () s') :
  wpAny (model X.prog X.w) A (setItem (.ref a) u r) Q E s:=by
 rcases g with ⟨kvs,k,e,ey,l,eH⟩|⟨kvs,k,b,e,ey,eb,l,eH⟩
 ·subst ey eH
  obtain⟨z,hd,vs,rel,dd⟩:=Cc I.aH e
  have hz:vs.length≤sizeLine:=by rw[← rel.length];exact z
  have hl:(putK kvs k v).length≤sizeLine:=by have:=oA kvs k v;lia
  refine wpAny_setItem_pairs (hsz:=hz) (kJ ry) dd fun h' Iq hs=>h _ ?_
  have he:∃q,h'.get? a=some q:=by obtain⟨q,_,_,hq,_⟩:=Iq;exact⟨q,hq⟩
  exact uI I (by rw[e];exact True.intro) hs he (AD hl hd (rel.put k rv) Iq)
 ·exact False.elim (I.aH _ _ e)
end
section
variable{X:Cx}{pins:List (Addr×Obj)}{σ:St}{H:Hp}{s:Shared}{a:Addr}{kvs:List (Key×V)}{k:Key}{u:Value}{A:Around}{E:Value→Shared→Prop}
theorem RA(I:Inv X pins σ H s)(e:H a=some (.dK kvs))(ry:RelV (kV k) u)(l:fN kvs k=some v)(hm:more=[]∨∃x,more=[x])
  (h:∀w' s',Inv X pins σ (upd H a (.dK (oz kvs k))) s'→RelV v w'→Q w' s'):wpAny (model X.prog X.w) A (call (.builtin "dict.pop") (.ref a::u::more)) Q E s:=by
 obtain⟨z,hd,vs,rel,dd⟩:=Cc I.aH e
 obtain⟨w',hw,lU⟩:=fK.some_of (v:=v) (o:=valueAt vs k) (by rw[← l];exact rel.val k)
 have hp:(keyPart u).isSome=true:=by
  cases k with
  |inl i=>obtain⟨t,q⟩:=(show ∃t,u=Value.int i t from ry);subst q;rfl
  |inr x=>obtain⟨t,q⟩:=(show ∃t,u=Value.str x t from ry);subst q;rfl
 have ha:argsOk "dict.pop" ⟨.ref a::u::more,[]⟩:=by
  rcases hm with q|⟨x,q⟩
  ·subst q;exact PySem.F.args_dict_pop_2 _ _
  ·subst q;exact PySem.F.args_dict_pop_3 _ _ _
 refine call_meetsIn PySem.F.slot_dict_pop dd.typeIs PySem.F.entry_dict_pop ha (meets_dict_pop_there (aF X.prog X.w) a (kJ ry) more hm hp)
  ⟨vs,w',dd,by rw[← rel.length];exact z,hw,fun h' Iq hs=>h w' _ ?_ lU⟩
 have he:∃q,h'.get? a=some q:=by obtain⟨q,_,_,hq,_⟩:=Iq;exact⟨q,hq⟩
 exact uI I (by rw[e];exact True.intro) hs he (AD (zL (FH kvs k) z) hd (rel.drop k) Iq)
theorem RB(I:Inv X pins σ H s)(e:Rd H a (.dK kvs))(h:∀t s',Inv X pins σ H s'→Q (.int kvs.length t) s'):wpAny (model X.prog X.w) A (call (.builtin "len") [.ref a]) Q E s:=by
 obtain⟨z,hd,vs,rel,dd⟩:=oB I.aH e
 refine call_len_dict hd dd (by rw[← rel.length];rw[zT] at z;lia) ?_
 rw[← rel.length]
 exact h _ _ (I.tok _)
end
theorem wF(I:Inv X pins σ H s)(g:oR H a y o):s.TypeIs (.ref a) "dict" := by
 rcases g with ⟨kvs,k,e,_,_⟩|⟨kvs,k,b,e,_,_,_⟩
 ·obtain⟨_,_,vs,_,dd⟩:=oB I.aH e
  exact dd.typeIs
 ·obtain⟨_,_,xs,_,dd⟩:=tV I.aH e
  exact dd.typeIs
def RC(td ty tv:TE):TS:=fun D σ H=>tv σ H fun v H1=>td σ H1 fun x H2=>ty σ H2 fun y H3=>∃a H4,x=.ref a∧FI H3 a y v H4∧D.nx σ H4
section
variable{X:Cx}{o i e value:Expr}{pos pos' Wl:Pos}{td ty tv:TE}
theorem Jk(hu:X.A.units+1<cLine)(ho:PE X o td)(hi:PE X i ty)(hv:PE X value tv)(hs:swapsWith value (some (.Subscript o i pos')) pos.line X.env=pure false) :
  PS X (.Assign [.Subscript o i pos'] value pos) (RC td ty tv):=by
 intro pins s σ H D I h
 refine wpAny_Assign_Subscript (bj (hv pins s σ H _ I h) fun r s1 ⟨v,H1,I1,rv,q1⟩=>bj (ho pins s1 σ H1 _ I1 q1) fun u s2 ⟨x,H2,I2,rx,q2⟩=>bj (hi pins s2 σ H2 _ I2 q2) fun iv s3 ⟨y,H3,I3,ry,a,H4,ex,g,q3⟩=>?_) hs
 subst ex
 obtain rfl:u=Value.ref a:=rx
 exact DD hu I3 g ry rv fun s4 I4=>⟨σ,H4,I4,q3⟩
end
theorem FJ(h:Heap)(hb:sysModules<h.objs.size):aV P w H (h.push { cls:=.type "dict",data:=.dict #[] }) h.objs.size (.dK []) :=
 ⟨ya _,beq_eq_false_iff_ne.mpr (Ne.symm (zy hb)),[],.nil,Heap.DictOf.new h⟩
def NG:TE:=fun _ H Q=>∀p,H p=none→Q (.ref p) (upd H p (.dK []))
section
variable{X:Cx}{pos:Pos}
theorem FK:PE X (.Dict [] [] pos) NG:=fun pins s σ H Q I h =>
 wpAny_Dict_empty ⟨.ref s.heap.objs.size,_,I.laid (a:=s.heap.objs.size) (o:=.dK []) (t':=s.toks) (fun _ _ q=>zb _ q) (zo _) (FJ s.heap I.big),rfl,h _ (I.aH.fresh (zo _))⟩
end
structure M1(X:Cx)(o:Expr)(m:Str)(apos:Pos)(e:Expr)(aQ:Pos):Prop where
 base:attributeBase o m X.env (eval o X.env)=eval o X.env
 E_:((backTo aQ (starEach [e] X.env)).all (fun x=>!x.1) && (backToKw aQ (keywordEach [] X.env)).all (fun x=>x.1.isSome)
  && decide (([e]:List Expr).length+([]:List Keyword).length+(if ([]:List Keyword).isEmpty then 0 else 1)<30))=true
 line:(apos.endLine == aQ.line)=true
 trees:backTo aQ (starEach [e] X.env)=[(false,eval e X.env)]
structure M2(X:Cx)(o:Expr)(m:Str)(apos:Pos)(e f:Expr)(aQ:Pos):Prop where
 base:attributeBase o m X.env (eval o X.env)=eval o X.env
 E_:((backTo aQ (starEach [e,f] X.env)).all (fun x=>!x.1) && (backToKw aQ (keywordEach [] X.env)).all (fun x=>x.1.isSome)
  && decide (([e,f]:List Expr).length+([]:List Keyword).length+(if ([]:List Keyword).isEmpty then 0 else 1)<30))=true
 line:(apos.endLine == aQ.line)=true
 trees:backTo aQ (starEach [e,f] X.env)=[(false,eval e X.env),(false,eval f X.env)]
def Qb(H:Hp)(a:Addr):Prop:=(∃kvs,Rd H a (.dK kvs))∨∃kvs,Rd H a (.dT kvs)
theorem uJ(I:Inv X pins σ H s)(d:Qb H a) :
  s.TypeIs (.ref a) "dict" ∧ (∀b,Value.ref a=.ref b→∃ob,s.heap.get? b=some ob∧ob.dict=none)∧(a == sysModules)=false:=by
 rcases d with ⟨kvs,e⟩|⟨kvs,e⟩
 ·obtain⟨_,hd,vs,_,dd⟩:=oB I.aH e
  refine⟨dd.typeIs,fun b q=>?_,hd⟩
  cases q
  obtain⟨ob,_,_,h1,h2,_⟩:=dd
  exact⟨ob,h1,h2.2.1⟩
 ·obtain⟨_,hd,xs,_,dd⟩:=tV I.aH e
  refine⟨dd.typeIs,fun b q=>?_,hd⟩
  cases q
  obtain⟨ob,_,_,h1,h2,_⟩:=dd
  exact⟨ob,h1,h2.2.1⟩
section
variable{X:Cx}{pins:List (Addr×Obj)}{σ:St}{H:Hp}{s:Shared}{a:Addr}{y d:V}{u r:Value}{o:Option V}{A:Around}{E:Value→Shared→Prop}
theorem NH(hu:A.units+1<cLine)(I:Inv X pins σ H s)(g:oR H a y o)(ry:RelV y u)(h:∀w' s',Inv X pins σ H s'→RelV (o.getD .aw) w'→Q w' s') :
  wpAny (model X.prog X.w) A (call (.builtin "dict.get") [.ref a,u]) Q E s:=by
 rcases g with ⟨kvs,k,e,ey,l⟩|⟨kvs,k,b,e,ey,eb,l⟩
 ·subst ey
  obtain⟨z,hd,vs,rel,dd⟩:=oB I.aH e
  refine call_meetsIn ym dd.typeIs PySem.F.entry_dict_get (PySem.F.args_dict_get_2 _ _) (meets_dict_get (aF X.prog X.w) a (kJ ry) hd) ⟨_,dd.mapOf,h _ _ (I.tok _) ?_⟩
  rw[l]
  exact (rel.val k).getD rfl
 ·subst ey
  cases (show u=Value.ref b from ry)
  obtain⟨z,hd,xs,rel,dd⟩:=tV I.aH e
  refine call_meetsIn ym dd.typeIs PySem.F.entry_dict_get (PySem.F.args_dict_get_2 _ _) (meetsH_dict_get (tupleKind (aF X.prog X.w)) a b hd) ⟨tupleKind_room_in1 hu,k,xs,uH I.aH eb,dd,h _ _ (I.tok _) ?_⟩
  rw[l]
  exact (rel.val k).getD rfl
theorem NI(hu:A.units+1<cLine)(I:Inv X pins σ H s)(g:oR H a y o)(ry:RelV y u)(rd:RelV d r)(h:∀w' s',Inv X pins σ H s'→RelV (o.getD d) w'→Q w' s') :
  wpAny (model X.prog X.w) A (call (.builtin "dict.get") [.ref a,u,r]) Q E s:=by
 rcases g with ⟨kvs,k,e,ey,l⟩|⟨kvs,k,b,e,ey,eb,l⟩
 ·subst ey
  obtain⟨z,hd,vs,rel,dd⟩:=oB I.aH e
  refine call_meetsIn ym dd.typeIs PySem.F.entry_dict_get (PySem.F.args_dict_get_3 _ _ _) (meets_dict_get_default (aF X.prog X.w) a (kJ ry) hd r) ⟨_,dd.mapOf,h _ _ (I.tok _) ?_⟩
  rw[l]
  exact (rel.val k).getD rd
 ·subst ey
  cases (show u=Value.ref b from ry)
  obtain⟨z,hd,xs,rel,dd⟩:=tV I.aH e
  refine call_meetsIn ym dd.typeIs PySem.F.entry_dict_get (PySem.F.args_dict_get_3 _ _ _) (meetsH_dict_get_default (tupleKind (aF X.prog X.w)) a b hd r) ⟨tupleKind_room_in1 hu,k,xs,uH I.aH eb,dd,h _ _ (I.tok _) ?_⟩
  rw[l]
  exact (rel.val k).getD rd
end
def NJ(td ty:TE):TE:=fun σ H Q=>td σ H fun x H1=>∃a,x=.ref a∧Qb H1 a∧ty σ H1 fun y H2=>∃o,oR H2 a y o∧Q (o.getD .aw) H2
def NK(td ty tx:TE):TE:=fun σ H Q=>td σ H fun x H1=>∃a,x=.ref a∧Qb H1 a∧ty σ H1 fun y H2=>tx σ H2 fun z H3=>∃o,oR H3 a y o∧Q (o.getD z) H3
def NL(td ty:TE):TE:=fun σ H Q=>td σ H fun x H1=>∃a,x=.ref a∧Qb H1 a∧ty σ H1 fun y H2=>∃kvs k v,H2 a=some (.dK kvs)∧y=kV k∧fN kvs k=some v∧Q v (upd H2 a (.dK (oz kvs k)))
section
variable{X:Cx}{o e f:Expr}{apos aQ:Pos}{td ty tx:TE}
theorem FL(hu:X.A.units+1<cLine)(ho:PE X o td)(he:PE X e ty)(m:M1 X o "get" apos e aQ):PE X (.Call (.Attribute o "get" apos) [e] [] aQ) (NJ td ty):=by
 intro pins s σ H Q I h
 refine wpAny_Call_method m.base m.E_ m.line PySem.F.plainAttrs_dict ym PySem.F.type_dict_get (bj (ho pins s σ H _ I h) fun u s1 ⟨x,H1,I1,rx,a,ex,d,q1⟩=>?_)
 subst ex
 obtain rfl:u=Value.ref a:=rx
 obtain⟨t1,t2,_⟩:=uJ I1 d
 refine⟨t1,t2,?_⟩
 rw[m.trees]
 refine Calls.callWith_builtin rfl (Calls.evalArgs_plain (yp (bj (he pins s1 σ H1 _ I1 q1) fun iv s2 ⟨y,H2,I2,ry,ov,g,q2⟩=>Calls.spliced_nil ?_)))
 exact NH hu I2 g ry fun w' s3 I3 lU=>⟨_,H2,I3,lU,q2⟩
theorem FN(hu:X.A.units+1<cLine)(ho:PE X o td)(he:PE X e ty)(hf:PE X f tx)(m:M2 X o "get" apos e f aQ):PE X (.Call (.Attribute o "get" apos) [e,f] [] aQ) (NK td ty tx):=by
 intro pins s σ H Q I h
 refine wpAny_Call_method m.base m.E_ m.line PySem.F.plainAttrs_dict ym PySem.F.type_dict_get (bj (ho pins s σ H _ I h) fun u s1 ⟨x,H1,I1,rx,a,ex,d,q1⟩=>?_)
 subst ex
 obtain rfl:u=Value.ref a:=rx
 obtain⟨t1,t2,_⟩:=uJ I1 d
 refine⟨t1,t2,?_⟩
 rw[m.trees]
 refine Calls.callWith_builtin rfl (Calls.evalArgs_plain (yp (bj (he pins s1 σ H1 _ I1 q1) fun iv s2 ⟨y,H2,I2,ry,q2⟩ =>
  yp (bj (hf pins s2 σ H2 _ I2 q2) fun fv s3 ⟨z,H3,I3,rz,ov,g,q3⟩=>Calls.spliced_nil ?_))))
 exact NI hu I3 g ry rz fun w' s4 I4 lU=>⟨_,H3,I4,lU,q3⟩
theorem FO(ho:PE X o td)(he:PE X e ty)(m:M1 X o "pop" apos e aQ):PE X (.Call (.Attribute o "pop" apos) [e] [] aQ) (NL td ty):=by
 intro pins s σ H Q I h
 refine wpAny_Call_method m.base m.E_ m.line PySem.F.plainAttrs_dict PySem.F.slot_dict_pop PySem.F.type_dict_pop (bj (ho pins s σ H _ I h) fun u s1 ⟨x,H1,I1,rx,a,ex,d,q1⟩=>?_)
 subst ex
 obtain rfl:u=Value.ref a:=rx
 obtain⟨t1,t2,_⟩:=uJ I1 d
 refine⟨t1,t2,?_⟩
 rw[m.trees]
 refine Calls.callWith_builtin rfl (Calls.evalArgs_plain (yp (bj (he pins s1 σ H1 _ I1 q1) fun iv s2 ⟨y,H2,I2,ry,kvs,k,v,ea,ey,l,q2⟩=>Calls.spliced_nil ?_)))
 subst ey
 exact RA I2 ea ry l (.inl rfl) fun w' s3 I3 lU=>⟨v,_,I3,lU,q2⟩
end
section
variable{X:Cx}{pins:List (Addr×Obj)}{σ:St}{H:Hp}{s:Shared}{a:Addr}{kvs:List (Key×V)}{A:Around}{E:Value→Shared→Prop}
end
section
variable{X:Cx}{pins:List (Addr×Obj)}{σ:St}{H:Hp}{s:Shared}{a:Addr}{y:V}{u:Value}{A:Around}{E:Value→Shared→Prop}
end
end L2
namespace Att
open PySem PySem.W PySem.Calls PyProof.Rows
theorem oS:∀(ns:List Int) (vs:List Value),WellAll P h vs (ns.map WData.int)→IntsAre vs ns:=by
 intro ns
 induction ns with
 |nil =>
  intro vs w
  rw[List.map_nil] at w
  cases w
  exact .nil
 |cons n ns ih =>
  intro vs w
  rw[zM] at w
  cases w with
  |cons a b =>
   cases a
   exact .cons _ _ (ih _ b)
theorem DF{l:OpenLaw}{n:Nat}(hn:l.most=some n){P:Params}{h:Heap}{args:List WData}{vals:List Value}
  (Jl:l.row.toRowW.claim.pre args=true) (WG:WellAll P h vals args) :
  ∃a vs ns,vals=[Value.ref a]∧args=[WData.list (ns.map WData.int)]∧h.get? a=some { cls:=.type "list",data:=.seq vs.toArray }∧IntsAre vs ns∧ns.length≤n:=by
 have WH:WShape.hasAll [] args [.list .int]=true:=(pre_splitW Jl).1
 have hc:l.pre.holds [] { args:=args }=true:=(pre_splitW Jl).2
 obtain⟨d,r,rfl,h1,h2⟩:=hasAllW_cons WH
 obtain rfl:=hasAllW_nil h2
 obtain⟨xs,rfl,h3⟩:=hasW_list h1
 obtain⟨ns,rfl⟩:=items_int h3
 have hlen:ns.length≤n:=by
  unfold OpenLaw.pre at hc
  have h4:(WTm.not (.lt (.lit (.int (n:Int))) (.len (.arg 0)))).holds [] { args:=[.list (ns.map .int)] }=true:=by
   have h4:=(holds_andW hc).1
   rw[hn] at h4
   exact h4
  have h5:=condW_of h4 (w_not (w_lt w_lit (w_len_list (w_arg rfl))))
  rw[zc] at h5
  refine Nat.le_of_not_lt fun q=>?_
  have q':(n:Int)<((ns.length:Nat):Int):=by lia
  first
   | (rw[zD q'] at h5;exact absurd h5 (by decide))
   | (simp at h5;lia)
 cases WG with
 |cons w1 w2 =>
  cases w2
  cases w1 with
  |list ho WI=>exact⟨_,_,ns,rfl,rfl,ho,oS ns _ WI,hlen⟩
theorem DH(l:OpenLaw)(args:List WData):l.row.toRowW.claim.post args (.bool true) args=true :=
 postW_of (r:=l.row.toRowW) (X:=(true == true))
  (show WShape.has [] (.bool true) .bool=true by first|rfl|decide|simp [WShape.has,WShape.arms,WShape.armsAll])
  (show (WTm.eq .res (.lit (.bool true))).value [] { args:=args,res:=some (.bool true),after:=args }=some (.bool (true == true)) from w_eq_bool (w_res rfl) w_lit) rfl
theorem wG{l:OpenLaw}{n:Nat}{q:Program}{loose:List Str}{XP:(Str→Option Value)→Heap→Prop}{YP:World→Heap→Prop}{d:DefRec}
  (hn:l.most=some n) (WJ:d.params.defaults=[])
  (call:∀(w:World) (cT aW:Shared) (mg mb:Str→Option Value) (fa:Addr) (o:Obj) (pm cd doc:Value) (a:Addr) (vs:List Value) (ns:List Int),
   Ground q loose [] XP w cT mg mb aW.heap→YP w aW.heap →
   aW.heap.get? fa=some o→o.data=.func (docDef d.name d.params d.body d.scope pm cd doc)→aW.heap.CodeRec cd d.name→mg d.name=some (.ref fa) →
   aW.heap.get? a=some { cls:=.type "list",data:=.seq vs.toArray }→IntsAre vs ns→ns.length≤n→aW.gens=#[] →
   codeAny (model l.prog w) callerA (.call (.ref fa) ⟨[.ref a],[]⟩) (fun r s'=>r=.ok (.ret (.bool true))∧OldK aW.heap s'.heap∧s'.os=aW.os∧AllBare s'.gens) aW) :
  WalkO q loose XP YP l.row.toRowW d [] (fun f vs=>PySem.call f vs):=by
 intro w cT aW mg mb G Y fa o pm cd doc dV kV ho hd rY hD NM hg args vals as Jl abO hrd WG hlo
 obtain rfl:dV=.none:=Dflts.none hD WJ
 obtain rfl:kV=.none:=Dflts.noKw hD
 obtain⟨a,vs,ns,rfl,rfl,NN,hints,hlen⟩:=DF hn Jl WG
 refine enter_call (yH (call w cT aW mg mb fa o pm cd doc a vs ns G Y ho (fd_plain hd) rY NM NN hints hlen hg) fun r s' hq=>?_)
 obtain⟨rfl,h2,h3,h4⟩:=hq
 exact⟨.inl ⟨.bool true,.bool true,[],rfl,fun _=>rfl,.bool true,DH l _,fun _=>⟨List.Pairwise.nil,fun _ hm=>(nomatch hm)⟩⟩,h2,h3,h4⟩
section
variable{prog:Program}{w:World}{A:Around}{E:Value→Shared→Prop}{s:Shared}{K:Frag}
end
end Att
namespace L2
open PySem PySem.Spec PyProof.Rows
theorem tW:∀{vs:List Value}{ns:List Int},IntsAre vs ns→Vals (ns.map V.int) vs
 |_,_,.nil=>.nil
 |_,_,.cons n t h=>.cons ⟨t,rfl⟩ (tW h)
def inClass(s:Stmt)(j:Nat):Stmt:=match s with
 |.ClassDef _ _ _ body _ _ _ _ _ _ _=>body.getD j (.Pass ⟨0,0,0,0⟩)
 |_=>.Pass ⟨0,0,0,0⟩
def cB(s:Stmt):Arguments:=match s with
 |.FunctionDef _ a _ _ _ _ _ _ _ _=>a
 |_=>{ posonlyargs:=[],args:=[],vararg:=none,kwonlyargs:=[],kw_defaults:=[],kwarg:=none,defaults:=[] }
def bH(s:Stmt):List Stmt:=match s with
 |.FunctionDef _ _ b _ _ _ _ _ _ _=>b
 |_=>[]
def ae(s:Stmt):Scope:=match s with
 |.FunctionDef _ _ _ _ _ _ sc _ _ _=>sc
 |_=>{ kind:=.function,names:=[],isGenerator:=false,isCoroutine:=false }
abbrev U5:Aw:=fun _ _ _ _ _ _=>False
abbrev E0:XK:=fun _ _ _=>False
structure Fun(K:Frag)(x qual:Str)(st:Stmt)(f:Addr)(fd:FuncData):Prop where
 ex:∃(oc:Value) (od:Option Addr) (kV doc pm:Value) (an:Option Addr) (gq ct:Value) (Np:Array (Option Value)),
  fd=fnOf x qual (cB st) (bH st) (ae st) .none kV doc pm an gq ct∧K.lookup f=some ⟨oc,od,.func fd,Np⟩∧codeIn K gq qual=true
 kp:keepIn K (.ref f)=true
section
variable{P:Program}{w:World}{K:Frag}{mg:Str→Option Value}{base:Heap}
end
theorem gI(h:n≤1000):n<sizeLine:=Nat.lt_of_le_of_lt h (by decide)
section
variable{X:Cx}
theorem DJ:dq X (.builtin "len") (fun xs H Q=>∃a kvs,xs=[V.ref a]∧H a=some (.dK kvs)∧Q (.int kvs.length) H):=by
 intro pins s σ H xs us Q I r h
 obtain⟨a,kvs,rfl,ha,q⟩:=h
 obtain⟨u,rfl,ru⟩:=vals1 r
 cases ru
 exact RB I (.inl ha) fun t s' I'=>⟨.int kvs.length,H,I',⟨t,rfl⟩,q⟩
end
theorem eO{A B:Prop}(h:B):if false=true then A else B:=by
 rw[if_neg zd]
 exact h
theorem dh{A B:Prop}(h:A):if true=true then A else B:=by
 rw[if_pos rfl]
 exact h
section
variable{κ:Type}[DecidableEq κ]
theorem lY:∀{l:List κ}{k:κ},l.Nodup→¬ k∈l→(l++[k]).Nodup
 |[],k,_,_=>by simp
 |a::r,k,h,hk=>by
  obtain⟨h1,h2⟩:=yn.mp h
  show (a::(r++[k])).Nodup
  refine yn.mpr ⟨fun m=>?_,lY h2 fun m=>hk (ze.mpr (Or.inr m))⟩
  rcases zC.mp m with q|q
  ·exact h1 q
  ·exact hk (ze.mpr (Or.inl (zi.mp q).symm))
end
end L2
set_option maxHeartbeats 4000000
namespace L2
open PySem PySem.Spec PyProof.Rows
section
variable{X:Cx}
def Fc(i j:Str):Bool:=!decide (j.cps.toList<i.cps.toList)
def WK(i j:Str):Bool:=decide (i.cps.toList<j.cps.toList)
def WL(g:Str→Str→Bool):R2:=fun x y H Q=>∃i j,x=.str i∧y=.str j∧Q (.bl (g i j)) H
theorem DK:gp X (compareOp .LtE) (WL Fc):=by
 intro pins s σ H x y v u Q I rx ry h
 obtain⟨i,j,rfl,rfl,q⟩:=h
 obtain⟨t,rfl⟩:=rx
 obtain⟨t',rfl⟩:=ry
 exact P.le_str (aI I q rfl)
theorem DL:gp X (compareOp .GtE) (WL fun i j=>Fc j i):=by
 intro pins s σ H x y v u Q I rx ry h
 obtain⟨i,j,rfl,rfl,q⟩:=h
 obtain⟨t,rfl⟩:=rx
 obtain⟨t',rfl⟩:=ry
 exact P.ge_str (aI I q rfl)
theorem DM:gp X (compareOp .Gt) (WL fun i j=>WK j i):=by
 intro pins s σ H x y v u Q I rx ry h
 obtain⟨i,j,rfl,rfl,q⟩:=h
 obtain⟨t,rfl⟩:=rx
 obtain⟨t',rfl⟩:=ry
 exact P.gt_str (aI I q rfl)
def LC(_ j:Int):Prop:=0<j∧j.natAbs.log2<9000
theorem FP:gp X (binaryOp .FloorDiv) (rI LC fun i j=>.int (i / j)):=UX fun i j _ _ _ _ _ hc q=>by
 have hj:j≠0:=by have:=hc.1;omega
 exact floordiv_int hj (by rw[Int.fdiv_eq_ediv_of_nonneg _ (by have:=hc.1;omega)];exact q) (.inl (PyProof.noPylong_of_log2 hc.2))
end
def WM(x:Str):It:=⟨fun i _=>i<x.cps.size,fun i H v H'=>H'=H∧∃c,x.cps[i]?=some c∧v=.str ⟨#[c]⟩,fun i _=>x.cps.size≤i⟩
theorem wH{P:Program}{w:World}{K:Frag}{tg:Expr}{T:String}(hT:["enumerate","zip","dict_itemiterator","dict_reverseitemiterator","odict_iterator","itertools.zip_longest","itertools.pairwise"].contains T=false)(it:Addr)(x:Str)(t:Tok)
  (W:∀A':Around,A'.handled=none→Walks P w A' it [it] [it] x.cps.size (SignAt x) (fun i h=>h.IsStrIter it T x t i))
  (WN:∀(A:Around) (s:Shared) (E:Value→Shared→Prop) (i:Nat) (Q:Option Value→Shared→Prop),A.handled=none→s.heap.IsStrIter it T x t i→x.cps[i]?=none→(∀h',Heap.ExtBut it s.heap h'→Q none { s with heap:=h' })→wpAny (model P w) A (pyNext (.ref it)) Q E s)
  (RD:∀(A:Around) (s:Shared) (E:Value→Shared→Prop) (i:Nat) (Q:Value→Shared→Prop),s.heap.IsStrIter it T x t i→Q (.ref it) s→wpAny (model P w) A (pyIter (.ref it)) Q E s) :
  Turn P w K tg (WM x) [it] it (fun i h=>h.IsStrIter it T x t i) where
 mem:=by simp
 obj:=fun i h st b hb=>by
  have e:b=it:=by simpa using hb
  subst e
  obtain⟨o,e,c,d⟩:=st
  exact⟨o,e,fun v z=>by rw[d] at z;cases z⟩
 keep:=fun i h h' st k=>by
  obtain⟨o,e,c,d⟩:=st
  exact⟨o,k it (by simp) o e,c,d⟩
 item:=by
  intro X hP hw hK hc i pins s σ H E I hf st hg
  subst hP hw hK
  obtain⟨f0,f1,f2,f3,f4,f5⟩:=hf it (by simp)
  refine (W X.A (I.ok.hd hc)).item i s _ _ hg st fun v h' tk hv eM kk=>?_
  obtain⟨c,u,Jm,rfl⟩:=hv
  have I1:Inv X pins σ H { s with heap:=h',toks:=tk }:=I.turned (fun b o hb e=>kk b o (by simpa using hb) e) f0 f1 f3 f4 f5
  obtain⟨o,e,c',d⟩:=id eM
  exact⟨_,rfl,tM (s:={ s with heap:=h',toks:=tk }) e c' d hT ⟨.str ⟨#[c]⟩,H,I1,⟨u,rfl⟩,⟨rfl,c,Jm,rfl⟩,eM,fun b hb=>(hf b hb).1⟩⟩
 done:=by
  intro X hP hw hK hc i pins s σ H E I hf st hg
  subst hP hw hK
  obtain⟨f0,f1,f2,f3,f4,f5⟩:=hf it (by simp)
  have hg:x.cps.size≤i:=hg
  exact WN X.A s E i _ (I.ok.hd hc) st (by simp;exact hg) fun h' eb=>⟨rfl,I.turned (t':=s.toks) (fun b o hb e=>eb b o hb e) f0 f1 f3 f4 f5⟩
 self:=fun A' i s Q E st h=>RD A' s E i Q st h
section
variable{X:Cx}{tg:Expr}
def WO(tl:TE):TI:=fun σ H R=>tl σ H fun x H1=>∃z,x=.str z∧R (WM z) H1
theorem NO(hl:PE X l tl):PI X tg l (WO tl):=by
 intro pins s σ H R I h
 refine bj (hl pins s σ H _ I h) fun v s1 ⟨x,H1,I1,r1,q1⟩=>?_
 obtain⟨z,e,q⟩:=q1
 subst e
 obtain⟨t,rfl⟩:=r1
 have fin:∀(T:String) (_:Turn X.prog X.w X.K tg (WM z) [s1.heap.objs.size] s1.heap.objs.size (fun i h=>h.IsStrIter s1.heap.objs.size T z t i)),
   Wb X pins σ tg R (.ref s1.heap.objs.size) { s1 with heap:=s1.heap.push { cls:=.type T,data:=.fields #[.str z t,.int 0 0] } }:=fun T tn=>by
  refine⟨s1.heap.objs.size,[s1.heap.objs.size],_,_,H1,rfl,I1.kept (t':=s1.toks) fun b o e=>zb _ e,tn,⟨_,zq _ rfl,rfl,rfl⟩,fun b hb=>?_,q⟩
  have e:b=s1.heap.objs.size:=by simpa using hb
  subst e
  exact I1.pY (zo _) (I1.aH.fresh (zo _))
 cases ha:z.cps.all (·<128)
 ·exact wpAny_pyIter_wide ha (fin _ (wH (by decide) _ z t (fun A' hA=>Walks.strWide hA _ z t) (fun A s E i Q hh st hx hQ=>wpAny_pyNext_wide_end hh st hx hQ) (fun A s E i Q st hq=>wpAny_pyIter_striter_wide st hq)))
 ·exact wpAny_pyIter_ascii ha (fin _ (wH (by decide) _ z t (fun A' hA=>Walks.strAscii hA _ z t) (fun A s E i Q hh st hx hQ=>wpAny_pyNext_ascii_end hh st hx hQ) (fun A s E i Q st hq=>wpAny_pyIter_striter_ascii st hq)))
end
def clOf(cells:List (Str×Addr))(names:List (Str×NameKind)):List (Str×Addr) :=
 names.foldl (fun cs p=>if p.2 == .free then match cells.lookup p.1 with|some a=>(p.1,a)::cs|none=>cs else cs) []
theorem qk(cells:List (Str×Addr)):∀(names:List (Str×NameKind)) (cs:List (Str×Addr)),(∀x c,cs.lookup x=some c→cells.lookup x=some c) →
  ∀x c,(names.foldl (fun cs p=>if p.2 == .free then match cells.lookup p.1 with|some a=>(p.1,a)::cs|none=>cs else cs) cs).lookup x=some c→cells.lookup x=some c
 |[],cs,h=>h
 | (n,k)::r,cs,h=>by
  rw[yu]
  refine qk cells r _ fun x c e=>?_
  dsimp only at e
  split at e
  ·split at e
   ·rename_i a ha
    rw[zJ] at e
    split at e
    ·rename_i hx
     have:=LawfulBEq.eq_of_beq hx
     cases e
     rw[this]
     exact ha
    ·exact h x c e
   ·exact h x c e
  ·exact h x c e
theorem tX(cells:List (Str×Addr)):∀(names:List (Str×NameKind)) (cs:List (Str×Addr)) (x:Str) (c:Addr),(∀y c,cs.lookup y=some c→cells.lookup y=some c)→cs.lookup x=some c →
  (names.foldl (fun cs p=>if p.2 == .free then match cells.lookup p.1 with|some a=>(p.1,a)::cs|none=>cs else cs) cs).lookup x=some c
 |[],cs,x,c,_,h=>h
 | (n,k)::r,cs,x,c,hs,h=>by
  rw[yu]
  have U6:∀y c,(if (k == NameKind.free)=true then match cells.lookup n with|some a=>(n,a)::cs|none=>cs else cs).lookup y=some c→cells.lookup y=some c:=by
   intro y c e
   split at e
   ·split at e
    ·rename_i a ha
     rw[zJ] at e
     split at e
     ·rename_i hx
      have:=LawfulBEq.eq_of_beq hx
      cases e
      rw[this]
      exact ha
     ·exact hs y c e
    ·exact hs y c e
   ·exact hs y c e
  refine tX cells r _ x c U6 ?_
  dsimp only
  split
  ·split
   ·rename_i a ha
    rw[zJ]
    split
    ·rename_i hx
     have:=LawfulBEq.eq_of_beq hx
     rw[this] at h
     have:=hs _ _ h
     rw[ha] at this
     exact this
    ·exact h
   ·exact h
  ·exact h
theorem i0(cells:List (Str×Addr)):∀(names:List (Str×NameKind)) (cs:List (Str×Addr)) (x:Str) (c:Addr),(∀y c,cs.lookup y=some c→cells.lookup y=some c)→(x,NameKind.free)∈names→cells.lookup x=some c →
  (names.foldl (fun cs p=>if p.2 == .free then match cells.lookup p.1 with|some a=>(p.1,a)::cs|none=>cs else cs) cs).lookup x=some c
 |[],cs,x,c,_,h,_=>nomatch h
 | (n,k)::r,cs,x,c,hs,h,hc=>by
  rw[yu]
  have U6:∀y c,(if (k == NameKind.free)=true then match cells.lookup n with|some a=>(n,a)::cs|none=>cs else cs).lookup y=some c→cells.lookup y=some c:=by
   intro y c e
   split at e
   ·split at e
    ·rename_i a ha
     rw[zJ] at e
     split at e
     ·rename_i hx
      have:=LawfulBEq.eq_of_beq hx
      cases e
      rw[this]
      exact ha
     ·exact hs y c e
    ·exact hs y c e
   ·exact hs y c e
  rcases ze.mp h with e|h
  ·cases e
   refine tX cells r _ _ c U6 ?_
   dsimp only
   rw[if_pos (show (NameKind.free == NameKind.free)=true by decide),hc]
   simp [zJ]
  ·exact i0 cells r _ x c U6 h hc
theorem gr{scope:Scope}{env:Env}(h:∀x∈scope.names,x.2=.free→∃c,env.cells.lookup x.1=some c):closureFor scope env=pure (clOf env.cells scope.names):=by
 have go:∀(names:List (Str×NameKind)) (cs:List (Str×Addr)),(∀x∈names,x.2=.free→∃c,env.cells.lookup x.1=some c) →
   (forIn names cs fun x r=>match x with|(name,kind)=>if (kind == NameKind.free)=true then do let a ← cellOf env name;pure (ForInStep.yield ((name,a)::r)) else pure (ForInStep.yield r):Sem (List (Str×Addr))) =
    pure (names.foldl (fun cs p=>if p.2 == .free then match env.cells.lookup p.1 with|some a=>(p.1,a)::cs|none=>cs else cs) cs):=by
  intro names
  induction names with
  |nil=>intro cs _;rfl
  |cons p r ih =>
   intro cs hp
   obtain⟨n,k⟩:=p
   rw[List.forIn_cons,yu]
   by_cases hk:k=.free
   ·subst hk
    obtain⟨c,hc⟩:=hp _ zx rfl
    have hc:env.cells.lookup n=some c:=hc
    have e1:cellOf env n=pure c:=by unfold cellOf;rw[hc]
    have ef:(NameKind.free == NameKind.free)=true:=by decide
    dsimp only
    rw[if_pos ef,if_pos ef,e1,hc]
    exact ih _ fun x hx=>hp x (zp _ hx)
   ·have Jn:(k == NameKind.free)=false:=by simpa using hk
    dsimp only
    rw[Jn,if_neg zd,if_neg zd]
    exact ih _ fun x hx=>hp x (zp _ hx)
 have e:=go scope.names [] h
 have e2:closureFor scope env=(forIn scope.names [] (fun x r=>match x with|(name,kind)=>if (kind == NameKind.free)=true then do let a ← cellOf env name;pure (ForInStep.yield ((name,a)::r)) else pure (ForInStep.yield r)):Sem (List (Str×Addr))) >>= fun cs=>pure cs:=rfl
 rw[e2,e]
 rfl
theorem i3{env:Env}{names:List (Str×NameKind)}{x:Str} :
  (names.map fun (n,k)=>if (k == NameKind.free && env.scope.kind == .function && env.kindOf n == some .cell) then (n,NameKind.cell) else (n,k)).lookup x =
   (names.lookup x).map fun k=>if (k == NameKind.free && env.scope.kind == .function && env.kindOf x == some .cell) then NameKind.cell else k:=by
 induction names with
 |nil=>rfl
 |cons p r ih =>
  obtain⟨n,k⟩:=p
  rw[zM,zJ]
  by_cases hc:(k == NameKind.free && env.scope.kind == .function && env.kindOf n == some .cell)=true
  ·dsimp only
   rw[if_pos hc,zJ]
   cases hx:x == n with
   |true =>
    have:=LawfulBEq.eq_of_beq hx
    subst this
    dsimp only [Option.map]
    rw[if_pos hc]
   |false=>exact ih
  ·dsimp only
   rw[if_neg hc,zJ]
   cases hx:x == n with
   |true =>
    have:=LawfulBEq.eq_of_beq hx
    subst this
    dsimp only [Option.map]
    rw[if_neg hc]
   |false=>exact ih
def iG(X:Cx)(N:List Str)(scope:Scope)(C:Addr)(s:Shared)(H:Hp)(ex:List Addr)(pn:List (Addr×Obj)):Cx :=
 { X with N:=N,cT:=s,uB:=H,env:=compEnvC scope (clOf X.env.cells scope.names) C X.env,outer:=X.stack,ex:=ex,fn:=fun _=>false,pn:=pn,xe:=fun _ _=>False }
def pick(σ:St)(src:List (Option Nat)):St:=src.map fun o=>match o with|some j=>(σ[j]?).join|none=>none
structure bM(X:Cx)(N:List Str)(src:List (Option Nat))(scope:Scope):Prop where
 kind:scope.kind=.function
 gu:∀y∈scope.names,y.2≠.cell
 loc:∀y∈scope.names,y.2=.local→scope.names.lookup y.1=some .local
 AE:∀y∈scope.names,y.2=.free→X.env.kindOf y.1=some .cell∨X.env.kindOf y.1=some .free
 len:src.length=N.length
 src:∀(i j:Nat) (x:Str),src[i]?=some (some j)→N[i]?=some x→X.N[j]?=some x∧scope.names.lookup x=some .free∧P7 X.env.scope x
def Ext(σ aD:St):Prop:=aD.length=σ.length∧∀(j:Nat) v,σ[j]?=some (some v)→aD[j]?=some (some v)
def AF(g:TG)(src:List (Option Nat)):Prop:=∀x σ H Q,g x (pick σ src) H Q→g x (pick σ src) H fun aD H'=>Ext (pick σ src) aD∧Q aD H'
def FQ(wi:TI)(src:List (Option Nat))(g:TG)(tc:TT)(te:TE):TE:=fun σ H Q=>wi σ H fun J H1 =>
 ∃W:Nat→Nat→List V→Hp→Prop,(∃m,W 0 m [] H1)∧∀i m out H',W i m out H' →
  (J.stop i H'∧∀D,H' D=none→Q (.ref D) (upd H' D (.lst out))) ∨
  (J.go i H'∧out.length<sizeLine∧∀x H2,J.Q2 i H' x H2→g x (pick σ src) H2 fun g8 H3=>tc g8 H3 fun b H4 =>
   if b=true then te g8 H4 fun v H5=>∃m',m'<m∧W (i+1) m' (out++[v]) H5 else ∃m',m'<m∧W (i+1) m' out H4)
section
variable{X:Cx}{N:List Str}{src:List (Option Nat)}{scope:Scope}{tg iter elt:Expr}{ifs:List Expr}{pos:Pos}{wi:TI}{g:TG}{tc:TT}{te:TE}
def Qc(X:Cx)(ifs:List Expr)(t:TT):Prop :=
 ∀(pins:List (Addr×Obj)) (s:Shared) (σ:St) (H:Hp) (Q:Bool→Hp→Prop),Inv X pins σ H s→t σ H Q →
  wpAny (model X.prog X.w) X.A (forIn ifs true fun c r=>if r=true then do let ok ← isTrue c X.env (eval c X.env);pure (ForInStep.yield ok) else pure (ForInStep.yield r)) (TP X pins σ Q) X.xe s
def RE:TT:=fun _ H Q=>Q true H
theorem Jo:Qc X [] RE:=fun pins s σ H Q I h=>wpAny_tests_nil ⟨H,I,h⟩
theorem Jp(h:PT X c t):Qc X [c] t:=fun pins s σ H Q I hw=>wpAny_tests_one (h pins s σ H Q I hw)
theorem km(Qe:∀x s',EE x s'→notedBy (model prog w) A env (fun e s'=>R (.error e) s') x s')(I:Nat→Shared→Prop)
  (turn:∀n s,I n s→wpAny (model prog w) A (pyNext it) (fun r aW=>match r with
   |none=>R (.ok .next) aW
   |some v=>wpAny (model prog w) A (letOwnedTupleGo target it v) (fun _ LD=>wpAny (model prog w) A (assign target env v) (fun _ bW =>
     wpAny (model prog w) A (forIn ifs true fun c r=>if r=true then do let ok ← isTrue c env (eval c env);pure (ForInStep.yield ok) else pure (ForInStep.yield r)) (fun ok Aj =>
      if ok=true then wpAny (model prog w) A (eval elt env) (fun x wI =>
       wpAny (model prog w) A (call (.builtin "list.append") [acc,x]) (fun _ RF=>∃m,m<n∧I m RF) EE wI) EE Aj
      else ∃m,m<n∧I m Aj) EE bW) EE LD) EE aW) EE s)
  (n:Nat) (h:I n s) :
  codeAny (model prog w) A (.compLoop (.ListComp elt [⟨target,iter,ifs,0⟩] scope pos) 0 it acc env) R s:=by
 refine codeAny_loop rfl I (fun n s hI=>?_) n h
 show wpAny _ A ((compTurn (.ListComp elt [⟨target,iter,ifs,0⟩] scope pos) 0 it acc env).onRaise (fun x=>do noteFrame x env;theTreesLotGoes x)) _ _ s
 refine wpAny_noted ?_
 rw[compTurn_list]
 refine za (wpAny_standAt (za (yh (turn n s hI) (fun r aW h₁=>?_) Qe)))
 cases r with
 |none=>exact zg h₁
 |some v =>
  refine za (yh h₁ (fun _ LD RG=>?_) Qe)
  refine za (yh RG (fun _ bW WQ=>za (yh WQ (fun ok Aj RH=>?_) Qe)) Qe)
  cases ok with
  |false=>exact zg ⟨rfl,RH⟩
  |true =>
   exact za (za (yh RH (fun x wI WR=>za (yh WR (fun _ RF WS=>zg (zg ⟨rfl,WS⟩)) Qe)) Qe))
def CompEnd(X:Cx)(pins:List (Addr×Obj))(σ:St)(Q:VK)(D C:Addr)(s':Shared):Prop :=
 ∃H' m,Inv X pins σ H' s'∧Q (.ref D) H'∧s'.heap.Ns C m∧H' C=none∧C≠X.env.locals∧X.cT.heap.objs.size≤C∧(∀x c,X.env.cells.lookup x=some c→c≠C)∧(∀p∈X.pn++pins,p.1≠C)
theorem tY{pins:List (Addr×Obj)}{bW:Shared}{σ:St}{iS:Hp}{Q:VK}{it:Addr}{fp:List Addr}{tn:Nat→Heap→Prop}{J:It}{E:Value→Shared→Prop}(S:bM X N src scope)(hc:X.calm=true)
  (hg:∀C s H ex pn,PG (iG X N scope C s H ex pn) tg g) (hx:AF g src) (hi:∀C s H ex pn,Qc (iG X N scope C s H ex pn) ifs tc) (he:∀C s H ex pn,PE (iG X N scope C s H ex pn) elt te)
  (I:Inv X pins σ iS bW) (T:Turn X.prog X.w X.K tg J fp it tn) (st:tn 0 bW.heap) (ff:∀b∈fp,pX X pins iS b)
  (W:Nat→Nat→List V→Hp→Prop) (w0:∃m,W 0 m [] iS)
  (turn:∀i m out H',W i m out H'→(J.stop i H'∧∀D,H' D=none→Q (.ref D) (upd H' D (.lst out))) ∨
   (J.go i H'∧out.length<sizeLine∧∀x H2,J.Q2 i H' x H2→g x (pick σ src) H2 fun g8 H3=>tc g8 H3 fun b H4 =>
    if b=true then te g8 H4 fun v H5=>∃m',m'<m∧W (i+1) m' (out++[v]) H5 else ∃m',m'<m∧W (i+1) m' out H4))
  {RR:Value→Addr→Result→Shared→Prop} (hRR:∀D C s',CompEnd X pins σ Q D C s'→RR (.ref D) C (.ok .next) s') :
  wpAny (model X.prog X.w) X.A (newList []) (fun acc Aj=>wpAny (model X.prog X.w) X.A (newFunctionEnv scope X.env.globals (clOf X.env.cells scope.names) [] X.env.qual none .none (some X.env)) (fun RJ wI =>
   codeAny (model X.prog X.w) X.A (.compStart (.ListComp elt [⟨tg,iter,ifs,0⟩] scope pos) 0 (.ref it) acc { RJ with scope:=relabel scope X.env }) (RR acc RJ.locals) wI) E Aj) E bW:=by
 refine yf (wpAny_newFunctionEnv S.gu (by intro y hy;simp at hy) (fun h₁ uK ql=>?_) S.kind)
 dsimp only at uK ql ⊢
 generalize WT:bW.heap.push { cls:=.type "list",dict:=none,data:=.seq ([]:List Value).toArray }=G2 at uK ql ⊢
 have hC:G2.objs.size=bW.heap.objs.size+1:=by rw[← WT,yk]
 have Qf:bW.heap.objs.size≠G2.objs.size:=by rw[hC];exact zy (Nat.lt_succ_self _)
 have Jq:bW.heap.objs.size≤G2.objs.size:=by rw[hC];exact yI _
 have old:∀b o,bW.heap.get? b=some o→h₁.get? b=some o:=fun b o e =>
  ql.extBut b o (zy (zk (zt e) Jq)) (zb _ (WT ▸ zb _ e))
 have qm:h₁.get? bW.heap.objs.size=some { cls:=.type "list",dict:=none,data:=.seq ([]:List Value).toArray }:=ql.extBut _ _ Qf (zb _ (WT ▸ zq _ rfl))
 generalize hCC:G2.objs.size=C at hC Qf Jq uK ql ⊢
 have lZ:bW.heap.objs.size≤C:=Jq
 generalize hD:bW.heap.objs.size=D at hC Qf Jq qm ⊢
 have iH:∀x c,(clOf X.env.cells scope.names).lookup x=some c→X.env.cells.lookup x=some c:=qk X.env.cells scope.names [] (by intro x c h;simp at h)
 have FR:∀x c,X.env.cells.lookup x=some c→c<bW.heap.objs.size:=fun x c e=>by obtain⟨v,q⟩:=I.cell x c e;exact q.lt
 have NP:∀b∈fp,b<bW.heap.objs.size:=fun b hb=>by
  obtain⟨o,e,_⟩:=T.obj _ _ st b hb
  exact zt e
 -- the block's context
 have ok:(iG X N scope C bW iS fp (X.pn++pins)).Ok:=by
  refine⟨I.ok.mod,S.kind,I.ok.glob,I.ok.blt,lZ,fun x y c h1 h2=>I.ok.inj x y c (iH _ _ h1) (iH _ _ h2),fun x hk=>?_,fun x c h=>(nomatch h),I.ok.hd,I.ok.frames,.inl rfl,fun b hb=>⟨?_,fun x c h=>?_⟩,
   I.bs,zL I.ok.Df I.sz,fun b o e hb=>?_,fun b hb hf=>?_,I.stack,I.pG⟩
  ·-- cells for the names
   have hk:(relabel scope X.env).names.lookup x=some .cell∨(relabel scope X.env).names.lookup x=some .free:=hk
   unfold relabel at hk
   dsimp only at hk
   rw[i3] at hk
   cases hl:scope.names.lookup x with
   |none=>rw[hl] at hk;rcases hk with z|z <;> cases z
   |some k =>
    rw[hl] at hk
    have hm:=zY hl
    have RK:k=.free:=by
     by_cases RK:k=.free
     ·exact RK
     ·exfalso
      have e1:(k == NameKind.free)=false:=by simpa using RK
      simp only [Option.map,e1,zR,Bool.false_eq_true,if_false] at hk
      rcases hk with z|z
      ·exact S.gu _ hm (zS z)
      ·exact RK (zS z)
    subst RK
    obtain⟨c,Jm⟩:=I.ok.has x (S.AE _ hm rfl)
    exact⟨c,i0 X.env.cells scope.names [] x c (by intro x c h;simp at h) hm Jm⟩
  ·exact zy (zk (NP b hb) lZ)
  ·exact (ff b hb).2.2.2.2.1 x c (iH _ _ h)
  ·have q:b∈X.ex∨X.cT.heap.objs.size≤b:=(ff b hb).2.2.2.1
   rcases q with q|q
   ·exact I.ok.Ag b o e q
   ·exact absurd (zk (zt e) (zL I.ok.Df q)) (yr _)
  ·rcases ze.mp (I.mW b hf) with z|z
   ·exact (ff b hb).2.1 z
   ·exact (ff b hb).2.2.1 z
 have RL:∀p∈X.pn++pins,p.1∉lP X.stack:=fun p hp z=>by
  obtain⟨_,_,ne,nf,_⟩:=I.pin p hp
  rcases ze.mp (I.mW _ z) with q|q
  ·exact ne q
  ·exact nf q
 have FT:∀p∈X.pn++pins,p.1<bW.heap.objs.size:=fun p hp=>zt (I.pin p hp).1
 have RM:∀b∈lP X.stack,b<bW.heap.objs.size:=fun b hb=>by
  rcases ze.mp (I.mW b hb) with z|z
  ·rw[z];exact I.lt
  ·obtain⟨_,o,ho,_⟩:=I.ok.kj.mem z
   exact zk (zt ho) I.sz
 have WU:∀(i:Nat) (x:Str) (v:V),N[i]?=some x→(pick σ src)[i]?=some (some v)→∃u c,RelV v u∧(clOf X.env.cells scope.names).lookup x=some c∧bW.heap.IsCell c (some u)∧scope.names.lookup x=some .free:=fun i x v e1 e2=>by
  unfold pick at e2
  rw[zB] at e2
  cases es:src[i]? with
  |none=>rw[es] at e2;cases e2
  |some o =>
   rw[es] at e2
   cases o with
   |none=>cases e2
   |some j =>
    have e3:(σ[j]?).join=some v:=zS e2
    have e4:σ[j]?=some (some v):=by
     cases q:σ[j]? with
     |none=>rw[q] at e3;cases e3
     |some z=>rw[q] at e3;exact congrArg some e3
    obtain⟨a1,a2,a3⟩:=S.src i j x es e1
    obtain⟨m0,_,hl⟩:=I.loc
    obtain⟨u,r,l⟩:=hl j x v a1 e4 a3
    have hm:=zY a2
    have hk:=S.AE _ hm rfl
    rcases l with ⟨k,_⟩|⟨_,c,Jm,z⟩
    ·rcases hk with hk|hk <;> (rw[k] at hk;cases hk)
    ·exact⟨u,c,r,i0 X.env.cells scope.names [] x c (by intro x c h;simp at h) hm Jm,z,a2⟩
 have kinds:∀x,scope.names.lookup x=some .free→(compEnvC scope (clOf X.env.cells scope.names) C X.env).kindOf x=some .cell∨(compEnvC scope (clOf X.env.cells scope.names) C X.env).kindOf x=some .free:=fun x hx=>by
  show (relabel scope X.env).names.lookup x=some .cell∨(relabel scope X.env).names.lookup x=some .free
  unfold relabel
  dsimp only
  rw[i3,hx]
  dsimp only [Option.map]
  split
  ·exact .inl rfl
  ·exact .inr rfl
 have Ic:Inv (iG X N scope C bW iS fp (X.pn++pins)) [] (pick σ src) iS { bW with heap:=h₁,toks:=bW.toks+([]:List (Str×Value)).length }:=by
  refine⟨ok,rfl,I.bare,Un.kept old,⟨_,uK,fun i x v e1 e2 e3=>?_⟩,fun x c e=>?_,I.aH.fresh lZ,fun x c e=>I.dm x c (iH x c e),fun p hp=>?_,I.aH.kept old,?_⟩
  ·obtain⟨u,c,r,e5,⟨o,ho,hd⟩,hf⟩:=WU i x v e1 e2
   exact⟨u,r,.inr ⟨kinds x hf,c,e5,⟨o,old _ _ ho,hd⟩⟩⟩
  ·obtain⟨v,o,ho,hd⟩:=I.cell x c (iH x c e)
   exact⟨v,o,old _ _ ho,hd⟩
  ·have hp:p∈X.pn++pins:=by simpa [iG] using hp
   obtain⟨e,n,_,_,d⟩:=I.pin p hp
   exact⟨old _ _ e,n,zy (zk (FT p hp) lZ),RL p hp,d⟩
  ·show (pick σ src).length=N.length
   unfold pick
   rw[zc,S.len]
 have wJ:bW.heap.objs.size≤D:=Nat.le_of_eq hD
 have NQ:D∉lP X.stack:=fun z=>absurd (zk (RM D z) wJ) (yr _)
 have LF:D∉fp:=fun z=>absurd (zk (NP D z) wJ) (yr _)
 have pY:∀{pl:List (Addr×Obj)}{H':Hp},(∀b∈fp,H' b=none)→(∀p∈pl,p.1∉fp)→∀b∈fp,pX (iG X N scope C bW iS fp (X.pn++pins)) pl H' b:=fun {pl H'} hn eT b hb=>by
  obtain⟨f0,f1,f2,f3,f4,f5⟩:=ff b hb
  refine⟨hn b hb,zy (zk (NP b hb) lZ),fun z=>?_,.inl hb,fun x c e=>f4 x c (iH x c e),fun p hp=>?_⟩
  ·rcases ze.mp (I.mW b z) with q|q
   ·exact f1 q
   ·exact f2 q
  ·have hp:p∈(X.pn++pins)++pl:=hp
   rcases zC.mp hp with hp|hp
   ·exact f5 p hp
   ·exact fun z=>eT p hp (z ▸ hb)
 -- back in the def's own frame
 have back:∀{s':Shared}{H':Hp}{out:List V}{ax:List Value}{nn:Nat}{aD:St},Inv (iG X N scope C bW iS fp (X.pn++pins)) [] aD H' s'→H' D=none→out.length≤sizeLine→Vals out ax →
   s'.heap.get? D=some { cls:=.type "list",data:=.seq ax.toArray nn }→(∀D,H' D=none→Q (.ref D) (upd H' D (.lst out)))→CompEnd X pins σ Q D C s':=fun {s' H' out ax nn aD} I' hn hl hv ho q=>by
  obtain⟨m,hm,_⟩:=I'.loc
  have un:Un (lP X.stack) fp iS H' bW.heap s'.heap:=I'.base
  have neD:∀b o,bW.heap.get? b=some o→b≠D:=fun b o e=>zy (zk (zt e) wJ)
  have fD:iS D=none:=I.aH.fresh wJ
  refine⟨upd H' D (.lst out),m,?_,q D hn,hm,by rw[ao (Ne.symm Qf)];exact I'.free,yj (zk I.lt lZ),zL I.sz lZ,fun x c e=>zy (zk (FR x c e) lZ),fun p hp=>zy (zk (FT p hp) lZ)⟩
  refine I.Fj (ch:=fp) I'.os ⟨un.keep,un.slot,fun b o e n hb=>?_,un.there,fun b xs e=>?_,fun b o u e=>?_,fun b ps e=>?_⟩ (fun b o e=>?_) I'.bare fun b hb=>?_
  ·rw[ao (neD b o e)];exact un.free b o e n hb
  ·rw[ao (ar e fD)];exact un.gk b xs e
  ·rw[ao (ar e fD)];exact un.fL b o u e
  ·rw[ao (ar e fD)];exact un.fM b ps e
  ·by_cases hb:b=D
   ·subst hb
    rw[aB] at e
    cases e
    exact⟨hl,ax,nn,hv,ho⟩
   ·rw[ao hb] at e
    refine (I'.aH b o e).lO (fun c v _ q=>q) (fun c q=>?_) fun c xs q=>?_
    ·rw[ao (ar q hn)];exact q
    ·rw[ao (ar q hn)];exact q
  ·obtain⟨f0,f1,f2,f3,f4,f5⟩:=ff b hb
   exact⟨f3,f1,f4,f5⟩
 obtain⟨m0,w0⟩:=w0
 have loop:∀wI:Shared,wI={ bW with heap:=h₁,toks:=bW.toks+([]:List (Str×Value)).length } →
   codeAny (model X.prog X.w) X.A (.compLoop (.ListComp elt [⟨tg,iter,ifs,0⟩] scope pos) 0 (.ref it) (.ref D) (compEnvC scope (clOf X.env.cells scope.names) C X.env)) (RR (.ref D) C) wI:=by
  rintro wI rfl
  refine km (EE:=fun _ _=>False) (fun _ _ f=>f.elim) (fun n s'=>∃i out ax nn H',Inv (iG X N scope C bW iS fp (X.pn++pins)) [] (pick σ src) H' s'∧H' D=none∧out.length≤sizeLine∧Vals out ax ∧
   s'.heap.get? D=some { cls:=.type "list",data:=.seq ax.toArray nn }∧tn i s'.heap∧(∀b∈fp,H' b=none)∧W i n out H') ?_ m0
   ⟨0,[],[],0,iS,Ic,I.aH.fresh wJ,ya _,.nil,qm,T.keep _ _ _ st fun b hb o e=>old b o e,fun b hb=>(ff b hb).1,w0⟩
  rintro n s3 ⟨i,out,ax,nn,H3,I3,Z5,WV,Qg,ho3,IW,Q5,w3⟩
  have NR:∀(ax:List Value) (nn:Nat) (v:Option Value),({ cls:=.type "list",data:=.seq ax.toArray nn } : Obj).data≠.cell v:=fun _ _ _ z=>nomatch z
  have Z6:Inv (iG X N scope C bW iS fp (X.pn++pins)) [(D,{ cls:=.type "list",data:=.seq ax.toArray nn })] (pick σ src) H3 s3:=I3.lQ fun p hp=>by
   have e:p=(D,{ cls:=.type "list",data:=.seq ax.toArray nn }):=by simpa using hp
   subst e
   exact⟨ho3,Z5,Qf,NQ,NR ax nn⟩
  have WW:∀p∈[((D,{ cls:=.type "list",data:=.seq ax.toArray nn }):Addr×Obj)],p.1∉fp:=fun p hp=>by
   have e:p=(D,{ cls:=.type "list",data:=.seq ax.toArray nn }):=by simpa using hp
   subst e
   exact LF
  rcases turn i n out H3 w3 with ⟨stop,qn⟩|⟨go,jW,step⟩
  ·refine bj (T.done (iG X N scope C bW iS fp (X.pn++pins)) rfl rfl rfl hc i _ s3 _ H3 _ Z6 (pY Q5 WW) IW stop) fun r s4 ⟨hr,I4⟩=>?_
   subst hr
   have p4:=(I4.pin (D,{ cls:=.type "list",data:=.seq ax.toArray nn }) (zA _ (by simp))).1
   exact hRR D C s4 (back (I4.lQ (pins':=[]) fun p hp=>nomatch hp) Z5 WV Qg p4 qn)
  ·refine bj (T.item (iG X N scope C bW iS fp (X.pn++pins)) rfl rfl rfl hc i _ s3 _ H3 _ Z6 (pY Q5 WW) IW go) fun r s4 ⟨u,hr,h4⟩=>?_
   subst hr
   refine bj h4 fun _ s5 ⟨x,H5,I5,r5,y5,Dm,fr5⟩=>?_
   have We:=I5.pinned (pY fr5 WW) (T.obj _ _ Dm)
   refine bj (hg _ _ _ _ _ _ s5 _ H5 x u _ We r5 (hx x σ H5 _ (step x H5 y5))) fun _ s6 ⟨Q6,H6,I6,e6,q6⟩=>?_
   have fin:∀{s7:Shared}{H7:Hp},Inv (iG X N scope C bW iS fp (X.pn++pins)) ([(D,{ cls:=.type "list",data:=.seq ax.toArray nn })]++pZ fp s5.heap) Q6 H7 s7 →
     Inv (iG X N scope C bW iS fp (X.pn++pins)) [] (pick σ src) H7 s7∧H7 D=none∧s7.heap.get? D=some { cls:=.type "list",data:=.seq ax.toArray nn }∧tn (i+1) s7.heap∧∀b∈fp,H7 b=none:=fun {s7 H7} I7=>by
    have pD:=I7.pin (D,{ cls:=.type "list",data:=.seq ax.toArray nn }) (zA _ (by simp))
    refine⟨(I7.lQ (pins':=[]) fun p hp=>nomatch hp).weak e6.1.symm e6.2,pD.2.1,pD.1,T.keep _ _ _ Dm fun b hb o e=>(I7.pin (b,o) (zA _ (zA _ (hG hb e)))).1,fun b hb=>?_⟩
    obtain⟨o,e,d⟩:=T.obj _ _ Dm b hb
    exact (I7.pin (b,o) (zA _ (zA _ (hG hb e)))).2.1
   refine bj (hi _ _ _ _ _ _ s6 Q6 H6 _ I6 q6) fun b s7 ⟨H7,I7,q7⟩=>?_
   cases b with
   |false =>
    rw[if_neg zd] at q7 ⊢
    obtain⟨m',hm,w7⟩:=q7
    obtain⟨J7,d7,o7,t7,f7⟩:=fin I7
    exact⟨m',hm,i+1,out,ax,nn,H7,J7,d7,WV,Qg,o7,t7,f7,w7⟩
   |true =>
    rw[if_pos rfl] at q7 ⊢
    refine bj (he _ _ _ _ _ _ s7 Q6 H7 _ I7 q7) fun v s8 ⟨y,H8,I8,r8,m',hm,w8⟩=>?_
    obtain⟨J8,d8,o8,t8,f8⟩:=fin I8
    have hsz:ax.toArray.size≤sizeLine:=by rw[zh,← Qg.length];exact WV
    refine wpAny_list_append_plain (items:=ax.toArray) (hsz:=hsz) ⟨nn,o8⟩ fun h9 ⟨n9,e9⟩ sb=>?_
    have J9:Inv (iG X N scope C bW iS fp (X.pn++pins)) [] (pick σ src) H8 { s8 with heap:=h9 }:=J8.turned (t':=s8.toks) (it:=D) (fun b o hb e=>(sb.2 b hb).trans e) d8 Qf (.inr wJ) (fun x c e=>zy (zk (FR x c (iH x c e)) wJ)) fun p hp=>by
     have hp:p∈X.pn++pins:=by simpa [iG] using hp
     exact zy (zk (FT p hp) wJ)
    refine⟨m',hm,i+1,out++[y],ax++[v],n9,H8,J9,d8,?_,Qg.append (.cons r8 .nil),?_,T.keep _ _ _ t8 fun b hb o e=>(sb.2 b (fun z=>LF (z ▸ hb))).trans e,f8,w8⟩
    ·rw[zl];exact jW
    ·rw[e9];simp
 exact codeAny_compStart_list (loop _ rfl) (T.self _ _ _ _ _ (T.keep _ _ _ st fun b hb o e=>old b o e) (loop _ rfl))
theorem Jr(S:bM X N src scope)(hc:X.calm=true)(hit:PI X tg iter wi)
  (hg:∀C s H ex pn,PG (iG X N scope C s H ex pn) tg g) (hx:AF g src) (hi:∀C s H ex pn,Qc (iG X N scope C s H ex pn) ifs tc) (he:∀C s H ex pn,PE (iG X N scope C s H ex pn) elt te)
  (hs:∀x,foldedSetIterable iter X.env x=pure x:=by intro _;rfl):PE X (.ListComp elt [⟨tg,iter,ifs,0⟩] scope pos) (FQ wi src g tc te):=by
 intro pins s σ H Q I h
 rw[eval_ListComp]
 have Cf:closureFor scope X.env=pure (clOf X.env.cells scope.names):=gr fun y hy hf=>I.ok.has y.1 (S.AE y hy hf)
 refine wpAny_comprehension_free (use:=none) rfl hs Cf S.kind S.loc (bj (hit pins s σ H _ I h) fun v s1 h1=>bj h1 fun UU s2 h2=>?_)
 obtain⟨it,fp,tn,J,H2,e,I2,T,Im,f2,W,w0,turn⟩:=h2
 subst e
 refine tY (RR:=fun acc C=>compPost (model X.prog X.w) X.A X.xe none (EP X pins σ Q) acc C) S hc hg hx hi he I2 T Im f2 W w0 turn fun D C s' ⟨H',m,I',q,hm,hn,h1,h2,h3,h4⟩=>?_
 exact⟨m,hm,fun h' sb=>⟨.ref D,H',I'.turned (t':=s'.toks) (it:=C) (fun b o hb e=>(sb.2 b hb).trans e) hn h1 (.inr h2) h3 h4,rfl,q⟩⟩
theorem AG{i:Nat}{x:Str}{pos' Js:Pos}(hN:X.N.Nodup)(WX:X.N[i]?=some x)(U7:X.env.scope.names.lookup x=some .local)
  (S:bM X N src scope) (hc:X.calm=true) (hit:PI X tg iter wi)
  (hg:∀C s H ex pn,PG (iG X N scope C s H ex pn) tg g) (hx:AF g src) (hi:∀C s H ex pn,Qc (iG X N scope C s H ex pn) ifs tc) (he:∀C s H ex pn,PE (iG X N scope C s H ex pn) elt te)
  (WY:swapsWith (.ListComp elt [⟨tg,iter,ifs,0⟩] scope pos) (some (.Name x pos')) Js.line X.env=pure true:=by rfl)
  (hs:∀x,foldedSetIterable iter X.env x=pure x:=by intro _;rfl):PS X (.Assign [.Name x pos'] (.ListComp elt [⟨tg,iter,ifs,0⟩] scope pos) Js) (MW (FQ wi src g tc te) (iF i)):=by
 intro pins s σ H D I h
 rw[exec_Assign_Name_used _ _ _ _ WY]
 refine za (wpAny_standAt (za ?_))
 have Cf:closureFor scope X.env=pure (clOf X.env.cells scope.names):=gr fun y hy hf=>I.ok.has y.1 (S.AE y hy hf)
 show wpAny _ X.A (do let _ ← comprehension (.ListComp elt [⟨tg,iter,ifs,0⟩] scope pos) scope X.env _ (newList []) false (eval iter X.env) (some (assign (.Name x pos') X.env))) _ _ s
 refine za (yh (wpAny_comprehension_free (use:=some (assign (.Name x pos') X.env)) (Q:=fun _ s'=>∃aD H',Inv X pins aD H' s'∧D.nx aD H') rfl hs Cf S.kind S.loc (bj (hit pins s σ H _ I h) fun v s1 h1=>bj h1 fun UU s2 h2=>?_))
  (fun _ s' hq=>zg (zg hq)) fun _ _ e=>e)
 obtain⟨it,fp,tn,J,H2,e,I2,T,Im,f2,W,w0,turn⟩:=h2
 subst e
 refine tY (Q:=fun v H1=>D.nx (σ.set i (some v)) H1) (RR:=fun acc C=>compPost (model X.prog X.w) X.A X.xe (some (assign (.Name x pos') X.env)) (fun _ s'=>∃aD H',Inv X pins aD H' s'∧D.nx aD H') acc C) S hc hg hx hi he I2 T Im f2 W w0 turn fun D' C s' ⟨H',m,I',q,hm,hn,h1,h2,h3,h4⟩=>?_
 show wpAny _ X.A (assign (.Name x pos') X.env (.ref D')) _ _ _
 refine wpAny_assign_Name (tL I' hN WX (.inl U7) (v:=.ref D') rfl (fun Ax I'' ⟨a,sb,ha⟩=>?_) (.inr U7))
 have hCa:C≠a:=by
  rcases ha with ha|ha
  ·rw[ha];exact h1
  ·exact Ne.symm (h3 _ _ ha)
 refine⟨m,hm.sameBut sb hCa,fun h'' Cg=>⟨_,H',I''.turned (t':=Ax.toks) (it:=C) (fun b o hb e=>(Cg.2 b hb).trans e) hn h1 (.inr h2) h3 h4,q⟩⟩
end
theorem m9{σ:St}{src:List (Option Nat)}{i:Nat}(h:src[i]?=some none):(pick σ src)[i]?=some none:=by
 unfold pick
 rw[zB,h]
 rfl
theorem Ext.set(h:σ0[i]?=some none)(e:Ext σ0 σ):Ext σ0 (σ.set i (some v)):=by
 refine⟨by rw[List.length_set];exact e.1,fun j w hj=>?_⟩
 have:i≠j:=by
  rintro rfl
  rw[h] at hj
  cases hj
 rw[List.getElem?_set_ne this]
 exact e.2 j w hj
theorem Ext.refl(σ:St):Ext σ σ:=⟨rfl,fun _ _ h=>h⟩
theorem bf{src:List (Option Nat)}{i:Nat}(h:src[i]?=some none):AF (iF i) src:=fun x σ H Q q=>⟨(Ext.refl _).set (m9 h),q⟩
theorem Ci{K:Frag}{n:Nat}{src:List (Option Nat)}{i j:Nat}(h:src[i]?=some none)(h':src[j]?=some none):AF (IU K n (pV (iF i) (pV (iF j) IT))) src:=fun x σ H Q q=>by
 obtain⟨a,xs,e1,hs,hl,v,r,e2,v2,r2,e3,e4,q⟩:=q
 exact⟨a,xs,e1,hs,hl,v,r,e2,v2,r2,e3,e4,((Ext.refl _).set (m9 h)).set (m9 h'),q⟩
theorem all_bools{xs:List V}{ax:List Value}{bs:List Bool}(hv:Vals xs ax)(hb:xs=bs.map V.bl):∀(i:Nat) (v:Value),ax.toArray[i]?=some v→v=Value.bool ((bs[i]?).getD false):=by
 subst hb
 intro i v h
 have h':ax[i]?=some v:=by simpa using h
 have hl:=hv.length
 rw[zc] at hl
 have hi:i<ax.length:=(zr.mp h').1
 have hb:bs[i]?=some (bs[i]'(by lia)):=by simp
 obtain⟨u,hu,r⟩:=hv.get (i:=i) (x:=V.bl (bs[i]'(by lia))) (by rw[zB,hb];rfl)
 rw[h'] at hu
 cases hu
 rw[hb]
 exact r
theorem range_all{bs:List Bool} : (List.range bs.length).all (fun i=>(bs[i]?).getD false)=bs.all id:=by
 rw[yB,yg,yg]
 constructor
 ·intro h b hb
  obtain⟨i,hi,rfl⟩:=List.mem_iff_getElem.mp hb
  have:=h i (zW.mpr hi)
  simpa [hi] using this
 ·intro h i hi
  have hi:=zW.mp hi
  simpa [hi] using h _ (List.getElem_mem hi)
theorem range_any{bs:List Bool} : (List.range bs.length).any (fun i=>(bs[i]?).getD false)=bs.any id:=by
 rw[yB,List.any_eq_true,List.any_eq_true]
 constructor
 ·rintro⟨i,hi,h⟩
  have hi:=zW.mp hi
  exact⟨bs[i],List.getElem_mem hi,by simpa [hi] using h⟩
 ·rintro⟨b,hb,h⟩
  obtain⟨i,hi,rfl⟩:=List.mem_iff_getElem.mp hb
  exact⟨i,zW.mpr hi,by simpa [hi] using h⟩
section
variable{X:Cx}
theorem sI(hc:X.calm=true):dq X (.builtin "all") (fun xs H Q=>∃(a:Addr) (bs:List Bool),xs=[.ref a]∧iW X.K H a (bs.map V.bl)∧Q (.bl (bs.all id)) H):=by
 intro pins s σ H xs us Q I r h
 obtain⟨a,bs,rfl,hq,q⟩:=h
 obtain⟨u,rfl,ru⟩:=vals1 r
 cases ru
 obtain⟨ax,rv,p,hz⟩:=I.list hq
 have hl:=rv.length
 rw[zc] at hl
 refine call_all_walk (wpAny_pyIter_list p.isList ?_)
 refine⟨s.heap.objs.size,_,_,_,_,_,fun i=>(bs[i]?).getD false,rfl,Walks.list (A:=X.A.in1) (I.ok.hd hc) s.heap.objs.size a (zy p.lt) ax.toArray,⟨⟨_,zq _ rfl,rfl,rfl⟩,p.isList.at fun o e=>zb _ e⟩,?_,fun h' tk hk=>?_⟩
 ·intro i v s' Q' E' hv hQ
  rw[all_bools rv rfl i v hv]
  exact yi hQ
 ·have e:ax.toArray.size=bs.length:=by rw[zh,← hl]
  rw[e,range_all]
  exact⟨.bl (bs.all id),H,I.kept (h':=h') (t':=tk) (fun b o e=>hk b o (by simpa using zy (zt e)) (zb _ e)),rfl,q⟩
theorem sJ(hc:X.calm=true):dq X (.builtin "any") (fun xs H Q=>∃(a:Addr) (bs:List Bool),xs=[.ref a]∧iW X.K H a (bs.map V.bl)∧Q (.bl (bs.any id)) H):=by
 intro pins s σ H xs us Q I r h
 obtain⟨a,bs,rfl,hq,q⟩:=h
 obtain⟨u,rfl,ru⟩:=vals1 r
 cases ru
 obtain⟨ax,rv,p,hz⟩:=I.list hq
 have hl:=rv.length
 rw[zc] at hl
 refine call_any_walk (wpAny_pyIter_list p.isList ?_)
 refine⟨s.heap.objs.size,_,_,_,_,_,fun i=>(bs[i]?).getD false,rfl,Walks.list (A:=X.A.in1) (I.ok.hd hc) s.heap.objs.size a (zy p.lt) ax.toArray,⟨⟨_,zq _ rfl,rfl,rfl⟩,p.isList.at fun o e=>zb _ e⟩,?_,fun h' tk hk=>?_⟩
 ·intro i v s' Q' E' hv hQ
  rw[all_bools rv rfl i v hv]
  exact yi hQ
 ·have e:ax.toArray.size=bs.length:=by rw[zh,← hl]
  rw[e,range_any]
  exact⟨.bl (bs.any id),H,I.kept (h':=h') (t':=tk) (fun b o e=>hk b o (by simpa using zy (zt e)) (zb _ e)),rfl,q⟩
end
def ownOf:HO→Option Addr
 |.ins _ dx _=>some dx
 |.kN _ u=>ownOf u
 |_=>none
structure Fg(H H' G:Hp):Prop where
 sub:∀b o,G b=some o→H' b=some o
 dom:∀b o,H b=some o→∃o',G b=some o'
 own:∀a o dx,G a=some o→ownOf o=some dx→(∃o',H a=some o'∧ownOf o'=some dx)∨∃o',G dx=some o'
section
variable{X:Cx}{pins:List (Addr×Obj)}{σ aD:St}{H H' G:Hp}{s s':Shared}
end
theorem aX:bootBuiltins "len" = some (.builtin "len"):=PySem.boot_len
theorem hW:bootBuiltins "all" = some (.builtin "all"):=boot_all
theorem NS:bootBuiltins "any" = some (.builtin "any"):=boot_any
theorem ak:bootBuiltins "isinstance" = some (.builtin "isinstance"):=boot_isinstance
theorem dS:bootBuiltins "int" = some (.type "int"):=PyProof.Rows.boot_int
theorem Jt:bootBuiltins "bool" = some (.type "bool"):=PyProof.Rows.boot_bool
theorem kP:bootBuiltins "str" = some (.type "str"):=PyProof.Rows.boot_str
theorem bN:bootBuiltins "tuple" = some (.type "tuple"):=PyProof.Rows.boot_tuple
theorem Ju:bootBuiltins "list" = some (.type "list"):=PyProof.Rows.boot_list
theorem Jv:bootBuiltins "dict" = some (.type "dict"):=PyProof.Rows.boot_dict
theorem NT:bootBuiltins "set" = some (.type "set"):=PyProof.Rows.boot_set
inductive Kd where
 |aw|bl|int|str|lst|tup|dy
 deriving DecidableEq
def Kd.name:Kd→String
 |.aw => "NoneType" |.bl => "bool" |.int => "int" |.str => "str" |.lst => "list" |.tup => "tuple" |.dy => "dict"
inductive qq (H:Hp):V→Kd→Prop where
 |aw:qq H .aw .aw
 |bl (b:Bool):qq H (.bl b) .bl
 |int (i:Int):qq H (.int i) .int
 |str (x:Str):qq H (.str x) .str
 |lst {a:Addr}{xs:List V} (e:H a=some (.lst xs)):qq H (.ref a) .lst
 |tup {a:Addr}{xs:List V} (e:H a=some (.tup xs)):qq H (.ref a) .tup
 |dy {a:Addr}{kvs:List (Key×V)} (e:H a=some (.dK kvs)):qq H (.ref a) .dy
theorem qq.ty{K:Frag}{H:Hp}{x:V}{k:Kd}(h:qq H x k):mY K H x (.type k.name):=by
 cases h with
 |aw=>exact .aw
 |bl b=>exact .bl b
 |int i=>exact .int i
 |str x=>exact .str x
 |lst e=>exact .lst e
 |tup e=>exact .tup e
 |dy e=>exact .dK e
def wK(T:String):Option (Kd→Bool) :=
 if T = "int" then some fun k=>match k with|.int=>true|.bl=>true|_=>false
 else if T = "bool" then some fun k=>match k with|.bl=>true|_=>false
 else if T = "str" then some fun k=>match k with|.str=>true|_=>false
 else if T = "tuple" then some fun k=>match k with|.tup=>true|_=>false
 else if T = "list" then some fun k=>match k with|.lst=>true|_=>false
 else if T = "dict" then some fun k=>match k with|.dy=>true|_=>false
 else none
theorem FU{K:Frag}{T:String}{g:Kd→Bool}(h:wK T=some g)(k:Kd):kitOne K (.type k.name) (.type T)=some (g k):=by
 unfold wK at h
 split at h
 ·rename_i e;subst e;cases h;cases k <;> rfl
 ·split at h
  ·rename_i e;subst e;cases h;cases k <;> rfl
  ·split at h
   ·rename_i e;subst e;cases h;cases k <;> rfl
   ·split at h
    ·rename_i e;subst e;cases h;cases k <;> rfl
    ·split at h
     ·rename_i e;subst e;cases h;cases k <;> rfl
     ·split at h
      ·rename_i e;subst e;cases h;cases k <;> rfl
      ·cases h
section
variable{X:Cx}
theorem FV:dq X (.builtin "isinstance") (fun xs H Q=>∃x T k g,xs=[x,.ty T]∧wK T=some g∧qq H x k∧Q (.bl (g k)) H):=by
 intro pins s σ H xs us Q I r h
 obtain⟨x,T,k,g,rfl,hg,hk,q⟩:=h
 obtain⟨v,w',rfl,rv,lU⟩:=vals2 r
 cases lU
 exact Dx I rv hk.ty (FU hg k) fun tk=>⟨.bl (g k),H,I.tok tk,rfl,q⟩
end
mutual
def Dt(K:Frag)(H:Hp):PyData→V→Prop
 |.none,v=>v=.aw
 |.bool b,v=>v=.bl b
 |.int i,v=>v=.int i
 |.str z,v=>v=.str z
 |.list ds,v=>∃a xs,v=.ref a∧iW K H a xs∧DtAll K H ds xs
 |.tuple ds,v=>∃a xs,v=.ref a∧iE K H a xs∧DtAll K H ds xs
 |.dict _,_=>False
def DtAll(K:Frag)(H:Hp):List PyData→List V→Prop
 |[],xs=>xs=[]
 |d::ds,xs=>∃y ys,xs=y::ys∧Dt K H d y∧DtAll K H ds ys
end
section
variable{X:Cx}{pins:List (Addr×Obj)}{σ:St}{H:Hp}{s:Shared}
mutual
theorem Inv.reads(I:Inv X pins σ H s):∀(d:PyData) {x:V}{u:Value},Dt X.K H d x→RelV x u→∃as,Reads s.heap u d as
 |.none,x,u,h,r=>by
  have h:x=.aw:=by simpa only [Dt] using h
  subst h;cases r;exact⟨_,.none⟩
 |.bool b,x,u,h,r=>by
  have h:x=.bl b:=by simpa only [Dt] using h
  subst h;cases r;exact⟨_,.bool b⟩
 |.int i,x,u,h,r=>by
  have h:x=.int i:=by simpa only [Dt] using h
  subst h;obtain⟨t,rfl⟩:=r;exact⟨_,.int i t⟩
 |.str z,x,u,h,r=>by
  have h:x=.str z:=by simpa only [Dt] using h
  subst h;obtain⟨t,rfl⟩:=r;exact⟨_,.str z t⟩
 |.list ds,x,u,h,r=>by
  have h:∃a xs,x=.ref a∧iW X.K H a xs∧DtAll X.K H ds xs:=by simpa only [Dt] using h
  obtain⟨a,xs,rfl,hq,hd⟩:=h
  cases r
  obtain⟨ax,rv,p,_⟩:=I.list hq
  obtain⟨as,ra⟩:=Inv.readsAll I ds hd rv
  obtain⟨o,e,c,n,d⟩:=p.isList
  exact⟨_,.list e c d (by simpa using ra)⟩
 |.tuple ds,x,u,h,r=>by
  have h:∃a xs,x=.ref a∧iE X.K H a xs∧DtAll X.K H ds xs:=by simpa only [Dt] using h
  obtain⟨a,xs,rfl,hq,hd⟩:=h
  cases r
  obtain⟨ax,rv,p,_⟩:=I.tuple hq
  obtain⟨as,ra⟩:=Inv.readsAll I ds hd rv
  obtain⟨o,e,c,n,d⟩:=p
  exact⟨_,.tuple e c d (by simpa using ra)⟩
 |.dict _,x,u,h,r=>by
  have h:False:=by simpa only [Dt] using h
  exact h.elim
theorem Inv.readsAll(I:Inv X pins σ H s):∀(ds:List PyData) {xs:List V}{us:List Value},DtAll X.K H ds xs→Vals xs us→∃as,ReadsAll s.heap us ds as
 |[],xs,us,h,r=>by
  have h:xs=[]:=by simpa only [DtAll] using h
  subst h;cases r;exact⟨_,.nil⟩
 |d::ds,xs,us,h,r=>by
  have h:∃y ys,xs=y::ys∧Dt X.K H d y∧DtAll X.K H ds ys:=by simpa only [DtAll] using h
  obtain⟨y,ys,rfl,h1,h2⟩:=h
  cases r with
  |cons r1 r2 =>
   obtain⟨as,ra⟩:=Inv.reads I d h1 r1
   obtain⟨bs,rb⟩:=Inv.readsAll I ds h2 r2
   exact⟨_,.cons ra rb⟩
end
end
def RN(K:Frag)(neg:Bool):R2:=fun x y H Q=>∃d e,Dt K H d x∧Dt K H e y∧d.canLay0=true∧e.canLay0=true∧(d.depth≤64∨e.depth≤64)∧Q (.bl (if neg then !PyData.eqv d e else PyData.eqv d e)) H
section
variable{X:Cx}
theorem NU(hu:X.A.units+64<cLine):gp X (compareOp .Eq) (RN X.K false):=by
 intro pins s σ H x y v u Q I rx ry h
 obtain⟨d,e,hd,he,cd,ce,dp,q⟩:=h
 obtain⟨as,ra⟩:=I.reads d hd rx
 obtain⟨bs,rb⟩:=I.reads e he ry
 exact SeqAt.compareEq_reads ra rb cd ce (by rcases dp with dp|dp <;> lia) (aI I q rfl)
theorem NV(hu:X.A.units+64<cLine):gp X (compareOp .NotEq) (RN X.K true):=by
 intro pins s σ H x y v u Q I rx ry h
 obtain⟨d,e,hd,he,cd,ce,dp,q⟩:=h
 obtain⟨as,ra⟩:=I.reads d hd rx
 obtain⟨bs,rb⟩:=I.reads e he ry
 exact SeqAt.compareNe_reads ra rb cd ce (by rcases dp with dp|dp <;> lia) (aI I q rfl)
end
theorem jX(a b:Nat):Fc ⟨#[a]⟩ ⟨#[b]⟩=decide (a≤b):=by
 unfold Fc
 have e:([b]<[a])↔b<a:=by
  rw[List.cons_lt_cons_iff]
  constructor
  ·rintro (h|⟨_,h⟩)
   ·exact h
   ·exact absurd h (List.not_lt_nil _)
  ·exact .inl
 rw[yB]
 show (!decide ([b]<[a]))=true↔_
 rw[Bool.not_eq_true',decide_eq_false_iff_not,e,decide_eq_true_iff]
 lia
def chkC(sc:Scope)(N0 N:List Str)(src:List (Option Nat))(scope:Scope):Bool :=
 decide (scope.kind=.function) && (scope.names.all (fun y=>decide (y.2≠.cell) && (decide (y.2≠.local) || decide (scope.names.lookup y.1=some .local)) && (decide (y.2≠.free) || (decide (sc.names.lookup y.1=some .cell) || decide (sc.names.lookup y.1=some .free)))) &&
  (decide (src.length=N.length) && (List.range src.length).all fun i=>match src[i]?,N[i]? with
   |some (some j),some x=>decide (N0[j]?=some x) && (decide (scope.names.lookup x=some .free) && (decide (sc.names.lookup x=some .cell) || decide (sc.names.lookup x=some .free)))
   |_,_=>true))
theorem m_(sc:Scope)(N0:List Str)(hs:X.env.scope=sc)(hN:X.N=N0)(h:chkC sc N0 N src scope=true):bM X N src scope:=by
 unfold chkC at h
 simp only [zP,z0,yg,Bool.or_eq_true] at h
 obtain⟨h1,h2,h3,h4⟩:=h
 refine⟨h1,fun y hy=>(h2 y hy).1.1,fun y hy e=>?_,fun y hy e=>?_,h3,fun i j x e1 e2=>?_⟩
 ·rcases (h2 y hy).1.2 with z|z
  ·exact absurd e z
  ·exact z
 ·rcases (h2 y hy).2 with z|z
  ·exact absurd e z
  ·show X.env.scope.names.lookup y.1=some .cell∨X.env.scope.names.lookup y.1=some .free
   rw[hs];exact z
 ·have hi:i<src.length:=(zr.mp e1).1
  have q:=h4 i (zW.mpr hi)
  rw[e1,e2] at q
  simp only [zP,z0,Bool.or_eq_true] at q
  refine⟨by rw[hN];exact q.1,q.2.1,?_⟩
  unfold P7
  rw[hs]
  exact .inr q.2.2
section
variable{X:Cx}
end
theorem jY(h0:0≤i)(h1:i<l.length):∃v,m6 l i=some v∧l[i.toNat]?=some v:=by
 obtain⟨j,rfl⟩:=Int.eq_ofNat_of_zero_le h0
 have hj:j<l.length:=by lia
 exact⟨l[j],hU (by simp [hj]),by simp [hj]⟩
theorem bJ{c:Bool}{A B:Prop}(h:c=true→A)(h':c=false→B):if c=true then A else B:=by
 cases c with
 |true=>exact h rfl
 |false=>exact h' rfl
theorem nt(h:(!b)=true):b=false:=by cases b <;> simp_all
theorem nf(h:(!b)=false):b=true:=by cases b <;> simp_all
def AH:Kd→Bool|.int=>true|.bl=>true|_=>false
def uL:Kd→Bool|.bl=>true|_=>false
def AI:Kd→Bool|.str=>true|_=>false
def qr:Kd→Bool|.tup=>true|_=>false
theorem Jw:wK "int" = some AH:=if_pos rfl
theorem FW:wK "bool" = some uL:=(if_neg (by decide)).trans (if_pos rfl)
theorem hX:wK "str" = some AI:=(if_neg (by decide)).trans ((if_neg (by decide)).trans (if_pos rfl))
theorem cO:wK "tuple" = some qr:=(if_neg (by decide)).trans ((if_neg (by decide)).trans ((if_neg (by decide)).trans (if_pos rfl)))
theorem len_pos{z:Str}(h:1≤z.cps.size):∃c r,z.cps.toList=c::r:=by
 cases e:z.cps.toList with
 |nil =>
  have:z.cps.toList.length=0:=by rw[e];rfl
  rw[ye] at this
  lia
 |cons c r=>exact⟨c,r,rfl⟩
theorem wk(e:l=c::r):m6 l 0=some c:=by
 have:l[0]?=some c:=by rw[e];rfl
 exact hU (j:=0) this
def isPlain:Expr→Bool
 |.Starred _ _=>false
 |_=>true
theorem AJ(h:isPlain e=true):starEach (e::es) env=(false,eval e env)::starEach es env:=by
 cases e <;> first
  |rfl
  |exact absurd h zd
theorem WZ(ha:PE X e te)(hr:PA X es t)(hp:isPlain e=true:=by rfl):PA X (e::es) (Lz te t):=Jd ha hr (AJ hp)
end L2
namespace HT
open PySem PyProof.Rows
open PySem.SeqAt
open PySem.AutoSeq1 (wpAny_loadPart')
open PySem.MeetsSeq PySem.MeetsSeq2 PySem.MeetsSeq3
end HT
namespace L2
open PySem PySem.Spec PyProof.Rows
section
variable{X:Cx}
end
section
variable{X:Cx}{K:Frag}
end
theorem aV.get(x:aV P w H h a o):∃u,h.get? a=some u:=by
 cases o with
 |lst xs=>obtain⟨_,_,_,_,e⟩:=x;exact⟨_,e⟩
 |tup xs=>obtain⟨_,_,_,ob,e,_⟩:=x;exact⟨_,e⟩
 |dK kvs=>obtain⟨_,_,_,_,o,_,_,e,_⟩:=x;exact⟨_,e⟩
 |dT kvs=>exact False.elim x
 |set S n=>obtain⟨o,_,_,_,e,_⟩:=x;exact⟨_,e⟩
 |ins C dx fs=>obtain⟨_,_,_,e,_⟩:=x;exact⟨_,e⟩
 |own y=>obtain⟨_,e⟩:=x;exact⟨_,e⟩
 |xd fs=>obtain⟨_,⟨_,_,_,e,_⟩,_⟩:=x;exact⟨_,e⟩
 |UM lo hi=>obtain⟨_,_,_,e⟩:=x;exact⟨_,e⟩
 |kN ob u=>obtain⟨e,_⟩:=x;exact⟨_,e⟩
 |pF ps=>exact⟨_,show h.get? a=some _ from x⟩
 |met f y=>exact⟨_,show h.get? a=some _ from x⟩
 |ext φ=>obtain⟨_,e,_⟩:=x;exact e
structure tZ(P:Program)(w:World)(outer:List Env)(H H':Hp)(h0:Heap)(a:Addr)(cls a0:Value)(B h:Heap):Prop where
 fl:Heap.FlyingW B outer a cls a0 h
 aH:ki P w H' B
 keep:∀b o,h0.get? b=some o→H b=none→b∉lP outer→B.get? b=some o
 there:∀b o,h0.get? b=some o→b∉lP outer→∃o',B.get? b=some o'
 slot:∀b o,h0.get? b=some o→b∈lP outer→∃sl,h.get? b=some { o with slots:=sl }
 free:∀b o,h0.get? b=some o→H b=none→H' b=none
 gk:∀b xs,H b=some (.tup xs)→H' b=some (.tup xs)
 fL:∀b o u,H b=some (.kN o u)→H' b=some (.kN o u)
 fM:∀b ps,H b=some (.pF ps)→∃more,H' b=some (.pF (ps++more))
section
variable{P:Program}{w:World}{outer:List Env}{H H':Hp}{h0:Heap}{a:Addr}{cls a0:Value}{B h h2:Heap}
theorem tZ.un(F:tZ P w outer H H' h0 a cls a0 B h):Un (lP outer) [] H H' h0 h where
 keep:=fun b o e n hf _=>F.fl.1 b o (F.keep b o e n hf)
 slot:=fun b o e _ hf _=>F.slot b o e hf
 free:=fun b o e n _=>F.free b o e n
 there:=fun b o e _=>by
  by_cases hf:b∈lP outer
  ·obtain⟨sl,q⟩:=F.slot b o e hf;exact⟨_,q⟩
  ·obtain⟨o',q⟩:=F.there b o e hf;exact⟨o',F.fl.1 b o' q⟩
 gk:=F.gk
 fL:=F.fL
 fM:=F.fM
theorem tZ.W0(F:tZ P w outer H H' h0 a cls a0 B h):ki P w H' h:=F.aH.kept F.fl.1
theorem tZ.hn(F:tZ P w outer H H' h0 a cls a0 B h):H' a=none:=by
 cases q:H' a with
 |none=>rfl
 |some o =>
  obtain⟨u,e⟩:=(F.aH a o q).get
  rw[F.fl.2.1] at e;cases e
theorem tZ.on(F:tZ P w outer H H' h0 a cls a0 B h)(f2:Heap.FlyingW B outer a cls a0 h2)(u2:h.UpToSlots h2):tZ P w outer H H' h0 a cls a0 B h2 where
 fl:=f2
 aH:=F.aH
 keep:=F.keep
 there:=F.there
 slot:=fun b o e hf=>by
  obtain⟨sl,q⟩:=F.slot b o e hf
  obtain⟨_,o1,q1,hd⟩:=F.fl.2.2.1.mem hf
  obtain⟨wC,q2⟩:=u2 b o1 q1 hd
  rw[q] at q1;cases q1
  exact⟨wC,q2⟩
 free:=F.free
 gk:=F.gk
 fL:=F.fL
 fM:=F.fM
end
def fU(P:Program)(w:World):Aw:=fun outer H s E e s' =>
 ∃a cls a0 B H',e=.ref a∧s'.os=s.os∧AllBare s'.gens∧tZ P w outer H H' s.heap a cls a0 B s'.heap∧E cls none H'
structure dj(X:Cx)(E:XK):Prop where
 ex:X.ex=[]
 st:X.stack=X.env::X.outer
 fr:X.env.frame=some X.env.locals
 xe:∀e s',wpAny (model X.prog X.w) X.A (leaving X.env e) (fun _ Ax=>fU X.prog X.w X.outer X.uB X.cT E e Ax) (fun e' Ax=>fU X.prog X.w X.outer X.uB X.cT E e' Ax) s'→X.xe e s'
theorem t5{P:Program}{w:World}{K:Frag}{mg:Str→Option Value}{base:Heap}{N:List Str}{qual:Str}{scope:Scope}{f:Addr}{cd:Value}{A:Around}{outer:List Env}{s:Shared}{H:Hp}{E:XK} :
  dj (kl (fU P w) P w K mg base N qual scope f cd A outer s H E) E:=⟨rfl,rfl,rfl,fun _ _ h=>h⟩
section
variable{X:Cx}{pins:List (Addr×Obj)}{σ:St}{H H':Hp}{s:Shared}{E E':XK}
theorem dj.mem(L:dj X E):b∈lP X.stack↔b=X.env.locals∨b∈X.fs:=by
 unfold Cx.fs lP
 rw[L.st,List.filterMap_cons,L.fr]
 exact ze
theorem dj.Dh(L:dj X E)(I:Inv X pins σ H s)(e:X.cT.heap.get? b=some o)(h:b∉X.fs):b∉lP X.stack:=fun z=>by
 rcases L.mem.mp z with z|z
 ·have:=zt e
  have h2:=I.ok.above
  rw[z] at this
  exact absurd (zk this h2) (yr _)
 ·exact h z
theorem dj.fly(L:dj X E)(I:Inv X pins σ H s)(F:tZ X.prog X.w X.stack H H' s.heap a cls a0 B h)(f2:Heap.FlyingW B X.outer a cls a0 h2)(u2:h.UpToSlots h2) :
  tZ X.prog X.w X.outer X.uB H' X.cT.heap a cls a0 B h2 where
 fl:=f2
 aH:=F.aH
 keep:=fun b o e n hf=>F.keep b o (I.base.keep b o e n hf (by rw[L.ex];simp)) (I.base.free b o e n (by rw[L.ex];simp)) (L.Dh I e hf)
 there:=fun b o e hf=>by
  obtain⟨o',q⟩:=I.base.there b o e (by rw[L.ex];simp)
  exact F.there b o' q (L.Dh I e hf)
 slot:=fun b o e hf=>by
  obtain⟨sl,q⟩:=I.base.slot b o e (I.ok.Fh b hf) hf (by rw[L.ex];simp)
  obtain⟨sl1,q1⟩:=F.slot b _ q (L.mem.mpr (.inr hf))
  obtain⟨_,o2,q2,hd⟩:=F.fl.2.2.1.mem (L.mem.mpr (.inr hf))
  obtain⟨wC,q3⟩:=u2 b o2 q2 hd
  rw[q1] at q2;cases q2
  exact⟨wC,q3⟩
 free:=fun b o e n=>by
  obtain⟨o',q⟩:=I.base.there b o e (by rw[L.ex];simp)
  exact F.free b o' q (I.base.free b o e n (by rw[L.ex];simp))
 gk:=fun b xs e=>F.gk b xs (I.base.gk b xs e)
 fL:=fun b o u e=>F.fL b o u (I.base.fL b o u e)
 fM:=fun b ps e=>by
  obtain⟨m1,q1⟩:=I.base.fM b ps e
  obtain⟨m2,q2⟩:=F.fM b _ q1
  exact⟨m1++m2,by rw[q2,Array.append_assoc]⟩
theorem RO(L:dj X E)(hE:∀c d H',E' c d H'→E c d H'):Passes (fU X.prog X.w) X E':=fun pins σ H s e s' I h=>by
 obtain⟨a,cls,a0,B,H',rfl,os,bare,F,q⟩:=h
 refine L.xe _ _ ?_
 have Jx:X.A.frames=some (X.env::X.outer):=by rw[I.ok.frames,L.st]
 have fl:Heap.FlyingW B (X.env::X.outer) a cls a0 s'.heap:=by rw[← L.st];exact F.fl
 exact wpAny_leaves_onW Jx L.fr fl fun h2 f2 u2=>⟨a,cls,a0,B,H',rfl,os.trans I.os,bare,L.fly I F f2 u2,hE _ _ _ q⟩
theorem NW(I:Inv X pins σ H s):ki X.prog X.w H (hideAll s.heap (lP X.stack)):=fun a o e =>
 (I.aH a o e).lO (fun b u hb q=>hideAll_get _ q fun z=>by
  have n:=I.pG b z
  rcases hb with rfl|hb
  ·rw[e] at n;cases n
  ·rw[hb] at n;cases n) (fun _ q=>q) fun _ _ q=>q
theorem oE(L:dj X E)(I:Inv X pins σ H s)(hx:Heap.MadeExcOf s.heap h' a cls args)(hE:E cls none H):X.xe (.ref a) { s with heap:=h' }:=by
 refine L.xe _ _ ?_
 have Jx:X.A.frames=some (X.env::X.outer):=by rw[I.ok.frames,L.st]
 have Qh:∀env∈X.stack,∀b,env.frame=some b→b∈lP X.stack:=fun env he b hb=>List.mem_filterMap.mpr ⟨env,he,hb⟩
 have ff:s.heap.FunFrames (hideAll s.heap (lP X.stack)) (X.env::X.outer):=by rw[← L.st];exact PySem.W.funFrames_hide I.stack Qh
 refine wpAny_leaves_madeW (base:=hideAll s.heap (lP X.stack)) (h:=s.heap) Jx L.fr (fun b o q=>of_hideAll _ q) ff hx fun h2 t x1 x2 x3 x4=>?_
 refine⟨a,cls,.ref t,_,H,rfl,I.os,I.bare,⟨x1,NW I,fun b o e n hf=>?_,fun b o e hf=>?_,fun b o e hf=>?_,fun b o e n=>I.base.free b o e n (by rw[L.ex];simp),I.base.gk,I.base.fL,I.base.fM⟩,hE⟩
 ·exact hideAll_get _ (I.base.keep b o e n hf (by rw[L.ex];simp)) (L.Dh I e hf)
 ·obtain⟨o',q⟩:=I.base.there b o e (by rw[L.ex];simp)
  exact⟨o',hideAll_get _ q (L.Dh I e hf)⟩
 ·obtain⟨sl,q⟩:=I.base.slot b o e (I.ok.Fh b hf) hf (by rw[L.ex];simp)
  obtain⟨_,o2,q2,hd⟩:=I.kj.mem hf
  obtain⟨wC,q3⟩:=x4 b o2 (hx.keeps _ _ q2) hd
  rw[q] at q2;cases q2
  exact⟨wC,q3⟩
end
abbrev oT:List Value:=[.type "ValueError",.type "Exception",.type "BaseException",.type "object"]
structure XC(K:Frag)(C:Addr):Prop where
 q:excIn K C oT "ValueError.__new__" = true
def qt(h:Heap)(C:Addr)(bm:List Value):Prop:=∃N nm q bs hdct sn sub ab col dd k0 k1 k2 k3 k5 mN,
 h.get? C=some (excClassObj nm q C N bs bm hdct sn sub ab col dd k0 k1 k2 k3 k5 "ValueError.__new__")∧h.Ns N mN∧mN "__init__" = none∧OwnTail h oT bm
theorem XC.at{K:Frag}{C:Addr}{h:Heap}(x:XC K C)(X:K.In h):∃bm,qt h C bm:=by
 have q:=x.q
 unfold excIn at q
 split at q
 ·rename_i dd cd sl ho
  split at q
  ·rename_i C' bm' k0 k1 k2 k3 n k5 hm hs
   simp only [zP,beq_iff_eq,Bool.not_eq_true'] at q
   obtain⟨⟨⟨⟨⟨q1,q2⟩,RP⟩,ht⟩,aH⟩,U8⟩:=q
   subst q1;subst q2
   obtain⟨nm,bs,mro,ns,qn,hd,sn,sub,ab,col,del⟩:=cd
   dsimp only at hm RP aH U8
   subst hm;subst RP
   obtain⟨sl⟩:=sl
   dsimp only at hs
   subst hs
   exact⟨bm',ns,nm,qn,bs,hd,sn,sub,ab,col,dd,k0,k1,k2,k3,k5,_,X _ _ ho,.of_isNs (PySem.W.isNs_of_in X aH),PySem.W.nsMap_none_of_in X aH U8,PySem.W.tail_of_in X ht⟩
  ·cases q
 ·cases q
theorem qt.base(x:qt h C bm):bm.contains (.type "BaseException")=true:=by
 obtain⟨_,_,_,_,_,_,_,_,_,_,_,_,_,_,_,_,_,_,_,T⟩:=x
 exact T.hasType (by decide)
section
variable{X:Cx}{C D:Addr}{Z7:List Value}{x:Str}{np aQ pos:Pos}{e:Expr}{es:List Expr}{t:TA}{E:XK}
theorem wL{M:Model}{A:Around}{E:Value→Shared→Prop}{h:Heap}{g:Array GenState}{d:Drawn}{tk:Nat}{os:OsState}{a:Addr}{oe:Obj}{b:Bool}{Q:Bool→Shared→Prop}(L:Looks M h (isSubtype (.ref C) (.ref D)) b)(cD:qt h D Z7)
  (he:h.get? a=some oe) (Fi:oe.cls=.ref C) (hq:Q b ⟨h,g,d,tk,os⟩):wpAny M A (excMatches (.ref a) (.ref D)) Q E ⟨h,g,d,tk,os⟩:=by
 have W2:=cD.base
 obtain⟨N',nm',q',bs',Z8,sn',abV,ab',abW,Iq,k0',k1',k2',k3',k5',mN',hD,_,_,_⟩:=cD
 have W3:(Value.ref D::Z7).contains (.type "BaseException")=true:=by rw[List.contains_cons,W2,Bool.or_true]
 have f:=tc_notTuple
 unfold excMatches
 repeat (first|(with_reducible refine wpAny_loadPart_at he ?_;rw[Fi])|with_reducible refine wpAny_loadPart_at hD ?_|with_reducible refine L.at ?_|(with_reducible refine wpAny_isSubtype_exc hD ?_;rw[W3])|wp_step)
 cases b <;> (wp_walk;exact hq)
end
def sL(a:Addr)(cls:Value):HO:=.ext fun h=>∃o vs,h.get? a=some o∧o.cls=cls∧o.data=.fields vs
section
variable{P:Program}{w:World}{outer:List Env}{H H':Hp}{h0:Heap}{a:Addr}{cls a0:Value}{B h:Heap}
theorem tZ.fresh(F:tZ P w outer H H' h0 a cls a0 B h)(e:h0.get? b=some o):b≠a:=by
 rintro rfl
 by_cases hf:b∈lP outer
 ·obtain⟨_,o1,q1,hd⟩:=F.fl.2.2.1.mem hf
  obtain⟨oe,vs,he,_,hdd,_⟩:=F.fl.first
  rw[q1] at he;cases he
  exact hd vs hdd
 ·obtain⟨o',q⟩:=F.there b o e hf
  rw[F.fl.2.1] at q;cases q
theorem tZ.Z9(F:tZ P w outer H H' h0 a cls a0 B h):Un (lP outer) [] H (upd H' a u) h0 h where
 keep:=F.un.keep
 slot:=F.un.slot
 free:=fun b o e n x=>by rw[ao (F.fresh e)];exact F.un.free b o e n x
 there:=F.un.there
 gk:=fun b xs e=>by
  have q:=F.gk b xs e
  rw[ao (ar q F.hn)];exact q
 fL:=fun b o xs e=>by
  have q:=F.fL b o xs e
  rw[ao (ar q F.hn)];exact q
 fM:=fun b ps e=>by
  obtain⟨m,q⟩:=F.fM b ps e
  exact⟨m,by rw[ao (ar q F.hn)];exact q⟩
theorem tZ.RQ(F:tZ P w outer H H' h0 a cls a0 B h):ki P w (upd H' a (sL a cls)) h:=fun b u e=>by
 by_cases hb:b=a
 ·subst hb
  rw[aB] at e;cases e
  obtain⟨oe,vs,he,hc,hd,_⟩:=F.fl.first
  exact⟨⟨oe,vs,he,hc,hd⟩,⟨oe,he⟩,by rintro h1 h2 ⟨o,vs,q,r⟩ k;exact⟨o,vs,k o q,r⟩⟩
 ·rw[ao hb] at e
  exact (F.W0 b u e).lO (fun _ _ _ q=>q) (fun c q=>by rw[ao (ar q F.hn)];exact q) fun c xs q=>by rw[ao (ar q F.hn)];exact q
end
def XE(X:Cx)(pins:List (Addr×Obj))(E:St→XK)(e:Value)(s':Shared):Prop:=∃aD H1 s1,Inv X pins aD H1 s1∧fU X.prog X.w X.stack H1 s1 (E aD) e s'
abbrev TX:=(St→XK)→TS
def RS(X:Cx)(st:List Stmt)(t:TX):Prop :=
 ∀(pins:List (Addr×Obj)) (s:Shared) (σ:St) (H:Hp) (D:Ends) (E:St→XK),Inv X pins σ H s→t E D σ H→wpAny (model X.prog X.w) X.A (execs st X.env) (SP X pins D) (XE X pins E) s
section
variable{X:Cx}{CX:Aw}{k:Nat}{f C:Addr}{fd:FuncData}{ps:List Str}{sp:Sp}{oQ:List V}{ds:List Value}{E:XK}{x m:Str}{p pos apos:Pos}{e o:Expr}{es:List Expr}{ta:TE}{t:TA}
end
section
variable{X:Cx}{e:Expr}{pos:Pos}{te:XK→TE}
end
abbrev Cx.i4(X:Cx)(a:Addr):Cx:={ X with A:=X.A.mark (some (.ref a)),calm:=false,xe:=fun _ _=>False }
section
variable{X:Cx}{pins:List (Addr×Obj)}{σ:St}{H:Hp}{s:Shared}
theorem Cx.Ok.i4(ok:X.Ok)(a:Addr):(X.i4 a).Ok :=
 ⟨ok.mod,ok.kind,ok.glob,ok.blt,ok.above,ok.inj,ok.has,ok.MI,fun z=>(nomatch (show false=true from z)),ok.frames,ok.P8,ok.UP,ok.bs,ok.Df,ok.Ag,ok.Dg,ok.kj,ok.Fh⟩
theorem Inv.i4(I:Inv X pins σ H s)(a:Addr):Inv (X.i4 a) pins σ H s:=⟨I.ok.i4 a,I.os,I.bare,I.base,I.loc,I.cell,I.free,I.dm,I.pin,I.aH,I.len⟩
theorem Inv.uM(I:Inv (X.i4 a) pins σ H s)(ok:X.Ok):Inv X pins σ H s:=⟨ok,I.os,I.bare,I.base,I.loc,I.cell,I.free,I.dm,I.pin,I.aH,I.len⟩
theorem name_goes(I:Inv X pins σ H s)(hN:X.N.Nodup)(hi:X.N[i]?=some n)(hx:X.env.scope.names.lookup n=some .local)
  (h:∀s',Inv X pins (σ.set i none) H s'→Q () s'):wpAny M A (do bindName X.env n .none;unbindBehindTheSuite X.env n pos) Q E s:=by
 obtain⟨m,hn,hl⟩:=id I.loc
 have Fi:(X.env.scope.kind == .class || (X.env.scope.kind == .module && X.env.locals != X.env.globals))=false:=by rw[I.ok.kind];rfl
 have IM:i<σ.length:=by rw[I.len];exact (zr.mp hi).1
 have old:∀b o,X.cT.heap.get? b=some o→b≠X.env.locals:=fun b o e=>zy (zk (zt e) I.ok.above)
 refine wpAny_nameGoes_keeps hx hn Fi fun h' v E8 hs=>h _ ?_
 refine⟨I.ok,I.os,I.bare,⟨fun b o e n hb hx=>(hs.2 b (old b o e)).trans (I.base.keep b o e n hb hx),fun b o e n hb hx=>?_,I.base.free,fun b o e hx=>?_,I.base.gk,I.base.fL,I.base.fM⟩,⟨_,E8,fun j y v' e1 e2 e3=>?_⟩,fun y c e=>?_,I.free,I.dm,fun p hp=>?_,fun b ob e=>?_,by simpa using I.len⟩
 ·obtain⟨sl,e1⟩:=I.base.slot b o e n hb hx
  exact⟨sl,(hs.2 b (old b o e)).trans e1⟩
 ·obtain⟨o',e1⟩:=I.base.there b o e hx
  exact⟨o',(hs.2 b (old b o e)).trans e1⟩
 ·have hj:j≠i:=by
   rintro rfl
   rw[List.getElem?_set_self IM] at e2
   cases e2
  rw[List.getElem?_set_ne (Ne.symm hj)] at e2
  obtain⟨u',r',q⟩:=hl j y v' e1 e2 e3
  refine⟨u',r',?_⟩
  have hy:y≠n:=fun e=>hj (pU hN e1 (e ▸ hi))
  rcases q with ⟨k,e⟩|⟨k,c,e,z⟩
  ·exact .inl ⟨k,by show (if y=n then v else m y)=some u';rw[if_neg hy];exact e⟩
  ·exact .inr ⟨k,c,e,z.sameBut hs (I.IK y c e)⟩
 ·obtain⟨w',z⟩:=I.cell y c e
  exact⟨w',z.sameBut hs (I.IK y c e)⟩
 ·obtain⟨e,n,ne,nf,d⟩:=I.pin p hp
  exact⟨(hs.2 p.1 ne).trans e,n,ne,nf,d⟩
 ·refine (I.aH b ob e).lO (fun c w' hc q=>(hs.2 c ?_).trans q) (fun _ q=>q) fun _ _ q=>q
  rintro rfl
  rcases hc with z|z
  ·rw[← z,I.free] at e;cases e
  ·rw[I.free] at z;cases z
end
def Ends.less(D:Ends)(i:Nat):Ends:={ nx:=fun σ H=>D.nx (σ.set i none) H,rt:=D.rt,bk:=fun σ H=>D.bk (σ.set i none) H,ct:=fun σ H=>D.ct (σ.set i none) H }
def W4(K:Frag)(i:Nat)(C0:Addr)(tb:TX)(ts:TS):TS:=fun D σ H =>
 tb (fun aD cls _ H'=>∃C,cls=.ref C∧mroIn K C (.ref C0)=some true∧∀a,H' a=none→ts (D.less i) (aD.set i (some (.ref a))) (upd H' a (sL a (.ref C)))) D σ H
section
variable{X:Cx}{i:Nat}{n x:Str}{C0:Addr}{body wM:List Stmt}{FX:Stmt}{np DN pos:Pos}{tb:TX}{ts:TS}
theorem NX(rZ:X.stack=X.env::X.outer)(fr:X.env.frame=some X.env.locals)(hN:X.N.Nodup)(hi:X.N[i]?=some n)(hx:X.env.scope.names.lookup n=some .local)(W5:Gl X x)(hm:X.mg x=some (.ref C0))(c0:XC X.K C0)
  (hb:RS X body tb) (hs:∀a,Ai (X.i4 a) (FX::wM) ts) (kO:(x == ("__debug__" : Str))=false:=by decide) :
  PS X (.Try body [.ExceptHandler (some (.Name x np)) (some n) (FX::wM) DN] [] [] pos) (W4 X.K i C0 tb ts):=by
 intro pins s σ H D I h
 refine wpAny_Try_except (yh (hb pins s σ H D _ I h) (fun f s1 q=>?_) fun e s1 q=>?_)
 ·cases f with
  |next =>
   obtain⟨aD,H',I',q⟩:=q
   exact BZ pins s1 aD H' D I' q
  |ret v=>exact q
  |brk=>exact q
  |cont=>exact q
 ·obtain⟨aD,H1,s2,I2,a,cls,a0,B,H',rfl,os,bare,F,C,rfl,RT,hq⟩:=q
  have Jx:X.A.frames=some (X.env::X.outer):=by rw[I.ok.frames,rZ]
  have fl:Heap.FlyingW B (X.env::X.outer) a (.ref C) a0 s1.heap:=by rw[← rZ];exact F.fl
  refine wpAny_looks_onW Jx fr fl fun h4 RU u4=>?_
  refine wpAny_landsW RU fun h5 f5 u5=>?_
  have F5:tZ X.prog X.w X.stack H1 H' s2.heap a (.ref C) a0 B h5:=F.on (by rw[rZ];exact f5) (u4.trans u5)
  have I5:Inv X pins aD (upd H' a (sL a (.ref C))) { s1 with heap:=h5 }:=I2.Fj (ch:=[]) os F5.Z9 F5.RQ bare fun b z=>absurd z (by simp)
  refine wpAny_handleBy_cons (codeAny_handlers_test (lS (I5.i4 a) W5 hm ?_ kO)) (by intro q;cases q)
  obtain⟨oe,vs,he,hc,hd,_⟩:=F5.fl.first
  obtain⟨Z_,c0'⟩:=c0.at I5.lL
  refine wL (PySem.W.looks_mroIn I5.lL RT) c0' he hc ?_
  refine codeAny_handlers_suite_as ?_
  refine lands_againW f5 fun h6 f6 u6=>?_
  have F6:tZ X.prog X.w X.stack H1 H' s2.heap a (.ref C) a0 B h6:=F5.on (by rw[rZ];exact f6) u6
  have I6:Inv X pins aD (upd H' a (sL a (.ref C))) { s1 with heap:=h6 }:=I2.Fj (ch:=[]) os F6.Z9 F6.RQ bare fun b z=>absurd z (by simp)
  refine lR (X:=X.i4 a) (I6.i4 a) hN hi (.inl hx) (v:=.ref a) rfl (fun s7 I7=>?_) (.inr hx)
  refine yh (hs a pins s7 _ _ _ I7 (hq a F.hn)) (fun f s8 q8=>?_) fun _ _ z=>False.elim z
  cases f with
  |next =>
   obtain⟨Jy,H8,I8,q8⟩:=q8
   exact name_goes (I8.uM I.ok) hN hi hx fun s9 I9=>⟨_,H8,I9,q8⟩
  |brk =>
   obtain⟨Jy,H8,I8,q8⟩:=q8
   exact name_goes (I8.uM I.ok) hN hi hx fun s9 I9=>⟨_,H8,I9,q8⟩
  |cont =>
   obtain⟨Jy,H8,I8,q8⟩:=q8
   exact name_goes (I8.uM I.ok) hN hi hx fun s9 I9=>⟨_,H8,I9,q8⟩
  |ret u =>
   obtain⟨v,Jy,H8,I8,r8,q8⟩:=q8
   exact name_goes (I8.uM I.ok) hN hi hx fun s9 I9=>⟨v,_,H8,I9,r8,q8⟩
end
section
variable{P:Program}{w:World}{K:Frag}{mg:Str→Option Value}{base:Heap}
end
structure XA(K:Frag)(C:Addr):Prop where
 ga:findIn K (.ref C) "__getattribute__" = some (some (.builtin "BaseException.__getattribute__"))
 gh:findIn K (.ref C) "__getattr__" = some none
 cl:findIn K (.ref C) "__class__" = some (some (.builtin "object.__class__"))
section
variable{prog:Program}{w:World}{A:Around}{E:Value→Shared→Prop}{h:Heap}{g:Array GenState}{d:Drawn}{t:Nat}{os:OsState}{a:Addr}{o:Obj}{C:Addr}{bm:List Value}{K:Frag}
theorem NY(c:qt h C bm)(NZ:bm.contains (.type "object")=true)(hx:h.get? a=some o)(hc:o.cls=.ref C)(hq:R (.ok (.ret (.ref C))) ⟨h,g,d,t,os⟩) :
  codeAny (model prog w) A (.call (.builtin "getset_descriptor.__get__") ⟨[.builtin "object.__class__",.ref a,.ref C],[]⟩) R ⟨h,g,d,t,os⟩:=by
 obtain⟨N,nm,q,bs,hdct,sn,sub,ab,col,dd,k0,k1,k2,k3,k5,mN,hC,_,_,_⟩:=c
 have hT5:(⟨h,g,d,t,os⟩:Shared).TypeIs (.builtin "object.__class__") "getset_descriptor" := F.typeOf_object_class
 have ow : ".".intercalate ("object.__class__".cutAt '.').dropLast = "object" := by trivial
 have W3:(Value.ref C::bm).contains (.type (".".intercalate ("object.__class__".cutAt '.').dropLast))=true:=by rw[ow,List.contains_cons,NZ,Bool.or_true]
 refine codeAny_call_builtin F.slot_gs_get.plain F.entry_gs_get (F.slot_gs_get.check _ _ _ _ _ _ _ _ hT5 (F.args_gs_get _ _ _) ?_)
 repeat (any_goals (first|assumption|(with_reducible refine wpAny_loadPart_at hx ?_;rw[hc])|(with_reducible refine wpAny_isSubtype_exc hC ?_;rw[W3])|wp_step))
 refine⟨Code.quiet_builtin _ (by trivial),yw F.entry_object_class ?_⟩
 repeat (any_goals (first|assumption|(with_reducible refine wpAny_loadPart_at hx ?_;rw[hc])|wp_step))
theorem FY(c:qt h C bm)(hx:h.get? a=some o)(hc:o.cls=.ref C)(hq:Q () ⟨h,g,d,t,os⟩):wpAny M A (checkBuiltinCall "BaseException.__getattribute__" ⟨[.ref a,nameV],[]⟩) Q E ⟨h,g,d,t,os⟩:=by
 have hb:=c.base
 obtain⟨N,nm,q,bs,hdct,sn,sub,ab,col,dd,k0,k1,k2,k3,k5,mN,hC,_,_,_⟩:=c
 have k1:builtinKind "BaseException.__getattribute__" = some .slot:=by trivial
 have k2:splitId "BaseException.__getattribute__" = some ("BaseException","__getattribute__"):=by trivial
 have hB:(Value.ref C::bm).contains (.type "BaseException")=true:=by rw[List.contains_cons,hb,Bool.or_true]
 have ha:=F.args_bexc_ga (.ref a) nameV
 simp only [checkBuiltinCall,k1,k2]
 refine za ?_
 unfold isInstance
 repeat (first|(with_reducible refine wpAny_loadPart_at hx ?_;rw[hc])|(with_reducible refine wpAny_isSubtype_exc hC ?_;rw[hB])|wp_step)
 exact hq
theorem FZ(X:K.In h)(xa:XA K C)(c:qt h C bm)(NZ:bm.contains (.type "object")=true)(hx:h.get? a=some o)(hc:o.cls=.ref C)(hq:Q (.done (.ret (.ref C))) ⟨h,g,d,t,os⟩) :
  wpAny (model prog w) A (Builtin.«object.__getattribute__» ⟨[.ref a,.str "__class__" tk],[]⟩) Q E ⟨h,g,d,t,os⟩:=by
 have hT5:(⟨h,g,d,t,os⟩:Shared).TypeIs (.builtin "object.__class__") "getset_descriptor" := F.typeOf_object_class
 have L1:=looks_findIn (M:=model prog w) X xa.cl
 have f5:=F.typeOf_object_class
 have f6:=F.slot_gs_get.lookup
 have f7:=F.slot_gs_set.lookup
 repeat (any_goals (first|assumption|(with_reducible refine wpAny_loadPart_at hx ?_;rw[hc])|with_reducible refine L1.at ?_|wp_step))
 refine NY c NZ hx hc ?_
 repeat (any_goals (first|assumption|wp_step))
theorem RV(X:K.In h)(xa:XA K C)(c:qt h C bm)(NZ:bm.contains (.type "object")=true)(hx:h.get? a=some o)(hc:o.cls=.ref C)(hq:Q (.ref C) ⟨h,g,d,t,os⟩) :
  wpAny (model prog w) A (getAttrBy (.ref a) (.str "__class__" tk) false) Q E ⟨h,g,d,t,os⟩:=by
 have FB:=F.attrBase_ValueError
 have f3:=FB.ga.bind (.ref a)
 have L1:=looks_findIn (M:=model prog w) X xa.ga
 have L2:=looks_findIn (M:=model prog w) X xa.gh
 have F_:(Value.builtin "BaseException.__getattribute__" == Value.builtin "object.__getattribute__")=false:=by trivial
 have hx0:(false && onTheHeap (Value.builtin "BaseException.__getattribute__"))=false:=rfl
 have N1:(onTheHeap (Value.ref C) && Value.builtin "BaseException.__getattribute__" == Value.builtin "object.__getattribute__")=false:=by rw[F_];rfl
 repeat (any_goals (first|assumption|(with_reducible refine wpAny_loadPart_at hx ?_;rw[hc])|with_reducible refine L1.at ?_|with_reducible refine L2.at ?_|wp_step))
 refine codeAny_call_builtin FB.ga.plain F.entry_bexc_ga (FY c hx hc (FZ X xa c NZ hx hc ?_))
 repeat (any_goals (first|assumption|wp_step))
theorem Ga(X:K.In h)(xa:XA K C)(c:qt h C bm)(NZ:bm.contains (.type "object")=true)(hx:h.get? a=some o)(hc:o.cls=.ref C)(hq:Q (some (.ref C)) ⟨h,g,d,t+1,os⟩) :
  wpAny (model prog w) A (getAttr? (.ref a) "__class__") Q E ⟨h,g,d,t,os⟩:=by
 unfold getAttr? getAttrBy?
 repeat (any_goals (first|assumption|with_reducible apply RV X xa c NZ hx hc|wp_step))
end
theorem qt.obj(x:qt h C bm):bm.contains (.type "object")=true:=by
 obtain⟨_,_,_,_,_,_,_,_,_,_,_,_,_,_,_,_,_,_,_,T⟩:=x
 exact T.hasType (by decide)
theorem wN{K:Frag}{a C:Addr}(c:XC K C)(xa:XA K C):KitX K (.ref a) (.ref C) (fun h=>∃o vs,h.get? a=some o∧o.cls=.ref C∧o.data=.fields vs) where
 ty:=by
  rintro M h X ⟨o,vs,hx,hc,_⟩
  exact hc ▸ (PySem.W.Looks.ld hx).andThen .now
 it:=fun M h X _=>by
  obtain⟨bm,N,nm,q,bs,hdct,sn,sub,ab,col,dd,k0,k1,k2,k3,k5,mN,hC,_,_,_⟩:=c.at X
  intro A Q E s k q
  unfold isType loadHead
  exact za (wpAny_loadPart (k _ _ hC) (zg q))
 ne:=fun h tp dd ax n sl X htp=>by
  obtain⟨bm,N,nm,q,bs,hdct,sn,sub,ab,col,Iq,k0,k1,k2,k3,k5,mN,hC,_,_,_⟩:=c.at X
  refine Bool.eq_false_iff.mpr fun z=>?_
  have e:C=tp:=Value.ref.inj (beq_iff_eq.mp z)
  subst e
  have q:=congrArg (fun x=>x.map (·.cls)) (hC.symm.trans htp)
  have q:some (Value.type "type")=some (Value.type "tuple"):=q
  exact absurd q (by decide)
 ca:=fun {prog w A E Q s} X ⟨o,vs,hx,hc,_⟩ k=>by
  obtain⟨h,g,d,t,os⟩:=s
  obtain⟨bm,c'⟩:=c.at X
  exact Ga X xa c' c'.obj hx hc k
section
variable{X:Cx}
theorem uN:dq X (.builtin "isinstance") (fun xs H Q=>∃a C c u b,xs=[.ref a,c]∧H a=some (sL a (.ref C))∧XC X.K C∧XA X.K C∧RelV c u∧(∀u',RelV c u'→u'=u)∧kitOne X.K (.ref C) u=some b∧Q (.bl b) H):=by
 intro pins s σ H xs us Q I r h
 obtain⟨a,C,c,u,b,rfl,ha,cC,xa,rc,uc,e,q⟩:=h
 obtain⟨v,w',rfl,rv,lU⟩:=vals2 r
 have:=uc w' lU
 subst this
 cases (show v=Value.ref a from rv)
 obtain⟨p,_⟩:=I.aH a _ ha
 exact kia_one (wN cC xa) I.lL p e (fun z=>nomatch z) fun tk=>⟨.bl b,H,I.tok tk,rfl,q⟩
end
section
variable{X:Cx}
theorem LG(L:dj X E):Passes (fU X.prog X.w) X E:=RO L fun _ _ _ h=>h
end
theorem kK{X:Cx}{K:Frag}(hK:X.K=K):dq X (.builtin "isinstance") (fun xs H Q=>∃a C c u b,xs=[.ref a,c]∧H a=some (sL a (.ref C))∧XC K C∧XA K C∧RelV c u∧(∀u',RelV c u'→u'=u)∧kitOne K (.ref C) u=some b∧Q (.bl b) H):=by
 subst hK
 exact uN
theorem sM:bootBuiltins "ValueError" = some (.type "ValueError"):=PyProof.Rows.Boot.«ValueError»
def iI(l:List Str):List Str:=l.foldl (fun c x=>if x∈c then c else c++[x]) []
theorem wO(l:List Str)(x:Str):iI (l++[x])=if x∈iI l then iI l else iI l++[x]:=by
 unfold iI
 rw[List.foldl_append]
 rfl
theorem Jz:∀(l:List Str),(iI l).length≤l.length:=fun l=>by
 have all:∀(r c:List Str),(r.foldl (fun c x=>if x∈c then c else c++[x]) c).length≤c.length+r.length:=by
  intro r
  induction r with
  |nil=>intro c;simp
  |cons x r ih =>
   intro c
   rw[yu]
   refine zL (ih _) ?_
   split <;> simp <;> try lia
 simpa [iI] using all l []
section
variable{prog:Program}{w:World}{A:Around}{R:Result→Shared→Prop}{I:Addr}{fp wr:List Addr}{G:Array GenState→Array GenState→Prop}{n:Nat}{P:Nat→Value→Prop}{St:Nat→Shared→Prop}
theorem Gb(W:WalksS prog w A.in1 I fp wr G n P St)(S:Addr)(hSf:S∉fp)(xs:List Str)(hx:xs.length=n)(N2:∀i v,P i v→∃x t,xs[i]?=some x∧v=.str x t)(hb:n+1<scanBound) :
  ∀(k i:Nat) (s:Shared),i+k=n→St i s→s.heap.SetOf (strKind prog w) S (fun y=>decide (y∈iI (xs.take i))) (iI (xs.take i)).length →
   (∀s',Moved (S::wr) G s s'→s'.heap.SetOf (strKind prog w) S (fun y=>decide (y∈iI xs)) (iI xs).length→R (.ok (.ret .none)) s') →
   codeAny (model prog w) A (.builtin "set.update.loop" ⟨[.ref S,.ref I],[]⟩) R s:=by
 have nw:S∉wr:=fun h=>hSf (W.sub _ h)
 have up:∀b∈wr,b∈S::wr:=fun b hb=>zp _ hb
 have mv:∀{i:Nat}{s s':Shared},Moved wr G s s'→s.heap.SetOf (strKind prog w) S (fun y=>decide (y∈iI (xs.take i))) (iI (xs.take i)).length→s'.heap.SetOf (strKind prog w) S (fun y=>decide (y∈iI (xs.take i))) (iI (xs.take i)).length :=
  fun hm ⟨o,es,ep,tb,ho,rest⟩=>⟨o,es,ep,tb,hm.heap S _ nw ho,rest⟩
 intro k
 induction k with
 |zero =>
  intro i s hk rZ hS hR
  have e:i=n:=by lia
  subst e
  refine yw F.entry_set_update_loop ?_ ;rw[Around.under_plainId F.plain_set_update_loop _]
  show wpAny _ A.in1 (pyNext (.ref I) >>= _) _ _ s ;refine za (W.done s _ _ rZ fun s' hm=>?_)
  show wpAny _ A.in1 (ret Value.none) _ _ s' ;have q:=mv hm hS
  rw[← hx,yx] at q
  exact zg (hR s' (hm.mono up) q)
 |succ k ih =>
  intro i s hk rZ hS hR
  have lt:i<n:=by lia
  refine yw F.entry_set_update_loop ?_ ;rw[Around.under_plainId F.plain_set_update_loop _]
  show wpAny _ A.in1 (pyNext (.ref I) >>= _) _ _ s ;refine za (W.item i s _ _ lt rZ fun v s' hP N3 hm=>?_)
  obtain⟨x,t,ex,rfl⟩:=N2 i v hP
  have q:=mv hm hS
  show wpAny _ A.in1 (holding [Value.str x t] (setAdd S (.str x t)) >>= _) _ _ s'
  refine za (yt ?_) ;unfold setAdd ;refine yt ?_
  refine za ((strKind prog w).pyHash (k:=x) (strKind_is _ _ _ _) ?_)
  have room:(iI (xs.take i)).length+1<scanBound:=by have:=Jz (xs.take i);rw[yb] at this;lia
  refine wpAny_setAddHashed_of (knd:=strKind prog w) (s:={ s' with toks:=s'.toks+1 }) (strKind_is _ _ _ _) rfl q room fun h' JA q2=>?_
  have tk:xs.take (i+1)=xs.take i++[x]:=by rw[List.take_succ,ex];rfl
  have qi:h'.SetOf (strKind prog w) S (fun y=>decide (y∈iI (xs.take (i+1)))) (iI (xs.take (i+1))).length:=by
   refine SetOf_congr q2 (fun y=>?_) ?_
   ·rw[tk,wO]
    by_cases h:x∈iI (xs.take i)
    ·rw[if_pos h]
     by_cases hy:y=x
     ·subst hy;simp [h]
     ·simp [hy]
    ·rw[if_neg h];simp
   ·rw[tk,wO]
    by_cases h:x∈iI (xs.take i)
    ·rw[if_pos h,if_pos (by simpa using h)]
    ·rw[if_neg h,if_neg (by simpa using h)];simp
  refine zg ⟨plainId_quiet F.plain_set_update_loop _,ih (i+1) _ (by lia) (W.frame _ s' _ _ N3 (yI _) fun b hb o e=>?_) qi fun Ax N4 W6=>?_⟩
  ·rw[JA.2 b (fun h:b=S=>hSf (by rw[← h];exact hb))] ;exact e
  ·refine hR Ax (Moved.trans W.gtrans ((hm.mono up).then_heap (yI _) fun b o hb e=>?_) N4) W6
   rw[JA.2 b (fun h:b=S=>hb (by rw[h];exact zx))] ;exact e
theorem wQ(hh:A.handled=none)(hl:s.heap.IsList l items)(hx:xs.length=items.size)
  (hi:∀(i:Nat) (v:Value),items[i]?=some v→∃x t,xs[i]?=some x∧v=.str x t) (hb:items.size+1<scanBound)
  (h:∀(h':Heap) (tk:Nat),h'.SetOf (strKind prog w) s.heap.objs.size (fun y=>decide (y∈iI xs)) (iI xs).length→(∀b o,b<s.heap.objs.size→s.heap.get? b=some o→h'.get? b=some o)→Q (.ref s.heap.objs.size) { s with heap:=h',toks:=tk }) :
  wpAny (model prog w) A (call (.type "set") [.ref l]) Q E s:=by
 obtain⟨c,tl,m0⟩:=F.called_set.mro ;have m1:=F.called_set.made ;have m2:=F.called_set.sub
 refine wpAny_call (codeAny_of_tree ?_) ;show wpAny _ _ (callAny (.type "set") _) _ _ _
 refine zg ⟨Code.quiet_builtin _ (by trivial),yw F.entry_type_call ?_⟩ ;rw[Around.under_plain (weight_type_call_type "set" [.ref l] []) rfl]
 have m3:=F.called_set.notType ;have m4:=F.called_set.canCreate ;have m5:=F.typeCall_set_1 (.ref l)
 repeat (any_goals (first|assumption|wp_step))
 refine yH (code_set_new_1 (.ref l) (E:=E) (Q₁:=fun ob s1=>∃led:Bool,ob=.ref s.heap.objs.size∧s1={ s with heap:=s.heap.push { cls:=.type "set",dict:=none,data:=.set #[] 0 (.fresh 0 0 led) } }) fun led=>⟨led,rfl,rfl⟩) fun r s1 hr=>?_
 cases r with
 |error e=>exact hr
 |ok fl =>
  cases fl with
  |ret ob =>
   obtain⟨led,rfl,rfl⟩:=hr
   generalize hO:({ cls:=.type "set",dict:=none,data:=.set #[] 0 (.fresh 0 0 led) } : Obj)=O
   have gS:(s.heap.push O).get? s.heap.objs.size=some O:=zq _ (by rw[← hO];rfl)
   have tS:Shared.TypeIs { s with heap:=s.heap.push O } (.ref s.heap.objs.size) "set" := ⟨_,gS,by rw[← hO]⟩
   have i1:=F.called_set.init.lookup ;have i2:=F.called_set.init.bind (.ref s.heap.objs.size)
   repeat (any_goals (first|assumption|wp_step))
   refine yH (codeAny_call_builtin (R:=wants (fun r s2=>r=.none∧∃h' tk,s2={ s with heap:=h',toks:=tk }∧h'.SetOf (strKind prog w) s.heap.objs.size (fun y=>decide (y∈iI xs)) (iI xs).length∧(∀b o,b<s.heap.objs.size→s.heap.get? b=some o→h'.get? b=some o)) E)
    F.called_set.init.plain F.entry_set_init (check_set_init_1 tS ?_)) fun r2 s2 W7=>?_
   ·obtain⟨ol,gl,cl,nl,dl⟩:=hl
    obtain⟨ab0,RW,aac,N5⟩:=ol
    simp only at cl dl ;subst cl ;subst dl
    have RX:(s.heap.push O).get? l=some { cls:=.type "list",dict:=RW,data:=.seq items nl,slots:=N5 }:=zb _ gl
    have j1:=F.sub_list_set ;have j2:=F.sub_list_frozenset
    have j3:(Value.type "list" == Value.type "dict")=false:=by decide
    have il:(s.heap.push O).IsList l items:=⟨_,RX,rfl,nl,rfl⟩
    subst hO
    unfold Builtin.«set.__init__» noKeywords Builtin.Frozenset.updateFrom ;generalize hPI:pyIter=PI
    wp_walk
    subst hPI ;refine wpAny_pyIter_list il ?_ ;refine za (wpAny_runValue ?_)
    have ll:l<s.heap.objs.size:=zt gl
    have h3:A.in1.in1.in1.handled=none:=by simp [hh]
    have ne:l≠(s.heap.push { cls:=.type "set",dict:=none,data:=.set #[] 0 (.fresh 0 0 led) }).objs.size:=by rw[yk] ;exact zy (Nat.lt_succ_of_lt ll)
    have nf:s.heap.objs.size∉[(s.heap.push { cls:=.type "set",dict:=none,data:=.set #[] 0 (.fresh 0 0 led) }).objs.size,l]:=by
     rw[yk] ;simp only [ze,zi,zm,or_false,not_or] ;exact⟨zy (Nat.lt_succ_self _),yj ll⟩
    refine Gb ((Walks.list h3 _ l ne items).toS) s.heap.objs.size nf xs hx hi hb (items.size - 0) 0 _ (by lia) ⟨⟨_,zq _ rfl,rfl,rfl⟩,(il.push _)⟩ ?hS0 ?hR
    case hS0 =>
     have gg:=zb { cls:=.type "list_iterator",data:=.fields #[.ref l,.int 0 0] } gS
     exact SetOf_congr ((setObjOf_fresh (knd:=strKind prog w) led).setOf gg (by unfold scanBound;lia)) (fun _=>rfl) rfl
    case hR =>
     intro s' hm q
     obtain⟨h',g',d',Qi,Rm⟩:=s'
     have eg:g'=s.gens:=hm.gens ;have ed:d'=s.drawn:=hm.drawn ;have eo:Rm=s.os:=hm.os
     subst eg ;subst ed ;subst eo
     show wpAny _ _ _ _ _ _ ;refine zg ?_ ;show wpAny _ _ (ret Value.none) _ _ _
     refine zg ⟨rfl,h',Qi,rfl,q,fun b o hb e=>?_⟩
     have b2:b≠(s.heap.push { cls:=.type "set",dict:=none,data:=.set #[] 0 (.fresh 0 0 led) }).objs.size:=by rw[yk] ;exact zy (Nat.lt_succ_of_lt hb)
     refine hm.heap b o ?_ (zb _ (zb _ e))
     simp only [ze,zi,zm,or_false,not_or] ;exact⟨zy hb,b2⟩
   ·cases r2 with
    |error e=>exact W7
    |ok f2 =>
     cases f2 with
     |ret r =>
      obtain⟨rfl,h',tk,rfl,q,k'⟩:=W7
      repeat (any_goals (first|assumption|wp_step))
      exact h _ _ q k'
     |_=>exact W7.elim
  |_=>exact hr.elim
end
def N6(P:Program)(w:World)(a:Addr)(xs:List Str):HO:=.ext fun h=>h.SetOf (strKind P w) a (fun y=>decide (y∈iI xs)) (iI xs).length
theorem JB(q:h.SetOf (strKind P w) a (fun y=>decide (y∈iI xs)) (iI xs).length):aV P w H h a (N6 P w a xs):=by
 obtain⟨o,es,ep,t,ho,rest⟩:=id q
 exact⟨q,⟨o,ho⟩,by rintro h1 h2 ⟨o,es,ep,t,ho,rest⟩ k;exact⟨o,es,ep,t,k _ ho,rest⟩⟩
theorem wR:∀{xs:List Str}{ax:List Value},Vals (xs.map V.str) ax→∀(i:Nat) (v:Value),ax[i]?=some v→∃x t,xs[i]?=some x∧v=.str x t
 |[],_,.nil,i,v,e=>by simp at e
 |x::xs,_,.cons r rs,0,v,e=>by
  obtain⟨t,q⟩:=r
  simp at e
  exact⟨x,t,rfl,by rw[← e];exact q⟩
 |x::xs,_,.cons r rs,i+1,v,e=>by
  obtain⟨y,t,e1,e2⟩:=wR rs i v (by simpa using e)
  exact⟨y,t,by simpa using e1,e2⟩
section
variable{X:Cx}
theorem DP{P:Program}{w:World}{K:Frag}(hP:X.prog=P)(hw:X.w=w)(hK:X.K=K)(hc:X.calm=true) :
  dq X (.type "set") (fun vs H Q=>∃p xs,vs=[.ref p]∧iW K H p (xs.map V.str)∧xs.length<4000∧∀l,H l=none→Q (.ref l) (upd H l (N6 P w l xs))):=by
 subst hP;subst hw;subst hK
 intro pins s σ H vs us Q I r h
 obtain⟨p,xs,rfl,hq,hz,q⟩:=h
 obtain⟨u,rfl,rx⟩:=vals1 r
 cases rx
 obtain⟨ax,r',pl,_⟩:=I.list hq
 have hlen:xs.length=ax.toArray.size:=by have:=r'.length;simpa using this
 refine wQ (I.ok.hd hc) pl.isList hlen (fun i v e=>wR r' i v (by simpa using e)) (by rw[← hlen];unfold scanBound;lia) fun h' tk qs kp=>?_
 refine⟨.ref s.heap.objs.size,_,I.laid (t':=tk) (fun b o e=>kp b o (zt e) e) (zo _) (JB qs),rfl,q _ (I.aH.fresh (zo _))⟩
theorem DQ(hP:X.prog=P)(hw:X.w=w):dq X (.builtin "len") (fun vs H Q=>∃a xs,vs=[.ref a]∧H a=some (N6 P w a xs)∧Q (.int (iI xs).length) H):=by
 subst hP;subst hw
 intro pins s σ H vs us Q I r h
 obtain⟨a,xs,rfl,ha,q⟩:=h
 obtain⟨u,rfl,rx⟩:=vals1 r
 cases rx
 obtain⟨⟨o,es,ep,t,ho,hex,hd,W8,N7,hb,hf,hn⟩,_⟩:=I.aH a _ ha
 refine call_len_set ho hex hd hf (by unfold scanBound at hb;lia) ?_
 exact⟨.int (iI xs).length,H,I.tok _,⟨_,by rw[hn]⟩,q⟩
end
theorem t6(l:List Str):(iI l).length=l.length↔l.Nodup:=by
 have all:∀(r c:List Str),c.Nodup→((r.foldl (fun c x=>if x∈c then c else c++[x]) c).length=c.length+r.length↔(c++r).Nodup):=by
  intro r
  induction r with
  |nil=>intro c hc;simpa using hc
  |cons x r ih =>
   intro c hc
   rw[yu]
   by_cases h:x∈c
   ·rw[if_pos h]
    have le:(r.foldl (fun c x=>if x∈c then c else c++[x]) c).length≤c.length+r.length:=by
     have all2:∀(r c:List Str),(r.foldl (fun c x=>if x∈c then c else c++[x]) c).length≤c.length+r.length:=by
      intro r
      induction r with
      |nil=>intro c;simp
      |cons x r ih=>intro c;rw[yu];refine zL (ih _) ?_;split <;> simp <;> try lia
     exact all2 r c
    refine⟨fun e=>by simp at e;lia,fun e=>?_⟩
    exact absurd rfl ((List.nodup_append.mp e).2.2 x h x (by simp))
   ·rw[if_neg h]
    have MK:(c++[x]).Nodup:=lY hc h
    have:=ih (c++[x]) MK
    simp only [zl,zE,List.length_nil,List.append_assoc,List.singleton_append] at this ⊢
    rw[← this]
    constructor <;> intro e <;> lia
 simpa [iI] using all l [] List.nodup_nil
theorem iJ:entryFor table "dict.update.loop" = some Builtin.«dict.update.loop»:=entryFor_of_tree (by kernel_rfl)
theorem cW:plainId "dict.update.loop" = true:=by trivial
theorem sN:typeLookup (.type "tuple") "keys" = pure none:=by rw[typeLookup_type,builtinLookup_eq_fast];kernel_rfl
section
variable{prog:Program}{w:World}{A:Around}{E:Value→Shared→Prop}{s:Shared}
theorem sO(hx:s.heap.get? a=some o)(hc:o.cls=.type "tuple")(RY:o.data=.seq xs k)(hd:o.dict=none)(hA:A.handled=none)
  (h:∀h' tk,(∀b ob,s.heap.get? b=some ob→h'.get? b=some ob)→Q none { s with heap:=h',toks:=tk }):wpAny (model prog w) A (getAttr? (.ref a) "keys") Q E s:=by
 obtain⟨c,dy,dat,sl⟩:=o
 simp only at hc RY hd
 subst hc RY hd
 obtain⟨hp,g,d,tk,os⟩:=s
 have hT:∀Qi,(⟨hp,g,d,Qi,os⟩:Shared).TypeIs (.ref a) "tuple" := fun _=>⟨_,hx,rfl⟩
 have f1:=sub_AttributeError ;have f3:=F.slot_tuple_getattribute.lookup
 have f4:=F.slot_tuple_getattribute.bind (.ref a) ;have f5:=am_tuple_getattr_none
 unfold getAttr? getAttrBy? getAttrBy
 repeat (any_goals (first|assumption|exact hT _|((with_reducible show wpAny _ _ (call (Value.builtin "tuple.__getattribute__") _ _) _ _ _);refine yG F.slot_tuple_getattribute (hT _) am_entry_tuple_getattribute (F.args_tuple_getattribute_2 _ _) (meets_getattribute_miss_tuple a xs k sl "keys" _ sN (by trivial) (by size_fits)) ⟨hx,hA,fun h' Qi e RZ=>?_⟩)|wp_step))
 obtain⟨t',u',he⟩:=RZ.there
 show wpAny _ _ (getattributeRaised _ _ _ _ _ _ _) _ _ _ ;unfold getattributeRaised
 repeat (any_goals (first|assumption|wp_step))
 exact h _ _ RZ.keeps
end
section
variable{prog:Program}{w:World}{A:Around}{R:Result→Shared→Prop}{I:Addr}{fp wr:List Addr}{G:Array GenState→Array GenState→Prop}{n:Nat}{P:Nat→Value→Prop}{St:Nat→Shared→Prop}
theorem DR(W:WalksS prog w A.in1 I fp wr G n P St)(D:Addr)(hDf:D∉fp)(kvs:List (Key×Value))(hx:kvs.length=n)(base:Heap)
  (N2:∀i v,P i v→∃(b:Addr) (k:Key) (key val:Value) (o:Obj) (m:Nat),kvs[i]?=some (k,val)∧v=.ref b∧(aF prog w).is k key=true∧base.get? b=some o∧o.cls=.type "tuple" ∧ o.data=.seq #[key,val] m∧b≠D∧b∉wr) (hb:n≤sizeLine) :
  ∀(k i:Nat) (s:Shared) (c:Int) (t:Tok),i+k=n→St i s→s.heap.DictOf (aF prog w) D (merged [] (kvs.take i))→(∀b o,base.get? b=some o→b≠D→b∉wr→s.heap.get? b=some o) →
   (∀s',Moved (D::wr) G s s'→s'.heap.DictOf (aF prog w) D (merged [] kvs)→R (.ok (.ret .none)) s') →
   codeAny (model prog w) A (.builtin "dict.update.loop" ⟨[.ref D,.ref I,.int c t,.none],[]⟩) R s:=by
 have nw:D∉wr:=fun h=>hDf (W.sub _ h)
 have up:∀b∈wr,b∈D::wr:=fun b hb=>zp _ hb
 intro k
 induction k with
 |zero =>
  intro i s c t hk rZ hS hB hR
  have e:i=n:=by lia
  subst e
  refine yw iJ ?_ ;rw[Around.under_plainId cW _]
  show wpAny _ A.in1 (pyNext (.ref I) >>= _) _ _ s ;refine za (W.done s _ _ rZ fun s' hm=>?_)
  show wpAny _ A.in1 (Builtin.Dict.addKeywords D [] >>= _) _ _ s'
  have q:s'.heap.DictOf (aF prog w) D (merged [] (kvs.take i)):=by
   obtain⟨o,es,ep,ho,rest⟩:=hS
   exact⟨o,es,ep,hm.heap D _ nw ho,rest⟩
  rw[← hx,yx] at q
  exact za (zg (zg (hR s' (hm.mono up) q)))
 |succ k ih =>
  intro i s c t hk rZ hS hB hR
  have lt:i<n:=by lia
  refine yw iJ ?_ ;rw[Around.under_plainId cW _]
  show wpAny _ A.in1 (pyNext (.ref I) >>= _) _ _ s ;refine za (W.item i s _ _ lt rZ fun v s' hP N3 hm=>?_)
  obtain⟨b,ky,key,val,o,m,ek,rfl,Nh,ho,hc,hd,W2,hbw⟩:=N2 i v hP
  have q:s'.heap.DictOf (aF prog w) D (merged [] (kvs.take i)):=by
   obtain⟨o,es,ep,ho,rest⟩:=hS
   exact⟨o,es,ep,hm.heap D _ nw ho,rest⟩
  have R1:s'.heap.get? b=some o:=hm.heap b o hbw (hB b o ho W2 hbw)
  have room:(merged [] (kvs.take i)).length≤sizeLine:=by have:=merged_length_le ([]:List (Key×Value)) (kvs.take i);rw[yb] at this;simp at this;lia
  have tk:merged [] (kvs.take (i+1))=stored (merged [] (kvs.take i)) ky val:=merged_take_succ [] kvs i (ky,val) ek
  refine za (yt (za (wpAny_tryCatch ?_)))
  unfold Builtin.Dict.pairItems
  refine za (wpAny_typeOf (T := "tuple") ⟨o,R1,hc⟩ ?_)
  show wpAny _ A.in1 (seqItems? (.ref b) >>= _) _ _ s'
  refine za (yF R1 hd (zg ?_))
  show wpAny _ A.in1 (holding [key,val] (dictSet D key val)) _ _ s'
  refine yt (wpAny_dictSet_pairs Nh q (fun h' q2 JA=>?_) room)
  rw[← tk] at q2
  refine zg ⟨plainId_quiet cW _,ih (i+1) _ _ _ (by lia) (W.frame _ s' _ _ N3 (yI _) fun b hb o e=>?_) q2 (fun b o e h1 h2=>?_) fun Ax N4 W6=>?_⟩
  ·rw[JA.2 b (fun h:b=D=>hDf (by rw[← h];exact hb))] ;exact e
  ·rw[JA.2 b h1] ;exact hm.heap b o h2 (hB b o e h1 h2)
  ·refine hR Ax (Moved.trans W.gtrans ((hm.mono up).then_heap (yI _) fun b o hb e=>?_) N4) W6
   rw[JA.2 b (fun h:b=D=>hb (by rw[h];exact zx))] ;exact e
theorem sP(hh:A.handled=none)(gl:s.heap.get? l=some ol)(cl:ol.cls=.type "tuple")(dl:ol.data=.seq items m)(nl:ol.dict=none)(hx:kvs.length=items.size)
  (hi:∀(i:Nat) (v:Value),items[i]?=some v→∃(b:Addr) (k:Key) (key val:Value) (o:Obj) (m:Nat),kvs[i]?=some (k,val)∧v=.ref b∧(aF prog w).is k key=true∧s.heap.get? b=some o∧o.cls=.type "tuple" ∧ o.data=.seq #[key,val] m) (hb:items.size≤sizeLine)
  (h:∀(h':Heap) (tk:Nat),h'.DictOf (aF prog w) s.heap.objs.size (merged [] kvs)→(∀b o,s.heap.get? b=some o→h'.get? b=some o)→Q (.ref s.heap.objs.size) { s with heap:=h',toks:=tk }) :
  wpAny (model prog w) A (call (.type "dict") [.ref l]) Q E s:=by
 refine callType_codes (Q₁:=fun obj aW=>obj=.ref s.heap.objs.size∧aW={ s with heap:=s.heap.push { cls:=.type "dict",data:=.dict #[] } }) F.kt_called_dict (F.kt_typeCall_dict_1 _) F.entry_dict_init (kt_code_dict_new _ ⟨rfl,rfl⟩) ?_
 rintro obj aW ⟨rfl,rfl⟩
 have N8:(s.heap.push { cls:=.type "dict",data:=.dict #[] }).DictOf (aF prog w) s.heap.objs.size []:=Heap.DictOf.new s.heap
 have RX:(s.heap.push { cls:=.type "dict",data:=.dict #[] }).get? l=some ol:=zb _ gl
 refine⟨N8.typeIs,F.args_dict_init_2 _ _,?_⟩
 unfold Builtin.«dict.__init__»
 refine za ?_
 unfold Builtin.Dict.selfAndRest
 refine za (wpAny_notOrdered_dict N8.typeIs ?_) ;show wpAny _ _ (pure (s.heap.objs.size,[Value.ref l])) _ _ _
 refine zg ?_ ;show wpAny _ _ (Builtin.Dict.updateFrom "dict.__init__" s.heap.objs.size (.ref l) [] .none) _ _ _
 unfold Builtin.Dict.updateFrom
 refine za (wpAny_typeOf (T := "tuple") ⟨ol,RX,cl⟩ ?_) ;rw[if_pos (by decide)]
 have h3:A.in1.in1.handled=none:=by simp [hh]
 refine za (sO RX cl dl nl h3 fun h1 tk1 U9=>?_)
 have g1:h1.get? l=some ol:=U9 _ _ RX
 have d1:h1.DictOf (aF prog w) s.heap.objs.size []:=by
  obtain⟨o,es,ep,ho,rest⟩:=N8
  exact⟨o,es,ep,U9 _ _ ho,rest⟩
 have lD:s.heap.objs.size<h1.objs.size:=by obtain⟨o,es,ep,ho,rest⟩:=d1;exact zt ho
 have ll:l<s.heap.objs.size:=zt gl
 show wpAny _ _ (rule _ >>= _) _ _ _ ;refine za (wpAny_rule ?_)
 have it1:h1.IsTuple l items:=⟨ol,g1,cl,m,dl⟩
 refine za (wpAny_pyIter_tuple (s:=⟨h1,s.gens,s.drawn,tk1,s.os⟩) it1 ?_)
 have ne:l≠h1.objs.size:=zy (Nat.lt_trans ll lD)
 have nf:s.heap.objs.size∉[h1.objs.size,l]:=by
  simp only [ze,zi,zm,or_false,not_or] ;exact⟨zy lD,yj ll⟩
 refine zg ⟨plainId_quiet cW _,?_⟩
 refine DR ((Walks.tuple h3 _ l ne items).toS) s.heap.objs.size nf kvs hx s.heap (fun i v e=>?_) hb (items.size - 0) 0 _ _ _ (by lia) ⟨⟨_,zq _ rfl,rfl,rfl⟩,it1.push _⟩ ?hS0 ?hB ?hR
 ·obtain⟨b,k,key,val,o,m',e1,e2,e3,e4,e5,e6⟩:=hi i v e
  have lb:=zt e4
  exact⟨b,k,key,val,o,m',e1,e2,e3,e4,e5,e6,zy lb,by simp;exact zy (Nat.lt_trans lb lD)⟩
 case hS0=>exact d1.push _
 case hB=>exact fun b o e DU W9=>zb _ (U9 _ _ (zb _ e))
 case hR =>
  intro s' hm q
  obtain⟨h',g',d',Qi,Rm⟩:=s'
  have eg:g'=s.gens:=hm.gens ;have ed:d'=s.drawn:=hm.drawn ;have eo:Rm=s.os:=hm.os
  subst eg ;subst ed ;subst eo
  refine⟨rfl,h h' Qi q fun b o e=>?_⟩
  have lb:=zt e
  refine hm.heap b o ?_ (zb _ (U9 _ _ (zb _ e)))
  simp only [ze,zi,zm,or_false,not_or] ;exact⟨zy lb,zy (Nat.lt_trans lb lD)⟩
end
def Cj(l:List (Str×V)):List (Key×V):=l.foldl (fun c p=>putK c (.inr p.1) p.2) []
def Prs(H:Hp)(ps:List V)(kvs:List (Str×V)):Prop:=kvs.length=ps.length∧∀(i:Nat) (x:V) (p:Str×V),ps[i]?=some x→kvs[i]?=some p→∃b,x=.ref b∧H b=some (.tup [.str p.1,p.2])
section
variable{X:Cx}
theorem AK(hc:X.calm=true):dq X (.type "dict") (fun vs H Q=>∃p ps kvs,vs=[.ref p]∧H p=some (.tup ps)∧Prs H ps kvs∧∀l,H l=none→Q (.ref l) (upd H l (.dK (Cj kvs)))):=by
 intro pins s σ H vs us Q I r h
 obtain⟨p,ps,kvs,rfl,hp,⟨hl,hq⟩,q⟩:=h
 obtain⟨u,rfl,rx⟩:=vals1 r
 cases rx
 obtain⟨hz,ax,rv,ol,gl,cl,nl,m,dl⟩:=(show aV X.prog X.w H s.heap p (.tup ps) from I.aH p _ hp)
 have hlen:=rv.length
 -- the pairs as values
 have each:∀(i:Nat) (x:V) (pr:Str×V),ps[i]?=some x→kvs[i]?=some pr→∃(b:Addr) (key val:Value) (o:Obj) (m:Nat),ax[i]?=some (.ref b)∧(aF X.prog X.w).is (.inr pr.1) key=true∧RelV pr.2 val∧s.heap.get? b=some o∧o.cls=.type "tuple" ∧ o.data=.seq #[key,val] m:=by
  intro i x pr e1 e2
  obtain⟨b,rfl,hb⟩:=hq i x pr e1 e2
  obtain⟨u,e3,ru⟩:=rv.get e1
  cases ru
  obtain⟨_,it2,r2,o,go,co,no,m2,do2⟩:=(show aV X.prog X.w H s.heap b (.tup [.str pr.1,pr.2]) from I.aH b _ hb)
  obtain⟨k',v',rfl,⟨tk,rfl⟩,rv'⟩:=r2.two
  exact⟨b,_,v',o,m2,e3,iX _ _ _ _,rv',go,co,by simpa using do2⟩
 have kv:∃vals:List (Key×Value),KV (kvs.map fun p=>((.inr p.1:Key),p.2)) vals∧∀(i:Nat) (x:V),ps[i]?=some x→∃(b:Addr) (k:Key) (key val:Value) (o:Obj) (m:Nat),vals[i]?=some (k,val)∧ax[i]?=some (.ref b)∧(aF X.prog X.w).is k key=true∧s.heap.get? b=some o∧o.cls=.type "tuple" ∧ o.data=.seq #[key,val] m:=by
  clear hp q rv dl hz
  induction kvs generalizing ps ax with
  |nil =>
   refine⟨[],.nil,fun i x e=>?_⟩
   have:ps=[]:=List.eq_nil_of_length_eq_zero (by simpa using hl.symm)
   subst this
   simp at e
  |cons pr r ih =>
   cases ps with
   |nil=>simp at hl
   |cons y ys =>
    cases ax with
    |nil=>simp at hlen
    |cons w0 ws =>
     obtain⟨b,key,val,o,m,e1,e2,e3,e4,e5,e6⟩:=each 0 y pr rfl rfl
     obtain⟨vals,k1,k2⟩:=ih ys (by simpa using hl) (fun i x p a b=>hq (i+1) x p (by simpa using a) (by simpa using b)) ws (by simpa using hlen) (fun i x p a b=>by simpa using each (i+1) x p (by simpa using a) (by simpa using b))
     refine⟨(.inr pr.1,val)::vals,.cons ⟨rfl,e3⟩ k1,fun i x e=>?_⟩
     cases i with
     |zero=>exact⟨b,.inr pr.1,key,val,o,m,rfl,e1,e2,e4,e5,e6⟩
     |succ i=>simpa using k2 i x (by simpa using e)
 obtain⟨vals,kv1,kv2⟩:=kv
 have lv:vals.length=ax.length:=by have:=kv1.length;rw[zc] at this;lia
 refine sP (kvs:=vals) (I.ok.hd hc) gl cl dl nl (by simpa using lv) (fun i v e=>?_) (by simp;lia) fun h' tk qs kp=>?_
 ·have e':ax[i]?=some v:=by simpa using e
  have hi:i<ax.length:=(zr.mp e').1
  obtain⟨b,k,key,val,o,m',e1,e2,e3,e4,e5,e6⟩:=kv2 i (ps[i]'(by lia)) (zj _)
  rw[e'] at e2
  exact⟨b,k,key,val,o,m',e1,zS e2,e3,e4,e5,e6⟩
 ·have rel:KV (Cj kvs) (merged [] vals):=by
   have all:∀(l:List (Str×V)) (vl:List (Key×Value)) (c:List (Key×V)) (cv:List (Key×Value)),KV (l.map fun p=>((.inr p.1:Key),p.2)) vl→KV c cv→KV (l.foldl (fun c p=>putK c (.inr p.1) p.2) c) (merged cv vl):=by
    intro l
    induction l with
    |nil=>intro vl c cv h1 h2;cases h1;exact h2
    |cons p r ih =>
     intro vl c cv h1 h2
     cases h1 with
     |@cons _ q _ qs r1 r2 =>
      obtain⟨k,v⟩:=q
      obtain⟨rfl,rv⟩:=r1
      exact ih qs _ _ r2 (h2.put _ rv)
   exact all kvs vals [] [] kv1 .nil
  have big:=I.big
  refine⟨.ref s.heap.objs.size,_,I.laid (t':=tk) (fun b o e=>kp b o e) (zo _) (o:=.dK (Cj kvs)) ⟨?_,?_,_,rel,qs⟩,rfl,q _ (I.aH.fresh (zo _))⟩
  ·have e1:=rel.length
   have e2:=merged_length_le ([]:List (Key×Value)) vals
   simp at e2
   lia
  ·simp;exact yj big
end
section
variable{X:Cx}
def R3(K:Frag):R2:=fun x y H Q=>∃a b xs ys,x=.ref a∧y=.ref b∧iE K H a xs∧iE K H b ys∧xs.length+ys.length≤sizeLine ∧
 (xs=[]→Q (.ref b) H)∧(xs≠[]→ys=[]→Q (.ref a) H)∧(xs≠[]→ys≠[]→∀p,H p=none→Q (.ref p) (upd H p (.tup (xs++ys))))
theorem JC:gp X (binaryOp .Add) (R3 X.K):=by
 intro pins s σ H x y v u Q I rx ry h
 obtain⟨a,b,xs,ys,rfl,rfl,ha,hb,hz,q0,q1,q2⟩:=h
 by_cases hx:xs=[]
 ·cases rx
  cases ry
  obtain⟨ax,r1,p1,_⟩:=I.tuple ha
  obtain⟨mZ,r2,p2,_⟩:=I.tuple hb
  obtain⟨⟨cls,dd,data,sl⟩,ho,hc,n,hd⟩:=id p1
  obtain⟨⟨Ws,U0,data2,wC⟩,Jf,Jg,n2,hd2⟩:=id p2
  simp only at hc hd Jg hd2
  subst hc hd Jg hd2
  have e:ax=[]:=r1.pJ.mpr hx
  exact concat_meets ⟨_,ho,rfl⟩ ⟨_,Jf,rfl⟩ noFill_tuple_add seq_tuple_add PySem.F.slot_tuple_add PySem.F.entry_tuple_add (PySem.F.args_tuple_add_2 _ _)
   (tuple_addW0 a b ax.toArray mZ.toArray n n2 dd U0 sl wC (by simp [e])) ⟨ho,Jf,.ref b,H,I,rfl,q0 hx⟩
 ·exact Ji pins s σ H _ _ v u Q I rx ry ⟨a,b,xs,ys,rfl,rfl,ha,hb,hx,hz,q1 hx,q2 hx⟩
end
def qu:PyData→Kd
 |.none=>.aw|.bool _=>.bl|.int _=>.int|.str _=>.str|.list _=>.lst|.tuple _=>.tup|.dict _=>.dy
section
variable{H H':Hp}{K:Frag}
end
section
variable{σ:St}{H:Hp}{te tb:TE}{ta:TA}{d:PyData}{ds:List PyData}
theorem U_(h:n≤1000):n≤sizeLine:=yA (gI h)
end
abbrev kQ(h:Heap)(T:Addr)(arr:Array Value):Prop:=h.get? T=some { cls:=.type "tuple",data:=.seq arr }
theorem nh(hs:Heap.ExtBut b h h')(n:a≠b)(x:h.IsTupleIter a l i):h'.IsTupleIter a l i:=x.extBut hs n
theorem Ck{h h':Heap}{a l:Addr}{i:Nat}(k:∀o,h.get? a=some o→h'.get? a=some o)(x:h.IsTupleIter a l i):h'.IsTupleIter a l i:=by obtain⟨o,e,r⟩:=x;exact⟨o,k o e,r⟩
theorem W_{arr:Array Value}(na:arr.size=2)(x0 x1:Value):((arr.setIfInBounds 0 x0).setIfInBounds 1 x1)=#[x0,x1]:=by obtain⟨l⟩:=arr;match l,na with|[_,_],_=>rfl
section
variable{prog:Program}{w:World}{A:Around}{E:Value→Shared→Prop}{s:Shared}
theorem Va(h:n≤3):n≤sizeLine:=U_ (zL h (by decide))
theorem t9(hT:kQ s.heap T arr)(hz:arr.size≤3)(h:∀h',kQ h' T (arr.setIfInBounds k x)→Heap.SameBut T s.heap h'→Q () { s with heap:=h' }):wpAny (model prog w) A (updateSeq T (·.setIfInBounds k x)) Q E s:=by
 refine wpAny_updateSeq hT rfl (h _ ?_ (yo ..)) (hz:=Va hz) (_hz':=by have:=Va hz;simp;lia)
 show Heap.get? _ _=_
 rw[Heap.get?_update_self _ hT rfl] ;simp [Obj.mapSeq]
theorem qv(hit:s.heap.IsTupleIter it l i)(hl:s.heap.IsTuple l items)(hx:items[i]?=some x)(hQ:∀h',h'.IsTupleIter it l (i+1)→Heap.SameBut it s.heap h'→Q x { s with heap:=h' }) :
  wpAny (model prog w) A (Builtin.SmallTypes.nextOf (.ref it)) Q E s:=by
 obtain⟨o,ho,hc,hd⟩:=id hit ;obtain⟨ol,R4,_,nl,Ir⟩:=hl
 unfold Builtin.SmallTypes.nextOf
 refine za (wpAny_callSpecial?_slot (name:=Str.ofString "__next__") hit.typeIs F.slot_tuple_iterator_next (yq F.slot_tuple_iterator_next hit.typeIs F.entry_tuple_iterator_next ?_ (F.args_tuple_iterator_next_1 _)))
 show wpAny _ _ (field (.ref it) 0 >>= _) _ _ s ;refine za (zX ho hd (x:=.ref l) rfl ?_)
 show wpAny _ _ (if (Value.ref l == Value.none)=true then _ else _) _ _ s ;rw[if_neg (show ¬ ((Value.ref l == Value.none)=true) from zd)]
 show wpAny _ _ (field (.ref it) 1 >>= _) _ _ s ;refine za (zX ho hd (x:=.int i 0) rfl ?_)
 show wpAny _ _ (seqItems? (.ref l) >>= _) _ _ s ;refine za (yF R4 Ir ?_)
 simp only [Int.toNat_natCast,hx]
 refine za (wpAny_setField ho hd (by simp) (zg ⟨x,rfl,zg (hQ _ ⟨_,Heap.get?_update_self _ ho (Obj.isFreed_of_fields (Obj.data_mapFields hd _)),(Obj.cls_mapFields ..).trans hc,by rw[Obj.data_mapFields hd];simp [rawInt]⟩ (yo ..))⟩))
theorem qw(hh:A.handled=none)(hit:s.heap.IsTupleIter it l i)(hl:s.heap.IsTuple l items)(hx:items[i]?=none)
  (hE:∀h' e,Heap.ExtBut it s.heap h'→(∃o,h'.get? e=some o∧o.cls=.type "StopIteration")→E (.ref e) { s with heap:=h' }):wpAny (model prog w) A (Builtin.SmallTypes.nextOf (.ref it)) Q E s:=by
 obtain⟨o,ho,hc,hd⟩:=id hit ;obtain⟨ol,R4,_,nl,Ir⟩:=hl
 unfold Builtin.SmallTypes.nextOf
 refine za (wpAny_callSpecial?_slot (name:=Str.ofString "__next__") hit.typeIs F.slot_tuple_iterator_next (yq F.slot_tuple_iterator_next hit.typeIs F.entry_tuple_iterator_next ?_ (F.args_tuple_iterator_next_1 _)))
 show wpAny _ _ (field (.ref it) 0 >>= _) _ _ s ;refine za (zX ho hd (x:=.ref l) rfl ?_)
 show wpAny _ _ (if (Value.ref l == Value.none)=true then _ else _) _ _ s ;rw[if_neg (show ¬ ((Value.ref l == Value.none)=true) from zd)]
 show wpAny _ _ (field (.ref it) 1 >>= _) _ _ s ;refine za (zX ho hd (x:=.int i 0) rfl ?_)
 show wpAny _ _ (seqItems? (.ref l) >>= _) _ _ s ;refine za (yF R4 Ir ?_)
 simp only [Int.toNat_natCast,hx]
 refine za (wpAny_rule (za (wpAny_setField ho hd (by simp) ?_))) ;show wpAny _ _ (newExc (.type "StopIteration") [] >>= _) _ _ _
 refine za ?_ ;simp only [newExc,newTuple] ;refine za (yf ?_ (by size_fits))
 refine za (m:=firstArgMember _ _) (yJ (a:=Value.none) (by first|rfl|(simp only [firstArgMember];rfl)) ?_) ;refine yf ?_ (by size_fits)
 simp only [raiseNew] ;refine za (wpAny_handled ?_)
 first|rw[show A.in1.handled=none from hh]|rw[hh]
 refine za (zg (wpAny_throw (hE _ _ (((yo ..).extBut.push _).push _) ⟨_,zq _ rfl,rfl⟩)))
end
def ZS2(n l0 l1:Nat)(i:Nat)(h:Heap):Prop:=IsZip h (n+4) (n+2) (n+3) .none∧kQ h (n+2) #[.ref n,.ref (n+1)]∧(∃arr:Array Value,arr.size=2∧kQ h (n+3) arr)∧h.IsTupleIter n l0 i∧h.IsTupleIter (n+1) l1 i
section
variable{prog:Program}{w:World}{A:Around}{E:Value→Shared→Prop}{s:Shared}{n l0 l1:Nat}{i:Nat}{oU r9:Array Value}
theorem DV{x0 x1:Value}{arr:Array Value}(na:arr.size=2){Q:Value→Shared→Prop}(b0:l0<n)(b1:l1<n)(hz:IsZip s.heap (n+4) (n+2) (n+3) .none)(hI:kQ s.heap (n+2) #[.ref n,.ref (n+1)])(hO:kQ s.heap (n+3) arr)(j0:s.heap.IsTupleIter n l0 i)(j1:s.heap.IsTupleIter (n+1) l1 i)(t0:s.heap.IsTuple l0 oU)(t1:s.heap.IsTuple l1 r9)(e0:oU[i]?=some x0)(e1:r9[i]?=some x1)
  (hQ:∀h',IsZip h' (n+4) (n+2) (n+3) (rawInt s.heap.objs.size)→kQ h' (n+3) #[x0,x1]→h'.IsTupleIter n l0 (i+1)→h'.IsTupleIter (n+1) l1 (i+1)→kQ h' s.heap.objs.size #[x0,x1]→(∀c o,c≠(n+4)→c≠(n+3)→c≠n→c≠(n+1)→s.heap.get? c=some o→h'.get? c=some o)→Q (.ref s.heap.objs.size) { s with heap:=h' }) :
  wpAny (model prog w) A (Builtin.«zip.__next__» ⟨[.ref (n+4)],[]⟩) (fun fin s'=>∃v,fin=.done (.ret v)∧Q v s') E s:=by
 show wpAny _ _ (field (.ref (n+4)) 2 >>= _) _ _ _ ;refine za (zX hz rfl (x:=.bool false) rfl ?_)
 show wpAny _ _ (field (.ref (n+4)) 3 >>= _) _ _ _ ;refine za (zX hz rfl (x:=.ref (n+2)) rfl ?_)
 refine za (yF hI rfl ?_) ;show wpAny _ _ (Builtin.SmallTypes.ownedTupleIsFree (.ref (n+4)) >>= _) _ _ _
 refine za ?_ ;unfold Builtin.SmallTypes.ownedTupleIsFree
 refine za (zX hz rfl (x:=.none) rfl (zg ?_)) ;simp only [if_true]
 refine za (wpAny_rule ?_) ;refine za (zX hz rfl (x:=.ref (n+3)) rfl ?_)
 refine za (wpAny_setField_rec hz (by simp) fun h0 N9 q0=>?_) ;replace N9:IsZip h0 (n+4) (n+2) (n+3) .ellipsis:=N9
 have k0:∀c o,c≠(n+4)→s.heap.get? c=some o→h0.get? c=some o:=fun c o d e=>q0.extBut _ _ d e
 have O0:kQ h0 (n+3) arr:=k0 _ _ (by show @Ne Nat _ _;lia) hO
 refine za ?_ ;simp only [List.zipIdx_cons,List.zipIdx_nil,List.forIn_cons,List.forIn_nil]
 -- the 0. iterator
 have J0:Heap.IsTupleIter h0 n l0 i:=by obtain⟨o,a1,a2⟩:=j0;exact⟨o,k0 _ _ (by show @Ne Nat _ _;lia) a1,a2⟩
 have T0:Heap.IsTuple h0 l0 oU:=by obtain⟨o,a1,a2⟩:=t0;exact⟨o,k0 _ _ (by show @Ne Nat _ _;lia) a1,a2⟩
 refine za (za (wpAny_onRaise ?_)) ;show wpAny _ _ (Builtin.SmallTypes.nextOf (.ref n) >>= _) _ _ _
 refine za (qv (s:={ s with heap:=h0 }) J0 T0 e0 fun h1 m0 q1=>zg ?_)
 have O1:kQ h1 (n+3) arr:=q1.extBut _ _ (by show @Ne Nat _ _;lia) O0
 refine za (yF (s:={ s with heap:=h1 }) O1 rfl ?_) ;refine za (t9 (s:={ s with heap:=h1 }) O1 (by simp [na,Va]) fun h2 O2 q2=>?_) ;refine za (wpAny_letGo (zg ?_))
 have k2:∀c o,c≠(n+4)→c≠(n+3)→c≠n→s.heap.get? c=some o→h2.get? c=some o:=fun c o dz dO d0 e=>q2.extBut _ _ dO (q1.extBut _ _ d0 (k0 c o dz  e))
 -- the 1. iterator
 have J1:Heap.IsTupleIter h2 (n+1) l1 i:=by obtain⟨o,a1,a2⟩:=j1;exact⟨o,k2 _ _ (by show @Ne Nat _ _;lia) (by show @Ne Nat _ _;lia) (by show @Ne Nat _ _;lia) a1,a2⟩
 have T1:Heap.IsTuple h2 l1 r9:=by obtain⟨o,a1,a2⟩:=t1;exact⟨o,k2 _ _ (by show @Ne Nat _ _;lia) (by show @Ne Nat _ _;lia) (by show @Ne Nat _ _;lia) a1,a2⟩
 refine za (za (wpAny_onRaise ?_)) ;show wpAny _ _ (Builtin.SmallTypes.nextOf (.ref (n+1)) >>= _) _ _ _
 refine za (qv (s:={ s with heap:=h2 }) J1 T1 e1 fun h3 m1 q3=>zg ?_)
 have O3:kQ h3 (n+3) (arr.setIfInBounds 0 x0):=q3.extBut _ _ (by show @Ne Nat _ _;lia) O2
 refine za (yF (s:={ s with heap:=h3 }) O3 rfl ?_) ;refine za (t9 (s:={ s with heap:=h3 }) O3 (by simp [na,Va]) fun h4 O4 q4=>?_) ;refine za (wpAny_letGo (zg ?_))
 have k4:∀c o,c≠(n+4)→c≠(n+3)→c≠n→c≠(n+1)→s.heap.get? c=some o→h4.get? c=some o:=fun c o dz dO d0 d1 e=>q4.extBut _ _ dO (q3.extBut _ _ d1 (k2 c o dz dO d0 e))
 have ea:((arr.setIfInBounds 0 x0).setIfInBounds 1 x1)=#[x0,x1]:=W_ na x0 x1
 rw[ea] at O4
 have hzL:IsZip h4 (n+4) (n+2) (n+3) .ellipsis:=q4.extBut _ _ (by show @Ne Nat _ _;lia) (q3.extBut _ _ (by show @Ne Nat _ _;lia) (q2.extBut _ _ (by show @Ne Nat _ _;lia) (q1.extBut _ _ (by show @Ne Nat _ _;lia) (N9))))
 have M0:Heap.IsTupleIter h4 n l0 (i+1):=nh q4.extBut (by show @Ne Nat _ _;lia) (nh q3.extBut (by show @Ne Nat _ _;lia) (nh q2.extBut (by show @Ne Nat _ _;lia) m0))
 have M1:Heap.IsTupleIter h4 (n+1) l1 (i+1):=nh q4.extBut (by show @Ne Nat _ _;lia) m1
 have hsz:h4.objs.size=s.heap.objs.size:=by rw[q4.1,q3.1,q2.1,q1.1,q0.1]
 refine zg ?_ ;refine za (yF (s:={ s with heap:=h4 }) O4 rfl ?_) ;refine za (wpAny_newTuple ?_)
 have lz:(n+4)<h4.objs.size:=zt hzL
 show wpAny _ _ (Builtin.SmallTypes.ownedTupleHandOut (.ref (n+4)) (.ref h4.objs.size) >>= _) _ _ _ ;refine za ?_ ;unfold Builtin.SmallTypes.ownedTupleHandOut
 have hzM:IsZip (h4.push { cls:=.type "tuple",data:=.seq #[x0,x1] }) (n+4) (n+2) (n+3) .ellipsis:=zb _ hzL
 refine za (wpAny_setField_rec (s:={ s with heap:=h4.push { cls:=.type "tuple",data:=.seq #[x0,x1] } }) hzM (by simp) fun g1 Qj r1=>?_) ;replace Qj:IsZip g1 (n+4) (n+2) (n+3) (rawInt h4.objs.size):=Qj
 refine wpAny_setField_rec (s:={ s with heap:=g1 }) Qj (by simp) fun g2 N_ r2=>?_ ;replace N_:IsZip g2 (n+4) (n+2) (n+3) (rawInt h4.objs.size):=N_
 have up:∀c o,c≠(n+4)→h4.get? c=some o→g2.get? c=some o:=fun c o d e=>r2.extBut _ _ d (r1.extBut _ _ d (zb _ e))
 have hT:kQ g2 h4.objs.size #[x0,x1]:=r2.extBut _ _ (yj lz) (r1.extBut _ _ (yj lz) (zq _ rfl))
 rw[hsz] at N_ hT ;refine zg ⟨_,rfl,?_⟩ ;show Q (.ref h4.objs.size) _ ;rw[hsz]
 exact hQ g2 N_ (up _ _ (by show @Ne Nat _ _;lia) O4) (Ck (fun o e=>up _ o (by show @Ne Nat _ _;lia) e) M0) (Ck (fun o e=>up _ o (by show @Ne Nat _ _;lia) e) M1) hT fun c o dz dO d0 d1 e=>up c o dz (k4 c o dz dO d0 d1 e)
theorem Ge(hh:A.handled=none)(b0:l0<n)(b1:l1<n)(hz:IsZip s.heap (n+4) (n+2) (n+3) .none)(hI:kQ s.heap (n+2) #[.ref n,.ref (n+1)])(hO:kQ s.heap (n+3) arr)(j0:s.heap.IsTupleIter n l0 i)(j1:s.heap.IsTupleIter (n+1) l1 i)(t0:s.heap.IsTuple l0 oU)(t1:s.heap.IsTuple l1 r9)
  (e0:oU[i]?=none) (hE:∀h' e,(∀c o,c≠(n+4)→c≠(n+3)→c≠n→c≠(n+1)→s.heap.get? c=some o→h'.get? c=some o)→(∃o,h'.get? e=some o∧o.cls=.type "StopIteration")→E (.ref e) { s with heap:=h' }) :
  wpAny (model prog w) A (Builtin.«zip.__next__» ⟨[.ref (n+4)],[]⟩) Q E s:=by
 show wpAny _ _ (field (.ref (n+4)) 2 >>= _) _ _ _ ;refine za (zX hz rfl (x:=.bool false) rfl ?_)
 show wpAny _ _ (field (.ref (n+4)) 3 >>= _) _ _ _ ;refine za (zX hz rfl (x:=.ref (n+2)) rfl ?_)
 refine za (yF hI rfl ?_) ;show wpAny _ _ (Builtin.SmallTypes.ownedTupleIsFree (.ref (n+4)) >>= _) _ _ _
 refine za ?_ ;unfold Builtin.SmallTypes.ownedTupleIsFree
 refine za (zX hz rfl (x:=.none) rfl (zg ?_)) ;simp only [if_true]
 refine za (wpAny_rule ?_) ;refine za (zX hz rfl (x:=.ref (n+3)) rfl ?_)
 refine za (wpAny_setField_rec hz (by simp) fun h0 N9 q0=>?_) ;replace N9:IsZip h0 (n+4) (n+2) (n+3) .ellipsis:=N9
 have J0:Heap.IsTupleIter h0 n l0 i:=by obtain⟨o,a1,a2⟩:=j0;exact⟨o,q0.extBut _ _ (by show @Ne Nat _ _;lia) a1,a2⟩
 have T0:Heap.IsTuple h0 l0 oU:=by obtain⟨o,a1,a2⟩:=t0;exact⟨o,q0.extBut _ _ (by show @Ne Nat _ _;lia) a1,a2⟩
 refine za ?_ ;simp only [List.zipIdx_cons,List.zipIdx_nil,List.forIn_cons,List.forIn_nil]
 refine za (za (wpAny_onRaise ?_)) ;show wpAny _ _ (Builtin.SmallTypes.nextOf (.ref n) >>= _) _ _ _
 refine za (qw (s:={ s with heap:=h0 }) hh J0 T0 e0 fun h1 e q1 he=>?_)
 obtain⟨oe,Xa,hce⟩:=he ;have Qj:IsZip h1 (n+4) (n+2) (n+3) .ellipsis:=q1 _ _ (by show @Ne Nat _ _;lia) N9
 have ez:e≠(n+4):=fun x=>by subst x;rw[Qj] at Xa;cases Xa;simp at hce
 refine wpAny_setField_rec (s:={ s with heap:=h1 }) Qj (by simp) fun h2 _ q2=>hE h2 e (fun c o dz _ d0 _ x=>q2.extBut _ _ dz (q1 _ _ d0 (q0.extBut _ _ dz x))) ⟨oe,q2.extBut _ _ ez Xa,hce⟩
end
section
variable{X:Cx}{pins:List (Addr×Obj)}{σ:St}{H:Hp}{s:Shared}{h':Heap}
theorem Inv.JD(I:Inv X pins σ H s)(wr:List Addr)(hw:∀b∈wr,pX X pins H b)(k:∀b o,b∉wr→s.heap.get? b=some o→h'.get? b=some o):Inv X pins σ H { s with heap:=h',toks:=t' }:=by
 refine I.step (g':=s.gens) (d':=s.drawn) (ch:=wr) (fun b hb=>by obtain⟨_,a,_,c,d,e⟩:=hw b hb;exact⟨c,a,d,e⟩) (fun b o _ _ hc e _=>k b o hc e) (fun b o _ _ hc e _=>⟨o.slots,k b o hc e⟩) (fun _ _ _ _ n=>n)
  (fun b o hc e=>⟨o,k b o hc e⟩) (fun _ _ e=>e) (fun _ _ _ e=>e) (fun b ps e=>⟨#[],by rw[e];simp⟩) (fun m hm=>?_) (fun b u e=>?_) I.bare
 ·obtain⟨o,es,ep,ho,r⟩:=hm
  exact⟨o,es,ep,k _ o (fun z=>(hw _ z).2.1 rfl) ho,r⟩
 ·refine (I.aH b u e).lO (fun c v hc q=>k c v (fun z=>?_) q) (fun _ q=>q) fun _ _ q=>q
  have n:=(hw c z).1
  rcases hc with rfl|hc
  ·rw[n] at e;cases e
  ·rw[n] at hc;cases hc
theorem Inv.JE(I:Inv X pins σ H s)(wr:List Addr)(hw:∀b∈wr,pX X pins H b)(k:∀b o,b∉wr→s.heap.get? b=some o→h'.get? b=some o)(hT:s.heap.get? T=none)(new:aV X.prog X.w (upd H T o) h' T o) :
  Inv X pins σ (upd H T o) { s with heap:=h',toks:=t' }:=by
 have fr:H T=none:=by
  cases q:H T with
  |none=>rfl
  |some u=>obtain⟨z,e⟩:=(I.aH T u q).get;rw[hT] at e;cases e
 have ne:∀b u,H b=some u→b≠T:=fun b u e z=>by rw[z,fr] at e;cases e
 refine I.step (g':=s.gens) (d':=s.drawn) (ch:=wr) (fun b hb=>by obtain⟨_,a,_,c,d,e⟩:=hw b hb;exact⟨c,a,d,e⟩) (fun b o _ _ hc e _=>k b o hc e) (fun b o _ _ hc e _=>⟨o.slots,k b o hc e⟩) (fun b ob _ e n=>?_)
  (fun b o hc e=>⟨o,k b o hc e⟩) (fun b xs e=>by rw[ao (ne b _ e)];exact e) (fun b ob u e=>by rw[ao (ne b _ e)];exact e) (fun b ps e=>⟨#[],by rw[ao (ne b _ e),e];simp⟩) (fun m hm=>?_) (fun b u e=>?_) I.bare
 ·have:b≠T:=fun z=>by rw[z,hT] at e;cases e
  rw[ao this];exact n
 ·obtain⟨o,es,ep,ho,r⟩:=hm
  exact⟨o,es,ep,k _ o (fun z=>(hw _ z).2.1 rfl) ho,r⟩
 ·by_cases hb:b=T
  ·subst hb;rw[aB] at e;cases e;exact new
  ·rw[ao hb] at e
   refine (I.aH b u e).lO (fun c v hc q=>k c v (fun z=>?_) q) (fun c q=>by rw[ao (ne c _ q)];exact q) fun c xs q=>by rw[ao (ne c _ q)];exact q
   have n:=(hw c z).1
   rcases hc with rfl|hc
   ·rw[n] at e;cases e
   ·rw[n] at hc;cases hc
end
def R5(K:Frag)(l0 l1:Addr):It :=
 ⟨fun i H=>∃(oU r9:List V) (x0 x1:V),iE K H l0 oU∧iE K H l1 r9∧oU[i]?=some x0∧r9[i]?=some x1,
  fun i H x H'=>∃T,H T=none∧x=.ref T∧∀(oU r9:List V) (x0 x1:V),iE K H l0 oU→iE K H l1 r9→oU[i]?=some x0→r9[i]?=some x1→H'=upd H T (.tup [x0,x1]),
  fun i H=>∃oU r9,iE K H l0 oU∧iE K H l1 r9∧oU.length≤i⟩
theorem DX{P:Program}{w:World}{K:Frag}{es:List Expr}{kk:Nat}{tp:Pos}{n l0 l1:Nat}(b0:l0<n)(b1:l1<n):Turn P w K (.Tuple es kk tp) (R5 K l0 l1) [n,(n+1),(n+2),(n+3),(n+4)] (n+4) (ZS2 n l0 l1) where
 mem:=by simp
 obj:=fun i h st b hb=>by
  obtain⟨hz,hI,⟨arr,na,hO⟩,j0,j1⟩:=st
  have c:b=n∨b=(n+1)∨b=(n+2)∨b=(n+3)∨b=(n+4):=by simpa using hb
  rcases c with rfl|rfl|rfl|rfl|rfl
  ·obtain⟨o,e,c,d⟩:=j0;exact⟨o,e,fun v z=>by rw[d] at z;cases z⟩
  ·obtain⟨o,e,c,d⟩:=j1;exact⟨o,e,fun v z=>by rw[d] at z;cases z⟩
  ·exact⟨_,hI,fun v z=>by cases z⟩
  ·exact⟨_,hO,fun v z=>by cases z⟩
  ·exact⟨_,hz,fun v z=>by cases z⟩
 keep:=fun i h h' st k=>by
  obtain⟨hz,hI,⟨arr,na,hO⟩,j0,j1⟩:=st
  exact⟨k _ (by simp) _ hz,k _ (by simp) _ hI,⟨arr,na,k _ (by simp) _ hO⟩,Ck (fun o e=>k _ (by simp) o e) j0,Ck (fun o e=>k _ (by simp) o e) j1⟩
 item:=by
  intro X hP hw hK hc i pins s σ H E I hf st hg
  subst hP hw hK
  obtain⟨oU,r9,x0,x1,q0,q1,e0,e1⟩:=hg
  obtain⟨DY,Vb,p0,_⟩:=I.tuple q0 ;obtain⟨u0,hu0,ru0⟩:=Vb.get e0
  obtain⟨DZ,Oa,p1,_⟩:=I.tuple q1 ;obtain⟨u1,hu1,ru1⟩:=Oa.get e1
  obtain⟨hz,hI,⟨arr,na,hO⟩,j0,j1⟩:=st
  have hT:s.TypeIs (.ref (n+4)) "zip" := ⟨_,hz,rfl⟩
  unfold pyNext
  refine za (wpAny_attempt (wpAny_callSpecial?_slot (name:=Str.ofString "__next__") hT F.slot_zip_next (yq F.slot_zip_next hT F.entry_zip_next (DV na b0 b1 hz hI hO j0 j1 (show s.heap.IsTuple l0 DY.toArray from p0) (show s.heap.IsTuple l1 DZ.toArray from p1) (show DY.toArray[i]?=some u0 by simpa using hu0) (show DZ.toArray[i]?=some u1 by simpa using hu1) fun h1 z1 O1 m0 m1 T1 kp=>zg ⟨_,rfl,?_⟩) (F.args_zip_next_1 _))))
  refine wpAny_letOwnedTupleGo_zip (s:={ s with heap:=h1 }) z1 fun h2 z2 r2=>?_
  have Vc:∀c o,c∉([(n+4),(n+3),n,(n+1)]:List Addr)→s.heap.get? c=some o→h2.get? c=some o:=fun c o hc e=>by
   simp only [ze,zm,or_false,not_or] at hc
   obtain⟨dz,dO,d0,d1⟩:=hc
   exact r2.extBut _ _ dz (kp c o dz dO d0 d1 e)
  have lz:(n+4)<s.heap.objs.size:=zt hz
  have T2:kQ h2 s.heap.objs.size #[u0,u1]:=r2.extBut _ _ (yj lz) T1
  have hf':∀b∈([(n+4),(n+3),n,(n+1)]:List Addr),pX X pins H b:=fun b hb=>hf b (by simp only [ze,zm,or_false] at hb ⊢;rcases hb with h|h|h|h <;> simp [h])
  have I2:Inv X pins σ (upd H s.heap.objs.size (.tup [x0,x1])) { s with heap:=h2 }:=I.JE (t':=s.toks) [(n+4),(n+3),n,(n+1)] hf' Vc (Heap.get?_none_of_le (zo _)) ⟨U_ (show 2≤1000 by decide),[u0,u1],.cons ru0 (.cons ru1 (.nil)),⟨_,T2,rfl,rfl,_,rfl⟩⟩
  refine⟨.ref s.heap.objs.size,_,I2,rfl,⟨_,I.aH.fresh (zo _),rfl,fun ys0 ys1 y0 y1 g0 g1 f0 f1=>?_⟩,?_,fun b hb=>?_⟩
  ·have:=I.jV g0 q0 ;subst this ;have:=e0.symm.trans f0 ;cases this
   have:=I.jV g1 q1 ;subst this ;have:=e1.symm.trans f1 ;cases this
   rfl
  ·refine⟨z2,r2.extBut _ _ (by show @Ne Nat _ _;lia) (kp _ _ (by show @Ne Nat _ _;lia) (by show @Ne Nat _ _;lia) (by show @Ne Nat _ _;lia) (by show @Ne Nat _ _;lia) hI),⟨_,rfl,r2.extBut _ _ (by show @Ne Nat _ _;lia) O1⟩,nh r2.extBut (by show @Ne Nat _ _;lia) m0,nh r2.extBut (by show @Ne Nat _ _;lia) m1⟩
  ·have l2:b<s.heap.objs.size:=by
    simp only [ze,zm,or_false] at hb
    have lz:@LT.lt Nat _ (n+4) s.heap.objs.size:=lz
    rcases hb with rfl|rfl|rfl|rfl|rfl <;> (show @LT.lt Nat _ _ s.heap.objs.size;lia)
   rw[ao (zy l2)] ;exact (hf b hb).1
 done:=by
  intro X hP hw hK hc i pins s σ H E I hf st hg
  subst hP hw hK
  obtain⟨oU,r9,q0,q1,hx⟩:=hg
  obtain⟨DY,Vb,p0,_⟩:=I.tuple q0
  obtain⟨DZ,Oa,p1,_⟩:=I.tuple q1
  obtain⟨hz,hI,⟨arr,na,hO⟩,j0,j1⟩:=st
  have hT:s.TypeIs (.ref (n+4)) "zip" := ⟨_,hz,rfl⟩ ;have hl:=Vb.length
  unfold pyNext
  refine za (wpAny_attempt (wpAny_callSpecial?_slot (name:=Str.ofString "__next__") hT F.slot_zip_next (yq F.slot_zip_next hT F.entry_zip_next (Ge (I.ok.hd hc) b0 b1 hz hI hO j0 j1 (show s.heap.IsTuple l0 DY.toArray from p0) (show s.heap.IsTuple l1 DZ.toArray from p1) (by simp;lia) fun h1 e kp he=>?_) (F.args_zip_next_1 _))))
  obtain⟨o,ho,JF⟩:=he ;refine za (wpAny_isInstance (T := "StopIteration") (b:=true) ⟨o,ho,JF⟩ isSubtype_stop (zg ⟨rfl,?_⟩))
  refine I.JD (t':=s.toks) [(n+4),(n+3),n,(n+1)] (fun b hb=>hf b (by simp only [ze,zm,or_false] at hb ⊢;rcases hb with h|h|h|h <;> simp [h])) fun c o hc e=>?_
  simp only [ze,zm,or_false,not_or] at hc
  obtain⟨dz,dO,d0,d1⟩:=hc
  exact kp c o dz dO d0 d1 e
 self:=fun A' i s Q E st h=>wpAny_pyIter_zip st.1 h
abbrev JG(h:Heap)(l0:Addr):Heap:=(h).push { cls:=.type "tuple_iterator",data:=.fields #[.ref l0,.int 0 0] }
abbrev JH(h:Heap)(l0 l1:Addr):Heap:=(JG h l0).push { cls:=.type "tuple_iterator",data:=.fields #[.ref l1,.int 0 0] }
abbrev JI(h:Heap)(l0 l1:Addr):Heap:=(JH h l0 l1).push { cls:=.type "tuple",data:=.seq #[.ref h.objs.size,.ref (JG h l0).objs.size] }
abbrev JJ(h:Heap)(l0 l1:Addr):Heap:=(JI h l0 l1).push { cls:=.type "tuple",data:=.seq #[.none,.none] }
abbrev AL(h:Heap)(l0 l1:Addr):Heap:=(JJ h l0 l1).push { cls:=.type "zip",data:=.fields #[.none,.bool false,.bool false,.ref (JH h l0 l1).objs.size,.ref (JI h l0 l1).objs.size] }
theorem AM(l0 l1:Addr)(oU r9:Array Value):Meets (Builtin.«zip.__new__» ⟨[.type "zip",.ref l0,.ref l1],[]⟩) (fun _ R s=>s.heap.IsTuple l0 oU∧s.heap.IsTuple l1 r9∧R (.ok (.ret (.ref (JJ s.heap l0 l1).objs.size))) { s with heap:=AL s.heap l0 l1 }) :=
 .of_wp fun prog w A R s h=>by
  obtain⟨hp,g,d,tk,os⟩:=s;obtain⟨t0,t1,h⟩:=h
  have RT:=sub_zip
  have L0:Heap.IsTuple (Shared.heap ⟨hp,g,d,tk,os⟩) l0 oU:=t0
  have L1:Heap.IsTuple (Shared.heap ⟨hp.push { cls:=.type "tuple_iterator",data:=.fields #[.ref l0,.int 0 0] },g,d,tk,os⟩) l1 r9:=Heap.IsTuple.push (t1) _
  wp_walk using wpAny_pyIter_tuple L0,wpAny_pyIter_tuple L1
  exact⟨_,rfl,h⟩
theorem AN(t0:s.heap.IsTuple l0 oU)(t1:s.heap.IsTuple l1 r9)
  (h:∀h',ZS2 s.heap.objs.size l0 l1 0 h'→(∀c o,s.heap.get? c=some o→h'.get? c=some o)→Q (.ref (s.heap.objs.size+4)) { s with heap:=h' }):wpAny (model prog w) A (call (.type "zip") [.ref l0,.ref l1]) Q E s:=by
 refine callType_new F.called_zip (by decide) (F.typeCall_zip_2 _ _) (F.newCall_zip_2 _ _) (fun obj=>F.args_object_init_3 obj _ _) F.entry_zip_new (AM l0 l1 oU r9) ⟨t0,t1,?_⟩
 have z1:(JG s.heap l0).objs.size=s.heap.objs.size+1:=yk ..
 have z2:(JH s.heap l0 l1).objs.size=s.heap.objs.size+2:=by rw[yk,z1]
 have z3:(JI s.heap l0 l1).objs.size=s.heap.objs.size+3:=by rw[yk,z2]
 have z4:(JJ s.heap l0 l1).objs.size=s.heap.objs.size+4:=by rw[yk,z3]
 have z5:(AL s.heap l0 l1).objs.size=s.heap.objs.size+5:=by rw[yk,z4]
 have g0:(AL s.heap l0 l1).get? (s.heap).objs.size=some _:=zb _ (zb _ (zb _ (zb _ (zq _ rfl))))
 have g1:(AL s.heap l0 l1).get? (JG s.heap l0).objs.size=some _:=zb _ (zb _ (zb _ (zq _ rfl)))
 have g2:(AL s.heap l0 l1).get? (JH s.heap l0 l1).objs.size=some _:=zb _ (zb _ (zq _ rfl))
 have g3:(AL s.heap l0 l1).get? (JI s.heap l0 l1).objs.size=some _:=zb _ (zq _ rfl)
 have g4:(AL s.heap l0 l1).get? (JJ s.heap l0 l1).objs.size=some _:=zq _ rfl
 show _∧_
 rw[z2,z3,z4] at g4
 rw[z3] at g3
 rw[z1,z2] at g2
 rw[z1] at g1
 rw[z4]
 exact⟨⟨_,g4,rfl⟩,h _ ⟨g4,g2,⟨_,rfl,g3⟩,⟨_,g0,rfl,rfl⟩,⟨_,g1,rfl,rfl⟩⟩ fun c o x=>zb _ (zb _ (zb _ (zb _ (zb _ x))))⟩
def R6(K:Frag)(ta:TA):TI:=fun σ H R=>ta σ H fun vs H1=>∃l0 l1,vs=[.ref l0,.ref l1]∧(∃xs,iE K H1 l0 xs)∧(∃xs,iE K H1 l1 xs)∧R (R5 K l0 l1) H1
theorem JK(hg:Gl X "zip")(hm:X.mg "zip" = none)(ha:PA X [a,b] ta)(hs:starEach [a,b] X.env=[(false,eval a X.env),(false,eval b X.env)]:=by rfl)(Ab:starEach [b] X.env=[(false,eval b X.env)]:=by rfl) :
  PI X (.Tuple es kk tp) (.Call (.Name "zip" p) [a,b] [] pos) (R6 X.K ta):=by
 intro pins s σ H R I h
 refine Call_ (g_ I hg hm boot_zip (PyProof.Rows.callWith_type1 (bj (ha pos pins s σ H _ I h) fun us s1 ⟨vs,H1,I1,r1,q1⟩=>?_) (by rw[hs,Ab]) (by rw[Ab];rfl)))
 obtain⟨l0,l1,e,⟨oU,q0⟩,⟨r9,q2⟩,q⟩:=q1
 subst e
 obtain⟨u,v,rfl,r,r'⟩:=r1.two
 cases r
 cases r'
 obtain⟨DY,Vb,p0,_⟩:=I1.tuple q0
 obtain⟨DZ,Oa,p1,_⟩:=I1.tuple q2
 refine AN (show s1.heap.IsTuple l0 DY.toArray from p0) (show s1.heap.IsTuple l1 DZ.toArray from p1) fun h' zs kp=>?_
 refine wpAny_pyIter_zip (s:={ s1 with heap:=h' }) zs.1 ⟨_,_,_,_,H1,rfl,I1.kept (t':=s1.toks) kp,DX p0.lt p1.lt,zs,fun b hb=>?_,q⟩
 have R1:s1.heap.objs.size≤b:=by
  simp only [ze,zm,or_false] at hb
  rcases hb with rfl|rfl|rfl|rfl|rfl <;> (show @LE.le Nat _ _ _;lia)
 exact I1.pY R1 (I1.aH.fresh R1)
def JL(K:Frag):V→List V→Hp→VK→Prop:=fun x vs H Q=>∃(a:Addr) (xs:List V) (y z:V) (j:Nat),x=.ref a∧vs=[y]∧iW K H a xs∧gH y=true∧xs.all gH=true∧xs[j]?=some z∧eqV z y=true∧(∀m u,m<j→xs[m]?=some u→eqV u y=false)∧Q (.int j) H
theorem D0:Nr X "list.index" (JL X.K):=by
 intro pins s σ H x vs v us Q I rx rv h
 obtain⟨a,xs,y,z,j,rfl,rfl,hq,fy,fx,hj,hit,Wt,q⟩:=h
 cases rx
 obtain⟨u,rfl,ru⟩:=rv.one
 obtain⟨ax,r,p,hz⟩:=I.list hq
 obtain⟨⟨cls,dd,data,sl⟩,ho,hc,n,hd⟩:=p.isList
 simp only at hc hd
 subst hc hd
 have hl:=r.length
 have jW:j<xs.length:=(zr.mp hj).1
 have fl:∀(m:Nat) (w:V),xs[m]?=some w→gH w=true:=fun m w e=>yg.mp fx w (zK e)
 have at':∀(m:Nat) (hm:m<ax.toArray.size) (w:V),xs[m]?=some w→FD y ax.toArray[m]=eqV w y:=fun m hm w e=>by
  obtain⟨u',e',ru'⟩:=r.get e
  have:ax.toArray[m]=u':=by
   have:=zr.mp e'
   simpa using this.2
  rw[this]
  exact Az ru' (fl m w e)
 have hs:sizeLine=16777216:=zT
 refine yG PySem.F.slot_list_index ⟨_,ho,rfl⟩ PySem.F.entry_list_index (PySem.F.args_list_index_2 _ _) (SeqAt.list_indexAt a ax.toArray n dd sl u (FD y) j (by simp;lia) (by lia) ?_ ?_) ⟨ho,fun w hw=>lV ru fy r fx w (by simpa using hw),⟨.int j,H,I.tok _,⟨_,rfl⟩,q⟩⟩
 ·rw[at' j _ z hj];exact hit
 ·intro m hm hmj
  have hmx:m<xs.length:=by lia
  rw[at' m hm _ (zj hmx)]
  exact Wt m _ hmj (zj hmx)
def R7:R2:=fun x y H Q=>∃z n,x=.str z∧y=.int n∧MulOk z n∧Q (.str (PySem.Txt.mul z n)) H
theorem AO:gp X (binaryOp .Mult) R7:=by
 intro pins s σ H x y v u Q I rx ry h
 obtain⟨z,n,rfl,rfl,hm,q⟩:=h
 obtain⟨t,rfl⟩:=rx
 obtain⟨t',rfl⟩:=ry
 exact SB.mul hm fun t'' k=>⟨.str _,H,I.tok k,⟨_,rfl⟩,q⟩
section
variable{σ:St}{H:Hp}{te tb:TE}{K:Frag}
end
def JM(w:World)(K:Frag)(a:Addr)(kvs:List (Str×V)):Prop:=(a == sysModules)=false∧∃(o:Obj) (es:Array DictEntry) (ep:Nat),K.lookup a=some o∧o.ExactDict∧o.data=.dict es ep ∧
 Paired (fun (e:DictEntry) (kv:Str×V)=>e.hash=hashStr w kv.1∧(∃t,e.key=.str kv.1 t)∧RelV kv.2 e.val) es.toList kvs∧(kvs.map Prod.fst).Nodup
theorem qx(z:Str):∀kvs:List (Str×V),fN (kvs.map fun p=>((.inr p.1:Key),p.2)) (.inr z)=kvs.lookup z
 |[]=>rfl
 | (x,v)::r=>by
  rw[zM,zJ]
  by_cases e:z=x
  ·subst e
   rw[qh rfl]
   simp
  ·have e1:(z == x)=false:=by simpa using e
   rw[qj (fun q=>e (yz q).symm),e1]
   exact qx z r
section
variable{X:Cx}{pins:List (Addr×Obj)}{σ:St}{H:Hp}{s:Shared}{a:Addr}{kvs:List (Str×V)}
theorem AQ(I:Inv X pins σ H s)(d:JM X.w X.K a kvs):(a == sysModules)=false∧∃vs,KV (kvs.map fun p=>((.inr p.1:Key),p.2)) vs∧s.heap.DictOf (aF X.prog X.w) a vs:=by
 obtain⟨ns,o,es,ep,hk,hx,hd,hp,hn⟩:=d
 have all:∀(es:List DictEntry) (kvs:List (Str×V)),Paired (fun (e:DictEntry) (kv:Str×V)=>e.hash=hashStr X.w kv.1∧(∃t,e.key=.str kv.1 t)∧RelV kv.2 e.val) es kvs →
   ∃vs:List (Key×Value),KV (kvs.map fun p=>((.inr p.1:Key),p.2)) vs∧Pairs (aF X.prog X.w) es vs∧vs.map (·.1)=kvs.map (fun p=>(.inr p.1:Key))∧∀e∈es,∃k,(aF X.prog X.w).is k e.key=true∧e.hash=(aF X.prog X.w).hash k:=by
  intro es kvs hp
  induction hp with
  |nil=>exact⟨[],.nil,.nil,rfl,by simp⟩
  |@cons e kv UR kvs' h t ih =>
   obtain⟨vs,k1,k2,k3,k4⟩:=ih
   obtain⟨h1,⟨tk,h2⟩,h3⟩:=h
   have hi:(aF X.prog X.w).is (.inr kv.1) e.key=true:=by rw[h2];exact iX _ _ _ _
   refine⟨(.inr kv.1,e.val)::vs,.cons ⟨rfl,h3⟩ k1,.cons hi rfl k2,by rw[zM,zM,k3],fun e' he=>?_⟩
   rcases ze.mp he with rfl|he
   ·exact⟨.inr kv.1,hi,h1⟩
   ·exact k4 e' he
 obtain⟨vs,k1,k2,k3,k4⟩:=all _ _ hp
 refine⟨ns,vs,k1,o,es,ep,I.lL a o hk,hx,hd,fun e he=>k4 e (by simpa using he),k2,?_⟩
 rw[k3]
 have:(kvs.map fun p=>(.inr p.1:Key))=(kvs.map Prod.fst).map Sum.inr:=by rw[zF];rfl
 rw[this]
 exact List.Pairwise.map _ (fun x y h q=>h (yz q)) hn
theorem Gf{w:World}{K:Frag}(hw:X.w=w)(hK:X.K=K):gp X (compareOp .In) (fun x y H Q=>∃z a kvs,x=.str z∧y=.ref a∧JM w K a kvs∧Q (.bl (kvs.lookup z).isSome) H):=by
 subst hw hK
 intro pins s σ H x y v u Q I rx ry h
 obtain⟨z,a,kvs,rfl,rfl,d,q⟩:=h
 cases ry
 obtain⟨ns,vs,rel,dd⟩:=AQ I d
 refine wpAny_in_of (kJ (k:=.inr z) rx) ns dd.mapOf ?_
 rw[← (rel.val (.inr z)).m8,qx]
 exact⟨.bl _,H,I.tok _,rfl,q⟩
def R8(w:World)(K:Frag):V→List V→Hp→VK→Prop:=fun x vs H Q=>∃a z kvs,x=.ref a∧vs=[.str z]∧JM w K a kvs∧Q ((kvs.lookup z).getD .aw) H
theorem JN{w:World}{K:Frag}(hw:X.w=w)(hK:X.K=K):Nr X "dict.get" (R8 w K):=by
 subst hw hK
 intro pins s σ H x vs v us Q I rx rv h
 obtain⟨a,z,kvs,rfl,rfl,d,q⟩:=h
 cases rx
 obtain⟨u,rfl,ru⟩:=rv.one
 obtain⟨ns,vs,rel,dd⟩:=AQ I d
 refine call_meetsIn ym dd.typeIs PySem.F.entry_dict_get (PySem.F.args_dict_get_2 _ _) (meets_dict_get (aF X.prog X.w) a (kJ (k:=.inr z) ru) ns) ⟨_,dd.mapOf,_,H,I.tok _,?_,q⟩
 rw[← qx]
 exact (rel.val (.inr z)).getD rfl
theorem Gg{w:World}{K:Frag}{o e:Expr}{apos aQ:Pos}{td ty:TE}(hw:X.w=w)(hK:X.K=K)(ho:PE X o td)(he:PE X e ty)(m:M1 X o "get" apos e aQ):PE X (.Call (.Attribute o "get" apos) [e] [] aQ)
  (fun σ H Q=>td σ H fun x H1=>∃a kvs,x=.ref a∧JM w K a kvs∧ty σ H1 fun y H2=>∃z,y=.str z∧Q ((kvs.lookup z).getD .aw) H2):=by
 subst hw hK
 intro pins s σ H Q I h
 refine wpAny_Call_method m.base m.E_ m.line PySem.F.plainAttrs_dict ym PySem.F.type_dict_get (bj (ho pins s σ H _ I h) fun u s1 ⟨x,H1,I1,rx,a,kvs,ex,d,q1⟩=>?_)
 subst ex
 obtain rfl:u=Value.ref a:=rx
 obtain⟨ns,vs,rel,dd⟩:=AQ I1 d
 obtain⟨ob,_,_,h1,h2,_⟩:=id dd
 refine⟨dd.typeIs,fun b q=>by cases q;exact⟨ob,h1,h2.2.1⟩,?_⟩
 rw[m.trees]
 refine Calls.callWith_builtin rfl (Calls.evalArgs_plain (yp (bj (he pins s1 σ H1 _ I1 q1) fun iv s2 ⟨y,H2,I2,ry,z,ey,q2⟩=>Calls.spliced_nil ?_)))
 subst ey
 exact JN rfl rfl pins s2 σ H2 (.ref a) [.str z] _ [iv] Q I2 rfl (.cons ry .nil) ⟨a,z,kvs,rfl,rfl,d,q2⟩
end
theorem Ob:bootBuiltins "min" = some (.builtin "min"):=by trivial
section
variable{K:Frag}{σ:St}{H:Hp}
end
section
variable{prog:Program}{w:World}{A:Around}{E:Value→Shared→Prop}{s:Shared}{n l0 l1 l2:Nat}{i:Nat}{oU r9 xs2:Array Value}
end
section
variable{K:Frag}{σ:St}{H:Hp}
end
section
variable{X:Cx}
def JO:V→List V→Hp→VK→Prop:=fun x vs H Q=>∃z y,x=.str z∧vs=[.str y]∧Q (.bl (PySem.Txt.startswith z y)) H
theorem sQ:Nr X "str.startswith" JO:=by
 intro pins s σ H x vs v us Q I rx rv h
 obtain⟨z,y,rfl,rfl,q⟩:=h
 obtain⟨t,rfl⟩:=rx
 obtain⟨u,rfl,ru⟩:=rv.one
 obtain⟨t',rfl⟩:=ru
 exact PySem.SC.startswith ⟨.bl _,H,I,rfl,q⟩
def Xb:V→Option Int→Option Int→Hp→VK→Prop:=fun x lo hi H Q=>∃z,x=.str z∧z.length≤sizeLine∧Q (.str (PySem.Txt.slice z lo hi)) H
theorem Oc:Rq X Xb:=by
 intro pins s σ H x v vl vu lo hi sl Q I rx hs pl pu h
 obtain⟨z,rfl,hz,q⟩:=h
 obtain⟨t,rfl⟩:=rx
 obtain⟨o,e1,e2,e3⟩:=hs
 refine⟨"str",_,F.slot_str_getitem.lookup,typeIs_str _ _ _,?_⟩
 have fin:∀k,∀t':Tok,EP X pins σ Q (.str (PySem.Txt.slice z lo hi) t') { s with toks:=k }:=fun k t'=>⟨.str _,H,I.tok k,⟨_,rfl⟩,q⟩
 cases pl with
 |none =>
  cases pu with
  |none=>exact wpAny_getItem_str_slice (l:=none) (u:=none) (st:=none) ⟨o,e1,e2,e3⟩ rfl (post_val_or_str ⟨zL (Txt.slice_le z _ _) hz,fun t' k=>fin k t'⟩)
  |int j uj=>exact wpAny_getItem_str_slice (l:=none) (u:=some (j,uj)) (st:=none) ⟨o,e1,e2,e3⟩ rfl (post_val_or_str ⟨zL (Txt.slice_le z _ _) hz,fun t' k=>fin k t'⟩)
 |int i ui =>
  cases pu with
  |none=>exact wpAny_getItem_str_slice (l:=some (i,ui)) (u:=none) (st:=none) ⟨o,e1,e2,e3⟩ rfl (post_val_or_str ⟨zL (Txt.slice_le z _ _) hz,fun t' k=>fin k t'⟩)
  |int j uj=>exact wpAny_getItem_str_slice (l:=some (i,ui)) (u:=some (j,uj)) (st:=none) ⟨o,e1,e2,e3⟩ rfl (post_val_or_str ⟨zL (Txt.slice_le z _ _) hz,fun t' k=>fin k t'⟩)
end
end L2
namespace L2
open PySem PySem.Spec PyProof.Rows PySem.SeqAt
theorem qy:∀{bs:List Bool}{us:List Value},Vals (bs.map V.bl) us→us=bs.map Value.bool
 |[],_,.nil=>rfl
 |b::bs,_,.cons r q=>by
  cases r
  rw[qy q]
  rfl
def JP(K:Frag):V→List V→Hp→VK→Prop:=fun x vs H Q=>∃(a:Addr) (bs:List Bool) (k:Bool),x=.ref a∧vs=[.bl k]∧iW K H a (bs.map V.bl)∧Q (.int (bs.count k:Nat)) H
theorem D1:Nr X "list.count" (JP X.K):=by
 intro pins s σ H x vs v us Q I rx rv h
 obtain⟨a,bs,k,rfl,rfl,hq,q⟩:=h
 cases rx
 obtain⟨u,rfl,ru⟩:=rv.one
 cases ru
 obtain⟨ax,r,p,hz⟩:=I.list hq
 have e:=qy r
 subst e
 obtain⟨⟨cls,dd,data,sl⟩,ho,hc,n,hd⟩:=p.isList
 simp only at hc hd
 subst hc hd
 refine yG PySem.F.slot_list_count ⟨_,ho,rfl⟩ PySem.F.entry_list_count (PySem.F.args_list_count_2 _ _) (list_countAt a (bs.map Value.bool).toArray n dd sl (.bool k) (isBoolOf k)) ⟨ho,fun y hy=>?_,?_⟩
 ·have hy:y∈bs.map Value.bool:=by simpa using hy
  obtain⟨b,_,rfl⟩:=zf.mp hy
  exact EqAt.bool_bool b k
 ·have ec:((bs.map Value.bool).countP (isBoolOf k):Nat)=bs.count k:=by
   rw[List.countP_map]
   rfl
  rw[show (bs.map Value.bool).toArray.toList=bs.map Value.bool from rfl,ec]
  exact⟨.int _,H,I.tok _,⟨_,rfl⟩,q⟩
end L2
namespace L2
open PySem PySem.Spec PyProof.Rows
theorem uO(l:Addr)(items:Array Value)(n:Nat)(b:Addr)(qz:Array Value)(n2:Nat)(sl:Array (Option Value))(Ql:¬(!items.isEmpty && Builtin.List.listTooLong (items.size+qz.size))=true)(Xc:items.size≤sizeLine)(Ab:items.size+qz.size≤sizeLine+1) :
  Meets (Builtin.«list.extend» ⟨[.ref l,.ref b],[]⟩) (fun _ R s=>s.heap.get? l=some { cls:=.type "list",dict:=none,data:=.seq items n,slots:=#[] }∧s.heap.get? b=some { cls:=.type "tuple",dict:=none,data:=.seq qz n2,slots:=sl }∧R (.ok (.ret Value.none)) { s with heap:=s.heap.update l (Obj.mapSeq fun x=>x++qz),toks:=s.toks }) :=
 .of_wp fun prog w A R s h=>by
  obtain⟨hp,g,d,tk,os⟩:=s;obtain⟨hl,hb,h⟩:=h;have f1:=AutoSeq1.idx_int;have f2:=AutoSeq1.sub_tuple_tuple;have f3:=AutoSeq1.sub_list_list;have f4:=AutoSeq1.sub_tuple_list;have f5:=AutoSeq1.sub_list_tuple;
  have Xd:(items++qz).size≤sizeLine+1:=by rw[Array.size_append];exact Ab
  wp_walk using (wpAny_updateSeq hl rfl (hz:=Xc) (_hz':=Xd)),AutoSeq1.wpAny_loadPart' hl,AutoSeq1.wpAny_loadPart' hb;exact⟨_,rfl,h⟩
theorem ni:fillsNumberSlot (.type "tuple") "mul" = pure false :=
 PySem.fillsNumberSlot_seq (id := "tuple.__mul__") (r:=some (.builtin "tuple.__rmul__")) F.slot_tuple_mul.lookup (by trivial) F.slot_tuple_rmul.lookup (by trivial)
theorem uP:seqRepeat? (.type "tuple")=pure (some (.builtin "tuple.__mul__")):=by
 unfold seqRepeat?
 rw[PySem.seqSlot_of (T := "tuple") (name := "__mul__") (id := "tuple.__mul__") F.slot_tuple_mul.lookup (by trivial),PySem.seqSlot_of (T := "tuple") (name := "__rmul__") (id := "tuple.__rmul__") F.slot_tuple_rmul.lookup (by trivial)]
 rfl
theorem qA(a:Int)(t:Tok)(l:Addr)(items:Array Value)(n:Nat)(dd:Option Addr)(sl:Array (Option Value)) :
  Meets (Builtin.«int.__rmul__» ⟨[.int a t,.ref l],[]⟩) (fun _ R s=>s.heap.get? l=some { cls:=.type "tuple",dict:=dd,data:=.seq items n,slots:=sl }∧R (.ok (.ret Value.notImplemented)) s) :=
 .of_wp fun prog w A R s h=>by obtain⟨hp,g,d,tk,os⟩:=s;obtain⟨hl,h⟩:=h;wp_walk;exact⟨_,rfl,h⟩
theorem wU(l:Addr)(v:Value)(n:Nat)(dd:Option Addr)(sl:Array (Option Value))(u:Tok) :
  Meets (Builtin.«tuple.__mul__» ⟨[.ref l,.int 1 u],[]⟩) (fun _ R s=>s.heap.get? l=some { cls:=.type "tuple",dict:=dd,data:=.seq #[v] n,slots:=sl }∧R (.ok (.ret (.ref l))) { s with heap:=s.heap,toks:=s.toks }) :=
 .of_wp fun prog w A R s h=>by
  obtain⟨hp,g,d,tk,os⟩:=s;obtain⟨hl,h⟩:=h;have f1:=AutoSeq1.idx_int;have f2:=AutoSeq1.sub_tuple_tuple
  wp_walk using AutoSeq1.wpAny_loadPart' hl;exact⟨_,rfl,h⟩
theorem AR(l:Addr)(v:Value)(n:Nat)(dd:Option Addr)(sl:Array (Option Value))(x:Int)(u:Tok)(h1:2≤x)(h2:x≤1000) :
  Meets (Builtin.«tuple.__mul__» ⟨[.ref l,.int x u],[]⟩) (fun _ R s=>s.heap.get? l=some { cls:=.type "tuple",dict:=dd,data:=.seq #[v] n,slots:=sl }∧R (.ok (.ret (Value.ref s.heap.objs.size))) { s with heap:=s.heap.push { cls:=Value.type "tuple",data:=Data.seq (List.foldl (fun x1 x2=>x1++x2) #[] (List.replicate x.toNat #[v])) },toks:=s.toks }) :=
 .of_wp fun prog w A R s h=>by
  obtain⟨hp,g,d,tk,os⟩:=s;obtain⟨hl,h⟩:=h;have f1:=AutoSeq1.idx_int;have f2:=AutoSeq1.sub_tuple_tuple
  have c0:-9223372036854775808≤x:=by lia
  have c1:x<9223372036854775808:=by lia
  have c2:¬ x=1:=by lia
  have c3:0<x:=by lia
  have c4:x≤1152921504606846975:=by lia
  have c5:Builtin.Tuple.tupleTooMany x=false:=by simp [Builtin.Tuple.tupleTooMany,sizeLine];lia
  have hsz:(List.foldl (fun x1 x2=>x1++x2) #[] (List.replicate x.toNat #[v])).size≤sizeLine:=by
   rw[AutoSeq1.size_joined]
   show 0+x.toNat * 1≤16777216
   lia
  wp_walk using AutoSeq1.wpAny_loadPart' hl;exact⟨_,rfl,h⟩
section
variable{X:Cx}{K:Frag}
def Gi:V→List V→Hp→VK→Prop:=fun x vs H Q=>∃l b xs zs,x=.ref l∧vs=[.ref b]∧H l=some (.lst xs)∧H b=some (.tup zs)∧xs.length+zs.length≤sizeLine∧Q .aw (upd H l (.lst (xs++zs)))
theorem AS:WA X "list.extend" Gi:=by
 intro pins s σ H x vs v us Q I rx rv h
 obtain⟨l,b,xs,zs,rfl,rfl,hH,hB,hz,q⟩:=h
 cases rx
 obtain⟨u,rfl,ru⟩:=rv.one
 cases ru
 obtain⟨z,ax,n,r,hl,e⟩:=I.Dz hH
 obtain⟨z2,mZ,r2,⟨c2,d2,dt2,wC⟩,e2,ec,ed,n2,en⟩:=(show aV X.prog X.w H s.heap b (.tup zs) from I.aH b _ hB)
 dsimp only at ec ed en
 subst ec ed en
 have sH:=r2.length
 have hsz:ax.toArray.size+mZ.toArray.size≤sizeLine:=by rw[zh,zh];lia
 have R9:¬ (!ax.toArray.isEmpty && Builtin.List.listTooLong (ax.toArray.size+mZ.toArray.size))=true:=by
  rw[FG hsz,Bool.and_false]
  exact zd
 refine yG F.slot_list_extend ⟨_,e,rfl⟩ F.entry_list_extend (F.args_list_extend_2 _ _)
  (uO l ax.toArray n b mZ.toArray n2 wC R9 (by rw[zh];lia) (by lia)) ⟨e,e2,?_⟩
 refine⟨.aw,_,I.Nz (its':=ax++mZ) hH e (by simp) (r.append r2) ?_,rfl,q⟩
 rw[zl]
 lia
theorem sR(hK:X.K=K):dq X (.builtin "isinstance") (fun xs H Q=>∃a C b cs r,xs=[.ref a,.ref b]∧H a=some (sL a (.ref C))∧XC K C∧XA K C∧H b=some (.tup cs)∧(∀ax,Vals cs ax→kitAny K (.ref C) ax=some r)∧Q (.bl r) H):=by
 subst hK
 intro pins s σ H xs us Q I r h
 obtain⟨a,C,b,cs,r',rfl,ha,cC,xa,hb,e,q⟩:=h
 obtain⟨v,w',rfl,rv,lU⟩:=vals2 r
 cases (show v=Value.ref a from rv)
 cases (show w'=Value.ref b from lU)
 obtain⟨p,_⟩:=I.aH a _ ha
 obtain⟨z2,mZ,r2,⟨c2,d2,dt2,wC⟩,e2,ec,ed,n2,en⟩:=(show aV X.prog X.w H s.heap b (.tup cs) from I.aH b _ hb)
 dsimp only at ec ed en
 subst ec ed en
 exact PySem.W.kia_tup (wN cC xa) I.lL p e2 (e _ r2) (fun z=>nomatch z) fun tk=>⟨.bl r',H,I.tok tk,rfl,q⟩
theorem uQ(v:Value):∀(n:Nat) (acc:List Value),List.foldl (fun x1 x2=>x1++x2) acc.toArray (List.replicate n #[v])=(acc++List.replicate n v).toArray
 |0,acc=>by simp
 |n+1,acc=>by
  rw[List.replicate_succ,yu,show acc.toArray++#[v]=(acc++[v]).toArray by simp,uQ v n,List.append_assoc]
  rfl
theorem qB(r:RelV x v):∀n,Vals (List.replicate n x) (List.replicate n v)
 |0=>.nil
 |n+1=>.cons r (qB r n)
def R_:R2:=fun x y H Q=>∃a z n,x=.ref a∧y=.int n∧H a=some (.tup [z])∧1≤n∧n≤1000∧(n=1→Q (.ref a) H)∧(2≤n→∀p,H p=none→Q (.ref p) (upd H p (.tup (List.replicate n.toNat z))))
theorem JQ:gp X (binaryOp .Mult) R_:=by
 intro pins s σ H x y v u Q I rx ry h
 obtain⟨a,z,n,rfl,rfl,ha,h1,h2,q1,q2⟩:=h
 cases rx
 obtain⟨t',rfl⟩:=ry
 obtain⟨z2,mZ,r2,⟨c2,d2,dt2,wC⟩,ho,ec,ed,n2,en⟩:=(show aV X.prog X.w H s.heap a (.tup [z]) from I.aH a _ ha)
 dsimp only at ec ed en
 subst ec ed en
 obtain⟨w,rfl,lU⟩:=r2.one
 refine wpAny_binaryOp_repeat_ref (T := "tuple") (U := "int") (by decide) ⟨_,ho,rfl⟩ (fun s'=>typeIs_int s' n t') ni F.fills_int_mul F.slot_int_rmul uP F.slot_int_index.lookup
  (yG F.slot_int_rmul (typeIs_int s n t') F.entry_int_rmul (F.args_int_rmul_2 _ _) (qA n t' a #[w] n2 none wC) ⟨ho,rfl,⟨_,ho,rfl⟩,?_⟩)
 by_cases e:n=1
 ·subst e
  exact yG F.slot_tuple_mul ⟨_,ho,rfl⟩ F.entry_tuple_mul (F.args_tuple_mul_2 _ _) (wU a w n2 none wC t') ⟨ho,.ref a,H,I.tok _,rfl,q1 rfl⟩
 ·have h3:2≤n:=by lia
  refine yG F.slot_tuple_mul ⟨_,ho,rfl⟩ F.entry_tuple_mul (F.args_tuple_mul_2 _ _) (AR a w n2 none wC n t' h3 h2) ⟨ho,?_⟩
  rw[show (#[]:Array Value)=([]:List Value).toArray from rfl,uQ,List.nil_append]
  refine⟨.ref s.heap.objs.size,_,I.laid (t':=s.toks) (fun _ _ q=>zb _ q) (zo _) ?_,rfl,q2 h3 _ I.fresh⟩
  exact (show aV X.prog X.w _ _ _ (.tup (List.replicate n.toNat z)) from ⟨by rw[zG];exact U_ (by lia),_,qB lU _,fg.new _ _⟩)
end
inductive D where
 |aw|bl (b:Bool)|int (i:Int)|str (x:Str)|tup (ds:List D)|ko (ds:List D)|kt (ds:List D)|ref (a:Addr)|ty (n:String)
def Xe(K:Frag)(a:Addr)(xs:List V):Prop:=∃(o:Obj) (ax:Array Value) (n:Nat),K.lookup a=some o∧o.cls=.type "tuple" ∧ o.data=.seq ax n∧ax.size≤sizeLine∧Vals xs ax.toList
def LH(K:Frag)(H:Hp)(a:Addr)(xs:List V):Prop :=
 (∃o,H a=some (.kN o (.lst xs)))∨∃(o:Obj) (ax:Array Value) (n:Nat),K.lookup a=some o∧o.cls=.type "list" ∧ o.dict=none∧o.data=.seq ax n∧ax.size≤sizeLine∧Vals xs ax.toList
theorem LH.sq{K:Frag}{H:Hp}{a:Addr}{xs:List V}(h:LH K H a xs):iW K H a xs:=by
 rcases h with h|h
 ·exact .inl (.inr h)
 ·exact .inr h
structure Kp(K:Frag)(H H':Hp):Prop where
 t:∀a xs,H a=some (.tup xs)→H' a=some (.tup xs)
 r:∀a xs,LH K H a xs→LH K H' a xs
 f:∀a o u,H a=some (.kN o u)→H' a=some (.kN o u)
theorem Kp.refl{K:Frag}(H:Hp):Kp K H H:=⟨fun _ _ h=>h,fun _ _ h=>h,fun _ _ _ h=>h⟩
theorem Kp.trans{K:Frag}{H H1 H2:Hp}(a:Kp K H H1)(b:Kp K H1 H2):Kp K H H2:=⟨fun p xs h=>b.t p xs (a.t p xs h),fun p xs h=>b.r p xs (a.r p xs h),fun p o u h=>b.f p o u (a.f p o u h)⟩
theorem Kp.of{K:Frag}{H H':Hp}(h:∀b o,H b=some o→H' b=some o∨(∀xs,o≠.tup xs)∧∀u v,o≠.kN u v):Kp K H H' where
 t:=fun a xs q=>(h _ _ q).resolve_right fun z=>z.1 _ rfl
 r:=fun a xs q=>by
  rcases q with ⟨o,q⟩|q
  ·exact .inl ⟨o,(h _ _ q).resolve_right fun z=>z.2 _ _ rfl⟩
  ·exact .inr q
 f:=fun a o u q=>(h _ _ q).resolve_right fun z=>z.2 _ _ rfl
theorem Kp.new{K:Frag}{H:Hp}{a:Addr}{o:HO}(h:H a=none):Kp K H (upd H a o):=.of fun b u e=>.inl (by rw[ao (ar e h)];exact e)
theorem Kp.put{K:Frag}{H:Hp}{a:Addr}{o u:HO}(h:H a=some o)(h1:∀xs,o≠.tup xs)(h2:∀u v,o≠.kN u v):Kp K H (upd H a u):=.of fun b v e=>by
 by_cases q:b=a
 ·subst q;rw[h] at e;cases e;exact .inr ⟨h1,h2⟩
 ·exact .inl (by rw[ao q];exact e)
mutual
def Rv(K:Frag)(H:Hp):D→V→Prop
 |.aw,v=>v=.aw
 |.bl b,v=>v=.bl b
 |.int i,v=>v=.int i
 |.str z,v=>v=.str z
 |.tup ds,v=>∃a xs,v=.ref a∧H a=some (.tup xs)∧RvAll K H ds xs
 |.ko ds,v=>∃a xs,v=.ref a∧LH K H a xs∧RvAll K H ds xs
 |.kt ds,v=>∃a xs,v=.ref a∧Xe K a xs∧RvAll K H ds xs
 |.ref a,v=>v=.ref a
 |.ty n,v=>v=.ty n
def RvAll(K:Frag)(H:Hp):List D→List V→Prop
 |[],xs=>xs=[]
 |d::ds,xs=>∃y ys,xs=y::ys∧Rv K H d y∧RvAll K H ds ys
end
section
variable{K:Frag}{H H':Hp}
theorem i5:Rv K H .aw .aw:=by simp only [Rv]
theorem bS(b:Bool):Rv K H (.bl b) (.bl b):=by simp only [Rv]
theorem aO(i:Int):Rv K H (.int i) (.int i):=by simp only [Rv]
theorem i6(z:Str):Rv K H (.str z) (.str z):=by simp only [Rv]
theorem bL(a:Addr):Rv K H (.ref a) (.ref a):=by simp only [Rv]
theorem Sa(n:String):Rv K H (.ty n) (.ty n):=by simp only [Rv]
theorem LI(h:Xe K a xs)(t:RvAll K H ds xs):Rv K H (.kt ds) (.ref a):=by simp only [Rv];exact⟨a,xs,rfl,h,t⟩
theorem kR(h:H a=some (.tup xs))(t:RvAll K H ds xs):Rv K H (.tup ds) (.ref a):=by simp only [Rv];exact⟨a,xs,rfl,h,t⟩
theorem Gj(h:LH K H a xs)(t:RvAll K H ds xs):Rv K H (.ko ds) (.ref a):=by simp only [Rv];exact⟨a,xs,rfl,h,t⟩
theorem Rv.aw(h:Rv K H .aw v):v=.aw:=by simpa only [Rv] using h
theorem Rv.bl(h:Rv K H (.bl b) v):v=.bl b:=by simpa only [Rv] using h
theorem Rv.int(h:Rv K H (.int i) v):v=.int i:=by simpa only [Rv] using h
theorem Rv.str(h:Rv K H (.str z) v):v=.str z:=by simpa only [Rv] using h
theorem Rv.ref(h:Rv K H (.ref a) v):v=.ref a:=by simpa only [Rv] using h
theorem Rv.ty(h:Rv K H (.ty n) v):v=.ty n:=by simpa only [Rv] using h
theorem Rv.kt(h:Rv K H (.kt ds) v):∃a xs,v=.ref a∧Xe K a xs∧RvAll K H ds xs:=by simpa only [Rv] using h
theorem Rv.tup(h:Rv K H (.tup ds) v):∃a xs,v=.ref a∧H a=some (.tup xs)∧RvAll K H ds xs:=by simpa only [Rv] using h
theorem Rv.ko(h:Rv K H (.ko ds) v):∃a xs,v=.ref a∧LH K H a xs∧RvAll K H ds xs:=by simpa only [Rv] using h
theorem bB:RvAll K H [] []:=by simp only [RvAll]
theorem aT(h:Rv K H d x)(t:RvAll K H ds xs):RvAll K H (d::ds) (x::xs):=by simp only [RvAll];exact⟨x,xs,rfl,h,t⟩
theorem RvAll.nil(h:RvAll K H [] xs):xs=[]:=by simpa only [RvAll] using h
theorem RvAll.cons(h:RvAll K H (d::ds) xs):∃y ys,xs=y::ys∧Rv K H d y∧RvAll K H ds ys:=by simpa only [RvAll] using h
mutual
theorem Rv.ts(s:Kp K H H'):∀(d:D) {v:V},Rv K H d v→Rv K H' d v
 |.aw,v,h=>by simpa only [Rv] using h
 |.bl b,v,h=>by simpa only [Rv] using h
 |.int i,v,h=>by simpa only [Rv] using h
 |.str z,v,h=>by simpa only [Rv] using h
 |.tup ds,v,h=>by
  obtain⟨a,xs,rfl,e,t⟩:=h.tup
  exact kR (s.t _ _ e) (RvAll.ts s ds t)
 |.ko ds,v,h=>by
  obtain⟨a,xs,rfl,e,t⟩:=h.ko
  exact Gj (s.r _ _ e) (RvAll.ts s ds t)
 |.kt ds,v,h=>by
  obtain⟨a,xs,rfl,e,t⟩:=h.kt
  exact LI e (RvAll.ts s ds t)
 |.ref a,v,h=>by simpa only [Rv] using h
 |.ty n,v,h=>by simpa only [Rv] using h
theorem RvAll.ts(s:Kp K H H'):∀(ds:List D) {xs:List V},RvAll K H ds xs→RvAll K H' ds xs
 |[],xs,h=>by rw[h.nil];exact bB
 |d::ds,xs,h=>by
  obtain⟨y,ys,rfl,h1,h2⟩:=h.cons
  exact aT (Rv.ts s d h1) (RvAll.ts s ds h2)
end
theorem RvAll.len:∀{ds:List D}{xs:List V},RvAll K H ds xs→xs.length=ds.length
 |[],xs,h=>by rw[h.nil];rfl
 |d::ds,xs,h=>by
  obtain⟨y,ys,rfl,_,h2⟩:=h.cons
  rw[zE,zE,h2.len]
theorem RvAll.get:∀{ds:List D}{xs:List V}{i:Nat}{d:D},RvAll K H ds xs→ds[i]?=some d→∃v,xs[i]?=some v∧Rv K H d v
 |[],xs,i,d,h,e=>by simp at e
 |d0::ds,xs,0,d,h,e=>by
  obtain⟨y,ys,rfl,h1,h2⟩:=h.cons
  simp at e;subst e;exact⟨y,rfl,h1⟩
 |d0::ds,xs,i+1,d,h,e=>by
  obtain⟨y,ys,rfl,h1,h2⟩:=h.cons
  obtain⟨v,e1,e2⟩:=h2.get (i:=i) (by simpa using e)
  exact⟨v,by simpa using e1,e2⟩
theorem RvAll.app:∀{ds es:List D}{xs ys:List V},RvAll K H ds xs→RvAll K H es ys→RvAll K H (ds++es) (xs++ys)
 |[],es,xs,ys,h,k=>by rw[h.nil];exact k
 |d::ds,es,xs,ys,h,k=>by
  obtain⟨y,zs,rfl,h1,h2⟩:=h.cons
  exact aT h1 (h2.app k)
theorem RvAll.take:∀{ds:List D}{xs:List V} (n:Nat),RvAll K H ds xs→RvAll K H (ds.take n) (xs.take n)
 |[],xs,n,h=>by rw[h.nil];simp only [List.take_nil];exact bB
 |d::ds,xs,0,h=>by simp only [List.take_zero];exact bB
 |d::ds,xs,n+1,h=>by
  obtain⟨y,zs,rfl,h1,h2⟩:=h.cons
  exact aT h1 (h2.take n)
theorem RvAll.drop:∀{ds:List D}{xs:List V} (n:Nat),RvAll K H ds xs→RvAll K H (ds.drop n) (xs.drop n)
 |[],xs,n,h=>by rw[h.nil];simp only [List.drop_nil];exact bB
 |d::ds,xs,0,h=>h
 |d::ds,xs,n+1,h=>by
  obtain⟨y,zs,rfl,h1,h2⟩:=h.cons
  exact h2.drop n
theorem RvAll.set:∀{ds:List D}{xs:List V}{d:D}{v:V} (n:Nat),RvAll K H ds xs→Rv K H d v→RvAll K H (ds.set n d) (xs.set n v)
 |[],xs,d,v,n,h,r=>by rw[h.nil];exact bB
 |d0::ds,xs,d,v,0,h,r=>by
  obtain⟨y,zs,rfl,h1,h2⟩:=h.cons
  exact aT r h2
 |d0::ds,xs,d,v,n+1,h,r=>by
  obtain⟨y,zs,rfl,h1,h2⟩:=h.cons
  exact aT h1 (h2.set n r)
theorem RvAll.dropLast:∀{ds:List D}{xs:List V},RvAll K H ds xs→RvAll K H ds.dropLast xs.dropLast
 |[],xs,h=>by rw[h.nil];exact bB
 |[d],xs,h=>by
  obtain⟨y,zs,rfl,h1,h2⟩:=h.cons
  rw[h2.nil];exact bB
 |d::e::ds,xs,h=>by
  obtain⟨y,zs,rfl,h1,h2⟩:=h.cons
  obtain⟨y2,zs2,rfl,h3,h4⟩:=id h2.cons
  exact aT h1 (RvAll.dropLast h2)
theorem RvAll.bools:∀{bs:List Bool}{xs:List V},RvAll K H (bs.map D.bl) xs→xs=bs.map V.bl
 |[],xs,h=>h.nil
 |b::bs,xs,h=>by
  obtain⟨y,ys,rfl,h1,h2⟩:=h.cons
  rw[h1.bl,h2.bools];rfl
theorem RvAll.ints:∀{bs:List Int}{xs:List V},RvAll K H (bs.map D.int) xs→xs=bs.map V.int
 |[],xs,h=>h.nil
 |b::bs,xs,h=>by
  obtain⟨y,ys,rfl,h1,h2⟩:=h.cons
  rw[h1.int,h2.ints];rfl
theorem RvAll.strs:∀{bs:List Str}{xs:List V},RvAll K H (bs.map D.str) xs→xs=bs.map V.str
 |[],xs,h=>h.nil
 |b::bs,xs,h=>by
  obtain⟨y,ys,rfl,h1,h2⟩:=h.cons
  rw[h1.str,h2.strs];rfl
theorem Cm:∀(bs:List Int),RvAll K H (bs.map D.int) (bs.map V.int)
 |[]=>bB
 |b::bs=>aT (aO b) (Cm bs)
theorem uR:∀(bs:List Str),RvAll K H (bs.map D.str) (bs.map V.str)
 |[]=>bB
 |b::bs=>aT (i6 b) (uR bs)
def b_{κ:Type}(K:Frag)(H:Hp):List (κ×D)→List (κ×V)→Prop:=Paired fun p q=>p.1=q.1∧Rv K H p.2 q.2
theorem b_.ts(s:Kp K H H'):∀{ks:List (κ×D)}{vs:List (κ×V)},b_ K H ks vs→b_ K H' ks vs
 |_,_,.nil=>.nil
 |_,_,.cons r t=>.cons ⟨r.1,Rv.ts s _ r.2⟩ (b_.ts s t)
theorem b_.look(h:b_ K H ks vs)(f:Str):(∀d,ks.lookup f=some d→∃v,vs.lookup f=some v∧Rv K H d v)∧(ks.lookup f=none→vs.lookup f=none):=by
 induction h with
 |nil=>exact⟨fun d e=>(by cases e),fun _=>rfl⟩
 |@cons a b l m r t ih =>
  obtain⟨k,d⟩:=a
  obtain⟨k',v⟩:=b
  obtain⟨rfl,r⟩:=r
  simp only [zJ]
  cases q:f == k with
  |true=>exact⟨fun d' e=>⟨v,rfl,(by cases e;exact r)⟩,fun e=>(by cases e)⟩
  |false=>exact ih
end
inductive Ce where
 |lst (ds:List D)|dy (kvs:List (Key×D))|ins (c:Addr) (fs:List (Str×D))|well|exc (c:Addr)|tab (q:Str)
def Co(H:Hp)(q:Str)(ps:Array Value):Prop:=TriplesOk ps.toList∧∀pos cv,codeAmong pos ps.toList=some cv→∃c o vs t,cv=.ref c∧H c=some (.kN o (.own 0))∧o.data=.fields vs∧vs[1]?=some (.str q t)
abbrev aG:=Addr→Option Ce
def aG.set(S:aG)(a:Addr)(c:Ce):aG:=fun b=>if b=a then some c else S b
theorem aa{S:aG}{a:Addr}{c:Ce} : S.set a c a=some c:=by unfold aG.set;rw[if_pos rfl]
theorem af{S:aG}{a b:Addr}{c:Ce}(h:b≠a):S.set a c b=S b:=by unfold aG.set;rw[if_neg h]
theorem dr{S:aG}{a:Addr}{c e:Ce} : (S.set a c).set a e=S.set a e:=by
 funext b;unfold aG.set;split <;> rfl
theorem iK{S:aG}{a b:Addr}{c:Ce}(h:S a=some c)(h':S b=none):a≠b:=by
 intro e;subst e;rw[h] at h';cases h'
def Rc(K:Frag)(H:Hp)(a:Addr):Ce→Prop
 |.lst ds=>∃xs,H a=some (.lst xs)∧RvAll K H ds xs
 |.dy kvs=>∃vs,H a=some (.dK vs)∧b_ K H kvs vs
 |.ins c fs=>∃dx vs,H a=some (.ins c dx vs)∧b_ K H fs vs
 |.well=>∃x y z:Int,H a=some (.lst [.int x,.int y,.int z])
 |.exc c=>H a=some (sL a (.ref c))
 |.tab q=>∃ps,H a=some (.pF ps)∧Co H q ps
def Rs(K:Frag)(S:aG)(H:Hp):Prop:=∀a c,S a=some c→Rc K H a c
section
variable{K:Frag}{H H':Hp}{S:aG}{a b:Addr}{c:Ce}
theorem Rc.has(h:Rc K H a c):∃o,H a=some o∧(∀xs,o≠.tup xs)∧∀u v,o≠.kN u v:=by
 cases c with
 |lst ds=>obtain⟨xs,e,_⟩:=h;exact⟨_,e,fun _=>nofun,fun _ _=>nofun⟩
 |dy ds=>obtain⟨xs,e,_⟩:=h;exact⟨_,e,fun _=>nofun,fun _ _=>nofun⟩
 |ins c fs=>obtain⟨dx,vs,e,_⟩:=h;exact⟨_,e,fun _=>nofun,fun _ _=>nofun⟩
 |well=>obtain⟨x,y,z,e⟩:=h;exact⟨_,e,fun _=>nofun,fun _ _=>nofun⟩
 |exc c=>exact⟨_,h,fun _=>nofun,fun _ _=>nofun⟩
 |tab q=>obtain⟨ps,e,_⟩:=h;exact⟨_,e,fun _=>nofun,fun _ _=>nofun⟩
theorem Rc.keep(h:Rc K H a c)(e:∀o,H a=some o→H' a=some o)(s:Kp K H H'):Rc K H' a c:=by
 cases c with
 |lst ds=>obtain⟨xs,e1,r⟩:=h;exact⟨xs,e _ e1,RvAll.ts s _ r⟩
 |dy ds=>obtain⟨xs,e1,r⟩:=h;exact⟨xs,e _ e1,r.ts s⟩
 |ins c fs=>obtain⟨dx,vs,e1,r⟩:=h;exact⟨dx,vs,e _ e1,r.ts s⟩
 |well=>obtain⟨x,y,z,e1⟩:=h;exact⟨x,y,z,e _ e1⟩
 |exc c=>exact e _ h
 |tab q=>obtain⟨ps,e1,r,r2⟩:=h;exact⟨ps,e _ e1,r,fun pos cv z=>by obtain⟨c,o,vs,t,z1,z2,z3⟩:=r2 pos cv z;exact⟨c,o,vs,t,z1,s.f _ _ _ z2,z3⟩⟩
theorem Rs.fresh(h:Rs K S H)(e:H a=none):S a=none:=by
 cases q:S a with
 |none=>rfl
 |some c=>obtain⟨o,e1,_⟩:=(h a c q).has;rw[e] at e1;cases e1
theorem Rs.new(h:Rs K S H)(e:H a=none){o:HO}(r:Rc K (upd H a o) a c):Rs K (S.set a c) (upd H a o):=fun b x hb=>by
 by_cases q:b=a
 ·subst q;rw[aa] at hb;cases hb;exact r
 ·rw[af q] at hb
  exact (h b x hb).keep (fun o e1=>by rw[ao q];exact e1) (Kp.new e)
theorem Rs.grow(h:Rs K S H)(e:H a=none):Rs K S (upd H a o):=fun b x hb=>by
 obtain⟨u,e1,_⟩:=(h b x hb).has
 have q:b≠a:=ar e1 e
 exact (h b x hb).keep (fun o e1=>by rw[ao q];exact e1) (Kp.new e)
theorem Rs.h_(h:Rs K S H)(ha:S a=some e):Kp K H (upd H a o):=by
 obtain⟨u,e1,n1,n2⟩:=(h a e ha).has
 exact Kp.put e1 n1 n2
theorem Rs.put(h:Rs K S H){e:Ce}(ha:S a=some e){o:HO}(r:Rc K (upd H a o) a c):Rs K (S.set a c) (upd H a o):=fun b x hb=>by
 by_cases q:b=a
 ·subst q;rw[aa] at hb;cases hb;exact r
 ·rw[af q] at hb
  exact (h b x hb).keep (fun o e1=>by rw[ao q];exact e1) (h.h_ ha)
theorem Rs.lst(h:Rs K S H)(e:S a=some (.lst ds)):∃xs,H a=some (.lst xs)∧RvAll K H ds xs:=h a _ e
theorem Rs.dy(h:Rs K S H)(e:S a=some (.dy ds)):∃xs,H a=some (.dK xs)∧b_ K H ds xs:=h a _ e
theorem Rs.ins{c:Addr}{fs:List (Str×D)}(h:Rs K S H)(e:S a=some (.ins c fs)):∃dx vs,H a=some (.ins c dx vs)∧b_ K H fs vs:=h a _ e
end
abbrev KD:=D→aG→Prop
abbrev KX:=Addr→aG→Prop
abbrev SD:=List (Option D)
def fO(K:Frag)(H:Hp):SD→St→Prop:=Paired fun (o:Option D) (u:Option V)=>∀d,o=some d→∃v,u=some v∧Rv K H d v
section
variable{K:Frag}{H H':Hp}
theorem fO.ts(s:Kp K H H'):∀{σ:SD}{τ:St},fO K H σ τ→fO K H' σ τ
 |_,_,.nil=>.nil
 |_,_,.cons r t=>.cons (fun d e=>by obtain⟨v,e1,r1⟩:=r d e;exact⟨v,e1,Rv.ts s _ r1⟩) (fO.ts s t)
theorem fO.get:∀{σ:SD}{τ:St}{i:Nat}{d:D},fO K H σ τ→σ[i]?=some (some d)→∃v,τ[i]?=some (some v)∧Rv K H d v
 |_,_,i,d,.nil,e=>by simp at e
 |_,_,0,d,.cons r t,e=>by
  simp at e
  obtain⟨v,e1,r1⟩:=r d e
  exact⟨v,by simp [e1],r1⟩
 |_,_,i+1,d,.cons r t,e=>by
  obtain⟨v,e1,r1⟩:=fO.get (i:=i) t (by simpa using e)
  exact⟨v,by simpa using e1,r1⟩
theorem fO.set:∀{σ:SD}{τ:St} (i:Nat) {d:D}{v:V},fO K H σ τ→Rv K H d v→fO K H (σ.set i (some d)) (τ.set i (some v))
 |_,_,i,d,v,.nil,r=>.nil
 |_,_,0,d,v,.cons r t,q=>.cons (fun d' e=>by cases e;exact⟨v,rfl,q⟩) t
 |_,_,i+1,d,v,.cons r t,q=>.cons r (fO.set i t q)
theorem fO.unset:∀{σ:SD}{τ:St} (i:Nat) (o:Option V),fO K H σ τ→fO K H (σ.set i none) (τ.set i o)
 |_,_,i,o,.nil=>.nil
 |_,_,0,o,.cons r t=>.cons (fun d' e=>by cases e) t
 |_,_,i+1,o,.cons r t=>.cons r (fO.unset i o t)
theorem qC:∀(n:Nat) (τ:St),τ.length=n→fO K H (List.replicate n none) τ
 |0,[],_=>.nil
 |n+1,_::τ,h=>.cons (fun d e=>by cases e) (qC n τ (by simpa using h))
theorem qD:∀{ds:List D}{vs:List V},RvAll K H ds vs→fO K H (ds.map some) (vs.map some)
 |[],vs,h=>by rw[h.nil];exact .nil
 |d::ds,vs,h=>by
  obtain⟨y,ys,rfl,h1,h2⟩:=h.cons
  exact .cons (fun d' e=>by cases e;exact⟨y,rfl,h1⟩) (qD h2)
theorem fO.app:∀{σ aD:SD}{τ Qm:St},fO K H σ τ→fO K H aD Qm→fO K H (σ++aD) (τ++Qm)
 |_,_,_,_,.nil,h=>h
 |_,_,_,_,.cons r t,h=>.cons r (fO.app t h)
end
structure Rdy(Y:Cx)(E:St→XK)(b:Bool):Prop where
 call:∀p2 τ H s e s',Inv Y p2 τ H s→fU Y.prog Y.w Y.stack H s (E τ) e s'→Y.xe e s'
 own:b=true→∀p2 τ H s h' a cls args,Inv Y p2 τ H s→Heap.MadeExcOf s.heap h' a cls args→E τ cls none H→Y.xe (.ref a) { s with heap:=h' }
 loop:b=true→PassesOwn (model Y.prog Y.w) Y.A Y.env Y.xe
structure Ev(X:Cx)(b:Bool) where
 pn:List (Addr×Obj)
 xe:Value→Shared→Prop
 E:St→XK
 ok:Rdy { X with pn:=pn,xe:=xe } E b
abbrev Ev.cx{X:Cx}{b:Bool}(y:Ev X b):Cx:={ X with pn:=y.pn,xe:=y.xe }
def Cn(K:Frag)(H:Hp)(R:KD)(Q:VK):Prop:=∀d S v H',R d S→Rv K H' d v→Rs K S H'→Kp K H H'→Q v H'
def D2(K:Frag)(H:Hp)(Z:KX)(e:XK):Prop:=∀C S H',Z C S→Rs K S H'→Kp K H H'→e (.ref C) none H'
theorem Cn.kp{K:Frag}{H H1:Hp}{R:KD}{Q:VK}(h:Cn K H R Q)(k:Kp K H H1):Cn K H1 R Q:=fun d S v H' r v1 s1 k1=>h d S v H' r v1 s1 (k.trans k1)
theorem D2.kp{K:Frag}{H H1:Hp}{Z:KX}{e:XK}(h:D2 K H Z e)(k:Kp K H H1):D2 K H1 Z e:=fun C S H' r s1 k1=>h C S H' r s1 (k.trans k1)
abbrev TD:=SD→aG→KD→KX→Prop
def T(K:Frag)(E:St→XK)(t:TD):TE:=fun τ H Q=>∃σ S R Z,fO K H σ τ∧Rs K S H∧t σ S R Z∧Cn K H R Q∧D2 K H Z (E τ)
structure DE(K:Frag)(X:Cx)(e:Expr)(t:TD):Prop where
 of:∀{b:Bool} (y:Ev X b),PE y.cx e (T K y.E t)
abbrev qE:=SD→aG→(Bool→aG→Prop)→KX→Prop
def Vd(K:Frag)(H:Hp)(R:Bool→aG→Prop)(Q:Bool→Hp→Prop):Prop:=∀b S H',R b S→Rs K S H'→Kp K H H'→Q b H'
theorem Vd.kp{K:Frag}{H H1:Hp}{R:Bool→aG→Prop}{Q:Bool→Hp→Prop}(h:Vd K H R Q)(k:Kp K H H1):Vd K H1 R Q:=fun d S H' r s1 k1=>h d S H' r s1 (k.trans k1)
def Tt(K:Frag)(E:St→XK)(t:qE):TT:=fun τ H Q=>∃σ S R Z,fO K H σ τ∧Rs K S H∧t σ S R Z∧Vd K H R Q∧D2 K H Z (E τ)
structure DT(K:Frag)(X:Cx)(e:Expr)(t:qE):Prop where
 of:∀{b:Bool} (y:Ev X b),PT y.cx e (Tt K y.E t)
abbrev pK:=SD→aG→(List D→aG→Prop)→KX→Prop
def CnA(K:Frag)(H:Hp)(R:List D→aG→Prop)(Q:List V→Hp→Prop):Prop:=∀ds S vs H',R ds S→RvAll K H' ds vs→Rs K S H'→Kp K H H'→Q vs H'
def Ta(K:Frag)(E:St→XK)(t:pK):TA:=fun τ H Q=>∃σ S R Z,fO K H σ τ∧Rs K S H∧t σ S R Z∧CnA K H R Q∧D2 K H Z (E τ)
structure DA(K:Frag)(X:Cx)(es:List Expr)(t:pK):Prop where
 of:∀{b:Bool} (y:Ev X b),PA y.cx es (Ta K y.E t)
theorem PE.mono(h:PE X e t)(i:∀τ H Q,t' τ H Q→t τ H Q):PE X e t':=fun pins s τ H Q I q=>h pins s τ H Q I (i τ H Q q)
theorem PT.mono(h:PT X e t)(i:∀τ H Q,t' τ H Q→t τ H Q):PT X e t':=fun pins s τ H Q I q=>h pins s τ H Q I (i τ H Q q)
theorem PA.mono(h:PA X e t)(i:∀τ H Q,t' τ H Q→t τ H Q):PA X e t':=fun pos pins s τ H Q I q=>h pos pins s τ H Q I (i τ H Q q)
section
variable{K:Frag}{X:Cx}
def Sb(i:Nat):TD:=fun σ S R _=>∃d,σ[i]?=some (some d)∧R d S
def dC(d:D):TD:=fun _ S R _=>R d S
theorem dv(i:Nat)(hN:X.N[i]?=some x:=by rfl)(hv:P7 X.env.scope x:=by first|exact Or.inl rfl|exact Or.inr (Or.inl rfl)|exact Or.inr (Or.inr rfl))(hd:(x == ("__debug__" : Str))=false:=by decide)
  (rY:(x == ("__classdict__" : Str))=false:=by decide):DE K X (.Name x pos) (Sb i) :=
 ⟨fun y=>(ML (X:=y.cx) hN hv hd rY).mono <| by rintro τ H Q ⟨σ,S,R,Z,aA,hS,⟨d,e,r⟩,hR,_⟩;exact by obtain⟨v,e1,rv⟩:=aA.get e;exact⟨v,e1,hR d S v H r rv hS (Kp.refl _)⟩⟩
theorem DE.const(h:∀Y:Cx,Y.env=X.env→Y.mg=X.mg→PE Y e (tC v))(r:∀H,Rv K H d v):DE K X e (dC d) :=
 ⟨fun y=>(h y.cx rfl rfl).mono <| by rintro τ H Q ⟨σ,S,R,Z,aA,hS,q,hR,_⟩;exact hR d S v H q (r H) hS (Kp.refl _)⟩
theorem di:DE K X (.Constant (.int i) j pos) (dC (.int i)):=.const (fun _ _ _=>MM) fun _=>aO i
theorem ds:DE K X (.Constant (.str i) j pos) (dC (.str i)):=.const (fun _ _ _=>MO) fun _=>i6 i
theorem db:DE K X (.Constant (.bool i) j pos) (dC (.bl i)):=.const (fun _ _ _=>Lu) fun _=>bS i
theorem dn:DE K X (.Constant .none j pos) (dC .aw):=.const (fun _ _ _=>MN) fun _=>i5
theorem dg(hm:X.mg x=some u)(r:RelV v u)(rd:∀H,Rv K H d v)(hg:Gl X x:=by rfl)(hd:(x == ("__debug__" : Str))=false:=by decide):DE K X (.Name x pos) (dC d) :=
 .const (fun Y e1 e2=>BY (X:=Y) (u:=u) (show Y.env.kindOf x=_ by rw[e1];exact hg) (by rw[e2];exact hm) r hd) rd
theorem uS(hm:X.mg x=none)(hv:bootBuiltins x=some (.type n))(hg:Gl X x:=by rfl)(hn:x ≠ "__name__" := by decide)(hd:(x == ("__debug__" : Str))=false:=by decide):DE K X (.Name x pos) (dC (.ty n)) :=
 .const (fun Y e1 e2=>IP (X:=Y) (v:=.ty n) (show Y.env.kindOf x=_ by rw[e1];exact hg) (by rw[e2];exact hm) hv rfl hn hd) fun _=>Sa n
def Oe:pK:=fun _ S R _=>R [] S
def LJ(t:TD)(u:pK):pK:=fun σ S R Z=>t σ S (fun d S1=>u σ S1 (fun ds S2=>R (d::ds) S2) Z) Z
theorem an:DA K X [] Oe:=⟨fun y=>(Av (X:=y.cx)).mono <| by rintro τ H Q ⟨σ,S,R,Z,aA,hS,q,hR,_⟩;exact hR [] S [] H q bB hS (Kp.refl _)⟩
theorem ac(h:DE K X e t)(hr:DA K X es u)(hp:isPlain e=true:=by rfl):DA K X (e::es) (LJ t u) :=
 ⟨fun y=>(WZ (h.of y) (hr.of y) hp).mono <| by rintro τ H Q ⟨σ,S,R,Z,aA,hS,q,hR,hZ⟩;exact
  ⟨σ,S,_,Z,aA,hS,q,fun d S1 x H1 r1 v1 s1 k1=>⟨σ,S1,_,Z,aA.ts k1,s1,r1,fun ds S2 xs H2 r2 v2 s2 k2=>hR (d::ds) S2 (x::xs) H2 r2 (aT (Rv.ts k2 _ v1) v2) s2 (k1.trans k2),hZ.kp k1⟩,hZ⟩⟩
abbrev t_:=D→D→aG→KD→Prop
def Lr(K:Frag)(r:t_):R2:=fun x y H Q=>∃d e S R,Rv K H d x∧Rv K H e y∧Rs K S H∧r d e S R∧Cn K H R Q
def oV(K:Frag)(f:Value→Value→Sem Value)(r:t_):Prop:=∀X:Cx,X.K=K→X.A.units+64<cLine→gp X f (Lr K r)
def Of(r:t_)(ta tb:TD):TD:=fun σ S R Z=>ta σ S (fun x S1=>tb σ S1 (fun y S2=>r x y S2 R) Z) Z
theorem T.op(h:T K E (Of r ta tb) τ H Q):P_ (Lr K r) (T K E ta) (T K E tb) τ H Q:=by
 obtain⟨σ,S,R,Z,aA,hS,q,hR,hZ⟩:=h
 exact⟨σ,S,_,Z,aA,hS,q,fun d S1 x H1 r1 v1 s1 k1=>⟨σ,S1,_,Z,aA.ts k1,s1,r1,fun e S2 y H2 r2 v2 s2 k2=>⟨d,e,S2,R,Rv.ts k2 _ v1,v2,s2,r2,hR.kp (k1.trans k2)⟩,hZ.kp k1⟩,hZ⟩
theorem bo(ho:oV K (binaryOp op) r)(hu:X.A.units+64<cLine)(ha:DE K X a ta)(hb:DE K X b tb)(hK:X.K=K:=by rfl):DE K X (.BinOp a op b pos) (Of r ta tb) :=
 ⟨fun y=>(Q7 (ho y.cx hK hu) (ha.of y) (hb.of y)).mono fun _ _ _ h=>h.op⟩
theorem cm(ho:oV K (compareOp op) r)(hu:X.A.units+64<cLine)(ha:DE K X a ta)(hb:DE K X b tb)(hm:behindInMarks op b=false:=by with_unfolding_all rfl)(hK:X.K=K:=by rfl):DE K X (.Compare a [op] [b] pos) (Of r ta tb) :=
 ⟨fun y=>(B7 (ho y.cx hK hu) (ha.of y) (hb.of y) hm).mono fun _ _ _ h=>h.op⟩
def dB(t:TD):qE:=fun σ S R Z=>t σ S (fun x S1=>∃b,x=.bl b∧R b S1) Z
theorem Tt.b(h:Tt K E (dB t) τ H Q):T K E t τ H fun x H'=>∃k,x=.bl k∧Q k H':=by
 obtain⟨σ,S,R,Z,aA,hS,q,hR,hZ⟩:=h
 exact⟨σ,S,_,Z,aA,hS,q,by rintro d S1 x H1 ⟨b,e,r1⟩ v1 s1 k1;exact by subst e;exact⟨b,v1.bl,hR b S1 H1 r1 s1 k1⟩,hZ⟩
theorem Tt.bop(h:Tt K E (dB (Of r ta tb)) τ H Q):Fv (P_ (Lr K r) (T K E ta) (T K E tb)) τ H Q:=h.b.op
theorem bX(ho:oV K (compareOp op) r)(hu:X.A.units+64<cLine)(ha:DE K X a ta)(hb:DE K X b tb)(hm:behindInMarks op b=false:=by with_unfolding_all rfl)(hK:X.K=K:=by rfl):DT K X (.Compare a [op] [b] pos) (dB (Of r ta tb)) :=
 ⟨fun y=>(Ja (ho y.cx hK hu) (ha.of y) (hb.of y) hm).mono fun _ _ _ h=>h.bop⟩
theorem tv(h:DE K X e t)(he:∀whole,isTrue e X.env whole=(do let v ← whole;standAt e.pos;holding [v] (truthy v)):=by intro _;rfl):DT K X e (dB t) :=
 ⟨fun y=>(MP (X:=y.cx) (h.of y) he).mono fun _ _ _ h=>h.b⟩
def AU(r r':t_)(ta tb tc:TD):TD:=fun σ S R Z=>ta σ S (fun x S1=>tb σ S1 (fun y S2=>r x y S2 fun z S3=>∃k,z=.bl k∧if k=true then tc σ S3 (fun w S4=>r' y w S4 R) Z else R (.bl false) S3) Z) Z
theorem T.chain(h:T K E (AU r r' ta tb tc) τ H Q):An (Lr K r) (Lr K r') (T K E ta) (T K E tb) (T K E tc) τ H Q:=by
 obtain⟨σ,S,R,Z,aA,hS,q,hR,hZ⟩:=h
 refine⟨σ,S,_,Z,aA,hS,q,fun d S1 x H1 r1 v1 s1 k1=>⟨σ,S1,_,Z,aA.ts k1,s1,r1,fun e S2 y H2 r2 v2 s2 k2=>⟨d,e,S2,_,Rv.ts k2 _ v1,v2,s2,r2,fun z S3 v H3 r3 v3 s3 k3=>?_⟩,hZ.kp k1⟩,hZ⟩
 obtain⟨k,rfl,r3⟩:=r3
 refine⟨k,v3.bl,?_⟩
 cases k with
 |true =>
  rw[if_pos rfl] at r3 ⊢
  exact⟨σ,S3,_,Z,((aA.ts k1).ts k2).ts k3,s3,r3,fun w S4 wv H4 r4 v4 s4 k4=>⟨e,w,S4,R,Rv.ts (k3.trans k4) _ v2,v4,s4,r4,hR.kp (((k1.trans k2).trans k3).trans k4)⟩,hZ.kp ((k1.trans k2).trans k3)⟩
 |false =>
  rw[if_neg zd] at r3 ⊢
  exact hR _ S3 _ H3 r3 (bS false) s3 ((k1.trans k2).trans k3)
theorem cc(ho:oV K (compareOp op) r)(Ah:oV K (compareOp Dr) r')(hu:X.A.units+64<cLine)(ha:DE K X a ta)(hb:DE K X b tb)(hc:DE K X c tc)
  (hm:lastMarks [op,Dr] [b,c]=false:=by with_unfolding_all rfl) (hK:X.K=K:=by rfl):DE K X (.Compare a [op,Dr] [b,c] pos) (AU r r' ta tb tc) :=
 ⟨fun y=>(Fw (ho y.cx hK hu) (Ah y.cx hK hu) (ha.of y) (hb.of y) (hc.of y) hm).mono fun _ _ _ h=>h.chain⟩
theorem Xf(ho:oV K (compareOp op) r)(Ah:oV K (compareOp Dr) r')(hu:X.A.units+64<cLine)(ha:DE K X a ta)(hb:DE K X b tb)(hc:DE K X c tc)
  (hm:lastMarks [op,Dr] [b,c]=false:=by with_unfolding_all rfl) (hK:X.K=K:=by rfl):DT K X (.Compare a [op,Dr] [b,c] pos) (dB (AU r r' ta tb tc)) :=
 ⟨fun y=>(Fx (ho y.cx hK hu) (Ah y.cx hK hu) (ha.of y) (hb.of y) (hc.of y) hm).mono fun _ _ _ h=>h.b.chain⟩
def Sd(ta tb:TD):TD:=fun σ S R Z=>ta σ S (fun x S1=>∃c,x=.bl c∧if c=true then tb σ S1 R Z else R (.bl false) S1) Z
def Xg(ta tb:TD):TD:=fun σ S R Z=>ta σ S (fun x S1=>∃c,x=.bl c∧if c=true then R (.bl true) S1 else tb σ S1 R Z) Z
def Se(ta:TD):TD:=fun σ S R Z=>ta σ S (fun x S1=>∃c,x=.bl c∧R (.bl (!c)) S1) Z
theorem JR(h:DE K X a t):DE K X (.BoolOp op [a] pos) t:=⟨fun y=>MR (h.of y)⟩
theorem uT{a b:Expr}{rest:List Expr}{ta tb:TD}{pos:Pos}(ha:DE K X a ta)(hb:DE K X (.BoolOp .And (b::rest) pos) tb):DE K X (.BoolOp .And (a::b::rest) pos) (Sd ta tb) :=
 ⟨fun y=>(MS (ha.of y) (hb.of y)).mono <| by rintro τ H Q ⟨σ,S,R,Z,aA,hS,q,hR,hZ⟩;exact
  ⟨σ,S,_,Z,aA,hS,q,by
   rintro d S1 x H1 ⟨c,e,r1⟩ v1 s1 k1
   subst e
   refine⟨c,v1.bl,?_⟩
   cases c with
   |true=>rw[if_pos rfl] at r1 ⊢;exact⟨σ,S1,R,Z,aA.ts k1,s1,r1,hR.kp k1,hZ.kp k1⟩
   |false=>rw[if_neg zd] at r1 ⊢;exact hR _ S1 _ H1 r1 (bS false) s1 k1,hZ⟩⟩
theorem eor{a b:Expr}{rest:List Expr}{ta tb:TD}{pos:Pos}(ha:DE K X a ta)(hb:DE K X (.BoolOp .Or (b::rest) pos) tb):DE K X (.BoolOp .Or (a::b::rest) pos) (Xg ta tb) :=
 ⟨fun y=>(QW (ha.of y) (hb.of y)).mono <| by rintro τ H Q ⟨σ,S,R,Z,aA,hS,q,hR,hZ⟩;exact
  ⟨σ,S,_,Z,aA,hS,q,by
   rintro d S1 x H1 ⟨c,e,r1⟩ v1 s1 k1
   subst e
   refine⟨c,v1.bl,?_⟩
   cases c with
   |false=>rw[if_neg zd] at r1 ⊢;exact⟨σ,S1,R,Z,aA.ts k1,s1,r1,hR.kp k1,hZ.kp k1⟩
   |true=>rw[if_pos rfl] at r1 ⊢;exact hR _ S1 _ H1 r1 (bS true) s1 k1,hZ⟩⟩
theorem Sf(ha:DE K X a ta):DE K X (.UnaryOp .Not a pos) (Se ta) :=
 ⟨fun y=>(MT (ha.of y)).mono <| by rintro τ H Q ⟨σ,S,R,Z,aA,hS,q,hR,hZ⟩;exact
  ⟨σ,S,_,Z,aA,hS,q,by rintro d S1 x H1 ⟨c,e,r1⟩ v1 s1 k1;exact by subst e;exact⟨c,v1.bl,hR _ S1 _ H1 r1 (bS _) s1 k1⟩,hZ⟩⟩
def Xh(t:qE):qE:=fun σ S R Z=>t σ S (fun c S1=>R (!c) S1) Z
def Xi(t u:qE):qE:=fun σ S R Z=>t σ S (fun c S1=>if c=true then u σ S1 R Z else R false S1) Z
def dOr(t u:qE):qE:=fun σ S R Z=>t σ S (fun c S1=>if c=true then R true S1 else u σ S1 R Z) Z
theorem dN(ha:DT K X a t):DT K X (.UnaryOp .Not a pos) (Xh t) :=
 ⟨fun y=>(MQ (ha.of y)).mono <| by rintro τ H Q ⟨σ,S,R,Z,aA,hS,q,hR,hZ⟩;exact⟨σ,S,_,Z,aA,hS,q,fun c S1 H1 r1 s1 k1=>hR _ S1 H1 r1 s1 k1,hZ⟩⟩
structure DW(K:Frag)(X:Cx)(e:Expr)(t:qE):Prop where
 of:∀{b:Bool} (y:Ev X b),PW y.cx e (Tt K y.E t)
theorem PW.mono(h:PW X e t)(i:∀τ H Q,t' τ H Q→t τ H Q):PW X e t':=fun wh pins s τ H Q I q=>h wh pins s τ H Q I (i τ H Q q)
theorem twd(h:DW K X e t):DT K X e t:=⟨fun y=>(h.of y).pt⟩
theorem tw1(h:DT K X a t):DW K X (.BoolOp op [a] pos) t:=⟨fun y=>by
 cases op with
 |And=>exact pw_and1 (h.of y)
 |Or=>exact pw_or1 (h.of y)⟩
theorem twand{a b:Expr}{rest:List Expr}{t u:qE}{pos:Pos}(ha:DT K X a t)(hb:DW K X (.BoolOp .And (b::rest) pos) u):DW K X (.BoolOp .And (a::b::rest) pos) (Xi t u) :=
 ⟨fun y=>(pw_and (ha.of y) (hb.of y)).mono <| by rintro τ H Q ⟨σ,S,R,Z,aA,hS,q,hR,hZ⟩;exact
  ⟨σ,S,_,Z,aA,hS,q,fun c S1 H1 r1 s1 k1=>by
   cases c with
   |true=>rw[if_pos rfl] at r1 ⊢;exact⟨σ,S1,R,Z,aA.ts k1,s1,r1,hR.kp k1,hZ.kp k1⟩
   |false=>rw[if_neg zd] at r1 ⊢;exact hR _ S1 H1 r1 s1 k1,hZ⟩⟩
theorem twor{a b:Expr}{rest:List Expr}{t u:qE}{pos:Pos}(ha:DT K X a t)(hb:DW K X (.BoolOp .Or (b::rest) pos) u):DW K X (.BoolOp .Or (a::b::rest) pos) (dOr t u) :=
 ⟨fun y=>(pw_or (ha.of y) (hb.of y)).mono <| by rintro τ H Q ⟨σ,S,R,Z,aA,hS,q,hR,hZ⟩;exact
  ⟨σ,S,_,Z,aA,hS,q,fun c S1 H1 r1 s1 k1=>by
   cases c with
   |false=>rw[if_neg zd] at r1 ⊢;exact⟨σ,S1,R,Z,aA.ts k1,s1,r1,hR.kp k1,hZ.kp k1⟩
   |true=>rw[if_pos rfl] at r1 ⊢;exact hR _ S1 H1 r1 s1 k1,hZ⟩⟩
def Xj(t:qE)(ta tb:TD):TD:=fun σ S R Z=>t σ S (fun c S1=>if c=true then ta σ S1 R Z else tb σ S1 R Z) Z
theorem eif(hc:DT K X c t)(ha:DE K X a ta)(hb:DE K X b tb):DE K X (.IfExp c a b pos) (Xj t ta tb) :=
 ⟨fun y=>(Fl (hc.of y) (ha.of y) (hb.of y)).mono <| by rintro τ H Q ⟨σ,S,R,Z,aA,hS,q,hR,hZ⟩;exact
  ⟨σ,S,_,Z,aA,hS,q,fun c S1 H1 r1 s1 k1=>by
   cases c with
   |true=>rw[if_pos rfl] at r1 ⊢;exact⟨σ,S1,R,Z,aA.ts k1,s1,r1,hR.kp k1,hZ.kp k1⟩
   |false=>rw[if_neg zd] at r1 ⊢;exact⟨σ,S1,R,Z,aA.ts k1,s1,r1,hR.kp k1,hZ.kp k1⟩,hZ⟩⟩
def Xk(t:pK):TD:=fun σ S R Z=>t σ S (fun ds S1=>ds.length≤sizeLine∧∀p,S1 p=none→R (.ref p) (S1.set p (.lst ds))) Z
def Xl(t:pK):TD:=fun σ S R Z=>t σ S (fun ds S1=>ds.length≤sizeLine∧R (.tup ds) S1) Z
theorem a_(h:DA K X es t):DE K X (.List es pos) (Xk t) :=
 ⟨fun y=>(Nm (h.of y)).mono <| by rintro τ H Q ⟨σ,S,R,Z,aA,hS,q,hR,hZ⟩;exact
  ⟨σ,S,_,Z,aA,hS,q,by rintro ds S1 xs H1 ⟨hl,r1⟩ v1 s1 k1;exact⟨by rw[v1.len];exact hl,fun p hp=>hR _ _ _ _ (r1 p (s1.fresh hp)) (bL p) (s1.new hp ⟨xs,aB,RvAll.ts (.new hp) _ v1⟩) (k1.trans (.new hp))⟩,hZ⟩⟩
theorem ay(h:DA K X es t):DE K X (.Tuple es x1 pos) (Xl t) :=
 ⟨fun y=>(Nl (h.of y)).mono <| by rintro τ H Q ⟨σ,S,R,Z,aA,hS,q,hR,hZ⟩;exact
  ⟨σ,S,_,Z,aA,hS,q,by rintro ds S1 xs H1 ⟨hl,r1⟩ v1 s1 k1;exact⟨by rw[v1.len];exact hl,fun p hp=>hR _ _ _ _ r1 (kR aB (RvAll.ts (.new hp) _ v1)) (s1.grow hp) (k1.trans (.new hp))⟩,hZ⟩⟩
def Xm:TD:=fun _ S R _=>∀p,S p=none→R (.ref p) (S.set p (.dy []))
theorem Sh:DE K X (.Dict [] [] pos) Xm :=
 ⟨fun y=>(FK (X:=y.cx)).mono <| by rintro τ H Q ⟨σ,S,R,Z,aA,hS,q,hR,hZ⟩ p hp;exact hR _ _ _ _ (q p (hS.fresh hp)) (bL p) (hS.new hp ⟨[],aB,.nil⟩) (.new hp)⟩
def Lc(K:Frag)(r:List D→aG→KD→Prop):List V→Hp→VK→Prop:=fun xs H Q=>∃ds S R,RvAll K H ds xs∧Rs K S H∧r ds S R∧Cn K H R Q
def iL(K:Frag)(f:Value)(r:List D→aG→KD→Prop):Prop:=∀X:Cx,X.K=K→X.calm=true→dq X f (Lc K r)
def Si(r:List D→aG→KD→Prop)(t:pK):TD:=fun σ S R Z=>t σ S (fun ds S1=>r ds S1 R) Z
theorem T.cb(h:T K E (Si r t) τ H Q):Wr (Lc K r) (Ta K E t) τ H Q:=by
 obtain⟨σ,S,R,Z,aA,hS,q,hR,hZ⟩:=h
 exact⟨σ,S,_,Z,aA,hS,q,fun ds S1 xs H1 r1 v1 s1 k1=>⟨ds,S1,R,v1,s1,r1,hR.kp k1⟩,hZ⟩
theorem cb{x:Str}{id:String}{r:List D→aG→KD→Prop}{e:Expr}{es:List Expr}{t:pK}{p pos:Pos}(hc:iL K (.builtin id) r)(hm:X.mg x=none)(hv:bootBuiltins x=some (.builtin id))(ha:DA K X (e::es) t)(hg:Gl X x:=by rfl)
  (hn:x ≠ "__name__" := by decide) (kO:(x == ("__debug__" : Str))=false:=by decide) (he:starEach (e::es) X.env=(false,eval e X.env)::starEach es X.env:=by rfl) (eT:(backTo pos (starEach es X.env)).any (·.1)=false:=by rfl) (hK:X.K=K:=by rfl) (hC:X.calm=true:=by rfl) :
  DE K X (.Call (.Name x p) (e::es) [] pos) (Si r t) :=
 ⟨fun y=>(qf (X:=y.cx) (hc _ hK hC) hg hm hv (ha.of y) hn kO he eT).mono fun _ _ _ h=>h.cb⟩
theorem ct{x:Str}{id:String}{r:List D→aG→KD→Prop}{e:Expr}{es:List Expr}{t:pK}{p pos:Pos}(hc:iL K (.type id) r)(hm:X.mg x=none)(hv:bootBuiltins x=some (.type id))(ha:DA K X (e::es) t)(hg:Gl X x:=by rfl)
  (hn:x ≠ "__name__" := by decide) (kO:(x == ("__debug__" : Str))=false:=by decide) (he:starEach (e::es) X.env=(false,eval e X.env)::starEach es X.env:=by rfl) (eT:(backTo pos (starEach es X.env)).any (·.1)=false:=by rfl) (hK:X.K=K:=by rfl) (hC:X.calm=true:=by rfl) :
  DE K X (.Call (.Name x p) (e::es) [] pos) (Si r t) :=
 ⟨fun y=>(tT (X:=y.cx) (hc _ hK hC) hg hm hv (ha.of y) hn kO he eT).mono fun _ _ _ h=>h.cb⟩
end
section
variable{K:Frag}
theorem Cn.now(h:Cn K H R Q)(hS:Rs K S H)(r:R d S)(rv:Rv K H d v):Q v H:=h d S v H r rv hS (.refl _)
theorem Cn.new{H:Hp}{R:KD}{Q:VK}{S:aG}{p:Addr}{ds:List D}{xs:List V}(h:Cn K H R Q)(hS:Rs K S H)(hp:H p=none)(r:S p=none→R (.ref p) (S.set p (.lst ds)))(rv:RvAll K H ds xs):Q (.ref p) (upd H p (.lst xs)) :=
 h _ _ _ _ (r (hS.fresh hp)) (bL p) (hS.new hp ⟨xs,aB,RvAll.ts (.new hp) _ rv⟩) (.new hp)
theorem Cn.JS{H:Hp}{R:KD}{Q:VK}{S:aG}{p:Addr}{ds:List D}{xs:List V}(h:Cn K H R Q)(hS:Rs K S H)(hp:H p=none)(r:R (.tup ds) S)(rv:RvAll K H ds xs):Q (.ref p) (upd H p (.tup xs)) :=
 h _ _ _ _ r (kR aB (RvAll.ts (.new hp) _ rv)) (hS.grow hp) (.new hp)
theorem Cn.put{H:Hp}{R:KD}{Q:VK}{S:aG}{p:Addr}{ds es:List D}{xs:List V}{d:D}{v:V}(h:Cn K H R Q)(hS:Rs K S H)(hp:S p=some (.lst es))(r:R d (S.set p (.lst ds)))(rd:Rv K H d v)(rv:RvAll K H ds xs):Q v (upd H p (.lst xs)) :=
 h _ _ _ _ r (Rv.ts (hS.h_ hp) _ rd) (hS.put hp ⟨xs,aB,RvAll.ts (hS.h_ hp) _ rv⟩) (hS.h_ hp)
def uU(S:aG):D→List D→Prop
 |.ref a,ds=>S a=some (.lst ds)
 |.ko es,ds=>es=ds
 |_,_=>False
theorem uU.at{H:Hp}{S:aG}{d:D}{ds:List D}{v:V}(h:uU S d ds)(hS:Rs K S H)(r:Rv K H d v):∃a xs,v=.ref a∧iW K H a xs∧RvAll K H ds xs:=by
 cases d with
 |ref a =>
  obtain⟨xs,e,q⟩:=hS.lst h
  exact⟨a,xs,r.ref,.of e,q⟩
 |ko es =>
  have h:es=ds:=h
  subst h
  obtain⟨a,xs,e,q,t⟩:=r.ko
  exact⟨a,xs,e,q.sq,t⟩
 |_=>exact h.elim
def Xn:t_:=fun x y S R=>match x,y with
 |.int i,.int j=>R (.int (i+j)) S
 |.str a,.str b=>a.length+b.length≤sizeLine∧R (.str (a++b)) S
 |.tup a,.tup b=>a.length+b.length≤sizeLine∧R (.tup (a++b)) S
 |.ref a,.ref b=>∃xs ys,S a=some (.lst xs)∧S b=some (.lst ys)∧xs.length+ys.length≤sizeLine∧∀p,S p=none→R (.ref p) (S.set p (.lst (xs++ys)))
 |_,_=>False
theorem bT:oV K (binaryOp .Add) Xn:=by
 rintro X hK hu pins s σ H x y v u Q I rx ry ⟨d,e,S,R,r1,r2,hS,h,hR⟩
 subst hK
 cases d with
 |int i =>
  cases e with
  |int j=>exact M_ pins s σ H x y v u Q I rx ry ⟨i,j,r1.int,r2.int,hR.now hS h (aO _)⟩
  |_=>exact h.elim
 |str i =>
  cases e with
  |str j=>exact Ao pins s σ H x y v u Q I rx ry ⟨i,j,r1.str,r2.str,h.1,hR.now hS h.2 (i6 _)⟩
  |_=>exact h.elim
 |tup i =>
  cases e with
  |tup j =>
   obtain⟨a,xs,rfl,q1,t1⟩:=r1.tup
   obtain⟨b,ys,rfl,q2,t2⟩:=r2.tup
   refine JC pins s σ H _ _ v u Q I rx ry ⟨a,b,xs,ys,rfl,rfl,.of q1,.of q2,by rw[t1.len,t2.len];exact h.1,fun e=>?_,fun _ e=>?_,fun _ _ p hp=>hR.JS hS hp h.2 (t1.app t2)⟩
   ·subst e
    have:i=[]:=List.length_eq_zero_iff.mp t1.len.symm
    subst this
    exact hR.now hS h.2 (kR q2 t2)
   ·subst e
    have:j=[]:=List.length_eq_zero_iff.mp t2.len.symm
    subst this
    exact hR.now hS h.2 (by rw[yC];exact kR q1 t1)
  |_=>exact h.elim
 |ref a =>
  cases e with
  |ref b =>
   obtain⟨xs,ys,e1,e2,hl,q⟩:=h
   obtain⟨vs,h1,t1⟩:=hS.lst e1
   obtain⟨ws,h2,t2⟩:=hS.lst e2
   exact ND pins s σ H x y v u Q I rx ry ⟨a,b,vs,ws,r1.ref,r2.ref,h1,h2,by rw[t1.len,t2.len];exact hl,fun p hp=>hR.new hS hp (q p) (t1.app t2)⟩
  |_=>exact h.elim
 |_=>exact h.elim
def Xo:t_:=fun x y S R=>match x,y with
 |.int i,.int j=>R (.int (i - j)) S
 |_,_=>False
theorem wV:oV K (binaryOp .Sub) Xo:=by
 rintro X hK hu pins s σ H x y v u Q I rx ry ⟨d,e,S,R,r1,r2,hS,h,hR⟩
 cases d <;> cases e <;> first|exact False.elim h|exact Na pins s σ H x y v u Q I rx ry ⟨_,_,r1.int,r2.int,hR.now hS h (aO _)⟩
def Xp:t_:=fun x y S R=>match x,y with
 |.int i,.int j=>IZ i j∧R (.int (i * j)) S
 |.str z,.int n=>MulOk z n∧R (.str (PySem.Txt.mul z n)) S
 |_,_=>False
theorem iM:oV K (binaryOp .Mult) Xp:=by
 rintro X hK hu pins s σ H x y v u Q I rx ry ⟨d,e,S,R,r1,r2,hS,h,hR⟩
 cases d <;> cases e <;> first
  |exact False.elim h
  |exact Nb pins s σ H x y v u Q I rx ry ⟨_,_,r1.int,r2.int,h.1,hR.now hS h.2 (aO _)⟩
  |exact AO pins s σ H x y v u Q I rx ry ⟨_,_,r1.str,r2.int,h.1,hR.now hS h.2 (i6 _)⟩
def Xq:t_:=fun x y S R=>match x,y with
 |.int i,.int j=>0<j∧R (.int (i % j)) S
 |_,_=>False
theorem l3:oV K (binaryOp .Mod) Xq:=by
 rintro X hK hu pins s σ H x y v u Q I rx ry ⟨d,e,S,R,r1,r2,hS,h,hR⟩
 cases d <;> cases e <;> first|exact False.elim h|exact Nc pins s σ H x y v u Q I rx ry ⟨_,_,r1.int,r2.int,h.1,hR.now hS h.2 (aO _)⟩
def Sj:t_:=fun x y S R=>match x,y with
 |.int i,.int j=>LC i j∧R (.int (i / j)) S
 |_,_=>False
theorem AV:oV K (binaryOp .FloorDiv) Sj:=by
 rintro X hK hu pins s σ H x y v u Q I rx ry ⟨d,e,S,R,r1,r2,hS,h,hR⟩
 cases d <;> cases e <;> first|exact False.elim h|exact FP pins s σ H x y v u Q I rx ry ⟨_,_,r1.int,r2.int,h.1,hR.now hS h.2 (aO _)⟩
def Xr:t_:=fun x y S R=>match x,y with
 |.int i,.int j=>Q_ i j∧R (.int (i ^ j.toNat)) S
 |_,_=>False
theorem wW:oV K (binaryOp .Pow) Xr:=by
 rintro X hK hu pins s σ H x y v u Q I rx ry ⟨d,e,S,R,r1,r2,hS,h,hR⟩
 cases d <;> cases e <;> first|exact False.elim h|exact Nd pins s σ H x y v u Q I rx ry ⟨_,_,r1.int,r2.int,h.1,hR.now hS h.2 (aO _)⟩
def fP(f:Int→Int→Bool)(g:Str→Str→Bool):t_:=fun x y S R=>match x,y with
 |.int i,.int j=>R (.bl (f i j)) S
 |.str i,.str j=>R (.bl (g i j)) S
 |_,_=>False
theorem Cp(h1:∀X:Cx,gp X (compareOp op) (IX fun i j=>.bl (f i j)))
  (h2:∀X:Cx,gp X (compareOp op) (fun x y H Q=>∃i j,x=.str i∧y=.str j∧Q (.bl (g i j)) H)):oV K (compareOp op) (fP f g):=by
 rintro X hK hu pins s σ H x y v u Q I rx ry ⟨d,e,S,R,r1,r2,hS,h,hR⟩
 cases d <;> cases e <;> first
  |exact False.elim h
  |exact h1 X pins s σ H x y v u Q I rx ry ⟨_,_,r1.int,r2.int,hR.now hS h (bS _)⟩
  |exact h2 X pins s σ H x y v u Q I rx ry ⟨_,_,r1.str,r2.str,hR.now hS h (bS _)⟩
theorem JT:oV K (compareOp .Lt) (fP (fun i j=>decide (i<j)) fun i j=>WK i j):=Cp (fun _=>Rf) fun _=>Dn
theorem kT:oV K (compareOp .LtE) (fP (fun i j=>decide (i≤j)) fun i j=>Fc i j):=Cp (fun _=>Rh) fun _=>DK
theorem qF:oV K (compareOp .Gt) (fP (fun i j=>decide (j<i)) fun i j=>WK j i):=Cp (fun _=>Ri) fun _=>DM
theorem Xs:oV K (compareOp .GtE) (fP (fun i j=>decide (j≤i)) fun i j=>Fc j i):=Cp (fun _=>Rj) fun _=>DL
def av:D→Bool
 |.aw=>true
 |_=>false
theorem wX(r:Rv K H d v):decide (v=.aw)=av d:=by
 cases d with
 |aw=>rw[r.aw];rfl
 |bl b=>rw[r.bl];rfl
 |int b=>rw[r.int];rfl
 |str b=>rw[r.str];rfl
 |ref b=>rw[r.ref];rfl
 |ty b=>rw[r.ty];rfl
 |tup b=>obtain⟨a,xs,rfl,_⟩:=r.tup;rfl
 |ko b=>obtain⟨a,xs,rfl,_⟩:=r.ko;rfl
 |kt b=>obtain⟨a,xs,rfl,_⟩:=r.kt;rfl
def isD:t_:=fun x y S R=>match y with
 |.aw=>R (.bl (av x)) S
 |_=>False
def Sk:t_:=fun x y S R=>match y with
 |.aw=>R (.bl (!av x)) S
 |_=>False
theorem wY:oV K (compareOp .Is) isD:=by
 rintro X hK hu pins s σ H x y v u Q I rx ry ⟨d,e,S,R,r1,r2,hS,h,hR⟩
 cases e <;> first|exact False.elim h|exact Ng pins s σ H x y v u Q I rx ry ⟨r2.aw,by rw[wX r1];exact hR.now hS h (bS _)⟩
theorem qG:oV K (compareOp .IsNot) Sk:=by
 rintro X hK hu pins s σ H x y v u Q I rx ry ⟨d,e,S,R,r1,r2,hS,h,hR⟩
 cases e <;> first|exact False.elim h|exact I_ pins s σ H x y v u Q I rx ry ⟨r2.aw,by rw[wX r1];exact hR.now hS h (bS _)⟩
mutual
def Dp(S:aG):D→PyData→Prop
 |.aw,p=>p=.none
 |.bl b,p=>p=.bool b
 |.int i,p=>p=.int i
 |.str z,p=>p=.str z
 |.tup ds,p=>∃ps,p=.tuple ps∧DpAll S ds ps
 |.ko ds,p=>∃ps,p=.list ps∧DpAll S ds ps
 |.kt _,_=>False
 |.ref _,_=>False
 |.ty _,_=>False
def DpAll(S:aG):List D→List PyData→Prop
 |[],ps=>ps=[]
 |d::ds,ps=>∃q qs,ps=q::qs∧Dp S d q∧DpAll S ds qs
end
mutual
theorem Dp.dt:∀(d:D) {p:PyData}{v:V},Dp S d p→Rv K H d v→Dt K H p v
 |.aw,p,v,h,r=>by simp only [Dp] at h;subst h;simp only [Dt];exact r.aw
 |.bl b,p,v,h,r=>by simp only [Dp] at h;subst h;simp only [Dt];exact r.bl
 |.int b,p,v,h,r=>by simp only [Dp] at h;subst h;simp only [Dt];exact r.int
 |.str b,p,v,h,r=>by simp only [Dp] at h;subst h;simp only [Dt];exact r.str
 |.tup ds,p,v,h,r=>by
  simp only [Dp] at h
  obtain⟨ps,rfl,h⟩:=h
  obtain⟨a,xs,rfl,q,t⟩:=r.tup
  simp only [Dt]
  exact⟨a,xs,rfl,.of q,DpAll.dt ds h t⟩
 |.ko ds,p,v,h,r=>by
  simp only [Dp] at h
  obtain⟨ps,rfl,h⟩:=h
  obtain⟨a,xs,rfl,q,t⟩:=r.ko
  simp only [Dt]
  exact⟨a,xs,rfl,q.sq,DpAll.dt ds h t⟩
 |.kt a,p,v,h,r=>by simp only [Dp] at h
 |.ref a,p,v,h,r=>by simp only [Dp] at h
 |.ty a,p,v,h,r=>by simp only [Dp] at h
theorem DpAll.dt:∀(ds:List D) {ps:List PyData}{vs:List V},DpAll S ds ps→RvAll K H ds vs→DtAll K H ps vs
 |[],ps,vs,h,r=>by simp only [DpAll] at h;subst h;rw[r.nil];simp only [DtAll]
 |d::ds,ps,vs,h,r=>by
  simp only [DpAll] at h
  obtain⟨q,qs,rfl,h1,h2⟩:=h
  obtain⟨y,ys,rfl,r1,r2⟩:=r.cons
  simp only [DtAll]
  exact⟨y,ys,rfl,Dp.dt d h1 r1,DpAll.dt ds h2 r2⟩
end
def Dl(S:aG):D→PyData→Prop
 |.ref a,p=>∃ds ps,S a=some (.lst ds)∧p=.list ps∧DpAll S ds ps
 |d,p=>Dp S d p
theorem Dl.dt(h:Dl S d p)(hS:Rs K S H)(r:Rv K H d v):Dt K H p v:=by
 cases d with
 |ref a =>
  obtain⟨ds,ps,e,rfl,h⟩:=h
  obtain⟨xs,e1,t⟩:=hS.lst e
  rw[r.ref]
  simp only [Dt]
  exact⟨a,xs,rfl,.of e1,DpAll.dt ds h t⟩
 |_=>exact Dp.dt _ h r
def JU(neg:Bool):t_:=fun x y S R=>match x,y with
 |.int i,.int j=>R (.bl (if neg then !decide (i=j) else decide (i=j))) S
 |.str i,.str j=>R (.bl (if neg then !decide (i=j) else decide (i=j))) S
 |x,y=>∃p q,Dl S x p∧Dl S y q∧p.canLay0=true∧q.canLay0=true∧(p.depth≤64∨q.depth≤64)∧R (.bl (if neg then !PyData.eqv p q else PyData.eqv p q)) S
theorem Gk(h:JU neg x y S R):(∃i j,x=.int i∧y=.int j∧R (.bl (if neg then !decide (i=j) else decide (i=j))) S)∨(∃i j,x=.str i∧y=.str j∧R (.bl (if neg then !decide (i=j) else decide (i=j))) S) ∨
  ∃p q,Dl S x p∧Dl S y q∧p.canLay0=true∧q.canLay0=true∧(p.depth≤64∨q.depth≤64)∧R (.bl (if neg then !PyData.eqv p q else PyData.eqv p q)) S:=by
 cases x <;> cases y <;> first|exact .inl ⟨_,_,rfl,rfl,h⟩|exact .inr (.inl ⟨_,_,rfl,rfl,h⟩)|exact .inr (.inr h)
theorem bw:oV K (compareOp .Eq) (JU false):=by
 rintro X hK hu pins s σ H x y v u Q I rx ry ⟨d,e,S,R,r1,r2,hS,h,hR⟩
 subst hK
 rcases Gk h with ⟨i,j,rfl,rfl,h⟩|⟨i,j,rfl,rfl,h⟩|⟨p,q,h1,h2,c1,c2,dp,h⟩
 ·cases r1.int;cases r2.int
  refine Lw pins s σ H _ _ v u Q I rx ry ⟨rfl,?_⟩
  have e:decide (V.int i=V.int j)=decide (i=j):=by simp
  rw[e];exact hR.now hS h (bS _)
 ·cases r1.str;cases r2.str
  refine Lw pins s σ H _ _ v u Q I rx ry ⟨rfl,?_⟩
  have e:decide (V.str i=V.str j)=decide (i=j):=by simp
  rw[e];exact hR.now hS h (bS _)
 ·exact NU hu pins s σ H x y v u Q I rx ry ⟨p,q,h1.dt hS r1,h2.dt hS r2,c1,c2,dp,hR.now hS h (bS _)⟩
theorem l4:oV K (compareOp .NotEq) (JU true):=by
 rintro X hK hu pins s σ H x y v u Q I rx ry ⟨d,e,S,R,r1,r2,hS,h,hR⟩
 subst hK
 rcases Gk h with ⟨i,j,rfl,rfl,h⟩|⟨i,j,rfl,rfl,h⟩|⟨p,q,h1,h2,c1,c2,dp,h⟩
 ·cases r1.int;cases r2.int
  refine Lx pins s σ H _ _ v u Q I rx ry ⟨rfl,?_⟩
  have e:decide (V.int i=V.int j)=decide (i=j):=by simp
  rw[e];exact hR.now hS h (bS _)
 ·cases r1.str;cases r2.str
  refine Lx pins s σ H _ _ v u Q I rx ry ⟨rfl,?_⟩
  have e:decide (V.str i=V.str j)=decide (i=j):=by simp
  rw[e];exact hR.now hS h (bS _)
 ·exact NV hu pins s σ H x y v u Q I rx ry ⟨p,q,h1.dt hS r1,h2.dt hS r2,c1,c2,dp,hR.now hS h (bS _)⟩
def cz(kvs:List (Key×D))(k:Key):Option D:=(kvs.find? fun kv=>decide (kv.1=k)).map (·.2)
def dput(kvs:List (Key×D))(k:Key)(v:D):List (Key×D):=if (kvs.any fun kv=>decide (kv.1=k))=true then kvs.map (fun kv=>if kv.1=k then (kv.1,v) else kv) else kvs++[(k,v)]
def wZ(kvs:List (Key×D))(k:Key):List (Key×D):=kvs.filter fun kv=>decide (kv.1≠k)
theorem b_.val(h:b_ K H ks vs)(k:Key):(∀d,cz ks k=some d→∃v,fN vs k=some v∧Rv K H d v)∧(cz ks k=none→fN vs k=none):=by
 induction h with
 |nil=>exact⟨fun d e=>(by cases e),fun _=>rfl⟩
 |@cons a b l m r t ih =>
  obtain⟨k',d⟩:=a
  obtain⟨k'',v⟩:=b
  obtain⟨e0,r⟩:=r
  dsimp only at e0
  subst e0
  unfold cz fN
  simp only [zV]
  by_cases q:k'=k
  ·rw[zD q];exact⟨fun d' e=>⟨v,rfl,(by cases e;exact r)⟩,fun e=>(by cases e)⟩
  ·rw[zw q];exact ih
theorem b_.any(h:b_ K H ks vs)(k:Key):(ks.any fun kv=>decide (kv.1=k))=(vs.any fun kv=>decide (kv.1=k)):=by
 induction h with
 |nil=>rfl
 |cons r t ih=>rw[yD,yD,ih,r.1]
theorem b_.len(h:b_ K H ks vs):vs.length=ks.length:=(Paired.length h).symm
theorem b_.app:∀{ks ls:List (κ×D)}{vs ws:List (κ×V)},b_ K H ks vs→b_ K H ls ws→b_ K H (ks++ls) (vs++ws)
 |_,_,_,_,.nil,h=>h
 |_,_,_,_,.cons r t,h=>.cons r (b_.app t h)
theorem b_.NF(h:b_ K H ks vs)(k:Key)(rd:Rv K H d v):b_ K H (ks.map fun kv=>if kv.1=k then (kv.1,d) else kv) (vs.map fun kv=>if kv.1=k then (kv.1,v) else kv):=by
 induction h with
 |nil=>exact .nil
 |@cons a b l m r t ih =>
  refine .cons ?_ ih
  dsimp only
  by_cases q:b.1=k
  ·rw[if_pos q,if_pos (r.1.trans q)];exact⟨r.1,rd⟩
  ·rw[if_neg q,if_neg fun z=>q (r.1.symm.trans z)];exact r
theorem b_.put(h:b_ K H ks vs)(k:Key)(rd:Rv K H d v):b_ K H (dput ks k d) (putK vs k v):=by
 unfold dput putK
 rw[h.any k]
 split
 ·exact h.NF k rd
 ·exact h.app (.cons ⟨rfl,rd⟩ .nil)
theorem b_.drop(h:b_ K H ks vs)(k:Key):b_ K H (wZ ks k) (oz vs k):=by
 unfold wZ oz
 induction h with
 |nil=>exact .nil
 |@cons a b l m r t ih =>
  rw[List.filter_cons,List.filter_cons,r.1]
  by_cases q:b.1=k
  ·rw[if_neg (by simp [q]),if_neg (by simp [q])];exact ih
  ·rw[if_pos (by simp [q]),if_pos (by simp [q])];exact .cons r ih
def AW:D→Option Key
 |.int i=>some (.inl i)
 |.str z=>some (.inr z)
 |_=>none
theorem nj(h:AW d=some k)(r:Rv K H d v):v=kV k:=by
 cases d with
 |int i=>cases h;exact r.int
 |str i=>cases h;exact r.str
 |_=>cases h
def kL:D→Bool
 |.aw=>true|.bl _=>true|.int _=>true|.str _=>true
 |_=>false
def pM:D→V
 |.aw=>.aw|.bl b=>.bl b|.int i=>.int i|.str z=>.str z|.ref a=>.ref a|.ty n=>.ty n
 |_=>.aw
theorem qH(h:kL d=true)(r:Rv K H d v):v=pM d∧gH v=true:=by
 cases d with
 |aw=>cases r.aw;exact⟨rfl,rfl⟩
 |bl b=>cases r.bl;exact⟨rfl,rfl⟩
 |int b=>cases r.int;exact⟨rfl,rfl⟩
 |str b=>cases r.str;exact⟨rfl,rfl⟩
 |_=>cases h
theorem l5:∀{ds:List D}{vs:List V},ds.all kL=true→RvAll K H ds vs→vs=ds.map pM∧vs.all gH=true
 |[],vs,_,r=>by rw[r.nil];exact⟨rfl,rfl⟩
 |d::ds,vs,h,r=>by
  obtain⟨y,ys,rfl,r1,r2⟩:=r.cons
  rw[List.all_cons,zP] at h
  obtain⟨e1,f1⟩:=qH h.1 r1
  obtain⟨e2,f2⟩:=l5 h.2 r2
  refine⟨by rw[e1,e2];rfl,?_⟩
  rw[List.all_cons,f1,f2];rfl
def inD(neg:Bool):t_:=fun x y S R=>match y with
 |.str j=>∃i,x=.str i∧R (.bl (if neg then !(!(Builtin.Str.occurrences j i 0 j.length 1).isEmpty) else !(Builtin.Str.occurrences j i 0 j.length 1).isEmpty)) S
 |.kt ds=>kL x=true∧ds.all kL=true∧R (.bl (if neg then !FE (pM x) (ds.map pM) else FE (pM x) (ds.map pM))) S
 |.tup ds=>kL x=true∧ds.all kL=true∧R (.bl (if neg then !FE (pM x) (ds.map pM) else FE (pM x) (ds.map pM))) S
 |.ref a=>(∃ds,S a=some (.lst ds)∧kL x=true∧ds.all kL=true∧R (.bl (if neg then !FE (pM x) (ds.map pM) else FE (pM x) (ds.map pM))) S) ∨
   ∃kvs k,S a=some (.dy kvs)∧AW x=some k∧R (.bl (if neg then !(cz kvs k).isSome else (cz kvs k).isSome)) S
 |_=>False
theorem uV(hS:Rs K S H)(e:S a=some (.dy kvs)):∃o,oR H a (kV k) o∧o.isSome=(cz kvs k).isSome∧∀d,cz kvs k=some d→∃v,o=some v∧Rv K H d v:=by
 obtain⟨vs,e1,t⟩:=hS.dy e
 refine⟨_,oR.k e1,?_,fun d h=>(t.val k).1 d h⟩
 cases q:cz kvs k with
 |none=>rw[(t.val k).2 q];rfl
 |some d=>obtain⟨v,e2,_⟩:=(t.val k).1 d q;rw[e2];rfl
theorem D3:oV K (compareOp .In) (inD false):=by
 rintro X hK hu pins s σ H x y v u Q I rx ry ⟨d,e,S,R,r1,r2,hS,h,hR⟩
 subst hK
 cases e with
 |str j =>
  obtain⟨i,rfl,h⟩:=h
  exact Dq pins s σ H x y v u Q I rx ry ⟨i,j,r1.str,r2.str,hR.now hS h (bS _)⟩
 |tup ds =>
  obtain⟨f1,f2,h⟩:=h
  obtain⟨a,xs,rfl,q,t⟩:=r2.tup
  obtain⟨e1,g1⟩:=qH f1 r1
  obtain⟨e2,g2⟩:=l5 f2 t
  subst e1 e2
  exact m7 pins s σ H _ _ v u Q I rx ry ⟨a,_,rfl,.inr (.of q),g1,g2,hR.now hS h (bS _)⟩
 |kt ds =>
  obtain⟨f1,f2,h⟩:=h
  obtain⟨a,xs,rfl,q,t⟩:=r2.kt
  obtain⟨e1,g1⟩:=qH f1 r1
  obtain⟨e2,g2⟩:=l5 f2 t
  subst e1 e2
  exact m7 pins s σ H _ _ v u Q I rx ry ⟨a,_,rfl,.inr (.inr q),g1,g2,hR.now hS h (bS _)⟩
 |ref a =>
  cases r2.ref
  rcases h with ⟨ds,e,f1,f2,h⟩|⟨kvs,k,e,hk,h⟩
  ·obtain⟨xs,e1,t⟩:=hS.lst e
   obtain⟨e2,g1⟩:=qH f1 r1
   obtain⟨e3,g2⟩:=l5 f2 t
   subst e2 e3
   exact m7 pins s σ H _ _ v u Q I rx ry ⟨a,_,rfl,.inl (.of e1),g1,g2,hR.now hS h (bS _)⟩
  ·cases nj hk r1
   cases ry
   obtain⟨o,g,e1,_⟩:=uV (k:=k) hS e
   refine WE (by lia) I g rx fun s' I'=>⟨.bl o.isSome,H,I',rfl,?_⟩
   rw[e1];exact hR.now hS h (bS _)
 |_=>exact h.elim
def IxD(K:Frag)(r:t_):Prop:=∀X:Cx,X.K=K→X.A.units+64<cLine→Ru X (Lr K r)
def ixD:t_:=fun x y S R=>match x,y with
 |.tup ds,.int i=>∃d,m6 ds i=some d∧R d S
 |.kt ds,.int i=>∃d,m6 ds i=some d∧R d S
 |.ko ds,.int i=>∃d,m6 ds i=some d∧R d S
 |.str z,.int i=>∃c,z.length≤sizeLine∧m6 z.cps.toList i=some c∧R (.str ⟨#[c]⟩) S
 |.ref a,.int i=>∃ds d,S a=some (.lst ds)∧m6 ds i=some d∧R d S
 |.ref a,.str z=>∃kvs d,S a=some (.dy kvs)∧cz kvs (.inr z)=some d∧R d S
 |_,_=>False
theorem RvAll.at{H:Hp}{ds:List D}{xs:List V}{i:Int}{d:D}(h:RvAll K H ds xs)(e:m6 ds i=some d):∃v,m6 xs i=some v∧Rv K H d v:=by
 unfold m6 at e ⊢
 rw[h.len]
 cases q:Io ds.length i with
 |none=>rw[q] at e;cases e
 |some j =>
  rw[q] at e
  exact h.get e
theorem Xt:IxD K ixD:=by
 rintro X hK hu value slice pins s σ H x y v u Q I rx ry ⟨d,e,S,R,r1,r2,hS,h,hR⟩ hs
 subst hK
 cases d with
 |tup ds =>
  cases e with
  |int i =>
   obtain⟨d,e,h⟩:=h
   obtain⟨a,xs,rfl,q,t⟩:=r1.tup
   obtain⟨z,e1,r⟩:=t.at e
   exact FC value slice pins s σ H _ _ v u Q I rx ry ⟨a,xs,i,z,rfl,r2.int,.of q,e1,hR.now hS h r⟩ hs
  |_=>exact h.elim
 |kt ds =>
  cases e with
  |int i =>
   obtain⟨d,e,h⟩:=h
   obtain⟨a,xs,rfl,q,t⟩:=r1.kt
   obtain⟨z,e1,r⟩:=t.at e
   exact FC value slice pins s σ H _ _ v u Q I rx ry ⟨a,xs,i,z,rfl,r2.int,.inr q,e1,hR.now hS h r⟩ hs
  |_=>exact h.elim
 |ko ds =>
  cases e with
  |int i =>
   obtain⟨d,e,h⟩:=h
   obtain⟨a,xs,rfl,q,t⟩:=r1.ko
   obtain⟨z,e1,r⟩:=t.at e
   exact Ca value slice pins s σ H _ _ v u Q I rx ry ⟨a,xs,i,z,rfl,r2.int,q.sq,e1,hR.now hS h r⟩ hs
  |_=>exact h.elim
 |str w =>
  cases e with
  |int i =>
   obtain⟨c,e0,e,h⟩:=h
   exact Nt value slice pins s σ H _ _ v u Q I rx ry ⟨w,i,c,r1.str,r2.int,e0,e,hR.now hS h (i6 _)⟩ hs
  |_=>exact h.elim
 |ref a =>
  cases e with
  |int i =>
   obtain⟨ds,d,e,e1,h⟩:=h
   obtain⟨xs,e2,t⟩:=hS.lst e
   obtain⟨z,e3,r⟩:=t.at e1
   exact Ca value slice pins s σ H _ _ v u Q I rx ry ⟨a,xs,i,z,r1.ref,r2.int,.of e2,e3,hR.now hS h r⟩ hs
  |str w =>
   obtain⟨kvs,d,e,e1,h⟩:=h
   cases r1.ref
   cases r2.str
   cases rx
   obtain⟨o,g,_,e2⟩:=uV (k:=.inr w) hS e
   obtain⟨z,rfl,r⟩:=e2 d e1
   exact tail_any (wF I g) PySem.F.slot_dict_getitem.lookup (DC (by lia) I g ry fun w' s' I' lU=>⟨z,H,I',lU,hR.now hS h r⟩) hs
  |_=>exact h.elim
 |_=>exact h.elim
theorem ix(hu:X.A.units+64<cLine)(ha:DE K X a ta)(hb:DE K X b tb)(hs:B_ b:=by exact fun _ _=>rfl)(hK:X.K=K:=by rfl):DE K X (.Subscript a b pos) (Of ixD ta tb) :=
 ⟨fun y=>(Rw (Xt y.cx hK hu) (ha.of y) (hb.of y) hs).mono fun _ _ _ h=>h.op⟩
end
section
variable{K:Frag}{X:Cx}
abbrev Sl:=SD→aG→(Option Int→aG→Prop)→KX→Prop
def To(K:Frag)(E:St→XK)(t:Sl):TO:=fun τ H Q=>∃σ S R Z,fO K H σ τ∧Rs K S H∧t σ S R Z∧(∀o S' H',R o S'→Rs K S' H'→Kp K H H'→Q o H')∧D2 K H Z (E τ)
structure DO(K:Frag)(X:Cx)(e:Option Expr)(t:Sl):Prop where
 of:∀{b:Bool} (y:Ev X b),PO y.cx e (To K y.E t)
theorem PO.mono(h:PO X e t)(i:∀τ H Q,t' τ H Q→t τ H Q):PO X e t':=fun pins s τ H Q I q=>h pins s τ H Q I (i τ H Q q)
def Sm(t:TD):Sl:=fun σ S R Z=>t σ S (fun d S1=>∃i,d=.int i∧R (some i) S1) Z
theorem o1(h:DE K X e t):DO K X (some e) (Sm t) :=
 ⟨fun y=>(Jh (h.of y)).mono <| by rintro τ H Q ⟨σ,S,R,Z,aA,hS,q,hR,hZ⟩;exact⟨σ,S,_,Z,aA,hS,q,by rintro d S1 x H1 ⟨i,e,r1⟩ v1 s1 k1;exact by subst e;exact⟨i,v1.int,hR _ S1 H1 r1 s1 k1⟩,hZ⟩⟩
def ia{α:Type}(xs:List α)(lo hi:Option Int):List α:=(xs.drop (HT.sIx xs.length 0 lo)).take (HT.sIx xs.length xs.length hi - HT.sIx xs.length 0 lo)
theorem RvAll.cut{H:Hp}{ds:List D}{xs:List V}(h:RvAll K H ds xs)(lo hi:Option Int):RvAll K H (ia ds lo hi) (wD xs lo hi):=by
 unfold ia wD
 rw[h.len]
 exact (h.drop _).take _
def slD:D→Option Int→Option Int→aG→KD→Prop:=fun x lo hi S R=>match x with
 |.str z=>z.length≤sizeLine∧R (.str (PySem.Txt.slice z lo hi)) S
 |.tup ds=>¬ (HT.sIx ds.length 0 lo=0∧HT.sIx ds.length ds.length hi=ds.length)∧R (.tup (ia ds lo hi)) S
 |.ref a=>∃ds,S a=some (.lst ds)∧∀p,S p=none→R (.ref p) (S.set p (.lst (ia ds lo hi)))
 |.ko ds=>∀p,S p=none→R (.ref p) (S.set p (.lst (ia ds lo hi)))
 |_=>False
def Lsl(K:Frag):V→Option Int→Option Int→Hp→VK→Prop:=fun x lo hi H Q=>∃d S R,Rv K H d x∧Rs K S H∧slD d lo hi S R∧Cn K H R Q
theorem Xu(hK:X.K=K):Rq X (Lsl K):=by
 rintro pins s σ H x v vl vu lo hi sl Q I rx hs pl pu ⟨d,S,R,r1,hS,h,hR⟩
 subst hK
 cases d with
 |str z=>exact Oc pins s σ H x v vl vu lo hi sl Q I rx hs pl pu ⟨z,r1.str,h.1,hR.now hS h.2 (i6 _)⟩
 |tup ds =>
  obtain⟨a,xs,rfl,q,t⟩:=r1.tup
  exact Nq pins s σ H _ v vl vu lo hi sl Q I rx hs pl pu ⟨a,xs,rfl,.of q,by rw[t.len];exact h.1,fun p hp=>hR.JS hS hp h.2 (t.cut lo hi)⟩
 |ref a =>
  obtain⟨ds,e,h⟩:=h
  obtain⟨xs,e1,t⟩:=hS.lst e
  exact Cb pins s σ H _ v vl vu lo hi sl Q I rx hs pl pu ⟨a,xs,r1.ref,.of e1,fun p hp=>hR.new hS hp (h p) (t.cut lo hi)⟩
 |ko ds =>
  obtain⟨a,xs,rfl,q,t⟩:=r1.ko
  exact Cb pins s σ H _ v vl vu lo hi sl Q I rx hs pl pu ⟨a,xs,rfl,q.sq,fun p hp=>hR.new hS hp (h p) (t.cut lo hi)⟩
 |_=>exact h.elim
def dSl(te:TD)(tl th:Sl):TD:=fun σ S R Z=>te σ S (fun x S1=>tl σ S1 (fun l S2=>th σ S2 (fun u S3=>slD x l u S3 R) Z) Z) Z
theorem sl{e:Expr}{lo hi:Option Expr}{te:TD}{tl th:Sl}{p2 pos:Pos}(he:DE K X e te)(hl:DO K X lo tl)(hu:DO K X hi th)(hK:X.K=K:=by rfl):DE K X (.Subscript e (.Slice lo hi none p2) pos) (dSl te tl th) :=
 ⟨fun y=>(FA (X:=y.cx) (Xu hK) (he.of y) (hl.of y) (hu.of y)).mono <| by rintro τ H Q ⟨σ,S,R,Z,aA,hS,q,hR,hZ⟩;exact
  ⟨σ,S,_,Z,aA,hS,q,fun d S1 x H1 r1 v1 s1 k1=>⟨σ,S1,_,Z,aA.ts k1,s1,r1,fun l S2 H2 r2 s2 k2=>⟨σ,S2,_,Z,aA.ts (k1.trans k2),s2,r2,fun u S3 H3 r3 s3 k3=>⟨d,S3,R,Rv.ts (k2.trans k3) _ v1,s3,r3,hR.kp ((k1.trans k2).trans k3)⟩,hZ.kp (k1.trans k2)⟩,hZ.kp k1⟩,hZ⟩⟩
def Xv(te:TD):TD:=fun σ S R Z=>te σ S (fun x S1=>∃i,x=.int i∧R (.int (-i)) S1) Z
theorem Xw(he:DE K X e te):DE K X (.UnaryOp .USub e pos) (Xv te) :=
 ⟨fun y=>(Q8 Nf (he.of y)).mono <| by rintro τ H Q ⟨σ,S,R,Z,aA,hS,q,hR,hZ⟩;exact⟨σ,S,_,Z,aA,hS,q,by rintro d S1 x H1 ⟨i,e,r1⟩ v1 s1 k1;exact by subst e;exact⟨i,v1.int,hR _ S1 _ H1 r1 (aO _) s1 k1⟩,hZ⟩⟩
def Xx(T:String)(S:aG):D→Prop
 |.str _=>T = "str"
 |.ref a=>T = "list" ∧ ∃ds,S a=some (.lst ds)
 |.ko _=>T = "list"
 |_=>False
theorem LK{H:Hp}{S:aG}{T:String}{d:D}{v:V}(h:Xx T S d)(hS:Rs K S H)(r:Rv K H d v):U4 K T v H:=by
 cases d with
 |str z=>rw[r.str];exact h
 |ref a=>obtain⟨e,ds,h⟩:=h;obtain⟨xs,e1,_⟩:=hS.lst h;rw[r.ref];exact .inl ⟨e,xs,.of e1⟩
 |ko ds=>obtain⟨a,xs,rfl,q,_⟩:=r.ko;exact .inl ⟨h,xs,q.sq⟩
 |_=>exact h.elim
abbrev Fd:=D→List D→aG→KD→Prop
def Lm(K:Frag)(r:Fd):V→List V→Hp→VK→Prop:=fun x xs H Q=>∃d ds S R,Rv K H d x∧RvAll K H ds xs∧Rs K S H∧r d ds S R∧Cn K H R Q
def LL(K:Frag)(id:String)(r:Fd):Prop:=∀X:Cx,X.K=K→Nr X id (Lm K r)
def dBM(T:String)(r:Fd)(to:TD)(t:pK):TD:=fun σ S R Z=>to σ S (fun x S1=>Xx T S1 x∧t σ S1 (fun ds S2=>r x ds S2 R) Z) Z
def Xy(T:String)(r:Fd)(to:TD):TD:=fun σ S R Z=>to σ S (fun x S1=>Xx T S1 x∧r x [] S1 R) Z
theorem bm{o e:Expr}{es:List Expr}{T id:String}{name:Str}{r:Fd}{to:TD}{t:pK}{apos aQ:Pos}(pa:PlainAttrs T)(slot:Slot T name id)(Nx:typeOf (.builtin id)=pure (.type "method_descriptor"))(hm:LL K id r)(ho:DE K X o to)(ha:DA K X (e::es) t)
  (lX:attributeBase o name X.env (eval o X.env)=eval o X.env:=by rfl)
  (Ny:((backTo aQ (starEach (e::es) X.env)).all (fun x=>!x.1) && (backToKw aQ (keywordEach [] X.env)).all (fun x=>x.1.isSome)
   && decide ((e::es).length+([]:List Keyword).length+(if ([]:List Keyword).isEmpty then 0 else 1)<30))=true:=by rfl)
  (qg:(apos.endLine == aQ.line)=true:=by rfl) (hs:starEach (e::es) X.env=(false,eval e X.env)::starEach es X.env:=by rfl) (AA:(backTo aQ (starEach es X.env)).any (·.1)=false:=by rfl) (hK:X.K=K:=by rfl) :
  DE K X (.Call (.Attribute o name apos) (e::es) [] aQ) (dBM T r to t):=by
 subst hK
 exact⟨fun y=>(Ry (X:=y.cx) pa slot Nx (hm _ rfl) (ho.of y) (ha.of y) lX Ny qg hs AA).mono <| by rintro τ H Q ⟨σ,S,R,Z,aA,hS,q,hR,hZ⟩;exact
  ⟨σ,S,_,Z,aA,hS,q,by rintro d S1 x H1 ⟨h1,r1⟩ v1 s1 k1;exact⟨LK h1 s1 v1,σ,S1,_,Z,aA.ts k1,s1,r1,fun ds S2 xs H2 r2 v2 s2 k2=>⟨d,ds,S2,R,Rv.ts k2 _ v1,v2,s2,r2,hR.kp (k1.trans k2)⟩,hZ.kp k1⟩,hZ⟩⟩
theorem Z_{o:Expr}{T id:String}{name:Str}{r:Fd}{to:TD}{apos aQ:Pos}(pa:PlainAttrs T)(slot:Slot T name id)(Nx:typeOf (.builtin id)=pure (.type "method_descriptor"))(hm:LL K id r)(ho:DE K X o to)
  (lX:attributeBase o name X.env (eval o X.env)=eval o X.env:=by rfl) (qg:(apos.endLine == aQ.line)=true:=by rfl) (hK:X.K=K:=by rfl) :
  DE K X (.Call (.Attribute o name apos) [] [] aQ) (Xy T r to):=by
 subst hK
 exact⟨fun y=>(Nw (X:=y.cx) pa slot Nx (hm _ rfl) (ho.of y) lX qg).mono <| by rintro τ H Q ⟨σ,S,R,Z,aA,hS,q,hR,hZ⟩;exact
  ⟨σ,S,_,Z,aA,hS,q,by rintro d S1 x H1 ⟨h1,r1⟩ v1 s1 k1;exact⟨LK h1 s1 v1,d,[],S1,R,v1,bB,s1,r1,hR.kp k1⟩,hZ⟩⟩
theorem RvAll.one(h:RvAll K H [d] xs):∃v,xs=[v]∧Rv K H d v:=by
 obtain⟨y,ys,rfl,h1,h2⟩:=h.cons
 rw[h2.nil];exact⟨y,rfl,h1⟩
def JV:Fd:=fun x ds S R=>∃a es d,x=.ref a∧ds=[d]∧S a=some (.lst es)∧es.length<sizeLine∧R .aw (S.set a (.lst (es++[d])))
theorem eE:LL K "list.append" JV:=by
 rintro X hK pins s σ H x xs v us Q I rx rs ⟨d,ds,S,R,r1,r2,hS,⟨a,es,y,e1,e2,e3,hl,h⟩,hR⟩
 subst e1 e2
 obtain⟨w0,rfl,q2⟩:=r2.one
 obtain⟨zs,e4,t⟩:=hS.lst e3
 exact DB pins s σ H x _ v us Q I rx rs ⟨a,zs,w0,r1.ref,rfl,e4,by rw[t.len];exact hl,hR.put hS e3 h i5 (t.app (aT q2 bB))⟩
def Xz:Fd:=fun x ds S R=>∃a es d,x=.ref a∧ds=[]∧S a=some (.lst es)∧es[es.length - 1]?=some d∧R d (S.set a (.lst es.dropLast))
theorem Sn:LL K "list.pop" Xz:=by
 rintro X hK pins s σ H x xs v us Q I rx rs ⟨d,ds,S,R,r1,r2,hS,⟨a,es,y,e1,e2,e3,hl,h⟩,hR⟩
 subst e1 e2
 obtain⟨zs,e4,t⟩:=hS.lst e3
 obtain⟨w,e5,r⟩:=t.get hl
 exact NC pins s σ H x _ v us Q I rx rs ⟨a,zs,w,r1.ref,r2.nil,e4,by rw[t.len];exact e5,hR.put hS e3 h r t.dropLast⟩
def JW:Fd:=fun x ds S R=>∃(bs:List Bool) (k:Bool),ds=[.bl k]∧uU S x (bs.map D.bl)∧R (.int (bs.count k:Nat)) S
theorem JX:LL K "list.count" JW:=by
 rintro X hK pins s σ H x xs v us Q I rx rs ⟨d,ds,S,R,r1,r2,hS,⟨bs,k,e2,e3,h⟩,hR⟩
 subst hK e2
 obtain⟨w0,rfl,q2⟩:=r2.one
 obtain⟨a,zs,rfl,q,t⟩:=e3.at hS r1
 rw[t.bools] at q
 exact D1 pins s σ H _ _ v us Q I rx rs ⟨a,bs,k,rfl,by rw[q2.bl],q,hR.now hS h (aO _)⟩
def JY:Fd:=fun x ds S R=>∃(es:List D) (d:D) (j:Nat),ds=[d]∧uU S x es∧kL d=true∧es.all kL=true∧(∃z,es[j]?=some z∧eqV (pM z) (pM d)=true)∧(∀m u,m<j→es[m]?=some u→eqV (pM u) (pM d)=false)∧R (.int j) S
theorem w5:LL K "list.index" JY:=by
 rintro X hK pins s σ H x xs v us Q I rx rs ⟨d,ds,S,R,r1,r2,hS,⟨es,y,j,e2,e3,f1,f2,⟨z,e4,e5⟩,h4,h⟩,hR⟩
 subst hK e2
 obtain⟨w0,rfl,q2⟩:=r2.one
 obtain⟨a,zs,rfl,q,t⟩:=e3.at hS r1
 obtain⟨g1,g2⟩:=qH f1 q2
 obtain⟨g3,g4⟩:=l5 f2 t
 subst g1 g3
 refine D0 pins s σ H _ _ v us Q I rx rs ⟨a,_,_,pM z,j,rfl,rfl,q,g2,g4,by rw[zB,e4];rfl,e5,fun m u hm e=>?_,hR.now hS h (aO _)⟩
 rw[zB] at e
 cases q2:es[m]? with
 |none=>rw[q2] at e;cases e
 |some u'=>rw[q2] at e;cases e;exact h4 m u' hm q2
def JZ:Fd:=fun x ds S R=>∃z y,x=.str z∧ds=[.str y]∧R (.bl (PySem.Txt.startswith z y)) S
theorem Gm:LL K "str.startswith" JZ:=by
 rintro X hK pins s σ H x xs v us Q I rx rs ⟨d,ds,S,R,r1,r2,hS,⟨z,y,e1,e2,h⟩,hR⟩
 subst e1 e2
 obtain⟨w0,rfl,q2⟩:=r2.one
 exact sQ pins s σ H _ _ v us Q I rx rs ⟨z,y,r1.str,by rw[q2.str],hR.now hS h (bS _)⟩
def LM(S:aG)(R:KD):D→Prop
 |.str z=>z.length≤sizeLine∧R (.int z.length) S
 |.tup es=>R (.int es.length) S
 |.kt es=>R (.int es.length) S
 |.ko es=>R (.int es.length) S
 |.ref a=>(∃es,S a=some (.lst es)∧R (.int es.length) S)∨∃kvs,S a=some (.dy kvs)∧R (.int kvs.length) S
 |_=>False
def XB:List D→aG→KD→Prop:=fun ds S R=>∃x,ds=[x]∧LM S R x
theorem bU:iL K (.builtin "len") XB:=by
 rintro X hK hc pins s σ H xs us Q I rx ⟨ds,S,R,r,hS,⟨x,e,h⟩,hR⟩
 subst hK e
 obtain⟨w,rfl,r'⟩:=r.one
 cases x with
 |str z =>
  cases r'.str
  exact iY pins s σ H _ us Q I rx ⟨_,_,rfl,⟨h.1,rfl⟩,hR.now hS h.2 (aO _)⟩
 |tup es =>
  obtain⟨a,xs,rfl,q,t⟩:=r'.tup
  exact iY pins s σ H _ us Q I rx ⟨_,_,rfl,.inr ⟨xs,.of q,t.len.symm⟩,hR.now hS h (aO _)⟩
 |kt es =>
  obtain⟨a,xs,rfl,q,t⟩:=r'.kt
  exact iY pins s σ H _ us Q I rx ⟨_,_,rfl,.inr ⟨xs,.inr q,t.len.symm⟩,hR.now hS h (aO _)⟩
 |ko es =>
  obtain⟨a,xs,rfl,q,t⟩:=r'.ko
  exact iY pins s σ H _ us Q I rx ⟨_,_,rfl,.inl ⟨xs,q.sq,t.len.symm⟩,hR.now hS h (aO _)⟩
 |ref a =>
  cases r'.ref
  rcases h with ⟨es,e,h⟩|⟨kvs,e,h⟩
  ·obtain⟨xs,e1,t⟩:=hS.lst e
   exact iY pins s σ H _ us Q I rx ⟨_,_,rfl,.inl ⟨xs,.of e1,t.len.symm⟩,hR.now hS h (aO _)⟩
  ·obtain⟨xs,e1,t⟩:=hS.dy e
   exact DJ pins s σ H _ us Q I rx ⟨a,xs,rfl,e1,by rw[t.len];exact hR.now hS h (aO _)⟩
 |_=>exact h.elim
def Oh(S:aG):D→Kd→Prop
 |.aw,k=>k=.aw
 |.bl _,k=>k=.bl
 |.int _,k=>k=.int
 |.str _,k=>k=.str
 |.ref a,k=>(k=.lst∧∃ds,S a=some (.lst ds))∨(k=.dy∧∃ds,S a=some (.dy ds))
 |.tup _,k=>k=.tup
 |_,_=>False
theorem So(h:Oh S d k)(hS:Rs K S H)(r:Rv K H d v):qq H v k:=by
 cases d with
 |aw=>cases h;rw[r.aw];exact .aw
 |bl b=>cases h;rw[r.bl];exact .bl b
 |int b=>cases h;rw[r.int];exact .int b
 |str b=>cases h;rw[r.str];exact .str b
 |tup b=>cases h;obtain⟨a,xs,rfl,q,_⟩:=r.tup;exact .tup q
 |ref a =>
  rw[r.ref]
  rcases h with ⟨rfl,ds,h⟩|⟨rfl,ds,h⟩
  ·obtain⟨xs,e,_⟩:=hS.lst h;exact .lst e
  ·obtain⟨xs,e,_⟩:=hS.dy h;exact .dy e
 |_=>exact h.elim
def XD:List D→aG→KD→Prop:=fun ds S R=>∃x n k g,ds=[x,.ty n]∧wK n=some g∧Oh S x k∧R (.bl (g k)) S
theorem RvAll.two(h:RvAll K H [d,e] xs):∃v u,xs=[v,u]∧Rv K H d v∧Rv K H e u:=by
 obtain⟨y,ys,rfl,h1,h2⟩:=h.cons
 obtain⟨u,rfl,h3⟩:=h2.one
 exact⟨y,u,rfl,h1,h3⟩
theorem dQ:iL K (.builtin "isinstance") XD:=by
 rintro X hK hc pins s σ H xs us Q I rx ⟨ds,S,R,r,hS,⟨x,n,k,g,e,h1,h2,h⟩,hR⟩
 subst hK e
 obtain⟨v,u,rfl,r1,r2⟩:=r.two
 rw[r2.ty] at rx
 exact FV pins s σ H _ us Q I rx ⟨v,n,k,g,rfl,h1,So h2 hS r1,hR.now hS h (bS _)⟩
def Sq:List D→aG→KD→Prop:=fun ds S R=>∃(x:D) (bs:List Bool),ds=[x]∧uU S x (bs.map D.bl)∧R (.bl (bs.all id)) S
theorem l6:iL K (.builtin "all") Sq:=by
 rintro X hK hc pins s σ H xs us Q I rx ⟨ds,S,R,r,hS,⟨x,bs,e,h1,h⟩,hR⟩
 subst hK e
 obtain⟨v,rfl,r1⟩:=r.one
 obtain⟨a,zs,rfl,q,t⟩:=h1.at hS r1
 rw[t.bools] at q
 exact sI hc pins s σ H _ us Q I rx ⟨a,bs,rfl,q,hR.now hS h (bS _)⟩
def XG:List D→aG→KD→Prop:=fun ds S R=>∃(x:D) (bs:List Bool),ds=[x]∧uU S x (bs.map D.bl)∧R (.bl (bs.any id)) S
theorem Sr:iL K (.builtin "any") XG:=by
 rintro X hK hc pins s σ H xs us Q I rx ⟨ds,S,R,r,hS,⟨x,bs,e,h1,h⟩,hR⟩
 subst hK e
 obtain⟨v,rfl,r1⟩:=r.one
 obtain⟨a,zs,rfl,q,t⟩:=h1.at hS r1
 rw[t.bools] at q
 exact sJ hc pins s σ H _ us Q I rx ⟨a,bs,rfl,q,hR.now hS h (bS _)⟩
def intD:List D→aG→KD→Prop:=fun ds S R=>(∃i,ds=[.int i]∧R (.int i) S)∨∃k,ds=[.bl k]∧R (.int (if k then 1 else 0)) S
theorem iN:iL K (.type "int") intD:=by
 rintro X hK hc pins s σ H xs us Q I rx ⟨ds,S,R,r,hS,h,hR⟩
 rcases h with ⟨i,rfl,h⟩|⟨k,rfl,h⟩
 ·obtain⟨v,rfl,r1⟩:=r.one
  exact tN pins s σ H _ us Q I rx (.inl ⟨i,by rw[r1.int],hR.now hS h (aO _)⟩)
 ·obtain⟨v,rfl,r1⟩:=r.one
  exact tN pins s σ H _ us Q I rx (.inr ⟨k,by rw[r1.bl],hR.now hS h (aO _)⟩)
def Ss:List D→aG→KD→Prop:=fun ds S R=>∃x es,ds=[x]∧(uU S x es∨x=.tup es)∧∀p,S p=none→R (.ref p) (S.set p (.lst es))
theorem Oi:iL K (.type "list") Ss:=by
 rintro X hK hc pins s σ H xs us Q I rx ⟨ds,S,R,r,hS,⟨x,es,e,h1,h⟩,hR⟩
 subst hK e
 obtain⟨v,rfl,r1⟩:=r.one
 rcases h1 with h1|rfl
 ·obtain⟨a,zs,rfl,q,t⟩:=h1.at hS r1
  exact lW pins s σ H _ us Q I rx ⟨a,zs,rfl,.inl q,fun p hp=>hR.new hS hp (h p) t⟩
 ·obtain⟨a,zs,rfl,q,t⟩:=r1.tup
  exact lW pins s σ H _ us Q I rx ⟨a,zs,rfl,.inr (.of q),fun p hp=>hR.new hS hp (h p) t⟩
def Oj:List D→aG→KD→Prop:=fun ds S R=>∃x es,ds=[x]∧(uU S x es∨x=.tup es)∧R (.tup es) S
theorem l7:iL K (.type "tuple") Oj:=by
 rintro X hK hc pins s σ H xs us Q I rx ⟨ds,S,R,r,hS,⟨x,es,e,h1,h⟩,hR⟩
 subst hK e
 obtain⟨v,rfl,r1⟩:=r.one
 rcases h1 with h1|rfl
 ·obtain⟨a,zs,rfl,q,t⟩:=h1.at hS r1
  exact kI pins s σ H _ us Q I rx ⟨a,zs,rfl,.inl ⟨q,fun p hp=>hR.JS hS hp h t⟩⟩
 ·obtain⟨a,zs,rfl,q,t⟩:=r1.tup
  exact kI pins s σ H _ us Q I rx ⟨a,zs,rfl,.inr ⟨.of q,hR.now hS h (kR q t)⟩⟩
def minD(f:Int→Int→Bool):List D→aG→KD→Prop:=fun ds S R=>∃i j,ds=[.int i,.int j]∧R (.int (if f j i then j else i)) S
theorem Su:iL K (.builtin "min") (minD fun a b=>decide (a<b)):=by
 rintro X hK hc pins s σ H xs us Q I rx ⟨ds,S,R,r,hS,⟨i,j,e,h⟩,hR⟩
 subst e
 obtain⟨v,u,rfl,r1,r2⟩:=r.two
 refine Ds hc pins s σ H _ us Q I rx ⟨i,j,by rw[r1.int,r2.int],?_⟩
 have:=hR.now hS h (aO _)
 simpa using this
end
abbrev eF:=List D→aG→KD→KX→Prop
def sS(K:Frag)(sp:eF):Sp:=fun vs H Q e=>∃ds S R Z,RvAll K H ds vs∧Rs K S H∧sp ds S R Z∧Cn K H R Q∧D2 K H Z e
section
variable{K:Frag}{X:Cx}{k:Nat}{f C:Addr}{fd:FuncData}{ps:List Str}{sp:Sp}{oQ:List V}{ds:List Value}{x m:Str}{p pos apos:Pos}{e o:Expr}{es:List Expr}{b:Bool}{y:Ev X b}
theorem uW(F:bZ X.prog X.w X.K X.mg X.base (fU X.prog X.w) k f fd ps sp)(hr:cu k X.A)(hb:Binds X.K fd ps ds)(hd:Vals oQ ds)
  (I:Inv y.cx p2 σ H s) (r:Vals vs us) (h:sp (vs++oQ) H Q (y.E σ)):wpAny (model X.prog X.w) X.A (call (.ref f) us) (EP y.cx p2 σ Q) y.xe s:=by
 have r2:Vals (vs++oQ) (us++ds):=r.append hd
 have hl:(us++ds).length=ps.length:=by rw[← r2.length];exact F.len _ _ _ _ h
 refine wpAny_call (yH (F.run X.A X.stack s H ⟨us,[]⟩ (us++ds) (vs++oQ) Q (y.E σ) hr I.Rl (hb s us I.lL hl) r2 h) fun res s' hq=>?_)
 cases res with
 |error e=>exact y.ok.call p2 σ H s e s' I hq
 |ok fl =>
  cases fl with
  |ret u=>exact I.after hq
  |next=>exact False.elim hq
  |brk=>exact False.elim hq
  |cont=>exact False.elim hq
theorem Gn{t:TA}(F:bZ X.prog X.w X.K X.mg X.base (fU X.prog X.w) k f fd ps sp)(hr:cu k X.A)(hg:Gl X x)(hm:X.mg x=some (.ref f))(hk:keepIn X.K (.ref f)=true)(hb:Binds X.K fd ps ds)(hd:Vals oQ ds)
  (ha:PA y.cx (e::es) t) (kO:(x == ("__debug__" : Str))=false) (he:starEach (e::es) X.env=(false,eval e X.env)::starEach es X.env) (eT:(backTo pos (starEach es X.env)).any (·.1)=false) :
  PE y.cx (.Call (.Name x p) (e::es) [] pos) (fun σ H Q=>t σ H fun vs H1=>sp (vs++oQ) H1 Q (y.E σ)):=by
 intro p2 s σ H Q I h
 refine wpAny_Call_Name_kw (lS I hg hm ?_ kO)
 refine callWith_K (h₀:=X.base) I.ok.mod.P6 hk (bj (ha pos p2 s σ H _ I h) fun us s1 ⟨vs,H1,I1,r,q⟩=>⟨I1.lL,?_⟩) he eT
 exact uW F hr hb hd I1 r q
theorem Gp{pl:Sem Bool}{ta:TE}{t:TA}(he:PE y.cx o ta)(c:uD X.K C)(hm:Meth X.K C m f)(F:bZ X.prog X.w X.K X.mg X.base (fU X.prog X.w) k f fd ps sp)(hr:cu k X.A)(hb:Binds X.K fd ps ds)(hd:Vals oQ ds)(ha:PA y.cx (e::es) t)
  (rZ:starEach (e::es) X.env=(false,eval e X.env)::starEach es X.env) (eT:(backTo pos (starEach es X.env)).any (·.1)=false)
  (ht:eval (.Call (.Attribute o m apos) (e::es) [] pos) X.env=(do
   let ov ← eval o X.env
   standAt apos.atName
   let (f,first) ← holding [ov] (getMethod ov m pl)
   callWith pos f first (backTo pos (starEach (e::es) X.env)) (backToKw pos (keywordEach [] X.env)))) :
  PE y.cx (.Call (.Attribute o m apos) (e::es) [] pos) (fun σ H Q=>ta σ H fun x H1=>∃a dx fs,x=.ref a∧H1 a=some (.ins C dx fs)∧fs.lookup m=none∧t σ H1 fun vs H2=>sp (x::(vs++oQ)) H2 Q (y.E σ)):=by
 intro p2 s σ H Q I h
 refine methodCall_KW (pl:=pl) (bj (he p2 s σ H _ I h) fun u s1 ⟨x,H1,I1,rx,a,dx,fs,ex,ea,l,q⟩=>?_) ht
 subst ex
 obtain rfl:u=Value.ref a:=rx
 refine qe I1 ea c hm l ?_
 refine callWith_K (first:=[.ref a]) (h₀:=X.base) I.ok.mod.P6 hm.kp (bj (ha pos p2 s1 σ H1 _ I1 q) fun us s2 ⟨vs,H2,I2,r,q2⟩=>⟨I2.lL,?_⟩) rZ eT
 exact uW (us:=.ref a::us) (vs:=.ref a::vs) F hr hb hd I2 (.cons rfl r) q2
theorem D4(he:PE y.cx o ta)(c:uD X.K C)(hm:Meth X.K C m f)(F:bZ X.prog X.w X.K X.mg X.base (fU X.prog X.w) k f fd ps sp)(hr:cu k X.A)(hb:Binds X.K fd ps ds)(hd:Vals oQ ds)
  (ht:eval (.Call (.Attribute o m apos) [] [] pos) X.env=(do
   let ov ← eval o X.env
   standAt apos.atName
   let (f,first) ← holding [ov] (getMethod ov m pl)
   callWith pos f first (backTo pos (starEach [] X.env)) (backToKw pos (keywordEach [] X.env)))) :
  PE y.cx (.Call (.Attribute o m apos) [] [] pos) (fun σ H Q=>ta σ H fun x H1=>∃a dx fs,x=.ref a∧H1 a=some (.ins C dx fs)∧fs.lookup m=none∧sp (x::oQ) H1 Q (y.E σ)):=by
 intro p2 s σ H Q I h
 refine methodCall_KW (pl:=pl) (bj (he p2 s σ H _ I h) fun u s1 ⟨x,H1,I1,rx,a,dx,fs,ex,ea,l,q⟩=>?_) ht
 subst ex
 obtain rfl:u=Value.ref a:=rx
 refine qe I1 ea c hm l ?_
 exact PySem.W.callWith_K0 (first:=[.ref a]) I1.lL hm.kp (uW (us:=[.ref a]) (vs:=[.ref a]) F hr hb hd I1 (.cons rfl .nil) q)
theorem D5(M:Mk X.K C f)(F:bZ X.prog X.w X.K X.mg X.base (fU X.prog X.w) k f fd ps sp)(hr:cu (k+1) X.A)(hb:Binds X.K fd ps ds)(hd:Vals oQ ds)
  (I:Inv y.cx p2 σ H s) (r:Vals vs us)
  (h:∀x dx,H x=none→H dx=none→dx≠x→sp (.ref x::(vs++oQ)) (upd (upd H dx (.own x)) x (.ins C dx [])) (fun v H2=>v=.aw∧Q (.ref x) H2) (y.E σ)) :
  wpAny (model X.prog X.w) X.A (call (.ref C) us) (EP y.cx p2 σ Q) y.xe s:=by
 have hq:=h (s.heap.objs.size+1) s.heap.objs.size (I.aH.fresh (yI _)) (I.aH.fresh (zo _)) (zy (Nat.lt_succ_self _))
 have I2:=Inv.made (C:=C) I
 have r2:Vals (V.ref (s.heap.objs.size+1)::(vs++oQ)) (Value.ref (s.heap.objs.size+1)::(us++ds)):=.cons rfl (r.append hd)
 have hl:(Value.ref (s.heap.objs.size+1)::us++ds).length=ps.length:=by
  have e:=r2.length
  rw[F.len _ _ _ _ hq] at e
  exact e.symm
 refine wpAny_call (Fz (f:=f) I.lL M.makes M.init (beq_iff_eq.mp M.fn) (yH (F.run _ X.stack _ _ ⟨Value.ref (s.heap.objs.size+1)::us,[]⟩ (Value.ref (s.heap.objs.size+1)::(us++ds)) _ _ (y.E σ) (hr.make C us [])
  (I2.Rl.make C us []) (hb _ (Value.ref (s.heap.objs.size+1)::us) I2.lL hl) r2 hq) fun r s' Fe=>?_))
 cases r with
 |error e=>exact y.ok.call p2 σ _ _ e s' I2 Fe
 |ok fl =>
  cases fl with
  |ret u =>
   obtain⟨v,H',I3,rv,ev,q3⟩:=I2.after Fe
   subst ev
   exact⟨rv,⟨V.ref (s.heap.objs.size+1),H',I3,rfl,q3⟩⟩
  |next=>exact False.elim Fe
  |brk=>exact False.elim Fe
  |cont=>exact False.elim Fe
theorem Gq{t:TA}(M:Mk X.K C f)(F:bZ X.prog X.w X.K X.mg X.base (fU X.prog X.w) k f fd ps sp)(hr:cu (k+1) X.A)(hg:Gl X x)(hm:X.mg x=some (.ref C))(hb:Binds X.K fd ps ds)(hd:Vals oQ ds)
  (ha:PA y.cx (e::es) t) (kO:(x == ("__debug__" : Str))=false) (he:starEach (e::es) X.env=(false,eval e X.env)::starEach es X.env) (eT:(backTo pos (starEach es X.env)).any (·.1)=false) :
  PE y.cx (.Call (.Name x p) (e::es) [] pos) (fun σ H Q=>t σ H fun vs H1=>∀x dx,H1 x=none→H1 dx=none→dx≠x →
   sp (.ref x::(vs++oQ)) (upd (upd H1 dx (.own x)) x (.ins C dx [])) (fun v H2=>v=.aw∧Q (.ref x) H2) (y.E σ)):=by
 intro p2 s σ H Q I h
 refine wpAny_Call_Name_kw (lS I hg hm ?_ kO)
 refine callWith_K (h₀:=X.base) I.ok.mod.P6 M.kp (bj (ha pos p2 s σ H _ I h) fun us s1 ⟨vs,H1,I1,r,q⟩=>⟨I1.lL,?_⟩) he eT
 exact D5 M F hr hb hd I1 r q
end
section
variable{K:Frag}{X:Cx}{k:Nat}{f C:Addr}{fd:FuncData}{ps:List Str}{sp:eF}{w6:List D}{oQ:List V}{ds:List Value}{x m:Str}{p pos apos:Pos}{e o:Expr}{es:List Expr}
structure Qn(K:Frag)(w6:List D)(oQ:List V)(ds:List Value):Prop where
 v:Vals oQ ds
 d:∀H,RvAll K H w6 oQ
theorem d0:Qn K [] [] []:=⟨.nil,fun _=>bB⟩
theorem d1:Qn K [.aw] [.aw] [.none]:=⟨.cons rfl .nil,fun _=>aT i5 bB⟩
def LN(sp:eF)(w6:List D)(t:pK):TD:=fun σ S R Z=>t σ S (fun ds S1=>sp (ds++w6) S1 R Z) Z
theorem cf(F:bZ X.prog X.w K X.mg X.base (fU X.prog X.w) k f fd ps (sS K sp))(hr:cu k X.A)(hm:X.mg x=some (.ref f))(hk:keepIn K (.ref f)=true)(hb:Binds K fd ps ds)(hd:Qn K w6 oQ ds)(ha:DA K X (e::es) t)
  (hg:Gl X x:=by rfl) (kO:(x == ("__debug__" : Str))=false:=by decide) (he:starEach (e::es) X.env=(false,eval e X.env)::starEach es X.env:=by rfl) (eT:(backTo pos (starEach es X.env)).any (·.1)=false:=by rfl) (hK:X.K=K:=by rfl) :
  DE K X (.Call (.Name x p) (e::es) [] pos) (LN sp w6 t):=by
 subst hK
 exact⟨fun y=>(Gn F hr hg hm hk hb hd.v (ha.of y) kO he eT).mono <| by rintro τ H Q ⟨σ,S,R,Z,aA,hS,q,hR,hZ⟩;exact
  ⟨σ,S,_,Z,aA,hS,q,fun es S1 xs H1 r1 v1 s1 k1=>⟨es++w6,S1,R,Z,v1.app (hd.d _),s1,r1,hR.kp k1,hZ.kp k1⟩,hZ⟩⟩
def LO(C:Addr)(m:Str)(sp:eF)(w6:List D)(ta:TD)(t:pK):TD:=fun σ S R Z=>ta σ S (fun x S1=>∃a fs,x=.ref a∧S1 a=some (.ins C fs)∧fs.lookup m=none∧t σ S1 (fun ds S2=>sp (x::(ds++w6)) S2 R Z) Z) Z
theorem sT(he:DE K X o ta)(c:uD K C)(hm:Meth K C m f)(F:bZ X.prog X.w K X.mg X.base (fU X.prog X.w) k f fd ps (sS K sp))(hr:cu k X.A)(hb:Binds K fd ps ds)(hd:Qn K w6 oQ ds)(ha:DA K X (e::es) t)
  (rZ:starEach (e::es) X.env=(false,eval e X.env)::starEach es X.env:=by rfl) (eT:(backTo pos (starEach es X.env)).any (·.1)=false:=by rfl)
  (ht:eval (.Call (.Attribute o m apos) (e::es) [] pos) X.env=(do
   let ov ← eval o X.env
   standAt apos.atName
   let (f,first) ← holding [ov] (getMethod ov m pl)
   callWith pos f first (backTo pos (starEach (e::es) X.env)) (backToKw pos (keywordEach [] X.env))):=by rfl) (hK:X.K=K:=by rfl) :
  DE K X (.Call (.Attribute o m apos) (e::es) [] pos) (LO C m sp w6 ta t):=by
 subst hK
 exact⟨fun y=>(Gp (he.of y) c hm F hr hb hd.v (ha.of y) rZ eT ht).mono <| by rintro τ H Q ⟨σ,S,R,Z,aA,hS,q,hR,hZ⟩;exact
  ⟨σ,S,_,Z,aA,hS,q,by
   rintro d S1 x H1 ⟨a,fs,e1,e2,e3,r1⟩ v1 s1 k1
   subst e1
   obtain⟨dx,vs,e4,t4⟩:=s1.ins e2
   exact⟨a,dx,vs,v1.ref,e4,(t4.look m).2 e3,σ,S1,_,Z,aA.ts k1,s1,r1,fun es S2 xs H2 r2 v2 s2 k2=>⟨_,S2,R,Z,aT (Rv.ts k2 _ v1) (v2.app (hd.d _)),s2,r2,hR.kp (k1.trans k2),hZ.kp (k1.trans k2)⟩,hZ.kp k1⟩,hZ⟩⟩
theorem l8(he:DE K X o ta)(c:uD K C)(hm:Meth K C m f)(F:bZ X.prog X.w K X.mg X.base (fU X.prog X.w) k f fd ps (sS K sp))(hr:cu k X.A)(hb:Binds K fd ps ds)(hd:Qn K w6 oQ ds)
  (ht:eval (.Call (.Attribute o m apos) [] [] pos) X.env=(do
   let ov ← eval o X.env
   standAt apos.atName
   let (f,first) ← holding [ov] (getMethod ov m pl)
   callWith pos f first (backTo pos (starEach [] X.env)) (backToKw pos (keywordEach [] X.env))):=by rfl) (hK:X.K=K:=by rfl) :
  DE K X (.Call (.Attribute o m apos) [] [] pos) (LO C m sp w6 ta Oe):=by
 subst hK
 exact⟨fun y=>(D4 (he.of y) c hm F hr hb hd.v ht).mono <| by rintro τ H Q ⟨σ,S,R,Z,aA,hS,q,hR,hZ⟩;exact
  ⟨σ,S,_,Z,aA,hS,q,by
   rintro d S1 x H1 ⟨a,fs,e1,e2,e3,r1⟩ v1 s1 k1
   subst e1
   obtain⟨dx,vs,e4,t4⟩:=s1.ins e2
   exact⟨a,dx,vs,v1.ref,e4,(t4.look m).2 e3,_,S1,R,Z,aT v1 (hd.d _),s1,r1,hR.kp k1,hZ.kp k1⟩,hZ⟩⟩
def Sv(C:Addr)(sp:eF)(w6:List D)(t:pK):TD:=fun σ S R Z=>t σ S (fun ds S1=>∀x,S1 x=none→sp (.ref x::(ds++w6)) (S1.set x (.ins C [])) (fun d S2=>d=.aw∧R (.ref x) S2) Z) Z
theorem mk(M:Mk K C f)(F:bZ X.prog X.w K X.mg X.base (fU X.prog X.w) k f fd ps (sS K sp))(hr:cu (k+1) X.A)(hm:X.mg x=some (.ref C))(hb:Binds K fd ps ds)(hd:Qn K w6 oQ ds)(ha:DA K X (e::es) t)
  (hg:Gl X x:=by rfl) (kO:(x == ("__debug__" : Str))=false:=by decide) (he:starEach (e::es) X.env=(false,eval e X.env)::starEach es X.env:=by rfl) (eT:(backTo pos (starEach es X.env)).any (·.1)=false:=by rfl) (hK:X.K=K:=by rfl) :
  DE K X (.Call (.Name x p) (e::es) [] pos) (Sv C sp w6 t):=by
 subst hK
 exact⟨fun y=>(Gq M F hr hg hm hb hd.v (ha.of y) kO he eT).mono <| by rintro τ H Q ⟨σ,S,R,Z,aA,hS,q,hR,hZ⟩;exact
  ⟨σ,S,_,Z,aA,hS,q,fun es S1 xs H1 r1 v1 s1 k1 x dx hx hdx ne=>by
   have F_:upd H1 dx (.own x) x=none:=by rw[ao ne.symm];exact hx
   have k2:Kp X.K H1 (upd (upd H1 dx (.own x)) x (.ins C dx [])):=(Kp.new hdx).trans (Kp.new F_)
   exact⟨_,_,_,Z,aT (bL x) (RvAll.ts k2 _ (v1.app (hd.d _))),(s1.grow hdx).new (c:=.ins C []) F_ ⟨dx,[],aB,.nil⟩,r1 x (s1.fresh hx),by rintro d S2 v H2 ⟨e,r2⟩ v2 s2 k3;exact by subst e;exact⟨v2.aw,hR _ _ _ _ r2 (bL x) s2 ((k1.trans k2).trans k3)⟩,(hZ.kp k1).kp k2⟩,hZ⟩⟩
def XH(C:Addr)(f:Str)(ta:TD):TD:=fun σ S R Z=>ta σ S (fun x S1=>∃a fs d,x=.ref a∧S1 a=some (.ins C fs)∧fs.lookup f=some d∧R d S1) Z
theorem fl{f:Str}{ta:TD}(c:uD K C)(n:iZ K C f)(he:DE K X e ta)(hb:attributeBase e f X.env (eval e X.env)=eval e X.env:=by rfl)(hK:X.K=K:=by rfl):DE K X (.Attribute e f pos) (XH C f ta):=by
 subst hK
 exact⟨fun y=>(Nj (X:=y.cx) (he.of y) hb).mono <| by rintro τ H Q ⟨σ,S,R,Z,aA,hS,q,hR,hZ⟩;exact
  ⟨σ,S,_,Z,aA,hS,q,by
   rintro d S1 x H1 ⟨a,fs,y,e1,e2,e3,r1⟩ v1 s1 k1
   subst e1
   obtain⟨dx,vs,e4,t4⟩:=s1.ins e2
   obtain⟨v,e5,r5⟩:=(t4.look f).1 y e3
   exact⟨a,C,dx,vs,v,v1.ref,e4,c,n,e5,(hR.kp k1).now s1 r1 r5⟩,hZ⟩⟩
end
structure ua where
 nx:SD→aG→Prop
 rt:KD
 bk:SD→aG→Prop:=fun _ _=>False
 ct:SD→aG→Prop:=fun _ _=>False
abbrev lM:=ua→SD→aG→(SD→KX)→Prop
def LP(K:Frag)(H:Hp)(R:SD→aG→Prop)(Q:St→Hp→Prop):Prop:=∀σ S τ H',R σ S→fO K H' σ τ→Rs K S H'→Kp K H H'→Q τ H'
structure Ve(K:Frag)(H:Hp)(De:ua)(Dv:Ends):Prop where
 nx:LP K H De.nx Dv.nx
 rt:Cn K H De.rt Dv.rt
 bk:LP K H De.bk Dv.bk
 ct:LP K H De.ct Dv.ct
def w9(K:Frag)(H:Hp)(Z:SD→KX)(E:St→XK):Prop:=∀σ τ C S H',Z σ C S→fO K H' σ τ→Rs K S H'→Kp K H H'→E τ (.ref C) none H'
section
variable{K:Frag}{H H1:Hp}{De:ua}{Dv:Ends}{Z:SD→KX}{E:St→XK}{σ:SD}{τ:St}{S:aG}
theorem LP.kp(h:LP K H R Q)(k:Kp K H H1):LP K H1 R Q:=fun σ S τ H' r a b c=>h σ S τ H' r a b (k.trans c)
theorem Ve.kp(h:Ve K H De Dv)(k:Kp K H H1):Ve K H1 De Dv:=⟨h.nx.kp k,h.rt.kp k,h.bk.kp k,h.ct.kp k⟩
theorem w9.kp(h:w9 K H Z E)(k:Kp K H H1):w9 K H1 Z E:=fun σ τ C S H' r a b c=>h σ τ C S H' r a b (k.trans c)
theorem w9.at(h:w9 K H Z E)(r:fO K H σ τ):D2 K H (Z σ) (E τ):=fun C S H' z s k=>h σ τ C S H' z (r.ts k) s k
theorem w9.on(h:w9 K H Z E)(k:Kp K H H1)(r:fO K H1 σ τ):D2 K H1 (Z σ) (E τ):=(h.kp k).at r
end
def Tl(K:Frag)(E:St→XK)(t:lM):TS:=fun Dv τ H=>∃σ S De Z,fO K H σ τ∧Rs K S H∧t De σ S Z∧Ve K H De Dv∧w9 K H Z E
structure DS(K:Frag)(X:Cx)(b:Bool)(st:Stmt)(t:lM):Prop where
 of:∀y:Ev X b,PS y.cx st (Tl K y.E t)
structure AX(K:Frag)(X:Cx)(b:Bool)(st:List Stmt)(t:lM):Prop where
 of:∀y:Ev X b,Ai y.cx st (Tl K y.E t)
theorem PS.mono(h:PS X e t)(i:∀D τ H,t' D τ H→t D τ H):PS X e t':=fun pins s τ H D I q=>h pins s τ H D I (i D τ H q)
theorem Ai.mono(h:Ai X e t)(i:∀D τ H,t' D τ H→t D τ H):Ai X e t':=fun pins s τ H D I q=>h pins s τ H D I (i D τ H q)
section
variable{K:Frag}{X:Cx}{b:Bool}{pos:Pos}
def Sw:lM:=fun De σ S _=>De.nx σ S
def XI(t u:lM):lM:=fun De σ S Z=>t { De with nx:=fun aD S'=>u De aD S' Z } σ S Z
theorem s0:AX K X b [] Sw:=⟨fun y=>(BZ (X:=y.cx)).mono <| by rintro D τ H ⟨σ,S,De,Z,aA,hS,q,hD,hZ⟩;exact hD.nx _ _ _ _ q aA hS (.refl _)⟩
theorem sc{st:Stmt}{r:List Stmt}{t u:lM}(h1:DS K X b st t)(h2:AX K X b r u):AX K X b (st::r) (XI t u) :=
 ⟨fun y=>(Fm (h1.of y) (h2.of y)).mono <| by rintro D τ H ⟨σ,S,De,Z,aA,hS,q,hD,hZ⟩;exact
  ⟨σ,S,_,Z,aA,hS,q,⟨fun uC S1 Vf H1 r1 a b c=>⟨uC,S1,De,Z,a,b,r1,hD.kp c,hZ.kp c⟩,hD.rt,hD.bk,hD.ct⟩,hZ⟩⟩
theorem s1{st:Stmt}{t:lM}(h:DS K X b st t):AX K X b [st] t:=⟨fun y=>IQ (h.of y)⟩
def Sy(t:TD):lM:=fun De σ S Z=>t σ S (fun _ S1=>De.nx σ S1) (Z σ)
theorem se(h:DE K X e t)(hs:swapsWith e none pos.line X.env=pure false:=by rfl):DS K X b (.Expr e pos) (Sy t) :=
 ⟨fun y=>(IS (X:=y.cx) (h.of y) hs).mono <| by rintro D τ H ⟨σ,S,De,Z,aA,hS,q,hD,hZ⟩;exact⟨σ,S,_,_,aA,hS,q,fun d S1 v H1 r1 _ s1 k1=>hD.nx _ _ _ _ r1 (aA.ts k1) s1 k1,hZ.at aA⟩⟩
def XJ(t:TD):lM:=fun De σ S Z=>t σ S De.rt (Z σ)
theorem sr(h:DE K X e t):DS K X b (.Return (some e) pos) (XJ t) :=
 ⟨fun y=>(MU (h.of y)).mono <| by rintro D τ H ⟨σ,S,De,Z,aA,hS,q,hD,hZ⟩;exact⟨σ,S,_,_,aA,hS,q,hD.rt,hZ.at aA⟩⟩
def dIf(c:qE)(t u:lM):lM:=fun De σ S Z=>c σ S (fun b S1=>if b=true then t De σ S1 Z else u De σ S1 Z) (Z σ)
theorem si(hc:DT K X c tc)(ha:AX K X b a t)(hb:AX K X b a' u):DS K X b (.If c a a' pos) (dIf tc t u) :=
 ⟨fun y=>(QZ (hc.of y) (ha.of y) (hb.of y)).mono <| by rintro D τ H ⟨σ,S,De,Z,aA,hS,q,hD,hZ⟩;exact
  ⟨σ,S,_,_,aA,hS,q,fun c S1 H1 r1 s1 k1=>by
   cases c with
   |true=>rw[if_pos rfl] at r1 ⊢;exact⟨σ,S1,De,Z,aA.ts k1,s1,r1,hD.kp k1,hZ.kp k1⟩
   |false=>rw[if_neg zd] at r1 ⊢;exact⟨σ,S1,De,Z,aA.ts k1,s1,r1,hD.kp k1,hZ.kp k1⟩,hZ.at aA⟩⟩
abbrev AY:=D→SD→aG→(SD→aG→Prop)→Prop
def Tg(K:Frag)(g:AY):TG:=fun v τ H Q=>∃d σ S R,Rv K H d v∧fO K H σ τ∧Rs K S H∧g d σ S R∧LP K H R Q
structure DG(K:Frag)(X:Cx)(e:Expr)(g:AY):Prop where
 of:∀Y:Cx,Y.K=X.K→Y.N=X.N→Y.env=X.env→Y.fn=X.fn→Y.calm=X.calm→PG Y e (Tg K g)
theorem PG.mono(h:PG X e t)(i:∀v τ H Q,t' v τ H Q→t v τ H Q):PG X e t':=fun pins s τ H v u Q I r q=>h pins s τ H v u Q I r (i v τ H Q q)
def Vh(i:Nat):AY:=fun d σ S R=>R (σ.set i (some d)) S
theorem gn(hN:X.N.Nodup)(hi:X.N[i]?=some x:=by rfl)(hx:Loc X.env.scope x:=by first|exact Or.inl rfl|exact Or.inr rfl)(hf:X.fn x=true∨X.env.scope.names.lookup x=some .local:=by first|exact .inl rfl|exact .inr rfl):DG K X (.Name x pos) (Vh i) :=
 ⟨fun Y _ e2 e3 e4 _=>(pH (X:=Y) (by rw[e2];exact hN) (by rw[e2];exact hi) (by rw[e3];exact hx) (by rw[e3,e4];exact hf)).mono <| by rintro v τ H Q ⟨d,σ,S,R,rv,aA,hS,q,hR⟩;exact hR _ S _ H q (aA.set i rv) hS (.refl _)⟩
abbrev D6:=List D→SD→aG→(SD→aG→Prop)→Prop
def Tgs(K:Frag)(g:D6):P9:=fun vs τ H Q=>∃ds σ S R,RvAll K H ds vs∧fO K H σ τ∧Rs K S H∧g ds σ S R∧LP K H R Q
structure Vi(K:Frag)(X:Cx)(es:List Expr)(g:D6):Prop where
 of:∀Y:Cx,Y.K=X.K→Y.N=X.N→Y.env=X.env→Y.fn=X.fn→Y.calm=X.calm→Lv Y es (Tgs K g)
theorem Lv.mono(h:Lv X e t)(i:∀v τ H Q,t' v τ H Q→t v τ H Q):Lv X e t':=fun pins s τ H v u Q I r q=>h pins s τ H v u Q I r (i v τ H Q q)
def LQ:D6:=fun ds σ S R=>ds=[]∧R σ S
def AZ(g:AY)(u:D6):D6:=fun ds σ S R=>∃d r,ds=d::r∧g d σ S fun uC S1=>u r uC S1 R
theorem g0:Vi K X [] LQ:=⟨fun Y _ _ _ _ _=>(B0 (X:=Y)).mono <| by rintro vs τ H Q ⟨ds,σ,S,R,rv,aA,hS,⟨e,q⟩,hR⟩;exact by subst e;exact⟨rv.nil,hR _ _ _ _ q aA hS (.refl _)⟩⟩
theorem gc(h1:DG K X e g)(h2:Vi K X es u)(hs:∀env:Env,(assignEach (e::es) env).map (·.2)=assign e env::(assignEach es env).map (·.2):=by intro _;rfl):Vi K X (e::es) (AZ g u) :=
 ⟨fun Y a b c d f=>(pW (h1.of Y a b c d f) (h2.of Y a b c d f) (hs _)).mono <| by
  rintro vs τ H Q ⟨ds,σ,S,R,rv,aA,hS,⟨d,r,e,q⟩,hR⟩
  subst e
  obtain⟨y,ys,e1,r1,r2⟩:=rv.cons
  exact⟨y,ys,e1,d,σ,S,_,r1,aA,hS,q,fun uC S1 Vf H1 q1 a b c=>⟨r,uC,S1,R,RvAll.ts c _ r2,a,b,q1,hR.kp c⟩⟩⟩
def LR(n:Nat)(g:D6):AY:=fun d σ S R=>∃ds,d=.tup ds∧ds.length=n∧g ds σ S R
theorem gt(h:Vi K X es g)(hn:∀env:Env,(assignEach es env).length=n:=by intro _;rfl)(rZ:∀env:Env,(assignEach es env).findIdx? (·.1)=none:=by intro _;rfl)(hK:X.K=K:=by rfl)(hc:X.calm=true:=by rfl):DG K X (.Tuple es j pos) (LR n g) :=
 ⟨fun Y a b c d f=>(Fn (X:=Y) (by rw[f];exact hc) (h.of Y a b c d f) (hn _) (rZ _)).mono <| by
  rintro v τ H Q ⟨d,σ,S,R,rv,aA,hS,⟨ds,e,hl,q⟩,hR⟩
  subst e
  obtain⟨p,xs,e1,e2,t⟩:=rv.tup
  exact⟨p,xs,e1,.of e2,by rw[t.len];exact hl,ds,σ,S,R,t,aA,hS,q,hR⟩⟩
def Sz(i:Nat)(t:TD):lM:=fun De σ S Z=>t σ S (fun d S1=>De.nx (σ.set i (some d)) S1) (Z σ)
theorem cR(hN:X.N.Nodup)(h:DE K X e t)(hi:X.N[i]?=some x:=by rfl)(hx:Loc X.env.scope x:=by first|exact Or.inl rfl|exact Or.inr rfl)(hs:swapsWith e (some (.Name x pos')) pos.line X.env=pure false:=by rfl)
  (hf:X.fn x=true∨X.env.scope.names.lookup x=some .local:=by first|exact .inl rfl|exact .inr rfl):DS K X b (.Assign [.Name x pos'] e pos) (Sz i t) :=
 ⟨fun y=>(MX (X:=y.cx) (i:=i) hN hi hx (h.of y) hs hf).mono <| by rintro D τ H ⟨σ,S,De,Z,aA,hS,q,hD,hZ⟩;exact⟨σ,S,_,_,aA,hS,q,fun d S1 v H1 r1 v1 s1 k1=>hD.nx _ _ _ _ r1 ((aA.ts k1).set i v1) s1 k1,hZ.at aA⟩⟩
def XM(t:TD)(g:AY):lM:=fun De σ S Z=>t σ S (fun d S1=>g d σ S1 De.nx) (Z σ)
theorem sa(h:DE K X e t)(hg:DG K X tg g)(hs:swapsWithSole [tg] e pos.line X.env=pure false:=by rfl)(hw:swappedStores [tg] e X.env=pure none:=by rfl)(h1:(assignEach [tg] X.env).map (·.2)=[assign tg X.env]:=by rfl) :
  DS K X b (.Assign [tg] e pos) (XM t g) :=
 ⟨fun y=>(Fp (X:=y.cx) (h.of y) (hg.of _ rfl rfl rfl rfl rfl) hs hw h1).mono <| by rintro D τ H ⟨σ,S,De,Z,aA,hS,q,hD,hZ⟩;exact⟨σ,S,_,_,aA,hS,q,fun d S1 v H1 r1 v1 s1 k1=>⟨d,σ,S1,_,v1,aA.ts k1,s1,r1,hD.nx.kp k1⟩,hZ.at aA⟩⟩
def XN(td ty tv:TD):lM:=fun De σ S Z=>tv σ S (fun v S1=>td σ S1 (fun x S2=>ty σ S2 (fun y S3=>∃a kvs k,x=.ref a∧S3 a=some (.dy kvs)∧AW y=some k∧kvs.length<sizeLine∧De.nx σ (S3.set a (.dy (dput kvs k v)))) (Z σ)) (Z σ)) (Z σ)
theorem sd{o i value:Expr}{td ty tv:TD}{pos':Pos}(hu:X.A.units+64<cLine)(ho:DE K X o td)(hi:DE K X i ty)(hv:DE K X value tv)(hs:swapsWith value (some (.Subscript o i pos')) pos.line X.env=pure false:=by rfl):DS K X b (.Assign [.Subscript o i pos'] value pos) (XN td ty tv) :=
 ⟨fun y=>(Jk (X:=y.cx) (by show X.A.units+1<cLine;lia) (ho.of y) (hi.of y) (hv.of y) hs).mono <| by rintro D τ H ⟨σ,S,De,Z,aA,hS,q,hD,hZ⟩;exact
  ⟨σ,S,_,_,aA,hS,q,fun v S1 vv H1 r1 v1 s1 k1=>⟨σ,S1,_,_,aA.ts k1,s1,r1,fun x S2 xv H2 r2 v2 s2 k2=>⟨σ,S2,_,_,aA.ts (k1.trans k2),s2,r2,by
   rintro y S3 yv H3 ⟨a,kvs,k,e1,e2,e3,hl,r3⟩ v3 s3 k3
   subst e1
   obtain⟨vs,e4,t⟩:=s3.dy e2
   have kk:=s3.h_ (o:=.dK (putK vs k vv)) e2
   refine⟨a,_,(Rv.ts k3 _ v2).ref,by rw[nj e3 v3];exact FI.k e4 (by rw[t.len];exact hl),?_⟩
   exact hD.nx _ _ _ _ r3 (aA.ts (((k1.trans k2).trans k3).trans kk)) (s3.put (c:=.dy _) e2 ⟨_,aB,(t.put k (Rv.ts (k2.trans k3) _ v1)).ts kk⟩) (((k1.trans k2).trans k3).trans kk),hZ.on (k1.trans k2) (aA.ts (k1.trans k2))⟩,hZ.on k1 (aA.ts k1)⟩,hZ.at aA⟩⟩
end
section
variable{X:Cx}{pins:List (Addr×Obj)}{σ:St}{H:Hp}{s:Shared}{A:Around}{E:Value→Shared→Prop}{a:Addr}{kvs:List (Key×V)}{k:Key}{u:Value}
theorem Ol(I:Inv X pins σ H s)(e:H a=some (.dK kvs))(ry:RelV (kV k) u)(rz:RelV z r)(hl:kvs.length<sizeLine)
  (h1:∀v w' s',fN kvs k=some v→Inv X pins σ H s'→RelV v w'→Q w' s') (h2:fN kvs k=none→∀s',Inv X pins σ (upd H a (.dK (putK kvs k z))) s'→Q r s') :
  wpAny (model X.prog X.w) A (call (.builtin "dict.setdefault") [.ref a,u,r]) Q E s:=by
 obtain⟨zz,hd,vs,rel,dd⟩:=Cc I.aH e
 have hp:=oA kvs k z
 refine call_meetsIn PySem.F.slot_dict_setdefault dd.typeIs PySem.F.entry_dict_setdefault (PySem.F.args_dict_setdefault_3 _ _ _) (PySem.kt_meets_setdefault (aF X.prog X.w) a (kJ ry) hd r)
  ⟨vs,dd,by rw[← rel.length];exact zz,fun w' hw=>?_,fun hn h' Iq hs=>?_⟩
 ·cases q:fN kvs k with
  |none =>
   have:=fK.none_of (o:=valueAt vs k) (by rw[← q];exact rel.val k)
   rw[this] at hw;cases hw
  |some v =>
   obtain⟨w2,r_,rw2⟩:=fK.some_of (v:=v) (o:=valueAt vs k) (by rw[← q];exact rel.val k)
   rw[r_] at hw;cases hw
   exact h1 v _ _ q (I.tok _) rw2
 ·cases q:fN kvs k with
  |some v =>
   obtain⟨w2,r_,rw2⟩:=fK.some_of (v:=v) (o:=valueAt vs k) (by rw[← q];exact rel.val k)
   rw[r_] at hn;cases hn
  |none =>
   have he:∃q,h'.get? a=some q:=by obtain⟨q,_,_,hq,_⟩:=Iq;exact⟨q,hq⟩
   exact h2 q _ (uI I (by rw[e];exact True.intro) hs he (AD (by lia) hd (rel.put k rz) Iq))
end
section
variable{X:Cx}{o e f:Expr}{apos aQ:Pos}{td ty tx:TE}
def SE(td ty tx:TE):TE:=fun σ H Q=>td σ H fun x H1=>∃a,x=.ref a∧Qb H1 a∧ty σ H1 fun y H2=>tx σ H2 fun z H3=>∃kvs k,H3 a=some (.dK kvs)∧y=kV k∧kvs.length<sizeLine ∧
 (∀v,fN kvs k=some v→Q v H3)∧(fN kvs k=none→Q z (upd H3 a (.dK (putK kvs k z))))
theorem Gr(ho:PE X o td)(he:PE X e ty)(hf:PE X f tx)(m:M2 X o "setdefault" apos e f aQ):PE X (.Call (.Attribute o "setdefault" apos) [e,f] [] aQ) (SE td ty tx):=by
 intro pins s σ H Q I h
 refine wpAny_Call_method m.base m.E_ m.line PySem.F.plainAttrs_dict PySem.F.slot_dict_setdefault PySem.F.type_dict_setdefault (bj (ho pins s σ H _ I h) fun u s1 ⟨x,H1,I1,rx,a,ex,d,q1⟩=>?_)
 subst ex
 obtain rfl:u=Value.ref a:=rx
 obtain⟨t1,t2,_⟩:=uJ I1 d
 refine⟨t1,t2,?_⟩
 rw[m.trees]
 refine Calls.callWith_builtin rfl (Calls.evalArgs_plain (yp (bj (he pins s1 σ H1 _ I1 q1) fun iv s2 ⟨y,H2,I2,ry,q2⟩ =>
  yp (bj (hf pins s2 σ H2 _ I2 q2) fun fv s3 ⟨z,H3,I3,rz,kvs,k,ea,ey,hl,q3,q4⟩=>Calls.spliced_nil ?_))))
 subst ey
 exact Ol I3 ea ry rz hl (fun v w' s4 l I4 lU=>⟨v,H3,I4,lU,q3 v l⟩) fun l s4 I4=>⟨z,_,I4,rz,q4 l⟩
end
section
variable{K:Frag}{X:Cx}{b:Bool}{o e f:Expr}{apos aQ pos:Pos}{td ty tx:TD}
theorem uX(hS:Rs K S H)(e:S a=some (.dy kvs)):Qb H a:=by
 obtain⟨vs,e1,_⟩:=hS.dy e
 exact .inl ⟨vs,.inl e1⟩
def SF(td ty:TD):TD:=fun σ S R Z=>td σ S (fun x S1=>∃a kvs,x=.ref a∧S1 a=some (.dy kvs)∧ty σ S1 (fun y S2=>∃kvs k,S2 a=some (.dy kvs)∧AW y=some k∧R ((cz kvs k).getD .aw) S2) Z) Z
theorem Gs(hS:Rs K S H)(e:S a=some (.dy kvs))(r:Rv K H d v):∃o,oR H a (kV k) o∧Rv K H ((cz kvs k).getD d) (o.getD v):=by
 obtain⟨o,g,h1,h2⟩:=uV (k:=k) hS e
 refine⟨o,g,?_⟩
 cases q:cz kvs k with
 |none =>
  rw[q] at h1
  cases o with
  |none=>exact r
  |some _=>cases h1
 |some d' =>
  obtain⟨v',rfl,r'⟩:=h2 d' q
  exact r'
theorem mg1(hu:X.A.units+64<cLine)(ho:DE K X o td)(he:DE K X e ty)(m:M1 X o "get" apos e aQ:=by exact⟨rfl,rfl,rfl,rfl⟩):DE K X (.Call (.Attribute o "get" apos) [e] [] aQ) (SF td ty) :=
 ⟨fun y=>(FL (X:=y.cx) (by show X.A.units+1<cLine;lia) (ho.of y) (he.of y) ⟨m.base,m.E_,m.line,m.trees⟩).mono <| by rintro τ H Q ⟨σ,S,R,Z,aA,hS,q,hR,hZ⟩;exact
  ⟨σ,S,_,Z,aA,hS,q,by
   rintro x S1 xv H1 ⟨a,kvs,e1,e2,r1⟩ v1 s1 k1
   subst e1
   exact⟨a,v1.ref,uX s1 e2,σ,S1,_,Z,aA.ts k1,s1,r1,by
    rintro y S2 yv H2 ⟨kvs,k,e3,e4,r2⟩ v2 s2 k2
    obtain⟨o,g,r⟩:=Gs (k:=k) s2 e3 i5
    exact⟨o,by rw[nj e4 v2];exact g,(hR.kp (k1.trans k2)).now s2 r2 r⟩,hZ.kp k1⟩,hZ⟩⟩
def SG(td ty tx:TD):TD:=fun σ S R Z=>td σ S (fun x S1=>∃a kvs,x=.ref a∧S1 a=some (.dy kvs)∧ty σ S1 (fun y S2=>tx σ S2 (fun z S3=>∃kvs k,S3 a=some (.dy kvs)∧AW y=some k∧R ((cz kvs k).getD z) S3) Z) Z) Z
theorem mg2(hu:X.A.units+64<cLine)(ho:DE K X o td)(he:DE K X e ty)(hf:DE K X f tx)(m:M2 X o "get" apos e f aQ:=by exact⟨rfl,rfl,rfl,rfl⟩):DE K X (.Call (.Attribute o "get" apos) [e,f] [] aQ) (SG td ty tx) :=
 ⟨fun y=>(FN (X:=y.cx) (by show X.A.units+1<cLine;lia) (ho.of y) (he.of y) (hf.of y) ⟨m.base,m.E_,m.line,m.trees⟩).mono <| by rintro τ H Q ⟨σ,S,R,Z,aA,hS,q,hR,hZ⟩;exact
  ⟨σ,S,_,Z,aA,hS,q,by
   rintro x S1 xv H1 ⟨a,kvs,e1,e2,r1⟩ v1 s1 k1
   subst e1
   exact⟨a,v1.ref,uX s1 e2,σ,S1,_,Z,aA.ts k1,s1,r1,fun y S2 yv H2 r2 v2 s2 k2=>⟨σ,S2,_,Z,aA.ts (k1.trans k2),s2,r2,by
    rintro z S3 zv H3 ⟨kvs,k,e3,e4,r3⟩ v3 s3 k3
    obtain⟨o,g,r⟩:=Gs (k:=k) s3 e3 v3
    exact⟨o,by rw[nj e4 v2];exact g,(hR.kp ((k1.trans k2).trans k3)).now s3 r3 r⟩,hZ.kp (k1.trans k2)⟩,hZ.kp k1⟩,hZ⟩⟩
def SH(td ty:TD):TD:=fun σ S R Z=>td σ S (fun x S1=>∃a kvs,x=.ref a∧S1 a=some (.dy kvs)∧ty σ S1 (fun y S2=>∃kvs k d,S2 a=some (.dy kvs)∧AW y=some k∧cz kvs k=some d∧R d (S2.set a (.dy (wZ kvs k)))) Z) Z
theorem mp1(ho:DE K X o td)(he:DE K X e ty)(m:M1 X o "pop" apos e aQ:=by exact⟨rfl,rfl,rfl,rfl⟩):DE K X (.Call (.Attribute o "pop" apos) [e] [] aQ) (SH td ty) :=
 ⟨fun y=>(FO (X:=y.cx) (ho.of y) (he.of y) ⟨m.base,m.E_,m.line,m.trees⟩).mono <| by rintro τ H Q ⟨σ,S,R,Z,aA,hS,q,hR,hZ⟩;exact
  ⟨σ,S,_,Z,aA,hS,q,by
   rintro x S1 xv H1 ⟨a,kvs,e1,e2,r1⟩ v1 s1 k1
   subst e1
   exact⟨a,v1.ref,uX s1 e2,σ,S1,_,Z,aA.ts k1,s1,r1,by
    rintro y S2 yv H2 ⟨kvs,k,d,e3,e4,e5,r2⟩ v2 s2 k2
    obtain⟨vs,e6,t⟩:=s2.dy e3
    obtain⟨v,e7,r7⟩:=(t.val k).1 d e5
    have kk:=s2.h_ (o:=.dK (oz vs k)) e3
    exact⟨vs,k,v,e6,nj e4 v2,e7,hR _ _ _ _ r2 (Rv.ts kk _ r7) (s2.put (c:=.dy _) e3 ⟨_,aB,(t.drop k).ts kk⟩) ((k1.trans k2).trans kk)⟩,hZ.kp k1⟩,hZ⟩⟩
def SI(td ty tx:TD):TD:=fun σ S R Z=>td σ S (fun x S1=>∃a kvs,x=.ref a∧S1 a=some (.dy kvs)∧ty σ S1 (fun y S2=>tx σ S2 (fun z S3=>∃kvs k,S3 a=some (.dy kvs)∧AW y=some k∧kvs.length<sizeLine ∧
 (∀d,cz kvs k=some d→R d S3)∧(cz kvs k=none→R z (S3.set a (.dy (dput kvs k z))))) Z) Z) Z
theorem ms2(ho:DE K X o td)(he:DE K X e ty)(hf:DE K X f tx)(m:M2 X o "setdefault" apos e f aQ:=by exact⟨rfl,rfl,rfl,rfl⟩):DE K X (.Call (.Attribute o "setdefault" apos) [e,f] [] aQ) (SI td ty tx) :=
 ⟨fun y=>(Gr (X:=y.cx) (ho.of y) (he.of y) (hf.of y) ⟨m.base,m.E_,m.line,m.trees⟩).mono <| by rintro τ H Q ⟨σ,S,R,Z,aA,hS,q,hR,hZ⟩;exact
  ⟨σ,S,_,Z,aA,hS,q,by
   rintro x S1 xv H1 ⟨a,kvs,e1,e2,r1⟩ v1 s1 k1
   subst e1
   exact⟨a,v1.ref,uX s1 e2,σ,S1,_,Z,aA.ts k1,s1,r1,fun y S2 yv H2 r2 v2 s2 k2=>⟨σ,S2,_,Z,aA.ts (k1.trans k2),s2,r2,by
    rintro z S3 zv H3 ⟨kvs,k,e3,e4,hl,r3,r4⟩ v3 s3 k3
    obtain⟨vs,e6,t⟩:=s3.dy e3
    have kk:=s3.h_ (o:=.dK (putK vs k zv)) e3
    have hR3:=hR.kp ((k1.trans k2).trans k3)
    refine⟨vs,k,e6,nj e4 (Rv.ts k3 _ v2),by rw[t.len];exact hl,fun v hv=>?_,fun hn=>?_⟩
    ·cases q:cz kvs k with
     |none=>rw[(t.val k).2 q] at hv;cases hv
     |some d =>
      obtain⟨v',e7,r7⟩:=(t.val k).1 d q
      rw[e7] at hv;cases hv
      exact hR3.now s3 (r3 d q) r7
    ·cases q:cz kvs k with
     |some d=>obtain⟨v',e7,r7⟩:=(t.val k).1 d q;rw[e7] at hn;cases hn
     |none=>exact hR3 _ _ _ _ (r4 q) (Rv.ts kk _ v3) (s3.put (c:=.dy _) e3 ⟨_,aB,(t.put k v3).ts kk⟩) kk,hZ.kp (k1.trans k2)⟩,hZ.kp k1⟩,hZ⟩⟩
def A0(f:Str)(d:D):List (Str×D)→List (Str×D)
 |[]=>[(f,d)]
 | (g,x)::r=>if g=f then (g,d)::r else (g,x)::A0 f d r
theorem b_.A0{H:Hp}{f:Str}{d:D}{v:V}(rd:Rv K H d v):∀{ks:List (Str×D)}{vs:List (Str×V)},b_ K H ks vs→b_ K H (A0 f d ks) (putF f v vs)
 |_,_,.nil=>.cons ⟨rfl,rd⟩ .nil
 | (g,x)::r,(g',y)::r',.cons h t=>by
  obtain⟨e,h⟩:=h
  dsimp only at e
  subst e
  show b_ K H (if g=f then (g,d)::r else (g,x)::L2.A0 f d r) (if g=f then (g,v)::r' else (g,y)::putF f v r')
  by_cases q:g=f
  ·rw[if_pos q,if_pos q];exact .cons ⟨rfl,rd⟩ t
  ·rw[if_neg q,if_neg q];exact .cons ⟨rfl,h⟩ (b_.A0 rd t)
def SJ(C:Addr)(f:Str)(ta tv:TD):lM:=fun De σ S Z=>tv σ S (fun y S1=>ta σ S1 (fun x S2=>∃a fs,x=.ref a∧S2 a=some (.ins C fs)∧fs.length<1000∧De.nx σ (S2.set a (.ins C (A0 f y fs)))) (Z σ)) (Z σ)
theorem sf{C:Addr}{f:Str}{value:Expr}{ta tv:TD}{pos':Pos}(c:uD K C)(n:iZ K C f)(ha:DE K X o ta)(hv:DE K X value tv)(hs:swapsWith value (some (.Attribute o f pos')) pos.line X.env=pure false:=by rfl)(hK:X.K=K:=by rfl) :
  DS K X b (.Assign [.Attribute o f pos'] value pos) (SJ C f ta tv):=by
 subst hK
 exact⟨fun y=>(Nk (X:=y.cx) (ha.of y) (hv.of y) hs).mono <| by rintro D τ H ⟨σ,S,De,Z,aA,hS,q,hD,hZ⟩;exact
  ⟨σ,S,_,_,aA,hS,q,fun y S1 yv H1 r1 v1 s1 k1=>⟨σ,S1,_,_,aA.ts k1,s1,r1,by
   rintro x S2 xv H2 ⟨a,fs,e1,e2,hl,r2⟩ v2 s2 k2
   subst e1
   obtain⟨dx,vs,e4,t4⟩:=s2.ins e2
   have kk:=s2.h_ (o:=.ins C dx (putF f yv vs)) e2
   exact⟨a,C,dx,vs,v2.ref,e4,c,n,by rw[t4.len];exact hl,hD.nx _ _ _ _ r2 (aA.ts ((k1.trans k2).trans kk)) (s2.put (c:=.ins C _) e2 ⟨dx,_,aB,(b_.A0 (Rv.ts k2 _ v1) t4).ts kk⟩) ((k1.trans k2).trans kk)⟩,hZ.on k1 (aA.ts k1)⟩,hZ.at aA⟩⟩
def Om(C:Addr)(t:pK):lM:=fun _ σ S Z=>t σ S (fun ds S1=>ds.length≤sizeLine∧Z σ C S1) (Z σ)
end
section
variable{K:Frag}{X:Cx}{C:Addr}{x:Str}{e:Expr}{es:List Expr}{np aQ pos:Pos}
theorem D7{t:TA}{y:Ev X true}(hc:X.calm=true)(c:XC X.K C)(hg:Gl X x)(hm:X.mg x=some (.ref C))(ha:PA y.cx (e::es) t)(kO:(x == ("__debug__" : Str))=false)
  (he:starEach (e::es) X.env=(false,eval e X.env)::starEach es X.env) (eT:(backTo aQ (starEach es X.env)).any (·.1)=false) :
  PS y.cx (.Raise (some (.Call (.Name x np) (e::es) [] aQ)) none pos) (fun _ σ H=>t σ H fun vs H1=>vs.length≤sizeLine∧y.E σ (.ref C) none H1):=by
 intro pins s σ H D I h
 obtain⟨bm,N,nm,q,bs,hdct,sn,sub,ab,col,dd,k0,k1,k2,k3,k5,mN,hC,hN,U8,T⟩:=c.at I.mod.P6
 have lX:bm.contains (.type "BaseException")=true:=T.hasType (by decide)
 refine wpAny_Raise_call_subT (C:=C) (nm:=nm) (q:=q) (N:=N) (bs:=bs) (bm:=bm) (hdct:=hdct) (sn:=sn) (sub:=sub) (ab:=ab) (col:=col) (dd:=dd) (k0:=k0) (k1:=k1) (k2:=k2) (k3:=k3) (k5:=k5) PySem.F.excBase_ValueError (mN:=mN)
  lX (I.ok.hd hc) (by show ((backTo aQ (starEach (e::es) X.env)).any (·.1))=false;rw[he];show (false || (backTo aQ (starEach es X.env)).any (·.1))=false;rw[eT];rfl) U8 (lS I hg hm ⟨rfl,?_⟩ kO)
 have h1:=ha aQ pins s σ H _ I h
 have he':starEach (e::es) y.cx.env=(false,eval e X.env)::starEach es X.env:=he
 rw[he'] at h1 ⊢
 exact Calls.evalArgs_plain (bj h1 <| by rintro us s2 ⟨vs,H2,I2,r,z,q2⟩;exact⟨rfl,by show us.length≤sizeLine;rw[← r.length];exact z,I2.bk _ _ hC,hN.keeps I2.bk,T.keeps I2.bk,fun h' a hx=>y.ok.own rfl pins σ H2 s2 h' a _ _ I2 hx q2⟩)
theorem w_{t:pK}(c:XC K C)(hm:X.mg x=some (.ref C))(ha:DA K X (e::es) t)(hg:Gl X x:=by rfl)(kO:(x == ("__debug__" : Str))=false:=by decide)
  (he:starEach (e::es) X.env=(false,eval e X.env)::starEach es X.env:=by rfl) (eT:(backTo aQ (starEach es X.env)).any (·.1)=false:=by rfl) (hc:X.calm=true:=by rfl) (hK:X.K=K:=by rfl) :
  DS K X true (.Raise (some (.Call (.Name x np) (e::es) [] aQ)) none pos) (Om C t):=by
 subst hK
 exact⟨fun y=>(D7 (y:=y) hc c hg hm (ha.of y) kO he eT).mono <| by rintro D τ H ⟨σ,S,De,Z,aA,hS,q,hD,hZ⟩;exact
  ⟨σ,S,_,_,aA,hS,q,by rintro ds S1 vs H1 ⟨hl,r1⟩ v1 s1 k1;exact⟨by rw[v1.len];exact hl,hZ.at aA C S1 H1 r1 s1 k1⟩,hZ.at aA⟩⟩
end
structure Gu where
 xs:List D
 ok:aG→Prop
def SK(K:Frag)(H0:Hp)(J:It)(I:Gu):Prop:=∀i S H,Kp K H0 H→Rs K S H→I.ok S→(∀d,I.xs[i]?=some d→J.go i H∧∀x H',J.Q2 i H x H'→Rv K H' d x∧Kp K H H'∧Rs K S H')∧(I.xs.length≤i→J.stop i H)
abbrev Cq:=SD→aG→(Gu→aG→Prop)→KX→Prop
def Ti(K:Frag)(E:St→XK)(t:Cq):TI:=fun τ H R=>∃σ S RI Z,fO K H σ τ∧Rs K S H∧t σ S RI Z∧(∀I S' J H',RI I S'→SK K H' J I→Rs K S' H'→Kp K H H'→R J H')∧D2 K H Z (E τ)
structure DI(K:Frag)(X:Cx)(tg it:Expr)(t:Cq):Prop where
 of:∀{b:Bool} (y:Ev X b),PI y.cx tg it (Ti K y.E t)
theorem PI.mono(h:PI X tg it t)(i:∀τ H R,t' τ H R→t τ H R):PI X tg it t':=fun pins s τ H R I q=>h pins s τ H R I (i τ H R q)
section
variable{K:Frag}{X:Cx}{tg l:Expr}
def XO(t:TD):Cq:=fun σ S R Z=>t σ S (fun x S1=>∃ds,uU S1 x ds∧R ⟨ds,fun S=>uU S x ds⟩ S1) Z
theorem il(h:DE K X l t)(hK:X.K=K:=by rfl):DI K X tg l (XO t):=by
 subst hK
 exact⟨fun y=>(IV (X:=y.cx) (h.of y)).mono <| by rintro τ H R ⟨σ,S,RI,Z,aA,hS,q,hR,hZ⟩;exact⟨σ,S,_,Z,aA,hS,q,by
  rintro x S1 v H1 ⟨ds,h1,r1⟩ v1 s1 k1
  obtain⟨a,xs,rfl,hq,t⟩:=h1.at s1 v1
  refine⟨a,rfl,⟨xs,hq⟩,hR _ S1 _ H1 r1 (fun i S2 H2 k2 s2 Vj=>?_) s1 k1⟩
  obtain⟨a',Oo,e',Fe,t'⟩:=uU.at Vj s2 (Rv.ts k2 _ v1)
  cases e'
  refine⟨fun d hd=>?_,fun hl=>⟨Oo,Fe,by rw[t'.len];exact hl⟩⟩
  obtain⟨v,e1,r⟩:=t'.get hd
  refine⟨⟨Oo,v,Fe,e1⟩,fun x' H' ⟨e2,e3⟩=>?_⟩
  subst e2
  have:=e3 Oo Fe
  rw[e1] at this;cases this
  exact⟨r,.refl _,s2⟩,hZ⟩⟩
def SM(t:TD):Cq:=fun σ S R Z=>t σ S (fun x S1=>∃ds,(x=.tup ds∨x=.kt ds)∧R ⟨ds,fun _=>True⟩ S1) Z
theorem Oq{H:Hp}{x:D}{ds:List D}{v:V}(h:x=.tup ds∨x=.kt ds)(r:Rv K H x v):∃a xs,v=.ref a∧(∀H',Kp K H H'→iE K H' a xs)∧RvAll K H ds xs:=by
 rcases h with rfl|rfl
 ·obtain⟨a,xs,rfl,q,t⟩:=r.tup
  exact⟨a,xs,rfl,fun H' k=>.of (k.t _ _ q),t⟩
 ·obtain⟨a,xs,rfl,q,t⟩:=r.kt
  exact⟨a,xs,rfl,fun H' k=>.inr q,t⟩
theorem LS(h:DE K X l t)(hK:X.K=K:=by rfl):DI K X tg l (SM t):=by
 subst hK
 exact⟨fun y=>(M6 (X:=y.cx) (h.of y)).mono <| by rintro τ H R ⟨σ,S,RI,Z,aA,hS,q,hR,hZ⟩;exact⟨σ,S,_,Z,aA,hS,q,by
  rintro x S1 v H1 ⟨ds,h1,r1⟩ v1 s1 k1
  obtain⟨a,xs,rfl,hq,t⟩:=Oq h1 v1
  refine⟨a,rfl,⟨xs,hq _ (.refl _)⟩,hR _ S1 _ H1 r1 (fun i S2 H2 k2 s2 _=>?_) s1 k1⟩
  have Iu:=hq H2 k2
  refine⟨fun d hd=>?_,fun hl=>⟨xs,Iu,by rw[t.len];exact hl⟩⟩
  obtain⟨v,e1,r⟩:=(RvAll.ts k2 _ t).get hd
  refine⟨⟨xs,v,Iu,e1⟩,fun x' H' ⟨e2,e3⟩=>?_⟩
  subst e2
  have:=e3 xs Iu
  rw[e1] at this;cases this
  exact⟨r,.refl _,s2⟩,hZ⟩⟩
def D8(lo:Int)(n:Nat):List D:=(List.range n).map fun i=>D.int (lo+(i:Nat))
theorem cU{lo:Int}{n:Nat} : (D8 lo n).length=n:=by unfold D8;rw[zc,List.length_range]
theorem qI{lo:Int}{n i:Nat}{d:D}(h:(D8 lo n)[i]?=some d):i<n∧d=.int (lo+i):=by
 unfold D8 at h
 rw[zB] at h
 by_cases q:i<n
 ·rw[List.getElem?_range q] at h;exact⟨q,(zS h).symm⟩
 ·rw[List.getElem?_eq_none (by rw[List.length_range];omega)] at h;cases h
theorem Ot{H0:Hp}{lo:Int}{n:Nat} : SK K H0 (UW lo n) ⟨D8 lo n,fun _=>True⟩:=fun i S H k s _=>⟨fun d hd=>by
 obtain⟨h1,rfl⟩:=qI hd
 exact⟨h1,by rintro x H' ⟨e1,e2⟩;exact by subst e1 e2;exact⟨aO _,.refl _,s⟩⟩,fun hl=>by rw[cU] at hl;exact hl⟩
def XQ(t:pK):Cq:=fun σ S R Z=>t σ S (fun ds S1=>∃j:Int,ds=[.int j]∧-(2 ^ 62)≤j∧j<2 ^ 62∧R ⟨D8 0 j.toNat,fun _=>True⟩ S1) Z
theorem Ou(hm:X.mg "range" = none)(ha:DA K X [a] t)(hg:Gl X "range" := by rfl)(hs:starEach [a] X.env=[(false,eval a X.env)]:=by rfl):DI K X tg (.Call (.Name "range" p) [a] [] pos) (XQ t) :=
 ⟨fun y=>(Dj (X:=y.cx) hg hm (ha.of y) hs).mono <| by rintro τ H R ⟨σ,S,RI,Z,aA,hS,q,hR,hZ⟩;exact⟨σ,S,_,Z,aA,hS,q,by
  rintro ds S1 vs H1 ⟨j,e,h1,h2,r1⟩ v1 s1 k1
  subst e
  obtain⟨v,rfl,r⟩:=v1.one
  exact⟨j,by rw[r.int],h1,h2,hR _ S1 _ H1 r1 Ot s1 k1⟩,hZ⟩⟩
end
section
variable{K:Frag}{X:Cx}{tg iter:Expr}{pos:Pos}
def XR(ti:Cq)(g:AY)(tb:lM):lM:=fun De σ S Z=>ti σ S (fun I S1=>∃P:Nat→SD→aG→Prop,P 0 σ S1∧(∀i σ S,P i σ S→I.ok S) ∧
 (∀i d σ S,I.xs[i]?=some d→P i σ S→g d σ S fun B1 S2=>tb { De with nx:=P (i+1),ct:=P (i+1),bk:=De.nx } B1 S2 Z)∧∀σ S,P I.xs.length σ S→De.nx σ S) (Z σ)
theorem J2(hi:DI K X tg iter ti)(hg:DG K X tg g)(hb:AX K X true body tb)(hs:∀x,foldedSetIterable iter X.env x=pure x:=by intro _;rfl)(hc:X.calm=true:=by rfl):DS K X true (.For tg iter body [] pos) (XR ti g tb) :=
 ⟨fun y=>(M7 (X:=y.cx) (y.ok.loop rfl) hc (hi.of y) (hg.of _ rfl rfl rfl rfl rfl) (hb.of y) hs).mono <| by rintro D τ H ⟨σ,S,De,Z,aA,hS,q,hD,hZ⟩;exact
  ⟨σ,S,_,_,aA,hS,q,by
   rintro I S1 J H1 ⟨P,p0,XS,XT,pend⟩ hJ s1 k1
   refine⟨fun i m τ H=>m=I.xs.length - i∧i≤I.xs.length∧∃σ S,fO K H σ τ∧Rs K S H∧P i σ S∧Kp K H1 H,⟨_,rfl,ya _,σ,S1,aA.ts k1,s1,p0,.refl _⟩,?_⟩
   rintro i m τ2 H2 ⟨rfl,XU,B1,S2,a2,s2,p2,k2⟩
   have ok:=hJ i S2 H2 k2 s2 (XS _ _ _ p2)
   by_cases jW:i<I.xs.length
   ·obtain⟨go,yl⟩:=ok.1 _ (zj jW)
    refine .inr ⟨go,fun Qm H'=>i+1≤I.xs.length∧∃σ S,fO K H' σ Qm∧Rs K S H'∧P (i+1) σ S∧Kp K H1 H',fun aD H' h'=>⟨_,by omega,rfl,h'⟩,fun x H' hy=>?_⟩
    obtain⟨rx,k3,s3⟩:=yl x H' hy
    refine⟨_,B1,S2,_,rx,a2.ts k3,s3,XT i _ B1 S2 (zj jW) p2,fun Vk S4 τ4 H4 r4 a4 s4 k4=>?_⟩
    have kk:=(k2.trans k3).trans k4
    exact⟨Vk,S4,_,Z,a4,s4,r4,⟨fun Ov S5 XW H5 r5 a5 s5 k5=>⟨jW,Ov,S5,a5,s5,r5,kk.trans k5⟩,hD.rt.kp (k1.trans kk),(hD.nx.kp (k1.trans kk)),fun Ov S5 XW H5 r5 a5 s5 k5=>⟨jW,Ov,S5,a5,s5,r5,kk.trans k5⟩⟩,hZ.kp (k1.trans kk)⟩
   ·have e:i=I.xs.length:=by omega
    subst e
    exact .inl ⟨ok.2 (zo _),hD.nx _ _ _ _ (pend _ _ p2) a2 s2 (k1.trans k2)⟩,hZ.at aA⟩⟩
end
def l9(σ:SD)(src:List (Option Nat)):SD:=src.map fun o=>match o with|some j=>(σ[j]?).join|none=>none
theorem fO.pick{K:Frag}{H:Hp}{σ:SD}{τ:St}(h:fO K H σ τ):∀src:List (Option Nat),fO K H (l9 σ src) (pick τ src)
 |[]=>.nil
 |o::r=>.cons (fun d e=>by
  cases o with
  |none=>cases e
  |some j =>
   dsimp only at e ⊢
   cases q:σ[j]? with
   |none=>rw[q] at e;cases e
   |some o' =>
    rw[q] at e
    obtain rfl:o'=some d:=e
    obtain⟨v,e1,r1⟩:=h.get q
    exact⟨v,by rw[e1];rfl,r1⟩) (fO.pick h r)
def Zf:KX:=fun _ _=>False
def xb(σ:SD)(src:List (Option Nat))(g:AY)(tc:qE)(te:TD)(R:KD)(I:Gu)(S1:aG):Prop:=∃P:Nat→List D→aG→Prop,P 0 [] S1∧(∀i out S,P i out S→I.ok S) ∧
 (∀i d out S,I.xs[i]?=some d→P i out S→out.length<sizeLine∧g d (l9 σ src) S fun g8 S3=>tc g8 S3 (fun b S4=>if b=true then te g8 S4 (fun v S5=>P (i+1) (out++[v]) S5) Zf else P (i+1) out S4) Zf) ∧
 ∀out S2,P I.xs.length out S2→∀p,S2 p=none→R (.ref p) (S2.set p (.lst out))
def Cr(ti:Cq)(src:List (Option Nat))(g:AY)(tc:qE)(te:TD):TD:=fun σ S R Z=>ti σ S (fun I S1=>xb σ src g tc te R I S1) Z
theorem D2.f{K:Frag}{H:Hp}{e:XK} : D2 K H Zf e:=fun _ _ _ z=>z.elim
theorem T.comp{K:Frag}{E E':St→XK}{ti:Cq}{src:List (Option Nat)}{g:TG}{gd:AY}{tc:qE}{te:TD}{τ:St}{H:Hp}{Q:VK}(hg:∀v τ H Q,Tg K gd v τ H Q→g v τ H Q)
  (h:T K E (Cr ti src gd tc te) τ H Q):FQ (Ti K E ti) src g (Tt K E' tc) (T K E' te) τ H Q:=by
 obtain⟨σ,S,R,Z,aA,hS,q,hR,hZ⟩:=h
 refine⟨σ,S,_,Z,aA,hS,q,fun I S1 J H1 ⟨P,p0,XS,XT,pend⟩ hJ s1 k1=>?_,hZ⟩
 refine⟨fun i m out H=>m=I.xs.length - i∧i≤I.xs.length∧∃ds S,RvAll K H ds out∧Rs K S H∧P i ds S∧Kp K H1 H,⟨_,rfl,ya _,[],S1,bB,s1,p0,.refl _⟩,?_⟩
 rintro i m out H2 ⟨rfl,XU,ds,S2,v2,s2,p2,k2⟩
 have ok:=hJ i S2 H2 k2 s2 (XS _ _ _ p2)
 by_cases jW:i<I.xs.length
 ·obtain⟨go,yl⟩:=ok.1 _ (zj jW)
  obtain⟨hz,st⟩:=XT i _ ds S2 (zj jW) p2
  refine .inr ⟨go,by rw[v2.len];exact hz,fun x H' hy=>?_⟩
  obtain⟨rx,k3,s3⟩:=yl x H' hy
  refine hg _ _ _ _ ⟨_,_,S2,_,rx,(((aA.ts k1).ts k2).ts k3).pick src,s3,st,fun Vk S4 τ4 H4 r4 a4 s4 k4=>?_⟩
  refine⟨Vk,S4,_,Zf,a4,s4,r4,fun c S5 H5 r5 s5 k5=>?_,.f⟩
  cases c with
  |true =>
   rw[if_pos rfl] at r5 ⊢
   exact⟨Vk,S5,_,Zf,a4.ts k5,s5,r5,fun d S6 v H6 r6 v6 s6 k6=>⟨_,by omega,rfl,jW,ds++[d],S6,(RvAll.ts (((k3.trans k4).trans k5).trans k6) _ v2).app (aT v6 bB),s6,r6,(((k2.trans k3).trans k4).trans k5).trans k6⟩,.f⟩
  |false =>
   rw[if_neg zd] at r5 ⊢
   exact⟨_,by omega,rfl,jW,ds,S5,RvAll.ts ((k3.trans k4).trans k5) _ v2,s5,r5,((k2.trans k3).trans k4).trans k5⟩
 ·have e:i=I.xs.length:=by omega
  subst e
  exact .inl ⟨ok.2 (zo _),fun p hp=>(hR.kp (k1.trans k2)).new s2 hp (pend _ _ p2 p) v2⟩
def Ev.none(X:Cx)(h:X.xe=fun _ _=>False):Ev X false:=⟨X.pn,X.xe,fun _=>E0,⟨by rintro p2 τ H s e s' _ ⟨_,_,_,_,_,_,_,_,_,z⟩;exact z.elim,fun e=>(by cases e),fun e=>(by cases e)⟩⟩
section
variable{K:Frag}{X:Cx}{b:Bool}{N:List Str}{src:List (Option Nat)}{scope:Scope}{tg iter elt:Expr}{ifs:List Expr}{pos:Pos}{ti:Cq}{g:TG}{gd:AY}{tc:qE}{te:TD}
structure Vl(K:Frag)(X:Cx)(ifs:List Expr)(t:qE):Prop where
 of:∀{b:Bool} (y:Ev X b),Qc y.cx ifs (Tt K y.E t)
def ub:qE:=fun _ S R _=>R true S
theorem xf:Vl K X [] ub:=⟨fun y pins s τ H Q I ⟨σ,S,R,Z,aA,hS,q,hR,hZ⟩=>Jo pins s τ H Q I (hR true S H q hS (.refl _))⟩
theorem if1(h:DT K X c t):Vl K X [c] t:=⟨fun y=>Jp (h.of y)⟩
theorem Ac(S:bM X N src scope)(hit:DI K X tg iter ti)(hg:∀C s H ex pn,PG (iG X N scope C s H ex pn) tg g)(hx:AF g src)(XX:∀v τ H Q,Tg K gd v τ H Q→g v τ H Q)
  (hi:∀C s H ex pn,Vl K (iG X N scope C s H ex pn) ifs tc) (he:∀C s H ex pn,DE K (iG X N scope C s H ex pn) elt te)
  (hs:∀x,foldedSetIterable iter X.env x=pure x:=by intro _;rfl) (hc:X.calm=true:=by rfl):DE K X (.ListComp elt [⟨tg,iter,ifs,0⟩] scope pos) (Cr ti src gd tc te) :=
 ⟨fun y=>(Jr (X:=y.cx) (tc:=Tt K (fun _=>E0) tc) (te:=T K (fun _=>E0) te) ⟨S.kind,S.gu,S.loc,S.AE,S.len,S.src⟩ hc (hit.of y) hg hx (fun C s H ex pn=>(hi C s H ex pn).of (.none _ rfl)) (fun C s H ex pn=>(he C s H ex pn).of (.none _ rfl)) hs).mono fun _ _ _ h=>h.comp XX⟩
theorem Ow(hN:X.N.Nodup)(S:bM X N src scope)(hit:DI K X tg iter ti)(hg:∀C s H ex pn,PG (iG X N scope C s H ex pn) tg g)(hx:AF g src)(XX:∀v τ H Q,Tg K gd v τ H Q→g v τ H Q)
  (hi:∀C s H ex pn,Vl K (iG X N scope C s H ex pn) ifs tc) (he:∀C s H ex pn,DE K (iG X N scope C s H ex pn) elt te) (WX:X.N[i]?=some x:=by rfl) (U7:X.env.scope.names.lookup x=some .local:=by rfl)
  (WY:swapsWith (.ListComp elt [⟨tg,iter,ifs,0⟩] scope pos) (some (.Name x pos')) Js.line X.env=pure true:=by rfl)
  (hs:∀x,foldedSetIterable iter X.env x=pure x:=by intro _;rfl) (hc:X.calm=true:=by rfl):DS K X b (.Assign [.Name x pos'] (.ListComp elt [⟨tg,iter,ifs,0⟩] scope pos) Js) (Sz i (Cr ti src gd tc te)) :=
 ⟨fun y=>(AG (X:=y.cx) (i:=i) (tc:=Tt K (fun _=>E0) tc) (te:=T K (fun _=>E0) te) hN WX U7 ⟨S.kind,S.gu,S.loc,S.AE,S.len,S.src⟩ hc (hit.of y) hg hx (fun C s H ex pn=>(hi C s H ex pn).of (.none _ rfl)) (fun C s H ex pn=>(he C s H ex pn).of (.none _ rfl)) WY hs).mono
  <| by rintro D τ H ⟨σ,S,De,Z,aA,hS,q,hD,hZ⟩;exact T.comp XX ⟨σ,S,_,_,aA,hS,q,fun d S1 v H1 r1 v1 s1 k1=>hD.nx _ _ _ _ r1 ((aA.ts k1).set i v1) s1 k1,hZ.at aA⟩⟩
theorem bh:∀v τ H Q,Tg K (Vh i) v τ H Q→iF i v τ H Q:=by rintro v τ H Q ⟨d,σ,S,R,rv,aA,hS,q,hR⟩;exact hR _ S _ H q (aA.set i rv) hS (.refl _)
end
structure uY(K:Frag)(x qual:Str)(st:Stmt)(f:Addr)(fd:FuncData):Prop where
 ex:∃(oc:Value) (od:Option Addr) (dV kV doc pm:Value) (an:Option Addr) (gq ct:Value) (Np:Array (Option Value)),
  fd=fnOf x qual (cB st) (bH st) (ae st) dV kV doc pm an gq ct∧K.lookup f=some ⟨oc,od,.func fd,Np⟩∧codeIn K gq qual=true
def i7(N:List Str)(ds:List D):SD:=ds.map some++List.replicate (N.length - ds.length) none
section
variable{P:Program}{w:World}{K:Frag}{mg:Str→Option Value}{base:Heap}
theorem uY.okD{x qual:Str}{st:Stmt}{f:Addr}{fd:FuncData}{N ps:List Str}{k:Nat}{sp:eF}(F:uY K x qual st f fd)(S:ah N ps (ae st))(len:∀ds S R Z,sp ds S R Z→ds.length=ps.length)
  (lT:∀(gq:Value) (A:Around) (outer:List Env) (s:Shared) (H:Hp) (E:XK) (ds:List D) (S:aG) (R:KD) (Z:KX),cu k (A.deeper (envOfC qual (ae st) s.heap.objs.size f gq))→sp ds S R Z →
   ∃t,AX K (kl (fU P w) P w K mg base N qual (ae st) f gq A outer s H E) true (bH st) t∧t { nx:=fun _ S'=>R .aw S',rt:=R } (i7 N ds) S fun _=>Z):bZ P w K mg base (fU P w) (k+1) f fd ps (sS K sp):=by
 obtain⟨oc,od,dV,kV,doc,pm,an,gq,ct,Np,rfl,lk,rY⟩:=F.ex
 have eT:ps.length≤N.length:=by have:=congrArg List.length S.pre;rw[yb] at this;lia
 refine LA lk rY S (by rintro vs H Q E ⟨ds,S',R,Z,v,_,h,_⟩;exact by rw[v.len];exact len _ _ _ _ h) fun A outer s H vs Q E hr ⟨ds,S',R,Z,v,hS,h,hR,hZ⟩=>?_
 obtain⟨t,ht,q⟩:=lT gq A outer s H E ds S' R Z hr h
 have L:dj (kl (fU P w) P w K mg base N qual (ae st) f gq A outer s H E) E:=t5
 let y:Ev (kl (fU P w) P w K mg base N qual (ae st) f gq A outer s H E) true:=⟨_,(kl (fU P w) P w K mg base N qual (ae st) f gq A outer s H E).xe,fun _=>E,⟨fun p2 τ H1 s1 e s' I h=>LG L p2 τ H1 s1 e s' I h,fun _ p2 τ H1 s1 h' a cls args I hx he=>oE L I hx he,fun _=>PassesOwn.leaving⟩⟩
 refine⟨Tl K (fun _=>E) t,ht.of y,i7 N ds,S',_,fun _=>Z,?_,hS,q,⟨fun σ S1 τ H1 r a b c=>hR.kp c |>.now b r i5,hR,fun _ _ _ _ z=>z.elim,fun _ _ _ _ z=>z.elim⟩,fun σ τ C S1 H1 z a b c=>hZ C S1 H1 z b c⟩
 unfold i7 start
 refine (qD v).app ?_
 rw[v.len]
 exact qC _ _ (by rw[zG])
theorem bZ.J3(F:bZ P w K mg base (fU P w) k f fd ps (sS K sp))(h:∀ds S R Z,UZ ds S R Z→sp ds S R Z):bZ P w K mg base (fU P w) k f fd ps (sS K UZ) :=
 F.imp <| by rintro vs H Q E ⟨ds,S,R,Z,a,b,c,d⟩;exact⟨ds,S,R,Z,a,b,h _ _ _ _ c,d⟩
theorem bZ.calm(F:bZ P w K mg base (fU P w) k f fd ps sp):bZ P w K mg base U5 k f fd ps fun vs H Q _=>sp vs H Q E0:=by
 refine⟨fun vs H Q E h=>F.len vs H Q E0 h,fun A outer s H args us vs Q E hr e0 hb r h=>yH (F.run A outer s H args us vs Q E0 hr e0 hb r h) fun res s' q=>?_⟩
 cases res with
 |error e=>obtain⟨_,_,_,_,_,_,_,_,_,z⟩:=q;exact z.elim
 |ok fl=>cases fl <;> exact q
end
section
variable{K:Frag}{X:Cx}{b:Bool}{i:Nat}{n x:Str}{C0:Addr}{body wM:List Stmt}{FX:Stmt}{np DN pos:Pos}
theorem Ox(h:AX K X false body t):RS X body (fun E=>Tl K E t):=by
 intro pins s σ H D E I q
 let y:Ev X false:=⟨X.pn++pins,XE X pins E,E,⟨fun p2 τ H1 s1 e s' I1 hq=>⟨τ,H1,s1,⟨⟨I1.ok.mod,I1.ok.kind,I1.ok.glob,I1.ok.blt,I1.ok.above,I1.ok.inj,I1.ok.has,I1.ok.MI,I1.ok.hd,I1.ok.frames,I1.ok.P8,I1.ok.UP,I1.ok.bs,I1.ok.Df,I1.ok.Ag,I1.ok.Dg,I1.ok.kj,I1.ok.Fh⟩,
  I1.os,I1.bare,I1.base,I1.loc,I1.cell,I1.free,I1.dm,fun p hp=>I1.pin p (zU _ hp),I1.aH,I1.len⟩,hq⟩,fun e=>(by cases e),fun e=>(by cases e)⟩⟩
 have back:∀{aD:St}{H':Hp}{s':Shared},Inv y.cx [] aD H' s'→Inv X pins aD H' s':=fun I1=>⟨⟨I1.ok.mod,I1.ok.kind,I1.ok.glob,I1.ok.blt,I1.ok.above,I1.ok.inj,I1.ok.has,I1.ok.MI,I1.ok.hd,I1.ok.frames,I1.ok.P8,I1.ok.UP,I1.ok.bs,I1.ok.Df,I1.ok.Ag,I1.ok.Dg,I1.ok.kj,I1.ok.Fh⟩,
  I1.os,I1.bare,I1.base,I1.loc,I1.cell,I1.free,I1.dm,fun p hp=>I1.pin p (zU _ hp),I1.aH,I1.len⟩
 have I0:Inv y.cx [] σ H s:=⟨⟨I.ok.mod,I.ok.kind,I.ok.glob,I.ok.blt,I.ok.above,I.ok.inj,I.ok.has,I.ok.MI,I.ok.hd,I.ok.frames,I.ok.P8,I.ok.UP,I.ok.bs,I.ok.Df,I.ok.Ag,I.ok.Dg,I.ok.kj,I.ok.Fh⟩,
  I.os,I.bare,I.base,I.loc,I.cell,I.free,I.dm,fun p hp=>I.pin p (by rw[yC] at hp;exact hp),I.aH,I.len⟩
 refine yh (h.of y [] s σ H D I0 q) (fun f s' r=>?_) fun _ _ r=>r
 cases f with
 |next=>obtain⟨aD,H',I',q⟩:=r;exact⟨aD,H',back I',q⟩
 |brk=>obtain⟨aD,H',I',q⟩:=r;exact⟨aD,H',back I',q⟩
 |cont=>obtain⟨aD,H',I',q⟩:=r;exact⟨aD,H',back I',q⟩
 |ret u=>obtain⟨v,aD,H',I',r1,q⟩:=r;exact⟨v,aD,H',back I',r1,q⟩
def ua.less(De:ua)(i:Nat):ua:={ nx:=fun σ S=>De.nx (σ.set i none) S,rt:=De.rt,bk:=fun σ S=>De.bk (σ.set i none) S,ct:=fun σ S=>De.ct (σ.set i none) S }
def XY(K:Frag)(i:Nat)(C0:Addr)(tb ts:lM):lM:=fun De σ S _ =>
 tb De σ S fun aD C S'=>mroIn K C (.ref C0)=some true∧∀a,S' a=none→ts (De.less i) (aD.set i (some (.ref a))) (S'.set a (.exc C)) fun _=>Zf
theorem XZ{tb ts:lM}(hN:X.N.Nodup)(hm:X.mg x=some (.ref C0))(c0:XC K C0)(hb:AX K X false body tb)(hs:∀a,AX K (X.i4 a) false (FX::wM) ts)
  (hi:X.N[i]?=some n:=by rfl) (hx:X.env.scope.names.lookup n=some .local:=by rfl) (W5:Gl X x:=by rfl) (kO:(x == ("__debug__" : Str))=false:=by decide) (rZ:X.stack=X.env::X.outer:=by rfl) (fr:X.env.frame=some X.env.locals:=by rfl) (hK:X.K=K:=by rfl) :
  DS K X b (.Try body [.ExceptHandler (some (.Name x np)) (some n) (FX::wM) DN] [] [] pos) (XY K i C0 tb ts):=by
 subst hK
 refine⟨fun y=>(NX (X:=y.cx) (ts:=Tl X.K (fun _=>E0) ts) rZ fr hN hi hx W5 hm c0 (Ox (X:=y.cx) (K:=X.K) (t:=tb) ⟨fun z=>hb.of ⟨z.pn,z.xe,z.E,z.ok⟩⟩) (fun a=>(hs a).of ⟨y.pn,fun _ _=>False,fun _=>E0,⟨fun p2 τ H s e s' _ ⟨_,_,_,_,_,_,_,_,_,z⟩=>z.elim,fun e=>(by cases e),fun e=>(by cases e)⟩⟩) kO).mono fun D τ H ⟨σ,S,De,Z,aA,hS,q,hD,hZ⟩=>?_⟩
 refine⟨σ,S,De,_,aA,hS,q,hD,fun uC Vf C S1 H1 ⟨m1,r1⟩ a1 s1 k1=>⟨C,rfl,m1,fun a ha=>?_⟩⟩
 have kn:Kp X.K H1 (upd H1 a (sL a (.ref C))):=.new ha
 have kk:=k1.trans kn
 have un:∀{Jy:SD}{SN:St}{H8:Hp},fO X.K H8 Jy SN→fO X.K H8 (Jy.set i none) (SN.set i none):=fun r=>r.unset i none
 exact⟨_,_,De.less i,fun _=>Zf,(a1.ts kn).set i (bL a),s1.new (c:=.exc C) ha aB,r1 a (s1.fresh ha),⟨fun Jy S8 SN H8 r8 a8 s8 k8=>hD.nx _ _ _ _ r8 (un a8) s8 (kk.trans k8),hD.rt.kp kk,fun Jy S8 SN H8 r8 a8 s8 k8=>hD.bk _ _ _ _ r8 (un a8) s8 (kk.trans k8),fun Jy S8 SN H8 r8 a8 s8 k8=>hD.ct _ _ _ _ r8 (un a8) s8 (kk.trans k8)⟩,fun _ _ _ _ _ z=>z.elim⟩
end
section
variable{K:Frag}{X:Cx}{x:Str}{id:String}{e:Expr}{es:List Expr}{p pos:Pos}{t:pK}{r:List D→aG→KD→Prop}
def LU(K:Frag)(f:Value)(r:List D→aG→KD→Prop):Prop:=∀X:Cx,X.K=K→dq X f (Lc K r)
theorem SO(hc:LU K (.builtin id) r)(hm:X.mg x=none)(hv:bootBuiltins x=some (.builtin id))(ha:DA K X (e::es) t)(hg:Gl X x:=by rfl)
  (hn:x ≠ "__name__" := by decide) (kO:(x == ("__debug__" : Str))=false:=by decide) (he:starEach (e::es) X.env=(false,eval e X.env)::starEach es X.env:=by rfl) (eT:(backTo pos (starEach es X.env)).any (·.1)=false:=by rfl) (hK:X.K=K:=by rfl) :
  DE K X (.Call (.Name x p) (e::es) [] pos) (Si r t) :=
 ⟨fun y=>(qf (X:=y.cx) (hc _ hK) hg hm hv (ha.of y) hn kO he eT).mono fun _ _ _ h=>h.cb⟩
def X0(K:Frag):List D→aG→KD→Prop:=fun ds S R=>∃a C c b,ds=[.ref a,c]∧S a=some (.exc C)∧XC K C∧XA K C ∧
 ((∃Cd,c=.ref Cd∧kitOne K (.ref C) (.ref Cd)=some b)∨(∃n,c=.ty n∧kitOne K (.ref C) (.type n)=some b) ∨
  ∃as:List Addr,c=.tup (as.map D.ref)∧kitAny K (.ref C) (as.map Value.ref)=some b)∧R (.bl b) S
theorem RvAll.refs:∀{as:List Addr}{xs:List V},RvAll K H (as.map D.ref) xs→xs=as.map V.ref
 |[],xs,h=>h.nil
 |b::bs,xs,h=>by
  obtain⟨y,ys,rfl,h1,h2⟩:=h.cons
  rw[h1.ref,h2.refs];rfl
theorem ud:∀{as:List Addr}{ax:List Value},Vals (as.map V.ref) ax→ax=as.map Value.ref
 |[],_,.nil=>rfl
 |_::_,_,.cons r t=>by rw[ud t];cases r;rfl
theorem xg:LU K (.builtin "isinstance") (X0 K):=by
 rintro X hK pins s σ H xs us Q I rx ⟨ds,S,R,r,hS,⟨a,C,c,b,e,h1,h2,h3,h4,h⟩,hR⟩
 subst hK e
 obtain⟨v,u,rfl,r1,r2⟩:=r.two
 have ha:H a=some (sL a (.ref C)):=hS a _ h1
 rcases h4 with ⟨Cd,rfl,h4⟩|⟨n,rfl,h4⟩|⟨as,rfl,h4⟩
 ·exact kK rfl pins s σ H _ us Q I rx ⟨a,C,.ref Cd,.ref Cd,b,by rw[r1.ref,r2.ref],ha,h2,h3,rfl,fun u' e=>e,h4,hR.now hS h (bS _)⟩
 ·exact kK rfl pins s σ H _ us Q I rx ⟨a,C,.ty n,.type n,b,by rw[r1.ref,r2.ty],ha,h2,h3,rfl,fun u' e=>e,h4,hR.now hS h (bS _)⟩
 ·obtain⟨p,zs,rfl,q,t⟩:=r2.tup
  rw[t.refs] at q
  exact sR rfl pins s σ H _ us Q I rx ⟨a,C,p,_,b,by rw[r1.ref],ha,h2,h3,q,fun ax hv=>by rw[ud hv];exact h4,hR.now hS h (bS _)⟩
end
theorem ue{P:Program}{w:World} : ∀{ss:List Str}{vs:List Value},vs.length=ss.length→(∀(j:Nat) (v:Value),vs[j]?=some v→∃x,ss[j]?=some x∧keyIs (.inr x) v=true)→StrsAre vs ss
 |[],[],_,_=>.nil
 |[],_::_,h,_=>by simp at h
 |_::_,[],h,_=>by simp at h
 |x::ss,v::vs,h,k=>by
  obtain⟨x',e,q⟩:=k 0 v rfl
  cases e
  rcases bu q with ⟨i,t,e,_⟩|⟨y,t,e,rfl⟩
  ·cases e
  ·cases e
   exact .cons x t (ue (P:=P) (w:=w) (by simpa using h) fun j v e=>k (j+1) v (by simpa using e))
theorem uf:∀{vs:List Value}{ss:List Str},StrsAre vs ss→Vals (ss.map V.str) vs
 |_,_,.nil=>.nil
 |_,_,.cons y t h=>.cons ⟨t,rfl⟩ (uf h)
theorem KV.X5{κ:Type}{kvs:List (κ×V)}{vs:List (κ×Value)}(h:KV kvs vs):vs.map (·.1)=kvs.map (·.1):=by
 unfold KV at h
 induction h with
 |nil=>rfl
 |cons r t ih=>rw[zM,zM,ih,r.1]
theorem Gv{prog:Program}{w:World}{A:Around}{E:Value→Shared→Prop}{s:Shared}{T:String}{r d:Addr}{n:Nat}{P:Nat→Value→Prop}{OK:Heap→Prop}{R:List Value→Shared→Prop}(K:PySem.W.KdlSrc prog w T r d n P OK)(hh:A.handled=none)(aH:OK s.heap)(hn:n≤sizeLine)
  (h:∀(h':Heap) (tk:Nat) (acc:Array Value),(∀b o,s.heap.get? b=some o→h'.get? b=some o)→s.heap.objs.size≤h'.objs.size→ItemsOf P acc n→R acc.toList { s with heap:=h',toks:=tk }) :
  wpAny (model prog w) A (collect (.ref r)) R E s:=by
 have jW:=K.there _ aH
 unfold collect
 refine za (wpAny_runValue (yw entry_proto_collect' ?_))
 rw[Around.under_plainId PySem.F.plain_proto_collect _]
 show wpAny _ A.in1 (newList [] >>= fun l=>again (.builtin "list.__iadd__" ⟨[l,.ref r],[]⟩)) _ _ s
 refine za (yf ?_)
 refine zg ⟨plainId_quiet PySem.F.plain_list_iadd _,yw entry_list_iadd' ?_⟩
 rw[Around.under_plainId PySem.F.plain_list_iadd _]
 have SQ:(s.heap.push { cls:=.type "list",data:=.seq ([]:List Value).toArray }).get? s.heap.objs.size=some { cls:=.type "list",data:=.seq #[] }:=zq _ rfl
 show wpAny _ A.in1 (Builtin.List.listExtendWith (.ref s.heap.objs.size) (.ref r) (.ref s.heap.objs.size)) _ _ _
 have key:=PySem.W.kdl_extend (A:=A) (s:={ s with heap:=s.heap.push { cls:=.type "list",data:=.seq ([]:List Value).toArray } })
  (R:=fun (q:Result) (s':Shared)=>∃(h':Heap) (tk:Nat) (xh:Array Value) (c':Nat),q=.ok (.ret (.ref s.heap.objs.size))∧s'={ s with heap:=h',toks:=tk } ∧
   (∀b o,s.heap.get? b=some o→h'.get? b=some o)∧h'.get? s.heap.objs.size=some { cls:=.type "list",dict:=none,data:=.seq xh c',slots:=#[] }∧ItemsOf P xh n)
  K hh (K.keep _ _ aH fun b _ o e=>zb _ e) s.heap.objs.size (yj jW.1) (yj jW.2) (.ref s.heap.objs.size) 0 SQ
  (fun h' tk xh c' hk oF qm=>⟨h',tk,xh,c',rfl,rfl,fun b o e=>hk b o (zy (zt e)) (zb _ e),oF,qm⟩) hn
 refine yh key (fun fin s' x=>?_) fun e s' x=>?_
 ·cases fin with
  |done f =>
   obtain⟨h',tk,xh,c',e,rfl,hk,oF,qm⟩:=x
   cases e
   show wpAny _ A (load s.heap.objs.size >>= _) _ _ _
   exact za (wpAny_load oF (zg (h h' tk xh hk (yA (zt oF)) qm)))
  |again c₁ =>
   refine⟨x.1,yH x.2 fun q bW y=>?_⟩
   obtain⟨h',tk,xh,c',rfl,rfl,hk,oF,qm⟩:=y
   show wpAny _ A (load s.heap.objs.size >>= _) _ _ _
   exact za (wpAny_load oF (zg (h h' tk xh hk (yA (zt oF)) qm)))
 ·obtain⟨_,_,_,_,e',_⟩:=x
  cases e'
theorem uZ{X:Cx}(hc:X.calm=true):dq X (.builtin "sorted") (fun xs H Q=>∃(a:Addr) (kvs:List (Key×V)) (ss:List Str),xs=[.ref a]∧H a=some (.dK kvs)∧kvs.map (·.1)=ss.map Sum.inr∧kvs.length<64 ∧
  ∀Cs,Cs.Perm ss→sortedS Cs=true→∀l,H l=none→Q (.ref l) (upd H l (.lst (Cs.map V.str)))):=by
 intro pins s σ H xs us Q I r h
 obtain⟨a,kvs,ss,rfl,e,hk,hl,q⟩:=h
 obtain⟨u,rfl,ru⟩:=vals1 r
 cases ru
 obtain⟨z,hd,vs,rel,dd⟩:=Cc I.aH e
 obtain⟨ep,Vm⟩:=dd.dictAt
 have hlen:vs.length<64:=by rw[← rel.length];exact hl
 have hh:=I.ok.hd hc
 refine PySem.Calls.call_function_entry kind_sorted plain_sorted entry_sorted (args_sorted1 _) ?_
 unfold Builtin.«sorted»
 refine za (m:=checkCount "sorted" 1 1 _) (zg ?_)
 refine za (Gv (A:=X.A.in1) (PySem.W.kdl_dict (knd:=aF X.prog X.w) (kvs:=vs) (ep:=ep) hd) hh Vm (by rw[zT];omega) fun h' tk acc hkp hB qm=>?_)
 have sH:acc.toList.length=vs.length:=by rw[ye];exact qm.1
 refine za (wpAny_newList ?_ (by rw[sH,zT];omega))
 have hS:StrsAre acc.toList ss:=by
  have hkv:=rel.X5
  refine ue (P:=X.prog) (w:=X.w) (by rw[sH,← rel.length];have:=congrArg List.length hk;simpa using this) fun j v ev=>?_
  obtain⟨k,x,e1,e2⟩:=qm.2 j v (by rw[← Array.getElem?_toList];exact ev)
  have e3:(vs.map (·.1))[j]?=some k:=by rw[zB,e1];rfl
  rw[hkv,hk,zB] at e3
  cases q2:ss[j]? with
  |none=>rw[q2] at e3;cases e3
  |some y=>rw[q2] at e3;cases e3;exact⟨y,rfl,e2⟩
 have E9:(h'.push (seqObj "list" acc.toList.toArray 0)).get? h'.objs.size=some (seqObj "list" acc.toList.toArray 0):=zq _ rfl
 show wpAny _ _ _ _ _ { s with heap:=h'.push (seqObj "list" acc.toList.toArray 0),toks:=tk }
 refine za (yt (yq slot_list_sort ⟨_,E9,rfl⟩ entry_list_sort (list_sort_treeK (s:={ s with heap:=h'.push (seqObj "list" acc.toList.toArray 0),toks:=tk }) strKind_oneLt E9 hS.keysOf (fun nq nr rest e=>keyKind_strs (by rw[← e];exact hS)) (by rw[sH];exact hlen) fun eM hp hs=>⟨_,rfl,?_⟩) (args_list_sort _)))
 refine zg ⟨_,rfl,?_⟩
 obtain⟨Cs,h1,h2,h3⟩:=sorted_out_str hS hp hs
 obtain⟨e1,he1⟩:=sortedHeap_at (vs:=acc.toList) (n:=0) (out:=(arrOf eM).map (·.2)) E9
 have Qo:Cs.length≤sizeLine:=by rw[h2.length_eq,zT];have:=congrArg List.length hk;rw[zc,zc] at this;omega
 refine⟨.ref h'.objs.size,_,I.laid (a:=h'.objs.size) (o:=.lst (Cs.map V.str)) (fun b u hb=>?_) hB ⟨by rw[zc];exact Qo,_,e1,uf h1,he1⟩,rfl,q Cs h2 h3 _ (I.aH.fresh hB)⟩
 have jW:=zt (hkp b u hb)
 rw[sortedHeap_old (zy jW) (by rw[yk];exact Nat.lt_succ_of_lt jW),zb _ (hkp b u hb)]
section
variable{K:Frag}
def J4:List D→aG→KD→Prop:=fun ds S R=>∃(a:Addr) (kvs:List (Key×D)) (ss:List Str),ds=[.ref a]∧S a=some (.dy kvs)∧kvs.map (·.1)=ss.map Sum.inr∧kvs.length<64 ∧
 ∀Cs,Cs.Perm ss→sortedS Cs=true→∀p,S p=none→R (.ref p) (S.set p (.lst (Cs.map D.str)))
theorem b_.keys{κ:Type}{H:Hp}{ks:List (κ×D)}{vs:List (κ×V)}(h:b_ K H ks vs):vs.map (·.1)=ks.map (·.1):=by
 unfold b_ at h
 induction h with
 |nil=>rfl
 |cons r t ih=>rw[zM,zM,ih,r.1]
theorem xi:iL K (.builtin "sorted") J4:=by
 rintro X hK hc pins s σ H xs us Q I rx ⟨ds,S,R,r,hS,⟨a,kvs,ss,e,e1,hk,hl,h⟩,hR⟩
 subst e
 obtain⟨v,rfl,r1⟩:=r.one
 obtain⟨vs,e2,t⟩:=hS.dy e1
 exact uZ hc pins s σ H _ us Q I rx ⟨a,vs,ss,by rw[r1.ref],e2,by rw[t.keys];exact hk,by rw[t.len];exact hl,fun Cs p1 p2 l hl=>hR.new hS hl (h Cs p1 p2 l) (uR Cs)⟩
end
def LV(K:Frag)(a:Addr)(n:Nat):It :=
 ⟨fun i H=>∃xs x,iW K H a xs∧xs.length=n∧i<n∧xs[n - 1 - i]?=some x,fun i H x H'=>H'=H∧∀xs,iW K H a xs→xs.length=n→xs[n - 1 - i]?=some x,fun i _=>n≤i⟩
theorem Gw{P:Program}{w:World}{K:Frag}{tg:Expr}(a it:Addr)(n:Nat):Turn P w K tg (LV K a n) [it] it (fun i h=>i≤n∧h.IsRevIter it a ((n:Int) - 1 - (i:Int))) where
 mem:=by simp
 obj:=fun i h st b hb=>by
  have e:b=it:=by simpa using hb
  subst e
  obtain⟨_,o,e,c,d⟩:=st
  exact⟨o,e,fun v z=>by rw[d] at z;cases z⟩
 keep:=fun i h h' st k=>⟨st.1,st.2.at fun o e=>k it (by simp) o e⟩
 item:=by
  intro X hP hw hK hc i pins s σ H E I hf st hg
  subst hP hw hK
  obtain⟨xs,x,hq,hn,hi,hx⟩:=hg
  obtain⟨ax,rv,p,hz⟩:=I.list hq
  obtain⟨u,hu,ru⟩:=rv.get hx
  obtain⟨f0,f1,f2,f3,f4,f5⟩:=hf it (by simp)
  have e:(n:Int) - 1 - (i:Int)=((n - 1 - i:Nat):Int):=by lia
  have hit:=st.2
  rw[e] at hit
  refine wpAny_pyNext_rev_item hit p.isList (x:=u) (by simpa using hu) fun h' eM sb=>?_
  have I1:Inv X pins σ H { s with heap:=h' }:=I.turned (t':=s.toks) (fun b o hb e=>(sb.2 b hb).trans e) f0 f1 f3 f4 f5
  obtain⟨o,e1,c,d⟩:=id eM
  refine⟨u,rfl,tM (s:={ s with heap:=h' }) e1 c d (by decide) ⟨x,H,I1,ru,⟨rfl,fun ys hy _=>by rw[I.wz hy hq];exact hx⟩,⟨hi,?_⟩,fun b hb=>(hf b hb).1⟩⟩
  have e2:(n:Int) - 1 - ((i+1:Nat):Int)=((n - 1 - i:Nat):Int) - 1:=by lia
  rw[e2];exact eM
 done:=by
  intro X hP hw hK hc i pins s σ H E I hf st hg
  subst hP hw hK
  obtain⟨f0,f1,f2,f3,f4,f5⟩:=hf it (by simp)
  have hg:n≤i:=hg
  have e:(n:Int) - 1 - (i:Int) = -1:=by have:=st.1;lia
  have hit:=st.2
  rw[e] at hit
  exact wpAny_pyNext_rev_end (I.ok.hd hc) hit fun h' eb=>⟨rfl,I.turned (t':=s.toks) (fun b o hb e=>eb b o hb e) f0 f1 f3 f4 f5⟩
 self:=fun _ _ _ _ _ st h=>wpAny_pyIter_revIter st.2 h
def X6(K:Frag)(ta:TA):TI:=fun σ H R=>ta σ H fun vs H1=>∃a xs,vs=[.ref a]∧iW K H1 a xs∧R (LV K a xs.length) H1
theorem Oy{X:Cx}{tg a:Expr}{ta:TA}{p pos:Pos}(hg:Gl X "reversed")(hm:X.mg "reversed" = none)(ha:PA X [a] ta)(hs:starEach [a] X.env=[(false,eval a X.env)]):PI X tg (.Call (.Name "reversed" p) [a] [] pos) (X6 X.K ta):=by
 intro pins s σ H R I h
 refine Call_ (g_ I hg hm boot_reversed (PyProof.Rows.callWith_type1 (bj (ha pos pins s σ H _ I h) fun us s1 ⟨vs,H1,I1,r1,q1⟩=>?_) hs rfl))
 obtain⟨l,xs,e,q,hR⟩:=q1
 subst e
 obtain⟨u,rfl,ru⟩:=vals1 r1
 cases ru
 obtain⟨ax,rv,pl,hz⟩:=I1.list q
 have hn:ax.toArray.size=xs.length:=by rw[zh,rv.length]
 refine call_reversed_list pl.isList ?_
 rw[hn]
 have st:(s1.heap.push (revObj l ((xs.length:Int) - 1))).IsRevIter s1.heap.objs.size l ((xs.length:Int) - 1 - ((0:Nat):Int)):=⟨_,zq _ rfl,rfl,by show Data.fields _=Data.fields _;simp⟩
 have I2:Inv X pins σ H1 { s1 with heap:=s1.heap.push (revObj l ((xs.length:Int) - 1)) }:=I1.kept (t':=s1.toks) fun b o e=>zb _ e
 refine wpAny_pyIter_revIter st ⟨_,_,_,_,H1,rfl,I2,Gw l s1.heap.objs.size xs.length,⟨ya _,st⟩,fun b hb=>?_,hR⟩
 have hb:b=s1.heap.objs.size:=by simpa using hb
 subst hb
 exact I1.pY (zo _) (I1.aH.fresh (zo _))
section
variable{K:Frag}{X:Cx}{tg:Expr}
def SR(t:pK):Cq:=fun σ S R Z=>t σ S (fun ds S1=>∃x es,ds=[x]∧uU S1 x es∧R ⟨es.reverse,fun S=>uU S x es⟩ S1) Z
theorem irv(hm:X.mg "reversed" = none)(ha:DA K X [a] t)(hg:Gl X "reversed" := by rfl)(hs:starEach [a] X.env=[(false,eval a X.env)]:=by rfl)(hK:X.K=K:=by rfl):DI K X tg (.Call (.Name "reversed" p) [a] [] pos) (SR t):=by
 subst hK
 exact⟨fun y=>(Oy (X:=y.cx) hg hm (ha.of y) hs).mono <| by rintro τ H R ⟨σ,S,RI,Z,aA,hS,q,hR,hZ⟩;exact⟨σ,S,_,Z,aA,hS,q,by
  rintro ds S1 vs H1 ⟨x,es,e,h1,r1⟩ v1 s1 k1
  subst e
  obtain⟨v,rfl,r⟩:=v1.one
  obtain⟨a,xs,rfl,hq,t⟩:=h1.at s1 r
  refine⟨a,xs,rfl,hq,hR _ S1 _ H1 r1 (fun i S2 H2 k2 s2 Vj=>?_) s1 k1⟩
  obtain⟨a',Oo,e',Fe,t'⟩:=uU.at Vj s2 (Rv.ts k2 _ r)
  cases e'
  have hl:xs.length=es.length:=t.len
  have ZX:Oo.length=es.length:=t'.len
  refine⟨fun d hd=>?_,fun h=>by rw[List.length_reverse] at h;show xs.length≤i;lia⟩
  have hi:i<es.length:=by have:=(zr.mp hd).1;rwa [List.length_reverse] at this
  rw[List.getElem?_reverse hi] at hd
  obtain⟨v,e1,r⟩:=t'.get hd
  rw[← hl] at e1
  refine⟨⟨Oo,v,Fe,by lia,by lia,e1⟩,fun x' H' ⟨e2,e3⟩=>?_⟩
  subst e2
  have:=e3 Oo Fe (by lia)
  rw[e1] at this;cases this
  exact⟨r,.refl _,s2⟩,hZ⟩⟩
def ib(xs ys:List D):List D:=List.zipWith (fun a b=>D.tup [a,b]) xs ys
def SS(t:pK):Cq:=fun σ S R Z=>t σ S (fun ds S1=>∃xs ys,ds=[.tup xs,.tup ys]∧xs.length=ys.length∧R ⟨ib xs ys,fun _=>True⟩ S1) Z
theorem izp(hm:X.mg "zip" = none)(ha:DA K X [a,c] t)(hg:Gl X "zip" := by rfl)(hs:starEach [a,c] X.env=[(false,eval a X.env),(false,eval c X.env)]:=by rfl)(Ab:starEach [c] X.env=[(false,eval c X.env)]:=by rfl)(hK:X.K=K:=by rfl) :
  DI K X (.Tuple es kk tp) (.Call (.Name "zip" p) [a,c] [] pos) (SS t):=by
 subst hK
 exact⟨fun y=>(JK (X:=y.cx) hg hm (ha.of y) hs Ab).mono <| by rintro τ H R ⟨σ,S,RI,Z,aA,hS,q,hR,hZ⟩;exact⟨σ,S,_,Z,aA,hS,q,by
  rintro ds S1 vs H1 ⟨xs,ys,e,hl,r1⟩ v1 s1 k1
  subst e
  obtain⟨v,u,rfl,ra,rb⟩:=v1.two
  obtain⟨a,va,rfl,qa,ta⟩:=ra.tup
  obtain⟨b,vb,rfl,qb,tb⟩:=rb.tup
  refine⟨a,b,rfl,⟨va,.of qa⟩,⟨vb,.of qb⟩,hR _ S1 _ H1 r1 (fun i S2 H2 k2 s2 _=>?_) s1 k1⟩
  have X7:iE X.K H2 a va:=.of (k2.t _ _ qa)
  have X8:iE X.K H2 b vb:=.of (k2.t _ _ qb)
  have la:va.length=xs.length:=ta.len
  have lb:vb.length=ys.length:=tb.len
  refine⟨fun d hd=>?_,fun h=>⟨va,vb,X7,X8,by unfold ib at h;rw[List.length_zipWith] at h;lia⟩⟩
  unfold ib at hd
  obtain⟨x,y',e1,e2,e3⟩:=List.getElem?_zipWith_eq_some.mp hd
  subst e3
  obtain⟨vx,f1,g1⟩:=(RvAll.ts k2 _ ta).get e1
  obtain⟨vy,f2,g2⟩:=(RvAll.ts k2 _ tb).get e2
  refine⟨⟨va,vb,vx,vy,X7,X8,f1,f2⟩,fun x' H' ⟨T,hT,e4,e5⟩=>?_⟩
  have:=e5 va vb vx vy X7 X8 f1 f2
  subst this e4
  have kk:Kp X.K H2 (upd H2 T (.tup [vx,vy])):=.new hT
  exact⟨kR aB (RvAll.ts kk _ (aT g1 (aT g2 bB))),kk,s2.grow hT⟩,hZ⟩⟩
theorem Ct:∀v τ H Q,Tg K (LR 2 (AZ (Vh i) (AZ (Vh j) LQ))) v τ H Q→IU K 2 (pV (iF i) (pV (iF j) IT)) v τ H Q:=by
 rintro v τ H Q ⟨d,σ,S,R,rv,aA,hS,⟨ds,e,hl,a,r,e1,b,r',e2,e3,q⟩,hR⟩
 subst e e1 e2 e3
 obtain⟨p,xs,rfl,hp,t⟩:=rv.tup
 obtain⟨v1,v2,rfl,r1,r2⟩:=t.two
 exact⟨p,_,rfl,.of hp,rfl,v1,[v2],rfl,v2,[],rfl,rfl,hR _ S _ H q ((aA.set i r1).set j r2) hS (.refl _)⟩
end
section
variable{K:Frag}{X:Cx}{b:Bool}{pos:Pos}
def SU(tl ti tv:TD):lM:=fun De σ S Z=>tv σ S (fun v S1=>tl σ S1 (fun x S2=>ti σ S2 (fun y S3=>∃a es i j,x=.ref a∧y=.int i∧S3 a=some (.lst es)∧Io es.length i=some j∧De.nx σ (S3.set a (.lst (es.set j v)))) (Z σ)) (Z σ)) (Z σ)
theorem sls{o i value:Expr}{tl ti tv:TD}{pos':Pos}(ho:DE K X o tl)(hi:DE K X i ti)(hv:DE K X value tv)
  (ha:∀v,assign (.Subscript o i pos') X.env v=(do
   let ov ← holding [v] (eval o X.env)
   let iv ← holding [v,ov] (eval i X.env)
   standAt pos'
   holding [v,ov,iv] (setItem ov iv v)
   release [v,ov,iv] []):=by intro _;rfl)
  (hs:swapsWithSole [.Subscript o i pos'] value pos.line X.env=pure false:=by rfl) (hw:swappedStores [.Subscript o i pos'] value X.env=pure none:=by rfl) (h1:(assignEach [.Subscript o i pos'] X.env).map (·.2)=[assign (.Subscript o i pos') X.env]:=by rfl) :
  DS K X b (.Assign [.Subscript o i pos'] value pos) (SU tl ti tv) :=
 ⟨fun y=>(Fp (X:=y.cx) (hv.of y) (MV (ho.of y) (hi.of y) set_list ha) hs hw h1).mono <| by rintro D τ H ⟨σ,S,De,Z,aA,hS,q,hD,hZ⟩;exact
  ⟨σ,S,_,_,aA,hS,q,fun v S1 vv H1 r1 v1 s1 k1=>⟨σ,S1,_,_,aA.ts k1,s1,r1,fun x S2 xv H2 r2 v2 s2 k2=>⟨σ,S2,_,_,aA.ts (k1.trans k2),s2,r2,by
   rintro y S3 yv H3 ⟨a,es,i,j,e1,e2,e3,e4,r3⟩ v3 s3 k3
   subst e1 e2
   obtain⟨xs,e5,t⟩:=s3.lst e3
   have kk:=s3.h_ (o:=.lst (xs.set j vv)) e3
   refine⟨a,xs,i,j,(Rv.ts k3 _ v2).ref,v3.int,e5,by rw[t.len];exact e4,?_⟩
   exact hD.nx _ _ _ _ r3 (aA.ts (((k1.trans k2).trans k3).trans kk)) (s3.put (c:=.lst _) e3 ⟨_,aB,RvAll.ts kk _ (t.set j (Rv.ts (k2.trans k3) _ v1))⟩) (((k1.trans k2).trans k3).trans kk),hZ.on (k1.trans k2) (aA.ts (k1.trans k2))⟩,hZ.on k1 (aA.ts k1)⟩,hZ.at aA⟩⟩
def fh(z:Str):List D:=z.cps.toList.map fun c=>D.str ⟨#[c]⟩
def LW(t:TD):Cq:=fun σ S R Z=>t σ S (fun x S1=>∃z,x=.str z∧R ⟨fh z,fun _=>True⟩ S1) Z
theorem Oz(h:DE K X l t):DI K X tg l (LW t) :=
 ⟨fun y=>(NO (X:=y.cx) (h.of y)).mono <| by rintro τ H R ⟨σ,S,RI,Z,aA,hS,q,hR,hZ⟩;exact⟨σ,S,_,Z,aA,hS,q,by
  rintro x S1 v H1 ⟨z,e,r1⟩ v1 s1 k1
  subst e
  refine⟨z,v1.str,hR _ S1 _ H1 r1 (fun i S2 H2 k2 s2 _=>⟨fun d hd=>?_,fun hl=>?_⟩) s1 k1⟩
  ·unfold fh at hd
   rw[zB,Array.getElem?_toList] at hd
   cases q:z.cps[i]? with
   |none=>rw[q] at hd;cases hd
   |some c =>
    rw[q] at hd;cases hd
    refine⟨(Array.getElem?_eq_some_iff.mp q).1,fun x' H' ⟨e1,c',e2,e3⟩=>?_⟩
    rw[q] at e2;cases e2
    subst e1 e3
    exact⟨i6 _,.refl _,s2⟩
  ·unfold fh at hl;rw[zc,ye] at hl;exact hl,hZ⟩⟩
def J5(t:TD):TD:=fun σ S R Z=>t σ S (fun x S1=>∃ss:List Str,uU S1 x (ss.map D.str)∧ss.length<4000∧R (.int (iI ss).length) S1) Z
theorem lse(h:DE K X e t)(hm:X.mg "len" = none)(hm':X.mg "set" = none)(hp:isPlain e=true:=by rfl)(hg:Gl X "len" := by rfl)(X9:Gl X "set" := by rfl)(he:starEach [e] X.env=[(false,eval e X.env)]:=by rfl)
  (SV:starEach [Expr.Call (.Name "set" p') [e] [] pos'] X.env=[(false,eval (.Call (.Name "set" p') [e] [] pos') X.env)]:=by rfl) (hK:X.K=K:=by rfl) (hc:X.calm=true:=by rfl) :
  DE K X (.Call (.Name "len" p) [.Call (.Name "set" p') [e] [] pos'] [] pos) (J5 t):=by
 subst hK
 refine⟨fun y=>(qf (X:=y.cx) (DQ (X:=y.cx) rfl rfl) hg hm aX (WZ (tT (X:=y.cx) (DP (X:=y.cx) rfl rfl rfl hc) X9 hm' NT (WZ (h.of y) Av hp) (by decide) (by decide) he rfl) Av rfl) (by decide) (by decide) SV rfl).mono fun τ H Q ⟨σ,S,R,Z,aA,hS,q,hR,hZ⟩=>?_⟩
 refine⟨σ,S,_,Z,aA,hS,q,fun x S1 v H1 ⟨ss,h1,hl,r1⟩ v1 s1 k1=>?_,hZ⟩
 obtain⟨a,xs,rfl,hq,t⟩:=h1.at s1 v1
 rw[t.strs] at hq
 exact⟨a,ss,rfl,hq,hl,fun l hl=>⟨l,ss,rfl,aB,hR _ _ _ _ r1 (aO _) (s1.grow hl) (k1.trans (.new hl))⟩⟩
end
theorem D9{K:Frag}{S:aG}{H:Hp}{l:Addr}(hS:Rs K S H)(h:S l=some .well):∃x y z:Int,Rs K (S.set l (.lst [.int x,.int y,.int z])) H:=by
 obtain⟨x,y,z,e⟩:∃x y z:Int,H l=some (.lst [.int x,.int y,.int z]):=hS l _ h
 refine⟨x,y,z,fun b c hb=>?_⟩
 by_cases q:b=l
 ·subst q;rw[aa] at hb;cases hb
  exact⟨_,e,aT (aO x) (aT (aO y) (aT (aO z) bB))⟩
 ·rw[af q] at hb;exact hS b c hb
theorem ug{K:Frag}{S:aG}{H:Hp}{l:Addr}{x y z:Int}(h:S l=some .well)(hS:Rs K (S.set l (.lst [.int x,.int y,.int z])) H):Rs K S H:=fun b c hb=>by
 by_cases q:b=l
 ·subst q;rw[h] at hb;cases hb
  obtain⟨xs,e,t⟩:=hS.lst (a:=b) aa
  rw[t.ints (bs:=[x,y,z])] at e
  exact⟨x,y,z,e⟩
 ·exact hS b c (by rw[af q];exact hb)
def OA(pre:List D→Addr→Prop)(post:List D→D→Prop):eF:=fun ds S R _=>∃l x y z,pre ds l∧S l=some (.lst [.int x,.int y,.int z])∧∀d x' y' z',post ds d→R d (S.set l (.lst [.int x',.int y',.int z']))
def Gx(pre:List D→Addr→Prop)(post:List D→D→Prop):eF:=fun ds S R _=>∃l,pre ds l∧S l=some .well∧∀d,post ds d→R d S
theorem D_{P:Program}{w:World}{K:Frag}{mg:Str→Option Value}{base:Heap}{k:Nat}{f:Addr}{fd:FuncData}{ps:List Str}{pre:List D→Addr→Prop}{post:List D→D→Prop}
  (F:bZ P w K mg base (fU P w) k f fd ps (sS K (OA pre post))):bZ P w K mg base (fU P w) k f fd ps (sS K (Gx pre post)):=by
 refine F.imp fun vs H Q E ⟨ds,S,R,Z,v,hS,⟨l,hp,hw,h⟩,hR,hZ⟩=>?_
 obtain⟨x,y,z,oF⟩:=D9 hS hw
 refine⟨ds,_,fun d S2=>∃x' y' z',post ds d∧S2=S.set l (.lst [.int x',.int y',.int z']),fun _ _=>False,v,oF,⟨l,x,y,z,hp,aa,fun d x' y' z' hd=>⟨x',y',z',hd,dr⟩⟩,fun d S2 u H' ⟨x',y',z',hd,e⟩ rv hs kp=>?_,fun _ _ _ q=>q.elim⟩
 subst e
 exact hR d S u H' (h d hd) rv (ug hw hs) kp
theorem fb:bootBuiltins "sorted" = some (.builtin "sorted"):=by trivial
def Sub(S S':aG):Prop:=∀b c,S b=some c→S' b=some c
theorem Sub.refl(S:aG):Sub S S:=fun _ _ h=>h
theorem Sub.trans(a:Sub S S1)(b:Sub S1 S2):Sub S S2:=fun p c h=>b p c (a p c h)
theorem Sub.new(h:S p=none):Sub S (S.set p c):=fun b c' hb=>by rw[af (iK hb h)];exact hb
theorem Rs.sub{K:Frag}{S S':aG}{H:Hp}(h:Rs K S' H)(s:Sub S S'):Rs K S H:=fun a c e=>h a c (s a c e)
def Fo(S':aG)(p:aG→Prop):Prop:=∃S,Sub S S'∧p S
theorem fo(h:p S):Fo S p:=⟨S,.refl S,h⟩
section
variable{P:Program}{w:World}{K:Frag}{mg:Str→Option Value}{base:Heap}
theorem uY.ok{x qual:Str}{st:Stmt}{f:Addr}{fd:FuncData}{N ps:List Str}{k:Nat}{sp:eF}(F:uY K x qual st f fd)(S:ah N ps (ae st))(len:∀ds S R Z,sp ds S R Z→ds.length=ps.length)
  (lT:∀(gq:Value) (A:Around) (outer:List Env) (s:Shared) (H:Hp) (E:XK) (ds:List D) (S:aG) (R:KD) (Z:KX),cu k (A.deeper (envOfC qual (ae st) s.heap.objs.size f gq))→sp ds S R Z →
   ∃t,AX K (kl (fU P w) P w K mg base N qual (ae st) f gq A outer s H E) true (bH st) t∧t { nx:=fun _ S'=>Fo S' (R .aw),rt:=fun d S'=>Fo S' (R d) } (i7 N ds) S fun _ C S'=>Fo S' (Z C)):bZ P w K mg base (fU P w) (k+1) f fd ps (sS K sp):=by
 have F2:bZ P w K mg base (fU P w) (k+1) f fd ps (sS K fun ds S R' Z'=>∃R Z,sp ds S R Z∧R'=(fun d S'=>Fo S' (R d))∧Z'=fun C S'=>Fo S' (Z C)):=by
  refine F.okD S (by rintro ds S R Z ⟨R0,Z0,h,_⟩;exact len _ _ _ _ h) fun gq A outer s H E ds S R Z hr ⟨R0,Z0,h,e1,e2⟩=>?_
  subst e1 e2
  exact lT gq A outer s H E ds S R0 Z0 hr h
 refine F2.imp <| by rintro vs H Q E ⟨ds,S,R,Z,v,hS,h,hR,hZ⟩;exact⟨ds,S,_,_,v,hS,⟨R,Z,h,rfl,rfl⟩,by rintro d S' u H' ⟨S2,sb,r⟩ rv rs kp;exact hR d S2 u H' r rv (rs.sub sb) kp,by rintro C S' H' ⟨S2,sb,r⟩ rs kp;exact hZ C S2 H' r (rs.sub sb) kp⟩
end
section
variable{K:Frag}{X:Cx}{b:Bool}
def SW(t:lM):lM:=fun De σ S Z=>∃P:SD→aG→Prop,t { De with nx:=fun aD S'=>Fo S' (P aD) } σ S Z∧∀aD S',P aD S'→De.nx aD S'
theorem Ea{st:Stmt}{t:lM}(h:DS K X b st t):DS K X b st (SW t) :=
 ⟨fun y=>(h.of y).mono <| by rintro D τ H ⟨σ,S,De,Z,aA,hS,⟨P,q,hP⟩,hD,hZ⟩;exact⟨σ,S,_,Z,aA,hS,q,⟨by rintro uC S1 Vf H1 ⟨S2,sb,r1⟩ a b c;exact hD.nx _ _ _ _ (hP _ _ r1) a (b.sub sb) c,hD.rt,hD.bk,hD.ct⟩,hZ⟩⟩
def dFo(t:TD):TD:=fun σ S R Z=>t σ S (fun d S'=>Fo S' (R d)) Z
theorem qJ(h:DE K X e t):DE K X e (dFo t) :=
 ⟨fun y=>(h.of y).mono <| by rintro τ H Q ⟨σ,S,R,Z,aA,hS,q,hR,hZ⟩;exact⟨σ,S,_,Z,aA,hS,q,by rintro d S' v H' ⟨S2,sb,r⟩ rv rs kp;exact hR d S2 v H' r rv (rs.sub sb) kp,hZ⟩⟩
theorem sU(nd:N.Nodup)(h0:N[0]?=some a:=by rfl)(hx:∀C s H ex pn,Loc (iG X N scope C s H ex pn).env.scope a∧(iG X N scope C s H ex pn).env.scope.names.lookup a=some .local:=by intro _ _ _ _ _;exact⟨Or.inl rfl,rfl⟩) :
  ∀C s H ex pn,PG (iG X N scope C s H ex pn) (.Name a p) (iF 0):=fun C s H ex pn=>pH (i:=0) nd h0 (hx C s H ex pn).1 (.inr (hx C s H ex pn).2)
theorem cg2(nd:N.Nodup)(h0:N[0]?=some a:=by rfl)(h1:N[1]?=some c:=by rfl)
  (hx:∀C s H ex pn,Loc (iG X N scope C s H ex pn).env.scope a∧(iG X N scope C s H ex pn).env.scope.names.lookup a=some .local:=by intro _ _ _ _ _;exact⟨Or.inl rfl,rfl⟩)
  (hy:∀C s H ex pn,Loc (iG X N scope C s H ex pn).env.scope c∧(iG X N scope C s H ex pn).env.scope.names.lookup c=some .local:=by intro _ _ _ _ _;exact⟨Or.inl rfl,rfl⟩)
  (hl:∀env:Env,(assignEach [.Name a p,.Name c p'] env).length=2∧(assignEach [.Name a p,.Name c p'] env).findIdx? (·.1)=none∧(assignEach [.Name a p,.Name c p'] env).map (·.2)=assign (.Name a p) env::(assignEach [.Name c p'] env).map (·.2)∧(assignEach [.Name c p'] env).map (·.2)=assign (.Name c p') env::(assignEach [] env).map (·.2):=by intro _;exact⟨rfl,rfl,rfl,rfl⟩) (hK:X.K=K:=by rfl) (hc:X.calm=true:=by rfl) :
  ∀C s H ex pn,PG (iG X N scope C s H ex pn) (.Tuple [.Name a p,.Name c p'] j p2) (IU K 2 (pV (iF 0) (pV (iF 1) IT))):=fun C s H ex pn=>by
 subst hK
 have e:=hl (iG X N scope C s H ex pn).env
 exact Fn (X:=iG X N scope C s H ex pn) hc (pW (pH (i:=0) nd h0 (hx C s H ex pn).1 (.inr (hx C s H ex pn).2)) (pW (pH (i:=1) nd h1 (hy C s H ex pn).1 (.inr (hy C s H ex pn).2)) B0 e.2.2.2) e.2.2.1) e.1 e.2.1
end
theorem qL:∀{ss:List Str}{ax:List Value},Vals (ss.map V.str) ax→StrsAre ax ss
 |[],_,.nil=>.nil
 |z::ss,_,.cons r t=>by
  obtain⟨tk,rfl⟩:=r
  exact .cons z tk (qL t)
section
variable{K:Frag}
end
end L2
namespace HT
open PySem PySem.Spec PyProof.Rows
section
variable{prog:Program}{w:World}{A:Around}{E:Value→Shared→Prop}{s:Shared}
end
end HT
namespace L2
open PySem PySem.Spec PyProof.Rows
section
variable{K:Frag}{X:Cx}
theorem A1(r:Rv K H d v):∀n:Nat,RvAll K H (List.replicate n d) (List.replicate n v)
 |0=>bB
 |n+1=>aT r (A1 r n)
def SX:t_:=fun x y S R=>∃d n,x=.tup [d]∧y=.int n∧2≤n∧n≤1000∧R (.tup (List.replicate n.toNat d)) S
theorem i8:oV K (binaryOp .Mult) SX:=by
 rintro X hK hu pins s σ H x y v u Q I rx ry ⟨d,e,S,R,r1,r2,hS,⟨d0,n,e1,e2,h1,h2,h⟩,hR⟩
 subst e1 e2
 obtain⟨a,xs,rfl,q,t⟩:=r1.tup
 obtain⟨z,rfl,rz⟩:=t.one
 exact JQ pins s σ H _ _ v u Q I rx ry ⟨a,z,n,rfl,r2.int,q,by lia,h2,fun e=>by lia,fun _ p hp=>hR.JS hS hp h (A1 rz _)⟩
end
inductive Gy (S:aG):List D→List PyData→Prop where
 |nil:Gy S [] []
 |cons {d:D}{p:PyData}{ds:List D}{ps:List PyData} : Dl S d p→Gy S ds ps→Gy S (d::ds) (p::ps)
section
variable{K:Frag}
end
section
variable{K:Frag}
end
section
variable{K:Frag}
def Gz(p:Str×D):D:=.tup [.str p.1,p.2]
def qM(l:List (Str×D)):List (Key×D):=l.foldl (fun c p=>dput c (.inr p.1) p.2) []
theorem Cu:∀{kvs:List (Str×D)}{ys:List V},RvAll K H (kvs.map Gz) ys→∃kv:List (Str×V),Prs H ys kv∧∀c c',b_ K H c c'→b_ K H (kvs.foldl (fun c p=>dput c (.inr p.1) p.2) c) (kv.foldl (fun c p=>putK c (.inr p.1) p.2) c')
 |[],ys,h=>by
  rw[h.nil]
  exact⟨[],⟨rfl,fun i x p e=>(by cases i <;> cases e)⟩,fun c c' h=>h⟩
 |p::kvs,ys,h=>by
  obtain⟨y,ys,rfl,r1,r2⟩:=h.cons
  obtain⟨b,zs,rfl,hb,tz⟩:=Rv.tup (show Rv K H (.tup [.str p.1,p.2]) y from r1)
  obtain⟨v,u,rfl,rv,ru⟩:=tz.two
  have ev:=rv.str
  subst ev
  obtain⟨kv,⟨hl,hp⟩,hf⟩:=Cu r2
  refine⟨(p.1,u)::kv,⟨by rw[zE,zE,hl],fun i x q e1 e2=>?_⟩,fun c c' h=>hf _ _ (h.put (.inr p.1) ru)⟩
  cases i with
  |zero=>cases e1;cases e2;exact⟨b,rfl,hb⟩
  |succ i=>exact hp i x q e1 e2
def SY:List D→aG→KD→Prop:=fun ds S R=>∃kvs:List (Str×D),ds=[.tup (kvs.map Gz)]∧∀p,S p=none→R (.ref p) (S.set p (.dy (qM kvs)))
theorem OB:iL K (.type "dict") SY:=by
 rintro X hK hc pins s σ H xs us Q I rx ⟨ds,S,R,r,hS,⟨kvs,e,h⟩,hR⟩
 subst hK e
 obtain⟨v,rfl,r1⟩:=r.one
 obtain⟨a,ys,rfl,q,t⟩:=r1.tup
 obtain⟨kv,hp,hf⟩:=Cu t
 refine AK hc pins s σ H _ us Q I rx ⟨a,ys,kv,rfl,q,hp,fun l hl=>?_⟩
 have kn:Kp X.K H (upd H l (.dK (Cj kv))):=.new hl
 exact hR _ _ _ _ (h l (hS.fresh hl)) (bL l) (hS.new (c:=.dy (qM kvs)) hl ⟨_,aB,(hf [] [] .nil).ts kn⟩) kn
theorem xj(kvs:List (Key×D))(k k':Key)(d:D):cz (dput kvs k d) k'=if k'=k then some d else cz kvs k':=by
 unfold dput
 by_cases hk:(kvs.any fun kv=>decide (kv.1=k))=true
 ·rw[if_pos hk]
  unfold cz
  induction kvs with
  |nil=>cases hk
  |cons r kvs ih =>
   rw[zM,zV,zV]
   by_cases e:r.1=k
   ·rw[if_pos e]
    by_cases e2:k'=k
    ·rw[if_pos e2,show decide (r.1=k')=true from zD (e.trans e2.symm)];rfl
    ·rw[if_neg e2,show decide (r.1=k')=false from zw fun q=>e2 (q.symm.trans e)]
     by_cases dU:(kvs.any fun kv=>decide (kv.1=k))=true
     ·have:=ih dU
      rw[if_neg e2] at this
      exact this
     ·have em:kvs.map (fun kv=>if kv.1=k then (kv.1,d) else kv)=kvs:=by
       conv=>rhs;rw[← List.map_id kvs]
       refine zZ fun x hx=>?_
       rw[if_neg fun q=>dU (List.any_eq_true.mpr ⟨x,hx,zD q⟩)];rfl
      rw[em]
   ·rw[if_neg e]
    have dU:(kvs.any fun kv=>decide (kv.1=k))=true:=by
     rw[yD,zw e,yE] at hk;exact hk
    by_cases e3:r.1=k'
    ·rw[zD e3,if_neg fun q=>e (e3.trans q)]
    ·rw[zw e3];exact ih dU
 ·rw[if_neg hk]
  unfold cz
  rw[List.find?_append]
  have hn:∀x∈kvs,x.1≠k:=fun x hx q=>hk (List.any_eq_true.mpr ⟨x,hx,zD q⟩)
  by_cases e:k'=k
  ·subst e
   rw[if_pos rfl,List.find?_eq_none.mpr fun x hx=>by simp [hn x hx]]
   simp
  ·rw[if_neg e]
   have:([(k,d)].find? fun kv=>decide (kv.1=k'))=none:=by
    rw[zV,show decide (k=k')=false from zw fun q=>e q.symm];rfl
   rw[this,Option.or_none]
theorem Eb(l:List (Str×D))(z:Str):(cz (qM l) (.inr z)).isSome=l.any fun p=>decide (p.1=z):=by
 have all:∀(l:List (Str×D)) (c:List (Key×D)),(cz (l.foldl (fun c p=>dput c (.inr p.1) p.2) c) (.inr z)).isSome=((cz c (.inr z)).isSome || l.any fun p=>decide (p.1=z)):=by
  intro l
  induction l with
  |nil=>intro c;simp
  |cons p l ih =>
   intro c
   rw[yu,ih,xj,yD]
   by_cases e:p.1=z
   ·rw[if_pos (by rw[e]),zD e];simp
   ·rw[if_neg fun q=>e (yz q).symm,zw e];simp
 exact (all l []).trans (by rfl)
def S7(a:Addr)(kvs:List (Str×V)):t_:=fun x y S R=>∃z,x=.str z∧y=.ref a∧R (.bl (kvs.lookup z).isSome) S
theorem cmk{X:Cx}{a b:Expr}{ta tb:TD}{pos:Pos}{w:World}{ad:Addr}{kvs:List (Str×V)}(d:JM w K ad kvs)(ha:DE K X a ta)(hb:DE K X b tb)(hw:X.w=w:=by rfl)(hm:behindInMarks .In b=false:=by with_unfolding_all rfl)(hK:X.K=K:=by rfl) :
  DE K X (.Compare a [.In] [b] pos) (Of (S7 ad kvs) ta tb):=by
 refine⟨fun y=>(B7 (X:=y.cx) (r:=Lr K (S7 ad kvs)) ?_ (ha.of y) (hb.of y) hm).mono fun _ _ _ h=>h.op⟩
 rintro pins s σ H x y' v u Q I rx ry ⟨d',e,S,R,r1,r2,hS,⟨z,e1,e2,h⟩,hR⟩
 subst e1 e2
 exact Gf (X:=y.cx) hw hK pins s σ H x y' v u Q I rx ry ⟨z,ad,kvs,r1.str,r2.ref,d,hR.now hS h (bS _)⟩
end
structure S9(k:Nat)(A:Around):Prop where
 dp:A.depth+3 * k+5<recursionLimit
 un:A.units+16 * k+200<cLine
structure FnH(P:Program)(w:World)(K:Frag)(mg:Str→Option Value)(base:Heap)(k:Nat)(f:Addr)(fd:FuncData)(ps:List Str)(sp:eF):Prop where
 len:∀ds S R Z,sp ds S R Z→ds.length=ps.length
 run:∀(A:Around) (outer:List Env) (s:Shared) (H:Hp) (args:Args) (us:List Value) (vs:List V) (Q:VK),S9 k A→wA P w K mg base A outer s H→BindsTo s fd args (ps.zip us)→Vals vs us→sS K sp vs H Q E0 →
  codeAny (model P w) A (.call (.ref f) args) (CR (fU P w) outer P w H s Q E0) s
section
variable{P:Program}{w:World}{K:Frag}{mg:Str→Option Value}{base:Heap}
end
section
variable{K:Frag}{X:Cx}{k:Nat}{f:Addr}{fd:FuncData}{ps:List Str}{x:Str}{p pos:Pos}{e:Expr}{es:List Expr}{sp:eF}
end
section
variable{K:Frag}
end
def PEg(pre:Nat)(X:Cx)(e:Expr)(t:TE):Prop:=∀(pins:List (Addr×Obj)) (s:Shared) (σ:St) (H:Hp) (Q:VK),Inv X pins σ H s→pre≤s.toks→t σ H Q→wpAny (model X.prog X.w) X.A (eval e X.env) (fun u s'=>EP X pins σ Q u s'∧1≤s'.toks) X.xe s
section
variable{X:Cx}{e o:Expr}{t:TE}
end
structure DEg(pre:Nat)(K:Frag)(X:Cx)(e:Expr)(t:TD):Prop where
 of:∀{b:Bool} (y:Ev X b),PEg pre y.cx e (T K y.E t)
section
variable{K:Frag}{X:Cx}{e o:Expr}
end
theorem X_{a b:Str}(h:a.cps.toList=b.cps.toList):a=b:=by
 obtain⟨⟨x⟩⟩:=a
 obtain⟨⟨y⟩⟩:=b
 cases h;rfl
end L2
namespace HT
open PySem PySem.Spec PyProof.Rows
section
variable{prog:Program}{w:World}{A:Around}{E:Value→Shared→Prop}{s:Shared}
end
end HT
namespace L2
open PySem PySem.Spec PyProof.Rows
section
variable{K:Frag}{X:Cx}
def S_:Fd:=fun x ds S R=>∃a es fs,x=.ref a∧ds=[.tup fs]∧S a=some (.lst es)∧es.length+fs.length≤sizeLine∧R .aw (S.set a (.lst (es++fs)))
theorem Ec:LL K "list.extend" S_:=by
 rintro X hK pins s σ H x xs v us Q I rx rs ⟨d,ds,S,R,r1,r2,hS,⟨a,es,fs,e1,e2,e3,hl,h⟩,hR⟩
 subst e1 e2
 obtain⟨w0,rfl,q2⟩:=r2.one
 obtain⟨zs,e5,t⟩:=hS.lst e3
 obtain⟨p,ys,rfl,q,t2⟩:=q2.tup
 exact AS pins s σ H x _ v us Q I rx rs ⟨a,p,zs,ys,r1.ref,rfl,e5,q,by rw[t.len,t2.len];exact hl,hR.put hS e3 h i5 (t.app t2)⟩
end
section
variable{X:Cx}{N:List Str}{src:List (Option Nat)}{scope:Scope}{tg iter elt:Expr}{ifs:List Expr}{pos:Pos}{wi:TI}{g:TG}{tc:TT}{te:TE}
end
section
variable{K:Frag}{X:Cx}{E:XK}{pos:Pos}
structure DEx(K:Frag)(X:Cx)(E:XK)(e:Expr)(t:TD):Prop where
 of:∀(y:Ev X true),y.E=(fun _=>E)→dj y.cx E→PE y.cx e (T K y.E t)
structure DAx(K:Frag)(X:Cx)(E:XK)(es:List Expr)(t:pK):Prop where
 of:∀(y:Ev X true),y.E=(fun _=>E)→dj y.cx E→PA y.cx es (Ta K y.E t)
structure DSx(K:Frag)(X:Cx)(E:XK)(b:List Stmt)(t:lM):Prop where
 of:∀(y:Ev X true),y.E=(fun _=>E)→dj y.cx E→Ai y.cx b (Tl K y.E t)
variable{N:List Str}{src:List (Option Nat)}{scope:Scope}{tg iter elt:Expr}{ifs:List Expr}{ti:Cq}{g:TG}{gd:AY}{tc:qE}{te:TD}
end
section
variable{P:Program}{w:World}{K:Frag}{mg:Str→Option Value}{base:Heap}
end
section
variable{prog:Program}{w:World}{A:Around}{E:Value→Shared→Prop}{s:Shared}{n l0 l1:Nat}{i:Nat}{oU r9:Array Value}
end
section
variable{K:Frag}{X:Cx}
end
open PySem.Builtin PySem.Builtin.Str
structure M3(X:Cx)(o:Expr)(m:Str)(apos:Pos)(e f g:Expr)(aQ:Pos):Prop where
 base:attributeBase o m X.env (eval o X.env)=eval o X.env
 E_:((backTo aQ (starEach [e,f,g] X.env)).all (fun x=>!x.1) && (backToKw aQ (keywordEach [] X.env)).all (fun x=>x.1.isSome)
  && decide (([e,f,g]:List Expr).length+([]:List Keyword).length+(if ([]:List Keyword).isEmpty then 0 else 1)<30))=true
 line:(apos.endLine == aQ.line)=true
 trees:backTo aQ (starEach [e,f,g] X.env)=[(false,eval e X.env),(false,eval f X.env),(false,eval g X.env)]
section
variable{X:Cx}{e o:Expr}{t:TE}
def PAg(pre:Nat)(X:Cx)(es:List Expr)(t:TA):Prop :=
 ∀(pos:Pos) (pins:List (Addr×Obj)) (s:Shared) (σ:St) (H:Hp) (Q:List V→Hp→Prop),Inv X pins σ H s→pre≤s.toks→t σ H Q→wpAny (model X.prog X.w) X.A (spliced (backTo pos (starEach es X.env))) (AP X pins σ Q) X.xe s
end
section
variable{K:Frag}{X:Cx}{e o:Expr}
structure DAg(pre:Nat)(K:Frag)(X:Cx)(es:List Expr)(t:pK):Prop where
 of:∀{b:Bool} (y:Ev X b),PAg pre y.cx es (Ta K y.E t)
end
structure Gh(a₀:Array Keyed)(g:Nat→Nat)(xs:Array Keyed):Prop where
 at_:∀k,k<a₀.size→xs[k]?=a₀[g k]?
 lt:∀k,k<a₀.size→g k<a₀.size
 inj:∀i j,i<a₀.size→j<a₀.size→g i=g j→i=j
def Log(κ:KeyKind)(a₀:Array Keyed)(i j:Nat):Prop:=κ.klt (KK κ a₀ i) (KK κ a₀ j)∨(KK κ a₀ i=KK κ a₀ j∧i<j)
def A2(κ:KeyKind)(a₀:Array Keyed)(g:Nat→Nat)(k:Nat):Prop:=∀i j,i<j→j<k→Log κ a₀ (g i) (g j)
def Vn(κ:KeyKind)(a₀:Array Keyed)(g:Nat→Nat)(k:Nat):Prop:=∀i j,i<j→j<k→Log κ a₀ (g j) (g i)
def Ed(g:Nat→Nat)(m n:Nat):Prop:=∀k,m≤k→k<n→g k=k
def GA(g:Nat→Nat)(i j k:Nat):Nat:=if i≤k∧k<j then g (i+j - 1 - k) else g k
def J6(g:Nat→Nat)(src l k:Nat):Nat:=if k=l then g src else if l<k∧k≤src then g (k - 1) else g k
section
variable{κ:KeyKind}{a₀ xs:Array Keyed}{g:Nat→Nat}
theorem Log.kle(h:Log κ a₀ i j):κ.kle (KK κ a₀ i) (KK κ a₀ j):=by
 rcases h with h|⟨h,_⟩
 ·exact KeyOrd.kle_of_klt h
 ·rw[h];exact KeyOrd.kle_refl _
theorem LX(h:κ.kle (KK κ a₀ i) (KK κ a₀ j))(hl:i<j):Log κ a₀ i j:=by
 cases q:κ.blt (KK κ a₀ i) (KK κ a₀ j) with
 |true=>exact .inl q
 |false=>exact .inr ⟨KeyOrd.kle_antisymm h q,hl⟩
theorem Gh.low(h:Gh a₀ g xs)(t:Ed g m a₀.size)(hm:m≤a₀.size)(hi:i<m):g i<m:=by
 refine Nat.lt_of_not_le fun q=>?_
 have h1:=h.lt i (by lia)
 have h2:=h.inj (g i) i h1 (by lia) (t (g i) q h1)
 lia
theorem Gh.key(h:Gh a₀ g xs)(hk:k<a₀.size):KK κ xs k=KK κ a₀ (g k):=KK_congr (h.at_ k hk)
theorem Gh.mirror(h:Gh a₀ g xs)(hs:xs.size=a₀.size)(hj:j≤a₀.size):Gh a₀ (GA g i j) (mirror xs i j ((j - i) / 2)) where
 at_:=fun k hk=>by
  rw[getElem?_mirror_all (by lia)]
  unfold GA
  by_cases q:i≤k∧k<j
  ·rw[if_pos q,if_pos q];exact h.at_ _ (by lia)
  ·rw[if_neg q,if_neg q];exact h.at_ _ hk
 lt:=fun k hk=>by
  unfold GA
  by_cases q:i≤k∧k<j
  ·rw[if_pos q];exact h.lt _ (by lia)
  ·rw[if_neg q];exact h.lt _ hk
 inj:=fun a b ha hb e=>by
  unfold GA at e
  by_cases q:i≤a∧a<j <;> by_cases r:i≤b∧b<j
  ·rw[if_pos q,if_pos r] at e;have:=h.inj _ _ (by lia) (by lia) e;lia
  ·rw[if_pos q,if_neg r] at e;have:=h.inj _ _ (by lia) (by lia) e;lia
  ·rw[if_neg q,if_pos r] at e;have:=h.inj _ _ (by lia) (by lia) e;lia
  ·rw[if_neg q,if_neg r] at e;exact h.inj _ _ ha hb e
theorem Gh.bubble(h:Gh a₀ g xs)(hs:xs.size=a₀.size)(hl:l≤src)(hj:src<a₀.size):Gh a₀ (J6 g src l) (bubble xs src (src - l)) where
 at_:=fun k hk=>by
  rw[getElem?_bubble (by lia) _ (by lia),show src - (src - l)=l by lia]
  unfold J6
  by_cases q:k=l
  ·rw[if_pos q,if_pos q];exact h.at_ _ hj
  ·rw[if_neg q,if_neg q]
   by_cases r:l<k∧k≤src
   ·rw[if_pos r,if_pos r];exact h.at_ _ (by lia)
   ·rw[if_neg r,if_neg r];exact h.at_ _ hk
 lt:=fun k hk=>by
  unfold J6
  by_cases q:k=l
  ·rw[if_pos q];exact h.lt _ hj
  ·rw[if_neg q]
   by_cases r:l<k∧k≤src
   ·rw[if_pos r];exact h.lt _ (by lia)
   ·rw[if_neg r];exact h.lt _ hk
 inj:=fun a b ha hb e=>by
  unfold J6 at e
  repeat' split at e
  all_goals (have:=h.inj _ _ (by lia) (by lia) e;lia)
theorem ic(h:i≤k∧k<j):GA g i j k=g (i+j - 1 - k):=by unfold GA;rw[if_pos h]
theorem fV(h:¬ (i≤k∧k<j)):GA g i j k=g k:=by unfold GA;rw[if_neg h]
end
section
variable{prog:Program}{w:World}{A:Around}{E:Value→Shared→Prop}{s:Shared}{a₀:Array Keyed}{κ:KeyKind}
theorem LY{st:SortSt}{g:Nat→Nat}{a top:Nat}{Q:AscSt→SortSt→Prop}(hO:κ.OneLt)(h0:KeysOf κ a₀)(ht:top≤a₀.size)(h1:1≤a)(h2:a≤top)(B:SBase a₀ st)(G:Gh a₀ g (arrOf st))(T:Ed g a a₀.size)(U:A2 κ a₀ g a)
  (h:∀n,a≤n→n≤top→A2 κ a₀ g n→(n=top∨κ.klt (KK κ a₀ (g n)) (KK κ a₀ (g (n - 1))))→Q (none,n) st):wpS (model prog w) A E s (ascLoop a top) Q st:=by
 unfold ascLoop
 refine wpS_forRange (I:=fun x c t=>t=st∧c=(none,x)∧A2 κ a₀ g x) ?_ ?_ ⟨rfl,rfl,U⟩
 ·rintro x c t N1 F_ ⟨rfl,rfl,V⟩
  dsimp only
  refine wpS_bind (wpS_ltKK hO B h0 (by lia) (by lia) ?_)
  rw[G.key (by lia),G.key (by lia)]
  cases q:κ.blt (KK κ a₀ (g x)) (KK κ a₀ (g (x - 1))) with
  |true=>exact wpS_pure (h x N1 (by lia) V (.inr q))
  |false =>
   refine wpS_pure ⟨rfl,rfl,fun i j oW hj=>?_⟩
   rcases Nat.lt_or_ge j x with z|z
   ·exact V i j oW z
   ·obtain rfl:j=x:=by lia
    have lw:=G.low (m:=j) (fun k hk dU=>T k (by lia) dU) (by lia) oW
    rw[T j N1 (by lia)] at q ⊢
    refine LX ?_ lw
    rcases Nat.lt_or_ge i (j - 1) with y|y
    ·exact KeyOrd.kle_trans (V i (j - 1) y (by lia)).kle q
    ·obtain rfl:i=j - 1:=by lia
     exact q
 ·rintro c t ⟨rfl,rfl,V⟩
  rw[show max a top=top by lia] at V ⊢
  exact h top h2 (zo _) V (.inl rfl)
theorem GB{st:SortSt}{g:Nat→Nat}{n top:Nat}{Q:Option Nat→SortSt→Prop}(hO:κ.OneLt)(h0:KeysOf κ a₀)(ht:top≤a₀.size)(h1:1≤n)(h2:n≤top)(B:SBase a₀ st)(G:Gh a₀ g (arrOf st))(T:Ed g n a₀.size)(D:Vn κ a₀ g n)
  (h:∀m g' eM,SBase a₀ eM→Gh a₀ g' (arrOf eM)→Ed g' m a₀.size→1≤m→m≤top→A2 κ a₀ g' m→Q (some m) eM):wpS (model prog w) A E s (tail3 n top) Q st:=by
 unfold tail3
 refine wpS_bind (wpS_reverse ?_)
 have B':SBase a₀ (setArr st (mirror (arrOf st) 0 n ((n - 0) / 2))):=B.setArr (mirror_perm _ _ _ _)
 have G':Gh a₀ (GA g 0 n) (arrOf (setArr st (mirror (arrOf st) 0 n ((n - 0) / 2)))):=G.mirror B.size (by lia)
 have T':Ed (GA g 0 n) n a₀.size:=fun k hk dU=>by rw[fV (by lia)];exact T k hk dU
 refine wpS_bind (LY hO h0 ht h1 h2 B' G' T' (fun i j oW hj=>?_) fun m Vo OC V _=>wpS_pure (h m _ _ B' G' (fun k hk dU=>T' k (by lia) dU) (by lia) OC V))
 rw[ic (by lia),ic (by lia)]
 exact D _ _ (by lia) (by lia)
structure Iv(κ:KeyKind)(a₀:Array Keyed)(g:Nat→Nat)(x q:Nat):Prop where
 le:q+1≤x
 tl:Ed g (x - (q+1)) a₀.size
 dn:∀i j,i<j→j<x→i<x - (q+1)→Log κ a₀ (g j) (g i)
 eq:∀i,x - (q+1)≤i→i<x→KK κ a₀ (g i)=KK κ a₀ (g (x - 1))
theorem Iv.full(F:Iv κ a₀ g x q)(hx:x≤a₀.size):Vn κ a₀ (GA g (x - (q+1)) x) x:=fun i j oW hj=>by
 have le:=F.le
 by_cases hi:i<x - (q+1)
 ·rw[fV (k:=i) (by lia)]
  by_cases Vp:j<x - (q+1)
  ·rw[fV (by lia)];exact F.dn i j oW hj hi
  ·rw[ic (by lia)];exact F.dn i _ (by lia) (by lia) hi
 ·rw[ic (by lia),ic (by lia)]
  refine .inr ⟨(F.eq _ (by lia) (by lia)).trans (F.eq _ (by lia) (by lia)).symm,?_⟩
  rw[F.tl _ (by lia) (by lia),F.tl _ (by lia) (by lia)];lia
theorem Iv.LZ(F:Iv κ a₀ g x 0):Vn κ a₀ g x:=fun i j oW hj=>F.dn i j oW hj (by lia)
theorem Iv.next(D:Vn κ a₀ g x)(T:Ed g x a₀.size)(hx:x<a₀.size)(h1:1≤x)(hl:κ.klt (KK κ a₀ (g x)) (KK κ a₀ (g (x - 1)))):Iv κ a₀ g (x+1) 0 where
 le:=by lia
 tl:=fun k hk dU=>T k (by lia) dU
 dn:=fun i j oW hj hi=>by
  by_cases Vp:j<x
  ·exact D i j oW Vp
  ·obtain rfl:j=x:=by lia
   refine .inl ?_
   by_cases q:i=j - 1
   ·rw[q];exact hl
   ·exact KeyOrd.klt_of_klt_of_kle hl (D i (j - 1) (by lia) (by lia)).kle
 eq:=fun i hi hj=>by rw[show i=x+1 - 1 by lia]
theorem OD{st:SortSt}{g:Nat→Nat}{n top:Nat}{Q:DescSt→SortSt→Prop}(hO:κ.OneLt)(h0:KeysOf κ a₀)(ht:top≤a₀.size)(h1:1≤n)(h2:n≤top)(B:SBase a₀ st)(G:Gh a₀ g (arrOf st))(F:Iv κ a₀ g n 0)
  (h:∀m q g' eM,SBase a₀ eM→Gh a₀ g' (arrOf eM)→n≤m→m≤top→Iv κ a₀ g' m q→Q (none,m,q) eM):wpS (model prog w) A E s (descLoop n top) Q st:=by
 unfold descLoop
 refine wpS_forRange (I:=fun x c t=>∃q g',c=(none,x,q)∧SBase a₀ t∧Gh a₀ g' (arrOf t)∧Iv κ a₀ g' x q) ?_ ?_ ⟨0,g,rfl,B,G,F⟩
 ·rintro x c t N1 F_ ⟨q,g',rfl,B',G',F'⟩
  have le:=F'.le
  dsimp only
  refine wpS_bind (wpS_ltKK hO B' h0 (by lia) (by lia) ?_)
  rw[G'.key (by lia),G'.key (by lia)]
  cases hl:κ.blt (KK κ a₀ (g' x)) (KK κ a₀ (g' (x - 1))) with
  |true =>
   simp only [if_true]
   by_cases hq:q>0
   ·rw[if_pos hq]
    refine wpS_bind (wpS_reverse (wpS_pure ⟨0,_,rfl,B'.setArr (mirror_perm _ _ _ _),G'.mirror B'.size (by lia),?_⟩))
    refine .next (F'.full (by lia)) (fun k hk dU=>?_) (by lia) (by lia) ?_
    ·rw[fV (by lia)];exact F'.tl k (by lia) dU
    ·rw[fV (by lia),ic (by lia),F'.eq (x - (q+1)+x - 1 - (x - 1)) (by lia) (by lia)];exact hl
   ·rw[if_neg hq]
    obtain rfl:q=0:=by lia
    exact wpS_pure ⟨0,g',rfl,B',G',.next F'.LZ (fun k hk dU=>F'.tl k (by lia) dU) (by lia) (by lia) hl⟩
  |false =>
   simp only [Bool.false_eq_true,if_false]
   refine wpS_bind (wpS_ltKK hO B' h0 (by lia) (by lia) ?_)
   rw[G'.key (by lia),G'.key (by lia)]
   cases hg:κ.blt (KK κ a₀ (g' (x - 1))) (KK κ a₀ (g' x)) with
   |true=>exact wpS_pure (h x q g' t B' G' N1 (by lia) F')
   |false =>
    have e:KK κ a₀ (g' x)=KK κ a₀ (g' (x - 1)):=KeyOrd.kle_antisymm hg hl
    refine wpS_pure ⟨q+1,g',rfl,B',G',⟨by lia,fun k hk dU=>F'.tl k (by lia) dU,fun i j oW hj hi=>?_,fun i hi hj=>?_⟩⟩
    ·by_cases Vp:j<x
     ·exact F'.dn i j oW Vp (by lia)
     ·obtain rfl:j=x:=by lia
      have:=F'.dn i (j - 1) (by lia) (by lia) (by lia)
      rcases this with z|⟨_,z⟩
      ·exact .inl (by rw[e];exact z)
      ·rw[F'.tl (j - 1) (by lia) (by lia)] at z
       have:=G'.low (m:=j - (q+1)) F'.tl (by lia) (i:=i) (by lia)
       lia
    ·rw[show x+1 - 1=x by lia]
     by_cases XU:i=x
     ·rw[XU]
     ·rw[e];exact F'.eq i (by lia) (by lia)
 ·rintro c t ⟨q,g',rfl,B',G',F'⟩
  rw[show max n top=top by lia] at F' ⊢
  exact h top q g' t B' G' h2 (zo _) F'
theorem GC{st:SortSt}{g:Nat→Nat}{n top:Nat}{Q:Option Nat→SortSt→Prop}(hO:κ.OneLt)(h0:KeysOf κ a₀)(ht:top≤a₀.size)(h2:n+1≤top)(B:SBase a₀ st)(G:Gh a₀ g (arrOf st))(F:Iv κ a₀ g (n+1) 0)
  (h:∀m g' eM,SBase a₀ eM→Gh a₀ g' (arrOf eM)→Ed g' m a₀.size→1≤m→m≤top→A2 κ a₀ g' m→Q (some m) eM):wpS (model prog w) A E s (descPart n top) Q st:=by
 unfold descPart
 refine wpS_bind (wpS_lift (wpAny_rule ⟨rfl,?_⟩))
 refine wpS_bind (OD hO h0 ht (by lia) h2 B G F fun m q g' eM B' G' Vo OC F'=>?_)
 have le:=F'.le
 dsimp only
 by_cases hq:q>0
 ·rw[if_pos hq]
  refine wpS_bind (wpS_reverse (GB hO h0 ht (by lia) OC (B'.setArr (mirror_perm _ _ _ _)) (G'.mirror B'.size (by lia)) (fun k hk dU=>?_) (F'.full (by lia)) h))
  rw[fV (by lia)];exact F'.tl k (by lia) dU
 ·rw[if_neg hq]
  obtain rfl:q=0:=by lia
  exact GB hO h0 ht (by lia) OC B' G' (fun k hk dU=>F'.tl k (by lia) dU) F'.LZ h
theorem Tc{st:SortSt}{g:Nat→Nat}{top:Nat}{Q:Option Nat→SortSt→Prop}(hO:κ.OneLt)(h0:KeysOf κ a₀)(ht:top≤a₀.size)(h1:1≤top)(B:SBase a₀ st)(G:Gh a₀ g (arrOf st))(T:Ed g 0 a₀.size)
  (h:∀m g' eM,SBase a₀ eM→Gh a₀ g' (arrOf eM)→Ed g' m a₀.size→1≤m→m≤top→A2 κ a₀ g' m→Q (some m) eM):wpS (model prog w) A E s (countRun' 0 top) Q st:=by
 rw[countRun0_eq]
 refine wpS_bind (LY hO h0 ht (zo 1) h1 B G (fun k hk dU=>T k (by lia) dU) (fun i j oW hj=>by lia) fun n Td Ni U hor=>?_)
 dsimp only
 have Tn:∀m,Ed g m a₀.size:=fun m k hk dU=>T k (by lia) dU
 by_cases Te:n=top
 ·rw[if_pos (by simpa using Te)]
  exact wpS_pure (h n g st B G (Tn n) Td Ni U)
 ·rw[if_neg (by simpa using Te)]
  have jW:=hor.resolve_left Te
  by_cases OE:n>1
  ·rw[if_pos OE]
   refine wpS_bind (wpS_ltKK hO B h0 (by lia) (by lia) ?_)
   rw[G.key (by lia),G.key (by lia)]
   cases hr:κ.blt (KK κ a₀ (g 0)) (KK κ a₀ (g (n - 1))) with
   |true=>exact wpS_pure (h n g st B G (Tn n) Td Ni U)
   |false =>
    simp only [Bool.false_eq_true,if_false]
    have all:∀k,k<n→KK κ a₀ (g k)=KK κ a₀ (g (n - 1)):=fun k hk=>by
     have a1:κ.kle (KK κ a₀ (g 0)) (KK κ a₀ (g k)):=by
      by_cases z:k=0
      ·rw[z];exact KeyOrd.kle_refl _
      ·exact (U 0 k (by lia) hk).kle
     have a2:κ.kle (KK κ a₀ (g k)) (KK κ a₀ (g (n - 1))):=by
      by_cases z:k=n - 1
      ·rw[z];exact KeyOrd.kle_refl _
      ·exact (U k (n - 1) (by lia) (by lia)).kle
     exact KeyOrd.kle_antisymm a2 (KeyOrd.kle_trans hr a1)
    refine wpS_bind (wpS_reverse (GC hO h0 ht (by lia) (B.setArr (mirror_perm _ _ _ _)) (G.mirror B.size (by lia)) ?_ h))
    refine .next (fun i j oW hj=>?_) (fun k hk dU=>by rw[fV (by lia)];exact T k (by lia) dU) (by lia) (by lia) ?_
    ·rw[ic (by lia),ic (by lia)]
     refine .inr ⟨(all _ (by lia)).trans (all _ (by lia)).symm,?_⟩
     rw[T _ (by lia) (by lia),T _ (by lia) (by lia)];lia
    ·rw[fV (by lia),ic (by lia),all (0+n - 1 - (n - 1)) (by lia)];exact jW
  ·rw[if_neg OE]
   obtain rfl:n=1:=by lia
   exact GC hO h0 ht (by lia) B G (.next (fun i j oW hj=>by lia) (Tn 1) (by lia) (by lia) jW) h
theorem Tf{st:SortSt}{g:Nat→Nat}{n ok:Nat}{Q:Bool→SortSt→Prop}(hO:κ.OneLt)(h0:KeysOf κ a₀)(hn:n≤a₀.size)(aH:ok≤n)(B:SBase a₀ st)(G:Gh a₀ g (arrOf st))(T:Ed g ok a₀.size)(U:A2 κ a₀ g ok)
  (h:∀g' eM,SBase a₀ eM→Gh a₀ g' (arrOf eM)→A2 κ a₀ g' n→Q true eM):wpS (model prog w) A E s (binarySort' 0 n ok) Q st:=by
 rw[binarySort'_eq]
 simp only [Nat.zero_add]
 refine wpS_bind (wpS_mono (wpS_forRange (I:=fun k c t=>c=(none,())∧∃g',SBase a₀ t∧Gh a₀ g' (arrOf t)∧Ed g' k a₀.size∧A2 κ a₀ g' (min k n)) (Q:=fun c t=>c=(none,())∧∃g',SBase a₀ t∧Gh a₀ g' (arrOf t)∧A2 κ a₀ g' n) ?_ ?_ ?_) ?_)
 ·rintro k c t hk1 dU ⟨rfl,g',B',G',T',V⟩
  rw[show min k n=k by lia] at V
  have hk:k<a₀.size:=by lia
  refine wpS_bind (wpS_mono (wpS_forRange (I:=fun x c t2=>t2=t∧∃l r,c=(none,l,r)∧l≤r∧r≤k∧r - l≤k - x∧(∀i,i<l→κ.kle (KK κ a₀ (g' i)) (KK κ a₀ (g' k)))∧(∀i,r≤i→i<k→κ.klt (KK κ a₀ (g' k)) (KK κ a₀ (g' i))))
   (Q:=fun c t2=>t2=t∧∃l r,c=(none,l,r)∧l≤k∧(∀i,i<l→κ.kle (KK κ a₀ (g' i)) (KK κ a₀ (g' k)))∧(∀i,l≤i→i<k→κ.klt (KK κ a₀ (g' k)) (KK κ a₀ (g' i)))) ?_ ?_ ?_) ?_)
  ·rintro x c t2 _ hxk ⟨rfl,l,r,rfl,Ee,Ya,hm,lo,hi⟩
   dsimp only
   by_cases hge:l≥r
   ·rw[if_pos hge]
    obtain rfl:l=r:=by lia
    exact wpS_pure ⟨rfl,l,l,rfl,Ya,lo,hi⟩
   ·rw[if_neg hge]
    refine wpS_bind (wpS_ltKK hO B' h0 hk (by lia) ?_)
    rw[G'.key hk,G'.key (by lia)]
    cases hl:κ.blt (KK κ a₀ (g' k)) (KK κ a₀ (g' ((l+r) / 2))) with
    |true =>
     refine wpS_pure ⟨rfl,l,(l+r) / 2,rfl,by lia,by lia,by lia,lo,fun i a b=>?_⟩
     by_cases z:i=(l+r) / 2
     ·rw[z];exact hl
     ·exact KeyOrd.klt_of_klt_of_kle hl (V _ _ (by lia) b).kle
    |false =>
     refine wpS_pure ⟨rfl,(l+r) / 2+1,r,rfl,by lia,by lia,by lia,fun i a=>?_,hi⟩
     by_cases z:i=(l+r) / 2
     ·rw[z];exact hl
     ·exact KeyOrd.kle_trans (V i ((l+r) / 2) (by lia) (by lia)).kle hl
  ·rintro c t2 ⟨rfl,l,r,rfl,Ee,Ya,hm,lo,hi⟩
   obtain rfl:l=r:=by lia
   exact⟨rfl,l,l,rfl,Ya,lo,hi⟩
  ·exact⟨rfl,0,k,rfl,by lia,by lia,by lia,fun i hi=>by lia,fun i a b=>by lia⟩
  ·rintro c t2 ⟨rfl,l,r,rfl,Yb,lo,hi⟩
   show wpS _ _ _ _ (do moveDown' k l;pure (ForInStep.yield (none,()))) _ _
   rw[moveDown'_eq]
   refine wpS_bind (wpS_modify (wpS_pure ⟨rfl,_,B'.setArr (bubble_perm _ _ _),G'.bubble B'.size Yb hk,fun x N1 F_=>?_,?_⟩))
   ·show J6 g' k l x=x
    unfold J6
    rw[if_neg (by lia),if_neg (by lia)]
    exact T' x (by lia) F_
   ·rw[show min (k+1) n=k+1 by lia]
    have lw:∀i,i<k→g' i<k:=fun i q=>G'.low T' (by lia) q
    have ek:=T' k (zo _) hk
    intro i j oW hj
    show Log κ a₀ (J6 g' k l i) (J6 g' k l j)
    unfold J6
    by_cases i1:i=l
    ·rw[if_pos i1,if_neg (by lia),if_pos (by lia)]
     exact .inl (hi _ (by lia) (by lia))
    ·rw[if_neg i1]
     by_cases j1:j=l
     ·rw[if_pos j1,if_neg (by lia)]
      have h1:=lo i (by lia)
      have h2:=lw i (by lia)
      rw[ek] at h1 ⊢
      exact LX h1 h2
     ·rw[if_neg j1]
      by_cases i2:l<i∧i≤k <;> by_cases j2:l<j∧j≤k
      ·rw[if_pos i2,if_pos j2];exact V _ _ (by lia) (by lia)
      ·lia
      ·rw[if_neg i2,if_pos j2];exact V _ _ (by lia) (by lia)
      ·rw[if_neg i2,if_neg j2];exact V _ _ (by lia) (by lia)
 ·rintro c t ⟨hc,g',B',G',T',V⟩
  refine⟨hc,g',B',G',?_⟩
  rwa [show min (max (max ok 1) n) n=n by lia] at V
 ·refine⟨rfl,g,B,G,fun k hk dU=>T k (by lia) dU,fun i j oW hj=>?_⟩
  exact U i j oW (by lia)
 ·rintro c t ⟨rfl,g',B',G',V⟩
  exact wpS_pure (h g' t B' G' V)
def OF(κ:KeyKind)(a₀:Array Keyed)(st:SortSt):Prop:=failedOf st=none∧pendingOf st=#[(0,a₀.size,0)]∧∃g,(arrOf st).size=a₀.size∧Gh a₀ g (arrOf st)∧A2 κ a₀ g a₀.size
theorem OG{st:SortSt}{Q:Unit→SortSt→Prop}(hO:κ.OneLt)(h0:KeysOf κ a₀)(B:SBase a₀ st)(e0:arrOf st=a₀)(h2:2≤a₀.size)(h64:a₀.size<64)
  (h:∀eM g,failedOf eM=none→(arrOf eM).size=a₀.size→Gh a₀ g (arrOf eM)→A2 κ a₀ g a₀.size→Q () eM):wpS (model prog w) A E s sortRuns' Q st:=by
 have G:Gh a₀ (fun k=>k) (arrOf st):=⟨fun k _=>by rw[e0],fun k hk=>hk,fun _ _ _ _ e=>e⟩
 have fin:∀(t:SortSt) (g:Nat→Nat),SBase a₀ t→Gh a₀ g (arrOf t)→A2 κ a₀ g a₀.size→OF κ a₀ (setPending t ((pendingOf t).push (0,a₀.size,0))):=fun t g B' G' U=>⟨B'.failed,by show (pendingOf t).push _=_;rw[B'.pend];rfl,g,B'.size,G',U⟩
 rw[sortRuns'_eq]
 refine wpS_bind (wpS_get ?_)
 dsimp only
 have hm:minRun' a₀.size a₀.size 0=a₀.size:=by
  obtain⟨f,hf⟩:∃f,a₀.size=f+1:=⟨a₀.size - 1,by lia⟩
  have:minRun' (f+1) a₀.size 0=a₀.size:=by rw[minRun'_succ,if_pos h64];rfl
  rwa [← hf] at this
 simp only [B.size,hm]
 refine wpS_bind (wpS_mono (wpS_forRange (I:=fun x c t=>(x=0∧c=(none,0)∧t=st)∨(1≤x∧c=(none,a₀.size)∧OF κ a₀ t)) (Q:=fun c t=>c=(none,a₀.size)∧OF κ a₀ t) ?_ ?_ (.inl ⟨rfl,rfl,rfl⟩)) ?_)
 ·rintro x c t _ hx (⟨rfl,rfl,rfl⟩|⟨N1,rfl,D⟩)
  ·dsimp only
   rw[if_neg (by lia)]
   simp only [Nat.sub_zero,Nat.min_self,Nat.zero_add]
   refine wpS_bind (Tc hO h0 (zo _) (by lia) B G (fun _ _ _=>rfl) fun m g' t2 B2 G2 T2 Vo OC U2=>?_)
   dsimp only
   by_cases jW:m<a₀.size
   ·rw[if_pos jW]
    refine wpS_bind (wpS_lift (wpAny_rule ⟨rfl,?_⟩))
    refine wpS_bind (Tf hO h0 (zo _) OC B2 G2 T2 U2 fun g3 t3 B3 G3 U3=>?_)
    simp only [Bool.not_true,Bool.false_eq_true,if_false]
    refine wpS_bind (wpS_get ?_)
    rw[show (pendingOf t3).back?=none by rw[B3.pend];rfl]
    dsimp only
    exact wpS_bind (wpS_modify (wpS_pure (.inr ⟨by lia,rfl,fin t3 g3 B3 G3 U3⟩)))
   ·rw[if_neg jW]
    obtain rfl:m=a₀.size:=by lia
    refine wpS_bind (wpS_get ?_)
    rw[show (pendingOf t2).back?=none by rw[B2.pend];rfl]
    dsimp only
    exact wpS_bind (wpS_modify (wpS_pure (.inr ⟨by lia,rfl,fin t2 g' B2 G2 U2⟩)))
  ·dsimp only
   rw[if_pos (zo _)]
   exact wpS_pure ⟨rfl,D⟩
 ·rintro c t (⟨hx,_,_⟩|⟨_,hc,D⟩)
  ·lia
  ·exact⟨hc,D⟩
 ·rintro c t ⟨rfl,D⟩
  dsimp only
  obtain⟨d1,d2,g,d3,d4,d5⟩:=D
  refine wpS_bind (wpS_mono (wpS_forRange (I:=fun _ c t2=>t2=t∧c=(none,())) (Q:=fun c t2=>t2=t∧c=(none,())) ?_ (fun _ _ z=>z) ⟨rfl,rfl⟩) ?_)
  ·rintro x c t2 _ _ ⟨rfl,rfl⟩
   refine wpS_bind (wpS_get ?_)
   rw[if_pos (by rw[d2];exact zo 1)]
   exact wpS_pure ⟨rfl,rfl⟩
  ·rintro c t2 ⟨rfl,rfl⟩
   exact wpS_pure (h _ g d1 d3 d4 d5)
end
abbrev J_(X:Cx)(qual:Str)(scope:Scope)(L f:Addr)(cv:Value):Env:=envX qual scope L f cv (clOf X.env.cells scope.names)
def Qp(X:Cx)(N:List Str)(qual:Str)(scope:Scope)(f:Addr)(cv:Value)(A:Around)(s:Shared)(H:Hp):Cx :=
 { X with A:=A.deeper (J_ X qual scope s.heap.objs.size f cv),N:=N,cT:=s,uB:=H,env:=J_ X qual scope s.heap.objs.size f cv,outer:=X.stack,stack:=J_ X qual scope s.heap.objs.size f cv::X.stack,ex:=[],fn:=fun _=>false,calm:=true,pn:=[],xe:=fun _ _=>False }
abbrev xk(X:Cx)(qual:Str)(params:Arguments)(body:Expr)(scope:Scope)(pm cv lN:Value):Obj :=
 { cls:=.type "function",data:=.func (kla_fn "<lambda>" qual params body scope (clOf X.env.cells scope.names) pm cv lN) }
section
variable{X:Cx}{pins:List (Addr×Obj)}{σ:St}{H:Hp}{s:Shared}{N:List Str}{src:List (Option Nat)}{scope:Scope}{params:Arguments}{body:Expr}{qual p:Str}{pm cv lN u:Value}{f:Addr}{A:Around}{v:V}{te:TE}{Q:VK}
theorem Ka(I:Inv X pins σ H s)(S:bM X N src scope)(Kb:N[0]?=some p)(hp:scope.names.lookup p=some .local)(h0:src[0]?=some none)(Jx:A.frames=some X.stack)(hh:A.handled=none)(r:RelV v u)
  (OH:h₁.Ns s.heap.objs.size fun x=>[(p,u)].reverse.lookup x) (old:∀b o,s.heap.get? b=some o→h₁.get? b=some o) :
  Inv (Qp X N qual scope f cv A s H) [] ((pick σ src).set 0 (some v)) H { s with heap:=h₁,toks:=tk }:=by
 have iH:∀x c,(clOf X.env.cells scope.names).lookup x=some c→X.env.cells.lookup x=some c:=qk X.env.cells scope.names [] (by intro x c h;simp at h)
 have Je:∀b:Addr,b∉(Qp X N qual scope f cv A s H).ex:=fun b z=>absurd (show b∈([]:List Addr) from z) (by simp)
 have AE:∀x,scope.names.lookup x=some .free→∃c,(clOf X.env.cells scope.names).lookup x=some c:=fun x hl=>by
  have hm:=zY hl
  obtain⟨c,Jm⟩:=I.ok.has x (S.AE _ hm rfl)
  exact⟨c,i0 X.env.cells scope.names [] x c (by intro x c h;simp at h) hm Jm⟩
 refine⟨⟨I.ok.mod,S.kind,rfl,rfl,zo _,fun x y c h1 h2=>I.ok.inj x y c (iH _ _ h1) (iH _ _ h2),fun x hk=>?_,fun x c h=>(nomatch h),fun _=>hh,Around.frames_deeper Jx,.inr ⟨rfl,rfl⟩,fun b z=>absurd z (Je b),I.bs,zL I.ok.Df I.sz,fun b _ _=>Je b,fun b z=>absurd z (Je b),I.stack,I.pG⟩,
  rfl,I.bare,Un.kept old,⟨_,OH,fun i x w e1 e2 e3=>?_⟩,fun x c e=>?_,I.aH.fresh (zo _),fun x c e=>I.dm x c (iH x c e),fun q hq=>absurd (show q∈([]:List (Addr×Obj)) from hq) (by simp),I.aH.kept old,?_⟩
 ·have hk:scope.names.lookup x=some .cell∨scope.names.lookup x=some .free:=hk
  rcases hk with hk|hk
  ·exact absurd rfl (S.gu _ (zY hk))
  ·exact AE x hk
 ·have e1:N[i]?=some x:=e1
  by_cases hi:i=0
  ·subst hi
   rw[Kb] at e1;cases e1
   have hl:0<(pick σ src).length:=by unfold pick;rw[zc];exact (zr.mp h0).1
   rw[List.getElem?_set_self hl] at e2
   cases e2
   exact⟨u,r,.inl ⟨hp,by simp [zJ]⟩⟩
  ·rw[List.getElem?_set_ne (Ne.symm hi)] at e2
   unfold pick at e2
   rw[zB] at e2
   cases es:src[i]? with
   |none=>rw[es] at e2;cases e2
   |some o =>
    rw[es] at e2
    cases o with
    |none=>cases e2
    |some j =>
     have e3:(σ[j]?).join=some w:=zS e2
     have e4:σ[j]?=some (some w):=by
      cases q:σ[j]? with
      |none=>rw[q] at e3;cases e3
      |some z=>rw[q] at e3;exact congrArg some e3
     obtain⟨a1,a2,a3⟩:=S.src i j x es e1
     obtain⟨m0,_,hl⟩:=I.loc
     obtain⟨u',r',l⟩:=hl j x w a1 e4 a3
     have hm:=zY a2
     have hk:=S.AE _ hm rfl
     rcases l with ⟨k,_⟩|⟨_,c,Jm,⟨o,ho,hd⟩⟩
     ·rcases hk with hk|hk <;> (rw[k] at hk;cases hk)
     ·exact⟨u',r',.inr ⟨.inr a2,c,i0 X.env.cells scope.names [] x c (by intro x c h;simp at h) hm Jm,o,old _ _ ho,hd⟩⟩
 ·obtain⟨w,o,ho,hd⟩:=I.cell x c (iH x c e)
  exact⟨w,o,old _ _ ho,hd⟩
 ·show ((pick σ src).set 0 (some v)).length=N.length
  unfold pick
  rw[List.length_set,zc,S.len]
theorem GF(I:Inv X pins σ H s)(S:bM X N src scope)(Kb:N[0]?=some p)(hp:scope.names.lookup p=some .local)(h0:src[0]?=some none)(Jx:A.frames=some X.stack)(hh:A.handled=none)(Th:A.depth<recursionLimit)(r:RelV v u)
  (ho:s.heap.get? f=some (xk X qual params body scope pm cv lN)) (rY:s.heap.CodeRec cv qual) (JF:scope.isCoroutine=false) (A3:scope.isGenerator=false)
  (hb:bindArgs (kla_fn "<lambda>" qual params body scope (clOf X.env.cells scope.names) pm cv lN) ⟨[u],[]⟩=pure [(p,u)])
  (he:PE (Qp X N qual scope f cv A s H) body te) (h:te ((pick σ src).set 0 (some v)) H Q) :
  codeAny (model X.prog X.w) A (.call (.ref f) ⟨[u],[]⟩) (fun q s'=>∃w,q=.ok (.ret w)∧CE X.stack X.prog X.w H s Q w s') s:=by
 refine PySem.W.kla_callFunE Th ho rfl JF A3 rfl rY ?_
 show wpAny _ _ (bindArgs (kla_fn "<lambda>" qual params body scope (clOf X.env.cells scope.names) pm cv lN) ⟨[u],[]⟩) _ _ _
 rw[hb]
 refine zg (wpAny_newFunctionEnv S.gu (fun x hx=>?_) (fun h₁ OH JA=>⟨I.nolimit.fresh _ JA,?_⟩) S.kind)
 ·rw[zi.mp hx];exact hp
 have old:∀b o,s.heap.get? b=some o→h₁.get? b=some o:=fun b o e=>JA.extBut b o (zy (zt e)) (zb _ e)
 show codeAny _ _ (.expr body (J_ X qual scope s.heap.objs.size f cv)) _ _
 refine PySem.W.kla_codeExpr (yh (he [] _ _ H Q (Ka I S Kb hp h0 Jx hh r OH old) h) (by rintro w s' ⟨x,H',J,rv,q⟩;exact⟨w,rfl,x,H',J.os,J.bare,J.base,J.aH,rv,q⟩) fun _ _ z=>z.elim)
end
@[reducible] def intK:KeyKind where
 α:=Int
 blt a b:=decide (a<b)
 irrefl a:=by simp
 trans a b c h1 h2:=by simp only [z0] at *;lia
 negTrans a b c h:=by simp only [z0] at *;lia
 total a b h1 h2:=by simp only [decide_eq_false_iff_not] at *;lia
 keyOf v:=match v with|.int x _=>some x|_=>none
 dflt:=0
theorem GG:intK.OneLt:=by
 intro prog w A E s x y a b Q ha hb h
 cases x <;> simp only [intK,reduceCtorEq,Option.some.injEq] at ha
 cases y <;> simp only [intK,reduceCtorEq,Option.some.injEq] at hb
 cases ha;cases hb
 exact oneLt_int h
structure Vq(κ:KeyKind)(b:Bool)(key:Nat→κ.α)(n:Nat)(g:Nat→Nat):Prop where
 lt:∀k,k<n→g k<n
 inj:∀i j,i<n→j<n→g i=g j→i=j
 ord:∀i j,i<j→j<n→(if b=true then κ.klt (key (g j)) (key (g i)) else κ.klt (key (g i)) (key (g j)))∨(key (g i)=key (g j)∧g i<g j)
def iO(κ:KeyKind)(us:List Value)(j:Nat):κ.α:=(κ.keyOf (us.getD j .none)).getD κ.dflt
theorem GH{us vs:List Value}(hl:us.length=vs.length){j:Nat}(hj:j<vs.length):(us.toArray.zip vs.toArray)[j]?=some (us.getD j .none,vs.getD j .none):=by
 have e:(us.zip vs)[j]?=some (us.getD j .none,vs.getD j .none):=List.getElem?_zip_eq_some.mpr ⟨by show us[j]?=some (us.getD j .none);rw[zH,zj (by lia)];rfl,by show vs[j]?=some (vs.getD j .none);rw[zH,zj hj];rfl⟩
 rw[← Array.getElem?_toList,ksk_zip,List.toList_toArray]
 exact e
theorem u3{κ:KeyKind}{us vs:List Value}(hl:us.length=vs.length){j:Nat}(hj:j<vs.length):KK κ (us.toArray.zip vs.toArray) j=iO κ us j:=by
 unfold KK iO
 rw[GH hl hj]
theorem xl{l m:List Value}{n:Nat}(h1:l.length=n)(h2:m.length=n)(h:∀k,k<n→l[k]?=m[k]?):l=m:=by
 apply List.ext_getElem?
 intro k
 by_cases hk:k<n
 ·exact h k hk
 ·rw[List.getElem?_eq_none (by lia),List.getElem?_eq_none (by lia)]
section
variable{prog:Program}{w:World}{A:Around}{E:Value→Shared→Prop}{s:Shared}{a kS:Addr}{b:Bool}{us vs:List Value}{e e1:Nat}{P:PySem.Fin→Shared→Prop}{κ:KeyKind}
theorem Cv{st:SortSt}{keys:Array Value}(hk:s.heap.get? kS=some (seqObj "list" keys e))(ha:s.heap.get? a=some (seqObj "list" #[] e1))(OI:kS≠a)(hz:keys.size<64)(N_:(arrOf st).size<64)(Yc:failedOf st=none)
  (h:∀h' c,(∀b o,b≠a→b≠kS→s.heap.get? b=some o→h'.get? b=some o)→h'.get? a=some (seqObj "list" (if b then ((arrOf st).map (·.2)).reverse else (arrOf st).map (·.2)) c)→P (.done (.ret .none)) { s with heap:=h' }) :
  wpAny (model prog w) A (ksk_tail a b e1 (.ref kS) st) P E s:=by
 have s1:=yo s.heap kS (Obj.mapSeq fun _=>(#[]:Array Value))
 have Yd:(s.heap.update kS (Obj.mapSeq fun _=>(#[]:Array Value))).get? a=some (seqObj "list" #[] e1):=(s1.2 a OI.symm).trans ha
 have Ef:∀o:Array Value,o=(if b then ((arrOf st).map (·.2)).reverse else (arrOf st).map (·.2))→o.size<64:=by
  rintro o rfl
  cases b with
  |false=>rw[if_neg zd,Array.size_map];exact N_
  |true=>rw[if_pos rfl,Array.size_reverse,Array.size_map];exact N_
 generalize ho:(if b then ((arrOf st).map (·.2)).reverse else (arrOf st).map (·.2))=out at h Ef
 have Ef:=Ef out rfl
 have s2:=yo (s.heap.update kS (Obj.mapSeq fun _=>(#[]:Array Value))) a (Obj.mapSeq fun _=>out)
 obtain⟨c2,Jg⟩:∃c2,((s.heap.update kS (Obj.mapSeq fun _=>(#[]:Array Value))).update a (Obj.mapSeq fun _=>out)).get? a=some (seqObj "list" out c2):=⟨_,get?_update_seq Yd fun _=>out⟩
 unfold ksk_tail
 try dsimp only
 refine za (listUpdate_at hk rfl ?_ (by rw[zT];lia) (ya _))
 refine za (wpAny_letGo ?_)
 refine za (seqEpoch_at Yd rfl ?_)
 rw[ho]
 refine za (listUpdate_at Yd rfl ?_ (ya _) (zL (yA Ef) (by rw[zT];lia)))
 rw[Yc]
 simp only [bne_self_eq_false,Bool.false_eq_true,if_false]
 exact zg (h _ c2 (fun b o h1 h2 q=>(s2.2 b h1).trans ((s1.2 b h2).trans q)) Jg)
theorem GI{xs:Array Keyed}{g:Nat→Nat}(hl:us.length=vs.length)(hs:xs.size=vs.length)
  (G:Gh (if b=true then (us.toArray.zip vs.toArray).reverse else us.toArray.zip vs.toArray) g xs) (U:A2 κ (if b=true then (us.toArray.zip vs.toArray).reverse else us.toArray.zip vs.toArray) g vs.length) :
  ∃g',Vq κ b (iO κ us) vs.length g'∧(if b then (xs.map (·.2)).reverse else xs.map (·.2)).toList=(List.range vs.length).map fun k=>vs.getD (g' k) .none:=by
 have Ad:(us.toArray.zip vs.toArray).size=vs.length:=by rw[Array.size_zip,zh,zh,hl,Nat.min_self]
 have zat:∀k,k<vs.length→(us.toArray.zip vs.toArray)[k]?=some (us.getD k .none,vs.getD k .none):=fun k hk=>GH hl hk
 cases b with
 |false =>
  rw[if_neg zd] at G U
  refine⟨g,⟨fun k hk=>by have:=G.lt k (by rw[Ad];exact hk);rwa [Ad] at this,fun i j hi hj=>G.inj i j (by rw[Ad];exact hi) (by rw[Ad];exact hj),fun i j oW hj=>?_⟩,?_⟩
  ·have h1:=G.lt i (by rw[Ad];lia)
   have h2:=G.lt j (by rw[Ad];lia)
   rw[Ad] at h1 h2
   have:=U i j oW hj
   unfold Log at this
   rw[u3 hl h1,u3 hl h2] at this
   rw[if_neg zd]
   exact this
  ·rw[if_neg zd]
   refine xl (n:=vs.length) (by rw[ye,Array.size_map,hs]) (by simp) fun k hk=>?_
   have h1:=G.lt k (by rw[Ad];lia)
   rw[Ad] at h1
   rw[Array.getElem?_toList,Array.getElem?_map,G.at_ k (by rw[Ad];exact hk),zat _ h1,zB,List.getElem?_range hk]
   rfl
 |true =>
  rw[if_pos rfl] at G U
  have sj:(us.toArray.zip vs.toArray).reverse.size=vs.length:=by rw[Array.size_reverse,Ad]
  have lt:∀k,k<vs.length→g k<vs.length:=fun k hk=>by have:=G.lt k (by rw[sj];exact hk);rwa [sj] at this
  have rat:∀k,k<vs.length→(us.toArray.zip vs.toArray).reverse[k]?=(us.toArray.zip vs.toArray)[vs.length - 1 - k]?:=fun k hk=>by
   rw[Array.getElem?_reverse (by rw[Ad];exact hk),Ad]
  refine⟨fun k=>vs.length - 1 - g (vs.length - 1 - k),⟨fun k hk=>by have:=lt (vs.length - 1 - k) (by lia);lia,fun i j hi hj e=>?_,fun i j oW hj=>?_⟩,?_⟩
  ·have h1:=lt (vs.length - 1 - i) (by lia)
   have h2:=lt (vs.length - 1 - j) (by lia)
   have:=G.inj (vs.length - 1 - i) (vs.length - 1 - j) (by rw[sj];lia) (by rw[sj];lia) (by lia)
   lia
  ·have h1:=lt (vs.length - 1 - i) (by lia)
   have h2:=lt (vs.length - 1 - j) (by lia)
   have:=U (vs.length - 1 - j) (vs.length - 1 - i) (by lia) (by lia)
   unfold Log at this
   have e1:KK κ (us.toArray.zip vs.toArray).reverse (g (vs.length - 1 - i))=iO κ us (vs.length - 1 - g (vs.length - 1 - i)):=(KK_congr (rat _ h1)).trans (u3 hl (by lia))
   have e2:KK κ (us.toArray.zip vs.toArray).reverse (g (vs.length - 1 - j))=iO κ us (vs.length - 1 - g (vs.length - 1 - j)):=(KK_congr (rat _ h2)).trans (u3 hl (by lia))
   rw[e1,e2] at this
   rw[if_pos rfl]
   rcases this with z|⟨z1,z2⟩
   ·exact .inl z
   ·exact .inr ⟨z1.symm,by lia⟩
  ·rw[if_pos rfl]
   refine xl (n:=vs.length) (by rw[ye,Array.size_reverse,Array.size_map,hs]) (by simp) fun k hk=>?_
   have h1:=lt (vs.length - 1 - k) (by lia)
   rw[Array.getElem?_toList,Array.getElem?_reverse (by rw[Array.size_map,hs];exact hk),Array.size_map,hs,Array.getElem?_map,G.at_ _ (by rw[sj];lia),rat _ h1,zat _ (by lia),zB,List.getElem?_range hk]
   rfl
theorem OJ(hO:κ.OneLt)(hk:s.heap.get? kS=some (seqObj "list" us.toArray e))(ha:s.heap.get? a=some (seqObj "list" #[] e1))(OI:kS≠a)(hl:us.length=vs.length)(h64:vs.length<64)(h0:∀u∈us,∃x,κ.keyOf u=some x)
  (Vr:∀nq nr rest,us=nq::nr::rest→keyKind' (nq::nr::rest).toArray=pure oneType')
  (h:∀h' c g out,(∀b o,b≠a→b≠kS→s.heap.get? b=some o→h'.get? b=some o)→h'.get? a=some (seqObj "list" out c)→Vq κ b (iO κ us) vs.length g→out.toList=(List.range vs.length).map (fun k=>vs.getD (g k) .none)→P (.done (.ret .none)) { s with heap:=h' }) :
  wpAny (model prog w) A (ksk_end a b vs.toArray e1 (.ref kS) us.toArray) P E s:=by
 have Ad:(us.toArray.zip vs.toArray).size=vs.length:=by rw[Array.size_zip,zh,zh,hl,Nat.min_self]
 have step:∀t:Sem PySem.Fin,wpAny (model prog w) A t P E s→wpAny (model prog w) A (if b=true then (do let _ ← rule "list.sort.reverse";t) else t) P E s:=by
  intro t ht
  split
  ·exact za (wpAny_rule ht)
  ·exact ht
 have hsz:(if b=true then (us.toArray.zip vs.toArray).reverse else us.toArray.zip vs.toArray).size=vs.length:=by
  cases b with
  |false=>exact Ad
  |true=>rw[if_pos rfl,Array.size_reverse,Ad]
 have keys:KeysOf κ (if b=true then (us.toArray.zip vs.toArray).reverse else us.toArray.zip vs.toArray):=fun p hp=>by
  have hp:p∈us.zip vs:=by
   have e2:(us.toArray.zip vs.toArray).toList=us.zip vs:=by rw[ksk_zip]
   cases b with
   |false=>rw[if_neg zd,e2] at hp;exact hp
   |true=>rw[if_pos rfl,Array.toList_reverse,e2] at hp;exact List.mem_reverse.mp hp
  obtain⟨x,y⟩:=p
  exact h0 _ (List.of_mem_zip hp).1
 unfold ksk_end
 try dsimp only
 refine step _ ?_
 by_cases h2:vs.toArray.size<2
 ·rw[if_pos h2,if_pos h2]
  refine za (zg ?_)
  rw[StateT.run_pure]
  refine za (zg ?_)
  try dsimp only
  rw[zh] at h2
  refine Cv (st:=SortSt.mk' general' (if b=true then (us.toArray.zip vs.toArray).reverse else us.toArray.zip vs.toArray) #[] 7 none) hk ha OI (by rw[zh];lia) (by show (if b=true then (us.toArray.zip vs.toArray).reverse else us.toArray.zip vs.toArray).size<64;lia) rfl fun h' c k1 k2=>?_
  obtain⟨g,g1,g2⟩:=GI (κ:=κ) (b:=b) (xs:=if b=true then (us.toArray.zip vs.toArray).reverse else us.toArray.zip vs.toArray) (g:=fun k=>k) hl hsz ⟨fun _ _=>rfl,fun _ hk=>hk,fun _ _ _ _ e=>e⟩ (fun i j oW hj=>by lia)
  exact h h' c g _ k1 k2 g1 g2
 ·rw[if_neg h2,if_neg h2]
  rw[zh] at h2
  obtain⟨nq,nr,rest,eu⟩:∃nq nr rest,us=nq::nr::rest:=by
   match us,hl with
   |[],hl=>simp at hl;lia
   |[_],hl=>simp at hl;lia
   |nq::nr::rest,_=>exact⟨nq,nr,rest,rfl⟩
  have ek:keyKind' us.toArray=pure oneType':=by rw[eu];exact Vr _ _ _ eu
  rw[ek]
  refine za (zg ?_)
  refine za (yh (OG (κ:=κ) hO (a₀:=if b=true then (us.toArray.zip vs.toArray).reverse else us.toArray.zip vs.toArray) (st:=SortSt.mk' oneType' (if b=true then (us.toArray.zip vs.toArray).reverse else us.toArray.zip vs.toArray) #[] 7 none)
   (Q:=fun _ eM=>failedOf eM=none∧(arrOf eM).size=vs.length∧∃g,Gh (if b=true then (us.toArray.zip vs.toArray).reverse else us.toArray.zip vs.toArray) g (arrOf eM)∧A2 κ (if b=true then (us.toArray.zip vs.toArray).reverse else us.toArray.zip vs.toArray) g vs.length)
   keys ⟨Array.Perm.refl _,rfl,rfl,rfl⟩ rfl (by lia) (by lia) fun eM g q1 q2 q3 q4=>⟨q1,q2.trans hsz,g,q3,by rw[hsz] at q4;exact q4⟩) ?_ fun _ _ e=>e)
  rintro⟨⟨⟩,eM⟩ s' ⟨rfl,hf,Ye,g,G,U⟩
  try dsimp only
  have Ye:(arrOf eM).size=vs.length:=Ye
  refine Cv hk ha OI (by rw[zh];lia) (by lia) hf fun h' c k1 k2=>?_
  obtain⟨g',g1,g2⟩:=GI (κ:=κ) hl Ye G U
  exact h h' c g' _ k1 k2 g1 g2
end
structure L5(X:Cx)(pins:List (Addr×Obj))(b:Addr):Prop where
 loc:b≠X.env.locals
 fs:b∉X.fs
 cell:∀x c,X.env.cells.lookup x=some c→c≠b
 pin:∀p∈X.pn++pins,p.1≠b
 new:X.cT.heap.objs.size≤b
section
variable{X:Cx}{pins:List (Addr×Obj)}{σ:St}{H:Hp}{s:Shared}
theorem Inv.Vs(I:Inv X pins σ H s)(h:s.heap.objs.size≤b):L5 X pins b :=
 ⟨yj (zk I.lt h),I.QR h,fun x c e=>by obtain⟨v,q⟩:=I.cell x c e;exact zy (zk q.lt h),fun p hp=>zy (zk (zt (I.pin p hp).1) h),zL I.sz h⟩
theorem Inv.Kc(I:Inv X pins σ H s)(kp:∀b o,b≠a→b≠k→s.heap.get? b=some o→h'.get? b=some o)(ha:H a=none)(hk:H k=none)(Aa:L5 X pins a)(Ak:L5 X pins k):Inv X pins σ H { s with heap:=h',toks:=t' }:=by
 have MJ:∀b u,H b=some u→b≠a∧b≠k:=fun b u e=>⟨fun z=>(by rw[z,ha] at e;cases e),fun z=>(by rw[z,hk] at e;cases e)⟩
 refine I.step (g':=s.gens) (d':=s.drawn) (ch:=[a,k]) (fun b hb=>?_) (fun b o _ _ hc e _=>kp b o (fun z=>hc (by simp [z])) (fun z=>hc (by simp [z])) e) (fun b o _ _ hc e _=>⟨o.slots,kp b o (fun z=>hc (by simp [z])) (fun z=>hc (by simp [z])) e⟩) (fun _ _ _ _ n=>n)
  (fun b o hc e=>⟨o,kp b o (fun z=>hc (by simp [z])) (fun z=>hc (by simp [z])) e⟩) (fun _ _ e=>e) (fun _ _ _ e=>e) (fun b ps e=>⟨#[],by rw[e];simp⟩) (fun m hm=>?_) (fun b u e=>?_) I.bare
 ·simp only [ze,zm,or_false] at hb
  rcases hb with rfl|rfl
  ·exact⟨.inr Aa.new,Aa.loc,Aa.cell,Aa.pin⟩
  ·exact⟨.inr Ak.new,Ak.loc,Ak.cell,Ak.pin⟩
 ·obtain⟨o,es,ep,ho,r⟩:=hm
  exact⟨o,es,ep,kp _ o (Ne.symm Aa.loc) (Ne.symm Ak.loc) ho,r⟩
 ·refine (I.aH b u e).lO (fun c v hc q=>?_) (fun _ q=>q) fun _ _ q=>q
  rcases hc with z|z
  ·rw[z] at q ⊢;exact kp b v (MJ b u e).1 (MJ b u e).2 q
  ·exact kp c v (MJ c _ z).1 (MJ c _ z).2 q
theorem Inv.Tj(I:Inv X pins σ H s)(ha:H a=none)(A:L5 X pins a)(new:aV X.prog X.w (upd H a o) s.heap a o):Inv X pins σ (upd H a o) s:=by
 refine I.step (h':=s.heap) (g':=s.gens) (d':=s.drawn) (t':=s.toks) (ch:=[a]) (fun b hb=>?_) (fun b o _ _ hc e _=>e) (fun b o _ _ hc e _=>⟨o.slots,e⟩) (fun b u hc e n=>?_) (fun b o hc e=>⟨o,e⟩) (fun b xs e=>?_) (fun b u v e=>?_) (fun b ps e=>?_) (fun m hm=>hm) (fun b u e=>?_) I.bare
 ·rw[zi.mp hb];exact⟨.inr A.new,A.loc,A.cell,A.pin⟩
 ·rw[ao (fun z=>hc (by simp [z]))];exact n
 ·rw[ao (ar e ha)];exact e
 ·rw[ao (ar e ha)];exact e
 ·exact⟨#[],by rw[ao (ar e ha),e];simp⟩
 ·by_cases hb:b=a
  ·subst hb;rw[aB] at e;cases e;exact new
  ·rw[ao hb] at e
   exact (I.aH b u e).lO (fun c v _ q=>q) (fun c q=>by rw[ao (ar q ha)];exact q) fun c xs q=>by rw[ao (ar q ha)];exact q
end
def GJ(X:Cx)(pins:List (Addr×Obj))(σ:St)(A:Around)(f:Addr)(xs:List V)(W:Nat→List V→Hp→Prop):Prop :=
 ∀i x u ks s' H' more,Inv X (pins++more) σ H' s'→W i ks H'→xs[i]?=some x→RelV x u→codeAny (model X.prog X.w) A (.call (.ref f) ⟨[u],[]⟩) (fun q Ax=>∃w,q=.ok (.ret w)∧CE X.stack X.prog X.w H' s' (fun k H''=>W (i+1) (ks++[k]) H'') w Ax) s'
structure L6(κ:KeyKind)(us:List Value):Prop where
 all:∀u∈us,∃x,κ.keyOf u=some x
 kind:∀nq nr rest,us=nq::nr::rest→keyKind' (nq::nr::rest).toArray=pure oneType'
section
variable{X:Cx}{pins:List (Addr×Obj)}{σ:St}{H:Hp}{s:Shared}{A:Around}{E:Value→Shared→Prop}{xs:List V}{vs:List Value}{f:Addr}{b:Bool}{κ:KeyKind}{W:Nat→List V→Hp→Prop}
theorem Eg(hO:κ.OneLt)(I:Inv X pins σ H s)(ha:s.heap.get? a=some (seqObj "list" #[] e1))(hk:s.heap.get? kS=some (seqObj "list" #[] 0))(OI:kS≠a)(na:H a=none)(nk:H kS=none)(Aa:L5 X pins a)(Ak:L5 X pins kS)
  (hv:Vals xs vs) (h64:vs.length<64) (T:GJ X pins σ A f xs W) (w0:W 0 [] H) (G:∀ks us H',W vs.length ks H'→Vals ks us→ks.length=vs.length→L6 κ us)
  (h:∀s' H' ks us c g out,Inv X pins σ H' s'→H' a=none→s'.heap.get? a=some (seqObj "list" out c)→W vs.length ks H'→Vals ks us→ks.length=vs.length→Vq κ b (iO κ us) vs.length g→out.toList=(List.range vs.length).map (fun k=>vs.getD (g k) .none)→P (.done (.ret .none)) s') :
  wpAny (model X.prog X.w) A (ksk_rest a (.ref f) b vs.toArray e1 (.ref kS)) P E s:=by
 have nc:∀(k:Array Value) (n:Nat) (v:Option Value),(seqObj "list" k n).data≠.cell v:=fun _ _ _ z=>nomatch z
 unfold ksk_rest
 refine za (wpAny_rule ?_)
 rw[List.forIn_toArray]
 refine za (ksk_fold (fun i s'=>∃ks kA e H',Inv X pins σ H' s'∧W i ks H'∧Vals ks kA.toList∧ks.length=i∧H' a=none∧H' kS=none∧s'.heap.get? a=some (seqObj "list" #[] e1)∧s'.heap.get? kS=some (seqObj "list" kA e)) vs 0 s ⟨[],#[],0,H,I,w0,.nil,rfl,na,nk,ha,hk⟩ ?_ ?_)
 ·rintro j x s' hx ⟨ks,kA,e,H',I',w',v',l',Vt,Yf,Yg,Jn⟩
  simp only [Nat.zero_add] at l' w' ⊢
  have hj:j<vs.length:=(zr.mp hx).1
  have hl:xs.length=vs.length:=hv.length
  obtain⟨y,hy⟩:∃y,xs[j]?=some y:=⟨_,zj (by lia)⟩
  obtain⟨u,hu,ru⟩:=hv.get hy
  rw[hx] at hu;cases hu
  have Ip:Inv X (pins++[(a,seqObj "list" #[] e1),(kS,seqObj "list" kA e)]) σ H' s':=by
   refine⟨I'.ok,I'.os,I'.bare,I'.base,I'.loc,I'.cell,I'.free,I'.dm,fun p hp=>?_,I'.aH,I'.len⟩
   rcases zC.mp hp with hp|hp
   ·exact I'.pin p (zU _ hp)
   ·rcases zC.mp hp with hp|hp
    ·exact I'.pin p (zA _ hp)
    ·simp only [ze,zm,or_false] at hp
     rcases hp with rfl|rfl
     ·exact⟨Yg,Vt,Aa.loc,Aa.fs,nc _ _⟩
     ·exact⟨Jn,Yf,Ak.loc,Ak.fs,nc _ _⟩
  have hz:kA.size=j:=by
   have h1:ks.length=kA.toList.length:=v'.length
   have h2:kA.toList.length=kA.size:=ye
   lia
  refine za (wpAny_attempt (wpAny_call (yH (T j y x ks s' H' _ Ip w' hy ru) fun r s2 hq=>?_)))
  obtain⟨w,rfl,ce⟩:=hq
  obtain⟨k,H2,I2,rk,w2⟩:=Ip.after ce
  dsimp only
  have pa:=I2.pin (a,seqObj "list" #[] e1) (zA _ (zA _ (by simp)))
  have pk:=I2.pin (kS,seqObj "list" kA e) (zA _ (zA _ (by simp)))
  have I3:Inv X pins σ H2 s2:=⟨I2.ok,I2.os,I2.bare,I2.base,I2.loc,I2.cell,I2.free,I2.dm,fun p hp=>I2.pin p (by rcases zC.mp hp with z|z;exact zU _ z;exact zA _ (zU _ z)),I2.aH,I2.len⟩
  have s1:=yo s2.heap kS (Obj.mapSeq (·.push w))
  obtain⟨c2,Jg⟩:∃c2,(s2.heap.update kS (Obj.mapSeq (·.push w))).get? kS=some (seqObj "list" (kA.push w) c2):=⟨_,get?_update_seq pk.1 (·.push w)⟩
  refine za (listUpdate_at pk.1 rfl ?_ (by rw[zT];lia) (zL (Nat.le_of_eq (Array.size_push ..)) (by rw[zT];lia)))
  refine zg ⟨rfl,ks++[k],kA.push w,c2,H2,I3.turned (t':=s2.toks) (it:=kS) (fun b o hb q=>(s1.2 b hb).trans q) pk.2.1 Ak.loc (.inr Ak.new) Ak.cell Ak.pin,w2,?_,by simp [l'],pa.2.1,pk.2.1,(s1.2 a OI.symm).trans pa.1,Jg⟩
  rw[show (kA.push w).toList=kA.toList++[w] by simp]
  exact v'.append (.cons rk .nil)
 ·rintro s' ⟨ks,kA,e,H',I',w',v',l',Vt,Yf,Yg,Jn⟩
  simp only [Nat.zero_add] at l' w'
  refine za (listItems_at Jn rfl ?_)
  have eA:kA=kA.toList.toArray:=by simp
  have good:=G ks kA.toList H' w' v' l'
  have hl:kA.toList.length=vs.length:=by
   have h1:ks.length=kA.toList.length:=v'.length
   lia
  rw[eA] at Jn
  show wpAny _ _ (ksk_end a b vs.toArray e1 (.ref kS) kA) _ _ _
  rw[eA]
  refine OJ (κ:=κ) hO Jn Yg OI hl h64 good.all good.kind fun h' c g out k1 k2 k3 k4=>?_
  exact h _ H' ks kA.toList c g out (I'.Kc (t':=s'.toks) k1 Vt Yf Aa Ak) Vt k2 w' v' l' k3 k4
theorem uh(hO:κ.OneLt)(I:Inv X pins σ H s)(hl:iW X.K H l xs)(h64:xs.length<64)(Vu:argsOk "sorted" ⟨[.ref l],kw⟩)(Vv:∀x,argsOk "list.sort" ⟨[.ref x],kw⟩)(ht:∀x,Builtin.«list.sort» ⟨[.ref x],kw⟩=ksk_tree x (.ref f) b)
  (T:GJ X pins σ A.in1.in1 f xs W) (w0:W 0 [] H) (G:∀ks us H',W xs.length ks H'→Vals ks us→ks.length=xs.length→L6 κ us)
  (h:∀H' ks us g D,W xs.length ks H'→Vals ks us→ks.length=xs.length→Vq κ b (iO κ us) xs.length g→H' D=none→Q (.ref D) (upd H' D (.lst ((List.range xs.length).map fun k=>xs.getD (g k) .aw)))) :
  wpAny (model X.prog X.w) A (call (.builtin "sorted") [.ref l] kw) (EP X pins σ Q) E s:=by
 obtain⟨vs,hv,pl,_⟩:=I.list hl
 have Qq:xs.length=vs.length:=hv.length
 rw[Qq] at h64 G h
 refine call_function_entry_kw kind_sorted plain_sorted entry_sorted Vu ?_
 unfold Builtin.«sorted»
 refine za (m:=checkCount "sorted" 1 1 _) (zg ?_)
 refine za (collect_list pl.isList ?_ (by rw[zT];lia))
 refine za (wpAny_newList ?_ (by rw[zT];lia))
 have hsz:((s.heap.push (seqObj "list" #[] 0)).update s.heap.objs.size (Obj.mapSeq (·++vs.toArray))).objs.size=s.heap.objs.size+1:=by rw[Heap.size_update,size_push']
 have E9:(((s.heap.push (seqObj "list" #[] 0)).update s.heap.objs.size (Obj.mapSeq (·++vs.toArray))).push (seqObj "list" vs.toArray 0)).get? (s.heap.objs.size+1)=some (seqObj "list" vs.toArray 0):=by
  rw[← hsz];exact zq _ rfl
 have keep:∀b o,s.heap.get? b=some o→(((s.heap.push (seqObj "list" #[] 0)).update s.heap.objs.size (Obj.mapSeq (·++vs.toArray))).push (seqObj "list" vs.toArray 0)).get? b=some o:=fun b o q=>by
  have jW:b<s.heap.objs.size:=zt q
  rw[Heap.get?_push_ne _ _ _ (by rw[hsz];exact zy (Nat.lt_succ_of_lt jW)),Heap.get?_update_ne _ _ _ _ (zy jW),Heap.get?_push_ne _ _ _ (zy jW)]
  exact q
 show wpAny _ _ _ _ _ { s with heap:=((s.heap.push (seqObj "list" #[] 0)).update s.heap.objs.size (Obj.mapSeq (·++vs.toArray))).push (seqObj "list" vs.toArray 0) }
 rw[hsz]
 generalize hg:((s.heap.push (seqObj "list" #[] 0)).update s.heap.objs.size (Obj.mapSeq (·++vs.toArray))).push (seqObj "list" vs.toArray 0)=h1 at E9 keep ⊢
 have I1:Inv X pins σ H { s with heap:=h1 }:=I.kept (t':=s.toks) keep
 have Aa:L5 X pins (s.heap.objs.size+1):=I.Vs (yI _)
 have na:H (s.heap.objs.size+1)=none:=I.aH.fresh (yI _)
 generalize s.heap.objs.size+1=a at E9 Aa na ⊢
 refine za (yt (wpAny_call_entry_kw slot_list_sort ⟨_,E9,rfl⟩ entry_list_sort ?_ (Vv _)))
 show wpAny (model X.prog X.w) A.in1.in1 (Builtin.«list.sort» ⟨[.ref a],kw⟩) _ _ _
 rw[ht a]
 have s1:=yo h1 a (Obj.mapSeq fun _=>(#[]:Array Value))
 obtain⟨e1,Iw⟩:∃e1,(h1.update a (Obj.mapSeq fun _=>(#[]:Array Value))).get? a=some (seqObj "list" #[] e1):=⟨_,get?_update_seq E9 fun _=>#[]⟩
 have I2:Inv X pins σ H { s with heap:=h1.update a (Obj.mapSeq fun _=>(#[]:Array Value)) }:=Inv.turned (s:={ s with heap:=h1 }) (h':=h1.update a (Obj.mapSeq fun _=>(#[]:Array Value))) (t':=s.toks) (it:=a) I1 (fun b o hb q=>(s1.2 b hb).trans q) na Aa.loc (.inr Aa.new) Aa.cell Aa.pin
 unfold ksk_tree
 refine za (listItems_at E9 rfl ?_)
 refine za (listUpdate_at E9 rfl ?_ (by rw[zh,zT];lia) (ya _))
 refine za (seqEpoch_at Iw rfl ?_)
 refine za (wpAny_newTuple ?_ (by show vs.length≤_;rw[zT];lia))
 refine za (wpAny_newList ?_ (ya _))
 refine yt ?_
 generalize h1.update a (Obj.mapSeq fun _=>(#[]:Array Value))=h2 at Iw I2 ⊢
 have k3:∀b u,h2.get? b=some u→((h2.push (seqObj "tuple" vs.toArray 0)).push (seqObj "list" #[] 0)).get? b=some u:=fun b u q=>zb _ (zb _ q)
 have I3:Inv X pins σ H { s with heap:=(h2.push (seqObj "tuple" vs.toArray 0)).push (seqObj "list" #[] 0) }:=I2.kept (t':=s.toks) k3
 have Ae:h2.objs.size≤(h2.push (seqObj "tuple" vs.toArray 0)).objs.size:=by rw[size_push'];exact yI _
 refine Eg (s:={ s with heap:=(h2.push (seqObj "tuple" vs.toArray 0)).push (seqObj "list" #[] 0) }) (kS:=(h2.push (seqObj "tuple" vs.toArray 0)).objs.size) hO I3 (k3 _ _ Iw) (zq _ rfl) (yj (zk (zt Iw) Ae)) na (I2.aH.fresh Ae) Aa (I2.Vs Ae) hv h64 T w0 G fun s' H' ks us c g out J n1 o1 w1 v1 l1 q1 q2=>⟨.none,rfl,?_⟩
 refine zg ⟨_,rfl,.ref a,_,J.Tj (o:=.lst ((List.range vs.length).map fun k=>xs.getD (g k) .aw)) n1 Aa ⟨?_,out.toList,c,?_,?_⟩,rfl,h H' ks us g a w1 v1 l1 q1 n1⟩
 ·rw[zc,List.length_range,zT];lia
 ·rw[q2]
  have:∀(ns:List Nat),(∀k∈ns,g k<vs.length)→Vals (ns.map fun k=>xs.getD (g k) .aw) (ns.map fun k=>vs.getD (g k) .none):=fun ns=>by
   induction ns with
   |nil=>exact fun _=>.nil
   |cons k ns ih =>
    intro hk
    have Yh:=hk k zx
    obtain⟨y,hy⟩:∃y,xs[g k]?=some y:=⟨_,zj (by lia)⟩
    obtain⟨u,hu,ru⟩:=hv.get hy
    refine .cons ?_ (ih fun k dU=>hk k (zp _ dU))
    show RelV (xs.getD (g k) .aw) (vs.getD (g k) .none)
    rw[zH,hy,zH,hu]
    exact ru
  exact this _ fun k hk=>q1.lt k (zW.mp hk)
 ·rw[o1]
end
def Bm(mg:Str→Option Value)(base:Heap):Prop:=∃bm o,mg "__builtins__" = some (.ref bm)∧bm≠builtinsNs∧base.get? bm=some o∧o.cls=.type "module" ∧ o.dict=some builtinsNs∧o.data=.plain
structure Yi(K:Frag)(mg:Str→Option Value)(base:Heap)(c P:Addr):Prop where
 hd:codeHdIn K c P=true
 bm:Bm mg base
theorem A4{pos p2:Pos}{c cv:Value}(l:List Value)(h:TriplesOk l)(e:codeAmong pos (l++[rawInt p2.line,rawInt p2.col,c])=some cv):codeAmong pos l=some cv∨cv=c:=by
 fun_induction TriplesOk l with
 |case1 =>
  simp only [List.nil_append,rawInt,codeAmong] at e
  split at e
  ·cases e;exact .inr rfl
  ·cases e
 |case2 a t b u x rest ih =>
  simp only [List.cons_append,codeAmong] at e ⊢
  split at e
  ·rename_i hc;rw[if_pos hc];exact .inl e
  ·rename_i hc;rw[if_neg hc];exact ih h e
 |case3 l h1 h2=>exact h.elim
section
variable{X:Cx}{pins:List (Addr×Obj)}{σ:St}{H:Hp}{s:Shared}
theorem Inv.tab{h':Heap}{tk:Nat}{P c:Addr}{ps Qr:Array Value}{oc fo:Obj}(I:Inv X pins σ H s)(hP:H P=some (.pF ps))(hx:Heap.ExtBut P s.heap h')(h1:s.heap.objs.size≤c)(h2:c<h'.objs.size)(hc:h'.get? c=some oc)(hp:h'.get? P=some (tabObj (ps++Qr))) :
  Inv X pins σ (upd (upd H P (.pF (ps++Qr))) c (.kN oc (.own 0))) { s with heap:=h'.push fo,toks:=tk }:=by
 have hcP:c≠P:=fun z=>absurd (zk (I.aH.lt hP) (z ▸ h1)) (yr _)
 have nc:H c=none:=I.aH.fresh h1
 have other:∀b,b≠P→b≠c→upd (upd H P (.pF (ps++Qr))) c (.kN oc (.own 0)) b=H b:=fun b z1 z2=>by rw[ao z2,ao z1]
 have nP:∀b o,H b=some o→(∀q,o≠.pF q)→b≠P:=fun b o e z q=>by rw[q,hP] at e;cases e;exact z _ rfl
 have Yj:∀b,H b=none→b≠P:=fun b e q=>by rw[q,hP] at e;cases e
 have lt:∀b o,s.heap.get? b=some o→b≠c:=fun b o e=>zy (zk (zt e) h1)
 refine I.un (h':=h'.push fo) ⟨fun b o e n _ _=>zb _ (hx b o (Yj b n) e),fun b o e n _ _=>⟨o.slots,zb _ (hx b o (Yj b n) e)⟩,fun b o e n _=>by rw[other b (Yj b n) (lt b o e)];exact n,fun b o e _=>?_,fun b xs e=>by rw[other b (nP b _ e fun _=>nofun) (ar e nc)];exact e,fun b o u e=>by rw[other b (nP b _ e fun _=>nofun) (ar e nc)];exact e,fun b q e=>?_⟩ fun b u e=>?_
 ·by_cases hb:b=P
  ·rw[hb];exact⟨_,zb _ hp⟩
  ·exact⟨o,zb _ (hx b o hb e)⟩
 ·by_cases hb:b=P
  ·subst hb
   rw[hP] at e;cases e
   exact⟨Qr,by rw[ao (Ne.symm hcP),aB]⟩
  ·exact⟨#[],by rw[other b hb (ar e nc),e];simp⟩
 ·by_cases Qs:b=c
  ·subst Qs
   rw[aB] at e;cases e
   exact⟨zb _ hc,_,zb _ hc⟩
  ·rw[ao Qs] at e
   by_cases hb:b=P
   ·subst hb
    rw[aB] at e;cases e
    exact zb _ hp
   ·rw[ao hb] at e
    refine (I.aH b u e).lO (fun d v hd q=>?_) (fun d q=>by rw[other d (nP d _ q fun _=>nofun) (ar q nc)];exact q) fun d xs q=>by rw[other d (nP d _ q fun _=>nofun) (ar q nc)];exact q
    rcases hd with rfl|hd
    ·exact zb _ (hx d v hb q)
    ·exact zb _ (hx d v (nP d _ hd fun _=>nofun) q)
theorem Inv.Cw(I:Inv X pins σ H s)(ho:s.heap.get? f=some o)(hn:H f=none)(A:L5 X pins f)(d:∀v,o.data≠.cell v):Inv X (pins++[(f,o)]) σ H s:=by
 refine⟨I.ok,I.os,I.bare,I.base,I.loc,I.cell,I.free,I.dm,fun p hp=>?_,I.aH,I.len⟩
 rcases zC.mp hp with hp|hp
 ·exact I.pin p (zU _ hp)
 ·rcases zC.mp hp with hp|hp
  ·exact I.pin p (zA _ hp)
  ·rw[zi.mp hp];exact⟨ho,hn,A.loc,A.fs,d⟩
structure Tp(X:Cx)(pins:List (Addr×Obj))(σ:St)(H H':Hp)(P:Addr)(q:Str)(params:Arguments)(body:Expr)(scope:Scope)(u:Value)(s':Shared)(f:Addr)(pm cv lN:Value):Prop where
 u:u=.ref f
 inv:Inv X (pins++[(f,xk X q params body scope pm cv lN)]) σ H' s'
 code:∃c o vs t,cv=.ref c∧H' c=some (.kN o (.own 0))∧o.data=.fields vs∧vs[1]?=some (.str q t)
 same:∀b,H' b=H b∨(b=P∧∃ps,H' b=some (.pF ps)∧Co H' q ps)∨(H b=none∧∃o,H' b=some (.kN o (.own 0)))
theorem xm{M:Model}{A:Around}{E:Value→Shared→Prop}{N:List Str}{src:List (Option Nat)}{scope:Scope}{params:Arguments}{body:Expr}{pos:Pos}{c P:Addr}{q:Str}{ps:Array Value}{Q:Value→Shared→Prop}(I:Inv X pins σ H s)(S:bM X N src scope)(oG:X.env.code=.ref c)(mk:Yi X.K X.mg X.base c P)
  (hP:H P=some (.pF ps)) (ok:Co H q ps) (hq:X.env.qual ++ "<lambda>" = q) (GK:defaultsOf params X.env=([],[]))
  (h:∀u s' H' f pm cv lN,Tp X pins σ H H' P q params body scope u s' f pm cv lN→Q u s'):wpAny M A (eval (.Lambda params body scope pos) X.env) Q E s:=by
 have Cf:closureFor scope X.env=pure (clOf X.env.cells scope.names):=gr fun y hy hf=>I.ok.has y.1 (S.AE y hy hf)
 have Vx:s.heap.get? P=some (tabObj ps):=I.aH P _ hP
 have hg:s.heap.Ns mainGlobals X.mg:=I.mod.glob.keeps I.bk
 have hC:=codeHd_of_K I.lL mk.hd
 obtain⟨bm,ob,b1,b2,b3,b4,b5,b6⟩:=mk.bm
 have Vy:s.heap.get? bm=some ob:=I.bk _ _ b3
 have hgP:mainGlobals≠P:=fun z=>by
  obtain⟨o,es,ep,e,d,_⟩:=id hg
  rw[z,Vx] at e;cases e;cases d
 have hbG:bm≠mainGlobals:=fun z=>by
  obtain⟨o,es,ep,e,d,_⟩:=id hg
  rw[← z,Vy] at e;cases e;rw[b6] at d;cases d
 have hbP:bm≠P:=fun z=>by rw[z,Vx] at Vy;cases Vy;cases b4
 have hB:s.heap.BuiltinsAt X.mg P:=⟨bm,ob,b1,b2,hbG,hbP,Vy,b4,b5,b6⟩
 have hqs:H P≠none:=by rw[hP];nofun
 refine PySem.W.kla_eval GK ?_
 rw[hq]
 cases hf:codeAmong pos ps.toList with
 |none =>
  refine PySem.W.kla_makeFunction Cf I.ok.glob hg oG hC Vx ok.1 hf hgP hB fun c' lN h' tk hx h1 h2 hr hp=>?_
  obtain⟨c2,oc,vs,t,e2,US,hd,hv⟩:=hr
  cases e2
  have J:=I.tab (tk:=tk) (fo:=xk X q params body scope ((X.mg "__name__").getD .none) (.ref c') lN) hP hx h1 h2 US hp
  have hcP:c'≠P:=fun z=>absurd (zk (I.aH.lt hP) (z ▸ h1)) (yr _)
  have nc:H c'=none:=I.aH.fresh h1
  have fresh:∀b,h'.objs.size≤b→upd (upd H P (.pF (ps++#[rawInt pos.line,rawInt pos.col,.ref c']))) c' (.kN oc (.own 0)) b=none:=fun b hb=>by
   have Ab:s.heap.objs.size≤b:=zL (zL h1 (yA h2)) hb
   rw[ao (yj (zk h2 hb)),ao (yj (zk (I.aH.lt hP) Ab))]
   exact I.aH.fresh Ab
  have hsz:s.heap.objs.size≤h'.objs.size:=zL h1 (yA h2)
  refine h _ _ _ h'.objs.size _ _ _ ⟨rfl,J.Cw (zq _ rfl) (fresh _ (zo _)) (I.Vs hsz) (fun v z=>nomatch z),⟨c',oc,vs,t,rfl,aB,hd,hv⟩,fun b=>?_⟩
  by_cases Qs:b=c'
  ·subst Qs;exact .inr (.inr ⟨nc,oc,aB⟩)
  ·by_cases hb:b=P
   ·subst hb
    refine .inr (.inl ⟨rfl,_,by rw[ao Qs,aB],?_,fun p2 cv e=>?_⟩)
    ·rw[Array.toList_append];exact TriplesOk_snoc _ _ _ _ ok.1
    ·rw[Array.toList_append] at e
     rcases A4 _ ok.1 e with e|e
     ·obtain⟨d,o,ws,t2,z1,z2,z3⟩:=ok.2 p2 cv e
      exact⟨d,o,ws,t2,z1,by rw[ao (ar z2 nc),ao (fun z=>by rw[z,hP] at z2;cases z2)];exact z2,z3⟩
     ·exact⟨c',oc,vs,t,e,aB,hd,hv⟩
   ·exact .inl (by rw[ao Qs,ao hb])
 |some cv =>
  refine PySem.W.kla_makeFunctionHit Cf I.ok.glob hg oG hC Vx ok.1 hf hB fun lN h' tk hk hsz=>?_
  have J:Inv X pins σ H { s with heap:=h'.push (xk X q params body scope ((X.mg "__name__").getD .none) cv lN),toks:=tk }:=I.kept fun b u e=>zb _ (hk b u e)
  exact h _ _ _ h'.objs.size _ _ _ ⟨rfl,J.Cw (zq _ rfl) (I.aH.fresh hsz) (I.Vs hsz) (fun v z=>nomatch z),ok.2 pos cv hf,fun b=>.inl rfl⟩
end
def ltD:D→D→Prop
 |.int a,.int b=>a<b
 |.str a,.str b=>a.cps.toList<b.cps.toList
 |_,_=>False
def xn(ks:List D):Prop:=(∃zs:List Str,ks=zs.map D.str)∨∃ns:List Int,ks=ns.map D.int
structure OL(b:Bool)(key:Nat→D)(n:Nat)(g:Nat→Nat):Prop where
 lt:∀k,k<n→g k<n
 inj:∀i j,i<n→j<n→g i=g j→i=j
 ord:∀i j,i<j→j<n→(if b=true then ltD (key (g j)) (key (g i)) else ltD (key (g i)) (key (g j)))∨(key (g i)=key (g j)∧g i<g j)
def xo(b:Bool)(P:Addr)(q:Str)(src:List (Option Nat))(te:TD)(σ:SD)(R:KD)(d:D)(S1:aG):Prop:=∃(l:Addr) (xs:List D) (f:D→D),d=.ref l∧S1 l=some (.lst xs)∧xs.length<64∧S1 P=some (.tab q)∧xn (xs.map f) ∧
 (∀x,x∈xs→∀S',Sub S1 S'→∀Qk:KD,(∀S2,Sub S' S2→Qk (f x) S2)→te ((l9 σ src).set 0 (some x)) S' Qk Zf) ∧
 ∀g S2 p,OL b (fun j=>f (xs.getD j .aw)) xs.length g→Sub S1 S2→S2 p=none→R (.ref p) (S2.set p (.lst ((List.range xs.length).map fun k=>xs.getD (g k) .aw)))
def L7(b:Bool)(P:Addr)(q:Str)(src:List (Option Nat))(tl te:TD):TD:=fun σ S R Z=>tl σ S (fun d S1=>xo b P q src te σ R d S1) Z
def GL(F:D→aG→Prop):List D→aG→Prop
 |[d],S=>F d S
 |_,_=>False
theorem Cy{F:D→aG→Prop}{ds:List D}{S:aG}(h:GL F ds S):∃d,ds=[d]∧F d S:=by
 match ds,h with
 |[d],h=>exact⟨d,rfl,h⟩
theorem qN:∀{ss:List Int}{ax:List Value},Vals (ss.map V.int) ax→IntsAre ax ss
 |[],_,.nil=>.nil
 |z::ss,_,.cons r t=>by
  obtain⟨tk,rfl⟩:=r
  exact .cons z tk (qN t)
theorem qO:∀{us:List Value}{zs:List Str},StrsAre us zs→∀j,j<zs.length→iO strKind us j=(zs.getD j "").cps.toList
 |_,_,.cons z t h,0,_=>rfl
 |_,_,.cons z t h,j+1,hj=>by
  have:=qO h j (by simpa using hj)
  unfold iO at this ⊢
  rw[List.getD_cons_succ,List.getD_cons_succ]
  exact this
theorem qP:∀{us:List Value}{zs:List Int},IntsAre us zs→∀j,j<zs.length→iO intK us j=zs.getD j 0
 |_,_,.cons z t h,0,_=>rfl
 |_,_,.cons z t h,j+1,hj=>by
  have:=qP h j (by simpa using hj)
  unfold iO at this ⊢
  rw[List.getD_cons_succ,List.getD_cons_succ]
  exact this
theorem GN(h:StrsAre us zs):∀u∈us,∃x,strKind.keyOf u=some x:=by
 induction h with
 |nil=>intro u hu;cases hu
 |cons z t h ih =>
  intro u hu
  rcases ze.mp hu with rfl|hu
  ·exact⟨_,rfl⟩
  ·exact ih u hu
theorem GO(h:IntsAre us zs):∀u∈us,∃x,intK.keyOf u=some x:=by
 induction h with
 |nil=>intro u hu;cases hu
 |cons z t h ih =>
  intro u hu
  rcases ze.mp hu with rfl|hu
  ·exact⟨_,rfl⟩
  ·exact ih u hu
theorem GP{xs:List D}{f:D→D}{j:Nat}(hj:j<xs.length):(xs.map f)[j]?=some (f (xs.getD j .aw)):=by
 rw[zB,zH,zj hj];rfl
theorem u7{K:Frag}{H:Hp}{ds:List D}{xs:List V}(h:RvAll K H ds xs)(g:Nat→Nat):∀(ns:List Nat),(∀k∈ns,g k<ds.length)→RvAll K H (ns.map fun k=>ds.getD (g k) .aw) (ns.map fun k=>xs.getD (g k) .aw)
 |[],_=>bB
 |k::ns,hk=>by
  have Yh:=hk k zx
  obtain⟨v,e,r⟩:=h.get (zj Yh)
  refine aT ?_ (u7 h g ns fun k dU=>hk k (zp _ dU))
  show Rv K H (ds.getD (g k) .aw) (xs.getD (g k) .aw)
  rw[zH,zj Yh,zH,e]
  exact r
section
variable{K:Frag}{Y:Cx}{pins:List (Addr×Obj)}{τ:St}{H H2:Hp}{s:Shared}{N:List Str}{src:List (Option Nat)}{scope:Scope}{params:Arguments}{body:Expr}{q p:Str}{pm cv lN:Value}{f l:Addr}{te:TD}{b:Bool}{kw:List (Str×Value)}{k:Nat}
theorem xp{σ:SD}{S1:aG}{xs:List D}{fD:D→D}{Q:VK}{R:KD}{E:Value→Shared→Prop}(I:Inv Y (pins++[(f,xk Y q params body scope pm cv lN)]) τ H s)(hK:Y.K=K)(Tq:Y.calm=true)(hr:cu k Y.A)(oG:∃c o vs t,cv=.ref c∧H c=some (.kN o (.own 0))∧o.data=.fields vs∧vs[1]?=some (.str q t))
  (CS:bM Y N src scope) (Kb:N[0]?=some p) (hp:scope.names.lookup p=some .local) (h0:src[0]?=some none) (JF:scope.isCoroutine=false) (A3:scope.isGenerator=false)
  (hb:∀cl pm cv lN u,bindArgs (kla_fn "<lambda>" q params body scope cl pm cv lN) ⟨[u],[]⟩=pure [(p,u)]) (he:∀cv s H,DE K (Qp Y N q scope f cv Y.A.in1.in1 s H) body te)
  (aA:fO K H σ τ) (hS:Rs K S1 H) (hl:S1 l=some (.lst xs)) (h64:xs.length<64) (kd:xn (xs.map fD))
  (step:∀x,x∈xs→∀S',Sub S1 S'→∀Qk:KD,(∀S2,Sub S' S2→Qk (fD x) S2)→te ((l9 σ src).set 0 (some x)) S' Qk Zf)
  (hR:Cn K H R Q) (fin:∀g S2 p,OL b (fun j=>fD (xs.getD j .aw)) xs.length g→Sub S1 S2→S2 p=none→R (.ref p) (S2.set p (.lst ((List.range xs.length).map fun k=>xs.getD (g k) .aw))))
  (Vu:argsOk "sorted" ⟨[.ref l],kw⟩) (Vv:∀x,argsOk "list.sort" ⟨[.ref x],kw⟩) (ht:∀x,Builtin.«list.sort» ⟨[.ref x],kw⟩=ksk_tree x (.ref f) b) :
  wpAny (model Y.prog Y.w) Y.A (call (.builtin "sorted") [.ref l] kw) (EP Y pins τ Q) E s:=by
 subst hK
 obtain⟨vs,hv,rv⟩:=hS.lst hl
 have Qq:vs.length=xs.length:=rv.len
 obtain⟨c,oc,ws,tk,ecv,hc,rY,hcq⟩:=oG
 have drop:∀{u:Value}{s':Shared},EP Y (pins++[(f,xk Y q params body scope pm cv lN)]) τ Q u s'→EP Y pins τ Q u s':=fun ⟨v,H',J,r,q⟩=>⟨v,H',⟨J.ok,J.os,J.bare,J.base,J.loc,J.cell,J.free,J.dm,fun p hp=>J.pin p (by
  rcases zC.mp hp with z|z
  ·exact zU _ z
  ·exact zA _ (zU _ z)),J.aH,J.len⟩,r,q⟩
 have T:GJ Y (pins++[(f,xk Y q params body scope pm cv lN)]) τ Y.A.in1.in1 f vs fun i ks H'=>∃S',Sub S1 S'∧Rs Y.K S' H'∧Kp Y.K H H'∧RvAll Y.K H' ((xs.take i).map fD) ks:=by
  rintro i x u ks s' H' more I' ⟨S',sb,rs,kp,rk⟩ hx ru
  have hi:i<xs.length:=by have:=(zr.mp hx).1;lia
  obtain⟨v,e1,r1⟩:=rv.get (zj hi)
  rw[hx] at e1;cases e1
  have po:=(I'.pin (f,xk Y q params body scope pm cv lN) (zA _ (zU _ (zA _ (by simp))))).1
  have hcr:s'.heap.CodeRec cv q:=⟨c,oc,ws,tk,ecv,(I'.aH c _ (kp.f _ _ _ hc)).1,rY,hcq⟩
  refine GF (A:=Y.A.in1.in1) I' CS Kb hp h0 I'.ok.frames (I'.ok.hd Tq) (by have:=hr.dp;show Y.A.depth<_;lia) ru po hcr JF A3 (hb _ _ _ _ _) ((he cv s' H').of (.none _ rfl)) ?_
  refine⟨_,S',fun kk S2=>kk=fD xs[i]∧Sub S' S2,Zf,((aA.ts kp).pick src).set 0 (Rv.ts kp _ r1),rs,step _ (List.getElem_mem hi) S' sb _ fun S2 h2=>⟨rfl,h2⟩,fun kk S2 v2 H2 ⟨e2,Cg⟩ Tr Yk Vc=>?_,.f⟩
  subst e2
  refine⟨S2,sb.trans Cg,Yk,kp.trans Vc,?_⟩
  rw[show xs.take (i+1)=xs.take i++[xs[i]] by rw[List.take_add_one,zj hi];rfl,zN]
  exact (RvAll.ts Vc _ rk).app (aT Tr bB)
 have w0:∃S',Sub S1 S'∧Rs Y.K S' H∧Kp Y.K H H∧RvAll Y.K H ((xs.take 0).map fD) []:=⟨S1,.refl _,hS,.refl _,by rw[List.take_zero];exact bB⟩
 have UY:iW Y.K H l vs:=.of hv
 rcases kd with ⟨zs,ez⟩|⟨zs,ez⟩
 ·have hzl:zs.length=xs.length:=by have:=congrArg List.length ez;rw[zc,zc] at this;exact this.symm
  have ka:∀j,j<xs.length→fD (xs.getD j .aw)=.str (zs.getD j ""):=fun j hj=>by
   have e1:=GP (f:=fD) hj
   rw[ez,zB,zj (by lia)] at e1
   rw[zH (l:=zs),zj (by lia)]
   exact (zS e1).symm
  have kv:∀ks us H',(∃S',Sub S1 S'∧Rs Y.K S' H'∧Kp Y.K H H'∧RvAll Y.K H' ((xs.take vs.length).map fD) ks)→Vals ks us→StrsAre us zs:=fun ks us H' ⟨S',_,_,_,rk⟩ hu=>by
   rw[Qq,yx,ez] at rk
   rw[rk.strs] at hu
   exact qL hu
  refine yh (uh (κ:=strKind) (Q:=Q) (b:=b) strKind_oneLt I UY (by lia) Vu Vv ht T w0 (fun ks us H' w1 v1 l1=>⟨GN (kv ks us H' w1 v1),fun nq nr rest e=>keyKind_strs (by rw[← e];exact kv ks us H' w1 v1)⟩) fun H' ks us g D w1 v1 l1 sr hD=>?_) (fun u s' z=>drop z) fun _ _ z=>z
  have sk:=kv ks us H' w1 v1
  obtain⟨S',sb,rs,kp,rk⟩:=w1
  rw[Qq] at sr ⊢
  refine (hR.kp kp).new rs hD (fun hp=>fin g S' D ⟨sr.lt,sr.inj,fun i j oW hj=>?_⟩ sb hp) (u7 (RvAll.ts kp _ rv) g _ fun k hk=>sr.lt k (zW.mp hk))
  have h1:=sr.lt i (by lia)
  have h2:=sr.lt j hj
  have:=sr.ord i j oW hj
  rw[qO sk _ (by lia),qO sk _ (by lia)] at this
  rw[ka _ h1,ka _ h2]
  rcases this with z|⟨z1,z2⟩
  ·left
   cases b with
   |false =>
    rw[if_neg zd] at z ⊢
    show (zs.getD (g i) "").cps.toList<(zs.getD (g j) "").cps.toList
    exact zu z
   |true =>
    rw[if_pos rfl] at z ⊢
    show (zs.getD (g j) "").cps.toList<(zs.getD (g i) "").cps.toList
    exact zu z
  ·exact .inr ⟨by rw[X_ z1],z2⟩
 ·have hzl:zs.length=xs.length:=by have:=congrArg List.length ez;rw[zc,zc] at this;exact this.symm
  have ka:∀j,j<xs.length→fD (xs.getD j .aw)=.int (zs.getD j 0):=fun j hj=>by
   have e1:=GP (f:=fD) hj
   rw[ez,zB,zj (by lia)] at e1
   rw[zH (l:=zs),zj (by lia)]
   exact (zS e1).symm
  have kv:∀ks us H',(∃S',Sub S1 S'∧Rs Y.K S' H'∧Kp Y.K H H'∧RvAll Y.K H' ((xs.take vs.length).map fD) ks)→Vals ks us→IntsAre us zs:=fun ks us H' ⟨S',_,_,_,rk⟩ hu=>by
   rw[Qq,yx,ez] at rk
   rw[rk.ints] at hu
   exact qN hu
  refine yh (uh (κ:=intK) (Q:=Q) (b:=b) GG I UY (by lia) Vu Vv ht T w0 (fun ks us H' w1 v1 l1=>⟨GO (kv ks us H' w1 v1),fun nq nr rest e=>keyKind_ints (by rw[← e];exact kv ks us H' w1 v1)⟩) fun H' ks us g D w1 v1 l1 sr hD=>?_) (fun u s' z=>drop z) fun _ _ z=>z
  have sk:=kv ks us H' w1 v1
  obtain⟨S',sb,rs,kp,rk⟩:=w1
  rw[Qq] at sr ⊢
  refine (hR.kp kp).new rs hD (fun hp=>fin g S' D ⟨sr.lt,sr.inj,fun i j oW hj=>?_⟩ sb hp) (u7 (RvAll.ts kp _ rv) g _ fun k hk=>sr.lt k (zW.mp hk))
  have h1:=sr.lt i (by lia)
  have h2:=sr.lt j hj
  have:=sr.ord i j oW hj
  rw[qP sk _ (by lia),qP sk _ (by lia)] at this
  rw[ka _ h1,ka _ h2]
  rcases this with z|⟨z1,z2⟩
  ·left
   cases b with
   |false =>
    rw[if_neg zd] at z ⊢
    show zs.getD (g i) 0<zs.getD (g j) 0
    exact zu z
   |true =>
    rw[if_pos rfl] at z ⊢
    show zs.getD (g j) 0<zs.getD (g i) 0
    exact zu z
  ·exact .inr ⟨by rw[z1],z2⟩
end
section
variable{K:Frag}{X:Cx}{N:List Str}{src:List (Option Nat)}{scope:Scope}{params:Arguments}{e body:Expr}{q p x:Str}{np pos lp kq kq2 cp:Pos}{ci}{tl te:TD}{k:Nat}{c P:Addr}
theorem Tp.kp{pins:List (Addr×Obj)}{τ:St}{H H':Hp}{u:Value}{s':Shared}{f:Addr}{pm cv lN:Value}{Y:Cx}(L:Tp Y pins τ H H' P q params body scope u s' f pm cv lN){ps:Array Value}(hP:H P=some (.pF ps)):Kp K H H':=.of fun b o e=>by
 rcases L.same b with z|⟨z,_⟩|⟨z,_⟩
 ·exact .inl (by rw[z];exact e)
 ·rw[z,hP] at e;cases e;exact .inr ⟨fun _=>nofun,fun _ _=>nofun⟩
 ·rw[z] at e;cases e
theorem Tp.rs{pins:List (Addr×Obj)}{τ:St}{H H':Hp}{u:Value}{s':Shared}{f:Addr}{pm cv lN:Value}{Y:Cx}{S:aG}(L:Tp Y pins τ H H' P q params body scope u s' f pm cv lN)(hS:Rs K S H)(ht:S P=some (.tab q)):Rs K S H':=fun b x hb=>by
 obtain⟨ps,hP,_⟩:=hS P _ ht
 have kp:Kp K H H':=L.kp hP
 rcases L.same b with z|⟨rfl,Qr,z1,z2⟩|⟨z,_⟩
 ·exact (hS b x hb).keep (fun o e=>by rw[z];exact e) kp
 ·rw[ht] at hb;cases hb;exact⟨Qr,z1,z2⟩
 ·obtain⟨o,e,_⟩:=(hS b x hb).has;rw[z] at e;cases e
theorem Ts(oG:X.env.code=.ref c)(mk:Yi K X.mg X.base c P)(hr:cu k X.A)(CS:bM X N src scope)(hl:DE K X e tl)(he:∀f cv s H,DE K (Qp X N q scope f cv X.A.in1.in1 s H) body te)(hm:X.mg x=none)(hv:bootBuiltins x=some (.builtin "sorted"))
  (hq:X.env.qual ++ "<lambda>" = q:=by rfl) (Kb:N[0]?=some p:=by rfl) (hp:scope.names.lookup p=some .local:=by rfl) (h0:src[0]?=some none:=by rfl) (JF:scope.isCoroutine=false:=by rfl) (A3:scope.isGenerator=false:=by rfl)
  (hb:∀cl pm cv lN u,bindArgs (kla_fn "<lambda>" q params body scope cl pm cv lN) ⟨[u],[]⟩=pure [(p,u)]:=by intro _ _ _ _ _;rfl) (GK:defaultsOf params X.env=([],[]):=by rfl) (hg:Gl X x:=by rfl) (hn:x ≠ "__name__" := by decide) (kO:(x == ("__debug__" : Str))=false:=by decide)
  (Yl:backTo pos (starEach [e] X.env)=(false,eval e X.env)::backTo pos (starEach [] X.env):=by rfl) (eT:(backTo pos (starEach [e] X.env)).any (·.1)=false:=by rfl) (Qt:isPlain e=true:=by rfl) (hK:X.K=K:=by rfl) (hC:X.calm=true:=by rfl) :
  DE K X (.Call (.Name x np) [e] [⟨some "key",.Lambda params body scope lp,kq⟩] pos) (L7 false P q src tl te):=by
 subst hK
 refine⟨fun y=>?_⟩
 rintro pins s τ H Q I ⟨σ,S,R,Z,aA,hS,t,hR,hZ⟩
 refine wpAny_Call_Name_kw (g_ I hg hm hv ?_ hn kO)
 refine callWith_kw (bj (((ac hl an Qt).of y) pos pins s τ H (fun vs H1=>∃ds S1,GL (xo false P q src te σ R) ds S1∧RvAll X.K H1 ds vs∧Rs X.K S1 H1∧Kp X.K H H1) I ⟨σ,S,GL (xo false P q src te σ R),Z,aA,hS,t,fun ds S1 vs H1 r rv rs k1=>⟨ds,S1,r,rv,rs,k1⟩,hZ⟩) fun us s1 ⟨vs,H1,I1,r1,ds,S1,r,rv,rs,k1⟩=>?_) Yl eT
 obtain⟨d,rfl,l,xs,fD,rfl,el,h64,et,kd,step,fin⟩:=Cy r
 obtain⟨v,vs',rfl,Oa,Tr⟩:=rv.cons
 cases Tr.nil
 cases Oa.ref
 obtain⟨u,rfl,ru⟩:=vals1 r1
 cases ru
 obtain⟨ps,hP,aH⟩:=rs P _ et
 refine kws_cons (xm I1 ⟨CS.kind,CS.gu,CS.loc,CS.AE,CS.len,CS.src⟩ oG mk hP aH hq GK fun w s2 H2 f pm cv lN L=>?_)
 refine kws_nil ?_
 cases L.u
 have k2:Kp X.K H1 H2:=L.kp hP
 exact xp L.inv rfl hC hr L.code ⟨CS.kind,CS.gu,CS.loc,CS.AE,CS.len,CS.src⟩ Kb hp h0 JF A3 hb (he f) ((aA.ts k1).ts k2) (L.rs rs et) el h64 kd step (hR.kp (k1.trans k2)) fin (ksk_s1 _ _) (fun x=>ksk_l1 _ _) fun x=>ksk_t1 _ _
theorem L8(oG:X.env.code=.ref c)(mk:Yi K X.mg X.base c P)(hr:cu k X.A)(CS:bM X N src scope)(hl:DE K X e tl)(he:∀f cv s H,DE K (Qp X N q scope f cv X.A.in1.in1 s H) body te)(hm:X.mg x=none)(hv:bootBuiltins x=some (.builtin "sorted"))
  (hq:X.env.qual ++ "<lambda>" = q:=by rfl) (Kb:N[0]?=some p:=by rfl) (hp:scope.names.lookup p=some .local:=by rfl) (h0:src[0]?=some none:=by rfl) (JF:scope.isCoroutine=false:=by rfl) (A3:scope.isGenerator=false:=by rfl)
  (hb:∀cl pm cv lN u,bindArgs (kla_fn "<lambda>" q params body scope cl pm cv lN) ⟨[u],[]⟩=pure [(p,u)]:=by intro _ _ _ _ _;rfl) (GK:defaultsOf params X.env=([],[]):=by rfl) (hg:Gl X x:=by rfl) (hn:x ≠ "__name__" := by decide) (kO:(x == ("__debug__" : Str))=false:=by decide)
  (Yl:backTo pos (starEach [e] X.env)=(false,eval e X.env)::backTo pos (starEach [] X.env):=by rfl) (eT:(backTo pos (starEach [e] X.env)).any (·.1)=false:=by rfl) (Qt:isPlain e=true:=by rfl) (hK:X.K=K:=by rfl) (hC:X.calm=true:=by rfl) :
  DE K X (.Call (.Name x np) [e] [⟨some "key",.Lambda params body scope lp,kq⟩,⟨some "reverse",.Constant (.bool true) ci cp,kq2⟩] pos) (L7 true P q src tl te):=by
 subst hK
 refine⟨fun y=>?_⟩
 rintro pins s τ H Q I ⟨σ,S,R,Z,aA,hS,t,hR,hZ⟩
 refine wpAny_Call_Name_kw (g_ I hg hm hv ?_ hn kO)
 refine callWith_kw (bj (((ac hl an Qt).of y) pos pins s τ H (fun vs H1=>∃ds S1,GL (xo true P q src te σ R) ds S1∧RvAll X.K H1 ds vs∧Rs X.K S1 H1∧Kp X.K H H1) I ⟨σ,S,GL (xo true P q src te σ R),Z,aA,hS,t,fun ds S1 vs H1 r rv rs k1=>⟨ds,S1,r,rv,rs,k1⟩,hZ⟩) fun us s1 ⟨vs,H1,I1,r1,ds,S1,r,rv,rs,k1⟩=>?_) Yl eT
 obtain⟨d,rfl,l,xs,fD,rfl,el,h64,et,kd,step,fin⟩:=Cy r
 obtain⟨v,vs',rfl,Oa,Tr⟩:=rv.cons
 cases Tr.nil
 cases Oa.ref
 obtain⟨u,rfl,ru⟩:=vals1 r1
 cases ru
 obtain⟨ps,hP,aH⟩:=rs P _ et
 refine kws_cons (xm I1 ⟨CS.kind,CS.gu,CS.loc,CS.AE,CS.len,CS.src⟩ oG mk hP aH hq GK fun w s2 H2 f pm cv lN L=>?_)
 refine kws_cons (bj (Lu (X:=y.cx) _ s2 τ H2 (fun v H'=>v=.bl true∧H'=H2) L.inv ⟨rfl,rfl⟩) fun w2 s3 ⟨v2,H3,I3,r3,e3,e4⟩=>?_)
 subst e3 e4
 obtain rfl:w2=Value.bool true:=r3
 refine kws_nil ?_
 cases L.u
 have k2:Kp X.K H1 H3:=L.kp hP
 exact xp I3 rfl hC hr L.code ⟨CS.kind,CS.gu,CS.loc,CS.AE,CS.len,CS.src⟩ Kb hp h0 JF A3 hb (he f) ((aA.ts k1).ts k2) (L.rs rs et) el h64 kd step (hR.kp (k1.trans k2)) fin (ksk_s2 _ _ _) (fun x=>ksk_l2 _ _ _) fun x=>ksk_t2 _ _ _
end
section
variable{P:Program}{w:World}{K:Frag}{mg:Str→Option Value}{base:Heap}
theorem uY.okC{x qual:Str}{st:Stmt}{f:Addr}{fd:FuncData}{N ps:List Str}{k:Nat}{sp:eF}(F:uY K x qual st f fd)(S:ah N ps (ae st))(len:∀ds S R Z,sp ds S R Z→ds.length=ps.length)
  (lT:∀(gq:Value) (A:Around) (outer:List Env) (s:Shared) (H:Hp) (E:XK) (ds:List D) (S:aG) (R:KD) (Z:KX),gq=fd.code→cu k (A.deeper (envOfC qual (ae st) s.heap.objs.size f gq))→sp ds S R Z →
   ∃t,AX K (kl (fU P w) P w K mg base N qual (ae st) f gq A outer s H E) true (bH st) t∧t { nx:=fun _ S'=>Fo S' (R .aw),rt:=fun d S'=>Fo S' (R d) } (i7 N ds) S fun _ C S'=>Fo S' (Z C)):bZ P w K mg base (fU P w) (k+1) f fd ps (sS K sp):=by
 obtain⟨oc,od,dV,kV,doc,pm,an,gq,ct,Np,rfl,lk,rY⟩:=F.ex
 have eT:ps.length≤N.length:=by have:=congrArg List.length S.pre;rw[yb] at this;lia
 refine LA lk rY S (by rintro vs H Q E ⟨ds,S',R,Z,v,_,h,_⟩;exact by rw[v.len];exact len _ _ _ _ h) fun A outer s H vs Q E hr ⟨ds,S',R,Z,v,hS,h,hR,hZ⟩=>?_
 obtain⟨t,ht,q⟩:=lT gq A outer s H E ds S' R Z rfl hr h
 have L:dj (kl (fU P w) P w K mg base N qual (ae st) f gq A outer s H E) E:=t5
 let y:Ev (kl (fU P w) P w K mg base N qual (ae st) f gq A outer s H E) true:=⟨_,(kl (fU P w) P w K mg base N qual (ae st) f gq A outer s H E).xe,fun _=>E,⟨fun p2 τ H1 s1 e s' I h=>LG L p2 τ H1 s1 e s' I h,fun _ p2 τ H1 s1 h' a cls args I hx he=>oE L I hx he,fun _=>PassesOwn.leaving⟩⟩
 refine⟨L2.Tl K (fun _=>E) t,ht.of y,i7 N ds,S',_,fun _ C S'=>Fo S' (Z C),?_,hS,q,⟨by rintro σ S1 τ H1 ⟨S2,sb,r⟩ a b c;exact (hR.kp c).now (b.sub sb) r i5,by rintro d S1 v H1 ⟨S2,sb,r⟩ a b c;exact hR _ _ _ _ r a (b.sub sb) c,fun _ _ _ _ z=>z.elim,fun _ _ _ _ z=>z.elim⟩,by rintro σ τ C S1 H1 ⟨S2,sb,r⟩ a b c;exact hZ C S2 H1 r (b.sub sb) c⟩
 unfold i7 start
 refine (qD v).app ?_
 rw[v.len]
 exact qC _ _ (by rw[zG])
end
structure xq(ts:List Addr)(H:Hp):Prop where
 all:∀b,H b=none∨(∃o xs,H b=some (.kN o (.lst xs)))∨(b∈ts∧H b=some (.pF #[]))
 tab:∀b∈ts,H b=some (.pF #[])
theorem Eh{P:Program}{w:World}{K:Frag}{mg mb:Str→Option Value}{CX:Aw}{k:Nat}{fa a:Addr}{fd:FuncData}{x:Str}{sp:Sp}{aW:Shared}{vs:List Value}{ns:List Int}{ts:List Addr}
  (KX:K.In aW.heap) (OH:aW.heap.Ns mainGlobals mg) (hb:aW.heap.Ns builtinsNs mb) (Ym:∀x:Str,x ≠ "__name__" → mb x=bootBuiltins x) (Yn:aW.heap.NoLimit) (Vz:Bm mg aW.heap) (hg:aW.gens=#[])
  (hT:∀b∈ts,aW.heap.get? b=some (tabObj #[])) (hC:∀b∈ts,isCodeTable aW.heap b) (hN:∀b∈ts,K.lookup b=none)
  (ha:aW.heap.get? a=some { cls:=.type "list",data:=.seq vs.toArray }) (hi:IntsAre vs ns) (hl:ns.length≤sizeLine) (hr:cu k callerA)
  (F:∀base:Heap,Bm mg base→K.In base→base.Ns mainGlobals mg→bZ P w K mg base CX k fa fd [x] sp) (Tu:∀(s:Shared) (u:Value),BindsTo s fd ⟨[u],[]⟩ [(x,u)])
  (Qa:∀H:Hp,xq ts H→iW K H a (ns.map V.int)→sp [.ref a] H (fun v _=>v=.bl true) fun _ _ _=>False)
  (Yo:∀H e s',CX [] H aW (fun _ _ _=>False) e s'→False) :
  codeAny (model P w) callerA (.call (.ref fa) ⟨[.ref a],[]⟩) (fun r s'=>r=.ok (.ret (.bool true))∧OldK aW.heap s'.heap∧s'.os=aW.os∧AllBare s'.gens) aW:=by
 have rv:=tW hi
 have Yp:=hi.length
 have Vm:a∉ts:=fun z=>by rw[hT a z] at ha;cases ha
 have core:∀H:Hp,xq ts H→iW K H a (ns.map V.int)→ki P w H aW.heap→(∀b,H b≠none→b=a∨b∈ts)→(H a≠none→K.lookup a=none) →
   codeAny (model P w) callerA (.call (.ref fa) ⟨[.ref a],[]⟩) (fun r s'=>r=.ok (.ret (.bool true))∧OldK aW.heap s'.heap∧s'.os=aW.os∧AllBare s'.gens) aW:=by
  intro H hO hS aH hA hK
  have u9:∀{b:Addr}{o:Obj},aW.heap.get? b=some o→H b=none→(sF aW.heap H).get? b=some o:=fun e n=>Ff e n
  have Je:∀{b:Addr}{o:Obj}{es:Array DictEntry}{ep:Nat},aW.heap.get? b=some o→o.data=.dict es ep→H b=none:=fun {b o es ep} e d=>by
   cases q:H b with
   |none=>rfl
   |some u =>
    rcases hA b (by rw[q];simp) with e'|e'
    ·subst e'
     rw[ha] at e;cases e
     have d':Data.seq vs.toArray _=Data.dict es ep:=d
     cases d'
    ·rw[hT b e'] at e;cases e;cases d
  have VA:∀{b:Addr}{m:Str→Option Value},aW.heap.Ns b m→(sF aW.heap H).Ns b m:=fun {b m} ⟨o,es,ep,e,d,r⟩=>⟨o,es,ep,u9 e (Je e d),d,r⟩
  have hKb:K.In (sF aW.heap H):=fun b o e=>u9 (KX b o e) (by
   cases q:H b with
   |none=>rfl
   |some u =>
    rcases hA b (by rw[q];simp) with e'|e'
    ·subst e'
     rw[hK (by rw[q];simp)] at e;cases e
    ·rw[hN b e'] at e;cases e)
  have hM:Mod K mg (sF aW.heap H):=⟨hKb,VA OH,⟨mb,VA hb,Ym⟩,by obtain⟨mc,h1,h2⟩:=Yn;exact⟨mc,VA h1,h2⟩⟩
  have e0:wA P w K mg (sF aW.heap H) callerA [] aW H:=⟨rfl,hM,fun b o e=>II e,Nat.le_of_eq (Dd _ _),trivial,fun b hb=>absurd (show b∈([]:List Addr) from hb) (by simp),aH,.of_eq hg⟩
  have hBm:Bm mg (sF aW.heap H):=by
   obtain⟨bm,ob,b1,b2,b3,b4,b5,b6⟩:=Vz
   refine⟨bm,ob,b1,b2,u9 b3 ?_,b4,b5,b6⟩
   cases q:H bm with
   |none=>rfl
   |some u =>
    rcases hA bm (by rw[q];simp) with e'|e'
    ·rw[e',ha] at b3;cases b3;cases b6
    ·rw[hT bm e'] at b3;cases b3;cases b4
  refine yH ((F _ hBm hKb (VA OH)).run callerA [] aW H ⟨[.ref a],[]⟩ [.ref a] [.ref a] _ _ hr e0 (Tu aW (.ref a)) (.cons rfl .nil) (Qa H hO hS)) fun r s' h=>?_
  cases r with
  |error e=>exact (Yo H e s' h).elim
  |ok fl =>
   cases fl with
   |next=>exact False.elim h
   |brk=>exact False.elim h
   |cont=>exact False.elim h
   |ret u =>
    obtain⟨v,H',os,bare,un,Tv,r',q⟩:=h
    have q':v=.bl true:=q
    subst q'
    obtain rfl:u=Value.bool true:=r'
    refine⟨rfl,⟨fun b o e=>?_,fun b o e=>un.there b o e (by simp)⟩,os,bare⟩
    rcases hO.all b with z|⟨ob,xs,z⟩|⟨z1,z⟩
    ·exact .inl (un.keep b o e z (by intro z;exact absurd (show b∈([]:List Addr) from z) (by simp)) (by simp))
    ·have z2:=un.fL b ob _ z
     obtain⟨e1,_⟩:=aH b _ z
     obtain⟨e2,_⟩:=Tv b _ z2
     rw[e] at e1;cases e1
     exact .inl e2
    ·obtain⟨more,z2⟩:=un.fM b _ z
     have e2:=hT b z1
     rw[e] at e2;cases e2
     exact .inr (.inl ⟨hC b z1,rfl,#[],more,rfl,by have:=Tv b _ z2;exact this⟩)
 have tabs:∀(H:Hp),(∀b,b∈ts→H b=some (.pF #[]))→∀b u,b∈ts→H b=some u→aV P w H aW.heap b u:=fun H h b u hb e=>by
  rw[h b hb] at e;cases e;exact hT b hb
 cases hk:K.lookup a with
 |some o =>
  have e:=KX a o hk
  rw[ha] at e
  cases e
  refine core (fun b=>if b∈ts then some (.pF #[]) else none) ⟨fun b=>?_,fun b hb=>if_pos hb⟩ (.inr ⟨_,vs.toArray,_,hk,rfl,rfl,rfl,by rw[zh,Yp];exact hl,by simpa using rv⟩) (fun b u z=>?_) (fun b z=>?_) fun z=>absurd (if_neg Vm) z
  ·by_cases hb:b∈ts
   ·exact .inr (.inr ⟨hb,if_pos hb⟩)
   ·exact .inl (if_neg hb)
  ·by_cases hb:b∈ts
   ·exact tabs _ (fun b hb=>if_pos hb) b u hb z
   ·have z':=(if_neg hb).symm.trans z;cases z'
  ·by_cases hb:b∈ts
   ·exact .inr hb
   ·exact absurd (if_neg hb) z
 |none =>
  refine core (fun b=>if b=a then some (.kN { cls:=.type "list",data:=.seq vs.toArray } (.lst (ns.map V.int))) else if b∈ts then some (.pF #[]) else none) ⟨fun b=>?_,fun b hb=>?_⟩ (.inl (.inr ⟨{ cls:=.type "list",data:=.seq vs.toArray },if_pos rfl⟩)) (fun b u z=>?_) (fun b z=>?_) fun _=>hk
  ·by_cases hb:b=a
   ·exact .inr (.inl ⟨_,_,if_pos hb⟩)
   ·by_cases Cz:b∈ts
    ·exact .inr (.inr ⟨Cz,(if_neg hb).trans (if_pos Cz)⟩)
    ·exact .inl ((if_neg hb).trans (if_neg Cz))
  ·have:b≠a:=fun z=>Vm (z ▸ hb)
   exact (if_neg this).trans (if_pos hb)
  ·by_cases hb:b=a
   ·have z':=(if_pos hb).symm.trans z
    cases z'
    subst hb
    exact⟨ha,by rw[zc];exact hl,vs,_,rv,ha⟩
   ·have z':=(if_neg hb).symm.trans z
    by_cases Cz:b∈ts
    ·have z2:=(if_pos Cz).symm.trans z'
     cases z2
     exact hT b Cz
    ·have z2:=(if_neg Cz).symm.trans z'
     cases z2
  ·by_cases hb:b=a
   ·exact .inl hb
   ·by_cases Cz:b∈ts
    ·exact .inr Cz
    ·exact absurd ((if_neg hb).trans (if_neg Cz)) z
theorem CA:∀{K:Frag},b∉K.map (·.1)→K.lookup b=none
 |[],_=>rfl
 | (a,o)::K,h=>by
  rw[zM,ze,not_or] at h
  rw[zJ,show (b == a)=false from beq_false_of_ne h.1]
  exact CA h.2
theorem Ke{K:Params→Frag}{as:List Addr}{e:∀P,as=(K P).map (·.1)}{ts:List Addr}{w:World}{h:Heap}(_:(PySem.W.kmHook K as e ts).says w h)(d:∀b∈ts,b∉as):∀b∈ts,(K w.params).lookup b=none:=fun b hb=>CA (by rw[← e];exact d b hb)
theorem GQ{l:PySem.W.OpenLaw}{n k:Nat}{q:Program}{loose:List Str}{XP:(Str→Option Value)→Heap→Prop}{YP:World→Heap→Prop}{d:DefRec}{K:Params→Frag}{CX:Aw}{x:Str}{ts:List Addr}
  (hn:l.most=some n) (Ni:n≤sizeLine) (WJ:d.params.defaults=[]) (hr:cu k callerA)
  (hY:∀(w:World) (h:Heap),YP w h→(K w.params).In h) (hT:∀(w:World) (h:Heap),YP w h→∀b∈ts,h.get? b=some (tabObj #[])) (hN:∀(w:World) (h:Heap),YP w h→∀b∈ts,(K w.params).lookup b=none)
  (F:∀(w:World) (mg:Str→Option Value) (fa:Addr) (h:Heap),(K w.params).In h→h.Ns mainGlobals mg→mg d.name=some (.ref fa) →
   ∃(fd:FuncData) (sp:Sp),(∀b∈ts,∃c,codeHdIn (K w.params) c b=true)∧(∀(s:Shared) (u:Value),BindsTo s fd ⟨[u],[]⟩ [(x,u)]) ∧
    (∀base:Heap,Bm mg base→(K w.params).In base→base.Ns mainGlobals mg→bZ l.prog w (K w.params) mg base CX k fa fd [x] sp) ∧
    ∀(H:Hp) (a:Addr) (ns:List Int),ns.length≤n→xq ts H→iW (K w.params) H a (ns.map V.int)→sp [.ref a] H (fun v _=>v=.bl true) fun _ _ _=>False)
  (Yo:∀(H:Hp) (s:Shared) (e:Value) (s':Shared),CX [] H s (fun _ _ _=>False) e s'→False) :
  PySem.W.WalkO q loose XP YP l.row.toRowW d [] (fun f vs=>PySem.call f vs):=by
 refine Att.wG hn WJ fun w cT aW mg mb fa o pm cd doc a vs ns G Y ho hd rY NM NN hints hlen hg=>?_
 have KX:=hY w _ Y
 obtain⟨fd,sp,hC,hb,hF,Qa⟩:=F w mg fa _ KX G.T.g NM
 have hT':=hT w _ Y
 exact Eh KX G.T.g G.T.b G.T.builtins G.T.nolimit G.T.bmain hg hT' (fun b z=>by obtain⟨c,hc⟩:=hC b z;exact ((codeHd_of_K KX hc).tab (hT' b z)).isCodeTable) (hN w _ Y) NN hints (zL hlen Ni) hr hF hb (fun H hO hS=>Qa H a ns hlen hO hS) fun H e s'=>Yo H aW e s'
namespace Rt
theorem own:Manifest.owners.lookup (String.ofList ['d','e','s','r','e','v','e','r'].reverse)=some Manifest.sig_reversed:=by kernel_rfl
theorem l_:Slot "reversed" "__next__" "reversed.__next__" := .of (owner := "reversed") (n := "__next__") (by rw[typeLookup_type,builtinLookup_eq_fast];kernel_rfl) (by trivial) (by trivial) (by trivial) (by first|exact .inl (by trivial)|exact .inr (by trivial)) (by rw[isSubtype_type];kernel_rfl)
theorem CB:entryFor table "reversed.__next__" = some Builtin.«reversed.__next__»:=entryFor_of_tree (by kernel_rfl)
theorem CC(a:Value):argsOk "reversed.__next__" ⟨[a],[]⟩:=by
 unfold argsOk;rw[signature?_of (id := "reversed.__next__") (n:=['_','_','t','x','e','n','_','_']) (o:=['d','e','s','r','e','v','e','r']) (by kernel_rfl) own];kernel_rfl
theorem CD:Slot "reversed" "__iter__" "reversed.__iter__" := .of (owner := "reversed") (n := "__iter__") (by rw[typeLookup_type,builtinLookup_eq_fast];kernel_rfl) (by trivial) (by trivial) (by trivial) (by first|exact .inl (by trivial)|exact .inr (by trivial)) (by rw[isSubtype_type];kernel_rfl)
theorem Kf(a:Value):argsOk "reversed.__iter__" ⟨[a],[]⟩:=by
 unfold argsOk;rw[signature?_of (id := "reversed.__iter__") (n:=['_','_','r','e','t','i','_','_']) (o:=['d','e','s','r','e','v','e','r']) (by kernel_rfl) own];kernel_rfl
theorem Kg:entryFor table "reversed.__iter__" = some Builtin.«dict_keyiterator.__iter__» :=
 entryFor_alias (id' := "dict_keyiterator.__iter__") (by kernel_rfl) (by first|rfl|decide +kernel|(unfold String.splitOn;simp +decide [String.splitOnAux])) (by trivial) (by kernel_rfl)
theorem Kh:Slot "reversed" "__init__" "object.__init__" := .of (owner := "object") (n := "__init__") (by rw[typeLookup_type,builtinLookup_eq_fast];kernel_rfl) (by trivial) (by trivial) (by trivial) (by first|exact .inl (by trivial)|exact .inr (by trivial)) (by rw[isSubtype_type];kernel_rfl)
theorem called:TypeCalled "reversed" "reversed.__new__" "object.__init__" := ⟨by trivial,by trivial,⟨_,_,F.mro_reversed⟩,F.made_reversed,by trivial,by rw[isSubtype_type];kernel_rfl,Kh⟩
theorem OM:typeLookup (.type "tuple") "__reversed__" = pure none:=by rw[typeLookup_type,builtinLookup_eq_fast];kernel_rfl
theorem CF:typeLookup (.type "tuple") "__getitem__" = pure (some (.builtin "tuple.__getitem__")):=by rw[typeLookup_type,builtinLookup_eq_fast];kernel_rfl
theorem Ki:isSubtype (.type "tuple") (.type "dict")=pure false:=by rw[isSubtype_type];kernel_rfl
end Rt
def xr(l:Addr)(i:Int):Obj:={ cls:=.type "reversed",data:=.fields #[.ref l,rawInt i] }
def qQ(h:Heap)(a l:Addr)(i:Int):Prop:=∃o,h.get? a=some o∧o.cls=.type "reversed" ∧ o.data=.fields #[.ref l,rawInt i]
section
variable{prog:Program}{w:World}{A:Around}{E:Value→Shared→Prop}{s:Shared}
theorem qQ.typeIs(x:qQ s.heap a l i):s.TypeIs (.ref a) "reversed" := by obtain⟨o,ho,hc,_⟩:=x;exact⟨o,ho,hc⟩
theorem qQ.keep(x:qQ h a l i)(e:∀o,h.get? a=some o→h'.get? a=some o):qQ h' a l i:=by obtain⟨o,ho,r⟩:=x;exact⟨o,e _ ho,r⟩
theorem ON(hl:IsTup s.heap l items)(hz:items.size≤sizeLine)(h:Q₁ (.ref s.heap.objs.size) { s with heap:=s.heap.push (xr l ((items.size:Int) - 1)),toks:=s.toks+1+1 }) :
  codeAny (model prog w) A (.call (.builtin "reversed.__new__") ⟨[.type "reversed",.ref l],[]⟩) (wants Q₁ E) s:=by
 refine codeAny_of_tree ?_
 show wpAny _ A.in1 (do checkBuiltinCall "reversed.__new__" ⟨[.type "reversed",.ref l],[]⟩;again (.builtin "reversed.__new__" ⟨[.type "reversed",.ref l],[]⟩)) _ _ s
 refine za (yJ (F.newCall_reversed_1 _) (zg ⟨plainId_quiet F.plain_reversed_new _,yw F.entry_reversed_new ?_⟩))
 rw[Around.under_plainId F.plain_reversed_new _]
 unfold Builtin.«reversed.__new__»
 refine za (yJ (newClass_reversed _) ?_)
 refine za (yJ (a:=()) (by first|rfl|kernel_rfl) (za (yJ (a:=()) (by first|rfl|kernel_rfl) ?_)))
 refine za (wpAny_specialOf hl.typeIs Rt.OM ?_)
 refine za (za (wpAny_isInstance hl.typeIs Rt.Ki (za (wpAny_specialOf hl.typeIs Rt.CF ?_))))
 show wpAny _ _ (if (["tuple.__getitem__","str.__getitem__","bytes.__getitem__","bytearray.__getitem__","memoryview.__getitem__","numpy.ndarray.__getitem__","sqlite3.Row.__getitem__"]:List String).contains "tuple.__getitem__" = true then pure true else _) _ _ _
 rw[if_pos (by trivial)]
 refine zg ?_
 show wpAny _ _ (do
     let nu ← call (Value.builtin "len") [Value.ref l]
     let __x ← asInt? nu
     match __x with
      |some n=>do
       let nu ← Builtin.SmallTypes.newRecord (Value.type "reversed") [Value.ref l,rawInt (n - 1)]
       ret nu
      |x=>unsupported "internal:reversed.__new__") _ _ _
 refine za (len_tuple hl (by rw[zT] at hz;lia) ?_)
 refine za (yJ (a:=some ((items.size:Nat):Int)) rfl ?_)
 exact za (m:=newObj (.type "reversed") (.fields #[.ref l,rawInt (((items.size:Nat):Int) - 1)])) (yf (zg h))
theorem Kj(hl:IsTup s.heap l items)(hz:items.size≤sizeLine)(h:Q (.ref s.heap.objs.size) { s with heap:=s.heap.push (xr l ((items.size:Int) - 1)),toks:=s.toks+1+1 }) :
  wpAny (model prog w) A (call (.type "reversed") [.ref l]) Q E s:=by
 refine callType_codes Rt.called (F.typeCall_reversed_1 _) F.entry_object_init (Q₁:=fun obj aW=>aW.TypeIs obj "reversed" ∧ Q obj aW) (ON hl hz ⟨⟨_,zq _ rfl,rfl⟩,h⟩) fun obj aW h₁=>?_
 exact⟨h₁.1,F.args_object_init_2 obj _,object_init_meets Rt.called.init.lookup Rt.called.made (by decide) prog w A.in1 _ aW ⟨h₁.1,rfl,h₁.2⟩⟩
theorem sqx(h:k<n):seqIndex? ((k:Nat):Int) n=some k:=by
 have e:(if ((k:Nat):Int)<0 then ((k:Nat):Int)+(n:Int) else ((k:Nat):Int))=((k:Nat):Int):=if_neg (by lia)
 unfold seqIndex?
 dsimp only
 rw[e,if_pos (by simp;lia)];rfl
theorem Kk{it l:Addr}{i:Nat}{items:Array Value}{x:Value}{Q:Option Value→Shared→Prop}(hit:qQ s.heap it l (i:Int))(hl:IsTup s.heap l items)(hz:items.size≤sizeLine)(hx:items[i]?=some x)
  (hQ:∀h' tk,qQ h' it l ((i:Int) - 1)→Heap.SameBut it s.heap h'→Q (some x) { s with heap:=h',toks:=tk }):wpAny (model prog w) A (pyNext (.ref it)) Q E s:=by
 obtain⟨o,ho,hc,hd⟩:=id hit
 have hi:i<items.size:=(Array.getElem?_eq_some_iff.mp hx).1
 unfold pyNext
 refine za (wpAny_attempt (wpAny_callSpecial?_slot (name:=Str.ofString "__next__") hit.typeIs Rt.l_ (yq Rt.l_ hit.typeIs Rt.CB ?_ (Rt.CC _))))
 unfold Builtin.«reversed.__next__»
 refine za (yJ (a:=(Value.ref it,[])) rfl (za (zX ho hd (x:=.ref l) rfl (za (zX ho hd (x:=rawInt (i:Int)) rfl ?_)))))
 show wpAny _ _ (if (i:Int)<0 then _ else _) _ _ s
 rw[if_neg (by lia)]
 show wpAny _ _ (specialOf (.ref l) "__getitem__" >>= _) _ _ s
 refine za (wpAny_specialOf hl.typeIs Rt.CF ?_)
 show wpAny _ _ (mkInt (i:Int) >>= _) _ _ s
 refine za (wpAny_mkInt ?_)
 refine za (wpAny_attempt (getItem_tuple (j:=i) hl (by lia) (by rw[zT] at hz;lia) (sqx hi) hx ?_))
 refine za (zX ho hd (x:=rawInt (i:Int)) rfl ?_)
 show wpAny _ _ (setField (.ref it) 1 (rawInt ((i:Int) - 1)) >>= fun _=>ret x) _ _ _
 refine za (wpAny_setField ho hd (by simp) (zg ⟨x,rfl,zg (hQ _ _ ?_ (yo ..))⟩))
 exact⟨_,Heap.get?_update_self _ ho (Obj.isFreed_of_fields (Obj.data_mapFields hd _)),(Obj.cls_mapFields ..).trans hc,by rw[Obj.data_mapFields hd];simp⟩
theorem OO(hh:A.handled=none)(hit:qQ s.heap it l (-1))(hQ:∀h',Heap.ExtBut it s.heap h'→Q none { s with heap:=h' }):wpAny (model prog w) A (pyNext (.ref it)) Q E s:=by
 obtain⟨o,ho,hc,hd⟩:=id hit
 unfold pyNext
 refine za (wpAny_attempt (wpAny_callSpecial?_slot (name:=Str.ofString "__next__") hit.typeIs Rt.l_ (yq Rt.l_ hit.typeIs Rt.CB ?_ (Rt.CC _))))
 unfold Builtin.«reversed.__next__»
 refine za (yJ (a:=(Value.ref it,[])) rfl (za (zX ho hd (x:=.ref l) rfl (za (zX ho hd (x:=rawInt (-1)) rfl ?_)))))
 show wpAny _ _ (if (-1:Int)<0 then _ else _) _ _ s
 rw[if_pos (by decide)]
 refine za (wpAny_rule ?_)
 have hd1:=Obj.data_mapFields hd (·.setIfInBounds 1 (rawInt (-1)))
 have Iw:=Heap.get?_update_self (Obj.mapFields (·.setIfInBounds 1 (rawInt (-1)))) ho (Obj.isFreed_of_fields hd1)
 refine za (m:=setField (.ref it) 1 (rawInt (-1)) >>= fun _=>setField (.ref it) 0 .none) (za (wpAny_setField ho hd (by simp) (wpAny_setField Iw hd1 (by simp) ?_)))
 have eb:Heap.ExtBut it s.heap ((s.heap.update it (Obj.mapFields (·.setIfInBounds 1 (rawInt (-1))))).update it (Obj.mapFields (·.setIfInBounds 0 Value.none))):=fun b u hb e=>by
  rw[Heap.get?_update_other _ _ (Ne.symm hb),Heap.get?_update_other _ _ (Ne.symm hb)];exact e
 refine za ?_
 show wpAny _ _ (newExc (.type "StopIteration") [] >>= _) _ _ _
 refine za ?_
 simp only [newExc,newTuple]
 refine za (yf ?_ (by size_fits))
 refine za (m:=firstArgMember _ _) (yJ (a:=Value.none) (by first|rfl|(simp only [firstArgMember];rfl)) ?_)
 refine yf ?_ (by size_fits)
 simp only [raiseNew]
 refine za (wpAny_handled ?_)
 first|rw[show A.in1.handled=none from hh]|rw[hh]
 refine za (zg (wpAny_throw ?_))
 refine za (wpAny_isInstance (T := "StopIteration") (b:=true) ⟨_,zq _ rfl,rfl⟩ isSubtype_stop ?_)
 exact zg (hQ _ ((eb.push _).push _))
theorem CG(hit:qQ s.heap it l i)(h:Q (.ref it) s):wpAny (model prog w) A (pyIter (.ref it)) Q E s:=by
 refine wpAny_pyIter_slot hit.typeIs Rt.CD (yq Rt.CD hit.typeIs Rt.Kg ?_ (Rt.Kf _))
 show wpAny _ _ (ret (.ref it)) _ _ s
 exact zg ⟨_,rfl, "reversed",_,hit.typeIs,Rt.l_.lookup,h⟩
end
end L2
namespace L2
open PySem PySem.Spec PyProof.Rows
def Tw(K:Frag)(a:Addr)(n:Nat):It :=
 ⟨fun i H=>∃xs x,iE K H a xs∧xs.length=n∧i<n∧xs[n - 1 - i]?=some x,fun i H x H'=>H'=H∧∀xs,iE K H a xs→xs.length=n→xs[n - 1 - i]?=some x,fun i _=>n≤i⟩
theorem Kl{P:Program}{w:World}{K:Frag}{tg:Expr}(a it:Addr)(n:Nat):Turn P w K tg (Tw K a n) [it] it (fun i h=>i≤n∧qQ h it a ((n:Int) - 1 - (i:Int))) where
 mem:=by simp
 obj:=fun i h st b hb=>by
  have e:b=it:=by simpa using hb
  subst e
  obtain⟨_,o,e,c,d⟩:=st
  exact⟨o,e,fun v z=>by rw[d] at z;cases z⟩
 keep:=fun i h h' st k=>⟨st.1,st.2.keep fun o e=>k it (by simp) o e⟩
 item:=by
  intro X hP hw hK hc i pins s σ H E I hf st hg
  subst hP hw hK
  obtain⟨xs,x,hq,hn,hi,hx⟩:=hg
  obtain⟨ax,rv,p,hz⟩:=I.tuple hq
  obtain⟨u,hu,ru⟩:=rv.get hx
  obtain⟨f0,f1,f2,f3,f4,f5⟩:=hf it (by simp)
  have e:(n:Int) - 1 - (i:Int)=((n - 1 - i:Nat):Int):=by lia
  have hit:=st.2
  rw[e] at hit
  refine Kk hit p (by rw[zh,← rv.length];exact hz) (x:=u) (by simpa using hu) fun h' tk eM sb=>?_
  have I1:Inv X pins σ H { s with heap:=h',toks:=tk }:=I.turned (t':=tk) (fun b o hb e=>(sb.2 b hb).trans e) f0 f1 f3 f4 f5
  obtain⟨o,e1,c,d⟩:=id eM
  refine⟨u,rfl,tM (s:={ s with heap:=h',toks:=tk }) e1 c d (by decide) ⟨x,H,I1,ru,⟨rfl,fun ys hy _=>by rw[I.jV hy hq];exact hx⟩,⟨hi,?_⟩,fun b hb=>(hf b hb).1⟩⟩
  have e2:(n:Int) - 1 - ((i+1:Nat):Int)=((n - 1 - i:Nat):Int) - 1:=by lia
  rw[e2];exact eM
 done:=by
  intro X hP hw hK hc i pins s σ H E I hf st hg
  subst hP hw hK
  obtain⟨f0,f1,f2,f3,f4,f5⟩:=hf it (by simp)
  have hg:n≤i:=hg
  have e:(n:Int) - 1 - (i:Int) = -1:=by have:=st.1;lia
  have hit:=st.2
  rw[e] at hit
  exact OO (I.ok.hd hc) hit fun h' eb=>⟨rfl,I.turned (t':=s.toks) (fun b o hb e=>eb b o hb e) f0 f1 f3 f4 f5⟩
 self:=fun _ _ _ _ _ st h=>CG st.2 h
def iRt(K:Frag)(ta:TA):TI:=fun σ H R=>ta σ H fun vs H1=>∃a xs,vs=[.ref a]∧iE K H1 a xs∧R (Tw K a xs.length) H1
theorem Tx{X:Cx}{tg a:Expr}{ta:TA}{p pos:Pos}(hg:Gl X "reversed")(hm:X.mg "reversed" = none)(ha:PA X [a] ta)(hs:starEach [a] X.env=[(false,eval a X.env)]):PI X tg (.Call (.Name "reversed" p) [a] [] pos) (iRt X.K ta):=by
 intro pins s σ H R I h
 refine Call_ (g_ I hg hm boot_reversed (PyProof.Rows.callWith_type1 (bj (ha pos pins s σ H _ I h) fun us s1 ⟨vs,H1,I1,r1,q1⟩=>?_) hs rfl))
 obtain⟨l,xs,e,q,hR⟩:=q1
 subst e
 obtain⟨u,rfl,ru⟩:=vals1 r1
 cases ru
 obtain⟨ax,rv,pl,hz⟩:=I1.tuple q
 have hn:ax.toArray.size=xs.length:=by rw[zh,rv.length]
 refine Kj pl (by rw[hn];exact hz) ?_
 rw[hn]
 have st:qQ (s1.heap.push (xr l ((xs.length:Int) - 1))) s1.heap.objs.size l ((xs.length:Int) - 1 - ((0:Nat):Int)):=⟨_,zq _ rfl,rfl,by show Data.fields _=Data.fields _;simp⟩
 have I2:Inv X pins σ H1 { s1 with heap:=s1.heap.push (xr l ((xs.length:Int) - 1)),toks:=s1.toks+1+1 }:=I1.kept (t':=s1.toks+1+1) fun b o e=>zb _ e
 refine CG (s:={ s1 with heap:=s1.heap.push (xr l ((xs.length:Int) - 1)),toks:=s1.toks+1+1 }) st ⟨_,_,_,_,H1,rfl,I2,Kl l s1.heap.objs.size xs.length,⟨ya _,st⟩,fun b hb=>?_,hR⟩
 have hb:b=s1.heap.objs.size:=by simpa using hb
 subst hb
 exact I1.pY (zo _) (I1.aH.fresh (zo _))
section
variable{K:Frag}{X:Cx}{tg:Expr}
def Yq(t:pK):Cq:=fun σ S R Z=>t σ S (fun ds S1=>∃es,ds=[.tup es]∧R ⟨es.reverse,fun _=>True⟩ S1) Z
theorem irt(hm:X.mg "reversed" = none)(ha:DA K X [a] t)(hg:Gl X "reversed" := by rfl)(hs:starEach [a] X.env=[(false,eval a X.env)]:=by rfl)(hK:X.K=K:=by rfl):DI K X tg (.Call (.Name "reversed" p) [a] [] pos) (Yq t):=by
 subst hK
 exact⟨fun y=>(Tx (X:=y.cx) hg hm (ha.of y) hs).mono <| by rintro τ H R ⟨σ,S,RI,Z,aA,hS,q,hR,hZ⟩;exact⟨σ,S,_,Z,aA,hS,q,by
  rintro ds S1 vs H1 ⟨es,e,r1⟩ v1 s1 k1
  subst e
  obtain⟨v,rfl,r⟩:=v1.one
  obtain⟨a,xs,rfl,hq,t⟩:=r.tup
  refine⟨a,xs,rfl,.inl (.of hq),hR _ S1 _ H1 r1 (fun i S2 H2 k2 s2 Vj=>?_) s1 k1⟩
  have Iu:iE X.K H2 a xs:=.inl (.of (k2.t _ _ hq))
  have t2:=RvAll.ts k2 _ t
  have hl:xs.length=es.length:=t.len
  refine⟨fun d hd=>?_,fun h=>by rw[List.length_reverse] at h;show xs.length≤i;lia⟩
  have hi:i<es.length:=by have:=(zr.mp hd).1;rwa [List.length_reverse] at this
  rw[List.getElem?_reverse hi] at hd
  obtain⟨v,e1,r⟩:=t2.get hd
  rw[hl]
  refine⟨⟨xs,v,Iu,hl,hi,e1⟩,fun x' H' ⟨e2,e3⟩=>?_⟩
  subst e2
  have:=e3 xs Iu hl
  rw[e1] at this;cases this
  exact⟨r,.refl _,s2⟩,hZ⟩⟩
end
section
variable{K:Frag}{X:Cx}{pos:Pos}
def OP(tc:qE)(tb:lM):lM:=fun De σ S Z=>∃P:Nat→SD→aG→Prop,(∃m,P m σ S)∧∀m σ S,P m σ S→tc σ S (fun b S1=>if b=true then tb { De with nx:=fun aD S'=>∃m',m'<m∧P m' aD S',ct:=fun aD S'=>∃m',m'<m∧P m' aD S',bk:=De.nx } σ S1 Z else De.nx σ S1) (Z σ)
theorem swh(hc:DT K X c tc)(hb:AX K X true body tb):DS K X true (.While c body [] pos) (OP tc tb) :=
 ⟨fun y=>(Fq (X:=y.cx) (y.ok.loop rfl) (hc.of y) (hb.of y)).mono <| by rintro D τ H ⟨σ,S,De,Z,aA,hS,⟨P,⟨m,p0⟩,turn⟩,hD,hZ⟩;exact
  ⟨fun m Qm H'=>∃σ S,fO K H' σ Qm∧Rs K S H'∧P m σ S∧Kp K H H',⟨m,σ,S,aA,hS,p0,.refl _⟩,by rintro m Vf H1 ⟨uC,S1,a1,s1,p1,k1⟩;exact⟨uC,S1,_,Z uC,a1,s1,turn m uC S1 p1,fun b S2 H2 r2 s2 k2=>by
   cases b with
   |true =>
    rw[if_pos rfl] at r2 ⊢
    refine⟨fun τ3 H3=>∃σ S,fO K H3 σ τ3∧Rs K S H3∧(∃m',m'<m∧P m' σ S)∧Kp K H H3,by rintro τ3 H3 ⟨g8,S3,a3,s3,⟨m',hm,p3⟩,k3⟩;exact⟨m',hm,g8,S3,a3,s3,p3,k3⟩,?_⟩
    have kk:=k1.trans k2
    exact⟨uC,S2,_,Z,a1.ts k2,s2,r2,⟨fun Ov S5 XW H5 r5 a5 s5 k5=>⟨Ov,S5,a5,s5,r5,kk.trans k5⟩,hD.rt.kp kk,hD.nx.kp kk,fun Ov S5 XW H5 r5 a5 s5 k5=>⟨Ov,S5,a5,s5,r5,kk.trans k5⟩⟩,hZ.kp kk⟩
   |false =>
    rw[if_neg zd] at r2 ⊢
    exact hD.nx _ _ _ _ r2 (a1.ts k2) s2 (k1.trans k2),(hZ.kp k1).at a1⟩⟩⟩
def Yr(i:Nat)(te:TD):lM:=fun De σ S Z=>∃a:Int,σ[i]?=some (some (.int a))∧te σ S (fun d S1=>∃b:Int,d=.int b∧De.nx (σ.set i (some (.int (a+b)))) S1) (Z σ)
theorem sau(hN:X.N.Nodup)(he:DE K X e te)(hi:X.N[i]?=some x:=by rfl)(hx:Loc X.env.scope x:=by first|exact .inl rfl|exact .inr rfl)(hf:X.fn x=true∨X.env.scope.names.lookup x=some .local:=by first|exact .inl rfl|exact .inr rfl) :
  DS K X b (.AugAssign (.Name x pos') .Add e pos) (Yr i te) :=
 ⟨fun y=>(MY (X:=y.cx) hN hi hx (he.of y) MZ hf).mono <| by
  rintro D τ H ⟨σ,S,De,Z,aA,hS,⟨a,ha,t⟩,hD,hZ⟩
  obtain⟨v,e1,r⟩:=aA.get ha
  exact⟨v,e1,σ,S,_,Z σ,aA,hS,t,by
   rintro d S1 u H1 ⟨c,e2,n⟩ rv s1 k1
   subst e2
   exact⟨a,c,r.int,rv.int,hD.nx _ _ _ _ n ((aA.ts k1).set i (aO _)) s1 k1⟩,hZ.at aA⟩⟩
end
section
variable{K:Frag}{X:Cx}
def vD:V→D
 |.int i=>.int i
 |.str z=>.str z
 |.bl b=>.bl b
 |_=>.aw
def GR:V→Bool
 |.int _=>true
 |.str _=>true
 |_=>false
def Tz(kvs:List (Str×V))(ty:TD):TD:=fun σ S R Z=>ty σ S (fun y S1=>∃z,y=.str z∧R ((kvs.lookup z).elim .aw vD) S1) Z
theorem mgk{w:World}{ad:Addr}{kvs:List (Str×V)}{o e:Expr}{apos aQ:Pos}{ty:TD}(d:JM w K ad kvs)(hf:(kvs.all fun p=>GR p.2)=true)(ho:∀Y:Cx,Y.env=X.env→Y.mg=X.mg→PE Y o (tC (.ref ad)))(he:DE K X e ty)(hw:X.w=w:=by rfl)(hK:X.K=K:=by rfl)(m:M1 X o "get" apos e aQ:=by exact⟨rfl,rfl,rfl,rfl⟩) :
  DE K X (.Call (.Attribute o "get" apos) [e] [] aQ) (Tz kvs ty) :=
 ⟨fun y=>(Gg (X:=y.cx) hw hK (ho y.cx rfl rfl) (he.of y) ⟨m.base,m.E_,m.line,m.trees⟩).mono <| by rintro τ H Q ⟨σ,S,R,Z,aA,hS,q,hR,hZ⟩;exact⟨ad,kvs,rfl,d,σ,S,_,Z,aA,hS,q,by
  rintro yv S1 v H1 ⟨z,e1,r⟩ rv s1 k1
  subst e1
  refine⟨z,rv.str,hR _ _ _ _ r ?_ s1 k1⟩
  have fl:∀v,kvs.lookup z=some v→GR v=true:=fun v hv=>by
   have:=zY hv
   exact yg.mp hf _ this
  cases q:kvs.lookup z with
  |none=>exact i5
  |some v =>
   have:=fl v q
   cases v with
   |int i=>exact aO i
   |str i=>exact i6 i
   |_=>(cases this),hZ⟩⟩
end
section
variable{X:Cx}
end
section
variable{K:Frag}
end
section
variable{X:Cx}
def TB:R2:=fun x y H Q=>∃a z n,x=.ref a∧y=.int n∧H a=some (.lst [z])∧0≤n∧n≤1000∧∀p,H p=none→Q (.ref p) (upd H p (.lst (List.replicate n.toNat z)))
theorem Km:gp X (binaryOp .Mult) TB:=by
 intro pins s σ H x y v u Q I rx ry h
 obtain⟨a,z,n,rfl,rfl,ha,h1,h2,q⟩:=h
 cases rx
 obtain⟨t',rfl⟩:=ry
 obtain⟨z2,mZ,k,r2,hl,ho⟩:=I.Dz ha
 obtain⟨w,rfl,lU⟩:=r2.one
 refine wpAny_binaryOp_repeat_ref (T := "list") (U := "int") (by decide) ⟨_,ho,rfl⟩ (fun s'=>typeIs_int s' n t') noFill_list_mul F.fills_int_mul F.slot_int_rmul repeat_list F.slot_int_index.lookup
  (yG F.slot_int_rmul (typeIs_int s n t') F.entry_int_rmul (F.args_int_rmul_2 _ _) (int___rmul___int_list n t' a [w].toArray k) ⟨ho,rfl,⟨_,ho,rfl⟩,?_⟩)
 refine yG F.slot_list_mul ⟨_,ho,rfl⟩ F.entry_list_mul (F.args_list_mul_2 _ _) (AutoListH.list___mul___list_int_3 a [w].toArray k n t' (by simp [Builtin.List.listFitsIndex];lia) (by simp;lia) (by simp [Builtin.List.listTooLong,sizeLine];lia)) ⟨ho,?_⟩
 rw[if_neg (by simp),show (#[]:Array Value)=([]:List Value).toArray from rfl,show [w].toArray=#[w] from rfl,uQ,List.nil_append]
 refine⟨.ref s.heap.objs.size,_,I.laid (t':=s.toks) (fun _ _ q=>zb _ q) (zo _) ?_,rfl,q _ I.fresh⟩
 exact (show aV X.prog X.w _ _ _ (.lst (List.replicate n.toNat z)) from ⟨by rw[zG];exact U_ (by lia),_,_,qB lU _,zq _ rfl⟩)
end
section
variable{K:Frag}
def TC:t_:=fun x y S R=>∃a d n,x=.ref a∧y=.int n∧S a=some (.lst [d])∧0≤n∧n≤1000∧∀p,S p=none→R (.ref p) (S.set p (.lst (List.replicate n.toNat d)))
theorem A5:oV K (binaryOp .Mult) TC:=by
 rintro X hK hu pins s σ H x y v u Q I rx ry ⟨d,e,S,R,r1,r2,hS,⟨a,d0,n,e1,e2,e3,h1,h2,h⟩,hR⟩
 subst e1 e2
 obtain⟨zs,e4,t⟩:=hS.lst e3
 obtain⟨z,rfl,rz⟩:=t.one
 exact Km pins s σ H _ _ v u Q I rx ry ⟨a,z,n,r1.ref,r2.int,e4,h1,h2,fun p hp=>hR.new hS hp (h p) (A1 rz _)⟩
end
theorem gK(hm:X.mg x=some (.ref a))(hg:Gl X x:=by rfl)(hd:(x == ("__debug__" : Str))=false:=by decide):∀Y:Cx,Y.env=X.env→Y.mg=X.mg→PE Y (.Name x pos) (tC (.ref a)) :=
 fun Y e1 e2=>BY (X:=Y) (u:=.ref a) (show Y.env.kindOf x=_ by rw[e1];exact hg) (by rw[e2];exact hm) rfl hd
structure Fb(K:Frag)(x q:Str)(st:Stmt)(ps:List Str)(f:Addr)(d:FuncData):Prop where
 F:uY K x q st f d
 b:Binds K d ps []
structure dP(K:Frag)(mg:Str→Option Value)(x:Str)(st:Stmt)(ps:List Str)(f:Addr)(d:FuncData):Prop extends Fb K x x st ps f d where
 k:keepIn K (.ref f)=true
 m:mg x=some (.ref f)
structure A6(K:Frag)(c:Addr)(x q:Str)(st:Stmt)(ps:List Str)(f:Addr)(d:FuncData):Prop extends Fb K x q st ps f d where
 e:Meth K c x f
abbrev Ok(P:Program)(w:World)(base:Heap){K:Frag}{mg:Str→Option Value}{x:Str}{st:Stmt}{ps:List Str}{f:Addr}{d:FuncData}(_:dP K mg x st ps f d)(k:Nat)(sp:eF):Prop:=bZ P w K mg base (fU P w) k f d ps (sS K sp)
abbrev A7(P:Program)(w:World)(mg:Str→Option Value)(base:Heap){K:Frag}{c:Addr}{x q:Str}{st:Stmt}{ps:List Str}{f:Addr}{d:FuncData}(_:A6 K c x q st ps f d)(k:Nat)(sp:eF):Prop:=bZ P w K mg base (fU P w) k f d ps (sS K sp)
theorem cX{N P:List Str}{sc:Scope}(a:sc.kind=.function∧sc.isCoroutine=false∧sc.isGenerator=false∧N.take P.length=P:=by exact⟨rfl,rfl,rfl,rfl⟩)(b:N.Nodup∧(∀x∈P,sc.names.lookup x=some .local∨sc.names.lookup x=some .cell)∧∀y∈sc.names,y.2≠.free:=by trivial):ah N P sc:=⟨a.1,a.2.1,a.2.2.1,b.1,a.2.2.2,b.2.1,b.2.2⟩
section
variable{R:Prop}{K:Frag}{h:Heap}{mg:Str→Option Value}{od an:Option Addr}{sl:Array (Option Value)}{oc dV kV dc pm cd ct:Value}{f da:Addr}{Qu:Option Addr}{dn:Nat}{Qv:Array (Option Value)}{c:Addr}{tk:Tok}{d:FuncData}
theorem fi(X:K.In h)(G:h.Ns mainGlobals mg)(x:Str)(st:Stmt)(ps:List Str)(a:nsIn K mainGlobals x=some (some (.ref f)))(l:K.lookup f=some ⟨oc,od,.func (fnOf x x (cB st) (bH st) (ae st) dV kV dc pm an cd ct),sl⟩)
  (e:codeIn K cd x=true) (k:keepIn K (.ref f)=true) (b:∀us:List Value,us.length=ps.length→bindArgs (fnOf x x (cB st) (bH st) (ae st) dV kV dc pm an cd ct) ⟨us,[]⟩=pure (ps.zip us)) (g:∀d,dP K mg x st ps f d→R):R :=
 g _ ⟨⟨⟨_,_,_,_,_,_,_,_,_,_,rfl,l,e⟩,.all b⟩,k,mg_of X G a⟩
theorem Ys(X:K.In h)(G:h.Ns mainGlobals mg)(x:Str)(st:Stmt)(ps:List Str)(a:nsIn K mainGlobals x=some (some (.ref f)))(l:K.lookup f=some ⟨oc,od,.func (fnOf x x (cB st) (bH st) (ae st) dV kV dc pm an cd ct),sl⟩)
  (e:codeIn K cd x=true) (k:keepIn K (.ref f)=true) (b:∀us:List Value,us.length=ps.length→bindArgs (fnOf x x (cB st) (bH st) (ae st) dV kV dc pm an cd ct) ⟨us,[]⟩=pure (ps.zip us)) (g:∀d,d.code=cd→(∀(s:Shared) (us:List Value),us.length=ps.length→BindsTo s d ⟨us,[]⟩ (ps.zip us))→dP K mg x st ps f d→R):R :=
 g _ rfl (fun s us h=>.of_eq (b us h)) ⟨⟨⟨_,_,_,_,_,_,_,_,_,_,rfl,l,e⟩,.all b⟩,k,mg_of X G a⟩
theorem Iy(C:uD K c)(x q:Str)(st:Stmt)(ps:List Str)(a:findIn K (.ref c) x=some (some (.ref f)))(i:isFn K (.ref f)=true)(l:K.lookup f=some ⟨oc,od,.func (fnOf x q (cB st) (bH st) (ae st) dV kV dc pm an cd ct),sl⟩)
  (e:codeIn K cd q=true) (k:keepIn K (.ref f)=true) (b:∀us:List Value,us.length=ps.length→bindArgs (fnOf x q (cB st) (bH st) (ae st) dV kV dc pm an cd ct) ⟨us,[]⟩=pure (ps.zip us)) (g:∀d,A6 K c x q st ps f d→R):R :=
 g _ ⟨⟨⟨_,_,_,_,_,_,_,_,_,_,rfl,l,e⟩,.all b⟩,a,i,k⟩
theorem fnd(X:K.In h)(G:h.Ns mainGlobals mg)(x:Str)(st:Stmt)(ps:List Str)(a:nsIn K mainGlobals x=some (some (.ref f)))(l:K.lookup f=some ⟨oc,od,.func (fnOf x x (cB st) (bH st) (ae st) (.ref da) kV dc pm an cd ct),sl⟩)
  (t:K.lookup da=some ⟨.type "tuple",Qu,.seq #[.none] dn,Qv⟩) (e:codeIn K cd x=true) (k:keepIn K (.ref f)=true)
  (b:∀(s:Shared) (us:List Value),s.heap.get? da=some ⟨.type "tuple",Qu,.seq #[.none] dn,Qv⟩→us.length=ps.length→BindsTo s (fnOf x x (cB st) (bH st) (ae st) (.ref da) kV dc pm an cd ct) ⟨us,[]⟩ (ps.zip us))
  (b2:∀(s:Shared) (us:List Value),s.heap.get? da=some ⟨.type "tuple",Qu,.seq #[.none] dn,Qv⟩→us.length+1=ps.length→BindsTo s (fnOf x x (cB st) (bH st) (ae st) (.ref da) kV dc pm an cd ct) ⟨us,[]⟩ (ps.zip (us++[.none])))
  (g:∀d,dP K mg x st ps f d→Binds K d ps [.none]→R):R :=
 g _ ⟨⟨⟨_,_,_,_,_,_,_,_,_,_,rfl,l,e⟩,fun s us hK hl=>by rw[yC] at hl ⊢;exact b s us (hK _ _ t) hl⟩,k,mg_of X G a⟩ fun s us hK hl=>b2 s us (hK _ _ t) (by simpa using hl)
theorem fmd(C:uD K c)(x q:Str)(st:Stmt)(ps:List Str)(a:findIn K (.ref c) x=some (some (.ref f)))(i:isFn K (.ref f)=true)(l:K.lookup f=some ⟨oc,od,.func (fnOf x q (cB st) (bH st) (ae st) (.ref da) kV dc pm an cd ct),sl⟩)
  (t:K.lookup da=some ⟨.type "tuple",Qu,.seq #[.none] dn,Qv⟩) (e:codeIn K cd q=true) (k:keepIn K (.ref f)=true)
  (b:∀(s:Shared) (us:List Value),s.heap.get? da=some ⟨.type "tuple",Qu,.seq #[.none] dn,Qv⟩→us.length=ps.length→BindsTo s (fnOf x q (cB st) (bH st) (ae st) (.ref da) kV dc pm an cd ct) ⟨us,[]⟩ (ps.zip us))
  (b2:∀(s:Shared) (us:List Value),s.heap.get? da=some ⟨.type "tuple",Qu,.seq #[.none] dn,Qv⟩→us.length+1=ps.length→BindsTo s (fnOf x q (cB st) (bH st) (ae st) (.ref da) kV dc pm an cd ct) ⟨us,[]⟩ (ps.zip (us++[.none])))
  (g:∀d,A6 K c x q st ps f d→Binds K d ps [.none]→R):R :=
 g _ ⟨⟨⟨_,_,_,_,_,_,_,_,_,_,rfl,l,e⟩,fun s us hK hl=>by rw[yC] at hl ⊢;exact b s us (hK _ _ t) hl⟩,a,i,k⟩ fun s us hK hl=>b2 s us (hK _ _ t) (by simpa using hl)
theorem xt(X:K.In h)(G:h.Ns mainGlobals mg)(x:Str)(a:nsIn K mainGlobals x=some none)(g:mg x=none→R):R:=g (PySem.W.mg_none_of X G a)
theorem L9(X:K.In h)(G:h.Ns mainGlobals mg)(x:Str)(i:Int)(a:nsIn K mainGlobals x=some (some (.int i tk)))(g:mg x=some (.int i tk)→R):R:=g (mg_of X G a)
theorem VB(X:K.In h)(G:h.Ns mainGlobals mg)(x:Str)(a:nsIn K mainGlobals x=some (some (.ref c)))(l:K.lookup c=some o)(g:mg x=some (.ref c)→K.lookup c=some o→R):R:=g (mg_of X G a) l
theorem L_(X:K.In h)(G:h.Ns mainGlobals mg)(x:Str)(a:nsIn K mainGlobals x=some (some (.ref c)))(e:excIn K c L2.oT "ValueError.__new__" = true)(g:mg x=some (.ref c)→excIn K c L2.oT "ValueError.__new__" = true→R):R:=g (mg_of X G a) e
theorem gvc(X:K.In h)(G:h.Ns mainGlobals mg)(x:Str)(a:nsIn K mainGlobals x=some (some (.ref c)))(pg:plainGet K c Str.empty=true)(hd:hasDictIn K c=true)(po:plainOver K c=true)(sa:findIn K (.ref c) "__setattr__" = some (some (.builtin "object.__setattr__")))(ms:makesIn K c=true)(kc:keepIn K (.ref c)=true)
  (g:mg x=some (.ref c)→uD K c→makesIn K c=true→keepIn K (.ref c)=true→R):R:=g (mg_of X G a) ⟨pg,hd,po,sa⟩ ms kc
theorem Yt(C:uD K c)(x:Str)(a:findIn K (.ref c) x=some none)(g:findIn K (.ref c) x=some none→R):R:=g a
theorem OQ(l:K.lookup c=some o)(e:codeHdIn [(c,o)] c P=true):codeHdIn K c P=true:=by
 unfold codeHdIn at e ⊢
 rw[l]
 rw[show ([(c,o)]:Frag).lookup c=some o by simp] at e
 exact e
theorem gvm(X:K.In h)(e:d.code=.ref c)(o:K.lookup c=some ⟨oC,od,.fields vC,sl⟩)(q:vC[11]?=some (.ref P))(hh:codeHdIn [(c,⟨oC,od,.fields vC,sl⟩)] c P=true)(g:codeHdIn K c P=true→R):R:=g (OQ o hh)
end
section
variable{Q:List Value→Prop}
theorem ln0(h:Q [])(us:List Value)(e:us.length=0):Q us:=by cases us with
 |nil=>exact h
 |cons a us=>cases e
theorem GS(h:∀a us,us.length=n→Q (a::us))(us:List Value)(e:us.length=n+1):Q us:=by cases us with
 |nil=>cases e
 |cons a us=>exact h a us (Nat.succ.inj e)
theorem so(h:∀a,Q [a]):∀us:List Value,us.length=1→Q us:=GS fun a=>ln0 (h a)
theorem ln2(h:∀a b,Q [a,b]):∀us:List Value,us.length=2→Q us:=GS fun a=>so (h a)
theorem Af(h:∀a b c,Q [a,b,c]):∀us:List Value,us.length=3→Q us:=GS fun a=>ln2 (h a)
theorem Yu(h:∀a b c d,Q [a,b,c,d]):∀us:List Value,us.length=4→Q us:=GS fun a=>Af (h a)
theorem ln5(h:∀a b c d e,Q [a,b,c,d,e]):∀us:List Value,us.length=5→Q us:=GS fun a=>Yu (h a)
theorem Yv(h:∀a,Q [a])(us:List Value)(e:us.length+1=2):Q us:=so h us (Nat.succ.inj e)
theorem TF(h:∀a b,Q [a,b])(us:List Value)(e:us.length+1=3):Q us:=ln2 h us (Nat.succ.inj e)
theorem Yw(h:∀a b c,Q [a,b,c])(us:List Value)(e:us.length+1=4):Q us:=Af h us (Nat.succ.inj e)
end
section
variable{R:Prop}{K:Frag}{h:Heap}{mg:Str→Option Value}{X Y:Str}{c d:Addr}
theorem Ko(_:K.In h)(_:mg X=some (.ref c))(_:mg Y=some (.ref d))(b:Bool)(e:kitOne K (.ref c) (.ref d)=some b)(g:kitOne K (.ref c) (.ref d)=some b→R):R:=g e
theorem Yx(_:K.In h)(_:mg X=some (.ref c))(e:kitOne K (.ref c) (.type "ValueError")=some true)(g:kitOne K (.ref c) (.type "ValueError")=some true→R):R:=g e
theorem Yy(_:K.In h)(_:mg X=some (.ref c))(_:mg Y=some (.ref d))(e:mroIn K c (.ref d)=some true)(g:mroIn K c (.ref d)=some true→R):R:=g e
theorem Yz(_:K.In h)(_:mg X=some (.ref c))(e1:findIn K (.ref c) "__getattribute__" = some (some (.builtin "BaseException.__getattribute__")))(e2:findIn K (.ref c) "__getattr__" = some none)(e3:findIn K (.ref c) "__class__" = some (some (.builtin "object.__class__")))(g:XA K c→R):R:=g ⟨e1,e2,e3⟩
theorem Iz(h:kitOne K C a=some false)(h2:kitAny K C r=some false):kitAny K C (a::r)=some false:=by
 unfold kitAny
 rw[h];exact h2
theorem OR{Y0 Y1 Y2 Y3 Y4 Y5 Y6 Y7 Y8 Y9:Str}{d0 d1 d2 d3 d4 d5 d6 d7 d8 d9:Addr}(_:K.In h)(_:mg X=some (.ref c))(_:mg Y0=some (.ref d0))(_:mg Y1=some (.ref d1))(_:mg Y2=some (.ref d2))(_:mg Y3=some (.ref d3))(_:mg Y4=some (.ref d4))(_:mg Y5=some (.ref d5))(_:mg Y6=some (.ref d6))(_:mg Y7=some (.ref d7))(_:mg Y8=some (.ref d8))(_:mg Y9=some (.ref d9))(e0:kitOne K (.ref c) (.ref d0)=some false)(e1:kitOne K (.ref c) (.ref d1)=some false)(e2:kitOne K (.ref c) (.ref d2)=some false)(e3:kitOne K (.ref c) (.ref d3)=some false)(e4:kitOne K (.ref c) (.ref d4)=some false)(e5:kitOne K (.ref c) (.ref d5)=some false)(e6:kitOne K (.ref c) (.ref d6)=some false)(e7:kitOne K (.ref c) (.ref d7)=some false)(e8:kitOne K (.ref c) (.ref d8)=some false)(e9:kitOne K (.ref c) (.ref d9)=some false)(g:kitAny K (.ref c) ([d0,d1,d2,d3,d4,d5,d6,d7,d8,d9].map Value.ref)=some false→R):R:=g (Iz e0 (Iz e1 (Iz e2 (Iz e3 (Iz e4 (Iz e5 (Iz e6 (Iz e7 (Iz e8 (Iz e9 rfl))))))))))
end
section
variable{K:Frag}{X:Cx}{x:Str}{st:Stmt}{ps:List Str}{f:Addr}{fd:FuncData}{sp:eF}{e:Expr}{es:List Expr}{p pos:Pos}
theorem aZ(T:dP K X.mg x st ps f fd)(F:bZ X.prog X.w K X.mg X.base (fU X.prog X.w) k f fd ps (sS K sp))(hr:cu k' X.A)(ha:DA K X (e::es) t)(hle:k≤k':=by first|decide|omega)
  (hg:Gl X x:=by rfl) (kO:(x == ("__debug__" : Str))=false:=by decide) (he:starEach (e::es) X.env=(false,eval e X.env)::starEach es X.env:=by rfl) (eT:(backTo pos (starEach es X.env)).any (·.1)=false:=by rfl) (hK:X.K=K:=by rfl) :
  DE K X (.Call (.Name x p) (e::es) [] pos) (LN sp [] t):=cf (F.mono hle) hr T.m T.k T.b d0 ha hg kO he eT hK
theorem Qw{R:Prop}{h:Heap}{mg:Str→Option Value}{c:Addr}(X:K.In h)(G:h.Ns mainGlobals mg)(x:Str)(a:nsIn K mainGlobals x=some (some (.ref c)))(g:mg x=some (.ref c)→R):R:=g (mg_of X G a)
end
theorem cu.u(r:cu k A):A.units+64<cLine:=r.units
section
variable{P:Program}{w:World}{K:Frag}{mg:Str→Option Value}{base:Heap}{x qual:Str}{st:Stmt}{f:Addr}{fd:FuncData}{N ps:List Str}{k:Nat}{sp:eF}
theorem uY.dM(F:uY K x qual st f fd)(S:ah N ps (ae st))
  (lT:∀(gq:Value) (A:Around) (outer:List Env) (s:Shared) (H:Hp) (E:XK) (ds:List D) (S:aG) (R:KD) (Z:KX),cu k (A.deeper (PyProof.Rows.envOfC qual (ae st) s.heap.objs.size f gq))→sp ds S R Z →
   ∃t,AX K (kl (fU P w) P w K mg base N qual (ae st) f gq A outer s H E) true (bH st) t∧t { nx:=fun _ S'=>Fo S' (R .aw),rt:=fun d S'=>Fo S' (R d) } (i7 N ds) S fun _ C S'=>Fo S' (Z C))
  (len:∀ds S R Z,sp ds S R Z→ds.length=ps.length:=by intro _ _ _ _ h;repeat first|(obtain⟨e,_⟩:=h;rw[e];rfl;done)|obtain⟨_,h⟩:=h):bZ P w K mg base (fU P w) (k+1) f fd ps (sS K sp):=F.ok S len lT
end
end L2
namespace My
open PySem L2
def top(i:Nat):Stmt:=PySem.Challenge.pw_pageturns_k22_no_plain_answer.main.body.getD i (.Pass ⟨0,0,0,0⟩)
abbrev kU:Stmt:=top 21
abbrev i9:Stmt:=top 22
abbrev i_:Stmt:=top 23
abbrev jZ:Stmt:=top 24
abbrev ma:Stmt:=top 25
abbrev j4:Stmt:=top 26
abbrev nv:Stmt:=top 27
abbrev kW:Stmt:=top 28
abbrev cY:Stmt:=top 31
abbrev ja:Stmt:=top 32
abbrev ie:Stmt:=top 33
abbrev ig:Stmt:=top 34
abbrev jb:Stmt:=top 35
abbrev eY:Stmt:=top 36
abbrev kX:Stmt:=top 37
abbrev qR:Stmt:=top 42
abbrev qS:Stmt:=top 43
abbrev cV:Stmt:=top 44
abbrev ny:Stmt:=top 45
abbrev eB:Stmt:=top 51
abbrev fW:Stmt:=top 52
abbrev dW:Stmt:=top 53
abbrev gw:Stmt:=top 54
abbrev eP:Stmt:=top 55
abbrev jc:Stmt:=top 56
abbrev fj:Stmt:=top 57
abbrev u_:Stmt:=top 59
abbrev kY:Stmt:=top 60
abbrev dX:Stmt:=top 61
abbrev cG:Stmt:=top 62
abbrev kZ:Stmt:=top 63
abbrev cg:Stmt:=top 64
abbrev cj:Stmt:=top 65
abbrev bC:Stmt:=top 66
abbrev gz:Stmt:=top 69
abbrev jd:Stmt:=top 71
abbrev qT:Stmt:=top 72
abbrev qU:Stmt:=top 73
abbrev je:Stmt:=top 74
abbrev nz:Stmt:=top 75
abbrev ij:Stmt:=top 76
abbrev vc:Stmt:=top 77
abbrev nA:Stmt:=top 78
abbrev gJ:Stmt:=top 79
abbrev qW:Stmt:=top 80
abbrev nB:Stmt:=top 81
abbrev qX:Stmt:=top 82
abbrev gA:Stmt:=top 83
abbrev gB:Stmt:=top 84
abbrev eQ:Stmt:=top 85
abbrev k7:Stmt:=top 86
abbrev xu:Stmt:=top 87
abbrev az:Stmt:=top 68
set_option genInjectivity false in
set_option genSizeOfSpec false in
structure jf where
 (A8 xw xx Ei GU Ej Ek A9 oX xy A_ vd xA ve Ba GV GW sV El sW xB nC sX oY GX qY Kq Bb nD qZ Bc nE nF k9 sY xC GY GZ xD Em Bd Kr En Eo G0 Ep G1 sZ s_ oZ Be Ma gL xE q_ vf jg ik jh kr xF me rf ji vg jj jk uk du cw bO aJ aK dY fc dA cZ aE gM fe gN gO ag fX aP eU aL:Addr)
 (Bf xG xH Er G4 Es Et Bg o_ xI Bh vh xJ vi Bi G5 G6 tj Eu tm xK nG tq pj G7 rh CH rj nH rl Bj gP nI fk tu xM G8 G9 xN Ew Bk Ks Ex Ey G_ Ez Ha tw tD pq Bl Hb nJ xO rm vj jl ip jm ku xP fY jo jq:FuncData)
 (mf nK mh rn kx xQ kB mi:Tok)
 ts:List Addr
structure Txt(w:World)(K:Frag)(mg:Str→Option Value)(t:jf):Prop where
 mj:dP K mg "is_whole" kU ["thing"] t.A8 t.Bf
 gQ:dP K mg "is_letter" i9 ["sign"] t.xw t.xG
 nL:dP K mg "is_figure" i_ ["sign"] t.xx t.xH
 pN:dP K mg "is_name" jZ ["thing"] t.Ei t.Er
 nM:dP K mg "is_key" ma ["thing"] t.GU t.G4
 vk:dP K mg "is_word" j4 ["thing"] t.Ej t.Es
 vm:dP K mg "is_kind" nv ["thing"] t.Ek t.Et
 ml:dP K mg "is_value" kW ["kind","thing"] t.A9 t.Bg
 gC:dP K mg "check_columns" cY ["columns"] t.oX t.o_
 nN:dP K mg "is_column" ja ["thing"] t.xy t.xI
 mm:dP K mg "names_of" ie ["columns"] t.A_ t.Bh
 iq:dP K mg "kind_named" ig ["columns","name"] t.vd t.vh
 j5:dP K mg "check_row" jb ["columns","row"] t.xA t.xJ
 k_:dP K mg "are_worths" eY ["columns","thing"] t.ve t.vi
 cH:dP K mg "value_in" kX ["columns","row","name"] t.Ba t.Bi
 vn:dP K mg "is_way" qR ["thing"] t.GV t.G5
 Bn:dP K mg "is_end" qS ["thing"] t.GW t.G6
 jr:dP K mg "check_order" cV ["columns","order"] t.sV t.tj
 vo:dP K mg "is_part" ny ["columns","thing"] t.El t.Eu
 fZ:dP K mg "check_sieve" eB ["columns","sieve"] t.sW t.tm
 nO:dP K mg "is_formed" fW ["columns","thing"] t.xB t.xK
 dD:dP K mg "is_short_tuple" dW ["thing"] t.nC t.nG
 js:dP K mg "fits_column" gw ["columns","sieve"] t.sX t.tq
 gD:dP K mg "sieves_within" eP ["sieves"] t.oY t.pj
 passes:dP K mg "passes" jc ["columns","sieve","row"] t.GX t.G7
 ir:dP K mg "value_passes" fj ["word","value","told"] t.qY t.rh
 plain:dP K mg "plain" u_ ["shelf","order","sieve","moment"] t.Kq t.CH
 Qx:Binds K t.CH ["shelf","order","sieve","moment"] [.none]
 mn:dP K mg "count_of" kY ["shelf","sieve","moment"] t.Bb t.rj
 Kt:Binds K t.rj ["shelf","sieve","moment"] [.none]
 fm:dP K mg "ordered_answer" dX ["shelf","order","sieve","moment"] t.nD t.nH
 eZ:dP K mg "rows_passing" cG ["shelf","sieve","moment"] t.qZ t.rl
 rp:dP K mg "in_order" kZ ["columns","order","rows"] t.Bc t.Bj
 fq:dP K mg "sorted_by_keys" cg ["rows","way"] t.nE t.gP
 ft:dP K mg "sorted_by_part" cj ["columns","part","rows"] t.nF t.nI
 dZ:dP K mg "sorted_by_values" bC ["columns","part","rows"] t.k9 t.fk
 f9:dP K mg "worths_then" gz ["standings","moment"] t.sY t.tu
 j6:dP K mg "_law_cell_at" jd ["_law_script","_law_k"] t.xC t.xM
 rq:dP K mg "_law_well" qT ["_law_cell"] t.GY t.G8
 aM:dP K mg "_law_draw" qU ["_law_well_here","_law_most"] t.GZ t.G9
 nQ:dP K mg "_law_columns" je ["_law_well_here"] t.xD t.xN
 pO:dP K mg "_law_value" nz ["_law_well_here","_law_kind"] t.Em t.Ew
 jt:dP K mg "_law_worths" ij ["_law_well_here","_law_columns_here"] t.Bd t.Bk
 xR:dP K mg "_law_key" vc ["_law_well_here"] t.Kr t.Ks
 pP:dP K mg "_law_order" nA ["_law_well_here","_law_columns_here"] t.En t.Ex
 j7:dP K mg "_law_sieve" gJ ["_law_well_here","_law_columns_here","_law_deep"] t.Eo t.Ey
 Bp:dP K mg "_law_deed" qW ["_law_well_here","_law_columns_here","_law_known_here"] t.G0 t.G_
 vp:dP K mg "_law_known" nB ["_law_known_here","_law_deed_here"] t.Ep t.Ez
 vq:dP K mg "_law_does" qX ["_law_shelf","_law_deed_here"] t.G1 t.Ha
 ju:dP K mg "_law_bad_order" gA ["_law_well_here","_law_columns_here"] t.sZ t.tw
 jv:dP K mg "_law_bad_sieve" gB ["_law_well_here","_law_columns_here"] t.s_ t.tD
 gE:dP K mg "_law_great_sieve" eQ ["_law_well_here","_law_deepest"] t.oZ t.pq
 mq:dP K mg "_law_caught" k7 ["_law_way","_law_shelf","_law_order_here","_law_sieve_here","_law_moment"] t.Be t.Bl
 YA:dP K mg "law" xu ["_law_script"] t.Ma t.Hb
 fu:A6 K t.ag "__init__" "Shelf.__init__" (inClass az 0) ["self","columns"] t.gL t.nJ
 cP:A6 K t.ag "put" "Shelf.put" (inClass az 1) ["self","key","worths"] t.xE t.xO
 bt:A6 K t.ag "change" "Shelf.change" (inClass az 2) ["self","key","worths"] t.q_ t.rm
 cy:A6 K t.ag "take" "Shelf.take" (inClass az 3) ["self","key"] t.vf t.vj
 ba:A6 K t.ag "check_stands" "Shelf.check_stands" (inClass az 4) ["self","key"] t.jg t.jl
 aS:A6 K t.ag "begin_standing" "Shelf.begin_standing" (inClass az 5) ["self","key","worths"] t.ik t.ip
 bb:A6 K t.ag "end_standing" "Shelf.end_standing" (inClass az 6) ["self","key"] t.jh t.jm
 au:A6 K t.ag "has_columns" "Shelf.has_columns" (inClass az 7) ["self"] t.kr t.ku
 bp:A6 K t.ag "now" "Shelf.now" (inClass az 8) ["self"] t.xF t.xP
 c_:A6 K t.ag "worths_at" "Shelf.worths_at" (inClass az 9) ["self","key","moment"] t.me t.fY
 eV:Binds K t.fY ["self","key","moment"] [.none]
 bP:A6 K t.ag "all_at" "Shelf.all_at" (inClass az 10) ["self","moment"] t.rf t.jo
 gR:Binds K t.jo ["self","moment"] [.none]
 bc:A6 K t.ag "moment_meant" "Shelf.moment_meant" (inClass az 13) ["self","moment"] t.ji t.jq
 lh:mg "MOST_NAME_SIGNS" = some (.int 8 t.mf)
 mr:mg "MOST_KEY_SIGNS" = some (.int 12 t.nK)
 lj:mg "MOST_WORD_SIGNS" = some (.int 40 t.mh)
 pv:mg "MOST_COLUMNS" = some (.int 8 t.rn)
 jw:mg "MOST_PARTS_orders" = some (.int 8 t.kx)
 vt:mg "MOST_DEEP" = some (.int 8 t.xQ)
 jx:mg "MOST_PARTS_sieves" = some (.int 200 t.kB)
 lq:mg "MOST_IN_A_TUPLE" = some (.int 8 t.mi)
 Hc:mg "KINDS" = some (.ref t.vg)
 Hd:∀H,Rv K H (.kt [.str "number",.str "word"]) (.ref t.vg)
 vw:mg "OTHER_WAY" = some (.ref t.jj)
 xS:JM w K t.jj [("up",.str "down"),("down",.str "up")]
 vz:mg "OTHER_END" = some (.ref t.jk)
 xT:JM w K t.jk [("first",.str "last"),("last",.str "first")]
 Bq:mg "LENGTHS" = some (.ref t.uk)
 EA:JM w K t.uk [("every",.int 1),("is",.int 3),("below",.int 3),("above",.int 3),("begins",.int 3),("key",.int 2),("not",.int 2),("and",.int 2),("or",.int 2)]
 bK:mg "len" = none
 mw:mg "all" = none
 TH:mg "any" = none
 aq:mg "isinstance" = none
 iu:mg "range" = none
 gT:mg "int" = none
 rA:mg "str" = none
 OS:mg "bool" = none
 cE:mg "tuple" = none
 OT:mg "list" = none
 OU:mg "dict" = none
 Mb:mg "set" = none
 TJ:mg "zip" = none
 gU:mg "sorted" = none
 TK:mg "min" = none
 rB:mg "reversed" = none
 vA:mg "ValueError" = none
 vB:mg "PageError" = some (.ref t.du)
 jy:excIn K t.du L2.oT "ValueError.__new__" = true
 eC:mg "BadColumns" = some (.ref t.cw)
 dE:excIn K t.cw L2.oT "ValueError.__new__" = true
 gW:mg "BadRow" = some (.ref t.bO)
 gX:excIn K t.bO L2.oT "ValueError.__new__" = true
 dw:mg "BadOrder" = some (.ref t.aJ)
 cI:excIn K t.aJ L2.oT "ValueError.__new__" = true
 jz:mg "BadSieve" = some (.ref t.aK)
 fw:excIn K t.aK L2.oT "ValueError.__new__" = true
 xU:mg "BadPlace" = some (.ref t.dY)
 Br:mg "BadSize" = some (.ref t.fc)
 um:mg "HasKey" = some (.ref t.dA)
 rC:excIn K t.dA L2.oT "ValueError.__new__" = true
 xV:mg "NoKey" = some (.ref t.cZ)
 vE:excIn K t.cZ L2.oT "ValueError.__new__" = true
 oH:mg "NoMoment" = some (.ref t.aE)
 iw:excIn K t.aE L2.oT "ValueError.__new__" = true
 EB:mg "NoMark" = some (.ref t.gM)
 Bt:mg "OldMark" = some (.ref t.fe)
 EC:mg "NoText" = some (.ref t.gN)
 ED:mg "NoLine" = some (.ref t.gO)
 jA:XA K t.aJ
 jB:XA K t.aK
 jC:XA K t.aE
 cJ:mroIn K t.aJ (.ref t.du)=some true
 cK:mroIn K t.aK (.ref t.du)=some true
 cL:mroIn K t.aE (.ref t.du)=some true
 jD:kitAny K (.ref t.aJ) ([t.cw,t.dY,t.bO,t.fc,t.dA,t.cZ,t.gO,t.gM,t.gN,t.fe].map Value.ref)=some false
 jE:kitAny K (.ref t.aK) ([t.cw,t.dY,t.bO,t.fc,t.dA,t.cZ,t.gO,t.gM,t.gN,t.fe].map Value.ref)=some false
 jF:kitAny K (.ref t.aE) ([t.cw,t.dY,t.bO,t.fc,t.dA,t.cZ,t.gO,t.gM,t.gN,t.fe].map Value.ref)=some false
 k_BadOrder_BadOrder:kitOne K (.ref t.aJ) (.ref t.aJ)=some true
 k_BadOrder_BadSieve:kitOne K (.ref t.aJ) (.ref t.aK)=some false
 k_BadOrder_NoMoment:kitOne K (.ref t.aJ) (.ref t.aE)=some false
 k_BadOrder_ValueError:kitOne K (.ref t.aJ) (.type "ValueError")=some true
 k_BadSieve_BadOrder:kitOne K (.ref t.aK) (.ref t.aJ)=some false
 k_BadSieve_BadSieve:kitOne K (.ref t.aK) (.ref t.aK)=some true
 k_BadSieve_NoMoment:kitOne K (.ref t.aK) (.ref t.aE)=some false
 k_BadSieve_ValueError:kitOne K (.ref t.aK) (.type "ValueError")=some true
 k_NoMoment_BadOrder:kitOne K (.ref t.aE) (.ref t.aJ)=some false
 k_NoMoment_BadSieve:kitOne K (.ref t.aE) (.ref t.aK)=some false
 k_NoMoment_NoMoment:kitOne K (.ref t.aE) (.ref t.aE)=some true
 k_NoMoment_ValueError:kitOne K (.ref t.aE) (.type "ValueError")=some true
 He:mg "Shelf" = some (.ref t.ag)
 ai:uD K t.ag
 Hf:Mk K t.ag t.gL
 cQ:findIn K (.ref t.ag) "columns" = some none
 cM:findIn K (.ref t.ag) "deeds" = some none
 bR:findIn K (.ref t.ag) "runs" = some none
 f_:t.gP.code=.ref t.fX
 dF:codeHdIn K t.fX t.aP=true
 mx:t.aP∈t.ts
 eW:t.fk.code=.ref t.eU
 cS:codeHdIn K t.eU t.aL=true
 kC:t.aL∈t.ts
 np:[t.aP,t.aL].Nodup
 ta:∀b∈t.ts,b=t.aP∨b=t.aL
 bl:∀(s:Shared) (u:Value),BindsTo s t.Hb ⟨[u],[]⟩ [("_law_script",u)]
theorem xW:ah ["thing"] ["thing"] (ae kU):=cX
theorem vF:ah ["sign"] ["sign"] (ae i9):=cX
theorem vG:ah ["sign"] ["sign"] (ae i_):=cX
theorem Bu:ah ["thing"] ["thing"] (ae jZ):=cX
theorem EF:ah ["thing"] ["thing"] (ae ma):=cX
theorem Bv:ah ["thing"] ["thing"] (ae j4):=cX
theorem Bx:ah ["thing"] ["thing"] (ae nv):=cX
theorem xX:ah ["kind","thing"] ["kind","thing"] (ae kW):=cX
theorem nR:ah ["columns"] ["columns"] (ae cY):=cX
theorem vH:ah ["thing"] ["thing"] (ae ja):=cX
theorem xY:ah ["columns"] ["columns"] (ae ie):=cX
theorem tE:ah ["columns","name"] ["columns","name"] (ae ig):=cX
theorem vI:ah ["columns","row"] ["columns","row"] (ae jb):=cX
theorem tG:ah ["columns","thing"] ["columns","thing"] (ae eY):=cX
theorem xZ:ah ["columns","row","name"] ["columns","row","name"] (ae kX):=cX
theorem EG:ah ["thing"] ["thing"] (ae qR):=cX
theorem EH:ah ["thing"] ["thing"] (ae qS):=cX
theorem fz:ah ["columns","order","parts","names"] ["columns","order"] (ae cV):=cX
theorem By:ah ["columns","thing"] ["columns","thing"] (ae ny):=cX
theorem bD:ah ["columns","sieve","level","deep","parts"] ["columns","sieve"] (ae eB):=cX
theorem vJ:ah ["columns","thing"] ["columns","thing"] (ae fW):=cX
theorem my:ah ["thing"] ["thing"] (ae dW):=cX
theorem jG:ah ["columns","sieve","kind"] ["columns","sieve"] (ae gw):=cX
theorem d_:ah ["sieves","found","sieve"] ["sieves"] (ae eP):=cX
theorem uo:ah ["columns","sieve","row"] ["columns","sieve","row"] (ae jc):=cX
theorem pw:ah ["word","value","told"] ["word","value","told"] (ae fj):=cX
theorem Hg:ah ["shelf","order","sieve","moment"] ["shelf","order","sieve","moment"] (ae u_):=cX
theorem x5:ah ["shelf","sieve","moment"] ["shelf","sieve","moment"] (ae kY):=cX
theorem mz:ah ["shelf","order","sieve","moment"] ["shelf","order","sieve","moment"] (ae dX):=cX
theorem eR:ah ["shelf","sieve","moment","columns"] ["shelf","sieve","moment"] (ae cG):=cX
theorem gb:ah ["columns","order","rows","ordered","part"] ["columns","order","rows"] (ae kZ):=cX
theorem mB:ah ["rows","way"] ["rows","way"] (ae cg):=cX
theorem cF:ah ["columns","part","rows","without","valued"] ["columns","part","rows"] (ae cj):=cX
theorem kD:ah ["columns","part","rows"] ["columns","part","rows"] (ae bC):=cX
theorem jH:ah ["standings","moment","standing"] ["standings","moment"] (ae gz):=cX
theorem vK:ah ["_law_script","_law_k"] ["_law_script","_law_k"] (ae jd):=cX
theorem EI:ah ["_law_cell"] ["_law_cell"] (ae qT):=cX
theorem ee:ah ["_law_well_here","_law_most","_law_found","_law_turn","_law_number"] ["_law_well_here","_law_most"] (ae qU):=cX
theorem dG:ah ["_law_well_here","_law_names","_law_turn","_law_found","_law_k"] ["_law_well_here"] (ae je):=cX
theorem rD:ah ["_law_well_here","_law_kind","_law_stem"] ["_law_well_here","_law_kind"] (ae nz):=cX
theorem x6:ah ["_law_well_here","_law_columns_here"] ["_law_well_here","_law_columns_here"] (ae ij):=cX
theorem Hh:ah ["_law_well_here"] ["_law_well_here"] (ae vc):=cX
theorem fA:ah ["_law_well_here","_law_columns_here","_law_turn","_law_parts","_law_k","_law_name"] ["_law_well_here","_law_columns_here"] (ae nA):=cX
theorem dk:ah ["_law_well_here","_law_columns_here","_law_deep","_law_way","_law_some","_law_name","_law_kind","_law_value_here"] ["_law_well_here","_law_columns_here","_law_deep"] (ae gJ):=cX
theorem gY:ah ["_law_well_here","_law_columns_here","_law_known_here","_law_way","_law_keys","_law_key_here"] ["_law_well_here","_law_columns_here","_law_known_here"] (ae qW):=cX
theorem Bz:ah ["_law_known_here","_law_deed_here"] ["_law_known_here","_law_deed_here"] (ae nB):=cX
theorem EJ:ah ["_law_shelf","_law_deed_here"] ["_law_shelf","_law_deed_here"] (ae qX):=cX
theorem aY:ah ["_law_well_here","_law_columns_here","_law_parts","_law_way","_law_odd","_law_some","_law_name"] ["_law_well_here","_law_columns_here"] (ae gA):=cX
theorem aR:ah ["_law_well_here","_law_columns_here","_law_odd","_law_some","_law_other","_law_name","_law_kind"] ["_law_well_here","_law_columns_here"] (ae gB):=cX
theorem ck:ah ["_law_well_here","_law_deepest","_law_sieve_here","_law_way","_law_k"] ["_law_well_here","_law_deepest"] (ae eQ):=cX
theorem cN:ah ["_law_way","_law_shelf","_law_order_here","_law_sieve_here","_law_moment","_law_told","e","_law_kinds","_law_others"] ["_law_way","_law_shelf","_law_order_here","_law_sieve_here","_law_moment"] (ae k7):=cX
theorem cA:ah ["_law_script","_law_columns_here","_law_shelf","_law_known_here","_law_cell","_law_deed_here","_law_rows","_law_well_here","_law_bad","_law_order_here","_law_odd","_law_sieve_here","_law_moment","_law_due","_law_rest"] ["_law_script"] (ae xu):=cX
theorem mC:ah ["self","columns"] ["self","columns"] (ae (inClass az 0)):=cX
theorem vL:ah ["self","key","worths"] ["self","key","worths"] (ae (inClass az 1)):=cX
theorem px:ah ["self","key","worths"] ["self","key","worths"] (ae (inClass az 2)):=cX
theorem tH:ah ["self","key"] ["self","key"] (ae (inClass az 3)):=cX
theorem iT:ah ["self","key"] ["self","key"] (ae (inClass az 4)):=cX
theorem gZ:ah ["self","key","worths"] ["self","key","worths"] (ae (inClass az 5)):=cX
theorem dR:ah ["self","key","standing"] ["self","key"] (ae (inClass az 6)):=cX
theorem jI:ah ["self"] ["self"] (ae (inClass az 7)):=cX
theorem vM:ah ["self"] ["self"] (ae (inClass az 8)):=cX
theorem fB:ah ["self","key","moment","then"] ["self","key","moment"] (ae (inClass az 9)):=cX
theorem eS:ah ["self","moment","then","rows"] ["self","moment"] (ae (inClass az 10)):=cX
theorem iU:ah ["self","moment"] ["self","moment"] (ae (inClass az 13)):=cX
theorem sm(h:n≤1000):n≤sizeLine:=yA (gI h)
theorem vN:0≤sizeLine:=sm (by decide)
theorem iV:1≤sizeLine:=sm (by decide)
theorem fQ:2≤sizeLine:=sm (by decide)
theorem fR:3≤sizeLine:=sm (by decide)
theorem EK:4≤sizeLine:=sm (by decide)
theorem YB:5≤sizeLine:=sm (by decide)
theorem YC:6≤sizeLine:=sm (by decide)
theorem OV:7≤sizeLine:=sm (by decide)
theorem YD:8≤sizeLine:=sm (by decide)
theorem YE:9≤sizeLine:=sm (by decide)
theorem Mc:10≤sizeLine:=sm (by decide)
abbrev FnD(P:Program)(w:World)(K:Frag)(mg:Str→Option Value)(base:Heap)(k:Nat)(f:Addr)(fd:FuncData)(ps:List Str)(sp:eF):Prop:=bZ P w K mg base (fU P w) k f fd ps (sS K sp)
def Gt(S:aG)(d:D):Prop:=(∃k,Oh S d k)∧∀z,d=.str z→z.cps.size≤1000
def isLet(c:Nat):Bool:=decide (97≤c) && decide (c≤122)
def CI(c:Nat):Bool:=decide (48≤c) && decide (c≤57)
def Hi(c:Nat):Bool:=decide (32≤c) && decide (c≤126)
def jJ(z:Str):Bool:=decide (1≤z.cps.size) && decide (z.cps.size≤8) && z.cps.toList.all isLet
def fC(z:Str):Bool:=decide (1≤z.cps.size) && decide (z.cps.size≤12) && (z.cps.toList.head?.any isLet) && z.cps.toList.all fun c=>isLet c || CI c
def x8(z:Str):Bool:=decide (z.cps.size≤40) && z.cps.toList.all Hi
def ofStr(f:Str→Bool):D→Bool
 |.str z=>f z
 |_=>false
def rE:D→Bool
 |.int _=>true
 |_=>false
def fE(kind:Str)(d:D):Bool:=av d || if kind = "number" then rE d else ofStr x8 d
def x9(f:D→Bool):eF:=fun ds S R _=>∃d,ds=[d]∧Gt S d∧R (.bl (f d)) S
def Hj(f:Nat→Bool):eF:=fun ds S R _=>∃c,ds=[.str ⟨#[c]⟩]∧R (.bl (f c)) S
theorem oI:∀{xs ys:List D}{a b:D},Paired rel xs ys→rel a b→Paired rel (xs++[a]) (ys++[b])
 |_,_,_,_,.nil,r=>.cons r .nil
 |_,_,_,_,.cons q t,r=>.cons q (oI t r)
theorem take_snoc{α:Type}{l:List α}{i:Nat}{d:α}(h:l[i]?=some d):l.take (i+1)=l.take i++[d]:=by
 rw[List.take_add_one,h];rfl
theorem fF{I:Gu}{S1:aG}{g:AY}{te:TD}{σ:SD}{src:List (Option Nat)}{R:KD}(rel:D→D→Prop)(aH:I.ok S1)(hz:I.xs.length≤1000)
  (step:∀d,d∈I.xs→∀Q:KD,(∀v,rel d v→Q v S1)→g d (l9 σ src) S1 fun g8 S3=>te g8 S3 Q Zf) (fin:∀out,Paired rel I.xs out→∀p,S1 p=none→R (.ref p) (S1.set p (.lst out))) :
  xb σ src g ub te R I S1:=by
 refine⟨fun i out S=>S=S1∧Paired rel (I.xs.take i) out,⟨rfl,.nil⟩,fun i out S h=>by rw[h.1];exact aH,?_,?_⟩
 ·rintro i d out S hd ⟨rfl,hp⟩
  have hlen:=Paired.length hp
  rw[yb] at hlen
  refine⟨gI (by lia),?_⟩
  have e:(fun (g8:SD) (S3:aG)=>ub g8 S3 (fun b S4=>if b=true then te g8 S4 (fun v S5=>S5=S∧Paired rel (I.xs.take (i+1)) (out++[v])) Zf else S4=S∧Paired rel (I.xs.take (i+1)) out) Zf)=fun g8 S3=>te g8 S3 (fun v S5=>S5=S∧Paired rel (I.xs.take (i+1)) (out++[v])) Zf:=by
   funext g8 S3
   simp [ub]
  rw[e]
  exact step d (zK hd) _ fun v hv=>⟨rfl,by rw[take_snoc hd];exact oI hp hv⟩
 ·rintro out S2 ⟨rfl,hp⟩
  rw[yx] at hp
  exact fin out hp
theorem rF:∀{xs out:List D},Paired (fun d v=>v=f d) xs out→out=xs.map f
 |_,_,.nil=>rfl
 |_,_,.cons r t=>by rw[r,rF t];rfl
theorem comp_map(f:D→D)(aH:I.ok S1)(hz:I.xs.length≤1000)
  (step:∀d,d∈I.xs→∀Q:KD,Q (f d) S1→g d (l9 σ src) S1 fun g8 S3=>te g8 S3 Q Zf) (fin:∀p,S1 p=none→R (.ref p) (S1.set p (.lst (I.xs.map f)))) :
  xb σ src g ub te R I S1 :=
 fF (fun d v=>v=f d) aH hz (fun d hd Q h=>step d hd Q (h _ rfl)) fun out hp p hp'=>by rw[rF hp];exact fin p hp'
theorem j8{I:Gu}{S1:aG}{g:AY}{tc:qE}{te:TD}{σ:SD}{src:List (Option Nat)}{R:KD}(keep:D→Bool)(f:D→D)(aH:I.ok S1)(hz:I.xs.length≤1000)
  (step:∀d,d∈I.xs→∀(Q:KD) (Q':aG→Prop),(keep d=true→Q (f d) S1)→(keep d=false→Q' S1)→g d (l9 σ src) S1 fun g8 S3=>tc g8 S3 (fun b S4=>if b=true then te g8 S4 Q Zf else Q' S4) Zf)
  (fin:∀p,S1 p=none→R (.ref p) (S1.set p (.lst ((I.xs.filter keep).map f)))) :
  xb σ src g tc te R I S1:=by
 refine⟨fun i out S=>S=S1∧out=((I.xs.take i).filter keep).map f,⟨rfl,rfl⟩,fun i out S h=>by rw[h.1];exact aH,?_,?_⟩
 ·rintro i d out S hd ⟨rfl,rfl⟩
  have hlen:((I.xs.take i).filter keep).length≤(I.xs.take i).length:=List.length_filter_le _ _
  rw[yb] at hlen
  refine⟨by rw[zc];exact gI (by lia),?_⟩
  refine step d (zK hd) _ (fun S4=>S4=S∧_=_) (fun hk=>⟨rfl,?_⟩) fun hk=>⟨rfl,?_⟩
  ·rw[take_snoc hd,List.filter_append,zN,List.filter_cons,if_pos hk];rfl
  ·rw[take_snoc hd,List.filter_append,List.filter_cons,if_neg (by rw[hk];exact zd)];simp
 ·rintro out S2 ⟨rfl,rfl⟩
  rw[yx]
  exact fin
variable{P:Program}{w:World}{K:Frag}{mg:Str→Option Value}{base:Heap}{t:jf}
theorem oJ(T:Txt w K mg t):Ok P w base T.mj 1 (x9 rE):=by
 refine T.mj.F.dM xW ?_
 rintro _ _ _ _ _ _ ds S R Z hr ⟨d,e,⟨⟨k,hk⟩,hz⟩,q⟩
 subst e
 refine⟨_,(s1 (sr (uT (cb dQ T.aq ak (ac (dv 0) (ac (uS T.gT dS) an))) (JR (Sf (cb dQ T.aq ak (ac (dv 0) (ac (uS T.OS Jt) an)))))))),?_⟩
 refine⟨_,rfl,_,_,_,_,rfl,Jw,hk,_,rfl,?_⟩
 have:(AH k=true∧((rE d=true∧uL k=false)∨(rE d=false∧uL k=true)))∨(AH k=false∧rE d=false):=by
  cases d with
  |aw=>cases hk;exact .inr ⟨rfl,rfl⟩
  |bl b=>cases hk;exact .inl ⟨rfl,.inr ⟨rfl,rfl⟩⟩
  |int b=>cases hk;exact .inl ⟨rfl,.inl ⟨rfl,rfl⟩⟩
  |str b=>cases hk;exact .inr ⟨rfl,rfl⟩
  |tup b=>cases hk;exact .inr ⟨rfl,rfl⟩
  |ref a=>rcases hk with ⟨rfl,_⟩|⟨rfl,_⟩ <;> exact .inr ⟨rfl,rfl⟩
  |_=>exact hk.elim
 rcases this with ⟨h1,h2⟩|⟨h1,h2⟩
 ·rw[h1]
  refine dh ⟨_,rfl,_,_,_,_,rfl,FW,hk,_,rfl,?_⟩
  rcases h2 with ⟨h2,h3⟩|⟨h2,h3⟩ <;> (rw[h3];rw[h2] at q;exact fo q)
 ·rw[h1]
  rw[h2] at q
  exact eO (fo q)
theorem iy(T:Txt w K mg t):Ok P w base T.gQ 1 (Hj isLet):=by
 refine T.gQ.F.dM vF ?_
 rintro _ _ _ _ _ _ ds S R Z hr ⟨c,e,q⟩
 subst e
 refine⟨_,(s1 (sr (cc kT kT hr.u ds (dv 0) ds))),?_⟩
 refine⟨_,rfl,_,rfl,?_⟩
 have e1:Fc "a" ⟨#[c]⟩=decide (97≤c):=jX 97 c
 have e2:Fc ⟨#[c]⟩ "z" = decide (c≤122):=jX c 122
 unfold isLet at q
 refine bJ (fun h=>?_) (fun h=>?_)
 ·rw[e1.symm.trans h,zO,← e2] at q
  exact fo q
 ·rw[e1.symm.trans h,zR] at q
  exact fo q
theorem vO(T:Txt w K mg t):Ok P w base T.nL 1 (Hj CI):=by
 refine T.nL.F.dM vG ?_
 rintro _ _ _ _ _ _ ds S R Z hr ⟨c,e,q⟩
 subst e
 refine⟨_,(s1 (sr (cc kT kT hr.u ds (dv 0) ds))),?_⟩
 refine⟨_,rfl,_,rfl,?_⟩
 have e1:Fc "0" ⟨#[c]⟩=decide (48≤c):=jX 48 c
 have e2:Fc ⟨#[c]⟩ "9" = decide (c≤57):=jX c 57
 unfold CI at q
 refine bJ (fun h=>?_) (fun h=>?_)
 ·rw[e1.symm.trans h,zO,← e2] at q
  exact fo q
 ·rw[e1.symm.trans h,zR] at q
  exact fo q
theorem EL(h:d∈fh z):∃c,c∈z.cps.toList∧d=.str ⟨#[c]⟩:=by
 unfold fh at h
 obtain⟨c,hc,e⟩:=zf.mp h
 exact⟨c,hc,e.symm⟩
def CJ(f:Nat→Bool):D→D
 |.str z=>.bl (z.cps.toList.head?.any f)
 |_=>.aw
theorem EM:(fh z).map (CJ f)=(z.cps.toList.map f).map D.bl:=by
 unfold fh
 rw[zF,zF]
 rfl
theorem all_map{α:Type}{l:List α}{f:α→Bool} : (l.map f).all id=l.all f:=by
 rw[List.all_map];rfl
theorem nS{z:Str}{f:Nat→Bool}{g:AY}{te:TD}{σ:SD}{src:List (Option Nat)}{S:aG}{R:KD}{Z:KX}{i:Nat}(hv:σ[i]?=some (some (.str z)))(hz:z.cps.size≤1000)
  (step:∀c,c∈z.cps.toList→∀Q:KD,Q (.bl (f c)) S→g (.str ⟨#[c]⟩) (l9 σ src) S fun g8 S3=>te g8 S3 Q Zf) (q:R (.bl (z.cps.toList.all f)) S) :
  Si Sq (LJ (Cr (LW (Sb i)) src g ub te) Oe) σ S (fun d S'=>Fo S' (R d)) Z:=by
 refine⟨_,hv,z,rfl,?_⟩
 refine My.comp_map (I:=⟨fh z,fun _=>True⟩) (CJ f) trivial (by show (fh z).length≤1000;unfold fh;rw[zc,ye];exact hz) (fun d hd Q hQ=>?_) fun p hp=>?_
 ·obtain⟨c,hc,rfl⟩:=EL hd
  exact step c hc Q (by simpa [CJ] using hQ)
 ·refine⟨.ref p,z.cps.toList.map f,rfl,?_,S,.new hp,?_⟩
  ·show (S.set p (.lst ((fh z).map (CJ f)))) p=_
   rw[aa,EM]
  ·rw[all_map];exact q
theorem nT{S:aG}{d:D}{k:Kd}(hk:Oh S d k):(∃z,d=.str z∧AI k=true)∨(AI k=false∧∀f,ofStr f d=false):=by
 cases d with
 |str b=>cases hk;exact .inl ⟨b,rfl,rfl⟩
 |aw=>cases hk;exact .inr ⟨rfl,fun _=>rfl⟩
 |bl b=>cases hk;exact .inr ⟨rfl,fun _=>rfl⟩
 |int b=>cases hk;exact .inr ⟨rfl,fun _=>rfl⟩
 |tup b=>cases hk;exact .inr ⟨rfl,fun _=>rfl⟩
 |ref a=>rcases hk with ⟨rfl,_⟩|⟨rfl,_⟩ <;> exact .inr ⟨rfl,fun _=>rfl⟩
 |_=>exact hk.elim
theorem nU{S:aG}{d:D}{k:Kd}(hk:Oh S d k):(∃ds,d=.tup ds∧qr k=true)∨(qr k=false∧∀ds,d≠.tup ds):=by
 cases d with
 |tup b=>cases hk;exact .inl ⟨b,rfl,rfl⟩
 |aw=>cases hk;exact .inr ⟨rfl,fun _=>nofun⟩
 |bl b=>cases hk;exact .inr ⟨rfl,fun _=>nofun⟩
 |int b=>cases hk;exact .inr ⟨rfl,fun _=>nofun⟩
 |str b=>cases hk;exact .inr ⟨rfl,fun _=>nofun⟩
 |ref a=>rcases hk with ⟨rfl,_⟩|⟨rfl,_⟩ <;> exact .inr ⟨rfl,fun _=>nofun⟩
 |_=>exact hk.elim
theorem rG(T:Txt w K mg t):Ok P w base T.pN 2 (x9 (ofStr jJ)):=by
 refine T.pN.F.dM Bu ?_
 rintro _ _ _ _ _ _ ds S R Z hr ⟨d,e,⟨⟨k,hk⟩,hz⟩,q⟩
 subst e
 refine⟨_,(sc (si (twd (twor (dN (tv (cb dQ T.aq ak (ac (dv 0) (ac (uS T.rA kP) an))))) (tw1 (dN (Xf kT kT hr.u di (cb bU T.bK aX (ac (dv 0) an)) (dg (v:=.int 8) T.lh ⟨_,rfl⟩ fun _=>aO _)))))) (s1 (sr db)) s0) (s1 (sr (cb l6 T.mw hW (ac (Ac (N:=["sign"]) (src:=[none]) (m_ (ae jZ) ["thing"] rfl rfl (by trivial)) (Oz (dv 0)) (sU (show (["sign"]:List Str).Nodup by trivial)) (bf rfl) bh (fun _ _ _ _ _=>xf) (fun _ _ _ _ _=>(aZ T.gQ (iy T) hr (ac (dv 0) an)))) an))))),?_⟩
 refine⟨_,rfl,_,_,_,_,rfl,hX,hk,_,rfl,?_⟩
 rcases nT hk with ⟨z,rfl,h0⟩|⟨h0,h1⟩
 ·have hz:=hz z rfl
  rw[h0]
  refine eO ?_
  refine⟨_,rfl,_,rfl,⟨sm hz,?_⟩⟩
  refine⟨_,rfl,?_⟩
  have e1:decide ((1:Int)≤(z.length:Nat))=decide (1≤z.cps.size):=by rw[yy];show (1:Int)≤((z.cps.size:Nat):Int)↔_;omega
  have e2:decide (((z.length:Nat):Int)≤8)=decide (z.cps.size≤8):=by rw[yy];show ((z.cps.size:Nat):Int)≤8↔_;omega
  unfold ofStr jJ at q
  dsimp only at q
  refine bJ (fun h2=>?_) (fun h2=>?_)
  ·rw[e1.symm.trans h2,zO] at q
   refine⟨_,rfl,?_⟩
   refine bJ (fun h3=>?_) (fun h3=>?_)
   ·rw[e2.symm.trans (nt h3),zR] at q
    exact fo q
   ·rw[e2.symm.trans (nf h3),zO] at q
    exact nS rfl hz (fun c hc Q hQ=>⟨_,rfl,c,rfl,hQ⟩) q
  ·rw[e1.symm.trans h2,zR,zR] at q
   refine⟨_,rfl,?_⟩
   exact dh (fo q)
 ·rw[h0]
  rw[h1] at q
  exact dh (dh (fo q))
def aC(c:Str×Str):D:=.tup [.str c.1,.str c.2]
def Gd(cs:List (Str×Str)):Prop:=cs.length≤8∧(cs.map Prod.fst).Nodup∧∀c∈cs,jJ c.1=true∧(c.2 = "number" ∨ c.2 = "word")
def mD(cs:List (Str×Str)):D→Bool
 |.tup ws=>decide (ws.length=cs.length) && (List.zipWith (fun c v=>fE c.2 v) cs ws).all id
 |_=>false
def iz(cs:List (Str×Str))(k v:D):Bool:=ofStr fC k && mD cs v
def Md(S:aG)(d:D):Prop:=Gt S d∧∀ws,d=.tup ws→ws.length≤1000∧∀v∈ws,Gt S v
theorem j9(T:Txt w K mg t):Ok P w base T.nM 2 (x9 (ofStr fC)):=by
 refine T.nM.F.dM EF ?_
 rintro _ _ _ _ _ _ ds S R Z hr ⟨d,e,⟨⟨k,hk⟩,hz⟩,q⟩
 subst e
 refine⟨_,(sc (si (twd (twor (dN (tv (cb dQ T.aq ak (ac (dv 0) (ac (uS T.rA kP) an))))) (tw1 (dN (Xf kT kT hr.u di (cb bU T.bK aX (ac (dv 0) an)) (dg (v:=.int 12) T.mr ⟨_,rfl⟩ fun _=>aO _)))))) (s1 (sr db)) s0) (sc (si (dN (tv (aZ T.gQ (iy T) hr (ac (ix hr.u (dv 0) di) an)))) (s1 (sr db)) s0) (s1 (sr (cb l6 T.mw hW (ac (Ac (N:=["sign"]) (src:=[none]) (m_ (ae ma) ["thing"] rfl rfl (by trivial)) (Oz (dv 0)) (sU (show (["sign"]:List Str).Nodup by trivial)) (bf rfl) bh (fun _ _ _ _ _=>xf) (fun _ _ _ _ _=>(eor (aZ T.gQ (iy T) hr (ac (dv 0) an)) (JR (aZ T.nL (vO T) hr (ac (dv 0) an)))))) an)))))),?_⟩
 refine⟨_,rfl,_,_,_,_,rfl,hX,hk,_,rfl,?_⟩
 rcases nT hk with ⟨z,rfl,h0⟩|⟨h0,h1⟩
 ·have hz:=hz z rfl
  rw[h0]
  refine eO ?_
  refine⟨_,rfl,_,rfl,⟨sm hz,?_⟩⟩
  refine⟨_,rfl,?_⟩
  have e1:decide ((1:Int)≤(z.length:Nat))=decide (1≤z.cps.size):=by rw[yy];show (1:Int)≤((z.cps.size:Nat):Int)↔_;omega
  have e2:decide (((z.length:Nat):Int)≤12)=decide (z.cps.size≤12):=by rw[yy];show ((z.cps.size:Nat):Int)≤12↔_;omega
  unfold ofStr fC at q
  dsimp only at q
  refine bJ (fun h2=>?_) (fun h2=>?_)
  ·have W9:=e1.symm.trans h2
   rw[W9,zO] at q
   refine⟨_,rfl,?_⟩
   refine bJ (fun h3=>?_) (fun h3=>?_)
   ·rw[e2.symm.trans (nt h3),zR,zR] at q
    exact fo q
   ·rw[e2.symm.trans (nf h3),zO] at q
    obtain⟨c,r,ec⟩:=len_pos (z:=z) (zu W9)
    have eh:z.cps.toList.head?.any isLet=isLet c:=by rw[ec];rfl
    rw[eh] at q
    refine⟨_,rfl,c,sm hz,wk ec,c,rfl,_,rfl,?_⟩
    refine bJ (fun h4=>?_) (fun h4=>?_)
    ·rw[nt h4,zR] at q
     exact fo q
    ·rw[nf h4,zO] at q
     refine nS (f:=fun c=>isLet c || CI c) rfl hz (fun c hc Q hQ=>?_) q
     refine⟨_,rfl,c,rfl,_,rfl,?_⟩
     refine bJ (fun h5=>?_) (fun h5=>?_)
     ·rw[h5,Bool.true_or] at hQ
      exact hQ
     ·rw[h5,yE] at hQ
      exact⟨_,rfl,c,rfl,hQ⟩
  ·rw[e1.symm.trans h2,zR,zR,zR] at q
   refine⟨_,rfl,?_⟩
   exact dh (fo q)
 ·rw[h0]
  rw[h1] at q
  exact dh (dh (fo q))
theorem BA(T:Txt w K mg t):Ok P w base T.vk 2 (x9 (ofStr x8)):=by
 refine T.vk.F.dM Bv ?_
 rintro _ _ _ _ _ _ ds S R Z hr ⟨d,e,⟨⟨k,hk⟩,hz⟩,q⟩
 subst e
 refine⟨_,(sc (si (twd (twor (dN (tv (cb dQ T.aq ak (ac (dv 0) (ac (uS T.rA kP) an))))) (tw1 (bX qF hr.u (cb bU T.bK aX (ac (dv 0) an)) (dg (v:=.int 40) T.lj ⟨_,rfl⟩ fun _=>aO _))))) (s1 (sr db)) s0) (s1 (sr (cb l6 T.mw hW (ac (Ac (N:=["sign"]) (src:=[none]) (m_ (ae j4) ["thing"] rfl rfl (by trivial)) (Oz (dv 0)) (sU (show (["sign"]:List Str).Nodup by trivial)) (bf rfl) bh (fun _ _ _ _ _=>xf) (fun _ _ _ _ _=>(cc kT kT hr.u ds (dv 0) ds))) an))))),?_⟩
 refine⟨_,rfl,_,_,_,_,rfl,hX,hk,_,rfl,?_⟩
 rcases nT hk with ⟨z,rfl,h0⟩|⟨h0,h1⟩
 ·have hz:=hz z rfl
  rw[h0]
  refine eO ?_
  refine⟨_,rfl,_,rfl,⟨sm hz,?_⟩⟩
  refine⟨_,rfl,?_⟩
  have e2:decide ((40:Int)<((z.length:Nat):Int))=!decide (z.cps.size≤40):=by
   rw[yB];simp only [decide_eq_true_iff,Bool.not_eq_true',decide_eq_false_iff_not];show (40:Int)<((z.cps.size:Nat):Int)↔_;omega
  unfold ofStr x8 at q
  dsimp only at q
  refine bJ (fun h3=>?_) (fun h3=>?_)
  ·rw[nt (e2.symm.trans h3),zR] at q
   exact fo q
  ·rw[nf (e2.symm.trans h3),zO] at q
   refine nS (f:=Hi) rfl hz (fun c hc Q hQ=>?_) q
   refine⟨_,rfl,_,rfl,?_⟩
   have e3:Fc " " ⟨#[c]⟩=decide (32≤c):=jX 32 c
   have e4:Fc ⟨#[c]⟩ "~" = decide (c≤126):=jX c 126
   unfold Hi at hQ
   refine bJ (fun h=>?_) (fun h=>?_)
   ·rw[e3.symm.trans h,zO,← e4] at hQ
    exact hQ
   ·rw[e3.symm.trans h,zR] at hQ
    exact hQ
 ·rw[h0]
  rw[h1] at q
  exact dh (dh (fo q))
theorem oK(T:Txt w K mg t):Ok P w base T.ml 3 (fun ds S R _=>∃kind d,ds=[.str kind,d]∧Gt S d∧R (.bl (fE kind d)) S):=by
 refine T.ml.F.dM xX ?_
 rintro _ _ _ _ _ _ ds S R Z hr ⟨kind,d,e,hd,q⟩
 subst e
 refine⟨_,(sc (si (bX wY hr.u (dv 1) dn) (s1 (sr db)) s0) (sc (si (bX bw hr.u (dv 0) ds) (s1 (sr (aZ T.mj (oJ T) hr (ac (dv 1) an)))) s0) (s1 (sr (aZ T.vk (BA T) hr (ac (dv 1) an)))))),?_⟩
 refine⟨_,rfl,_,rfl,?_⟩
 unfold fE at q
 refine bJ (fun h=>?_) (fun h=>?_)
 ·rw[h,Bool.true_or] at q
  exact fo q
 ·rw[h,yE] at q
  refine⟨_,rfl,_,rfl,?_⟩
  refine bJ (fun h=>?_) (fun h=>?_)
  ·rw[if_pos (zu h)] at q
   exact⟨_,rfl,d,rfl,hd,fo q⟩
  ·rw[if_neg (zI h)] at q
   exact⟨_,rfl,d,rfl,hd,fo q⟩
theorem gt_str(h:z.cps.size≤1000):Gt S (.str z):=⟨⟨.str,rfl⟩,fun y e=>by cases e;exact h⟩
theorem uq(h:jJ z=true):z.cps.size≤1000:=by
 unfold jJ at h
 simp only [zP,z0] at h
 lia
theorem EN(h:∀c v,f (.tup [aC c,v])=.bl (fE c.2 v)):(ib (cs.map aC) ws).map f=(List.zipWith (fun c v=>fE c.2 v) cs ws).map D.bl:=by
 unfold ib
 induction cs generalizing ws with
 |nil=>cases ws <;> rfl
 |cons c cs ih =>
  cases ws with
  |nil=>rfl
  |cons v ws =>
   show f (.tup [aC c,v])::(List.zipWith _ (cs.map aC) ws).map f=.bl (fE c.2 v)::_
   rw[h,ih]
def pairF:D→D
 |.tup [.tup [_,.str k],v]=>.bl (fE k v)
 |_=>.aw
theorem BB(T:Txt w K mg t):Ok P w base T.vm 1 (fun ds S R _=>∃z,ds=[.str z]∧(z = "number" ∨ z = "word")∧R (.bl true) S):=by
 refine T.vm.F.dM Bx ?_
 rintro _ _ _ _ _ _ ds S R Z hr ⟨z,e,hz,q⟩
 subst e
 refine⟨_,(s1 (sr (uT (cb dQ T.aq ak (ac (dv 0) (ac (uS T.rA kP) an))) (JR (cm D3 hr.u (dv 0) (dg (v:=.ref t.vg) T.Hc rfl T.Hd)))))),?_⟩
 refine⟨_,rfl,_,_,_,_,rfl,hX,rfl,_,rfl,dh ⟨_,rfl,rfl,rfl,?_⟩⟩
 have e:FE (pM (.str z)) ([D.str "number",D.str "word"].map pM)=true:=by rcases hz with rfl|rfl <;> decide +kernel
 show Fo S (R (.bl (if false=true then _ else FE (pM (.str z)) ([D.str "number",D.str "word"].map pM))))
 rw[if_neg zd,e]
 exact fo q
theorem vP(T:Txt w K mg t):Ok P w base T.nN 3 (fun ds S R _=>∃c,ds=[aC c]∧jJ c.1=true∧(c.2 = "number" ∨ c.2 = "word")∧R (.bl true) S):=by
 refine T.nN.F.dM vH ?_
 rintro _ _ _ _ _ _ ds S R Z hr ⟨c,e,h1,h2,q⟩
 subst e
 refine⟨_,(sc (si (twd (twor (dN (tv (cb dQ T.aq ak (ac (dv 0) (ac (uS T.cE bN) an))))) (tw1 (bX l4 hr.u (cb bU T.bK aX (ac (dv 0) an)) di)))) (s1 (sr db)) s0) (s1 (sr (uT (aZ T.pN (rG T) hr (ac (ix hr.u (dv 0) di) an)) (JR (aZ T.vm (BB T) hr (ac (ix hr.u (dv 0) di) an))))))),?_⟩
 refine⟨_,rfl,_,_,_,_,rfl,cO,rfl,_,rfl,?_⟩
 refine eO ⟨_,rfl,_,rfl,_,rfl,eO ?_⟩
 refine⟨_,rfl,_,rfl,_,rfl,gt_str (uq h1),_,rfl,?_⟩
 show if jJ c.1=true then _ else _
 rw[h1]
 exact dh ⟨_,rfl,_,rfl,_,rfl,h2,fo q⟩
theorem oM(T:Txt w K mg t):Ok P w base T.mm 1 (fun ds S R _=>∃cs:List (Str×Str),ds=[.tup (cs.map aC)]∧cs.length≤8∧∀p,S p=none→R (.ref p) (S.set p (.lst ((cs.map Prod.fst).map D.str)))):=by
 refine T.mm.F.dM xY ?_
 rintro _ _ _ _ _ _ ds S R Z hr ⟨cs,e,hl,q⟩
 subst e
 refine⟨_,(s1 (sr (Ac (N:=["name","kind"]) (src:=[none,none]) (m_ (ae ie) ["columns"] rfl rfl (by trivial)) (LS (dv 0)) (cg2 (show (["name","kind"]:List Str).Nodup by trivial)) (Ci rfl rfl) Ct (fun _ _ _ _ _=>xf) (fun _ _ _ _ _=>(dv 0))))),?_⟩
 refine⟨_,rfl,_,.inl rfl,?_⟩
 refine comp_map (fun d=>match d with|.tup (x::_)=>x|_=>.aw) trivial (by show (cs.map aC).length≤1000;rw[zc];lia) (fun d hd Q hQ=>?_) fun p hp=>?_
 ·obtain⟨c,hc,rfl⟩:=zf.mp hd
  exact⟨_,rfl,rfl,_,_,rfl,_,_,rfl,rfl,_,rfl,hQ⟩
 ·have e:(cs.map aC).map (fun d=>match d with|.tup (x::_)=>x|_=>.aw)=(cs.map Prod.fst).map D.str:=by
   rw[zF,zF];rfl
  show Fo (S.set p (.lst ((cs.map aC).map _))) (R (.ref p))
  rw[e]
  exact fo (q p hp)
theorem nV(T:Txt w K mg t):Ok P w base T.gC 4 (fun ds S R _=>∃cs,ds=[.tup (cs.map aC)]∧Gd cs∧R .aw S):=by
 refine T.gC.F.dM nR ?_
 rintro _ _ _ _ _ _ ds S R Z hr ⟨cs,e,⟨hl,hn,hg⟩,q⟩
 subst e
 refine⟨_,(sc (si (twd (twor (dN (tv (cb dQ T.aq ak (ac (dv 0) (ac (uS T.cE bN) an))))) (tw1 (bX qF hr.u (cb bU T.bK aX (ac (dv 0) an)) (dg (v:=.int 8) T.pv ⟨_,rfl⟩ fun _=>aO _))))) (s1 (w_ ⟨T.dE⟩ T.eC (ac ds an))) s0) (sc (si (dN (tv (cb l6 T.mw hW (ac (Ac (N:=["column"]) (src:=[none]) (m_ (ae cY) ["columns"] rfl rfl (by trivial)) (LS (dv 0)) (sU (show (["column"]:List Str).Nodup by trivial)) (bf rfl) bh (fun _ _ _ _ _=>xf) (fun _ _ _ _ _=>(aZ T.nN (vP T) hr (ac (dv 0) an)))) an)))) (s1 (w_ ⟨T.dE⟩ T.eC (ac ds an))) s0) (s1 (si (bX l4 hr.u (lse (aZ T.mm (oM T) hr (ac (dv 0) an)) T.bK T.Mb) (cb bU T.bK aX (ac (dv 0) an))) (s1 (w_ ⟨T.dE⟩ T.eC (ac ds an))) s0)))),?_⟩
 refine⟨_,rfl,_,_,_,_,rfl,cO,rfl,_,rfl,?_⟩
 have e1:decide ((8:Int)<((cs.map aC).length:Nat))=false:=zw (by rw[zc];lia)
 refine eO ⟨_,rfl,_,rfl,_,rfl,?_⟩
 show if decide ((8:Int)<((cs.map aC).length:Nat))=true then _ else _
 rw[e1]
 refine eO ?_
 refine⟨_,rfl,_,.inl rfl,?_⟩
 refine comp_map (fun _=>.bl true) trivial (by show (cs.map aC).length≤1000;rw[zc];lia) (fun d hd Q hQ=>?_) fun p hp=>?_
 ·obtain⟨c,hc,rfl⟩:=zf.mp hd
  exact⟨_,rfl,c,rfl,(hg c hc).1,(hg c hc).2,hQ⟩
 ·have e2:(cs.map aC).map (fun _=>D.bl true)=(cs.map fun _=>true).map D.bl:=by rw[zF,zF];rfl
  have e3:(cs.map fun _=>true).all id=true:=by rw[all_map];exact yg.mpr fun _ _=>rfl
  refine⟨.ref p,cs.map fun _=>true,rfl,?_,_,rfl,?_⟩
  ·show (S.set p (.lst ((cs.map aC).map _))) p=_
   rw[aa,e2]
  rw[e3]
  refine eO ?_
  refine⟨_,rfl,cs,rfl,hl,fun p2 fT=>?_⟩
  refine⟨cs.map Prod.fst,aa,by rw[zc];lia,_,rfl,_,rfl,_,rfl,?_⟩
  have e4:decide ((((iI (cs.map Prod.fst)).length:Nat):Int)=(((cs.map aC).length:Nat):Int))=true:=zD (by rw[(t6 _).mpr hn,zc,zc])
  show if (if true=true then !decide ((((iI (cs.map Prod.fst)).length:Nat):Int)=(((cs.map aC).length:Nat):Int)) else _)=true then _ else _
  rw[if_pos rfl,e4]
  exact eO ⟨S,(Sub.new hp).trans (.new fT),q⟩
theorem tI(T:Txt w K mg t):Ok P w base T.k_ 4 (fun ds S R _=>∃cs d,ds=[.tup (cs.map aC),d]∧cs.length≤8∧Md S d∧R (.bl (mD cs d)) S):=by
 refine T.k_.F.dM tG ?_
 rintro _ _ _ _ _ _ ds S R Z hr ⟨cs,d,e,hl,⟨⟨⟨k,hk⟩,hz⟩,hw⟩,q⟩
 subst e
 refine⟨_,(sc (si (twd (twor (dN (tv (cb dQ T.aq ak (ac (dv 1) (ac (uS T.cE bN) an))))) (tw1 (bX l4 hr.u (cb bU T.bK aX (ac (dv 1) an)) (cb bU T.bK aX (ac (dv 0) an)))))) (s1 (sr db)) s0) (s1 (sr (cb l6 T.mw hW (ac (Ac (N:=["column","value"]) (src:=[none,none]) (m_ (ae eY) ["columns","thing"] rfl rfl (by trivial)) (izp T.TJ (ac (dv 0) (ac (dv 1) an))) (cg2 (show (["column","value"]:List Str).Nodup by trivial)) (Ci rfl rfl) Ct (fun _ _ _ _ _=>xf) (fun _ _ _ _ _=>(aZ T.ml (oK T) hr (ac (ix hr.u (dv 0) di) (ac (dv 1) an))))) an))))),?_⟩
 refine⟨_,rfl,_,_,_,_,rfl,cO,hk,_,rfl,?_⟩
 rcases nU hk with ⟨ws,rfl,h0⟩|⟨h0,h1⟩
 ·obtain⟨Ku,r_⟩:=hw ws rfl
  rw[h0]
  refine eO ⟨_,rfl,_,rfl,_,rfl,_,rfl,_,rfl,?_⟩
  have e1:decide (((ws.length:Nat):Int)=(((cs.map aC).length:Nat):Int))=decide (ws.length=cs.length):=by rw[yy,zc];lia
  unfold mD at q
  dsimp only at q
  show if (if true=true then !decide (((ws.length:Nat):Int)=(((cs.map aC).length:Nat):Int)) else _)=true then _ else _
  rw[if_pos rfl,e1]
  refine bJ (fun h=>?_) (fun h=>?_)
  ·rw[nt h,zR] at q
   exact fo q
  ·have h:=nf h
   rw[h,zO] at q
   have h:=zu h
   refine⟨_,rfl,_,rfl,cs.map aC,ws,rfl,by rw[zc];exact h.symm,?_⟩
   refine comp_map pairF trivial (by show (ib (cs.map aC) ws).length≤1000;unfold ib;rw[List.length_zipWith,zc];lia) (fun d hd Q hQ=>?_) fun p hp=>?_
   ·unfold ib at hd
    obtain⟨i,ei⟩:=List.getElem?_of_mem hd
    obtain⟨x,y,e2,e3,e4⟩:=List.getElem?_zipWith_eq_some.mp ei
    subst e4
    rw[zB] at e2
    cases e5:cs[i]? with
    |none=>rw[e5] at e2;cases e2
    |some c =>
     rw[e5] at e2;cases e2
     exact⟨_,rfl,rfl,_,_,rfl,_,_,rfl,rfl,_,rfl,_,rfl,_,rfl,c.2,y,rfl,r_ y (zK e3),hQ⟩
   ·refine⟨.ref p,List.zipWith (fun c v=>fE c.2 v) cs ws,rfl,?_,S,.new hp,q⟩
    show (S.set p (.lst ((ib (cs.map aC) ws).map pairF))) p=_
    rw[aa,EN fun _ _=>rfl]
 ·rw[h0]
  have e:mD cs d=false:=by
   cases d with
   |tup ws=>exact absurd rfl (h1 ws)
   |_=>rfl
  rw[e] at q
  exact dh (dh (fo q))
theorem mE(T:Txt w K mg t):Ok P w base T.j5 5 (fun ds S R Z=>∃cs k v,ds=[.tup (cs.map aC),.tup [k,v]]∧cs.length≤8∧Gt S k∧Md S v∧(iz cs k v=true→R .aw S)∧(iz cs k v=false→Z t.bO S)):=by
 refine T.j5.F.dM vI ?_
 rintro _ _ _ _ _ _ ds S R Z hr ⟨cs,k,v,e,hl,hk,hv,q1,q2⟩
 subst e
 refine⟨_,(sc (si (twd (twor (dN (tv (cb dQ T.aq ak (ac (dv 1) (ac (uS T.cE bN) an))))) (tw1 (bX l4 hr.u (cb bU T.bK aX (ac (dv 1) an)) di)))) (s1 (w_ ⟨T.gX⟩ T.gW (ac ds an))) s0) (sc (si (dN (tv (aZ T.nM (j9 T) hr (ac (ix hr.u (dv 1) di) an)))) (s1 (w_ ⟨T.gX⟩ T.gW (ac ds an))) s0) (s1 (si (dN (tv (aZ T.k_ (tI T) hr (ac (dv 0) (ac (ix hr.u (dv 1) di) an))))) (s1 (w_ ⟨T.gX⟩ T.gW (ac ds an))) s0)))),?_⟩
 refine⟨_,rfl,_,_,_,_,rfl,cO,rfl,_,rfl,?_⟩
 refine eO ⟨_,rfl,_,rfl,_,rfl,eO ?_⟩
 refine⟨_,rfl,_,rfl,k,rfl,hk,_,rfl,?_⟩
 unfold iz at q1 q2
 refine bJ (fun h=>?_) (fun h=>?_)
 ·rw[nt h,zR] at q2
  exact⟨sm (by decide),fo (q2 rfl)⟩
 ·rw[nf h,zO] at q1 q2
  refine⟨_,rfl,_,rfl,_,rfl,cs,v,rfl,hl,hv,_,rfl,?_⟩
  refine bJ (fun h=>?_) (fun h=>?_)
  ·exact⟨sm (by decide),fo (q2 (nt h))⟩
  ·exact fo (q1 (nf h))
theorem bg(h:n≤100000):n<sizeLine:=by rw[zT];lia
structure Std where
 b:Nat
 e:Option Nat
 ws:List D
def eD:Option Nat→D
 |none=>.aw
 |some n=>.int (n:Nat)
def jK(s:Std):D:=.tup [.int (s.b:Nat),eD s.e,.tup s.ws]
def Hk:List Std→Int→D
 |[],_=>.aw
 |s::r,m=>if (s.b:Int)≤m then (match s.e with|none=>.tup s.ws|some n=>if m≤(n:Int) then .tup s.ws else .aw) else Hk r m
def wt(l:List Std)(m:Int):D:=Hk l.reverse m
abbrev Ra:=List (Str×Addr×List Std)
abbrev pQ:=List (Str×List Std)
def g5(ra:Ra):pQ:=ra.map fun r=>(r.1,r.2.2)
def dH(ra:Ra):List (Key×D):=ra.map fun r=>(Sum.inr r.1,D.ref r.2.1)
def lu(rs:pQ)(k:Str):Option (List Std):=(rs.find? fun r=>decide (r.1=k)).map (·.2)
def sx(ra:Ra)(k:Str):Option (Addr×List Std):=(ra.find? fun r=>decide (r.1=k)).map (·.2)
def sA(ra:Ra)(k:Str)(s:List Std):Ra:=ra.map fun r=>if r.1=k then (r.1,r.2.1,s) else r
def BC(rs:pQ)(k:Str)(s:List Std):pQ:=if (lu rs k).isSome then rs.map fun r=>if r.1=k then (r.1,s) else r else rs++[(k,s)]
theorem gF(ra:Ra)(k:Str):lu (g5 ra) k=(sx ra k).map (·.2):=by
 unfold lu sx g5
 induction ra with
 |nil=>rfl
 |cons r ra ih =>
  rw[zM,zV,zV]
  by_cases h:r.1=k
  ·rw[zD h];rfl
  ·rw[zw h];exact ih
theorem g6(ra:Ra)(k:Str):cz (dH ra) (.inr k)=(sx ra k).map fun p=>D.ref p.1:=by
 unfold cz sx dH
 induction ra with
 |nil=>rfl
 |cons r ra ih =>
  rw[zM,zV,zV]
  by_cases h:r.1=k
  ·rw[zD h]
   have:decide ((Sum.inr r.1:Key)=.inr k)=true:=zD (by rw[h])
   dsimp only
   rw[this];rfl
  ·rw[zw h]
   have:decide ((Sum.inr r.1:Key)=.inr k)=false:=zw fun e=>h (yz e)
   dsimp only
   rw[this];exact ih
theorem df(h:sx ra k=some (l,s)):(k,l,s)∈ra:=by
 unfold sx at h
 cases q:ra.find? fun r=>decide (r.1=k) with
 |none=>rw[q] at h;cases h
 |some r =>
  rw[q] at h
  have h1:=List.find?_some q
  have h2:=List.mem_of_find?_eq_some q
  obtain⟨k',l',s'⟩:=r
  have e:k'=k:=zu h1
  cases h
  rw[← e];exact h2
theorem mF(h:sx ra k=none):∀r∈ra,r.1≠k:=by
 unfold sx at h
 intro r hr e
 have:=List.find?_eq_none.mp (Option.map_eq_none_iff.mp h) r hr
 simp [e] at this
theorem j_:∀{l:List α}{x y:α},(l.map f).Nodup→x∈l→y∈l→f x=f y→x=y
 |z::l,x,y,nd,hx,hy,e=>by
  rw[zM] at nd
  obtain⟨n1,n2⟩:=yn.mp nd
  rcases ze.mp hx with ex|RZ
  ·rcases ze.mp hy with ey|Rz
   ·rw[ex,ey]
   ·exact absurd (zf.mpr ⟨y,Rz,by rw[← e,ex]⟩) n1
  ·rcases ze.mp hy with ey|Rz
   ·exact absurd (zf.mpr ⟨x,RZ,by rw[e,ey]⟩) n1
   ·exact j_ n2 RZ Rz e
structure BD(C:Addr)(S:aG)(a ld lr:Addr)(cs:List (Str×Str))(dl:List D)(ra:Ra):Prop where
 ins:S a=some (.ins C [("columns",.tup (cs.map aC)),("deeds",.ref ld),("runs",.ref lr)])
 x_:S ld=some (.lst dl)
 run:S lr=some (.dy (dH ra))
 cell:∀r∈ra,S r.2.1=some (.lst (r.2.2.map jK))
 kn:(ra.map (·.1)).Nodup
 an:(ld::ra.map (·.2.1)).Nodup
 sz:∀r∈ra,r.2.2.length≤dl.length
def fp(a ld lr:Addr)(ra:Ra):List Addr:=a::ld::lr::ra.map (·.2.1)
def bA(C:Addr)(S:aG)(a:Addr)(F:List Addr)(cs:List (Str×Str))(dl:List D)(rs:pQ):Prop:=∃ld lr ra,BD C S a ld lr cs dl ra∧F=fp a ld lr ra∧rs=g5 ra
def wm(F F':List Addr)(S S':aG):Prop:=∀b c,b∉F→S b=some c→b∉F'∧S' b=some c
theorem wm.trans(a:wm F F1 S S1)(b:wm F1 F2 S1 S2):wm F F2 S S2:=fun p c h e=>by obtain⟨h1,e1⟩:=a p c h e;exact b p c h1 e1
section
variable{C a ld lr:Addr}{S:aG}{cs:List (Str×Str)}{dl:List D}{ra:Ra}
theorem BD.BE(h:BD C S a ld lr cs dl ra){l:Addr}{ds:List D}(e:S l=some (.lst ds)):l≠a∧l≠lr:=by
 constructor
 ·rintro rfl;rw[h.ins] at e;cases e
 ·rintro rfl;rw[h.run] at e;cases e
theorem BD.put(h:BD C S a ld lr cs dl ra)(hk:sx ra k=some (l,s))(hs:s'.length≤dl.length):BD C (S.set l (.lst (s'.map jK))) a ld lr cs dl (sA ra k s'):=by
 have hm:=df hk
 have hl:=h.cell _ hm
 obtain⟨n1,n2⟩:=h.BE hl
 obtain⟨YF,nd2⟩:=yn.mp h.an
 have n3:l≠ld:=fun e=>YF (by rw[← e];exact zf.mpr ⟨_,hm,rfl⟩)
 have e1:(sA ra k s').map (·.1)=ra.map (·.1):=by
  unfold sA;rw[zF];exact zZ fun r _=>by dsimp only [Function.comp];split <;> rfl
 have e2:(sA ra k s').map (·.2.1)=ra.map (·.2.1):=by
  unfold sA;rw[zF];exact zZ fun r _=>by dsimp only [Function.comp];split <;> rfl
 have e3:dH (sA ra k s')=dH ra:=by
  unfold dH sA;rw[zF];exact zZ fun r _=>by dsimp only [Function.comp];split <;> rfl
 refine⟨by rw[af n1.symm];exact h.ins,by rw[af n3.symm];exact h.x_,by rw[af n2.symm,e3];exact h.run,fun r hr=>?_,by rw[e1];exact h.kn,by rw[e2];exact h.an,fun r hr=>?_⟩
 ·unfold sA at hr
  obtain⟨r0,wo,e⟩:=zf.mp hr
  by_cases q:r0.1=k
  ·rw[if_pos q] at e
   have er:r0=(k,l,s):=j_ h.kn wo hm q
   subst er e
   rw[aa]
  ·rw[if_neg q] at e
   subst e
   have:r0.2.1≠l:=fun e=>q (by
    have:=j_ nd2 wo hm e
    rw[this])
   rw[af this];exact h.cell _ wo
 ·unfold sA at hr
  obtain⟨r0,wo,e⟩:=zf.mp hr
  by_cases q:r0.1=k
  ·rw[if_pos q] at e;subst e;exact hs
  ·rw[if_neg q] at e;subst e;exact h.sz _ wo
theorem BD.add(h:BD C S a ld lr cs dl ra)(hk:sx ra k=none)(hl:S l=none)(hs:s.length≤dl.length)(e1:S' l=some (.lst (s.map jK)))(e2:S' lr=some (.dy (dH (ra++[(k,l,s)]))))(e3:∀b,b≠l→b≠lr→S' b=S b):BD C S' a ld lr cs dl (ra++[(k,l,s)]):=by
 have n1:a≠l:=iK h.ins hl
 have n2:ld≠l:=iK h.x_ hl
 have n3:a≠lr:=by rintro rfl;have:=h.run;rw[h.ins] at this;cases this
 have n4:ld≠lr:=by rintro rfl;have:=h.run;rw[h.x_] at this;cases this
 refine⟨by rw[e3 _ n1 n3];exact h.ins,by rw[e3 _ n2 n4];exact h.x_,e2,fun r hr=>?_,?_,?_,fun r hr=>?_⟩
 ·rcases zC.mp hr with hr|hr
  ·have hc:=h.cell r hr
   rw[e3 _ (iK hc hl) (h.BE hc).2];exact hc
  ·rw[zi.mp hr];exact e1
 ·rw[zN]
  exact lY h.kn fun m=>by
   obtain⟨r,hr,e⟩:=zf.mp m
   exact mF hk r hr e
 ·rw[zN,← List.cons_append]
  refine lY h.an fun m=>?_
  rcases ze.mp m with e|m
  ·exact n2 e.symm
  ·obtain⟨r,hr,e⟩:=zf.mp m
   exact iK (h.cell r hr) hl e
 ·rcases zC.mp hr with hr|hr
  ·exact h.sz r hr
  ·rw[zi.mp hr];exact hs
theorem BD.OW(h:BD C S a ld lr cs dl ra)(d:D):BD C (S.set ld (.lst (dl++[d]))) a ld lr cs (dl++[d]) ra:=by
 obtain⟨n1,n2⟩:=h.BE h.x_
 obtain⟨YF,nd2⟩:=yn.mp h.an
 refine⟨by rw[af n1.symm];exact h.ins,aa,by rw[af n2.symm];exact h.run,fun r hr=>?_,h.kn,h.an,fun r hr=>by rw[zl];exact zL (h.sz r hr) (Nat.le_add_right _ _)⟩
 rw[af fun e=>YF (by rw[← e];exact zf.mpr ⟨r,hr,rfl⟩)]
 exact h.cell r hr
end
def TL(C:Addr):eF:=fun ds S R _=>∃a F cs dl rs,ds=[.ref a]∧bA C S a F cs dl rs∧R (.int (dl.length:Nat)) S
theorem nW(T:Txt w K mg t):A7 P w mg base T.bp 1 (TL t.ag):=by
 refine T.bp.F.dM vM ?_
 rintro _ _ _ _ _ _ ds S R Z hr ⟨a,F,cs,dl,rs,e,⟨ld,lr,ra,h,_⟩,q⟩
 subst e
 refine⟨_,(s1 (sr (cb bU T.bK aX (ac (fl T.ai T.cM (dv 0)) an)))),?_⟩
 exact⟨_,rfl,a,_,_,rfl,h.ins,rfl,_,rfl,.inl ⟨dl,h.x_,fo q⟩⟩
theorem cn(T:Txt w K mg t):A7 P w mg base T.au 1 (fun ds S R _=>∃a F cs dl rs,ds=[.ref a]∧bA t.ag S a F cs dl rs∧R (.tup (cs.map aC)) S):=by
 refine T.au.F.dM jI ?_
 rintro _ _ _ _ _ _ ds S R Z hr ⟨a,F,cs,dl,rs,e,⟨ld,lr,ra,h,_⟩,q⟩
 subst e
 refine⟨_,(s1 (sr (fl T.ai T.cQ (dv 0)))),?_⟩
 exact⟨_,rfl,a,_,_,rfl,h.ins,rfl,fo q⟩
def lx(n:Nat):D→Option Int
 |.aw=>some n
 |.int i=>if 0≤i∧i≤(n:Int) then some i else none
 |_=>none
def Kv(C N:Addr):eF:=fun ds S R Z=>∃a F cs dl rs m,ds=[.ref a,m]∧bA C S a F cs dl rs∧Gt S m∧(∀i,lx dl.length m=some i→R (.int i) S)∧(lx dl.length m=none→Z N S)
theorem iP(T:Txt w K mg t):A7 P w mg base T.bc 2 (Kv t.ag t.aE):=by
 refine T.bc.F.dM iU ?_
 rintro _ _ _ _ _ _ ds S R Z hr ⟨a,F,cs,dl,rs,m,e,hS,hm,q1,q2⟩
 subst e
 obtain⟨ld,lr,ra,h,hF,sj⟩:=id hS
 refine⟨_,(sc (si (bX wY hr.u (dv 1) dn) (s1 (sr (l8 (dv 0) T.ai T.bp.e ((nW T).mono (by decide)) hr T.bp.b d0))) s0) (sc (si (twd (twor (dN (tv (aZ T.mj (oJ T) hr (ac (dv 1) an)))) (tw1 (dN (Xf kT kT hr.u di (dv 1) (l8 (dv 0) T.ai T.bp.e ((nW T).mono (by decide)) hr T.bp.b d0)))))) (s1 (w_ ⟨T.iw⟩ T.oH (ac ds an))) s0) (s1 (sr (dv 1))))),?_⟩
 refine⟨_,rfl,_,rfl,?_⟩
 refine bJ (fun h1=>?_) (fun h1=>?_)
 ·have e:m=.aw:=by cases m <;> first|rfl|cases h1
  subst e
  exact⟨_,rfl,a,_,rfl,h.ins,rfl,a,F,cs,dl,rs,rfl,hS,fo (q1 _ rfl)⟩
 ·refine⟨_,rfl,m,rfl,hm,_,rfl,?_⟩
  refine bJ (fun h2=>?_) (fun h2=>?_)
  ·have h2:=nt h2
   have e:lx dl.length m=none:=by
    cases m with
    |aw=>cases h1
    |int i=>cases h2
    |_=>rfl
   exact dh ⟨sm (by decide),fo (q2 e)⟩
  ·have h2:=nf h2
   obtain⟨i,rfl⟩:∃i,m=.int i:=by cases m <;> first|exact⟨_,rfl⟩|cases h2
   refine⟨_,rfl,_,rfl,?_⟩
   refine bJ (fun h3=>?_) (fun h3=>?_)
   ·have h3:0≤i:=zu h3
    refine⟨_,rfl,a,_,rfl,h.ins,rfl,a,F,cs,dl,rs,rfl,hS,_,rfl,?_⟩
    refine bJ (fun h4=>?_) (fun h4=>?_)
    ·have h4:¬ i≤((dl.length:Nat):Int):=zI (nt h4)
     exact⟨sm (by decide),fo (q2 (if_neg fun z=>h4 z.2))⟩
    ·have h4:i≤((dl.length:Nat):Int):=zu (nf h4)
     exact⟨_,rfl,fo (q1 i (if_pos ⟨h3,h4⟩))⟩
   ·have h3:¬ 0≤i:=zI h3
    exact⟨_,rfl,dh ⟨sm (by decide),fo (q2 (if_neg fun z=>h3 z.1))⟩⟩
theorem jL(T:Txt w K mg t):Ok P w base T.f9 1 (fun ds S R _=>∃l ur m,ds=[.ref l,.int m]∧S l=some (.lst (ur.map jK))∧R (wt ur m) S):=by
 refine T.f9.F.dM jH ?_
 rintro _ _ _ _ _ _ ds S R Z hr ⟨l,ur,m,e,hl,q⟩
 subst e
 refine⟨_,(sc (Ea (J2 (irv T.rB (ac (dv 0) an)) (gn (i:=2) jH.nd) (s1 (si (bX kT hr.u (ix hr.u (dv 2) di) (dv 1)) (s1 (sr (eif (twd (twor (bX wY hr.u (ix hr.u (dv 2) di) dn) (tw1 (bX kT hr.u (dv 1) (ix hr.u (dv 2) di))))) (ix hr.u (dv 2) di) dn))) s0)))) (s1 (sr dn))),?_⟩
 refine⟨fun aD S'=>S'=S∧wt ur m=.aw,?_,?_⟩
 ·refine⟨_,rfl,_,_,rfl,hl,?_⟩
  refine⟨fun i aD S'=>(∃o,aD=[some (.ref l),some (.int m),o])∧S'=S∧wt ur m=Hk (ur.reverse.drop i) m,⟨⟨none,rfl⟩,rfl,by rw[List.drop_zero];rfl⟩,fun i aD S' h=>by rw[h.2.1];exact hl,?_,?_⟩
  ·rintro i d aD S' hd ⟨⟨o,rfl⟩,rfl,hw⟩
   rw[← List.map_reverse,zB] at hd
   cases e1:ur.reverse[i]? with
   |none=>rw[e1] at hd;cases hd
   |some sd =>
    rw[e1] at hd;cases hd
    have e2:ur.reverse.drop i=sd::ur.reverse.drop (i+1):=by
     obtain⟨hi,e⟩:=zr.mp e1
     rw[List.drop_eq_getElem_cons hi,e]
    obtain⟨sb,se,sw⟩:=sd
    rw[e2] at hw
    refine⟨_,rfl,_,rfl,_,rfl,_,rfl,?_⟩
    unfold Hk at hw
    refine bJ (fun h=>?_) (fun h=>?_)
    ·rw[if_pos (zu h)] at hw
     refine⟨_,rfl,_,rfl,_,rfl,?_⟩
     cases se with
     |none =>
      refine dh (dh ⟨_,rfl,_,rfl,?_⟩)
      rw[hw] at q
      exact fo q
     |some n =>
      refine eO ⟨_,rfl,_,rfl,_,rfl,_,rfl,?_⟩
      dsimp only at hw
      refine bJ (fun h=>?_) (fun h=>?_)
      ·rw[if_pos (zu h)] at hw
       rw[hw] at q
       exact⟨_,rfl,_,rfl,fo q⟩
      ·rw[if_neg (zI h)] at hw
       rw[hw] at q
       exact fo q
    ·rw[if_neg (zI h)] at hw
     exact⟨⟨_,rfl⟩,rfl,hw⟩
  ·rintro aD S' ⟨_,rfl,hw⟩
   refine fo ⟨rfl,?_⟩
   rw[hw,List.length_reverse,zc,List.drop_eq_nil_of_le (by rw[List.length_reverse];exact zo _)]
   rfl
 ·rintro aD S' ⟨rfl,hw⟩
  rw[hw] at q
  exact fo q
def sC(rs:pQ)(k:D)(i:Int):D:=match k with
 |.str z=>if fC z=true then wt ((lu rs z).getD []) i else .aw
 |_=>.aw
def TM(C N:Addr):eF:=fun ds S R Z=>∃a F cs dl rs k m,ds=[.ref a,k,m]∧bA C S a F cs dl rs∧Gt S k∧Gt S m∧(∀i,lx dl.length m=some i→R (sC rs k i) S)∧(lx dl.length m=none→Z N S)
theorem mG(T:Txt w K mg t):A7 P w mg base T.c_ 3 (TM t.ag t.aE):=by
 refine T.c_.F.dM fB ?_
 rintro _ _ _ _ _ _ ds S R Z hr ⟨a,F,cs,dl,rs,k,m,e,hS,hk,hm,q1,q2⟩
 subst e
 obtain⟨ld,lr,ra,h,hF,sj⟩:=id hS
 refine⟨_,(sc (cR (i:=3) fB.nd (sT (dv 0) T.ai T.bc.e ((iP T).mono (by decide)) hr T.bc.b d0 (ac (dv 2) an))) (sc (si (dN (tv (aZ T.nM (j9 T) hr (ac (dv 1) an)))) (s1 (sr dn)) s0) (s1 (sr (aZ T.f9 (jL T) hr (ac (mg2 hr.u (fl T.ai T.bR (dv 0)) (dv 1) (a_ an)) (ac (dv 3) an))))))),?_⟩
 refine⟨_,rfl,a,_,rfl,h.ins,rfl,_,rfl,a,F,cs,dl,rs,m,rfl,hS,hm,fun i hi=>?_,fun hn=>fo (q2 hn)⟩
 have q:=q1 i hi
 refine⟨_,rfl,k,rfl,hk,_,rfl,?_⟩
 refine bJ (fun h1=>?_) (fun h1=>?_)
 ·have e:sC rs k i=.aw:=by
   cases k with
   |str z=>exact if_neg (by rw[show fC z=false from nt h1];exact zd)
   |_=>rfl
  rw[e] at q
  exact fo q
 ·have h1:=nf h1
  obtain⟨z,rfl⟩:∃z,k=.str z:=by
   cases k with
   |str z=>exact⟨z,rfl⟩
   |_=>cases h1
  have e:sC rs (.str z) i=wt ((lu rs z).getD []) i:=if_pos h1
  rw[e] at q
  refine⟨_,rfl,a,_,_,rfl,h.ins,rfl,lr,_,rfl,h.run,_,rfl,sm (by decide),fun p hp=>⟨dH ra,.inr z,?_,rfl,?_⟩⟩
  ·rw[af (iK h.run hp)];exact h.run
  ·rw[g6]
   refine⟨_,rfl,?_⟩
   cases e1:sx ra z with
   |none =>
    have e2:lu rs z=none:=by rw[sj,gF,e1];rfl
    rw[e2] at q
    exact⟨p,[],i,rfl,aa,S,.new hp,q⟩
   |some ls =>
    obtain⟨l,ur⟩:=ls
    have e2:lu rs z=some ur:=by rw[sj,gF,e1];rfl
    rw[e2] at q
    have hc:=h.cell _ (df e1)
    exact⟨l,ur,i,rfl,by rw[af (iK hc hp)];exact hc,S,.new hp,q⟩
theorem Me(h:sx ra k=some (l,s)):BC (g5 ra) k s'=g5 (sA ra k s'):=by
 unfold BC
 rw[gF,h,if_pos (show (Option.map (fun x:Addr×List Std=>x.2) (some (l,s))).isSome=true from rfl)]
 unfold g5 sA
 rw[zF,zF]
 exact zZ fun r _=>by dsimp only [Function.comp];split <;> rfl
theorem OX(h:sx ra k=none):BC (g5 ra) k s=g5 (ra++[(k,l,s)]):=by
 unfold BC
 rw[gF,h,if_neg (show ¬ (Option.map (fun x:Addr×List Std=>x.2) none).isSome=true from zd)]
 unfold g5
 rw[zN];rfl
theorem OY(h:sx ra k=none):dput (dH ra) (.inr k) (.ref l)=dH (ra++[(k,l,s)]):=by
 unfold dput
 have e:((dH ra).any fun kv=>decide (kv.1=.inr k))=false:=by
  rw[List.any_eq_false]
  intro x hx
  unfold dH at hx
  obtain⟨r,hr,rfl⟩:=zf.mp hx
  simp only [z0]
  exact fun e=>mF h r hr (yz e)
 rw[e,if_neg zd]
 unfold dH
 rw[zN];rfl
theorem Hl:fp a ld lr (sA ra k s)=fp a ld lr ra:=by
 unfold fp sA
 rw[zF]
 congr 3
 exact zZ fun r _=>by dsimp only [Function.comp];split <;> rfl
theorem rH(h:l∈F):wm F F S (S.set l c):=fun b x hb e=>⟨hb,by rw[af (show b≠l from fun z=>hb (by rw[z];exact h))];exact e⟩
theorem Hm(h:r∈ra):r.2.1∈fp a ld lr ra:=zp _ (zp _ (zp _ (zf.mpr ⟨r,h,rfl⟩)))
def Kw(C:Addr):eF:=fun ds S R _=>∃a F cs dl rs z ws,ds=[.ref a,.str z,.tup ws]∧bA C S a F cs dl rs∧((lu rs z).getD []).length<dl.length∧dl.length≤9000∧rs.length≤9000 ∧
 ∀S' F',bA C S' a F' cs dl (BC rs z ((lu rs z).getD []++[Std.mk dl.length none ws]))→wm F F' S S'→R .aw S'
theorem yK(T:Txt w K mg t):A7 P w mg base T.aS 2 (Kw t.ag):=by
 refine T.aS.F.dM gZ ?_
 rintro _ _ _ _ _ _ ds S R Z hr ⟨a,F,cs,dl,rs,z,ws,e,⟨ld,lr,ra,h,hF,sj⟩,hl,hd,hn,q⟩
 subst e hF sj
 have E8:(dH ra).length≤9000:=by unfold g5 at hn;unfold dH;rw[zc] at hn ⊢;exact hn
 refine⟨_,(s1 (se (bm zQ yc yd eE (ms2 (fl T.ai T.bR (dv 0)) (dv 1) (a_ an)) (ac (ay (ac (l8 (dv 0) T.ai T.bp.e ((nW T).mono (by decide)) hr T.bp.b d0) (ac dn (ac (dv 2) an)))) an)))),?_⟩
 refine⟨_,rfl,a,_,_,rfl,h.ins,rfl,lr,dH ra,rfl,h.run,_,rfl,sm (by decide),fun p hp=>⟨dH ra,.inr z,?_,rfl,bg (by lia),fun d IL=>?_,fun hn=>?_⟩⟩
 ·rw[af (iK h.run hp)];exact h.run
 ·rw[g6] at IL
  cases e1:sx ra z with
  |none=>rw[e1] at IL;cases IL
  |some ls =>
   obtain⟨l,ur⟩:=ls
   rw[e1] at IL;cases IL
   have e2:lu (g5 ra) z=some ur:=by rw[gF,e1];rfl
   rw[e2] at q hl
   have hc:=h.cell _ (df e1)
   have MK:(S.set p (.lst [])) l=some (.lst (ur.map jK)):=by rw[af (iK hc hp)];exact hc
   have hi':(S.set p (.lst [])) a=some (.ins t.ag [("columns",.tup (cs.map aC)),("deeds",.ref ld),("runs",.ref lr)]):=by rw[af (iK h.ins hp)];exact h.ins
   have oF:BD t.ag (S.set p (.lst [])) a ld lr cs dl ra:=⟨hi',by rw[af (iK h.x_ hp)];exact h.x_,by rw[af (iK h.run hp)];exact h.run,fun r hr=>by rw[af (iK (h.cell r hr) hp)];exact h.cell r hr,h.kn,h.an,h.sz⟩
   refine⟨⟨rfl,_,MK⟩,_,rfl,a,_,rfl,hi',rfl,a,_,cs,dl,_,rfl,⟨ld,lr,ra,oF,rfl,rfl⟩,_,rfl,fR,?_⟩
   have hle:ur.length<dl.length:=hl
   refine⟨l,ur.map jK,_,rfl,rfl,MK,bg (by rw[zc];lia),S.set l (.lst ((ur++[Std.mk dl.length none ws]).map jK)),fun b c hb=>?_,q _ _ ⟨ld,lr,_,h.put e1 (by rw[zl];show ur.length+1≤_;lia),rfl,Me e1⟩ ?_⟩
   ·by_cases YG:b=l
    ·subst YG;rw[aa] at hb ⊢;rw[zN] at hb;exact hb
    ·rw[af YG] at hb
     rw[af YG,af (iK hb hp)];exact hb
   ·rw[Hl];exact rH (Hm (df e1))
 ·rw[g6] at hn
  cases e1:sx ra z with
  |some ls=>rw[e1] at hn;cases hn
  |none =>
   have e2:lu (g5 ra) z=none:=by rw[gF,e1];rfl
   rw[e2] at q hl
   have npr:p≠lr:=(iK h.run hp).symm
   generalize CK:(S.set p (.lst [])).set lr _=S1
   have YH:S1 p=some (.lst []):=by rw[← CK,af npr,aa]
   have s1r:S1 lr=some (.dy (dH (ra++[(z,p,[])]))):=by rw[← CK,aa,OY e1]
   have YI:∀b,b≠p→b≠lr→S1 b=S b:=fun b h1 h2=>by rw[← CK,af h2,af h1]
   have oF:BD t.ag S1 a ld lr cs dl (ra++[(z,p,[])]):=h.add e1 hp (ya _) YH s1r YI
   refine⟨⟨rfl,_,YH⟩,_,rfl,a,_,rfl,oF.ins,rfl,a,_,cs,dl,_,rfl,⟨ld,lr,_,oF,rfl,rfl⟩,_,rfl,fR,?_⟩
   refine⟨p,[],_,rfl,rfl,YH,bg (by show 0≤_;lia),S1.set p (.lst ([Std.mk dl.length none ws].map jK)),.refl _,q _ _ ⟨ld,lr,ra++[(z,p,[Std.mk dl.length none ws])],h.add e1 hp (by show 1≤_;have:0<dl.length:=hl;lia) aa ?_ (fun b h1 h2=>by rw[af h1];exact YI b h1 h2),rfl,OX e1⟩ ?_⟩
   ·rw[af npr.symm,s1r];unfold dH;rw[zN,zN];rfl
   ·intro b c hb e
    have h1:b≠p:=iK e hp
    have h2:b≠lr:=fun z=>hb (by rw[z];exact zp _ (zp _ zx))
    refine⟨fun m=>?_,by rw[af h1,YI b h1 h2];exact e⟩
    unfold fp at m hb
    rw[zN] at m
    rcases ze.mp m with m|m
    ·exact hb (m ▸ zx)
    ·rcases ze.mp m with m|m
     ·exact hb (m ▸ zp _ zx)
     ·rcases ze.mp m with m|m
      ·exact h2 m
      ·rcases zC.mp m with m|m
       ·exact hb (zp _ (zp _ (zp _ m)))
       ·exact h1 (zi.mp m)
def iA(n:Nat)(l:List Std):List Std:=l.dropLast++(l.getLast?.map fun s=>Std.mk s.b (some n) s.ws).toList
def lA(rs:pQ)(z:Str)(n:Nat):pQ:=BC rs z (iA n ((lu rs z).getD []))
def pz(rs:pQ)(z:Str)(n:Nat)(ws:List D):pQ:=BC rs z ((lu rs z).getD []++[Std.mk n none ws])
theorem Hn(h:bA C S a F cs dl rs)(z:Str):((lu rs z).getD []).length≤dl.length:=by
 obtain⟨ld,lr,ra,h,_,rfl⟩:=h
 rw[gF]
 cases e:sx ra z with
 |none=>exact ya _
 |some ls=>exact h.sz _ (df (l:=ls.1) (s:=ls.2) e)
theorem Kx(rs:pQ)(z:Str)(s:List Std):(BC rs z s).length≤rs.length+1:=by
 unfold BC
 split
 ·rw[zc];lia
 ·rw[zl];exact zo _
theorem gf:lu (r::rs) k=if r.1=k then some r.2 else lu rs k:=by
 unfold lu
 rw[zV]
 by_cases h:r.1=k
 ·rw[zD h,if_pos h];rfl
 ·rw[zw h,if_neg h]
theorem jM:lu (BC rs z s) k=if k=z then some s else lu rs k:=by
 unfold BC
 by_cases hs:(lu rs z).isSome=true
 ·rw[if_pos hs]
  by_cases hk:k=z
  ·subst hk
   rw[if_pos rfl]
   induction rs with
   |nil=>cases hs
   |cons r rs ih =>
    rw[zM,gf]
    by_cases h:r.1=k
    ·rw[if_pos h,if_pos h]
    ·rw[if_neg h,if_neg h]
     rw[gf,if_neg h] at hs
     exact ih hs
  ·rw[if_neg hk]
   clear hs
   induction rs with
   |nil=>rfl
   |cons r rs ih =>
    rw[zM,gf,gf,ih]
    by_cases h:r.1=z
    ·rw[if_pos h,if_neg (show ¬ r.1=k from fun e=>hk (e.symm.trans h)),if_neg (show ¬ r.1=k from fun e=>hk (e.symm.trans h))]
    ·rw[if_neg h]
 ·rw[if_neg hs]
  have hn:lu rs z=none:=by cases e:lu rs z <;> simp_all
  clear hs
  induction rs with
  |nil =>
   rw[List.nil_append,gf]
   by_cases hk:k=z
   ·rw[if_pos hk,if_pos hk.symm]
   ·rw[if_neg hk,if_neg fun e=>hk e.symm]
  |cons r rs ih =>
   rw[gf] at hn
   by_cases h:r.1=z
   ·rw[if_pos h] at hn;cases hn
   ·rw[if_neg h] at hn
    rw[List.cons_append,gf,gf,ih hn]
    by_cases h2:r.1=k
    ·rw[if_pos h2,if_pos h2,if_neg (show ¬ k=z from fun e=>h (h2.trans e))]
    ·rw[if_neg h2,if_neg h2]
def TN(C:Addr):eF:=fun ds S R _=>∃a F cs dl rs z,ds=[.ref a,.str z]∧bA C S a F cs dl rs∧(∃s,lu rs z=some s∧s≠[])∧dl.length≤9000 ∧
 ∀S',bA C S' a F cs dl (lA rs z dl.length)→wm F F S S'→R .aw S'
theorem ke(h:l≠[]):∃r s,l=r++[s]:=⟨l.dropLast,l.getLast h,(List.dropLast_concat_getLast h).symm⟩
theorem eG(n:Nat)(r:List Std)(s:Std):iA n (r++[s])=r++[Std.mk s.b (some n) s.ws]:=by
 unfold iA
 rw[List.dropLast_concat,List.getLast?_concat];rfl
theorem Ho(T:Txt w K mg t):A7 P w mg base T.bb 2 (TN t.ag):=by
 refine T.bb.F.dM dR ?_
 rintro _ _ _ _ _ _ ds S R Z hr ⟨a,F,cs,dl,rs,z,e,⟨ld,lr,ra,h,hF,sj⟩,⟨s0,Ql,Ky⟩,hd,q⟩
 subst e hF sj
 rw[gF] at Ql
 cases e1:sx ra z with
 |none=>rw[e1] at Ql;cases Ql
 |some ls =>
  obtain⟨l,ur⟩:=ls
  rw[e1] at Ql;cases Ql
  obtain⟨r,sd,rfl⟩:=ke Ky
  have hlen:=h.sz _ (df e1)
  dsimp only at hlen
  rw[zl] at hlen
  have hlen:r.length+1≤dl.length:=hlen
  have hc:=h.cell _ (df e1)
  dsimp only at hc
  have ed:cz (dH ra) (.inr z)=some (.ref l):=by rw[g6,e1];rfl
  refine⟨_,(sc (cR (i:=2) dR.nd (Z_ zQ PySem.F.slot_list_pop PySem.F.type_list_pop Sn (ix hr.u (fl T.ai T.bR (dv 0)) (dv 1)))) (s1 (se (bm zQ yc yd eE (ix hr.u (fl T.ai T.bR (dv 0)) (dv 1)) (ac (ay (ac (ix hr.u (dv 2) di) (ac (l8 (dv 0) T.ai T.bp.e ((nW T).mono (by decide)) hr T.bp.b d0) (ac (ix hr.u (dv 2) di) an)))) an))))),?_⟩
  refine⟨_,rfl,a,_,_,rfl,h.ins,rfl,_,rfl,dH ra,_,h.run,ed,⟨rfl,_,hc⟩,l,_,jK sd,rfl,rfl,hc,?_,?_⟩
  ·rw[zN,zl];show (r.map jK++[jK sd])[(r.map jK).length+1 - 1]?=_;simp
  have e2:((r++[sd]).map jK).dropLast=r.map jK:=by rw[zN];exact List.dropLast_concat
  rw[e2]
  have h1:BD t.ag (S.set l (.lst (r.map jK))) a ld lr cs dl (sA ra z r):=h.put e1 (by lia)
  generalize CK:S.set l _=S1 at h1
  have YJ:sx (sA ra z r) z=some (l,r):=by
   have hm:(z,l,r)∈sA ra z r:=by unfold sA;exact zf.mpr ⟨_,df e1,if_pos rfl⟩
   cases e3:sx (sA ra z r) z with
   |none=>exact absurd rfl (mF e3 _ hm)
   |some x=>exact congrArg some (congrArg Prod.snd (j_ (f:=fun r:Str×Addr×List Std=>r.1) h1.kn (df (l:=x.1) (s:=x.2) e3) hm rfl))
  have ed':cz (dH (sA ra z r)) (.inr z)=some (.ref l):=by rw[g6,YJ];rfl
  have Qy:=h1.cell _ (df YJ)
  refine⟨_,rfl,a,_,_,rfl,h1.ins,rfl,_,rfl,_,_,h1.run,ed',⟨rfl,_,Qy⟩,_,rfl,_,rfl,_,rfl,a,_,rfl,h1.ins,rfl,a,_,cs,dl,_,rfl,⟨ld,lr,_,h1,rfl,rfl⟩,_,rfl,_,rfl,fR,l,_,_,rfl,rfl,Qy,bg (by rw[zc];show r.length≤_;lia),?_⟩
  have h2:=h1.put (s':=r++[Std.mk sd.b (some dl.length) sd.ws]) YJ (by rw[zl];exact hlen)
  have e4:lA (g5 ra) z dl.length=g5 (sA (sA ra z r) z (r++[Std.mk sd.b (some dl.length) sd.ws])):=by
   unfold lA
   rw[gF,e1]
   show BC (g5 ra) z (iA dl.length (r++[sd]))=_
   rw[eG,Me e1]
   unfold g5 sA
   rw[zF,zF,zF]
   exact zZ fun x _=>by dsimp only [Function.comp];by_cases hx:x.1=z <;> simp [hx]
  refine⟨_,?_,q _ ⟨ld,lr,_,h2,by rw[Hl,Hl],e4⟩ ?_⟩
  ·show Sub (S1.set l (.lst ((r++[_]).map jK))) (S1.set l (.lst (r.map jK++[_])))
   rw[zN];exact .refl _
  ·rw[← CK,dr];exact rH (Hm (df e1))
theorem CL(h:ofStr fC d=true):∃z,d=.str z∧fC z=true:=by
 cases d with
 |str z=>exact⟨z,rfl,h⟩
 |_=>cases h
theorem CM(h:iz cs k v=true):∃z ws,k=.str z∧v=.tup ws∧fC z=true:=by
 unfold iz at h
 rw[zP] at h
 obtain⟨z,rfl,hz⟩:=CL h.1
 cases v with
 |tup ws=>exact⟨z,ws,rfl,rfl,hz⟩
 |_=>exact absurd h.2 zd
theorem lB:Gt S .aw:=⟨⟨.aw,rfl⟩,fun _=>nofun⟩
theorem Mf(h:av (wt l m)=false):l≠[]:=by
 rintro rfl
 cases h
theorem vQ(hz:fC z=true)(i:Int):sC rs (.str z) i=wt ((lu rs z).getD []) i:=if_pos hz
theorem iQ(T:Txt w K mg t):A7 P w mg base T.ba 4 (fun ds S R Z=>∃a F cs dl rs k,ds=[.ref a,k]∧bA t.ag S a F cs dl rs∧Gt S k ∧
  (av (sC rs k dl.length)=false→R .aw S)∧(av (sC rs k dl.length)=true→Z t.cZ S)):=by
 refine T.ba.F.dM iT ?_
 rintro _ _ _ _ _ _ ds S R Z hr ⟨a,F,cs,dl,rs,k,e,hS,hk,q1,q2⟩
 subst e
 obtain⟨ld,lr,ra,h,_⟩:=id hS
 refine⟨_,(s1 (si (bX wY hr.u (sT (dv 0) T.ai T.c_.e ((mG T).mono (by decide)) hr T.eV d1 (ac (dv 1) an)) dn) (s1 (w_ ⟨T.vE⟩ T.xV (ac ds an))) s0)),?_⟩
 refine⟨_,rfl,a,_,rfl,h.ins,rfl,_,rfl,a,F,cs,dl,rs,k,.aw,rfl,hS,hk,lB,fun i hi=>?_,fun hn=>by cases hn⟩
 cases hi
 refine⟨_,rfl,?_⟩
 refine bJ (fun h1=>?_) (fun h1=>?_)
 ·exact⟨iV,fo (q2 h1)⟩
 ·exact fo (q1 h1)
theorem OZ(T:Txt w K mg t):A7 P w mg base T.cP 6 (fun ds S R Z=>∃a F cs dl rs k v,ds=[.ref a,k,v]∧bA t.ag S a F cs dl rs∧cs.length≤8∧Gt S k∧Md S v∧dl.length≤8000∧rs.length≤8000 ∧
  (iz cs k v=false→Z t.bO S)∧(iz cs k v=true→av (sC rs k dl.length)=false→Z t.dA S) ∧
  (∀z ws,k=.str z→v=.tup ws→iz cs k v=true→av (sC rs k dl.length)=true→∀S' F',bA t.ag S' a F' cs (dl++[.tup [.str "put",k,v]]) (pz rs z (dl.length+1) ws)→wm F F' S S'→R .aw S')):=by
 refine T.cP.F.dM vL ?_
 rintro _ _ _ _ _ _ ds S R Z hr ⟨a,F,cs,dl,rs,k,v,e,hS,hc,hk,hv,hd,hn,q1,q2,q3⟩
 subst e
 obtain⟨ld,lr,ra,h,hF,sj⟩:=id hS
 refine⟨_,(sc (se (aZ T.j5 (mE T) hr (ac (fl T.ai T.cQ (dv 0)) (ac (ay (ac (dv 1) (ac (dv 2) an))) an)))) (sc (si (bX qG hr.u (sT (dv 0) T.ai T.c_.e ((mG T).mono (by decide)) hr T.eV d1 (ac (dv 1) an)) dn) (s1 (w_ ⟨T.rC⟩ T.um (ac ds an))) s0) (sc (se (bm zQ yc yd eE (fl T.ai T.cM (dv 0)) (ac (ay (ac ds (ac (dv 1) (ac (dv 2) an)))) an))) (s1 (se (sT (dv 0) T.ai T.aS.e ((yK T).mono (by decide)) hr T.aS.b d0 (ac (dv 1) (ac (dv 2) an)))))))),?_⟩
 refine⟨_,rfl,a,_,_,rfl,h.ins,rfl,_,rfl,_,rfl,fQ,cs,k,v,rfl,hc,hk,hv,fun Kz=>?_,fun wo=>fo (q1 wo)⟩
 refine⟨_,rfl,a,_,rfl,h.ins,rfl,_,rfl,a,F,cs,dl,rs,k,.aw,rfl,hS,hk,lB,fun i hi=>?_,fun hn=>by cases hn⟩
 cases hi
 refine⟨_,rfl,?_⟩
 refine bJ (fun h1=>?_) (fun h1=>?_)
 ·exact⟨iV,fo (q2 Kz (nt h1))⟩
 ·obtain⟨z,ws,rfl,rfl,hz⟩:=CM Kz
  refine⟨_,rfl,a,_,_,rfl,h.ins,rfl,⟨rfl,_,h.x_⟩,_,rfl,_,rfl,fR,ld,dl,_,rfl,rfl,h.x_,bg (by lia),?_⟩
  have DU:=h.OW (.tup [.str "put",.str z,.tup ws])
  have CK:bA t.ag (S.set ld (.lst (dl++[.tup [.str "put",.str z,.tup ws]]))) a F cs (dl++[.tup [.str "put",.str z,.tup ws]]) rs:=⟨ld,lr,ra,DU,hF,sj⟩
  have hl:=Hn hS z
  refine⟨_,rfl,a,_,rfl,DU.ins,rfl,_,rfl,_,rfl,a,F,cs,_,rs,z,ws,rfl,CK,by rw[zl];exact Nat.lt_succ_of_le hl,by rw[zl];show dl.length+1≤_;lia,by lia,fun S' F' oF hK=>fo (q3 z ws rfl rfl Kz (nf h1) S' F' ?_ ?_)⟩
  ·have:(dl++[D.tup [.str "put",.str z,.tup ws]]).length=dl.length+1:=zl
   rw[this] at oF;exact oF
  ·refine wm.trans (rH ?_) hK
   rw[hF];exact zp _ zx
theorem EO(T:Txt w K mg t):A7 P w mg base T.bt 6 (fun ds S R Z=>∃a F cs dl rs k v,ds=[.ref a,k,v]∧bA t.ag S a F cs dl rs∧cs.length≤8∧Gt S k∧Md S v∧dl.length≤8000∧rs.length≤8000 ∧
  (iz cs k v=false→Z t.bO S)∧(iz cs k v=true→av (sC rs k dl.length)=true→Z t.cZ S) ∧
  (∀z ws,k=.str z→v=.tup ws→iz cs k v=true→av (sC rs k dl.length)=false→∀S' F',bA t.ag S' a F' cs (dl++[.tup [.str "change",k,v]]) (pz (lA rs z dl.length) z (dl.length+1) ws)→wm F F' S S'→R .aw S')):=by
 refine T.bt.F.dM px ?_
 rintro _ _ _ _ _ _ ds S R Z hr ⟨a,F,cs,dl,rs,k,v,e,hS,hc,hk,hv,hd,hn,q1,q2,q3⟩
 subst e
 obtain⟨ld,lr,ra,h,hF,sj⟩:=id hS
 refine⟨_,(sc (se (aZ T.j5 (mE T) hr (ac (fl T.ai T.cQ (dv 0)) (ac (ay (ac (dv 1) (ac (dv 2) an))) an)))) (sc (se (sT (dv 0) T.ai T.ba.e ((iQ T).mono (by decide)) hr T.ba.b d0 (ac (dv 1) an))) (sc (se (sT (dv 0) T.ai T.bb.e ((Ho T).mono (by decide)) hr T.bb.b d0 (ac (dv 1) an))) (sc (se (bm zQ yc yd eE (fl T.ai T.cM (dv 0)) (ac (ay (ac ds (ac (dv 1) (ac (dv 2) an)))) an))) (s1 (se (sT (dv 0) T.ai T.aS.e ((yK T).mono (by decide)) hr T.aS.b d0 (ac (dv 1) (ac (dv 2) an))))))))),?_⟩
 refine⟨_,rfl,a,_,_,rfl,h.ins,rfl,_,rfl,_,rfl,fQ,cs,k,v,rfl,hc,hk,hv,fun Kz=>?_,fun wo=>fo (q1 wo)⟩
 refine⟨_,rfl,a,_,rfl,h.ins,rfl,_,rfl,a,F,cs,dl,rs,k,rfl,hS,hk,fun h1=>?_,fun h1=>fo (q2 Kz h1)⟩
 obtain⟨z,ws,rfl,rfl,hz⟩:=CM Kz
 have Ky:∃s,lu rs z=some s∧s≠[]:=by
  rw[vQ hz] at h1
  have:=Mf h1
  cases e:lu rs z with
  |none=>rw[e] at this;exact absurd rfl this
  |some s=>rw[e] at this;exact⟨s,rfl,this⟩
 refine⟨_,rfl,a,_,rfl,h.ins,rfl,_,rfl,a,F,cs,dl,rs,z,rfl,hS,Ky,by lia,fun S1 CK TQ=>?_⟩
 obtain⟨O5,VC,VD,DU,TR,O6⟩:=id CK
 refine⟨_,rfl,a,_,_,rfl,DU.ins,rfl,⟨rfl,_,DU.x_⟩,_,rfl,_,rfl,fR,O5,dl,_,rfl,rfl,DU.x_,bg (by lia),?_⟩
 have h2:=DU.OW (.tup [.str "change",.str z,.tup ws])
 have CN:bA t.ag (S1.set O5 (.lst (dl++[.tup [.str "change",.str z,.tup ws]]))) a F cs (dl++[.tup [.str "change",.str z,.tup ws]]) (lA rs z dl.length):=⟨O5,VC,VD,h2,TR,O6⟩
 have hl:=Hn CK z
 have Ee:(lA rs z dl.length).length≤rs.length+1:=Kx _ _ _
 refine⟨_,rfl,a,_,rfl,h2.ins,rfl,_,rfl,_,rfl,a,F,cs,_,_,z,ws,rfl,CN,by rw[zl];exact Nat.lt_succ_of_le hl,by rw[zl];show dl.length+1≤_;lia,by lia,fun S' F' oF hK=>fo (q3 z ws rfl rfl Kz h1 S' F' ?_ ?_)⟩
 ·have:(dl++[D.tup [.str "change",.str z,.tup ws]]).length=dl.length+1:=zl
  rw[this] at oF;exact oF
 ·refine TQ.trans (wm.trans (rH ?_) hK)
  rw[TR];exact zp _ zx
theorem KA(T:Txt w K mg t):A7 P w mg base T.cy 6 (fun ds S R Z=>∃a F cs dl rs k,ds=[.ref a,k]∧bA t.ag S a F cs dl rs∧Gt S k∧dl.length≤8000 ∧
  (ofStr fC k=false→Z t.bO S)∧(ofStr fC k=true→av (sC rs k dl.length)=true→Z t.cZ S) ∧
  (∀z,k=.str z→fC z=true→av (sC rs k dl.length)=false→∀S',bA t.ag S' a F cs (dl++[.tup [.str "take",k]]) (lA rs z dl.length)→wm F F S S'→R .aw S')):=by
 refine T.cy.F.dM tH ?_
 rintro _ _ _ _ _ _ ds S R Z hr ⟨a,F,cs,dl,rs,k,e,hS,hk,hd,q1,q2,q3⟩
 subst e
 obtain⟨ld,lr,ra,h,hF,sj⟩:=id hS
 refine⟨_,(sc (si (dN (tv (aZ T.nM (j9 T) hr (ac (dv 1) an)))) (s1 (w_ ⟨T.gX⟩ T.gW (ac ds an))) s0) (sc (se (sT (dv 0) T.ai T.ba.e ((iQ T).mono (by decide)) hr T.ba.b d0 (ac (dv 1) an))) (sc (se (sT (dv 0) T.ai T.bb.e ((Ho T).mono (by decide)) hr T.bb.b d0 (ac (dv 1) an))) (s1 (se (bm zQ yc yd eE (fl T.ai T.cM (dv 0)) (ac (ay (ac ds (ac (dv 1) an))) an))))))),?_⟩
 refine⟨_,rfl,k,rfl,hk,_,rfl,?_⟩
 refine bJ (fun h0=>?_) (fun h0=>?_)
 ·exact⟨iV,fo (q1 (nt h0))⟩
 ·have h0:=nf h0
  refine⟨_,rfl,a,_,rfl,h.ins,rfl,_,rfl,a,F,cs,dl,rs,k,rfl,hS,hk,fun h1=>?_,fun h1=>fo (q2 h0 h1)⟩
  obtain⟨z,rfl,hz⟩:=CL h0
  have Ky:∃s,lu rs z=some s∧s≠[]:=by
   rw[vQ hz] at h1
   have:=Mf h1
   cases e:lu rs z with
   |none=>rw[e] at this;exact absurd rfl this
   |some s=>rw[e] at this;exact⟨s,rfl,this⟩
  refine⟨_,rfl,a,_,rfl,h.ins,rfl,_,rfl,a,F,cs,dl,rs,z,rfl,hS,Ky,by lia,fun S1 CK TQ=>?_⟩
  obtain⟨O5,VC,VD,DU,TR,O6⟩:=id CK
  refine⟨_,rfl,a,_,_,rfl,DU.ins,rfl,⟨rfl,_,DU.x_⟩,_,rfl,fQ,O5,dl,_,rfl,rfl,DU.x_,bg (by lia),?_⟩
  refine fo (q3 z rfl hz h1 _ ⟨O5,VC,VD,DU.OW _,TR,O6⟩ (TQ.trans (rH ?_)))
  rw[TR];exact zp _ zx
theorem KC(T:Txt w K mg t):A7 P w mg base T.fu 5 (fun ds S R _=>∃a cs,ds=[.ref a,.tup (cs.map aC)]∧Gd cs∧S a=some (.ins t.ag [])∧∀S' F,bA t.ag S' a F cs [] []→wm [a] F S S'→R .aw S'):=by
 refine T.fu.F.dM mC ?_
 rintro _ _ _ _ _ _ ds S R Z hr ⟨a,cs,e,hg,ha,q⟩
 subst e
 refine⟨_,(sc (se (aZ T.gC (nV T) hr (ac (dv 1) an))) (sc (sf T.ai T.cQ (dv 0) (dv 1)) (sc (sf T.ai T.cM (dv 0) (a_ an)) (s1 (sf T.ai T.bR (dv 0) Sh))))),?_⟩
 refine⟨_,rfl,cs,rfl,hg,_,rfl,_,rfl,a,[],rfl,ha,(show 0<1000 by decide),?_⟩
 refine⟨vN,fun ld Qz=>⟨_,rfl,a,[("columns",.tup (cs.map aC))],rfl,?_,(show 1<1000 by decide),fun lr Ee=>⟨_,rfl,a,[("columns",.tup (cs.map aC)),("deeds",.ref ld)],rfl,?_,(show 2<1000 by decide),?_⟩⟩⟩
 ·have nl:a≠ld:=by rintro rfl;rw[aa] at Qz;cases Qz
  rw[af nl,aa];rfl
 ·have nl:a≠lr:=by rintro rfl;rw[aa] at Ee;cases Ee
  rw[af nl,aa];rfl
 have n1:a≠ld:=by rintro rfl;rw[aa] at Qz;cases Qz
 have n2:a≠lr:=by rintro rfl;rw[aa] at Ee;cases Ee
 have n3:ld≠lr:=by rintro rfl;rw[af n1.symm,aa] at Ee;cases Ee
 rw[af n1.symm] at Qz
 rw[af n2.symm,af n3.symm,af n2.symm] at Ee
 refine fo (q _ (fp a ld lr []) ⟨ld,lr,[],⟨aa,?_,?_,fun r hr=>(nomatch hr),List.nodup_nil,(by simp),fun r hr=>(nomatch hr)⟩,rfl,rfl⟩ fun b c hb e=>?_)
 ·rw[af n1.symm,af n3,af n1.symm,aa]
 ·rw[af n2.symm,aa];rfl
 ·have b1:b≠a:=fun z=>hb (by rw[z];exact zx)
  have b2:b≠ld:=iK e Qz
  have b3:b≠lr:=iK e Ee
  refine⟨fun m=>?_,by rw[af b1,af b3,af b1,af b2,af b1];exact e⟩
  unfold fp at m
  simp only [List.map_nil,ze,zm,or_false] at m
  rcases m with m|m|m
  ·exact b1 m
  ·exact b2 m
  ·exact b3 m
def vR(rs:pQ)(i:Int)(z:Str):D:=.tup [.str z,wt ((lu rs z).getD []) i]
def lC(rs:pQ)(i:Int)(ss:List Str):List D:=(ss.filter fun z=>!av (wt ((lu rs z).getD []) i)).map (vR rs i)
def vS:D→Bool
 |.tup [_,x]=>!av x
 |_=>false
theorem yL(ss:List Str):((ss.map (vR rs i)).filter vS).map id=lC rs i ss:=by
 unfold lC
 rw[List.map_id,List.filter_map]
 rfl
def TU(C N:Addr):eF:=fun ds S R Z=>∃a F cs dl rs m,ds=[.ref a,m]∧bA C S a F cs dl rs∧rs.length<64∧Gt S m ∧
 (∀i ss,lx dl.length m=some i→ss.Perm (rs.map (·.1))→PyProof.Rows.sortedS ss=true→∀p,S p=none→R (.ref p) (S.set p (.lst (lC rs i ss))))∧(lx dl.length m=none→Z N S)
theorem kf(T:Txt w K mg t):A7 P w mg base T.bP 3 (TU t.ag t.aE):=by
 refine T.bP.F.dM eS ?_
 rintro _ _ _ _ _ _ ds S R Z hr ⟨a,F,cs,dl,rs,m,e,hS,hn,hm,q1,q2⟩
 subst e
 obtain⟨ld,lr,ra,h,hF,sj⟩:=id hS
 have ek:(dH ra).map (·.1)=(rs.map (·.1)).map Sum.inr:=by
  rw[sj];unfold dH g5;rw[zF,zF,zF];rfl
 have el:(dH ra).length<64:=by rw[sj] at hn;unfold g5 at hn;unfold dH;rw[zc] at hn ⊢;exact hn
 refine⟨_,(sc (cR (i:=2) eS.nd (sT (dv 0) T.ai T.bc.e ((iP T).mono (by decide)) hr T.bc.b d0 (ac (dv 1) an))) (sc (Ow (i:=3) (N:=["key","then","self"]) (src:=[none,some 2,some 0]) eS.nd (m_ (ae (inClass az 10)) ["self","moment","then","rows"] rfl rfl (by trivial)) (il (cb xi T.gU fb (ac (fl T.ai T.bR (dv 0)) an))) (sU (show (["key","then","self"]:List Str).Nodup by trivial)) (bf rfl) bh (fun _ _ _ _ _=>xf) (fun _ _ _ _ _=>(ay (ac (dv 0) (ac (aZ T.f9 (jL T) hr (ac (ix hr.u (fl T.ai T.bR (dv 2)) (dv 0)) (ac (dv 1) an))) an))))) (s1 (sr (Ac (N:=["row"]) (src:=[none]) (m_ (ae (inClass az 10)) ["self","moment","then","rows"] rfl rfl (by trivial)) (il (dv 3)) (sU (show (["row"]:List Str).Nodup by trivial)) (bf rfl) bh (fun _ _ _ _ _=>(if1 (bX qG hr.u (ix hr.u (dv 0) di) dn))) (fun _ _ _ _ _=>(dv 0))))))),?_⟩
 refine⟨_,rfl,a,_,rfl,h.ins,rfl,_,rfl,a,F,cs,dl,rs,m,rfl,hS,hm,fun i hi=>?_,fun hn=>fo (q2 hn)⟩
 refine⟨_,rfl,a,_,_,rfl,h.ins,rfl,lr,dH ra,rs.map (·.1),rfl,h.run,ek,el,fun ss hp hs p rJ=>?_⟩
 have hlen:ss.length<64:=by rw[hp.length_eq,zc];exact hn
 refine⟨_,aa,?_⟩
 refine comp_map (fun d=>match d with|.str z=>vR rs i z|_=>.aw) aa (by show (ss.map D.str).length≤1000;rw[zc];omega) (fun d hd Q hQ=>?_) fun p2 fT=>?_
 ·obtain⟨z,hz,rfl⟩:=zf.mp hd
  have Xd:z∈rs.map (·.1):=hp.mem_iff.mp hz
  obtain⟨r,wq,e⟩:=zf.mp Xd
  rw[sj] at wq
  unfold g5 at wq
  obtain⟨r0,wo,rfl⟩:=zf.mp wq
  have e1:sx ra z=some r0.2:=by
   cases e3:sx ra z with
   |none=>exact absurd e (mF e3 _ wo)
   |some x=>exact congrArg some (congrArg Prod.snd (j_ (f:=fun r:Str×Addr×List Std=>r.1) h.kn (df (l:=x.1) (s:=x.2) e3) wo e.symm))
  have ed:cz (dH ra) (.inr z)=some (.ref r0.2.1):=by rw[g6,e1];rfl
  have hc:=h.cell _ wo
  have eq:(lu rs z).getD []=r0.2.2:=by rw[sj,gF,e1];rfl
  have hQ:Q (.tup [.str z,wt ((lu rs z).getD []) i]) (S.set p (.lst (ss.map D.str))):=hQ
  rw[eq] at hQ
  have hi1:(S.set p (.lst (ss.map D.str))) a=_:=(af (iK h.ins rJ)).trans h.ins
  have Kz:(S.set p (.lst (ss.map D.str))) lr=_:=(af (iK h.run rJ)).trans h.run
  have Qy:(S.set p (.lst (ss.map D.str))) r0.2.1=_:=(af (iK hc rJ)).trans hc
  exact⟨_,rfl,_,rfl,a,_,_,rfl,hi1,rfl,_,rfl,dH ra,_,Kz,ed,_,rfl,_,_,i,rfl,Qy,fQ,hQ⟩
 ·have em:(ss.map D.str).map (fun d=>match d with|.str z=>vR rs i z|_=>.aw)=ss.map (vR rs i):=by rw[zF];rfl
  refine⟨_,rfl,ss.map (vR rs i),by show ((S.set p _).set p2 (.lst ((ss.map D.str).map _))) p2=_;rw[aa,em],?_⟩
  refine j8 vS id (by show ((S.set p _).set p2 (.lst ((ss.map D.str).map _))) p2=_;rw[aa,em]) (by show (ss.map (vR rs i)).length≤1000;rw[zc];omega) (fun d hd Q Q' hQ KG=>?_) fun p3 KH=>?_
  ·obtain⟨z,hz,rfl⟩:=zf.mp hd
   refine⟨_,rfl,_,rfl,_,rfl,?_⟩
   exact bJ (fun h=>⟨_,rfl,hQ h⟩) fun h=>KG h
  ·have YK:S p3=none:=by
    cases e:S p3 with
    |none=>rfl
    |some c=>exact absurd KH (by
      rw[af (iK e (by
       have:(S.set p (.lst (ss.map D.str))) p2=none:=fT
       cases e':S p2 with
       |none=>rfl
       |some c'=>rw[af (iK e' rJ),e'] at this;cases this)),af (iK e rJ),e];exact nofun)
   refine⟨S.set p3 (.lst (lC rs i ss)),fun b c hb=>?_,q1 i ss hi hp hs p3 YK⟩
   show ((((S.set p (.lst (ss.map D.str))).set p2 _).set p3 (.lst (((ss.map (vR rs i)).filter vS).map id)))) b=some c
   rw[yL]
   by_cases YL:b=p3
   ·subst YL;rw[aa] at hb ⊢;exact hb
   ·rw[af YL] at hb
    have YM:S p2=none:=by
     cases e':S p2 with
     |none=>rfl
     |some c'=>have:(S.set p (.lst (ss.map D.str))) p2=none:=fT;rw[af (iK e' rJ),e'] at this;cases this
    rw[af YL,af (iK hb YM),af (iK hb rJ)];exact hb
theorem KJ{P:Program}{w:World}{K:Frag}{mg:Str→Option Value}{base:Heap}{k:Nat}{f:Addr}{fd:FuncData}{ps:List Str}{pre:List D→Prop}
  (F:FnD P w K mg base k f fd ps (fun ds S R _=>pre ds∧∀l x y z,S l=none→R (.ref l) (S.set l (.lst [.int x,.int y,.int z])))):FnD P w K mg base k f fd ps (fun ds S R _=>pre ds∧∀l,S l=none→R (.ref l) (S.set l .well)):=by
 refine F.imp fun vs H Q E ⟨ds,S,R,Z,v,hS,⟨hp,h⟩,hR,hZ⟩=>⟨ds,S,fun d S2=>∃l x y z,S l=none∧d=.ref l∧S2=S.set l (.lst [.int x,.int y,.int z]),fun _ _=>False,v,hS,⟨hp,fun l x y z hl=>⟨l,x,y,z,hl,rfl,rfl⟩⟩,fun d S2 u H' ⟨l,x,y,z,hl,e1,e2⟩ rv hs kp=>?_,fun _ _ _ q=>q.elim⟩
 subst e1 e2
 refine hR _ _ u H' (h l hl) rv ?_ kp
 refine ug (x:=x) (y:=y) (z:=z) aa ?_
 rw[dr];exact hs
def YN(ds:List D)(l:Addr):Prop:=∃m:Int,ds=[.ref l,.int m]∧0<m∧m.natAbs.log2<9000
def TV(ds:List D)(d:D):Prop:=∃(l:Addr) (m n:Int),ds=[.ref l,.int m]∧d=.int n∧0≤n∧n<m
theorem rK(T:Txt w K mg t):Ok P w base T.j6 1 (fun ds S R _=>∃(ns:List Int) (k:Nat),ds=[.ko (ns.map D.int),.int k]∧∀c:Int,R (.int c) S):=by
 refine T.j6.F.dM vK ?_
 rintro _ _ _ _ _ _ ds S R Z hr ⟨ns,k,e,q⟩
 subst e
 refine⟨_,(sc (si (bX JT hr.u (dv 1) (cb bU T.bK aX (ac (dv 0) an))) (s1 (sr (ix hr.u (dv 0) (dv 1)))) s0) (s1 (sr di))),?_⟩
 refine⟨_,rfl,_,rfl,_,rfl,_,rfl,?_⟩
 refine bJ (fun h=>?_) (fun h=>?_)
 ·have h:(k:Int)<(((ns.map D.int).length:Nat):Int):=zu h
  have hk:k<ns.length:=by rw[zc] at h;lia
  exact⟨_,rfl,_,rfl,.int ns[k],hU (by rw[zB];simp [hk]),fo (q _)⟩
 ·exact fo (q 0)
theorem vT(T:Txt w K mg t):Ok P w base T.rq 1 (fun ds S R _=>(∃c:Int,ds=[.int c])∧∀l,S l=none→R (.ref l) (S.set l .well)):=by
 refine KJ ?_
 refine T.rq.F.ok EI (by rintro ds S R Z ⟨⟨_,e⟩,_⟩;rw[e];rfl) ?_
 rintro _ _ _ _ _ _ ds S R Z hr ⟨⟨c,e⟩,q⟩
 subst e
 refine⟨_,(s1 (sr (a_ (ac (bo iM hr.u (dv 0) (ct iN T.gT dS (ac (cm Xs hr.u (dv 0) (bo wW hr.u di di)) an))) (ac (bo l3 hr.u (dv 0) di) (ac di an)))))),?_⟩
 refine⟨_,rfl,_,rfl,⟨by decide,by decide,by decide⟩,.inr ⟨_,rfl,?_⟩⟩
 refine⟨.inr ⟨by split <;> decide,by split <;> decide⟩,_,rfl,by decide,fR,fun l hl=>fo (q l _ _ _ hl)⟩
theorem KL(T:Txt w K mg t):Ok P w base T.aM 1 (Gx YN TV):=by
 refine D_ ?_
 refine T.aM.F.ok ee (by rintro ds S R Z ⟨_,_,_,_,⟨_,e,_⟩,_⟩;rw[e];rfl) ?_
 rintro _ _ _ _ _ _ ds S R Z hr ⟨l,x,y,z,⟨m,e,hm,VE⟩,hl,q⟩
 subst e
 refine⟨_,(sc (si (bX qF hr.u (ix hr.u (dv 0) di) di) (sc (cR (i:=2) ee.nd (bo l3 hr.u (ix hr.u (dv 0) di) (dv 1))) (sc (sls (dv 0) di (bo AV hr.u (ix hr.u (dv 0) di) (dv 1))) (s1 (sr (dv 2))))) s0) (sc (cR (i:=2) ee.nd di) (sc (Ea (J2 (Ou T.iu (ac (bo bT hr.u di (bo iM hr.u di (ct iN T.gT dS (ac (cm qF hr.u (dv 1) (bo wW hr.u di di)) an)))) an)) (gn (i:=3) ee.nd) (sc (sls (dv 0) di (bo bT hr.u (ix hr.u (dv 0) di) di)) (sc (cR (i:=4) ee.nd (bo l3 hr.u (bo iM hr.u (bo bT hr.u (bo bT hr.u (ix hr.u (dv 0) di) (bo iM hr.u di (ix hr.u (dv 0) di))) di) di) di)) (sc (cR (i:=4) ee.nd (bo l3 hr.u (bo iM hr.u (dv 4) (bo bT hr.u (bo AV hr.u (dv 4) di) di)) di)) (s1 (cR (i:=2) ee.nd (bo bT hr.u (bo iM hr.u (dv 2) di) (bo l3 hr.u (bo iM hr.u (dv 4) (bo bT hr.u (bo AV hr.u (dv 4) di) di)) di))))))))) (s1 (sr (bo l3 hr.u (dv 2) (dv 1))))))),?_⟩
 refine⟨_,rfl,_,_,hl,rfl,_,rfl,?_⟩
 refine bJ (fun h=>?_) (fun h=>?_)
 ·refine⟨_,rfl,_,_,hl,rfl,_,rfl,hm,?_⟩
  refine⟨_,rfl,_,_,hl,rfl,_,rfl,⟨hm,VE⟩,_,rfl,l,_,0,0,rfl,rfl,hl,rfl,?_⟩
  exact⟨_,rfl,fo (q _ _ _ _ ⟨l,m,_,rfl,rfl,Int.emod_nonneg _ (by lia),Int.emod_lt_of_pos _ hm⟩)⟩
 ·refine⟨fun aD S'=>∃(f:Int) (o1 o2:Option D) (x y z:Int),aD=[some (.ref l),some (.int m),some (.int f),o1,o2]∧S'=S.set l (.lst [.int x,.int y,.int z]),?_,?_⟩
  ·refine⟨_,rfl,⟨by decide,by decide,by decide⟩,.inr ⟨_,rfl,.inl ⟨by decide,by decide⟩,_,rfl,?_,?_,?_⟩⟩
   ·split <;> decide
   ·split <;> decide
   refine⟨fun i aD S'=>∃(f:Int) (o1 o2:Option D) (x y z:Int),aD=[some (.ref l),some (.int m),some (.int f),o1,o2]∧S'=S.set l (.lst [.int x,.int y,.int z]),⟨0,none,none,x,y,z,rfl,?_⟩,fun _ _ _ _=>trivial,?_,fun aD S' h=>fo h⟩
   ·funext b;unfold aG.set;split
    ·rename_i h;rw[h];exact hl
    ·rfl
   rintro i d aD S' hd ⟨f,o1,o2,x,y,z,rfl,rfl⟩
   have CO:(S.set l (.lst [.int x,.int y,.int z])) l=some (.lst [.int x,.int y,.int z]):=aa
   refine⟨_,rfl,_,_,CO,rfl,_,rfl,l,_,2,2,rfl,rfl,CO,rfl,?_⟩
   rw[dr,show ([D.int x,D.int y,D.int z].set 2 (D.int (z+1)))=[D.int x,D.int y,D.int (z+1)] from rfl]
   have sH:(S.set l (.lst [.int x,.int y,.int (z+1)])) l=some (.lst [.int x,.int y,.int (z+1)]):=aa
   refine⟨_,rfl,_,_,sH,rfl,_,rfl,_,_,sH,rfl,.inl ⟨by decide,by decide⟩,.inr ⟨by decide,by decide⟩,(show (0:Int)<2147483647 by decide),?_⟩
   have nb:∀z:Int,0≤z % 2147483647∧z % 2147483647<2147483647:=fun z=>⟨Int.emod_nonneg z (by decide),Int.emod_lt_of_pos z (by decide)⟩
   have n1:=nb ((y+7919 * (z+1)+1) * 48271)
   generalize (y+7919 * (z+1)+1) * 48271 % 2147483647=u at *
   refine⟨_,rfl,_,rfl,⟨by decide,by trivial⟩,.inl ⟨by lia,by lia⟩,(show (0:Int)<2147483647 by decide),?_⟩
   have n2:=nb (u * (u / 1009+69621))
   generalize u * (u / 1009+69621) % 2147483647=v at *
   exact⟨_,rfl,.inr ⟨by decide,by decide⟩,_,rfl,_,rfl,⟨by decide,by trivial⟩,.inl ⟨by lia,by lia⟩,(show (0:Int)<2147483399 by decide),_,_,_,_,_,_,rfl,rfl⟩
  ·rintro aD S' ⟨f,o1,o2,x,y,z,rfl,rfl⟩
   exact⟨_,rfl,_,rfl,hm,fo (q _ _ _ _ ⟨l,m,_,rfl,rfl,Int.emod_nonneg _ (by lia),Int.emod_lt_of_pos _ hm⟩)⟩
def O7:eF:=fun ds S R _=>∃(l:Addr) (m:Int),ds=[.ref l,.int m]∧0<m∧m.natAbs.log2<9000∧S l=some .well∧∀n:Int,0≤n→n<m→R (.int n) S
theorem bq{P:Program}{w:World}{K:Frag}{mg:Str→Option Value}{base:Heap}{t:jf}(T:Txt w K mg t):Ok P w base T.aM 1 O7 :=
 (KL T).J3 <| by rintro ds S R Z ⟨l,m,e,h0,h1,hw,q⟩;exact⟨l,⟨m,e,h0,h1⟩,hw,by rintro d ⟨l',m',n,e1,e2,a,b⟩;exact by rw[e] at e1;cases e1;subst e2;exact q n a b⟩
theorem wl{S:aG}{l p:Addr}{c:Ce}(hw:S l=some .well)(hp:S p=none):(S.set p c) l=some .well:=(af (iK hw hp)).trans hw
theorem bY{L:List D}{S:aG}{p:Addr}{n:Int}{R:KD}(h0:0≤n)(h1:n<(L.length:Int))(hp:S p=none)(q:∀d,d∈L→R d S):∃ds d,(S.set p (.lst L)) p=some (.lst ds)∧m6 ds n=some d∧Fo (S.set p (.lst L)) (R d):=by
 obtain⟨v,e1,e2⟩:=jY (l:=L) h0 h1
 exact⟨L,v,aa,e1,S,.new hp,q v (zK e2)⟩
theorem nX{m:Int}(h0:0<m)(h1:m≤8000):m.natAbs.log2<9000:=by
 have h2:m.natAbs≤8000:=by omega
 have h3:m.natAbs.log2≤m.natAbs:=Nat.log2_le_self _
 omega
abbrev KT:List Str:=["a","ab","b","abc","a1","key","z","ba","b2","abcdefghijkl"]
abbrev KEX:List Str:=["k0","k1","k2","k3","k4","k5","k6","k7","k8","k9","k10","k11","k12","k13","k14","k15","k16","k17","k18","k19"]
abbrev KS:List Str:=KT++KEX
theorem CP(h:z∈KT):z∈KS:=zU _ h
theorem jN:∀z∈KS,fC z=true∧z.cps.size≤12∧PyData.strOk z=true:=by trivial
abbrev sD:List Str:=["key","up","a","at","ab","mark","every","now"]
theorem Hq:∀z∈sD,jJ z=true∧PyData.strOk z=true:=by trivial
def lE:D→Bool
 |.aw=>true
 |.int _=>true
 |.str z=>decide (z.cps.size≤40) && PyData.strOk z
 |_=>false
def Vg(kind:Str)(d:D):Prop:=fE kind d=true∧lE d=true
abbrev STS:List Str:=["","a","ab","b","A b","#"]
abbrev SUF:List Str:=["","a","\""]
theorem Hr:∀a∈("~~~~~~~~~~~~~~~~~~~~~~~~~~~~~~~~~~~~~~~" : Str)::STS,∀b∈SUF,x8 (a++b)=true∧(a++b).cps.size≤40∧PyData.strOk (a++b)=true∧a.length+b.length≤1000:=by trivial
theorem O8:PySem.Txt.mul "~" 39 = "~~~~~~~~~~~~~~~~~~~~~~~~~~~~~~~~~~~~~~~" := by trivial
theorem O9:MulOk "~" 39:=⟨by decide,by decide,by trivial⟩
def TY(pre:List D→Prop)(post:List D→D→Prop):eF:=fun ds S R _=>∃l r,ds=.ref l::r∧pre r∧S l=some .well∧∀d,post r d→R d S
theorem BF(T:Txt w K mg t):Ok P w base T.xR 2 (TY (·=[]) fun _ d=>∃z∈KT,d=.str z):=by
 refine T.xR.F.ok Hh (by rintro ds S R Z ⟨_,_,e,e2,_⟩;rw[e,e2];rfl) ?_
 rintro _ _ _ _ _ _ ds S R Z hr ⟨l,r,e,e2,hw,q⟩
 subst e e2
 refine⟨_,(s1 (sr (qJ (ix hr.u (a_ (ac ds (ac ds (ac ds (ac ds (ac ds (ac ds (ac ds (ac ds (ac ds (ac ds an))))))))))) (aZ T.aM (bq T) hr (ac (dv 0) (ac di an))))))),?_⟩
 refine⟨Mc,fun p hp=>⟨_,rfl,l,_,rfl,(by decide),(by decide),wl hw hp,fun n h0 h1=>bY h0 h1 hp fun d hd=>?_⟩⟩
 have hd:d∈KT.map D.str:=hd
 obtain⟨z,hz,rfl⟩:=zf.mp hd
 exact fo (q _ ⟨z,hz,rfl⟩)
theorem yM(T:Txt w K mg t):Ok P w base T.pO 2 (TY (fun r=>r=[.str "number"]∨r=[.str "word"]) fun r d=>∃k,r=[.str k]∧Vg k d):=by
 refine T.pO.F.ok rD (fun ds S R Z ⟨_,_,e,e2,_⟩=>by rw[e];rcases e2 with e2|e2 <;> rw[e2] <;> rfl) (fun gq A outer s H E ds S R Z hr ⟨l,r,e,e2,hw,q⟩=>?_)
 subst e
 obtain⟨k,rfl,hk⟩:∃k,r=[.str k]∧(k = "number" ∨ k = "word"):=by
  rcases e2 with e|e
  ·exact⟨_,e,.inl rfl⟩
  ·exact⟨_,e,.inr rfl⟩
 have q:∀d,Vg k d→R d S:=fun d hd=>q d ⟨k,rfl,hd⟩
 have hint:k = "number" → ∀i:Int,R (.int i) S:=fun e i=>q _ ⟨by rw[e];rfl,rfl⟩
 refine⟨_,(sc (si (bX bw hr.u (aZ T.aM (bq T) hr (ac (dv 0) (ac di an))) di) (s1 (sr dn)) s0) (sc (si (twd (twand (bX bw hr.u (dv 1) ds) (tw1 (bX bw hr.u (aZ T.aM (bq T) hr (ac (dv 0) (ac di an))) di)))) (s1 (sr (bo wV hr.u (aZ T.aM (bq T) hr (ac (dv 0) (ac (bo iM hr.u di (bo wW hr.u di di)) an))) (bo wW hr.u di di)))) s0) (sc (si (bX bw hr.u (dv 1) ds) (s1 (sr (bo wV hr.u (aZ T.aM (bq T) hr (ac (dv 0) (ac di an))) di))) s0) (sc (cR (i:=2) rD.nd (qJ (ix hr.u (a_ (ac ds (ac ds (ac ds (ac ds (ac ds (ac ds (ac (bo iM hr.u ds di) an)))))))) (aZ T.aM (bq T) hr (ac (dv 0) (ac di an)))))) (s1 (sr (bo bT hr.u (dv 2) (qJ (ix hr.u (a_ (ac ds (ac ds (ac ds (ac ds an))))) (aZ T.aM (bq T) hr (ac (dv 0) (ac di an)))))))))))),?_⟩
 refine⟨_,rfl,l,_,rfl,(by decide),(by decide),hw,fun n h0 h1=>⟨_,rfl,?_⟩⟩
 refine bJ (fun h=>?_) (fun h=>?_)
 ·exact fo (q .aw ⟨rfl,rfl⟩)
 refine⟨_,rfl,_,rfl,?_⟩
 refine bJ (fun h2=>?_) (fun h2=>?_)
 ·have ek:k = "number" := zu h2
  refine⟨_,rfl,l,_,rfl,(by decide),(by decide),hw,fun n1 h01 TZ=>⟨_,rfl,?_⟩⟩
  refine bJ (fun h3=>?_) (fun h3=>?_)
  ·refine⟨_,rfl,⟨by decide,by decide,by decide⟩,.inl ⟨by decide,by decide⟩,l,_,rfl,(by trivial),(by trivial),hw,fun n2 YO YQ=>⟨⟨by decide,by decide,by decide⟩,fo (hint ek _)⟩⟩
  ·refine⟨_,rfl,_,rfl,?_⟩
   show if decide (k = "number")=true then _ else _
   rw[zD ek]
   exact dh ⟨_,rfl,l,_,rfl,(by decide),(by decide),hw,fun n2 YO YQ=>fo (hint ek _)⟩
 ·have ek:¬ k = "number" := zI h2
  have ek':k = "word" := hk.resolve_left ek
  refine⟨_,rfl,_,rfl,?_⟩
  show if decide (k = "number")=true then _ else _
  rw[zw ek]
  refine eO ?_
  refine⟨O9,OV,fun p hp=>⟨_,rfl,l,_,rfl,(by decide),(by decide),wl hw hp,fun n1 h01 TZ=>bY h01 TZ hp fun d hd=>?_⟩⟩
  rw[O8] at hd
  have hd:d∈[D.str "",.str "a",.str "ab",.str "b",.str "A b",.str "#",.str "~~~~~~~~~~~~~~~~~~~~~~~~~~~~~~~~~~~~~~~"]:=hd
  obtain⟨a,ha,rfl⟩:∃a∈("~~~~~~~~~~~~~~~~~~~~~~~~~~~~~~~~~~~~~~~" : Str)::STS,d=.str a:=by
   simp only [ze,zm,or_false] at hd
   rcases hd with h|h|h|h|h|h|h <;> exact⟨_,by simp,h⟩
  refine⟨_,rfl,EK,fun p2 fT=>⟨_,rfl,l,_,rfl,(by decide),(by decide),wl hw fT,fun n2 YO YQ=>bY YO YQ fT fun d hd=>?_⟩⟩
  have hd:d∈[D.str "",.str "",.str "a",.str "\""]:=hd
  obtain⟨b,hb,rfl⟩:∃b∈SUF,d=.str b:=by
   simp only [ze,zm,or_false] at hd
   rcases hd with h|h|h|h <;> exact⟨_,by simp,h⟩
  obtain⟨w1,w2,w3,w4⟩:=Hr a ha b hb
  refine⟨sm w4,fo (q _ ⟨?_,?_⟩)⟩
  ·rw[ek'];show (false || if ("word" : Str) = "number" then _ else x8 (a++b))=true
   rw[if_neg (by decide),w1];rfl
  ·show (decide ((a++b).cps.size≤40) && PyData.strOk (a++b))=true
   rw[zD w2,w3];rfl
def Wg(cs:List (Str×Str))(ws:List D):Prop:=Paired (fun (c:Str×Str) v=>Vg c.2 v) cs ws
theorem rL{rel:(Str×Str)→D→Prop} : ∀{cs:List (Str×Str)}{out:List D},Paired (fun d v=>∃c,d=aC c∧rel c v) (cs.map aC) out→Paired (fun c v=>rel c v) cs out
 |[],_,.nil=>.nil
 |c::cs,_,.cons ⟨c',e,r⟩ t=>by
  have:c=c':=by
   unfold aC at e
   injection e with e
   injection e with e1 e2
   injection e1 with e1
   injection e2 with e2 _
   injection e2 with e2
   exact Prod.ext e1 e2
  subst this
  exact .cons r (rL t)
def yN(tr j:Nat):Str:=sD.getD ((j+tr) % 8) ""
theorem Hs:∀tr<8,∀i<9,((List.range i).map (yN tr)).Nodup:=by trivial
theorem O_(tr j:Nat):yN tr j∈sD:=by
 have:(j+tr) % 8<8:=Nat.mod_lt _ (by decide)
 unfold yN
 rw[zH,zj (show (j+tr) % 8<sD.length from this)]
 exact List.getElem_mem _
theorem nY(T:Txt w K mg t):Ok P w base T.jt 3 (fun ds S R _=>∃l cs,ds=[.ref l,.tup (cs.map aC)]∧Gd cs∧S l=some .well∧∀ws,Wg cs ws→R (.tup ws) S):=by
 refine T.jt.F.dM x6 ?_
 rintro _ _ _ _ _ _ ds S R Z hr ⟨l,cs,e,hg,hw,q⟩
 subst e
 refine⟨_,(s1 (sr (ct l7 T.cE bN (ac (Ac (N:=["_law_column","_law_well_here"]) (src:=[none,some 0]) (m_ (ae ij) ["_law_well_here","_law_columns_here"] rfl rfl (by trivial)) (LS (dv 1)) (sU (show (["_law_column","_law_well_here"]:List Str).Nodup by trivial)) (bf rfl) bh (fun _ _ _ _ _=>xf) (fun _ _ _ _ _=>(aZ T.pO (yM T) hr (ac (dv 1) (ac (ix hr.u (dv 0) di) an))))) an)))),?_⟩
 refine⟨_,rfl,_,.inl rfl,?_⟩
 refine fF (fun d v=>∃c:Str×Str,d=aC c∧Vg c.2 v) trivial (by show (cs.map aC).length≤1000;rw[zc];have:=hg.1;lia) (fun d hd Q hQ=>?_) fun out hp p rJ=>?_
 ·obtain⟨c,hc,rfl⟩:=zf.mp hd
  refine⟨_,rfl,_,rfl,.str c.2,rfl,l,_,rfl,?_,hw,fun v ⟨k,e,hv⟩=>hQ v ⟨c,rfl,?_⟩⟩
  ·rcases (hg.2.2 c hc).2 with e|e <;> rw[e]
   ·exact .inl rfl
   ·exact .inr rfl
  ·cases e;exact hv
 ·exact⟨_,out,rfl,.inl aa,S,.new rJ,q out (rL hp)⟩
theorem BG(T:Txt w K mg t):Ok P w base T.nQ 2 (fun ds S R _=>∃l,ds=[.ref l]∧S l=some .well∧∀cs,Gd cs→(∀c∈cs,c.1∈sD)→R (.tup (cs.map aC)) S):=by
 refine T.nQ.F.dM dG ?_
 rintro _ _ _ _ _ _ ds S R Z hr ⟨l,e,hw,q⟩
 subst e
 refine⟨_,(sc (cR (i:=1) dG.nd (a_ (ac ds (ac ds (ac ds (ac ds (ac ds (ac ds (ac ds (ac ds an)))))))))) (sc (cR (i:=2) dG.nd (aZ T.aM (bq T) hr (ac (dv 0) (ac di an)))) (sc (cR (i:=3) dG.nd (a_ an)) (sc (Ea (J2 (Ou T.iu (ac (qJ (ix hr.u (a_ (ac di (ac di (ac di (ac (aZ T.aM (bq T) hr (ac (dv 0) (ac di an))) an))))) (aZ T.aM (bq T) hr (ac (dv 0) (ac di an))))) an)) (gn (i:=4) dG.nd) (s1 (se (bm zQ yc yd eE (dv 3) (ac (ay (ac (ix hr.u (dv 1) (bo l3 hr.u (bo bT hr.u (dv 4) (dv 2)) di)) (ac (qJ (ix hr.u (a_ (ac ds (ac ds an))) (aZ T.aM (bq T) hr (ac (dv 0) (ac di an))))) an))) an)))))) (s1 (sr (ct l7 T.cE bN (ac (dv 3) an)))))))),?_⟩
 refine⟨YD,fun ln Qo=>⟨_,rfl,l,_,rfl,(by decide),(by decide),wl hw Qo,fun tr ht0 ht1=>⟨vN,fun lf Mg=>?_⟩⟩⟩
 obtain⟨tn,rfl⟩:∃n:Nat,tr=(n:Int):=⟨tr.toNat,by lia⟩
 have htn:tn<8:=by lia
 have nfl:lf≠ln:=by rintro rfl;rw[aa] at Mg;cases Mg
 have T3:S lf=none:=by rw[af nfl] at Mg;exact Mg
 refine⟨fun aD S'=>∃(o:Option D) (cs:List (Str×Str)),aD=[some (.ref l),some (.ref ln),some (.int tn),some (.ref lf),o]∧Gd cs∧(∀c∈cs,c.1∈sD)∧S'=S.set lf (.lst (cs.map aC)),?_,?_⟩
 ·have r_:=wl (c:=.lst []) (wl (c:=.lst [.str "key",.str "up",.str "a",.str "at",.str "ab",.str "mark",.str "every",.str "now"]) hw Qo) Mg
  refine⟨_,rfl,l,_,rfl,(by decide),(by decide),r_,fun n9 h90 h91=>⟨EK,fun p hp=>⟨_,rfl,l,_,rfl,(by decide),(by decide),wl r_ hp,fun n4 YR YS=>bY YR YS hp fun d hd=>?_⟩⟩⟩
  obtain⟨m,rfl,hm⟩:∃m:Nat,d=.int m∧m≤8:=by
   have hd:d∈[D.int 1,.int 2,.int 3,.int n9]:=hd
   simp only [ze,zm,or_false] at hd
   rcases hd with h|h|h|h
   ·exact⟨1,h,by decide⟩
   ·exact⟨2,h,by decide⟩
   ·exact⟨3,h,by decide⟩
   ·exact⟨n9.toNat,by rw[h];congr 1;lia,by lia⟩
  refine⟨m,rfl,by lia,by lia,?_⟩
  refine⟨fun i aD S'=>∃(o:Option D) (cs:List (Str×Str)),aD=[some (.ref l),some (.ref ln),some (.int tn),some (.ref lf),o]∧cs.map Prod.fst=(List.range i).map (yN tn)∧(∀c∈cs,c.2 = "number" ∨ c.2 = "word")∧S'=(S.set ln (.lst (sD.map D.str))).set lf (.lst (cs.map aC)),⟨none,[],rfl,rfl,fun _ h=>(nomatch h),rfl⟩,fun _ _ _ _=>trivial,?_,?_⟩
  ·rintro i d aD S' hd ⟨o,cs,rfl,hn,hk,rfl⟩
   obtain⟨hi,rfl⟩:=qI hd
   have hi:i<m:=by simpa using hi
   have Cf:cs.length=i:=by have:=congrArg List.length hn;simpa using this
   generalize CN:(S.set ln (.lst (sD.map D.str))).set lf (.lst (cs.map aC))=S2
   have ef:S2 lf=some (.lst (cs.map aC)):=by rw[← CN,aa]
   have en:S2 ln=some (.lst (sD.map D.str)):=by rw[← CN,af nfl.symm,aa]
   have ew:S2 l=some .well:=by rw[← CN,af (iK hw T3),af (iK hw Qo)];exact hw
   have enm:m6 (sD.map D.str) (((0:Int)+(i:Nat)+(tn:Nat)) % 8)=some (.str (yN tn i)):=by
    have e:((0:Int)+(i:Nat)+(tn:Nat)) % 8=(((i+tn) % 8:Nat):Int):=by lia
    have jW:(i+tn) % 8<8:=Nat.mod_lt _ (by decide)
    rw[e]
    refine hU ?_
    rw[zB]
    unfold yN
    rw[zH,zj (show (i+tn) % 8<sD.length from jW)]
    rfl
   refine⟨_,rfl,⟨rfl,_,ef⟩,_,rfl,_,rfl,_,rfl,(show (0:Int)<8 by decide),_,_,en,enm,fQ,fun p hp=>⟨_,rfl,l,_,rfl,(by decide),(by decide),wl ew hp,fun n2 Pa Ht=>bY Pa Ht hp fun d hd=>?_⟩⟩
   obtain⟨kd,rfl,VF⟩:∃kd:Str,d=.str kd∧(kd = "number" ∨ kd = "word"):=by
    have hd:d∈[D.str "number",.str "word"]:=hd
    simp only [ze,zm,or_false] at hd
    rcases hd with h|h
    ·exact⟨_,h,.inl rfl⟩
    ·exact⟨_,h,.inr rfl⟩
   refine⟨fQ,lf,_,_,rfl,rfl,ef,bg (by rw[zc];lia),_,cs++[(yN tn i,kd)],rfl,?_,?_,?_⟩
   ·rw[zN,hn,List.range_succ,zN];rfl
   ·intro c hc
    rcases zC.mp hc with h|h
    ·exact hk c h
    ·rw[zi.mp h];exact VF
   ·rw[← CN,dr,zN];rfl
  ·rintro aD S' ⟨o,cs,rfl,hn,hk,rfl⟩
   rw[cU] at hn
   have hn:cs.map Prod.fst=(List.range m).map (yN tn):=by simpa using hn
   have Cf:cs.length=m:=by have:=congrArg List.length hn;simpa using this
   have Qh:∀c∈cs,c.1∈sD:=fun c hc=>by
    have:c.1∈cs.map Prod.fst:=zf.mpr ⟨c,hc,rfl⟩
    rw[hn] at this
    obtain⟨j,_,e⟩:=zf.mp this
    rw[← e];exact O_ tn j
   refine⟨S.set lf (.lst (cs.map aC)),fun b c hb=>?_,o,cs,rfl,⟨by lia,by rw[hn];exact Hs tn htn m (by lia),fun c hc=>⟨(Hq _ (Qh c hc)).1,hk c hc⟩⟩,Qh,rfl⟩
   by_cases YT:b=lf
   ·subst YT;rw[aa] at hb ⊢;exact hb
   ·rw[af YT] at hb
    rw[af YT,af (iK hb Qo)];exact hb
 ·rintro aD S' ⟨o,cs,rfl,hg,Qh,rfl⟩
  exact⟨_,rfl,_,cs.map aC,rfl,.inl aa,S,.new T3,q cs hg Qh⟩
abbrev Kn:=List (Str×List D)
def kE(kn:Kn):List (Key×D):=kn.map fun r=>(Sum.inr r.1,D.tup r.2)
def fS(kn:Kn)(z:Str):Option (List D):=(kn.find? fun r=>decide (r.1=z)).map (·.2)
structure KI(cs:List (Str×Str))(kn:Kn):Prop where
 nd:(kn.map (·.1)).Nodup
 ok:∀r∈kn,r.1∈KS∧Wg cs r.2
theorem bQ:fS (r::kn) k=if r.1=k then some r.2 else fS kn k:=by
 unfold fS
 rw[zV]
 by_cases h:r.1=k
 ·rw[zD h,if_pos h];rfl
 ·rw[zw h,if_neg h]
theorem yO(kn:Kn)(k:Str):cz (kE kn) (.inr k)=(fS kn k).map D.tup:=by
 induction kn with
 |nil=>rfl
 |cons r kn ih =>
  rw[bQ]
  unfold cz kE at *
  rw[zM,zV]
  by_cases h:r.1=k
  ·have:decide ((Sum.inr r.1:Key)=.inr k)=true:=zD (by rw[h])
   dsimp only
   rw[this,if_pos h];rfl
  ·have:decide ((Sum.inr r.1:Key)=.inr k)=false:=zw fun e=>h (yz e)
   dsimp only
   rw[this,if_neg h];exact ih
theorem vU(h:fS kn k=some ws):(k,ws)∈kn:=by
 induction kn with
 |nil=>cases h
 |cons r kn ih =>
  rw[bQ] at h
  by_cases hk:r.1=k
  ·rw[if_pos hk] at h;cases h;rw[← hk];exact zx
  ·rw[if_neg hk] at h;exact zp _ (ih h)
theorem Hu(h:k∈kn.map (·.1)):∃ws,fS kn k=some ws:=by
 induction kn with
 |nil=>cases h
 |cons r kn ih =>
  rw[bQ]
  by_cases hk:r.1=k
  ·exact⟨r.2,if_pos hk⟩
  ·rw[if_neg hk]
   rw[zM] at h
   rcases ze.mp h with e|h
   ·exact absurd e.symm hk
   ·exact ih h
theorem sub_len[DecidableEq α]:∀{l m:List α},l.Nodup→(∀x∈l,x∈m)→l.length≤m.length
 |[],m,_,_=>ya _
 |a::l,m,nd,h=>by
  obtain⟨n1,n2⟩:=yn.mp nd
  have h1:=sub_len (m:=m.erase a) n2 fun x hx=>(List.mem_erase_of_ne (fun e=>n1 (by rw[← e];exact hx))).mpr (h x (zp _ hx))
  have h2:=List.length_erase_of_mem (h a zx)
  have h3:0<m.length:=List.length_pos_of_mem (h a zx)
  rw[zE];omega
theorem KI.len(h:KI cs kn):kn.length≤30:=by
 have:=sub_len h.nd (m:=KS) fun x hx=>by
  obtain⟨r,hr,rfl⟩:=zf.mp hx
  exact (h.ok r hr).1
 rw[zc] at this
 exact this
def pA(kn:Kn)(z:Str)(ws:List D):Kn:=if (fS kn z).isSome then kn.map fun r=>if r.1=z then (r.1,ws) else r else kn++[(z,ws)]
def vV(kn:Kn)(z:Str):Kn:=kn.filter fun r=>decide (r.1≠z)
theorem Pb(kn:Kn)(z:Str)(ws:List D):dput (kE kn) (.inr z) (.tup ws)=kE (pA kn z ws):=by
 unfold dput pA
 have e:((kE kn).any fun kv=>decide (kv.1=.inr z))=(fS kn z).isSome:=by
  induction kn with
  |nil=>rfl
  |cons r kn ih =>
   unfold kE at *
   rw[zM,yD,ih,bQ]
   by_cases h:r.1=z
   ·rw[if_pos h,zD (by rw[h]),Bool.true_or];rfl
   ·rw[if_neg h,zw fun e=>h (yz e),yE]
 rw[e]
 split
 ·unfold kE
  rw[zF,zF]
  refine zZ fun r _=>?_
  dsimp only [Function.comp]
  by_cases h:r.1=z
  ·rw[if_pos h,if_pos (by rw[h])]
  ·rw[if_neg h,if_neg fun e=>h (yz e)]
 ·unfold kE
  rw[zN];rfl
theorem Pc(kn:Kn)(z:Str):wZ (kE kn) (.inr z)=kE (vV kn z):=by
 unfold wZ vV kE
 rw[List.filter_map]
 congr 1
 refine List.filter_congr fun r _=>?_
 dsimp only [Function.comp]
 rw[yy]
 exact⟨fun h e=>h (by rw[e]),fun h e=>h (yz e)⟩
theorem KN:fS (pA kn z ws) k=if k=z then some ws else fS kn k:=by
 unfold pA
 by_cases hs:(fS kn z).isSome=true
 ·rw[if_pos hs]
  by_cases hk:k=z
  ·subst hk
   rw[if_pos rfl]
   induction kn with
   |nil=>cases hs
   |cons r rs ih =>
    rw[zM,bQ]
    by_cases h:r.1=k
    ·rw[if_pos h,if_pos h]
    ·rw[if_neg h,if_neg h]
     rw[bQ,if_neg h] at hs
     exact ih hs
  ·rw[if_neg hk]
   clear hs
   induction kn with
   |nil=>rfl
   |cons r rs ih =>
    rw[zM,bQ,bQ,ih]
    by_cases h:r.1=z
    ·rw[if_pos h,if_neg (show ¬ r.1=k from fun e=>hk (e.symm.trans h)),if_neg (show ¬ r.1=k from fun e=>hk (e.symm.trans h))]
    ·rw[if_neg h]
 ·rw[if_neg hs]
  have hn:fS kn z=none:=by cases e:fS kn z <;> simp_all
  clear hs
  induction kn with
  |nil =>
   rw[List.nil_append,bQ]
   by_cases hk:k=z
   ·rw[if_pos hk,if_pos hk.symm]
   ·rw[if_neg hk,if_neg fun e=>hk e.symm]
  |cons r rs ih =>
   rw[bQ] at hn
   by_cases h:r.1=z
   ·rw[if_pos h] at hn;cases hn
   ·rw[if_neg h] at hn
    rw[List.cons_append,bQ,bQ,ih hn]
    by_cases h2:r.1=k
    ·rw[if_pos h2,if_pos h2,if_neg (show ¬ k=z from fun e=>h (h2.trans e))]
    ·rw[if_neg h2,if_neg h2]
theorem KO:fS (vV kn z) k=if k=z then none else fS kn k:=by
 unfold vV
 induction kn with
 |nil=>split <;> rfl
 |cons r kn ih =>
  rw[List.filter_cons,bQ]
  by_cases h:r.1=z
  ·rw[if_neg (by simp [h]),ih]
   by_cases hk:k=z
   ·rw[if_pos hk,if_pos hk]
   ·rw[if_neg hk,if_neg hk,if_neg (show ¬ r.1=k from fun e=>hk (e.symm.trans h))]
  ·rw[if_pos (by simp [h]),bQ,ih]
   by_cases hk:k=z
   ·rw[if_pos hk,if_pos hk,if_neg (show ¬ r.1=k from fun e=>h (e.trans hk))]
   ·rw[if_neg hk,if_neg hk]
theorem KI.put(h:KI cs kn)(hz:z∈KS)(hw:Wg cs ws):KI cs (pA kn z ws):=by
 unfold pA
 split
 ·refine⟨?_,fun r hr=>?_⟩
  ·have:(kn.map fun r=>if r.1=z then (r.1,ws) else r).map (·.1)=kn.map (·.1):=by
    rw[zF];exact zZ fun r _=>by dsimp only [Function.comp];split <;> rfl
   rw[this];exact h.nd
  ·obtain⟨r0,wo,e⟩:=zf.mp hr
   by_cases q:r0.1=z
   ·rw[if_pos q] at e;subst e;exact⟨(h.ok r0 wo).1,hw⟩
   ·rw[if_neg q] at e;subst e;exact h.ok r0 wo
 ·rename_i hs
  refine⟨?_,fun r hr=>?_⟩
  ·rw[zN]
   refine lY h.nd fun m=>hs ?_
   obtain⟨Pd,e⟩:=Hu m
   show (fS kn z).isSome=true
   rw[show fS kn z=some Pd from e];rfl
  ·rcases zC.mp hr with hr|hr
   ·exact h.ok r hr
   ·rw[zi.mp hr];exact⟨hz,hw⟩
theorem KI.del(h:KI cs kn)(z:Str):KI cs (vV kn z) :=
 ⟨(List.Sublist.map _ List.filter_sublist).nodup h.nd,fun r hr=>h.ok r (List.mem_filter.mp hr).1⟩
def GD(ks:List Str)(cs:List (Str×Str))(kn:Kn)(d:D):Prop :=
 (∃z ws,z∈ks∧Wg cs ws∧fS kn z=none∧d=.tup [.str "put",.str z,.tup ws])∨(∃z ws,z∈KS∧Wg cs ws∧(fS kn z).isSome=true∧d=.tup [.str "change",.str z,.tup ws])∨∃z,z∈KS∧(fS kn z).isSome=true∧d=.tup [.str "take",.str z]
def Ly(S:aG)(n:Nat)(d:D):Prop:=∃p,Dp S d p∧p.canLay0=true∧p.depth≤n
theorem Ly.all:∀{ds:List D},(∀d∈ds,Ly S n d)→∃ps:List PyData,DpAll S ds ps∧PyData.canLayAll0 ps=true∧PyData.depthAll ps≤n∧ps.length=ds.length
 |[],_=>⟨[],by simp only [DpAll],rfl,ya _,rfl⟩
 |d::ds,h=>by
  obtain⟨p,h1,h2,h3⟩:=h d zx
  obtain⟨ps,k1,k2,k3,k4⟩:=Ly.all fun x hx=>h x (zp _ hx)
  refine⟨p::ps,by simp only [DpAll];exact⟨p,ps,rfl,h1,k1⟩,by simp only [PyData.canLayAll0,h2,k2,Bool.and_self],by simp only [PyData.depthAll];lia,by rw[zE,zE,k4]⟩
theorem Ly.tup{S:aG}{n:Nat}{ds:List D}(h:∀d∈ds,Ly S n d):Ly S (n+1) (.tup ds):=by
 obtain⟨ps,k1,k2,k3,_⟩:=Ly.all h
 exact⟨.tuple ps,by simp only [Dp];exact⟨ps,rfl,k1⟩,by simp only [PyData.canLay0];exact k2,by simp only [PyData.depth];lia⟩
theorem Ly.str{S:aG}{z:Str}(h:PyData.strOk z=true):Ly S 0 (.str z):=⟨.str z,by simp only [Dp],by simp only [PyData.canLay0];exact h,by simp only [PyData.depth];lia⟩
theorem Ly.le(h:Ly S n d)(l:n≤m):Ly S m d:=by obtain⟨p,a,b,c⟩:=h;exact⟨p,a,b,zL c l⟩
theorem Ly.aw:Ly S 0 .aw:=⟨.none,by simp only [Dp],by simp only [PyData.canLay0],by simp only [PyData.depth];lia⟩
theorem Ly.plain(h:lE d=true):Ly S 0 d:=by
 cases d with
 |aw=>exact Ly.aw
 |int i=>exact⟨.int i,by simp only [Dp],by simp only [PyData.canLay0],by simp only [PyData.depth];lia⟩
 |str z =>
  have h:(decide (z.cps.size≤40) && PyData.strOk z)=true:=h
  rw[zP] at h
  exact Ly.str h.2
 |_=>cases h
theorem Ly.lst{S:aG}{n:Nat}{a:Addr}{ds:List D}(e:S a=some (.lst ds))(h:∀d∈ds,Ly S n d):∃p,Dl S (.ref a) p∧p.canLay0=true∧p.depth≤n+1∧∀b,S b=some (.lst ds)→Dl S (.ref b) p:=by
 obtain⟨ps,k1,k2,k3,_⟩:=Ly.all h
 exact⟨.list ps,⟨ds,ps,e,rfl,k1⟩,by simp only [PyData.canLay0];exact k2,by simp only [PyData.depth];lia,fun b hb=>⟨ds,ps,hb,rfl,k1⟩⟩
theorem Hv{S:aG}{a b:Addr}{ds:List D}{R:KD}{neg:Bool}(e1:S a=some (.lst ds))(e2:S b=some (.lst ds))(h:∀d∈ds,Ly S 60 d)(q:R (.bl (!neg)) S):JU neg (.ref a) (.ref b) S R:=by
 obtain⟨p,k1,k2,k3,k4⟩:=Ly.lst e1 h
 have e:(if neg then !PyData.eqv p p else PyData.eqv p p)=!neg:=by rw[SeqAt.eqv_refl p k2];cases neg <;> rfl
 exact⟨p,p,k1,k4 b e2,k2,k2,.inl (by lia),by rw[e];exact q⟩
theorem Hw(ps:List PyData):PyData.eqv (.list ps) (.list [])=ps.isEmpty:=by cases ps <;> simp [PyData.eqv,PyData.eqvAll]
theorem yP(ps:List PyData):PyData.eqv (.tuple ps) (.tuple [])=ps.isEmpty:=by cases ps <;> simp [PyData.eqv,PyData.eqvAll]
theorem eq_nil{S:aG}{a b:Addr}{ds:List D}{R:KD}(e1:S a=some (.lst ds))(e2:S b=some (.lst []))(h:∀d∈ds,Ly S 60 d)(q:R (.bl ds.isEmpty) S):JU false (.ref a) (.ref b) S R:=by
 obtain⟨ps,k1,k2,k3,k4⟩:=Ly.all h
 refine⟨.list ps,.list [],⟨ds,ps,e1,rfl,k1⟩,⟨[],[],e2,rfl,by simp only [DpAll]⟩,by simp only [PyData.canLay0];exact k2,by simp only [PyData.canLay0,PyData.canLayAll0],.inl (by simp only [PyData.depth];lia),?_⟩
 rw[if_neg zd,Hw,show ps.isEmpty=ds.isEmpty by cases ps <;> cases ds <;> first|rfl|cases k4];exact q
theorem KP{S:aG}{ds:List D}{R:KD}(h:∀d∈ds,Ly S 60 d)(q:R (.bl ds.isEmpty) S):JU false (.tup ds) (.tup []) S R:=by
 obtain⟨ps,k1,k2,k3,k4⟩:=Ly.all h
 refine⟨.tuple ps,.tuple [],by simp only [Dl,Dp];exact⟨ps,rfl,k1⟩,by simp only [Dl,Dp];exact⟨[],rfl,by simp only [DpAll]⟩,by simp only [PyData.canLay0];exact k2,by simp only [PyData.canLay0,PyData.canLayAll0],.inl (by simp only [PyData.depth];lia),?_⟩
 rw[if_neg zd,yP,show ps.isEmpty=ds.isEmpty by cases ps <;> cases ds <;> first|rfl|cases k4];exact q
theorem Wg.all(h:Wg cs ws):∀d∈ws,lE d=true:=by
 unfold Wg at h
 induction h with
 |nil=>exact fun _ h=>(nomatch h)
 |cons r t ih =>
  intro d hd
  rcases ze.mp hd with e|hd
  ·rw[e];exact r.2
  ·exact ih d hd
theorem Wg.ly{cs:List (Str×Str)}{ws:List D}(h:Wg cs ws){S:aG} : Ly S 1 (.tup ws):=Ly.tup fun d hd=>Ly.plain (h.all d hd)
theorem KI.ly{cs:List (Str×Str)}{kn:Kn}(hI:KI cs kn){ss:List Str}(hp:ss.Perm (kn.map (·.1))){S:aG} : ∀d∈ss.map D.str,Ly S 60 d:=fun d hd=>by
 obtain⟨z,hz,rfl⟩:=zf.mp hd
 obtain⟨r,hr,e⟩:=zf.mp (hp.mem_iff.mp hz)
 rw[← e]
 exact (Ly.str (jN _ (hI.ok r hr).1).2.2).le (ya _)
def Pe:eF:=fun ds S R _=>∃l cs lk kn,ds=[.ref l,.tup (cs.map aC),.ref lk]∧Gd cs∧S l=some .well∧S lk=some (.dy (kE kn))∧KI cs kn∧∀d,GD KT cs kn d→R d S
theorem KQ(T:Txt w K mg t):Ok P w base T.Bp 4 Pe:=by
 refine T.Bp.F.dM gY ?_
 rintro _ _ _ _ _ _ ds S R Z hr ⟨l,cs,lk,kn,e,hg,hw,hk,hI,q⟩
 subst e
 have hlen:=hI.len
 refine⟨_,(sc (cR (i:=3) gY.nd (aZ T.aM (bq T) hr (ac (dv 0) (ac di an)))) (sc (cR (i:=4) gY.nd (cb xi T.gU fb (ac (dv 2) an))) (sc (si (twd (twor (bX bw hr.u (dv 4) (a_ an)) (tw1 (bX JT hr.u (dv 3) di)))) (sc (cR (i:=5) gY.nd (aZ T.xR (BF T) hr (ac (dv 0) an))) (sc (si (bX D3 hr.u (dv 5) (dv 2)) (s1 (sr (ay (ac ds (ac (dv 5) (ac (aZ T.jt (nY T) hr (ac (dv 0) (ac (dv 1) an))) an)))))) s0) (s1 (sr (ay (ac ds (ac (dv 5) (ac (aZ T.jt (nY T) hr (ac (dv 0) (ac (dv 1) an))) an)))))))) s0) (sc (cR (i:=5) gY.nd (ix hr.u (dv 4) (aZ T.aM (bq T) hr (ac (dv 0) (ac (cb bU T.bK aX (ac (dv 4) an)) an))))) (sc (si (bX bw hr.u (dv 3) di) (s1 (sr (ay (ac ds (ac (dv 5) an))))) s0) (sc (si (bX bw hr.u (dv 3) di) (s1 (sr (ay (ac ds (ac (dv 5) (ac (ix hr.u (dv 2) (dv 5)) an)))))) s0) (s1 (sr (ay (ac ds (ac (dv 5) (ac (aZ T.jt (nY T) hr (ac (dv 0) (ac (dv 1) an))) an)))))))))))),?_⟩
 have ek:(kE kn).map (·.1)=(kn.map (·.1)).map Sum.inr:=by unfold kE;rw[zF,zF];rfl
 have el:(kE kn).length<64:=by unfold kE;rw[zc];lia
 refine⟨_,rfl,l,_,rfl,(by decide),(by decide),hw,fun way h0 h1=>⟨_,rfl,lk,kE kn,kn.map (·.1),rfl,hk,ek,el,fun ss hp hs p rJ=>?_⟩⟩
 refine⟨_,rfl,vN,fun p2 fT=>?_⟩
 generalize CN:(S.set p (.lst (ss.map D.str))).set p2 (.lst [])=S2
 have sub:Sub S S2:=by rw[← CN];exact (Sub.new rJ).trans (.new fT)
 have r_:=sub _ _ hw
 have dU:=sub _ _ hk
 have sE:S2 p=some (.lst (ss.map D.str)):=by
  rw[← CN,af (show p≠p2 by rintro rfl;rw[aa] at fT;cases fT),aa]
 have YU:S2 p2=some (.lst []):=by rw[← CN,aa]
 have fin:∀d,GD KT cs kn d→Fo S2 (R d):=fun d hd=>⟨S,sub,q d hd⟩
 have ed:∀z,cz (kE kn) (.inr z)=(fS kn z).map D.tup:=yO kn
 have Pf:∀z,(cz (kE kn) (.inr z)).isSome=(fS kn z).isSome:=fun z=>by rw[ed];cases fS kn z <;> rfl
 refine eq_nil sE YU (hI.ly hp) ⟨_,rfl,?_⟩
 refine bJ (fun h=>?_) (fun h=>⟨_,rfl,_,rfl,bJ (fun h3=>?_) (fun h3=>?_)⟩)
 ·refine⟨_,rfl,l,[],rfl,rfl,r_,fun d ⟨z,hz,e⟩=>?_⟩
  subst e
  refine⟨_,rfl,_,rfl,.inr ⟨kE kn,.inr z,dU,rfl,_,rfl,?_⟩⟩
  refine bJ (fun h5=>?_) (fun h5=>?_)
  ·exact⟨_,rfl,_,rfl,_,rfl,l,cs,rfl,hg,r_,fun ws tJ=>⟨fR,fin _ (.inr (.inl ⟨z,ws,CP hz,tJ,(Pf z).symm.trans h5,rfl⟩))⟩⟩
  ·have h6:fS kn z=none:=by have:=(Pf z).symm.trans h5;cases e:fS kn z with|none=>rfl|some _=>rw[e] at this;cases this
   exact⟨_,rfl,_,rfl,_,rfl,l,cs,rfl,hg,r_,fun ws tJ=>⟨fR,fin _ (.inl ⟨z,ws,hz,tJ,h6,rfl⟩)⟩⟩
 ·refine⟨_,rfl,l,[],rfl,rfl,r_,fun d ⟨z,hz,e⟩=>?_⟩
  subst e
  refine⟨_,rfl,_,rfl,.inr ⟨kE kn,.inr z,dU,rfl,_,rfl,?_⟩⟩
  refine bJ (fun h5=>?_) (fun h5=>?_)
  ·exact⟨_,rfl,_,rfl,_,rfl,l,cs,rfl,hg,r_,fun ws tJ=>⟨fR,fin _ (.inr (.inl ⟨z,ws,CP hz,tJ,(Pf z).symm.trans h5,rfl⟩))⟩⟩
  ·have h6:fS kn z=none:=by have:=(Pf z).symm.trans h5;cases e:fS kn z with|none=>rfl|some _=>rw[e] at this;cases this
   exact⟨_,rfl,_,rfl,_,rfl,l,cs,rfl,hg,r_,fun ws tJ=>⟨fR,fin _ (.inl ⟨z,ws,hz,tJ,h6,rfl⟩)⟩⟩
 ·have DN:0<(ss.map D.str).length:=by
   have h:(ss.map D.str).isEmpty=false:=h
   cases ss with
   |nil=>cases h
   |cons a ss=>exact Nat.succ_pos _
  have hle:(ss.map D.str).length≤30:=by rw[zc,hp.length_eq,zc];exact hlen
  refine⟨_,rfl,_,rfl,_,rfl,_,rfl,.inl ⟨_,sE,l,_,rfl,(by lia),nX (by lia) (by lia),r_,fun n hn0 Td=>?_⟩⟩
  obtain⟨v,a1,a2⟩:=jY (l:=ss.map D.str) hn0 Td
  obtain⟨z,hz,rfl⟩:=zf.mp (zK a2)
  obtain⟨ws,tJ⟩:=Hu (hp.mem_iff.mp hz)
  obtain⟨YV,YW⟩:=hI.ok _ (vU tJ)
  have YX:(fS kn z).isSome=true:=by rw[tJ];rfl
  refine⟨_,_,sE,a1,_,rfl,_,rfl,?_⟩
  refine bJ (fun h4=>?_) (fun h4=>?_)
  ·exact⟨_,rfl,fQ,fin _ (.inr (.inr ⟨z,YV,YX,rfl⟩))⟩
  refine⟨_,rfl,_,rfl,?_⟩
  refine bJ (fun h4=>?_) (fun h4=>?_)
  ·exact⟨_,rfl,_,rfl,_,rfl,kE kn,.tup ws,dU,by rw[ed,tJ];rfl,fR,fin _ (.inr (.inl ⟨z,ws,YV,YW,YX,rfl⟩))⟩
  ·exact⟨_,rfl,_,rfl,_,rfl,l,cs,rfl,hg,r_,fun Pd YY=>⟨fR,fin _ (.inr (.inl ⟨z,Pd,YV,YY,YX,rfl⟩))⟩⟩
def Mo(sp:eF):eF:=fun ds S R Z=>∃R0 Z0,sp ds S R0 Z0∧(∀d S',R0 d S'→R d S')∧∀C S',Z0 C S'→Z C S'
theorem Pg(F:bZ P w K mg base (fU P w) k f fd ps (sS K sp)):bZ P w K mg base (fU P w) k f fd ps (sS K (Mo sp)) :=
 F.imp <| by rintro vs H Q E ⟨ds,S,R,Z,v,hS,⟨R0,Z0,h,h1,h2⟩,hR,hZ⟩;exact⟨ds,S,R0,Z0,v,hS,h,fun d S' u H' r=>hR d S' u H' (h1 _ _ r),fun C S' H' z=>hZ C S' H' (h2 _ _ z)⟩
def Mh(t:jf):eF:=fun ds S R Z=>∃a F cs dl rs k v,ds=[.ref a,k,v]∧bA t.ag S a F cs dl rs∧cs.length≤8∧Gt S k∧Md S v∧dl.length≤8000∧rs.length≤8000 ∧
  (iz cs k v=false→Z t.bO S)∧(iz cs k v=true→av (sC rs k dl.length)=false→Z t.dA S) ∧
  (∀z ws,k=.str z→v=.tup ws→iz cs k v=true→av (sC rs k dl.length)=true→∀S' F',bA t.ag S' a F' cs (dl++[.tup [.str "put",k,v]]) (pz rs z (dl.length+1) ws)→wm F F' S S'→R .aw S')
def yQ(t:jf):eF:=fun ds S R Z=>∃a F cs dl rs k v,ds=[.ref a,k,v]∧bA t.ag S a F cs dl rs∧cs.length≤8∧Gt S k∧Md S v∧dl.length≤8000∧rs.length≤8000 ∧
  (iz cs k v=false→Z t.bO S)∧(iz cs k v=true→av (sC rs k dl.length)=true→Z t.cZ S) ∧
  (∀z ws,k=.str z→v=.tup ws→iz cs k v=true→av (sC rs k dl.length)=false→∀S' F',bA t.ag S' a F' cs (dl++[.tup [.str "change",k,v]]) (pz (lA rs z dl.length) z (dl.length+1) ws)→wm F F' S S'→R .aw S')
def Hx(t:jf):eF:=fun ds S R Z=>∃a F cs dl rs k,ds=[.ref a,k]∧bA t.ag S a F cs dl rs∧Gt S k∧dl.length≤8000 ∧
  (ofStr fC k=false→Z t.bO S)∧(ofStr fC k=true→av (sC rs k dl.length)=true→Z t.cZ S) ∧
  (∀z,k=.str z→fC z=true→av (sC rs k dl.length)=false→∀S',bA t.ag S' a F cs (dl++[.tup [.str "take",k]]) (lA rs z dl.length)→wm F F S S'→R .aw S')
def YZ(kn:Kn)(d:D)(uu:Kn):Prop:=(∃(n:Str) (z:Str) (ws:List D),(n = "put" ∨ n = "change")∧d=.tup [.str n,.str z,.tup ws]∧uu=pA kn z ws)∨∃z,(fS kn z).isSome=true∧d=.tup [.str "take",.str z]∧uu=vV kn z
def Hy(t:jf):eF:=fun ds S R Z=>∃a fs,S a=some (.ins t.ag fs)∧fs.map Prod.fst=(["columns","deeds","runs"]:List Str) ∧
 ((∃k v,ds=[.ref a,.tup [.str "put",k,v]]∧Mh t [.ref a,k,v] S R Z)∨(∃k v,ds=[.ref a,.tup [.str "change",k,v]]∧yQ t [.ref a,k,v] S R Z)∨∃k,ds=[.ref a,.tup [.str "take",k]]∧Hx t [.ref a,k] S R Z)
theorem lk0:∀{fs:List (Str×D)},m∉fs.map Prod.fst→fs.lookup m=none
 |[],_=>rfl
 | (a,b)::fs,h=>by
  rw[zM,ze] at h
  rw[zJ,show (m == a)=false from beq_false_of_ne fun e=>h (.inl e)]
  exact lk0 fun q=>h (.inr q)
theorem Y_{fs:List (Str×D)}(h:fs.map Prod.fst=(["columns","deeds","runs"]:List Str)){m:Str}(hm:m∉(["columns","deeds","runs"]:List Str)):fs.lookup m=none:=lk0 (by rw[h];exact hm)
theorem Hz(T:Txt w K mg t):Ok P w base T.vp 1 (fun ds S R _=>∃lk kn d uu,ds=[.ref lk,d]∧S lk=some (.dy (kE kn))∧kn.length≤100∧YZ kn d uu∧R .aw (S.set lk (.dy (kE uu)))):=by
 refine T.vp.F.dM Bz ?_
 rintro _ _ _ _ _ _ ds S R Z hr ⟨lk,kn,d,uu,e,hk,hn,hd,q⟩
 subst e
 refine⟨_,(s1 (si (bX bw hr.u (ix hr.u (dv 1) di) ds) (s1 (se (mp1 (dv 0) (ix hr.u (dv 1) di)))) (s1 (sd hr.u (dv 0) (ix hr.u (dv 1) di) (ix hr.u (dv 1) di))))),?_⟩
 have hl:(kE kn).length<sizeLine:=bg (by unfold kE;rw[zc];lia)
 rcases hd with ⟨n,z,ws,E8,rfl,rfl⟩|⟨z,hz,rfl,rfl⟩
 ·refine⟨_,rfl,_,rfl,_,rfl,?_⟩
  refine bJ (fun h=>?_) (fun h=>?_)
  ·have h:n = "take" := zu h
   rcases E8 with e|e <;> rw[e] at h <;> exact absurd h (by decide)
  ·refine⟨_,rfl,_,rfl,_,rfl,_,rfl,_,rfl,lk,kE kn,.inr z,rfl,hk,rfl,hl,?_⟩
   rw[Pb]
   exact fo q
 ·refine⟨_,rfl,_,rfl,_,rfl,?_⟩
  refine bJ (fun h=>?_) (fun h=>absurd h (by decide))
  obtain⟨ws,tJ⟩:=Option.isSome_iff_exists.mp hz
  refine⟨_,rfl,lk,kE kn,rfl,hk,_,rfl,_,rfl,kE kn,.inr z,.tup ws,hk,rfl,by rw[yO,tJ];rfl,?_⟩
  rw[Pc]
  exact fo q
theorem KR(T:Txt w K mg t):Ok P w base T.vq 7 (Hy t):=by
 have jO:A7 P w mg base T.cP 6 (Mo (Mh t)):=Pg (OZ T)
 have fG:A7 P w mg base T.bt 6 (Mo (yQ t)):=Pg (EO T)
 have iB:A7 P w mg base T.cy 6 (Mo (Hx t)):=Pg (KA T)
 refine T.vq.F.ok EJ (fun ds S R Z ⟨_,_,_,_,h⟩=>by rcases h with ⟨_,_,e,_⟩|⟨_,_,e,_⟩|⟨_,e,_⟩ <;> rw[e] <;> rfl) (fun gq A outer s H E ds S R Z hr ⟨a,fs,ha,hf,h⟩=>?_)
 rcases h with ⟨k,v,e,h⟩|⟨k,v,e,h⟩|⟨k,e,h⟩
 ·subst e
  refine⟨_,(sc (si (bX bw hr.u (ix hr.u (dv 1) di) ds) (s1 (sr (sT (dv 0) T.ai T.cP.e (jO.mono (by decide)) hr T.cP.b d0 (ac (ix hr.u (dv 1) di) (ac (ix hr.u (dv 1) di) an))))) s0) (sc (si (bX bw hr.u (ix hr.u (dv 1) di) ds) (s1 (sr (sT (dv 0) T.ai T.bt.e (fG.mono (by decide)) hr T.bt.b d0 (ac (ix hr.u (dv 1) di) (ac (ix hr.u (dv 1) di) an))))) s0) (s1 (sr (sT (dv 0) T.ai T.cy.e (iB.mono (by decide)) hr T.cy.b d0 (ac (ix hr.u (dv 1) di) an)))))),?_⟩
  refine⟨_,rfl,_,rfl,_,rfl,?_⟩
  refine bJ (fun _=>?_) (fun h=>absurd h (by decide))
  exact⟨_,rfl,a,_,rfl,ha,Y_ hf (by decide),_,rfl,_,rfl,_,rfl,_,rfl,R,Z,h,fun d S' r=>fo r,fun C S' z=>fo z⟩
 ·subst e
  refine⟨_,(sc (si (bX bw hr.u (ix hr.u (dv 1) di) ds) (s1 (sr (sT (dv 0) T.ai T.cP.e (jO.mono (by decide)) hr T.cP.b d0 (ac (ix hr.u (dv 1) di) (ac (ix hr.u (dv 1) di) an))))) s0) (sc (si (bX bw hr.u (ix hr.u (dv 1) di) ds) (s1 (sr (sT (dv 0) T.ai T.bt.e (fG.mono (by decide)) hr T.bt.b d0 (ac (ix hr.u (dv 1) di) (ac (ix hr.u (dv 1) di) an))))) s0) (s1 (sr (sT (dv 0) T.ai T.cy.e (iB.mono (by decide)) hr T.cy.b d0 (ac (ix hr.u (dv 1) di) an)))))),?_⟩
  refine⟨_,rfl,_,rfl,_,rfl,?_⟩
  refine bJ (fun h=>absurd h (by decide)) (fun _=>?_)
  refine⟨_,rfl,_,rfl,_,rfl,?_⟩
  refine bJ (fun _=>?_) (fun h=>absurd h (by decide))
  exact⟨_,rfl,a,_,rfl,ha,Y_ hf (by decide),_,rfl,_,rfl,_,rfl,_,rfl,R,Z,h,fun d S' r=>fo r,fun C S' z=>fo z⟩
 ·subst e
  refine⟨_,(sc (si (bX bw hr.u (ix hr.u (dv 1) di) ds) (s1 (sr (sT (dv 0) T.ai T.cP.e (jO.mono (by decide)) hr T.cP.b d0 (ac (ix hr.u (dv 1) di) (ac (ix hr.u (dv 1) di) an))))) s0) (sc (si (bX bw hr.u (ix hr.u (dv 1) di) ds) (s1 (sr (sT (dv 0) T.ai T.bt.e (fG.mono (by decide)) hr T.bt.b d0 (ac (ix hr.u (dv 1) di) (ac (ix hr.u (dv 1) di) an))))) s0) (s1 (sr (sT (dv 0) T.ai T.cy.e (iB.mono (by decide)) hr T.cy.b d0 (ac (ix hr.u (dv 1) di) an)))))),?_⟩
  refine⟨_,rfl,_,rfl,_,rfl,?_⟩
  refine bJ (fun h=>absurd h (by decide)) (fun _=>?_)
  refine⟨_,rfl,_,rfl,_,rfl,?_⟩
  refine bJ (fun h=>absurd h (by decide)) (fun _=>?_)
  exact⟨_,rfl,a,_,rfl,ha,Y_ hf (by decide),_,rfl,_,rfl,R,Z,h,fun d S' r=>fo r,fun C S' z=>fo z⟩
theorem g9{p:Bool}{A B:Prop}(h:p=false)(q:B):if p=true then A else B:=by rw[h];exact eO q
theorem yR{p:Bool}{A B:Prop}(h:p=true)(q:A):if p=true then A else B:=by rw[h];exact dh q
theorem kd_sub(h:Sub S S')(hk:Oh S d k):Oh S' d k:=by
 cases d with
 |ref a =>
  rcases hk with ⟨rfl,ds,e⟩|⟨rfl,ds,e⟩
  ·exact .inl ⟨rfl,ds,h _ _ e⟩
  ·exact .inr ⟨rfl,ds,h _ _ e⟩
 |_=>exact hk
theorem Gt.sub(h:Sub S S')(g:Gt S d):Gt S' d:=by
 obtain⟨k,hk⟩:=g.1
 exact⟨⟨k,kd_sub h hk⟩,g.2⟩
theorem HA(h:l.length=1):∃a,l=[a]:=by
 cases l with
 |nil=>cases h
 |cons a l=>exact⟨a,by rw[List.eq_nil_of_length_eq_zero (Nat.succ.inj h)]⟩
theorem Ph(h:l.length=2):∃a b,l=[a,b]:=by
 cases l with
 |nil=>cases h
 |cons a l =>
  obtain⟨b,rfl⟩:=HA (Nat.succ.inj h)
  exact⟨a,b,rfl⟩
theorem T4(h:l.length=3):∃a b c,l=[a,b,c]:=by
 cases l with
 |nil=>cases h
 |cons a l =>
  obtain⟨b,c,rfl⟩:=Ph (Nat.succ.inj h)
  exact⟨a,b,c,rfl⟩
def Qd(S:aG):Nat→D→Prop
 |0,d=>Gt S d
 |n+1,d=>Gt S d∧∀ws,d=.tup ws→ws.length≤1000∧∀v∈ws,Qd S n v
theorem Qd.gt(h:Qd S n d):Gt S d:=by cases n <;> first|exact h|exact h.1
theorem Qd.in(h:Qd S (n+1) (.tup ws)):ws.length≤1000∧∀v∈ws,Qd S n v:=h.2 ws rfl
theorem Qd.sub(b:Sub S S'):∀{n:Nat}{d:D},Qd S n d→Qd S' n d:=by
 intro n
 induction n with
 |zero=>exact fun h=>Gt.sub b h
 |succ n ih=>exact fun h=>⟨h.1.sub b,fun ws e=>⟨(h.2 ws e).1,fun v hv=>ih ((h.2 ws e).2 v hv)⟩⟩
def QA(S:aG)(d:D):Prop:=∀n,Qd S n d
theorem QA.sub(b:Sub S S')(h:QA S d):QA S' d:=fun n=>(h n).sub b
theorem QA.in(h:QA S (.tup ws))(hv:v∈ws):QA S v:=fun n=>(h (n+1)).in.2 v hv
theorem fH(hl:ws.length≤1000)(h:∀v∈ws,QA S v):QA S (.tup ws):=fun n=>by
 have g:Gt S (.tup ws):=⟨⟨.tup,rfl⟩,fun _=>nofun⟩
 cases n with
 |zero=>exact g
 |succ n=>exact⟨g,fun Pd e=>by cases e;exact⟨hl,fun v hv=>h v hv n⟩⟩
theorem uv(g:Gt S d)(n:∀ws,d≠.tup ws):QA S d:=fun k=>by
 cases k with
 |zero=>exact g
 |succ k=>exact⟨g,fun ws e=>absurd e (n ws)⟩
def p3(p:Str×Str×Str):D:=.tup [.str p.1,.str p.2.1,.str p.2.2]
def dI(z:Str):Bool:=decide (z = "up") || decide (z = "down")
def pB(z:Str):Bool:=decide (z = "first") || decide (z = "last")
theorem Mi(z a b:Str)(x y:V):(([(a,x),(b,y)]:List (Str×V)).lookup z).isSome=(decide (z=a) || decide (z=b)):=by
 rw[zJ,zJ]
 by_cases h:z=a
 ·rw[show (z == a)=true by simp [h],zD h];rfl
 ·rw[show (z == a)=false by simp [h],zw h]
  by_cases h2:z=b
  ·rw[show (z == b)=true by simp [h2],zD h2];rfl
  ·rw[show (z == b)=false by simp [h2],zw h2];rfl
def CQ(cs:List (Str×Str))(p:Str×Str×Str):Bool:=decide (p.1∈cs.map Prod.fst) && (dI p.2.1 && pB p.2.2)
def HB(cs:List (Str×Str))(ps:List (Str×Str×Str))(wy:Str):Bool:=decide (ps.length≤8) && (ps.all (CQ cs) && (decide ((ps.map Prod.fst).Nodup) && dI wy))
def qu(cs:List (Str×Str)):D→D
 |.str z=>match cs.find? (fun c=>decide (c.1=z)) with|some c=>.str c.2|none=>.aw
 |_=>.aw
theorem nZ(hg:Gd cs)(h:(z,k)∈cs):qu cs (.str z)=.str k:=by
 unfold qu
 cases e:cs.find? (fun c=>decide (c.1=z)) with
 |none=>exact absurd (zD rfl) (List.find?_eq_none.mp e _ h)
 |some c =>
  have h0:decide (c.1=z)=true:=List.find?_some (p:=fun c:Str×Str=>decide (c.1=z)) e
  have h1:c.1=z:=zu h0
  have:=j_ hg.2.1 (List.mem_of_find?_eq_some e) h h1
  subst this
  dsimp only
  rw[e]
theorem pR(h:z∉cs.map Prod.fst):qu cs (.str z)=.aw:=by
 unfold qu
 dsimp only
 rw[List.find?_eq_none.mpr fun c hc e=>h (zf.mpr ⟨c,hc,zu e⟩)]
theorem KU(hg:Gd cs)(z:Str):av (qu cs (.str z))=!decide (z∈cs.map Prod.fst):=by
 by_cases h:z∈cs.map Prod.fst
 ·obtain⟨c,hc,rfl⟩:=zf.mp h
  rw[nZ hg (k:=c.2) hc,zD h];rfl
 ·rw[pR h,zw h];rfl
def cq(cs:List (Str×Str)):D→Bool
 |.tup [n,w,e]=>(!av (qu cs n)) && (ofStr dI w && ofStr pB e)
 |_=>false
def Mj:D→Str
 |.tup (.str z::_)=>z
 |_ => ""
def fP(cs:List (Str×Str)):D→Bool
 |.tup [.tup ps,w]=>decide (ps.length≤8) && (ps.all (cq cs) && (decide ((ps.map Mj).Nodup) && ofStr dI w))
 |_=>false
theorem HC(hg:Gd cs)(p:Str×Str×Str):cq cs (p3 p)=CQ cs p:=by
 show ((!av (qu cs (.str p.1))) && (dI p.2.1 && pB p.2.2))=_
 rw[KU hg,Bool.not_not];rfl
theorem HD(h:cq cs d=true):∃p,d=p3 p:=by
 unfold cq at h
 split at h
 ·rename_i n w e
  simp only [zP] at h
  obtain⟨h1,h2,h3⟩:=h
  obtain⟨z1,rfl⟩:∃z,n=.str z:=by cases n <;> first|exact⟨_,rfl⟩|cases h1
  obtain⟨z2,rfl⟩:∃z,w=.str z:=by cases w <;> first|exact⟨_,rfl⟩|cases h2
  obtain⟨z3,rfl⟩:∃z,e=.str z:=by cases e <;> first|exact⟨_,rfl⟩|cases h3
  exact⟨(z1,z2,z3),rfl⟩
 ·cases h
theorem HE:∀{ps:List D},ps.all (cq cs)=true→∃qs:List (Str×Str×Str),ps=qs.map p3:=by
 intro ps
 induction ps with
 |nil=>exact fun _=>⟨[],rfl⟩
 |cons p ps ih =>
  intro h
  rw[List.all_cons,zP] at h
  obtain⟨q,rfl⟩:=HD h.1
  obtain⟨qs,rfl⟩:=ih h.2
  exact⟨q::qs,rfl⟩
theorem Ml(qs:List (Str×Str×Str)):(qs.map p3).map Mj=qs.map Prod.fst:=by rw[zF];rfl
theorem ER(hg:Gd cs)(ps:List (Str×Str×Str))(wy:Str):fP cs (.tup [.tup (ps.map p3),.str wy])=HB cs ps wy:=by
 show (decide ((ps.map p3).length≤8) && ((ps.map p3).all (cq cs) && (decide (((ps.map p3).map Mj).Nodup) && dI wy)))=_
 rw[zc,Ml,List.all_map,show (cq cs ∘ p3)=CQ cs from funext fun p=>HC hg p];rfl
theorem vW(l:List (Str×D))(z:Str)(h:cz (qM l) (.inr z)=some d):∃p∈l,p.1=z∧d=p.2:=by
 have all:∀(l:List (Str×D)) (c:List (Key×D)),cz (l.foldl (fun c p=>dput c (.inr p.1) p.2) c) (.inr z)=some d→(∃p∈l,p.1=z∧d=p.2)∨cz c (.inr z)=some d:=by
  intro l
  induction l with
  |nil=>intro c h;exact .inr h
  |cons p l ih =>
   intro c h
   rcases ih _ h with ⟨q,hq,e⟩|h
   ·exact .inl ⟨q,zp _ hq,e⟩
   ·rw[xj] at h
    by_cases e:(.inr z:Key)=.inr p.1
    ·rw[if_pos e] at h;exact .inl ⟨p,zx,(yz e).symm,(zS h).symm⟩
    ·rw[if_neg e] at h;exact .inr h
 rcases all l [] h with h|h
 ·exact h
 ·cases h
def Pok(p:Str×Str×Str):Prop:=p.1.cps.size≤1000∧p.2.1.cps.size≤1000∧p.2.2.cps.size≤1000
theorem uw(T:Txt w K mg t):Ok P w base T.vn 1 (x9 (ofStr dI)):=by
 refine T.vn.F.dM EG ?_
 rintro _ _ _ _ _ _ ds S R Z hr ⟨d,e,⟨⟨k,hk⟩,hz⟩,q⟩
 subst e
 refine⟨_,(s1 (sr (uT (cb dQ T.aq ak (ac (dv 0) (ac (uS T.rA kP) an))) (JR (cmk T.xS (dv 0) (dg (v:=.ref t.jj) T.vw rfl fun _=>bL _)))))),?_⟩
 refine⟨_,rfl,_,_,_,_,rfl,hX,hk,_,rfl,?_⟩
 rcases nT hk with ⟨z,rfl,h0⟩|⟨h0,h1⟩
 ·rw[h0]
  refine dh ⟨_,rfl,z,rfl,rfl,?_⟩
  rw[Mi]
  exact fo q
 ·rw[h1] at q
  rw[h0]
  exact eO (fo q)
theorem ES(T:Txt w K mg t):Ok P w base T.Bn 1 (x9 (ofStr pB)):=by
 refine T.Bn.F.dM EH ?_
 rintro _ _ _ _ _ _ ds S R Z hr ⟨d,e,⟨⟨k,hk⟩,hz⟩,q⟩
 subst e
 refine⟨_,(s1 (sr (uT (cb dQ T.aq ak (ac (dv 0) (ac (uS T.rA kP) an))) (JR (cmk T.xT (dv 0) (dg (v:=.ref t.jk) T.vz rfl fun _=>bL _)))))),?_⟩
 refine⟨_,rfl,_,_,_,_,rfl,hX,hk,_,rfl,?_⟩
 rcases nT hk with ⟨z,rfl,h0⟩|⟨h0,h1⟩
 ·rw[h0]
  refine dh ⟨_,rfl,z,rfl,rfl,?_⟩
  rw[Mi]
  exact fo q
 ·rw[h1] at q
  rw[h0]
  exact eO (fo q)
def Pj:eF:=fun ds S R _=>∃cs d,ds=[.tup (cs.map aC),d]∧Gd cs∧Gt S d∧R (qu cs d) S
theorem kM(T:Txt w K mg t):Ok P w base T.iq 3 Pj:=by
 refine T.iq.F.dM tE ?_
 rintro _ _ _ _ _ _ ds S R Z hr ⟨cs,d,e,hg,hz,q⟩
 subst e
 refine⟨_,(sc (si (dN (tv (aZ T.pN (rG T) hr (ac (dv 1) an)))) (s1 (sr dn)) s0) (s1 (sr (mg1 hr.u (ct OB T.OU Jv (ac (dv 0) an)) (dv 1))))),?_⟩
 refine⟨_,rfl,d,rfl,hz,_,rfl,?_⟩
 refine bJ (fun h=>?_) (fun h=>?_)
 ·have h:ofStr jJ d=false:=nt h
  have e:qu cs d=.aw:=by
   cases d with
   |str z =>
    refine pR fun m=>?_
    obtain⟨c,hc,rfl⟩:=zf.mp m
    have h:jJ c.1=false:=h
    rw[(hg.2.2 c hc).1] at h;cases h
   |_=>rfl
  rw[e] at q
  exact fo q
 ·have h:ofStr jJ d=true:=nf h
  cases d with
  |str z =>
   have ek:cs.map aC=(cs.map fun c=>(c.1,D.str c.2)).map Gz:=by rw[zF];rfl
   refine⟨_,rfl,(cs.map fun c=>(c.1,D.str c.2)),by rw[ek],fun p hp=>⟨p,_,rfl,aa,_,rfl,_,.inr z,aa,rfl,S,.new hp,?_⟩⟩
   have h1:=Eb (cs.map fun c=>(c.1,D.str c.2)) z
   cases q3:cz (qM (cs.map fun c=>(c.1,D.str c.2))) (.inr z) with
   |none =>
    rw[q3] at h1
    rw[pR fun m=>?_] at q
    ·exact q
    obtain⟨c,hc,e⟩:=zf.mp m
    have:(cs.map fun c=>(c.1,D.str c.2)).any (fun p=>decide (p.1=z))=true:=List.any_eq_true.mpr ⟨_,zf.mpr ⟨c,hc,rfl⟩,zD e⟩
    rw[this] at h1;cases h1
   |some d =>
    obtain⟨p,hp,e1,rfl⟩:=vW _ _ q3
    obtain⟨c,hc,rfl⟩:=zf.mp hp
    have e1:c.1=z:=e1
    rw[nZ hg (k:=c.2) (by rw[← e1];exact hc)] at q
    exact q
  |_=>cases h
theorem BH(T:Txt w K mg t):Ok P w base T.vo 4 (fun ds S R _=>∃cs d,ds=[.tup (cs.map aC),d]∧Gd cs∧Qd S 1 d∧R (.bl (cq cs d)) S):=by
 refine T.vo.F.dM By ?_
 rintro _ _ _ _ _ _ ds S R Z hr ⟨cs,d,e,hg,hp,q⟩
 subst e
 obtain⟨k,hk⟩:=hp.1.1
 refine⟨_,(sc (si (twd (twor (dN (tv (cb dQ T.aq ak (ac (dv 1) (ac (uS T.cE bN) an))))) (tw1 (bX l4 hr.u (cb bU T.bK aX (ac (dv 1) an)) di)))) (s1 (sr db)) s0) (s1 (sr (uT (cm qG hr.u (aZ T.iq (kM T) hr (ac (dv 0) (ac (ix hr.u (dv 1) di) an))) dn) (uT (aZ T.vn (uw T) hr (ac (ix hr.u (dv 1) di) an)) (JR (aZ T.Bn (ES T) hr (ac (ix hr.u (dv 1) di) an)))))))),?_⟩
 refine⟨_,rfl,_,_,_,_,rfl,cO,hk,_,rfl,?_⟩
 rcases nU hk with ⟨ws,rfl,h0⟩|⟨h0,h1⟩
 ·rw[h0]
  refine eO ⟨_,rfl,_,rfl,_,rfl,?_⟩
  refine bJ (fun h=>?_) (fun h=>?_)
  ·have h:¬ ((ws.length:Nat):Int)=3:=zI (nt h)
   have e:cq cs (.tup ws)=false:=by
    unfold cq
    split
    ·rename_i e;cases e;exact absurd rfl h
    ·rfl
   rw[e] at q
   exact fo q
  ·have h:((ws.length:Nat):Int)=3:=zu (nf h)
   obtain⟨a,b,c,rfl⟩:∃a b c,ws=[a,b,c]:=by
    exact T4 (by omega)
   have gi:=hp.in.2
   have q:R (.bl ((!av (qu cs a)) && (ofStr dI b && ofStr pB c))) S:=q
   refine⟨_,rfl,_,rfl,_,rfl,cs,a,rfl,hg,gi a (by simp),_,rfl,?_⟩
   refine bJ (fun h=>?_) (fun h=>?_)
   ·have h:(!av (qu cs a))=true:=h
    rw[h,zO] at q
    refine⟨_,rfl,_,rfl,b,rfl,gi b (by simp),_,rfl,?_⟩
    refine bJ (fun h2=>?_) (fun h2=>?_)
    ·rw[h2,zO] at q
     exact⟨_,rfl,_,rfl,c,rfl,gi c (by simp),fo q⟩
    ·rw[h2,zR] at q
     exact fo q
   ·have h:(!av (qu cs a))=false:=h
    rw[h,zR] at q
    exact fo q
 ·rw[h0]
  have e:cq cs d=false:=by
   unfold cq
   split
   ·exact absurd rfl (h1 _)
   ·rfl
  rw[e] at q
  exact dh (fo q)
def Za(t:jf):eF:=fun ds S R Z=>∃cs d,ds=[.tup (cs.map aC),d]∧Gd cs∧Qd S 3 d∧(fP cs d=true→R .aw S)∧(fP cs d=false→Z t.aJ S)
theorem rM(T:Txt w K mg t):Ok P w base T.jr 5 (Za t):=by
 refine T.jr.F.dM fz ?_
 rintro _ _ _ _ _ _ ds S R Z hr ⟨cs,d,e,hg,hq,q1,q2⟩
 subst e
 obtain⟨k,hk⟩:=hq.1.1
 refine⟨_,(sc (si (twd (twor (dN (tv (cb dQ T.aq ak (ac (dv 1) (ac (uS T.cE bN) an))))) (tw1 (bX l4 hr.u (cb bU T.bK aX (ac (dv 1) an)) di)))) (s1 (w_ ⟨T.cI⟩ T.dw (ac ds an))) s0) (sc (cR (i:=2) fz.nd (ix hr.u (dv 1) di)) (sc (si (twd (twor (dN (tv (cb dQ T.aq ak (ac (dv 2) (ac (uS T.cE bN) an))))) (tw1 (bX qF hr.u (cb bU T.bK aX (ac (dv 2) an)) (dg (v:=.int 8) T.jw ⟨_,rfl⟩ fun _=>aO _))))) (s1 (w_ ⟨T.cI⟩ T.dw (ac ds an))) s0) (sc (si (dN (tv (cb l6 T.mw hW (ac (Ac (N:=["part","columns"]) (src:=[none,some 0]) (m_ (ae cV) ["columns","order","parts","names"] rfl rfl (by trivial)) (LS (dv 2)) (sU (show (["part","columns"]:List Str).Nodup by trivial)) (bf rfl) bh (fun _ _ _ _ _=>xf) (fun _ _ _ _ _=>(aZ T.vo (BH T) hr (ac (dv 1) (ac (dv 0) an))))) an)))) (s1 (w_ ⟨T.cI⟩ T.dw (ac ds an))) s0) (sc (Ow (i:=3) (N:=["part"]) (src:=[none]) fz.nd (m_ (ae cV) ["columns","order","parts","names"] rfl rfl (by trivial)) (LS (dv 2)) (sU (show (["part"]:List Str).Nodup by trivial)) (bf rfl) bh (fun _ _ _ _ _=>xf) (fun _ _ _ _ _=>(ix hr.u (dv 0) di))) (sc (si (bX l4 hr.u (lse (dv 3) T.bK T.Mb) (cb bU T.bK aX (ac (dv 3) an))) (s1 (w_ ⟨T.cI⟩ T.dw (ac ds an))) s0) (s1 (si (dN (tv (aZ T.vn (uw T) hr (ac (ix hr.u (dv 1) di) an)))) (s1 (w_ ⟨T.cI⟩ T.dw (ac ds an))) s0)))))))),?_⟩
 refine⟨_,rfl,_,_,_,_,rfl,cO,hk,_,rfl,?_⟩
 rcases nU hk with ⟨ws,rfl,h0⟩|⟨h0,h1⟩
 rotate_left
 ·rw[h0]
  refine dh ⟨iV,fo (q2 ?_)⟩
  unfold fP
  split
  ·exact absurd rfl (h1 _)
  ·rfl
 rw[h0]
 refine eO ⟨_,rfl,_,rfl,_,rfl,?_⟩
 refine bJ (fun h=>?_) (fun h=>?_)
 ·have h:¬ ((ws.length:Nat):Int)=2:=zI (nt h)
  refine⟨iV,fo (q2 ?_)⟩
  unfold fP
  split
  ·rename_i e;cases e;exact absurd rfl h
  ·rfl
 have h:((ws.length:Nat):Int)=2:=zu (nf h)
 obtain⟨x,y,rfl⟩:∃a b,ws=[a,b]:=by
  exact Ph (by omega)
 have gx:=hq.in.2 x (by simp)
 have gy:=(hq.in.2 y (by simp)).gt
 obtain⟨k2,dU⟩:=gx.gt.1
 refine⟨_,rfl,_,rfl,_,rfl,_,_,_,_,rfl,cO,dU,_,rfl,?_⟩
 rcases nU dU with ⟨ps,rfl,h2⟩|⟨h2,h3⟩
 rotate_left
 ·rw[h2]
  refine dh ⟨iV,fo (q2 ?_)⟩
  unfold fP
  split
  ·rename_i e;cases e;exact absurd rfl (h3 _)
  ·rfl
 rw[h2]
 refine eO ⟨_,rfl,_,rfl,_,rfl,?_⟩
 have q1:(decide (ps.length≤8) && (ps.all (cq cs) && (decide ((ps.map Mj).Nodup) && ofStr dI y)))=true→R .aw S:=q1
 have q2:(decide (ps.length≤8) && (ps.all (cq cs) && (decide ((ps.map Mj).Nodup) && ofStr dI y)))=false→Z t.aJ S:=q2
 refine bJ (fun h=>?_) (fun h=>?_)
 ·have h:(8:Int)<((ps.length:Nat):Int):=zu h
  exact⟨iV,fo (q2 (by rw[zw (by omega)];rfl))⟩
 have h:¬ (8:Int)<((ps.length:Nat):Int):=zI h
 have h8:ps.length≤8:=by omega
 rw[zD h8,zO] at q1 q2
 refine⟨_,rfl,_,.inl rfl,?_⟩
 refine comp_map (fun d=>.bl (cq cs d)) trivial (by show ps.length≤_;omega) (fun d hd Q hQ=>?_) fun p rJ=>?_
 ·exact⟨_,rfl,_,rfl,cs,d,rfl,hg,gx.in.2 d hd,hQ⟩
 have eo:ps.map (fun d=>D.bl (cq cs d))=(ps.map (cq cs)).map D.bl:=by rw[zF];rfl
 rw[show (⟨ps,fun _=>True⟩:Gu).xs=ps from rfl,eo]
 refine⟨.ref p,ps.map (cq cs),rfl,aa,_,rfl,?_⟩
 rw[show (ps.map (cq cs)).all id=ps.all (cq cs) from all_map]
 refine bJ (fun ha=>?_) (fun ha=>?_)
 ·have ha:=nt ha
  exact⟨iV,S,.new rJ,q2 (by rw[ha];rfl)⟩
 have ha:=nf ha
 rw[ha,zO] at q1 q2
 obtain⟨qs,rfl⟩:=HE ha
 rw[Ml] at q1 q2
 rw[zc] at h8
 refine⟨_,rfl,_,.inl rfl,?_⟩
 refine comp_map (fun d=>match d with|.tup (x::_)=>x|_=>.aw) trivial (by show (qs.map p3).length≤_;rw[zc];omega) (fun d hd Q hQ=>?_) fun p2 fT=>?_
 ·obtain⟨p,Zb,rfl⟩:=zf.mp hd
  exact⟨_,rfl,_,rfl,hQ⟩
 have e3:(qs.map p3).map (fun d=>match d with|.tup (x::_)=>x|_=>.aw)=(qs.map Prod.fst).map D.str:=by rw[zF,zF];rfl
 rw[show (⟨qs.map p3,fun _=>True⟩:Gu).xs=qs.map p3 from rfl,e3]
 have sb:=(Sub.new (c:=.lst (((qs.map p3).map (cq cs)).map D.bl)) rJ).trans (.new (c:=.lst ((qs.map Prod.fst).map D.str)) fT)
 have CN:((S.set p (.lst (((qs.map p3).map (cq cs)).map D.bl))).set p2 (.lst ((qs.map Prod.fst).map D.str))) p2=some (.lst ((qs.map Prod.fst).map D.str)):=aa
 generalize (S.set p (.lst (((qs.map p3).map (cq cs)).map D.bl))).set p2 (.lst ((qs.map Prod.fst).map D.str))=S2 at sb CN ⊢
 refine⟨_,rfl,qs.map Prod.fst,CN,by rw[zc];omega,_,rfl,_,rfl,.inl ⟨_,CN,_,rfl,?_⟩⟩
 have e4:decide ((((iI (qs.map Prod.fst)).length:Nat):Int)=((((qs.map Prod.fst).map D.str).length:Nat):Int))=decide ((qs.map Prod.fst).Nodup):=by
  rw[yy,← t6,zc];omega
 refine bJ (fun hn=>?_) (fun hn=>?_)
 ·have hn:(!decide ((((iI (qs.map Prod.fst)).length:Nat):Int)=((((qs.map Prod.fst).map D.str).length:Nat):Int)))=true:=hn
  rw[e4] at hn
  exact⟨iV,S,sb,q2 (by rw[nt hn];rfl)⟩
 have hn:(!decide ((((iI (qs.map Prod.fst)).length:Nat):Int)=((((qs.map Prod.fst).map D.str).length:Nat):Int)))=false:=hn
 rw[e4] at hn
 rw[nf hn,zO] at q1 q2
 refine⟨_,rfl,_,rfl,y,rfl,gy.sub sb,_,rfl,?_⟩
 refine bJ (fun hw=>?_) (fun hw=>?_)
 ·exact⟨iV,S,sb,q2 (nt hw)⟩
 ·exact⟨S,sb,q1 (nf hw)⟩
def BI(o:Str)(c:Str×Str)(v:D):Prop:=o = "is" ∨ (v≠.aw∧(o = "below" ∨ o = "above" ∨ (o = "begins" ∧ c.2 = "word")))
def Lf(cs:List (Str×Str))(d:D):Prop :=
 d=.tup [.str "every"]∨(∃ks:List Str,d=.tup [.str "key",.tup (ks.map .str)]∧ks.length≤8∧∀k∈ks,k∈KS) ∨
 ∃(o:Str) (c:Str×Str) (v:D),c∈cs∧Vg c.2 v∧BI o c v∧d=.tup [.str o,.str c.1,v]
def Sg(cs:List (Str×Str)):Nat→D→Prop
 |0,_=>False
 |n+1,d=>Lf cs d∨(∃e,d=.tup [.str "not",e]∧Sg cs n e)∨∃(o:Str) (ds:List D),(o = "and" ∨ o = "or")∧d=.tup [.str o,.tup ds]∧ds.length≤2∧∀e∈ds,Sg cs n e
theorem T5(h:Vg k v):Gt S v:=by
 have h:=h.2
 cases v with
 |aw=>exact⟨⟨_,rfl⟩,fun z e=>by cases e⟩
 |int i=>exact⟨⟨_,rfl⟩,fun z e=>by cases e⟩
 |str z =>
  unfold lE at h
  simp only [zP,z0] at h
  exact gt_str (by omega)
 |_=>cases h
theorem T6(h:Vg k v):∀ws,v≠.tup ws:=by
 have h:=h.2
 rintro ws rfl
 cases h
def Pk:D→Bool
 |.tup es=>decide (es.length≤8)
 |_=>false
def mH(cs:List (Str×Str))(o:Str)(x v:D):Bool:=match qu cs x with
 |.str k=>fE k v && (decide (o = "is") || ((!(decide (o = "begins") && !decide (k = "word"))) && !av v))
 |_=>false
theorem oN(T:Txt w K mg t):Ok P w base T.dD 1 (x9 Pk):=by
 refine T.dD.F.dM my ?_
 rintro _ _ _ _ _ _ ds S R Z hr ⟨d,e,⟨⟨k,hk⟩,hz⟩,q⟩
 subst e
 refine⟨_,(s1 (sr (uT (cb dQ T.aq ak (ac (dv 0) (ac (uS T.cE bN) an))) (JR (cm kT hr.u (cb bU T.bK aX (ac (dv 0) an)) (dg (v:=.int 8) T.lq ⟨_,rfl⟩ fun _=>aO _)))))),?_⟩
 refine⟨_,rfl,_,_,_,_,rfl,cO,hk,_,rfl,?_⟩
 rcases nU hk with ⟨es,rfl,h0⟩|⟨h0,h1⟩
 ·rw[h0]
  refine dh ⟨_,rfl,_,rfl,?_⟩
  have e1:decide (((es.length:Nat):Int)≤8)=decide (es.length≤8):=by rw[yy];omega
  show Fo S (R (.bl (decide (((es.length:Nat):Int)≤8))))
  rw[e1]
  exact fo q
 ·have e:Pk d=false:=by
   cases d with
   |tup es=>exact absurd rfl (h1 _)
   |_=>rfl
  rw[e] at q
  rw[h0]
  exact eO (fo q)
theorem KW(cs:List (Str×Str))(x:D):(∃k,qu cs x=.str k)∨qu cs x=.aw:=by
 cases x with
 |str z =>
  unfold qu
  dsimp only
  cases cs.find? (fun c=>decide (c.1=z)) with
  |some c=>exact .inl ⟨_,rfl⟩
  |none=>exact .inr rfl
 |_=>exact .inr rfl
def Mm:eF:=fun ds S R _=>∃cs o x v,ds=[.tup (cs.map aC),.tup [.str o,x,v]]∧Gd cs∧Gt S x∧Gt S v∧R (.bl (mH cs o x v)) S
theorem rN(T:Txt w K mg t):Ok P w base T.js 4 Mm:=by
 refine T.js.F.dM jG ?_
 rintro _ _ _ _ _ _ ds S R Z hr ⟨cs,o,x,v,e,hg,hx,hv,q⟩
 subst e
 refine⟨_,(sc (cR (i:=2) jG.nd (aZ T.iq (kM T) hr (ac (dv 0) (ac (ix hr.u (dv 1) di) an)))) (sc (si (twd (twor (bX wY hr.u (dv 2) dn) (tw1 (dN (tv (aZ T.ml (oK T) hr (ac (dv 2) (ac (ix hr.u (dv 1) di) an)))))))) (s1 (sr db)) s0) (sc (si (bX bw hr.u (ix hr.u (dv 1) di) ds) (s1 (sr db)) s0) (sc (si (twd (twand (bX bw hr.u (ix hr.u (dv 1) di) ds) (tw1 (bX l4 hr.u (dv 2) ds)))) (s1 (sr db)) s0) (s1 (sr (cm qG hr.u (ix hr.u (dv 1) di) dn))))))),?_⟩
 refine⟨_,rfl,_,rfl,_,rfl,cs,x,rfl,hg,hx,?_⟩
 unfold mH at q
 rcases KW cs x with ⟨k,e⟩|e
 ·rw[e] at q ⊢
  have q:R (.bl (fE k v && (decide (o = "is") || ((!(decide (o = "begins") && !decide (k = "word"))) && !av v)))) S:=q
  refine⟨_,rfl,_,rfl,eO ⟨_,rfl,_,rfl,_,rfl,k,v,rfl,hv,_,rfl,?_⟩⟩
  refine bJ (fun h=>?_) (fun h=>?_)
  ·rw[nt h,zR] at q
   exact fo q
  rw[nf h,zO] at q
  refine⟨_,rfl,_,rfl,_,rfl,?_⟩
  refine bJ (fun h1=>?_) (fun h1=>?_)
  ·have h1:decide (o = "is")=true:=h1
   rw[h1,Bool.true_or] at q
   exact fo q
  have h1:decide (o = "is")=false:=h1
  rw[h1,yE] at q
  refine⟨_,rfl,_,rfl,_,rfl,?_⟩
  refine bJ (fun h2=>?_) (fun h2=>?_)
  ·have h2:decide (o = "begins")=true:=h2
   rw[h2,zO] at q
   refine⟨_,rfl,_,rfl,?_⟩
   refine bJ (fun h3=>?_) (fun h3=>?_)
   ·have h3:(!decide (k = "word"))=true:=h3
    rw[h3] at q
    exact fo q
   ·have h3:(!decide (k = "word"))=false:=h3
    rw[h3] at q
    exact⟨_,rfl,_,rfl,fo q⟩
  ·have h2:decide (o = "begins")=false:=h2
   rw[h2] at q
   exact⟨_,rfl,_,rfl,fo q⟩
 ·rw[e] at q ⊢
  exact⟨_,rfl,_,rfl,dh (fo q)⟩
def Mn:D→Bool
 |.tup ks=>ks.all (ofStr fC)
 |_=>false
def KY(cs:List (Str×Str))(o:Str):List D→Bool
 |[x,v]=>mH cs o x v
 |_=>false
def KZ:List D→Bool
 |[k]=>Pk k && Mn k
 |_=>false
def T7:List D→Bool
 |[x]=>Pk x
 |_=>false
theorem HF{cs:List (Str×Str)}{o:Str}{ws:List D}(n:ws.length≠2):KY cs o ws=false:=by
 unfold KY
 split
 ·exact absurd rfl n
 ·rfl
theorem HG{ws:List D}(n:ws.length≠1):KZ ws=false:=by
 unfold KZ
 split
 ·exact absurd rfl n
 ·rfl
theorem CT{ws:List D}(n:ws.length≠1):T7 ws=false:=by
 unfold T7
 split
 ·exact absurd rfl n
 ·rfl
def gG(cs:List (Str×Str)):D→Bool
 |.tup (.str o::ws) =>
  if o = "every" then decide (ws.length=0)
  else if o = "is" ∨ o = "below" ∨ o = "above" ∨ o = "begins" then KY cs o ws
  else if o = "key" then KZ ws
  else if o = "not" then decide (ws.length=1)
  else if o = "and" ∨ o = "or" then T7 ws
  else false
 |_=>false
def subs:D→List D
 |.tup [.str o,x]=>if o = "not" then [x] else if o = "and" ∨ o = "or" then (match x with|.tup es=>es|_=>[]) else []
 |_=>[]
theorem rO(o:Str):o = "every" ∨ (o = "is" ∨ o = "below" ∨ o = "above" ∨ o = "begins")∨o = "key" ∨ o = "not" ∨ (o = "and" ∨ o = "or")∨(o ≠ "every" ∧ ¬(o = "is" ∨ o = "below" ∨ o = "above" ∨ o = "begins")∧o ≠ "key" ∧ o ≠ "not" ∧ ¬(o = "and" ∨ o = "or")):=by
 by_cases h1:o = "every"
 ·exact .inl h1
 by_cases h2:o = "is" ∨ o = "below" ∨ o = "above" ∨ o = "begins"
 ·exact .inr (.inl h2)
 by_cases h3:o = "key"
 ·exact .inr (.inr (.inl h3))
 by_cases h4:o = "not"
 ·exact .inr (.inr (.inr (.inl h4)))
 by_cases h5:o = "and" ∨ o = "or"
 ·exact .inr (.inr (.inr (.inr (.inl h5))))
 exact .inr (.inr (.inr (.inr (.inr ⟨h1,h2,h3,h4,h5⟩))))
theorem rP(cs:List (Str×Str))(ws:List D):gG cs (.tup (.str "every" :: ws))=decide (ws.length=0):=by
 unfold gG
 dsimp only
 rw[if_pos rfl]
theorem fI{cs:List (Str×Str)}{o:Str}(h:o = "is" ∨ o = "below" ∨ o = "above" ∨ o = "begins")(ws:List D):gG cs (.tup (.str o::ws))=KY cs o ws:=by
 unfold gG
 dsimp only
 rw[if_neg (by rcases h with rfl|rfl|rfl|rfl <;> decide),if_pos h]
theorem n6(cs:List (Str×Str))(ws:List D):gG cs (.tup (.str "key" :: ws))=KZ ws:=by
 unfold gG
 dsimp only
 rw[if_neg (by decide),if_neg (by decide),if_pos rfl]
theorem vX(cs:List (Str×Str))(ws:List D):gG cs (.tup (.str "not" :: ws))=decide (ws.length=1):=by
 unfold gG
 dsimp only
 rw[if_neg (by decide),if_neg (by decide),if_neg (by decide),if_pos rfl]
theorem n8{cs:List (Str×Str)}{o:Str}(h:o = "and" ∨ o = "or")(ws:List D):gG cs (.tup (.str o::ws))=T7 ws:=by
 unfold gG
 dsimp only
 rw[if_neg (by rcases h with rfl|rfl <;> decide),if_neg (by rcases h with rfl|rfl <;> decide),if_neg (by rcases h with rfl|rfl <;> decide),if_neg (by rcases h with rfl|rfl <;> decide),if_pos h]
theorem n_{cs:List (Str×Str)}{o:Str}(h:o ≠ "every" ∧ ¬(o = "is" ∨ o = "below" ∨ o = "above" ∨ o = "begins")∧o ≠ "key" ∧ o ≠ "not" ∧ ¬(o = "and" ∨ o = "or"))(ws:List D):gG cs (.tup (.str o::ws))=false:=by
 unfold gG
 dsimp only
 rw[if_neg h.1,if_neg h.2.1,if_neg h.2.2.1,if_neg h.2.2.2.1,if_neg h.2.2.2.2]
theorem HH{o:Str}(h:o ≠ "every" ∧ ¬(o = "is" ∨ o = "below" ∨ o = "above" ∨ o = "begins")∧o ≠ "key" ∧ o ≠ "not" ∧ ¬(o = "and" ∨ o = "or")) :
  ([("every",.int 1),("is",.int 3),("below",.int 3),("above",.int 3),("begins",.int 3),("key",.int 2),("not",.int 2),("and",.int 2),("or",.int 2)]:List (Str×V)).lookup o=none:=by
 obtain⟨h1,h2,h3,h4,h5⟩:=h
 simp only [not_or] at h2 h5
 have f:∀{a:Str},o≠a→(o == a)=false:=fun h=>beq_false_of_ne h
 rw[zJ,f h1,zJ,f h2.1,zJ,f h2.2.1,zJ,f h2.2.2.1,zJ,f h2.2.2.2,zJ,f h3,zJ,f h4,zJ,f h5.1,zJ,f h5.2]
 rfl
theorem Pl{S:aG}{i:Int}{R:KD}(q:R (.bl true) S):JU true .aw (.int i) S R :=
 ⟨.none,.int i,by simp only [Dl,Dp],by simp only [Dl,Dp],by simp only [PyData.canLay0],by simp only [PyData.canLay0],.inl (by simp only [PyData.depth];lia),q⟩
theorem Mp{S:aG}{R:KD}{es:List D}(h:R (.int es.length) S):LM S R (.tup es):=h
theorem wk(x:D)(ws:List D):m6 (x::ws) 0=some x:=by
 unfold m6 Io
 rw[if_pos (Int.le_refl 0)]
 show (if (0:Int)<(((x::ws).length:Nat):Int) then some (0:Int).toNat else none).bind _=_
 rw[if_pos (by rw[zE];lia)]
 rfl
theorem vY(T:Txt w K mg t):Ok P w base T.nO 5 (fun ds S R _=>∃cs d,ds=[.tup (cs.map aC),d]∧Gd cs∧Qd S 2 d∧R (.bl (gG cs d)) S):=by
 refine T.nO.F.dM vJ ?_
 rintro _ _ _ _ _ _ ds S R Z hr ⟨cs,d,e,hg,hq,q⟩
 subst e
 obtain⟨k,hk⟩:=hq.gt.1
 refine⟨_,(sc (si (twd (twor (dN (tv (cb dQ T.aq ak (ac (dv 1) (ac (uS T.cE bN) an))))) (twor (bX bw hr.u (cb bU T.bK aX (ac (dv 1) an)) di) (tw1 (dN (tv (cb dQ T.aq ak (ac (ix hr.u (dv 1) di) (ac (uS T.rA kP) an))))))))) (s1 (sr db)) s0) (sc (si (bX l4 hr.u (mgk T.EA (by decide) (gK T.Bq) (ix hr.u (dv 1) di)) (cb bU T.bK aX (ac (dv 1) an))) (s1 (sr db)) s0) (sc (si (bX D3 hr.u (ix hr.u (dv 1) di) (ay (ac ds (ac ds (ac ds (ac ds an)))))) (s1 (sr (aZ T.js (rN T) hr (ac (dv 0) (ac (dv 1) an))))) s0) (sc (si (bX bw hr.u (ix hr.u (dv 1) di) ds) (s1 (sr (uT (aZ T.dD (oN T) hr (ac (ix hr.u (dv 1) di) an)) (JR (cb l6 T.mw hW (ac (Ac (N:=["key"]) (src:=[none]) (m_ (ae fW) ["columns","thing"] rfl rfl (by trivial)) (LS (ix hr.u (dv 1) di)) (sU (show (["key"]:List Str).Nodup by trivial)) (bf rfl) bh (fun _ _ _ _ _=>xf) (fun _ _ _ _ _=>(aZ T.nM (j9 T) hr (ac (dv 0) an)))) an)))))) s0) (sc (si (bX D3 hr.u (ix hr.u (dv 1) di) (ay (ac ds (ac ds an)))) (s1 (sr (aZ T.dD (oN T) hr (ac (ix hr.u (dv 1) di) an)))) s0) (s1 (sr db))))))),?_⟩
 refine⟨_,rfl,_,_,_,_,rfl,cO,hk,_,rfl,?_⟩
 rcases nU hk with ⟨ws,rfl,h0⟩|⟨h0,h1⟩
 rotate_left
 ·rw[h0]
  have e:gG cs d=false:=by
   unfold gG
   split
   ·exact absurd rfl (h1 _)
   ·rfl
  rw[e] at q
  exact dh (fo q)
 rw[h0]
 refine eO ⟨_,rfl,_,rfl,_,rfl,?_⟩
 cases ws with
 |nil=>exact yR rfl (fo q)
 |cons x ws =>
 have e0:decide ((((x::ws).length:Nat):Int)=0)=false:=zw (by rw[zE];lia)
 refine g9 e0 ?_
 have gi:=hq.in.2
 obtain⟨k2,dU⟩:=(gi x (by simp)).gt.1
 refine⟨_,rfl,_,wk x ws,_,_,_,_,rfl,hX,dU,_,rfl,?_⟩
 rcases nT dU with ⟨o,rfl,h2⟩|⟨h2,h3⟩
 rotate_left
 ·rw[h2]
  have e:gG cs (.tup (x::ws))=false:=by
   unfold gG
   split
   ·rename_i e;cases e;have:=h3 (fun _=>true);cases this
   ·rfl
  rw[e] at q
  exact dh (fo q)
 rw[h2]
 refine eO ?_
 have n4:=EK
 have n2:=fQ
 rcases rO o with rfl|h|rfl|rfl|h|h
 ·rw[rP] at q
  refine⟨_,rfl,_,wk _ ws,_,rfl,_,rfl,_,rfl,_,rfl,?_⟩
  refine bJ (fun h=>?_) (fun h=>?_)
  ·have h:¬ (1:Int)=(((D.str "every" :: ws).length:Nat):Int):=zI (nt h)
   rw[zE] at h
   rw[zw (by lia)] at q
   exact fo q
  ·have h:(1:Int)=(((D.str "every" :: ws).length:Nat):Int):=zu (nf h)
   rw[zE] at h
   rw[zD (by lia)] at q
   exact⟨_,rfl,_,wk _ ws,n4,rfl,rfl,_,rfl,g9 (by trivial) ⟨_,rfl,_,wk _ ws,_,rfl,g9 (by trivial) ⟨_,rfl,_,wk _ ws,n2,rfl,rfl,_,rfl,g9 (by trivial) (fo q)⟩⟩⟩
 ·rw[fI h] at q
  have fin:∀{x v:D},ws=[x,v]→Mm [.tup (cs.map aC),.tup [.str o,x,v]] S (fun d S'=>Fo S' (R d)) (fun C S'=>Fo S' (Z C)):=by
   rintro x v rfl
   exact⟨cs,o,x,v,rfl,hg,(gi x (by simp)).gt,(gi v (by simp)).gt,fo q⟩
  have bad:ws.length≠2→R (.bl false) S:=fun n=>by
   rw[HF n] at q;exact q
  rcases h with rfl|rfl|rfl|rfl
  all_goals
   refine⟨_,rfl,_,wk _ ws,_,rfl,_,rfl,_,rfl,_,rfl,bJ (fun h=>?_) (fun h=>?_)⟩
   ·have h:¬ (3:Int)=(((D.str _::ws).length:Nat):Int):=zI (nt h)
    rw[zE] at h
    exact fo (bad (by lia))
   ·have h:(3:Int)=(((D.str _::ws).length:Nat):Int):=zu (nf h)
    rw[zE] at h
    obtain⟨x,v,rfl⟩:=Ph (l:=ws) (by lia)
    exact⟨_,rfl,_,rfl,n4,rfl,rfl,_,rfl,yR (by trivial) ⟨_,rfl,_,rfl,fin rfl⟩⟩
 ·rw[n6] at q
  refine⟨_,rfl,_,wk _ ws,_,rfl,_,rfl,_,rfl,_,rfl,bJ (fun h=>?_) (fun h=>?_)⟩
  ·have h:¬ (2:Int)=(((D.str "key" :: ws).length:Nat):Int):=zI (nt h)
   rw[zE] at h
   rw[HG (by lia)] at q
   exact fo q
  ·have h:(2:Int)=(((D.str "key" :: ws).length:Nat):Int):=zu (nf h)
   rw[zE] at h
   obtain⟨x,rfl⟩:=HA (l:=ws) (by lia)
   have q:R (.bl (Pk x && Mn x)) S:=q
   have gx:=gi x (by simp)
   refine⟨_,rfl,_,rfl,n4,rfl,rfl,_,rfl,g9 (by trivial) ⟨_,rfl,_,rfl,_,rfl,yR (by trivial) ?_⟩⟩
   refine⟨_,rfl,_,rfl,x,rfl,gx.gt,_,rfl,bJ (fun h=>?_) (fun h=>?_)⟩
   ·rw[h,zO] at q
    obtain⟨ks,rfl⟩:∃ks,x=.tup ks:=by cases x <;> first|exact⟨_,rfl⟩|cases h
    have h8:ks.length≤8:=zu h
    refine⟨_,rfl,_,rfl,_,.inl rfl,?_⟩
    refine comp_map (fun d=>.bl (ofStr fC d)) trivial (by show ks.length≤1000;lia) (fun d hd Q hQ=>?_) fun p hp=>?_
    ·exact⟨_,rfl,d,rfl,gx.in.2 d hd,hQ⟩
    ·have e2:ks.map (fun d=>D.bl (ofStr fC d))=(ks.map (ofStr fC)).map D.bl:=by rw[zF];rfl
     refine⟨.ref p,ks.map (ofStr fC),rfl,?_,S,.new hp,?_⟩
     ·show (S.set p (.lst (ks.map _))) p=_
      rw[aa,e2]
     ·rw[all_map];exact q
   ·rw[h,zR] at q
    exact fo q
 ·rw[vX] at q
  refine⟨_,rfl,_,wk _ ws,_,rfl,_,rfl,_,rfl,_,rfl,?_⟩
  refine bJ (fun h=>?_) (fun h=>?_)
  ·have h:¬ (2:Int)=(((D.str "not" :: ws).length:Nat):Int):=zI (nt h)
   rw[zE] at h
   rw[zw (by lia)] at q
   exact fo q
  ·have h:(2:Int)=(((D.str "not" :: ws).length:Nat):Int):=zu (nf h)
   rw[zE] at h
   rw[zD (by lia)] at q
   exact⟨_,rfl,_,wk _ ws,n4,rfl,rfl,_,rfl,g9 (by trivial) ⟨_,rfl,_,wk _ ws,_,rfl,g9 (by trivial) ⟨_,rfl,_,wk _ ws,n2,rfl,rfl,_,rfl,g9 (by trivial) (fo q)⟩⟩⟩
 ·rw[n8 h] at q
  have fin:∀{x:D},ws=[x]→x9 Pk [x] S (fun d S'=>Fo S' (R d)) (fun C S'=>Fo S' (Z C)):=by
   rintro x rfl
   exact⟨x,rfl,(gi x (by simp)).gt,fo q⟩
  have bad:ws.length≠1→R (.bl false) S:=fun n=>by
   rw[CT n] at q;exact q
  rcases h with rfl|rfl
  all_goals
   refine⟨_,rfl,_,wk _ ws,_,rfl,_,rfl,_,rfl,_,rfl,bJ (fun h=>?_) (fun h=>?_)⟩
   ·have h:¬ (2:Int)=(((D.str _::ws).length:Nat):Int):=zI (nt h)
    rw[zE] at h
    exact fo (bad (by lia))
   ·have h:(2:Int)=(((D.str _::ws).length:Nat):Int):=zu (nf h)
    rw[zE] at h
    obtain⟨x,rfl⟩:=HA (l:=ws) (by lia)
    exact⟨_,rfl,_,rfl,n4,rfl,rfl,_,rfl,g9 (by trivial) ⟨_,rfl,_,rfl,_,rfl,g9 (by trivial) ⟨_,rfl,_,rfl,n2,rfl,rfl,_,rfl,yR (by trivial) ⟨_,rfl,_,rfl,fin rfl⟩⟩⟩⟩
 ·rw[n_ h] at q
  refine⟨_,rfl,_,wk _ ws,_,rfl,?_⟩
  rw[HH h]
  exact⟨_,rfl,_,rfl,Mp (Pl ⟨_,rfl,dh (fo q)⟩)⟩
theorem yS{cs:List (Str×Str)}{e:D}(h:gG cs e=true):(∃(o:Str) (ws:List D),e=.tup (.str o::ws)∧o ≠ "not" ∧ ¬(o = "and" ∨ o = "or")∧subs e=[])∨(∃x,e=.tup [.str "not",x])∨∃(o:Str) (es:List D),(o = "and" ∨ o = "or")∧e=.tup [.str o,.tup es]∧es.length≤8:=by
 have hh:=h
 unfold gG at hh
 split at hh
 ·rename_i o ws
  clear hh
  have sb:o ≠ "not" → ¬(o = "and" ∨ o = "or")→subs (.tup (.str o::ws))=[]:=fun n1 n2=>by
   unfold subs
   split
   ·rename_i e;cases e;rw[if_neg n1,if_neg n2]
   ·rfl
  rcases rO o with rfl|ho|rfl|rfl|ho|ho
  ·exact .inl ⟨_,ws,rfl,by decide,by decide,sb (by decide) (by decide)⟩
  ·have n1:o ≠ "not" := by rcases ho with rfl|rfl|rfl|rfl <;> decide
   have n2:¬(o = "and" ∨ o = "or"):=by rcases ho with rfl|rfl|rfl|rfl <;> decide
   exact .inl ⟨o,ws,rfl,n1,n2,sb n1 n2⟩
  ·exact .inl ⟨_,ws,rfl,by decide,by decide,sb (by decide) (by decide)⟩
  ·rw[vX] at h
   obtain⟨x,rfl⟩:=HA (zu h)
   exact .inr (.inl ⟨x,rfl⟩)
  ·rw[n8 ho] at h
   have hl:ws.length=1:=Decidable.byContradiction fun n=>by rw[CT n] at h;cases h
   obtain⟨x,rfl⟩:=HA hl
   have h:Pk x=true:=h
   obtain⟨es,rfl⟩:∃es,x=.tup es:=by cases x <;> first|exact⟨_,rfl⟩|cases h
   exact .inr (.inr ⟨o,es,ho,rfl,zu h⟩)
  ·rw[n_ ho] at h;cases h
 ·cases hh
theorem eI{o:Str}(h:o = "and" ∨ o = "or")(es:List D):subs (.tup [.str o,.tup es])=es:=by
 unfold subs
 dsimp only
 rw[if_neg (by rcases h with rfl|rfl <;> decide),if_pos h]
theorem jP(x:D):subs (.tup [.str "not",x])=[x]:=by
 unfold subs
 dsimp only
 rw[if_pos rfl]
theorem HI{cs:List (Str×Str)}{e:D}(h:gG cs e=true):(subs e).length≤8:=by
 rcases yS h with ⟨_,_,_,_,_,h⟩|⟨x,rfl⟩|⟨o,es,ho,rfl,hl⟩
 ·rw[h];exact ya _
 ·rw[jP];simp
 ·rw[eI ho];exact hl
theorem HJ{cs:List (Str×Str)} : ∀{es:List D},(∀e∈es,gG cs e=true)→(es.flatMap subs).length≤8 * es.length:=by
 intro es
 induction es with
 |nil=>exact fun _=>zo _
 |cons e es ih =>
  intro h
  rw[List.flatMap_cons,zl,zE]
  have:=HI (h e zx)
  have:=ih fun x hx=>h x (zp _ hx)
  lia
theorem ET{es:List D}{i:Nat}{e:D}(h:es[i]?=some e):(es.take (i+1)).flatMap subs=(es.take i).flatMap subs++subs e:=by
 rw[take_snoc h,List.flatMap_append,List.flatMap_cons,List.flatMap_nil,yC]
theorem oa(T:Txt w K mg t):Ok P w base T.gD 1 (fun ds S R _=>∃l es cs,ds=[.ref l]∧S l=some (.lst es)∧es.length≤200∧(∀e∈es,gG cs e=true)∧∀p,S p=none→R (.ref p) (S.set p (.lst (es.flatMap subs)))):=by
 refine T.gD.F.dM d_ ?_
 rintro _ _ _ _ _ _ ds S R Z hr ⟨l,es,cs,e,hl,h8,QB,q⟩
 subst e
 refine⟨_,(sc (cR (i:=1) d_.nd (a_ an)) (sc (Ea (J2 (il (dv 0)) (gn (i:=2) d_.nd) (sc (Ea (si (bX bw hr.u (ix hr.u (dv 2) di) ds) (s1 (se (bm zQ yc yd eE (dv 1) (ac (ix hr.u (dv 2) di) an)))) s0)) (s1 (si (bX D3 hr.u (ix hr.u (dv 2) di) (ay (ac ds (ac ds an)))) (s1 (se (bm zQ PySem.F.slot_list_extend PySem.F.type_list_extend Ec (dv 1) (ac (ix hr.u (dv 2) di) an)))) s0))))) (s1 (sr (dv 1))))),?_⟩
 refine⟨vN,fun f hf=>?_⟩
 have Mg:l≠f:=iK hl hf
 have n2:=fQ
 refine⟨fun aD S'=>∃o,aD=[some (.ref l),some (.ref f),o]∧S'=S.set f (.lst (es.flatMap subs)),?_,?_⟩
 ·refine⟨_,rfl,es,(af Mg).trans hl,?_⟩
  refine⟨fun i aD S'=>∃o,aD=[some (.ref l),some (.ref f),o]∧S'=S.set f (.lst ((es.take i).flatMap subs)),⟨none,rfl,rfl⟩,?_,?_,?_⟩
  ·rintro i aD S' ⟨o,rfl,rfl⟩
   exact (af Mg).trans hl
  ·rintro i e aD S' he ⟨o,rfl,rfl⟩
   have he:es[i]?=some e:=he
   have hem:=QB e (zK he)
   have hi:i<es.length:=(zr.mp he).1
   have Yc:((es.take i).flatMap subs).length≤1600:=by
    have:=HJ (cs:=cs) (es:=es.take i) fun x hx=>QB x (List.mem_of_mem_take hx)
    rw[yb] at this
    lia
   have more:∃o,[some (D.ref l),some (D.ref f),some e]=[some (.ref l),some (.ref f),o]∧S.set f (.lst ((es.take i).flatMap subs++subs e))=S.set f (.lst ((es.take (i+1)).flatMap subs)):=⟨_,rfl,by rw[ET he]⟩
   generalize (es.take i).flatMap subs=fs at Yc more ⊢
   have QC:(S.set f (.lst fs)) f=some (.lst fs):=aa
   rcases yS hem with ⟨o,ws,rfl,n1,n3,hs⟩|⟨x,rfl⟩|⟨o,xs,ho,rfl,hxl⟩
   ·rw[hs,yC] at more
    refine⟨fun B1 S2=>B1=_∧S2=S.set f (.lst fs),⟨_,rfl,_,wk _ ws,_,rfl,g9 (zw n1) (fo ⟨rfl,rfl⟩)⟩,?_⟩
    rintro _ _ ⟨rfl,rfl⟩
    refine⟨_,rfl,_,wk _ ws,n2,rfl,rfl,_,rfl,g9 ?_ more⟩
    simp only [not_or] at n3
    simp [FE,pM,eqV,Ne.symm n3.1,Ne.symm n3.2]
   ·rw[jP] at more
    refine⟨fun B1 S2=>B1=_∧S2=S.set f (.lst (fs++[x])),⟨_,rfl,_,rfl,_,rfl,yR (by trivial) ⟨_,rfl,⟨rfl,_,QC⟩,_,rfl,_,rfl,f,_,_,rfl,rfl,QC,by rw[zT];lia,fo ⟨rfl,dr⟩⟩⟩,?_⟩
    rintro _ _ ⟨rfl,rfl⟩
    exact⟨_,rfl,_,rfl,n2,rfl,rfl,_,rfl,g9 (by trivial) more⟩
   ·rw[eI ho] at more
    rw[← dr (c:=.lst fs)] at more
    rcases ho with rfl|rfl
    ·refine⟨fun B1 S2=>B1=_∧S2=S.set f (.lst fs),⟨_,rfl,_,rfl,_,rfl,g9 (by trivial) (fo ⟨rfl,rfl⟩)⟩,?_⟩
     rintro _ _ ⟨rfl,rfl⟩
     exact⟨_,rfl,_,rfl,n2,rfl,rfl,_,rfl,yR (by trivial) ⟨_,rfl,⟨rfl,_,QC⟩,_,rfl,_,rfl,f,_,_,rfl,rfl,QC,by rw[zT];lia,more⟩⟩
    ·refine⟨fun B1 S2=>B1=_∧S2=S.set f (.lst fs),⟨_,rfl,_,rfl,_,rfl,g9 (by trivial) (fo ⟨rfl,rfl⟩)⟩,?_⟩
     rintro _ _ ⟨rfl,rfl⟩
     exact⟨_,rfl,_,rfl,n2,rfl,rfl,_,rfl,yR (by trivial) ⟨_,rfl,⟨rfl,_,QC⟩,_,rfl,_,rfl,f,_,_,rfl,rfl,QC,by rw[zT];lia,more⟩⟩
  ·rintro aD S' ⟨o,rfl,rfl⟩
   exact fo ⟨o,rfl,by rw[yx]⟩
 ·rintro aD S' ⟨o,rfl,rfl⟩
  exact⟨_,rfl,fo (q f hf)⟩
def lF(cs:List (Str×Str)):Nat→Nat→List D→Bool
 |0,_,es=>decide (es.length=0)
 |n+1,p,es=>if es.length=0 then true else decide (p+es.length≤200) && (es.all (gG cs) && lF cs n (p+es.length) (es.flatMap subs))
theorem HK(cs:List (Str×Str))(n p:Nat):lF cs n p []=true:=by cases n <;> rfl
theorem QA.subs(h:QA S d):∀e∈subs d,QA S e:=by
 intro e he
 unfold My.subs at he
 split at he
 ·rename_i o x
  have hx:QA S x:=h.in (by simp)
  split at he
  ·rw[zi.mp he];exact hx
  ·split at he
   ·split at he
    ·exact hx.in he
    ·cases he
   ·cases he
 ·cases he
def Zc(t:jf):eF:=fun ds S R Z=>∃cs d,ds=[.tup (cs.map aC),d]∧Gd cs∧QA S d∧(lF cs 8 0 [d]=true→R .aw S)∧(lF cs 8 0 [d]=false→Z t.aK S)
theorem jQ(T:Txt w K mg t):Ok P w base T.fZ 6 (Zc t):=by
 refine T.fZ.F.dM bD ?_
 rintro _ _ _ _ _ _ ds S R Z hr ⟨cs,d,e,hg,hd,q1,q2⟩
 subst e
 obtain⟨b,hb⟩:∃b,lF cs 8 0 [d]=b:=⟨_,rfl⟩
 rw[hb] at q1 q2
 have n1:=iV
 refine⟨_,(sc (cR (i:=2) bD.nd (a_ (ac (dv 1) an))) (sc (cR (i:=3) bD.nd di) (sc (cR (i:=4) bD.nd di) (s1 (swh (bX qF hr.u (cb bU T.bK aX (ac (dv 2) an)) di) (sc (sau (i:=3) bD.nd di) (sc (sau (i:=4) bD.nd (cb bU T.bK aX (ac (dv 2) an))) (sc (si (twd (twor (bX qF hr.u (dv 3) (dg (v:=.int 8) T.vt ⟨_,rfl⟩ fun _=>aO _)) (tw1 (bX qF hr.u (dv 4) (dg (v:=.int 200) T.jx ⟨_,rfl⟩ fun _=>aO _))))) (s1 (w_ ⟨T.fw⟩ T.jz (ac ds an))) s0) (sc (si (dN (tv (cb l6 T.mw hW (ac (Ac (N:=["thing","columns"]) (src:=[none,some 0]) (m_ (ae eB) ["columns","sieve","level","deep","parts"] rfl rfl (by trivial)) (il (dv 2)) (sU (show (["thing","columns"]:List Str).Nodup by trivial)) (bf rfl) bh (fun _ _ _ _ _=>xf) (fun _ _ _ _ _=>(aZ T.nO (vY T) hr (ac (dv 1) (ac (dv 0) an))))) an)))) (s1 (w_ ⟨T.fw⟩ T.jz (ac ds an))) s0) (s1 (cR (i:=2) bD.nd (aZ T.gD (oa T) hr (ac (dv 2) an))))))))))))),?_⟩
 refine⟨_,rfl,iV,fun l0 Zd=>?_⟩
 refine⟨fun m aD S'=>∃(l:Addr) (es:List D) (dp p:Nat),aD=[some (.tup (cs.map aC)),some d,some (.ref l),some (.int dp),some (.int p)]∧S' l=some (.lst es)∧Sub S S'∧(∀e∈es,QA S e)∧dp+m=8∧lF cs m p es=b,⟨8,l0,[d],0,0,rfl,aa,.new Zd,fun e he=>by rw[zi.mp he];exact hd,rfl,hb⟩,?_⟩
 rintro m aD S' ⟨l,es,dp,p,rfl,hl,sb,QB,hdp,IA⟩
 refine⟨_,rfl,_,rfl,.inl ⟨_,hl,_,rfl,?_⟩⟩
 refine bJ (fun h1=>?_) (fun h1=>?_)
 ·have DN:0<es.length:=by
   have h1:(0:Int)<((es.length:Nat):Int):=zu h1
   lia
  refine⟨_,rfl,_,rfl,_,rfl,_,rfl,_,rfl,.inl ⟨_,hl,_,rfl,?_⟩⟩
  refine⟨_,rfl,_,rfl,bJ (fun h2=>?_) (fun h2=>?_)⟩
  ·have h2:(8:Int)<((dp:Nat):Int)+1:=zu h2
   obtain rfl:m=0:=by lia
   refine⟨n1,S,sb,q2 ?_⟩
   rw[← IA]
   exact zw (by lia)
  have h2:¬ (8:Int)<((dp:Nat):Int)+1:=zI h2
  obtain⟨n,rfl⟩:∃n,m=n+1:=⟨m - 1,by lia⟩
  unfold lF at IA
  rw[if_neg (by lia)] at IA
  refine⟨_,rfl,_,rfl,bJ (fun h3=>?_) (fun h3=>?_)⟩
  ·have h3:(200:Int)<((p:Nat):Int)+((es.length:Nat):Int):=zu h3
   refine⟨n1,S,sb,q2 ?_⟩
   rw[← IA,zw (by lia)];rfl
  have h3:¬ (200:Int)<((p:Nat):Int)+((es.length:Nat):Int):=zI h3
  rw[zD (by lia),zO] at IA
  refine⟨_,rfl,es,hl,?_⟩
  refine comp_map (fun e=>.bl (gG cs e)) hl (by show es.length≤1000;lia) (fun e he Q hQ=>?_) fun p1 sE=>?_
  ·exact⟨_,rfl,_,rfl,cs,e,rfl,hg,(QB e he 2).sub sb,hQ⟩
  have e2:es.map (fun e=>D.bl (gG cs e))=(es.map (gG cs)).map D.bl:=by rw[zF];rfl
  rw[show (⟨es,fun S=>uU S (.ref l) es⟩:Gu).xs=es from rfl,e2]
  have s1:=sb.trans (.new (c:=.lst ((es.map (gG cs)).map D.bl)) sE)
  refine⟨.ref p1,es.map (gG cs),rfl,aa,_,rfl,?_⟩
  rw[show (es.map (gG cs)).all id=es.all (gG cs) from all_map]
  refine bJ (fun h4=>?_) (fun h4=>?_)
  ·refine⟨n1,S,s1,q2 ?_⟩
   rw[← IA,nt h4];rfl
  have h4:=nf h4
  rw[h4,zO] at IA
  have CO:(S'.set p1 (.lst ((es.map (gG cs)).map D.bl))) l=some (.lst es):=(af (iK hl sE)).trans hl
  refine⟨_,rfl,l,es,cs,rfl,CO,by lia,yg.mp h4,fun p2 h5=>?_⟩
  refine⟨n,Nat.lt_succ_self n,p2,es.flatMap subs,dp+1,p+es.length,?_,aa,s1.trans (.new h5),fun x hx=>?_,by lia,IA⟩
  ·show [_,_,_,some (D.int (((dp:Nat):Int)+1)),some (D.int (((p:Nat):Int)+((es.length:Nat):Int)))]=_
   rw[show (((dp:Nat):Int)+1)=((dp+1:Nat):Int) by lia,show (((p:Nat):Int)+((es.length:Nat):Int))=((p+es.length:Nat):Int) by lia]
  ·obtain⟨e,he,hx⟩:=List.mem_flatMap.mp hx
   exact (QB e he).subs x hx
 ·have h1:¬ (0:Int)<((es.length:Nat):Int):=zI h1
  have e0:es=[]:=List.eq_nil_of_length_eq_zero (by lia)
  rw[e0,HK] at IA
  exact⟨S,sb,q1 IA.symm⟩
theorem T8(hg:Gd cs)(h:Lf cs d):gG cs d=true∧subs d=[]:=by
 rcases h with rfl|⟨ks,rfl,h8,Ae⟩|⟨o,c,v,hc,hv,ho,rfl⟩
 ·exact⟨by rw[rP];rfl,rfl⟩
 ·refine⟨?_,rfl⟩
  rw[n6]
  show (decide ((ks.map D.str).length≤8) && (ks.map D.str).all (ofStr fC))=true
  rw[zc,zD h8,zO,List.all_map]
  exact yg.mpr fun k hk=>(jN k (Ae k hk)).1
 ·have h4:o = "is" ∨ o = "below" ∨ o = "above" ∨ o = "begins" := by
   rcases ho with h|⟨_,h|h|⟨h,_⟩⟩
   ·exact .inl h
   ·exact .inr (.inl h)
   ·exact .inr (.inr (.inl h))
   ·exact .inr (.inr (.inr h))
  refine⟨?_,rfl⟩
  rw[fI h4]
  show mH cs o (.str c.1) v=true
  unfold mH
  rw[nZ hg (k:=c.2) hc]
  show (fE c.2 v && (decide (o = "is") || ((!(decide (o = "begins") && !decide (c.2 = "word"))) && !av v)))=true
  rw[hv.1,zO]
  rcases ho with rfl|⟨VG,ho⟩
  ·rfl
  have Te:av v=false:=by cases v <;> first|rfl|exact absurd rfl VG
  rw[Te]
  rcases ho with rfl|rfl|⟨rfl,hw⟩
  ·rfl
  ·rfl
  ·rw[hw];rfl
theorem K0(hg:Gd cs)(h:Sg cs (n+1) d):gG cs d=true∧(subs d).length≤2∧∀e∈subs d,Sg cs n e:=by
 rcases h with h|⟨e,rfl,he⟩|⟨o,ds,ho,rfl,hl,hd⟩
 ·obtain⟨h1,h2⟩:=T8 hg h
  rw[h2]
  exact⟨h1,by simp,by simp⟩
 ·rw[jP]
  exact⟨by rw[vX];rfl,by simp,fun x hx=>by rw[zi.mp hx];exact he⟩
 ·rw[eI ho]
  refine⟨?_,hl,hd⟩
  rw[n8 ho]
  exact zD (by lia)
theorem HL(hg:Gd cs):∀{es:List D},(∀e∈es,Sg cs (n+1) e)→es.all (gG cs)=true∧(es.flatMap subs).length≤2 * es.length∧∀e∈es.flatMap subs,Sg cs n e:=by
 intro es
 induction es with
 |nil=>exact fun _=>⟨rfl,zo _,by simp⟩
 |cons e es ih =>
  intro h
  obtain⟨a,b,c⟩:=K0 hg (h e zx)
  obtain⟨a',b',c'⟩:=ih fun x hx=>h x (zp _ hx)
  rw[List.flatMap_cons,List.all_cons,a,a',zl,zE]
  exact⟨rfl,by lia,fun x hx=>(zC.mp hx).elim (c x) (c' x)⟩
theorem T9(hg:Gd cs):∀(n:Nat) {m p:Nat}{es:List D},(∀e∈es,Sg cs n e)→n≤m→p+es.length * 3 ^ n≤200→lF cs m p es=true:=by
 intro n
 induction n with
 |zero =>
  intro m p es h _ _
  cases es with
  |nil=>exact HK _ _ _
  |cons e es=>exact (h e zx).elim
 |succ n ih =>
  intro m p es h hm hp
  obtain⟨m,rfl⟩:∃k,m=k+1:=⟨m - 1,by lia⟩
  obtain⟨a,b,c⟩:=HL hg h
  unfold lF
  split
  ·rfl
  rw[Nat.pow_succ,← Nat.mul_assoc] at hp
  have e2:es.length≤es.length * 3 ^ n:=Nat.le_mul_of_pos_right _ (Nat.pow_pos (by decide))
  have e3:(es.flatMap subs).length * 3 ^ n≤2 * es.length * 3 ^ n:=Nat.mul_le_mul_right _ b
  rw[Nat.mul_assoc] at e3
  rw[zD (by lia),a,zO,zO]
  exact ih c (by lia) (by lia)
def QD(cs:List (Str×Str))(z:Str):Nat:=(cs.map Prod.fst).idxOf z
def bV(cs:List (Str×Str))(ws:List D)(z:Str):D:=(ws[QD cs z]?).getD .aw
def aN(r:Str×List D):D:=.tup [.str r.1,.tup r.2]
theorem rQ:∀{l:List α}{m:List β},Paired rel l m→∀{i:Nat}{a:α},l[i]?=some a→∃b,m[i]?=some b∧rel a b
 |_,_,.nil,_,_,h=>by simp at h
 |_,_,.cons r t,0,a,h=>by
  rw[List.getElem?_cons_zero] at h ⊢
  cases h
  exact⟨_,rfl,r⟩
 |_,_,.cons r t,i+1,a,h=>by
  rw[List.getElem?_cons_succ] at h ⊢
  exact rQ t h
theorem HM(hg:Gd cs)(h:c∈cs):cs[QD cs c.1]?=some c∧(cs.map Prod.fst)[QD cs c.1]?=some c.1:=by
 have hm:c.1∈cs.map Prod.fst:=zf.mpr ⟨c,h,rfl⟩
 have hi:(cs.map Prod.fst).idxOf c.1<(cs.map Prod.fst).length:=List.idxOf_lt_length_of_mem hm
 have e1:(cs.map Prod.fst)[(cs.map Prod.fst).idxOf c.1]?=some c.1:=by rw[zj hi,List.getElem_idxOf]
 refine⟨?_,e1⟩
 obtain⟨j,ej⟩:=List.getElem?_of_mem h
 have ej1:(cs.map Prod.fst)[j]?=some c.1:=by rw[zB,ej];rfl
 obtain⟨b1,c1⟩:=zr.mp e1
 obtain⟨b2,c2⟩:=zr.mp ej1
 have:=(List.getElem_inj hg.2.1 (h₀:=b1) (h₁:=b2)).mp (c1.trans c2.symm)
 unfold QD
 rw[this]
 exact ej
theorem vZ(hg:Gd cs)(hw:Wg cs ws)(h:c∈cs):ws[QD cs c.1]?=some (bV cs ws c.1)∧Vg c.2 (bV cs ws c.1):=by
 obtain⟨v,e,r⟩:=rQ hw (HM hg h).1
 unfold bV
 rw[e]
 exact⟨rfl,r⟩
theorem Pm(ha:lE a=true)(hb:lE b=true)(q:∀b,R (.bl b) S):JU false a b S R:=by
 obtain⟨p,p1,p2,p3⟩:=Ly.plain (S:=S) ha
 obtain⟨r,r1,r2,r3⟩:=Ly.plain (S:=S) hb
 cases a <;> cases b <;> first|(cases ha;done)|(cases hb;done)|exact q _|exact⟨p,r,p1,r1,p2,r2,.inl (by lia),q _⟩
theorem HN(aH:I.ok S1)(hz:I.xs.length≤1000)
  (step:∀d,d∈I.xs→∀(Q:KD) (Q':aG→Prop),Q d S1→Q' S1→g d (l9 σ src) S1 fun g8 S3=>tc g8 S3 (fun b S4=>if b=true then te g8 S4 Q Zf else Q' S4) Zf)
  (fin:∀out,out.Sublist I.xs→∀p,S1 p=none→R (.ref p) (S1.set p (.lst out))):xb σ src g tc te R I S1:=by
 refine⟨fun i out S=>S=S1∧out.Sublist (I.xs.take i),⟨rfl,.refl _⟩,fun i out S h=>by rw[h.1];exact aH,?_,?_⟩
 ·rintro i d out S hd ⟨rfl,hs⟩
  have hlen:=hs.length_le
  rw[yb] at hlen
  refine⟨gI (by lia),step d (zK hd) _ (fun S4=>S4=S∧_) ⟨rfl,?_⟩ ⟨rfl,?_⟩⟩
  ·rw[take_snoc hd];exact hs.append (.refl _)
  ·rw[take_snoc hd];exact hs.trans (List.sublist_append_left _ _)
 ·rintro out S2 ⟨rfl,hs⟩
  rw[yx] at hs
  exact fin out hs
theorem HP(ha:Vg k a)(hb:Vg k b)(na:a≠.aw)(nb:b≠.aw):(∃i j,a=.int i∧b=.int j)∨∃i j,a=.str i∧b=.str j:=by
 obtain⟨a1,a2⟩:=ha
 obtain⟨b1,b2⟩:=hb
 cases a with
 |aw=>exact absurd rfl na
 |int i =>
  cases b with
  |aw=>exact absurd rfl nb
  |int j=>exact .inl ⟨i,j,rfl,rfl⟩
  |str j =>
   exfalso
   unfold fE at a1 b1
   simp only [av,yE] at a1 b1
   by_cases e:k = "number"
   ·rw[if_pos e] at b1;cases b1
   ·rw[if_neg e] at a1;cases a1
  |_=>cases b2
 |str i =>
  cases b with
  |aw=>exact absurd rfl nb
  |str j=>exact .inr ⟨i,j,rfl,rfl⟩
  |int j =>
   exfalso
   unfold fE at a1 b1
   simp only [av,yE] at a1 b1
   by_cases e:k = "number"
   ·rw[if_pos e] at a1;cases a1
   ·rw[if_neg e] at b1;cases b1
  |_=>cases b2
 |_=>cases a2
theorem CU(h:Vg "word" a)(n:a≠.aw):∃z,a=.str z:=by
 obtain⟨h1,h2⟩:=h
 cases a with
 |aw=>exact absurd rfl n
 |str z=>exact⟨z,rfl⟩
 |int i =>
  unfold fE at h1
  rw[if_neg (by trivial)] at h1
  cases h1
 |_=>cases h2
theorem jR(h:av a=false):a≠.aw:=by rintro rfl;cases h
theorem eJ(T:Txt w K mg t):Ok P w base T.cH 2 (fun ds S R _=>∃cs r c,ds=[.tup (cs.map aC),aN r,.str c.1]∧Gd cs∧Wg cs r.2∧c∈cs∧R (bV cs r.2 c.1) S):=by
 refine T.cH.F.dM xZ ?_
 rintro _ _ _ _ _ _ ds S R Z hr ⟨cs,r,c,e,hg,hw,hc,q⟩
 subst e
 obtain⟨n1,n2⟩:=HM hg hc
 refine⟨_,(s1 (sr (ix hr.u (ix hr.u (dv 1) di) (bm zQ PySem.F.slot_list_index PySem.F.type_list_index w5 (aZ T.mm (oM T) hr (ac (dv 0) an)) (ac (dv 2) an))))),?_⟩
 refine⟨_,rfl,_,rfl,_,rfl,cs,rfl,hg.1,fun p hp=>?_⟩
 refine⟨⟨rfl,_,aa⟩,_,rfl,(cs.map Prod.fst).map D.str,.str c.1,QD cs c.1,rfl,aa,rfl,?_,⟨.str c.1,by rw[zB,n2];rfl,by show (c.1 == c.1)=true;simp⟩,?_,?_⟩
 ·rw[List.all_map];exact yg.mpr fun _ _=>rfl
 ·intro m u hm hu
  rw[zB] at hu
  cases e:(cs.map Prod.fst)[m]? with
  |none=>rw[e] at hu;cases hu
  |some z' =>
   rw[e] at hu
   cases hu
   show (z' == c.1)=false
   have:z'≠c.1:=fun q=>by
    subst q
    obtain⟨b1,c1⟩:=zr.mp e
    obtain⟨b2,c2⟩:=zr.mp n2
    have:=(List.getElem_inj hg.2.1 (h₀:=b1) (h₁:=b2)).mp (c1.trans c2.symm)
    lia
   simpa using this
 ·exact⟨_,hU (vZ hg hw hc).1,S,.new hp,q⟩
theorem pC(T:Txt w K mg t):Ok P w base T.ir 1 (fun ds S R _=>∃o a b c,ds=[.str o,a,b]∧Vg c.2 a∧Vg c.2 b∧BI o c b∧∀b,R (.bl b) S):=by
 refine T.ir.F.dM pw ?_
 rintro _ _ _ _ _ _ ds S R Z hr ⟨o,a,b,c,e,ha,hb,ho,q⟩
 subst e
 refine⟨_,(sc (si (bX bw hr.u (dv 0) ds) (s1 (sr (cm bw hr.u (dv 1) (dv 2)))) s0) (sc (si (bX wY hr.u (dv 1) dn) (s1 (sr db)) s0) (sc (si (bX bw hr.u (dv 0) ds) (s1 (sr (cm JT hr.u (dv 1) (dv 2)))) s0) (sc (si (bX bw hr.u (dv 0) ds) (s1 (sr (cm qF hr.u (dv 1) (dv 2)))) s0) (s1 (sr (bm PySem.F.plainAttrs_str PySem.F.slot_str_startswith PySem.F.type_str_startswith Gm (dv 1) (ac (dv 2) an)))))))),?_⟩
 rcases ho with rfl|⟨nb,rfl|rfl|⟨rfl,hk⟩⟩
 ·exact⟨_,rfl,_,rfl,yR (by trivial) ⟨_,rfl,_,rfl,Pm ha.2 hb.2 fun b=>fo (q b)⟩⟩
 ·refine⟨_,rfl,_,rfl,g9 (by trivial) ⟨_,rfl,_,rfl,bJ (fun h=>fo (q _)) (fun h=>?_)⟩⟩
  refine⟨_,rfl,_,rfl,yR (by trivial) ⟨_,rfl,_,rfl,?_⟩⟩
  rcases HP ha hb (jR h) nb with ⟨i,j,rfl,rfl⟩|⟨i,j,rfl,rfl⟩ <;> exact fo (q _)
 ·refine⟨_,rfl,_,rfl,g9 (by trivial) ⟨_,rfl,_,rfl,bJ (fun h=>fo (q _)) (fun h=>?_)⟩⟩
  refine⟨_,rfl,_,rfl,g9 (by trivial) ⟨_,rfl,_,rfl,yR (by trivial) ⟨_,rfl,_,rfl,?_⟩⟩⟩
  rcases HP ha hb (jR h) nb with ⟨i,j,rfl,rfl⟩|⟨i,j,rfl,rfl⟩ <;> exact fo (q _)
 ·refine⟨_,rfl,_,rfl,g9 (by trivial) ⟨_,rfl,_,rfl,bJ (fun h=>fo (q _)) (fun h=>?_)⟩⟩
  refine⟨_,rfl,_,rfl,g9 (by trivial) ⟨_,rfl,_,rfl,g9 (by trivial) ?_⟩⟩
  rw[hk] at ha hb
  obtain⟨i,rfl⟩:=CU ha (jR h)
  obtain⟨j,rfl⟩:=CU hb nb
  exact⟨_,rfl,rfl,_,rfl,i,j,rfl,rfl,fo (q _)⟩
def Pn(n:Nat):eF:=fun ds S R _=>∃cs d r,ds=[.tup (cs.map aC),d,aN r]∧Gd cs∧Sg cs n d∧Wg cs r.2∧∀b,R (.bl b) S
theorem HQ(h:Paired (fun _ v=>∃b:Bool,v=.bl b) xs out):∃bs:List Bool,out=bs.map D.bl:=by
 induction h with
 |nil=>exact⟨[],rfl⟩
 |cons r t ih =>
  obtain⟨b,rfl⟩:=r
  obtain⟨bs,rfl⟩:=ih
  exact⟨b::bs,rfl⟩
theorem g7(T:Txt w K mg t):∀n,Ok P w base T.passes (3+n) (Pn n)
 |0=>by
  refine T.passes.F.dM (k:=2) uo ?_
  rintro _ _ _ _ _ _ ds S R Z hr ⟨cs,d,r,e,hg,hs,_⟩
  exact hs.elim
 |n+1=>by
  refine T.passes.F.dM (k:=3+n) uo ?_
  rintro _ _ _ _ _ _ ds S R Z hr ⟨cs,d,r,e,hg,hs,hw,q⟩
  subst e
  refine⟨_,(sc (si (bX bw hr.u (ix hr.u (dv 1) di) ds) (s1 (sr db)) s0) (sc (si (bX bw hr.u (ix hr.u (dv 1) di) ds) (s1 (sr (cm D3 hr.u (ix hr.u (dv 2) di) (ix hr.u (dv 1) di)))) s0) (sc (si (bX bw hr.u (ix hr.u (dv 1) di) ds) (s1 (sr (Sf (aZ T.passes (g7 T n) hr (ac (dv 0) (ac (ix hr.u (dv 1) di) (ac (dv 2) an))))))) s0) (sc (si (bX bw hr.u (ix hr.u (dv 1) di) ds) (s1 (sr (cb l6 T.mw hW (ac (Ac (N:=["inner","columns","row"]) (src:=[none,some 0,some 2]) (m_ (ae jc) ["columns","sieve","row"] rfl rfl (by trivial)) (LS (ix hr.u (dv 1) di)) (sU (show (["inner","columns","row"]:List Str).Nodup by trivial)) (bf rfl) bh (fun _ _ _ _ _=>xf) (fun _ _ _ _ _=>(aZ T.passes (g7 T n) hr (ac (dv 1) (ac (dv 0) (ac (dv 2) an)))))) an)))) s0) (sc (si (bX bw hr.u (ix hr.u (dv 1) di) ds) (s1 (sr (cb Sr T.TH NS (ac (Ac (N:=["inner","columns","row"]) (src:=[none,some 0,some 2]) (m_ (ae jc) ["columns","sieve","row"] rfl rfl (by trivial)) (LS (ix hr.u (dv 1) di)) (sU (show (["inner","columns","row"]:List Str).Nodup by trivial)) (bf rfl) bh (fun _ _ _ _ _=>xf) (fun _ _ _ _ _=>(aZ T.passes (g7 T n) hr (ac (dv 1) (ac (dv 0) (ac (dv 2) an)))))) an)))) s0) (s1 (sr (aZ T.ir (pC T) hr (ac (ix hr.u (dv 1) di) (ac (aZ T.cH (eJ T) hr (ac (dv 0) (ac (dv 2) (ac (ix hr.u (dv 1) di) an)))) (ac (ix hr.u (dv 1) di) an))))))))))),?_⟩
  rcases hs with (rfl|⟨ks,rfl,hk8,Ae⟩|⟨o,c,v,hc,hv,ho,rfl⟩)|⟨e,rfl,he⟩|⟨o,es,ho,rfl,QB,W8⟩
  ·exact⟨_,rfl,_,rfl,_,rfl,yR (by trivial) (fo (q _))⟩
  ·refine⟨_,rfl,_,rfl,_,rfl,g9 (by trivial) ⟨_,rfl,_,rfl,_,rfl,yR (by trivial) ?_⟩⟩
   refine⟨_,rfl,_,rfl,_,rfl,_,rfl,rfl,?_,fo (q _)⟩
   rw[List.all_map];exact yg.mpr fun _ _=>rfl
  ·have fin:∃o' a b c',[D.str o,bV cs r.2 c.1,v]=[D.str o',a,b]∧Vg (Prod.snd (α:=Str) c') a∧Vg c'.2 b∧BI o' c' b∧∀b,Fo S (R (.bl b)):=⟨o,_,v,c,rfl,(vZ hg hw hc).2,hv,ho,fun b=>fo (q b)⟩
   have h5:∀x∈(["every","key","not","and","or"]:List Str),decide (o=x)=false:=by
    rcases ho with rfl|⟨_,rfl|rfl|⟨rfl,_⟩⟩ <;> decide +kernel
   exact⟨_,rfl,_,rfl,_,rfl,g9 (h5 _ (by decide)) ⟨_,rfl,_,rfl,_,rfl,g9 (h5 _ (by decide)) ⟨_,rfl,_,rfl,_,rfl,g9 (h5 _ (by decide)) ⟨_,rfl,_,rfl,_,rfl,g9 (h5 _ (by decide)) ⟨_,rfl,_,rfl,_,rfl,g9 (h5 _ (by decide)) ⟨_,rfl,_,rfl,_,rfl,_,rfl,_,rfl,_,rfl,cs,r,c,rfl,hg,hw,hc,_,rfl,_,rfl,fin⟩⟩⟩⟩⟩⟩
  ·exact⟨_,rfl,_,rfl,_,rfl,g9 (by trivial) ⟨_,rfl,_,rfl,_,rfl,g9 (by trivial) ⟨_,rfl,_,rfl,_,rfl,yR (by trivial) ⟨_,rfl,_,rfl,_,rfl,_,rfl,cs,e,r,rfl,hg,he,hw,fun b=>⟨_,rfl,fo (q _)⟩⟩⟩⟩⟩
  ·have hz:es.length≤1000:=by lia
   rcases ho with rfl|rfl
   ·refine⟨_,rfl,_,rfl,_,rfl,g9 (by trivial) ⟨_,rfl,_,rfl,_,rfl,g9 (by trivial) ⟨_,rfl,_,rfl,_,rfl,g9 (by trivial) ⟨_,rfl,_,rfl,_,rfl,yR (by trivial) ⟨_,rfl,_,rfl,_,.inl rfl,?_⟩⟩⟩⟩⟩
    refine fF (fun _ v=>∃b:Bool,v=.bl b) trivial hz (fun d hd Q hQ=>⟨_,rfl,_,rfl,_,rfl,cs,d,r,rfl,hg,W8 d hd,hw,fun b=>hQ _ ⟨b,rfl⟩⟩) fun out ho p hp=>?_
    obtain⟨bs,rfl⟩:=HQ ho
    exact⟨.ref p,bs,rfl,aa,S,.new hp,q _⟩
   ·refine⟨_,rfl,_,rfl,_,rfl,g9 (by trivial) ⟨_,rfl,_,rfl,_,rfl,g9 (by trivial) ⟨_,rfl,_,rfl,_,rfl,g9 (by trivial) ⟨_,rfl,_,rfl,_,rfl,g9 (by trivial) ⟨_,rfl,_,rfl,_,rfl,yR (by trivial) ⟨_,rfl,_,rfl,_,.inl rfl,?_⟩⟩⟩⟩⟩⟩
    refine fF (fun _ v=>∃b:Bool,v=.bl b) trivial hz (fun d hd Q hQ=>⟨_,rfl,_,rfl,_,rfl,cs,d,r,rfl,hg,W8 d hd,hw,fun b=>hQ _ ⟨b,rfl⟩⟩) fun out ho p hp=>?_
    obtain⟨bs,rfl⟩:=HQ ho
    exact⟨.ref p,bs,rfl,aa,S,.new hp,q _⟩
abbrev Row:=Str×List D
abbrev Part:=Str×Str×Str
def Pin(cs:List (Str×Str))(ps:List Part):Prop:=∀p∈ps,∃c∈cs,c.1=p.1
section
variable{cs:List (Str×Str)}
theorem K1(hg:Gd cs)(h:Pin cs (p::ps)):∃k,∀ws,Wg cs ws→Vg k (bV cs ws p.1):=by
 obtain⟨c,hc,e⟩:=h p zx
 rw[← e]
 exact⟨c.2,fun ws hw=>(vZ hg hw hc).2⟩
def Rg(cs:List (Str×Str))(rs:List Row):Prop:=(∀r∈rs,Wg cs r.2)∧(rs.map Prod.fst).Nodup
theorem Rg.perm(h:Rg cs rs)(p:eN.Perm rs):Rg cs eN:=⟨fun r hr=>h.1 r (p.mem_iff.mp hr),(p.map _).nodup_iff.mpr h.2⟩
theorem Rg.sub(h:Rg cs rs)(p:eN.Sublist rs):Rg cs eN:=⟨fun r hr=>h.1 r (p.subset hr),h.2.sublist (p.map _)⟩
end
theorem BJ{l m:List Nat}(hl:l.Nodup)(hm:m.Nodup)(h:∀x,x∈l↔x∈m):l.Perm m:=by
 induction l generalizing m with
 |nil =>
  cases m with
  |nil=>exact .nil
  |cons y m=>exact absurd ((h y).mpr zx) (by simp)
 |cons x l ih =>
  obtain⟨n1,n2⟩:=yn.mp hl
  have hx:=(h x).mp zx
  refine .trans ((ih n2 (hm.erase x) fun y=>?_).cons x) (List.perm_cons_erase hx).symm
  rw[hm.mem_erase_iff]
  constructor
  ·intro hy
   exact⟨fun e=>n1 (e ▸ hy),(h y).mp (zp _ hy)⟩
  ·rintro⟨h1,h2⟩
   rcases ze.mp ((h y).mpr h2) with e|e
   ·exact absurd e h1
   ·exact e
theorem map_range(d:α)(xs:List α):(List.range xs.length).map (fun k=>xs.getD k d)=xs:=by
 refine List.ext_getElem (by simp) fun i h1 h2=>?_
 simp [zj h2]
theorem EU{α:Type}(d:α){xs:List α}{g:Nat→Nat}(lt:∀k,k<xs.length→g k<xs.length)(inj:∀i j,i<xs.length→j<xs.length→g i=g j→i=j):((List.range xs.length).map fun k=>xs.getD (g k) d).Perm xs:=by
 have nd:((List.range xs.length).map g).Nodup:=by
  refine List.pairwise_map.mpr (List.nodup_range.imp_of_mem fun {a b} ha hb n e=>n (inj a b (zW.mp ha) (zW.mp hb) e))
 have sub:∀x∈(List.range xs.length).map g,x∈List.range xs.length:=fun x hx=>by
  obtain⟨k,hk,rfl⟩:=zf.mp hx
  exact zW.mpr (lt k (zW.mp hk))
 have p:((List.range xs.length).map g).Perm (List.range xs.length):=BJ nd List.nodup_range fun x=>by
  refine⟨sub x,fun hx=>?_⟩
  by_cases h:x∈(List.range xs.length).map g
  ·exact h
  ·exfalso
   have:=sub_len nd (m:=(List.range xs.length).erase x) fun y hy=>(List.Nodup.mem_erase_iff List.nodup_range).mpr ⟨fun e=>h (e ▸ hy),sub y hy⟩
   rw[zc,List.length_erase_of_mem hx,List.length_range] at this
   have:=zW.mp hx
   omega
 have e:((List.range xs.length).map fun k=>xs.getD (g k) d)=((List.range xs.length).map g).map fun k=>xs.getD k d:=by rw[zF];rfl
 rw[e]
 have:=p.map fun k=>xs.getD k d
 rw[map_range] at this
 exact this
def r0:Row:=("",[])
theorem getD_map{rs:List Row}{j:Nat}(h:j<rs.length):(rs.map aN).getD j .aw=aN (rs.getD j r0):=by
 rw[zH,zH,zB,zj h];rfl
theorem mI{rs:List Row}{b:Bool}{f:D→D}{g:Nat→Nat}(h:OL b (fun j=>f ((rs.map aN).getD j .aw)) (rs.map aN).length g) :
  ∃eN:List Row,(List.range (rs.map aN).length).map (fun k=>(rs.map aN).getD (g k) .aw)=eN.map aN∧eN.Perm rs:=by
 have hn:(rs.map aN).length=rs.length:=zc _
 rw[hn] at h ⊢
 refine⟨(List.range rs.length).map fun k=>rs.getD (g k) r0,?_,EU r0 h.lt h.inj⟩
 rw[zF]
 exact zZ fun k hk=>getD_map (h.lt k (zW.mp hk))
def valued(cs:List (Str×Str))(p:Part)(r:Row):Bool:=!av (bV cs r.2 p.1)
theorem EV{cs:List (Str×Str)}{p:Part}{L V:List Row}(hV:V.Perm (L.filter (valued cs p))):(L.filter (fun r=>!valued cs p r)++V).Perm L:=(List.Perm.append_left _ hV).trans (List.perm_append_comm.trans (List.filter_append_perm (valued cs p) L))
abbrev qK:Str := "sorted_by_keys.<locals>.<lambda>"
abbrev qV:Str := "sorted_by_values.<locals>.<lambda>"
def Po:D→D
 |.tup (x::_)=>x
 |_=>.aw
def HR(cs:List (Str×Str))(z:Str):D→D
 |.tup [_,.tup ws]=>bV cs ws z
 |_=>.aw
def Pp(t:jf):eF:=fun ds S R _=>∃(cs:List (Str×Str)) (l:Addr) (rs:List Row) (wy:Str),ds=[.ref l,.str wy]∧dI wy=true∧S l=some (.lst (rs.map aN))∧rs.length<64∧Rg cs rs∧S t.aP=some (.tab qK) ∧
 ∀(eN:List Row) (p:Addr),eN.Perm rs→S p=none→R (.ref p) (S.set p (.lst (eN.map aN)))
theorem iC{S S2:aG}{p:Addr}{c:Ce}(h:Sub S S2):Sub (S.set p c) (S2.set p c):=fun b e hb=>by
 by_cases q:b=p
 ·subst q;rw[aa] at hb ⊢;exact hb
 ·rw[af q] at hb ⊢;exact h b e hb
theorem eK{S S2:aG}{p:Addr}(h:Sub S S2)(e:S2 p=none):S p=none:=by
 cases q:S p with
 |none=>rfl
 |some c=>rw[h p c q] at e;cases e
theorem v5{z:Str}(h:dI z=true):z = "up" ∨ z = "down" := by
 unfold dI at h
 simpa using h
theorem mJ(T:Txt w K mg t)(B:Bm mg base):Ok P w base T.fq 4 (Pp t):=by
 refine T.fq.F.okC (k:=3) mB (by rintro ds S R Z ⟨_,_,_,_,e,_⟩;rw[e];rfl) ?_
 rintro gq A outer s H E ds S R Z rY hr ⟨cs,l,rs,wy,e,CV,hl,hn,wq,ht,q⟩
 subst e
 have Ae:xn ((rs.map aN).map Po):=.inl ⟨rs.map Prod.fst,by rw[zF,zF];rfl⟩
 have E8:(rs.map aN).length<64:=by rw[zc];exact hn
 refine⟨_,(sc (si (bX bw hr.u (dv 1) ds) (s1 (sr (L8 (N:=["row"]) (src:=[none]) (rY.trans T.f_) ⟨T.dF,B⟩ hr (m_ (ae cg) ["rows","way"] rfl rfl (by trivial)) (dv 0) (fun _ _ _ _=>(ix (hr.in1.in1.deeper _).units (dv 0) di)) T.gU fb))) s0) (s1 (sr (Ts (N:=["row"]) (src:=[none]) (rY.trans T.f_) ⟨T.dF,B⟩ hr (m_ (ae cg) ["rows","way"] rfl rfl (by trivial)) (dv 0) (fun _ _ _ _=>(ix (hr.in1.in1.deeper _).units (dv 0) di)) T.gU fb)))),?_⟩
 rcases v5 CV with rfl|rfl
 ·refine⟨_,rfl,_,rfl,g9 (by trivial) ⟨_,rfl,l,rs.map aN,Po,rfl,hl,E8,ht,Ae,fun x hx S' hs Qk hQ=>?_,fun g S2 p hg hs hp=>?_⟩⟩
  ·obtain⟨r,hr,rfl⟩:=zf.mp hx
   exact⟨_,rfl,_,rfl,hQ S' (.refl _)⟩
  ·obtain⟨eN,e,pm⟩:=mI hg
   rw[e]
   exact⟨S.set p (.lst (eN.map aN)),iC hs,q eN p pm (eK hs hp)⟩
 ·refine⟨_,rfl,_,rfl,yR (by trivial) ⟨_,rfl,l,rs.map aN,Po,rfl,hl,E8,ht,Ae,fun x hx S' hs Qk hQ=>?_,fun g S2 p hg hs hp=>?_⟩⟩
  ·obtain⟨r,hr,rfl⟩:=zf.mp hx
   exact⟨_,rfl,_,rfl,hQ S' (.refl _)⟩
  ·obtain⟨eN,e,pm⟩:=mI hg
   rw[e]
   exact⟨S.set p (.lst (eN.map aN)),iC hs,q eN p pm (eK hs hp)⟩
def Pq(t:jf):eF:=fun ds S R _=>∃(cs:List (Str×Str)) (p:Part) (l:Addr) (rs:List Row),ds=[.tup (cs.map aC),p3 p,.ref l]∧Gd cs∧Pin cs [p]∧dI p.2.1=true∧S l=some (.lst (rs.map aN))∧rs.length<64∧Rg cs rs∧(∀r∈rs,valued cs p r=true)∧S t.aL=some (.tab qV) ∧
 ∀(eN:List Row) (a:Addr),eN.Perm rs→S a=none→R (.ref a) (S.set a (.lst (eN.map aN)))
theorem BK{α:Type}{f:α→D}{β:Type}{mk:β→D} : ∀{l:List α},(∀x∈l,∃b,f x=mk b)→∃bs:List β,l.map f=bs.map mk
 |[],_=>⟨[],rfl⟩
 |x::l,h=>by
  obtain⟨b,e⟩:=h x zx
  obtain⟨bs,e2⟩:=BK fun y hy=>h y (zp _ hy)
  exact⟨b::bs,by rw[zM,e,e2];rfl⟩
theorem EW{cs:List (Str×Str)}{p:Part}{k:Str}{rs:List Row}(hk:∀r∈rs,Vg k (bV cs r.2 p.1))(hv:∀r∈rs,valued cs p r=true):xn ((rs.map aN).map (HR cs p.1)):=by
 rw[zF]
 have nn:∀r∈rs,bV cs r.2 p.1≠.aw:=fun r hr=>jR (by have:=hv r hr;unfold valued at this;simpa using this)
 by_cases e:k = "number"
 ·refine .inr (BK fun r hr=>?_)
  have h1:=hk r hr
  have h2:=nn r hr
  show ∃b,bV cs r.2 p.1=.int b
  generalize bV cs r.2 p.1=v at h1 h2
  cases v with
  |aw=>exact absurd rfl h2
  |int i=>exact⟨i,rfl⟩
  |str z =>
   have h1:=h1.1
   unfold fE at h1
   simp only [av,yE] at h1
   rw[if_pos e] at h1;cases h1
  |_=>cases h1.2
 ·refine .inl (BK fun r hr=>?_)
  have h1:=hk r hr
  have h2:=nn r hr
  show ∃b,bV cs r.2 p.1=.str b
  generalize bV cs r.2 p.1=v at h1 h2
  cases v with
  |aw=>exact absurd rfl h2
  |str i=>exact⟨i,rfl⟩
  |int z =>
   have h1:=h1.1
   unfold fE at h1
   simp only [av,yE] at h1
   rw[if_neg e] at h1;cases h1
  |_=>cases h1.2
theorem kF(T:Txt w K mg t)(B:Bm mg base):Ok P w base T.dZ 6 (Pq t):=by
 refine T.dZ.F.okC (k:=5) kD (by rintro ds S R Z ⟨_,_,_,_,e,_⟩;rw[e];rfl) ?_
 rintro gq A outer s H E ds S R Z rY hr ⟨cs,p,l,rs,e,hg,HS,CV,hl,hn,wq,hv,ht,q⟩
 subst e
 obtain⟨c,hc,ec⟩:=HS p zx
 obtain⟨k,hk⟩:=K1 hg HS
 have Ae:xn ((rs.map aN).map (HR cs p.1)):=EW (fun r hr=>hk _ (wq.1 r hr)) hv
 have E8:(rs.map aN).length<64:=by rw[zc];exact hn
 have step:∀x,x∈rs.map aN→∀Qk:KD,∀S':aG,Qk (HR cs p.1 x) S'→∃T_ r' c',[D.tup (cs.map aC),x,.str p.1]=[.tup (T_.map aC),aN r',.str (Prod.fst (β:=Str) c')]∧Gd T_∧Wg T_ r'.2∧c'∈T_∧Qk (bV T_ r'.2 c'.1) S':=fun x hx Qk S' hQ=>by
  obtain⟨r,hr,rfl⟩:=zf.mp hx
  exact⟨cs,r,c,by rw[ec],hg,wq.1 r hr,hc,by rw[ec];exact hQ⟩
 refine⟨_,(sc (si (bX bw hr.u (ix hr.u (dv 1) di) ds) (s1 (sr (L8 (N:=["row","columns","part"]) (src:=[none,some 0,some 1]) (rY.trans T.eW) ⟨T.cS,B⟩ hr (m_ (ae bC) ["columns","part","rows"] rfl rfl (by trivial)) (dv 2) (fun _ _ _ _=>(cf ((eJ T).mono (by decide)) (hr.in1.in1.deeper _) T.cH.m T.cH.k T.cH.b d0 (ac (dv 1) (ac (dv 0) (ac (ix (hr.in1.in1.deeper _).units (dv 2) di) an))))) T.gU fb))) s0) (s1 (sr (Ts (N:=["row","columns","part"]) (src:=[none,some 0,some 1]) (rY.trans T.eW) ⟨T.cS,B⟩ hr (m_ (ae bC) ["columns","part","rows"] rfl rfl (by trivial)) (dv 2) (fun _ _ _ _=>(cf ((eJ T).mono (by decide)) (hr.in1.in1.deeper _) T.cH.m T.cH.k T.cH.b d0 (ac (dv 1) (ac (dv 0) (ac (ix (hr.in1.in1.deeper _).units (dv 2) di) an))))) T.gU fb)))),?_⟩
 rcases v5 CV with e1|e1
 ·refine⟨_,rfl,_,rfl,_,rfl,g9 (by rw[e1];decide +kernel) ⟨_,rfl,l,rs.map aN,HR cs p.1,rfl,hl,E8,ht,Ae,fun x hx S' hs Qk hQ=>⟨_,rfl,_,rfl,_,rfl,_,rfl,step x hx _ S' (hQ S' (.refl _))⟩,fun g S2 a hg hs ha=>?_⟩⟩
  obtain⟨eN,e,pm⟩:=mI hg
  rw[e]
  exact⟨S.set a (.lst (eN.map aN)),iC hs,q eN a pm (eK hs ha)⟩
 ·refine⟨_,rfl,_,rfl,_,rfl,yR (by rw[e1];decide +kernel) ⟨_,rfl,l,rs.map aN,HR cs p.1,rfl,hl,E8,ht,Ae,fun x hx S' hs Qk hQ=>⟨_,rfl,_,rfl,_,rfl,_,rfl,step x hx _ S' (hQ S' (.refl _))⟩,fun g S2 a X9 hs ha=>?_⟩⟩
  obtain⟨eN,e,pm⟩:=mI X9
  rw[e]
  exact⟨S.set a (.lst (eN.map aN)),iC hs,q eN a pm (eK hs ha)⟩
def Tb(t:jf)(S:aG):Prop:=S t.aP=some (.tab qK)∧S t.aL=some (.tab qV)
theorem Tb.sub{t:jf}{S S':aG}(h:Tb t S)(s:Sub S S'):Tb t S':=⟨s _ _ h.1,s _ _ h.2⟩
def CW(b:Bool)(cs:List (Str×Str))(p:Part):D→Bool
 |.tup [_,.tup ws]=>av (bV cs ws p.1) == b
 |_=>false
theorem ux{rs:List Row}{f:D→Bool}{g:Row→Bool}(h:∀r,f (aN r)=g r):((rs.map aN).filter f).map id=(rs.filter g).map aN:=by
 rw[List.map_id,List.filter_map]
 exact congrArg (List.map aN) (List.filter_congr fun r _=>h r)
def Pr(t:jf):eF:=fun ds S R _=>∃(cs:List (Str×Str)) (p:Part) (l:Addr) (rs:List Row),ds=[.tup (cs.map aC),p3 p,.ref l]∧Gd cs∧Pin cs [p]∧dI p.2.1=true∧S l=some (.lst (rs.map aN))∧rs.length<64∧Rg cs rs∧Tb t S ∧
 ∀(eN:List Row) (a:Addr),eN.Perm rs→S a=none→R (.ref a) (S.set a (.lst (eN.map aN)))
theorem mK(T:Txt w K mg t)(B:Bm mg base):Ok P w base T.ft 7 (Pr t):=by
 refine T.ft.F.dM cF ?_
 rintro _ _ _ _ _ _ ds S R Z hr ⟨cs,p,l,rs,e,hg,HS,CV,hl,hn,wq,ht,q⟩
 subst e
 obtain⟨c,hc,ec⟩:=HS p zx
 have hz:(rs.map aN).length≤1000:=by rw[zc];lia
 refine⟨_,(sc (Ow (i:=3) (N:=["row","columns","part"]) (src:=[none,some 0,some 1]) cF.nd (m_ (ae cj) ["columns","part","rows","without","valued"] rfl rfl (by trivial)) (il (dv 2)) (sU (show (["row","columns","part"]:List Str).Nodup by trivial)) (bf rfl) bh (fun _ _ _ _ _=>(if1 (bX wY hr.u (aZ T.cH (eJ T) hr (ac (dv 1) (ac (dv 0) (ac (ix hr.u (dv 2) di) an)))) dn))) (fun _ _ _ _ _=>(dv 0))) (sc (Ow (i:=4) (N:=["row","columns","part"]) (src:=[none,some 0,some 1]) cF.nd (m_ (ae cj) ["columns","part","rows","without","valued"] rfl rfl (by trivial)) (il (dv 2)) (sU (show (["row","columns","part"]:List Str).Nodup by trivial)) (bf rfl) bh (fun _ _ _ _ _=>(if1 (bX qG hr.u (aZ T.cH (eJ T) hr (ac (dv 1) (ac (dv 0) (ac (ix hr.u (dv 2) di) an)))) dn))) (fun _ _ _ _ _=>(dv 0))) (sc (cR (i:=4) cF.nd (aZ T.dZ (kF T B) hr (ac (dv 0) (ac (dv 1) (ac (dv 4) an))))) (s1 (sr (eif (bX bw hr.u (ix hr.u (dv 1) di) ds) (bo bT hr.u (dv 3) (dv 4)) (bo bT hr.u (dv 4) (dv 3)))))))),?_⟩
 refine⟨_,rfl,_,hl,?_⟩
 refine j8 (CW true cs p) id hl hz (fun d hd Q Q' hQ KG=>?_) fun p1 sE=>?_
 ·obtain⟨r,hr,rfl⟩:=zf.mp hd
  refine⟨_,rfl,_,rfl,_,rfl,_,rfl,cs,r,c,(show [D.tup (cs.map aC),aN r,D.str p.1]=[_,_,D.str c.1] by rw[ec]),hg,wq.1 r hr,hc,?_⟩
  rw[ec]
  refine⟨_,rfl,bJ (fun h=>⟨_,rfl,hQ ?_⟩) (fun h=>KG ?_)⟩
  ·show (av (bV cs r.2 p.1) == true)=true
   rw[show av (bV cs r.2 p.1)=true from h];rfl
  ·show (av (bV cs r.2 p.1) == true)=false
   rw[show av (bV cs r.2 p.1)=false from h];rfl
 have e1:((rs.map aN).filter (CW true cs p)).map id=(rs.filter fun r=>!valued cs p r).map aN:=ux fun r=>by
  show (av (bV cs r.2 p.1) == true)=!valued cs p r
  unfold valued;cases av (bV cs r.2 p.1) <;> rfl
 rw[show (⟨rs.map aN,fun S=>uU S (.ref l) (rs.map aN)⟩:Gu).xs=rs.map aN from rfl,e1]
 have IB:Sub S (S.set p1 (.lst ((rs.filter fun r=>!valued cs p r).map aN))):=.new sE
 have h1:(S.set p1 (.lst ((rs.filter fun r=>!valued cs p r).map aN))) p1=some (.lst ((rs.filter fun r=>!valued cs p r).map aN)):=aa
 generalize S.set p1 (.lst ((rs.filter fun r=>!valued cs p r).map aN))=S1 at IB h1 ⊢
 have CO:=IB _ _ hl
 refine⟨_,rfl,_,CO,?_⟩
 refine j8 (CW false cs p) id CO hz (fun d hd Q Q' hQ KG=>?_) fun p2 fT=>?_
 ·obtain⟨r,hr,rfl⟩:=zf.mp hd
  refine⟨_,rfl,_,rfl,_,rfl,_,rfl,cs,r,c,(show [D.tup (cs.map aC),aN r,D.str p.1]=[_,_,D.str c.1] by rw[ec]),hg,wq.1 r hr,hc,?_⟩
  rw[ec]
  refine⟨_,rfl,bJ (fun h=>⟨_,rfl,hQ ?_⟩) (fun h=>KG ?_)⟩
  ·show (av (bV cs r.2 p.1) == false)=true
   rw[show av (bV cs r.2 p.1)=false from nt h];rfl
  ·show (av (bV cs r.2 p.1) == false)=false
   rw[show av (bV cs r.2 p.1)=true from nf h];rfl
 have e2:((rs.map aN).filter (CW false cs p)).map id=(rs.filter (valued cs p)).map aN:=ux fun r=>by
  show (av (bV cs r.2 p.1) == false)=valued cs p r
  unfold valued;cases av (bV cs r.2 p.1) <;> rfl
 rw[show (⟨rs.map aN,fun S=>uU S (.ref l) (rs.map aN)⟩:Gu).xs=rs.map aN from rfl,e2]
 have Cg:Sub S (S1.set p2 (.lst ((rs.filter (valued cs p)).map aN))):=IB.trans (.new fT)
 have Ht:(S1.set p2 (.lst ((rs.filter (valued cs p)).map aN))) p1=_:=(af (iK h1 fT)).trans h1
 have h22:(S1.set p2 (.lst ((rs.filter (valued cs p)).map aN))) p2=_:=aa
 generalize S1.set p2 (.lst ((rs.filter (valued cs p)).map aN))=S2 at Cg Ht h22 ⊢
 have fl:(rs.filter (valued cs p)).length≤rs.length:=List.length_filter_le _ _
 have fl2:(rs.filter fun r=>!valued cs p r).length≤rs.length:=List.length_filter_le _ _
 refine⟨_,rfl,_,rfl,_,rfl,cs,p,p2,rs.filter (valued cs p),rfl,hg,HS,CV,h22,by lia,wq.sub List.filter_sublist,fun r hr=>(List.mem_filter.mp hr).2,(ht.sub Cg).2,fun V p3 hV KH=>?_⟩
 have pm:=EV hV
 have VH:(S2.set p3 (.lst (V.map aN))) p1=_:=(af (iK Ht KH)).trans Ht
 have Ze:(S2.set p3 (.lst (V.map aN))) p3=some (.lst (V.map aN)):=aa
 have IC:Sub S (S2.set p3 (.lst (V.map aN))):=Cg.trans (.new KH)
 generalize S2.set p3 (.lst (V.map aN))=S3 at VH Ze IC ⊢
 have hVl:=hV.length_eq
 refine⟨_,rfl,_,rfl,_,rfl,bJ (fun h=>?_) (fun h=>?_)⟩
 ·refine⟨_,rfl,_,rfl,_,_,VH,Ze,sm (by rw[zc,zc];lia),fun p4 HU=>?_⟩
  rw[← zN]
  exact⟨_,iC IC,q _ p4 pm (eK IC HU)⟩
 ·refine⟨_,rfl,_,rfl,_,_,Ze,VH,sm (by rw[zc,zc];lia),fun p4 HU=>?_⟩
  rw[← zN]
  exact⟨_,iC IC,q _ p4 (List.perm_append_comm.trans pm) (eK IC HU)⟩
structure Og(cs:List (Str×Str))(ps:List Part)(wy:Str):Prop where
 pin:Pin cs ps
 Zg:∀p∈ps,dI p.2.1=true
 way:dI wy=true
 ok:HB cs ps wy=true
 tx:∀p∈ps,Pok p
def v7(ps:List Part)(wy:Str):D:=.tup [.tup (ps.map p3),.str wy]
def Ua(t:jf):eF:=fun ds S R _=>∃(cs:List (Str×Str)) (ps:List Part) (wy:Str) (l:Addr) (rs:List Row),ds=[.tup (cs.map aC),v7 ps wy,.ref l]∧Gd cs∧Og cs ps wy∧S l=some (.lst (rs.map aN))∧rs.length<64∧Rg cs rs∧Tb t S ∧
 ∀(eN:List Row) (a:Addr),eN.Perm rs→S a=none→R (.ref a) (S.set a (.lst (eN.map aN)))
structure Vw(C:Addr)(S:aG)(a:Addr)(cs:List (Str×Str))(m:D)(rows:List Row):Prop where
 sh:∃F dl rs,bA C S a F cs dl rs∧rs.length<64∧lx dl.length m≠none∧∀i ss,lx dl.length m=some i→ss.Perm (rs.map (·.1))→PyProof.Rows.sortedS ss=true→lC rs i ss=rows.map aN
 mo:Gt S m
 len:rows.length<64
 rg:Rg cs rows
theorem bA.sub(b:Sub S S')(h:bA C S a F cs dl rs):bA C S' a F cs dl rs:=by
 obtain⟨ld,lr,ra,h,e⟩:=h
 exact⟨ld,lr,ra,⟨b _ _ h.ins,b _ _ h.x_,b _ _ h.run,fun r hr=>b _ _ (h.cell r hr),h.kn,h.an,h.sz⟩,e⟩
theorem yT(T:Txt w K mg t)(B:Bm mg base):Ok P w base T.rp 8 (Ua t):=by
 refine T.rp.F.dM gb ?_
 rintro _ _ _ _ _ _ ds S R Z hr ⟨cs,ps,wy,l,rs,e,hg,ho,hl,hn,wq,ht,q⟩
 subst e
 refine⟨_,(sc (cR (i:=3) gb.nd (aZ T.fq (mJ T B) hr (ac (dv 2) (ac (ix hr.u (dv 1) di) an)))) (sc (Ea (J2 (irt T.rB (ac (ix hr.u (dv 1) di) an)) (gn (i:=4) gb.nd) (s1 (cR (i:=3) gb.nd (aZ T.ft (mK T B) hr (ac (dv 0) (ac (dv 4) (ac (dv 3) an)))))))) (s1 (sr (dv 3))))),?_⟩
 refine⟨_,rfl,_,rfl,_,rfl,cs,l,rs,wy,rfl,ho.way,hl,hn,wq,ht.1,fun rs1 p1 pm1 sE=>?_⟩
 refine⟨fun aD S'=>∃(o:Option D) (p:Addr) (eN:List Row),aD=[some (.tup (cs.map aC)),some (v7 ps wy),some (.ref l),some (.ref p),o]∧S p=none∧S' p=some (.lst (eN.map aN))∧Sub S S'∧eN.Perm rs,?_,?_⟩
 ·refine⟨_,rfl,_,rfl,_,rfl,?_⟩
  refine⟨fun i aD S'=>∃(o:Option D) (p:Addr) (eN:List Row),aD=[some (.tup (cs.map aC)),some (v7 ps wy),some (.ref l),some (.ref p),o]∧S p=none∧S' p=some (.lst (eN.map aN))∧Sub S S'∧eN.Perm rs,⟨none,p1,rs1,rfl,sE,aa,.new sE,pm1⟩,fun _ _ _ _=>trivial,?_,?_⟩
  ·rintro i d aD S' hd ⟨o,p,eN,rfl,hp,eT,sb,pm⟩
   have hd:(ps.map p3).reverse[i]?=some d:=hd
   obtain⟨pt,N7,rfl⟩:=zf.mp (List.mem_reverse.mp (zK hd))
   refine⟨_,rfl,_,rfl,_,rfl,cs,pt,p,eN,rfl,hg,fun x hx=>by rw[zi.mp hx];exact ho.pin _ N7,ho.Zg pt N7,eT,by rw[pm.length_eq];exact hn,wq.perm pm,ht.sub sb,fun Yk p2 pm2 fT=>?_⟩
   exact⟨_,p2,Yk,rfl,eK sb fT,aa,sb.trans (.new fT),pm2.trans pm⟩
  ·rintro aD S' ⟨o,p,eN,rfl,hp,eT,sb,pm⟩
   exact fo ⟨o,p,eN,rfl,hp,eT,sb,pm⟩
 ·rintro aD S' ⟨o,p,eN,rfl,hp,eT,sb,pm⟩
  refine⟨_,rfl,S.set p (.lst (eN.map aN)),fun b c hb=>?_,q eN p pm hp⟩
  by_cases e:b=p
  ·subst e;rw[aa] at hb;cases hb;exact eT
  ·rw[af e] at hb;exact sb b c hb
def Bw(C:Addr)(S:aG)(a:Addr)(cs:List (Str×Str))(m:D):Prop:=∃F dl rs,bA C S a F cs dl rs∧rs.length<64∧lx dl.length m=none∧Gt S m
def Pt(t:jf):eF:=fun ds S R Z=>∃a cs d m,ds=[.ref a,d,m]∧Gd cs∧Sg cs 3 d∧((∃rows,Vw t.ag S a cs m rows∧∀(rR:List Row) (p:Addr),rR.Sublist rows→S p=none→R (.ref p) (S.set p (.lst (rR.map aN))))∨(Bw t.ag S a cs m∧Z t.aE S))
theorem iR(T:Txt w K mg t):Ok P w base T.eZ 7 (Pt t):=by
 refine T.eZ.F.dM eR ?_
 rintro _ _ _ _ _ _ ds S R Z hr ⟨a,cs,d,m,e,hg,hd,⟨rows,hv,q⟩|⟨⟨F,dl,rs,hS,hn,Zh,OE⟩,z⟩⟩
 ·subst e
  obtain⟨F,dl,rs,hS,hn,Zh,hrw⟩:=hv.sh
  obtain⟨ld,lr,ra,h,_⟩:=id hS
  refine⟨_,(sc (cR (i:=3) eR.nd (l8 (dv 0) T.ai T.au.e ((cn T).mono (by decide)) hr T.au.b d0)) (s1 (sr (Ac (N:=["row","columns","sieve"]) (src:=[none,some 3,some 1]) (m_ (ae cG) ["shelf","sieve","moment","columns"] rfl rfl (by trivial)) (il (sT (dv 0) T.ai T.bP.e ((kf T).mono (by decide)) hr T.bP.b d0 (ac (dv 2) an))) (sU (show (["row","columns","sieve"]:List Str).Nodup by trivial)) (bf rfl) bh (fun _ _ _ _ _=>(if1 (tv (aZ T.passes (g7 T 3) hr (ac (dv 1) (ac (dv 2) (ac (dv 0) an))))))) (fun _ _ _ _ _=>(dv 0)))))),?_⟩
  refine⟨_,rfl,a,_,rfl,h.ins,rfl,a,F,cs,dl,rs,rfl,hS,?_⟩
  refine⟨_,rfl,a,_,rfl,h.ins,rfl,_,rfl,a,F,cs,dl,rs,m,rfl,hS,hn,hv.mo,fun i ss hi hp hs p rJ=>?_,fun h=>absurd h Zh⟩
  rw[hrw i ss hi hp hs]
  refine⟨_,aa,?_⟩
  refine HN aa (by show (rows.map aN).length≤1000;rw[zc];have:=hv.len;lia) (fun x hx Q Q' hQ KG=>?_) fun out ho p2 fT=>?_
  ·obtain⟨r,hr,rfl⟩:=zf.mp hx
   exact⟨_,rfl,_,rfl,_,rfl,cs,d,r,rfl,hg,hd,hv.rg.1 r hr,fun b=>⟨_,rfl,bJ (fun h=>⟨_,rfl,hQ⟩) (fun h=>KG)⟩⟩
  ·obtain⟨rR,wq,rfl⟩:=List.sublist_map_iff.mp (show out.Sublist (rows.map aN) from ho)
   exact⟨_,iC (.new rJ),q rR p2 wq (eK (.new rJ) fT)⟩
 ·subst e
  obtain⟨ld,lr,ra,h,_⟩:=id hS
  refine⟨_,(sc (cR (i:=3) eR.nd (l8 (dv 0) T.ai T.au.e ((cn T).mono (by decide)) hr T.au.b d0)) (s1 (sr (Ac (N:=["row","columns","sieve"]) (src:=[none,some 3,some 1]) (m_ (ae cG) ["shelf","sieve","moment","columns"] rfl rfl (by trivial)) (il (sT (dv 0) T.ai T.bP.e ((kf T).mono (by decide)) hr T.bP.b d0 (ac (dv 2) an))) (sU (show (["row","columns","sieve"]:List Str).Nodup by trivial)) (bf rfl) bh (fun _ _ _ _ _=>(if1 (tv (aZ T.passes (g7 T 3) hr (ac (dv 1) (ac (dv 2) (ac (dv 0) an))))))) (fun _ _ _ _ _=>(dv 0)))))),?_⟩
  refine⟨_,rfl,a,_,rfl,h.ins,rfl,a,F,cs,dl,rs,rfl,hS,?_⟩
  exact⟨_,rfl,a,_,rfl,h.ins,rfl,_,rfl,a,F,cs,dl,rs,m,rfl,hS,hn,OE,fun i ss hi=>(by rw[Zh] at hi;cases hi),fun _=>fo z⟩
def Told(t:jf)(S:aG)(a:Addr)(cs:List (Str×Str))(m:D)(R:KD)(Z:KX):Prop:=(∃rows,Vw t.ag S a cs m rows∧Tb t S∧∀v S',Sub S S'→R v S')∨(Bw t.ag S a cs m∧Z t.aE S)
def Zi(t:jf):eF:=fun ds S R Z=>∃a cs ps wy d m,ds=[.ref a,v7 ps wy,d,m]∧Gd cs∧Og cs ps wy∧Sg cs 3 d∧Told t S a cs m R Z
theorem Told.at(h:Told t S a cs m R Z):∃F dl rs,bA t.ag S a F cs dl rs:=by
 rcases h with ⟨rows,hv,_⟩|⟨⟨F,dl,rs,h,_⟩,_⟩
 ·obtain⟨F,dl,rs,h,_⟩:=hv.sh;exact⟨F,dl,rs,h⟩
 ·exact⟨F,dl,rs,h⟩
theorem mL(T:Txt w K mg t)(B:Bm mg base):Ok P w base T.fm 9 (Zi t):=by
 refine T.fm.F.dM mz ?_
 rintro _ _ _ _ _ _ ds S R Z hr ⟨a,cs,ps,wy,d,m,e,hg,ho,hd,ht⟩
 subst e
 obtain⟨F,dl,rs,hS⟩:=ht.at
 obtain⟨ld,lr,ra,h,_⟩:=id hS
 refine⟨_,(s1 (sr (aZ T.rp (yT T B) hr (ac (l8 (dv 0) T.ai T.au.e ((cn T).mono (by decide)) hr T.au.b d0) (ac (dv 1) (ac (aZ T.eZ (iR T) hr (ac (dv 0) (ac (dv 2) (ac (dv 3) an)))) an)))))),?_⟩
 refine⟨_,rfl,a,_,rfl,h.ins,rfl,a,F,cs,dl,rs,rfl,hS,?_⟩
 rcases ht with ⟨rows,hv,ht,q⟩|⟨hb,z⟩
 ·refine⟨_,rfl,_,rfl,_,rfl,_,rfl,a,cs,d,m,rfl,hg,hd,.inl ⟨rows,hv,fun rR p hrr hp=>?_⟩⟩
  refine⟨cs,ps,wy,p,rR,rfl,hg,ho,aa,Nat.lt_of_le_of_lt hrr.length_le hv.len,hv.rg.sub hrr,ht.sub (.new hp),fun eN p2 pm fT=>?_⟩
  exact fo (q _ _ ((Sub.new hp).trans (.new fT)))
 ·exact⟨_,rfl,_,rfl,_,rfl,_,rfl,a,cs,d,m,rfl,hg,hd,.inr ⟨hb,fo z⟩⟩
def Ub(t:jf):eF:=fun ds S R Z=>∃a cs o d m F dl rs,ds=[.ref a,o,d,m]∧Gd cs∧bA t.ag S a F cs dl rs∧QA S o∧QA S d∧(fP cs o=false→Z t.aJ S)∧(fP cs o=true→lF cs 8 0 [d]=false→Z t.aK S) ∧
 (fP cs o=true→lF cs 8 0 [d]=true→(∃ps wy,o=v7 ps wy∧Og cs ps wy)∧Sg cs 3 d∧Told t S a cs m R Z)
theorem HV(T:Txt w K mg t)(B:Bm mg base):Ok P w base T.plain 10 (Ub t):=by
 refine T.plain.F.dM Hg ?_
 rintro _ _ _ _ _ _ ds S R Z hr ⟨a,cs,o,d,m,F,dl,rs,e,hg,hS,hqo,Uc,q1,q2,q3⟩
 subst e
 obtain⟨ld,lr,ra,h,_⟩:=id hS
 refine⟨_,(sc (se (aZ T.jr (rM T) hr (ac (l8 (dv 0) T.ai T.au.e ((cn T).mono (by decide)) hr T.au.b d0) (ac (dv 1) an)))) (sc (se (aZ T.fZ (jQ T) hr (ac (l8 (dv 0) T.ai T.au.e ((cn T).mono (by decide)) hr T.au.b d0) (ac (dv 2) an)))) (s1 (sr (aZ T.fm (mL T B) hr (ac (dv 0) (ac (dv 1) (ac (dv 2) (ac (dv 3) an))))))))),?_⟩
 refine⟨_,rfl,a,_,rfl,h.ins,rfl,a,F,cs,dl,rs,rfl,hS,_,rfl,cs,o,rfl,hg,hqo 3,fun h1=>?_,fun h1=>fo (q1 h1)⟩
 refine⟨_,rfl,a,_,rfl,h.ins,rfl,a,F,cs,dl,rs,rfl,hS,_,rfl,cs,d,rfl,hg,Uc,fun h2=>?_,fun h2=>fo (q2 h1 h2)⟩
 obtain⟨⟨ps,wy,rfl,ho⟩,hd,ht⟩:=q3 h1 h2
 refine⟨_,rfl,_,rfl,_,rfl,_,rfl,a,cs,ps,wy,d,m,rfl,hg,ho,hd,?_⟩
 rcases ht with ⟨rows,hv,Zj,q⟩|⟨hb,z⟩
 ·exact .inl ⟨rows,hv,Zj,fun v S' sb=>fo (q v S' sb)⟩
 ·exact .inr ⟨hb,fo z⟩
def Ud(t:jf):eF:=fun ds S R Z=>∃a cs d m F dl rs,ds=[.ref a,d,m]∧Gd cs∧bA t.ag S a F cs dl rs∧QA S d∧(lF cs 8 0 [d]=false→Z t.aK S)∧(lF cs 8 0 [d]=true→Sg cs 3 d∧Told t S a cs m R Z)
theorem yU(T:Txt w K mg t):Ok P w base T.mn 8 (Ud t):=by
 refine T.mn.F.dM x5 ?_
 rintro _ _ _ _ _ _ ds S R Z hr ⟨a,cs,d,m,F,dl,rs,e,hg,hS,Uc,q1,q2⟩
 subst e
 obtain⟨ld,lr,ra,h,_⟩:=id hS
 refine⟨_,(sc (se (aZ T.fZ (jQ T) hr (ac (l8 (dv 0) T.ai T.au.e ((cn T).mono (by decide)) hr T.au.b d0) (ac (dv 1) an)))) (s1 (sr (cb bU T.bK aX (ac (aZ T.eZ (iR T) hr (ac (dv 0) (ac (dv 1) (ac (dv 2) an)))) an))))),?_⟩
 refine⟨_,rfl,a,_,rfl,h.ins,rfl,a,F,cs,dl,rs,rfl,hS,_,rfl,cs,d,rfl,hg,Uc,fun h2=>?_,fun h2=>fo (q1 h2)⟩
 obtain⟨hd,ht⟩:=q2 h2
 rcases ht with ⟨rows,hv,_,q⟩|⟨hb,z⟩
 ·exact⟨_,rfl,_,rfl,_,rfl,a,cs,d,m,rfl,hg,hd,.inl ⟨rows,hv,fun rR p _ hp=>⟨_,rfl,.inl ⟨_,aa,S,.new hp,q _ _ (.refl _)⟩⟩⟩⟩
 ·exact⟨_,rfl,_,rfl,_,rfl,a,cs,d,m,rfl,hg,hd,.inr ⟨hb,fo z⟩⟩
theorem Pu(h:S p=some (.lst L)):Gt S (.ref p):=⟨⟨.lst,.inl ⟨rfl,L,h⟩⟩,fun _=>nofun⟩
theorem Pw:Gt S (.tup ws):=⟨⟨.tup,rfl⟩,fun _=>nofun⟩
theorem K2(h:ws.length≤1000)(g:∀v∈ws,Gt S v):Md S (.tup ws):=⟨Pw,fun Pd e=>by cases e;exact⟨h,g⟩⟩
theorem gt_int:Gt S (.int i):=⟨⟨.int,rfl⟩,fun _=>nofun⟩
theorem Mq:Gt S (.bl i):=⟨⟨.bl,rfl⟩,fun _=>nofun⟩
theorem pS(h:z.cps.size≤1000):Gt S (.str z):=⟨⟨.str,rfl⟩,fun z' e=>by cases e;exact h⟩
theorem HW(h:lE d=true):Gt S d:=by
 cases d with
 |aw=>exact lB
 |int i=>exact gt_int
 |str z =>
  have h:(decide (z.cps.size≤40) && PyData.strOk z)=true:=h
  rw[zP] at h
  have:=zu h.1
  exact pS (by lia)
 |_=>cases h
theorem rS:∀{cs:List (Str×Str)}{ws:List D},Paired rel cs ws→ws.length=cs.length
 |_,_,.nil=>rfl
 |_,_,.cons _ t=>by rw[zE,zE,rS t]
theorem Wg.len(h:Wg cs ws):ws.length=cs.length:=rS h
theorem Wg.Px(h:Wg cs ws):mD cs (.tup ws)=true:=by
 show (decide (ws.length=cs.length) && (List.zipWith (fun c v=>fE c.2 v) cs ws).all id)=true
 rw[zD h.len,zO]
 unfold Wg at h
 induction h with
 |nil=>rfl
 |cons r t ih =>
  rw[List.zipWith_cons_cons,List.all_cons,ih]
  show (id (fE _ _) && true)=true
  rw[show id (fE _ _)=true from r.1];rfl
theorem Wg.gts(h:Wg cs ws)(hc:cs.length≤8):Md S (.tup ws):=K2 (by rw[h.len];lia) fun v hv=>HW (h.all v hv)
theorem v8(hg:Gd cs)(hN:∀c∈cs,c.1∈sD):∀d∈cs.map aC,Ly S 60 d:=fun d hd=>by
 obtain⟨c,hc,rfl⟩:=zf.mp hd
 refine (Ly.tup (n:=0) fun x hx=>?_).le (by decide)
 have hx:x∈[D.str c.1,D.str c.2]:=hx
 simp only [ze,zm,or_false] at hx
 rcases hx with rfl|rfl
 ·exact Ly.str (Hq _ (hN c hc)).2
 ·rcases (hg.2.2 c hc).2 with e|e <;> rw[e] <;> exact Ly.str (by trivial)
theorem K3{n a b tn:Nat}(ha:a<n)(hb:b<n)(h:(a+tn) % n=(b+tn) % n):a=b:=by
 rcases Nat.lt_trichotomy a b with l|l|l
 ·have:=Nat.sub_mod_eq_zero_of_mod_eq h.symm
  rw[show b+tn - (a+tn)=b - a by lia,Nat.mod_eq_of_lt (by lia)] at this
  lia
 ·exact l
 ·have:=Nat.sub_mod_eq_zero_of_mod_eq h
  rw[show a+tn - (b+tn)=a - b by lia,Nat.mod_eq_of_lt (by lia)] at this
  lia
def rT(cs:List (Str×Str))(tn k:Nat):Str:=(cs.getD ((k+tn) % cs.length) ("","")).1
theorem yV(h:0<cs.length):∃c∈cs,cs[(k+tn) % cs.length]?=some c∧c.1=rT cs tn k:=by
 have jW:(k+tn) % cs.length<cs.length:=Nat.mod_lt _ h
 refine⟨cs[(k+tn) % cs.length],List.getElem_mem jW,zj jW,?_⟩
 unfold rT
 rw[zH,zj jW];rfl
theorem yW{cs:List (Str×Str)}(hg:(cs.map Prod.fst).Nodup){tn i:Nat}(hi:i≤cs.length):((List.range i).map (rT cs tn)).Nodup:=by
 refine List.pairwise_map.mpr (List.nodup_range.imp_of_mem fun {a b} ha hb n e=>n ?_)
 have ha:=zW.mp ha
 have hb:=zW.mp hb
 have h0:0<cs.length:=by lia
 have la:(a+tn) % cs.length<cs.length:=Nat.mod_lt _ h0
 have lb:(b+tn) % cs.length<cs.length:=Nat.mod_lt _ h0
 unfold rT at e
 rw[zH,zj la,zH,zj lb] at e
 have e:(cs[(a+tn) % cs.length]).1=(cs[(b+tn) % cs.length]).1:=e
 have e2:(cs.map Prod.fst)[(a+tn) % cs.length]'(by rw[zc];exact la)=(cs.map Prod.fst)[(b+tn) % cs.length]'(by rw[zc];exact lb):=by
  rw[List.getElem_map,List.getElem_map];exact e
 exact K3 (n:=cs.length) (by lia) (by lia) ((List.getElem_inj hg).mp e2)
theorem yX(T:Txt w K mg t):Ok P w base T.pP 2 (fun ds S R _=>∃l cs,ds=[.ref l,.tup (cs.map aC)]∧Gd cs∧S l=some .well∧∀(ps:List Part) (wy:Str),Og cs ps wy→R (v7 ps wy) S):=by
 refine T.pP.F.dM fA ?_
 rintro _ _ _ _ _ _ ds S R Z hr ⟨l,cs,e,hg,hw,q⟩
 subst e
 have h8:=hg.1
 have Cf:(cs.map aC).length=cs.length:=zc _
 refine⟨_,(sc (cR (i:=2) fA.nd (aZ T.aM (bq T) hr (ac (dv 0) (ac di an)))) (sc (cR (i:=3) fA.nd (a_ an)) (sc (Ea (J2 (Ou T.iu (ac (cb Su T.TK Ob (ac (cb bU T.bK aX (ac (dv 1) an)) (ac (qJ (ix hr.u (a_ (ac di (ac di (ac di (ac di an))))) (aZ T.aM (bq T) hr (ac (dv 0) (ac di an))))) an))) an)) (gn (i:=4) fA.nd) (sc (cR (i:=5) fA.nd (ix hr.u (ix hr.u (dv 1) (bo l3 hr.u (bo bT hr.u (dv 4) (dv 2)) (cb bU T.bK aX (ac (dv 1) an)))) di)) (s1 (se (bm zQ yc yd eE (dv 3) (ac (ay (ac (dv 5) (ac (qJ (ix hr.u (a_ (ac ds (ac ds an))) (aZ T.aM (bq T) hr (ac (dv 0) (ac di an))))) (ac (qJ (ix hr.u (a_ (ac ds (ac ds an))) (aZ T.aM (bq T) hr (ac (dv 0) (ac di an))))) an)))) an))))))) (s1 (sr (ay (ac (ct l7 T.cE bN (ac (dv 3) an)) (ac (qJ (ix hr.u (a_ (ac ds (ac ds an))) (aZ T.aM (bq T) hr (ac (dv 0) (ac di an))))) an)))))))),?_⟩
 refine⟨_,rfl,l,_,rfl,(by decide),(by decide),hw,fun tr ht0 ht1=>⟨vN,fun lp Zk=>?_⟩⟩
 obtain⟨tn,rfl⟩:∃n:Nat,tr=(n:Int):=⟨tr.toNat,by lia⟩
 have hlw:l≠lp:=iK hw Zk
 refine⟨fun aD S'=>∃(o4 o5:Option D) (ps:List Part) (i:Nat),aD=[some (.ref l),some (.tup (cs.map aC)),some (.int tn),some (.ref lp),o4,o5]∧i≤cs.length∧ps.map Prod.fst=(List.range i).map (rT cs tn)∧(∀p∈ps,dI p.2.1=true∧pB p.2.2=true)∧S'=S.set lp (.lst (ps.map p3)),?_,?_⟩
 ·refine⟨_,rfl,_,rfl,EK,fun p hp=>⟨_,rfl,l,_,rfl,(by decide),(by decide),wl (wl hw Zk) hp,fun n4 YR YS=>bY YR YS hp fun d hd=>?_⟩⟩
  obtain⟨m,rfl⟩:∃m:Nat,d=.int m:=by
   have hd:d∈[D.int 1,.int 2,.int 0,.int 8]:=hd
   simp only [ze,zm,or_false] at hd
   rcases hd with h|h|h|h
   ·exact⟨1,h⟩
   ·exact⟨2,h⟩
   ·exact⟨0,h⟩
   ·exact⟨8,h⟩
  obtain⟨k,hk,ek⟩:∃k:Nat,k≤cs.length∧(if decide ((m:Int)<(((cs.map aC).length:Nat):Int))=true then (m:Int) else (((cs.map aC).length:Nat):Int))=(k:Int):=by
   rw[Cf]
   by_cases h:(m:Int)<((cs.length:Nat):Int)
   ·exact⟨m,by lia,by rw[zD h,if_pos rfl]⟩
   ·exact⟨cs.length,zo _,by rw[zw h,if_neg zd]⟩
  refine⟨_,_,rfl,k,congrArg (fun i=>[D.int i]) ek,by lia,by lia,?_⟩
  refine⟨fun i aD S'=>∃(o4 o5:Option D) (ps:List Part),aD=[some (.ref l),some (.tup (cs.map aC)),some (.int tn),some (.ref lp),o4,o5]∧ps.map Prod.fst=(List.range i).map (rT cs tn)∧(∀p∈ps,dI p.2.1=true∧pB p.2.2=true)∧S'=S.set lp (.lst (ps.map p3)),⟨none,none,[],rfl,rfl,fun _ h=>(nomatch h),rfl⟩,fun _ _ _ _=>trivial,?_,?_⟩
  ·rintro i d aD S' hd ⟨o4,o5,ps,rfl,hn,dU,rfl⟩
   obtain⟨hi,rfl⟩:=qI hd
   have hi:i<k:=by simpa using hi
   have h0:0<cs.length:=by lia
   have eT:ps.length=i:=by have:=congrArg List.length hn;simpa using this
   obtain⟨c,hc,ec,ec1⟩:=yV (cs:=cs) (tn:=tn) (k:=i) h0
   have r_:(S.set lp (.lst (ps.map p3))) l=some .well:=(af hlw).trans hw
   have sH:(S.set lp (.lst (ps.map p3))) lp=some (.lst (ps.map p3)):=aa
   have eat:m6 (cs.map aC) (((0:Int)+(i:Nat)+(tn:Nat)) % (((cs.map aC).length:Nat):Int))=some (aC c):=by
    rw[Cf,show ((0:Int)+(i:Nat)+(tn:Nat)) % ((cs.length:Nat):Int)=(((i+tn) % cs.length:Nat):Int) by rw[Int.zero_add,Int.natCast_emod,Int.natCast_add]]
    refine hU ?_
    rw[zB,ec];rfl
   refine⟨_,rfl,_,rfl,_,rfl,_,rfl,_,rfl,(by rw[Cf];lia),_,eat,_,rfl,?_⟩
   refine⟨_,rfl,⟨rfl,_,sH⟩,_,rfl,fQ,fun p hp=>⟨_,rfl,l,_,rfl,(by decide),(by decide),wl r_ hp,fun n2 Pa Ht=>bY Pa Ht hp fun d hd=>?_⟩⟩
   obtain⟨wy,rfl,CV⟩:∃wy:Str,d=.str wy∧dI wy=true:=by
    have hd:d∈[D.str "up",.str "down"]:=hd
    simp only [ze,zm,or_false] at hd
    rcases hd with h|h
    ·exact⟨_,h,by trivial⟩
    ·exact⟨_,h,by trivial⟩
   refine⟨fQ,fun p hp=>⟨_,rfl,l,_,rfl,(by decide),(by decide),wl r_ hp,fun n2 Pa Ht=>bY Pa Ht hp fun d hd=>?_⟩⟩
   obtain⟨en,rfl,hen⟩:∃en:Str,d=.str en∧pB en=true:=by
    have hd:d∈[D.str "first",.str "last"]:=hd
    simp only [ze,zm,or_false] at hd
    rcases hd with h|h
    ·exact⟨_,h,by trivial⟩
    ·exact⟨_,h,by trivial⟩
   refine⟨fR,lp,_,_,rfl,rfl,sH,bg (by rw[zc];lia),?_⟩
   refine⟨_,_,ps++[(c.1,wy,en)],rfl,?_,fun x hx=>?_,?_⟩
   ·rw[zN,hn,List.range_succ,zN]
    show _=_++[rT cs tn i]
    rw[← ec1];rfl
   ·rcases zC.mp hx with h|h
    ·exact dU x h
    ·rw[zi.mp h];exact⟨CV,hen⟩
   ·rw[dr,zN];rfl
  ·rintro aD S' ⟨o4,o5,ps,rfl,hn,dU,rfl⟩
   rw[cU] at hn
   exact fo ⟨o4,o5,ps,k,rfl,hk,by simpa using hn,dU,rfl⟩
 ·rintro aD S' ⟨o4,o5,ps,i,rfl,hi,hn,hk,rfl⟩
  have r_:(S.set lp (.lst (ps.map p3))) l=some .well:=(af hlw).trans hw
  have sH:(S.set lp (.lst (ps.map p3))) lp=some (.lst (ps.map p3)):=aa
  refine⟨_,rfl,_,_,rfl,.inl sH,fQ,fun p hp=>⟨_,rfl,l,_,rfl,(by decide),(by decide),wl r_ hp,fun n2 Pa Ht=>bY Pa Ht hp fun d hd=>?_⟩⟩
  obtain⟨wy,rfl,CV⟩:∃wy:Str,d=.str wy∧dI wy=true:=by
   have hd:d∈[D.str "up",.str "down"]:=hd
   simp only [ze,zm,or_false] at hd
   rcases hd with h|h
   ·exact⟨_,h,by trivial⟩
   ·exact⟨_,h,by trivial⟩
  have eT:ps.length=i:=by have:=congrArg List.length hn;simpa using this
  have pin:Pin cs ps:=fun x hx=>by
   have:x.1∈ps.map Prod.fst:=zf.mpr ⟨x,hx,rfl⟩
   rw[hn] at this
   obtain⟨k,hk,e⟩:=zf.mp this
   have:=zW.mp hk
   obtain⟨c,hc,_,ec⟩:=yV (cs:=cs) (tn:=tn) (k:=k) (by lia)
   exact⟨c,hc,ec.trans e⟩
  have wsz:∀z,dI z=true→z.cps.size≤1000:=fun z h=>by rcases v5 h with rfl|rfl <;> decide +kernel
  have esz:∀z,pB z=true→z.cps.size≤1000:=fun z h=>by
   unfold pB at h
   simp only [Bool.or_eq_true,z0] at h
   rcases h with rfl|rfl <;> decide +kernel
  refine⟨fQ,S,.new Zk,q ps wy ⟨pin,fun x hx=>(hk x hx).1,CV,?_,fun x hx=>?_⟩⟩
  ·unfold HB
   rw[zD (show ps.length≤8 by lia),zO,zP,zP]
   refine⟨yg.mpr fun x hx=>?_,zD (by rw[hn];exact yW hg.2.1 hi),CV⟩
   obtain⟨c,hc,ec⟩:=pin x hx
   unfold CQ
   rw[zD (zf.mpr ⟨c,hc,ec⟩),(hk x hx).1,(hk x hx).2];rfl
  ·obtain⟨c,hc,ec⟩:=pin x hx
   exact⟨by rw[← ec];exact uq (hg.2.2 c hc).1,wsz _ (hk x hx).1,esz _ (hk x hx).2⟩
def Zl(n:Nat):eF:=fun ds S R _=>∃l cs m,n=m+1∧ds=[.ref l,.tup (cs.map aC),.int ((m:Nat):Int)]∧Gd cs∧(∀c∈cs,c.1∈sD)∧S l=some .well∧∀d,Sg cs n d→R d S
theorem keys_str:(∀d∈out,∃z∈KS,d=.str z)→∃ks:List Str,out=ks.map D.str∧∀k∈ks,k∈KS:=by
 induction out with
 |nil=>exact fun _=>⟨[],rfl,fun _ h=>(nomatch h)⟩
 |cons x l ih =>
  intro h
  obtain⟨z,hz,e⟩:=h x zx
  obtain⟨ks,e2,hk⟩:=ih fun d hd=>h d (zp _ hd)
  exact⟨z::ks,by rw[e,e2];rfl,fun k Jn=>(ze.mp Jn).elim (fun e=>e ▸ hz) (hk k)⟩
theorem lG:∀{xs out:List D},Paired rel xs out→∀v∈out,∃x,rel x v
 |_,_,.nil,_,h=>(nomatch h)
 |_,_,.cons r t,v,h=>by
  rcases ze.mp h with rfl|h
  ·exact⟨_,r⟩
  ·exact lG t v h
theorem og(T:Txt w K mg t):∀n,Ok P w base T.j7 (3+n) (Zl n)
 |0=>by
  refine T.j7.F.ok (k:=2) dk (by rintro ds S R Z ⟨_,_,_,_,e,_⟩;exact by rw[e];rfl) (by rintro gq A outer s H E ds S R Z hr ⟨_,_,m,e,_⟩;exact by cases e)
 |n+1=>by
  refine T.j7.F.dM (k:=3+n) dk ?_
  rintro _ _ _ _ _ _ ds S R Z hr ⟨l,cs,m,em,e,hg,hN,hw,q⟩
  subst e
  cases em
  have Cf:(cs.map aC).length=cs.length:=zc _
  have h8:=hg.1
  refine⟨_,(sc (cR (i:=3) dk.nd (aZ T.aM (bq T) hr (ac (dv 0) (ac (bo bT hr.u di (bo iM hr.u di (ct iN T.gT dS (ac (cm qF hr.u (dv 2) di) an)))) an)))) (sc (si (twd (twor (bX bw hr.u (dv 3) di) (tw1 (twd (twand (bX bw hr.u (dv 1) (ay an)) (tw1 (bX JT hr.u (dv 3) di))))))) (s1 (sr (ay (ac ds an)))) s0) (sc (si (bX bw hr.u (dv 3) di) (s1 (sr (ay (ac ds (ac (ct l7 T.cE bN (ac (Ac (N:=["_law_k","_law_well_here"]) (src:=[none,some 0]) (m_ (ae gJ) ["_law_well_here","_law_columns_here","_law_deep","_law_way","_law_some","_law_name","_law_kind","_law_value_here"] rfl rfl (by trivial)) (Ou T.iu (ac (aZ T.aM (bq T) hr (ac (dv 0) (ac di an))) an)) (sU (show (["_law_k","_law_well_here"]:List Str).Nodup by trivial)) (bf rfl) bh (fun _ _ _ _ _=>xf) (fun _ _ _ _ _=>(aZ T.xR (BF T) hr (ac (dv 1) an)))) an)) an))))) s0) (sc (si (bX bw hr.u (dv 3) di) (s1 (sr (ay (ac ds (ac (aZ T.j7 (og T n) hr (ac (dv 0) (ac (dv 1) (ac (bo wV hr.u (dv 2) di) an)))) an))))) s0) (sc (si (bX qF hr.u (dv 3) di) (sc (Ow (i:=4) (N:=["_law_k","_law_well_here","_law_columns_here","_law_deep"]) (src:=[none,some 0,some 1,some 2]) dk.nd (m_ (ae gJ) ["_law_well_here","_law_columns_here","_law_deep","_law_way","_law_some","_law_name","_law_kind","_law_value_here"] rfl rfl (by trivial)) (Ou T.iu (ac (aZ T.aM (bq T) hr (ac (dv 0) (ac di an))) an)) (sU (show (["_law_k","_law_well_here","_law_columns_here","_law_deep"]:List Str).Nodup by trivial)) (bf rfl) bh (fun _ _ _ _ _=>xf) (fun _ _ _ _ _=>(aZ T.j7 (og T n) hr (ac (dv 1) (ac (dv 2) (ac (bo wV hr.u (dv 3) di) an)))))) (s1 (sr (ay (ac (qJ (ix hr.u (a_ (ac ds (ac ds an))) (bo wV hr.u (dv 3) di))) (ac (ct l7 T.cE bN (ac (dv 4) an)) an)))))) s0) (sc (sa (ix hr.u (dv 1) (aZ T.aM (bq T) hr (ac (dv 0) (ac (cb bU T.bK aX (ac (dv 1) an)) an)))) (gt (n:=2) (gc (gn (i:=5) dk.nd) (gc (gn (i:=6) dk.nd) g0)))) (sc (cR (i:=7) dk.nd (aZ T.pO (yM T) hr (ac (dv 0) (ac (dv 6) an)))) (sc (si (twd (twor (bX bw hr.u (dv 3) di) (tw1 (bX wY hr.u (dv 7) dn)))) (s1 (sr (ay (ac ds (ac (dv 5) (ac (dv 7) an)))))) s0) (sc (si (twd (twand (bX bw hr.u (dv 3) di) (tw1 (bX bw hr.u (dv 6) ds)))) (s1 (sr (ay (ac ds (ac (dv 5) (ac (dv 7) an)))))) s0) (s1 (sr (ay (ac (qJ (ix hr.u (a_ (ac ds (ac ds an))) (bo l3 hr.u (dv 3) di))) (ac (dv 5) (ac (dv 7) an))))))))))))))),?_⟩
  obtain⟨x,ex,hx⟩:∃x:Int,(if (fun i j:Int=>decide (j<i)) (↑n) 0=true then (1:Int) else 0)=x∧(x=0∨(x=1∧0<n)):=by
   by_cases e:(0:Int)<(n:Int)
   ·exact⟨1,if_pos (zD e),.inr ⟨rfl,by lia⟩⟩
   ·exact⟨0,if_neg (by rw[show (fun i j:Int=>decide (j<i)) (↑n) 0=false from zw e];exact zd),.inl rfl⟩
  refine⟨_,rfl,_,rfl,.inr ⟨_,rfl,?_⟩⟩
  rw[ex]
  refine⟨.inl ⟨by decide,by decide⟩,l,_,rfl,by lia,nX (by lia) (by lia),hw,fun way h0 h1=>?_⟩
  have h9:way<9:=by lia
  have Mr:6≤way→0<n:=fun h=>by lia
  have Ms:Fo S (R (.tup [.str "every"])):=fo (q _ (.inl (.inl rfl)))
  have lys:∀d∈cs.map aC,Ly S 60 d:=v8 hg hN
  refine⟨_,rfl,_,rfl,bJ (fun h=>⟨iV,Ms⟩) (fun h=>⟨_,rfl,vN,KP lys ⟨_,rfl,bJ (fun h2=>⟨_,rfl,_,rfl,bJ (fun h3=>⟨iV,Ms⟩) (fun h3=>?_)⟩) (fun h2=>?_)⟩⟩)⟩
  all_goals
   have Ky:way<5→0<cs.length:=by
    first
    |exact fun h=>absurd h (zI h3)
    |exact fun _=>List.length_pos_iff.mpr fun e=>by subst e;cases h2
   have hw0:way≠0:=zI h
   refine⟨_,rfl,_,rfl,bJ (fun h5=>?_) (fun h5=>?_)⟩
   ·refine⟨_,rfl,l,_,rfl,(by decide),(by decide),hw,fun n5 h50 h51=>⟨n5,rfl,by lia,by lia,?_⟩⟩
    refine fF (fun _ v=>∃z∈KS,v=.str z) trivial (by rw[cU];lia) (fun d hd Q hQ=>?_) fun out ho p hp=>?_
    ·exact⟨_,rfl,l,[],rfl,rfl,hw,by rintro d ⟨z,hz,e⟩;exact hQ d ⟨z,CP hz,e⟩⟩
    ·obtain⟨ks,rfl,Ae⟩:=keys_str fun d hd=>(lG ho d hd).elim fun _ h=>h
     have hkl:ks.length≤8:=by
      have:=Paired.length ho
      rw[cU,zc] at this
      lia
     exact⟨_,_,rfl,.inl aa,fQ,S,.new hp,q _ (.inl (.inr (.inl ⟨ks,rfl,hkl,Ae⟩)))⟩
   have hw5:way≠5:=zI h5
   refine⟨_,rfl,_,rfl,bJ (fun h6=>?_) (fun h6=>?_)⟩
   ·have h6:way=6:=zu h6
    have hn:=Mr (by lia)
    refine⟨_,rfl,_,rfl,_,rfl,l,cs,n - 1,by lia,?_,hg,hN,hw,fun d hd=>⟨fQ,fo (q _ (.inr (.inl ⟨d,rfl,hd⟩)))⟩⟩
    show [D.ref l,.tup (cs.map aC),.int ((n:Int) - 1)]=[_,_,D.int ((n - 1:Nat):Int)]
    rw[show ((n - 1:Nat):Int)=(n:Int) - 1 by lia]
   have hw6:way≠6:=zI h6
   refine⟨_,rfl,_,rfl,bJ (fun h7=>?_) (fun h7=>?_)⟩
   ·have h7:6<way:=zu h7
    have hn:=Mr (by lia)
    refine⟨_,rfl,l,_,rfl,(by decide),(by decide),hw,fun n3 h30 VH=>⟨n3,rfl,by lia,by lia,?_⟩⟩
    refine fF (fun _ v=>Sg cs n v) trivial (by rw[cU];lia) (fun d hd Q hQ=>?_) fun out ho p hp=>?_
    ·refine⟨_,rfl,_,rfl,_,rfl,l,cs,n - 1,by lia,?_,hg,hN,hw,fun d hd=>hQ d hd⟩
     show [D.ref l,.tup (cs.map aC),.int ((n:Int) - 1)]=[_,_,D.int ((n - 1:Nat):Int)]
     rw[show ((n - 1:Nat):Int)=(n:Int) - 1 by lia]
    ·have R4:out.length≤2:=by
      have:=Paired.length ho
      rw[cU] at this
      lia
     refine⟨fQ,fun p2 fT=>⟨_,rfl,bY (by lia) (by show way - 7<2;lia) fT fun d hd=>?_⟩⟩
     obtain⟨o,rfl,Zm⟩:∃o:Str,d=.str o∧(o = "and" ∨ o = "or"):=by
      have hd:d∈[D.str "and",.str "or"]:=hd
      simp only [ze,zm,or_false] at hd
      rcases hd with h|h
      ·exact⟨_,h,.inl rfl⟩
      ·exact⟨_,h,.inr rfl⟩
     exact⟨_,rfl,_,_,rfl,.inl aa,fQ,S,.new hp,q _ (.inr (.inr ⟨o,out,Zm,rfl,R4,fun e he=>(lG ho e he).elim fun _ h=>h⟩))⟩
   have h7:¬ 6<way:=zI h7
   have DN:=Ky (by lia)
   refine⟨_,rfl,_,rfl,_,rfl,_,rfl,l,_,rfl,by lia,nX (by lia) (by lia),hw,fun j hj0 hj1=>?_⟩
   obtain⟨jn,rfl⟩:∃jn:Nat,j=(jn:Int):=⟨j.toNat,by lia⟩
   have hjn:jn<cs.length:=by lia
   have ec:cs[jn]?=some cs[jn]:=zj hjn
   have hc:cs[jn]∈cs:=List.getElem_mem hjn
   generalize cs[jn]=c at ec hc
   refine⟨aC c,hU (by rw[zB,ec];rfl),_,rfl,rfl,_,_,rfl,_,_,rfl,rfl,?_⟩
   refine⟨_,rfl,_,rfl,l,[.str c.2],rfl,?_,hw,fun v hv=>?_⟩
   ·rcases (hg.2.2 c hc).2 with e|e <;> rw[e]
    ·exact .inl rfl
    ·exact .inr rfl
   obtain⟨k,ek,hv⟩:=hv
   cases ek
   have Pf:Fo S (R (.tup [.str "is",.str c.1,v])):=fo (q _ (.inl (.inr (.inr ⟨"is",c,v,hc,hv,.inl rfl,rfl⟩))))
   refine⟨_,rfl,_,rfl,bJ (fun h8=>⟨_,rfl,_,rfl,fR,Pf⟩) (fun h8=>⟨_,rfl,_,rfl,bJ (fun h9=>⟨_,rfl,_,rfl,fR,Pf⟩) (fun h9=>?_)⟩)⟩
   have VG:v≠.aw:=jR h9
   refine⟨_,rfl,_,rfl,bJ (fun QE=>⟨_,rfl,_,rfl,bJ (fun TZ=>?_) (fun TZ=>?_)⟩) (fun QE=>?_)⟩
   ·exact⟨_,rfl,_,rfl,fR,fo (q _ (.inl (.inr (.inr ⟨"begins",c,v,hc,hv,.inr ⟨VG,.inr (.inr ⟨rfl,zu TZ⟩)⟩,rfl⟩))))⟩
   all_goals
    refine⟨fQ,fun p hp=>⟨_,rfl,(by decide),bY (by lia) (by show way % 2<2;lia) hp fun d hd=>?_⟩⟩
    obtain⟨o,rfl,Zm⟩:∃o:Str,d=.str o∧(o = "below" ∨ o = "above"):=by
     have hd:d∈[D.str "below",.str "above"]:=hd
     simp only [ze,zm,or_false] at hd
     rcases hd with h|h
     ·exact⟨_,h,.inl rfl⟩
     ·exact⟨_,h,.inr rfl⟩
    exact⟨_,rfl,_,rfl,fR,fo (q _ (.inl (.inr (.inr ⟨o,c,v,hc,hv,.inr ⟨VG,Zm.elim .inl fun h=>.inr (.inl h)⟩,rfl⟩))))⟩
theorem CY:∀{l:List Str}{p:Str},PyProof.Rows.risingS p l=true→(p::l).Pairwise fun a b=>a.cps.toList≤b.cps.toList
 |[],p,_=>List.pairwise_singleton _ _
 |x::r,p,h=>by
  have h:(!PySem.Spec.ltCps x.cps.toList p.cps.toList && PyProof.Rows.risingS x r)=true:=h
  rw[zP,PyProof.Rows.ltCps_eq,Bool.not_eq_true',decide_eq_false_iff_not] at h
  have ih:=CY h.2
  have hpx:p.cps.toList≤x.cps.toList:=List.not_lt.mp h.1
  refine List.pairwise_cons.mpr ⟨fun y hy=>?_,ih⟩
  rcases ze.mp hy with e|hy
  ·rw[e];exact hpx
  ·exact List.le_trans hpx ((List.pairwise_cons.mp ih).1 y hy)
theorem uy(h:PyProof.Rows.sortedS l=true):l.Pairwise fun a b=>a.cps.toList≤b.cps.toList:=by
 cases l with
 |nil=>exact List.Pairwise.nil
 |cons x r=>exact CY h
theorem K4{a b:Str}(h:a.cps.toList=b.cps.toList):a=b:=by
 obtain⟨⟨x⟩⟩:=a
 obtain⟨⟨y⟩⟩:=b
 cases h;rfl
theorem EX{l m:List Str}(hl:l.Pairwise fun a b=>a.cps.toList≤b.cps.toList)(hm:m.Pairwise fun a b=>a.cps.toList≤b.cps.toList)(nl:l.Nodup)(nm:m.Nodup)(h:∀z,z∈l↔z∈m):l=m :=
 List.Perm.eq_of_pairwise (fun a b _ _ h1 h2=>K4 (List.le_antisymm h1 h2)) hl hm ((List.perm_ext_iff_of_nodup nl nm).mpr h)
def TI(l:List Std)(n:Nat):Prop:=∀s∈l,s.b≤n∧∀m,s.e=some m→m<n
def K5(s:Std):D:=match s.e with
 |none=>.tup s.ws
 |some _=>.aw
def cur(l:List Std):D:=match l.getLast? with
 |none=>.aw
 |some s=>K5 s
theorem jS(r:List Std)(s:Std):cur (r++[s])=K5 s:=by unfold cur;rw[List.getLast?_concat]
theorem Py(h:TI l n):wt l n=cur l:=by
 by_cases e:l=[]
 ·subst e;rfl
 ·obtain⟨r,s,rfl⟩:=ke e
  rw[jS]
  unfold wt
  rw[List.reverse_append]
  obtain⟨h1,h2⟩:=h s (zA _ (zi.mpr rfl))
  show Hk (s::r.reverse) (n:Int)=_
  unfold Hk K5
  rw[if_pos (show (s.b:Int)≤(n:Int) by lia)]
  cases q:s.e with
  |none=>rfl
  |some m =>
   have:=h2 m q
   exact if_neg (show ¬ (n:Int)≤(m:Int) by lia)
theorem TI.up(h:TI l n):TI l (n+1):=fun s hs=>⟨Nat.le_succ_of_le (h s hs).1,fun m e=>Nat.lt_succ_of_lt ((h s hs).2 m e)⟩
theorem TI.close(h:TI l n):TI (iA n l) (n+1):=by
 by_cases e:l=[]
 ·subst e;exact fun s hs=>(nomatch hs)
 ·obtain⟨r,s,rfl⟩:=ke e
  rw[eG]
  intro x hx
  rcases zC.mp hx with hx|hx
  ·exact h.up x (zU _ hx)
  ·rw[zi.mp hx]
   exact⟨Nat.le_succ_of_le (h s (zA _ (zi.mpr rfl))).1,fun m e=>by cases e;exact Nat.lt_succ_self _⟩
theorem TI.beg(h:TI l (n+1)):TI (l++[Std.mk (n+1) none ws]) (n+1):=fun s hs=>by
 rcases zC.mp hs with hs|hs
 ·exact h s hs
 ·rw[zi.mp hs];exact⟨zo _,fun m e=>(by cases e)⟩
theorem EY:cur (iA n l)=.aw:=by
 by_cases e:l=[]
 ·subst e;rfl
 ·obtain⟨r,s,rfl⟩:=ke e
  rw[eG,jS];rfl
def wu(kn:Kn)(z:Str):D:=match fS kn z with
 |none=>.aw
 |some ws=>.tup ws
structure RI(rs:pQ)(n:Nat)(kn:Kn):Prop where
 ti:∀z,TI ((lu rs z).getD []) n
 eq:∀z,cur ((lu rs z).getD [])=wu kn z
 ks:∀r∈rs,r.1∈KS
theorem K6(h:r∈BC rs z s):r.1=z∨∃r'∈rs,r'.1=r.1:=by
 unfold BC at h
 split at h
 ·obtain⟨r0,wo,e⟩:=zf.mp h
  refine .inr ⟨r0,wo,?_⟩
  subst e
  split <;> rfl
 ·rcases zC.mp h with h|h
  ·exact .inr ⟨r,h,rfl⟩
  ·rw[zi.mp h];exact .inl rfl
theorem HX(h:∀r∈rs,r.1∈KS)(hz:z∈KS):∀r∈BC rs z s,r.1∈KS:=fun r hr=>by
 rcases K6 hr with e|⟨r',wq,e⟩
 ·rw[e];exact hz
 ·rw[← e];exact h r' wq
theorem CZ:wu (pA kn z ws) k=if k=z then .tup ws else wu kn k:=by
 unfold wu;rw[KN]
 by_cases h:k=z
 ·rw[if_pos h,if_pos h]
 ·rw[if_neg h,if_neg h]
theorem C1:wu (vV kn z) k=if k=z then .aw else wu kn k:=by
 unfold wu;rw[KO]
 by_cases h:k=z
 ·rw[if_pos h,if_pos h]
 ·rw[if_neg h,if_neg h]
theorem RI.nil:RI [] 0 []:=⟨fun z s hs=>(nomatch hs),fun z=>rfl,fun r hr=>(nomatch hr)⟩
theorem RI.put(h:RI rs n kn)(hz:z∈KS):RI (pz rs z (n+1) ws) (n+1) (pA kn z ws):=by
 refine⟨fun k=>?_,fun k=>?_,HX h.ks hz⟩
 ·unfold pz;rw[jM]
  by_cases e:k=z
  ·rw[if_pos e];exact (h.ti z).up.beg
  ·rw[if_neg e];exact (h.ti k).up
 ·unfold pz;rw[jM,CZ]
  by_cases e:k=z
  ·rw[if_pos e,if_pos e];exact jS _ _
  ·rw[if_neg e,if_neg e];exact h.eq k
theorem RI.del(h:RI rs n kn)(hz:z∈KS):RI (lA rs z n) (n+1) (vV kn z):=by
 refine⟨fun k=>?_,fun k=>?_,HX h.ks hz⟩
 ·unfold lA;rw[jM]
  by_cases e:k=z
  ·rw[if_pos e];exact (h.ti z).close
  ·rw[if_neg e];exact (h.ti k).up
 ·unfold lA;rw[jM,C1]
  by_cases e:k=z
  ·rw[if_pos e,if_pos e];exact EY
  ·rw[if_neg e,if_neg e];exact h.eq k
theorem RI.change(h:RI rs n kn)(hz:z∈KS):RI (pz (lA rs z n) z (n+1) ws) (n+1) (pA kn z ws):=by
 have h1:=h.del hz
 refine⟨fun k=>?_,fun k=>?_,HX h1.ks hz⟩
 ·unfold pz;rw[jM]
  by_cases e:k=z
  ·rw[if_pos e];exact (h1.ti z).beg
  ·rw[if_neg e];exact h1.ti k
 ·unfold pz;rw[jM,CZ]
  by_cases e:k=z
  ·rw[if_pos e,if_pos e];exact jS _ _
  ·rw[if_neg e,if_neg e,h1.eq k,C1,if_neg e]
theorem RI.wt{rs:pQ}{n:Nat}{kn:Kn}(h:RI rs n kn)(z:Str):wt ((lu rs z).getD []) n=wu kn z:=by rw[Py (h.ti z),h.eq]
theorem RI.sC(h:RI rs n kn)(hz:z∈KS):sC rs (.str z) n=wu kn z:=by rw[vQ (jN z hz).1,h.wt]
theorem uz(kn:Kn)(z:Str):av (wu kn z)=!(fS kn z).isSome:=by unfold wu;cases fS kn z <;> rfl
theorem C2(h:bA C S a F cs dl rs):(rs.map (·.1)).Nodup:=by
 obtain⟨ld,lr,ra,h,_,rfl⟩:=h
 unfold g5
 rw[zF]
 exact h.kn
theorem RI.len(h:RI rs n kn)(hs:bA C S a F cs dl rs):rs.length≤30:=by
 have:=sub_len (C2 hs) (m:=KS) fun x hx=>by
  obtain⟨r,hr,rfl⟩:=zf.mp hx
  exact h.ks r hr
 rw[zc] at this
 exact this
def oh(k:Nat)(l:List Std):List Std:=match l.getLast? with
 |none=>l
 |some s=>match s.e with
  |none=>iA k l
  |some _=>l
theorem oO(h:s.e=none):oh k (r++[s])=r++[Std.mk s.b (some k) s.ws]:=by
 unfold oh;rw[List.getLast?_concat];dsimp only;rw[h];exact eG _ _ _
theorem yY(h:s.e=some n):oh k (r++[s])=r++[s]:=by
 unfold oh;rw[List.getLast?_concat];dsimp only;rw[h]
theorem K7{s:Std}{r:List Std}{m:Nat}(h:m<s.b):Hk (s::r) m=Hk r m:=by
 show (if (s.b:Int)≤(m:Int) then _ else Hk r m)=_
 rw[if_neg (by lia)]
theorem EZ(hm:m≤n):wt (oh n l) m=wt l m:=by
 by_cases e:l=[]
 ·subst e;rfl
 ·obtain⟨r,s,rfl⟩:=ke e
  cases q:s.e with
  |some k=>rw[yY q]
  |none =>
   rw[oO q]
   unfold wt
   rw[List.reverse_append,List.reverse_append]
   show (if (s.b:Int)≤(m:Int) then (if (m:Int)≤(n:Int) then D.tup s.ws else .aw) else Hk r.reverse m)=(if (s.b:Int)≤(m:Int) then (match s.e with|none=>.tup s.ws|some n=>if (m:Int)≤(n:Int) then .tup s.ws else .aw) else Hk r.reverse m)
   rw[q,if_pos (show (m:Int)≤(n:Int) by lia)]
theorem BL(h:cur l≠.aw):oh n l=iA n l:=by
 by_cases e:l=[]
 ·subst e;rfl
 ·obtain⟨r,s,rfl⟩:=ke e
  rw[jS] at h
  cases q:s.e with
  |none=>rw[oO q,eG]
  |some m=>unfold K5 at h;rw[q] at h;exact absurd rfl h
def jT(kn:Kn)(ss:List Str):List Row:=ss.map fun z=>(z,(fS kn z).getD [])
structure Snap(rs:pQ)(cs:List (Str×Str))(m:Nat)(rows:List Row):Prop where
 ex:∃kn ss,rows=jT kn ss∧KI cs kn∧ss.Perm (kn.map (·.1))∧PyProof.Rows.sortedS ss=true∧∀z,wt ((lu rs z).getD []) m=wu kn z
theorem Pz{l:List Std}{n m:Nat}{ws:List D}(hm:m≤n):wt (l++[Std.mk (n+1) none ws]) m=wt l m:=by
 unfold wt
 rw[List.reverse_append]
 exact K7 (show m<n+1 by lia)
theorem C3(k:Str)(m:Nat)(hm:m≤n):wt ((lu (pz rs z (n+1) ws) k).getD []) m=wt ((lu rs k).getD []) m:=by
 unfold pz;rw[jM]
 by_cases e:k=z
 ·rw[if_pos e,e];exact Pz hm
 ·rw[if_neg e]
theorem C4(h:RI rs n kn)(hz:(fS kn z).isSome=true)(k:Str)(m:Nat)(hm:m≤n):wt ((lu (lA rs z n) k).getD []) m=wt ((lu rs k).getD []) m:=by
 unfold lA;rw[jM]
 by_cases e:k=z
 ·rw[if_pos e,e]
  have hc:cur ((lu rs z).getD [])≠.aw:=by
   rw[h.eq]
   unfold wu
   cases q:fS kn z with
   |none=>rw[q] at hz;cases hz
   |some ws=>exact fun e=>by cases e
  show wt (iA n ((lu rs z).getD [])) m=_
  rw[← BL hc,EZ hm]
 ·rw[if_neg e]
theorem HY(hz:z∈KS):Gt S (.str z):=pS (by have:=(jN z hz).2.1;lia)
section
variable{t:jf}{S:aG}{a:Addr}{F:List Addr}{cs:List (Str×Str)}{dl:List D}{rs:pQ}{kn:Kn}{d:D}{R:KD}{Z:KX}
theorem HZ(hz:z∈KS)(h:Wg cs ws):iz cs (.str z) (.tup ws)=true:=by
 unfold iz
 rw[h.Px,show ofStr fC (.str z)=true from (jN z hz).1];rfl
theorem BM(hR:RI rs dl.length kn)(hz:z∈KS):av (sC rs (.str z) dl.length)=!(fS kn z).isSome:=by rw[hR.sC hz,uz]
theorem Ue(h:fS kn z=none):(!(fS kn z).isSome)=true:=by rw[h];rfl
theorem H9(h:(fS kn z).isSome=true):(!(fS kn z).isSome)=false:=by rw[h];rfl
theorem tf{b:Bool}(h1:b=true)(h2:b=false){p:Prop} : p:=by rw[h1] at h2;cases h2
theorem bA.out(hS:bA C S a F cs dl rs)(hb:S b=none):b∉F:=fun m=>by
 obtain⟨ld,lr,ra,h,rfl,_⟩:=hS
 unfold fp at m
 simp only [ze,zf] at m
 rcases m with e|e|e|⟨r,hr,e⟩
 ·have:=h.ins;rw[← e,hb] at this;cases this
 ·have:=h.x_;rw[← e,hb] at this;cases this
 ·have:=h.run;rw[← e,hb] at this;cases this
 ·have:=h.cell r hr;rw[e,hb] at this;cases this
theorem bA.off(hS:bA C S a F cs dl rs)(hp:p∉F):bA C (S.set p c) a F cs dl rs:=by
 obtain⟨ld,lr,ra,hh,rfl,e2⟩:=hS
 unfold fp at hp
 simp only [ze,not_or] at hp
 obtain⟨n1,n2,n3,n4⟩:=hp
 exact⟨ld,lr,ra,⟨(af (Ne.symm n1)).trans hh.ins,(af (Ne.symm n2)).trans hh.x_,(af (Ne.symm n3)).trans hh.run,fun r hr=>(af fun e=>n4 (by rw[← e];exact zf.mpr ⟨r,hr,rfl⟩)).trans (hh.cell r hr),hh.kn,hh.an,hh.sz⟩,rfl,e2⟩
theorem GD.up(hd:GD KT cs kn d):GD KS cs kn d:=by
 rcases hd with ⟨z,ws,hz,h⟩|h
 ·exact .inl ⟨z,ws,CP hz,h⟩
 ·exact .inr h
theorem GD.as(hd:GD KS cs kn d)(hI:KI cs kn):∃uu,YZ kn d uu∧KI cs uu:=by
 rcases hd with ⟨z,ws,hz,hw,hn,rfl⟩|⟨z,ws,hz,hw,hn,rfl⟩|⟨z,hz,hn,rfl⟩
 ·exact⟨_,.inl ⟨_,z,ws,.inl rfl,rfl,rfl⟩,hI.put hz hw⟩
 ·exact⟨_,.inl ⟨_,z,ws,.inr rfl,rfl,rfl⟩,hI.put hz hw⟩
 ·exact⟨_,.inr ⟨z,hn,rfl,rfl⟩,hI.del z⟩
structure Dos(t:jf)(ds:List D)(S:aG)(R:KD)(Z:KX):Prop where
 of:Hy t ds S R Z
theorem E1(hS:bA t.ag S a F cs dl rs)(hg:Gd cs)(hI:KI cs kn)(hR:RI rs dl.length kn)(hl:dl.length≤100)(hd:GD KS cs kn d){uu:Kn}(Zn:YZ kn d uu)
  (q:∀S' F' eN,bA t.ag S' a F' cs (dl++[d]) eN→wm F F' S S'→RI eN (dl.length+1) uu→(∀z m,m≤dl.length→wt ((lu eN z).getD []) m=wt ((lu rs z).getD []) m)→R .aw S'):Dos t [.ref a,d] S R Z:=by
 have Zo:=hR.len hS
 have VI:=hg.1
 obtain⟨ld,lr,ra,h,_,_⟩:=id hS
 refine⟨a,_,h.ins,rfl,?_⟩
 rcases hd with ⟨z,ws,hz,hw,hn,rfl⟩|⟨z,ws,hz,hw,hn,rfl⟩|⟨z,hz,hn,rfl⟩
 ·have ro:=HZ hz hw
  have st:=(BM hR hz).trans (Ue hn)
  refine .inl ⟨_,_,rfl,a,F,cs,_,rs,_,_,rfl,hS,VI,HY hz,hw.gts VI,by lia,by lia,fun e=>tf ro e,fun _ e=>tf st e,fun z' Pd e1 e2 _ _ S' F' oF hK=>?_⟩
  cases e1;cases e2
  have Ug:uu=pA kn z ws:=by rcases Zn with ⟨n,y,vs,_,e1,e2⟩|⟨y,_,e1,_⟩ <;> cases e1;exact e2
  subst Ug
  exact q S' F' _ oF hK (hR.put hz) C3
 ·have ro:=HZ hz hw
  have st:=(BM hR hz).trans (H9 hn)
  refine .inr (.inl ⟨_,_,rfl,a,F,cs,_,rs,_,_,rfl,hS,VI,HY hz,hw.gts VI,by lia,by lia,fun e=>tf ro e,fun _ e=>tf e st,fun z' Pd e1 e2 _ _ S' F' oF hK=>?_⟩)
  cases e1;cases e2
  have Ug:uu=pA kn z ws:=by rcases Zn with ⟨n,y,vs,_,e1,e2⟩|⟨y,_,e1,_⟩ <;> cases e1;exact e2
  subst Ug
  exact q S' F' _ oF hK (hR.change hz) fun k m hm=>(C3 k m hm).trans (C4 hR hn k m hm)
 ·have st:=(BM hR hz).trans (H9 hn)
  refine .inr (.inr ⟨_,rfl,a,F,cs,_,rs,_,rfl,hS,HY hz,by lia,fun e=>tf (jN z hz).1 e,fun _ e=>tf e st,fun z' e1 _ _ S' oF hK=>?_⟩)
  cases e1
  have Ug:uu=vV kn z:=by rcases Zn with ⟨n,y,vs,_,e1,e2⟩|⟨y,_,e1,e2⟩ <;> cases e1;exact e2
  subst Ug
  exact q S' F _ oF hK (hR.del hz) (C4 hR hn)
end
theorem aj{S:aG}{z:Str}(h:z.cps.size≤1000):QA S (.str z):=uv (pS h) fun _=>nofun
theorem lH{S:aG} : QA S .aw:=uv lB fun _=>nofun
theorem lI{S:aG}{i:Int} : QA S (.int i):=uv gt_int fun _=>nofun
theorem C5{S:aG}{i:Bool} : QA S (.bl i):=uv Mq fun _=>nofun
theorem jU{S:aG}{p:Addr}{L:List D}(h:S p=some (.lst L)):QA S (.ref p):=uv (Pu h) fun _=>nofun
theorem dJ{S:aG}{a:D}(h:QA S a):QA S (.tup [a]):=fH (by simp) fun v hv=>by rw[zi.mp hv];exact h
theorem br{S:aG}{a b:D}(h:QA S a)(h2:QA S b):QA S (.tup [a,b]):=fH (by simp) fun v hv=>by
 simp only [ze,zm,or_false] at hv
 rcases hv with rfl|rfl
 ·exact h
 ·exact h2
theorem eX{S:aG}{a b c:D}(h:QA S a)(h2:QA S b)(h3:QA S c):QA S (.tup [a,b,c]):=fH (by simp) fun v hv=>by
 simp only [ze,zm,or_false] at hv
 rcases hv with rfl|rfl|rfl
 ·exact h
 ·exact h2
 ·exact h3
theorem lJ{S:aG}{a:D}{n:Nat}(hn:n≤1000)(h:QA S a):QA S (.tup (List.replicate n a)):=fH (by rw[zG];exact hn) fun v hv=>by rw[List.eq_of_mem_replicate hv];exact h
def Bo(S:aG)(cs:List (Str×Str))(d:D):Prop:=QA S d∧fP cs d=false
theorem Bo.sub{S S':aG}(b:Sub S S'){cs:List (Str×Str)}{d:D}(h:Bo S cs d):Bo S' cs d:=⟨h.1.sub b,h.2⟩
theorem K8{cs:List (Str×Str)}{x w:D}(h:ofStr dI w=false):fP cs (.tup [x,w])=false:=by
 unfold fP
 split
 ·rename_i e;cases e;rw[h];simp
 ·rfl
theorem fJ{cs:List (Str×Str)}{ps:List D}{x w:D}(hx:x∈ps)(h:cq cs x=false):fP cs (.tup [.tup ps,w])=false:=by
 show (decide (ps.length≤8) && (ps.all (cq cs) && (decide ((ps.map Mj).Nodup) && ofStr dI w)))=false
 have:ps.all (cq cs)=false:=by
  rw[List.all_eq_false]
  exact⟨x,hx,by rw[h];exact zd⟩
 rw[this];simp
theorem E3{cs:List (Str×Str)}{z:Str}{a b w:D} : fP cs (.tup [.tup (List.replicate (2:Int).toNat (.tup [.str z,a,b])),w])=false:=by
 rw[show List.replicate (2:Int).toNat (D.tup [.str z,a,b])=[.tup [.str z,a,b],.tup [.str z,a,b]] from rfl]
 show (decide (2≤8) && (([D.tup [.str z,a,b],.tup [.str z,a,b]]:List D).all (cq cs) && (decide (([D.tup [.str z,a,b],.tup [.str z,a,b]].map Mj).Nodup) && ofStr dI w)))=false
 rw[show decide (([D.tup [.str z,a,b],.tup [.str z,a,b]].map Mj).Nodup)=false from zw (by simp)]
 simp
theorem C6{S:aG}{ds:List D}{R:KD}(h:∀d∈ds,Ly S 60 d)(q:R (.bl (!ds.isEmpty)) S):JU true (.tup ds) (.tup []) S R:=by
 obtain⟨ps,k1,k2,k3,k4⟩:=Ly.all h
 refine⟨.tuple ps,.tuple [],by simp only [Dl,Dp];exact⟨ps,rfl,k1⟩,by simp only [Dl,Dp];exact⟨[],rfl,by simp only [DpAll]⟩,by simp only [PyData.canLay0];exact k2,by simp only [PyData.canLay0,PyData.canLayAll0],.inl (by simp only [PyData.depth];lia),?_⟩
 rw[if_pos rfl,yP,show ps.isEmpty=ds.isEmpty by cases ps <;> cases ds <;> first|rfl|cases k4];exact q
structure Uh(S:aG)(cs:List (Str×Str))(d:D):Prop where
 q:QA S d
 w:ofStr dI d=false
 e:ofStr pB d=false
 k:qu cs d=.aw
theorem Uh.sub{S S':aG}(b:Sub S S'){cs:List (Str×Str)}{d:D}(h:Uh S cs d):Uh S' cs d:=⟨h.q.sub b,h.w,h.e,h.k⟩
theorem oi{cs:List (Str×Str)}(hN:∀c∈cs,c.1∈sD){z:Str}(h:z∉sD):qu cs (.str z)=.aw:=pR fun m=>by
 obtain⟨c,hc,rfl⟩:=zf.mp m
 exact h (hN c hc)
def Zp:eF:=fun ds S R _=>∃l cs,ds=[.ref l,.tup (cs.map aC)]∧Gd cs∧(∀c∈cs,c.1∈sD)∧S l=some .well∧∀o S',Sub S S'→Bo S' cs o→R o S'
theorem v9(T:Txt w K mg t):Ok P w base T.ju 3 Zp:=by
 refine T.ju.F.dM aY ?_
 rintro _ _ _ _ _ _ ds S R Z hr ⟨l,cs,e,hg,hN,hw,q⟩
 subst e
 have n1:=iV
 have n2:=fQ
 have n3:=fR
 have n7:=OV
 refine⟨_,(sc (sa (aZ T.pP (yX T) hr (ac (dv 0) (ac (dv 1) an))) (gt (n:=2) (gc (gn (i:=2) aY.nd) (gc (gn (i:=3) aY.nd) g0)))) (sc (cR (i:=4) aY.nd (qJ (ix hr.u (a_ (ac ds (ac ds (ac dn (ac di (ac db (ac (a_ (ac ds an)) (ac ds an)))))))) (aZ T.aM (bq T) hr (ac (dv 0) (ac di an)))))) (sc (cR (i:=5) aY.nd (a_ (ac (ay (ac (dv 2) (ac (dv 4) an))) (ac (a_ (ac (dv 2) (ac (dv 3) an))) (ac (ay (ac (dv 2) an)) (ac (ay (ac (dv 2) (ac (dv 3) (ac ds an)))) (ac dn (ac ds (ac (ay (ac (ct Oi T.OT Ju (ac (dv 2) an)) (ac (dv 3) an))) an))))))))) (sc (cR (i:=5) aY.nd (bo bT hr.u (dv 5) (a_ (ac (ay (ac (bo bT hr.u (dv 2) (ay (ac (ay (ac ds (ac ds (ac ds an)))) an))) (ac (dv 3) an))) (ac (ay (ac (bo bT hr.u (dv 2) (ay (ac (ay (ac ds an)) an))) (ac (dv 3) an))) an))))) (sc (Ea (si (bX l4 hr.u (dv 1) (ay an)) (sc (cR (i:=6) aY.nd (ix hr.u (ix hr.u (dv 1) di) di)) (sc (cR (i:=5) aY.nd (bo bT hr.u (dv 5) (a_ (ac (ay (ac (ay (ac (ay (ac (dv 6) (ac (dv 4) (ac ds an)))) an)) (ac (dv 3) an))) (ac (ay (ac (ay (ac (ay (ac (dv 6) (ac ds (ac (dv 4) an)))) an)) (ac (dv 3) an))) (ac (ay (ac (bo i8 hr.u (ay (ac (ay (ac (dv 6) (ac ds (ac ds an)))) an)) di) (ac (dv 3) an))) an)))))) (s1 (cR (i:=5) aY.nd (bo bT hr.u (dv 5) (a_ (ac (ay (ac (ay (ac (ay (ac (dv 6) (ac ds an))) an)) (ac (dv 3) an))) (ac (ay (ac (ay (ac (a_ (ac (dv 6) (ac ds (ac ds an)))) an)) (ac (dv 3) an))) (ac (ay (ac (ay (ac (ay (ac (dv 4) (ac ds (ac ds an)))) an)) (ac (dv 3) an))) an))))))))) s0)) (s1 (sr (ix hr.u (dv 5) (aZ T.aM (bq T) hr (ac (dv 0) (ac (cb bU T.bK aX (ac (dv 5) an)) an))))))))))),?_⟩
 refine⟨_,rfl,_,rfl,l,cs,rfl,hg,hw,fun ps wy ho=>?_⟩
 refine⟨_,rfl,rfl,_,_,rfl,_,_,rfl,rfl,?_⟩
 refine⟨n1,fun p1 sE=>⟨n7,fun p2 fT=>⟨_,rfl,l,_,rfl,(by decide),(by decide),wl (wl hw sE) fT,fun n h0 h1=>bY h0 h1 fT fun odd BN=>?_⟩⟩⟩
 have IB:Sub S (S.set p1 (.lst [.str "up"])):=.new sE
 have Ku:=wl (c:=.lst [.str "up"]) hw sE
 have hO:Uh (S.set p1 (.lst [.str "up"])) cs odd:=by
  simp only [ze,zm,or_false] at BN
  rcases BN with rfl|rfl|rfl|rfl|rfl|rfl|rfl
  ·exact⟨aj (by decide),rfl,rfl,oi hN (by trivial)⟩
  ·exact⟨aj (by decide),by trivial,by trivial,oi hN (by trivial)⟩
  ·exact⟨lH,rfl,rfl,rfl⟩
  ·exact⟨lI,rfl,rfl,rfl⟩
  ·exact⟨C5,rfl,rfl,rfl⟩
  ·exact⟨jU aa,rfl,rfl,rfl⟩
  ·exact⟨aj (by decide),by trivial,by trivial,oi hN (by trivial)⟩
 clear BN
 generalize S.set p1 (.lst [.str "up"])=S1 at IB Ku hO fT ⊢
 have h8:ps.length≤8:=by
  have:=ho.ok
  unfold HB at this
  simp only [zP,z0] at this
  exact this.1
 have VJ:∀S,QA S (.tup (ps.map p3)):=fun S=>fH (by rw[zc];lia) fun v hv=>by
  obtain⟨p,hp,rfl⟩:=zf.mp hv
  obtain⟨a,b,c⟩:=ho.tx p hp
  exact eX (aj a) (aj b) (aj c)
 have CV:wy.cps.size≤1000:=by
  have:=ho.way
  unfold dI at this
  simp only [Bool.or_eq_true,z0] at this
  rcases this with rfl|rfl <;> decide
 have ID:∀S,QA S (.str wy):=fun S=>aj CV
 refine⟨_,rfl,_,rfl,n2,?_⟩
 refine⟨_,rfl,_,rfl,n2,fun p3 KH=>?_⟩
 refine⟨_,rfl,n1,?_⟩
 refine⟨_,rfl,_,rfl,n3,?_⟩
 refine⟨_,rfl,_,_,rfl,.inr rfl,fun p4 HU=>⟨_,rfl,n2,?_⟩⟩
 refine⟨n7,fun p5 K9=>?_⟩
 generalize PB:([.tup [.tup (ps.map My.p3),odd],.ref p3,.tup [.tup (ps.map My.p3)],.tup [.tup (ps.map My.p3),.str wy,.str "last"],.aw,.str "",.tup [.ref p4,.str wy]]:List D)=L1
 have PC:∀d∈L1,Bo ((S1.set p3 (.lst [.tup (ps.map My.p3),.str wy])).set p4 (.lst (ps.map My.p3))) cs d:=by
  intro d hd
  have r4:QA ((S1.set p3 (.lst [.tup (ps.map My.p3),.str wy])).set p4 (.lst (ps.map My.p3))) (.ref p4):=jU aa
  have r3:QA ((S1.set p3 (.lst [.tup (ps.map My.p3),.str wy])).set p4 (.lst (ps.map My.p3))) (.ref p3):=jU ((Sub.new HU) _ _ aa)
  have oq:=hO.q.sub ((Sub.new (c:=.lst [.tup (ps.map My.p3),.str wy]) KH).trans (.new (c:=.lst (ps.map My.p3)) HU))
  rw[← PB] at hd
  simp only [ze,zm,or_false] at hd
  rcases hd with rfl|rfl|rfl|rfl|rfl|rfl|rfl
  ·exact⟨br (VJ _) oq,K8 hO.w⟩
  ·exact⟨r3,rfl⟩
  ·exact⟨dJ (VJ _),rfl⟩
  ·exact⟨eX (VJ _) (ID _) (aj (by decide)),rfl⟩
  ·exact⟨lH,rfl⟩
  ·exact⟨aj (by decide),rfl⟩
  ·exact⟨br r4 (ID _),rfl⟩
 have Cg:Sub S1 ((S1.set p3 (.lst [.tup (ps.map My.p3),.str wy])).set p4 (.lst (ps.map My.p3))):=(Sub.new KH).trans (.new HU)
 generalize (S1.set p3 (.lst [.tup (ps.map My.p3),.str wy])).set p4 (.lst (ps.map My.p3))=S2 at Cg PC K9 ⊢
 have CO:L1.length=7:=by rw[← PB];rfl
 have IC:=(IB.trans Cg).trans (.new (c:=.lst L1) K9)
 have h5:(S2.set p5 (.lst L1)) p5=some (.lst L1):=aa
 have PD:∀d∈L1,Bo (S2.set p5 (.lst L1)) cs d:=fun d hd=>(PC d hd).sub (.new K9)
 have IE:Uh (S2.set p5 (.lst L1)) cs odd:=hO.sub (Cg.trans (.new K9))
 generalize S2.set p5 (.lst L1)=S3 at IC h5 PD IE ⊢
 clear PC hO
 have eT:(ps.map My.p3).length+1≤sizeLine:=sm (by rw[zc];lia)
 refine⟨_,rfl,_,rfl,n3,n1,eT,_,rfl,n2,?_⟩
 refine⟨_,rfl,n1,n1,eT,_,rfl,n2,n2,fun p6 QF=>?_⟩
 refine⟨_,_,(Sub.new QF) _ _ h5,aa,sm (by rw[CO];show 7+2≤1000;decide),fun p7 QG=>?_⟩
 have kn:=oi hN (z := "nobody") (by trivial)
 have qp:∀S,∀x:D,QA S x→QA S (.tup (ps.map My.p3++[x])):=fun S x hx=>fH (by rw[zl,zc];show _+1≤_;lia) fun v hv=>by
  rcases zC.mp hv with hv|hv
  ·exact (VJ S).in hv
  ·rw[zi.mp hv];exact hx
 generalize Ui:([.tup [.tup (ps.map My.p3++[.tup [.str "nobody",.str "up",.str "last"]]),.str wy],.tup [.tup (ps.map My.p3++[.tup [.str "nobody"]]),.str wy]]:List D)=M1 at QG ⊢
 have Uj:∀d∈L1++M1,Bo S3 cs d:=by
  intro d hd
  rcases zC.mp hd with hd|hd
  ·exact PD d hd
  rw[← Ui] at hd
  simp only [ze,zm,or_false] at hd
  rcases hd with rfl|rfl
  ·refine⟨br (qp _ _ (eX (aj (by decide)) (aj (by decide)) (aj (by decide)))) (ID _),fJ (zA _ (zi.mpr rfl)) ?_⟩
   show ((!av (qu cs (.str "nobody"))) && _)=false
   rw[kn];rfl
  ·exact⟨br (qp _ _ (dJ (aj (by decide)))) (ID _),fJ (zA _ (zi.mpr rfl)) rfl⟩
 have sH:(L1++M1).length=9:=by rw[zl,CO,← Ui];rfl
 have VL:=(Sub.new (c:=.lst M1) QF).trans (.new (c:=.lst (L1++M1)) QG)
 have h7:((S3.set p6 (.lst M1)).set p7 (.lst (L1++M1))) p7=some (.lst (L1++M1)):=aa
 generalize ((S3.set p6 (.lst M1)).set p7 (.lst (L1++M1)))=S4 at VL h7 ⊢
 generalize L1++M1=L2 at Uj sH h7 ⊢
 clear PD CO h5
 have Uk:∀d∈L2,Bo S4 cs d:=fun d hd=>(Uj d hd).sub VL
 have Ul:=IE.sub VL
 have Mt:=IC.trans VL
 refine⟨fun aD S'=>∃(o6:Option D) (L:List D) (pL:Addr),aD=[some (.ref l),some (.tup (cs.map aC)),some (.tup (ps.map My.p3)),some (.str wy),some odd,some (.ref pL),o6]∧S' pL=some (.lst L)∧0<L.length∧L.length≤20∧(∀d∈L,Bo S' cs d)∧Sub S S',?_,?_⟩
 ·refine⟨_,rfl,vN,C6 (v8 hg hN) ⟨_,rfl,bJ (fun hc=>?_) (fun hc=>fo ⟨_,L2,p7,rfl,h7,by lia,by lia,Uk,Mt⟩)⟩⟩
  cases cs with
  |nil=>cases hc
  |cons c cs =>
  refine⟨_,rfl,_,wk _ _,_,rfl,?_⟩
  have qn:∀S,QA S (.str c.1):=fun S=>aj (by
   have:=hN c zx
   have:∀z∈sD,z.cps.size≤1000:=by trivial
   exact this _ (hN c zx))
  have sl:∀S,QA S (.str "last"):=fun S=>aj (by decide)
  have su:∀S,QA S (.str "up"):=fun S=>aj (by decide)
  refine⟨_,rfl,_,rfl,_,rfl,n3,n1,_,rfl,n2,?_⟩
  refine⟨_,rfl,_,rfl,n3,n1,_,rfl,n2,?_⟩
  refine⟨_,rfl,n3,n1,_,_,rfl,rfl,by decide,by decide,_,rfl,n2,n3,fun p8 QH=>?_⟩
  refine⟨_,_,(Sub.new QH) _ _ h7,aa,sm (by rw[sH];show 9+3≤1000;decide),fun p9 QI=>?_⟩
  generalize Um:([.tup [.tup [.tup [.str c.1,odd,.str "last"]],.str wy],.tup [.tup [.tup [.str c.1,.str "up",odd]],.str wy],.tup [.tup (List.replicate (2:Int).toNat (.tup [.str c.1,.str "up",.str "last"])),.str wy]]:List D)=M2 at QI ⊢
  have PF:∀d∈L2++M2,Bo S4 (c::cs) d:=by
   intro d hd
   rcases zC.mp hd with hd|hd
   ·exact Uk d hd
   rw[← Um] at hd
   simp only [ze,zm,or_false] at hd
   rcases hd with rfl|rfl|rfl
   ·refine⟨br (dJ (eX (qn _) Ul.q (sl _))) (ID _),fJ (zi.mpr rfl) ?_⟩
    show (_ && (ofStr dI odd && _))=false
    rw[Ul.w];simp
   ·refine⟨br (dJ (eX (qn _) (su _) Ul.q)) (ID _),fJ (zi.mpr rfl) ?_⟩
    show (_ && (_ && ofStr pB odd))=false
    rw[Ul.e];simp
   ·exact⟨br (lJ (by decide) (eX (qn _) (su _) (sl _))) (ID _),E3⟩
  have VM:(L2++M2).length=12:=by rw[zl,sH,← Um];rfl
  have s9:=(Sub.new (c:=.lst M2) QH).trans (.new (c:=.lst (L2++M2)) QI)
  have h9:((S4.set p8 (.lst M2)).set p9 (.lst (L2++M2))) p9=some (.lst (L2++M2)):=aa
  generalize (S4.set p8 (.lst M2)).set p9 (.lst (L2++M2))=S5 at s9 h9 ⊢
  generalize L2++M2=L3 at PF VM h9 ⊢
  refine⟨_,rfl,_,rfl,n2,n1,_,rfl,n2,?_⟩
  refine⟨_,rfl,n3,fun Mu E6=>⟨n1,_,rfl,n2,?_⟩⟩
  refine⟨_,rfl,n3,n1,_,rfl,n2,n3,fun p11 PH=>?_⟩
  refine⟨_,_,(Sub.new PH) _ _ ((Sub.new E6) _ _ h9),aa,sm (by rw[VM];show 12+3≤1000;decide),fun p12 PJ=>?_⟩
  generalize QJ:([.tup [.tup [.tup [.str c.1,.str "up"]],.str wy],.tup [.tup [.ref Mu],.str wy],.tup [.tup [.tup [odd,.str "up",.str "last"]],.str wy]]:List D)=M3 at PJ ⊢
  have Zq:=(Sub.new (c:=.lst [.str c.1,.str "up",.str "last"]) E6).trans ((Sub.new (c:=.lst M3) PH).trans (.new (c:=.lst (L3++M3)) PJ))
  have r10:=jU (((Sub.new (c:=.lst M3) PH).trans (.new (c:=.lst (L3++M3)) PJ)) Mu _ aa)
  refine fo ⟨some (.str c.1),L3++M3,p12,rfl,aa,by rw[zl,VM,← QJ];show 0<12+3;decide,by rw[zl,VM,← QJ];show 12+3≤20;decide,fun d hd=>?_,(Mt.trans s9).trans Zq⟩
  rcases zC.mp hd with hd|hd
  ·exact (PF d hd).sub (s9.trans Zq)
  rw[← QJ] at hd
  have oq:=Ul.sub (s9.trans Zq)
  simp only [ze,zm,or_false] at hd
  rcases hd with rfl|rfl|rfl
  ·exact⟨br (dJ (br (qn _) (su _))) (ID _),fJ (zi.mpr rfl) rfl⟩
  ·exact⟨br (dJ r10) (ID _),fJ (zi.mpr rfl) rfl⟩
  ·refine⟨br (dJ (eX oq.q (su _) (sl _))) (ID _),fJ (zi.mpr rfl) ?_⟩
   show ((!av (qu (c::cs) odd)) && _)=false
   rw[oq.k];rfl
 ·rintro aD S' ⟨o6,L,pL,rfl,Uo,hL0,PB,bo,sb⟩
  refine⟨_,rfl,_,rfl,_,rfl,_,rfl,.inl ⟨_,Uo,l,_,rfl,by lia,nX (by lia) (by lia),sb _ _ hw,fun n h0 h1=>?_⟩⟩
  obtain⟨v,e1,e2⟩:=jY (l:=L) h0 h1
  exact⟨L,v,Uo,e1,fo (q v S' sb (bo v (zK e2)))⟩
def Bs(S:aG)(cs:List (Str×Str))(d:D):Prop:=QA S d∧lF cs 8 0 [d]=false
theorem Bs.sub(b:Sub S S')(h:Bs S cs d):Bs S' cs d:=⟨h.1.sub b,h.2⟩
theorem BO:lF cs (n+1) p [d]=(decide (p+1≤200) && (gG cs d && lF cs n (p+1) (subs d))):=by
 show (if (1:Nat)=0 then true else decide (p+1≤200) && ((gG cs d && true) && lF cs n (p+1) (subs d++[])))=_
 rw[if_neg (by decide),Bool.and_true,yC]
theorem aU(h:gG cs d=false):lF cs 8 0 [d]=false:=by rw[BO,h];rfl
theorem PK(he:e∈es)(h:gG cs e=false):lF cs (n+1) p es=false:=by
 unfold lF
 rw[if_neg fun z=>by rw[List.eq_nil_of_length_eq_zero z] at he;cases he]
 rw[show es.all (gG cs)=false from List.all_eq_false.mpr ⟨e,he,by rw[h];exact zd⟩]
 simp
theorem BP(he:e∈subs d)(h:gG cs e=false):lF cs 8 0 [d]=false:=by
 rw[BO,PK he h];simp
theorem C7(h:qu cs x=.aw):mH cs o x v=false:=by unfold mH;rw[h]
theorem v_(hg:Gd cs)(hc:(z,k)∈cs)(h:fE k v=false):mH cs o (.str z) v=false:=by
 unfold mH
 rw[nZ hg hc]
 show (fE k v && _)=false
 rw[h];rfl
theorem yZ{cs:List (Str×Str)}(hg:Gd cs){o k:Str}{z:Str}(hc:(z,k)∈cs)(h:o ≠ "is"):mH cs o (.str z) .aw=false:=by
 unfold mH
 rw[nZ hg hc]
 show (_ && (decide (o = "is") || (_ && false)))=false
 rw[zw h,Bool.and_false];simp
theorem BQ(hg:Gd cs)(hc:(z,k)∈cs)(h:k ≠ "word"):mH cs "begins" (.str z) v=false:=by
 unfold mH
 rw[nZ hg hc]
 show (_ && (false || ((!(true && !decide (k = "word"))) && _)))=false
 rw[zw h];simp
structure Od(S:aG)(cs:List (Str×Str))(d:D):Prop where
 q:QA S d
 k:qu cs d=.aw
 f:gG cs d=false
 t:gG cs (.tup [d])=false
theorem Od.sub(b:Sub S S')(h:Od S cs d):Od S' cs d:=⟨h.q.sub b,h.k,h.f,h.t⟩
theorem Up:PySem.Txt.mul "x" 41 = "xxxxxxxxxxxxxxxxxxxxxxxxxxxxxxxxxxxxxxxxx" := by trivial
theorem Mv:MulOk "x" 41:=⟨by decide,by decide,by trivial⟩
def Zr:eF:=fun ds S R _=>∃l cs,ds=[.ref l,.tup (cs.map aC)]∧Gd cs∧(∀c∈cs,c.1∈sD)∧S l=some .well∧∀o S',Sub S S'→Bs S' cs o→R o S'
theorem wa(T:Txt w K mg t):Ok P w base T.jv 3 Zr:=by
 refine T.jv.F.dM aR ?_
 rintro _ _ _ _ _ _ ds S R Z hr ⟨l,cs,e,hg,hN,hw,q⟩
 subst e
 have n1:=iV
 have n2:=fQ
 have n3:=fR
 have n7:=OV
 refine⟨_,(sc (cR (i:=2) aR.nd (qJ (ix hr.u (a_ (ac ds (ac ds (ac dn (ac di (ac (ay (ac ds an)) (ac (a_ (ac ds an)) (ac db an)))))))) (aZ T.aM (bq T) hr (ac (dv 0) (ac di an)))))) (sc (cR (i:=3) aR.nd (a_ (ac (ay (ac ds (ac di an))) (ac (ay an) (ac dn (ac ds (ac (a_ (ac ds an)) (ac (ay (ac ds an)) (ac (ay (ac (dv 2) an)) (ac (ay (ac ds (ac (dv 2) (ac dn an)))) (ac (ay (ac ds (ac (a_ (ac (aZ T.xR (BF T) hr (ac (dv 0) an)) an)) an))) an))))))))))) (sc (cR (i:=3) aR.nd (bo bT hr.u (dv 3) (a_ (ac (ay (ac ds (ac (ay (ac ds an)) an))) (ac (ay (ac ds (ac (bo i8 hr.u (ay (ac ds an)) di) an))) (ac (ay (ac ds an)) (ac (ay (ac ds an)) (ac (ay (ac ds (ac (dv 2) an))) (ac (ay (ac ds (ac (ay (ac (ay (ac ds an)) (ac (dv 2) an))) an))) an))))))))) (sc (cR (i:=3) aR.nd (bo bT hr.u (dv 3) (a_ (ac (ay (ac ds (ac (a_ (ac (ay (ac ds an)) an)) an))) (ac (ay (ac ds (ac (dv 2) (ac di an)))) (ac (ay (ac ds (ac (bo i8 hr.u (ay (ac (ay (ac ds an)) an)) di) an))) (ac (ay (ac ds (ac (ay (ac ds an)) an))) an))))))) (sc (Ea (si (bX l4 hr.u (dv 1) (ay an)) (sc (sa (ix hr.u (dv 1) (aZ T.aM (bq T) hr (ac (dv 0) (ac (cb bU T.bK aX (ac (dv 1) an)) an)))) (gt (n:=2) (gc (gn (i:=5) aR.nd) (gc (gn (i:=6) aR.nd) g0)))) (sc (cR (i:=4) aR.nd (ix hr.u (qJ (ix hr.u (a_ (ac (a_ (ac ds (ac db (ac (ay (ac di an)) an)))) (ac (a_ (ac di (ac db (ac (bo iM hr.u ds di) an)))) an))) (ct iN T.gT dS (ac (cm bw hr.u (dv 6) ds) an)))) (aZ T.aM (bq T) hr (ac (dv 0) (ac di an))))) (sc (cR (i:=3) aR.nd (bo bT hr.u (dv 3) (a_ (ac (ay (ac ds (ac (dv 5) (ac (dv 4) an)))) (ac (ay (ac ds (ac (dv 5) (ac dn an)))) (ac (ay (ac ds (ac (dv 5) (ac (dv 4) an)))) (ac (ay (ac ds (ac (dv 5) an))) an))))))) (s1 (cR (i:=3) aR.nd (bo bT hr.u (dv 3) (a_ (ac (ay (ac ds (ac (dv 5) (ac dn an)))) (ac (ay (ac ds (ac (dv 5) (ac (qJ (ix hr.u (a_ (ac di (ac (bo iM hr.u ds di) an))) (ct iN T.gT dS (ac (cm bw hr.u (dv 6) ds) an)))) an)))) (ac (ay (ac ds (ac (dv 5) an))) an)))))))))) s0)) (s1 (sr (ix hr.u (dv 3) (aZ T.aM (bq T) hr (ac (dv 0) (ac (cb bU T.bK aX (ac (dv 3) an)) an))))))))))),?_⟩
 refine⟨n1,n1,fun p1 sE=>⟨n7,fun p2 fT=>⟨_,rfl,l,_,rfl,(by decide),(by decide),wl (wl hw sE) fT,fun n h0 h1=>bY h0 h1 fT fun odd BN=>?_⟩⟩⟩
 have IB:Sub S (S.set p1 (.lst [.str "a"])):=.new sE
 have hO:Od (S.set p1 (.lst [.str "a"])) cs odd:=by
  simp only [ze,zm,or_false] at BN
  rcases BN with rfl|rfl|rfl|rfl|rfl|rfl|rfl
  ·exact⟨aj (by decide),oi hN (by trivial),rfl,n_ (by trivial) _⟩
  ·exact⟨aj (by decide),oi hN (by trivial),rfl,n_ (by trivial) _⟩
  ·exact⟨lH,rfl,rfl,rfl⟩
  ·exact⟨lI,rfl,rfl,rfl⟩
  ·exact⟨dJ (aj (by decide)),rfl,n_ (by trivial) _,rfl⟩
  ·exact⟨jU aa,rfl,rfl,rfl⟩
  ·exact⟨C5,rfl,rfl,rfl⟩
 clear BN
 generalize S.set p1 (.lst [.str "a"])=S1 at IB hO fT ⊢
 have ev:∀S,QA S (.tup [.str "every"]):=fun S=>dJ (aj (by decide))
 refine⟨n2,vN,n1,fun p3 KH=>⟨n1,_,rfl,n1,_,rfl,n3,?_⟩⟩
 have Zs:Sub S1 (S1.set p3 (.lst [.str "every"])):=.new KH
 refine⟨_,rfl,l,_,rfl,rfl,(IB.trans Zs) _ _ hw,?_⟩
 rintro kd ⟨kz,hkz,rfl⟩
 refine⟨n1,fun p4 HU=>⟨n2,YE,fun p5 K9=>?_⟩⟩
 generalize PB:([.tup [.str "every",.int 1],.tup [],.aw,.str "every",.ref p3,.tup [.str "all"],.tup [odd],.tup [.str "is",odd,.aw],.tup [.str "key",.ref p4]]:List D)=L1
 have VN:=Zs.trans ((Sub.new (c:=.lst [.str kz]) HU).trans (.new (c:=.lst L1) K9))
 have h5:(((S1.set p3 (.lst [.str "every"])).set p4 (.lst [.str kz])).set p5 (.lst L1)) p5=some (.lst L1):=aa
 have PC:∀d∈L1,Bs (((S1.set p3 (.lst [.str "every"])).set p4 (.lst [.str kz])).set p5 (.lst L1)) cs d:=by
  have o2:=hO.sub VN
  have r4:=jU ((Sub.new (c:=.lst L1) K9) p4 _ aa)
  have r3:=jU (((Sub.new (c:=.lst [.str kz]) HU).trans (.new (c:=.lst L1) K9)) p3 _ aa)
  generalize ((S1.set p3 (.lst [.str "every"])).set p4 (.lst [.str kz])).set p5 (.lst L1)=S2 at o2 r3 r4 ⊢
  intro d hd
  rw[← PB] at hd
  simp only [ze,zm,or_false] at hd
  rcases hd with rfl|rfl|rfl|rfl|rfl|rfl|rfl|rfl|rfl
  ·exact⟨br (aj (by decide)) lI,aU (by rw[rP];rfl)⟩
  ·exact⟨fH (by simp) (by simp),aU rfl⟩
  ·exact⟨lH,aU rfl⟩
  ·exact⟨aj (by decide),aU rfl⟩
  ·exact⟨r3,aU rfl⟩
  ·exact⟨dJ (aj (by decide)),aU (n_ (by trivial) _)⟩
  ·exact⟨dJ o2.q,aU o2.t⟩
  ·exact⟨eX (aj (by decide)) o2.q lH,aU (by rw[fI (.inl rfl)];exact C7 o2.k)⟩
  ·exact⟨br (aj (by decide)) r4,aU (by rw[n6];rfl)⟩
 have CO:L1.length=9:=by rw[← PB];rfl
 have IE:=hO.sub VN
 have Cg:=IB.trans VN
 generalize ((S1.set p3 (.lst [.str "every"])).set p4 (.lst [.str kz])).set p5 (.lst L1)=S2 at h5 PC IE Cg ⊢
 clear VN Zs hO HU K9
 refine⟨_,rfl,n1,n2,?_⟩
 refine⟨n1,_,_,rfl,rfl,by decide,by decide,n2,n1,n1,_,rfl,n2,?_⟩
 refine⟨n1,_,rfl,n2,n2,YC,fun p6 QF=>?_⟩
 refine⟨_,_,(Sub.new QF) _ _ h5,aa,sm (by rw[CO];show 9+6≤1000;decide),fun p7 QG=>?_⟩
 generalize Ui:([.tup [.str "key",.tup [.str "A"]],.tup [.str "key",.tup (List.replicate (9:Int).toNat (.str "a"))],.tup [.str "key"],.tup [.str "not"],.tup [.str "not",odd],.tup [.str "and",.tup [.tup [.str "every"],odd]]]:List D)=M1 at QG ⊢
 have PD:∀d∈L1++M1,Bs S2 cs d:=by
  intro d hd
  rcases zC.mp hd with hd|hd
  ·exact PC d hd
  rw[← Ui] at hd
  simp only [ze,zm,or_false] at hd
  rcases hd with rfl|rfl|rfl|rfl|rfl|rfl
  ·exact⟨br (aj (by decide)) (dJ (aj (by decide))),aU (by rw[n6];decide +kernel)⟩
  ·exact⟨br (aj (by decide)) (lJ (by decide) (aj (by decide))),aU (by rw[n6];decide +kernel)⟩
  ·exact⟨dJ (aj (by decide)),aU (by rw[n6];rfl)⟩
  ·exact⟨dJ (aj (by decide)),aU (by rw[vX];rfl)⟩
  ·exact⟨br (aj (by decide)) IE.q,BP (by rw[jP];exact zi.mpr rfl) IE.f⟩
  ·exact⟨br (aj (by decide)) (br (ev _) IE.q),BP (by rw[eI (.inl rfl)];exact zp _ (zi.mpr rfl)) IE.f⟩
 have sH:(L1++M1).length=15:=by rw[zl,CO,← Ui];rfl
 have Uq:=(Sub.new (c:=.lst M1) QF).trans (.new (c:=.lst (L1++M1)) QG)
 have h7:((S2.set p6 (.lst M1)).set p7 (.lst (L1++M1))) p7=some (.lst (L1++M1)):=aa
 generalize (S2.set p6 (.lst M1)).set p7 (.lst (L1++M1))=S3 at Uq h7 ⊢
 generalize L1++M1=L2 at h7 PD sH ⊢
 have hO3:=IE.sub Uq
 have IC:=Cg.trans Uq
 have Uj:∀d∈L2,Bs S3 cs d:=fun d hd=>(PD d hd).sub Uq
 clear PC PD IE h5 Uq QF QG
 refine⟨_,rfl,n1,n1,fun p8 QH=>⟨n2,?_⟩⟩
 refine⟨_,rfl,n3,?_⟩
 refine⟨n1,n1,_,_,rfl,rfl,by decide,by decide,n2,n1,n2,EK,fun p9 QI=>?_⟩
 refine⟨_,_,(Sub.new QI) _ _ ((Sub.new QH) _ _ h7),aa,sm (by rw[sH];show 15+4≤1000;decide),fun Mu E6=>?_⟩
 have VO:Sub S3 (S3.set p8 (.lst [.tup [.str "every"]])):=.new QH
 have r8:=jU (S:=S3.set p8 (.lst [.tup [.str "every"]])) (p:=p8) aa
 generalize Um:([.tup [.str "or",.ref p8],.tup [.str "below",odd,.int 1],.tup [.str "and",.tup (List.replicate (9:Int).toNat (.tup [.str "every"]))],.tup [.str "or",.tup [.str "every"]]]:List D)=M2 at E6 ⊢
 have Uk:∀d∈L2++M2,Bs (S3.set p8 (.lst [.tup [.str "every"]])) cs d:=by
  have o3:=hO3.sub VO
  intro d hd
  rcases zC.mp hd with hd|hd
  ·exact (Uj d hd).sub VO
  rw[← Um] at hd
  simp only [ze,zm,or_false] at hd
  rcases hd with rfl|rfl|rfl|rfl
  ·exact⟨br (aj (by decide)) r8,aU (by rw[n8 (.inr rfl)];rfl)⟩
  ·exact⟨eX (aj (by decide)) o3.q lI,aU (by rw[fI (.inr (.inl rfl))];exact C7 o3.k)⟩
  ·exact⟨br (aj (by decide)) (lJ (by decide) (ev _)),aU (by rw[n8 (.inl rfl)];decide +kernel)⟩
  ·exact⟨br (aj (by decide)) (dJ (aj (by decide))),BP (e:=.str "every") (by rw[eI (.inr rfl)];exact zi.mpr rfl) rfl⟩
 have Zt:(L2++M2).length=19:=by rw[zl,sH,← Um];rfl
 have PL:=(Sub.new (c:=.lst M2) QI).trans (.new (c:=.lst (L2++M2)) E6)
 have QE:(((S3.set p8 (.lst [.tup [.str "every"]])).set p9 (.lst M2)).set Mu (.lst (L2++M2))) Mu=some (.lst (L2++M2)):=aa
 have Mt:=(IC.trans VO).trans PL
 have PF:∀d∈L2++M2,Bs (((S3.set p8 (.lst [.tup [.str "every"]])).set p9 (.lst M2)).set Mu (.lst (L2++M2))) cs d:=fun d hd=>(Uk d hd).sub PL
 generalize ((S3.set p8 (.lst [.tup [.str "every"]])).set p9 (.lst M2)).set Mu (.lst (L2++M2))=S4 at QE Mt PF ⊢
 generalize L2++M2=L3 at QE PF Zt ⊢
 clear Uj Uk h7 VO PL r8 QH QI E6 hO3
 refine⟨fun aD S'=>∃(o4 o5 o6:Option D) (L:List D) (pL:Addr),aD=[some (.ref l),some (.tup (cs.map aC)),some odd,some (.ref pL),o4,o5,o6]∧S' pL=some (.lst L)∧0<L.length∧L.length≤30∧(∀d∈L,Bs S' cs d)∧Sub S S',?_,?_⟩
 ·refine⟨_,rfl,vN,C6 (v8 hg hN) ⟨_,rfl,bJ (fun hc=>?_) (fun hc=>fo ⟨_,_,_,L3,Mu,rfl,QE,by lia,by lia,PF,Mt⟩)⟩⟩
  have Cf:0<cs.length:=by
   cases cs with
   |nil=>cases hc
   |cons c cs=>exact Nat.succ_pos _
  have h8:=hg.1
  refine⟨_,rfl,_,rfl,_,rfl,_,rfl,?_⟩
  refine Mp ⟨l,_,rfl,by rw[zc];lia,nX (by rw[zc];lia) (by rw[zc];lia),Mt _ _ hw,fun nc hc0 Qy=>?_⟩
  obtain⟨cd,e1,e2⟩:=jY (l:=cs.map aC) hc0 Qy
  obtain⟨c,Mw,rfl⟩:=zf.mp (zK e2)
  refine⟨_,e1,_,rfl,rfl,_,_,rfl,_,_,rfl,rfl,?_⟩
  have Vr:=(hg.2.2 c Mw).2
  refine⟨n1,n3,fun pa hpa=>⟨Mv,n3,fun pb Ur=>⟨n2,fun pc Us=>⟨_,rfl,.inr ⟨_,rfl,?_⟩⟩⟩⟩⟩
  generalize hNA:([.str "x",.bl true,.tup [.int 1]]:List D)=NA at Ur Us ⊢
  generalize hNB:([.int 1,.bl true,.str (PySem.Txt.mul "x" 41)]:List D)=NB at Us ⊢
  have sa:Sub S4 ((((S4.set pa (.lst NA)).set pb (.lst NB)).set pc (.lst [.ref pa,.ref pb]))):=((Sub.new hpa).trans (.new Ur)).trans (.new Us)
  have QT:((((S4.set pa (.lst NA)).set pb (.lst NB)).set pc (.lst [.ref pa,.ref pb]))) pc=some (.lst [.ref pa,.ref pb]):=aa
  have Ym:((((S4.set pa (.lst NA)).set pb (.lst NB)).set pc (.lst [.ref pa,.ref pb]))) pb=some (.lst NB):=(Sub.new Us) _ _ aa
  have haa:((((S4.set pa (.lst NA)).set pb (.lst NB)).set pc (.lst [.ref pa,.ref pb]))) pa=some (.lst NA):=((Sub.new Ur).trans (.new Us)) _ _ aa
  generalize ((S4.set pa (.lst NA)).set pb (.lst NB)).set pc (.lst [.ref pa,.ref pb])=S5 at sa QT Ym haa ⊢
  refine⟨_,.ref (if decide (c.2 = "word")=true then pb else pa),QT,(by show m6 [D.ref pa,D.ref pb] (if decide (c.2 = "word")=true then (1:Int) else 0)=_;split <;> rfl),fo ?_⟩
  refine⟨_,rfl,l,_,rfl,by decide,by decide,(Mt.trans sa) _ _ hw,fun no ho0 Iw=>?_⟩
  have Ut:S5 (if decide (c.2 = "word")=true then pb else pa)=some (.lst (if decide (c.2 = "word")=true then NB else NA)):=by split <;> assumption
  have hlen:(if decide (c.2 = "word")=true then NB else NA).length=3:=by rw[← hNA,← hNB];split <;> rfl
  obtain⟨VP,e3,e4⟩:=jY (l:=(if decide (c.2 = "word")=true then NB else NA)) ho0 (by rw[hlen];exact Iw)
  have K_:(∀S,QA S VP)∧fE c.2 VP=false:=by
   have hm:=zK e4
   rcases Vr with hk|hk
   ·rw[hk,if_neg (by trivial),← hNA] at hm
    simp only [ze,zm,or_false] at hm
    rw[hk]
    rcases hm with rfl|rfl|rfl
    ·exact⟨fun S=>aj (by decide),by trivial⟩
    ·exact⟨fun S=>C5,by trivial⟩
    ·exact⟨fun S=>dJ lI,by trivial⟩
   ·rw[hk,if_pos (by trivial),← hNB] at hm
    simp only [ze,zm,or_false] at hm
    rw[hk]
    rcases hm with rfl|rfl|rfl
    ·exact⟨fun S=>lI,by trivial⟩
    ·exact⟨fun S=>C5,by trivial⟩
    ·rw[Up];exact⟨fun S=>aj (by trivial),by trivial⟩
  refine⟨_,_,Ut,e3,?_⟩
  have qn:∀S,QA S (.str c.1):=fun S=>aj (by
   have:∀z∈sD,z.cps.size≤1000:=by trivial
   exact this _ (hN c Mw))
  refine⟨_,rfl,_,rfl,_,rfl,n3,_,rfl,n3,_,rfl,_,rfl,n3,_,rfl,n2,EK,fun pd hpd=>?_⟩
  refine⟨_,_,(Sub.new hpd) _ _ (sa _ _ QE),aa,sm (by rw[Zt];show 19+4≤1000;decide),fun pe Qt=>?_⟩
  generalize QJ:([.tup [.str "is",.str c.1,VP],.tup [.str "below",.str c.1,.aw],.tup [.str "above",.str c.1,VP],.tup [.str "is",.str c.1]]:List D)=M3 at Qt ⊢
  have VQ:(L3++M3).length=23:=by rw[zl,Zt,← QJ];rfl
  have bo6:∀d∈L3++M3,Bs S5 cs d:=by
   intro d hd
   rcases zC.mp hd with hd|hd
   ·exact (PF d hd).sub sa
   rw[← QJ] at hd
   simp only [ze,zm,or_false] at hd
   rcases hd with rfl|rfl|rfl|rfl
   ·exact⟨eX (aj (by decide)) (qn _) (K_.1 _),aU (by rw[fI (.inl rfl)];exact v_ hg Mw K_.2)⟩
   ·exact⟨eX (aj (by decide)) (qn _) lH,aU (by rw[fI (.inr (.inl rfl))];exact yZ hg Mw (by trivial))⟩
   ·exact⟨eX (aj (by decide)) (qn _) (K_.1 _),aU (by rw[fI (.inr (.inr (.inl rfl)))];exact v_ hg Mw K_.2)⟩
   ·exact⟨br (aj (by decide)) (qn _),aU (by rw[fI (.inl rfl)];rfl)⟩
  have Zu:=(Sub.new (c:=.lst M3) hpd).trans (.new (c:=.lst (L3++M3)) Qt)
  have Zv:((S5.set pd (.lst M3)).set pe (.lst (L3++M3))) pe=some (.lst (L3++M3)):=aa
  generalize (S5.set pd (.lst M3)).set pe (.lst (L3++M3))=S6 at Zu Zv ⊢
  generalize L3++M3=L4 at Zv bo6 VQ ⊢
  refine⟨_,rfl,_,rfl,n3,_,rfl,Mv,n2,fun pf hpf=>⟨_,rfl,.inr ⟨_,rfl,?_⟩⟩⟩
  refine⟨_,if decide (c.2 = "word")=true then .str (PySem.Txt.mul "x" 41) else .int 1,aa,(by show m6 [D.int 1,D.str (PySem.Txt.mul "x" 41)] (if decide (c.2 = "word")=true then (1:Int) else 0)=_;split <;> rfl),S6,.new hpf,?_⟩
  refine⟨n3,_,rfl,n2,n3,fun pg hpg=>?_⟩
  refine⟨_,_,(Sub.new hpg) _ _ Zv,aa,sm (by rw[VQ];show 23+3≤1000;decide),fun ph Zw=>?_⟩
  have Zx:∃Uu,(if decide (c.2 = "word")=true then D.str (PySem.Txt.mul "x" 41) else .int 1)=Uu∧(∀S,QA S Uu)∧mH cs "begins" (.str c.1) Uu=false:=by
   refine⟨_,rfl,?_⟩
   rcases Vr with hk|hk
   ·rw[if_neg (by rw[hk];decide +kernel)]
    exact⟨fun S=>lI,BQ hg Mw (by rw[hk];decide +kernel)⟩
   ·rw[if_pos (by rw[hk];decide +kernel),Up]
    exact⟨fun S=>aj (by trivial),v_ hg Mw (by rw[hk];decide +kernel)⟩
  obtain⟨Uu,eot,Iu,hf2⟩:=Zx
  rw[eot] at Zw ⊢
  generalize Zy:([.tup [.str "begins",.str c.1,.aw],.tup [.str "begins",.str c.1,Uu],.tup [.str "above",.str c.1]]:List D)=M4 at Zw ⊢
  have s6h:=(Sub.new (c:=.lst M4) hpg).trans (.new (c:=.lst (L4++M4)) Zw)
  refine fo ⟨_,_,_,L4++M4,ph,rfl,aa,by rw[zl,VQ,← Zy];show 0<23+3;decide,by rw[zl,VQ,← Zy];show 23+3≤30;decide,fun d hd=>?_,((Mt.trans sa).trans Zu).trans s6h⟩
  rcases zC.mp hd with hd|hd
  ·exact (bo6 d hd).sub (Zu.trans s6h)
  rw[← Zy] at hd
  simp only [ze,zm,or_false] at hd
  rcases hd with rfl|rfl|rfl
  ·exact⟨eX (aj (by decide)) (qn _) lH,aU (by rw[fI (.inr (.inr (.inr rfl)))];exact yZ hg Mw (by trivial))⟩
  ·exact⟨eX (aj (by decide)) (qn _) (Iu _),aU (by rw[fI (.inr (.inr (.inr rfl)))];exact hf2)⟩
  ·exact⟨br (aj (by decide)) (qn _),aU (by rw[fI (.inr (.inr (.inl rfl)))];rfl)⟩
 ·rintro aD S' ⟨o4,o5,o6,L,pL,rfl,Uo,hL0,PB,bo,sb⟩
  refine⟨_,rfl,_,rfl,_,rfl,_,rfl,.inl ⟨_,Uo,l,_,rfl,by lia,nX (by lia) (by lia),sb _ _ hw,fun n h0 h1=>?_⟩⟩
  obtain⟨v,e1,e2⟩:=jY (l:=L) h0 h1
  exact⟨L,v,Uo,e1,fo (q v S' sb (bo v (zK e2)))⟩
def BR:Nat→D
 |0=>.tup [.str "every"]
 |n+1=>.tup [.str "not",BR n]
theorem C8(S:aG):∀n,QA S (BR n)
 |0=>dJ (aj (by decide))
 |n+1=>br (aj (by decide)) (C8 S n)
theorem La(cs:List (Str×Str)):∀(m n p:Nat),m≤n→lF cs m p [BR n]=false:=by
 intro m
 induction m with
 |zero=>intro n p _;rfl
 |succ m ih =>
  intro n p h
  obtain⟨k,rfl⟩:∃k,n=k+1:=⟨n - 1,by lia⟩
  rw[BO,show subs (BR (k+1))=[BR k] from jP _,ih k _ (by lia)];simp
theorem H_(h:subs x=List.replicate m y):∀k,(List.replicate k x).flatMap subs=List.replicate (k * m) y:=by
 intro k
 induction k with
 |zero=>rw[Nat.zero_mul];rfl
 |succ k ih=>rw[List.replicate_succ,List.flatMap_cons,ih,h,List.replicate_append_replicate,Nat.succ_mul,Nat.add_comm]
theorem wb(hk:0<k)(hs:subs x=List.replicate m y)(h:lF cs n (p+k) (List.replicate (k * m) y)=false):lF cs (n+1) p (List.replicate k x)=false:=by
 unfold lF
 rw[if_neg (by rw[zG];lia),H_ hs,zG,h];simp
theorem PM(hk:0<k)(h:200<p+k):lF cs (n+1) p (List.replicate k x)=false:=by
 unfold lF
 rw[if_neg (by rw[zG];lia),zw (by rw[zG];lia)];rfl
theorem Lb(a b:D):T7 [.tup (List.replicate (8:Int).toNat a++[b])]=false:=by
 show decide ((List.replicate (8:Int).toNat a++[b]).length≤8)=false
 rw[zl,zG]
 rfl
def Zz:eF:=fun ds S R _=>∃l,ds=[.ref l,.int 2000]∧S l=some .well∧∀d,(∀S',QA S' d)→(∀cs,lF cs 8 0 [d]=false)→R d S
theorem rV(T:Txt w K mg t):Ok P w base T.gE 2 Zz:=by
 refine T.gE.F.dM ck ?_
 rintro _ _ _ _ _ _ ds S R Z hr ⟨l,e,hw,q⟩
 subst e
 have n1:=iV
 have n2:=fQ
 have ev:∀S,QA S (.tup [.str "every"]):=fun S=>dJ (aj (by decide))
 refine⟨_,(sc (cR (i:=2) ck.nd (ay (ac ds an))) (sc (cR (i:=3) ck.nd (aZ T.aM (bq T) hr (ac (dv 0) (ac di an)))) (sc (si (bX bw hr.u (dv 3) di) (s1 (sr (ay (ac ds (ac (bo bT hr.u (bo i8 hr.u (ay (ac (ay (ac ds (ac (bo i8 hr.u (ay (ac (ay (ac ds (ac (dv 2) an))) an)) di) an))) an)) di) (ay (ac (dv 2) an))) an))))) s0) (sc (si (bX bw hr.u (dv 3) di) (s1 (sr (ay (ac ds (ac (bo i8 hr.u (ay (ac (ay (ac ds (ac (bo i8 hr.u (ay (ac (ay (ac ds (ac (bo i8 hr.u (ay (ac (dv 2) an)) di) an))) an)) di) an))) an)) di) an))))) s0) (sc (Ea (J2 (Ou T.iu (ac (qJ (ix hr.u (a_ (ac di (ac (dv 1) an))) (aZ T.aM (bq T) hr (ac (dv 0) (ac di an))))) an)) (gn (i:=4) ck.nd) (s1 (cR (i:=2) ck.nd (ay (ac ds (ac (dv 2) an))))))) (s1 (sr (dv 2)))))))),?_⟩
 refine⟨n1,_,rfl,l,_,rfl,by decide,by decide,hw,fun way h0 h1=>?_⟩
 refine⟨_,rfl,_,rfl,bJ (fun hw0=>?_) (fun hw0=>?_)⟩
 ·refine⟨_,rfl,n2,n1,_,_,rfl,rfl,by decide,by decide,n2,n1,_,_,rfl,rfl,by decide,by decide,_,rfl,n1,?_,n2,?_⟩
  ·exact sm (by rw[zG];decide)
  refine fo (q _ (fun S'=>br (aj (by decide)) (fH (by rw[zl,zG];decide) fun v hv=>?_)) fun cs=>aU ?_)
  ·rcases zC.mp hv with hv|hv
   ·rw[List.eq_of_mem_replicate hv]
    exact br (aj (by decide)) (lJ (by decide) (br (aj (by decide)) (ev _)))
   ·rw[zi.mp hv];exact ev _
  ·rw[n8 (.inr rfl)]
   exact Lb _ _
 refine⟨_,rfl,_,rfl,bJ (fun Ku=>?_) (fun Ku=>?_)⟩
 ·refine⟨_,rfl,n1,_,_,rfl,rfl,by decide,by decide,n2,n1,_,_,rfl,rfl,by decide,by decide,n2,n1,_,_,rfl,rfl,by decide,by decide,n2,?_⟩
  refine fo (q _ (fun S'=>br (aj (by decide)) (lJ (by decide) (br (aj (by decide)) (lJ (by decide) (br (aj (by decide)) (lJ (by decide) (ev _))))))) fun cs=>?_)
  exact wb (k:=1) (m:=8) (by decide) (eI (.inl rfl) _) (wb (k:=8) (m:=8) (by decide) (eI (.inr rfl) _) (wb (k:=64) (m:=3) (by decide) (eI (.inl rfl) _) (PM (k:=192) (by decide) (by decide))))
 refine⟨fun aD S'=>∃(o4:Option D) (m:Nat),aD=[some (.ref l),some (.int 2000),some (BR m),some (.int way),o4]∧8≤m∧S'=S,?_,?_⟩
 ·refine⟨_,rfl,n2,fun p hp=>⟨_,rfl,l,_,rfl,(by decide),(by decide),wl hw hp,fun n h0 h1=>bY h0 h1 hp fun d hd=>?_⟩⟩
  obtain⟨m,rfl,hm,OC⟩:∃m:Nat,d=.int m∧8≤m∧m≤2000:=by
   have hd:d∈[D.int 8,.int 2000]:=hd
   simp only [ze,zm,or_false] at hd
   rcases hd with h|h
   ·exact⟨8,h,by decide,by decide⟩
   ·exact⟨2000,h,by decide,by decide⟩
  refine⟨m,rfl,by lia,by lia,?_⟩
  refine⟨fun i aD S'=>∃(o4:Option D),aD=[some (.ref l),some (.int 2000),some (BR i),some (.int way),o4]∧S'=S,⟨none,rfl,rfl⟩,fun _ _ _ _=>trivial,?_,?_⟩
  ·rintro i d aD S' hd ⟨o4,rfl,rfl⟩
   exact⟨_,rfl,n2,_,rfl,rfl⟩
  ·rintro aD S' ⟨o4,rfl,rfl⟩
   refine fo ⟨o4,_,rfl,?_,rfl⟩
   rw[cU]
   show 8≤((m:Int)).toNat
   lia
 ·rintro aD S' ⟨o4,m,rfl,hm,rfl⟩
  exact⟨_,rfl,fo (q _ (fun S'=>C8 S' m) fun cs=>La cs 8 m 0 hm)⟩
structure XF(K:Frag)(t:jf)(C:Addr)(b1 b2 b3:Bool):Prop where
 xc:XC K C
 xa:XA K C
 m:mroIn K C (.ref t.du)=some true
 k1:kitOne K (.ref C) (.ref t.aJ)=some b1
 k2:kitOne K (.ref C) (.ref t.aK)=some b2
 k3:kitOne K (.ref C) (.ref t.aE)=some b3
 n10:kitAny K (.ref C) ([t.cw,t.dY,t.bO,t.fc,t.dA,t.cZ,t.gO,t.gM,t.gN,t.fe].map Value.ref)=some false
 v:kitOne K (.ref C) (.type "ValueError")=some true
theorem y3(T:Txt w K mg t):XF K t t.aJ true false false:=⟨⟨T.cI⟩,T.jA,T.cJ,T.k_BadOrder_BadOrder,T.k_BadOrder_BadSieve,T.k_BadOrder_NoMoment,T.jD,T.k_BadOrder_ValueError⟩
theorem y4(T:Txt w K mg t):XF K t t.aK false true false:=⟨⟨T.fw⟩,T.jB,T.cK,T.k_BadSieve_BadOrder,T.k_BadSieve_BadSieve,T.k_BadSieve_NoMoment,T.jE,T.k_BadSieve_ValueError⟩
theorem y6(T:Txt w K mg t):XF K t t.aE false false true:=⟨⟨T.iw⟩,T.jC,T.cL,T.k_NoMoment_BadOrder,T.k_NoMoment_BadSieve,T.k_NoMoment_NoMoment,T.jF,T.k_NoMoment_ValueError⟩
def Tab(b1 b2 b3:Bool)(r:Str):Prop:=(b1=true∧b2=false∧b3=false∧r = "order")∨(b1=false∧b2=true∧b3=false∧r = "sieve")∨(b1=false∧b2=false∧b3=true∧r = "moment")
structure VR(t:jf)(C:Addr)(r:Str):Prop where
 of:(C=t.aJ∧r = "order")∨(C=t.aK∧r = "sieve")∨(C=t.aE∧r = "moment")
structure Ask(t:jf)(S:aG)(a:Addr)(cs:List (Str×Str))(o d m:D)(b1 b2 b3:Bool):Prop where
 sh:∃F dl rs,bA t.ag S a F cs dl rs
 g:Gd cs
 qo:QA S o
 qd:QA S d
 o1:fP cs o=b1
 d1:lF cs 8 0 [d]=b2
 o2:b1=true→∃ps wy,o=v7 ps wy∧Og cs ps wy
 d2:b2=true→Sg cs 3 d
 m1:b3=true→∃rows,Vw t.ag S a cs m rows
 m2:b3=false→Bw t.ag S a cs m
 tb:Tb t S
structure Plw(t:jf)(ds:List D)(S:aG)(R:KD)(Z:KX):Prop where
 of:Ub t ds S R Z
structure Ctw(t:jf)(ds:List D)(S:aG)(R:KD)(Z:KX):Prop where
 of:Ud t ds S R Z
def y7(b1 b2 b3:Bool):Str:=if b1=false then "order" else if b2=false then "sieve" else if b3=false then "moment" else "told"
def BS(b2 b3:Bool):Str:=if b2=false then "sieve" else if b3=false then "moment" else "told"
theorem Ask.pl{S:aG}{a:Addr}{cs:List (Str×Str)}{o d m:D}{b1 b2 b3:Bool}{R:KD}{Z:KX}(h:Ask t S a cs o d m b1 b2 b3)(q1:y7 b1 b2 b3 = "told" → ∀v S',Sub S S'→R v S')(q2:∀C,VR t C (y7 b1 b2 b3)→Z C S):Plw t [.ref a,o,d,m] S R Z:=by
 obtain⟨F,dl,rs,hS⟩:=h.sh
 refine⟨a,cs,o,d,m,F,dl,rs,rfl,h.g,hS,h.qo,h.qd,fun e=>?_,fun e1 e2=>?_,fun e1 e2=>?_⟩
 ·rw[h.o1] at e
  exact q2 _ ⟨.inl ⟨rfl,by unfold y7;rw[if_pos e]⟩⟩
 ·rw[h.o1] at e1
  rw[h.d1] at e2
  exact q2 _ ⟨.inr (.inl ⟨rfl,by unfold y7;rw[if_neg (by rw[e1];decide),if_pos e2]⟩)⟩
 ·rw[h.o1] at e1
  rw[h.d1] at e2
  refine⟨h.o2 e1,h.d2 e2,?_⟩
  cases b3 with
  |true =>
   obtain⟨rows,hv⟩:=h.m1 rfl
   exact .inl ⟨rows,hv,h.tb,q1 (by unfold y7;rw[if_neg (by rw[e1];decide),if_neg (by rw[e2];decide)];rfl)⟩
  |false=>exact .inr ⟨h.m2 rfl,q2 _ ⟨.inr (.inr ⟨rfl,by unfold y7;rw[if_neg (by rw[e1];decide),if_neg (by rw[e2];decide)];rfl⟩)⟩⟩
theorem Ask.ct{S:aG}{a:Addr}{cs:List (Str×Str)}{o d m:D}{b1 b2 b3:Bool}{R:KD}{Z:KX}(h:Ask t S a cs o d m b1 b2 b3)(q1:BS b2 b3 = "told" → ∀v S',Sub S S'→R v S')(q2:∀C,VR t C (BS b2 b3)→Z C S):Ctw t [.ref a,d,m] S R Z:=by
 obtain⟨F,dl,rs,hS⟩:=h.sh
 refine⟨a,cs,d,m,F,dl,rs,rfl,h.g,hS,h.qd,fun e2=>?_,fun e2=>?_⟩
 ·rw[h.d1] at e2
  exact q2 _ ⟨.inr (.inl ⟨rfl,by unfold BS;rw[if_pos e2]⟩)⟩
 ·rw[h.d1] at e2
  refine⟨h.d2 e2,?_⟩
  cases b3 with
  |true =>
   obtain⟨rows,hv⟩:=h.m1 rfl
   exact .inl ⟨rows,hv,h.tb,q1 (by unfold BS;rw[if_neg (by rw[e2];decide)];rfl)⟩
  |false=>exact .inr ⟨h.m2 rfl,q2 _ ⟨.inr (.inr ⟨rfl,by unfold BS;rw[if_neg (by rw[e2];decide)];rfl⟩)⟩⟩
def ZA(t:jf):eF:=fun ds S R _=>∃(way:Int) (a:Addr) (cs:List (Str×Str)) (o d m:D) (b1 b2 b3:Bool),ds=[.int way,.ref a,o,d,m]∧Ask t S a cs o d m b1 b2 b3∧((way=0∧R (.str (y7 b1 b2 b3)) S)∨(way=1∧R (.str (BS b2 b3)) S))
theorem Uv{Z:Addr→Prop}{c:Addr→Str→Prop}{q:Str→Prop}{G:Prop}(k:(∀C r,c C r→q r→Z C)→G)(h:∀C r,c C r→q r→Z C):G:=k h
theorem uA(T:Txt w K mg t)(B:Bm mg base):Ok P w base T.mq 11 (ZA t):=by
 have Ld:Ok P w base T.plain 10 (Plw t):=(HV T B).J3 fun ds S R Z h=>h.of
 have BU:Ok P w base T.mn 8 (Ctw t):=(yU T).J3 fun ds S R Z h=>h.of
 refine T.mq.F.dM cN ?_
 rintro _ _ _ _ _ _ ds S R Z hr ⟨way,a,cs,o,d,m,b1,b2,b3,e,hA,hq⟩
 subst e
 refine⟨_,(sc (cR (i:=5) cN.nd ds) (sc (Ea (XZ (i:=6) cN.nd T.vB ⟨T.jy⟩ (s1 (si (bX bw hr.u (dv 0) di) (s1 (se (aZ T.plain Ld hr (ac (dv 1) (ac (dv 2) (ac (dv 3) (ac (dv 4) an))))))) (s1 (se (aZ T.mn BU hr (ac (dv 1) (ac (dv 3) (ac (dv 4) an)))))))) (fun _=>(sc (cR (i:=7) cN.nd (a_ (ac (SO xg T.aq ak (ac (dv 6) (ac (dg (v:=.ref t.aJ) T.dw rfl fun _=>bL _) an))) (ac (SO xg T.aq ak (ac (dv 6) (ac (dg (v:=.ref t.aK) T.jz rfl fun _=>bL _) an))) (ac (SO xg T.aq ak (ac (dv 6) (ac (dg (v:=.ref t.aE) T.oH rfl fun _=>bL _) an))) an))))) (sc (cR (i:=8) cN.nd (SO xg T.aq ak (ac (dv 6) (ac (ay (ac (dg (v:=.ref t.cw) T.eC rfl fun _=>bL _) (ac (dg (v:=.ref t.dY) T.xU rfl fun _=>bL _) (ac (dg (v:=.ref t.bO) T.gW rfl fun _=>bL _) (ac (dg (v:=.ref t.fc) T.Br rfl fun _=>bL _) (ac (dg (v:=.ref t.dA) T.um rfl fun _=>bL _) (ac (dg (v:=.ref t.cZ) T.xV rfl fun _=>bL _) (ac (dg (v:=.ref t.gO) T.ED rfl fun _=>bL _) (ac (dg (v:=.ref t.gM) T.EB rfl fun _=>bL _) (ac (dg (v:=.ref t.gN) T.EC rfl fun _=>bL _) (ac (dg (v:=.ref t.fe) T.Bt rfl fun _=>bL _) an))))))))))) an)))) (sc (cR (i:=5) cN.nd ds) (s1 (si (twd (twand (bX bw hr.u (bm zQ PySem.F.slot_list_count PySem.F.type_list_count JX (dv 7) (ac db an)) di) (twand (tv (SO xg T.aq ak (ac (dv 6) (ac (uS T.vA sM) an)))) (tw1 (dN (tv (dv 8))))))) (s1 (cR (i:=5) cN.nd (qJ (ix hr.u (a_ (ac ds (ac ds (ac ds an)))) (bm zQ PySem.F.slot_list_index PySem.F.type_list_index w5 (dv 7) (ac db an)))))) s0)))))))) (s1 (sr (dv 5))))),?_⟩
 refine⟨fun aD S'=>∃r o6 o7 o8,aD=[some (.int way),some (.ref a),some o,some d,some m,some (.str r),o6,o7,o8]∧R (.str r) S',?_,?_⟩
 ·have cgt:∀(C:Addr) (r:Str),VR t C r→R (.str r) S→∃c1 c2 c3,XF K t C c1 c2 c3∧Tab c1 c2 c3 r:=by
   rintro C r ⟨⟨rfl,rfl⟩|⟨rfl,rfl⟩|⟨rfl,rfl⟩⟩ _
   ·exact⟨_,_,_,y3 T,.inl ⟨rfl,rfl,rfl,rfl⟩⟩
   ·exact⟨_,_,_,y4 T,.inr (.inl ⟨rfl,rfl,rfl,rfl⟩)⟩
   ·exact⟨_,_,_,y6 T,.inr (.inr ⟨rfl,rfl,rfl,rfl⟩)⟩
  refine⟨_,rfl,_,rfl,?_⟩
  refine' Uv (c:=VR t) (q:=fun r=>R (.str r) S) (fun hand=>?_) ?_
  rotate_left
  ·refine hq.elim (fun q=>?_) (fun q=>?_)
   ·refine bJ (fun _=>?_) (fun h=>absurd h (by rw[q.1];decide))
    exact⟨_,rfl,_,rfl,_,rfl,_,rfl,hA.pl (fun e v S' sb=>⟨S,sb, "told",none,none,none,rfl,by rw[← e];exact q.2⟩) fun C hC=>hand C _ hC q.2⟩
   ·refine bJ (fun h=>absurd h (by rw[q.1];decide)) (fun _=>?_)
    exact⟨_,rfl,_,rfl,_,rfl,hA.ct (fun e v S' sb=>⟨S,sb, "told",none,none,none,rfl,by rw[← e];exact q.2⟩) fun C hC=>hand C _ hC q.2⟩
  ·intro C r hC q
   obtain⟨c1,c2,c3,X,tb⟩:=cgt C _ hC q
   clear hC cgt
   refine⟨X.m,fun x hx=>?_⟩
   have he:(S.set x (.exc C)) x=some (.exc C):=aa
   refine⟨_,rfl,x,C,_,c1,rfl,he,X.xc,X.xa,.inl ⟨_,rfl,X.k1⟩,_,rfl,x,C,_,c2,rfl,he,X.xc,X.xa,.inl ⟨_,rfl,X.k2⟩,_,rfl,x,C,_,c3,rfl,he,X.xc,X.xa,.inl ⟨_,rfl,X.k3⟩,fR,fun p hp=>?_⟩
   have sub:=(Sub.new (c:=.exc C) hx).trans (.new (c:=.lst [.bl c1,.bl c2,.bl c3]) hp)
   have SV:=(Sub.new (c:=.lst [.bl c1,.bl c2,.bl c3]) hp) _ _ he
   have dU:((S.set x (.exc C)).set p (.lst [.bl c1,.bl c2,.bl c3])) p=some (.lst [.bl c1,.bl c2,.bl c3]):=aa
   generalize (S.set x (.exc C)).set p (.lst [.bl c1,.bl c2,.bl c3])=S2 at sub SV dU ⊢
   refine⟨_,rfl,Mc,x,C,_,false,rfl,SV,X.xc,X.xa,.inr (.inr ⟨_,rfl,X.n10⟩),?_⟩
   refine⟨_,rfl,⟨rfl,_,dU⟩,[c1,c2,c3],true,rfl,dU,_,rfl,?_⟩
   have hc:([c1,c2,c3].count true:Nat)=1:=by rcases tb with ⟨rfl,rfl,rfl,_⟩|⟨rfl,rfl,rfl,_⟩|⟨rfl,rfl,rfl,_⟩ <;> rfl
   refine bJ (fun _=>?_) (fun h=>absurd (zI h) (by rw[hc];decide))
   refine⟨_,rfl,x,C,_,true,rfl,SV,X.xc,X.xa,.inr (.inl ⟨_,rfl,X.v⟩),_,rfl,dh ⟨_,rfl,_,rfl,dh ?_⟩⟩
   refine⟨fR,fun p2 fT=>⟨_,rfl,⟨rfl,_,(Sub.new fT) _ _ dU⟩,?_⟩⟩
   have ZC:(S2.set p2 (.lst [.str "order",.str "sieve",.str "moment"])) p=some (.lst [.bl c1,.bl c2,.bl c3]):=(Sub.new fT) _ _ dU
   have ZD:(S2.set p2 (.lst [.str "order",.str "sieve",.str "moment"])) p2=some (.lst [.str "order",.str "sieve",.str "moment"]):=aa
   have PN:Sub S (S2.set p2 (.lst [.str "order",.str "sieve",.str "moment"])):=sub.trans (.new fT)
   rcases tb with ⟨rfl,rfl,rfl,rfl⟩|⟨rfl,rfl,rfl,rfl⟩|⟨rfl,rfl,rfl,rfl⟩
   ·exact⟨_,.bl true,0,rfl,ZC,rfl,rfl,⟨_,rfl,rfl⟩,fun m u hm=>absurd hm (Nat.not_lt_zero _),_,_,ZD,rfl,S,PN,fo ⟨"order",none,_,_,rfl,q⟩⟩
   ·refine⟨_,.bl true,1,rfl,ZC,rfl,rfl,⟨_,rfl,rfl⟩,fun m u hm hu=>?_,_,_,ZD,rfl,S,PN,fo ⟨"sieve",none,_,_,rfl,q⟩⟩
    obtain rfl:m=0:=by lia
    cases hu;rfl
   ·refine⟨_,.bl true,2,rfl,ZC,rfl,rfl,⟨_,rfl,rfl⟩,fun m u hm hu=>?_,_,_,ZD,rfl,S,PN,fo ⟨"moment",none,_,_,rfl,q⟩⟩
    obtain rfl|rfl:m=0∨m=1:=by lia
    ·cases hu;rfl
    ·cases hu;rfl
 ·rintro aD S' ⟨r,o6,o7,o8,rfl,q⟩
  exact⟨_,rfl,fo q⟩
def VS(S:aG)(F:List Addr)(S':aG):Prop:=∀b c,S b=some c→b∉F∧S' b=some c
theorem VS.sub(h:VS S F S'):Sub S S':=fun b c e=>(h b c e).2
theorem KI.nil(cs:List (Str×Str)):KI cs []:=⟨List.nodup_nil,by rintro _ ⟨⟩⟩
theorem rW(ns:List Int)(lo hi:Option Int):ia (ns.map D.int) lo hi=(ia ns lo hi).map D.int:=by
 unfold ia
 rw[zc,List.map_take,List.map_drop]
theorem C9(ns:List Int)(lo hi:Option Int):(ia ns lo hi).length≤ns.length:=by
 unfold ia
 rw[yb,List.length_drop];lia
structure St(t:jf)(S0:aG)(a:Addr)(fs:List (Addr×Ce))(F:List Addr)(cs:List (Str×Str))(dl:List D)(rs:pQ)(S:aG):Prop where
 sh:bA t.ag S a F cs dl rs
 fa:∀x∈fs,S x.1=some x.2∧x.1∉F∧S0 x.1=none
 nd:(fs.map Prod.fst).Nodup
 IF:VS S0 F S
section
variable{t:jf}{S0:aG}{a:Addr}{fs:List (Addr×Ce)}{F:List Addr}{cs:List (Str×Str)}{dl:List D}{rs:pQ}{S:aG}
theorem St.at(h:St t S0 a fs F cs dl rs S)(i:Nat)(e:fs[i]?=some (b,c)):S b=some c:=(h.fa _ (zK e)).1
theorem St.sub(h:St t S0 a fs F cs dl rs S)(b:Sub S S'):St t S0 a fs F cs dl rs S' :=
 ⟨h.sh.sub b,fun x hx=>⟨b _ _ (h.fa x hx).1,(h.fa x hx).2⟩,h.nd,fun x c hx=>⟨(h.IF x c hx).1,b _ _ (h.IF x c hx).2⟩⟩
theorem St.zero(h:St t S0 a fs F cs dl rs S)(hb:S b=none):S0 b=none:=by
 cases e:S0 b with
 |none=>rfl
 |some c=>have:=h.IF.sub _ _ e;rw[hb] at this;cases this
theorem St.new(h:St t S0 a fs F cs dl rs S)(hp:S p=none)(c:Ce):St t S0 a (fs++[(p,c)]) F cs dl rs (S.set p c):=by
 have h1:=h.sub (.new (c:=c) hp)
 refine⟨h1.sh,fun x hx=>?_,?_,h1.IF⟩
 ·rcases zC.mp hx with hx|hx
  ·exact h1.fa x hx
  ·rw[zi.mp hx]
   exact⟨aa,h.sh.out hp,h.zero hp⟩
 ·rw[zN,List.nodup_append]
  refine⟨h.nd,by simp,fun x hx y hy e=>?_⟩
  obtain⟨z,hz,rfl⟩:=zf.mp hx
  have hy:y=p:=by simpa using hy
  have:=(h.fa z hz).1
  rw[e,hy,hp] at this;cases this
theorem St.put(h:St t S0 a fs F cs dl rs S)(i:Nat)(e:fs[i]?=some (b,c))(c':Ce):St t S0 a (fs.set i (b,c')) F cs dl rs (S.set b c'):=by
 have hb:=h.fa _ (zK e)
 have hi:=(zr.mp e).1
 have em:(fs.set i (b,c')).map Prod.fst=fs.map Prod.fst:=by
  refine List.ext_getElem? fun j=>?_
  rw[zB,zB]
  by_cases q:j=i
  ·subst q
   rw[List.getElem?_set_self hi,e];rfl
  ·rw[List.getElem?_set_ne (Ne.symm q)]
 refine⟨h.sh.off hb.2.1,fun x hx=>?_,by rw[em];exact h.nd,fun x c hx=>⟨(h.IF x c hx).1,(af (iK hx hb.2.2)).trans (h.IF x c hx).2⟩⟩
 obtain⟨j,hj⟩:=List.getElem?_of_mem hx
 by_cases q:j=i
 ·subst q
  rw[List.getElem?_set_self hi] at hj
  cases hj
  exact⟨aa,hb.2⟩
 ·rw[List.getElem?_set_ne (Ne.symm q)] at hj
  have F_:=h.fa x (zK hj)
  refine⟨(af fun e2=>q ?_).trans F_.1,F_.2⟩
  have a1:(fs.map Prod.fst)[j]?=some x.1:=by rw[zB,hj];rfl
  have a2:(fs.map Prod.fst)[i]?=some b:=by rw[zB,e];rfl
  obtain⟨b1,c1⟩:=zr.mp a1
  obtain⟨b2,c2⟩:=zr.mp a2
  exact (List.getElem_inj h.nd (h₀:=b1) (h₁:=b2)).mp (by rw[c1,c2];exact e2)
theorem St.less(h:St t S0 a fs F cs dl rs S)(n:(UN.map Prod.fst).Nodup)(p:∀x∈UN,x∈fs):St t S0 a UN F cs dl rs S :=
 ⟨h.sh,fun x hx=>h.fa x (p x hx),n,h.IF⟩
theorem St.ZE(h:St t S0 a fs F cs dl rs S)(hS:bA t.ag S' a F' cs ZF eN)(hK:wm F F' S S'):St t S0 a fs F' cs ZF eN S' :=
 ⟨hS,fun x hx=>by obtain⟨h1,h2,h3⟩:=h.fa x hx;exact by obtain⟨k1,k2⟩:=hK _ _ h2 h1;exact⟨k2,k1,h3⟩,h.nd,fun x c hx=>by obtain⟨h1,h2⟩:=h.IF x c hx;exact hK _ _ h1 h2⟩
end
theorem Vw.sub(h:Vw C S a cs m rows)(b:Sub S S'):Vw C S' a cs m rows:=by
 obtain⟨F,dl,rs,h1,h2⟩:=h.sh
 exact⟨⟨F,dl,rs,h1.sub b,h2⟩,h.mo.sub b,h.len,h.rg⟩
def IG(kn:Kn)(ss:List Str):List Str:=ss.filter fun z=>(fS kn z).isSome
theorem oj{rs:pQ}{m:Nat}{kn:Kn}(hw:∀z,wt ((lu rs z).getD []) m=wu kn z)(ss:List Str):lC rs m ss=(jT kn (IG kn ss)).map aN:=by
 unfold lC jT IG
 rw[zF,show (fun z=>!av (wt ((lu rs z).getD []) ((m:Nat):Int)))=fun z=>(fS kn z).isSome from funext fun z=>by rw[hw,uz,Bool.not_not]]
 refine zZ fun z hz=>?_
 obtain⟨ws,tJ⟩:=Option.isSome_iff_exists.mp (List.mem_filter.mp hz).2
 unfold vR
 rw[hw]
 show D.tup [.str z,wu kn z]=.tup [.str z,.tup ((fS kn z).getD [])]
 unfold wu
 rw[tJ];rfl
theorem oP{C a:Addr}{S:aG}{F:List Addr}{cs:List (Str×Str)}{dl:List D}{rs:pQ}(hs:bA C S a F cs dl rs){s1 s2:List Str}(p1:s1.Perm (rs.map (·.1)))(o1:PyProof.Rows.sortedS s1=true)(p2:s2.Perm (rs.map (·.1)))(o2:PyProof.Rows.sortedS s2=true):s1=s2 :=
 EX (uy o1) (uy o2) (p1.nodup_iff.mpr (C2 hs)) (p2.nodup_iff.mpr (C2 hs)) fun z=>by rw[p1.mem_iff,p2.mem_iff]
theorem Le(hI:KI cs kn)(nd:ss.Nodup):Rg cs (jT kn (IG kn ss)):=by
 refine⟨fun r hr=>?_,?_⟩
 ·obtain⟨z,hz,rfl⟩:=zf.mp hr
  obtain⟨ws,tJ⟩:=Option.isSome_iff_exists.mp (List.mem_filter.mp hz).2
  show Wg cs ((fS kn z).getD [])
  rw[tJ]
  exact (hI.ok _ (vU tJ)).2
 ·unfold jT
  rw[zF]
  show ((IG kn ss).map id).Nodup
  rw[List.map_id]
  exact List.filter_sublist.nodup nd
theorem Lg(hI:KI cs kn):∀d∈(jT kn (IG kn ss)).map aN,Ly S 60 d:=fun d hd=>by
 obtain⟨r,hr,rfl⟩:=zf.mp hd
 obtain⟨z,hz,rfl⟩:=zf.mp hr
 obtain⟨ws,tJ⟩:=Option.isSome_iff_exists.mp (List.mem_filter.mp hz).2
 obtain⟨hk,YW⟩:=hI.ok _ (vU tJ)
 show Ly S 60 (.tup [.str z,.tup ((fS kn z).getD [])])
 rw[tJ]
 refine (Ly.tup (n:=1) fun x hx=>?_).le (by decide)
 simp only [ze,zm,or_false] at hx
 rcases hx with rfl|rfl
 ·exact (Ly.str (jN _ hk).2.2).le (by decide)
 ·exact YW.ly
theorem Mx{t:jf}{a:Addr}{S:aG}{F:List Addr}{cs:List (Str×Str)}{dl:List D}{rs:pQ}{m:Nat}{kn:Kn}{md:D}(hS:bA t.ag S a F cs dl rs)(hn:rs.length≤30)(hI:KI cs kn)(hw:∀z,wt ((lu rs z).getD []) m=wu kn z)(hm:lx dl.length md=some (m:Int))(OE:Gt S md):∃rows,Vw t.ag S a cs md rows:=by
 by_cases h:∃ss:List Str,ss.Perm (rs.map (·.1))∧PyProof.Rows.sortedS ss=true
 ·obtain⟨ss,p,o⟩:=h
  have hl:(jT kn (IG kn ss)).length≤30:=by
   unfold jT IG
   rw[zc]
   refine zL (List.length_filter_le _ _) ?_
   rw[p.length_eq,zc];exact hn
  refine⟨jT kn (IG kn ss),⟨F,dl,rs,hS,by lia,(fun e=>by rw[hm] at e;cases e),fun i s2 hi p2 o2=>?_⟩,OE,by lia,Le hI (p.nodup_iff.mpr (C2 hS))⟩
  rw[hm] at hi
  cases hi
  rw[oP hS p2 o2 p o]
  exact oj hw ss
 ·exact⟨[],⟨F,dl,rs,hS,by lia,(fun e=>by rw[hm] at e;cases e),fun i s2 hi p2 o2=>absurd ⟨s2,p2,o2⟩ h⟩,OE,by decide,⟨(by simp),by simp⟩⟩
theorem Uw(hN:∀c∈cs,c.1∈sD):∀{n:Nat}{d:D},Sg cs n d→QA S d:=by
 intro n
 induction n with
 |zero=>exact fun h=>h.elim
 |succ n ih =>
  rintro d ((rfl|⟨ks,rfl,h8,Ae⟩|⟨o,c,v,hc,hv,ho,rfl⟩)|⟨e,rfl,he⟩|⟨o,ds,ho,rfl,hl,hd⟩)
  ·exact dJ (aj (by decide))
  ·refine br (aj (by decide)) (fH (by rw[zc];lia) fun v hv=>?_)
   obtain⟨k,hk,rfl⟩:=zf.mp hv
   exact aj (by have:=(jN k (Ae k hk)).2.1;lia)
  ·have hz:∀z∈sD,z.cps.size≤1000:=by trivial
   have ZG:o.cps.size≤1000:=by
    rcases ho with rfl|⟨_,rfl|rfl|⟨rfl,_⟩⟩ <;> decide
   exact eX (aj ZG) (aj (hz _ (hN c hc))) (uv (T5 hv) (T6 hv))
  ·exact br (aj (by decide)) (ih he)
  ·have ZG:o.cps.size≤1000:=by rcases ho with rfl|rfl <;> decide
   exact br (aj ZG) (fH (by lia) fun v hv=>ih (hd v hv))
def bI(x:Bool):Int:=if x=true then 1 else 0
theorem wc{a b:D}(x:Bool):m6 [a,b] (if x=true then (1:Int) else 0)=some (if x=true then b else a):=by cases x <;> rfl
theorem Ia{xs out:List D}(hx:xs.length=3)(h:Paired (fun _ v=>∃b:Bool,v=.bl b) xs out):∃x y z:Bool,out=[.bl x,.bl y,.bl z]:=by
 obtain⟨a,b,c,rfl⟩:=T4 hx
 cases h with
 |cons r t =>
  cases t with
  |cons r2 t =>
   cases t with
   |cons r3 t =>
    cases t
    obtain⟨x,rfl⟩:=r
    obtain⟨y,rfl⟩:=r2
    obtain⟨z,rfl⟩:=r3
    exact⟨x,y,z,rfl⟩
def mM(x y z:Bool):List D:=((List.replicate (bI x).toNat (D.str "order")++List.replicate (bI y).toNat (D.str "sieve"))++List.replicate (bI z).toNat (D.str "moment"))++[D.str "told"]
def y8:D→Bool
 |.str z=>!decide (z = "order")
 |_=>false
theorem PQ(x y z:Bool):m6 (mM x y z) 0=some (.str (y7 (!x) (!y) (!z))):=by cases x <;> cases y <;> cases z <;> rfl
theorem Lh(x y z:Bool):m6 ((mM x y z).filter y8) 0=some (.str (BS (!y) (!z))):=by cases x <;> cases y <;> cases z <;> rfl
theorem Li(x y z:Bool):∀d∈mM x y z,∃s:Str,d=.str s:=by
 intro d hd
 unfold mM at hd
 rcases zC.mp hd with hd|hd
 ·rcases zC.mp hd with hd|hd
  ·rcases zC.mp hd with hd|hd
   ·exact⟨_,List.eq_of_mem_replicate hd⟩
   ·exact⟨_,List.eq_of_mem_replicate hd⟩
  ·exact⟨_,List.eq_of_mem_replicate hd⟩
 ·exact⟨_,zi.mp hd⟩
theorem Lj(x y z:Bool):(mM x y z).length≤4:=by cases x <;> cases y <;> cases z <;> decide
theorem wd{n:Nat}{i:Int}(h:¬ (0≤i∧i≤(n:Int))):lx n (.int i)=none:=if_neg h
theorem Ib{n:Nat}{i:Int}(h:0≤i∧i≤(n:Int)):lx n (.int i)=some i:=if_pos h
theorem Ie(x:Bool):0≤bI x∧bI x≤1:=by cases x <;> decide
def Mz(t:jf):eF:=fun ds S R _=>∃ns:List Int,ds=[.ko (ns.map D.int)]∧ns.length≤63∧Tb t S∧R (.bl true) S
theorem Lk(T:Txt w K mg t)(B:Bm mg base):Ok P w base T.YA 20 (Mz t):=by
 have Ig:Ok P w base T.vq 7 (Dos t):=(KR T).J3 fun ds S R Z h=>h.of
 refine T.YA.F.dM cA ?_
 rintro _ _ _ _ _ _ ds S R Z hr ⟨ns,e,OH,Zj,q⟩
 subst e
 have n2:=fQ
 have n1:=iV
 refine⟨_,(sc (cR (i:=1) cA.nd (aZ T.nQ (BG T) hr (ac (aZ T.rq (vT T) hr (ac (aZ T.j6 (rK T) hr (ac (dv 0) (ac di an))) an)) an))) (sc (cR (i:=2) cA.nd (mk T.Hf (KC T) (hr.mono (by decide)) T.He T.fu.b d0 (ac (dv 1) an))) (sc (cR (i:=3) cA.nd Sh) (sc (Ea (J2 (il (sl (dv 0) (o1 di) (o1 di))) (gn (i:=4) cA.nd) (sc (cR (i:=5) cA.nd (aZ T.Bp (KQ T) hr (ac (aZ T.rq (vT T) hr (ac (dv 4) an)) (ac (dv 1) (ac (dv 3) an))))) (sc (se (aZ T.vp (Hz T) hr (ac (dv 3) (ac (dv 5) an)))) (s1 (se (aZ T.vq Ig hr (ac (dv 2) (ac (dv 5) an))))))))) (sc (cR (i:=6) cA.nd (l8 (dv 2) T.ai T.bP.e ((kf T).mono (by decide)) hr T.gR d1)) (sc (Ea (J2 (il (bo bT hr.u (a_ (ac (aZ T.j6 (rK T) hr (ac (dv 0) (ac di an))) an)) (sl (dv 0) (o1 di) (o1 di)))) (gn (i:=4) cA.nd) (sc (cR (i:=7) cA.nd (aZ T.rq (vT T) hr (ac (dv 4) an))) (sc (Ow (i:=8) (N:=["_law_k","_law_well_here"]) (src:=[none,some 7]) cA.nd (m_ (ae xu) ["_law_script","_law_columns_here","_law_shelf","_law_known_here","_law_cell","_law_deed_here","_law_rows","_law_well_here","_law_bad","_law_order_here","_law_odd","_law_sieve_here","_law_moment","_law_due","_law_rest"] rfl rfl (by trivial)) (Ou T.iu (ac di an)) (sU (show (["_law_k","_law_well_here"]:List Str).Nodup by trivial)) (bf rfl) bh (fun _ _ _ _ _=>xf) (fun _ _ _ _ _=>(cm bw hr.u (aZ T.aM (bq T) hr (ac (dv 1) (ac di an))) di))) (sc (cR (i:=9) cA.nd (qJ (ix hr.u (a_ (ac (aZ T.pP (yX T) hr (ac (dv 7) (ac (dv 1) an))) (ac (aZ T.ju (v9 T) hr (ac (dv 7) (ac (dv 1) an))) an))) (ct iN T.gT dS (ac (ix hr.u (dv 8) di) an))))) (sc (cR (i:=10) cA.nd (qJ (ix hr.u (a_ (ac (aZ T.jv (wa T) hr (ac (dv 7) (ac (dv 1) an))) (ac (aZ T.gE (rV T) hr (ac (dv 7) (ac di an))) an))) (ct iN T.gT dS (ac (cm bw hr.u (aZ T.aM (bq T) hr (ac (dv 7) (ac di an))) di) an))))) (sc (cR (i:=11) cA.nd (qJ (ix hr.u (a_ (ac (aZ T.j7 (og T 3) hr (ac (dv 7) (ac (dv 1) (ac di an)))) (ac (dv 10) an))) (ct iN T.gT dS (ac (ix hr.u (dv 8) di) an))))) (sc (cR (i:=10) cA.nd (qJ (ix hr.u (a_ (ac (Xw di) (ac (bo bT hr.u (l8 (dv 2) T.ai T.bp.e ((nW T).mono (by decide)) hr T.bp.b d0) di) (ac db (ac ds (ac (bo wW hr.u di di) an)))))) (aZ T.aM (bq T) hr (ac (dv 7) (ac di an)))))) (sc (cR (i:=12) cA.nd (qJ (ix hr.u (a_ (ac (qJ (ix hr.u (a_ (ac dn (ac di (ac (l8 (dv 2) T.ai T.bp.e ((nW T).mono (by decide)) hr T.bp.b d0) an)))) (aZ T.aM (bq T) hr (ac (dv 7) (ac di an))))) (ac (dv 10) an))) (ct iN T.gT dS (ac (ix hr.u (dv 8) di) an))))) (sc (cR (i:=13) cA.nd (bo bT hr.u (bo A5 hr.u (a_ (ac ds an)) (ct iN T.gT dS (ac (ix hr.u (dv 8) di) an))) (bo A5 hr.u (a_ (ac ds an)) (ct iN T.gT dS (ac (ix hr.u (dv 8) di) an))))) (sc (cR (i:=13) cA.nd (bo bT hr.u (bo bT hr.u (dv 13) (bo A5 hr.u (a_ (ac ds an)) (ct iN T.gT dS (ac (ix hr.u (dv 8) di) an)))) (a_ (ac ds an)))) (sc (si (bX l4 hr.u (aZ T.mq (uA T B) hr (ac di (ac (dv 2) (ac (dv 9) (ac (dv 11) (ac (dv 12) an)))))) (ix hr.u (dv 13) di)) (s1 (sr db)) s0) (sc (Ow (i:=14) (N:=["_law_word"]) (src:=[none]) cA.nd (m_ (ae xu) ["_law_script","_law_columns_here","_law_shelf","_law_known_here","_law_cell","_law_deed_here","_law_rows","_law_well_here","_law_bad","_law_order_here","_law_odd","_law_sieve_here","_law_moment","_law_due","_law_rest"] rfl rfl (by trivial)) (il (dv 13)) (sU (show (["_law_word"]:List Str).Nodup by trivial)) (bf rfl) bh (fun _ _ _ _ _=>(if1 (bX l4 hr.u (dv 0) ds))) (fun _ _ _ _ _=>(dv 0))) (s1 (si (bX l4 hr.u (aZ T.mq (uA T B) hr (ac di (ac (dv 2) (ac (dv 9) (ac (dv 11) (ac (dv 12) an)))))) (ix hr.u (dv 14) di)) (s1 (sr db)) s0))))))))))))))) (s1 (sr (cm bw hr.u (l8 (dv 2) T.ai T.bP.e ((kf T).mono (by decide)) hr T.gR d1) (dv 6)))))))))),?_⟩
 refine⟨_,rfl,ns,0,rfl,fun c0=>⟨⟨c0,rfl⟩,fun l0 Zd=>⟨l0,rfl,aa,fun cs hg hN=>?_⟩⟩⟩
 refine⟨_,rfl,fun a ha=>⟨a,cs,rfl,hg,aa,fun S1 F1 CK TQ=>⟨rfl,?_⟩⟩⟩
 have ZH:VS S F1 S1:=fun b c hb=>by
  have h1:(S.set l0 .well) b=some c:=(Sub.new Zd) _ _ hb
  have h2:b≠a:=iK h1 ha
  exact TQ b c (fun m=>h2 (zi.mp m)) ((af h2).trans h1)
 have st0:St t S a [] F1 cs [] [] S1:=⟨CK,by rintro _ ⟨⟩,.nil,ZH⟩
 refine fun lk Yb=>?_
 have st1:=st0.new Yb (.dy [])
 generalize S1.set lk (.dy [])=SA at st1 ⊢
 refine⟨fun aD S'=>∃(o4 o5:Option D) (F:List Addr) (dl:List D) (rs:pQ) (kn:Kn),aD=[some (.ko (ns.map D.int)),some (.tup (cs.map aC)),some (.ref a),some (.ref lk),o4,o5,none,none,none,none,none,none,none,none,none]∧St t S a [(lk,.dy (kE kn))] F cs dl rs S'∧KI cs kn∧RI rs dl.length kn∧dl.length≤63∧∀z,wt ((lu rs z).getD []) ((0:Nat):Int)=.aw,?_,?_⟩
 ·refine⟨_,rfl,_,rfl,_,rfl,fun p1 sE=>⟨_,aa,?_⟩⟩
  have Im:=st1.new sE (.lst (ia (ns.map D.int) (some 1) (some 13)))
  generalize SA.set p1 (.lst (ia (ns.map D.int) (some 1) (some 13)))=SB at Im ⊢
  rw[rW] at Im ⊢
  have hml:=C9 ns (some 1) (some 13)
  generalize ia ns (some 1) (some 13)=ms at Im hml ⊢
  refine⟨fun i aD S'=>∃(o4 o5:Option D) (F:List Addr) (dl:List D) (rs:pQ) (kn:Kn),aD=[some (.ko (ns.map D.int)),some (.tup (cs.map aC)),some (.ref a),some (.ref lk),o4,o5,none,none,none,none,none,none,none,none,none]∧St t S a [(lk,.dy (kE kn)),(p1,.lst (ms.map D.int))] F cs dl rs S'∧KI cs kn∧RI rs dl.length kn∧dl.length=i∧∀z,wt ((lu rs z).getD []) ((0:Nat):Int)=.aw,⟨none,none,F1,[],[],[],rfl,Im,KI.nil cs,RI.nil,rfl,fun z=>rfl⟩,?_,?_,?_⟩
  ·rintro i aD S' ⟨_,_,_,_,_,_,_,st,_⟩
   exact st.at 1 rfl
  ·rintro i d aD S' hd ⟨o4,o5,F,dl,rs,kn,rfl,st,hI,hR,Ir,h0⟩
   have hd:(ms.map D.int)[i]?=some d:=hd
   have hi:i<ms.length:=by
    have:=(zr.mp hd).1
    rwa [zc] at this
   obtain⟨c,hc,rfl⟩:=zf.mp (zK hd)
   refine⟨_,rfl,⟨c,rfl⟩,fun l hl=>?_⟩
   have ZI:=st.sub (.new (c:=.well) hl)
   refine⟨_,rfl,_,rfl,l,cs,lk,kn,rfl,hg,aa,ZI.at 0 rfl,hI,fun de hde=>?_⟩
   obtain⟨uu,VF,hI'⟩:=(GD.up hde).as hI
   have hkl:=hI.len
   refine⟨_,rfl,_,rfl,lk,kn,de,uu,rfl,ZI.at 0 rfl,by lia,VF,?_⟩
   have IW:=ZI.put 0 rfl (.dy (kE uu))
   generalize (S'.set l .well).set lk (.dy (kE uu))=S3 at IW ⊢
   refine⟨_,rfl,_,rfl,E1 IW.sh hg hI hR (by lia) (GD.up hde) VF fun S4 F4 rs4 MA hK4 hR4 hold=>?_⟩
   exact⟨_,_,F4,dl++[de],rs4,uu,rfl,IW.ZE MA hK4,hI',by rw[zl];exact hR4,by rw[zl,Ir];rfl,fun z=>(hold z 0 (ya _)).trans (h0 z)⟩
  ·rintro aD S' ⟨o4,o5,F,dl,rs,kn,rfl,st,hI,hR,Ir,h0⟩
   refine fo ⟨_,_,F,dl,rs,kn,rfl,st.less (by simp) (by simp),hI,hR,?_,h0⟩
   have Ir:dl.length=(ms.map D.int).length:=Ir
   rw[zc] at Ir
   lia
 rintro aD S' ⟨o4,o5,F,dl,rs,kn,rfl,st,hI,hR,Ir,h0⟩
 have Zo:=hR.len st.sh
 obtain⟨ld0,lr0,ra0,WH,_⟩:=id st.sh
 refine⟨_,rfl,a,_,rfl,WH.ins,rfl,a,F,cs,dl,rs,.aw,rfl,st.sh,by lia,lB,fun i ss hi hp hs lr Ee=>?_,fun h=>by cases h⟩
 cases hi
 have PR:∀z,wt ((lu rs z).getD []) ((dl.length:Nat):Int)=wu kn z:=fun z=>hR.wt z
 rw[oj PR ss]
 have Dm:=st.new Ee (.lst ((jT kn (IG kn ss)).map aN))
 generalize S'.set lr (.lst ((jT kn (IG kn ss)).map aN))=SB at Dm ⊢
 have ZJ:=Dm.at 1 rfl
 have VT:=Dm.sh
 obtain⟨O5,VC,VD,Ux,_⟩:=id VT
 have tb5:Tb t SB:=Zj.sub Dm.IF.sub
 refine⟨fun aD IH=>Sub SB IH∧∃o4 o7 o8 o9 QK QL QM QN QO,aD=[some (.ko (ns.map D.int)),some (.tup (cs.map aC)),some (.ref a),some (.ref lk),o4,o5,some (.ref lr),o7,o8,o9,QK,QL,QM,QN,QO],?_,?_⟩
 ·refine⟨_,rfl,ns,13,rfl,fun c1=>⟨n1,fun p1 sE=>⟨_,rfl,_,rfl,_,rfl,fun p2 fT=>⟨_,_,(Sub.new fT) _ _ aa,aa,?_,fun lg VE=>⟨_,aa,?_⟩⟩⟩⟩⟩
  ·rw[rW,zc]
   have:=C9 ns (some 14) (some 40)
   exact sm (by show 1+_≤_;lia)
  rw[rW] at VE ⊢
  have eL:([D.int c1]++(ia ns (some 14) (some 40)).map D.int)=(c1::ia ns (some 14) (some 40)).map D.int:=rfl
  generalize (c1::ia ns (some 14) (some 40))=ls at eL
  rw[eL]
  have ZK:=((Sub.new (c:=.lst [.int c1]) sE).trans (.new (c:=.lst ((ia ns (some 14) (some 40)).map D.int)) fT)).trans (.new (c:=.lst (ls.map D.int)) VE)
  have Uy:(((SB.set p1 (.lst [.int c1])).set p2 (.lst ((ia ns (some 14) (some 40)).map D.int))).set lg (.lst (ls.map D.int))) lg=some (.lst (ls.map D.int)):=aa
  generalize ((SB.set p1 (.lst [.int c1])).set p2 (.lst ((ia ns (some 14) (some 40)).map D.int))).set lg (.lst (ls.map D.int))=SC at ZK Uy ⊢
  refine⟨fun i aD IH=>Sub SC IH∧∃o4 o7 o8 o9 QK QL QM QN QO,aD=[some (.ko (ns.map D.int)),some (.tup (cs.map aC)),some (.ref a),some (.ref lk),o4,o5,some (.ref lr),o7,o8,o9,QK,QL,QM,QN,QO],⟨.refl _,_,_,_,_,_,_,_,_,_,rfl⟩,?_,?_,?_⟩
  ·rintro i aD IH ⟨sb,_⟩
   exact sb _ _ Uy
  ·rintro j d aD IH hd ⟨sb,o4,o7,o8,o9,QK,QL,QM,QN,QO,rfl⟩
   have hd:(ls.map D.int)[j]?=some d:=hd
   obtain⟨c,hc,rfl⟩:=zf.mp (zK hd)
   refine⟨_,rfl,⟨c,rfl⟩,fun l hl=>?_⟩
   have ZL:Sub SC (IH.set l .well):=sb.trans (.new hl)
   have Ku:(IH.set l .well) l=some .well:=aa
   generalize IH.set l .well=X1 at ZL Ku ⊢
   refine⟨3,rfl,by decide,by decide,?_⟩
   refine fF (fun _ v=>∃b:Bool,v=.bl b) trivial (by rw[cU];decide) (fun d hd Q hQ=>?_) fun out Ef pb Ur=>?_
   ·exact⟨_,rfl,l,_,rfl,by decide,by decide,Ku,fun n h0 h1=>hQ _ ⟨_,rfl⟩⟩
   obtain⟨x,y,z,rfl⟩:=Ia (by rw[cU];rfl) Ef
   have ZM:Sub X1 (X1.set pb (.lst [.bl x,.bl y,.bl z])):=.new Ur
   have Cz:(X1.set pb (.lst [.bl x,.bl y,.bl z])) pb=some (.lst [.bl x,.bl y,.bl z]):=aa
   generalize X1.set pb (.lst [.bl x,.bl y,.bl z])=X2 at ZM Cz ⊢
   have Uz:=ZM _ _ Ku
   -- the order
   refine⟨_,rfl,_,rfl,l,cs,rfl,hg,Uz,fun ps wy ho=>?_⟩
   refine⟨_,rfl,_,rfl,l,cs,rfl,hg,hN,Uz,fun bo X3 ZN hbo=>?_⟩
   refine⟨n2,fun pl eT=>?_⟩
   refine⟨_,rfl,_,_,(ZN.trans (.new eT)) _ _ Cz,rfl,.inr ⟨_,rfl,_,_,aa,wc x,X3,.new eT,?_⟩⟩
   obtain⟨od,eod,VU,Iw,Jf⟩:∃od,(if x=true then bo else v7 ps wy)=od∧QA X3 od∧fP cs od=(!x)∧((!x)=true→∃ps wy,od=v7 ps wy∧Og cs ps wy):=by
    refine⟨_,rfl,?_⟩
    cases x with
    |true=>exact⟨hbo.1,hbo.2,fun h=>by cases h⟩
    |false =>
     refine⟨?_,(ER hg ps wy).trans ho.ok,fun _=>⟨ps,wy,rfl,ho⟩⟩
     have h8:ps.length≤8:=by
      have:=ho.ok
      unfold HB at this
      simp only [zP,z0] at this
      exact this.1
     have CV:wy.cps.size≤1000:=by
      have:=ho.way
      unfold dI at this
      simp only [Bool.or_eq_true,z0] at this
      rcases this with rfl|rfl <;> decide
     refine br (fH (by rw[zc];lia) fun v hv=>?_) (aj CV)
     obtain⟨p,hp,rfl⟩:=zf.mp hv
     obtain⟨e1,e2,e3⟩:=ho.tx p hp
     exact eX (aj e1) (aj e2) (aj e3)
   rw[eod]
   clear eod
   have PU:=ZM.trans ZN
   have UA:=PU _ _ Ku
   have PV:=ZN _ _ Cz
   -- a bad sieve
   refine⟨_,rfl,_,rfl,l,cs,rfl,hg,hN,UA,fun bs X4 PX hbs=>?_⟩
   have Ih:=PX _ _ UA
   have ZO:=VU.sub PX
   refine⟨_,rfl,l,rfl,Ih,fun gs ZP ZQ=>⟨n2,fun pl2 UB=>?_⟩⟩
   refine⟨_,rfl,l,_,rfl,by decide,by decide,wl Ih UB,fun n0 hn0 Td=>.inr ⟨_,rfl,_,_,aa,wc (decide (n0=(0:Int))),X4,.new UB,?_⟩⟩
   obtain⟨sd,esd,Xc,Ab⟩:∃sd,(if decide (n0=(0:Int))=true then gs else bs)=sd∧QA X4 sd∧lF cs 8 0 [sd]=false:=by
    refine⟨_,rfl,?_⟩
    split
    ·exact⟨ZP _,ZQ cs⟩
    ·exact hbs
   rw[esd]
   clear esd
   -- the sieve
   refine⟨_,rfl,_,rfl,l,cs,2,rfl,rfl,hg,hN,Ih,fun gv ZR=>⟨_,rfl,n2,fun pl3 UC=>?_⟩⟩
   refine⟨_,rfl,_,_,(PX.trans (.new UC)) _ _ PV,rfl,.inr ⟨_,rfl,_,_,aa,wc y,X4,.new UC,?_⟩⟩
   obtain⟨sv,esv,hv1,hv2,Qg⟩:∃sv,(if y=true then sd else gv)=sv∧QA X4 sv∧lF cs 8 0 [sv]=(!y)∧((!y)=true→Sg cs 3 sv):=by
    refine⟨_,rfl,?_⟩
    cases y with
    |true=>exact⟨Xc,Ab,fun h=>by cases h⟩
    |false=>exact⟨Uw hN ZR,T9 hg 3 (fun e he=>by rw[zi.mp he];exact ZR) (by decide) (by show 0+1 * 3 ^ 3≤200;decide),fun _=>ZR⟩
   rw[esv]
   clear esv
   have PY:Sub SB X4:=(ZK.trans ZL).trans (PU.trans PX)
   have MB:=PY _ _ Ux.ins
   have MA:=VT.sub PY
   -- the moment
   refine⟨_,rfl,_,rfl,a,_,rfl,MB,rfl,a,F,cs,dl,rs,rfl,MA,?_⟩
   refine⟨⟨by decide,by decide,by decide⟩,YB,fun pm Zb=>⟨_,rfl,l,_,rfl,by decide,by decide,wl Ih Zb,fun nm hm0 Vo=>bY hm0 Vo Zb fun om hom=>?_⟩⟩
   have Vz:Gt X4 om∧lx dl.length om=none:=by
    simp only [ze,zm,or_false] at hom
    rcases hom with rfl|rfl|rfl|rfl|rfl
    ·exact⟨gt_int,wd (by lia)⟩
    ·exact⟨gt_int,wd (by lia)⟩
    ·exact⟨Mq,rfl⟩
    ·exact⟨pS (by decide),rfl⟩
    ·refine⟨gt_int,wd ?_⟩
     rw[show (10:Int) ^ (18:Int).toNat=1000000000000000000 by decide]
     lia
   refine⟨_,rfl,a,_,rfl,MB,rfl,a,F,cs,dl,rs,rfl,MA,fR,fun pn rJ=>⟨_,rfl,l,_,rfl,by decide,by decide,wl Ih rJ,fun ng hg0 hg1=>bY hg0 hg1 rJ fun gm VV=>?_⟩⟩
   have VV:∃m0:Nat,lx dl.length gm=some (m0:Int)∧Gt X4 gm∧(m0=dl.length∨m0=0):=by
    simp only [ze,zm,or_false] at VV
    rcases VV with rfl|rfl|rfl
    ·exact⟨dl.length,rfl,lB,.inl rfl⟩
    ·exact⟨0,Ib (by lia),gt_int,.inr rfl⟩
    ·exact⟨dl.length,Ib (by lia),gt_int,.inl rfl⟩
   refine⟨_,rfl,n2,fun po hpo=>?_⟩
   refine⟨_,rfl,_,_,(PX.trans (.new hpo)) _ _ PV,rfl,.inr ⟨_,rfl,_,_,aa,wc z,X4,.new hpo,?_⟩⟩
   obtain⟨md,emd,ZS,ZT⟩:∃md,(if z=true then om else gm)=md∧((!z)=true→∃rows,Vw t.ag X4 a cs md rows)∧((!z)=false→Bw t.ag X4 a cs md):=by
    refine⟨_,rfl,?_⟩
    cases z with
    |true=>exact⟨fun h=>(by cases h),fun _=>⟨F,dl,rs,MA,by lia,Vz.2,Vz.1⟩⟩
    |false =>
     refine⟨fun _=>?_,fun h=>by cases h⟩
     obtain⟨m0,e0,g0,rfl|rfl⟩:=VV
     ·exact Mx MA Zo hI PR e0 g0
     ·exact Mx MA Zo (KI.nil cs) h0 e0 g0
   rw[emd]
   clear emd
   -- what is due
   have ZU:=PX _ _ PV
   have bx:=Ie x
   have by':=Ie y
   have bz:=Ie z
   refine⟨n1,fun q1 VU=>⟨_,rfl,_,_,(Sub.new VU) _ _ ZU,rfl,.inr ⟨_,rfl,q1,_,bI x,rfl,rfl,aa,bx.1,by lia,fun q2 Iu=>?_⟩⟩⟩
   have s2:=(Sub.new (c:=.lst [.str "order"]) VU).trans (.new (c:=.lst (List.replicate (bI x).toNat (.str "order"))) Iu)
   have h2:((X4.set q1 (.lst [.str "order"])).set q2 (.lst (List.replicate (bI x).toNat (.str "order")))) q2=some (.lst (List.replicate (bI x).toNat (.str "order"))):=aa
   generalize (X4.set q1 (.lst [.str "order"])).set q2 (.lst (List.replicate (bI x).toNat (.str "order")))=Y1 at s2 h2 ⊢
   refine⟨n1,fun q3 hq3=>⟨_,rfl,_,_,(s2.trans (.new hq3)) _ _ ZU,rfl,.inr ⟨_,rfl,q3,_,bI y,rfl,rfl,aa,by'.1,by lia,fun q4 hq4=>?_⟩⟩⟩
   have s4:=(Sub.new (c:=.lst [.str "sieve"]) hq3).trans (.new (c:=.lst (List.replicate (bI y).toNat (.str "sieve"))) hq4)
   have h4:((Y1.set q3 (.lst [.str "sieve"])).set q4 (.lst (List.replicate (bI y).toNat (.str "sieve")))) q4=some (.lst (List.replicate (bI y).toNat (.str "sieve"))):=aa
   generalize (Y1.set q3 (.lst [.str "sieve"])).set q4 (.lst (List.replicate (bI y).toNat (.str "sieve")))=Y2 at s4 h4 ⊢
   refine⟨_,_,s4 _ _ h2,h4,sm (by rw[zG,zG];lia),fun q5 hq5=>?_⟩
   have s5:Sub Y2 (Y2.set q5 (.lst (List.replicate (bI x).toNat (.str "order")++List.replicate (bI y).toNat (.str "sieve")))):=.new hq5
   have h5:(Y2.set q5 (.lst (List.replicate (bI x).toNat (.str "order")++List.replicate (bI y).toNat (.str "sieve")))) q5=some (.lst (List.replicate (bI x).toNat (.str "order")++List.replicate (bI y).toNat (.str "sieve"))):=aa
   generalize Y2.set q5 (.lst (List.replicate (bI x).toNat (.str "order")++List.replicate (bI y).toNat (.str "sieve")))=Y3 at s5 h5 ⊢
   have sY3:=(s2.trans s4).trans s5
   refine⟨_,rfl,n1,fun q6 hq6=>⟨_,rfl,_,_,(sY3.trans (.new hq6)) _ _ ZU,rfl,.inr ⟨_,rfl,q6,_,bI z,rfl,rfl,aa,bz.1,by lia,fun q7 hq7=>?_⟩⟩⟩
   have s7:=(Sub.new (c:=.lst [.str "moment"]) hq6).trans (.new (c:=.lst (List.replicate (bI z).toNat (.str "moment"))) hq7)
   have h7:((Y3.set q6 (.lst [.str "moment"])).set q7 (.lst (List.replicate (bI z).toNat (.str "moment")))) q7=some (.lst (List.replicate (bI z).toNat (.str "moment"))):=aa
   generalize (Y3.set q6 (.lst [.str "moment"])).set q7 (.lst (List.replicate (bI z).toNat (.str "moment")))=Y4 at s7 h7 ⊢
   refine⟨_,_,s7 _ _ h5,h7,sm (by rw[zl,zG,zG,zG];lia),fun q8 hq8=>⟨n1,fun q9 hq9=>⟨_,_,(Sub.new hq9) _ _ aa,aa,sm (by rw[zl,zl,zG,zG,zG];show _+1≤1000;lia),fun qd Uc=>?_⟩⟩⟩
   have s9:=((Sub.new (c:=.lst ((List.replicate (bI x).toNat (.str "order")++List.replicate (bI y).toNat (.str "sieve"))++List.replicate (bI z).toNat (.str "moment"))) hq8).trans (.new (c:=.lst [.str "told"]) hq9)).trans (.new (c:=.lst (mM x y z)) Uc)
   have h9:(((Y4.set q8 (.lst ((List.replicate (bI x).toNat (.str "order")++List.replicate (bI y).toNat (.str "sieve"))++List.replicate (bI z).toNat (.str "moment")))).set q9 (.lst [.str "told"])).set qd (.lst (mM x y z))) qd=some (.lst (mM x y z)):=aa
   rw[show (List.replicate (bI x).toNat (D.str "order")++List.replicate (bI y).toNat (D.str "sieve")++List.replicate (bI z).toNat (D.str "moment")++[D.str "told"]:List D)=mM x y z from rfl]
   generalize ((Y4.set q8 (.lst ((List.replicate (bI x).toNat (.str "order")++List.replicate (bI y).toNat (.str "sieve"))++List.replicate (bI z).toNat (.str "moment")))).set q9 (.lst [.str "told"])).set qd (.lst (mM x y z))=Y5 at s9 h9 ⊢
   have sY5:=(sY3.trans s7).trans s9
   have ask:∀{Y:aG},Sub Y5 Y→Ask t Y a cs od sv md (!x) (!y) (!z):=fun {Y} sy=>by
    have sz:=sY5.trans sy
    refine⟨⟨F,dl,rs,MA.sub sz⟩,hg,ZO.sub sz,hv1.sub sz,Iw,hv2,Jf,Qg,fun h=>?_,fun h=>?_,tb5.sub (PY.trans sz)⟩
    ·obtain⟨rows,hv⟩:=ZS h
     exact⟨rows,hv.sub sz⟩
    ·obtain⟨F',ZF,eN,e1,e2,e3,e4⟩:=ZT h
     exact⟨F',ZF,eN,e1.sub sz,e2,e3,e4.sub sz⟩
   refine⟨_,rfl,_,rfl,_,rfl,_,rfl,0,a,cs,od,sv,md,_,_,_,rfl,ask (.refl _),.inl ⟨rfl,_,rfl,_,_,h9,PQ x y z,_,rfl,g9 (by simp) ?_⟩⟩
   refine⟨_,rfl,_,h9,?_⟩
   refine j8 y8 id h9 (by show (mM x y z).length≤1000;have:=Lj x y z;lia) (fun d hd Q Q' hQ KG=>?_) fun pr hpr=>?_
   ·obtain⟨sg,rfl⟩:=Li x y z d hd
    exact⟨_,rfl,_,rfl,bJ (fun h=>⟨_,rfl,hQ h⟩) (fun h=>KG h)⟩
   rw[show (⟨mM x y z,fun S=>uU S (.ref qd) (mM x y z)⟩:Gu).xs=mM x y z from rfl,List.map_id]
   refine⟨_,rfl,_,rfl,_,rfl,_,rfl,1,a,cs,od,sv,md,_,_,_,rfl,ask (.new hpr),.inr ⟨rfl,_,rfl,_,_,aa,Lh x y z,_,rfl,g9 (by simp) ?_⟩⟩
   exact⟨((ZL.trans PU).trans PX).trans (sY5.trans (.new hpr)),_,_,_,_,_,_,_,_,_,rfl⟩
  ·rintro aD IH ⟨sb,o4,o7,o8,o9,QK,QL,QM,QN,QO,rfl⟩
   exact fo ⟨ZK.trans sb,_,_,_,_,_,_,_,_,_,rfl⟩
 ·rintro aD IH ⟨sb,o4,o7,o8,o9,QK,QL,QM,QN,QO,rfl⟩
  refine⟨_,rfl,a,_,rfl,sb _ _ Ux.ins,rfl,a,F,cs,dl,rs,.aw,rfl,VT.sub sb,by lia,lB,fun i s2 hi fT Ab p rJ=>?_,fun h=>by cases h⟩
  cases hi
  rw[oj PR s2,oP VT fT Ab hp hs]
  exact⟨_,rfl,Hv aa ((Sub.new rJ) _ _ (sb _ _ ZJ)) (Lg hI) ⟨S,(Dm.IF.sub.trans sb).trans (.new rJ),q⟩⟩
def Ii(t:jf)(K:Frag):Sp:=fun vs H Q _=>sS K (Mz t) vs H Q E0
theorem PZ(T:Txt w K mg t)(B:Bm mg base):bZ P w K mg base U5 20 t.Ma t.Hb ["_law_script"] (Ii t K):=bZ.calm (Lk T B)
theorem Ij{w:World}{K:Frag}{mg:Str→Option Value}{t:jf}(T:Txt w K mg t){H:Hp}{a:Addr}{ns:List Int}(hl:ns.length≤63)(hO:xq t.ts H)(hS:iW K H a (ns.map V.int)):Ii t K [.ref a] H (fun v _=>v=.bl true) fun _ _ _=>False:=by
 have hR:LH K H a (ns.map V.int):=by
  rcases hS with (h|h)|h
  ·rcases hO.all a with q|⟨o,xs,q⟩|⟨_,q⟩
   ·rw[q] at h;cases h
   ·rw[q] at h;cases h
   ·rw[q] at h;cases h
  ·exact .inl h
  ·exact .inr h
 have Ky:t.aL≠t.aP:=fun e=>by
  have:=T.np
  rw[e] at this
  simp at this
 have tok:∀q,Co H q #[]:=fun q=>⟨trivial,fun _ _ e=>by cases e⟩
 refine⟨[.ko (ns.map D.int)],fun b=>if b=t.aP then some (.tab qK) else if b=t.aL then some (.tab qV) else none,fun d _=>d=.bl true,fun _ _=>False,aT (Gj hR (Cm ns)) bB,fun b c e=>?_,⟨ns,rfl,hl,⟨if_pos rfl,(if_neg Ky).trans (if_pos rfl)⟩,rfl⟩,fun d S v H' e r _ _=>by subst e;exact r.bl,fun _ _ _ z=>z.elim⟩
 by_cases h1:b=t.aP
 ·have e:=(if_pos h1).symm.trans e
  cases e
  rw[h1]
  exact⟨#[],hO.tab _ T.mx,tok _⟩
 ·by_cases h2:b=t.aL
  ·have e:=(if_neg h1).symm.trans e
   have e:=(if_pos h2).symm.trans e
   cases e
   rw[h2]
   exact⟨#[],hO.tab _ T.kC,tok _⟩
  ·have e:=(if_neg h1).symm.trans e
   have e:=(if_neg h2).symm.trans e
   cases e
theorem P0{P:Program}{w:World}{K:Frag}{mg:Str→Option Value}{fa:Addr}{ts:List Addr}(NM:mg "law" = some (.ref fa))(T:∃t:jf,t.ts=ts∧Txt w K mg t):∃(fd:FuncData) (sp:Sp),(∀b∈ts,∃c,codeHdIn K c b=true)∧(∀(s:Shared) (u:Value),BindsTo s fd ⟨[u],[]⟩ [("_law_script",u)])∧(∀base:Heap,Bm mg base→K.In base→base.Ns mainGlobals mg→bZ P w K mg base U5 20 fa fd ["_law_script"] sp)∧∀(H:Hp) (a:Addr) (ns:List Int),ns.length≤63→xq ts H→iW K H a (ns.map V.int)→sp [.ref a] H (fun v _=>v=.bl true) fun _ _ _=>False:=by
 obtain⟨t,et,T⟩:=T
 have e0:=NM.symm.trans T.YA.m
 cases e0
 subst et
 exact⟨_,_,fun b hb=>(T.ta b (hb)).elim (fun e=>⟨_,e ▸ T.dF⟩) (fun e=>⟨_,e ▸ T.cS⟩),T.bl,fun base B kb nb=>PZ T B,fun H a ns hl hO hS=>Ij T hl hO hS⟩
end My
end Tactic
open Tactic
local macro_rules|`(command|universe $xs*)=>do return Lean.mkNullNode (← xs.mapM fun x=>`(command|theorem $(Lean.mkIdent (.mkSimple s!"tw{x.getId.toString.foldl (fun n c=>n*62+(if c.isDigit then c.toNat-48 else if c.isUpper then c.toNat-55 else c.toNat-61)) 0-10*62^10}")):ident : True:=trivial))
namespace PySem.W.Fast
universe IVugmpZJm1s LSqzJgel5QT IJDWQPYANNG Kqf7Rqm6VTu Itlagos6qTz CJwzXkebpXq H7EG41waWLT KJL29NIqFgM FISyFpKQzzL Jpp6N1kVtxZ Tgqd1E1pUFe Dwu1TuqzuKc UCKCTOwTFCp SD5L3FiiOtE I5AMdj12sH8 UG6kFnXl83l S6f68KlJZMK CctIFpzukVS BigEV7gPayb HiuWcOGLVST ElRjyA8JlcA BO25QuV46HG HoCyYQSYeix PinbOZ3lRKK NFta1ZG7F4G UV7tHCk21Ms Nlhh5fQIjZN PRXrgTKFkGe QKRLEiDHjZs F2scAjgkgZc JZCYCR4X9zr FRk1hgWJuu3 PZJFQY3CA22 E2Q03RNOYEq Qcdk3ox9VN9 CPrGKrPKZyG MYGQPISyOWx MJVeeT4bUNU QvoIcqoptz8 O1JhaJTd04T J0oUCc1QzJJ KQMPOHCxDNf FTHm9vEsgLa ThXB0PnnJxc LeulXvNNiDr HHXOqMfndUM Nn1DSOpbykI A5SORivPT5G VYu2dSy9jSe JZIBgSHENFv JeEVTIHBTJR TsjBVbBlRl2 AdYnEXbJkrt Uy4dssPYeFE VVzDpejJfKT FsMq6FEvFeo DzHsGzhhZqM Bow0U8AK4nE J4AQ04nXYaU NTLDzuyaqde McGCDrlbW6N NMxqdauwZZ9 Ak32ho88MnI FsL0H9wf76O Ncs1QcqXoyf Es6i2qb9Okp JZgjV9TYKML BuRbv6v0lo4 CYjr4rjSRfH OpVedGkW9oO JEmgLl2p3vf Q1j2t3m3mXs AcEWbdpJgvg DicLGCKDPxL HyUTGTi2UGs Id2X2bFkNYc KjKkU3QVBxv Hv1LeGNuZlF MCTYDTFCwlb I4joNdIvBpN E3C6g7PQcZH UfTXcdkwYpJ VLaYQABL3Pj F2NixyrVd6F DSrprAYOSKF GtS2yS5tiD2 Ds9usPeMInZ RAM7n3QYAFv DTn7es5VDNi HBpVWLE9xkh HYmAWrjyYal I6yyy4m7edg VPghpx3zOg6 V1DHcoOtiSv H4q1t6TAZJZ RPS2Xh6yIaj VKCKqr7FCKm TsOuN4nHX0D FDjS8XnofoK UAzSMjAxtFn MvsfAqDdC6r Qp6upjnHUK5 MMjGJ6DslDD FnfDvoF8E4G DrO8HCjRl4u JPRDPxpirrF Tv7NMpNGEoc GUcaPIxPnXU RNy0p583vfd AHxQGEZNCow PUNZ7n7JhAF QGPTqu5eqgF PMBPbokRV4v TLC5qCaXfsR By41GareQrJ DuXCEwLQSRN GtDGRh6tczl M39eUjgWzED QCRpRe0GHsA Mjxj8G2XgqN LDqX0Gegf76 L7gAhnvCtLn ONatu0jSG7x Q7GGst44q8A Gt91EDIKRBT USHjzfGuHiO MRrvT59D9W3 VbPITPMJMbA UCONwc541cu GykSGEWiMiK DWBibm9x7GO VAt8QiN1BXh DBfp8ZVyqNg CbNYKDck7Ad MDthZiKiIQv O1PumJbo1y4 NEsbSgSaMZo UX8rUrfXqjP KgCuIJakgEU DfBEydVE5eo FEoxH8l7jpj Ov6X9d4APWP N5OfoXq9bok L9AvqSUiDv8 FM42Ml4jfAi Ig2RVQvyWQR GBvE7HeBPTu Q3dIzHNFZuT BAQWIv8f4PX B9E5mNpEFiw HAclmWdflez G7ijdceZ2qM AYq0Mko1SFx AQk3XhFaIeN VZxEvuOf6Kb K2vG8YiHGgs O78RvfjiIA6 OsFBvvBOfNc CcryztKbu9Q HGXz8zuEo1C VUaWwv555W6 V97CZONpEdU Luil2zA49MU TipHhrxAeLf EejXnzYwfPq TjuMP0c1XoH AA48lFeJ9dy Bow9FsezYLj GWo5VyVWuX6 TuIJUqSRkDl VRJkfySvFOb Ghg7WLeizjP EmwgUP3bV1j VrjlR5ABOhF DbMN4RUVF8j EuPBzZ6J2QT KkvyGB1A1b6 UULSNUVShLR Rt2YuskXyVi KbXyjFfbtK4 OQaqYpO3G4l NR2z2lx1ihJ KTXmKXv3eDx VefxjbIFD6K Bl916J3e77I AJs353AGLD5 QQdd0ConQ1o QgBLf5xWplE AnTbyoSGYY3 NqbqrdFdsxR Ubx4PenQxhf LylSxSlD8MU SU9fqhlZYfF CMHxUB5NrAX VtwGs4tVYkv Aiw0ooawKUG IbeiCgHB4jS NXWPLnExEo4 Upo6cLh7iK3 Q6sbJMM5zpj IslR3IilkKH Q96AHQCOMNx PbLxA4mUQbr U2O6uY2fcHZ UykL1eiKvr6 AHZuschSQfP JFSgdi5bMLR HflWzYsEsNO CPaTkYKDMbX TSxVT8R9e4Q OXVFgGRT2bi Daanprw8slr NZzuapIkBw4 K8nz186zx6p NjI3WYOZjCV SSoGq1UrWVX L64mR4BfFBj TRkJq6rRH7D UJ54z3ZPMUS IVecC6FYhmc Owkid83KClb HEXbghskDmo QqYACEURTYd Jaz3eF7orEp TjDrN2nJrrK N4SDyUQ7jmL RQSJ93NeBxf Hu8P4vJGIso EYq50M4ELsB TYFuPZm7x7d GproXh6UO8K HvrqdlrsTEW SW5Gbl09XAJ PU6kZBBY4xg DOfMSIB2Pj4 BLh12Y83OeF QkE02dsXlcs Cj0yL2Rc1ZT HCGr2qsB1vQ VtkdQ5ralh1 VVYZLUDDhGB Ftr60EXTfMc EmFjgUl61Mv JLvUmqlhKjd O7XCoaPXcl8 TvmLvGILJXn Th4rhlcGMyv Vw3oiEAjizt RpiTHpZU969 Sd03paiQLBU VKj3hLIZtxT PKhdxMs3u2u Gye9EqyNOCM LEhS3igKuZS JCzTIlmx8VO QVN8Gz0jCqE BWBIrH6O4iO RMez6668mcu TVBouTjs6V9 UfCTB3i6Jhg VcANaQnXZlF AmoYURF5h7A RX6PN2rD0GW BlK2vqgHKdP K34Fy9T7iDl NGa64yrzvES TAtpFdUn0Zh OUbb6IfJTwT IlcFAoQAVQ8 FAhcMvzsnBi RAu9gBj0TNK M411dBreZUI LCq8EQxmz5m PAGymqen3N0 Az0tyGIdEAI AitDvs4x6Id N8pFWnUjt4c UZNuTkMsUip VJbbKaBvJRQ TV8R7T4v7kZ Pa2fzn1NmFE LXZhX031z6r E2Ixac58k9u MFkbPv86xOR On6qmtwCEAT Evvrkaco7WG QIxbDRRjbxc IuEAF7K19lb Nps3S7ngfNQ Mvh92Gqg4Fa C5KxKCs2L07 BfYFGXljekW Uah9YMXQmUj ILwejvJqPoQ D0YVuZaxwSl GuVyOYX2ABU HAGE6nWd88w BLLwhmG1VdT E3dUzS7edrn Hw3pkqSQyy7 MCMRSByIRKi JRy7N02goFc NW23nTCAsVa Bdj6ANkcceJ QmLE4C58D7C NLkb44YkPzi TDr2ngomBYE LcnL4vE6Uha IFxBKEuNkpY VoAgbZjC6aG OgR9bbXrHPY NM3f4pvHs38 OikiBJVfeCe QsXNTianT5B PvyW3ccnINv QV66XH8PxhB URDYrp17gPN QE5OL42mIpM VTLL5i9IGZE IuaUPC13H6Q RP2rNLl8Vam TyfuIJWNrlN Vi1WQMnZoh3 ANc3XrjnBBI JjlSZJneQE2 N3Ba8HVfoDY JGQmkSNzovr ElkMHpZ6MYB Qkblg84TyVB IIFpAz0G4sQ Fz1ay6W3DyK PjvQLghL6Z2 B9NFEettaCa CDqKeALervc SpzOmP5vR3W PmsogHjjwcw PDGBmvlXVk2 MzbIk0PgyKE R4Pa8APSOPR MJMRKvs0LIg P02yZHic4EB AzJQlQC2rTj OSMQVB1d949 VqUwNOYlkIp K587lIjvz93 AmMw3Q11UoX De9GTsZaJkb H7ttNTMUgp2 Bin5DDUJNnZ KmGeSgxOnTZ GzpEKokQTFb DcmB0yluBzW VlEI7k24PXP UO7FDaVBwne TOBp3HnxNCK SwMPFcveV01 Rfv0SqumNth CKUCunaKnvc LWZTaeXBnnq H6MUOeFPAPC Esn117iuwYG GyOtFWHwZH5 PnaYUCF5AOT T6DqSfPdpVw Q9imnOWKRPd Mbj9DFOfvqd H2jYBWFc6mW B1DyUn1rQdp J8VocQFrnFO VkAgtYly3Cp KCdrCYLC5KK MoZnbnJj16w FaPpXzIkftD PhcMl886aUT JLsHAy9MMDG PbZuK4ZcSU9 Oa397hAmNj3 CdXnZRMZK6z Cpuhsz9gdtS JYavDU0K9dP Es4WR0z6I5W PM9Xxd9Gkfw UJzAfxn25bq QIcMJ8vVewT Ides4BwdjQd IuPzXpHyj7U VHx5CJXUVHN B1APPbP88sC EMLSwijl5zJ NS2xC1nK0fs DYMgCnIIXVQ EvGOFgYQQEM GZ5QybY0udR Uf3N17frNfC FiGvhHR0Tz5 NvgJJzgJVEU S7S3N6s87b9 TRKfA3TPCU0 MXSaWwM8DHq U1zaTZEYhjX IJsv2DEkFiw Ugq9AU6mtOY UO6pVx7HYPR UOJFHwYBuAO DKQh08ZUCUU SPuH5HLGiq3 BlflffdUGZU StFI4jnEeTu KVXJjTLMF14 DMSMcsrHpB5 DILNm6d3q1v FXtmNxzAAMz FFg0DoqJkTo NTh3hupOhpE V8248MuW9M7 ExT0AgQtbfd UWxeCBXY9RN QYWBTT4u0VK TTCrbOUlKP2 Uy41dncJW5n GKWzTITYH3w BLjvqFotAoQ JSPtWQTXMHv NwOfb0D5NfL H2gA2fTdNht E1V37POjr0C AHVfr5QTsMF BQYNGaKzMHw K6TW135GrZN GAE9zpMdmYg VVS3nnAmKzr CTrWAqECqmO HpHxEnJLmrv GlnuH7If4tP RxGnuExQvVj PYV7zfEDxrB CBf5V4o2AZv NAIULVfYtyQ Cb6C31euy6f MX3edLap3jm U67Ntvx5aXv CTEsfrlgegv T6Z61Cfg1Fj TItz7QN9Y9W I1LSZT3MEUi GSFtnbujrP7 BQUw9eNISYJ B2Iur0s4btp KYd8dZvu7S8 EZQ2Ueuiw9W AKAt3PzSwEh NlVFexB74l6 VBIn9fTG4fP Ir3e8OoZ9K1 QfPcIzhNqma D58DZo6gpWE LpJUtlgB869 QSRJ6tJqJAo TswkKLTGAMk C0Vv97m5zSn MQePdfMpMC8 OI2Sx785yd1 QDFJls5CrLW P2VJvZwfEFD Tn2Vnoavbdb Kwp03SAuvaF VoeS07DfRU6 D3nc6MbLyzb TvrRcfkmcvB K6Hoe6uj3nF I9BRqFrVyiQ DgUNed4QWbD OReNhzIFwoZ EKZFctucUV5 VQ0oymuFyYC Ntrf6dCJZ8T QFeTkBYpkzZ KEPMTaupyPo Jll7j2eVP7q Hxbrx64KaHB KK61hUMqfQN NOCjAxjAlGT BWuNpAzdRqO LP41oOzCAC0 VViwGkM77Y3 GzvxIFsJX2V KL70jtTWyzK KWRS76Wkz3s Clx3S03A688 QFJwFMPWRoH UYd7Rm7WawO DkQtKArFEfs VjWWGQZEfwd MUEONAumEEp S1WWrfmdSOh H17EWWkWDab MhIdrucjitN R8WmBKyp2js CkNUgw7ThYr AuC691Om1PO Ikt5yQ0DGzI FS8XXFLze0B EO50VtktzRn VnmLgWdFxA7 T9B1KHvbBYp Ii8d6nRbXJJ IcHTYFO3tcT CLGSAm90Okt GQxVUsYaIbg Tnwn0e0kxig DS6PA7XbhAY OKylzz1UnfR BUn1IF22w4H T0nzAxfPRni VucOyfwAJaG IhpxH1bfknG LHNd3Xrv5cO QRUWLg0isCK MrmybMqR5Kl KquWz5KZ1Jw LSNtjcjPc20 OWjvGIPGSDa Jz2ZzsOnNNp LA8hgCGjx5J DqEMeMB9gm2 Ipe7ZvUfO8F UJUviaqlELb RWaWW9Yxygi EqlAxd8EDad Phv4DDEa3CB AuosPkziJv3 NGK4tv4ufIU DlZfUyQdqSM GBbrDbE1eLI VBPpT4zzIrI H0v7VtR9EW9 MsFGSQTjCwU F48Nfltflck P13w9FQjDpx O3YrA3IwgRa Ab8xLrSMyyk TB6eFL0cvUV R7qa4wj0Nb1 QylkUMPNjP7 JUruyhmrzHJ HkQFM7RcS1B PSCWQbk8qll CqkJEAckREj UiKpASyap4U T2LtlLhhdbG TXXCdJv8q5I RsoqYh1TyiY BacS6IRDbdX CI05Hau0t6i Rq6cS8kH7Y2 JJiqqLFAFvf NejnPFjImN6 MLkUURgmQ3t GH7giDo7Ur0 SqeFavWqv42 UtKDWdvFnQk VkzgSMy1Wkj OIVUh7ZNerh DUbovxGfktW LGmjpuUz6xb L1EmljQEVMP RjMW1h2xEHb OXsJQTqeToF FFSfqmYjo1H O2wkFfd4QBt NmjYzGB0RQk CuzxoE8feid RfA3sUgNzbF LSaaR9n9zYw SZXg4479yOY Uw8F3OcQ9QH UupiMrIdkEe HGnktRs2naY I58e1vgXiLA OlBwDkkKU8j BWCtcdFpxfW DTkKy8nuJXg S59Ig5LzMyP AZzvpp8TFbk LEmcm15GRUn AjwIx7DsOqW GJHiDqn0OpQ U9AsZsf8gzL CMpLu8ztdIS JdMwpgxuz8b HDrR1nhzu5L S46gtkhu3y2 ENhDLwjCmsQ OJCHG3KGnk5 BEn4XRX6yWt CrTWwtTuKrf GBoMPhTFK33 AUJgpPKzy1F SiO25A1W6Nx JJP1vMqw4UH SomDlRZxFE7 G1287MkGNsb RiER9vEftP0 CGkkOpS6JI8 HK3Pw1Utwq6 I7iHhFY5jAl O0ny9juojBa Rs9soWPsnNp NW9aAgqtFKt QRC8fjlkp8C EoLbZLq4TXV GalgqQkykt7 UmhTUr3i8DC OpSeaxaMMiB RmK8I1KY2Cl AaaMJQrHZ7s PFWeyLW1tAf EMPHGCxga9R HzwPWaZo9iR GXc5R0p6llg Nux5rpwLfbL UPVm8abJ8GH GZxmDLqIGVZ FaT6u5e7yc7 IWB9unebEhe MQVH0ZU1f49 Ctc0Z1h3SCE IgZR55CkhaF FcZ2zEQvSOV U7ktmU7SZzS DT9givDLV39 CkYhGgknkTz HVreJEMW7sG RfR8ldv7ir6 JoboIqwbo1C PqiB8Vq4mOt S4VWy3YQp45 JYP5K089mNY Vc8YZiasjlG IImGygD9SI1 QHbKibEegqd AmcQUVU5GYU ERol6BFPcXv NyGFh1JmZ5m UVRfbcfLxGs AWEzzzzBd0Q Okyxyh0oBci LFZssNEoot3 I99287iAxq3 Mere8hlDgAk HernmyBxPD9 Pz8GXrvW0kg U9Va6UYWPcO F9xHYWecy8V Bf1seu6pagW Ejj21W5QHPw M0tLlJiXDV0 HfbgNJ2qRFP HSwG34II59y MpuRsNLuTKa VQqb5znETEy M3ZdyqO229k HYACXj0ucmW AeDc5TBcVnn NIlyEvkWVfb JfRKttm7ULg FwzeJzcYntW SalF1r0si6z OBYTv21s8C5 IFgPFtFLkCP Cob2gumNlLh LRnBsr6vHNs AwJUnIOeP4Y CMUoZgJxNHH OKbqDSG5geP KJa5s4iTksx DRTJXa7eAeM JQ8yIg2qEqM ETNYnLQJ2sW GthxBYaggYo VkcGZwKW4Ys KKu3dJf5Yda HeCitqqdzfY FFV94N4mJpV GhRsReErksD CGg5IbajSo4 DsSwnSftumK MwxkTqb1zeN Od9Y23xSVTJ LCsvrjyyl0R BxKT9AJO0A5 G1Oxghdt8D0 DlI20dDJo9H DolscZsqQfT LC3xZ7uhWTU B1h7PagIcjO AWfj7M5ftKt EI9i3ule4Fz HS0R9Qllouf C7lJvKPcgFl OEntfIJF9GR EzUXfccXpQn A2pUQZDJBU0
end PySem.W.Fast
open PySem PySem.W PyProof.Rows
set_option maxRecDepth 100000 in
set_option maxHeartbeats 0 in
theorem PySem.Challenge.cw_pageturns_k22_no_plain_answer_holds : PySem.Challenge.rw_pageturns_k22_no_plain_answer.Holds := by
 w_on;o_law;k_head;(case hw=>w_witness2)
 k_fill
 refine L2.GQ (l:=PySem.Challenge.rw_pageturns_k22_no_plain_answer) (n:=63) (k:=20) (x := "_law_script") (CX:=L2.U5) rfl (by decide) rfl ⟨rfl,by decide,by decide⟩ (fun w h Y=>PySem.W.km_in_of Y) (fun w h Y=>PySem.W.km_tabs_of Y) (fun w h Y=>L2.Ke Y (by trivial)) ?tF fun _ _ _ _ z=>z
 intro w mg fa h KX G NM
 refine My.P0 NM ?_
 refine' L2.gvc KX G "Shelf" ?a1 ?b1 ?c1 ?d1 ?e1 ?f1 ?g1 fun Ll ag Ln k_Shelf=>?z1
 (case a1|b1|c1|d1|e1|f1|g1=>k_is)
 refine' L2.fi KX G "is_whole" My.kU ["thing"] ?a2 ?b2 ?c2 ?d2 ?e2 fun d0 F0=>?z2
 (case a2|b2|c2|d2=>k_is)
 (case e2=>exact L2.so fun _=>rfl)
 refine' L2.fi KX G "is_letter" My.i9 ["sign"] ?a3 ?b3 ?c3 ?d3 ?e3 fun d1 F1=>?z3
 (case a3|b3|c3|d3=>k_is)
 (case e3=>exact L2.so fun _=>rfl)
 refine' L2.fi KX G "is_figure" My.i_ ["sign"] ?a4 ?b4 ?c4 ?d4 ?e4 fun d2 F2=>?z4
 (case a4|b4|c4|d4=>k_is)
 (case e4=>exact L2.so fun _=>rfl)
 refine' L2.fi KX G "is_name" My.jZ ["thing"] ?a5 ?b5 ?c5 ?d5 ?e5 fun d3 F3=>?z5
 (case a5|b5|c5|d5=>k_is)
 (case e5=>exact L2.so fun _=>rfl)
 refine' L2.fi KX G "is_key" My.ma ["thing"] ?a6 ?b6 ?c6 ?d6 ?e6 fun d4 F4=>?z6
 (case a6|b6|c6|d6=>k_is)
 (case e6=>exact L2.so fun _=>rfl)
 refine' L2.fi KX G "is_word" My.j4 ["thing"] ?a7 ?b7 ?c7 ?d7 ?e7 fun d5 F5=>?z7
 (case a7|b7|c7|d7=>k_is)
 (case e7=>exact L2.so fun _=>rfl)
 refine' L2.fi KX G "is_kind" My.nv ["thing"] ?a8 ?b8 ?c8 ?d8 ?e8 fun d6 F6=>?z8
 (case a8|b8|c8|d8=>k_is)
 (case e8=>exact L2.so fun _=>rfl)
 refine' L2.fi KX G "is_value" My.kW ["kind","thing"] ?a9 ?b9 ?c9 ?d9 ?e9 fun d7 F7=>?z9
 (case a9|b9|c9|d9=>k_is)
 (case e9=>exact L2.ln2 fun _ _=>rfl)
 refine' L2.fi KX G "check_columns" My.cY ["columns"] ?a10 ?b10 ?c10 ?d10 ?e10 fun d8 F8=>?z10
 (case a10|b10|c10|d10=>k_is)
 (case e10=>exact L2.so fun _=>rfl)
 refine' L2.fi KX G "is_column" My.ja ["thing"] ?a11 ?b11 ?c11 ?d11 ?e11 fun d9 F9=>?z11
 (case a11|b11|c11|d11=>k_is)
 (case e11=>exact L2.so fun _=>rfl)
 refine' L2.fi KX G "names_of" My.ie ["columns"] ?a12 ?b12 ?c12 ?d12 ?e12 fun d10 F10=>?z12
 (case a12|b12|c12|d12=>k_is)
 (case e12=>exact L2.so fun _=>rfl)
 refine' L2.fi KX G "kind_named" My.ig ["columns","name"] ?a13 ?b13 ?c13 ?d13 ?e13 fun d11 F11=>?z13
 (case a13|b13|c13|d13=>k_is)
 (case e13=>exact L2.ln2 fun _ _=>rfl)
 refine' L2.fi KX G "check_row" My.jb ["columns","row"] ?a14 ?b14 ?c14 ?d14 ?e14 fun d12 F12=>?z14
 (case a14|b14|c14|d14=>k_is)
 (case e14=>exact L2.ln2 fun _ _=>rfl)
 refine' L2.fi KX G "are_worths" My.eY ["columns","thing"] ?a15 ?b15 ?c15 ?d15 ?e15 fun d13 F13=>?z15
 (case a15|b15|c15|d15=>k_is)
 (case e15=>exact L2.ln2 fun _ _=>rfl)
 refine' L2.fi KX G "value_in" My.kX ["columns","row","name"] ?a16 ?b16 ?c16 ?d16 ?e16 fun d14 F14=>?z16
 (case a16|b16|c16|d16=>k_is)
 (case e16=>exact L2.Af fun _ _ _=>rfl)
 refine' L2.fi KX G "is_way" My.qR ["thing"] ?a17 ?b17 ?c17 ?d17 ?e17 fun d15 F15=>?z17
 (case a17|b17|c17|d17=>k_is)
 (case e17=>exact L2.so fun _=>rfl)
 refine' L2.fi KX G "is_end" My.qS ["thing"] ?a18 ?b18 ?c18 ?d18 ?e18 fun d16 F16=>?z18
 (case a18|b18|c18|d18=>k_is)
 (case e18=>exact L2.so fun _=>rfl)
 refine' L2.fi KX G "check_order" My.cV ["columns","order"] ?a19 ?b19 ?c19 ?d19 ?e19 fun d17 F17=>?z19
 (case a19|b19|c19|d19=>k_is)
 (case e19=>exact L2.ln2 fun _ _=>rfl)
 refine' L2.fi KX G "is_part" My.ny ["columns","thing"] ?a20 ?b20 ?c20 ?d20 ?e20 fun d18 F18=>?z20
 (case a20|b20|c20|d20=>k_is)
 (case e20=>exact L2.ln2 fun _ _=>rfl)
 refine' L2.fi KX G "check_sieve" My.eB ["columns","sieve"] ?a21 ?b21 ?c21 ?d21 ?e21 fun d19 F19=>?z21
 (case a21|b21|c21|d21=>k_is)
 (case e21=>exact L2.ln2 fun _ _=>rfl)
 refine' L2.fi KX G "is_formed" My.fW ["columns","thing"] ?a22 ?b22 ?c22 ?d22 ?e22 fun d20 F20=>?z22
 (case a22|b22|c22|d22=>k_is)
 (case e22=>exact L2.ln2 fun _ _=>rfl)
 refine' L2.fi KX G "is_short_tuple" My.dW ["thing"] ?a23 ?b23 ?c23 ?d23 ?e23 fun d21 F21=>?z23
 (case a23|b23|c23|d23=>k_is)
 (case e23=>exact L2.so fun _=>rfl)
 refine' L2.fi KX G "fits_column" My.gw ["columns","sieve"] ?a24 ?b24 ?c24 ?d24 ?e24 fun d22 F22=>?z24
 (case a24|b24|c24|d24=>k_is)
 (case e24=>exact L2.ln2 fun _ _=>rfl)
 refine' L2.fi KX G "sieves_within" My.eP ["sieves"] ?a25 ?b25 ?c25 ?d25 ?e25 fun d23 F23=>?z25
 (case a25|b25|c25|d25=>k_is)
 (case e25=>exact L2.so fun _=>rfl)
 refine' L2.fi KX G "passes" My.jc ["columns","sieve","row"] ?a26 ?b26 ?c26 ?d26 ?e26 fun d24 F24=>?z26
 (case a26|b26|c26|d26=>k_is)
 (case e26=>exact L2.Af fun _ _ _=>rfl)
 refine' L2.fi KX G "value_passes" My.fj ["word","value","told"] ?a27 ?b27 ?c27 ?d27 ?e27 fun d25 F25=>?z27
 (case a27|b27|c27|d27=>k_is)
 (case e27=>exact L2.Af fun _ _ _=>rfl)
 refine' L2.fnd KX G "plain" My.u_ ["shelf","order","sieve","moment"] ?a28 ?b28 ?c28 ?d28 ?e28 ?f28 ?g28 fun d26 F26 D26=>?z28
 (case a28|b28|c28|d28|e28=>k_is)
 (case f28=>intro s us t;revert us;exact L2.Yu fun _ _ _ _=>.of_defaults rfl t rfl rfl rfl)
 (case g28=>intro s us t;revert us;exact L2.Yw fun _ _ _=>.of_defaults rfl t rfl rfl rfl)
 refine' L2.fnd KX G "count_of" My.kY ["shelf","sieve","moment"] ?a29 ?b29 ?c29 ?d29 ?e29 ?f29 ?g29 fun d27 F27 D27=>?z29
 (case a29|b29|c29|d29|e29=>k_is)
 (case f29=>intro s us t;revert us;exact L2.Af fun _ _ _=>.of_defaults rfl t rfl rfl rfl)
 (case g29=>intro s us t;revert us;exact L2.TF fun _ _=>.of_defaults rfl t rfl rfl rfl)
 refine' L2.fi KX G "ordered_answer" My.dX ["shelf","order","sieve","moment"] ?a30 ?b30 ?c30 ?d30 ?e30 fun d28 F28=>?z30
 (case a30|b30|c30|d30=>k_is)
 (case e30=>exact L2.Yu fun _ _ _ _=>rfl)
 refine' L2.fi KX G "rows_passing" My.cG ["shelf","sieve","moment"] ?a31 ?b31 ?c31 ?d31 ?e31 fun d29 F29=>?z31
 (case a31|b31|c31|d31=>k_is)
 (case e31=>exact L2.Af fun _ _ _=>rfl)
 refine' L2.fi KX G "in_order" My.kZ ["columns","order","rows"] ?a32 ?b32 ?c32 ?d32 ?e32 fun d30 F30=>?z32
 (case a32|b32|c32|d32=>k_is)
 (case e32=>exact L2.Af fun _ _ _=>rfl)
 refine' L2.Ys KX G "sorted_by_keys" My.cg ["rows","way"] ?a33 ?b33 ?c33 ?d33 ?e33 fun d31 e31 B31 F31=>?z33
 (case a33|b33|c33|d33=>k_is)
 (case e33=>exact L2.ln2 fun _ _=>rfl)
 refine' L2.fi KX G "sorted_by_part" My.cj ["columns","part","rows"] ?a34 ?b34 ?c34 ?d34 ?e34 fun d32 F32=>?z34
 (case a34|b34|c34|d34=>k_is)
 (case e34=>exact L2.Af fun _ _ _=>rfl)
 refine' L2.Ys KX G "sorted_by_values" My.bC ["columns","part","rows"] ?a35 ?b35 ?c35 ?d35 ?e35 fun d33 e33 B33 F33=>?z35
 (case a35|b35|c35|d35=>k_is)
 (case e35=>exact L2.Af fun _ _ _=>rfl)
 refine' L2.fi KX G "worths_then" My.gz ["standings","moment"] ?a36 ?b36 ?c36 ?d36 ?e36 fun d34 F34=>?z36
 (case a36|b36|c36|d36=>k_is)
 (case e36=>exact L2.ln2 fun _ _=>rfl)
 refine' L2.fi KX G "_law_cell_at" My.jd ["_law_script","_law_k"] ?a37 ?b37 ?c37 ?d37 ?e37 fun d35 F35=>?z37
 (case a37|b37|c37|d37=>k_is)
 (case e37=>exact L2.ln2 fun _ _=>rfl)
 refine' L2.fi KX G "_law_well" My.qT ["_law_cell"] ?a38 ?b38 ?c38 ?d38 ?e38 fun d36 F36=>?z38
 (case a38|b38|c38|d38=>k_is)
 (case e38=>exact L2.so fun _=>rfl)
 refine' L2.fi KX G "_law_draw" My.qU ["_law_well_here","_law_most"] ?a39 ?b39 ?c39 ?d39 ?e39 fun d37 F37=>?z39
 (case a39|b39|c39|d39=>k_is)
 (case e39=>exact L2.ln2 fun _ _=>rfl)
 refine' L2.fi KX G "_law_columns" My.je ["_law_well_here"] ?a40 ?b40 ?c40 ?d40 ?e40 fun d38 F38=>?z40
 (case a40|b40|c40|d40=>k_is)
 (case e40=>exact L2.so fun _=>rfl)
 refine' L2.fi KX G "_law_value" My.nz ["_law_well_here","_law_kind"] ?a41 ?b41 ?c41 ?d41 ?e41 fun d39 F39=>?z41
 (case a41|b41|c41|d41=>k_is)
 (case e41=>exact L2.ln2 fun _ _=>rfl)
 refine' L2.fi KX G "_law_worths" My.ij ["_law_well_here","_law_columns_here"] ?a42 ?b42 ?c42 ?d42 ?e42 fun d40 F40=>?z42
 (case a42|b42|c42|d42=>k_is)
 (case e42=>exact L2.ln2 fun _ _=>rfl)
 refine' L2.fi KX G "_law_key" My.vc ["_law_well_here"] ?a43 ?b43 ?c43 ?d43 ?e43 fun d41 F41=>?z43
 (case a43|b43|c43|d43=>k_is)
 (case e43=>exact L2.so fun _=>rfl)
 refine' L2.fi KX G "_law_order" My.nA ["_law_well_here","_law_columns_here"] ?a44 ?b44 ?c44 ?d44 ?e44 fun d42 F42=>?z44
 (case a44|b44|c44|d44=>k_is)
 (case e44=>exact L2.ln2 fun _ _=>rfl)
 refine' L2.fi KX G "_law_sieve" My.gJ ["_law_well_here","_law_columns_here","_law_deep"] ?a45 ?b45 ?c45 ?d45 ?e45 fun d43 F43=>?z45
 (case a45|b45|c45|d45=>k_is)
 (case e45=>exact L2.Af fun _ _ _=>rfl)
 refine' L2.fi KX G "_law_deed" My.qW ["_law_well_here","_law_columns_here","_law_known_here"] ?a46 ?b46 ?c46 ?d46 ?e46 fun d44 F44=>?z46
 (case a46|b46|c46|d46=>k_is)
 (case e46=>exact L2.Af fun _ _ _=>rfl)
 refine' L2.fi KX G "_law_known" My.nB ["_law_known_here","_law_deed_here"] ?a47 ?b47 ?c47 ?d47 ?e47 fun d45 F45=>?z47
 (case a47|b47|c47|d47=>k_is)
 (case e47=>exact L2.ln2 fun _ _=>rfl)
 refine' L2.fi KX G "_law_does" My.qX ["_law_shelf","_law_deed_here"] ?a48 ?b48 ?c48 ?d48 ?e48 fun d46 F46=>?z48
 (case a48|b48|c48|d48=>k_is)
 (case e48=>exact L2.ln2 fun _ _=>rfl)
 refine' L2.fi KX G "_law_bad_order" My.gA ["_law_well_here","_law_columns_here"] ?a49 ?b49 ?c49 ?d49 ?e49 fun d47 F47=>?z49
 (case a49|b49|c49|d49=>k_is)
 (case e49=>exact L2.ln2 fun _ _=>rfl)
 refine' L2.fi KX G "_law_bad_sieve" My.gB ["_law_well_here","_law_columns_here"] ?a50 ?b50 ?c50 ?d50 ?e50 fun d48 F48=>?z50
 (case a50|b50|c50|d50=>k_is)
 (case e50=>exact L2.ln2 fun _ _=>rfl)
 refine' L2.fi KX G "_law_great_sieve" My.eQ ["_law_well_here","_law_deepest"] ?a51 ?b51 ?c51 ?d51 ?e51 fun d49 F49=>?z51
 (case a51|b51|c51|d51=>k_is)
 (case e51=>exact L2.ln2 fun _ _=>rfl)
 refine' L2.fi KX G "_law_caught" My.k7 ["_law_way","_law_shelf","_law_order_here","_law_sieve_here","_law_moment"] ?a52 ?b52 ?c52 ?d52 ?e52 fun d50 F50=>?z52
 (case a52|b52|c52|d52=>k_is)
 (case e52=>exact L2.ln5 fun _ _ _ _ _=>rfl)
 refine' L2.Ys KX G "law" My.xu ["_law_script"] ?a53 ?b53 ?c53 ?d53 ?e53 fun d51 e51 B51 F51=>?z53
 (case a53|b53|c53|d53=>k_is)
 (case e53=>exact L2.so fun _=>rfl)
 refine' L2.Iy ag "__init__" "Shelf.__init__" ((L2.inClass My.az 0)) ["self","columns"] ?a54 ?b54 ?c54 ?d54 ?e54 ?f54 fun d52 ZV=>?z54
 (case a54|b54|c54|d54|e54=>k_is)
 (case f54=>exact L2.ln2 fun _ _=>rfl)
 refine' L2.Iy ag "put" "Shelf.put" ((L2.inClass My.az 1)) ["self","key","worths"] ?a55 ?b55 ?c55 ?d55 ?e55 ?f55 fun d53 F53=>?z55
 (case a55|b55|c55|d55|e55=>k_is)
 (case f55=>exact L2.Af fun _ _ _=>rfl)
 refine' L2.Iy ag "change" "Shelf.change" ((L2.inClass My.az 2)) ["self","key","worths"] ?a56 ?b56 ?c56 ?d56 ?e56 ?f56 fun d54 F54=>?z56
 (case a56|b56|c56|d56|e56=>k_is)
 (case f56=>exact L2.Af fun _ _ _=>rfl)
 refine' L2.Iy ag "take" "Shelf.take" ((L2.inClass My.az 3)) ["self","key"] ?a57 ?b57 ?c57 ?d57 ?e57 ?f57 fun d55 F55=>?z57
 (case a57|b57|c57|d57|e57=>k_is)
 (case f57=>exact L2.ln2 fun _ _=>rfl)
 refine' L2.Iy ag "check_stands" "Shelf.check_stands" ((L2.inClass My.az 4)) ["self","key"] ?a58 ?b58 ?c58 ?d58 ?e58 ?f58 fun d56 F56=>?z58
 (case a58|b58|c58|d58|e58=>k_is)
 (case f58=>exact L2.ln2 fun _ _=>rfl)
 refine' L2.Iy ag "begin_standing" "Shelf.begin_standing" ((L2.inClass My.az 5)) ["self","key","worths"] ?a59 ?b59 ?c59 ?d59 ?e59 ?f59 fun d57 F57=>?z59
 (case a59|b59|c59|d59|e59=>k_is)
 (case f59=>exact L2.Af fun _ _ _=>rfl)
 refine' L2.Iy ag "end_standing" "Shelf.end_standing" ((L2.inClass My.az 6)) ["self","key"] ?a60 ?b60 ?c60 ?d60 ?e60 ?f60 fun d58 F58=>?z60
 (case a60|b60|c60|d60|e60=>k_is)
 (case f60=>exact L2.ln2 fun _ _=>rfl)
 refine' L2.Iy ag "has_columns" "Shelf.has_columns" ((L2.inClass My.az 7)) ["self"] ?a61 ?b61 ?c61 ?d61 ?e61 ?f61 fun d59 F59=>?z61
 (case a61|b61|c61|d61|e61=>k_is)
 (case f61=>exact L2.so fun _=>rfl)
 refine' L2.Iy ag "now" "Shelf.now" ((L2.inClass My.az 8)) ["self"] ?a62 ?b62 ?c62 ?d62 ?e62 ?f62 fun d60 F60=>?z62
 (case a62|b62|c62|d62|e62=>k_is)
 (case f62=>exact L2.so fun _=>rfl)
 refine' L2.fmd ag "worths_at" "Shelf.worths_at" ((L2.inClass My.az 9)) ["self","key","moment"] ?a63 ?b63 ?c63 ?d63 ?e63 ?f63 ?g63 ?h63 fun d61 F61 D61=>?z63
 (case a63|b63|c63|d63|e63|f63=>k_is)
 (case g63=>intro s us t;revert us;exact L2.Af fun _ _ _=>.of_defaults rfl t rfl rfl rfl)
 (case h63=>intro s us t;revert us;exact L2.TF fun _ _=>.of_defaults rfl t rfl rfl rfl)
 refine' L2.fmd ag "all_at" "Shelf.all_at" ((L2.inClass My.az 10)) ["self","moment"] ?a64 ?b64 ?c64 ?d64 ?e64 ?f64 ?g64 ?h64 fun d62 F62 D62=>?z64
 (case a64|b64|c64|d64|e64|f64=>k_is)
 (case g64=>intro s us t;revert us;exact L2.ln2 fun _ _=>.of_defaults rfl t rfl rfl rfl)
 (case h64=>intro s us t;revert us;exact L2.Yv fun _=>.of_defaults rfl t rfl rfl rfl)
 refine' L2.Iy ag "moment_meant" "Shelf.moment_meant" ((L2.inClass My.az 13)) ["self","moment"] ?a65 ?b65 ?c65 ?d65 ?e65 ?f65 fun d63 F63=>?z65
 (case a65|b65|c65|d65|e65=>k_is)
 (case f65=>exact L2.ln2 fun _ _=>rfl)
 refine' L2.L9 KX G "MOST_NAME_SIGNS" 8 ?a66 fun mO=>?z66
 (case a66=>k_is)
 refine' L2.L9 KX G "MOST_KEY_SIGNS" 12 ?a67 fun oo=>?z67
 (case a67=>k_is)
 refine' L2.L9 KX G "MOST_WORD_SIGNS" 40 ?a68 fun mP=>?z68
 (case a68=>k_is)
 refine' L2.L9 KX G "MOST_COLUMNS" 8 ?a69 fun rX=>?z69
 (case a69=>k_is)
 refine' L2.L9 KX G "MOST_PARTS_orders" 8 ?a70 fun kG=>?z70
 (case a70=>k_is)
 refine' L2.L9 KX G "MOST_DEEP" 8 ?a71 fun y9=>?z71
 (case a71=>k_is)
 refine' L2.L9 KX G "MOST_PARTS_sieves" 200 ?a72 fun kH=>?z72
 (case a72=>k_is)
 refine' L2.L9 KX G "MOST_IN_A_TUPLE" 8 ?a73 fun mQ=>?z73
 (case a73=>k_is)
 refine' L2.VB KX G "KINDS" ?a74 ?b74 fun Lo w_KINDS=>?z74
 (case a74|b74=>k_is)
 refine' L2.VB KX G "OTHER_WAY" ?a75 ?b75 fun y_ w_OTHER_WAY=>?z75
 (case a75|b75=>k_is)
 refine' L2.VB KX G "OTHER_END" ?a76 ?b76 fun z_ w_OTHER_END=>?z76
 (case a76|b76=>k_is)
 refine' L2.VB KX G "LENGTHS" ?a77 ?b77 fun E7 w_LENGTHS=>?z77
 (case a77|b77=>k_is)
 refine' L2.xt KX G "len" ?a78 fun UD=>?z78
 (case a78=>k_is)
 refine' L2.xt KX G "all" ?a79 fun UE=>?z79
 (case a79=>k_is)
 refine' L2.xt KX G "any" ?a80 fun UG=>?z80
 (case a80=>k_is)
 refine' L2.xt KX G "isinstance" ?a81 fun we=>?z81
 (case a81=>k_is)
 refine' L2.xt KX G "range" ?a82 fun Lp=>?z82
 (case a82=>k_is)
 refine' L2.xt KX G "int" ?a83 fun UH=>?z83
 (case a83=>k_is)
 refine' L2.xt KX G "str" ?a84 fun UI=>?z84
 (case a84=>k_is)
 refine' L2.xt KX G "bool" ?a85 fun P1=>?z85
 (case a85=>k_is)
 refine' L2.xt KX G "tuple" ?a86 fun Lq=>?z86
 (case a86=>k_is)
 refine' L2.xt KX G "list" ?a87 fun P2=>?z87
 (case a87=>k_is)
 refine' L2.xt KX G "dict" ?a88 fun P4=>?z88
 (case a88=>k_is)
 refine' L2.xt KX G "set" ?a89 fun UJ=>?z89
 (case a89=>k_is)
 refine' L2.xt KX G "zip" ?a90 fun UK=>?z90
 (case a90=>k_is)
 refine' L2.xt KX G "sorted" ?a91 fun Ik=>?z91
 (case a91=>k_is)
 refine' L2.xt KX G "min" ?a92 fun UL=>?z92
 (case a92=>k_is)
 refine' L2.xt KX G "reversed" ?a93 fun BV=>?z93
 (case a93=>k_is)
 refine' L2.xt KX G "ValueError" ?a94 fun wg=>?z94
 (case a94=>k_is)
 refine' L2.L_ KX G "PageError" ?a95 ?b95 fun gj jy=>?z95
 (case a95=>k_is)
 (case b95=>k_exc)
 refine' L2.L_ KX G "BadColumns" ?a96 ?b96 fun e_ dE=>?z96
 (case a96=>k_is)
 (case b96=>k_exc)
 refine' L2.L_ KX G "BadRow" ?a97 ?b97 fun mR gX=>?z97
 (case a97=>k_is)
 (case b97=>k_exc)
 refine' L2.L_ KX G "BadOrder" ?a98 ?b98 fun bE cI=>?z98
 (case a98=>k_is)
 (case b98=>k_exc)
 refine' L2.L_ KX G "BadSieve" ?a99 ?b99 fun bF fw=>?z99
 (case a99=>k_is)
 (case b99=>k_exc)
 refine' L2.Qw KX G "BadPlace" ?a100 fun iD=>?z100
 (case a100=>k_is)
 refine' L2.Qw KX G "BadSize" ?a101 fun kg=>?z101
 (case a101=>k_is)
 refine' L2.L_ KX G "HasKey" ?a102 ?b102 fun mS rC=>?z102
 (case a102=>k_is)
 (case b102=>k_exc)
 refine' L2.L_ KX G "NoKey" ?a103 ?b103 fun pT vE=>?z103
 (case a103=>k_is)
 (case b103=>k_exc)
 refine' L2.L_ KX G "NoMoment" ?a104 ?b104 fun bG iw=>?z104
 (case a104=>k_is)
 (case b104=>k_exc)
 refine' L2.Qw KX G "NoMark" ?a105 fun mT=>?z105
 (case a105=>k_is)
 refine' L2.Qw KX G "OldMark" ?a106 fun kh=>?z106
 (case a106=>k_is)
 refine' L2.Qw KX G "NoText" ?a107 fun mU=>?z107
 (case a107=>k_is)
 refine' L2.Qw KX G "NoLine" ?a108 fun mV=>?z108
 (case a108=>k_is)
 refine' L2.Yz KX bE ?a109 ?b109 ?c109 fun jA=>?z109
 (case a109|b109|c109=>k_is)
 refine' L2.Yz KX bF ?a110 ?b110 ?c110 fun jB=>?z110
 (case a110|b110|c110=>k_is)
 refine' L2.Yz KX bG ?a111 ?b111 ?c111 fun jC=>?z111
 (case a111|b111|c111=>k_is)
 refine' L2.Yy KX bE gj ?a112 fun cJ=>?z112
 (case a112=>k_is)
 refine' L2.Yy KX bF gj ?a113 fun cK=>?z113
 (case a113=>k_is)
 refine' L2.Yy KX bG gj ?a114 fun cL=>?z114
 (case a114=>k_is)
 refine' L2.OR KX bE e_ iD mR kg mS pT mV mT mU kh ?a115 ?b115 ?c115 ?d115 ?e115 ?f115 ?g115 ?h115 ?i115 ?j115 fun jD=>?z115
 (case a115|b115|c115|d115|e115|f115|g115|h115|i115|j115=>kit_is)
 refine' L2.OR KX bF e_ iD mR kg mS pT mV mT mU kh ?a116 ?b116 ?c116 ?d116 ?e116 ?f116 ?g116 ?h116 ?i116 ?j116 fun jE=>?z116
 (case a116|b116|c116|d116|e116|f116|g116|h116|i116|j116=>kit_is)
 refine' L2.OR KX bG e_ iD mR kg mS pT mV mT mU kh ?a117 ?b117 ?c117 ?d117 ?e117 ?f117 ?g117 ?h117 ?i117 ?j117 fun jF=>?z117
 (case a117|b117|c117|d117|e117|f117|g117|h117|i117|j117=>kit_is)
 refine' L2.Ko KX bE bE true ?a118 fun k_BadOrder_BadOrder=>?z118
 (case a118=>kit_is)
 refine' L2.Ko KX bE bF false ?a119 fun k_BadOrder_BadSieve=>?z119
 (case a119=>kit_is)
 refine' L2.Ko KX bE bG false ?a120 fun k_BadOrder_NoMoment=>?z120
 (case a120=>kit_is)
 refine' L2.Yx KX bE ?a121 fun k_BadOrder_ValueError=>?z121
 (case a121=>kit_is)
 refine' L2.Ko KX bF bE false ?a122 fun k_BadSieve_BadOrder=>?z122
 (case a122=>kit_is)
 refine' L2.Ko KX bF bF true ?a123 fun k_BadSieve_BadSieve=>?z123
 (case a123=>kit_is)
 refine' L2.Ko KX bF bG false ?a124 fun k_BadSieve_NoMoment=>?z124
 (case a124=>kit_is)
 refine' L2.Yx KX bF ?a125 fun k_BadSieve_ValueError=>?z125
 (case a125=>kit_is)
 refine' L2.Ko KX bG bE false ?a126 fun k_NoMoment_BadOrder=>?z126
 (case a126=>kit_is)
 refine' L2.Ko KX bG bF false ?a127 fun k_NoMoment_BadSieve=>?z127
 (case a127=>kit_is)
 refine' L2.Ko KX bG bG true ?a128 fun k_NoMoment_NoMoment=>?z128
 (case a128=>kit_is)
 refine' L2.Yx KX bG ?a129 fun k_NoMoment_ValueError=>?z129
 (case a129=>kit_is)
 refine' L2.Yt ag "columns" ?a130 fun pE=>?z130
 (case a130=>k_is)
 refine' L2.Yt ag "deeds" ?a131 fun tK=>?z131
 (case a131=>k_is)
 refine' L2.Yt ag "runs" ?a132 fun wj=>?z132
 (case a132=>k_is)
 refine' L2.gvm KX e31 ?a133 ?b133 ?c133 fun ot=>?z133
 (case a133=>k_is)
 (case b133=>rfl)
 (case c133=>first|rfl|decide|simp [codeHdIn])
 refine' L2.gvm KX e33 ?a134 ?b134 ?c134 fun lK=>?z134
 (case a134=>k_is)
 (case b134=>rfl)
 (case c134=>first|rfl|decide|simp [codeHdIn])
 exact⟨⟨_,_,_,_,_,_,_,_,_,_,_,_,_,_,_,_,_,_,_,_,_,_,_,_,_,_,_,_,_,_,_,_,_,_,_,_,_,_,_,_,_,_,_,_,_,_,_,_,_,_,_,_,_,_,_,_,_,_,_,_,_,_,_,_,_,_,_,_,_,_,_,_,_,_,_,_,_,_,_,_,_,_,_,_,_,_,_,_,_,_,_,_,_,_,_,_,_,_,_,_,_,_,_,_,_,_,_,_,_,_,_,_,_,_,_,_,_,_,_,_,_,_,_,_,_,_,_,_,_,_,_,_,_,_,_,_,_,_,_,_,_,_,_,_,_,_,_,_,_,_,_,_,_,_,_,_,_,_,_,_⟩,rfl,⟨F0,F1,F2,F3,F4,F5,F6,F7,F8,F9,F10,F11,F12,F13,F14,F15,F16,F17,F18,F19,F20,F21,F22,F23,F24,F25,F26,D26,F27,D27,F28,F29,F30,F31,F32,F33,F34,F35,F36,F37,F38,F39,F40,F41,F42,F43,F44,F45,F46,F47,F48,F49,F50,F51,ZV,F53,F54,F55,F56,F57,F58,F59,F60,F61,D61,F62,D62,F63,mO,oo,mP,rX,kG,y9,kH,mQ,Lo,fun H=>L2.LI (xs:=[.str "number",.str "word"]) ⟨_,_,_,w_KINDS,rfl,rfl,(by rw[zT];show 2≤16777216;decide),.cons ⟨_,rfl⟩ (.cons ⟨_,rfl⟩ (.nil))⟩ (L2.uR ["number","word"]),y_,⟨by first|rfl|decide,_,_,_,w_OTHER_WAY,⟨rfl,rfl,rfl⟩,rfl,.cons ⟨rfl,⟨_,rfl⟩,⟨_,rfl⟩⟩ (.cons ⟨rfl,⟨_,rfl⟩,⟨_,rfl⟩⟩ (.nil)),by trivial⟩,z_,⟨by first|rfl|decide,_,_,_,w_OTHER_END,⟨rfl,rfl,rfl⟩,rfl,.cons ⟨rfl,⟨_,rfl⟩,⟨_,rfl⟩⟩ (.cons ⟨rfl,⟨_,rfl⟩,⟨_,rfl⟩⟩ (.nil)),by trivial⟩,E7,⟨by first|rfl|decide,_,_,_,w_LENGTHS,⟨rfl,rfl,rfl⟩,rfl,.cons ⟨rfl,⟨_,rfl⟩,⟨_,rfl⟩⟩ (.cons ⟨rfl,⟨_,rfl⟩,⟨_,rfl⟩⟩ (.cons ⟨rfl,⟨_,rfl⟩,⟨_,rfl⟩⟩ (.cons ⟨rfl,⟨_,rfl⟩,⟨_,rfl⟩⟩ (.cons ⟨rfl,⟨_,rfl⟩,⟨_,rfl⟩⟩ (.cons ⟨rfl,⟨_,rfl⟩,⟨_,rfl⟩⟩ (.cons ⟨rfl,⟨_,rfl⟩,⟨_,rfl⟩⟩ (.cons ⟨rfl,⟨_,rfl⟩,⟨_,rfl⟩⟩ (.cons ⟨rfl,⟨_,rfl⟩,⟨_,rfl⟩⟩ (.nil))))))))),by trivial⟩,UD,UE,UG,we,Lp,UH,UI,P1,Lq,P2,P4,UJ,UK,Ik,UL,BV,wg,gj,jy,e_,dE,mR,gX,bE,cI,bF,fw,iD,kg,mS,rC,pT,vE,bG,iw,mT,kh,mU,mV,jA,jB,jC,cJ,cK,cL,jD,jE,jF,k_BadOrder_BadOrder,k_BadOrder_BadSieve,k_BadOrder_NoMoment,k_BadOrder_ValueError,k_BadSieve_BadOrder,k_BadSieve_BadSieve,k_BadSieve_NoMoment,k_BadSieve_ValueError,k_NoMoment_BadOrder,k_NoMoment_BadSieve,k_NoMoment_NoMoment,k_NoMoment_ValueError,Ll,ag,⟨Ln,ZV.e.at_,ZV.e.fn,k_Shelf⟩,pE,tK,wj,e31,ot,by simp,e33,lK,by simp,by simp,by simp,fun s v=>B51 s [v] rfl⟩⟩
