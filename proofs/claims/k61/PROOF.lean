import PyProof.Rows.All
import Wide.All
import OpenK.AllK
import Wide.FinOn
import Lean
import PyProof.EqAt
import PyProof.EqKinds
import PyProof.TupleCall
import PyProof.NsDelKeeps
import KE.KIsBytes
import PyProof.Rows.SetFrom
import KE.KDictOf
import PyProof.AttrMissSeq
import PyProof.WalksMore
import PyProof.ZipIter
import PyProof.StrBlock2
import PyProof.StrBlockI
import PyProof.Rows.StrJoin2
import PyProof.Rows.CountFlat
import PyProof.Rows.Range3
import PyProof.SumWalkG
import PyProof.Rows.ListMulArg
import PyProof.FactsAll.tuple
import PyProof.EnumFor
import PyProof.EnumMake
import KE.KDictLaws
import KE.KDictSum
import KE.KRevIter
import PyProof.Rows.SortStr
import PyProof.Rows.SortWalk
import PyProof.AutoListH
import PyProof.StrLawsReplace
import PyProof.Rows.SortShellK
import KE.KLam
import KE.KSortKey
import KE.KNestM
import PyProof.EnumStmt
import PyProof.ListMulRoad
import PySem.Challenge.RW_pageturns_k61_texts_written
set_option compiler.extract_closed false
local macro_rules|`(tactic| trivial)=>`(tactic| decide +kernel)
set_option Elab.async false
set_option linter.all false
set_option maxRecDepth 100000
namespace Tactic
open PySem.W (instObj methodObj hideAll hideAll_get of_hideAll Frag lookIn plainGet findIn specialIn isFn keepIn mroIn kitOne kia_one kitx_int kitx_str kitx_list fnOf codeIn excIn codeHdIn tabObj nsIn mg_of kia_tup)
theorem za:type_of% @List.length_map:=@List.length_map
theorem zb:type_of% @List.mem_cons:=@List.mem_cons
theorem zc:type_of% @PySem.wpAny_bind:=@PySem.wpAny_bind
theorem zd:type_of% @PySem.Heap.get?_push_of_some:=@PySem.Heap.get?_push_of_some
theorem ze:type_of% @List.not_mem_nil:=@List.not_mem_nil
theorem zf:type_of% @List.length_cons:=@List.length_cons
theorem zg:type_of% @Bool.and_eq_true:=@Bool.and_eq_true
theorem zh:type_of% @Nat.le_refl:=@Nat.le_refl
theorem zi:type_of% @decide_eq_true_eq:=@decide_eq_true_eq
theorem zj:type_of% @List.mem_cons_self:=@List.mem_cons_self
theorem zk:type_of% @decide_eq_true:=@decide_eq_true
theorem zl:type_of% @List.mem_cons_of_mem:=@List.mem_cons_of_mem
theorem zm:type_of% @Bool.false_ne_true:=@Bool.false_ne_true
theorem zo:type_of% @List.length_append:=@List.length_append
theorem zp:type_of% @decide_eq_false:=@decide_eq_false
theorem zq:type_of% @List.mem_map:=@List.mem_map
theorem zr:type_of% @Nat.lt_of_lt_of_le:=@Nat.lt_of_lt_of_le
theorem zt:type_of% @Nat.le_trans:=@Nat.le_trans
theorem zu:type_of% @of_decide_eq_true:=@of_decide_eq_true
theorem zw:type_of% @List.size_toArray:=@List.size_toArray
theorem zx:type_of% @PySem.wpAny_pure:=@PySem.wpAny_pure
theorem zy:type_of% @PySem.Heap.lt_size:=@PySem.Heap.lt_size
theorem zz:type_of% @List.mem_singleton:=@List.mem_singleton
theorem zA:type_of% @Bool.true_and:=@Bool.true_and
theorem zB:type_of% @PySem.Heap.get?_push_size:=@PySem.Heap.get?_push_size
theorem zC:type_of% @List.map_map:=@List.map_map
theorem zD:type_of% @of_decide_eq_false:=@of_decide_eq_false
theorem zE:type_of% @Bool.false_and:=@Bool.false_and
theorem zF:type_of% @List.map_cons:=@List.map_cons
theorem zG:type_of% @Nat.ne_of_lt:=@Nat.ne_of_lt
theorem zH:type_of% @PySem.F.plainAttrs_str:=@PySem.F.plainAttrs_str
theorem zI:type_of% @List.all_eq_true:=@List.all_eq_true
theorem zJ:type_of% @PySem.F.plainAttrs_list:=@PySem.F.plainAttrs_list
theorem zK:type_of% @List.append_assoc:=@List.append_assoc
theorem zL:type_of% @List.mem_append_right:=@List.mem_append_right
theorem zM:type_of% @decide_eq_decide:=@decide_eq_decide
theorem zN:type_of% @List.mem_of_getElem?:=@List.mem_of_getElem?
theorem zO:type_of% @List.lookup_cons:=@List.lookup_cons
theorem zP:type_of% @List.mem_append:=@List.mem_append
theorem zQ:type_of% @List.eq_nil_of_length_eq_zero:=@List.eq_nil_of_length_eq_zero
theorem zR:type_of% @List.append_nil:=@List.append_nil
theorem zS:type_of% @Option.some.inj:=@Option.some.inj
theorem zT:type_of% @List.map_append:=@List.map_append
theorem zU:type_of% @List.getD_eq_getElem?_getD:=@List.getD_eq_getElem?_getD
theorem zV:type_of% @List.getElem?_map:=@List.getElem?_map
theorem zW:type_of% @List.all_cons:=@List.all_cons
theorem zX:type_of% @List.getElem?_eq_getElem:=@List.getElem?_eq_getElem
theorem zY:type_of% @PySem.F.slot_list_append:=@PySem.F.slot_list_append
theorem zZ:type_of% @PySem.F.type_list_append:=@PySem.F.type_list_append
theorem z0:type_of% @List.forall_mem_cons:=@List.forall_mem_cons
theorem ya:type_of% @PySem.F.slot_str_join:=@PySem.F.slot_str_join
theorem yb:type_of% @PySem.F.type_str_join:=@PySem.F.type_str_join
theorem yc:type_of% @Array.length_toList:=@Array.length_toList
theorem yd:type_of% @List.getElem?_eq_some_iff:=@List.getElem?_eq_some_iff
theorem ye:type_of% @Bool.or_eq_true:=@Bool.or_eq_true
theorem yf:type_of% @List.mem_append_left:=@List.mem_append_left
theorem yg:type_of% @List.cons_append:=@List.cons_append
theorem yh:type_of% @List.mem_flatMap:=@List.mem_flatMap
theorem yi:type_of% @List.nodup_cons:=@List.nodup_cons
theorem yj:type_of% @List.length_take:=@List.length_take
theorem yk:type_of% @List.length_drop:=@List.length_drop
theorem ym:type_of% @PySem.wpAny_field:=@PySem.wpAny_field
theorem yn:type_of% @PySem.wpAny_truthy_bool:=@PySem.wpAny_truthy_bool
theorem yo:type_of% @PySem.mem_of_lookup:=@PySem.mem_of_lookup
theorem yp:type_of% @List.find?_cons:=@List.find?_cons
theorem yq:type_of% @Nat.zero_le:=@Nat.zero_le
theorem yr:type_of% @List.flatMap_cons:=@List.flatMap_cons
theorem yt:type_of% @Bool.eq_iff_iff:=@Bool.eq_iff_iff
theorem yu:type_of% @List.take_length:=@List.take_length
theorem yw:type_of% @PySem.Heap.size_push:=@PySem.Heap.size_push
theorem yx:type_of% @PySem.sizeLine_eq:=@PySem.sizeLine_eq
theorem yy:type_of% @PySem.wpAny_mono:=@PySem.wpAny_mono
theorem yz:type_of% @List.foldl_cons:=@List.foldl_cons
theorem yA:type_of% @Nat.lt_irrefl:=@Nat.lt_irrefl
theorem yB:type_of% @PySem.wpAny_seqItems:=@PySem.wpAny_seqItems
theorem yC:type_of% @Nat.ne_of_gt:=@Nat.ne_of_gt
theorem yD:type_of% @PySem.wpAny_holding:=@PySem.wpAny_holding
theorem yE:type_of% @List.any_cons:=@List.any_cons
theorem yF:type_of% @List.cons.inj:=@List.cons.inj
theorem yG:type_of% @Nat.le_succ:=@Nat.le_succ
namespace L2
open PySem PySem.Spec PyProof.Rows
abbrev Key:=Sum Int Str
def keyIs:Key→Value→Bool
 |.inl k,v=>Value.isInt k v
 |.inr x,v=>Value.isStrOf x v
def Qa(w:World):Key→Int
 |.inl k=>hashInt k
 |.inr x=>hashStr w x
theorem bj:∀{k:Key}{v:Value},keyIs k v=true→(∃i t,k=Sum.inl i∧v=Value.int i t)∨(∃x t,k=Sum.inr x∧v=Value.str x t)
 |.inl i,v,h=>by
  obtain⟨t,e⟩:=Value.isInt_shape (k:=i) (v:=v) h
  exact .inl ⟨i,t,rfl,e⟩
 |.inr x,v,h=>by
  obtain⟨t,e⟩:=Value.isStrOf_shape (x:=x) (v:=v) h
  exact .inr ⟨x,t,rfl,e⟩
theorem A1(i:Int)(t:Tok):keyIs (.inl i) (.int i t)=true:=by simp [keyIs,Value.isInt]
theorem A2(x:Str)(t:Tok):keyIs (.inr x) (.str x t)=true:=by simp [keyIs,Value.isStrOf]
theorem IQ(a b:Int):decide ((Sum.inl a:Key)=Sum.inl b)=(a == b):=by
 by_cases e:a=b
 ·subst e;simp
 ·have h:¬ (Sum.inl a:Key)=Sum.inl b:=fun q=>e (Sum.inl.inj q)
  rw[zp h]
  exact (beq_eq_false_iff_ne.mpr e).symm
theorem IS(a b:Str):decide ((Sum.inr a:Key)=Sum.inr b)=decide (a=b):=by
 by_cases e:a=b
 ·subst e;simp
 ·have h:¬ (Sum.inr a:Key)=Sum.inr b:=fun q=>e (Sum.inr.inj q)
  rw[zp h,zp e]
theorem IT(a:Int)(b:Str):decide ((Sum.inl a:Key)=Sum.inr b)=false:=zp (fun q=>nomatch q)
theorem IU(a:Str)(b:Int):decide ((Sum.inr a:Key)=Sum.inl b)=false:=zp (fun q=>nomatch q)
def aH(prog:Program)(w:World):PySem.KeyKind prog w Key where
 is:=keyIs
 hash:=Qa w
 inj:=fun v a b ha hb=>by
  rcases bj ha with ⟨i,t,rfl,rfl⟩|⟨x,t,rfl,rfl⟩
  ·rcases bj hb with ⟨j,u,rfl,e⟩|⟨y,u,rfl,e⟩
   ·injection e with e1 _;rw[e1]
   ·exact nomatch e
  ·rcases bj hb with ⟨j,u,rfl,e⟩|⟨y,u,rfl,e⟩
   ·exact nomatch e
   ·injection e with e1 _;rw[e1]
 byValue:=fun k v h=>by
  rcases bj h with ⟨i,t,rfl,rfl⟩|⟨x,t,rfl,rfl⟩ <;> rfl
 pyHash:=fun hv h=>by
  rcases bj hv with ⟨i,t,rfl,rfl⟩|⟨x,t,rfl,rfl⟩
  ·exact wpAny_pyHash_int h
  ·exact wpAny_pyHash_str h
 eqBool:=fun hu hv h=>by
  rcases bj hu with ⟨i,t,rfl,rfl⟩|⟨x,t,rfl,rfl⟩
  ·rcases bj hv with ⟨j,u,rfl,rfl⟩|⟨y,u,rfl,rfl⟩
   ·rw[IQ] at h;exact wpAny_eqBool_int h
   ·rw[IT] at h;exact SeqAt.EqAt.int_str i t y u _ _ _ _ h
  ·rcases bj hv with ⟨j,u,rfl,rfl⟩|⟨y,u,rfl,rfl⟩
   ·rw[IU] at h;exact SeqAt.EqAt.str_int x t j u _ _ _ _ h
   ·rw[IS] at h;exact wpAny_eqBool_str h
 «strs»:=fun k x t v h=>by
  rcases bj h with ⟨i,u,rfl,e⟩|⟨y,u,rfl,e⟩
  ·exact nomatch e
  ·injection e with e1 _
   subst e1
   cases v <;> rfl
theorem uB(prog:Program)(w:World)(i:Int)(t:Tok):(aH prog w).is (.inl i) (.int i t)=true:=A1 i t
theorem ir(prog:Program)(w:World)(x:Str)(t:Tok):(aH prog w).is (.inr x) (.str x t)=true:=A2 x t
inductive V where
 |aC|bl (b:Bool)|int (i:Int)|str (x:Str)|A3 (b:Array UInt8)|Lq (b:UInt64)|ref (a:Addr)|ty (n:String)
 deriving DecidableEq
def RelV:V→Value→Prop
 |.aC,u=>u=Value.none
 |.bl b,u=>u=Value.bool b
 |.int i,u=>∃t,u=Value.int i t
 |.str x,u=>∃t,u=Value.str x t
 |.A3 b,u=>∃t,u=Value.bytes b t
 |.Lq b,u=>∃t,u=Value.float b t
 |.ref a,u=>u=Value.ref a
 |.ty n,u=>u=Value.type n
abbrev Vals:List V→List Value→Prop:=Paired RelV
theorem Vals.length{xs:List V}{us:List Value}(r:Vals xs us):xs.length=us.length:=Paired.length r
theorem Vals.get:∀{xs:List V}{us:List Value}{i:Nat}{x:V},Vals xs us→xs[i]?=some x→∃u,us[i]?=some u∧RelV x u
 |_,_,_,_,.nil,e=>by simp at e
 |_,_,0,_,.cons r _,e=>by simp at e;subst e;exact⟨_,rfl,r⟩
 |_,_,i+1,x,.cons _ t,e=>by
  obtain⟨u,h1,h2⟩:=Vals.get (i:=i) (x:=x) t (by simpa using e)
  exact⟨u,by simpa using h1,h2⟩
theorem Vals.set(r:RelV x u):∀{xs:List V}{us:List Value} (i:Nat),Vals xs us→Vals (xs.set i x) (us.set i u)
 |_,_,_,.nil=>.nil
 |_,_,0,.cons _ t=>.cons r t
 |_,_,i+1,.cons q t=>.cons q (Vals.set r i t)
theorem Vals.append:∀{xs ys:List V}{us ws:List Value},Vals xs us→Vals ys ws→Vals (xs++ys) (us++ws)
 |_,_,_,_,.nil,s=>s
 |_,_,_,_,.cons r t,s=>.cons r (Vals.append t s)
theorem Vals.take:∀{xs:List V}{us:List Value} (n:Nat),Vals xs us→Vals (xs.take n) (us.take n)
 |_,_,0,_=>.nil
 |_,_,_+1,.nil=>.nil
 |_,_,n+1,.cons r t=>.cons r (Vals.take n t)
theorem Vals.drop:∀{xs:List V}{us:List Value} (n:Nat),Vals xs us→Vals (xs.drop n) (us.drop n)
 |_,_,0,r=>r
 |_,_,_+1,.nil=>.nil
 |_,_,n+1,.cons _ t=>Vals.drop n t
def lI:Option V→Option Value→Prop
 |some v,some u=>RelV v u
 |none,none=>True
 |_,_=>False
def KV{κ:Type} : List (κ×V)→List (κ×Value)→Prop:=Paired fun (p:κ×V) (q:κ×Value)=>p.1=q.1∧RelV p.2 q.2
def kV:Key→V
 |.inl i=>.int i
 |.inr x=>.str x
inductive HO where
  |lst (xs:List V)
  |tup (xs:List V)
  |dK (kvs:List (Key×V))|dT (kvs:List (List Key×V))
  |set (S:Int→Bool) (n:Nat)
  |ins (C dx:Addr) (fs:List (Str×V))
  |own (x:Addr)
  |xd (fs:List (Str×V))
  |met (f x:Addr)
  |O8 (lo hi:Int)
  |lJ (o:Obj) (u:HO)
  |uC (ps:Array Value)
  |ext (φ:Heap→Prop)
abbrev Hp:=Addr→Option HO
def upd(H:Hp)(a:Addr)(o:HO):Hp:=fun b=>if b=a then some o else H b
theorem bD{H:Hp}{a:Addr}{o:HO} : upd H a o a=some o:=by unfold upd;rw[if_pos rfl]
theorem aD{H:Hp}{a b:Addr}{o:HO}(h:b≠a):upd H a o b=H b:=by unfold upd;rw[if_neg h]
theorem aX{H:Hp}{a b:Addr}{o:HO}(h:H a=some o)(h':H b=none):a≠b:=by
 intro e;subst e;rw[h] at h';cases h'
def fN(h:Heap)(a:Addr)(items:Array Value):Prop:=∃o,h.get? a=some o∧o.cls=.type "tuple" ∧ o.dict=none∧∃n,o.data=.seq items n
theorem fN.tup(x:fN h a items):IsTup h a items:=by obtain⟨o,e,c,_,n,d⟩:=x;exact⟨o,e,c,n,d⟩
theorem fN.lt(x:fN h a items):a<h.objs.size:=x.tup.lt
theorem fN.new(h:Heap)(items:Array Value):fN (h.push { cls:=.type "tuple",data:=.seq items }) h.objs.size items:=⟨_,zB _ rfl,rfl,rfl,_,rfl⟩
section
variable(P:Program)(w:World)
def aV(H:Hp)(h:Heap)(a:Addr):HO→Prop
 |.lst xs=>xs.length≤sizeLine∧∃(ao:List Value) (n:Nat),Vals xs ao∧h.get? a=some { cls:=.type "list",data:=.seq ao.toArray n }
 |.tup xs=>xs.length≤sizeLine∧∃ao:List Value,Vals xs ao∧fN h a ao.toArray
 |.dK kvs=>kvs.length≤sizeLine∧(a == sysModules)=false∧∃vs,KV kvs vs∧h.DictOf (aH P w) a vs
 |.dT _=>False
 |.set S n=>h.SetOf (intKind P w) a S n
 |.ins C dx fs=>H dx=some (.own a)∧fs.length≤1000∧dx≠a∧h.get? a=some (instObj C dx) ∧
   ∃mA,h.Ns1 dx mA∧(∀f,lI (fs.lookup f) (mA f))∧PySem.Within mA (fs.map (·.1))
 |.own _=>∃o,h.get? a=some o
 |.xd fs=>∃mA,h.Ns1 a mA∧∀f,lI (fs.lookup f) (mA f)
 |.O8 lo hi=>∃t u v,h.get? a=some { cls:=.type "range",data:=.fields #[.int lo t,.int hi u,.int 1 v] }
 |.lJ o u=>h.get? a=some o∧aV H h a u
 |.uC ps=>h.get? a=some { cls:=.none,data:=.fields ps }
 |.met f x=>h.get? a=some (methodObj (.ref f) (.ref x))
 |.ext φ=>φ h∧(∃o,h.get? a=some o)∧∀h1 h2:Heap,φ h1→(∀o,h1.get? a=some o→h2.get? a=some o)→φ h2
def kc(H:Hp)(h:Heap):Prop:=∀a o,H a=some o→aV P w H h a o
end
section
variable{P:Program}{w:World}{H H':Hp}{h h':Heap}{a:Addr}{o:HO}
theorem aV.lt(x:aV P w H h a o):a<h.objs.size:=by
 cases o with
 |lst xs=>obtain⟨_,_,_,_,e⟩:=x;exact zy e
 |tup xs=>obtain⟨_,_,_,p⟩:=x;exact p.lt
 |dK kvs=>obtain⟨_,_,_,_,o,_,_,e,_⟩:=x;exact zy e
 |dT kvs=>exact False.elim x
 |set S n=>obtain⟨o,_,_,_,e,_⟩:=x;exact zy e
 |ins C dx fs=>obtain⟨_,_,_,e,_⟩:=x;exact zy e
 |own y=>obtain⟨_,e⟩:=x;exact zy e
 |xd fs=>obtain⟨_,⟨_,_,_,e,_⟩,_⟩:=x;exact zy e
 |O8 lo hi=>obtain⟨_,_,_,e⟩:=x;exact zy e
 |lJ ob u=>obtain⟨e,_⟩:=x;exact zy e
 |uC ps=>exact zy (show h.get? a=some _ from x)
 |met f y=>exact zy (show h.get? a=some _ from x)
 |ext φ=>obtain⟨_,⟨_,e⟩,_⟩:=x;exact zy e
theorem aV.sg(x:aV P w H h a o)(k:∀b u,(b=a∨H b=some (.own a))→h.get? b=some u→h'.get? b=some u)
  (ho:∀b,H b=some (.own a)→H' b=some (.own a)) (ht:∀b xs,H b=some (.tup xs)→H' b=some (.tup xs)):aV P w H' h' a o:=by
 induction o with
 |lst xs=>obtain⟨z,ao,n,r,e⟩:=x;exact⟨z,ao,n,r,k _ _ (.inl rfl) e⟩
 |tup xs=>obtain⟨z,ao,r,ob,e,c⟩:=x;exact⟨z,ao,r,ob,k _ _ (.inl rfl) e,c⟩
 |dK kvs=>obtain⟨z,y,vs,r,ob,es,ep,e,c⟩:=x;exact⟨z,y,vs,r,ob,es,ep,k _ _ (.inl rfl) e,c⟩
 |dT kvs=>exact False.elim x
 |set S n=>obtain⟨ob,es,ep,t,e,c⟩:=x;exact⟨ob,es,ep,t,k _ _ (.inl rfl) e,c⟩
 |ins C dx fs =>
  obtain⟨d,z,ne,e,mA,⟨od,es,ep,e2,c⟩,r⟩:=x
  exact⟨ho _ d,z,ne,k _ _ (.inl rfl) e,mA,⟨od,es,ep,k _ _ (.inr d) e2,c⟩,r⟩
 |own y=>obtain⟨ob,e⟩:=x;exact⟨ob,k _ _ (.inl rfl) e⟩
 |xd fs=>obtain⟨mA,⟨od,es,ep,e,c⟩,r⟩:=x;exact⟨mA,⟨od,es,ep,k _ _ (.inl rfl) e,c⟩,r⟩
 |O8 lo hi=>obtain⟨t,u,v,e⟩:=x;exact⟨t,u,v,k _ _ (.inl rfl) e⟩
 |lJ ob u ih=>obtain⟨e,q⟩:=x;exact⟨k _ _ (.inl rfl) e,ih q⟩
 |uC ps =>
  have e:h.get? a=some { cls:=.none,data:=.fields ps }:=x
  show h'.get? a=some { cls:=.none,data:=.fields ps }
  exact k a _ (.inl rfl) e
 |met f y =>
  have e:h.get? a=some (methodObj (.ref f) (.ref y)):=x
  show h'.get? a=some (methodObj (.ref f) (.ref y))
  exact k a _ (.inl rfl) e
 |ext φ=>obtain⟨p,⟨o,e⟩,st⟩:=x;exact⟨st _ _ p fun o q=>k _ _ (.inl rfl) q,⟨o,k _ _ (.inl rfl) e⟩,st⟩
theorem kc.lt(x:kc P w H h)(e:H a=some o):a<h.objs.size:=(x a o e).lt
theorem kc.fresh(x:kc P w H h)(e:h.objs.size≤a):H a=none:=by
 cases q:H a with
 |none=>rfl
 |some u=>exact absurd (zr (x.lt q) e) (yA _)
theorem kc.kept(x:kc P w H h)(k:∀b u,h.get? b=some u→h'.get? b=some u):kc P w H h':=fun a o e =>
 (x a o e).sg (fun b u _ q=>k b u q) (fun _ q=>q) fun _ _ q=>q
theorem kc.laid(x:kc P w H h)(k:∀b u,h.get? b=some u→h'.get? b=some u)(hp:h.objs.size≤a)(new:aV P w (upd H a o) h' a o):kc P w (upd H a o) h':=fun b u e=>by
 have hn:=x.fresh hp
 by_cases hb:b=a
 ·subst hb;rw[bD] at e;cases e;exact new
 ·rw[aD hb] at e
  exact (x b u e).sg (fun c v _ q=>k c v q) (fun c q=>by rw[aD (aX q hn)];exact q) fun c xs q=>by rw[aD (aX q hn)];exact q
end
def Rd(H:Hp)(a:Addr)(u:HO):Prop:=H a=some u∨∃o,H a=some (.lJ o u)
theorem Rd.ok{P:Program}{w:World}{H:Hp}{h:Heap}{a:Addr}{u:HO}(r:Rd H a u)(x:kc P w H h):aV P w H h a u:=by
 rcases r with r|⟨o,r⟩
 ·exact x a u r
 ·obtain⟨_,q⟩:=x a _ r
  exact q
def O9:Option HO→Prop
 |some (.lst _)=>True
 |some (.dK _)=>True
 |some (.dT _)=>True
 |some (.set _ _)=>True
 |some (.ins _ _ _)=>True
 |some (.ext _)=>True
 |_=>False
section
variable{P:Program}{w:World}{H:Hp}{h h':Heap}{x e:Addr}{o':HO}
theorem kc.write(ok:kc P w H h)(mu:O9 (H x))(he:e=x∨H e=some (.own x))(k:∀b u,b≠e→h.get? b=some u→h'.get? b=some u)(Ls:∃u,h'.get? e=some u)
  (new:aV P w (upd H x o') h' x o'):kc P w (upd H x o') h':=fun b u q=>by
 have LW:∀c y,H c=some (.own y)→c≠x:=fun c y r z=>by subst z;rw[r] at mu;exact mu
 have Qb:∀c xs,H c=some (.tup xs)→c≠x:=fun c xs r z=>by subst z;rw[r] at mu;exact mu
 by_cases hb:b=x
 ·subst hb;rw[bD] at q;cases q;exact new
 ·rw[aD hb] at q
  by_cases IV:b=e
  ·have q':H b=some (.own x):=by
    rcases he with z|z
    ·exact absurd (IV.trans z) hb
    ·rw[IV];exact z
   rw[q] at q';cases q'
   obtain⟨v,hv⟩:=Ls
   exact⟨v,by rw[IV];exact hv⟩
  ·refine (ok b u q).sg (fun c v hc r=>k c v ?_ r) (fun c r=>by rw[aD (LW c b r)];exact r) fun c xs r=>by rw[aD (Qb c xs r)];exact r
   rcases hc with rfl|hc
   ·exact IV
   ·rintro rfl
    rcases he with z|z
    ·exact LW c b hc z
    ·rw[hc] at z;cases z;exact hb rfl
end
structure Un(fs ex:List Addr)(H H':Hp)(h h':Heap):Prop where
 keep:∀b o,h.get? b=some o→H b=none→b∉fs→b∉ex→h'.get? b=some o
 slot:∀b o,h.get? b=some o→H b=none→b∈fs→b∉ex→∃sl,h'.get? b=some { o with slots:=sl }
 free:∀b o,h.get? b=some o→H b=none→b∉ex→H' b=none
 there:∀b o,h.get? b=some o→b∉ex→∃o',h'.get? b=some o'
 gB:∀b xs,H b=some (.tup xs)→H' b=some (.tup xs)
 jK:∀b o u,H b=some (.lJ o u)→H' b=some (.lJ o u)
 jL:∀b ps,H b=some (.uC ps)→∃more,H' b=some (.uC (ps++more))
section
variable{fs UP ex X6:List Addr}{H H1 H2:Hp}{h h1 h2 h':Heap}{a x e:Addr}{o:HO}
theorem Un.any(u:Un fs ex H H1 h h1){b:Addr}{ob:Obj}(q:h.get? b=some ob)(n:H b=none)(hx:b∉ex):∃sl,h1.get? b=some { ob with slots:=sl }:=by
 by_cases hb:b∈fs
 ·exact u.slot b ob q n hb hx
 ·exact⟨ob.slots,u.keep b ob q n hb hx⟩
theorem Un.kept(k:∀b u,h.get? b=some u→h'.get? b=some u):Un fs ex H H h h' :=
 ⟨fun b ob q _ _ _=>k b ob q,fun b ob q _ _ _=>⟨ob.slots,k b ob q⟩,fun _ _ _ n _=>n,fun b ob q _=>⟨ob,k b ob q⟩,fun _ _ q=>q,fun _ _ _ q=>q,fun _ ps q=>⟨#[],by rw[q];simp⟩⟩
theorem Un.refl:Un fs ex H H h h:=Un.kept fun _ _ q=>q
theorem Un.laid(k:∀b u,h.get? b=some u→h'.get? b=some u)(hp:h.objs.size≤a)(hn:H a=none):Un fs ex H (upd H a o) h h' where
 keep:=fun b u q _ _ _=>k b u q
 slot:=fun b u q _ _ _=>⟨u.slots,k b u q⟩
 free:=fun b u q n _=>by rw[aD (zG (zr (zy q) hp))];exact n
 there:=fun b u q _=>⟨u,k b u q⟩
 gB:=fun b xs q=>by rw[aD (aX q hn)];exact q
 jK:=fun b u xs q=>by rw[aD (aX q hn)];exact q
 jL:=fun b ps q=>⟨#[],by rw[aD (aX q hn),q];simp⟩
theorem Un.write(mu:O9 (H x))(he:e=x∨H e=some (.own x))(k:∀b u,b≠e→h.get? b=some u→h'.get? b=some u)(Ls:∃u,h'.get? e=some u):Un fs ex H (upd H x o) h h':=by
 have hx:∀b,H b=none→b≠x:=fun b n z=>by subst z;rw[n] at mu;exact mu
 have hb:∀b,H b=none→b≠e:=fun b n z=>by
  subst z
  rcases he with r|r
  ·exact hx b n r
  ·rw[n] at r;cases r
 have hm:∀b u,H b=some u→¬ O9 (some u)→b≠x:=fun b u q nm z=>by subst z;rw[q] at mu;exact nm mu
 refine⟨fun b u q n _ _=>k b u (hb b n) q,fun b u q n _ _=>⟨u.slots,k b u (hb b n) q⟩,fun b u q n _=>by rw[aD (hx b n)];exact n,fun b u q _=>?_,
  fun b xs q=>by rw[aD (hm b _ q fun z=>z)];exact q,fun b u xs q=>by rw[aD (hm b _ q fun z=>z)];exact q,fun b ps q=>⟨#[],by rw[aD (hm b _ q fun z=>z),q];simp⟩⟩
 by_cases IV:b=e
 ·subst IV;exact Ls
 ·exact⟨u,k b u IV q⟩
end
def O_(h:Heap)(H:Hp):List Addr:=(List.range h.objs.size).filter fun a=>(H a).isSome
def qq(h:Heap)(H:Hp):Heap:=hideAll h (O_ h H)
theorem A4(h:Heap)(H:Hp):(qq h H).objs.size=h.objs.size:=PySem.W.hideAll_size _ _
theorem CM(e:h.get? b=some o)(n:H b=none):(qq h H).get? b=some o :=
 hideAll_get _ e fun hm=>by
  have q:(H b).isSome=true:=(List.mem_filter.mp hm).2
  rw[n] at q;simp at q
theorem FF(e:(qq h H).get? b=some o):h.get? b=some o∧H b=none:=by
 have e':h.get? b=some o:=of_hideAll (O_ h H) e
 refine⟨e',?_⟩
 cases q:H b with
 |none=>rfl
 |some x =>
  have hm:b∈O_ h H:=List.mem_filter.mpr ⟨List.mem_range.mpr (zy e'),by simp [q]⟩
  have z:(qq h H).get? b=none:=PySem.W.hideAll_none (O_ h H) hm
  rw[z] at e;cases e
def FG(g h:Heap)(L:Addr):List (Addr×Obj):=(List.range h.objs.size).filterMap fun a=>if a=L∨(g.get? a).isSome=true then none else (h.get? a).map fun o=>(a,o)
def rest(g h:Heap)(L d:Addr):List (Addr×Obj):=(FG g h L).filter fun p=>decide (p.1≠d)
structure Mod(K:Frag)(mg:Str→Option Value)(base:Heap):Prop where
 Pa:K.In base
 glob:base.Ns mainGlobals mg
 blt:∃mb,base.Ns builtinsNs mb∧∀x:Str,x ≠ "__name__" → mb x=bootBuiltins x
 nolimit:base.NoLimit
structure Cx where
 prog:Program
 w:World
 K:Frag
 mg:Str→Option Value
 base:Heap
 A:Around
 N:List Str
 cV:Shared
 uD:Hp
 env:Env
 outer:List Env
 stack:List Env
 ex:List Addr
 fn:Str→Bool
 calm:Bool
 pn:List (Addr×Obj)
 xe:Value→Shared→Prop
def m_(l:List Env):List Addr:=l.filterMap (·.frame)
abbrev Cx.fs(X:Cx):List Addr:=m_ X.outer
def Lu(sc:Scope)(x:Str):Prop:=sc.names.lookup x=some .local∨sc.names.lookup x=some .cell∨sc.names.lookup x=some .free
def Loc(sc:Scope)(x:Str):Prop:=sc.names.lookup x=some .local∨sc.names.lookup x=some .cell
def Look(env:Env)(h:Heap)(m:Str→Option Value)(x:Str)(u:Value):Prop :=
 (env.kindOf x=some .local∧m x=some u)∨((env.kindOf x=some .cell∨env.kindOf x=some .free)∧∃c,env.cells.lookup x=some c∧h.IsCell c (some u))
structure Cx.Ok(X:Cx):Prop where
 mod:Mod X.K X.mg X.base
 kind:X.env.scope.kind=.function
 glob:X.env.globals=mainGlobals
 blt:X.env.builtins=builtinsNs
 above:X.cV.heap.objs.size≤X.env.locals
 inj:∀x y c,X.env.cells.lookup x=some c→X.env.cells.lookup y=some c→x=y
 has:∀x,(X.env.kindOf x=some .cell∨X.env.kindOf x=some .free)→∃c,X.env.cells.lookup x=some c
 Qc:∀x c,X.fn x=true→X.env.cells.lookup x=some c→X.cV.heap.objs.size≤c
 hd:X.calm=true→X.A.handled=none
 frames:X.A.frames=some X.stack
 Tr:X.stack=X.outer∨(X.stack=X.env::X.outer∧X.env.frame=some X.env.locals)
 X7:∀b∈X.ex,b≠X.env.locals∧∀x c,X.env.cells.lookup x=some c→c≠b
 bs:∀b o,X.base.get? b=some o→X.cV.heap.get? b=some o∧X.uD b=none
 IW:X.base.objs.size≤X.cV.heap.objs.size
 IX:∀b o,X.base.get? b=some o→b∉X.ex
 LX:∀b∈X.ex,b∉X.fs
 nY:X.cV.heap.FunFrames X.base X.outer
 Lv:∀b∈X.fs,X.uD b=none
structure Inv(X:Cx)(pins:List (Addr×Obj))(σ:List (Option V))(H:Hp)(s:Shared):Prop where
 ok:X.Ok
 os:s.os=X.cV.os
 bare:AllBare s.gens
 base:Un X.fs X.ex X.uD H X.cV.heap s.heap
 loc:∃m,s.heap.Ns X.env.locals m∧∀(i:Nat) (x:Str) (v:V),X.N[i]?=some x→σ[i]?=some (some v)→Lu X.env.scope x→∃u,RelV v u∧Look X.env s.heap m x u
 cell:∀x c,X.env.cells.lookup x=some c→∃v,s.heap.IsCell c v
 free:H X.env.locals=none
 kf:∀x c,X.env.cells.lookup x=some c→H c=none
 pin:∀p∈X.pn++pins,s.heap.get? p.1=some p.2∧H p.1=none∧p.1≠X.env.locals∧p.1∉X.fs∧∀v,p.2.data≠.cell v
 aQ:kc X.prog X.w H s.heap
 len:σ.length=X.N.length
section
variable{X:Cx}{pins:List (Addr×Obj)}{σ:List (Option V)}{H H':Hp}{s:Shared}{h':Heap}
theorem Cx.Ok.A5(ok:X.Ok)(e:X.base.get? b=some o):b∉X.fs:=fun hb=>by
 have:=(ok.nY.mem hb).1
 rw[e] at this;cases this
theorem Inv.bs(I:Inv X pins σ H s):∀b o,X.base.get? b=some o→s.heap.get? b=some o∧H b=none:=fun b o e =>
 ⟨I.base.keep b o (I.ok.bs b o e).1 (I.ok.bs b o e).2 (I.ok.A5 e) (I.ok.IX b o e),I.base.free b o (I.ok.bs b o e).1 (I.ok.bs b o e).2 (I.ok.IX b o e)⟩
theorem Inv.bk(I:Inv X pins σ H s):∀b o,X.base.get? b=some o→s.heap.get? b=some o:=fun b o e=>(I.bs b o e).1
theorem Inv.mod(I:Inv X pins σ H s):Mod X.K X.mg X.base:=I.ok.mod
theorem Inv.sh(I:Inv X pins σ H s):X.K.In s.heap:=I.ok.mod.Pa.keeps I.bk
theorem Inv.fr(I:Inv X pins σ H s):∃m,Fr X.base X.env.locals s.heap m :=
 let ⟨m,hn,_⟩:=I.loc
 ⟨m,hn,I.bk,zt I.ok.IW I.ok.above⟩
theorem Inv.lt(I:Inv X pins σ H s):X.env.locals<s.heap.objs.size:=by obtain⟨_,hn,_⟩:=I.loc;exact hn.lt
theorem Inv.sz(I:Inv X pins σ H s):X.cV.heap.objs.size≤s.heap.objs.size:=zt I.ok.above (Nat.le_of_lt I.lt)
theorem Inv.Qe(I:Inv X pins σ H s)(h:s.heap.objs.size≤a):a∉X.fs:=fun hb=>by
 obtain⟨_,o,ho,_⟩:=I.ok.nY.mem hb
 exact absurd (zr (zy ho) (zt I.sz h)) (yA _)
theorem Inv.IY(I:Inv X pins σ H s):∀x c,X.env.cells.lookup x=some c→c≠X.env.locals:=fun x c e z=>by
 obtain⟨v,o,ho,hd⟩:=I.cell x c e
 obtain⟨m,⟨o',es,ep,wM,Qf,_⟩,_⟩:=I.loc
 rw[z,wM] at ho;cases ho;rw[Qf] at hd;cases hd
theorem Inv.nY(I:Inv X pins σ H s):s.heap.FunFrames X.base X.outer:=by
 have all:∀(l:List Env),(∀b∈m_ l,b∈X.fs)→X.cV.heap.FunFrames X.base l→s.heap.FunFrames X.base l:=by
  intro l
  induction l with
  |nil=>intro _ _;trivial
  |cons env r ih =>
   intro hs hl
   obtain⟨hk,⟨L,o,hf,hn,ho,hd⟩,hr⟩:=hl
   have hL:L∈X.fs:=hs L (by unfold m_;rw[List.filterMap_cons,hf];exact zj)
   obtain⟨sl,e⟩:=I.base.slot L o ho (I.ok.Lv L hL) hL fun z=>I.ok.LX L z hL
   exact⟨hk,⟨L,_,hf,hn,e,hd⟩,ih (fun b hb=>hs b (by unfold m_;rw[List.filterMap_cons,hf];exact zl _ hb)) hr⟩
 exact all X.outer (fun _ hb=>hb) I.ok.nY
theorem Inv.stack(I:Inv X pins σ H s):s.heap.FunFrames X.base X.stack:=by
 rcases I.ok.Tr with e|⟨e,hf⟩
 ·rw[e];exact I.nY
 ·rw[e]
  obtain⟨m,hn,_⟩:=I.loc
  refine .cons (by rw[I.ok.kind];decide) hf hn ?_ I.nY
  exact Heap.get?_none_of_le (zt I.ok.IW I.ok.above)
theorem Inv.lK(I:Inv X pins σ H s):∀b∈m_ X.stack,b∈X.env.locals::X.fs:=fun b hb=>by
 rcases I.ok.Tr with e|⟨e,hf⟩
 ·rw[e] at hb;exact zl _ hb
 ·rw[e] at hb
  unfold m_ at hb
  rw[List.filterMap_cons,hf] at hb
  exact hb
theorem Inv.sj(I:Inv X pins σ H s):∀b∈m_ X.stack,H b=none:=fun b hb=>by
 rcases zb.mp (I.lK b hb) with e|hb
 ·rw[e];exact I.free
 ·obtain⟨_,o,ho,_⟩:=I.ok.nY.mem hb
  exact I.base.free b o ho (I.ok.Lv b hb) fun z=>I.ok.LX b z hb
theorem Inv.step{g':Array GenState}{t':Nat}{d':Drawn}{ch:List Addr}(I:Inv X pins σ H s)
  (Fx:∀b∈ch,(b∈X.ex∨X.cV.heap.objs.size≤b)∧b≠X.env.locals∧(∀x c,X.env.cells.lookup x=some c→c≠b)∧∀p∈X.pn++pins,p.1≠b)
  (keep:∀b o,b≠X.env.locals→b∉X.fs→b∉ch→s.heap.get? b=some o→H b=none→h'.get? b=some o)
  (slot:∀b o,b≠X.env.locals→b∈X.fs→b∉ch→s.heap.get? b=some o→H b=none→∃sl,h'.get? b=some { o with slots:=sl }) (free:∀b o,b∉ch→s.heap.get? b=some o→H b=none→H' b=none)
  (there:∀b o,b∉ch→s.heap.get? b=some o→∃o',h'.get? b=some o')
  (gB:∀b xs,H b=some (.tup xs)→H' b=some (.tup xs)) (jK:∀b o u,H b=some (.lJ o u)→H' b=some (.lJ o u)) (jL:∀b ps,H b=some (.uC ps)→∃more,H' b=some (.uC (ps++more)))
  (ns:∀m,s.heap.Ns X.env.locals m→h'.Ns X.env.locals m) (aQ:kc X.prog X.w H' h') (hg:AllBare g') :
  Inv X pins σ H' { s with heap:=h',gens:=g',drawn:=d',toks:=t' }:=by
 have Ts:∀b o,X.cV.heap.get? b=some o→b≠X.env.locals:=fun b o e=>zG (zr (zy e) I.ok.above)
 have Pb:∀b o,X.cV.heap.get? b=some o→b∉X.ex→b∉ch:=fun b o e hx hb=>by
  rcases (Fx b hb).1 with z|z
  ·exact hx z
  ·exact absurd (zr (zy e) z) (yA _)
 have cellK:∀x c,X.env.cells.lookup x=some c→∀v,s.heap.IsCell c v→h'.IsCell c v:=by
  rintro x c e v ⟨o,ho,hd⟩
  have LY:c∉ch:=fun z=>(Fx c z).2.2.1 x c e rfl
  by_cases hc:c∈X.fs
  ·obtain⟨sl,q⟩:=slot c o (I.IY x c e) hc LY ho (I.kf x c e)
   exact⟨_,q,hd⟩
  ·exact⟨o,keep c o (I.IY x c e) hc LY ho (I.kf x c e),hd⟩
 refine⟨I.ok,I.os,hg,⟨fun b o e n hb hx=>?_,fun b o e n hb hx=>?_,fun b o e n hx=>?_,fun b o e hx=>?_,fun b xs e=>gB b xs (I.base.gB b xs e),fun b o xs e=>jK b o xs (I.base.jK b o xs e),fun b ps e=>?_⟩,?_,fun x c e=>?_,?_,fun x c e=>?_,fun p hp=>?_,aQ,I.len⟩
 ·exact keep b o (Ts b o e) hb (Pb b o e hx) (I.base.keep b o e n hb hx) (I.base.free b o e n hx)
 ·obtain⟨sl,e1⟩:=I.base.slot b o e n hb hx
  obtain⟨UQ,e2⟩:=slot b _ (Ts b o e) hb (Pb b o e hx) e1 (I.base.free b o e n hx)
  exact⟨UQ,e2⟩
 ·obtain⟨o',e1⟩:=I.base.there b o e hx
  exact free b o' (Pb b o e hx) e1 (I.base.free b o e n hx)
 ·obtain⟨o',e1⟩:=I.base.there b o e hx
  exact there b o' (Pb b o e hx) e1
 ·obtain⟨m1,e1⟩:=I.base.jL b ps e
  obtain⟨m2,e2⟩:=jL b _ e1
  exact⟨m1++m2,by rw[e2,Array.append_assoc]⟩
 ·obtain⟨m,hn,hl⟩:=I.loc
  refine⟨m,ns m hn,fun i x v e1 e2 e3=>?_⟩
  obtain⟨u,r,l⟩:=hl i x v e1 e2 e3
  refine⟨u,r,?_⟩
  rcases l with l|⟨k,c,e,z⟩
  ·exact .inl l
  ·exact .inr ⟨k,c,e,cellK x c e _ z⟩
 ·obtain⟨v,z⟩:=I.cell x c e
  exact⟨v,cellK x c e v z⟩
 ·obtain⟨m,⟨o,_,_,ho,_⟩,_⟩:=I.loc
  exact free _ o (fun z=>(Fx _ z).2.1 rfl) ho I.free
 ·obtain⟨v,o,ho,hd⟩:=I.cell x c e
  exact free c o (fun z=>(Fx c z).2.2.1 x c e rfl) ho (I.kf x c e)
 ·obtain⟨e,n,ne,nf,d⟩:=I.pin p hp
  have LY:p.1∉ch:=fun z=>(Fx p.1 z).2.2.2 p hp rfl
  exact⟨keep p.1 p.2 ne nf LY e n,free p.1 p.2 LY e n,ne,nf,d⟩
theorem Inv.un{t':Nat}(I:Inv X pins σ H s)(u:Un X.fs [] H H' s.heap h')(aQ:kc X.prog X.w H' h'):Inv X pins σ H' { s with heap:=h',toks:=t' }:=by
 obtain⟨m,⟨o,es,ep,ho,r⟩,_⟩:=id I.loc
 obtain⟨sl,hL⟩:=u.any ho I.free (by simp)
 exact I.step (g':=s.gens) (d':=s.drawn) (ch:=[]) (fun _ z=>nomatch z) (fun b o _ hb _ e n=>u.keep b o e n hb (by simp)) (fun b o _ hb _ e n=>u.slot b o e n hb (by simp)) (fun b o _ e n=>u.free b o e n (by simp)) (fun b o _ e=>u.there b o e (by simp)) u.gB u.jK u.jL (fun m' hm=>by
  obtain⟨o',Pc,Qg,wM,r'⟩:=hm
  rw[ho] at wM;cases wM
  exact⟨_,Pc,Qg,hL,r'⟩) aQ I.bare
theorem Inv.call{g':Array GenState}{t':Nat}{d':Drawn}{ch:List Addr}(I:Inv X pins σ H s)(u:Un (m_ X.stack) ch H H' s.heap h')(aQ:kc X.prog X.w H' h')(hg:AllBare g')
  (Fx:∀b∈ch,(b∈X.ex∨X.cV.heap.objs.size≤b)∧b≠X.env.locals∧(∀x c,X.env.cells.lookup x=some c→c≠b)∧∀p∈X.pn++pins,p.1≠b) :
  Inv X pins σ H' { s with heap:=h',gens:=g',drawn:=d',toks:=t' }:=by
 obtain⟨m,⟨o,es,ep,ho,r⟩,_⟩:=id I.loc
 obtain⟨sl,hL⟩:=u.any ho I.free fun z=>(Fx _ z).2.1 rfl
 exact I.step (ch:=ch) Fx (fun b o hL hb hc e n=>u.keep b o e n (fun z=>(zb.mp (I.lK b z)).elim hL hb) hc) (fun b o _ _ hc e n=>u.any e n hc) (fun b o hc e n=>u.free b o e n hc) (fun b o hc e=>u.there b o e hc) u.gB u.jK u.jL (fun m' hm=>by
  obtain⟨o',Pc,Qg,wM,r'⟩:=hm
  rw[ho] at wM;cases wM
  exact⟨_,Pc,Qg,hL,r'⟩) aQ hg
theorem Inv.turned{t':Nat}{it:Addr}(I:Inv X pins σ H s)(k:∀b o,b≠it→s.heap.get? b=some o→h'.get? b=some o)(hn:H it=none)(hL:it≠X.env.locals)
  (h1:it∈X.ex∨X.cV.heap.objs.size≤it) (h2:∀x c,X.env.cells.lookup x=some c→c≠it) (h3:∀p∈X.pn++pins,p.1≠it):Inv X pins σ H { s with heap:=h',toks:=t' }:=by
 have Tu:∀b u,H b=some u→b≠it:=fun b u e z=>by rw[z,hn] at e;cases e
 refine I.step (g':=s.gens) (d':=s.drawn) (ch:=[it]) (fun b hb=>?_) (fun b o _ _ hc e _=>k b o (fun z=>hc (by simp [z])) e) (fun b o _ _ hc e _=>⟨o.slots,k b o (fun z=>hc (by simp [z])) e⟩) (fun _ _ _ _ n=>n)
  (fun b o hc e=>⟨o,k b o (fun z=>hc (by simp [z])) e⟩) (fun _ _ e=>e) (fun _ _ _ e=>e) (fun b ps e=>⟨#[],by rw[e];simp⟩) (fun m hm=>?_) (fun b u e=>?_) I.bare
 ·have e:b=it:=by simpa using hb
  subst e
  exact⟨h1,hL,h2,h3⟩
 ·obtain⟨o,es,ep,ho,r⟩:=hm
  exact⟨o,es,ep,k _ o (Ne.symm hL) ho,r⟩
 ·refine (I.aQ b u e).sg (fun c v hc q=>k c v ?_ q) (fun _ q=>q) fun _ _ q=>q
  rcases hc with z|z
  ·rw[z];exact Tu b u e
  ·exact Tu c _ z
theorem Inv.tok(I:Inv X pins σ H s)(t:Nat):Inv X pins σ H { s with toks:=t }:=I.un (h':=s.heap) (t':=t) Un.refl I.aQ
theorem Inv.kept(I:Inv X pins σ H s)(k:∀b u,s.heap.get? b=some u→h'.get? b=some u):Inv X pins σ H { s with heap:=h',toks:=t' }:=I.un (Un.kept k) (I.aQ.kept k)
theorem Inv.laid{a:Addr}{o:HO}{t':Nat}(I:Inv X pins σ H s)(k:∀b u,s.heap.get? b=some u→h'.get? b=some u)(hp:s.heap.objs.size≤a)(new:aV X.prog X.w (upd H a o) h' a o) :
  Inv X pins σ (upd H a o) { s with heap:=h',toks:=t' }:=I.un (Un.laid k hp (I.aQ.fresh hp)) (I.aQ.laid k hp new)
theorem Inv.write(I:Inv X pins σ H s)(mu:O9 (H x))(he:e=x∨H e=some (.own x))(k:∀b u,b≠e→s.heap.get? b=some u→h'.get? b=some u)(Ls:∃u,h'.get? e=some u)
  (new:aV X.prog X.w (upd H x o) h' x o):Inv X pins σ (upd H x o) { s with heap:=h',toks:=t' }:=I.un (Un.write mu he k Ls) (I.aQ.write mu he k Ls new)
theorem Inv.weak(I:Inv X pins σ H s)(hl:aA.length=σ.length)(w:∀(i:Nat) v,aA[i]?=some (some v)→σ[i]?=some (some v)):Inv X pins aA H s :=
 ⟨I.ok,I.os,I.bare,I.base,by obtain⟨m,hn,LZ⟩:=I.loc;exact⟨m,hn,fun i x v e1 e2 e3=>LZ i x v e1 (w i v e2) e3⟩,I.cell,I.free,I.kf,I.pin,I.aQ,hl.trans I.len⟩
theorem Inv.kg(I:Inv X pins σ H s)(h:∀p∈pins',s.heap.get? p.1=some p.2∧H p.1=none∧p.1≠X.env.locals∧p.1∉X.fs∧∀v,p.2.data≠.cell v):Inv X pins' σ H s :=
 ⟨I.ok,I.os,I.bare,I.base,I.loc,I.cell,I.free,I.kf,fun p hp=>(zP.mp hp).elim (fun z=>I.pin p (yf _ z)) (h p),I.aQ,I.len⟩
theorem uE{N:List Str}(hN:N.Nodup){i j:Nat}{x:Str}(a:N[i]?=some x)(b:N[j]?=some x):i=j:=by
 obtain⟨h1,e1⟩:=yd.mp a
 obtain⟨h2,e2⟩:=yd.mp b
 exact (List.getElem_inj hN).mp (e1.trans e2.symm)
theorem q9{M:Model}{A:Around}{E:Value→Shared→Prop}{i:Nat}{x:Str}{v:V}{u:Value}{Q:Unit→Shared→Prop}(I:Inv X pins σ H s)(hN:X.N.Nodup)(hi:X.N[i]?=some x)(hx:Loc X.env.scope x)(r:RelV v u)
  (h:∀s',Inv X pins (σ.set i (some v)) H s'→(∃a,Heap.SameBut a s.heap s'.heap∧(a=X.env.locals∨X.env.cells.lookup x=some a))→Q () s') (hf:X.fn x=true∨X.env.scope.names.lookup x=some .local:=by first|exact .inl rfl|exact .inr rfl|assumption):wpAny M A (storeName X.env x u) Q E s:=by
 obtain⟨m,hn,hl⟩:=id I.loc
 have Qh:(X.env.scope.kind == .class || (X.env.scope.kind == .module && X.env.locals != X.env.globals))=false:=by rw[I.ok.kind];rfl
 have L3:i<σ.length:=by rw[I.len];exact (yd.mp hi).1
 have IY:=I.IY
 have tracked:∀{a:Addr}{h':Heap},(∃o,s.heap.get? a=some o∧H a=none)→Heap.SameBut a s.heap h'→kc X.prog X.w H h':=fun {a h'} ha hs b ob e=>by
  obtain⟨_,_,HM⟩:=ha
  refine (I.aQ b ob e).sg (fun c w' hc q=>(hs.2 c ?_).trans q) (fun _ q=>q) fun _ _ q=>q
  rintro rfl
  rcases hc with rfl|hc
  ·rw[HM] at e;cases e
  ·rw[HM] at hc;cases hc
 rcases hx with hk|hk
 ·refine wpAny_storeName_local hk hn (fun h' UR hs=>?_) Qh
  obtain⟨oL,_,_,US,_⟩:=id hn
  refine h _ ⟨I.ok,I.os,I.bare,⟨fun b o e n hb hx=>?_,fun b o e n hb hx=>?_,I.base.free,fun b o e hx=>?_,I.base.gB,I.base.jK,I.base.jL⟩,⟨_,UR,fun j y v' e1 e2 e3=>?_⟩,fun y c e=>?_,I.free,I.kf,fun p hp=>?_,tracked ⟨oL,US,I.free⟩ hs,by simpa using I.len⟩ ⟨_,hs,.inl rfl⟩
  ·exact (hs.2 b (zG (zr (zy e) I.ok.above))).trans (I.base.keep b o e n hb hx)
  ·obtain⟨sl,e1⟩:=I.base.slot b o e n hb hx
   exact⟨sl,(hs.2 b (zG (zr (zy e) I.ok.above))).trans e1⟩
  ·obtain⟨o',e1⟩:=I.base.there b o e hx
   exact⟨o',(hs.2 b (zG (zr (zy e) I.ok.above))).trans e1⟩
  ·by_cases hj:j=i
   ·subst hj
    rw[hi] at e1;cases e1
    rw[List.getElem?_set_self L3] at e2
    cases e2
    exact⟨u,r,.inl ⟨hk,by simp⟩⟩
   ·rw[List.getElem?_set_ne (Ne.symm hj)] at e2
    obtain⟨u',r',q⟩:=hl j y v' e1 e2 e3
    refine⟨u',r',?_⟩
    rcases q with ⟨k,e⟩|⟨k,c,e,z⟩
    ·refine .inl ⟨k,?_⟩
     have:y≠x:=fun e=>hj (uE hN e1 (e ▸ hi))
     simp [this,e]
    ·exact .inr ⟨k,c,e,z.sameBut hs (IY y c e)⟩
  ·obtain⟨w',z⟩:=I.cell y c e
   exact⟨w',z.sameBut hs (IY y c e)⟩
  ·obtain⟨e,n,ne,nf,d⟩:=I.pin p hp
   exact⟨(hs.2 p.1 ne).trans e,n,ne,nf,d⟩
 ·have Qi:X.fn x=true:=by
   rcases hf with z|z
   ·exact z
   ·rw[z] at hk;cases hk
  obtain⟨c,hc⟩:=I.ok.has x (.inl hk)
  obtain⟨w',z⟩:=I.cell x c hc
  refine wpAny_storeName_cell I.ok.kind hk hc z (fun h' Lw hs=>?_)
  obtain⟨oc,Tv,Qj⟩:=id z
  refine h { s with heap:=h' } ⟨I.ok,I.os,I.bare,⟨fun b o e n hb hx=>?_,fun b o e n hb hx=>?_,I.base.free,fun b o e hx=>?_,I.base.gB,I.base.jK,I.base.jL⟩,⟨m,hn.sameBut hs (Ne.symm (IY x c hc)),fun j y v' e1 e2 e3=>?_⟩,fun y c' e=>?_,I.free,I.kf,fun p hp=>?_,tracked ⟨oc,Tv,I.kf x c hc⟩ hs,by simpa using I.len⟩ ⟨c,hs,.inr hc⟩
  ·exact (hs.2 b (zG (zr (zy e) (I.ok.Qc x c Qi hc)))).trans (I.base.keep b o e n hb hx)
  ·obtain⟨sl,e1⟩:=I.base.slot b o e n hb hx
   exact⟨sl,(hs.2 b (zG (zr (zy e) (I.ok.Qc x c Qi hc)))).trans e1⟩
  ·obtain⟨o',e1⟩:=I.base.there b o e hx
   exact⟨o',(hs.2 b (zG (zr (zy e) (I.ok.Qc x c Qi hc)))).trans e1⟩
  ·by_cases hj:j=i
   ·subst hj
    rw[hi] at e1;cases e1
    rw[List.getElem?_set_self L3] at e2
    cases e2
    exact⟨u,r,.inr ⟨.inl hk,c,hc,Lw⟩⟩
   ·rw[List.getElem?_set_ne (Ne.symm hj)] at e2
    obtain⟨u',r',q⟩:=hl j y v' e1 e2 e3
    refine⟨u',r',?_⟩
    rcases q with q|⟨k,c',e,z'⟩
    ·exact .inl q
    ·refine .inr ⟨k,c',e,z'.sameBut hs ?_⟩
     rintro rfl
     exact hj (uE hN e1 (I.ok.inj _ _ _ e hc ▸ hi))
  ·by_cases Tw:c'=c
   ·subst Tw;exact⟨_,Lw⟩
   ·obtain⟨w2,z2⟩:=I.cell y c' e
    exact⟨w2,z2.sameBut hs Tw⟩
  ·obtain⟨e,n,ne,nf,d⟩:=I.pin p hp
   refine⟨(hs.2 p.1 ?_).trans e,n,ne,nf,d⟩
   intro q
   rw[q,Tv] at e
   have q':oc=p.2:=zS e
   exact d w' (by rw[← q'];exact Qj)
theorem nZ(I:Inv X pins σ H s)(hN:X.N.Nodup)(hi:X.N[i]?=some x)(hx:Loc X.env.scope x)(r:RelV v u)
  (h:∀s',Inv X pins (σ.set i (some v)) H s'→Q () s') (hf:X.fn x=true∨X.env.scope.names.lookup x=some .local:=by first|exact .inl rfl|exact .inr rfl|assumption):wpAny M A (storeName X.env x u) Q E s :=
 q9 I hN hi hx r (fun s' I' _=>h s' I') hf
theorem Inv.L4(I:Inv X pins σ H s)(ho:s'.os=s.os)(u:Un (m_ X.stack) ch H H' s.heap s'.heap)(aQ:kc X.prog X.w H' s'.heap)(hg:AllBare s'.gens)
  (Fx:∀b∈ch,(b∈X.ex∨X.cV.heap.objs.size≤b)∧b≠X.env.locals∧(∀x c,X.env.cells.lookup x=some c→c≠b)∧∀p∈X.pn++pins,p.1≠b):Inv X pins σ H' s':=by
 obtain⟨h',g',d',t',o'⟩:=s'
 have e:o'=s.os:=ho
 subst e
 exact I.call (g':=g') (t':=t') (d':=d') u aQ hg Fx
end
abbrev XK:=Value→Option Addr→Hp→Prop
abbrev St:=List (Option V)
abbrev VK:=V→Hp→Prop
abbrev TE:=St→Hp→VK→Prop
abbrev TT:=St→Hp→(Bool→Hp→Prop)→Prop
abbrev TA:=St→Hp→(List V→Hp→Prop)→Prop
structure Ends where
 nx:St→Hp→Prop
 rt:VK
 bk:St→Hp→Prop:=fun _ _=>False
 ct:St→Hp→Prop:=fun _ _=>False
abbrev TS:=Ends→St→Hp→Prop
def EP(X:Cx)(pins:List (Addr×Obj))(σ:St)(Q:VK)(u:Value)(s':Shared):Prop:=∃v H',Inv X pins σ H' s'∧RelV v u∧Q v H'
def TP(X:Cx)(pins:List (Addr×Obj))(σ:St)(Q:Bool→Hp→Prop)(b:Bool)(s':Shared):Prop:=∃H',Inv X pins σ H' s'∧Q b H'
def AP(X:Cx)(pins:List (Addr×Obj))(σ:St)(Q:List V→Hp→Prop)(us:List Value)(s':Shared):Prop:=∃vs H',Inv X pins σ H' s'∧Vals vs us∧Q vs H'
def SP(X:Cx)(pins:List (Addr×Obj))(D:Ends)(f:Flow)(s':Shared):Prop :=
 match f with
 |.next=>∃aA H',Inv X pins aA H' s'∧D.nx aA H'
 |.brk=>∃aA H',Inv X pins aA H' s'∧D.bk aA H'
 |.cont=>∃aA H',Inv X pins aA H' s'∧D.ct aA H'
 |.ret u=>∃v aA H',Inv X pins aA H' s'∧RelV v u∧D.rt v H'
def PE(X:Cx)(e:Expr)(t:TE):Prop :=
 ∀(pins:List (Addr×Obj)) (s:Shared) (σ:St) (H:Hp) (Q:VK),Inv X pins σ H s→t σ H Q→wpAny (model X.prog X.w) X.A (eval e X.env) (EP X pins σ Q) X.xe s
def PT(X:Cx)(e:Expr)(t:TT):Prop :=
 ∀(pins:List (Addr×Obj)) (s:Shared) (σ:St) (H:Hp) (Q:Bool→Hp→Prop),Inv X pins σ H s→t σ H Q→wpAny (model X.prog X.w) X.A (isTrue e X.env (eval e X.env)) (TP X pins σ Q) X.xe s
def PW(X:Cx)(e:Expr)(t:TT):Prop :=
 ∀(whole:Sem Value) (pins:List (Addr×Obj)) (s:Shared) (σ:St) (H:Hp) (Q:Bool→Hp→Prop),Inv X pins σ H s→t σ H Q→wpAny (model X.prog X.w) X.A (isTrue e X.env whole) (TP X pins σ Q) X.xe s
theorem PW.pt(h:PW X e t):PT X e t:=h _
def PA(X:Cx)(es:List Expr)(t:TA):Prop :=
 ∀(pos:Pos) (pins:List (Addr×Obj)) (s:Shared) (σ:St) (H:Hp) (Q:List V→Hp→Prop),Inv X pins σ H s→t σ H Q→wpAny (model X.prog X.w) X.A (spliced (backTo pos (starEach es X.env))) (AP X pins σ Q) X.xe s
def PS(X:Cx)(st:Stmt)(t:TS):Prop :=
 ∀(pins:List (Addr×Obj)) (s:Shared) (σ:St) (H:Hp) (D:Ends),Inv X pins σ H s→t D σ H→wpAny (model X.prog X.w) X.A (exec st X.env) (SP X pins D) X.xe s
def z_(X:Cx)(st:List Stmt)(t:TS):Prop :=
 ∀(pins:List (Addr×Obj)) (s:Shared) (σ:St) (H:Hp) (D:Ends),Inv X pins σ H s→t D σ H→wpAny (model X.prog X.w) X.A (execs st X.env) (SP X pins D) X.xe s
theorem bt(h:wpAny M A t Q E s)(hQ:∀a s,Q a s→Q' a s):wpAny M A t Q' E s:=yy h hQ fun _ _ x=>x
section
variable{X:Cx}
def Qk(i:Nat):TE:=fun σ H Q=>∃v,σ[i]?=some (some v)∧Q v H
def tC(v:V):TE:=fun _ H Q=>Q v H
theorem IZ(hN:X.N[i]?=some x)(hv:Lu X.env.scope x)(hd:(x == ("__debug__" : Str))=false:=by decide)(Fy:(x == ("__classdict__" : Str))=false:=by decide):PE X (.Name x pos) (Qk i):=by
 intro pins s σ H Q I h
 obtain⟨v,e,h⟩:=h
 obtain⟨m,hn,hl⟩:=I.loc
 obtain⟨u,r,l⟩:=hl i x v hN e hv
 have fin:EP X pins σ Q u s:=⟨v,H,I,r,h⟩
 rcases l with ⟨hk,hm⟩|⟨hk,c,hc,Aa⟩
 ·exact wpAny_Name (wpAny_loadName_local I.ok.kind hk hn hm fin) hd
 ·rcases hk with hk|hk
  ·exact wpAny_Name (wpAny_loadName_cell I.ok.kind hk hc Aa fin) hd
  ·exact wpAny_Name (wpAny_loadName_free I.ok.kind hk hc Aa fin Fy) hd
theorem I0:PE X (.Constant (.int i) j pos) (tC (.int i)):=fun _ _ _ H _ I h=>wpAny_Constant_int ⟨.int i,H,I.tok _,⟨_,rfl⟩,h⟩
theorem L5:PE X (.Constant (.bool b) j pos) (tC (.bl b)):=fun _ _ _ H _ I h=>Constant_bool ⟨.bl b,H,I,rfl,h⟩
theorem I9:PE X (.Constant .none j pos) (tC .aC):=fun _ _ _ H _ I h=>Constant_none ⟨.aC,H,I,rfl,h⟩
theorem I_:PE X (.Constant (.str x) j pos) (tC (.str x)):=fun _ _ _ H _ I h=>Calls.Constant_str ⟨.str x,H,I.tok _,⟨_,rfl⟩,h⟩
def Gl(X:Cx)(x:Str):Prop:=X.env.kindOf x=some .globalImplicit
theorem sk(I:Inv X pins σ H s)(hg:Gl X x)(hm:X.mg x=some u)(h:Q u s)
  (hd:(x == ("__debug__" : Str))=false:=by decide):wpAny (model X.prog X.w) X.A (eval (.Name x pos) X.env) Q E s :=
 Calls.Name_function_global I.ok.kind hg (Calls.loadGlobal_global (by rw[I.ok.glob];exact I.mod.glob.keeps I.bk) hm h) hd
theorem jM(I:Inv X pins σ H s)(hg:Gl X x)(hm:X.mg x=none)(hv:bootBuiltins x=some u)(h:Q u s)
  (hn:x ≠ "__name__" := by decide) (hd:(x == ("__debug__" : Str))=false:=by decide):wpAny (model X.prog X.w) X.A (eval (.Name x pos) X.env) Q E s:=by
 obtain⟨mb,h1,h2⟩:=I.mod.blt
 exact Calls.Name_function_global I.ok.kind hg (Calls.loadGlobal_builtin (by rw[I.ok.glob];exact I.mod.glob.keeps I.bk) hm (by rw[I.ok.blt];exact h1.keeps I.bk) ((h2 x hn).trans hv) h) hd
theorem Ab(hg:Gl X x)(hm:X.mg x=some u)(r:RelV v u)(hd:(x == ("__debug__" : Str))=false:=by decide):PE X (.Name x pos) (tC v) :=
 fun _ _ _ H _ I h=>sk I hg hm ⟨v,H,I,r,h⟩ hd
theorem FH(hg:Gl X x)(hm:X.mg x=none)(hv:bootBuiltins x=some u)(r:RelV v u)(hn:x ≠ "__name__" := by decide)(hd:(x == ("__debug__" : Str))=false:=by decide):PE X (.Name x pos) (tC v) :=
 fun _ _ _ H _ I h=>jM I hg hm hv ⟨v,H,I,r,h⟩ hn hd
variable{a b:Expr}{ta tb:TE}{pos:Pos}
def tB(t:TE):TT:=fun σ H Q=>t σ H fun x H1=>∃c,x=.bl c∧Q c H1
theorem Ja(h:PE X e t)(he:∀whole,isTrue e X.env whole=(do let v ← whole;standAt e.pos;holding [v] (truthy v)):=by intro _;rfl):PT X e (tB t):=by
 intro pins s σ H Q I hw
 refine isTrue_plain (bt (h pins s σ H _ I hw) fun v s1 ⟨x,H1,I1,r1,q1⟩=>?_) (he _)
 obtain⟨d,rfl,q⟩:=q1
 cases r1
 exact yn ⟨H1,I1,q⟩
variable{tA Pd:TT}{rest:List Expr}
def Ql(t u:TT):TT:=fun σ H Q=>t σ H fun c H1=>if c=true then u σ H1 Q else Q false H1
def UT(t u:TT):TT:=fun σ H Q=>t σ H fun c H1=>if c=true then Q true H1 else u σ H1 Q
def Qm(t:TT):TT:=fun σ H Q=>t σ H fun c H1=>Q (!c) H1
theorem pw_and1(ha:PT X a tA):PW X (.BoolOp .And [a] pos) tA:=by
 intro wh pins s σ H Q I h
 refine isTrue_and (bt (ha pins s σ H Q I h) fun c s1 e=>?_)
 cases c with
 |true=>exact isTrue_and_nil e
 |false=>exact e
theorem pw_or1(ha:PT X a tA):PW X (.BoolOp .Or [a] pos) tA:=by
 intro wh pins s σ H Q I h
 refine isTrue_or (bt (ha pins s σ H Q I h) fun c s1 e=>?_)
 cases c with
 |false=>exact isTrue_or_nil e
 |true=>exact e
theorem pw_and(ha:PT X a tA)(hb:PW X (.BoolOp .And (b::rest) pos) Pd):PW X (.BoolOp .And (a::b::rest) pos) (Ql tA Pd):=by
 intro wh pins s σ H Q I h
 refine isTrue_and (bt (ha pins s σ H _ I h) fun c s1 ⟨H1,I1,q1⟩=>?_)
 cases c with
 |true=>exact hb wh pins s1 σ H1 Q I1 q1
 |false=>exact⟨H1,I1,q1⟩
theorem pw_or(ha:PT X a tA)(hb:PW X (.BoolOp .Or (b::rest) pos) Pd):PW X (.BoolOp .Or (a::b::rest) pos) (UT tA Pd):=by
 intro wh pins s σ H Q I h
 refine isTrue_or (bt (ha pins s σ H _ I h) fun c s1 ⟨H1,I1,q1⟩=>?_)
 cases c with
 |true=>exact⟨H1,I1,q1⟩
 |false=>exact hb wh pins s1 σ H1 Q I1 q1
theorem Jb(ha:PT X a tA):PT X (.UnaryOp .Not a pos) (Qm tA):=by
 intro pins s σ H Q I h
 exact isTrue_not (ha pins s σ H (fun c H1=>Q (!c) H1) I h)
def L6(ta tb:TE):TE:=fun σ H Q=>ta σ H fun x H1=>∃c,x=.bl c∧if c=true then tb σ H1 Q else Q (.bl false) H1
def Qn(ta tb:TE):TE:=fun σ H Q=>ta σ H fun x H1=>∃c,x=.bl c∧if c=true then Q (.bl true) H1 else tb σ H1 Q
def L7(ta:TE):TE:=fun σ H Q=>ta σ H fun x H1=>∃c,x=.bl c∧Q (.bl (!c)) H1
theorem Jc(h:PE X a t):PE X (.BoolOp op [a] pos) t:=fun pins s σ H Q I hw=>BoolOp_one (h pins s σ H Q I hw)
theorem Jd(ha:PE X a ta)(hb:PE X (.BoolOp .And (b::rest) pos) tb):PE X (.BoolOp .And (a::b::rest) pos) (L6 ta tb):=by
 intro pins s σ H Q I h
 refine BoolOp_and (bt (ha pins s σ H _ I h) fun v s1 ⟨x,H1,I1,r1,q1⟩=>?_)
 obtain⟨c,rfl,q1⟩:=q1
 cases r1
 refine yn ?_
 cases c with
 |true=>exact hb pins s1 σ H1 Q I1 q1
 |false=>exact⟨.bl false,H1,I1,rfl,q1⟩
theorem L8(ha:PE X a ta)(hb:PE X (.BoolOp .Or (b::rest) pos) tb):PE X (.BoolOp .Or (a::b::rest) pos) (Qn ta tb):=by
 intro pins s σ H Q I h
 refine BoolOp_or (bt (ha pins s σ H _ I h) fun v s1 ⟨x,H1,I1,r1,q1⟩=>?_)
 obtain⟨c,rfl,q1⟩:=q1
 cases r1
 refine yn ?_
 cases c with
 |false=>exact hb pins s1 σ H1 Q I1 q1
 |true=>exact⟨.bl true,H1,I1,rfl,q1⟩
theorem Je(ha:PE X a ta):PE X (.UnaryOp .Not a pos) (L7 ta):=by
 intro pins s σ H Q I h
 refine UnaryOp_ (bt (ha pins s σ H _ I h) fun v s1 ⟨x,H1,I1,r1,q1⟩=>?_)
 obtain⟨c,rfl,q1⟩:=q1
 cases r1
 exact not_of (yn ⟨.bl (!c),H1,I1,rfl,q1⟩)
def UU(t:TT)(ta tb:TE):TE:=fun σ H Q=>t σ H fun c H1=>if c=true then ta σ H1 Q else tb σ H1 Q
theorem CN(hc:PT X c tA)(ha:PE X a ta)(hb:PE X b tb):PE X (.IfExp c a b pos) (UU tA ta tb):=by
 intro pins s σ H Q I h
 refine wpAny_IfExp (bt (hc pins s σ H _ I h) fun d s1 ⟨H1,I1,q1⟩=>?_)
 cases d with
 |true=>exact ha pins s1 σ H1 Q I1 q1
 |false=>exact hb pins s1 σ H1 Q I1 q1
end
def jN(K:Frag)(H:Hp)(a:Addr)(xs:List V):Prop :=
 Rd H a (.lst xs) ∨
  ∃(o:Obj) (ao:Array Value) (n:Nat),K.lookup a=some o∧o.cls=.type "list" ∧ o.dict=none∧o.data=.seq ao n∧ao.size≤sizeLine∧Vals xs ao.toList
def iq(K:Frag)(H:Hp)(a:Addr)(xs:List V):Prop :=
 Rd H a (.tup xs) ∨
  ∃(o:Obj) (ao:Array Value) (n:Nat),K.lookup a=some o∧o.cls=.type "tuple" ∧ o.data=.seq ao n∧ao.size≤sizeLine∧Vals xs ao.toList
def Qo:Value→Option V
 |.none=>some .aC
 |.bool b=>some (.bl b)
 |.int i _=>some (.int i)
 |.str x _=>some (.str x)
 |.bytes b _=>some (.A3 b)
 |.float b _=>some (.Lq b)
 |.ref a=>some (.ref a)
 |.type n=>some (.ty n)
 |_=>none
theorem RelV.abs(r:RelV x u):Qo u=some x:=by
 cases x with
 |aC=>cases r;rfl
 |bl _=>cases r;rfl
 |int _=>obtain⟨t,rfl⟩:=r;rfl
 |str _=>obtain⟨t,rfl⟩:=r;rfl
 |A3 _=>obtain⟨t,rfl⟩:=r;rfl
 |Lq _=>obtain⟨t,rfl⟩:=r;rfl
 |ref _=>cases r;rfl
 |ty _=>cases r;rfl
theorem RelV.inj(r:RelV x u)(q:RelV y u):x=y:=zS (r.abs.symm.trans q.abs)
theorem Vals.inj:∀{xs ys:List V}{us:List Value},Vals xs us→Vals ys us→xs=ys
 |_,_,_,.nil,.nil=>rfl
 |_,_,_,.cons r t,.cons r' t'=>by rw[r.inj r',Vals.inj t t']
section
variable{X:Cx}{pins:List (Addr×Obj)}{σ:St}{H:Hp}{s:Shared}{a:Addr}{xs ys:List V}
theorem jN.of{K:Frag}(h:H a=some (.lst xs)):jN K H a xs:=.inl (.inl h)
theorem iq.of{K:Frag}(h:H a=some (.tup xs)):iq K H a xs:=.inl (.inl h)
theorem Inv.list(I:Inv X pins σ H s)(h:jN X.K H a xs):∃ao:List Value,Vals xs ao∧PlainL s.heap a ao.toArray∧xs.length≤sizeLine:=by
 rcases h with h|⟨o,ao,n,hk,hc,hd,hs,hz,r⟩
 ·obtain⟨z,ao,n,r,e⟩:=h.ok I.aQ
  exact⟨ao,r,⟨_,n,e,rfl,rfl,rfl⟩,z⟩
 ·refine⟨ao.toList,r,⟨o,n,I.sh a o hk,hc,hd,by simpa using hs⟩,?_⟩
  have e:=r.length
  simp only [yc] at e
  lia
theorem Inv.tuple(I:Inv X pins σ H s)(h:iq X.K H a xs):∃ao:List Value,Vals xs ao∧IsTup s.heap a ao.toArray∧xs.length≤sizeLine:=by
 rcases h with h|⟨o,ao,n,hk,hc,hs,hz,r⟩
 ·obtain⟨z,ao,r,p⟩:=h.ok I.aQ
  exact⟨ao,r,p.tup,z⟩
 ·refine⟨ao.toList,r,⟨o,I.sh a o hk,hc,n,by simpa using hs⟩,?_⟩
  have e:=r.length
  simp only [yc] at e
  lia
theorem Inv.CO(I:Inv X pins σ H s)(h:jN X.K H a xs)(h':jN X.K H a ys):xs=ys:=by
 obtain⟨ao,r,⟨o,n,e,_,_,d⟩,_⟩:=I.list h
 obtain⟨its',r',⟨o',n',e',_,_,d'⟩,_⟩:=I.list h'
 rw[e] at e';cases e'
 rw[d] at d'
 injection d' with d1 _
 have:ao=its':=by simpa using congrArg Array.toList d1
 subst this
 exact r.inj r'
theorem Inv.lL(I:Inv X pins σ H s)(h:iq X.K H a xs)(h':iq X.K H a ys):xs=ys:=by
 obtain⟨ao,r,⟨o,e,_,n,d⟩,_⟩:=I.tuple h
 obtain⟨its',r',⟨o',e',_,n',d'⟩,_⟩:=I.tuple h'
 rw[e] at e';cases e'
 rw[d] at d'
 injection d' with d1 _
 have:ao=its':=by simpa using congrArg Array.toList d1
 subst this
 exact r.inj r'
end
abbrev Cx.UW(X:Cx)(E:Value→Shared→Prop):Cx:={ X with xe:=E }
section
variable{X:Cx}{pins:List (Addr×Obj)}{σ:St}{H:Hp}{s:Shared}{E:Value→Shared→Prop}
end
section
variable{X:Cx}{st:Stmt}{rest:List Stmt}{t u:TS}{e:Expr}{te:TE}{pos:Pos}
def L9:TS:=fun D σ H=>D.nx σ H
def Qp(t u:TS):TS:=fun D σ H=>t { D with nx:=u D } σ H
theorem FI:z_ X [] L9:=fun _ _ σ H _ I h=>wpAny_execs_nil ⟨σ,H,I,h⟩
theorem CP(h1:PS X st t)(h2:z_ X rest u):z_ X (st::rest) (Qp t u):=by
 intro pins s σ H D I h
 refine wpAny_execs_cons (bt (h1 pins s σ H { D with nx:=u D } I h) fun f s1 q=>?_)
 cases f with
 |next =>
  obtain⟨aA,H',I',q⟩:=q
  exact h2 pins s1 aA H' D I' q
 |ret v=>exact q
 |brk=>exact q
 |cont=>exact q
theorem FJ(h1:PS X st t):z_ X [st] t:=by
 intro pins s σ H D I h
 refine wpAny_execs_cons (bt (h1 pins s σ H D I h) fun f s1 q=>?_)
 cases f with
 |next=>exact wpAny_execs_nil q
 |ret v=>exact q
 |brk=>exact q
 |cont=>exact q
theorem Inv.quiet(I:Inv X pins σ H s):interactive X.env=false:=by simp [interactive,I.ok.kind]
def L_(te:TE):TS:=fun D σ H=>te σ H fun _ H1=>D.nx σ H1
theorem FK(he:PE X e te)(hs:swapsWith e none pos.line X.env=pure false:=by rfl):PS X (.Expr e pos) (L_ te):=by
 intro pins s σ H D I h
 exact wpAny_Expr_any (bt (he pins s σ H _ I h) <| by rintro v s1 ⟨x,H1,I1,r1,q1⟩;exact⟨σ,H1,I1,q1⟩) I.quiet hs
def Qq(te:TE):TS:=fun D σ H=>te σ H D.rt
theorem Jf(he:PE X e te):PS X (.Return (some e) pos) (Qq te):=by
 intro pins s σ H D I h
 exact wpAny_Return_some (bt (he pins s σ H _ I h) <| by rintro v s1 ⟨x,H1,I1,r1,q1⟩;exact⟨x,σ,H1,I1,r1,q1⟩)
def Qr(c:TT)(t u:TS):TS:=fun D σ H=>c σ H fun b H1=>if b=true then t D σ H1 else u D σ H1
theorem Ma(hc:PT X c tc)(ha:z_ X a t)(hb:z_ X b u):PS X (.If c a b pos) (Qr tc t u):=by
 intro pins s σ H D I h
 refine wpAny_If (bt (hc pins s σ H _ I h) fun d s1 ⟨H1,I1,q1⟩=>?_)
 cases d with
 |true=>exact ha pins s1 σ H1 D I1 q1
 |false=>exact hb pins s1 σ H1 D I1 q1
end
abbrev TG:=V→St→Hp→(St→Hp→Prop)→Prop
abbrev Lx:=List V→St→Hp→(St→Hp→Prop)→Prop
def PG(X:Cx)(target:Expr)(t:TG):Prop :=
 ∀(pins:List (Addr×Obj)) (s:Shared) (σ:St) (H:Hp) (v:V) (u:Value) (Q:St→Hp→Prop),Inv X pins σ H s→RelV v u→t v σ H Q →
  wpAny (model X.prog X.w) X.A (assign target X.env u) (fun _ s'=>∃aA H',Inv X pins aA H' s'∧Q aA H') X.xe s
def HN(X:Cx)(ts:List Expr)(t:Lx):Prop :=
 ∀(pins:List (Addr×Obj)) (s:Shared) (σ:St) (H:Hp) (vs:List V) (us:List Value) (Q:St→Hp→Prop),Inv X pins σ H s→Vals vs us→t vs σ H Q →
  wpAny (model X.prog X.w) X.A (assignInOrder ((assignEach ts X.env).map (·.2)) us) (fun _ s'=>∃aA H',Inv X pins aA H' s'∧Q aA H') X.xe s
abbrev Mb:=V→V→V→Hp→(Hp→Prop)→Prop
def Mc(X:Cx)(t:Mb):Prop :=
 ∀(pins:List (Addr×Obj)) (s:Shared) (σ:St) (H:Hp) (o i v:V) (ov iv u:Value) (Q:Hp→Prop),Inv X pins σ H s→RelV o ov→RelV i iv→RelV v u→t o i v H Q →
  wpAny (model X.prog X.w) X.A (setItem ov iv u) (fun _ s'=>∃H',Inv X pins σ H' s'∧Q H') X.xe s
abbrev Qs:=V→V→Hp→VK→Prop
def Tz(X:Cx)(op:Operator)(t:Qs):Prop :=
 ∀(pins:List (Addr×Obj)) (s:Shared) (σ:St) (H:Hp) (x y:V) (v u:Value) (Q:VK),Inv X pins σ H s→RelV x v→RelV y u→t x y H Q →
  wpAny (model X.prog X.w) X.A (inplaceOp op v u) (EP X pins σ Q) X.xe s
section
variable{X:Cx}{pos:Pos}
def g5(i:Nat):TG:=fun v σ H Q=>Q (σ.set i (some v)) H
theorem nO(hN:X.N.Nodup)(hi:X.N[i]?=some x)(hx:Loc X.env.scope x)(hf:X.fn x=true∨X.env.scope.names.lookup x=some .local:=by first|exact .inl rfl|exact .inr rfl|assumption):PG X (.Name x pos) (g5 i):=by
 intro pins s σ H v u Q I r h
 exact wpAny_assign_Name (nZ I hN hi hx r (fun s' I'=>⟨_,H,I',h⟩) hf)
def FL:Lx:=fun vs σ H Q=>vs=[]∧Q σ H
def n5(t:TG)(u:Lx):Lx:=fun vs σ H Q=>∃v r,vs=v::r∧t v σ H fun aA H'=>u r aA H' Q
theorem Ac:HN X [] FL:=by
 intro pins s σ H vs us Q I r h
 obtain⟨e,h⟩:=h
 subst e
 cases r
 exact assignInOrder_nil ⟨σ,H,I,h⟩
theorem n6(h1:PG X e t)(h2:HN X es u)
  (hs:(assignEach (e::es) X.env).map (·.2)=assign e X.env::(assignEach es X.env).map (·.2):=by rfl):HN X (e::es) (n5 t u):=by
 intro pins s σ H vs us Q I r h
 obtain⟨v,vr,e1,h⟩:=h
 subst e1
 cases r with
 |cons r rr =>
  rw[hs]
  refine assignInOrder_cons (bt (h1 pins s σ H _ _ _ I r h) fun _ s1 ⟨uz,H1,I1,q1⟩=>?_)
  exact h2 pins s1 uz H1 _ _ Q I1 rr q1
def FN(K:Frag)(n:Nat)(t:Lx):TG:=fun v σ H Q=>∃a xs,v=.ref a∧iq K H a xs∧xs.length=n∧t xs σ H Q
theorem CQ(hc:X.calm=true)(h:HN X es t)
  (hn:(assignEach es X.env).length=n:=by rfl) (CS:(assignEach es X.env).findIdx? (·.1)=none:=by rfl):PG X (.Tuple es k pos) (FN X.K n t):=by
 intro pins s σ H v u Q I r hw
 obtain⟨a,xs,e1,hq,hl,hw⟩:=hw
 subst e1
 cases r
 obtain⟨ao,rv,ht,hz⟩:=I.tuple hq
 refine assign_Tuple_tuple (I.ok.hd hc) ht (by simp [hn,← hl,rv.length]) CS fun h' hx=>?_
 have I1:Inv X pins σ H { s with heap:=h' }:=I.kept (t':=s.toks) fun b o e=>hx b o (zG (zy e)) e
 exact h pins _ σ H xs _ Q I1 (by simpa using rv) hw
def Qt(to ti:TE)(t:Mb):TG:=fun v σ H Q=>to σ H fun o H1=>ti σ H1 fun i H2=>t o i v H2 fun H3=>Q σ H3
theorem Jg(ho:PE X o to)(hi:PE X i ti)(hs:Mc X t)
  (ha:∀v,assign (.Subscript o i pos) X.env v=(do
   let ov ← holding [v] (eval o X.env)
   let iv ← holding [v,ov] (eval i X.env)
   standAt pos
   holding [v,ov,iv] (setItem ov iv v)
   release [v,ov,iv] []):=by intro _;rfl):PG X (.Subscript o i pos) (Qt to ti t):=by
 intro pins s σ H v u Q I r h
 rw[ha]
 refine zc (yD (bt (ho pins s σ H _ I h) fun ov s1 ⟨x,H1,I1,r1,q1⟩=>?_))
 refine zc (yD (bt (hi pins s1 σ H1 _ I1 q1) fun iv s2 ⟨y,H2,I2,r2,q2⟩=>?_))
 refine zc (wpAny_standAt (zc (yD (bt (hs pins s2 σ H2 x y v ov iv u _ I2 r1 r2 r q2) fun _ s3 ⟨H3,I3,q3⟩=>?_))))
 exact wpAny_release ⟨σ,H3,I3,q3⟩
def Jh(te:TE)(g:TG):TS:=fun D σ H=>te σ H fun x H1=>g x σ H1 D.nx
theorem CT(he:PE X e te)(hg:PG X tg g)(hs:swapsWithSole [tg] e pos.line X.env=pure false:=by rfl)(hw:swappedStores [tg] e X.env=pure none:=by rfl)
  (h1:(assignEach [tg] X.env).map (·.2)=[assign tg X.env]:=by rfl):PS X (.Assign [tg] e pos) (Jh te g):=by
 intro pins s σ H D I h
 refine wpAny_Assign_stores (bt (he pins s σ H _ I h) fun v s1 ⟨x,H1,I1,r1,q1⟩=>?_) hs hw
 rw[h1]
 exact bt (hg pins s1 σ H1 x v _ I1 r1 q1) fun _ s2 q=>q
theorem Ji(hN:X.N.Nodup)(hi:X.N[i]?=some x)(hx:Loc X.env.scope x)(he:PE X e te)(hs:swapsWith e (some (.Name x pos')) pos.line X.env=pure false:=by rfl)(hf:X.fn x=true∨X.env.scope.names.lookup x=some .local:=by first|exact .inl rfl|exact .inr rfl|assumption) :
  PS X (.Assign [.Name x pos'] e pos) (Jh te (g5 i)):=by
 intro pins s σ H D I h
 refine wpAny_Assign_Name (bt (he pins s σ H _ I h) fun v s1 ⟨y,H1,I1,r1,q1⟩=>?_) hs
 exact nZ I1 hN hi hx r1 (fun s2 I2=>⟨_,H1,I2,q1⟩) hf
def Qu(i:Nat)(te:TE)(ti:Qs):TS:=fun D σ H=>∃x,σ[i]?=some (some x)∧te σ H fun y H1=>ti x y H1 fun z H2=>D.nx (σ.set i (some z)) H2
theorem Jj(hN:X.N.Nodup)(hi:X.N[i]?=some x)(hx:Loc X.env.scope x)(he:PE X e te)(ho:Tz X op ti)(hf:X.fn x=true∨X.env.scope.names.lookup x=some .local:=by first|exact .inl rfl|exact .inr rfl|assumption) :
  PS X (.AugAssign (.Name x pos') op e pos) (Qu i te ti):=by
 intro pins s σ H D I h
 obtain⟨v,e1,h⟩:=h
 obtain⟨m,hn,hl⟩:=I.loc
 have UX:Lu X.env.scope x:=by rcases hx with k|k;exact .inl k;exact .inr (.inl k)
 obtain⟨u,r,l⟩:=hl i x v hi e1 UX
 refine wpAny_AugAssign_Name ?_
 have go:wpAny (model X.prog X.w) X.A (eval e X.env) (fun w bE=>wpAny (model X.prog X.w) X.A (inplaceOp op u w) (fun r wN=>wpAny (model X.prog X.w) X.A (storeName X.env x r) (fun _=>SP X pins D .next) X.xe wN) X.xe bE) X.xe s:=by
  refine bt (he pins s σ H _ I h) fun w s1 ⟨y,H1,I1,r1,q1⟩=>?_
  refine bt (ho pins s1 σ H1 v y u w _ I1 r r1 q1) fun z s2 ⟨zv,H2,I2,r2,q2⟩=>?_
  exact nZ I2 hN hi hx r2 (fun s3 I3=>⟨_,H2,I3,q2⟩) hf
 rcases l with ⟨hk,hm⟩|⟨hk,c,hc,Aa⟩
 ·exact wpAny_loadName_local I.ok.kind hk hn hm go
 ·rcases hk with hk|hk
  ·exact wpAny_loadName_cell I.ok.kind hk hc Aa go
  ·rcases hx with k|k
   ·have:X.env.scope.names.lookup x=some .free:=hk
    rw[k] at this;cases this
   ·have:X.env.scope.names.lookup x=some .free:=hk
    rw[k] at this;cases this
def UY(f:Int→Int→Int):Qs:=fun x y H Q=>∃i j,x=.int i∧y=.int j∧Q (.int (f i j)) H
theorem Jk:Tz X .Add (UY fun i j=>i+j):=by
 intro pins s σ H x y v u Q I r1 r2 h
 obtain⟨i,j,e1,e2,q⟩:=h
 subst e1;subst e2
 obtain⟨t,rfl⟩:=r1
 obtain⟨t',rfl⟩:=r2
 exact iadd_int ⟨.int _,H,I.tok _,⟨_,rfl⟩,q⟩
end
section
variable{X:Cx}{pos:Pos}
def Jl(c:TT)(tb:TS):TS:=fun D σ H=>∃W:Nat→St→Hp→Prop,(∃m,W m σ H)∧∀m σ H,W m σ H →
 c σ H fun b H1=>if b=true then ∃N:St→Hp→Prop,(∀aA H',N aA H'→∃m',m'<m∧W m' aA H')∧tb { D with nx:=N,ct:=N,bk:=D.nx } σ H1 else D.nx σ H1
theorem CU(hp:PassesOwn (model X.prog X.w) X.A X.env X.xe)(hc:PT X c tc)(hb:z_ X body tb):PS X (.While c body [] pos) (Jl tc tb):=by
 intro pins s σ H D I h
 obtain⟨W,⟨m0,w0⟩,turn⟩:=h
 refine wpAny_While (codeAny_whileLoop (fun n s'=>∃aA H',Inv X pins aA H' s'∧W n aA H') ?_ m0 ⟨σ,H,I,w0⟩)
 rintro n s1 ⟨uz,H1,I1,w1⟩
 refine wpAny_passesOwn hp (bt (hc pins s1 uz H1 _ I1 (turn n uz H1 w1)) fun b s2 ⟨H2,I2,q2⟩=>?_)
 cases b with
 |true =>
  obtain⟨N,hN,q2⟩:=q2
  rw[if_pos rfl]
  refine wpAny_passesOwn hp (bt (hb pins s2 uz H2 _ I2 q2) fun f s3 q3=>?_)
  cases f with
  |next =>
   obtain⟨fw,H3,I3,n3⟩:=q3
   obtain⟨m',hm,w3⟩:=hN fw H3 n3
   exact⟨m',hm,fw,H3,I3,w3⟩
  |cont =>
   obtain⟨fw,H3,I3,n3⟩:=q3
   obtain⟨m',hm,w3⟩:=hN fw H3 n3
   exact⟨m',hm,fw,H3,I3,w3⟩
  |brk=>exact q3
  |ret v=>exact q3
 |false =>
  rw[if_neg zm]
  exact wpAny_execs_nil ⟨uz,H2,I2,q2⟩
end
structure It where
 go:Nat→Hp→Prop
 Md:Nat→Hp→V→Hp→Prop
 stop:Nat→Hp→Prop
def n_(X:Cx)(pins:List (Addr×Obj))(H:Hp)(b:Addr):Prop :=
 H b=none∧b≠X.env.locals∧b∉X.fs∧(b∈X.ex∨X.cV.heap.objs.size≤b)∧(∀x c,X.env.cells.lookup x=some c→c≠b)∧∀p∈X.pn++pins,p.1≠b
theorem Inv.qr(I:Inv X pins σ H s)(hb:s.heap.objs.size≤b)(hn:H' b=none):n_ X pins H' b:=by
 refine⟨hn,yC (zr I.lt hb),I.Qe hb,.inr (zt I.sz hb),fun x c e z=>?_,fun p hp z=>?_⟩
 ·obtain⟨v,q⟩:=I.cell x c e
  exact absurd (zr q.lt (by rw[z];exact hb)) (yA _)
 ·exact absurd (zr (zy (I.pin p hp).1) (by rw[z];exact hb)) (yA _)
structure Turn(P:Program)(w:World)(K:Frag)(tg:Expr)(J:It)(fp:List Addr)(it:Addr)(tn:Nat→Heap→Prop):Prop where
 mem:it∈fp
 obj:∀i h,tn i h→∀b∈fp,∃o,h.get? b=some o∧∀v,o.data≠.cell v
 keep:∀i h h',tn i h→(∀b∈fp,∀o,h.get? b=some o→h'.get? b=some o)→tn i h'
 item:∀(X:Cx),X.prog=P→X.w=w→X.K=K→X.calm=true→∀(i:Nat) (pins:List (Addr×Obj)) (s:Shared) (σ:St) (H:Hp) (E:Value→Shared→Prop),Inv X pins σ H s→(∀b∈fp,n_ X pins H b)→tn i s.heap→J.go i H →
  wpAny (model P w) X.A (pyNext (.ref it)) (fun r s1=>∃u,r=some u ∧
   wpAny (model P w) X.A (letOwnedTupleGo tg (.ref it) u) (fun _ s2=>∃x H',Inv X pins σ H' s2∧RelV x u∧J.Md i H x H'∧tn (i+1) s2.heap∧∀b∈fp,H' b=none) E s1) E s
 done:∀(X:Cx),X.prog=P→X.w=w→X.K=K→X.calm=true→∀(i:Nat) (pins:List (Addr×Obj)) (s:Shared) (σ:St) (H:Hp) (E:Value→Shared→Prop),Inv X pins σ H s→(∀b∈fp,n_ X pins H b)→tn i s.heap→J.stop i H →
  wpAny (model P w) X.A (pyNext (.ref it)) (fun r s1=>r=none∧Inv X pins σ H s1) E s
 self:∀(A:Around) (i:Nat) (s:Shared) (Q:Value→Shared→Prop) (E:Value→Shared→Prop),tn i s.heap→Q (.ref it) s→wpAny (model P w) A (pyIter (.ref it)) Q E s
abbrev TI:=St→Hp→(It→Hp→Prop)→Prop
def Pe(X:Cx)(pins:List (Addr×Obj))(σ:St)(tg:Expr)(R:It→Hp→Prop)(Pg:Value)(s2:Shared):Prop :=
 ∃(it:Addr) (fp:List Addr) (tn:Nat→Heap→Prop) (J:It) (H':Hp),Pg=.ref it∧Inv X pins σ H' s2∧Turn X.prog X.w X.K tg J fp it tn∧tn 0 s2.heap∧(∀b∈fp,n_ X pins H' b)∧R J H'
def PI(X:Cx)(tg iter:Expr)(wi:TI):Prop :=
 ∀(pins:List (Addr×Obj)) (s:Shared) (σ:St) (H:Hp) (R:It→Hp→Prop),Inv X pins σ H s→wi σ H R →
  wpAny (model X.prog X.w) X.A (eval iter X.env) (fun v s1=>wpAny (model X.prog X.w) X.A (pyIter v) (Pe X pins σ tg R) X.xe s1) X.xe s
theorem uF(ho:s.heap.get? it=some o)(hc:o.cls=.type n)(hd:o.data=.fields vs)
  (hn:["enumerate","zip","dict_itemiterator","dict_reverseitemiterator","odict_iterator","itertools.zip_longest","itertools.pairwise"].contains n=false) (hQ:Q () s):wpAny M A (letOwnedTupleGo tg (.ref it) u) Q E s:=by
 unfold letOwnedTupleGo
 cases tg <;> first
  |exact zx hQ
  | (cases u <;> first
    |exact zx hQ
    | (refine zc (wpAny_load ho ?_)
       rw[hc,hd]
       show wpAny M A (if (["enumerate","zip","dict_itemiterator","dict_reverseitemiterator","odict_iterator","itertools.zip_longest","itertools.pairwise"].contains n && vs[0]? == some (rawInt _))=true then _ else _) Q E s
       rw[if_neg (by intro h;rw[hn,zE] at h;cases h)]
       exact zx hQ))
def TB(K:Frag)(a:Addr):It :=
 ⟨fun i H=>∃xs x,jN K H a xs∧xs[i]?=some x,fun i H x H'=>H'=H∧∀xs,jN K H a xs→xs[i]?=some x,fun i H=>∃xs,jN K H a xs∧xs.length≤i⟩
def TC(K:Frag)(a:Addr):It :=
 ⟨fun i H=>∃xs x,iq K H a xs∧xs[i]?=some x,fun i H x H'=>H'=H∧∀xs,iq K H a xs→xs[i]?=some x,fun i H=>∃xs,iq K H a xs∧xs.length≤i⟩
def Me(lo:Int)(n:Nat):It:=⟨fun i _=>i<n,fun i H x H'=>H'=H∧x=.int (lo+i),fun i _=>n≤i⟩
theorem A6{P:Program}{w:World}{K:Frag}{tg:Expr}(a it:Addr):Turn P w K tg (TB K a) [it] it (fun i h=>h.IsListIter it a i) where
 mem:=by simp
 obj:=fun i h st b hb=>by
  have e:b=it:=by simpa using hb
  subst e
  obtain⟨o,e,c,d⟩:=st
  exact⟨o,e,fun v z=>by rw[d] at z;cases z⟩
 keep:=fun i h h' st k=>st.at fun o e=>k it (by simp) o e
 item:=by
  intro X hP hw hK hc i pins s σ H E I hf st hg
  subst hP hw hK
  obtain⟨xs,x,hq,hx⟩:=hg
  obtain⟨ao,rv,p,hz⟩:=I.list hq
  obtain⟨u,hu,ru⟩:=rv.get hx
  obtain⟨f0,f1,f2,f3,f4,f5⟩:=hf it (by simp)
  refine wpAny_pyNext_list_item st p.isList (x:=u) (by simpa using hu) fun h' ie sb=>?_
  have I1:Inv X pins σ H { s with heap:=h' }:=I.turned (t':=s.toks) (fun b o hb e=>(sb.2 b hb).trans e) f0 f1 f3 f4 f5
  obtain⟨o,e,c,d⟩:=id ie
  exact⟨u,rfl,uF (s:={ s with heap:=h' }) e c d (by decide) ⟨x,H,I1,ru,⟨rfl,fun ys hy=>by rw[I.CO hy hq];exact hx⟩,ie,fun b hb=>(hf b hb).1⟩⟩
 done:=by
  intro X hP hw hK hc i pins s σ H E I hf st hg
  subst hP hw hK
  obtain⟨xs,hq,hx⟩:=hg
  obtain⟨ao,rv,p,hz⟩:=I.list hq
  obtain⟨f0,f1,f2,f3,f4,f5⟩:=hf it (by simp)
  have hl:=rv.length
  exact wpAny_pyNext_list_end (I.ok.hd hc) st p.isList (by simp;lia) fun h' eb=>⟨rfl,I.turned (t':=s.toks) (fun b o hb e=>eb b o hb e) f0 f1 f3 f4 f5⟩
 self:=fun _ _ _ _ _ st h=>wpAny_pyIter_listiter st h
theorem wO{P:Program}{w:World}{K:Frag}{tg:Expr}(a it:Addr):Turn P w K tg (TC K a) [it] it (fun i h=>h.IsTupleIter it a i) where
 mem:=by simp
 obj:=fun i h st b hb=>by
  have e:b=it:=by simpa using hb
  subst e
  obtain⟨o,e,c,d⟩:=st
  exact⟨o,e,fun v z=>by rw[d] at z;cases z⟩
 keep:=fun i h h' st k=>st.at fun o e=>k it (by simp) o e
 item:=by
  intro X hP hw hK hc i pins s σ H E I hf st hg
  subst hP hw hK
  obtain⟨xs,x,hq,hx⟩:=hg
  obtain⟨ao,rv,p,hz⟩:=I.tuple hq
  obtain⟨u,hu,ru⟩:=rv.get hx
  obtain⟨f0,f1,f2,f3,f4,f5⟩:=hf it (by simp)
  refine wpAny_pyNext_tuple_item st (show s.heap.IsTuple a ao.toArray from p) (x:=u) (by simpa using hu) fun h' ie sb=>?_
  have I1:Inv X pins σ H { s with heap:=h' }:=I.turned (t':=s.toks) (fun b o hb e=>(sb.2 b hb).trans e) f0 f1 f3 f4 f5
  obtain⟨o,e,c,d⟩:=id ie
  exact⟨u,rfl,uF (s:={ s with heap:=h' }) e c d (by decide) ⟨x,H,I1,ru,⟨rfl,fun ys hy=>by rw[I.lL hy hq];exact hx⟩,ie,fun b hb=>(hf b hb).1⟩⟩
 done:=by
  intro X hP hw hK hc i pins s σ H E I hf st hg
  subst hP hw hK
  obtain⟨xs,hq,hx⟩:=hg
  obtain⟨ao,rv,p,hz⟩:=I.tuple hq
  obtain⟨f0,f1,f2,f3,f4,f5⟩:=hf it (by simp)
  have hl:=rv.length
  exact wpAny_pyNext_tuple_end (I.ok.hd hc) st (show s.heap.IsTuple a ao.toArray from p) (by simp;lia) fun h' eb=>⟨rfl,I.turned (t':=s.toks) (fun b o hb e=>eb b o hb e) f0 f1 f3 f4 f5⟩
 self:=fun _ _ _ _ _ st h=>wpAny_pyIter_tupleiter st h
theorem wQ{P:Program}{w:World}{K:Frag}{tg:Expr}(it:Addr)(lo:Int)(n:Nat):Turn P w K tg (Me lo n) [it] it (fun i h=>IsRangeIter h it (lo+(i:Nat) * 1) ((n:Int) - (i:Nat)) 1) where
 mem:=by simp
 obj:=fun i h st b hb=>by
  have e:b=it:=by simpa using hb
  subst e
  exact⟨_,st,fun v z=>by
   have z':Data.fields _=Data.cell v:=z
   cases z'⟩
 keep:=fun i h h' st k=>k it (by simp) _ st
 item:=by
  intro X hP hw hK hc i pins s σ H E I hf st hg
  subst hP hw hK
  obtain⟨f0,f1,f2,f3,f4,f5⟩:=hf it (by simp)
  have W:=Walks.range (prog:=X.prog) (w:=X.w) (I.ok.hd hc) it lo 1 n
  refine W.item i s _ _ hg st fun v h' tk hv ie kk=>?_
  obtain⟨t,rfl⟩:=hv
  have I1:Inv X pins σ H { s with heap:=h',toks:=tk }:=I.turned (fun b o hb e=>kk b o (by simpa using hb) e) f0 f1 f3 f4 f5
  refine⟨_,rfl,uF (s:={ s with heap:=h',toks:=tk }) (n := "range_iterator") ie rfl rfl (by decide) ⟨.int (lo+i),H,I1,⟨t,?_⟩,⟨rfl,rfl⟩,ie,fun b hb=>(hf b hb).1⟩⟩
  rw[Int.mul_one]
 done:=by
  intro X hP hw hK hc i pins s σ H E I hf st hg
  subst hP hw hK
  obtain⟨f0,f1,f2,f3,f4,f5⟩:=hf it (by simp)
  exact wpAny_pyNext_range_end (I.ok.hd hc) st (by have:n≤i:=hg;lia) fun h' eb=>⟨rfl,I.turned (t':=s.toks) (fun b o hb e=>eb b o hb e) f0 f1 f3 f4 f5⟩
 self:=fun _ _ _ _ _ st h=>wpAny_pyIter_rangeiter st h
section
variable{X:Cx}{tg:Expr}
def Mf(K:Frag)(tl:TE):TI:=fun σ H R=>tl σ H fun x H1=>∃a,x=.ref a∧(∃xs,jN K H1 a xs)∧R (TB K a) H1
def Qv(K:Frag)(tl:TE):TI:=fun σ H R=>tl σ H fun x H1=>∃a,x=.ref a∧(∃xs,iq K H1 a xs)∧R (TC K a) H1
theorem FO{l:Expr}{tl:TE}(hl:PE X l tl):PI X tg l (Mf X.K tl):=by
 intro pins s σ H R I h
 refine bt (hl pins s σ H _ I h) fun v s1 ⟨x,H1,I1,r1,q1⟩=>?_
 obtain⟨a,e,⟨xs,hq⟩,q⟩:=q1
 subst e
 cases r1
 obtain⟨ao,rv,p,hz⟩:=I1.list hq
 refine wpAny_pyIter_list p.isList ?_
 refine⟨s1.heap.objs.size,[s1.heap.objs.size],_,_,H1,rfl,I1.kept (t':=s1.toks) fun b o e=>zd _ e,A6 a _,⟨_,zB _ rfl,rfl,rfl⟩,fun b hb=>?_,q⟩
 have e:b=s1.heap.objs.size:=by simpa using hb
 subst e
 exact I1.qr (zh _) (I1.aQ.fresh (zh _))
theorem Jm{l:Expr}{tl:TE}(hl:PE X l tl):PI X tg l (Qv X.K tl):=by
 intro pins s σ H R I h
 refine bt (hl pins s σ H _ I h) fun v s1 ⟨x,H1,I1,r1,q1⟩=>?_
 obtain⟨a,e,⟨xs,hq⟩,q⟩:=q1
 subst e
 cases r1
 obtain⟨ao,rv,p,hz⟩:=I1.tuple hq
 refine wpAny_pyIter_tuple (show s1.heap.IsTuple a ao.toArray from p) ?_
 refine⟨s1.heap.objs.size,[s1.heap.objs.size],_,_,H1,rfl,I1.kept (t':=s1.toks) fun b o e=>zd _ e,wO a _,⟨_,zB _ rfl,rfl,rfl⟩,fun b hb=>?_,q⟩
 have e:b=s1.heap.objs.size:=by simpa using hb
 subst e
 exact I1.qr (zh _) (I1.aQ.fresh (zh _))
theorem uG{pins:List (Addr×Obj)}{σ:St}{H:Hp}{s:Shared}{R:It→Hp→Prop}{E:Value→Shared→Prop}{lo hi:Int}{t u v:Tok}{tk:Nat}(I:Inv X pins σ H s)(h1:-(2 ^ 62)≤lo)(h2:lo<2 ^ 62)(h3:-(2 ^ 62)≤hi)(h4:hi<2 ^ 62)
  (q:R (Me lo (hi - lo).toNat) H):wpAny (model X.prog X.w) X.A (pyIter (.ref s.heap.objs.size)) (Pe X pins σ tg R) E { s with heap:=s.heap.push { cls:=.type "range",data:=.fields #[.int lo t,.int hi u,.int 1 v] },toks:=tk }:=by
 refine wpAny_pyIter_range (IsRange.new ..) (small_one h1 h2 h3 h4) ?_
 have I1:Inv X pins σ H { s with heap:=s.heap.push { cls:=.type "range",data:=.fields #[.int lo t,.int hi u,.int 1 v] },toks:=tk }:=I.kept fun b o e=>zd _ e
 refine⟨(s.heap.push { cls:=.type "range",data:=.fields #[.int lo t,.int hi u,.int 1 v] }).objs.size,[(s.heap.push { cls:=.type "range",data:=.fields #[.int lo t,.int hi u,.int 1 v] }).objs.size],_,_,H,rfl,
  I1.kept (t':=tk) fun b o e=>zd _ e,wQ _ lo (hi - lo).toNat,?_,fun b hb=>?_,q⟩
 ·have e1:lo+((0:Nat):Int) * 1=lo:=by simp
  have e2:(((hi - lo).toNat:Nat):Int) - ((0:Nat):Int)=Builtin.Range.rangeSize lo hi 1:=by rw[rangeSize_one];split <;> lia
  show IsRangeIter _ _ (lo+((0:Nat):Int) * 1) ((((hi - lo).toNat:Nat):Int) - ((0:Nat):Int)) 1
  rw[e1,e2]
  exact zB _ rfl
 ·have e:b=(s.heap.push { cls:=.type "range",data:=.fields #[.int lo t,.int hi u,.int 1 v] }).objs.size:=by simpa using hb
  subst e
  exact I1.qr (zh _) (I1.aQ.fresh (zh _))
def Mg(ta:TA):TI:=fun σ H R=>ta σ H fun vs H1=>∃j:Int,vs=[.int j]∧-(2 ^ 62)≤j∧j<2 ^ 62∧R (Me 0 j.toNat) H1
def Mh(ta:TA):TI:=fun σ H R=>ta σ H fun vs H1=>∃i j:Int,vs=[.int i,.int j]∧(-(2 ^ 62)≤i∧i<2 ^ 62∧-(2 ^ 62)≤j∧j<2 ^ 62)∧R (Me i (j - i).toNat) H1
theorem A7{a:Expr}{ta:TA}{p pos:Pos}(hg:Gl X "range")(hm:X.mg "range" = none)(ha:PA X [a] ta)(hs:starEach [a] X.env=[(false,eval a X.env)]:=by rfl):PI X tg (.Call (.Name "range" p) [a] [] pos) (Mg ta):=by
 intro pins s σ H R I h
 refine Call_ (jM I hg hm boot_range (PyProof.Rows.callWith_type1 (bt (ha pos pins s σ H _ I h) fun us s1 ⟨vs,H1,I1,r1,q1⟩=>?_) hs rfl))
 obtain⟨j,e,q1,q2,q⟩:=q1
 subst e
 cases r1 with
 |cons r rr =>
  cases rr
  obtain⟨t,rfl⟩:=r
  exact call_range_1 (uG I1 (by lia) (by lia) q1 q2 (by simpa using q))
theorem A8(hg:Gl X "range")(hm:X.mg "range" = none)(ha:PA X [a,b] ta)(hs:starEach [a,b] X.env=[(false,eval a X.env),(false,eval b X.env)]:=by rfl)(uH:starEach [b] X.env=[(false,eval b X.env)]:=by rfl) :
  PI X tg (.Call (.Name "range" p) [a,b] [] pos) (Mh ta):=by
 intro pins s σ H R I h
 refine Call_ (jM I hg hm boot_range (PyProof.Rows.callWith_type1 (bt (ha pos pins s σ H _ I h) fun us s1 ⟨vs,H1,I1,r1,q1⟩=>?_) (by rw[hs,uH]) (by rw[uH];rfl)))
 obtain⟨i,j,e,⟨q1,q2,q3,q4⟩,q⟩:=q1
 subst e
 cases r1 with
 |cons r rr =>
  cases rr with
  |cons r' rr =>
   cases rr
   obtain⟨t,rfl⟩:=r
   obtain⟨t',rfl⟩:=r'
   exact call_range_2 (uG I1 q1 q2 q3 q4 q)
def Qw(wi:TI)(g:TG)(tb:TS):TS:=fun D σ H=>wi σ H fun J H1=>∃W:Nat→Nat→St→Hp→Prop,(∃m,W 0 m σ H1)∧∀i m σ H,W i m σ H →
 (J.stop i H∧D.nx σ H)∨(J.go i H∧∃N:St→Hp→Prop,(∀aA H',N aA H'→∃m',m'<m∧W (i+1) m' aA H')∧∀x H',J.Md i H x H'→g x σ H' fun Ad H2=>tb { D with nx:=N,ct:=N,bk:=D.nx } Ad H2)
def oa(fp:List Addr)(h:Heap):List (Addr×Obj):=fp.filterMap fun b=>(h.get? b).map fun o=>(b,o)
theorem gC(hb:b∈fp)(e:h.get? b=some o):(b,o)∈oa fp h:=List.mem_filterMap.mpr ⟨b,hb,by rw[e];rfl⟩
theorem A9(hp:p∈oa fp h):p.1∈fp∧h.get? p.1=some p.2:=by
 obtain⟨b,hb,e⟩:=List.mem_filterMap.mp hp
 cases q:h.get? b with
 |none=>rw[q] at e;cases e
 |some o =>
  rw[q] at e
  have e':(b,o)=p:=zS e
  subst e'
  exact⟨hb,q⟩
theorem Inv.pinned(I:Inv X pins σ H s)(hf:∀b∈fp,n_ X pins H b)(ho:∀b∈fp,∃o,s.heap.get? b=some o∧∀v,o.data≠.cell v):Inv X (pins++oa fp s.heap) σ H s :=
 I.kg fun p hp=>(zP.mp hp).elim (fun z=>I.pin p (zL _ z)) fun z=>by
  obtain⟨hb,e⟩:=A9 z
  obtain⟨f0,f1,f2,_⟩:=hf p.1 hb
  obtain⟨o,e',d⟩:=ho p.1 hb
  rw[e] at e';cases e'
  exact⟨e,f0,f1,f2,d⟩
theorem Inv.og(I:Inv X (pins++pl) σ H s):Inv X pins σ H s:=I.kg fun p hp=>I.pin p (zL _ (yf _ hp))
theorem Jn(hp:PassesOwn (model X.prog X.w) X.A X.env X.xe)(hc:X.calm=true)(hi:PI X tg iter wi)(hg:PG X tg g)(hb:z_ X body tb)
  (hs:∀x,foldedSetIterable iter X.env x=pure x:=by intro _;rfl):PS X (.For tg iter body [] pos) (Qw wi g tb):=by
 intro pins s σ H D I h
 refine wpAny_For (bt (hi pins s σ H _ I h) fun v s1 h1=>bt h1 fun Pg s2 h2=>?_) hs
 obtain⟨it,fp,tn,J,H2,e,I2,T,Mi,f2,W,⟨m0,w0⟩,turn⟩:=h2
 subst e
 -- what stays true of the iterator's objects through the loop
 have Jo:∀{H':Hp},(∀b∈fp,H' b=none)→∀b∈fp,n_ X pins H' b:=fun hn b hb=>⟨hn b hb,(f2 b hb).2⟩
 refine codeAny_forLoop_any (fun n s'=>∃i aA H',Inv X pins aA H' s'∧tn i s'.heap∧(∀b∈fp,H' b=none)∧W i n aA H') ?_ m0 ⟨0,σ,H2,I2,Mi,fun b hb=>(f2 b hb).1,w0⟩
 rintro n s3 ⟨i,fw,H3,I3,Mj,Ml,w3⟩
 rcases turn i n fw H3 w3 with ⟨stop,qn⟩|⟨go,N,hN,step⟩
 ·refine wpAny_passesOwn hp (bt (T.done X rfl rfl rfl hc i pins s3 fw H3 X.xe I3 (Jo Ml) Mj stop) fun r s4 ⟨hr,I4⟩=>?_)
  subst hr
  exact wpAny_execs_nil ⟨fw,H3,I4,qn⟩
 ·refine wpAny_passesOwn hp (bt (T.item X rfl rfl rfl hc i pins s3 fw H3 X.xe I3 (Jo Ml) Mj go) fun r s4 ⟨u,hr,h4⟩=>?_)
  subst hr
  refine wpAny_passesOwn hp (bt h4 fun _ s5 ⟨x,H5,I5,r5,y5,st5,fr5⟩=>?_)
  have Qx:=I5.pinned (Jo fr5) (T.obj _ _ st5)
  refine wpAny_passesOwn hp (bt (hg _ s5 fw H5 x u _ Qx r5 (step x H5 y5)) fun _ s6 ⟨Mm,H6,I6,q6⟩=>?_)
  refine wpAny_passesOwn hp (bt (hb _ s6 Mm H6 _ I6 q6) fun f s7 q7=>?_)
  have again:∀{CV:St}{H7:Hp},Inv X (pins++oa fp s5.heap) CV H7 s7→N CV H7→∃m,m<n∧∃i aA H',Inv X pins aA H' s7∧tn i s7.heap∧(∀b∈fp,H' b=none)∧W i m aA H':=fun {CV H7} I7 n7=>by
   obtain⟨m',hm,w7⟩:=hN CV H7 n7
   refine⟨m',hm,i+1,CV,H7,I7.og,T.keep _ _ _ st5 fun b hb o e=>(I7.pin (b,o) (zL _ (zL _ (gC hb e)))).1,fun b hb=>?_,w7⟩
   obtain⟨o,e,d⟩:=T.obj _ _ st5 b hb
   exact (I7.pin (b,o) (zL _ (zL _ (gC hb e)))).2.1
  cases f with
  |next=>obtain⟨CV,H7,I7,n7⟩:=q7;exact again I7 n7
  |cont=>obtain⟨CV,H7,I7,n7⟩:=q7;exact again I7 n7
  |brk=>obtain⟨CV,H7,I7,q7⟩:=q7;exact⟨CV,H7,I7.og,q7⟩
  |ret v=>obtain⟨x7,CV,H7,I7,r7,q7⟩:=q7;exact⟨x7,CV,H7,I7.og,r7,q7⟩
end
abbrev R2:=V→V→Hp→VK→Prop
def fO(X:Cx)(f:Value→Value→Sem Value)(r:R2):Prop :=
 ∀(pins:List (Addr×Obj)) (s:Shared) (σ:St) (H:Hp) (x y:V) (v u:Value) (Q:VK),Inv X pins σ H s→RelV x v→RelV y u→r x y H Q →
  wpAny (model X.prog X.w) X.A (f v u) (EP X pins σ Q) X.xe s
def Qy(X:Cx)(f:Value→Sem Value)(r:V→Hp→VK→Prop):Prop :=
 ∀(pins:List (Addr×Obj)) (s:Shared) (σ:St) (H:Hp) (x:V) (v:Value) (Q:VK),Inv X pins σ H s→RelV x v→r x H Q →
  wpAny (model X.prog X.w) X.A (f v) (EP X pins σ Q) X.xe s
def fz(X:Cx)(f:Value)(r:List V→Hp→VK→Prop):Prop :=
 ∀(pins:List (Addr×Obj)) (s:Shared) (σ:St) (H:Hp) (xs:List V) (us:List Value) (Q:VK),Inv X pins σ H s→Vals xs us→r xs H Q →
  wpAny (model X.prog X.w) X.A (call f us) (EP X pins σ Q) X.xe s
def Lz(r:R2)(ta tb:TE):TE:=fun σ H Q=>ta σ H fun x H1=>tb σ H1 fun y H2=>r x y H2 Q
def UZ(r:V→Hp→VK→Prop)(ta:TE):TE:=fun σ H Q=>ta σ H fun x H1=>r x H1 Q
def rI(C:Int→Int→Prop)(g:Int→Int→V):R2:=fun x y H Q=>∃i j,x=.int i∧y=.int j∧C i j∧Q (g i j) H
def FP(g:Int→Int→V):R2:=fun x y H Q=>∃i j,x=.int i∧y=.int j∧Q (g i j) H
def rU(g:Int→V):V→Hp→VK→Prop:=fun x H Q=>∃i,x=.int i∧Q (g i) H
section
variable{X:Cx}{a b c:Expr}{ta tb tc:TE}{pos:Pos}
theorem Jp(ha:PE X a ta)(hb:PE X b tb){pins:List (Addr×Obj)}{s:Shared}{σ:St}{H:Hp}{R:V→V→Hp→Prop}(I:Inv X pins σ H s)
  (h:ta σ H fun x H1=>tb σ H1 fun y H2=>R x y H2) {Q:Value→Shared→Prop}{f:Value→Value→Sem Value}
  (hf:∀v u s2 x y H2,Inv X pins σ H2 s2→RelV x v→RelV y u→R x y H2→wpAny (model X.prog X.w) X.A (f v u) Q X.xe s2) :
  wpAny (model X.prog X.w) X.A (eval a X.env) (fun v s₁=>wpAny (model X.prog X.w) X.A (eval b X.env) (fun u bE=>wpAny (model X.prog X.w) X.A (f v u) Q X.xe bE) X.xe s₁) X.xe s:=by
 refine bt (ha pins s σ H _ I h) fun v s1 ⟨x,H1,I1,r1,q1⟩=>?_
 refine bt (hb pins s1 σ H1 _ I1 q1) fun u s2 ⟨y,H2,I2,r2,q2⟩=>?_
 exact hf v u s2 x y H2 I2 r1 r2 q2
theorem Mn{op:Operator}{r:R2}(ho:fO X (binaryOp op) r)(ha:PE X a ta)(hb:PE X b tb):PE X (.BinOp a op b pos) (Lz r ta tb):=by
 intro pins s σ H Q I h
 exact wpAny_BinOp (Jp ha hb I h fun v u s2 x y H2 I2 rx ry q=>ho pins s2 σ H2 x y v u Q I2 rx ry q)
theorem Mo(ho:Qy X (unaryOp op) r)(ha:PE X a ta):PE X (.UnaryOp op a pos) (UZ r ta):=by
 intro pins s σ H Q I h
 exact UnaryOp_ (bt (ha pins s σ H _ I h) <| by rintro v s1 ⟨x,H1,I1,r1,q1⟩;exact ho pins s1 σ H1 x v Q I1 r1 q1)
theorem Ph{f:Value→Value→Sem Value}{C:Int→Int→Prop}{g:Int→Int→Int}
  (rule:∀(i j:Int) (t u:Tok) (s:Shared) (Q:Value→Shared→Prop) (E:Value→Shared→Prop),C i j→Q (.int (g i j) s.toks) { s with toks:=s.toks+1 }→wpAny (model X.prog X.w) X.A (f (.int i t) (.int j u)) Q E s) :
  fO X f (rI C fun i j=>.int (g i j)):=by
 intro pins s σ H x y v u Q I rx ry h
 obtain⟨i,j,rfl,rfl,hc,q⟩:=h
 obtain⟨t,rfl⟩:=rx
 obtain⟨t',rfl⟩:=ry
 exact rule i j t t' s _ _ hc ⟨.int (g i j),H,I.tok _,⟨_,rfl⟩,q⟩
theorem Mp{f:Value→Value→Sem Value}{g:Int→Int→Int}
  (rule:∀(i j:Int) (t u:Tok) (s:Shared) (Q:Value→Shared→Prop) (E:Value→Shared→Prop),Q (.int (g i j) s.toks) { s with toks:=s.toks+1 }→wpAny (model X.prog X.w) X.A (f (.int i t) (.int j u)) Q E s) :
  fO X f (FP fun i j=>.int (g i j)):=by
 intro pins s σ H x y v u Q I rx ry h
 obtain⟨i,j,rfl,rfl,q⟩:=h
 obtain⟨t,rfl⟩:=rx
 obtain⟨t',rfl⟩:=ry
 exact rule i j t t' s _ _ ⟨.int (g i j),H,I.tok _,⟨_,rfl⟩,q⟩
theorem FQ{f:Value→Value→Sem Value}{g:Int→Int→Bool}
  (rule:∀(i j:Int) (t u:Tok) (s:Shared) (Q:Value→Shared→Prop) (E:Value→Shared→Prop),Q (.bool (g i j)) s→wpAny (model X.prog X.w) X.A (f (.int i t) (.int j u)) Q E s) :
  fO X f (FP fun i j=>.bl (g i j)):=by
 intro pins s σ H x y v u Q I rx ry h
 obtain⟨i,j,rfl,rfl,q⟩:=h
 obtain⟨t,rfl⟩:=rx
 obtain⟨t',rfl⟩:=ry
 exact rule i j t t' s _ _ ⟨.bl (g i j),H,I,rfl,q⟩
def Mq(i j:Int):Prop:=0≤j∧j≤1000000∧i.natAbs<2 ^ 64
def FR(i j:Int):Prop:=(-(2 ^ 64)<i∧i<2 ^ 64)∨(-(2 ^ 64)<j∧j<2 ^ 64)
theorem FR.ok{i j:Int}(h:FR i j):IntMulOk i j:=by
 rcases h with ⟨h1,h2⟩|⟨h1,h2⟩
 ·exact .of_left (intBits_le_64 h1 h2)
 ·exact .of_right (intBits_le_64 h1 h2)
theorem Jq:fO X (binaryOp .Add) (FP fun i j=>.int (i+j)):=Mp fun _ _ _ _ _ _ _ q=>add_int q
theorem Jr:fO X (binaryOp .Sub) (FP fun i j=>.int (i - j)):=Mp fun _ _ _ _ _ _ _ q=>sub_int q
theorem Js:fO X (binaryOp .Mult) (rI FR fun i j=>.int (i * j)):=Ph fun _ _ _ _ _ _ _ hc q=>mul_int q hc.ok
theorem Jt:fO X (binaryOp .Mod) (rI (fun _ j=>0<j) fun i j=>.int (i % j)):=Ph fun i j _ _ _ _ _ hc q=>by
 have h1:(0:Int)<j:=hc
 exact mod_int' (by lia) (by rw[Int.fmod_eq_emod_of_nonneg i (by lia)];exact q)
theorem Ju:fO X (binaryOp .Pow) (rI Mq fun i j=>.int (i ^ j.toNat)):=Ph fun _ _ _ _ _ _ _ hc q=>pow_int_small hc.1 hc.2.1 hc.2.2 q
theorem U0{f:Value→Sem Value}{g:Int→Int}
  (rule:∀(i:Int) (t:Tok) (s:Shared) (Q:Value→Shared→Prop) (E:Value→Shared→Prop),Q (.int (g i) s.toks) { s with toks:=s.toks+1 }→wpAny (model X.prog X.w) X.A (f (.int i t)) Q E s) :
  Qy X f (rU fun i=>.int (g i)):=by
 intro pins s σ H x v Q I rx h
 obtain⟨i,rfl,q⟩:=h
 obtain⟨t,rfl⟩:=rx
 exact rule i t s _ _ ⟨.int (g i),H,I.tok _,⟨_,rfl⟩,q⟩
theorem Jv:Qy X (unaryOp .USub) (rU fun i=>.int (-i)):=U0 fun _ _ _ _ _ q=>neg_int q
end
def Mr:V→V→Bool
 |.aC,.aC=>true|.aC,.int _=>true|.int _,.aC=>true|.aC,.bl _=>true|.bl _,.aC=>true|.aC,.str _=>true|.str _,.aC=>true
 |.int _,.int _=>true|.bl _,.bl _=>true|.str _,.str _=>true|.A3 _,.A3 _=>true
 |.int _,.str _=>true|.str _,.int _=>true|.bl _,.str _=>true|.str _,.bl _=>true
 |_,_=>false
def U1:R2:=fun x y H Q=>Mr x y=true∧Q (.bl (decide (x=y))) H
def U2:R2:=fun x y H Q=>Mr x y=true∧Q (.bl (!decide (x=y))) H
theorem Ae:decide (V.int i=V.int j)=(i == j):=by
 rw[yt]
 simp
theorem CW:decide (V.bl i=V.bl j)=(i == j):=by
 rw[yt]
 simp
theorem Af:decide (V.str i=V.str j)=(i == j):=by
 rw[yt]
 simp
theorem Ag:decide (V.A3 i=V.A3 j)=(i.toList == j.toList):=by
 rw[yt]
 cases i
 cases j
 simp
section
variable{X:Cx}{a b c:Expr}{ta tb tc:TE}{pos:Pos}
theorem av(I:Inv X pins σ H s)(q:Q (.bl k) H)(e:k=k'):EP X pins σ Q (.bool k') s:=by
 subst e
 exact⟨.bl k,H,I,rfl,q⟩
theorem HP:fO X (compareOp .Eq) U1:=by
 intro pins s σ H x y v u Q I rx ry h
 obtain⟨hs,q⟩:=h
 cases x with
 |aC =>
  cases rx
  cases y with
  |aC=>cases ry;exact PySem.EqNone.eq_none_none (av I q (by simp))
  |bl j=>cases ry;exact PySem.EqNone.eq_none_bool (av I q (by simp))
  |int j=>obtain⟨t',rfl⟩:=ry;exact PySem.EqNone.eq_none_int (av I q (by simp))
  |str j=>obtain⟨t',rfl⟩:=ry;exact PySem.EqNone.eq_none_str (av I q (by simp))
  |_=>exact absurd (show false=true from hs) zm
 |bl i =>
  cases rx
  cases y with
  |aC=>cases ry;exact PySem.EqNone.eq_bool_none (av I q (by simp))
  |bl j=>cases ry;exact eq_bool (av I q CW)
  |str j=>obtain⟨t',rfl⟩:=ry;exact PySem.EqMixed.eq_bool_str (av I q (by simp))
  |_=>exact absurd (show false=true from hs) zm
 |int i =>
  obtain⟨t,rfl⟩:=rx
  cases y with
  |aC=>cases ry;exact PySem.EqNone.eq_int_none (av I q (by simp))
  |int j=>obtain⟨t',rfl⟩:=ry;exact eq_int (av I q Ae)
  |str j=>obtain⟨t',rfl⟩:=ry;exact PySem.EqMixed.eq_int_str (av I q (by simp))
  |_=>exact absurd (show false=true from hs) zm
 |str i =>
  obtain⟨t,rfl⟩:=rx
  cases y with
  |aC=>cases ry;exact PySem.EqNone.eq_str_none (av I q (by simp))
  |bl j=>cases ry;exact PySem.EqMixed.eq_str_bool (av I q (by simp))
  |int j=>obtain⟨t',rfl⟩:=ry;exact PySem.EqMixed.eq_str_int (av I q (by simp))
  |str j=>obtain⟨t',rfl⟩:=ry;exact eq_str (av I q Af)
  |_=>exact absurd (show false=true from hs) zm
 |A3 i =>
  obtain⟨t,rfl⟩:=rx
  cases y with
  |A3 j=>obtain⟨t',rfl⟩:=ry;exact PySem.W.eq_bytes (av I q Ag)
  |_=>exact absurd (show false=true from hs) zm
 |_=>cases y <;> exact absurd (show false=true from hs) zm
theorem HQ:fO X (compareOp .NotEq) U2:=by
 intro pins s σ H x y v u Q I rx ry h
 obtain⟨hs,q⟩:=h
 cases x with
 |aC =>
  cases rx
  cases y with
  |aC=>cases ry;exact PySem.EqNone.ne_none_none (av I q (by simp))
  |bl j=>cases ry;exact PySem.EqNone.ne_none_bool (av I q (by simp))
  |int j=>obtain⟨t',rfl⟩:=ry;exact PySem.EqNone.ne_none_int (av I q (by simp))
  |str j=>obtain⟨t',rfl⟩:=ry;exact PySem.EqNone.ne_none_str (av I q (by simp))
  |_=>exact absurd (show false=true from hs) zm
 |bl i =>
  cases rx
  cases y with
  |aC=>cases ry;exact PySem.EqNone.ne_bool_none (av I q (by simp))
  |bl j=>cases ry;exact ne_bool (av I q (congrArg not CW))
  |str j=>obtain⟨t',rfl⟩:=ry;exact PySem.EqMixed.ne_bool_str (av I q (by simp))
  |_=>exact absurd (show false=true from hs) zm
 |int i =>
  obtain⟨t,rfl⟩:=rx
  cases y with
  |aC=>cases ry;exact PySem.EqNone.ne_int_none (av I q (by simp))
  |int j=>obtain⟨t',rfl⟩:=ry;exact ne_int (av I q (congrArg not Ae))
  |str j=>obtain⟨t',rfl⟩:=ry;exact PySem.EqMixed.ne_int_str (av I q (by simp))
  |_=>exact absurd (show false=true from hs) zm
 |str i =>
  obtain⟨t,rfl⟩:=rx
  cases y with
  |aC=>cases ry;exact PySem.EqNone.ne_str_none (av I q (by simp))
  |bl j=>cases ry;exact PySem.EqMixed.ne_str_bool (av I q (by simp))
  |int j=>obtain⟨t',rfl⟩:=ry;exact PySem.EqMixed.ne_str_int (av I q (by simp))
  |str j=>obtain⟨t',rfl⟩:=ry;exact ne_str (av I q (congrArg not Af))
  |_=>exact absurd (show false=true from hs) zm
 |A3 i =>
  obtain⟨t,rfl⟩:=rx
  cases y with
  |A3 j=>obtain⟨t',rfl⟩:=ry;exact PySem.W.ne_bytes (av I q (congrArg not Ag))
  |_=>exact absurd (show false=true from hs) zm
 |_=>cases y <;> exact absurd (show false=true from hs) zm
theorem Ms:fO X (compareOp .Lt) (FP fun i j=>.bl (decide (i<j))):=FQ fun _ _ _ _ _ _ _ q=>lt_int q
theorem Mt:fO X (compareOp .LtE) (FP fun i j=>.bl (decide (i≤j))):=FQ fun _ _ _ _ _ _ _ q=>le_int q
theorem Mu:fO X (compareOp .Gt) (FP fun i j=>.bl (decide (j<i))):=FQ fun _ _ _ _ _ _ _ q=>gt_int q
theorem Mv:fO X (compareOp .GtE) (FP fun i j=>.bl (decide (j≤i))):=FQ fun _ _ _ _ _ _ _ q=>ge_int q
theorem A_:fO X (compareOp .Lt) (fun x y H Q=>∃i j,x=.str i∧y=.str j∧Q (.bl (decide (i.cps.toList<j.cps.toList))) H):=by
 intro pins s σ H x y v u Q I rx ry h
 obtain⟨i,j,rfl,rfl,q⟩:=h
 obtain⟨t,rfl⟩:=rx
 obtain⟨t',rfl⟩:=ry
 exact lt_str (av I q rfl)
theorem Ba:fO X (compareOp .In) (fun x y H Q=>∃i j,x=.str i∧y=.str j∧Q (.bl (!(Builtin.Str.occurrences j i 0 j.length 1).isEmpty)) H):=by
 intro pins s σ H x y v u Q I rx ry h
 obtain⟨i,j,rfl,rfl,q⟩:=h
 obtain⟨t,rfl⟩:=rx
 obtain⟨t',rfl⟩:=ry
 exact in_str (av I q rfl)
theorem Jw:fO X (compareOp .Is) (fun x y H Q=>y=.aC∧Q (.bl (decide (x=.aC))) H):=by
 intro pins s σ H x y v u Q I rx ry h
 obtain⟨rfl,q⟩:=h
 cases ry
 refine is_none_gen (av I q ?_)
 cases x <;> first
  | (cases rx;rfl)
  | (obtain⟨t,rfl⟩:=rx;rfl)
theorem FT:fO X (compareOp .IsNot) (fun x y H Q=>y=.aC∧Q (.bl (!decide (x=.aC))) H):=by
 intro pins s σ H x y v u Q I rx ry h
 obtain⟨rfl,q⟩:=h
 cases ry
 refine isnot_none_gen (av I q ?_)
 cases x <;> first
  | (cases rx;rfl)
  | (obtain⟨t,rfl⟩:=rx;rfl)
theorem Qz(b:Expr)(h:op≠.In:=by decide)(h2:op≠.NotIn:=by decide):behindInMarks op b=false:=by
 have e1:(op == CmpOp.In)=false:=by cases op <;> first|rfl|exact absurd rfl h
 have e2:(op == CmpOp.NotIn)=false:=by cases op <;> first|rfl|exact absurd rfl h2
 cases b <;> simp [behindInMarks,e1,e2]
theorem Ah{op:CmpOp}{r:R2}(ho:fO X (compareOp op) r)(ha:PE X a ta)(hb:PE X b tb)(hm:behindInMarks op b=false):PE X (.Compare a [op] [b] pos) (Lz r ta tb):=by
 intro pins s σ H Q I h
 exact wpAny_Compare1 (Jp ha hb I h fun v u s2 x y H2 I2 rx ry q=>ho pins s2 σ H2 x y v u Q I2 rx ry q) hm
def CY(t:TE):TT:=fun σ H Q=>t σ H fun x H'=>∃k,x=.bl k∧Q k H'
theorem FU{op:CmpOp}{r:R2}(ho:fO X (compareOp op) r)(ha:PE X a ta)(hb:PE X b tb)(hm:behindInMarks op b=false):PT X (.Compare a [op] [b] pos) (CY (Lz r ta tb)):=by
 intro pins s σ H Q I h
 refine wpAny_isTrue_Compare1 (bt (ha pins s σ H _ I h) fun v s1 ⟨x,H1,I1,r1,q1⟩=>bt (hb pins s1 σ H1 _ I1 q1) fun u s2 ⟨y,H2,I2,r2,q2⟩ =>
  bt (ho pins s2 σ H2 x y v u _ I2 r1 r2 q2) fun c s3 ⟨z,H3,I3,r3,k,e,q3⟩=>?_) hm
 subst e
 cases r3
 exact yn ⟨H3,I3,q3⟩
def wR(r r':R2)(ta tb tc:TE):TE:=fun σ H Q=>ta σ H fun x H1=>tb σ H1 fun y H2=>r x y H2 fun z H3=>∃k,z=.bl k ∧
 (if k=true then tc σ H3 fun w' H4=>r' y w' H4 Q else Q (.bl false) H3)
theorem CZ{op Bb:CmpOp}{r r':R2}(ho:fO X (compareOp op) r)(wM:fO X (compareOp Bb) r')(ha:PE X a ta)(hb:PE X b tb)(hc:PE X c tc)
  (hm:lastMarks [op,Bb] [b,c]=false:=by with_unfolding_all rfl):PE X (.Compare a [op,Bb] [b,c] pos) (wR r r' ta tb tc):=by
 intro pins s σ H Q I h
 refine Compare_chain (bt (ha pins s σ H _ I h) fun v s1 ⟨x,H1,I1,r1,q1⟩=>chain_link (bt (hb pins s1 σ H1 _ I1 q1) fun u s2 ⟨y,H2,I2,r2,q2⟩ =>
  bt (ho pins s2 σ H2 x y v u _ I2 r1 r2 q2) fun d s3 ⟨z,H3,I3,r3,k,e,q3⟩=>?_)) hm
 subst e
 cases r3
 refine yn ?_
 cases k with
 |false=>exact ite_ff ⟨.bl false,H3,I3,rfl,q3⟩
 |true=>exact ite_tt (chain_last (bt (hc pins s3 σ H3 _ I3 q3) fun w' s4 ⟨z',H4,I4,r4,q4⟩=>wM pins s4 σ H4 y z' u w' Q I4 r2 r4 q4))
theorem C1{op Bb:CmpOp}{r r':R2}(ho:fO X (compareOp op) r)(wM:fO X (compareOp Bb) r')(ha:PE X a ta)(hb:PE X b tb)(hc:PE X c tc)
  (hm:lastMarks [op,Bb] [b,c]=false:=by with_unfolding_all rfl):PT X (.Compare a [op,Bb] [b,c] pos) (CY (wR r r' ta tb tc)):=by
 intro pins s σ H Q I h
 refine isTrue_chain (bt (ha pins s σ H _ I h) fun v s1 ⟨x,H1,I1,r1,q1⟩=>test_link (bt (hb pins s1 σ H1 _ I1 q1) fun u s2 ⟨y,H2,I2,r2,q2⟩ =>
  bt (ho pins s2 σ H2 x y v u _ I2 r1 r2 q2) fun d s3 ⟨z,H3,I3,r3,k,e,q3⟩=>?_)) hm
 subst e
 cases r3
 refine yn ?_
 cases k with
 |false =>
  obtain⟨k',e',q'⟩:=q3
  cases e'
  exact ite_ff ⟨H3,I3,q'⟩
 |true =>
  refine ite_tt (test_last (bt (hc pins s3 σ H3 _ I3 q3) fun w' s4 ⟨z',H4,I4,r4,q4⟩=>bt (wM pins s4 σ H4 y z' u w' _ I4 r2 r4 q4) fun d' s5 ⟨z2,H5,I5,r5,k2,e2,q5⟩=>?_))
  subst e2
  cases r5
  exact yn ⟨H5,I5,q5⟩
theorem oh:(sizeLine:Nat)<2 ^ 63:=by rw[yx];decide
theorem wU:fO X (binaryOp .Add) (fun x y H Q=>∃i j,x=.str i∧y=.str j∧i.length+j.length≤sizeLine∧Q (.str (i++j)) H):=by
 intro pins s σ H x y v u Q I rx ry h
 obtain⟨i,j,rfl,rfl,hz,q⟩:=h
 obtain⟨t,rfl⟩:=rx
 obtain⟨t',rfl⟩:=ry
 exact add_str (fun t' tk=>⟨.str (i++j),H,I.tok _,⟨_,rfl⟩,q⟩) hz
theorem vals1(r:Vals [x] us):∃u,us=[u]∧RelV x u:=by
 cases r with
 |cons r1 r2=>cases r2;exact⟨_,rfl,r1⟩
theorem vals2(r:Vals [x,y] us):∃u w',us=[u,w']∧RelV x u∧RelV y w':=by
 cases r with
 |cons r1 r2 =>
  cases r2 with
  |cons r3 r4=>cases r4;exact⟨_,_,rfl,r1,r3⟩
theorem q_:fz X (.type "int") (fun xs H Q=>(∃i,xs=[.int i]∧Q (.int i) H)∨∃k,xs=[.bl k]∧Q (.int (if k then 1 else 0)) H):=by
 intro pins s σ H xs us Q I r h
 rcases h with ⟨i,rfl,q⟩|⟨k,rfl,q⟩
 ·obtain⟨u,rfl,t,rfl⟩:=vals1 r
  exact call_int_int ⟨.int i,H,I,⟨_,rfl⟩,q⟩
 ·obtain⟨u,rfl,r1⟩:=vals1 r
  cases r1
  exact call_int_bool ⟨.int (if k then 1 else 0),H,I.tok _,⟨_,rfl⟩,q⟩
def QB(K:Frag)(x:V)(H:Hp)(n:Nat):Prop :=
 match x with
 |.str y=>y.length≤sizeLine∧n=y.length
 |.A3 y=>y.size≤sizeLine∧n=y.size
 |.ref p=>(∃xs,jN K H p xs∧n=xs.length)∨∃xs,iq K H p xs∧n=xs.length
 |_=>False
theorem iu:fz X (.builtin "len") (fun xs H Q=>∃x n,xs=[x]∧QB X.K x H n∧Q (.int n) H):=by
 intro pins s σ H xs us Q I r h
 obtain⟨x,n,rfl,e,q⟩:=h
 obtain⟨u,rfl,rx⟩:=vals1 r
 have hl:=oh
 have hs:sizeLine=16777216:=yx
 cases x with
 |str y =>
  obtain⟨t,rfl⟩:=rx
  obtain⟨hy,e'⟩:y.length≤sizeLine∧n=y.length:=e
  subst e'
  exact len_str (by lia) ⟨.int _,H,I.tok _,⟨_,rfl⟩,q⟩
 |A3 y =>
  obtain⟨t,rfl⟩:=rx
  obtain⟨hy,e'⟩:y.size≤sizeLine∧n=y.size:=e
  subst e'
  exact PySem.W.len_bytes (by lia) ⟨.int _,H,I.tok _,⟨_,rfl⟩,q⟩
 |ref p =>
  cases rx
  have e':(∃xs,jN X.K H p xs∧n=xs.length)∨∃xs,iq X.K H p xs∧n=xs.length:=e
  rcases e' with ⟨xs,hx,e'⟩|⟨xs,hx,e'⟩
  ·subst e'
   obtain⟨ao,r',pl,hz⟩:=I.list hx
   have hlen:=r'.length
   exact Calls.call_len_list pl.isList (by simp only [zw];lia) ⟨.int xs.length,H,I.tok _,⟨_,by simp only [zw];rw[hlen]⟩,q⟩
  ·subst e'
   obtain⟨ao,r',pl,hz⟩:=I.tuple hx
   have hlen:=r'.length
   exact len_tuple pl (by simp only [zw];lia) ⟨.int xs.length,H,I.tok _,⟨_,by simp only [zw];rw[hlen]⟩,q⟩
 |_=>exact (show False from e).elim
end
structure Jx(h:Heap)(x dx C:Addr)(mA:Str→Option Value):Prop where
 obj:h.get? x=some (instObj C dx)
 ns:h.Ns1 dx mA
 ne:dx≠x
theorem Bc{h:Heap}{dx:Addr}{mA:Str→Option Value}(n:h.Ns1 dx mA):∃od,h.get? dx=some od∧∀name,lookIn name od=some (mA name):=by
 obtain⟨o,es,ep,ho,hd,hk,_,hm⟩:=n
 refine⟨o,ho,fun name=>?_⟩
 have e:=hm name
 unfold nsFind findBy at e
 rw[← Array.find?_toList] at e
 unfold lookIn
 rw[hd]
 dsimp only
 split
 ·rename_i y q
  rw[q] at e
  exact congrArg some e
 ·rename_i q
  rw[q] at e
  have a:es.toList.any (·.refKey)=false:=by
   rw[List.any_eq_false]
   intro y hy
   obtain⟨z,t,Jy⟩:=hk y (Array.mem_toList_iff.mp hy)
   simp [DictEntry.refKey,Jy]
  have a':¬ es.toList.any (·.refKey)=true:=by rw[a];exact zm
  rw[if_neg a']
  exact congrArg some e
theorem Jx.look(I:Jx h x dx C mA):∃od,PySem.W.InstAt h x (instObj C dx) C (some od)∧∀name,lookIn name od=some (mA name) :=
 let ⟨od,ho,hl⟩:=Bc I.ns
 ⟨od,⟨I.obj,rfl,rfl,ho⟩,hl⟩
section
variable{prog:Program}{w:World}{A:Around}{E:Value→Shared→Prop}{s:Shared}{K:Frag}{x dx C f:Addr}{mA:Str→Option Value}{name:Str}{v:Value}
end
theorem lI.some_of(r:lI (some v) o):∃u,o=some u∧RelV v u:=by
 cases o with
 |none=>exact (show False from r).elim
 |some u=>exact⟨u,rfl,r⟩
section
variable{P:Program}{w:World}{H H':Hp}{h h':Heap}{a C dx:Addr}{fs UP:List (Str×V)}
theorem FV(aQ:kc P w H h)(e:H a=some (.ins C dx fs)):∃mA,Jx h a dx C mA∧(∀f,lI (fs.lookup f) (mA f))∧PySem.Within mA (fs.map (·.1))∧fs.length≤1000∧H dx=some (.own a):=by
 obtain⟨d,z,ne,ob,mA,n,r,q⟩:=(show aV P w H h a (.ins C dx fs) from aQ a _ e)
 exact⟨mA,⟨ob,n,ne⟩,r,q,z,d⟩
end
structure QC(K:Frag)(C:Addr):Prop where
 pg:plainGet K C Str.empty=true
 hd:PySem.W.hasDictIn K C=true
 po:PySem.W.plainOver K C=true
 sa:findIn K (.ref C) "__setattr__" = some (some (.builtin "object.__setattr__"))
theorem QC.get{K:Frag}{C:Addr}(c:QC K C)(f:Str):plainGet K C f=true:=c.pg
structure X8(K:Frag)(C:Addr)(f:Str)(v:V)(u:Value):Prop where
 at_:findIn K (.ref C) f=some (some u)
 rel:RelV v u
 get:specialIn K u "__get__" = some none
 cp:PySem.W.copiedNames.contains f=false
structure Meth(K:Frag)(C:Addr)(m:Str)(f:Addr):Prop where
 at_:findIn K (.ref C) m=some (some (.ref f))
 fn:isFn K (.ref f)=true
 kp:keepIn K (.ref f)=true
section
variable{X:Cx}{pins:List (Addr×Obj)}{σ:St}{H:Hp}{s:Shared}{a C dx:Addr}{fs:List (Str×V)}{f:Str}{v:V}{A:Around}{E:Value→Shared→Prop}
end
section
variable{X:Cx}{o e value:Expr}{f:Str}{pos pos' QD:Pos}{ta tv:TE}
end
section
variable{X:Cx}{pins:List (Addr×Obj)}{σ:St}{H:Hp}{s:Shared}{A:Around}{E:Value→Shared→Prop}{Q:Value→Shared→Prop}{c:Value}{b:Bool}
inductive lM (K:Frag) (H:Hp):V→Value→Prop where
 |aC:lM K H .aC (.type "NoneType")
 |bl (x:Bool):lM K H (.bl x) (.type "bool")
 |int (i:Int):lM K H (.int i) (.type "int")
 |str (x:Str):lM K H (.str x) (.type "str")
 |Lq (x:UInt64):lM K H (.Lq x) (.type "float")
 |lst {a:Addr}{xs:List V} (e:H a=some (.lst xs)):lM K H (.ref a) (.type "list")
 |lJ {a:Addr}{o:Obj}{xs:List V} (e:H a=some (.lJ o (.lst xs))):lM K H (.ref a) (.type "list")
 |tup {a:Addr}{xs:List V} (e:H a=some (.tup xs)):lM K H (.ref a) (.type "tuple")
 |dK {a:Addr}{kvs:List (Key×V)} (e:H a=some (.dK kvs)):lM K H (.ref a) (.type "dict")
 |dT {a:Addr}{kvs:List (List Key×V)} (e:H a=some (.dT kvs)):lM K H (.ref a) (.type "dict")
 |ins {a C dx:Addr}{fs:List (Str×V)} (e:H a=some (.ins C dx fs)) (cl:QC K C) (ha:findIn K (.ref C) "__class__" = some (some (.builtin "object.__class__")))
   (hn:specialIn K (.builtin "object.__class__") "__get__" = some (some (.builtin "getset_descriptor.__get__"))) (TF:PySem.W.takesIn K (.builtin "object.__class__")=some true)
   (hm:mroIn K C (.type "object")=some true):lM K H (.ref a) (.ref C)
theorem Bd(I:Inv X pins σ H s)(rx:RelV x u)(ty:lM X.K H x t)(e:kitOne X.K t c=some b)(h:∀tk,Q (.bool b) { s with toks:=tk }) :
  wpAny (model X.prog X.w) A (call (.builtin "isinstance") [u,c]) Q E s:=by
 cases ty with
 |aC=>cases (show u=Value.none from rx);exact kia_one PySem.W.kitx_none I.sh True.intro e (fun z=>nomatch z) h
 |bl y=>cases (show u=Value.bool y from rx);exact kia_one PySem.W.kitx_bool I.sh True.intro e (fun z=>nomatch z) h
 |int i=>obtain⟨t,q⟩:=(show ∃t,u=Value.int i t from rx);cases q;exact kia_one kitx_int I.sh True.intro e (fun z=>nomatch z) h
 |str y=>obtain⟨t,q⟩:=(show ∃t,u=Value.str y t from rx);cases q;exact kia_one kitx_str I.sh True.intro e (fun z=>nomatch z) h
 |Lq y=>obtain⟨t,q⟩:=(show ∃t,u=Value.float y t from rx);cases q;exact kia_one PySem.W.kitx_float I.sh True.intro e (fun z=>nomatch z) h
 |@lst a xs ea =>
  cases (show u=Value.ref a from rx)
  obtain⟨_,_,n,_,h1⟩:=(show aV X.prog X.w H s.heap a (.lst xs) from I.aQ a _ ea)
  exact kia_one kitx_list I.sh ⟨_,h1,rfl⟩ e (fun z=>nomatch z) h
 |@lJ a ob xs ea =>
  cases (show u=Value.ref a from rx)
  obtain⟨_,_,_,n,_,h1⟩:=(show aV X.prog X.w H s.heap a (.lJ ob (.lst xs)) from I.aQ a _ ea)
  exact kia_one kitx_list I.sh ⟨_,h1,rfl⟩ e (fun z=>nomatch z) h
 |@tup a xs ea =>
  cases (show u=Value.ref a from rx)
  obtain⟨_,_,_,p⟩:=(show aV X.prog X.w H s.heap a (.tup xs) from I.aQ a _ ea)
  obtain⟨o,h1,h2,_⟩:=p
  exact kia_one PySem.W.kitx_tuple I.sh ⟨o,h1,h2⟩ e (fun z=>nomatch z) h
 |@dK a kvs ea =>
  cases (show u=Value.ref a from rx)
  obtain⟨_,_,vs,_,p⟩:=(show aV X.prog X.w H s.heap a (.dK kvs) from I.aQ a _ ea)
  obtain⟨o,es,ep,h1,h2,_⟩:=p
  exact kia_one PySem.W.kitx_dict I.sh ⟨o,h1,h2.1⟩ e (fun z=>nomatch z) h
 |@dT a kvs ea=>exact False.elim (show aV X.prog X.w H s.heap a (.dT kvs) from I.aQ a _ ea)
 |@ins a C dx fs ea cl ha hn TF hm =>
  cases (show u=Value.ref a from rx)
  obtain⟨mA,O,_⟩:=FV I.aQ ea
  obtain⟨od,J,_⟩:=O.look
  exact kia_one (PySem.W.kitx_own (cl.get _) cl.hd ha hn TF hm) I.sh J e (fun z=>nomatch z) h
end
structure fZ(k:Nat)(A:Around):Prop where
 hd:A.handled=none
 dp:A.depth+3 * k+5<recursionLimit
 un:A.units+16 * k+200<cLine
theorem fZ.mono(r:fZ k A)(h:j≤k):fZ j A:=⟨r.hd,by have:=r.dp;lia,by have:=r.un;lia⟩
theorem fZ.deeper(r:fZ (k+1) A)(env:Env):fZ k (A.deeper env) :=
 ⟨r.hd,by have:=r.dp;show A.depth+1+3 * k+5<_;lia,by have:=r.un;show A.units+3+16 * k+200<_;lia⟩
theorem fZ.depth(r:fZ k A):A.depth<recursionLimit:=by have:=r.dp;lia
theorem fZ.units(r:fZ k A):A.units+64<cLine:=by have:=r.un;lia
def QE:TA:=fun _ H Q=>Q [] H
def HR(ta:TE)(tr:TA):TA:=fun σ H Q=>ta σ H fun x H1=>tr σ H1 fun xs H2=>Q (x::xs) H2
section
variable{X:Cx}{e:Expr}{es:List Expr}{te:TE}{t:TA}{pos:Pos}
theorem wV:PA X [] QE:=fun _ _ _ _ H Q I h=>Calls.spliced_nil ⟨[],H,I,.nil,h⟩
theorem FW(ha:PE X e te)(hr:PA X es t)(hs:starEach (e::es) X.env=(false,eval e X.env)::starEach es X.env:=by rfl):PA X (e::es) (HR te t):=by
 intro pos pins s σ H Q I h
 rw[hs]
 show wpAny _ _ (spliced ((false,eval e X.env)::backTo pos (starEach es X.env))) _ _ s
 refine Calls.spliced_cons (bt (ha pins s σ H _ I h) fun u s1 ⟨x,H1,I1,r1,q1⟩=>?_)
 exact bt (hr pos pins s1 σ H1 _ I1 q1) <| by rintro us s2 ⟨xs,H2,I2,r2,q2⟩;exact⟨x::xs,H2,I2,.cons r1 r2,q2⟩
def QF(t:TA):TE:=fun σ H Q=>t σ H fun xs H1=>xs.length≤sizeLine∧∀p,H1 p=none→Q (.ref p) (upd H1 p (.tup xs))
def QG(t:TA):TE:=fun σ H Q=>t σ H fun xs H1=>xs.length≤sizeLine∧∀p,H1 p=none→Q (.ref p) (upd H1 p (.lst xs))
theorem Jz{x1}(h:PA X es t):PE X (.Tuple es x1 pos) (QF t):=by
 intro pins s σ H Q I hq
 refine wpAny_Tuple_spliced (bt (h pos pins s σ H _ I hq) fun us s1 ⟨xs,H1,I1,r,z,q⟩=>⟨by rw[← r.length];exact z,?_⟩)
 have hf:H1 s1.heap.objs.size=none:=I1.aQ.fresh (zh _)
 refine⟨.ref s1.heap.objs.size,upd H1 s1.heap.objs.size (.tup xs),I1.laid (t':=s1.toks) (fun b u e=>zd _ e) (zh _) ?_,rfl,q _ hf⟩
 exact⟨z,us,r,⟨_,zB _ rfl,rfl,rfl,_,rfl⟩⟩
theorem JA(h:PA X es t):PE X (.List es pos) (QG t):=by
 intro pins s σ H Q I hq
 refine wpAny_List_spliced (bt (h pos pins s σ H _ I hq) fun us s1 ⟨xs,H1,I1,r,z,q⟩=>⟨by rw[← r.length];exact z,?_⟩)
 have hf:H1 s1.heap.objs.size=none:=I1.aQ.fresh (zh _)
 refine⟨.ref s1.heap.objs.size,upd H1 s1.heap.objs.size (.lst xs),I1.laid (t':=s1.toks) (fun b u e=>zd _ e) (zh _) ?_,rfl,q _ hf⟩
 exact⟨z,us,0,r,zB _ rfl⟩
end
abbrev Sp:=List V→Hp→VK→XK→Prop
abbrev wW:=List Env→Hp→Shared→XK→Value→Shared→Prop
structure C2(P:Program)(w:World)(K:Frag)(mg:Str→Option Value)(base:Heap)(A:Around)(outer:List Env)(s:Shared)(H:Hp):Prop where
 frames:A.frames=some outer
 mod:Mod K mg base
 bs:∀b o,base.get? b=some o→s.heap.get? b=some o∧H b=none
 IW:base.objs.size≤s.heap.objs.size
 nY:s.heap.FunFrames base outer
 Lv:∀b∈m_ outer,H b=none
 aQ:kc P w H s.heap
 bare:AllBare s.gens
def CE(outer:List Env)(P:Program)(w:World)(H:Hp)(s:Shared)(Q:VK)(u:Value)(s':Shared):Prop :=
 ∃v H',s'.os=s.os∧AllBare s'.gens∧Un (m_ outer) [] H H' s.heap s'.heap∧kc P w H' s'.heap∧RelV v u∧Q v H'
def CR(CX:wW)(outer:List Env)(P:Program)(w:World)(H:Hp)(s:Shared)(Q:VK)(E:XK)(r:Result)(s':Shared):Prop :=
 match r with
 |.ok (.ret u)=>CE outer P w H s Q u s'
 |.ok _=>False
 |.error e=>CX outer H s E e s'
structure cM(P:Program)(w:World)(K:Frag)(mg:Str→Option Value)(base:Heap)(CX:wW)(k:Nat)(f:Addr)(fd:FuncData)(ps:List Str)(sp:Sp):Prop where
 len:∀vs H Q E,sp vs H Q E→vs.length=ps.length
 run:∀(A:Around) (outer:List Env) (s:Shared) (H:Hp) (args:Args) (us:List Value) (vs:List V) (Q:VK) (E:XK),fZ k A→C2 P w K mg base A outer s H→BindsTo s fd args (ps.zip us)→Vals vs us→sp vs H Q E →
  codeAny (model P w) A (.call (.ref f) args) (CR CX outer P w H s Q E) s
theorem cM.mono{P:Program}{w:World}{K:Frag}{mg:Str→Option Value}{base:Heap}{CX:wW}{j k:Nat}{f:Addr}{fd:FuncData}{ps:List Str}{sp:Sp}(F:cM P w K mg base CX j f fd ps sp)(h:j≤k) :
  cM P w K mg base CX k f fd ps sp:=⟨F.len,fun A outer s H args us vs Q E hr=>F.run A outer s H args us vs Q E (hr.mono h)⟩
theorem cM.imp{P:Program}{w:World}{K:Frag}{mg:Str→Option Value}{base:Heap}{CX:wW}{k:Nat}{f:Addr}{fd:FuncData}{ps:List Str}{sp Pj:Sp}(F:cM P w K mg base CX k f fd ps sp)
  (h:∀vs H Q E,Pj vs H Q E→sp vs H Q E):cM P w K mg base CX k f fd ps Pj :=
 ⟨fun vs H Q E q=>F.len vs H Q E (h _ _ _ _ q),fun A outer s H args us vs Q E hr he hb hv hs=>F.run A outer s H args us vs Q E hr he hb hv (h _ _ _ _ hs)⟩
section
variable{X:Cx}{pins:List (Addr×Obj)}{σ:St}{H:Hp}{s s':Shared}
theorem Inv.QH(I:Inv X pins σ H s):C2 X.prog X.w X.K X.mg X.base X.A X.stack s H :=
 ⟨I.ok.frames,I.ok.mod,I.bs,zt I.ok.IW I.sz,I.stack,I.sj,I.aQ,I.bare⟩
theorem Inv.after(I:Inv X pins σ H s)(h:CE X.stack X.prog X.w H s Q u s'):EP X pins σ Q u s':=by
 obtain⟨v,H',os,bare,un,aQ,r,q⟩:=h
 obtain⟨hh,g,d,t,Mw⟩:=s'
 obtain rfl:Mw=s.os:=os
 exact⟨v,H',I.call (h':=hh) (g':=g) (d':=d) (t':=t) (ch:=[]) un aQ bare (fun b z=>absurd z (by simp)),r,q⟩
end
def Binds(K:Frag)(fd:FuncData)(ps:List Str)(ds:List Value):Prop :=
 ∀(s:Shared) (us:List Value),K.In s.heap→(us++ds).length=ps.length→BindsTo s fd ⟨us,[]⟩ (ps.zip (us++ds))
theorem Binds.all{K:Frag}{fd:FuncData}{ps:List Str}(h:∀us:List Value,us.length=ps.length→bindArgs fd ⟨us,[]⟩=pure (ps.zip us)):Binds K fd ps []:=fun s us _ hl=>by
 rw[zR] at hl ⊢
 exact .of_eq (h us hl)
def Passes(CX:wW)(X:Cx)(E:XK):Prop:=∀(pins:List (Addr×Obj)) (σ:St) (H:Hp) (s:Shared) (e:Value) (s':Shared),Inv X pins σ H s→CX X.stack H s E e s'→X.xe e s'
section
variable{X:Cx}{CX:wW}{k:Nat}{f C:Addr}{fd:FuncData}{ps:List Str}{sp:Sp}{Be:List V}{ds:List Value}{E:XK}{x m:Str}{p pos apos:Pos}{e o:Expr}{es:List Expr}{ta:TE}{t:TA}
structure Mk(K:Frag)(C f:Addr):Prop where
 makes:PySem.W.makesIn K C=true
 init:findIn K (.ref C) "__init__" = some (some (.ref f))
 fn:isFn K (.ref f)=true
 kp:keepIn K (.ref C)=true
end
section
variable{X:Cx}{CX:wW}{k:Nat}{f C:Addr}{fd:FuncData}{ps ks:List Str}{sp:Sp}{E:XK}{x m:Str}{p pos apos U3:Pos}{e o:Expr}{es:List Expr}{X9:List Keyword}{te ta:TE}{t tk:TA}{nm:Option Str}
structure QI(K:Frag)(fd:FuncData)(ps ks:List Str)(g:List Value→List Value→List Value)(gV:List V→List V→List V):Prop where
 to:∀(s:Shared) (us ws:List Value),K.In s.heap→(g us ws).length=ps.length→BindsTo s fd ⟨us,ks.zip ws⟩ (ps.zip (g us ws))
 rel:∀{vs:List V}{us:List Value}{zs:List V}{ws:List Value},Vals vs us→Vals zs ws→Vals (gV vs zs) (g us ws)
variable{g:List Value→List Value→List Value}{gV:List V→List V→List V}
end
structure ag(N P:List Str)(sc:Scope):Prop where
 kind:sc.kind=.function
 co:sc.isCoroutine=false
 gen:sc.isGenerator=false
 nd:N.Nodup
 pre:N.take P.length=P
 par:∀x∈P,sc.names.lookup x=some .local∨sc.names.lookup x=some .cell
 JB:∀y∈sc.names,y.2≠.free
theorem rf{kindOf:Str→Option NameKind}{x:Str} : ∀{binds:List (Str×Value)}{m:Str→Option Value},(∀v,(x,v)∉binds)→bindL kindOf binds m x=m x
 |[],_,_=>rfl
 | (n,v)::r,m,h=>by
  unfold bindL
  rw[rf fun w hw=>h w (zl _ hw)]
  split
  ·have:x≠n:=by rintro rfl;exact h v zj
   simp [this]
  ·rfl
theorem rg{kindOf:Str→Option NameKind}{x:Str} : ∀{binds:List (Str×Value)}{m:Str→Option Value},(∀v,(x,v)∉binds)→bindC kindOf binds m x=m x
 |[],_,_=>rfl
 | (n,v)::r,m,h=>by
  unfold bindC
  rw[rg fun w hw=>h w (zl _ hw)]
  split
  ·rfl
  ·have:x≠n:=by rintro rfl;exact h v zj
   simp [this]
theorem rh{kindOf:Str→Option NameKind}{x:Str}{v:Value} : ∀{P:List Str}{vs:List Value}{i:Nat}{m:Str→Option Value},P.Nodup→P[i]?=some x→vs[i]?=some v→kindOf x=some .local →
  bindL kindOf (P.zip vs) m x=some v
 |[],_,_,_,_,h,_,_=>by simp at h
 |_::_,[],_,_,_,_,h,_=>by simp at h
 |p::P,w::vs,0,m,nd,h1,h2,hk=>by
  simp at h1 h2;subst h1;subst h2
  show bindL kindOf ((p,w)::P.zip vs) m p=_
  unfold bindL
  rw[rf fun v hv=>(yi.mp nd).1 (List.of_mem_zip hv).1,if_pos hk]
  simp
 |p::P,w::vs,i+1,m,nd,h1,h2,hk=>by
  show bindL kindOf ((p,w)::P.zip vs) m x=_
  unfold bindL
  exact rh (i:=i) (yi.mp nd).2 (by simpa using h1) (by simpa using h2) hk
theorem rj{kindOf:Str→Option NameKind}{x:Str}{v:Value} : ∀{P:List Str}{vs:List Value}{i:Nat}{m:Str→Option Value},P.Nodup→P[i]?=some x→vs[i]?=some v→kindOf x≠some .local →
  bindC kindOf (P.zip vs) m x=some v
 |[],_,_,_,_,h,_,_=>by simp at h
 |_::_,[],_,_,_,_,h,_=>by simp at h
 |p::P,w::vs,0,m,nd,h1,h2,hk=>by
  simp at h1 h2;subst h1;subst h2
  show bindC kindOf ((p,w)::P.zip vs) m p=_
  unfold bindC
  rw[rg fun v hv=>(yi.mp nd).1 (List.of_mem_zip hv).1,if_neg hk]
  simp
 |p::P,w::vs,i+1,m,nd,h1,h2,hk=>by
  show bindC kindOf ((p,w)::P.zip vs) m x=_
  unfold bindC
  exact rj (i:=i) (yi.mp nd).2 (by simpa using h1) (by simpa using h2) hk
def start(N:List Str)(vs:List V):St:=vs.map some++List.replicate (N.length - vs.length) none
def nc(CX:wW)(P:Program)(w:World)(K:Frag)(mg:Str→Option Value)(base:Heap)(N:List Str)(qual:Str)(scope:Scope)(f:Addr)(cd:Value)(A:Around)(outer:List Env)(s:Shared)(H:Hp)(E:XK):Cx where
 prog:=P
 w:=w
 K:=K
 mg:=mg
 base:=base
 A:=A.deeper (envOfC qual scope s.heap.objs.size f cd)
 N:=N
 cV:=s
 uD:=H
 env:=envOfC qual scope s.heap.objs.size f cd
 outer:=outer
 stack:=envOfC qual scope s.heap.objs.size f cd::outer
 ex:=[]
 calm:=true
 fn:=fun _=>true
 pn:=[]
 xe:=fun e s'=>wpAny (model P w) (A.deeper (envOfC qual scope s.heap.objs.size f cd)) (leaving (envOfC qual scope s.heap.objs.size f cd) e) (fun _ Bf=>CX outer H s E e Bf) (fun e' Bf=>CX outer H s E e' Bf) s'
theorem uI{sc:Scope}{n:Nat}{x:Str}(h:sc.names.lookup x=some .cell):∃c,(cellsFrom n sc.names []).lookup x=some c:=by
 have q:=PySem.W.cellsFrom_some sc.names n [] (.inl h)
 exact Option.isSome_iff_exists.mp q
theorem Bg{CX:wW}{P:Program}{w:World}{K:Frag}{mg:Str→Option Value}{base:Heap}{N ps:List Str}{qual:Str}{scope:Scope}{f:Addr}{cd:Value}{A:Around}{outer:List Env}{s s1:Shared}{H:Hp}{E:XK}{us:List Value}{vs:List V}
  (S:ag N ps scope) (hd:A.handled=none) (e0:C2 P w K mg base A outer s H) (hl:vs.length=ps.length) (r:Vals vs us)
  (x:InCallC s s.heap.objs.size (bindL (envOfC qual scope s.heap.objs.size f cd).kindOf (ps.zip us) fun _=>none) (cellsFrom (s.heap.objs.size+1) scope.names []) (bindC (envOfC qual scope s.heap.objs.size f cd).kindOf (ps.zip us) fun _=>none) s1) :
  Inv (nc CX P w K mg base N qual scope f cd A outer s H E) [] (start N vs) H s1:=by
 have rk:ps.length≤N.length:=by have:=congrArg List.length S.pre;rw[yj] at this;lia
 obtain⟨h1,tk,rfl,hk⟩:=x.done
 have Mx:∀b:Addr,b∉(nc CX P w K mg base N qual scope f cd A outer s H E).ex:=fun b z=>absurd (show b∈([]:List Addr) from z) (by simp)
 refine⟨⟨e0.mod,S.kind,rfl,rfl,zh _,fun y z c h1 h2=>?_,fun y hy=>?_,fun y c _ h=>?_,fun _=>hd,Around.frames_deeper e0.frames,.inr ⟨rfl,rfl⟩,fun b z=>absurd z (Mx b),e0.bs,e0.IW,fun b _ _=>Mx b,fun b z=>absurd z (Mx b),e0.nY,e0.Lv⟩,
  rfl,e0.bare,Un.kept hk,⟨_,x.toInCall.ns,fun i y v h1 h2 h3=>?_⟩,fun y c h=>⟨_,x.cell y c h⟩,e0.aQ.fresh (zh _),fun y c h=>?_,fun p hp=>absurd (show p∈([]:List (Addr×Obj)) from hp) (by simp),e0.aQ.kept hk,?_⟩
 ·exact name_of_addr x.apart (yo h1) (yo h2)
 ·have hy:scope.names.lookup y=some .cell∨scope.names.lookup y=some .free:=hy
  rcases hy with hy|hy
  ·exact uI hy
  ·exact absurd rfl (S.JB _ (yo hy))
 ·exact Nat.le_of_lt (x.above y c (yo h))
 ·have hi:i<vs.length:=by
   unfold start at h2
   by_cases hi:i<vs.length
   ·exact hi
   ·rw[List.getElem?_append_right (by simpa using hi)] at h2
    rw[List.getElem?_replicate] at h2
    split at h2 <;> cases h2
  have ha:vs[i]?=some v:=by
   unfold start at h2
   rw[List.getElem?_append_left (by simpa using hi),zV] at h2
   cases e:vs[i]? with
   |none=>rw[e] at h2;cases h2
   |some a=>rw[e] at h2;cases h2;rfl
  obtain⟨u,hu,rv⟩:=r.get ha
  have hp:ps[i]?=some y:=by
   rw[← S.pre,List.getElem?_take_of_lt (by lia)];exact h1
  have TH:ps.Nodup:=by rw[← S.pre];exact S.nd.sublist (List.take_sublist _ _)
  refine⟨u,rv,?_⟩
  rcases S.par y (zN hp) with k|k
  ·exact .inl ⟨k,rh TH hp hu k⟩
  ·obtain⟨c,e⟩:=uI (n:=s.heap.objs.size+1) k
   refine .inr ⟨.inl k,c,e,?_⟩
   have q:=x.cell y c e
   rw[rj TH hp hu (by show scope.names.lookup y≠_;rw[k];decide)] at q
   exact q
 ·exact e0.aQ.fresh (Nat.le_of_lt (x.above y c (yo h)))
 ·unfold start
  show _=N.length
  rw[zo,za,List.length_replicate]
  lia
theorem Mz{CX:wW}{P:Program}{w:World}{K:Frag}{mg:Str→Option Value}{base:Heap}{k:Nat}{f:Addr}{name qual:Str}{params:Arguments}{body:List Stmt}{scope:Scope}{dV kV doc pm cn ct oc:Value}{an od:Option Addr}
  {LA:Array (Option Value)}{N ps:List Str}{sp:Sp} (lk:K.lookup f=some ⟨oc,od,.func (fnOf name qual params body scope dV kV doc pm an cn ct),LA⟩) (Fy:codeIn K cn qual=true) (S:ag N ps scope)
  (len:∀vs H Q E,sp vs H Q E→vs.length=ps.length)
  (oi:∀(A:Around) (outer:List Env) (s:Shared) (H:Hp) (vs:List V) (Q:VK) (E:XK),fZ k (A.deeper (envOfC qual scope s.heap.objs.size f cn))→sp vs H Q E →
   ∃t,z_ (nc CX P w K mg base N qual scope f cn A outer s H E) body t∧t { nx:=fun _ H'=>Q .aC H',rt:=Q } (start N vs) H) :
  cM P w K mg base CX (k+1) f (fnOf name qual params body scope dV kV doc pm an cn ct) ps sp:=by
 refine⟨len,fun A outer s H args us vs Q E hr e0 hb r FX=>?_⟩
 have hl:=len _ _ _ _ FX
 have KX:K.In s.heap:=e0.mod.Pa.keeps fun b o e=>(e0.bs b o e).1
 have lim:s.heap.NoLimit:=e0.mod.nolimit.keeps fun b o e=>(e0.bs b o e).1
 have MA:∀y∈ps.zip us,scope.names.lookup y.1=some .local∨(scope.names.lookup y.1=some .cell∧((cellsFrom (s.heap.objs.size+1) scope.names []).lookup y.1).isSome=true):=by
  rintro⟨n,v⟩ hy
  rcases S.par n (List.of_mem_zip hy).1 with q|q
  ·exact .inl q
  ·exact .inr ⟨q,PySem.W.cellsFrom_some _ _ _ (.inl q)⟩
 refine codeAny_call_function hr.depth (KX _ _ lk) rfl S.co S.gen rfl (PySem.W.codeRec_of KX Fy) (hb _ _ _ _ ?_)
 refine wpAny_newFunctionEnv_cells S.kind MA fun env he s1 x=>?_
 subst he
 refine⟨lim.keeps x.toInCall.keep,codeAny_func ?_⟩
 obtain⟨t,ht,hq⟩:=oi A outer s H vs Q E (hr.deeper _) FX
 have I:Inv (nc CX P w K mg base N qual scope f cn A outer s H E) [] (start N vs) H s1:=Bg S hr.hd e0 hl r x
 refine yy (ht [] s1 (start N vs) H _ I hq) (fun fl s' hs=>?_) fun e s' hs=>hs
 have fin:∀{aA:St}{H':Hp}{v:V}{u:Value},Inv (nc CX P w K mg base N qual scope f cn A outer s H E) [] aA H' s'→RelV v u→Q v H'→CE outer P w H s Q u s' :=
  fun {aA H' v u} J rv q=>⟨v,H',J.os,J.bare,J.base,J.aQ,rv,q⟩
 cases fl with
 |ret u =>
  obtain⟨v,aA,H',J,rv,q⟩:=hs
  exact fin J rv q
 |next =>
  obtain⟨aA,H',J,q⟩:=hs
  exact fin (v:=V.aC) (u:=Value.none) J rfl q
 |brk =>
  obtain⟨_,_,_,q⟩:=hs
  exact False.elim q
 |cont =>
  obtain⟨_,_,_,q⟩:=hs
  exact False.elim q
section
variable{X:Cx}{x:Str}{p pos:Pos}{e:Expr}{es:List Expr}{t:TA}{id T:String}{r:List V→Hp→VK→Prop}
def QJ(r:List V→Hp→VK→Prop)(t:TA):TE:=fun σ H Q=>t σ H fun vs H1=>r vs H1 Q
theorem uJ(hc:fz X (.builtin id) r)(hg:Gl X x)(hm:X.mg x=none)(hv:bootBuiltins x=some (.builtin id))(ha:PA X (e::es) t)(hn:x ≠ "__name__" := by decide)(wX:(x == ("__debug__" : Str))=false:=by decide)
  (he:starEach (e::es) X.env=(false,eval e X.env)::starEach es X.env:=by rfl) (rk:(backTo pos (starEach es X.env)).any (·.1)=false:=by rfl):PE X (.Call (.Name x p) (e::es) [] pos) (QJ r t):=by
 intro pins s σ H Q I h
 refine wpAny_Call_Name_kw (jM I hg hm hv ?_ hn wX)
 exact PyProof.Rows.callWith_builtin1 (bt (ha pos pins s σ H _ I h) <| by rintro us s1 ⟨vs,H1,I1,r1,q1⟩;exact hc pins s1 σ H1 vs us Q I1 r1 q1) he rk
theorem rl(hc:fz X (.type T) r)(hg:Gl X x)(hm:X.mg x=none)(hv:bootBuiltins x=some (.type T))(ha:PA X (e::es) t)(hn:x ≠ "__name__" := by decide)(wX:(x == ("__debug__" : Str))=false:=by decide)
  (he:starEach (e::es) X.env=(false,eval e X.env)::starEach es X.env:=by rfl) (rk:(backTo pos (starEach es X.env)).any (·.1)=false:=by rfl):PE X (.Call (.Name x p) (e::es) [] pos) (QJ r t):=by
 intro pins s σ H Q I h
 refine wpAny_Call_Name_kw (jM I hg hm hv ?_ hn wX)
 exact PyProof.Rows.callWith_type1 (bt (ha pos pins s σ H _ I h) <| by rintro us s1 ⟨vs,H1,I1,r1,q1⟩;exact hc pins s1 σ H1 vs us Q I1 r1 q1) he rk
end
end L2
namespace HT
open PySem PyProof.Rows
section
open PySem.SeqAt
open PySem.AutoSeq1 (wpAny_loadPart')
open PySem.MeetsSeq PySem.MeetsSeq2 PySem.MeetsSeq3
end
section
variable{prog:Program}{w:World}{A:Around}{E:Value→Shared→Prop}{s:Shared}
theorem cat_tup(ht:IsTup s.heap t vs.toArray)(hb:IsTup s.heap b ws.toArray)(hv:vs≠[])
  (h1:ws=[]→Q (.ref t) s) (h2:ws≠[]→Q (.ref s.heap.objs.size) { s with heap:=s.heap.push { cls:=.type "tuple",data:=.seq (vs++ws).toArray } })
  (hsz:vs.length+ws.length≤sizeLine):wpAny (model prog w) A (binaryOp .Add (.ref t) (.ref b)) Q E s:=by
 obtain⟨⟨cls,dd,data,sl⟩,ho,hc,n,hd⟩:=id ht
 obtain⟨⟨QK,Pk,data2,C3⟩,JC,MB,n2,hd2⟩:=id hb
 simp only at hc hd MB hd2
 subst hc hd MB hd2
 have e:vs.toArray++ws.toArray=(vs++ws).toArray:=by simp
 by_cases hw:ws=[]
 ·exact concat_meets ⟨_,ho,rfl⟩ ⟨_,JC,rfl⟩ noFill_tuple_add seq_tuple_add PySem.F.slot_tuple_add PySem.F.entry_tuple_add (PySem.F.args_tuple_add_2 _ _)
   (tuple_addW1 t b vs.toArray ws.toArray n n2 dd Pk sl C3 (by simpa using hv) (by simp [hw])) ⟨ho,JC,h1 hw⟩
 ·refine concat_meets ⟨_,ho,rfl⟩ ⟨_,JC,rfl⟩ noFill_tuple_add seq_tuple_add PySem.F.slot_tuple_add PySem.F.entry_tuple_add (PySem.F.args_tuple_add_2 _ _)
   (tuple_addW2 t b vs.toArray ws.toArray n n2 dd Pk sl C3 (by simpa using hv) (by simpa using hw) (by rw[zw,zw];exact hsz)) ⟨ho,JC,?_⟩
  rw[e]
  exact h2 hw
def sIx(n d:Nat):Option Int→Nat
 |none=>d
 |some v=>if v<0 then (v+(n:Int)).toNat else min v.toNat n
theorem sIx_none(n d:Nat):sIx n d none=d:=rfl
theorem sIx_nat(n d k:Nat):sIx n d (some (k:Int))=min k n:=by
 show (if (k:Int)<0 then ((k:Int)+(n:Int)).toNat else min (k:Int).toNat n)=min k n
 rw[if_neg (by lia),Int.toNat_natCast]
theorem sIx_le(n d:Nat)(hd:d≤n)(o:Option Int):sIx n d o≤n:=by
 cases o with
 |none=>exact hd
 |some v =>
  show (if v<0 then (v+(n:Int)).toNat else min v.toNat n)≤n
  by_cases hv:v<0
  ·rw[if_pos hv];lia
  ·rw[if_neg hv];exact Nat.min_le_right _ _
theorem clip_eq(v:Int)(n d:Nat):(if v<0 then max (v+(n:Int)) 0 else min v (n:Int))=((sIx n d (some v):Nat):Int):=by
 show (if v<0 then max (v+(n:Int)) 0 else min v (n:Int))=(((if v<0 then (v+(n:Int)).toNat else min v.toNat n):Nat):Int)
 by_cases hv:v<0
 ·simp only [if_pos hv];lia
 ·simp only [if_neg hv];lia
theorem adjust_gen(lo hi:Option Int)(n:Nat):Builtin.Slice.sliceAdjust lo hi 1 (n:Int)=(((sIx n 0 lo:Nat):Int),((sIx n n hi:Nat):Int)):=by
 have h1:¬ ((1:Int)<0):=by lia
 unfold Builtin.Slice.sliceAdjust
 simp only [h1,if_false]
 refine Prod.ext ?_ ?_
 ·cases lo with
  |none=>rfl
  |some v=>exact clip_eq v n 0
 ·cases hi with
  |none=>rfl
  |some v=>exact clip_eq v n n
theorem places_gen(i j:Nat):Builtin.Slice.slicePlaces (i:Int) (j:Int) 1=j - i:=by
 unfold Builtin.Slice.slicePlaces
 have h1:(1:Int)>0:=by lia
 simp only [h1,if_true,Int.ediv_one]
 split <;> lia
theorem slicePart_(p:IsPart v o)(h:Q o s):wpAny (model prog w) A (Builtin.Slice.slicePartIndex v) Q E s:=by
 cases p with
 |none=>exact slicePart_none h
 |int i t=>exact slicePart_int h
theorem sliceApplied_gen{sl:Addr}{vl vu:Value}{lo hi:Option Int}{n:Nat}{Q:Int×Int×Nat→Shared→Prop}(hs:s.heap.IsSliceOf sl vl vu .none)(pl:IsPart vl lo)(pu:IsPart vu hi)
  (h:Q (((sIx n 0 lo:Nat):Int),1,sIx n n hi - sIx n 0 lo) s):wpAny (model prog w) A (Builtin.Slice.sliceApplied (.ref sl) (pure (n:Int))) Q E s:=by
 obtain⟨os,MC,HS,LB⟩:=id hs
 unfold Builtin.Slice.sliceApplied Builtin.Slice.sliceFields
 refine zc (zc (ym MC LB (x:=vl) rfl (zc (ym MC LB (x:=vu) rfl (zc (ym MC LB (x:=.none) rfl (zx ?_)))))))
 refine zc (slicePart_none ?_)
 show wpAny _ _ (if ((1:Int) == 0)=true then _ else _) _ _ s
 rw[if_neg (by decide)]
 refine zc (slicePart_ pl (zc (slicePart_ pu (zc (zx ?_)))))
 show wpAny _ _ (match Builtin.Slice.sliceAdjust lo hi 1 (n:Int) with|(lo,hi)=>pure (lo,(1:Int),Builtin.Slice.slicePlaces lo hi 1)) _ _ s
 rw[adjust_gen lo hi n]
 show wpAny _ _ (pure (((sIx n 0 lo:Nat):Int),(1:Int),Builtin.Slice.slicePlaces ((sIx n 0 lo:Nat):Int) ((sIx n n hi:Nat):Int) 1)) _ _ s
 rw[places_gen]
 exact zx h
theorem pick_gen(xs:Array Value)(i k:Nat):((List.range k).filterMap fun (m:Nat)=>xs[((i:Int)+(m:Int) * 1).toNat]?).toArray=((xs.toList.drop i).take k).toArray:=by
 have e:(fun (m:Nat)=>xs[((i:Int)+(m:Int) * 1).toNat]?)=fun m=>xs[i+m]?:=by
  funext m
  have:((i:Int)+(m:Int) * 1).toNat=i+m:=by lia
  rw[this]
 rw[e]
 have:=pick_run xs i k
 rw[List.filterMap_map] at this
 have e2:((fun x=>xs[x]?) ∘ fun x=>i+x)=fun m=>xs[i+m]?:=rfl
 rw[e2] at this
 rw[this]
theorem getItem_tuple_cut{t sl:Addr}{items:Array Value}{vl vu:Value}{lo hi:Option Int}{Q:Value→Shared→Prop}(ht:IsTup s.heap t items)(hs:s.heap.IsSliceOf sl vl vu .none)(pl:IsPart vl lo)(pu:IsPart vu hi)
  (hw:¬ (sIx items.size 0 lo=0∧sIx items.size items.size hi=items.size))
  (h:Q (.ref s.heap.objs.size) { s with heap:=s.heap.push { cls:=.type "tuple",data:=.seq ((items.toList.drop (sIx items.size 0 lo)).take (sIx items.size items.size hi - sIx items.size 0 lo)).toArray } })
  (hsz:items.size≤sizeLine):wpAny (model prog w) A (getItem (.ref t) (.ref sl)) Q E s:=by
 have Ai:sizeOk (.seq ((items.toList.drop (sIx items.size 0 lo)).take (sIx items.size items.size hi - sIx items.size 0 lo)).toArray):=by
  show ((items.toList.drop (sIx items.size 0 lo)).take (sIx items.size items.size hi - sIx items.size 0 lo)).toArray.size≤sizeLine
  rw[zw,yj,yk,yc]
  lia
 have hj:sIx items.size items.size hi≤items.size:=sIx_le _ _ (zh _) hi
 obtain⟨os,MC,HS,LB⟩:=id hs
 have U4:s.TypeIs (.ref sl) "slice" := ⟨os,MC,HS⟩
 unfold getItem
 try with_reducible refine yD ?_
 first|refine zc (zx ?_)|skip
 refine zc (wpAny_sequenceKey ht.typeIs (by decide) ?_)
 refine zc (wpAny_callSpecial?_slot (name:=Str.ofString "__getitem__") ht.typeIs PyProof.Rows.slot_tuple_getitem
  (wpAny_call_entry PyProof.Rows.slot_tuple_getitem ht.typeIs entry_tuple_getitem ?_ (args_tuple_getitem _ _)))
 show wpAny _ _ (Builtin.Tuple.tupleItemsOf (.ref t) >>= _) _ _ s
 refine zc (tupleItemsOf_ ht ?_)
 refine zc (wpAny_typeOf U4 ?_)
 rw[if_pos (by decide)]
 refine zc (sliceApplied_gen hs pl pu ?_)
 have FY:¬ ((((sIx items.size 0 lo:Nat):Int) == 0 && (1:Int) == 1 && (sIx items.size items.size hi - sIx items.size 0 lo) == items.size)=true):=by
  intro q
  rw[zg,zg] at q
  have q1:((sIx items.size 0 lo:Nat):Int)=0:=eq_of_beq q.1.1
  have q2:sIx items.size items.size hi - sIx items.size 0 lo=items.size:=eq_of_beq q.2
  exact hw ⟨by lia,by lia⟩
 show wpAny _ _ (if (((sIx items.size 0 lo:Nat):Int) == 0 && (1:Int) == 1 && (sIx items.size items.size hi - sIx items.size 0 lo) == items.size)=true then _ else _) _ _ s
 rw[if_neg FY,pick_gen]
 first
  |exact zc (m:=Builtin.Tuple.tupleExact _) (wpAny_newObj_type (zx ⟨_,rfl,zx h⟩) Ai)
  |exact zc (m:=Builtin.Tuple.tupleExact _) (wpAny_newObj_type (zc (zx (zx ⟨_,rfl,zx h⟩))) Ai)
  |exact zc (zc (m:=Builtin.Tuple.tupleExact _) (wpAny_newObj_type (zx (zx ⟨_,rfl,zx h⟩)) Ai))
  |exact zc (zc (m:=Builtin.Tuple.tupleExact _) (wpAny_newObj_type (zx ⟨_,rfl,zx h⟩) Ai))
end
end HT
namespace L2
open PySem PySem.Spec PyProof.Rows
abbrev TO:=St→Hp→(Option Int→Hp→Prop)→Prop
def PO(X:Cx)(e:Option Expr)(t:TO):Prop :=
 ∀(pins:List (Addr×Obj)) (s:Shared) (σ:St) (H:Hp) (Q:Option Int→Hp→Prop),Inv X pins σ H s→t σ H Q →
  wpAny (model X.prog X.w) X.A (evalPart e X.env) (fun u s'=>∃o H',Inv X pins σ H' s'∧IsPart u o∧Q o H') X.xe s
def FZ:TO:=fun _ H Q=>Q none H
def MD(t:TE):TO:=fun σ H Q=>t σ H fun x H1=>∃i,x=.int i∧Q (some i) H1
section
variable{X:Cx}{e:Expr}{te:TE}{lo hi:Option Expr}{tl th:TO}{pos p2:Pos}
theorem F_:PO X none FZ:=by
 intro pins s σ H Q I h
 rw[evalPart_none]
 exact zx ⟨none,H,I,.none,h⟩
theorem Ga(h:PE X e te):PO X (some e) (MD te):=by
 intro pins s σ H Q I hw
 rw[evalPart_some]
 refine bt (h pins s σ H _ I hw) fun u s1 ⟨x,H1,I1,r1,q1⟩=>?_
 obtain⟨i,rfl,q⟩:=q1
 obtain⟨t,rfl⟩:=r1
 exact⟨some i,H1,I1,.int i t,q⟩
def LC(X:Cx)(r:V→Option Int→Option Int→Hp→VK→Prop):Prop :=
 ∀(pins:List (Addr×Obj)) (s:Shared) (σ:St) (H:Hp) (x:V) (v vl vu:Value) (lo hi:Option Int) (sl:Addr) (Q:VK),Inv X pins σ H s→RelV x v→s.heap.IsSliceOf sl vl vu .none→IsPart vl lo→IsPart vu hi→r x lo hi H Q →
  ∃T id,typeLookup (.type T) "__getitem__" = pure (some (.builtin id))∧s.TypeIs v T∧wpAny (model X.prog X.w) X.A (getItem v (.ref sl)) (EP X pins σ Q) X.xe s
def U5(r:V→Option Int→Option Int→Hp→VK→Prop)(te:TE)(tl th:TO):TE:=fun σ H Q=>te σ H fun x H1=>tl σ H1 fun l H2=>th σ H2 fun u H3=>r x l u H3 Q
theorem C4{r:V→Option Int→Option Int→Hp→VK→Prop}(hr:LC X r)(he:PE X e te)(hl:PO X lo tl)(hu:PO X hi th):PE X (.Subscript e (.Slice lo hi none p2) pos) (U5 r te tl th):=by
 intro pins s σ H Q I h
 refine Subscript_ (bt (he pins s σ H _ I h) fun v s1 ⟨x,H1,I1,r1,q1⟩=>?_)
 refine wpAny_Slice (bt (hl pins s1 σ H1 _ I1 q1) fun vl s2 ⟨l,H2,I2,pl,q2⟩=>bt (hu pins s2 σ H2 _ I2 q2) fun vu s3 ⟨u,H3,I3,pu,q3⟩=>?_)
 rw[evalPart_none]
 refine zx ?_
 have I4:Inv X pins σ H3 { s3 with heap:=s3.heap.push { cls:=.type "slice",data:=.fields #[vl,vu,.none] } }:=I3.kept (t':=s3.toks) fun b ob q=>zd _ q
 obtain⟨T,id,hT,ht,hg⟩:=hr pins { s3 with heap:=s3.heap.push { cls:=.type "slice",data:=.fields #[vl,vu,.none] } } σ H3 x v vl vu l u s3.heap.objs.size Q I4 r1 (Heap.IsSliceOf.new ..) pl pu q3
 show wpAny (model X.prog X.w) X.A (subscriptTail e (.Slice lo hi none p2) v (.ref s3.heap.objs.size)) (EP X pins σ Q) X.xe { s3 with heap:=s3.heap.push { cls:=.type "slice",data:=.fields #[vl,vu,.none] } }
 exact tail_any (ops:=[.ref s3.heap.objs.size,v]) ht hT hg (by with_unfolding_all rfl)
def uK(xs:List V)(lo hi:Option Int):List V:=(xs.drop (HT.sIx xs.length 0 lo)).take (HT.sIx xs.length xs.length hi - HT.sIx xs.length 0 lo)
theorem mK(xs:List V)(lo hi:Option Int):(uK xs lo hi).length≤xs.length:=by
 unfold uK
 rw[yj,yk]
 lia
def QL(K:Frag):V→Option Int→Option Int→Hp→VK→Prop:=fun x lo hi H Q=>∃a xs,x=.ref a∧iq K H a xs ∧
 ¬ (HT.sIx xs.length 0 lo=0∧HT.sIx xs.length xs.length hi=xs.length)∧∀p,H p=none→Q (.ref p) (upd H p (.tup (uK xs lo hi)))
theorem JD:LC X (QL X.K):=by
 intro pins s σ H x v vl vu lo hi sl Q I rx hs pl pu h
 obtain⟨a,xs,rfl,hx,hw,q⟩:=h
 cases rx
 obtain⟨ao,r,ht,hz⟩:=I.tuple hx
 have hlen:ao.toArray.size=xs.length:=by rw[zw];exact r.length.symm
 refine⟨"tuple",_,PyProof.Rows.slot_tuple_getitem.lookup,ht.typeIs,?_⟩
 refine HT.getItem_tuple_cut ht hs pl pu (by rw[hlen];exact hw) ?_ (by rw[hlen];exact hz)
 rw[hlen]
 refine⟨.ref s.heap.objs.size,_,I.laid (t':=s.toks) (o:=.tup (uK xs lo hi)) (fun b ob q=>zd _ q) (zh _) ?_,rfl,q _ (I.aQ.fresh (zh _))⟩
 exact⟨zt (mK xs lo hi) hz,_,(r.drop (HT.sIx xs.length 0 lo)).take (HT.sIx xs.length xs.length hi - HT.sIx xs.length 0 lo),fN.new _ _⟩
def ME(K:Frag):R2:=fun x y H Q=>∃a b xs ys,x=.ref a∧y=.ref b∧iq K H a xs∧iq K H b ys∧xs≠[]∧xs.length+ys.length≤sizeLine ∧
 (ys=[]→Q (.ref a) H)∧(ys≠[]→∀p,H p=none→Q (.ref p) (upd H p (.tup (xs++ys))))
theorem Vals.nP(r:Vals xs us):us=[]↔xs=[]:=by
 cases r with
 |nil=>simp
 |cons _ _=>simp
theorem Gb:fO X (binaryOp .Add) (ME X.K):=by
 intro pins s σ H x y v u Q I rx ry h
 obtain⟨a,b,xs,ys,rfl,rfl,ha,hb,hx,hz,q1,q2⟩:=h
 cases rx
 cases ry
 obtain⟨ao,r1,p1,_⟩:=I.tuple ha
 obtain⟨oj,r2,p2,_⟩:=I.tuple hb
 refine HT.cat_tup p1 p2 (fun z=>hx (r1.nP.mp z)) (fun z=>⟨.ref a,H,I,rfl,q1 (r2.nP.mp z)⟩) (fun z=>?_) (by rw[← r1.length,← r2.length];exact hz)
 refine⟨.ref s.heap.objs.size,_,I.laid (t':=s.toks) (o:=.tup (xs++ys)) (fun b ob q=>zd _ q) (zh _) ?_,rfl,q2 (fun w=>z (r2.nP.mpr w)) _ (I.aQ.fresh (zh _))⟩
 exact⟨by rw[zo];exact hz,_,r1.append r2,fN.new _ _⟩
end
def CD(n:Nat)(i:Int):Option Nat:=if 0≤i then (if i<n then some i.toNat else none) else if -(n:Int)≤i then some (i+n).toNat else none
def jO{α:Type}(xs:List α)(i:Int):Option α:=(CD xs.length i).bind fun j=>xs[j]?
theorem Aj(h:CD n i=some j):seqIndex? i n=some j∧j<n∧-(n:Int)≤i∧i<n:=by
 unfold CD at h
 by_cases h0:0≤i
 ·rw[if_pos h0] at h
  by_cases h1:i<n
  ·rw[if_pos h1] at h
   have e:i.toNat=j:=zS h
   exact⟨by rw[seqIndex_of h0 h1,e],by lia,by lia,h1⟩
  ·rw[if_neg h1] at h;cases h
 ·rw[if_neg h0] at h
  by_cases h1:-(n:Int)≤i
  ·rw[if_pos h1] at h
   have e:(i+n).toNat=j:=zS h
   exact⟨by rw[seqIndex_neg (by lia) h1,e],by lia,h1,by lia⟩
  ·rw[if_neg h1] at h;cases h
theorem su(h:jO xs i=some v):∃j,seqIndex? i xs.length=some j∧xs[j]?=some v∧j<xs.length∧-(xs.length:Int)≤i∧i<xs.length:=by
 unfold jO at h
 cases e:CD xs.length i with
 |none=>rw[e] at h;cases h
 |some j =>
  rw[e] at h
  obtain⟨h1,h2,h3,h4⟩:=Aj e
  exact⟨j,h1,h,h2,h3,h4⟩
theorem kh{α:Type}{xs:List α}{j:Nat}{v:α}(h:xs[j]?=some v):jO xs (j:Int)=some v:=by
 have hj:j<xs.length:=(yd.mp h).1
 have e:CD xs.length (j:Int)=some j:=by
  unfold CD
  rw[if_pos (by lia),if_pos (by lia)];simp
 unfold jO;rw[e];exact h
def Ak(b:Expr):Prop:=∀o i,subscripted b false o i=operate [o,i] (getItem o i)
def MF(X:Cx)(r:R2):Prop :=
 ∀(value slice:Expr) (pins:List (Addr×Obj)) (s:Shared) (σ:St) (H:Hp) (x y:V) (v u:Value) (Q:VK),Inv X pins σ H s→RelV x v→RelV y u→r x y H Q →
  subscripted slice false v u=operate [v,u] (getItem v u)→wpAny (model X.prog X.w) X.A (subscriptTail value slice v u) (EP X pins σ Q) X.xe s
def JE(X:Cx)(id:String)(r:V→List V→Hp→VK→Prop):Prop :=
 ∀(pins:List (Addr×Obj)) (s:Shared) (σ:St) (H:Hp) (x:V) (xs:List V) (v:Value) (us:List Value) (Q:VK),Inv X pins σ H s→RelV x v→Vals xs us→r x xs H Q →
  wpAny (model X.prog X.w) X.A (call (.builtin id) (v::us)) (EP X pins σ Q) X.xe s
section
variable{X:Cx}{a b:Expr}{ta tb:TE}{pos:Pos}
theorem MG(hr:MF X r)(ha:PE X a ta)(hb:PE X b tb)(hs:Ak b):PE X (.Subscript a b pos) (Lz r ta tb):=by
 intro pins s σ H Q I h
 exact Subscript_ (Jp ha hb I h fun v u s2 x y H2 I2 rx ry q=>hr a b pins s2 σ H2 x y v u Q I2 rx ry q (hs _ _))
def QM(K:Frag):R2:=fun x y H Q=>∃p xs i v,x=.ref p∧y=.int i∧jN K H p xs∧jO xs i=some v∧Q v H
def QN(K:Frag):R2:=fun x y H Q=>∃p xs i v,x=.ref p∧y=.int i∧iq K H p xs∧jO xs i=some v∧Q v H
def QO:R2:=fun x y H Q=>∃z i c,x=.str z∧y=.int i∧z.length≤sizeLine∧jO z.cps.toList i=some c∧Q (.str ⟨#[c]⟩) H
theorem Al:MF X (QM X.K):=by
 intro value slice pins s σ H x y v u Q I rx ry h hs
 obtain⟨p,xs,i,z,rfl,rfl,hq,he,q⟩:=h
 cases rx
 obtain⟨t,rfl⟩:=ry
 obtain⟨ao,r,pl,hz⟩:=I.list hq
 obtain⟨j,h1,h2,h3,h4,h5⟩:=su he
 obtain⟨w,ew,uL⟩:=r.get h2
 have hl:=r.length
 have hn:=oh
 have fin:EP X pins σ Q w s:=⟨z,H,I,uL,q⟩
 by_cases h0:0≤i
 ·have hj:i.toNat=j:=by
   rw[seqIndex_of h0 h5] at h1
   exact zS h1
  exact item_listR pl.isList h0 (by lia) (by rw[hj];simpa using ew) fin hs
 ·have hj:(i+(ao.toArray.size:Int)).toNat=j:=by
   rw[seqIndex_neg (by lia) h4] at h1
   rw[zw,← hl]
   exact zS h1
  exact subscriptTail_builtinR (x:=w) pl.isList.typeIs slot_list_getitem.lookup
   (wpAny_getItem_list_neg (Q:=fun r s'=>r=w∧EP X pins σ Q r s') pl.isList (by lia) (by rw[zw] <;> lia) (by lia) (by rw[hj];simpa using ew) ⟨rfl,fin⟩) hs
theorem C5:MF X (QN X.K):=by
 intro value slice pins s σ H x y v u Q I rx ry h hs
 obtain⟨p,xs,i,z,rfl,rfl,hq,he,q⟩:=h
 cases rx
 obtain⟨t,rfl⟩:=ry
 obtain⟨ao,r,pl,hz⟩:=I.tuple hq
 obtain⟨j,h1,h2,h3,h4,h5⟩:=su he
 obtain⟨w,ew,uL⟩:=r.get h2
 have hl:=r.length
 have hn:=oh
 have fin:EP X pins σ Q w s:=⟨z,H,I,uL,q⟩
 exact subscriptTail_builtinR (x:=w) pl.typeIs slot_tuple_getitem.lookup
  (getItem_tuple (j:=j) (Q:=fun r s'=>r=w∧EP X pins σ Q r s') pl (by lia) (by lia) (by rw[zw,← hl];exact h1) (by simpa using ew) ⟨rfl,fin⟩) hs
theorem JF:MF X QO:=by
 intro value slice pins s σ H x y v u Q I rx ry h hs
 obtain⟨z,i,c,rfl,rfl,hz,he,q⟩:=h
 obtain⟨t,rfl⟩:=rx
 obtain⟨t',rfl⟩:=ry
 obtain⟨j,h1,h2,h3,h4,h5⟩:=su he
 have hl:z.cps.toList.length=z.length:=by simp [Str.length]
 rw[hl] at h1 h4 h5
 have hn:=oh
 exact tail_any (typeIs_str s z t) slot_str_getitem.lookup (getItem_str (c:=c) (by
  have e1:decide (i < -(2 ^ 63:Int))=false:=zp (by lia)
  have e2:decide (i≥2 ^ 63)=false:=zp (by lia)
  rw[e1,e2,Bool.or_false]) (by rw[h1];simpa using h2) ⟨.str ⟨#[c]⟩,H,I.tok _,⟨_,rfl⟩,q⟩) hs
theorem wY(ao:List Value)(n j:Nat)(u:Value):Obj.mapSeq (·.setIfInBounds j u) { cls:=.type "list",data:=.seq ao.toArray n }={ cls:=.type "list",data:=.seq (ao.set j u).toArray n }:=by
 simp [Obj.mapSeq]
theorem Inv.lst(I:Inv X pins σ H s)(h:H p=some (.lst xs)) :
  ∃(ao:List Value) (n:Nat),Vals xs ao∧s.heap.get? p=some { cls:=.type "list",data:=.seq ao.toArray n }∧xs.length≤sizeLine:=by
 obtain⟨z,ao,n,r,e⟩:=I.aQ p _ h
 exact⟨ao,n,r,e,z⟩
theorem Inv.JG{pins:List (Addr×Obj)}{σ:St}{H:Hp}{s:Shared}{p:Addr}{xs ys:List V}{ao its':List Value}{n n':Nat}{f:Obj→Obj}(I:Inv X pins σ H s)(h:H p=some (.lst xs))
  (ho:s.heap.get? p=some { cls:=.type "list",data:=.seq ao.toArray n }) (hf:f { cls:=.type "list",data:=.seq ao.toArray n }={ cls:=.type "list",data:=.seq its'.toArray n' }) (r:Vals ys its') (hz:ys.length≤sizeLine) (t:Nat) :
  Inv X pins σ (upd H p (.lst ys)) { s with heap:=s.heap.update p f,toks:=t }:=by
 have e:(s.heap.update p f).get? p=some { cls:=.type "list",data:=.seq its'.toArray n' }:=by
  rw[Heap.get?_update_self f ho (by rw[hf] <;> rfl),hf]
 refine I.write (x:=p) (e:=p) (by rw[h];trivial) (.inl rfl) (fun b u hb q=>(Heap.get?_update_other _ _ (Ne.symm hb)).trans q) ⟨_,e⟩ ?_
 exact⟨hz,its',n',r,e⟩
def MH:V→V→V→Hp→(Hp→Prop)→Prop:=fun o i v H Q=>∃p xs k j,o=.ref p∧i=.int k∧H p=some (.lst xs)∧CD xs.length k=some j∧Q (upd H p (.lst (xs.set j v)))
theorem set_list:Mc X MH:=by
 intro pins s σ H o i v ov iv u Q I ro ri rv h
 obtain⟨p,xs,k,j,rfl,rfl,hp,hj,q⟩:=h
 cases ro
 obtain⟨t,rfl⟩:=ri
 obtain⟨ao,n,r,ho,hz⟩:=I.lst hp
 obtain⟨h1,h2,h3,h4⟩:=Aj hj
 have hl:=r.length
 have hn:=oh
 have I':Inv X pins σ (upd H p (.lst (xs.set j v))) { s with heap:=s.heap.update p (Obj.mapSeq (·.setIfInBounds j u)) } :=
  I.JG hp ho (wY ao n j u) (r.set rv j) (by rw[List.length_set];exact hz) s.toks
 by_cases h0:0≤k
 ·have hk:k.toNat=j:=by
   rw[seqIndex_of h0 h4] at h1
   exact zS h1
  exact PySem.W.ki_setAt ho h0 (by lia) (by rw[zw,← hl];exact h4) (by rw[hk];exact⟨_,I',q⟩)
 ·have hk:(k+(ao.toArray.size:Int)).toNat=j:=by
   rw[seqIndex_neg (by lia) h3] at h1
   rw[zw,← hl]
   exact zS h1
  exact PySem.W.ki_setBack ho (by lia) (by rw[zw,← hl];exact h3) (by lia) (by rw[hk];exact⟨_,I',q⟩)
theorem sx(lo hi:Option Int)(n:Nat):(sliceBounds lo hi none n).1=((HT.sIx n 0 lo:Nat):Int)∧(sliceBounds lo hi none n).2.1=((HT.sIx n n hi:Nat):Int)∧(sliceBounds lo hi none n).2.2=1:=by
 refine⟨?_,?_,rfl⟩
 ·cases lo with
  |none=>simp [sliceBounds,HT.sIx]
  |some i =>
   simp only [sliceBounds,HT.sIx,Option.getD_none,show (1:Int)>0 by decide,if_true]
   by_cases h:i<0
   ·simp only [h,if_true] <;> lia
   ·simp only [h,if_false] <;> lia
 ·cases hi with
  |none=>simp [sliceBounds,HT.sIx]
  |some i =>
   simp only [sliceBounds,HT.sIx,Option.getD_none,show (1:Int)>0 by decide,if_true]
   by_cases h:i<0
   ·simp only [h,if_true] <;> lia
   ·simp only [h,if_false] <;> lia
theorem qt(ao:List Value)(lo hi:Option Int):slicePick ao.toArray lo hi none=((ao.drop (HT.sIx ao.length 0 lo)).take (HT.sIx ao.length ao.length hi - HT.sIx ao.length 0 lo)).toArray:=by
 obtain⟨h1,h2,h3⟩:=sx lo hi ao.toArray.size
 unfold slicePick
 rw[h1,h2,h3]
 simp only [sliceRange_one,pick_run,zw] <;> rfl
def QP(K:Frag):V→Option Int→Option Int→Hp→VK→Prop:=fun x lo hi H Q=>∃a xs,x=.ref a∧jN K H a xs∧∀p,H p=none→Q (.ref p) (upd H p (.lst (uK xs lo hi)))
theorem Am:LC X (QP X.K):=by
 intro pins s σ H x v vl vu lo hi sl Q I rx hs pl pu h
 obtain⟨a,xs,rfl,hx,q⟩:=h
 cases rx
 obtain⟨ao,r,ht,hz⟩:=I.list hx
 have hlen:=r.length
 refine⟨"list",_,slot_list_getitem.lookup,ht.isList.typeIs,?_⟩
 refine wpAny_getItem_list_slice ht.isList hs pl pu .none (by simp) ?_ (by rw[zw] <;> lia)
 rw[qt,← hlen]
 refine⟨.ref s.heap.objs.size,_,I.laid (t':=s.toks) (o:=.lst (uK xs lo hi)) (fun b ob q=>zd _ q) (zh _) ?_,rfl,q _ (I.aQ.fresh (zh _))⟩
 exact⟨zt (mK xs lo hi) hz,_,0,(r.drop (HT.sIx xs.length 0 lo)).take (HT.sIx xs.length xs.length hi - HT.sIx xs.length 0 lo),zB _ rfl⟩
def jt:V→Bool
 |.aC=>true
 |.bl _=>true
 |.int _=>true
 |.str _=>true
 |_=>false
def eqV:V→V→Bool
 |.aC,.aC=>true
 |.bl a,.bl b=>a == b
 |.bl a,.int b=>(if a then 1 else 0) == b
 |.int a,.bl b=>a == (if b then 1 else 0)
 |.int a,.int b=>a == b
 |.str a,.str b=>a == b
 |_,_=>false
theorem JH(ry:RelV y u)(rx:RelV x v)(fy:jt y=true)(fx:jt x=true):SeqAt.EqAt A s u v (eqV y x):=by
 cases y with
 |aC =>
  cases ry
  cases x with
  |aC=>cases rx;exact SeqAt.EqAt.same _
  |bl b=>cases rx;exact SeqAt.EqAt.none_bool b
  |int b=>obtain⟨t,rfl⟩:=rx;exact SeqAt.EqAt.none_int b t
  |str b=>obtain⟨t,rfl⟩:=rx;exact SeqAt.EqAt.none_str b t
  |_=>exact absurd (show false=true from fx) zm
 |bl a =>
  cases ry
  cases x with
  |aC=>cases rx;exact SeqAt.EqAt.bool_none a
  |bl b=>cases rx;exact SeqAt.EqAt.bool_bool a b
  |int b=>obtain⟨t,rfl⟩:=rx;exact SeqAt.EqAt.bool_int a b t
  |str b=>obtain⟨t,rfl⟩:=rx;exact SeqAt.EqAt.bool_str a b t
  |_=>exact absurd (show false=true from fx) zm
 |int a =>
  obtain⟨t',rfl⟩:=ry
  cases x with
  |aC=>cases rx;exact SeqAt.EqAt.int_none a t'
  |bl b=>cases rx;exact SeqAt.EqAt.int_bool a t' b
  |int b=>obtain⟨t,rfl⟩:=rx;exact SeqAt.EqAt.int_int a t' b t
  |str b=>obtain⟨t,rfl⟩:=rx;exact SeqAt.EqAt.int_str a t' b t
  |_=>exact absurd (show false=true from fx) zm
 |str a =>
  obtain⟨t',rfl⟩:=ry
  cases x with
  |aC=>cases rx;exact SeqAt.EqAt.str_none a t'
  |bl b=>cases rx;exact SeqAt.EqAt.str_bool a t' b
  |int b=>obtain⟨t,rfl⟩:=rx;exact SeqAt.EqAt.str_int a t' b t
  |str b=>obtain⟨t,rfl⟩:=rx;exact SeqAt.EqAt.str_str a t' b t
  |_=>exact absurd (show false=true from fx) zm
 |_=>exact absurd (show false=true from fy) zm
def Ge(x:V)(u:Value):Bool:=match u with
 |.none=>eqV .aC x
 |.bool b=>eqV (.bl b) x
 |.int i _=>eqV (.int i) x
 |.str z _=>eqV (.str z) x
 |_=>false
theorem C6(r:RelV y u)(f:jt y=true):Ge x u=eqV y x:=by
 cases y with
 |aC=>cases r;rfl
 |bl b=>cases r;rfl
 |int i=>obtain⟨t,rfl⟩:=r;rfl
 |str z=>obtain⟨t,rfl⟩:=r;rfl
 |_=>exact absurd (show false=true from f) zm
theorem sy:∀{xs:List V}{us:List Value},Vals xs us→xs.all jt=true→us.any (Ge x)=xs.any fun y=>eqV y x
 |_,_,.nil,_=>rfl
 |y::xs,u::us,.cons r t,f=>by
  rw[zW,zg] at f
  rw[yE,yE,C6 r f.1,sy t f.2]
theorem om(rx:RelV x v)(fx:jt x=true):∀{xs:List V}{us:List Value},Vals xs us→xs.all jt=true→∀u∈us,SeqAt.EqAt A s u v (Ge x u)
 |_,_,.nil,_=>fun u hu=>by cases hu
 |y::xs,u::us,.cons r t,f=>fun u' hu=>by
  rw[zW,zg] at f
  rcases zb.mp hu with rfl|hu
  ·rw[C6 r f.1];exact JH r rx f.1 fx
  ·exact om rx fx t f.2 u' hu
def wZ(x:V)(xs:List V):Bool:=xs.any fun y=>eqV y x
def U6(K:Frag)(neg:Bool):R2:=fun x y H Q=>∃p xs,y=.ref p∧(jN K H p xs∨iq K H p xs)∧jt x=true∧xs.all jt=true∧Q (.bl (if neg then !wZ x xs else wZ x xs)) H
theorem lN:fO X (compareOp .In) (U6 X.K false):=by
 intro pins s σ H x y v u Q I rx ry h
 obtain⟨p,xs,rfl,hq,fx,fs,q⟩:=h
 cases ry
 rcases hq with hq|hq
 ·obtain⟨ao,r,pl,hz⟩:=I.list hq
  refine SeqAt.in_listAt (Ge x) pl.isList (fun w hw=>om rx fx r fs w (by simpa using hw)) ⟨.bl _,H,I,rfl,?_⟩
  rw[show ao.toArray.any (Ge x)=ao.any (Ge x) by simp,sy r fs]
  exact q
 ·obtain⟨ao,r,pl,hz⟩:=I.tuple hq
  refine SeqAt.in_tupleAt (Ge x) pl (fun w hw=>om rx fx r fs w (by simpa using hw)) ⟨.bl _,H,I,rfl,?_⟩
  rw[show ao.toArray.any (Ge x)=ao.any (Ge x) by simp,sy r fs]
  exact q
theorem ki:fz X (.type "list") (fun xs H Q=>∃p ys,xs=[.ref p]∧(jN X.K H p ys∨iq X.K H p ys)∧∀l,H l=none→Q (.ref l) (upd H l (.lst ys))):=by
 intro pins s σ H xs us Q I r h
 obtain⟨p,ys,rfl,hq,q⟩:=h
 obtain⟨u,rfl,rx⟩:=vals1 r
 cases rx
 have fin:∀(ao:List Value),Vals ys ao→ys.length≤sizeLine→∀(h':Heap) (c':Nat),(∀b o',s.heap.get? b=some o'→h'.get? b=some o') →
   h'.get? s.heap.objs.size=some { cls:=.type "list",dict:=none,data:=.seq ao.toArray c',slots:=#[] }→EP X pins σ Q (.ref s.heap.objs.size) { s with heap:=h' }:=fun ao r' hz h' c' kp e =>
  ⟨.ref s.heap.objs.size,_,I.laid (t':=s.toks) kp (zh _) (show aV X.prog X.w _ h' _ (.lst ys) from ⟨hz,ao,c',r',e⟩),rfl,q _ (I.aQ.fresh (zh _))⟩
 rcases hq with hq|hq
 ·obtain⟨ao,r',pl,hz⟩:=I.list hq
  have hlen:=r'.length
  obtain⟨o,ho,hc,n,hd⟩:=pl.isList
  exact call_list_seq p (.inl rfl) ho hc hd (fun h' c' kp e=>fin ao r' hz h' c' kp e) (by simp only [zw] <;> lia)
 ·obtain⟨ao,r',pl,hz⟩:=I.tuple hq
  have hlen:=r'.length
  obtain⟨o,ho,hc,n,hd⟩:=pl
  exact call_list_seq p (.inr rfl) ho hc hd (fun h' c' kp e=>fin ao r' hz h' c' kp e) (by simp only [zw] <;> lia)
theorem ju:fz X (.type "tuple") (fun xs H Q=>∃p ys,xs=[.ref p]∧((jN X.K H p ys∧∀l,H l=none→Q (.ref l) (upd H l (.tup ys)))∨(iq X.K H p ys∧Q (.ref p) H))):=by
 intro pins s σ H xs us Q I r h
 obtain⟨p,ys,rfl,h⟩:=h
 obtain⟨u,rfl,rx⟩:=vals1 r
 cases rx
 rcases h with ⟨hq,q⟩|⟨hq,q⟩
 ·obtain⟨ao,r',pl,hz⟩:=I.list hq
  have hlen:=r'.length
  refine call_tuple_list pl.isList (fun h' kp=>?_) (by simp only [zw] <;> lia)
  have I1:Inv X pins σ H { s with heap:=h' }:=I.kept (t':=s.toks) kp
  have I2:Inv X pins σ (upd H h'.objs.size (.tup ys)) { s with heap:=h'.push { cls:=.type "tuple",data:=.seq ao.toArray } } :=
   I1.laid (t':=s.toks) (fun b o e=>zd _ e) (zh _) (show aV X.prog X.w _ _ _ (.tup ys) from ⟨hz,ao,r',fN.new _ _⟩)
  exact⟨.ref h'.objs.size,_,I2,rfl,q _ (I1.aQ.fresh (zh _))⟩
 ·obtain⟨ao,r',pl,hz⟩:=I.tuple hq
  exact call_tuple_same pl ⟨.ref p,H,I,rfl,q⟩
def Pm(K:Frag)(T:String)(x:V)(H:Hp):Prop:=match x with
 |.str _=>T = "str"
 |.int _=>T = "int"
 |.ref p=>(T = "list" ∧ ∃xs,jN K H p xs)∨(T = "tuple" ∧ ∃o,K.lookup p=some o∧o.cls=.type "tuple" ∧ o.dict=none) ∨
   (T = "dict" ∧ ((∃kvs,H p=some (.dK kvs))∨∃kvs,H p=some (.dT kvs)))∨(T = "set" ∧ ∃S n,H p=some (.set S n))
 |_=>False
theorem C7(I:Inv X pins σ H s)(r:RelV x v)(ty:Pm X.K T x H) :
  s.TypeIs v T∧∀a,v=.ref a→∃ob,s.heap.get? a=some ob∧ob.dict=none:=by
 cases x with
 |str z =>
  obtain⟨t,rfl⟩:=r
  cases (show T = "str" from ty)
  exact⟨typeIs_str s z t,fun _ e=>nomatch e⟩
 |int i =>
  obtain⟨t,rfl⟩:=r
  cases (show T = "int" from ty)
  exact⟨typeIs_int s i t,fun _ e=>nomatch e⟩
 |ref p =>
  cases r
  rcases ty with ⟨rfl,xs,hq⟩|⟨rfl,o,hk,hc,hd⟩|⟨rfl,hk⟩|⟨rfl,S,n,hk⟩
  ·obtain⟨ao,_,pl,_⟩:=I.list hq
   refine⟨pl.isList.typeIs,fun a e=>?_⟩
   cases e
   obtain⟨o,n,e,c,hd,_⟩:=pl
   exact⟨o,e,hd⟩
  ·refine⟨⟨o,I.sh p o hk,hc⟩,fun a e=>?_⟩
   cases e
   exact⟨o,I.sh _ o hk,hd⟩
  ·have z:∃o,s.heap.get? p=some o∧o.ExactDict:=by
    rcases hk with ⟨kvs,hk⟩|⟨kvs,hk⟩
    ·obtain⟨_,_,_,_,o,_,_,e,ex,_⟩:=I.aQ p _ hk
     exact⟨o,e,ex⟩
    ·exact False.elim (I.aQ p _ hk)
   obtain⟨o,e,ex⟩:=z
   refine⟨⟨o,e,ex.1⟩,fun a e2=>?_⟩
   cases e2
   exact⟨o,e,ex.2.1⟩
  ·obtain⟨o,_,_,_,e,ex,_⟩:=I.aQ p _ hk
   refine⟨⟨o,e,ex.1⟩,fun a e2=>?_⟩
   cases e2
   exact⟨o,e,ex.2.1⟩
 |_=>exact False.elim ty
def QQ(K:Frag)(T:String)(r:V→List V→Hp→VK→Prop)(to:TE):TE:=fun σ H Q=>to σ H fun x H1=>Pm K T x H1∧r x [] H1 Q
def U7(K:Frag)(T:String)(r:V→List V→Hp→VK→Prop)(to:TE)(t:TA):TE:=fun σ H Q=>to σ H fun x H1=>Pm K T x H1∧t σ H1 fun xs H2=>r x xs H2 Q
variable{o e:Expr}{es:List Expr}{to:TE}{t:TA}{name:Str}{apos aP:Pos}{T id:String}{r:V→List V→Hp→VK→Prop}
theorem JI(pa:PlainAttrs T)(slot:Slot T name id)(JJ:typeOf (.builtin id)=pure (.type "method_descriptor"))(hm:JE X id r)(ho:PE X o to)
  (kj:attributeBase o name X.env (eval o X.env)=eval o X.env:=by rfl) (oo:(apos.endLine == aP.line)=true:=by rfl):PE X (.Call (.Attribute o name apos) [] [] aP) (QQ X.K T r to):=by
 intro pins s σ H Q I h
 refine wpAny_Call_method0_late kj oo (bt (ho pins s σ H _ I h) fun v s1 ⟨x,H1,I1,r1,ty,q1⟩=>?_)
 obtain⟨h1,h2⟩:=C7 I1 r1 ty
 exact⟨T,id,pa,slot,JJ,h1,h2,Calls.callWith_builtin rfl (PySem.evalArgs_none (hm pins s1 σ H1 x [] v [] Q I1 r1 .nil q1))⟩
theorem MI(pa:PlainAttrs T)(slot:Slot T name id)(JJ:typeOf (.builtin id)=pure (.type "method_descriptor"))(hm:JE X id r)(ho:PE X o to)(ha:PA X (e::es) t)
  (kj:attributeBase o name X.env (eval o X.env)=eval o X.env:=by rfl)
  (JK:((backTo aP (starEach (e::es) X.env)).all (fun x=>!x.1) && (backToKw aP (keywordEach [] X.env)).all (fun x=>x.1.isSome)
   && decide ((e::es).length+([]:List Keyword).length+(if ([]:List Keyword).isEmpty then 0 else 1)<30))=true:=by rfl)
  (oo:(apos.endLine == aP.line)=true:=by rfl) (hs:starEach (e::es) X.env=(false,eval e X.env)::starEach es X.env:=by rfl) (w5:(backTo aP (starEach es X.env)).any (·.1)=false:=by rfl) :
  PE X (.Call (.Attribute o name apos) (e::es) [] aP) (U7 X.K T r to t):=by
 intro pins s σ H Q I h
 refine wpAny_Call_method_late kj JK oo rfl (bt (ho pins s σ H _ I h) fun v s1 ⟨x,H1,I1,r1,ty,q1⟩=>?_)
 obtain⟨h1,h2⟩:=C7 I1 r1 ty
 refine⟨T,id,pa,slot,JJ,h1,h2,?_⟩
 have hA:=ha aP pins s1 σ H1 _ I1 q1
 rw[hs] at hA ⊢
 refine Calls.callWith_builtin (by show (false || (backTo aP (starEach es X.env)).any (·.1))=false;rw[w5] <;> rfl) (Calls.evalArgs_plain ?_)
 exact bt hA <| by rintro us s2 ⟨vs,H2,I2,r2,q2⟩;exact hm pins s2 σ H2 x vs v us Q I2 r1 r2 q2
end
def Pn(X:Cx)(id:String)(r:V→List V→Hp→VK→Prop):Prop :=
 ∀(pins:List (Addr×Obj)) (s:Shared) (σ:St) (H:Hp) (x:V) (xs:List V) (v:Value) (us:List Value) (Q:VK),Inv X pins σ H s→RelV x v→Vals xs us→r x xs H Q →
  wpAny (model X.prog X.w) X.A (call (.builtin id) (v::us)) (EP X pins σ Q) X.xe s
theorem Vals.one:∀{x:V}{us:List Value},Vals [x] us→∃u,us=[u]∧RelV x u:=by
 intro x us h
 cases h with
 |cons r t=>cases t;exact⟨_,rfl,r⟩
theorem Vals.two:∀{x y:V}{us:List Value},Vals [x,y] us→∃u v,us=[u,v]∧RelV x u∧RelV y v:=by
 intro x y us h
 cases h with
 |cons r t =>
  obtain⟨_,rfl,q⟩:=Vals.one t
  exact⟨_,_,rfl,r,q⟩
theorem Vals.zero:∀{us:List Value},Vals [] us→us=[]
 |_,.nil=>rfl
theorem Vals.dropLast{xs:List V}{us:List Value}(h:Vals xs us):Vals xs.dropLast us.dropLast:=by
 induction h with
 |nil=>exact .nil
 |cons r t ih =>
  cases t with
  |nil=>exact .nil
  |cons q t'=>exact .cons r ih
theorem Vals.eraseIdx:∀{xs:List V}{us:List Value} (i:Nat),Vals xs us→Vals (xs.eraseIdx i) (us.eraseIdx i)
 |_,_,_,.nil=>.nil
 |_,_,0,.cons _ t=>t
 |_,_,i+1,.cons r t=>.cons r (Vals.eraseIdx i t)
theorem w6{α:Type}(l:List α):l.eraseIdx (l.length - 1)=l.dropLast:=by
 induction l with
 |nil=>rfl
 |cons a r ih =>
  cases r with
  |nil=>rfl
  |cons b r =>
   have e:(a::b::r).length - 1=((b::r).length - 1)+1:=by
    have h1:(a::b::r).length=r.length+2:=rfl
    have h2:(b::r).length=r.length+1:=rfl
    lia
   rw[e,List.eraseIdx_cons_succ,ih]
   all_goals rfl
theorem rm{α:Type} : ∀(l:List α) (i:Nat),(l.eraseIdx i).length≤l.length
 |[],_=>zh _
 |_::_,0=>yG _
 |_::r,i+1=>Nat.succ_le_succ (rm r i)
section
variable{X:Cx}{pins:List (Addr×Obj)}{σ:St}{H:Hp}{s:Shared}{l b:Addr}{xs ys zs:List V}
theorem Inv.Gf{ao its':List Value}{n:Nat}{f:Array Value→Array Value}{t':Nat}(I:Inv X pins σ H s)(hH:H l=some (.lst xs))
  (e:s.heap.get? l=some { cls:=.type "list",data:=.seq ao.toArray n }) (hf:f ao.toArray=its'.toArray) (hv:Vals ys its') (hz:ys.length≤sizeLine) :
  Inv X pins σ (upd H l (.lst ys)) { s with heap:=s.heap.update l (Obj.mapSeq f),toks:=t' }:=by
 have q:=PySem.IsL.update e f
 rw[hf] at q
 refine I.write (x:=l) (e:=l) (by rw[hH];exact trivial) (.inl rfl) (fun b' u hb hu=>(Heap.get?_update_other s.heap (Obj.mapSeq f) (Ne.symm hb)).trans hu) ⟨_,q⟩ ?_
 exact⟨hz,its',_,hv,q⟩
theorem Inv.QR(I:Inv X pins σ H s)(hv:Vals ys ao)(hz:ys.length≤sizeLine) :
  Inv X pins σ (upd H s.heap.objs.size (.lst ys)) { s with heap:=s.heap.push { cls:=.type "list",data:=.seq ao.toArray },toks:=t' } :=
 I.laid (fun _ _ q=>zd _ q) (zh _) ⟨hz,ao,0,hv,zB _ rfl⟩
theorem Inv.fresh(I:Inv X pins σ H s):H s.heap.objs.size=none:=I.aQ.fresh (zh _)
theorem Inv.Bh(I:Inv X pins σ H s)(hH:H l=some (.lst xs)):xs.length≤sizeLine∧∃(ao:List Value) (n:Nat),Vals xs ao∧xs.length=ao.length∧s.heap.get? l=some { cls:=.type "list",data:=.seq ao.toArray n }:=by
 obtain⟨z,ao,n,r,e⟩:=I.aQ l _ hH
 exact⟨z,ao,n,r,r.length,e⟩
theorem C8{n:Nat}(h:n≤sizeLine):Builtin.List.listTooLong n=false:=by
 unfold Builtin.List.listTooLong
 exact zp (by lia)
end
section
variable{X:Cx}
def Gg:V→List V→Hp→VK→Prop:=fun x vs H Q=>∃l xs y,x=.ref l∧vs=[y]∧H l=some (.lst xs)∧xs.length<sizeLine∧Q .aC (upd H l (.lst (xs++[y])))
theorem Bi:Pn X "list.append" Gg:=by
 intro pins s σ H x vs v us Q I rx rv h
 obtain⟨l,xs,y,rfl,rfl,hH,hz,q⟩:=h
 cases rx
 obtain⟨u,rfl,ru⟩:=rv.one
 obtain⟨z,ao,n,r,hl,e⟩:=I.Bh hH
 refine call_meets F.slot_list_append ⟨_,e,rfl⟩ F.entry_list_append (F.args_list_append_2 _ _) (PySem.list_append l ao.toArray n u (by rw[zw];lia)) ⟨e,?_⟩
 refine⟨.aC,_,I.Gf (its':=ao++[u]) hH e (by simp) (r.append (.cons ru .nil)) ?_,rfl,q⟩
 rw[zo,List.length_singleton]
 lia
def QS:V→List V→Hp→VK→Prop:=fun x vs H Q=>∃l xs y,x=.ref l∧vs=[]∧H l=some (.lst xs)∧xs[xs.length - 1]?=some y∧Q y (upd H l (.lst xs.dropLast))
theorem JL:Pn X "list.pop" QS:=by
 intro pins s σ H x vs v us Q I rx rv h
 obtain⟨l,xs,y,rfl,rfl,hH,hy,q⟩:=h
 cases rx
 have HU:=rv.zero
 subst HU
 obtain⟨z,ao,n,r,hl,e⟩:=I.Bh hH
 obtain⟨u,hu,ru⟩:=r.get hy
 have MJ:ao.toArray[ao.toArray.size - 1]?=some u:=by
  show ao.toArray[ao.length - 1]?=some u
  rw[← Array.getElem?_toList,← hl]
  exact hu
 refine call_meets F.slot_list_pop ⟨_,e,rfl⟩ F.entry_list_pop (F.args_list_pop_1 _) (MeetsSeq.list_pop_last l ao.toArray n u MJ (by rw[zw];lia)) ⟨e,?_⟩
 refine⟨y,_,I.Gf (its':=ao.dropLast) hH e ?_ r.dropLast ?_,ru,q⟩
 ·show ao.toArray.eraseIdxIfInBounds (ao.toArray.size - 1)=ao.dropLast.toArray
  rw[zw,List.eraseIdxIfInBounds_toArray,w6]
 ·rw[List.length_dropLast]
  lia
def JM:V→List V→Hp→VK→Prop:=fun x vs H Q=>∃l xs i k y,x=.ref l∧vs=[.int i]∧H l=some (.lst xs)∧-(2 ^ 63)≤i∧i<2 ^ 63∧seqIndex? i xs.length=some k∧xs[k]?=some y∧Q y (upd H l (.lst (xs.eraseIdx k)))
theorem C9:Pn X "list.pop" JM:=by
 intro pins s σ H x vs v us Q I rx rv h
 obtain⟨l,xs,i,k,y,rfl,rfl,hH,h1,h2,hk,hy,q⟩:=h
 cases rx
 obtain⟨u,rfl,ru⟩:=rv.one
 obtain⟨t,rfl⟩:=ru
 obtain⟨z,ao,n,r,hl,e⟩:=I.Bh hH
 obtain⟨w,hw,uL⟩:=r.get hy
 refine call_meets F.slot_list_pop ⟨_,e,rfl⟩ F.entry_list_pop (F.args_list_pop_2 _ _)
  (MeetsSeq.list_pop_at l ao.toArray n i t k w (fitsIndex_both h1 h2) (by rw[zw,← hl];exact hk) (by rw[← Array.getElem?_toList];exact hw) (by rw[zw];lia)) ⟨e,?_⟩
 refine⟨y,_,I.Gf (its':=ao.eraseIdx k) hH e ?_ (r.eraseIdx k) ?_,uL,q⟩
 ·show ao.toArray.eraseIdxIfInBounds k=(ao.eraseIdx k).toArray
  rw[List.eraseIdxIfInBounds_toArray]
 ·have:=rm xs k
  lia
def QT:R2:=fun x y H Q=>∃l b xs zs,x=.ref l∧y=.ref b∧H l=some (.lst xs)∧H b=some (.lst zs)∧xs.length+zs.length≤sizeLine∧∀p,H p=none→Q (.ref p) (upd H p (.lst (xs++zs)))
theorem JN:fO X (binaryOp .Add) QT:=by
 intro pins s σ H x y v u Q I rx ry h
 obtain⟨l,b,xs,zs,rfl,rfl,hH,hB,hz,q⟩:=h
 cases rx
 cases ry
 obtain⟨z,ao,n,r,hl,e⟩:=I.Bh hH
 obtain⟨z2,oj,n2,r2,CF,e2⟩:=I.Bh hB
 refine PySem.P.add_list e e2 ?_ (by rw[zw,zw];lia)
 have ea:ao.toArray++oj.toArray=(ao++oj).toArray:=by simp
 rw[ea]
 exact⟨.ref _,_,I.QR (t':=s.toks) (r.append r2) (by rw[zo];lia),rfl,q _ I.fresh⟩
end
section
variable{prog:Program}{w:World}{A:Around}{E:Value→Shared→Prop}{s:Shared}
end
section
variable{X:Cx}
end
section
variable{κ:Type}[DecidableEq κ]
def kl(kvs:List (κ×V))(k:κ):Option V:=(kvs.find? fun kv=>decide (kv.1=k)).map (·.2)
def putK(kvs:List (κ×V))(k:κ)(v:V):List (κ×V) :=
 if (kvs.any fun kv=>decide (kv.1=k))=true then kvs.map (fun kv=>if kv.1=k then (kv.1,v) else kv) else kvs++[(k,v)]
theorem oq{p:κ×V}{r:List (κ×V)}{k:κ}(e:p.1=k):kl (p::r) k=some p.2:=by simp [kl,yp,e]
theorem ot{p:κ×V}{r:List (κ×V)}{k:κ}(e:¬ p.1=k):kl (p::r) k=kl r k:=by simp [kl,yp,e]
theorem lI.lO(r:lI o u):o.isSome=u.isSome:=by
 cases o with
 |none=>cases u with
  |none=>rfl
  |some _=>exact (show False from r).elim
 |some _=>cases u with
  |none=>exact (show False from r).elim
  |some _=>rfl
theorem lI.getD{o:Option V}{u:Option Value}{d:V}{d':Value}(r:lI o u)(rd:RelV d d'):RelV (o.getD d) (u.getD d'):=by
 cases o with
 |none=>cases u with
  |none=>exact rd
  |some _=>exact (show False from r).elim
 |some _=>cases u with
  |none=>exact (show False from r).elim
  |some _=>exact r
theorem KV.val{kvs:List (κ×V)}{vs:List (κ×Value)}(r:KV kvs vs)(k:κ):lI (kl kvs k) (valueAt vs k):=by
 unfold KV at r
 induction r with
 |nil=>exact True.intro
 |@cons p q ps qs h t ih =>
  obtain⟨h1,h2⟩:=h
  by_cases e:p.1=k
  ·have e':q.1=k:=h1.symm.trans e
   have b:valueAt (q::qs) k=some q.2:=by simp [valueAt,yp,e']
   rw[oq e,b];exact h2
  ·have e':¬ q.1=k:=fun z=>e (h1.trans z)
   have b:valueAt (q::qs) k=valueAt qs k:=by simp [valueAt,yp,e']
   rw[ot e,b];exact ih
theorem KV.any{kvs:List (κ×V)}{vs:List (κ×Value)}(r:KV kvs vs)(k:κ):(kvs.any fun kv=>decide (kv.1=k))=vs.any fun kv=>decide (kv.1=k):=by
 unfold KV at r
 induction r with
 |nil=>rfl
 |cons h t ih=>rw[yE,yE,ih,h.1]
theorem KV.JO(r:KV kvs vs)(k:κ)(ry:RelV y u) :
  KV (kvs.map fun kv=>if kv.1=k then (kv.1,y) else kv) (vs.map fun kv=>if kv.1=k then (kv.1,u) else kv):=by
 unfold KV at r ⊢
 induction r with
 |nil=>exact .nil
 |@cons p q ps qs h t ih =>
  rw[zF,zF]
  refine .cons ?_ ih
  obtain⟨h1,h2⟩:=h
  by_cases e:p.1=k
  ·rw[if_pos e,if_pos (h1.symm.trans e)];exact⟨h1,ry⟩
  ·rw[if_neg e,if_neg (fun z=>e (h1.trans z))];exact⟨h1,h2⟩
theorem KV.put(r:KV kvs vs)(k:κ)(ry:RelV y u):KV (putK kvs k y) (stored vs k u):=by
 unfold putK stored
 rw[r.any k]
 by_cases e:(vs.any fun kv=>decide (kv.1=k))=true
 ·rw[if_pos e,if_pos e];exact r.JO k ry
 ·rw[if_neg e,if_neg e];exact Paired.snoc r ⟨rfl,ry⟩
theorem KV.length{kvs:List (κ×V)}{vs:List (κ×Value)}(r:KV kvs vs):kvs.length=vs.length:=Paired.length r
end
theorem rn(r:RelV (kV k) u):(aH P w).is k u=true:=by
 cases k with
 |inl i=>obtain⟨t,e⟩:=(show ∃t,u=Value.int i t from r);subst e;exact uB P w i t
 |inr x=>obtain⟨t,e⟩:=(show ∃t,u=Value.str x t from r);subst e;exact ir P w x t
theorem rq:∀{ks:List Key}{us:List Value},Vals (ks.map kV) us→ItemsAre (aH P w) ks us
 |[],_,r=>by rw[List.map_nil] at r;cases r;exact .nil
 |k::ks,_,r=>by
  rw[zF] at r
  cases r with
  |cons h t=>exact .cons (rn h) (rq t)
abbrev KT(H:Hp):List (List Key×V)→List (List Key×Addr×Value)→Prop:=Paired fun p q=>p.1=q.1∧H q.2.1=some (.tup (p.1.map kV))∧RelV p.2 q.2.2
theorem KT.val{H:Hp}{kvs:List (List Key×V)}{xs:List (List Key×Addr×Value)}(r:KT H kvs xs)(k:List Key):lI (kl kvs k) ((atKey xs k).map (·.2)):=by
 induction r with
 |nil=>exact True.intro
 |@cons p q ps qs h t ih =>
  obtain⟨h1,_,h2⟩:=h
  by_cases e:p.1=k
  ·have e':q.1=k:=h1.symm.trans e
   have b:atKey (q::qs) k=some q.2:=by simp [atKey,yp,e']
   rw[oq e,b];exact h2
  ·have e':¬ q.1=k:=fun z=>e (h1.trans z)
   have b:atKey (q::qs) k=atKey qs k:=by simp [atKey,yp,e']
   rw[ot e,b];exact ih
section
variable{P:Program}{w:World}{H:Hp}{h:Heap}{a:Addr}
theorem HV(ok:kc P w H h)(e:Rd H a u):aV P w H h a u:=e.ok ok
theorem rz(ok:kc P w H h)(e:Rd H a (.dK kvs)):kvs.length≤sizeLine∧(a == sysModules)=false∧∃vs,KV kvs vs∧h.DictOf (aH P w) a vs :=
 show aV P w H h a (.dK kvs) from HV ok e
theorem w9(ok:kc P w H h)(e:H a=some (.tup (ks.map kV))):(tupleKind (aH P w)).is h ks a:=by
 obtain⟨_,ao,r,o,h1,h2,_,n,h3⟩:=(show aV P w H h a (.tup (ks.map kV)) from ok a _ e)
 exact⟨o,ao.toArray,n,h1,h2,h3,by simpa using rq r⟩
theorem uM(ok:kc P w H h)(e:Rd H a (.dT kvs)):kvs.length≤sizeLine∧(a == sysModules)=false ∧
  ∃xs,KT H kvs xs∧h.DictOfH (tupleKind (aH P w)) a xs:=by
 exact False.elim (show aV P w H h a (.dT kvs) from HV ok e)
end
def qu(H:Hp)(a:Addr)(y:V)(r:Option V):Prop :=
 (∃kvs k,Rd H a (.dK kvs)∧y=kV k∧r=kl kvs k)∨∃kvs k b,Rd H a (.dT kvs)∧y=.ref b∧H b=some (.tup (k.map kV))∧r=kl kvs k
theorem qu.k{H:Hp}{a:Addr}{kvs:List (Key×V)}{k:Key}(e:H a=some (.dK kvs)):qu H a (kV k) (kl kvs k):=.inl ⟨kvs,k,.inl e,rfl,rfl⟩
section
variable{X:Cx}{pins:List (Addr×Obj)}{σ:St}{H:Hp}{s:Shared}{a:Addr}{y v:V}{u r:Value}{o:Option V}{A:Around}{E:Value→Shared→Prop}
theorem Inv.big(I:Inv X pins σ H s):sysModules<s.heap.objs.size:=by
 have h:mainGlobals<s.heap.objs.size:=(I.mod.glob.keeps I.bk).lt
 exact Nat.lt_trans (by decide) h
theorem Bj(hu:A.units+1<cLine)(I:Inv X pins σ H s)(g:qu H a y (some v))(ry:RelV y u)(h:∀w' s',Inv X pins σ H s'→RelV v w'→Q w' s') :
  wpAny (model X.prog X.w) A (getItem (.ref a) u) Q E s:=by
 rcases g with ⟨kvs,k,e,ey,l⟩|⟨kvs,k,b,e,ey,eb,l⟩
 ·subst ey
  obtain⟨z,hd,vs,rel,dd⟩:=rz I.aQ e
  obtain⟨w',hw,uL⟩:=lI.some_of (v:=v) (o:=valueAt vs k) (by rw[l];exact rel.val k)
  exact wpAny_getItem_of (rn ry) dd.mapOf hw (h w' _ (I.tok _) uL)
 ·subst ey
  cases (show u=Value.ref b from ry)
  obtain⟨z,hd,xs,rel,dd⟩:=uM I.aQ e
  obtain⟨w',hw,uL⟩:=lI.some_of (v:=v) (o:=(atKey xs k).map (·.2)) (by rw[l];exact rel.val k)
  obtain⟨p,hp,g6⟩:=Option.map_eq_some_iff.mp hw
  refine wpAny_getItem_heap (tupleKind_room_in1 hu) (w9 I.aQ eb) dd hp ?_
  rw[g6]
  exact h w' _ (I.tok _) uL
theorem QU(hu:A.units+1<cLine)(I:Inv X pins σ H s)(g:qu H a y o)(ry:RelV y u)(h:∀s',Inv X pins σ H s'→Q (.bool o.isSome) s') :
  wpAny (model X.prog X.w) A (compareOp .In u (.ref a)) Q E s:=by
 rcases g with ⟨kvs,k,e,ey,l⟩|⟨kvs,k,b,e,ey,eb,l⟩
 ·subst ey
  obtain⟨z,hd,vs,rel,dd⟩:=rz I.aQ e
  refine wpAny_in_of (rn ry) hd dd.mapOf ?_
  rw[← (rel.val k).lO,← l]
  exact h _ (I.tok _)
 ·subst ey
  cases (show u=Value.ref b from ry)
  obtain⟨z,hd,xs,rel,dd⟩:=uM I.aQ e
  refine wpAny_in_heap (tupleKind_room_in1 hu) (w9 I.aQ eb) hd dd ?_
  have q:=(rel.val k).lO
  rw[Option.isSome_map] at q
  rw[← q,← l]
  exact h _ (I.tok _)
end
section
variable{X:Cx}{pins:List (Addr×Obj)}{σ:St}{H:Hp}{s:Shared}{a:Addr}{kvs:List (Key×V)}{k:Key}{u:Value}{A:Around}{E:Value→Shared→Prop}
theorem MK(I:Inv X pins σ H s)(e:Rd H a (.dK kvs))(h:∀t s',Inv X pins σ H s'→Q (.int kvs.length t) s'):wpAny (model X.prog X.w) A (call (.builtin "len") [.ref a]) Q E s:=by
 obtain⟨z,hd,vs,rel,dd⟩:=rz I.aQ e
 refine call_len_dict hd dd (by rw[← rel.length];rw[yx] at z;lia) ?_
 rw[← rel.length]
 exact h _ _ (I.tok _)
end
theorem uN(I:Inv X pins σ H s)(g:qu H a y o):s.TypeIs (.ref a) "dict" := by
 rcases g with ⟨kvs,k,e,_,_⟩|⟨kvs,k,b,e,_,_,_⟩
 ·obtain⟨_,_,vs,_,dd⟩:=rz I.aQ e
  exact dd.typeIs
 ·obtain⟨_,_,xs,_,dd⟩:=uM I.aQ e
  exact dd.typeIs
section
variable{X:Cx}{o i e value:Expr}{pos pos' QD:Pos}{td ty tv:TE}
end
section
variable{X:Cx}{pos:Pos}
end
structure M1(X:Cx)(o:Expr)(m:Str)(apos:Pos)(e:Expr)(aP:Pos):Prop where
 base:attributeBase o m X.env (eval o X.env)=eval o X.env
 HW:((backTo aP (starEach [e] X.env)).all (fun x=>!x.1) && (backToKw aP (keywordEach [] X.env)).all (fun x=>x.1.isSome)
  && decide (([e]:List Expr).length+([]:List Keyword).length+(if ([]:List Keyword).isEmpty then 0 else 1)<30))=true
 line:(apos.endLine == aP.line)=true
 trees:backTo aP (starEach [e] X.env)=[(false,eval e X.env)]
structure M2(X:Cx)(o:Expr)(m:Str)(apos:Pos)(e f:Expr)(aP:Pos):Prop where
 base:attributeBase o m X.env (eval o X.env)=eval o X.env
 HW:((backTo aP (starEach [e,f] X.env)).all (fun x=>!x.1) && (backToKw aP (keywordEach [] X.env)).all (fun x=>x.1.isSome)
  && decide (([e,f]:List Expr).length+([]:List Keyword).length+(if ([]:List Keyword).isEmpty then 0 else 1)<30))=true
 line:(apos.endLine == aP.line)=true
 trees:backTo aP (starEach [e,f] X.env)=[(false,eval e X.env),(false,eval f X.env)]
def QV(H:Hp)(a:Addr):Prop:=(∃kvs,Rd H a (.dK kvs))∨∃kvs,Rd H a (.dT kvs)
theorem JP(I:Inv X pins σ H s)(d:QV H a) :
  s.TypeIs (.ref a) "dict" ∧ (∀b,Value.ref a=.ref b→∃ob,s.heap.get? b=some ob∧ob.dict=none)∧(a == sysModules)=false:=by
 rcases d with ⟨kvs,e⟩|⟨kvs,e⟩
 ·obtain⟨_,hd,vs,_,dd⟩:=rz I.aQ e
  refine⟨dd.typeIs,fun b q=>?_,hd⟩
  cases q
  obtain⟨ob,_,_,h1,h2,_⟩:=dd
  exact⟨ob,h1,h2.2.1⟩
 ·obtain⟨_,hd,xs,_,dd⟩:=uM I.aQ e
  refine⟨dd.typeIs,fun b q=>?_,hd⟩
  cases q
  obtain⟨ob,_,_,h1,h2,_⟩:=dd
  exact⟨ob,h1,h2.2.1⟩
section
variable{X:Cx}{pins:List (Addr×Obj)}{σ:St}{H:Hp}{s:Shared}{a:Addr}{y d:V}{u r:Value}{o:Option V}{A:Around}{E:Value→Shared→Prop}
theorem JQ(hu:A.units+1<cLine)(I:Inv X pins σ H s)(g:qu H a y o)(ry:RelV y u)(h:∀w' s',Inv X pins σ H s'→RelV (o.getD .aC) w'→Q w' s') :
  wpAny (model X.prog X.w) A (call (.builtin "dict.get") [.ref a,u]) Q E s:=by
 rcases g with ⟨kvs,k,e,ey,l⟩|⟨kvs,k,b,e,ey,eb,l⟩
 ·subst ey
  obtain⟨z,hd,vs,rel,dd⟩:=rz I.aQ e
  refine call_meetsIn PySem.F.slot_dict_get dd.typeIs PySem.F.entry_dict_get (PySem.F.args_dict_get_2 _ _) (meets_dict_get (aH X.prog X.w) a (rn ry) hd) ⟨_,dd.mapOf,h _ _ (I.tok _) ?_⟩
  rw[l]
  exact (rel.val k).getD rfl
 ·subst ey
  cases (show u=Value.ref b from ry)
  obtain⟨z,hd,xs,rel,dd⟩:=uM I.aQ e
  refine call_meetsIn PySem.F.slot_dict_get dd.typeIs PySem.F.entry_dict_get (PySem.F.args_dict_get_2 _ _) (meetsH_dict_get (tupleKind (aH X.prog X.w)) a b hd) ⟨tupleKind_room_in1 hu,k,xs,w9 I.aQ eb,dd,h _ _ (I.tok _) ?_⟩
  rw[l]
  exact (rel.val k).getD rfl
end
def JR(td ty:TE):TE:=fun σ H Q=>td σ H fun x H1=>∃a,x=.ref a∧QV H1 a∧ty σ H1 fun y H2=>∃o,qu H2 a y o∧Q (o.getD .aC) H2
section
variable{X:Cx}{o e f:Expr}{apos aP:Pos}{td ty tx:TE}
theorem C_(hu:X.A.units+1<cLine)(ho:PE X o td)(he:PE X e ty)(m:M1 X o "get" apos e aP):PE X (.Call (.Attribute o "get" apos) [e] [] aP) (JR td ty):=by
 intro pins s σ H Q I h
 refine wpAny_Call_method m.base m.HW m.line PySem.F.plainAttrs_dict PySem.F.slot_dict_get PySem.F.type_dict_get (bt (ho pins s σ H _ I h) fun u s1 ⟨x,H1,I1,rx,a,ex,d,q1⟩=>?_)
 subst ex
 obtain rfl:u=Value.ref a:=rx
 obtain⟨t1,t2,_⟩:=JP I1 d
 refine⟨t1,t2,?_⟩
 rw[m.trees]
 refine Calls.callWith_builtin rfl (Calls.evalArgs_plain (Calls.spliced_cons (bt (he pins s1 σ H1 _ I1 q1) fun iv s2 ⟨y,H2,I2,ry,ov,g,q2⟩=>Calls.spliced_nil ?_)))
 exact JQ hu I2 g ry fun w' s3 I3 uL=>⟨_,H2,I3,uL,q2⟩
end
section
variable{X:Cx}{pins:List (Addr×Obj)}{σ:St}{H:Hp}{s:Shared}{a:Addr}{kvs:List (Key×V)}{A:Around}{E:Value→Shared→Prop}
end
section
variable{X:Cx}{pins:List (Addr×Obj)}{σ:St}{H:Hp}{s:Shared}{a:Addr}{y:V}{u:Value}{A:Around}{E:Value→Shared→Prop}
end
end L2
namespace Att
open PySem PySem.W PySem.Calls PyProof.Rows
theorem ng:∀(ns:List Int) (vs:List Value),WellAll P h vs (ns.map WData.int)→IntsAre vs ns:=by
 intro ns
 induction ns with
 |nil =>
  intro vs w
  rw[List.map_nil] at w
  cases w
  exact .nil
 |cons n ns ih =>
  intro vs w
  rw[zF] at w
  cases w with
  |cons a b =>
   cases a
   exact .cons _ _ (ih _ b)
theorem Bk{l:OpenLaw}{n:Nat}(hn:l.most=some n){P:Params}{h:Heap}{args:List WData}{vals:List Value}
  (Gi:l.row.toRowW.claim.pre args=true) (QW:WellAll P h vals args) :
  ∃a vs ns,vals=[Value.ref a]∧args=[WData.list (ns.map WData.int)]∧h.get? a=some { cls:=.type "list",data:=.seq vs.toArray }∧IntsAre vs ns∧ns.length≤n:=by
 have U8:WShape.hasAll [] args [.list .int]=true:=(pre_splitW Gi).1
 have hc:l.pre.holds [] { args:=args }=true:=(pre_splitW Gi).2
 obtain⟨d,r,rfl,h1,h2⟩:=hasAllW_cons U8
 obtain rfl:=hasAllW_nil h2
 obtain⟨xs,rfl,h3⟩:=hasW_list h1
 obtain⟨ns,rfl⟩:=items_int h3
 have hlen:ns.length≤n:=by
  unfold OpenLaw.pre at hc
  have h4:(WTm.not (.lt (.lit (.int (n:Int))) (.len (.arg 0)))).holds [] { args:=[.list (ns.map .int)] }=true:=by
   have h4:=(holds_andW hc).1
   rw[hn] at h4
   exact h4
  have h5:=condW_of h4 (w_not (w_lt w_lit (w_len_list (w_arg rfl))))
  rw[za] at h5
  refine Nat.le_of_not_lt fun q=>?_
  have q':(n:Int)<((ns.length:Nat):Int):=by lia
  first
   | (rw[zk q'] at h5;exact absurd h5 (by decide))
   | (simp at h5;lia)
 cases QW with
 |cons w1 w2 =>
  cases w2
  cases w1 with
  |list ho QX=>exact⟨_,_,ns,rfl,rfl,ho,ng ns _ QX,hlen⟩
theorem Bl(l:OpenLaw)(args:List WData):l.row.toRowW.claim.post args (.bool true) args=true :=
 postW_of (r:=l.row.toRowW) (X:=(true == true))
  (show WShape.has [] (.bool true) .bool=true by first|rfl|decide|simp [WShape.has,WShape.arms,WShape.armsAll])
  (show (WTm.eq .res (.lit (.bool true))).value [] { args:=args,res:=some (.bool true),after:=args }=some (.bool (true == true)) from w_eq_bool (w_res rfl) w_lit) rfl
theorem uO{l:OpenLaw}{n:Nat}{q:Program}{loose:List Str}{XP:(Str→Option Value)→Heap→Prop}{YP:World→Heap→Prop}{d:DefRec}
  (hn:l.most=some n) (QY:d.params.defaults=[])
  (call:∀(w:World) (cV s₁:Shared) (mg mb:Str→Option Value) (fa:Addr) (o:Obj) (pm cd doc:Value) (a:Addr) (vs:List Value) (ns:List Int),
   Ground q loose [] XP w cV mg mb s₁.heap→YP w s₁.heap →
   s₁.heap.get? fa=some o→o.data=.func (docDef d.name d.params d.body d.scope pm cd doc)→s₁.heap.CodeRec cd d.name→mg d.name=some (.ref fa) →
   s₁.heap.get? a=some { cls:=.type "list",data:=.seq vs.toArray }→IntsAre vs ns→ns.length≤n→s₁.gens=#[] →
   codeAny (model l.prog w) callerA (.call (.ref fa) ⟨[.ref a],[]⟩) (fun r s'=>r=.ok (.ret (.bool true))∧OldK s₁.heap s'.heap∧s'.os=s₁.os∧AllBare s'.gens) s₁) :
  WalkO q loose XP YP l.row.toRowW d [] (fun f vs=>PySem.call f vs):=by
 intro w cV s₁ mg mb G Y fa o pm cd doc dV kV ho hd Fy hD JS hg args vals as Gi U9 X_ QW Ya
 obtain rfl:dV=.none:=Dflts.none hD QY
 obtain rfl:kV=.none:=Dflts.noKw hD
 obtain⟨a,vs,ns,rfl,rfl,JT,hints,hlen⟩:=Bk hn Gi QW
 refine enter_call (codeAny_mono (call w cV s₁ mg mb fa o pm cd doc a vs ns G Y ho (fd_plain hd) Fy JS JT hints hlen hg) fun r s' hq=>?_)
 obtain⟨rfl,h2,h3,h4⟩:=hq
 exact⟨.inl ⟨.bool true,.bool true,[],rfl,fun _=>rfl,.bool true,Bl l _,fun _=>⟨List.Pairwise.nil,fun _ hm=>(nomatch hm)⟩⟩,h2,h3,h4⟩
section
variable{prog:Program}{w:World}{A:Around}{E:Value→Shared→Prop}{s:Shared}{K:Frag}
end
end Att
namespace L2
open PySem PySem.Spec PyProof.Rows
theorem rA:∀{vs:List Value}{ns:List Int},IntsAre vs ns→Vals (ns.map V.int) vs
 |_,_,.nil=>.nil
 |_,_,.cons n t h=>.cons ⟨t,rfl⟩ (rA h)
def ja(s:Stmt):Arguments:=match s with
 |.FunctionDef _ a _ _ _ _ _ _ _ _=>a
 |_=>{ posonlyargs:=[],args:=[],vararg:=none,kwonlyargs:=[],kw_defaults:=[],kwarg:=none,defaults:=[] }
def eM(s:Stmt):List Stmt:=match s with
 |.FunctionDef _ _ b _ _ _ _ _ _ _=>b
 |_=>[]
def ae(s:Stmt):Scope:=match s with
 |.FunctionDef _ _ _ _ _ _ sc _ _ _=>sc
 |_=>{ kind:=.function,names:=[],isGenerator:=false,isCoroutine:=false }
abbrev Po:wW:=fun _ _ _ _ _ _=>False
abbrev E0:XK:=fun _ _ _=>False
structure Yb(K:Frag)(x qual:Str)(st:Stmt)(f:Addr)(fd:FuncData):Prop where
 ex:∃(oc:Value) (od:Option Addr) (kV doc pm:Value) (an:Option Addr) (cn ct:Value) (LA:Array (Option Value)),
  fd=fnOf x qual (ja st) (eM st) (ae st) .none kV doc pm an cn ct∧K.lookup f=some ⟨oc,od,.func fd,LA⟩∧codeIn K cn qual=true
 kp:keepIn K (.ref f)=true
section
variable{P:Program}{w:World}{K:Frag}{mg:Str→Option Value}{base:Heap}
end
theorem Bn(h:n≤1000):n<sizeLine:=Nat.lt_of_le_of_lt h (by decide)
section
variable{X:Cx}
theorem Bo:fz X (.builtin "len") (fun xs H Q=>∃a kvs,xs=[V.ref a]∧H a=some (.dK kvs)∧Q (.int kvs.length) H):=by
 intro pins s σ H xs us Q I r h
 obtain⟨a,kvs,rfl,ha,q⟩:=h
 obtain⟨u,rfl,ru⟩:=vals1 r
 cases ru
 exact MK I (.inl ha) fun t s' I'=>⟨.int kvs.length,H,I',⟨t,rfl⟩,q⟩
end
theorem ay{A B:Prop}(h:B):if false=true then A else B:=by
 rw[if_neg zm]
 exact h
theorem aZ{A B:Prop}(h:A):if true=true then A else B:=by
 rw[if_pos rfl]
 exact h
section
variable{κ:Type}[DecidableEq κ]
theorem An:∀{l:List κ}{k:κ},l.Nodup→¬ k∈l→(l++[k]).Nodup
 |[],k,_,_=>by simp
 |a::r,k,h,hk=>by
  obtain⟨h1,h2⟩:=yi.mp h
  show (a::(r++[k])).Nodup
  refine yi.mpr ⟨fun m=>?_,An h2 fun m=>hk (zb.mpr (Or.inr m))⟩
  rcases zP.mp m with q|q
  ·exact h1 q
  ·exact hk (zb.mpr (Or.inl (zz.mp q).symm))
end
end L2
set_option maxHeartbeats 4000000
namespace L2
open PySem PySem.Spec PyProof.Rows
section
variable{X:Cx}
def CG(i j:Str):Bool:=!decide (j.cps.toList<i.cps.toList)
def QZ(i j:Str):Bool:=decide (i.cps.toList<j.cps.toList)
def Q0(g:Str→Str→Bool):R2:=fun x y H Q=>∃i j,x=.str i∧y=.str j∧Q (.bl (g i j)) H
theorem Bp:fO X (compareOp .LtE) (Q0 CG):=by
 intro pins s σ H x y v u Q I rx ry h
 obtain⟨i,j,rfl,rfl,q⟩:=h
 obtain⟨t,rfl⟩:=rx
 obtain⟨t',rfl⟩:=ry
 exact P.le_str (av I q rfl)
theorem Bq:fO X (compareOp .GtE) (Q0 fun i j=>CG j i):=by
 intro pins s σ H x y v u Q I rx ry h
 obtain⟨i,j,rfl,rfl,q⟩:=h
 obtain⟨t,rfl⟩:=rx
 obtain⟨t',rfl⟩:=ry
 exact P.ge_str (av I q rfl)
theorem Br:fO X (compareOp .Gt) (Q0 fun i j=>QZ j i):=by
 intro pins s σ H x y v u Q I rx ry h
 obtain⟨i,j,rfl,rfl,q⟩:=h
 obtain⟨t,rfl⟩:=rx
 obtain⟨t',rfl⟩:=ry
 exact P.gt_str (av I q rfl)
def HX(_ j:Int):Prop:=0<j∧j.natAbs.log2<9000
theorem Dc:fO X (binaryOp .FloorDiv) (rI HX fun i j=>.int (i / j)):=Ph fun i j _ _ _ _ _ hc q=>by
 have hj:j≠0:=by have:=hc.1;omega
 exact floordiv_int hj (by rw[Int.fdiv_eq_ediv_of_nonneg _ (by have:=hc.1;omega)];exact q) (.inl (PyProof.noPylong_of_log2 hc.2))
end
def Q1(x:Str):It:=⟨fun i _=>i<x.cps.size,fun i H v H'=>H'=H∧∃c,x.cps[i]?=some c∧v=.str ⟨#[c]⟩,fun i _=>x.cps.size≤i⟩
theorem uP{P:Program}{w:World}{K:Frag}{tg:Expr}{T:String}(hT:["enumerate","zip","dict_itemiterator","dict_reverseitemiterator","odict_iterator","itertools.zip_longest","itertools.pairwise"].contains T=false)(it:Addr)(x:Str)(t:Tok)
  (W:∀A':Around,A'.handled=none→Walks P w A' it [it] [it] x.cps.size (SignAt x) (fun i h=>h.IsStrIter it T x t i))
  (Q2:∀(A:Around) (s:Shared) (E:Value→Shared→Prop) (i:Nat) (Q:Option Value→Shared→Prop),A.handled=none→s.heap.IsStrIter it T x t i→x.cps[i]?=none→(∀h',Heap.ExtBut it s.heap h'→Q none { s with heap:=h' })→wpAny (model P w) A (pyNext (.ref it)) Q E s)
  (ML:∀(A:Around) (s:Shared) (E:Value→Shared→Prop) (i:Nat) (Q:Value→Shared→Prop),s.heap.IsStrIter it T x t i→Q (.ref it) s→wpAny (model P w) A (pyIter (.ref it)) Q E s) :
  Turn P w K tg (Q1 x) [it] it (fun i h=>h.IsStrIter it T x t i) where
 mem:=by simp
 obj:=fun i h st b hb=>by
  have e:b=it:=by simpa using hb
  subst e
  obtain⟨o,e,c,d⟩:=st
  exact⟨o,e,fun v z=>by rw[d] at z;cases z⟩
 keep:=fun i h h' st k=>by
  obtain⟨o,e,c,d⟩:=st
  exact⟨o,k it (by simp) o e,c,d⟩
 item:=by
  intro X hP hw hK hc i pins s σ H E I hf st hg
  subst hP hw hK
  obtain⟨f0,f1,f2,f3,f4,f5⟩:=hf it (by simp)
  refine (W X.A (I.ok.hd hc)).item i s _ _ hg st fun v h' tk hv ie kk=>?_
  obtain⟨c,u,MM,rfl⟩:=hv
  have I1:Inv X pins σ H { s with heap:=h',toks:=tk }:=I.turned (fun b o hb e=>kk b o (by simpa using hb) e) f0 f1 f3 f4 f5
  obtain⟨o,e,c',d⟩:=id ie
  exact⟨_,rfl,uF (s:={ s with heap:=h',toks:=tk }) e c' d hT ⟨.str ⟨#[c]⟩,H,I1,⟨u,rfl⟩,⟨rfl,c,MM,rfl⟩,ie,fun b hb=>(hf b hb).1⟩⟩
 done:=by
  intro X hP hw hK hc i pins s σ H E I hf st hg
  subst hP hw hK
  obtain⟨f0,f1,f2,f3,f4,f5⟩:=hf it (by simp)
  have hg:x.cps.size≤i:=hg
  exact Q2 X.A s E i _ (I.ok.hd hc) st (by simp;exact hg) fun h' eb=>⟨rfl,I.turned (t':=s.toks) (fun b o hb e=>eb b o hb e) f0 f1 f3 f4 f5⟩
 self:=fun A' i s Q E st h=>ML A' s E i Q st h
section
variable{X:Cx}{tg:Expr}
def Q3(tl:TE):TI:=fun σ H R=>tl σ H fun x H1=>∃z,x=.str z∧R (Q1 z) H1
theorem JU(hl:PE X l tl):PI X tg l (Q3 tl):=by
 intro pins s σ H R I h
 refine bt (hl pins s σ H _ I h) fun v s1 ⟨x,H1,I1,r1,q1⟩=>?_
 obtain⟨z,e,q⟩:=q1
 subst e
 obtain⟨t,rfl⟩:=r1
 have fin:∀(T:String) (_:Turn X.prog X.w X.K tg (Q1 z) [s1.heap.objs.size] s1.heap.objs.size (fun i h=>h.IsStrIter s1.heap.objs.size T z t i)),
   Pe X pins σ tg R (.ref s1.heap.objs.size) { s1 with heap:=s1.heap.push { cls:=.type T,data:=.fields #[.str z t,.int 0 0] } }:=fun T tn=>by
  refine⟨s1.heap.objs.size,[s1.heap.objs.size],_,_,H1,rfl,I1.kept (t':=s1.toks) fun b o e=>zd _ e,tn,⟨_,zB _ rfl,rfl,rfl⟩,fun b hb=>?_,q⟩
  have e:b=s1.heap.objs.size:=by simpa using hb
  subst e
  exact I1.qr (zh _) (I1.aQ.fresh (zh _))
 cases ha:z.cps.all (·<128)
 ·exact wpAny_pyIter_wide ha (fin _ (uP (by decide) _ z t (fun A' hA=>Walks.strWide hA _ z t) (fun A s E i Q hh st hx hQ=>wpAny_pyNext_wide_end hh st hx hQ) (fun A s E i Q st hq=>wpAny_pyIter_striter_wide st hq)))
 ·exact wpAny_pyIter_ascii ha (fin _ (uP (by decide) _ z t (fun A' hA=>Walks.strAscii hA _ z t) (fun A s E i Q hh st hx hQ=>wpAny_pyNext_ascii_end hh st hx hQ) (fun A s E i Q st hq=>wpAny_pyIter_striter_ascii st hq)))
end
def clOf(cells:List (Str×Addr))(names:List (Str×NameKind)):List (Str×Addr) :=
 names.foldl (fun cs p=>if p.2 == .free then match cells.lookup p.1 with|some a=>(p.1,a)::cs|none=>cs else cs) []
theorem uQ(cells:List (Str×Addr)):∀(names:List (Str×NameKind)) (cs:List (Str×Addr)),(∀x c,cs.lookup x=some c→cells.lookup x=some c) →
  ∀x c,(names.foldl (fun cs p=>if p.2 == .free then match cells.lookup p.1 with|some a=>(p.1,a)::cs|none=>cs else cs) cs).lookup x=some c→cells.lookup x=some c
 |[],cs,h=>h
 | (n,k)::r,cs,h=>by
  rw[yz]
  refine uQ cells r _ fun x c e=>?_
  dsimp only at e
  split at e
  ·split at e
   ·rename_i a ha
    rw[zO] at e
    split at e
    ·rename_i hx
     have:=LawfulBEq.eq_of_beq hx
     cases e
     rw[this]
     exact ha
    ·exact h x c e
   ·exact h x c e
  ·exact h x c e
theorem rB(cells:List (Str×Addr)):∀(names:List (Str×NameKind)) (cs:List (Str×Addr)) (x:Str) (c:Addr),(∀y c,cs.lookup y=some c→cells.lookup y=some c)→cs.lookup x=some c →
  (names.foldl (fun cs p=>if p.2 == .free then match cells.lookup p.1 with|some a=>(p.1,a)::cs|none=>cs else cs) cs).lookup x=some c
 |[],cs,x,c,_,h=>h
 | (n,k)::r,cs,x,c,hs,h=>by
  rw[yz]
  have Fz:∀y c,(if (k == NameKind.free)=true then match cells.lookup n with|some a=>(n,a)::cs|none=>cs else cs).lookup y=some c→cells.lookup y=some c:=by
   intro y c e
   split at e
   ·split at e
    ·rename_i a ha
     rw[zO] at e
     split at e
     ·rename_i hx
      have:=LawfulBEq.eq_of_beq hx
      cases e
      rw[this]
      exact ha
     ·exact hs y c e
    ·exact hs y c e
   ·exact hs y c e
  refine rB cells r _ x c Fz ?_
  dsimp only
  split
  ·split
   ·rename_i a ha
    rw[zO]
    split
    ·rename_i hx
     have:=LawfulBEq.eq_of_beq hx
     rw[this] at h
     have:=hs _ _ h
     rw[ha] at this
     exact this
    ·exact h
   ·exact h
  ·exact h
theorem ou(cells:List (Str×Addr)):∀(names:List (Str×NameKind)) (cs:List (Str×Addr)) (x:Str) (c:Addr),(∀y c,cs.lookup y=some c→cells.lookup y=some c)→(x,NameKind.free)∈names→cells.lookup x=some c →
  (names.foldl (fun cs p=>if p.2 == .free then match cells.lookup p.1 with|some a=>(p.1,a)::cs|none=>cs else cs) cs).lookup x=some c
 |[],cs,x,c,_,h,_=>nomatch h
 | (n,k)::r,cs,x,c,hs,h,hc=>by
  rw[yz]
  have Fz:∀y c,(if (k == NameKind.free)=true then match cells.lookup n with|some a=>(n,a)::cs|none=>cs else cs).lookup y=some c→cells.lookup y=some c:=by
   intro y c e
   split at e
   ·split at e
    ·rename_i a ha
     rw[zO] at e
     split at e
     ·rename_i hx
      have:=LawfulBEq.eq_of_beq hx
      cases e
      rw[this]
      exact ha
     ·exact hs y c e
    ·exact hs y c e
   ·exact hs y c e
  rcases zb.mp h with e|h
  ·cases e
   refine rB cells r _ _ c Fz ?_
   dsimp only
   rw[if_pos (show (NameKind.free == NameKind.free)=true by decide),hc]
   simp [zO]
  ·exact ou cells r _ x c Fz h hc
theorem jv{scope:Scope}{env:Env}(h:∀x∈scope.names,x.2=.free→∃c,env.cells.lookup x.1=some c):closureFor scope env=pure (clOf env.cells scope.names):=by
 have go:∀(names:List (Str×NameKind)) (cs:List (Str×Addr)),(∀x∈names,x.2=.free→∃c,env.cells.lookup x.1=some c) →
   (forIn names cs fun x r=>match x with|(name,kind)=>if (kind == NameKind.free)=true then do let a ← cellOf env name;pure (ForInStep.yield ((name,a)::r)) else pure (ForInStep.yield r):Sem (List (Str×Addr))) =
    pure (names.foldl (fun cs p=>if p.2 == .free then match env.cells.lookup p.1 with|some a=>(p.1,a)::cs|none=>cs else cs) cs):=by
  intro names
  induction names with
  |nil=>intro cs _;rfl
  |cons p r ih =>
   intro cs hp
   obtain⟨n,k⟩:=p
   rw[List.forIn_cons,yz]
   by_cases hk:k=.free
   ·subst hk
    obtain⟨c,hc⟩:=hp _ zj rfl
    have hc:env.cells.lookup n=some c:=hc
    have e1:cellOf env n=pure c:=by unfold cellOf;rw[hc]
    have ef:(NameKind.free == NameKind.free)=true:=by decide
    dsimp only
    rw[if_pos ef,if_pos ef,e1,hc]
    exact ih _ fun x hx=>hp x (zl _ hx)
   ·have U_:(k == NameKind.free)=false:=by simpa using hk
    dsimp only
    rw[U_,if_neg zm,if_neg zm]
    exact ih _ fun x hx=>hp x (zl _ hx)
 have e:=go scope.names [] h
 have e2:closureFor scope env=(forIn scope.names [] (fun x r=>match x with|(name,kind)=>if (kind == NameKind.free)=true then do let a ← cellOf env name;pure (ForInStep.yield ((name,a)::r)) else pure (ForInStep.yield r)):Sem (List (Str×Addr))) >>= fun cs=>pure cs:=rfl
 rw[e2,e]
 rfl
theorem iw{env:Env}{names:List (Str×NameKind)}{x:Str} :
  (names.map fun (n,k)=>if (k == NameKind.free && env.scope.kind == .function && env.kindOf n == some .cell) then (n,NameKind.cell) else (n,k)).lookup x =
   (names.lookup x).map fun k=>if (k == NameKind.free && env.scope.kind == .function && env.kindOf x == some .cell) then NameKind.cell else k:=by
 induction names with
 |nil=>rfl
 |cons p r ih =>
  obtain⟨n,k⟩:=p
  rw[zF,zO]
  by_cases hc:(k == NameKind.free && env.scope.kind == .function && env.kindOf n == some .cell)=true
  ·dsimp only
   rw[if_pos hc,zO]
   cases hx:x == n with
   |true =>
    have:=LawfulBEq.eq_of_beq hx
    subst this
    dsimp only [Option.map]
    rw[if_pos hc]
   |false=>exact ih
  ·dsimp only
   rw[if_neg hc,zO]
   cases hx:x == n with
   |true =>
    have:=LawfulBEq.eq_of_beq hx
    subst this
    dsimp only [Option.map]
    rw[if_neg hc]
   |false=>exact ih
def g7(X:Cx)(N:List Str)(scope:Scope)(C:Addr)(s:Shared)(H:Hp)(ex:List Addr)(pn:List (Addr×Obj)):Cx :=
 { X with N:=N,cV:=s,uD:=H,env:=compEnvC scope (clOf X.env.cells scope.names) C X.env,outer:=X.stack,ex:=ex,fn:=fun _=>false,pn:=pn,xe:=fun _ _=>False }
def pick(σ:St)(src:List (Option Nat)):St:=src.map fun o=>match o with|some j=>(σ[j]?).join|none=>none
structure eT(X:Cx)(N:List Str)(src:List (Option Nat))(scope:Scope):Prop where
 kind:scope.kind=.function
 sA:∀y∈scope.names,y.2≠.cell
 loc:∀y∈scope.names,y.2=.local→scope.names.lookup y.1=some .local
 LD:∀y∈scope.names,y.2=.free→X.env.kindOf y.1=some .cell∨X.env.kindOf y.1=some .free
 len:src.length=N.length
 src:∀(i j:Nat) (x:Str),src[i]?=some (some j)→N[i]?=some x→X.N[j]?=some x∧scope.names.lookup x=some .free∧Lu X.env.scope x
def Ext(σ aA:St):Prop:=aA.length=σ.length∧∀(j:Nat) v,σ[j]?=some (some v)→aA[j]?=some (some v)
def w_(g:TG)(src:List (Option Nat)):Prop:=∀x σ H Q,g x (pick σ src) H Q→g x (pick σ src) H fun aA H'=>Ext (pick σ src) aA∧Q aA H'
def Dd(wi:TI)(src:List (Option Nat))(g:TG)(tc:TT)(te:TE):TE:=fun σ H Q=>wi σ H fun J H1 =>
 ∃W:Nat→Nat→List V→Hp→Prop,(∃m,W 0 m [] H1)∧∀i m out H',W i m out H' →
  (J.stop i H'∧∀D,H' D=none→Q (.ref D) (upd H' D (.lst out))) ∨
  (J.go i H'∧out.length<sizeLine∧∀x H2,J.Md i H' x H2→g x (pick σ src) H2 fun fw H3=>tc fw H3 fun b H4 =>
   if b=true then te fw H4 fun v H5=>∃m',m'<m∧W (i+1) m' (out++[v]) H5 else ∃m',m'<m∧W (i+1) m' out H4)
section
variable{X:Cx}{N:List Str}{src:List (Option Nat)}{scope:Scope}{tg iter elt:Expr}{ifs:List Expr}{pos:Pos}{wi:TI}{g:TG}{tc:TT}{te:TE}
def LF(X:Cx)(ifs:List Expr)(t:TT):Prop :=
 ∀(pins:List (Addr×Obj)) (s:Shared) (σ:St) (H:Hp) (Q:Bool→Hp→Prop),Inv X pins σ H s→t σ H Q →
  wpAny (model X.prog X.w) X.A (forIn ifs true fun c r=>if r=true then do let ok ← isTrue c X.env (eval c X.env);pure (ForInStep.yield ok) else pure (ForInStep.yield r)) (TP X pins σ Q) X.xe s
def MN:TT:=fun _ H Q=>Q true H
theorem Gj:LF X [] MN:=fun pins s σ H Q I h=>wpAny_tests_nil ⟨H,I,h⟩
theorem Gk(h:PT X c t):LF X [c] t:=fun pins s σ H Q I hw=>wpAny_tests_one (h pins s σ H Q I hw)
theorem jj(LG:∀x s',EE x s'→notedBy (model prog w) A env (fun e s'=>R (.error e) s') x s')(I:Nat→Shared→Prop)
  (turn:∀n s,I n s→wpAny (model prog w) A (pyNext it) (fun r s₁=>match r with
   |none=>R (.ok .next) s₁
   |some v=>wpAny (model prog w) A (letOwnedTupleGo target it v) (fun _ HY=>wpAny (model prog w) A (assign target env v) (fun _ bE =>
     wpAny (model prog w) A (forIn ifs true fun c r=>if r=true then do let ok ← isTrue c env (eval c env);pure (ForInStep.yield ok) else pure (ForInStep.yield r)) (fun ok wN =>
      if ok=true then wpAny (model prog w) A (eval elt env) (fun x uR =>
       wpAny (model prog w) A (call (.builtin "list.append") [acc,x]) (fun _ MO=>∃m,m<n∧I m MO) EE uR) EE wN
      else ∃m,m<n∧I m wN) EE bE) EE HY) EE s₁) EE s)
  (n:Nat) (h:I n s) :
  codeAny (model prog w) A (.compLoop (.ListComp elt [⟨target,iter,ifs,0⟩] scope pos) 0 it acc env) R s:=by
 refine codeAny_loop rfl I (fun n s hI=>?_) n h
 show wpAny _ A ((compTurn (.ListComp elt [⟨target,iter,ifs,0⟩] scope pos) 0 it acc env).onRaise (fun x=>do noteFrame x env;theTreesLotGoes x)) _ _ s
 refine wpAny_noted ?_
 rw[compTurn_list]
 refine zc (wpAny_standAt (zc (yy (turn n s hI) (fun r s₁ xa=>?_) LG)))
 cases r with
 |none=>exact zx xa
 |some v =>
  refine zc (yy xa (fun _ HY MP=>?_) LG)
  refine zc (yy MP (fun _ bE Q4=>zc (yy Q4 (fun ok wN MQ=>?_) LG)) LG)
  cases ok with
  |false=>exact zx ⟨rfl,MQ⟩
  |true =>
   exact zc (zc (yy MQ (fun x uR Q5=>zc (yy Q5 (fun _ MO Q6=>zx (zx ⟨rfl,Q6⟩)) LG)) LG))
def CompEnd(X:Cx)(pins:List (Addr×Obj))(σ:St)(Q:VK)(D C:Addr)(s':Shared):Prop :=
 ∃H' m,Inv X pins σ H' s'∧Q (.ref D) H'∧s'.heap.Ns C m∧H' C=none∧C≠X.env.locals∧X.cV.heap.objs.size≤C∧(∀x c,X.env.cells.lookup x=some c→c≠C)∧(∀p∈X.pn++pins,p.1≠C)
theorem rC{pins:List (Addr×Obj)}{bE:Shared}{σ:St}{ig:Hp}{Q:VK}{it:Addr}{fp:List Addr}{tn:Nat→Heap→Prop}{J:It}{E:Value→Shared→Prop}(S:eT X N src scope)(hc:X.calm=true)
  (hg:∀C s H ex pn,PG (g7 X N scope C s H ex pn) tg g) (hx:w_ g src) (hi:∀C s H ex pn,LF (g7 X N scope C s H ex pn) ifs tc) (he:∀C s H ex pn,PE (g7 X N scope C s H ex pn) elt te)
  (I:Inv X pins σ ig bE) (T:Turn X.prog X.w X.K tg J fp it tn) (st:tn 0 bE.heap) (ff:∀b∈fp,n_ X pins ig b)
  (W:Nat→Nat→List V→Hp→Prop) (w0:∃m,W 0 m [] ig)
  (turn:∀i m out H',W i m out H'→(J.stop i H'∧∀D,H' D=none→Q (.ref D) (upd H' D (.lst out))) ∨
   (J.go i H'∧out.length<sizeLine∧∀x H2,J.Md i H' x H2→g x (pick σ src) H2 fun fw H3=>tc fw H3 fun b H4 =>
    if b=true then te fw H4 fun v H5=>∃m',m'<m∧W (i+1) m' (out++[v]) H5 else ∃m',m'<m∧W (i+1) m' out H4))
  {RR:Value→Addr→Result→Shared→Prop} (Va:∀D C s',CompEnd X pins σ Q D C s'→RR (.ref D) C (.ok .next) s') :
  wpAny (model X.prog X.w) X.A (newList []) (fun acc wN=>wpAny (model X.prog X.w) X.A (newFunctionEnv scope X.env.globals (clOf X.env.cells scope.names) [] X.env.qual none .none (some X.env)) (fun MR uR =>
   codeAny (model X.prog X.w) X.A (.compStart (.ListComp elt [⟨tg,iter,ifs,0⟩] scope pos) 0 (.ref it) acc { MR with scope:=relabel scope X.env }) (RR acc MR.locals) uR) E wN) E bE:=by
 refine wpAny_newObj_type (wpAny_newFunctionEnv S.sA (by intro y hy;simp at hy) (fun xa sC ow=>?_) S.kind)
 dsimp only at sC ow ⊢
 generalize Q7:bE.heap.push { cls:=.type "list",dict:=none,data:=.seq ([]:List Value).toArray }=G2 at sC ow ⊢
 have hC:G2.objs.size=bE.heap.objs.size+1:=by rw[← Q7,yw]
 have LH:bE.heap.objs.size≠G2.objs.size:=by rw[hC];exact zG (Nat.lt_succ_self _)
 have Gm:bE.heap.objs.size≤G2.objs.size:=by rw[hC];exact yG _
 have old:∀b o,bE.heap.get? b=some o→xa.get? b=some o:=fun b o e =>
  ow.extBut b o (zG (zr (zy e) Gm)) (zd _ (Q7 ▸ zd _ e))
 have MS:xa.get? bE.heap.objs.size=some { cls:=.type "list",dict:=none,data:=.seq ([]:List Value).toArray }:=ow.extBut _ _ LH (zd _ (Q7 ▸ zB _ rfl))
 generalize Yc:G2.objs.size=C at hC LH Gm sC ow ⊢
 have km:bE.heap.objs.size≤C:=Gm
 generalize hD:bE.heap.objs.size=D at hC LH Gm MS ⊢
 have ox:∀x c,(clOf X.env.cells scope.names).lookup x=some c→X.env.cells.lookup x=some c:=uQ X.env.cells scope.names [] (by intro x c h;simp at h)
 have Df:∀x c,X.env.cells.lookup x=some c→c<bE.heap.objs.size:=fun x c e=>by obtain⟨v,q⟩:=I.cell x c e;exact q.lt
 have JV:∀b∈fp,b<bE.heap.objs.size:=fun b hb=>by
  obtain⟨o,e,_⟩:=T.obj _ _ st b hb
  exact zy e
 -- the block's context
 have ok:(g7 X N scope C bE ig fp (X.pn++pins)).Ok:=by
  refine⟨I.ok.mod,S.kind,I.ok.glob,I.ok.blt,km,fun x y c h1 h2=>I.ok.inj x y c (ox _ _ h1) (ox _ _ h2),fun x hk=>?_,fun x c h=>(nomatch h),I.ok.hd,I.ok.frames,.inl rfl,fun b hb=>⟨?_,fun x c h=>?_⟩,
   I.bs,zt I.ok.IW I.sz,fun b o e hb=>?_,fun b hb hf=>?_,I.stack,I.sj⟩
  ·-- cells for the names
   have hk:(relabel scope X.env).names.lookup x=some .cell∨(relabel scope X.env).names.lookup x=some .free:=hk
   unfold relabel at hk
   dsimp only at hk
   rw[iw] at hk
   cases hl:scope.names.lookup x with
   |none=>rw[hl] at hk;rcases hk with z|z <;> cases z
   |some k =>
    rw[hl] at hk
    have hm:=yo hl
    have MT:k=.free:=by
     by_cases MT:k=.free
     ·exact MT
     ·exfalso
      have e1:(k == NameKind.free)=false:=by simpa using MT
      simp only [Option.map,e1,zE,Bool.false_eq_true,if_false] at hk
      rcases hk with z|z
      ·exact S.sA _ hm (zS z)
      ·exact MT (zS z)
    subst MT
    obtain⟨c,MM⟩:=I.ok.has x (S.LD _ hm rfl)
    exact⟨c,ou X.env.cells scope.names [] x c (by intro x c h;simp at h) hm MM⟩
  ·exact zG (zr (JV b hb) km)
  ·exact (ff b hb).2.2.2.2.1 x c (ox _ _ h)
  ·have q:b∈X.ex∨X.cV.heap.objs.size≤b:=(ff b hb).2.2.2.1
   rcases q with q|q
   ·exact I.ok.IX b o e q
   ·exact absurd (zr (zy e) (zt I.ok.IW q)) (yA _)
  ·rcases zb.mp (I.lK b hf) with z|z
   ·exact (ff b hb).2.1 z
   ·exact (ff b hb).2.2.1 z
 have MU:∀p∈X.pn++pins,p.1∉m_ X.stack:=fun p hp z=>by
  obtain⟨_,_,ne,nf,_⟩:=I.pin p hp
  rcases zb.mp (I.lK _ z) with q|q
  ·exact ne q
  ·exact nf q
 have Dg:∀p∈X.pn++pins,p.1<bE.heap.objs.size:=fun p hp=>zy (I.pin p hp).1
 have MV:∀b∈m_ X.stack,b<bE.heap.objs.size:=fun b hb=>by
  rcases zb.mp (I.lK b hb) with z|z
  ·rw[z];exact I.lt
  ·obtain⟨_,o,ho,_⟩:=I.ok.nY.mem z
   exact zr (zy ho) I.sz
 have Q8:∀(i:Nat) (x:Str) (v:V),N[i]?=some x→(pick σ src)[i]?=some (some v)→∃u c,RelV v u∧(clOf X.env.cells scope.names).lookup x=some c∧bE.heap.IsCell c (some u)∧scope.names.lookup x=some .free:=fun i x v e1 e2=>by
  unfold pick at e2
  rw[zV] at e2
  cases es:src[i]? with
  |none=>rw[es] at e2;cases e2
  |some o =>
   rw[es] at e2
   cases o with
   |none=>cases e2
   |some j =>
    have e3:(σ[j]?).join=some v:=zS e2
    have e4:σ[j]?=some (some v):=by
     cases q:σ[j]? with
     |none=>rw[q] at e3;cases e3
     |some z=>rw[q] at e3;exact congrArg some e3
    obtain⟨a1,a2,a3⟩:=S.src i j x es e1
    obtain⟨m0,_,hl⟩:=I.loc
    obtain⟨u,r,l⟩:=hl j x v a1 e4 a3
    have hm:=yo a2
    have hk:=S.LD _ hm rfl
    rcases l with ⟨k,_⟩|⟨_,c,MM,z⟩
    ·rcases hk with hk|hk <;> (rw[k] at hk;cases hk)
    ·exact⟨u,c,r,ou X.env.cells scope.names [] x c (by intro x c h;simp at h) hm MM,z,a2⟩
 have kinds:∀x,scope.names.lookup x=some .free→(compEnvC scope (clOf X.env.cells scope.names) C X.env).kindOf x=some .cell∨(compEnvC scope (clOf X.env.cells scope.names) C X.env).kindOf x=some .free:=fun x hx=>by
  show (relabel scope X.env).names.lookup x=some .cell∨(relabel scope X.env).names.lookup x=some .free
  unfold relabel
  dsimp only
  rw[iw,hx]
  dsimp only [Option.map]
  split
  ·exact .inl rfl
  ·exact .inr rfl
 have Ic:Inv (g7 X N scope C bE ig fp (X.pn++pins)) [] (pick σ src) ig { bE with heap:=xa,toks:=bE.toks+([]:List (Str×Value)).length }:=by
  refine⟨ok,rfl,I.bare,Un.kept old,⟨_,sC,fun i x v e1 e2 e3=>?_⟩,fun x c e=>?_,I.aQ.fresh km,fun x c e=>I.kf x c (ox x c e),fun p hp=>?_,I.aQ.kept old,?_⟩
  ·obtain⟨u,c,r,e5,⟨o,ho,hd⟩,hf⟩:=Q8 i x v e1 e2
   exact⟨u,r,.inr ⟨kinds x hf,c,e5,⟨o,old _ _ ho,hd⟩⟩⟩
  ·obtain⟨v,o,ho,hd⟩:=I.cell x c (ox x c e)
   exact⟨v,o,old _ _ ho,hd⟩
  ·have hp:p∈X.pn++pins:=by simpa [g7] using hp
   obtain⟨e,n,_,_,d⟩:=I.pin p hp
   exact⟨old _ _ e,n,zG (zr (Dg p hp) km),MU p hp,d⟩
  ·show (pick σ src).length=N.length
   unfold pick
   rw[za,S.len]
 have uS:bE.heap.objs.size≤D:=Nat.le_of_eq hD
 have JW:D∉m_ X.stack:=fun z=>absurd (zr (MV D z) uS) (yA _)
 have HZ:D∉fp:=fun z=>absurd (zr (JV D z) uS) (yA _)
 have qr:∀{pl:List (Addr×Obj)}{H':Hp},(∀b∈fp,H' b=none)→(∀p∈pl,p.1∉fp)→∀b∈fp,n_ (g7 X N scope C bE ig fp (X.pn++pins)) pl H' b:=fun {pl H'} hn rk b hb=>by
  obtain⟨f0,f1,f2,f3,f4,f5⟩:=ff b hb
  refine⟨hn b hb,zG (zr (JV b hb) km),fun z=>?_,.inl hb,fun x c e=>f4 x c (ox x c e),fun p hp=>?_⟩
  ·rcases zb.mp (I.lK b z) with q|q
   ·exact f1 q
   ·exact f2 q
  ·have hp:p∈(X.pn++pins)++pl:=hp
   rcases zP.mp hp with hp|hp
   ·exact f5 p hp
   ·exact fun z=>rk p hp (z ▸ hb)
 -- back in the def's own frame
 have back:∀{s':Shared}{H':Hp}{out:List V}{ao:List Value}{nn:Nat}{aA:St},Inv (g7 X N scope C bE ig fp (X.pn++pins)) [] aA H' s'→H' D=none→out.length≤sizeLine→Vals out ao →
   s'.heap.get? D=some { cls:=.type "list",data:=.seq ao.toArray nn }→(∀D,H' D=none→Q (.ref D) (upd H' D (.lst out)))→CompEnd X pins σ Q D C s':=fun {s' H' out ao nn aA} I' hn hl hv ho q=>by
  obtain⟨m,hm,_⟩:=I'.loc
  have un:Un (m_ X.stack) fp ig H' bE.heap s'.heap:=I'.base
  have Vb:∀b o,bE.heap.get? b=some o→b≠D:=fun b o e=>zG (zr (zy e) uS)
  have fD:ig D=none:=I.aQ.fresh uS
  refine⟨upd H' D (.lst out),m,?_,q D hn,hm,by rw[aD (Ne.symm LH)];exact I'.free,yC (zr I.lt km),zt I.sz km,fun x c e=>zG (zr (Df x c e) km),fun p hp=>zG (zr (Dg p hp) km)⟩
  refine I.L4 (ch:=fp) I'.os ⟨un.keep,un.slot,fun b o e n hb=>?_,un.there,fun b xs e=>?_,fun b o u e=>?_,fun b ps e=>?_⟩ (fun b o e=>?_) I'.bare fun b hb=>?_
  ·rw[aD (Vb b o e)];exact un.free b o e n hb
  ·rw[aD (aX e fD)];exact un.gB b xs e
  ·rw[aD (aX e fD)];exact un.jK b o u e
  ·rw[aD (aX e fD)];exact un.jL b ps e
  ·by_cases hb:b=D
   ·subst hb
    rw[bD] at e
    cases e
    exact⟨hl,ao,nn,hv,ho⟩
   ·rw[aD hb] at e
    refine (I'.aQ b o e).sg (fun c v _ q=>q) (fun c q=>?_) fun c xs q=>?_
    ·rw[aD (aX q hn)];exact q
    ·rw[aD (aX q hn)];exact q
  ·obtain⟨f0,f1,f2,f3,f4,f5⟩:=ff b hb
   exact⟨f3,f1,f4,f5⟩
 obtain⟨m0,w0⟩:=w0
 have loop:∀uR:Shared,uR={ bE with heap:=xa,toks:=bE.toks+([]:List (Str×Value)).length } →
   codeAny (model X.prog X.w) X.A (.compLoop (.ListComp elt [⟨tg,iter,ifs,0⟩] scope pos) 0 (.ref it) (.ref D) (compEnvC scope (clOf X.env.cells scope.names) C X.env)) (RR (.ref D) C) uR:=by
  rintro uR rfl
  refine jj (EE:=fun _ _=>False) (fun _ _ f=>f.elim) (fun n s'=>∃i out ao nn H',Inv (g7 X N scope C bE ig fp (X.pn++pins)) [] (pick σ src) H' s'∧H' D=none∧out.length≤sizeLine∧Vals out ao ∧
   s'.heap.get? D=some { cls:=.type "list",data:=.seq ao.toArray nn }∧tn i s'.heap∧(∀b∈fp,H' b=none)∧W i n out H') ?_ m0
   ⟨0,[],[],0,ig,Ic,I.aQ.fresh uS,yq _,.nil,MS,T.keep _ _ _ st fun b hb o e=>old b o e,fun b hb=>(ff b hb).1,w0⟩
  rintro n s3 ⟨i,out,ao,nn,H3,I3,TJ,Q9,Pp,Vc,Mj,Ml,w3⟩
  have JX:∀(ao:List Value) (nn:Nat) (v:Option Value),({ cls:=.type "list",data:=.seq ao.toArray nn } : Obj).data≠.cell v:=fun _ _ _ z=>nomatch z
  have TK:Inv (g7 X N scope C bE ig fp (X.pn++pins)) [(D,{ cls:=.type "list",data:=.seq ao.toArray nn })] (pick σ src) H3 s3:=I3.kg fun p hp=>by
   have e:p=(D,{ cls:=.type "list",data:=.seq ao.toArray nn }):=by simpa using hp
   subst e
   exact⟨Vc,TJ,LH,JW,JX ao nn⟩
  have Q_:∀p∈[((D,{ cls:=.type "list",data:=.seq ao.toArray nn }):Addr×Obj)],p.1∉fp:=fun p hp=>by
   have e:p=(D,{ cls:=.type "list",data:=.seq ao.toArray nn }):=by simpa using hp
   subst e
   exact HZ
  rcases turn i n out H3 w3 with ⟨stop,qn⟩|⟨go,Dh,step⟩
  ·refine bt (T.done (g7 X N scope C bE ig fp (X.pn++pins)) rfl rfl rfl hc i _ s3 _ H3 _ TK (qr Ml Q_) Mj stop) fun r s4 ⟨hr,I4⟩=>?_
   subst hr
   have p4:=(I4.pin (D,{ cls:=.type "list",data:=.seq ao.toArray nn }) (zL _ (by simp))).1
   exact Va D C s4 (back (I4.kg (pins':=[]) fun p hp=>nomatch hp) TJ Q9 Pp p4 qn)
  ·refine bt (T.item (g7 X N scope C bE ig fp (X.pn++pins)) rfl rfl rfl hc i _ s3 _ H3 _ TK (qr Ml Q_) Mj go) fun r s4 ⟨u,hr,h4⟩=>?_
   subst hr
   refine bt h4 fun _ s5 ⟨x,H5,I5,r5,y5,st5,fr5⟩=>?_
   have Qx:=I5.pinned (qr fr5 Q_) (T.obj _ _ st5)
   refine bt (hg _ _ _ _ _ _ s5 _ H5 x u _ Qx r5 (hx x σ H5 _ (step x H5 y5))) fun _ s6 ⟨Mm,H6,I6,e6,q6⟩=>?_
   have fin:∀{s7:Shared}{H7:Hp},Inv (g7 X N scope C bE ig fp (X.pn++pins)) ([(D,{ cls:=.type "list",data:=.seq ao.toArray nn })]++oa fp s5.heap) Mm H7 s7 →
     Inv (g7 X N scope C bE ig fp (X.pn++pins)) [] (pick σ src) H7 s7∧H7 D=none∧s7.heap.get? D=some { cls:=.type "list",data:=.seq ao.toArray nn }∧tn (i+1) s7.heap∧∀b∈fp,H7 b=none:=fun {s7 H7} I7=>by
    have pD:=I7.pin (D,{ cls:=.type "list",data:=.seq ao.toArray nn }) (zL _ (by simp))
    refine⟨(I7.kg (pins':=[]) fun p hp=>nomatch hp).weak e6.1.symm e6.2,pD.2.1,pD.1,T.keep _ _ _ st5 fun b hb o e=>(I7.pin (b,o) (zL _ (zL _ (gC hb e)))).1,fun b hb=>?_⟩
    obtain⟨o,e,d⟩:=T.obj _ _ st5 b hb
    exact (I7.pin (b,o) (zL _ (zL _ (gC hb e)))).2.1
   refine bt (hi _ _ _ _ _ _ s6 Mm H6 _ I6 q6) fun b s7 ⟨H7,I7,q7⟩=>?_
   cases b with
   |false =>
    rw[if_neg zm] at q7 ⊢
    obtain⟨m',hm,w7⟩:=q7
    obtain⟨J7,d7,o7,t7,f7⟩:=fin I7
    exact⟨m',hm,i+1,out,ao,nn,H7,J7,d7,Q9,Pp,o7,t7,f7,w7⟩
   |true =>
    rw[if_pos rfl] at q7 ⊢
    refine bt (he _ _ _ _ _ _ s7 Mm H7 _ I7 q7) fun v s8 ⟨y,H8,I8,r8,m',hm,w8⟩=>?_
    obtain⟨J8,d8,o8,t8,f8⟩:=fin I8
    have hsz:ao.toArray.size≤sizeLine:=by rw[zw,← Pp.length];exact Q9
    refine wpAny_list_append_plain (items:=ao.toArray) (hsz:=hsz) ⟨nn,o8⟩ fun h9 ⟨n9,e9⟩ sb=>?_
    have J9:Inv (g7 X N scope C bE ig fp (X.pn++pins)) [] (pick σ src) H8 { s8 with heap:=h9 }:=J8.turned (t':=s8.toks) (it:=D) (fun b o hb e=>(sb.2 b hb).trans e) d8 LH (.inr uS) (fun x c e=>zG (zr (Df x c (ox x c e)) uS)) fun p hp=>by
     have hp:p∈X.pn++pins:=by simpa [g7] using hp
     exact zG (zr (Dg p hp) uS)
    refine⟨m',hm,i+1,out++[y],ao++[v],n9,H8,J9,d8,?_,Pp.append (.cons r8 .nil),?_,T.keep _ _ _ t8 fun b hb o e=>(sb.2 b (fun z=>HZ (z ▸ hb))).trans e,f8,w8⟩
    ·rw[zo];exact Dh
    ·rw[e9];simp
 exact codeAny_compStart_list (loop _ rfl) (T.self _ _ _ _ _ (T.keep _ _ _ st fun b hb o e=>old b o e) (loop _ rfl))
theorem Gn(S:eT X N src scope)(hc:X.calm=true)(hit:PI X tg iter wi)
  (hg:∀C s H ex pn,PG (g7 X N scope C s H ex pn) tg g) (hx:w_ g src) (hi:∀C s H ex pn,LF (g7 X N scope C s H ex pn) ifs tc) (he:∀C s H ex pn,PE (g7 X N scope C s H ex pn) elt te)
  (hs:∀x,foldedSetIterable iter X.env x=pure x:=by intro _;rfl):PE X (.ListComp elt [⟨tg,iter,ifs,0⟩] scope pos) (Dd wi src g tc te):=by
 intro pins s σ H Q I h
 rw[eval_ListComp]
 have Gp:closureFor scope X.env=pure (clOf X.env.cells scope.names):=jv fun y hy hf=>I.ok.has y.1 (S.LD y hy hf)
 refine wpAny_comprehension_free (use:=none) rfl hs Gp S.kind S.loc (bt (hit pins s σ H _ I h) fun v s1 h1=>bt h1 fun Pg s2 h2=>?_)
 obtain⟨it,fp,tn,J,H2,e,I2,T,Mi,f2,W,w0,turn⟩:=h2
 subst e
 refine rC (RR:=fun acc C=>compPost (model X.prog X.w) X.A X.xe none (EP X pins σ Q) acc C) S hc hg hx hi he I2 T Mi f2 W w0 turn fun D C s' ⟨H',m,I',q,hm,hn,h1,h2,h3,h4⟩=>?_
 exact⟨m,hm,fun h' sb=>⟨.ref D,H',I'.turned (t':=s'.toks) (it:=C) (fun b o hb e=>(sb.2 b hb).trans e) hn h1 (.inr h2) h3 h4,rfl,q⟩⟩
theorem xb{i:Nat}{x:Str}{pos' Gq:Pos}(hN:X.N.Nodup)(Ra:X.N[i]?=some x)(Pq:X.env.scope.names.lookup x=some .local)
  (S:eT X N src scope) (hc:X.calm=true) (hit:PI X tg iter wi)
  (hg:∀C s H ex pn,PG (g7 X N scope C s H ex pn) tg g) (hx:w_ g src) (hi:∀C s H ex pn,LF (g7 X N scope C s H ex pn) ifs tc) (he:∀C s H ex pn,PE (g7 X N scope C s H ex pn) elt te)
  (Rb:swapsWith (.ListComp elt [⟨tg,iter,ifs,0⟩] scope pos) (some (.Name x pos')) Gq.line X.env=pure true:=by rfl)
  (hs:∀x,foldedSetIterable iter X.env x=pure x:=by intro _;rfl):PS X (.Assign [.Name x pos'] (.ListComp elt [⟨tg,iter,ifs,0⟩] scope pos) Gq) (Jh (Dd wi src g tc te) (g5 i)):=by
 intro pins s σ H D I h
 rw[exec_Assign_Name_used _ _ _ _ Rb]
 refine zc (wpAny_standAt (zc ?_))
 have Gp:closureFor scope X.env=pure (clOf X.env.cells scope.names):=jv fun y hy hf=>I.ok.has y.1 (S.LD y hy hf)
 show wpAny _ X.A (do let _ ← comprehension (.ListComp elt [⟨tg,iter,ifs,0⟩] scope pos) scope X.env _ (newList []) false (eval iter X.env) (some (assign (.Name x pos') X.env))) _ _ s
 refine zc (yy (wpAny_comprehension_free (use:=some (assign (.Name x pos') X.env)) (Q:=fun _ s'=>∃aA H',Inv X pins aA H' s'∧D.nx aA H') rfl hs Gp S.kind S.loc (bt (hit pins s σ H _ I h) fun v s1 h1=>bt h1 fun Pg s2 h2=>?_))
  (fun _ s' hq=>zx (zx hq)) fun _ _ e=>e)
 obtain⟨it,fp,tn,J,H2,e,I2,T,Mi,f2,W,w0,turn⟩:=h2
 subst e
 refine rC (Q:=fun v H1=>D.nx (σ.set i (some v)) H1) (RR:=fun acc C=>compPost (model X.prog X.w) X.A X.xe (some (assign (.Name x pos') X.env)) (fun _ s'=>∃aA H',Inv X pins aA H' s'∧D.nx aA H') acc C) S hc hg hx hi he I2 T Mi f2 W w0 turn fun D' C s' ⟨H',m,I',q,hm,hn,h1,h2,h3,h4⟩=>?_
 show wpAny _ X.A (assign (.Name x pos') X.env (.ref D')) _ _ _
 refine wpAny_assign_Name (q9 I' hN Ra (.inl Pq) (v:=.ref D') rfl (fun Bf Vd ⟨a,sb,ha⟩=>?_) (.inr Pq))
 have Ve:C≠a:=by
  rcases ha with ha|ha
  ·rw[ha];exact h1
  ·exact Ne.symm (h3 _ _ ha)
 refine⟨m,hm.sameBut sb Ve,fun Yd wG=>⟨_,H',Vd.turned (t':=Bf.toks) (it:=C) (fun b o hb e=>(wG.2 b hb).trans e) hn h1 (.inr h2) h3 h4,q⟩⟩
end
theorem lP{σ:St}{src:List (Option Nat)}{i:Nat}(h:src[i]?=some none):(pick σ src)[i]?=some none:=by
 unfold pick
 rw[zV,h]
 rfl
theorem Ext.set(h:σ0[i]?=some none)(e:Ext σ0 σ):Ext σ0 (σ.set i (some v)):=by
 refine⟨by rw[List.length_set];exact e.1,fun j w hj=>?_⟩
 have:i≠j:=by
  rintro rfl
  rw[h] at hj
  cases hj
 rw[List.getElem?_set_ne this]
 exact e.2 j w hj
theorem Ext.refl(σ:St):Ext σ σ:=⟨rfl,fun _ _ h=>h⟩
theorem aM{src:List (Option Nat)}{i:Nat}(h:src[i]?=some none):w_ (g5 i) src:=fun x σ H Q q=>⟨(Ext.refl _).set (lP h),q⟩
theorem ko{K:Frag}{n:Nat}{src:List (Option Nat)}{i j:Nat}(h:src[i]?=some none)(h':src[j]?=some none):w_ (FN K n (n5 (g5 i) (n5 (g5 j) FL))) src:=fun x σ H Q q=>by
 obtain⟨a,xs,e1,hs,hl,v,r,e2,v2,r2,e3,e4,q⟩:=q
 exact⟨a,xs,e1,hs,hl,v,r,e2,v2,r2,e3,e4,((Ext.refl _).set (lP h)).set (lP h'),q⟩
theorem all_bools{xs:List V}{ao:List Value}{bs:List Bool}(hv:Vals xs ao)(hb:xs=bs.map V.bl):∀(i:Nat) (v:Value),ao.toArray[i]?=some v→v=Value.bool ((bs[i]?).getD false):=by
 subst hb
 intro i v h
 have h':ao[i]?=some v:=by simpa using h
 have hl:=hv.length
 rw[za] at hl
 have hi:i<ao.length:=(yd.mp h').1
 have hb:bs[i]?=some (bs[i]'(by lia)):=by simp
 obtain⟨u,hu,r⟩:=hv.get (i:=i) (x:=V.bl (bs[i]'(by lia))) (by rw[zV,hb];rfl)
 rw[h'] at hu
 cases hu
 rw[hb]
 exact r
theorem range_all{bs:List Bool} : (List.range bs.length).all (fun i=>(bs[i]?).getD false)=bs.all id:=by
 rw[yt,zI,zI]
 constructor
 ·intro h b hb
  obtain⟨i,hi,rfl⟩:=List.mem_iff_getElem.mp hb
  have:=h i (List.mem_range.mpr hi)
  simpa [hi] using this
 ·intro h i hi
  have hi:=List.mem_range.mp hi
  simpa [hi] using h _ (List.getElem_mem hi)
section
variable{X:Cx}
theorem qv(hc:X.calm=true):fz X (.builtin "all") (fun xs H Q=>∃(a:Addr) (bs:List Bool),xs=[.ref a]∧jN X.K H a (bs.map V.bl)∧Q (.bl (bs.all id)) H):=by
 intro pins s σ H xs us Q I r h
 obtain⟨a,bs,rfl,hq,q⟩:=h
 obtain⟨u,rfl,ru⟩:=vals1 r
 cases ru
 obtain⟨ao,rv,p,hz⟩:=I.list hq
 have hl:=rv.length
 rw[za] at hl
 refine call_all_walk (wpAny_pyIter_list p.isList ?_)
 refine⟨s.heap.objs.size,_,_,_,_,_,fun i=>(bs[i]?).getD false,rfl,Walks.list (A:=X.A.in1) (I.ok.hd hc) s.heap.objs.size a (zG p.lt) ao.toArray,⟨⟨_,zB _ rfl,rfl,rfl⟩,p.isList.at fun o e=>zd _ e⟩,?_,fun h' tk hk=>?_⟩
 ·intro i v s' Q' E' hv hQ
  rw[all_bools rv rfl i v hv]
  exact yn hQ
 ·have e:ao.toArray.size=bs.length:=by rw[zw,← hl]
  rw[e,range_all]
  exact⟨.bl (bs.all id),H,I.kept (h':=h') (t':=tk) (fun b o e=>hk b o (by simpa using zG (zy e)) (zd _ e)),rfl,q⟩
end
def ownOf:HO→Option Addr
 |.ins _ dx _=>some dx
 |.lJ _ u=>ownOf u
 |_=>none
structure Fg(H H' G:Hp):Prop where
 sub:∀b o,G b=some o→H' b=some o
 Ye:∀b o,H b=some o→∃o',G b=some o'
 own:∀a o dx,G a=some o→ownOf o=some dx→(∃o',H a=some o'∧ownOf o'=some dx)∨∃o',G dx=some o'
section
variable{X:Cx}{pins:List (Addr×Obj)}{σ aA:St}{H H' G:Hp}{s s':Shared}
end
theorem aE:bootBuiltins "len" = some (.builtin "len"):=PySem.boot_len
theorem dD:bootBuiltins "all" = some (.builtin "all"):=boot_all
theorem ah:bootBuiltins "isinstance" = some (.builtin "isinstance"):=boot_isinstance
theorem lQ:bootBuiltins "int" = some (.type "int"):=PyProof.Rows.boot_int
theorem sD:bootBuiltins "bool" = some (.type "bool"):=PyProof.Rows.boot_bool
theorem cq:bootBuiltins "str" = some (.type "str"):=PyProof.Rows.boot_str
theorem ax:bootBuiltins "tuple" = some (.type "tuple"):=PyProof.Rows.boot_tuple
theorem sE:bootBuiltins "list" = some (.type "list"):=PyProof.Rows.boot_list
theorem Gr:bootBuiltins "dict" = some (.type "dict"):=PyProof.Rows.boot_dict
theorem JY:bootBuiltins "set" = some (.type "set"):=PyProof.Rows.boot_set
inductive Kd where
 |aC|bl|int|str|lst|tup|ke
 deriving DecidableEq
def Kd.name:Kd→String
 |.aC => "NoneType" |.bl => "bool" |.int => "int" |.str => "str" |.lst => "list" |.tup => "tuple" |.ke => "dict"
inductive oy (H:Hp):V→Kd→Prop where
 |aC:oy H .aC .aC
 |bl (b:Bool):oy H (.bl b) .bl
 |int (i:Int):oy H (.int i) .int
 |str (x:Str):oy H (.str x) .str
 |lst {a:Addr}{xs:List V} (e:H a=some (.lst xs)):oy H (.ref a) .lst
 |tup {a:Addr}{xs:List V} (e:H a=some (.tup xs)):oy H (.ref a) .tup
 |ke {a:Addr}{kvs:List (Key×V)} (e:H a=some (.dK kvs)):oy H (.ref a) .ke
theorem oy.ty{K:Frag}{H:Hp}{x:V}{k:Kd}(h:oy H x k):lM K H x (.type k.name):=by
 cases h with
 |aC=>exact .aC
 |bl b=>exact .bl b
 |int i=>exact .int i
 |str x=>exact .str x
 |lst e=>exact .lst e
 |tup e=>exact .tup e
 |ke e=>exact .dK e
def uT(T:String):Option (Kd→Bool) :=
 if T = "int" then some fun k=>match k with|.int=>true|.bl=>true|_=>false
 else if T = "bool" then some fun k=>match k with|.bl=>true|_=>false
 else if T = "str" then some fun k=>match k with|.str=>true|_=>false
 else if T = "tuple" then some fun k=>match k with|.tup=>true|_=>false
 else if T = "list" then some fun k=>match k with|.lst=>true|_=>false
 else if T = "dict" then some fun k=>match k with|.ke=>true|_=>false
 else none
theorem Di{K:Frag}{T:String}{g:Kd→Bool}(h:uT T=some g)(k:Kd):kitOne K (.type k.name) (.type T)=some (g k):=by
 unfold uT at h
 split at h
 ·rename_i e;subst e;cases h;cases k <;> rfl
 ·split at h
  ·rename_i e;subst e;cases h;cases k <;> rfl
  ·split at h
   ·rename_i e;subst e;cases h;cases k <;> rfl
   ·split at h
    ·rename_i e;subst e;cases h;cases k <;> rfl
    ·split at h
     ·rename_i e;subst e;cases h;cases k <;> rfl
     ·split at h
      ·rename_i e;subst e;cases h;cases k <;> rfl
      ·cases h
section
variable{X:Cx}
theorem Dj:fz X (.builtin "isinstance") (fun xs H Q=>∃x T k g,xs=[x,.ty T]∧uT T=some g∧oy H x k∧Q (.bl (g k)) H):=by
 intro pins s σ H xs us Q I r h
 obtain⟨x,T,k,g,rfl,hg,hk,q⟩:=h
 obtain⟨v,w',rfl,rv,uL⟩:=vals2 r
 cases uL
 exact Bd I rv hk.ty (Di hg k) fun tk=>⟨.bl (g k),H,I.tok tk,rfl,q⟩
end
mutual
def Dt(K:Frag)(H:Hp):PyData→V→Prop
 |.none,v=>v=.aC
 |.bool b,v=>v=.bl b
 |.int i,v=>v=.int i
 |.str z,v=>v=.str z
 |.list ds,v=>∃a xs,v=.ref a∧jN K H a xs∧DtAll K H ds xs
 |.tuple ds,v=>∃a xs,v=.ref a∧iq K H a xs∧DtAll K H ds xs
 |.dict _,_=>False
def DtAll(K:Frag)(H:Hp):List PyData→List V→Prop
 |[],xs=>xs=[]
 |d::ds,xs=>∃y ys,xs=y::ys∧Dt K H d y∧DtAll K H ds ys
end
section
variable{X:Cx}{pins:List (Addr×Obj)}{σ:St}{H:Hp}{s:Shared}
mutual
theorem Inv.reads(I:Inv X pins σ H s):∀(d:PyData) {x:V}{u:Value},Dt X.K H d x→RelV x u→∃as,Reads s.heap u d as
 |.none,x,u,h,r=>by
  have h:x=.aC:=by simpa only [Dt] using h
  subst h;cases r;exact⟨_,.none⟩
 |.bool b,x,u,h,r=>by
  have h:x=.bl b:=by simpa only [Dt] using h
  subst h;cases r;exact⟨_,.bool b⟩
 |.int i,x,u,h,r=>by
  have h:x=.int i:=by simpa only [Dt] using h
  subst h;obtain⟨t,rfl⟩:=r;exact⟨_,.int i t⟩
 |.str z,x,u,h,r=>by
  have h:x=.str z:=by simpa only [Dt] using h
  subst h;obtain⟨t,rfl⟩:=r;exact⟨_,.str z t⟩
 |.list ds,x,u,h,r=>by
  have h:∃a xs,x=.ref a∧jN X.K H a xs∧DtAll X.K H ds xs:=by simpa only [Dt] using h
  obtain⟨a,xs,rfl,hq,hd⟩:=h
  cases r
  obtain⟨ao,rv,p,_⟩:=I.list hq
  obtain⟨as,ra⟩:=Inv.readsAll I ds hd rv
  obtain⟨o,e,c,n,d⟩:=p.isList
  exact⟨_,.list e c d (by simpa using ra)⟩
 |.tuple ds,x,u,h,r=>by
  have h:∃a xs,x=.ref a∧iq X.K H a xs∧DtAll X.K H ds xs:=by simpa only [Dt] using h
  obtain⟨a,xs,rfl,hq,hd⟩:=h
  cases r
  obtain⟨ao,rv,p,_⟩:=I.tuple hq
  obtain⟨as,ra⟩:=Inv.readsAll I ds hd rv
  obtain⟨o,e,c,n,d⟩:=p
  exact⟨_,.tuple e c d (by simpa using ra)⟩
 |.dict _,x,u,h,r=>by
  have h:False:=by simpa only [Dt] using h
  exact h.elim
theorem Inv.readsAll(I:Inv X pins σ H s):∀(ds:List PyData) {xs:List V}{us:List Value},DtAll X.K H ds xs→Vals xs us→∃as,ReadsAll s.heap us ds as
 |[],xs,us,h,r=>by
  have h:xs=[]:=by simpa only [DtAll] using h
  subst h;cases r;exact⟨_,.nil⟩
 |d::ds,xs,us,h,r=>by
  have h:∃y ys,xs=y::ys∧Dt X.K H d y∧DtAll X.K H ds ys:=by simpa only [DtAll] using h
  obtain⟨y,ys,rfl,h1,h2⟩:=h
  cases r with
  |cons r1 r2 =>
   obtain⟨as,ra⟩:=Inv.reads I d h1 r1
   obtain⟨bs,rb⟩:=Inv.readsAll I ds h2 r2
   exact⟨_,.cons ra rb⟩
end
end
def MW(K:Frag)(neg:Bool):R2:=fun x y H Q=>∃d e,Dt K H d x∧Dt K H e y∧d.canLay0=true∧e.canLay0=true∧(d.depth≤64∨e.depth≤64)∧Q (.bl (if neg then !PyData.eqv d e else PyData.eqv d e)) H
section
variable{X:Cx}
theorem JZ(hu:X.A.units+64<cLine):fO X (compareOp .Eq) (MW X.K false):=by
 intro pins s σ H x y v u Q I rx ry h
 obtain⟨d,e,hd,he,cd,ce,dp,q⟩:=h
 obtain⟨as,ra⟩:=I.reads d hd rx
 obtain⟨bs,rb⟩:=I.reads e he ry
 exact SeqAt.compareEq_reads ra rb cd ce (by rcases dp with dp|dp <;> lia) (av I q rfl)
theorem J2(hu:X.A.units+64<cLine):fO X (compareOp .NotEq) (MW X.K true):=by
 intro pins s σ H x y v u Q I rx ry h
 obtain⟨d,e,hd,he,cd,ce,dp,q⟩:=h
 obtain⟨as,ra⟩:=I.reads d hd rx
 obtain⟨bs,rb⟩:=I.reads e he ry
 exact SeqAt.compareNe_reads ra rb cd ce (by rcases dp with dp|dp <;> lia) (av I q rfl)
end
theorem jb(a b:Nat):CG ⟨#[a]⟩ ⟨#[b]⟩=decide (a≤b):=by
 unfold CG
 have e:([b]<[a])↔b<a:=by
  rw[List.cons_lt_cons_iff]
  constructor
  ·rintro (h|⟨_,h⟩)
   ·exact h
   ·exact absurd h (List.not_lt_nil _)
  ·exact .inl
 rw[yt]
 show (!decide ([b]<[a]))=true↔_
 rw[Bool.not_eq_true',decide_eq_false_iff_not,e,decide_eq_true_iff]
 lia
def chkC(sc:Scope)(N0 N:List Str)(src:List (Option Nat))(scope:Scope):Bool :=
 decide (scope.kind=.function) && (scope.names.all (fun y=>decide (y.2≠.cell) && (decide (y.2≠.local) || decide (scope.names.lookup y.1=some .local)) && (decide (y.2≠.free) || (decide (sc.names.lookup y.1=some .cell) || decide (sc.names.lookup y.1=some .free)))) &&
  (decide (src.length=N.length) && (List.range src.length).all fun i=>match src[i]?,N[i]? with
   |some (some j),some x=>decide (N0[j]?=some x) && (decide (scope.names.lookup x=some .free) && (decide (sc.names.lookup x=some .cell) || decide (sc.names.lookup x=some .free)))
   |_,_=>true))
theorem kr(sc:Scope)(N0:List Str)(hs:X.env.scope=sc)(hN:X.N=N0)(h:chkC sc N0 N src scope=true):eT X N src scope:=by
 unfold chkC at h
 simp only [zg,zi,zI,ye] at h
 obtain⟨h1,h2,h3,h4⟩:=h
 refine⟨h1,fun y hy=>(h2 y hy).1.1,fun y hy e=>?_,fun y hy e=>?_,h3,fun i j x e1 e2=>?_⟩
 ·rcases (h2 y hy).1.2 with z|z
  ·exact absurd e z
  ·exact z
 ·rcases (h2 y hy).2 with z|z
  ·exact absurd e z
  ·show X.env.scope.names.lookup y.1=some .cell∨X.env.scope.names.lookup y.1=some .free
   rw[hs];exact z
 ·have hi:i<src.length:=(yd.mp e1).1
  have q:=h4 i (List.mem_range.mpr hi)
  rw[e1,e2] at q
  simp only [zg,zi,ye] at q
  refine⟨by rw[hN];exact q.1,q.2.1,?_⟩
  unfold Lu
  rw[hs]
  exact .inr q.2.2
section
variable{X:Cx}
end
theorem ku(h0:0≤i)(h1:i<l.length):∃v,jO l i=some v∧l[i.toNat]?=some v:=by
 obtain⟨j,rfl⟩:=Int.eq_ofNat_of_zero_le h0
 have hj:j<l.length:=by lia
 exact⟨l[j],kh (by simp [hj]),by simp [hj]⟩
theorem bz{c:Bool}{A B:Prop}(h:c=true→A)(h':c=false→B):if c=true then A else B:=by
 cases c with
 |true=>exact h rfl
 |false=>exact h' rfl
theorem nt(h:(!b)=true):b=false:=by cases b <;> simp_all
theorem nf(h:(!b)=false):b=true:=by cases b <;> simp_all
def xc:Kd→Bool|.int=>true|.bl=>true|_=>false
def sF:Kd→Bool|.bl=>true|_=>false
def sG:Kd→Bool|.str=>true|_=>false
def kx:Kd→Bool|.tup=>true|_=>false
theorem Gs:uT "int" = some xc:=if_pos rfl
theorem iy:uT "bool" = some sF:=(if_neg (by decide)).trans (if_pos rfl)
theorem bU:uT "str" = some sG:=(if_neg (by decide)).trans ((if_neg (by decide)).trans (if_pos rfl))
theorem aI:uT "tuple" = some kx:=(if_neg (by decide)).trans ((if_neg (by decide)).trans ((if_neg (by decide)).trans (if_pos rfl)))
theorem len_pos{z:Str}(h:1≤z.cps.size):∃c r,z.cps.toList=c::r:=by
 cases e:z.cps.toList with
 |nil =>
  have:z.cps.toList.length=0:=by rw[e];rfl
  rw[yc] at this
  lia
 |cons c r=>exact⟨c,r,rfl⟩
theorem Vf(e:l=c::r):jO l 0=some c:=by
 have:l[0]?=some c:=by rw[e];rfl
 exact kh (j:=0) this
def isPlain:Expr→Bool
 |.Starred _ _=>false
 |_=>true
theorem xf(h:isPlain e=true):starEach (e::es) env=(false,eval e env)::starEach es env:=by
 cases e <;> first
  |rfl
  |exact absurd h zm
theorem Rf(ha:PE X e te)(hr:PA X es t)(hp:isPlain e=true:=by rfl):PA X (e::es) (HR te t):=FW ha hr (xf hp)
end L2
namespace HT
open PySem PyProof.Rows
open PySem.SeqAt
open PySem.AutoSeq1 (wpAny_loadPart')
open PySem.MeetsSeq PySem.MeetsSeq2 PySem.MeetsSeq3
end HT
namespace L2
open PySem PySem.Spec PyProof.Rows
section
variable{X:Cx}
end
section
variable{X:Cx}{K:Frag}
end
theorem aV.get(x:aV P w H h a o):∃u,h.get? a=some u:=by
 cases o with
 |lst xs=>obtain⟨_,_,_,_,e⟩:=x;exact⟨_,e⟩
 |tup xs=>obtain⟨_,_,_,ob,e,_⟩:=x;exact⟨_,e⟩
 |dK kvs=>obtain⟨_,_,_,_,o,_,_,e,_⟩:=x;exact⟨_,e⟩
 |dT kvs=>exact False.elim x
 |set S n=>obtain⟨o,_,_,_,e,_⟩:=x;exact⟨_,e⟩
 |ins C dx fs=>obtain⟨_,_,_,e,_⟩:=x;exact⟨_,e⟩
 |own y=>obtain⟨_,e⟩:=x;exact⟨_,e⟩
 |xd fs=>obtain⟨_,⟨_,_,_,e,_⟩,_⟩:=x;exact⟨_,e⟩
 |O8 lo hi=>obtain⟨_,_,_,e⟩:=x;exact⟨_,e⟩
 |lJ ob u=>obtain⟨e,_⟩:=x;exact⟨_,e⟩
 |uC ps=>exact⟨_,show h.get? a=some _ from x⟩
 |met f y=>exact⟨_,show h.get? a=some _ from x⟩
 |ext φ=>obtain⟨_,e,_⟩:=x;exact e
structure Rg(P:Program)(w:World)(outer:List Env)(H H':Hp)(h0:Heap)(a:Addr)(cls a0:Value)(B h:Heap):Prop where
 fl:Heap.FlyingW B outer a cls a0 h
 aQ:kc P w H' B
 keep:∀b o,h0.get? b=some o→H b=none→b∉m_ outer→B.get? b=some o
 there:∀b o,h0.get? b=some o→b∉m_ outer→∃o',B.get? b=some o'
 slot:∀b o,h0.get? b=some o→b∈m_ outer→∃sl,h.get? b=some { o with slots:=sl }
 free:∀b o,h0.get? b=some o→H b=none→H' b=none
 gB:∀b xs,H b=some (.tup xs)→H' b=some (.tup xs)
 jK:∀b o u,H b=some (.lJ o u)→H' b=some (.lJ o u)
 jL:∀b ps,H b=some (.uC ps)→∃more,H' b=some (.uC (ps++more))
section
variable{P:Program}{w:World}{outer:List Env}{H H':Hp}{h0:Heap}{a:Addr}{cls a0:Value}{B h h2:Heap}
end
def kz(P:Program)(w:World):wW:=fun outer H s E e s' =>
 ∃a cls a0 B H',e=.ref a∧s'.os=s.os∧AllBare s'.gens∧Rg P w outer H H' s.heap a cls a0 B s'.heap∧E cls none H'
structure cX(X:Cx)(E:XK):Prop where
 ex:X.ex=[]
 st:X.stack=X.env::X.outer
 fr:X.env.frame=some X.env.locals
 xe:∀e s',wpAny (model X.prog X.w) X.A (leaving X.env e) (fun _ Bf=>kz X.prog X.w X.outer X.uD X.cV E e Bf) (fun e' Bf=>kz X.prog X.w X.outer X.uD X.cV E e' Bf) s'→X.xe e s'
theorem Bs{P:Program}{w:World}{K:Frag}{mg:Str→Option Value}{base:Heap}{N:List Str}{qual:Str}{scope:Scope}{f:Addr}{cd:Value}{A:Around}{outer:List Env}{s:Shared}{H:Hp}{E:XK} :
  cX (nc (kz P w) P w K mg base N qual scope f cd A outer s H E) E:=⟨rfl,rfl,rfl,fun _ _ h=>h⟩
section
variable{X:Cx}{pins:List (Addr×Obj)}{σ:St}{H H':Hp}{s:Shared}{E E':XK}
theorem cX.mem(L:cX X E):b∈m_ X.stack↔b=X.env.locals∨b∈X.fs:=by
 unfold Cx.fs m_
 rw[L.st,List.filterMap_cons,L.fr]
 exact zb
theorem cX.A5(L:cX X E)(I:Inv X pins σ H s)(e:X.cV.heap.get? b=some o)(h:b∉X.fs):b∉m_ X.stack:=fun z=>by
 rcases L.mem.mp z with z|z
 ·have:=zy e
  have h2:=I.ok.above
  rw[z] at this
  exact absurd (zr this h2) (yA _)
 ·exact h z
theorem cX.Vg(L:cX X E)(I:Inv X pins σ H s)(F:Rg X.prog X.w X.stack H H' s.heap a cls a0 B h)(f2:Heap.FlyingW B X.outer a cls a0 h2)(u2:h.UpToSlots h2) :
  Rg X.prog X.w X.outer X.uD H' X.cV.heap a cls a0 B h2 where
 fl:=f2
 aQ:=F.aQ
 keep:=fun b o e n hf=>F.keep b o (I.base.keep b o e n hf (by rw[L.ex];simp)) (I.base.free b o e n (by rw[L.ex];simp)) (L.A5 I e hf)
 there:=fun b o e hf=>by
  obtain⟨o',q⟩:=I.base.there b o e (by rw[L.ex];simp)
  exact F.there b o' q (L.A5 I e hf)
 slot:=fun b o e hf=>by
  obtain⟨sl,q⟩:=I.base.slot b o e (I.ok.Lv b hf) hf (by rw[L.ex];simp)
  obtain⟨Bt,q1⟩:=F.slot b _ q (L.mem.mpr (.inr hf))
  obtain⟨_,o2,q2,hd⟩:=F.fl.2.2.1.mem (L.mem.mpr (.inr hf))
  obtain⟨C3,q3⟩:=u2 b o2 q2 hd
  rw[q1] at q2;cases q2
  exact⟨C3,q3⟩
 free:=fun b o e n=>by
  obtain⟨o',q⟩:=I.base.there b o e (by rw[L.ex];simp)
  exact F.free b o' q (I.base.free b o e n (by rw[L.ex];simp))
 gB:=fun b xs e=>F.gB b xs (I.base.gB b xs e)
 jK:=fun b o u e=>F.jK b o u (I.base.jK b o u e)
 jL:=fun b ps e=>by
  obtain⟨m1,q1⟩:=I.base.jL b ps e
  obtain⟨m2,q2⟩:=F.jL b _ q1
  exact⟨m1++m2,by rw[q2,Array.append_assoc]⟩
theorem MX(L:cX X E)(hE:∀c d H',E' c d H'→E c d H'):Passes (kz X.prog X.w) X E':=fun pins σ H s e s' I h=>by
 obtain⟨a,cls,a0,B,H',rfl,os,bare,F,q⟩:=h
 refine L.xe _ _ ?_
 have Rh:X.A.frames=some (X.env::X.outer):=by rw[I.ok.frames,L.st]
 have fl:Heap.FlyingW B (X.env::X.outer) a cls a0 s'.heap:=by rw[← L.st];exact F.fl
 exact wpAny_leaves_onW Rh L.fr fl fun h2 f2 u2=>⟨a,cls,a0,B,H',rfl,os.trans I.os,bare,L.Vg I F f2 u2,hE _ _ _ q⟩
theorem J3(I:Inv X pins σ H s):kc X.prog X.w H (hideAll s.heap (m_ X.stack)):=fun a o e =>
 (I.aQ a o e).sg (fun b u hb q=>hideAll_get _ q fun z=>by
  have n:=I.sj b z
  rcases hb with rfl|hb
  ·rw[e] at n;cases n
  ·rw[hb] at n;cases n) (fun _ q=>q) fun _ _ q=>q
theorem uU(L:cX X E)(I:Inv X pins σ H s)(hx:Heap.MadeExcOf s.heap h' a cls args)(hE:E cls none H):X.xe (.ref a) { s with heap:=h' }:=by
 refine L.xe _ _ ?_
 have Rh:X.A.frames=some (X.env::X.outer):=by rw[I.ok.frames,L.st]
 have Gu:∀env∈X.stack,∀b,env.frame=some b→b∈m_ X.stack:=fun env he b hb=>List.mem_filterMap.mpr ⟨env,he,hb⟩
 have ff:s.heap.FunFrames (hideAll s.heap (m_ X.stack)) (X.env::X.outer):=by rw[← L.st];exact PySem.W.funFrames_hide I.stack Gu
 refine wpAny_leaves_madeW (base:=hideAll s.heap (m_ X.stack)) (h:=s.heap) Rh L.fr (fun b o q=>of_hideAll _ q) ff hx fun h2 t x1 x2 x3 x4=>?_
 refine⟨a,cls,.ref t,_,H,rfl,I.os,I.bare,⟨x1,J3 I,fun b o e n hf=>?_,fun b o e hf=>?_,fun b o e hf=>?_,fun b o e n=>I.base.free b o e n (by rw[L.ex];simp),I.base.gB,I.base.jK,I.base.jL⟩,hE⟩
 ·exact hideAll_get _ (I.base.keep b o e n hf (by rw[L.ex];simp)) (L.A5 I e hf)
 ·obtain⟨o',q⟩:=I.base.there b o e (by rw[L.ex];simp)
  exact⟨o',hideAll_get _ q (L.A5 I e hf)⟩
 ·obtain⟨sl,q⟩:=I.base.slot b o e (I.ok.Lv b hf) hf (by rw[L.ex];simp)
  obtain⟨_,o2,q2,hd⟩:=I.nY.mem hf
  obtain⟨C3,q3⟩:=x4 b o2 (hx.keeps _ _ q2) hd
  rw[q] at q2;cases q2
  exact⟨C3,q3⟩
end
abbrev sH:List Value:=[.type "ValueError",.type "Exception",.type "BaseException",.type "object"]
structure XC(K:Frag)(C:Addr):Prop where
 q:excIn K C sH "ValueError.__new__" = true
def Ri(h:Heap)(C:Addr)(bm:List Value):Prop:=∃N nm q bs hdct sn sub ab col dd k0 k1 k2 k3 k5 mN,
 h.get? C=some (excClassObj nm q C N bs bm hdct sn sub ab col dd k0 k1 k2 k3 k5 "ValueError.__new__")∧h.Ns N mN∧mN "__init__" = none∧OwnTail h sH bm
theorem XC.at{K:Frag}{C:Addr}{h:Heap}(x:XC K C)(X:K.In h):∃bm,Ri h C bm:=by
 have q:=x.q
 unfold excIn at q
 split at q
 ·rename_i dd cd sl ho
  split at q
  ·rename_i C' bm' k0 k1 k2 k3 n k5 hm hs
   simp only [zg,beq_iff_eq,Bool.not_eq_true'] at q
   obtain⟨⟨⟨⟨⟨q1,q2⟩,MY⟩,ht⟩,aQ⟩,Pr⟩:=q
   subst q1;subst q2
   obtain⟨nm,bs,mro,ns,qn,hd,sn,sub,ab,col,del⟩:=cd
   dsimp only at hm MY aQ Pr
   subst hm;subst MY
   obtain⟨sl⟩:=sl
   dsimp only at hs
   subst hs
   exact⟨bm',ns,nm,qn,bs,hd,sn,sub,ab,col,dd,k0,k1,k2,k3,k5,_,X _ _ ho,.of_isNs (PySem.W.isNs_of_in X aQ),PySem.W.nsMap_none_of_in X aQ Pr,PySem.W.tail_of_in X ht⟩
  ·cases q
 ·cases q
section
variable{X:Cx}{C D:Addr}{Yf:List Value}{x:Str}{np aP pos:Pos}{e:Expr}{es:List Expr}{t:TA}{E:XK}
end
def Rj(a:Addr)(cls:Value):HO:=.ext fun h=>∃o vs,h.get? a=some o∧o.cls=cls∧o.data=.fields vs
section
variable{P:Program}{w:World}{outer:List Env}{H H':Hp}{h0:Heap}{a:Addr}{cls a0:Value}{B h:Heap}
end
abbrev TX:=(St→XK)→TS
section
variable{X:Cx}{CX:wW}{k:Nat}{f C:Addr}{fd:FuncData}{ps:List Str}{sp:Sp}{Be:List V}{ds:List Value}{E:XK}{x m:Str}{p pos apos:Pos}{e o:Expr}{es:List Expr}{ta:TE}{t:TA}
end
section
variable{X:Cx}{e:Expr}{pos:Pos}{te:XK→TE}
end
section
variable{X:Cx}{pins:List (Addr×Obj)}{σ:St}{H:Hp}{s:Shared}
end
section
variable{X:Cx}{i:Nat}{n x:Str}{C0:Addr}{body MZ:List Stmt}{Rk:Stmt}{np J4 pos:Pos}{tb:TX}{ts:TS}
end
section
variable{P:Program}{w:World}{K:Frag}{mg:Str→Option Value}{base:Heap}
end
structure XA(K:Frag)(C:Addr):Prop where
 ga:findIn K (.ref C) "__getattribute__" = some (some (.builtin "BaseException.__getattribute__"))
 gh:findIn K (.ref C) "__getattr__" = some none
 cl:findIn K (.ref C) "__class__" = some (some (.builtin "object.__class__"))
section
variable{prog:Program}{w:World}{A:Around}{E:Value→Shared→Prop}{h:Heap}{g:Array GenState}{d:Drawn}{t:Nat}{os:OsState}{a:Addr}{o:Obj}{C:Addr}{bm:List Value}{K:Frag}
end
section
variable{X:Cx}
end
section
variable{X:Cx}
theorem M4(L:cX X E):Passes (kz X.prog X.w) X E:=MX L fun _ _ _ h=>h
end
def g8(l:List Str):List Str:=l.foldl (fun c x=>if x∈c then c else c++[x]) []
theorem uV(l:List Str)(x:Str):g8 (l++[x])=if x∈g8 l then g8 l else g8 l++[x]:=by
 unfold g8
 rw[List.foldl_append]
 rfl
theorem Gv:∀(l:List Str),(g8 l).length≤l.length:=fun l=>by
 have all:∀(r c:List Str),(r.foldl (fun c x=>if x∈c then c else c++[x]) c).length≤c.length+r.length:=by
  intro r
  induction r with
  |nil=>intro c;simp
  |cons x r ih =>
   intro c
   rw[yz]
   refine zt (ih _) ?_
   split <;> simp <;> try lia
 simpa [g8] using all l []
section
variable{prog:Program}{w:World}{A:Around}{R:Result→Shared→Prop}{I:Addr}{fp wr:List Addr}{G:Array GenState→Array GenState→Prop}{n:Nat}{P:Nat→Value→Prop}{St:Nat→Shared→Prop}
theorem Dk(W:WalksS prog w A.in1 I fp wr G n P St)(S:Addr)(TL:S∉fp)(xs:List Str)(hx:xs.length=n)(J5:∀i v,P i v→∃x t,xs[i]?=some x∧v=.str x t)(hb:n+1<scanBound) :
  ∀(k i:Nat) (s:Shared),i+k=n→St i s→s.heap.SetOf (strKind prog w) S (fun y=>decide (y∈g8 (xs.take i))) (g8 (xs.take i)).length →
   (∀s',Moved (S::wr) G s s'→s'.heap.SetOf (strKind prog w) S (fun y=>decide (y∈g8 xs)) (g8 xs).length→R (.ok (.ret .none)) s') →
   codeAny (model prog w) A (.builtin "set.update.loop" ⟨[.ref S,.ref I],[]⟩) R s:=by
 have nw:S∉wr:=fun h=>TL (W.sub _ h)
 have up:∀b∈wr,b∈S::wr:=fun b hb=>zl _ hb
 have mv:∀{i:Nat}{s s':Shared},Moved wr G s s'→s.heap.SetOf (strKind prog w) S (fun y=>decide (y∈g8 (xs.take i))) (g8 (xs.take i)).length→s'.heap.SetOf (strKind prog w) S (fun y=>decide (y∈g8 (xs.take i))) (g8 (xs.take i)).length :=
  fun hm ⟨o,es,ep,tb,ho,rest⟩=>⟨o,es,ep,tb,hm.heap S _ nw ho,rest⟩
 intro k
 induction k with
 |zero =>
  intro i s hk CS hS hR
  have e:i=n:=by lia
  subst e
  refine codeAny_builtin F.entry_set_update_loop ?_ ;rw[Around.under_plainId F.plain_set_update_loop _]
  show wpAny _ A.in1 (pyNext (.ref I) >>= _) _ _ s ;refine zc (W.done s _ _ CS fun s' hm=>?_)
  show wpAny _ A.in1 (ret Value.none) _ _ s' ;have q:=mv hm hS
  rw[← hx,yu] at q
  exact zx (hR s' (hm.mono up) q)
 |succ k ih =>
  intro i s hk CS hS hR
  have lt:i<n:=by lia
  refine codeAny_builtin F.entry_set_update_loop ?_ ;rw[Around.under_plainId F.plain_set_update_loop _]
  show wpAny _ A.in1 (pyNext (.ref I) >>= _) _ _ s ;refine zc (W.item i s _ _ lt CS fun v s' hP J6 hm=>?_)
  obtain⟨x,t,ex,rfl⟩:=J5 i v hP
  have q:=mv hm hS
  show wpAny _ A.in1 (holding [Value.str x t] (setAdd S (.str x t)) >>= _) _ _ s'
  refine zc (yD ?_) ;unfold setAdd ;refine yD ?_
  refine zc ((strKind prog w).pyHash (k:=x) (strKind_is _ _ _ _) ?_)
  have room:(g8 (xs.take i)).length+1<scanBound:=by have:=Gv (xs.take i);rw[yj] at this;lia
  refine wpAny_setAddHashed_of (knd:=strKind prog w) (s:={ s' with toks:=s'.toks+1 }) (strKind_is _ _ _ _) rfl q room fun h' LI q2=>?_
  have tk:xs.take (i+1)=xs.take i++[x]:=by rw[List.take_succ,ex];rfl
  have qi:h'.SetOf (strKind prog w) S (fun y=>decide (y∈g8 (xs.take (i+1)))) (g8 (xs.take (i+1))).length:=by
   refine SetOf_congr q2 (fun y=>?_) ?_
   ·rw[tk,uV]
    by_cases h:x∈g8 (xs.take i)
    ·rw[if_pos h]
     by_cases hy:y=x
     ·subst hy;simp [h]
     ·simp [hy]
    ·rw[if_neg h];simp
   ·rw[tk,uV]
    by_cases h:x∈g8 (xs.take i)
    ·rw[if_pos h,if_pos (by simpa using h)]
    ·rw[if_neg h,if_neg (by simpa using h)];simp
  refine zx ⟨plainId_quiet F.plain_set_update_loop _,ih (i+1) _ (by lia) (W.frame _ s' _ _ J6 (yG _) fun b hb o e=>?_) qi fun Bf J_ Rl=>?_⟩
  ·rw[LI.2 b (fun h:b=S=>TL (by rw[← h];exact hb))] ;exact e
  ·refine hR Bf (Moved.trans W.gtrans ((hm.mono up).then_heap (yG _) fun b o hb e=>?_) J_) Rl
   rw[LI.2 b (fun h:b=S=>hb (by rw[h];exact zj))] ;exact e
theorem uW(hh:A.handled=none)(hl:s.heap.IsList l items)(hx:xs.length=items.size)
  (hi:∀(i:Nat) (v:Value),items[i]?=some v→∃x t,xs[i]?=some x∧v=.str x t) (hb:items.size+1<scanBound)
  (h:∀(h':Heap) (tk:Nat),h'.SetOf (strKind prog w) s.heap.objs.size (fun y=>decide (y∈g8 xs)) (g8 xs).length→(∀b o,b<s.heap.objs.size→s.heap.get? b=some o→h'.get? b=some o)→Q (.ref s.heap.objs.size) { s with heap:=h',toks:=tk }) :
  wpAny (model prog w) A (call (.type "set") [.ref l]) Q E s:=by
 obtain⟨c,tl,m0⟩:=F.called_set.mro ;have m1:=F.called_set.made ;have m2:=F.called_set.sub
 refine wpAny_call (codeAny_of_tree ?_) ;show wpAny _ _ (callAny (.type "set") _) _ _ _
 refine zx ⟨Code.quiet_builtin _ (by trivial),codeAny_builtin F.entry_type_call ?_⟩ ;rw[Around.under_plain (weight_type_call_type "set" [.ref l] []) rfl]
 have m3:=F.called_set.notType ;have m4:=F.called_set.canCreate ;have m5:=F.typeCall_set_1 (.ref l)
 repeat (any_goals (first|assumption|wp_step))
 refine codeAny_mono (code_set_new_1 (.ref l) (E:=E) (Q₁:=fun ob s1=>∃led:Bool,ob=.ref s.heap.objs.size∧s1={ s with heap:=s.heap.push { cls:=.type "set",dict:=none,data:=.set #[] 0 (.fresh 0 0 led) } }) fun led=>⟨led,rfl,rfl⟩) fun r s1 hr=>?_
 cases r with
 |error e=>exact hr
 |ok fl =>
  cases fl with
  |ret ob =>
   obtain⟨led,rfl,rfl⟩:=hr
   generalize hO:({ cls:=.type "set",dict:=none,data:=.set #[] 0 (.fresh 0 0 led) } : Obj)=O
   have gS:(s.heap.push O).get? s.heap.objs.size=some O:=zB _ (by rw[← hO];rfl)
   have tS:Shared.TypeIs { s with heap:=s.heap.push O } (.ref s.heap.objs.size) "set" := ⟨_,gS,by rw[← hO]⟩
   have i1:=F.called_set.init.lookup ;have i2:=F.called_set.init.bind (.ref s.heap.objs.size)
   repeat (any_goals (first|assumption|wp_step))
   refine codeAny_mono (codeAny_call_builtin (R:=wants (fun r s2=>r=.none∧∃h' tk,s2={ s with heap:=h',toks:=tk }∧h'.SetOf (strKind prog w) s.heap.objs.size (fun y=>decide (y∈g8 xs)) (g8 xs).length∧(∀b o,b<s.heap.objs.size→s.heap.get? b=some o→h'.get? b=some o)) E)
    F.called_set.init.plain F.entry_set_init (check_set_init_1 tS ?_)) fun r2 s2 M5=>?_
   ·obtain⟨ol,gl,cl,nl,dl⟩:=hl
    obtain⟨Vh,M6,TM,Ka⟩:=ol
    simp only at cl dl ;subst cl ;subst dl
    have M7:(s.heap.push O).get? l=some { cls:=.type "list",dict:=M6,data:=.seq items nl,slots:=Ka }:=zd _ gl
    have j1:=F.sub_list_set ;have j2:=F.sub_list_frozenset
    have j3:(Value.type "list" == Value.type "dict")=false:=by decide
    have il:(s.heap.push O).IsList l items:=⟨_,M7,rfl,nl,rfl⟩
    subst hO
    unfold Builtin.«set.__init__» noKeywords Builtin.Frozenset.updateFrom ;generalize Vi:pyIter=PI
    wp_walk
    subst Vi ;refine wpAny_pyIter_list il ?_ ;refine zc (wpAny_runValue ?_)
    have ll:l<s.heap.objs.size:=zy gl
    have h3:A.in1.in1.in1.handled=none:=by simp [hh]
    have ne:l≠(s.heap.push { cls:=.type "set",dict:=none,data:=.set #[] 0 (.fresh 0 0 led) }).objs.size:=by rw[yw] ;exact zG (Nat.lt_succ_of_lt ll)
    have nf:s.heap.objs.size∉[(s.heap.push { cls:=.type "set",dict:=none,data:=.set #[] 0 (.fresh 0 0 led) }).objs.size,l]:=by
     rw[yw] ;simp only [zb,zz,ze,or_false,not_or] ;exact⟨zG (Nat.lt_succ_self _),yC ll⟩
    refine Dk ((Walks.list h3 _ l ne items).toS) s.heap.objs.size nf xs hx hi hb (items.size - 0) 0 _ (by lia) ⟨⟨_,zB _ rfl,rfl,rfl⟩,(il.push _)⟩ ?hS0 ?hR
    case hS0 =>
     have gg:=zd { cls:=.type "list_iterator",data:=.fields #[.ref l,.int 0 0] } gS
     exact SetOf_congr ((setObjOf_fresh (knd:=strKind prog w) led).setOf gg (by unfold scanBound;lia)) (fun _=>rfl) rfl
    case hR =>
     intro s' hm q
     obtain⟨h',g',d',LJ,Mw⟩:=s'
     have eg:g'=s.gens:=hm.gens ;have ed:d'=s.drawn:=hm.drawn ;have eo:Mw=s.os:=hm.os
     subst eg ;subst ed ;subst eo
     show wpAny _ _ _ _ _ _ ;refine zx ?_ ;show wpAny _ _ (ret Value.none) _ _ _
     refine zx ⟨rfl,h',LJ,rfl,q,fun b o hb e=>?_⟩
     have b2:b≠(s.heap.push { cls:=.type "set",dict:=none,data:=.set #[] 0 (.fresh 0 0 led) }).objs.size:=by rw[yw] ;exact zG (Nat.lt_succ_of_lt hb)
     refine hm.heap b o ?_ (zd _ (zd _ e))
     simp only [zb,zz,ze,or_false,not_or] ;exact⟨zG hb,b2⟩
   ·cases r2 with
    |error e=>exact M5
    |ok f2 =>
     cases f2 with
     |ret r =>
      obtain⟨rfl,h',tk,rfl,q,k'⟩:=M5
      repeat (any_goals (first|assumption|wp_step))
      exact h _ _ q k'
     |_=>exact M5.elim
  |_=>exact hr.elim
end
def Kb(P:Program)(w:World)(a:Addr)(xs:List Str):HO:=.ext fun h=>h.SetOf (strKind P w) a (fun y=>decide (y∈g8 xs)) (g8 xs).length
theorem Gw(q:h.SetOf (strKind P w) a (fun y=>decide (y∈g8 xs)) (g8 xs).length):aV P w H h a (Kb P w a xs):=by
 obtain⟨o,es,ep,t,ho,rest⟩:=id q
 exact⟨q,⟨o,ho⟩,by rintro h1 h2 ⟨o,es,ep,t,ho,rest⟩ k;exact⟨o,es,ep,t,k _ ho,rest⟩⟩
theorem uX:∀{xs:List Str}{ao:List Value},Vals (xs.map V.str) ao→∀(i:Nat) (v:Value),ao[i]?=some v→∃x t,xs[i]?=some x∧v=.str x t
 |[],_,.nil,i,v,e=>by simp at e
 |x::xs,_,.cons r rs,0,v,e=>by
  obtain⟨t,q⟩:=r
  simp at e
  exact⟨x,t,rfl,by rw[← e];exact q⟩
 |x::xs,_,.cons r rs,i+1,v,e=>by
  obtain⟨y,t,e1,e2⟩:=uX rs i v (by simpa using e)
  exact⟨y,t,by simpa using e1,e2⟩
section
variable{X:Cx}
theorem Bu{P:Program}{w:World}{K:Frag}(hP:X.prog=P)(hw:X.w=w)(hK:X.K=K)(hc:X.calm=true) :
  fz X (.type "set") (fun vs H Q=>∃p xs,vs=[.ref p]∧jN K H p (xs.map V.str)∧xs.length<4000∧∀l,H l=none→Q (.ref l) (upd H l (Kb P w l xs))):=by
 subst hP;subst hw;subst hK
 intro pins s σ H vs us Q I r h
 obtain⟨p,xs,rfl,hq,hz,q⟩:=h
 obtain⟨u,rfl,rx⟩:=vals1 r
 cases rx
 obtain⟨ao,r',pl,_⟩:=I.list hq
 have hlen:xs.length=ao.toArray.size:=by have:=r'.length;simpa using this
 refine uW (I.ok.hd hc) pl.isList hlen (fun i v e=>uX r' i v (by simpa using e)) (by rw[← hlen];unfold scanBound;lia) fun h' tk qs kp=>?_
 refine⟨.ref s.heap.objs.size,_,I.laid (t':=tk) (fun b o e=>kp b o (zy e) e) (zh _) (Gw qs),rfl,q _ (I.aQ.fresh (zh _))⟩
theorem Bv(hP:X.prog=P)(hw:X.w=w):fz X (.builtin "len") (fun vs H Q=>∃a xs,vs=[.ref a]∧H a=some (Kb P w a xs)∧Q (.int (g8 xs).length) H):=by
 subst hP;subst hw
 intro pins s σ H vs us Q I r h
 obtain⟨a,xs,rfl,ha,q⟩:=h
 obtain⟨u,rfl,rx⟩:=vals1 r
 cases rx
 obtain⟨⟨o,es,ep,t,ho,hex,hd,M8,Vj,hb,hf,hn⟩,_⟩:=I.aQ a _ ha
 refine call_len_set ho hex hd hf (by unfold scanBound at hb;lia) ?_
 exact⟨.int (g8 xs).length,H,I.tok _,⟨_,by rw[hn]⟩,q⟩
end
theorem rD(l:List Str):(g8 l).length=l.length↔l.Nodup:=by
 have all:∀(r c:List Str),c.Nodup→((r.foldl (fun c x=>if x∈c then c else c++[x]) c).length=c.length+r.length↔(c++r).Nodup):=by
  intro r
  induction r with
  |nil=>intro c hc;simpa using hc
  |cons x r ih =>
   intro c hc
   rw[yz]
   by_cases h:x∈c
   ·rw[if_pos h]
    have le:(r.foldl (fun c x=>if x∈c then c else c++[x]) c).length≤c.length+r.length:=by
     have all2:∀(r c:List Str),(r.foldl (fun c x=>if x∈c then c else c++[x]) c).length≤c.length+r.length:=by
      intro r
      induction r with
      |nil=>intro c;simp
      |cons x r ih=>intro c;rw[yz];refine zt (ih _) ?_;split <;> simp <;> try lia
     exact all2 r c
    refine⟨fun e=>by simp at e;lia,fun e=>?_⟩
    exact absurd rfl ((List.nodup_append.mp e).2.2 x h x (by simp))
   ·rw[if_neg h]
    have Lw:(c++[x]).Nodup:=An hc h
    have:=ih (c++[x]) Lw
    simp only [zo,zf,List.length_nil,zK,List.singleton_append] at this ⊢
    rw[← this]
    constructor <;> intro e <;> lia
 simpa [g8] using all l [] List.nodup_nil
theorem g9:entryFor table "dict.update.loop" = some Builtin.«dict.update.loop»:=entryFor_of_tree (by kernel_rfl)
theorem cH:plainId "dict.update.loop" = true:=by trivial
theorem qw:typeLookup (.type "tuple") "keys" = pure none:=by rw[typeLookup_type,builtinLookup_eq_fast];kernel_rfl
section
variable{prog:Program}{w:World}{A:Around}{E:Value→Shared→Prop}{s:Shared}
theorem qx(hx:s.heap.get? a=some o)(hc:o.cls=.type "tuple")(M9:o.data=.seq xs k)(hd:o.dict=none)(hA:A.handled=none)
  (h:∀h' tk,(∀b ob,s.heap.get? b=some ob→h'.get? b=some ob)→Q none { s with heap:=h',toks:=tk }):wpAny (model prog w) A (getAttr? (.ref a) "keys") Q E s:=by
 obtain⟨c,ke,dat,sl⟩:=o
 simp only at hc M9 hd
 subst hc M9 hd
 obtain⟨hp,g,d,tk,os⟩:=s
 have hT:∀LJ,(⟨hp,g,d,LJ,os⟩:Shared).TypeIs (.ref a) "tuple" := fun _=>⟨_,hx,rfl⟩
 have f1:=sub_AttributeError ;have f3:=F.slot_tuple_getattribute.lookup
 have f4:=F.slot_tuple_getattribute.bind (.ref a) ;have f5:=am_tuple_getattr_none
 unfold getAttr? getAttrBy? getAttrBy
 repeat (any_goals (first|assumption|exact hT _|((with_reducible show wpAny _ _ (call (Value.builtin "tuple.__getattribute__") _ _) _ _ _);refine call_meets F.slot_tuple_getattribute (hT _) am_entry_tuple_getattribute (F.args_tuple_getattribute_2 _ _) (meets_getattribute_miss_tuple a xs k sl "keys" _ qw (by trivial) (by size_fits)) ⟨hx,hA,fun h' LJ e M_=>?_⟩)|wp_step))
 obtain⟨t',u',he⟩:=M_.there
 show wpAny _ _ (getattributeRaised _ _ _ _ _ _ _) _ _ _ ;unfold getattributeRaised
 repeat (any_goals (first|assumption|wp_step))
 exact h _ _ M_.keeps
end
section
variable{prog:Program}{w:World}{A:Around}{R:Result→Shared→Prop}{I:Addr}{fp wr:List Addr}{G:Array GenState→Array GenState→Prop}{n:Nat}{P:Nat→Value→Prop}{St:Nat→Shared→Prop}
theorem Bw(W:WalksS prog w A.in1 I fp wr G n P St)(D:Addr)(TN:D∉fp)(kvs:List (Key×Value))(hx:kvs.length=n)(base:Heap)
  (J5:∀i v,P i v→∃(b:Addr) (k:Key) (key val:Value) (o:Obj) (m:Nat),kvs[i]?=some (k,val)∧v=.ref b∧(aH prog w).is k key=true∧base.get? b=some o∧o.cls=.type "tuple" ∧ o.data=.seq #[key,val] m∧b≠D∧b∉wr) (hb:n≤sizeLine) :
  ∀(k i:Nat) (s:Shared) (c:Int) (t:Tok),i+k=n→St i s→s.heap.DictOf (aH prog w) D (merged [] (kvs.take i))→(∀b o,base.get? b=some o→b≠D→b∉wr→s.heap.get? b=some o) →
   (∀s',Moved (D::wr) G s s'→s'.heap.DictOf (aH prog w) D (merged [] kvs)→R (.ok (.ret .none)) s') →
   codeAny (model prog w) A (.builtin "dict.update.loop" ⟨[.ref D,.ref I,.int c t,.none],[]⟩) R s:=by
 have nw:D∉wr:=fun h=>TN (W.sub _ h)
 have up:∀b∈wr,b∈D::wr:=fun b hb=>zl _ hb
 intro k
 induction k with
 |zero =>
  intro i s c t hk CS hS hB hR
  have e:i=n:=by lia
  subst e
  refine codeAny_builtin g9 ?_ ;rw[Around.under_plainId cH _]
  show wpAny _ A.in1 (pyNext (.ref I) >>= _) _ _ s ;refine zc (W.done s _ _ CS fun s' hm=>?_)
  show wpAny _ A.in1 (Builtin.Dict.addKeywords D [] >>= _) _ _ s'
  have q:s'.heap.DictOf (aH prog w) D (merged [] (kvs.take i)):=by
   obtain⟨o,es,ep,ho,rest⟩:=hS
   exact⟨o,es,ep,hm.heap D _ nw ho,rest⟩
  rw[← hx,yu] at q
  exact zc (zx (zx (hR s' (hm.mono up) q)))
 |succ k ih =>
  intro i s c t hk CS hS hB hR
  have lt:i<n:=by lia
  refine codeAny_builtin g9 ?_ ;rw[Around.under_plainId cH _]
  show wpAny _ A.in1 (pyNext (.ref I) >>= _) _ _ s ;refine zc (W.item i s _ _ lt CS fun v s' hP J6 hm=>?_)
  obtain⟨b,ky,key,val,o,m,ek,rfl,Jy,ho,hc,hd,Vk,TQ⟩:=J5 i v hP
  have q:s'.heap.DictOf (aH prog w) D (merged [] (kvs.take i)):=by
   obtain⟨o,es,ep,ho,rest⟩:=hS
   exact⟨o,es,ep,hm.heap D _ nw ho,rest⟩
  have Na:s'.heap.get? b=some o:=hm.heap b o TQ (hB b o ho Vk TQ)
  have room:(merged [] (kvs.take i)).length≤sizeLine:=by have:=merged_length_le ([]:List (Key×Value)) (kvs.take i);rw[yj] at this;simp at this;lia
  have tk:merged [] (kvs.take (i+1))=stored (merged [] (kvs.take i)) ky val:=merged_take_succ [] kvs i (ky,val) ek
  refine zc (yD (zc (wpAny_tryCatch ?_)))
  unfold Builtin.Dict.pairItems
  refine zc (wpAny_typeOf (T := "tuple") ⟨o,Na,hc⟩ ?_)
  show wpAny _ A.in1 (seqItems? (.ref b) >>= _) _ _ s'
  refine zc (yB Na hd (zx ?_))
  show wpAny _ A.in1 (holding [key,val] (dictSet D key val)) _ _ s'
  refine yD (wpAny_dictSet_pairs Jy q (fun h' q2 LI=>?_) room)
  rw[← tk] at q2
  refine zx ⟨plainId_quiet cH _,ih (i+1) _ _ _ (by lia) (W.frame _ s' _ _ J6 (yG _) fun b hb o e=>?_) q2 (fun b o e h1 h2=>?_) fun Bf J_ Rl=>?_⟩
  ·rw[LI.2 b (fun h:b=D=>TN (by rw[← h];exact hb))] ;exact e
  ·rw[LI.2 b h1] ;exact hm.heap b o h2 (hB b o e h1 h2)
  ·refine hR Bf (Moved.trans W.gtrans ((hm.mono up).then_heap (yG _) fun b o hb e=>?_) J_) Rl
   rw[LI.2 b (fun h:b=D=>hb (by rw[h];exact zj))] ;exact e
theorem qy(hh:A.handled=none)(gl:s.heap.get? l=some ol)(cl:ol.cls=.type "tuple")(dl:ol.data=.seq items m)(nl:ol.dict=none)(hx:kvs.length=items.size)
  (hi:∀(i:Nat) (v:Value),items[i]?=some v→∃(b:Addr) (k:Key) (key val:Value) (o:Obj) (m:Nat),kvs[i]?=some (k,val)∧v=.ref b∧(aH prog w).is k key=true∧s.heap.get? b=some o∧o.cls=.type "tuple" ∧ o.data=.seq #[key,val] m) (hb:items.size≤sizeLine)
  (h:∀(h':Heap) (tk:Nat),h'.DictOf (aH prog w) s.heap.objs.size (merged [] kvs)→(∀b o,s.heap.get? b=some o→h'.get? b=some o)→Q (.ref s.heap.objs.size) { s with heap:=h',toks:=tk }) :
  wpAny (model prog w) A (call (.type "dict") [.ref l]) Q E s:=by
 refine callType_codes (Q₁:=fun obj s₁=>obj=.ref s.heap.objs.size∧s₁={ s with heap:=s.heap.push { cls:=.type "dict",data:=.dict #[] } }) F.kt_called_dict (F.kt_typeCall_dict_1 _) F.entry_dict_init (kt_code_dict_new _ ⟨rfl,rfl⟩) ?_
 rintro obj s₁ ⟨rfl,rfl⟩
 have Kc:(s.heap.push { cls:=.type "dict",data:=.dict #[] }).DictOf (aH prog w) s.heap.objs.size []:=Heap.DictOf.new s.heap
 have M7:(s.heap.push { cls:=.type "dict",data:=.dict #[] }).get? l=some ol:=zd _ gl
 refine⟨Kc.typeIs,F.args_dict_init_2 _ _,?_⟩
 unfold Builtin.«dict.__init__»
 refine zc ?_
 unfold Builtin.Dict.selfAndRest
 refine zc (wpAny_notOrdered_dict Kc.typeIs ?_) ;show wpAny _ _ (pure (s.heap.objs.size,[Value.ref l])) _ _ _
 refine zx ?_ ;show wpAny _ _ (Builtin.Dict.updateFrom "dict.__init__" s.heap.objs.size (.ref l) [] .none) _ _ _
 unfold Builtin.Dict.updateFrom
 refine zc (wpAny_typeOf (T := "tuple") ⟨ol,M7,cl⟩ ?_) ;rw[if_pos (by decide)]
 have h3:A.in1.in1.handled=none:=by simp [hh]
 refine zc (qx M7 cl dl nl h3 fun h1 Vl Pt=>?_)
 have g1:h1.get? l=some ol:=Pt _ _ M7
 have d1:h1.DictOf (aH prog w) s.heap.objs.size []:=by
  obtain⟨o,es,ep,ho,rest⟩:=Kc
  exact⟨o,es,ep,Pt _ _ ho,rest⟩
 have lD:s.heap.objs.size<h1.objs.size:=by obtain⟨o,es,ep,ho,rest⟩:=d1;exact zy ho
 have ll:l<s.heap.objs.size:=zy gl
 show wpAny _ _ (rule _ >>= _) _ _ _ ;refine zc (wpAny_rule ?_)
 have TR:h1.IsTuple l items:=⟨ol,g1,cl,m,dl⟩
 refine zc (wpAny_pyIter_tuple (s:=⟨h1,s.gens,s.drawn,Vl,s.os⟩) TR ?_)
 have ne:l≠h1.objs.size:=zG (Nat.lt_trans ll lD)
 have nf:s.heap.objs.size∉[h1.objs.size,l]:=by
  simp only [zb,zz,ze,or_false,not_or] ;exact⟨zG lD,yC ll⟩
 refine zx ⟨plainId_quiet cH _,?_⟩
 refine Bw ((Walks.tuple h3 _ l ne items).toS) s.heap.objs.size nf kvs hx s.heap (fun i v e=>?_) hb (items.size - 0) 0 _ _ _ (by lia) ⟨⟨_,zB _ rfl,rfl,rfl⟩,TR.push _⟩ ?hS0 ?hB ?hR
 ·obtain⟨b,k,key,val,o,m',e1,e2,e3,e4,e5,e6⟩:=hi i v e
  have lb:=zy e4
  exact⟨b,k,key,val,o,m',e1,e2,e3,e4,e5,e6,zG lb,by simp;exact zG (Nat.lt_trans lb lD)⟩
 case hS0=>exact d1.push _
 case hB=>exact fun b o e Yg Gx=>zd _ (Pt _ _ (zd _ e))
 case hR =>
  intro s' hm q
  obtain⟨h',g',d',LJ,Mw⟩:=s'
  have eg:g'=s.gens:=hm.gens ;have ed:d'=s.drawn:=hm.drawn ;have eo:Mw=s.os:=hm.os
  subst eg ;subst ed ;subst eo
  refine⟨rfl,h h' LJ q fun b o e=>?_⟩
  have lb:=zy e
  refine hm.heap b o ?_ (zd _ (Pt _ _ (zd _ e)))
  simp only [zb,zz,ze,or_false,not_or] ;exact⟨zG lb,zG (Nat.lt_trans lb lD)⟩
end
def Ao(l:List (Str×V)):List (Key×V):=l.foldl (fun c p=>putK c (.inr p.1) p.2) []
def TU(H:Hp)(ps:List V)(kvs:List (Str×V)):Prop:=kvs.length=ps.length∧∀(i:Nat) (x:V) (p:Str×V),ps[i]?=some x→kvs[i]?=some p→∃b,x=.ref b∧H b=some (.tup [.str p.1,p.2])
section
variable{X:Cx}
theorem xg(hc:X.calm=true):fz X (.type "dict") (fun vs H Q=>∃p ps kvs,vs=[.ref p]∧H p=some (.tup ps)∧TU H ps kvs∧∀l,H l=none→Q (.ref l) (upd H l (.dK (Ao kvs)))):=by
 intro pins s σ H vs us Q I r h
 obtain⟨p,ps,kvs,rfl,hp,⟨hl,hq⟩,q⟩:=h
 obtain⟨u,rfl,rx⟩:=vals1 r
 cases rx
 obtain⟨hz,ao,rv,ol,gl,cl,nl,m,dl⟩:=(show aV X.prog X.w H s.heap p (.tup ps) from I.aQ p _ hp)
 have hlen:=rv.length
 -- the pairs as values
 have each:∀(i:Nat) (x:V) (pr:Str×V),ps[i]?=some x→kvs[i]?=some pr→∃(b:Addr) (key val:Value) (o:Obj) (m:Nat),ao[i]?=some (.ref b)∧(aH X.prog X.w).is (.inr pr.1) key=true∧RelV pr.2 val∧s.heap.get? b=some o∧o.cls=.type "tuple" ∧ o.data=.seq #[key,val] m:=by
  intro i x pr e1 e2
  obtain⟨b,rfl,hb⟩:=hq i x pr e1 e2
  obtain⟨u,e3,ru⟩:=rv.get e1
  cases ru
  obtain⟨_,Yh,r2,o,go,co,no,m2,Vm⟩:=(show aV X.prog X.w H s.heap b (.tup [.str pr.1,pr.2]) from I.aQ b _ hb)
  obtain⟨k',v',rfl,⟨tk,rfl⟩,Vn⟩:=r2.two
  exact⟨b,_,v',o,m2,e3,ir _ _ _ _,Vn,go,co,by simpa using Vm⟩
 have kv:∃vals:List (Key×Value),KV (kvs.map fun p=>((.inr p.1:Key),p.2)) vals∧∀(i:Nat) (x:V),ps[i]?=some x→∃(b:Addr) (k:Key) (key val:Value) (o:Obj) (m:Nat),vals[i]?=some (k,val)∧ao[i]?=some (.ref b)∧(aH X.prog X.w).is k key=true∧s.heap.get? b=some o∧o.cls=.type "tuple" ∧ o.data=.seq #[key,val] m:=by
  clear hp q rv dl hz
  induction kvs generalizing ps ao with
  |nil =>
   refine⟨[],.nil,fun i x e=>?_⟩
   have:ps=[]:=zQ (by simpa using hl.symm)
   subst this
   simp at e
  |cons pr r ih =>
   cases ps with
   |nil=>simp at hl
   |cons y ys =>
    cases ao with
    |nil=>simp at hlen
    |cons w0 ws =>
     obtain⟨b,key,val,o,m,e1,e2,e3,e4,e5,e6⟩:=each 0 y pr rfl rfl
     obtain⟨vals,k1,k2⟩:=ih ys (by simpa using hl) (fun i x p a b=>hq (i+1) x p (by simpa using a) (by simpa using b)) ws (by simpa using hlen) (fun i x p a b=>by simpa using each (i+1) x p (by simpa using a) (by simpa using b))
     refine⟨(.inr pr.1,val)::vals,.cons ⟨rfl,e3⟩ k1,fun i x e=>?_⟩
     cases i with
     |zero=>exact⟨b,.inr pr.1,key,val,o,m,rfl,e1,e2,e4,e5,e6⟩
     |succ i=>simpa using k2 i x (by simpa using e)
 obtain⟨vals,TV,Vo⟩:=kv
 have lv:vals.length=ao.length:=by have:=TV.length;rw[za] at this;lia
 refine qy (kvs:=vals) (I.ok.hd hc) gl cl dl nl (by simpa using lv) (fun i v e=>?_) (by simp;lia) fun h' tk qs kp=>?_
 ·have e':ao[i]?=some v:=by simpa using e
  have hi:i<ao.length:=(yd.mp e').1
  obtain⟨b,k,key,val,o,m',e1,e2,e3,e4,e5,e6⟩:=Vo i (ps[i]'(by lia)) (zX _)
  rw[e'] at e2
  exact⟨b,k,key,val,o,m',e1,zS e2,e3,e4,e5,e6⟩
 ·have rel:KV (Ao kvs) (merged [] vals):=by
   have all:∀(l:List (Str×V)) (vl:List (Key×Value)) (c:List (Key×V)) (cv:List (Key×Value)),KV (l.map fun p=>((.inr p.1:Key),p.2)) vl→KV c cv→KV (l.foldl (fun c p=>putK c (.inr p.1) p.2) c) (merged cv vl):=by
    intro l
    induction l with
    |nil=>intro vl c cv h1 h2;cases h1;exact h2
    |cons p r ih =>
     intro vl c cv h1 h2
     cases h1 with
     |@cons _ q _ qs r1 r2 =>
      obtain⟨k,v⟩:=q
      obtain⟨rfl,rv⟩:=r1
      exact ih qs _ _ r2 (h2.put _ rv)
   exact all kvs vals [] [] TV .nil
  have big:=I.big
  refine⟨.ref s.heap.objs.size,_,I.laid (t':=tk) (fun b o e=>kp b o e) (zh _) (o:=.dK (Ao kvs)) ⟨?_,?_,_,rel,qs⟩,rfl,q _ (I.aQ.fresh (zh _))⟩
  ·have e1:=rel.length
   have e2:=merged_length_le ([]:List (Key×Value)) vals
   simp at e2
   lia
  ·simp;exact yC big
end
section
variable{X:Cx}
def Nb(K:Frag):R2:=fun x y H Q=>∃a b xs ys,x=.ref a∧y=.ref b∧iq K H a xs∧iq K H b ys∧xs.length+ys.length≤sizeLine ∧
 (xs=[]→Q (.ref b) H)∧(xs≠[]→ys=[]→Q (.ref a) H)∧(xs≠[]→ys≠[]→∀p,H p=none→Q (.ref p) (upd H p (.tup (xs++ys))))
theorem Gy:fO X (binaryOp .Add) (Nb X.K):=by
 intro pins s σ H x y v u Q I rx ry h
 obtain⟨a,b,xs,ys,rfl,rfl,ha,hb,hz,q0,q1,q2⟩:=h
 by_cases hx:xs=[]
 ·cases rx
  cases ry
  obtain⟨ao,r1,p1,_⟩:=I.tuple ha
  obtain⟨oj,r2,p2,_⟩:=I.tuple hb
  obtain⟨⟨cls,dd,data,sl⟩,ho,hc,n,hd⟩:=id p1
  obtain⟨⟨QK,Pk,data2,C3⟩,JC,MB,n2,hd2⟩:=id p2
  simp only at hc hd MB hd2
  subst hc hd MB hd2
  have e:ao=[]:=r1.nP.mpr hx
  exact concat_meets ⟨_,ho,rfl⟩ ⟨_,JC,rfl⟩ noFill_tuple_add seq_tuple_add PySem.F.slot_tuple_add PySem.F.entry_tuple_add (PySem.F.args_tuple_add_2 _ _)
   (tuple_addW0 a b ao.toArray oj.toArray n n2 dd Pk sl C3 (by simp [e])) ⟨ho,JC,.ref b,H,I,rfl,q0 hx⟩
 ·exact Gb pins s σ H _ _ v u Q I rx ry ⟨a,b,xs,ys,rfl,rfl,ha,hb,hx,hz,q1 hx,q2 hx⟩
end
def Bx:PyData→Kd
 |.none=>.aC|.bool _=>.bl|.int _=>.int|.str _=>.str|.list _=>.lst|.tuple _=>.tup|.dict _=>.ke
section
variable{H H':Hp}{K:Frag}
end
section
variable{σ:St}{H:Hp}{te tb:TE}{ta:TA}{d:PyData}{ds:List PyData}
theorem TY(h:n≤1000):n≤sizeLine:=Nat.le_of_lt (Bn h)
end
abbrev jP(h:Heap)(T:Addr)(arr:Array Value):Prop:=h.get? T=some { cls:=.type "tuple",data:=.seq arr }
theorem lR(hs:Heap.ExtBut b h h')(n:a≠b)(x:h.IsTupleIter a l i):h'.IsTupleIter a l i:=x.extBut hs n
theorem Ap{h h':Heap}{a l:Addr}{i:Nat}(k:∀o,h.get? a=some o→h'.get? a=some o)(x:h.IsTupleIter a l i):h'.IsTupleIter a l i:=by obtain⟨o,e,r⟩:=x;exact⟨o,k o e,r⟩
theorem Rm{arr:Array Value}(na:arr.size=2)(x0 x1:Value):((arr.setIfInBounds 0 x0).setIfInBounds 1 x1)=#[x0,x1]:=by obtain⟨l⟩:=arr;match l,na with|[_,_],_=>rfl
section
variable{prog:Program}{w:World}{A:Around}{E:Value→Shared→Prop}{s:Shared}
theorem Pu(h:n≤3):n≤sizeLine:=TY (zt h (by decide))
theorem rE(hT:jP s.heap T arr)(hz:arr.size≤3)(h:∀h',jP h' T (arr.setIfInBounds k x)→Heap.SameBut T s.heap h'→Q () { s with heap:=h' }):wpAny (model prog w) A (updateSeq T (·.setIfInBounds k x)) Q E s:=by
 refine wpAny_updateSeq hT rfl (h _ ?_ (Heap.SameBut.update ..)) (hz:=Pu hz) (_hz':=by have:=Pu hz;simp;lia)
 show Heap.get? _ _=_
 rw[Heap.get?_update_self _ hT rfl] ;simp [Obj.mapSeq]
theorem oz(hit:s.heap.IsTupleIter it l i)(hl:s.heap.IsTuple l items)(hx:items[i]?=some x)(hQ:∀h',h'.IsTupleIter it l (i+1)→Heap.SameBut it s.heap h'→Q x { s with heap:=h' }) :
  wpAny (model prog w) A (Builtin.SmallTypes.nextOf (.ref it)) Q E s:=by
 obtain⟨o,ho,hc,hd⟩:=id hit ;obtain⟨ol,Rn,_,nl,Ro⟩:=hl
 unfold Builtin.SmallTypes.nextOf
 refine zc (wpAny_callSpecial?_slot (name:=Str.ofString "__next__") hit.typeIs F.slot_tuple_iterator_next (wpAny_call_entry F.slot_tuple_iterator_next hit.typeIs F.entry_tuple_iterator_next ?_ (F.args_tuple_iterator_next_1 _)))
 show wpAny _ _ (field (.ref it) 0 >>= _) _ _ s ;refine zc (ym ho hd (x:=.ref l) rfl ?_)
 show wpAny _ _ (if (Value.ref l == Value.none)=true then _ else _) _ _ s ;rw[if_neg (show ¬ ((Value.ref l == Value.none)=true) from zm)]
 show wpAny _ _ (field (.ref it) 1 >>= _) _ _ s ;refine zc (ym ho hd (x:=.int i 0) rfl ?_)
 show wpAny _ _ (seqItems? (.ref l) >>= _) _ _ s ;refine zc (yB Rn Ro ?_)
 simp only [Int.toNat_natCast,hx]
 refine zc (wpAny_setField ho hd (by simp) (zx ⟨x,rfl,zx (hQ _ ⟨_,Heap.get?_update_self _ ho (Obj.isFreed_of_fields (Obj.data_mapFields hd _)),(Obj.cls_mapFields ..).trans hc,by rw[Obj.data_mapFields hd];simp [rawInt]⟩ (Heap.SameBut.update ..))⟩))
theorem oA(hh:A.handled=none)(hit:s.heap.IsTupleIter it l i)(hl:s.heap.IsTuple l items)(hx:items[i]?=none)
  (hE:∀h' e,Heap.ExtBut it s.heap h'→(∃o,h'.get? e=some o∧o.cls=.type "StopIteration")→E (.ref e) { s with heap:=h' }):wpAny (model prog w) A (Builtin.SmallTypes.nextOf (.ref it)) Q E s:=by
 obtain⟨o,ho,hc,hd⟩:=id hit ;obtain⟨ol,Rn,_,nl,Ro⟩:=hl
 unfold Builtin.SmallTypes.nextOf
 refine zc (wpAny_callSpecial?_slot (name:=Str.ofString "__next__") hit.typeIs F.slot_tuple_iterator_next (wpAny_call_entry F.slot_tuple_iterator_next hit.typeIs F.entry_tuple_iterator_next ?_ (F.args_tuple_iterator_next_1 _)))
 show wpAny _ _ (field (.ref it) 0 >>= _) _ _ s ;refine zc (ym ho hd (x:=.ref l) rfl ?_)
 show wpAny _ _ (if (Value.ref l == Value.none)=true then _ else _) _ _ s ;rw[if_neg (show ¬ ((Value.ref l == Value.none)=true) from zm)]
 show wpAny _ _ (field (.ref it) 1 >>= _) _ _ s ;refine zc (ym ho hd (x:=.int i 0) rfl ?_)
 show wpAny _ _ (seqItems? (.ref l) >>= _) _ _ s ;refine zc (yB Rn Ro ?_)
 simp only [Int.toNat_natCast,hx]
 refine zc (wpAny_rule (zc (wpAny_setField ho hd (by simp) ?_))) ;show wpAny _ _ (newExc (.type "StopIteration") [] >>= _) _ _ _
 refine zc ?_ ;simp only [newExc,newTuple] ;refine zc (wpAny_newObj_type ?_ (by size_fits))
 refine zc (m:=firstArgMember _ _) (wpAny_of_eq (a:=Value.none) (by first|rfl|(simp only [firstArgMember];rfl)) ?_) ;refine wpAny_newObj_type ?_ (by size_fits)
 simp only [raiseNew] ;refine zc (wpAny_handled ?_)
 first|rw[show A.in1.handled=none from hh]|rw[hh]
 refine zc (zx (wpAny_throw (hE _ _ (((Heap.SameBut.update ..).extBut.push _).push _) ⟨_,zB _ rfl,rfl⟩)))
end
def TZ(n l0 l1:Nat)(i:Nat)(h:Heap):Prop:=IsZip h (n+4) (n+2) (n+3) .none∧jP h (n+2) #[.ref n,.ref (n+1)]∧(∃arr:Array Value,arr.size=2∧jP h (n+3) arr)∧h.IsTupleIter n l0 i∧h.IsTupleIter (n+1) l1 i
section
variable{prog:Program}{w:World}{A:Around}{E:Value→Shared→Prop}{s:Shared}{n l0 l1:Nat}{i:Nat}{mL oB:Array Value}
theorem By{x0 x1:Value}{arr:Array Value}(na:arr.size=2){Q:Value→Shared→Prop}(b0:l0<n)(b1:l1<n)(hz:IsZip s.heap (n+4) (n+2) (n+3) .none)(hI:jP s.heap (n+2) #[.ref n,.ref (n+1)])(hO:jP s.heap (n+3) arr)(j0:s.heap.IsTupleIter n l0 i)(j1:s.heap.IsTupleIter (n+1) l1 i)(t0:s.heap.IsTuple l0 mL)(t1:s.heap.IsTuple l1 oB)(e0:mL[i]?=some x0)(e1:oB[i]?=some x1)
  (hQ:∀h',IsZip h' (n+4) (n+2) (n+3) (rawInt s.heap.objs.size)→jP h' (n+3) #[x0,x1]→h'.IsTupleIter n l0 (i+1)→h'.IsTupleIter (n+1) l1 (i+1)→jP h' s.heap.objs.size #[x0,x1]→(∀c o,c≠(n+4)→c≠(n+3)→c≠n→c≠(n+1)→s.heap.get? c=some o→h'.get? c=some o)→Q (.ref s.heap.objs.size) { s with heap:=h' }) :
  wpAny (model prog w) A (Builtin.«zip.__next__» ⟨[.ref (n+4)],[]⟩) (fun fin s'=>∃v,fin=.done (.ret v)∧Q v s') E s:=by
 show wpAny _ _ (field (.ref (n+4)) 2 >>= _) _ _ _ ;refine zc (ym hz rfl (x:=.bool false) rfl ?_)
 show wpAny _ _ (field (.ref (n+4)) 3 >>= _) _ _ _ ;refine zc (ym hz rfl (x:=.ref (n+2)) rfl ?_)
 refine zc (yB hI rfl ?_) ;show wpAny _ _ (Builtin.SmallTypes.ownedTupleIsFree (.ref (n+4)) >>= _) _ _ _
 refine zc ?_ ;unfold Builtin.SmallTypes.ownedTupleIsFree
 refine zc (ym hz rfl (x:=.none) rfl (zx ?_)) ;simp only [if_true]
 refine zc (wpAny_rule ?_) ;refine zc (ym hz rfl (x:=.ref (n+3)) rfl ?_)
 refine zc (wpAny_setField_rec hz (by simp) fun h0 Ke q0=>?_) ;replace Ke:IsZip h0 (n+4) (n+2) (n+3) .ellipsis:=Ke
 have k0:∀c o,c≠(n+4)→s.heap.get? c=some o→h0.get? c=some o:=fun c o d e=>q0.extBut _ _ d e
 have O0:jP h0 (n+3) arr:=k0 _ _ (by show @Ne Nat _ _;lia) hO
 refine zc ?_ ;simp only [List.zipIdx_cons,List.zipIdx_nil,List.forIn_cons,List.forIn_nil]
 -- the 0. iterator
 have J0:Heap.IsTupleIter h0 n l0 i:=by obtain⟨o,a1,a2⟩:=j0;exact⟨o,k0 _ _ (by show @Ne Nat _ _;lia) a1,a2⟩
 have T0:Heap.IsTuple h0 l0 mL:=by obtain⟨o,a1,a2⟩:=t0;exact⟨o,k0 _ _ (by show @Ne Nat _ _;lia) a1,a2⟩
 refine zc (zc (wpAny_onRaise ?_)) ;show wpAny _ _ (Builtin.SmallTypes.nextOf (.ref n) >>= _) _ _ _
 refine zc (oz (s:={ s with heap:=h0 }) J0 T0 e0 fun h1 m0 q1=>zx ?_)
 have O1:jP h1 (n+3) arr:=q1.extBut _ _ (by show @Ne Nat _ _;lia) O0
 refine zc (yB (s:={ s with heap:=h1 }) O1 rfl ?_) ;refine zc (rE (s:={ s with heap:=h1 }) O1 (by simp [na,Pu]) fun h2 O2 q2=>?_) ;refine zc (wpAny_letGo (zx ?_))
 have k2:∀c o,c≠(n+4)→c≠(n+3)→c≠n→s.heap.get? c=some o→h2.get? c=some o:=fun c o dz dO d0 e=>q2.extBut _ _ dO (q1.extBut _ _ d0 (k0 c o dz  e))
 -- the 1. iterator
 have J1:Heap.IsTupleIter h2 (n+1) l1 i:=by obtain⟨o,a1,a2⟩:=j1;exact⟨o,k2 _ _ (by show @Ne Nat _ _;lia) (by show @Ne Nat _ _;lia) (by show @Ne Nat _ _;lia) a1,a2⟩
 have T1:Heap.IsTuple h2 l1 oB:=by obtain⟨o,a1,a2⟩:=t1;exact⟨o,k2 _ _ (by show @Ne Nat _ _;lia) (by show @Ne Nat _ _;lia) (by show @Ne Nat _ _;lia) a1,a2⟩
 refine zc (zc (wpAny_onRaise ?_)) ;show wpAny _ _ (Builtin.SmallTypes.nextOf (.ref (n+1)) >>= _) _ _ _
 refine zc (oz (s:={ s with heap:=h2 }) J1 T1 e1 fun h3 m1 q3=>zx ?_)
 have O3:jP h3 (n+3) (arr.setIfInBounds 0 x0):=q3.extBut _ _ (by show @Ne Nat _ _;lia) O2
 refine zc (yB (s:={ s with heap:=h3 }) O3 rfl ?_) ;refine zc (rE (s:={ s with heap:=h3 }) O3 (by simp [na,Pu]) fun h4 O4 q4=>?_) ;refine zc (wpAny_letGo (zx ?_))
 have k4:∀c o,c≠(n+4)→c≠(n+3)→c≠n→c≠(n+1)→s.heap.get? c=some o→h4.get? c=some o:=fun c o dz dO d0 d1 e=>q4.extBut _ _ dO (q3.extBut _ _ d1 (k2 c o dz dO d0 e))
 have ea:((arr.setIfInBounds 0 x0).setIfInBounds 1 x1)=#[x0,x1]:=Rm na x0 x1
 rw[ea] at O4
 have T3:IsZip h4 (n+4) (n+2) (n+3) .ellipsis:=q4.extBut _ _ (by show @Ne Nat _ _;lia) (q3.extBut _ _ (by show @Ne Nat _ _;lia) (q2.extBut _ _ (by show @Ne Nat _ _;lia) (q1.extBut _ _ (by show @Ne Nat _ _;lia) (Ke))))
 have M0:Heap.IsTupleIter h4 n l0 (i+1):=lR q4.extBut (by show @Ne Nat _ _;lia) (lR q3.extBut (by show @Ne Nat _ _;lia) (lR q2.extBut (by show @Ne Nat _ _;lia) m0))
 have M1:Heap.IsTupleIter h4 (n+1) l1 (i+1):=lR q4.extBut (by show @Ne Nat _ _;lia) m1
 have hsz:h4.objs.size=s.heap.objs.size:=by rw[q4.1,q3.1,q2.1,q1.1,q0.1]
 refine zx ?_ ;refine zc (yB (s:={ s with heap:=h4 }) O4 rfl ?_) ;refine zc (wpAny_newTuple ?_)
 have lz:(n+4)<h4.objs.size:=zy T3
 show wpAny _ _ (Builtin.SmallTypes.ownedTupleHandOut (.ref (n+4)) (.ref h4.objs.size) >>= _) _ _ _ ;refine zc ?_ ;unfold Builtin.SmallTypes.ownedTupleHandOut
 have Vp:IsZip (h4.push { cls:=.type "tuple",data:=.seq #[x0,x1] }) (n+4) (n+2) (n+3) .ellipsis:=zd _ T3
 refine zc (wpAny_setField_rec (s:={ s with heap:=h4.push { cls:=.type "tuple",data:=.seq #[x0,x1] } }) Vp (by simp) fun g1 Dm r1=>?_) ;replace Dm:IsZip g1 (n+4) (n+2) (n+3) (rawInt h4.objs.size):=Dm
 refine wpAny_setField_rec (s:={ s with heap:=g1 }) Dm (by simp) fun g2 H9 r2=>?_ ;replace H9:IsZip g2 (n+4) (n+2) (n+3) (rawInt h4.objs.size):=H9
 have up:∀c o,c≠(n+4)→h4.get? c=some o→g2.get? c=some o:=fun c o d e=>r2.extBut _ _ d (r1.extBut _ _ d (zd _ e))
 have hT:jP g2 h4.objs.size #[x0,x1]:=r2.extBut _ _ (yC lz) (r1.extBut _ _ (yC lz) (zB _ rfl))
 rw[hsz] at H9 hT ;refine zx ⟨_,rfl,?_⟩ ;show Q (.ref h4.objs.size) _ ;rw[hsz]
 exact hQ g2 H9 (up _ _ (by show @Ne Nat _ _;lia) O4) (Ap (fun o e=>up _ o (by show @Ne Nat _ _;lia) e) M0) (Ap (fun o e=>up _ o (by show @Ne Nat _ _;lia) e) M1) hT fun c o dz dO d0 d1 e=>up c o dz (k4 c o dz dO d0 d1 e)
theorem Dn(hh:A.handled=none)(b0:l0<n)(b1:l1<n)(hz:IsZip s.heap (n+4) (n+2) (n+3) .none)(hI:jP s.heap (n+2) #[.ref n,.ref (n+1)])(hO:jP s.heap (n+3) arr)(j0:s.heap.IsTupleIter n l0 i)(j1:s.heap.IsTupleIter (n+1) l1 i)(t0:s.heap.IsTuple l0 mL)(t1:s.heap.IsTuple l1 oB)
  (e0:mL[i]?=none) (hE:∀h' e,(∀c o,c≠(n+4)→c≠(n+3)→c≠n→c≠(n+1)→s.heap.get? c=some o→h'.get? c=some o)→(∃o,h'.get? e=some o∧o.cls=.type "StopIteration")→E (.ref e) { s with heap:=h' }) :
  wpAny (model prog w) A (Builtin.«zip.__next__» ⟨[.ref (n+4)],[]⟩) Q E s:=by
 show wpAny _ _ (field (.ref (n+4)) 2 >>= _) _ _ _ ;refine zc (ym hz rfl (x:=.bool false) rfl ?_)
 show wpAny _ _ (field (.ref (n+4)) 3 >>= _) _ _ _ ;refine zc (ym hz rfl (x:=.ref (n+2)) rfl ?_)
 refine zc (yB hI rfl ?_) ;show wpAny _ _ (Builtin.SmallTypes.ownedTupleIsFree (.ref (n+4)) >>= _) _ _ _
 refine zc ?_ ;unfold Builtin.SmallTypes.ownedTupleIsFree
 refine zc (ym hz rfl (x:=.none) rfl (zx ?_)) ;simp only [if_true]
 refine zc (wpAny_rule ?_) ;refine zc (ym hz rfl (x:=.ref (n+3)) rfl ?_)
 refine zc (wpAny_setField_rec hz (by simp) fun h0 Ke q0=>?_) ;replace Ke:IsZip h0 (n+4) (n+2) (n+3) .ellipsis:=Ke
 have J0:Heap.IsTupleIter h0 n l0 i:=by obtain⟨o,a1,a2⟩:=j0;exact⟨o,q0.extBut _ _ (by show @Ne Nat _ _;lia) a1,a2⟩
 have T0:Heap.IsTuple h0 l0 mL:=by obtain⟨o,a1,a2⟩:=t0;exact⟨o,q0.extBut _ _ (by show @Ne Nat _ _;lia) a1,a2⟩
 refine zc ?_ ;simp only [List.zipIdx_cons,List.zipIdx_nil,List.forIn_cons,List.forIn_nil]
 refine zc (zc (wpAny_onRaise ?_)) ;show wpAny _ _ (Builtin.SmallTypes.nextOf (.ref n) >>= _) _ _ _
 refine zc (oA (s:={ s with heap:=h0 }) hh J0 T0 e0 fun h1 e q1 he=>?_)
 obtain⟨oe,Rp,T4⟩:=he ;have Dm:IsZip h1 (n+4) (n+2) (n+3) .ellipsis:=q1 _ _ (by show @Ne Nat _ _;lia) Ke
 have ez:e≠(n+4):=fun x=>by subst x;rw[Dm] at Rp;cases Rp;simp at T4
 refine wpAny_setField_rec (s:={ s with heap:=h1 }) Dm (by simp) fun h2 _ q2=>hE h2 e (fun c o dz _ d0 _ x=>q2.extBut _ _ dz (q1 _ _ d0 (q0.extBut _ _ dz x))) ⟨oe,q2.extBut _ _ ez Rp,T4⟩
end
section
variable{X:Cx}{pins:List (Addr×Obj)}{σ:St}{H:Hp}{s:Shared}{h':Heap}
theorem Inv.Gz(I:Inv X pins σ H s)(wr:List Addr)(hw:∀b∈wr,n_ X pins H b)(k:∀b o,b∉wr→s.heap.get? b=some o→h'.get? b=some o):Inv X pins σ H { s with heap:=h',toks:=t' }:=by
 refine I.step (g':=s.gens) (d':=s.drawn) (ch:=wr) (fun b hb=>by obtain⟨_,a,_,c,d,e⟩:=hw b hb;exact⟨c,a,d,e⟩) (fun b o _ _ hc e _=>k b o hc e) (fun b o _ _ hc e _=>⟨o.slots,k b o hc e⟩) (fun _ _ _ _ n=>n)
  (fun b o hc e=>⟨o,k b o hc e⟩) (fun _ _ e=>e) (fun _ _ _ e=>e) (fun b ps e=>⟨#[],by rw[e];simp⟩) (fun m hm=>?_) (fun b u e=>?_) I.bare
 ·obtain⟨o,es,ep,ho,r⟩:=hm
  exact⟨o,es,ep,k _ o (fun z=>(hw _ z).2.1 rfl) ho,r⟩
 ·refine (I.aQ b u e).sg (fun c v hc q=>k c v (fun z=>?_) q) (fun _ q=>q) fun _ _ q=>q
  have n:=(hw c z).1
  rcases hc with rfl|hc
  ·rw[n] at e;cases e
  ·rw[n] at hc;cases hc
theorem Inv.GA(I:Inv X pins σ H s)(wr:List Addr)(hw:∀b∈wr,n_ X pins H b)(k:∀b o,b∉wr→s.heap.get? b=some o→h'.get? b=some o)(hT:s.heap.get? T=none)(new:aV X.prog X.w (upd H T o) h' T o) :
  Inv X pins σ (upd H T o) { s with heap:=h',toks:=t' }:=by
 have fr:H T=none:=by
  cases q:H T with
  |none=>rfl
  |some u=>obtain⟨z,e⟩:=(I.aQ T u q).get;rw[hT] at e;cases e
 have ne:∀b u,H b=some u→b≠T:=fun b u e z=>by rw[z,fr] at e;cases e
 refine I.step (g':=s.gens) (d':=s.drawn) (ch:=wr) (fun b hb=>by obtain⟨_,a,_,c,d,e⟩:=hw b hb;exact⟨c,a,d,e⟩) (fun b o _ _ hc e _=>k b o hc e) (fun b o _ _ hc e _=>⟨o.slots,k b o hc e⟩) (fun b ob _ e n=>?_)
  (fun b o hc e=>⟨o,k b o hc e⟩) (fun b xs e=>by rw[aD (ne b _ e)];exact e) (fun b ob u e=>by rw[aD (ne b _ e)];exact e) (fun b ps e=>⟨#[],by rw[aD (ne b _ e),e];simp⟩) (fun m hm=>?_) (fun b u e=>?_) I.bare
 ·have:b≠T:=fun z=>by rw[z,hT] at e;cases e
  rw[aD this];exact n
 ·obtain⟨o,es,ep,ho,r⟩:=hm
  exact⟨o,es,ep,k _ o (fun z=>(hw _ z).2.1 rfl) ho,r⟩
 ·by_cases hb:b=T
  ·subst hb;rw[bD] at e;cases e;exact new
  ·rw[aD hb] at e
   refine (I.aQ b u e).sg (fun c v hc q=>k c v (fun z=>?_) q) (fun c q=>by rw[aD (ne c _ q)];exact q) fun c xs q=>by rw[aD (ne c _ q)];exact q
   have n:=(hw c z).1
   rcases hc with rfl|hc
   ·rw[n] at e;cases e
   ·rw[n] at hc;cases hc
end
def Nc(K:Frag)(l0 l1:Addr):It :=
 ⟨fun i H=>∃(mL oB:List V) (x0 x1:V),iq K H l0 mL∧iq K H l1 oB∧mL[i]?=some x0∧oB[i]?=some x1,
  fun i H x H'=>∃T,H T=none∧x=.ref T∧∀(mL oB:List V) (x0 x1:V),iq K H l0 mL→iq K H l1 oB→mL[i]?=some x0→oB[i]?=some x1→H'=upd H T (.tup [x0,x1]),
  fun i H=>∃mL oB,iq K H l0 mL∧iq K H l1 oB∧mL.length≤i⟩
theorem Bz{P:Program}{w:World}{K:Frag}{es:List Expr}{kk:Nat}{tp:Pos}{n l0 l1:Nat}(b0:l0<n)(b1:l1<n):Turn P w K (.Tuple es kk tp) (Nc K l0 l1) [n,(n+1),(n+2),(n+3),(n+4)] (n+4) (TZ n l0 l1) where
 mem:=by simp
 obj:=fun i h st b hb=>by
  obtain⟨hz,hI,⟨arr,na,hO⟩,j0,j1⟩:=st
  have c:b=n∨b=(n+1)∨b=(n+2)∨b=(n+3)∨b=(n+4):=by simpa using hb
  rcases c with rfl|rfl|rfl|rfl|rfl
  ·obtain⟨o,e,c,d⟩:=j0;exact⟨o,e,fun v z=>by rw[d] at z;cases z⟩
  ·obtain⟨o,e,c,d⟩:=j1;exact⟨o,e,fun v z=>by rw[d] at z;cases z⟩
  ·exact⟨_,hI,fun v z=>by cases z⟩
  ·exact⟨_,hO,fun v z=>by cases z⟩
  ·exact⟨_,hz,fun v z=>by cases z⟩
 keep:=fun i h h' st k=>by
  obtain⟨hz,hI,⟨arr,na,hO⟩,j0,j1⟩:=st
  exact⟨k _ (by simp) _ hz,k _ (by simp) _ hI,⟨arr,na,k _ (by simp) _ hO⟩,Ap (fun o e=>k _ (by simp) o e) j0,Ap (fun o e=>k _ (by simp) o e) j1⟩
 item:=by
  intro X hP hw hK hc i pins s σ H E I hf st hg
  subst hP hw hK
  obtain⟨mL,oB,x0,x1,q0,q1,e0,e1⟩:=hg
  obtain⟨BA,Px,p0,_⟩:=I.tuple q0 ;obtain⟨u0,Py,Vq⟩:=Px.get e0
  obtain⟨BB,Rq,p1,_⟩:=I.tuple q1 ;obtain⟨u1,Vr,Vs⟩:=Rq.get e1
  obtain⟨hz,hI,⟨arr,na,hO⟩,j0,j1⟩:=st
  have hT:s.TypeIs (.ref (n+4)) "zip" := ⟨_,hz,rfl⟩
  unfold pyNext
  refine zc (wpAny_attempt (wpAny_callSpecial?_slot (name:=Str.ofString "__next__") hT F.slot_zip_next (wpAny_call_entry F.slot_zip_next hT F.entry_zip_next (By na b0 b1 hz hI hO j0 j1 (show s.heap.IsTuple l0 BA.toArray from p0) (show s.heap.IsTuple l1 BB.toArray from p1) (show BA.toArray[i]?=some u0 by simpa using Py) (show BB.toArray[i]?=some u1 by simpa using Vr) fun h1 z1 O1 m0 m1 T1 kp=>zx ⟨_,rfl,?_⟩) (F.args_zip_next_1 _))))
  refine wpAny_letOwnedTupleGo_zip (s:={ s with heap:=h1 }) z1 fun h2 z2 r2=>?_
  have Vt:∀c o,c∉([(n+4),(n+3),n,(n+1)]:List Addr)→s.heap.get? c=some o→h2.get? c=some o:=fun c o hc e=>by
   simp only [zb,ze,or_false,not_or] at hc
   obtain⟨dz,dO,d0,d1⟩:=hc
   exact r2.extBut _ _ dz (kp c o dz dO d0 d1 e)
  have lz:(n+4)<s.heap.objs.size:=zy hz
  have T2:jP h2 s.heap.objs.size #[u0,u1]:=r2.extBut _ _ (yC lz) T1
  have Vu:∀b∈([(n+4),(n+3),n,(n+1)]:List Addr),n_ X pins H b:=fun b hb=>hf b (by simp only [zb,ze,or_false] at hb ⊢;rcases hb with h|h|h|h <;> simp [h])
  have I2:Inv X pins σ (upd H s.heap.objs.size (.tup [x0,x1])) { s with heap:=h2 }:=I.GA (t':=s.toks) [(n+4),(n+3),n,(n+1)] Vu Vt (Heap.get?_none_of_le (zh _)) ⟨TY (show 2≤1000 by decide),[u0,u1],.cons Vq (.cons Vs (.nil)),⟨_,T2,rfl,rfl,_,rfl⟩⟩
  refine⟨.ref s.heap.objs.size,_,I2,rfl,⟨_,I.aQ.fresh (zh _),rfl,fun Yi Yj y0 y1 g0 g1 f0 f1=>?_⟩,?_,fun b hb=>?_⟩
  ·have:=I.lL g0 q0 ;subst this ;have:=e0.symm.trans f0 ;cases this
   have:=I.lL g1 q1 ;subst this ;have:=e1.symm.trans f1 ;cases this
   rfl
  ·refine⟨z2,r2.extBut _ _ (by show @Ne Nat _ _;lia) (kp _ _ (by show @Ne Nat _ _;lia) (by show @Ne Nat _ _;lia) (by show @Ne Nat _ _;lia) (by show @Ne Nat _ _;lia) hI),⟨_,rfl,r2.extBut _ _ (by show @Ne Nat _ _;lia) O1⟩,lR r2.extBut (by show @Ne Nat _ _;lia) m0,lR r2.extBut (by show @Ne Nat _ _;lia) m1⟩
  ·have l2:b<s.heap.objs.size:=by
    simp only [zb,ze,or_false] at hb
    have lz:@LT.lt Nat _ (n+4) s.heap.objs.size:=lz
    rcases hb with rfl|rfl|rfl|rfl|rfl <;> (show @LT.lt Nat _ _ s.heap.objs.size;lia)
   rw[aD (zG l2)] ;exact (hf b hb).1
 done:=by
  intro X hP hw hK hc i pins s σ H E I hf st hg
  subst hP hw hK
  obtain⟨mL,oB,q0,q1,hx⟩:=hg
  obtain⟨BA,Px,p0,_⟩:=I.tuple q0
  obtain⟨BB,Rq,p1,_⟩:=I.tuple q1
  obtain⟨hz,hI,⟨arr,na,hO⟩,j0,j1⟩:=st
  have hT:s.TypeIs (.ref (n+4)) "zip" := ⟨_,hz,rfl⟩ ;have hl:=Px.length
  unfold pyNext
  refine zc (wpAny_attempt (wpAny_callSpecial?_slot (name:=Str.ofString "__next__") hT F.slot_zip_next (wpAny_call_entry F.slot_zip_next hT F.entry_zip_next (Dn (I.ok.hd hc) b0 b1 hz hI hO j0 j1 (show s.heap.IsTuple l0 BA.toArray from p0) (show s.heap.IsTuple l1 BB.toArray from p1) (by simp;lia) fun h1 e kp he=>?_) (F.args_zip_next_1 _))))
  obtain⟨o,ho,Vv⟩:=he ;refine zc (wpAny_isInstance (T := "StopIteration") (b:=true) ⟨o,ho,Vv⟩ isSubtype_stop (zx ⟨rfl,?_⟩))
  refine I.Gz (t':=s.toks) [(n+4),(n+3),n,(n+1)] (fun b hb=>hf b (by simp only [zb,ze,or_false] at hb ⊢;rcases hb with h|h|h|h <;> simp [h])) fun c o hc e=>?_
  simp only [zb,ze,or_false,not_or] at hc
  obtain⟨dz,dO,d0,d1⟩:=hc
  exact kp c o dz dO d0 d1 e
 self:=fun A' i s Q E st h=>wpAny_pyIter_zip st.1 h
abbrev GB(h:Heap)(l0:Addr):Heap:=(h).push { cls:=.type "tuple_iterator",data:=.fields #[.ref l0,.int 0 0] }
abbrev GC(h:Heap)(l0 l1:Addr):Heap:=(GB h l0).push { cls:=.type "tuple_iterator",data:=.fields #[.ref l1,.int 0 0] }
abbrev GD(h:Heap)(l0 l1:Addr):Heap:=(GC h l0 l1).push { cls:=.type "tuple",data:=.seq #[.ref h.objs.size,.ref (GB h l0).objs.size] }
abbrev GF(h:Heap)(l0 l1:Addr):Heap:=(GD h l0 l1).push { cls:=.type "tuple",data:=.seq #[.none,.none] }
abbrev xh(h:Heap)(l0 l1:Addr):Heap:=(GF h l0 l1).push { cls:=.type "zip",data:=.fields #[.none,.bool false,.bool false,.ref (GC h l0 l1).objs.size,.ref (GD h l0 l1).objs.size] }
theorem xi(l0 l1:Addr)(mL oB:Array Value):Meets (Builtin.«zip.__new__» ⟨[.type "zip",.ref l0,.ref l1],[]⟩) (fun _ R s=>s.heap.IsTuple l0 mL∧s.heap.IsTuple l1 oB∧R (.ok (.ret (.ref (GF s.heap l0 l1).objs.size))) { s with heap:=xh s.heap l0 l1 }) :=
 .of_wp fun prog w A R s h=>by
  obtain⟨hp,g,d,tk,os⟩:=s;obtain⟨t0,t1,h⟩:=h
  have Vw:=sub_zip
  have L0:Heap.IsTuple (Shared.heap ⟨hp,g,d,tk,os⟩) l0 mL:=t0
  have L1:Heap.IsTuple (Shared.heap ⟨hp.push { cls:=.type "tuple_iterator",data:=.fields #[.ref l0,.int 0 0] },g,d,tk,os⟩) l1 oB:=Heap.IsTuple.push (t1) _
  wp_walk using wpAny_pyIter_tuple L0,wpAny_pyIter_tuple L1
  exact⟨_,rfl,h⟩
theorem xj(t0:s.heap.IsTuple l0 mL)(t1:s.heap.IsTuple l1 oB)
  (h:∀h',TZ s.heap.objs.size l0 l1 0 h'→(∀c o,s.heap.get? c=some o→h'.get? c=some o)→Q (.ref (s.heap.objs.size+4)) { s with heap:=h' }):wpAny (model prog w) A (call (.type "zip") [.ref l0,.ref l1]) Q E s:=by
 refine callType_new F.called_zip (by decide) (F.typeCall_zip_2 _ _) (F.newCall_zip_2 _ _) (fun obj=>F.args_object_init_3 obj _ _) F.entry_zip_new (xi l0 l1 mL oB) ⟨t0,t1,?_⟩
 have z1:(GB s.heap l0).objs.size=s.heap.objs.size+1:=yw ..
 have z2:(GC s.heap l0 l1).objs.size=s.heap.objs.size+2:=by rw[yw,z1]
 have z3:(GD s.heap l0 l1).objs.size=s.heap.objs.size+3:=by rw[yw,z2]
 have z4:(GF s.heap l0 l1).objs.size=s.heap.objs.size+4:=by rw[yw,z3]
 have z5:(xh s.heap l0 l1).objs.size=s.heap.objs.size+5:=by rw[yw,z4]
 have g0:(xh s.heap l0 l1).get? (s.heap).objs.size=some _:=zd _ (zd _ (zd _ (zd _ (zB _ rfl))))
 have g1:(xh s.heap l0 l1).get? (GB s.heap l0).objs.size=some _:=zd _ (zd _ (zd _ (zB _ rfl)))
 have g2:(xh s.heap l0 l1).get? (GC s.heap l0 l1).objs.size=some _:=zd _ (zd _ (zB _ rfl))
 have g3:(xh s.heap l0 l1).get? (GD s.heap l0 l1).objs.size=some _:=zd _ (zB _ rfl)
 have g4:(xh s.heap l0 l1).get? (GF s.heap l0 l1).objs.size=some _:=zB _ rfl
 show _∧_
 rw[z2,z3,z4] at g4
 rw[z3] at g3
 rw[z1,z2] at g2
 rw[z1] at g1
 rw[z4]
 exact⟨⟨_,g4,rfl⟩,h _ ⟨g4,g2,⟨_,rfl,g3⟩,⟨_,g0,rfl,rfl⟩,⟨_,g1,rfl,rfl⟩⟩ fun c o x=>zd _ (zd _ (zd _ (zd _ (zd _ x))))⟩
def Nd(K:Frag)(ta:TA):TI:=fun σ H R=>ta σ H fun vs H1=>∃l0 l1,vs=[.ref l0,.ref l1]∧(∃xs,iq K H1 l0 xs)∧(∃xs,iq K H1 l1 xs)∧R (Nc K l0 l1) H1
theorem GG(hg:Gl X "zip")(hm:X.mg "zip" = none)(ha:PA X [a,b] ta)(hs:starEach [a,b] X.env=[(false,eval a X.env),(false,eval b X.env)]:=by rfl)(uH:starEach [b] X.env=[(false,eval b X.env)]:=by rfl) :
  PI X (.Tuple es kk tp) (.Call (.Name "zip" p) [a,b] [] pos) (Nd X.K ta):=by
 intro pins s σ H R I h
 refine Call_ (jM I hg hm boot_zip (PyProof.Rows.callWith_type1 (bt (ha pos pins s σ H _ I h) fun us s1 ⟨vs,H1,I1,r1,q1⟩=>?_) (by rw[hs,uH]) (by rw[uH];rfl)))
 obtain⟨l0,l1,e,⟨mL,q0⟩,⟨oB,q2⟩,q⟩:=q1
 subst e
 obtain⟨u,v,rfl,r,r'⟩:=r1.two
 cases r
 cases r'
 obtain⟨BA,Px,p0,_⟩:=I1.tuple q0
 obtain⟨BB,Rq,p1,_⟩:=I1.tuple q2
 refine xj (show s1.heap.IsTuple l0 BA.toArray from p0) (show s1.heap.IsTuple l1 BB.toArray from p1) fun h' zs kp=>?_
 refine wpAny_pyIter_zip (s:={ s1 with heap:=h' }) zs.1 ⟨_,_,_,_,H1,rfl,I1.kept (t':=s1.toks) kp,Bz p0.lt p1.lt,zs,fun b hb=>?_,q⟩
 have Na:s1.heap.objs.size≤b:=by
  simp only [zb,ze,or_false] at hb
  rcases hb with rfl|rfl|rfl|rfl|rfl <;> (show @LE.le Nat _ _ _;lia)
 exact I1.qr Na (I1.aQ.fresh Na)
def Nf:R2:=fun x y H Q=>∃z n,x=.str z∧y=.int n∧MulOk z n∧Q (.str (PySem.Txt.mul z n)) H
theorem xk:fO X (binaryOp .Mult) Nf:=by
 intro pins s σ H x y v u Q I rx ry h
 obtain⟨z,n,rfl,rfl,hm,q⟩:=h
 obtain⟨t,rfl⟩:=rx
 obtain⟨t',rfl⟩:=ry
 exact SB.mul hm fun Vx k=>⟨.str _,H,I.tok k,⟨_,rfl⟩,q⟩
section
variable{σ:St}{H:Hp}{te tb:TE}{K:Frag}
end
def GH(w:World)(K:Frag)(a:Addr)(kvs:List (Str×V)):Prop:=(a == sysModules)=false∧∃(o:Obj) (es:Array DictEntry) (ep:Nat),K.lookup a=some o∧o.ExactDict∧o.data=.dict es ep ∧
 Paired (fun (e:DictEntry) (kv:Str×V)=>e.hash=hashStr w kv.1∧(∃t,e.key=.str kv.1 t)∧RelV kv.2 e.val) es.toList kvs∧(kvs.map Prod.fst).Nodup
theorem oC(z:Str):∀kvs:List (Str×V),kl (kvs.map fun p=>((.inr p.1:Key),p.2)) (.inr z)=kvs.lookup z
 |[]=>rfl
 | (x,v)::r=>by
  rw[zF,zO]
  by_cases e:z=x
  ·subst e
   rw[oq rfl]
   simp
  ·have e1:(z == x)=false:=by simpa using e
   rw[ot (fun q=>e (Sum.inr.inj q).symm),e1]
   exact oC z r
section
variable{X:Cx}{pins:List (Addr×Obj)}{σ:St}{H:Hp}{s:Shared}{a:Addr}{kvs:List (Str×V)}
theorem xl(I:Inv X pins σ H s)(d:GH X.w X.K a kvs):(a == sysModules)=false∧∃vs,KV (kvs.map fun p=>((.inr p.1:Key),p.2)) vs∧s.heap.DictOf (aH X.prog X.w) a vs:=by
 obtain⟨ns,o,es,ep,hk,hx,hd,hp,hn⟩:=d
 have all:∀(es:List DictEntry) (kvs:List (Str×V)),Paired (fun (e:DictEntry) (kv:Str×V)=>e.hash=hashStr X.w kv.1∧(∃t,e.key=.str kv.1 t)∧RelV kv.2 e.val) es kvs →
   ∃vs:List (Key×Value),KV (kvs.map fun p=>((.inr p.1:Key),p.2)) vs∧Pairs (aH X.prog X.w) es vs∧vs.map (·.1)=kvs.map (fun p=>(.inr p.1:Key))∧∀e∈es,∃k,(aH X.prog X.w).is k e.key=true∧e.hash=(aH X.prog X.w).hash k:=by
  intro es kvs hp
  induction hp with
  |nil=>exact⟨[],.nil,.nil,rfl,by simp⟩
  |@cons e kv Pc kvs' h t ih =>
   obtain⟨vs,k1,k2,k3,k4⟩:=ih
   obtain⟨h1,⟨tk,h2⟩,h3⟩:=h
   have hi:(aH X.prog X.w).is (.inr kv.1) e.key=true:=by rw[h2];exact ir _ _ _ _
   refine⟨(.inr kv.1,e.val)::vs,.cons ⟨rfl,h3⟩ k1,.cons hi rfl k2,by rw[zF,zF,k3],fun e' he=>?_⟩
   rcases zb.mp he with rfl|he
   ·exact⟨.inr kv.1,hi,h1⟩
   ·exact k4 e' he
 obtain⟨vs,k1,k2,k3,k4⟩:=all _ _ hp
 refine⟨ns,vs,k1,o,es,ep,I.sh a o hk,hx,hd,fun e he=>k4 e (by simpa using he),k2,?_⟩
 rw[k3]
 have:(kvs.map fun p=>(.inr p.1:Key))=(kvs.map Prod.fst).map Sum.inr:=by rw[zC];rfl
 rw[this]
 exact List.Pairwise.map _ (fun x y h q=>h (Sum.inr.inj q)) hn
theorem Dq{w:World}{K:Frag}(hw:X.w=w)(hK:X.K=K):fO X (compareOp .In) (fun x y H Q=>∃z a kvs,x=.str z∧y=.ref a∧GH w K a kvs∧Q (.bl (kvs.lookup z).isSome) H):=by
 subst hw hK
 intro pins s σ H x y v u Q I rx ry h
 obtain⟨z,a,kvs,rfl,rfl,d,q⟩:=h
 cases ry
 obtain⟨ns,vs,rel,dd⟩:=xl I d
 refine wpAny_in_of (rn (k:=.inr z) rx) ns dd.mapOf ?_
 rw[← (rel.val (.inr z)).lO,oC]
 exact⟨.bl _,H,I.tok _,rfl,q⟩
def Ng(w:World)(K:Frag):V→List V→Hp→VK→Prop:=fun x vs H Q=>∃a z kvs,x=.ref a∧vs=[.str z]∧GH w K a kvs∧Q ((kvs.lookup z).getD .aC) H
theorem GI{w:World}{K:Frag}(hw:X.w=w)(hK:X.K=K):JE X "dict.get" (Ng w K):=by
 subst hw hK
 intro pins s σ H x vs v us Q I rx rv h
 obtain⟨a,z,kvs,rfl,rfl,d,q⟩:=h
 cases rx
 obtain⟨u,rfl,ru⟩:=rv.one
 obtain⟨ns,vs,rel,dd⟩:=xl I d
 refine call_meetsIn PySem.F.slot_dict_get dd.typeIs PySem.F.entry_dict_get (PySem.F.args_dict_get_2 _ _) (meets_dict_get (aH X.prog X.w) a (rn (k:=.inr z) ru) ns) ⟨_,dd.mapOf,_,H,I.tok _,?_,q⟩
 rw[← oC]
 exact (rel.val (.inr z)).getD rfl
theorem Ds{w:World}{K:Frag}{o e:Expr}{apos aP:Pos}{td ty:TE}(hw:X.w=w)(hK:X.K=K)(ho:PE X o td)(he:PE X e ty)(m:M1 X o "get" apos e aP):PE X (.Call (.Attribute o "get" apos) [e] [] aP)
  (fun σ H Q=>td σ H fun x H1=>∃a kvs,x=.ref a∧GH w K a kvs∧ty σ H1 fun y H2=>∃z,y=.str z∧Q ((kvs.lookup z).getD .aC) H2):=by
 subst hw hK
 intro pins s σ H Q I h
 refine wpAny_Call_method m.base m.HW m.line PySem.F.plainAttrs_dict PySem.F.slot_dict_get PySem.F.type_dict_get (bt (ho pins s σ H _ I h) fun u s1 ⟨x,H1,I1,rx,a,kvs,ex,d,q1⟩=>?_)
 subst ex
 obtain rfl:u=Value.ref a:=rx
 obtain⟨ns,vs,rel,dd⟩:=xl I1 d
 obtain⟨ob,_,_,h1,h2,_⟩:=id dd
 refine⟨dd.typeIs,fun b q=>by cases q;exact⟨ob,h1,h2.2.1⟩,?_⟩
 rw[m.trees]
 refine Calls.callWith_builtin rfl (Calls.evalArgs_plain (Calls.spliced_cons (bt (he pins s1 σ H1 _ I1 q1) fun iv s2 ⟨y,H2,I2,ry,z,ey,q2⟩=>Calls.spliced_nil ?_)))
 subst ey
 exact GI rfl rfl pins s2 σ H2 (.ref a) [.str z] _ [iv] Q I2 rfl (.cons ry .nil) ⟨a,z,kvs,rfl,rfl,d,q2⟩
end
section
variable{K:Frag}{σ:St}{H:Hp}
end
section
variable{prog:Program}{w:World}{A:Around}{E:Value→Shared→Prop}{s:Shared}{n l0 l1 l2:Nat}{i:Nat}{mL oB Yk:Array Value}
end
section
variable{K:Frag}{σ:St}{H:Hp}
end
section
variable{X:Cx}
def GJ:V→List V→Hp→VK→Prop:=fun x vs H Q=>∃z y,x=.str z∧vs=[.str y]∧Q (.bl (PySem.Txt.startswith z y)) H
theorem qz:JE X "str.startswith" GJ:=by
 intro pins s σ H x vs v us Q I rx rv h
 obtain⟨z,y,rfl,rfl,q⟩:=h
 obtain⟨t,rfl⟩:=rx
 obtain⟨u,rfl,ru⟩:=rv.one
 obtain⟨t',rfl⟩:=ru
 exact PySem.SC.startswith ⟨.bl _,H,I,rfl,q⟩
theorem lS:∀{texts:List Str}{us:List Value},Vals (texts.map V.str) us→∃l,us=strValues l∧l.map (·.1)=texts
 |[],_,.nil=>⟨[],rfl,rfl⟩
 |z::zs,_,.cons r q=>by
  obtain⟨t,rfl⟩:=r
  obtain⟨l,rfl,e⟩:=lS q
  exact⟨(z,t)::l,rfl,by rw[zF,e]⟩
def rJoin(K:Frag):V→List V→Hp→VK→Prop:=fun x vs H Q=>∃z l texts,x=.str z∧vs=[.ref l]∧jN K H l (texts.map V.str)∧JoinOk z texts=true∧Q (.str (PySem.Txt.join z texts)) H
theorem GK:JE X "str.join" (rJoin X.K):=by
 intro pins s σ H x vs v us Q I rx rv h
 obtain⟨z,l,texts,rfl,rfl,hl,aQ,q⟩:=h
 obtain⟨t,rfl⟩:=rx
 obtain⟨u,rfl,ru⟩:=rv.one
 cases ru
 obtain⟨ao,r1,p1,_⟩:=I.list hl
 obtain⟨ll,rfl,e⟩:=lS r1
 exact PySem.SC.join p1.isList e aQ fun t' k=>⟨.str _,H,I.tok k,⟨_,rfl⟩,q⟩
def Ru:V→Option Int→Option Int→Hp→VK→Prop:=fun x lo hi H Q=>∃z,x=.str z∧z.length≤sizeLine∧Q (.str (PySem.Txt.slice z lo hi)) H
theorem Kf:LC X Ru:=by
 intro pins s σ H x v vl vu lo hi sl Q I rx hs pl pu h
 obtain⟨z,rfl,hz,q⟩:=h
 obtain⟨t,rfl⟩:=rx
 obtain⟨o,e1,e2,e3⟩:=hs
 refine⟨"str",_,F.slot_str_getitem.lookup,typeIs_str _ _ _,?_⟩
 have fin:∀k,∀t':Tok,EP X pins σ Q (.str (PySem.Txt.slice z lo hi) t') { s with toks:=k }:=fun k t'=>⟨.str _,H,I.tok k,⟨_,rfl⟩,q⟩
 cases pl with
 |none =>
  cases pu with
  |none=>exact wpAny_getItem_str_slice (l:=none) (u:=none) (st:=none) ⟨o,e1,e2,e3⟩ rfl (post_val_or_str ⟨zt (Txt.slice_le z _ _) hz,fun t' k=>fin k t'⟩)
  |int j uj=>exact wpAny_getItem_str_slice (l:=none) (u:=some (j,uj)) (st:=none) ⟨o,e1,e2,e3⟩ rfl (post_val_or_str ⟨zt (Txt.slice_le z _ _) hz,fun t' k=>fin k t'⟩)
 |int i ui =>
  cases pu with
  |none=>exact wpAny_getItem_str_slice (l:=some (i,ui)) (u:=none) (st:=none) ⟨o,e1,e2,e3⟩ rfl (post_val_or_str ⟨zt (Txt.slice_le z _ _) hz,fun t' k=>fin k t'⟩)
  |int j uj=>exact wpAny_getItem_str_slice (l:=some (i,ui)) (u:=some (j,uj)) (st:=none) ⟨o,e1,e2,e3⟩ rfl (post_val_or_str ⟨zt (Txt.slice_le z _ _) hz,fun t' k=>fin k t'⟩)
end
end L2
namespace L2
open PySem PySem.Spec PyProof.Rows PySem.SeqAt
end L2
namespace L2
open PySem PySem.Spec PyProof.Rows
theorem sI(l:Addr)(items:Array Value)(n:Nat)(b:Addr)(oD:Array Value)(n2:Nat)(sl:Array (Option Value))(Yl:¬(!items.isEmpty && Builtin.List.listTooLong (items.size+oD.size))=true)(Rw:items.size≤sizeLine)(uH:items.size+oD.size≤sizeLine+1) :
  Meets (Builtin.«list.extend» ⟨[.ref l,.ref b],[]⟩) (fun _ R s=>s.heap.get? l=some { cls:=.type "list",dict:=none,data:=.seq items n,slots:=#[] }∧s.heap.get? b=some { cls:=.type "tuple",dict:=none,data:=.seq oD n2,slots:=sl }∧R (.ok (.ret Value.none)) { s with heap:=s.heap.update l (Obj.mapSeq fun x=>x++oD),toks:=s.toks }) :=
 .of_wp fun prog w A R s h=>by
  obtain⟨hp,g,d,tk,os⟩:=s;obtain⟨hl,hb,h⟩:=h;have f1:=AutoSeq1.idx_int;have f2:=AutoSeq1.sub_tuple_tuple;have f3:=AutoSeq1.sub_list_list;have f4:=AutoSeq1.sub_tuple_list;have f5:=AutoSeq1.sub_list_tuple;
  have PB:(items++oD).size≤sizeLine+1:=by rw[Array.size_append];exact uH
  wp_walk using (wpAny_updateSeq hl rfl (hz:=Rw) (_hz':=PB)),AutoSeq1.wpAny_loadPart' hl,AutoSeq1.wpAny_loadPart' hb;exact⟨_,rfl,h⟩
section
variable{X:Cx}{K:Frag}
def Du:V→List V→Hp→VK→Prop:=fun x vs H Q=>∃l b xs zs,x=.ref l∧vs=[.ref b]∧H l=some (.lst xs)∧H b=some (.tup zs)∧xs.length+zs.length≤sizeLine∧Q .aC (upd H l (.lst (xs++zs)))
theorem xm:Pn X "list.extend" Du:=by
 intro pins s σ H x vs v us Q I rx rv h
 obtain⟨l,b,xs,zs,rfl,rfl,hH,hB,hz,q⟩:=h
 cases rx
 obtain⟨u,rfl,ru⟩:=rv.one
 cases ru
 obtain⟨z,ao,n,r,hl,e⟩:=I.Bh hH
 obtain⟨z2,oj,r2,⟨c2,d2,Vy,C3⟩,e2,ec,ed,n2,en⟩:=(show aV X.prog X.w H s.heap b (.tup zs) from I.aQ b _ hB)
 dsimp only at ec ed en
 subst ec ed en
 have CF:=r2.length
 have hsz:ao.toArray.size+oj.toArray.size≤sizeLine:=by rw[zw,zw];lia
 have Nh:¬ (!ao.toArray.isEmpty && Builtin.List.listTooLong (ao.toArray.size+oj.toArray.size))=true:=by
  rw[C8 hsz,Bool.and_false]
  exact zm
 refine call_meets F.slot_list_extend ⟨_,e,rfl⟩ F.entry_list_extend (F.args_list_extend_2 _ _)
  (sI l ao.toArray n b oj.toArray n2 C3 Nh (by rw[zw];lia) (by lia)) ⟨e,e2,?_⟩
 refine⟨.aC,_,I.Gf (its':=ao++oj) hH e (by simp) (r.append r2) ?_,rfl,q⟩
 rw[zo]
 lia
def Kg(lo c:Int)(n:Nat):It:=⟨fun i _=>i<n,fun i H x H'=>H'=H∧x=.int (lo+i * c),fun i _=>n≤i⟩
theorem uY(it:Addr)(lo c:Int)(n:Nat):Turn P w K tg (Kg lo c n) [it] it (fun i h=>IsRangeIter h it (lo+(i:Nat) * c) ((n:Int) - (i:Nat)) c) where
 mem:=by simp
 obj:=fun i h st b hb=>by
  have e:b=it:=by simpa using hb
  subst e
  exact⟨_,st,fun v z=>by
   have z':Data.fields _=Data.cell v:=z
   cases z'⟩
 keep:=fun i h h' st k=>k it (by simp) _ st
 item:=by
  intro X hP hw hK hc i pins s σ H E I hf st hg
  subst hP hw hK
  obtain⟨f0,f1,f2,f3,f4,f5⟩:=hf it (by simp)
  have W:=Walks.range (prog:=X.prog) (w:=X.w) (I.ok.hd hc) it lo c n
  refine W.item i s _ _ hg st fun v h' tk hv ie kk=>?_
  obtain⟨t,rfl⟩:=hv
  have I1:Inv X pins σ H { s with heap:=h',toks:=tk }:=I.turned (fun b o hb e=>kk b o (by simpa using hb) e) f0 f1 f3 f4 f5
  exact⟨_,rfl,uF (s:={ s with heap:=h',toks:=tk }) (n := "range_iterator") ie rfl rfl (by decide) ⟨.int (lo+i * c),H,I1,⟨t,rfl⟩,⟨rfl,rfl⟩,ie,fun b hb=>(hf b hb).1⟩⟩
 done:=by
  intro X hP hw hK hc i pins s σ H E I hf st hg
  subst hP hw hK
  obtain⟨f0,f1,f2,f3,f4,f5⟩:=hf it (by simp)
  exact wpAny_pyNext_range_end (I.ok.hd hc) st (by have:n≤i:=hg;lia) fun h' eb=>⟨rfl,I.turned (t':=s.toks) (fun b o hb e=>eb b o hb e) f0 f1 f3 f4 f5⟩
 self:=fun _ _ _ _ _ st h=>wpAny_pyIter_rangeiter st h
theorem BC(I:Inv X pins σ H s)(h3:0≤hi)(h4:hi≤100000)(h5:1≤c)(h6:c≤1000)
  (q:R (Kg 0 c ((hi+c - 1) / c).toNat) H):wpAny (model X.prog X.w) X.A (pyIter (.ref s.heap.objs.size)) (Pe X pins σ tg R) E { s with heap:=s.heap.push { cls:=.type "range",data:=.fields #[.int 0 t,.int hi u,.int c v] },toks:=tk }:=by
 have hsz:Builtin.Range.rangeSize 0 hi c=(((hi+c - 1) / c).toNat:Int):=by
  have h7:0≤(hi+c - 1) / c:=Int.ediv_nonneg (by lia) (by lia)
  rw[Int.toNat_of_nonneg h7]
  unfold Builtin.Range.rangeSize
  rw[if_pos (by lia)]
  by_cases h:0<hi
  ·rw[if_pos h,show hi+c - 1=(hi - 0 - 1)+c * 1 by lia,Int.add_mul_ediv_left _ _ (by lia)]
  ·have:hi=0:=by lia
   subst this
   rw[if_neg (by lia),Int.ediv_eq_zero_of_lt (by lia) (by lia)]
 have Vz:Builtin.Range.small 0 hi c=true:=by
  have h8:((hi+c - 1) / c).toNat≤200000:=by
   have:=Int.ediv_le_self c (show 0≤hi+c - 1 by lia)
   lia
  unfold Builtin.Range.small
  rw[hsz]
  simp only [Builtin.Range.rangeFitsLong,zg,ye,zi,beq_iff_eq,show c>0 by lia,if_true]
  lia
 refine wpAny_pyIter_range (IsRange.new ..) Vz ?_
 have I1:Inv X pins σ H { s with heap:=s.heap.push { cls:=.type "range",data:=.fields #[.int 0 t,.int hi u,.int c v] },toks:=tk }:=I.kept fun b o e=>zd _ e
 refine⟨(s.heap.push { cls:=.type "range",data:=.fields #[.int 0 t,.int hi u,.int c v] }).objs.size,[(s.heap.push { cls:=.type "range",data:=.fields #[.int 0 t,.int hi u,.int c v] }).objs.size],_,_,H,rfl,
  I1.kept (t':=tk) fun b o e=>zd _ e,uY _ 0 c ((hi+c - 1) / c).toNat,?_,fun b hb=>?_,q⟩
 ·have e1:(0:Int)+((0:Nat):Int) * c=0:=by simp
  have e2:(((hi+c - 1) / c).toNat:Int) - ((0:Nat):Int)=Builtin.Range.rangeSize 0 hi c:=by rw[hsz];simp
  show IsRangeIter _ _ ((0:Int)+((0:Nat):Int) * c) ((((hi+c - 1) / c).toNat:Int) - ((0:Nat):Int)) c
  rw[e1,e2]
  exact zB _ rfl
 ·have e:b=(s.heap.push { cls:=.type "range",data:=.fields #[.int 0 t,.int hi u,.int c v] }).objs.size:=by simpa using hb
  subst e
  exact I1.qr (zh _) (I1.aQ.fresh (zh _))
def Ni(ta:TA):TI:=fun σ H R=>ta σ H fun vs H1=>∃j c:Int,vs=[.int 0,.int j,.int c]∧0≤j∧j≤100000∧1≤c∧c≤1000∧R (Kg 0 c ((j+c - 1) / c).toNat) H1
theorem BD(hg:Gl X "range")(hm:X.mg "range" = none)(ha:PA X [a,b,c] ta)(hs:starEach [a,b,c] X.env=[(false,eval a X.env),(false,eval b X.env),(false,eval c X.env)]:=by rfl)(uH:starEach [b,c] X.env=[(false,eval b X.env),(false,eval c X.env)]:=by rfl) :
  PI X tg (.Call (.Name "range" p) [a,b,c] [] pos) (Ni ta):=by
 intro pins s σ H R I h
 refine Call_ (jM I hg hm boot_range (PyProof.Rows.callWith_type1 (bt (ha pos pins s σ H _ I h) fun us s1 ⟨vs,H1,I1,r1,q1⟩=>?_) (by rw[hs,uH]) (by rw[uH];rfl)))
 obtain⟨j,c,e,q1,q2,q3,q4,q⟩:=q1
 subst e
 cases r1 with
 |cons r rr =>
  cases rr with
  |cons r' rr =>
   cases rr with
   |cons VA rr =>
    cases rr
    obtain⟨t,rfl⟩:=r
    obtain⟨t',rfl⟩:=r'
    obtain⟨Vx,rfl⟩:=VA
    exact call_range_3 (by lia) (BC I1 q1 q2 q3 q4 q) (.inl (PyProof.noPylong_small (by lia)))
end
inductive D where
 |aC|bl (b:Bool)|int (i:Int)|str (x:Str)|tup (ds:List D)|jc (ds:List D)|kt (ds:List D)|ref (a:Addr)|ty (n:String)
def Rx(K:Frag)(a:Addr)(xs:List V):Prop:=∃(o:Obj) (ao:Array Value) (n:Nat),K.lookup a=some o∧o.cls=.type "tuple" ∧ o.data=.seq ao n∧ao.size≤sizeLine∧Vals xs ao.toList
def H_(K:Frag)(H:Hp)(a:Addr)(xs:List V):Prop :=
 (∃o,H a=some (.lJ o (.lst xs)))∨∃(o:Obj) (ao:Array Value) (n:Nat),K.lookup a=some o∧o.cls=.type "list" ∧ o.dict=none∧o.data=.seq ao n∧ao.size≤sizeLine∧Vals xs ao.toList
theorem H_.sq{K:Frag}{H:Hp}{a:Addr}{xs:List V}(h:H_ K H a xs):jN K H a xs:=by
 rcases h with h|h
 ·exact .inl (.inr h)
 ·exact .inr h
structure Kp(K:Frag)(H H':Hp):Prop where
 t:∀a xs,H a=some (.tup xs)→H' a=some (.tup xs)
 r:∀a xs,H_ K H a xs→H_ K H' a xs
 f:∀a o u,H a=some (.lJ o u)→H' a=some (.lJ o u)
theorem Kp.refl{K:Frag}(H:Hp):Kp K H H:=⟨fun _ _ h=>h,fun _ _ h=>h,fun _ _ _ h=>h⟩
theorem Kp.trans{K:Frag}{H H1 H2:Hp}(a:Kp K H H1)(b:Kp K H1 H2):Kp K H H2:=⟨fun p xs h=>b.t p xs (a.t p xs h),fun p xs h=>b.r p xs (a.r p xs h),fun p o u h=>b.f p o u (a.f p o u h)⟩
theorem Kp.of{K:Frag}{H H':Hp}(h:∀b o,H b=some o→H' b=some o∨(∀xs,o≠.tup xs)∧∀u v,o≠.lJ u v):Kp K H H' where
 t:=fun a xs q=>(h _ _ q).resolve_right fun z=>z.1 _ rfl
 r:=fun a xs q=>by
  rcases q with ⟨o,q⟩|q
  ·exact .inl ⟨o,(h _ _ q).resolve_right fun z=>z.2 _ _ rfl⟩
  ·exact .inr q
 f:=fun a o u q=>(h _ _ q).resolve_right fun z=>z.2 _ _ rfl
theorem Kp.new{K:Frag}{H:Hp}{a:Addr}{o:HO}(h:H a=none):Kp K H (upd H a o):=.of fun b u e=>.inl (by rw[aD (aX e h)];exact e)
theorem Kp.put{K:Frag}{H:Hp}{a:Addr}{o u:HO}(h:H a=some o)(h1:∀xs,o≠.tup xs)(h2:∀u v,o≠.lJ u v):Kp K H (upd H a u):=.of fun b v e=>by
 by_cases q:b=a
 ·subst q;rw[h] at e;cases e;exact .inr ⟨h1,h2⟩
 ·exact .inl (by rw[aD q];exact e)
mutual
def Rv(K:Frag)(H:Hp):D→V→Prop
 |.aC,v=>v=.aC
 |.bl b,v=>v=.bl b
 |.int i,v=>v=.int i
 |.str z,v=>v=.str z
 |.tup ds,v=>∃a xs,v=.ref a∧H a=some (.tup xs)∧RvAll K H ds xs
 |.jc ds,v=>∃a xs,v=.ref a∧H_ K H a xs∧RvAll K H ds xs
 |.kt ds,v=>∃a xs,v=.ref a∧Rx K a xs∧RvAll K H ds xs
 |.ref a,v=>v=.ref a
 |.ty n,v=>v=.ty n
def RvAll(K:Frag)(H:Hp):List D→List V→Prop
 |[],xs=>xs=[]
 |d::ds,xs=>∃y ys,xs=y::ys∧Rv K H d y∧RvAll K H ds ys
end
section
variable{K:Frag}{H H':Hp}
theorem lT:Rv K H .aC .aC:=by simp only [Rv]
theorem bH(b:Bool):Rv K H (.bl b) (.bl b):=by simp only [Rv]
theorem aF(i:Int):Rv K H (.int i) (.int i):=by simp only [Rv]
theorem cY(z:Str):Rv K H (.str z) (.str z):=by simp only [Rv]
theorem oE(a:Addr):Rv K H (.ref a) (.ref a):=by simp only [Rv]
theorem Nj(n:String):Rv K H (.ty n) (.ty n):=by simp only [Rv]
theorem Dw(h:Rx K a xs)(t:RvAll K H ds xs):Rv K H (.kt ds) (.ref a):=by simp only [Rv];exact⟨a,xs,rfl,h,t⟩
theorem jQ(h:H a=some (.tup xs))(t:RvAll K H ds xs):Rv K H (.tup ds) (.ref a):=by simp only [Rv];exact⟨a,xs,rfl,h,t⟩
theorem Dx(h:H_ K H a xs)(t:RvAll K H ds xs):Rv K H (.jc ds) (.ref a):=by simp only [Rv];exact⟨a,xs,rfl,h,t⟩
theorem Rv.aC(h:Rv K H .aC v):v=.aC:=by simpa only [Rv] using h
theorem Rv.bl(h:Rv K H (.bl b) v):v=.bl b:=by simpa only [Rv] using h
theorem Rv.int(h:Rv K H (.int i) v):v=.int i:=by simpa only [Rv] using h
theorem Rv.str(h:Rv K H (.str z) v):v=.str z:=by simpa only [Rv] using h
theorem Rv.ref(h:Rv K H (.ref a) v):v=.ref a:=by simpa only [Rv] using h
theorem Rv.ty(h:Rv K H (.ty n) v):v=.ty n:=by simpa only [Rv] using h
theorem Rv.kt(h:Rv K H (.kt ds) v):∃a xs,v=.ref a∧Rx K a xs∧RvAll K H ds xs:=by simpa only [Rv] using h
theorem Rv.tup(h:Rv K H (.tup ds) v):∃a xs,v=.ref a∧H a=some (.tup xs)∧RvAll K H ds xs:=by simpa only [Rv] using h
theorem Rv.jc(h:Rv K H (.jc ds) v):∃a xs,v=.ref a∧H_ K H a xs∧RvAll K H ds xs:=by simpa only [Rv] using h
theorem bJ:RvAll K H [] []:=by simp only [RvAll]
theorem bg(h:Rv K H d x)(t:RvAll K H ds xs):RvAll K H (d::ds) (x::xs):=by simp only [RvAll];exact⟨x,xs,rfl,h,t⟩
theorem RvAll.nil(h:RvAll K H [] xs):xs=[]:=by simpa only [RvAll] using h
theorem RvAll.cons(h:RvAll K H (d::ds) xs):∃y ys,xs=y::ys∧Rv K H d y∧RvAll K H ds ys:=by simpa only [RvAll] using h
mutual
theorem Rv.ts(s:Kp K H H'):∀(d:D) {v:V},Rv K H d v→Rv K H' d v
 |.aC,v,h=>by simpa only [Rv] using h
 |.bl b,v,h=>by simpa only [Rv] using h
 |.int i,v,h=>by simpa only [Rv] using h
 |.str z,v,h=>by simpa only [Rv] using h
 |.tup ds,v,h=>by
  obtain⟨a,xs,rfl,e,t⟩:=h.tup
  exact jQ (s.t _ _ e) (RvAll.ts s ds t)
 |.jc ds,v,h=>by
  obtain⟨a,xs,rfl,e,t⟩:=h.jc
  exact Dx (s.r _ _ e) (RvAll.ts s ds t)
 |.kt ds,v,h=>by
  obtain⟨a,xs,rfl,e,t⟩:=h.kt
  exact Dw e (RvAll.ts s ds t)
 |.ref a,v,h=>by simpa only [Rv] using h
 |.ty n,v,h=>by simpa only [Rv] using h
theorem RvAll.ts(s:Kp K H H'):∀(ds:List D) {xs:List V},RvAll K H ds xs→RvAll K H' ds xs
 |[],xs,h=>by rw[h.nil];exact bJ
 |d::ds,xs,h=>by
  obtain⟨y,ys,rfl,h1,h2⟩:=h.cons
  exact bg (Rv.ts s d h1) (RvAll.ts s ds h2)
end
theorem RvAll.len:∀{ds:List D}{xs:List V},RvAll K H ds xs→xs.length=ds.length
 |[],xs,h=>by rw[h.nil];rfl
 |d::ds,xs,h=>by
  obtain⟨y,ys,rfl,_,h2⟩:=h.cons
  rw[zf,zf,h2.len]
theorem RvAll.get:∀{ds:List D}{xs:List V}{i:Nat}{d:D},RvAll K H ds xs→ds[i]?=some d→∃v,xs[i]?=some v∧Rv K H d v
 |[],xs,i,d,h,e=>by simp at e
 |d0::ds,xs,0,d,h,e=>by
  obtain⟨y,ys,rfl,h1,h2⟩:=h.cons
  simp at e;subst e;exact⟨y,rfl,h1⟩
 |d0::ds,xs,i+1,d,h,e=>by
  obtain⟨y,ys,rfl,h1,h2⟩:=h.cons
  obtain⟨v,e1,e2⟩:=h2.get (i:=i) (by simpa using e)
  exact⟨v,by simpa using e1,e2⟩
theorem RvAll.app:∀{ds es:List D}{xs ys:List V},RvAll K H ds xs→RvAll K H es ys→RvAll K H (ds++es) (xs++ys)
 |[],es,xs,ys,h,k=>by rw[h.nil];exact k
 |d::ds,es,xs,ys,h,k=>by
  obtain⟨y,zs,rfl,h1,h2⟩:=h.cons
  exact bg h1 (h2.app k)
theorem RvAll.take:∀{ds:List D}{xs:List V} (n:Nat),RvAll K H ds xs→RvAll K H (ds.take n) (xs.take n)
 |[],xs,n,h=>by rw[h.nil];simp only [List.take_nil];exact bJ
 |d::ds,xs,0,h=>by simp only [List.take_zero];exact bJ
 |d::ds,xs,n+1,h=>by
  obtain⟨y,zs,rfl,h1,h2⟩:=h.cons
  exact bg h1 (h2.take n)
theorem RvAll.drop:∀{ds:List D}{xs:List V} (n:Nat),RvAll K H ds xs→RvAll K H (ds.drop n) (xs.drop n)
 |[],xs,n,h=>by rw[h.nil];simp only [List.drop_nil];exact bJ
 |d::ds,xs,0,h=>h
 |d::ds,xs,n+1,h=>by
  obtain⟨y,zs,rfl,h1,h2⟩:=h.cons
  exact h2.drop n
theorem RvAll.set:∀{ds:List D}{xs:List V}{d:D}{v:V} (n:Nat),RvAll K H ds xs→Rv K H d v→RvAll K H (ds.set n d) (xs.set n v)
 |[],xs,d,v,n,h,r=>by rw[h.nil];exact bJ
 |d0::ds,xs,d,v,0,h,r=>by
  obtain⟨y,zs,rfl,h1,h2⟩:=h.cons
  exact bg r h2
 |d0::ds,xs,d,v,n+1,h,r=>by
  obtain⟨y,zs,rfl,h1,h2⟩:=h.cons
  exact bg h1 (h2.set n r)
theorem RvAll.erase:∀{ds:List D}{xs:List V} (n:Nat),RvAll K H ds xs→RvAll K H (ds.eraseIdx n) (xs.eraseIdx n)
 |[],xs,n,h=>by rw[h.nil];exact bJ
 |d::ds,xs,0,h=>by
  obtain⟨y,zs,rfl,h1,h2⟩:=h.cons
  exact h2
 |d::ds,xs,n+1,h=>by
  obtain⟨y,zs,rfl,h1,h2⟩:=h.cons
  exact bg h1 (h2.erase n)
theorem RvAll.dropLast:∀{ds:List D}{xs:List V},RvAll K H ds xs→RvAll K H ds.dropLast xs.dropLast
 |[],xs,h=>by rw[h.nil];exact bJ
 |[d],xs,h=>by
  obtain⟨y,zs,rfl,h1,h2⟩:=h.cons
  rw[h2.nil];exact bJ
 |d::e::ds,xs,h=>by
  obtain⟨y,zs,rfl,h1,h2⟩:=h.cons
  obtain⟨y2,Ym,rfl,h3,h4⟩:=id h2.cons
  exact bg h1 (RvAll.dropLast h2)
theorem RvAll.bools:∀{bs:List Bool}{xs:List V},RvAll K H (bs.map D.bl) xs→xs=bs.map V.bl
 |[],xs,h=>h.nil
 |b::bs,xs,h=>by
  obtain⟨y,ys,rfl,h1,h2⟩:=h.cons
  rw[h1.bl,h2.bools];rfl
theorem RvAll.ints:∀{bs:List Int}{xs:List V},RvAll K H (bs.map D.int) xs→xs=bs.map V.int
 |[],xs,h=>h.nil
 |b::bs,xs,h=>by
  obtain⟨y,ys,rfl,h1,h2⟩:=h.cons
  rw[h1.int,h2.ints];rfl
theorem RvAll.strs:∀{bs:List Str}{xs:List V},RvAll K H (bs.map D.str) xs→xs=bs.map V.str
 |[],xs,h=>h.nil
 |b::bs,xs,h=>by
  obtain⟨y,ys,rfl,h1,h2⟩:=h.cons
  rw[h1.str,h2.strs];rfl
theorem Aq:∀(bs:List Int),RvAll K H (bs.map D.int) (bs.map V.int)
 |[]=>bJ
 |b::bs=>bg (aF b) (Aq bs)
theorem nQ:∀(bs:List Str),RvAll K H (bs.map D.str) (bs.map V.str)
 |[]=>bJ
 |b::bs=>bg (cY b) (nQ bs)
def dX{κ:Type}(K:Frag)(H:Hp):List (κ×D)→List (κ×V)→Prop:=Paired fun p q=>p.1=q.1∧Rv K H p.2 q.2
theorem dX.ts(s:Kp K H H'):∀{ks:List (κ×D)}{vs:List (κ×V)},dX K H ks vs→dX K H' ks vs
 |_,_,.nil=>.nil
 |_,_,.cons r t=>.cons ⟨r.1,Rv.ts s _ r.2⟩ (dX.ts s t)
end
inductive Ce where
 |lst (ds:List D)|ke (kvs:List (Key×D))|ins (c:Addr) (fs:List (Str×D))|well|exc (c:Addr)|tab (q:Str)
def Ia(H:Hp)(q:Str)(ps:Array Value):Prop:=TriplesOk ps.toList∧∀pos cv,codeAmong pos ps.toList=some cv→∃c o vs t,cv=.ref c∧H c=some (.lJ o (.own 0))∧o.data=.fields vs∧vs[1]?=some (.str q t)
abbrev aK:=Addr→Option Ce
def aK.set(S:aK)(a:Addr)(c:Ce):aK:=fun b=>if b=a then some c else S b
theorem aa{S:aK}{a:Addr}{c:Ce} : S.set a c a=some c:=by unfold aK.set;rw[if_pos rfl]
theorem ai{S:aK}{a b:Addr}{c:Ce}(h:b≠a):S.set a c b=S b:=by unfold aK.set;rw[if_neg h]
theorem dE{S:aK}{a:Addr}{c e:Ce} : (S.set a c).set a e=S.set a e:=by
 funext b;unfold aK.set;split <;> rfl
theorem uA{S:aK}{a b:Addr}{c:Ce}(h:S a=some c)(h':S b=none):a≠b:=by
 intro e;subst e;rw[h] at h';cases h'
def Rc(K:Frag)(H:Hp)(a:Addr):Ce→Prop
 |.lst ds=>∃xs,H a=some (.lst xs)∧RvAll K H ds xs
 |.ke kvs=>∃vs,H a=some (.dK vs)∧dX K H kvs vs
 |.ins c fs=>∃dx vs,H a=some (.ins c dx vs)∧dX K H fs vs
 |.well=>∃x y z:Int,H a=some (.lst [.int x,.int y,.int z])
 |.exc c=>H a=some (Rj a (.ref c))
 |.tab q=>∃ps,H a=some (.uC ps)∧Ia H q ps
def Rs(K:Frag)(S:aK)(H:Hp):Prop:=∀a c,S a=some c→Rc K H a c
section
variable{K:Frag}{H H':Hp}{S:aK}{a b:Addr}{c:Ce}
theorem Rc.has(h:Rc K H a c):∃o,H a=some o∧(∀xs,o≠.tup xs)∧∀u v,o≠.lJ u v:=by
 cases c with
 |lst ds=>obtain⟨xs,e,_⟩:=h;exact⟨_,e,fun _=>nofun,fun _ _=>nofun⟩
 |ke ds=>obtain⟨xs,e,_⟩:=h;exact⟨_,e,fun _=>nofun,fun _ _=>nofun⟩
 |ins c fs=>obtain⟨dx,vs,e,_⟩:=h;exact⟨_,e,fun _=>nofun,fun _ _=>nofun⟩
 |well=>obtain⟨x,y,z,e⟩:=h;exact⟨_,e,fun _=>nofun,fun _ _=>nofun⟩
 |exc c=>exact⟨_,h,fun _=>nofun,fun _ _=>nofun⟩
 |tab q=>obtain⟨ps,e,_⟩:=h;exact⟨_,e,fun _=>nofun,fun _ _=>nofun⟩
theorem Rc.keep(h:Rc K H a c)(e:∀o,H a=some o→H' a=some o)(s:Kp K H H'):Rc K H' a c:=by
 cases c with
 |lst ds=>obtain⟨xs,e1,r⟩:=h;exact⟨xs,e _ e1,RvAll.ts s _ r⟩
 |ke ds=>obtain⟨xs,e1,r⟩:=h;exact⟨xs,e _ e1,r.ts s⟩
 |ins c fs=>obtain⟨dx,vs,e1,r⟩:=h;exact⟨dx,vs,e _ e1,r.ts s⟩
 |well=>obtain⟨x,y,z,e1⟩:=h;exact⟨x,y,z,e _ e1⟩
 |exc c=>exact e _ h
 |tab q=>obtain⟨ps,e1,r,r2⟩:=h;exact⟨ps,e _ e1,r,fun pos cv z=>by obtain⟨c,o,vs,t,z1,z2,z3⟩:=r2 pos cv z;exact⟨c,o,vs,t,z1,s.f _ _ _ z2,z3⟩⟩
theorem Rs.fresh(h:Rs K S H)(e:H a=none):S a=none:=by
 cases q:S a with
 |none=>rfl
 |some c=>obtain⟨o,e1,_⟩:=(h a c q).has;rw[e] at e1;cases e1
theorem Rs.new(h:Rs K S H)(e:H a=none){o:HO}(r:Rc K (upd H a o) a c):Rs K (S.set a c) (upd H a o):=fun b x hb=>by
 by_cases q:b=a
 ·subst q;rw[aa] at hb;cases hb;exact r
 ·rw[ai q] at hb
  exact (h b x hb).keep (fun o e1=>by rw[aD q];exact e1) (Kp.new e)
theorem Rs.grow(h:Rs K S H)(e:H a=none):Rs K S (upd H a o):=fun b x hb=>by
 obtain⟨u,e1,_⟩:=(h b x hb).has
 have q:b≠a:=aX e1 e
 exact (h b x hb).keep (fun o e1=>by rw[aD q];exact e1) (Kp.new e)
theorem Rs.oF(h:Rs K S H)(ha:S a=some e):Kp K H (upd H a o):=by
 obtain⟨u,e1,n1,n2⟩:=(h a e ha).has
 exact Kp.put e1 n1 n2
theorem Rs.put(h:Rs K S H){e:Ce}(ha:S a=some e){o:HO}(r:Rc K (upd H a o) a c):Rs K (S.set a c) (upd H a o):=fun b x hb=>by
 by_cases q:b=a
 ·subst q;rw[aa] at hb;cases hb;exact r
 ·rw[ai q] at hb
  exact (h b x hb).keep (fun o e1=>by rw[aD q];exact e1) (h.oF ha)
theorem Rs.lst(h:Rs K S H)(e:S a=some (.lst ds)):∃xs,H a=some (.lst xs)∧RvAll K H ds xs:=h a _ e
theorem Rs.ke(h:Rs K S H)(e:S a=some (.ke ds)):∃xs,H a=some (.dK xs)∧dX K H ds xs:=h a _ e
end
abbrev KD:=D→aK→Prop
abbrev KX:=Addr→aK→Prop
abbrev SD:=List (Option D)
def g_(K:Frag)(H:Hp):SD→St→Prop:=Paired fun (o:Option D) (u:Option V)=>∀d,o=some d→∃v,u=some v∧Rv K H d v
section
variable{K:Frag}{H H':Hp}
theorem g_.ts(s:Kp K H H'):∀{σ:SD}{τ:St},g_ K H σ τ→g_ K H' σ τ
 |_,_,.nil=>.nil
 |_,_,.cons r t=>.cons (fun d e=>by obtain⟨v,e1,r1⟩:=r d e;exact⟨v,e1,Rv.ts s _ r1⟩) (g_.ts s t)
theorem g_.get:∀{σ:SD}{τ:St}{i:Nat}{d:D},g_ K H σ τ→σ[i]?=some (some d)→∃v,τ[i]?=some (some v)∧Rv K H d v
 |_,_,i,d,.nil,e=>by simp at e
 |_,_,0,d,.cons r t,e=>by
  simp at e
  obtain⟨v,e1,r1⟩:=r d e
  exact⟨v,by simp [e1],r1⟩
 |_,_,i+1,d,.cons r t,e=>by
  obtain⟨v,e1,r1⟩:=g_.get (i:=i) t (by simpa using e)
  exact⟨v,by simpa using e1,r1⟩
theorem g_.set:∀{σ:SD}{τ:St} (i:Nat) {d:D}{v:V},g_ K H σ τ→Rv K H d v→g_ K H (σ.set i (some d)) (τ.set i (some v))
 |_,_,i,d,v,.nil,r=>.nil
 |_,_,0,d,v,.cons r t,q=>.cons (fun d' e=>by cases e;exact⟨v,rfl,q⟩) t
 |_,_,i+1,d,v,.cons r t,q=>.cons r (g_.set i t q)
theorem uZ:∀(n:Nat) (τ:St),τ.length=n→g_ K H (List.replicate n none) τ
 |0,[],_=>.nil
 |n+1,_::τ,h=>.cons (fun d e=>by cases e) (uZ n τ (by simpa using h))
theorem u3:∀{ds:List D}{vs:List V},RvAll K H ds vs→g_ K H (ds.map some) (vs.map some)
 |[],vs,h=>by rw[h.nil];exact .nil
 |d::ds,vs,h=>by
  obtain⟨y,ys,rfl,h1,h2⟩:=h.cons
  exact .cons (fun d' e=>by cases e;exact⟨y,rfl,h1⟩) (u3 h2)
theorem g_.app:∀{σ aA:SD}{τ LK:St},g_ K H σ τ→g_ K H aA LK→g_ K H (σ++aA) (τ++LK)
 |_,_,_,_,.nil,h=>h
 |_,_,_,_,.cons r t,h=>.cons r (g_.app t h)
end
structure VB(Y:Cx)(E:St→XK)(b:Bool):Prop where
 call:∀p2 τ H s e s',Inv Y p2 τ H s→kz Y.prog Y.w Y.stack H s (E τ) e s'→Y.xe e s'
 own:b=true→∀p2 τ H s h' a cls args,Inv Y p2 τ H s→Heap.MadeExcOf s.heap h' a cls args→E τ cls none H→Y.xe (.ref a) { s with heap:=h' }
 loop:b=true→PassesOwn (model Y.prog Y.w) Y.A Y.env Y.xe
structure Ev(X:Cx)(b:Bool) where
 pn:List (Addr×Obj)
 xe:Value→Shared→Prop
 E:St→XK
 ok:VB { X with pn:=pn,xe:=xe } E b
abbrev Ev.cx{X:Cx}{b:Bool}(y:Ev X b):Cx:={ X with pn:=y.pn,xe:=y.xe }
def Cn(K:Frag)(H:Hp)(R:KD)(Q:VK):Prop:=∀d S v H',R d S→Rv K H' d v→Rs K S H'→Kp K H H'→Q v H'
def BE(K:Frag)(H:Hp)(Z:KX)(e:XK):Prop:=∀C S H',Z C S→Rs K S H'→Kp K H H'→e (.ref C) none H'
theorem Cn.kp{K:Frag}{H H1:Hp}{R:KD}{Q:VK}(h:Cn K H R Q)(k:Kp K H H1):Cn K H1 R Q:=fun d S v H' r v1 s1 k1=>h d S v H' r v1 s1 (k.trans k1)
theorem BE.kp{K:Frag}{H H1:Hp}{Z:KX}{e:XK}(h:BE K H Z e)(k:Kp K H H1):BE K H1 Z e:=fun C S H' r s1 k1=>h C S H' r s1 (k.trans k1)
abbrev TD:=SD→aK→KD→KX→Prop
def T(K:Frag)(E:St→XK)(t:TD):TE:=fun τ H Q=>∃σ S R Z,g_ K H σ τ∧Rs K S H∧t σ S R Z∧Cn K H R Q∧BE K H Z (E τ)
structure DE(K:Frag)(X:Cx)(e:Expr)(t:TD):Prop where
 of:∀{b:Bool} (y:Ev X b),PE y.cx e (T K y.E t)
abbrev oG:=SD→aK→(Bool→aK→Prop)→KX→Prop
def PC(K:Frag)(H:Hp)(R:Bool→aK→Prop)(Q:Bool→Hp→Prop):Prop:=∀b S H',R b S→Rs K S H'→Kp K H H'→Q b H'
theorem PC.kp{K:Frag}{H H1:Hp}{R:Bool→aK→Prop}{Q:Bool→Hp→Prop}(h:PC K H R Q)(k:Kp K H H1):PC K H1 R Q:=fun d S H' r s1 k1=>h d S H' r s1 (k.trans k1)
def Tt(K:Frag)(E:St→XK)(t:oG):TT:=fun τ H Q=>∃σ S R Z,g_ K H σ τ∧Rs K S H∧t σ S R Z∧PC K H R Q∧BE K H Z (E τ)
structure DT(K:Frag)(X:Cx)(e:Expr)(t:oG):Prop where
 of:∀{b:Bool} (y:Ev X b),PT y.cx e (Tt K y.E t)
abbrev qp:=SD→aK→(List D→aK→Prop)→KX→Prop
def VC(K:Frag)(H:Hp)(R:List D→aK→Prop)(Q:List V→Hp→Prop):Prop:=∀ds S vs H',R ds S→RvAll K H' ds vs→Rs K S H'→Kp K H H'→Q vs H'
def Ta(K:Frag)(E:St→XK)(t:qp):TA:=fun τ H Q=>∃σ S R Z,g_ K H σ τ∧Rs K S H∧t σ S R Z∧VC K H R Q∧BE K H Z (E τ)
structure DA(K:Frag)(X:Cx)(es:List Expr)(t:qp):Prop where
 of:∀{b:Bool} (y:Ev X b),PA y.cx es (Ta K y.E t)
theorem PE.mono(h:PE X e t)(i:∀τ H Q,t' τ H Q→t τ H Q):PE X e t':=fun pins s τ H Q I q=>h pins s τ H Q I (i τ H Q q)
theorem PT.mono(h:PT X e t)(i:∀τ H Q,t' τ H Q→t τ H Q):PT X e t':=fun pins s τ H Q I q=>h pins s τ H Q I (i τ H Q q)
theorem PA.mono(h:PA X e t)(i:∀τ H Q,t' τ H Q→t τ H Q):PA X e t':=fun pos pins s τ H Q I q=>h pos pins s τ H Q I (i τ H Q q)
section
variable{K:Frag}{X:Cx}
def Nk(i:Nat):TD:=fun σ S R _=>∃d,σ[i]?=some (some d)∧R d S
def dC(d:D):TD:=fun _ S R _=>R d S
theorem dv(i:Nat)(hN:X.N[i]?=some x:=by rfl)(hv:Lu X.env.scope x:=by first|exact Or.inl rfl|exact Or.inr (Or.inl rfl)|exact Or.inr (Or.inr rfl))(hd:(x == ("__debug__" : Str))=false:=by decide)
  (Fy:(x == ("__classdict__" : Str))=false:=by decide):DE K X (.Name x pos) (Nk i) :=
 ⟨fun y=>(IZ (X:=y.cx) hN hv hd Fy).mono <| by rintro τ H Q ⟨σ,S,R,Z,aw,hS,⟨d,e,r⟩,hR,_⟩;exact by obtain⟨v,e1,rv⟩:=aw.get e;exact⟨v,e1,hR d S v H r rv hS (Kp.refl _)⟩⟩
theorem DE.const(h:∀Y:Cx,Y.env=X.env→Y.mg=X.mg→PE Y e (tC v))(r:∀H,Rv K H d v):DE K X e (dC d) :=
 ⟨fun y=>(h y.cx rfl rfl).mono <| by rintro τ H Q ⟨σ,S,R,Z,aw,hS,q,hR,_⟩;exact hR d S v H q (r H) hS (Kp.refl _)⟩
theorem di:DE K X (.Constant (.int i) j pos) (dC (.int i)):=.const (fun _ _ _=>I0) fun _=>aF i
theorem ds:DE K X (.Constant (.str i) j pos) (dC (.str i)):=.const (fun _ _ _=>I_) fun _=>cY i
theorem db:DE K X (.Constant (.bool i) j pos) (dC (.bl i)):=.const (fun _ _ _=>L5) fun _=>bH i
theorem dn:DE K X (.Constant .none j pos) (dC .aC):=.const (fun _ _ _=>I9) fun _=>lT
theorem dg(hm:X.mg x=some u)(r:RelV v u)(rd:∀H,Rv K H d v)(hg:Gl X x:=by rfl)(hd:(x == ("__debug__" : Str))=false:=by decide):DE K X (.Name x pos) (dC d) :=
 .const (fun Y e1 e2=>Ab (X:=Y) (u:=u) (show Y.env.kindOf x=_ by rw[e1];exact hg) (by rw[e2];exact hm) r hd) rd
theorem jw(hm:X.mg x=none)(hv:bootBuiltins x=some (.type n))(hg:Gl X x:=by rfl)(hn:x ≠ "__name__" := by decide)(hd:(x == ("__debug__" : Str))=false:=by decide):DE K X (.Name x pos) (dC (.ty n)) :=
 .const (fun Y e1 e2=>FH (X:=Y) (v:=.ty n) (show Y.env.kindOf x=_ by rw[e1];exact hg) (by rw[e2];exact hm) hv rfl hn hd) fun _=>Nj n
def Nl:qp:=fun _ S R _=>R [] S
def Ib(t:TD)(u:qp):qp:=fun σ S R Z=>t σ S (fun d S1=>u σ S1 (fun ds S2=>R (d::ds) S2) Z) Z
theorem an:DA K X [] Nl:=⟨fun y=>(wV (X:=y.cx)).mono <| by rintro τ H Q ⟨σ,S,R,Z,aw,hS,q,hR,_⟩;exact hR [] S [] H q bJ hS (Kp.refl _)⟩
theorem ac(h:DE K X e t)(hr:DA K X es u)(hp:isPlain e=true:=by rfl):DA K X (e::es) (Ib t u) :=
 ⟨fun y=>(Rf (h.of y) (hr.of y) hp).mono <| by rintro τ H Q ⟨σ,S,R,Z,aw,hS,q,hR,hZ⟩;exact
  ⟨σ,S,_,Z,aw,hS,q,fun d S1 x H1 r1 v1 s1 k1=>⟨σ,S1,_,Z,aw.ts k1,s1,r1,fun ds S2 xs H2 r2 v2 s2 k2=>hR (d::ds) S2 (x::xs) H2 r2 (bg (Rv.ts k2 _ v1) v2) s2 (k1.trans k2),hZ.kp k1⟩,hZ⟩⟩
abbrev sJ:=D→D→aK→KD→Prop
def Lr(K:Frag)(r:sJ):R2:=fun x y H Q=>∃d e S R,Rv K H d x∧Rv K H e y∧Rs K S H∧r d e S R∧Cn K H R Q
def nR(K:Frag)(f:Value→Value→Sem Value)(r:sJ):Prop:=∀X:Cx,X.K=K→X.A.units+64<cLine→fO X f (Lr K r)
def Kh(r:sJ)(ta tb:TD):TD:=fun σ S R Z=>ta σ S (fun x S1=>tb σ S1 (fun y S2=>r x y S2 R) Z) Z
theorem T.op(h:T K E (Kh r ta tb) τ H Q):Lz (Lr K r) (T K E ta) (T K E tb) τ H Q:=by
 obtain⟨σ,S,R,Z,aw,hS,q,hR,hZ⟩:=h
 exact⟨σ,S,_,Z,aw,hS,q,fun d S1 x H1 r1 v1 s1 k1=>⟨σ,S1,_,Z,aw.ts k1,s1,r1,fun e S2 y H2 r2 v2 s2 k2=>⟨d,e,S2,R,Rv.ts k2 _ v1,v2,s2,r2,hR.kp (k1.trans k2)⟩,hZ.kp k1⟩,hZ⟩
theorem bo(ho:nR K (binaryOp op) r)(hu:X.A.units+64<cLine)(ha:DE K X a ta)(hb:DE K X b tb)(hK:X.K=K:=by rfl):DE K X (.BinOp a op b pos) (Kh r ta tb) :=
 ⟨fun y=>(Mn (ho y.cx hK hu) (ha.of y) (hb.of y)).mono fun _ _ _ h=>h.op⟩
theorem cm(ho:nR K (compareOp op) r)(hu:X.A.units+64<cLine)(ha:DE K X a ta)(hb:DE K X b tb)(hm:behindInMarks op b=false:=by with_unfolding_all rfl)(hK:X.K=K:=by rfl):DE K X (.Compare a [op] [b] pos) (Kh r ta tb) :=
 ⟨fun y=>(Ah (ho y.cx hK hu) (ha.of y) (hb.of y) hm).mono fun _ _ _ h=>h.op⟩
def dB(t:TD):oG:=fun σ S R Z=>t σ S (fun x S1=>∃b,x=.bl b∧R b S1) Z
theorem Tt.b(h:Tt K E (dB t) τ H Q):T K E t τ H fun x H'=>∃k,x=.bl k∧Q k H':=by
 obtain⟨σ,S,R,Z,aw,hS,q,hR,hZ⟩:=h
 exact⟨σ,S,_,Z,aw,hS,q,by rintro d S1 x H1 ⟨b,e,r1⟩ v1 s1 k1;exact by subst e;exact⟨b,v1.bl,hR b S1 H1 r1 s1 k1⟩,hZ⟩
theorem Tt.VD(h:Tt K E (dB (Kh r ta tb)) τ H Q):CY (Lz (Lr K r) (T K E ta) (T K E tb)) τ H Q:=h.b.op
theorem bw(ho:nR K (compareOp op) r)(hu:X.A.units+64<cLine)(ha:DE K X a ta)(hb:DE K X b tb)(hm:behindInMarks op b=false:=by with_unfolding_all rfl)(hK:X.K=K:=by rfl):DT K X (.Compare a [op] [b] pos) (dB (Kh r ta tb)) :=
 ⟨fun y=>(FU (ho y.cx hK hu) (ha.of y) (hb.of y) hm).mono fun _ _ _ h=>h.VD⟩
theorem tv(h:DE K X e t)(he:∀whole,isTrue e X.env whole=(do let v ← whole;standAt e.pos;holding [v] (truthy v)):=by intro _;rfl):DT K X e (dB t) :=
 ⟨fun y=>(Ja (X:=y.cx) (h.of y) he).mono fun _ _ _ h=>h.b⟩
def xn(r r':sJ)(ta tb tc:TD):TD:=fun σ S R Z=>ta σ S (fun x S1=>tb σ S1 (fun y S2=>r x y S2 fun z S3=>∃k,z=.bl k∧if k=true then tc σ S3 (fun w S4=>r' y w S4 R) Z else R (.bl false) S3) Z) Z
theorem T.chain(h:T K E (xn r r' ta tb tc) τ H Q):wR (Lr K r) (Lr K r') (T K E ta) (T K E tb) (T K E tc) τ H Q:=by
 obtain⟨σ,S,R,Z,aw,hS,q,hR,hZ⟩:=h
 refine⟨σ,S,_,Z,aw,hS,q,fun d S1 x H1 r1 v1 s1 k1=>⟨σ,S1,_,Z,aw.ts k1,s1,r1,fun e S2 y H2 r2 v2 s2 k2=>⟨d,e,S2,_,Rv.ts k2 _ v1,v2,s2,r2,fun z S3 v H3 r3 v3 s3 k3=>?_⟩,hZ.kp k1⟩,hZ⟩
 obtain⟨k,rfl,r3⟩:=r3
 refine⟨k,v3.bl,?_⟩
 cases k with
 |true =>
  rw[if_pos rfl] at r3 ⊢
  exact⟨σ,S3,_,Z,((aw.ts k1).ts k2).ts k3,s3,r3,fun w S4 wv H4 r4 v4 s4 k4=>⟨e,w,S4,R,Rv.ts (k3.trans k4) _ v2,v4,s4,r4,hR.kp (((k1.trans k2).trans k3).trans k4)⟩,hZ.kp ((k1.trans k2).trans k3)⟩
 |false =>
  rw[if_neg zm] at r3 ⊢
  exact hR _ S3 _ H3 r3 (bH false) s3 ((k1.trans k2).trans k3)
theorem cc(ho:nR K (compareOp op) r)(wM:nR K (compareOp Bb) r')(hu:X.A.units+64<cLine)(ha:DE K X a ta)(hb:DE K X b tb)(hc:DE K X c tc)
  (hm:lastMarks [op,Bb] [b,c]=false:=by with_unfolding_all rfl) (hK:X.K=K:=by rfl):DE K X (.Compare a [op,Bb] [b,c] pos) (xn r r' ta tb tc) :=
 ⟨fun y=>(CZ (ho y.cx hK hu) (wM y.cx hK hu) (ha.of y) (hb.of y) (hc.of y) hm).mono fun _ _ _ h=>h.chain⟩
theorem Ry(ho:nR K (compareOp op) r)(wM:nR K (compareOp Bb) r')(hu:X.A.units+64<cLine)(ha:DE K X a ta)(hb:DE K X b tb)(hc:DE K X c tc)
  (hm:lastMarks [op,Bb] [b,c]=false:=by with_unfolding_all rfl) (hK:X.K=K:=by rfl):DT K X (.Compare a [op,Bb] [b,c] pos) (dB (xn r r' ta tb tc)) :=
 ⟨fun y=>(C1 (ho y.cx hK hu) (wM y.cx hK hu) (ha.of y) (hb.of y) (hc.of y) hm).mono fun _ _ _ h=>h.b.chain⟩
def Nm(ta tb:TD):TD:=fun σ S R Z=>ta σ S (fun x S1=>∃c,x=.bl c∧if c=true then tb σ S1 R Z else R (.bl false) S1) Z
def Rz(ta tb:TD):TD:=fun σ S R Z=>ta σ S (fun x S1=>∃c,x=.bl c∧if c=true then R (.bl true) S1 else tb σ S1 R Z) Z
def Nn(ta:TD):TD:=fun σ S R Z=>ta σ S (fun x S1=>∃c,x=.bl c∧R (.bl (!c)) S1) Z
theorem wH(h:DE K X a t):DE K X (.BoolOp op [a] pos) t:=⟨fun y=>Jc (h.of y)⟩
theorem kA{a b:Expr}{rest:List Expr}{ta tb:TD}{pos:Pos}(ha:DE K X a ta)(hb:DE K X (.BoolOp .And (b::rest) pos) tb):DE K X (.BoolOp .And (a::b::rest) pos) (Nm ta tb) :=
 ⟨fun y=>(Jd (ha.of y) (hb.of y)).mono <| by rintro τ H Q ⟨σ,S,R,Z,aw,hS,q,hR,hZ⟩;exact
  ⟨σ,S,_,Z,aw,hS,q,by
   rintro d S1 x H1 ⟨c,e,r1⟩ v1 s1 k1
   subst e
   refine⟨c,v1.bl,?_⟩
   cases c with
   |true=>rw[if_pos rfl] at r1 ⊢;exact⟨σ,S1,R,Z,aw.ts k1,s1,r1,hR.kp k1,hZ.kp k1⟩
   |false=>rw[if_neg zm] at r1 ⊢;exact hR _ S1 _ H1 r1 (bH false) s1 k1,hZ⟩⟩
theorem RA{a b:Expr}{rest:List Expr}{ta tb:TD}{pos:Pos}(ha:DE K X a ta)(hb:DE K X (.BoolOp .Or (b::rest) pos) tb):DE K X (.BoolOp .Or (a::b::rest) pos) (Rz ta tb) :=
 ⟨fun y=>(L8 (ha.of y) (hb.of y)).mono <| by rintro τ H Q ⟨σ,S,R,Z,aw,hS,q,hR,hZ⟩;exact
  ⟨σ,S,_,Z,aw,hS,q,by
   rintro d S1 x H1 ⟨c,e,r1⟩ v1 s1 k1
   subst e
   refine⟨c,v1.bl,?_⟩
   cases c with
   |false=>rw[if_neg zm] at r1 ⊢;exact⟨σ,S1,R,Z,aw.ts k1,s1,r1,hR.kp k1,hZ.kp k1⟩
   |true=>rw[if_pos rfl] at r1 ⊢;exact hR _ S1 _ H1 r1 (bH true) s1 k1,hZ⟩⟩
theorem Ki(ha:DE K X a ta):DE K X (.UnaryOp .Not a pos) (Nn ta) :=
 ⟨fun y=>(Je (ha.of y)).mono <| by rintro τ H Q ⟨σ,S,R,Z,aw,hS,q,hR,hZ⟩;exact
  ⟨σ,S,_,Z,aw,hS,q,by rintro d S1 x H1 ⟨c,e,r1⟩ v1 s1 k1;exact by subst e;exact⟨c,v1.bl,hR _ S1 _ H1 r1 (bH _) s1 k1⟩,hZ⟩⟩
def RB(t:oG):oG:=fun σ S R Z=>t σ S (fun c S1=>R (!c) S1) Z
def RC(t u:oG):oG:=fun σ S R Z=>t σ S (fun c S1=>if c=true then u σ S1 R Z else R false S1) Z
def VE(t u:oG):oG:=fun σ S R Z=>t σ S (fun c S1=>if c=true then R true S1 else u σ S1 R Z) Z
theorem bV(ha:DT K X a t):DT K X (.UnaryOp .Not a pos) (RB t) :=
 ⟨fun y=>(Jb (ha.of y)).mono <| by rintro τ H Q ⟨σ,S,R,Z,aw,hS,q,hR,hZ⟩;exact⟨σ,S,_,Z,aw,hS,q,fun c S1 H1 r1 s1 k1=>hR _ S1 H1 r1 s1 k1,hZ⟩⟩
structure DW(K:Frag)(X:Cx)(e:Expr)(t:oG):Prop where
 of:∀{b:Bool} (y:Ev X b),PW y.cx e (Tt K y.E t)
theorem PW.mono(h:PW X e t)(i:∀τ H Q,t' τ H Q→t τ H Q):PW X e t':=fun wh pins s τ H Q I q=>h wh pins s τ H Q I (i τ H Q q)
theorem twd(h:DW K X e t):DT K X e t:=⟨fun y=>(h.of y).pt⟩
theorem tw1(h:DT K X a t):DW K X (.BoolOp op [a] pos) t:=⟨fun y=>by
 cases op with
 |And=>exact pw_and1 (h.of y)
 |Or=>exact pw_or1 (h.of y)⟩
theorem twand{a b:Expr}{rest:List Expr}{t u:oG}{pos:Pos}(ha:DT K X a t)(hb:DW K X (.BoolOp .And (b::rest) pos) u):DW K X (.BoolOp .And (a::b::rest) pos) (RC t u) :=
 ⟨fun y=>(pw_and (ha.of y) (hb.of y)).mono <| by rintro τ H Q ⟨σ,S,R,Z,aw,hS,q,hR,hZ⟩;exact
  ⟨σ,S,_,Z,aw,hS,q,fun c S1 H1 r1 s1 k1=>by
   cases c with
   |true=>rw[if_pos rfl] at r1 ⊢;exact⟨σ,S1,R,Z,aw.ts k1,s1,r1,hR.kp k1,hZ.kp k1⟩
   |false=>rw[if_neg zm] at r1 ⊢;exact hR _ S1 H1 r1 s1 k1,hZ⟩⟩
theorem twor{a b:Expr}{rest:List Expr}{t u:oG}{pos:Pos}(ha:DT K X a t)(hb:DW K X (.BoolOp .Or (b::rest) pos) u):DW K X (.BoolOp .Or (a::b::rest) pos) (VE t u) :=
 ⟨fun y=>(pw_or (ha.of y) (hb.of y)).mono <| by rintro τ H Q ⟨σ,S,R,Z,aw,hS,q,hR,hZ⟩;exact
  ⟨σ,S,_,Z,aw,hS,q,fun c S1 H1 r1 s1 k1=>by
   cases c with
   |false=>rw[if_neg zm] at r1 ⊢;exact⟨σ,S1,R,Z,aw.ts k1,s1,r1,hR.kp k1,hZ.kp k1⟩
   |true=>rw[if_pos rfl] at r1 ⊢;exact hR _ S1 H1 r1 s1 k1,hZ⟩⟩
def RD(t:oG)(ta tb:TD):TD:=fun σ S R Z=>t σ S (fun c S1=>if c=true then ta σ S1 R Z else tb σ S1 R Z) Z
theorem T5(hc:DT K X c t)(ha:DE K X a ta)(hb:DE K X b tb):DE K X (.IfExp c a b pos) (RD t ta tb) :=
 ⟨fun y=>(CN (hc.of y) (ha.of y) (hb.of y)).mono <| by rintro τ H Q ⟨σ,S,R,Z,aw,hS,q,hR,hZ⟩;exact
  ⟨σ,S,_,Z,aw,hS,q,fun c S1 H1 r1 s1 k1=>by
   cases c with
   |true=>rw[if_pos rfl] at r1 ⊢;exact⟨σ,S1,R,Z,aw.ts k1,s1,r1,hR.kp k1,hZ.kp k1⟩
   |false=>rw[if_neg zm] at r1 ⊢;exact⟨σ,S1,R,Z,aw.ts k1,s1,r1,hR.kp k1,hZ.kp k1⟩,hZ⟩⟩
def RE(t:qp):TD:=fun σ S R Z=>t σ S (fun ds S1=>ds.length≤sizeLine∧∀p,S1 p=none→R (.ref p) (S1.set p (.lst ds))) Z
def RF(t:qp):TD:=fun σ S R Z=>t σ S (fun ds S1=>ds.length≤sizeLine∧R (.tup ds) S1) Z
theorem bA(h:DA K X es t):DE K X (.List es pos) (RE t) :=
 ⟨fun y=>(JA (h.of y)).mono <| by rintro τ H Q ⟨σ,S,R,Z,aw,hS,q,hR,hZ⟩;exact
  ⟨σ,S,_,Z,aw,hS,q,by rintro ds S1 xs H1 ⟨hl,r1⟩ v1 s1 k1;exact⟨by rw[v1.len];exact hl,fun p hp=>hR _ _ _ _ (r1 p (s1.fresh hp)) (oE p) (s1.new hp ⟨xs,bD,RvAll.ts (.new hp) _ v1⟩) (k1.trans (.new hp))⟩,hZ⟩⟩
theorem cA(h:DA K X es t):DE K X (.Tuple es x1 pos) (RF t) :=
 ⟨fun y=>(Jz (h.of y)).mono <| by rintro τ H Q ⟨σ,S,R,Z,aw,hS,q,hR,hZ⟩;exact
  ⟨σ,S,_,Z,aw,hS,q,by rintro ds S1 xs H1 ⟨hl,r1⟩ v1 s1 k1;exact⟨by rw[v1.len];exact hl,fun p hp=>hR _ _ _ _ r1 (jQ bD (RvAll.ts (.new hp) _ v1)) (s1.grow hp) (k1.trans (.new hp))⟩,hZ⟩⟩
def Lc(K:Frag)(r:List D→aK→KD→Prop):List V→Hp→VK→Prop:=fun xs H Q=>∃ds S R,RvAll K H ds xs∧Rs K S H∧r ds S R∧Cn K H R Q
def hG(K:Frag)(f:Value)(r:List D→aK→KD→Prop):Prop:=∀X:Cx,X.K=K→X.calm=true→fz X f (Lc K r)
def PD(r:List D→aK→KD→Prop)(t:qp):TD:=fun σ S R Z=>t σ S (fun ds S1=>r ds S1 R) Z
theorem T.cb(h:T K E (PD r t) τ H Q):QJ (Lc K r) (Ta K E t) τ H Q:=by
 obtain⟨σ,S,R,Z,aw,hS,q,hR,hZ⟩:=h
 exact⟨σ,S,_,Z,aw,hS,q,fun ds S1 xs H1 r1 v1 s1 k1=>⟨ds,S1,R,v1,s1,r1,hR.kp k1⟩,hZ⟩
theorem cb{x:Str}{id:String}{r:List D→aK→KD→Prop}{e:Expr}{es:List Expr}{t:qp}{p pos:Pos}(hc:hG K (.builtin id) r)(hm:X.mg x=none)(hv:bootBuiltins x=some (.builtin id))(ha:DA K X (e::es) t)(hg:Gl X x:=by rfl)
  (hn:x ≠ "__name__" := by decide) (wX:(x == ("__debug__" : Str))=false:=by decide) (he:starEach (e::es) X.env=(false,eval e X.env)::starEach es X.env:=by rfl) (rk:(backTo pos (starEach es X.env)).any (·.1)=false:=by rfl) (hK:X.K=K:=by rfl) (hC:X.calm=true:=by rfl) :
  DE K X (.Call (.Name x p) (e::es) [] pos) (PD r t) :=
 ⟨fun y=>(uJ (X:=y.cx) (hc _ hK hC) hg hm hv (ha.of y) hn wX he rk).mono fun _ _ _ h=>h.cb⟩
theorem ct{x:Str}{id:String}{r:List D→aK→KD→Prop}{e:Expr}{es:List Expr}{t:qp}{p pos:Pos}(hc:hG K (.type id) r)(hm:X.mg x=none)(hv:bootBuiltins x=some (.type id))(ha:DA K X (e::es) t)(hg:Gl X x:=by rfl)
  (hn:x ≠ "__name__" := by decide) (wX:(x == ("__debug__" : Str))=false:=by decide) (he:starEach (e::es) X.env=(false,eval e X.env)::starEach es X.env:=by rfl) (rk:(backTo pos (starEach es X.env)).any (·.1)=false:=by rfl) (hK:X.K=K:=by rfl) (hC:X.calm=true:=by rfl) :
  DE K X (.Call (.Name x p) (e::es) [] pos) (PD r t) :=
 ⟨fun y=>(rl (X:=y.cx) (hc _ hK hC) hg hm hv (ha.of y) hn wX he rk).mono fun _ _ _ h=>h.cb⟩
end
section
variable{K:Frag}
theorem Cn.now(h:Cn K H R Q)(hS:Rs K S H)(r:R d S)(rv:Rv K H d v):Q v H:=h d S v H r rv hS (.refl _)
theorem Cn.new{H:Hp}{R:KD}{Q:VK}{S:aK}{p:Addr}{ds:List D}{xs:List V}(h:Cn K H R Q)(hS:Rs K S H)(hp:H p=none)(r:S p=none→R (.ref p) (S.set p (.lst ds)))(rv:RvAll K H ds xs):Q (.ref p) (upd H p (.lst xs)) :=
 h _ _ _ _ (r (hS.fresh hp)) (oE p) (hS.new hp ⟨xs,bD,RvAll.ts (.new hp) _ rv⟩) (.new hp)
theorem Cn.Kj{H:Hp}{R:KD}{Q:VK}{S:aK}{p:Addr}{ds:List D}{xs:List V}(h:Cn K H R Q)(hS:Rs K S H)(hp:H p=none)(r:R (.tup ds) S)(rv:RvAll K H ds xs):Q (.ref p) (upd H p (.tup xs)) :=
 h _ _ _ _ r (jQ bD (RvAll.ts (.new hp) _ rv)) (hS.grow hp) (.new hp)
theorem Cn.put{H:Hp}{R:KD}{Q:VK}{S:aK}{p:Addr}{ds es:List D}{xs:List V}{d:D}{v:V}(h:Cn K H R Q)(hS:Rs K S H)(hp:S p=some (.lst es))(r:R d (S.set p (.lst ds)))(rd:Rv K H d v)(rv:RvAll K H ds xs):Q v (upd H p (.lst xs)) :=
 h _ _ _ _ r (Rv.ts (hS.oF hp) _ rd) (hS.put hp ⟨xs,bD,RvAll.ts (hS.oF hp) _ rv⟩) (hS.oF hp)
def BF(S:aK):D→List D→Prop
 |.ref a,ds=>S a=some (.lst ds)
 |.jc es,ds=>es=ds
 |_,_=>False
theorem BF.at{H:Hp}{S:aK}{d:D}{ds:List D}{v:V}(h:BF S d ds)(hS:Rs K S H)(r:Rv K H d v):∃a xs,v=.ref a∧jN K H a xs∧RvAll K H ds xs:=by
 cases d with
 |ref a =>
  obtain⟨xs,e,q⟩:=hS.lst h
  exact⟨a,xs,r.ref,.of e,q⟩
 |jc es =>
  have h:es=ds:=h
  subst h
  obtain⟨a,xs,e,q,t⟩:=r.jc
  exact⟨a,xs,e,q.sq,t⟩
 |_=>exact h.elim
def Np:sJ:=fun x y S R=>match x,y with
 |.int i,.int j=>R (.int (i+j)) S
 |.str a,.str b=>a.length+b.length≤sizeLine∧R (.str (a++b)) S
 |.tup a,.tup b=>a.length+b.length≤sizeLine∧R (.tup (a++b)) S
 |.ref a,.ref b=>∃xs ys,S a=some (.lst xs)∧S b=some (.lst ys)∧xs.length+ys.length≤sizeLine∧∀p,S p=none→R (.ref p) (S.set p (.lst (xs++ys)))
 |_,_=>False
theorem bN:nR K (binaryOp .Add) Np:=by
 rintro X hK hu pins s σ H x y v u Q I rx ry ⟨d,e,S,R,r1,r2,hS,h,hR⟩
 subst hK
 cases d with
 |int i =>
  cases e with
  |int j=>exact Jq pins s σ H x y v u Q I rx ry ⟨i,j,r1.int,r2.int,hR.now hS h (aF _)⟩
  |_=>exact h.elim
 |str i =>
  cases e with
  |str j=>exact wU pins s σ H x y v u Q I rx ry ⟨i,j,r1.str,r2.str,h.1,hR.now hS h.2 (cY _)⟩
  |_=>exact h.elim
 |tup i =>
  cases e with
  |tup j =>
   obtain⟨a,xs,rfl,q1,t1⟩:=r1.tup
   obtain⟨b,ys,rfl,q2,t2⟩:=r2.tup
   refine Gy pins s σ H _ _ v u Q I rx ry ⟨a,b,xs,ys,rfl,rfl,.of q1,.of q2,by rw[t1.len,t2.len];exact h.1,fun e=>?_,fun _ e=>?_,fun _ _ p hp=>hR.Kj hS hp h.2 (t1.app t2)⟩
   ·subst e
    have:i=[]:=List.length_eq_zero_iff.mp t1.len.symm
    subst this
    exact hR.now hS h.2 (jQ q2 t2)
   ·subst e
    have:j=[]:=List.length_eq_zero_iff.mp t2.len.symm
    subst this
    exact hR.now hS h.2 (by rw[zR];exact jQ q1 t1)
  |_=>exact h.elim
 |ref a =>
  cases e with
  |ref b =>
   obtain⟨xs,ys,e1,e2,hl,q⟩:=h
   obtain⟨vs,h1,t1⟩:=hS.lst e1
   obtain⟨ws,h2,t2⟩:=hS.lst e2
   exact JN pins s σ H x y v u Q I rx ry ⟨a,b,vs,ws,r1.ref,r2.ref,h1,h2,by rw[t1.len,t2.len];exact hl,fun p hp=>hR.new hS hp (q p) (t1.app t2)⟩
  |_=>exact h.elim
 |_=>exact h.elim
def RG:sJ:=fun x y S R=>match x,y with
 |.int i,.int j=>R (.int (i - j)) S
 |_,_=>False
theorem kB:nR K (binaryOp .Sub) RG:=by
 rintro X hK hu pins s σ H x y v u Q I rx ry ⟨d,e,S,R,r1,r2,hS,h,hR⟩
 cases d <;> cases e <;> first|exact False.elim h|exact Jr pins s σ H x y v u Q I rx ry ⟨_,_,r1.int,r2.int,hR.now hS h (aF _)⟩
def RH:sJ:=fun x y S R=>match x,y with
 |.int i,.int j=>FR i j∧R (.int (i * j)) S
 |.str z,.int n=>MulOk z n∧R (.str (PySem.Txt.mul z n)) S
 |_,_=>False
theorem mM:nR K (binaryOp .Mult) RH:=by
 rintro X hK hu pins s σ H x y v u Q I rx ry ⟨d,e,S,R,r1,r2,hS,h,hR⟩
 cases d <;> cases e <;> first
  |exact False.elim h
  |exact Js pins s σ H x y v u Q I rx ry ⟨_,_,r1.int,r2.int,h.1,hR.now hS h.2 (aF _)⟩
  |exact xk pins s σ H x y v u Q I rx ry ⟨_,_,r1.str,r2.int,h.1,hR.now hS h.2 (cY _)⟩
def RJ:sJ:=fun x y S R=>match x,y with
 |.int i,.int j=>0<j∧R (.int (i % j)) S
 |_,_=>False
theorem jx:nR K (binaryOp .Mod) RJ:=by
 rintro X hK hu pins s σ H x y v u Q I rx ry ⟨d,e,S,R,r1,r2,hS,h,hR⟩
 cases d <;> cases e <;> first|exact False.elim h|exact Jt pins s σ H x y v u Q I rx ry ⟨_,_,r1.int,r2.int,h.1,hR.now hS h.2 (aF _)⟩
def Nq:sJ:=fun x y S R=>match x,y with
 |.int i,.int j=>HX i j∧R (.int (i / j)) S
 |_,_=>False
theorem xo:nR K (binaryOp .FloorDiv) Nq:=by
 rintro X hK hu pins s σ H x y v u Q I rx ry ⟨d,e,S,R,r1,r2,hS,h,hR⟩
 cases d <;> cases e <;> first|exact False.elim h|exact Dc pins s σ H x y v u Q I rx ry ⟨_,_,r1.int,r2.int,h.1,hR.now hS h.2 (aF _)⟩
def RK:sJ:=fun x y S R=>match x,y with
 |.int i,.int j=>Mq i j∧R (.int (i ^ j.toNat)) S
 |_,_=>False
theorem Ie:nR K (binaryOp .Pow) RK:=by
 rintro X hK hu pins s σ H x y v u Q I rx ry ⟨d,e,S,R,r1,r2,hS,h,hR⟩
 cases d <;> cases e <;> first|exact False.elim h|exact Ju pins s σ H x y v u Q I rx ry ⟨_,_,r1.int,r2.int,h.1,hR.now hS h.2 (aF _)⟩
def Dy(f:Int→Int→Bool)(g:Str→Str→Bool):sJ:=fun x y S R=>match x,y with
 |.int i,.int j=>R (.bl (f i j)) S
 |.str i,.str j=>R (.bl (g i j)) S
 |_,_=>False
theorem Ar(h1:∀X:Cx,fO X (compareOp op) (FP fun i j=>.bl (f i j)))
  (h2:∀X:Cx,fO X (compareOp op) (fun x y H Q=>∃i j,x=.str i∧y=.str j∧Q (.bl (g i j)) H)):nR K (compareOp op) (Dy f g):=by
 rintro X hK hu pins s σ H x y v u Q I rx ry ⟨d,e,S,R,r1,r2,hS,h,hR⟩
 cases d <;> cases e <;> first
  |exact False.elim h
  |exact h1 X pins s σ H x y v u Q I rx ry ⟨_,_,r1.int,r2.int,hR.now hS h (bH _)⟩
  |exact h2 X pins s σ H x y v u Q I rx ry ⟨_,_,r1.str,r2.str,hR.now hS h (bH _)⟩
theorem GL:nR K (compareOp .Lt) (Dy (fun i j=>decide (i<j)) fun i j=>QZ i j):=Ar (fun _=>Ms) fun _=>A_
theorem lU:nR K (compareOp .LtE) (Dy (fun i j=>decide (i≤j)) fun i j=>CG i j):=Ar (fun _=>Mt) fun _=>Bp
theorem oH:nR K (compareOp .Gt) (Dy (fun i j=>decide (j<i)) fun i j=>QZ j i):=Ar (fun _=>Mu) fun _=>Br
theorem RM:nR K (compareOp .GtE) (Dy (fun i j=>decide (j≤i)) fun i j=>CG j i):=Ar (fun _=>Mv) fun _=>Bq
def eD:D→Bool
 |.aC=>true
 |_=>false
theorem u4(r:Rv K H d v):decide (v=.aC)=eD d:=by
 cases d with
 |aC=>rw[r.aC];rfl
 |bl b=>rw[r.bl];rfl
 |int b=>rw[r.int];rfl
 |str b=>rw[r.str];rfl
 |ref b=>rw[r.ref];rfl
 |ty b=>rw[r.ty];rfl
 |tup b=>obtain⟨a,xs,rfl,_⟩:=r.tup;rfl
 |jc b=>obtain⟨a,xs,rfl,_⟩:=r.jc;rfl
 |kt b=>obtain⟨a,xs,rfl,_⟩:=r.kt;rfl
def VF:sJ:=fun x y S R=>match y with
 |.aC=>R (.bl (eD x)) S
 |_=>False
def Nr:sJ:=fun x y S R=>match y with
 |.aC=>R (.bl (!eD x)) S
 |_=>False
theorem xp:nR K (compareOp .Is) VF:=by
 rintro X hK hu pins s σ H x y v u Q I rx ry ⟨d,e,S,R,r1,r2,hS,h,hR⟩
 cases e <;> first|exact False.elim h|exact Jw pins s σ H x y v u Q I rx ry ⟨r2.aC,by rw[u4 r1];exact hR.now hS h (bH _)⟩
theorem Dz:nR K (compareOp .IsNot) Nr:=by
 rintro X hK hu pins s σ H x y v u Q I rx ry ⟨d,e,S,R,r1,r2,hS,h,hR⟩
 cases e <;> first|exact False.elim h|exact FT pins s σ H x y v u Q I rx ry ⟨r2.aC,by rw[u4 r1];exact hR.now hS h (bH _)⟩
mutual
def Dp(S:aK):D→PyData→Prop
 |.aC,p=>p=.none
 |.bl b,p=>p=.bool b
 |.int i,p=>p=.int i
 |.str z,p=>p=.str z
 |.tup ds,p=>∃ps,p=.tuple ps∧DpAll S ds ps
 |.jc ds,p=>∃ps,p=.list ps∧DpAll S ds ps
 |.kt _,_=>False
 |.ref _,_=>False
 |.ty _,_=>False
def DpAll(S:aK):List D→List PyData→Prop
 |[],ps=>ps=[]
 |d::ds,ps=>∃q qs,ps=q::qs∧Dp S d q∧DpAll S ds qs
end
mutual
theorem Dp.dt:∀(d:D) {p:PyData}{v:V},Dp S d p→Rv K H d v→Dt K H p v
 |.aC,p,v,h,r=>by simp only [Dp] at h;subst h;simp only [Dt];exact r.aC
 |.bl b,p,v,h,r=>by simp only [Dp] at h;subst h;simp only [Dt];exact r.bl
 |.int b,p,v,h,r=>by simp only [Dp] at h;subst h;simp only [Dt];exact r.int
 |.str b,p,v,h,r=>by simp only [Dp] at h;subst h;simp only [Dt];exact r.str
 |.tup ds,p,v,h,r=>by
  simp only [Dp] at h
  obtain⟨ps,rfl,h⟩:=h
  obtain⟨a,xs,rfl,q,t⟩:=r.tup
  simp only [Dt]
  exact⟨a,xs,rfl,.of q,DpAll.dt ds h t⟩
 |.jc ds,p,v,h,r=>by
  simp only [Dp] at h
  obtain⟨ps,rfl,h⟩:=h
  obtain⟨a,xs,rfl,q,t⟩:=r.jc
  simp only [Dt]
  exact⟨a,xs,rfl,q.sq,DpAll.dt ds h t⟩
 |.kt a,p,v,h,r=>by simp only [Dp] at h
 |.ref a,p,v,h,r=>by simp only [Dp] at h
 |.ty a,p,v,h,r=>by simp only [Dp] at h
theorem DpAll.dt:∀(ds:List D) {ps:List PyData}{vs:List V},DpAll S ds ps→RvAll K H ds vs→DtAll K H ps vs
 |[],ps,vs,h,r=>by simp only [DpAll] at h;subst h;rw[r.nil];simp only [DtAll]
 |d::ds,ps,vs,h,r=>by
  simp only [DpAll] at h
  obtain⟨q,qs,rfl,h1,h2⟩:=h
  obtain⟨y,ys,rfl,r1,r2⟩:=r.cons
  simp only [DtAll]
  exact⟨y,ys,rfl,Dp.dt d h1 r1,DpAll.dt ds h2 r2⟩
end
def Dl(S:aK):D→PyData→Prop
 |.ref a,p=>∃ds ps,S a=some (.lst ds)∧p=.list ps∧DpAll S ds ps
 |d,p=>Dp S d p
theorem Dl.dt(h:Dl S d p)(hS:Rs K S H)(r:Rv K H d v):Dt K H p v:=by
 cases d with
 |ref a =>
  obtain⟨ds,ps,e,rfl,h⟩:=h
  obtain⟨xs,e1,t⟩:=hS.lst e
  rw[r.ref]
  simp only [Dt]
  exact⟨a,xs,rfl,.of e1,DpAll.dt ds h t⟩
 |_=>exact Dp.dt _ h r
def BG(neg:Bool):sJ:=fun x y S R=>match x,y with
 |.int i,.int j=>R (.bl (if neg then !decide (i=j) else decide (i=j))) S
 |.str i,.str j=>R (.bl (if neg then !decide (i=j) else decide (i=j))) S
 |x,y=>∃p q,Dl S x p∧Dl S y q∧p.canLay0=true∧q.canLay0=true∧(p.depth≤64∨q.depth≤64)∧R (.bl (if neg then !PyData.eqv p q else PyData.eqv p q)) S
theorem DB(h:BG neg x y S R):(∃i j,x=.int i∧y=.int j∧R (.bl (if neg then !decide (i=j) else decide (i=j))) S)∨(∃i j,x=.str i∧y=.str j∧R (.bl (if neg then !decide (i=j) else decide (i=j))) S) ∨
  ∃p q,Dl S x p∧Dl S y q∧p.canLay0=true∧q.canLay0=true∧(p.depth≤64∨q.depth≤64)∧R (.bl (if neg then !PyData.eqv p q else PyData.eqv p q)) S:=by
 cases x <;> cases y <;> first|exact .inl ⟨_,_,rfl,rfl,h⟩|exact .inr (.inl ⟨_,_,rfl,rfl,h⟩)|exact .inr (.inr h)
theorem bB:nR K (compareOp .Eq) (BG false):=by
 rintro X hK hu pins s σ H x y v u Q I rx ry ⟨d,e,S,R,r1,r2,hS,h,hR⟩
 subst hK
 rcases DB h with ⟨i,j,rfl,rfl,h⟩|⟨i,j,rfl,rfl,h⟩|⟨p,q,h1,h2,c1,c2,dp,h⟩
 ·cases r1.int;cases r2.int
  refine HP pins s σ H _ _ v u Q I rx ry ⟨rfl,?_⟩
  have e:decide (V.int i=V.int j)=decide (i=j):=by simp
  rw[e];exact hR.now hS h (bH _)
 ·cases r1.str;cases r2.str
  refine HP pins s σ H _ _ v u Q I rx ry ⟨rfl,?_⟩
  have e:decide (V.str i=V.str j)=decide (i=j):=by simp
  rw[e];exact hR.now hS h (bH _)
 ·exact JZ hu pins s σ H x y v u Q I rx ry ⟨p,q,h1.dt hS r1,h2.dt hS r2,c1,c2,dp,hR.now hS h (bH _)⟩
theorem eW:nR K (compareOp .NotEq) (BG true):=by
 rintro X hK hu pins s σ H x y v u Q I rx ry ⟨d,e,S,R,r1,r2,hS,h,hR⟩
 subst hK
 rcases DB h with ⟨i,j,rfl,rfl,h⟩|⟨i,j,rfl,rfl,h⟩|⟨p,q,h1,h2,c1,c2,dp,h⟩
 ·cases r1.int;cases r2.int
  refine HQ pins s σ H _ _ v u Q I rx ry ⟨rfl,?_⟩
  have e:decide (V.int i=V.int j)=decide (i=j):=by simp
  rw[e];exact hR.now hS h (bH _)
 ·cases r1.str;cases r2.str
  refine HQ pins s σ H _ _ v u Q I rx ry ⟨rfl,?_⟩
  have e:decide (V.str i=V.str j)=decide (i=j):=by simp
  rw[e];exact hR.now hS h (bH _)
 ·exact J2 hu pins s σ H x y v u Q I rx ry ⟨p,q,h1.dt hS r1,h2.dt hS r2,c1,c2,dp,hR.now hS h (bH _)⟩
def eX(kvs:List (Key×D))(k:Key):Option D:=(kvs.find? fun kv=>decide (kv.1=k)).map (·.2)
def dput(kvs:List (Key×D))(k:Key)(v:D):List (Key×D):=if (kvs.any fun kv=>decide (kv.1=k))=true then kvs.map (fun kv=>if kv.1=k then (kv.1,v) else kv) else kvs++[(k,v)]
theorem dX.val(h:dX K H ks vs)(k:Key):(∀d,eX ks k=some d→∃v,kl vs k=some v∧Rv K H d v)∧(eX ks k=none→kl vs k=none):=by
 induction h with
 |nil=>exact⟨fun d e=>(by cases e),fun _=>rfl⟩
 |@cons a b l m r t ih =>
  obtain⟨k',d⟩:=a
  obtain⟨Yn,v⟩:=b
  obtain⟨e0,r⟩:=r
  dsimp only at e0
  subst e0
  unfold eX kl
  simp only [yp]
  by_cases q:k'=k
  ·rw[zk q];exact⟨fun d' e=>⟨v,rfl,(by cases e;exact r)⟩,fun e=>(by cases e)⟩
  ·rw[zp q];exact ih
theorem dX.any(h:dX K H ks vs)(k:Key):(ks.any fun kv=>decide (kv.1=k))=(vs.any fun kv=>decide (kv.1=k)):=by
 induction h with
 |nil=>rfl
 |cons r t ih=>rw[yE,yE,ih,r.1]
theorem dX.len(h:dX K H ks vs):vs.length=ks.length:=(Paired.length h).symm
theorem dX.app:∀{ks ls:List (κ×D)}{vs ws:List (κ×V)},dX K H ks vs→dX K H ls ws→dX K H (ks++ls) (vs++ws)
 |_,_,_,_,.nil,h=>h
 |_,_,_,_,.cons r t,h=>.cons r (dX.app t h)
theorem dX.JO(h:dX K H ks vs)(k:Key)(rd:Rv K H d v):dX K H (ks.map fun kv=>if kv.1=k then (kv.1,d) else kv) (vs.map fun kv=>if kv.1=k then (kv.1,v) else kv):=by
 induction h with
 |nil=>exact .nil
 |@cons a b l m r t ih =>
  refine .cons ?_ ih
  dsimp only
  by_cases q:b.1=k
  ·rw[if_pos q,if_pos (r.1.trans q)];exact⟨r.1,rd⟩
  ·rw[if_neg q,if_neg fun z=>q (r.1.symm.trans z)];exact r
theorem dX.put(h:dX K H ks vs)(k:Key)(rd:Rv K H d v):dX K H (dput ks k d) (putK vs k v):=by
 unfold dput putK
 rw[h.any k]
 split
 ·exact h.JO k rd
 ·exact h.app (.cons ⟨rfl,rd⟩ .nil)
def Kk:D→Option Key
 |.int i=>some (.inl i)
 |.str z=>some (.inr z)
 |_=>none
theorem DC(h:Kk d=some k)(r:Rv K H d v):v=kV k:=by
 cases d with
 |int i=>cases h;exact r.int
 |str i=>cases h;exact r.str
 |_=>cases h
def kC:D→Bool
 |.aC=>true|.bl _=>true|.int _=>true|.str _=>true
 |_=>false
def lV:D→V
 |.aC=>.aC|.bl b=>.bl b|.int i=>.int i|.str z=>.str z|.ref a=>.ref a|.ty n=>.ty n
 |_=>.aC
theorem sL(h:kC d=true)(r:Rv K H d v):v=lV d∧jt v=true:=by
 cases d with
 |aC=>cases r.aC;exact⟨rfl,rfl⟩
 |bl b=>cases r.bl;exact⟨rfl,rfl⟩
 |int b=>cases r.int;exact⟨rfl,rfl⟩
 |str b=>cases r.str;exact⟨rfl,rfl⟩
 |_=>cases h
theorem nS:∀{ds:List D}{vs:List V},ds.all kC=true→RvAll K H ds vs→vs=ds.map lV∧vs.all jt=true
 |[],vs,_,r=>by rw[r.nil];exact⟨rfl,rfl⟩
 |d::ds,vs,h,r=>by
  obtain⟨y,ys,rfl,r1,r2⟩:=r.cons
  rw[zW,zg] at h
  obtain⟨e1,f1⟩:=sL h.1 r1
  obtain⟨e2,f2⟩:=nS h.2 r2
  refine⟨by rw[e1,e2];rfl,?_⟩
  rw[zW,f1,f2];rfl
def inD(neg:Bool):sJ:=fun x y S R=>match y with
 |.str j=>∃i,x=.str i∧R (.bl (if neg then !(!(Builtin.Str.occurrences j i 0 j.length 1).isEmpty) else !(Builtin.Str.occurrences j i 0 j.length 1).isEmpty)) S
 |.kt ds=>kC x=true∧ds.all kC=true∧R (.bl (if neg then !wZ (lV x) (ds.map lV) else wZ (lV x) (ds.map lV))) S
 |.tup ds=>kC x=true∧ds.all kC=true∧R (.bl (if neg then !wZ (lV x) (ds.map lV) else wZ (lV x) (ds.map lV))) S
 |.ref a=>(∃ds,S a=some (.lst ds)∧kC x=true∧ds.all kC=true∧R (.bl (if neg then !wZ (lV x) (ds.map lV) else wZ (lV x) (ds.map lV))) S) ∨
   ∃kvs k,S a=some (.ke kvs)∧Kk x=some k∧R (.bl (if neg then !(eX kvs k).isSome else (eX kvs k).isSome)) S
 |_=>False
theorem sM(hS:Rs K S H)(e:S a=some (.ke kvs)):∃o,qu H a (kV k) o∧o.isSome=(eX kvs k).isSome∧∀d,eX kvs k=some d→∃v,o=some v∧Rv K H d v:=by
 obtain⟨vs,e1,t⟩:=hS.ke e
 refine⟨_,qu.k e1,?_,fun d h=>(t.val k).1 d h⟩
 cases q:eX kvs k with
 |none=>rw[(t.val k).2 q];rfl
 |some d=>obtain⟨v,e2,_⟩:=(t.val k).1 d q;rw[e2];rfl
theorem qA:nR K (compareOp .In) (inD false):=by
 rintro X hK hu pins s σ H x y v u Q I rx ry ⟨d,e,S,R,r1,r2,hS,h,hR⟩
 subst hK
 cases e with
 |str j =>
  obtain⟨i,rfl,h⟩:=h
  exact Ba pins s σ H x y v u Q I rx ry ⟨i,j,r1.str,r2.str,hR.now hS h (bH _)⟩
 |tup ds =>
  obtain⟨f1,f2,h⟩:=h
  obtain⟨a,xs,rfl,q,t⟩:=r2.tup
  obtain⟨e1,g1⟩:=sL f1 r1
  obtain⟨e2,g2⟩:=nS f2 t
  subst e1 e2
  exact lN pins s σ H _ _ v u Q I rx ry ⟨a,_,rfl,.inr (.of q),g1,g2,hR.now hS h (bH _)⟩
 |kt ds =>
  obtain⟨f1,f2,h⟩:=h
  obtain⟨a,xs,rfl,q,t⟩:=r2.kt
  obtain⟨e1,g1⟩:=sL f1 r1
  obtain⟨e2,g2⟩:=nS f2 t
  subst e1 e2
  exact lN pins s σ H _ _ v u Q I rx ry ⟨a,_,rfl,.inr (.inr q),g1,g2,hR.now hS h (bH _)⟩
 |ref a =>
  cases r2.ref
  rcases h with ⟨ds,e,f1,f2,h⟩|⟨kvs,k,e,hk,h⟩
  ·obtain⟨xs,e1,t⟩:=hS.lst e
   obtain⟨e2,g1⟩:=sL f1 r1
   obtain⟨e3,g2⟩:=nS f2 t
   subst e2 e3
   exact lN pins s σ H _ _ v u Q I rx ry ⟨a,_,rfl,.inl (.of e1),g1,g2,hR.now hS h (bH _)⟩
  ·cases DC hk r1
   cases ry
   obtain⟨o,g,e1,_⟩:=sM (k:=k) hS e
   refine QU (by lia) I g rx fun s' I'=>⟨.bl o.isSome,H,I',rfl,?_⟩
   rw[e1];exact hR.now hS h (bH _)
 |_=>exact h.elim
def VG(K:Frag)(r:sJ):Prop:=∀X:Cx,X.K=K→X.A.units+64<cLine→MF X (Lr K r)
def T6:sJ:=fun x y S R=>match x,y with
 |.tup ds,.int i=>∃d,jO ds i=some d∧R d S
 |.kt ds,.int i=>∃d,jO ds i=some d∧R d S
 |.jc ds,.int i=>∃d,jO ds i=some d∧R d S
 |.str z,.int i=>∃c,z.length≤sizeLine∧jO z.cps.toList i=some c∧R (.str ⟨#[c]⟩) S
 |.ref a,.int i=>∃ds d,S a=some (.lst ds)∧jO ds i=some d∧R d S
 |.ref a,.str z=>∃kvs d,S a=some (.ke kvs)∧eX kvs (.inr z)=some d∧R d S
 |_,_=>False
theorem RvAll.at{H:Hp}{ds:List D}{xs:List V}{i:Int}{d:D}(h:RvAll K H ds xs)(e:jO ds i=some d):∃v,jO xs i=some v∧Rv K H d v:=by
 unfold jO at e ⊢
 rw[h.len]
 cases q:CD ds.length i with
 |none=>rw[q] at e;cases e
 |some j =>
  rw[q] at e
  exact h.get e
theorem RN:VG K T6:=by
 rintro X hK hu value slice pins s σ H x y v u Q I rx ry ⟨d,e,S,R,r1,r2,hS,h,hR⟩ hs
 subst hK
 cases d with
 |tup ds =>
  cases e with
  |int i =>
   obtain⟨d,e,h⟩:=h
   obtain⟨a,xs,rfl,q,t⟩:=r1.tup
   obtain⟨z,e1,r⟩:=t.at e
   exact C5 value slice pins s σ H _ _ v u Q I rx ry ⟨a,xs,i,z,rfl,r2.int,.of q,e1,hR.now hS h r⟩ hs
  |_=>exact h.elim
 |kt ds =>
  cases e with
  |int i =>
   obtain⟨d,e,h⟩:=h
   obtain⟨a,xs,rfl,q,t⟩:=r1.kt
   obtain⟨z,e1,r⟩:=t.at e
   exact C5 value slice pins s σ H _ _ v u Q I rx ry ⟨a,xs,i,z,rfl,r2.int,.inr q,e1,hR.now hS h r⟩ hs
  |_=>exact h.elim
 |jc ds =>
  cases e with
  |int i =>
   obtain⟨d,e,h⟩:=h
   obtain⟨a,xs,rfl,q,t⟩:=r1.jc
   obtain⟨z,e1,r⟩:=t.at e
   exact Al value slice pins s σ H _ _ v u Q I rx ry ⟨a,xs,i,z,rfl,r2.int,q.sq,e1,hR.now hS h r⟩ hs
  |_=>exact h.elim
 |str w =>
  cases e with
  |int i =>
   obtain⟨c,e0,e,h⟩:=h
   exact JF value slice pins s σ H _ _ v u Q I rx ry ⟨w,i,c,r1.str,r2.int,e0,e,hR.now hS h (cY _)⟩ hs
  |_=>exact h.elim
 |ref a =>
  cases e with
  |int i =>
   obtain⟨ds,d,e,e1,h⟩:=h
   obtain⟨xs,e2,t⟩:=hS.lst e
   obtain⟨z,e3,r⟩:=t.at e1
   exact Al value slice pins s σ H _ _ v u Q I rx ry ⟨a,xs,i,z,r1.ref,r2.int,.of e2,e3,hR.now hS h r⟩ hs
  |str w =>
   obtain⟨kvs,d,e,e1,h⟩:=h
   cases r1.ref
   cases r2.str
   cases rx
   obtain⟨o,g,_,e2⟩:=sM (k:=.inr w) hS e
   obtain⟨z,rfl,r⟩:=e2 d e1
   exact tail_any (uN I g) PySem.F.slot_dict_getitem.lookup (Bj (by lia) I g ry fun w' s' I' uL=>⟨z,H,I',uL,hR.now hS h r⟩) hs
  |_=>exact h.elim
 |_=>exact h.elim
theorem ix(hu:X.A.units+64<cLine)(ha:DE K X a ta)(hb:DE K X b tb)(hs:Ak b:=by exact fun _ _=>rfl)(hK:X.K=K:=by rfl):DE K X (.Subscript a b pos) (Kh T6 ta tb) :=
 ⟨fun y=>(MG (RN y.cx hK hu) (ha.of y) (hb.of y) hs).mono fun _ _ _ h=>h.op⟩
end
section
variable{K:Frag}{X:Cx}
abbrev LL:=SD→aK→(Option Int→aK→Prop)→KX→Prop
def To(K:Frag)(E:St→XK)(t:LL):TO:=fun τ H Q=>∃σ S R Z,g_ K H σ τ∧Rs K S H∧t σ S R Z∧(∀o S' H',R o S'→Rs K S' H'→Kp K H H'→Q o H')∧BE K H Z (E τ)
structure DO(K:Frag)(X:Cx)(e:Option Expr)(t:LL):Prop where
 of:∀{b:Bool} (y:Ev X b),PO y.cx e (To K y.E t)
theorem PO.mono(h:PO X e t)(i:∀τ H Q,t' τ H Q→t τ H Q):PO X e t':=fun pins s τ H Q I q=>h pins s τ H Q I (i τ H Q q)
def Nt:LL:=fun _ S R _=>R none S
def Nu(t:TD):LL:=fun σ S R Z=>t σ S (fun d S1=>∃i,d=.int i∧R (some i) S1) Z
theorem o0:DO K X none Nt:=⟨fun y=>(F_ (X:=y.cx)).mono <| by rintro τ H Q ⟨σ,S,R,Z,aw,hS,q,hR,hZ⟩;exact hR _ S H q hS (.refl _)⟩
theorem o1(h:DE K X e t):DO K X (some e) (Nu t) :=
 ⟨fun y=>(Ga (h.of y)).mono <| by rintro τ H Q ⟨σ,S,R,Z,aw,hS,q,hR,hZ⟩;exact⟨σ,S,_,Z,aw,hS,q,by rintro d S1 x H1 ⟨i,e,r1⟩ v1 s1 k1;exact by subst e;exact⟨i,v1.int,hR _ S1 H1 r1 s1 k1⟩,hZ⟩⟩
def jR{α:Type}(xs:List α)(lo hi:Option Int):List α:=(xs.drop (HT.sIx xs.length 0 lo)).take (HT.sIx xs.length xs.length hi - HT.sIx xs.length 0 lo)
theorem RvAll.cut{H:Hp}{ds:List D}{xs:List V}(h:RvAll K H ds xs)(lo hi:Option Int):RvAll K H (jR ds lo hi) (uK xs lo hi):=by
 unfold jR uK
 rw[h.len]
 exact (h.drop _).take _
def RO:D→Option Int→Option Int→aK→KD→Prop:=fun x lo hi S R=>match x with
 |.str z=>z.length≤sizeLine∧R (.str (PySem.Txt.slice z lo hi)) S
 |.tup ds=>¬ (HT.sIx ds.length 0 lo=0∧HT.sIx ds.length ds.length hi=ds.length)∧R (.tup (jR ds lo hi)) S
 |.ref a=>∃ds,S a=some (.lst ds)∧∀p,S p=none→R (.ref p) (S.set p (.lst (jR ds lo hi)))
 |.jc ds=>∀p,S p=none→R (.ref p) (S.set p (.lst (jR ds lo hi)))
 |_=>False
def VH(K:Frag):V→Option Int→Option Int→Hp→VK→Prop:=fun x lo hi H Q=>∃d S R,Rv K H d x∧Rs K S H∧RO d lo hi S R∧Cn K H R Q
theorem Nv(hK:X.K=K):LC X (VH K):=by
 rintro pins s σ H x v vl vu lo hi sl Q I rx hs pl pu ⟨d,S,R,r1,hS,h,hR⟩
 subst hK
 cases d with
 |str z=>exact Kf pins s σ H x v vl vu lo hi sl Q I rx hs pl pu ⟨z,r1.str,h.1,hR.now hS h.2 (cY _)⟩
 |tup ds =>
  obtain⟨a,xs,rfl,q,t⟩:=r1.tup
  exact JD pins s σ H _ v vl vu lo hi sl Q I rx hs pl pu ⟨a,xs,rfl,.of q,by rw[t.len];exact h.1,fun p hp=>hR.Kj hS hp h.2 (t.cut lo hi)⟩
 |ref a =>
  obtain⟨ds,e,h⟩:=h
  obtain⟨xs,e1,t⟩:=hS.lst e
  exact Am pins s σ H _ v vl vu lo hi sl Q I rx hs pl pu ⟨a,xs,r1.ref,.of e1,fun p hp=>hR.new hS hp (h p) (t.cut lo hi)⟩
 |jc ds =>
  obtain⟨a,xs,rfl,q,t⟩:=r1.jc
  exact Am pins s σ H _ v vl vu lo hi sl Q I rx hs pl pu ⟨a,xs,rfl,q.sq,fun p hp=>hR.new hS hp (h p) (t.cut lo hi)⟩
 |_=>exact h.elim
def VI(te:TD)(tl th:LL):TD:=fun σ S R Z=>te σ S (fun x S1=>tl σ S1 (fun l S2=>th σ S2 (fun u S3=>RO x l u S3 R) Z) Z) Z
theorem sl{e:Expr}{lo hi:Option Expr}{te:TD}{tl th:LL}{p2 pos:Pos}(he:DE K X e te)(hl:DO K X lo tl)(hu:DO K X hi th)(hK:X.K=K:=by rfl):DE K X (.Subscript e (.Slice lo hi none p2) pos) (VI te tl th) :=
 ⟨fun y=>(C4 (X:=y.cx) (Nv hK) (he.of y) (hl.of y) (hu.of y)).mono <| by rintro τ H Q ⟨σ,S,R,Z,aw,hS,q,hR,hZ⟩;exact
  ⟨σ,S,_,Z,aw,hS,q,fun d S1 x H1 r1 v1 s1 k1=>⟨σ,S1,_,Z,aw.ts k1,s1,r1,fun l S2 H2 r2 s2 k2=>⟨σ,S2,_,Z,aw.ts (k1.trans k2),s2,r2,fun u S3 H3 r3 s3 k3=>⟨d,S3,R,Rv.ts (k2.trans k3) _ v1,s3,r3,hR.kp ((k1.trans k2).trans k3)⟩,hZ.kp (k1.trans k2)⟩,hZ.kp k1⟩,hZ⟩⟩
def RP(te:TD):TD:=fun σ S R Z=>te σ S (fun x S1=>∃i,x=.int i∧R (.int (-i)) S1) Z
theorem GN(he:DE K X e te):DE K X (.UnaryOp .USub e pos) (RP te) :=
 ⟨fun y=>(Mo Jv (he.of y)).mono <| by rintro τ H Q ⟨σ,S,R,Z,aw,hS,q,hR,hZ⟩;exact⟨σ,S,_,Z,aw,hS,q,by rintro d S1 x H1 ⟨i,e,r1⟩ v1 s1 k1;exact by subst e;exact⟨i,v1.int,hR _ S1 _ H1 r1 (aF _) s1 k1⟩,hZ⟩⟩
def RQ(T:String)(S:aK):D→Prop
 |.str _=>T = "str"
 |.ref a=>T = "list" ∧ ∃ds,S a=some (.lst ds)
 |.jc _=>T = "list"
 |_=>False
theorem Ig{H:Hp}{S:aK}{T:String}{d:D}{v:V}(h:RQ T S d)(hS:Rs K S H)(r:Rv K H d v):Pm K T v H:=by
 cases d with
 |str z=>rw[r.str];exact h
 |ref a=>obtain⟨e,ds,h⟩:=h;obtain⟨xs,e1,_⟩:=hS.lst h;rw[r.ref];exact .inl ⟨e,xs,.of e1⟩
 |jc ds=>obtain⟨a,xs,rfl,q,_⟩:=r.jc;exact .inl ⟨h,xs,q.sq⟩
 |_=>exact h.elim
abbrev As:=D→List D→aK→KD→Prop
def Lm(K:Frag)(r:As):V→List V→Hp→VK→Prop:=fun x xs H Q=>∃d ds S R,Rv K H d x∧RvAll K H ds xs∧Rs K S H∧r d ds S R∧Cn K H R Q
def FA(K:Frag)(id:String)(r:As):Prop:=∀X:Cx,X.K=K→JE X id (Lm K r)
def VJ(T:String)(r:As)(to:TD)(t:qp):TD:=fun σ S R Z=>to σ S (fun x S1=>RQ T S1 x∧t σ S1 (fun ds S2=>r x ds S2 R) Z) Z
def RS(T:String)(r:As)(to:TD):TD:=fun σ S R Z=>to σ S (fun x S1=>RQ T S1 x∧r x [] S1 R) Z
theorem bm{o e:Expr}{es:List Expr}{T id:String}{name:Str}{r:As}{to:TD}{t:qp}{apos aP:Pos}(pa:PlainAttrs T)(slot:Slot T name id)(JJ:typeOf (.builtin id)=pure (.type "method_descriptor"))(hm:FA K id r)(ho:DE K X o to)(ha:DA K X (e::es) t)
  (kj:attributeBase o name X.env (eval o X.env)=eval o X.env:=by rfl)
  (JK:((backTo aP (starEach (e::es) X.env)).all (fun x=>!x.1) && (backToKw aP (keywordEach [] X.env)).all (fun x=>x.1.isSome)
   && decide ((e::es).length+([]:List Keyword).length+(if ([]:List Keyword).isEmpty then 0 else 1)<30))=true:=by rfl)
  (oo:(apos.endLine == aP.line)=true:=by rfl) (hs:starEach (e::es) X.env=(false,eval e X.env)::starEach es X.env:=by rfl) (w5:(backTo aP (starEach es X.env)).any (·.1)=false:=by rfl) (hK:X.K=K:=by rfl) :
  DE K X (.Call (.Attribute o name apos) (e::es) [] aP) (VJ T r to t):=by
 subst hK
 exact⟨fun y=>(MI (X:=y.cx) pa slot JJ (hm _ rfl) (ho.of y) (ha.of y) kj JK oo hs w5).mono <| by rintro τ H Q ⟨σ,S,R,Z,aw,hS,q,hR,hZ⟩;exact
  ⟨σ,S,_,Z,aw,hS,q,by rintro d S1 x H1 ⟨h1,r1⟩ v1 s1 k1;exact⟨Ig h1 s1 v1,σ,S1,_,Z,aw.ts k1,s1,r1,fun ds S2 xs H2 r2 v2 s2 k2=>⟨d,ds,S2,R,Rv.ts k2 _ v1,v2,s2,r2,hR.kp (k1.trans k2)⟩,hZ.kp k1⟩,hZ⟩⟩
theorem VL{o:Expr}{T id:String}{name:Str}{r:As}{to:TD}{apos aP:Pos}(pa:PlainAttrs T)(slot:Slot T name id)(JJ:typeOf (.builtin id)=pure (.type "method_descriptor"))(hm:FA K id r)(ho:DE K X o to)
  (kj:attributeBase o name X.env (eval o X.env)=eval o X.env:=by rfl) (oo:(apos.endLine == aP.line)=true:=by rfl) (hK:X.K=K:=by rfl) :
  DE K X (.Call (.Attribute o name apos) [] [] aP) (RS T r to):=by
 subst hK
 exact⟨fun y=>(JI (X:=y.cx) pa slot JJ (hm _ rfl) (ho.of y) kj oo).mono <| by rintro τ H Q ⟨σ,S,R,Z,aw,hS,q,hR,hZ⟩;exact
  ⟨σ,S,_,Z,aw,hS,q,by rintro d S1 x H1 ⟨h1,r1⟩ v1 s1 k1;exact⟨Ig h1 s1 v1,d,[],S1,R,v1,bJ,s1,r1,hR.kp k1⟩,hZ⟩⟩
theorem RvAll.one(h:RvAll K H [d] xs):∃v,xs=[v]∧Rv K H d v:=by
 obtain⟨y,ys,rfl,h1,h2⟩:=h.cons
 rw[h2.nil];exact⟨y,rfl,h1⟩
def GO:As:=fun x ds S R=>∃a es d,x=.ref a∧ds=[d]∧S a=some (.lst es)∧es.length<sizeLine∧R .aC (S.set a (.lst (es++[d])))
theorem cB:FA K "list.append" GO:=by
 rintro X hK pins s σ H x xs v us Q I rx rs ⟨d,ds,S,R,r1,r2,hS,⟨a,es,y,e1,e2,e3,hl,h⟩,hR⟩
 subst e1 e2
 obtain⟨w0,rfl,q2⟩:=r2.one
 obtain⟨zs,e4,t⟩:=hS.lst e3
 exact Bi pins s σ H x _ v us Q I rx rs ⟨a,zs,w0,r1.ref,rfl,e4,by rw[t.len];exact hl,hR.put hS e3 h lT (t.app (bg q2 bJ))⟩
def RT:As:=fun x ds S R=>∃a es d,x=.ref a∧ds=[]∧S a=some (.lst es)∧es[es.length - 1]?=some d∧R d (S.set a (.lst es.dropLast))
theorem Nx:FA K "list.pop" RT:=by
 rintro X hK pins s σ H x xs v us Q I rx rs ⟨d,ds,S,R,r1,r2,hS,⟨a,es,y,e1,e2,e3,hl,h⟩,hR⟩
 subst e1 e2
 obtain⟨zs,e4,t⟩:=hS.lst e3
 obtain⟨w,e5,r⟩:=t.get hl
 exact JL pins s σ H x _ v us Q I rx rs ⟨a,zs,w,r1.ref,r2.nil,e4,by rw[t.len];exact e5,hR.put hS e3 h r t.dropLast⟩
def Kl:As:=fun x ds S R=>∃a es i k d,x=.ref a∧ds=[.int i]∧S a=some (.lst es)∧-(2 ^ 63)≤i∧i<2 ^ 63∧seqIndex? i es.length=some k∧es[k]?=some d∧R d (S.set a (.lst (es.eraseIdx k)))
theorem Au:FA K "list.pop" Kl:=by
 rintro X hK pins s σ H x xs v us Q I rx rs ⟨d,ds,S,R,r1,r2,hS,⟨a,es,i,k,y,e1,e2,e3,h1,h2,h3,h4,h⟩,hR⟩
 subst e1 e2
 obtain⟨w0,rfl,q2⟩:=r2.one
 obtain⟨zs,e4,t⟩:=hS.lst e3
 obtain⟨w,e5,r⟩:=t.get h4
 exact C9 pins s σ H x _ v us Q I rx rs ⟨a,zs,i,k,w,r1.ref,by rw[q2.int],e4,h1,h2,by rw[t.len];exact h3,e5,hR.put hS e3 h r (t.erase k)⟩
def GP:As:=fun x ds S R=>∃z y,x=.str z∧ds=[.str y]∧R (.bl (PySem.Txt.startswith z y)) S
theorem kD:FA K "str.startswith" GP:=by
 rintro X hK pins s σ H x xs v us Q I rx rs ⟨d,ds,S,R,r1,r2,hS,⟨z,y,e1,e2,h⟩,hR⟩
 subst e1 e2
 obtain⟨w0,rfl,q2⟩:=r2.one
 exact qz pins s σ H _ _ v us Q I rx rs ⟨z,y,r1.str,by rw[q2.str],hR.now hS h (bH _)⟩
def Ih(S:aK)(R:KD):D→Prop
 |.str z=>z.length≤sizeLine∧R (.int z.length) S
 |.tup es=>R (.int es.length) S
 |.kt es=>R (.int es.length) S
 |.jc es=>R (.int es.length) S
 |.ref a=>(∃es,S a=some (.lst es)∧R (.int es.length) S)∨∃kvs,S a=some (.ke kvs)∧R (.int kvs.length) S
 |_=>False
def RU:List D→aK→KD→Prop:=fun ds S R=>∃x,ds=[x]∧Ih S R x
theorem aW:hG K (.builtin "len") RU:=by
 rintro X hK hc pins s σ H xs us Q I rx ⟨ds,S,R,r,hS,⟨x,e,h⟩,hR⟩
 subst hK e
 obtain⟨w,rfl,r'⟩:=r.one
 cases x with
 |str z =>
  cases r'.str
  exact iu pins s σ H _ us Q I rx ⟨_,_,rfl,⟨h.1,rfl⟩,hR.now hS h.2 (aF _)⟩
 |tup es =>
  obtain⟨a,xs,rfl,q,t⟩:=r'.tup
  exact iu pins s σ H _ us Q I rx ⟨_,_,rfl,.inr ⟨xs,.of q,t.len.symm⟩,hR.now hS h (aF _)⟩
 |kt es =>
  obtain⟨a,xs,rfl,q,t⟩:=r'.kt
  exact iu pins s σ H _ us Q I rx ⟨_,_,rfl,.inr ⟨xs,.inr q,t.len.symm⟩,hR.now hS h (aF _)⟩
 |jc es =>
  obtain⟨a,xs,rfl,q,t⟩:=r'.jc
  exact iu pins s σ H _ us Q I rx ⟨_,_,rfl,.inl ⟨xs,q.sq,t.len.symm⟩,hR.now hS h (aF _)⟩
 |ref a =>
  cases r'.ref
  rcases h with ⟨es,e,h⟩|⟨kvs,e,h⟩
  ·obtain⟨xs,e1,t⟩:=hS.lst e
   exact iu pins s σ H _ us Q I rx ⟨_,_,rfl,.inl ⟨xs,.of e1,t.len.symm⟩,hR.now hS h (aF _)⟩
  ·obtain⟨xs,e1,t⟩:=hS.ke e
   exact Bo pins s σ H _ us Q I rx ⟨a,xs,rfl,e1,by rw[t.len];exact hR.now hS h (aF _)⟩
 |_=>exact h.elim
def GQ(S:aK):D→Kd→Prop
 |.aC,k=>k=.aC
 |.bl _,k=>k=.bl
 |.int _,k=>k=.int
 |.str _,k=>k=.str
 |.ref a,k=>(k=.lst∧∃ds,S a=some (.lst ds))∨(k=.ke∧∃ds,S a=some (.ke ds))
 |.tup _,k=>k=.tup
 |_,_=>False
theorem Ny(h:GQ S d k)(hS:Rs K S H)(r:Rv K H d v):oy H v k:=by
 cases d with
 |aC=>cases h;rw[r.aC];exact .aC
 |bl b=>cases h;rw[r.bl];exact .bl b
 |int b=>cases h;rw[r.int];exact .int b
 |str b=>cases h;rw[r.str];exact .str b
 |tup b=>cases h;obtain⟨a,xs,rfl,q,_⟩:=r.tup;exact .tup q
 |ref a =>
  rw[r.ref]
  rcases h with ⟨rfl,ds,h⟩|⟨rfl,ds,h⟩
  ·obtain⟨xs,e,_⟩:=hS.lst h;exact .lst e
  ·obtain⟨xs,e,_⟩:=hS.ke h;exact .ke e
 |_=>exact h.elim
def RV:List D→aK→KD→Prop:=fun ds S R=>∃x n k g,ds=[x,.ty n]∧uT n=some g∧GQ S x k∧R (.bl (g k)) S
theorem RvAll.two(h:RvAll K H [d,e] xs):∃v u,xs=[v,u]∧Rv K H d v∧Rv K H e u:=by
 obtain⟨y,ys,rfl,h1,h2⟩:=h.cons
 obtain⟨u,rfl,h3⟩:=h2.one
 exact⟨y,u,rfl,h1,h3⟩
theorem bx:hG K (.builtin "isinstance") RV:=by
 rintro X hK hc pins s σ H xs us Q I rx ⟨ds,S,R,r,hS,⟨x,n,k,g,e,h1,h2,h⟩,hR⟩
 subst hK e
 obtain⟨v,u,rfl,r1,r2⟩:=r.two
 rw[r2.ty] at rx
 exact Dj pins s σ H _ us Q I rx ⟨v,n,k,g,rfl,h1,Ny h2 hS r1,hR.now hS h (bH _)⟩
def Nz:List D→aK→KD→Prop:=fun ds S R=>∃(x:D) (bs:List Bool),ds=[x]∧BF S x (bs.map D.bl)∧R (.bl (bs.all id)) S
theorem f6:hG K (.builtin "all") Nz:=by
 rintro X hK hc pins s σ H xs us Q I rx ⟨ds,S,R,r,hS,⟨x,bs,e,h1,h⟩,hR⟩
 subst hK e
 obtain⟨v,rfl,r1⟩:=r.one
 obtain⟨a,zs,rfl,q,t⟩:=h1.at hS r1
 rw[t.bools] at q
 exact qv hc pins s σ H _ us Q I rx ⟨a,bs,rfl,q,hR.now hS h (bH _)⟩
def intD:List D→aK→KD→Prop:=fun ds S R=>(∃i,ds=[.int i]∧R (.int i) S)∨∃k,ds=[.bl k]∧R (.int (if k then 1 else 0)) S
theorem NA:hG K (.type "int") intD:=by
 rintro X hK hc pins s σ H xs us Q I rx ⟨ds,S,R,r,hS,h,hR⟩
 rcases h with ⟨i,rfl,h⟩|⟨k,rfl,h⟩
 ·obtain⟨v,rfl,r1⟩:=r.one
  exact q_ pins s σ H _ us Q I rx (.inl ⟨i,by rw[r1.int],hR.now hS h (aF _)⟩)
 ·obtain⟨v,rfl,r1⟩:=r.one
  exact q_ pins s σ H _ us Q I rx (.inr ⟨k,by rw[r1.bl],hR.now hS h (aF _)⟩)
def NB:List D→aK→KD→Prop:=fun ds S R=>∃x es,ds=[x]∧(BF S x es∨x=.tup es)∧∀p,S p=none→R (.ref p) (S.set p (.lst es))
theorem xq:hG K (.type "list") NB:=by
 rintro X hK hc pins s σ H xs us Q I rx ⟨ds,S,R,r,hS,⟨x,es,e,h1,h⟩,hR⟩
 subst hK e
 obtain⟨v,rfl,r1⟩:=r.one
 rcases h1 with h1|rfl
 ·obtain⟨a,zs,rfl,q,t⟩:=h1.at hS r1
  exact ki pins s σ H _ us Q I rx ⟨a,zs,rfl,.inl q,fun p hp=>hR.new hS hp (h p) t⟩
 ·obtain⟨a,zs,rfl,q,t⟩:=r1.tup
  exact ki pins s σ H _ us Q I rx ⟨a,zs,rfl,.inr (.of q),fun p hp=>hR.new hS hp (h p) t⟩
def Km:List D→aK→KD→Prop:=fun ds S R=>∃x es,ds=[x]∧(BF S x es∨x=.tup es)∧R (.tup es) S
theorem cJ:hG K (.type "tuple") Km:=by
 rintro X hK hc pins s σ H xs us Q I rx ⟨ds,S,R,r,hS,⟨x,es,e,h1,h⟩,hR⟩
 subst hK e
 obtain⟨v,rfl,r1⟩:=r.one
 rcases h1 with h1|rfl
 ·obtain⟨a,zs,rfl,q,t⟩:=h1.at hS r1
  exact ju pins s σ H _ us Q I rx ⟨a,zs,rfl,.inl ⟨q,fun p hp=>hR.Kj hS hp h t⟩⟩
 ·obtain⟨a,zs,rfl,q,t⟩:=r1.tup
  exact ju pins s σ H _ us Q I rx ⟨a,zs,rfl,.inr ⟨.of q,hR.now hS h (jQ q t)⟩⟩
end
abbrev jd:=List D→aK→KD→KX→Prop
def xr(K:Frag)(sp:jd):Sp:=fun vs H Q e=>∃ds S R Z,RvAll K H ds vs∧Rs K S H∧sp ds S R Z∧Cn K H R Q∧BE K H Z e
section
variable{K:Frag}{X:Cx}{k:Nat}{f C:Addr}{fd:FuncData}{ps:List Str}{sp:Sp}{Be:List V}{ds:List Value}{x m:Str}{p pos apos:Pos}{e o:Expr}{es:List Expr}{b:Bool}{y:Ev X b}
theorem GR(F:cM X.prog X.w X.K X.mg X.base (kz X.prog X.w) k f fd ps sp)(hr:fZ k X.A)(hb:Binds X.K fd ps ds)(hd:Vals Be ds)
  (I:Inv y.cx p2 σ H s) (r:Vals vs us) (h:sp (vs++Be) H Q (y.E σ)):wpAny (model X.prog X.w) X.A (call (.ref f) us) (EP y.cx p2 σ Q) y.xe s:=by
 have r2:Vals (vs++Be) (us++ds):=r.append hd
 have hl:(us++ds).length=ps.length:=by rw[← r2.length];exact F.len _ _ _ _ h
 refine wpAny_call (codeAny_mono (F.run X.A X.stack s H ⟨us,[]⟩ (us++ds) (vs++Be) Q (y.E σ) hr I.QH (hb s us I.sh hl) r2 h) fun res s' hq=>?_)
 cases res with
 |error e=>exact y.ok.call p2 σ H s e s' I hq
 |ok fl =>
  cases fl with
  |ret u=>exact I.after hq
  |next=>exact False.elim hq
  |brk=>exact False.elim hq
  |cont=>exact False.elim hq
theorem DD{t:TA}(F:cM X.prog X.w X.K X.mg X.base (kz X.prog X.w) k f fd ps sp)(hr:fZ k X.A)(hg:Gl X x)(hm:X.mg x=some (.ref f))(hk:keepIn X.K (.ref f)=true)(hb:Binds X.K fd ps ds)(hd:Vals Be ds)
  (ha:PA y.cx (e::es) t) (wX:(x == ("__debug__" : Str))=false) (he:starEach (e::es) X.env=(false,eval e X.env)::starEach es X.env) (rk:(backTo pos (starEach es X.env)).any (·.1)=false) :
  PE y.cx (.Call (.Name x p) (e::es) [] pos) (fun σ H Q=>t σ H fun vs H1=>sp (vs++Be) H1 Q (y.E σ)):=by
 intro p2 s σ H Q I h
 refine wpAny_Call_Name_kw (sk I hg hm ?_ wX)
 refine PySem.W.callWith_K (h₀:=X.base) I.ok.mod.Pa hk (bt (ha pos p2 s σ H _ I h) fun us s1 ⟨vs,H1,I1,r,q⟩=>⟨I1.sh,?_⟩) he rk
 exact GR F hr hb hd I1 r q
end
section
variable{K:Frag}{X:Cx}{k:Nat}{f C:Addr}{fd:FuncData}{ps:List Str}{sp:jd}{Kn:List D}{Be:List V}{ds:List Value}{x m:Str}{p pos apos:Pos}{e o:Expr}{es:List Expr}
structure T7(K:Frag)(Kn:List D)(Be:List V)(ds:List Value):Prop where
 v:Vals Be ds
 d:∀H,RvAll K H Kn Be
theorem d0:T7 K [] [] []:=⟨.nil,fun _=>bJ⟩
def NC(sp:jd)(Kn:List D)(t:qp):TD:=fun σ S R Z=>t σ S (fun ds S1=>sp (ds++Kn) S1 R Z) Z
theorem cf(F:cM X.prog X.w K X.mg X.base (kz X.prog X.w) k f fd ps (xr K sp))(hr:fZ k X.A)(hm:X.mg x=some (.ref f))(hk:keepIn K (.ref f)=true)(hb:Binds K fd ps ds)(hd:T7 K Kn Be ds)(ha:DA K X (e::es) t)
  (hg:Gl X x:=by rfl) (wX:(x == ("__debug__" : Str))=false:=by decide) (he:starEach (e::es) X.env=(false,eval e X.env)::starEach es X.env:=by rfl) (rk:(backTo pos (starEach es X.env)).any (·.1)=false:=by rfl) (hK:X.K=K:=by rfl) :
  DE K X (.Call (.Name x p) (e::es) [] pos) (NC sp Kn t):=by
 subst hK
 exact⟨fun y=>(DD F hr hg hm hk hb hd.v (ha.of y) wX he rk).mono <| by rintro τ H Q ⟨σ,S,R,Z,aw,hS,q,hR,hZ⟩;exact
  ⟨σ,S,_,Z,aw,hS,q,fun es S1 xs H1 r1 v1 s1 k1=>⟨es++Kn,S1,R,Z,v1.app (hd.d _),s1,r1,hR.kp k1,hZ.kp k1⟩,hZ⟩⟩
end
structure DF where
 nx:SD→aK→Prop
 rt:KD
 bk:SD→aK→Prop:=fun _ _=>False
 ct:SD→aK→Prop:=fun _ _=>False
abbrev nh:=DF→SD→aK→(SD→KX)→Prop
def Ii(K:Frag)(H:Hp)(R:SD→aK→Prop)(Q:St→Hp→Prop):Prop:=∀σ S τ H',R σ S→g_ K H' σ τ→Rs K S H'→Kp K H H'→Q τ H'
structure PF(K:Frag)(H:Hp)(De:DF)(Dv:Ends):Prop where
 nx:Ii K H De.nx Dv.nx
 rt:Cn K H De.rt Dv.rt
 bk:Ii K H De.bk Dv.bk
 ct:Ii K H De.ct Dv.ct
def u5(K:Frag)(H:Hp)(Z:SD→KX)(E:St→XK):Prop:=∀σ τ C S H',Z σ C S→g_ K H' σ τ→Rs K S H'→Kp K H H'→E τ (.ref C) none H'
section
variable{K:Frag}{H H1:Hp}{De:DF}{Dv:Ends}{Z:SD→KX}{E:St→XK}{σ:SD}{τ:St}{S:aK}
theorem Ii.kp(h:Ii K H R Q)(k:Kp K H H1):Ii K H1 R Q:=fun σ S τ H' r a b c=>h σ S τ H' r a b (k.trans c)
theorem PF.kp(h:PF K H De Dv)(k:Kp K H H1):PF K H1 De Dv:=⟨h.nx.kp k,h.rt.kp k,h.bk.kp k,h.ct.kp k⟩
theorem u5.kp(h:u5 K H Z E)(k:Kp K H H1):u5 K H1 Z E:=fun σ τ C S H' r a b c=>h σ τ C S H' r a b (k.trans c)
theorem u5.at(h:u5 K H Z E)(r:g_ K H σ τ):BE K H (Z σ) (E τ):=fun C S H' z s k=>h σ τ C S H' z (r.ts k) s k
theorem u5.on(h:u5 K H Z E)(k:Kp K H H1)(r:g_ K H1 σ τ):BE K H1 (Z σ) (E τ):=(h.kp k).at r
end
def Tl(K:Frag)(E:St→XK)(t:nh):TS:=fun Dv τ H=>∃σ S De Z,g_ K H σ τ∧Rs K S H∧t De σ S Z∧PF K H De Dv∧u5 K H Z E
structure DS(K:Frag)(X:Cx)(b:Bool)(st:Stmt)(t:nh):Prop where
 of:∀y:Ev X b,PS y.cx st (Tl K y.E t)
structure DH(K:Frag)(X:Cx)(b:Bool)(st:List Stmt)(t:nh):Prop where
 of:∀y:Ev X b,z_ y.cx st (Tl K y.E t)
theorem PS.mono(h:PS X e t)(i:∀D τ H,t' D τ H→t D τ H):PS X e t':=fun pins s τ H D I q=>h pins s τ H D I (i D τ H q)
theorem z_.mono(h:z_ X e t)(i:∀D τ H,t' D τ H→t D τ H):z_ X e t':=fun pins s τ H D I q=>h pins s τ H D I (i D τ H q)
section
variable{K:Frag}{X:Cx}{b:Bool}{pos:Pos}
def ND:nh:=fun De σ S _=>De.nx σ S
def RW(t u:nh):nh:=fun De σ S Z=>t { De with nx:=fun aA S'=>u De aA S' Z } σ S Z
theorem s0:DH K X b [] ND:=⟨fun y=>(FI (X:=y.cx)).mono <| by rintro D τ H ⟨σ,S,De,Z,aw,hS,q,hD,hZ⟩;exact hD.nx _ _ _ _ q aw hS (.refl _)⟩
theorem sc{st:Stmt}{r:List Stmt}{t u:nh}(h1:DS K X b st t)(h2:DH K X b r u):DH K X b (st::r) (RW t u) :=
 ⟨fun y=>(CP (h1.of y) (h2.of y)).mono <| by rintro D τ H ⟨σ,S,De,Z,aw,hS,q,hD,hZ⟩;exact
  ⟨σ,S,_,Z,aw,hS,q,⟨fun uz S1 RX H1 r1 a b c=>⟨uz,S1,De,Z,a,b,r1,hD.kp c,hZ.kp c⟩,hD.rt,hD.bk,hD.ct⟩,hZ⟩⟩
theorem s1{st:Stmt}{t:nh}(h:DS K X b st t):DH K X b [st] t:=⟨fun y=>FJ (h.of y)⟩
def NF(t:TD):nh:=fun De σ S Z=>t σ S (fun _ S1=>De.nx σ S1) (Z σ)
theorem se(h:DE K X e t)(hs:swapsWith e none pos.line X.env=pure false:=by rfl):DS K X b (.Expr e pos) (NF t) :=
 ⟨fun y=>(FK (X:=y.cx) (h.of y) hs).mono <| by rintro D τ H ⟨σ,S,De,Z,aw,hS,q,hD,hZ⟩;exact⟨σ,S,_,_,aw,hS,q,fun d S1 v H1 r1 _ s1 k1=>hD.nx _ _ _ _ r1 (aw.ts k1) s1 k1,hZ.at aw⟩⟩
def RY(t:TD):nh:=fun De σ S Z=>t σ S De.rt (Z σ)
theorem sr(h:DE K X e t):DS K X b (.Return (some e) pos) (RY t) :=
 ⟨fun y=>(Jf (h.of y)).mono <| by rintro D τ H ⟨σ,S,De,Z,aw,hS,q,hD,hZ⟩;exact⟨σ,S,_,_,aw,hS,q,hD.rt,hZ.at aw⟩⟩
def VM(c:oG)(t u:nh):nh:=fun De σ S Z=>c σ S (fun b S1=>if b=true then t De σ S1 Z else u De σ S1 Z) (Z σ)
theorem si(hc:DT K X c tc)(ha:DH K X b a t)(hb:DH K X b a' u):DS K X b (.If c a a' pos) (VM tc t u) :=
 ⟨fun y=>(Ma (hc.of y) (ha.of y) (hb.of y)).mono <| by rintro D τ H ⟨σ,S,De,Z,aw,hS,q,hD,hZ⟩;exact
  ⟨σ,S,_,_,aw,hS,q,fun c S1 H1 r1 s1 k1=>by
   cases c with
   |true=>rw[if_pos rfl] at r1 ⊢;exact⟨σ,S1,De,Z,aw.ts k1,s1,r1,hD.kp k1,hZ.kp k1⟩
   |false=>rw[if_neg zm] at r1 ⊢;exact⟨σ,S1,De,Z,aw.ts k1,s1,r1,hD.kp k1,hZ.kp k1⟩,hZ.at aw⟩⟩
abbrev wI:=D→SD→aK→(SD→aK→Prop)→Prop
def Tg(K:Frag)(g:wI):TG:=fun v τ H Q=>∃d σ S R,Rv K H d v∧g_ K H σ τ∧Rs K S H∧g d σ S R∧Ii K H R Q
structure DG(K:Frag)(X:Cx)(e:Expr)(g:wI):Prop where
 of:∀Y:Cx,Y.K=X.K→Y.N=X.N→Y.env=X.env→Y.fn=X.fn→Y.calm=X.calm→PG Y e (Tg K g)
theorem PG.mono(h:PG X e t)(i:∀v τ H Q,t' v τ H Q→t v τ H Q):PG X e t':=fun pins s τ H v u Q I r q=>h pins s τ H v u Q I r (i v τ H Q q)
def PH(i:Nat):wI:=fun d σ S R=>R (σ.set i (some d)) S
theorem gn(hN:X.N.Nodup)(hi:X.N[i]?=some x:=by rfl)(hx:Loc X.env.scope x:=by first|exact Or.inl rfl|exact Or.inr rfl)(hf:X.fn x=true∨X.env.scope.names.lookup x=some .local:=by first|exact .inl rfl|exact .inr rfl):DG K X (.Name x pos) (PH i) :=
 ⟨fun Y _ e2 e3 e4 _=>(nO (X:=Y) (by rw[e2];exact hN) (by rw[e2];exact hi) (by rw[e3];exact hx) (by rw[e3,e4];exact hf)).mono <| by rintro v τ H Q ⟨d,σ,S,R,rv,aw,hS,q,hR⟩;exact hR _ S _ H q (aw.set i rv) hS (.refl _)⟩
abbrev BH:=List D→SD→aK→(SD→aK→Prop)→Prop
def VN(K:Frag)(g:BH):Lx:=fun vs τ H Q=>∃ds σ S R,RvAll K H ds vs∧g_ K H σ τ∧Rs K S H∧g ds σ S R∧Ii K H R Q
structure PJ(K:Frag)(X:Cx)(es:List Expr)(g:BH):Prop where
 of:∀Y:Cx,Y.K=X.K→Y.N=X.N→Y.env=X.env→Y.fn=X.fn→Y.calm=X.calm→HN Y es (VN K g)
theorem HN.mono(h:HN X e t)(i:∀v τ H Q,t' v τ H Q→t v τ H Q):HN X e t':=fun pins s τ H v u Q I r q=>h pins s τ H v u Q I r (i v τ H Q q)
def Ij:BH:=fun ds σ S R=>ds=[]∧R σ S
def xt(g:wI)(u:BH):BH:=fun ds σ S R=>∃d r,ds=d::r∧g d σ S fun uz S1=>u r uz S1 R
theorem g0:PJ K X [] Ij:=⟨fun Y _ _ _ _ _=>(Ac (X:=Y)).mono <| by rintro vs τ H Q ⟨ds,σ,S,R,rv,aw,hS,⟨e,q⟩,hR⟩;exact by subst e;exact⟨rv.nil,hR _ _ _ _ q aw hS (.refl _)⟩⟩
theorem gc(h1:DG K X e g)(h2:PJ K X es u)(hs:∀env:Env,(assignEach (e::es) env).map (·.2)=assign e env::(assignEach es env).map (·.2):=by intro _;rfl):PJ K X (e::es) (xt g u) :=
 ⟨fun Y a b c d f=>(n6 (h1.of Y a b c d f) (h2.of Y a b c d f) (hs _)).mono <| by
  rintro vs τ H Q ⟨ds,σ,S,R,rv,aw,hS,⟨d,r,e,q⟩,hR⟩
  subst e
  obtain⟨y,ys,e1,r1,r2⟩:=rv.cons
  exact⟨y,ys,e1,d,σ,S,_,r1,aw,hS,q,fun uz S1 RX H1 q1 a b c=>⟨r,uz,S1,R,RvAll.ts c _ r2,a,b,q1,hR.kp c⟩⟩⟩
def Ik(n:Nat)(g:BH):wI:=fun d σ S R=>∃ds,d=.tup ds∧ds.length=n∧g ds σ S R
theorem gt(h:PJ K X es g)(hn:∀env:Env,(assignEach es env).length=n:=by intro _;rfl)(CS:∀env:Env,(assignEach es env).findIdx? (·.1)=none:=by intro _;rfl)(hK:X.K=K:=by rfl)(hc:X.calm=true:=by rfl):DG K X (.Tuple es j pos) (Ik n g) :=
 ⟨fun Y a b c d f=>(CQ (X:=Y) (by rw[f];exact hc) (h.of Y a b c d f) (hn _) (CS _)).mono <| by
  rintro v τ H Q ⟨d,σ,S,R,rv,aw,hS,⟨ds,e,hl,q⟩,hR⟩
  subst e
  obtain⟨p,xs,e1,e2,t⟩:=rv.tup
  exact⟨p,xs,e1,.of e2,by rw[t.len];exact hl,ds,σ,S,R,t,aw,hS,q,hR⟩⟩
def NG(i:Nat)(t:TD):nh:=fun De σ S Z=>t σ S (fun d S1=>De.nx (σ.set i (some d)) S1) (Z σ)
theorem dR(hN:X.N.Nodup)(h:DE K X e t)(hi:X.N[i]?=some x:=by rfl)(hx:Loc X.env.scope x:=by first|exact Or.inl rfl|exact Or.inr rfl)(hs:swapsWith e (some (.Name x pos')) pos.line X.env=pure false:=by rfl)
  (hf:X.fn x=true∨X.env.scope.names.lookup x=some .local:=by first|exact .inl rfl|exact .inr rfl):DS K X b (.Assign [.Name x pos'] e pos) (NG i t) :=
 ⟨fun y=>(Ji (X:=y.cx) (i:=i) hN hi hx (h.of y) hs hf).mono <| by rintro D τ H ⟨σ,S,De,Z,aw,hS,q,hD,hZ⟩;exact⟨σ,S,_,_,aw,hS,q,fun d S1 v H1 r1 v1 s1 k1=>hD.nx _ _ _ _ r1 ((aw.ts k1).set i v1) s1 k1,hZ.at aw⟩⟩
def RZ(t:TD)(g:wI):nh:=fun De σ S Z=>t σ S (fun d S1=>g d σ S1 De.nx) (Z σ)
theorem sa(h:DE K X e t)(hg:DG K X tg g)(hs:swapsWithSole [tg] e pos.line X.env=pure false:=by rfl)(hw:swappedStores [tg] e X.env=pure none:=by rfl)(h1:(assignEach [tg] X.env).map (·.2)=[assign tg X.env]:=by rfl) :
  DS K X b (.Assign [tg] e pos) (RZ t g) :=
 ⟨fun y=>(CT (X:=y.cx) (h.of y) (hg.of _ rfl rfl rfl rfl rfl) hs hw h1).mono <| by rintro D τ H ⟨σ,S,De,Z,aw,hS,q,hD,hZ⟩;exact⟨σ,S,_,_,aw,hS,q,fun d S1 v H1 r1 v1 s1 k1=>⟨d,σ,S1,_,v1,aw.ts k1,s1,r1,hD.nx.kp k1⟩,hZ.at aw⟩⟩
end
section
variable{X:Cx}{pins:List (Addr×Obj)}{σ:St}{H:Hp}{s:Shared}{A:Around}{E:Value→Shared→Prop}{a:Addr}{kvs:List (Key×V)}{k:Key}{u:Value}
end
section
variable{X:Cx}{o e f:Expr}{apos aP:Pos}{td ty tx:TE}
end
section
variable{K:Frag}{X:Cx}{b:Bool}{o e f:Expr}{apos aP pos:Pos}{td ty tx:TD}
theorem Ko(hS:Rs K S H)(e:S a=some (.ke kvs)):QV H a:=by
 obtain⟨vs,e1,_⟩:=hS.ke e
 exact .inl ⟨vs,.inl e1⟩
def NH(td ty:TD):TD:=fun σ S R Z=>td σ S (fun x S1=>∃a kvs,x=.ref a∧S1 a=some (.ke kvs)∧ty σ S1 (fun y S2=>∃kvs k,S2 a=some (.ke kvs)∧Kk y=some k∧R ((eX kvs k).getD .aC) S2) Z) Z
theorem Kq(hS:Rs K S H)(e:S a=some (.ke kvs))(r:Rv K H d v):∃o,qu H a (kV k) o∧Rv K H ((eX kvs k).getD d) (o.getD v):=by
 obtain⟨o,g,h1,h2⟩:=sM (k:=k) hS e
 refine⟨o,g,?_⟩
 cases q:eX kvs k with
 |none =>
  rw[q] at h1
  cases o with
  |none=>exact r
  |some _=>cases h1
 |some d' =>
  obtain⟨v',rfl,r'⟩:=h2 d' q
  exact r'
theorem VO(hu:X.A.units+64<cLine)(ho:DE K X o td)(he:DE K X e ty)(m:M1 X o "get" apos e aP:=by exact⟨rfl,rfl,rfl,rfl⟩):DE K X (.Call (.Attribute o "get" apos) [e] [] aP) (NH td ty) :=
 ⟨fun y=>(C_ (X:=y.cx) (by show X.A.units+1<cLine;lia) (ho.of y) (he.of y) ⟨m.base,m.HW,m.line,m.trees⟩).mono <| by rintro τ H Q ⟨σ,S,R,Z,aw,hS,q,hR,hZ⟩;exact
  ⟨σ,S,_,Z,aw,hS,q,by
   rintro x S1 xv H1 ⟨a,kvs,e1,e2,r1⟩ v1 s1 k1
   subst e1
   exact⟨a,v1.ref,Ko s1 e2,σ,S1,_,Z,aw.ts k1,s1,r1,by
    rintro y S2 yv H2 ⟨kvs,k,e3,e4,r2⟩ v2 s2 k2
    obtain⟨o,g,r⟩:=Kq (k:=k) s2 e3 lT
    exact⟨o,by rw[DC e4 v2];exact g,(hR.kp (k1.trans k2)).now s2 r2 r⟩,hZ.kp k1⟩,hZ⟩⟩
def Kr(C:Addr)(t:qp):nh:=fun _ σ S Z=>t σ S (fun ds S1=>ds.length≤sizeLine∧Z σ C S1) (Z σ)
end
section
variable{K:Frag}{X:Cx}{C:Addr}{x:Str}{e:Expr}{es:List Expr}{np aP pos:Pos}
theorem BI{t:TA}{y:Ev X true}(hc:X.calm=true)(c:XC X.K C)(hg:Gl X x)(hm:X.mg x=some (.ref C))(ha:PA y.cx (e::es) t)(wX:(x == ("__debug__" : Str))=false)
  (he:starEach (e::es) X.env=(false,eval e X.env)::starEach es X.env) (rk:(backTo aP (starEach es X.env)).any (·.1)=false) :
  PS y.cx (.Raise (some (.Call (.Name x np) (e::es) [] aP)) none pos) (fun _ σ H=>t σ H fun vs H1=>vs.length≤sizeLine∧y.E σ (.ref C) none H1):=by
 intro pins s σ H D I h
 obtain⟨bm,N,nm,q,bs,hdct,sn,sub,ab,col,dd,k0,k1,k2,k3,k5,mN,hC,hN,Pr,T⟩:=c.at I.mod.Pa
 have kj:bm.contains (.type "BaseException")=true:=T.hasType (by decide)
 refine wpAny_Raise_call_subT (C:=C) (nm:=nm) (q:=q) (N:=N) (bs:=bs) (bm:=bm) (hdct:=hdct) (sn:=sn) (sub:=sub) (ab:=ab) (col:=col) (dd:=dd) (k0:=k0) (k1:=k1) (k2:=k2) (k3:=k3) (k5:=k5) PySem.F.excBase_ValueError (mN:=mN)
  kj (I.ok.hd hc) (by show ((backTo aP (starEach (e::es) X.env)).any (·.1))=false;rw[he];show (false || (backTo aP (starEach es X.env)).any (·.1))=false;rw[rk];rfl) Pr (sk I hg hm ⟨rfl,?_⟩ wX)
 have h1:=ha aP pins s σ H _ I h
 have VP:starEach (e::es) y.cx.env=(false,eval e X.env)::starEach es X.env:=he
 rw[VP] at h1 ⊢
 exact Calls.evalArgs_plain (bt h1 <| by rintro us s2 ⟨vs,H2,I2,r,z,q2⟩;exact⟨rfl,by show us.length≤sizeLine;rw[← r.length];exact z,I2.bk _ _ hC,hN.keeps I2.bk,T.keeps I2.bk,fun h' a hx=>y.ok.own rfl pins σ H2 s2 h' a _ _ I2 hx q2⟩)
theorem rF{t:qp}(c:XC K C)(hm:X.mg x=some (.ref C))(ha:DA K X (e::es) t)(hg:Gl X x:=by rfl)(wX:(x == ("__debug__" : Str))=false:=by decide)
  (he:starEach (e::es) X.env=(false,eval e X.env)::starEach es X.env:=by rfl) (rk:(backTo aP (starEach es X.env)).any (·.1)=false:=by rfl) (hc:X.calm=true:=by rfl) (hK:X.K=K:=by rfl) :
  DS K X true (.Raise (some (.Call (.Name x np) (e::es) [] aP)) none pos) (Kr C t):=by
 subst hK
 exact⟨fun y=>(BI (y:=y) hc c hg hm (ha.of y) wX he rk).mono <| by rintro D τ H ⟨σ,S,De,Z,aw,hS,q,hD,hZ⟩;exact
  ⟨σ,S,_,_,aw,hS,q,by rintro ds S1 vs H1 ⟨hl,r1⟩ v1 s1 k1;exact⟨by rw[v1.len];exact hl,hZ.at aw C S1 H1 r1 s1 k1⟩,hZ.at aw⟩⟩
end
structure Av where
 xs:List D
 ok:aK→Prop
def NI(K:Frag)(H0:Hp)(J:It)(I:Av):Prop:=∀i S H,Kp K H0 H→Rs K S H→I.ok S→(∀d,I.xs[i]?=some d→J.go i H∧∀x H',J.Md i H x H'→Rv K H' d x∧Kp K H H'∧Rs K S H')∧(I.xs.length≤i→J.stop i H)
abbrev Aw:=SD→aK→(Av→aK→Prop)→KX→Prop
def Ti(K:Frag)(E:St→XK)(t:Aw):TI:=fun τ H R=>∃σ S RI Z,g_ K H σ τ∧Rs K S H∧t σ S RI Z∧(∀I S' J H',RI I S'→NI K H' J I→Rs K S' H'→Kp K H H'→R J H')∧BE K H Z (E τ)
structure DI(K:Frag)(X:Cx)(tg it:Expr)(t:Aw):Prop where
 of:∀{b:Bool} (y:Ev X b),PI y.cx tg it (Ti K y.E t)
theorem PI.mono(h:PI X tg it t)(i:∀τ H R,t' τ H R→t τ H R):PI X tg it t':=fun pins s τ H R I q=>h pins s τ H R I (i τ H R q)
section
variable{K:Frag}{X:Cx}{tg l:Expr}
def R1(t:TD):Aw:=fun σ S R Z=>t σ S (fun x S1=>∃ds,BF S1 x ds∧R ⟨ds,fun S=>BF S x ds⟩ S1) Z
theorem il(h:DE K X l t)(hK:X.K=K:=by rfl):DI K X tg l (R1 t):=by
 subst hK
 exact⟨fun y=>(FO (X:=y.cx) (h.of y)).mono <| by rintro τ H R ⟨σ,S,RI,Z,aw,hS,q,hR,hZ⟩;exact⟨σ,S,_,Z,aw,hS,q,by
  rintro x S1 v H1 ⟨ds,h1,r1⟩ v1 s1 k1
  obtain⟨a,xs,rfl,hq,t⟩:=h1.at s1 v1
  refine⟨a,rfl,⟨xs,hq⟩,hR _ S1 _ H1 r1 (fun i S2 H2 k2 s2 VQ=>?_) s1 k1⟩
  obtain⟨a',R3,e',R4,t'⟩:=BF.at VQ s2 (Rv.ts k2 _ v1)
  cases e'
  refine⟨fun d hd=>?_,fun hl=>⟨R3,R4,by rw[t'.len];exact hl⟩⟩
  obtain⟨v,e1,r⟩:=t'.get hd
  refine⟨⟨R3,v,R4,e1⟩,fun x' H' ⟨e2,e3⟩=>?_⟩
  subst e2
  have:=e3 R3 R4
  rw[e1] at this;cases this
  exact⟨r,.refl _,s2⟩,hZ⟩⟩
def NJ(t:TD):Aw:=fun σ S R Z=>t σ S (fun x S1=>∃ds,(x=.tup ds∨x=.kt ds)∧R ⟨ds,fun _=>True⟩ S1) Z
theorem Ks{H:Hp}{x:D}{ds:List D}{v:V}(h:x=.tup ds∨x=.kt ds)(r:Rv K H x v):∃a xs,v=.ref a∧(∀H',Kp K H H'→iq K H' a xs)∧RvAll K H ds xs:=by
 rcases h with rfl|rfl
 ·obtain⟨a,xs,rfl,q,t⟩:=r.tup
  exact⟨a,xs,rfl,fun H' k=>.of (k.t _ _ q),t⟩
 ·obtain⟨a,xs,rfl,q,t⟩:=r.kt
  exact⟨a,xs,rfl,fun H' k=>.inr q,t⟩
theorem wJ(h:DE K X l t)(hK:X.K=K:=by rfl):DI K X tg l (NJ t):=by
 subst hK
 exact⟨fun y=>(Jm (X:=y.cx) (h.of y)).mono <| by rintro τ H R ⟨σ,S,RI,Z,aw,hS,q,hR,hZ⟩;exact⟨σ,S,_,Z,aw,hS,q,by
  rintro x S1 v H1 ⟨ds,h1,r1⟩ v1 s1 k1
  obtain⟨a,xs,rfl,hq,t⟩:=Ks h1 v1
  refine⟨a,rfl,⟨xs,hq _ (.refl _)⟩,hR _ S1 _ H1 r1 (fun i S2 H2 k2 s2 _=>?_) s1 k1⟩
  have R5:=hq H2 k2
  refine⟨fun d hd=>?_,fun hl=>⟨xs,R5,by rw[t.len];exact hl⟩⟩
  obtain⟨v,e1,r⟩:=(RvAll.ts k2 _ t).get hd
  refine⟨⟨xs,v,R5,e1⟩,fun x' H' ⟨e2,e3⟩=>?_⟩
  subst e2
  have:=e3 xs R5
  rw[e1] at this;cases this
  exact⟨r,.refl _,s2⟩,hZ⟩⟩
def jS(lo:Int)(n:Nat):List D:=(List.range n).map fun i=>D.int (lo+(i:Nat))
theorem eY{lo:Int}{n:Nat} : (jS lo n).length=n:=by unfold jS;rw[za,List.length_range]
theorem iz{lo:Int}{n i:Nat}{d:D}(h:(jS lo n)[i]?=some d):i<n∧d=.int (lo+i):=by
 unfold jS at h
 rw[zV] at h
 by_cases q:i<n
 ·rw[List.getElem?_range q] at h;exact⟨q,(zS h).symm⟩
 ·rw[List.getElem?_eq_none (by rw[List.length_range];omega)] at h;cases h
theorem DJ{H0:Hp}{lo:Int}{n:Nat} : NI K H0 (Me lo n) ⟨jS lo n,fun _=>True⟩:=fun i S H k s _=>⟨fun d hd=>by
 obtain⟨h1,rfl⟩:=iz hd
 exact⟨h1,by rintro x H' ⟨e1,e2⟩;exact by subst e1 e2;exact⟨aF _,.refl _,s⟩⟩,fun hl=>by rw[eY] at hl;exact hl⟩
def R6(t:qp):Aw:=fun σ S R Z=>t σ S (fun ds S1=>∃j:Int,ds=[.int j]∧-(2 ^ 62)≤j∧j<2 ^ 62∧R ⟨jS 0 j.toNat,fun _=>True⟩ S1) Z
theorem NK(hm:X.mg "range" = none)(ha:DA K X [a] t)(hg:Gl X "range" := by rfl)(hs:starEach [a] X.env=[(false,eval a X.env)]:=by rfl):DI K X tg (.Call (.Name "range" p) [a] [] pos) (R6 t) :=
 ⟨fun y=>(A7 (X:=y.cx) hg hm (ha.of y) hs).mono <| by rintro τ H R ⟨σ,S,RI,Z,aw,hS,q,hR,hZ⟩;exact⟨σ,S,_,Z,aw,hS,q,by
  rintro ds S1 vs H1 ⟨j,e,h1,h2,r1⟩ v1 s1 k1
  subst e
  obtain⟨v,rfl,r⟩:=v1.one
  exact⟨j,by rw[r.int],h1,h2,hR _ S1 _ H1 r1 DJ s1 k1⟩,hZ⟩⟩
def NL(t:qp):Aw:=fun σ S R Z=>t σ S (fun ds S1=>∃i j:Int,ds=[.int i,.int j]∧(-(2 ^ 62)≤i∧i<2 ^ 62∧-(2 ^ 62)≤j∧j<2 ^ 62)∧R ⟨jS i (j - i).toNat,fun _=>True⟩ S1) Z
theorem VR(hm:X.mg "range" = none)(ha:DA K X [a,c] t)(hg:Gl X "range" := by rfl)(hs:starEach [a,c] X.env=[(false,eval a X.env),(false,eval c X.env)]:=by rfl)(uH:starEach [c] X.env=[(false,eval c X.env)]:=by rfl) :
  DI K X tg (.Call (.Name "range" p) [a,c] [] pos) (NL t) :=
 ⟨fun y=>(A8 (X:=y.cx) hg hm (ha.of y) hs uH).mono <| by rintro τ H R ⟨σ,S,RI,Z,aw,hS,q,hR,hZ⟩;exact⟨σ,S,_,Z,aw,hS,q,by
  rintro ds S1 vs H1 ⟨i,j,e,h1,r1⟩ v1 s1 k1
  subst e
  obtain⟨v,u,rfl,r,r'⟩:=v1.two
  exact⟨i,j,by rw[r.int,r'.int],h1,hR _ S1 _ H1 r1 DJ s1 k1⟩,hZ⟩⟩
end
section
variable{K:Frag}{X:Cx}{tg iter:Expr}{pos:Pos}
def NM(ti:Aw)(g:wI)(tb:nh):nh:=fun De σ S Z=>ti σ S (fun I S1=>∃P:Nat→SD→aK→Prop,P 0 σ S1∧(∀i σ S,P i σ S→I.ok S) ∧
 (∀i d σ S,I.xs[i]?=some d→P i σ S→g d σ S fun Ad S2=>tb { De with nx:=P (i+1),ct:=P (i+1),bk:=De.nx } Ad S2 Z)∧∀σ S,P I.xs.length σ S→De.nx σ S) (Z σ)
theorem GS(hi:DI K X tg iter ti)(hg:DG K X tg g)(hb:DH K X true body tb)(hs:∀x,foldedSetIterable iter X.env x=pure x:=by intro _;rfl)(hc:X.calm=true:=by rfl):DS K X true (.For tg iter body [] pos) (NM ti g tb) :=
 ⟨fun y=>(Jn (X:=y.cx) (y.ok.loop rfl) hc (hi.of y) (hg.of _ rfl rfl rfl rfl rfl) (hb.of y) hs).mono <| by rintro D τ H ⟨σ,S,De,Z,aw,hS,q,hD,hZ⟩;exact
  ⟨σ,S,_,_,aw,hS,q,by
   rintro I S1 J H1 ⟨P,p0,R7,R8,pend⟩ hJ s1 k1
   refine⟨fun i m τ H=>m=I.xs.length - i∧i≤I.xs.length∧∃σ S,g_ K H σ τ∧Rs K S H∧P i σ S∧Kp K H1 H,⟨_,rfl,yq _,σ,S1,aw.ts k1,s1,p0,.refl _⟩,?_⟩
   rintro i m Yo H2 ⟨rfl,VS,Ad,S2,a2,s2,p2,k2⟩
   have ok:=hJ i S2 H2 k2 s2 (R7 _ _ _ p2)
   by_cases Dh:i<I.xs.length
   ·obtain⟨go,yl⟩:=ok.1 _ (zX Dh)
    refine .inr ⟨go,fun LK H'=>i+1≤I.xs.length∧∃σ S,g_ K H' σ LK∧Rs K S H'∧P (i+1) σ S∧Kp K H1 H',fun aA H' h'=>⟨_,by omega,rfl,h'⟩,fun x H' hy=>?_⟩
    obtain⟨rx,k3,s3⟩:=yl x H' hy
    refine⟨_,Ad,S2,_,rx,a2.ts k3,s3,R8 i _ Ad S2 (zX Dh) p2,fun PK S4 VT H4 r4 a4 s4 k4=>?_⟩
    have kk:=(k2.trans k3).trans k4
    exact⟨PK,S4,_,Z,a4,s4,r4,⟨fun Kt S5 R9 H5 r5 a5 s5 k5=>⟨Dh,Kt,S5,a5,s5,r5,kk.trans k5⟩,hD.rt.kp (k1.trans kk),(hD.nx.kp (k1.trans kk)),fun Kt S5 R9 H5 r5 a5 s5 k5=>⟨Dh,Kt,S5,a5,s5,r5,kk.trans k5⟩⟩,hZ.kp (k1.trans kk)⟩
   ·have e:i=I.xs.length:=by omega
    subst e
    exact .inl ⟨ok.2 (zh _),hD.nx _ _ _ _ (pend _ _ p2) a2 s2 (k1.trans k2)⟩,hZ.at aw⟩⟩
end
def oJ(σ:SD)(src:List (Option Nat)):SD:=src.map fun o=>match o with|some j=>(σ[j]?).join|none=>none
theorem g_.pick{K:Frag}{H:Hp}{σ:SD}{τ:St}(h:g_ K H σ τ):∀src:List (Option Nat),g_ K H (oJ σ src) (pick τ src)
 |[]=>.nil
 |o::r=>.cons (fun d e=>by
  cases o with
  |none=>cases e
  |some j =>
   dsimp only at e ⊢
   cases q:σ[j]? with
   |none=>rw[q] at e;cases e
   |some o' =>
    rw[q] at e
    obtain rfl:o'=some d:=e
    obtain⟨v,e1,r1⟩:=h.get q
    exact⟨v,by rw[e1];rfl,r1⟩) (g_.pick h r)
def Zf:KX:=fun _ _=>False
def u6(σ:SD)(src:List (Option Nat))(g:wI)(tc:oG)(te:TD)(R:KD)(I:Av)(S1:aK):Prop:=∃P:Nat→List D→aK→Prop,P 0 [] S1∧(∀i out S,P i out S→I.ok S) ∧
 (∀i d out S,I.xs[i]?=some d→P i out S→out.length<sizeLine∧g d (oJ σ src) S fun fw S3=>tc fw S3 (fun b S4=>if b=true then te fw S4 (fun v S5=>P (i+1) (out++[v]) S5) Zf else P (i+1) out S4) Zf) ∧
 ∀out S2,P I.xs.length out S2→∀p,S2 p=none→R (.ref p) (S2.set p (.lst out))
def Ax(ti:Aw)(src:List (Option Nat))(g:wI)(tc:oG)(te:TD):TD:=fun σ S R Z=>ti σ S (fun I S1=>u6 σ src g tc te R I S1) Z
theorem BE.f{K:Frag}{H:Hp}{e:XK} : BE K H Zf e:=fun _ _ _ z=>z.elim
theorem T.comp{K:Frag}{E E':St→XK}{ti:Aw}{src:List (Option Nat)}{g:TG}{gd:wI}{tc:oG}{te:TD}{τ:St}{H:Hp}{Q:VK}(hg:∀v τ H Q,Tg K gd v τ H Q→g v τ H Q)
  (h:T K E (Ax ti src gd tc te) τ H Q):Dd (Ti K E ti) src g (Tt K E' tc) (T K E' te) τ H Q:=by
 obtain⟨σ,S,R,Z,aw,hS,q,hR,hZ⟩:=h
 refine⟨σ,S,_,Z,aw,hS,q,fun I S1 J H1 ⟨P,p0,R7,R8,pend⟩ hJ s1 k1=>?_,hZ⟩
 refine⟨fun i m out H=>m=I.xs.length - i∧i≤I.xs.length∧∃ds S,RvAll K H ds out∧Rs K S H∧P i ds S∧Kp K H1 H,⟨_,rfl,yq _,[],S1,bJ,s1,p0,.refl _⟩,?_⟩
 rintro i m out H2 ⟨rfl,VS,ds,S2,v2,s2,p2,k2⟩
 have ok:=hJ i S2 H2 k2 s2 (R7 _ _ _ p2)
 by_cases Dh:i<I.xs.length
 ·obtain⟨go,yl⟩:=ok.1 _ (zX Dh)
  obtain⟨hz,st⟩:=R8 i _ ds S2 (zX Dh) p2
  refine .inr ⟨go,by rw[v2.len];exact hz,fun x H' hy=>?_⟩
  obtain⟨rx,k3,s3⟩:=yl x H' hy
  refine hg _ _ _ _ ⟨_,_,S2,_,rx,(((aw.ts k1).ts k2).ts k3).pick src,s3,st,fun PK S4 VT H4 r4 a4 s4 k4=>?_⟩
  refine⟨PK,S4,_,Zf,a4,s4,r4,fun c S5 H5 r5 s5 k5=>?_,.f⟩
  cases c with
  |true =>
   rw[if_pos rfl] at r5 ⊢
   exact⟨PK,S5,_,Zf,a4.ts k5,s5,r5,fun d S6 v H6 r6 v6 s6 k6=>⟨_,by omega,rfl,Dh,ds++[d],S6,(RvAll.ts (((k3.trans k4).trans k5).trans k6) _ v2).app (bg v6 bJ),s6,r6,(((k2.trans k3).trans k4).trans k5).trans k6⟩,.f⟩
  |false =>
   rw[if_neg zm] at r5 ⊢
   exact⟨_,by omega,rfl,Dh,ds,S5,RvAll.ts ((k3.trans k4).trans k5) _ v2,s5,r5,((k2.trans k3).trans k4).trans k5⟩
 ·have e:i=I.xs.length:=by omega
  subst e
  exact .inl ⟨ok.2 (zh _),fun p hp=>(hR.kp (k1.trans k2)).new s2 hp (pend _ _ p2 p) v2⟩
def Ev.none(X:Cx)(h:X.xe=fun _ _=>False):Ev X false:=⟨X.pn,X.xe,fun _=>E0,⟨by rintro p2 τ H s e s' _ ⟨_,_,_,_,_,_,_,_,_,z⟩;exact z.elim,fun e=>(by cases e),fun e=>(by cases e)⟩⟩
section
variable{K:Frag}{X:Cx}{b:Bool}{N:List Str}{src:List (Option Nat)}{scope:Scope}{tg iter elt:Expr}{ifs:List Expr}{pos:Pos}{ti:Aw}{g:TG}{gd:wI}{tc:oG}{te:TD}
structure PL(K:Frag)(X:Cx)(ifs:List Expr)(t:oG):Prop where
 of:∀{b:Bool} (y:Ev X b),LF y.cx ifs (Tt K y.E t)
def kE:oG:=fun _ S R _=>R true S
theorem lH:PL K X [] kE:=⟨fun y pins s τ H Q I ⟨σ,S,R,Z,aw,hS,q,hR,hZ⟩=>Gj pins s τ H Q I (hR true S H q hS (.refl _))⟩
theorem if1(h:DT K X c t):PL K X [c] t:=⟨fun y=>Gk (h.of y)⟩
theorem lW(S:eT X N src scope)(hit:DI K X tg iter ti)(hg:∀C s H ex pn,PG (g7 X N scope C s H ex pn) tg g)(hx:w_ g src)(R_:∀v τ H Q,Tg K gd v τ H Q→g v τ H Q)
  (hi:∀C s H ex pn,PL K (g7 X N scope C s H ex pn) ifs tc) (he:∀C s H ex pn,DE K (g7 X N scope C s H ex pn) elt te)
  (hs:∀x,foldedSetIterable iter X.env x=pure x:=by intro _;rfl) (hc:X.calm=true:=by rfl):DE K X (.ListComp elt [⟨tg,iter,ifs,0⟩] scope pos) (Ax ti src gd tc te) :=
 ⟨fun y=>(Gn (X:=y.cx) (tc:=Tt K (fun _=>E0) tc) (te:=T K (fun _=>E0) te) ⟨S.kind,S.sA,S.loc,S.LD,S.len,S.src⟩ hc (hit.of y) hg hx (fun C s H ex pn=>(hi C s H ex pn).of (.none _ rfl)) (fun C s H ex pn=>(he C s H ex pn).of (.none _ rfl)) hs).mono fun _ _ _ h=>h.comp R_⟩
theorem T8(hN:X.N.Nodup)(S:eT X N src scope)(hit:DI K X tg iter ti)(hg:∀C s H ex pn,PG (g7 X N scope C s H ex pn) tg g)(hx:w_ g src)(R_:∀v τ H Q,Tg K gd v τ H Q→g v τ H Q)
  (hi:∀C s H ex pn,PL K (g7 X N scope C s H ex pn) ifs tc) (he:∀C s H ex pn,DE K (g7 X N scope C s H ex pn) elt te) (Ra:X.N[i]?=some x:=by rfl) (Pq:X.env.scope.names.lookup x=some .local:=by rfl)
  (Rb:swapsWith (.ListComp elt [⟨tg,iter,ifs,0⟩] scope pos) (some (.Name x pos')) Gq.line X.env=pure true:=by rfl)
  (hs:∀x,foldedSetIterable iter X.env x=pure x:=by intro _;rfl) (hc:X.calm=true:=by rfl):DS K X b (.Assign [.Name x pos'] (.ListComp elt [⟨tg,iter,ifs,0⟩] scope pos) Gq) (NG i (Ax ti src gd tc te)) :=
 ⟨fun y=>(xb (X:=y.cx) (i:=i) (tc:=Tt K (fun _=>E0) tc) (te:=T K (fun _=>E0) te) hN Ra Pq ⟨S.kind,S.sA,S.loc,S.LD,S.len,S.src⟩ hc (hit.of y) hg hx (fun C s H ex pn=>(hi C s H ex pn).of (.none _ rfl)) (fun C s H ex pn=>(he C s H ex pn).of (.none _ rfl)) Rb hs).mono
  <| by rintro D τ H ⟨σ,S,De,Z,aw,hS,q,hD,hZ⟩;exact T.comp R_ ⟨σ,S,_,_,aw,hS,q,fun d S1 v H1 r1 v1 s1 k1=>hD.nx _ _ _ _ r1 ((aw.ts k1).set i v1) s1 k1,hZ.at aw⟩⟩
theorem aN:∀v τ H Q,Tg K (PH i) v τ H Q→g5 i v τ H Q:=by rintro v τ H Q ⟨d,σ,S,R,rv,aw,hS,q,hR⟩;exact hR _ S _ H q (aw.set i rv) hS (.refl _)
end
structure xu(K:Frag)(x qual:Str)(st:Stmt)(f:Addr)(fd:FuncData):Prop where
 ex:∃(oc:Value) (od:Option Addr) (dV kV doc pm:Value) (an:Option Addr) (cn ct:Value) (LA:Array (Option Value)),
  fd=fnOf x qual (ja st) (eM st) (ae st) dV kV doc pm an cn ct∧K.lookup f=some ⟨oc,od,.func fd,LA⟩∧codeIn K cn qual=true
def oK(N:List Str)(ds:List D):SD:=ds.map some++List.replicate (N.length - ds.length) none
section
variable{P:Program}{w:World}{K:Frag}{mg:Str→Option Value}{base:Heap}
theorem xu.VU{x qual:Str}{st:Stmt}{f:Addr}{fd:FuncData}{N ps:List Str}{k:Nat}{sp:jd}(F:xu K x qual st f fd)(S:ag N ps (ae st))(len:∀ds S R Z,sp ds S R Z→ds.length=ps.length)
  (oi:∀(cn:Value) (A:Around) (outer:List Env) (s:Shared) (H:Hp) (E:XK) (ds:List D) (S:aK) (R:KD) (Z:KX),fZ k (A.deeper (envOfC qual (ae st) s.heap.objs.size f cn))→sp ds S R Z →
   ∃t,DH K (nc (kz P w) P w K mg base N qual (ae st) f cn A outer s H E) true (eM st) t∧t { nx:=fun _ S'=>R .aC S',rt:=R } (oK N ds) S fun _=>Z):cM P w K mg base (kz P w) (k+1) f fd ps (xr K sp):=by
 obtain⟨oc,od,dV,kV,doc,pm,an,cn,ct,LA,rfl,lk,Fy⟩:=F.ex
 have rk:ps.length≤N.length:=by have:=congrArg List.length S.pre;rw[yj] at this;lia
 refine Mz lk Fy S (by rintro vs H Q E ⟨ds,S',R,Z,v,_,h,_⟩;exact by rw[v.len];exact len _ _ _ _ h) fun A outer s H vs Q E hr ⟨ds,S',R,Z,v,hS,h,hR,hZ⟩=>?_
 obtain⟨t,ht,q⟩:=oi cn A outer s H E ds S' R Z hr h
 have L:cX (nc (kz P w) P w K mg base N qual (ae st) f cn A outer s H E) E:=Bs
 let y:Ev (nc (kz P w) P w K mg base N qual (ae st) f cn A outer s H E) true:=⟨_,(nc (kz P w) P w K mg base N qual (ae st) f cn A outer s H E).xe,fun _=>E,⟨fun p2 τ H1 s1 e s' I h=>M4 L p2 τ H1 s1 e s' I h,fun _ p2 τ H1 s1 h' a cls args I hx he=>uU L I hx he,fun _=>PassesOwn.leaving⟩⟩
 refine⟨Tl K (fun _=>E) t,ht.of y,oK N ds,S',_,fun _=>Z,?_,hS,q,⟨fun σ S1 τ H1 r a b c=>hR.kp c |>.now b r lT,hR,fun _ _ _ _ z=>z.elim,fun _ _ _ _ z=>z.elim⟩,fun σ τ C S1 H1 z a b c=>hZ C S1 H1 z b c⟩
 unfold oK start
 refine (u3 v).app ?_
 rw[v.len]
 exact uZ _ _ (by rw[List.length_replicate])
theorem cM.Sa(F:cM P w K mg base (kz P w) k f fd ps (xr K sp))(h:∀ds S R Z,Pj ds S R Z→sp ds S R Z):cM P w K mg base (kz P w) k f fd ps (xr K Pj) :=
 F.imp <| by rintro vs H Q E ⟨ds,S,R,Z,a,b,c,d⟩;exact⟨ds,S,R,Z,a,b,h _ _ _ _ c,d⟩
theorem cM.calm(F:cM P w K mg base (kz P w) k f fd ps sp):cM P w K mg base Po k f fd ps fun vs H Q _=>sp vs H Q E0:=by
 refine⟨fun vs H Q E h=>F.len vs H Q E0 h,fun A outer s H args us vs Q E hr e0 hb r h=>codeAny_mono (F.run A outer s H args us vs Q E0 hr e0 hb r h) fun res s' q=>?_⟩
 cases res with
 |error e=>obtain⟨_,_,_,_,_,_,_,_,_,z⟩:=q;exact z.elim
 |ok fl=>cases fl <;> exact q
end
section
variable{K:Frag}{X:Cx}{b:Bool}{i:Nat}{n x:Str}{C0:Addr}{body MZ:List Stmt}{Rk:Stmt}{np J4 pos:Pos}
end
section
variable{K:Frag}{X:Cx}{x:Str}{id:String}{e:Expr}{es:List Expr}{p pos:Pos}{t:qp}{r:List D→aK→KD→Prop}
end
section
variable{K:Frag}
end
section
variable{K:Frag}{X:Cx}{tg:Expr}
def gD(xs ys:List D):List D:=List.zipWith (fun a b=>D.tup [a,b]) xs ys
def NN(t:qp):Aw:=fun σ S R Z=>t σ S (fun ds S1=>∃xs ys,ds=[.tup xs,.tup ys]∧xs.length=ys.length∧R ⟨gD xs ys,fun _=>True⟩ S1) Z
theorem VV(hm:X.mg "zip" = none)(ha:DA K X [a,c] t)(hg:Gl X "zip" := by rfl)(hs:starEach [a,c] X.env=[(false,eval a X.env),(false,eval c X.env)]:=by rfl)(uH:starEach [c] X.env=[(false,eval c X.env)]:=by rfl)(hK:X.K=K:=by rfl) :
  DI K X (.Tuple es kk tp) (.Call (.Name "zip" p) [a,c] [] pos) (NN t):=by
 subst hK
 exact⟨fun y=>(GG (X:=y.cx) hg hm (ha.of y) hs uH).mono <| by rintro τ H R ⟨σ,S,RI,Z,aw,hS,q,hR,hZ⟩;exact⟨σ,S,_,Z,aw,hS,q,by
  rintro ds S1 vs H1 ⟨xs,ys,e,hl,r1⟩ v1 s1 k1
  subst e
  obtain⟨v,u,rfl,ra,rb⟩:=v1.two
  obtain⟨a,va,rfl,qa,ta⟩:=ra.tup
  obtain⟨b,vb,rfl,qb,tb⟩:=rb.tup
  refine⟨a,b,rfl,⟨va,.of qa⟩,⟨vb,.of qb⟩,hR _ S1 _ H1 r1 (fun i S2 H2 k2 s2 _=>?_) s1 k1⟩
  have Sb:iq X.K H2 a va:=.of (k2.t _ _ qa)
  have Sd:iq X.K H2 b vb:=.of (k2.t _ _ qb)
  have la:va.length=xs.length:=ta.len
  have lb:vb.length=ys.length:=tb.len
  refine⟨fun d hd=>?_,fun h=>⟨va,vb,Sb,Sd,by unfold gD at h;rw[List.length_zipWith] at h;lia⟩⟩
  unfold gD at hd
  obtain⟨x,y',e1,e2,e3⟩:=List.getElem?_zipWith_eq_some.mp hd
  subst e3
  obtain⟨vx,f1,g1⟩:=(RvAll.ts k2 _ ta).get e1
  obtain⟨vy,f2,g2⟩:=(RvAll.ts k2 _ tb).get e2
  refine⟨⟨va,vb,vx,vy,Sb,Sd,f1,f2⟩,fun x' H' ⟨T,hT,e4,e5⟩=>?_⟩
  have:=e5 va vb vx vy Sb Sd f1 f2
  subst this e4
  have kk:Kp X.K H2 (upd H2 T (.tup [vx,vy])):=.new hT
  exact⟨jQ bD (RvAll.ts kk _ (bg g1 (bg g2 bJ))),kk,s2.grow hT⟩,hZ⟩⟩
theorem kF:∀v τ H Q,Tg K (Ik 2 (xt (PH i) (xt (PH j) Ij))) v τ H Q→FN K 2 (n5 (g5 i) (n5 (g5 j) FL)) v τ H Q:=by
 rintro v τ H Q ⟨d,σ,S,R,rv,aw,hS,⟨ds,e,hl,a,r,e1,b,r',e2,e3,q⟩,hR⟩
 subst e e1 e2 e3
 obtain⟨p,xs,rfl,hp,t⟩:=rv.tup
 obtain⟨v1,v2,rfl,r1,r2⟩:=t.two
 exact⟨p,_,rfl,.of hp,rfl,v1,[v2],rfl,v2,[],rfl,rfl,hR _ S _ H q ((aw.set i r1).set j r2) hS (.refl _)⟩
end
section
variable{K:Frag}{X:Cx}{b:Bool}{pos:Pos}
def NO(tl ti tv:TD):nh:=fun De σ S Z=>tv σ S (fun v S1=>tl σ S1 (fun x S2=>ti σ S2 (fun y S3=>∃a es i j,x=.ref a∧y=.int i∧S3 a=some (.lst es)∧CD es.length i=some j∧De.nx σ (S3.set a (.lst (es.set j v)))) (Z σ)) (Z σ)) (Z σ)
theorem Se{o i value:Expr}{tl ti tv:TD}{pos':Pos}(ho:DE K X o tl)(hi:DE K X i ti)(hv:DE K X value tv)
  (ha:∀v,assign (.Subscript o i pos') X.env v=(do
   let ov ← holding [v] (eval o X.env)
   let iv ← holding [v,ov] (eval i X.env)
   standAt pos'
   holding [v,ov,iv] (setItem ov iv v)
   release [v,ov,iv] []):=by intro _;rfl)
  (hs:swapsWithSole [.Subscript o i pos'] value pos.line X.env=pure false:=by rfl) (hw:swappedStores [.Subscript o i pos'] value X.env=pure none:=by rfl) (h1:(assignEach [.Subscript o i pos'] X.env).map (·.2)=[assign (.Subscript o i pos') X.env]:=by rfl) :
  DS K X b (.Assign [.Subscript o i pos'] value pos) (NO tl ti tv) :=
 ⟨fun y=>(CT (X:=y.cx) (hv.of y) (Jg (ho.of y) (hi.of y) set_list ha) hs hw h1).mono <| by rintro D τ H ⟨σ,S,De,Z,aw,hS,q,hD,hZ⟩;exact
  ⟨σ,S,_,_,aw,hS,q,fun v S1 vv H1 r1 v1 s1 k1=>⟨σ,S1,_,_,aw.ts k1,s1,r1,fun x S2 xv H2 r2 v2 s2 k2=>⟨σ,S2,_,_,aw.ts (k1.trans k2),s2,r2,by
   rintro y S3 yv H3 ⟨a,es,i,j,e1,e2,e3,e4,r3⟩ v3 s3 k3
   subst e1 e2
   obtain⟨xs,e5,t⟩:=s3.lst e3
   have kk:=s3.oF (o:=.lst (xs.set j vv)) e3
   refine⟨a,xs,i,j,(Rv.ts k3 _ v2).ref,v3.int,e5,by rw[t.len];exact e4,?_⟩
   exact hD.nx _ _ _ _ r3 (aw.ts (((k1.trans k2).trans k3).trans kk)) (s3.put (c:=.lst _) e3 ⟨_,bD,RvAll.ts kk _ (t.set j (Rv.ts (k2.trans k3) _ v1))⟩) (((k1.trans k2).trans k3).trans kk),hZ.on (k1.trans k2) (aw.ts (k1.trans k2))⟩,hZ.on k1 (aw.ts k1)⟩,hZ.at aw⟩⟩
def bK(z:Str):List D:=z.cps.toList.map fun c=>D.str ⟨#[c]⟩
def Il(t:TD):Aw:=fun σ S R Z=>t σ S (fun x S1=>∃z,x=.str z∧R ⟨bK z,fun _=>True⟩ S1) Z
theorem GU(h:DE K X l t):DI K X tg l (Il t) :=
 ⟨fun y=>(JU (X:=y.cx) (h.of y)).mono <| by rintro τ H R ⟨σ,S,RI,Z,aw,hS,q,hR,hZ⟩;exact⟨σ,S,_,Z,aw,hS,q,by
  rintro x S1 v H1 ⟨z,e,r1⟩ v1 s1 k1
  subst e
  refine⟨z,v1.str,hR _ S1 _ H1 r1 (fun i S2 H2 k2 s2 _=>⟨fun d hd=>?_,fun hl=>?_⟩) s1 k1⟩
  ·unfold bK at hd
   rw[zV,Array.getElem?_toList] at hd
   cases q:z.cps[i]? with
   |none=>rw[q] at hd;cases hd
   |some c =>
    rw[q] at hd;cases hd
    refine⟨(Array.getElem?_eq_some_iff.mp q).1,fun x' H' ⟨e1,c',e2,e3⟩=>?_⟩
    rw[q] at e2;cases e2
    subst e1 e3
    exact⟨cY _,.refl _,s2⟩
  ·unfold bK at hl;rw[za,yc] at hl;exact hl,hZ⟩⟩
def GV(t:TD):TD:=fun σ S R Z=>t σ S (fun x S1=>∃ss:List Str,BF S1 x (ss.map D.str)∧ss.length<4000∧R (.int (g8 ss).length) S1) Z
theorem T9(h:DE K X e t)(hm:X.mg "len" = none)(VW:X.mg "set" = none)(hp:isPlain e=true:=by rfl)(hg:Gl X "len" := by rfl)(VX:Gl X "set" := by rfl)(he:starEach [e] X.env=[(false,eval e X.env)]:=by rfl)
  (VY:starEach [Expr.Call (.Name "set" p') [e] [] pos'] X.env=[(false,eval (.Call (.Name "set" p') [e] [] pos') X.env)]:=by rfl) (hK:X.K=K:=by rfl) (hc:X.calm=true:=by rfl) :
  DE K X (.Call (.Name "len" p) [.Call (.Name "set" p') [e] [] pos'] [] pos) (GV t):=by
 subst hK
 refine⟨fun y=>(uJ (X:=y.cx) (Bv (X:=y.cx) rfl rfl) hg hm aE (Rf (rl (X:=y.cx) (Bu (X:=y.cx) rfl rfl rfl hc) VX VW JY (Rf (h.of y) wV hp) (by decide) (by decide) he rfl) wV rfl) (by decide) (by decide) VY rfl).mono fun τ H Q ⟨σ,S,R,Z,aw,hS,q,hR,hZ⟩=>?_⟩
 refine⟨σ,S,_,Z,aw,hS,q,fun x S1 v H1 ⟨ss,h1,hl,r1⟩ v1 s1 k1=>?_,hZ⟩
 obtain⟨a,xs,rfl,hq,t⟩:=h1.at s1 v1
 rw[t.strs] at hq
 exact⟨a,ss,rfl,hq,hl,fun l hl=>⟨l,ss,rfl,bD,hR _ _ _ _ r1 (aF _) (s1.grow hl) (k1.trans (.new hl))⟩⟩
end
theorem BJ{K:Frag}{S:aK}{H:Hp}{l:Addr}(hS:Rs K S H)(h:S l=some .well):∃x y z:Int,Rs K (S.set l (.lst [.int x,.int y,.int z])) H:=by
 obtain⟨x,y,z,e⟩:∃x y z:Int,H l=some (.lst [.int x,.int y,.int z]):=hS l _ h
 refine⟨x,y,z,fun b c hb=>?_⟩
 by_cases q:b=l
 ·subst q;rw[aa] at hb;cases hb
  exact⟨_,e,bg (aF x) (bg (aF y) (bg (aF z) bJ))⟩
 ·rw[ai q] at hb;exact hS b c hb
theorem rG{K:Frag}{S:aK}{H:Hp}{l:Addr}{x y z:Int}(h:S l=some .well)(hS:Rs K (S.set l (.lst [.int x,.int y,.int z])) H):Rs K S H:=fun b c hb=>by
 by_cases q:b=l
 ·subst q;rw[h] at hb;cases hb
  obtain⟨xs,e,t⟩:=hS.lst (a:=b) aa
  rw[t.ints (bs:=[x,y,z])] at e
  exact⟨x,y,z,e⟩
 ·exact hS b c (by rw[ai q];exact hb)
def Ku(pre:List D→Addr→Prop)(post:List D→D→Prop):jd:=fun ds S R _=>∃l x y z,pre ds l∧S l=some (.lst [.int x,.int y,.int z])∧∀d x' y' z',post ds d→R d (S.set l (.lst [.int x',.int y',.int z']))
def DK(pre:List D→Addr→Prop)(post:List D→D→Prop):jd:=fun ds S R _=>∃l,pre ds l∧S l=some .well∧∀d,post ds d→R d S
theorem BK{P:Program}{w:World}{K:Frag}{mg:Str→Option Value}{base:Heap}{k:Nat}{f:Addr}{fd:FuncData}{ps:List Str}{pre:List D→Addr→Prop}{post:List D→D→Prop}
  (F:cM P w K mg base (kz P w) k f fd ps (xr K (Ku pre post))):cM P w K mg base (kz P w) k f fd ps (xr K (DK pre post)):=by
 refine F.imp fun vs H Q E ⟨ds,S,R,Z,v,hS,⟨l,hp,hw,h⟩,hR,hZ⟩=>?_
 obtain⟨x,y,z,VZ⟩:=BJ hS hw
 refine⟨ds,_,fun d S2=>∃x' y' z',post ds d∧S2=S.set l (.lst [.int x',.int y',.int z']),fun _ _=>False,v,VZ,⟨l,x,y,z,hp,aa,fun d x' y' z' hd=>⟨x',y',z',hd,dE⟩⟩,fun d S2 u H' ⟨x',y',z',hd,e⟩ rv hs kp=>?_,fun _ _ _ q=>q.elim⟩
 subst e
 exact hR d S u H' (h d hd) rv (rG hw hs) kp
def Sub(S S':aK):Prop:=∀b c,S b=some c→S' b=some c
theorem Sub.refl(S:aK):Sub S S:=fun _ _ h=>h
theorem Sub.trans(a:Sub S S1)(b:Sub S1 S2):Sub S S2:=fun p c h=>b p c (a p c h)
theorem Sub.new(h:S p=none):Sub S (S.set p c):=fun b c' hb=>by rw[ai (uA hb h)];exact hb
theorem Rs.sub{K:Frag}{S S':aK}{H:Hp}(h:Rs K S' H)(s:Sub S S'):Rs K S H:=fun a c e=>h a c (s a c e)
def Fo(S':aK)(p:aK→Prop):Prop:=∃S,Sub S S'∧p S
theorem fo(h:p S):Fo S p:=⟨S,.refl S,h⟩
section
variable{P:Program}{w:World}{K:Frag}{mg:Str→Option Value}{base:Heap}
theorem xu.ok{x qual:Str}{st:Stmt}{f:Addr}{fd:FuncData}{N ps:List Str}{k:Nat}{sp:jd}(F:xu K x qual st f fd)(S:ag N ps (ae st))(len:∀ds S R Z,sp ds S R Z→ds.length=ps.length)
  (oi:∀(cn:Value) (A:Around) (outer:List Env) (s:Shared) (H:Hp) (E:XK) (ds:List D) (S:aK) (R:KD) (Z:KX),fZ k (A.deeper (envOfC qual (ae st) s.heap.objs.size f cn))→sp ds S R Z →
   ∃t,DH K (nc (kz P w) P w K mg base N qual (ae st) f cn A outer s H E) true (eM st) t∧t { nx:=fun _ S'=>Fo S' (R .aC),rt:=fun d S'=>Fo S' (R d) } (oK N ds) S fun _ C S'=>Fo S' (Z C)):cM P w K mg base (kz P w) (k+1) f fd ps (xr K sp):=by
 have F2:cM P w K mg base (kz P w) (k+1) f fd ps (xr K fun ds S R' Z'=>∃R Z,sp ds S R Z∧R'=(fun d S'=>Fo S' (R d))∧Z'=fun C S'=>Fo S' (Z C)):=by
  refine F.VU S (by rintro ds S R Z ⟨R0,Z0,h,_⟩;exact len _ _ _ _ h) fun cn A outer s H E ds S R Z hr ⟨R0,Z0,h,e1,e2⟩=>?_
  subst e1 e2
  exact oi cn A outer s H E ds S R0 Z0 hr h
 refine F2.imp <| by rintro vs H Q E ⟨ds,S,R,Z,v,hS,h,hR,hZ⟩;exact⟨ds,S,_,_,v,hS,⟨R,Z,h,rfl,rfl⟩,by rintro d S' u H' ⟨S2,sb,r⟩ rv rs kp;exact hR d S2 u H' r rv (rs.sub sb) kp,by rintro C S' H' ⟨S2,sb,r⟩ rs kp;exact hZ C S2 H' r (rs.sub sb) kp⟩
end
section
variable{K:Frag}{X:Cx}{b:Bool}
def NP(t:nh):nh:=fun De σ S Z=>∃P:SD→aK→Prop,t { De with nx:=fun aA S'=>Fo S' (P aA) } σ S Z∧∀aA S',P aA S'→De.nx aA S'
theorem DL{st:Stmt}{t:nh}(h:DS K X b st t):DS K X b st (NP t) :=
 ⟨fun y=>(h.of y).mono <| by rintro D τ H ⟨σ,S,De,Z,aw,hS,⟨P,q,hP⟩,hD,hZ⟩;exact⟨σ,S,_,Z,aw,hS,q,⟨by rintro uz S1 RX H1 ⟨S2,sb,r1⟩ a b c;exact hD.nx _ _ _ _ (hP _ _ r1) a (b.sub sb) c,hD.rt,hD.bk,hD.ct⟩,hZ⟩⟩
def V0(t:TD):TD:=fun σ S R Z=>t σ S (fun d S'=>Fo S' (R d)) Z
theorem CH(h:DE K X e t):DE K X e (V0 t) :=
 ⟨fun y=>(h.of y).mono <| by rintro τ H Q ⟨σ,S,R,Z,aw,hS,q,hR,hZ⟩;exact⟨σ,S,_,Z,aw,hS,q,by rintro d S' v H' ⟨S2,sb,r⟩ rv rs kp;exact hR d S2 v H' r rv (rs.sub sb) kp,hZ⟩⟩
theorem nT(nd:N.Nodup)(h0:N[0]?=some a:=by rfl)(hx:∀C s H ex pn,Loc (g7 X N scope C s H ex pn).env.scope a∧(g7 X N scope C s H ex pn).env.scope.names.lookup a=some .local:=by intro _ _ _ _ _;exact⟨Or.inl rfl,rfl⟩) :
  ∀C s H ex pn,PG (g7 X N scope C s H ex pn) (.Name a p) (g5 0):=fun C s H ex pn=>nO (i:=0) nd h0 (hx C s H ex pn).1 (.inr (hx C s H ex pn).2)
theorem NQ(nd:N.Nodup)(h0:N[0]?=some a:=by rfl)(h1:N[1]?=some c:=by rfl)
  (hx:∀C s H ex pn,Loc (g7 X N scope C s H ex pn).env.scope a∧(g7 X N scope C s H ex pn).env.scope.names.lookup a=some .local:=by intro _ _ _ _ _;exact⟨Or.inl rfl,rfl⟩)
  (hy:∀C s H ex pn,Loc (g7 X N scope C s H ex pn).env.scope c∧(g7 X N scope C s H ex pn).env.scope.names.lookup c=some .local:=by intro _ _ _ _ _;exact⟨Or.inl rfl,rfl⟩)
  (hl:∀env:Env,(assignEach [.Name a p,.Name c p'] env).length=2∧(assignEach [.Name a p,.Name c p'] env).findIdx? (·.1)=none∧(assignEach [.Name a p,.Name c p'] env).map (·.2)=assign (.Name a p) env::(assignEach [.Name c p'] env).map (·.2)∧(assignEach [.Name c p'] env).map (·.2)=assign (.Name c p') env::(assignEach [] env).map (·.2):=by intro _;exact⟨rfl,rfl,rfl,rfl⟩) (hK:X.K=K:=by rfl) (hc:X.calm=true:=by rfl) :
  ∀C s H ex pn,PG (g7 X N scope C s H ex pn) (.Tuple [.Name a p,.Name c p'] j p2) (FN K 2 (n5 (g5 0) (n5 (g5 1) FL))):=fun C s H ex pn=>by
 subst hK
 have e:=hl (g7 X N scope C s H ex pn).env
 exact CQ (X:=g7 X N scope C s H ex pn) hc (n6 (nO (i:=0) nd h0 (hx C s H ex pn).1 (.inr (hx C s H ex pn).2)) (n6 (nO (i:=1) nd h1 (hy C s H ex pn).1 (.inr (hy C s H ex pn).2)) Ac e.2.2.2) e.2.2.1) e.1 e.2.1
end
section
variable{K:Frag}
def Ay(xs:List D):List D:=(List.range xs.length).zipWith (fun i x=>.tup [.int (i:Nat),x]) xs
end
end L2
namespace HT
open PySem PySem.Spec PyProof.Rows
section
variable{prog:Program}{w:World}{A:Around}{E:Value→Shared→Prop}{s:Shared}
end
end HT
namespace L2
open PySem PySem.Spec PyProof.Rows
section
variable{K:Frag}{X:Cx}
end
inductive DM (S:aK):List D→List PyData→Prop where
 |nil:DM S [] []
 |cons {d:D}{p:PyData}{ds:List D}{ps:List PyData} : Dl S d p→DM S ds ps→DM S (d::ds) (p::ps)
section
variable{K:Frag}
end
theorem jy:∀(k:Nat) (l:List Str),Vals (l.map V.str) (strsFrom k l)
 |_,[]=>.nil
 |k,z::l=>.cons ⟨_,rfl⟩ (jy _ l)
def Kv:V→List V→Hp→VK→Prop:=fun x vs H Q=>∃z y,x=.str z∧vs=[.str y]∧(y.length == 0)=false∧z.length+2≤sizeLine∧∀l,H l=none→Q (.ref l) (upd H l (.lst ((Txt.split z y).map V.str)))
theorem DN:JE X "str.split" Kv:=by
 intro pins s σ H x vs v us Q I rx rv h
 obtain⟨z,y,rfl,rfl,hy,hz,q⟩:=h
 obtain⟨t,rfl⟩:=rx
 obtain⟨u,rfl,ru⟩:=rv.one
 obtain⟨t',rfl⟩:=ru
 have one:1≤sizeLine:=by lia
 have self:∀k,(∀l,H l=none→Q (.ref l) (upd H l (.lst [V.str z])))→EP X pins σ Q (.ref s.heap.objs.size) { s with heap:=s.heap.push { cls:=.type "list",data:=.seq #[.str z t] },toks:=k }:=fun k q =>
  ⟨.ref s.heap.objs.size,_,I.laid (t':=k) (o:=.lst [V.str z]) (fun b ob q=>zd _ q) (zh _) ⟨one,[.str z t],0,.cons ⟨t,rfl⟩ .nil,zB _ rfl⟩,rfl,q _ (I.aQ.fresh (zh _))⟩
 by_cases h1:(decide (z.length<y.length) || decide (Builtin.Str.strKind z<Builtin.Str.strKind y))=true
 ·have e:Txt.split z y=[z]:=by unfold Txt.split;rw[if_pos h1]
  rw[e] at q
  exact call_meets F.slot_str_split (typeIs_str _ _ _) F.entry_str_split (F.args_str_split_2 _ _) (meets_str_split_cannot_occur z y t t' h1) (self s.toks q)
 ·by_cases h2:(Builtin.Str.occurrences z y 0 z.length (z.length+1)).isEmpty=true
  ·have e:Txt.split z y=[z]:=by unfold Txt.split;rw[if_neg h1,if_pos h2]
   rw[e] at q
   exact call_meets F.slot_str_split (typeIs_str _ _ _) F.entry_str_split (F.args_str_split_2 _ _) (meets_str_split_not_found z y t t' (Bool.eq_false_iff.mpr h1) hy h2) (self s.toks q)
  ·have e:Txt.split z y=Builtin.Str.partsBetween z (Builtin.Str.occurrences z y 0 z.length (z.length+1)) y.length:=by unfold Txt.split;rw[if_neg h1,if_neg h2]
   have V1:1≤y.length:=by
    have:¬ y.length=0:=fun q=>by rw[q] at hy;cases hy
    lia
   have hw:=split_weight z y V1
   have hl:(Txt.split z y).length≤sizeLine:=by lia
   rw[e] at q hl
   refine call_meets F.slot_str_split (typeIs_str _ _ _) F.entry_str_split (F.args_str_split_2 _ _) (meets_str_split_sep z y t t' (Bool.eq_false_iff.mpr h1) hy (Bool.eq_false_iff.mpr h2) (by lia) hl) ?_
   exact⟨.ref s.heap.objs.size,_,I.laid (o:=.lst (_:List V)) (fun b ob q=>zd _ q) (zh _) ⟨by rw[za];exact hl,_,0,jy s.toks _,zB _ rfl⟩,rfl,q _ (I.aQ.fresh (zh _))⟩
section
variable{K:Frag}
def Kw:As:=fun x ds S R=>∃z y,x=.str z∧ds=[.str y]∧(y.length == 0)=false∧z.length+2≤sizeLine∧∀p,S p=none→R (.ref p) (S.set p (.lst ((Txt.split z y).map D.str)))
theorem m_split:FA K "str.split" Kw:=by
 rintro X hK pins s σ H x xs v us Q I rx rs ⟨d,ds,S,R,r1,r2,hS,⟨z,y,e1,e2,hy,hz,h⟩,hR⟩
 subst e1 e2
 obtain⟨w0,rfl,q2⟩:=r2.one
 exact DN pins s σ H _ _ v us Q I rx rs ⟨z,y,r1.str,by rw[q2.str],hy,hz,fun l hl=>hR.new hS hl (h l) (nQ _)⟩
def NR:As:=fun x ds S R=>∃z texts d,x=.str z∧ds=[d]∧BF S d (texts.map D.str)∧JoinOk z texts=true∧R (.str (Txt.join z texts)) S
theorem gE:FA K "str.join" NR:=by
 rintro X hK pins s σ H x xs v us Q I rx rs ⟨d,ds,S,R,r1,r2,hS,⟨z,texts,d',e1,e2,e3,hj,h⟩,hR⟩
 subst hK e1 e2
 obtain⟨w0,rfl,q2⟩:=r2.one
 obtain⟨a,ys,rfl,q,t⟩:=e3.at hS q2
 have et:=t.strs
 subst et
 exact GK pins s σ H _ _ v us Q I rx rs ⟨z,a,texts,r1.str,rfl,q,hj,hR.now hS h (cY _)⟩
theorem xw:∀{ys:List Str}{ao:List Value},Vals (ys.map V.str) ao→StrsAre ao ys:=by
 intro ys ao h
 obtain⟨l,rfl,e⟩:=lS h
 subst e
 induction l with
 |nil=>exact .nil
 |cons a l ih =>
  cases h with
  |cons r t=>exact .cons _ _ (ih t)
def Kx:As:=fun x ds S R=>∃z texts d,x=.str z∧ds=[d]∧d=.tup (texts.map D.str)∧z.length≤64∧(texts.map (·.length)).sum+texts.length * 64≤16777216∧R (.str (Txt.join z texts)) S
theorem Az:FA K "str.join" Kx:=by
 rintro X hK pins s σ H x xs v us Q I rx rs ⟨d,ds,S,R,r1,r2,hS,⟨z,texts,d',e1,e2,e3,hz,hj,h⟩,hR⟩
 subst hK e1 e2 e3
 obtain⟨w0,rfl,q2⟩:=r2.one
 obtain⟨a,ys,rfl,q,t⟩:=q2.tup
 have et:=t.strs
 subst et
 have ex:=r1.str
 subst ex
 obtain⟨tk,rfl⟩:=rx
 obtain⟨u,rfl,ru⟩:=rs.one
 cases ru
 obtain⟨PB,ao,rv,ol,gl,cl,nl,m,dl⟩:=(show aV X.prog X.w H s.heap a (.tup (texts.map V.str)) from I.aQ a _ q)
 exact join_tupleC (items:=ao.toArray) ⟨ol,gl,cl,m,dl⟩ (xw (by simpa using rv)) hz hj fun t' k=>⟨.str _,H,I.tok k,⟨_,rfl⟩,hR.now hS h (cY _)⟩
theorem lX(f:α→β):∀(l:List α) (j:Nat),(l.eraseIdx j).map f=(l.map f).eraseIdx j
 |[],_=>rfl
 |_::_,0=>rfl
 |x::l,j+1=>by rw[List.eraseIdx_cons_succ,zF,zF,List.eraseIdx_cons_succ,lX f l j]
def jT(n:Nat)(c:Int):List D:=(List.range n).map fun i=>D.int ((i:Nat) * c)
theorem oM:(jT n c).length=n:=by unfold jT;rw[za,List.length_range]
theorem oN(h:(jT n c)[i]?=some d):i<n∧d=.int ((i:Nat) * c):=by
 unfold jT at h
 rw[zV] at h
 by_cases q:i<n
 ·rw[List.getElem?_range q] at h;exact⟨q,(zS h).symm⟩
 ·rw[List.getElem?_eq_none (by rw[List.length_range];lia)] at h;cases h
def NS(t:qp):Aw:=fun σ S R Z=>t σ S (fun ds S1=>∃j c:Int,ds=[.int 0,.int j,.int c]∧0≤j∧j≤100000∧1≤c∧c≤1000∧R ⟨jT ((j+c - 1) / c).toNat c,fun _=>True⟩ S1) Z
theorem T_(hm:X.mg "range" = none)(ha:DA K X [a,b,c] t)(hg:Gl X "range" := by rfl)(hs:starEach [a,b,c] X.env=[(false,eval a X.env),(false,eval b X.env),(false,eval c X.env)]:=by rfl)(uH:starEach [b,c] X.env=[(false,eval b X.env),(false,eval c X.env)]:=by rfl) :
  DI K X tg (.Call (.Name "range" p) [a,b,c] [] pos) (NS t) :=
 ⟨fun y=>(BD (X:=y.cx) hg hm (ha.of y) hs uH).mono <| by rintro τ H R ⟨σ,S,RI,Z,aw,hS,q,hR,hZ⟩;exact⟨σ,S,_,Z,aw,hS,q,by
  rintro ds S1 vs H1 ⟨j,c,e,h1,h2,h3,h4,r1⟩ v1 s1 k1
  subst e
  obtain⟨v0,vs,rfl,r0,v1⟩:=v1.cons
  obtain⟨v,u,rfl,r,r'⟩:=v1.two
  refine⟨j,c,by rw[r0.int,r.int,r'.int],h1,h2,h3,h4,hR _ S1 _ H1 r1 (fun i S H k s _=>⟨fun d hd=>?_,fun hl=>?_⟩) s1 k1⟩
  ·obtain⟨hi,rfl⟩:=oN hd
   refine⟨hi,fun x H' ⟨e1,e2⟩=>?_⟩
   subst e1 e2
   rw[Int.zero_add]
   exact⟨aF _,.refl _,s⟩
  ·rw[oM] at hl;exact hl,hZ⟩⟩
end
section
variable{K:Frag}
def DP(p:Str×D):D:=.tup [.str p.1,p.2]
def oO(l:List (Str×D)):List (Key×D):=l.foldl (fun c p=>dput c (.inr p.1) p.2) []
theorem AA:∀{kvs:List (Str×D)}{ys:List V},RvAll K H (kvs.map DP) ys→∃kv:List (Str×V),TU H ys kv∧∀c c',dX K H c c'→dX K H (kvs.foldl (fun c p=>dput c (.inr p.1) p.2) c) (kv.foldl (fun c p=>putK c (.inr p.1) p.2) c')
 |[],ys,h=>by
  rw[h.nil]
  exact⟨[],⟨rfl,fun i x p e=>(by cases i <;> cases e)⟩,fun c c' h=>h⟩
 |p::kvs,ys,h=>by
  obtain⟨y,ys,rfl,r1,r2⟩:=h.cons
  obtain⟨b,zs,rfl,hb,tz⟩:=Rv.tup (show Rv K H (.tup [.str p.1,p.2]) y from r1)
  obtain⟨v,u,rfl,rv,ru⟩:=tz.two
  have ev:=rv.str
  subst ev
  obtain⟨kv,⟨hl,hp⟩,hf⟩:=AA r2
  refine⟨(p.1,u)::kv,⟨by rw[zf,zf,hl],fun i x q e1 e2=>?_⟩,fun c c' h=>hf _ _ (h.put (.inr p.1) ru)⟩
  cases i with
  |zero=>cases e1;cases e2;exact⟨b,rfl,hb⟩
  |succ i=>exact hp i x q e1 e2
def NT:List D→aK→KD→Prop:=fun ds S R=>∃kvs:List (Str×D),ds=[.tup (kvs.map DP)]∧∀p,S p=none→R (.ref p) (S.set p (.ke (oO kvs)))
theorem Ky:hG K (.type "dict") NT:=by
 rintro X hK hc pins s σ H xs us Q I rx ⟨ds,S,R,r,hS,⟨kvs,e,h⟩,hR⟩
 subst hK e
 obtain⟨v,rfl,r1⟩:=r.one
 obtain⟨a,ys,rfl,q,t⟩:=r1.tup
 obtain⟨kv,hp,hf⟩:=AA t
 refine xg hc pins s σ H _ us Q I rx ⟨a,ys,kv,rfl,q,hp,fun l hl=>?_⟩
 have kn:Kp X.K H (upd H l (.dK (Ao kv))):=.new hl
 exact hR _ _ _ _ (h l (hS.fresh hl)) (oE l) (hS.new (c:=.ke (oO kvs)) hl ⟨_,bD,(hf [] [] .nil).ts kn⟩) kn
theorem u7(kvs:List (Key×D))(k k':Key)(d:D):eX (dput kvs k d) k'=if k'=k then some d else eX kvs k':=by
 unfold dput
 by_cases hk:(kvs.any fun kv=>decide (kv.1=k))=true
 ·rw[if_pos hk]
  unfold eX
  induction kvs with
  |nil=>cases hk
  |cons r kvs ih =>
   rw[zF,yp,yp]
   by_cases e:r.1=k
   ·rw[if_pos e]
    by_cases e2:k'=k
    ·rw[if_pos e2,show decide (r.1=k')=true from zk (e.trans e2.symm)];rfl
    ·rw[if_neg e2,show decide (r.1=k')=false from zp fun q=>e2 (q.symm.trans e)]
     by_cases DQ:(kvs.any fun kv=>decide (kv.1=k))=true
     ·have:=ih DQ
      rw[if_neg e2] at this
      exact this
     ·have em:kvs.map (fun kv=>if kv.1=k then (kv.1,d) else kv)=kvs:=by
       conv=>rhs;rw[← List.map_id kvs]
       refine List.map_congr_left fun x hx=>?_
       rw[if_neg fun q=>DQ (List.any_eq_true.mpr ⟨x,hx,zk q⟩)];rfl
      rw[em]
   ·rw[if_neg e]
    have DQ:(kvs.any fun kv=>decide (kv.1=k))=true:=by
     rw[yE,zp e,Bool.false_or] at hk;exact hk
    by_cases e3:r.1=k'
    ·rw[zk e3,if_neg fun q=>e (e3.trans q)]
    ·rw[zp e3];exact ih DQ
 ·rw[if_neg hk]
  unfold eX
  rw[List.find?_append]
  have hn:∀x∈kvs,x.1≠k:=fun x hx q=>hk (List.any_eq_true.mpr ⟨x,hx,zk q⟩)
  by_cases e:k'=k
  ·subst e
   rw[if_pos rfl,List.find?_eq_none.mpr fun x hx=>by simp [hn x hx]]
   simp
  ·rw[if_neg e]
   have:([(k,d)].find? fun kv=>decide (kv.1=k'))=none:=by
    rw[yp,show decide (k=k')=false from zp fun q=>e q.symm];rfl
   rw[this,Option.or_none]
theorem BL(l:List (Str×D))(z:Str):(eX (oO l) (.inr z)).isSome=l.any fun p=>decide (p.1=z):=by
 have all:∀(l:List (Str×D)) (c:List (Key×D)),(eX (l.foldl (fun c p=>dput c (.inr p.1) p.2) c) (.inr z)).isSome=((eX c (.inr z)).isSome || l.any fun p=>decide (p.1=z)):=by
  intro l
  induction l with
  |nil=>intro c;simp
  |cons p l ih =>
   intro c
   rw[yz,ih,u7,yE]
   by_cases e:p.1=z
   ·rw[if_pos (by rw[e]),zk e];simp
   ·rw[if_neg fun q=>e (Sum.inr.inj q).symm,zp e];simp
 exact (all l []).trans (by rfl)
def NU(a:Addr)(kvs:List (Str×V)):sJ:=fun x y S R=>∃z,x=.str z∧y=.ref a∧R (.bl (kvs.lookup z).isSome) S
theorem Ua{X:Cx}{a b:Expr}{ta tb:TD}{pos:Pos}{w:World}{ad:Addr}{kvs:List (Str×V)}(d:GH w K ad kvs)(ha:DE K X a ta)(hb:DE K X b tb)(hw:X.w=w:=by rfl)(hm:behindInMarks .In b=false:=by with_unfolding_all rfl)(hK:X.K=K:=by rfl) :
  DE K X (.Compare a [.In] [b] pos) (Kh (NU ad kvs) ta tb):=by
 refine⟨fun y=>(Ah (X:=y.cx) (r:=Lr K (NU ad kvs)) ?_ (ha.of y) (hb.of y) hm).mono fun _ _ _ h=>h.op⟩
 rintro pins s σ H x y' v u Q I rx ry ⟨d',e,S,R,r1,r2,hS,⟨z,e1,e2,h⟩,hR⟩
 subst e1 e2
 exact Dq (X:=y.cx) hw hK pins s σ H x y' v u Q I rx ry ⟨z,ad,kvs,r1.str,r2.ref,d,hR.now hS h (bH _)⟩
end
structure NV(k:Nat)(A:Around):Prop where
 dp:A.depth+3 * k+5<recursionLimit
 un:A.units+16 * k+200<cLine
structure Yp(P:Program)(w:World)(K:Frag)(mg:Str→Option Value)(base:Heap)(k:Nat)(f:Addr)(fd:FuncData)(ps:List Str)(sp:jd):Prop where
 len:∀ds S R Z,sp ds S R Z→ds.length=ps.length
 run:∀(A:Around) (outer:List Env) (s:Shared) (H:Hp) (args:Args) (us:List Value) (vs:List V) (Q:VK),NV k A→C2 P w K mg base A outer s H→BindsTo s fd args (ps.zip us)→Vals vs us→xr K sp vs H Q E0 →
  codeAny (model P w) A (.call (.ref f) args) (CR (kz P w) outer P w H s Q E0) s
section
variable{P:Program}{w:World}{K:Frag}{mg:Str→Option Value}{base:Heap}
end
section
variable{K:Frag}{X:Cx}{k:Nat}{f:Addr}{fd:FuncData}{ps:List Str}{x:Str}{p pos:Pos}{e:Expr}{es:List Expr}{sp:jd}
end
section
variable{K:Frag}
def NW:List D→aK→KD→Prop:=fun ds S R=>∃z n,ds=[.str z]∧intText? z=some n∧z.length≤640∧R (.int n) S
theorem DR:hG K (.type "int") NW:=by
 rintro X hK hc pins s σ H xs us Q I rx ⟨ds,S,R,r,hS,⟨z,n,e,h1,h2,h⟩,hR⟩
 subst hK e
 obtain⟨v,rfl,r1⟩:=r.one
 have ev:=r1.str
 subst ev
 obtain⟨u,rfl,ru⟩:=vals1 rx
 obtain⟨t,rfl⟩:=ru
 exact PySem.W.KIN.call_text h1 h2 ⟨.int n,H,I.tok _,⟨_,rfl⟩,hR.now hS h (aF _)⟩
def Sf:List D→aK→KD→Prop:=fun ds S R=>∃n,ds=[.int n]∧n.natAbs.log2<1920∧R (.str (Str.ofString (toString n))) S
theorem DU:hG K (.type "str") Sf:=by
 rintro X hK hc pins s σ H xs us Q I rx ⟨ds,S,R,r,hS,⟨n,e,h1,h⟩,hR⟩
 subst hK e
 obtain⟨v,rfl,r1⟩:=r.one
 have ev:=r1.int
 subst ev
 obtain⟨u,rfl,ru⟩:=vals1 rx
 obtain⟨t,rfl⟩:=ru
 exact PySem.P.str_of_int h1 ⟨.str _,H,I.tok _,⟨_,rfl⟩,hR.now hS h (cY _)⟩
end
def DV(pre:Nat)(X:Cx)(e:Expr)(t:TE):Prop:=∀(pins:List (Addr×Obj)) (s:Shared) (σ:St) (H:Hp) (Q:VK),Inv X pins σ H s→pre≤s.toks→t σ H Q→wpAny (model X.prog X.w) X.A (eval e X.env) (fun u s'=>EP X pins σ Q u s'∧1≤s'.toks) X.xe s
section
variable{X:Cx}{e o:Expr}{t:TE}
theorem PE.g(h:PE X e t):DV 1 X e t:=fun pins s σ H Q I hs q=>yy (wpAny_toks_of hs (h pins s σ H Q I q)) (fun _ _ q=>⟨q.2,q.1⟩) fun _ _ q=>q.2
theorem DV.pe(h:DV 0 X e t):PE X e t:=fun pins s σ H Q I q=>yy (h pins s σ H Q I (yq _) q) (fun _ _ q=>q.1) fun _ _ q=>q
def Sg(y z:Str)(t:TE):TE:=fun σ H Q=>t σ H fun x H1=>∃u,x=.str u∧u.length+(u.length+1) * z.length≤16777216∧Q (.str (Txt.replace u y z)) H1
theorem Kz(ho:DV pre X o t)(Sh:(y == z)=false)(m:M2 X o "replace" apos (.Constant (.str y) j p1) (.Constant (.str z) k p2) aP):DV pre X (.Call (.Attribute o "replace" apos) [.Constant (.str y) j p1,.Constant (.str z) k p2] [] aP) (Sg y z t):=by
 intro pins s σ H Q I hs h
 refine wpAny_Call_method m.base m.HW m.line zH PySem.F.slot_str_replace PySem.F.type_str_replace (bt (ho pins s σ H _ I hs h) fun u s1 ⟨⟨x,H1,I1,rx,z',ex,hz,q⟩,ht⟩=>?_)
 subst ex
 obtain⟨tk,rfl⟩:=rx
 refine⟨typeIs_str _ _ _,fun b q=>(by cases q),?_⟩
 rw[m.trees]
 refine Calls.callWith_builtin rfl (Calls.evalArgs_plain (Calls.spliced_cons (Calls.Constant_str (Calls.spliced_cons (Calls.Constant_str (Calls.spliced_nil ?_))))))
 refine wpAny_with_toks (n:=1) (by show 1≤s1.toks+1+1;lia) (PySem.SC.replace (u:=s1.toks) (v:=s1.toks+1) ?_ ?_ ?_ Sh hz fun t' k hk=>⟨⟨.str _,H1,?_,⟨_,rfl⟩,q⟩,hk⟩)
 ·exact yC ht
 ·exact Nat.succ_ne_zero _
 ·exact (Nat.succ_ne_self _).symm
 ·exact I1.tok k
theorem BM(hr:LC X r)(he:PE X e te):DV 0 X (.Subscript e (.Slice (some (.Constant (.int i) j p3)) none none p2) pos) (fun σ H Q=>te σ H fun x H1=>r x (some i) none H1 Q):=by
 intro pins s σ H Q I _ h
 refine Subscript_ (bt (he pins s σ H _ I h) fun v s1 ⟨x,H1,I1,r1,q1⟩=>?_)
 refine wpAny_Slice ?_
 rw[evalPart_some]
 refine wpAny_Constant_int ?_
 rw[evalPart_none]
 refine zx ?_
 refine zx ?_
 have I2:Inv X pins σ H1 { s1 with toks:=s1.toks+1 }:=I1.tok _
 generalize PM:({ s1 with toks:=s1.toks+1 } : Shared)=s3 at I2
 have V2:1≤s3.toks:=by rw[← PM];exact Nat.le_add_left _ _
 have I4:Inv X pins σ H1 { s3 with heap:=s3.heap.push { cls:=.type "slice",data:=.fields #[.int i s1.toks,.none,.none] } }:=I2.kept (t':=s3.toks) fun b ob q=>zd _ q
 obtain⟨T,id,hT,ht,hg⟩:=hr pins { s3 with heap:=s3.heap.push { cls:=.type "slice",data:=.fields #[.int i s1.toks,.none,.none] } } σ H1 x v (.int i s1.toks) .none (some i) none s3.heap.objs.size Q I4 r1 (Heap.IsSliceOf.new ..) (.int i s1.toks) .none q1
 show wpAny (model X.prog X.w) X.A (subscriptTail e (.Slice (some (.Constant (.int i) j p3)) none none p2) v (.ref s3.heap.objs.size)) _ X.xe { s3 with heap:=s3.heap.push { cls:=.type "slice",data:=.fields #[.int i s1.toks,.none,.none] } }
 have hx:wpAny (model X.prog X.w) X.A (subscriptTail e (.Slice (some (.Constant (.int i) j p3)) none none p2) v (.ref s3.heap.objs.size)) (EP X pins σ Q) X.xe { s3 with heap:=s3.heap.push { cls:=.type "slice",data:=.fields #[.int i s1.toks,.none,.none] } }:=tail_any (ops:=[.ref s3.heap.objs.size,v]) ht hT hg (by with_unfolding_all rfl)
 exact yy (wpAny_toks_of (n:=1) V2 hx) (fun _ _ q=>⟨q.2,q.1⟩) fun _ _ q=>q.2
theorem GW(ho:fO X (binaryOp .Add) r)(hb:DV 1 X e tb):PE X (.BinOp (.Constant (.str c) j p1) .Add e pos) (fun σ H Q=>tb σ H fun y H1=>r (.str c) y H1 Q):=by
 intro pins s σ H Q I h
 refine wpAny_BinOp (Calls.Constant_str ?_)
 refine bt (hb pins { s with toks:=s.toks+1 } σ H _ (I.tok _) (Nat.le_add_left _ _) h) fun u s2 ⟨⟨y,H2,I2,r2,q2⟩,_⟩=>?_
 exact ho pins s2 σ H2 (.str c) y (.str c s.toks) u Q I2 ⟨_,rfl⟩ r2 q2
end
structure LM(pre:Nat)(K:Frag)(X:Cx)(e:Expr)(t:TD):Prop where
 of:∀{b:Bool} (y:Ev X b),DV pre y.cx e (T K y.E t)
section
variable{K:Frag}{X:Cx}{e o:Expr}
theorem DV.mono(h:DV pre X e t)(i:∀τ H Q,t' τ H Q→t τ H Q):DV pre X e t':=fun pins s τ H Q I hs q=>h pins s τ H Q I hs (i τ H Q q)
theorem g1(h:DE K X e t):LM 1 K X e t:=⟨fun y=>(h.of y).g⟩
theorem gd(h:LM 0 K X e t):DE K X e t:=⟨fun y=>(h.of y).pe⟩
def Si(y z:Str)(to:TD):TD:=fun σ S R Z=>to σ S (fun x S1=>∃u,x=.str u∧u.length+(u.length+1) * z.length≤16777216∧R (.str (Txt.replace u y z)) S1) Z
theorem gr(ho:LM pre K X o to)(Sh:(y == z)=false:=by decide)(m:M2 X o "replace" apos (.Constant (.str y) j p1) (.Constant (.str z) k p2) aP:=by exact⟨rfl,rfl,rfl,rfl⟩) :
  LM pre K X (.Call (.Attribute o "replace" apos) [.Constant (.str y) j p1,.Constant (.str z) k p2] [] aP) (Si y z to) :=
 ⟨fun q=>(Kz (X:=q.cx) (ho.of q) Sh ⟨m.base,m.HW,m.line,m.trees⟩).mono <| by rintro τ H Q ⟨σ,S,R,Z,aw,hS,h,hR,hZ⟩;exact
  ⟨σ,S,_,Z,aw,hS,h,by rintro d S1 x H1 ⟨u,e1,h1,r1⟩ v1 s1 k1;exact by subst e1;exact⟨u,v1.str,h1,(hR.kp k1).now s1 r1 (cY _)⟩,hZ⟩⟩
def Sj(i:Int)(te:TD):TD:=fun σ S R Z=>te σ S (fun x S1=>RO x (some i) none S1 R) Z
theorem gs(he:DE K X e te)(hK:X.K=K:=by rfl):LM 0 K X (.Subscript e (.Slice (some (.Constant (.int i) j p3)) none none p2) pos) (Sj i te) :=
 ⟨fun y=>(BM (X:=y.cx) (Nv hK) (he.of y)).mono <| by rintro τ H Q ⟨σ,S,R,Z,aw,hS,q,hR,hZ⟩;exact
  ⟨σ,S,_,Z,aw,hS,q,fun d S1 x H1 r1 v1 s1 k1=>⟨d,S1,R,v1,s1,r1,hR.kp k1⟩,hZ⟩⟩
def NX(c:Str)(te:TD):TD:=fun σ S R Z=>te σ S (fun x S1=>Np (.str c) x S1 R) Z
theorem ga(he:LM 1 K X e te)(hu:X.A.units+64<cLine)(hK:X.K=K:=by rfl):DE K X (.BinOp (.Constant (.str c) j p1) .Add e pos) (NX c te) :=
 ⟨fun y=>(GW (X:=y.cx) (bN y.cx hK hu) (he.of y)).mono <| by rintro τ H Q ⟨σ,S,R,Z,aw,hS,q,hR,hZ⟩;exact
  ⟨σ,S,_,Z,aw,hS,q,fun d S1 x H1 r1 v1 s1 k1=>⟨.str c,d,S1,R,cY c,v1,s1,r1,hR.kp k1⟩,hZ⟩⟩
end
theorem gF(a b:Str):(a++b).cps.toList=a.cps.toList++b.cps.toList:=by
 show (a.cps++b.cps).toList=_
 rw[Array.toList_append]
theorem oP{a b:Str}(h:a.cps.toList=b.cps.toList):a=b:=by
 obtain⟨⟨x⟩⟩:=a
 obtain⟨⟨y⟩⟩:=b
 cases h;rfl
def bC(c:Nat)(z:List Nat)(l:List Nat):List Nat:=l.flatMap fun d=>if d=c then z else [d]
theorem dY(c:Nat)(z a b:List Nat):bC c z (a++b)=bC c z a++bC c z b:=by unfold bC;rw[List.flatMap_append]
theorem bF(c:Nat)(z:List Nat)(d:Nat)(l:List Nat):bC c z (d::l)=(if d=c then z else [d])++bC c z l:=by unfold bC;rw[yr]
theorem lY:∀{l:List Nat},c∉l→bC c z l=l
 |[],_=>rfl
 |d::l,h=>by
  rw[bF,if_neg fun e=>h (by rw[e];exact zj),lY fun m=>h (zl _ m)];rfl
theorem rH(c:Nat)(z:Str):∀(ps:List Str),(∀p∈ps,c∉p.cps.toList)→bC c z.cps.toList ((⟨#[c]⟩:Str).join ps).cps.toList=(z.join ps).cps.toList
 |[],_=>by rw[join_nil,join_nil];rfl
 |[p],h=>by rw[join_one,join_one];exact lY (h p zj)
 |p::q::r,h=>by
  rw[join_cons_cons,join_cons_cons,gF,gF,gF,gF,dY,dY,rH c z (q::r) fun x hx=>h x (zl _ hx),lY (h p zj)]
  congr 2
  show bC c z.cps.toList [c]=_
  rw[bF,if_pos rfl];exact zR _
theorem rep1(x z:Str)(c:Nat):(Txt.replace x ⟨#[c]⟩ z).cps.toList=bC c z.cps.toList x.cps.toList:=by
 rw[PySem.StrLaws.replace_one,← rH c z _ fun p hp=>PySem.StrLaws.split_free x c p hp,PySem.StrLaws.join_split]
def rep2(a b:Nat)(z:List Nat):List Nat→List Nat
 |x::y::t=>if x=a∧y=b then z++rep2 a b z t else x::rep2 a b z (y::t)
 |l=>l
theorem sN(h:x≠a):rep2 a b z (x::t)=x::rep2 a b z t:=by
 cases t with
 |nil=>rfl
 |cons y t=>rw[rep2,if_neg fun q=>h q.1]
theorem DX(h:y≠b):rep2 a b z (x::y::t)=x::rep2 a b z (y::t):=by rw[rep2,if_neg fun q=>h q.2]
theorem kG:rep2 a b z (a::b::t)=z++rep2 a b z t:=by rw[rep2,if_pos ⟨rfl,rfl⟩]
theorem at2:PySem.StrLaws.At x ⟨#[a,b]⟩ x.length i↔∃t,x.cps.toList.drop i=a::b::t:=by
 unfold PySem.StrLaws.At
 rw[PySem.StrLaws.subAt_eq]
 have hl:x.length=x.cps.toList.length:=yc.symm
 show i+2≤_∧(List.take 2 (List.drop i x.cps.toList) == [a,b])=true↔_
 constructor
 ·rintro⟨h1,h2⟩
  have h2:List.take 2 (List.drop i x.cps.toList)=[a,b]:=eq_of_beq h2
  match e:List.drop i x.cps.toList,h2 with
  |p::q::t,h2=>cases h2;exact⟨t,rfl⟩
  |[p],h2=>cases h2
  |[],h2=>cases h2
 ·rintro⟨t,h⟩
  have h3:(List.drop i x.cps.toList).length=t.length+2:=by rw[h];rfl
  rw[yk] at h3
  refine⟨by lia,?_⟩
  rw[h];simp
theorem lZ(l:List Nat):∀(n i:Nat),(∀k,i≤k→k<i+n→¬ ∃t,l.drop k=a::b::t)→rep2 a b z (l.drop i)=(l.drop i).take n++rep2 a b z (l.drop (i+n))
 |0,i,_=>rfl
 |n+1,i,h=>by
  have h0:=h i (zh _) (by lia)
  have ih:=lZ (z:=z) l n (i+1) fun k h1 h2=>h k (by lia) (by lia)
  rw[show i+(n+1)=i+1+n by lia]
  cases e:l.drop i with
  |nil =>
   have e1:l.drop (i+1+n)=[]:=List.drop_eq_nil_of_le (by have:=List.drop_eq_nil_iff.mp e;lia)
   rw[e1];rfl
  |cons x t =>
   have e1:l.drop (i+1)=t:=by rw[show l.drop (i+1)=(l.drop i).drop 1 from (List.drop_drop ..).symm,e];rfl
   rw[e1] at ih
   rw[List.take_succ_cons,yg,← ih]
   cases t with
   |nil=>rfl
   |cons y t =>
    rw[rep2,if_neg]
    rintro⟨rfl,rfl⟩
    exact h0 ⟨t,e⟩
theorem BN(l:List Nat)(i:Nat)(h:∀k,i≤k→¬ ∃t,l.drop k=a::b::t):rep2 a b z (l.drop i)=l.drop i:=by
 rw[lZ l l.length i fun k h1 _=>h k h1,List.drop_eq_nil_of_le (show l.length≤i+l.length by lia),List.take_of_length_le (by rw[yk];lia)]
 exact zR _
theorem KA(x:Str)(i j:Nat):(Builtin.Str.strSub x i j).cps.toList=(x.cps.toList.drop i).take (j - i):=PySem.StrLaws.strSub_toList x i j
theorem oQ{x z:Str}{a b:Nat} : ∀(NY:List Nat) (i f:Nat),PySem.StrLaws.ChainG x ⟨#[a,b]⟩ x.length i NY f→(∀k,f≤k→¬ PySem.StrLaws.At x ⟨#[a,b]⟩ x.length k)→(z.join (PySem.StrLaws.partsFrom x 2 i NY)).cps.toList=rep2 a b z.cps.toList (x.cps.toList.drop i)
 |[],i,f,hc,hf=>by
  have hc:f=i:=hc
  subst hc
  have hl:x.length=x.cps.toList.length:=yc.symm
  show (z.join [Builtin.Str.strSub x f x.length]).cps.toList=_
  rw[join_one,KA,BN _ _ fun k hk q=>hf k hk (at2.mpr q),List.take_of_length_le (by rw[yk];lia)]
 |c::r,i,f,hc,hf=>by
  obtain⟨h1,h2,h3,h4⟩:=(show i≤c∧PySem.StrLaws.At x ⟨#[a,b]⟩ x.length c∧(∀k,i≤k→k<c→¬ PySem.StrLaws.At x ⟨#[a,b]⟩ x.length k)∧PySem.StrLaws.ChainG x ⟨#[a,b]⟩ x.length (c+2) r f from hc)
  have ih:=oQ (z:=z) r (c+2) f h4 hf
  obtain⟨t,ht⟩:=at2.mp h2
  have e2:x.cps.toList.drop (c+2)=t:=by rw[show x.cps.toList.drop (c+2)=(x.cps.toList.drop c).drop 2 from (List.drop_drop ..).symm,ht];rfl
  have e3:=lZ (a:=a) (b:=b) (z:=z.cps.toList) x.cps.toList (c - i) i fun k g1 g2 q=>h3 k g1 (by lia) (at2.mpr q)
  rw[show i+(c - i)=c by lia,ht,kG,← e2,← ih] at e3
  rw[e3]
  show (z.join (Builtin.Str.strSub x i c::PySem.StrLaws.partsFrom x 2 (c+2) r)).cps.toList=_
  have BO:∃p q,PySem.StrLaws.partsFrom x 2 (c+2) r=p::q:=by
   cases r with
   |nil=>exact⟨_,_,rfl⟩
   |cons d r=>exact⟨_,_,rfl⟩
  obtain⟨p,q,LN⟩:=BO
  rw[LN,join_cons_cons,gF,gF,KA,zK]
theorem oR(x z:Str)(a b:Nat):(Txt.replace x ⟨#[a,b]⟩ z).cps.toList=rep2 a b z.cps.toList x.cps.toList:=by
 obtain⟨f,h1,h2⟩:=PySem.StrLaws.occ_tight x ⟨#[a,b]⟩ (by show 1≤2;decide)
 have h3:=oQ (z:=z) _ 0 f h1 h2
 rw[List.drop_zero] at h3
 unfold Txt.replace
 by_cases h:((Builtin.Str.occurrences x ⟨#[a,b]⟩ 0 x.length (x.length+1)).isEmpty || (⟨#[a,b]⟩:Str).length == 0 && z.length == 0)=true
 ·rw[if_pos h]
  have h:(Builtin.Str.occurrences x ⟨#[a,b]⟩ 0 x.length (x.length+1)).isEmpty=true:=by
   rw[show ((⟨#[a,b]⟩:Str).length == 0)=false from rfl,zE,Bool.or_false] at h;exact h
  rw[List.isEmpty_iff.mp h] at h3
  rw[← h3]
  show _=(z.join [Builtin.Str.strSub x 0 x.length]).cps.toList
  rw[join_one,KA,List.drop_zero,List.take_of_length_le (by rw[yc];exact zh _)]
 ·rw[if_neg h,PySem.StrLaws.glued_eq_join,PySem.StrLaws.partsBetween_eq]
  exact h3
def ni(v:Str):Str:=Txt.replace (Txt.replace v "=" "=e") " " "=b"
def xx(v:Str):Str:=Txt.replace (Txt.replace v "=b" " ") "=e" "="
theorem iA(v:Str):(ni v).cps.toList=bC 32 [61,98] (bC 61 [61,101] v.cps.toList):=by
 unfold ni
 rw[show (" " : Str)=⟨#[32]⟩ by trivial,rep1,show ("=" : Str)=⟨#[61]⟩ by trivial,rep1]
 rw[show ("=b" : Str).cps.toList=[61,98] by trivial,show ("=e" : Str).cps.toList=[61,101] by trivial]
theorem kH(v:Str):(xx v).cps.toList=rep2 61 101 [61] (rep2 61 98 [32] v.cps.toList):=by
 unfold xx
 rw[show ("=e" : Str)=⟨#[61,101]⟩ by trivial,oR,show ("=b" : Str)=⟨#[61,98]⟩ by trivial,oR]
 rw[show ("=" : Str).cps.toList=[61] by trivial,show (" " : Str).cps.toList=[32] by trivial]
theorem sO:∀l:List Nat,rep2 61 98 [32] (bC 32 [61,98] (bC 61 [61,101] l))=bC 61 [61,101] l
 |[]=>rfl
 |c::l=>by
  have ih:=sO l
  rw[bF 61]
  by_cases h:c=61
  ·subst h
   rw[if_pos rfl,dY,show bC 32 [61,98] [61,101]=[61,101] from rfl]
   show rep2 61 98 [32] (61::101::bC 32 [61,98] (bC 61 [61,101] l))=_
   rw[DX (by decide),sN (by decide),ih];rfl
  ·rw[if_neg h,dY]
   by_cases h2:c=32
   ·subst h2
    show rep2 61 98 [32] (61::98::bC 32 [61,98] (bC 61 [61,101] l))=_
    rw[kG,ih]
   ·rw[show bC 32 [61,98] [c]=[c] by rw[bF,if_neg h2];rfl]
    show rep2 61 98 [32] (c::bC 32 [61,98] (bC 61 [61,101] l))=_
    rw[sN h,ih];rfl
theorem sP:∀l:List Nat,rep2 61 101 [61] (bC 61 [61,101] l)=l
 |[]=>rfl
 |c::l=>by
  have ih:=sP l
  rw[bF]
  by_cases h:c=61
  ·subst h
   rw[if_pos rfl]
   show rep2 61 101 [61] (61::101::bC 61 [61,101] l)=_
   rw[kG,ih];rfl
  ·rw[if_neg h]
   show rep2 61 101 [61] (c::bC 61 [61,101] l)=_
   rw[sN h,ih]
theorem KC(v:Str):xx (ni v)=v:=oP (by rw[kH,iA,sO,sP])
def nj(n:Nat):List Nat:=(Nat.toDigits 10 n).map Char.toNat
theorem DY(h:d<10):d.digitChar.toNat=48+d:=by
 match d,h with
 |0,_=>rfl
 |1,_=>rfl
 |2,_=>rfl
 |3,_=>rfl
 |4,_=>rfl
 |5,_=>rfl
 |6,_=>rfl
 |7,_=>rfl
 |8,_=>rfl
 |9,_=>rfl
theorem eU(h:n<10):nj n=[48+n]:=by unfold nj;rw[Nat.toDigits_of_lt_base h];show [n.digitChar.toNat]=_;rw[DY h]
theorem AB(h:10≤n):nj n=nj (n / 10)++[48+n % 10]:=by
 unfold nj;rw[Nat.toDigits_of_base_le (by decide) h,zT]
 show _++[(n % 10).digitChar.toNat]=_
 rw[DY (Nat.mod_lt _ (by decide))]
theorem jU:∀n:Nat,NumText.AllDigits (nj n)∧nj n≠[]∧NumText.digitsVal (nj n)=n:=by
 intro n
 induction n using Nat.strongRecOn with
 |ind n ih =>
  by_cases h:n<10
  ·rw[eU h]
   refine⟨fun c hc=>?_,nofun,?_⟩
   ·rw[zz.mp hc];lia
   ·show 0 * 10+(48+n - 48)=n;lia
  ·obtain⟨h1,h2,h3⟩:=ih (n / 10) (by lia)
   rw[AB (by lia)]
   refine⟨fun c hc=>?_,by simp,?_⟩
   ·rcases zP.mp hc with hc|hc
    ·exact h1 c hc
    ·rw[zz.mp hc];lia
   ·rw[NumText.digitsVal_snoc,h3];lia
theorem sQ(hk:1≤k)(h:n<10 ^ k):(nj n).length≤k:=by
 unfold nj;rw[za];exact toDigits_len_pow (by decide) hk h
def eE(n:Int):Str:=Str.ofString (toString n)
theorem jz(s:String):(Str.ofString s).cps.toList=s.toList.map Char.toNat:=by
 rw[Str.ofString_eq_toList]
 try simp
theorem sR(n:Nat):(eE (n:Int)).cps.toList=nj n:=by
 unfold eE
 rw[jz]
 show (Nat.repr n).toList.map Char.toNat=_
 rw[Nat.repr_eq_ofList_toDigits,String.toList_ofList];rfl
theorem sS(n:Nat):(eE (-((n+1:Nat):Int))).cps.toList=45::nj (n+1):=by
 unfold eE
 rw[jz]
 show (("-" ++ Nat.repr (n+1)).toList.map Char.toNat)=_
 rw[String.toList_append,zT,Nat.repr_eq_ofList_toDigits]
 show 45::((String.ofList (Nat.toDigits 10 (n+1))).toList.map Char.toNat)=_
 rw[String.toList_ofList];rfl
theorem nU(n:Int):(∃m:Nat,n=m∧(eE n).cps.toList=nj m)∨∃m:Nat,n = -((m+1:Nat):Int)∧(eE n).cps.toList=45::nj (m+1):=by
 cases n with
 |ofNat m=>exact .inl ⟨m,rfl,sR m⟩
 |negSucc m=>exact .inr ⟨m,rfl,sS m⟩
theorem ak(z:Str):z.cps.size=z.cps.toList.length:=yc.symm
theorem iB(h:n.natAbs<10 ^ 60):(eE n).cps.size≤61:=by
 rw[ak]
 rcases nU n with ⟨m,rfl,e⟩|⟨m,rfl,e⟩
 ·rw[e];have:=sQ (k:=60) (by decide) (show m<10 ^ 60 from h);lia
 ·rw[e,zf]
  have:=sQ (k:=60) (by decide) (show m+1<10 ^ 60 from h)
  lia
theorem DZ(h:n.natAbs<10 ^ 60):intText? (eE n)=some n:=by
 have hs:=iB h
 have hl:(eE n).length≤4300:=zt hs (by decide)
 rcases nU n with ⟨m,rfl,e⟩|⟨m,rfl,e⟩
 ·obtain⟨h1,h2,h3⟩:=jU m
  rw[intText_digits (by rw[e];exact h1) (by rw[e];exact h2) hl,e,h3]
 ·obtain⟨h1,h2,h3⟩:=jU (m+1)
  rw[intText_neg e h1 h2 hl,h3]
theorem BP(n:Int):∀c∈(eE n).cps.toList,c=45∨(48≤c∧c≤57):=by
 rcases nU n with ⟨m,rfl,e⟩|⟨m,rfl,e⟩
 ·rw[e];exact fun c hc=>.inr ((jU m).1 c hc)
 ·rw[e]
  intro c hc
  rcases zb.mp hc with h|h
  ·exact .inl h
  ·exact .inr ((jU (m+1)).1 c h)
theorem sT{n:Int}(h:n.natAbs<10 ^ 60):n.natAbs.log2<1920:=by
 by_cases h0:n.natAbs=0
 ·rw[h0];decide
 ·rw[Nat.log2_lt h0]
  exact zr h (by trivial)
theorem Bt(h:1≤z.cps.size):(Txt.slice z (some 1) none).cps.toList=z.cps.toList.drop 1:=by
 rw[ak] at h
 have:=PySem.StrLaws.sliceText_from (x:=z) (i:=1) ⟨by decide,by lia⟩
 have e:Txt.slice z (some 1) none=PySem.StrLaws.sliceText z (some 1) none:=rfl
 rw[e,this]
 show List.take (((z.cps.toList.length:Nat):Int) - 1).toNat (List.drop 1 z.cps.toList)=_
 rw[List.take_of_length_le (by rw[yk];lia)]
theorem fA(z:Str)(c:Nat):Txt.startswith z ⟨#[c]⟩=decide (z.cps.toList.head?=some c):=by
 unfold Txt.startswith
 rw[PySem.StrLaws.subAt_eq]
 show (decide (0+1≤z.cps.size) && (List.take 1 (List.drop 0 z.cps.toList) == [c]))=_
 rw[ak,List.drop_zero]
 cases z.cps.toList with
 |nil=>rfl
 |cons a l =>
  rw[List.take_succ_cons,List.take_zero,List.head?_cons]
  by_cases h:a=c <;> simp [h]
theorem u9:∀{a b r r':List Nat},c∉a→c∉b→a++c::r=b++c::r'→a=b∧r=r'
 |[],[],r,r',_,_,h=>by cases h;exact⟨rfl,rfl⟩
 |[],y::b,r,r',_,hb,h=>by cases h;exact absurd zj hb
 |x::a,[],r,r',ha,_,h=>by cases h;exact absurd zj ha
 |x::a,y::b,r,r',ha,hb,h=>by
  injection h with h1 h2
  obtain⟨e1,e2⟩:=u9 (fun m=>ha (zl _ m)) (fun m=>hb (zl _ m)) h2
  exact⟨by rw[h1,e1],e2⟩
theorem sU:∀{a b r:List Nat},c∉b→a++c::r≠b
 |[],b,r,hb,h=>hb (by rw[← h];exact zj)
 |x::a,[],r,_,h=>by cases h
 |x::a,y::b,r,hb,h=>by
  injection h with _ h2
  exact sU (fun m=>hb (zl _ m)) h2
theorem u_:∀{ps qs:List Str},ps≠[]→qs≠[]→(∀p∈ps,c∉p.cps.toList)→(∀p∈qs,c∉p.cps.toList)→(⟨#[c]⟩:Str).join ps=(⟨#[c]⟩:Str).join qs→ps=qs
 |[],_,h,_,_,_,_=>absurd rfl h
 |_,[],_,h,_,_,_=>absurd rfl h
 |[p],[q],_,_,_,_,h=>by rw[join_one,join_one] at h;rw[h]
 |[p],q::q'::r,_,_,hp,_,h=>by
  rw[join_one,join_cons_cons] at h
  have h:=congrArg (fun s:Str=>s.cps.toList) h
  rw[gF,gF,zK] at h
  exact absurd h.symm (sU (hp p zj))
 |p::p'::r,[q],_,_,_,hq,h=>by
  rw[join_one,join_cons_cons] at h
  have h:=congrArg (fun s:Str=>s.cps.toList) h
  rw[gF,gF,zK] at h
  exact absurd h (sU (hq q zj))
 |p::p'::r,q::q'::r',_,_,hp,hq,h=>by
  rw[join_cons_cons,join_cons_cons] at h
  have h:=congrArg (fun s:Str=>s.cps.toList) h
  rw[gF,gF,gF,gF,zK,zK] at h
  obtain⟨e1,e2⟩:=u9 (hp p zj) (hq q zj) h
  rw[oP e1,u_ (c:=c) (ps:=p'::r) (qs:=q'::r') nofun nofun (fun x hx=>hp x (zl _ hx)) (fun x hx=>hq x (zl _ hx)) (oP e2)]
theorem xy(h:ws≠[])(hf:∀p∈ws,32∉p.cps.toList):Txt.split (Txt.join " " ws) " " = ws:=by
 have hb:(" " : Str)=⟨#[32]⟩:=by trivial
 have hj:Txt.join " " ws=(" " : Str).join ws:=by
  cases ws with
  |nil=>exact absurd rfl h
  |cons x r=>exact PySem.StrLaws.glued_cons " " r x
 rw[hj,hb]
 refine u_ (c:=32) ?_ h (fun p hp=>PySem.StrLaws.split_free _ 32 p hp) hf (PySem.StrLaws.join_split _ _)
 intro e
 have:=split_pos ((⟨#[32]⟩:Str).join ws) ⟨#[32]⟩
 rw[e] at this
 exact absurd this (by decide)
end L2
namespace HT
open PySem PySem.Spec PyProof.Rows
section
variable{prog:Program}{w:World}{A:Around}{E:Value→Shared→Prop}{s:Shared}
end
end HT
namespace L2
open PySem PySem.Spec PyProof.Rows
section
variable{K:Frag}{X:Cx}
def NZ:As:=fun x ds S R=>∃a es fs,x=.ref a∧ds=[.tup fs]∧S a=some (.lst es)∧es.length+fs.length≤sizeLine∧R .aC (S.set a (.lst (es++fs)))
theorem rJ:FA K "list.extend" NZ:=by
 rintro X hK pins s σ H x xs v us Q I rx rs ⟨d,ds,S,R,r1,r2,hS,⟨a,es,fs,e1,e2,e3,hl,h⟩,hR⟩
 subst e1 e2
 obtain⟨w0,rfl,q2⟩:=r2.one
 obtain⟨zs,e5,t⟩:=hS.lst e3
 obtain⟨p,ys,rfl,q,t2⟩:=q2.tup
 exact xm pins s σ H x _ v us Q I rx rs ⟨a,p,zs,ys,r1.ref,rfl,e5,q,by rw[t.len,t2.len];exact hl,hR.put hS e3 h lT (t.app t2)⟩
end
theorem canon:∀(n:Nat) (l:List Nat),l.length=n→NumText.AllDigits l→l≠[]→(nj (NumText.digitsVal l)=l↔(l=[48]∨l.head?≠some 48)):=by
 intro n
 induction n with
 |zero=>intro l hl _ h0;exact absurd (zQ hl) h0
 |succ n ih =>
  intro l hl hd h0
  obtain⟨l',c,rfl⟩:∃l' c,l=l'++[c]:=⟨l.dropLast,l.getLast h0,(List.dropLast_concat_getLast h0).symm⟩
  have hc:=hd c (zL _ (zz.mpr rfl))
  have Qf:NumText.AllDigits l':=fun x hx=>hd x (yf _ hx)
  rw[NumText.digitsVal_snoc]
  cases l' with
  |nil =>
   rw[show NumText.digitsVal [] * 10+(c - 48)=c - 48 by show 0 * 10+_=_;lia,eU (by lia),show 48+(c - 48)=c by lia]
   refine⟨fun _=>?_,fun _=>rfl⟩
   by_cases h:c=48
   ·rw[h];exact .inl rfl
   ·exact .inr fun e=>h (by injection e)
  |cons a r =>
   have LZ:(a::r).length=n:=by rw[zo] at hl;exact Nat.succ.inj hl
   have ih:=ih (a::r) LZ Qf nofun
   have BO:(a::r)++[c]≠[48]:=fun e=>by
    have:=congrArg List.length e
    rw[zo] at this
    exact absurd this (by simp)
   have hh:((a::r)++[c]).head?=some a:=rfl
   have ha:=hd a (yf _ zj)
   by_cases hz:NumText.digitsVal (a::r)=0
   ·rw[hz,show 0 * 10+(c - 48)=c - 48 by lia,eU (by lia)]
    rw[hz,eU (by decide)] at ih
    constructor
    ·intro e
     have:=congrArg List.length e
     rw[zo] at this
     exact absurd this (by simp)
    ·rintro (e|e)
     ·exact absurd e BO
     ·rw[hh] at e
      have h2:=ih.mpr (.inr fun q=>e q)
      injection h2 with h2 _
      exact absurd (by rw[← h2]) e
   ·rw[AB (by lia),show (NumText.digitsVal (a::r) * 10+(c - 48)) / 10=NumText.digitsVal (a::r) by lia,show 48+(NumText.digitsVal (a::r) * 10+(c - 48)) % 10=c by lia]
    constructor
    ·intro e
     have e1:=List.append_cancel_right e
     rcases ih.mp e1 with h|h
     ·rw[h] at hz;exact absurd rfl hz
     ·exact .inr h
    ·rintro (e|e)
     ·exact absurd e BO
     ·rw[ih.mpr (.inr e)]
def dZ(l:List Nat)(most:Nat):Bool:=decide (1≤l.length) && (decide (l.length≤most) && l.all (fun c=>decide (48≤c) && decide (c≤57)))
theorem je(h:dZ l most=true):1≤l.length∧l.length≤most∧NumText.AllDigits l∧l≠[]:=by
 unfold dZ at h
 simp only [zg,zi,zI] at h
 refine⟨h.1,h.2.1,fun c hc=>h.2.2 c hc,?_⟩
 intro e
 rw[e] at h
 exact absurd h.1 (by decide)
theorem rK(h:NumText.AllDigits l)(hl:l.length≤most):NumText.digitsVal l<10 ^ most:=by
 refine zr ?_ (Nat.pow_le_pow_right (by decide) hl)
 clear hl
 have:∀(n:Nat) (l:List Nat),l.length=n→NumText.AllDigits l→NumText.digitsVal l<10 ^ l.length:=by
  intro n
  induction n with
  |zero=>intro l hl _;rw[zQ hl];exact Nat.one_pos
  |succ n ih =>
   intro l hl hd
   have h0:l≠[]:=fun e=>by rw[e] at hl;cases hl
   obtain⟨l',c,rfl⟩:∃l' c,l=l'++[c]:=⟨l.dropLast,l.getLast h0,(List.dropLast_concat_getLast h0).symm⟩
   have hc:=hd c (zL _ (zz.mpr rfl))
   have:=ih l' (by rw[zo] at hl;exact Nat.succ.inj hl) fun x hx=>hd x (yf _ hx)
   rw[NumText.digitsVal_snoc,zo,show [c].length=1 from rfl,Nat.pow_succ]
   lia
 exact this _ l rfl h
theorem vc(hm:most≤60)(h:dZ z.cps.toList most=true):∃n:Int,intText? z=some n∧n.natAbs<10 ^ 60∧(decide (eE n=z)=(decide (z.cps.toList=[48]) || !decide (z.cps.toList.head?=some 48))):=by
 obtain⟨h1,h2,h3,h4⟩:=je h
 refine⟨(NumText.digitsVal z.cps.toList:Nat),intText_digits h3 h4 (by show z.cps.size≤4300;rw[ak];lia),?_,?_⟩
 ·exact zr (rK h3 h2) (Nat.pow_le_pow_right (by decide) hm)
 ·have hc:=canon _ _ rfl h3 h4
  have hn:eE ((NumText.digitsVal z.cps.toList:Nat):Int)=z↔nj (NumText.digitsVal z.cps.toList)=z.cps.toList:=by
   rw[← sR]
   exact⟨fun e=>by rw[e],fun e=>oP e⟩
  rw[yt]
  simp only [zi,ye,Bool.not_eq_true',decide_eq_false_iff_not]
  rw[hn,hc]
theorem rL(e:z.cps.toList=45::l)(hm:most≤60)(h:dZ l most=true):∃n:Int,intText? z=some n∧n.natAbs<10 ^ 60∧(decide (eE n=z)=(!decide (l=[48]) && (decide (l=[48]) || !decide (l.head?=some 48)))):=by
 obtain⟨h1,h2,h3,h4⟩:=je h
 have hsz:z.length≤4300:=by show z.cps.size≤4300;rw[ak,e,zf];lia
 have hb:=zr (rK h3 h2) (Nat.pow_le_pow_right (n:=10) (by decide) hm)
 have hc:=canon _ _ rfl h3 h4
 refine⟨-((NumText.digitsVal l:Nat):Int),intText_neg e h3 h4 hsz,by lia,?_⟩
 rw[yt]
 simp only [zi,ye,zg,Bool.not_eq_true',decide_eq_false_iff_not]
 rw[← hc]
 cases hv:NumText.digitsVal l with
 |zero =>
  constructor
  ·intro q
   have q:=congrArg (fun s:Str=>s.cps.toList) q
   have q:(eE _).cps.toList=z.cps.toList:=q
   rw[show -((0:Nat):Int)=((0:Nat):Int) from rfl,sR,e,eU (by decide)] at q
   injection q with q _
   exact absurd q (by decide)
  ·rintro⟨q1,q2⟩
   rw[eU (by decide)] at q2
   exact absurd q2.symm q1
 |succ k =>
  constructor
  ·intro q
   have q:=congrArg (fun s:Str=>s.cps.toList) q
   have q:(eE _).cps.toList=z.cps.toList:=q
   rw[sS,e] at q
   injection q with _ q
   refine⟨fun q1=>?_,q⟩
   rw[q1] at hv
   cases hv
  ·rintro⟨_,q2⟩
   refine oP ?_
   rw[sS,e,q2]
def BQ(l:List Nat):List Nat:=bC 32 [61,98] (bC 61 [61,101] l)
def GX(l:List Nat):List Nat:=rep2 61 101 [61] (rep2 61 98 [32] l)
theorem D0(l:List Nat):GX (BQ l)=l:=by unfold GX BQ;rw[sO,sP]
def D1(u:List Nat):Bool:=decide (BQ (GX u)=u) && (decide ((GX u).length≤40) && (GX u).all fun c=>decide (32≤c) && decide (c≤126))
section
variable{X:Cx}{N:List Str}{src:List (Option Nat)}{scope:Scope}{tg iter elt:Expr}{ifs:List Expr}{pos:Pos}{wi:TI}{g:TG}{tc:TT}{te:TE}
end
section
variable{K:Frag}{X:Cx}{E:XK}{pos:Pos}
structure Yq(K:Frag)(X:Cx)(E:XK)(e:Expr)(t:TD):Prop where
 of:∀(y:Ev X true),y.E=(fun _=>E)→cX y.cx E→PE y.cx e (T K y.E t)
structure Yr(K:Frag)(X:Cx)(E:XK)(es:List Expr)(t:qp):Prop where
 of:∀(y:Ev X true),y.E=(fun _=>E)→cX y.cx E→PA y.cx es (Ta K y.E t)
structure Ys(K:Frag)(X:Cx)(E:XK)(b:List Stmt)(t:nh):Prop where
 of:∀(y:Ev X true),y.E=(fun _=>E)→cX y.cx E→z_ y.cx b (Tl K y.E t)
variable{N:List Str}{src:List (Option Nat)}{scope:Scope}{tg iter elt:Expr}{ifs:List Expr}{ti:Aw}{g:TG}{gd:wI}{tc:oG}{te:TD}
end
section
variable{P:Program}{w:World}{K:Frag}{mg:Str→Option Value}{base:Heap}
end
section
variable{prog:Program}{w:World}{A:Around}{E:Value→Shared→Prop}{s:Shared}{n l0 l1:Nat}{i:Nat}{mL oB:Array Value}
end
section
variable{K:Frag}{X:Cx}
end
open PySem.Builtin PySem.Builtin.Str
structure M3(X:Cx)(o:Expr)(m:Str)(apos:Pos)(e f g:Expr)(aP:Pos):Prop where
 base:attributeBase o m X.env (eval o X.env)=eval o X.env
 HW:((backTo aP (starEach [e,f,g] X.env)).all (fun x=>!x.1) && (backToKw aP (keywordEach [] X.env)).all (fun x=>x.1.isSome)
  && decide (([e,f,g]:List Expr).length+([]:List Keyword).length+(if ([]:List Keyword).isEmpty then 0 else 1)<30))=true
 line:(apos.endLine == aP.line)=true
 trees:backTo aP (starEach [e,f,g] X.env)=[(false,eval e X.env),(false,eval f X.env),(false,eval g X.env)]
section
variable{X:Cx}{e o:Expr}{t:TE}
def V3(pre:Nat)(X:Cx)(es:List Expr)(t:TA):Prop :=
 ∀(pos:Pos) (pins:List (Addr×Obj)) (s:Shared) (σ:St) (H:Hp) (Q:List V→Hp→Prop),Inv X pins σ H s→pre≤s.toks→t σ H Q→wpAny (model X.prog X.w) X.A (spliced (backTo pos (starEach es X.env))) (AP X pins σ Q) X.xe s
end
section
variable{K:Frag}{X:Cx}{e o:Expr}
structure Yt(pre:Nat)(K:Frag)(X:Cx)(es:List Expr)(t:qp):Prop where
 of:∀{b:Bool} (y:Ev X b),V3 pre y.cx es (Ta K y.E t)
end
structure Gh(ij:Array Keyed)(g:Nat→Nat)(xs:Array Keyed):Prop where
 at_:∀k,k<ij.size→xs[k]?=ij[g k]?
 lt:∀k,k<ij.size→g k<ij.size
 inj:∀i j,i<ij.size→j<ij.size→g i=g j→i=j
def Log(κ:KeyKind)(ij:Array Keyed)(i j:Nat):Prop:=κ.klt (KK κ ij i) (KK κ ij j)∨(KK κ ij i=KK κ ij j∧i<j)
def V4(g:Nat→Nat)(m n:Nat):Prop:=∀k,m≤k→k<n→g k=k
section
variable{κ:KeyKind}{ij xs:Array Keyed}{g:Nat→Nat}
end
section
variable{prog:Program}{w:World}{A:Around}{E:Value→Shared→Prop}{s:Shared}{ij:Array Keyed}{κ:KeyKind}
structure Yu(κ:KeyKind)(ij:Array Keyed)(g:Nat→Nat)(x q:Nat):Prop where
 le:q+1≤x
 tl:V4 g (x - (q+1)) ij.size
 dn:∀i j,i<j→j<x→i<x - (q+1)→Log κ ij (g j) (g i)
 eq:∀i,x - (q+1)≤i→i<x→KK κ ij (g i)=KK κ ij (g (x - 1))
end
abbrev Sk(X:Cx)(qual:Str)(params:Arguments)(body:Expr)(scope:Scope)(pm cv N1:Value):Obj :=
 { cls:=.type "function",data:=.func (PySem.W.kla_fn "<lambda>" qual params body scope (clOf X.env.cells scope.names) pm cv N1) }
section
variable{X:Cx}{pins:List (Addr×Obj)}{σ:St}{H:Hp}{s:Shared}{N:List Str}{src:List (Option Nat)}{scope:Scope}{params:Arguments}{body:Expr}{qual p:Str}{pm cv N1 u:Value}{f:Addr}{A:Around}{v:V}{te:TE}{Q:VK}
end
structure Yv(κ:KeyKind)(b:Bool)(key:Nat→κ.α)(n:Nat)(g:Nat→Nat):Prop where
 lt:∀k,k<n→g k<n
 inj:∀i j,i<n→j<n→g i=g j→i=j
 ord:∀i j,i<j→j<n→(if b=true then κ.klt (key (g j)) (key (g i)) else κ.klt (key (g i)) (key (g j)))∨(key (g i)=key (g j)∧g i<g j)
section
variable{prog:Program}{w:World}{A:Around}{E:Value→Shared→Prop}{s:Shared}{a kS:Addr}{b:Bool}{us vs:List Value}{e e1:Nat}{P:PySem.Fin→Shared→Prop}{κ:KeyKind}
end
structure Yw(X:Cx)(pins:List (Addr×Obj))(b:Addr):Prop where
 loc:b≠X.env.locals
 fs:b∉X.fs
 cell:∀x c,X.env.cells.lookup x=some c→c≠b
 pin:∀p∈X.pn++pins,p.1≠b
 new:X.cV.heap.objs.size≤b
section
variable{X:Cx}{pins:List (Addr×Obj)}{σ:St}{H:Hp}{s:Shared}
end
structure Ub(κ:KeyKind)(us:List Value):Prop where
 all:∀u∈us,∃x,κ.keyOf u=some x
 kind:∀N2 N3 rest,us=N2::N3::rest→keyKind' (N2::N3::rest).toArray=pure oneType'
section
variable{X:Cx}{pins:List (Addr×Obj)}{σ:St}{H:Hp}{s:Shared}{A:Around}{E:Value→Shared→Prop}{xs:List V}{vs:List Value}{f:Addr}{b:Bool}{κ:KeyKind}{W:Nat→List V→Hp→Prop}
end
def Bm(mg:Str→Option Value)(base:Heap):Prop:=∃bm o,mg "__builtins__" = some (.ref bm)∧bm≠builtinsNs∧base.get? bm=some o∧o.cls=.type "module" ∧ o.dict=some builtinsNs∧o.data=.plain
structure Yx(K:Frag)(mg:Str→Option Value)(base:Heap)(c P:Addr):Prop where
 hd:codeHdIn K c P=true
 bm:Bm mg base
section
variable{X:Cx}{pins:List (Addr×Obj)}{σ:St}{H:Hp}{s:Shared}
structure Yy(X:Cx)(pins:List (Addr×Obj))(σ:St)(H H':Hp)(P:Addr)(q:Str)(params:Arguments)(body:Expr)(scope:Scope)(u:Value)(s':Shared)(f:Addr)(pm cv N1:Value):Prop where
 u:u=.ref f
 inv:Inv X (pins++[(f,Sk X q params body scope pm cv N1)]) σ H' s'
 code:∃c o vs t,cv=.ref c∧H' c=some (.lJ o (.own 0))∧o.data=.fields vs∧vs[1]?=some (.str q t)
 same:∀b,H' b=H b∨(b=P∧∃ps,H' b=some (.uC ps)∧Ia H' q ps)∨(H b=none∧∃o,H' b=some (.lJ o (.own 0)))
end
def Uc:D→D→Prop
 |.int a,.int b=>a<b
 |.str a,.str b=>a.cps.toList<b.cps.toList
 |_,_=>False
structure V5(b:Bool)(key:Nat→D)(n:Nat)(g:Nat→Nat):Prop where
 lt:∀k,k<n→g k<n
 inj:∀i j,i<n→j<n→g i=g j→i=j
 ord:∀i j,i<j→j<n→(if b=true then Uc (key (g j)) (key (g i)) else Uc (key (g i)) (key (g j)))∨(key (g i)=key (g j)∧g i<g j)
section
variable{K:Frag}{Y:Cx}{pins:List (Addr×Obj)}{τ:St}{H H2:Hp}{s:Shared}{N:List Str}{src:List (Option Nat)}{scope:Scope}{params:Arguments}{body:Expr}{q p:Str}{pm cv N1:Value}{f l:Addr}{te:TD}{b:Bool}{kw:List (Str×Value)}{k:Nat}
end
section
variable{K:Frag}{X:Cx}{N:List Str}{src:List (Option Nat)}{scope:Scope}{params:Arguments}{e body:Expr}{q p x:Str}{np pos lp kq Yz cp:Pos}{ci}{tl te:TD}{k:Nat}{c P:Addr}
end
section
variable{P:Program}{w:World}{K:Frag}{mg:Str→Option Value}{base:Heap}
end
structure vd(ts:List Addr)(H:Hp):Prop where
 all:∀b,H b=none∨(∃o xs,H b=some (.lJ o (.lst xs)))∨(b∈ts∧H b=some (.uC #[]))
 tab:∀b∈ts,H b=some (.uC #[])
theorem BR{P:Program}{w:World}{K:Frag}{mg mb:Str→Option Value}{CX:wW}{k:Nat}{fa a:Addr}{fd:FuncData}{x:Str}{sp:Sp}{s₁:Shared}{vs:List Value}{ns:List Int}{ts:List Addr}
  (KX:K.In s₁.heap) (Sl:s₁.heap.Ns mainGlobals mg) (hb:s₁.heap.Ns builtinsNs mb) (V6:∀x:Str,x ≠ "__name__" → mb x=bootBuiltins x) (Sm:s₁.heap.NoLimit) (V7:Bm mg s₁.heap) (hg:s₁.gens=#[])
  (hT:∀b∈ts,s₁.heap.get? b=some (tabObj #[])) (hC:∀b∈ts,isCodeTable s₁.heap b) (hN:∀b∈ts,K.lookup b=none)
  (ha:s₁.heap.get? a=some { cls:=.type "list",data:=.seq vs.toArray }) (hi:IntsAre vs ns) (hl:ns.length≤sizeLine) (hr:fZ k callerA)
  (F:∀base:Heap,Bm mg base→K.In base→base.Ns mainGlobals mg→cM P w K mg base CX k fa fd [x] sp) (N4:∀(s:Shared) (u:Value),BindsTo s fd ⟨[u],[]⟩ [(x,u)])
  (FX:∀H:Hp,vd ts H→jN K H a (ns.map V.int)→sp [.ref a] H (fun v _=>v=.bl true) fun _ _ _=>False)
  (Sn:∀H e s',CX [] H s₁ (fun _ _ _=>False) e s'→False) :
  codeAny (model P w) callerA (.call (.ref fa) ⟨[.ref a],[]⟩) (fun r s'=>r=.ok (.ret (.bool true))∧OldK s₁.heap s'.heap∧s'.os=s₁.os∧AllBare s'.gens) s₁:=by
 have rv:=rA hi
 have So:=hi.length
 have Im:a∉ts:=fun z=>by rw[hT a z] at ha;cases ha
 have core:∀H:Hp,vd ts H→jN K H a (ns.map V.int)→kc P w H s₁.heap→(∀b,H b≠none→b=a∨b∈ts)→(H a≠none→K.lookup a=none) →
   codeAny (model P w) callerA (.call (.ref fa) ⟨[.ref a],[]⟩) (fun r s'=>r=.ok (.ret (.bool true))∧OldK s₁.heap s'.heap∧s'.os=s₁.os∧AllBare s'.gens) s₁:=by
  intro H hO hS aQ hA hK
  have sV:∀{b:Addr}{o:Obj},s₁.heap.get? b=some o→H b=none→(qq s₁.heap H).get? b=some o:=fun e n=>CM e n
  have Mx:∀{b:Addr}{o:Obj}{es:Array DictEntry}{ep:Nat},s₁.heap.get? b=some o→o.data=.dict es ep→H b=none:=fun {b o es ep} e d=>by
   cases q:H b with
   |none=>rfl
   |some u =>
    rcases hA b (by rw[q];simp) with e'|e'
    ·subst e'
     rw[ha] at e;cases e
     have d':Data.seq vs.toArray _=Data.dict es ep:=d
     cases d'
    ·rw[hT b e'] at e;cases e;cases d
  have PN:∀{b:Addr}{m:Str→Option Value},s₁.heap.Ns b m→(qq s₁.heap H).Ns b m:=fun {b m} ⟨o,es,ep,e,d,r⟩=>⟨o,es,ep,sV e (Mx e d),d,r⟩
  have Ud:K.In (qq s₁.heap H):=fun b o e=>sV (KX b o e) (by
   cases q:H b with
   |none=>rfl
   |some u =>
    rcases hA b (by rw[q];simp) with e'|e'
    ·subst e'
     rw[hK (by rw[q];simp)] at e;cases e
    ·rw[hN b e'] at e;cases e)
  have hM:Mod K mg (qq s₁.heap H):=⟨Ud,PN Sl,⟨mb,PN hb,V6⟩,by obtain⟨mc,h1,h2⟩:=Sm;exact⟨mc,PN h1,h2⟩⟩
  have e0:C2 P w K mg (qq s₁.heap H) callerA [] s₁ H:=⟨rfl,hM,fun b o e=>FF e,Nat.le_of_eq (A4 _ _),trivial,fun b hb=>absurd (show b∈([]:List Addr) from hb) (by simp),aQ,.of_eq hg⟩
  have V8:Bm mg (qq s₁.heap H):=by
   obtain⟨bm,ob,b1,b2,b3,b4,b5,b6⟩:=V7
   refine⟨bm,ob,b1,b2,sV b3 ?_,b4,b5,b6⟩
   cases q:H bm with
   |none=>rfl
   |some u =>
    rcases hA bm (by rw[q];simp) with e'|e'
    ·rw[e',ha] at b3;cases b3;cases b6
    ·rw[hT bm e'] at b3;cases b3;cases b4
  refine codeAny_mono ((F _ V8 Ud (PN Sl)).run callerA [] s₁ H ⟨[.ref a],[]⟩ [.ref a] [.ref a] _ _ hr e0 (N4 s₁ (.ref a)) (.cons rfl .nil) (FX H hO hS)) fun r s' h=>?_
  cases r with
  |error e=>exact (Sn H e s' h).elim
  |ok fl =>
   cases fl with
   |next=>exact False.elim h
   |brk=>exact False.elim h
   |cont=>exact False.elim h
   |ret u =>
    obtain⟨v,H',os,bare,un,N5,r',q⟩:=h
    have q':v=.bl true:=q
    subst q'
    obtain rfl:u=Value.bool true:=r'
    refine⟨rfl,⟨fun b o e=>?_,fun b o e=>un.there b o e (by simp)⟩,os,bare⟩
    rcases hO.all b with z|⟨ob,xs,z⟩|⟨z1,z⟩
    ·exact .inl (un.keep b o e z (by intro z;exact absurd (show b∈([]:List Addr) from z) (by simp)) (by simp))
    ·have z2:=un.jK b ob _ z
     obtain⟨e1,_⟩:=aQ b _ z
     obtain⟨e2,_⟩:=N5 b _ z2
     rw[e] at e1;cases e1
     exact .inl e2
    ·obtain⟨more,z2⟩:=un.jL b _ z
     have e2:=hT b z1
     rw[e] at e2;cases e2
     exact .inr (.inl ⟨hC b z1,rfl,#[],more,rfl,by have:=N5 b _ z2;exact this⟩)
 have tabs:∀(H:Hp),(∀b,b∈ts→H b=some (.uC #[]))→∀b u,b∈ts→H b=some u→aV P w H s₁.heap b u:=fun H h b u hb e=>by
  rw[h b hb] at e;cases e;exact hT b hb
 cases hk:K.lookup a with
 |some o =>
  have e:=KX a o hk
  rw[ha] at e
  cases e
  refine core (fun b=>if b∈ts then some (.uC #[]) else none) ⟨fun b=>?_,fun b hb=>if_pos hb⟩ (.inr ⟨_,vs.toArray,_,hk,rfl,rfl,rfl,by rw[zw,So];exact hl,by simpa using rv⟩) (fun b u z=>?_) (fun b z=>?_) fun z=>absurd (if_neg Im) z
  ·by_cases hb:b∈ts
   ·exact .inr (.inr ⟨hb,if_pos hb⟩)
   ·exact .inl (if_neg hb)
  ·by_cases hb:b∈ts
   ·exact tabs _ (fun b hb=>if_pos hb) b u hb z
   ·have z':=(if_neg hb).symm.trans z;cases z'
  ·by_cases hb:b∈ts
   ·exact .inr hb
   ·exact absurd (if_neg hb) z
 |none =>
  refine core (fun b=>if b=a then some (.lJ { cls:=.type "list",data:=.seq vs.toArray } (.lst (ns.map V.int))) else if b∈ts then some (.uC #[]) else none) ⟨fun b=>?_,fun b hb=>?_⟩ (.inl (.inr ⟨{ cls:=.type "list",data:=.seq vs.toArray },if_pos rfl⟩)) (fun b u z=>?_) (fun b z=>?_) fun _=>hk
  ·by_cases hb:b=a
   ·exact .inr (.inl ⟨_,_,if_pos hb⟩)
   ·by_cases BS:b∈ts
    ·exact .inr (.inr ⟨BS,(if_neg hb).trans (if_pos BS)⟩)
    ·exact .inl ((if_neg hb).trans (if_neg BS))
  ·have:b≠a:=fun z=>Im (z ▸ hb)
   exact (if_neg this).trans (if_pos hb)
  ·by_cases hb:b=a
   ·have z':=(if_pos hb).symm.trans z
    cases z'
    subst hb
    exact⟨ha,by rw[za];exact hl,vs,_,rv,ha⟩
   ·have z':=(if_neg hb).symm.trans z
    by_cases BS:b∈ts
    ·have z2:=(if_pos BS).symm.trans z'
     cases z2
     exact hT b BS
    ·have z2:=(if_neg BS).symm.trans z'
     cases z2
  ·by_cases hb:b=a
   ·exact .inl hb
   ·by_cases BS:b∈ts
    ·exact .inr BS
    ·exact absurd ((if_neg hb).trans (if_neg BS)) z
theorem D2{l:PySem.W.OpenLaw}{n k:Nat}{q:Program}{loose:List Str}{XP:(Str→Option Value)→Heap→Prop}{YP:World→Heap→Prop}{d:DefRec}{K:Params→Frag}{CX:wW}{x:Str}{ts:List Addr}
  (hn:l.most=some n) (PQ:n≤sizeLine) (QY:d.params.defaults=[]) (hr:fZ k callerA)
  (hY:∀(w:World) (h:Heap),YP w h→(K w.params).In h) (hT:∀(w:World) (h:Heap),YP w h→∀b∈ts,h.get? b=some (tabObj #[])) (hN:∀(w:World) (h:Heap),YP w h→∀b∈ts,(K w.params).lookup b=none)
  (F:∀(w:World) (mg:Str→Option Value) (fa:Addr) (h:Heap),(K w.params).In h→h.Ns mainGlobals mg→mg d.name=some (.ref fa) →
   ∃(fd:FuncData) (sp:Sp),(∀b∈ts,∃c,codeHdIn (K w.params) c b=true)∧(∀(s:Shared) (u:Value),BindsTo s fd ⟨[u],[]⟩ [(x,u)]) ∧
    (∀base:Heap,Bm mg base→(K w.params).In base→base.Ns mainGlobals mg→cM l.prog w (K w.params) mg base CX k fa fd [x] sp) ∧
    ∀(H:Hp) (a:Addr) (ns:List Int),ns.length≤n→vd ts H→jN (K w.params) H a (ns.map V.int)→sp [.ref a] H (fun v _=>v=.bl true) fun _ _ _=>False)
  (Sn:∀(H:Hp) (s:Shared) (e:Value) (s':Shared),CX [] H s (fun _ _ _=>False) e s'→False) :
  PySem.W.WalkO q loose XP YP l.row.toRowW d [] (fun f vs=>PySem.call f vs):=by
 refine Att.uO hn QY fun w cV s₁ mg mb fa o pm cd doc a vs ns G Y ho hd Fy JS JT hints hlen hg=>?_
 have KX:=hY w _ Y
 obtain⟨fd,sp,hC,hb,hF,FX⟩:=F w mg fa _ KX G.T.g JS
 have Ue:=hT w _ Y
 exact BR KX G.T.g G.T.b G.T.builtins G.T.nolimit G.T.bmain hg Ue (fun b z=>by obtain⟨c,hc⟩:=hC b z;exact ((PySem.W.codeHd_of_K KX hc).tab (Ue b z)).isCodeTable) (hN w _ Y) JT hints (zt hlen PQ) hr hF hb (fun H hO hS=>FX H a ns hlen hO hS) fun H e s'=>Sn H s₁ e s'
namespace Rt
theorem GY:Slot "reversed" "__init__" "object.__init__" := .of (owner := "object") (n := "__init__") (by rw[typeLookup_type,builtinLookup_eq_fast];kernel_rfl) (by trivial) (by trivial) (by trivial) (by first|exact .inl (by trivial)|exact .inr (by trivial)) (by rw[isSubtype_type];kernel_rfl)
theorem called:TypeCalled "reversed" "reversed.__new__" "object.__init__" := ⟨by trivial,by trivial,⟨_,_,F.mro_reversed⟩,F.made_reversed,by trivial,by rw[isSubtype_type];kernel_rfl,GY⟩
end Rt
section
variable{prog:Program}{w:World}{A:Around}{E:Value→Shared→Prop}{s:Shared}
end
end L2
namespace L2
open PySem PySem.Spec PyProof.Rows
section
variable{K:Frag}{X:Cx}{tg:Expr}
end
section
variable{K:Frag}{X:Cx}{pos:Pos}
def KG(tc:oG)(tb:nh):nh:=fun De σ S Z=>∃P:Nat→SD→aK→Prop,(∃m,P m σ S)∧∀m σ S,P m σ S→tc σ S (fun b S1=>if b=true then tb { De with nx:=fun aA S'=>∃m',m'<m∧P m' aA S',ct:=fun aA S'=>∃m',m'<m∧P m' aA S',bk:=De.nx } σ S1 Z else De.nx σ S1) (Z σ)
theorem V9(hc:DT K X c tc)(hb:DH K X true body tb):DS K X true (.While c body [] pos) (KG tc tb) :=
 ⟨fun y=>(CU (X:=y.cx) (y.ok.loop rfl) (hc.of y) (hb.of y)).mono <| by rintro D τ H ⟨σ,S,De,Z,aw,hS,⟨P,⟨m,p0⟩,turn⟩,hD,hZ⟩;exact
  ⟨fun m LK H'=>∃σ S,g_ K H' σ LK∧Rs K S H'∧P m σ S∧Kp K H H',⟨m,σ,S,aw,hS,p0,.refl _⟩,by rintro m RX H1 ⟨uz,S1,a1,s1,p1,k1⟩;exact⟨uz,S1,_,Z uz,a1,s1,turn m uz S1 p1,fun b S2 H2 r2 s2 k2=>by
   cases b with
   |true =>
    rw[if_pos rfl] at r2 ⊢
    refine⟨fun Ug H3=>∃σ S,g_ K H3 σ Ug∧Rs K S H3∧(∃m',m'<m∧P m' σ S)∧Kp K H H3,by rintro Ug H3 ⟨fw,S3,a3,s3,⟨m',hm,p3⟩,k3⟩;exact⟨m',hm,fw,S3,a3,s3,p3,k3⟩,?_⟩
    have kk:=k1.trans k2
    exact⟨uz,S2,_,Z,a1.ts k2,s2,r2,⟨fun Kt S5 R9 H5 r5 a5 s5 k5=>⟨Kt,S5,a5,s5,r5,kk.trans k5⟩,hD.rt.kp kk,hD.nx.kp kk,fun Kt S5 R9 H5 r5 a5 s5 k5=>⟨Kt,S5,a5,s5,r5,kk.trans k5⟩⟩,hZ.kp kk⟩
   |false =>
    rw[if_neg zm] at r2 ⊢
    exact hD.nx _ _ _ _ r2 (a1.ts k2) s2 (k1.trans k2),(hZ.kp k1).at a1⟩⟩⟩
def Sq(i:Nat)(te:TD):nh:=fun De σ S Z=>∃a:Int,σ[i]?=some (some (.int a))∧te σ S (fun d S1=>∃b:Int,d=.int b∧De.nx (σ.set i (some (.int (a+b)))) S1) (Z σ)
theorem Uh(hN:X.N.Nodup)(he:DE K X e te)(hi:X.N[i]?=some x:=by rfl)(hx:Loc X.env.scope x:=by first|exact .inl rfl|exact .inr rfl)(hf:X.fn x=true∨X.env.scope.names.lookup x=some .local:=by first|exact .inl rfl|exact .inr rfl) :
  DS K X b (.AugAssign (.Name x pos') .Add e pos) (Sq i te) :=
 ⟨fun y=>(Jj (X:=y.cx) hN hi hx (he.of y) Jk hf).mono <| by
  rintro D τ H ⟨σ,S,De,Z,aw,hS,⟨a,ha,t⟩,hD,hZ⟩
  obtain⟨v,e1,r⟩:=aw.get ha
  exact⟨v,e1,σ,S,_,Z σ,aw,hS,t,by
   rintro d S1 u H1 ⟨c,e2,n⟩ rv s1 k1
   subst e2
   exact⟨a,c,r.int,rv.int,hD.nx _ _ _ _ n ((aw.ts k1).set i (aF _)) s1 k1⟩,hZ.at aw⟩⟩
end
section
variable{K:Frag}{X:Cx}
def vD:V→D
 |.int i=>.int i
 |.str z=>.str z
 |.bl b=>.bl b
 |_=>.aC
def D3:V→Bool
 |.int _=>true
 |.str _=>true
 |_=>false
def N6(kvs:List (Str×V))(ty:TD):TD:=fun σ S R Z=>ty σ S (fun y S1=>∃z,y=.str z∧R ((kvs.lookup z).elim .aC vD) S1) Z
theorem V_{w:World}{ad:Addr}{kvs:List (Str×V)}{o e:Expr}{apos aP:Pos}{ty:TD}(d:GH w K ad kvs)(hf:(kvs.all fun p=>D3 p.2)=true)(ho:∀Y:Cx,Y.env=X.env→Y.mg=X.mg→PE Y o (tC (.ref ad)))(he:DE K X e ty)(hw:X.w=w:=by rfl)(hK:X.K=K:=by rfl)(m:M1 X o "get" apos e aP:=by exact⟨rfl,rfl,rfl,rfl⟩) :
  DE K X (.Call (.Attribute o "get" apos) [e] [] aP) (N6 kvs ty) :=
 ⟨fun y=>(Ds (X:=y.cx) hw hK (ho y.cx rfl rfl) (he.of y) ⟨m.base,m.HW,m.line,m.trees⟩).mono <| by rintro τ H Q ⟨σ,S,R,Z,aw,hS,q,hR,hZ⟩;exact⟨ad,kvs,rfl,d,σ,S,_,Z,aw,hS,q,by
  rintro yv S1 v H1 ⟨z,e1,r⟩ rv s1 k1
  subst e1
  refine⟨z,rv.str,hR _ _ _ _ r ?_ s1 k1⟩
  have fl:∀v,kvs.lookup z=some v→D3 v=true:=fun v hv=>by
   have:=yo hv
   exact zI.mp hf _ this
  cases q:kvs.lookup z with
  |none=>exact lT
  |some v =>
   have:=fl v q
   cases v with
   |int i=>exact aF i
   |str i=>exact cY i
   |_=>(cases this),hZ⟩⟩
end
section
variable{X:Cx}
end
section
variable{K:Frag}
end
section
variable{X:Cx}
end
section
variable{K:Frag}
end
theorem gK(hm:X.mg x=some (.ref a))(hg:Gl X x:=by rfl)(hd:(x == ("__debug__" : Str))=false:=by decide):∀Y:Cx,Y.env=X.env→Y.mg=X.mg→PE Y (.Name x pos) (tC (.ref a)) :=
 fun Y e1 e2=>Ab (X:=Y) (u:=.ref a) (show Y.env.kindOf x=_ by rw[e1];exact hg) (by rw[e2];exact hm) rfl hd
structure Fb(K:Frag)(x q:Str)(st:Stmt)(ps:List Str)(f:Addr)(d:FuncData):Prop where
 F:xu K x q st f d
 b:Binds K d ps []
structure bT(K:Frag)(mg:Str→Option Value)(x:Str)(st:Stmt)(ps:List Str)(f:Addr)(d:FuncData):Prop extends Fb K x x st ps f d where
 k:keepIn K (.ref f)=true
 m:mg x=some (.ref f)
structure YA(K:Frag)(c:Addr)(x q:Str)(st:Stmt)(ps:List Str)(f:Addr)(d:FuncData):Prop extends Fb K x q st ps f d where
 e:Meth K c x f
abbrev Ok(P:Program)(w:World)(base:Heap){K:Frag}{mg:Str→Option Value}{x:Str}{st:Stmt}{ps:List Str}{f:Addr}{d:FuncData}(_:bT K mg x st ps f d)(k:Nat)(sp:jd):Prop:=cM P w K mg base (kz P w) k f d ps (xr K sp)
theorem cu{N P:List Str}{sc:Scope}(a:sc.kind=.function∧sc.isCoroutine=false∧sc.isGenerator=false∧N.take P.length=P:=by exact⟨rfl,rfl,rfl,rfl⟩)(b:N.Nodup∧(∀x∈P,sc.names.lookup x=some .local∨sc.names.lookup x=some .cell)∧∀y∈sc.names,y.2≠.free:=by trivial):ag N P sc:=⟨a.1,a.2.1,a.2.2.1,b.1,a.2.2.2,b.2.1,b.2.2⟩
section
variable{R:Prop}{K:Frag}{h:Heap}{mg:Str→Option Value}{od an:Option Addr}{sl:Array (Option Value)}{oc dV kV dc pm cd ct:Value}{f da:Addr}{YB:Option Addr}{dn:Nat}{YC:Array (Option Value)}{c:Addr}{tk:Tok}{d:FuncData}
theorem cz(X:K.In h)(G:h.Ns mainGlobals mg)(x:Str)(st:Stmt)(ps:List Str)(a:nsIn K mainGlobals x=some (some (.ref f)))(l:K.lookup f=some ⟨oc,od,.func (fnOf x x (ja st) (eM st) (ae st) dV kV dc pm an cd ct),sl⟩)
  (e:codeIn K cd x=true) (k:keepIn K (.ref f)=true) (b:∀us:List Value,us.length=ps.length→bindArgs (fnOf x x (ja st) (eM st) (ae st) dV kV dc pm an cd ct) ⟨us,[]⟩=pure (ps.zip us)) (g:∀d,bT K mg x st ps f d→R):R :=
 g _ ⟨⟨⟨_,_,_,_,_,_,_,_,_,_,rfl,l,e⟩,.all b⟩,k,mg_of X G a⟩
theorem Wa(X:K.In h)(G:h.Ns mainGlobals mg)(x:Str)(st:Stmt)(ps:List Str)(a:nsIn K mainGlobals x=some (some (.ref f)))(l:K.lookup f=some ⟨oc,od,.func (fnOf x x (ja st) (eM st) (ae st) dV kV dc pm an cd ct),sl⟩)
  (e:codeIn K cd x=true) (k:keepIn K (.ref f)=true) (b:∀us:List Value,us.length=ps.length→bindArgs (fnOf x x (ja st) (eM st) (ae st) dV kV dc pm an cd ct) ⟨us,[]⟩=pure (ps.zip us)) (g:∀d,d.code=cd→(∀(s:Shared) (us:List Value),us.length=ps.length→BindsTo s d ⟨us,[]⟩ (ps.zip us))→bT K mg x st ps f d→R):R :=
 g _ rfl (fun s us h=>.of_eq (b us h)) ⟨⟨⟨_,_,_,_,_,_,_,_,_,_,rfl,l,e⟩,.all b⟩,k,mg_of X G a⟩
theorem CI(X:K.In h)(G:h.Ns mainGlobals mg)(x:Str)(a:nsIn K mainGlobals x=some none)(g:mg x=none→R):R:=g (PySem.W.mg_none_of X G a)
theorem GZ(X:K.In h)(G:h.Ns mainGlobals mg)(x:Str)(i:Int)(a:nsIn K mainGlobals x=some (some (.int i tk)))(g:mg x=some (.int i tk)→R):R:=g (mg_of X G a)
theorem N7(X:K.In h)(G:h.Ns mainGlobals mg)(x:Str)(a:nsIn K mainGlobals x=some (some (.ref c)))(l:K.lookup c=some o)(g:mg x=some (.ref c)→K.lookup c=some o→R):R:=g (mg_of X G a) l
theorem N8(X:K.In h)(G:h.Ns mainGlobals mg)(x:Str)(a:nsIn K mainGlobals x=some (some (.ref c)))(e:excIn K c L2.sH "ValueError.__new__" = true)(g:mg x=some (.ref c)→excIn K c L2.sH "ValueError.__new__" = true→R):R:=g (mg_of X G a) e
end
section
variable{Q:List Value→Prop}
theorem Wb(h:Q [])(us:List Value)(e:us.length=0):Q us:=by cases us with
 |nil=>exact h
 |cons a us=>cases e
theorem G0(h:∀a us,us.length=n→Q (a::us))(us:List Value)(e:us.length=n+1):Q us:=by cases us with
 |nil=>cases e
 |cons a us=>exact h a us (Nat.succ.inj e)
theorem eZ(h:∀a,Q [a]):∀us:List Value,us.length=1→Q us:=G0 fun a=>Wb (h a)
theorem ln2(h:∀a b,Q [a,b]):∀us:List Value,us.length=2→Q us:=G0 fun a=>eZ (h a)
theorem Wc(h:∀a b c,Q [a,b,c]):∀us:List Value,us.length=3→Q us:=G0 fun a=>ln2 (h a)
theorem Ss(h:∀a b c d,Q [a,b,c,d]):∀us:List Value,us.length=4→Q us:=G0 fun a=>Wc (h a)
end
section
variable{R:Prop}{K:Frag}{h:Heap}{mg:Str→Option Value}{X Y:Str}{c d:Addr}
end
section
variable{K:Frag}{X:Cx}{x:Str}{st:Stmt}{ps:List Str}{f:Addr}{fd:FuncData}{sp:jd}{e:Expr}{es:List Expr}{p pos:Pos}
end
section
variable{P:Program}{w:World}{K:Frag}{mg:Str→Option Value}{base:Heap}{x qual:Str}{st:Stmt}{f:Addr}{fd:FuncData}{N ps:List Str}{k:Nat}{sp:jd}
theorem xu.jk(F:xu K x qual st f fd)(S:ag N ps (ae st))
  (oi:∀(cn:Value) (A:Around) (outer:List Env) (s:Shared) (H:Hp) (E:XK) (ds:List D) (S:aK) (R:KD) (Z:KX),fZ k (A.deeper (PyProof.Rows.envOfC qual (ae st) s.heap.objs.size f cn))→sp ds S R Z →
   ∃t,DH K (nc (kz P w) P w K mg base N qual (ae st) f cn A outer s H E) true (eM st) t∧t { nx:=fun _ S'=>Fo S' (R .aC),rt:=fun d S'=>Fo S' (R d) } (oK N ds) S fun _ C S'=>Fo S' (Z C))
  (len:∀ds S R Z,sp ds S R Z→ds.length=ps.length:=by intro _ _ _ _ h;repeat first|(obtain⟨e,_⟩:=h;rw[e];rfl;done)|obtain⟨_,h⟩:=h):cM P w K mg base (kz P w) (k+1) f fd ps (xr K sp):=F.ok S len oi
end
section
variable{prog:Program}{w:World}{A:Around}{E:Value→Shared→Prop}{s:Shared}{n l0 l1:Nat}{i:Nat}{mL oB:Array Value}
end
section
variable{K:Frag}{X:Cx}
end
section
variable{X:Cx}
def Su(K:Frag)(neg:Bool):R2:=fun x y H Q=>∃p xs d b,y=.ref p∧(jN K H p xs∨iq K H p xs)∧Dt K H d x∧d.canLay0=true ∧
 (∀y∈xs,∃e,Dt K H e y∧e.canLay0=true∧(e.depth≤62∨d.depth≤62)∧PyData.eqv e d=b)∧Q (.bl (if neg then !(b && !xs.isEmpty) else b && !xs.isEmpty)) H
theorem ve:∀{xs:List V}{us:List Value},Vals xs us→y∈us→∃x∈xs,RelV x y
 |_,_,.nil,h=>by cases h
 |x::xs,u::us,.cons r t,h=>by
  rcases zb.mp h with rfl|h
  ·exact⟨x,zj,r⟩
  ·obtain⟨z,h1,h2⟩:=ve t h
   exact⟨z,zl _ h1,h2⟩
theorem rM(b:Bool):∀l:List Value,l.any (fun _=>b)=(b && !l.isEmpty)
 |[]=>by simp
 |x::l=>by cases b <;> simp
theorem oS:∀{xs:List V}{us:List Value},Vals xs us→us.isEmpty=xs.isEmpty
 |_,_,.nil=>rfl
 |_,_,.cons _ _=>rfl
theorem D4(hu:X.A.units+64<cLine)(I:Inv X pins σ H s)(rx:RelV x v)(hd:Dt X.K H d x)(cd:d.canLay0=true)
  (h:∀y∈xs,∃e,Dt X.K H e y∧e.canLay0=true∧(e.depth≤62∨d.depth≤62)∧PyData.eqv e d=b) (r:Vals xs us):∀u∈us,SeqAt.EqAt X.A.in1 s u v b:=by
 intro u hm
 obtain⟨y,hy,ry⟩:=ve r hm
 obtain⟨e,he,ce,dp,q⟩:=h y hy
 obtain⟨as,ra⟩:=I.reads e he ry
 obtain⟨bs,rb⟩:=I.reads d hd rx
 rw[← q]
 exact SeqAt.eqAt_reads e d _ s u v as bs ra rb ce cd (by rw[Around.in1_units];rcases dp with dp|dp <;> lia)
theorem G1(hu:X.A.units+64<cLine):fO X (compareOp .In) (Su X.K false):=by
 intro pins s σ H x y v u Q I rx ry h
 obtain⟨p,xs,d,b,rfl,hq,hd,cd,hi,q⟩:=h
 cases ry
 rcases hq with hq|hq
 ·obtain⟨ao,r,pl,hz⟩:=I.list hq
  refine SeqAt.in_listAt (fun _=>b) pl.isList (fun w hw=>D4 hu I rx hd cd hi r w (by simpa using hw)) ⟨.bl _,H,I,rfl,?_⟩
  rw[show ao.toArray.any (fun _=>b)=ao.any (fun _=>b) by simp,rM,oS r]
  exact q
 ·obtain⟨ao,r,pl,hz⟩:=I.tuple hq
  refine SeqAt.in_tupleAt (fun _=>b) pl (fun w hw=>D4 hu I rx hd cd hi r w (by simpa using hw)) ⟨.bl _,H,I,rfl,?_⟩
  rw[show ao.toArray.any (fun _=>b)=ao.any (fun _=>b) by simp,rM,oS r]
  exact q
end
section
variable{K:Frag}
def Alike(S:aK)(x:D)(ds:List D)(b:Bool):Prop:=∃p,Dl S x p∧p.canLay0=true∧∀d∈ds,∃q,Dl S d q∧q.canLay0=true∧(q.depth≤62∨p.depth≤62)∧PyData.eqv q p=b
def Ui(neg:Bool):sJ:=fun x y S R=>inD neg x y S R∨∃ds b,(y=.tup ds∨y=.kt ds∨∃a,y=.ref a∧S a=some (.lst ds))∧Alike S x ds b∧R (.bl (if neg then !(b && !ds.isEmpty) else b && !ds.isEmpty)) S
theorem rN:∀{ds:List D}{xs:List V},RvAll K H ds xs→y∈xs→∃d∈ds,Rv K H d y
 |[],xs,h,hy=>by rw[h.nil] at hy;cases hy
 |d::ds,xs,h,hy=>by
  obtain⟨z,zs,rfl,h1,h2⟩:=h.cons
  rcases zb.mp hy with rfl|hy
  ·exact⟨d,zj,h1⟩
  ·obtain⟨e,h3,h4⟩:=rN h2 hy
   exact⟨e,zl _ h3,h4⟩
theorem iC:∀{ds:List D}{xs:List V},RvAll K H ds xs→xs.isEmpty=ds.isEmpty
 |[],xs,h=>by rw[h.nil];rfl
 |d::ds,xs,h=>by
  obtain⟨z,zs,rfl,h1,h2⟩:=h.cons
  rfl
theorem KH{H:Hp}{S:aK}{x:D}{v:V}{e:D}{u:V}{ds:List D}{b:Bool}(hS:Rs K S H)(r1:Rv K H x v)(r2:Rv K H e u)(h:e=.tup ds∨e=.kt ds∨∃a,e=.ref a∧S a=some (.lst ds))(al:Alike S x ds b) :
  ∃p xs d,u=.ref p∧(jN K H p xs∨iq K H p xs)∧Dt K H d v∧d.canLay0=true∧(∀y∈xs,∃e,Dt K H e y∧e.canLay0=true∧(e.depth≤62∨d.depth≤62)∧PyData.eqv e d=b)∧xs.isEmpty=ds.isEmpty:=by
 obtain⟨p,h1,h2,h3⟩:=al
 have it:∀{xs:List V},RvAll K H ds xs→∀y∈xs,∃e,Dt K H e y∧e.canLay0=true∧(e.depth≤62∨p.depth≤62)∧PyData.eqv e p=b:=fun t y hy=>by
  obtain⟨d,hd,rd⟩:=rN t hy
  obtain⟨q,q1,q2,q3,q4⟩:=h3 d hd
  exact⟨q,q1.dt hS rd,q2,q3,q4⟩
 rcases h with rfl|rfl|⟨a,rfl,ha⟩
 ·obtain⟨a,xs,rfl,q,t⟩:=r2.tup
  exact⟨a,xs,p,rfl,.inr (.of q),h1.dt hS r1,h2,it t,iC t⟩
 ·obtain⟨a,xs,rfl,q,t⟩:=r2.kt
  exact⟨a,xs,p,rfl,.inr (.inr q),h1.dt hS r1,h2,it t,iC t⟩
 ·cases r2.ref
  obtain⟨xs,e1,t⟩:=hS.lst ha
  exact⟨a,xs,p,rfl,.inl (.of e1),h1.dt hS r1,h2,it t,iC t⟩
theorem Io:nR K (compareOp .In) (Ui false):=by
 rintro X hK hu pins s σ H x y v u Q I rx ry ⟨d,e,S,R,r1,r2,hS,h,hR⟩
 rcases h with h|⟨ds,b,hy,al,h⟩
 ·exact qA X hK hu pins s σ H x y v u Q I rx ry ⟨d,e,S,R,r1,r2,hS,h,hR⟩
 subst hK
 obtain⟨p,xs,q,rfl,a1,a2,a3,a4,a5⟩:=KH hS r1 r2 hy al
 refine G1 hu pins s σ H _ _ v u Q I rx ry ⟨p,xs,q,b,rfl,a1,a2,a3,a4,?_⟩
 rw[a5];exact hR.now hS h (bH _)
end
end L2
namespace L2
open PySem PySem.Spec PyProof.Rows PySem.SeqAt
def isStrOf(z:Str):Value→Bool
 |.str y _=>y == z
 |_=>false
section
variable{K:Frag}
end
end L2
namespace L2
open PySem PySem.Spec PyProof.Rows
section
variable{X:Cx}{e:Expr}
end
section
variable{K:Frag}{X:Cx}{e:Expr}
end
section
variable{X:Cx}{a b:Expr}{ta tb:TE}
theorem LO{n:Nat}(h:n≤100000):n≤sizeLine:=by rw[yx];lia
def Wd(c:Str)(ta tb:TE):TE:=fun σ H Q=>ta σ H fun x H1=>∃u,x=.str u∧(u++c).length≤100000∧tb σ H1 fun y H2=>∃v,y=.str v∧((u++c)++v).length≤100000∧Q (.str ((u++c)++v)) H2
theorem rO{M:Model}{P:Program}{w:World}{A:Around}{E:Value→Shared→Prop}{s:Shared}{x:Str}{t:Tok}{Q:Value→Shared→Prop}(h:∀t' k,Q (.str x t') { s with toks:=k+s.toks })(hx:x.length≤sizeLine):wpAny (model P w) A (formatField (.str x t) Str.empty) Q E s:=by
 refine wpAny_formatField_str ?_ ?_ hx
 ·have:=h t 0
  rw[Nat.zero_add] at this
  exact this
 ·have:=h s.toks 1
  rw[Nat.add_comm] at this
  exact this
theorem N9{c:Str}{j:Nat}{p1 p2 p3 pos:Pos}(ha:PE X a ta)(hb:PE X b tb):PE X (.JoinedStr [.FormattedValue a (-1) none p1,.Constant (.str c) j p2,.FormattedValue b (-1) none p3] pos) (Wd c ta tb):=by
 intro pins s σ H Q I h
 refine wpAny_JoinedStr ?_
 refine wpAny_FormattedValue_plain (bt (ha pins s σ H _ I h) fun u s1 ⟨x,H1,I1,r1,z,e,hz,q⟩=>?_)
 subst e
 obtain⟨tk,rfl⟩:=r1
 have e0:Str.empty++z=z:=Str.empty_append z
 have YD:(z++c).length=z.length+c.length:=Str.length_append z c
 refine rO (M:=model X.prog X.w) (fun t' k=>⟨z,t',rfl,?_,?_⟩) (LO (by lia))
 ·rw[e0];exact LO (by lia)
 rw[e0]
 refine Calls.Constant_str ⟨c,_,rfl,LO (by lia),?_⟩
 refine wpAny_FormattedValue_plain (bt (hb pins _ σ H1 _ (I1.tok _) q) fun u2 s2 ⟨y,H2,I2,r2,v,e2,hv,q2⟩=>?_)
 subst e2
 obtain⟨YE,rfl⟩:=r2
 have YF:((z++c)++v).length=(z++c).length+v.length:=Str.length_append _ v
 refine rO (M:=model X.prog X.w) (fun t2 k2=>⟨v,t2,rfl,LO (by lia),LO (by lia),?_⟩) (LO (by lia))
 exact⟨.str _,H2,I2.tok _,⟨_,rfl⟩,q2⟩
end
section
variable{K:Frag}{X:Cx}{a b:Expr}
def We(c:Str)(ta tb:TD):TD:=fun σ S R Z=>ta σ S (fun x S1=>∃u,x=.str u∧(u++c).length≤100000∧tb σ S1 (fun y S2=>∃v,y=.str v∧((u++c)++v).length≤100000∧R (.str ((u++c)++v)) S2) Z) Z
theorem Wg(ha:DE K X a ta)(hb:DE K X b tb):DE K X (.JoinedStr [.FormattedValue a (-1) none p1,.Constant (.str c) j p2,.FormattedValue b (-1) none p3] pos) (We c ta tb) :=
 ⟨fun y=>(N9 (X:=y.cx) (ha.of y) (hb.of y)).mono <| by rintro τ H Q ⟨σ,S,R,Z,aw,hS,q,hR,hZ⟩;exact
  ⟨σ,S,_,Z,aw,hS,q,by
   rintro d S1 x H1 ⟨u,e1,h1,r1⟩ v1 s1 k1
   subst e1
   exact⟨u,v1.str,h1,σ,S1,_,Z,aw.ts k1,s1,r1,by rintro d2 S2 y2 H2 ⟨v,e2,h2,r2⟩ v2 s2 k2;exact (by subst e2;exact⟨v,v2.str,h2,(hR.kp (k1.trans k2)).now s2 r2 (cY _)⟩),hZ.kp k1⟩,hZ⟩⟩
end
section
variable{X:Cx}
theorem BU:fz X (.builtin "isinstance") (fun xs H Q=>∃x b,xs=[x,.ref b]∧H b=some (.tup [.ty "str",.ty "int"])∧((∃i,x=.int i)∨∃z,x=.str z)∧Q (.bl true) H):=by
 intro pins s σ H xs us Q I r h
 obtain⟨x,b,rfl,hb,hx,q⟩:=h
 obtain⟨v,w',rfl,rv,uL⟩:=vals2 r
 cases (show w'=Value.ref b from uL)
 obtain⟨z2,oj,r2,⟨c2,d2,Vy,C3⟩,e2,ec,ed,n2,en⟩:=(show aV X.prog X.w H s.heap b (.tup [.ty "str",.ty "int"]) from I.aQ b _ hb)
 dsimp only at ec ed en
 subst ec ed en
 obtain⟨u1,u2,rfl,t1,t2⟩:=vals2 r2
 cases (show u1=Value.type "str" from t1)
 cases (show u2=Value.type "int" from t2)
 rcases hx with ⟨i,rfl⟩|⟨z,rfl⟩
 ·obtain⟨Wh,rfl⟩:=rv
  exact kia_tup kitx_int I.sh trivial e2 rfl (fun z=>nomatch z) fun tk=>⟨.bl true,H,I.tok tk,rfl,q⟩
 ·obtain⟨Wh,rfl⟩:=rv
  exact kia_tup kitx_str I.sh trivial e2 rfl (fun z=>nomatch z) fun tk=>⟨.bl true,H,I.tok tk,rfl,q⟩
end
section
variable{K:Frag}
def N_:List D→aK→KD→Prop:=fun ds S R=>∃x,ds=[x,.tup [.ty "str",.ty "int"]]∧((∃i,x=.int i)∨∃z,x=.str z)∧R (.bl true) S
theorem D5:hG K (.builtin "isinstance") N_:=by
 rintro X hK hc pins s σ H xs us Q I rx ⟨ds,S,R,r,hS,⟨x,e,hx,h⟩,hR⟩
 subst hK e
 obtain⟨v,u,rfl,r1,r2⟩:=r.two
 obtain⟨p,zs,rfl,q,t⟩:=r2.tup
 obtain⟨a,b,rfl,t1,t2⟩:=t.two
 rw[t1.ty,t2.ty] at q
 refine BU pins s σ H _ us Q I rx ⟨v,p,rfl,q,?_,hR.now hS h (bH _)⟩
 rcases hx with ⟨i,rfl⟩|⟨z,rfl⟩
 ·exact .inl ⟨i,r1.int⟩
 ·exact .inr ⟨z,r1.str⟩
end
end L2
namespace My
open PySem L2
def top(i:Nat):Stmt:=PySem.Challenge.pw_pageturns_k61_texts_written.main.body.getD i (.Pass ⟨0,0,0,0⟩)
abbrev jV:Stmt:=top 12
abbrev iD:Stmt:=top 13
abbrev iE:Stmt:=top 14
abbrev jf:Stmt:=top 15
abbrev kI:Stmt:=top 16
abbrev jg:Stmt:=top 17
abbrev l3:Stmt:=top 18
abbrev jW:Stmt:=top 19
abbrev cK:Stmt:=top 22
abbrev iF:Stmt:=top 23
abbrev gG:Stmt:=top 24
abbrev gH:Stmt:=top 25
abbrev iG:Stmt:=top 26
abbrev eN:Stmt:=top 27
abbrev oT:Stmt:=top 32
abbrev oU:Stmt:=top 33
abbrev cC:Stmt:=top 34
abbrev l4:Stmt:=top 35
abbrev gI:Stmt:=top 38
abbrev fP:Stmt:=top 39
abbrev bW:Stmt:=top 40
abbrev eF:Stmt:=top 41
abbrev eG:Stmt:=top 42
abbrev bX:Stmt:=top 43
abbrev dS:Stmt:=top 49
abbrev fB:Stmt:=top 50
abbrev dF:Stmt:=top 51
abbrev fQ:Stmt:=top 52
abbrev eH:Stmt:=top 53
abbrev gJ:Stmt:=top 56
abbrev gL:Stmt:=top 57
abbrev cZ:Stmt:=top 58
abbrev gM:Stmt:=top 59
abbrev dU:Stmt:=top 60
abbrev jX:Stmt:=top 61
abbrev gN:Stmt:=top 62
abbrev gO:Stmt:=top 63
abbrev e_:Stmt:=top 64
abbrev kJ:Stmt:=top 65
abbrev jY:Stmt:=top 66
abbrev eO:Stmt:=top 67
abbrev jZ:Stmt:=top 68
abbrev j4:Stmt:=top 69
abbrev fC:Stmt:=top 70
abbrev eP:Stmt:=top 71
abbrev j5:Stmt:=top 72
abbrev fR:Stmt:=top 73
abbrev eI:Stmt:=top 74
abbrev oV:Stmt:=top 76
abbrev oW:Stmt:=top 77
abbrev iH:Stmt:=top 78
abbrev j6:Stmt:=top 79
abbrev kK:Stmt:=top 80
abbrev l5:Stmt:=top 81
abbrev sX:Stmt:=top 82
abbrev kL:Stmt:=top 83
abbrev l6:Stmt:=top 84
abbrev l7:Stmt:=top 85
abbrev fb:Stmt:=top 87
abbrev c_:Stmt:=top 88
abbrev de:Stmt:=top 89
abbrev eQ:Stmt:=top 90
abbrev bY:Stmt:=top 91
abbrev f9:Stmt:=top 92
abbrev iI:Stmt:=top 93
abbrev oX:Stmt:=top 94
abbrev vf:Stmt:=top 95
set_option genInjectivity false in
set_option genSizeOfSpec false in
structure KI where
 (xA vg vh BV D6 BW BX xB nk vi xC sY vj sZ D7 D8 qB BY s9 qC l8 nq nr l9 qD vk l_ qE nv xD s_ oY tf qF xE tj tm oZ D9 xF tq xG xH vm tu xI qG ny D_ Ea vn xJ Eb BZ G3 Ec B0 B1 o_ pb pd tD ma B2 vp Ed Ip tE df iJ iK rP eR pf gP gQ aY:Addr)
 (xK vq vt B3 Ee B4 B5 xM nz vw xN tG vz tH Ef Eg qH B6 tI qI me nA nB mf qJ vA mh qK nC xO tJ ph tK qL xP tL tM pj Eh xQ tN xR xS vB tO xT qM nD Ei Ej vC xU Ek B7 G4 El B8 B9 pk px pA tP mi B_ vE Em Eo:FuncData)
 (kM mj kN pB jl ik vF jm kO:Tok)
structure Txt(w:World)(K:Frag)(mg:Str→Option Value)(t:KI):Prop where
 iL:bT K mg "is_whole" jV ["thing"] t.xA t.xK
 bG:bT K mg "is_letter" iD ["sign"] t.vg t.vq
 cR:bT K mg "is_figure" iE ["sign"] t.vh t.vt
 fE:bT K mg "is_name" jf ["thing"] t.BV t.B3
 iM:bT K mg "is_key" kI ["thing"] t.D6 t.Ee
 fF:bT K mg "is_word" jg ["thing"] t.BW t.B4
 kP:bT K mg "is_kind" l3 ["thing"] t.BX t.B5
 d_:bT K mg "is_value" jW ["kind","thing"] t.xB t.xM
 cD:bT K mg "check_columns" cK ["columns"] t.nk t.nz
 f_:bT K mg "is_column" iF ["thing"] t.vi t.vw
 iN:bT K mg "names_of" gG ["columns"] t.xC t.xN
 bO:bT K mg "kind_named" gH ["columns","name"] t.sY t.tG
 gb:bT K mg "check_row" iG ["columns","row"] t.vj t.vz
 fc:bT K mg "are_worths" eN ["columns","thing"] t.sZ t.tH
 iO:bT K mg "is_way" oT ["thing"] t.D7 t.Ef
 pC:bT K mg "is_end" oU ["thing"] t.D8 t.Eg
 ee:bT K mg "check_order" cC ["columns","order"] t.qB t.qH
 kQ:bT K mg "is_part" l4 ["columns","thing"] t.BY t.B6
 bc:bT K mg "value_text" gI ["value"] t.s9 t.tI
 el:bT K mg "order_words" fP ["order"] t.qC t.qI
 bP:bT K mg "order_in_words" bW ["words"] t.l8 t.me
 cE:bT K mg "is_value_text" eF ["text"] t.nq t.nA
 aJ:bT K mg "value_of_text" eG ["text"] t.nr t.nB
 bQ:bT K mg "is_number_text" bX ["text","most"] t.l9 t.mf
 er:bT K mg "check_sieve" dS ["columns","sieve"] t.qD t.qJ
 gf:bT K mg "is_formed" fB ["columns","thing"] t.vk t.vA
 aS:bT K mg "is_short_tuple" dF ["thing"] t.l_ t.mh
 eu:bT K mg "fits_column" fQ ["columns","sieve"] t.qE t.qK
 cF:bT K mg "sieves_within" eH ["sieves"] t.nv t.nC
 eA:bT K mg "show_row" gJ ["row"] t.xD t.xO
 fe:bT K mg "show_order" gL ["order"] t.s_ t.tJ
 dh:bT K mg "show_columns" cZ ["columns"] t.oY t.ph
 az:bT K mg "show_sieve" gM ["sieve"] t.tf t.tK
 cS:bT K mg "inner_texts" dU ["sieve"] t.qF t.qL
 iP:bT K mg "read_row" jX ["columns","text"] t.xE t.xP
 fg:bT K mg "read_order" gN ["columns","text"] t.tj t.tL
 fh:bT K mg "read_sieve" gO ["columns","text"] t.tm t.tM
 dj:bT K mg "read_columns" e_ ["text"] t.oZ t.pj
 pE:bT K mg "row_in" kJ ["text"] t.D9 t.Eh
 iQ:bT K mg "order_in" jY ["text"] t.xF t.xQ
 fi:bT K mg "columns_in" eO ["text"] t.tq t.tN
 iR:bT K mg "sieve_in" jZ ["text"] t.xG t.xR
 iS:bT K mg "sieve_of" j4 ["things"] t.xH t.xS
 cT:bT K mg "are_words" fC ["things"] t.vm t.vB
 bR:bT K mg "are_sieves" eP ["things"] t.tu t.tO
 words_of:bT K mg "words_of" j5 ["text"] t.xI t.xT
 aT:bT K mg "check_names" fR ["words"] t.qG t.qM
 a_:bT K mg "value_in_word" eI ["word"] t.ny t.nD
 iT:bT K mg "_law_well" oV ["_law_script","_law_k"] t.D_ t.Ei
 af:bT K mg "_law_draw" oW ["_law_well_here","_law_most"] t.Ea t.Ej
 gj:bT K mg "_law_columns" iH ["_law_well_here"] t.vn t.vC
 iU:bT K mg "_law_number" j6 ["_law_well_here"] t.xJ t.xU
 pF:bT K mg "_law_word" kK ["_law_well_here"] t.Eb t.Ek
 fG:bT K mg "_law_value" l5 ["_law_well_here","_law_kind"] t.BZ t.B7
 mO:bT K mg "_law_key" sX ["_law_well_here"] t.G3 t.G4
 pG:bT K mg "_law_leaf" kL ["_law_well_here","_law_columns_here"] t.Ec t.El
 bZ:bT K mg "_law_sieve" l6 ["_law_well_here","_law_columns_here","_law_deep","_law_room"] t.B0 t.B8
 kR:bT K mg "_law_order" l7 ["_law_well_here","_law_columns_here"] t.B1 t.B9
 bq:bT K mg "_law_value_text" fb ["_law_value_here"] t.o_ t.pk
 ar:bT K mg "_law_sieve_text" c_ ["_law_sieve_here"] t.pb t.px
 br:bT K mg "_law_order_text" de ["_law_order_here"] t.pd t.pA
 bS:bT K mg "_law_row_text" eQ ["_law_row"] t.tD t.tP
 aU:bT K mg "_law_columns_text" bY ["_law_columns_here"] t.ma t.mi
 aO:bT K mg "_law_plain" f9 ["_law_thing"] t.B2 t.B_
 gk:bT K mg "_law_written" iI ["_law_columns_here","_law_row","_law_order_here","_law_sieve_here"] t.vp t.vE
 iV:bT K mg "_law_read" oX ["_law_columns_here","_law_row","_law_order_here","_law_sieve_here"] t.Ed t.Em
 Sv:bT K mg "law" vf ["_law_script"] t.Ip t.Eo
 j7:mg "MOST_NAME_SIGNS" = some (.int 8 t.kM)
 kT:mg "MOST_KEY_SIGNS" = some (.int 12 t.mj)
 j8:mg "MOST_WORD_SIGNS" = some (.int 40 t.kN)
 nE:mg "MOST_COLUMNS" = some (.int 8 t.pB)
 iW:mg "MOST_PARTS_orders" = some (.int 8 t.jl)
 gR:mg "MOST_NUMBER_FIGURES" = some (.int 60 t.ik)
 tQ:mg "MOST_DEEP" = some (.int 8 t.vF)
 iX:mg "MOST_PARTS_sieves" = some (.int 200 t.jm)
 j9:mg "MOST_IN_A_TUPLE" = some (.int 8 t.kO)
 Ep:mg "KINDS" = some (.ref t.tE)
 Er:∀H,Rv K H (.kt [.str "number",.str "word"]) (.ref t.tE)
 hU:mg "COLUMN_WORDS" = some (.ref t.df)
 hX:∀H,Rv K H (.kt [.str "is",.str "below",.str "above",.str "begins"]) (.ref t.df)
 tR:mg "OTHER_WAY" = some (.ref t.iJ)
 vG:GH w K t.iJ [("up",.str "down"),("down",.str "up")]
 tT:mg "OTHER_END" = some (.ref t.iK)
 vH:GH w K t.iK [("first",.str "last"),("last",.str "first")]
 xV:mg "LENGTHS" = some (.ref t.rP)
 Ca:GH w K t.rP [("every",.int 1),("is",.int 3),("below",.int 3),("above",.int 3),("begins",.int 3),("key",.int 2),("not",.int 2),("and",.int 2),("or",.int 2)]
 aR:mg "len" = none
 gm:mg "all" = none
 aj:mg "isinstance" = none
 fH:mg "range" = none
 rQ:mg "int" = none
 eJ:mg "str" = none
 xW:mg "bool" = none
 aL:mg "tuple" = none
 xX:mg "list" = none
 KJ:mg "dict" = none
 Iq:mg "set" = none
 Oa:mg "zip" = none
 fS:mg "BadColumns" = some (.ref t.eR)
 dk:excIn K t.eR L2.sH "ValueError.__new__" = true
 ml:mg "BadRow" = some (.ref t.pf)
 iY:excIn K t.pf L2.sH "ValueError.__new__" = true
 eB:mg "BadOrder" = some (.ref t.gP)
 cN:excIn K t.gP L2.sH "ValueError.__new__" = true
 mP:mg "BadSieve" = some (.ref t.gQ)
 gT:excIn K t.gQ L2.sH "ValueError.__new__" = true
 dG:mg "NoText" = some (.ref t.aY)
 dm:excIn K t.aY L2.sH "ValueError.__new__" = true
 bl:∀(s:Shared) (u:Value),BindsTo s t.Eo ⟨[u],[]⟩ [("_law_script",u)]
theorem vI:ag ["thing"] ["thing"] (ae jV):=cu
theorem tU:ag ["sign"] ["sign"] (ae iD):=cu
theorem tV:ag ["sign"] ["sign"] (ae iE):=cu
theorem xY:ag ["thing"] ["thing"] (ae jf):=cu
theorem Cb:ag ["thing"] ["thing"] (ae kI):=cu
theorem xZ:ag ["thing"] ["thing"] (ae jg):=cu
theorem x5:ag ["thing"] ["thing"] (ae l3):=cu
theorem vJ:ag ["kind","thing"] ["kind","thing"] (ae jW):=cu
theorem mm:ag ["columns"] ["columns"] (ae cK):=cu
theorem tW:ag ["thing"] ["thing"] (ae iF):=cu
theorem vK:ag ["columns"] ["columns"] (ae gG):=cu
theorem qN:ag ["columns","name"] ["columns","name"] (ae gH):=cu
theorem tX:ag ["columns","row"] ["columns","row"] (ae iG):=cu
theorem qO:ag ["columns","thing"] ["columns","thing"] (ae eN):=cu
theorem Cc:ag ["thing"] ["thing"] (ae oT):=cu
theorem Cd:ag ["thing"] ["thing"] (ae oU):=cu
theorem fj:ag ["columns","order","parts","names"] ["columns","order"] (ae cC):=cu
theorem x6:ag ["columns","thing"] ["columns","thing"] (ae l4):=cu
theorem qP:ag ["value"] ["value"] (ae gI):=cu
theorem fk:ag ["order","words","part"] ["order"] (ae fP):=cu
theorem fI:ag ["words","parts"] ["words"] (ae bW):=cu
theorem mn:ag ["text"] ["text"] (ae eF):=cu
theorem mq:ag ["text"] ["text"] (ae eG):=cu
theorem fJ:ag ["text","most","figures"] ["text","most"] (ae bX):=cu
theorem bf:ag ["columns","sieve","level","deep","parts"] ["columns","sieve"] (ae dS):=cu
theorem tY:ag ["columns","thing"] ["columns","thing"] (ae fB):=cu
theorem kU:ag ["thing"] ["thing"] (ae dF):=cu
theorem iZ:ag ["columns","sieve","kind"] ["columns","sieve"] (ae fQ):=cu
theorem dH:ag ["sieves","found","sieve"] ["sieves"] (ae eH):=cu
theorem vL:ag ["row"] ["row"] (ae gJ):=cu
theorem qQ:ag ["order"] ["order"] (ae gL):=cu
theorem nF:ag ["columns"] ["columns"] (ae cZ):=cu
theorem jA:ag ["sieve"] ["sieve"] (ae gM):=cu
theorem pH:ag ["sieve"] ["sieve"] (ae dU):=cu
theorem mQ:ag ["columns","text","row"] ["columns","text"] (ae jX):=cu
theorem jB:ag ["columns","text","order"] ["columns","text"] (ae gN):=cu
theorem jC:ag ["columns","text","sieve"] ["columns","text"] (ae gO):=cu
theorem h_:ag ["text","columns"] ["text"] (ae e_):=cu
theorem rR:ag ["text","words"] ["text"] (ae kJ):=cu
theorem mR:ag ["text","words"] ["text"] (ae jY):=cu
theorem jD:ag ["text","words"] ["text"] (ae eO):=cu
theorem fK:ag ["text","unclosed","word","sieve"] ["text"] (ae jZ):=cu
theorem i4:ag ["things","word","inner"] ["things"] (ae j4):=cu
theorem tZ:ag ["things"] ["things"] (ae fC):=cu
theorem qR:ag ["things"] ["things"] (ae eP):=cu
theorem vM:ag ["text"] ["text"] (ae j5):=cu
theorem pI:ag ["words"] ["words"] (ae fR):=cu
theorem mr:ag ["word"] ["word"] (ae eI):=cu
theorem mw:ag ["_law_script","_law_k","_law_cell"] ["_law_script","_law_k"] (ae oV):=cu
theorem jh:ag ["_law_well_here","_law_most","_law_number_here"] ["_law_well_here","_law_most"] (ae oW):=cu
theorem dq:ag ["_law_well_here","_law_names","_law_found","_law_k","_law_name"] ["_law_well_here"] (ae iH):=cu
theorem mS:ag ["_law_well_here","_law_way"] ["_law_well_here"] (ae j6):=cu
theorem mx:ag ["_law_well_here","_law_way","_law_signs"] ["_law_well_here"] (ae kK):=cu
theorem x8:ag ["_law_well_here","_law_kind"] ["_law_well_here","_law_kind"] (ae l5):=cu
theorem vN:ag ["_law_well_here","_law_some"] ["_law_well_here"] (ae sX):=cu
theorem gp:ag ["_law_well_here","_law_columns_here","_law_way","_law_name","_law_kind","_law_value_here"] ["_law_well_here","_law_columns_here"] (ae kL):=cu
theorem fm:ag ["_law_well_here","_law_columns_here","_law_deep","_law_room","_law_way","_law_inner","_law_k"] ["_law_well_here","_law_columns_here","_law_deep","_law_room"] (ae l6):=cu
theorem dI:ag ["_law_well_here","_law_columns_here","_law_left","_law_parts","_law_k","_law_name","_law_kind"] ["_law_well_here","_law_columns_here"] (ae l7):=cu
theorem nG:ag ["_law_value_here"] ["_law_value_here"] (ae fb):=cu
theorem bh:ag ["_law_sieve_here","_law_words"] ["_law_sieve_here"] (ae c_):=cu
theorem nH:ag ["_law_order_here"] ["_law_order_here"] (ae de):=cu
theorem qS:ag ["_law_row"] ["_law_row"] (ae eQ):=cu
theorem kW:ag ["_law_columns_here"] ["_law_columns_here"] (ae bY):=cu
theorem pJ:ag ["_law_thing"] ["_law_thing"] (ae f9):=cu
theorem t4:ag ["_law_columns_here","_law_row","_law_order_here","_law_sieve_here"] ["_law_columns_here","_law_row","_law_order_here","_law_sieve_here"] (ae iI):=cu
theorem gq:ag ["_law_columns_here","_law_row","_law_order_here","_law_sieve_here","_law_found"] ["_law_columns_here","_law_row","_law_order_here","_law_sieve_here"] (ae oX):=cu
theorem dJ:ag ["_law_script","_law_well_here","_law_columns_here","_law_rows","_law_sieves","_law_k","_law_row","_law_order_here","_law_sieve_here","_law_some","_law_one","_law_text"] ["_law_script"] (ae vf):=cu
theorem dM(h:n≤100000):n<sizeLine:=by rw[yx];lia
theorem sm(h:n≤100000):n≤sizeLine:=Nat.le_of_lt (dM h)
abbrev Uj(P:Program)(w:World)(K:Frag)(mg:Str→Option Value)(base:Heap)(k:Nat)(f:Addr)(fd:FuncData)(ps:List Str)(sp:jd):Prop:=cM P w K mg base (kz P w) k f fd ps (xr K sp)
def Gt(S:aK)(d:D):Prop:=(∃k,GQ S d k)∧∀z,d=.str z→z.cps.size≤100000
def isLet(c:Nat):Bool:=decide (97≤c) && decide (c≤122)
def gu(c:Nat):Bool:=decide (48≤c) && decide (c≤57)
def mT(c:Nat):Bool:=decide (32≤c) && decide (c≤126)
def bI(z:Str):Bool:=decide (1≤z.cps.size) && decide (z.cps.size≤8) && z.cps.toList.all isLet
def fq(z:Str):Bool:=decide (1≤z.cps.size) && decide (z.cps.size≤12) && (z.cps.toList.head?.any isLet) && z.cps.toList.all fun c=>isLet c || gu c
def dy(z:Str):Bool:=decide (z.cps.size≤40) && z.cps.toList.all mT
def ofStr(f:Str→Bool):D→Bool
 |.str z=>f z
 |_=>false
def pK:D→Bool
 |.int _=>true
 |_=>false
def i5(kind:Str)(d:D):Bool:=eD d || if kind = "number" then pK d else ofStr dy d
def x9(f:D→Bool):jd:=fun ds S R _=>∃d,ds=[d]∧Gt S d∧R (.bl (f d)) S
def Es(f:Nat→Bool):jd:=fun ds S R _=>∃c,ds=[.str ⟨#[c]⟩]∧R (.bl (f c)) S
theorem mU:∀{xs ys:List D}{a b:D},Paired rel xs ys→rel a b→Paired rel (xs++[a]) (ys++[b])
 |_,_,_,_,.nil,r=>.cons r .nil
 |_,_,_,_,.cons q t,r=>.cons q (mU t r)
theorem take_snoc{α:Type}{l:List α}{i:Nat}{d:α}(h:l[i]?=some d):l.take (i+1)=l.take i++[d]:=by
 rw[List.take_add_one,h];rfl
theorem i6{I:Av}{S1:aK}{g:wI}{te:TD}{σ:SD}{src:List (Option Nat)}{R:KD}(rel:D→D→Prop)(aQ:I.ok S1)(hz:I.xs.length≤100000)
  (step:∀d,d∈I.xs→∀Q:KD,(∀v,rel d v→Q v S1)→g d (oJ σ src) S1 fun fw S3=>te fw S3 Q Zf) (fin:∀out,Paired rel I.xs out→∀p,S1 p=none→R (.ref p) (S1.set p (.lst out))) :
  u6 σ src g kE te R I S1:=by
 refine⟨fun i out S=>S=S1∧Paired rel (I.xs.take i) out,⟨rfl,.nil⟩,fun i out S h=>by rw[h.1];exact aQ,?_,?_⟩
 ·rintro i d out S hd ⟨rfl,hp⟩
  have hlen:=Paired.length hp
  rw[yj] at hlen
  refine⟨dM (by lia),?_⟩
  have e:(fun (fw:SD) (S3:aK)=>kE fw S3 (fun b S4=>if b=true then te fw S4 (fun v S5=>S5=S∧Paired rel (I.xs.take (i+1)) (out++[v])) Zf else S4=S∧Paired rel (I.xs.take (i+1)) out) Zf)=fun fw S3=>te fw S3 (fun v S5=>S5=S∧Paired rel (I.xs.take (i+1)) (out++[v])) Zf:=by
   funext fw S3
   simp [kE]
  rw[e]
  exact step d (zN hd) _ fun v hv=>⟨rfl,by rw[take_snoc hd];exact mU hp hv⟩
 ·rintro out S2 ⟨rfl,hp⟩
  rw[yu] at hp
  exact fin out hp
theorem pL:∀{xs out:List D},Paired (fun d v=>v=f d) xs out→out=xs.map f
 |_,_,.nil=>rfl
 |_,_,.cons r t=>by rw[r,pL t];rfl
theorem comp_map(f:D→D)(aQ:I.ok S1)(hz:I.xs.length≤100000)
  (step:∀d,d∈I.xs→∀Q:KD,Q (f d) S1→g d (oJ σ src) S1 fun fw S3=>te fw S3 Q Zf) (fin:∀p,S1 p=none→R (.ref p) (S1.set p (.lst (I.xs.map f)))) :
  u6 σ src g kE te R I S1 :=
 i6 (fun d v=>v=f d) aQ hz (fun d hd Q h=>step d hd Q (h _ rfl)) fun out hp p PR=>by rw[pL hp];exact fin p PR
theorem Cf{I:Av}{S1:aK}{g:wI}{tc:oG}{te:TD}{σ:SD}{src:List (Option Nat)}{R:KD}(keep:D→Bool)(f:D→D)(aQ:I.ok S1)(hz:I.xs.length≤100000)
  (step:∀d,d∈I.xs→∀(Q:KD) (Q':aK→Prop),(keep d=true→Q (f d) S1)→(keep d=false→Q' S1)→g d (oJ σ src) S1 fun fw S3=>tc fw S3 (fun b S4=>if b=true then te fw S4 Q Zf else Q' S4) Zf)
  (fin:∀p,S1 p=none→R (.ref p) (S1.set p (.lst ((I.xs.filter keep).map f)))) :
  u6 σ src g tc te R I S1:=by
 refine⟨fun i out S=>S=S1∧out=((I.xs.take i).filter keep).map f,⟨rfl,rfl⟩,fun i out S h=>by rw[h.1];exact aQ,?_,?_⟩
 ·rintro i d out S hd ⟨rfl,rfl⟩
  have hlen:((I.xs.take i).filter keep).length≤(I.xs.take i).length:=List.length_filter_le _ _
  rw[yj] at hlen
  refine⟨by rw[za];exact dM (by lia),?_⟩
  refine step d (zN hd) _ (fun S4=>S4=S∧_=_) (fun hk=>⟨rfl,?_⟩) fun hk=>⟨rfl,?_⟩
  ·rw[take_snoc hd,List.filter_append,zT,List.filter_cons,if_pos hk];rfl
  ·rw[take_snoc hd,List.filter_append,List.filter_cons,if_neg (by rw[hk];exact zm)];simp
 ·rintro out S2 ⟨rfl,rfl⟩
  rw[yu]
  exact fin
theorem rS{I:Av}{S1:aK}{g:wI}{te:TD}{σ:SD}{src:List (Option Nat)}{R:KD}(f:D→D)(aQ:∀S',Sub S1 S'→I.ok S')(hz:I.xs.length≤100000)
  (step:∀d,d∈I.xs→∀S',Sub S1 S'→∀Q:KD,(∀S2,Sub S' S2→Q (f d) S2)→g d (oJ σ src) S' fun fw S3=>te fw S3 Q Zf) (fin:∀S2,Sub S1 S2→∀p,S2 p=none→R (.ref p) (S2.set p (.lst (I.xs.map f)))) :
  u6 σ src g kE te R I S1:=by
 refine⟨fun i out S=>Sub S1 S∧out=(I.xs.take i).map f,⟨.refl _,rfl⟩,fun i out S h=>aQ S h.1,?_,?_⟩
 ·rintro i d out S hd ⟨hs,rfl⟩
  refine⟨dM (by rw[za,yj];lia),?_⟩
  have e:(fun (fw:SD) (S3:aK)=>kE fw S3 (fun b S4=>if b=true then te fw S4 (fun v S5=>Sub S1 S5∧(I.xs.take i).map f++[v]=(I.xs.take (i+1)).map f) Zf else Sub S1 S4∧(I.xs.take i).map f=(I.xs.take (i+1)).map f) Zf)=fun fw S3=>te fw S3 (fun v S5=>Sub S1 S5∧(I.xs.take i).map f++[v]=(I.xs.take (i+1)).map f) Zf:=by
   funext fw S3
   simp [kE]
  rw[e]
  exact step d (zN hd) S hs _ fun S2 h2=>⟨hs.trans h2,by rw[take_snoc hd,zT];rfl⟩
 ·rintro out S2 ⟨hs,rfl⟩
  rw[yu]
  exact fin S2 hs
variable{P:Program}{w:World}{K:Frag}{mg:Str→Option Value}{base:Heap}{t:KI}
theorem vO(T:Txt w K mg t):Ok P w base T.iL 1 (x9 pK):=by
 refine T.iL.F.ok vI (by rintro ds S R Z ⟨d,e,_⟩;exact by rw[e];rfl) (fun cn A outer s H E ds S R Z hr ⟨d,e,⟨⟨k,hk⟩,hz⟩,q⟩=>?_)
 subst e
 refine⟨_,(s1 (sr (kA (cb bx T.aj ah (ac (dv 0) (ac (jw T.rQ lQ) an))) (wH (Ki (cb bx T.aj ah (ac (dv 0) (ac (jw T.xW sD) an)))))))),?_⟩
 refine⟨_,rfl,_,_,_,_,rfl,Gs,hk,_,rfl,?_⟩
 have:(xc k=true∧((pK d=true∧sF k=false)∨(pK d=false∧sF k=true)))∨(xc k=false∧pK d=false):=by
  cases d with
  |aC=>cases hk;exact .inr ⟨rfl,rfl⟩
  |bl b=>cases hk;exact .inl ⟨rfl,.inr ⟨rfl,rfl⟩⟩
  |int b=>cases hk;exact .inl ⟨rfl,.inl ⟨rfl,rfl⟩⟩
  |str b=>cases hk;exact .inr ⟨rfl,rfl⟩
  |tup b=>cases hk;exact .inr ⟨rfl,rfl⟩
  |ref a=>rcases hk with ⟨rfl,_⟩|⟨rfl,_⟩ <;> exact .inr ⟨rfl,rfl⟩
  |_=>exact hk.elim
 rcases this with ⟨h1,h2⟩|⟨h1,h2⟩
 ·rw[h1]
  refine aZ ⟨_,rfl,_,_,_,_,rfl,iy,hk,_,rfl,?_⟩
  rcases h2 with ⟨h2,h3⟩|⟨h2,h3⟩ <;> (rw[h3];rw[h2] at q;exact fo q)
 ·rw[h1]
  rw[h2] at q
  exact ay (fo q)
theorem gU(T:Txt w K mg t):Ok P w base T.bG 1 (Es isLet):=by
 refine T.bG.F.ok tU (by rintro ds S R Z ⟨d,e,_⟩;exact by rw[e];rfl) (fun cn A outer s H E ds S R Z hr ⟨c,e,q⟩=>?_)
 subst e
 refine⟨_,(s1 (sr (cc lU lU hr.units ds (dv 0) ds))),?_⟩
 refine⟨_,rfl,_,rfl,?_⟩
 have e1:CG "a" ⟨#[c]⟩=decide (97≤c):=jb 97 c
 have e2:CG ⟨#[c]⟩ "z" = decide (c≤122):=jb c 122
 unfold isLet at q
 refine bz (fun h=>?_) (fun h=>?_)
 ·rw[e1.symm.trans h,zA,← e2] at q
  exact fo q
 ·rw[e1.symm.trans h,zE] at q
  exact fo q
theorem kX(T:Txt w K mg t):Ok P w base T.cR 1 (Es gu):=by
 refine T.cR.F.ok tV (by rintro ds S R Z ⟨d,e,_⟩;exact by rw[e];rfl) (fun cn A outer s H E ds S R Z hr ⟨c,e,q⟩=>?_)
 subst e
 refine⟨_,(s1 (sr (cc lU lU hr.units ds (dv 0) ds))),?_⟩
 refine⟨_,rfl,_,rfl,?_⟩
 have e1:CG "0" ⟨#[c]⟩=decide (48≤c):=jb 48 c
 have e2:CG ⟨#[c]⟩ "9" = decide (c≤57):=jb c 57
 unfold gu at q
 refine bz (fun h=>?_) (fun h=>?_)
 ·rw[e1.symm.trans h,zA,← e2] at q
  exact fo q
 ·rw[e1.symm.trans h,zE] at q
  exact fo q
theorem my(h:d∈bK z):∃c,c∈z.cps.toList∧d=.str ⟨#[c]⟩:=by
 unfold bK at h
 obtain⟨c,hc,e⟩:=zq.mp h
 exact⟨c,hc,e.symm⟩
def jE(f:Nat→Bool):D→D
 |.str z=>.bl (z.cps.toList.head?.any f)
 |_=>.aC
theorem mz:(bK z).map (jE f)=(z.cps.toList.map f).map D.bl:=by
 unfold bK
 rw[zC,zC]
 rfl
theorem all_map{α:Type}{l:List α}{f:α→Bool} : (l.map f).all id=l.all f:=by
 rw[List.all_map];rfl
theorem mB{z:Str}{f:Nat→Bool}{g:wI}{te:TD}{σ:SD}{src:List (Option Nat)}{S:aK}{R:KD}{Z:KX}{i:Nat}(hv:σ[i]?=some (some (.str z)))(hz:z.cps.size≤100000)
  (step:∀c,c∈z.cps.toList→∀Q:KD,Q (.bl (f c)) S→g (.str ⟨#[c]⟩) (oJ σ src) S fun fw S3=>te fw S3 Q Zf) (q:R (.bl (z.cps.toList.all f)) S) :
  PD Nz (Ib (Ax (Il (Nk i)) src g kE te) Nl) σ S (fun d S'=>Fo S' (R d)) Z:=by
 refine⟨_,hv,z,rfl,?_⟩
 refine My.comp_map (I:=⟨bK z,fun _=>True⟩) (jE f) trivial (by show (bK z).length≤100000;unfold bK;rw[za,yc];exact hz) (fun d hd Q hQ=>?_) fun p hp=>?_
 ·obtain⟨c,hc,rfl⟩:=my hd
  exact step c hc Q (by simpa [jE] using hQ)
 ·refine⟨.ref p,z.cps.toList.map f,rfl,?_,S,.new hp,?_⟩
  ·show (S.set p (.lst ((bK z).map (jE f)))) p=_
   rw[aa,mz]
  ·rw[all_map];exact q
theorem mC{S:aK}{d:D}{k:Kd}(hk:GQ S d k):(∃z,d=.str z∧sG k=true)∨(sG k=false∧∀f,ofStr f d=false):=by
 cases d with
 |str b=>cases hk;exact .inl ⟨b,rfl,rfl⟩
 |aC=>cases hk;exact .inr ⟨rfl,fun _=>rfl⟩
 |bl b=>cases hk;exact .inr ⟨rfl,fun _=>rfl⟩
 |int b=>cases hk;exact .inr ⟨rfl,fun _=>rfl⟩
 |tup b=>cases hk;exact .inr ⟨rfl,fun _=>rfl⟩
 |ref a=>rcases hk with ⟨rfl,_⟩|⟨rfl,_⟩ <;> exact .inr ⟨rfl,fun _=>rfl⟩
 |_=>exact hk.elim
theorem pM(hk:GQ S d k):(∃ds,d=.tup ds∧kx k=true)∨(kx k=false∧∀ds,d≠.tup ds):=by
 cases d with
 |tup b=>cases hk;exact .inl ⟨b,rfl,rfl⟩
 |aC=>cases hk;exact .inr ⟨rfl,fun _=>nofun⟩
 |bl b=>cases hk;exact .inr ⟨rfl,fun _=>nofun⟩
 |int b=>cases hk;exact .inr ⟨rfl,fun _=>nofun⟩
 |str b=>cases hk;exact .inr ⟨rfl,fun _=>nofun⟩
 |ref a=>rcases hk with ⟨rfl,_⟩|⟨rfl,_⟩ <;> exact .inr ⟨rfl,fun _=>nofun⟩
 |_=>exact hk.elim
theorem pN(T:Txt w K mg t):Ok P w base T.fE 2 (x9 (ofStr bI)):=by
 refine T.fE.F.jk xY ?_
 rintro _ _ _ _ _ _ ds S R Z hr ⟨d,e,⟨⟨k,hk⟩,hz⟩,q⟩
 subst e
 refine⟨_,(sc (si (twd (twor (bV (tv (cb bx T.aj ah (ac (dv 0) (ac (jw T.eJ cq) an))))) (tw1 (bV (Ry lU lU hr.units di (cb aW T.aR aE (ac (dv 0) an)) (dg (v:=.int 8) T.j7 ⟨_,rfl⟩ fun _=>aF _)))))) (s1 (sr db)) s0) (s1 (sr (cb f6 T.gm dD (ac (lW (N:=["sign"]) (src:=[none]) (kr (ae jf) ["thing"] rfl rfl (by trivial)) (GU (dv 0)) (nT (show (["sign"]:List Str).Nodup by trivial)) (aM rfl) aN (fun _ _ _ _ _=>lH) (fun _ _ _ _ _=>(cf ((gU T).mono (by decide)) hr T.bG.m T.bG.k T.bG.b d0 (ac (dv 0) an)))) an))))),?_⟩
 refine⟨_,rfl,_,_,_,_,rfl,bU,hk,_,rfl,?_⟩
 rcases mC hk with ⟨z,rfl,h0⟩|⟨h0,h1⟩
 ·have hz:=hz z rfl
  rw[h0]
  refine ay ?_
  refine⟨_,rfl,_,rfl,⟨sm hz,?_⟩⟩
  refine⟨_,rfl,?_⟩
  have e1:decide ((1:Int)≤(z.length:Nat))=decide (1≤z.cps.size):=by rw[zM];show (1:Int)≤((z.cps.size:Nat):Int)↔_;omega
  have e2:decide (((z.length:Nat):Int)≤8)=decide (z.cps.size≤8):=by rw[zM];show ((z.cps.size:Nat):Int)≤8↔_;omega
  unfold ofStr bI at q
  dsimp only at q
  refine bz (fun h2=>?_) (fun h2=>?_)
  ·rw[e1.symm.trans h2,zA] at q
   refine⟨_,rfl,?_⟩
   refine bz (fun h3=>?_) (fun h3=>?_)
   ·rw[e2.symm.trans (nt h3),zE] at q
    exact fo q
   ·rw[e2.symm.trans (nf h3),zA] at q
    exact mB rfl hz (fun c hc Q hQ=>⟨_,rfl,c,rfl,hQ⟩) q
  ·rw[e1.symm.trans h2,zE,zE] at q
   refine⟨_,rfl,?_⟩
   exact aZ (fo q)
 ·rw[h0]
  rw[h1] at q
  exact aZ (aZ (fo q))
def aq(c:Str×Str):D:=.tup [.str c.1,.str c.2]
def Gd(cs:List (Str×Str)):Prop:=cs.length≤8∧(cs.map Prod.fst).Nodup∧∀c∈cs,bI c.1=true∧(c.2 = "number" ∨ c.2 = "word")
def kY(cs:List (Str×Str)):D→Bool
 |.tup ws=>decide (ws.length=cs.length) && (List.zipWith (fun c v=>i5 c.2 v) cs ws).all id
 |_=>false
def Et(cs:List (Str×Str))(k v:D):Bool:=ofStr fq k && kY cs v
def Ob(S:aK)(d:D):Prop:=Gt S d∧∀ws,d=.tup ws→ws.length≤100000∧∀v∈ws,Gt S v
theorem rT(T:Txt w K mg t):Ok P w base T.iM 2 (x9 (ofStr fq)):=by
 refine T.iM.F.ok Cb (by rintro ds S R Z ⟨d,e,_⟩;exact by rw[e];rfl) (fun cn A outer s H E ds S R Z hr ⟨d,e,⟨⟨k,hk⟩,hz⟩,q⟩=>?_)
 subst e
 refine⟨_,(sc (si (twd (twor (bV (tv (cb bx T.aj ah (ac (dv 0) (ac (jw T.eJ cq) an))))) (tw1 (bV (Ry lU lU hr.units di (cb aW T.aR aE (ac (dv 0) an)) (dg (v:=.int 12) T.kT ⟨_,rfl⟩ fun _=>aF _)))))) (s1 (sr db)) s0) (sc (si (bV (tv (cf ((gU T).mono (by decide)) hr T.bG.m T.bG.k T.bG.b d0 (ac (ix hr.units (dv 0) di) an)))) (s1 (sr db)) s0) (s1 (sr (cb f6 T.gm dD (ac (lW (N:=["sign"]) (src:=[none]) (kr (ae kI) ["thing"] rfl rfl (by trivial)) (GU (dv 0)) (nT (show (["sign"]:List Str).Nodup by trivial)) (aM rfl) aN (fun _ _ _ _ _=>lH) (fun _ _ _ _ _=>(RA (cf ((gU T).mono (by decide)) hr T.bG.m T.bG.k T.bG.b d0 (ac (dv 0) an)) (wH (cf ((kX T).mono (by decide)) hr T.cR.m T.cR.k T.cR.b d0 (ac (dv 0) an)))))) an)))))),?_⟩
 refine⟨_,rfl,_,_,_,_,rfl,bU,hk,_,rfl,?_⟩
 rcases mC hk with ⟨z,rfl,h0⟩|⟨h0,h1⟩
 ·have hz:=hz z rfl
  rw[h0]
  refine ay ?_
  refine⟨_,rfl,_,rfl,⟨sm hz,?_⟩⟩
  refine⟨_,rfl,?_⟩
  have e1:decide ((1:Int)≤(z.length:Nat))=decide (1≤z.cps.size):=by rw[zM];show (1:Int)≤((z.cps.size:Nat):Int)↔_;omega
  have e2:decide (((z.length:Nat):Int)≤12)=decide (z.cps.size≤12):=by rw[zM];show ((z.cps.size:Nat):Int)≤12↔_;omega
  unfold ofStr fq at q
  dsimp only at q
  refine bz (fun h2=>?_) (fun h2=>?_)
  ·have Gx:=e1.symm.trans h2
   rw[Gx,zA] at q
   refine⟨_,rfl,?_⟩
   refine bz (fun h3=>?_) (fun h3=>?_)
   ·rw[e2.symm.trans (nt h3),zE,zE] at q
    exact fo q
   ·rw[e2.symm.trans (nf h3),zA] at q
    obtain⟨c,r,ec⟩:=len_pos (z:=z) (zu Gx)
    have eh:z.cps.toList.head?.any isLet=isLet c:=by rw[ec];rfl
    rw[eh] at q
    refine⟨_,rfl,c,sm hz,Vf ec,c,rfl,_,rfl,?_⟩
    refine bz (fun h4=>?_) (fun h4=>?_)
    ·rw[nt h4,zE] at q
     exact fo q
    ·rw[nf h4,zA] at q
     refine mB (f:=fun c=>isLet c || gu c) rfl hz (fun c hc Q hQ=>?_) q
     refine⟨_,rfl,c,rfl,_,rfl,?_⟩
     refine bz (fun h5=>?_) (fun h5=>?_)
     ·rw[h5,Bool.true_or] at hQ
      exact hQ
     ·rw[h5,Bool.false_or] at hQ
      exact⟨_,rfl,c,rfl,hQ⟩
  ·rw[e1.symm.trans h2,zE,zE,zE] at q
   refine⟨_,rfl,?_⟩
   exact aZ (fo q)
 ·rw[h0]
  rw[h1] at q
  exact aZ (aZ (fo q))
theorem pO(T:Txt w K mg t):Ok P w base T.fF 2 (x9 (ofStr dy)):=by
 refine T.fF.F.ok xZ (by rintro ds S R Z ⟨d,e,_⟩;exact by rw[e];rfl) (fun cn A outer s H E ds S R Z hr ⟨d,e,⟨⟨k,hk⟩,hz⟩,q⟩=>?_)
 subst e
 refine⟨_,(sc (si (twd (twor (bV (tv (cb bx T.aj ah (ac (dv 0) (ac (jw T.eJ cq) an))))) (tw1 (bw oH hr.units (cb aW T.aR aE (ac (dv 0) an)) (dg (v:=.int 40) T.j8 ⟨_,rfl⟩ fun _=>aF _))))) (s1 (sr db)) s0) (s1 (sr (cb f6 T.gm dD (ac (lW (N:=["sign"]) (src:=[none]) (kr (ae jg) ["thing"] rfl rfl (by trivial)) (GU (dv 0)) (nT (show (["sign"]:List Str).Nodup by trivial)) (aM rfl) aN (fun _ _ _ _ _=>lH) (fun _ _ _ _ _=>(cc lU lU hr.units ds (dv 0) ds))) an))))),?_⟩
 refine⟨_,rfl,_,_,_,_,rfl,bU,hk,_,rfl,?_⟩
 rcases mC hk with ⟨z,rfl,h0⟩|⟨h0,h1⟩
 ·have hz:=hz z rfl
  rw[h0]
  refine ay ?_
  refine⟨_,rfl,_,rfl,⟨sm hz,?_⟩⟩
  refine⟨_,rfl,?_⟩
  have e2:decide ((40:Int)<((z.length:Nat):Int))=!decide (z.cps.size≤40):=by
   rw[yt];simp only [decide_eq_true_iff,Bool.not_eq_true',decide_eq_false_iff_not];show (40:Int)<((z.cps.size:Nat):Int)↔_;omega
  unfold ofStr dy at q
  dsimp only at q
  refine bz (fun h3=>?_) (fun h3=>?_)
  ·rw[nt (e2.symm.trans h3),zE] at q
   exact fo q
  ·rw[nf (e2.symm.trans h3),zA] at q
   refine mB (f:=mT) rfl hz (fun c hc Q hQ=>?_) q
   refine⟨_,rfl,_,rfl,?_⟩
   have e3:CG " " ⟨#[c]⟩=decide (32≤c):=jb 32 c
   have e4:CG ⟨#[c]⟩ "~" = decide (c≤126):=jb c 126
   unfold mT at hQ
   refine bz (fun h=>?_) (fun h=>?_)
   ·rw[e3.symm.trans h,zA,← e4] at hQ
    exact hQ
   ·rw[e3.symm.trans h,zE] at hQ
    exact hQ
 ·rw[h0]
  rw[h1] at q
  exact aZ (aZ (fo q))
theorem mV(T:Txt w K mg t):Ok P w base T.d_ 3 (fun ds S R _=>∃kind d,ds=[.str kind,d]∧Gt S d∧R (.bl (i5 kind d)) S):=by
 refine T.d_.F.ok vJ (by rintro ds S R Z ⟨d,d',e,_⟩;exact by rw[e];rfl) (fun cn A outer s H E ds S R Z hr ⟨kind,d,e,hd,q⟩=>?_)
 subst e
 refine⟨_,(sc (si (bw xp hr.units (dv 1) dn) (s1 (sr db)) s0) (sc (si (bw bB hr.units (dv 0) ds) (s1 (sr (cf ((vO T).mono (by decide)) hr T.iL.m T.iL.k T.iL.b d0 (ac (dv 1) an)))) s0) (s1 (sr (cf ((pO T).mono (by decide)) hr T.fF.m T.fF.k T.fF.b d0 (ac (dv 1) an)))))),?_⟩
 refine⟨_,rfl,_,rfl,?_⟩
 unfold i5 at q
 refine bz (fun h=>?_) (fun h=>?_)
 ·rw[h,Bool.true_or] at q
  exact fo q
 ·rw[h,Bool.false_or] at q
  refine⟨_,rfl,_,rfl,?_⟩
  refine bz (fun h=>?_) (fun h=>?_)
  ·rw[if_pos (zu h)] at q
   exact⟨_,rfl,d,rfl,hd,fo q⟩
  ·rw[if_neg (zD h)] at q
   exact⟨_,rfl,d,rfl,hd,fo q⟩
theorem gt_str(h:z.cps.size≤100000):Gt S (.str z):=⟨⟨.str,rfl⟩,fun y e=>by cases e;exact h⟩
def Ly(S:aK)(n:Nat)(d:D):Prop:=∃p,Dp S d p∧p.canLay0=true∧p.depth≤n
theorem Ly.all:∀{ds:List D},(∀d∈ds,Ly S n d)→∃ps:List PyData,DpAll S ds ps∧PyData.canLayAll0 ps=true∧PyData.depthAll ps≤n∧ps.length=ds.length
 |[],_=>⟨[],by simp only [DpAll],rfl,yq _,rfl⟩
 |d::ds,h=>by
  obtain⟨p,h1,h2,h3⟩:=h d zj
  obtain⟨ps,k1,k2,k3,k4⟩:=Ly.all fun x hx=>h x (zl _ hx)
  refine⟨p::ps,by simp only [DpAll];exact⟨p,ps,rfl,h1,k1⟩,by simp only [PyData.canLayAll0,h2,k2,Bool.and_self],by simp only [PyData.depthAll];lia,by rw[zf,zf,k4]⟩
theorem Ly.tup{S:aK}{n:Nat}{ds:List D}(h:∀d∈ds,Ly S n d):Ly S (n+1) (.tup ds):=by
 obtain⟨ps,k1,k2,k3,_⟩:=Ly.all h
 exact⟨.tuple ps,by simp only [Dp];exact⟨ps,rfl,k1⟩,by simp only [PyData.canLay0];exact k2,by simp only [PyData.depth];lia⟩
theorem Ly.str(h:PyData.strOk z=true):Ly S 0 (.str z):=⟨.str z,by simp only [Dp],by simp only [PyData.canLay0];exact h,by simp only [PyData.depth];lia⟩
theorem Ly.le(h:Ly S n d)(l:n≤m):Ly S m d:=by obtain⟨p,a,b,c⟩:=h;exact⟨p,a,b,zt c l⟩
theorem Ly.aC:Ly S 0 .aC:=⟨.none,by simp only [Dp],by simp only [PyData.canLay0],by simp only [PyData.depth];lia⟩
theorem Ly.dl(h:Ly S n d):∃p,Dl S d p∧p.canLay0=true∧p.depth≤n:=by
 obtain⟨p,a,b,c⟩:=h
 refine⟨p,?_,b,c⟩
 cases d with
 |ref x=>simp only [Dp] at a
 |_=>exact a
theorem eq_self(h:Ly S 64 d)(q:R (.bl (!neg)) S):BG neg d d S R:=by
 obtain⟨p,a,b,c⟩:=h.dl
 have e:(if neg then !PyData.eqv p p else PyData.eqv p p)=!neg:=by rw[SeqAt.eqv_refl p b];cases neg <;> rfl
 have Oc:∃p q,Dl S d p∧Dl S d q∧p.canLay0=true∧q.canLay0=true∧(p.depth≤64∨q.depth≤64)∧R (.bl (if neg then !PyData.eqv p q else PyData.eqv p q)) S:=⟨p,p,a,a,b,b,.inl c,by rw[e];exact q⟩
 cases d with
 |int i=>show R (.bl (if neg then !decide (i=i) else decide (i=i))) S;rw[zk rfl];cases neg <;> exact q
 |str i=>show R (.bl (if neg then !decide (i=i) else decide (i=i))) S;rw[zk rfl];cases neg <;> exact q
 |_=>exact Oc
theorem Eu(ps:List PyData):PyData.eqv (.list ps) (.list [])=ps.isEmpty:=by cases ps <;> simp [PyData.eqv,PyData.eqvAll]
theorem Ew(ps:List PyData):PyData.eqv (.tuple ps) (.tuple [])=ps.isEmpty:=by cases ps <;> simp [PyData.eqv,PyData.eqvAll]
theorem G5{S:aK}{ds:List D}{R:KD}(h:∀d∈ds,Ly S 60 d)(q:R (.bl ds.isEmpty) S):BG false (.tup ds) (.tup []) S R:=by
 obtain⟨ps,k1,k2,k3,k4⟩:=Ly.all h
 refine⟨.tuple ps,.tuple [],by simp only [Dl,Dp];exact⟨ps,rfl,k1⟩,by simp only [Dl,Dp];exact⟨[],rfl,by simp only [DpAll]⟩,by simp only [PyData.canLay0];exact k2,by simp only [PyData.canLay0,PyData.canLayAll0],.inl (by simp only [PyData.depth];lia),?_⟩
 rw[if_neg zm,Ew,show ps.isEmpty=ds.isEmpty by cases ps <;> cases ds <;> first|rfl|cases k4];exact q
theorem vP:∀(ws us:List Str),PyData.eqv (.list (ws.map PyData.str)) (.list (us.map PyData.str))=decide (ws=us)
 |[],[]=>by simp [PyData.eqv,PyData.eqvAll]
 |[],_::_=>by simp [PyData.eqv,PyData.eqvAll]
 |_::_,[]=>by simp [PyData.eqv,PyData.eqvAll]
 |w::ws,u::us=>by
  have ih:=vP ws us
  simp only [PyData.eqv] at ih
  simp only [zF,PyData.eqv,PyData.eqvAll,ih]
  by_cases h:w=u <;> by_cases h2:ws=us <;> simp [h,h2]
theorem kZ:∀{ws:List Str},(∀z∈ws,PyData.strOk z=true)→PyData.canLayAll0 (ws.map PyData.str)=true∧PyData.depthAll (ws.map PyData.str)=0
 |[],_=>⟨rfl,rfl⟩
 |w::ws,h=>by
  obtain⟨h1,h2⟩:=kZ fun z hz=>h z (zl _ hz)
  refine⟨?_,?_⟩
  ·simp only [zF,PyData.canLayAll0,PyData.canLay0,h w zj,h1,Bool.and_self]
  ·simp only [zF,PyData.depthAll,PyData.depth,h2];lia
theorem t5:∀(ws:List Str),DpAll S (ws.map D.str) (ws.map PyData.str)
 |[]=>by simp only [List.map_nil,DpAll]
 |w::ws=>by simp only [zF,DpAll];exact⟨_,_,rfl,by simp only [Dp],t5 ws⟩
theorem G6{S:aK}{a b:Addr}{ws us:List Str}{R:KD}(e1:S a=some (.lst (ws.map D.str)))(e2:S b=some (.lst (us.map D.str)))(h1:∀z∈ws,PyData.strOk z=true)(h2:∀z∈us,PyData.strOk z=true)(q:R (.bl (decide (ws=us))) S):BG false (.ref a) (.ref b) S R:=by
 refine⟨.list (ws.map .str),.list (us.map .str),⟨_,_,e1,rfl,t5 ws⟩,⟨_,_,e2,rfl,t5 us⟩,by simp only [PyData.canLay0];exact (kZ h1).1,by simp only [PyData.canLay0];exact (kZ h2).1,.inl (by simp only [PyData.depth,(kZ h1).2];lia),?_⟩
 rw[if_neg zm,vP];exact q
theorem fT:PyData.strOk z=true↔∀c∈z.cps.toList,c<1114112:=by
 unfold PyData.strOk
 rw[Array.all_eq_true']
 constructor
 ·intro h c hc;exact zu (h c (Array.mem_toList_iff.mp hc))
 ·intro h c hc;exact zk (h c (Array.mem_toList_iff.mpr hc))
def cW(z:Str):List Str:=Txt.split z " "
theorem gv(a:Str):∀l:List Str,Txt.join a l=a.join l
 |[]=>by rw[PyProof.Rows.join_nil];rfl
 |x::r=>PySem.StrLaws.glued_cons a r x
theorem pP(z:Str):((cW z).map (·.length)).sum+(cW z).length≤z.length+1:=PyProof.Rows.split_weight z " " (by decide)
theorem G7{l:List Nat}{x:Nat}(h:x∈l):x≤l.sum:=by
 induction l with
 |nil=>cases h
 |cons a l ih =>
  rw[List.sum_cons]
  rcases zb.mp h with e|h
  ·lia
  ·have:=ih h;lia
theorem nV(z:Str):(cW z).length≤z.length+1:=by have:=pP z;lia
theorem AD(z:Str):1≤(cW z).length:=PyProof.Rows.split_pos z " "
theorem AE{z p:Str}(h:p∈cW z):p.length≤z.length:=by
 have h1:=G7 (zq.mpr ⟨p,h,rfl⟩:p.length∈(cW z).map (·.length))
 have h2:=pP z
 have h3:1≤(cW z).length:=AD z
 lia
theorem Ex(z:Str):(" " : Str).join (cW z)=z:=PySem.StrLaws.join_split z " "
theorem Ey(h:p∈cW z)(hz:PyData.strOk z=true):PyData.strOk p=true:=by
 rw[fT] at hz ⊢
 intro c hc
 refine hz c ?_
 rw[← Ex z,PyProof.Rows.mem_join]
 exact .inl ⟨p,h,hc⟩
theorem G8(ha:PyData.strOk a=true)(h:∀p∈l,PyData.strOk p=true):PyData.strOk (Txt.join a l)=true:=by
 rw[gv,fT]
 intro c hc
 rw[PyProof.Rows.mem_join] at hc
 rcases hc with ⟨p,hp,hc⟩|⟨_,hc⟩
 ·exact fT.mp (h p hp) c hc
 ·exact fT.mp ha c hc
theorem Ez(a:Str)(l:List Str):(Txt.join a l).length≤(l.map (·.length)).sum+l.length * a.length:=by
 rw[gv];exact PySem.StrLaws.join_length_le a l
theorem G9(a b:Str):eqV (.str a) (.str b)=decide (a=b):=by show (a == b)=_;by_cases h:a=b <;> simp [h]
theorem k7(z:Str):∀ws:List Str,wZ (lV (.str z)) ((ws.map D.str).map lV)=decide (z∈ws)
 |[]=>rfl
 |w::ws=>by
  show (eqV (.str w) (.str z) || wZ (lV (.str z)) ((ws.map D.str).map lV))=_
  rw[k7 z ws,G9]
  by_cases h:w=z
  ·rw[zk h,Bool.true_or,zk (zb.mpr (.inl h.symm))]
  ·rw[zp h,Bool.false_or,zM]
   exact⟨fun q=>zl _ q,fun q=>(zb.mp q).resolve_left fun e=>h e.symm⟩
theorem rV(ws:List Str):(ws.map D.str).all kC=true:=by
 rw[List.all_map];exact zI.mpr fun _ _=>rfl
def brk(ws:List Str):Bool:=decide (("(" : Str)∈ws) || decide ((")" : Str)∈ws)
theorem kh(h:i<xs.length):jO xs ((i:Nat):Int)=xs[i]?:=by
 unfold jO CD
 rw[if_pos (by lia),if_pos (by lia)];rfl
theorem t6(h:k≤xs.length)(h1:1≤k):jO xs (-((k:Nat):Int))=xs[xs.length - k]?:=by
 unfold jO CD
 rw[if_neg (by lia),if_pos (by lia)]
 have:(-((k:Nat):Int)+(xs.length:Int)).toNat=xs.length - k:=by lia
 rw[this];rfl
theorem EA{ws:List Str}{i:Nat}(h:i<ws.length):(ws.map D.str)[i]?=some (.str (ws.getD i "")):=by
 rw[zV,zU,zX h];rfl
theorem AF(l:List α)(h:b≤l.length)(h1:a≤b):jR l (some ((a:Nat):Int)) (some ((b:Nat):Int))=(l.drop a).take (b - a):=by
 unfold jR
 rw[HT.sIx_nat,HT.sIx_nat,Nat.min_eq_left h,Nat.min_eq_left (by lia)]
theorem t9{ws:List Str}{a:Nat}(h:a<ws.length):ws.drop a=ws.getD a "" :: ws.drop (a+1):=by
 rw[List.drop_eq_getElem_cons h,zU,zX h];rfl
theorem take2{ws:List Str}{a:Nat}(h:a+2≤ws.length):(ws.drop a).take 2=[ws.getD a "",ws.getD (a+1) ""]:=by
 rw[t9 (by lia),List.take_succ_cons,t9 (by lia),List.take_succ_cons,List.take_zero]
theorem take3{ws:List Str}{a:Nat}(h:a+3≤ws.length):(ws.drop a).take 3=[ws.getD a "",ws.getD (a+1) "",ws.getD (a+2) ""]:=by
 rw[t9 (by lia),List.take_succ_cons,take2 (by lia)]
theorem ia{p:Bool}{A B:Prop}(h:p=false)(q:B):if p=true then A else B:=by rw[h];exact ay q
theorem wK{p:Bool}{A B:Prop}(h:p=true)(q:A):if p=true then A else B:=by rw[h];exact aZ q
theorem kd_sub(h:Sub S S')(hk:GQ S d k):GQ S' d k:=by
 cases d with
 |ref a =>
  rcases hk with ⟨rfl,ds,e⟩|⟨rfl,ds,e⟩
  ·exact .inl ⟨rfl,ds,h _ _ e⟩
  ·exact .inr ⟨rfl,ds,h _ _ e⟩
 |_=>exact hk
theorem Gt.sub(h:Sub S S')(g:Gt S d):Gt S' d:=by
 obtain⟨k,hk⟩:=g.1
 exact⟨⟨k,kd_sub h hk⟩,g.2⟩
theorem vQ(h:l.length=1):∃a,l=[a]:=by
 cases l with
 |nil=>cases h
 |cons a l=>exact⟨a,by rw[zQ (Nat.succ.inj h)]⟩
theorem KL(h:l.length=2):∃a b,l=[a,b]:=by
 cases l with
 |nil=>cases h
 |cons a l =>
  obtain⟨b,rfl⟩:=vQ (Nat.succ.inj h)
  exact⟨a,b,rfl⟩
def Qd(S:aK):Nat→D→Prop
 |0,d=>Gt S d
 |n+1,d=>Gt S d∧∀ws,d=.tup ws→ws.length≤100000∧∀v∈ws,Qd S n v
theorem Qd.gt(h:Qd S n d):Gt S d:=by cases n <;> first|exact h|exact h.1
theorem Qd.in(h:Qd S (n+1) (.tup ws)):ws.length≤100000∧∀v∈ws,Qd S n v:=h.2 ws rfl
theorem Qd.sub(b:Sub S S'):∀{n:Nat}{d:D},Qd S n d→Qd S' n d:=by
 intro n
 induction n with
 |zero=>exact fun h=>Gt.sub b h
 |succ n ih=>exact fun h=>⟨h.1.sub b,fun ws e=>⟨(h.2 ws e).1,fun v hv=>ih ((h.2 ws e).2 v hv)⟩⟩
def QA(S:aK)(d:D):Prop:=∀n,Qd S n d
theorem QA.in(h:QA S (.tup ws))(hv:v∈ws):QA S v:=fun n=>(h (n+1)).in.2 v hv
theorem KN(hl:ws.length≤100000)(h:∀v∈ws,QA S v):QA S (.tup ws):=fun n=>by
 have g:Gt S (.tup ws):=⟨⟨.tup,rfl⟩,fun _=>nofun⟩
 cases n with
 |zero=>exact g
 |succ n=>exact⟨g,fun YG e=>by cases e;exact⟨hl,fun v hv=>h v hv n⟩⟩
theorem EB(g:Gt S d)(n:∀ws,d≠.tup ws):QA S d:=fun k=>by
 cases k with
 |zero=>exact g
 |succ k=>exact⟨g,fun ws e=>absurd e (n ws)⟩
theorem AG:∀{l:List α}{x y:α},(l.map f).Nodup→x∈l→y∈l→f x=f y→x=y
 |z::l,x,y,nd,hx,hy,e=>by
  rw[zF] at nd
  obtain⟨n1,n2⟩:=yi.mp nd
  rcases zb.mp hx with ex|M_
  ·rcases zb.mp hy with ey|MJ
   ·rw[ex,ey]
   ·exact absurd (zq.mpr ⟨y,MJ,by rw[← e,ex]⟩) n1
  ·rcases zb.mp hy with ey|MJ
   ·exact absurd (zq.mpr ⟨x,M_,by rw[e,ey]⟩) n1
   ·exact AG n2 M_ MJ e
def Bx(cs:List (Str×Str)):D→D
 |.str z=>match cs.find? (fun c=>decide (c.1=z)) with|some c=>.str c.2|none=>.aC
 |_=>.aC
theorem x_(hg:Gd cs)(h:(z,k)∈cs):Bx cs (.str z)=.str k:=by
 unfold Bx
 cases e:cs.find? (fun c=>decide (c.1=z)) with
 |none=>exact absurd (zk rfl) (List.find?_eq_none.mp e _ h)
 |some c =>
  have h0:decide (c.1=z)=true:=List.find?_some (p:=fun c:Str×Str=>decide (c.1=z)) e
  have h1:c.1=z:=zu h0
  have:=AG hg.2.1 (List.mem_of_find?_eq_some e) h h1
  subst this
  dsimp only
  rw[e]
theorem t_(h:z∉cs.map Prod.fst):Bx cs (.str z)=.aC:=by
 unfold Bx
 dsimp only
 rw[List.find?_eq_none.mpr fun c hc e=>h (zq.mpr ⟨c,hc,zu e⟩)]
theorem G_(hg:Gd cs)(z:Str):eD (Bx cs (.str z))=!decide (z∈cs.map Prod.fst):=by
 by_cases h:z∈cs.map Prod.fst
 ·obtain⟨c,hc,rfl⟩:=zq.mp h
  rw[x_ hg (k:=c.2) hc,zk h];rfl
 ·rw[t_ h,zp h];rfl
theorem uc(l:List (Str×D))(z:Str)(h:eX (oO l) (.inr z)=some d):∃p∈l,p.1=z∧d=p.2:=by
 have all:∀(l:List (Str×D)) (c:List (Key×D)),eX (l.foldl (fun c p=>dput c (.inr p.1) p.2) c) (.inr z)=some d→(∃p∈l,p.1=z∧d=p.2)∨eX c (.inr z)=some d:=by
  intro l
  induction l with
  |nil=>intro c h;exact .inr h
  |cons p l ih =>
   intro c h
   rcases ih _ h with ⟨q,hq,e⟩|h
   ·exact .inl ⟨q,zl _ hq,e⟩
   ·rw[u7] at h
    by_cases e:(.inr z:Key)=.inr p.1
    ·rw[if_pos e] at h;exact .inl ⟨p,zj,(Sum.inr.inj e).symm,(zS h).symm⟩
    ·rw[if_neg e] at h;exact .inr h
 rcases all l [] h with h|h
 ·exact h
 ·cases h
def LP(p:Str×Str×Str):Prop:=p.1.cps.size≤100000∧p.2.1.cps.size≤100000∧p.2.2.cps.size≤100000
def KO:jd:=fun ds S R _=>∃cs d,ds=[.tup (cs.map aq),d]∧Gd cs∧Gt S d∧R (Bx cs d) S
theorem jF(T:Txt w K mg t):Ok P w base T.bO 3 KO:=by
 refine T.bO.F.jk qN ?_
 rintro _ _ _ _ _ _ ds S R Z hr ⟨cs,d,e,hg,hz,q⟩
 subst e
 refine⟨_,(sc (si (bV (tv (cf ((pN T).mono (by decide)) hr T.fE.m T.fE.k T.fE.b d0 (ac (dv 1) an)))) (s1 (sr dn)) s0) (s1 (sr (VO hr.units (ct Ky T.KJ Gr (ac (dv 0) an)) (dv 1))))),?_⟩
 refine⟨_,rfl,d,rfl,hz,_,rfl,?_⟩
 refine bz (fun h=>?_) (fun h=>?_)
 ·have h:ofStr bI d=false:=nt h
  have e:Bx cs d=.aC:=by
   cases d with
   |str z =>
    refine t_ fun m=>?_
    obtain⟨c,hc,rfl⟩:=zq.mp m
    have h:bI c.1=false:=h
    rw[(hg.2.2 c hc).1] at h;cases h
   |_=>rfl
  rw[e] at q
  exact fo q
 ·have h:ofStr bI d=true:=nf h
  cases d with
  |str z =>
   have ek:cs.map aq=(cs.map fun c=>(c.1,D.str c.2)).map DP:=by rw[zC];rfl
   refine⟨_,rfl,(cs.map fun c=>(c.1,D.str c.2)),by rw[ek],fun p hp=>⟨p,_,rfl,aa,_,rfl,_,.inr z,aa,rfl,S,.new hp,?_⟩⟩
   have h1:=BL (cs.map fun c=>(c.1,D.str c.2)) z
   cases q3:eX (oO (cs.map fun c=>(c.1,D.str c.2))) (.inr z) with
   |none =>
    rw[q3] at h1
    rw[t_ fun m=>?_] at q
    ·exact q
    obtain⟨c,hc,e⟩:=zq.mp m
    have:(cs.map fun c=>(c.1,D.str c.2)).any (fun p=>decide (p.1=z))=true:=List.any_eq_true.mpr ⟨_,zq.mpr ⟨c,hc,rfl⟩,zk e⟩
    rw[this] at h1;cases h1
   |some d =>
    obtain⟨p,hp,e1,rfl⟩:=uc _ _ q3
    obtain⟨c,hc,rfl⟩:=zq.mp hp
    have e1:c.1=z:=e1
    rw[x_ hg (k:=c.2) (by rw[← e1];exact hc)] at q
    exact q
  |_=>cases h
def KP:D→Bool
 |.tup es=>decide (es.length≤8)
 |_=>false
def Ci(cs:List (Str×Str))(o:Str)(x v:D):Bool:=match Bx cs x with
 |.str k=>i5 k v && (decide (o = "is") || ((!(decide (o = "begins") && !decide (k = "word"))) && !eD v))
 |_=>false
theorem mW(T:Txt w K mg t):Ok P w base T.aS 1 (x9 KP):=by
 refine T.aS.F.jk kU ?_
 rintro _ _ _ _ _ _ ds S R Z hr ⟨d,e,⟨⟨k,hk⟩,hz⟩,q⟩
 subst e
 refine⟨_,(s1 (sr (kA (cb bx T.aj ah (ac (dv 0) (ac (jw T.aL ax) an))) (wH (cm lU hr.units (cb aW T.aR aE (ac (dv 0) an)) (dg (v:=.int 8) T.j9 ⟨_,rfl⟩ fun _=>aF _)))))),?_⟩
 refine⟨_,rfl,_,_,_,_,rfl,aI,hk,_,rfl,?_⟩
 rcases pM hk with ⟨es,rfl,h0⟩|⟨h0,h1⟩
 ·rw[h0]
  refine aZ ⟨_,rfl,_,rfl,?_⟩
  have e1:decide (((es.length:Nat):Int)≤8)=decide (es.length≤8):=by rw[zM];omega
  show Fo S (R (.bl (decide (((es.length:Nat):Int)≤8))))
  rw[e1]
  exact fo q
 ·have e:KP d=false:=by
   cases d with
   |tup es=>exact absurd rfl (h1 _)
   |_=>rfl
  rw[e] at q
  rw[h0]
  exact ay (fo q)
theorem Ha(cs:List (Str×Str))(x:D):(∃k,Bx cs x=.str k)∨Bx cs x=.aC:=by
 cases x with
 |str z =>
  unfold Bx
  dsimp only
  cases cs.find? (fun c=>decide (c.1=z)) with
  |some c=>exact .inl ⟨_,rfl⟩
  |none=>exact .inr rfl
 |_=>exact .inr rfl
def Ir:jd:=fun ds S R _=>∃cs o x v,ds=[.tup (cs.map aq),.tup [.str o,x,v]]∧Gd cs∧Gt S x∧Gt S v∧R (.bl (Ci cs o x v)) S
theorem pQ(T:Txt w K mg t):Ok P w base T.eu 4 Ir:=by
 refine T.eu.F.jk iZ ?_
 rintro _ _ _ _ _ _ ds S R Z hr ⟨cs,o,x,v,e,hg,hx,hv,q⟩
 subst e
 refine⟨_,(sc (dR (i:=2) iZ.nd (cf ((jF T).mono (by decide)) hr T.bO.m T.bO.k T.bO.b d0 (ac (dv 0) (ac (ix hr.units (dv 1) di) an)))) (sc (si (twd (twor (bw xp hr.units (dv 2) dn) (tw1 (bV (tv (cf ((mV T).mono (by decide)) hr T.d_.m T.d_.k T.d_.b d0 (ac (dv 2) (ac (ix hr.units (dv 1) di) an)))))))) (s1 (sr db)) s0) (sc (si (bw bB hr.units (ix hr.units (dv 1) di) ds) (s1 (sr db)) s0) (sc (si (twd (twand (bw bB hr.units (ix hr.units (dv 1) di) ds) (tw1 (bw eW hr.units (dv 2) ds)))) (s1 (sr db)) s0) (s1 (sr (cm Dz hr.units (ix hr.units (dv 1) di) dn))))))),?_⟩
 refine⟨_,rfl,_,rfl,_,rfl,cs,x,rfl,hg,hx,?_⟩
 unfold Ci at q
 rcases Ha cs x with ⟨k,e⟩|e
 ·rw[e] at q ⊢
  have q:R (.bl (i5 k v && (decide (o = "is") || ((!(decide (o = "begins") && !decide (k = "word"))) && !eD v)))) S:=q
  refine⟨_,rfl,_,rfl,ay ⟨_,rfl,_,rfl,_,rfl,k,v,rfl,hv,_,rfl,?_⟩⟩
  refine bz (fun h=>?_) (fun h=>?_)
  ·rw[nt h,zE] at q
   exact fo q
  rw[nf h,zA] at q
  refine⟨_,rfl,_,rfl,_,rfl,?_⟩
  refine bz (fun h1=>?_) (fun h1=>?_)
  ·have h1:decide (o = "is")=true:=h1
   rw[h1,Bool.true_or] at q
   exact fo q
  have h1:decide (o = "is")=false:=h1
  rw[h1,Bool.false_or] at q
  refine⟨_,rfl,_,rfl,_,rfl,?_⟩
  refine bz (fun h2=>?_) (fun h2=>?_)
  ·have h2:decide (o = "begins")=true:=h2
   rw[h2,zA] at q
   refine⟨_,rfl,_,rfl,?_⟩
   refine bz (fun h3=>?_) (fun h3=>?_)
   ·have h3:(!decide (k = "word"))=true:=h3
    rw[h3] at q
    exact fo q
   ·have h3:(!decide (k = "word"))=false:=h3
    rw[h3] at q
    exact⟨_,rfl,_,rfl,fo q⟩
  ·have h2:decide (o = "begins")=false:=h2
   rw[h2] at q
   exact⟨_,rfl,_,rfl,fo q⟩
 ·rw[e] at q ⊢
  exact⟨_,rfl,_,rfl,aZ (fo q)⟩
def Iu:D→Bool
 |.tup ks=>ks.all (ofStr fq)
 |_=>false
def Hb(cs:List (Str×Str))(o:Str):List D→Bool
 |[x,v]=>Ci cs o x v
 |_=>false
def Hc:List D→Bool
 |[k]=>KP k && Iu k
 |_=>false
def PU:List D→Bool
 |[x]=>KP x
 |_=>false
theorem EC{cs:List (Str×Str)}{o:Str}{ws:List D}(n:ws.length≠2):Hb cs o ws=false:=by
 unfold Hb
 split
 ·exact absurd rfl n
 ·rfl
theorem ED{ws:List D}(n:ws.length≠1):Hc ws=false:=by
 unfold Hc
 split
 ·exact absurd rfl n
 ·rfl
theorem AH{ws:List D}(n:ws.length≠1):PU ws=false:=by
 unfold PU
 split
 ·exact absurd rfl n
 ·rfl
def fU(cs:List (Str×Str)):D→Bool
 |.tup (.str o::ws) =>
  if o = "every" then decide (ws.length=0)
  else if o = "is" ∨ o = "below" ∨ o = "above" ∨ o = "begins" then Hb cs o ws
  else if o = "key" then Hc ws
  else if o = "not" then decide (ws.length=1)
  else if o = "and" ∨ o = "or" then PU ws
  else false
 |_=>false
def subs:D→List D
 |.tup [.str o,x]=>if o = "not" then [x] else if o = "and" ∨ o = "or" then (match x with|.tup es=>es|_=>[]) else []
 |_=>[]
theorem pR(o:Str):o = "every" ∨ (o = "is" ∨ o = "below" ∨ o = "above" ∨ o = "begins")∨o = "key" ∨ o = "not" ∨ (o = "and" ∨ o = "or")∨(o ≠ "every" ∧ ¬(o = "is" ∨ o = "below" ∨ o = "above" ∨ o = "begins")∧o ≠ "key" ∧ o ≠ "not" ∧ ¬(o = "and" ∨ o = "or")):=by
 by_cases h1:o = "every"
 ·exact .inl h1
 by_cases h2:o = "is" ∨ o = "below" ∨ o = "above" ∨ o = "begins"
 ·exact .inr (.inl h2)
 by_cases h3:o = "key"
 ·exact .inr (.inr (.inl h3))
 by_cases h4:o = "not"
 ·exact .inr (.inr (.inr (.inl h4)))
 by_cases h5:o = "and" ∨ o = "or"
 ·exact .inr (.inr (.inr (.inr (.inl h5))))
 exact .inr (.inr (.inr (.inr (.inr ⟨h1,h2,h3,h4,h5⟩))))
theorem EF(cs:List (Str×Str))(ws:List D):fU cs (.tup (.str "every" :: ws))=decide (ws.length=0):=by
 unfold fU
 dsimp only
 rw[if_pos rfl]
theorem EG{cs:List (Str×Str)}{o:Str}(h:o = "is" ∨ o = "below" ∨ o = "above" ∨ o = "begins")(ws:List D):fU cs (.tup (.str o::ws))=Hb cs o ws:=by
 unfold fU
 dsimp only
 rw[if_neg (by rcases h with rfl|rfl|rfl|rfl <;> decide),if_pos h]
theorem EH(cs:List (Str×Str))(ws:List D):fU cs (.tup (.str "key" :: ws))=Hc ws:=by
 unfold fU
 dsimp only
 rw[if_neg (by decide),if_neg (by decide),if_pos rfl]
theorem yH(cs:List (Str×Str))(ws:List D):fU cs (.tup (.str "not" :: ws))=decide (ws.length=1):=by
 unfold fU
 dsimp only
 rw[if_neg (by decide),if_neg (by decide),if_neg (by decide),if_pos rfl]
theorem yI{cs:List (Str×Str)}{o:Str}(h:o = "and" ∨ o = "or")(ws:List D):fU cs (.tup (.str o::ws))=PU ws:=by
 unfold fU
 dsimp only
 rw[if_neg (by rcases h with rfl|rfl <;> decide),if_neg (by rcases h with rfl|rfl <;> decide),if_neg (by rcases h with rfl|rfl <;> decide),if_neg (by rcases h with rfl|rfl <;> decide),if_pos h]
theorem EI{cs:List (Str×Str)}{o:Str}(h:o ≠ "every" ∧ ¬(o = "is" ∨ o = "below" ∨ o = "above" ∨ o = "begins")∧o ≠ "key" ∧ o ≠ "not" ∧ ¬(o = "and" ∨ o = "or"))(ws:List D):fU cs (.tup (.str o::ws))=false:=by
 unfold fU
 dsimp only
 rw[if_neg h.1,if_neg h.2.1,if_neg h.2.2.1,if_neg h.2.2.2.1,if_neg h.2.2.2.2]
theorem EJ{o:Str}(h:o ≠ "every" ∧ ¬(o = "is" ∨ o = "below" ∨ o = "above" ∨ o = "begins")∧o ≠ "key" ∧ o ≠ "not" ∧ ¬(o = "and" ∨ o = "or")) :
  ([("every",.int 1),("is",.int 3),("below",.int 3),("above",.int 3),("begins",.int 3),("key",.int 2),("not",.int 2),("and",.int 2),("or",.int 2)]:List (Str×V)).lookup o=none:=by
 obtain⟨h1,h2,h3,h4,h5⟩:=h
 simp only [not_or] at h2 h5
 have f:∀{a:Str},o≠a→(o == a)=false:=fun h=>beq_false_of_ne h
 rw[zO,f h1,zO,f h2.1,zO,f h2.2.1,zO,f h2.2.2.1,zO,f h2.2.2.2,zO,f h3,zO,f h4,zO,f h5.1,zO,f h5.2]
 rfl
theorem KQ{S:aK}{i:Int}{R:KD}(q:R (.bl true) S):BG true .aC (.int i) S R :=
 ⟨.none,.int i,by simp only [Dl,Dp],by simp only [Dl,Dp],by simp only [PyData.canLay0],by simp only [PyData.canLay0],.inl (by simp only [PyData.depth];lia),q⟩
theorem Od{S:aK}{R:KD}{es:List D}(h:R (.int es.length) S):Ih S R (.tup es):=h
theorem b_(x:D)(ws:List D):jO (x::ws) 0=some x:=by
 unfold jO CD
 rw[if_pos (Int.le_refl 0)]
 show (if (0:Int)<(((x::ws).length:Nat):Int) then some (0:Int).toNat else none).bind _=_
 rw[if_pos (by rw[zf];lia)]
 rfl
theorem ud(T:Txt w K mg t):Ok P w base T.gf 5 (fun ds S R _=>∃cs d,ds=[.tup (cs.map aq),d]∧Gd cs∧Qd S 2 d∧R (.bl (fU cs d)) S):=by
 refine T.gf.F.jk tY ?_
 rintro _ _ _ _ _ _ ds S R Z hr ⟨cs,d,e,hg,hq,q⟩
 subst e
 obtain⟨k,hk⟩:=hq.gt.1
 refine⟨_,(sc (si (twd (twor (bV (tv (cb bx T.aj ah (ac (dv 1) (ac (jw T.aL ax) an))))) (twor (bw bB hr.units (cb aW T.aR aE (ac (dv 1) an)) di) (tw1 (bV (tv (cb bx T.aj ah (ac (ix hr.units (dv 1) di) (ac (jw T.eJ cq) an))))))))) (s1 (sr db)) s0) (sc (si (bw eW hr.units (V_ T.Ca (by decide) (gK T.xV) (ix hr.units (dv 1) di)) (cb aW T.aR aE (ac (dv 1) an))) (s1 (sr db)) s0) (sc (si (bw qA hr.units (ix hr.units (dv 1) di) (cA (ac ds (ac ds (ac ds (ac ds an)))))) (s1 (sr (cf ((pQ T).mono (by decide)) hr T.eu.m T.eu.k T.eu.b d0 (ac (dv 0) (ac (dv 1) an))))) s0) (sc (si (bw bB hr.units (ix hr.units (dv 1) di) ds) (s1 (sr (kA (cf ((mW T).mono (by decide)) hr T.aS.m T.aS.k T.aS.b d0 (ac (ix hr.units (dv 1) di) an)) (wH (cb f6 T.gm dD (ac (lW (N:=["key"]) (src:=[none]) (kr (ae fB) ["columns","thing"] rfl rfl (by trivial)) (wJ (ix hr.units (dv 1) di)) (nT (show (["key"]:List Str).Nodup by trivial)) (aM rfl) aN (fun _ _ _ _ _=>lH) (fun _ _ _ _ _=>(cf ((rT T).mono (by decide)) hr T.iM.m T.iM.k T.iM.b d0 (ac (dv 0) an)))) an)))))) s0) (sc (si (bw qA hr.units (ix hr.units (dv 1) di) (cA (ac ds (ac ds an)))) (s1 (sr (cf ((mW T).mono (by decide)) hr T.aS.m T.aS.k T.aS.b d0 (ac (ix hr.units (dv 1) di) an)))) s0) (s1 (sr db))))))),?_⟩
 refine⟨_,rfl,_,_,_,_,rfl,aI,hk,_,rfl,?_⟩
 rcases pM hk with ⟨ws,rfl,h0⟩|⟨h0,h1⟩
 rotate_left
 ·rw[h0]
  have e:fU cs d=false:=by
   unfold fU
   split
   ·exact absurd rfl (h1 _)
   ·rfl
  rw[e] at q
  exact aZ (fo q)
 rw[h0]
 refine ay ⟨_,rfl,_,rfl,_,rfl,?_⟩
 cases ws with
 |nil=>exact wK rfl (fo q)
 |cons x ws =>
 have e0:decide ((((x::ws).length:Nat):Int)=0)=false:=zp (by rw[zf];lia)
 refine ia e0 ?_
 have gi:=hq.in.2
 obtain⟨k2,DQ⟩:=(gi x (by simp)).gt.1
 refine⟨_,rfl,_,b_ x ws,_,_,_,_,rfl,bU,DQ,_,rfl,?_⟩
 rcases mC DQ with ⟨o,rfl,h2⟩|⟨h2,h3⟩
 rotate_left
 ·rw[h2]
  have e:fU cs (.tup (x::ws))=false:=by
   unfold fU
   split
   ·rename_i e;cases e;have:=h3 (fun _=>true);cases this
   ·rfl
  rw[e] at q
  exact aZ (fo q)
 rw[h2]
 refine ay ?_
 have n4:=sm (show 4≤100000 by decide)
 have n2:=sm (show 2≤100000 by decide)
 rcases pR o with rfl|h|rfl|rfl|h|h
 ·rw[EF] at q
  refine⟨_,rfl,_,b_ _ ws,_,rfl,_,rfl,_,rfl,_,rfl,?_⟩
  refine bz (fun h=>?_) (fun h=>?_)
  ·have h:¬ (1:Int)=(((D.str "every" :: ws).length:Nat):Int):=zD (nt h)
   rw[zf] at h
   rw[zp (by lia)] at q
   exact fo q
  ·have h:(1:Int)=(((D.str "every" :: ws).length:Nat):Int):=zu (nf h)
   rw[zf] at h
   rw[zk (by lia)] at q
   exact⟨_,rfl,_,b_ _ ws,n4,rfl,rfl,_,rfl,ia (by trivial) ⟨_,rfl,_,b_ _ ws,_,rfl,ia (by trivial) ⟨_,rfl,_,b_ _ ws,n2,rfl,rfl,_,rfl,ia (by trivial) (fo q)⟩⟩⟩
 ·rw[EG h] at q
  have fin:∀{x v:D},ws=[x,v]→Ir [.tup (cs.map aq),.tup [.str o,x,v]] S (fun d S'=>Fo S' (R d)) (fun C S'=>Fo S' (Z C)):=by
   rintro x v rfl
   exact⟨cs,o,x,v,rfl,hg,(gi x (by simp)).gt,(gi v (by simp)).gt,fo q⟩
  have bad:ws.length≠2→R (.bl false) S:=fun n=>by
   rw[EC n] at q;exact q
  rcases h with rfl|rfl|rfl|rfl
  all_goals
   refine⟨_,rfl,_,b_ _ ws,_,rfl,_,rfl,_,rfl,_,rfl,bz (fun h=>?_) (fun h=>?_)⟩
   ·have h:¬ (3:Int)=(((D.str _::ws).length:Nat):Int):=zD (nt h)
    rw[zf] at h
    exact fo (bad (by lia))
   ·have h:(3:Int)=(((D.str _::ws).length:Nat):Int):=zu (nf h)
    rw[zf] at h
    obtain⟨x,v,rfl⟩:=KL (l:=ws) (by lia)
    exact⟨_,rfl,_,rfl,n4,rfl,rfl,_,rfl,wK (by trivial) ⟨_,rfl,_,rfl,fin rfl⟩⟩
 ·rw[EH] at q
  refine⟨_,rfl,_,b_ _ ws,_,rfl,_,rfl,_,rfl,_,rfl,bz (fun h=>?_) (fun h=>?_)⟩
  ·have h:¬ (2:Int)=(((D.str "key" :: ws).length:Nat):Int):=zD (nt h)
   rw[zf] at h
   rw[ED (by lia)] at q
   exact fo q
  ·have h:(2:Int)=(((D.str "key" :: ws).length:Nat):Int):=zu (nf h)
   rw[zf] at h
   obtain⟨x,rfl⟩:=vQ (l:=ws) (by lia)
   have q:R (.bl (KP x && Iu x)) S:=q
   have gx:=gi x (by simp)
   refine⟨_,rfl,_,rfl,n4,rfl,rfl,_,rfl,ia (by trivial) ⟨_,rfl,_,rfl,_,rfl,wK (by trivial) ?_⟩⟩
   refine⟨_,rfl,_,rfl,x,rfl,gx.gt,_,rfl,bz (fun h=>?_) (fun h=>?_)⟩
   ·rw[h,zA] at q
    obtain⟨ks,rfl⟩:∃ks,x=.tup ks:=by cases x <;> first|exact⟨_,rfl⟩|cases h
    have h8:ks.length≤8:=zu h
    refine⟨_,rfl,_,rfl,_,.inl rfl,?_⟩
    refine comp_map (fun d=>.bl (ofStr fq d)) trivial (by show ks.length≤100000;lia) (fun d hd Q hQ=>?_) fun p hp=>?_
    ·exact⟨_,rfl,d,rfl,gx.in.2 d hd,hQ⟩
    ·have e2:ks.map (fun d=>D.bl (ofStr fq d))=(ks.map (ofStr fq)).map D.bl:=by rw[zC];rfl
     refine⟨.ref p,ks.map (ofStr fq),rfl,?_,S,.new hp,?_⟩
     ·show (S.set p (.lst (ks.map _))) p=_
      rw[aa,e2]
     ·rw[all_map];exact q
   ·rw[h,zE] at q
    exact fo q
 ·rw[yH] at q
  refine⟨_,rfl,_,b_ _ ws,_,rfl,_,rfl,_,rfl,_,rfl,?_⟩
  refine bz (fun h=>?_) (fun h=>?_)
  ·have h:¬ (2:Int)=(((D.str "not" :: ws).length:Nat):Int):=zD (nt h)
   rw[zf] at h
   rw[zp (by lia)] at q
   exact fo q
  ·have h:(2:Int)=(((D.str "not" :: ws).length:Nat):Int):=zu (nf h)
   rw[zf] at h
   rw[zk (by lia)] at q
   exact⟨_,rfl,_,b_ _ ws,n4,rfl,rfl,_,rfl,ia (by trivial) ⟨_,rfl,_,b_ _ ws,_,rfl,ia (by trivial) ⟨_,rfl,_,b_ _ ws,n2,rfl,rfl,_,rfl,ia (by trivial) (fo q)⟩⟩⟩
 ·rw[yI h] at q
  have fin:∀{x:D},ws=[x]→x9 KP [x] S (fun d S'=>Fo S' (R d)) (fun C S'=>Fo S' (Z C)):=by
   rintro x rfl
   exact⟨x,rfl,(gi x (by simp)).gt,fo q⟩
  have bad:ws.length≠1→R (.bl false) S:=fun n=>by
   rw[AH n] at q;exact q
  rcases h with rfl|rfl
  all_goals
   refine⟨_,rfl,_,b_ _ ws,_,rfl,_,rfl,_,rfl,_,rfl,bz (fun h=>?_) (fun h=>?_)⟩
   ·have h:¬ (2:Int)=(((D.str _::ws).length:Nat):Int):=zD (nt h)
    rw[zf] at h
    exact fo (bad (by lia))
   ·have h:(2:Int)=(((D.str _::ws).length:Nat):Int):=zu (nf h)
    rw[zf] at h
    obtain⟨x,rfl⟩:=vQ (l:=ws) (by lia)
    exact⟨_,rfl,_,rfl,n4,rfl,rfl,_,rfl,ia (by trivial) ⟨_,rfl,_,rfl,_,rfl,ia (by trivial) ⟨_,rfl,_,rfl,n2,rfl,rfl,_,rfl,wK (by trivial) ⟨_,rfl,_,rfl,fin rfl⟩⟩⟩⟩
 ·rw[EI h] at q
  refine⟨_,rfl,_,b_ _ ws,_,rfl,?_⟩
  rw[EJ h]
  exact⟨_,rfl,_,rfl,Od (KQ ⟨_,rfl,aZ (fo q)⟩)⟩
theorem vR{cs:List (Str×Str)}{e:D}(h:fU cs e=true):(∃(o:Str) (ws:List D),e=.tup (.str o::ws)∧o ≠ "not" ∧ ¬(o = "and" ∨ o = "or")∧subs e=[])∨(∃x,e=.tup [.str "not",x])∨∃(o:Str) (es:List D),(o = "and" ∨ o = "or")∧e=.tup [.str o,.tup es]∧es.length≤8:=by
 have hh:=h
 unfold fU at hh
 split at hh
 ·rename_i o ws
  clear hh
  have sb:o ≠ "not" → ¬(o = "and" ∨ o = "or")→subs (.tup (.str o::ws))=[]:=fun n1 n2=>by
   unfold subs
   split
   ·rename_i e;cases e;rw[if_neg n1,if_neg n2]
   ·rfl
  rcases pR o with rfl|ho|rfl|rfl|ho|ho
  ·exact .inl ⟨_,ws,rfl,by decide,by decide,sb (by decide) (by decide)⟩
  ·have n1:o ≠ "not" := by rcases ho with rfl|rfl|rfl|rfl <;> decide
   have n2:¬(o = "and" ∨ o = "or"):=by rcases ho with rfl|rfl|rfl|rfl <;> decide
   exact .inl ⟨o,ws,rfl,n1,n2,sb n1 n2⟩
  ·exact .inl ⟨_,ws,rfl,by decide,by decide,sb (by decide) (by decide)⟩
  ·rw[yH] at h
   obtain⟨x,rfl⟩:=vQ (zu h)
   exact .inr (.inl ⟨x,rfl⟩)
  ·rw[yI ho] at h
   have hl:ws.length=1:=Decidable.byContradiction fun n=>by rw[AH n] at h;cases h
   obtain⟨x,rfl⟩:=vQ hl
   have h:KP x=true:=h
   obtain⟨es,rfl⟩:∃es,x=.tup es:=by cases x <;> first|exact⟨_,rfl⟩|cases h
   exact .inr (.inr ⟨o,es,ho,rfl,zu h⟩)
  ·rw[EI ho] at h;cases h
 ·cases hh
theorem k8{o:Str}(h:o = "and" ∨ o = "or")(es:List D):subs (.tup [.str o,.tup es])=es:=by
 unfold subs
 dsimp only
 rw[if_neg (by rcases h with rfl|rfl <;> decide),if_pos h]
theorem k9(x:D):subs (.tup [.str "not",x])=[x]:=by
 unfold subs
 dsimp only
 rw[if_pos rfl]
theorem EK{cs:List (Str×Str)}{e:D}(h:fU cs e=true):(subs e).length≤8:=by
 rcases vR h with ⟨_,_,_,_,_,h⟩|⟨x,rfl⟩|⟨o,es,ho,rfl,hl⟩
 ·rw[h];exact yq _
 ·rw[k9];simp
 ·rw[k8 ho];exact hl
theorem EL{cs:List (Str×Str)} : ∀{es:List D},(∀e∈es,fU cs e=true)→(es.flatMap subs).length≤8 * es.length:=by
 intro es
 induction es with
 |nil=>exact fun _=>zh _
 |cons e es ih =>
  intro h
  rw[yr,zo,zf]
  have:=EK (h e zj)
  have:=ih fun x hx=>h x (zl _ hx)
  lia
theorem Cj{es:List D}{i:Nat}{e:D}(h:es[i]?=some e):(es.take (i+1)).flatMap subs=(es.take i).flatMap subs++subs e:=by
 rw[take_snoc h,List.flatMap_append,yr,List.flatMap_nil,zR]
theorem mD(T:Txt w K mg t):Ok P w base T.cF 1 (fun ds S R _=>∃l es cs,ds=[.ref l]∧S l=some (.lst es)∧es.length≤200∧(∀e∈es,fU cs e=true)∧∀p,S p=none→R (.ref p) (S.set p (.lst (es.flatMap subs)))):=by
 refine T.cF.F.jk dH ?_
 rintro _ _ _ _ _ _ ds S R Z hr ⟨l,es,cs,e,hl,h8,nI,q⟩
 subst e
 refine⟨_,(sc (dR (i:=1) dH.nd (bA an)) (sc (DL (GS (il (dv 0)) (gn (i:=2) dH.nd) (sc (DL (si (bw bB hr.units (ix hr.units (dv 2) di) ds) (s1 (se (bm zJ zY zZ cB (dv 1) (ac (ix hr.units (dv 2) di) an)))) s0)) (s1 (si (bw qA hr.units (ix hr.units (dv 2) di) (cA (ac ds (ac ds an)))) (s1 (se (bm zJ PySem.F.slot_list_extend PySem.F.type_list_extend rJ (dv 1) (ac (ix hr.units (dv 2) di) an)))) s0))))) (s1 (sr (dv 1))))),?_⟩
 refine⟨sm (show 0≤100000 by decide),fun f hf=>?_⟩
 have Iv:l≠f:=uA hl hf
 have n2:=sm (show 2≤100000 by decide)
 refine⟨fun aA S'=>∃o,aA=[some (.ref l),some (.ref f),o]∧S'=S.set f (.lst (es.flatMap subs)),?_,?_⟩
 ·refine⟨_,rfl,es,(ai Iv).trans hl,?_⟩
  refine⟨fun i aA S'=>∃o,aA=[some (.ref l),some (.ref f),o]∧S'=S.set f (.lst ((es.take i).flatMap subs)),⟨none,rfl,rfl⟩,?_,?_,?_⟩
  ·rintro i aA S' ⟨o,rfl,rfl⟩
   exact (ai Iv).trans hl
  ·rintro i e aA S' he ⟨o,rfl,rfl⟩
   have he:es[i]?=some e:=he
   have Wi:=nI e (zN he)
   have hi:i<es.length:=(yd.mp he).1
   have Wj:((es.take i).flatMap subs).length≤1600:=by
    have:=EL (cs:=cs) (es:=es.take i) fun x hx=>nI x (List.mem_of_mem_take hx)
    rw[yj] at this
    lia
   have more:∃o,[some (D.ref l),some (D.ref f),some e]=[some (.ref l),some (.ref f),o]∧S.set f (.lst ((es.take i).flatMap subs++subs e))=S.set f (.lst ((es.take (i+1)).flatMap subs)):=⟨_,rfl,by rw[Cj he]⟩
   generalize (es.take i).flatMap subs=fs at Wj more ⊢
   have LQ:(S.set f (.lst fs)) f=some (.lst fs):=aa
   rcases vR Wi with ⟨o,ws,rfl,n1,n3,hs⟩|⟨x,rfl⟩|⟨o,xs,ho,rfl,YH⟩
   ·rw[hs,zR] at more
    refine⟨fun Ad S2=>Ad=_∧S2=S.set f (.lst fs),⟨_,rfl,_,b_ _ ws,_,rfl,ia (zp n1) (fo ⟨rfl,rfl⟩)⟩,?_⟩
    rintro _ _ ⟨rfl,rfl⟩
    refine⟨_,rfl,_,b_ _ ws,n2,rfl,rfl,_,rfl,ia ?_ more⟩
    simp only [not_or] at n3
    simp [wZ,lV,eqV,Ne.symm n3.1,Ne.symm n3.2]
   ·rw[k9] at more
    refine⟨fun Ad S2=>Ad=_∧S2=S.set f (.lst (fs++[x])),⟨_,rfl,_,rfl,_,rfl,wK (by trivial) ⟨_,rfl,⟨rfl,_,LQ⟩,_,rfl,_,rfl,f,_,_,rfl,rfl,LQ,by rw[yx];lia,fo ⟨rfl,dE⟩⟩⟩,?_⟩
    rintro _ _ ⟨rfl,rfl⟩
    exact⟨_,rfl,_,rfl,n2,rfl,rfl,_,rfl,ia (by trivial) more⟩
   ·rw[k8 ho] at more
    rw[← dE (c:=.lst fs)] at more
    rcases ho with rfl|rfl
    ·refine⟨fun Ad S2=>Ad=_∧S2=S.set f (.lst fs),⟨_,rfl,_,rfl,_,rfl,ia (by trivial) (fo ⟨rfl,rfl⟩)⟩,?_⟩
     rintro _ _ ⟨rfl,rfl⟩
     exact⟨_,rfl,_,rfl,n2,rfl,rfl,_,rfl,wK (by trivial) ⟨_,rfl,⟨rfl,_,LQ⟩,_,rfl,_,rfl,f,_,_,rfl,rfl,LQ,by rw[yx];lia,more⟩⟩
    ·refine⟨fun Ad S2=>Ad=_∧S2=S.set f (.lst fs),⟨_,rfl,_,rfl,_,rfl,ia (by trivial) (fo ⟨rfl,rfl⟩)⟩,?_⟩
     rintro _ _ ⟨rfl,rfl⟩
     exact⟨_,rfl,_,rfl,n2,rfl,rfl,_,rfl,wK (by trivial) ⟨_,rfl,⟨rfl,_,LQ⟩,_,rfl,_,rfl,f,_,_,rfl,rfl,LQ,by rw[yx];lia,more⟩⟩
  ·rintro aA S' ⟨o,rfl,rfl⟩
   exact fo ⟨o,rfl,by rw[yu]⟩
 ·rintro aA S' ⟨o,rfl,rfl⟩
  exact⟨_,rfl,fo (q f hf)⟩
def Ck(cs:List (Str×Str)):Nat→Nat→List D→Bool
 |0,_,es=>decide (es.length=0)
 |n+1,p,es=>if es.length=0 then true else decide (p+es.length≤200) && (es.all (fU cs) && Ck cs n (p+es.length) (es.flatMap subs))
theorem EM(cs:List (Str×Str))(n p:Nat):Ck cs n p []=true:=by cases n <;> rfl
theorem QA.subs(h:QA S d):∀e∈subs d,QA S e:=by
 intro e he
 unfold My.subs at he
 split at he
 ·rename_i o x
  have hx:QA S x:=h.in (by simp)
  split at he
  ·rw[zz.mp he];exact hx
  ·split at he
   ·split at he
    ·exact hx.in he
    ·cases he
   ·cases he
 ·cases he
def Sw(t:KI):jd:=fun ds S R Z=>∃cs d,ds=[.tup (cs.map aq),d]∧Gd cs∧QA S d∧(Ck cs 8 0 [d]=true→R .aC S)∧(Ck cs 8 0 [d]=false→Z t.gQ S)
theorem pS(T:Txt w K mg t):Ok P w base T.er 6 (Sw t):=by
 refine T.er.F.jk bf ?_
 rintro _ _ _ _ _ _ ds S R Z hr ⟨cs,d,e,hg,hd,q1,q2⟩
 subst e
 obtain⟨b,hb⟩:∃b,Ck cs 8 0 [d]=b:=⟨_,rfl⟩
 rw[hb] at q1 q2
 have n1:=sm (show 1≤100000 by decide)
 refine⟨_,(sc (dR (i:=2) bf.nd (bA (ac (dv 1) an))) (sc (dR (i:=3) bf.nd di) (sc (dR (i:=4) bf.nd di) (s1 (V9 (bw oH hr.units (cb aW T.aR aE (ac (dv 2) an)) di) (sc (Uh (i:=3) bf.nd di) (sc (Uh (i:=4) bf.nd (cb aW T.aR aE (ac (dv 2) an))) (sc (si (twd (twor (bw oH hr.units (dv 3) (dg (v:=.int 8) T.tQ ⟨_,rfl⟩ fun _=>aF _)) (tw1 (bw oH hr.units (dv 4) (dg (v:=.int 200) T.iX ⟨_,rfl⟩ fun _=>aF _))))) (s1 (rF ⟨T.gT⟩ T.mP (ac ds an))) s0) (sc (si (bV (tv (cb f6 T.gm dD (ac (lW (N:=["thing","columns"]) (src:=[none,some 0]) (kr (ae dS) ["columns","sieve","level","deep","parts"] rfl rfl (by trivial)) (il (dv 2)) (nT (show (["thing","columns"]:List Str).Nodup by trivial)) (aM rfl) aN (fun _ _ _ _ _=>lH) (fun _ _ _ _ _=>(cf ((ud T).mono (by decide)) hr T.gf.m T.gf.k T.gf.b d0 (ac (dv 1) (ac (dv 0) an))))) an)))) (s1 (rF ⟨T.gT⟩ T.mP (ac ds an))) s0) (s1 (dR (i:=2) bf.nd (cf ((mD T).mono (by decide)) hr T.cF.m T.cF.k T.cF.b d0 (ac (dv 2) an))))))))))))),?_⟩
 refine⟨_,rfl,sm (show 1≤100000 by decide),fun l0 Oe=>?_⟩
 refine⟨fun m aA S'=>∃(l:Addr) (es:List D) (dp p:Nat),aA=[some (.tup (cs.map aq)),some d,some (.ref l),some (.int dp),some (.int p)]∧S' l=some (.lst es)∧Sub S S'∧(∀e∈es,QA S e)∧dp+m=8∧Ck cs m p es=b,⟨8,l0,[d],0,0,rfl,aa,.new Oe,fun e he=>by rw[zz.mp he];exact hd,rfl,hb⟩,?_⟩
 rintro m aA S' ⟨l,es,dp,p,rfl,hl,sb,nI,YI,FC⟩
 refine⟨_,rfl,_,rfl,.inl ⟨_,hl,_,rfl,?_⟩⟩
 refine bz (fun h1=>?_) (fun h1=>?_)
 ·have J4:0<es.length:=by
   have h1:(0:Int)<((es.length:Nat):Int):=zu h1
   lia
  refine⟨_,rfl,_,rfl,_,rfl,_,rfl,_,rfl,.inl ⟨_,hl,_,rfl,?_⟩⟩
  refine⟨_,rfl,_,rfl,bz (fun h2=>?_) (fun h2=>?_)⟩
  ·have h2:(8:Int)<((dp:Nat):Int)+1:=zu h2
   obtain rfl:m=0:=by lia
   refine⟨n1,S,sb,q2 ?_⟩
   rw[← FC]
   exact zp (by lia)
  have h2:¬ (8:Int)<((dp:Nat):Int)+1:=zD h2
  obtain⟨n,rfl⟩:∃n,m=n+1:=⟨m - 1,by lia⟩
  unfold Ck at FC
  rw[if_neg (by lia)] at FC
  refine⟨_,rfl,_,rfl,bz (fun h3=>?_) (fun h3=>?_)⟩
  ·have h3:(200:Int)<((p:Nat):Int)+((es.length:Nat):Int):=zu h3
   refine⟨n1,S,sb,q2 ?_⟩
   rw[← FC,zp (by lia)];rfl
  have h3:¬ (200:Int)<((p:Nat):Int)+((es.length:Nat):Int):=zD h3
  rw[zk (by lia),zA] at FC
  refine⟨_,rfl,es,hl,?_⟩
  refine comp_map (fun e=>.bl (fU cs e)) hl (by show es.length≤100000;lia) (fun e he Q hQ=>?_) fun p1 fY=>?_
  ·exact⟨_,rfl,_,rfl,cs,e,rfl,hg,(nI e he 2).sub sb,hQ⟩
  have e2:es.map (fun e=>D.bl (fU cs e))=(es.map (fU cs)).map D.bl:=by rw[zC];rfl
  rw[show (⟨es,fun S=>BF S (.ref l) es⟩:Av).xs=es from rfl,e2]
  have s1:=sb.trans (.new (c:=.lst ((es.map (fU cs)).map D.bl)) fY)
  refine⟨.ref p1,es.map (fU cs),rfl,aa,_,rfl,?_⟩
  rw[show (es.map (fU cs)).all id=es.all (fU cs) from all_map]
  refine bz (fun h4=>?_) (fun h4=>?_)
  ·refine⟨n1,S,s1,q2 ?_⟩
   rw[← FC,nt h4];rfl
  have h4:=nf h4
  rw[h4,zA] at FC
  have LR:(S'.set p1 (.lst ((es.map (fU cs)).map D.bl))) l=some (.lst es):=(ai (uA hl fY)).trans hl
  refine⟨_,rfl,l,es,cs,rfl,LR,by lia,zI.mp h4,fun p2 h5=>?_⟩
  refine⟨n,Nat.lt_succ_self n,p2,es.flatMap subs,dp+1,p+es.length,?_,aa,s1.trans (.new h5),fun x hx=>?_,by lia,FC⟩
  ·show [_,_,_,some (D.int (((dp:Nat):Int)+1)),some (D.int (((p:Nat):Int)+((es.length:Nat):Int)))]=_
   rw[show (((dp:Nat):Int)+1)=((dp+1:Nat):Int) by lia,show (((p:Nat):Int)+((es.length:Nat):Int))=((p+es.length:Nat):Int) by lia]
  ·obtain⟨e,he,hx⟩:=yh.mp hx
   exact (nI e he).subs x hx
 ·have h1:¬ (0:Int)<((es.length:Nat):Int):=zD h1
  have e0:es=[]:=zQ (by lia)
  rw[e0,EM] at FC
  exact⟨S,sb,q1 FC.symm⟩
def vS(d:D):Prop:=d=.aC∨(∃n:Int,d=.int n∧n.natAbs<10 ^ 60)∨∃z:Str,d=.str z∧dy z=true
def cw:D→Str
 |.int n => "#" ++ eE n
 |.str z => "\"" ++ ni z
 |_ => "-"
theorem str1(c:Nat)(z s:Str)(h:s=⟨#[c]⟩):(s++z).cps.toList=c::z.cps.toList:=by rw[gF,h];rfl
theorem eV(n:Int):(cw (.int n)).cps.toList=35::(eE n).cps.toList:=str1 35 _ _ (by trivial)
theorem cO(z:Str):(cw (.str z)).cps.toList=34::(ni z).cps.toList:=str1 34 _ _ (by trivial)
theorem rW(n:Int):Txt.slice (cw (.int n)) (some 1) none=eE n:=oP (by rw[Bt (by rw[ak,eV];exact Nat.le_add_left _ _),eV];rfl)
theorem yJ(z:Str):Txt.slice (cw (.str z)) (some 1) none=ni z:=oP (by rw[Bt (by rw[ak,cO];exact Nat.le_add_left _ _),cO];rfl)
theorem AI:("#" : Str)=⟨#[35]⟩:=by trivial
theorem EN:("\"" : Str)=⟨#[34]⟩:=by trivial
theorem rX:("-" : Str)=⟨#[45]⟩:=by trivial
theorem Hd(l:List Nat):(bC 32 [61,98] (bC 61 [61,101] l)).length≤2 * l.length:=by
 induction l with
 |nil=>exact zh _
 |cons c l ih =>
  rw[bF 61]
  by_cases h:c=61
  ·rw[if_pos h,dY,zo,show (bC 32 [61,98] [61,101]).length=2 from rfl,zf];lia
  ·rw[if_neg h,dY,zo,zf]
   have:(bC 32 [61,98] [c]).length≤2:=by
    rw[bF]
    by_cases h2:c=32
    ·rw[if_pos h2];exact zh _
    ·rw[if_neg h2];show 1≤2;decide
   lia
theorem He(l:List Nat):∀c∈bC 32 [61,98] (bC 61 [61,101] l),c≠32∧(c=61∨c=98∨c=101∨c∈l):=by
 induction l with
 |nil=>exact fun _ h=>(nomatch h)
 |cons d l ih =>
  intro c hc
  rw[bF 61] at hc
  have tl:c∈bC 32 [61,98] (bC 61 [61,101] l)→c≠32∧(c=61∨c=98∨c=101∨c∈d::l):=fun h=>by
   obtain⟨a,b⟩:=ih c h
   refine⟨a,?_⟩
   rcases b with b|b|b|b
   ·exact .inl b
   ·exact .inr (.inl b)
   ·exact .inr (.inr (.inl b))
   ·exact .inr (.inr (.inr (zl _ b)))
  by_cases h:d=61
  ·rw[if_pos h,dY,show bC 32 [61,98] [61,101]=[61,101] from rfl] at hc
   rcases zP.mp hc with hc|hc
   ·simp only [zb,ze,or_false] at hc
    rcases hc with rfl|rfl
    ·exact⟨by decide,.inl rfl⟩
    ·exact⟨by decide,.inr (.inr (.inl rfl))⟩
   ·exact tl hc
  ·rw[if_neg h,dY] at hc
   rcases zP.mp hc with hc|hc
   ·rw[bF] at hc
    by_cases h2:d=32
    ·rw[if_pos h2] at hc
     have hc:c∈[61,98]:=by simpa [bC] using hc
     simp only [zb,ze,or_false] at hc
     rcases hc with rfl|rfl
     ·exact⟨by decide,.inl rfl⟩
     ·exact⟨by decide,.inr (.inl rfl)⟩
    ·rw[if_neg h2] at hc
     have hc:c=d:=by simpa [bC] using hc
     subst hc
     exact⟨h2,.inr (.inr (.inr zj))⟩
   ·exact tl hc
theorem pT(z:Str):(ni z).cps.size≤2 * z.cps.size:=by rw[ak,ak,iA];exact Hd _
theorem dN(h:dy z=true):z.cps.size≤40∧∀c∈z.cps.toList,32≤c∧c≤126:=by
 unfold dy at h
 rw[zg,zi,zI] at h
 refine⟨h.1,fun c hc=>?_⟩
 have:=h.2 c hc
 unfold mT at this
 rw[zg,zi,zi] at this
 exact this
theorem pU(h:vS d):(cw d).cps.size≤90∧PyData.strOk (cw d)=true∧32∉(cw d).cps.toList:=by
 rcases h with rfl|⟨n,rfl,hn⟩|⟨z,rfl,hz⟩
 ·exact⟨by trivial,by trivial,by trivial⟩
 ·have hs:=iB hn
  have hc:=BP n
  refine⟨?_,fT.mpr ?_,?_⟩
  ·rw[ak,eV,zf,← ak];lia
  ·rw[eV]
   intro c h
   rcases zb.mp h with rfl|h
   ·decide
   ·have:=hc c h;lia
  ·rw[eV]
   intro h
   rcases zb.mp h with h|h
   ·exact absurd h (by decide)
   ·have:=hc 32 h;lia
 ·obtain⟨h1,h2⟩:=dN hz
  have hs:=pT z
  have hm:=He z.cps.toList
  rw[← iA] at hm
  refine⟨?_,fT.mpr ?_,?_⟩
  ·rw[ak,cO,zf,← ak];lia
  ·rw[cO]
   intro c h
   rcases zb.mp h with rfl|h
   ·decide
   ·rcases (hm c h).2 with rfl|rfl|rfl|h
    ·decide
    ·decide
    ·decide
    ·have:=h2 c h;lia
  ·rw[cO]
   intro h
   rcases zb.mp h with h|h
   ·exact absurd h (by decide)
   ·exact (hm 32 h).1 rfl
def mX(l:List Nat):Bool:=decide (l=[48]) || !decide (l.head?=some 48)
def yK(l:List Nat)(most:Nat):Bool:=if l.head?=some 45 then dZ (l.drop 1) most && (!decide (l.drop 1=[48]) && mX (l.drop 1)) else dZ l most && mX l
def qT(l:List Nat):Bool:=if l.head?=some 35 then yK (l.drop 1) 60 else if l.head?=some 34 then D1 (l.drop 1) else decide (l=[45])
def Told(z:Str)(d:D):Prop:=(z = "-" ∧ d=.aC)∨(z.cps.toList.head?=some 35∧∃n:Int,n.natAbs<10 ^ 60∧intText? (Txt.slice z (some 1) none)=some n∧(Txt.slice z (some 1) none).cps.size≤61∧d=.int n)∨(z.cps.toList.head?=some 34∧d=.str (xx (Txt.slice z (some 1) none)))
theorem bL{z:Str}{c:Nat}(h:z.cps.toList.head?=some c):1≤z.cps.size:=by
 rw[ak]
 cases e:z.cps.toList with
 |nil=>rw[e] at h;cases h
 |cons a l=>exact Nat.le_add_left _ _
theorem head_drop(h:l.head?=some c):l=c::l.drop 1:=by
 cases l with
 |nil=>cases h
 |cons a l=>cases h;rfl
theorem EO(hm:most≤60)(h:yK z.cps.toList most=true):∃n:Int,intText? z=some n∧n.natAbs<10 ^ 60∧z.cps.size≤61:=by
 unfold yK at h
 by_cases hh:z.cps.toList.head?=some 45
 ·rw[if_pos hh,zg] at h
  obtain⟨n,h1,h2,_⟩:=rL (head_drop hh) hm h.1
  have:=(je h.1).2.1
  exact⟨n,h1,h2,by rw[ak,head_drop hh,zf];lia⟩
 ·rw[if_neg hh,zg] at h
  obtain⟨n,h1,h2,_⟩:=vc hm h.1
  have:=(je h.1).2.1
  exact⟨n,h1,h2,by rw[ak];lia⟩
theorem rY(h:qT z.cps.toList=true):∃d,Told z d∧vS d:=by
 unfold qT at h
 by_cases h1:z.cps.toList.head?=some 35
 ·rw[if_pos h1,← Bt (bL h1)] at h
  obtain⟨n,a,b,c⟩:=EO (by decide) h
  exact⟨.int n,.inr (.inl ⟨h1,n,b,a,c,rfl⟩),.inr (.inl ⟨n,rfl,b⟩)⟩
 ·rw[if_neg h1] at h
  by_cases h2:z.cps.toList.head?=some 34
  ·rw[if_pos h2,← Bt (bL h2)] at h
   refine⟨_,.inr (.inr ⟨h2,rfl⟩),.inr (.inr ⟨_,rfl,?_⟩)⟩
   unfold D1 at h
   simp only [zg,zi] at h
   unfold dy mT
   rw[zg,zi,ak,kH]
   exact⟨h.2.1,h.2.2⟩
  ·rw[if_neg h2,zi] at h
   exact⟨.aC,.inl ⟨oP (by rw[h,rX]),rfl⟩,.inl rfl⟩
theorem fV(T:Txt w K mg t):Ok P w base T.bc 1 (fun ds S R _=>∃d,ds=[d]∧vS d∧R (.str (cw d)) S):=by
 refine T.bc.F.ok qP (by rintro ds S R Z ⟨_,e,_⟩;exact by rw[e];rfl) (fun cn A outer s H E ds S R Z hr ⟨d,e,hd,q⟩=>?_)
 subst e
 refine⟨_,(sc (si (bw xp hr.units (dv 0) dn) (s1 (sr ds)) s0) (sc (si (tv (cb bx T.aj ah (ac (dv 0) (ac (jw T.eJ cq) an)))) (s1 (sr (ga (gr (gr (g1 (dv 0)))) hr.units))) s0) (s1 (sr (bo bN hr.units ds (ct DU T.eJ cq (ac (dv 0) an))))))),?_⟩
 rcases hd with rfl|⟨n,rfl,hn⟩|⟨z,rfl,hz⟩
 ·exact⟨_,rfl,_,rfl,aZ (fo q)⟩
 ·refine⟨_,rfl,_,rfl,ay ⟨_,rfl,_,_,_,_,rfl,bU,rfl,_,rfl,ay ⟨_,rfl,n,rfl,sT hn,sm ?_,fo q⟩⟩⟩
  have:=iB hn
  show 1+(eE n).cps.size≤_
  lia
 ·obtain⟨h1,_⟩:=dN hz
  refine⟨_,rfl,_,rfl,ay ⟨_,rfl,_,_,_,_,rfl,bU,rfl,_,rfl,aZ ⟨_,rfl,z,rfl,?_,_,rfl,?_,sm ?_,fo q⟩⟩⟩
  ·show z.cps.size+(z.cps.size+1) * 2≤_;lia
  ·have:(Txt.replace z "=" "=e").cps.size≤2 * z.cps.size:=by
    rw[ak,ak,show ("=" : Str)=⟨#[61]⟩ by trivial,rep1]
    generalize z.cps.toList=l
    rw[show ("=e" : Str).cps.toList=[61,101] by trivial]
    induction l with
    |nil=>exact zh _
    |cons c l ih =>
     rw[bF,zo,zf]
     by_cases h:c=61
     ·rw[if_pos h];show 2+_≤_;lia
     ·rw[if_neg h];show 1+_≤_;lia
   show (Txt.replace z "=" "=e").cps.size+((Txt.replace z "=" "=e").cps.size+1) * 2≤_
   lia
  ·have:=pT z
   show 1+(ni z).cps.size≤_
   lia
theorem Hf(hy:y.cps.toList.length≤2):(Txt.replace z ⟨#[a,b]⟩ y).cps.size≤2 * z.cps.size:=by
 rw[ak,ak,oR]
 have:∀(n:Nat) (l:List Nat),l.length≤n→(rep2 a b y.cps.toList l).length≤2 * l.length:=by
  intro n
  induction n with
  |zero=>intro l hl;rw[zQ (Nat.le_zero.mp hl)];exact zh _
  |succ n ih =>
   intro l hl
   match l with
   |[]=>exact zh _
   |[x] =>
    rw[rep2]
    ·simp
    ·intro _ _ _ h;cases h
   |x::u::r =>
    by_cases h:x=a∧u=b
    ·rw[h.1,h.2,kG,zo]
     have:=ih r (by simp at hl;lia)
     simp only [zf] at *;lia
    ·rw[rep2,if_neg h]
     have:=ih (u::r) (by simp at hl ⊢;lia)
     simp only [zf] at *;lia
 exact this _ _ (zh _)
theorem dP(T:Txt w K mg t):Ok P w base T.aJ 1 (fun ds S R _=>∃z d,ds=[.str z]∧z.cps.size≤90000∧Told z d∧R d S):=by
 refine T.aJ.F.ok mq (by rintro ds S R Z ⟨_,_,e,_⟩;exact by rw[e];rfl) (fun cn A outer s H E ds S R Z hr ⟨z,d,e,hz,ht,q⟩=>?_)
 subst e
 refine⟨_,(sc (si (bw bB hr.units (dv 0) ds) (s1 (sr dn)) s0) (sc (si (tv (bm zH PySem.F.slot_str_startswith PySem.F.type_str_startswith kD (dv 0) (ac ds an))) (s1 (sr (ct DR T.rQ lQ (ac (sl (dv 0) (o1 di) o0) an)))) s0) (s1 (sr (gd (gr (gr (gs (dv 0))))))))),?_⟩
 have FD:z.length≤sizeLine:=sm (by show z.cps.size≤_;lia)
 rcases ht with ⟨rfl,rfl⟩|⟨h1,n,hn,M5,Wk,rfl⟩|⟨h1,rfl⟩
 ·exact⟨_,rfl,_,rfl,bz (fun _=>fo q) (fun h=>by
   have h:decide (("-" : Str) = "-")=false:=h
   exact absurd rfl (zD h))⟩
 ·refine⟨_,rfl,_,rfl,bz (fun h=>?_) (fun _=>?_)⟩
  ·have h:z = "-" := zu h
   rw[h,rX] at h1;cases h1
  refine⟨_,rfl,rfl,_,_,rfl,rfl,_,rfl,?_⟩
  rw[show Txt.startswith z "#" = true by rw[AI,fA,zk h1]]
  exact aZ ⟨_,rfl,_,rfl,FD,_,n,rfl,M5,zt Wk (by decide),fo q⟩
 ·refine⟨_,rfl,_,rfl,bz (fun h=>?_) (fun _=>?_)⟩
  ·have h:z = "-" := zu h
   rw[h,rX] at h1;cases h1
  refine⟨_,rfl,rfl,_,_,rfl,rfl,_,rfl,?_⟩
  rw[show Txt.startswith z "#" = false by rw[AI,fA,h1];rfl]
  have Rw:(Txt.slice z (some 1) none).cps.size≤90000:=by rw[ak,Bt (bL h1),yk,← ak];lia
  have uH:(Txt.replace (Txt.slice z (some 1) none) "=b" " ").cps.size≤180000:=by
   rw[show ("=b" : Str)=⟨#[61,98]⟩ by trivial]
   exact zt (Hf (by trivial)) (by lia)
  refine ay ⟨_,rfl,FD,_,rfl,?_,_,rfl,?_,fo q⟩
  ·show (Txt.slice z (some 1) none).cps.size+((Txt.slice z (some 1) none).cps.size+1) * 1≤_;lia
  ·show (Txt.replace (Txt.slice z (some 1) none) "=b" " ").cps.size+((Txt.replace (Txt.slice z (some 1) none) "=b" " ").cps.size+1) * 1≤_
   lia
theorem k_(T:Txt w K mg t):Ok P w base T.bQ 2 (fun ds S R _=>∃(z:Str) (m:Nat),ds=[.str z,.int (m:Nat)]∧z.cps.size≤90000∧m≤60∧R (.bl (yK z.cps.toList m)) S):=by
 refine T.bQ.F.ok fJ (by rintro ds S R Z ⟨_,_,e,_⟩;exact by rw[e];rfl) (fun cn A outer s H E ds S R Z hr ⟨z,m,e,hz,hm,q⟩=>?_)
 subst e
 have FD:z.length≤sizeLine:=sm (by show z.cps.size≤_;lia)
 refine⟨_,(sc (dR (i:=2) fJ.nd (T5 (tv (bm zH PySem.F.slot_str_startswith PySem.F.type_str_startswith kD (dv 0) (ac ds an))) (sl (dv 0) (o1 di) o0) (dv 0))) (sc (si (twd (twor (bV (Ry lU lU hr.units di (cb aW T.aR aE (ac (dv 2) an)) (dv 1))) (tw1 (bV (tv (cb f6 T.gm dD (ac (lW (N:=["sign"]) (src:=[none]) (kr (ae bX) ["text","most","figures"] rfl rfl (by trivial)) (GU (dv 2)) (nT (show (["sign"]:List Str).Nodup by trivial)) (aM rfl) aN (fun _ _ _ _ _=>lH) (fun _ _ _ _ _=>(cf ((kX T).mono (by decide)) hr T.cR.m T.cR.k T.cR.b d0 (ac (dv 0) an)))) an))))))) (s1 (sr db)) s0) (s1 (sr (cm bB hr.units (ct DU T.eJ cq (ac (ct DR T.rQ lQ (ac (dv 0) an)) an)) (dv 0)))))),?_⟩
 refine⟨_,rfl,rfl,_,_,rfl,rfl,_,rfl,?_⟩
 unfold yK at q
 by_cases hh:z.cps.toList.head?=some 45
 ·rw[if_pos hh,← Bt (bL hh)] at q
  rw[show Txt.startswith z "-" = true by rw[rX,fA,zk hh]]
  refine aZ ⟨_,rfl,_,rfl,FD,?_⟩
  have Uk:(Txt.slice z (some 1) none).cps.size≤90000:=by rw[ak,Bt (bL hh),yk,← ak];lia
  have hint:dZ (Txt.slice z (some 1) none).cps.toList m=true→∃n:Int,intText? z=some n∧n.natAbs<10 ^ 60∧z.length≤640∧decide (eE n=z)=(!decide ((Txt.slice z (some 1) none).cps.toList=[48]) && mX (Txt.slice z (some 1) none).cps.toList):=fun hd=>by
   have e:=head_drop hh
   rw[← Bt (bL hh)] at e
   obtain⟨n,a,b,c⟩:=rL e hm hd
   have hl:=(je hd).2.1
   exact⟨n,a,b,by show z.cps.size≤_;rw[ak,e,zf];lia,c⟩
  generalize Txt.slice z (some 1) none=f at q Uk hint ⊢
  refine⟨_,rfl,_,rfl,sm (by show f.cps.size≤_;lia),_,rfl,?_⟩
  have e1:decide ((1:Int)≤((f.length:Nat):Int))=decide (1≤f.cps.toList.length):=by rw[zM,← ak];show (1:Int)≤((f.cps.size:Nat):Int)↔_;lia
  have e2:decide (((f.length:Nat):Int)≤((m:Nat):Int))=decide (f.cps.toList.length≤m):=by rw[zM,← ak];show ((f.cps.size:Nat):Int)≤_↔_;lia
  refine bz (fun h2=>?_) (fun h2=>?_)
  ·have Gx:=e1.symm.trans h2
   refine⟨_,rfl,_,rfl,?_⟩
   refine bz (fun h3=>?_) (fun h3=>?_)
   ·have hd:dZ f.cps.toList m=false:=by unfold dZ;rw[Gx,e2.symm.trans (nt h3)];rfl
    rw[hd,zE] at q
    exact fo q
   ·have Sy:=e2.symm.trans (nf h3)
    refine⟨_,rfl,f,rfl,?_⟩
    refine comp_map (I:=⟨bK f,fun _=>True⟩) (jE gu) trivial (by show (bK f).length≤_;unfold bK;rw[za,yc];lia) (fun d hd Q hQ=>?_) fun p hp=>?_
    ·obtain⟨c,hc,rfl⟩:=my hd
     exact⟨_,rfl,c,rfl,by simpa [jE] using hQ⟩
    refine⟨.ref p,f.cps.toList.map gu,rfl,(show (S.set p (.lst ((bK f).map (jE gu)))) p=_ by rw[aa,mz]),_,rfl,?_⟩
    have ed:dZ f.cps.toList m=(f.cps.toList.map gu).all id:=by
     unfold dZ
     rw[Gx,Sy,zA,zA,all_map];rfl
    rw[← ed]
    cases hd:dZ f.cps.toList m with
    |false =>
     rw[hd,zE] at q
     exact aZ ⟨S,.new hp,q⟩
    |true =>
     rw[hd,zA] at q
     obtain⟨n,a,b,c,d⟩:=hint hd
     rw[← d] at q
     exact ay ⟨_,rfl,_,n,rfl,a,c,n,rfl,sT b,_,rfl,S,.new hp,q⟩
  ·have hd:dZ f.cps.toList m=false:=by unfold dZ;rw[e1.symm.trans h2];rfl
   rw[hd,zE] at q
   refine⟨_,rfl,?_⟩
   exact aZ (fo q)
 ·rw[if_neg hh] at q
  rw[show Txt.startswith z "-" = false by rw[rX,fA,zp hh]]
  refine ay ⟨_,rfl,?_⟩
  have hint:dZ z.cps.toList m=true→∃n:Int,intText? z=some n∧n.natAbs<10 ^ 60∧z.length≤640∧decide (eE n=z)=mX z.cps.toList:=fun hd=>by
   obtain⟨n,a,b,c⟩:=vc hm hd
   have hl:=(je hd).2.1
   exact⟨n,a,b,by show z.cps.size≤_;rw[ak];lia,c⟩
  obtain⟨f,hf⟩:∃f,f=z:=⟨z,rfl⟩
  have Uk:f.cps.size≤90000:=by rw[hf];exact hz
  rw[← hf] at q
  have hint:dZ f.cps.toList m=true→∃n:Int,intText? z=some n∧n.natAbs<10 ^ 60∧z.length≤640∧decide (eE n=z)=mX f.cps.toList:=by rw[hf];exact hint
  subst hf
  refine⟨_,rfl,_,rfl,sm (by show f.cps.size≤_;lia),_,rfl,?_⟩
  have e1:decide ((1:Int)≤((f.length:Nat):Int))=decide (1≤f.cps.toList.length):=by rw[zM,← ak];show (1:Int)≤((f.cps.size:Nat):Int)↔_;lia
  have e2:decide (((f.length:Nat):Int)≤((m:Nat):Int))=decide (f.cps.toList.length≤m):=by rw[zM,← ak];show ((f.cps.size:Nat):Int)≤_↔_;lia
  refine bz (fun h2=>?_) (fun h2=>?_)
  ·have Gx:=e1.symm.trans h2
   refine⟨_,rfl,_,rfl,?_⟩
   refine bz (fun h3=>?_) (fun h3=>?_)
   ·have hd:dZ f.cps.toList m=false:=by unfold dZ;rw[Gx,e2.symm.trans (nt h3)];rfl
    rw[hd,zE] at q
    exact fo q
   ·have Sy:=e2.symm.trans (nf h3)
    refine⟨_,rfl,f,rfl,?_⟩
    refine comp_map (I:=⟨bK f,fun _=>True⟩) (jE gu) trivial (by show (bK f).length≤_;unfold bK;rw[za,yc];lia) (fun d hd Q hQ=>?_) fun p hp=>?_
    ·obtain⟨c,hc,rfl⟩:=my hd
     exact⟨_,rfl,c,rfl,by simpa [jE] using hQ⟩
    refine⟨.ref p,f.cps.toList.map gu,rfl,(show (S.set p (.lst ((bK f).map (jE gu)))) p=_ by rw[aa,mz]),_,rfl,?_⟩
    have ed:dZ f.cps.toList m=(f.cps.toList.map gu).all id:=by
     unfold dZ
     rw[Gx,Sy,zA,zA,all_map];rfl
    rw[← ed]
    cases hd:dZ f.cps.toList m with
    |false =>
     rw[hd,zE] at q
     exact aZ ⟨S,.new hp,q⟩
    |true =>
     rw[hd,zA] at q
     obtain⟨n,a,b,c,d⟩:=hint hd
     rw[← d] at q
     exact ay ⟨_,rfl,_,n,rfl,a,c,n,rfl,sT b,_,rfl,S,.new hp,q⟩
  ·have hd:dZ f.cps.toList m=false:=by unfold dZ;rw[e1.symm.trans h2];rfl
   rw[hd,zE] at q
   refine⟨_,rfl,?_⟩
   exact aZ (fo q)
theorem AJ(hy:y.length≤2):∀(n:Nat) (l:List Nat),l.length≤n→(rep2 a b y l).length≤l.length:=by
 intro n
 induction n with
 |zero=>intro l hl;rw[zQ (Nat.le_zero.mp hl)];exact zh _
 |succ n ih =>
  intro l hl
  match l with
  |[]=>exact zh _
  |[x] =>
   rw[rep2]
   ·exact zh _
   ·intro _ _ _ h;cases h
  |x::u::r =>
   by_cases h:x=a∧u=b
   ·rw[h.1,h.2,kG,zo]
    have:=ih r (by simp at hl;lia)
    simp only [zf] at *;lia
   ·rw[rep2,if_neg h]
    have:=ih (u::r) (by simp at hl ⊢;lia)
    simp only [zf] at *;lia
theorem Hg(z:Str):(xx z).cps.size≤z.cps.size:=by
 rw[ak,ak,kH]
 exact zt (AJ (by decide) _ _ (zh _)) (AJ (by decide) _ _ (zh _))
theorem ER(z:Str):decide (z = "-")=decide (z.cps.toList=[45]):=by
 rw[zM,rX]
 exact⟨fun h=>by rw[h],fun h=>oP h⟩
theorem KR(z:Str)(h:z.cps.toList.head?=some 34):D1 (z.cps.toList.drop 1)=(dy (xx (Txt.slice z (some 1) none)) && decide (cw (.str (xx (Txt.slice z (some 1) none)))=z)):=by
 have hs:=Bt (bL h)
 have e:decide (cw (.str (xx (Txt.slice z (some 1) none)))=z)=decide (BQ (GX (z.cps.toList.drop 1))=z.cps.toList.drop 1):=by
  rw[zM]
  have hl:(cw (.str (xx (Txt.slice z (some 1) none)))).cps.toList=34::BQ (GX (z.cps.toList.drop 1)):=by
   rw[cO,iA,kH,hs];rfl
  constructor
  ·intro q
   rw[q,head_drop h] at hl
   injection hl with _ hl
   exact hl.symm
  ·intro q
   refine oP ?_
   rw[hl,q,← head_drop h]
 have e2:dy (xx (Txt.slice z (some 1) none))=(decide ((GX (z.cps.toList.drop 1)).length≤40) && (GX (z.cps.toList.drop 1)).all fun c=>decide (32≤c) && decide (c≤126)):=by
  unfold dy mT
  rw[ak,kH,hs];rfl
 rw[e,e2,Bool.and_comm]
 rfl
theorem mE(T:Txt w K mg t):Ok P w base T.cE 3 (fun ds S R _=>∃z,ds=[.str z]∧z.cps.size≤90000∧R (.bl (qT z.cps.toList)) S):=by
 refine T.cE.F.ok mn (by rintro ds S R Z ⟨_,e,_⟩;exact by rw[e];rfl) (fun cn A outer s H E ds S R Z hr ⟨z,e,hz,q⟩=>?_)
 subst e
 have FD:z.length≤sizeLine:=sm (by show z.cps.size≤_;lia)
 refine⟨_,(sc (si (tv (bm zH PySem.F.slot_str_startswith PySem.F.type_str_startswith kD (dv 0) (ac ds an))) (s1 (sr (cf ((k_ T).mono (by decide)) hr T.bQ.m T.bQ.k T.bQ.b d0 (ac (sl (dv 0) (o1 di) o0) (ac (dg (v:=.int 60) T.gR ⟨_,rfl⟩ fun _=>aF _) an))))) s0) (sc (si (tv (bm zH PySem.F.slot_str_startswith PySem.F.type_str_startswith kD (dv 0) (ac ds an))) (s1 (sr (kA (cf ((pO T).mono (by decide)) hr T.fF.m T.fF.k T.fF.b d0 (ac (cf ((dP T).mono (by decide)) hr T.aJ.m T.aJ.k T.aJ.b d0 (ac (dv 0) an)) an)) (wH (cm bB hr.units (cf ((fV T).mono (by decide)) hr T.bc.m T.bc.k T.bc.b d0 (ac (cf ((dP T).mono (by decide)) hr T.aJ.m T.aJ.k T.aJ.b d0 (ac (dv 0) an)) an)) (dv 0)))))) s0) (s1 (sr (cm bB hr.units (dv 0) ds))))),?_⟩
 refine⟨_,rfl,rfl,_,_,rfl,rfl,_,rfl,?_⟩
 unfold qT at q
 by_cases h1:z.cps.toList.head?=some 35
 ·rw[if_pos h1,← Bt (bL h1)] at q
  rw[show Txt.startswith z "#" = true by rw[AI,fA,zk h1]]
  exact aZ ⟨_,rfl,_,rfl,FD,_,60,rfl,by rw[ak,Bt (bL h1),yk,← ak];lia,by decide,fo q⟩
 rw[if_neg h1] at q
 rw[show Txt.startswith z "#" = false by rw[AI,fA,zp h1]]
 refine ay ⟨_,rfl,rfl,_,_,rfl,rfl,_,rfl,?_⟩
 by_cases h2:z.cps.toList.head?=some 34
 ·rw[if_pos h2,KR z h2] at q
  rw[show Txt.startswith z "\"" = true by rw[EN,fA,zk h2]]
  have ht:Told z (.str (xx (Txt.slice z (some 1) none))):=.inr (.inr ⟨h2,rfl⟩)
  have Rw:(Txt.slice z (some 1) none).cps.size≤90000:=by rw[ak,Bt (bL h2),yk,← ak];lia
  have HU:=Hg (Txt.slice z (some 1) none)
  refine aZ ⟨_,rfl,z,_,rfl,hz,ht,_,rfl,gt_str (by lia),_,rfl,?_⟩
  show if ofStr dy (.str (xx (Txt.slice z (some 1) none)))=true then _ else _
  refine bz (fun h=>?_) (fun h=>?_)
  ·have h:dy (xx (Txt.slice z (some 1) none))=true:=h
   rw[h,zA] at q
   exact⟨_,rfl,z,_,rfl,hz,ht,_,rfl,.inr (.inr ⟨_,rfl,h⟩),_,rfl,fo q⟩
  ·have h:dy (xx (Txt.slice z (some 1) none))=false:=h
   rw[h,zE] at q
   exact fo q
 ·rw[if_neg h2,← ER] at q
  rw[show Txt.startswith z "\"" = false by rw[EN,fA,zp h2]]
  exact ay ⟨_,rfl,fo q⟩
theorem gw(T:Txt w K mg t):Ok P w base T.a_ 4 (fun ds S R Z=>∃z,ds=[.str z]∧z.cps.size≤90000∧(qT z.cps.toList=true→∀d,Told z d→vS d→R d S)∧(qT z.cps.toList=false→Z t.aY S)):=by
 refine T.a_.F.ok mr (by rintro ds S R Z ⟨_,e,_⟩;exact by rw[e];rfl) (fun cn A outer s H E ds S R Z hr ⟨z,e,hz,q1,q2⟩=>?_)
 subst e
 refine⟨_,(sc (si (bV (tv (cf ((mE T).mono (by decide)) hr T.cE.m T.cE.k T.cE.b d0 (ac (dv 0) an)))) (s1 (rF ⟨T.dm⟩ T.dG (ac ds an))) s0) (s1 (sr (cf ((dP T).mono (by decide)) hr T.aJ.m T.aJ.k T.aJ.b d0 (ac (dv 0) an))))),?_⟩
 refine⟨_,rfl,z,rfl,hz,_,rfl,?_⟩
 refine bz (fun h=>?_) (fun h=>?_)
 ·exact⟨sm (show 1≤100000 by decide),fo (q2 (nt h))⟩
 ·obtain⟨d,h1,h2⟩:=rY (nf h)
  exact⟨_,rfl,z,d,rfl,hz,h1,fo (q1 (nf h) d h1 h2)⟩
theorem ib(T:Txt w K mg t):Ok P w base T.bq 1 (fun ds S R _=>∃d,ds=[d]∧vS d∧R (.str (cw d)) S):=by
 refine T.bq.F.ok nG (by rintro ds S R Z ⟨_,e,_⟩;exact by rw[e];rfl) (fun cn A outer s H E ds S R Z hr ⟨d,e,hd,q⟩=>?_)
 subst e
 refine⟨_,(sc (si (bw xp hr.units (dv 0) dn) (s1 (sr ds)) s0) (sc (si (tv (cb bx T.aj ah (ac (dv 0) (ac (jw T.eJ cq) an)))) (s1 (sr (ga (gr (gr (g1 (dv 0)))) hr.units))) s0) (s1 (sr (bo bN hr.units ds (ct DU T.eJ cq (ac (dv 0) an))))))),?_⟩
 rcases hd with rfl|⟨n,rfl,hn⟩|⟨z,rfl,hz⟩
 ·exact⟨_,rfl,_,rfl,aZ (fo q)⟩
 ·refine⟨_,rfl,_,rfl,ay ⟨_,rfl,_,_,_,_,rfl,bU,rfl,_,rfl,ay ⟨_,rfl,n,rfl,sT hn,sm ?_,fo q⟩⟩⟩
  have:=iB hn
  show 1+(eE n).cps.size≤_
  lia
 ·obtain⟨h1,_⟩:=dN hz
  refine⟨_,rfl,_,rfl,ay ⟨_,rfl,_,_,_,_,rfl,bU,rfl,_,rfl,aZ ⟨_,rfl,z,rfl,?_,_,rfl,?_,sm ?_,fo q⟩⟩⟩
  ·show z.cps.size+(z.cps.size+1) * 2≤_;lia
  ·have:(Txt.replace z "=" "=e").cps.size≤2 * z.cps.size:=by
    rw[ak,ak,show ("=" : Str)=⟨#[61]⟩ by trivial,rep1]
    generalize z.cps.toList=l
    rw[show ("=e" : Str).cps.toList=[61,101] by trivial]
    induction l with
    |nil=>exact zh _
    |cons c l ih =>
     rw[bF,zo,zf]
     by_cases h:c=61
     ·rw[if_pos h];show 2+_≤_;lia
     ·rw[if_neg h];show 1+_≤_;lia
   show (Txt.replace z "=" "=e").cps.size+((Txt.replace z "=" "=e").cps.size+1) * 2≤_
   lia
  ·have:=pT z
   show 1+(ni z).cps.size≤_
   lia
def Rd(S:aK)(d:D):Prop:=(∃k,GQ S d k)∧∀z,d=.str z→z.cps.size≤90000∧PyData.strOk z=true
theorem fL(T:Txt w K mg t):Ok P w base T.words_of 1 (fun ds S R Z=>∃d,ds=[d]∧Rd S d∧(∀z,d=.str z→∀p,S p=none→R (.ref p) (S.set p (.lst ((cW z).map D.str))))∧((∀z,d≠.str z)→Z t.aY S)):=by
 refine T.words_of.F.ok vM (by rintro ds S R Z ⟨d,e,_⟩;exact by rw[e];rfl) (fun cn A outer s H E ds S R Z hr ⟨d,e,⟨⟨k,hk⟩,hz⟩,q1,q2⟩=>?_)
 subst e
 refine⟨_,(sc (si (bV (tv (cb bx T.aj ah (ac (dv 0) (ac (jw T.eJ cq) an))))) (s1 (rF ⟨T.dm⟩ T.dG (ac ds an))) s0) (s1 (sr (bm zH PySem.F.slot_str_split PySem.F.type_str_split m_split (dv 0) (ac ds an))))),?_⟩
 refine⟨_,rfl,_,_,_,_,rfl,bU,hk,_,rfl,?_⟩
 rcases mC hk with ⟨z,rfl,h0⟩|⟨h0,h1⟩
 ·rw[h0]
  refine ay ⟨_,rfl,rfl,z, " ",rfl,rfl,rfl,?_,fun p hp=>fo (q1 z rfl p hp)⟩
  have:=(hz z rfl).1
  rw[yx]
  show z.cps.size+2≤_
  lia
 ·rw[h0]
  refine aZ ⟨sm (show 1≤100000 by decide),fo (q2 fun z e=>?_)⟩
  have:=h1 fun _=>true
  rw[e] at this
  cases this
theorem Cm(h:∀c v,f (.tup [aq c,v])=.bl (i5 c.2 v)):(gD (cs.map aq) ws).map f=(List.zipWith (fun c v=>i5 c.2 v) cs ws).map D.bl:=by
 unfold gD
 induction cs generalizing ws with
 |nil=>cases ws <;> rfl
 |cons c cs ih =>
  cases ws with
  |nil=>rfl
  |cons v ws =>
   show f (.tup [aq c,v])::(List.zipWith _ (cs.map aq) ws).map f=.bl (i5 c.2 v)::_
   rw[h,ih]
def pairF:D→D
 |.tup [.tup [_,.str k],v]=>.bl (i5 k v)
 |_=>.aC
theorem qU(T:Txt w K mg t):Ok P w base T.fc 4 (fun ds S R _=>∃cs d,ds=[.tup (cs.map aq),d]∧cs.length≤8∧Ob S d∧R (.bl (kY cs d)) S):=by
 refine T.fc.F.ok qO (by rintro ds S R Z ⟨d,d',e,_⟩;exact by rw[e];rfl) (fun cn A outer s H E ds S R Z hr ⟨cs,d,e,hl,⟨⟨⟨k,hk⟩,hz⟩,hw⟩,q⟩=>?_)
 subst e
 refine⟨_,(sc (si (twd (twor (bV (tv (cb bx T.aj ah (ac (dv 1) (ac (jw T.aL ax) an))))) (tw1 (bw eW hr.units (cb aW T.aR aE (ac (dv 1) an)) (cb aW T.aR aE (ac (dv 0) an)))))) (s1 (sr db)) s0) (s1 (sr (cb f6 T.gm dD (ac (lW (N:=["column","value"]) (src:=[none,none]) (kr (ae eN) ["columns","thing"] rfl rfl (by trivial)) (VV T.Oa (ac (dv 0) (ac (dv 1) an))) (NQ (show (["column","value"]:List Str).Nodup by trivial)) (ko rfl rfl) kF (fun _ _ _ _ _=>lH) (fun _ _ _ _ _=>(cf ((mV T).mono (by decide)) hr T.d_.m T.d_.k T.d_.b d0 (ac (ix hr.units (dv 0) di) (ac (dv 1) an))))) an))))),?_⟩
 refine⟨_,rfl,_,_,_,_,rfl,aI,hk,_,rfl,?_⟩
 rcases pM hk with ⟨ws,rfl,h0⟩|⟨h0,h1⟩
 ·obtain⟨Hh,wL⟩:=hw ws rfl
  rw[h0]
  refine ay ⟨_,rfl,_,rfl,_,rfl,_,rfl,_,rfl,?_⟩
  have e1:decide (((ws.length:Nat):Int)=(((cs.map aq).length:Nat):Int))=decide (ws.length=cs.length):=by rw[zM,za];omega
  unfold kY at q
  dsimp only at q
  show if (if true=true then !decide (((ws.length:Nat):Int)=(((cs.map aq).length:Nat):Int)) else _)=true then _ else _
  rw[if_pos rfl,e1]
  refine bz (fun h=>?_) (fun h=>?_)
  ·rw[nt h,zE] at q
   exact fo q
  ·have h:=nf h
   rw[h,zA] at q
   have h:=zu h
   refine⟨_,rfl,_,rfl,cs.map aq,ws,rfl,by rw[za];exact h.symm,?_⟩
   refine comp_map pairF trivial (by show (gD (cs.map aq) ws).length≤100000;unfold gD;rw[List.length_zipWith,za];omega) (fun d hd Q hQ=>?_) fun p hp=>?_
   ·unfold gD at hd
    obtain⟨i,ei⟩:=List.getElem?_of_mem hd
    obtain⟨x,y,e2,e3,e4⟩:=List.getElem?_zipWith_eq_some.mp ei
    subst e4
    rw[zV] at e2
    cases e5:cs[i]? with
    |none=>rw[e5] at e2;cases e2
    |some c =>
     rw[e5] at e2;cases e2
     exact⟨_,rfl,rfl,_,_,rfl,_,_,rfl,rfl,_,rfl,_,rfl,_,rfl,c.2,y,rfl,wL y (zN e3),hQ⟩
   ·refine⟨.ref p,List.zipWith (fun c v=>i5 c.2 v) cs ws,rfl,?_,S,.new hp,q⟩
    show (S.set p (.lst ((gD (cs.map aq) ws).map pairF))) p=_
    rw[aa,Cm fun _ _=>rfl]
 ·rw[h0]
  have e:kY cs d=false:=by
   cases d with
   |tup ws=>exact absurd rfl (h1 ws)
   |_=>rfl
  rw[e] at q
  exact aZ (aZ (fo q))
theorem ue(T:Txt w K mg t):Ok P w base T.gb 5 (fun ds S R Z=>∃cs k v,ds=[.tup (cs.map aq),.tup [k,v]]∧cs.length≤8∧Gt S k∧Ob S v∧(Et cs k v=true→R .aC S)∧(Et cs k v=false→Z t.pf S)):=by
 refine T.gb.F.ok tX (by rintro ds S R Z ⟨d,d',YJ,e,_⟩;exact by rw[e];rfl) (fun cn A outer s H E ds S R Z hr ⟨cs,k,v,e,hl,hk,hv,q1,q2⟩=>?_)
 subst e
 refine⟨_,(sc (si (twd (twor (bV (tv (cb bx T.aj ah (ac (dv 1) (ac (jw T.aL ax) an))))) (tw1 (bw eW hr.units (cb aW T.aR aE (ac (dv 1) an)) di)))) (s1 (rF ⟨T.iY⟩ T.ml (ac ds an))) s0) (sc (si (bV (tv (cf ((rT T).mono (by decide)) hr T.iM.m T.iM.k T.iM.b d0 (ac (ix hr.units (dv 1) di) an)))) (s1 (rF ⟨T.iY⟩ T.ml (ac ds an))) s0) (s1 (si (bV (tv (cf ((qU T).mono (by decide)) hr T.fc.m T.fc.k T.fc.b d0 (ac (dv 0) (ac (ix hr.units (dv 1) di) an))))) (s1 (rF ⟨T.iY⟩ T.ml (ac ds an))) s0)))),?_⟩
 refine⟨_,rfl,_,_,_,_,rfl,aI,rfl,_,rfl,?_⟩
 refine ay ⟨_,rfl,_,rfl,_,rfl,ay ?_⟩
 refine⟨_,rfl,_,rfl,k,rfl,hk,_,rfl,?_⟩
 unfold Et at q1 q2
 refine bz (fun h=>?_) (fun h=>?_)
 ·rw[nt h,zE] at q2
  exact⟨sm (show 1≤100000 by decide),fo (q2 rfl)⟩
 ·rw[nf h,zA] at q1 q2
  refine⟨_,rfl,_,rfl,_,rfl,cs,v,rfl,hl,hv,_,rfl,?_⟩
  refine bz (fun h=>?_) (fun h=>?_)
  ·exact⟨sm (show 1≤100000 by decide),fo (q2 (nt h))⟩
  ·exact fo (q1 (nf h))
theorem ft(T:Txt w K mg t):Ok P w base T.aT 1 (fun ds S R Z=>∃a ws,ds=[.ref a]∧S a=some (.lst (ws.map D.str))∧(brk ws=false→R .aC S)∧(brk ws=true→Z t.aY S)):=by
 refine T.aT.F.ok pI (by rintro ds S R Z ⟨_,_,e,_⟩;exact by rw[e];rfl) (fun cn A outer s H E ds S R Z hr ⟨a,ws,e,hS,q1,q2⟩=>?_)
 subst e
 have e1:=k7 "(" ws
 have e2:=k7 ")" ws
 refine⟨_,(s1 (si (twd (twor (bw qA hr.units ds (dv 0)) (tw1 (bw qA hr.units ds (dv 0))))) (s1 (rF ⟨T.dm⟩ T.dG (ac ds an))) s0)),?_⟩
 refine⟨_,rfl,.inl ⟨_,hS,rfl,rV ws,_,rfl,?_⟩⟩
 refine bz (fun h=>?_) (fun h=>?_)
 ·have h:decide (("(" : Str)∈ws)=true:=e1.symm.trans h
  exact⟨sm (show 1≤100000 by decide),fo (q2 (by unfold brk;rw[h];rfl))⟩
 ·have h:decide (("(" : Str)∈ws)=false:=e1.symm.trans h
  refine⟨_,rfl,.inl ⟨_,hS,rfl,rV ws,_,rfl,?_⟩⟩
  refine bz (fun h2=>?_) (fun h2=>?_)
  ·have h2:decide ((")" : Str)∈ws)=true:=e2.symm.trans h2
   exact⟨sm (show 1≤100000 by decide),fo (q2 (by unfold brk;rw[h,h2];rfl))⟩
  ·have h2:decide ((")" : Str)∈ws)=false:=e2.symm.trans h2
   exact fo (q1 (by unfold brk;rw[h,h2];rfl))
def jG(z:Str):Bool:=decide (z = "number") || decide (z = "word")
theorem Hi(z:Str):wZ (lV (.str z)) ([D.str "number",D.str "word"].map lV)=jG z:=by
 show (eqV (.str "number") (.str z) || (eqV (.str "word") (.str z) || false))=_
 unfold jG
 rw[Bool.or_false]
 show (decide _ || decide _)=_
 congr 1 <;> rw[zM] <;> constructor <;> intro h <;> first|exact h.symm|(cases h;rfl)|(injection h with h;exact h.symm)|(rw[h])
def nJ:D→Bool
 |.tup [x,y]=>ofStr bI x && ofStr jG y
 |_=>false
theorem vT(h:ws.length≠2):nJ (.tup ws)=false:=by
 match ws,h with
 |[],_=>rfl
 |[_],_=>rfl
 |[_,_],h=>exact absurd rfl h
 |_::_::_::_,_=>rfl
theorem Hj{c:Str×Str}(h1:bI c.1=true)(h2:c.2 = "number" ∨ c.2 = "word"):nJ (aq c)=true:=by
 show (bI c.1 && jG c.2)=true
 unfold jG
 rw[h1]
 rcases h2 with e|e <;> rw[e] <;> rfl
theorem Hk(h:nJ d=true):∃c:Str×Str,d=aq c∧bI c.1=true∧(c.2 = "number" ∨ c.2 = "word"):=by
 cases d with
 |tup ws =>
  by_cases hl:ws.length=2
  ·obtain⟨x,y,rfl⟩:∃x y,ws=[x,y]:=by
    match ws,hl with
    |[x,y],_=>exact⟨x,y,rfl⟩
   have h:(ofStr bI x && ofStr jG y)=true:=h
   rw[zg] at h
   obtain⟨h1,h2⟩:=h
   cases x with
   |str x =>
    cases y with
    |str y =>
     have h2:(decide (y = "number") || decide (y = "word"))=true:=h2
     simp only [ye,zi] at h2
     exact⟨(x,y),rfl,h1,h2⟩
    |_=>cases h2
   |_=>cases h1
  ·rw[vT hl] at h;cases h
 |_=>cases h
theorem AK:∀{ws:List D},(ws.map nJ).all id=true→∃cs:List (Str×Str),ws=cs.map aq∧∀c∈cs,bI c.1=true∧(c.2 = "number" ∨ c.2 = "word")
 |[],_=>⟨[],rfl,fun _ h=>(nomatch h)⟩
 |d::ws,h=>by
  rw[zF,zW,zg] at h
  obtain⟨c,rfl,hc⟩:=Hk h.1
  obtain⟨cs,rfl,HS⟩:=AK h.2
  refine⟨c::cs,rfl,fun x hx=>?_⟩
  rcases zb.mp hx with e|hx
  ·rw[e];exact hc
  ·exact HS x hx
theorem pV:∀{cs Hl:List (Str×Str)},cs.map aq=Hl.map aq→cs=Hl
 |[],[],_=>rfl
 |[],_::_,h=>by cases h
 |_::_,[],h=>by cases h
 |c::cs,c'::Hl,h=>by
  rw[zF,zF] at h
  injection h with h1 h2
  have:c=c':=by
   unfold aq at h1
   injection h1 with h1
   injection h1 with a b
   injection a with a
   injection b with b _
   injection b with b
   exact Prod.ext a b
  rw[this,pV h2]
def Ul(S:aK)(d:D):Prop:=Gt S d∧∀ws,d=.tup ws→ws.length≤100000∧∀v∈ws,Ob S v
theorem yL(T:Txt w K mg t):Ok P w base T.kP 1 (x9 (ofStr jG)):=by
 refine T.kP.F.ok x5 (by rintro ds S R Z ⟨d,e,_⟩;exact by rw[e];rfl) (fun cn A outer s H E ds S R Z hr ⟨d,e,⟨⟨k,hk⟩,_⟩,q⟩=>?_)
 subst e
 refine⟨_,(s1 (sr (kA (cb bx T.aj ah (ac (dv 0) (ac (jw T.eJ cq) an))) (wH (cm qA hr.units (dv 0) (dg (v:=.ref t.tE) T.Ep rfl T.Er)))))),?_⟩
 refine⟨_,rfl,_,_,_,_,rfl,bU,hk,_,rfl,?_⟩
 rcases mC hk with ⟨z,rfl,h0⟩|⟨h0,h1⟩
 ·rw[h0]
  refine aZ ⟨_,rfl,rfl,rfl,?_⟩
  show Fo S (R (.bl (if false=true then _ else wZ (lV (.str z)) ([D.str "number",D.str "word"].map lV))))
  rw[if_neg zm,Hi]
  exact fo q
 ·rw[h0]
  rw[h1] at q
  exact ay (fo q)
theorem uf(T:Txt w K mg t):Ok P w base T.f_ 3 (fun ds S R _=>∃d,ds=[d]∧Ob S d∧R (.bl (nJ d)) S):=by
 refine T.f_.F.ok tW (by rintro ds S R Z ⟨d,e,_⟩;exact by rw[e];rfl) (fun cn A outer s H E ds S R Z hr ⟨d,e,⟨⟨⟨k,hk⟩,_⟩,hw⟩,q⟩=>?_)
 subst e
 refine⟨_,(sc (si (twd (twor (bV (tv (cb bx T.aj ah (ac (dv 0) (ac (jw T.aL ax) an))))) (tw1 (bw eW hr.units (cb aW T.aR aE (ac (dv 0) an)) di)))) (s1 (sr db)) s0) (s1 (sr (kA (cf ((pN T).mono (by decide)) hr T.fE.m T.fE.k T.fE.b d0 (ac (ix hr.units (dv 0) di) an)) (wH (cf ((yL T).mono (by decide)) hr T.kP.m T.kP.k T.kP.b d0 (ac (ix hr.units (dv 0) di) an))))))),?_⟩
 refine⟨_,rfl,_,_,_,_,rfl,aI,hk,_,rfl,?_⟩
 rcases pM hk with ⟨ws,rfl,h0⟩|⟨h0,h1⟩
 ·obtain⟨Hh,wL⟩:=hw ws rfl
  rw[h0]
  refine ay ⟨_,rfl,_,rfl,_,rfl,?_⟩
  refine bz (fun h=>?_) (fun h=>?_)
  ·have h:(!decide (((ws.length:Nat):Int)=2))=true:=h
   have h:=zD (nt h)
   have e:nJ (.tup ws)=false:=vT (by lia)
   rw[e] at q
   exact fo q
  ·have h:(!decide (((ws.length:Nat):Int)=2))=false:=h
   have h:=zu (nf h)
   obtain⟨x,y,rfl⟩:∃x y,ws=[x,y]:=by
    match ws,(show ws.length=2 by lia) with
    |[x,y],_=>exact⟨x,y,rfl⟩
   refine⟨_,rfl,_,rfl,x,rfl,wL x (by simp),_,rfl,?_⟩
   have q:R (.bl (ofStr bI x && ofStr jG y)) S:=q
   refine bz (fun h=>?_) (fun h=>?_)
   ·rw[h,zA] at q
    exact⟨_,rfl,_,rfl,y,rfl,wL y (by simp),fo q⟩
   ·rw[h,zE] at q
    exact fo q
 ·rw[h0]
  have e:nJ d=false:=by
   cases d with
   |tup ws=>exact absurd rfl (h1 ws)
   |_=>rfl
  rw[e] at q
  exact aZ (aZ (fo q))
theorem vU(T:Txt w K mg t):Ok P w base T.iN 1 (fun ds S R _=>∃cs:List (Str×Str),ds=[.tup (cs.map aq)]∧cs.length≤8∧∀p,S p=none→R (.ref p) (S.set p (.lst ((cs.map Prod.fst).map D.str)))):=by
 refine T.iN.F.ok vK (by rintro ds S R Z ⟨d,e,_⟩;exact by rw[e];rfl) (fun cn A outer s H E ds S R Z hr ⟨cs,e,hl,q⟩=>?_)
 subst e
 refine⟨_,(s1 (sr (lW (N:=["name","kind"]) (src:=[none,none]) (kr (ae gG) ["columns"] rfl rfl (by trivial)) (wJ (dv 0)) (NQ (show (["name","kind"]:List Str).Nodup by trivial)) (ko rfl rfl) kF (fun _ _ _ _ _=>lH) (fun _ _ _ _ _=>(dv 0))))),?_⟩
 refine⟨_,rfl,_,.inl rfl,?_⟩
 refine comp_map (fun d=>match d with|.tup (x::_)=>x|_=>.aC) trivial (by show (cs.map aq).length≤100000;rw[za];lia) (fun d hd Q hQ=>?_) fun p hp=>?_
 ·obtain⟨c,hc,rfl⟩:=zq.mp hd
  exact⟨_,rfl,rfl,_,_,rfl,_,_,rfl,rfl,_,rfl,hQ⟩
 ·have e:(cs.map aq).map (fun d=>match d with|.tup (x::_)=>x|_=>.aC)=(cs.map Prod.fst).map D.str:=by
   rw[zC,zC];rfl
  show Fo (S.set p (.lst ((cs.map aq).map _))) (R (.ref p))
  rw[e]
  exact fo (q p hp)
theorem mF(T:Txt w K mg t):Ok P w base T.cD 4 (fun ds S R Z=>∃d,ds=[d]∧Ul S d∧(∀cs,d=.tup (cs.map aq)→Gd cs→R .aC S)∧((∀cs,d=.tup (cs.map aq)→¬ Gd cs)→Z t.eR S)):=by
 refine T.cD.F.ok mm (fun ds S R Z ⟨d,e,_⟩=>by rw[e];rfl) (fun cn A outer s H E ds S R Z hr ⟨d,e,⟨⟨⟨k,hk⟩,_⟩,hw⟩,q1,q2⟩=>?_)
 subst e
 refine⟨_,(sc (si (twd (twor (bV (tv (cb bx T.aj ah (ac (dv 0) (ac (jw T.aL ax) an))))) (tw1 (bw oH hr.units (cb aW T.aR aE (ac (dv 0) an)) (dg (v:=.int 8) T.nE ⟨_,rfl⟩ fun _=>aF _))))) (s1 (rF ⟨T.dk⟩ T.fS (ac ds an))) s0) (sc (si (bV (tv (cb f6 T.gm dD (ac (lW (N:=["column"]) (src:=[none]) (kr (ae cK) ["columns"] rfl rfl (by trivial)) (wJ (dv 0)) (nT (show (["column"]:List Str).Nodup by trivial)) (aM rfl) aN (fun _ _ _ _ _=>lH) (fun _ _ _ _ _=>(cf ((uf T).mono (by decide)) hr T.f_.m T.f_.k T.f_.b d0 (ac (dv 0) an)))) an)))) (s1 (rF ⟨T.dk⟩ T.fS (ac ds an))) s0) (s1 (si (bw eW hr.units (T9 (cf ((vU T).mono (by decide)) hr T.iN.m T.iN.k T.iN.b d0 (ac (dv 0) an)) T.aR T.Iq) (cb aW T.aR aE (ac (dv 0) an))) (s1 (rF ⟨T.dk⟩ T.fS (ac ds an))) s0)))),?_⟩
 refine⟨_,rfl,_,_,_,_,rfl,aI,hk,_,rfl,?_⟩
 rcases pM hk with ⟨ws,rfl,h0⟩|⟨h0,h1⟩
 ·obtain⟨Hh,wL⟩:=hw ws rfl
  rw[h0]
  refine ay ⟨_,rfl,_,rfl,_,rfl,?_⟩
  refine bz (fun h=>?_) (fun h=>?_)
  ·have h:(8:Int)<((ws.length:Nat):Int):=zu h
   refine⟨sm (show 1≤100000 by decide),fo (q2 fun cs e hg=>?_)⟩
   cases e
   have:=hg.1
   rw[za] at h;lia
  have h:¬ (8:Int)<((ws.length:Nat):Int):=zD h
  refine⟨_,rfl,_,.inl rfl,?_⟩
  refine comp_map (fun d=>.bl (nJ d)) trivial (by show ws.length≤100000;lia) (fun d hd Q hQ=>⟨_,rfl,d,rfl,wL d hd,hQ⟩) fun p hp=>?_
  have e2:ws.map (fun d=>D.bl (nJ d))=(ws.map nJ).map D.bl:=by rw[zC];rfl
  refine⟨.ref p,ws.map nJ,rfl,?_,_,rfl,?_⟩
  ·show (S.set p (.lst (ws.map _))) p=_
   rw[aa,e2]
  refine bz (fun ha=>?_) (fun ha=>?_)
  ·have ha:=nt ha
   refine⟨sm (show 1≤100000 by decide),S,.new hp,q2 fun cs e hg=>?_⟩
   cases e
   have:((cs.map aq).map nJ).all id=true:=by
    rw[zI]
    intro b hb
    obtain⟨d,hd,rfl⟩:=zq.mp hb
    obtain⟨c,hc,rfl⟩:=zq.mp hd
    exact Hj (hg.2.2 c hc).1 (hg.2.2 c hc).2
   rw[this] at ha;cases ha
  have ha:=nf ha
  obtain⟨cs,rfl,HS⟩:=AK ha
  refine⟨_,rfl,cs,rfl,by rw[za] at h;lia,fun p2 g6=>?_⟩
  refine⟨cs.map Prod.fst,aa,by rw[za];rw[za] at h;lia,_,rfl,_,rfl,_,rfl,?_⟩
  have e4:decide ((((g8 (cs.map Prod.fst)).length:Nat):Int)=(((cs.map aq).length:Nat):Int))=decide ((cs.map Prod.fst).Nodup):=by
   rw[zM,← rD,za,za];lia
  show if (if true=true then !decide ((((g8 (cs.map Prod.fst)).length:Nat):Int)=(((cs.map aq).length:Nat):Int)) else _)=true then _ else _
  rw[if_pos rfl,e4]
  refine bz (fun hn=>?_) (fun hn=>?_)
  ·have hn:=zD (nt hn)
   refine⟨sm (show 1≤100000 by decide),S,(Sub.new hp).trans (.new g6),q2 fun Hl e hg=>hn ?_⟩
   have:cs=Hl:=pV (D.tup.inj e)
   rw[this];exact hg.2.1
  ·have hn:=zu (nf hn)
   exact⟨S,(Sub.new hp).trans (.new g6),q1 cs rfl ⟨by rw[za] at h;lia,hn,HS⟩⟩
 ·rw[h0]
  refine aZ (aZ ⟨sm (show 1≤100000 by decide),fo (q2 fun cs e=>absurd e (h1 _))⟩)
def p3(p:Str×Str×Str):D:=.tup [.str p.1,.str p.2.1,.str p.2.2]
def Hm(ws:List Str):List (Str×Str×Str):=(List.range (ws.length / 3)).map fun k=>(ws.getD (3 * k) "",ws.getD (3 * k+1) "",ws.getD (3 * k+2) "")
def Co(ws:List Str):List (Str×Str):=(List.range (ws.length / 2)).map fun k=>(ws.getD (2 * k) "",ws.getD (2 * k+1) "")
def lg(ws:List Str):Str:=ws.getD (ws.length - 1) ""
def ES(ws:List Str):D:=.tup [.tup ((Hm ws).map p3),.str (lg ws)]
def CJ(ws:List Str):Bool:=decide (ws.length % 3=2) && (decide (ws.getD (ws.length - 2) "" = "key") && !brk ws)
def oI:D→Option (List Str)
 |.str z=>if CJ (cW z)=true then some (cW z) else none
 |_=>none
def cI:D→Option (List (Str×Str))
 |.str z=>if cW z=[("" : Str)] then some [] else if decide ((cW z).length % 2=0) && !brk (cW z) then some (Co (cW z)) else none
 |_=>none
theorem Sz(n:Nat)(f:D→D)(g:Nat→D)(h:∀i,f (.int ((i:Nat) * 3))=g i):(jT n 3).map f=(List.range n).map g:=by
 unfold jT
 rw[zC]
 exact List.map_congr_left fun i _=>h i
theorem lh(T:Txt w K mg t):Ok P w base T.bP 1 (fun ds S R _=>∃a ws,ds=[.ref a]∧S a=some (.lst (ws.map D.str))∧ws.length % 3=2∧ws.length≤95000∧R (ES ws) S):=by
 refine T.bP.F.ok fI (by rintro ds S R Z ⟨_,_,e,_⟩;exact by rw[e];rfl) (fun cn A outer s H E ds S R Z hr ⟨a,ws,e,hS,hm,hl,q⟩=>?_)
 subst e
 have yM:(ws.map D.str).length=ws.length:=za _
 refine⟨_,(sc (T8 (i:=1) (N:=["at","words"]) (src:=[none,some 0]) fI.nd (kr (ae bW) ["words","parts"] rfl rfl (by trivial)) (T_ T.fH (ac di (ac (bo kB hr.units (cb aW T.aR aE (ac (dv 0) an)) di) (ac di an)))) (nT (show (["at","words"]:List Str).Nodup by trivial)) (aM rfl) aN (fun _ _ _ _ _=>lH) (fun _ _ _ _ _=>(ct cJ T.aL ax (ac (sl (dv 1) (o1 (dv 0)) (o1 (bo bN hr.units (dv 0) di))) an)))) (s1 (sr (cA (ac (ct cJ T.aL ax (ac (dv 1) an)) (ac (ix hr.units (dv 0) (GN di)) an)))))),?_⟩
 refine⟨_,rfl,_,rfl,.inl ⟨_,hS,?_⟩⟩
 rw[yM]
 refine⟨((ws.length:Nat):Int) - 2,3,rfl,by lia,by lia,by lia,by lia,?_⟩
 have en:((((ws.length:Nat):Int) - 2+3 - 1) / 3).toNat=ws.length / 3:=by lia
 rw[en]
 refine rS (fun d=>match d with|.int i=>p3 (ws.getD i.toNat "",ws.getD (i.toNat+1) "",ws.getD (i.toNat+2) "")|_=>.aC) (fun _ _=>trivial) (by show (jT (ws.length / 3) 3).length≤_;rw[oM];lia) (fun d hd S' hs Q hQ=>?_) fun S2 hs p hp=>?_
 ·obtain⟨i,hi⟩:=List.getElem?_of_mem hd
  obtain⟨Wl,rfl⟩:=oN hi
  have c1:((i:Nat):Int) * 3=((3 * i:Nat):Int):=by lia
  have c2:((i:Nat):Int) * 3+3=((3 * i+3:Nat):Int):=by lia
  have hb:3 * i+3≤ws.length:=by lia
  have ec:jR (ws.map D.str) (some (((i:Nat):Int) * 3)) (some (((i:Nat):Int) * 3+3))=[.str (ws.getD (3 * i) ""),.str (ws.getD (3 * i+1) ""),.str (ws.getD (3 * i+2) "")]:=by
   rw[c1,show ((3 * i:Nat):Int)+3=((3 * i+3:Nat):Int) by lia,AF _ (by rw[yM];exact hb) (by lia),show 3 * i+3 - 3 * i=3 by lia,← List.map_drop,← List.map_take,take3 hb];rfl
  refine⟨_,rfl,_,rfl,_,rfl,_,rfl,_,rfl,_,hs _ _ hS,fun p hp=>?_⟩
  rw[ec]
  refine⟨_,_,rfl,.inl aa,?_⟩
  have:=hQ (S'.set p (.lst [.str (ws.getD (3 * i) ""),.str (ws.getD (3 * i+1) ""),.str (ws.getD (3 * i+2) "")])) (.new hp)
  have e3:(((i:Nat):Int) * 3).toNat=3 * i:=by lia
  dsimp only at this
  rw[e3] at this
  exact this
 ·rw[show (⟨jT (ws.length / 3) 3,fun _=>True⟩:Av).xs=jT (ws.length / 3) 3 from rfl,Sz _ _ (fun k=>p3 (ws.getD (3 * k) "",ws.getD (3 * k+1) "",ws.getD (3 * k+2) "")) fun i=>by
   have e3:(((i:Nat):Int) * 3).toNat=3 * i:=by lia
   dsimp only
   rw[e3]]
  have e4:(List.range (ws.length / 3)).map (fun k=>p3 (ws.getD (3 * k) "",ws.getD (3 * k+1) "",ws.getD (3 * k+2) ""))=(Hm ws).map p3:=by
   unfold Hm;rw[zC];rfl
  rw[e4]
  have Im:jO (ws.map D.str) (-1)=some (.str (lg ws)):=by
   have:=t6 (xs:=ws.map D.str) (k:=1) (by lia) (by decide)
   rw[yM,EA (by lia)] at this
   exact this
  refine⟨_,rfl,_,_,rfl,.inl aa,_,rfl,_,rfl,_,_,(Sub.new hp) _ _ (hs _ _ hS),Im,sm (show 2≤100000 by decide),S,hs.trans (.new hp),q⟩
theorem Hn(h:oI d=some ws):∃z,d=.str z∧ws=cW z∧CJ ws=true:=by
 cases d with
 |str z =>
  have h:(if CJ (cW z)=true then some (cW z) else none)=some ws:=h
  by_cases q:CJ (cW z)=true
  ·rw[if_pos q] at h;cases h;exact⟨z,rfl,rfl,q⟩
  ·rw[if_neg q] at h;cases h
 |_=>cases h
theorem Of(h:∀z,d≠.str z):oI d=none:=by
 cases d with
 |str z=>exact absurd rfl (h z)
 |_=>rfl
theorem Og(h:∀z,d≠.str z):cI d=none:=by
 cases d with
 |str z=>exact absurd rfl (h z)
 |_=>rfl
theorem SA(n:Nat)(f:D→D)(g:Nat→D)(h:∀i,f (.int ((i:Nat) * 2))=g i):(jT n 2).map f=(List.range n).map g:=by
 unfold jT
 rw[zC]
 exact List.map_congr_left fun i _=>h i
theorem vV(T:Txt w K mg t):Ok P w base T.iQ 2 (fun ds S R Z=>∃d,ds=[d]∧Rd S d∧(∀ws,oI d=some ws→R (ES ws) S)∧(oI d=none→Z t.aY S)):=by
 refine T.iQ.F.ok mR (by rintro ds S R Z ⟨_,e,_⟩;exact by rw[e];rfl) (fun cn A outer s H E ds S R Z hr ⟨d,e,hd,q1,q2⟩=>?_)
 subst e
 refine⟨_,(sc (dR (i:=1) mR.nd (cf ((fL T).mono (by decide)) hr T.words_of.m T.words_of.k T.words_of.b d0 (ac (dv 0) an))) (sc (si (twd (twor (bw eW hr.units (bo jx hr.units (cb aW T.aR aE (ac (dv 1) an)) di) di) (tw1 (bw eW hr.units (ix hr.units (dv 1) (GN di)) ds)))) (s1 (rF ⟨T.dm⟩ T.dG (ac ds an))) s0) (sc (se (cf ((ft T).mono (by decide)) hr T.aT.m T.aT.k T.aT.b d0 (ac (dv 1) an))) (s1 (sr (cf ((lh T).mono (by decide)) hr T.bP.m T.bP.k T.bP.b d0 (ac (dv 1) an))))))),?_⟩
 refine⟨_,rfl,d,rfl,hd,fun z e p hp=>?_,fun hn=>fo (q2 (Of hn))⟩
 subst e
 have hz:=(hd.2 z rfl).1
 have FD:=nV z
 have FX:=AD z
 have Wm:z.length=z.cps.size:=rfl
 have eo:oI (.str z)=if CJ (cW z)=true then some (cW z) else none:=rfl
 rw[eo] at q1 q2
 generalize cW z=ws at *
 have yM:(ws.map D.str).length=ws.length:=za _
 have CK:(S.set p (.lst (ws.map D.str))) p=some (.lst (ws.map D.str)):=aa
 have sb:Sub S (S.set p (.lst (ws.map D.str))):=.new hp
 generalize S.set p (.lst (ws.map D.str))=S1 at CK sb ⊢
 have bad:CJ ws=false→Fo S1 (Z t.aY):=fun h=>⟨S,sb,q2 (by rw[h];rfl)⟩
 refine⟨_,rfl,_,rfl,.inl ⟨_,CK,(show (0:Int)<3 by decide),_,rfl,?_⟩⟩
 have e1:decide ((((ws.map D.str).length:Nat):Int) % 3=2)=decide (ws.length % 3=2):=by rw[zM,yM];omega
 refine bz (fun h=>?_) (fun h=>?_)
 ·have h:(!decide ((((ws.map D.str).length:Nat):Int) % 3=2))=true:=h
  rw[e1] at h
  exact⟨sm (show 1≤100000 by decide),bad (by unfold CJ;rw[nt h];rfl)⟩
 have h:(!decide ((((ws.map D.str).length:Nat):Int) % 3=2))=false:=h
 rw[e1] at h
 have h:=nf h
 have hm:=zu h
 have Im:jO (ws.map D.str) (-2)=some (.str (ws.getD (ws.length - 2) "")):=by
  have:=t6 (xs:=ws.map D.str) (k:=2) (by omega) (by decide)
  rw[yM,EA (by omega)] at this
  exact this
 refine⟨_,rfl,_,rfl,_,_,CK,Im,_,rfl,?_⟩
 refine bz (fun h2=>?_) (fun h2=>?_)
 ·have h2:(!decide (ws.getD (ws.length - 2) "" = "key"))=true:=h2
  exact⟨sm (show 1≤100000 by decide),bad (by unfold CJ;rw[nt h2,zE,Bool.and_false])⟩
 have h2:(!decide (ws.getD (ws.length - 2) "" = "key"))=false:=h2
 have h2:=nf h2
 refine⟨_,rfl,p,ws,rfl,CK,fun hb=>?_,fun hb=>bad (by unfold CJ;rw[hb,Bool.not_true,Bool.and_false,Bool.and_false])⟩
 have aQ:CJ ws=true:=by unfold CJ;rw[h,h2,hb];rfl
 exact⟨_,rfl,p,ws,rfl,CK,hm,by omega,S,sb,q1 ws (by rw[aQ];rfl)⟩
theorem qV(T:Txt w K mg t):Ok P w base T.fi 2 (fun ds S R Z=>∃d,ds=[d]∧Rd S d∧(∀cs,cI d=some cs→R (.tup (cs.map aq)) S)∧(cI d=none→Z t.aY S)):=by
 refine T.fi.F.ok jD (by rintro ds S R Z ⟨_,e,_⟩;exact by rw[e];rfl) (fun cn A outer s H E ds S R Z hr ⟨d,e,hd,q1,q2⟩=>?_)
 subst e
 refine⟨_,(sc (dR (i:=1) jD.nd (cf ((fL T).mono (by decide)) hr T.words_of.m T.words_of.k T.words_of.b d0 (ac (dv 0) an))) (sc (si (bw bB hr.units (dv 1) (bA (ac ds an))) (s1 (sr (cA an))) s0) (sc (si (bw eW hr.units (bo jx hr.units (cb aW T.aR aE (ac (dv 1) an)) di) di) (s1 (rF ⟨T.dm⟩ T.dG (ac ds an))) s0) (sc (se (cf ((ft T).mono (by decide)) hr T.aT.m T.aT.k T.aT.b d0 (ac (dv 1) an))) (s1 (sr (ct cJ T.aL ax (ac (lW (N:=["at","words"]) (src:=[none,some 1]) (kr (ae eO) ["text","words"] rfl rfl (by trivial)) (T_ T.fH (ac di (ac (cb aW T.aR aE (ac (dv 1) an)) (ac di an)))) (nT (show (["at","words"]:List Str).Nodup by trivial)) (aM rfl) aN (fun _ _ _ _ _=>lH) (fun _ _ _ _ _=>(ct cJ T.aL ax (ac (sl (dv 1) (o1 (dv 0)) (o1 (bo bN hr.units (dv 0) di))) an)))) an)))))))),?_⟩
 refine⟨_,rfl,d,rfl,hd,fun z e p hp=>?_,fun hn=>fo (q2 (Og hn))⟩
 subst e
 obtain⟨hz,aQ⟩:=hd.2 z rfl
 have FD:=nV z
 have Wn:∀u∈cW z,PyData.strOk u=true:=fun u hu=>Ey hu aQ
 have Wm:z.length=z.cps.size:=rfl
 have eo:cI (.str z)=if cW z=[("" : Str)] then some [] else if decide ((cW z).length % 2=0) && !brk (cW z) then some (Co (cW z)) else none:=rfl
 rw[eo] at q1 q2
 generalize cW z=ws at *
 have yM:(ws.map D.str).length=ws.length:=za _
 have CK:(S.set p (.lst (ws.map D.str))) p=some (.lst (ws.map D.str)):=aa
 have sb:Sub S (S.set p (.lst (ws.map D.str))):=.new hp
 generalize S.set p (.lst (ws.map D.str))=S1 at CK sb ⊢
 refine⟨_,rfl,sm (show 1≤100000 by decide),fun p2 g6=>G6 (ws:=ws) (us:=[("" : Str)]) ((Sub.new g6) _ _ CK) aa Wn (fun u hu=>by rw[zz.mp hu];decide +kernel) ⟨_,rfl,?_⟩⟩
 have wG:=sb.trans (.new (c:=.lst [D.str ""]) g6)
 have Ho:=(Sub.new (c:=.lst [D.str ""]) g6) _ _ CK
 generalize S1.set p2 (.lst [D.str ""])=S2 at Ho wG ⊢
 refine bz (fun h=>?_) (fun h=>?_)
 ·have h:ws=[("" : Str)]:=zu h
  exact⟨sm (show 0≤100000 by decide),S,wG,q1 [] (by rw[if_pos h])⟩
 have BO:¬ ws=[("" : Str)]:=zD h
 rw[if_neg BO] at q1 q2
 have bad:(decide (ws.length % 2=0) && !brk ws)=false→Fo S2 (Z t.aY):=fun h=>⟨S,wG,q2 (by rw[h];rfl)⟩
 refine⟨_,rfl,_,rfl,.inl ⟨_,Ho,(show (0:Int)<2 by decide),_,rfl,?_⟩⟩
 have e1:decide ((((ws.map D.str).length:Nat):Int) % 2=0)=decide (ws.length % 2=0):=by rw[zM,yM];omega
 refine bz (fun h=>?_) (fun h=>?_)
 ·have h:(!decide ((((ws.map D.str).length:Nat):Int) % 2=0))=true:=h
  rw[e1] at h
  exact⟨sm (show 1≤100000 by decide),bad (by rw[nt h];rfl)⟩
 have h:(!decide ((((ws.map D.str).length:Nat):Int) % 2=0))=false:=h
 rw[e1] at h
 have h:=nf h
 have hm:=zu h
 refine⟨_,rfl,p,ws,rfl,Ho,fun hb=>?_,fun hb=>bad (by rw[hb,Bool.not_true,Bool.and_false])⟩
 refine⟨_,rfl,_,rfl,.inl ⟨_,Ho,?_⟩⟩
 rw[yM]
 refine⟨((ws.length:Nat):Int),2,rfl,by omega,by omega,by omega,by omega,?_⟩
 have en:((((ws.length:Nat):Int)+2 - 1) / 2).toNat=ws.length / 2:=by omega
 rw[en]
 refine rS (fun d=>match d with|.int i=>aq (ws.getD i.toNat "",ws.getD (i.toNat+1) "")|_=>.aC) (fun _ _=>trivial) (by show (jT (ws.length / 2) 2).length≤_;rw[oM];omega) (fun d hd S' hs Q hQ=>?_) fun S3 hs p3 yN=>?_
 ·obtain⟨i,hi⟩:=List.getElem?_of_mem hd
  obtain⟨Wl,rfl⟩:=oN hi
  have c1:((i:Nat):Int) * 2=((2 * i:Nat):Int):=by omega
  have BS:2 * i+2≤ws.length:=by omega
  have ec:jR (ws.map D.str) (some (((i:Nat):Int) * 2)) (some (((i:Nat):Int) * 2+2))=[.str (ws.getD (2 * i) ""),.str (ws.getD (2 * i+1) "")]:=by
   rw[c1,show ((2 * i:Nat):Int)+2=((2 * i+2:Nat):Int) by omega,AF _ (by rw[yM];exact BS) (by omega),show 2 * i+2 - 2 * i=2 by omega,← List.map_drop,← List.map_take,take2 BS];rfl
  refine⟨_,rfl,_,rfl,_,rfl,_,rfl,_,rfl,_,hs _ _ Ho,fun p hp=>?_⟩
  rw[ec]
  refine⟨_,_,rfl,.inl aa,?_⟩
  have:=hQ (S'.set p (.lst [.str (ws.getD (2 * i) ""),.str (ws.getD (2 * i+1) "")])) (.new hp)
  have e3:(((i:Nat):Int) * 2).toNat=2 * i:=by omega
  dsimp only at this
  rw[e3] at this
  exact this
 ·rw[show (⟨jT (ws.length / 2) 2,fun _=>True⟩:Av).xs=jT (ws.length / 2) 2 from rfl,SA _ _ (fun k=>aq (ws.getD (2 * k) "",ws.getD (2 * k+1) "")) fun i=>by
   have e3:(((i:Nat):Int) * 2).toNat=2 * i:=by omega
   dsimp only
   rw[e3]]
  have e4:(List.range (ws.length / 2)).map (fun k=>aq (ws.getD (2 * k) "",ws.getD (2 * k+1) ""))=(Co ws).map aq:=by
   unfold Co;rw[zC];rfl
  rw[e4]
  exact⟨_,_,rfl,.inl aa,S,(wG.trans hs).trans (.new yN),q1 _ (by rw[h,hb];rfl)⟩
def jo(z:Str):Bool:=decide (z = "up") || decide (z = "down")
def nK(z:Str):Bool:=decide (z = "first") || decide (z = "last")
theorem Iw(z a b:Str)(x y:V):(([(a,x),(b,y)]:List (Str×V)).lookup z).isSome=(decide (z=a) || decide (z=b)):=by
 rw[zO,zO]
 by_cases h:z=a
 ·rw[show (z == a)=true by simp [h],zk h];rfl
 ·rw[show (z == a)=false by simp [h],zp h]
  by_cases h2:z=b
  ·rw[show (z == b)=true by simp [h2],zk h2];rfl
  ·rw[show (z == b)=false by simp [h2],zp h2];rfl
def eK(cs:List (Str×Str))(p:Str×Str×Str):Bool:=decide (p.1∈cs.map Prod.fst) && (jo p.2.1 && nK p.2.2)
def jq(cs:List (Str×Str))(ps:List (Str×Str×Str))(wy:Str):Bool:=decide (ps.length≤8) && (ps.all (eK cs) && (decide ((ps.map Prod.fst).Nodup) && jo wy))
theorem rZ(T:Txt w K mg t):Ok P w base T.iO 1 (fun ds S R _=>∃z,ds=[.str z]∧R (.bl (jo z)) S):=by
 refine T.iO.F.ok Cc (by rintro ds S R Z ⟨_,e,_⟩;exact by rw[e];rfl) (fun cn A outer s H E ds S R Z hr ⟨z,e,q⟩=>?_)
 subst e
 refine⟨_,(s1 (sr (kA (cb bx T.aj ah (ac (dv 0) (ac (jw T.eJ cq) an))) (wH (Ua T.vG (dv 0) (dg (v:=.ref t.iJ) T.tR rfl fun _=>oE _)))))),?_⟩
 refine⟨_,rfl,_,_,_,_,rfl,bU,rfl,_,rfl,aZ ⟨_,rfl,z,rfl,rfl,?_⟩⟩
 rw[Iw]
 exact fo q
theorem Cp(T:Txt w K mg t):Ok P w base T.pC 1 (fun ds S R _=>∃z,ds=[.str z]∧R (.bl (nK z)) S):=by
 refine T.pC.F.ok Cd (by rintro ds S R Z ⟨_,e,_⟩;exact by rw[e];rfl) (fun cn A outer s H E ds S R Z hr ⟨z,e,q⟩=>?_)
 subst e
 refine⟨_,(s1 (sr (kA (cb bx T.aj ah (ac (dv 0) (ac (jw T.eJ cq) an))) (wH (Ua T.vH (dv 0) (dg (v:=.ref t.iK) T.tT rfl fun _=>oE _)))))),?_⟩
 refine⟨_,rfl,_,_,_,_,rfl,bU,rfl,_,rfl,aZ ⟨_,rfl,z,rfl,rfl,?_⟩⟩
 rw[Iw]
 exact fo q
theorem yO(T:Txt w K mg t):Ok P w base T.kQ 4 (fun ds S R _=>∃cs p,ds=[.tup (cs.map aq),p3 p]∧Gd cs∧LP p∧R (.bl (eK cs p)) S):=by
 refine T.kQ.F.ok x6 (by rintro ds S R Z ⟨_,_,e,_⟩;exact by rw[e];rfl) (fun cn A outer s H E ds S R Z hr ⟨cs,p,e,hg,hp,q⟩=>?_)
 subst e
 refine⟨_,(sc (si (twd (twor (bV (tv (cb bx T.aj ah (ac (dv 1) (ac (jw T.aL ax) an))))) (tw1 (bw eW hr.units (cb aW T.aR aE (ac (dv 1) an)) di)))) (s1 (sr db)) s0) (s1 (sr (kA (cm Dz hr.units (cf ((jF T).mono (by decide)) hr T.bO.m T.bO.k T.bO.b d0 (ac (dv 0) (ac (ix hr.units (dv 1) di) an))) dn) (kA (cf ((rZ T).mono (by decide)) hr T.iO.m T.iO.k T.iO.b d0 (ac (ix hr.units (dv 1) di) an)) (wH (cf ((Cp T).mono (by decide)) hr T.pC.m T.pC.k T.pC.b d0 (ac (ix hr.units (dv 1) di) an)))))))),?_⟩
 refine⟨_,rfl,_,_,_,_,rfl,aI,rfl,_,rfl,ay ⟨_,rfl,_,rfl,_,rfl,ay ?_⟩⟩
 have hd:=G_ hg p.1
 refine⟨_,rfl,_,rfl,_,rfl,cs,.str p.1,rfl,hg,gt_str hp.1,?_⟩
 generalize Bx cs (.str p.1)=d at hd ⊢
 refine⟨_,rfl,?_⟩
 unfold eK at q
 refine bz (fun h=>?_) (fun h=>?_)
 ·have h:(!eD d)=true:=h
  rw[hd,Bool.not_not] at h
  rw[h,zA] at q
  refine⟨_,rfl,_,rfl,p.2.1,rfl,_,rfl,?_⟩
  refine bz (fun h2=>?_) (fun h2=>?_)
  ·rw[h2,zA] at q
   exact⟨_,rfl,_,rfl,p.2.2,rfl,fo q⟩
  ·rw[h2,zE] at q
   exact fo q
 ·have h:(!eD d)=false:=h
  rw[hd,Bool.not_not] at h
  rw[h,zE] at q
  exact fo q
theorem pW(T:Txt w K mg t):Ok P w base T.ee 5 (fun ds S R Z=>∃cs ps wy,ds=[.tup (cs.map aq),.tup [.tup (ps.map p3),.str wy]]∧Gd cs∧(∀p∈ps,LP p)∧(jq cs ps wy=true→R .aC S)∧(jq cs ps wy=false→Z t.gP S)):=by
 refine T.ee.F.ok fj (by rintro ds S R Z ⟨_,_,_,e,_⟩;exact by rw[e];rfl) (fun cn A outer s H E ds S R Z hr ⟨cs,ps,wy,e,hg,hp,q1,q2⟩=>?_)
 subst e
 have yM:(ps.map p3).length=ps.length:=za _
 refine⟨_,(sc (si (twd (twor (bV (tv (cb bx T.aj ah (ac (dv 1) (ac (jw T.aL ax) an))))) (tw1 (bw eW hr.units (cb aW T.aR aE (ac (dv 1) an)) di)))) (s1 (rF ⟨T.cN⟩ T.eB (ac ds an))) s0) (sc (dR (i:=2) fj.nd (ix hr.units (dv 1) di)) (sc (si (twd (twor (bV (tv (cb bx T.aj ah (ac (dv 2) (ac (jw T.aL ax) an))))) (tw1 (bw oH hr.units (cb aW T.aR aE (ac (dv 2) an)) (dg (v:=.int 8) T.iW ⟨_,rfl⟩ fun _=>aF _))))) (s1 (rF ⟨T.cN⟩ T.eB (ac ds an))) s0) (sc (si (bV (tv (cb f6 T.gm dD (ac (lW (N:=["part","columns"]) (src:=[none,some 0]) (kr (ae cC) ["columns","order","parts","names"] rfl rfl (by trivial)) (wJ (dv 2)) (nT (show (["part","columns"]:List Str).Nodup by trivial)) (aM rfl) aN (fun _ _ _ _ _=>lH) (fun _ _ _ _ _=>(cf ((yO T).mono (by decide)) hr T.kQ.m T.kQ.k T.kQ.b d0 (ac (dv 1) (ac (dv 0) an))))) an)))) (s1 (rF ⟨T.cN⟩ T.eB (ac ds an))) s0) (sc (T8 (i:=3) (N:=["part"]) (src:=[none]) fj.nd (kr (ae cC) ["columns","order","parts","names"] rfl rfl (by trivial)) (wJ (dv 2)) (nT (show (["part"]:List Str).Nodup by trivial)) (aM rfl) aN (fun _ _ _ _ _=>lH) (fun _ _ _ _ _=>(ix hr.units (dv 0) di))) (sc (si (bw eW hr.units (T9 (dv 3) T.aR T.Iq) (cb aW T.aR aE (ac (dv 3) an))) (s1 (rF ⟨T.cN⟩ T.eB (ac ds an))) s0) (s1 (si (bV (tv (cf ((rZ T).mono (by decide)) hr T.iO.m T.iO.k T.iO.b d0 (ac (ix hr.units (dv 1) di) an)))) (s1 (rF ⟨T.cN⟩ T.eB (ac ds an))) s0)))))))),?_⟩
 refine⟨_,rfl,_,_,_,_,rfl,aI,rfl,_,rfl,ay ⟨_,rfl,_,rfl,_,rfl,ay ?_⟩⟩
 refine⟨_,rfl,_,rfl,_,rfl,_,_,_,_,rfl,aI,rfl,_,rfl,ay ⟨_,rfl,_,rfl,_,rfl,?_⟩⟩
 refine bz (fun h=>?_) (fun h=>?_)
 ·have h:(8:Int)<(((ps.map p3).length:Nat):Int):=zu h
  rw[yM] at h
  exact⟨sm (show 1≤100000 by decide),fo (q2 (by unfold jq;rw[zp (by omega)];rfl))⟩
 have h:¬ (8:Int)<(((ps.map p3).length:Nat):Int):=zD h
 rw[yM] at h
 have h8:ps.length≤8:=by omega
 unfold jq at q1 q2
 rw[zk h8,zA] at q1 q2
 refine⟨_,rfl,_,.inl rfl,?_⟩
 refine i6 (fun d v=>∃p,d=p3 p∧v=.bl (eK cs p)) trivial (by show (ps.map p3).length≤_;omega) (fun d hd Q hQ=>?_) fun out ho p Um=>?_
 ·obtain⟨p,Iy,rfl⟩:=zq.mp hd
  exact⟨_,rfl,_,rfl,cs,p,rfl,hg,hp p Iy,hQ _ ⟨p,rfl,rfl⟩⟩
 have eo:out=(ps.map (eK cs)).map D.bl:=by
  have:∀{ps:List (Str×Str×Str)}{out:List D},Paired (fun d v=>∃p,d=p3 p∧v=.bl (eK cs p)) (ps.map p3) out→out=(ps.map (eK cs)).map D.bl:=by
   intro ps
   induction ps with
   |nil=>intro out h;cases h;rfl
   |cons x ps ih =>
    intro out h
    cases h with
    |cons r t =>
     obtain⟨p,e1,e2⟩:=r
     have:x=p:=by
      obtain⟨a,b,c⟩:=x
      obtain⟨a',b',c'⟩:=p
      unfold p3 at e1
      injection e1 with e1
      injection e1 with h1 e1
      injection e1 with h2 e1
      injection e1 with h3 _
      injection h1 with h1
      injection h2 with h2
      injection h3 with h3
      rw[show a=a' from h1,show b=b' from h2,show c=c' from h3]
     rw[e2,ih t,← this];rfl
  exact this ho
 subst eo
 refine⟨.ref p,ps.map (eK cs),rfl,aa,_,rfl,?_⟩
 rw[show (ps.map (eK cs)).all id=ps.all (eK cs) from all_map]
 refine bz (fun ha=>?_) (fun ha=>?_)
 ·have ha:=nt ha
  exact⟨sm (show 1≤100000 by decide),S,.new Um,q2 (by rw[ha];rfl)⟩
 have ha:=nf ha
 rw[ha,zA] at q1 q2
 refine⟨_,rfl,_,.inl rfl,?_⟩
 refine comp_map (fun d=>match d with|.tup (x::_)=>x|_=>.aC) trivial (by show (ps.map p3).length≤_;omega) (fun d hd Q hQ=>?_) fun p2 g6=>?_
 ·obtain⟨p,Iy,rfl⟩:=zq.mp hd
  exact⟨_,rfl,_,rfl,hQ⟩
 have e3:(ps.map p3).map (fun d=>match d with|.tup (x::_)=>x|_=>.aC)=(ps.map Prod.fst).map D.str:=by rw[zC,zC];rfl
 rw[show (⟨ps.map p3,fun _=>True⟩:Av).xs=ps.map p3 from rfl,e3]
 have sb:Sub S ((S.set p (.lst ((ps.map (eK cs)).map D.bl))).set p2 (.lst ((ps.map Prod.fst).map D.str))):=(Sub.new Um).trans (.new g6)
 have Ho:((S.set p (.lst ((ps.map (eK cs)).map D.bl))).set p2 (.lst ((ps.map Prod.fst).map D.str))) p2=some (.lst ((ps.map Prod.fst).map D.str)):=aa
 generalize (S.set p (.lst ((ps.map (eK cs)).map D.bl))).set p2 (.lst ((ps.map Prod.fst).map D.str))=S2 at sb Ho ⊢
 refine⟨_,rfl,ps.map Prod.fst,Ho,by rw[za];omega,_,rfl,_,rfl,.inl ⟨_,Ho,_,rfl,?_⟩⟩
 have e4:decide ((((g8 (ps.map Prod.fst)).length:Nat):Int)=((((ps.map Prod.fst).map D.str).length:Nat):Int))=decide ((ps.map Prod.fst).Nodup):=by
  rw[zM,← rD,za];omega
 refine bz (fun hn=>?_) (fun hn=>?_)
 ·have hn:(!decide ((((g8 (ps.map Prod.fst)).length:Nat):Int)=((((ps.map Prod.fst).map D.str).length:Nat):Int)))=true:=hn
  rw[e4] at hn
  exact⟨sm (show 1≤100000 by decide),S,sb,q2 (by rw[nt hn];rfl)⟩
 have hn:(!decide ((((g8 (ps.map Prod.fst)).length:Nat):Int)=((((ps.map Prod.fst).map D.str).length:Nat):Int)))=false:=hn
 rw[e4] at hn
 rw[nf hn,zA] at q1 q2
 refine⟨_,rfl,_,rfl,wy,rfl,_,rfl,?_⟩
 refine bz (fun hw=>?_) (fun hw=>?_)
 ·exact⟨sm (show 1≤100000 by decide),S,sb,q2 (nt hw)⟩
 ·exact⟨S,sb,q1 (nf hw)⟩
def PV(cs:List (Str×Str)):Bool:=decide (cs.length≤8) && (decide ((cs.map Prod.fst).Nodup) && cs.all fun c=>bI c.1 && jG c.2)
theorem yP:PV cs=true↔Gd cs:=by
 unfold PV Gd jG
 simp only [zg,zi,zI,ye]
theorem getD_mem{ws:List Str}(i:Nat):ws.getD i "" ∈ ws∨ws.getD i "" = "" := by
 rw[zU]
 cases h:ws[i]? with
 |none=>exact .inr rfl
 |some x=>exact .inl (zN h)
theorem lj{z:Str}(i:Nat)(h:z.cps.size≤90000):((cW z).getD i "").cps.size≤90000:=by
 rcases getD_mem (ws:=cW z) i with m|e
 ·exact zt (AE m) h
 ·rw[e];decide +kernel
theorem Hq(h:z.cps.size≤90000):∀p∈Hm (cW z),LP p:=fun p hp=>by
 obtain⟨k,_,rfl⟩:=zq.mp hp
 exact⟨zt (lj _ h) (by decide),zt (lj _ h) (by decide),zt (lj _ h) (by decide)⟩
theorem Hr(h:cI d=some cs):∃z,d=.str z∧(cs=[]∨cs=Co (cW z)):=by
 cases d with
 |str z =>
  have h:(if cW z=[("" : Str)] then some [] else if decide ((cW z).length % 2=0) && !brk (cW z) then some (Co (cW z)) else none)=some cs:=h
  refine⟨z,rfl,?_⟩
  by_cases q:cW z=[("" : Str)]
  ·rw[if_pos q] at h;cases h;exact .inl rfl
  ·rw[if_neg q] at h
   split at h
   ·cases h;exact .inr rfl
   ·cases h
 |_=>cases h
theorem ET(h:z.cps.size≤90000)(hc:cs=[]∨cs=Co (cW z)):Ul S (.tup (cs.map aq)):=by
 refine⟨⟨⟨.tup,rfl⟩,fun _ e=>(by cases e)⟩,fun ws e=>?_⟩
 cases e
 rcases hc with rfl|rfl
 ·exact⟨yq _,fun _ h=>(nomatch h)⟩
 ·have hl:=nV z
  have hz:z.length=z.cps.size:=rfl
  refine⟨by rw[za];unfold Co;rw[za,List.length_range];lia,fun v hv=>?_⟩
  obtain⟨c,hc,rfl⟩:=zq.mp hv
  obtain⟨k,_,rfl⟩:=zq.mp hc
  refine⟨⟨⟨.tup,rfl⟩,fun _ e=>(by cases e)⟩,fun ws e=>?_⟩
  cases e
  refine⟨(show 2≤100000 by decide),fun v hv=>?_⟩
  simp only [zb,ze,or_false] at hv
  rcases hv with rfl|rfl
  ·exact gt_str (zt (lj _ h) (by decide))
  ·exact gt_str (zt (lj _ h) (by decide))
theorem qW(T:Txt w K mg t):Ok P w base T.fg 6 (fun ds S R Z=>∃cs d,ds=[.tup (cs.map aq),d]∧Gd cs∧Rd S d∧(∀ws,oI d=some ws→jq cs (Hm ws) (lg ws)=true→R (ES ws) S)∧(∀ws,oI d=some ws→jq cs (Hm ws) (lg ws)=false→Z t.gP S)∧(oI d=none→Z t.aY S)):=by
 refine T.fg.F.ok jB (by rintro ds S R Z ⟨_,_,e,_⟩;exact by rw[e];rfl) (fun cn A outer s H E ds S R Z hr ⟨cs,d,e,hg,hd,q1,q2,q3⟩=>?_)
 subst e
 refine⟨_,(sc (dR (i:=2) jB.nd (cf ((vV T).mono (by decide)) hr T.iQ.m T.iQ.k T.iQ.b d0 (ac (dv 1) an))) (sc (se (cf ((pW T).mono (by decide)) hr T.ee.m T.ee.k T.ee.b d0 (ac (dv 0) (ac (dv 2) an)))) (s1 (sr (dv 2))))),?_⟩
 refine⟨_,rfl,d,rfl,hd,fun ws hw=>?_,fun hn=>fo (q3 hn)⟩
 obtain⟨z,rfl,rfl,_⟩:=Hn hw
 exact⟨_,rfl,_,rfl,cs,Hm (cW z),lg (cW z),rfl,hg,Hq (hd.2 z rfl).1,fun ho=>⟨_,rfl,fo (q1 _ hw ho)⟩,fun ho=>fo (q2 _ hw ho)⟩
theorem nL(T:Txt w K mg t):Ok P w base T.dj 5 (fun ds S R Z=>∃d,ds=[d]∧Rd S d∧(∀cs,cI d=some cs→PV cs=true→R (.tup (cs.map aq)) S)∧(∀cs,cI d=some cs→PV cs=false→Z t.eR S)∧(cI d=none→Z t.aY S)):=by
 refine T.dj.F.ok h_ (by rintro ds S R Z ⟨_,e,_⟩;exact by rw[e];rfl) (fun cn A outer s H E ds S R Z hr ⟨d,e,hd,q1,q2,q3⟩=>?_)
 subst e
 refine⟨_,(sc (dR (i:=1) h_.nd (cf ((qV T).mono (by decide)) hr T.fi.m T.fi.k T.fi.b d0 (ac (dv 0) an))) (sc (se (cf ((mF T).mono (by decide)) hr T.cD.m T.cD.k T.cD.b d0 (ac (dv 1) an))) (s1 (sr (dv 1))))),?_⟩
 refine⟨_,rfl,d,rfl,hd,fun cs hc=>?_,fun hn=>fo (q3 hn)⟩
 obtain⟨z,rfl,Wo⟩:=Hr hc
 refine⟨_,rfl,_,rfl,ET (hd.2 z rfl).1 Wo,fun Hl e hg=>⟨_,rfl,fo ?_⟩,fun hn=>fo (q2 cs hc ?_)⟩
 ·have:cs=Hl:=pV (D.tup.inj e)
  subst this
  exact q1 cs hc (yP.mpr hg)
 ·have:=hn cs rfl
  rw[← yP] at this
  exact Bool.eq_false_iff.mpr this
theorem AL(l:List α):jR l (some 1) none=l.drop 1:=by
 unfold jR
 have e:HT.sIx l.length 0 (some 1)=min 1 l.length:=HT.sIx_nat l.length 0 1
 rw[e,HT.sIx_none]
 cases l with
 |nil=>rfl
 |cons a l =>
  rw[show min 1 (a::l).length=1 by rw[zf];lia]
  exact List.take_of_length_le (by rw[yk];lia)
section
variable{iv:Str→Bool}{vo:Str→D}
abbrev lp:Str := "("
abbrev rp:Str := ")"
def dQ:List Str:=["is","below","above","begins"]
def dA:List Str:=["and","or"]
def Pw(w:Str):Prop:=w≠lp∧w≠rp
mutual
inductive Wr (iv:Str→Bool) (vo:Str→D):D→List Str→Prop
 |fu:Wr iv vo (.tup [.str "every"]) [lp, "every",rp]
 |col {w n v} : w∈dQ→Pw n→Pw v→iv v=true→Wr iv vo (.tup [.str w,.str n,vo v]) [lp,w,n,v,rp]
 |key {ks} : (∀k∈ks,Pw k)→Wr iv vo (.tup [.str "key",.tup (ks.map D.str)]) (lp :: "key" :: (ks++[rp]))
 |not {t ws} : Wr iv vo t ws→Wr iv vo (.tup [.str "not",t]) (lp :: "not" :: (ws++[rp]))
 |many {w ts ws} : w∈dA→pX iv vo ts ws→Wr iv vo (.tup [.str w,.tup ts]) (lp::w::(ws++[rp]))
inductive pX (iv:Str→Bool) (vo:Str→D):List D→List Str→Prop
 |nil:pX iv vo [] []
 |cons {t ts ws vs} : Wr iv vo t ws→pX iv vo ts vs→pX iv vo (t::ts) (ws++vs)
end
def isStr:D→Bool
 |.str _=>true
 |_=>false
def isTup:D→Bool
 |.tup _=>true
 |_=>false
theorem Wr.tup{t:D}(h:Wr iv vo t ws):isTup t=true:=by cases h <;> rfl
def aB(iv:Str→Bool)(vo:Str→D):List D→Option D
 |.str w::inner =>
  if w = "every" ∧ inner.length=0 then some (.tup [.str "every"])
  else if w∈dQ∧inner.length=2∧inner.all isStr=true then
   (match inner with
   |[.str a,.str b]=>if iv b then some (.tup [.str w,.str a,vo b]) else none
   |_=>none)
  else if w = "key" ∧ inner.all isStr=true then some (.tup [.str "key",.tup inner])
  else if w = "not" ∧ inner.length=1∧inner.all isTup=true then
   (match inner with
   |[t]=>some (.tup [.str "not",t])
   |_=>none)
  else if w∈dA∧inner.all isTup=true then some (.tup [.str w,.tup inner])
  else none
 |_=>none
def ck(iv:Str→Bool)(vo:Str→D)(st:List (List D))(w:Str):Option (List (List D)) :=
 if w=lp then some ([]::st)
 else match st with
  |top::below::rest=>if w=rp then (aB iv vo top).map fun s=>(below++[s])::rest else some ((top++[.str w])::below::rest)
  |[top]=>some [top++[.str w]]
  |[]=>none
def cP(iv:Str→Bool)(vo:Str→D):List (List D)→List Str→Option (List (List D))
 |st,[]=>some st
 |st,w::ws=>(ck iv vo st w).bind fun ie=>cP iv vo ie ws
theorem lq(st:List (List D))(ws:List Str):cP iv vo st (lp::ws)=cP iv vo ([]::st) ws:=by
 simp [cP,ck]
theorem lr(top below:List D)(rest:List (List D))(ws:List Str)(h:aB iv vo top=some s):cP iv vo (top::below::rest) (rp::ws)=cP iv vo ((below++[s])::rest) ws:=by
 have:rp≠lp:=by decide
 simp [cP,ck,this,h]
theorem i7{w:Str}(h:Pw w)(top:List D)(st:List (List D))(ws:List Str):cP iv vo (top::st) (w::ws)=cP iv vo ((top++[.str w])::st) ws:=by
 cases st <;> simp [cP,ck,h.1,h.2]
theorem AM:∀{ks:List Str},(∀k∈ks,Pw k)→∀(top:List D) (st:List (List D)) (ws:List Str),cP iv vo (top::st) (ks++ws)=cP iv vo ((top++ks.map D.str)::st) ws
 |[],_,top,st,ws=>by simp
 |k::ks,h,top,st,ws=>by
  rw[yg,i7 (h k zj),AM fun x hx=>h x (zl _ hx)]
  simp
theorem all_strs(ks:List Str):(ks.map D.str).all isStr=true:=by
 rw[List.all_map];exact zI.mpr fun _ _=>rfl
theorem pX.gB:pX iv vo ts ws→ts.all isTup=true:=by
 intro h
 induction ts generalizing ws with
 |nil=>rfl
 |cons t ts ih=>cases h with|cons a b=>rw[zW,a.tup,ih b];rfl
theorem qX:aB iv vo [.str "every"]=some (.tup [.str "every"]):=by simp [aB]
theorem vW{w n v:Str}(hw:w∈dQ)(hv:iv v=true):aB iv vo [.str w,.str n,.str v]=some (.tup [.str w,.str n,vo v]):=by
 have:w ≠ "every" := by rintro rfl;revert hw;decide
 simp [aB,this,hw,hv,isStr]
theorem vX(ks:List Str):aB iv vo (.str "key" :: ks.map D.str)=some (.tup [.str "key",.tup (ks.map D.str)]):=by
 have h1:("key" : Str) ≠ "every" := by decide
 have h2:("key" : Str)∉dQ:=by decide
 dsimp only [aB]
 rw[if_neg (fun h=>h1 h.1),if_neg (fun h=>h2 h.1),if_pos ⟨rfl,all_strs ks⟩]
theorem vY{t:D}(h:isTup t=true):aB iv vo [.str "not",t]=some (.tup [.str "not",t]):=by
 have h1:("not" : Str) ≠ "every" := by decide
 have h2:("not" : Str)∉dQ:=by decide
 have h3:("not" : Str) ≠ "key" := by decide
 dsimp only [aB]
 rw[if_neg (fun h=>h1 h.1),if_neg (fun h=>h2 h.1),if_neg (fun h=>h3 h.1),if_pos ⟨rfl,rfl,by rw[zW,h];rfl⟩]
theorem ug{w:Str}(hw:w∈dA)(h:ts.all isTup=true):aB iv vo (.str w::ts)=some (.tup [.str w,.tup ts]):=by
 have h1:w ≠ "every" := by rintro rfl;revert hw;decide
 have h2:w∉dQ:=by
  intro h
  simp only [dA,zb,ze,or_false] at hw
  rcases hw with rfl|rfl <;> revert h <;> decide
 have h3:w ≠ "key" := by rintro rfl;revert hw;decide
 have h4:w ≠ "not" := by rintro rfl;revert hw;decide
 dsimp only [aB]
 rw[if_neg (fun h=>h1 h.1),if_neg (fun h=>h2 h.1),if_neg (fun h=>h3 h.1),if_neg (fun h=>h4 h.1),if_pos ⟨hw,h⟩]
theorem pw_col{w:Str}(h:w∈dQ):Pw w:=by
 simp only [dQ,zb,ze,or_false] at h
 rcases h with rfl|rfl|rfl|rfl <;> constructor <;> decide
theorem pw_andor{w:Str}(h:w∈dA):Pw w:=by
 simp only [dA,zb,ze,or_false] at h
 rcases h with rfl|rfl <;> constructor <;> decide
theorem pw_every:Pw "every" := by constructor <;> decide
theorem pw_key:Pw "key" := by constructor <;> decide
theorem pw_not:Pw "not" := by constructor <;> decide
mutual
theorem Wr.run{t:D} : Wr iv vo t ws→∀(top:List D) (st:List (List D)) (rest:List Str),cP iv vo (top::st) (ws++rest)=cP iv vo ((top++[t])::st) rest
 |.fu,top,st,rest=>by
  show cP iv vo _ (lp :: "every" :: rp::rest)=_
  rw[lq,i7 pw_every]
  exact lr _ _ _ _ qX
 |.col hw hn hp hv,top,st,rest=>by
  rename_i w n v
  show cP iv vo _ (lp::w::n::v::rp::rest)=_
  rw[lq,i7 (pw_col hw),i7 hn,i7 hp]
  exact lr _ _ _ _ (vW hw hv)
 |.key hk,top,st,rest=>by
  rename_i ks
  rw[yg,yg,zK,lq,i7 pw_key,AM hk,List.singleton_append]
  exact lr _ _ _ _ (vX ks)
 |.not h,top,st,rest=>by
  rw[yg,yg,zK,lq,i7 pw_not,h.run,List.singleton_append]
  exact lr _ _ _ _ (vY h.tup)
 |.many hw h,top,st,rest=>by
  rw[yg,yg,zK,lq,i7 (pw_andor hw),h.run,List.singleton_append]
  exact lr _ _ _ _ (ug hw h.gB)
theorem pX.run:pX iv vo ts ws→∀(top:List D) (st:List (List D)) (rest:List Str),cP iv vo (top::st) (ws++rest)=cP iv vo ((top++ts)::st) rest
 |.nil,top,st,rest=>by simp
 |.cons a b,top,st,rest=>by
  rw[zK,a.run,b.run];simp
end
inductive yQ (iv:Str→Bool) (vo:Str→D):List D→List Str→Prop
 |nil:yQ iv vo [] []
 |word {w ds ws} : Pw w→yQ iv vo ds ws→yQ iv vo (.str w::ds) (w::ws)
 |sv {t vs ds ws} : Wr iv vo t vs→yQ iv vo ds ws→yQ iv vo (t::ds) (vs++ws)
theorem yQ.app(h:yQ iv vo a u)(k:yQ iv vo b v):yQ iv vo (a++b) (u++v):=by
 induction h with
 |nil=>exact k
 |word p _ ih=>exact .word p ih
 |sv p _ ih=>rw[zK];exact .sv p ih
theorem yQ.strs{ds:List D}{ws:List Str}(h:yQ iv vo ds ws)(a:ds.all isStr=true):ds=ws.map D.str∧∀w∈ws,Pw w:=by
 induction h with
 |nil=>exact⟨rfl,by simp⟩
 |word p _ ih =>
  rw[zW,zg] at a
  obtain⟨e,k⟩:=ih a.2
  exact⟨by rw[e];rfl,z0.mpr ⟨p,k⟩⟩
 |sv p _ ih =>
  rw[zW,zg] at a
  have:=p.tup
  cases p <;> cases a.1
theorem yQ.gB{ds:List D}{ws:List Str}(h:yQ iv vo ds ws)(a:ds.all isTup=true):pX iv vo ds ws:=by
 induction h with
 |nil=>exact .nil
 |word p _ ih=>rw[zW,zg] at a;cases a.1
 |sv p _ ih =>
  rw[zW,zg] at a
  exact .cons p (ih a.2)
theorem pY{ds:List D}{ws:List Str}{s:D}(hb:∀v,iv v=true→Pw v)(h:yQ iv vo ds ws)(e:aB iv vo ds=some s):Wr iv vo s (lp::(ws++[rp])):=by
 cases h with
 |nil=>cases e
 |sv p _=>cases p <;> cases e
 |word p h =>
  rename_i w inner vs
  dsimp only [aB] at e
  by_cases h1:w = "every" ∧ inner.length=0
  ·rw[if_pos h1] at e
   obtain⟨rfl,h1⟩:=h1
   rw[List.length_eq_zero_iff] at h1
   subst h1
   cases e;cases h
   exact .fu
  rw[if_neg h1] at e
  by_cases h2:w∈dQ∧inner.length=2∧inner.all isStr=true
  ·rw[if_pos h2] at e
   obtain⟨hw,hl,ha⟩:=h2
   obtain⟨e2,k2⟩:=h.strs ha
   subst e2
   rw[za] at hl
   match vs,hl with
   |[a,b],_ =>
    dsimp only [List.map] at e
    by_cases hv:iv b=true
    ·rw[if_pos hv] at e
     cases e
     exact .col hw (k2 a (by simp)) (k2 b (by simp)) hv
    ·rw[if_neg hv] at e;cases e
  rw[if_neg h2] at e
  by_cases h3:w = "key" ∧ inner.all isStr=true
  ·rw[if_pos h3] at e
   obtain⟨rfl,ha⟩:=h3
   obtain⟨e2,k2⟩:=h.strs ha
   subst e2
   cases e
   exact .key k2
  rw[if_neg h3] at e
  by_cases h4:w = "not" ∧ inner.length=1∧inner.all isTup=true
  ·rw[if_pos h4] at e
   obtain⟨rfl,hl,ha⟩:=h4
   have k:=h.gB ha
   match inner,hl with
   |[t],_ =>
    cases e
    cases k with
    |cons a b=>cases b;rw[zR];exact .not a
  rw[if_neg h4] at e
  by_cases h5:w∈dA∧inner.all isTup=true
  ·rw[if_pos h5] at e
   cases e
   exact .many h5.1 (h.gB h5.2)
  ·rw[if_neg h5] at e;cases e
inductive Iz (iv:Str→Bool) (vo:Str→D):List D→List Str→Prop
 |nil:Iz iv vo [] []
 |word {w ds ws} : Iz iv vo ds ws→Iz iv vo (ds++[.str w]) (ws++[w])
 |sv {t vs ds ws} : Iz iv vo ds ws→Wr iv vo t vs→Iz iv vo (ds++[t]) (ws++vs)
theorem Iz.one{t:D}(h:Iz iv vo [t] ws)(ht:isTup t=true):Wr iv vo t ws:=by
 generalize e:[t]=l at h
 cases h with
 |nil=>cases e
 |word h =>
  rename_i w ds vs
  obtain⟨e1,e2⟩:=List.append_inj' (s₁:=[]) (t₁:=[t]) e rfl
  cases e2;cases ht
 |sv h p =>
  rename_i t' vs ds us
  obtain⟨e1,e2⟩:=List.append_inj' (s₁:=[]) (t₁:=[t]) e rfl
  cases e2;subst e1
  generalize e3:([]:List D)=l at h
  cases h with
  |nil=>exact p
  |word _=>simp at e3
  |sv _ _=>simp at e3
inductive Cq (iv:Str→Bool) (vo:Str→D):List (List D)→List Str→Prop
 |base {ds ws} : Iz iv vo ds ws→Cq iv vo [ds] ws
 |up {st us ds ws} : Cq iv vo st us→yQ iv vo ds ws→Cq iv vo (ds::st) (us++lp::ws)
theorem Cq.step(hb:∀v,iv v=true→Pw v){st ie:List (List D)}{us:List Str}{w:Str}(h:Cq iv vo st us)(e:ck iv vo st w=some ie):Cq iv vo ie (us++[w]):=by
 unfold ck at e
 by_cases h1:w=lp
 ·rw[if_pos h1] at e
  cases e;subst h1
  exact .up h .nil
 rw[if_neg h1] at e
 cases h with
 |base h=>cases e;exact .base (.word h)
 |up h k =>
  rename_i st us ds ws
  rw[zK,yg]
  cases h with
  |base h =>
   dsimp only at e
   by_cases h2:w=rp
   ·rw[if_pos h2] at e
    cases z:aB iv vo ds with
    |none=>rw[z] at e;cases e
    |some s=>rw[z] at e;cases e;subst h2;exact .base (.sv h (pY hb k z))
   ·rw[if_neg h2] at e
    cases e
    exact .up (.base h) (k.app (.word ⟨h1,h2⟩ .nil))
  |up h k' =>
   dsimp only at e
   by_cases h2:w=rp
   ·rw[if_pos h2] at e
    cases z:aB iv vo ds with
    |none=>rw[z] at e;cases e
    |some s =>
     rw[z] at e;cases e;subst h2
     have q:=Cq.up h (k'.app (.sv (pY hb k z) .nil))
     rw[zR] at q
     rw[zK]
     exact q
   ·rw[if_neg h2] at e
    cases e
    exact .up (.up h k') (k.app (.word ⟨h1,h2⟩ .nil))
theorem Cq.run(hb:∀v,iv v=true→Pw v):∀{ws:List Str}{st ie:List (List D)}{us:List Str},Cq iv vo st us→cP iv vo st ws=some ie→Cq iv vo ie (us++ws)
 |[],st,ie,us,h,e=>by cases e;rw[zR];exact h
 |w::ws,st,ie,us,h,e=>by
  unfold cP at e
  cases z:ck iv vo st w with
  |none=>rw[z] at e;cases e
  |some s1 =>
   rw[z] at e
   have:=Cq.run hb (h.step hb z) e
   rw[zK] at this
   exact this
def cg(iv:Str→Bool)(vo:Str→D)(ws:List Str):Option D :=
 match cP iv vo [[]] ws with
 |some [[t]]=>if isTup t then some t else none
 |_=>none
theorem vZ(hb:∀v,iv v=true→Pw v){t:D} : cg iv vo ws=some t↔Wr iv vo t ws:=by
 constructor
 ·intro e
  unfold cg at e
  split at e
  ·rename_i t' z
   by_cases h:isTup t'=true
   ·rw[if_pos h] at e
    cases e
    have k:=Cq.run hb (.base .nil) z
    rw[List.nil_append] at k
    cases k with
    |base k=>exact k.one h
    |up h _=>cases h
   ·rw[if_neg h] at e;cases e
  ·cases e
 ·intro h
  have k:=h.run [] [] []
  rw[zR] at k
  unfold cg
  rw[k]
  show (if isTup t=true then some t else none)=some t
  rw[if_pos h.tup]
def dl(w:Str):Int:=if w=lp then 1 else if w=rp then -1 else 0
def dp:List Str→Int
 |[]=>0
 |w::ws=>dl w+dp ws
theorem EU:dl lp=1:=by decide
theorem Oh:dl rp = -1:=by decide
theorem EV{w:Str}(h:Pw w):dl w=0:=by rw[dl,if_neg h.1,if_neg h.2]
theorem yR(u v:List Str):dp (u++v)=dp u+dp v:=by
 induction u with
 |nil=>show dp v=0+dp v;lia
 |cons w u ih=>show dl w+dp (u++v)=dl w+dp u+dp v;lia
def pZ(b:List Str):Prop:=dp b=0∧∀u v,b=u++v→0≤dp u
theorem pZ.nil:pZ []:=⟨rfl,fun u v e=>by
 obtain⟨rfl,_⟩:=List.append_eq_nil_iff.mp e.symm
 exact Int.le_refl 0⟩
theorem pZ.app(h:pZ a)(k:pZ b):pZ (a++b):=by
 refine⟨by rw[yR,h.1,k.1];rfl,fun u v e=>?_⟩
 rcases List.append_eq_append_iff.mp e with ⟨c,e1,e2⟩|⟨c,e1,e2⟩
 ·rw[e1,yR,h.1]
  have:=k.2 _ _ e2
  lia
 ·exact h.2 _ _ e1
theorem pZ.cons{w:Str}(h:Pw w)(k:pZ b):pZ (w::b):=by
 refine .app (a:=[w]) ⟨by show dl w+0=0;rw[EV h];rfl,fun u v e=>?_⟩ k
 match u,e with
 |[],_=>exact Int.le_refl 0
 |[x],e=>cases e;show 0≤dl w+0;rw[EV h];decide
 |x::y::u,e=>cases e
theorem pZ.words:∀{ks:List Str},(∀k∈ks,Pw k)→pZ ks
 |[],_=>.nil
 |k::ks,h=>.cons (h k zj) (pZ.words fun x hx=>h x (zl _ hx))
def PX(vs:List Str):Prop:=dp vs=0∧∀u v,vs=u++v→u≠[]→v≠[]→0<dp u
theorem pZ.CL(h:pZ b):PX (lp::(b++[rp])):=by
 refine⟨?_,fun u v e hu hv=>?_⟩
 ·show dl lp+dp (b++[rp])=0
  rw[yR,h.1,EU]
  show 1+(0+(dl rp+0))=(0:Int)
  rw[Oh];rfl
 ·match u,hu with
  |x::u,_ =>
   obtain⟨ex,e'⟩:lp=x∧b++[rp]=u++v:=yF e
   rw[← ex]
   show 0<dl lp+dp u
   rw[EU]
   have:0≤dp u:=by
    rcases List.append_eq_append_iff.mp e' with ⟨c,e1,e2⟩|⟨c,e1,e2⟩
    ·match c,e2 with
     |[],_=>rw[e1,zR,h.1];decide
     |[y],e2=>cases v with
      |nil=>exact absurd rfl hv
      |cons z v=>cases e2
     |y::z::c,e2=>cases e2
    ·exact h.2 _ _ e1
   lia
theorem PX.lvl(h:PX vs):pZ vs:=by
 refine⟨h.1,fun u v e=>?_⟩
 by_cases hu:u=[]
 ·subst hu;exact Int.le_refl 0
 by_cases hv:v=[]
 ·subst hv;rw[zR] at e;rw[← e,h.1];decide
 ·exact Int.le_of_lt (h.2 u v e hu hv)
mutual
theorem Wr.CL{t:D} : Wr iv vo t ws→PX ws
 |.fu=>pZ.CL (b:=["every"]) (.words (ks:=["every"]) (by simpa using pw_every))
 |.col hw hn hp hv=>by
  rename_i w n v
  exact pZ.CL (b:=[w,n,v]) (.cons (pw_col hw) (.cons hn (.cons hp .nil)))
 |.key hk=>by
  rename_i ks
  exact pZ.CL (b := "key" :: ks) (.cons pw_key (.words hk))
 |.not h=>pZ.CL (b := "not" :: _) (.cons pw_not h.CL.lvl)
 |.many hw h=>pZ.CL (b:=_::_) (.cons (pw_andor hw) h.lvl)
theorem pX.lvl:pX iv vo ts ws→pZ ws
 |.nil=>.nil
 |.cons a b=>a.CL.lvl.app b.lvl
end
theorem Wr.head{t:D}(h:Wr iv vo t ws):∃r,ws=lp::r:=by cases h <;> exact⟨_,rfl⟩
theorem Wr.ne{t:D}(h:Wr iv vo t ws):ws≠[]:=by
 obtain⟨r,e⟩:=h.head
 rw[e];exact List.cons_ne_nil _ _
def md:List Str→Int
 |[]=>0
 |w::ws=>max 0 (dl w+md ws)
theorem mY:∀ws,0≤md ws
 |[]=>Int.le_refl 0
 |w::ws=>Int.le_max_left _ _
theorem Oi(r:List Str):md (lp::r)=1+md r:=by
 have:=mY r
 show max 0 (dl lp+md r)=_
 rw[EU];lia
theorem IA{w:Str}(h:Pw w)(r:List Str):md (w::r)=md r:=by
 have:=mY r
 show max 0 (dl w+md r)=_
 rw[EV h];lia
end
def Tg(d:D):Prop:=(∃z,d=.str z∧z.cps.size≤90000∧PyData.strOk z=true)∨∃ws,d=.tup ws∧∀S,(∃n,Ly S n d)∧QA S d
theorem Tg.kd(h:Tg d)(S:aK):∃k,GQ S d k∧sG k=isStr d∧kx k=isTup d:=by
 rcases h with ⟨z,rfl,_⟩|⟨ws,rfl,_⟩
 ·exact⟨.str,rfl,rfl,rfl⟩
 ·exact⟨.tup,rfl,rfl,rfl⟩
theorem lu(T:Txt w K mg t):Ok P w base T.cT 1 (fun ds S R _=>∃a xs,ds=[.ref a]∧S a=some (.lst xs)∧xs.length≤100000∧(∀d∈xs,Tg d)∧R (.bl (xs.all isStr)) S):=by
 refine T.cT.F.jk tZ ?_
 rintro _ _ _ _ _ _ ds S R Z hr ⟨a,xs,e,hS,hl,ht,q⟩
 subst e
 refine⟨_,(s1 (sr (cb f6 T.gm dD (ac (lW (N:=["thing"]) (src:=[none]) (kr (ae fC) ["things"] rfl rfl (by trivial)) (il (dv 0)) (nT (show (["thing"]:List Str).Nodup by trivial)) (aM rfl) aN (fun _ _ _ _ _=>lH) (fun _ _ _ _ _=>(cb bx T.aj ah (ac (dv 0) (ac (jw T.eJ cq) an))))) an)))),?_⟩
 refine⟨_,rfl,xs,hS,?_⟩
 refine comp_map (fun d=>.bl (isStr d)) hS hl (fun d hd Q hQ=>?_) fun p hp=>?_
 ·obtain⟨k,hk,e1,_⟩:=(ht d hd).kd S
  refine⟨_,rfl,_,_,_,_,rfl,bU,hk,?_⟩
  rw[e1];exact hQ
 ·have e2:xs.map (fun d=>D.bl (isStr d))=(xs.map isStr).map D.bl:=by rw[zC];rfl
  rw[show (⟨xs,fun S=>BF S (.ref a) xs⟩:Av).xs=xs from rfl,e2]
  refine⟨.ref p,xs.map isStr,rfl,aa,S,.new hp,?_⟩
  rw[show (xs.map isStr).all id=xs.all isStr from all_map]
  exact q
theorem jH(T:Txt w K mg t):Ok P w base T.bR 1 (fun ds S R _=>∃a xs,ds=[.ref a]∧S a=some (.lst xs)∧xs.length≤100000∧(∀d∈xs,Tg d)∧R (.bl (xs.all isTup)) S):=by
 refine T.bR.F.jk qR ?_
 rintro _ _ _ _ _ _ ds S R Z hr ⟨a,xs,e,hS,hl,ht,q⟩
 subst e
 refine⟨_,(s1 (sr (cb f6 T.gm dD (ac (lW (N:=["thing"]) (src:=[none]) (kr (ae eP) ["things"] rfl rfl (by trivial)) (il (dv 0)) (nT (show (["thing"]:List Str).Nodup by trivial)) (aM rfl) aN (fun _ _ _ _ _=>lH) (fun _ _ _ _ _=>(cb bx T.aj ah (ac (dv 0) (ac (jw T.aL ax) an))))) an)))),?_⟩
 refine⟨_,rfl,xs,hS,?_⟩
 refine comp_map (fun d=>.bl (isTup d)) hS hl (fun d hd Q hQ=>?_) fun p hp=>?_
 ·obtain⟨k,hk,_,e1⟩:=(ht d hd).kd S
  refine⟨_,rfl,_,_,_,_,rfl,aI,hk,?_⟩
  rw[e1];exact hQ
 ·have e2:xs.map (fun d=>D.bl (isTup d))=(xs.map isTup).map D.bl:=by rw[zC];rfl
  rw[show (⟨xs,fun S=>BF S (.ref a) xs⟩:Av).xs=xs from rfl,e2]
  refine⟨.ref p,xs.map isTup,rfl,aa,S,.new hp,?_⟩
  rw[show (xs.map isTup).all id=xs.all isTup from all_map]
  exact q
def bM(z:Str):D:=if z = "-" then .aC else match z.cps.toList.head? with
 |some 35=>(match intText? (Txt.slice z (some 1) none) with|some n=>.int n|none=>.aC)
 |_=>.str (xx (Txt.slice z (some 1) none))
def mZ(z:Str):Bool:=qT z.cps.toList
theorem p6{z:Str}{d:D}(h:Told z d):d=bM z:=by
 unfold bM
 rcases h with ⟨rfl,rfl⟩|⟨h1,n,_,h2,_,rfl⟩|⟨h1,rfl⟩
 ·rw[if_pos rfl]
 ·rw[if_neg (by rintro rfl;revert h1;decide +kernel),h1]
  show _=(match intText? (Txt.slice z (some 1) none) with|some n=>D.int n|none=>D.aC)
  rw[h2]
 ·rw[if_neg (by rintro rfl;revert h1;decide +kernel),h1];rfl
def Nw(d:D):Prop:=d=.aC∨∃ws,d=.tup ws∧∀S,∃n,Ly S n d
theorem Nw.eq(h:Nw d)(hs:PyData.strOk s=true)(q:R (.bl false) S):BG false d (.str s) S R:=by
 rcases h with rfl|⟨ws,rfl,hl⟩
 ·exact⟨.none,.str s,by simp only [Dl,Dp],by simp only [Dl,Dp],by simp only [PyData.canLay0],by simp only [PyData.canLay0,hs],.inl (by simp only [PyData.depth];decide),q⟩
 ·obtain⟨n,hn⟩:=hl S
  obtain⟨p,h1,h2,_⟩:=hn.dl
  refine⟨p,.str s,h1,by simp only [Dl,Dp],h2,by simp only [PyData.canLay0,hs],.inr (by simp only [PyData.depth];decide),?_⟩
  have e:PyData.eqv p (.str s)=false:=by
   simp only [Dl,Dp] at h1
   obtain⟨ps,rfl,_⟩:=h1
   simp [PyData.eqv]
  show R (.bl (PyData.eqv p (.str s))) S
  rw[e];exact q
theorem Nw.SE{d:D}(h:Nw d){ss:List Str}(hs:∀s∈ss,PyData.strOk s=true){S:aK} : Alike S d (ss.map D.str) false:=by
 obtain⟨p,h1,h2,h3⟩:∃p,Dl S d p∧p.canLay0=true∧∀s,PyData.eqv (.str s) p=false:=by
  rcases h with rfl|⟨ws,rfl,hl⟩
  ·exact⟨.none,by simp only [Dl,Dp],by simp only [PyData.canLay0],fun s=>by simp [PyData.eqv]⟩
  ·obtain⟨n,hn⟩:=hl S
   obtain⟨p,h1,h2,_⟩:=hn.dl
   refine⟨p,h1,h2,fun s=>?_⟩
   simp only [Dl,Dp] at h1
   obtain⟨ps,rfl,_⟩:=h1
   simp [PyData.eqv]
 refine⟨p,h1,h2,fun x hx=>?_⟩
 obtain⟨s,hm,rfl⟩:=zq.mp hx
 exact⟨.str s,by simp only [Dl,Dp],by simp only [PyData.canLay0,hs s hm],.inl (by simp only [PyData.depth];decide),h3 s⟩
def SG(t:KI):jd:=fun ds S R Z=>∃a xs,ds=[.ref a]∧S a=some (.lst xs)∧xs.length≤90000∧(∀d∈xs,Tg d)∧(∀s,aB mZ bM xs=some s→R s S)∧(aB mZ bM xs=none→Z t.aY S)
theorem Nw.LS{d:D}(h:Nw d){s:Str}(hs:PyData.strOk s=true){σ:SD}{S:aK}{R:KD}{Z:Addr→aK→Prop}(q:R (.bl false) S):dC (.str s) σ S (fun y S2=>BG false d y S2 R) Z:=h.eq hs q
theorem Nw.Uo{d:D}(h:Nw d)(ss:List Str)(hs:∀s∈ss,PyData.strOk s=true){σ:SD}{S:aK}{R:KD}{Z:Addr→aK→Prop}(q:R (.bl false) S):dC (.kt (ss.map D.str)) σ S (fun y S2=>Ui false d y S2 R) Z :=
 .inr ⟨_,false,.inr (.inl rfl),h.SE hs,q⟩
theorem fW{c1:Bool}{X A B:Prop}(c2:Bool)(hx:(if c2=true then A else B)→X)(h:if (c1 && c2)=true then A else B):if c1=true then X else (if false=true then A else B):=by
 cases c1 with
 |true=>exact hx h
 |false=>exact h
theorem isStr_of{d:D}(h:isStr d=true):∃z,d=.str z:=by
 cases d with
 |str z=>exact⟨z,rfl⟩
 |_=>cases h
theorem nM(x y:D)(ws:List D):jO (x::y::ws) 1=some y:=kh (xs:=x::y::ws) (i:=1) (by simp)
theorem len_eq(n:Nat)(k:Nat):decide ((((n:Nat):Int))=((k:Nat):Int))=decide (n=k):=by rw[zM];lia
theorem p7(z:Str):wZ (lV (.str z)) (([.str "is",.str "below",.str "above",.str "begins"]:List D).map lV)=decide (z∈dQ):=k7 z dQ
theorem IB(z:Str):wZ (lV (.str z)) (([.str "and",.str "or"]:List D).map lV)=decide (z∈dA):=k7 z dA
theorem v7(T:Txt w K mg t):Ok P w base T.iS 5 (SG t):=by
 refine T.iS.F.jk i4 ?_
 rintro _ _ _ _ _ _ ds S R Z hr ⟨a,xs,e,hS,hl,ht,q1,q2⟩
 subst e
 refine⟨_,(sc (dR (i:=1) i4.nd (T5 (bw oH hr.units (cb aW T.aR aE (ac (dv 0) an)) di) (ix hr.units (dv 0) di) dn)) (sc (dR (i:=2) i4.nd (sl (dv 0) (o1 di) o0)) (sc (si (twd (twand (bw bB hr.units (dv 1) ds) (tw1 (bw bB hr.units (cb aW T.aR aE (ac (dv 2) an)) di)))) (s1 (sr (cA (ac ds an)))) s0) (sc (si (twd (twand (bw Io hr.units (dv 1) (dg (v:=.ref t.df) T.hU rfl T.hX)) (twand (bw bB hr.units (cb aW T.aR aE (ac (dv 2) an)) di) (tw1 (tv (cf ((lu T).mono (by decide)) hr T.cT.m T.cT.k T.cT.b d0 (ac (dv 2) an))))))) (s1 (sr (cA (ac (dv 1) (ac (ix hr.units (dv 2) di) (ac (cf ((gw T).mono (by decide)) hr T.a_.m T.a_.k T.a_.b d0 (ac (ix hr.units (dv 2) di) an)) an)))))) s0) (sc (si (twd (twand (bw bB hr.units (dv 1) ds) (tw1 (tv (cf ((lu T).mono (by decide)) hr T.cT.m T.cT.k T.cT.b d0 (ac (dv 2) an)))))) (s1 (sr (cA (ac ds (ac (ct cJ T.aL ax (ac (dv 2) an)) an))))) s0) (sc (si (twd (twand (bw bB hr.units (dv 1) ds) (twand (bw bB hr.units (cb aW T.aR aE (ac (dv 2) an)) di) (tw1 (tv (cf ((jH T).mono (by decide)) hr T.bR.m T.bR.k T.bR.b d0 (ac (dv 2) an))))))) (s1 (sr (cA (ac ds (ac (ix hr.units (dv 2) di) an))))) s0) (sc (si (twd (twand (bw Io hr.units (dv 1) (cA (ac ds (ac ds an)))) (tw1 (tv (cf ((jH T).mono (by decide)) hr T.bR.m T.bR.k T.bR.b d0 (ac (dv 2) an)))))) (s1 (sr (cA (ac (dv 1) (ac (ct cJ T.aL ax (ac (dv 2) an)) an))))) s0) (s1 (rF ⟨T.dm⟩ T.dG (ac ds an)))))))))),?_⟩
 refine⟨_,rfl,_,rfl,.inl ⟨_,hS,_,rfl,?_⟩⟩
 have n2:=sm (show 2≤100000 by decide)
 have n1:=sm (show 1≤100000 by decide)
 have n3:=sm (show 3≤100000 by decide)
 refine bz (fun h0=>?_) (fun h0=>?_)
 ·have h0:(0:Int)<((xs.length:Nat):Int):=zu h0
  match xs,h0 with
  |x::r,_ =>
  refine⟨_,rfl,_,_,hS,b_ x r,?_⟩
  refine⟨_,rfl,_,rfl,_,hS,fun p hp=>?_⟩
  rw[show jR (x::r) (some 1) none=r from AL (x::r)]
  have sb:Sub S (S.set p (.lst r)):=.new hp
  have fY:(S.set p (.lst r)) p=some (.lst r):=aa
  generalize S.set p (.lst r)=S1 at sb fY ⊢
  have PY:r.length≤90000:=zt (yG _) hl
  have Hs:r.length≤100000:=zt PY (by decide)
  have Oj:∀d∈r,Tg d:=fun d hd=>ht d (zl _ hd)
  rcases ht x zj with ⟨z,rfl,Dm,H9⟩|⟨ws,rfl,Wq⟩
  ·-- a word
   have L:∀(k:Nat),decide (((r.length:Nat):Int)=((k:Nat):Int))=decide (r.length=k):=fun k=>len_eq _ k
   refine⟨_,rfl,decide (z = "every"),rfl,fW (decide (r.length=0)) (fun h=>⟨_,rfl,_,rfl,.inl ⟨_,fY,decide (r.length=0),congrArg D.bl (L 0),h⟩⟩) ?_⟩
   refine bz (fun h=>?_) (fun h1=>?_)
   ·rw[zg,zi,zi] at h
    refine⟨n1,S,sb,q1 _ ?_⟩
    dsimp only [aB];rw[if_pos h]
   have h1:¬ (z = "every" ∧ r.length=0):=fun h=>by rw[zk h.1,zk h.2] at h1;cases h1
   refine⟨_,rfl,.inl ⟨rfl,rfl,decide (z∈dQ),congrArg D.bl (p7 z),fW (decide (r.length=2) && r.all isStr) (fun h=>⟨_,rfl,_,rfl,.inl ⟨_,fY,decide (r.length=2),congrArg D.bl (L 2),fW (r.all isStr) (fun h=>⟨_,rfl,p,r,rfl,fY,Hs,Oj,_,rfl,h⟩) h⟩⟩) ?_⟩⟩
   refine bz (fun h=>?_) (fun h2=>?_)
   ·simp only [zg,zi] at h
    obtain⟨hc,CF,ha⟩:=h
    obtain⟨x1,x2,rfl⟩:=KL CF
    have KS:=ha
    simp only [zW,List.all_nil,Bool.and_true,zg] at KS
    obtain⟨a1,rfl⟩:=isStr_of KS.1
    obtain⟨b1,rfl⟩:=isStr_of KS.2
    have Ws:b1.cps.size≤90000:=by
     rcases Oj (.str b1) (by simp) with ⟨y,e,h,_⟩|⟨_,e,_⟩
     ·cases e;exact h
     ·cases e
    have so:aB mZ bM (.str z::[.str a1,.str b1])=if mZ b1=true then some (.tup [.str z,.str a1,bM b1]) else none:=by
     dsimp only [aB];rw[if_neg h1,if_pos ⟨hc,CF,ha⟩]
    refine⟨_,rfl,_,rfl,_,_,fY,b_ _ _,_,rfl,_,_,fY,nM _ _ _,b1,rfl,Ws,fun hv d hd _=>⟨n3,S,sb,q1 _ ?_⟩,fun hv=>⟨S,sb,q2 ?_⟩⟩
    ·rw[so,p6 hd];exact if_pos hv
    ·rw[so];exact if_neg (by rw[show mZ b1=false from hv];decide)
   have h2:¬ (z∈dQ∧r.length=2∧r.all isStr=true):=fun h=>by rw[zk h.1,zk h.2.1,h.2.2] at h2;cases h2
   refine⟨_,rfl,decide (z = "key"),rfl,fW (r.all isStr) (fun h=>⟨_,rfl,p,r,rfl,fY,Hs,Oj,_,rfl,h⟩) ?_⟩
   refine bz (fun h=>?_) (fun h3=>?_)
   ·simp only [zg,zi] at h
    refine⟨_,rfl,_,_,rfl,.inl fY,n2,S,sb,q1 _ ?_⟩
    dsimp only [aB];rw[if_neg h1,if_neg h2,if_pos h]
   have h3:¬ (z = "key" ∧ r.all isStr=true):=fun h=>by rw[zk h.1,h.2] at h3;cases h3
   refine⟨_,rfl,decide (z = "not"),rfl,fW (decide (r.length=1) && r.all isTup) (fun h=>⟨_,rfl,_,rfl,.inl ⟨_,fY,decide (r.length=1),congrArg D.bl (L 1),fW (r.all isTup) (fun h=>⟨_,rfl,p,r,rfl,fY,Hs,Oj,_,rfl,h⟩) h⟩⟩) ?_⟩
   refine bz (fun h=>?_) (fun h4=>?_)
   ·simp only [zg,zi] at h
    obtain⟨x1,rfl⟩:=vQ h.2.1
    refine⟨_,rfl,_,_,fY,b_ _ _,n2,S,sb,q1 _ ?_⟩
    dsimp only [aB];rw[if_neg h1,if_neg h2,if_neg h3,if_pos h]
   have h4:¬ (z = "not" ∧ r.length=1∧r.all isTup=true):=fun h=>by rw[zk h.1,zk h.2.1,h.2.2] at h4;cases h4
   refine⟨_,rfl,n2,.inl ⟨rfl,rfl,decide (z∈dA),congrArg D.bl (IB z),fW (r.all isTup) (fun h=>⟨_,rfl,p,r,rfl,fY,Hs,Oj,_,rfl,h⟩) ?_⟩⟩
   refine bz (fun h=>?_) (fun h5=>?_)
   ·simp only [zg,zi] at h
    refine⟨_,rfl,_,rfl,_,_,rfl,.inl fY,n2,S,sb,q1 _ ?_⟩
    dsimp only [aB];rw[if_neg h1,if_neg h2,if_neg h3,if_neg h4,if_pos h]
   have h5:¬ (z∈dA∧r.all isTup=true):=fun h=>by rw[zk h.1,h.2] at h5;cases h5
   refine⟨n1,S,sb,q2 ?_⟩
   dsimp only [aB]
   rw[if_neg h1,if_neg h2,if_neg h3,if_neg h4,if_neg h5]
  ·have hw:Nw (.tup ws):=.inr ⟨ws,rfl,fun S=>(Wq S).1⟩
   refine⟨_,rfl,hw.LS (by trivial) ⟨false,rfl,ay (ay ?_)⟩⟩
   refine⟨_,rfl,hw.Uo ["is","below","above","begins"] (by trivial) ⟨false,rfl,ay (ay ?_)⟩⟩
   refine⟨_,rfl,hw.LS (by trivial) ⟨false,rfl,ay (ay ?_)⟩⟩
   refine⟨_,rfl,hw.LS (by trivial) ⟨false,rfl,ay (ay ?_)⟩⟩
   refine⟨_,rfl,n2,.inr ⟨_,false,.inl rfl,hw.SE (ss:=["and","or"]) (by trivial),false,rfl,ay (ay ?_)⟩⟩
   exact⟨sm (show 1≤100000 by decide),S,sb,q2 rfl⟩
 ·have h0:¬ (0:Int)<((xs.length:Nat):Int):=zD h0
  obtain rfl:xs=[]:=zQ (by lia)
  refine⟨_,rfl,_,rfl,_,hS,fun p hp=>?_⟩
  have sb:Sub S (S.set p (.lst (jR [] (some 1) none))):=.new hp
  have hw:Nw .aC:=.inl rfl
  refine⟨_,rfl,hw.LS (by trivial) ⟨false,rfl,ay (ay ?_)⟩⟩
  refine⟨_,rfl,hw.Uo ["is","below","above","begins"] (by trivial) ⟨false,rfl,ay (ay ?_)⟩⟩
  refine⟨_,rfl,hw.LS (by trivial) ⟨false,rfl,ay (ay ?_)⟩⟩
  refine⟨_,rfl,hw.LS (by trivial) ⟨false,rfl,ay (ay ?_)⟩⟩
  refine⟨_,rfl,n2,.inr ⟨_,false,.inl rfl,hw.SE (ss:=["and","or"]) (by trivial),false,rfl,ay (ay ?_)⟩⟩
  exact⟨sm (show 1≤100000 by decide),S,sb,q2 rfl⟩
def IC(d:D):Prop:=∀S,(∃n,Ly S n d)∧QA S d
theorem lx(h:z.cps.size≤90000)(hs:PyData.strOk z=true):IC (.str z):=fun S=>⟨⟨0,.str hs⟩,EB (gt_str (by lia)) fun ws e=>by cases e⟩
theorem Ly.ge:∀{ds:List D},(∀d∈ds,∃n,Ly S n d)→∃n,∀d∈ds,Ly S n d
 |[],_=>⟨0,fun d h=>by cases h⟩
 |d::ds,h=>by
  obtain⟨n,h1⟩:=h d zj
  obtain⟨m,h2⟩:=Ly.ge fun x hx=>h x (zl _ hx)
  refine⟨max n m,fun x hx=>?_⟩
  rcases zb.mp hx with rfl|hx
  ·exact h1.le (Nat.le_max_left _ _)
  ·exact (h2 x hx).le (Nat.le_max_right _ _)
theorem gW{ds:List D}(hl:ds.length≤100000)(h:∀d∈ds,IC d):IC (.tup ds):=fun S=>by
 obtain⟨n,hn⟩:=Ly.ge fun d hd=>(h d hd S).1
 exact⟨⟨n+1,.tup hn⟩,KN hl fun d hd=>(h d hd S).2⟩
theorem Tg.SH(h:Tg d):IC d:=by
 rcases h with ⟨z,rfl,h1,h2⟩|⟨ws,rfl,h⟩
 ·exact lx h1 h2
 ·exact h
theorem Ht(h:vS d):IC d:=by
 rcases h with rfl|⟨n,rfl,h⟩|⟨z,rfl,h⟩
 ·exact fun S=>⟨⟨0,.aC⟩,EB ⟨⟨.aC,rfl⟩,fun z e=>by cases e⟩ fun ws e=>by cases e⟩
 ·exact fun S=>⟨⟨0,.int n,by simp only [Dp],by simp only [PyData.canLay0],by simp only [PyData.depth];exact zh _⟩,EB ⟨⟨.int,rfl⟩,fun z e=>by cases e⟩ fun ws e=>by cases e⟩
 ·have h1:=h
  unfold dy at h1
  simp only [zg,zi,zI] at h1
  refine lx (by lia) (fT.mpr fun c hc=>?_)
  have:=h1.2 c hc
  unfold mT at this
  simp only [zg,zi] at this
  lia
theorem Ol(h:mZ z=true):vS (bM z):=by
 obtain⟨d,h1,h2⟩:=rY h
 rw[← p6 h1];exact h2
theorem Om{xs:List D}{s:D}(hl:xs.length≤90000)(ht:∀d∈xs,Tg d)(e:aB mZ bM xs=some s):Tg s:=by
 match xs,e with
 |.str z::r,e =>
  have hz:=(ht (.str z) zj).SH
  have hr:∀d∈r,IC d:=fun d hd=>(ht d (zl _ hd)).SH
  have PY:r.length≤100000:=zt (zt (yG _) hl) (by decide)
  dsimp only [aB] at e
  by_cases h1:z = "every" ∧ r.length=0
  ·rw[if_pos h1] at e;cases e
   exact .inr ⟨_,rfl,gW (show 1≤100000 by decide) fun d hd=>by rw[zz.mp hd];exact lx (by decide) (by trivial)⟩
  rw[if_neg h1] at e
  by_cases h2:z∈dQ∧r.length=2∧r.all isStr=true
  ·rw[if_pos h2] at e
   obtain⟨x1,x2,rfl⟩:=KL h2.2.1
   have KS:=h2.2.2
   simp only [zW,List.all_nil,Bool.and_true,zg] at KS
   obtain⟨a1,rfl⟩:=isStr_of KS.1
   obtain⟨b1,rfl⟩:=isStr_of KS.2
   have e:(if mZ b1=true then some (D.tup [.str z,.str a1,bM b1]) else none)=some s:=e
   by_cases hv:mZ b1=true
   ·rw[if_pos hv] at e;cases e
    refine .inr ⟨_,rfl,gW (show 3≤100000 by decide) fun d hd=>?_⟩
    simp only [zb,ze,or_false] at hd
    rcases hd with rfl|rfl|rfl
    ·exact hz
    ·exact hr _ (by simp)
    ·exact Ht (Ol hv)
   ·rw[if_neg hv] at e;cases e
  rw[if_neg h2] at e
  by_cases h3:z = "key" ∧ r.all isStr=true
  ·rw[if_pos h3] at e;cases e
   refine .inr ⟨_,rfl,gW (show 2≤100000 by decide) fun d hd=>?_⟩
   simp only [zb,ze,or_false] at hd
   rcases hd with rfl|rfl
   ·exact lx (by decide) (by trivial)
   ·exact gW PY hr
  rw[if_neg h3] at e
  by_cases h4:z = "not" ∧ r.length=1∧r.all isTup=true
  ·rw[if_pos h4] at e
   obtain⟨x1,rfl⟩:=vQ h4.2.1
   cases e
   refine .inr ⟨_,rfl,gW (show 2≤100000 by decide) fun d hd=>?_⟩
   simp only [zb,ze,or_false] at hd
   rcases hd with rfl|rfl
   ·exact lx (by decide) (by trivial)
   ·exact hr _ (by simp)
  rw[if_neg h4] at e
  by_cases h5:z∈dA∧r.all isTup=true
  ·rw[if_pos h5] at e;cases e
   refine .inr ⟨_,rfl,gW (show 2≤100000 by decide) fun d hd=>?_⟩
   simp only [zb,ze,or_false] at hd
   rcases hd with rfl|rfl
   ·exact hz
   ·exact gW PY hr
  ·rw[if_neg h5] at e;cases e
def jI(S:aK):List Addr→List (List D)→Prop
 |[],[]=>True
 |a::as,l::ls=>S a=some (.lst l)∧jI S as ls
 |_,_=>False
theorem jI.set:∀{as:List Addr}{st:List (List D)},jI S as st→a∉as→jI (S.set a c) as st
 |[],[],_,_=>trivial
 |b::as,l::ls,h,n=>⟨(ai fun e=>n (by rw[e];exact zj)).trans h.1,jI.set h.2 fun m=>n (zl _ m)⟩
theorem jI.len:∀{as:List Addr}{st:List (List D)},jI S as st→as.length=st.length
 |[],[],_=>rfl
 |b::as,l::ls,h=>congrArg (·+1) h.2.len
theorem jI.there:∀{as:List Addr}{st:List (List D)},jI S as st→a∈as→∃c,S a=some c
 |b::as,l::ls,h,m=>by
  rcases zb.mp m with rfl|m
  ·exact⟨_,h.1⟩
  ·exact h.2.there m
theorem gy(w:Str):∀(us:List Str) (st:List (List D)),cP iv vo st (us++[w])=(cP iv vo st us).bind fun s=>ck iv vo s w
 |[],st=>by
  show (ck iv vo st w).bind (fun s=>some s)=ck iv vo st w
  cases ck iv vo st w <;> rfl
 |u::us,st=>by
  show (ck iv vo st u).bind (fun s=>cP iv vo s (us++[w]))=((ck iv vo st u).bind fun s=>cP iv vo s us).bind _
  cases ck iv vo st u with
  |none=>rfl
  |some s=>exact gy w us s
theorem v8:∀(us vs:List Str) (st:List (List D)),cP iv vo st us=none→cP iv vo st (us++vs)=none
 |[],vs,st,h=>by cases h
 |u::us,vs,st,h=>by
  have h:(ck iv vo st u).bind (fun s=>cP iv vo s us)=none:=h
  show (ck iv vo st u).bind (fun s=>cP iv vo s (us++vs))=none
  cases e:ck iv vo st u with
  |none=>rfl
  |some s=>rw[e] at h;exact v8 us vs s h
theorem v9:((b::as).reverse.map D.ref)[((b::as).reverse.map D.ref).length - 1]?=some (.ref b):=by
 rw[List.reverse_cons,zT,zo,za]
 show (_++[D.ref b])[_+1 - 1]?=_
 rw[Nat.add_sub_cancel,List.getElem?_append_right (by rw[za];exact zh _),za,Nat.sub_self];rfl
theorem EW:((b::as).reverse.map D.ref).dropLast=as.reverse.map D.ref:=by
 rw[List.reverse_cons,zT]
 exact List.dropLast_concat
theorem AN:jO ((b::as).reverse.map D.ref) (-1)=some (.ref b):=by
 have h:=t6 (xs:=(b::as).reverse.map D.ref) (k:=1) (by simp) (zh 1)
 rw[show (-((1:Nat):Int)) = -1 from rfl] at h
 rw[h];exact v9
structure AO(S:aK)(u pw:Addr)(ws:List Str)(i:Nat)(as:List Addr)(st:List (List D))(S':aK):Prop where
 un:S' u=some (.lst (as.reverse.map D.ref))
 at_:jI S' as st
 nd:as.Nodup
 nu:u∉as
 np:pw∉as
 pu:pw≠u
 pw:S' pw=some (.lst (ws.map D.str))
 new:∀a∈as,S a=none
 Oo:S u=none
 sub:Sub S S'
 run:cP mZ bM [[]] (ws.take i)=some st
 tg:∀l∈st,l.length≤i∧∀x∈l,Tg x
 len:st.length≤i+1
theorem fX(h:Sub S S')(n:S a=none):Sub S (S'.set a c):=fun b d hb=>(ai fun e=>by rw[e,n] at hb;cases hb).trans (h b d hb)
theorem AO.Oq{S:aK}{u pw p:Addr}{ws:List Str}{i:Nat}{as:List Addr}{st:List (List D)}{S':aK}(h:AO S u pw ws i as st S')(hi:ws[i]?=some lp)(hp:S' p=none) :
  AO S u pw ws (i+1) (p::as) ([]::st) ((S'.set p (.lst [])).set u (.lst (as.reverse.map D.ref++[.ref p]))):=by
 have Up:p≠u:=fun e=>by rw[e,h.un] at hp;cases hp
 have Uq:p∉as:=fun m=>by obtain⟨c,hc⟩:=h.at_.there m;rw[hp] at hc;cases hc
 have Ur:p≠pw:=fun e=>by rw[e,h.pw] at hp;cases hp
 have Us:S p=none:=by
  cases e:S p with
  |none=>rfl
  |some c=>rw[h.sub _ _ e] at hp;cases hp
 refine⟨?_,⟨(ai Up).trans aa,(h.at_.set Uq).set h.nu⟩,yi.mpr ⟨Uq,h.nd⟩,?_,?_,h.pu,(ai h.pu).trans ((ai (Ne.symm Ur)).trans h.pw),?_,h.Oo,fX (fX h.sub Us) h.Oo,?_,?_,?_⟩
 ·rw[List.reverse_cons,zT];exact aa
 ·exact fun m=>(zb.mp m).elim (fun e=>Up e.symm) h.nu
 ·exact fun m=>(zb.mp m).elim (fun e=>Ur e.symm) h.np
 ·exact z0.mpr ⟨Us,h.new⟩
 ·rw[take_snoc hi,gy,h.run];simp [ck]
 ·refine z0.mpr ⟨⟨yq _,fun x hx=>by cases hx⟩,fun l hl=>⟨Nat.le_succ_of_le (h.tg l hl).1,(h.tg l hl).2⟩⟩
 ·exact Nat.succ_le_succ h.len
theorem AO.word{S:aK}{u pw a:Addr}{ws:List Str}{i:Nat}{as:List Addr}{l:List D}{st:List (List D)}{S':aK}{w:Str}(h:AO S u pw ws i (a::as) (l::st) S')(hi:ws[i]?=some w)(hw:Tg (.str w))(hs:ck mZ bM (l::st) w=some ((l++[.str w])::st)) :
  AO S u pw ws (i+1) (a::as) ((l++[.str w])::st) (S'.set a (.lst (l++[.str w]))):=by
 have nd:=yi.mp h.nd
 have au:u≠a:=fun e=>h.nu (by rw[e];exact zj)
 have ap:pw≠a:=fun e=>h.np (by rw[e];exact zj)
 refine⟨(ai au).trans h.un,⟨aa,h.at_.2.set nd.1⟩,h.nd,h.nu,h.np,h.pu,(ai ap).trans h.pw,h.new,h.Oo,fX h.sub (h.new a zj),?_,?_,?_⟩
 ·rw[take_snoc hi,gy,h.run];exact hs
 ·refine z0.mpr ⟨⟨?_,fun x hx=>?_⟩,fun k hk=>⟨Nat.le_succ_of_le (h.tg k (zl _ hk)).1,(h.tg k (zl _ hk)).2⟩⟩
  ·rw[zo];exact Nat.succ_le_succ (h.tg l zj).1
  ·rcases zP.mp hx with hx|hx
   ·exact (h.tg l zj).2 x hx
   ·rw[zz.mp hx];exact hw
 ·exact Nat.le_succ_of_le h.len
theorem AO.close{S:aK}{u pw a b:Addr}{ws:List Str}{i:Nat}{as:List Addr}{l k:List D}{st:List (List D)}{S':aK}{s:D}(h:AO S u pw ws i (a::b::as) (l::k::st) S')(hi:ws[i]?=some rp)(hs:aB mZ bM l=some s)(ts:Tg s) :
  AO S u pw ws (i+1) (b::as) ((k++[s])::st) ((S'.set u (.lst ((b::as).reverse.map D.ref))).set b (.lst (k++[s]))):=by
 have nd:=yi.mp h.nd
 have Wt:=yi.mp nd.2
 have bu:u≠b:=fun e=>h.nu (by rw[e];simp)
 have bp:pw≠b:=fun e=>h.np (by rw[e];simp)
 have Ut:u∉b::as:=fun m=>h.nu (zl _ m)
 refine⟨(ai bu).trans aa,⟨aa,(h.at_.2.2.set fun m=>Ut (zl _ m)).set Wt.1⟩,nd.2,Ut,fun m=>h.np (zl _ m),h.pu,(ai bp).trans ((ai h.pu).trans h.pw),fun x hx=>h.new x (zl _ hx),h.Oo,fX (fX h.sub h.Oo) (h.new b (by simp)),?_,?_,?_⟩
 ·rw[take_snoc hi,gy,h.run]
  have:rp≠lp:=by decide
  simp [ck,this,hs]
 ·have hk:=h.tg k (by simp)
  refine z0.mpr ⟨⟨?_,fun x hx=>?_⟩,fun m hm=>⟨Nat.le_succ_of_le (h.tg m (by simp [hm])).1,(h.tg m (by simp [hm])).2⟩⟩
  ·rw[zo];exact Nat.succ_le_succ hk.1
  ·rcases zP.mp hx with hx|hx
   ·exact hk.2 x hx
   ·rw[zz.mp hx];exact ts
 ·have:=h.len
  simp only [zf] at this ⊢
  lia
theorem EX:∀v,mZ v=true→Pw v:=fun v h=>⟨by rintro rfl;revert h;decide +kernel,by rintro rfl;revert h;decide +kernel⟩
theorem AO.ne{S:aK}{u pw:Addr}{ws:List Str}{i:Nat}{as:List Addr}{st:List (List D)}{S':aK}(h:AO S u pw ws i as st S'):∃a p8 l ie,as=a::p8∧st=l::ie:=by
 have k:=Cq.run EX (.base .nil) h.run
 have hl:=h.at_.len
 match st,as,hl,k with
 |[],_,_,k=>cases k
 |l::ie,a::p8,_,_=>exact⟨a,p8,l,ie,rfl,rfl⟩
def SI(t:KI):jd:=fun ds S R Z=>∃d,ds=[d]∧Rd S d∧(∀z,d=.str z→(∀s,cg mZ bM (cW z)=some s→IC s→R s S)∧(cg mZ bM (cW z)=none→Z t.aY S))∧((∀z,d≠.str z)→Z t.aY S)
theorem v_(T:Txt w K mg t):Ok P w base T.iR 6 (SI t):=by
 refine T.iR.F.jk fK ?_
 rintro _ _ _ _ _ _ ds S R Z hr ⟨d,e,hd,q1,q2⟩
 subst e
 have n0:=sm (show 0≤100000 by decide)
 have n1:=sm (show 1≤100000 by decide)
 refine⟨_,(sc (dR (i:=1) fK.nd (bA (ac (bA an) an))) (sc (DL (GS (il (cf ((fL T).mono (by decide)) hr T.words_of.m T.words_of.k T.words_of.b d0 (ac (dv 0) an))) (gn (i:=2) fK.nd) (s1 (si (bw bB hr.units (dv 2) ds) (s1 (se (bm zJ zY zZ cB (dv 1) (ac (bA an) an)))) (s1 (si (twd (twand (bw bB hr.units (dv 2) ds) (tw1 (bw oH hr.units (cb aW T.aR aE (ac (dv 1) an)) di)))) (sc (dR (i:=3) fK.nd (cf ((v7 T).mono (by decide)) hr T.iS.m T.iS.k T.iS.b d0 (ac (VL zJ PySem.F.slot_list_pop PySem.F.type_list_pop Nx (dv 1)) an))) (s1 (se (bm zJ zY zZ cB (ix hr.units (dv 1) (GN di)) (ac (dv 3) an))))) (s1 (se (bm zJ zY zZ cB (ix hr.units (dv 1) (GN di)) (ac (dv 2) an)))))))))) (sc (si (twd (twor (bw eW hr.units (cb aW T.aR aE (ac (dv 1) an)) di) (twor (bw eW hr.units (cb aW T.aR aE (ac (ix hr.units (dv 1) di) an)) di) (tw1 (bV (tv (cb bx T.aj ah (ac (ix hr.units (ix hr.units (dv 1) di) di) (ac (jw T.aL ax) an))))))))) (s1 (rF ⟨T.dm⟩ T.dG (ac ds an))) s0) (s1 (sr (ix hr.units (ix hr.units (dv 1) di) di)))))),?_⟩
 refine⟨n0,fun a0 Uu=>⟨n1,fun u hu=>?_⟩⟩
 have Uv:Sub S (S.set a0 (.lst [])):=.new Uu
 have Py:S u=none:=by
  cases e:S u with
  |none=>rfl
  |some c=>rw[Uv _ _ e] at hu;cases hu
 have SJ:u≠a0:=fun e=>by rw[e,aa] at hu;cases hu
 have wG:Sub S ((S.set a0 (.lst [])).set u (.lst [.ref a0])):=Uv.trans (.new hu)
 refine⟨fun aA S'=>∃(z:Str) (pw:Addr) (as:List Addr) (st:List (List D)) (o2 o3:Option D),d=.str z∧aA=[some d,some (.ref u),o2,o3]∧AO S u pw (cW z) (cW z).length as st S',?_,?_⟩
 ·refine⟨_,rfl,d,rfl,⟨?_,hd.2⟩,fun z ez pw EY=>?_,fun hn=>?_⟩
  ·obtain⟨⟨k,hk⟩,_⟩:=hd
   exact⟨k,kd_sub wG hk⟩
  ·subst ez
   obtain⟨Dm,H9⟩:=hd.2 z rfl
   refine⟨_,aa,?_⟩
   have hlen:(cW z).length≤90001:=zt (nV z) (Nat.succ_le_succ Dm)
   have pu:pw≠u:=fun e=>by rw[e,aa] at EY;cases EY
   have pa:pw≠a0:=fun e=>by rw[e,ai (Ne.symm SJ),aa] at EY;cases EY
   refine⟨fun i aA S'=>∃(as:List Addr) (st:List (List D)) (o2 o3:Option D),aA=[some (.str z),some (.ref u),o2,o3]∧AO S u pw (cW z) i as st S',⟨[a0],[[]],none,none,rfl,?_⟩,?_,?_,?_⟩
   ·refine⟨(ai (Ne.symm pu)).trans aa,⟨(ai (Ne.symm pa)).trans ((ai (Ne.symm SJ)).trans aa),trivial⟩,by simp,by simpa using SJ,by simpa using pa,pu,aa,by simpa using Uu,Py,wG.trans (.new EY),rfl,?_,zh _⟩
    intro l hl
    rw[zz.mp hl]
    exact⟨zh _,fun x hx=>by cases hx⟩
   ·rintro i aA S' ⟨_,_,_,_,_,h⟩
    exact h.pw
   ·rintro i x aA S' hx ⟨as,st,o2,o3,rfl,h⟩
    have hx:((cW z).map D.str)[i]?=some x:=hx
    rw[zV] at hx
    obtain⟨w0,hi,rfl⟩:∃w0,(cW z)[i]?=some w0∧D.str w0=x:=by
     cases e:(cW z)[i]? with
     |none=>rw[e] at hx;cases hx
     |some w0=>rw[e] at hx;exact⟨w0,rfl,zS hx⟩
    have Uw:=zN hi
    have YK:i<(cW z).length:=(yd.mp hi).1
    have tw:Tg (.str w0):=.inl ⟨w0,rfl,zt (AE Uw) Dm,Ey Uw H9⟩
    obtain⟨a,p8,l,ie,rfl,rfl⟩:=h.ne
    have hl:=h.tg l zj
    have SK:=h.un
    have Cr:=h.at_.len
    have FD:=h.len
    simp only [zf] at Cr FD
    have Hu:((a::p8).reverse.map D.ref).length=p8.length+1:=by simp
    refine⟨_,rfl,decide (w0 = "("),rfl,bz (fun h1=>?_) (fun h1=>?_)⟩
    ·have h1:=zu h1
     subst h1
     refine⟨_,rfl,⟨rfl,_,h.un⟩,n0,fun p hp=>⟨u,_,_,rfl,rfl,(ai fun e=>by rw[← e,h.un] at hp;cases hp).trans h.un,dM (by rw[Hu];lia),?_⟩⟩
     exact⟨_,_,_,_,rfl,h.Oq hi hp⟩
    have h1:=zD h1
    have eL:D.bl (decide ((1:Int)<((((a::p8).reverse.map D.ref).length:Nat):Int)))=D.bl (decide (1<p8.length+1)):=congrArg D.bl (by rw[zM,Hu];lia)
    refine⟨_,rfl,decide (w0 = ")"),rfl,fW (decide (1<p8.length+1)) (fun h=>⟨_,rfl,_,rfl,.inl ⟨_,SK,decide (1<p8.length+1),eL,h⟩⟩) ?_⟩
    refine bz (fun h2=>?_) (fun h2=>?_)
    ·simp only [zg,zi] at h2
     obtain⟨rfl,h2⟩:=h2
     match p8,ie,Cr,h,h2 with
     |b::p8,k::ie,Cr,h,_ =>
     have nd:=yi.mp h.nd
     have Wu:a≠u:=fun e=>h.nu (by rw[e];simp)
     have Wv:b≠u:=fun e=>h.nu (by rw[e];simp)
     have hl:=h.tg l zj
     have hk:=h.tg k (by simp)
     refine⟨_,rfl,⟨rfl,_,h.un⟩,u,_,_,rfl,rfl,h.un,v9,?_⟩
     rw[EW]
     refine⟨a,l,rfl,(ai Wu).trans h.at_.1,by lia,hl.2,fun s hs=>?_,fun hs=>?_⟩
     ·have hb:(S'.set u (.lst ((b::p8).reverse.map D.ref))) b=some (.lst k):=(ai Wv).trans h.at_.2.1
      refine⟨_,rfl,_,rfl,_,_,aa,AN,⟨rfl,_,hb⟩,_,rfl,b,_,_,rfl,rfl,hb,dM (by lia),?_⟩
      exact⟨_,_,_,_,rfl,h.close hi hs (Om (by lia) hl.2 hs)⟩
     ·refine⟨S,fX h.sub Py,(q1 z rfl).2 ?_⟩
      unfold cg
      have e:cP mZ bM [[]] ((cW z).take (i+1))=none:=by
       rw[take_snoc hi,gy,h.run]
       have:rp≠lp:=by decide
       simp [ck,this,hs]
      have e2:=v8 _ ((cW z).drop (i+1)) _ e
      rw[List.take_append_drop] at e2
      rw[e2]
    ·have hb:S' a=some (.lst l):=h.at_.1
     refine⟨_,rfl,_,rfl,_,_,h.un,AN,⟨rfl,_,hb⟩,_,rfl,a,_,_,rfl,rfl,hb,dM (by lia),?_⟩
     refine⟨_,_,_,_,rfl,h.word hi tw ?_⟩
     unfold ck
     rw[if_neg h1]
     cases ie with
     |nil=>rfl
     |cons k ie =>
      have:w0≠rp:=fun e=>by
       rw[zk (show w0 = ")" from e),zk (show 1<p8.length+1 by simp only [zf] at Cr;lia)] at h2
       cases h2
      dsimp only
      rw[if_neg this]
   ·rintro aA S' ⟨as,st,o2,o3,rfl,h⟩
    have h:AO S u pw (cW z) ((cW z).map D.str).length as st S':=h
    rw[za] at h
    exact fo ⟨z,pw,as,st,_,_,rfl,rfl,h⟩
  ·exact⟨S,wG,q2 hn⟩
 ·rintro aA S' ⟨z,pw,as,st,o2,o3,rfl,rfl,h⟩
  have Hv:=h.run
  rw[yu] at Hv
  obtain⟨Dm,H9⟩:=hd.2 z rfl
  obtain⟨a,p8,l,ie,rfl,rfl⟩:=h.ne
  have Cr:=h.at_.len
  simp only [zf] at Cr
  have Hu:((a::p8).reverse.map D.ref).length=p8.length+1:=by simp
  refine⟨_,rfl,_,rfl,.inl ⟨_,h.un,!decide (p8.length=0),congrArg (fun b=>D.bl (!b)) (show decide (((((a::p8).reverse.map D.ref).length:Nat):Int)=(1:Int))=decide (p8.length=0) by rw[zM,Hu];lia),?_⟩⟩
  refine bz (fun h1=>?_) (fun h1=>?_)
  ·have h1:p8.length≠0:=zD (by simpa using h1)
   refine aZ ⟨n1,S,h.sub,(q1 z rfl).2 ?_⟩
   unfold cg
   rw[Hv]
   match ie,Cr with
   |[],Cr=>exact absurd (by simpa using Cr) h1
   |k::ie,_=>rcases l with _|⟨x,_|⟨y,l⟩⟩ <;> rfl
  have h1:p8.length=0:=zu (by simpa using h1)
  obtain rfl:p8=[]:=zQ h1
  obtain rfl:ie=[]:=zQ (Nat.succ.inj Cr).symm
  have SM:S' a=some (.lst l):=h.at_.1
  have hl:=h.tg l zj
  refine⟨_,rfl,_,_,h.un,b_ _ _,_,rfl,.inl ⟨_,SM,!decide (l.length=1),congrArg (fun b=>D.bl (!b)) (len_eq l.length 1),?_⟩⟩
  refine bz (fun h2=>?_) (fun h2=>?_)
  ·have h2:l.length≠1:=zD (by simpa using h2)
   refine aZ ⟨n1,S,h.sub,(q1 z rfl).2 ?_⟩
   unfold cg
   rw[Hv]
   match l,h2 with
   |[],_=>rfl
   |[x],h2=>exact absurd rfl h2
   |x::y::l,_=>rfl
  have h2:l.length=1:=zu (by simpa using h2)
  obtain⟨x,rfl⟩:=vQ h2
  have hx:=hl.2 x zj
  obtain⟨k,hk,_,ek⟩:=hx.kd S'
  have eS:cg mZ bM (cW z)=if isTup x=true then some x else none:=by
   unfold cg;rw[Hv]
  refine⟨_,rfl,_,_,h.un,b_ _ _,_,_,SM,b_ _ _,_,_,_,_,rfl,aI,hk,_,rfl,?_⟩
  rw[ek]
  refine bz (fun h3=>?_) (fun h3=>?_)
  ·refine⟨n1,S,h.sub,(q1 z rfl).2 ?_⟩
   rw[eS,nt h3];rfl
  ·refine⟨_,rfl,_,_,h.un,b_ _ _,_,_,SM,b_ _ _,S,h.sub,(q1 z rfl).1 x ?_ hx.SH⟩
   rw[eS,nf h3];rfl
def SN(t:KI):jd:=fun ds S R Z=>∃cs d,ds=[.tup (cs.map aq),d]∧Gd cs∧Rd S d ∧
 (∀z,d=.str z→(∀s,cg mZ bM (cW z)=some s→IC s→(Ck cs 8 0 [s]=true→R s S)∧(Ck cs 8 0 [s]=false→Z t.gQ S))∧(cg mZ bM (cW z)=none→Z t.aY S))∧((∀z,d≠.str z)→Z t.aY S)
theorem qY(T:Txt w K mg t):Ok P w base T.fh 7 (SN t):=by
 refine T.fh.F.jk jC ?_
 rintro _ _ _ _ _ _ ds S R Z hr ⟨cs,d,e,hg,hd,q1,q2⟩
 subst e
 refine⟨_,(sc (dR (i:=2) jC.nd (cf ((v_ T).mono (by decide)) hr T.iR.m T.iR.k T.iR.b d0 (ac (dv 1) an))) (sc (se (cf ((pS T).mono (by decide)) hr T.er.m T.er.k T.er.b d0 (ac (dv 0) (ac (dv 2) an)))) (s1 (sr (dv 2))))),?_⟩
 refine⟨_,rfl,d,rfl,hd,fun z ez=>⟨fun s hs hp=>?_,fun hs=>fo ((q1 z ez).2 hs)⟩,fun hn=>fo (q2 hn)⟩
 obtain⟨a1,a2⟩:=(q1 z ez).1 s hs hp
 exact⟨_,rfl,_,rfl,cs,s,rfl,hg,(hp S).2,fun h=>⟨_,rfl,fo (a1 h)⟩,fun h=>fo (a2 h)⟩
theorem AQ{S:aK}{a b:Addr}{ds:List D}{R:KD}(e1:S a=some (.lst ds))(e2:S b=some (.lst []))(h:∀d∈ds,Ly S 60 d)(q:R (.bl (!ds.isEmpty)) S):BG true (.ref a) (.ref b) S R:=by
 obtain⟨ps,k1,k2,k3,k4⟩:=Ly.all h
 refine⟨.list ps,.list [],⟨ds,ps,e1,rfl,k1⟩,⟨[],[],e2,rfl,by simp only [DpAll]⟩,by simp only [PyData.canLay0];exact k2,by simp only [PyData.canLay0,PyData.canLayAll0],.inl (by simp only [PyData.depth];lia),?_⟩
 rw[if_pos rfl,Eu,show ps.isEmpty=ds.isEmpty by cases ps <;> cases ds <;> first|rfl|cases k4];exact q
theorem Hw{P:Program}{w:World}{K:Frag}{mg:Str→Option Value}{base:Heap}{k:Nat}{f:Addr}{fd:FuncData}{ps:List Str}{pre:List D→Prop}
  (F:Uj P w K mg base k f fd ps (fun ds S R _=>pre ds∧∀l x y z,S l=none→R (.ref l) (S.set l (.lst [.int x,.int y,.int z])))):Uj P w K mg base k f fd ps (fun ds S R _=>pre ds∧∀l,S l=none→R (.ref l) (S.set l .well)):=by
 refine F.imp fun vs H Q E ⟨ds,S,R,Z,v,hS,⟨hp,h⟩,hR,hZ⟩=>⟨ds,S,fun d S2=>∃l x y z,S l=none∧d=.ref l∧S2=S.set l (.lst [.int x,.int y,.int z]),fun _ _=>False,v,hS,⟨hp,fun l x y z hl=>⟨l,x,y,z,hl,rfl,rfl⟩⟩,fun d S2 u H' ⟨l,x,y,z,hl,e1,e2⟩ rv hs kp=>?_,fun _ _ _ q=>q.elim⟩
 subst e1 e2
 refine hR _ _ u H' (h l hl) rv ?_ kp
 refine rG (x:=x) (y:=y) (z:=z) aa ?_
 rw[dE];exact hs
def SO(ds:List D)(l:Addr):Prop:=∃m:Int,ds=[.ref l,.int m]∧0<m∧m.natAbs.log2<9000
def Ot(ds:List D)(d:D):Prop:=∃(l:Addr) (m n:Int),ds=[.ref l,.int m]∧d=.int n∧0≤n∧n<m
def KU:jd:=fun ds S R _=>∃(l:Addr) (m:Int),ds=[.ref l,.int m]∧0<m∧m.natAbs.log2<9000∧S l=some .well∧∀n:Int,0≤n→n<m→R (.int n) S
theorem wl{S:aK}{l p:Addr}{c:Ce}(hw:S l=some .well)(hp:S p=none):(S.set p c) l=some .well:=(ai (uA hw hp)).trans hw
theorem dr{L:List D}{S:aK}{p:Addr}{n:Int}{R:KD}(h0:0≤n)(h1:n<(L.length:Int))(hp:S p=none)(q:∀d,d∈L→R d S):∃ds d,(S.set p (.lst L)) p=some (.lst ds)∧jO ds n=some d∧Fo (S.set p (.lst L)) (R d):=by
 obtain⟨v,e1,e2⟩:=ku (l:=L) h0 h1
 exact⟨L,v,aa,e1,S,.new hp,q v (zN e2)⟩
theorem j_{m:Int}(h0:0<m)(h1:m≤8000):m.natAbs.log2<9000:=by
 have h2:m.natAbs≤8000:=by lia
 have h3:m.natAbs.log2≤m.natAbs:=Nat.log2_le_self _
 lia
theorem ka:∀{l:List α}{k:Nat}{x:α},l[k]?=some x→(x::l.eraseIdx k).Perm l
 |a::l,0,x,h=>by cases h;exact .refl _
 |a::l,k+1,x,h=>by
  have ih:=ka (l:=l) (k:=k) h
  rw[List.eraseIdx_cons_succ]
  exact (List.Perm.swap a x _).trans (ih.cons a)
theorem AR(h:k<n):seqIndex? ((k:Nat):Int) n=some k:=by
 have e:(if ((k:Nat):Int)<0 then ((k:Nat):Int)+(n:Int) else ((k:Nat):Int))=((k:Nat):Int):=if_neg (by lia)
 unfold seqIndex?
 dsimp only
 rw[e,if_pos (by simp;lia)];rfl
abbrev AS:List Str:=["a","ab","b","abc","key","up","at","mark","every","is","zzzzzzzz","price"]
theorem EZ:∀z∈AS,bI z=true∧PyData.strOk z=true∧z ≠ "other" := by trivial
theorem Cs:AS.Nodup:=by trivial
def Cg(cs:List (Str×Str)):Prop:=Gd cs∧∀c∈cs,c.1∈AS
theorem AU(h:Cg cs):∀d∈cs.map aq,Ly S 60 d:=fun d hd=>by
 obtain⟨c,hc,rfl⟩:=zq.mp hd
 refine Ly.le (n:=1) (Ly.tup (n:=0) fun d hd=>?_) (by decide)
 simp only [zb,ze,or_false] at hd
 rcases hd with rfl|rfl
 ·exact Ly.str (EZ _ (h.2 c hc)).2.1
 ·rcases (h.1.2.2 c hc).2 with e|e <;> rw[e] <;> exact Ly.str (by trivial)
theorem AV(T:Txt w K mg t):Ok P w base T.iT 1 (fun ds S R _=>(∃(ns:List Int) (k:Nat),ds=[.jc (ns.map D.int),.int (k:Nat)]∧k≤1000)∧∀l,S l=none→R (.ref l) (S.set l .well)):=by
 refine Hw ?_
 refine T.iT.F.ok mw (by rintro ds S R Z ⟨⟨_,_,e,_⟩,_⟩;exact by rw[e];rfl) (fun cn A outer s H E ds S R Z hr ⟨⟨ns,k,e,hk⟩,q⟩=>?_)
 subst e
 refine⟨_,(sc (dR (i:=2) mw.nd di) (sc (DL (si (bw GL hr.units (dv 1) (cb aW T.aR aE (ac (dv 0) an))) (s1 (dR (i:=2) mw.nd (ix hr.units (dv 0) (dv 1)))) s0)) (s1 (sr (bA (ac (bo bN hr.units (bo jx hr.units (dv 2) di) (bo mM hr.units di (dv 1))) (ac (CH (ix hr.units (bA (ac di (ac (dv 2) an))) (ct NA T.rQ lQ (ac (cm RM hr.units (dv 2) (bo Ie hr.units di di)) an)))) (ac di an)))))))),?_⟩
 refine⟨fun aA S'=>∃c:Int,aA=[some (.jc (ns.map D.int)),some (.int (k:Nat)),some (.int c)]∧S'=S,?_,?_⟩
 ·refine⟨_,rfl,_,rfl,_,rfl,_,rfl,?_⟩
  refine bz (fun h=>?_) (fun h=>?_)
  ·have h:(k:Int)<(((ns.map D.int).length:Nat):Int):=zu h
   have DQ:k<ns.length:=by rw[za] at h;lia
   exact⟨_,rfl,_,rfl,.int ns[k],by rw[kh (by rw[za];exact DQ),zV];simp [DQ],fo ⟨_,rfl,rfl⟩⟩
  ·exact fo ⟨0,rfl,rfl⟩
 ·rintro aA S' ⟨c,rfl,rfl⟩
  refine⟨_,rfl,(show (0:Int)<2147483647 by decide),_,rfl,.inl ⟨by decide,by decide⟩,?_⟩
  refine⟨_,rfl,sm (show 2≤100000 by decide),fun pq LN=>⟨_,rfl,⟨by decide,by decide,by decide⟩,.inr ⟨_,rfl,?_⟩⟩⟩
  have Im:∃j:Int,jO [D.int 0,D.int c] (if decide ((10:Int) ^ (18:Int).toNat≤c)=true then 1 else 0)=some (.int j):=by
   by_cases h:decide ((10:Int) ^ (18:Int).toNat≤c)=true
   ·rw[if_pos h];exact⟨c,rfl⟩
   ·rw[if_neg h];exact⟨0,rfl⟩
  obtain⟨j,hj⟩:=Im
  exact⟨_,_,aa,hj,S',.new LN,sm (show 3≤100000 by decide),fun l hl=>fo (q l _ _ _ hl)⟩
theorem Hx(T:Txt w K mg t):Ok P w base T.af 1 (DK SO Ot):=by
 refine BK ?_
 refine T.af.F.ok jh (by rintro ds S R Z ⟨_,_,_,_,⟨_,e,_⟩,_⟩;exact by rw[e];rfl) (fun cn A outer s H E ds S R Z hr ⟨l,x,y,z,⟨m,e,hm,hlg⟩,hl,q⟩=>?_)
 subst e
 refine⟨_,(sc (si (bw oH hr.units (ix hr.units (dv 0) di) di) (sc (dR (i:=2) jh.nd (bo jx hr.units (ix hr.units (dv 0) di) (dv 1))) (sc (Se (dv 0) di (bo xo hr.units (ix hr.units (dv 0) di) (dv 1))) (s1 (sr (dv 2))))) s0) (sc (Se (dv 0) di (bo bN hr.units (ix hr.units (dv 0) di) di)) (sc (dR (i:=2) jh.nd (bo jx hr.units (bo mM hr.units (bo bN hr.units (bo bN hr.units (ix hr.units (dv 0) di) (bo mM hr.units di (ix hr.units (dv 0) di))) di) di) di)) (sc (dR (i:=2) jh.nd (bo jx hr.units (bo mM hr.units (dv 2) (bo bN hr.units (bo xo hr.units (dv 2) di) di)) di)) (s1 (sr (bo jx hr.units (bo jx hr.units (bo mM hr.units (dv 2) (bo bN hr.units (bo xo hr.units (dv 2) di) di)) di) (dv 1)))))))),?_⟩
 refine⟨_,rfl,_,_,hl,rfl,_,rfl,?_⟩
 refine bz (fun h=>?_) (fun h=>?_)
 ·refine⟨_,rfl,_,_,hl,rfl,_,rfl,hm,?_⟩
  refine⟨_,rfl,_,_,hl,rfl,_,rfl,⟨hm,hlg⟩,_,rfl,l,_,1,1,rfl,rfl,hl,rfl,?_⟩
  exact⟨_,rfl,fo (q _ _ _ _ ⟨l,m,_,rfl,rfl,Int.emod_nonneg _ (by lia),Int.emod_lt_of_pos _ hm⟩)⟩
 ·refine⟨_,rfl,_,_,hl,rfl,_,rfl,l,_,2,2,rfl,rfl,hl,rfl,?_⟩
  rw[show ([D.int x,D.int y,D.int z].set 2 (D.int (z+1)))=[D.int x,D.int y,D.int (z+1)] from rfl]
  have CF:(S.set l (.lst [.int x,.int y,.int (z+1)])) l=some (.lst [.int x,.int y,.int (z+1)]):=aa
  refine⟨_,rfl,_,_,CF,rfl,_,rfl,_,_,CF,rfl,.inl ⟨by decide,by decide⟩,.inr ⟨by decide,by decide⟩,(show (0:Int)<2147483647 by decide),?_⟩
  have nb:∀z:Int,0≤z % 2147483647∧z % 2147483647<2147483647:=fun z=>⟨Int.emod_nonneg z (by decide),Int.emod_lt_of_pos z (by decide)⟩
  have n1:=nb ((x+7919 * (z+1)+1) * 48271)
  generalize (x+7919 * (z+1)+1) * 48271 % 2147483647=u at *
  refine⟨_,rfl,_,rfl,⟨by decide,by trivial⟩,.inl ⟨by lia,by lia⟩,(show (0:Int)<2147483647 by decide),?_⟩
  have n2:=nb (u * (u / 1009+69621))
  generalize u * (u / 1009+69621) % 2147483647=v at *
  exact⟨_,rfl,_,rfl,⟨by decide,by trivial⟩,.inl ⟨by lia,by lia⟩,(show (0:Int)<2147483399 by decide),_,rfl,hm,fo (q _ _ _ _ ⟨l,m,_,rfl,rfl,Int.emod_nonneg _ (by lia),Int.emod_lt_of_pos _ hm⟩)⟩
theorem ba(T:Txt w K mg t):Ok P w base T.af 1 KU :=
 (Hx T).Sa <| by rintro ds S R Z ⟨l,m,e,h0,h1,hw,q⟩;exact⟨l,⟨m,e,h0,h1⟩,hw,by rintro d ⟨l',m',n,e1,e2,a,b⟩;exact by rw[e] at e1;cases e1;subst e2;exact q n a b⟩
theorem yS(T:Txt w K mg t):Ok P w base T.gj 2 (fun ds S R _=>∃l,ds=[.ref l]∧S l=some .well∧∀cs,Cg cs→R (.tup (cs.map aq)) S):=by
 refine T.gj.F.ok dq (fun ds S R Z ⟨_,e,_⟩=>by rw[e];rfl) (fun cn A outer s H E ds S R Z hr ⟨l,e,hw,q⟩=>?_)
 subst e
 refine⟨_,(sc (dR (i:=1) dq.nd (bA (ac ds (ac ds (ac ds (ac ds (ac ds (ac ds (ac ds (ac ds (ac ds (ac ds (ac ds (ac ds an)))))))))))))) (sc (dR (i:=2) dq.nd (bA an)) (sc (DL (GS (NK T.fH (ac (cf ((ba T).mono (by decide)) hr T.af.m T.af.k T.af.b d0 (ac (dv 0) (ac (CH (ix hr.units (bA (ac di (ac di (ac di (ac di an))))) (cf ((ba T).mono (by decide)) hr T.af.m T.af.k T.af.b d0 (ac (dv 0) (ac di an))))) an))) an)) (gn (i:=3) dq.nd) (sc (dR (i:=4) dq.nd (bm zJ PySem.F.slot_list_pop PySem.F.type_list_pop Au (dv 1) (ac (cf ((ba T).mono (by decide)) hr T.af.m T.af.k T.af.b d0 (ac (dv 0) (ac (cb aW T.aR aE (ac (dv 1) an)) an))) an))) (s1 (se (bm zJ zY zZ cB (dv 2) (ac (cA (ac (dv 4) (ac (CH (ix hr.units (bA (ac ds (ac ds an))) (cf ((ba T).mono (by decide)) hr T.af.m T.af.k T.af.b d0 (ac (dv 0) (ac di an))))) an))) an))))))) (s1 (sr (ct cJ T.aL ax (ac (dv 2) an))))))),?_⟩
 refine⟨sm (show 12≤100000 by decide),fun ln PZ=>⟨sm (show 0≤100000 by decide),fun lf Iv=>?_⟩⟩
 have P0:ln≠lf:=uA (aa (S:=S)) Iv
 have Ou:S lf=none:=by rw[ai P0.symm] at Iv;exact Iv
 have SQ:l≠ln:=uA hw PZ
 have Ww:l≠lf:=uA hw Ou
 have wL:((S.set ln (.lst (AS.map D.str))).set lf (.lst [])) l=some .well:=wl (wl hw PZ) Iv
 have PQ:((S.set ln (.lst (AS.map D.str))).set lf (.lst [])) ln=some (.lst (AS.map D.str)):=(ai P0).trans aa
 have Ux:((S.set ln (.lst (AS.map D.str))).set lf (.lst [])) lf=some (.lst []):=aa
 have wG:Sub S ((S.set ln (.lst (AS.map D.str))).set lf (.lst [])):=(Sub.new PZ).trans (.new Iv)
 refine⟨fun aA S'=>∃o3 o4 cs,aA=[some (.ref l),some (.ref ln),some (.ref lf),o3,o4]∧Cg cs∧S' lf=some (.lst (cs.map aq))∧Sub S S',?_,?_⟩
 ·show NM _ _ _ _ _ ((S.set ln (.lst (AS.map D.str))).set lf (.lst [])) _
  generalize (S.set ln (.lst (AS.map D.str))).set lf (.lst [])=S2 at wL PQ Ux wG ⊢
  refine⟨_,rfl,sm (show 4≤100000 by decide),fun p hp=>⟨_,rfl,l,_,rfl,(by decide),(by decide),wl wL hp,fun n4 Wx Wy=>dr Wx Wy hp fun d hd=>?_⟩⟩
  obtain⟨m,rfl,Wz,hm⟩:∃m:Nat,d=.int m∧1≤m∧m≤9:=by
   have hd:d∈[D.int 5,.int 5,.int 5,.int 9]:=hd
   simp only [zb,ze,or_false] at hd
   rcases hd with h|h|h|h
   ·exact⟨5,h,by decide,by decide⟩
   ·exact⟨5,h,by decide,by decide⟩
   ·exact⟨5,h,by decide,by decide⟩
   ·exact⟨9,h,by decide,by decide⟩
  refine⟨l,_,rfl,(by lia),j_ (by lia) (by lia),wL,fun n h0 h1=>⟨n,rfl,by lia,by lia,?_⟩⟩
  refine⟨fun i aA S'=>∃(o3 o4:Option D) (cs:List (Str×Str)) (M:List Str),aA=[some (.ref l),some (.ref ln),some (.ref lf),o3,o4]∧(cs.map Prod.fst++M).Perm AS∧(∀c∈cs,c.2 = "number" ∨ c.2 = "word")∧cs.length=i∧S' ln=some (.lst (M.map D.str))∧S' lf=some (.lst (cs.map aq))∧S' l=some .well∧Sub S S',⟨none,none,[],AS,rfl,.refl _,fun _ h=>(nomatch h),rfl,PQ,Ux,wL,wG⟩,fun _ _ _ _=>trivial,?_,?_⟩
  ·rintro i d aA S' hd ⟨o3,o4,cs,M,rfl,Iy,hk,Gp,hM,hF,hW,hs⟩
   have hd:(jS 0 n.toNat)[i]?=some d:=hd
   obtain⟨hi,rfl⟩:=iz hd
   have YL:M.length=12 - i:=by
    have:=Iy.length_eq
    rw[zo,za,Gp] at this
    have YM:AS.length=12:=rfl
    lia
   have yM:(M.map D.str).length=M.length:=za _
   refine⟨_,rfl,⟨rfl,_,hM⟩,_,rfl,_,rfl,_,rfl,.inl ⟨_,hM,l,_,rfl,by lia,j_ (by lia) (by lia),hW,fun j WA WB=>?_⟩⟩
   obtain⟨jn,rfl⟩:∃jn:Nat,j=(jn:Int):=⟨j.toNat,by lia⟩
   have KW:jn<M.length:=by lia
   have hz:M[jn]?=some (M[jn]'KW):=zX KW
   generalize M[jn]'KW=z at hz
   refine⟨ln,_,_,jn,.str z,rfl,rfl,hM,by lia,by lia,AR (by lia),by rw[zV,hz];rfl,?_⟩
   rw[← lX]
   have SR:(S'.set ln (.lst ((M.eraseIdx jn).map D.str))) lf=some (.lst (cs.map aq)):=(ai P0.symm).trans hF
   have SS:(S'.set ln (.lst ((M.eraseIdx jn).map D.str))) l=some .well:=(ai SQ).trans hW
   have Uy:(S'.set ln (.lst ((M.eraseIdx jn).map D.str))) ln=some (.lst ((M.eraseIdx jn).map D.str)):=aa
   have PM:Sub S (S'.set ln (.lst ((M.eraseIdx jn).map D.str))):=fun b c hb=>(ai (uA hb PZ)).trans (hs b c hb)
   generalize S'.set ln (.lst ((M.eraseIdx jn).map D.str))=S3 at SR SS Uy PM ⊢
   refine⟨_,rfl,⟨rfl,_,SR⟩,_,rfl,sm (show 2≤100000 by decide),fun p hp=>⟨_,rfl,l,_,rfl,(by decide),(by decide),wl SS hp,fun n2 KY ID=>dr KY ID hp fun d hd=>?_⟩⟩
   obtain⟨kd,rfl,SU⟩:∃kd:Str,d=.str kd∧(kd = "number" ∨ kd = "word"):=by
    have hd:d∈[D.str "number",.str "word"]:=hd
    simp only [zb,ze,or_false] at hd
    rcases hd with h|h
    ·exact⟨_,h,.inl rfl⟩
    ·exact⟨_,h,.inr rfl⟩
   refine⟨sm (show 2≤100000 by decide),lf,_,_,rfl,rfl,SR,dM (by rw[za];lia),?_⟩
   refine⟨_,_,cs++[(z,kd)],M.eraseIdx jn,rfl,?_,fun c hc=>?_,by rw[zo,Gp];rfl,(ai P0).trans Uy,by rw[aa,zT];rfl,(ai Ww).trans SS,fun b c hb=>(ai (uA hb Ou)).trans (PM b c hb)⟩
   ·rw[zT,zK]
    exact ((ka hz).append_left _).trans Iy
   ·rcases zP.mp hc with hc|hc
    ·exact hk c hc
    ·rw[zz.mp hc];exact SU
  ·rintro aA S' ⟨o3,o4,cs,M,rfl,Iy,hk,Gp,hM,hF,hW,hs⟩
   rw[show (⟨jS 0 n.toNat,fun _=>True⟩:Av).xs.length=n.toNat from eY] at Gp
   have WC:=Iy.nodup_iff.mpr Cs
   have Gu:∀c∈cs,c.1∈AS:=fun c hc=>Iy.mem_iff.mp (yf _ (zq.mpr ⟨c,hc,rfl⟩))
   exact fo ⟨o3,o4,cs,rfl,⟨⟨by lia,(List.nodup_append.mp WC).1,fun c hc=>⟨(EZ _ (Gu c hc)).1,hk c hc⟩⟩,Gu⟩,hF,hs⟩
 ·rintro aA S' ⟨o3,o4,cs,rfl,hc,hF,hs⟩
  exact⟨_,rfl,_,_,rfl,.inl hF,S,hs,q cs hc⟩
abbrev KZ:List Str:=["a","ab","b","abc","a1","a10","a2","key","z","zzzzzzzzzzzz","m","c"]
abbrev Ov:Str := "ab~ "
abbrev wc:Str := "ab= ~#-\"()|Z9_&"
abbrev IE:List Str:=["","a","ab","abc","b","B"," ","a b"]
theorem wd:∀z∈IE,dy z=true:=by trivial
theorem yT:∀z∈KZ,fq z=true:=by trivial
theorem E1:∀c∈Ov.cps.toList,∀n<41,dy (PySem.Txt.mul ⟨#[c]⟩ ((n:Nat):Int))=true:=by trivial
theorem K0(c:Nat)(n:Nat)(h:n<41):MulOk ⟨#[c]⟩ (n:Int):=by
 have e:(⟨#[c]⟩:Str).length=1:=rfl
 refine⟨by simp;lia,fun h1 _=>?_,fun h1 _=>?_⟩
 ·rw[e]
  have h2:(1:Int)≤(2 ^ 63 - 1) / (n:Int):=by
   rw[Int.le_ediv_iff_mul_le (by lia)]
   lia
  show ¬ ((1:Nat):Int)>_
  lia
 ·rw[e,Nat.one_mul,Int.toNat_natCast]
  have:=sm (n:=n) (by lia)
  unfold PySem.Builtin.Str.tooLong
  exact zp (by lia)
theorem p9:∀cs:List Nat,(Str.join "" (cs.map fun c=>(⟨#[c]⟩:Str))).cps.toList=cs
 |[]=>rfl
 |[c]=>rfl
 |c::d::r=>by
  have ih:=p9 (d::r)
  rw[zF,zF]
  show ((⟨#[c]⟩:Str)++("" : Str)++Str.join "" ((⟨#[d]⟩:Str)::r.map fun c=>(⟨#[c]⟩:Str))).cps.toList=c::d::r
  rw[zF] at ih
  show ((#[c]++(("" : Str)).cps)++(Str.join "" ((⟨#[d]⟩:Str)::r.map fun c=>(⟨#[c]⟩:Str))).cps).toList=c::d::r
  rw[Array.toList_append,ih]
  rfl
theorem Ct:∀c∈wc.cps.toList,mT c=true:=by trivial
theorem E3(cs:List Nat)(h:cs.length≤5):JoinOk "" (cs.map fun c=>(⟨#[c]⟩:Str))=true:=by
 refine PyProof.Rows.joinOk_of ?_
 have e:((cs.map fun c=>(⟨#[c]⟩:Str)).map (·.length)).sum=cs.length:=by
  rw[zC]
  clear h
  induction cs with
  |nil=>rfl
  |cons c r ih=>rw[zF,List.sum_cons,ih,zf];show 1+_=_;lia
 rw[e,za]
 have:("" : Str).length=0:=rfl
 rw[this]
 lia
theorem ly:∀{xs out:List D},Paired (fun _ v=>∃c∈wc.cps.toList,v=.str ⟨#[c]⟩) xs out→∃cs:List Nat,out=(cs.map fun c=>(⟨#[c]⟩:Str)).map D.str∧cs.length=xs.length∧∀c∈cs,c∈wc.cps.toList
 |_,_,.nil=>⟨[],rfl,rfl,fun _ h=>(nomatch h)⟩
 |_,_,.cons ⟨c,hc,e⟩ r=>by
  obtain⟨cs,e1,e2,e3⟩:=ly r
  refine⟨c::cs,by rw[e,e1];rfl,by rw[zf,zf,e2],fun x hx=>?_⟩
  rcases zb.mp hx with e|hx
  ·rw[e];exact hc
  ·exact e3 x hx
theorem Cu(T:Txt w K mg t):Ok P w base T.iU 2 (fun ds S R _=>∃l,ds=[.ref l]∧S l=some .well∧∀n:Int,n.natAbs<10 ^ 60→R (.int n) S):=by
 refine T.iU.F.ok mS (by rintro ds S R Z ⟨_,e,_⟩;exact by rw[e];rfl) (fun cn A outer s H E ds S R Z hr ⟨l,e,hw,q⟩=>?_)
 subst e
 refine⟨_,(sc (dR (i:=1) mS.nd (cf ((ba T).mono (by decide)) hr T.af.m T.af.k T.af.b d0 (ac (dv 0) (ac di an)))) (sc (si (bw bB hr.units (dv 1) di) (s1 (sr (bo mM hr.units (bo kB hr.units di (bo mM hr.units di (cf ((ba T).mono (by decide)) hr T.af.m T.af.k T.af.b d0 (ac (dv 0) (ac di an))))) (bo kB hr.units (bo kB hr.units (bo Ie hr.units di di) di) (cf ((ba T).mono (by decide)) hr T.af.m T.af.k T.af.b d0 (ac (dv 0) (ac di an))))))) s0) (sc (si (bw bB hr.units (dv 1) di) (s1 (sr (bo kB hr.units (cf ((ba T).mono (by decide)) hr T.af.m T.af.k T.af.b d0 (ac (dv 0) (ac di an))) di))) s0) (s1 (sr (bo kB hr.units (cf ((ba T).mono (by decide)) hr T.af.m T.af.k T.af.b d0 (ac (dv 0) (ac di an))) di)))))),?_⟩
 refine⟨_,rfl,l,_,rfl,(by decide),(by decide),hw,fun n n0 n1=>?_⟩
 refine⟨_,rfl,_,rfl,?_⟩
 refine bz (fun _=>?_) (fun _=>?_)
 ·refine⟨_,rfl,l,_,rfl,(by decide),(by decide),hw,fun m m0 m1=>?_⟩
  refine⟨.inl ⟨by decide,by decide⟩,⟨by decide,by decide,by decide⟩,_,rfl,l,_,rfl,(by decide),(by decide),hw,fun k k0 k1=>?_⟩
  refine⟨.inl ⟨by lia,by lia⟩,fo (q _ ?_)⟩
  have e10:((10:Int) ^ (60:Int).toNat)=1000000000000000000000000000000000000000000000000000000000000:=by trivial
  have Hy:((10:Nat) ^ 60)=1000000000000000000000000000000000000000000000000000000000000:=by trivial
  rw[e10,Hy]
  rcases (show m=0∨m=1 by lia) with rfl|rfl
  ·lia
  ·lia
 ·refine⟨_,rfl,_,rfl,?_⟩
  have Hy:((10:Nat) ^ 60)=1000000000000000000000000000000000000000000000000000000000000:=by trivial
  refine bz (fun _=>?_) (fun _=>?_)
  ·exact⟨_,rfl,l,_,rfl,(by decide),(by decide),hw,fun m m0 m1=>fo (q _ (by rw[Hy];lia))⟩
  ·exact⟨_,rfl,l,_,rfl,(by decide),(by decide),hw,fun m m0 m1=>fo (q _ (by rw[Hy];lia))⟩
theorem Hz(T:Txt w K mg t):Ok P w base T.pF 2 (fun ds S R _=>∃l,ds=[.ref l]∧S l=some .well∧∀z:Str,dy z=true→R (.str z) S):=by
 refine T.pF.F.ok mx (by rintro ds S R Z ⟨_,e,_⟩;exact by rw[e];rfl) (fun cn A outer s H E ds S R Z hr ⟨l,e,hw,q⟩=>?_)
 subst e
 refine⟨_,(sc (dR (i:=1) mx.nd (cf ((ba T).mono (by decide)) hr T.af.m T.af.k T.af.b d0 (ac (dv 0) (ac di an)))) (sc (si (bw bB hr.units (dv 1) di) (s1 (sr (bo mM hr.units (ix hr.units ds (cf ((ba T).mono (by decide)) hr T.af.m T.af.k T.af.b d0 (ac (dv 0) (ac di an)))) (cf ((ba T).mono (by decide)) hr T.af.m T.af.k T.af.b d0 (ac (dv 0) (ac di an)))))) s0) (sc (si (bw bB hr.units (dv 1) di) (sc (dR (i:=2) mx.nd ds) (s1 (sr (bm zH ya yb gE ds (ac (lW (N:=["_law_k","_law_signs","_law_well_here"]) (src:=[none,some 2,some 0]) (kr (ae kK) ["_law_well_here","_law_way","_law_signs"] rfl rfl (by trivial)) (NK T.fH (ac (cf ((ba T).mono (by decide)) hr T.af.m T.af.k T.af.b d0 (ac (dv 0) (ac di an))) an)) (nT (show (["_law_k","_law_signs","_law_well_here"]:List Str).Nodup by trivial)) (aM rfl) aN (fun _ _ _ _ _=>lH) (fun _ _ _ _ _=>(ix hr.units (dv 1) (cf ((ba T).mono (by decide)) hr T.af.m T.af.k T.af.b d0 (ac (dv 2) (ac di an)))))) an))))) s0) (s1 (sr (CH (ix hr.units (bA (ac ds (ac ds (ac ds (ac ds (ac ds (ac ds (ac ds (ac ds an))))))))) (cf ((ba T).mono (by decide)) hr T.af.m T.af.k T.af.b d0 (ac (dv 0) (ac di an)))))))))),?_⟩
 refine⟨_,rfl,l,_,rfl,(by decide),(by decide),hw,fun n n0 n1=>?_⟩
 refine⟨_,rfl,_,rfl,?_⟩
 refine bz (fun _=>?_) (fun _=>?_)
 ·refine⟨_,rfl,l,_,rfl,(by decide),(by decide),hw,fun m m0 m1=>?_⟩
  obtain⟨c,ac,hc⟩:=ku (l:=Ov.cps.toList) m0 (show m<4 from m1)
  refine⟨c,sm (show 4≤100000 by decide),ac,_,rfl,l,_,rfl,(by decide),(by decide),hw,fun k k0 k1=>?_⟩
  obtain⟨k',rfl⟩:∃k':Nat,k=(k':Int):=⟨k.toNat,by lia⟩
  exact⟨K0 c k' (by lia),fo (q _ (E1 c (zN hc) k' (by lia)))⟩
 ·refine⟨_,rfl,_,rfl,?_⟩
  refine bz (fun _=>?_) (fun _=>?_)
  ·refine⟨rfl,_,rfl,l,_,rfl,(by decide),(by decide),hw,fun m m0 m1=>⟨m,rfl,by lia,by lia,?_⟩⟩
   refine i6 (fun _ v=>∃c∈wc.cps.toList,v=.str ⟨#[c]⟩) trivial (by show (jS 0 m.toNat).length≤_;rw[eY];lia) (fun d hd Q hQ=>?_) fun out ho p hp=>?_
   ·refine⟨_,rfl,_,rfl,l,_,rfl,(by decide),(by decide),hw,fun j j0 j1=>?_⟩
    obtain⟨c,ac,hc⟩:=ku (l:=wc.cps.toList) j0 (show j<15 from j1)
    exact⟨c,sm (show 15≤100000 by decide),ac,hQ _ ⟨c,zN hc,rfl⟩⟩
   ·obtain⟨cs,rfl,hl,HS⟩:=ly ho
    have hl:cs.length=m.toNat:=hl.trans eY
    refine⟨"",cs.map fun c=>(⟨#[c]⟩:Str),_,rfl,rfl,aa,E3 cs (by lia),S,.new hp,q _ ?_⟩
    have hj:(PySem.Txt.join "" (cs.map fun c=>(⟨#[c]⟩:Str))).cps.toList=cs:=by
     rw[gv];exact p9 cs
    unfold dy
    rw[hj,zk (show (PySem.Txt.join "" (cs.map fun c=>(⟨#[c]⟩:Str))).cps.size≤40 by rw[ak,hj];lia),zA,zI]
    exact fun c hc=>Ct c (HS c hc)
  ·refine⟨sm (show 8≤100000 by decide),fun p hp=>⟨_,rfl,l,_,rfl,(by decide),(by decide),wl hw hp,fun n h0 h1=>dr h0 h1 hp fun d hd=>?_⟩⟩
   have hd:d∈IE.map D.str:=hd
   obtain⟨z,hz,rfl⟩:=zq.mp hd
   exact fo (q z (wd z hz))
theorem we(T:Txt w K mg t):Ok P w base T.fG 3 (fun ds S R _=>∃l k,ds=[.ref l,.str k]∧S l=some .well∧∀v,vS v→i5 k v=true→R v S):=by
 refine T.fG.F.ok x8 (by rintro ds S R Z ⟨_,_,e,_⟩;exact by rw[e];rfl) (fun cn A outer s H E ds S R Z hr ⟨l,k,e,hw,q⟩=>?_)
 subst e
 refine⟨_,(sc (si (bw bB hr.units (cf ((ba T).mono (by decide)) hr T.af.m T.af.k T.af.b d0 (ac (dv 0) (ac di an))) di) (s1 (sr dn)) s0) (sc (si (bw bB hr.units (dv 1) ds) (s1 (sr (cf ((Cu T).mono (by decide)) hr T.iU.m T.iU.k T.iU.b d0 (ac (dv 0) an)))) s0) (s1 (sr (cf ((Hz T).mono (by decide)) hr T.pF.m T.pF.k T.pF.b d0 (ac (dv 0) an)))))),?_⟩
 refine⟨_,rfl,l,_,rfl,(by decide),(by decide),hw,fun n n0 n1=>⟨_,rfl,?_⟩⟩
 refine bz (fun _=>?_) (fun _=>?_)
 ·exact fo (q .aC (.inl rfl) rfl)
 refine⟨_,rfl,_,rfl,?_⟩
 refine bz (fun h=>?_) (fun h=>?_)
 ·have h:k = "number" := zu h
  exact⟨_,rfl,l,rfl,hw,fun i hi=>fo (q _ (.inr (.inl ⟨i,rfl,hi⟩)) (by unfold i5;rw[if_pos h];rfl))⟩
 ·have h:¬ k = "number" := zD h
  exact⟨_,rfl,l,rfl,hw,fun z hz=>fo (q _ (.inr (.inr ⟨z,rfl,hz⟩)) (by unfold i5;rw[if_neg h];exact hz))⟩
theorem E6(T:Txt w K mg t):Ok P w base T.mO 2 (fun ds S R _=>∃l,ds=[.ref l]∧S l=some .well∧∀z,fq z=true→R (.str z) S):=by
 refine T.mO.F.ok vN (by rintro ds S R Z ⟨_,e,_⟩;exact by rw[e];rfl) (fun cn A outer s H E ds S R Z hr ⟨l,e,hw,q⟩=>?_)
 subst e
 refine⟨_,(sc (dR (i:=1) vN.nd (bA (ac ds (ac ds (ac ds (ac ds (ac ds (ac ds (ac ds (ac ds (ac ds (ac ds (ac ds (ac ds an)))))))))))))) (s1 (sr (ix hr.units (dv 1) (cf ((ba T).mono (by decide)) hr T.af.m T.af.k T.af.b d0 (ac (dv 0) (ac di an))))))),?_⟩
 refine⟨sm (show 12≤100000 by decide),fun p hp=>⟨_,rfl,_,rfl,l,_,rfl,(by decide),(by decide),wl hw hp,fun n h0 h1=>?_⟩⟩
 obtain⟨v,e1,e2⟩:=ku (l:=KZ.map D.str) h0 (show n<12 from h1)
 obtain⟨z,hz,rfl⟩:=zq.mp (zN e2)
 exact⟨KZ.map D.str,_,aa,e1,S,.new hp,q z (yT z hz)⟩
def Tx(n:Nat)(z:Str):Prop:=z.cps.size≤n∧PyData.strOk z=true
theorem Tx.le(h:Tx n z)(l:n≤m):Tx m z:=⟨zt h.1 l,h.2⟩
theorem E7(a b:Str):(a++b).cps.size=a.cps.size+b.cps.size:=by
 show (a.cps++b.cps).size=_
 rw[Array.size_append]
theorem K1(ha:PyData.strOk a=true)(hb:PyData.strOk b=true):PyData.strOk (a++b)=true:=by
 rw[fT] at *
 intro c hc
 have hc:c∈(a.cps++b.cps).toList:=hc
 rw[Array.toList_append,zP] at hc
 rcases hc with hc|hc
 ·exact ha c hc
 ·exact hb c hc
theorem Tx.app(h:Tx n a)(h2:Tx m b):Tx (n+m) (a++b):=⟨by rw[E7];have:=h.1;have:=h2.1;lia,K1 h.2 h2.2⟩
theorem Tx.rd(h:Tx 90000 z):Rd S (.str z):=⟨⟨.str,rfl⟩,fun y e=>by cases e;exact h⟩
def OG(cs:List (Str×Str))(ps:List (Str×Str×Str))(M:List (Str×Str)):Prop:=(ps.map Prod.fst++M.map Prod.fst).Perm (cs.map Prod.fst)∧∀p∈ps,jo p.2.1=true∧nK p.2.2=true
theorem OG.ord(hg:Gd cs)(h:OG cs ps M)(hw:jo wy=true):jq cs ps wy=true:=by
 unfold jq
 have hl:=h.1.length_eq
 rw[zo,za,za,za] at hl
 have h8:=hg.1
 rw[zk (show ps.length≤8 by lia),hw,zk (List.nodup_append.mp (h.1.nodup_iff.mpr hg.2.1)).1,zI.mpr]
 ·rfl
 intro p hp
 unfold eK
 rw[(h.2 p hp).1,(h.2 p hp).2,zk (h.1.mem_iff.mp (yf _ (zq.mpr ⟨p,hp,rfl⟩)))]
 rfl
theorem E8{cs M:List (Str×Str)}(h:Cg cs)(hm:∀c∈M,c∈cs){S:aK} : ∀d∈M.map aq,Ly S 60 d:=fun d hd=>by
 obtain⟨c,hc,rfl⟩:=zq.mp hd
 exact AU h _ (zq.mpr ⟨c,hm c hc,rfl⟩)
theorem E9(T:Txt w K mg t):Ok P w base T.kR 2 (fun ds S R _=>∃l cs,ds=[.ref l,.tup (cs.map aq)]∧Cg cs∧S l=some .well∧∀(ps:List (Str×Str×Str)) (wy:Str),jq cs ps wy=true→R (.tup [.tup (ps.map p3),.str wy]) S):=by
 refine T.kR.F.ok dI (fun ds S R Z ⟨_,_,e,_⟩=>by rw[e];rfl) (fun cn A outer s H E ds S R Z hr ⟨l,cs,e,hg,hw,q⟩=>?_)
 subst e
 have h8:=hg.1.1
 refine⟨_,(sc (dR (i:=2) dI.nd (ct xq T.xX sE (ac (dv 1) an))) (sc (dR (i:=3) dI.nd (bA an)) (sc (DL (GS (NK T.fH (ac (cf ((ba T).mono (by decide)) hr T.af.m T.af.k T.af.b d0 (ac (dv 0) (ac (CH (ix hr.units (bA (ac di (ac di (ac di an)))) (cf ((ba T).mono (by decide)) hr T.af.m T.af.k T.af.b d0 (ac (dv 0) (ac di an))))) an))) an)) (gn (i:=4) dI.nd) (s1 (si (bw eW hr.units (dv 2) (bA an)) (sc (sa (bm zJ PySem.F.slot_list_pop PySem.F.type_list_pop Au (dv 2) (ac (cf ((ba T).mono (by decide)) hr T.af.m T.af.k T.af.b d0 (ac (dv 0) (ac (cb aW T.aR aE (ac (dv 2) an)) an))) an)) (gt (n:=2) (gc (gn (i:=5) dI.nd) (gc (gn (i:=6) dI.nd) g0)))) (s1 (se (bm zJ zY zZ cB (dv 3) (ac (cA (ac (dv 5) (ac (CH (ix hr.units (bA (ac ds (ac ds an))) (cf ((ba T).mono (by decide)) hr T.af.m T.af.k T.af.b d0 (ac (dv 0) (ac di an))))) (ac (CH (ix hr.units (bA (ac ds (ac ds an))) (cf ((ba T).mono (by decide)) hr T.af.m T.af.k T.af.b d0 (ac (dv 0) (ac di an))))) an)))) an))))) s0)))) (s1 (sr (cA (ac (ct cJ T.aL ax (ac (dv 3) an)) (ac (CH (ix hr.units (bA (ac ds (ac ds an))) (cf ((ba T).mono (by decide)) hr T.af.m T.af.k T.af.b d0 (ac (dv 0) (ac di an))))) an)))))))),?_⟩
 refine⟨_,rfl,_,_,rfl,.inr rfl,fun ll Ow=>⟨sm (show 0≤100000 by decide),fun lp Ox=>?_⟩⟩
 have P1:ll≠lp:=uA (aa (S:=S)) Ox
 have Oy:S lp=none:=by rw[ai P1.symm] at Ox;exact Ox
 have SQ:l≠ll:=uA hw Ow
 have WD:l≠lp:=uA hw Oy
 have wL:((S.set ll (.lst (cs.map aq))).set lp (.lst [])) l=some .well:=wl (wl hw Ow) Ox
 have Uz:((S.set ll (.lst (cs.map aq))).set lp (.lst [])) ll=some (.lst (cs.map aq)):=(ai P1).trans aa
 have UA:((S.set ll (.lst (cs.map aq))).set lp (.lst [])) lp=some (.lst []):=aa
 have wG:Sub S ((S.set ll (.lst (cs.map aq))).set lp (.lst [])):=(Sub.new Ow).trans (.new Ox)
 refine⟨fun aA S'=>∃(o4 o5 o6:Option D) (ps:List (Str×Str×Str)) (M:List (Str×Str)),aA=[some (.ref l),some (.tup (cs.map aq)),some (.ref ll),some (.ref lp),o4,o5,o6]∧OG cs ps M∧S' lp=some (.lst (ps.map p3))∧S' l=some .well∧Sub S S',?_,?_⟩
 ·generalize (S.set ll (.lst (cs.map aq))).set lp (.lst [])=S2 at wL Uz UA wG ⊢
  refine⟨_,rfl,sm (show 3≤100000 by decide),fun p hp=>⟨_,rfl,l,_,rfl,(by decide),(by decide),wl wL hp,fun n3 WE WG=>dr WE WG hp fun d hd=>?_⟩⟩
  obtain⟨m,rfl,Wz,hm⟩:∃m:Nat,d=.int m∧1≤m∧m≤9:=by
   have hd:d∈[D.int 4,.int 4,.int 9]:=hd
   simp only [zb,ze,or_false] at hd
   rcases hd with h|h|h
   ·exact⟨4,h,by decide,by decide⟩
   ·exact⟨4,h,by decide,by decide⟩
   ·exact⟨9,h,by decide,by decide⟩
  refine⟨l,_,rfl,(by lia),j_ (by lia) (by lia),wL,fun n h0 h1=>⟨n,rfl,by lia,by lia,?_⟩⟩
  refine⟨fun i aA S'=>∃(o4 o5 o6:Option D) (ps:List (Str×Str×Str)) (M:List (Str×Str)),aA=[some (.ref l),some (.tup (cs.map aq)),some (.ref ll),some (.ref lp),o4,o5,o6]∧OG cs ps M∧(∀c∈M,c∈cs)∧M.length≤8∧S' ll=some (.lst (M.map aq))∧S' lp=some (.lst (ps.map p3))∧S' l=some .well∧Sub S S',⟨none,none,none,[],cs,rfl,⟨.refl _,fun _ h=>(nomatch h)⟩,fun _ h=>h,h8,Uz,UA,wL,wG⟩,fun _ _ _ _=>trivial,?_,?_⟩
  ·rintro i d aA S' hd ⟨o4,o5,o6,ps,M,rfl,IF,P2,UB,hL,hP,hW,hs⟩
   have hd:(jS 0 n.toNat)[i]?=some d:=hd
   obtain⟨hi,rfl⟩:=iz hd
   have yM:(M.map aq).length=M.length:=za _
   refine⟨_,rfl,sm (show 0≤100000 by decide),fun pe Oz=>AQ ((Sub.new Oz) _ _ hL) aa (E8 hg P2) ⟨_,rfl,?_⟩⟩
   have OA:=(Sub.new (c:=.lst []) Oz) _ _ hL
   have SV:=(Sub.new (c:=.lst []) Oz) _ _ hP
   have P4:=wl (c:=.lst []) hW Oz
   have Fz:=hs.trans (.new (c:=.lst []) Oz)
   generalize S'.set pe (.lst [])=S3 at OA SV P4 Fz ⊢
   refine bz (fun BO=>?_) (fun BO=>?_)
   ·have J4:0<M.length:=by
     have BO:(!(M.map aq).isEmpty)=true:=BO
     cases M with
     |nil=>cases BO
     |cons a M=>exact Nat.succ_pos _
    refine⟨_,rfl,⟨rfl,_,OA⟩,_,rfl,_,rfl,_,rfl,.inl ⟨_,OA,l,_,rfl,by lia,j_ (by lia) (by lia),P4,fun j WA WB=>?_⟩⟩
    obtain⟨jn,rfl⟩:∃jn:Nat,j=(jn:Int):=⟨j.toNat,by lia⟩
    have KW:jn<M.length:=by lia
    have hz:M[jn]?=some (M[jn]'KW):=zX KW
    generalize M[jn]'KW=c at hz
    have YN:=zN hz
    refine⟨ll,_,_,jn,aq c,rfl,rfl,OA,by lia,by lia,AR (by lia),by rw[zV,hz];rfl,?_⟩
    rw[← lX]
    have SW:(S3.set ll (.lst ((M.eraseIdx jn).map aq))) lp=some (.lst (ps.map p3)):=(ai P1.symm).trans SV
    have P5:(S3.set ll (.lst ((M.eraseIdx jn).map aq))) l=some .well:=(ai SQ).trans P4
    have OB:(S3.set ll (.lst ((M.eraseIdx jn).map aq))) ll=some (.lst ((M.eraseIdx jn).map aq)):=aa
    have UC:Sub S (S3.set ll (.lst ((M.eraseIdx jn).map aq))):=fun b c hb=>(ai (uA hb Ow)).trans (Fz b c hb)
    generalize S3.set ll (.lst ((M.eraseIdx jn).map aq))=S4 at SW P5 OB UC ⊢
    refine⟨_,rfl,rfl,_,_,rfl,_,_,rfl,rfl,?_⟩
    refine⟨_,rfl,⟨rfl,_,SW⟩,_,rfl,sm (show 2≤100000 by decide),fun p hp=>⟨_,rfl,l,_,rfl,(by decide),(by decide),wl P5 hp,fun n2 KY ID=>dr KY ID hp fun d hd=>?_⟩⟩
    obtain⟨wy,rfl,IG⟩:∃wy:Str,d=.str wy∧jo wy=true:=by
     have hd:d∈[D.str "up",.str "down"]:=hd
     simp only [zb,ze,or_false] at hd
     rcases hd with h|h
     ·exact⟨_,h,(by trivial)⟩
     ·exact⟨_,h,(by trivial)⟩
    refine⟨sm (show 2≤100000 by decide),fun p hp=>⟨_,rfl,l,_,rfl,(by decide),(by decide),wl P5 hp,fun n2 KY ID=>dr KY ID hp fun d hd=>?_⟩⟩
    obtain⟨en,rfl,OC⟩:∃en:Str,d=.str en∧nK en=true:=by
     have hd:d∈[D.str "first",.str "last"]:=hd
     simp only [zb,ze,or_false] at hd
     rcases hd with h|h
     ·exact⟨_,h,(by trivial)⟩
     ·exact⟨_,h,(by trivial)⟩
    have rk:ps.length≤8:=by
     have hl:=IF.1.length_eq
     rw[zo,za,za,za] at hl
     lia
    refine⟨sm (show 3≤100000 by decide),lp,_,_,rfl,rfl,SW,dM (by rw[za];lia),?_⟩
    refine⟨_,_,_,ps++[(c.1,wy,en)],M.eraseIdx jn,rfl,⟨?_,fun x hx=>?_⟩,fun x hx=>P2 x (List.mem_of_mem_eraseIdx hx),by have:=List.length_eraseIdx_le M jn;lia,(ai P1).trans OB,by rw[aa,zT];rfl,(ai WD).trans P5,fun b c hb=>(ai (uA hb Oy)).trans (UC b c hb)⟩
    ·rw[zT,zK]
     exact (((ka hz).map Prod.fst).append_left _).trans IF.1
    ·rcases zP.mp hx with hx|hx
     ·exact IF.2 x hx
     ·rw[zz.mp hx];exact⟨IG,OC⟩
   ·exact⟨_,_,_,ps,M,rfl,IF,P2,UB,OA,SV,P4,Fz⟩
  ·rintro aA S' ⟨o4,o5,o6,ps,M,rfl,IF,P2,UB,hL,hP,hW,hs⟩
   exact fo ⟨o4,o5,o6,ps,M,rfl,IF,hP,hW,hs⟩
 ·rintro aA S' ⟨o4,o5,o6,ps,M,rfl,IF,hP,hW,hs⟩
  refine⟨_,rfl,_,_,rfl,.inl hP,sm (show 2≤100000 by decide),fun p hp=>⟨_,rfl,l,_,rfl,(by decide),(by decide),wl hW hp,fun n2 KY ID=>dr KY ID hp fun d hd=>?_⟩⟩
  obtain⟨wy,rfl,IG⟩:∃wy:Str,d=.str wy∧jo wy=true:=by
   have hd:d∈[D.str "up",.str "down"]:=hd
   simp only [zb,ze,or_false] at hd
   rcases hd with h|h
   ·exact⟨_,h,(by trivial)⟩
   ·exact⟨_,h,(by trivial)⟩
  exact⟨sm (show 2≤100000 by decide),S,hs,q ps wy (IF.ord hg.1 IG)⟩
theorem i8(h:fq z=true):z.cps.size≤12:=by
 unfold fq at h
 simp only [zg,zi] at h
 lia
theorem HA(hg:Gd cs)(h:eK cs p=true):bI p.1=true∧LP p∧jo p.2.1=true∧nK p.2.2=true:=by
 unfold eK at h
 simp only [zg,zi] at h
 obtain⟨h1,h2,h3⟩:=h
 obtain⟨c,hc,e⟩:=zq.mp h1
 have hn:=(hg.2.2 c hc).1
 rw[e] at hn
 have s1:p.1.cps.size≤8:=by
  unfold bI at hn
  simp only [zg,zi] at hn
  lia
 have s2:p.2.1.cps.size≤4:=by
  unfold jo at h2
  simp only [ye,zi] at h2
  rcases h2 with e|e <;> rw[e] <;> decide +kernel
 have s3:p.2.2.cps.size≤5:=by
  unfold nK at h3
  simp only [ye,zi] at h3
  rcases h3 with e|e <;> rw[e] <;> decide +kernel
 exact⟨hn,⟨by lia,by lia,by lia⟩,h2,h3⟩
def aG(p:Str×Str×Str):List Str:=[p.1,p.2.1,p.2.2]
def cG(ps:List (Str×Str×Str))(wy:Str):List Str:=ps.flatMap aG++(["key",wy]:List Str)
def Wf(u:Str):Prop:=u.cps.size≤90∧PyData.strOk u=true∧32∉u.cps.toList
theorem E_(h:u.cps.size≤90)(hc:∀c∈u.cps.toList,(97≤c∧c≤122)∨(48≤c∧c≤57)∨c=45):Wf u:=by
 refine⟨h,fT.mpr fun c m=>?_,fun m=>?_⟩
 ·have:=hc c m;lia
 ·have:=hc 32 m;lia
theorem ji(h:bI u=true):Wf u:=by
 unfold bI at h
 simp only [zg,zi,zI] at h
 refine E_ (by lia) fun c m=>.inl ?_
 have:=h.2 c m
 unfold isLet at this
 simpa only [zg,zi] using this
theorem mG(h:fq u=true):Wf u:=by
 have hs:=i8 h
 unfold fq at h
 simp only [zg,zi,zI] at h
 refine E_ (by lia) fun c m=>?_
 have:=h.2 c m
 unfold isLet gu at this
 simp only [ye,zg,zi] at this
 rcases this with h|h
 ·exact .inl h
 ·exact .inr (.inl h)
theorem Fc:∀u∈(["mark","key","at","up","down","first","last","ahead","behind"]:List Str),u.cps.size≤90∧PyData.strOk u=true∧32∉u.cps.toList:=by trivial
theorem yU(h:jo u=true):Wf u:=by
 unfold jo at h
 simp only [ye,zi] at h
 rcases h with e|e <;> rw[e] <;> exact Fc _ (by simp)
theorem K2(h:nK u=true):Wf u:=by
 unfold nK at h
 simp only [ye,zi] at h
 rcases h with e|e <;> rw[e] <;> exact Fc _ (by simp)
theorem pw_len:∀ps:List (Str×Str×Str),(ps.flatMap aG).length=3 * ps.length
 |[]=>rfl
 |p::ps=>by rw[yr,zo,pw_len ps,zf];show 3+_=_;lia
theorem Fd{l b:List Str}{i:Nat}(h:i<l.length):(l++b).getD i "" = l.getD i "" := by
 rw[zU,zU,List.getElem?_append_left h]
theorem wg(wy:Str):∀ps:List (Str×Str×Str),Hm (cG ps wy)=ps:=by
 intro ps
 have hl:(cG ps wy).length=3 * ps.length+2:=by unfold cG;rw[zo,pw_len];rfl
 unfold Hm
 rw[hl,show (3 * ps.length+2) / 3=ps.length by lia]
 refine List.ext_getElem? fun i=>?_
 rw[zV]
 by_cases h:i<ps.length
 ·rw[List.getElem?_range h,zX h]
  have key:∀(ps:List (Str×Str×Str)) (i j:Nat) (h:i<ps.length),j<3→(ps.flatMap aG)[3 * i+j]?=(aG ps[i])[j]?:=by
   intro ps
   induction ps with
   |nil=>intro i j h;cases h
   |cons p ps ih =>
    intro i j h hj
    rw[yr]
    cases i with
    |zero=>rw[List.getElem?_append_left (by show _<3;lia),show 3 * 0+j=j by lia];rfl
    |succ i =>
     rw[List.getElem?_append_right (by show 3≤_;lia),show 3 * (i+1)+j - (aG p).length=3 * i+j by show _ - 3=_;lia]
     rw[ih i j (by rw[zf] at h;lia) hj];rfl
  have g:∀j,j<3→(cG ps wy).getD (3 * i+j) "" = (aG ps[i]).getD j "" := fun j hj=>by
   unfold cG
   rw[Fd (by rw[pw_len];lia),zU,key ps i j h hj,zU]
  show some _=some _
  have g0:=g 0 (by decide)
  rw[Nat.add_zero] at g0
  dsimp only
  rw[g0,g 1 (by decide),g 2 (by decide)]
  rfl
 ·rw[List.getElem?_eq_none (by rw[List.length_range];lia),List.getElem?_eq_none (by lia)];rfl
theorem Cv(ps:List (Str×Str×Str))(wy:Str):ES (cG ps wy)=.tup [.tup (ps.map p3),.str wy]:=by
 unfold ES
 rw[wg]
 have:lg (cG ps wy)=wy:=by
  unfold lg cG
  rw[zo,zU,List.getElem?_append_right (by show _≤_+2 - 1;lia),show (ps.flatMap aG).length+(["key",wy]:List Str).length - 1 - (ps.flatMap aG).length=1 by show _+2 - 1 - _=1;lia]
  rfl
 rw[this]
theorem HB(h:Sub S S'):Sub (S.set p c) (S'.set p c):=fun b x hb=>by
 by_cases e:b=p
 ·subst e;rw[aa] at hb ⊢;exact hb
 ·rw[ai e] at hb ⊢;exact h b x hb
theorem lA(h:Sub S S')(hp:S' p=none):S p=none:=by
 cases e:S p with
 |none=>rfl
 |some c=>rw[h _ _ e] at hp;cases hp
theorem p_(T:Txt w K mg t):Ok P w base T.el 1 (fun ds S R _=>∃ps wy,ds=[.tup [.tup (ps.map p3),.str wy]]∧ps.length≤8∧∀p,S p=none→R (.ref p) (S.set p (.lst ((cG ps wy).map D.str)))):=by
 refine T.el.F.ok fk (by rintro ds S R Z ⟨_,_,e,_⟩;exact by rw[e];rfl) (fun cn A outer s H E ds S R Z hr ⟨ps,wy,e,h8,q⟩=>?_)
 subst e
 refine⟨_,(sc (dR (i:=1) fk.nd (bA an)) (sc (DL (GS (wJ (ix hr.units (dv 0) di)) (gn (i:=2) fk.nd) (s1 (se (bm zJ PySem.F.slot_list_extend PySem.F.type_list_extend rJ (dv 1) (ac (dv 2) an)))))) (s1 (sr (bo bN hr.units (dv 1) (bA (ac ds (ac (ix hr.units (dv 0) di) an)))))))),?_⟩
 refine⟨sm (show 0≤100000 by decide),fun lw WH=>?_⟩
 refine⟨fun aA S'=>∃o2,aA=[some (.tup [.tup (ps.map p3),.str wy]),some (.ref lw),o2]∧S'=S.set lw (.lst ((ps.flatMap aG).map D.str)),?_,?_⟩
 ·refine⟨_,rfl,_,rfl,_,.inl rfl,?_⟩
  refine⟨fun i aA S'=>∃o2,aA=[some (.tup [.tup (ps.map p3),.str wy]),some (.ref lw),o2]∧S'=S.set lw (.lst (((ps.take i).flatMap aG).map D.str)),⟨none,rfl,rfl⟩,fun _ _ _ _=>trivial,?_,?_⟩
  ·rintro i d aA S' hd ⟨o2,rfl,rfl⟩
   have hd:(ps.map p3)[i]?=some d:=hd
   rw[zV] at hd
   cases e5:ps[i]? with
   |none=>rw[e5] at hd;cases hd
   |some p =>
    rw[e5] at hd;cases hd
    have hlen:(((ps.take i).flatMap aG).map D.str).length≤24:=by
     rw[za,pw_len,yj];lia
    refine⟨_,rfl,⟨rfl,_,aa⟩,_,rfl,lw,_,_,rfl,rfl,aa,sm (by show _+3≤_;lia),?_⟩
    refine⟨_,rfl,?_⟩
    rw[dE,take_snoc e5,List.flatMap_append,zT]
    rfl
  ·rintro aA S' ⟨o2,rfl,rfl⟩
   rw[show (⟨ps.map p3,fun _=>True⟩:Av).xs.length=ps.length from za _,yu]
   exact fo ⟨o2,rfl,rfl⟩
 ·rintro aA S' ⟨o2,rfl,rfl⟩
  have hlen:((ps.flatMap aG).map D.str).length≤24:=by
   rw[za,pw_len];lia
  refine⟨_,rfl,_,rfl,_,rfl,sm (show 2≤100000 by decide),fun pq LN=>⟨_,_,(Sub.new LN) _ _ aa,aa,sm (by show _+2≤_;lia),fun p hp=>?_⟩⟩
  have sb:Sub S ((S.set lw (.lst ((ps.flatMap aG).map D.str))).set pq (.lst [.str "key",.str wy])):=(Sub.new WH).trans (.new LN)
  refine⟨S.set p (.lst ((cG ps wy).map D.str)),?_,q p (lA sb hp)⟩
  unfold cG
  rw[zT]
  exact HB sb
def Pf(d:D)(p:PyData):Prop:=(d=.aC∧p=.none)∨(∃i,d=.int i∧p=.int i)∨∃z,d=.str z∧p=.str z∧PyData.strOk z=true
def Pz:Nat→D→PyData→Prop
 |0=>Pf
 |n+1=>fun d p=>Pf d p∨∃ds ps,d=.tup ds∧p=.tuple ps∧Paired (Pz n) ds ps
theorem r9(h:∀d p,Pz n d p→Dp S d p∧p.canLay0=true∧p.depth≤n):∀{ds:List D}{ps:List PyData},Paired (Pz n) ds ps→DpAll S ds ps∧PyData.canLayAll0 ps=true∧PyData.depthAll ps≤n
 |_,_,.nil=>⟨by simp only [DpAll],rfl,yq _⟩
 |_,_,.cons r t=>by
  obtain⟨a,b,c⟩:=h _ _ r
  obtain⟨a',b',c'⟩:=r9 h t
  exact⟨by simp only [DpAll];exact⟨_,_,rfl,a,a'⟩,by simp only [PyData.canLayAll0,b,b',Bool.and_self],by simp only [PyData.depthAll];lia⟩
theorem UD(h:Pf d p):Dp S d p∧p.canLay0=true∧p.depth≤0:=by
 rcases h with ⟨rfl,rfl⟩|⟨i,rfl,rfl⟩|⟨z,rfl,rfl,hz⟩
 ·exact⟨by simp only [Dp],by simp only [PyData.canLay0],by simp only [PyData.depth];lia⟩
 ·exact⟨by simp only [Dp],by simp only [PyData.canLay0],by simp only [PyData.depth];lia⟩
 ·exact⟨by simp only [Dp],by simp only [PyData.canLay0];exact hz,by simp only [PyData.depth];lia⟩
theorem AW:∀(n:Nat) (d:D) (p:PyData),Pz n d p→Dp S d p∧p.canLay0=true∧p.depth≤n
 |0,d,p,h=>UD h
 |n+1,d,p,h=>by
  rcases h with h|⟨ds,ps,rfl,rfl,hp⟩
  ·obtain⟨a,b,c⟩:=UD (S:=S) h
   exact⟨a,b,zt c (yq _)⟩
  ·obtain⟨a,b,c⟩:=r9 (AW n) hp
   exact⟨by simp only [Dp];exact⟨ps,rfl,a⟩,by simp only [PyData.canLay0];exact b,by simp only [PyData.depth];lia⟩
theorem OD(h:Pf d p)(h':Pf e q)(k:PyData.eqv p q=true):d=e:=by
 rcases h with ⟨rfl,rfl⟩|⟨i,rfl,rfl⟩|⟨z,rfl,rfl,hz⟩ <;> rcases h' with ⟨rfl,rfl⟩|⟨i',rfl,rfl⟩|⟨z',rfl,rfl,PB⟩
 ·rfl
 ·simp only [PyData.eqv] at k;cases k
 ·simp only [PyData.eqv] at k;cases k
 ·simp only [PyData.eqv] at k;cases k
 ·simp only [PyData.eqv,beq_iff_eq] at k;rw[k]
 ·simp only [PyData.eqv] at k;cases k
 ·simp only [PyData.eqv] at k;cases k
 ·simp only [PyData.eqv] at k;cases k
 ·simp only [PyData.eqv,beq_iff_eq] at k;rw[k]
theorem IH:∀(n:Nat) (d e:D) (p q:PyData),Pz n d p→Pz n e q→PyData.eqv p q=true→d=e
 |0,d,e,p,q,h,h',k=>OD h h' k
 |n+1,d,e,p,q,h,h',k=>by
  rcases h with h|⟨ds,ps,rfl,rfl,hp⟩ <;> rcases h' with h'|⟨es,qs,rfl,rfl,hq⟩
  ·exact OD h h' k
  ·rcases h with ⟨rfl,rfl⟩|⟨i,rfl,rfl⟩|⟨z,rfl,rfl,hz⟩ <;> (simp only [PyData.eqv] at k;cases k)
  ·rcases h' with ⟨rfl,rfl⟩|⟨i,rfl,rfl⟩|⟨z,rfl,rfl,hz⟩ <;> (simp only [PyData.eqv] at k;cases k)
  ·simp only [PyData.eqv] at k
   have all:∀{ds es:List D}{ps qs:List PyData},Paired (Pz n) ds ps→Paired (Pz n) es qs→PyData.eqvAll ps qs=true→ds=es:=by
    intro ds
    induction ds with
    |nil =>
     intro es ps qs h h' k
     cases h
     cases h' with
     |nil=>rfl
     |cons r t=>simp only [PyData.eqvAll] at k;cases k
    |cons d ds ih =>
     intro es ps qs h h' k
     cases h with
     |cons r t =>
      cases h' with
      |nil=>simp only [PyData.eqvAll] at k;cases k
      |cons r' t' =>
       simp only [PyData.eqvAll,zg] at k
       rw[IH n _ _ _ _ r r' k.1,ih t t' k.2]
   rw[all hp hq k]
theorem cQ{n:Nat}{ds:List D}(h:∀d∈ds,∃p,Pz n d p):∃p,Pz (n+1) (.tup ds) p:=by
 have:∃ps,Paired (Pz n) ds ps:=by
  induction ds with
  |nil=>exact⟨[],.nil⟩
  |cons d ds ih =>
   obtain⟨p,hp⟩:=h d zj
   obtain⟨ps,OE⟩:=ih fun x hx=>h x (zl _ hx)
   exact⟨p::ps,.cons hp OE⟩
 obtain⟨ps,hp⟩:=this
 exact⟨_,Or.inr ⟨ds,ps,rfl,rfl,hp⟩⟩
theorem Fe(h:∃p,Pf d p):∃p,Pz n d p:=by
 obtain⟨p,h⟩:=h
 cases n with
 |zero=>exact⟨p,h⟩
 |succ n=>exact⟨p,Or.inl h⟩
theorem du(h:PyData.strOk z=true):∃p,Pz n (.str z) p:=Fe ⟨_,.inr (.inr ⟨z,rfl,rfl,h⟩)⟩
theorem OF{S:aK}{n:Nat}{ds es:List D}{R:KD}(h:∃p,Pz n (.tup ds) p)(h':∃p,Pz n (.tup es) p)(hn:n≤64)(k:∀b:Bool,(b=true↔D.tup ds=.tup es)→R (.bl b) S):BG false (.tup ds) (.tup es) S R:=by
 obtain⟨p,hp⟩:=h
 obtain⟨q,hq⟩:=h'
 obtain⟨a,b,c⟩:=AW (S:=S) _ _ _ hp
 obtain⟨a',b',c'⟩:=AW (S:=S) _ _ _ hq
 refine⟨p,q,a,a',b,b',.inl (zt c hn),?_⟩
 rw[if_neg zm]
 refine k _ ⟨IH _ _ _ _ _ hp hq,fun e=>?_⟩
 have:p=q:=by
  have same:∀(n:Nat) (d:D) (p q:PyData),Pz n d p→Pz n d q→p=q:=by
   have s0:∀(d:D) (p q:PyData),Pf d p→Pf d q→p=q:=by
    intro d p q h h'
    rcases h with ⟨rfl,rfl⟩|⟨i,rfl,rfl⟩|⟨z,rfl,rfl,hz⟩ <;> rcases h' with ⟨e,rfl⟩|⟨i',e,rfl⟩|⟨z',e,rfl,PB⟩ <;> first|rfl|(cases e;rfl)|cases e
   intro n
   induction n with
   |zero=>exact s0
   |succ n ih =>
    intro d p q h h'
    rcases h with h|⟨ds,ps,rfl,rfl,hp⟩ <;> rcases h' with h'|⟨es,qs,e,rfl,hq⟩
    ·exact s0 d p q h h'
    ·subst e
     rcases h with ⟨e,_⟩|⟨i,e,_⟩|⟨z,e,_,_⟩ <;> cases e
    ·rcases h' with ⟨e,_⟩|⟨i,e,_⟩|⟨z,e,_,_⟩ <;> cases e
    ·cases e
     have all:∀{ds:List D}{ps qs:List PyData},Paired (Pz n) ds ps→Paired (Pz n) ds qs→ps=qs:=by
      intro ds
      induction ds with
      |nil=>intro ps qs h h';cases h;cases h';rfl
      |cons d ds WI =>
       intro ps qs h h'
       cases h with
       |cons r t=>cases h' with|cons r' t'=>rw[ih _ _ _ r r',WI t t']
     rw[all hp hq]
  rw[← e] at hq
  exact same _ _ _ _ hp hq
 rw[this]
 exact SeqAt.eqv_refl q b'
theorem lB{w:Str}(h:w∈dA):w = "and" ∨ w = "or" := by simpa [dA] using h
theorem wj:∀(u r:List Str),md (u++r)=max (md u) (dp u+md r)
 |[],r=>by have:=mY r;show md r=max 0 (0+md r);lia
 |w::u,r=>by
  have:=wj u r
  show max 0 (dl w+md (u++r))=max (max 0 (dl w+md u)) (dl w+dp u+md r)
  lia
theorem qd:∀{ks:List Str},(∀k∈ks,Pw k)→md ks=0
 |[],_=>rfl
 |k::ks,h=>by rw[IA (h k zj),qd fun x hx=>h x (zl _ hx)]
theorem K3{w:Str}(h:Pw w)(r:List Str):(w::r).count lp=r.count lp:=by
 rw[List.count_cons,if_neg (by simpa using h.1)];rfl
theorem nW{ks:List Str}(h:∀k∈ks,Pw k):ks.count lp=0:=List.count_eq_zero.mpr fun m=>(h _ m).1 rfl
theorem OH:md [rp]=0:=by decide
theorem K4(h:pZ u):md (u++[rp])=md u:=by
 rw[wj,h.1,OH]
 have:=mY u
 lia
section
variable{iv:Str→Bool}{vo:Str→D}
theorem frame{w:Str}(hw:Pw w)(h:pZ u):(lp::w::(u++[rp])).count lp=1+u.count lp∧md (lp::w::(u++[rp]))=1+md u:=by
 constructor
 ·rw[List.count_cons,if_pos (by simp),K3 hw,List.count_append,show [rp].count lp=0 by decide];lia
 ·rw[Oi,IA hw,K4 h]
theorem yV(w a:Str)(v:D):subs (.tup [.str w,.str a,v])=[]:=rfl
theorem wk(x:D):subs (.tup [.str "key",x])=[]:=by
 unfold subs
 dsimp only
 rw[if_neg (by decide),if_neg (by decide)]
theorem Wr.next{t:D}{ws:List Str}(h:Wr iv vo t ws):∃us,pX iv vo (subs t) us∧ws.count lp=1+us.count lp∧My.md ws=1+My.md us:=by
 cases h with
 |fu=>exact⟨[],.nil,by decide,by decide⟩
 |@col w n v hw hn hp hv =>
  have e:∀k∈[n,v],Pw k:=fun k hk=>by
   simp only [zb,ze,or_false] at hk
   rcases hk with rfl|rfl
   ·exact hn
   ·exact hp
  obtain⟨f1,f2⟩:=frame (u:=[n,v]) (pw_col hw) (.words e)
  exact⟨[],.nil,by rw[show [lp,w,n,v,rp]=lp::w::([n,v]++[rp]) from rfl,f1,nW e];rfl,by rw[show [lp,w,n,v,rp]=lp::w::([n,v]++[rp]) from rfl,f2,qd e];rfl⟩
 |key hk =>
  obtain⟨f1,f2⟩:=frame pw_key (.words hk)
  refine⟨[],?_,by rw[f1,nW hk];rfl,by rw[f2,qd hk];rfl⟩
  rw[wk];exact .nil
 |@not t u h =>
  obtain⟨f1,f2⟩:=frame pw_not h.CL.lvl
  refine⟨u,?_,f1,f2⟩
  rw[k9]
  have:=pX.cons h .nil
  rw[zR] at this
  exact this
 |@many w ts u hw h =>
  obtain⟨f1,f2⟩:=frame (pw_andor hw) h.lvl
  refine⟨u,?_,f1,f2⟩
  rw[k8 (lB hw)]
  exact h
theorem pX.app:pX iv vo a u→pX iv vo b v→pX iv vo (a++b) (u++v):=by
 intro h k
 induction a generalizing u with
 |nil=>cases h;exact k
 |cons x a ih=>cases h with|cons p q=>rw[zK];exact .cons p (ih q)
theorem pX.next:∀{es:List D}{ws:List Str},pX iv vo es ws→∃us,pX iv vo (es.flatMap subs) us∧ws.count lp=es.length+us.count lp∧(es≠[]→My.md ws=1+My.md us)∧(es=[]→us=[])
 |[],_,.nil=>⟨[],.nil,rfl,fun h=>absurd rfl h,fun _=>rfl⟩
 |e::es,_,.cons (ws:=wa) (vs:=wb) a b=>by
  obtain⟨ua,a1,a2,a3⟩:=a.next
  obtain⟨ub,b1,b2,b3,b4⟩:=b.next
  refine⟨ua++ub,a1.app b1,by rw[List.count_append,List.count_append,zf,a2,b2];lia,fun _=>?_,fun h=>by cases h⟩
  rw[wj,wj,a.CL.1,a1.lvl.1,a3]
  by_cases he:es=[]
  ·subst he
   cases b
   rw[b4 rfl]
   have:=mY ua
   show max (1+My.md ua) (0+0)=1+max (My.md ua) (0+0)
   lia
  ·rw[b3 he]
   have:=mY ua
   have:=mY ub
   lia
end
def yW(cs:List (Str×Str)):Nat→D→Bool
 |0,_=>false
 |n+1,d=>fU cs d && (subs d).all (yW cs n)
theorem wm(cs:List (Str×Str))(n:Nat):∀es:List D,es.all (yW cs (n+1))=(es.all (fU cs) && (es.flatMap subs).all (yW cs n))
 |[]=>rfl
 |e::es=>by
  rw[zW,zW,yr,List.all_append,wm cs n es]
  show (fU cs e && (subs e).all (yW cs n) && _)=_
  cases fU cs e <;> cases (subs e).all (yW cs n) <;> cases es.all (fU cs) <;> rfl
theorem yX(cs:List (Str×Str)):∀(n p:Nat) (es:List D) (ws:List Str),pX iv vo es ws→p≤200→(Ck cs n p es=true↔md ws≤((n:Nat):Int)∧p+ws.count lp≤200∧es.all (yW cs n)=true)
 |n,p,[],_,.nil,hp=>by
  rw[EM]
  exact⟨fun _=>⟨by show (0:Int)≤_;lia,hp,rfl⟩,fun _=>rfl⟩
 |0,p,e::es,ws,h,hp=>by
  obtain⟨us,h1,h2,h3,h4⟩:=h.next
  have:=mY us
  have h3:=h3 (List.cons_ne_nil _ _)
  constructor
  ·intro k;cases k
  ·rintro⟨k,_⟩;lia
 |n+1,p,e::es,ws,h,hp=>by
  obtain⟨us,h1,h2,h3,h4⟩:=h.next
  have h3:=h3 (List.cons_ne_nil _ _)
  rw[wm]
  generalize hl:e::es=l at *
  have Oe:¬ l.length=0:=by rw[← hl,zf];lia
  unfold Ck
  rw[if_neg Oe,zg,zg,zg,zi]
  constructor
  ·rintro⟨k1,k2,k3⟩
   obtain⟨j1,j2,j3⟩:=(yX cs n (p+l.length) _ us h1 k1).mp k3
   exact⟨by lia,by lia,k2,j3⟩
  ·rintro⟨j1,j2,k2,j3⟩
   exact⟨by lia,k2,(yX cs n (p+l.length) _ us h1 (by lia)).mpr ⟨by lia,by lia,j3⟩⟩
theorem K5(cs:List (Str×Str)){t:D}(h:Wr iv vo t ws):Ck cs 8 0 [t]=true↔md ws≤8∧ws.count lp≤200∧yW cs 8 t=true:=by
 have k:=pX.cons h .nil
 rw[zR] at k
 have:=yX cs 8 0 [t] ws k (by decide)
 rw[this,zW,List.all_nil,Bool.and_true,Nat.zero_add]
 rfl
theorem wo(h:m<10 ^ 60):dZ (nj m) 60=true∧mX (nj m)=true:=by
 obtain⟨h1,h2,h3⟩:=jU m
 have hl:=sQ (k:=60) (by decide) h
 have hp:1≤(nj m).length:=List.length_pos_iff.mpr h2
 refine⟨?_,?_⟩
 ·unfold dZ
  rw[zk hp,zk hl,zA,zA,zI]
  intro c hc
  have:=h1 c hc
  rw[zg,zi,zi]
  exact this
 ·have k:=(canon _ (nj m) rfl h1 h2).mp (by rw[h3])
  unfold mX
  rcases k with k|k
  ·rw[zk k,Bool.true_or]
  ·rw[zp k,Bool.not_false,Bool.or_true]
theorem yY(h:vS v):mZ (cw v)=true∧bM (cw v)=v:=by
 rcases h with rfl|⟨n,rfl,hn⟩|⟨z,rfl,hz⟩
 ·exact⟨by trivial,if_pos rfl⟩
 ·have hl:=eV n
  refine⟨?_,?_⟩
  ·unfold mZ qT
   rw[hl]
   show (if (35::_:List Nat).head?=some 35 then yK (eE n).cps.toList 60 else _)=true
   rw[if_pos (show (35::(eE n).cps.toList).head?=some 35 from rfl)]
   unfold yK
   rcases nU n with ⟨m,e,k⟩|⟨m,e,k⟩
   ·obtain⟨a,b⟩:=wo (m:=m) (by rw[e,Int.natAbs_natCast] at hn;exact hn)
    rw[k,if_neg,a,b];rfl
    intro q
    obtain⟨r,hr⟩:∃r,nj m=45::r:=⟨_,head_drop q⟩
    have:=(jU m).1 45 (by rw[hr];exact zj)
    exact absurd this.1 (by decide)
   ·obtain⟨a,b⟩:=wo (m:=m+1) (by rw[e,Int.natAbs_neg,Int.natAbs_natCast] at hn;exact hn)
    rw[k,if_pos (show (45::nj (m+1)).head?=some 45 from rfl)]
    show (dZ (nj (m+1)) 60 && (!decide (nj (m+1)=[48]) && mX (nj (m+1))))=true
    rw[a,b,zp,Bool.not_false];rfl
    intro q
    have:=(jU (m+1)).2.2
    rw[q] at this
    revert this
    show (0:Nat)=m+1→False
    lia
  ·exact (p6 (.inr (.inl ⟨by rw[hl];rfl,n,hn,by rw[rW,DZ hn],by rw[rW];exact iB hn,rfl⟩))).symm
 ·have hl:=cO z
  obtain⟨z1,z2⟩:=dN hz
  refine⟨?_,?_⟩
  ·unfold mZ qT
   rw[hl]
   show (if (34::_:List Nat).head?=some 35 then _ else if (34::_:List Nat).head?=some 34 then D1 (ni z).cps.toList else _)=true
   rw[if_neg (show ¬ (34::(ni z).cps.toList).head?=some 35 from fun q=>by cases q),if_pos (show (34::(ni z).cps.toList).head?=some 34 from rfl),iA]
   unfold D1
   rw[show bC 32 [61,98] (bC 61 [61,101] z.cps.toList)=BQ z.cps.toList from rfl,D0,zk rfl,← ak,zk z1,zA,zA,zI]
   intro c hc
   rw[zg,zi,zi]
   exact z2 c hc
  ·exact (p6 (.inr (.inr ⟨by rw[hl];rfl,by rw[yJ,KC]⟩))).symm
abbrev jn(ws:List Str):Str:=Txt.join " " ws
theorem qe(x:Str):jn [x]=x:=by show Txt.join " " [x]=x;rw[gv];rfl
theorem r_(a b c:Str):a++b++c=a++(b++c):=oP (by rw[gF,gF,gF,gF,zK])
theorem gX(h:r≠[]):jn (x::r)=x ++ " " ++ jn r:=by
 match r,h with
 |y::r,_ =>
  show Txt.join " " (x::y::r)=x ++ " " ++ Txt.join " " (y::r)
  rw[gv,gv];rfl
theorem qf:∀{a b:List Str},a≠[]→b≠[]→jn (a++b)=jn a ++ " " ++ jn b
 |[x],b,_,hb=>by rw[List.singleton_append,gX hb,qe]
 |x::y::a,b,_,hb=>by
  rw[yg,gX (by simp),qf (a:=y::a) (by simp) hb,gX (x:=x) (r:=y::a) (by simp)]
  simp only [r_]
theorem K6(hx:x≠[])(hy:y≠[])(h:jn x=jn y):jn (a++x)=jn (a++y):=by
 cases a with
 |nil=>exact h
 |cons b a=>rw[qf (by simp) hx,qf (by simp) hy,h]
theorem nX:∀{L:List (List Str)},(∀b∈L,b≠[])→(L.flatten++c=[]↔L.map jn++c=[])∧jn (L.map jn++c)=jn (L.flatten++c)
 |[],_=>⟨Iff.rfl,rfl⟩
 |b::L,h=>by
  have hb:=h b zj
  obtain⟨i1,i2⟩:=nX (c:=c) fun x hx=>h x (zl _ hx)
  refine⟨⟨fun e=>?_,fun e=>by simp at e⟩,?_⟩
  ·rw[List.flatten_cons,zK] at e
   exact absurd (List.append_eq_nil_iff.mp e).1 hb
  ·rw[zF,yg,List.flatten_cons,zK]
   by_cases hn:L.map jn++c=[]
   ·rw[hn,i1.mpr hn,zR,qe]
   ·rw[gX hn,qf hb fun e=>hn (i1.mp e),i2]
theorem uh{a c:List Str}{L:List (List Str)}(h:∀b∈L,b≠[])(hc:c≠[]):jn (a++(L.map jn++c))=jn (a++(L.flatten++c)):=by
 obtain⟨i1,i2⟩:=nX (c:=c) h
 exact K6 (by simp [hc]) (by simp [hc]) i2
def fM:D→List Str
 |.tup ks=>ks.map fun k=>match k with|.str z=>z|_ => ""
 |_=>[]
def WJ:D→List D
 |.tup es=>es
 |_=>[]
def sW:Nat→D→List Str
 |0,_=>[]
 |n+1,d=>match d with
  |.tup [.str w]=>[lp,w,rp]
  |.tup [.str w,x]=>lp::w::((if w = "key" then fM x else if w = "not" then sW n x else (WJ x).flatMap (sW n))++[rp])
  |.tup [.str w,.str a,v]=>[lp,w,a,cw v,rp]
  |_=>[]
theorem Cw(ks:List Str):fM (.tup (ks.map D.str))=ks:=by
 show (ks.map D.str).map _=ks
 rw[zC]
 exact List.map_id' ks
theorem Ff(n:Nat):sW (n+1) (.tup [.str "every"])=[lp, "every",rp]:=rfl
theorem K7(n:Nat)(w a:Str)(v:D):sW (n+1) (.tup [.str w,.str a,v])=[lp,w,a,cw v,rp]:=rfl
theorem yZ(n:Nat)(ks:List Str):sW (n+1) (.tup [.str "key",.tup (ks.map D.str)])=lp :: "key" :: (ks++[rp]):=by
 show lp :: "key" :: ((if ("key" : Str) = "key" then fM (.tup (ks.map D.str)) else _)++[rp])=_
 rw[if_pos rfl,Cw]
theorem y3(n:Nat)(x:D):sW (n+1) (.tup [.str "not",x])=lp :: "not" :: (sW n x++[rp]):=by
 show lp :: "not" :: ((if ("not" : Str) = "key" then fM x else if ("not" : Str) = "not" then sW n x else _)++[rp])=_
 rw[if_neg (by decide),if_pos rfl]
theorem uk(n:Nat){w:Str}(h:w∈dA)(es:List D):sW (n+1) (.tup [.str w,.tup es])=lp::w::(es.flatMap (sW n)++[rp]):=by
 show lp::w::((if w = "key" then _ else if w = "not" then sW n (.tup es) else es.flatMap (sW n))++[rp])=_
 rcases lB h with rfl|rfl
 ·rw[if_neg (by decide),if_neg (by decide)]
 ·rw[if_neg (by decide),if_neg (by decide)]
mutual
inductive Sr (cs:List (Str×Str)):Nat→Nat→D→Prop
 |fu {n} : Sr cs (n+1) 1 (.tup [.str "every"])
 |key {n}{ks:List Str} : ks.length≤8→(∀k∈ks,fq k=true)→Sr cs (n+1) 1 (.tup [.str "key",.tup (ks.map D.str)])
 |col {n w a v} : w∈dQ→bI a=true→vS v→Ci cs w (.str a) v=true→Sr cs (n+1) 1 (.tup [.str w,.str a,v])
 |not {n c e} : Sr cs n c e→Sr cs (n+1) (c+1) (.tup [.str "not",e])
 |many {n c w}{es:List D} : w∈dA→sd cs n c es→es.length≤8→Sr cs (n+1) (c+1) (.tup [.str w,.tup es])
inductive sd (cs:List (Str×Str)):Nat→Nat→List D→Prop
 |nil {n} : sd cs n 0 []
 |cons {n c c' e}{es:List D} : Sr cs n c e→sd cs n c' es→sd cs n (c+c') (e::es)
end
theorem sd.snoc:∀{es:List D}{c c':Nat}{e:D},sd cs n c es→Sr cs n c' e→sd cs n (c+c') (es++[e])
 |[],_,c',e,.nil,h=>by rw[Nat.zero_add];exact .cons (c':=0) h .nil
 |x::es,_,c',e,.cons a b,h=>by rw[Nat.add_assoc];exact .cons a (b.snoc h)
def gA(l:List Str):Nat:=(l.map (·.length)).sum+l.length
theorem um(a b:List Str):gA (a++b)=gA a+gA b:=by
 unfold gA;rw[zT,List.sum_append,zo];lia
theorem cL(h:z.cps.size≤n)(k:gA us≤B):gA (z::us)≤n+1+B:=by
 have e:=um [z] us
 have h1:gA [z]=z.length+1:=by unfold gA;simp
 have h3:z.length=z.cps.size:=rfl
 show gA ([z]++us)≤_
 lia
theorem m6:∀{us:List Str},(∀u∈us,u.cps.size≤m)→gA us≤us.length * (m+1)
 |[],_=>yq _
 |u::us,h=>by
  have:=cL (h u zj) (m6 fun x hx=>h x (zl _ hx))
  rw[zf,Nat.succ_mul];lia
def Pl:Nat→D→Prop
 |0=>fun d=>d=.aC∨(∃i,d=.int i)∨∃z,d=.str z
 |n+1=>fun d=>(d=.aC∨(∃i,d=.int i)∨∃z,d=.str z)∨∃ds,d=.tup ds∧ds.length≤1000∧∀e∈ds,Pl n e
theorem dw(z:Str):Pl n (.str z):=by cases n with|zero=>exact .inr (.inr ⟨z,rfl⟩)|succ n=>exact .inl (.inr (.inr ⟨z,rfl⟩))
theorem Fh(h:vS v):Pl n v:=by
 have:v=.aC∨(∃i,v=.int i)∨∃z,v=.str z:=by
  rcases h with rfl|⟨i,rfl,_⟩|⟨z,rfl,_⟩
  ·exact .inl rfl
  ·exact .inr (.inl ⟨i,rfl⟩)
  ·exact .inr (.inr ⟨z,rfl⟩)
 cases n with|zero=>exact this|succ n=>exact .inl this
theorem II:∀{n:Nat}{d:D},Pl n d→Pl (n+1) d
 |0,d,h=>.inl h
 |n+1,d,h=>by
  rcases h with h|⟨ds,e,h1,h2⟩
  ·exact .inl h
  ·exact .inr ⟨ds,e,h1,fun x hx=>II (h2 x hx)⟩
structure SF(cs:List (Str×Str))(n c:Nat)(d:D)(ws:List Str):Prop where
 wr:Wr mZ bM d ws
 md:My.md ws≤((n:Nat):Int)
 cnt:ws.count lp≤c
 rt:yW cs n d=true
 wf:∀u∈ws,Wf u
 wt:gA ws≤130 * c
 pz:∃p,Pz (2 * n) d p
 pl:Pl (2 * n) d
structure WK(cs:List (Str×Str))(n c:Nat)(es:List D)(ws:List Str):Prop where
 wr:pX mZ bM es ws
 md:My.md ws≤((n:Nat):Int)
 cnt:ws.count lp≤c
 rt:es.all (yW cs n)=true
 wf:∀u∈ws,Wf u
 wt:gA ws≤130 * c
 pz:∀e∈es,∃p,Pz (2 * n) e p
 pl:∀e∈es,Pl (2 * n) e
theorem OI:Wf lp∧Wf rp:=⟨⟨by trivial,by trivial,by trivial⟩,⟨by trivial,by trivial,by trivial⟩⟩
theorem Fi:∀w∈(["every","key","not","is","below","above","begins","and","or"]:List Str),Wf w∧w.cps.size≤6:=fun w hw=>by
 have:(w.cps.size≤90∧PyData.strOk w=true∧32∉w.cps.toList)∧w.cps.size≤6:=by revert w;decide +kernel
 exact this
theorem qg{w:Str}(h:w∈dQ):Wf w∧w.cps.size≤6:=Fi w (by
 simp only [dQ,zb,ze,or_false] at h
 rcases h with rfl|rfl|rfl|rfl <;> decide +kernel)
theorem pw_name(h:bI a=true):Pw a:=⟨by rintro rfl;revert h;decide +kernel,by rintro rfl;revert h;decide +kernel⟩
theorem pw_keyz(h:fq a=true):Pw a:=⟨by rintro rfl;revert h;decide +kernel,by rintro rfl;revert h;decide +kernel⟩
theorem Fj(h:vS v):∃p,Pf v p:=by
 rcases h with rfl|⟨n,rfl,_⟩|⟨z,rfl,hz⟩
 ·exact⟨_,.inl ⟨rfl,rfl⟩⟩
 ·exact⟨_,.inr (.inl ⟨n,rfl,rfl⟩)⟩
 ·exact⟨_,.inr (.inr ⟨z,rfl,rfl,fT.mpr fun c hc=>by have:=(dN hz).2 c hc;lia⟩)⟩
theorem i9{w:Str}(hw:Wf w)(h:∀x∈u,Wf x):∀x∈lp::w::(u++[rp]),Wf x:=by
 intro x hx
 simp only [zb,zP,ze,or_false] at hx
 rcases hx with rfl|rfl|hx|rfl
 ·exact OI.1
 ·exact hw
 ·exact h x hx
 ·exact OI.2
theorem i_{w:Str}(hw:w.cps.size≤6)(h:gA u≤B):gA (lp::w::(u++[rp]))≤B+11:=by
 have h1:gA (u++[rp])≤B+2:=by rw[um,show gA [rp]=2 by trivial];lia
 have h2:=cL hw h1
 have h3:=cL (z:=lp) (n:=1) (by trivial) h2
 lia
theorem K8{w a:Str}(hw:w∈dQ)(h:Ci cs w (.str a) v=true):fU cs (.tup [.str w,.str a,v])=true:=by
 have WL:w = "is" ∨ w = "below" ∨ w = "above" ∨ w = "begins" := by simpa [dQ] using hw
 rw[EG WL];exact h
theorem uo:∀{n:Nat}{d:D}{p:PyData},Pz n d p→∃q,Pz (n+1) d q
 |0,d,p,h=>⟨p,.inl h⟩
 |n+1,d,p,h=>by
  rcases h with h|⟨ds,ps,rfl,rfl,hp⟩
  ·exact⟨p,.inl h⟩
  ·refine cQ (n:=n+1) fun e he=>?_
   have:∃q,Pz n e q:=by
    induction hp with
    |nil=>cases he
    |cons r _ ih =>
     rcases zb.mp he with rfl|he
     ·exact⟨_,r⟩
     ·exact ih he
   obtain⟨q,hq⟩:=this
   exact uo hq
mutual
theorem Sr.sf:Sr cs n c d→SF cs n c d (sW n d)
 |.fu (n:=n)=>by
  rw[Ff]
  refine⟨.fu,?_,by decide,rfl,?_,by trivial,?_,.inr ⟨_,rfl,(show 1≤1000 by decide),fun d hd=>by rw[zz.mp hd];exact dw _⟩⟩
  ·show My.md [lp, "every",rp]≤((n+1:Nat):Int)
   rw[show My.md [lp, "every",rp]=1 by decide];lia
  ·exact i9 (w := "every") (u:=[]) (Fi _ (by trivial)).1 fun x h=>(nomatch h)
  ·exact cQ fun d hd=>by rw[zz.mp hd];exact du (by trivial)
 |.key (n:=n) (ks:=ks) h8 y4=>by
  rw[yZ]
  have hp:∀k∈ks,Pw k:=fun k hk=>pw_keyz (y4 k hk)
  obtain⟨f1,f2⟩:=frame pw_key (.words hp)
  have K9:gA ks≤8 * 13:=zt (m6 (m:=12) fun k hk=>i8 (y4 k hk)) (Nat.mul_le_mul_right _ h8)
  refine⟨.key hp,by rw[f2,qd hp];lia,by rw[f1,nW hp];decide,?_,i9 (Fi _ (by trivial)).1 fun k hk=>mG (y4 k hk),by have:=i_ (w := "key") (by trivial) K9;lia,?_,.inr ⟨_,rfl,(show 2≤1000 by decide),fun d hd=>?_⟩⟩
  ·show (fU cs _ && (subs _).all _)=true
   rw[EH,wk]
   show ((decide ((ks.map D.str).length≤8) && (ks.map D.str).all (ofStr fq)) && true)=true
   rw[za,zk h8,zA,Bool.and_true,List.all_map,zI]
   exact y4
  ·have e1:∃p,Pz (2 * n+1) (.tup (ks.map D.str)) p:=cQ fun d hd=>by
    obtain⟨k,hk,rfl⟩:=zq.mp hd
    exact du (mG (y4 k hk)).2.1
   refine cQ (n:=2 * n+1) fun d hd=>?_
   simp only [zb,ze,or_false] at hd
   rcases hd with rfl|rfl
   ·exact du (by trivial)
   ·exact e1
  ·simp only [zb,ze,or_false] at hd
   rcases hd with rfl|rfl
   ·exact dw _
   ·refine .inr ⟨_,rfl,by rw[za];lia,fun d hd=>?_⟩
    obtain⟨k,hk,rfl⟩:=zq.mp hd
    exact dw _
 |.col (n:=n) (w:=w) (a:=a) (v:=v) hw ha hv hf=>by
  rw[K7]
  obtain⟨r1,r2⟩:=yY hv
  have LU:Pw (cw v):=EX _ r1
  have hp:∀k∈[a,cw v],Pw k:=fun k hk=>by
   simp only [zb,ze,or_false] at hk
   rcases hk with rfl|rfl
   ·exact pw_name ha
   ·exact LU
  obtain⟨f1,f2⟩:=frame (u:=[a,cw v]) (pw_col hw) (.words hp)
  have IJ:=pU hv
  have e:[lp,w,a,cw v,rp]=lp::w::([a,cw v]++[rp]):=rfl
  have UE:=Wr.col (iv:=mZ) (vo:=bM) hw (pw_name ha) LU r1
  rw[r2] at UE
  have LV:a.cps.size≤8:=by
   unfold bI at ha
   simp only [zg,zi] at ha
   lia
  refine⟨UE,by rw[e,f2,qd hp];lia,by rw[e,f1,nW hp];decide,?_,?_,?_,?_,.inr ⟨_,rfl,(show 3≤1000 by decide),fun d hd=>?_⟩⟩
  ·show (fU cs _ && (subs _).all _)=true
   rw[K8 hw hf,yV];rfl
  ·rw[e]
   refine i9 (qg hw).1 fun x hx=>?_
   simp only [zb,ze,or_false] at hx
   rcases hx with rfl|rfl
   ·exact ji ha
   ·exact IJ
  ·rw[e]
   have:=i_ (qg hw).2 (cL LV (cL (us:=[]) (B:=0) IJ.1 (zh _)))
   lia
  ·refine cQ (n:=2 * n+1) fun d hd=>?_
   simp only [zb,ze,or_false] at hd
   rcases hd with rfl|rfl|rfl
   ·exact du (qg hw).1.2.1
   ·exact du (ji ha).2.1
   ·exact Fe (Fj hv)
  ·simp only [zb,ze,or_false] at hd
   rcases hd with rfl|rfl|rfl
   ·exact dw _
   ·exact dw _
   ·exact Fh hv
 |.not (n:=n) (c:=c) (e:=x) h=>by
  have i:=h.sf
  rw[y3]
  obtain⟨f1,f2⟩:=frame pw_not i.wr.CL.lvl
  have WM:=i.md
  have WN:=i.cnt
  have SX:=i.wt
  refine⟨.not i.wr,by rw[f2];lia,by rw[f1];lia,?_,i9 (Fi _ (by trivial)).1 i.wf,by have:=i_ (w := "not") (by trivial) SX;lia,?_,.inr ⟨_,rfl,(show 2≤1000 by decide),fun d hd=>?_⟩⟩
  ·show (fU cs _ && (subs _).all _)=true
   rw[yH,k9,zW,i.rt];rfl
  ·obtain⟨p,hp⟩:=i.pz
   refine cQ (n:=2 * n+1) fun d hd=>?_
   simp only [zb,ze,or_false] at hd
   rcases hd with rfl|rfl
   ·exact du (by trivial)
   ·exact uo hp
  ·simp only [zb,ze,or_false] at hd
   rcases hd with rfl|rfl
   ·exact dw _
   ·exact II i.pl
 |.many (n:=n) (c:=c) (w:=w) (es:=es) hw h h8=>by
  have i:=h.sf
  rw[uk n hw]
  obtain⟨f1,f2⟩:=frame (pw_andor hw) i.wr.lvl
  have WM:=i.md
  have WN:=i.cnt
  have SX:=i.wt
  have SY:Wf w∧w.cps.size≤6:=Fi w (by rcases lB hw with rfl|rfl <;> decide +kernel)
  refine⟨.many hw i.wr,by rw[f2];lia,by rw[f1];lia,?_,i9 SY.1 i.wf,by have:=i_ SY.2 SX;lia,?_,.inr ⟨_,rfl,(show 2≤1000 by decide),fun d hd=>?_⟩⟩
  ·show (fU cs _ && (subs _).all _)=true
   rw[yI (lB hw),k8 (lB hw),i.rt]
   show (decide (es.length≤8) && true)=true
   rw[zk h8];rfl
  ·refine cQ (n:=2 * n+1) fun d hd=>?_
   simp only [zb,ze,or_false] at hd
   rcases hd with rfl|rfl
   ·exact du SY.1.2.1
   ·exact cQ i.pz
  ·simp only [zb,ze,or_false] at hd
   rcases hd with rfl|rfl
   ·exact dw _
   ·exact .inr ⟨_,rfl,by lia,i.pl⟩
theorem sd.sf:sd cs n c es→WK cs n c es (es.flatMap (sW n))
 |.nil=>⟨.nil,by show (0:Int)≤_;lia,zh _,rfl,fun u h=>(nomatch h),zh _,fun e h=>(nomatch h),fun e h=>(nomatch h)⟩
 |.cons (e:=e) (es:=es) a b=>by
  have i:=a.sf
  have j:=b.sf
  rw[yr]
  have i1:=i.md
  have i2:=i.cnt
  have i3:=i.wt
  have j1:=j.md
  have j2:=j.cnt
  have j3:=j.wt
  refine⟨.cons i.wr j.wr,?_,by rw[List.count_append];lia,by rw[zW,i.rt,j.rt];rfl,fun u hu=>(zP.mp hu).elim (i.wf u) (j.wf u),by rw[um];lia,z0.mpr ⟨i.pz,j.pz⟩,z0.mpr ⟨i.pl,j.pl⟩⟩
  rw[wj,i.wr.CL.1];lia
end
theorem IK{c1:Bool}{X A B:Prop}(c2:Bool)(hx:(if c2=true then A else B)→X)(h:if (c1 || c2)=true then A else B):if c1=true then (if true=true then A else B) else X:=by
 cases c1 with
 |true=>exact h
 |false=>exact hx h
theorem m7:∀{xs out:List D},Paired (fun _ v=>∃z:Str,v=.str z∧fq z=true) xs out→∃ks:List Str,out=ks.map D.str∧ks.length=xs.length∧∀k∈ks,fq k=true
 |[],[],_=>⟨[],rfl,rfl,fun k h=>by cases h⟩
 |x::xs,_,.cons ⟨z,e,hz⟩ r=>by
  obtain⟨ks,e1,e2,e3⟩:=m7 r
  exact⟨z::ks,by rw[e,e1];rfl,by rw[zf,zf,e2],z0.mpr ⟨hz,e3⟩⟩
def S7:jd:=fun ds S R _=>∃l cs,ds=[.ref l,.tup (cs.map aq)]∧Cg cs∧S l=some .well∧∀d,(∀n,Sr cs (n+1) 1 d)→R d S
theorem HC(T:Txt w K mg t):Ok P w base T.pG 4 S7:=by
 refine T.pG.F.jk gp ?_
 rintro _ _ _ _ _ _ ds S R Z hr ⟨l,cs,e,hg,hw,q⟩
 subst e
 have n0:=sm (show 0≤100000 by decide)
 have n1:=sm (show 1≤100000 by decide)
 have n2:=sm (show 2≤100000 by decide)
 have n3:=sm (show 3≤100000 by decide)
 refine⟨_,(sc (dR (i:=2) gp.nd (cf ((ba T).mono (by decide)) hr T.af.m T.af.k T.af.b d0 (ac (dv 0) (ac di an)))) (sc (si (twd (twor (bw bB hr.units (dv 2) di) (tw1 (twd (twand (bw oH hr.units (dv 2) di) (tw1 (bw bB hr.units (dv 1) (cA an)))))))) (s1 (sr (cA (ac ds an)))) s0) (sc (si (bw bB hr.units (dv 2) di) (s1 (sr (cA (ac ds (ac (ct cJ T.aL ax (ac (lW (N:=["_law_k","_law_well_here"]) (src:=[none,some 0]) (kr (ae kL) ["_law_well_here","_law_columns_here","_law_way","_law_name","_law_kind","_law_value_here"] rfl rfl (by trivial)) (NK T.fH (ac (cf ((ba T).mono (by decide)) hr T.af.m T.af.k T.af.b d0 (ac (dv 0) (ac (CH (ix hr.units (bA (ac di (ac di an))) (cf ((ba T).mono (by decide)) hr T.af.m T.af.k T.af.b d0 (ac (dv 0) (ac di an))))) an))) an)) (nT (show (["_law_k","_law_well_here"]:List Str).Nodup by trivial)) (aM rfl) aN (fun _ _ _ _ _=>lH) (fun _ _ _ _ _=>(cf ((E6 T).mono (by decide)) hr T.mO.m T.mO.k T.mO.b d0 (ac (dv 1) an)))) an)) an))))) s0) (sc (sa (ix hr.units (dv 1) (cf ((ba T).mono (by decide)) hr T.af.m T.af.k T.af.b d0 (ac (dv 0) (ac (cb aW T.aR aE (ac (dv 1) an)) an)))) (gt (n:=2) (gc (gn (i:=3) gp.nd) (gc (gn (i:=4) gp.nd) g0)))) (sc (dR (i:=5) gp.nd (cf ((we T).mono (by decide)) hr T.fG.m T.fG.k T.fG.b d0 (ac (dv 0) (ac (dv 4) an)))) (sc (si (twd (twor (bw GL hr.units (dv 2) di) (tw1 (bw xp hr.units (dv 5) dn)))) (s1 (sr (cA (ac ds (ac (dv 3) (ac (dv 5) an)))))) s0) (sc (si (twd (twand (bw bB hr.units (dv 2) di) (tw1 (bw bB hr.units (dv 4) ds)))) (s1 (sr (cA (ac ds (ac (dv 3) (ac (dv 5) an)))))) s0) (s1 (sr (cA (ac (CH (ix hr.units (bA (ac ds (ac ds an))) (bo jx hr.units (dv 2) di))) (ac (dv 3) (ac (dv 5) an))))))))))))),?_⟩
 refine⟨_,rfl,l,_,rfl,(by decide),(by decide),hw,fun way w0 w1=>?_⟩
 have q0:=q _ fun n=>Sr.fu (n:=n)
 refine⟨_,rfl,decide (way=0),rfl,bz (fun h1=>aZ ⟨n1,fo q0⟩) (fun h1=>?_)⟩
 have h1:way≠0:=zD h1
 refine⟨_,rfl,decide (1<way),rfl,bz (fun h2=>?_) (fun h2=>ay ?_)⟩
 ·have h2:1<way:=zu h2
  refine⟨_,rfl,n0,G5 (AU hg) ⟨_,rfl,bz (fun h3=>⟨n1,fo q0⟩) (fun h3=>?_)⟩⟩
  refine⟨_,rfl,false,congrArg D.bl (zp (show ¬ way=1 by lia)),ay ?_⟩
  have Gp:0<cs.length:=by
   cases cs with
   |nil=>cases h3
   |cons c cs=>exact Nat.succ_pos _
  have h8:=hg.1.1
  refine⟨_,rfl,_,rfl,_,rfl,_,rfl,l,_,rfl,by rw[za];lia,j_ (by rw[za];lia) (by rw[za];lia),hw,fun i i0 i1=>?_⟩
  obtain⟨d,e1,e2⟩:=ku (l:=cs.map aq) i0 i1
  obtain⟨c,hc,rfl⟩:=zq.mp (zN e2)
  refine⟨_,e1,_,rfl,rfl,_,_,rfl,_,_,rfl,rfl,?_⟩
  refine⟨_,rfl,_,rfl,l,c.2,rfl,hw,fun v hv WO=>?_⟩
  have SU:=x_ hg.1 (z:=c.1) (k:=c.2) hc
  have qc:∀o∈dQ,(decide (o = "is") || ((!(decide (o = "begins") && !decide (c.2 = "word"))) && !eD v))=true→R (.tup [.str o,.str c.1,v]) S:=fun o ho hf=>q _ fun n=>Sr.col (n:=n) ho (hg.1.2.2 c hc).1 hv (by
   unfold Ci
   rw[SU]
   show (i5 c.2 v && _)=true
   rw[WO,hf];rfl)
  refine⟨_,rfl,decide (way<4),rfl,IK (eD v) (fun h=>⟨_,rfl,eD v,rfl,h⟩) (bz (fun h4=>?_) (fun h4=>?_))⟩
  ·exact⟨_,rfl,_,rfl,n3,fo (qc _ (by decide) (by rw[show decide (("is" : Str) = "is")=true by trivial];rfl))⟩
  rw[Bool.or_eq_false_iff] at h4
  have UG:=h4.2
  refine⟨_,rfl,decide (way=7),rfl,fW (decide (c.2 = "word")) (fun h=>⟨_,rfl,_,rfl,h⟩) (bz (fun h5=>?_) (fun h5=>?_))⟩
  ·rw[zg] at h5
   exact⟨_,rfl,_,rfl,n3,fo (qc _ (by decide) (by rw[h5.2,UG,Bool.not_true,Bool.and_false,Bool.not_false,Bool.and_true,Bool.or_true]))⟩
  refine⟨n2,fun p hp=>⟨_,rfl,(by decide:(0:Int)<2),dr (Int.emod_nonneg _ (by decide)) (Int.emod_lt_of_pos _ (by decide)) hp fun d hd=>?_⟩⟩
  obtain⟨o,rfl,ho,WQ⟩:∃o:Str,d=.str o∧o∈dQ∧decide (o = "begins")=false:=by
   have hd:d∈[D.str "below",.str "above"]:=hd
   simp only [zb,ze,or_false] at hd
   rcases hd with rfl|rfl
   ·exact⟨_,rfl,by decide,by trivial⟩
   ·exact⟨_,rfl,by decide,by trivial⟩
  exact⟨_,rfl,_,rfl,n3,fo (qc o ho (by rw[WQ,UG,zE,Bool.not_false,Bool.and_true,Bool.or_true]))⟩
 ·have h2:¬ 1<way:=zD h2
  obtain rfl:way=1:=by lia
  refine⟨_,rfl,true,rfl,aZ ?_⟩
  refine⟨_,rfl,n2,fun p hp=>⟨_,rfl,l,_,rfl,(by decide),(by decide),wl hw hp,fun i i0 i1=>dr i0 i1 hp fun m hm=>?_⟩⟩
  obtain⟨m',rfl,WR,WS⟩:∃m':Nat,m=.int (m':Int)∧0<m'∧m'≤9:=by
   have hm:m∈[D.int 4,.int 9]:=hm
   simp only [zb,ze,or_false] at hm
   rcases hm with rfl|rfl
   ·exact⟨4,rfl,by decide,by decide⟩
   ·exact⟨9,rfl,by decide,by decide⟩
  refine⟨l,_,rfl,by lia,j_ (by lia) (by lia),hw,fun j j0 j1=>⟨j,rfl,by lia,by lia,?_⟩⟩
  refine i6 (fun _ v=>∃z:Str,v=.str z∧fq z=true) trivial (by show (jS 0 j.toNat).length≤_;rw[eY];lia) (fun d hd Q hQ=>?_) fun out ho p2 g6=>?_
  ·exact⟨_,rfl,l,rfl,hw,fun z hz=>hQ _ ⟨z,rfl,hz⟩⟩
  ·obtain⟨ks,rfl,hl,y4⟩:=m7 ho
   have hl:ks.length=j.toNat:=hl.trans eY
   exact⟨_,_,rfl,.inl aa,n2,S,.new g6,q _ fun n=>Sr.key (n:=n) (by lia) y4⟩
def OJ(n:Nat):jd:=fun ds S R _=>∃(l:Addr) (cs:List (Str×Str)) (p:Addr) (r:Nat),ds=[.ref l,.tup (cs.map aq),.int ((n:Nat):Int),.ref p]∧1≤n∧Cg cs∧S l=some .well∧S p=some (.lst [.int ((r:Nat):Int)])∧1≤r ∧
 ∀(d:D) (c k:Nat),1≤k→k≤r→c≤2 * k→Sr cs n c d→R d (S.set p (.lst [.int ((r - k:Nat):Int)]))
theorem qh(T:Txt w K mg t):∀n,Ok P w base T.bZ (5+n) (OJ n)
 |0=>by
  refine T.bZ.F.jk (k:=4) fm ?_
  rintro _ _ _ _ _ _ ds S R Z hr ⟨l,cs,p,r,e,h1,_⟩
  exact absurd h1 (by decide)
 |n+1=>by
  refine T.bZ.F.jk (k:=5+n) fm ?_
  rintro _ _ _ _ _ _ ds S R Z hr ⟨l,cs,p,r,e,h1,hg,hw,hp,UH,q⟩
  subst e
  have n0:=sm (show 0≤100000 by decide)
  have n1:=sm (show 1≤100000 by decide)
  have n2:=sm (show 2≤100000 by decide)
  have n3:=sm (show 3≤100000 by decide)
  have UI:l≠p:=fun e=>by rw[e,hp] at hw;cases hw
  refine⟨_,(sc (Se (dv 3) di (bo kB hr.units (ix hr.units (dv 3) di) di)) (sc (dR (i:=4) fm.nd (cf ((ba T).mono (by lia)) hr T.af.m T.af.k T.af.b d0 (ac (dv 0) (ac di an)))) (sc (si (twd (twor (bw bB hr.units (dv 2) di) (tw1 (bw GL hr.units (dv 4) di)))) (s1 (sr (cf ((HC T).mono (by lia)) hr T.pG.m T.pG.k T.pG.b d0 (ac (dv 0) (ac (dv 1) an))))) s0) (sc (si (bw bB hr.units (dv 4) di) (sc (si (bw GL hr.units (ix hr.units (dv 3) di) di) (s1 (sr (cA (ac ds (ac (cA (ac ds an)) an))))) s0) (s1 (sr (cA (ac ds (ac (cf ((qh T n).mono (by lia)) hr T.bZ.m T.bZ.k T.bZ.b d0 (ac (dv 0) (ac (dv 1) (ac (bo kB hr.units (dv 2) di) (ac (dv 3) an))))) an)))))) s0) (sc (dR (i:=5) fm.nd (bA an)) (sc (DL (GS (NK T.fH (ac (cf ((ba T).mono (by lia)) hr T.af.m T.af.k T.af.b d0 (ac (dv 0) (ac (CH (ix hr.units (bA (ac di (ac di (ac di an)))) (cf ((ba T).mono (by lia)) hr T.af.m T.af.k T.af.b d0 (ac (dv 0) (ac di an))))) an))) an)) (gn (i:=6) fm.nd) (s1 (si (bw oH hr.units (ix hr.units (dv 3) di) di) (s1 (se (bm zJ zY zZ cB (dv 5) (ac (cf ((qh T n).mono (by lia)) hr T.bZ.m T.bZ.k T.bZ.b d0 (ac (dv 0) (ac (dv 1) (ac (bo kB hr.units (dv 2) di) (ac (dv 3) an))))) an)))) s0)))) (s1 (sr (cA (ac (CH (ix hr.units (bA (ac ds (ac ds an))) (bo jx hr.units (dv 4) di))) (ac (ct cJ T.aL ax (ac (dv 5) an)) an))))))))))),?_⟩
  refine⟨_,rfl,_,_,hp,b_ _ _,_,rfl,p,_,0,0,rfl,rfl,hp,rfl,?_⟩
  rw[show ([D.int ((r:Nat):Int)]:List D).set 0 (D.int (((r:Nat):Int) - 1))=[.int ((r - 1:Nat):Int)] by show [D.int _]=_;rw[show ((r:Nat):Int) - 1=((r - 1:Nat):Int) by lia]]
  have Hh:(S.set p (.lst [.int ((r - 1:Nat):Int)])) l=some .well:=(ai UI).trans hw
  refine⟨_,rfl,l,_,rfl,(by decide),(by decide),Hh,fun way w0 w1=>?_⟩
  have CK:(S.set p (.lst [.int ((r - 1:Nat):Int)])) p=some (.lst [.int ((r - 1:Nat):Int)]):=aa
  refine⟨_,rfl,decide (((n+1:Nat):Int)=1),rfl,IK (decide (way<3)) (fun h=>⟨_,rfl,decide (way<3),rfl,h⟩) (bz (fun h2=>?_) (fun h2=>?_))⟩
  ·exact⟨_,rfl,_,rfl,l,cs,rfl,hg,Hh,fun d hd=>fo (q d 1 1 (by decide) UH (by decide) (hd n))⟩
  rw[Bool.or_eq_false_iff] at h2
  have ID:¬ ((n+1:Nat):Int)=1:=zD h2.1
  have YO:¬ way<3:=zD h2.2
  have UJ:1≤n:=by lia
  have en:((n+1:Nat):Int) - 1=((n:Nat):Int):=by lia
  refine⟨_,rfl,decide (way=3),rfl,bz (fun h3=>?_) (fun h3=>?_)⟩
  ·refine⟨_,rfl,_,_,CK,b_ _ _,_,rfl,bz (fun h4=>?_) (fun h4=>?_)⟩
   ·refine⟨n1,n2,fo (q _ 2 1 (by decide) UH (by decide) ?_)⟩
    obtain⟨m,rfl⟩:∃m,n=m+1:=⟨n - 1,by lia⟩
    exact .not .fu
   ·have h4:¬ ((r - 1:Nat):Int)<1:=zD h4
    refine⟨_,rfl,_,rfl,_,rfl,_,rfl,l,cs,p,r - 1,by rw[en];rfl,UJ,hg,Hh,CK,by lia,fun d c k k1 k2 hc hd=>⟨n2,?_⟩⟩
    have:=q _ (c+1) (k+1) (by lia) (by lia) (by lia) (.not hd)
    rw[dE,show r - 1 - k=r - (k+1) by lia]
    exact fo this
  refine⟨n0,fun a ha=>?_⟩
  have S8:a≠p:=fun e=>by rw[e,aa] at ha;cases ha
  have WT:S a=none:=(ai S8).symm.trans ha
  have Cr:a≠l:=fun e=>by rw[e,Hh] at ha;cases ha
  refine⟨fun aA S'=>∃(es:List D) (c k:Nat) (o6:Option D),aA=[some (.ref l),some (.tup (cs.map aq)),some (.int ((n+1:Nat):Int)),some (.ref p),some (.int way),some (.ref a),o6]∧Sub (S.set p (.lst [.int ((r - 1 - k:Nat):Int)])) S'∧S' a=some (.lst es)∧es.length≤8∧sd cs n c es∧c≤2 * k∧k≤r - 1,?_,?_⟩
  ·refine⟨_,rfl,n3,fun p1 fY=>⟨_,rfl,l,_,rfl,(by decide),(by decide),wl ((ai (Ne.symm Cr)).trans Hh) fY,fun i i0 i1=>dr i0 i1 fY fun m hm=>?_⟩⟩
   obtain⟨m',rfl,WR,WS⟩:∃m':Nat,m=.int (m':Int)∧0<m'∧m'≤9:=by
    have hm:m∈[D.int 4,.int 4,.int 9]:=hm
    simp only [zb,ze,or_false] at hm
    rcases hm with rfl|rfl|rfl
    ·exact⟨4,rfl,by decide,by decide⟩
    ·exact⟨4,rfl,by decide,by decide⟩
    ·exact⟨9,rfl,by decide,by decide⟩
   refine⟨l,_,rfl,by lia,j_ (by lia) (by lia),(ai (Ne.symm Cr)).trans Hh,fun j j0 j1=>⟨j,rfl,by lia,by lia,?_⟩⟩
   refine⟨fun i aA S'=>∃(es:List D) (c k:Nat) (o6:Option D),aA=[some (.ref l),some (.tup (cs.map aq)),some (.int ((n+1:Nat):Int)),some (.ref p),some (.int way),some (.ref a),o6]∧Sub (S.set p (.lst [.int ((r - 1 - k:Nat):Int)])) S'∧S' a=some (.lst es)∧es.length≤i∧sd cs n c es∧c≤2 * k∧k≤r - 1,⟨[],0,0,none,rfl,.new ha,aa,zh _,.nil,zh _,yq _⟩,fun _ _ _ _=>trivial,?_,?_⟩
   ·rintro i d aA S' hd ⟨es,c,k,o6,rfl,sb,nI,M8,wq,OK,P6⟩
    have hd:(jS 0 j.toNat)[i]?=some d:=hd
    obtain⟨hi,rfl⟩:=iz hd
    have PR:S' p=some (.lst [.int ((r - 1 - k:Nat):Int)]):=sb _ _ aa
    refine⟨_,rfl,_,_,PR,b_ _ _,_,rfl,bz (fun h4=>?_) (fun h4=>?_)⟩
    ·have h4:(0:Int)<((r - 1 - k:Nat):Int):=zu h4
     have LZ:S' l=some .well:=sb _ _ ((ai UI).trans hw)
     refine⟨_,rfl,⟨rfl,_,nI⟩,_,rfl,_,rfl,_,rfl,_,rfl,l,cs,p,r - 1 - k,by rw[en];rfl,UJ,hg,LZ,PR,by lia,fun d c2 k2 a1 a2 a3 a4=>?_⟩
     have S9:(S'.set p (.lst [.int ((r - 1 - k - k2:Nat):Int)])) a=some (.lst es):=(ai S8).trans nI
     refine⟨a,_,_,rfl,rfl,S9,dM (by lia),es++[d],c+c2,k+k2,_,rfl,?_,aa,by rw[zo];show es.length+1≤_;lia,wq.snoc a4,by lia,by lia⟩
     rw[show r - 1 - (k+k2)=r - 1 - k - k2 by lia]
     intro b x hb
     by_cases P7:b=p
     ·subst P7
      rw[aa] at hb
      rw[ai (Ne.symm S8),aa];exact hb
     ·rw[ai P7] at hb
      have WU:b≠a:=fun e=>by rw[e,WT] at hb;cases hb
      rw[ai WU,ai P7]
      exact sb b x ((ai P7).trans hb)
    ·exact⟨es,c,k,_,rfl,sb,nI,by lia,wq,OK,P6⟩
   ·rintro aA S' ⟨es,c,k,o6,rfl,sb,nI,M8,wq,OK,P6⟩
    have M8:es.length≤(jS 0 j.toNat).length:=M8
    rw[eY] at M8
    exact fo ⟨es,c,k,_,rfl,sb,nI,by lia,wq,OK,P6⟩
  ·rintro aA S' ⟨es,c,k,o6,rfl,sb,nI,YQ,wq,OK,P6⟩
   refine⟨n2,fun p1 fY=>⟨_,rfl,(by decide:(0:Int)<2),dr (Int.emod_nonneg _ (by decide)) (Int.emod_lt_of_pos _ (by decide)) fY fun d hd=>?_⟩⟩
   obtain⟨o,rfl,ho⟩:∃o:Str,d=.str o∧o∈dA:=by
    have hd:d∈[D.str "and",.str "or"]:=hd
    simp only [zb,ze,or_false] at hd
    rcases hd with rfl|rfl
    ·exact⟨_,rfl,by decide⟩
    ·exact⟨_,rfl,by decide⟩
   have:=q _ (c+1) (k+1) (by lia) (by lia) (by lia) (.many ho wq (by lia))
   rw[show r - (k+1)=r - 1 - k by lia] at this
   exact⟨_,rfl,_,_,rfl,.inl nI,n2,_,sb,this⟩
theorem gY(h:∀u∈us,PyData.strOk u=true)(hw:gA us≤B)(hB:B≤100000):JoinOk " " us=true∧Tx B (jn us):=by
 have h1:(" " : Str).length=1:=by trivial
 unfold gA at hw
 refine⟨PyProof.Rows.joinOk_of (by rw[h1];lia),?_,G8 (by trivial) h⟩
 have:=Ez " " us
 rw[h1] at this
 show (Txt.join " " us).length≤B
 lia
theorem uq:∀{us:List Str},us≠[]→(jn us).length+1≤gA us
 |[x],_=>by rw[qe];unfold gA;simp
 |x::y::us,_=>by
  have ih:=uq (us:=y::us) (by simp)
  rw[gX (by simp)]
  have e:(x ++ " " ++ jn (y::us)).length=x.length+1+(jn (y::us)).length:=by
   rw[Str.length_append,Str.length_append];rfl
  have e2:gA (x::y::us)=x.length+1+gA (y::us):=by
   unfold gA;rw[zF,List.sum_cons,zf (a:=x)];lia
  lia
theorem Sr.ne(h:Sr cs n c d):sW n d≠[]:=h.sf.wr.ne
theorem sd.ne:∀{c:Nat}{es:List D},sd cs n c es→∀b∈es.map (sW n),b≠[]
 |_,[],.nil=>fun b h=>(nomatch h)
 |_,_::_,.cons a b=>z0.mpr ⟨a.ne,b.ne⟩
theorem sd.S_:∀{c:Nat}{es:List D},sd cs n c es→gA (es.map fun e=>jn (sW n e))≤gA (es.flatMap (sW n))
 |_,[],.nil=>zh _
 |_,e::es,.cons a b=>by
  have h1:=uq a.ne
  have h2:=b.S_
  rw[zF,yr,um]
  have e2:gA (jn (sW n e)::es.map fun e=>jn (sW n e))=(jn (sW n e)).length+1+gA (es.map fun e=>jn (sW n e)):=by
   unfold gA;rw[zF,List.sum_cons,zf];lia
  lia
theorem sd.mem:∀{c:Nat}{es:List D},sd cs n c es→∀{e:D},e∈es→∃c2,Sr cs n c2 e∧c2≤c
 |_,_::es,.cons a b,e,h=>by
  rcases zb.mp h with rfl|h
  ·exact⟨_,a,by lia⟩
  ·obtain⟨c2,h1,h2⟩:=b.mem h
   exact⟨c2,h1,by lia⟩
structure In(n c:Nat)(w:Str)(d:D)(us:List Str):Prop where
 eq:jn (lp::w::(us++[rp]))=jn (sW n d)
 ok:∀u∈us,PyData.strOk u=true
 wt:gA us≤130 * c
theorem wu(h:Sr cs n c d)(hc:c≤200):JoinOk " " (sW n d)=true∧Tx 26000 (jn (sW n d)):=by
 have i:=h.sf
 have:=i.wt
 exact gY (fun u hu=>(i.wf u hu).2.1) (B:=26000) (by lia) (by decide)
def y6(n:Nat):jd:=fun ds S R _=>∃(cs:List (Str×Str)) (d:D) (c:Nat),ds=[d]∧Sr cs n c d∧c≤200∧R (.str (jn (sW n d))) S
def OL(n:Nat):jd:=fun ds S R _=>∃(cs:List (Str×Str)) (w:Str) (rest:List D) (c:Nat),ds=[.tup (.str w::rest)]∧Sr cs (n+1) c (.tup (.str w::rest))∧c≤200∧∀us p,In (n+1) c w (.tup (.str w::rest)) us→us.length≤1000→S p=none→R (.ref p) (S.set p (.lst (us.map D.str)))
theorem Fl(T:Txt w K mg t)(cj:Ok P w base T.az (L+1) (y6 n)):Ok P w base T.cS (L+2) (OL n):=by
 refine T.cS.F.jk pH ?_
 rintro _ _ _ _ _ _ ds S R Z hr ⟨cs,o,rest,c0,e,wq,WV,q⟩
 subst e
 have n1:=sm (show 1≤100000 by decide)
 have n2:=sm (show 2≤100000 by decide)
 have lC:jO (.str o::rest) 0=some (.str o):=b_ _ _
 have i:=wq.sf
 refine⟨_,(sc (si (bw qA hr.units (ix hr.units (dv 0) di) (dg (v:=.ref t.df) T.hU rfl T.hX)) (s1 (sr (bA (ac (ix hr.units (dv 0) di) (ac (cf ((fV T).mono (by lia)) hr T.bc.m T.bc.k T.bc.b d0 (ac (ix hr.units (dv 0) di) an)) an))))) s0) (sc (si (bw bB hr.units (ix hr.units (dv 0) di) ds) (s1 (sr (ct xq T.xX sE (ac (ix hr.units (dv 0) di) an)))) s0) (sc (si (bw bB hr.units (ix hr.units (dv 0) di) ds) (s1 (sr (bA (ac (cf (cj.mono (by lia)) hr T.az.m T.az.k T.az.b d0 (ac (ix hr.units (dv 0) di) an)) an)))) s0) (sc (si (bw qA hr.units (ix hr.units (dv 0) di) (cA (ac ds (ac ds an)))) (s1 (sr (lW (N:=["inner"]) (src:=[none]) (kr (ae dU) ["sieve"] rfl rfl (by trivial)) (wJ (ix hr.units (dv 0) di)) (nT (show (["inner"]:List Str).Nodup by trivial)) (aM rfl) aN (fun _ _ _ _ _=>lH) (fun _ _ _ _ _=>(cf (cj.mono (by lia)) hr T.az.m T.az.k T.az.b d0 (ac (dv 0) an)))))) s0) (s1 (sr (bA an))))))),?_⟩
 cases wq with
 |fu =>
  refine⟨_,rfl,_,lC,rfl,rfl,_,rfl,ia (by trivial) ⟨_,rfl,_,lC,_,rfl,ia (by trivial) ⟨_,rfl,_,lC,_,rfl,ia (by trivial) ⟨_,rfl,_,lC,n2,rfl,rfl,_,rfl,ia (by trivial) ⟨sm (show 0≤100000 by decide),fun p hp=>?_⟩⟩⟩⟩⟩
  exact fo (q [] p ⟨rfl,fun u h=>(nomatch h),by decide⟩ (by decide) hp)
 |@key _ ks h8 y4 =>
  refine⟨_,rfl,_,lC,rfl,rfl,_,rfl,ia (by trivial) ⟨_,rfl,_,lC,_,rfl,wK (by trivial) ⟨_,rfl,_,nM _ _ _,_,_,rfl,.inr rfl,fun p hp=>?_⟩⟩⟩
  have K9:gA ks≤8 * 13:=zt (m6 (m:=12) fun k hk=>i8 (y4 k hk)) (Nat.mul_le_mul_right _ h8)
  exact fo (q ks p ⟨by rw[yZ],fun u hu=>(mG (y4 u hu)).2.1,by lia⟩ (by lia) hp)
 |@col _ _ a v hw ha hv hf =>
  refine⟨_,rfl,_,lC,rfl,rfl,decide (o∈dQ),congrArg D.bl (p7 o),wK (zk hw) ⟨_,rfl,_,nM _ _ _,_,rfl,_,rfl,v,rfl,hv,n2,fun p hp=>?_⟩⟩
  have IJ:=pU hv
  have LV:a.cps.size≤8:=by
   unfold bI at ha
   simp only [zg,zi] at ha
   lia
  have OM:=cL LV (cL (us:=[]) (B:=0) IJ.1 (zh _))
  refine fo (q [a,cw v] p ⟨rfl,fun u hu=>?_,by lia⟩ (show 2≤1000 by decide) hp)
  simp only [zb,ze,or_false] at hu
  rcases hu with rfl|rfl
  ·exact (ji ha).2.1
  ·exact IJ.2.1
 |@not _ c1 x he =>
  refine⟨_,rfl,_,lC,rfl,rfl,_,rfl,ia (by trivial) ⟨_,rfl,_,lC,_,rfl,ia (by trivial) ⟨_,rfl,_,lC,_,rfl,wK (by trivial) ⟨_,rfl,_,nM _ _ _,cs,x,c1,rfl,he,by lia,n1,fun p hp=>?_⟩⟩⟩⟩
  have ON:=(wu he (by lia)).2
  have h1:=uq he.ne
  have h2:=he.sf.wt
  refine fo (q [jn (sW n x)] p ⟨?_,fun u hu=>by rw[zz.mp hu];exact ON.2,?_⟩ (show 1≤1000 by decide) hp)
  ·rw[y3]
   have:=uh (a:=[lp, "not"]) (c:=[rp]) (L:=[sW n x]) (fun b hb=>by rw[zz.mp hb];exact he.ne) (by simp)
   rw[List.flatten_cons,List.flatten_nil,zR] at this
   exact this
  ·have:gA [jn (sW n x)]=(jn (sW n x)).length+1:=by unfold gA;simp
   lia
 |@many _ c1 _ es hw nI h8 =>
  obtain⟨a1,a2,a3⟩:o∉dQ∧o ≠ "key" ∧ o ≠ "not" := by
   rcases lB hw with rfl|rfl <;> exact⟨by trivial,by trivial,by trivial⟩
  refine⟨_,rfl,_,lC,rfl,rfl,decide (o∈dQ),congrArg D.bl (p7 o),ia (zp a1) ⟨_,rfl,_,lC,_,rfl,ia (zp a2) ⟨_,rfl,_,lC,_,rfl,ia (zp a3) ⟨_,rfl,_,lC,n2,rfl,rfl,decide (o∈dA),congrArg D.bl (IB o),wK (zk hw) ⟨_,rfl,_,nM _ _ _,_,.inl rfl,?_⟩⟩⟩⟩⟩
  refine comp_map (fun e=>.str (jn (sW n e))) trivial (by show es.length≤_;lia) (fun e he Q hQ=>?_) fun p hp=>?_
  ·obtain⟨c2,h2,h3⟩:=nI.mem he
   exact⟨_,rfl,cs,e,c2,rfl,h2,by lia,hQ⟩
  ·have h1:=nI.S_
   have h2:=nI.sf.wt
   have:=q (es.map fun e=>jn (sW n e)) p ⟨?_,fun u hu=>?_,by lia⟩ (by rw[za];lia) hp
   ·rw[zC] at this
    exact fo this
   ·rw[uk n hw]
    have:=uh (a:=[lp,o]) (c:=[rp]) (L:=es.map (sW n)) nI.ne (by simp)
    rw[zC,← List.flatMap_def] at this
    exact this
   ·obtain⟨e,he,rfl⟩:=zq.mp hu
    obtain⟨c2,h2,h3⟩:=nI.mem he
    exact (wu h2 (by lia)).2.2
theorem ur(T:Txt w K mg t):∀n,Ok P w base T.az (2 * n+1) (y6 n)
 |0=>by
  refine T.az.F.jk (k:=0) jA ?_
  rintro _ _ _ _ _ _ ds S R Z hr ⟨cs,d,c,e,h1,_⟩
  exact absurd h1 (by rintro⟨⟩)
 |n+1=>by
  have qZ:Ok P w base T.cS (2 * n+2) (OL n):=Fl T (L:=2 * n) (ur T n)
  refine T.az.F.jk (k:=2 * n+2) jA ?_
  rintro _ _ _ _ _ _ ds S R Z hr ⟨cs,d,c,e,wq,hc,q⟩
  subst e
  have n1:=sm (show 1≤100000 by decide)
  have n2:=sm (show 2≤100000 by decide)
  obtain⟨o,rest,rfl,Tb,Tc⟩:∃(o:Str) (rest:List D),d=.tup (.str o::rest)∧o.cps.size≤6∧PyData.strOk o=true:=by
   cases wq with
   |fu=>exact⟨_,_,rfl,by trivial,by trivial⟩
   |key _ _=>exact⟨_,_,rfl,by trivial,by trivial⟩
   |col hw _ _ _=>exact⟨_,_,rfl,(qg hw).2,(qg hw).1.2.1⟩
   |not _=>exact⟨_,_,rfl,by trivial,by trivial⟩
   |many hw _ _=>rcases lB hw with rfl|rfl <;> exact⟨_,_,rfl,by trivial,by trivial⟩
  refine⟨_,(s1 (sr (bm zH ya yb gE ds (ac (bo bN hr.units (bo bN hr.units (bA (ac ds (ac (ix hr.units (dv 0) di) an))) (cf (qZ.mono (by lia)) hr T.cS.m T.cS.k T.cS.b d0 (ac (dv 0) an))) (bA (ac ds an))) an)))),?_⟩
  refine⟨rfl,_,rfl,_,b_ _ _,n2,fun p1 fY=>?_⟩
  refine⟨_,rfl,cs,o,rest,c,rfl,wq,hc,fun us p2 HU YR g6=>?_⟩
  refine⟨_,_,(Sub.new g6) _ _ aa,aa,sm (by show 2+(us.map D.str).length≤_;rw[za];lia),fun p3 yN=>⟨n1,fun p4 P8=>⟨_,_,(Sub.new P8) _ _ aa,aa,sm (by show ((_:List D)++us.map D.str).length+1≤_;rw[zo,za];show 2+us.length+1≤_;lia),fun p5 WW=>?_⟩⟩⟩
  have OM:gA (lp::o::(us++[rp]))≤26100:=by have:=i_ Tb HU.wt;lia
  have aQ:∀u∈lp::o::(us++[rp]),PyData.strOk u=true:=fun u hu=>by
   simp only [zb,zP,ze,or_false] at hu
   rcases hu with rfl|rfl|hu|rfl
   ·decide +kernel
   ·exact Tc
   ·exact HU.ok u hu
   ·decide +kernel
  obtain⟨j1,_⟩:=gY aQ OM (by decide)
  refine⟨" ",lp::o::(us++[rp]),_,rfl,rfl,?_,j1,S,?_,?_⟩
  ·show _=_
   rw[aa]
   simp only [zF,zT,yg,List.nil_append,List.map_nil]
  ·exact ((((Sub.new fY).trans (.new g6)).trans (.new yN)).trans (.new P8)).trans (.new WW)
  ·rw[show Txt.join " " (lp::o::(us++[rp]))=jn (sW (n+1) (.tup (.str o::rest))) from HU.eq]
   exact q
theorem K_(w:Str)(us:List Str):(("( " : Str)++jn (w::us)) ++ " )" = jn (lp::w::(us++[rp])):=by
 have e1:("( " : Str)=lp ++ " " := by trivial
 have e2:(" )" : Str) = " " ++ rp:=by trivial
 rw[show lp::w::(us++[rp])=lp::((w::us)++[rp]) from rfl,gX (x:=lp) (r:=(w::us)++[rp]) (by simp),qf (a:=w::us) (b:=[rp]) (by simp) (by simp),qe,e1,e2]
 simp only [r_]
theorem dW(T:Txt w K mg t):∀n,Ok P w base T.ar (2+n) (y6 n)
 |0=>by
  refine T.ar.F.jk (k:=1) bh ?_
  rintro _ _ _ _ _ _ ds S R Z hr ⟨cs,d,c,e,h1,_⟩
  exact absurd h1 (by rintro⟨⟩)
 |n+1=>by
  refine T.ar.F.jk (k:=2+n) bh ?_
  rintro _ _ _ _ _ _ ds S R Z hr ⟨cs,d,c0,e,wq,WV,q⟩
  subst e
  have n1:=sm (show 1≤100000 by decide)
  have n2:=sm (show 2≤100000 by decide)
  have n4:=sm (show 4≤100000 by decide)
  obtain⟨o,rest,rfl,Tb,Tc⟩:∃(o:Str) (rest:List D),d=.tup (.str o::rest)∧o.cps.size≤6∧PyData.strOk o=true:=by
   cases wq with
   |fu=>exact⟨_,_,rfl,by trivial,by trivial⟩
   |key _ _=>exact⟨_,_,rfl,by trivial,by trivial⟩
   |col hw _ _ _=>exact⟨_,_,rfl,(qg hw).2,(qg hw).1.2.1⟩
   |not _=>exact⟨_,_,rfl,by trivial,by trivial⟩
   |many hw _ _=>rcases lB hw with rfl|rfl <;> exact⟨_,_,rfl,by trivial,by trivial⟩
  refine⟨_,(sc (dR (i:=1) bh.nd (bA (ac (ix hr.units (dv 0) di) an))) (sc (DL (si (bw qA hr.units (ix hr.units (dv 0) di) (cA (ac ds (ac ds (ac ds (ac ds an)))))) (s1 (dR (i:=1) bh.nd (bo bN hr.units (dv 1) (bA (ac (ix hr.units (dv 0) di) (ac (cf ((ib T).mono (by lia)) hr T.bq.m T.bq.k T.bq.b d0 (ac (ix hr.units (dv 0) di) an)) an)))))) (s1 (si (bw bB hr.units (ix hr.units (dv 0) di) ds) (s1 (dR (i:=1) bh.nd (bo bN hr.units (dv 1) (ct xq T.xX sE (ac (ix hr.units (dv 0) di) an))))) (s1 (si (bw bB hr.units (ix hr.units (dv 0) di) ds) (s1 (se (bm zJ zY zZ cB (dv 1) (ac (cf ((dW T n).mono (by lia)) hr T.ar.m T.ar.k T.ar.b d0 (ac (ix hr.units (dv 0) di) an)) an)))) (s1 (si (bw eW hr.units (ix hr.units (dv 0) di) ds) (s1 (dR (i:=1) bh.nd (bo bN hr.units (dv 1) (lW (N:=["_law_one"]) (src:=[none]) (kr (ae c_) ["_law_sieve_here","_law_words"] rfl rfl (by trivial)) (wJ (ix hr.units (dv 0) di)) (nT (show (["_law_one"]:List Str).Nodup by trivial)) (aM rfl) aN (fun _ _ _ _ _=>lH) (fun _ _ _ _ _=>(cf ((dW T n).mono (by lia)) hr T.ar.m T.ar.k T.ar.b d0 (ac (dv 0) an))))))) s0)))))))) (s1 (sr (bo bN hr.units (bo bN hr.units ds (bm zH ya yb gE ds (ac (dv 1) an))) ds))))),?_⟩
  refine⟨_,rfl,_,b_ _ _,n1,fun p hp=>?_⟩
  have b1:Sub S (S.set p (.lst [.str o])):=.new hp
  have v1:(S.set p (.lst [.str o])) p=some (.lst [.str o]):=aa
  generalize S.set p (.lst [.str o])=S1 at b1 v1 ⊢
  refine⟨fun aA S'=>∃(a:Addr) (us:List Str),aA=[some (.tup (.str o::rest)),some (.ref a)]∧Sub S S'∧S' a=some (.lst ((o::us).map D.str))∧In (n+1) c0 o (.tup (.str o::rest)) us,?_,?_⟩
  ·have lC:jO (.str o::rest) 0=some (.str o):=b_ _ _
   cases wq with
   |fu =>
    exact⟨_,rfl,_,lC,n4,rfl,rfl,_,rfl,ia (by trivial) ⟨_,rfl,_,lC,_,rfl,ia (by trivial) ⟨_,rfl,_,lC,_,rfl,ia (by trivial) ⟨_,rfl,_,lC,_,rfl,ia (by trivial) (fo ⟨p,[],rfl,b1,v1,rfl,fun u h=>(nomatch h),by decide⟩)⟩⟩⟩⟩
   |@key _ ks hk8 y4 =>
    refine⟨_,rfl,_,lC,n4,rfl,rfl,_,rfl,ia (by trivial) ⟨_,rfl,_,lC,_,rfl,wK (by trivial) ?_⟩⟩
    refine⟨_,rfl,_,rfl,_,nM _ _ _,_,_,rfl,.inr rfl,fun p2 g6=>⟨_,_,(Sub.new g6) _ _ v1,aa,sm (by show 1+(ks.map D.str).length≤_;rw[za];lia),fun p3 yN=>?_⟩⟩
    have K9:gA ks≤8 * 13:=zt (m6 (m:=12) fun k hk=>i8 (y4 k hk)) (Nat.mul_le_mul_right _ hk8)
    exact fo ⟨p3,ks,rfl,b1.trans ((Sub.new g6).trans (.new yN)),aa,by rw[yZ],fun u hu=>(mG (y4 u hu)).2.1,by lia⟩
   |@col _ _ a v hw ha hv hf =>
    refine⟨_,rfl,_,lC,n4,rfl,rfl,decide (o∈dQ),congrArg D.bl (p7 o),wK (zk hw) ?_⟩
    refine⟨_,rfl,_,rfl,_,nM _ _ _,_,rfl,_,rfl,v,rfl,hv,n2,fun p2 g6=>⟨_,_,(Sub.new g6) _ _ v1,aa,sm (show 3≤100000 by decide),fun p3 yN=>?_⟩⟩
    have IJ:=pU hv
    have LV:a.cps.size≤8:=by
     unfold bI at ha
     simp only [zg,zi] at ha
     lia
    have OM:=cL LV (cL (us:=[]) (B:=0) IJ.1 (zh _))
    refine fo ⟨p3,[a,cw v],rfl,b1.trans ((Sub.new g6).trans (.new yN)),aa,rfl,fun u hu=>?_,by lia⟩
    simp only [zb,ze,or_false] at hu
    rcases hu with rfl|rfl
    ·exact (ji ha).2.1
    ·exact IJ.2.1
   |@not _ c1 x he =>
    refine⟨_,rfl,_,lC,n4,rfl,rfl,_,rfl,ia (by trivial) ⟨_,rfl,_,lC,_,rfl,ia (by trivial) ⟨_,rfl,_,lC,_,rfl,wK (by trivial) ?_⟩⟩⟩
    refine⟨_,rfl,⟨rfl,_,v1⟩,_,rfl,_,nM _ _ _,cs,x,c1,rfl,he,by lia,p,_,_,rfl,rfl,v1,dM (by decide),?_⟩
    have ON:=(wu he (by lia)).2
    have h1:=uq he.ne
    have h2:=he.sf.wt
    refine fo ⟨p,[jn (sW n x)],rfl,fX b1 hp,aa,?_,fun u hu=>by rw[zz.mp hu];exact ON.2,?_⟩
    ·rw[y3]
     have:=uh (a:=[lp, "not"]) (c:=[rp]) (L:=[sW n x]) (fun b hb=>by rw[zz.mp hb];exact he.ne) (by simp)
     rw[List.flatten_cons,List.flatten_nil,zR] at this
     exact this
    ·have:gA [jn (sW n x)]=(jn (sW n x)).length+1:=by unfold gA;simp
     lia
   |@many _ c1 _ es hw nI h8 =>
    obtain⟨a1,a2,a3,a4⟩:o∉dQ∧o ≠ "key" ∧ o ≠ "not" ∧ o ≠ "every" := by
     rcases lB hw with rfl|rfl <;> exact⟨by trivial,by trivial,by trivial,by trivial⟩
    refine⟨_,rfl,_,lC,n4,rfl,rfl,decide (o∈dQ),congrArg D.bl (p7 o),ia (zp a1) ⟨_,rfl,_,lC,_,rfl,ia (zp a2) ⟨_,rfl,_,lC,_,rfl,ia (zp a3) ⟨_,rfl,_,lC,_,rfl,wK (by show (!decide (o = "every"))=true;rw[zp a4];rfl) ?_⟩⟩⟩⟩
    refine⟨_,rfl,_,rfl,_,nM _ _ _,_,.inl rfl,?_⟩
    refine comp_map (fun e=>.str (jn (sW n e))) trivial (by show es.length≤_;lia) (fun e he Q hQ=>?_) fun p2 g6=>?_
    ·obtain⟨c2,h2,h3⟩:=nI.mem he
     exact⟨_,rfl,cs,e,c2,rfl,h2,by lia,hQ⟩
    have h1:=nI.S_
    have h2:=nI.sf.wt
    refine⟨_,_,(Sub.new g6) _ _ v1,aa,sm (by show 1+(es.map _).length≤_;rw[za];lia),fun p3 yN=>?_⟩
    refine fo ⟨p3,es.map fun e=>jn (sW n e),rfl,b1.trans ((Sub.new g6).trans (.new yN)),?_,?_,fun u hu=>?_,by lia⟩
    ·rw[aa,zF,zC];rfl
    ·rw[uk n hw]
     have:=uh (a:=[lp,o]) (c:=[rp]) (L:=es.map (sW n)) nI.ne (by simp)
     rw[zC,← List.flatMap_def] at this
     exact this
    ·obtain⟨e,he,rfl⟩:=zq.mp hu
     obtain⟨c2,h2,h3⟩:=nI.mem he
     exact (wu h2 (by lia)).2.2
  ·rintro aA S' ⟨a,us,rfl,sb,HU,Gu⟩
   have YS:=Gu.wt
   have WX:gA (o::us)≤26050:=by have:=cL Tb Gu.wt;lia
   have aQ:∀u∈o::us,PyData.strOk u=true:=z0.mpr ⟨Tc,Gu.ok⟩
   obtain⟨j1,j2⟩:=gY aQ WX (by decide)
   have YT:(Txt.join " " (o::us)).length≤26050:=j2.1
   have t1:Tx 2 ("( " : Str):=⟨by trivial,by trivial⟩
   refine⟨rfl,_,rfl, " ",o::us,_,rfl,rfl,HU,j1,sm (by show 2+_≤_;lia),sm (by have h:=(t1.app j2).1;show (("( " : Str)++jn (o::us)).cps.size+2≤_;lia),S,sb,?_⟩
   rw[show (("( " : Str)++Txt.join " " (o::us)) ++ " )" = jn (sW (n+1) (.tup (.str o::rest))) from (K_ o us).trans Gu.eq]
   exact q
structure Rr(cs:List (Str×Str))(k:Str)(vs:List D):Prop where
 key:fq k=true
 FE:∀v∈vs,vS v
 fit:kY cs (.tup vs)=true
 len:vs.length≤8
def cy(k:Str)(vs:List D):List Str:=k::vs.map cw
def qj(k:Str)(vs:List D):D:=.tup [.str k,.tup vs]
theorem Rr.words(h:Rr cs k vs):∀u∈cy k vs,Wf u:=z0.mpr ⟨mG h.key,fun u hu=>by
 obtain⟨v,hv,rfl⟩:=zq.mp hu
 exact pU (h.FE v hv)⟩
theorem AX(h:∀u∈us,Wf u)(hl:us.length≤100):JoinOk " " us=true∧Tx 9100 (jn us):=by
 have h1:=m6 (m:=90) fun u hu=>(h u hu).1
 have:us.length * (90+1)≤100 * 91:=Nat.mul_le_mul_right _ hl
 exact gY (fun u hu=>(h u hu).2.1) (B:=9100) (by lia) (by decide)
theorem Rr.go(h:Rr cs k vs):JoinOk " " (cy k vs)=true∧Tx 9100 (jn (cy k vs)):=AX h.words (by have:=h.len;show (vs.map cw).length+1≤_;rw[za];lia)
def eC(cs:List (Str×Str)):List Str:=cs.flatMap fun c=>[c.1,c.2]
theorem HD{z:Str}(h:z = "number" ∨ z = "word"):Wf z:=by
 rcases h with rfl|rfl
 ·exact⟨by trivial,by trivial,by trivial⟩
 ·exact⟨by trivial,by trivial,by trivial⟩
theorem gZ{cs:List (Str×Str)}(hg:Gd cs):∀u∈eC cs,Wf u:=fun u hu=>by
 obtain⟨c,hc,hu⟩:=yh.mp hu
 simp only [zb,ze,or_false] at hu
 obtain⟨a,b⟩:=hg.2.2 c hc
 rcases hu with rfl|rfl
 ·exact ji a
 ·exact HD b
theorem qk:∀cs:List (Str×Str),(eC cs).length=2 * cs.length
 |[]=>rfl
 |c::cs=>by
  show ([c.1,c.2]++eC cs).length=_
  rw[zo,qk cs,zf (a:=c)];show 2+2 * cs.length=_;lia
theorem gz(hg:Gd cs)(h:jq cs ps wy=true):(∀u∈cG ps wy,Wf u)∧ps.length≤8∧jo wy=true∧∀p∈ps,bI p.1=true∧LP p∧jo p.2.1=true∧nK p.2.2=true:=by
 unfold jq at h
 simp only [zg,zi,zI] at h
 obtain⟨h8,hp,_,hw⟩:=h
 have UK:∀p∈ps,bI p.1=true∧LP p∧jo p.2.1=true∧nK p.2.2=true:=fun p hm=>HA hg (hp p hm)
 refine⟨fun u hu=>?_,h8,hw,UK⟩
 unfold cG at hu
 rcases zP.mp hu with hu|hu
 ·obtain⟨p,hm,hu⟩:=yh.mp hu
  obtain⟨a,_,b,c⟩:=UK p hm
  unfold aG at hu
  simp only [zb,ze,or_false] at hu
  rcases hu with rfl|rfl|rfl
  ·exact ji a
  ·exact yU b
  ·exact K2 c
 ·simp only [zb,ze,or_false] at hu
  rcases hu with rfl|rfl
  ·exact⟨by trivial,by trivial,by trivial⟩
  ·exact yU hw
theorem Fm(hg:Gd cs)(h:jq cs ps wy=true):JoinOk " " (cG ps wy)=true∧Tx 9100 (jn (cG ps wy)):=by
 obtain⟨h1,h2,_⟩:=gz hg h
 refine AX h1 ?_
 unfold cG
 rw[zo,pw_len]
 show _+2≤_
 lia
theorem HE(hg:Gd cs):JoinOk " " (eC cs)=true∧Tx 9100 (jn (eC cs)):=AX (gZ hg) (by rw[qk];have:=hg.1;lia)
def OO:jd:=fun ds S R _=>∃cs k vs,ds=[qj k vs]∧Rr cs k vs∧R (.str (jn (cy k vs))) S
theorem m8(T:Txt w K mg t):Ok P w base T.eA 2 OO:=by
 refine T.eA.F.jk vL ?_
 rintro _ _ _ _ _ _ ds S R Z hr ⟨cs,k,vs,e,h,q⟩
 subst e
 have n1:=sm (show 1≤100000 by decide)
 have h8:=h.len
 refine⟨_,(s1 (sr (bm zH ya yb gE ds (ac (bo bN hr.units (bA (ac (ix hr.units (dv 0) di) an)) (lW (N:=["value"]) (src:=[none]) (kr (ae gJ) ["row"] rfl rfl (by trivial)) (wJ (ix hr.units (dv 0) di)) (nT (show (["value"]:List Str).Nodup by trivial)) (aM rfl) aN (fun _ _ _ _ _=>lH) (fun _ _ _ _ _=>(cf ((fV T).mono (by decide)) hr T.bc.m T.bc.k T.bc.b d0 (ac (dv 0) an))))) an)))),?_⟩
 refine⟨rfl,_,rfl,_,b_ _ _,n1,fun p1 fY=>⟨_,rfl,_,nM _ _ _,_,.inl rfl,?_⟩⟩
 refine comp_map (fun v=>.str (cw v)) trivial (by show vs.length≤_;lia) (fun v hv Q hQ=>⟨_,rfl,v,rfl,h.FE v hv,hQ⟩) fun p2 g6=>?_
 refine⟨_,_,(Sub.new g6) _ _ aa,aa,sm (by show 1+(vs.map _).length≤_;rw[za];lia),fun p3 yN=>?_⟩
 refine⟨" ",cy k vs,_,rfl,rfl,?_,h.go.1,S,((Sub.new fY).trans (.new g6)).trans (.new yN),q⟩
 show _=_
 rw[aa]
 unfold cy
 rw[zF,zC];rfl
theorem m9(T:Txt w K mg t):Ok P w base T.bS 2 OO:=by
 refine T.bS.F.jk qS ?_
 rintro _ _ _ _ _ _ ds S R Z hr ⟨cs,k,vs,e,h,q⟩
 subst e
 have n1:=sm (show 1≤100000 by decide)
 have h8:=h.len
 refine⟨_,(s1 (sr (bm zH ya yb gE ds (ac (bo bN hr.units (bA (ac (ix hr.units (dv 0) di) an)) (lW (N:=["_law_value_here"]) (src:=[none]) (kr (ae eQ) ["_law_row"] rfl rfl (by trivial)) (wJ (ix hr.units (dv 0) di)) (nT (show (["_law_value_here"]:List Str).Nodup by trivial)) (aM rfl) aN (fun _ _ _ _ _=>lH) (fun _ _ _ _ _=>(cf ((ib T).mono (by decide)) hr T.bq.m T.bq.k T.bq.b d0 (ac (dv 0) an))))) an)))),?_⟩
 refine⟨rfl,_,rfl,_,b_ _ _,n1,fun p1 fY=>⟨_,rfl,_,nM _ _ _,_,.inl rfl,?_⟩⟩
 refine comp_map (fun v=>.str (cw v)) trivial (by show vs.length≤_;lia) (fun v hv Q hQ=>⟨_,rfl,v,rfl,h.FE v hv,hQ⟩) fun p2 g6=>?_
 refine⟨_,_,(Sub.new g6) _ _ aa,aa,sm (by show 1+(vs.map _).length≤_;rw[za];lia),fun p3 yN=>?_⟩
 refine⟨" ",cy k vs,_,rfl,rfl,?_,h.go.1,S,((Sub.new fY).trans (.new g6)).trans (.new yN),q⟩
 show _=_
 rw[aa]
 unfold cy
 rw[zF,zC];rfl
def OP:jd:=fun ds S R _=>∃cs ps wy,ds=[.tup [.tup (ps.map p3),.str wy]]∧Gd cs∧jq cs ps wy=true∧R (.str (jn (cG ps wy))) S
theorem q8(T:Txt w K mg t):Ok P w base T.fe 2 OP:=by
 refine T.fe.F.jk qQ ?_
 rintro _ _ _ _ _ _ ds S R Z hr ⟨cs,ps,wy,e,hg,h,q⟩
 subst e
 refine⟨_,(s1 (sr (bm zH ya yb gE ds (ac (cf ((p_ T).mono (by decide)) hr T.el.m T.el.k T.el.b d0 (ac (dv 0) an)) an)))),?_⟩
 exact⟨rfl,_,rfl,ps,wy,rfl,(gz hg h).2.1,fun p hp=>⟨" ",cG ps wy,_,rfl,rfl,aa,(Fm hg h).1,S,.new hp,q⟩⟩
theorem HF(p:Str×Str×Str):aG p≠[]:=by unfold aG;simp
theorem jJ(T:Txt w K mg t):Ok P w base T.br 1 OP:=by
 refine T.br.F.jk nH ?_
 rintro _ _ _ _ _ _ ds S R Z hr ⟨cs,ps,wy,e,hg,h,q⟩
 subst e
 obtain⟨hw,h8,IG,OE⟩:=gz hg h
 have UL:∀p∈ps,JoinOk " " (aG p)=true∧Tx 9100 (jn (aG p)):=fun p hp=>AX (fun u hu=>hw u (yf _ (yh.mpr ⟨p,hp,hu⟩))) (by unfold aG;show 3≤100;decide)
 refine⟨_,(s1 (sr (bm zH ya yb gE ds (ac (bo bN hr.units (lW (N:=["_law_part"]) (src:=[none]) (kr (ae de) ["_law_order_here"] rfl rfl (by trivial)) (wJ (ix hr.units (dv 0) di)) (nT (show (["_law_part"]:List Str).Nodup by trivial)) (aM rfl) aN (fun _ _ _ _ _=>lH) (fun _ _ _ _ _=>(bm zH ya yb Az ds (ac (dv 0) an)))) (bA (ac ds (ac (ix hr.units (dv 0) di) an)))) an)))),?_⟩
 refine⟨rfl,_,rfl,_,b_ _ _,_,.inl rfl,?_⟩
 refine comp_map (fun d=>.str (jn (fM d))) trivial (by show (ps.map p3).length≤_;rw[za];lia) (fun d hd Q hQ=>?_) fun p1 fY=>?_
 ·obtain⟨p,hp,rfl⟩:=zq.mp hd
  have e:fM (p3 p)=aG p:=rfl
  have hz:((aG p).map (·.length)).sum+(aG p).length * 64≤16777216:=by
   have:=m6 (m:=90) (us:=aG p) fun u hu=>(hw u (yf _ (yh.mpr ⟨p,hp,hu⟩))).1
   unfold gA at this
   have e3:(aG p).length=3:=rfl
   rw[e3] at this ⊢
   lia
  rw[e] at hQ
  exact⟨rfl,_,rfl, " ",aG p,_,rfl,rfl,rfl,by trivial,hz,hQ⟩
 ·have em:(ps.map p3).map (fun d=>D.str (jn (fM d)))=((ps.map aG).map jn).map D.str:=by
   rw[zC,zC,zC];rfl
  refine⟨_,rfl,_,nM _ _ _,sm (show 2≤100000 by decide),fun p2 g6=>⟨_,_,(Sub.new g6) _ _ aa,aa,sm (by show ((ps.map p3).map _).length+2≤_;rw[za,za];lia),fun p4 P8=>?_⟩⟩
  have BO:∀b∈ps.map aG,b≠[]:=fun b hb=>by
   obtain⟨p,_,rfl⟩:=zq.mp hb
   exact HF p
  have ej:=(nX (c:=["key",wy]) BO).2
  rw[← List.flatMap_def] at ej
  have WY:∀u∈(ps.map aG).map jn++(["key",wy]:List Str),PyData.strOk u=true:=fun u hu=>by
   rcases zP.mp hu with hu|hu
   ·obtain⟨b,hb,rfl⟩:=zq.mp hu
    obtain⟨p,hp,rfl⟩:=zq.mp hb
    exact (UL p hp).2.2
   ·exact (hw u (zL _ hu)).2.1
  have OM:gA ((ps.map aG).map jn++(["key",wy]:List Str))≤95000:=by
   have h1:=m6 (m:=9100) (us:=(ps.map aG).map jn++(["key",wy]:List Str)) fun u hu=>by
    rcases zP.mp hu with hu|hu
    ·obtain⟨b,hb,rfl⟩:=zq.mp hu
     obtain⟨p,hp,rfl⟩:=zq.mp hb
     exact (UL p hp).2.1
    ·exact zt (hw u (zL _ hu)).1 (by decide)
   have h2:((ps.map aG).map jn++(["key",wy]:List Str)).length=ps.length+2:=by rw[zo,za,za];rfl
   rw[h2] at h1
   have:(ps.length+2) * (9100+1)≤10 * 9101:=Nat.mul_le_mul_right _ (by lia)
   lia
  obtain⟨j1,_⟩:=gY WY OM (by decide)
  refine⟨" ",(ps.map aG).map jn++(["key",wy]:List Str),_,rfl,rfl,?_,j1,S,((Sub.new fY).trans (.new g6)).trans (.new P8),?_⟩
  ·show _=_
   rw[aa,zT]
   show some (Ce.lst ((ps.map p3).map (fun d=>D.str (jn (fM d)))++_))=_
   rw[em];rfl
  ·rw[show Txt.join " " ((ps.map aG).map jn++(["key",wy]:List Str))=jn (cG ps wy) from ej]
   exact q
def OQ:jd:=fun ds S R _=>∃cs,ds=[.tup (cs.map aq)]∧Gd cs∧R (.str (jn (eC cs))) S
theorem y7(hg:Gd cs)(hc:c∈cs):c.1.cps.size≤90∧c.2.cps.size≤90∧Tx 182 (jn [c.1,c.2]):=by
 have h:=gZ hg
 have h1:=h c.1 (yh.mpr ⟨c,hc,by simp⟩)
 have h2:=h c.2 (yh.mpr ⟨c,hc,by simp⟩)
 refine⟨h1.1,h2.1,(gY (us:=[c.1,c.2]) (B:=182) (fun u hu=>?_) ?_ (by decide)).2⟩
 ·simp only [zb,ze,or_false] at hu
  rcases hu with rfl|rfl
  ·exact h1.2.1
  ·exact h2.2.1
 ·exact cL h1.1 (cL (us:=[]) (B:=0) h2.1 (zh _))
theorem wx(hg:Gd cs):JoinOk " " ((cs.map fun c=>[c.1,c.2]).map jn)=true∧jn ((cs.map fun c=>[c.1,c.2]).map jn)=jn (eC cs):=by
 have h8:=hg.1
 have hm:∀u∈(cs.map fun c=>[c.1,c.2]).map jn,Tx 182 u:=fun u hu=>by
  obtain⟨b,hb,rfl⟩:=zq.mp hu
  obtain⟨c,hc,rfl⟩:=zq.mp hb
  exact (y7 hg hc).2.2
 have h1:=m6 (m:=182) fun u hu=>(hm u hu).1
 rw[za,za] at h1
 have h2:cs.length * (182+1)≤8 * 183:=Nat.mul_le_mul_right _ h8
 refine⟨(gY (fun u hu=>(hm u hu).2) (B:=1500) (by lia) (by decide)).1,?_⟩
 have:=(nX (c:=[]) (L:=cs.map fun c=>[c.1,c.2]) fun b hb=>by
  obtain⟨c,_,rfl⟩:=zq.mp hb
  simp).2
 rw[zR,zR,← List.flatMap_def] at this
 exact this
theorem nN(T:Txt w K mg t):Ok P w base T.dh 1 OQ:=by
 refine T.dh.F.jk nF ?_
 rintro _ _ _ _ _ _ ds S R Z hr ⟨cs,e,hg,q⟩
 subst e
 obtain⟨j1,j2⟩:=wx hg
 refine⟨_,(s1 (sr (bm zH ya yb gE ds (ac (lW (N:=["name","kind"]) (src:=[none,none]) (kr (ae cZ) ["columns"] rfl rfl (by trivial)) (wJ (dv 0)) (NQ (show (["name","kind"]:List Str).Nodup by trivial)) (ko rfl rfl) kF (fun _ _ _ _ _=>lH) (fun _ _ _ _ _=>(Wg (dv 0) (dv 1)))) an)))),?_⟩
 refine⟨rfl,_,rfl,_,.inl rfl,?_⟩
 refine comp_map (fun d=>.str (jn (fM d))) trivial (by show (cs.map aq).length≤_;rw[za];have:=hg.1;lia) (fun d hd Q hQ=>?_) fun p1 fY=>?_
 ·obtain⟨c,hc,rfl⟩:=zq.mp hd
  obtain⟨a1,a2,_⟩:=y7 hg hc
  have e:jn (fM (aq c))=(c.1 ++ " ")++c.2:=by
   show jn [c.1,c.2]=_
   rw[gX (by simp),qe]
  rw[e] at hQ
  have l1:(c.1 ++ " ").length=c.1.cps.size+1:=by rw[Str.length_append];rfl
  have l2:((c.1 ++ " ")++c.2).length=(c.1 ++ " ").length+c.2.cps.size:=by rw[Str.length_append];rfl
  exact⟨_,rfl,rfl,_,_,rfl,_,_,rfl,rfl,_,rfl,c.1,rfl,by lia,_,rfl,c.2,rfl,by lia,hQ⟩
 ·refine⟨" ",(cs.map fun c=>[c.1,c.2]).map jn,_,rfl,rfl,?_,j1,S,.new fY,?_⟩
  ·show _=_
   rw[aa]
   show some (Ce.lst ((cs.map aq).map (fun d=>D.str (jn (fM d)))))=_
   rw[zC,zC,zC];rfl
  ·rw[show Txt.join " " ((cs.map fun c=>[c.1,c.2]).map jn)=jn (eC cs) from j2]
   exact q
theorem ic(T:Txt w K mg t):Ok P w base T.aU 1 OQ:=by
 refine T.aU.F.jk kW ?_
 rintro _ _ _ _ _ _ ds S R Z hr ⟨cs,e,hg,q⟩
 subst e
 obtain⟨j1,j2⟩:=wx hg
 refine⟨_,(s1 (sr (bm zH ya yb gE ds (ac (lW (N:=["_law_column"]) (src:=[none]) (kr (ae bY) ["_law_columns_here"] rfl rfl (by trivial)) (wJ (dv 0)) (nT (show (["_law_column"]:List Str).Nodup by trivial)) (aM rfl) aN (fun _ _ _ _ _=>lH) (fun _ _ _ _ _=>(bm zH ya yb Az ds (ac (dv 0) an)))) an)))),?_⟩
 refine⟨rfl,_,rfl,_,.inl rfl,?_⟩
 refine comp_map (fun d=>.str (jn (fM d))) trivial (by show (cs.map aq).length≤_;rw[za];have:=hg.1;lia) (fun d hd Q hQ=>?_) fun p1 fY=>?_
 ·obtain⟨c,hc,rfl⟩:=zq.mp hd
  obtain⟨a1,a2,_⟩:=y7 hg hc
  have e:fM (aq c)=[c.1,c.2]:=rfl
  rw[e] at hQ
  have hz:(([c.1,c.2]:List Str).map (·.length)).sum+([c.1,c.2]:List Str).length * 64≤16777216:=by
   show c.1.length+(c.2.length+0)+2 * 64≤_
   have e1:c.1.length=c.1.cps.size:=rfl
   have e2:c.2.length=c.2.cps.size:=rfl
   lia
  exact⟨rfl,_,rfl, " ",[c.1,c.2],_,rfl,rfl,rfl,by trivial,hz,hQ⟩
 ·refine⟨" ",(cs.map fun c=>[c.1,c.2]).map jn,_,rfl,rfl,?_,j1,S,.new fY,?_⟩
  ·show _=_
   rw[aa]
   show some (Ce.lst ((cs.map aq).map (fun d=>D.str (jn (fM d)))))=_
   rw[zC,zC,zC];rfl
  ·rw[show Txt.join " " ((cs.map fun c=>[c.1,c.2]).map jn)=jn (eC cs) from j2]
   exact q
theorem mH{ws:List Str}(h:ws≠[])(hf:∀u∈ws,Wf u):cW (jn ws)=ws:=xy h fun p hp=>(hf p hp).2.2
theorem La{k:Str}(h:fq k=true):brk [k]=false:=by
 have:=pw_keyz h
 unfold brk
 rw[zp (by simp;exact fun e=>this.1 e.symm),zp (by simp;exact fun e=>this.2 e.symm)];rfl
def Fn:D→D
 |.str z=>bM z
 |_=>.aC
theorem ql{vs:List D}(h:∀v∈vs,vS v):((vs.map cw).map D.str).map Fn=vs:=by
 rw[zC,zC]
 conv=>rhs;rw[← List.map_id vs]
 refine List.map_congr_left fun v hv=>?_
 exact (yY (h v hv)).2
theorem Cy(T:Txt w K mg t):Ok P w base T.pE 5 (fun ds S R _=>∃cs k vs,ds=[.str (jn (cy k vs))]∧Rr cs k vs∧R (qj k vs) S):=by
 refine T.pE.F.jk rR ?_
 rintro _ _ _ _ _ _ ds S R Z hr ⟨cs,k,vs,e,h,q⟩
 subst e
 have h8:=h.len
 have ON:=h.go.2
 have FX:=mH (ws:=cy k vs) (by unfold cy;simp) h.words
 refine⟨_,(sc (dR (i:=1) rR.nd (cf ((fL T).mono (by decide)) hr T.words_of.m T.words_of.k T.words_of.b d0 (ac (dv 0) an))) (sc (se (cf ((ft T).mono (by decide)) hr T.aT.m T.aT.k T.aT.b d0 (ac (sl (dv 1) o0 (o1 di)) an))) (s1 (sr (cA (ac (ix hr.units (dv 1) di) (ac (ct cJ T.aL ax (ac (lW (N:=["word"]) (src:=[none]) (kr (ae kJ) ["text","words"] rfl rfl (by trivial)) (il (sl (dv 1) (o1 di) o0)) (nT (show (["word"]:List Str).Nodup by trivial)) (aM rfl) aN (fun _ _ _ _ _=>lH) (fun _ _ _ _ _=>(cf ((gw T).mono (by decide)) hr T.a_.m T.a_.k T.a_.b d0 (ac (dv 0) an)))) an)) an))))))),?_⟩
 refine⟨_,rfl,.str (jn (cy k vs)),rfl,(ON.le (by decide)).rd,fun z ez p hp=>?_,fun hn=>absurd rfl (hn _)⟩
 cases ez
 rw[FX]
 have hS:(S.set p (.lst ((cy k vs).map D.str))) p=some (.lst ((cy k vs).map D.str)):=aa
 have g0:Sub S (S.set p (.lst ((cy k vs).map D.str))):=.new hp
 generalize S.set p (.lst ((cy k vs).map D.str))=S1 at hS g0 ⊢
 have e1:jR ((cy k vs).map D.str) none (some 1)=([k]:List Str).map D.str:=by
  unfold jR
  rw[HT.sIx_none,show HT.sIx ((cy k vs).map D.str).length ((cy k vs).map D.str).length (some 1)=min 1 ((cy k vs).map D.str).length from HT.sIx_nat _ _ 1,List.drop_zero,Nat.sub_zero]
  unfold cy
  rw[zF,zf,Nat.min_eq_left (by lia)];rfl
 refine⟨_,rfl,_,rfl,_,hS,fun p1 fY=>?_⟩
 rw[e1]
 have g1:=g0.trans (Sub.new (c:=.lst (([k]:List Str).map D.str)) fY)
 have h1:=(Sub.new (c:=.lst (([k]:List Str).map D.str)) fY) _ _ hS
 refine⟨p1,[k],rfl,aa,fun hb=>?_,fun hb=>by rw[La h.key] at hb;cases hb⟩
 generalize S1.set p1 (.lst (([k]:List Str).map D.str))=S2 at g1 h1 ⊢
 refine⟨_,rfl,_,_,h1,b_ _ _,_,rfl,_,rfl,_,h1,fun p2 g6=>⟨_,aa,?_⟩⟩
 rw[AL]
 have g2:=g1.trans (Sub.new (c:=.lst (((cy k vs).map D.str).drop 1)) g6)
 have ed:((cy k vs).map D.str).drop 1=(vs.map cw).map D.str:=rfl
 rw[ed] at g2 ⊢
 refine comp_map Fn aa (by show ((vs.map cw).map D.str).length≤_;rw[za,za];lia) (fun d WZ Q hQ=>?_) fun p3 yN=>?_
 ·obtain⟨u,hu,rfl⟩:=zq.mp WZ
  obtain⟨v,hv,rfl⟩:=zq.mp hu
  have UM:=h.FE v hv
  exact⟨_,rfl,cw v,rfl,zt (pU UM).1 (by decide),fun _ d ht _=>by rw[p6 ht];exact hQ,fun hv=>by rw[show qT (cw v).cps.toList=true from (yY UM).1] at hv;cases hv⟩
 ·refine⟨_,_,rfl,.inl aa,sm (show 2≤100000 by decide),S,g2.trans (.new yN),?_⟩
  show R (.tup [.str k,.tup (((vs.map cw).map D.str).map Fn)]) S
  rw[ql h.FE]
  exact q
def Td:jd:=fun ds S R _=>∃cs k vs,ds=[.tup (cs.map aq),.str (jn (cy k vs))]∧Gd cs∧Rr cs k vs∧R (qj k vs) S
theorem wz(T:Txt w K mg t):Ok P w base T.iP 6 Td:=by
 refine T.iP.F.jk mQ ?_
 rintro _ _ _ _ _ _ ds S R Z hr ⟨cs,k,vs,e,hg,h,q⟩
 subst e
 refine⟨_,(sc (dR (i:=2) mQ.nd (cf ((Cy T).mono (by decide)) hr T.pE.m T.pE.k T.pE.b d0 (ac (dv 1) an))) (sc (se (cf ((ue T).mono (by decide)) hr T.gb.m T.gb.k T.gb.b d0 (ac (dv 0) (ac (dv 2) an)))) (s1 (sr (dv 2))))),?_⟩
 have hk:Gt S (.str k):=gt_str (zt (i8 h.key) (by decide))
 have hv:Ob S (.tup vs):=by
  refine⟨⟨⟨.tup,rfl⟩,fun z e=>by cases e⟩,fun ws e=>?_⟩
  cases e
  refine⟨zt h.len (by decide),fun v hv=>?_⟩
  rcases h.FE v hv with rfl|⟨n,rfl,_⟩|⟨z,rfl,hz⟩
  ·exact⟨⟨.aC,rfl⟩,fun z e=>by cases e⟩
  ·exact⟨⟨.int,rfl⟩,fun z e=>by cases e⟩
  ·exact gt_str (by have:=(dN hz).1;lia)
 have hb:Et cs (.str k) (.tup vs)=true:=by
  unfold Et
  rw[h.fit]
  show (fq k && true)=true
  rw[h.key];rfl
 exact⟨_,rfl,cs,k,vs,rfl,h,_,rfl,_,rfl,cs,.str k,.tup vs,rfl,hg.1,hk,hv,fun _=>⟨_,rfl,fo q⟩,fun hf=>by rw[hb] at hf;cases hf⟩
theorem Fp(a b:Str)(r:List Str):Co (a::b::r)=(a,b)::Co r:=by
 unfold Co
 rw[show (a::b::r).length / 2=r.length / 2+1 by simp only [zf];lia,List.range_succ_eq_map,zF,zC]
 show _::_=_::_
 refine congrArg (List.cons _) (List.map_congr_left fun k _=>?_)
 show ((a::b::r).getD (2 * (k+1)) "",(a::b::r).getD (2 * (k+1)+1) "")=_
 rw[show 2 * (k+1)=2 * k+1+1 by lia]
 rfl
theorem wA:∀cs:List (Str×Str),Co (eC cs)=cs
 |[]=>rfl
 |c::cs=>by
  show Co (c.1::c.2::eC cs)=_
  rw[Fp,wA cs]
theorem Fq{ws:List Str}(h:∀u∈ws,Pw u):brk ws=false:=by
 unfold brk
 rw[zp fun m=>(h _ m).1 rfl,zp fun m=>(h _ m).2 rfl];rfl
theorem pw_kind{z:Str}(h:z = "number" ∨ z = "word"):Pw z:=by rcases h with rfl|rfl <;> constructor <;> decide +kernel
theorem pw_way{z:Str}(h:jo z=true):Pw z:=by
 unfold jo at h
 rw[ye,zi,zi] at h
 rcases h with rfl|rfl <;> constructor <;> decide +kernel
theorem pw_end{z:Str}(h:nK z=true):Pw z:=by
 unfold nK at h
 rw[ye,zi,zi] at h
 rcases h with rfl|rfl <;> constructor <;> decide +kernel
theorem uu{cs:List (Str×Str)}(hg:Gd cs):cI (.str (jn (eC cs)))=some cs:=by
 cases cs with
 |nil=>decide +kernel
 |cons c cs =>
  have hs:=mH (ws:=eC (c::cs)) (by show c.1::c.2::eC cs≠[];simp) (gZ hg)
  unfold cI
  dsimp only
  rw[hs,if_neg (by show ¬ (c.1::c.2::eC cs)=_;simp)]
  have hb:brk (eC (c::cs))=false:=Fq fun u hu=>by
   obtain⟨x,hx,hu⟩:=yh.mp hu
   simp only [zb,ze,or_false] at hu
   obtain⟨a,b⟩:=hg.2.2 x hx
   rcases hu with rfl|rfl
   ·exact pw_name a
   ·exact pw_kind b
  rw[hb,zk (by rw[qk];lia),if_pos (by decide),wA]
theorem Cz(ps:List (Str×Str×Str))(wy:Str):lg (cG ps wy)=wy:=by
 unfold lg cG
 rw[zo]
 show (ps.flatMap aG++(["key",wy]:List Str)).getD ((ps.flatMap aG).length+2 - 1) "" = _
 rw[zU,List.getElem?_append_right (by lia),show (ps.flatMap aG).length+2 - 1 - (ps.flatMap aG).length=1 by lia]
 rfl
theorem uv(hg:Gd cs)(h:jq cs ps wy=true):oI (.str (jn (cG ps wy)))=some (cG ps wy):=by
 obtain⟨hw,h8,IG,OE⟩:=gz hg h
 have hl:(cG ps wy).length=3 * ps.length+2:=by unfold cG;rw[zo,pw_len];rfl
 have hs:=mH (ws:=cG ps wy) (by intro e;rw[e] at hl;simp only [List.length_nil] at hl;lia) hw
 unfold oI
 dsimp only
 rw[hs,if_pos]
 unfold CJ
 have hb:brk (cG ps wy)=false:=Fq fun u hu=>by
  unfold cG at hu
  rcases zP.mp hu with hu|hu
  ·obtain⟨p,hm,hu⟩:=yh.mp hu
   obtain⟨a,_,b,c⟩:=OE p hm
   unfold aG at hu
   simp only [zb,ze,or_false] at hu
   rcases hu with rfl|rfl|rfl
   ·exact pw_name a
   ·exact pw_way b
   ·exact pw_end c
  ·simp only [zb,ze,or_false] at hu
   rcases hu with rfl|rfl
   ·exact pw_key
   ·exact pw_way IG
 have hk:(cG ps wy).getD ((cG ps wy).length - 2) "" = "key" := by
  unfold cG
  rw[zo]
  show (ps.flatMap aG++(["key",wy]:List Str)).getD ((ps.flatMap aG).length+2 - 2) "" = _
  rw[zU,List.getElem?_append_right (by lia),show (ps.flatMap aG).length+2 - 2 - (ps.flatMap aG).length=0 by lia]
  rfl
 rw[hb,zk hk,zk (by rw[hl];lia)];rfl
theorem AY:∀{n:Nat}{d:D},yW cs n d=true→yW cs (n+1) d=true
 |0,d,h=>by cases h
 |n+1,d,h=>by
  have h:(fU cs d && (subs d).all (yW cs n))=true:=h
  rw[zg,zI] at h
  show (fU cs d && (subs d).all (yW cs (n+1)))=true
  rw[h.1,zA,zI]
  exact fun e he=>AY (h.2 e he)
theorem OR(h:yW cs n d=true)(hl:n≤m):yW cs m d=true:=by
 induction hl with
 |refl=>exact h
 |step _ ih=>exact AY ih
theorem uw(h:Sr cs n c d)(hn:n≤8)(hc:c≤200):cg mZ bM (cW (jn (sW n d)))=some d∧Ck cs 8 0 [d]=true:=by
 have i:=h.sf
 rw[mH i.wr.ne i.wf]
 refine⟨(vZ EX).mpr i.wr,(K5 cs i.wr).mpr ⟨?_,zt i.cnt hc,?_⟩⟩
 ·have:=i.md;lia
 ·exact OR i.rt hn
def Lb(n:Nat):jd:=fun ds S R _=>∃d,ds=[d]∧Pl n d∧R (.bl true) S
theorem wB(T:Txt w K mg t):∀n,Ok P w base T.aO (1+n) (Lb n)
 |0=>by
  have cU:Ok P w base T.aO 0 (fun _ _ _ _=>False):=⟨by rintro _ _ _ _ ⟨_,_,_,_,_,_,z,_⟩;exact z.elim,by rintro _ _ _ _ _ _ _ _ _ _ _ _ _ ⟨_,_,_,_,_,_,z,_⟩;exact z.elim⟩
  refine T.aO.F.jk (k:=0) pJ ?_
  rintro _ _ _ _ _ _ ds S R Z hr ⟨d,e,h,q⟩
  subst e
  have n2:=sm (show 2≤100000 by decide)
  refine⟨_,(sc (si (tv (cb bx T.aj ah (ac (dv 0) (ac (jw T.aL ax) an)))) (s1 (sr (cb f6 T.gm dD (ac (lW (N:=["_law_one"]) (src:=[none]) (kr (ae f9) ["_law_thing"] rfl rfl (by trivial)) (wJ (dv 0)) (nT (show (["_law_one"]:List Str).Nodup by trivial)) (aM rfl) aN (fun _ _ _ _ _=>lH) (fun _ _ _ _ _=>(cf (cU.mono (by lia)) hr T.aO.m T.aO.k T.aO.b d0 (ac (dv 0) an)))) an)))) s0) (s1 (sr (RA (cm xp hr.units (dv 0) dn) (wH (kA (cb D5 T.aj ah (ac (dv 0) (ac (cA (ac (jw T.eJ cq) (ac (jw T.rQ lQ) an))) an))) (wH (Ki (cb bx T.aj ah (ac (dv 0) (ac (jw T.xW sD) an))))))))))),?_⟩
  rcases h with rfl|⟨i,rfl⟩|⟨z,rfl⟩
  ·exact⟨_,rfl,_,_,.aC,_,rfl,aI,rfl,_,rfl,ay ⟨_,rfl,_,rfl,aZ (fo q)⟩⟩
  ·exact⟨_,rfl,_,_,.int,_,rfl,aI,rfl,_,rfl,ay ⟨_,rfl,_,rfl,ay ⟨_,rfl,n2,_,rfl,.inl ⟨i,rfl⟩,_,rfl,aZ ⟨_,rfl,_,_,.int,_,rfl,iy,rfl,_,rfl,fo q⟩⟩⟩⟩
  ·exact⟨_,rfl,_,_,.str,_,rfl,aI,rfl,_,rfl,ay ⟨_,rfl,_,rfl,ay ⟨_,rfl,n2,_,rfl,.inr ⟨z,rfl⟩,_,rfl,aZ ⟨_,rfl,_,_,.str,_,rfl,iy,rfl,_,rfl,fo q⟩⟩⟩⟩
 |n+1=>by
  have cU:Ok P w base T.aO (1+n) (Lb n):=wB T n
  refine T.aO.F.jk (k:=1+n) pJ ?_
  rintro _ _ _ _ _ _ ds S R Z hr ⟨d,e,h,q⟩
  subst e
  have n2:=sm (show 2≤100000 by decide)
  refine⟨_,(sc (si (tv (cb bx T.aj ah (ac (dv 0) (ac (jw T.aL ax) an)))) (s1 (sr (cb f6 T.gm dD (ac (lW (N:=["_law_one"]) (src:=[none]) (kr (ae f9) ["_law_thing"] rfl rfl (by trivial)) (wJ (dv 0)) (nT (show (["_law_one"]:List Str).Nodup by trivial)) (aM rfl) aN (fun _ _ _ _ _=>lH) (fun _ _ _ _ _=>(cf (cU.mono (by lia)) hr T.aO.m T.aO.k T.aO.b d0 (ac (dv 0) an)))) an)))) s0) (s1 (sr (RA (cm xp hr.units (dv 0) dn) (wH (kA (cb D5 T.aj ah (ac (dv 0) (ac (cA (ac (jw T.eJ cq) (ac (jw T.rQ lQ) an))) an))) (wH (Ki (cb bx T.aj ah (ac (dv 0) (ac (jw T.xW sD) an))))))))))),?_⟩
  rcases h with (rfl|⟨i,rfl⟩|⟨z,rfl⟩)|⟨ds,rfl,hl,LB⟩
  ·exact⟨_,rfl,_,_,.aC,_,rfl,aI,rfl,_,rfl,ay ⟨_,rfl,_,rfl,aZ (fo q)⟩⟩
  ·exact⟨_,rfl,_,_,.int,_,rfl,aI,rfl,_,rfl,ay ⟨_,rfl,_,rfl,ay ⟨_,rfl,n2,_,rfl,.inl ⟨i,rfl⟩,_,rfl,aZ ⟨_,rfl,_,_,.int,_,rfl,iy,rfl,_,rfl,fo q⟩⟩⟩⟩
  ·exact⟨_,rfl,_,_,.str,_,rfl,aI,rfl,_,rfl,ay ⟨_,rfl,_,rfl,ay ⟨_,rfl,n2,_,rfl,.inr ⟨z,rfl⟩,_,rfl,aZ ⟨_,rfl,_,_,.str,_,rfl,iy,rfl,_,rfl,fo q⟩⟩⟩⟩
  ·refine⟨_,rfl,_,_,.tup,_,rfl,aI,rfl,_,rfl,aZ ⟨_,rfl,_,.inl rfl,?_⟩⟩
   refine comp_map (fun _=>.bl true) trivial (by show ds.length≤_;lia) (fun e he Q hQ=>⟨_,rfl,e,rfl,LB e he,hQ⟩) fun p hp=>?_
   have e2:ds.map (fun _=>D.bl true)=(ds.map fun _=>true).map D.bl:=by rw[zC];rfl
   refine⟨.ref p,ds.map fun _=>true,rfl,?_,S,.new hp,?_⟩
   ·rw[← e2];exact aa
   ·rw[show (ds.map fun _=>true).all id=true by rw[List.all_map];exact zI.mpr fun _ _=>rfl]
    exact q
theorem mI{P:Program}{w:World}{K:Frag}{mg:Str→Option Value}{base:Heap}{k N:Nat}{f:Addr}{fd:FuncData}{ps:List Str}{sp:Nat→jd}(F:∀n,n≤N→cM P w K mg base (kz P w) k f fd ps (xr K (sp n))) :
  cM P w K mg base (kz P w) k f fd ps (xr K fun ds S R Z=>∃n,n≤N∧sp n ds S R Z) :=
 ⟨by rintro vs H Q E ⟨ds,S,R,Z,a,b,⟨n,hn,h⟩,c,d⟩;exact (F n hn).len vs H Q E ⟨ds,S,R,Z,a,b,h,c,d⟩,by rintro A outer s H args us vs Q E hr he hb hv ⟨ds,S,R,Z,a,b,⟨n,hn,h⟩,c,d⟩;exact (F n hn).run A outer s H args us vs Q E hr he hb hv ⟨ds,S,R,Z,a,b,h,c,d⟩⟩
theorem AZ(h:∃p,Pz n d p)(hn:n≤64):Ly S 64 d:=by
 obtain⟨p,hp⟩:=h
 obtain⟨a,b,c⟩:=AW (S:=S) n d p hp
 exact⟨p,a,b,zt c hn⟩
theorem IL(a:Str):(if true=true then !decide (a=a) else decide (a=a))=false:=by rw[if_pos rfl,zk rfl];rfl
theorem IM(a:Str):(if false=true then !decide (a=a) else decide (a=a))=true:=by rw[if_neg (by decide),zk rfl]
theorem Rr.pz(h:Rr cs k vs):(∃p,Pz 2 (qj k vs) p)∧Pl 2 (qj k vs):=by
 refine⟨cQ (n:=1) fun d hd=>?_,.inr ⟨_,rfl,(show 2≤1000 by decide),fun d hd=>?_⟩⟩
 ·simp only [zb,ze,or_false] at hd
  rcases hd with rfl|rfl
  ·exact du (mG h.key).2.1
  ·exact cQ (n:=0) fun v hv=>Fe (Fj (h.FE v hv))
 ·simp only [zb,ze,or_false] at hd
  rcases hd with rfl|rfl
  ·exact dw _
  ·exact .inr ⟨_,rfl,zt h.len (by decide),fun v hv=>Fh (h.FE v hv)⟩
theorem Ld(hg:Gd cs)(h:jq cs ps wy=true):(∃p,Pz 3 (.tup [.tup (ps.map p3),.str wy]) p)∧Pl 3 (.tup [.tup (ps.map p3),.str wy]):=by
 obtain⟨hw,h8,IG,OE⟩:=gz hg h
 have EY:∀p∈ps,∀u∈aG p,PyData.strOk u=true:=fun p hp u hu=>(hw u (yf _ (yh.mpr ⟨p,hp,hu⟩))).2.1
 refine⟨cQ (n:=2) fun d hd=>?_,.inr ⟨_,rfl,(show 2≤1000 by decide),fun d hd=>?_⟩⟩
 ·simp only [zb,ze,or_false] at hd
  rcases hd with rfl|rfl
  ·refine cQ (n:=1) fun d hd=>?_
   obtain⟨p,hp,rfl⟩:=zq.mp hd
   refine cQ (n:=0) fun d hd=>?_
   simp only [zb,ze,or_false] at hd
   rcases hd with rfl|rfl|rfl
   ·exact du (EY p hp _ (by unfold aG;simp))
   ·exact du (EY p hp _ (by unfold aG;simp))
   ·exact du (EY p hp _ (by unfold aG;simp))
  ·exact du (yU IG).2.1
 ·simp only [zb,ze,or_false] at hd
  rcases hd with rfl|rfl
  ·refine .inr ⟨_,rfl,by rw[za];lia,fun d hd=>?_⟩
   obtain⟨p,hp,rfl⟩:=zq.mp hd
   refine .inr ⟨_,rfl,(show 3≤1000 by decide),fun d hd=>?_⟩
   simp only [zb,ze,or_false] at hd
   rcases hd with rfl|rfl|rfl
   ·exact dw _
   ·exact dw _
   ·exact dw _
  ·exact dw _
theorem HG(hg:Gd cs):(∃p,Pz 2 (.tup (cs.map aq)) p)∧Pl 2 (.tup (cs.map aq)):=by
 have hw:=gZ hg
 refine⟨cQ (n:=1) fun d hd=>?_,.inr ⟨_,rfl,by rw[za];have:=hg.1;lia,fun d hd=>?_⟩⟩
 ·obtain⟨c,hc,rfl⟩:=zq.mp hd
  refine cQ (n:=0) fun d hd=>?_
  simp only [zb,ze,or_false] at hd
  rcases hd with rfl|rfl
  ·exact du (hw _ (yh.mpr ⟨c,hc,by simp⟩)).2.1
  ·exact du (hw _ (yh.mpr ⟨c,hc,by simp⟩)).2.1
 ·obtain⟨c,hc,rfl⟩:=zq.mp hd
  refine .inr ⟨_,rfl,(show 2≤1000 by decide),fun d hd=>?_⟩
  simp only [zb,ze,or_false] at hd
  rcases hd with rfl|rfl
  ·exact dw _
  ·exact dw _
structure Dr(cs:List (Str×Str))(k:Str)(vs:List D)(ps:List (Str×Str×Str))(wy:Str)(n c:Nat)(d:D):Prop where
 g:Gd cs
 r:Rr cs k vs
 o:jq cs ps wy=true
 s:Sr cs n c d
 n8:n≤8
 c2:c≤200
def OS:jd:=fun ds S R _=>∃cs k vs ps wy n c d,ds=[.tup (cs.map aq),qj k vs,.tup [.tup (ps.map p3),.str wy],d]∧Dr cs k vs ps wy n c d∧R (.bl true) S
theorem y8(T:Txt w K mg t):Ok P w base T.gk 18 OS:=by
 have cj:Ok P w base T.az 17 (fun ds S R Z=>∃n,n≤8∧y6 n ds S R Z):=mI fun n hn=>(ur T n).mono (by lia)
 have fv:Ok P w base T.ar 10 (fun ds S R Z=>∃n,n≤8∧y6 n ds S R Z):=mI fun n hn=>(dW T n).mono (by lia)
 refine T.gk.F.jk t4 ?_
 rintro _ _ _ _ _ _ ds S R Z hr ⟨cs,k,vs,ps,wy,n,c,d,e,h,q⟩
 subst e
 refine⟨_,(sc (si (twd (twor (bw eW hr.units (cf ((nN T).mono (by decide)) hr T.dh.m T.dh.k T.dh.b d0 (ac (dv 0) an)) (cf ((ic T).mono (by decide)) hr T.aU.m T.aU.k T.aU.b d0 (ac (dv 0) an))) (tw1 (bw eW hr.units (cf ((m8 T).mono (by decide)) hr T.eA.m T.eA.k T.eA.b d0 (ac (dv 1) an)) (cf ((m9 T).mono (by decide)) hr T.bS.m T.bS.k T.bS.b d0 (ac (dv 1) an)))))) (s1 (sr db)) s0) (s1 (sr (kA (cm bB hr.units (cf ((q8 T).mono (by decide)) hr T.fe.m T.fe.k T.fe.b d0 (ac (dv 2) an)) (cf ((jJ T).mono (by decide)) hr T.br.m T.br.k T.br.b d0 (ac (dv 2) an))) (wH (cm bB hr.units (cf (cj.mono (by lia)) hr T.az.m T.az.k T.az.b d0 (ac (dv 3) an)) (cf (fv.mono (by lia)) hr T.ar.m T.ar.k T.ar.b d0 (ac (dv 3) an)))))))),?_⟩
 refine⟨_,rfl,cs,rfl,h.g,_,rfl,cs,rfl,h.g,_,rfl,ia (IL _) ?_⟩
 refine⟨_,rfl,cs,k,vs,rfl,h.r,_,rfl,cs,k,vs,rfl,h.r,_,rfl,ia (IL _) ?_⟩
 refine⟨_,rfl,cs,ps,wy,rfl,h.g,h.o,_,rfl,cs,ps,wy,rfl,h.g,h.o,_,rfl,wK (IM _) ?_⟩
 refine⟨_,rfl,n,h.n8,cs,d,c,rfl,h.s,h.c2,_,rfl,n,h.n8,cs,d,c,rfl,h.s,h.c2,?_⟩
 show Fo S (R (.bl (if false=true then !decide (_=_) else decide (_=_))))
 rw[IM]
 exact fo q
theorem A0(T:Txt w K mg t):Ok P w base T.iV 18 OS:=by
 have fv:Ok P w base T.ar 10 (fun ds S R Z=>∃n,n≤8∧y6 n ds S R Z):=mI fun n hn=>(dW T n).mono (by lia)
 have cU:Ok P w base T.aO 17 (fun ds S R Z=>∃n,n≤16∧Lb n ds S R Z):=mI fun n hn=>(wB T n).mono (by lia)
 refine T.iV.F.jk gq ?_
 rintro _ _ _ _ _ _ ds S R Z hr ⟨cs,k,vs,ps,wy,n,c,d,e,h,q⟩
 subst e
 obtain⟨r1,r2⟩:=h.r.pz
 obtain⟨o1,o2⟩:=Ld h.g h.o
 obtain⟨c1,c2⟩:=HG h.g
 have i:=h.s.sf
 have LV:=h.n8
 obtain⟨b1,b2⟩:=uw h.s h.n8 h.c2
 have YU:=(h.r.go.2.le (show 9100≤90000 by decide)).rd (S:=S)
 have W0:=((Fm h.g h.o).2.le (show 9100≤90000 by decide)).rd (S:=S)
 have W2:=((wu h.s h.c2).2.le (show 26000≤90000 by decide)).rd (S:=S)
 have W3:=((HE h.g).2.le (show 9100≤90000 by decide)).rd (S:=S)
 refine⟨_,(sc (dR (i:=4) gq.nd (cf ((wz T).mono (by decide)) hr T.iP.m T.iP.k T.iP.b d0 (ac (dv 0) (ac (cf ((m9 T).mono (by decide)) hr T.bS.m T.bS.k T.bS.b d0 (ac (dv 1) an)) an)))) (sc (si (twd (twor (bw eW hr.units (dv 4) (dv 1)) (tw1 (bV (tv (cf (cU.mono (by lia)) hr T.aO.m T.aO.k T.aO.b d0 (ac (dv 4) an))))))) (s1 (sr db)) s0) (sc (dR (i:=4) gq.nd (cf ((qW T).mono (by decide)) hr T.fg.m T.fg.k T.fg.b d0 (ac (dv 0) (ac (cf ((jJ T).mono (by decide)) hr T.br.m T.br.k T.br.b d0 (ac (dv 2) an)) an)))) (sc (si (twd (twor (bw eW hr.units (dv 4) (dv 2)) (tw1 (bV (tv (cf (cU.mono (by lia)) hr T.aO.m T.aO.k T.aO.b d0 (ac (dv 4) an))))))) (s1 (sr db)) s0) (sc (dR (i:=4) gq.nd (cf ((qY T).mono (by decide)) hr T.fh.m T.fh.k T.fh.b d0 (ac (dv 0) (ac (cf (fv.mono (by lia)) hr T.ar.m T.ar.k T.ar.b d0 (ac (dv 3) an)) an)))) (sc (si (twd (twor (bw eW hr.units (dv 4) (dv 3)) (tw1 (bV (tv (cf (cU.mono (by lia)) hr T.aO.m T.aO.k T.aO.b d0 (ac (dv 4) an))))))) (s1 (sr db)) s0) (sc (dR (i:=4) gq.nd (cf ((nL T).mono (by decide)) hr T.dj.m T.dj.k T.dj.b d0 (ac (cf ((ic T).mono (by decide)) hr T.aU.m T.aU.k T.aU.b d0 (ac (dv 0) an)) an))) (s1 (sr (kA (cm bB hr.units (dv 4) (dv 0)) (wH (cf (cU.mono (by lia)) hr T.aO.m T.aO.k T.aO.b d0 (ac (dv 4) an))))))))))))),?_⟩
 refine⟨_,rfl,_,rfl,cs,k,vs,rfl,h.r,cs,k,vs,rfl,h.g,h.r,?_⟩
 refine⟨_,rfl,_,rfl,eq_self (AZ r1 (by decide)) ⟨_,rfl,ay ⟨_,rfl,2,by decide,_,rfl,r2,_,rfl,ay ?_⟩⟩⟩
 refine⟨_,rfl,_,rfl,cs,ps,wy,rfl,h.g,h.o,cs,.str (jn (cG ps wy)),rfl,h.g,W0,fun ws hw ho=>?_,fun ws hw ho=>?_,fun hn=>?_⟩
 ·rw[uv h.g h.o] at hw
  cases hw
  rw[Cv]
  refine⟨_,rfl,_,rfl,eq_self (AZ o1 (by decide)) ⟨_,rfl,ay ⟨_,rfl,3,by decide,_,rfl,o2,_,rfl,ay ?_⟩⟩⟩
  refine⟨_,rfl,_,rfl,n,h.n8,cs,d,c,rfl,h.s,h.c2,cs,.str (jn (sW n d)),rfl,h.g,W2,fun z ez=>⟨fun s hs hp=>⟨fun _=>?_,fun hf=>?_⟩,fun FY=>?_⟩,fun FY=>absurd rfl (FY _)⟩
  ·cases ez
   rw[b1] at hs
   cases hs
   refine⟨_,rfl,_,rfl,eq_self (AZ i.pz (by lia)) ⟨_,rfl,ay ⟨_,rfl,2 * n,by lia,_,rfl,i.pl,_,rfl,ay ?_⟩⟩⟩
   refine⟨_,rfl,cs,rfl,h.g,.str (jn (eC cs)),rfl,W3,fun Hl hc Te=>?_,fun Hl hc Te=>?_,fun FY=>?_⟩
   ·rw[uu h.g] at hc
    cases hc
    exact⟨_,rfl,_,rfl,eq_self (AZ c1 (by decide)) ⟨_,rfl,aZ ⟨_,rfl,2,by decide,_,rfl,c2,fo q⟩⟩⟩
   ·rw[uu h.g] at hc
    cases hc
    rw[yP.mpr h.g] at Te;cases Te
   ·rw[uu h.g] at FY;cases FY
  ·cases ez
   rw[b1] at hs
   cases hs
   rw[b2] at hf;cases hf
  ·cases ez
   rw[b1] at FY;cases FY
 ·rw[uv h.g h.o] at hw
  cases hw
  rw[wg,Cz,h.o] at ho;cases ho
 ·rw[uv h.g h.o] at hn;cases hn
mutual
theorem Sr.up:Sr cs n c d→Sr cs (n+1) c d
 |.fu=>.fu
 |.key h8 y4=>.key h8 y4
 |.col hw ha hv hf=>.col hw ha hv hf
 |.not h=>.not h.up
 |.many hw h h8=>.many hw h.up h8
theorem sd.up:sd cs n c es→sd cs (n+1) c es
 |.nil=>.nil
 |.cons a b=>.cons a.up b.up
end
theorem Sr.le(h:Sr cs n c d)(hl:n≤m):Sr cs m c d:=by
 induction hl with
 |refl=>exact h
 |step _ ih=>exact ih.up
structure En(L:List (D×Str)):Prop where
 pz:∀e∈L,∃ds,e.1=.tup ds∧∃p,Pz 16 (.tup ds) p
 inj:∀e∈L,∀f∈L,e.1=f.1↔e.2=f.2
def Ay(e:D×Str):D:=.tup [e.1,.str e.2]
def Le(cs:List (Str×Str))(e:D×Str):Prop:=∃k vs,e=(qj k vs,jn (cy k vs))∧Rr cs k vs
def Lf(cs:List (Str×Str))(e:D×Str):Prop:=∃c d,e=(d,jn (sW 8 d))∧Sr cs 8 c d∧c≤200
theorem OT(h:∃p,Pz n d p)(hl:n≤m):∃p,Pz m d p:=by
 induction hl with
 |refl=>exact h
 |step _ ih=>obtain⟨p,hp⟩:=ih;exact uo hp
theorem HH(h:∀e∈L,Le cs e):En L:=by
 refine⟨fun e he=>?_,fun e he f hf=>?_⟩
 ·obtain⟨k,vs,rfl,hr⟩:=h e he
  exact⟨_,rfl,OT hr.pz.1 (by decide)⟩
 ·obtain⟨k,vs,rfl,hr⟩:=h e he
  obtain⟨k',P9,rfl,UN⟩:=h f hf
  constructor
  ·intro q
   have q:=D.tup.inj q
   have q1:k=k':=D.str.inj (yF q).1
   have q2:vs=P9:=D.tup.inj (yF (yF q).2).1
   rw[q1,q2]
  ·intro q
   have q:jn (cy k vs)=jn (cy k' P9):=q
   have s1:=mH (ws:=cy k vs) (by unfold cy;simp) hr.words
   rw[q,mH (ws:=cy k' P9) (by unfold cy;simp) UN.words] at s1
   obtain⟨q1,q2⟩:=yF s1
   have t1:=ql hr.FE
   rw[← q2,ql UN.FE] at t1
   show qj k vs=qj k' P9
   rw[q1,t1]
theorem CA(h:∀e∈L,Lf cs e):En L:=by
 refine⟨fun e he=>?_,fun e he f hf=>?_⟩
 ·obtain⟨c,d,rfl,hs,_⟩:=h e he
  have i:=hs.sf
  have ht:=i.wr.tup
  cases d with
  |tup ds=>exact⟨ds,rfl,i.pz⟩
  |_=>cases ht
 ·obtain⟨c,d,rfl,hs,hc⟩:=h e he
  obtain⟨c',d',rfl,Fz,Lw⟩:=h f hf
  constructor
  ·intro q
   have q:d=d':=q
   show jn (sW 8 d)=jn (sW 8 d')
   rw[q]
  ·intro q
   have q:jn (sW 8 d)=jn (sW 8 d'):=q
   have s1:=(uw hs (by decide) hc).1
   rw[q,(uw Fz (by decide) Lw).1] at s1
   exact (zS s1).symm
theorem Fs(h:Paired (fun d v=>∃c:Str×Str,d=aq c∧vS v∧i5 c.2 v=true) xs out):∀{cs:List (Str×Str)},xs=cs.map aq→out.length=cs.length∧(∀v∈out,vS v)∧(List.zipWith (fun (c:Str×Str) v=>i5 c.2 v) cs out).all id=true:=by
 induction h with
 |nil =>
  intro cs e
  cases cs with
  |nil=>exact⟨rfl,fun _ h=>(nomatch h),rfl⟩
  |cons c cs=>cases e
 |cons r _ ih =>
  intro cs e
  cases cs with
  |nil=>cases e
  |cons c0 cs =>
   obtain⟨c,e1,hv,hb⟩:=r
   obtain⟨e3,e4⟩:=yF e
   obtain⟨h1,h2,h3⟩:=ih e4
   rw[e1] at e3
   have e5:c.2=c0.2:=D.str.inj (yF (yF (D.tup.inj e3)).2).1
   refine⟨by rw[zf,zf,h1],z0.mpr ⟨hv,h2⟩,?_⟩
   rw[List.zipWith_cons_cons,zW,h3,← e5,hb];rfl
theorem Tf(q:R (.bl (decide (a=b))) S):BG false (.str a) (.str b) S R:=by
 show R (.bl (if false=true then !decide (a=b) else decide (a=b))) S
 rw[if_neg (by decide)];exact q
theorem OU(h:b=b')(q:R (.bl false) S):BG true (.bl b) (.bl b') S R:=by
 subst h
 refine⟨.bool b,.bool b,rfl,rfl,rfl,rfl,.inl (yq _),?_⟩
 rw[if_pos rfl,show PyData.eqv (.bool b) (.bool b)=true by cases b <;> rfl]
 exact q
def IP:jd:=fun ds S R _=>∃ns:List Int,ds=[.jc (ns.map D.int)]∧ns.length≤63∧R (.bl true) S
theorem HI(T:Txt w K mg t):Ok P w base T.Sv 20 IP:=by
 have CB:Ok P w base T.bZ 13 (fun ds S R Z=>∃n,n≤8∧OJ n ds S R Z):=mI fun n hn=>(qh T n).mono (by lia)
 have cj:Ok P w base T.az 17 (fun ds S R Z=>∃n,n≤8∧y6 n ds S R Z):=mI fun n hn=>(ur T n).mono (by lia)
 refine T.Sv.F.jk dJ ?_
 rintro _ _ _ _ _ _ ds S R Z hr ⟨ns,e,Sl,q⟩
 subst e
 have n0:=sm (show 0≤100000 by decide)
 have n1:=sm (show 1≤100000 by decide)
 have n2:=sm (show 2≤100000 by decide)
 refine⟨_,(sc (dR (i:=1) dJ.nd (cf ((AV T).mono (by decide)) hr T.iT.m T.iT.k T.iT.b d0 (ac (dv 0) (ac di an)))) (sc (dR (i:=2) dJ.nd (cf ((yS T).mono (by decide)) hr T.gj.m T.gj.k T.gj.b d0 (ac (dv 1) an))) (sc (dR (i:=3) dJ.nd (bA an)) (sc (dR (i:=4) dJ.nd (bA an)) (sc (DL (GS (VR T.fH (ac di (ac di an))) (gn (i:=5) dJ.nd) (sc (dR (i:=1) dJ.nd (cf ((AV T).mono (by decide)) hr T.iT.m T.iT.k T.iT.b d0 (ac (dv 0) (ac (dv 5) an)))) (sc (dR (i:=6) dJ.nd (cA (ac (cf ((E6 T).mono (by decide)) hr T.mO.m T.mO.k T.mO.b d0 (ac (dv 1) an)) (ac (ct cJ T.aL ax (ac (lW (N:=["_law_name","_law_kind","_law_well_here"]) (src:=[none,none,some 1]) (kr (ae vf) ["_law_script","_law_well_here","_law_columns_here","_law_rows","_law_sieves","_law_k","_law_row","_law_order_here","_law_sieve_here","_law_some","_law_one","_law_text"] rfl rfl (by trivial)) (wJ (dv 2)) (NQ (show (["_law_name","_law_kind","_law_well_here"]:List Str).Nodup by trivial)) (ko rfl rfl) kF (fun _ _ _ _ _=>lH) (fun _ _ _ _ _=>(cf ((we T).mono (by decide)) hr T.fG.m T.fG.k T.fG.b d0 (ac (dv 2) (ac (dv 1) an))))) an)) an)))) (sc (dR (i:=7) dJ.nd (cf ((E9 T).mono (by decide)) hr T.kR.m T.kR.k T.kR.b d0 (ac (dv 1) (ac (dv 2) an)))) (sc (dR (i:=8) dJ.nd (cf (CB.mono (by lia)) hr T.bZ.m T.bZ.k T.bZ.b d0 (ac (dv 1) (ac (dv 2) (ac (bo bN hr.units di (cf ((ba T).mono (by decide)) hr T.af.m T.af.k T.af.b d0 (ac (dv 1) (ac di an)))) (ac (bA (ac di an)) an)))))) (sc (si (twd (twand (bw bB hr.units (cf ((ba T).mono (by decide)) hr T.af.m T.af.k T.af.b d0 (ac (dv 1) (ac di an))) di) (tw1 (bV (tv (cf ((A0 T).mono (by decide)) hr T.iV.m T.iV.k T.iV.b d0 (ac (dv 2) (ac (dv 6) (ac (dv 7) (ac (dv 8) an)))))))))) (s1 (sr db)) s0) (sc (si (twd (twor (bV (tv (cf ((y8 T).mono (by decide)) hr T.gk.m T.gk.k T.gk.b d0 (ac (dv 2) (ac (dv 6) (ac (dv 7) (ac (dv 8) an))))))) (tw1 (bV (tv (cf ((A0 T).mono (by decide)) hr T.iV.m T.iV.k T.iV.b d0 (ac (dv 2) (ac (dv 6) (ac (dv 7) (ac (dv 8) an)))))))))) (s1 (sr db)) s0) (sc (se (bm zJ zY zZ cB (dv 3) (ac (cA (ac (dv 6) (ac (cf ((m8 T).mono (by decide)) hr T.eA.m T.eA.k T.eA.b d0 (ac (dv 6) an)) an))) an))) (s1 (se (bm zJ zY zZ cB (dv 4) (ac (cA (ac (dv 8) (ac (cf (cj.mono (by lia)) hr T.az.m T.az.k T.az.b d0 (ac (dv 8) an)) an))) an))))))))))))) (sc (DL (GS (il (bA (ac (dv 3) (ac (dv 4) an)))) (gn (i:=9) dJ.nd) (s1 (GS (il (dv 9)) (gt (n:=2) (gc (gn (i:=10) dJ.nd) (gc (gn (i:=11) dJ.nd) g0))) (s1 (si (bw eW hr.units (lW (N:=["_law_thing","_law_other","_law_one","_law_text"]) (src:=[none,none,some 10,some 11]) (kr (ae vf) ["_law_script","_law_well_here","_law_columns_here","_law_rows","_law_sieves","_law_k","_law_row","_law_order_here","_law_sieve_here","_law_some","_law_one","_law_text"] rfl rfl (by trivial)) (il (dv 9)) (NQ (show (["_law_thing","_law_other","_law_one","_law_text"]:List Str).Nodup by trivial)) (ko rfl rfl) kF (fun _ _ _ _ _=>(if1 (bw eW hr.units (cm bB hr.units (dv 0) (dv 2)) (cm bB hr.units (dv 1) (dv 3))))) (fun _ _ _ _ _=>(dv 0))) (bA an)) (s1 (sr db)) s0)))))) (s1 (sr db)))))))),?_⟩
 refine⟨_,rfl,⟨ns,0,rfl,by decide⟩,fun l0 Oe=>⟨_,rfl,l0,rfl,aa,fun cs hg=>?_⟩⟩
 have b0:Sub S (S.set l0 .well):=.new Oe
 generalize S.set l0 .well=S0 at b0 ⊢
 have h8:=hg.1.1
 refine⟨n0,fun pr UO=>⟨n0,fun pv LU=>?_⟩⟩
 have P_:pr≠pv:=uA (aa (S:=S0)) LU
 have Th:S pr=none:=lA b0 UO
 have Tj:S pv=none:=lA b0 ((ai (Ne.symm P_)).symm.trans LU)
 have b1:Sub S ((S0.set pr (.lst [])).set pv (.lst [])):=(b0.trans (.new UO)).trans (.new LU)
 have vr:((S0.set pr (.lst [])).set pv (.lst [])) pr=some (.lst []):=(ai P_).trans aa
 have vv:((S0.set pr (.lst [])).set pv (.lst [])) pv=some (.lst []):=aa
 generalize (S0.set pr (.lst [])).set pv (.lst [])=S1 at b1 vr vv ⊢
 refine⟨fun aA S'=>∃(RL SL:List (D×Str)) (o1 o5 o6 o7 o8:Option D),aA=[some (.jc (ns.map D.int)),o1,some (.tup (cs.map aq)),some (.ref pr),some (.ref pv),o5,o6,o7,o8,none,none,none]∧Sub S S'∧S' pr=some (.lst (RL.map Ay))∧S' pv=some (.lst (SL.map Ay))∧RL.length≤12∧SL.length≤12∧(∀e∈RL,Le cs e)∧(∀e∈SL,Lf cs e),?_,?_⟩
 ·refine⟨1,13,rfl,⟨by decide,by decide,by decide,by decide⟩,?_⟩
  refine⟨fun i aA S'=>∃(RL SL:List (D×Str)) (o1 o5 o6 o7 o8:Option D),aA=[some (.jc (ns.map D.int)),o1,some (.tup (cs.map aq)),some (.ref pr),some (.ref pv),o5,o6,o7,o8,none,none,none]∧Sub S S'∧S' pr=some (.lst (RL.map Ay))∧S' pv=some (.lst (SL.map Ay))∧RL.length≤i∧SL.length≤i∧(∀e∈RL,Le cs e)∧(∀e∈SL,Lf cs e),⟨[],[],_,none,none,none,none,rfl,b1,vr,vv,zh _,zh _,fun e h=>(nomatch h),fun e h=>(nomatch h)⟩,fun _ _ _ _=>trivial,?_,?_⟩
  ·rintro i d aA S' hd ⟨RL,SL,o1,o5,o6,o7,o8,rfl,sb,hR,hV,LR,CF,OV,OW⟩
   have hd:(jS 1 12)[i]?=some d:=hd
   obtain⟨hi,rfl⟩:=iz hd
   refine⟨_,rfl,_,rfl,⟨ns,1+i,by rw[show ((1+i:Nat):Int)=1+((i:Nat):Int) by lia];rfl,by lia⟩,fun l hl=>?_⟩
   have bl:Sub S' (S'.set l .well):=.new hl
   have hW:(S'.set l .well) l=some .well:=aa
   generalize S'.set l .well=S2 at bl hW ⊢
   -- the row
   refine⟨_,rfl,l,rfl,hW,fun k hk=>⟨_,rfl,_,.inl rfl,?_⟩⟩
   refine i6 (fun d v=>∃c:Str×Str,d=aq c∧vS v∧i5 c.2 v=true) trivial (by show (cs.map aq).length≤_;rw[za];lia) (fun d hd Q hQ=>?_) fun vs ho p hp=>?_
   ·obtain⟨c,hc,rfl⟩:=zq.mp hd
    exact⟨_,rfl,rfl,_,_,rfl,_,_,rfl,rfl,_,rfl,_,rfl,l,c.2,rfl,hW,fun v hv hb=>hQ _ ⟨c,rfl,hv,hb⟩⟩
   obtain⟨v1,v2,v3⟩:=Fs ho rfl
   have Tn:Rr cs k vs:=⟨hk,v2,by
    show (decide (vs.length=cs.length) && _)=true
    rw[zk v1,v3];rfl,by lia⟩
   refine⟨_,_,rfl,.inl aa,n2,?_⟩
   have b3:Sub S' (S2.set p (.lst vs)):=bl.trans (.new hp)
   have w3:=wl (c:=.lst vs) hW hp
   generalize S2.set p (.lst vs)=S3 at b3 w3 ⊢
   -- the order
   refine⟨_,rfl,_,rfl,l,cs,rfl,hg,w3,fun ps wy Tp=>?_⟩
   -- the sieve
   refine⟨_,rfl,_,rfl,_,rfl,l,_,rfl,(by decide),(by decide),w3,fun dd d0 d1=>⟨n1,fun p1 fY=>?_⟩⟩
   have W4:l≠p1:=uA w3 fY
   have W5:pr≠p1:=uA (b3 _ _ hR) fY
   have W6:pv≠p1:=uA (b3 _ _ hV) fY
   obtain⟨dn,W7,Lg⟩:∃dn:Nat,(1:Int)+dd=((dn:Nat):Int)∧1≤dn∧dn≤8:=⟨(1+dd).toNat,by lia,by lia,by lia⟩
   refine⟨dn,Lg.2,l,cs,p1,100,by rw[W7];rfl,Lg.1,hg,wl w3 fY,aa,by decide,fun d c kk YV DQ OK wq=>?_⟩
   rw[dE]
   have Tq:S p1=none:=lA (sb.trans b3) fY
   have b4:Sub S (S3.set p1 (.lst [.int ((100 - kk:Nat):Int)])):=fX (sb.trans b3) Tq
   have w4:(S3.set p1 (.lst [.int ((100 - kk:Nat):Int)])) l=some .well:=(ai W4).trans w3
   have r4:(S3.set p1 (.lst [.int ((100 - kk:Nat):Int)])) pr=some (.lst (RL.map Ay)):=(ai W5).trans (b3 _ _ hR)
   have v4:(S3.set p1 (.lst [.int ((100 - kk:Nat):Int)])) pv=some (.lst (SL.map Ay)):=(ai W6).trans (b3 _ _ hV)
   generalize S3.set p1 (.lst [.int ((100 - kk:Nat):Int)])=S4 at b4 w4 r4 v4 ⊢
   have Lh:Dr cs k vs ps wy 8 c d:=⟨hg.1,Tn,Tp,wq.le Lg.2,by decide,by lia⟩
   refine⟨_,rfl,l,_,rfl,(by decide),(by decide),w4,fun bb YW YX=>⟨decide (bb=0),rfl,fW false (fun h=>⟨_,rfl,_,rfl,_,rfl,_,rfl,cs,k,vs,ps,wy,8,c,d,rfl,Lh,_,rfl,h⟩) (ia (Bool.and_false _) ?_)⟩⟩
   refine⟨_,rfl,_,rfl,_,rfl,_,rfl,cs,k,vs,ps,wy,8,c,d,rfl,Lh,_,rfl,ay ⟨_,rfl,_,rfl,_,rfl,_,rfl,cs,k,vs,ps,wy,8,c,d,rfl,Lh,_,rfl,ay ?_⟩⟩
   refine⟨_,rfl,⟨rfl,_,r4⟩,_,rfl,_,rfl,cs,k,vs,rfl,Tn,n2,pr,_,_,rfl,rfl,r4,dM (by rw[za];lia),?_⟩
   have v5:(S4.set pr (.lst (RL.map Ay++[.tup [qj k vs,.str (jn (cy k vs))]]))) pv=some (.lst (SL.map Ay)):=(ai (Ne.symm P_)).trans v4
   refine⟨_,rfl,⟨rfl,_,v5⟩,_,rfl,_,rfl,8,by decide,cs,d,c,rfl,Lh.s,Lh.c2,n2,pv,_,_,rfl,rfl,v5,dM (by rw[za];lia),?_⟩
   refine⟨RL++[(qj k vs,jn (cy k vs))],SL++[(d,jn (sW 8 d))],_,_,_,_,_,rfl,fX (fX b4 Th) Tj,?_,?_,?_,?_,?_,?_⟩
   ·rw[ai P_,aa,zT];rfl
   ·rw[aa,zT];rfl
   ·rw[zo];show RL.length+1≤_;lia
   ·rw[zo];show SL.length+1≤_;lia
   ·intro e he
    rcases zP.mp he with he|he
    ·exact OV e he
    ·rw[zz.mp he];exact⟨k,vs,rfl,Tn⟩
   ·intro e he
    rcases zP.mp he with he|he
    ·exact OW e he
    ·rw[zz.mp he];exact⟨c,d,rfl,Lh.s,Lh.c2⟩
  ·rintro aA S' ⟨RL,SL,o1,o5,o6,o7,o8,rfl,sb,hR,hV,LR,CF,OV,OW⟩
   exact fo ⟨RL,SL,o1,o5,o6,o7,o8,rfl,sb,hR,hV,LR,CF,OV,OW⟩
 ·rintro aA S2 ⟨RL,SL,o1,o5,o6,o7,o8,rfl,sb,hR,hV,LR,CF,OV,OW⟩
  refine⟨fun aA S'=>Sub S S',?_,fun aA S' hs=>⟨S,hs,q⟩⟩
  refine⟨_,rfl,_,rfl,n2,fun pw EY=>⟨_,aa,?_⟩⟩
  refine⟨fun i aA S'=>∃(o9 Li Lj:Option D),aA=[some (.jc (ns.map D.int)),o1,some (.tup (cs.map aq)),some (.ref pr),some (.ref pv),o5,o6,o7,o8,o9,Li,Lj]∧Sub S2 S'∧S' pw=some (.lst [.ref pr,.ref pv]),⟨none,none,none,rfl,.new EY,aa⟩,by rintro i aA S' ⟨_,_,_,_,_,h⟩;exact h,?_,by rintro aA S' ⟨_,_,_,_,h,_⟩;exact fo (sb.trans h)⟩
  rintro i x aA S3 hx ⟨o9,Li,Lj,rfl,b3,W8⟩
  have hx:x∈[D.ref pr,.ref pv]:=zN hx
  obtain⟨pa,L,rfl,hL,OC,Ow⟩:∃pa L,x=.ref pa∧S2 pa=some (.lst (L.map Ay))∧En L∧L.length≤12:=by
   simp only [zb,ze,or_false] at hx
   rcases hx with rfl|rfl
   ·exact⟨pr,RL,rfl,hR,HH OV,LR⟩
   ·exact⟨pv,SL,rfl,hV,CA OW,CF⟩
  refine⟨_,rfl,_,b3 _ _ hL,?_⟩
  refine⟨fun j aA S'=>∃(Li Lj:Option D),aA=[some (.jc (ns.map D.int)),o1,some (.tup (cs.map aq)),some (.ref pr),some (.ref pv),o5,o6,o7,o8,some (.ref pa),Li,Lj]∧Sub S3 S',⟨Li,Lj,rfl,.refl _⟩,by rintro j aA S' ⟨_,_,_,h⟩;exact h _ _ (b3 _ _ hL),?_,by rintro aA S' ⟨Li,Lj,e,h⟩;exact⟨_,_,_,e,b3.trans h,h _ _ W8⟩⟩
  rintro j y aA S4 hy ⟨Li,Lj,rfl,b4⟩
  have hy:y∈L.map Ay:=zN hy
  obtain⟨e,he,rfl⟩:=zq.mp hy
  have OB:=b4 _ _ (b3 _ _ hL)
  obtain⟨YY,e1,W9⟩:=OC.pz e he
  refine⟨_,rfl,rfl,_,_,rfl,_,_,rfl,rfl,?_⟩
  refine⟨_,rfl,_,OB,?_⟩
  refine Cf (fun _=>false) id OB (by show (L.map Ay).length≤_;rw[za];lia) (fun z hz Q Q' hQ W_=>?_) fun p hp=>?_
  ·obtain⟨f,hf,rfl⟩:=zq.mp hz
   obtain⟨YZ,e2,Xa⟩:=OC.pz f hf
   refine⟨_,rfl,rfl,_,_,rfl,_,_,rfl,rfl,_,rfl,_,rfl,?_⟩
   rw[e1,e2]
   refine OF Xa W9 (by decide) fun b hb=>?_
   refine⟨_,rfl,_,rfl,Tf (OU ?_ ⟨_,rfl,ay (W_ rfl)⟩)⟩
   have hi:=OC.inj f hf e he
   rw[← e1,← e2] at hb
   by_cases hz:f.2=e.2
   ·rw[zk hz];exact hb.mpr (hi.mpr hz)
   ·rw[zp hz]
    exact Bool.eq_false_iff.mpr fun h=>hz (hi.mp (hb.mp h))
  ·refine⟨n0,fun p2 g6=>?_⟩
   have ef:((L.map Ay).filter fun _=>false).map id=[]:=by rw[List.filter_eq_nil_iff.mpr fun _ _=>by decide];rfl
   refine AQ (ds:=[]) ((Sub.new g6) _ _ ?_) aa (fun _ h=>(nomatch h)) ⟨_,rfl,ay ⟨_,_,rfl,(b4.trans (.new hp)).trans (.new g6)⟩⟩
   show _=some (Ce.lst [])
   rw[aa]
   show some (Ce.lst (((L.map Ay).filter fun _=>false).map id))=_
   rw[ef]
def Ft(K:Frag):Sp:=fun vs H Q _=>xr K IP vs H Q E0
theorem Lk(T:Txt w K mg t):cM P w K mg base Po 20 t.Ip t.Eo ["_law_script"] (Ft K):=cM.calm (HI T)
theorem Fu{K:Frag}{H:Hp}{a:Addr}{ns:List Int}(hl:ns.length≤63)(hO:vd [] H)(hS:jN K H a (ns.map V.int)):Ft K [.ref a] H (fun v _=>v=.bl true) fun _ _ _=>False:=by
 have hR:H_ K H a (ns.map V.int):=by
  rcases hS with (h|h)|h
  ·rcases hO.all a with q|⟨o,xs,q⟩|⟨_,q⟩
   ·rw[q] at h;cases h
   ·rw[q] at h;cases h
   ·rw[q] at h;cases h
  ·exact .inl h
  ·exact .inr h
 exact⟨[.jc (ns.map D.int)],fun _=>none,fun d _=>d=.bl true,fun _ _=>False,bg (Dx hR (Aq ns)) bJ,fun _ _ e=>(by cases e),⟨ns,rfl,hl,rfl⟩,fun d S v H' e r _ _=>by subst e;exact r.bl,fun _ _ _ z=>z.elim⟩
theorem Ll{P:Program}{w:World}{K:Frag}{mg:Str→Option Value}{fa:Addr}(JS:mg "law" = some (.ref fa))(T:∃t:KI,Txt w K mg t):∃(fd:FuncData) (sp:Sp),(∀b∈([]:List Addr),∃c,codeHdIn K c b=true)∧(∀(s:Shared) (u:Value),BindsTo s fd ⟨[u],[]⟩ [("_law_script",u)])∧(∀base:Heap,Bm mg base→K.In base→base.Ns mainGlobals mg→cM P w K mg base Po 20 fa fd ["_law_script"] sp)∧∀(H:Hp) (a:Addr) (ns:List Int),ns.length≤63→vd [] H→jN K H a (ns.map V.int)→sp [.ref a] H (fun v _=>v=.bl true) fun _ _ _=>False:=by
 obtain⟨t,T⟩:=T
 have e0:=JS.symm.trans T.Sv.m
 cases e0
 exact⟨_,_,fun b hb=>(nomatch hb),T.bl,fun base _ kb nb=>Lk T,fun H a ns hl hO hS=>Fu hl hO hS⟩
end My
end Tactic
open Tactic
local macro_rules|`(command|universe $xs*)=>do return Lean.mkNullNode (← xs.mapM fun x=>`(command|theorem $(Lean.mkIdent (.mkSimple s!"tw{x.getId.toString.foldl (fun n c=>n*62+(if c.isDigit then c.toNat-48 else if c.isUpper then c.toNat-55 else c.toNat-61)) 0-10*62^10}")):ident : True:=trivial))
namespace PySem.W.Fast
universe DMvJI4PQXEw E5uHuJcXZ9I L4FhOLV2NgY RIv1Wa1psQE JKoQ5oQ2Hem J4rpM6h4zDh SvX2imxG4pZ MDOVcVsd8Oy PNQzg38Lvpa CPjOeaEkbOv AzI7CNCsp2H ILXg8bvhJu1 J5FySDhQkNV MhGuPYnqEAs OLF1Opa6gs8 PrDrNbIIf81 H22UWUFbsOE GwxbVOaz0rt QjFzHs9i1w3 TmQhrEUQUzg OgIRACSTcg7 KGKh1f5mbpH OePyMBgTjnV UfrmpYeqnLx Hy0KYNRg6Uh Cdx1RwV18L4 Ec7CDa7odGC NZQ8ZTbaJRT IUtGHLAEoJt DnmTNPQRd0u GAeYQ1VfxS7 TGOJlSMpn6Z U55KU52kD1u GaePTJMw2ZD FC6ih8x6fQY DqOo6KKLAxd RD4c3mQkNV6 If2CmAxkymY VVkPEayXsdO HSiT78bqbZN TqisSay6zZm JUBUtxIFHFM N6SpUWO5ndV QbkLvTKCRbV H3yY1WuFG7o SK7RXHtGO3n UO737ruAzip N67fXnN71Qe TQffPxpCTqr GteQECfWqDY GOQweUcXA1H Ki08XtlmiIe SIIuSIXr4LN NS5D8h7sAcO JDu9pi6ZnWW It4oyacK5qJ SC5dQszVC1p Ib4BDzz8C4W MF9J17tn3Dn T0TFGQptMxj OcSBt4H9I1a OVLm4Ot9S7f Du6K1KtK8D3 NAalhzfH91e Eo4QgG4fzdM C9baqN68Qjs CZbUFIfamrj QPEKtsAQl1S Kh0fmb4cibA AVHnvPRFGkj VXeEx9sPFxJ HjE8rs6AegP ICykYlthVeN K4HPAtESMNG MtNDHtfCCXA IohOiAJuQ9B IgLwfEqfXRM QppFtoewplk NqUZhaX6ybV PjIxP0aZq6A THmGTFt0cbe DJloUYB6Ice GKVSbIHdrIA MKkoKKmUo9z IZRyx4ftmQ8 S0m4OCsnJFq TGwdLYwzxj6 HDD7ontSvWE SosO2GEoXp6 FwjCXDE6Mne AQyNTqbK6dJ BRtZIBnUqpg B63U9PhnSUG In9qsCBJCPd GiYaSsqk8iR BXGBIOG98jQ IEM9gEYl3UO JGFK8RI2X9E JOCf9Vj6lhl BntFW2ZT6tn U4SOicL9EOs KKZFWA9LkIN CYCo9TIECSA S35HP2vuls7 CJmJMg6qBYJ RHev5CL2at4 Pkw60L4UfOI LOMrP6Ya5KW UvcPBrLT5CZ RAofraaCgW5 JDJqrsUcBbS Dkkei1vZ1j6 FmB5WyDCrcj KIBbvezislD Bg4pTNrOvPU VV1HxgbWzop HfiqdNrtSsu J1i2Kri31p2 QRBC7ralMxo DO0RNTMqEtN Te4q8jwDTh9 H4ARaR9Brno IuUCk3FDJSR HUgKOXb9Qm4 SapL03GXlk1 J6Qkl0fz6uz PvqVs8e8Dne OJp9FPphtnd OU2U0hFDsZ1 IL2r3csvFS3 EGg0It4t2ae Fwgrgzz7KcQ HMcrPciM37z IdZEuJNyXAe A2bY9xTy6bh PkyJ1EKdNPs OcUodhNaya9 H09pjn5wcpb FqftmEqe6Zh MI5r9HJOM0J AN6KVnuxzKm AfuTGYbEC1v FJxYk0QROaF IksR6Utt4A5 KscFDOKJgup TbRs5V2XZHB C0uTXGYo4Dq DEFD4dSHSXK JoWzpzaNyvH JohlxHraacT StoBNFjbNVc JDcCug67AP3 RoYNni66GCG AYaKUrNJafa FlMnATpWG4f FKIe54oiuGF FI98vOShO1P Q0ab25oyZfd V8tqIQykZNc R09Qchtklmp FLJZ90ft4Ol Gjflr0CzSmg OSztxBRw1DI Omu4rFJKJVg KbJmPvIVFmF Dzzq8tcpMfW IFr5UawxJLv TBIrQWwwAQo BsgLoCyFKMk MWhFXSV34cM Rn6A8E7HVCs IgVzXTZWcFE BOJiAdWSEDN K11ix6UOku6 P7e5KcTyV3Q QLCRbS8nAIR QOAHxR935xD AzpmLZ8Ttjm Cv0YXPrmXDW OBwci8w4ivj PypjYFjlybC Fhb2gsN62IP SeV2G0JaCyZ MoYJ3YhMZj9 DVGyaJ7JNWf Uz76r6lyhJC LmMEy9sJZOZ JGJy2A6yH33 ILRB31MoPwg SxQdNadi5Ug THqkl2ygIza TPcwweCBBzT KgrVBHetVAA PuhL4gFHSxT H7lx5VWC5A4 NUBrRUZJb3b A3JnmVT5gbd Hv3rD07pQXH OespX1Vig3N MtFCFH9YREO Dll3VUvTxmu ObOVlg8VPUc DkWlEcb7Pty JhQjwTWpvgl LUQGySB3gEk Kih0TdTsYmI R9YLPE4Dtng HqpvPat8eXg DMcWL9eqy17 Dj6pftYLeJW JGXI0EjBFC7 GnLRCGNtf7C PpsXyj5jD0p TLSO6ZH4OBe Uiy20ZVTCG2 V2iQBY7cbz2 BGVhzFfY5qd GL1ccFYbtES QAJ4f4a67bi IGP4RmJ9jpW VvSGCmJxTna Jfz0UZXyZpa RJHz2oRpWPP PahYDouqAEH VGOauvdDVwf IuUyEX3gDyd O6JsukHrPeS DOP8J56jOGn Q74DLCMs7lD GY3WoG3XQq8 F8giqvo6ze7 BI0sXeGcygm GP3tONmusqi SxI9nZC39NA HGSC7IVNR9j AdEIrfleAlO ODMqzWzkmGo GiH9SmFDZcd DSZuYNBxJbx LusogalTZaB B5iFXU00QPk BlmyQMrelzY SAP83djIr1s KIUX6MPY14B GUzHEGtqVLH J0LKgUVW9DA GZzpP5GEkRR Cefd6IBa9Nd Ru8BC8lG5Eh JsbujUE9xcK NOBmUvnSXeV QPaJMGdvtI4 TRiAodMR079 ANe4X5PujOd JF94PQviCKO HU05pNm3hqb C10xE24iiK8 SzPtXPnHLN4 IXt6GANEsDn HvePLw06MyW O7mdjszVbx3 TO2bt0CwDCz BRw8sTnt2Mf DB4Xuh5ojSf FcYVeVuQ37i JgGBGgm3J50 IKlc6WY5xcl Mnrt36TU6gL UI7Ay2cJ5gK DyxMWz1hAwD AC2tkxl6N6e UpXAND94z5v I8TxrKgI0PQ G9Nmg1gTAID TdMdsqB2Z52 VnjgGSW4a2X Ohg1WMzhOvS FlEftjF9oRO DpkTTdH0Tpx VEqly6ECJvK Lo0SyaTyvs6 DhHLqFWRbhH RZUqHA1Yohc OBXzZHwOh4q LHV88QuHLx5 OKvMivpotl2 G1lBbkIsVxz K029fWG270n Lh8ElYZ48OF GeAa82HQWBz P9hSsmoQE8s JOlVFWqHHbO O2z09rWqWrn FwYx9VRQMFL V9fws5dzpD5 FwBqyEbVRT4 JBBayXyH4PL MfvvqVkPu37 CG0FdWTYyig QJKg1UubvFS LJWcT3dYiQI GKvDub5V4h2 Pg1KPROrTNF NTaw7YgYYzv H3wRayqlH7d PlAMxYYjOUA FyjX2GgV1r6 BGsugNflEpB J507aoPdl6Z QIuWxyBiA61 VwSoVLUYobQ AW1Wc9Ep3NS Ehq2ZqaIeOj D1WWT3uKtT3 FCGYUvy5407 QhP3GRNL51a QVcQVkY7ogK VlZCSExVMhU SHTz13XusY3 GI96R92PMIk G9RgiNk06Qi H7KQhj71wRq JHaFaAcrog9 LaNXi34iAJn B5lqcbsfvip R4Zg0MeTOxp VaDEzF7DeQm DfXr8xhHTtV BQwjTb0TW6y U4iMQnwLImg ViNbC3szl6g TaXh0Hl5zH1 NgELyu4gcME BNejDaa7yzX SxvmclN9b73 CQwozp80eUi Ne0zwwZH8qr AHWfHCwmSQI DlRmgvImW6q JRxoCw4Uh94 RVVRCpUYGbW BeZE3iCXhdJ DipKVropgQg QSfEQTDujwp QAAbWdi0ZVz Cw5jD1Zdvzi RQmfOTK3snZ J0yR5ZWEBkD JfAmq597EN0 I3ClmRCAjBS Jo0sQJg70S1 Mk7KRB0cfng D6ZOriDG4Hj SqpMukAz6Q2 KUw1daNZCKk IaFTI98EodW DoVOhUTcR5K FF8qResomOL Pt68Cx9SlRu QPbdCs1eIlN O9UWOVyqKZy UHgdsSJ9P6U GaTtmv4HYEi DL5FgOuErPk AaZfrZRHS56 SJ3uKXuWElt MkcC4KUFBj0 VasKbzaryyD QCgU29X2xHA RDww4rBcvxG DmZbQmXwW3g ApoSj09BXYU U3qFGmoXJuk RM1YoJMXEtH M2M4iEURCAN UPYOPM8Ex76 SoaqnVzrSJw SYSKX8gY2Zh Mu8NxSwtSSN AoKUm2Y47sz S0pN7kaVsz8 DOLJSfhsiGQ PbOnjwEZk9K SKVjJepiry2 PrBl0eouWNn KrkYl9HZavN PoKyYrpuuvY DfMedxNhgBG VYcoh9KNesY BJVMaUk1oPn M9u2owsnqSf Ta1jZuN8h6s ANh67p0Wfsj VMdTrTsZuvU My95uWMAqLN LlBjCZ2HIkB MnNzIPHUa3t J96AFYMYRwP LSJHacV51Ju NM9a0DY66Xy CBzq1jPIuqC MfPfhgv2413 Jj0cUvBBKJ0 GKKEDWykdq7 UIcpMieIpTu FoZ2C5CAGhZ IAkmY8Gyz3R Dal4XaMvPRF UdHB3dLCQVf QpzRrSsZVQo VRG3EjG7hys N2tEeSrQ67w BSIc7pqCI8J C6XxAClDoZb UsLJ9m1IfIg RGkpsITguF6 SfwDDB0Jiil TdQ61qj6wMb ObMvJRAnTQQ L37vHGcqnRG QFPHVSUNzaN Q0Ahll9V1xw GPHxnF8oUk5 AplKoOHfvuo OQJPyVf05Dl KcImOTztYwV CSZUgm7z5sj RRAbp2hrHFh IBKTZ4i5uG7 QCG5FTUJyHb OUHBsadYeCJ QKOpwCb4uoW Mcq2hXDFvs1 EUX8AHyi3SD LqkxY7Auqp8 GQ6j38dtuLF NrFoyHcxqvY DYoO7OtIErf GeGZdPlNjds GXzsZgS6CIZ SvWctVo3arB IfJ6xr0BBEJ EOqLM4cVFRj NFZItWh6EYf Erwa7EUkuAi F25xhCvsrW9 CSTWLTATeUd Vl2ixUf6R2l OrIWtwlJWUR GFG3yioJw1W R1TFuaX9MlV L7nGwfcsBcn IqWXHZbrIwp JUoBZxLzwl3 CFA50tmSjWc BTaVtdkl66x SxWTtB8rqTH LymUbUZ9bCR MB7NQN1KApW OhP6cvBrodG IkYTwlyuEBq M2B8oVDOR9b SPfmBPUbWYr QkJkOu66N9A CMZ40fn9BST JQg62lC9iTl RDBMinBfZLS QGsnVJuBmAB R4WnFKkRm6V JIYPGCe2JiX U3uUbDWvRnw OVp7delOSk1 K6XpD7igY77 H8JyVh8mHJk Dj7Rnq6ofRH KH6DjkiCcGk BDXyFwNYE0y VRa39zBlU8C
end PySem.W.Fast
open PySem PySem.W PyProof.Rows
set_option maxRecDepth 100000 in
set_option maxHeartbeats 0 in
theorem PySem.Challenge.cw_pageturns_k61_texts_written_holds : PySem.Challenge.rw_pageturns_k61_texts_written.Holds := by
 w_on;o_law;k_head;(case hw=>w_witness2)
 k_fill
 refine L2.D2 (l:=PySem.Challenge.rw_pageturns_k61_texts_written) (n:=63) (k:=20) (x := "_law_script") (CX:=L2.Po) (ts:=[]) rfl (by decide) rfl ⟨rfl,by decide,by decide⟩ (fun w h Y=>PySem.W.kIn_of Y) (fun w h Y b hb=>nomatch hb) (fun w h Y b hb=>nomatch hb) ?tF fun _ _ _ _ z=>z
 intro w mg fa h KX G JS
 refine My.Ll JS ?_
 refine' L2.cz KX G "is_whole" My.jV ["thing"] ?a1 ?b1 ?c1 ?d1 ?e1 fun d0 F0=>?z1
 (case a1|b1|c1|d1=>k_is)
 (case e1=>exact L2.eZ fun _=>rfl)
 refine' L2.cz KX G "is_letter" My.iD ["sign"] ?a2 ?b2 ?c2 ?d2 ?e2 fun d1 F1=>?z2
 (case a2|b2|c2|d2=>k_is)
 (case e2=>exact L2.eZ fun _=>rfl)
 refine' L2.cz KX G "is_figure" My.iE ["sign"] ?a3 ?b3 ?c3 ?d3 ?e3 fun d2 F2=>?z3
 (case a3|b3|c3|d3=>k_is)
 (case e3=>exact L2.eZ fun _=>rfl)
 refine' L2.cz KX G "is_name" My.jf ["thing"] ?a4 ?b4 ?c4 ?d4 ?e4 fun d3 F3=>?z4
 (case a4|b4|c4|d4=>k_is)
 (case e4=>exact L2.eZ fun _=>rfl)
 refine' L2.cz KX G "is_key" My.kI ["thing"] ?a5 ?b5 ?c5 ?d5 ?e5 fun d4 F4=>?z5
 (case a5|b5|c5|d5=>k_is)
 (case e5=>exact L2.eZ fun _=>rfl)
 refine' L2.cz KX G "is_word" My.jg ["thing"] ?a6 ?b6 ?c6 ?d6 ?e6 fun d5 F5=>?z6
 (case a6|b6|c6|d6=>k_is)
 (case e6=>exact L2.eZ fun _=>rfl)
 refine' L2.cz KX G "is_kind" My.l3 ["thing"] ?a7 ?b7 ?c7 ?d7 ?e7 fun d6 F6=>?z7
 (case a7|b7|c7|d7=>k_is)
 (case e7=>exact L2.eZ fun _=>rfl)
 refine' L2.cz KX G "is_value" My.jW ["kind","thing"] ?a8 ?b8 ?c8 ?d8 ?e8 fun d7 F7=>?z8
 (case a8|b8|c8|d8=>k_is)
 (case e8=>exact L2.ln2 fun _ _=>rfl)
 refine' L2.cz KX G "check_columns" My.cK ["columns"] ?a9 ?b9 ?c9 ?d9 ?e9 fun d8 F8=>?z9
 (case a9|b9|c9|d9=>k_is)
 (case e9=>exact L2.eZ fun _=>rfl)
 refine' L2.cz KX G "is_column" My.iF ["thing"] ?a10 ?b10 ?c10 ?d10 ?e10 fun d9 F9=>?z10
 (case a10|b10|c10|d10=>k_is)
 (case e10=>exact L2.eZ fun _=>rfl)
 refine' L2.cz KX G "names_of" My.gG ["columns"] ?a11 ?b11 ?c11 ?d11 ?e11 fun d10 Xb=>?z11
 (case a11|b11|c11|d11=>k_is)
 (case e11=>exact L2.eZ fun _=>rfl)
 refine' L2.cz KX G "kind_named" My.gH ["columns","name"] ?a12 ?b12 ?c12 ?d12 ?e12 fun d11 Xc=>?z12
 (case a12|b12|c12|d12=>k_is)
 (case e12=>exact L2.ln2 fun _ _=>rfl)
 refine' L2.cz KX G "check_row" My.iG ["columns","row"] ?a13 ?b13 ?c13 ?d13 ?e13 fun d12 Xd=>?z13
 (case a13|b13|c13|d13=>k_is)
 (case e13=>exact L2.ln2 fun _ _=>rfl)
 refine' L2.cz KX G "are_worths" My.eN ["columns","thing"] ?a14 ?b14 ?c14 ?d14 ?e14 fun d13 Xe=>?z14
 (case a14|b14|c14|d14=>k_is)
 (case e14=>exact L2.ln2 fun _ _=>rfl)
 refine' L2.cz KX G "is_way" My.oT ["thing"] ?a15 ?b15 ?c15 ?d15 ?e15 fun d14 Xf=>?z15
 (case a15|b15|c15|d15=>k_is)
 (case e15=>exact L2.eZ fun _=>rfl)
 refine' L2.cz KX G "is_end" My.oU ["thing"] ?a16 ?b16 ?c16 ?d16 ?e16 fun d15 Xg=>?z16
 (case a16|b16|c16|d16=>k_is)
 (case e16=>exact L2.eZ fun _=>rfl)
 refine' L2.cz KX G "check_order" My.cC ["columns","order"] ?a17 ?b17 ?c17 ?d17 ?e17 fun d16 Xh=>?z17
 (case a17|b17|c17|d17=>k_is)
 (case e17=>exact L2.ln2 fun _ _=>rfl)
 refine' L2.cz KX G "is_part" My.l4 ["columns","thing"] ?a18 ?b18 ?c18 ?d18 ?e18 fun d17 F17=>?z18
 (case a18|b18|c18|d18=>k_is)
 (case e18=>exact L2.ln2 fun _ _=>rfl)
 refine' L2.cz KX G "value_text" My.gI ["value"] ?a19 ?b19 ?c19 ?d19 ?e19 fun d18 Xi=>?z19
 (case a19|b19|c19|d19=>k_is)
 (case e19=>exact L2.eZ fun _=>rfl)
 refine' L2.cz KX G "order_words" My.fP ["order"] ?a20 ?b20 ?c20 ?d20 ?e20 fun d19 Xj=>?z20
 (case a20|b20|c20|d20=>k_is)
 (case e20=>exact L2.eZ fun _=>rfl)
 refine' L2.cz KX G "order_in_words" My.bW ["words"] ?a21 ?b21 ?c21 ?d21 ?e21 fun d20 F20=>?z21
 (case a21|b21|c21|d21=>k_is)
 (case e21=>exact L2.eZ fun _=>rfl)
 refine' L2.cz KX G "is_value_text" My.eF ["text"] ?a22 ?b22 ?c22 ?d22 ?e22 fun d21 Xk=>?z22
 (case a22|b22|c22|d22=>k_is)
 (case e22=>exact L2.eZ fun _=>rfl)
 refine' L2.cz KX G "value_of_text" My.eG ["text"] ?a23 ?b23 ?c23 ?d23 ?e23 fun d22 Xl=>?z23
 (case a23|b23|c23|d23=>k_is)
 (case e23=>exact L2.eZ fun _=>rfl)
 refine' L2.cz KX G "is_number_text" My.bX ["text","most"] ?a24 ?b24 ?c24 ?d24 ?e24 fun d23 Xm=>?z24
 (case a24|b24|c24|d24=>k_is)
 (case e24=>exact L2.ln2 fun _ _=>rfl)
 refine' L2.cz KX G "check_sieve" My.dS ["columns","sieve"] ?a25 ?b25 ?c25 ?d25 ?e25 fun d24 F24=>?z25
 (case a25|b25|c25|d25=>k_is)
 (case e25=>exact L2.ln2 fun _ _=>rfl)
 refine' L2.cz KX G "is_formed" My.fB ["columns","thing"] ?a26 ?b26 ?c26 ?d26 ?e26 fun d25 Xn=>?z26
 (case a26|b26|c26|d26=>k_is)
 (case e26=>exact L2.ln2 fun _ _=>rfl)
 refine' L2.cz KX G "is_short_tuple" My.dF ["thing"] ?a27 ?b27 ?c27 ?d27 ?e27 fun d26 Xo=>?z27
 (case a27|b27|c27|d27=>k_is)
 (case e27=>exact L2.eZ fun _=>rfl)
 refine' L2.cz KX G "fits_column" My.fQ ["columns","sieve"] ?a28 ?b28 ?c28 ?d28 ?e28 fun d27 Xp=>?z28
 (case a28|b28|c28|d28=>k_is)
 (case e28=>exact L2.ln2 fun _ _=>rfl)
 refine' L2.cz KX G "sieves_within" My.eH ["sieves"] ?a29 ?b29 ?c29 ?d29 ?e29 fun d28 Xq=>?z29
 (case a29|b29|c29|d29=>k_is)
 (case e29=>exact L2.eZ fun _=>rfl)
 refine' L2.cz KX G "show_row" My.gJ ["row"] ?a30 ?b30 ?c30 ?d30 ?e30 fun d29 F29=>?z30
 (case a30|b30|c30|d30=>k_is)
 (case e30=>exact L2.eZ fun _=>rfl)
 refine' L2.cz KX G "show_order" My.gL ["order"] ?a31 ?b31 ?c31 ?d31 ?e31 fun d30 Xr=>?z31
 (case a31|b31|c31|d31=>k_is)
 (case e31=>exact L2.eZ fun _=>rfl)
 refine' L2.cz KX G "show_columns" My.cZ ["columns"] ?a32 ?b32 ?c32 ?d32 ?e32 fun d31 Xs=>?z32
 (case a32|b32|c32|d32=>k_is)
 (case e32=>exact L2.eZ fun _=>rfl)
 refine' L2.cz KX G "show_sieve" My.gM ["sieve"] ?a33 ?b33 ?c33 ?d33 ?e33 fun d32 F32=>?z33
 (case a33|b33|c33|d33=>k_is)
 (case e33=>exact L2.eZ fun _=>rfl)
 refine' L2.cz KX G "inner_texts" My.dU ["sieve"] ?a34 ?b34 ?c34 ?d34 ?e34 fun d33 Xt=>?z34
 (case a34|b34|c34|d34=>k_is)
 (case e34=>exact L2.eZ fun _=>rfl)
 refine' L2.cz KX G "read_row" My.jX ["columns","text"] ?a35 ?b35 ?c35 ?d35 ?e35 fun d34 Xu=>?z35
 (case a35|b35|c35|d35=>k_is)
 (case e35=>exact L2.ln2 fun _ _=>rfl)
 refine' L2.cz KX G "read_order" My.gN ["columns","text"] ?a36 ?b36 ?c36 ?d36 ?e36 fun d35 F35=>?z36
 (case a36|b36|c36|d36=>k_is)
 (case e36=>exact L2.ln2 fun _ _=>rfl)
 refine' L2.cz KX G "read_sieve" My.gO ["columns","text"] ?a37 ?b37 ?c37 ?d37 ?e37 fun d36 Xv=>?z37
 (case a37|b37|c37|d37=>k_is)
 (case e37=>exact L2.ln2 fun _ _=>rfl)
 refine' L2.cz KX G "read_columns" My.e_ ["text"] ?a38 ?b38 ?c38 ?d38 ?e38 fun d37 Xw=>?z38
 (case a38|b38|c38|d38=>k_is)
 (case e38=>exact L2.eZ fun _=>rfl)
 refine' L2.cz KX G "row_in" My.kJ ["text"] ?a39 ?b39 ?c39 ?d39 ?e39 fun d38 Xx=>?z39
 (case a39|b39|c39|d39=>k_is)
 (case e39=>exact L2.eZ fun _=>rfl)
 refine' L2.cz KX G "order_in" My.jY ["text"] ?a40 ?b40 ?c40 ?d40 ?e40 fun d39 F39=>?z40
 (case a40|b40|c40|d40=>k_is)
 (case e40=>exact L2.eZ fun _=>rfl)
 refine' L2.cz KX G "columns_in" My.eO ["text"] ?a41 ?b41 ?c41 ?d41 ?e41 fun d40 Xy=>?z41
 (case a41|b41|c41|d41=>k_is)
 (case e41=>exact L2.eZ fun _=>rfl)
 refine' L2.cz KX G "sieve_in" My.jZ ["text"] ?a42 ?b42 ?c42 ?d42 ?e42 fun d41 Xz=>?z42
 (case a42|b42|c42|d42=>k_is)
 (case e42=>exact L2.eZ fun _=>rfl)
 refine' L2.cz KX G "sieve_of" My.j4 ["things"] ?a43 ?b43 ?c43 ?d43 ?e43 fun d42 XB=>?z43
 (case a43|b43|c43|d43=>k_is)
 (case e43=>exact L2.eZ fun _=>rfl)
 refine' L2.cz KX G "are_words" My.fC ["things"] ?a44 ?b44 ?c44 ?d44 ?e44 fun d43 XD=>?z44
 (case a44|b44|c44|d44=>k_is)
 (case e44=>exact L2.eZ fun _=>rfl)
 refine' L2.cz KX G "are_sieves" My.eP ["things"] ?a45 ?b45 ?c45 ?d45 ?e45 fun d44 XE=>?z45
 (case a45|b45|c45|d45=>k_is)
 (case e45=>exact L2.eZ fun _=>rfl)
 refine' L2.cz KX G "words_of" My.j5 ["text"] ?a46 ?b46 ?c46 ?d46 ?e46 fun d45 XF=>?z46
 (case a46|b46|c46|d46=>k_is)
 (case e46=>exact L2.eZ fun _=>rfl)
 refine' L2.cz KX G "check_names" My.fR ["words"] ?a47 ?b47 ?c47 ?d47 ?e47 fun d46 XG=>?z47
 (case a47|b47|c47|d47=>k_is)
 (case e47=>exact L2.eZ fun _=>rfl)
 refine' L2.cz KX G "value_in_word" My.eI ["word"] ?a48 ?b48 ?c48 ?d48 ?e48 fun d47 XH=>?z48
 (case a48|b48|c48|d48=>k_is)
 (case e48=>exact L2.eZ fun _=>rfl)
 refine' L2.cz KX G "_law_well" My.oV ["_law_script","_law_k"] ?a49 ?b49 ?c49 ?d49 ?e49 fun d48 XI=>?z49
 (case a49|b49|c49|d49=>k_is)
 (case e49=>exact L2.ln2 fun _ _=>rfl)
 refine' L2.cz KX G "_law_draw" My.oW ["_law_well_here","_law_most"] ?a50 ?b50 ?c50 ?d50 ?e50 fun d49 XJ=>?z50
 (case a50|b50|c50|d50=>k_is)
 (case e50=>exact L2.ln2 fun _ _=>rfl)
 refine' L2.cz KX G "_law_columns" My.iH ["_law_well_here"] ?a51 ?b51 ?c51 ?d51 ?e51 fun d50 XM=>?z51
 (case a51|b51|c51|d51=>k_is)
 (case e51=>exact L2.eZ fun _=>rfl)
 refine' L2.cz KX G "_law_number" My.j6 ["_law_well_here"] ?a52 ?b52 ?c52 ?d52 ?e52 fun d51 XN=>?z52
 (case a52|b52|c52|d52=>k_is)
 (case e52=>exact L2.eZ fun _=>rfl)
 refine' L2.cz KX G "_law_word" My.kK ["_law_well_here"] ?a53 ?b53 ?c53 ?d53 ?e53 fun d52 XO=>?z53
 (case a53|b53|c53|d53=>k_is)
 (case e53=>exact L2.eZ fun _=>rfl)
 refine' L2.cz KX G "_law_value" My.l5 ["_law_well_here","_law_kind"] ?a54 ?b54 ?c54 ?d54 ?e54 fun d53 XQ=>?z54
 (case a54|b54|c54|d54=>k_is)
 (case e54=>exact L2.ln2 fun _ _=>rfl)
 refine' L2.cz KX G "_law_key" My.sX ["_law_well_here"] ?a55 ?b55 ?c55 ?d55 ?e55 fun d54 XR=>?z55
 (case a55|b55|c55|d55=>k_is)
 (case e55=>exact L2.eZ fun _=>rfl)
 refine' L2.cz KX G "_law_leaf" My.kL ["_law_well_here","_law_columns_here"] ?a56 ?b56 ?c56 ?d56 ?e56 fun d55 XS=>?z56
 (case a56|b56|c56|d56=>k_is)
 (case e56=>exact L2.ln2 fun _ _=>rfl)
 refine' L2.cz KX G "_law_sieve" My.l6 ["_law_well_here","_law_columns_here","_law_deep","_law_room"] ?a57 ?b57 ?c57 ?d57 ?e57 fun d56 XT=>?z57
 (case a57|b57|c57|d57=>k_is)
 (case e57=>exact L2.Ss fun _ _ _ _=>rfl)
 refine' L2.cz KX G "_law_order" My.l7 ["_law_well_here","_law_columns_here"] ?a58 ?b58 ?c58 ?d58 ?e58 fun d57 XU=>?z58
 (case a58|b58|c58|d58=>k_is)
 (case e58=>exact L2.ln2 fun _ _=>rfl)
 refine' L2.cz KX G "_law_value_text" My.fb ["_law_value_here"] ?a59 ?b59 ?c59 ?d59 ?e59 fun d58 XW=>?z59
 (case a59|b59|c59|d59=>k_is)
 (case e59=>exact L2.eZ fun _=>rfl)
 refine' L2.cz KX G "_law_sieve_text" My.c_ ["_law_sieve_here"] ?a60 ?b60 ?c60 ?d60 ?e60 fun d59 XX=>?z60
 (case a60|b60|c60|d60=>k_is)
 (case e60=>exact L2.eZ fun _=>rfl)
 refine' L2.cz KX G "_law_order_text" My.de ["_law_order_here"] ?a61 ?b61 ?c61 ?d61 ?e61 fun d60 XY=>?z61
 (case a61|b61|c61|d61=>k_is)
 (case e61=>exact L2.eZ fun _=>rfl)
 refine' L2.cz KX G "_law_row_text" My.eQ ["_law_row"] ?a62 ?b62 ?c62 ?d62 ?e62 fun d61 XZ=>?z62
 (case a62|b62|c62|d62=>k_is)
 (case e62=>exact L2.eZ fun _=>rfl)
 refine' L2.cz KX G "_law_columns_text" My.bY ["_law_columns_here"] ?a63 ?b63 ?c63 ?d63 ?e63 fun d62 X0=>?z63
 (case a63|b63|c63|d63=>k_is)
 (case e63=>exact L2.eZ fun _=>rfl)
 refine' L2.cz KX G "_law_plain" My.f9 ["_law_thing"] ?a64 ?b64 ?c64 ?d64 ?e64 fun d63 X1=>?z64
 (case a64|b64|c64|d64=>k_is)
 (case e64=>exact L2.eZ fun _=>rfl)
 refine' L2.cz KX G "_law_written" My.iI ["_law_columns_here","_law_row","_law_order_here","_law_sieve_here"] ?a65 ?b65 ?c65 ?d65 ?e65 fun d64 X2=>?z65
 (case a65|b65|c65|d65=>k_is)
 (case e65=>exact L2.Ss fun _ _ _ _=>rfl)
 refine' L2.cz KX G "_law_read" My.oX ["_law_columns_here","_law_row","_law_order_here","_law_sieve_here"] ?a66 ?b66 ?c66 ?d66 ?e66 fun d65 X3=>?z66
 (case a66|b66|c66|d66=>k_is)
 (case e66=>exact L2.Ss fun _ _ _ _=>rfl)
 refine' L2.Wa KX G "law" My.vf ["_law_script"] ?a67 ?b67 ?c67 ?d67 ?e67 fun d66 e66 X4 X5=>?z67
 (case a67|b67|c67|d67=>k_is)
 (case e67=>exact L2.eZ fun _=>rfl)
 refine' L2.GZ KX G "MOST_NAME_SIGNS" 8 ?a68 fun lE=>?z68
 (case a68=>k_is)
 refine' L2.GZ KX G "MOST_KEY_SIGNS" 12 ?a69 fun mJ=>?z69
 (case a69=>k_is)
 refine' L2.GZ KX G "MOST_WORD_SIGNS" 40 ?a70 fun lF=>?z70
 (case a70=>k_is)
 refine' L2.GZ KX G "MOST_COLUMNS" 8 ?a71 fun qm=>?z71
 (case a71=>k_is)
 refine' L2.GZ KX G "MOST_PARTS_orders" 8 ?a72 fun jr=>?z72
 (case a72=>k_is)
 refine' L2.GZ KX G "MOST_NUMBER_FIGURES" 60 ?a73 fun ip=>?z73
 (case a73=>k_is)
 refine' L2.GZ KX G "MOST_DEEP" 8 ?a74 fun wC=>?z74
 (case a74=>k_is)
 refine' L2.GZ KX G "MOST_PARTS_sieves" 200 ?a75 fun js=>?z75
 (case a75=>k_is)
 refine' L2.GZ KX G "MOST_IN_A_TUPLE" 8 ?a76 fun lG=>?z76
 (case a76=>k_is)
 refine' L2.N7 KX G "KINDS" ?a77 ?b77 fun HJ w_KINDS=>?z77
 (case a77|b77=>k_is)
 refine' L2.N7 KX G "COLUMN_WORDS" ?a78 ?b78 fun qo w_COLUMN_WORDS=>?z78
 (case a78|b78=>k_is)
 refine' L2.N7 KX G "OTHER_WAY" ?a79 ?b79 fun wD w_OTHER_WAY=>?z79
 (case a79|b79=>k_is)
 refine' L2.N7 KX G "OTHER_END" ?a80 ?b80 fun wF w_OTHER_END=>?z80
 (case a80|b80=>k_is)
 refine' L2.N7 KX G "LENGTHS" ?a81 ?b81 fun CC w_LENGTHS=>?z81
 (case a81|b81=>k_is)
 refine' L2.CI KX G "len" ?a82 fun OX=>?z82
 (case a82=>k_is)
 refine' L2.CI KX G "all" ?a83 fun OY=>?z83
 (case a83=>k_is)
 refine' L2.CI KX G "isinstance" ?a84 fun ux=>?z84
 (case a84=>k_is)
 refine' L2.CI KX G "range" ?a85 fun HK=>?z85
 (case a85=>k_is)
 refine' L2.CI KX G "int" ?a86 fun OZ=>?z86
 (case a86=>k_is)
 refine' L2.CI KX G "str" ?a87 fun O5=>?z87
 (case a87=>k_is)
 refine' L2.CI KX G "bool" ?a88 fun Ln=>?z88
 (case a88=>k_is)
 refine' L2.CI KX G "tuple" ?a89 fun HL=>?z89
 (case a89=>k_is)
 refine' L2.CI KX G "list" ?a90 fun Lo=>?z90
 (case a90=>k_is)
 refine' L2.CI KX G "dict" ?a91 fun Lp=>?z91
 (case a91=>k_is)
 refine' L2.CI KX G "set" ?a92 fun O6=>?z92
 (case a92=>k_is)
 refine' L2.CI KX G "zip" ?a93 fun O7=>?z93
 (case a93=>k_is)
 refine' L2.N8 KX G "BadColumns" ?a94 ?b94 fun uy dk=>?z94
 (case a94=>k_is)
 (case b94=>k_exc)
 refine' L2.N8 KX G "BadRow" ?a95 ?b95 fun Fv iY=>?z95
 (case a95=>k_is)
 (case b95=>k_exc)
 refine' L2.N8 KX G "BadOrder" ?a96 ?b96 fun y9 cN=>?z96
 (case a96=>k_is)
 (case b96=>k_exc)
 refine' L2.N8 KX G "BadSieve" ?a97 ?b97 fun y_ gT=>?z97
 (case a97=>k_is)
 (case b97=>k_exc)
 refine' L2.N8 KX G "NoText" ?a98 ?b98 fun Fw dm=>?z98
 (case a98=>k_is)
 (case b98=>k_exc)
 exact⟨⟨_,_,_,_,_,_,_,_,_,_,_,_,_,_,_,_,_,_,_,_,_,_,_,_,_,_,_,_,_,_,_,_,_,_,_,_,_,_,_,_,_,_,_,_,_,_,_,_,_,_,_,_,_,_,_,_,_,_,_,_,_,_,_,_,_,_,_,_,_,_,_,_,_,_,_,_,_,_,_,_,_,_,_,_,_,_,_,_,_,_,_,_,_,_,_,_,_,_,_,_,_,_,_,_,_,_,_,_,_,_,_,_,_,_,_,_,_,_,_,_,_,_,_,_,_,_,_,_,_,_,_,_,_,_,_,_,_,_,_,_,_,_,_,_,_,_,_,_,_,_,_,_,_⟩,⟨F0,F1,F2,F3,F4,F5,F6,F7,F8,F9,Xb,Xc,Xd,Xe,Xf,Xg,Xh,F17,Xi,Xj,F20,Xk,Xl,Xm,F24,Xn,Xo,Xp,Xq,F29,Xr,Xs,F32,Xt,Xu,F35,Xv,Xw,Xx,F39,Xy,Xz,XB,XD,XE,XF,XG,XH,XI,XJ,XM,XN,XO,XQ,XR,XS,XT,XU,XW,XX,XY,XZ,X0,X1,X2,X3,X5,lE,mJ,lF,qm,jr,ip,wC,js,lG,HJ,fun H=>L2.Dw (xs:=[.str "number",.str "word"]) ⟨_,_,_,w_KINDS,rfl,rfl,(by rw[yx];show 2≤16777216;decide),.cons ⟨_,rfl⟩ (.cons ⟨_,rfl⟩ (.nil))⟩ (L2.nQ ["number","word"]),qo,fun H=>L2.Dw (xs:=[.str "is",.str "below",.str "above",.str "begins"]) ⟨_,_,_,w_COLUMN_WORDS,rfl,rfl,(by rw[yx];show 4≤16777216;decide),.cons ⟨_,rfl⟩ (.cons ⟨_,rfl⟩ (.cons ⟨_,rfl⟩ (.cons ⟨_,rfl⟩ (.nil))))⟩ (L2.nQ ["is","below","above","begins"]),wD,⟨by first|rfl|decide,_,_,_,w_OTHER_WAY,⟨rfl,rfl,rfl⟩,rfl,.cons ⟨rfl,⟨_,rfl⟩,⟨_,rfl⟩⟩ (.cons ⟨rfl,⟨_,rfl⟩,⟨_,rfl⟩⟩ (.nil)),by trivial⟩,wF,⟨by first|rfl|decide,_,_,_,w_OTHER_END,⟨rfl,rfl,rfl⟩,rfl,.cons ⟨rfl,⟨_,rfl⟩,⟨_,rfl⟩⟩ (.cons ⟨rfl,⟨_,rfl⟩,⟨_,rfl⟩⟩ (.nil)),by trivial⟩,CC,⟨by first|rfl|decide,_,_,_,w_LENGTHS,⟨rfl,rfl,rfl⟩,rfl,.cons ⟨rfl,⟨_,rfl⟩,⟨_,rfl⟩⟩ (.cons ⟨rfl,⟨_,rfl⟩,⟨_,rfl⟩⟩ (.cons ⟨rfl,⟨_,rfl⟩,⟨_,rfl⟩⟩ (.cons ⟨rfl,⟨_,rfl⟩,⟨_,rfl⟩⟩ (.cons ⟨rfl,⟨_,rfl⟩,⟨_,rfl⟩⟩ (.cons ⟨rfl,⟨_,rfl⟩,⟨_,rfl⟩⟩ (.cons ⟨rfl,⟨_,rfl⟩,⟨_,rfl⟩⟩ (.cons ⟨rfl,⟨_,rfl⟩,⟨_,rfl⟩⟩ (.cons ⟨rfl,⟨_,rfl⟩,⟨_,rfl⟩⟩ (.nil))))))))),by trivial⟩,OX,OY,ux,HK,OZ,O5,Ln,HL,Lo,Lp,O6,O7,uy,dk,Fv,iY,y9,cN,y_,gT,Fw,dm,fun s v=>X4 s [v] rfl⟩⟩
