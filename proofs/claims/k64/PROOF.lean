import PyProof.Rows.All
import Wide.All
import OpenK.AllK
import Wide.FinOn
import Lean
import PyProof.EqAt
import PyProof.EqKinds
import PyProof.TupleCall
import PyProof.NsDelKeeps
import KE.KIsBytes
import PyProof.Rows.SetFrom
import KE.KDictOf
import PyProof.AttrMissSeq
import PyProof.WalksMore
import PyProof.ZipIter
import PyProof.StrBlock2
import PyProof.StrBlockI
import PyProof.Rows.StrJoin2
import PyProof.Rows.CountFlat
import PyProof.Rows.Range3
import PyProof.SumWalkG
import PyProof.Rows.ListMulArg
import PyProof.FactsAll.tuple
import PyProof.EnumFor
import PyProof.EnumMake
import KE.KDictLaws
import KE.KDictSum
import KE.KRevIter
import PyProof.Rows.SortStr
import PyProof.Rows.SortWalk
import PyProof.AutoListH
import PyProof.StrLawsReplace
import PyProof.Rows.SortShellK
import KE.KLam
import KE.KSortKey
import KE.KNestM
import PyProof.EnumStmt
import PyProof.ListMulRoad
import PySem.Challenge.RW_pageturns_k64_texts_of_no_sieve
set_option compiler.extract_closed false
local macro_rules|`(tactic| trivial)=>`(tactic| decide +kernel)
set_option Elab.async false
set_option linter.all false
set_option maxRecDepth 100000
namespace Tactic
open PySem.W (instObj methodObj hideAll hideAll_get of_hideAll Frag lookIn plainGet findIn specialIn isFn keepIn mroIn kitOne kia_one kitx_list fnOf codeIn excIn Looks looks_findIn KitX kitAny codeHdIn tabObj nsIn mg_of)
theorem za:type_of% @List.length_map:=@List.length_map
theorem zb:type_of% @List.length_cons:=@List.length_cons
theorem zc:type_of% @List.mem_cons:=@List.mem_cons
theorem zd:type_of% @List.mem_cons_of_mem:=@List.mem_cons_of_mem
theorem ze:type_of% @of_decide_eq_true:=@of_decide_eq_true
theorem zf:type_of% @List.mem_cons_self:=@List.mem_cons_self
theorem zg:type_of% @List.length_append:=@List.length_append
theorem zh:type_of% @decide_eq_false:=@decide_eq_false
theorem zi:type_of% @Nat.le_refl:=@Nat.le_refl
theorem zj:type_of% @of_decide_eq_false:=@of_decide_eq_false
theorem zk:type_of% @Bool.false_ne_true:=@Bool.false_ne_true
theorem zl:type_of% @Bool.false_and:=@Bool.false_and
theorem zm:type_of% @Bool.and_eq_true:=@Bool.and_eq_true
theorem zo:type_of% @Nat.lt_of_lt_of_le:=@Nat.lt_of_lt_of_le
theorem zp:type_of% @PySem.wpAny_bind:=@PySem.wpAny_bind
theorem zq:type_of% @Bool.true_and:=@Bool.true_and
theorem zr:type_of% @decide_eq_true:=@decide_eq_true
theorem zt:type_of% @PySem.Heap.get?_push_of_some:=@PySem.Heap.get?_push_of_some
theorem zu:type_of% @List.size_toArray:=@List.size_toArray
theorem zw:type_of% @List.not_mem_nil:=@List.not_mem_nil
theorem zx:type_of% @decide_eq_true_eq:=@decide_eq_true_eq
theorem zy:type_of% @decide_eq_decide:=@decide_eq_decide
theorem zz:type_of% @List.map_cons:=@List.map_cons
theorem zA:type_of% @PySem.Heap.lt_size:=@PySem.Heap.lt_size
theorem zB:type_of% @PySem.wpAny_pure:=@PySem.wpAny_pure
theorem zC:type_of% @List.mem_map:=@List.mem_map
theorem zD:type_of% @List.eq_nil_of_length_eq_zero:=@List.eq_nil_of_length_eq_zero
theorem zE:type_of% @List.append_nil:=@List.append_nil
theorem zF:type_of% @List.length_drop:=@List.length_drop
theorem zG:type_of% @Nat.le_trans:=@Nat.le_trans
theorem zH:type_of% @PySem.F.plainAttrs_str:=@PySem.F.plainAttrs_str
theorem zI:type_of% @List.append_assoc:=@List.append_assoc
theorem zJ:type_of% @List.getElem?_eq_getElem:=@List.getElem?_eq_getElem
theorem zK:type_of% @Nat.ne_of_lt:=@Nat.ne_of_lt
theorem zL:type_of% @List.getElem?_eq_some_iff:=@List.getElem?_eq_some_iff
theorem zM:type_of% @List.mem_singleton:=@List.mem_singleton
theorem zN:type_of% @PySem.F.plainAttrs_list:=@PySem.F.plainAttrs_list
theorem zO:type_of% @Option.some.inj:=@Option.some.inj
theorem zP:type_of% @List.mem_append_right:=@List.mem_append_right
theorem zQ:type_of% @List.lookup_cons:=@List.lookup_cons
theorem zR:type_of% @List.map_map:=@List.map_map
theorem zS:type_of% @List.all_eq_true:=@List.all_eq_true
theorem zT:type_of% @List.map_append:=@List.map_append
theorem zU:type_of% @PySem.Heap.get?_push_size:=@PySem.Heap.get?_push_size
theorem zV:type_of% @Array.length_toList:=@Array.length_toList
theorem zW:type_of% @List.mem_append:=@List.mem_append
theorem zX:type_of% @List.forall_mem_cons:=@List.forall_mem_cons
theorem zY:type_of% @List.all_cons:=@List.all_cons
theorem zZ:type_of% @List.getElem?_map:=@List.getElem?_map
theorem z0:type_of% @List.mem_of_getElem?:=@List.mem_of_getElem?
theorem ya:type_of% @List.take_succ_cons:=@List.take_succ_cons
theorem yb:type_of% @PySem.F.slot_list_append:=@PySem.F.slot_list_append
theorem yc:type_of% @PySem.F.type_list_append:=@PySem.F.type_list_append
theorem yd:type_of% @List.mem_append_left:=@List.mem_append_left
theorem ye:type_of% @PySem.Calls.spliced_cons:=@PySem.Calls.spliced_cons
theorem yf:type_of% @List.cons_append:=@List.cons_append
theorem yg:type_of% @List.take_of_length_le:=@List.take_of_length_le
theorem yh:type_of% @PySem.F.slot_str_join:=@PySem.F.slot_str_join
theorem yi:type_of% @PySem.F.type_str_join:=@PySem.F.type_str_join
theorem yj:type_of% @Nat.zero_le:=@Nat.zero_le
theorem yk:type_of% @PySem.wpAny_mono:=@PySem.wpAny_mono
theorem ym:type_of% @Bool.false_or:=@Bool.false_or
theorem yn:type_of% @PySem.sizeLine_eq:=@PySem.sizeLine_eq
theorem yo:type_of% @List.drop_zero:=@List.drop_zero
theorem yp:type_of% @PySem.wpAny_truthy_bool:=@PySem.wpAny_truthy_bool
theorem yq:type_of% @List.flatMap_cons:=@List.flatMap_cons
theorem yr:type_of% @PySem.mem_of_lookup:=@PySem.mem_of_lookup
theorem yt:type_of% @Bool.eq_iff_iff:=@Bool.eq_iff_iff
theorem yu:type_of% @List.nodup_cons:=@List.nodup_cons
theorem yw:type_of% @List.find?_cons:=@List.find?_cons
theorem yx:type_of% @List.take_zero:=@List.take_zero
theorem yy:type_of% @List.sum_cons:=@List.sum_cons
theorem yz:type_of% @PyProof.Rows.join_cons_cons:=@PyProof.Rows.join_cons_cons
theorem yA:type_of% @Nat.lt_irrefl:=@Nat.lt_irrefl
theorem yB:type_of% @PySem.call_meets:=@PySem.call_meets
theorem yC:type_of% @List.any_cons:=@List.any_cons
theorem yD:type_of% @Bool.and_true:=@Bool.and_true
theorem yE:type_of% @Int.le_refl:=@Int.le_refl
namespace L2
open PySem PySem.Spec PyProof.Rows
abbrev Key:=Sum Int Str
def keyIs:Key→Value→Bool
 |.inl k,v=>Value.isInt k v
 |.inr x,v=>Value.isStrOf x v
def Nm(w:World):Key→Int
 |.inl k=>hashInt k
 |.inr x=>hashStr w x
theorem bx:∀{k:Key}{v:Value},keyIs k v=true→(∃i t,k=Sum.inl i∧v=Value.int i t)∨(∃x t,k=Sum.inr x∧v=Value.str x t)
 |.inl i,v,h=>by
  obtain⟨t,e⟩:=Value.isInt_shape (k:=i) (v:=v) h
  exact .inl ⟨i,t,rfl,e⟩
 |.inr x,v,h=>by
  obtain⟨t,e⟩:=Value.isStrOf_shape (x:=x) (v:=v) h
  exact .inr ⟨x,t,rfl,e⟩
theorem xD(i:Int)(t:Tok):keyIs (.inl i) (.int i t)=true:=by simp [keyIs,Value.isInt]
theorem xE(x:Str)(t:Tok):keyIs (.inr x) (.str x t)=true:=by simp [keyIs,Value.isStrOf]
theorem Gp(a b:Int):decide ((Sum.inl a:Key)=Sum.inl b)=(a == b):=by
 by_cases e:a=b
 ·subst e;simp
 ·have h:¬ (Sum.inl a:Key)=Sum.inl b:=fun q=>e (Sum.inl.inj q)
  rw[zh h]
  exact (beq_eq_false_iff_ne.mpr e).symm
theorem Gq(a b:Str):decide ((Sum.inr a:Key)=Sum.inr b)=decide (a=b):=by
 by_cases e:a=b
 ·subst e;simp
 ·have h:¬ (Sum.inr a:Key)=Sum.inr b:=fun q=>e (Sum.inr.inj q)
  rw[zh h,zh e]
theorem Gr(a:Int)(b:Str):decide ((Sum.inl a:Key)=Sum.inr b)=false:=zh (fun q=>nomatch q)
theorem Gs(a:Str)(b:Int):decide ((Sum.inr a:Key)=Sum.inl b)=false:=zh (fun q=>nomatch q)
def aG(prog:Program)(w:World):PySem.KeyKind prog w Key where
 is:=keyIs
 hash:=Nm w
 inj:=fun v a b ha hb=>by
  rcases bx ha with ⟨i,t,rfl,rfl⟩|⟨x,t,rfl,rfl⟩
  ·rcases bx hb with ⟨j,u,rfl,e⟩|⟨y,u,rfl,e⟩
   ·injection e with e1 _;rw[e1]
   ·exact nomatch e
  ·rcases bx hb with ⟨j,u,rfl,e⟩|⟨y,u,rfl,e⟩
   ·exact nomatch e
   ·injection e with e1 _;rw[e1]
 byValue:=fun k v h=>by
  rcases bx h with ⟨i,t,rfl,rfl⟩|⟨x,t,rfl,rfl⟩ <;> rfl
 pyHash:=fun hv h=>by
  rcases bx hv with ⟨i,t,rfl,rfl⟩|⟨x,t,rfl,rfl⟩
  ·exact wpAny_pyHash_int h
  ·exact wpAny_pyHash_str h
 eqBool:=fun hu hv h=>by
  rcases bx hu with ⟨i,t,rfl,rfl⟩|⟨x,t,rfl,rfl⟩
  ·rcases bx hv with ⟨j,u,rfl,rfl⟩|⟨y,u,rfl,rfl⟩
   ·rw[Gp] at h;exact wpAny_eqBool_int h
   ·rw[Gr] at h;exact SeqAt.EqAt.int_str i t y u _ _ _ _ h
  ·rcases bx hv with ⟨j,u,rfl,rfl⟩|⟨y,u,rfl,rfl⟩
   ·rw[Gs] at h;exact SeqAt.EqAt.str_int x t j u _ _ _ _ h
   ·rw[Gq] at h;exact wpAny_eqBool_str h
 «strs»:=fun k x t v h=>by
  rcases bx h with ⟨i,u,rfl,e⟩|⟨y,u,rfl,e⟩
  ·exact nomatch e
  ·injection e with e1 _
   subst e1
   cases v <;> rfl
theorem rM(prog:Program)(w:World)(i:Int)(t:Tok):(aG prog w).is (.inl i) (.int i t)=true:=xD i t
theorem gW(prog:Program)(w:World)(x:Str)(t:Tok):(aG prog w).is (.inr x) (.str x t)=true:=xE x t
inductive V where
 |aK|bl (b:Bool)|int (i:Int)|str (x:Str)|xF (b:Array UInt8)|IX (b:UInt64)|ref (a:Addr)|ty (n:String)
 deriving DecidableEq
def RelV:V→Value→Prop
 |.aK,u=>u=Value.none
 |.bl b,u=>u=Value.bool b
 |.int i,u=>∃t,u=Value.int i t
 |.str x,u=>∃t,u=Value.str x t
 |.xF b,u=>∃t,u=Value.bytes b t
 |.IX b,u=>∃t,u=Value.float b t
 |.ref a,u=>u=Value.ref a
 |.ty n,u=>u=Value.type n
abbrev Vals:List V→List Value→Prop:=Paired RelV
theorem Vals.length{xs:List V}{us:List Value}(r:Vals xs us):xs.length=us.length:=Paired.length r
theorem Vals.get:∀{xs:List V}{us:List Value}{i:Nat}{x:V},Vals xs us→xs[i]?=some x→∃u,us[i]?=some u∧RelV x u
 |_,_,_,_,.nil,e=>by simp at e
 |_,_,0,_,.cons r _,e=>by simp at e;subst e;exact⟨_,rfl,r⟩
 |_,_,i+1,x,.cons _ t,e=>by
  obtain⟨u,h1,h2⟩:=Vals.get (i:=i) (x:=x) t (by simpa using e)
  exact⟨u,by simpa using h1,h2⟩
theorem Vals.set(r:RelV x u):∀{xs:List V}{us:List Value} (i:Nat),Vals xs us→Vals (xs.set i x) (us.set i u)
 |_,_,_,.nil=>.nil
 |_,_,0,.cons _ t=>.cons r t
 |_,_,i+1,.cons q t=>.cons q (Vals.set r i t)
theorem Vals.append:∀{xs ys:List V}{us ws:List Value},Vals xs us→Vals ys ws→Vals (xs++ys) (us++ws)
 |_,_,_,_,.nil,s=>s
 |_,_,_,_,.cons r t,s=>.cons r (Vals.append t s)
theorem Vals.take:∀{xs:List V}{us:List Value} (n:Nat),Vals xs us→Vals (xs.take n) (us.take n)
 |_,_,0,_=>.nil
 |_,_,_+1,.nil=>.nil
 |_,_,n+1,.cons r t=>.cons r (Vals.take n t)
theorem Vals.drop:∀{xs:List V}{us:List Value} (n:Nat),Vals xs us→Vals (xs.drop n) (us.drop n)
 |_,_,0,r=>r
 |_,_,_+1,.nil=>.nil
 |_,_,n+1,.cons _ t=>Vals.drop n t
def kQ:Option V→Option Value→Prop
 |some v,some u=>RelV v u
 |none,none=>True
 |_,_=>False
def KV{κ:Type} : List (κ×V)→List (κ×Value)→Prop:=Paired fun (p:κ×V) (q:κ×Value)=>p.1=q.1∧RelV p.2 q.2
def kV:Key→V
 |.inl i=>.int i
 |.inr x=>.str x
inductive HO where
  |lst (xs:List V)
  |tup (xs:List V)
  |dK (kvs:List (Key×V))|dT (kvs:List (List Key×V))
  |set (S:Int→Bool) (n:Nat)
  |ins (C dx:Addr) (fs:List (Str×V))
  |own (x:Addr)
  |xd (fs:List (Str×V))
  |met (f x:Addr)
  |Mn (lo hi:Int)
  |kR (o:Obj) (u:HO)
  |rN (ps:Array Value)
  |ext (φ:Heap→Prop)
abbrev Hp:=Addr→Option HO
def upd(H:Hp)(a:Addr)(o:HO):Hp:=fun b=>if b=a then some o else H b
theorem bN{H:Hp}{a:Addr}{o:HO} : upd H a o a=some o:=by unfold upd;rw[if_pos rfl]
theorem aH{H:Hp}{a b:Addr}{o:HO}(h:b≠a):upd H a o b=H b:=by unfold upd;rw[if_neg h]
theorem aE{H:Hp}{a b:Addr}{o:HO}(h:H a=some o)(h':H b=none):a≠b:=by
 intro e;subst e;rw[h] at h';cases h'
def fv(h:Heap)(a:Addr)(items:Array Value):Prop:=∃o,h.get? a=some o∧o.cls=.type "tuple" ∧ o.dict=none∧∃n,o.data=.seq items n
theorem fv.tup(x:fv h a items):IsTup h a items:=by obtain⟨o,e,c,_,n,d⟩:=x;exact⟨o,e,c,n,d⟩
theorem fv.lt(x:fv h a items):a<h.objs.size:=x.tup.lt
theorem fv.new(h:Heap)(items:Array Value):fv (h.push { cls:=.type "tuple",data:=.seq items }) h.objs.size items:=⟨_,zU _ rfl,rfl,rfl,_,rfl⟩
section
variable(P:Program)(w:World)
def bh(H:Hp)(h:Heap)(a:Addr):HO→Prop
 |.lst xs=>xs.length≤sizeLine∧∃(ao:List Value) (n:Nat),Vals xs ao∧h.get? a=some { cls:=.type "list",data:=.seq ao.toArray n }
 |.tup xs=>xs.length≤sizeLine∧∃ao:List Value,Vals xs ao∧fv h a ao.toArray
 |.dK kvs=>kvs.length≤sizeLine∧(a == sysModules)=false∧∃vs,KV kvs vs∧h.DictOf (aG P w) a vs
 |.dT _=>False
 |.set S n=>h.SetOf (intKind P w) a S n
 |.ins C dx fs=>H dx=some (.own a)∧fs.length≤1000∧dx≠a∧h.get? a=some (instObj C dx) ∧
   ∃mA,h.Ns1 dx mA∧(∀f,kQ (fs.lookup f) (mA f))∧PySem.Within mA (fs.map (·.1))
 |.own _=>∃o,h.get? a=some o
 |.xd fs=>∃mA,h.Ns1 a mA∧∀f,kQ (fs.lookup f) (mA f)
 |.Mn lo hi=>∃t u v,h.get? a=some { cls:=.type "range",data:=.fields #[.int lo t,.int hi u,.int 1 v] }
 |.kR o u=>h.get? a=some o∧bh H h a u
 |.rN ps=>h.get? a=some { cls:=.none,data:=.fields ps }
 |.met f x=>h.get? a=some (methodObj (.ref f) (.ref x))
 |.ext φ=>φ h∧(∃o,h.get? a=some o)∧∀h1 h2:Heap,φ h1→(∀o,h1.get? a=some o→h2.get? a=some o)→φ h2
def jb(H:Hp)(h:Heap):Prop:=∀a o,H a=some o→bh P w H h a o
end
section
variable{P:Program}{w:World}{H H':Hp}{h h':Heap}{a:Addr}{o:HO}
theorem bh.lt(x:bh P w H h a o):a<h.objs.size:=by
 cases o with
 |lst xs=>obtain⟨_,_,_,_,e⟩:=x;exact zA e
 |tup xs=>obtain⟨_,_,_,p⟩:=x;exact p.lt
 |dK kvs=>obtain⟨_,_,_,_,o,_,_,e,_⟩:=x;exact zA e
 |dT kvs=>exact False.elim x
 |set S n=>obtain⟨o,_,_,_,e,_⟩:=x;exact zA e
 |ins C dx fs=>obtain⟨_,_,_,e,_⟩:=x;exact zA e
 |own y=>obtain⟨_,e⟩:=x;exact zA e
 |xd fs=>obtain⟨_,⟨_,_,_,e,_⟩,_⟩:=x;exact zA e
 |Mn lo hi=>obtain⟨_,_,_,e⟩:=x;exact zA e
 |kR ob u=>obtain⟨e,_⟩:=x;exact zA e
 |rN ps=>exact zA (show h.get? a=some _ from x)
 |met f y=>exact zA (show h.get? a=some _ from x)
 |ext φ=>obtain⟨_,⟨_,e⟩,_⟩:=x;exact zA e
theorem bh.p_(x:bh P w H h a o)(k:∀b u,(b=a∨H b=some (.own a))→h.get? b=some u→h'.get? b=some u)
  (ho:∀b,H b=some (.own a)→H' b=some (.own a)) (ht:∀b xs,H b=some (.tup xs)→H' b=some (.tup xs)):bh P w H' h' a o:=by
 induction o with
 |lst xs=>obtain⟨z,ao,n,r,e⟩:=x;exact⟨z,ao,n,r,k _ _ (.inl rfl) e⟩
 |tup xs=>obtain⟨z,ao,r,ob,e,c⟩:=x;exact⟨z,ao,r,ob,k _ _ (.inl rfl) e,c⟩
 |dK kvs=>obtain⟨z,y,vs,r,ob,es,ep,e,c⟩:=x;exact⟨z,y,vs,r,ob,es,ep,k _ _ (.inl rfl) e,c⟩
 |dT kvs=>exact False.elim x
 |set S n=>obtain⟨ob,es,ep,t,e,c⟩:=x;exact⟨ob,es,ep,t,k _ _ (.inl rfl) e,c⟩
 |ins C dx fs =>
  obtain⟨d,z,ne,e,mA,⟨od,es,ep,e2,c⟩,r⟩:=x
  exact⟨ho _ d,z,ne,k _ _ (.inl rfl) e,mA,⟨od,es,ep,k _ _ (.inr d) e2,c⟩,r⟩
 |own y=>obtain⟨ob,e⟩:=x;exact⟨ob,k _ _ (.inl rfl) e⟩
 |xd fs=>obtain⟨mA,⟨od,es,ep,e,c⟩,r⟩:=x;exact⟨mA,⟨od,es,ep,k _ _ (.inl rfl) e,c⟩,r⟩
 |Mn lo hi=>obtain⟨t,u,v,e⟩:=x;exact⟨t,u,v,k _ _ (.inl rfl) e⟩
 |kR ob u ih=>obtain⟨e,q⟩:=x;exact⟨k _ _ (.inl rfl) e,ih q⟩
 |rN ps =>
  have e:h.get? a=some { cls:=.none,data:=.fields ps }:=x
  show h'.get? a=some { cls:=.none,data:=.fields ps }
  exact k a _ (.inl rfl) e
 |met f y =>
  have e:h.get? a=some (methodObj (.ref f) (.ref y)):=x
  show h'.get? a=some (methodObj (.ref f) (.ref y))
  exact k a _ (.inl rfl) e
 |ext φ=>obtain⟨p,⟨o,e⟩,st⟩:=x;exact⟨st _ _ p fun o q=>k _ _ (.inl rfl) q,⟨o,k _ _ (.inl rfl) e⟩,st⟩
theorem jb.lt(x:jb P w H h)(e:H a=some o):a<h.objs.size:=(x a o e).lt
theorem jb.fresh(x:jb P w H h)(e:h.objs.size≤a):H a=none:=by
 cases q:H a with
 |none=>rfl
 |some u=>exact absurd (zo (x.lt q) e) (yA _)
theorem jb.kept(x:jb P w H h)(k:∀b u,h.get? b=some u→h'.get? b=some u):jb P w H h':=fun a o e =>
 (x a o e).p_ (fun b u _ q=>k b u q) (fun _ q=>q) fun _ _ q=>q
theorem jb.laid(x:jb P w H h)(k:∀b u,h.get? b=some u→h'.get? b=some u)(hp:h.objs.size≤a)(new:bh P w (upd H a o) h' a o):jb P w (upd H a o) h':=fun b u e=>by
 have hn:=x.fresh hp
 by_cases hb:b=a
 ·subst hb;rw[bN] at e;cases e;exact new
 ·rw[aH hb] at e
  exact (x b u e).p_ (fun c v _ q=>k c v q) (fun c q=>by rw[aH (aE q hn)];exact q) fun c xs q=>by rw[aH (aE q hn)];exact q
end
def Rd(H:Hp)(a:Addr)(u:HO):Prop:=H a=some u∨∃o,H a=some (.kR o u)
theorem Rd.ok{P:Program}{w:World}{H:Hp}{h:Heap}{a:Addr}{u:HO}(r:Rd H a u)(x:jb P w H h):bh P w H h a u:=by
 rcases r with r|⟨o,r⟩
 ·exact x a u r
 ·obtain⟨_,q⟩:=x a _ r
  exact q
def Mo:Option HO→Prop
 |some (.lst _)=>True
 |some (.dK _)=>True
 |some (.dT _)=>True
 |some (.set _ _)=>True
 |some (.ins _ _ _)=>True
 |some (.ext _)=>True
 |_=>False
section
variable{P:Program}{w:World}{H:Hp}{h h':Heap}{x e:Addr}{o':HO}
theorem jb.write(ok:jb P w H h)(mu:Mo (H x))(he:e=x∨H e=some (.own x))(k:∀b u,b≠e→h.get? b=some u→h'.get? b=some u)(IY:∃u,h'.get? e=some u)
  (new:bh P w (upd H x o') h' x o'):jb P w (upd H x o') h':=fun b u q=>by
 have Jw:∀c y,H c=some (.own y)→c≠x:=fun c y r z=>by subst z;rw[r] at mu;exact mu
 have Nn:∀c xs,H c=some (.tup xs)→c≠x:=fun c xs r z=>by subst z;rw[r] at mu;exact mu
 by_cases hb:b=x
 ·subst hb;rw[bN] at q;cases q;exact new
 ·rw[aH hb] at q
  by_cases Gu:b=e
  ·have q':H b=some (.own x):=by
    rcases he with z|z
    ·exact absurd (Gu.trans z) hb
    ·rw[Gu];exact z
   rw[q] at q';cases q'
   obtain⟨v,hv⟩:=IY
   exact⟨v,by rw[Gu];exact hv⟩
  ·refine (ok b u q).p_ (fun c v hc r=>k c v ?_ r) (fun c r=>by rw[aH (Jw c b r)];exact r) fun c xs r=>by rw[aH (Nn c xs r)];exact r
   rcases hc with rfl|hc
   ·exact Gu
   ·rintro rfl
    rcases he with z|z
    ·exact Jw c b hc z
    ·rw[hc] at z;cases z;exact hb rfl
end
structure Un(fs ex:List Addr)(H H':Hp)(h h':Heap):Prop where
 keep:∀b o,h.get? b=some o→H b=none→b∉fs→b∉ex→h'.get? b=some o
 slot:∀b o,h.get? b=some o→H b=none→b∈fs→b∉ex→∃sl,h'.get? b=some { o with slots:=sl }
 free:∀b o,h.get? b=some o→H b=none→b∉ex→H' b=none
 there:∀b o,h.get? b=some o→b∉ex→∃o',h'.get? b=some o'
 dG:∀b xs,H b=some (.tup xs)→H' b=some (.tup xs)
 eY:∀b o u,H b=some (.kR o u)→H' b=some (.kR o u)
 eZ:∀b ps,H b=some (.rN ps)→∃more,H' b=some (.rN (ps++more))
section
variable{fs R7 ex VB:List Addr}{H H1 H2:Hp}{h h1 h2 h':Heap}{a x e:Addr}{o:HO}
theorem Un.any(u:Un fs ex H H1 h h1){b:Addr}{ob:Obj}(q:h.get? b=some ob)(n:H b=none)(hx:b∉ex):∃sl,h1.get? b=some { ob with slots:=sl }:=by
 by_cases hb:b∈fs
 ·exact u.slot b ob q n hb hx
 ·exact⟨ob.slots,u.keep b ob q n hb hx⟩
theorem Un.kept(k:∀b u,h.get? b=some u→h'.get? b=some u):Un fs ex H H h h' :=
 ⟨fun b ob q _ _ _=>k b ob q,fun b ob q _ _ _=>⟨ob.slots,k b ob q⟩,fun _ _ _ n _=>n,fun b ob q _=>⟨ob,k b ob q⟩,fun _ _ q=>q,fun _ _ _ q=>q,fun _ ps q=>⟨#[],by rw[q];simp⟩⟩
theorem Un.refl:Un fs ex H H h h:=Un.kept fun _ _ q=>q
theorem Un.laid(k:∀b u,h.get? b=some u→h'.get? b=some u)(hp:h.objs.size≤a)(hn:H a=none):Un fs ex H (upd H a o) h h' where
 keep:=fun b u q _ _ _=>k b u q
 slot:=fun b u q _ _ _=>⟨u.slots,k b u q⟩
 free:=fun b u q n _=>by rw[aH (zK (zo (zA q) hp))];exact n
 there:=fun b u q _=>⟨u,k b u q⟩
 dG:=fun b xs q=>by rw[aH (aE q hn)];exact q
 eY:=fun b u xs q=>by rw[aH (aE q hn)];exact q
 eZ:=fun b ps q=>⟨#[],by rw[aH (aE q hn),q];simp⟩
theorem Un.write(mu:Mo (H x))(he:e=x∨H e=some (.own x))(k:∀b u,b≠e→h.get? b=some u→h'.get? b=some u)(IY:∃u,h'.get? e=some u):Un fs ex H (upd H x o) h h':=by
 have hx:∀b,H b=none→b≠x:=fun b n z=>by subst z;rw[n] at mu;exact mu
 have hb:∀b,H b=none→b≠e:=fun b n z=>by
  subst z
  rcases he with r|r
  ·exact hx b n r
  ·rw[n] at r;cases r
 have hm:∀b u,H b=some u→¬ Mo (some u)→b≠x:=fun b u q nm z=>by subst z;rw[q] at mu;exact nm mu
 refine⟨fun b u q n _ _=>k b u (hb b n) q,fun b u q n _ _=>⟨u.slots,k b u (hb b n) q⟩,fun b u q n _=>by rw[aH (hx b n)];exact n,fun b u q _=>?_,
  fun b xs q=>by rw[aH (hm b _ q fun z=>z)];exact q,fun b u xs q=>by rw[aH (hm b _ q fun z=>z)];exact q,fun b ps q=>⟨#[],by rw[aH (hm b _ q fun z=>z),q];simp⟩⟩
 by_cases Gu:b=e
 ·subst Gu;exact IY
 ·exact⟨u,k b u Gu q⟩
end
def Mp(h:Heap)(H:Hp):List Addr:=(List.range h.objs.size).filter fun a=>(H a).isSome
def oy(h:Heap)(H:Hp):Heap:=hideAll h (Mp h H)
theorem xG(h:Heap)(H:Hp):(oy h H).objs.size=h.objs.size:=PySem.W.hideAll_size _ _
theorem AU(e:h.get? b=some o)(n:H b=none):(oy h H).get? b=some o :=
 hideAll_get _ e fun hm=>by
  have q:(H b).isSome=true:=(List.mem_filter.mp hm).2
  rw[n] at q;simp at q
theorem Du(e:(oy h H).get? b=some o):h.get? b=some o∧H b=none:=by
 have e':h.get? b=some o:=of_hideAll (Mp h H) e
 refine⟨e',?_⟩
 cases q:H b with
 |none=>rfl
 |some x =>
  have hm:b∈Mp h H:=List.mem_filter.mpr ⟨List.mem_range.mpr (zA e'),by simp [q]⟩
  have z:(oy h H).get? b=none:=PySem.W.hideAll_none (Mp h H) hm
  rw[z] at e;cases e
def Dw(g h:Heap)(L:Addr):List (Addr×Obj):=(List.range h.objs.size).filterMap fun a=>if a=L∨(g.get? a).isSome=true then none else (h.get? a).map fun o=>(a,o)
def rest(g h:Heap)(L d:Addr):List (Addr×Obj):=(Dw g h L).filter fun p=>decide (p.1≠d)
structure Mod(K:Frag)(mg:Str→Option Value)(base:Heap):Prop where
 Mq:K.In base
 glob:base.Ns mainGlobals mg
 blt:∃mb,base.Ns builtinsNs mb∧∀x:Str,x ≠ "__name__" → mb x=bootBuiltins x
 nolimit:base.NoLimit
structure Cx where
 prog:Program
 w:World
 K:Frag
 mg:Str→Option Value
 base:Heap
 A:Around
 N:List Str
 cH:Shared
 rO:Hp
 env:Env
 outer:List Env
 stack:List Env
 ex:List Addr
 fn:Str→Bool
 calm:Bool
 pn:List (Addr×Obj)
 xe:Value→Shared→Prop
def jO(l:List Env):List Addr:=l.filterMap (·.frame)
abbrev Cx.fs(X:Cx):List Addr:=jO X.outer
def IZ(sc:Scope)(x:Str):Prop:=sc.names.lookup x=some .local∨sc.names.lookup x=some .cell∨sc.names.lookup x=some .free
def Loc(sc:Scope)(x:Str):Prop:=sc.names.lookup x=some .local∨sc.names.lookup x=some .cell
def Look(env:Env)(h:Heap)(m:Str→Option Value)(x:Str)(u:Value):Prop :=
 (env.kindOf x=some .local∧m x=some u)∨((env.kindOf x=some .cell∨env.kindOf x=some .free)∧∃c,env.cells.lookup x=some c∧h.IsCell c (some u))
structure Cx.Ok(X:Cx):Prop where
 mod:Mod X.K X.mg X.base
 kind:X.env.scope.kind=.function
 glob:X.env.globals=mainGlobals
 blt:X.env.builtins=builtinsNs
 above:X.cH.heap.objs.size≤X.env.locals
 inj:∀x y c,X.env.cells.lookup x=some c→X.env.cells.lookup y=some c→x=y
 has:∀x,(X.env.kindOf x=some .cell∨X.env.kindOf x=some .free)→∃c,X.env.cells.lookup x=some c
 Gv:∀x c,X.fn x=true→X.env.cells.lookup x=some c→X.cH.heap.objs.size≤c
 hd:X.calm=true→X.A.handled=none
 frames:X.A.frames=some X.stack
 I_:X.stack=X.outer∨(X.stack=X.env::X.outer∧X.env.frame=some X.env.locals)
 Mr:∀b∈X.ex,b≠X.env.locals∧∀x c,X.env.cells.lookup x=some c→c≠b
 bs:∀b o,X.base.get? b=some o→X.cH.heap.get? b=some o∧X.rO b=none
 AV:X.base.objs.size≤X.cH.heap.objs.size
 uF:∀b o,X.base.get? b=some o→b∉X.ex
 xH:∀b∈X.ex,b∉X.fs
 jq:X.cH.heap.FunFrames X.base X.outer
 Dh:∀b∈X.fs,X.rO b=none
structure Inv(X:Cx)(pins:List (Addr×Obj))(σ:List (Option V))(H:Hp)(s:Shared):Prop where
 ok:X.Ok
 os:s.os=X.cH.os
 bare:AllBare s.gens
 base:Un X.fs X.ex X.rO H X.cH.heap s.heap
 loc:∃m,s.heap.Ns X.env.locals m∧∀(i:Nat) (x:Str) (v:V),X.N[i]?=some x→σ[i]?=some (some v)→IZ X.env.scope x→∃u,RelV v u∧Look X.env s.heap m x u
 cell:∀x c,X.env.cells.lookup x=some c→∃v,s.heap.IsCell c v
 free:H X.env.locals=none
 eE:∀x c,X.env.cells.lookup x=some c→H c=none
 pin:∀p∈X.pn++pins,s.heap.get? p.1=some p.2∧H p.1=none∧p.1≠X.env.locals∧p.1∉X.fs∧∀v,p.2.data≠.cell v
 aS:jb X.prog X.w H s.heap
 len:σ.length=X.N.length
section
variable{X:Cx}{pins:List (Addr×Obj)}{σ:List (Option V)}{H H':Hp}{s:Shared}{h':Heap}
theorem Cx.Ok.xI(ok:X.Ok)(e:X.base.get? b=some o):b∉X.fs:=fun hb=>by
 have:=(ok.jq.mem hb).1
 rw[e] at this;cases this
theorem Inv.bs(I:Inv X pins σ H s):∀b o,X.base.get? b=some o→s.heap.get? b=some o∧H b=none:=fun b o e =>
 ⟨I.base.keep b o (I.ok.bs b o e).1 (I.ok.bs b o e).2 (I.ok.xI e) (I.ok.uF b o e),I.base.free b o (I.ok.bs b o e).1 (I.ok.bs b o e).2 (I.ok.uF b o e)⟩
theorem Inv.bk(I:Inv X pins σ H s):∀b o,X.base.get? b=some o→s.heap.get? b=some o:=fun b o e=>(I.bs b o e).1
theorem Inv.mod(I:Inv X pins σ H s):Mod X.K X.mg X.base:=I.ok.mod
theorem Inv.oz(I:Inv X pins σ H s):X.K.In s.heap:=I.ok.mod.Mq.keeps I.bk
theorem Inv.fr(I:Inv X pins σ H s):∃m,Fr X.base X.env.locals s.heap m :=
 let ⟨m,hn,_⟩:=I.loc
 ⟨m,hn,I.bk,zG I.ok.AV I.ok.above⟩
theorem Inv.lt(I:Inv X pins σ H s):X.env.locals<s.heap.objs.size:=by obtain⟨_,hn,_⟩:=I.loc;exact hn.lt
theorem Inv.sz(I:Inv X pins σ H s):X.cH.heap.objs.size≤s.heap.objs.size:=zG I.ok.above (Nat.le_of_lt I.lt)
theorem Inv.Np(I:Inv X pins σ H s)(h:s.heap.objs.size≤a):a∉X.fs:=fun hb=>by
 obtain⟨_,o,ho,_⟩:=I.ok.jq.mem hb
 exact absurd (zo (zA ho) (zG I.sz h)) (yA _)
theorem Inv.Dx(I:Inv X pins σ H s):∀x c,X.env.cells.lookup x=some c→c≠X.env.locals:=fun x c e z=>by
 obtain⟨v,o,ho,hd⟩:=I.cell x c e
 obtain⟨m,⟨o',es,ep,uG,Nq,_⟩,_⟩:=I.loc
 rw[z,uG] at ho;cases ho;rw[Nq] at hd;cases hd
theorem Inv.jq(I:Inv X pins σ H s):s.heap.FunFrames X.base X.outer:=by
 have all:∀(l:List Env),(∀b∈jO l,b∈X.fs)→X.cH.heap.FunFrames X.base l→s.heap.FunFrames X.base l:=by
  intro l
  induction l with
  |nil=>intro _ _;trivial
  |cons env r ih =>
   intro hs hl
   obtain⟨hk,⟨L,o,hf,hn,ho,hd⟩,hr⟩:=hl
   have hL:L∈X.fs:=hs L (by unfold jO;rw[List.filterMap_cons,hf];exact zf)
   obtain⟨sl,e⟩:=I.base.slot L o ho (I.ok.Dh L hL) hL fun z=>I.ok.xH L z hL
   exact⟨hk,⟨L,_,hf,hn,e,hd⟩,ih (fun b hb=>hs b (by unfold jO;rw[List.filterMap_cons,hf];exact zd _ hb)) hr⟩
 exact all X.outer (fun _ hb=>hb) I.ok.jq
theorem Inv.stack(I:Inv X pins σ H s):s.heap.FunFrames X.base X.stack:=by
 rcases I.ok.I_ with e|⟨e,hf⟩
 ·rw[e];exact I.jq
 ·rw[e]
  obtain⟨m,hn,_⟩:=I.loc
  refine .cons (by rw[I.ok.kind];decide) hf hn ?_ I.jq
  exact Heap.get?_none_of_le (zG I.ok.AV I.ok.above)
theorem Inv.kT(I:Inv X pins σ H s):∀b∈jO X.stack,b∈X.env.locals::X.fs:=fun b hb=>by
 rcases I.ok.I_ with e|⟨e,hf⟩
 ·rw[e] at hb;exact zd _ hb
 ·rw[e] at hb
  unfold jO at hb
  rw[List.filterMap_cons,hf] at hb
  exact hb
theorem Inv.qa(I:Inv X pins σ H s):∀b∈jO X.stack,H b=none:=fun b hb=>by
 rcases zc.mp (I.kT b hb) with e|hb
 ·rw[e];exact I.free
 ·obtain⟨_,o,ho,_⟩:=I.ok.jq.mem hb
  exact I.base.free b o ho (I.ok.Dh b hb) fun z=>I.ok.xH b z hb
theorem Inv.step{g':Array GenState}{t':Nat}{d':Drawn}{ch:List Addr}(I:Inv X pins σ H s)
  (Di:∀b∈ch,(b∈X.ex∨X.cH.heap.objs.size≤b)∧b≠X.env.locals∧(∀x c,X.env.cells.lookup x=some c→c≠b)∧∀p∈X.pn++pins,p.1≠b)
  (keep:∀b o,b≠X.env.locals→b∉X.fs→b∉ch→s.heap.get? b=some o→H b=none→h'.get? b=some o)
  (slot:∀b o,b≠X.env.locals→b∈X.fs→b∉ch→s.heap.get? b=some o→H b=none→∃sl,h'.get? b=some { o with slots:=sl }) (free:∀b o,b∉ch→s.heap.get? b=some o→H b=none→H' b=none)
  (there:∀b o,b∉ch→s.heap.get? b=some o→∃o',h'.get? b=some o')
  (dG:∀b xs,H b=some (.tup xs)→H' b=some (.tup xs)) (eY:∀b o u,H b=some (.kR o u)→H' b=some (.kR o u)) (eZ:∀b ps,H b=some (.rN ps)→∃more,H' b=some (.rN (ps++more)))
  (ns:∀m,s.heap.Ns X.env.locals m→h'.Ns X.env.locals m) (aS:jb X.prog X.w H' h') (hg:AllBare g') :
  Inv X pins σ H' { s with heap:=h',gens:=g',drawn:=d',toks:=t' }:=by
 have QB:∀b o,X.cH.heap.get? b=some o→b≠X.env.locals:=fun b o e=>zK (zo (zA e) I.ok.above)
 have Ms:∀b o,X.cH.heap.get? b=some o→b∉X.ex→b∉ch:=fun b o e hx hb=>by
  rcases (Di b hb).1 with z|z
  ·exact hx z
  ·exact absurd (zo (zA e) z) (yA _)
 have cellK:∀x c,X.env.cells.lookup x=some c→∀v,s.heap.IsCell c v→h'.IsCell c v:=by
  rintro x c e v ⟨o,ho,hd⟩
  have Jx:c∉ch:=fun z=>(Di c z).2.2.1 x c e rfl
  by_cases hc:c∈X.fs
  ·obtain⟨sl,q⟩:=slot c o (I.Dx x c e) hc Jx ho (I.eE x c e)
   exact⟨_,q,hd⟩
  ·exact⟨o,keep c o (I.Dx x c e) hc Jx ho (I.eE x c e),hd⟩
 refine⟨I.ok,I.os,hg,⟨fun b o e n hb hx=>?_,fun b o e n hb hx=>?_,fun b o e n hx=>?_,fun b o e hx=>?_,fun b xs e=>dG b xs (I.base.dG b xs e),fun b o xs e=>eY b o xs (I.base.eY b o xs e),fun b ps e=>?_⟩,?_,fun x c e=>?_,?_,fun x c e=>?_,fun p hp=>?_,aS,I.len⟩
 ·exact keep b o (QB b o e) hb (Ms b o e hx) (I.base.keep b o e n hb hx) (I.base.free b o e n hx)
 ·obtain⟨sl,e1⟩:=I.base.slot b o e n hb hx
  obtain⟨R8,e2⟩:=slot b _ (QB b o e) hb (Ms b o e hx) e1 (I.base.free b o e n hx)
  exact⟨R8,e2⟩
 ·obtain⟨o',e1⟩:=I.base.there b o e hx
  exact free b o' (Ms b o e hx) e1 (I.base.free b o e n hx)
 ·obtain⟨o',e1⟩:=I.base.there b o e hx
  exact there b o' (Ms b o e hx) e1
 ·obtain⟨m1,e1⟩:=I.base.eZ b ps e
  obtain⟨m2,e2⟩:=eZ b _ e1
  exact⟨m1++m2,by rw[e2,Array.append_assoc]⟩
 ·obtain⟨m,hn,hl⟩:=I.loc
  refine⟨m,ns m hn,fun i x v e1 e2 e3=>?_⟩
  obtain⟨u,r,l⟩:=hl i x v e1 e2 e3
  refine⟨u,r,?_⟩
  rcases l with l|⟨k,c,e,z⟩
  ·exact .inl l
  ·exact .inr ⟨k,c,e,cellK x c e _ z⟩
 ·obtain⟨v,z⟩:=I.cell x c e
  exact⟨v,cellK x c e v z⟩
 ·obtain⟨m,⟨o,_,_,ho,_⟩,_⟩:=I.loc
  exact free _ o (fun z=>(Di _ z).2.1 rfl) ho I.free
 ·obtain⟨v,o,ho,hd⟩:=I.cell x c e
  exact free c o (fun z=>(Di c z).2.2.1 x c e rfl) ho (I.eE x c e)
 ·obtain⟨e,n,ne,nf,d⟩:=I.pin p hp
  have Jx:p.1∉ch:=fun z=>(Di p.1 z).2.2.2 p hp rfl
  exact⟨keep p.1 p.2 ne nf Jx e n,free p.1 p.2 Jx e n,ne,nf,d⟩
theorem Inv.un{t':Nat}(I:Inv X pins σ H s)(u:Un X.fs [] H H' s.heap h')(aS:jb X.prog X.w H' h'):Inv X pins σ H' { s with heap:=h',toks:=t' }:=by
 obtain⟨m,⟨o,es,ep,ho,r⟩,_⟩:=id I.loc
 obtain⟨sl,hL⟩:=u.any ho I.free (by simp)
 exact I.step (g':=s.gens) (d':=s.drawn) (ch:=[]) (fun _ z=>nomatch z) (fun b o _ hb _ e n=>u.keep b o e n hb (by simp)) (fun b o _ hb _ e n=>u.slot b o e n hb (by simp)) (fun b o _ e n=>u.free b o e n (by simp)) (fun b o _ e=>u.there b o e (by simp)) u.dG u.eY u.eZ (fun m' hm=>by
  obtain⟨o',Mt,Nr,uG,r'⟩:=hm
  rw[ho] at uG;cases uG
  exact⟨_,Mt,Nr,hL,r'⟩) aS I.bare
theorem Inv.call{g':Array GenState}{t':Nat}{d':Drawn}{ch:List Addr}(I:Inv X pins σ H s)(u:Un (jO X.stack) ch H H' s.heap h')(aS:jb X.prog X.w H' h')(hg:AllBare g')
  (Di:∀b∈ch,(b∈X.ex∨X.cH.heap.objs.size≤b)∧b≠X.env.locals∧(∀x c,X.env.cells.lookup x=some c→c≠b)∧∀p∈X.pn++pins,p.1≠b) :
  Inv X pins σ H' { s with heap:=h',gens:=g',drawn:=d',toks:=t' }:=by
 obtain⟨m,⟨o,es,ep,ho,r⟩,_⟩:=id I.loc
 obtain⟨sl,hL⟩:=u.any ho I.free fun z=>(Di _ z).2.1 rfl
 exact I.step (ch:=ch) Di (fun b o hL hb hc e n=>u.keep b o e n (fun z=>(zc.mp (I.kT b z)).elim hL hb) hc) (fun b o _ _ hc e n=>u.any e n hc) (fun b o hc e n=>u.free b o e n hc) (fun b o hc e=>u.there b o e hc) u.dG u.eY u.eZ (fun m' hm=>by
  obtain⟨o',Mt,Nr,uG,r'⟩:=hm
  rw[ho] at uG;cases uG
  exact⟨_,Mt,Nr,hL,r'⟩) aS hg
theorem Inv.turned{t':Nat}{it:Addr}(I:Inv X pins σ H s)(k:∀b o,b≠it→s.heap.get? b=some o→h'.get? b=some o)(hn:H it=none)(hL:it≠X.env.locals)
  (h1:it∈X.ex∨X.cH.heap.objs.size≤it) (h2:∀x c,X.env.cells.lookup x=some c→c≠it) (h3:∀p∈X.pn++pins,p.1≠it):Inv X pins σ H { s with heap:=h',toks:=t' }:=by
 have QC:∀b u,H b=some u→b≠it:=fun b u e z=>by rw[z,hn] at e;cases e
 refine I.step (g':=s.gens) (d':=s.drawn) (ch:=[it]) (fun b hb=>?_) (fun b o _ _ hc e _=>k b o (fun z=>hc (by simp [z])) e) (fun b o _ _ hc e _=>⟨o.slots,k b o (fun z=>hc (by simp [z])) e⟩) (fun _ _ _ _ n=>n)
  (fun b o hc e=>⟨o,k b o (fun z=>hc (by simp [z])) e⟩) (fun _ _ e=>e) (fun _ _ _ e=>e) (fun b ps e=>⟨#[],by rw[e];simp⟩) (fun m hm=>?_) (fun b u e=>?_) I.bare
 ·have e:b=it:=by simpa using hb
  subst e
  exact⟨h1,hL,h2,h3⟩
 ·obtain⟨o,es,ep,ho,r⟩:=hm
  exact⟨o,es,ep,k _ o (Ne.symm hL) ho,r⟩
 ·refine (I.aS b u e).p_ (fun c v hc q=>k c v ?_ q) (fun _ q=>q) fun _ _ q=>q
  rcases hc with z|z
  ·rw[z];exact QC b u e
  ·exact QC c _ z
theorem Inv.tok(I:Inv X pins σ H s)(t:Nat):Inv X pins σ H { s with toks:=t }:=I.un (h':=s.heap) (t':=t) Un.refl I.aS
theorem Inv.kept(I:Inv X pins σ H s)(k:∀b u,s.heap.get? b=some u→h'.get? b=some u):Inv X pins σ H { s with heap:=h',toks:=t' }:=I.un (Un.kept k) (I.aS.kept k)
theorem Inv.laid{a:Addr}{o:HO}{t':Nat}(I:Inv X pins σ H s)(k:∀b u,s.heap.get? b=some u→h'.get? b=some u)(hp:s.heap.objs.size≤a)(new:bh X.prog X.w (upd H a o) h' a o) :
  Inv X pins σ (upd H a o) { s with heap:=h',toks:=t' }:=I.un (Un.laid k hp (I.aS.fresh hp)) (I.aS.laid k hp new)
theorem Inv.write(I:Inv X pins σ H s)(mu:Mo (H x))(he:e=x∨H e=some (.own x))(k:∀b u,b≠e→s.heap.get? b=some u→h'.get? b=some u)(IY:∃u,h'.get? e=some u)
  (new:bh X.prog X.w (upd H x o) h' x o):Inv X pins σ (upd H x o) { s with heap:=h',toks:=t' }:=I.un (Un.write mu he k IY) (I.aS.write mu he k IY new)
theorem Inv.weak(I:Inv X pins σ H s)(hl:aw.length=σ.length)(w:∀(i:Nat) v,aw[i]?=some (some v)→σ[i]?=some (some v)):Inv X pins aw H s :=
 ⟨I.ok,I.os,I.bare,I.base,by obtain⟨m,hn,Jy⟩:=I.loc;exact⟨m,hn,fun i x v e1 e2 e3=>Jy i x v e1 (w i v e2) e3⟩,I.cell,I.free,I.eE,I.pin,I.aS,hl.trans I.len⟩
theorem Inv.jP(I:Inv X pins σ H s)(h:∀p∈pins',s.heap.get? p.1=some p.2∧H p.1=none∧p.1≠X.env.locals∧p.1∉X.fs∧∀v,p.2.data≠.cell v):Inv X pins' σ H s :=
 ⟨I.ok,I.os,I.bare,I.base,I.loc,I.cell,I.free,I.eE,fun p hp=>(zW.mp hp).elim (fun z=>I.pin p (yd _ z)) (h p),I.aS,I.len⟩
theorem mH{N:List Str}(hN:N.Nodup){i j:Nat}{x:Str}(a:N[i]?=some x)(b:N[j]?=some x):i=j:=by
 obtain⟨h1,e1⟩:=zL.mp a
 obtain⟨h2,e2⟩:=zL.mp b
 exact (List.getElem_inj hN).mp (e1.trans e2.symm)
theorem xJ{M:Model}{A:Around}{E:Value→Shared→Prop}{i:Nat}{x:Str}{v:V}{u:Value}{Q:Unit→Shared→Prop}(I:Inv X pins σ H s)(hN:X.N.Nodup)(hi:X.N[i]?=some x)(hx:Loc X.env.scope x)(r:RelV v u)
  (h:∀s',Inv X pins (σ.set i (some v)) H s'→(∃a,Heap.SameBut a s.heap s'.heap∧(a=X.env.locals∨X.env.cells.lookup x=some a))→Q () s') (hf:X.fn x=true∨X.env.scope.names.lookup x=some .local:=by first|exact .inl rfl|exact .inr rfl|assumption):wpAny M A (storeName X.env x u) Q E s:=by
 obtain⟨m,hn,hl⟩:=id I.loc
 have AW:(X.env.scope.kind == .class || (X.env.scope.kind == .module && X.env.locals != X.env.globals))=false:=by rw[I.ok.kind];rfl
 have Dy:i<σ.length:=by rw[I.len];exact (zL.mp hi).1
 have Dx:=I.Dx
 have tracked:∀{a:Addr}{h':Heap},(∃o,s.heap.get? a=some o∧H a=none)→Heap.SameBut a s.heap h'→jb X.prog X.w H h':=fun {a h'} ha hs b ob e=>by
  obtain⟨_,_,Fv⟩:=ha
  refine (I.aS b ob e).p_ (fun c w' hc q=>(hs.2 c ?_).trans q) (fun _ q=>q) fun _ _ q=>q
  rintro rfl
  rcases hc with rfl|hc
  ·rw[Fv] at e;cases e
  ·rw[Fv] at hc;cases hc
 rcases hx with hk|hk
 ·refine wpAny_storeName_local hk hn (fun h' Nt hs=>?_) AW
  obtain⟨oL,_,_,R9,_⟩:=id hn
  refine h _ ⟨I.ok,I.os,I.bare,⟨fun b o e n hb hx=>?_,fun b o e n hb hx=>?_,I.base.free,fun b o e hx=>?_,I.base.dG,I.base.eY,I.base.eZ⟩,⟨_,Nt,fun j y v' e1 e2 e3=>?_⟩,fun y c e=>?_,I.free,I.eE,fun p hp=>?_,tracked ⟨oL,R9,I.free⟩ hs,by simpa using I.len⟩ ⟨_,hs,.inl rfl⟩
  ·exact (hs.2 b (zK (zo (zA e) I.ok.above))).trans (I.base.keep b o e n hb hx)
  ·obtain⟨sl,e1⟩:=I.base.slot b o e n hb hx
   exact⟨sl,(hs.2 b (zK (zo (zA e) I.ok.above))).trans e1⟩
  ·obtain⟨o',e1⟩:=I.base.there b o e hx
   exact⟨o',(hs.2 b (zK (zo (zA e) I.ok.above))).trans e1⟩
  ·by_cases hj:j=i
   ·subst hj
    rw[hi] at e1;cases e1
    rw[List.getElem?_set_self Dy] at e2
    cases e2
    exact⟨u,r,.inl ⟨hk,by simp⟩⟩
   ·rw[List.getElem?_set_ne (Ne.symm hj)] at e2
    obtain⟨u',r',q⟩:=hl j y v' e1 e2 e3
    refine⟨u',r',?_⟩
    rcases q with ⟨k,e⟩|⟨k,c,e,z⟩
    ·refine .inl ⟨k,?_⟩
     have:y≠x:=fun e=>hj (mH hN e1 (e ▸ hi))
     simp [this,e]
    ·exact .inr ⟨k,c,e,z.sameBut hs (Dx y c e)⟩
  ·obtain⟨w',z⟩:=I.cell y c e
   exact⟨w',z.sameBut hs (Dx y c e)⟩
  ·obtain⟨e,n,ne,nf,d⟩:=I.pin p hp
   exact⟨(hs.2 p.1 ne).trans e,n,ne,nf,d⟩
 ·have Nu:X.fn x=true:=by
   rcases hf with z|z
   ·exact z
   ·rw[z] at hk;cases hk
  obtain⟨c,hc⟩:=I.ok.has x (.inl hk)
  obtain⟨w',z⟩:=I.cell x c hc
  refine wpAny_storeName_cell I.ok.kind hk hc z (fun h' QD hs=>?_)
  obtain⟨oc,QE,Nv⟩:=id z
  refine h { s with heap:=h' } ⟨I.ok,I.os,I.bare,⟨fun b o e n hb hx=>?_,fun b o e n hb hx=>?_,I.base.free,fun b o e hx=>?_,I.base.dG,I.base.eY,I.base.eZ⟩,⟨m,hn.sameBut hs (Ne.symm (Dx x c hc)),fun j y v' e1 e2 e3=>?_⟩,fun y c' e=>?_,I.free,I.eE,fun p hp=>?_,tracked ⟨oc,QE,I.eE x c hc⟩ hs,by simpa using I.len⟩ ⟨c,hs,.inr hc⟩
  ·exact (hs.2 b (zK (zo (zA e) (I.ok.Gv x c Nu hc)))).trans (I.base.keep b o e n hb hx)
  ·obtain⟨sl,e1⟩:=I.base.slot b o e n hb hx
   exact⟨sl,(hs.2 b (zK (zo (zA e) (I.ok.Gv x c Nu hc)))).trans e1⟩
  ·obtain⟨o',e1⟩:=I.base.there b o e hx
   exact⟨o',(hs.2 b (zK (zo (zA e) (I.ok.Gv x c Nu hc)))).trans e1⟩
  ·by_cases hj:j=i
   ·subst hj
    rw[hi] at e1;cases e1
    rw[List.getElem?_set_self Dy] at e2
    cases e2
    exact⟨u,r,.inr ⟨.inl hk,c,hc,QD⟩⟩
   ·rw[List.getElem?_set_ne (Ne.symm hj)] at e2
    obtain⟨u',r',q⟩:=hl j y v' e1 e2 e3
    refine⟨u',r',?_⟩
    rcases q with q|⟨k,c',e,z'⟩
    ·exact .inl q
    ·refine .inr ⟨k,c',e,z'.sameBut hs ?_⟩
     rintro rfl
     exact hj (mH hN e1 (I.ok.inj _ _ _ e hc ▸ hi))
  ·by_cases QF:c'=c
   ·subst QF;exact⟨_,QD⟩
   ·obtain⟨w2,z2⟩:=I.cell y c' e
    exact⟨w2,z2.sameBut hs QF⟩
  ·obtain⟨e,n,ne,nf,d⟩:=I.pin p hp
   refine⟨(hs.2 p.1 ?_).trans e,n,ne,nf,d⟩
   intro q
   rw[q,QE] at e
   have q':oc=p.2:=zO e
   exact d w' (by rw[← q'];exact Nv)
theorem jQ(I:Inv X pins σ H s)(hN:X.N.Nodup)(hi:X.N[i]?=some x)(hx:Loc X.env.scope x)(r:RelV v u)
  (h:∀s',Inv X pins (σ.set i (some v)) H s'→Q () s') (hf:X.fn x=true∨X.env.scope.names.lookup x=some .local:=by first|exact .inl rfl|exact .inr rfl|assumption):wpAny M A (storeName X.env x u) Q E s :=
 xJ I hN hi hx r (fun s' I' _=>h s' I') hf
theorem Inv.AX(I:Inv X pins σ H s)(ho:s'.os=s.os)(u:Un (jO X.stack) ch H H' s.heap s'.heap)(aS:jb X.prog X.w H' s'.heap)(hg:AllBare s'.gens)
  (Di:∀b∈ch,(b∈X.ex∨X.cH.heap.objs.size≤b)∧b≠X.env.locals∧(∀x c,X.env.cells.lookup x=some c→c≠b)∧∀p∈X.pn++pins,p.1≠b):Inv X pins σ H' s':=by
 obtain⟨h',g',d',t',o'⟩:=s'
 have e:o'=s.os:=ho
 subst e
 exact I.call (g':=g') (t':=t') (d':=d') u aS hg Di
end
abbrev XK:=Value→Option Addr→Hp→Prop
abbrev St:=List (Option V)
abbrev VK:=V→Hp→Prop
abbrev TE:=St→Hp→VK→Prop
abbrev TT:=St→Hp→(Bool→Hp→Prop)→Prop
abbrev TA:=St→Hp→(List V→Hp→Prop)→Prop
structure Ends where
 nx:St→Hp→Prop
 rt:VK
 bk:St→Hp→Prop:=fun _ _=>False
 ct:St→Hp→Prop:=fun _ _=>False
abbrev TS:=Ends→St→Hp→Prop
def EP(X:Cx)(pins:List (Addr×Obj))(σ:St)(Q:VK)(u:Value)(s':Shared):Prop:=∃v H',Inv X pins σ H' s'∧RelV v u∧Q v H'
def TP(X:Cx)(pins:List (Addr×Obj))(σ:St)(Q:Bool→Hp→Prop)(b:Bool)(s':Shared):Prop:=∃H',Inv X pins σ H' s'∧Q b H'
def AP(X:Cx)(pins:List (Addr×Obj))(σ:St)(Q:List V→Hp→Prop)(us:List Value)(s':Shared):Prop:=∃vs H',Inv X pins σ H' s'∧Vals vs us∧Q vs H'
def SP(X:Cx)(pins:List (Addr×Obj))(D:Ends)(f:Flow)(s':Shared):Prop :=
 match f with
 |.next=>∃aw H',Inv X pins aw H' s'∧D.nx aw H'
 |.brk=>∃aw H',Inv X pins aw H' s'∧D.bk aw H'
 |.cont=>∃aw H',Inv X pins aw H' s'∧D.ct aw H'
 |.ret u=>∃v aw H',Inv X pins aw H' s'∧RelV v u∧D.rt v H'
def PE(X:Cx)(e:Expr)(t:TE):Prop :=
 ∀(pins:List (Addr×Obj)) (s:Shared) (σ:St) (H:Hp) (Q:VK),Inv X pins σ H s→t σ H Q→wpAny (model X.prog X.w) X.A (eval e X.env) (EP X pins σ Q) X.xe s
def PT(X:Cx)(e:Expr)(t:TT):Prop :=
 ∀(pins:List (Addr×Obj)) (s:Shared) (σ:St) (H:Hp) (Q:Bool→Hp→Prop),Inv X pins σ H s→t σ H Q→wpAny (model X.prog X.w) X.A (isTrue e X.env (eval e X.env)) (TP X pins σ Q) X.xe s
def PW(X:Cx)(e:Expr)(t:TT):Prop :=
 ∀(whole:Sem Value) (pins:List (Addr×Obj)) (s:Shared) (σ:St) (H:Hp) (Q:Bool→Hp→Prop),Inv X pins σ H s→t σ H Q→wpAny (model X.prog X.w) X.A (isTrue e X.env whole) (TP X pins σ Q) X.xe s
theorem PW.pt(h:PW X e t):PT X e t:=h _
def PA(X:Cx)(es:List Expr)(t:TA):Prop :=
 ∀(pos:Pos) (pins:List (Addr×Obj)) (s:Shared) (σ:St) (H:Hp) (Q:List V→Hp→Prop),Inv X pins σ H s→t σ H Q→wpAny (model X.prog X.w) X.A (spliced (backTo pos (starEach es X.env))) (AP X pins σ Q) X.xe s
def PS(X:Cx)(st:Stmt)(t:TS):Prop :=
 ∀(pins:List (Addr×Obj)) (s:Shared) (σ:St) (H:Hp) (D:Ends),Inv X pins σ H s→t D σ H→wpAny (model X.prog X.w) X.A (exec st X.env) (SP X pins D) X.xe s
def uH(X:Cx)(st:List Stmt)(t:TS):Prop :=
 ∀(pins:List (Addr×Obj)) (s:Shared) (σ:St) (H:Hp) (D:Ends),Inv X pins σ H s→t D σ H→wpAny (model X.prog X.w) X.A (execs st X.env) (SP X pins D) X.xe s
theorem bA(h:wpAny M A t Q E s)(hQ:∀a s,Q a s→Q' a s):wpAny M A t Q' E s:=yk h hQ fun _ _ x=>x
section
variable{X:Cx}
def Nx(i:Nat):TE:=fun σ H Q=>∃v,σ[i]?=some (some v)∧Q v H
def tC(v:V):TE:=fun _ H Q=>Q v H
theorem Gw(hN:X.N[i]?=some x)(hv:IZ X.env.scope x)(hd:(x == ("__debug__" : Str))=false:=by decide)(Dj:(x == ("__classdict__" : Str))=false:=by decide):PE X (.Name x pos) (Nx i):=by
 intro pins s σ H Q I h
 obtain⟨v,e,h⟩:=h
 obtain⟨m,hn,hl⟩:=I.loc
 obtain⟨u,r,l⟩:=hl i x v hN e hv
 have fin:EP X pins σ Q u s:=⟨v,H,I,r,h⟩
 rcases l with ⟨hk,hm⟩|⟨hk,c,hc,we⟩
 ·exact wpAny_Name (wpAny_loadName_local I.ok.kind hk hn hm fin) hd
 ·rcases hk with hk|hk
  ·exact wpAny_Name (wpAny_loadName_cell I.ok.kind hk hc we fin) hd
  ·exact wpAny_Name (wpAny_loadName_free I.ok.kind hk hc we fin Dj) hd
theorem Gx:PE X (.Constant (.int i) j pos) (tC (.int i)):=fun _ _ _ H _ I h=>wpAny_Constant_int ⟨.int i,H,I.tok _,⟨_,rfl⟩,h⟩
theorem Jz:PE X (.Constant (.bool b) j pos) (tC (.bl b)):=fun _ _ _ H _ I h=>Constant_bool ⟨.bl b,H,I,rfl,h⟩
theorem Gy:PE X (.Constant .none j pos) (tC .aK):=fun _ _ _ H _ I h=>Constant_none ⟨.aK,H,I,rfl,h⟩
theorem Gz:PE X (.Constant (.str x) j pos) (tC (.str x)):=fun _ _ _ H _ I h=>Calls.Constant_str ⟨.str x,H,I.tok _,⟨_,rfl⟩,h⟩
def Gl(X:Cx)(x:Str):Prop:=X.env.kindOf x=some .globalImplicit
theorem mB(I:Inv X pins σ H s)(hg:Gl X x)(hm:X.mg x=some u)(h:Q u s)
  (hd:(x == ("__debug__" : Str))=false:=by decide):wpAny (model X.prog X.w) X.A (eval (.Name x pos) X.env) Q E s :=
 Calls.Name_function_global I.ok.kind hg (Calls.loadGlobal_global (by rw[I.ok.glob];exact I.mod.glob.keeps I.bk) hm h) hd
theorem mI(I:Inv X pins σ H s)(hg:Gl X x)(hm:X.mg x=none)(hv:bootBuiltins x=some u)(h:Q u s)
  (hn:x ≠ "__name__" := by decide) (hd:(x == ("__debug__" : Str))=false:=by decide):wpAny (model X.prog X.w) X.A (eval (.Name x pos) X.env) Q E s:=by
 obtain⟨mb,h1,h2⟩:=I.mod.blt
 exact Calls.Name_function_global I.ok.kind hg (Calls.loadGlobal_builtin (by rw[I.ok.glob];exact I.mod.glob.keeps I.bk) hm (by rw[I.ok.blt];exact h1.keeps I.bk) ((h2 x hn).trans hv) h) hd
theorem wg(hg:Gl X x)(hm:X.mg x=some u)(r:RelV v u)(hd:(x == ("__debug__" : Str))=false:=by decide):PE X (.Name x pos) (tC v) :=
 fun _ _ _ H _ I h=>mB I hg hm ⟨v,H,I,r,h⟩ hd
theorem Dz(hg:Gl X x)(hm:X.mg x=none)(hv:bootBuiltins x=some u)(r:RelV v u)(hn:x ≠ "__name__" := by decide)(hd:(x == ("__debug__" : Str))=false:=by decide):PE X (.Name x pos) (tC v) :=
 fun _ _ _ H _ I h=>mI I hg hm hv ⟨v,H,I,r,h⟩ hn hd
variable{a b:Expr}{ta tb:TE}{pos:Pos}
def tB(t:TE):TT:=fun σ H Q=>t σ H fun x H1=>∃c,x=.bl c∧Q c H1
theorem GA(h:PE X e t)(he:∀whole,isTrue e X.env whole=(do let v ← whole;standAt e.pos;holding [v] (truthy v)):=by intro _;rfl):PT X e (tB t):=by
 intro pins s σ H Q I hw
 refine isTrue_plain (bA (h pins s σ H _ I hw) fun v s1 ⟨x,H1,I1,r1,q1⟩=>?_) (he _)
 obtain⟨d,rfl,q⟩:=q1
 cases r1
 exact yp ⟨H1,I1,q⟩
variable{tA Mu:TT}{rest:List Expr}
def Ny(t u:TT):TT:=fun σ H Q=>t σ H fun c H1=>if c=true then u σ H1 Q else Q false H1
def R_(t u:TT):TT:=fun σ H Q=>t σ H fun c H1=>if c=true then Q true H1 else u σ H1 Q
def Nz(t:TT):TT:=fun σ H Q=>t σ H fun c H1=>Q (!c) H1
theorem pw_and1(ha:PT X a tA):PW X (.BoolOp .And [a] pos) tA:=by
 intro wh pins s σ H Q I h
 refine isTrue_and (bA (ha pins s σ H Q I h) fun c s1 e=>?_)
 cases c with
 |true=>exact isTrue_and_nil e
 |false=>exact e
theorem pw_or1(ha:PT X a tA):PW X (.BoolOp .Or [a] pos) tA:=by
 intro wh pins s σ H Q I h
 refine isTrue_or (bA (ha pins s σ H Q I h) fun c s1 e=>?_)
 cases c with
 |false=>exact isTrue_or_nil e
 |true=>exact e
theorem pw_and(ha:PT X a tA)(hb:PW X (.BoolOp .And (b::rest) pos) Mu):PW X (.BoolOp .And (a::b::rest) pos) (Ny tA Mu):=by
 intro wh pins s σ H Q I h
 refine isTrue_and (bA (ha pins s σ H _ I h) fun c s1 ⟨H1,I1,q1⟩=>?_)
 cases c with
 |true=>exact hb wh pins s1 σ H1 Q I1 q1
 |false=>exact⟨H1,I1,q1⟩
theorem pw_or(ha:PT X a tA)(hb:PW X (.BoolOp .Or (b::rest) pos) Mu):PW X (.BoolOp .Or (a::b::rest) pos) (R_ tA Mu):=by
 intro wh pins s σ H Q I h
 refine isTrue_or (bA (ha pins s σ H _ I h) fun c s1 ⟨H1,I1,q1⟩=>?_)
 cases c with
 |true=>exact⟨H1,I1,q1⟩
 |false=>exact hb wh pins s1 σ H1 Q I1 q1
theorem GB(ha:PT X a tA):PT X (.UnaryOp .Not a pos) (Nz tA):=by
 intro pins s σ H Q I h
 exact isTrue_not (ha pins s σ H (fun c H1=>Q (!c) H1) I h)
def JA(ta tb:TE):TE:=fun σ H Q=>ta σ H fun x H1=>∃c,x=.bl c∧if c=true then tb σ H1 Q else Q (.bl false) H1
def NA(ta tb:TE):TE:=fun σ H Q=>ta σ H fun x H1=>∃c,x=.bl c∧if c=true then Q (.bl true) H1 else tb σ H1 Q
def JB(ta:TE):TE:=fun σ H Q=>ta σ H fun x H1=>∃c,x=.bl c∧Q (.bl (!c)) H1
theorem GC(h:PE X a t):PE X (.BoolOp op [a] pos) t:=fun pins s σ H Q I hw=>BoolOp_one (h pins s σ H Q I hw)
theorem GD(ha:PE X a ta)(hb:PE X (.BoolOp .And (b::rest) pos) tb):PE X (.BoolOp .And (a::b::rest) pos) (JA ta tb):=by
 intro pins s σ H Q I h
 refine BoolOp_and (bA (ha pins s σ H _ I h) fun v s1 ⟨x,H1,I1,r1,q1⟩=>?_)
 obtain⟨c,rfl,q1⟩:=q1
 cases r1
 refine yp ?_
 cases c with
 |true=>exact hb pins s1 σ H1 Q I1 q1
 |false=>exact⟨.bl false,H1,I1,rfl,q1⟩
theorem JC(ha:PE X a ta)(hb:PE X (.BoolOp .Or (b::rest) pos) tb):PE X (.BoolOp .Or (a::b::rest) pos) (NA ta tb):=by
 intro pins s σ H Q I h
 refine BoolOp_or (bA (ha pins s σ H _ I h) fun v s1 ⟨x,H1,I1,r1,q1⟩=>?_)
 obtain⟨c,rfl,q1⟩:=q1
 cases r1
 refine yp ?_
 cases c with
 |false=>exact hb pins s1 σ H1 Q I1 q1
 |true=>exact⟨.bl true,H1,I1,rfl,q1⟩
theorem GF(ha:PE X a ta):PE X (.UnaryOp .Not a pos) (JB ta):=by
 intro pins s σ H Q I h
 refine UnaryOp_ (bA (ha pins s σ H _ I h) fun v s1 ⟨x,H1,I1,r1,q1⟩=>?_)
 obtain⟨c,rfl,q1⟩:=q1
 cases r1
 exact not_of (yp ⟨.bl (!c),H1,I1,rfl,q1⟩)
def Sa(t:TT)(ta tb:TE):TE:=fun σ H Q=>t σ H fun c H1=>if c=true then ta σ H1 Q else tb σ H1 Q
theorem AY(hc:PT X c tA)(ha:PE X a ta)(hb:PE X b tb):PE X (.IfExp c a b pos) (Sa tA ta tb):=by
 intro pins s σ H Q I h
 refine wpAny_IfExp (bA (hc pins s σ H _ I h) fun d s1 ⟨H1,I1,q1⟩=>?_)
 cases d with
 |true=>exact ha pins s1 σ H1 Q I1 q1
 |false=>exact hb pins s1 σ H1 Q I1 q1
end
def i7(K:Frag)(H:Hp)(a:Addr)(xs:List V):Prop :=
 Rd H a (.lst xs) ∨
  ∃(o:Obj) (ao:Array Value) (n:Nat),K.lookup a=some o∧o.cls=.type "list" ∧ o.dict=none∧o.data=.seq ao n∧ao.size≤sizeLine∧Vals xs ao.toList
def kU(K:Frag)(H:Hp)(a:Addr)(xs:List V):Prop :=
 Rd H a (.tup xs) ∨
  ∃(o:Obj) (ao:Array Value) (n:Nat),K.lookup a=some o∧o.cls=.type "tuple" ∧ o.data=.seq ao n∧ao.size≤sizeLine∧Vals xs ao.toList
def NB:Value→Option V
 |.none=>some .aK
 |.bool b=>some (.bl b)
 |.int i _=>some (.int i)
 |.str x _=>some (.str x)
 |.bytes b _=>some (.xF b)
 |.float b _=>some (.IX b)
 |.ref a=>some (.ref a)
 |.type n=>some (.ty n)
 |_=>none
theorem RelV.abs(r:RelV x u):NB u=some x:=by
 cases x with
 |aK=>cases r;rfl
 |bl _=>cases r;rfl
 |int _=>obtain⟨t,rfl⟩:=r;rfl
 |str _=>obtain⟨t,rfl⟩:=r;rfl
 |xF _=>obtain⟨t,rfl⟩:=r;rfl
 |IX _=>obtain⟨t,rfl⟩:=r;rfl
 |ref _=>cases r;rfl
 |ty _=>cases r;rfl
theorem RelV.inj(r:RelV x u)(q:RelV y u):x=y:=zO (r.abs.symm.trans q.abs)
theorem Vals.inj:∀{xs ys:List V}{us:List Value},Vals xs us→Vals ys us→xs=ys
 |_,_,_,.nil,.nil=>rfl
 |_,_,_,.cons r t,.cons r' t'=>by rw[r.inj r',Vals.inj t t']
section
variable{X:Cx}{pins:List (Addr×Obj)}{σ:St}{H:Hp}{s:Shared}{a:Addr}{xs ys:List V}
theorem i7.of{K:Frag}(h:H a=some (.lst xs)):i7 K H a xs:=.inl (.inl h)
theorem kU.of{K:Frag}(h:H a=some (.tup xs)):kU K H a xs:=.inl (.inl h)
theorem Inv.list(I:Inv X pins σ H s)(h:i7 X.K H a xs):∃ao:List Value,Vals xs ao∧PlainL s.heap a ao.toArray∧xs.length≤sizeLine:=by
 rcases h with h|⟨o,ao,n,hk,hc,hd,hs,hz,r⟩
 ·obtain⟨z,ao,n,r,e⟩:=h.ok I.aS
  exact⟨ao,r,⟨_,n,e,rfl,rfl,rfl⟩,z⟩
 ·refine⟨ao.toList,r,⟨o,n,I.oz a o hk,hc,hd,by simpa using hs⟩,?_⟩
  have e:=r.length
  simp only [zV] at e
  omega
theorem Inv.tuple(I:Inv X pins σ H s)(h:kU X.K H a xs):∃ao:List Value,Vals xs ao∧IsTup s.heap a ao.toArray∧xs.length≤sizeLine:=by
 rcases h with h|⟨o,ao,n,hk,hc,hs,hz,r⟩
 ·obtain⟨z,ao,r,p⟩:=h.ok I.aS
  exact⟨ao,r,p.tup,z⟩
 ·refine⟨ao.toList,r,⟨o,I.oz a o hk,hc,n,by simpa using hs⟩,?_⟩
  have e:=r.length
  simp only [zV] at e
  omega
theorem Inv.AZ(I:Inv X pins σ H s)(h:i7 X.K H a xs)(h':i7 X.K H a ys):xs=ys:=by
 obtain⟨ao,r,⟨o,n,e,_,_,d⟩,_⟩:=I.list h
 obtain⟨its',r',⟨o',n',e',_,_,d'⟩,_⟩:=I.list h'
 rw[e] at e';cases e'
 rw[d] at d'
 injection d' with d1 _
 have:ao=its':=by simpa using congrArg Array.toList d1
 subst this
 exact r.inj r'
theorem Inv.xK(I:Inv X pins σ H s)(h:kU X.K H a xs)(h':kU X.K H a ys):xs=ys:=by
 obtain⟨ao,r,⟨o,e,_,n,d⟩,_⟩:=I.tuple h
 obtain⟨its',r',⟨o',e',_,n',d'⟩,_⟩:=I.tuple h'
 rw[e] at e';cases e'
 rw[d] at d'
 injection d' with d1 _
 have:ao=its':=by simpa using congrArg Array.toList d1
 subst this
 exact r.inj r'
end
abbrev Cx.Sb(X:Cx)(E:Value→Shared→Prop):Cx:={ X with xe:=E }
section
variable{X:Cx}{pins:List (Addr×Obj)}{σ:St}{H:Hp}{s:Shared}{E:Value→Shared→Prop}
end
section
variable{X:Cx}{st:Stmt}{rest:List Stmt}{t u:TS}{e:Expr}{te:TE}{pos:Pos}
def JD:TS:=fun D σ H=>D.nx σ H
def NC(t u:TS):TS:=fun D σ H=>t { D with nx:=u D } σ H
theorem wj:uH X [] JD:=fun _ _ σ H _ I h=>wpAny_execs_nil ⟨σ,H,I,h⟩
theorem A0(h1:PS X st t)(h2:uH X rest u):uH X (st::rest) (NC t u):=by
 intro pins s σ H D I h
 refine wpAny_execs_cons (bA (h1 pins s σ H { D with nx:=u D } I h) fun f s1 q=>?_)
 cases f with
 |next =>
  obtain⟨aw,H',I',q⟩:=q
  exact h2 pins s1 aw H' D I' q
 |ret v=>exact q
 |brk=>exact q
 |cont=>exact q
theorem DB(h1:PS X st t):uH X [st] t:=by
 intro pins s σ H D I h
 refine wpAny_execs_cons (bA (h1 pins s σ H D I h) fun f s1 q=>?_)
 cases f with
 |next=>exact wpAny_execs_nil q
 |ret v=>exact q
 |brk=>exact q
 |cont=>exact q
theorem Inv.quiet(I:Inv X pins σ H s):interactive X.env=false:=by simp [interactive,I.ok.kind]
def JE(te:TE):TS:=fun D σ H=>te σ H fun _ H1=>D.nx σ H1
theorem DC(he:PE X e te)(hs:swapsWith e none pos.line X.env=pure false:=by rfl):PS X (.Expr e pos) (JE te):=by
 intro pins s σ H D I h
 exact wpAny_Expr_any (bA (he pins s σ H _ I h) <| by rintro v s1 ⟨x,H1,I1,r1,q1⟩;exact⟨σ,H1,I1,q1⟩) I.quiet hs
def ND(te:TE):TS:=fun D σ H=>te σ H D.rt
theorem GG(he:PE X e te):PS X (.Return (some e) pos) (ND te):=by
 intro pins s σ H D I h
 exact wpAny_Return_some (bA (he pins s σ H _ I h) <| by rintro v s1 ⟨x,H1,I1,r1,q1⟩;exact⟨x,σ,H1,I1,r1,q1⟩)
def NF(c:TT)(t u:TS):TS:=fun D σ H=>c σ H fun b H1=>if b=true then t D σ H1 else u D σ H1
theorem JF(hc:PT X c tc)(ha:uH X a t)(hb:uH X b u):PS X (.If c a b pos) (NF tc t u):=by
 intro pins s σ H D I h
 refine wpAny_If (bA (hc pins s σ H _ I h) fun d s1 ⟨H1,I1,q1⟩=>?_)
 cases d with
 |true=>exact ha pins s1 σ H1 D I1 q1
 |false=>exact hb pins s1 σ H1 D I1 q1
end
abbrev TG:=V→St→Hp→(St→Hp→Prop)→Prop
abbrev Ja:=List V→St→Hp→(St→Hp→Prop)→Prop
def PG(X:Cx)(target:Expr)(t:TG):Prop :=
 ∀(pins:List (Addr×Obj)) (s:Shared) (σ:St) (H:Hp) (v:V) (u:Value) (Q:St→Hp→Prop),Inv X pins σ H s→RelV v u→t v σ H Q →
  wpAny (model X.prog X.w) X.A (assign target X.env u) (fun _ s'=>∃aw H',Inv X pins aw H' s'∧Q aw H') X.xe s
def Fw(X:Cx)(ts:List Expr)(t:Ja):Prop :=
 ∀(pins:List (Addr×Obj)) (s:Shared) (σ:St) (H:Hp) (vs:List V) (us:List Value) (Q:St→Hp→Prop),Inv X pins σ H s→Vals vs us→t vs σ H Q →
  wpAny (model X.prog X.w) X.A (assignInOrder ((assignEach ts X.env).map (·.2)) us) (fun _ s'=>∃aw H',Inv X pins aw H' s'∧Q aw H') X.xe s
abbrev JG:=V→V→V→Hp→(Hp→Prop)→Prop
def JH(X:Cx)(t:JG):Prop :=
 ∀(pins:List (Addr×Obj)) (s:Shared) (σ:St) (H:Hp) (o i v:V) (ov iv u:Value) (Q:Hp→Prop),Inv X pins σ H s→RelV o ov→RelV i iv→RelV v u→t o i v H Q →
  wpAny (model X.prog X.w) X.A (setItem ov iv u) (fun _ s'=>∃H',Inv X pins σ H' s'∧Q H') X.xe s
abbrev NG:=V→V→Hp→VK→Prop
def QG(X:Cx)(op:Operator)(t:NG):Prop :=
 ∀(pins:List (Addr×Obj)) (s:Shared) (σ:St) (H:Hp) (x y:V) (v u:Value) (Q:VK),Inv X pins σ H s→RelV x v→RelV y u→t x y H Q →
  wpAny (model X.prog X.w) X.A (inplaceOp op v u) (EP X pins σ Q) X.xe s
section
variable{X:Cx}{pos:Pos}
def gX(i:Nat):TG:=fun v σ H Q=>Q (σ.set i (some v)) H
theorem mC(hN:X.N.Nodup)(hi:X.N[i]?=some x)(hx:Loc X.env.scope x)(hf:X.fn x=true∨X.env.scope.names.lookup x=some .local:=by first|exact .inl rfl|exact .inr rfl|assumption):PG X (.Name x pos) (gX i):=by
 intro pins s σ H v u Q I r h
 exact wpAny_assign_Name (jQ I hN hi hx r (fun s' I'=>⟨_,H,I',h⟩) hf)
def DD:Ja:=fun vs σ H Q=>vs=[]∧Q σ H
def mJ(t:TG)(u:Ja):Ja:=fun vs σ H Q=>∃v r,vs=v::r∧t v σ H fun aw H'=>u r aw H' Q
theorem wk:Fw X [] DD:=by
 intro pins s σ H vs us Q I r h
 obtain⟨e,h⟩:=h
 subst e
 cases r
 exact assignInOrder_nil ⟨σ,H,I,h⟩
theorem mK(h1:PG X e t)(h2:Fw X es u)
  (hs:(assignEach (e::es) X.env).map (·.2)=assign e X.env::(assignEach es X.env).map (·.2):=by rfl):Fw X (e::es) (mJ t u):=by
 intro pins s σ H vs us Q I r h
 obtain⟨v,vr,e1,h⟩:=h
 subst e1
 cases r with
 |cons r rr =>
  rw[hs]
  refine assignInOrder_cons (bA (h1 pins s σ H _ _ _ I r h) fun _ s1 ⟨qb,H1,I1,q1⟩=>?_)
  exact h2 pins s1 qb H1 _ _ Q I1 rr q1
def DF(K:Frag)(n:Nat)(t:Ja):TG:=fun v σ H Q=>∃a xs,v=.ref a∧kU K H a xs∧xs.length=n∧t xs σ H Q
theorem A1(hc:X.calm=true)(h:Fw X es t)
  (hn:(assignEach es X.env).length=n:=by rfl) (wm:(assignEach es X.env).findIdx? (·.1)=none:=by rfl):PG X (.Tuple es k pos) (DF X.K n t):=by
 intro pins s σ H v u Q I r hw
 obtain⟨a,xs,e1,hq,hl,hw⟩:=hw
 subst e1
 cases r
 obtain⟨ao,rv,ht,hz⟩:=I.tuple hq
 refine assign_Tuple_tuple (I.ok.hd hc) ht (by simp [hn,← hl,rv.length]) wm fun h' hx=>?_
 have I1:Inv X pins σ H { s with heap:=h' }:=I.kept (t':=s.toks) fun b o e=>hx b o (zK (zA e)) e
 exact h pins _ σ H xs _ Q I1 (by simpa using rv) hw
def NH(to ti:TE)(t:JG):TG:=fun v σ H Q=>to σ H fun o H1=>ti σ H1 fun i H2=>t o i v H2 fun H3=>Q σ H3
theorem GH(ho:PE X o to)(hi:PE X i ti)(hs:JH X t)
  (ha:∀v,assign (.Subscript o i pos) X.env v=(do
   let ov ← holding [v] (eval o X.env)
   let iv ← holding [v,ov] (eval i X.env)
   standAt pos
   holding [v,ov,iv] (setItem ov iv v)
   release [v,ov,iv] []):=by intro _;rfl):PG X (.Subscript o i pos) (NH to ti t):=by
 intro pins s σ H v u Q I r h
 rw[ha]
 refine zp (wpAny_holding (bA (ho pins s σ H _ I h) fun ov s1 ⟨x,H1,I1,r1,q1⟩=>?_))
 refine zp (wpAny_holding (bA (hi pins s1 σ H1 _ I1 q1) fun iv s2 ⟨y,H2,I2,r2,q2⟩=>?_))
 refine zp (wpAny_standAt (zp (wpAny_holding (bA (hs pins s2 σ H2 x y v ov iv u _ I2 r1 r2 r q2) fun _ s3 ⟨H3,I3,q3⟩=>?_))))
 exact wpAny_release ⟨σ,H3,I3,q3⟩
def JI(te:TE)(g:TG):TS:=fun D σ H=>te σ H fun x H1=>g x σ H1 D.nx
theorem A2(he:PE X e te)(hg:PG X tg g)(hs:swapsWithSole [tg] e pos.line X.env=pure false:=by rfl)(hw:swappedStores [tg] e X.env=pure none:=by rfl)
  (h1:(assignEach [tg] X.env).map (·.2)=[assign tg X.env]:=by rfl):PS X (.Assign [tg] e pos) (JI te g):=by
 intro pins s σ H D I h
 refine wpAny_Assign_stores (bA (he pins s σ H _ I h) fun v s1 ⟨x,H1,I1,r1,q1⟩=>?_) hs hw
 rw[h1]
 exact bA (hg pins s1 σ H1 x v _ I1 r1 q1) fun _ s2 q=>q
theorem GI(hN:X.N.Nodup)(hi:X.N[i]?=some x)(hx:Loc X.env.scope x)(he:PE X e te)(hs:swapsWith e (some (.Name x pos')) pos.line X.env=pure false:=by rfl)(hf:X.fn x=true∨X.env.scope.names.lookup x=some .local:=by first|exact .inl rfl|exact .inr rfl|assumption) :
  PS X (.Assign [.Name x pos'] e pos) (JI te (gX i)):=by
 intro pins s σ H D I h
 refine wpAny_Assign_Name (bA (he pins s σ H _ I h) fun v s1 ⟨y,H1,I1,r1,q1⟩=>?_) hs
 exact jQ I1 hN hi hx r1 (fun s2 I2=>⟨_,H1,I2,q1⟩) hf
def NI(i:Nat)(te:TE)(ti:NG):TS:=fun D σ H=>∃x,σ[i]?=some (some x)∧te σ H fun y H1=>ti x y H1 fun z H2=>D.nx (σ.set i (some z)) H2
theorem GJ(hN:X.N.Nodup)(hi:X.N[i]?=some x)(hx:Loc X.env.scope x)(he:PE X e te)(ho:QG X op ti)(hf:X.fn x=true∨X.env.scope.names.lookup x=some .local:=by first|exact .inl rfl|exact .inr rfl|assumption) :
  PS X (.AugAssign (.Name x pos') op e pos) (NI i te ti):=by
 intro pins s σ H D I h
 obtain⟨v,e1,h⟩:=h
 obtain⟨m,hn,hl⟩:=I.loc
 have Se:IZ X.env.scope x:=by rcases hx with k|k;exact .inl k;exact .inr (.inl k)
 obtain⟨u,r,l⟩:=hl i x v hi e1 Se
 refine wpAny_AugAssign_Name ?_
 have go:wpAny (model X.prog X.w) X.A (eval e X.env) (fun w bF=>wpAny (model X.prog X.w) X.A (inplaceOp op u w) (fun r uI=>wpAny (model X.prog X.w) X.A (storeName X.env x r) (fun _=>SP X pins D .next) X.xe uI) X.xe bF) X.xe s:=by
  refine bA (he pins s σ H _ I h) fun w s1 ⟨y,H1,I1,r1,q1⟩=>?_
  refine bA (ho pins s1 σ H1 v y u w _ I1 r r1 q1) fun z s2 ⟨zv,H2,I2,r2,q2⟩=>?_
  exact jQ I2 hN hi hx r2 (fun s3 I3=>⟨_,H2,I3,q2⟩) hf
 rcases l with ⟨hk,hm⟩|⟨hk,c,hc,we⟩
 ·exact wpAny_loadName_local I.ok.kind hk hn hm go
 ·rcases hk with hk|hk
  ·exact wpAny_loadName_cell I.ok.kind hk hc we go
  ·rcases hx with k|k
   ·have:X.env.scope.names.lookup x=some .free:=hk
    rw[k] at this;cases this
   ·have:X.env.scope.names.lookup x=some .free:=hk
    rw[k] at this;cases this
def Sf(f:Int→Int→Int):NG:=fun x y H Q=>∃i j,x=.int i∧y=.int j∧Q (.int (f i j)) H
theorem GK:QG X .Add (Sf fun i j=>i+j):=by
 intro pins s σ H x y v u Q I r1 r2 h
 obtain⟨i,j,e1,e2,q⟩:=h
 subst e1;subst e2
 obtain⟨t,rfl⟩:=r1
 obtain⟨t',rfl⟩:=r2
 exact iadd_int ⟨.int _,H,I.tok _,⟨_,rfl⟩,q⟩
end
section
variable{X:Cx}{pos:Pos}
def GL(c:TT)(tb:TS):TS:=fun D σ H=>∃W:Nat→St→Hp→Prop,(∃m,W m σ H)∧∀m σ H,W m σ H →
 c σ H fun b H1=>if b=true then ∃N:St→Hp→Prop,(∀aw H',N aw H'→∃m',m'<m∧W m' aw H')∧tb { D with nx:=N,ct:=N,bk:=D.nx } σ H1 else D.nx σ H1
theorem A3(hp:PassesOwn (model X.prog X.w) X.A X.env X.xe)(hc:PT X c tc)(hb:uH X body tb):PS X (.While c body [] pos) (GL tc tb):=by
 intro pins s σ H D I h
 obtain⟨W,⟨m0,w0⟩,turn⟩:=h
 refine wpAny_While (codeAny_whileLoop (fun n s'=>∃aw H',Inv X pins aw H' s'∧W n aw H') ?_ m0 ⟨σ,H,I,w0⟩)
 rintro n s1 ⟨qb,H1,I1,w1⟩
 refine wpAny_passesOwn hp (bA (hc pins s1 qb H1 _ I1 (turn n qb H1 w1)) fun b s2 ⟨H2,I2,q2⟩=>?_)
 cases b with
 |true =>
  obtain⟨N,hN,q2⟩:=q2
  rw[if_pos rfl]
  refine wpAny_passesOwn hp (bA (hb pins s2 qb H2 _ I2 q2) fun f s3 q3=>?_)
  cases f with
  |next =>
   obtain⟨iO,H3,I3,n3⟩:=q3
   obtain⟨m',hm,w3⟩:=hN iO H3 n3
   exact⟨m',hm,iO,H3,I3,w3⟩
  |cont =>
   obtain⟨iO,H3,I3,n3⟩:=q3
   obtain⟨m',hm,w3⟩:=hN iO H3 n3
   exact⟨m',hm,iO,H3,I3,w3⟩
  |brk=>exact q3
  |ret v=>exact q3
 |false =>
  rw[if_neg zk]
  exact wpAny_execs_nil ⟨qb,H2,I2,q2⟩
end
structure It where
 go:Nat→Hp→Prop
 JJ:Nat→Hp→V→Hp→Prop
 stop:Nat→Hp→Prop
def rP(X:Cx)(pins:List (Addr×Obj))(H:Hp)(b:Addr):Prop :=
 H b=none∧b≠X.env.locals∧b∉X.fs∧(b∈X.ex∨X.cH.heap.objs.size≤b)∧(∀x c,X.env.cells.lookup x=some c→c≠b)∧∀p∈X.pn++pins,p.1≠b
theorem Inv.rQ(I:Inv X pins σ H s)(hb:s.heap.objs.size≤b)(hn:H' b=none):rP X pins H' b:=by
 refine⟨hn,Nat.ne_of_gt (zo I.lt hb),I.Np hb,.inr (zG I.sz hb),fun x c e z=>?_,fun p hp z=>?_⟩
 ·obtain⟨v,q⟩:=I.cell x c e
  exact absurd (zo q.lt (by rw[z];exact hb)) (yA _)
 ·exact absurd (zo (zA (I.pin p hp).1) (by rw[z];exact hb)) (yA _)
structure Turn(P:Program)(w:World)(K:Frag)(tg:Expr)(J:It)(fp:List Addr)(it:Addr)(tn:Nat→Heap→Prop):Prop where
 mem:it∈fp
 obj:∀i h,tn i h→∀b∈fp,∃o,h.get? b=some o∧∀v,o.data≠.cell v
 keep:∀i h h',tn i h→(∀b∈fp,∀o,h.get? b=some o→h'.get? b=some o)→tn i h'
 item:∀(X:Cx),X.prog=P→X.w=w→X.K=K→X.calm=true→∀(i:Nat) (pins:List (Addr×Obj)) (s:Shared) (σ:St) (H:Hp) (E:Value→Shared→Prop),Inv X pins σ H s→(∀b∈fp,rP X pins H b)→tn i s.heap→J.go i H →
  wpAny (model P w) X.A (pyNext (.ref it)) (fun r s1=>∃u,r=some u ∧
   wpAny (model P w) X.A (letOwnedTupleGo tg (.ref it) u) (fun _ s2=>∃x H',Inv X pins σ H' s2∧RelV x u∧J.JJ i H x H'∧tn (i+1) s2.heap∧∀b∈fp,H' b=none) E s1) E s
 done:∀(X:Cx),X.prog=P→X.w=w→X.K=K→X.calm=true→∀(i:Nat) (pins:List (Addr×Obj)) (s:Shared) (σ:St) (H:Hp) (E:Value→Shared→Prop),Inv X pins σ H s→(∀b∈fp,rP X pins H b)→tn i s.heap→J.stop i H →
  wpAny (model P w) X.A (pyNext (.ref it)) (fun r s1=>r=none∧Inv X pins σ H s1) E s
 self:∀(A:Around) (i:Nat) (s:Shared) (Q:Value→Shared→Prop) (E:Value→Shared→Prop),tn i s.heap→Q (.ref it) s→wpAny (model P w) A (pyIter (.ref it)) Q E s
abbrev TI:=St→Hp→(It→Hp→Prop)→Prop
def NJ(X:Cx)(pins:List (Addr×Obj))(σ:St)(tg:Expr)(R:It→Hp→Prop)(NK:Value)(s2:Shared):Prop :=
 ∃(it:Addr) (fp:List Addr) (tn:Nat→Heap→Prop) (J:It) (H':Hp),NK=.ref it∧Inv X pins σ H' s2∧Turn X.prog X.w X.K tg J fp it tn∧tn 0 s2.heap∧(∀b∈fp,rP X pins H' b)∧R J H'
def PI(X:Cx)(tg iter:Expr)(wi:TI):Prop :=
 ∀(pins:List (Addr×Obj)) (s:Shared) (σ:St) (H:Hp) (R:It→Hp→Prop),Inv X pins σ H s→wi σ H R →
  wpAny (model X.prog X.w) X.A (eval iter X.env) (fun v s1=>wpAny (model X.prog X.w) X.A (pyIter v) (NJ X pins σ tg R) X.xe s1) X.xe s
theorem wo(ho:s.heap.get? it=some o)(hc:o.cls=.type n)(hd:o.data=.fields vs)
  (hn:["enumerate","zip","dict_itemiterator","dict_reverseitemiterator","odict_iterator","itertools.zip_longest","itertools.pairwise"].contains n=false) (hQ:Q () s):wpAny M A (letOwnedTupleGo tg (.ref it) u) Q E s:=by
 unfold letOwnedTupleGo
 cases tg <;> first
  |exact zB hQ
  | (cases u <;> first
    |exact zB hQ
    | (refine zp (wpAny_load ho ?_)
       rw[hc,hd]
       show wpAny M A (if (["enumerate","zip","dict_itemiterator","dict_reverseitemiterator","odict_iterator","itertools.zip_longest","itertools.pairwise"].contains n && vs[0]? == some (rawInt _))=true then _ else _) Q E s
       rw[if_neg (by intro h;rw[hn,zl] at h;cases h)]
       exact zB hQ))
def QH(K:Frag)(a:Addr):It :=
 ⟨fun i H=>∃xs x,i7 K H a xs∧xs[i]?=some x,fun i H x H'=>H'=H∧∀xs,i7 K H a xs→xs[i]?=some x,fun i H=>∃xs,i7 K H a xs∧xs.length≤i⟩
def QI(K:Frag)(a:Addr):It :=
 ⟨fun i H=>∃xs x,kU K H a xs∧xs[i]?=some x,fun i H x H'=>H'=H∧∀xs,kU K H a xs→xs[i]?=some x,fun i H=>∃xs,kU K H a xs∧xs.length≤i⟩
def JK(lo:Int)(n:Nat):It:=⟨fun i _=>i<n,fun i H x H'=>H'=H∧x=.int (lo+i),fun i _=>n≤i⟩
theorem xM{P:Program}{w:World}{K:Frag}{tg:Expr}(a it:Addr):Turn P w K tg (QH K a) [it] it (fun i h=>h.IsListIter it a i) where
 mem:=by simp
 obj:=fun i h st b hb=>by
  have e:b=it:=by simpa using hb
  subst e
  obtain⟨o,e,c,d⟩:=st
  exact⟨o,e,fun v z=>by rw[d] at z;cases z⟩
 keep:=fun i h h' st k=>st.at fun o e=>k it (by simp) o e
 item:=by
  intro X hP hw hK hc i pins s σ H E I hf st hg
  subst hP hw hK
  obtain⟨xs,x,hq,hx⟩:=hg
  obtain⟨ao,rv,p,hz⟩:=I.list hq
  obtain⟨u,hu,ru⟩:=rv.get hx
  obtain⟨f0,f1,f2,f3,f4,f5⟩:=hf it (by simp)
  refine wpAny_pyNext_list_item st p.isList (x:=u) (by simpa using hu) fun h' iP sb=>?_
  have I1:Inv X pins σ H { s with heap:=h' }:=I.turned (t':=s.toks) (fun b o hb e=>(sb.2 b hb).trans e) f0 f1 f3 f4 f5
  obtain⟨o,e,c,d⟩:=id iP
  exact⟨u,rfl,wo (s:={ s with heap:=h' }) e c d (by decide) ⟨x,H,I1,ru,⟨rfl,fun ys hy=>by rw[I.AZ hy hq];exact hx⟩,iP,fun b hb=>(hf b hb).1⟩⟩
 done:=by
  intro X hP hw hK hc i pins s σ H E I hf st hg
  subst hP hw hK
  obtain⟨xs,hq,hx⟩:=hg
  obtain⟨ao,rv,p,hz⟩:=I.list hq
  obtain⟨f0,f1,f2,f3,f4,f5⟩:=hf it (by simp)
  have hl:=rv.length
  exact wpAny_pyNext_list_end (I.ok.hd hc) st p.isList (by simp;omega) fun h' eb=>⟨rfl,I.turned (t':=s.toks) (fun b o hb e=>eb b o hb e) f0 f1 f3 f4 f5⟩
 self:=fun _ _ _ _ _ st h=>wpAny_pyIter_listiter st h
theorem uJ{P:Program}{w:World}{K:Frag}{tg:Expr}(a it:Addr):Turn P w K tg (QI K a) [it] it (fun i h=>h.IsTupleIter it a i) where
 mem:=by simp
 obj:=fun i h st b hb=>by
  have e:b=it:=by simpa using hb
  subst e
  obtain⟨o,e,c,d⟩:=st
  exact⟨o,e,fun v z=>by rw[d] at z;cases z⟩
 keep:=fun i h h' st k=>st.at fun o e=>k it (by simp) o e
 item:=by
  intro X hP hw hK hc i pins s σ H E I hf st hg
  subst hP hw hK
  obtain⟨xs,x,hq,hx⟩:=hg
  obtain⟨ao,rv,p,hz⟩:=I.tuple hq
  obtain⟨u,hu,ru⟩:=rv.get hx
  obtain⟨f0,f1,f2,f3,f4,f5⟩:=hf it (by simp)
  refine wpAny_pyNext_tuple_item st (show s.heap.IsTuple a ao.toArray from p) (x:=u) (by simpa using hu) fun h' iP sb=>?_
  have I1:Inv X pins σ H { s with heap:=h' }:=I.turned (t':=s.toks) (fun b o hb e=>(sb.2 b hb).trans e) f0 f1 f3 f4 f5
  obtain⟨o,e,c,d⟩:=id iP
  exact⟨u,rfl,wo (s:={ s with heap:=h' }) e c d (by decide) ⟨x,H,I1,ru,⟨rfl,fun ys hy=>by rw[I.xK hy hq];exact hx⟩,iP,fun b hb=>(hf b hb).1⟩⟩
 done:=by
  intro X hP hw hK hc i pins s σ H E I hf st hg
  subst hP hw hK
  obtain⟨xs,hq,hx⟩:=hg
  obtain⟨ao,rv,p,hz⟩:=I.tuple hq
  obtain⟨f0,f1,f2,f3,f4,f5⟩:=hf it (by simp)
  have hl:=rv.length
  exact wpAny_pyNext_tuple_end (I.ok.hd hc) st (show s.heap.IsTuple a ao.toArray from p) (by simp;omega) fun h' eb=>⟨rfl,I.turned (t':=s.toks) (fun b o hb e=>eb b o hb e) f0 f1 f3 f4 f5⟩
 self:=fun _ _ _ _ _ st h=>wpAny_pyIter_tupleiter st h
theorem uK{P:Program}{w:World}{K:Frag}{tg:Expr}(it:Addr)(lo:Int)(n:Nat):Turn P w K tg (JK lo n) [it] it (fun i h=>IsRangeIter h it (lo+(i:Nat) * 1) ((n:Int) - (i:Nat)) 1) where
 mem:=by simp
 obj:=fun i h st b hb=>by
  have e:b=it:=by simpa using hb
  subst e
  exact⟨_,st,fun v z=>by
   have z':Data.fields _=Data.cell v:=z
   cases z'⟩
 keep:=fun i h h' st k=>k it (by simp) _ st
 item:=by
  intro X hP hw hK hc i pins s σ H E I hf st hg
  subst hP hw hK
  obtain⟨f0,f1,f2,f3,f4,f5⟩:=hf it (by simp)
  have W:=Walks.range (prog:=X.prog) (w:=X.w) (I.ok.hd hc) it lo 1 n
  refine W.item i s _ _ hg st fun v h' tk hv iP kk=>?_
  obtain⟨t,rfl⟩:=hv
  have I1:Inv X pins σ H { s with heap:=h',toks:=tk }:=I.turned (fun b o hb e=>kk b o (by simpa using hb) e) f0 f1 f3 f4 f5
  refine⟨_,rfl,wo (s:={ s with heap:=h',toks:=tk }) (n := "range_iterator") iP rfl rfl (by decide) ⟨.int (lo+i),H,I1,⟨t,?_⟩,⟨rfl,rfl⟩,iP,fun b hb=>(hf b hb).1⟩⟩
  rw[Int.mul_one]
 done:=by
  intro X hP hw hK hc i pins s σ H E I hf st hg
  subst hP hw hK
  obtain⟨f0,f1,f2,f3,f4,f5⟩:=hf it (by simp)
  exact wpAny_pyNext_range_end (I.ok.hd hc) st (by have:n≤i:=hg;omega) fun h' eb=>⟨rfl,I.turned (t':=s.toks) (fun b o hb e=>eb b o hb e) f0 f1 f3 f4 f5⟩
 self:=fun _ _ _ _ _ st h=>wpAny_pyIter_rangeiter st h
section
variable{X:Cx}{tg:Expr}
def JL(K:Frag)(tl:TE):TI:=fun σ H R=>tl σ H fun x H1=>∃a,x=.ref a∧(∃xs,i7 K H1 a xs)∧R (QH K a) H1
def NL(K:Frag)(tl:TE):TI:=fun σ H R=>tl σ H fun x H1=>∃a,x=.ref a∧(∃xs,kU K H1 a xs)∧R (QI K a) H1
theorem DH{l:Expr}{tl:TE}(hl:PE X l tl):PI X tg l (JL X.K tl):=by
 intro pins s σ H R I h
 refine bA (hl pins s σ H _ I h) fun v s1 ⟨x,H1,I1,r1,q1⟩=>?_
 obtain⟨a,e,⟨xs,hq⟩,q⟩:=q1
 subst e
 cases r1
 obtain⟨ao,rv,p,hz⟩:=I1.list hq
 refine wpAny_pyIter_list p.isList ?_
 refine⟨s1.heap.objs.size,[s1.heap.objs.size],_,_,H1,rfl,I1.kept (t':=s1.toks) fun b o e=>zt _ e,xM a _,⟨_,zU _ rfl,rfl,rfl⟩,fun b hb=>?_,q⟩
 have e:b=s1.heap.objs.size:=by simpa using hb
 subst e
 exact I1.rQ (zi _) (I1.aS.fresh (zi _))
theorem GN{l:Expr}{tl:TE}(hl:PE X l tl):PI X tg l (NL X.K tl):=by
 intro pins s σ H R I h
 refine bA (hl pins s σ H _ I h) fun v s1 ⟨x,H1,I1,r1,q1⟩=>?_
 obtain⟨a,e,⟨xs,hq⟩,q⟩:=q1
 subst e
 cases r1
 obtain⟨ao,rv,p,hz⟩:=I1.tuple hq
 refine wpAny_pyIter_tuple (show s1.heap.IsTuple a ao.toArray from p) ?_
 refine⟨s1.heap.objs.size,[s1.heap.objs.size],_,_,H1,rfl,I1.kept (t':=s1.toks) fun b o e=>zt _ e,uJ a _,⟨_,zU _ rfl,rfl,rfl⟩,fun b hb=>?_,q⟩
 have e:b=s1.heap.objs.size:=by simpa using hb
 subst e
 exact I1.rQ (zi _) (I1.aS.fresh (zi _))
theorem rR{pins:List (Addr×Obj)}{σ:St}{H:Hp}{s:Shared}{R:It→Hp→Prop}{E:Value→Shared→Prop}{lo hi:Int}{t u v:Tok}{tk:Nat}(I:Inv X pins σ H s)(h1:-(2 ^ 62)≤lo)(h2:lo<2 ^ 62)(h3:-(2 ^ 62)≤hi)(h4:hi<2 ^ 62)
  (q:R (JK lo (hi - lo).toNat) H):wpAny (model X.prog X.w) X.A (pyIter (.ref s.heap.objs.size)) (NJ X pins σ tg R) E { s with heap:=s.heap.push { cls:=.type "range",data:=.fields #[.int lo t,.int hi u,.int 1 v] },toks:=tk }:=by
 refine wpAny_pyIter_range (IsRange.new ..) (small_one h1 h2 h3 h4) ?_
 have I1:Inv X pins σ H { s with heap:=s.heap.push { cls:=.type "range",data:=.fields #[.int lo t,.int hi u,.int 1 v] },toks:=tk }:=I.kept fun b o e=>zt _ e
 refine⟨(s.heap.push { cls:=.type "range",data:=.fields #[.int lo t,.int hi u,.int 1 v] }).objs.size,[(s.heap.push { cls:=.type "range",data:=.fields #[.int lo t,.int hi u,.int 1 v] }).objs.size],_,_,H,rfl,
  I1.kept (t':=tk) fun b o e=>zt _ e,uK _ lo (hi - lo).toNat,?_,fun b hb=>?_,q⟩
 ·have e1:lo+((0:Nat):Int) * 1=lo:=by simp
  have e2:(((hi - lo).toNat:Nat):Int) - ((0:Nat):Int)=Builtin.Range.rangeSize lo hi 1:=by rw[rangeSize_one];split <;> omega
  show IsRangeIter _ _ (lo+((0:Nat):Int) * 1) ((((hi - lo).toNat:Nat):Int) - ((0:Nat):Int)) 1
  rw[e1,e2]
  exact zU _ rfl
 ·have e:b=(s.heap.push { cls:=.type "range",data:=.fields #[.int lo t,.int hi u,.int 1 v] }).objs.size:=by simpa using hb
  subst e
  exact I1.rQ (zi _) (I1.aS.fresh (zi _))
def JM(ta:TA):TI:=fun σ H R=>ta σ H fun vs H1=>∃j:Int,vs=[.int j]∧-(2 ^ 62)≤j∧j<2 ^ 62∧R (JK 0 j.toNat) H1
def JN(ta:TA):TI:=fun σ H R=>ta σ H fun vs H1=>∃i j:Int,vs=[.int i,.int j]∧(-(2 ^ 62)≤i∧i<2 ^ 62∧-(2 ^ 62)≤j∧j<2 ^ 62)∧R (JK i (j - i).toNat) H1
theorem xN{a:Expr}{ta:TA}{p pos:Pos}(hg:Gl X "range")(hm:X.mg "range" = none)(ha:PA X [a] ta)(hs:starEach [a] X.env=[(false,eval a X.env)]:=by rfl):PI X tg (.Call (.Name "range" p) [a] [] pos) (JM ta):=by
 intro pins s σ H R I h
 refine Call_ (mI I hg hm boot_range (PyProof.Rows.callWith_type1 (bA (ha pos pins s σ H _ I h) fun us s1 ⟨vs,H1,I1,r1,q1⟩=>?_) hs rfl))
 obtain⟨j,e,q1,q2,q⟩:=q1
 subst e
 cases r1 with
 |cons r rr =>
  cases rr
  obtain⟨t,rfl⟩:=r
  exact call_range_1 (rR I1 (by omega) (by omega) q1 q2 (by simpa using q))
theorem xO(hg:Gl X "range")(hm:X.mg "range" = none)(ha:PA X [a,b] ta)(hs:starEach [a,b] X.env=[(false,eval a X.env),(false,eval b X.env)]:=by rfl)(A4:starEach [b] X.env=[(false,eval b X.env)]:=by rfl) :
  PI X tg (.Call (.Name "range" p) [a,b] [] pos) (JN ta):=by
 intro pins s σ H R I h
 refine Call_ (mI I hg hm boot_range (PyProof.Rows.callWith_type1 (bA (ha pos pins s σ H _ I h) fun us s1 ⟨vs,H1,I1,r1,q1⟩=>?_) (by rw[hs,A4]) (by rw[A4];rfl)))
 obtain⟨i,j,e,⟨q1,q2,q3,q4⟩,q⟩:=q1
 subst e
 cases r1 with
 |cons r rr =>
  cases rr with
  |cons r' rr =>
   cases rr
   obtain⟨t,rfl⟩:=r
   obtain⟨t',rfl⟩:=r'
   exact call_range_2 (rR I1 q1 q2 q3 q4 q)
def NM(wi:TI)(g:TG)(tb:TS):TS:=fun D σ H=>wi σ H fun J H1=>∃W:Nat→Nat→St→Hp→Prop,(∃m,W 0 m σ H1)∧∀i m σ H,W i m σ H →
 (J.stop i H∧D.nx σ H)∨(J.go i H∧∃N:St→Hp→Prop,(∀aw H',N aw H'→∃m',m'<m∧W (i+1) m' aw H')∧∀x H',J.JJ i H x H'→g x σ H' fun rS H2=>tb { D with nx:=N,ct:=N,bk:=D.nx } rS H2)
def mL(fp:List Addr)(h:Heap):List (Addr×Obj):=fp.filterMap fun b=>(h.get? b).map fun o=>(b,o)
theorem fZ(hb:b∈fp)(e:h.get? b=some o):(b,o)∈mL fp h:=List.mem_filterMap.mpr ⟨b,hb,by rw[e];rfl⟩
theorem xP(hp:p∈mL fp h):p.1∈fp∧h.get? p.1=some p.2:=by
 obtain⟨b,hb,e⟩:=List.mem_filterMap.mp hp
 cases q:h.get? b with
 |none=>rw[q] at e;cases e
 |some o =>
  rw[q] at e
  have e':(b,o)=p:=zO e
  subst e'
  exact⟨hb,q⟩
theorem Inv.pinned(I:Inv X pins σ H s)(hf:∀b∈fp,rP X pins H b)(ho:∀b∈fp,∃o,s.heap.get? b=some o∧∀v,o.data≠.cell v):Inv X (pins++mL fp s.heap) σ H s :=
 I.jP fun p hp=>(zW.mp hp).elim (fun z=>I.pin p (zP _ z)) fun z=>by
  obtain⟨hb,e⟩:=xP z
  obtain⟨f0,f1,f2,_⟩:=hf p.1 hb
  obtain⟨o,e',d⟩:=ho p.1 hb
  rw[e] at e';cases e'
  exact⟨e,f0,f1,f2,d⟩
theorem Inv.mM(I:Inv X (pins++pl) σ H s):Inv X pins σ H s:=I.jP fun p hp=>I.pin p (zP _ (yd _ hp))
theorem GO(hp:PassesOwn (model X.prog X.w) X.A X.env X.xe)(hc:X.calm=true)(hi:PI X tg iter wi)(hg:PG X tg g)(hb:uH X body tb)
  (hs:∀x,foldedSetIterable iter X.env x=pure x:=by intro _;rfl):PS X (.For tg iter body [] pos) (NM wi g tb):=by
 intro pins s σ H D I h
 refine wpAny_For (bA (hi pins s σ H _ I h) fun v s1 h1=>bA h1 fun NK s2 h2=>?_) hs
 obtain⟨it,fp,tn,J,H2,e,I2,T,NN,f2,W,⟨m0,w0⟩,turn⟩:=h2
 subst e
 -- what stays true of the iterator's objects through the loop
 have GP:∀{H':Hp},(∀b∈fp,H' b=none)→∀b∈fp,rP X pins H' b:=fun hn b hb=>⟨hn b hb,(f2 b hb).2⟩
 refine codeAny_forLoop_any (fun n s'=>∃i aw H',Inv X pins aw H' s'∧tn i s'.heap∧(∀b∈fp,H' b=none)∧W i n aw H') ?_ m0 ⟨0,σ,H2,I2,NN,fun b hb=>(f2 b hb).1,w0⟩
 rintro n s3 ⟨i,iO,H3,I3,JO,JP,w3⟩
 rcases turn i n iO H3 w3 with ⟨stop,qn⟩|⟨go,N,hN,step⟩
 ·refine wpAny_passesOwn hp (bA (T.done X rfl rfl rfl hc i pins s3 iO H3 X.xe I3 (GP JP) JO stop) fun r s4 ⟨hr,I4⟩=>?_)
  subst hr
  exact wpAny_execs_nil ⟨iO,H3,I4,qn⟩
 ·refine wpAny_passesOwn hp (bA (T.item X rfl rfl rfl hc i pins s3 iO H3 X.xe I3 (GP JP) JO go) fun r s4 ⟨u,hr,h4⟩=>?_)
  subst hr
  refine wpAny_passesOwn hp (bA h4 fun _ s5 ⟨x,H5,I5,r5,y5,st5,fr5⟩=>?_)
  have NO:=I5.pinned (GP fr5) (T.obj _ _ st5)
  refine wpAny_passesOwn hp (bA (hg _ s5 iO H5 x u _ NO r5 (step x H5 y5)) fun _ s6 ⟨JQ,H6,I6,q6⟩=>?_)
  refine wpAny_passesOwn hp (bA (hb _ s6 JQ H6 _ I6 q6) fun f s7 q7=>?_)
  have again:∀{A5:St}{H7:Hp},Inv X (pins++mL fp s5.heap) A5 H7 s7→N A5 H7→∃m,m<n∧∃i aw H',Inv X pins aw H' s7∧tn i s7.heap∧(∀b∈fp,H' b=none)∧W i m aw H':=fun {A5 H7} I7 n7=>by
   obtain⟨m',hm,w7⟩:=hN A5 H7 n7
   refine⟨m',hm,i+1,A5,H7,I7.mM,T.keep _ _ _ st5 fun b hb o e=>(I7.pin (b,o) (zP _ (zP _ (fZ hb e)))).1,fun b hb=>?_,w7⟩
   obtain⟨o,e,d⟩:=T.obj _ _ st5 b hb
   exact (I7.pin (b,o) (zP _ (zP _ (fZ hb e)))).2.1
  cases f with
  |next=>obtain⟨A5,H7,I7,n7⟩:=q7;exact again I7 n7
  |cont=>obtain⟨A5,H7,I7,n7⟩:=q7;exact again I7 n7
  |brk=>obtain⟨A5,H7,I7,q7⟩:=q7;exact⟨A5,H7,I7.mM,q7⟩
  |ret v=>obtain⟨x7,A5,H7,I7,r7,q7⟩:=q7;exact⟨x7,A5,H7,I7.mM,r7,q7⟩
end
abbrev R2:=V→V→Hp→VK→Prop
def eX(X:Cx)(f:Value→Value→Sem Value)(r:R2):Prop :=
 ∀(pins:List (Addr×Obj)) (s:Shared) (σ:St) (H:Hp) (x y:V) (v u:Value) (Q:VK),Inv X pins σ H s→RelV x v→RelV y u→r x y H Q →
  wpAny (model X.prog X.w) X.A (f v u) (EP X pins σ Q) X.xe s
def NP(X:Cx)(f:Value→Sem Value)(r:V→Hp→VK→Prop):Prop :=
 ∀(pins:List (Addr×Obj)) (s:Shared) (σ:St) (H:Hp) (x:V) (v:Value) (Q:VK),Inv X pins σ H s→RelV x v→r x H Q →
  wpAny (model X.prog X.w) X.A (f v) (EP X pins σ Q) X.xe s
def dY(X:Cx)(f:Value)(r:List V→Hp→VK→Prop):Prop :=
 ∀(pins:List (Addr×Obj)) (s:Shared) (σ:St) (H:Hp) (xs:List V) (us:List Value) (Q:VK),Inv X pins σ H s→Vals xs us→r xs H Q →
  wpAny (model X.prog X.w) X.A (call f us) (EP X pins σ Q) X.xe s
def Jb(r:R2)(ta tb:TE):TE:=fun σ H Q=>ta σ H fun x H1=>tb σ H1 fun y H2=>r x y H2 Q
def Sg(r:V→Hp→VK→Prop)(ta:TE):TE:=fun σ H Q=>ta σ H fun x H1=>r x H1 Q
def rI(C:Int→Int→Prop)(g:Int→Int→V):R2:=fun x y H Q=>∃i j,x=.int i∧y=.int j∧C i j∧Q (g i j) H
def DJ(g:Int→Int→V):R2:=fun x y H Q=>∃i j,x=.int i∧y=.int j∧Q (g i j) H
def rU(g:Int→V):V→Hp→VK→Prop:=fun x H Q=>∃i,x=.int i∧Q (g i) H
section
variable{X:Cx}{a b c:Expr}{ta tb tc:TE}{pos:Pos}
theorem GQ(ha:PE X a ta)(hb:PE X b tb){pins:List (Addr×Obj)}{s:Shared}{σ:St}{H:Hp}{R:V→V→Hp→Prop}(I:Inv X pins σ H s)
  (h:ta σ H fun x H1=>tb σ H1 fun y H2=>R x y H2) {Q:Value→Shared→Prop}{f:Value→Value→Sem Value}
  (hf:∀v u s2 x y H2,Inv X pins σ H2 s2→RelV x v→RelV y u→R x y H2→wpAny (model X.prog X.w) X.A (f v u) Q X.xe s2) :
  wpAny (model X.prog X.w) X.A (eval a X.env) (fun v s₁=>wpAny (model X.prog X.w) X.A (eval b X.env) (fun u bF=>wpAny (model X.prog X.w) X.A (f v u) Q X.xe bF) X.xe s₁) X.xe s:=by
 refine bA (ha pins s σ H _ I h) fun v s1 ⟨x,H1,I1,r1,q1⟩=>?_
 refine bA (hb pins s1 σ H1 _ I1 q1) fun u s2 ⟨y,H2,I2,r2,q2⟩=>?_
 exact hf v u s2 x y H2 I2 r1 r2 q2
theorem JR{op:Operator}{r:R2}(ho:eX X (binaryOp op) r)(ha:PE X a ta)(hb:PE X b tb):PE X (.BinOp a op b pos) (Jb r ta tb):=by
 intro pins s σ H Q I h
 exact wpAny_BinOp (GQ ha hb I h fun v u s2 x y H2 I2 rx ry q=>ho pins s2 σ H2 x y v u Q I2 rx ry q)
theorem JS(ho:NP X (unaryOp op) r)(ha:PE X a ta):PE X (.UnaryOp op a pos) (Sg r ta):=by
 intro pins s σ H Q I h
 exact UnaryOp_ (bA (ha pins s σ H _ I h) <| by rintro v s1 ⟨x,H1,I1,r1,q1⟩;exact ho pins s1 σ H1 x v Q I1 r1 q1)
theorem Mv{f:Value→Value→Sem Value}{C:Int→Int→Prop}{g:Int→Int→Int}
  (rule:∀(i j:Int) (t u:Tok) (s:Shared) (Q:Value→Shared→Prop) (E:Value→Shared→Prop),C i j→Q (.int (g i j) s.toks) { s with toks:=s.toks+1 }→wpAny (model X.prog X.w) X.A (f (.int i t) (.int j u)) Q E s) :
  eX X f (rI C fun i j=>.int (g i j)):=by
 intro pins s σ H x y v u Q I rx ry h
 obtain⟨i,j,rfl,rfl,hc,q⟩:=h
 obtain⟨t,rfl⟩:=rx
 obtain⟨t',rfl⟩:=ry
 exact rule i j t t' s _ _ hc ⟨.int (g i j),H,I.tok _,⟨_,rfl⟩,q⟩
theorem JT{f:Value→Value→Sem Value}{g:Int→Int→Int}
  (rule:∀(i j:Int) (t u:Tok) (s:Shared) (Q:Value→Shared→Prop) (E:Value→Shared→Prop),Q (.int (g i j) s.toks) { s with toks:=s.toks+1 }→wpAny (model X.prog X.w) X.A (f (.int i t) (.int j u)) Q E s) :
  eX X f (DJ fun i j=>.int (g i j)):=by
 intro pins s σ H x y v u Q I rx ry h
 obtain⟨i,j,rfl,rfl,q⟩:=h
 obtain⟨t,rfl⟩:=rx
 obtain⟨t',rfl⟩:=ry
 exact rule i j t t' s _ _ ⟨.int (g i j),H,I.tok _,⟨_,rfl⟩,q⟩
theorem DK{f:Value→Value→Sem Value}{g:Int→Int→Bool}
  (rule:∀(i j:Int) (t u:Tok) (s:Shared) (Q:Value→Shared→Prop) (E:Value→Shared→Prop),Q (.bool (g i j)) s→wpAny (model X.prog X.w) X.A (f (.int i t) (.int j u)) Q E s) :
  eX X f (DJ fun i j=>.bl (g i j)):=by
 intro pins s σ H x y v u Q I rx ry h
 obtain⟨i,j,rfl,rfl,q⟩:=h
 obtain⟨t,rfl⟩:=rx
 obtain⟨t',rfl⟩:=ry
 exact rule i j t t' s _ _ ⟨.bl (g i j),H,I,rfl,q⟩
def JU(i j:Int):Prop:=0≤j∧j≤1000000∧i.natAbs<2 ^ 64
def DL(i j:Int):Prop:=(-(2 ^ 64)<i∧i<2 ^ 64)∨(-(2 ^ 64)<j∧j<2 ^ 64)
theorem DL.ok{i j:Int}(h:DL i j):IntMulOk i j:=by
 rcases h with ⟨h1,h2⟩|⟨h1,h2⟩
 ·exact .of_left (intBits_le_64 h1 h2)
 ·exact .of_right (intBits_le_64 h1 h2)
theorem GR:eX X (binaryOp .Add) (DJ fun i j=>.int (i+j)):=JT fun _ _ _ _ _ _ _ q=>add_int q
theorem GS:eX X (binaryOp .Sub) (DJ fun i j=>.int (i - j)):=JT fun _ _ _ _ _ _ _ q=>sub_int q
theorem GU:eX X (binaryOp .Mult) (rI DL fun i j=>.int (i * j)):=Mv fun _ _ _ _ _ _ _ hc q=>mul_int q hc.ok
theorem GV:eX X (binaryOp .Mod) (rI (fun _ j=>0<j) fun i j=>.int (i % j)):=Mv fun i j _ _ _ _ _ hc q=>by
 have h1:(0:Int)<j:=hc
 exact mod_int' (by omega) (by rw[Int.fmod_eq_emod_of_nonneg i (by omega)];exact q)
theorem GW:eX X (binaryOp .Pow) (rI JU fun i j=>.int (i ^ j.toNat)):=Mv fun _ _ _ _ _ _ _ hc q=>pow_int_small hc.1 hc.2.1 hc.2.2 q
theorem Sh{f:Value→Sem Value}{g:Int→Int}
  (rule:∀(i:Int) (t:Tok) (s:Shared) (Q:Value→Shared→Prop) (E:Value→Shared→Prop),Q (.int (g i) s.toks) { s with toks:=s.toks+1 }→wpAny (model X.prog X.w) X.A (f (.int i t)) Q E s) :
  NP X f (rU fun i=>.int (g i)):=by
 intro pins s σ H x v Q I rx h
 obtain⟨i,rfl,q⟩:=h
 obtain⟨t,rfl⟩:=rx
 exact rule i t s _ _ ⟨.int (g i),H,I.tok _,⟨_,rfl⟩,q⟩
theorem GX:NP X (unaryOp .USub) (rU fun i=>.int (-i)):=Sh fun _ _ _ _ _ q=>neg_int q
end
def JV:V→V→Bool
 |.aK,.aK=>true|.aK,.int _=>true|.int _,.aK=>true|.aK,.bl _=>true|.bl _,.aK=>true|.aK,.str _=>true|.str _,.aK=>true
 |.int _,.int _=>true|.bl _,.bl _=>true|.str _,.str _=>true|.xF _,.xF _=>true
 |.int _,.str _=>true|.str _,.int _=>true|.bl _,.str _=>true|.str _,.bl _=>true
 |_,_=>false
def Si:R2:=fun x y H Q=>JV x y=true∧Q (.bl (decide (x=y))) H
def Sj:R2:=fun x y H Q=>JV x y=true∧Q (.bl (!decide (x=y))) H
theorem wq:decide (V.int i=V.int j)=(i == j):=by
 rw[yt]
 simp
theorem A6:decide (V.bl i=V.bl j)=(i == j):=by
 rw[yt]
 simp
theorem wt:decide (V.str i=V.str j)=(i == j):=by
 rw[yt]
 simp
theorem wu:decide (V.xF i=V.xF j)=(i.toList == j.toList):=by
 rw[yt]
 cases i
 cases j
 simp
section
variable{X:Cx}{a b c:Expr}{ta tb tc:TE}{pos:Pos}
theorem aA(I:Inv X pins σ H s)(q:Q (.bl k) H)(e:k=k'):EP X pins σ Q (.bool k') s:=by
 subst e
 exact⟨.bl k,H,I,rfl,q⟩
theorem Fx:eX X (compareOp .Eq) Si:=by
 intro pins s σ H x y v u Q I rx ry h
 obtain⟨hs,q⟩:=h
 cases x with
 |aK =>
  cases rx
  cases y with
  |aK=>cases ry;exact PySem.EqNone.eq_none_none (aA I q (by simp))
  |bl j=>cases ry;exact PySem.EqNone.eq_none_bool (aA I q (by simp))
  |int j=>obtain⟨t',rfl⟩:=ry;exact PySem.EqNone.eq_none_int (aA I q (by simp))
  |str j=>obtain⟨t',rfl⟩:=ry;exact PySem.EqNone.eq_none_str (aA I q (by simp))
  |_=>exact absurd (show false=true from hs) zk
 |bl i =>
  cases rx
  cases y with
  |aK=>cases ry;exact PySem.EqNone.eq_bool_none (aA I q (by simp))
  |bl j=>cases ry;exact eq_bool (aA I q A6)
  |str j=>obtain⟨t',rfl⟩:=ry;exact PySem.EqMixed.eq_bool_str (aA I q (by simp))
  |_=>exact absurd (show false=true from hs) zk
 |int i =>
  obtain⟨t,rfl⟩:=rx
  cases y with
  |aK=>cases ry;exact PySem.EqNone.eq_int_none (aA I q (by simp))
  |int j=>obtain⟨t',rfl⟩:=ry;exact eq_int (aA I q wq)
  |str j=>obtain⟨t',rfl⟩:=ry;exact PySem.EqMixed.eq_int_str (aA I q (by simp))
  |_=>exact absurd (show false=true from hs) zk
 |str i =>
  obtain⟨t,rfl⟩:=rx
  cases y with
  |aK=>cases ry;exact PySem.EqNone.eq_str_none (aA I q (by simp))
  |bl j=>cases ry;exact PySem.EqMixed.eq_str_bool (aA I q (by simp))
  |int j=>obtain⟨t',rfl⟩:=ry;exact PySem.EqMixed.eq_str_int (aA I q (by simp))
  |str j=>obtain⟨t',rfl⟩:=ry;exact eq_str (aA I q wt)
  |_=>exact absurd (show false=true from hs) zk
 |xF i =>
  obtain⟨t,rfl⟩:=rx
  cases y with
  |xF j=>obtain⟨t',rfl⟩:=ry;exact PySem.W.eq_bytes (aA I q wu)
  |_=>exact absurd (show false=true from hs) zk
 |_=>cases y <;> exact absurd (show false=true from hs) zk
theorem Fy:eX X (compareOp .NotEq) Sj:=by
 intro pins s σ H x y v u Q I rx ry h
 obtain⟨hs,q⟩:=h
 cases x with
 |aK =>
  cases rx
  cases y with
  |aK=>cases ry;exact PySem.EqNone.ne_none_none (aA I q (by simp))
  |bl j=>cases ry;exact PySem.EqNone.ne_none_bool (aA I q (by simp))
  |int j=>obtain⟨t',rfl⟩:=ry;exact PySem.EqNone.ne_none_int (aA I q (by simp))
  |str j=>obtain⟨t',rfl⟩:=ry;exact PySem.EqNone.ne_none_str (aA I q (by simp))
  |_=>exact absurd (show false=true from hs) zk
 |bl i =>
  cases rx
  cases y with
  |aK=>cases ry;exact PySem.EqNone.ne_bool_none (aA I q (by simp))
  |bl j=>cases ry;exact ne_bool (aA I q (congrArg not A6))
  |str j=>obtain⟨t',rfl⟩:=ry;exact PySem.EqMixed.ne_bool_str (aA I q (by simp))
  |_=>exact absurd (show false=true from hs) zk
 |int i =>
  obtain⟨t,rfl⟩:=rx
  cases y with
  |aK=>cases ry;exact PySem.EqNone.ne_int_none (aA I q (by simp))
  |int j=>obtain⟨t',rfl⟩:=ry;exact ne_int (aA I q (congrArg not wq))
  |str j=>obtain⟨t',rfl⟩:=ry;exact PySem.EqMixed.ne_int_str (aA I q (by simp))
  |_=>exact absurd (show false=true from hs) zk
 |str i =>
  obtain⟨t,rfl⟩:=rx
  cases y with
  |aK=>cases ry;exact PySem.EqNone.ne_str_none (aA I q (by simp))
  |bl j=>cases ry;exact PySem.EqMixed.ne_str_bool (aA I q (by simp))
  |int j=>obtain⟨t',rfl⟩:=ry;exact PySem.EqMixed.ne_str_int (aA I q (by simp))
  |str j=>obtain⟨t',rfl⟩:=ry;exact ne_str (aA I q (congrArg not wt))
  |_=>exact absurd (show false=true from hs) zk
 |xF i =>
  obtain⟨t,rfl⟩:=rx
  cases y with
  |xF j=>obtain⟨t',rfl⟩:=ry;exact PySem.W.ne_bytes (aA I q (congrArg not wu))
  |_=>exact absurd (show false=true from hs) zk
 |_=>cases y <;> exact absurd (show false=true from hs) zk
theorem JW:eX X (compareOp .Lt) (DJ fun i j=>.bl (decide (i<j))):=DK fun _ _ _ _ _ _ _ q=>lt_int q
theorem JX:eX X (compareOp .LtE) (DJ fun i j=>.bl (decide (i≤j))):=DK fun _ _ _ _ _ _ _ q=>le_int q
theorem JY:eX X (compareOp .Gt) (DJ fun i j=>.bl (decide (j<i))):=DK fun _ _ _ _ _ _ _ q=>gt_int q
theorem JZ:eX X (compareOp .GtE) (DJ fun i j=>.bl (decide (j≤i))):=DK fun _ _ _ _ _ _ _ q=>ge_int q
theorem xQ:eX X (compareOp .Lt) (fun x y H Q=>∃i j,x=.str i∧y=.str j∧Q (.bl (decide (i.cps.toList<j.cps.toList))) H):=by
 intro pins s σ H x y v u Q I rx ry h
 obtain⟨i,j,rfl,rfl,q⟩:=h
 obtain⟨t,rfl⟩:=rx
 obtain⟨t',rfl⟩:=ry
 exact lt_str (aA I q rfl)
theorem xR:eX X (compareOp .In) (fun x y H Q=>∃i j,x=.str i∧y=.str j∧Q (.bl (!(Builtin.Str.occurrences j i 0 j.length 1).isEmpty)) H):=by
 intro pins s σ H x y v u Q I rx ry h
 obtain⟨i,j,rfl,rfl,q⟩:=h
 obtain⟨t,rfl⟩:=rx
 obtain⟨t',rfl⟩:=ry
 exact in_str (aA I q rfl)
theorem GY:eX X (compareOp .Is) (fun x y H Q=>y=.aK∧Q (.bl (decide (x=.aK))) H):=by
 intro pins s σ H x y v u Q I rx ry h
 obtain⟨rfl,q⟩:=h
 cases ry
 refine is_none_gen (aA I q ?_)
 cases x <;> first
  | (cases rx;rfl)
  | (obtain⟨t,rfl⟩:=rx;rfl)
theorem DM:eX X (compareOp .IsNot) (fun x y H Q=>y=.aK∧Q (.bl (!decide (x=.aK))) H):=by
 intro pins s σ H x y v u Q I rx ry h
 obtain⟨rfl,q⟩:=h
 cases ry
 refine isnot_none_gen (aA I q ?_)
 cases x <;> first
  | (cases rx;rfl)
  | (obtain⟨t,rfl⟩:=rx;rfl)
theorem qd:eX X (compareOp .NotIn) (fun x y H Q=>∃i j,x=.str i∧y=.str j∧Q (.bl (!(!(Builtin.Str.occurrences j i 0 j.length 1).isEmpty))) H):=by
 intro pins s σ H x y v u Q I rx ry h
 obtain⟨i,j,rfl,rfl,q⟩:=h
 obtain⟨t,rfl⟩:=rx
 obtain⟨t',rfl⟩:=ry
 exact notIn_str (aA I q rfl)
theorem NQ(b:Expr)(h:op≠.In:=by decide)(h2:op≠.NotIn:=by decide):behindInMarks op b=false:=by
 have e1:(op == CmpOp.In)=false:=by cases op <;> first|rfl|exact absurd rfl h
 have e2:(op == CmpOp.NotIn)=false:=by cases op <;> first|rfl|exact absurd rfl h2
 cases b <;> simp [behindInMarks,e1,e2]
theorem DN{op:CmpOp}{r:R2}(ho:eX X (compareOp op) r)(ha:PE X a ta)(hb:PE X b tb)(hm:behindInMarks op b=false):PE X (.Compare a [op] [b] pos) (Jb r ta tb):=by
 intro pins s σ H Q I h
 exact wpAny_Compare1 (GQ ha hb I h fun v u s2 x y H2 I2 rx ry q=>ho pins s2 σ H2 x y v u Q I2 rx ry q) hm
def A7(t:TE):TT:=fun σ H Q=>t σ H fun x H'=>∃k,x=.bl k∧Q k H'
theorem DP{op:CmpOp}{r:R2}(ho:eX X (compareOp op) r)(ha:PE X a ta)(hb:PE X b tb)(hm:behindInMarks op b=false):PT X (.Compare a [op] [b] pos) (A7 (Jb r ta tb)):=by
 intro pins s σ H Q I h
 refine wpAny_isTrue_Compare1 (bA (ha pins s σ H _ I h) fun v s1 ⟨x,H1,I1,r1,q1⟩=>bA (hb pins s1 σ H1 _ I1 q1) fun u s2 ⟨y,H2,I2,r2,q2⟩ =>
  bA (ho pins s2 σ H2 x y v u _ I2 r1 r2 q2) fun c s3 ⟨z,H3,I3,r3,k,e,q3⟩=>?_) hm
 subst e
 cases r3
 exact yp ⟨H3,I3,q3⟩
def uL(r r':R2)(ta tb tc:TE):TE:=fun σ H Q=>ta σ H fun x H1=>tb σ H1 fun y H2=>r x y H2 fun z H3=>∃k,z=.bl k ∧
 (if k=true then tc σ H3 fun w' H4=>r' y w' H4 Q else Q (.bl false) H3)
theorem A8{op xS:CmpOp}{r r':R2}(ho:eX X (compareOp op) r)(uG:eX X (compareOp xS) r')(ha:PE X a ta)(hb:PE X b tb)(hc:PE X c tc)
  (hm:lastMarks [op,xS] [b,c]=false:=by with_unfolding_all rfl):PE X (.Compare a [op,xS] [b,c] pos) (uL r r' ta tb tc):=by
 intro pins s σ H Q I h
 refine Compare_chain (bA (ha pins s σ H _ I h) fun v s1 ⟨x,H1,I1,r1,q1⟩=>chain_link (bA (hb pins s1 σ H1 _ I1 q1) fun u s2 ⟨y,H2,I2,r2,q2⟩ =>
  bA (ho pins s2 σ H2 x y v u _ I2 r1 r2 q2) fun d s3 ⟨z,H3,I3,r3,k,e,q3⟩=>?_)) hm
 subst e
 cases r3
 refine yp ?_
 cases k with
 |false=>exact ite_ff ⟨.bl false,H3,I3,rfl,q3⟩
 |true=>exact ite_tt (chain_last (bA (hc pins s3 σ H3 _ I3 q3) fun w' s4 ⟨z',H4,I4,r4,q4⟩=>uG pins s4 σ H4 y z' u w' Q I4 r2 r4 q4))
theorem A9{op xS:CmpOp}{r r':R2}(ho:eX X (compareOp op) r)(uG:eX X (compareOp xS) r')(ha:PE X a ta)(hb:PE X b tb)(hc:PE X c tc)
  (hm:lastMarks [op,xS] [b,c]=false:=by with_unfolding_all rfl):PT X (.Compare a [op,xS] [b,c] pos) (A7 (uL r r' ta tb tc)):=by
 intro pins s σ H Q I h
 refine isTrue_chain (bA (ha pins s σ H _ I h) fun v s1 ⟨x,H1,I1,r1,q1⟩=>test_link (bA (hb pins s1 σ H1 _ I1 q1) fun u s2 ⟨y,H2,I2,r2,q2⟩ =>
  bA (ho pins s2 σ H2 x y v u _ I2 r1 r2 q2) fun d s3 ⟨z,H3,I3,r3,k,e,q3⟩=>?_)) hm
 subst e
 cases r3
 refine yp ?_
 cases k with
 |false =>
  obtain⟨k',e',q'⟩:=q3
  cases e'
  exact ite_ff ⟨H3,I3,q'⟩
 |true =>
  refine ite_tt (test_last (bA (hc pins s3 σ H3 _ I3 q3) fun w' s4 ⟨z',H4,I4,r4,q4⟩=>bA (uG pins s4 σ H4 y z' u w' _ I4 r2 r4 q4) fun d' s5 ⟨z2,H5,I5,r5,k2,e2,q5⟩=>?_))
  subst e2
  cases r5
  exact yp ⟨H5,I5,q5⟩
theorem mO:(sizeLine:Nat)<2 ^ 63:=by rw[yn];decide
theorem uM:eX X (binaryOp .Add) (fun x y H Q=>∃i j,x=.str i∧y=.str j∧i.length+j.length≤sizeLine∧Q (.str (i++j)) H):=by
 intro pins s σ H x y v u Q I rx ry h
 obtain⟨i,j,rfl,rfl,hz,q⟩:=h
 obtain⟨t,rfl⟩:=rx
 obtain⟨t',rfl⟩:=ry
 exact add_str (fun t' tk=>⟨.str (i++j),H,I.tok _,⟨_,rfl⟩,q⟩) hz
theorem vals1(r:Vals [x] us):∃u,us=[u]∧RelV x u:=by
 cases r with
 |cons r1 r2=>cases r2;exact⟨_,rfl,r1⟩
theorem vals2(r:Vals [x,y] us):∃u w',us=[u,w']∧RelV x u∧RelV y w':=by
 cases r with
 |cons r1 r2 =>
  cases r2 with
  |cons r3 r4=>cases r4;exact⟨_,_,rfl,r1,r3⟩
theorem xT(hc:X.calm=true):dY X (.builtin "max") (fun xs H Q=>∃i j,xs=[.int i,.int j]∧Q (.int (if j>i then j else i)) H):=by
 intro pins s σ H xs us Q I r h
 obtain⟨i,j,rfl,q⟩:=h
 obtain⟨u,w',rfl,⟨t,rfl⟩,⟨t',rfl⟩⟩:=vals2 r
 refine max_two_ints (I.ok.hd hc) fun h' tk k=>⟨_,H,I.kept k,?_,q⟩
 by_cases hj:j>i
 ·rw[if_pos hj,if_pos hj];exact⟨_,rfl⟩
 ·rw[if_neg hj,if_neg hj];exact⟨_,rfl⟩
theorem pj:dY X (.type "int") (fun xs H Q=>(∃i,xs=[.int i]∧Q (.int i) H)∨∃k,xs=[.bl k]∧Q (.int (if k then 1 else 0)) H):=by
 intro pins s σ H xs us Q I r h
 rcases h with ⟨i,rfl,q⟩|⟨k,rfl,q⟩
 ·obtain⟨u,rfl,t,rfl⟩:=vals1 r
  exact call_int_int ⟨.int i,H,I,⟨_,rfl⟩,q⟩
 ·obtain⟨u,rfl,r1⟩:=vals1 r
  cases r1
  exact call_int_bool ⟨.int (if k then 1 else 0),H,I.tok _,⟨_,rfl⟩,q⟩
def NR(K:Frag)(x:V)(H:Hp)(n:Nat):Prop :=
 match x with
 |.str y=>y.length≤sizeLine∧n=y.length
 |.xF y=>y.size≤sizeLine∧n=y.size
 |.ref p=>(∃xs,i7 K H p xs∧n=xs.length)∨∃xs,kU K H p xs∧n=xs.length
 |_=>False
theorem gY:dY X (.builtin "len") (fun xs H Q=>∃x n,xs=[x]∧NR X.K x H n∧Q (.int n) H):=by
 intro pins s σ H xs us Q I r h
 obtain⟨x,n,rfl,e,q⟩:=h
 obtain⟨u,rfl,rx⟩:=vals1 r
 have hl:=mO
 have hs:sizeLine=16777216:=yn
 cases x with
 |str y =>
  obtain⟨t,rfl⟩:=rx
  obtain⟨hy,e'⟩:y.length≤sizeLine∧n=y.length:=e
  subst e'
  exact len_str (by omega) ⟨.int _,H,I.tok _,⟨_,rfl⟩,q⟩
 |xF y =>
  obtain⟨t,rfl⟩:=rx
  obtain⟨hy,e'⟩:y.size≤sizeLine∧n=y.size:=e
  subst e'
  exact PySem.W.len_bytes (by omega) ⟨.int _,H,I.tok _,⟨_,rfl⟩,q⟩
 |ref p =>
  cases rx
  have e':(∃xs,i7 X.K H p xs∧n=xs.length)∨∃xs,kU X.K H p xs∧n=xs.length:=e
  rcases e' with ⟨xs,hx,e'⟩|⟨xs,hx,e'⟩
  ·subst e'
   obtain⟨ao,r',pl,hz⟩:=I.list hx
   have hlen:=r'.length
   exact Calls.call_len_list pl.isList (by simp only [zu];omega) ⟨.int xs.length,H,I.tok _,⟨_,by simp only [zu];rw[hlen]⟩,q⟩
  ·subst e'
   obtain⟨ao,r',pl,hz⟩:=I.tuple hx
   have hlen:=r'.length
   exact len_tuple pl (by simp only [zu];omega) ⟨.int xs.length,H,I.tok _,⟨_,by simp only [zu];rw[hlen]⟩,q⟩
 |_=>exact (show False from e).elim
end
structure GZ(h:Heap)(x dx C:Addr)(mA:Str→Option Value):Prop where
 obj:h.get? x=some (instObj C dx)
 ns:h.Ns1 dx mA
 ne:dx≠x
theorem xU{h:Heap}{dx:Addr}{mA:Str→Option Value}(n:h.Ns1 dx mA):∃od,h.get? dx=some od∧∀name,lookIn name od=some (mA name):=by
 obtain⟨o,es,ep,ho,hd,hk,_,hm⟩:=n
 refine⟨o,ho,fun name=>?_⟩
 have e:=hm name
 unfold nsFind findBy at e
 rw[← Array.find?_toList] at e
 unfold lookIn
 rw[hd]
 dsimp only
 split
 ·rename_i y q
  rw[q] at e
  exact congrArg some e
 ·rename_i q
  rw[q] at e
  have a:es.toList.any (·.refKey)=false:=by
   rw[List.any_eq_false]
   intro y hy
   obtain⟨z,t,G0⟩:=hk y (Array.mem_toList_iff.mp hy)
   simp [DictEntry.refKey,G0]
  have a':¬ es.toList.any (·.refKey)=true:=by rw[a];exact zk
  rw[if_neg a']
  exact congrArg some e
theorem GZ.look(I:GZ h x dx C mA):∃od,PySem.W.InstAt h x (instObj C dx) C (some od)∧∀name,lookIn name od=some (mA name) :=
 let ⟨od,ho,hl⟩:=xU I.ns
 ⟨od,⟨I.obj,rfl,rfl,ho⟩,hl⟩
section
variable{prog:Program}{w:World}{A:Around}{E:Value→Shared→Prop}{s:Shared}{K:Frag}{x dx C f:Addr}{mA:Str→Option Value}{name:Str}{v:Value}
end
theorem kQ.some_of(r:kQ (some v) o):∃u,o=some u∧RelV v u:=by
 cases o with
 |none=>exact (show False from r).elim
 |some u=>exact⟨u,rfl,r⟩
section
variable{P:Program}{w:World}{H H':Hp}{h h':Heap}{a C dx:Addr}{fs R7:List (Str×V)}
theorem DQ(aS:jb P w H h)(e:H a=some (.ins C dx fs)):∃mA,GZ h a dx C mA∧(∀f,kQ (fs.lookup f) (mA f))∧PySem.Within mA (fs.map (·.1))∧fs.length≤1000∧H dx=some (.own a):=by
 obtain⟨d,z,ne,ob,mA,n,r,q⟩:=(show bh P w H h a (.ins C dx fs) from aS a _ e)
 exact⟨mA,⟨ob,n,ne⟩,r,q,z,d⟩
end
structure NS(K:Frag)(C:Addr):Prop where
 pg:plainGet K C Str.empty=true
 hd:PySem.W.hasDictIn K C=true
 po:PySem.W.plainOver K C=true
 sa:findIn K (.ref C) "__setattr__" = some (some (.builtin "object.__setattr__"))
theorem NS.get{K:Frag}{C:Addr}(c:NS K C)(f:Str):plainGet K C f=true:=c.pg
structure VC(K:Frag)(C:Addr)(f:Str)(v:V)(u:Value):Prop where
 at_:findIn K (.ref C) f=some (some u)
 rel:RelV v u
 get:specialIn K u "__get__" = some none
 cp:PySem.W.copiedNames.contains f=false
structure Meth(K:Frag)(C:Addr)(m:Str)(f:Addr):Prop where
 at_:findIn K (.ref C) m=some (some (.ref f))
 fn:isFn K (.ref f)=true
 kp:keepIn K (.ref f)=true
section
variable{X:Cx}{pins:List (Addr×Obj)}{σ:St}{H:Hp}{s:Shared}{a C dx:Addr}{fs:List (Str×V)}{f:Str}{v:V}{A:Around}{E:Value→Shared→Prop}
end
section
variable{X:Cx}{o e value:Expr}{f:Str}{pos pos' NT:Pos}{ta tv:TE}
end
section
variable{X:Cx}{pins:List (Addr×Obj)}{σ:St}{H:Hp}{s:Shared}{A:Around}{E:Value→Shared→Prop}{Q:Value→Shared→Prop}{c:Value}{b:Bool}
inductive kW (K:Frag) (H:Hp):V→Value→Prop where
 |aK:kW K H .aK (.type "NoneType")
 |bl (x:Bool):kW K H (.bl x) (.type "bool")
 |int (i:Int):kW K H (.int i) (.type "int")
 |str (x:Str):kW K H (.str x) (.type "str")
 |IX (x:UInt64):kW K H (.IX x) (.type "float")
 |lst {a:Addr}{xs:List V} (e:H a=some (.lst xs)):kW K H (.ref a) (.type "list")
 |kR {a:Addr}{o:Obj}{xs:List V} (e:H a=some (.kR o (.lst xs))):kW K H (.ref a) (.type "list")
 |tup {a:Addr}{xs:List V} (e:H a=some (.tup xs)):kW K H (.ref a) (.type "tuple")
 |dK {a:Addr}{kvs:List (Key×V)} (e:H a=some (.dK kvs)):kW K H (.ref a) (.type "dict")
 |dT {a:Addr}{kvs:List (List Key×V)} (e:H a=some (.dT kvs)):kW K H (.ref a) (.type "dict")
 |ins {a C dx:Addr}{fs:List (Str×V)} (e:H a=some (.ins C dx fs)) (cl:NS K C) (ha:findIn K (.ref C) "__class__" = some (some (.builtin "object.__class__")))
   (hn:specialIn K (.builtin "object.__class__") "__get__" = some (some (.builtin "getset_descriptor.__get__"))) (QJ:PySem.W.takesIn K (.builtin "object.__class__")=some true)
   (hm:mroIn K C (.type "object")=some true):kW K H (.ref a) (.ref C)
theorem xV(I:Inv X pins σ H s)(rx:RelV x u)(ty:kW X.K H x t)(e:kitOne X.K t c=some b)(h:∀tk,Q (.bool b) { s with toks:=tk }) :
  wpAny (model X.prog X.w) A (call (.builtin "isinstance") [u,c]) Q E s:=by
 cases ty with
 |aK=>cases (show u=Value.none from rx);exact kia_one PySem.W.kitx_none I.oz True.intro e (fun z=>nomatch z) h
 |bl y=>cases (show u=Value.bool y from rx);exact kia_one PySem.W.kitx_bool I.oz True.intro e (fun z=>nomatch z) h
 |int i=>obtain⟨t,q⟩:=(show ∃t,u=Value.int i t from rx);cases q;exact kia_one PySem.W.kitx_int I.oz True.intro e (fun z=>nomatch z) h
 |str y=>obtain⟨t,q⟩:=(show ∃t,u=Value.str y t from rx);cases q;exact kia_one PySem.W.kitx_str I.oz True.intro e (fun z=>nomatch z) h
 |IX y=>obtain⟨t,q⟩:=(show ∃t,u=Value.float y t from rx);cases q;exact kia_one PySem.W.kitx_float I.oz True.intro e (fun z=>nomatch z) h
 |@lst a xs ea =>
  cases (show u=Value.ref a from rx)
  obtain⟨_,_,n,_,h1⟩:=(show bh X.prog X.w H s.heap a (.lst xs) from I.aS a _ ea)
  exact kia_one kitx_list I.oz ⟨_,h1,rfl⟩ e (fun z=>nomatch z) h
 |@kR a ob xs ea =>
  cases (show u=Value.ref a from rx)
  obtain⟨_,_,_,n,_,h1⟩:=(show bh X.prog X.w H s.heap a (.kR ob (.lst xs)) from I.aS a _ ea)
  exact kia_one kitx_list I.oz ⟨_,h1,rfl⟩ e (fun z=>nomatch z) h
 |@tup a xs ea =>
  cases (show u=Value.ref a from rx)
  obtain⟨_,_,_,p⟩:=(show bh X.prog X.w H s.heap a (.tup xs) from I.aS a _ ea)
  obtain⟨o,h1,h2,_⟩:=p
  exact kia_one PySem.W.kitx_tuple I.oz ⟨o,h1,h2⟩ e (fun z=>nomatch z) h
 |@dK a kvs ea =>
  cases (show u=Value.ref a from rx)
  obtain⟨_,_,vs,_,p⟩:=(show bh X.prog X.w H s.heap a (.dK kvs) from I.aS a _ ea)
  obtain⟨o,es,ep,h1,h2,_⟩:=p
  exact kia_one PySem.W.kitx_dict I.oz ⟨o,h1,h2.1⟩ e (fun z=>nomatch z) h
 |@dT a kvs ea=>exact False.elim (show bh X.prog X.w H s.heap a (.dT kvs) from I.aS a _ ea)
 |@ins a C dx fs ea cl ha hn QJ hm =>
  cases (show u=Value.ref a from rx)
  obtain⟨mA,O,_⟩:=DQ I.aS ea
  obtain⟨od,J,_⟩:=O.look
  exact kia_one (PySem.W.kitx_own (cl.get _) cl.hd ha hn QJ hm) I.oz J e (fun z=>nomatch z) h
end
structure fG(k:Nat)(A:Around):Prop where
 hd:A.handled=none
 dp:A.depth+3 * k+5<recursionLimit
 un:A.units+16 * k+200<cLine
theorem fG.mono(r:fG k A)(h:j≤k):fG j A:=⟨r.hd,by have:=r.dp;omega,by have:=r.un;omega⟩
theorem fG.deeper(r:fG (k+1) A)(env:Env):fG k (A.deeper env) :=
 ⟨r.hd,by have:=r.dp;show A.depth+1+3 * k+5<_;omega,by have:=r.un;show A.units+3+16 * k+200<_;omega⟩
theorem fG.depth(r:fG k A):A.depth<recursionLimit:=by have:=r.dp;omega
theorem fG.units(r:fG k A):A.units+64<cLine:=by have:=r.un;omega
def NU:TA:=fun _ H Q=>Q [] H
def wx(ta:TE)(tr:TA):TA:=fun σ H Q=>ta σ H fun x H1=>tr σ H1 fun xs H2=>Q (x::xs) H2
section
variable{X:Cx}{e:Expr}{es:List Expr}{te:TE}{t:TA}{pos:Pos}
theorem G1:PA X [] NU:=fun _ _ _ _ H Q I h=>Calls.spliced_nil ⟨[],H,I,.nil,h⟩
theorem DR(ha:PE X e te)(hr:PA X es t)(hs:starEach (e::es) X.env=(false,eval e X.env)::starEach es X.env:=by rfl):PA X (e::es) (wx te t):=by
 intro pos pins s σ H Q I h
 rw[hs]
 show wpAny _ _ (spliced ((false,eval e X.env)::backTo pos (starEach es X.env))) _ _ s
 refine ye (bA (ha pins s σ H _ I h) fun u s1 ⟨x,H1,I1,r1,q1⟩=>?_)
 exact bA (hr pos pins s1 σ H1 _ I1 q1) <| by rintro us s2 ⟨xs,H2,I2,r2,q2⟩;exact⟨x::xs,H2,I2,.cons r1 r2,q2⟩
def NV(t:TA):TE:=fun σ H Q=>t σ H fun xs H1=>xs.length≤sizeLine∧∀p,H1 p=none→Q (.ref p) (upd H1 p (.tup xs))
def NW(t:TA):TE:=fun σ H Q=>t σ H fun xs H1=>xs.length≤sizeLine∧∀p,H1 p=none→Q (.ref p) (upd H1 p (.lst xs))
theorem G3{x1}(h:PA X es t):PE X (.Tuple es x1 pos) (NV t):=by
 intro pins s σ H Q I hq
 refine wpAny_Tuple_spliced (bA (h pos pins s σ H _ I hq) fun us s1 ⟨xs,H1,I1,r,z,q⟩=>⟨by rw[← r.length];exact z,?_⟩)
 have hf:H1 s1.heap.objs.size=none:=I1.aS.fresh (zi _)
 refine⟨.ref s1.heap.objs.size,upd H1 s1.heap.objs.size (.tup xs),I1.laid (t':=s1.toks) (fun b u e=>zt _ e) (zi _) ?_,rfl,q _ hf⟩
 exact⟨z,us,r,⟨_,zU _ rfl,rfl,rfl,_,rfl⟩⟩
theorem G4(h:PA X es t):PE X (.List es pos) (NW t):=by
 intro pins s σ H Q I hq
 refine wpAny_List_spliced (bA (h pos pins s σ H _ I hq) fun us s1 ⟨xs,H1,I1,r,z,q⟩=>⟨by rw[← r.length];exact z,?_⟩)
 have hf:H1 s1.heap.objs.size=none:=I1.aS.fresh (zi _)
 refine⟨.ref s1.heap.objs.size,upd H1 s1.heap.objs.size (.lst xs),I1.laid (t':=s1.toks) (fun b u e=>zt _ e) (zi _) ?_,rfl,q _ hf⟩
 exact⟨z,us,0,r,zU _ rfl⟩
end
abbrev Sp:=List V→Hp→VK→XK→Prop
abbrev uN:=List Env→Hp→Shared→XK→Value→Shared→Prop
structure A_(P:Program)(w:World)(K:Frag)(mg:Str→Option Value)(base:Heap)(A:Around)(outer:List Env)(s:Shared)(H:Hp):Prop where
 frames:A.frames=some outer
 mod:Mod K mg base
 bs:∀b o,base.get? b=some o→s.heap.get? b=some o∧H b=none
 AV:base.objs.size≤s.heap.objs.size
 jq:s.heap.FunFrames base outer
 Dh:∀b∈jO outer,H b=none
 aS:jb P w H s.heap
 bare:AllBare s.gens
def CE(outer:List Env)(P:Program)(w:World)(H:Hp)(s:Shared)(Q:VK)(u:Value)(s':Shared):Prop :=
 ∃v H',s'.os=s.os∧AllBare s'.gens∧Un (jO outer) [] H H' s.heap s'.heap∧jb P w H' s'.heap∧RelV v u∧Q v H'
def CR(CX:uN)(outer:List Env)(P:Program)(w:World)(H:Hp)(s:Shared)(Q:VK)(E:XK)(r:Result)(s':Shared):Prop :=
 match r with
 |.ok (.ret u)=>CE outer P w H s Q u s'
 |.ok _=>False
 |.error e=>CX outer H s E e s'
structure cI(P:Program)(w:World)(K:Frag)(mg:Str→Option Value)(base:Heap)(CX:uN)(k:Nat)(f:Addr)(fd:FuncData)(ps:List Str)(sp:Sp):Prop where
 len:∀vs H Q E,sp vs H Q E→vs.length=ps.length
 run:∀(A:Around) (outer:List Env) (s:Shared) (H:Hp) (args:Args) (us:List Value) (vs:List V) (Q:VK) (E:XK),fG k A→A_ P w K mg base A outer s H→BindsTo s fd args (ps.zip us)→Vals vs us→sp vs H Q E →
  codeAny (model P w) A (.call (.ref f) args) (CR CX outer P w H s Q E) s
theorem cI.mono{P:Program}{w:World}{K:Frag}{mg:Str→Option Value}{base:Heap}{CX:uN}{j k:Nat}{f:Addr}{fd:FuncData}{ps:List Str}{sp:Sp}(F:cI P w K mg base CX j f fd ps sp)(h:j≤k) :
  cI P w K mg base CX k f fd ps sp:=⟨F.len,fun A outer s H args us vs Q E hr=>F.run A outer s H args us vs Q E (hr.mono h)⟩
theorem cI.imp{P:Program}{w:World}{K:Frag}{mg:Str→Option Value}{base:Heap}{CX:uN}{k:Nat}{f:Addr}{fd:FuncData}{ps:List Str}{sp Mw:Sp}(F:cI P w K mg base CX k f fd ps sp)
  (h:∀vs H Q E,Mw vs H Q E→sp vs H Q E):cI P w K mg base CX k f fd ps Mw :=
 ⟨fun vs H Q E q=>F.len vs H Q E (h _ _ _ _ q),fun A outer s H args us vs Q E hr he hb hv hs=>F.run A outer s H args us vs Q E hr he hb hv (h _ _ _ _ hs)⟩
section
variable{X:Cx}{pins:List (Addr×Obj)}{σ:St}{H:Hp}{s s':Shared}
theorem Inv.NX(I:Inv X pins σ H s):A_ X.prog X.w X.K X.mg X.base X.A X.stack s H :=
 ⟨I.ok.frames,I.ok.mod,I.bs,zG I.ok.AV I.sz,I.stack,I.qa,I.aS,I.bare⟩
theorem Inv.after(I:Inv X pins σ H s)(h:CE X.stack X.prog X.w H s Q u s'):EP X pins σ Q u s':=by
 obtain⟨v,H',os,bare,un,aS,r,q⟩:=h
 obtain⟨hh,g,d,t,NY⟩:=s'
 obtain rfl:NY=s.os:=os
 exact⟨v,H',I.call (h':=hh) (g':=g) (d':=d) (t':=t) (ch:=[]) un aS bare (fun b z=>absurd z (by simp)),r,q⟩
end
def Binds(K:Frag)(fd:FuncData)(ps:List Str)(ds:List Value):Prop :=
 ∀(s:Shared) (us:List Value),K.In s.heap→(us++ds).length=ps.length→BindsTo s fd ⟨us,[]⟩ (ps.zip (us++ds))
theorem Binds.all{K:Frag}{fd:FuncData}{ps:List Str}(h:∀us:List Value,us.length=ps.length→bindArgs fd ⟨us,[]⟩=pure (ps.zip us)):Binds K fd ps []:=fun s us _ hl=>by
 rw[zE] at hl ⊢
 exact .of_eq (h us hl)
def Passes(CX:uN)(X:Cx)(E:XK):Prop:=∀(pins:List (Addr×Obj)) (σ:St) (H:Hp) (s:Shared) (e:Value) (s':Shared),Inv X pins σ H s→CX X.stack H s E e s'→X.xe e s'
section
variable{X:Cx}{CX:uN}{k:Nat}{f C:Addr}{fd:FuncData}{ps:List Str}{sp:Sp}{xW:List V}{ds:List Value}{E:XK}{x m:Str}{p pos apos:Pos}{e o:Expr}{es:List Expr}{ta:TE}{t:TA}
structure Mk(K:Frag)(C f:Addr):Prop where
 makes:PySem.W.makesIn K C=true
 init:findIn K (.ref C) "__init__" = some (some (.ref f))
 fn:isFn K (.ref f)=true
 kp:keepIn K (.ref C)=true
end
section
variable{X:Cx}{CX:uN}{k:Nat}{f C:Addr}{fd:FuncData}{ps ks:List Str}{sp:Sp}{E:XK}{x m:Str}{p pos apos Sk:Pos}{e o:Expr}{es:List Expr}{VD:List Keyword}{te ta:TE}{t tk:TA}{nm:Option Str}
structure NZ(K:Frag)(fd:FuncData)(ps ks:List Str)(g:List Value→List Value→List Value)(gV:List V→List V→List V):Prop where
 to:∀(s:Shared) (us ws:List Value),K.In s.heap→(g us ws).length=ps.length→BindsTo s fd ⟨us,ks.zip ws⟩ (ps.zip (g us ws))
 rel:∀{vs:List V}{us:List Value}{zs:List V}{ws:List Value},Vals vs us→Vals zs ws→Vals (gV vs zs) (g us ws)
variable{g:List Value→List Value→List Value}{gV:List V→List V→List V}
end
structure ah(N P:List Str)(sc:Scope):Prop where
 kind:sc.kind=.function
 co:sc.isCoroutine=false
 gen:sc.isGenerator=false
 nd:N.Nodup
 pre:N.take P.length=P
 par:∀x∈P,sc.names.lookup x=some .local∨sc.names.lookup x=some .cell
 G5:∀y∈sc.names,y.2≠.free
theorem pk{kindOf:Str→Option NameKind}{x:Str} : ∀{binds:List (Str×Value)}{m:Str→Option Value},(∀v,(x,v)∉binds)→bindL kindOf binds m x=m x
 |[],_,_=>rfl
 | (n,v)::r,m,h=>by
  unfold bindL
  rw[pk fun w hw=>h w (zd _ hw)]
  split
  ·have:x≠n:=by rintro rfl;exact h v zf
   simp [this]
  ·rfl
theorem pv{kindOf:Str→Option NameKind}{x:Str} : ∀{binds:List (Str×Value)}{m:Str→Option Value},(∀v,(x,v)∉binds)→bindC kindOf binds m x=m x
 |[],_,_=>rfl
 | (n,v)::r,m,h=>by
  unfold bindC
  rw[pv fun w hw=>h w (zd _ hw)]
  split
  ·rfl
  ·have:x≠n:=by rintro rfl;exact h v zf
   simp [this]
theorem px{kindOf:Str→Option NameKind}{x:Str}{v:Value} : ∀{P:List Str}{vs:List Value}{i:Nat}{m:Str→Option Value},P.Nodup→P[i]?=some x→vs[i]?=some v→kindOf x=some .local →
  bindL kindOf (P.zip vs) m x=some v
 |[],_,_,_,_,h,_,_=>by simp at h
 |_::_,[],_,_,_,_,h,_=>by simp at h
 |p::P,w::vs,0,m,nd,h1,h2,hk=>by
  simp at h1 h2;subst h1;subst h2
  show bindL kindOf ((p,w)::P.zip vs) m p=_
  unfold bindL
  rw[pk fun v hv=>(yu.mp nd).1 (List.of_mem_zip hv).1,if_pos hk]
  simp
 |p::P,w::vs,i+1,m,nd,h1,h2,hk=>by
  show bindL kindOf ((p,w)::P.zip vs) m x=_
  unfold bindL
  exact px (i:=i) (yu.mp nd).2 (by simpa using h1) (by simpa using h2) hk
theorem pz{kindOf:Str→Option NameKind}{x:Str}{v:Value} : ∀{P:List Str}{vs:List Value}{i:Nat}{m:Str→Option Value},P.Nodup→P[i]?=some x→vs[i]?=some v→kindOf x≠some .local →
  bindC kindOf (P.zip vs) m x=some v
 |[],_,_,_,_,h,_,_=>by simp at h
 |_::_,[],_,_,_,_,h,_=>by simp at h
 |p::P,w::vs,0,m,nd,h1,h2,hk=>by
  simp at h1 h2;subst h1;subst h2
  show bindC kindOf ((p,w)::P.zip vs) m p=_
  unfold bindC
  rw[pv fun v hv=>(yu.mp nd).1 (List.of_mem_zip hv).1,if_neg hk]
  simp
 |p::P,w::vs,i+1,m,nd,h1,h2,hk=>by
  show bindC kindOf ((p,w)::P.zip vs) m x=_
  unfold bindC
  exact pz (i:=i) (yu.mp nd).2 (by simpa using h1) (by simpa using h2) hk
def start(N:List Str)(vs:List V):St:=vs.map some++List.replicate (N.length - vs.length) none
def l8(CX:uN)(P:Program)(w:World)(K:Frag)(mg:Str→Option Value)(base:Heap)(N:List Str)(qual:Str)(scope:Scope)(f:Addr)(cd:Value)(A:Around)(outer:List Env)(s:Shared)(H:Hp)(E:XK):Cx where
 prog:=P
 w:=w
 K:=K
 mg:=mg
 base:=base
 A:=A.deeper (envOfC qual scope s.heap.objs.size f cd)
 N:=N
 cH:=s
 rO:=H
 env:=envOfC qual scope s.heap.objs.size f cd
 outer:=outer
 stack:=envOfC qual scope s.heap.objs.size f cd::outer
 ex:=[]
 calm:=true
 fn:=fun _=>true
 pn:=[]
 xe:=fun e s'=>wpAny (model P w) (A.deeper (envOfC qual scope s.heap.objs.size f cd)) (leaving (envOfC qual scope s.heap.objs.size f cd) e) (fun _ DU=>CX outer H s E e DU) (fun e' DU=>CX outer H s E e' DU) s'
theorem rT{sc:Scope}{n:Nat}{x:Str}(h:sc.names.lookup x=some .cell):∃c,(cellsFrom n sc.names []).lookup x=some c:=by
 have q:=PySem.W.cellsFrom_some sc.names n [] (.inl h)
 exact Option.isSome_iff_exists.mp q
theorem xX{CX:uN}{P:Program}{w:World}{K:Frag}{mg:Str→Option Value}{base:Heap}{N ps:List Str}{qual:Str}{scope:Scope}{f:Addr}{cd:Value}{A:Around}{outer:List Env}{s s1:Shared}{H:Hp}{E:XK}{us:List Value}{vs:List V}
  (S:ah N ps scope) (hd:A.handled=none) (e0:A_ P w K mg base A outer s H) (hl:vs.length=ps.length) (r:Vals vs us)
  (x:InCallC s s.heap.objs.size (bindL (envOfC qual scope s.heap.objs.size f cd).kindOf (ps.zip us) fun _=>none) (cellsFrom (s.heap.objs.size+1) scope.names []) (bindC (envOfC qual scope s.heap.objs.size f cd).kindOf (ps.zip us) fun _=>none) s1) :
  Inv (l8 CX P w K mg base N qual scope f cd A outer s H E) [] (start N vs) H s1:=by
 have l9:ps.length≤N.length:=by have:=congrArg List.length S.pre;rw[List.length_take] at this;omega
 obtain⟨h1,tk,rfl,hk⟩:=x.done
 have J0:∀b:Addr,b∉(l8 CX P w K mg base N qual scope f cd A outer s H E).ex:=fun b z=>absurd (show b∈([]:List Addr) from z) (by simp)
 refine⟨⟨e0.mod,S.kind,rfl,rfl,zi _,fun y z c h1 h2=>?_,fun y hy=>?_,fun y c _ h=>?_,fun _=>hd,Around.frames_deeper e0.frames,.inr ⟨rfl,rfl⟩,fun b z=>absurd z (J0 b),e0.bs,e0.AV,fun b _ _=>J0 b,fun b z=>absurd z (J0 b),e0.jq,e0.Dh⟩,
  rfl,e0.bare,Un.kept hk,⟨_,x.toInCall.ns,fun i y v h1 h2 h3=>?_⟩,fun y c h=>⟨_,x.cell y c h⟩,e0.aS.fresh (zi _),fun y c h=>?_,fun p hp=>absurd (show p∈([]:List (Addr×Obj)) from hp) (by simp),e0.aS.kept hk,?_⟩
 ·exact name_of_addr x.apart (yr h1) (yr h2)
 ·have hy:scope.names.lookup y=some .cell∨scope.names.lookup y=some .free:=hy
  rcases hy with hy|hy
  ·exact rT hy
  ·exact absurd rfl (S.G5 _ (yr hy))
 ·exact Nat.le_of_lt (x.above y c (yr h))
 ·have hi:i<vs.length:=by
   unfold start at h2
   by_cases hi:i<vs.length
   ·exact hi
   ·rw[List.getElem?_append_right (by simpa using hi)] at h2
    rw[List.getElem?_replicate] at h2
    split at h2 <;> cases h2
  have ha:vs[i]?=some v:=by
   unfold start at h2
   rw[List.getElem?_append_left (by simpa using hi),zZ] at h2
   cases e:vs[i]? with
   |none=>rw[e] at h2;cases h2
   |some a=>rw[e] at h2;cases h2;rfl
  obtain⟨u,hu,rv⟩:=r.get ha
  have hp:ps[i]?=some y:=by
   rw[← S.pre,List.getElem?_take_of_lt (by omega)];exact h1
  have QK:ps.Nodup:=by rw[← S.pre];exact S.nd.sublist (List.take_sublist _ _)
  refine⟨u,rv,?_⟩
  rcases S.par y (z0 hp) with k|k
  ·exact .inl ⟨k,px QK hp hu k⟩
  ·obtain⟨c,e⟩:=rT (n:=s.heap.objs.size+1) k
   refine .inr ⟨.inl k,c,e,?_⟩
   have q:=x.cell y c e
   rw[pz QK hp hu (by show scope.names.lookup y≠_;rw[k];decide)] at q
   exact q
 ·exact e0.aS.fresh (Nat.le_of_lt (x.above y c (yr h)))
 ·unfold start
  show _=N.length
  rw[zg,za,List.length_replicate]
  omega
theorem J1{CX:uN}{P:Program}{w:World}{K:Frag}{mg:Str→Option Value}{base:Heap}{k:Nat}{f:Addr}{name qual:Str}{params:Arguments}{body:List Stmt}{scope:Scope}{dV kV doc pm dh ct oc:Value}{an od:Option Addr}
  {Jc:Array (Option Value)}{N ps:List Str}{sp:Sp} (lk:K.lookup f=some ⟨oc,od,.func (fnOf name qual params body scope dV kV doc pm an dh ct),Jc⟩) (Dj:codeIn K dh qual=true) (S:ah N ps scope)
  (len:∀vs H Q E,sp vs H Q E→vs.length=ps.length)
  (mP:∀(A:Around) (outer:List Env) (s:Shared) (H:Hp) (vs:List V) (Q:VK) (E:XK),fG k (A.deeper (envOfC qual scope s.heap.objs.size f dh))→sp vs H Q E →
   ∃t,uH (l8 CX P w K mg base N qual scope f dh A outer s H E) body t∧t { nx:=fun _ H'=>Q .aK H',rt:=Q } (start N vs) H) :
  cI P w K mg base CX (k+1) f (fnOf name qual params body scope dV kV doc pm an dh ct) ps sp:=by
 refine⟨len,fun A outer s H args us vs Q E hr e0 hb r G6=>?_⟩
 have hl:=len _ _ _ _ G6
 have KX:K.In s.heap:=e0.mod.Mq.keeps fun b o e=>(e0.bs b o e).1
 have lim:s.heap.NoLimit:=e0.mod.nolimit.keeps fun b o e=>(e0.bs b o e).1
 have J2:∀y∈ps.zip us,scope.names.lookup y.1=some .local∨(scope.names.lookup y.1=some .cell∧((cellsFrom (s.heap.objs.size+1) scope.names []).lookup y.1).isSome=true):=by
  rintro⟨n,v⟩ hy
  rcases S.par n (List.of_mem_zip hy).1 with q|q
  ·exact .inl q
  ·exact .inr ⟨q,PySem.W.cellsFrom_some _ _ _ (.inl q)⟩
 refine codeAny_call_function hr.depth (KX _ _ lk) rfl S.co S.gen rfl (PySem.W.codeRec_of KX Dj) (hb _ _ _ _ ?_)
 refine wpAny_newFunctionEnv_cells S.kind J2 fun env he s1 x=>?_
 subst he
 refine⟨lim.keeps x.toInCall.keep,codeAny_func ?_⟩
 obtain⟨t,ht,hq⟩:=mP A outer s H vs Q E (hr.deeper _) G6
 have I:Inv (l8 CX P w K mg base N qual scope f dh A outer s H E) [] (start N vs) H s1:=xX S hr.hd e0 hl r x
 refine yk (ht [] s1 (start N vs) H _ I hq) (fun fl s' hs=>?_) fun e s' hs=>hs
 have fin:∀{aw:St}{H':Hp}{v:V}{u:Value},Inv (l8 CX P w K mg base N qual scope f dh A outer s H E) [] aw H' s'→RelV v u→Q v H'→CE outer P w H s Q u s' :=
  fun {aw H' v u} J rv q=>⟨v,H',J.os,J.bare,J.base,J.aS,rv,q⟩
 cases fl with
 |ret u =>
  obtain⟨v,aw,H',J,rv,q⟩:=hs
  exact fin J rv q
 |next =>
  obtain⟨aw,H',J,q⟩:=hs
  exact fin (v:=V.aK) (u:=Value.none) J rfl q
 |brk =>
  obtain⟨_,_,_,q⟩:=hs
  exact False.elim q
 |cont =>
  obtain⟨_,_,_,q⟩:=hs
  exact False.elim q
section
variable{X:Cx}{x:Str}{p pos:Pos}{e:Expr}{es:List Expr}{t:TA}{id T:String}{r:List V→Hp→VK→Prop}
def N1(r:List V→Hp→VK→Prop)(t:TA):TE:=fun σ H Q=>t σ H fun vs H1=>r vs H1 Q
theorem rV(hc:dY X (.builtin id) r)(hg:Gl X x)(hm:X.mg x=none)(hv:bootBuiltins x=some (.builtin id))(ha:PA X (e::es) t)(hn:x ≠ "__name__" := by decide)(oA:(x == ("__debug__" : Str))=false:=by decide)
  (he:starEach (e::es) X.env=(false,eval e X.env)::starEach es X.env:=by rfl) (l9:(backTo pos (starEach es X.env)).any (·.1)=false:=by rfl):PE X (.Call (.Name x p) (e::es) [] pos) (N1 r t):=by
 intro pins s σ H Q I h
 refine wpAny_Call_Name_kw (mI I hg hm hv ?_ hn oA)
 exact PyProof.Rows.callWith_builtin1 (bA (ha pos pins s σ H _ I h) <| by rintro us s1 ⟨vs,H1,I1,r1,q1⟩;exact hc pins s1 σ H1 vs us Q I1 r1 q1) he l9
theorem xY(hc:dY X (.type T) r)(hg:Gl X x)(hm:X.mg x=none)(hv:bootBuiltins x=some (.type T))(ha:PA X (e::es) t)(hn:x ≠ "__name__" := by decide)(oA:(x == ("__debug__" : Str))=false:=by decide)
  (he:starEach (e::es) X.env=(false,eval e X.env)::starEach es X.env:=by rfl) (l9:(backTo pos (starEach es X.env)).any (·.1)=false:=by rfl):PE X (.Call (.Name x p) (e::es) [] pos) (N1 r t):=by
 intro pins s σ H Q I h
 refine wpAny_Call_Name_kw (mI I hg hm hv ?_ hn oA)
 exact PyProof.Rows.callWith_type1 (bA (ha pos pins s σ H _ I h) <| by rintro us s1 ⟨vs,H1,I1,r1,q1⟩;exact hc pins s1 σ H1 vs us Q I1 r1 q1) he l9
end
end L2
namespace HT
open PySem PyProof.Rows
section
open PySem.SeqAt
open PySem.AutoSeq1 (wpAny_loadPart')
open PySem.MeetsSeq PySem.MeetsSeq2 PySem.MeetsSeq3
end
section
variable{prog:Program}{w:World}{A:Around}{E:Value→Shared→Prop}{s:Shared}
theorem cat_tup(ht:IsTup s.heap t vs.toArray)(hb:IsTup s.heap b ws.toArray)(hv:vs≠[])
  (h1:ws=[]→Q (.ref t) s) (h2:ws≠[]→Q (.ref s.heap.objs.size) { s with heap:=s.heap.push { cls:=.type "tuple",data:=.seq (vs++ws).toArray } })
  (hsz:vs.length+ws.length≤sizeLine):wpAny (model prog w) A (binaryOp .Add (.ref t) (.ref b)) Q E s:=by
 obtain⟨⟨cls,dd,data,sl⟩,ho,hc,n,hd⟩:=id ht
 obtain⟨⟨N2,Mx,data2,xZ⟩,x5,Fz,n2,hd2⟩:=id hb
 simp only at hc hd Fz hd2
 subst hc hd Fz hd2
 have e:vs.toArray++ws.toArray=(vs++ws).toArray:=by simp
 by_cases hw:ws=[]
 ·exact concat_meets ⟨_,ho,rfl⟩ ⟨_,x5,rfl⟩ noFill_tuple_add seq_tuple_add PySem.F.slot_tuple_add PySem.F.entry_tuple_add (PySem.F.args_tuple_add_2 _ _)
   (tuple_addW1 t b vs.toArray ws.toArray n n2 dd Mx sl xZ (by simpa using hv) (by simp [hw])) ⟨ho,x5,h1 hw⟩
 ·refine concat_meets ⟨_,ho,rfl⟩ ⟨_,x5,rfl⟩ noFill_tuple_add seq_tuple_add PySem.F.slot_tuple_add PySem.F.entry_tuple_add (PySem.F.args_tuple_add_2 _ _)
   (tuple_addW2 t b vs.toArray ws.toArray n n2 dd Mx sl xZ (by simpa using hv) (by simpa using hw) (by rw[zu,zu];exact hsz)) ⟨ho,x5,?_⟩
  rw[e]
  exact h2 hw
def sIx(n d:Nat):Option Int→Nat
 |none=>d
 |some v=>if v<0 then (v+(n:Int)).toNat else min v.toNat n
theorem sIx_none(n d:Nat):sIx n d none=d:=rfl
theorem sIx_nat(n d k:Nat):sIx n d (some (k:Int))=min k n:=by
 show (if (k:Int)<0 then ((k:Int)+(n:Int)).toNat else min (k:Int).toNat n)=min k n
 rw[if_neg (by omega),Int.toNat_natCast]
theorem sIx_le(n d:Nat)(hd:d≤n)(o:Option Int):sIx n d o≤n:=by
 cases o with
 |none=>exact hd
 |some v =>
  show (if v<0 then (v+(n:Int)).toNat else min v.toNat n)≤n
  by_cases hv:v<0
  ·rw[if_pos hv];omega
  ·rw[if_neg hv];exact Nat.min_le_right _ _
theorem clip_eq(v:Int)(n d:Nat):(if v<0 then max (v+(n:Int)) 0 else min v (n:Int))=((sIx n d (some v):Nat):Int):=by
 show (if v<0 then max (v+(n:Int)) 0 else min v (n:Int))=(((if v<0 then (v+(n:Int)).toNat else min v.toNat n):Nat):Int)
 by_cases hv:v<0
 ·simp only [if_pos hv];omega
 ·simp only [if_neg hv];omega
theorem adjust_gen(lo hi:Option Int)(n:Nat):Builtin.Slice.sliceAdjust lo hi 1 (n:Int)=(((sIx n 0 lo:Nat):Int),((sIx n n hi:Nat):Int)):=by
 have h1:¬ ((1:Int)<0):=by omega
 unfold Builtin.Slice.sliceAdjust
 simp only [h1,if_false]
 refine Prod.ext ?_ ?_
 ·cases lo with
  |none=>rfl
  |some v=>exact clip_eq v n 0
 ·cases hi with
  |none=>rfl
  |some v=>exact clip_eq v n n
theorem places_gen(i j:Nat):Builtin.Slice.slicePlaces (i:Int) (j:Int) 1=j - i:=by
 unfold Builtin.Slice.slicePlaces
 have h1:(1:Int)>0:=by omega
 simp only [h1,if_true,Int.ediv_one]
 split <;> omega
theorem slicePart_(p:IsPart v o)(h:Q o s):wpAny (model prog w) A (Builtin.Slice.slicePartIndex v) Q E s:=by
 cases p with
 |none=>exact slicePart_none h
 |int i t=>exact slicePart_int h
theorem sliceApplied_gen{sl:Addr}{vl vu:Value}{lo hi:Option Int}{n:Nat}{Q:Int×Int×Nat→Shared→Prop}(hs:s.heap.IsSliceOf sl vl vu .none)(pl:IsPart vl lo)(pu:IsPart vu hi)
  (h:Q (((sIx n 0 lo:Nat):Int),1,sIx n n hi - sIx n 0 lo) s):wpAny (model prog w) A (Builtin.Slice.sliceApplied (.ref sl) (pure (n:Int))) Q E s:=by
 obtain⟨os,G7,Jd,J3⟩:=id hs
 unfold Builtin.Slice.sliceApplied Builtin.Slice.sliceFields
 refine zp (zp (wpAny_field G7 J3 (x:=vl) rfl (zp (wpAny_field G7 J3 (x:=vu) rfl (zp (wpAny_field G7 J3 (x:=.none) rfl (zB ?_)))))))
 refine zp (slicePart_none ?_)
 show wpAny _ _ (if ((1:Int) == 0)=true then _ else _) _ _ s
 rw[if_neg (by decide)]
 refine zp (slicePart_ pl (zp (slicePart_ pu (zp (zB ?_)))))
 show wpAny _ _ (match Builtin.Slice.sliceAdjust lo hi 1 (n:Int) with|(lo,hi)=>pure (lo,(1:Int),Builtin.Slice.slicePlaces lo hi 1)) _ _ s
 rw[adjust_gen lo hi n]
 show wpAny _ _ (pure (((sIx n 0 lo:Nat):Int),(1:Int),Builtin.Slice.slicePlaces ((sIx n 0 lo:Nat):Int) ((sIx n n hi:Nat):Int) 1)) _ _ s
 rw[places_gen]
 exact zB h
theorem pick_gen(xs:Array Value)(i k:Nat):((List.range k).filterMap fun (m:Nat)=>xs[((i:Int)+(m:Int) * 1).toNat]?).toArray=((xs.toList.drop i).take k).toArray:=by
 have e:(fun (m:Nat)=>xs[((i:Int)+(m:Int) * 1).toNat]?)=fun m=>xs[i+m]?:=by
  funext m
  have:((i:Int)+(m:Int) * 1).toNat=i+m:=by omega
  rw[this]
 rw[e]
 have:=pick_run xs i k
 rw[List.filterMap_map] at this
 have e2:((fun x=>xs[x]?) ∘ fun x=>i+x)=fun m=>xs[i+m]?:=rfl
 rw[e2] at this
 rw[this]
theorem getItem_tuple_cut{t sl:Addr}{items:Array Value}{vl vu:Value}{lo hi:Option Int}{Q:Value→Shared→Prop}(ht:IsTup s.heap t items)(hs:s.heap.IsSliceOf sl vl vu .none)(pl:IsPart vl lo)(pu:IsPart vu hi)
  (hw:¬ (sIx items.size 0 lo=0∧sIx items.size items.size hi=items.size))
  (h:Q (.ref s.heap.objs.size) { s with heap:=s.heap.push { cls:=.type "tuple",data:=.seq ((items.toList.drop (sIx items.size 0 lo)).take (sIx items.size items.size hi - sIx items.size 0 lo)).toArray } })
  (hsz:items.size≤sizeLine):wpAny (model prog w) A (getItem (.ref t) (.ref sl)) Q E s:=by
 have wy:sizeOk (.seq ((items.toList.drop (sIx items.size 0 lo)).take (sIx items.size items.size hi - sIx items.size 0 lo)).toArray):=by
  show ((items.toList.drop (sIx items.size 0 lo)).take (sIx items.size items.size hi - sIx items.size 0 lo)).toArray.size≤sizeLine
  rw[zu,List.length_take,zF,zV]
  omega
 have hj:sIx items.size items.size hi≤items.size:=sIx_le _ _ (zi _) hi
 obtain⟨os,G7,Jd,J3⟩:=id hs
 have N3:s.TypeIs (.ref sl) "slice" := ⟨os,G7,Jd⟩
 unfold getItem
 try with_reducible refine wpAny_holding ?_
 first|refine zp (zB ?_)|skip
 refine zp (wpAny_sequenceKey ht.typeIs (by decide) ?_)
 refine zp (wpAny_callSpecial?_slot (name:=Str.ofString "__getitem__") ht.typeIs PyProof.Rows.slot_tuple_getitem
  (wpAny_call_entry PyProof.Rows.slot_tuple_getitem ht.typeIs entry_tuple_getitem ?_ (args_tuple_getitem _ _)))
 show wpAny _ _ (Builtin.Tuple.tupleItemsOf (.ref t) >>= _) _ _ s
 refine zp (tupleItemsOf_ ht ?_)
 refine zp (wpAny_typeOf N3 ?_)
 rw[if_pos (by decide)]
 refine zp (sliceApplied_gen hs pl pu ?_)
 have Dk:¬ ((((sIx items.size 0 lo:Nat):Int) == 0 && (1:Int) == 1 && (sIx items.size items.size hi - sIx items.size 0 lo) == items.size)=true):=by
  intro q
  rw[zm,zm] at q
  have q1:((sIx items.size 0 lo:Nat):Int)=0:=eq_of_beq q.1.1
  have q2:sIx items.size items.size hi - sIx items.size 0 lo=items.size:=eq_of_beq q.2
  exact hw ⟨by omega,by omega⟩
 show wpAny _ _ (if (((sIx items.size 0 lo:Nat):Int) == 0 && (1:Int) == 1 && (sIx items.size items.size hi - sIx items.size 0 lo) == items.size)=true then _ else _) _ _ s
 rw[if_neg Dk,pick_gen]
 first
  |exact zp (m:=Builtin.Tuple.tupleExact _) (wpAny_newObj_type (zB ⟨_,rfl,zB h⟩) wy)
  |exact zp (m:=Builtin.Tuple.tupleExact _) (wpAny_newObj_type (zp (zB (zB ⟨_,rfl,zB h⟩))) wy)
  |exact zp (zp (m:=Builtin.Tuple.tupleExact _) (wpAny_newObj_type (zB (zB ⟨_,rfl,zB h⟩)) wy))
  |exact zp (zp (m:=Builtin.Tuple.tupleExact _) (wpAny_newObj_type (zB ⟨_,rfl,zB h⟩) wy))
end
end HT
namespace L2
open PySem PySem.Spec PyProof.Rows
abbrev TO:=St→Hp→(Option Int→Hp→Prop)→Prop
def PO(X:Cx)(e:Option Expr)(t:TO):Prop :=
 ∀(pins:List (Addr×Obj)) (s:Shared) (σ:St) (H:Hp) (Q:Option Int→Hp→Prop),Inv X pins σ H s→t σ H Q →
  wpAny (model X.prog X.w) X.A (evalPart e X.env) (fun u s'=>∃o H',Inv X pins σ H' s'∧IsPart u o∧Q o H') X.xe s
def DV:TO:=fun _ H Q=>Q none H
def J4(t:TE):TO:=fun σ H Q=>t σ H fun x H1=>∃i,x=.int i∧Q (some i) H1
section
variable{X:Cx}{e:Expr}{te:TE}{lo hi:Option Expr}{tl th:TO}{pos p2:Pos}
theorem DX:PO X none DV:=by
 intro pins s σ H Q I h
 rw[evalPart_none]
 exact zB ⟨none,H,I,.none,h⟩
theorem DY(h:PE X e te):PO X (some e) (J4 te):=by
 intro pins s σ H Q I hw
 rw[evalPart_some]
 refine bA (h pins s σ H _ I hw) fun u s1 ⟨x,H1,I1,r1,q1⟩=>?_
 obtain⟨i,rfl,q⟩:=q1
 obtain⟨t,rfl⟩:=r1
 exact⟨some i,H1,I1,.int i t,q⟩
def FA(X:Cx)(r:V→Option Int→Option Int→Hp→VK→Prop):Prop :=
 ∀(pins:List (Addr×Obj)) (s:Shared) (σ:St) (H:Hp) (x:V) (v vl vu:Value) (lo hi:Option Int) (sl:Addr) (Q:VK),Inv X pins σ H s→RelV x v→s.heap.IsSliceOf sl vl vu .none→IsPart vl lo→IsPart vu hi→r x lo hi H Q →
  ∃T id,typeLookup (.type T) "__getitem__" = pure (some (.builtin id))∧s.TypeIs v T∧wpAny (model X.prog X.w) X.A (getItem v (.ref sl)) (EP X pins σ Q) X.xe s
def Sl(r:V→Option Int→Option Int→Hp→VK→Prop)(te:TE)(tl th:TO):TE:=fun σ H Q=>te σ H fun x H1=>tl σ H1 fun l H2=>th σ H2 fun u H3=>r x l u H3 Q
theorem rW{r:V→Option Int→Option Int→Hp→VK→Prop}(hr:FA X r)(he:PE X e te)(hl:PO X lo tl)(hu:PO X hi th):PE X (.Subscript e (.Slice lo hi none p2) pos) (Sl r te tl th):=by
 intro pins s σ H Q I h
 refine Subscript_ (bA (he pins s σ H _ I h) fun v s1 ⟨x,H1,I1,r1,q1⟩=>?_)
 refine wpAny_Slice (bA (hl pins s1 σ H1 _ I1 q1) fun vl s2 ⟨l,H2,I2,pl,q2⟩=>bA (hu pins s2 σ H2 _ I2 q2) fun vu s3 ⟨u,H3,I3,pu,q3⟩=>?_)
 rw[evalPart_none]
 refine zB ?_
 have I4:Inv X pins σ H3 { s3 with heap:=s3.heap.push { cls:=.type "slice",data:=.fields #[vl,vu,.none] } }:=I3.kept (t':=s3.toks) fun b ob q=>zt _ q
 obtain⟨T,id,hT,ht,hg⟩:=hr pins { s3 with heap:=s3.heap.push { cls:=.type "slice",data:=.fields #[vl,vu,.none] } } σ H3 x v vl vu l u s3.heap.objs.size Q I4 r1 (Heap.IsSliceOf.new ..) pl pu q3
 show wpAny (model X.prog X.w) X.A (subscriptTail e (.Slice lo hi none p2) v (.ref s3.heap.objs.size)) (EP X pins σ Q) X.xe { s3 with heap:=s3.heap.push { cls:=.type "slice",data:=.fields #[vl,vu,.none] } }
 exact tail_any (ops:=[.ref s3.heap.objs.size,v]) ht hT hg (by with_unfolding_all rfl)
def rX(xs:List V)(lo hi:Option Int):List V:=(xs.drop (HT.sIx xs.length 0 lo)).take (HT.sIx xs.length xs.length hi - HT.sIx xs.length 0 lo)
theorem lP(xs:List V)(lo hi:Option Int):(rX xs lo hi).length≤xs.length:=by
 unfold rX
 rw[List.length_take,zF]
 omega
def N4(K:Frag):V→Option Int→Option Int→Hp→VK→Prop:=fun x lo hi H Q=>∃a xs,x=.ref a∧kU K H a xs ∧
 ¬ (HT.sIx xs.length 0 lo=0∧HT.sIx xs.length xs.length hi=xs.length)∧∀p,H p=none→Q (.ref p) (upd H p (.tup (rX xs lo hi)))
theorem Ba:FA X (N4 X.K):=by
 intro pins s σ H x v vl vu lo hi sl Q I rx hs pl pu h
 obtain⟨a,xs,rfl,hx,hw,q⟩:=h
 cases rx
 obtain⟨ao,r,ht,hz⟩:=I.tuple hx
 have hlen:ao.toArray.size=xs.length:=by rw[zu];exact r.length.symm
 refine⟨"tuple",_,PyProof.Rows.slot_tuple_getitem.lookup,ht.typeIs,?_⟩
 refine HT.getItem_tuple_cut ht hs pl pu (by rw[hlen];exact hw) ?_ (by rw[hlen];exact hz)
 rw[hlen]
 refine⟨.ref s.heap.objs.size,_,I.laid (t':=s.toks) (o:=.tup (rX xs lo hi)) (fun b ob q=>zt _ q) (zi _) ?_,rfl,q _ (I.aS.fresh (zi _))⟩
 exact⟨zG (lP xs lo hi) hz,_,(r.drop (HT.sIx xs.length 0 lo)).take (HT.sIx xs.length xs.length hi - HT.sIx xs.length 0 lo),fv.new _ _⟩
def J5(K:Frag):R2:=fun x y H Q=>∃a b xs ys,x=.ref a∧y=.ref b∧kU K H a xs∧kU K H b ys∧xs≠[]∧xs.length+ys.length≤sizeLine ∧
 (ys=[]→Q (.ref a) H)∧(ys≠[]→∀p,H p=none→Q (.ref p) (upd H p (.tup (xs++ys))))
theorem Vals.mD(r:Vals xs us):us=[]↔xs=[]:=by
 cases r with
 |nil=>simp
 |cons _ _=>simp
theorem DZ:eX X (binaryOp .Add) (J5 X.K):=by
 intro pins s σ H x y v u Q I rx ry h
 obtain⟨a,b,xs,ys,rfl,rfl,ha,hb,hx,hz,q1,q2⟩:=h
 cases rx
 cases ry
 obtain⟨ao,r1,p1,_⟩:=I.tuple ha
 obtain⟨mQ,r2,p2,_⟩:=I.tuple hb
 refine HT.cat_tup p1 p2 (fun z=>hx (r1.mD.mp z)) (fun z=>⟨.ref a,H,I,rfl,q1 (r2.mD.mp z)⟩) (fun z=>?_) (by rw[← r1.length,← r2.length];exact hz)
 refine⟨.ref s.heap.objs.size,_,I.laid (t':=s.toks) (o:=.tup (xs++ys)) (fun b ob q=>zt _ q) (zi _) ?_,rfl,q2 (fun w=>z (r2.mD.mpr w)) _ (I.aS.fresh (zi _))⟩
 exact⟨by rw[zg];exact hz,_,r1.append r2,fv.new _ _⟩
end
def AL(n:Nat)(i:Int):Option Nat:=if 0≤i then (if i<n then some i.toNat else none) else if -(n:Int)≤i then some (i+n).toNat else none
def gT{α:Type}(xs:List α)(i:Int):Option α:=(AL xs.length i).bind fun j=>xs[j]?
theorem wz(h:AL n i=some j):seqIndex? i n=some j∧j<n∧-(n:Int)≤i∧i<n:=by
 unfold AL at h
 by_cases h0:0≤i
 ·rw[if_pos h0] at h
  by_cases h1:i<n
  ·rw[if_pos h1] at h
   have e:i.toNat=j:=zO h
   exact⟨by rw[seqIndex_of h0 h1,e],by omega,by omega,h1⟩
  ·rw[if_neg h1] at h;cases h
 ·rw[if_neg h0] at h
  by_cases h1:-(n:Int)≤i
  ·rw[if_pos h1] at h
   have e:(i+n).toNat=j:=zO h
   exact⟨by rw[seqIndex_neg (by omega) h1,e],by omega,h1,by omega⟩
  ·rw[if_neg h1] at h;cases h
theorem qe(h:gT xs i=some v):∃j,seqIndex? i xs.length=some j∧xs[j]?=some v∧j<xs.length∧-(xs.length:Int)≤i∧i<xs.length:=by
 unfold gT at h
 cases e:AL xs.length i with
 |none=>rw[e] at h;cases h
 |some j =>
  rw[e] at h
  obtain⟨h1,h2,h3,h4⟩:=wz e
  exact⟨j,h1,h,h2,h3,h4⟩
theorem f9{α:Type}{xs:List α}{j:Nat}{v:α}(h:xs[j]?=some v):gT xs (j:Int)=some v:=by
 have hj:j<xs.length:=(zL.mp h).1
 have e:AL xs.length (j:Int)=some j:=by
  unfold AL
  rw[if_pos (by omega),if_pos (by omega)];simp
 unfold gT;rw[e];exact h
def wA(b:Expr):Prop:=∀o i,subscripted b false o i=operate [o,i] (getItem o i)
def J6(X:Cx)(r:R2):Prop :=
 ∀(value slice:Expr) (pins:List (Addr×Obj)) (s:Shared) (σ:St) (H:Hp) (x y:V) (v u:Value) (Q:VK),Inv X pins σ H s→RelV x v→RelV y u→r x y H Q →
  subscripted slice false v u=operate [v,u] (getItem v u)→wpAny (model X.prog X.w) X.A (subscriptTail value slice v u) (EP X pins σ Q) X.xe s
def Dm(X:Cx)(id:String)(r:V→List V→Hp→VK→Prop):Prop :=
 ∀(pins:List (Addr×Obj)) (s:Shared) (σ:St) (H:Hp) (x:V) (xs:List V) (v:Value) (us:List Value) (Q:VK),Inv X pins σ H s→RelV x v→Vals xs us→r x xs H Q →
  wpAny (model X.prog X.w) X.A (call (.builtin id) (v::us)) (EP X pins σ Q) X.xe s
section
variable{X:Cx}{a b:Expr}{ta tb:TE}{pos:Pos}
theorem J_(hr:J6 X r)(ha:PE X a ta)(hb:PE X b tb)(hs:wA b):PE X (.Subscript a b pos) (Jb r ta tb):=by
 intro pins s σ H Q I h
 exact Subscript_ (GQ ha hb I h fun v u s2 x y H2 I2 rx ry q=>hr a b pins s2 σ H2 x y v u Q I2 rx ry q (hs _ _))
def N5(K:Frag):R2:=fun x y H Q=>∃p xs i v,x=.ref p∧y=.int i∧i7 K H p xs∧gT xs i=some v∧Q v H
def N6(K:Frag):R2:=fun x y H Q=>∃p xs i v,x=.ref p∧y=.int i∧kU K H p xs∧gT xs i=some v∧Q v H
def N7:R2:=fun x y H Q=>∃z i c,x=.str z∧y=.int i∧z.length≤sizeLine∧gT z.cps.toList i=some c∧Q (.str ⟨#[c]⟩) H
theorem wB:J6 X (N5 X.K):=by
 intro value slice pins s σ H x y v u Q I rx ry h hs
 obtain⟨p,xs,i,z,rfl,rfl,hq,he,q⟩:=h
 cases rx
 obtain⟨t,rfl⟩:=ry
 obtain⟨ao,r,pl,hz⟩:=I.list hq
 obtain⟨j,h1,h2,h3,h4,h5⟩:=qe he
 obtain⟨w,ew,qf⟩:=r.get h2
 have hl:=r.length
 have hn:=mO
 have fin:EP X pins σ Q w s:=⟨z,H,I,qf,q⟩
 by_cases h0:0≤i
 ·have hj:i.toNat=j:=by
   rw[seqIndex_of h0 h5] at h1
   exact zO h1
  exact item_listR pl.isList h0 (by omega) (by rw[hj];simpa using ew) fin hs
 ·have hj:(i+(ao.toArray.size:Int)).toNat=j:=by
   rw[seqIndex_neg (by omega) h4] at h1
   rw[zu,← hl]
   exact zO h1
  exact subscriptTail_builtinR (x:=w) pl.isList.typeIs slot_list_getitem.lookup
   (wpAny_getItem_list_neg (Q:=fun r s'=>r=w∧EP X pins σ Q r s') pl.isList (by omega) (by rw[zu] <;> omega) (by omega) (by rw[hj];simpa using ew) ⟨rfl,fin⟩) hs
theorem Bb:J6 X (N6 X.K):=by
 intro value slice pins s σ H x y v u Q I rx ry h hs
 obtain⟨p,xs,i,z,rfl,rfl,hq,he,q⟩:=h
 cases rx
 obtain⟨t,rfl⟩:=ry
 obtain⟨ao,r,pl,hz⟩:=I.tuple hq
 obtain⟨j,h1,h2,h3,h4,h5⟩:=qe he
 obtain⟨w,ew,qf⟩:=r.get h2
 have hl:=r.length
 have hn:=mO
 have fin:EP X pins σ Q w s:=⟨z,H,I,qf,q⟩
 exact subscriptTail_builtinR (x:=w) pl.typeIs slot_tuple_getitem.lookup
  (getItem_tuple (j:=j) (Q:=fun r s'=>r=w∧EP X pins σ Q r s') pl (by omega) (by omega) (by rw[zu,← hl];exact h1) (by simpa using ew) ⟨rfl,fin⟩) hs
theorem G8:J6 X N7:=by
 intro value slice pins s σ H x y v u Q I rx ry h hs
 obtain⟨z,i,c,rfl,rfl,hz,he,q⟩:=h
 obtain⟨t,rfl⟩:=rx
 obtain⟨t',rfl⟩:=ry
 obtain⟨j,h1,h2,h3,h4,h5⟩:=qe he
 have hl:z.cps.toList.length=z.length:=by simp [Str.length]
 rw[hl] at h1 h4 h5
 have hn:=mO
 exact tail_any (typeIs_str s z t) slot_str_getitem.lookup (getItem_str (c:=c) (by
  have e1:decide (i < -(2 ^ 63:Int))=false:=zh (by omega)
  have e2:decide (i≥2 ^ 63)=false:=zh (by omega)
  rw[e1,e2,Bool.or_false]) (by rw[h1];simpa using h2) ⟨.str ⟨#[c]⟩,H,I.tok _,⟨_,rfl⟩,q⟩) hs
theorem uO(ao:List Value)(n j:Nat)(u:Value):Obj.mapSeq (·.setIfInBounds j u) { cls:=.type "list",data:=.seq ao.toArray n }={ cls:=.type "list",data:=.seq (ao.set j u).toArray n }:=by
 simp [Obj.mapSeq]
theorem Inv.lst(I:Inv X pins σ H s)(h:H p=some (.lst xs)) :
  ∃(ao:List Value) (n:Nat),Vals xs ao∧s.heap.get? p=some { cls:=.type "list",data:=.seq ao.toArray n }∧xs.length≤sizeLine:=by
 obtain⟨z,ao,n,r,e⟩:=I.aS p _ h
 exact⟨ao,n,r,e,z⟩
theorem Inv.G9{pins:List (Addr×Obj)}{σ:St}{H:Hp}{s:Shared}{p:Addr}{xs ys:List V}{ao its':List Value}{n n':Nat}{f:Obj→Obj}(I:Inv X pins σ H s)(h:H p=some (.lst xs))
  (ho:s.heap.get? p=some { cls:=.type "list",data:=.seq ao.toArray n }) (hf:f { cls:=.type "list",data:=.seq ao.toArray n }={ cls:=.type "list",data:=.seq its'.toArray n' }) (r:Vals ys its') (hz:ys.length≤sizeLine) (t:Nat) :
  Inv X pins σ (upd H p (.lst ys)) { s with heap:=s.heap.update p f,toks:=t }:=by
 have e:(s.heap.update p f).get? p=some { cls:=.type "list",data:=.seq its'.toArray n' }:=by
  rw[Heap.get?_update_self f ho (by rw[hf] <;> rfl),hf]
 refine I.write (x:=p) (e:=p) (by rw[h];trivial) (.inl rfl) (fun b u hb q=>(Heap.get?_update_other _ _ (Ne.symm hb)).trans q) ⟨_,e⟩ ?_
 exact⟨hz,its',n',r,e⟩
def Ka:V→V→V→Hp→(Hp→Prop)→Prop:=fun o i v H Q=>∃p xs k j,o=.ref p∧i=.int k∧H p=some (.lst xs)∧AL xs.length k=some j∧Q (upd H p (.lst (xs.set j v)))
theorem set_list:JH X Ka:=by
 intro pins s σ H o i v ov iv u Q I ro ri rv h
 obtain⟨p,xs,k,j,rfl,rfl,hp,hj,q⟩:=h
 cases ro
 obtain⟨t,rfl⟩:=ri
 obtain⟨ao,n,r,ho,hz⟩:=I.lst hp
 obtain⟨h1,h2,h3,h4⟩:=wz hj
 have hl:=r.length
 have hn:=mO
 have I':Inv X pins σ (upd H p (.lst (xs.set j v))) { s with heap:=s.heap.update p (Obj.mapSeq (·.setIfInBounds j u)) } :=
  I.G9 hp ho (uO ao n j u) (r.set rv j) (by rw[List.length_set];exact hz) s.toks
 by_cases h0:0≤k
 ·have hk:k.toNat=j:=by
   rw[seqIndex_of h0 h4] at h1
   exact zO h1
  exact PySem.W.ki_setAt ho h0 (by omega) (by rw[zu,← hl];exact h4) (by rw[hk];exact⟨_,I',q⟩)
 ·have hk:(k+(ao.toArray.size:Int)).toNat=j:=by
   rw[seqIndex_neg (by omega) h3] at h1
   rw[zu,← hl]
   exact zO h1
  exact PySem.W.ki_setBack ho (by omega) (by rw[zu,← hl];exact h3) (by omega) (by rw[hk];exact⟨_,I',q⟩)
theorem qg(lo hi:Option Int)(n:Nat):(sliceBounds lo hi none n).1=((HT.sIx n 0 lo:Nat):Int)∧(sliceBounds lo hi none n).2.1=((HT.sIx n n hi:Nat):Int)∧(sliceBounds lo hi none n).2.2=1:=by
 refine⟨?_,?_,rfl⟩
 ·cases lo with
  |none=>simp [sliceBounds,HT.sIx]
  |some i =>
   simp only [sliceBounds,HT.sIx,Option.getD_none,show (1:Int)>0 by decide,if_true]
   by_cases h:i<0
   ·simp only [h,if_true] <;> omega
   ·simp only [h,if_false] <;> omega
 ·cases hi with
  |none=>simp [sliceBounds,HT.sIx]
  |some i =>
   simp only [sliceBounds,HT.sIx,Option.getD_none,show (1:Int)>0 by decide,if_true]
   by_cases h:i<0
   ·simp only [h,if_true] <;> omega
   ·simp only [h,if_false] <;> omega
theorem oB(ao:List Value)(lo hi:Option Int):slicePick ao.toArray lo hi none=((ao.drop (HT.sIx ao.length 0 lo)).take (HT.sIx ao.length ao.length hi - HT.sIx ao.length 0 lo)).toArray:=by
 obtain⟨h1,h2,h3⟩:=qg lo hi ao.toArray.size
 unfold slicePick
 rw[h1,h2,h3]
 simp only [sliceRange_one,pick_run,zu] <;> rfl
def N8(K:Frag):V→Option Int→Option Int→Hp→VK→Prop:=fun x lo hi H Q=>∃a xs,x=.ref a∧i7 K H a xs∧∀p,H p=none→Q (.ref p) (upd H p (.lst (rX xs lo hi)))
theorem wC:FA X (N8 X.K):=by
 intro pins s σ H x v vl vu lo hi sl Q I rx hs pl pu h
 obtain⟨a,xs,rfl,hx,q⟩:=h
 cases rx
 obtain⟨ao,r,ht,hz⟩:=I.list hx
 have hlen:=r.length
 refine⟨"list",_,slot_list_getitem.lookup,ht.isList.typeIs,?_⟩
 refine wpAny_getItem_list_slice ht.isList hs pl pu .none (by simp) ?_ (by rw[zu] <;> omega)
 rw[oB,← hlen]
 refine⟨.ref s.heap.objs.size,_,I.laid (t':=s.toks) (o:=.lst (rX xs lo hi)) (fun b ob q=>zt _ q) (zi _) ?_,rfl,q _ (I.aS.fresh (zi _))⟩
 exact⟨zG (lP xs lo hi) hz,_,0,(r.drop (HT.sIx xs.length 0 lo)).take (HT.sIx xs.length xs.length hi - HT.sIx xs.length 0 lo),zU _ rfl⟩
def fH:V→Bool
 |.aK=>true
 |.bl _=>true
 |.int _=>true
 |.str _=>true
 |_=>false
def eqV:V→V→Bool
 |.aK,.aK=>true
 |.bl a,.bl b=>a == b
 |.bl a,.int b=>(if a then 1 else 0) == b
 |.int a,.bl b=>a == (if b then 1 else 0)
 |.int a,.int b=>a == b
 |.str a,.str b=>a == b
 |_,_=>false
theorem G_(ry:RelV y u)(rx:RelV x v)(fy:fH y=true)(fx:fH x=true):SeqAt.EqAt A s u v (eqV y x):=by
 cases y with
 |aK =>
  cases ry
  cases x with
  |aK=>cases rx;exact SeqAt.EqAt.same _
  |bl b=>cases rx;exact SeqAt.EqAt.none_bool b
  |int b=>obtain⟨t,rfl⟩:=rx;exact SeqAt.EqAt.none_int b t
  |str b=>obtain⟨t,rfl⟩:=rx;exact SeqAt.EqAt.none_str b t
  |_=>exact absurd (show false=true from fx) zk
 |bl a =>
  cases ry
  cases x with
  |aK=>cases rx;exact SeqAt.EqAt.bool_none a
  |bl b=>cases rx;exact SeqAt.EqAt.bool_bool a b
  |int b=>obtain⟨t,rfl⟩:=rx;exact SeqAt.EqAt.bool_int a b t
  |str b=>obtain⟨t,rfl⟩:=rx;exact SeqAt.EqAt.bool_str a b t
  |_=>exact absurd (show false=true from fx) zk
 |int a =>
  obtain⟨t',rfl⟩:=ry
  cases x with
  |aK=>cases rx;exact SeqAt.EqAt.int_none a t'
  |bl b=>cases rx;exact SeqAt.EqAt.int_bool a t' b
  |int b=>obtain⟨t,rfl⟩:=rx;exact SeqAt.EqAt.int_int a t' b t
  |str b=>obtain⟨t,rfl⟩:=rx;exact SeqAt.EqAt.int_str a t' b t
  |_=>exact absurd (show false=true from fx) zk
 |str a =>
  obtain⟨t',rfl⟩:=ry
  cases x with
  |aK=>cases rx;exact SeqAt.EqAt.str_none a t'
  |bl b=>cases rx;exact SeqAt.EqAt.str_bool a t' b
  |int b=>obtain⟨t,rfl⟩:=rx;exact SeqAt.EqAt.str_int a t' b t
  |str b=>obtain⟨t,rfl⟩:=rx;exact SeqAt.EqAt.str_str a t' b t
  |_=>exact absurd (show false=true from fx) zk
 |_=>exact absurd (show false=true from fy) zk
def rY(x:V)(u:Value):Bool:=match u with
 |.none=>eqV .aK x
 |.bool b=>eqV (.bl b) x
 |.int i _=>eqV (.int i) x
 |.str z _=>eqV (.str z) x
 |_=>false
theorem uP(r:RelV y u)(f:fH y=true):rY x u=eqV y x:=by
 cases y with
 |aK=>cases r;rfl
 |bl b=>cases r;rfl
 |int i=>obtain⟨t,rfl⟩:=r;rfl
 |str z=>obtain⟨t,rfl⟩:=r;rfl
 |_=>exact absurd (show false=true from f) zk
theorem jR:∀{xs:List V}{us:List Value},Vals xs us→xs.all fH=true→us.any (rY x)=xs.any fun y=>eqV y x
 |_,_,.nil,_=>rfl
 |y::xs,u::us,.cons r t,f=>by
  rw[zY,zm] at f
  rw[yC,yC,uP r f.1,jR t f.2]
theorem fI(rx:RelV x v)(fx:fH x=true):∀{xs:List V}{us:List Value},Vals xs us→xs.all fH=true→∀u∈us,SeqAt.EqAt A s u v (rY x u)
 |_,_,.nil,_=>fun u hu=>by cases hu
 |y::xs,u::us,.cons r t,f=>fun u' hu=>by
  rw[zY,zm] at f
  rcases zc.mp hu with rfl|hu
  ·rw[uP r f.1];exact G_ r rx f.1 fx
  ·exact fI rx fx t f.2 u' hu
def uA(x:V)(xs:List V):Bool:=xs.any fun y=>eqV y x
def QL(K:Frag)(neg:Bool):R2:=fun x y H Q=>∃p xs,y=.ref p∧(i7 K H p xs∨kU K H p xs)∧fH x=true∧xs.all fH=true∧Q (.bl (if neg then !uA x xs else uA x xs)) H
theorem kX:eX X (compareOp .In) (QL X.K false):=by
 intro pins s σ H x y v u Q I rx ry h
 obtain⟨p,xs,rfl,hq,fx,fs,q⟩:=h
 cases ry
 rcases hq with hq|hq
 ·obtain⟨ao,r,pl,hz⟩:=I.list hq
  refine SeqAt.in_listAt (rY x) pl.isList (fun w hw=>fI rx fx r fs w (by simpa using hw)) ⟨.bl _,H,I,rfl,?_⟩
  rw[show ao.toArray.any (rY x)=ao.any (rY x) by simp,jR r fs]
  exact q
 ·obtain⟨ao,r,pl,hz⟩:=I.tuple hq
  refine SeqAt.in_tupleAt (rY x) pl (fun w hw=>fI rx fx r fs w (by simpa using hw)) ⟨.bl _,H,I,rfl,?_⟩
  rw[show ao.toArray.any (rY x)=ao.any (rY x) by simp,jR r fs]
  exact q
theorem f_:eX X (compareOp .NotIn) (QL X.K true):=by
 intro pins s σ H x y v u Q I rx ry h
 obtain⟨p,xs,rfl,hq,fx,fs,q⟩:=h
 cases ry
 rcases hq with hq|hq
 ·obtain⟨ao,r,pl,hz⟩:=I.list hq
  refine SeqAt.notIn_listAt (rY x) pl.isList (fun w hw=>fI rx fx r fs w (by simpa using hw)) ⟨.bl _,H,I,rfl,?_⟩
  rw[show ao.toArray.any (rY x)=ao.any (rY x) by simp,jR r fs]
  exact q
 ·obtain⟨ao,r,pl,hz⟩:=I.tuple hq
  refine SeqAt.notIn_tupleAt (rY x) pl (fun w hw=>fI rx fx r fs w (by simpa using hw)) ⟨.bl _,H,I,rfl,?_⟩
  rw[show ao.toArray.any (rY x)=ao.any (rY x) by simp,jR r fs]
  exact q
theorem jS:dY X (.type "list") (fun xs H Q=>∃p ys,xs=[.ref p]∧(i7 X.K H p ys∨kU X.K H p ys)∧∀l,H l=none→Q (.ref l) (upd H l (.lst ys))):=by
 intro pins s σ H xs us Q I r h
 obtain⟨p,ys,rfl,hq,q⟩:=h
 obtain⟨u,rfl,rx⟩:=vals1 r
 cases rx
 have fin:∀(ao:List Value),Vals ys ao→ys.length≤sizeLine→∀(h':Heap) (c':Nat),(∀b o',s.heap.get? b=some o'→h'.get? b=some o') →
   h'.get? s.heap.objs.size=some { cls:=.type "list",dict:=none,data:=.seq ao.toArray c',slots:=#[] }→EP X pins σ Q (.ref s.heap.objs.size) { s with heap:=h' }:=fun ao r' hz h' c' kp e =>
  ⟨.ref s.heap.objs.size,_,I.laid (t':=s.toks) kp (zi _) (show bh X.prog X.w _ h' _ (.lst ys) from ⟨hz,ao,c',r',e⟩),rfl,q _ (I.aS.fresh (zi _))⟩
 rcases hq with hq|hq
 ·obtain⟨ao,r',pl,hz⟩:=I.list hq
  have hlen:=r'.length
  obtain⟨o,ho,hc,n,hd⟩:=pl.isList
  exact call_list_seq p (.inl rfl) ho hc hd (fun h' c' kp e=>fin ao r' hz h' c' kp e) (by simp only [zu] <;> omega)
 ·obtain⟨ao,r',pl,hz⟩:=I.tuple hq
  have hlen:=r'.length
  obtain⟨o,ho,hc,n,hd⟩:=pl
  exact call_list_seq p (.inr rfl) ho hc hd (fun h' c' kp e=>fin ao r' hz h' c' kp e) (by simp only [zu] <;> omega)
theorem jc:dY X (.type "tuple") (fun xs H Q=>∃p ys,xs=[.ref p]∧((i7 X.K H p ys∧∀l,H l=none→Q (.ref l) (upd H l (.tup ys)))∨(kU X.K H p ys∧Q (.ref p) H))):=by
 intro pins s σ H xs us Q I r h
 obtain⟨p,ys,rfl,h⟩:=h
 obtain⟨u,rfl,rx⟩:=vals1 r
 cases rx
 rcases h with ⟨hq,q⟩|⟨hq,q⟩
 ·obtain⟨ao,r',pl,hz⟩:=I.list hq
  have hlen:=r'.length
  refine call_tuple_list pl.isList (fun h' kp=>?_) (by simp only [zu] <;> omega)
  have I1:Inv X pins σ H { s with heap:=h' }:=I.kept (t':=s.toks) kp
  have I2:Inv X pins σ (upd H h'.objs.size (.tup ys)) { s with heap:=h'.push { cls:=.type "tuple",data:=.seq ao.toArray } } :=
   I1.laid (t':=s.toks) (fun b o e=>zt _ e) (zi _) (show bh X.prog X.w _ _ _ (.tup ys) from ⟨hz,ao,r',fv.new _ _⟩)
  exact⟨.ref h'.objs.size,_,I2,rfl,q _ (I1.aS.fresh (zi _))⟩
 ·obtain⟨ao,r',pl,hz⟩:=I.tuple hq
  exact call_tuple_same pl ⟨.ref p,H,I,rfl,q⟩
def Mz(K:Frag)(T:String)(x:V)(H:Hp):Prop:=match x with
 |.str _=>T = "str"
 |.int _=>T = "int"
 |.ref p=>(T = "list" ∧ ∃xs,i7 K H p xs)∨(T = "tuple" ∧ ∃o,K.lookup p=some o∧o.cls=.type "tuple" ∧ o.dict=none) ∨
   (T = "dict" ∧ ((∃kvs,H p=some (.dK kvs))∨∃kvs,H p=some (.dT kvs)))∨(T = "set" ∧ ∃S n,H p=some (.set S n))
 |_=>False
theorem Bc(I:Inv X pins σ H s)(r:RelV x v)(ty:Mz X.K T x H) :
  s.TypeIs v T∧∀a,v=.ref a→∃ob,s.heap.get? a=some ob∧ob.dict=none:=by
 cases x with
 |str z =>
  obtain⟨t,rfl⟩:=r
  cases (show T = "str" from ty)
  exact⟨typeIs_str s z t,fun _ e=>nomatch e⟩
 |int i =>
  obtain⟨t,rfl⟩:=r
  cases (show T = "int" from ty)
  exact⟨typeIs_int s i t,fun _ e=>nomatch e⟩
 |ref p =>
  cases r
  rcases ty with ⟨rfl,xs,hq⟩|⟨rfl,o,hk,hc,hd⟩|⟨rfl,hk⟩|⟨rfl,S,n,hk⟩
  ·obtain⟨ao,_,pl,_⟩:=I.list hq
   refine⟨pl.isList.typeIs,fun a e=>?_⟩
   cases e
   obtain⟨o,n,e,c,hd,_⟩:=pl
   exact⟨o,e,hd⟩
  ·refine⟨⟨o,I.oz p o hk,hc⟩,fun a e=>?_⟩
   cases e
   exact⟨o,I.oz _ o hk,hd⟩
  ·have z:∃o,s.heap.get? p=some o∧o.ExactDict:=by
    rcases hk with ⟨kvs,hk⟩|⟨kvs,hk⟩
    ·obtain⟨_,_,_,_,o,_,_,e,ex,_⟩:=I.aS p _ hk
     exact⟨o,e,ex⟩
    ·exact False.elim (I.aS p _ hk)
   obtain⟨o,e,ex⟩:=z
   refine⟨⟨o,e,ex.1⟩,fun a e2=>?_⟩
   cases e2
   exact⟨o,e,ex.2.1⟩
  ·obtain⟨o,_,_,_,e,ex,_⟩:=I.aS p _ hk
   refine⟨⟨o,e,ex.1⟩,fun a e2=>?_⟩
   cases e2
   exact⟨o,e,ex.2.1⟩
 |_=>exact False.elim ty
def N9(K:Frag)(T:String)(r:V→List V→Hp→VK→Prop)(to:TE):TE:=fun σ H Q=>to σ H fun x H1=>Mz K T x H1∧r x [] H1 Q
def Sm(K:Frag)(T:String)(r:V→List V→Hp→VK→Prop)(to:TE)(t:TA):TE:=fun σ H Q=>to σ H fun x H1=>Mz K T x H1∧t σ H1 fun xs H2=>r x xs H2 Q
variable{o e:Expr}{es:List Expr}{to:TE}{t:TA}{name:Str}{apos aO:Pos}{T id:String}{r:V→List V→Hp→VK→Prop}
theorem Ha(pa:PlainAttrs T)(slot:Slot T name id)(Hb:typeOf (.builtin id)=pure (.type "method_descriptor"))(hm:Dm X id r)(ho:PE X o to)
  (jT:attributeBase o name X.env (eval o X.env)=eval o X.env:=by rfl) (mR:(apos.endLine == aO.line)=true:=by rfl):PE X (.Call (.Attribute o name apos) [] [] aO) (N9 X.K T r to):=by
 intro pins s σ H Q I h
 refine wpAny_Call_method0_late jT mR (bA (ho pins s σ H _ I h) fun v s1 ⟨x,H1,I1,r1,ty,q1⟩=>?_)
 obtain⟨h1,h2⟩:=Bc I1 r1 ty
 exact⟨T,id,pa,slot,Hb,h1,h2,Calls.callWith_builtin rfl (PySem.evalArgs_none (hm pins s1 σ H1 x [] v [] Q I1 r1 .nil q1))⟩
theorem Kb(pa:PlainAttrs T)(slot:Slot T name id)(Hb:typeOf (.builtin id)=pure (.type "method_descriptor"))(hm:Dm X id r)(ho:PE X o to)(ha:PA X (e::es) t)
  (jT:attributeBase o name X.env (eval o X.env)=eval o X.env:=by rfl)
  (Hc:((backTo aO (starEach (e::es) X.env)).all (fun x=>!x.1) && (backToKw aO (keywordEach [] X.env)).all (fun x=>x.1.isSome)
   && decide ((e::es).length+([]:List Keyword).length+(if ([]:List Keyword).isEmpty then 0 else 1)<30))=true:=by rfl)
  (mR:(apos.endLine == aO.line)=true:=by rfl) (hs:starEach (e::es) X.env=(false,eval e X.env)::starEach es X.env:=by rfl) (uQ:(backTo aO (starEach es X.env)).any (·.1)=false:=by rfl) :
  PE X (.Call (.Attribute o name apos) (e::es) [] aO) (Sm X.K T r to t):=by
 intro pins s σ H Q I h
 refine wpAny_Call_method_late jT Hc mR rfl (bA (ho pins s σ H _ I h) fun v s1 ⟨x,H1,I1,r1,ty,q1⟩=>?_)
 obtain⟨h1,h2⟩:=Bc I1 r1 ty
 refine⟨T,id,pa,slot,Hb,h1,h2,?_⟩
 have hA:=ha aO pins s1 σ H1 _ I1 q1
 rw[hs] at hA ⊢
 refine Calls.callWith_builtin (by show (false || (backTo aO (starEach es X.env)).any (·.1))=false;rw[uQ] <;> rfl) (Calls.evalArgs_plain ?_)
 exact bA hA <| by rintro us s2 ⟨vs,H2,I2,r2,q2⟩;exact hm pins s2 σ H2 x vs v us Q I2 r1 r2 q2
end
def MA(X:Cx)(id:String)(r:V→List V→Hp→VK→Prop):Prop :=
 ∀(pins:List (Addr×Obj)) (s:Shared) (σ:St) (H:Hp) (x:V) (xs:List V) (v:Value) (us:List Value) (Q:VK),Inv X pins σ H s→RelV x v→Vals xs us→r x xs H Q →
  wpAny (model X.prog X.w) X.A (call (.builtin id) (v::us)) (EP X pins σ Q) X.xe s
theorem Vals.one:∀{x:V}{us:List Value},Vals [x] us→∃u,us=[u]∧RelV x u:=by
 intro x us h
 cases h with
 |cons r t=>cases t;exact⟨_,rfl,r⟩
theorem Vals.two:∀{x y:V}{us:List Value},Vals [x,y] us→∃u v,us=[u,v]∧RelV x u∧RelV y v:=by
 intro x y us h
 cases h with
 |cons r t =>
  obtain⟨_,rfl,q⟩:=Vals.one t
  exact⟨_,_,rfl,r,q⟩
theorem Vals.zero:∀{us:List Value},Vals [] us→us=[]
 |_,.nil=>rfl
theorem Vals.dropLast{xs:List V}{us:List Value}(h:Vals xs us):Vals xs.dropLast us.dropLast:=by
 induction h with
 |nil=>exact .nil
 |cons r t ih =>
  cases t with
  |nil=>exact .nil
  |cons q t'=>exact .cons r ih
theorem Vals.eraseIdx:∀{xs:List V}{us:List Value} (i:Nat),Vals xs us→Vals (xs.eraseIdx i) (us.eraseIdx i)
 |_,_,_,.nil=>.nil
 |_,_,0,.cons _ t=>t
 |_,_,i+1,.cons r t=>.cons r (Vals.eraseIdx i t)
theorem uR{α:Type}(l:List α):l.eraseIdx (l.length - 1)=l.dropLast:=by
 induction l with
 |nil=>rfl
 |cons a r ih =>
  cases r with
  |nil=>rfl
  |cons b r =>
   have e:(a::b::r).length - 1=((b::r).length - 1)+1:=by
    have h1:(a::b::r).length=r.length+2:=rfl
    have h2:(b::r).length=r.length+1:=rfl
    omega
   rw[e,List.eraseIdx_cons_succ,ih]
   all_goals rfl
theorem pA{α:Type} : ∀(l:List α) (i:Nat),(l.eraseIdx i).length≤l.length
 |[],_=>zi _
 |_::_,0=>Nat.le_succ _
 |_::r,i+1=>Nat.succ_le_succ (pA r i)
section
variable{X:Cx}{pins:List (Addr×Obj)}{σ:St}{H:Hp}{s:Shared}{l b:Addr}{xs ys zs:List V}
theorem Inv.D0{ao its':List Value}{n:Nat}{f:Array Value→Array Value}{t':Nat}(I:Inv X pins σ H s)(hH:H l=some (.lst xs))
  (e:s.heap.get? l=some { cls:=.type "list",data:=.seq ao.toArray n }) (hf:f ao.toArray=its'.toArray) (hv:Vals ys its') (hz:ys.length≤sizeLine) :
  Inv X pins σ (upd H l (.lst ys)) { s with heap:=s.heap.update l (Obj.mapSeq f),toks:=t' }:=by
 have q:=PySem.IsL.update e f
 rw[hf] at q
 refine I.write (x:=l) (e:=l) (by rw[hH];exact trivial) (.inl rfl) (fun b' u hb hu=>(Heap.get?_update_other s.heap (Obj.mapSeq f) (Ne.symm hb)).trans hu) ⟨_,q⟩ ?_
 exact⟨hz,its',_,hv,q⟩
theorem Inv.N_(I:Inv X pins σ H s)(hv:Vals ys ao)(hz:ys.length≤sizeLine) :
  Inv X pins σ (upd H s.heap.objs.size (.lst ys)) { s with heap:=s.heap.push { cls:=.type "list",data:=.seq ao.toArray },toks:=t' } :=
 I.laid (fun _ _ q=>zt _ q) (zi _) ⟨hz,ao,0,hv,zU _ rfl⟩
theorem Inv.fresh(I:Inv X pins σ H s):H s.heap.objs.size=none:=I.aS.fresh (zi _)
theorem Inv.x6(I:Inv X pins σ H s)(hH:H l=some (.lst xs)):xs.length≤sizeLine∧∃(ao:List Value) (n:Nat),Vals xs ao∧xs.length=ao.length∧s.heap.get? l=some { cls:=.type "list",data:=.seq ao.toArray n }:=by
 obtain⟨z,ao,n,r,e⟩:=I.aS l _ hH
 exact⟨z,ao,n,r,r.length,e⟩
theorem Bd{n:Nat}(h:n≤sizeLine):Builtin.List.listTooLong n=false:=by
 unfold Builtin.List.listTooLong
 exact zh (by omega)
end
section
variable{X:Cx}
def D1:V→List V→Hp→VK→Prop:=fun x vs H Q=>∃l xs y,x=.ref l∧vs=[y]∧H l=some (.lst xs)∧xs.length<sizeLine∧Q .aK (upd H l (.lst (xs++[y])))
theorem x8:MA X "list.append" D1:=by
 intro pins s σ H x vs v us Q I rx rv h
 obtain⟨l,xs,y,rfl,rfl,hH,hz,q⟩:=h
 cases rx
 obtain⟨u,rfl,ru⟩:=rv.one
 obtain⟨z,ao,n,r,hl,e⟩:=I.x6 hH
 refine yB F.slot_list_append ⟨_,e,rfl⟩ F.entry_list_append (F.args_list_append_2 _ _) (PySem.list_append l ao.toArray n u (by rw[zu];omega)) ⟨e,?_⟩
 refine⟨.aK,_,I.D0 (its':=ao++[u]) hH e (by simp) (r.append (.cons ru .nil)) ?_,rfl,q⟩
 rw[zg,List.length_singleton]
 omega
def Oa:V→List V→Hp→VK→Prop:=fun x vs H Q=>∃l xs y,x=.ref l∧vs=[]∧H l=some (.lst xs)∧xs[xs.length - 1]?=some y∧Q y (upd H l (.lst xs.dropLast))
theorem Hd:MA X "list.pop" Oa:=by
 intro pins s σ H x vs v us Q I rx rv h
 obtain⟨l,xs,y,rfl,rfl,hH,hy,q⟩:=h
 cases rx
 have MB:=rv.zero
 subst MB
 obtain⟨z,ao,n,r,hl,e⟩:=I.x6 hH
 obtain⟨u,hu,ru⟩:=r.get hy
 have Kc:ao.toArray[ao.toArray.size - 1]?=some u:=by
  show ao.toArray[ao.length - 1]?=some u
  rw[← Array.getElem?_toList,← hl]
  exact hu
 refine yB F.slot_list_pop ⟨_,e,rfl⟩ F.entry_list_pop (F.args_list_pop_1 _) (MeetsSeq.list_pop_last l ao.toArray n u Kc (by rw[zu];omega)) ⟨e,?_⟩
 refine⟨y,_,I.D0 (its':=ao.dropLast) hH e ?_ r.dropLast ?_,ru,q⟩
 ·show ao.toArray.eraseIdxIfInBounds (ao.toArray.size - 1)=ao.dropLast.toArray
  rw[zu,List.eraseIdxIfInBounds_toArray,uR]
 ·rw[List.length_dropLast]
  omega
def He:V→List V→Hp→VK→Prop:=fun x vs H Q=>∃l xs i k y,x=.ref l∧vs=[.int i]∧H l=some (.lst xs)∧-(2 ^ 63)≤i∧i<2 ^ 63∧seqIndex? i xs.length=some k∧xs[k]?=some y∧Q y (upd H l (.lst (xs.eraseIdx k)))
theorem Be:MA X "list.pop" He:=by
 intro pins s σ H x vs v us Q I rx rv h
 obtain⟨l,xs,i,k,y,rfl,rfl,hH,h1,h2,hk,hy,q⟩:=h
 cases rx
 obtain⟨u,rfl,ru⟩:=rv.one
 obtain⟨t,rfl⟩:=ru
 obtain⟨z,ao,n,r,hl,e⟩:=I.x6 hH
 obtain⟨w,hw,qf⟩:=r.get hy
 refine yB F.slot_list_pop ⟨_,e,rfl⟩ F.entry_list_pop (F.args_list_pop_2 _ _)
  (MeetsSeq.list_pop_at l ao.toArray n i t k w (fitsIndex_both h1 h2) (by rw[zu,← hl];exact hk) (by rw[← Array.getElem?_toList];exact hw) (by rw[zu];omega)) ⟨e,?_⟩
 refine⟨y,_,I.D0 (its':=ao.eraseIdx k) hH e ?_ (r.eraseIdx k) ?_,qf,q⟩
 ·show ao.toArray.eraseIdxIfInBounds k=(ao.eraseIdx k).toArray
  rw[List.eraseIdxIfInBounds_toArray]
 ·have:=pA xs k
  omega
def Ob:R2:=fun x y H Q=>∃l b xs zs,x=.ref l∧y=.ref b∧H l=some (.lst xs)∧H b=some (.lst zs)∧xs.length+zs.length≤sizeLine∧∀p,H p=none→Q (.ref p) (upd H p (.lst (xs++zs)))
theorem Hf:eX X (binaryOp .Add) Ob:=by
 intro pins s σ H x y v u Q I rx ry h
 obtain⟨l,b,xs,zs,rfl,rfl,hH,hB,hz,q⟩:=h
 cases rx
 cases ry
 obtain⟨z,ao,n,r,hl,e⟩:=I.x6 hH
 obtain⟨z2,mQ,n2,r2,Hg,e2⟩:=I.x6 hB
 refine PySem.P.add_list e e2 ?_ (by rw[zu,zu];omega)
 have ea:ao.toArray++mQ.toArray=(ao++mQ).toArray:=by simp
 rw[ea]
 exact⟨.ref _,_,I.N_ (t':=s.toks) (r.append r2) (by rw[zg];omega),rfl,q _ I.fresh⟩
end
section
variable{prog:Program}{w:World}{A:Around}{E:Value→Shared→Prop}{s:Shared}
end
section
variable{X:Cx}
end
section
variable{κ:Type}[DecidableEq κ]
def jU(kvs:List (κ×V))(k:κ):Option V:=(kvs.find? fun kv=>decide (kv.1=k)).map (·.2)
def putK(kvs:List (κ×V))(k:κ)(v:V):List (κ×V) :=
 if (kvs.any fun kv=>decide (kv.1=k))=true then kvs.map (fun kv=>if kv.1=k then (kv.1,v) else kv) else kvs++[(k,v)]
theorem mS{p:κ×V}{r:List (κ×V)}{k:κ}(e:p.1=k):jU (p::r) k=some p.2:=by simp [jU,yw,e]
theorem mT{p:κ×V}{r:List (κ×V)}{k:κ}(e:¬ p.1=k):jU (p::r) k=jU r k:=by simp [jU,yw,e]
theorem kQ.iQ(r:kQ o u):o.isSome=u.isSome:=by
 cases o with
 |none=>cases u with
  |none=>rfl
  |some _=>exact (show False from r).elim
 |some _=>cases u with
  |none=>exact (show False from r).elim
  |some _=>rfl
theorem kQ.getD{o:Option V}{u:Option Value}{d:V}{d':Value}(r:kQ o u)(rd:RelV d d'):RelV (o.getD d) (u.getD d'):=by
 cases o with
 |none=>cases u with
  |none=>exact rd
  |some _=>exact (show False from r).elim
 |some _=>cases u with
  |none=>exact (show False from r).elim
  |some _=>exact r
theorem KV.val{kvs:List (κ×V)}{vs:List (κ×Value)}(r:KV kvs vs)(k:κ):kQ (jU kvs k) (valueAt vs k):=by
 unfold KV at r
 induction r with
 |nil=>exact True.intro
 |@cons p q ps qs h t ih =>
  obtain⟨h1,h2⟩:=h
  by_cases e:p.1=k
  ·have e':q.1=k:=h1.symm.trans e
   have b:valueAt (q::qs) k=some q.2:=by simp [valueAt,yw,e']
   rw[mS e,b];exact h2
  ·have e':¬ q.1=k:=fun z=>e (h1.trans z)
   have b:valueAt (q::qs) k=valueAt qs k:=by simp [valueAt,yw,e']
   rw[mT e,b];exact ih
theorem KV.any{kvs:List (κ×V)}{vs:List (κ×Value)}(r:KV kvs vs)(k:κ):(kvs.any fun kv=>decide (kv.1=k))=vs.any fun kv=>decide (kv.1=k):=by
 unfold KV at r
 induction r with
 |nil=>rfl
 |cons h t ih=>rw[yC,yC,ih,h.1]
theorem KV.Hh(r:KV kvs vs)(k:κ)(ry:RelV y u) :
  KV (kvs.map fun kv=>if kv.1=k then (kv.1,y) else kv) (vs.map fun kv=>if kv.1=k then (kv.1,u) else kv):=by
 unfold KV at r ⊢
 induction r with
 |nil=>exact .nil
 |@cons p q ps qs h t ih =>
  rw[zz,zz]
  refine .cons ?_ ih
  obtain⟨h1,h2⟩:=h
  by_cases e:p.1=k
  ·rw[if_pos e,if_pos (h1.symm.trans e)];exact⟨h1,ry⟩
  ·rw[if_neg e,if_neg (fun z=>e (h1.trans z))];exact⟨h1,h2⟩
theorem KV.put(r:KV kvs vs)(k:κ)(ry:RelV y u):KV (putK kvs k y) (stored vs k u):=by
 unfold putK stored
 rw[r.any k]
 by_cases e:(vs.any fun kv=>decide (kv.1=k))=true
 ·rw[if_pos e,if_pos e];exact r.Hh k ry
 ·rw[if_neg e,if_neg e];exact Paired.snoc r ⟨rfl,ry⟩
theorem KV.length{kvs:List (κ×V)}{vs:List (κ×Value)}(r:KV kvs vs):kvs.length=vs.length:=Paired.length r
end
theorem pB(r:RelV (kV k) u):(aG P w).is k u=true:=by
 cases k with
 |inl i=>obtain⟨t,e⟩:=(show ∃t,u=Value.int i t from r);subst e;exact rM P w i t
 |inr x=>obtain⟨t,e⟩:=(show ∃t,u=Value.str x t from r);subst e;exact gW P w x t
theorem pC:∀{ks:List Key}{us:List Value},Vals (ks.map kV) us→ItemsAre (aG P w) ks us
 |[],_,r=>by rw[List.map_nil] at r;cases r;exact .nil
 |k::ks,_,r=>by
  rw[zz] at r
  cases r with
  |cons h t=>exact .cons (pB h) (pC t)
abbrev KT(H:Hp):List (List Key×V)→List (List Key×Addr×Value)→Prop:=Paired fun p q=>p.1=q.1∧H q.2.1=some (.tup (p.1.map kV))∧RelV p.2 q.2.2
theorem KT.val{H:Hp}{kvs:List (List Key×V)}{xs:List (List Key×Addr×Value)}(r:KT H kvs xs)(k:List Key):kQ (jU kvs k) ((atKey xs k).map (·.2)):=by
 induction r with
 |nil=>exact True.intro
 |@cons p q ps qs h t ih =>
  obtain⟨h1,_,h2⟩:=h
  by_cases e:p.1=k
  ·have e':q.1=k:=h1.symm.trans e
   have b:atKey (q::qs) k=some q.2:=by simp [atKey,yw,e']
   rw[mS e,b];exact h2
  ·have e':¬ q.1=k:=fun z=>e (h1.trans z)
   have b:atKey (q::qs) k=atKey qs k:=by simp [atKey,yw,e']
   rw[mT e,b];exact ih
section
variable{P:Program}{w:World}{H:Hp}{h:Heap}{a:Addr}
theorem FC(ok:jb P w H h)(e:Rd H a u):bh P w H h a u:=e.ok ok
theorem mU(ok:jb P w H h)(e:Rd H a (.dK kvs)):kvs.length≤sizeLine∧(a == sysModules)=false∧∃vs,KV kvs vs∧h.DictOf (aG P w) a vs :=
 show bh P w H h a (.dK kvs) from FC ok e
theorem qh(ok:jb P w H h)(e:H a=some (.tup (ks.map kV))):(tupleKind (aG P w)).is h ks a:=by
 obtain⟨_,ao,r,o,h1,h2,_,n,h3⟩:=(show bh P w H h a (.tup (ks.map kV)) from ok a _ e)
 exact⟨o,ao.toArray,n,h1,h2,h3,by simpa using pC r⟩
theorem pE(ok:jb P w H h)(e:Rd H a (.dT kvs)):kvs.length≤sizeLine∧(a == sysModules)=false ∧
  ∃xs,KT H kvs xs∧h.DictOfH (tupleKind (aG P w)) a xs:=by
 exact False.elim (show bh P w H h a (.dT kvs) from FC ok e)
end
def mV(H:Hp)(a:Addr)(y:V)(r:Option V):Prop :=
 (∃kvs k,Rd H a (.dK kvs)∧y=kV k∧r=jU kvs k)∨∃kvs k b,Rd H a (.dT kvs)∧y=.ref b∧H b=some (.tup (k.map kV))∧r=jU kvs k
theorem mV.k{H:Hp}{a:Addr}{kvs:List (Key×V)}{k:Key}(e:H a=some (.dK kvs)):mV H a (kV k) (jU kvs k):=.inl ⟨kvs,k,.inl e,rfl,rfl⟩
section
variable{X:Cx}{pins:List (Addr×Obj)}{σ:St}{H:Hp}{s:Shared}{a:Addr}{y v:V}{u r:Value}{o:Option V}{A:Around}{E:Value→Shared→Prop}
theorem Inv.big(I:Inv X pins σ H s):sysModules<s.heap.objs.size:=by
 have h:mainGlobals<s.heap.objs.size:=(I.mod.glob.keeps I.bk).lt
 exact Nat.lt_trans (by decide) h
theorem x9(hu:A.units+1<cLine)(I:Inv X pins σ H s)(g:mV H a y (some v))(ry:RelV y u)(h:∀w' s',Inv X pins σ H s'→RelV v w'→Q w' s') :
  wpAny (model X.prog X.w) A (getItem (.ref a) u) Q E s:=by
 rcases g with ⟨kvs,k,e,ey,l⟩|⟨kvs,k,b,e,ey,eb,l⟩
 ·subst ey
  obtain⟨z,hd,vs,rel,dd⟩:=mU I.aS e
  obtain⟨w',hw,qf⟩:=kQ.some_of (v:=v) (o:=valueAt vs k) (by rw[l];exact rel.val k)
  exact wpAny_getItem_of (pB ry) dd.mapOf hw (h w' _ (I.tok _) qf)
 ·subst ey
  cases (show u=Value.ref b from ry)
  obtain⟨z,hd,xs,rel,dd⟩:=pE I.aS e
  obtain⟨w',hw,qf⟩:=kQ.some_of (v:=v) (o:=(atKey xs k).map (·.2)) (by rw[l];exact rel.val k)
  obtain⟨p,hp,cP⟩:=Option.map_eq_some_iff.mp hw
  refine wpAny_getItem_heap (tupleKind_room_in1 hu) (qh I.aS eb) dd hp ?_
  rw[cP]
  exact h w' _ (I.tok _) qf
theorem Oc(hu:A.units+1<cLine)(I:Inv X pins σ H s)(g:mV H a y o)(ry:RelV y u)(h:∀s',Inv X pins σ H s'→Q (.bool o.isSome) s') :
  wpAny (model X.prog X.w) A (compareOp .In u (.ref a)) Q E s:=by
 rcases g with ⟨kvs,k,e,ey,l⟩|⟨kvs,k,b,e,ey,eb,l⟩
 ·subst ey
  obtain⟨z,hd,vs,rel,dd⟩:=mU I.aS e
  refine wpAny_in_of (pB ry) hd dd.mapOf ?_
  rw[← (rel.val k).iQ,← l]
  exact h _ (I.tok _)
 ·subst ey
  cases (show u=Value.ref b from ry)
  obtain⟨z,hd,xs,rel,dd⟩:=pE I.aS e
  refine wpAny_in_heap (tupleKind_room_in1 hu) (qh I.aS eb) hd dd ?_
  have q:=(rel.val k).iQ
  rw[Option.isSome_map] at q
  rw[← q,← l]
  exact h _ (I.tok _)
theorem D2(hu:A.units+1<cLine)(I:Inv X pins σ H s)(g:mV H a y o)(ry:RelV y u)(h:∀s',Inv X pins σ H s'→Q (.bool (!o.isSome)) s') :
  wpAny (model X.prog X.w) A (compareOp .NotIn u (.ref a)) Q E s:=by
 rcases g with ⟨kvs,k,e,ey,l⟩|⟨kvs,k,b,e,ey,eb,l⟩
 ·subst ey
  obtain⟨z,hd,vs,rel,dd⟩:=mU I.aS e
  refine wpAny_notIn_of (pB ry) hd dd.mapOf ?_
  rw[← (rel.val k).iQ,← l]
  exact h _ (I.tok _)
 ·subst ey
  cases (show u=Value.ref b from ry)
  obtain⟨z,hd,xs,rel,dd⟩:=pE I.aS e
  refine wpAny_notIn_heap (tupleKind_room_in1 hu) (qh I.aS eb) hd dd ?_
  have q:=(rel.val k).iQ
  rw[Option.isSome_map] at q
  rw[← q,← l]
  exact h _ (I.tok _)
end
section
variable{X:Cx}{pins:List (Addr×Obj)}{σ:St}{H:Hp}{s:Shared}{a:Addr}{kvs:List (Key×V)}{k:Key}{u:Value}{A:Around}{E:Value→Shared→Prop}
theorem Ke(I:Inv X pins σ H s)(e:Rd H a (.dK kvs))(h:∀t s',Inv X pins σ H s'→Q (.int kvs.length t) s'):wpAny (model X.prog X.w) A (call (.builtin "len") [.ref a]) Q E s:=by
 obtain⟨z,hd,vs,rel,dd⟩:=mU I.aS e
 refine call_len_dict hd dd (by rw[← rel.length];rw[yn] at z;omega) ?_
 rw[← rel.length]
 exact h _ _ (I.tok _)
end
theorem rZ(I:Inv X pins σ H s)(g:mV H a y o):s.TypeIs (.ref a) "dict" := by
 rcases g with ⟨kvs,k,e,_,_⟩|⟨kvs,k,b,e,_,_,_⟩
 ·obtain⟨_,_,vs,_,dd⟩:=mU I.aS e
  exact dd.typeIs
 ·obtain⟨_,_,xs,_,dd⟩:=pE I.aS e
  exact dd.typeIs
section
variable{X:Cx}{o i e value:Expr}{pos pos' NT:Pos}{td ty tv:TE}
end
section
variable{X:Cx}{pos:Pos}
end
structure M1(X:Cx)(o:Expr)(m:Str)(apos:Pos)(e:Expr)(aO:Pos):Prop where
 base:attributeBase o m X.env (eval o X.env)=eval o X.env
 Bf:((backTo aO (starEach [e] X.env)).all (fun x=>!x.1) && (backToKw aO (keywordEach [] X.env)).all (fun x=>x.1.isSome)
  && decide (([e]:List Expr).length+([]:List Keyword).length+(if ([]:List Keyword).isEmpty then 0 else 1)<30))=true
 line:(apos.endLine == aO.line)=true
 trees:backTo aO (starEach [e] X.env)=[(false,eval e X.env)]
structure M2(X:Cx)(o:Expr)(m:Str)(apos:Pos)(e f:Expr)(aO:Pos):Prop where
 base:attributeBase o m X.env (eval o X.env)=eval o X.env
 Bf:((backTo aO (starEach [e,f] X.env)).all (fun x=>!x.1) && (backToKw aO (keywordEach [] X.env)).all (fun x=>x.1.isSome)
  && decide (([e,f]:List Expr).length+([]:List Keyword).length+(if ([]:List Keyword).isEmpty then 0 else 1)<30))=true
 line:(apos.endLine == aO.line)=true
 trees:backTo aO (starEach [e,f] X.env)=[(false,eval e X.env),(false,eval f X.env)]
def Od(H:Hp)(a:Addr):Prop:=(∃kvs,Rd H a (.dK kvs))∨∃kvs,Rd H a (.dT kvs)
theorem Hi(I:Inv X pins σ H s)(d:Od H a) :
  s.TypeIs (.ref a) "dict" ∧ (∀b,Value.ref a=.ref b→∃ob,s.heap.get? b=some ob∧ob.dict=none)∧(a == sysModules)=false:=by
 rcases d with ⟨kvs,e⟩|⟨kvs,e⟩
 ·obtain⟨_,hd,vs,_,dd⟩:=mU I.aS e
  refine⟨dd.typeIs,fun b q=>?_,hd⟩
  cases q
  obtain⟨ob,_,_,h1,h2,_⟩:=dd
  exact⟨ob,h1,h2.2.1⟩
 ·obtain⟨_,hd,xs,_,dd⟩:=pE I.aS e
  refine⟨dd.typeIs,fun b q=>?_,hd⟩
  cases q
  obtain⟨ob,_,_,h1,h2,_⟩:=dd
  exact⟨ob,h1,h2.2.1⟩
section
variable{X:Cx}{pins:List (Addr×Obj)}{σ:St}{H:Hp}{s:Shared}{a:Addr}{y d:V}{u r:Value}{o:Option V}{A:Around}{E:Value→Shared→Prop}
theorem Hj(hu:A.units+1<cLine)(I:Inv X pins σ H s)(g:mV H a y o)(ry:RelV y u)(h:∀w' s',Inv X pins σ H s'→RelV (o.getD .aK) w'→Q w' s') :
  wpAny (model X.prog X.w) A (call (.builtin "dict.get") [.ref a,u]) Q E s:=by
 rcases g with ⟨kvs,k,e,ey,l⟩|⟨kvs,k,b,e,ey,eb,l⟩
 ·subst ey
  obtain⟨z,hd,vs,rel,dd⟩:=mU I.aS e
  refine call_meetsIn PySem.F.slot_dict_get dd.typeIs PySem.F.entry_dict_get (PySem.F.args_dict_get_2 _ _) (meets_dict_get (aG X.prog X.w) a (pB ry) hd) ⟨_,dd.mapOf,h _ _ (I.tok _) ?_⟩
  rw[l]
  exact (rel.val k).getD rfl
 ·subst ey
  cases (show u=Value.ref b from ry)
  obtain⟨z,hd,xs,rel,dd⟩:=pE I.aS e
  refine call_meetsIn PySem.F.slot_dict_get dd.typeIs PySem.F.entry_dict_get (PySem.F.args_dict_get_2 _ _) (meetsH_dict_get (tupleKind (aG X.prog X.w)) a b hd) ⟨tupleKind_room_in1 hu,k,xs,qh I.aS eb,dd,h _ _ (I.tok _) ?_⟩
  rw[l]
  exact (rel.val k).getD rfl
end
def Hk(td ty:TE):TE:=fun σ H Q=>td σ H fun x H1=>∃a,x=.ref a∧Od H1 a∧ty σ H1 fun y H2=>∃o,mV H2 a y o∧Q (o.getD .aK) H2
section
variable{X:Cx}{o e f:Expr}{apos aO:Pos}{td ty tx:TE}
theorem Bg(hu:X.A.units+1<cLine)(ho:PE X o td)(he:PE X e ty)(m:M1 X o "get" apos e aO):PE X (.Call (.Attribute o "get" apos) [e] [] aO) (Hk td ty):=by
 intro pins s σ H Q I h
 refine wpAny_Call_method m.base m.Bf m.line PySem.F.plainAttrs_dict PySem.F.slot_dict_get PySem.F.type_dict_get (bA (ho pins s σ H _ I h) fun u s1 ⟨x,H1,I1,rx,a,ex,d,q1⟩=>?_)
 subst ex
 obtain rfl:u=Value.ref a:=rx
 obtain⟨t1,t2,_⟩:=Hi I1 d
 refine⟨t1,t2,?_⟩
 rw[m.trees]
 refine Calls.callWith_builtin rfl (Calls.evalArgs_plain (ye (bA (he pins s1 σ H1 _ I1 q1) fun iv s2 ⟨y,H2,I2,ry,ov,g,q2⟩=>Calls.spliced_nil ?_)))
 exact Hj hu I2 g ry fun w' s3 I3 qf=>⟨_,H2,I3,qf,q2⟩
end
section
variable{X:Cx}{pins:List (Addr×Obj)}{σ:St}{H:Hp}{s:Shared}{a:Addr}{kvs:List (Key×V)}{A:Around}{E:Value→Shared→Prop}
end
section
variable{X:Cx}{pins:List (Addr×Obj)}{σ:St}{H:Hp}{s:Shared}{a:Addr}{y:V}{u:Value}{A:Around}{E:Value→Shared→Prop}
end
end L2
namespace Att
open PySem PySem.W PySem.Calls PyProof.Rows
theorem l_:∀(ns:List Int) (vs:List Value),WellAll P h vs (ns.map WData.int)→IntsAre vs ns:=by
 intro ns
 induction ns with
 |nil =>
  intro vs w
  rw[List.map_nil] at w
  cases w
  exact .nil
 |cons n ns ih =>
  intro vs w
  rw[zz] at w
  cases w with
  |cons a b =>
   cases a
   exact .cons _ _ (ih _ b)
theorem x_{l:OpenLaw}{n:Nat}(hn:l.most=some n){P:Params}{h:Heap}{args:List WData}{vals:List Value}
  (D3:l.row.toRowW.claim.pre args=true) (Hl:WellAll P h vals args) :
  ∃a vs ns,vals=[Value.ref a]∧args=[WData.list (ns.map WData.int)]∧h.get? a=some { cls:=.type "list",data:=.seq vs.toArray }∧IntsAre vs ns∧ns.length≤n:=by
 have Sn:WShape.hasAll [] args [.list .int]=true:=(pre_splitW D3).1
 have hc:l.pre.holds [] { args:=args }=true:=(pre_splitW D3).2
 obtain⟨d,r,rfl,h1,h2⟩:=hasAllW_cons Sn
 obtain rfl:=hasAllW_nil h2
 obtain⟨xs,rfl,h3⟩:=hasW_list h1
 obtain⟨ns,rfl⟩:=items_int h3
 have hlen:ns.length≤n:=by
  unfold OpenLaw.pre at hc
  have h4:(WTm.not (.lt (.lit (.int (n:Int))) (.len (.arg 0)))).holds [] { args:=[.list (ns.map .int)] }=true:=by
   have h4:=(holds_andW hc).1
   rw[hn] at h4
   exact h4
  have h5:=condW_of h4 (w_not (w_lt w_lit (w_len_list (w_arg rfl))))
  rw[za] at h5
  refine Nat.le_of_not_lt fun q=>?_
  have q':(n:Int)<((ns.length:Nat):Int):=by omega
  first
   | (rw[zr q'] at h5;exact absurd h5 (by decide))
   | (simp at h5;omega)
 cases Hl with
 |cons w1 w2 =>
  cases w2
  cases w1 with
  |list ho Oe=>exact⟨_,_,ns,rfl,rfl,ho,l_ ns _ Oe,hlen⟩
theorem yF(l:OpenLaw)(args:List WData):l.row.toRowW.claim.post args (.bool true) args=true :=
 postW_of (r:=l.row.toRowW) (X:=(true == true))
  (show WShape.has [] (.bool true) .bool=true by first|rfl|decide|simp [WShape.has,WShape.arms,WShape.armsAll])
  (show (WTm.eq .res (.lit (.bool true))).value [] { args:=args,res:=some (.bool true),after:=args }=some (.bool (true == true)) from w_eq_bool (w_res rfl) w_lit) rfl
theorem r9{l:OpenLaw}{n:Nat}{q:Program}{loose:List Str}{XP:(Str→Option Value)→Heap→Prop}{YP:World→Heap→Prop}{d:DefRec}
  (hn:l.most=some n) (Of:d.params.defaults=[])
  (call:∀(w:World) (cH s₁:Shared) (mg mb:Str→Option Value) (fa:Addr) (o:Obj) (pm cd doc:Value) (a:Addr) (vs:List Value) (ns:List Int),
   Ground q loose [] XP w cH mg mb s₁.heap→YP w s₁.heap →
   s₁.heap.get? fa=some o→o.data=.func (docDef d.name d.params d.body d.scope pm cd doc)→s₁.heap.CodeRec cd d.name→mg d.name=some (.ref fa) →
   s₁.heap.get? a=some { cls:=.type "list",data:=.seq vs.toArray }→IntsAre vs ns→ns.length≤n→s₁.gens=#[] →
   codeAny (model l.prog w) callerA (.call (.ref fa) ⟨[.ref a],[]⟩) (fun r s'=>r=.ok (.ret (.bool true))∧OldK s₁.heap s'.heap∧s'.os=s₁.os∧AllBare s'.gens) s₁) :
  WalkO q loose XP YP l.row.toRowW d [] (fun f vs=>PySem.call f vs):=by
 intro w cH s₁ mg mb G Y fa o pm cd doc dV kV ho hd Dj hD Hm hg args vals as D3 So VE Hl VF
 obtain rfl:dV=.none:=Dflts.none hD Of
 obtain rfl:kV=.none:=Dflts.noKw hD
 obtain⟨a,vs,ns,rfl,rfl,Hn,hints,hlen⟩:=x_ hn D3 Hl
 refine enter_call (codeAny_mono (call w cH s₁ mg mb fa o pm cd doc a vs ns G Y ho (fd_plain hd) Dj Hm Hn hints hlen hg) fun r s' hq=>?_)
 obtain⟨rfl,h2,h3,h4⟩:=hq
 exact⟨.inl ⟨.bool true,.bool true,[],rfl,fun _=>rfl,.bool true,yF l _,fun _=>⟨List.Pairwise.nil,fun _ hm=>(nomatch hm)⟩⟩,h2,h3,h4⟩
section
variable{prog:Program}{w:World}{A:Around}{E:Value→Shared→Prop}{s:Shared}{K:Frag}
end
end Att
namespace L2
open PySem PySem.Spec PyProof.Rows
theorem pF:∀{vs:List Value}{ns:List Int},IntsAre vs ns→Vals (ns.map V.int) vs
 |_,_,.nil=>.nil
 |_,_,.cons n t h=>.cons ⟨t,rfl⟩ (pF h)
def iR(s:Stmt):Arguments:=match s with
 |.FunctionDef _ a _ _ _ _ _ _ _ _=>a
 |_=>{ posonlyargs:=[],args:=[],vararg:=none,kwonlyargs:=[],kw_defaults:=[],kwarg:=none,defaults:=[] }
def ee(s:Stmt):List Stmt:=match s with
 |.FunctionDef _ _ b _ _ _ _ _ _ _=>b
 |_=>[]
def ae(s:Stmt):Scope:=match s with
 |.FunctionDef _ _ _ _ _ _ sc _ _ _=>sc
 |_=>{ kind:=.function,names:=[],isGenerator:=false,isCoroutine:=false }
abbrev MC:uN:=fun _ _ _ _ _ _=>False
abbrev E0:XK:=fun _ _ _=>False
structure VG(K:Frag)(x qual:Str)(st:Stmt)(f:Addr)(fd:FuncData):Prop where
 ex:∃(oc:Value) (od:Option Addr) (kV doc pm:Value) (an:Option Addr) (dh ct:Value) (Jc:Array (Option Value)),
  fd=fnOf x qual (iR st) (ee st) (ae st) .none kV doc pm an dh ct∧K.lookup f=some ⟨oc,od,.func fd,Jc⟩∧codeIn K dh qual=true
 kp:keepIn K (.ref f)=true
section
variable{P:Program}{w:World}{K:Frag}{mg:Str→Option Value}{base:Heap}
end
section
variable{X:Cx}
theorem yG:dY X (.builtin "len") (fun xs H Q=>∃a kvs,xs=[V.ref a]∧H a=some (.dK kvs)∧Q (.int kvs.length) H):=by
 intro pins s σ H xs us Q I r h
 obtain⟨a,kvs,rfl,ha,q⟩:=h
 obtain⟨u,rfl,ru⟩:=vals1 r
 cases ru
 exact Ke I (.inl ha) fun t s' I'=>⟨.int kvs.length,H,I',⟨t,rfl⟩,q⟩
end
theorem aM{A B:Prop}(h:B):if false=true then A else B:=by
 rw[if_neg zk]
 exact h
theorem bf{A B:Prop}(h:A):if true=true then A else B:=by
 rw[if_pos rfl]
 exact h
section
variable{κ:Type}[DecidableEq κ]
end
end L2
set_option maxHeartbeats 4000000
namespace L2
open PySem PySem.Spec PyProof.Rows
section
variable{X:Cx}
def om(i j:Str):Bool:=!decide (j.cps.toList<i.cps.toList)
def Og(i j:Str):Bool:=decide (i.cps.toList<j.cps.toList)
def Oh(g:Str→Str→Bool):R2:=fun x y H Q=>∃i j,x=.str i∧y=.str j∧Q (.bl (g i j)) H
theorem yH:eX X (compareOp .LtE) (Oh om):=by
 intro pins s σ H x y v u Q I rx ry h
 obtain⟨i,j,rfl,rfl,q⟩:=h
 obtain⟨t,rfl⟩:=rx
 obtain⟨t',rfl⟩:=ry
 exact P.le_str (aA I q rfl)
theorem yI:eX X (compareOp .GtE) (Oh fun i j=>om j i):=by
 intro pins s σ H x y v u Q I rx ry h
 obtain⟨i,j,rfl,rfl,q⟩:=h
 obtain⟨t,rfl⟩:=rx
 obtain⟨t',rfl⟩:=ry
 exact P.ge_str (aA I q rfl)
theorem yJ:eX X (compareOp .Gt) (Oh fun i j=>Og j i):=by
 intro pins s σ H x y v u Q I rx ry h
 obtain⟨i,j,rfl,rfl,q⟩:=h
 obtain⟨t,rfl⟩:=rx
 obtain⟨t',rfl⟩:=ry
 exact P.gt_str (aA I q rfl)
def FD(_ j:Int):Prop:=0<j∧j.natAbs.log2<9000
theorem Bh:eX X (binaryOp .FloorDiv) (rI FD fun i j=>.int (i / j)):=Mv fun i j _ _ _ _ _ hc q=>by
 have hj:j≠0:=by have:=hc.1;omega
 exact floordiv_int hj (by rw[Int.fdiv_eq_ediv_of_nonneg _ (by have:=hc.1;omega)];exact q) (.inl (PyProof.noPylong_of_log2 hc.2))
end
def Oi(x:Str):It:=⟨fun i _=>i<x.cps.size,fun i H v H'=>H'=H∧∃c,x.cps[i]?=some c∧v=.str ⟨#[c]⟩,fun i _=>x.cps.size≤i⟩
theorem r_{P:Program}{w:World}{K:Frag}{tg:Expr}{T:String}(hT:["enumerate","zip","dict_itemiterator","dict_reverseitemiterator","odict_iterator","itertools.zip_longest","itertools.pairwise"].contains T=false)(it:Addr)(x:Str)(t:Tok)
  (W:∀A':Around,A'.handled=none→Walks P w A' it [it] [it] x.cps.size (SignAt x) (fun i h=>h.IsStrIter it T x t i))
  (Oj:∀(A:Around) (s:Shared) (E:Value→Shared→Prop) (i:Nat) (Q:Option Value→Shared→Prop),A.handled=none→s.heap.IsStrIter it T x t i→x.cps[i]?=none→(∀h',Heap.ExtBut it s.heap h'→Q none { s with heap:=h' })→wpAny (model P w) A (pyNext (.ref it)) Q E s)
  (Kf:∀(A:Around) (s:Shared) (E:Value→Shared→Prop) (i:Nat) (Q:Value→Shared→Prop),s.heap.IsStrIter it T x t i→Q (.ref it) s→wpAny (model P w) A (pyIter (.ref it)) Q E s) :
  Turn P w K tg (Oi x) [it] it (fun i h=>h.IsStrIter it T x t i) where
 mem:=by simp
 obj:=fun i h st b hb=>by
  have e:b=it:=by simpa using hb
  subst e
  obtain⟨o,e,c,d⟩:=st
  exact⟨o,e,fun v z=>by rw[d] at z;cases z⟩
 keep:=fun i h h' st k=>by
  obtain⟨o,e,c,d⟩:=st
  exact⟨o,k it (by simp) o e,c,d⟩
 item:=by
  intro X hP hw hK hc i pins s σ H E I hf st hg
  subst hP hw hK
  obtain⟨f0,f1,f2,f3,f4,f5⟩:=hf it (by simp)
  refine (W X.A (I.ok.hd hc)).item i s _ _ hg st fun v h' tk hv iP kk=>?_
  obtain⟨c,u,Kg,rfl⟩:=hv
  have I1:Inv X pins σ H { s with heap:=h',toks:=tk }:=I.turned (fun b o hb e=>kk b o (by simpa using hb) e) f0 f1 f3 f4 f5
  obtain⟨o,e,c',d⟩:=id iP
  exact⟨_,rfl,wo (s:={ s with heap:=h',toks:=tk }) e c' d hT ⟨.str ⟨#[c]⟩,H,I1,⟨u,rfl⟩,⟨rfl,c,Kg,rfl⟩,iP,fun b hb=>(hf b hb).1⟩⟩
 done:=by
  intro X hP hw hK hc i pins s σ H E I hf st hg
  subst hP hw hK
  obtain⟨f0,f1,f2,f3,f4,f5⟩:=hf it (by simp)
  have hg:x.cps.size≤i:=hg
  exact Oj X.A s E i _ (I.ok.hd hc) st (by simp;exact hg) fun h' eb=>⟨rfl,I.turned (t':=s.toks) (fun b o hb e=>eb b o hb e) f0 f1 f3 f4 f5⟩
 self:=fun A' i s Q E st h=>Kf A' s E i Q st h
section
variable{X:Cx}{tg:Expr}
def Ol(tl:TE):TI:=fun σ H R=>tl σ H fun x H1=>∃z,x=.str z∧R (Oi z) H1
theorem Ho(hl:PE X l tl):PI X tg l (Ol tl):=by
 intro pins s σ H R I h
 refine bA (hl pins s σ H _ I h) fun v s1 ⟨x,H1,I1,r1,q1⟩=>?_
 obtain⟨z,e,q⟩:=q1
 subst e
 obtain⟨t,rfl⟩:=r1
 have fin:∀(T:String) (_:Turn X.prog X.w X.K tg (Oi z) [s1.heap.objs.size] s1.heap.objs.size (fun i h=>h.IsStrIter s1.heap.objs.size T z t i)),
   NJ X pins σ tg R (.ref s1.heap.objs.size) { s1 with heap:=s1.heap.push { cls:=.type T,data:=.fields #[.str z t,.int 0 0] } }:=fun T tn=>by
  refine⟨s1.heap.objs.size,[s1.heap.objs.size],_,_,H1,rfl,I1.kept (t':=s1.toks) fun b o e=>zt _ e,tn,⟨_,zU _ rfl,rfl,rfl⟩,fun b hb=>?_,q⟩
  have e:b=s1.heap.objs.size:=by simpa using hb
  subst e
  exact I1.rQ (zi _) (I1.aS.fresh (zi _))
 cases ha:z.cps.all (·<128)
 ·exact wpAny_pyIter_wide ha (fin _ (r_ (by decide) _ z t (fun A' hA=>Walks.strWide hA _ z t) (fun A s E i Q hh st hx hQ=>wpAny_pyNext_wide_end hh st hx hQ) (fun A s E i Q st hq=>wpAny_pyIter_striter_wide st hq)))
 ·exact wpAny_pyIter_ascii ha (fin _ (r_ (by decide) _ z t (fun A' hA=>Walks.strAscii hA _ z t) (fun A s E i Q hh st hx hQ=>wpAny_pyNext_ascii_end hh st hx hQ) (fun A s E i Q st hq=>wpAny_pyIter_striter_ascii st hq)))
end
def clOf(cells:List (Str×Addr))(names:List (Str×NameKind)):List (Str×Addr) :=
 names.foldl (fun cs p=>if p.2 == .free then match cells.lookup p.1 with|some a=>(p.1,a)::cs|none=>cs else cs) []
theorem sd(cells:List (Str×Addr)):∀(names:List (Str×NameKind)) (cs:List (Str×Addr)),(∀x c,cs.lookup x=some c→cells.lookup x=some c) →
  ∀x c,(names.foldl (fun cs p=>if p.2 == .free then match cells.lookup p.1 with|some a=>(p.1,a)::cs|none=>cs else cs) cs).lookup x=some c→cells.lookup x=some c
 |[],cs,h=>h
 | (n,k)::r,cs,h=>by
  rw[List.foldl_cons]
  refine sd cells r _ fun x c e=>?_
  dsimp only at e
  split at e
  ·split at e
   ·rename_i a ha
    rw[zQ] at e
    split at e
    ·rename_i hx
     have:=LawfulBEq.eq_of_beq hx
     cases e
     rw[this]
     exact ha
    ·exact h x c e
   ·exact h x c e
  ·exact h x c e
theorem pG(cells:List (Str×Addr)):∀(names:List (Str×NameKind)) (cs:List (Str×Addr)) (x:Str) (c:Addr),(∀y c,cs.lookup y=some c→cells.lookup y=some c)→cs.lookup x=some c →
  (names.foldl (fun cs p=>if p.2 == .free then match cells.lookup p.1 with|some a=>(p.1,a)::cs|none=>cs else cs) cs).lookup x=some c
 |[],cs,x,c,_,h=>h
 | (n,k)::r,cs,x,c,hs,h=>by
  rw[List.foldl_cons]
  have MD:∀y c,(if (k == NameKind.free)=true then match cells.lookup n with|some a=>(n,a)::cs|none=>cs else cs).lookup y=some c→cells.lookup y=some c:=by
   intro y c e
   split at e
   ·split at e
    ·rename_i a ha
     rw[zQ] at e
     split at e
     ·rename_i hx
      have:=LawfulBEq.eq_of_beq hx
      cases e
      rw[this]
      exact ha
     ·exact hs y c e
    ·exact hs y c e
   ·exact hs y c e
  refine pG cells r _ x c MD ?_
  dsimp only
  split
  ·split
   ·rename_i a ha
    rw[zQ]
    split
    ·rename_i hx
     have:=LawfulBEq.eq_of_beq hx
     rw[this] at h
     have:=hs _ _ h
     rw[ha] at this
     exact this
    ·exact h
   ·exact h
  ·exact h
theorem mW(cells:List (Str×Addr)):∀(names:List (Str×NameKind)) (cs:List (Str×Addr)) (x:Str) (c:Addr),(∀y c,cs.lookup y=some c→cells.lookup y=some c)→(x,NameKind.free)∈names→cells.lookup x=some c →
  (names.foldl (fun cs p=>if p.2 == .free then match cells.lookup p.1 with|some a=>(p.1,a)::cs|none=>cs else cs) cs).lookup x=some c
 |[],cs,x,c,_,h,_=>nomatch h
 | (n,k)::r,cs,x,c,hs,h,hc=>by
  rw[List.foldl_cons]
  have MD:∀y c,(if (k == NameKind.free)=true then match cells.lookup n with|some a=>(n,a)::cs|none=>cs else cs).lookup y=some c→cells.lookup y=some c:=by
   intro y c e
   split at e
   ·split at e
    ·rename_i a ha
     rw[zQ] at e
     split at e
     ·rename_i hx
      have:=LawfulBEq.eq_of_beq hx
      cases e
      rw[this]
      exact ha
     ·exact hs y c e
    ·exact hs y c e
   ·exact hs y c e
  rcases zc.mp h with e|h
  ·cases e
   refine pG cells r _ _ c MD ?_
   dsimp only
   rw[if_pos (show (NameKind.free == NameKind.free)=true by decide),hc]
   simp [zQ]
  ·exact mW cells r _ x c MD h hc
theorem oC{scope:Scope}{env:Env}(h:∀x∈scope.names,x.2=.free→∃c,env.cells.lookup x.1=some c):closureFor scope env=pure (clOf env.cells scope.names):=by
 have go:∀(names:List (Str×NameKind)) (cs:List (Str×Addr)),(∀x∈names,x.2=.free→∃c,env.cells.lookup x.1=some c) →
   (forIn names cs fun x r=>match x with|(name,kind)=>if (kind == NameKind.free)=true then do let a ← cellOf env name;pure (ForInStep.yield ((name,a)::r)) else pure (ForInStep.yield r):Sem (List (Str×Addr))) =
    pure (names.foldl (fun cs p=>if p.2 == .free then match env.cells.lookup p.1 with|some a=>(p.1,a)::cs|none=>cs else cs) cs):=by
  intro names
  induction names with
  |nil=>intro cs _;rfl
  |cons p r ih =>
   intro cs hp
   obtain⟨n,k⟩:=p
   rw[List.forIn_cons,List.foldl_cons]
   by_cases hk:k=.free
   ·subst hk
    obtain⟨c,hc⟩:=hp _ zf rfl
    have hc:env.cells.lookup n=some c:=hc
    have e1:cellOf env n=pure c:=by unfold cellOf;rw[hc]
    have ef:(NameKind.free == NameKind.free)=true:=by decide
    dsimp only
    rw[if_pos ef,if_pos ef,e1,hc]
    exact ih _ fun x hx=>hp x (zd _ hx)
   ·have Kh:(k == NameKind.free)=false:=by simpa using hk
    dsimp only
    rw[Kh,if_neg zk,if_neg zk]
    exact ih _ fun x hx=>hp x (zd _ hx)
 have e:=go scope.names [] h
 have e2:closureFor scope env=(forIn scope.names [] (fun x r=>match x with|(name,kind)=>if (kind == NameKind.free)=true then do let a ← cellOf env name;pure (ForInStep.yield ((name,a)::r)) else pure (ForInStep.yield r)):Sem (List (Str×Addr))) >>= fun cs=>pure cs:=rfl
 rw[e2,e]
 rfl
theorem gZ{env:Env}{names:List (Str×NameKind)}{x:Str} :
  (names.map fun (n,k)=>if (k == NameKind.free && env.scope.kind == .function && env.kindOf n == some .cell) then (n,NameKind.cell) else (n,k)).lookup x =
   (names.lookup x).map fun k=>if (k == NameKind.free && env.scope.kind == .function && env.kindOf x == some .cell) then NameKind.cell else k:=by
 induction names with
 |nil=>rfl
 |cons p r ih =>
  obtain⟨n,k⟩:=p
  rw[zz,zQ]
  by_cases hc:(k == NameKind.free && env.scope.kind == .function && env.kindOf n == some .cell)=true
  ·dsimp only
   rw[if_pos hc,zQ]
   cases hx:x == n with
   |true =>
    have:=LawfulBEq.eq_of_beq hx
    subst this
    dsimp only [Option.map]
    rw[if_pos hc]
   |false=>exact ih
  ·dsimp only
   rw[if_neg hc,zQ]
   cases hx:x == n with
   |true =>
    have:=LawfulBEq.eq_of_beq hx
    subst this
    dsimp only [Option.map]
    rw[if_neg hc]
   |false=>exact ih
def jd(X:Cx)(N:List Str)(scope:Scope)(C:Addr)(s:Shared)(H:Hp)(ex:List Addr)(pn:List (Addr×Obj)):Cx :=
 { X with N:=N,cH:=s,rO:=H,env:=compEnvC scope (clOf X.env.cells scope.names) C X.env,outer:=X.stack,ex:=ex,fn:=fun _=>false,pn:=pn,xe:=fun _ _=>False }
def pick(σ:St)(src:List (Option Nat)):St:=src.map fun o=>match o with|some j=>(σ[j]?).join|none=>none
structure iS(X:Cx)(N:List Str)(src:List (Option Nat))(scope:Scope):Prop where
 kind:scope.kind=.function
 uS:∀y∈scope.names,y.2≠.cell
 loc:∀y∈scope.names,y.2=.local→scope.names.lookup y.1=some .local
 ME:∀y∈scope.names,y.2=.free→X.env.kindOf y.1=some .cell∨X.env.kindOf y.1=some .free
 len:src.length=N.length
 src:∀(i j:Nat) (x:Str),src[i]?=some (some j)→N[i]?=some x→X.N[j]?=some x∧scope.names.lookup x=some .free∧IZ X.env.scope x
def Ext(σ aw:St):Prop:=aw.length=σ.length∧∀(j:Nat) v,σ[j]?=some (some v)→aw[j]?=some (some v)
def Bi(g:TG)(src:List (Option Nat)):Prop:=∀x σ H Q,g x (pick σ src) H Q→g x (pick σ src) H fun aw H'=>Ext (pick σ src) aw∧Q aw H'
def FE(wi:TI)(src:List (Option Nat))(g:TG)(tc:TT)(te:TE):TE:=fun σ H Q=>wi σ H fun J H1 =>
 ∃W:Nat→Nat→List V→Hp→Prop,(∃m,W 0 m [] H1)∧∀i m out H',W i m out H' →
  (J.stop i H'∧∀D,H' D=none→Q (.ref D) (upd H' D (.lst out))) ∨
  (J.go i H'∧out.length<sizeLine∧∀x H2,J.JJ i H' x H2→g x (pick σ src) H2 fun iO H3=>tc iO H3 fun b H4 =>
   if b=true then te iO H4 fun v H5=>∃m',m'<m∧W (i+1) m' (out++[v]) H5 else ∃m',m'<m∧W (i+1) m' out H4)
section
variable{X:Cx}{N:List Str}{src:List (Option Nat)}{scope:Scope}{tg iter elt:Expr}{ifs:List Expr}{pos:Pos}{wi:TI}{g:TG}{tc:TT}{te:TE}
def MF(X:Cx)(ifs:List Expr)(t:TT):Prop :=
 ∀(pins:List (Addr×Obj)) (s:Shared) (σ:St) (H:Hp) (Q:Bool→Hp→Prop),Inv X pins σ H s→t σ H Q →
  wpAny (model X.prog X.w) X.A (forIn ifs true fun c r=>if r=true then do let ok ← isTrue c X.env (eval c X.env);pure (ForInStep.yield ok) else pure (ForInStep.yield r)) (TP X pins σ Q) X.xe s
def Ki:TT:=fun _ H Q=>Q true H
theorem D4:MF X [] Ki:=fun pins s σ H Q I h=>wpAny_tests_nil ⟨H,I,h⟩
theorem i8(Je:∀x s',EE x s'→notedBy (model prog w) A env (fun e s'=>R (.error e) s') x s')(I:Nat→Shared→Prop)
  (turn:∀n s,I n s→wpAny (model prog w) A (pyNext it) (fun r s₁=>match r with
   |none=>R (.ok .next) s₁
   |some v=>wpAny (model prog w) A (letOwnedTupleGo target it v) (fun _ FF=>wpAny (model prog w) A (assign target env v) (fun _ bF =>
     wpAny (model prog w) A (forIn ifs true fun c r=>if r=true then do let ok ← isTrue c env (eval c env);pure (ForInStep.yield ok) else pure (ForInStep.yield r)) (fun ok uI =>
      if ok=true then wpAny (model prog w) A (eval elt env) (fun x sf =>
       wpAny (model prog w) A (call (.builtin "list.append") [acc,x]) (fun _ Kj=>∃m,m<n∧I m Kj) EE sf) EE uI
      else ∃m,m<n∧I m uI) EE bF) EE FF) EE s₁) EE s)
  (n:Nat) (h:I n s) :
  codeAny (model prog w) A (.compLoop (.ListComp elt [⟨target,iter,ifs,0⟩] scope pos) 0 it acc env) R s:=by
 refine codeAny_loop rfl I (fun n s hI=>?_) n h
 show wpAny _ A ((compTurn (.ListComp elt [⟨target,iter,ifs,0⟩] scope pos) 0 it acc env).onRaise (fun x=>do noteFrame x env;theTreesLotGoes x)) _ _ s
 refine wpAny_noted ?_
 rw[compTurn_list]
 refine zp (wpAny_standAt (zp (yk (turn n s hI) (fun r s₁ uT=>?_) Je)))
 cases r with
 |none=>exact zB uT
 |some v =>
  refine zp (yk uT (fun _ FF Kk=>?_) Je)
  refine zp (yk Kk (fun _ bF Om=>zp (yk Om (fun ok uI Kl=>?_) Je)) Je)
  cases ok with
  |false=>exact zB ⟨rfl,Kl⟩
  |true =>
   exact zp (zp (yk Kl (fun x sf Oo=>zp (yk Oo (fun _ Kj Oq=>zB (zB ⟨rfl,Oq⟩)) Je)) Je))
def CompEnd(X:Cx)(pins:List (Addr×Obj))(σ:St)(Q:VK)(D C:Addr)(s':Shared):Prop :=
 ∃H' m,Inv X pins σ H' s'∧Q (.ref D) H'∧s'.heap.Ns C m∧H' C=none∧C≠X.env.locals∧X.cH.heap.objs.size≤C∧(∀x c,X.env.cells.lookup x=some c→c≠C)∧(∀p∈X.pn++pins,p.1≠C)
theorem yK{pins:List (Addr×Obj)}{bF:Shared}{σ:St}{gN:Hp}{Q:VK}{it:Addr}{fp:List Addr}{tn:Nat→Heap→Prop}{J:It}{E:Value→Shared→Prop}(S:iS X N src scope)(hc:X.calm=true)
  (hg:∀C s H ex pn,PG (jd X N scope C s H ex pn) tg g) (hx:Bi g src) (hi:∀C s H ex pn,MF (jd X N scope C s H ex pn) ifs tc) (he:∀C s H ex pn,PE (jd X N scope C s H ex pn) elt te)
  (I:Inv X pins σ gN bF) (T:Turn X.prog X.w X.K tg J fp it tn) (st:tn 0 bF.heap) (ff:∀b∈fp,rP X pins gN b)
  (W:Nat→Nat→List V→Hp→Prop) (w0:∃m,W 0 m [] gN)
  (turn:∀i m out H',W i m out H'→(J.stop i H'∧∀D,H' D=none→Q (.ref D) (upd H' D (.lst out))) ∨
   (J.go i H'∧out.length<sizeLine∧∀x H2,J.JJ i H' x H2→g x (pick σ src) H2 fun iO H3=>tc iO H3 fun b H4 =>
    if b=true then te iO H4 fun v H5=>∃m',m'<m∧W (i+1) m' (out++[v]) H5 else ∃m',m'<m∧W (i+1) m' out H4))
  {RR:Value→Addr→Result→Shared→Prop} (Sq:∀D C s',CompEnd X pins σ Q D C s'→RR (.ref D) C (.ok .next) s') :
  wpAny (model X.prog X.w) X.A (newList []) (fun acc uI=>wpAny (model X.prog X.w) X.A (newFunctionEnv scope X.env.globals (clOf X.env.cells scope.names) [] X.env.qual none .none (some X.env)) (fun Km sf =>
   codeAny (model X.prog X.w) X.A (.compStart (.ListComp elt [⟨tg,iter,ifs,0⟩] scope pos) 0 (.ref it) acc { Km with scope:=relabel scope X.env }) (RR acc Km.locals) sf) E uI) E bF:=by
 refine wpAny_newObj_type (wpAny_newFunctionEnv S.uS (by intro y hy;simp at hy) (fun uT qi mX=>?_) S.kind)
 dsimp only at qi mX ⊢
 generalize Ot:bF.heap.push { cls:=.type "list",dict:=none,data:=.seq ([]:List Value).toArray }=G2 at qi mX ⊢
 have hC:G2.objs.size=bF.heap.objs.size+1:=by rw[← Ot,Heap.size_push]
 have Jf:bF.heap.objs.size≠G2.objs.size:=by rw[hC];exact zK (Nat.lt_succ_self _)
 have D5:bF.heap.objs.size≤G2.objs.size:=by rw[hC];exact Nat.le_succ _
 have old:∀b o,bF.heap.get? b=some o→uT.get? b=some o:=fun b o e =>
  mX.extBut b o (zK (zo (zA e) D5)) (zt _ (Ot ▸ zt _ e))
 have Kn:uT.get? bF.heap.objs.size=some { cls:=.type "list",dict:=none,data:=.seq ([]:List Value).toArray }:=mX.extBut _ _ Jf (zt _ (Ot ▸ zU _ rfl))
 generalize VH:G2.objs.size=C at hC Jf D5 qi mX ⊢
 have jV:bF.heap.objs.size≤C:=D5
 generalize hD:bF.heap.objs.size=D at hC Jf D5 Kn ⊢
 have mY:∀x c,(clOf X.env.cells scope.names).lookup x=some c→X.env.cells.lookup x=some c:=sd X.env.cells scope.names [] (by intro x c h;simp at h)
 have Bj:∀x c,X.env.cells.lookup x=some c→c<bF.heap.objs.size:=fun x c e=>by obtain⟨v,q⟩:=I.cell x c e;exact q.lt
 have Hq:∀b∈fp,b<bF.heap.objs.size:=fun b hb=>by
  obtain⟨o,e,_⟩:=T.obj _ _ st b hb
  exact zA e
 -- the block's context
 have ok:(jd X N scope C bF gN fp (X.pn++pins)).Ok:=by
  refine⟨I.ok.mod,S.kind,I.ok.glob,I.ok.blt,jV,fun x y c h1 h2=>I.ok.inj x y c (mY _ _ h1) (mY _ _ h2),fun x hk=>?_,fun x c h=>(nomatch h),I.ok.hd,I.ok.frames,.inl rfl,fun b hb=>⟨?_,fun x c h=>?_⟩,
   I.bs,zG I.ok.AV I.sz,fun b o e hb=>?_,fun b hb hf=>?_,I.stack,I.qa⟩
  ·-- cells for the names
   have hk:(relabel scope X.env).names.lookup x=some .cell∨(relabel scope X.env).names.lookup x=some .free:=hk
   unfold relabel at hk
   dsimp only at hk
   rw[gZ] at hk
   cases hl:scope.names.lookup x with
   |none=>rw[hl] at hk;rcases hk with z|z <;> cases z
   |some k =>
    rw[hl] at hk
    have hm:=yr hl
    have Ko:k=.free:=by
     by_cases Ko:k=.free
     ·exact Ko
     ·exfalso
      have e1:(k == NameKind.free)=false:=by simpa using Ko
      simp only [Option.map,e1,zl,Bool.false_eq_true,if_false] at hk
      rcases hk with z|z
      ·exact S.uS _ hm (zO z)
      ·exact Ko (zO z)
    subst Ko
    obtain⟨c,Kg⟩:=I.ok.has x (S.ME _ hm rfl)
    exact⟨c,mW X.env.cells scope.names [] x c (by intro x c h;simp at h) hm Kg⟩
  ·exact zK (zo (Hq b hb) jV)
  ·exact (ff b hb).2.2.2.2.1 x c (mY _ _ h)
  ·have q:b∈X.ex∨X.cH.heap.objs.size≤b:=(ff b hb).2.2.2.1
   rcases q with q|q
   ·exact I.ok.uF b o e q
   ·exact absurd (zo (zA e) (zG I.ok.AV q)) (yA _)
  ·rcases zc.mp (I.kT b hf) with z|z
   ·exact (ff b hb).2.1 z
   ·exact (ff b hb).2.2.1 z
 have Kq:∀p∈X.pn++pins,p.1∉jO X.stack:=fun p hp z=>by
  obtain⟨_,_,ne,nf,_⟩:=I.pin p hp
  rcases zc.mp (I.kT _ z) with q|q
  ·exact ne q
  ·exact nf q
 have Bk:∀p∈X.pn++pins,p.1<bF.heap.objs.size:=fun p hp=>zA (I.pin p hp).1
 have Kr:∀b∈jO X.stack,b<bF.heap.objs.size:=fun b hb=>by
  rcases zc.mp (I.kT b hb) with z|z
  ·rw[z];exact I.lt
  ·obtain⟨_,o,ho,_⟩:=I.ok.jq.mem z
   exact zo (zA ho) I.sz
 have Ou:∀(i:Nat) (x:Str) (v:V),N[i]?=some x→(pick σ src)[i]?=some (some v)→∃u c,RelV v u∧(clOf X.env.cells scope.names).lookup x=some c∧bF.heap.IsCell c (some u)∧scope.names.lookup x=some .free:=fun i x v e1 e2=>by
  unfold pick at e2
  rw[zZ] at e2
  cases es:src[i]? with
  |none=>rw[es] at e2;cases e2
  |some o =>
   rw[es] at e2
   cases o with
   |none=>cases e2
   |some j =>
    have e3:(σ[j]?).join=some v:=zO e2
    have e4:σ[j]?=some (some v):=by
     cases q:σ[j]? with
     |none=>rw[q] at e3;cases e3
     |some z=>rw[q] at e3;exact congrArg some e3
    obtain⟨a1,a2,a3⟩:=S.src i j x es e1
    obtain⟨m0,_,hl⟩:=I.loc
    obtain⟨u,r,l⟩:=hl j x v a1 e4 a3
    have hm:=yr a2
    have hk:=S.ME _ hm rfl
    rcases l with ⟨k,_⟩|⟨_,c,Kg,z⟩
    ·rcases hk with hk|hk <;> (rw[k] at hk;cases hk)
    ·exact⟨u,c,r,mW X.env.cells scope.names [] x c (by intro x c h;simp at h) hm Kg,z,a2⟩
 have kinds:∀x,scope.names.lookup x=some .free→(compEnvC scope (clOf X.env.cells scope.names) C X.env).kindOf x=some .cell∨(compEnvC scope (clOf X.env.cells scope.names) C X.env).kindOf x=some .free:=fun x hx=>by
  show (relabel scope X.env).names.lookup x=some .cell∨(relabel scope X.env).names.lookup x=some .free
  unfold relabel
  dsimp only
  rw[gZ,hx]
  dsimp only [Option.map]
  split
  ·exact .inl rfl
  ·exact .inr rfl
 have Ic:Inv (jd X N scope C bF gN fp (X.pn++pins)) [] (pick σ src) gN { bF with heap:=uT,toks:=bF.toks+([]:List (Str×Value)).length }:=by
  refine⟨ok,rfl,I.bare,Un.kept old,⟨_,qi,fun i x v e1 e2 e3=>?_⟩,fun x c e=>?_,I.aS.fresh jV,fun x c e=>I.eE x c (mY x c e),fun p hp=>?_,I.aS.kept old,?_⟩
  ·obtain⟨u,c,r,e5,⟨o,ho,hd⟩,hf⟩:=Ou i x v e1 e2
   exact⟨u,r,.inr ⟨kinds x hf,c,e5,⟨o,old _ _ ho,hd⟩⟩⟩
  ·obtain⟨v,o,ho,hd⟩:=I.cell x c (mY x c e)
   exact⟨v,o,old _ _ ho,hd⟩
  ·have hp:p∈X.pn++pins:=by simpa [jd] using hp
   obtain⟨e,n,_,_,d⟩:=I.pin p hp
   exact⟨old _ _ e,n,zK (zo (Bk p hp) jV),Kq p hp,d⟩
  ·show (pick σ src).length=N.length
   unfold pick
   rw[za,S.len]
 have sg:bF.heap.objs.size≤D:=Nat.le_of_eq hD
 have Hr:D∉jO X.stack:=fun z=>absurd (zo (Kr D z) sg) (yA _)
 have FG:D∉fp:=fun z=>absurd (zo (Hq D z) sg) (yA _)
 have rQ:∀{pl:List (Addr×Obj)}{H':Hp},(∀b∈fp,H' b=none)→(∀p∈pl,p.1∉fp)→∀b∈fp,rP (jd X N scope C bF gN fp (X.pn++pins)) pl H' b:=fun {pl H'} hn l9 b hb=>by
  obtain⟨f0,f1,f2,f3,f4,f5⟩:=ff b hb
  refine⟨hn b hb,zK (zo (Hq b hb) jV),fun z=>?_,.inl hb,fun x c e=>f4 x c (mY x c e),fun p hp=>?_⟩
  ·rcases zc.mp (I.kT b z) with q|q
   ·exact f1 q
   ·exact f2 q
  ·have hp:p∈(X.pn++pins)++pl:=hp
   rcases zW.mp hp with hp|hp
   ·exact f5 p hp
   ·exact fun z=>l9 p hp (z ▸ hb)
 -- back in the def's own frame
 have back:∀{s':Shared}{H':Hp}{out:List V}{ao:List Value}{nn:Nat}{aw:St},Inv (jd X N scope C bF gN fp (X.pn++pins)) [] aw H' s'→H' D=none→out.length≤sizeLine→Vals out ao →
   s'.heap.get? D=some { cls:=.type "list",data:=.seq ao.toArray nn }→(∀D,H' D=none→Q (.ref D) (upd H' D (.lst out)))→CompEnd X pins σ Q D C s':=fun {s' H' out ao nn aw} I' hn hl hv ho q=>by
  obtain⟨m,hm,_⟩:=I'.loc
  have un:Un (jO X.stack) fp gN H' bF.heap s'.heap:=I'.base
  have Sr:∀b o,bF.heap.get? b=some o→b≠D:=fun b o e=>zK (zo (zA e) sg)
  have fD:gN D=none:=I.aS.fresh sg
  refine⟨upd H' D (.lst out),m,?_,q D hn,hm,by rw[aH (Ne.symm Jf)];exact I'.free,Nat.ne_of_gt (zo I.lt jV),zG I.sz jV,fun x c e=>zK (zo (Bj x c e) jV),fun p hp=>zK (zo (Bk p hp) jV)⟩
  refine I.AX (ch:=fp) I'.os ⟨un.keep,un.slot,fun b o e n hb=>?_,un.there,fun b xs e=>?_,fun b o u e=>?_,fun b ps e=>?_⟩ (fun b o e=>?_) I'.bare fun b hb=>?_
  ·rw[aH (Sr b o e)];exact un.free b o e n hb
  ·rw[aH (aE e fD)];exact un.dG b xs e
  ·rw[aH (aE e fD)];exact un.eY b o u e
  ·rw[aH (aE e fD)];exact un.eZ b ps e
  ·by_cases hb:b=D
   ·subst hb
    rw[bN] at e
    cases e
    exact⟨hl,ao,nn,hv,ho⟩
   ·rw[aH hb] at e
    refine (I'.aS b o e).p_ (fun c v _ q=>q) (fun c q=>?_) fun c xs q=>?_
    ·rw[aH (aE q hn)];exact q
    ·rw[aH (aE q hn)];exact q
  ·obtain⟨f0,f1,f2,f3,f4,f5⟩:=ff b hb
   exact⟨f3,f1,f4,f5⟩
 obtain⟨m0,w0⟩:=w0
 have loop:∀sf:Shared,sf={ bF with heap:=uT,toks:=bF.toks+([]:List (Str×Value)).length } →
   codeAny (model X.prog X.w) X.A (.compLoop (.ListComp elt [⟨tg,iter,ifs,0⟩] scope pos) 0 (.ref it) (.ref D) (compEnvC scope (clOf X.env.cells scope.names) C X.env)) (RR (.ref D) C) sf:=by
  rintro sf rfl
  refine i8 (EE:=fun _ _=>False) (fun _ _ f=>f.elim) (fun n s'=>∃i out ao nn H',Inv (jd X N scope C bF gN fp (X.pn++pins)) [] (pick σ src) H' s'∧H' D=none∧out.length≤sizeLine∧Vals out ao ∧
   s'.heap.get? D=some { cls:=.type "list",data:=.seq ao.toArray nn }∧tn i s'.heap∧(∀b∈fp,H' b=none)∧W i n out H') ?_ m0
   ⟨0,[],[],0,gN,Ic,I.aS.fresh sg,yj _,.nil,Kn,T.keep _ _ _ st fun b hb o e=>old b o e,fun b hb=>(ff b hb).1,w0⟩
  rintro n s3 ⟨i,out,ao,nn,H3,I3,QM,Ov,MG,Ss,JO,JP,w3⟩
  have Hs:∀(ao:List Value) (nn:Nat) (v:Option Value),({ cls:=.type "list",data:=.seq ao.toArray nn } : Obj).data≠.cell v:=fun _ _ _ z=>nomatch z
  have QN:Inv (jd X N scope C bF gN fp (X.pn++pins)) [(D,{ cls:=.type "list",data:=.seq ao.toArray nn })] (pick σ src) H3 s3:=I3.jP fun p hp=>by
   have e:p=(D,{ cls:=.type "list",data:=.seq ao.toArray nn }):=by simpa using hp
   subst e
   exact⟨Ss,QM,Jf,Hr,Hs ao nn⟩
  have Ow:∀p∈[((D,{ cls:=.type "list",data:=.seq ao.toArray nn }):Addr×Obj)],p.1∉fp:=fun p hp=>by
   have e:p=(D,{ cls:=.type "list",data:=.seq ao.toArray nn }):=by simpa using hp
   subst e
   exact FG
  rcases turn i n out H3 w3 with ⟨stop,qn⟩|⟨go,AM,step⟩
  ·refine bA (T.done (jd X N scope C bF gN fp (X.pn++pins)) rfl rfl rfl hc i _ s3 _ H3 _ QN (rQ JP Ow) JO stop) fun r s4 ⟨hr,I4⟩=>?_
   subst hr
   have p4:=(I4.pin (D,{ cls:=.type "list",data:=.seq ao.toArray nn }) (zP _ (by simp))).1
   exact Sq D C s4 (back (I4.jP (pins':=[]) fun p hp=>nomatch hp) QM Ov MG p4 qn)
  ·refine bA (T.item (jd X N scope C bF gN fp (X.pn++pins)) rfl rfl rfl hc i _ s3 _ H3 _ QN (rQ JP Ow) JO go) fun r s4 ⟨u,hr,h4⟩=>?_
   subst hr
   refine bA h4 fun _ s5 ⟨x,H5,I5,r5,y5,st5,fr5⟩=>?_
   have NO:=I5.pinned (rQ fr5 Ow) (T.obj _ _ st5)
   refine bA (hg _ _ _ _ _ _ s5 _ H5 x u _ NO r5 (hx x σ H5 _ (step x H5 y5))) fun _ s6 ⟨JQ,H6,I6,e6,q6⟩=>?_
   have fin:∀{s7:Shared}{H7:Hp},Inv (jd X N scope C bF gN fp (X.pn++pins)) ([(D,{ cls:=.type "list",data:=.seq ao.toArray nn })]++mL fp s5.heap) JQ H7 s7 →
     Inv (jd X N scope C bF gN fp (X.pn++pins)) [] (pick σ src) H7 s7∧H7 D=none∧s7.heap.get? D=some { cls:=.type "list",data:=.seq ao.toArray nn }∧tn (i+1) s7.heap∧∀b∈fp,H7 b=none:=fun {s7 H7} I7=>by
    have pD:=I7.pin (D,{ cls:=.type "list",data:=.seq ao.toArray nn }) (zP _ (by simp))
    refine⟨(I7.jP (pins':=[]) fun p hp=>nomatch hp).weak e6.1.symm e6.2,pD.2.1,pD.1,T.keep _ _ _ st5 fun b hb o e=>(I7.pin (b,o) (zP _ (zP _ (fZ hb e)))).1,fun b hb=>?_⟩
    obtain⟨o,e,d⟩:=T.obj _ _ st5 b hb
    exact (I7.pin (b,o) (zP _ (zP _ (fZ hb e)))).2.1
   refine bA (hi _ _ _ _ _ _ s6 JQ H6 _ I6 q6) fun b s7 ⟨H7,I7,q7⟩=>?_
   cases b with
   |false =>
    rw[if_neg zk] at q7 ⊢
    obtain⟨m',hm,w7⟩:=q7
    obtain⟨J7,d7,o7,t7,f7⟩:=fin I7
    exact⟨m',hm,i+1,out,ao,nn,H7,J7,d7,Ov,MG,o7,t7,f7,w7⟩
   |true =>
    rw[if_pos rfl] at q7 ⊢
    refine bA (he _ _ _ _ _ _ s7 JQ H7 _ I7 q7) fun v s8 ⟨y,H8,I8,r8,m',hm,w8⟩=>?_
    obtain⟨J8,d8,o8,t8,f8⟩:=fin I8
    have hsz:ao.toArray.size≤sizeLine:=by rw[zu,← MG.length];exact Ov
    refine wpAny_list_append_plain (items:=ao.toArray) (hsz:=hsz) ⟨nn,o8⟩ fun h9 ⟨n9,e9⟩ sb=>?_
    have J9:Inv (jd X N scope C bF gN fp (X.pn++pins)) [] (pick σ src) H8 { s8 with heap:=h9 }:=J8.turned (t':=s8.toks) (it:=D) (fun b o hb e=>(sb.2 b hb).trans e) d8 Jf (.inr sg) (fun x c e=>zK (zo (Bj x c (mY x c e)) sg)) fun p hp=>by
     have hp:p∈X.pn++pins:=by simpa [jd] using hp
     exact zK (zo (Bk p hp) sg)
    refine⟨m',hm,i+1,out++[y],ao++[v],n9,H8,J9,d8,?_,MG.append (.cons r8 .nil),?_,T.keep _ _ _ t8 fun b hb o e=>(sb.2 b (fun z=>FG (z ▸ hb))).trans e,f8,w8⟩
    ·rw[zg];exact AM
    ·rw[e9];simp
 exact codeAny_compStart_list (loop _ rfl) (T.self _ _ _ _ _ (T.keep _ _ _ st fun b hb o e=>old b o e) (loop _ rfl))
theorem D6(S:iS X N src scope)(hc:X.calm=true)(hit:PI X tg iter wi)
  (hg:∀C s H ex pn,PG (jd X N scope C s H ex pn) tg g) (hx:Bi g src) (hi:∀C s H ex pn,MF (jd X N scope C s H ex pn) ifs tc) (he:∀C s H ex pn,PE (jd X N scope C s H ex pn) elt te)
  (hs:∀x,foldedSetIterable iter X.env x=pure x:=by intro _;rfl):PE X (.ListComp elt [⟨tg,iter,ifs,0⟩] scope pos) (FE wi src g tc te):=by
 intro pins s σ H Q I h
 rw[eval_ListComp]
 have D7:closureFor scope X.env=pure (clOf X.env.cells scope.names):=oC fun y hy hf=>I.ok.has y.1 (S.ME y hy hf)
 refine wpAny_comprehension_free (use:=none) rfl hs D7 S.kind S.loc (bA (hit pins s σ H _ I h) fun v s1 h1=>bA h1 fun NK s2 h2=>?_)
 obtain⟨it,fp,tn,J,H2,e,I2,T,NN,f2,W,w0,turn⟩:=h2
 subst e
 refine yK (RR:=fun acc C=>compPost (model X.prog X.w) X.A X.xe none (EP X pins σ Q) acc C) S hc hg hx hi he I2 T NN f2 W w0 turn fun D C s' ⟨H',m,I',q,hm,hn,h1,h2,h3,h4⟩=>?_
 exact⟨m,hm,fun h' sb=>⟨.ref D,H',I'.turned (t':=s'.toks) (it:=C) (fun b o hb e=>(sb.2 b hb).trans e) hn h1 (.inr h2) h3 h4,rfl,q⟩⟩
end
theorem kY{σ:St}{src:List (Option Nat)}{i:Nat}(h:src[i]?=some none):(pick σ src)[i]?=some none:=by
 unfold pick
 rw[zZ,h]
 rfl
theorem Ext.set(h:σ0[i]?=some none)(e:Ext σ0 σ):Ext σ0 (σ.set i (some v)):=by
 refine⟨by rw[List.length_set];exact e.1,fun j w hj=>?_⟩
 have:i≠j:=by
  rintro rfl
  rw[h] at hj
  cases hj
 rw[List.getElem?_set_ne this]
 exact e.2 j w hj
theorem Ext.refl(σ:St):Ext σ σ:=⟨rfl,fun _ _ h=>h⟩
theorem ba{src:List (Option Nat)}{i:Nat}(h:src[i]?=some none):Bi (gX i) src:=fun x σ H Q q=>⟨(Ext.refl _).set (kY h),q⟩
theorem D8{K:Frag}{n:Nat}{src:List (Option Nat)}{i j:Nat}(h:src[i]?=some none)(h':src[j]?=some none):Bi (DF K n (mJ (gX i) (mJ (gX j) DD))) src:=fun x σ H Q q=>by
 obtain⟨a,xs,e1,hs,hl,v,r,e2,v2,r2,e3,e4,q⟩:=q
 exact⟨a,xs,e1,hs,hl,v,r,e2,v2,r2,e3,e4,((Ext.refl _).set (kY h)).set (kY h'),q⟩
theorem all_bools{xs:List V}{ao:List Value}{bs:List Bool}(hv:Vals xs ao)(hb:xs=bs.map V.bl):∀(i:Nat) (v:Value),ao.toArray[i]?=some v→v=Value.bool ((bs[i]?).getD false):=by
 subst hb
 intro i v h
 have h':ao[i]?=some v:=by simpa using h
 have hl:=hv.length
 rw[za] at hl
 have hi:i<ao.length:=(zL.mp h').1
 have hb:bs[i]?=some (bs[i]'(by lia)):=by simp
 obtain⟨u,hu,r⟩:=hv.get (i:=i) (x:=V.bl (bs[i]'(by lia))) (by rw[zZ,hb];rfl)
 rw[h'] at hu
 cases hu
 rw[hb]
 exact r
theorem range_all{bs:List Bool} : (List.range bs.length).all (fun i=>(bs[i]?).getD false)=bs.all id:=by
 rw[yt,zS,zS]
 constructor
 ·intro h b hb
  obtain⟨i,hi,rfl⟩:=List.mem_iff_getElem.mp hb
  have:=h i (List.mem_range.mpr hi)
  simpa [hi] using this
 ·intro h i hi
  have hi:=List.mem_range.mp hi
  simpa [hi] using h _ (List.getElem_mem hi)
section
variable{X:Cx}
theorem oD(hc:X.calm=true):dY X (.builtin "all") (fun xs H Q=>∃(a:Addr) (bs:List Bool),xs=[.ref a]∧i7 X.K H a (bs.map V.bl)∧Q (.bl (bs.all id)) H):=by
 intro pins s σ H xs us Q I r h
 obtain⟨a,bs,rfl,hq,q⟩:=h
 obtain⟨u,rfl,ru⟩:=vals1 r
 cases ru
 obtain⟨ao,rv,p,hz⟩:=I.list hq
 have hl:=rv.length
 rw[za] at hl
 refine call_all_walk (wpAny_pyIter_list p.isList ?_)
 refine⟨s.heap.objs.size,_,_,_,_,_,fun i=>(bs[i]?).getD false,rfl,Walks.list (A:=X.A.in1) (I.ok.hd hc) s.heap.objs.size a (zK p.lt) ao.toArray,⟨⟨_,zU _ rfl,rfl,rfl⟩,p.isList.at fun o e=>zt _ e⟩,?_,fun h' tk hk=>?_⟩
 ·intro i v s' Q' E' hv hQ
  rw[all_bools rv rfl i v hv]
  exact yp hQ
 ·have e:ao.toArray.size=bs.length:=by rw[zu,← hl]
  rw[e,range_all]
  exact⟨.bl (bs.all id),H,I.kept (h':=h') (t':=tk) (fun b o e=>hk b o (by simpa using zK (zA e)) (zt _ e)),rfl,q⟩
end
def ownOf:HO→Option Addr
 |.ins _ dx _=>some dx
 |.kR _ u=>ownOf u
 |_=>none
structure Fg(H H' G:Hp):Prop where
 sub:∀b o,G b=some o→H' b=some o
 VI:∀b o,H b=some o→∃o',G b=some o'
 own:∀a o dx,G a=some o→ownOf o=some dx→(∃o',H a=some o'∧ownOf o'=some dx)∨∃o',G dx=some o'
section
variable{X:Cx}{pins:List (Addr×Obj)}{σ aw:St}{H H' G:Hp}{s s':Shared}
end
theorem aI:bootBuiltins "len" = some (.builtin "len"):=PySem.boot_len
theorem cQ:bootBuiltins "all" = some (.builtin "all"):=boot_all
theorem ai:bootBuiltins "isinstance" = some (.builtin "isinstance"):=boot_isinstance
theorem jr:bootBuiltins "int" = some (.type "int"):=PyProof.Rows.boot_int
theorem D9:bootBuiltins "bool" = some (.type "bool"):=PyProof.Rows.boot_bool
theorem eF:bootBuiltins "str" = some (.type "str"):=PyProof.Rows.boot_str
theorem bO:bootBuiltins "tuple" = some (.type "tuple"):=PyProof.Rows.boot_tuple
theorem D_:bootBuiltins "list" = some (.type "list"):=PyProof.Rows.boot_list
theorem wD:bootBuiltins "dict" = some (.type "dict"):=PyProof.Rows.boot_dict
inductive Kd where
 |aK|bl|int|str|lst|tup|iT
 deriving DecidableEq
def Kd.name:Kd→String
 |.aK => "NoneType" |.bl => "bool" |.int => "int" |.str => "str" |.lst => "list" |.tup => "tuple" |.iT => "dict"
inductive mZ (H:Hp):V→Kd→Prop where
 |aK:mZ H .aK .aK
 |bl (b:Bool):mZ H (.bl b) .bl
 |int (i:Int):mZ H (.int i) .int
 |str (x:Str):mZ H (.str x) .str
 |lst {a:Addr}{xs:List V} (e:H a=some (.lst xs)):mZ H (.ref a) .lst
 |tup {a:Addr}{xs:List V} (e:H a=some (.tup xs)):mZ H (.ref a) .tup
 |iT {a:Addr}{kvs:List (Key×V)} (e:H a=some (.dK kvs)):mZ H (.ref a) .iT
theorem mZ.ty{K:Frag}{H:Hp}{x:V}{k:Kd}(h:mZ H x k):kW K H x (.type k.name):=by
 cases h with
 |aK=>exact .aK
 |bl b=>exact .bl b
 |int i=>exact .int i
 |str x=>exact .str x
 |lst e=>exact .lst e
 |tup e=>exact .tup e
 |iT e=>exact .dK e
def sh(T:String):Option (Kd→Bool) :=
 if T = "int" then some fun k=>match k with|.int=>true|.bl=>true|_=>false
 else if T = "bool" then some fun k=>match k with|.bl=>true|_=>false
 else if T = "str" then some fun k=>match k with|.str=>true|_=>false
 else if T = "tuple" then some fun k=>match k with|.tup=>true|_=>false
 else if T = "list" then some fun k=>match k with|.lst=>true|_=>false
 else if T = "dict" then some fun k=>match k with|.iT=>true|_=>false
 else none
theorem Bl{K:Frag}{T:String}{g:Kd→Bool}(h:sh T=some g)(k:Kd):kitOne K (.type k.name) (.type T)=some (g k):=by
 unfold sh at h
 split at h
 ·rename_i e;subst e;cases h;cases k <;> rfl
 ·split at h
  ·rename_i e;subst e;cases h;cases k <;> rfl
  ·split at h
   ·rename_i e;subst e;cases h;cases k <;> rfl
   ·split at h
    ·rename_i e;subst e;cases h;cases k <;> rfl
    ·split at h
     ·rename_i e;subst e;cases h;cases k <;> rfl
     ·split at h
      ·rename_i e;subst e;cases h;cases k <;> rfl
      ·cases h
section
variable{X:Cx}
theorem Bn:dY X (.builtin "isinstance") (fun xs H Q=>∃x T k g,xs=[x,.ty T]∧sh T=some g∧mZ H x k∧Q (.bl (g k)) H):=by
 intro pins s σ H xs us Q I r h
 obtain⟨x,T,k,g,rfl,hg,hk,q⟩:=h
 obtain⟨v,w',rfl,rv,qf⟩:=vals2 r
 cases qf
 exact xV I rv hk.ty (Bl hg k) fun tk=>⟨.bl (g k),H,I.tok tk,rfl,q⟩
end
mutual
def Dt(K:Frag)(H:Hp):PyData→V→Prop
 |.none,v=>v=.aK
 |.bool b,v=>v=.bl b
 |.int i,v=>v=.int i
 |.str z,v=>v=.str z
 |.list ds,v=>∃a xs,v=.ref a∧i7 K H a xs∧DtAll K H ds xs
 |.tuple ds,v=>∃a xs,v=.ref a∧kU K H a xs∧DtAll K H ds xs
 |.dict _,_=>False
def DtAll(K:Frag)(H:Hp):List PyData→List V→Prop
 |[],xs=>xs=[]
 |d::ds,xs=>∃y ys,xs=y::ys∧Dt K H d y∧DtAll K H ds ys
end
section
variable{X:Cx}{pins:List (Addr×Obj)}{σ:St}{H:Hp}{s:Shared}
mutual
theorem Inv.reads(I:Inv X pins σ H s):∀(d:PyData) {x:V}{u:Value},Dt X.K H d x→RelV x u→∃as,Reads s.heap u d as
 |.none,x,u,h,r=>by
  have h:x=.aK:=by simpa only [Dt] using h
  subst h;cases r;exact⟨_,.none⟩
 |.bool b,x,u,h,r=>by
  have h:x=.bl b:=by simpa only [Dt] using h
  subst h;cases r;exact⟨_,.bool b⟩
 |.int i,x,u,h,r=>by
  have h:x=.int i:=by simpa only [Dt] using h
  subst h;obtain⟨t,rfl⟩:=r;exact⟨_,.int i t⟩
 |.str z,x,u,h,r=>by
  have h:x=.str z:=by simpa only [Dt] using h
  subst h;obtain⟨t,rfl⟩:=r;exact⟨_,.str z t⟩
 |.list ds,x,u,h,r=>by
  have h:∃a xs,x=.ref a∧i7 X.K H a xs∧DtAll X.K H ds xs:=by simpa only [Dt] using h
  obtain⟨a,xs,rfl,hq,hd⟩:=h
  cases r
  obtain⟨ao,rv,p,_⟩:=I.list hq
  obtain⟨as,ra⟩:=Inv.readsAll I ds hd rv
  obtain⟨o,e,c,n,d⟩:=p.isList
  exact⟨_,.list e c d (by simpa using ra)⟩
 |.tuple ds,x,u,h,r=>by
  have h:∃a xs,x=.ref a∧kU X.K H a xs∧DtAll X.K H ds xs:=by simpa only [Dt] using h
  obtain⟨a,xs,rfl,hq,hd⟩:=h
  cases r
  obtain⟨ao,rv,p,_⟩:=I.tuple hq
  obtain⟨as,ra⟩:=Inv.readsAll I ds hd rv
  obtain⟨o,e,c,n,d⟩:=p
  exact⟨_,.tuple e c d (by simpa using ra)⟩
 |.dict _,x,u,h,r=>by
  have h:False:=by simpa only [Dt] using h
  exact h.elim
theorem Inv.readsAll(I:Inv X pins σ H s):∀(ds:List PyData) {xs:List V}{us:List Value},DtAll X.K H ds xs→Vals xs us→∃as,ReadsAll s.heap us ds as
 |[],xs,us,h,r=>by
  have h:xs=[]:=by simpa only [DtAll] using h
  subst h;cases r;exact⟨_,.nil⟩
 |d::ds,xs,us,h,r=>by
  have h:∃y ys,xs=y::ys∧Dt X.K H d y∧DtAll X.K H ds ys:=by simpa only [DtAll] using h
  obtain⟨y,ys,rfl,h1,h2⟩:=h
  cases r with
  |cons r1 r2 =>
   obtain⟨as,ra⟩:=Inv.reads I d h1 r1
   obtain⟨bs,rb⟩:=Inv.readsAll I ds h2 r2
   exact⟨_,.cons ra rb⟩
end
end
def Ks(K:Frag)(neg:Bool):R2:=fun x y H Q=>∃d e,Dt K H d x∧Dt K H e y∧d.canLay0=true∧e.canLay0=true∧(d.depth≤64∨e.depth≤64)∧Q (.bl (if neg then !PyData.eqv d e else PyData.eqv d e)) H
section
variable{X:Cx}
theorem Ht(hu:X.A.units+64<cLine):eX X (compareOp .Eq) (Ks X.K false):=by
 intro pins s σ H x y v u Q I rx ry h
 obtain⟨d,e,hd,he,cd,ce,dp,q⟩:=h
 obtain⟨as,ra⟩:=I.reads d hd rx
 obtain⟨bs,rb⟩:=I.reads e he ry
 exact SeqAt.compareEq_reads ra rb cd ce (by rcases dp with dp|dp <;> lia) (aA I q rfl)
theorem Hu(hu:X.A.units+64<cLine):eX X (compareOp .NotEq) (Ks X.K true):=by
 intro pins s σ H x y v u Q I rx ry h
 obtain⟨d,e,hd,he,cd,ce,dp,q⟩:=h
 obtain⟨as,ra⟩:=I.reads d hd rx
 obtain⟨bs,rb⟩:=I.reads e he ry
 exact SeqAt.compareNe_reads ra rb cd ce (by rcases dp with dp|dp <;> lia) (aA I q rfl)
end
theorem bE(a b:Nat):om ⟨#[a]⟩ ⟨#[b]⟩=decide (a≤b):=by
 unfold om
 have e:([b]<[a])↔b<a:=by
  rw[List.cons_lt_cons_iff]
  constructor
  ·rintro (h|⟨_,h⟩)
   ·exact h
   ·exact absurd h (List.not_lt_nil _)
  ·exact .inl
 rw[yt]
 show (!decide ([b]<[a]))=true↔_
 rw[Bool.not_eq_true',decide_eq_false_iff_not,e,decide_eq_true_iff]
 lia
def chkC(sc:Scope)(N0 N:List Str)(src:List (Option Nat))(scope:Scope):Bool :=
 decide (scope.kind=.function) && (scope.names.all (fun y=>decide (y.2≠.cell) && (decide (y.2≠.local) || decide (scope.names.lookup y.1=some .local)) && (decide (y.2≠.free) || (decide (sc.names.lookup y.1=some .cell) || decide (sc.names.lookup y.1=some .free)))) &&
  (decide (src.length=N.length) && (List.range src.length).all fun i=>match src[i]?,N[i]? with
   |some (some j),some x=>decide (N0[j]?=some x) && (decide (scope.names.lookup x=some .free) && (decide (sc.names.lookup x=some .cell) || decide (sc.names.lookup x=some .free)))
   |_,_=>true))
theorem pH(sc:Scope)(N0:List Str)(hs:X.env.scope=sc)(hN:X.N=N0)(h:chkC sc N0 N src scope=true):iS X N src scope:=by
 unfold chkC at h
 simp only [zm,zx,zS,Bool.or_eq_true] at h
 obtain⟨h1,h2,h3,h4⟩:=h
 refine⟨h1,fun y hy=>(h2 y hy).1.1,fun y hy e=>?_,fun y hy e=>?_,h3,fun i j x e1 e2=>?_⟩
 ·rcases (h2 y hy).1.2 with z|z
  ·exact absurd e z
  ·exact z
 ·rcases (h2 y hy).2 with z|z
  ·exact absurd e z
  ·show X.env.scope.names.lookup y.1=some .cell∨X.env.scope.names.lookup y.1=some .free
   rw[hs];exact z
 ·have hi:i<src.length:=(zL.mp e1).1
  have q:=h4 i (List.mem_range.mpr hi)
  rw[e1,e2] at q
  simp only [zm,zx,Bool.or_eq_true] at q
  refine⟨by rw[hN];exact q.1,q.2.1,?_⟩
  unfold IZ
  rw[hs]
  exact .inr q.2.2
section
variable{X:Cx}
end
theorem jW(h0:0≤i)(h1:i<l.length):∃v,gT l i=some v∧l[i.toNat]?=some v:=by
 obtain⟨j,rfl⟩:=Int.eq_ofNat_of_zero_le h0
 have hj:j<l.length:=by lia
 exact⟨l[j],f9 (by simp [hj]),by simp [hj]⟩
theorem aQ{c:Bool}{A B:Prop}(h:c=true→A)(h':c=false→B):if c=true then A else B:=by
 cases c with
 |true=>exact h rfl
 |false=>exact h' rfl
theorem nt(h:(!b)=true):b=false:=by cases b <;> simp_all
theorem nf(h:(!b)=false):b=true:=by cases b <;> simp_all
def qj:Kd→Bool|.int=>true|.bl=>true|_=>false
def qk:Kd→Bool|.bl=>true|_=>false
def ql:Kd→Bool|.str=>true|_=>false
def jX:Kd→Bool|.tup=>true|_=>false
theorem wF:sh "int" = some qj:=if_pos rfl
theorem Bo:sh "bool" = some qk:=(if_neg (by decide)).trans (if_pos rfl)
theorem dz:sh "str" = some ql:=(if_neg (by decide)).trans ((if_neg (by decide)).trans (if_pos rfl))
theorem iU:sh "tuple" = some jX:=(if_neg (by decide)).trans ((if_neg (by decide)).trans ((if_neg (by decide)).trans (if_pos rfl)))
theorem len_pos{z:Str}(h:1≤z.cps.size):∃c r,z.cps.toList=c::r:=by
 cases e:z.cps.toList with
 |nil =>
  have:z.cps.toList.length=0:=by rw[e];rfl
  rw[zV] at this
  lia
 |cons c r=>exact⟨c,r,rfl⟩
theorem yL(e:l=c::r):gT l 0=some c:=by
 have:l[0]?=some c:=by rw[e];rfl
 exact f9 (j:=0) this
def isPlain:Expr→Bool
 |.Starred _ _=>false
 |_=>true
theorem js(h:isPlain e=true):starEach (e::es) env=(false,eval e env)::starEach es env:=by
 cases e <;> first
  |rfl
  |exact absurd h zk
theorem Su(ha:PE X e te)(hr:PA X es t)(hp:isPlain e=true:=by rfl):PA X (e::es) (wx te t):=DR ha hr (js hp)
end L2
namespace HT
open PySem PyProof.Rows
open PySem.SeqAt
open PySem.AutoSeq1 (wpAny_loadPart')
open PySem.MeetsSeq PySem.MeetsSeq2 PySem.MeetsSeq3
end HT
namespace L2
open PySem PySem.Spec PyProof.Rows
section
variable{X:Cx}
end
section
variable{X:Cx}{K:Frag}
end
theorem bh.get(x:bh P w H h a o):∃u,h.get? a=some u:=by
 cases o with
 |lst xs=>obtain⟨_,_,_,_,e⟩:=x;exact⟨_,e⟩
 |tup xs=>obtain⟨_,_,_,ob,e,_⟩:=x;exact⟨_,e⟩
 |dK kvs=>obtain⟨_,_,_,_,o,_,_,e,_⟩:=x;exact⟨_,e⟩
 |dT kvs=>exact False.elim x
 |set S n=>obtain⟨o,_,_,_,e,_⟩:=x;exact⟨_,e⟩
 |ins C dx fs=>obtain⟨_,_,_,e,_⟩:=x;exact⟨_,e⟩
 |own y=>obtain⟨_,e⟩:=x;exact⟨_,e⟩
 |xd fs=>obtain⟨_,⟨_,_,_,e,_⟩,_⟩:=x;exact⟨_,e⟩
 |Mn lo hi=>obtain⟨_,_,_,e⟩:=x;exact⟨_,e⟩
 |kR ob u=>obtain⟨e,_⟩:=x;exact⟨_,e⟩
 |rN ps=>exact⟨_,show h.get? a=some _ from x⟩
 |met f y=>exact⟨_,show h.get? a=some _ from x⟩
 |ext φ=>obtain⟨_,e,_⟩:=x;exact e
structure pI(P:Program)(w:World)(outer:List Env)(H H':Hp)(h0:Heap)(a:Addr)(cls a0:Value)(B h:Heap):Prop where
 fl:Heap.FlyingW B outer a cls a0 h
 aS:jb P w H' B
 keep:∀b o,h0.get? b=some o→H b=none→b∉jO outer→B.get? b=some o
 there:∀b o,h0.get? b=some o→b∉jO outer→∃o',B.get? b=some o'
 slot:∀b o,h0.get? b=some o→b∈jO outer→∃sl,h.get? b=some { o with slots:=sl }
 free:∀b o,h0.get? b=some o→H b=none→H' b=none
 dG:∀b xs,H b=some (.tup xs)→H' b=some (.tup xs)
 eY:∀b o u,H b=some (.kR o u)→H' b=some (.kR o u)
 eZ:∀b ps,H b=some (.rN ps)→∃more,H' b=some (.rN (ps++more))
section
variable{P:Program}{w:World}{outer:List Env}{H H':Hp}{h0:Heap}{a:Addr}{cls a0:Value}{B h h2:Heap}
theorem pI.un(F:pI P w outer H H' h0 a cls a0 B h):Un (jO outer) [] H H' h0 h where
 keep:=fun b o e n hf _=>F.fl.1 b o (F.keep b o e n hf)
 slot:=fun b o e _ hf _=>F.slot b o e hf
 free:=fun b o e n _=>F.free b o e n
 there:=fun b o e _=>by
  by_cases hf:b∈jO outer
  ·obtain⟨sl,q⟩:=F.slot b o e hf;exact⟨_,q⟩
  ·obtain⟨o',q⟩:=F.there b o e hf;exact⟨o',F.fl.1 b o' q⟩
 dG:=F.dG
 eY:=F.eY
 eZ:=F.eZ
theorem pI.Ox(F:pI P w outer H H' h0 a cls a0 B h):jb P w H' h:=F.aS.kept F.fl.1
theorem pI.hn(F:pI P w outer H H' h0 a cls a0 B h):H' a=none:=by
 cases q:H' a with
 |none=>rfl
 |some o =>
  obtain⟨u,e⟩:=(F.aS a o q).get
  rw[F.fl.2.1] at e;cases e
theorem pI.on(F:pI P w outer H H' h0 a cls a0 B h)(f2:Heap.FlyingW B outer a cls a0 h2)(u2:h.UpToSlots h2):pI P w outer H H' h0 a cls a0 B h2 where
 fl:=f2
 aS:=F.aS
 keep:=F.keep
 there:=F.there
 slot:=fun b o e hf=>by
  obtain⟨sl,q⟩:=F.slot b o e hf
  obtain⟨_,o1,q1,hd⟩:=F.fl.2.2.1.mem hf
  obtain⟨xZ,q2⟩:=u2 b o1 q1 hd
  rw[q] at q1;cases q1
  exact⟨xZ,q2⟩
 free:=F.free
 dG:=F.dG
 eY:=F.eY
 eZ:=F.eZ
end
def jM(P:Program)(w:World):uN:=fun outer H s E e s' =>
 ∃a cls a0 B H',e=.ref a∧s'.os=s.os∧AllBare s'.gens∧pI P w outer H H' s.heap a cls a0 B s'.heap∧E cls none H'
structure cR(X:Cx)(E:XK):Prop where
 ex:X.ex=[]
 st:X.stack=X.env::X.outer
 fr:X.env.frame=some X.env.locals
 xe:∀e s',wpAny (model X.prog X.w) X.A (leaving X.env e) (fun _ DU=>jM X.prog X.w X.outer X.rO X.cH E e DU) (fun e' DU=>jM X.prog X.w X.outer X.rO X.cH E e' DU) s'→X.xe e s'
theorem yM{P:Program}{w:World}{K:Frag}{mg:Str→Option Value}{base:Heap}{N:List Str}{qual:Str}{scope:Scope}{f:Addr}{cd:Value}{A:Around}{outer:List Env}{s:Shared}{H:Hp}{E:XK} :
  cR (l8 (jM P w) P w K mg base N qual scope f cd A outer s H E) E:=⟨rfl,rfl,rfl,fun _ _ h=>h⟩
section
variable{X:Cx}{pins:List (Addr×Obj)}{σ:St}{H H':Hp}{s:Shared}{E E':XK}
theorem cR.mem(L:cR X E):b∈jO X.stack↔b=X.env.locals∨b∈X.fs:=by
 unfold Cx.fs jO
 rw[L.st,List.filterMap_cons,L.fr]
 exact zc
theorem cR.xI(L:cR X E)(I:Inv X pins σ H s)(e:X.cH.heap.get? b=some o)(h:b∉X.fs):b∉jO X.stack:=fun z=>by
 rcases L.mem.mp z with z|z
 ·have:=zA e
  have h2:=I.ok.above
  rw[z] at this
  exact absurd (zo this h2) (yA _)
 ·exact h z
theorem cR.Sv(L:cR X E)(I:Inv X pins σ H s)(F:pI X.prog X.w X.stack H H' s.heap a cls a0 B h)(f2:Heap.FlyingW B X.outer a cls a0 h2)(u2:h.UpToSlots h2) :
  pI X.prog X.w X.outer X.rO H' X.cH.heap a cls a0 B h2 where
 fl:=f2
 aS:=F.aS
 keep:=fun b o e n hf=>F.keep b o (I.base.keep b o e n hf (by rw[L.ex];simp)) (I.base.free b o e n (by rw[L.ex];simp)) (L.xI I e hf)
 there:=fun b o e hf=>by
  obtain⟨o',q⟩:=I.base.there b o e (by rw[L.ex];simp)
  exact F.there b o' q (L.xI I e hf)
 slot:=fun b o e hf=>by
  obtain⟨sl,q⟩:=I.base.slot b o e (I.ok.Dh b hf) hf (by rw[L.ex];simp)
  obtain⟨AN,q1⟩:=F.slot b _ q (L.mem.mpr (.inr hf))
  obtain⟨_,o2,q2,hd⟩:=F.fl.2.2.1.mem (L.mem.mpr (.inr hf))
  obtain⟨xZ,q3⟩:=u2 b o2 q2 hd
  rw[q1] at q2;cases q2
  exact⟨xZ,q3⟩
 free:=fun b o e n=>by
  obtain⟨o',q⟩:=I.base.there b o e (by rw[L.ex];simp)
  exact F.free b o' q (I.base.free b o e n (by rw[L.ex];simp))
 dG:=fun b xs e=>F.dG b xs (I.base.dG b xs e)
 eY:=fun b o u e=>F.eY b o u (I.base.eY b o u e)
 eZ:=fun b ps e=>by
  obtain⟨m1,q1⟩:=I.base.eZ b ps e
  obtain⟨m2,q2⟩:=F.eZ b _ q1
  exact⟨m1++m2,by rw[q2,Array.append_assoc]⟩
theorem Kt(L:cR X E)(hE:∀c d H',E' c d H'→E c d H'):Passes (jM X.prog X.w) X E':=fun pins σ H s e s' I h=>by
 obtain⟨a,cls,a0,B,H',rfl,os,bare,F,q⟩:=h
 refine L.xe _ _ ?_
 have Ku:X.A.frames=some (X.env::X.outer):=by rw[I.ok.frames,L.st]
 have fl:Heap.FlyingW B (X.env::X.outer) a cls a0 s'.heap:=by rw[← L.st];exact F.fl
 exact wpAny_leaves_onW Ku L.fr fl fun h2 f2 u2=>⟨a,cls,a0,B,H',rfl,os.trans I.os,bare,L.Sv I F f2 u2,hE _ _ _ q⟩
theorem Hv(I:Inv X pins σ H s):jb X.prog X.w H (hideAll s.heap (jO X.stack)):=fun a o e =>
 (I.aS a o e).p_ (fun b u hb q=>hideAll_get _ q fun z=>by
  have n:=I.qa b z
  rcases hb with rfl|hb
  ·rw[e] at n;cases n
  ·rw[hb] at n;cases n) (fun _ q=>q) fun _ _ q=>q
theorem sj(L:cR X E)(I:Inv X pins σ H s)(hx:Heap.MadeExcOf s.heap h' a cls args)(hE:E cls none H):X.xe (.ref a) { s with heap:=h' }:=by
 refine L.xe _ _ ?_
 have Ku:X.A.frames=some (X.env::X.outer):=by rw[I.ok.frames,L.st]
 have Bp:∀env∈X.stack,∀b,env.frame=some b→b∈jO X.stack:=fun env he b hb=>List.mem_filterMap.mpr ⟨env,he,hb⟩
 have ff:s.heap.FunFrames (hideAll s.heap (jO X.stack)) (X.env::X.outer):=by rw[← L.st];exact PySem.W.funFrames_hide I.stack Bp
 refine wpAny_leaves_madeW (base:=hideAll s.heap (jO X.stack)) (h:=s.heap) Ku L.fr (fun b o q=>of_hideAll _ q) ff hx fun h2 t x1 x2 x3 x4=>?_
 refine⟨a,cls,.ref t,_,H,rfl,I.os,I.bare,⟨x1,Hv I,fun b o e n hf=>?_,fun b o e hf=>?_,fun b o e hf=>?_,fun b o e n=>I.base.free b o e n (by rw[L.ex];simp),I.base.dG,I.base.eY,I.base.eZ⟩,hE⟩
 ·exact hideAll_get _ (I.base.keep b o e n hf (by rw[L.ex];simp)) (L.xI I e hf)
 ·obtain⟨o',q⟩:=I.base.there b o e (by rw[L.ex];simp)
  exact⟨o',hideAll_get _ q (L.xI I e hf)⟩
 ·obtain⟨sl,q⟩:=I.base.slot b o e (I.ok.Dh b hf) hf (by rw[L.ex];simp)
  obtain⟨_,o2,q2,hd⟩:=I.jq.mem hf
  obtain⟨xZ,q3⟩:=x4 b o2 (hx.keeps _ _ q2) hd
  rw[q] at q2;cases q2
  exact⟨xZ,q3⟩
end
abbrev uU:List Value:=[.type "ValueError",.type "Exception",.type "BaseException",.type "object"]
structure XC(K:Frag)(C:Addr):Prop where
 q:excIn K C uU "ValueError.__new__" = true
def m5(h:Heap)(C:Addr)(bm:List Value):Prop:=∃N nm q bs hdct sn sub ab col dd k0 k1 k2 k3 k5 mN,
 h.get? C=some (excClassObj nm q C N bs bm hdct sn sub ab col dd k0 k1 k2 k3 k5 "ValueError.__new__")∧h.Ns N mN∧mN "__init__" = none∧OwnTail h uU bm
theorem XC.at{K:Frag}{C:Addr}{h:Heap}(x:XC K C)(X:K.In h):∃bm,m5 h C bm:=by
 have q:=x.q
 unfold excIn at q
 split at q
 ·rename_i dd cd sl ho
  split at q
  ·rename_i C' bm' k0 k1 k2 k3 n k5 hm hs
   simp only [zm,beq_iff_eq,Bool.not_eq_true'] at q
   obtain⟨⟨⟨⟨⟨q1,q2⟩,Kv⟩,ht⟩,aS⟩,MH⟩:=q
   subst q1;subst q2
   obtain⟨nm,bs,mro,ns,qn,hd,sn,sub,ab,col,del⟩:=cd
   dsimp only at hm Kv aS MH
   subst hm;subst Kv
   obtain⟨sl⟩:=sl
   dsimp only at hs
   subst hs
   exact⟨bm',ns,nm,qn,bs,hd,sn,sub,ab,col,dd,k0,k1,k2,k3,k5,_,X _ _ ho,.of_isNs (PySem.W.isNs_of_in X aS),PySem.W.nsMap_none_of_in X aS MH,PySem.W.tail_of_in X ht⟩
  ·cases q
 ·cases q
theorem m5.base(x:m5 h C bm):bm.contains (.type "BaseException")=true:=by
 obtain⟨_,_,_,_,_,_,_,_,_,_,_,_,_,_,_,_,_,_,_,T⟩:=x
 exact T.hasType (by decide)
section
variable{X:Cx}{C D:Addr}{QO:List Value}{x:Str}{np aO pos:Pos}{e:Expr}{es:List Expr}{t:TA}{E:XK}
theorem sk{M:Model}{A:Around}{E:Value→Shared→Prop}{h:Heap}{g:Array GenState}{d:Drawn}{tk:Nat}{os:OsState}{a:Addr}{oe:Obj}{b:Bool}{Q:Bool→Shared→Prop}(L:Looks M h (isSubtype (.ref C) (.ref D)) b)(cD:m5 h D QO)
  (he:h.get? a=some oe) (AW:oe.cls=.ref C) (hq:Q b ⟨h,g,d,tk,os⟩):wpAny M A (excMatches (.ref a) (.ref D)) Q E ⟨h,g,d,tk,os⟩:=by
 have Oy:=cD.base
 obtain⟨N',VJ,q',VL,QP,VM,Sw,VN,Sy,Sz,VO,VP,VQ,VR,VS,VT,hD,_,_,_⟩:=cD
 have Oz:(Value.ref D::QO).contains (.type "BaseException")=true:=by rw[List.contains_cons,Oy,Bool.or_true]
 have f:=tc_notTuple
 unfold excMatches
 repeat (first|(with_reducible refine wpAny_loadPart_at he ?_;rw[AW])|with_reducible refine wpAny_loadPart_at hD ?_|with_reducible refine L.at ?_|(with_reducible refine wpAny_isSubtype_exc hD ?_;rw[Oz])|wp_step)
 cases b <;> (wp_walk;exact hq)
end
def oE(a:Addr)(cls:Value):HO:=.ext fun h=>∃o vs,h.get? a=some o∧o.cls=cls∧o.data=.fields vs
section
variable{P:Program}{w:World}{outer:List Env}{H H':Hp}{h0:Heap}{a:Addr}{cls a0:Value}{B h:Heap}
theorem pI.fresh(F:pI P w outer H H' h0 a cls a0 B h)(e:h0.get? b=some o):b≠a:=by
 rintro rfl
 by_cases hf:b∈jO outer
 ·obtain⟨_,o1,q1,hd⟩:=F.fl.2.2.1.mem hf
  obtain⟨oe,vs,he,_,SA,_⟩:=F.fl.first
  rw[q1] at he;cases he
  exact hd vs SA
 ·obtain⟨o',q⟩:=F.there b o e hf
  rw[F.fl.2.1] at q;cases q
theorem pI.QQ(F:pI P w outer H H' h0 a cls a0 B h):Un (jO outer) [] H (upd H' a u) h0 h where
 keep:=F.un.keep
 slot:=F.un.slot
 free:=fun b o e n x=>by rw[aH (F.fresh e)];exact F.un.free b o e n x
 there:=F.un.there
 dG:=fun b xs e=>by
  have q:=F.dG b xs e
  rw[aH (aE q F.hn)];exact q
 eY:=fun b o xs e=>by
  have q:=F.eY b o xs e
  rw[aH (aE q F.hn)];exact q
 eZ:=fun b ps e=>by
  obtain⟨m,q⟩:=F.eZ b ps e
  exact⟨m,by rw[aH (aE q F.hn)];exact q⟩
theorem pI.Kw(F:pI P w outer H H' h0 a cls a0 B h):jb P w (upd H' a (oE a cls)) h:=fun b u e=>by
 by_cases hb:b=a
 ·subst hb
  rw[bN] at e;cases e
  obtain⟨oe,vs,he,hc,hd,_⟩:=F.fl.first
  exact⟨⟨oe,vs,he,hc,hd⟩,⟨oe,he⟩,by rintro h1 h2 ⟨o,vs,q,r⟩ k;exact⟨o,vs,k o q,r⟩⟩
 ·rw[aH hb] at e
  exact (F.Ox b u e).p_ (fun _ _ _ q=>q) (fun c q=>by rw[aH (aE q F.hn)];exact q) fun c xs q=>by rw[aH (aE q F.hn)];exact q
end
def XE(X:Cx)(pins:List (Addr×Obj))(E:St→XK)(e:Value)(s':Shared):Prop:=∃aw H1 s1,Inv X pins aw H1 s1∧jM X.prog X.w X.stack H1 s1 (E aw) e s'
abbrev TX:=(St→XK)→TS
def Kx(X:Cx)(st:List Stmt)(t:TX):Prop :=
 ∀(pins:List (Addr×Obj)) (s:Shared) (σ:St) (H:Hp) (D:Ends) (E:St→XK),Inv X pins σ H s→t E D σ H→wpAny (model X.prog X.w) X.A (execs st X.env) (SP X pins D) (XE X pins E) s
section
variable{X:Cx}{CX:uN}{k:Nat}{f C:Addr}{fd:FuncData}{ps:List Str}{sp:Sp}{xW:List V}{ds:List Value}{E:XK}{x m:Str}{p pos apos:Pos}{e o:Expr}{es:List Expr}{ta:TE}{t:TA}
end
section
variable{X:Cx}{e:Expr}{pos:Pos}{te:XK→TE}
end
abbrev Cx.g7(X:Cx)(a:Addr):Cx:={ X with A:=X.A.mark (some (.ref a)),calm:=false,xe:=fun _ _=>False }
section
variable{X:Cx}{pins:List (Addr×Obj)}{σ:St}{H:Hp}{s:Shared}
theorem Cx.Ok.g7(ok:X.Ok)(a:Addr):(X.g7 a).Ok :=
 ⟨ok.mod,ok.kind,ok.glob,ok.blt,ok.above,ok.inj,ok.has,ok.Gv,fun z=>(nomatch (show false=true from z)),ok.frames,ok.I_,ok.Mr,ok.bs,ok.AV,ok.uF,ok.xH,ok.jq,ok.Dh⟩
theorem Inv.g7(I:Inv X pins σ H s)(a:Addr):Inv (X.g7 a) pins σ H s:=⟨I.ok.g7 a,I.os,I.bare,I.base,I.loc,I.cell,I.free,I.eE,I.pin,I.aS,I.len⟩
theorem Inv.qm(I:Inv (X.g7 a) pins σ H s)(ok:X.Ok):Inv X pins σ H s:=⟨ok,I.os,I.bare,I.base,I.loc,I.cell,I.free,I.eE,I.pin,I.aS,I.len⟩
theorem name_goes(I:Inv X pins σ H s)(hN:X.N.Nodup)(hi:X.N[i]?=some n)(hx:X.env.scope.names.lookup n=some .local)
  (h:∀s',Inv X pins (σ.set i none) H s'→Q () s'):wpAny M A (do bindName X.env n .none;unbindBehindTheSuite X.env n pos) Q E s:=by
 obtain⟨m,hn,hl⟩:=id I.loc
 have AW:(X.env.scope.kind == .class || (X.env.scope.kind == .module && X.env.locals != X.env.globals))=false:=by rw[I.ok.kind];rfl
 have Dy:i<σ.length:=by rw[I.len];exact (zL.mp hi).1
 have old:∀b o,X.cH.heap.get? b=some o→b≠X.env.locals:=fun b o e=>zK (zo (zA e) I.ok.above)
 refine wpAny_nameGoes_keeps hx hn AW fun h' v Nt hs=>h _ ?_
 refine⟨I.ok,I.os,I.bare,⟨fun b o e n hb hx=>(hs.2 b (old b o e)).trans (I.base.keep b o e n hb hx),fun b o e n hb hx=>?_,I.base.free,fun b o e hx=>?_,I.base.dG,I.base.eY,I.base.eZ⟩,⟨_,Nt,fun j y v' e1 e2 e3=>?_⟩,fun y c e=>?_,I.free,I.eE,fun p hp=>?_,fun b ob e=>?_,by simpa using I.len⟩
 ·obtain⟨sl,e1⟩:=I.base.slot b o e n hb hx
  exact⟨sl,(hs.2 b (old b o e)).trans e1⟩
 ·obtain⟨o',e1⟩:=I.base.there b o e hx
  exact⟨o',(hs.2 b (old b o e)).trans e1⟩
 ·have hj:j≠i:=by
   rintro rfl
   rw[List.getElem?_set_self Dy] at e2
   cases e2
  rw[List.getElem?_set_ne (Ne.symm hj)] at e2
  obtain⟨u',r',q⟩:=hl j y v' e1 e2 e3
  refine⟨u',r',?_⟩
  have hy:y≠n:=fun e=>hj (mH hN e1 (e ▸ hi))
  rcases q with ⟨k,e⟩|⟨k,c,e,z⟩
  ·exact .inl ⟨k,by show (if y=n then v else m y)=some u';rw[if_neg hy];exact e⟩
  ·exact .inr ⟨k,c,e,z.sameBut hs (I.Dx y c e)⟩
 ·obtain⟨w',z⟩:=I.cell y c e
  exact⟨w',z.sameBut hs (I.Dx y c e)⟩
 ·obtain⟨e,n,ne,nf,d⟩:=I.pin p hp
  exact⟨(hs.2 p.1 ne).trans e,n,ne,nf,d⟩
 ·refine (I.aS b ob e).p_ (fun c w' hc q=>(hs.2 c ?_).trans q) (fun _ q=>q) fun _ _ q=>q
  rintro rfl
  rcases hc with z|z
  ·rw[← z,I.free] at e;cases e
  ·rw[I.free] at z;cases z
end
def Ends.less(D:Ends)(i:Nat):Ends:={ nx:=fun σ H=>D.nx (σ.set i none) H,rt:=D.rt,bk:=fun σ H=>D.bk (σ.set i none) H,ct:=fun σ H=>D.ct (σ.set i none) H }
def OA(K:Frag)(i:Nat)(C0:Addr)(tb:TX)(ts:TS):TS:=fun D σ H =>
 tb (fun aw cls _ H'=>∃C,cls=.ref C∧mroIn K C (.ref C0)=some true∧∀a,H' a=none→ts (D.less i) (aw.set i (some (.ref a))) (upd H' a (oE a (.ref C)))) D σ H
section
variable{X:Cx}{i:Nat}{n x:Str}{C0:Addr}{body su:List Stmt}{Bq:Stmt}{np Ea pos:Pos}{tb:TX}{ts:TS}
theorem Hw(wm:X.stack=X.env::X.outer)(fr:X.env.frame=some X.env.locals)(hN:X.N.Nodup)(hi:X.N[i]?=some n)(hx:X.env.scope.names.lookup n=some .local)(OB:Gl X x)(hm:X.mg x=some (.ref C0))(c0:XC X.K C0)
  (hb:Kx X body tb) (hs:∀a,uH (X.g7 a) (Bq::su) ts) (oA:(x == ("__debug__" : Str))=false:=by decide) :
  PS X (.Try body [.ExceptHandler (some (.Name x np)) (some n) (Bq::su) Ea] [] [] pos) (OA X.K i C0 tb ts):=by
 intro pins s σ H D I h
 refine wpAny_Try_except (yk (hb pins s σ H D _ I h) (fun f s1 q=>?_) fun e s1 q=>?_)
 ·cases f with
  |next =>
   obtain⟨aw,H',I',q⟩:=q
   exact wj pins s1 aw H' D I' q
  |ret v=>exact q
  |brk=>exact q
  |cont=>exact q
 ·obtain⟨aw,H1,s2,I2,a,cls,a0,B,H',rfl,os,bare,F,C,rfl,OC,hq⟩:=q
  have Ku:X.A.frames=some (X.env::X.outer):=by rw[I.ok.frames,wm]
  have fl:Heap.FlyingW B (X.env::X.outer) a (.ref C) a0 s1.heap:=by rw[← wm];exact F.fl
  refine wpAny_looks_onW Ku fr fl fun h4 Ky u4=>?_
  refine wpAny_landsW Ky fun h5 f5 u5=>?_
  have F5:pI X.prog X.w X.stack H1 H' s2.heap a (.ref C) a0 B h5:=F.on (by rw[wm];exact f5) (u4.trans u5)
  have I5:Inv X pins aw (upd H' a (oE a (.ref C))) { s1 with heap:=h5 }:=I2.AX (ch:=[]) os F5.QQ F5.Kw bare fun b z=>absurd z (by simp)
  refine wpAny_handleBy_cons (codeAny_handlers_test (mB (I5.g7 a) OB hm ?_ oA)) (by intro q;cases q)
  obtain⟨oe,vs,he,hc,hd,_⟩:=F5.fl.first
  obtain⟨QR,SE⟩:=c0.at I5.oz
  refine sk (PySem.W.looks_mroIn I5.oz OC) SE he hc ?_
  refine codeAny_handlers_suite_as ?_
  refine lands_againW f5 fun h6 f6 u6=>?_
  have F6:pI X.prog X.w X.stack H1 H' s2.heap a (.ref C) a0 B h6:=F5.on (by rw[wm];exact f6) u6
  have I6:Inv X pins aw (upd H' a (oE a (.ref C))) { s1 with heap:=h6 }:=I2.AX (ch:=[]) os F6.QQ F6.Kw bare fun b z=>absurd z (by simp)
  refine jQ (X:=X.g7 a) (I6.g7 a) hN hi (.inl hx) (v:=.ref a) rfl (fun s7 I7=>?_) (.inr hx)
  refine yk (hs a pins s7 _ _ _ I7 (hq a F.hn)) (fun f s8 q8=>?_) fun _ _ z=>False.elim z
  cases f with
  |next =>
   obtain⟨Eb,H8,I8,q8⟩:=q8
   exact name_goes (I8.qm I.ok) hN hi hx fun s9 I9=>⟨_,H8,I9,q8⟩
  |brk =>
   obtain⟨Eb,H8,I8,q8⟩:=q8
   exact name_goes (I8.qm I.ok) hN hi hx fun s9 I9=>⟨_,H8,I9,q8⟩
  |cont =>
   obtain⟨Eb,H8,I8,q8⟩:=q8
   exact name_goes (I8.qm I.ok) hN hi hx fun s9 I9=>⟨_,H8,I9,q8⟩
  |ret u =>
   obtain⟨v,Eb,H8,I8,r8,q8⟩:=q8
   exact name_goes (I8.qm I.ok) hN hi hx fun s9 I9=>⟨v,_,H8,I9,r8,q8⟩
end
section
variable{P:Program}{w:World}{K:Frag}{mg:Str→Option Value}{base:Heap}
end
structure XA(K:Frag)(C:Addr):Prop where
 ga:findIn K (.ref C) "__getattribute__" = some (some (.builtin "BaseException.__getattribute__"))
 gh:findIn K (.ref C) "__getattr__" = some none
 cl:findIn K (.ref C) "__class__" = some (some (.builtin "object.__class__"))
section
variable{prog:Program}{w:World}{A:Around}{E:Value→Shared→Prop}{h:Heap}{g:Array GenState}{d:Drawn}{t:Nat}{os:OsState}{a:Addr}{o:Obj}{C:Addr}{bm:List Value}{K:Frag}
theorem Hx(c:m5 h C bm)(Hy:bm.contains (.type "object")=true)(hx:h.get? a=some o)(hc:o.cls=.ref C)(hq:R (.ok (.ret (.ref C))) ⟨h,g,d,t,os⟩) :
  codeAny (model prog w) A (.call (.builtin "getset_descriptor.__get__") ⟨[.builtin "object.__class__",.ref a,.ref C],[]⟩) R ⟨h,g,d,t,os⟩:=by
 obtain⟨N,nm,q,bs,hdct,sn,sub,ab,col,dd,k0,k1,k2,k3,k5,mN,hC,_,_,_⟩:=c
 have QS:(⟨h,g,d,t,os⟩:Shared).TypeIs (.builtin "object.__class__") "getset_descriptor" := F.typeOf_object_class
 have ow : ".".intercalate ("object.__class__".cutAt '.').dropLast = "object" := by trivial
 have Oz:(Value.ref C::bm).contains (.type (".".intercalate ("object.__class__".cutAt '.').dropLast))=true:=by rw[ow,List.contains_cons,Hy,Bool.or_true]
 refine codeAny_call_builtin F.slot_gs_get.plain F.entry_gs_get (F.slot_gs_get.check _ _ _ _ _ _ _ _ QS (F.args_gs_get _ _ _) ?_)
 repeat (any_goals (first|assumption|(with_reducible refine wpAny_loadPart_at hx ?_;rw[hc])|(with_reducible refine wpAny_isSubtype_exc hC ?_;rw[Oz])|wp_step))
 refine⟨Code.quiet_builtin _ (by trivial),codeAny_builtin F.entry_object_class ?_⟩
 repeat (any_goals (first|assumption|(with_reducible refine wpAny_loadPart_at hx ?_;rw[hc])|wp_step))
theorem Br(c:m5 h C bm)(hx:h.get? a=some o)(hc:o.cls=.ref C)(hq:Q () ⟨h,g,d,t,os⟩):wpAny M A (checkBuiltinCall "BaseException.__getattribute__" ⟨[.ref a,nameV],[]⟩) Q E ⟨h,g,d,t,os⟩:=by
 have hb:=c.base
 obtain⟨N,nm,q,bs,hdct,sn,sub,ab,col,dd,k0,k1,k2,k3,k5,mN,hC,_,_,_⟩:=c
 have k1:builtinKind "BaseException.__getattribute__" = some .slot:=by trivial
 have k2:splitId "BaseException.__getattribute__" = some ("BaseException","__getattribute__"):=by trivial
 have hB:(Value.ref C::bm).contains (.type "BaseException")=true:=by rw[List.contains_cons,hb,Bool.or_true]
 have ha:=F.args_bexc_ga (.ref a) nameV
 simp only [checkBuiltinCall,k1,k2]
 refine zp ?_
 unfold isInstance
 repeat (first|(with_reducible refine wpAny_loadPart_at hx ?_;rw[hc])|(with_reducible refine wpAny_isSubtype_exc hC ?_;rw[hB])|wp_step)
 exact hq
theorem Bs(X:K.In h)(xa:XA K C)(c:m5 h C bm)(Hy:bm.contains (.type "object")=true)(hx:h.get? a=some o)(hc:o.cls=.ref C)(hq:Q (.done (.ret (.ref C))) ⟨h,g,d,t,os⟩) :
  wpAny (model prog w) A (Builtin.«object.__getattribute__» ⟨[.ref a,.str "__class__" tk],[]⟩) Q E ⟨h,g,d,t,os⟩:=by
 have QS:(⟨h,g,d,t,os⟩:Shared).TypeIs (.builtin "object.__class__") "getset_descriptor" := F.typeOf_object_class
 have L1:=looks_findIn (M:=model prog w) X xa.cl
 have f5:=F.typeOf_object_class
 have f6:=F.slot_gs_get.lookup
 have f7:=F.slot_gs_set.lookup
 repeat (any_goals (first|assumption|(with_reducible refine wpAny_loadPart_at hx ?_;rw[hc])|with_reducible refine L1.at ?_|wp_step))
 refine Hx c Hy hx hc ?_
 repeat (any_goals (first|assumption|wp_step))
theorem Kz(X:K.In h)(xa:XA K C)(c:m5 h C bm)(Hy:bm.contains (.type "object")=true)(hx:h.get? a=some o)(hc:o.cls=.ref C)(hq:Q (.ref C) ⟨h,g,d,t,os⟩) :
  wpAny (model prog w) A (getAttrBy (.ref a) (.str "__class__" tk) false) Q E ⟨h,g,d,t,os⟩:=by
 have FB:=F.attrBase_ValueError
 have f3:=FB.ga.bind (.ref a)
 have L1:=looks_findIn (M:=model prog w) X xa.ga
 have L2:=looks_findIn (M:=model prog w) X xa.gh
 have MI:(Value.builtin "BaseException.__getattribute__" == Value.builtin "object.__getattribute__")=false:=by trivial
 have VU:(false && onTheHeap (Value.builtin "BaseException.__getattribute__"))=false:=rfl
 have OD:(onTheHeap (Value.ref C) && Value.builtin "BaseException.__getattribute__" == Value.builtin "object.__getattribute__")=false:=by rw[MI];rfl
 repeat (any_goals (first|assumption|(with_reducible refine wpAny_loadPart_at hx ?_;rw[hc])|with_reducible refine L1.at ?_|with_reducible refine L2.at ?_|wp_step))
 refine codeAny_call_builtin FB.ga.plain F.entry_bexc_ga (Br c hx hc (Bs X xa c Hy hx hc ?_))
 repeat (any_goals (first|assumption|wp_step))
theorem Bt(X:K.In h)(xa:XA K C)(c:m5 h C bm)(Hy:bm.contains (.type "object")=true)(hx:h.get? a=some o)(hc:o.cls=.ref C)(hq:Q (some (.ref C)) ⟨h,g,d,t+1,os⟩) :
  wpAny (model prog w) A (getAttr? (.ref a) "__class__") Q E ⟨h,g,d,t,os⟩:=by
 unfold getAttr? getAttrBy?
 repeat (any_goals (first|assumption|with_reducible apply Kz X xa c Hy hx hc|wp_step))
end
theorem m5.obj(x:m5 h C bm):bm.contains (.type "object")=true:=by
 obtain⟨_,_,_,_,_,_,_,_,_,_,_,_,_,_,_,_,_,_,_,T⟩:=x
 exact T.hasType (by decide)
theorem sx{K:Frag}{a C:Addr}(c:XC K C)(xa:XA K C):KitX K (.ref a) (.ref C) (fun h=>∃o vs,h.get? a=some o∧o.cls=.ref C∧o.data=.fields vs) where
 ty:=by
  rintro M h X ⟨o,vs,hx,hc,_⟩
  exact hc ▸ (PySem.W.Looks.ld hx).andThen .now
 it:=fun M h X _=>by
  obtain⟨bm,N,nm,q,bs,hdct,sn,sub,ab,col,dd,k0,k1,k2,k3,k5,mN,hC,_,_,_⟩:=c.at X
  intro A Q E s k q
  unfold isType loadHead
  exact zp (wpAny_loadPart (k _ _ hC) (zB q))
 ne:=fun h tp dd ao n sl X SF=>by
  obtain⟨bm,N,nm,q,bs,hdct,sn,sub,ab,col,Sz,k0,k1,k2,k3,k5,mN,hC,_,_,_⟩:=c.at X
  refine Bool.eq_false_iff.mpr fun z=>?_
  have e:C=tp:=Value.ref.inj (beq_iff_eq.mp z)
  subst e
  have q:=congrArg (fun x=>x.map (·.cls)) (hC.symm.trans SF)
  have q:some (Value.type "type")=some (Value.type "tuple"):=q
  exact absurd q (by decide)
 ca:=fun {prog w A E Q s} X ⟨o,vs,hx,hc,_⟩ k=>by
  obtain⟨h,g,d,t,os⟩:=s
  obtain⟨bm,c'⟩:=c.at X
  exact Bt X xa c' c'.obj hx hc k
section
variable{X:Cx}
theorem qo:dY X (.builtin "isinstance") (fun xs H Q=>∃a C c u b,xs=[.ref a,c]∧H a=some (oE a (.ref C))∧XC X.K C∧XA X.K C∧RelV c u∧(∀u',RelV c u'→u'=u)∧kitOne X.K (.ref C) u=some b∧Q (.bl b) H):=by
 intro pins s σ H xs us Q I r h
 obtain⟨a,C,c,u,b,rfl,ha,cC,xa,rc,uc,e,q⟩:=h
 obtain⟨v,w',rfl,rv,qf⟩:=vals2 r
 have:=uc w' qf
 subst this
 cases (show v=Value.ref a from rv)
 obtain⟨p,_⟩:=I.aS a _ ha
 exact kia_one (sx cC xa) I.oz p e (fun z=>nomatch z) fun tk=>⟨.bl b,H,I.tok tk,rfl,q⟩
end
section
variable{X:Cx}
theorem KA(L:cR X E):Passes (jM X.prog X.w) X E:=Kt L fun _ _ _ h=>h
end
theorem je{X:Cx}{K:Frag}(hK:X.K=K):dY X (.builtin "isinstance") (fun xs H Q=>∃a C c u b,xs=[.ref a,c]∧H a=some (oE a (.ref C))∧XC K C∧XA K C∧RelV c u∧(∀u',RelV c u'→u'=u)∧kitOne K (.ref C) u=some b∧Q (.bl b) H):=by
 subst hK
 exact qo
theorem oF:bootBuiltins "ValueError" = some (.type "ValueError"):=PyProof.Rows.Boot.«ValueError»
section
variable{prog:Program}{w:World}{A:Around}{R:Result→Shared→Prop}{I:Addr}{fp wr:List Addr}{G:Array GenState→Array GenState→Prop}{n:Nat}{P:Nat→Value→Prop}{St:Nat→Shared→Prop}
end
section
variable{X:Cx}
end
theorem gH:entryFor table "dict.update.loop" = some Builtin.«dict.update.loop»:=entryFor_of_tree (by kernel_rfl)
theorem cE:plainId "dict.update.loop" = true:=by trivial
theorem oG:typeLookup (.type "tuple") "keys" = pure none:=by rw[typeLookup_type,builtinLookup_eq_fast];kernel_rfl
section
variable{prog:Program}{w:World}{A:Around}{E:Value→Shared→Prop}{s:Shared}
theorem oH(hx:s.heap.get? a=some o)(hc:o.cls=.type "tuple")(KC:o.data=.seq xs k)(hd:o.dict=none)(hA:A.handled=none)
  (h:∀h' tk,(∀b ob,s.heap.get? b=some ob→h'.get? b=some ob)→Q none { s with heap:=h',toks:=tk }):wpAny (model prog w) A (getAttr? (.ref a) "keys") Q E s:=by
 obtain⟨c,iT,dat,sl⟩:=o
 simp only at hc KC hd
 subst hc KC hd
 obtain⟨hp,g,d,tk,os⟩:=s
 have hT:∀MJ,(⟨hp,g,d,MJ,os⟩:Shared).TypeIs (.ref a) "tuple" := fun _=>⟨_,hx,rfl⟩
 have f1:=sub_AttributeError ;have f3:=F.slot_tuple_getattribute.lookup
 have f4:=F.slot_tuple_getattribute.bind (.ref a) ;have f5:=am_tuple_getattr_none
 unfold getAttr? getAttrBy? getAttrBy
 repeat (any_goals (first|assumption|exact hT _|((with_reducible show wpAny _ _ (call (Value.builtin "tuple.__getattribute__") _ _) _ _ _);refine yB F.slot_tuple_getattribute (hT _) am_entry_tuple_getattribute (F.args_tuple_getattribute_2 _ _) (meets_getattribute_miss_tuple a xs k sl "keys" _ oG (by trivial) (by size_fits)) ⟨hx,hA,fun h' MJ e KG=>?_⟩)|wp_step))
 obtain⟨t',u',he⟩:=KG.there
 show wpAny _ _ (getattributeRaised _ _ _ _ _ _ _) _ _ _ ;unfold getattributeRaised
 repeat (any_goals (first|assumption|wp_step))
 exact h _ _ KG.keeps
end
section
variable{prog:Program}{w:World}{A:Around}{R:Result→Shared→Prop}{I:Addr}{fp wr:List Addr}{G:Array GenState→Array GenState→Prop}{n:Nat}{P:Nat→Value→Prop}{St:Nat→Shared→Prop}
theorem yN(W:WalksS prog w A.in1 I fp wr G n P St)(D:Addr)(QT:D∉fp)(kvs:List (Key×Value))(hx:kvs.length=n)(base:Heap)
  (OE:∀i v,P i v→∃(b:Addr) (k:Key) (key val:Value) (o:Obj) (m:Nat),kvs[i]?=some (k,val)∧v=.ref b∧(aG prog w).is k key=true∧base.get? b=some o∧o.cls=.type "tuple" ∧ o.data=.seq #[key,val] m∧b≠D∧b∉wr) (hb:n≤sizeLine) :
  ∀(k i:Nat) (s:Shared) (c:Int) (t:Tok),i+k=n→St i s→s.heap.DictOf (aG prog w) D (merged [] (kvs.take i))→(∀b o,base.get? b=some o→b≠D→b∉wr→s.heap.get? b=some o) →
   (∀s',Moved (D::wr) G s s'→s'.heap.DictOf (aG prog w) D (merged [] kvs)→R (.ok (.ret .none)) s') →
   codeAny (model prog w) A (.builtin "dict.update.loop" ⟨[.ref D,.ref I,.int c t,.none],[]⟩) R s:=by
 have nw:D∉wr:=fun h=>QT (W.sub _ h)
 have up:∀b∈wr,b∈D::wr:=fun b hb=>zd _ hb
 intro k
 induction k with
 |zero =>
  intro i s c t hk wm hS hB hR
  have e:i=n:=by lia
  subst e
  refine codeAny_builtin gH ?_ ;rw[Around.under_plainId cE _]
  show wpAny _ A.in1 (pyNext (.ref I) >>= _) _ _ s ;refine zp (W.done s _ _ wm fun s' hm=>?_)
  show wpAny _ A.in1 (Builtin.Dict.addKeywords D [] >>= _) _ _ s'
  have q:s'.heap.DictOf (aG prog w) D (merged [] (kvs.take i)):=by
   obtain⟨o,es,ep,ho,rest⟩:=hS
   exact⟨o,es,ep,hm.heap D _ nw ho,rest⟩
  rw[← hx,List.take_length] at q
  exact zp (zB (zB (hR s' (hm.mono up) q)))
 |succ k ih =>
  intro i s c t hk wm hS hB hR
  have lt:i<n:=by lia
  refine codeAny_builtin gH ?_ ;rw[Around.under_plainId cE _]
  show wpAny _ A.in1 (pyNext (.ref I) >>= _) _ _ s ;refine zp (W.item i s _ _ lt wm fun v s' hP OF hm=>?_)
  obtain⟨b,ky,key,val,o,m,ek,rfl,G0,ho,hc,hd,Oy,MK⟩:=OE i v hP
  have q:s'.heap.DictOf (aG prog w) D (merged [] (kvs.take i)):=by
   obtain⟨o,es,ep,ho,rest⟩:=hS
   exact⟨o,es,ep,hm.heap D _ nw ho,rest⟩
  have QU:s'.heap.get? b=some o:=hm.heap b o MK (hB b o ho Oy MK)
  have room:(merged [] (kvs.take i)).length≤sizeLine:=by have:=merged_length_le ([]:List (Key×Value)) (kvs.take i);rw[List.length_take] at this;simp at this;lia
  have tk:merged [] (kvs.take (i+1))=stored (merged [] (kvs.take i)) ky val:=merged_take_succ [] kvs i (ky,val) ek
  refine zp (wpAny_holding (zp (wpAny_tryCatch ?_)))
  unfold Builtin.Dict.pairItems
  refine zp (wpAny_typeOf (T := "tuple") ⟨o,QU,hc⟩ ?_)
  show wpAny _ A.in1 (seqItems? (.ref b) >>= _) _ _ s'
  refine zp (wpAny_seqItems QU hd (zB ?_))
  show wpAny _ A.in1 (holding [key,val] (dictSet D key val)) _ _ s'
  refine wpAny_holding (wpAny_dictSet_pairs G0 q (fun h' q2 OG=>?_) room)
  rw[← tk] at q2
  refine zB ⟨plainId_quiet cE _,ih (i+1) _ _ _ (by lia) (W.frame _ s' _ _ OF (Nat.le_succ _) fun b hb o e=>?_) q2 (fun b o e h1 h2=>?_) fun DU OH SG=>?_⟩
  ·rw[OG.2 b (fun h:b=D=>QT (by rw[← h];exact hb))] ;exact e
  ·rw[OG.2 b h1] ;exact hm.heap b o h2 (hB b o e h1 h2)
  ·refine hR DU (Moved.trans W.gtrans ((hm.mono up).then_heap (Nat.le_succ _) fun b o hb e=>?_) OH) SG
   rw[OG.2 b (fun h:b=D=>hb (by rw[h];exact zf))] ;exact e
theorem oI(hh:A.handled=none)(gl:s.heap.get? l=some ol)(cl:ol.cls=.type "tuple")(dl:ol.data=.seq items m)(nl:ol.dict=none)(hx:kvs.length=items.size)
  (hi:∀(i:Nat) (v:Value),items[i]?=some v→∃(b:Addr) (k:Key) (key val:Value) (o:Obj) (m:Nat),kvs[i]?=some (k,val)∧v=.ref b∧(aG prog w).is k key=true∧s.heap.get? b=some o∧o.cls=.type "tuple" ∧ o.data=.seq #[key,val] m) (hb:items.size≤sizeLine)
  (h:∀(h':Heap) (tk:Nat),h'.DictOf (aG prog w) s.heap.objs.size (merged [] kvs)→(∀b o,s.heap.get? b=some o→h'.get? b=some o)→Q (.ref s.heap.objs.size) { s with heap:=h',toks:=tk }) :
  wpAny (model prog w) A (call (.type "dict") [.ref l]) Q E s:=by
 refine callType_codes (Q₁:=fun obj s₁=>obj=.ref s.heap.objs.size∧s₁={ s with heap:=s.heap.push { cls:=.type "dict",data:=.dict #[] } }) F.kt_called_dict (F.kt_typeCall_dict_1 _) F.entry_dict_init (kt_code_dict_new _ ⟨rfl,rfl⟩) ?_
 rintro obj s₁ ⟨rfl,rfl⟩
 have Hz:(s.heap.push { cls:=.type "dict",data:=.dict #[] }).DictOf (aG prog w) s.heap.objs.size []:=Heap.DictOf.new s.heap
 have OI:(s.heap.push { cls:=.type "dict",data:=.dict #[] }).get? l=some ol:=zt _ gl
 refine⟨Hz.typeIs,F.args_dict_init_2 _ _,?_⟩
 unfold Builtin.«dict.__init__»
 refine zp ?_
 unfold Builtin.Dict.selfAndRest
 refine zp (wpAny_notOrdered_dict Hz.typeIs ?_) ;show wpAny _ _ (pure (s.heap.objs.size,[Value.ref l])) _ _ _
 refine zB ?_ ;show wpAny _ _ (Builtin.Dict.updateFrom "dict.__init__" s.heap.objs.size (.ref l) [] .none) _ _ _
 unfold Builtin.Dict.updateFrom
 refine zp (wpAny_typeOf (T := "tuple") ⟨ol,OI,cl⟩ ?_) ;rw[if_pos (by decide)]
 have h3:A.in1.in1.handled=none:=by simp [hh]
 refine zp (oH OI cl dl nl h3 fun h1 SH ML=>?_)
 have g1:h1.get? l=some ol:=ML _ _ OI
 have d1:h1.DictOf (aG prog w) s.heap.objs.size []:=by
  obtain⟨o,es,ep,ho,rest⟩:=Hz
  exact⟨o,es,ep,ML _ _ ho,rest⟩
 have lD:s.heap.objs.size<h1.objs.size:=by obtain⟨o,es,ep,ho,rest⟩:=d1;exact zA ho
 have ll:l<s.heap.objs.size:=zA gl
 show wpAny _ _ (rule _ >>= _) _ _ _ ;refine zp (wpAny_rule ?_)
 have QV:h1.IsTuple l items:=⟨ol,g1,cl,m,dl⟩
 refine zp (wpAny_pyIter_tuple (s:=⟨h1,s.gens,s.drawn,SH,s.os⟩) QV ?_)
 have ne:l≠h1.objs.size:=zK (Nat.lt_trans ll lD)
 have nf:s.heap.objs.size∉[h1.objs.size,l]:=by
  simp only [zc,zM,zw,or_false,not_or] ;exact⟨zK lD,Nat.ne_of_gt ll⟩
 refine zB ⟨plainId_quiet cE _,?_⟩
 refine yN ((Walks.tuple h3 _ l ne items).toS) s.heap.objs.size nf kvs hx s.heap (fun i v e=>?_) hb (items.size - 0) 0 _ _ _ (by lia) ⟨⟨_,zU _ rfl,rfl,rfl⟩,QV.push _⟩ ?hS0 ?hB ?hR
 ·obtain⟨b,k,key,val,o,m',e1,e2,e3,e4,e5,e6⟩:=hi i v e
  have lb:=zA e4
  exact⟨b,k,key,val,o,m',e1,e2,e3,e4,e5,e6,zK lb,by simp;exact zK (Nat.lt_trans lb lD)⟩
 case hS0=>exact d1.push _
 case hB=>exact fun b o e QW uV=>zt _ (ML _ _ (zt _ e))
 case hR =>
  intro s' hm q
  obtain⟨h',g',d',MJ,NY⟩:=s'
  have eg:g'=s.gens:=hm.gens ;have ed:d'=s.drawn:=hm.drawn ;have eo:NY=s.os:=hm.os
  subst eg ;subst ed ;subst eo
  refine⟨rfl,h h' MJ q fun b o e=>?_⟩
  have lb:=zA e
  refine hm.heap b o ?_ (zt _ (ML _ _ (zt _ e)))
  simp only [zc,zM,zw,or_false,not_or] ;exact⟨zK lb,zK (Nat.lt_trans lb lD)⟩
end
def wG(l:List (Str×V)):List (Key×V):=l.foldl (fun c p=>putK c (.inr p.1) p.2) []
def QX(H:Hp)(ps:List V)(kvs:List (Str×V)):Prop:=kvs.length=ps.length∧∀(i:Nat) (x:V) (p:Str×V),ps[i]?=some x→kvs[i]?=some p→∃b,x=.ref b∧H b=some (.tup [.str p.1,p.2])
section
variable{X:Cx}
theorem uW(hc:X.calm=true):dY X (.type "dict") (fun vs H Q=>∃p ps kvs,vs=[.ref p]∧H p=some (.tup ps)∧QX H ps kvs∧∀l,H l=none→Q (.ref l) (upd H l (.dK (wG kvs)))):=by
 intro pins s σ H vs us Q I r h
 obtain⟨p,ps,kvs,rfl,hp,⟨hl,hq⟩,q⟩:=h
 obtain⟨u,rfl,rx⟩:=vals1 r
 cases rx
 obtain⟨hz,ao,rv,ol,gl,cl,nl,m,dl⟩:=(show bh X.prog X.w H s.heap p (.tup ps) from I.aS p _ hp)
 have hlen:=rv.length
 -- the pairs as values
 have each:∀(i:Nat) (x:V) (pr:Str×V),ps[i]?=some x→kvs[i]?=some pr→∃(b:Addr) (key val:Value) (o:Obj) (m:Nat),ao[i]?=some (.ref b)∧(aG X.prog X.w).is (.inr pr.1) key=true∧RelV pr.2 val∧s.heap.get? b=some o∧o.cls=.type "tuple" ∧ o.data=.seq #[key,val] m:=by
  intro i x pr e1 e2
  obtain⟨b,rfl,hb⟩:=hq i x pr e1 e2
  obtain⟨u,e3,ru⟩:=rv.get e1
  cases ru
  obtain⟨_,VV,r2,o,go,co,no,m2,SI⟩:=(show bh X.prog X.w H s.heap b (.tup [.str pr.1,pr.2]) from I.aS b _ hb)
  obtain⟨k',v',rfl,⟨tk,rfl⟩,SJ⟩:=r2.two
  exact⟨b,_,v',o,m2,e3,gW _ _ _ _,SJ,go,co,by simpa using SI⟩
 have kv:∃vals:List (Key×Value),KV (kvs.map fun p=>((.inr p.1:Key),p.2)) vals∧∀(i:Nat) (x:V),ps[i]?=some x→∃(b:Addr) (k:Key) (key val:Value) (o:Obj) (m:Nat),vals[i]?=some (k,val)∧ao[i]?=some (.ref b)∧(aG X.prog X.w).is k key=true∧s.heap.get? b=some o∧o.cls=.type "tuple" ∧ o.data=.seq #[key,val] m:=by
  clear hp q rv dl hz
  induction kvs generalizing ps ao with
  |nil =>
   refine⟨[],.nil,fun i x e=>?_⟩
   have:ps=[]:=zD (by simpa using hl.symm)
   subst this
   simp at e
  |cons pr r ih =>
   cases ps with
   |nil=>simp at hl
   |cons y ys =>
    cases ao with
    |nil=>simp at hlen
    |cons w0 ws =>
     obtain⟨b,key,val,o,m,e1,e2,e3,e4,e5,e6⟩:=each 0 y pr rfl rfl
     obtain⟨vals,k1,k2⟩:=ih ys (by simpa using hl) (fun i x p a b=>hq (i+1) x p (by simpa using a) (by simpa using b)) ws (by simpa using hlen) (fun i x p a b=>by simpa using each (i+1) x p (by simpa using a) (by simpa using b))
     refine⟨(.inr pr.1,val)::vals,.cons ⟨rfl,e3⟩ k1,fun i x e=>?_⟩
     cases i with
     |zero=>exact⟨b,.inr pr.1,key,val,o,m,rfl,e1,e2,e4,e5,e6⟩
     |succ i=>simpa using k2 i x (by simpa using e)
 obtain⟨vals,QY,SK⟩:=kv
 have lv:vals.length=ao.length:=by have:=QY.length;rw[za] at this;lia
 refine oI (kvs:=vals) (I.ok.hd hc) gl cl dl nl (by simpa using lv) (fun i v e=>?_) (by simp;lia) fun h' tk qs kp=>?_
 ·have e':ao[i]?=some v:=by simpa using e
  have hi:i<ao.length:=(zL.mp e').1
  obtain⟨b,k,key,val,o,m',e1,e2,e3,e4,e5,e6⟩:=SK i (ps[i]'(by lia)) (zJ _)
  rw[e'] at e2
  exact⟨b,k,key,val,o,m',e1,zO e2,e3,e4,e5,e6⟩
 ·have rel:KV (wG kvs) (merged [] vals):=by
   have all:∀(l:List (Str×V)) (vl:List (Key×Value)) (c:List (Key×V)) (cv:List (Key×Value)),KV (l.map fun p=>((.inr p.1:Key),p.2)) vl→KV c cv→KV (l.foldl (fun c p=>putK c (.inr p.1) p.2) c) (merged cv vl):=by
    intro l
    induction l with
    |nil=>intro vl c cv h1 h2;cases h1;exact h2
    |cons p r ih =>
     intro vl c cv h1 h2
     cases h1 with
     |@cons _ q _ qs r1 r2 =>
      obtain⟨k,v⟩:=q
      obtain⟨rfl,rv⟩:=r1
      exact ih qs _ _ r2 (h2.put _ rv)
   exact all kvs vals [] [] QY .nil
  have big:=I.big
  refine⟨.ref s.heap.objs.size,_,I.laid (t':=tk) (fun b o e=>kp b o e) (zi _) (o:=.dK (wG kvs)) ⟨?_,?_,_,rel,qs⟩,rfl,q _ (I.aS.fresh (zi _))⟩
  ·have e1:=rel.length
   have e2:=merged_length_le ([]:List (Key×Value)) vals
   simp at e2
   lia
  ·simp;exact Nat.ne_of_gt big
end
section
variable{X:Cx}
def KH(K:Frag):R2:=fun x y H Q=>∃a b xs ys,x=.ref a∧y=.ref b∧kU K H a xs∧kU K H b ys∧xs.length+ys.length≤sizeLine ∧
 (xs=[]→Q (.ref b) H)∧(xs≠[]→ys=[]→Q (.ref a) H)∧(xs≠[]→ys≠[]→∀p,H p=none→Q (.ref p) (upd H p (.tup (xs++ys))))
theorem Ec:eX X (binaryOp .Add) (KH X.K):=by
 intro pins s σ H x y v u Q I rx ry h
 obtain⟨a,b,xs,ys,rfl,rfl,ha,hb,hz,q0,q1,q2⟩:=h
 by_cases hx:xs=[]
 ·cases rx
  cases ry
  obtain⟨ao,r1,p1,_⟩:=I.tuple ha
  obtain⟨mQ,r2,p2,_⟩:=I.tuple hb
  obtain⟨⟨cls,dd,data,sl⟩,ho,hc,n,hd⟩:=id p1
  obtain⟨⟨N2,Mx,data2,xZ⟩,x5,Fz,n2,hd2⟩:=id p2
  simp only at hc hd Fz hd2
  subst hc hd Fz hd2
  have e:ao=[]:=r1.mD.mpr hx
  exact concat_meets ⟨_,ho,rfl⟩ ⟨_,x5,rfl⟩ noFill_tuple_add seq_tuple_add PySem.F.slot_tuple_add PySem.F.entry_tuple_add (PySem.F.args_tuple_add_2 _ _)
   (tuple_addW0 a b ao.toArray mQ.toArray n n2 dd Mx sl xZ (by simp [e])) ⟨ho,x5,.ref b,H,I,rfl,q0 hx⟩
 ·exact DZ pins s σ H _ _ v u Q I rx ry ⟨a,b,xs,ys,rfl,rfl,ha,hb,hx,hz,q1 hx,q2 hx⟩
end
def yO:PyData→Kd
 |.none=>.aK|.bool _=>.bl|.int _=>.int|.str _=>.str|.list _=>.lst|.tuple _=>.tup|.dict _=>.iT
section
variable{H H':Hp}{K:Frag}
end
section
variable{σ:St}{H:Hp}{te tb:TE}{ta:TA}{d:PyData}{ds:List PyData}
end
section
variable{prog:Program}{w:World}{A:Around}{E:Value→Shared→Prop}{s:Shared}
end
section
variable{prog:Program}{w:World}{A:Around}{E:Value→Shared→Prop}{s:Shared}{n l0 l1:Nat}{i:Nat}{OJ OK:Array Value}
end
section
variable{X:Cx}{pins:List (Addr×Obj)}{σ:St}{H:Hp}{s:Shared}{h':Heap}
end
def Ed(K:Frag):V→List V→Hp→VK→Prop:=fun x vs H Q=>∃(a:Addr) (xs:List V) (y z:V) (j:Nat),x=.ref a∧vs=[y]∧i7 K H a xs∧fH y=true∧xs.all fH=true∧xs[j]?=some z∧eqV z y=true∧(∀m u,m<j→xs[m]?=some u→eqV u y=false)∧Q (.int j) H
theorem yP:Dm X "list.index" (Ed X.K):=by
 intro pins s σ H x vs v us Q I rx rv h
 obtain⟨a,xs,y,z,j,rfl,rfl,hq,fy,fx,hj,hit,Dk,q⟩:=h
 cases rx
 obtain⟨u,rfl,ru⟩:=rv.one
 obtain⟨ao,r,p,hz⟩:=I.list hq
 obtain⟨⟨cls,dd,data,sl⟩,ho,hc,n,hd⟩:=p.isList
 simp only at hc hd
 subst hc hd
 have hl:=r.length
 have AM:j<xs.length:=(zL.mp hj).1
 have fl:∀(m:Nat) (w:V),xs[m]?=some w→fH w=true:=fun m w e=>zS.mp fx w (z0 e)
 have at':∀(m:Nat) (hm:m<ao.toArray.size) (w:V),xs[m]?=some w→rY y ao.toArray[m]=eqV w y:=fun m hm w e=>by
  obtain⟨u',e',SM⟩:=r.get e
  have:ao.toArray[m]=u':=by
   have:=zL.mp e'
   simpa using this.2
  rw[this]
  exact uP SM (fl m w e)
 have hs:sizeLine=16777216:=yn
 refine yB PySem.F.slot_list_index ⟨_,ho,rfl⟩ PySem.F.entry_list_index (PySem.F.args_list_index_2 _ _) (SeqAt.list_indexAt a ao.toArray n dd sl u (rY y) j (by simp;lia) (by lia) ?_ ?_) ⟨ho,fun w hw=>fI ru fy r fx w (by simpa using hw),⟨.int j,H,I.tok _,⟨_,rfl⟩,q⟩⟩
 ·rw[at' j _ z hj];exact hit
 ·intro m hm SN
  have QZ:m<xs.length:=by lia
  rw[at' m hm _ (zJ QZ)]
  exact Dk m _ SN (zJ QZ)
def KI:R2:=fun x y H Q=>∃z n,x=.str z∧y=.int n∧MulOk z n∧Q (.str (PySem.Txt.mul z n)) H
theorem uX:eX X (binaryOp .Mult) KI:=by
 intro pins s σ H x y v u Q I rx ry h
 obtain⟨z,n,rfl,rfl,hm,q⟩:=h
 obtain⟨t,rfl⟩:=rx
 obtain⟨t',rfl⟩:=ry
 exact SB.mul hm fun VW k=>⟨.str _,H,I.tok k,⟨_,rfl⟩,q⟩
section
variable{σ:St}{H:Hp}{te tb:TE}{K:Frag}
end
def KJ(w:World)(K:Frag)(a:Addr)(kvs:List (Str×V)):Prop:=(a == sysModules)=false∧∃(o:Obj) (es:Array DictEntry) (ep:Nat),K.lookup a=some o∧o.ExactDict∧o.data=.dict es ep ∧
 Paired (fun (e:DictEntry) (kv:Str×V)=>e.hash=hashStr w kv.1∧(∃t,e.key=.str kv.1 t)∧RelV kv.2 e.val) es.toList kvs∧(kvs.map Prod.fst).Nodup
theorem sy(z:Str):∀kvs:List (Str×V),jU (kvs.map fun p=>((.inr p.1:Key),p.2)) (.inr z)=kvs.lookup z
 |[]=>rfl
 | (x,v)::r=>by
  rw[zz,zQ]
  by_cases e:z=x
  ·subst e
   rw[mS rfl]
   simp
  ·have e1:(z == x)=false:=by simpa using e
   rw[mT (fun q=>e (Sum.inr.inj q).symm),e1]
   exact sy z r
section
variable{X:Cx}{pins:List (Addr×Obj)}{σ:St}{H:Hp}{s:Shared}{a:Addr}{kvs:List (Str×V)}
theorem Bu(I:Inv X pins σ H s)(d:KJ X.w X.K a kvs):(a == sysModules)=false∧∃vs,KV (kvs.map fun p=>((.inr p.1:Key),p.2)) vs∧s.heap.DictOf (aG X.prog X.w) a vs:=by
 obtain⟨ns,o,es,ep,hk,hx,hd,hp,hn⟩:=d
 have all:∀(es:List DictEntry) (kvs:List (Str×V)),Paired (fun (e:DictEntry) (kv:Str×V)=>e.hash=hashStr X.w kv.1∧(∃t,e.key=.str kv.1 t)∧RelV kv.2 e.val) es kvs →
   ∃vs:List (Key×Value),KV (kvs.map fun p=>((.inr p.1:Key),p.2)) vs∧Pairs (aG X.prog X.w) es vs∧vs.map (·.1)=kvs.map (fun p=>(.inr p.1:Key))∧∀e∈es,∃k,(aG X.prog X.w).is k e.key=true∧e.hash=(aG X.prog X.w).hash k:=by
  intro es kvs hp
  induction hp with
  |nil=>exact⟨[],.nil,.nil,rfl,by simp⟩
  |@cons e kv Mt kvs' h t ih =>
   obtain⟨vs,k1,k2,k3,k4⟩:=ih
   obtain⟨h1,⟨tk,h2⟩,h3⟩:=h
   have hi:(aG X.prog X.w).is (.inr kv.1) e.key=true:=by rw[h2];exact gW _ _ _ _
   refine⟨(.inr kv.1,e.val)::vs,.cons ⟨rfl,h3⟩ k1,.cons hi rfl k2,by rw[zz,zz,k3],fun e' he=>?_⟩
   rcases zc.mp he with rfl|he
   ·exact⟨.inr kv.1,hi,h1⟩
   ·exact k4 e' he
 obtain⟨vs,k1,k2,k3,k4⟩:=all _ _ hp
 refine⟨ns,vs,k1,o,es,ep,I.oz a o hk,hx,hd,fun e he=>k4 e (by simpa using he),k2,?_⟩
 rw[k3]
 have:(kvs.map fun p=>(.inr p.1:Key))=(kvs.map Prod.fst).map Sum.inr:=by rw[zR];rfl
 rw[this]
 exact List.Pairwise.map _ (fun x y h q=>h (Sum.inr.inj q)) hn
def KL(w:World)(K:Frag):V→List V→Hp→VK→Prop:=fun x vs H Q=>∃a z kvs,x=.ref a∧vs=[.str z]∧KJ w K a kvs∧Q ((kvs.lookup z).getD .aK) H
theorem Ee{w:World}{K:Frag}(hw:X.w=w)(hK:X.K=K):Dm X "dict.get" (KL w K):=by
 subst hw hK
 intro pins s σ H x vs v us Q I rx rv h
 obtain⟨a,z,kvs,rfl,rfl,d,q⟩:=h
 cases rx
 obtain⟨u,rfl,ru⟩:=rv.one
 obtain⟨ns,vs,rel,dd⟩:=Bu I d
 refine call_meetsIn PySem.F.slot_dict_get dd.typeIs PySem.F.entry_dict_get (PySem.F.args_dict_get_2 _ _) (meets_dict_get (aG X.prog X.w) a (pB (k:=.inr z) ru) ns) ⟨_,dd.mapOf,_,H,I.tok _,?_,q⟩
 rw[← sy]
 exact (rel.val (.inr z)).getD rfl
theorem Bv{w:World}{K:Frag}{o e:Expr}{apos aO:Pos}{td ty:TE}(hw:X.w=w)(hK:X.K=K)(ho:PE X o td)(he:PE X e ty)(m:M1 X o "get" apos e aO):PE X (.Call (.Attribute o "get" apos) [e] [] aO)
  (fun σ H Q=>td σ H fun x H1=>∃a kvs,x=.ref a∧KJ w K a kvs∧ty σ H1 fun y H2=>∃z,y=.str z∧Q ((kvs.lookup z).getD .aK) H2):=by
 subst hw hK
 intro pins s σ H Q I h
 refine wpAny_Call_method m.base m.Bf m.line PySem.F.plainAttrs_dict PySem.F.slot_dict_get PySem.F.type_dict_get (bA (ho pins s σ H _ I h) fun u s1 ⟨x,H1,I1,rx,a,kvs,ex,d,q1⟩=>?_)
 subst ex
 obtain rfl:u=Value.ref a:=rx
 obtain⟨ns,vs,rel,dd⟩:=Bu I1 d
 obtain⟨ob,_,_,h1,h2,_⟩:=id dd
 refine⟨dd.typeIs,fun b q=>by cases q;exact⟨ob,h1,h2.2.1⟩,?_⟩
 rw[m.trees]
 refine Calls.callWith_builtin rfl (Calls.evalArgs_plain (ye (bA (he pins s1 σ H1 _ I1 q1) fun iv s2 ⟨y,H2,I2,ry,z,ey,q2⟩=>Calls.spliced_nil ?_)))
 subst ey
 exact Ee rfl rfl pins s2 σ H2 (.ref a) [.str z] _ [iv] Q I2 rfl (.cons ry .nil) ⟨a,z,kvs,rfl,rfl,d,q2⟩
end
section
variable{K:Frag}{σ:St}{H:Hp}
end
section
variable{prog:Program}{w:World}{A:Around}{E:Value→Shared→Prop}{s:Shared}{n l0 l1 l2:Nat}{i:Nat}{OJ OK VX:Array Value}
end
section
variable{K:Frag}{σ:St}{H:Hp}
end
section
variable{X:Cx}
def Ef:V→List V→Hp→VK→Prop:=fun x vs H Q=>∃z y,x=.str z∧vs=[.str y]∧Q (.bl (PySem.Txt.startswith z y)) H
theorem oJ:Dm X "str.startswith" Ef:=by
 intro pins s σ H x vs v us Q I rx rv h
 obtain⟨z,y,rfl,rfl,q⟩:=h
 obtain⟨t,rfl⟩:=rx
 obtain⟨u,rfl,ru⟩:=rv.one
 obtain⟨t',rfl⟩:=ru
 exact PySem.SC.startswith ⟨.bl _,H,I,rfl,q⟩
theorem pJ:∀{texts:List Str}{us:List Value},Vals (texts.map V.str) us→∃l,us=strValues l∧l.map (·.1)=texts
 |[],_,.nil=>⟨[],rfl,rfl⟩
 |z::zs,_,.cons r q=>by
  obtain⟨t,rfl⟩:=r
  obtain⟨l,rfl,e⟩:=pJ q
  exact⟨(z,t)::l,rfl,by rw[zz,e]⟩
def rJoin(K:Frag):V→List V→Hp→VK→Prop:=fun x vs H Q=>∃z l texts,x=.str z∧vs=[.ref l]∧i7 K H l (texts.map V.str)∧JoinOk z texts=true∧Q (.str (PySem.Txt.join z texts)) H
theorem Eg:Dm X "str.join" (rJoin X.K):=by
 intro pins s σ H x vs v us Q I rx rv h
 obtain⟨z,l,texts,rfl,rfl,hl,aS,q⟩:=h
 obtain⟨t,rfl⟩:=rx
 obtain⟨u,rfl,ru⟩:=rv.one
 cases ru
 obtain⟨ao,r1,p1,_⟩:=I.list hl
 obtain⟨ll,rfl,e⟩:=pJ r1
 exact PySem.SC.join p1.isList e aS fun t' k=>⟨.str _,H,I.tok k,⟨_,rfl⟩,q⟩
def OL:V→Option Int→Option Int→Hp→VK→Prop:=fun x lo hi H Q=>∃z,x=.str z∧z.length≤sizeLine∧Q (.str (PySem.Txt.slice z lo hi)) H
theorem HA:FA X OL:=by
 intro pins s σ H x v vl vu lo hi sl Q I rx hs pl pu h
 obtain⟨z,rfl,hz,q⟩:=h
 obtain⟨t,rfl⟩:=rx
 obtain⟨o,e1,e2,e3⟩:=hs
 refine⟨"str",_,F.slot_str_getitem.lookup,typeIs_str _ _ _,?_⟩
 have fin:∀k,∀t':Tok,EP X pins σ Q (.str (PySem.Txt.slice z lo hi) t') { s with toks:=k }:=fun k t'=>⟨.str _,H,I.tok k,⟨_,rfl⟩,q⟩
 cases pl with
 |none =>
  cases pu with
  |none=>exact wpAny_getItem_str_slice (l:=none) (u:=none) (st:=none) ⟨o,e1,e2,e3⟩ rfl (post_val_or_str ⟨zG (Txt.slice_le z _ _) hz,fun t' k=>fin k t'⟩)
  |int j uj=>exact wpAny_getItem_str_slice (l:=none) (u:=some (j,uj)) (st:=none) ⟨o,e1,e2,e3⟩ rfl (post_val_or_str ⟨zG (Txt.slice_le z _ _) hz,fun t' k=>fin k t'⟩)
 |int i ui =>
  cases pu with
  |none=>exact wpAny_getItem_str_slice (l:=some (i,ui)) (u:=none) (st:=none) ⟨o,e1,e2,e3⟩ rfl (post_val_or_str ⟨zG (Txt.slice_le z _ _) hz,fun t' k=>fin k t'⟩)
  |int j uj=>exact wpAny_getItem_str_slice (l:=some (i,ui)) (u:=some (j,uj)) (st:=none) ⟨o,e1,e2,e3⟩ rfl (post_val_or_str ⟨zG (Txt.slice_le z _ _) hz,fun t' k=>fin k t'⟩)
end
end L2
namespace L2
open PySem PySem.Spec PyProof.Rows PySem.SeqAt
theorem m6:∀{bs:List Bool}{us:List Value},Vals (bs.map V.bl) us→us=bs.map Value.bool
 |[],_,.nil=>rfl
 |b::bs,_,.cons r q=>by
  cases r
  rw[m6 q]
  rfl
def Eh(K:Frag):V→List V→Hp→VK→Prop:=fun x vs H Q=>∃(a:Addr) (bs:List Bool) (k:Bool),x=.ref a∧vs=[.bl k]∧i7 K H a (bs.map V.bl)∧Q (.int (bs.count k:Nat)) H
theorem yQ:Dm X "list.count" (Eh X.K):=by
 intro pins s σ H x vs v us Q I rx rv h
 obtain⟨a,bs,k,rfl,rfl,hq,q⟩:=h
 cases rx
 obtain⟨u,rfl,ru⟩:=rv.one
 cases ru
 obtain⟨ao,r,p,hz⟩:=I.list hq
 have e:=m6 r
 subst e
 obtain⟨⟨cls,dd,data,sl⟩,ho,hc,n,hd⟩:=p.isList
 simp only at hc hd
 subst hc hd
 refine yB PySem.F.slot_list_count ⟨_,ho,rfl⟩ PySem.F.entry_list_count (PySem.F.args_list_count_2 _ _) (list_countAt a (bs.map Value.bool).toArray n dd sl (.bool k) (isBoolOf k)) ⟨ho,fun y hy=>?_,?_⟩
 ·have hy:y∈bs.map Value.bool:=by simpa using hy
  obtain⟨b,_,rfl⟩:=zC.mp hy
  exact EqAt.bool_bool b k
 ·have ec:((bs.map Value.bool).countP (isBoolOf k):Nat)=bs.count k:=by
   rw[List.countP_map]
   rfl
  rw[show (bs.map Value.bool).toArray.toList=bs.map Value.bool from rfl,ec]
  exact⟨.int _,H,I.tok _,⟨_,rfl⟩,q⟩
end L2
namespace L2
open PySem PySem.Spec PyProof.Rows
theorem qp(l:Addr)(items:Array Value)(n:Nat)(b:Addr)(m7:Array Value)(n2:Nat)(sl:Array (Option Value))(VY:¬(!items.isEmpty && Builtin.List.listTooLong (items.size+m7.size))=true)(Ei:items.size≤sizeLine)(A4:items.size+m7.size≤sizeLine+1) :
  Meets (Builtin.«list.extend» ⟨[.ref l,.ref b],[]⟩) (fun _ R s=>s.heap.get? l=some { cls:=.type "list",dict:=none,data:=.seq items n,slots:=#[] }∧s.heap.get? b=some { cls:=.type "tuple",dict:=none,data:=.seq m7 n2,slots:=sl }∧R (.ok (.ret Value.none)) { s with heap:=s.heap.update l (Obj.mapSeq fun x=>x++m7),toks:=s.toks }) :=
 .of_wp fun prog w A R s h=>by
  obtain⟨hp,g,d,tk,os⟩:=s;obtain⟨hl,hb,h⟩:=h;have f1:=AutoSeq1.idx_int;have f2:=AutoSeq1.sub_tuple_tuple;have f3:=AutoSeq1.sub_list_list;have f4:=AutoSeq1.sub_tuple_list;have f5:=AutoSeq1.sub_list_tuple;
  have SO:(items++m7).size≤sizeLine+1:=by rw[Array.size_append];exact A4
  wp_walk using (wpAny_updateSeq hl rfl (hz:=Ei) (_hz':=SO)),AutoSeq1.wpAny_loadPart' hl,AutoSeq1.wpAny_loadPart' hb;exact⟨_,rfl,h⟩
section
variable{X:Cx}{K:Frag}
def Bw:V→List V→Hp→VK→Prop:=fun x vs H Q=>∃l b xs zs,x=.ref l∧vs=[.ref b]∧H l=some (.lst xs)∧H b=some (.tup zs)∧xs.length+zs.length≤sizeLine∧Q .aK (upd H l (.lst (xs++zs)))
theorem uY:MA X "list.extend" Bw:=by
 intro pins s σ H x vs v us Q I rx rv h
 obtain⟨l,b,xs,zs,rfl,rfl,hH,hB,hz,q⟩:=h
 cases rx
 obtain⟨u,rfl,ru⟩:=rv.one
 cases ru
 obtain⟨z,ao,n,r,hl,e⟩:=I.x6 hH
 obtain⟨z2,mQ,r2,⟨c2,d2,SQ,xZ⟩,e2,ec,ed,n2,en⟩:=(show bh X.prog X.w H s.heap b (.tup zs) from I.aS b _ hB)
 dsimp only at ec ed en
 subst ec ed en
 have Hg:=r2.length
 have hsz:ao.toArray.size+mQ.toArray.size≤sizeLine:=by rw[zu,zu];lia
 have KN:¬ (!ao.toArray.isEmpty && Builtin.List.listTooLong (ao.toArray.size+mQ.toArray.size))=true:=by
  rw[Bd hsz,Bool.and_false]
  exact zk
 refine yB F.slot_list_extend ⟨_,e,rfl⟩ F.entry_list_extend (F.args_list_extend_2 _ _)
  (qp l ao.toArray n b mQ.toArray n2 xZ KN (by rw[zu];lia) (by lia)) ⟨e,e2,?_⟩
 refine⟨.aK,_,I.D0 (its':=ao++mQ) hH e (by simp) (r.append r2) ?_,rfl,q⟩
 rw[zg]
 lia
theorem oK(hK:X.K=K):dY X (.builtin "isinstance") (fun xs H Q=>∃a C b cs r,xs=[.ref a,.ref b]∧H a=some (oE a (.ref C))∧XC K C∧XA K C∧H b=some (.tup cs)∧(∀ao,Vals cs ao→kitAny K (.ref C) ao=some r)∧Q (.bl r) H):=by
 subst hK
 intro pins s σ H xs us Q I r h
 obtain⟨a,C,b,cs,r',rfl,ha,cC,xa,hb,e,q⟩:=h
 obtain⟨v,w',rfl,rv,qf⟩:=vals2 r
 cases (show v=Value.ref a from rv)
 cases (show w'=Value.ref b from qf)
 obtain⟨p,_⟩:=I.aS a _ ha
 obtain⟨z2,mQ,r2,⟨c2,d2,SQ,xZ⟩,e2,ec,ed,n2,en⟩:=(show bh X.prog X.w H s.heap b (.tup cs) from I.aS b _ hb)
 dsimp only at ec ed en
 subst ec ed en
 exact PySem.W.kia_tup (sx cC xa) I.oz p e2 (e _ r2) (fun z=>nomatch z) fun tk=>⟨.bl r',H,I.tok tk,rfl,q⟩
end
inductive D where
 |aK|bl (b:Bool)|int (i:Int)|str (x:Str)|tup (ds:List D)|g8 (ds:List D)|kt (ds:List D)|ref (a:Addr)|ty (n:String)
def OM(K:Frag)(a:Addr)(xs:List V):Prop:=∃(o:Obj) (ao:Array Value) (n:Nat),K.lookup a=some o∧o.cls=.type "tuple" ∧ o.data=.seq ao n∧ao.size≤sizeLine∧Vals xs ao.toList
def FH(K:Frag)(H:Hp)(a:Addr)(xs:List V):Prop :=
 (∃o,H a=some (.kR o (.lst xs)))∨∃(o:Obj) (ao:Array Value) (n:Nat),K.lookup a=some o∧o.cls=.type "list" ∧ o.dict=none∧o.data=.seq ao n∧ao.size≤sizeLine∧Vals xs ao.toList
theorem FH.sq{K:Frag}{H:Hp}{a:Addr}{xs:List V}(h:FH K H a xs):i7 K H a xs:=by
 rcases h with h|h
 ·exact .inl (.inr h)
 ·exact .inr h
structure Kp(K:Frag)(H H':Hp):Prop where
 t:∀a xs,H a=some (.tup xs)→H' a=some (.tup xs)
 r:∀a xs,FH K H a xs→FH K H' a xs
 f:∀a o u,H a=some (.kR o u)→H' a=some (.kR o u)
theorem Kp.refl{K:Frag}(H:Hp):Kp K H H:=⟨fun _ _ h=>h,fun _ _ h=>h,fun _ _ _ h=>h⟩
theorem Kp.trans{K:Frag}{H H1 H2:Hp}(a:Kp K H H1)(b:Kp K H1 H2):Kp K H H2:=⟨fun p xs h=>b.t p xs (a.t p xs h),fun p xs h=>b.r p xs (a.r p xs h),fun p o u h=>b.f p o u (a.f p o u h)⟩
theorem Kp.of{K:Frag}{H H':Hp}(h:∀b o,H b=some o→H' b=some o∨(∀xs,o≠.tup xs)∧∀u v,o≠.kR u v):Kp K H H' where
 t:=fun a xs q=>(h _ _ q).resolve_right fun z=>z.1 _ rfl
 r:=fun a xs q=>by
  rcases q with ⟨o,q⟩|q
  ·exact .inl ⟨o,(h _ _ q).resolve_right fun z=>z.2 _ _ rfl⟩
  ·exact .inr q
 f:=fun a o u q=>(h _ _ q).resolve_right fun z=>z.2 _ _ rfl
theorem Kp.new{K:Frag}{H:Hp}{a:Addr}{o:HO}(h:H a=none):Kp K H (upd H a o):=.of fun b u e=>.inl (by rw[aH (aE e h)];exact e)
theorem Kp.put{K:Frag}{H:Hp}{a:Addr}{o u:HO}(h:H a=some o)(h1:∀xs,o≠.tup xs)(h2:∀u v,o≠.kR u v):Kp K H (upd H a u):=.of fun b v e=>by
 by_cases q:b=a
 ·subst q;rw[h] at e;cases e;exact .inr ⟨h1,h2⟩
 ·exact .inl (by rw[aH q];exact e)
mutual
def Rv(K:Frag)(H:Hp):D→V→Prop
 |.aK,v=>v=.aK
 |.bl b,v=>v=.bl b
 |.int i,v=>v=.int i
 |.str z,v=>v=.str z
 |.tup ds,v=>∃a xs,v=.ref a∧H a=some (.tup xs)∧RvAll K H ds xs
 |.g8 ds,v=>∃a xs,v=.ref a∧FH K H a xs∧RvAll K H ds xs
 |.kt ds,v=>∃a xs,v=.ref a∧OM K a xs∧RvAll K H ds xs
 |.ref a,v=>v=.ref a
 |.ty n,v=>v=.ty n
def RvAll(K:Frag)(H:Hp):List D→List V→Prop
 |[],xs=>xs=[]
 |d::ds,xs=>∃y ys,xs=y::ys∧Rv K H d y∧RvAll K H ds ys
end
section
variable{K:Frag}{H H':Hp}
theorem kZ:Rv K H .aK .aK:=by simp only [Rv]
theorem a_(b:Bool):Rv K H (.bl b) (.bl b):=by simp only [Rv]
theorem aF(i:Int):Rv K H (.int i) (.int i):=by simp only [Rv]
theorem cS(z:Str):Rv K H (.str z) (.str z):=by simp only [Rv]
theorem fw(a:Addr):Rv K H (.ref a) (.ref a):=by simp only [Rv]
theorem KO(n:String):Rv K H (.ty n) (.ty n):=by simp only [Rv]
theorem FI(h:OM K a xs)(t:RvAll K H ds xs):Rv K H (.kt ds) (.ref a):=by simp only [Rv];exact⟨a,xs,rfl,h,t⟩
theorem jt(h:H a=some (.tup xs))(t:RvAll K H ds xs):Rv K H (.tup ds) (.ref a):=by simp only [Rv];exact⟨a,xs,rfl,h,t⟩
theorem Bx(h:FH K H a xs)(t:RvAll K H ds xs):Rv K H (.g8 ds) (.ref a):=by simp only [Rv];exact⟨a,xs,rfl,h,t⟩
theorem Rv.aK(h:Rv K H .aK v):v=.aK:=by simpa only [Rv] using h
theorem Rv.bl(h:Rv K H (.bl b) v):v=.bl b:=by simpa only [Rv] using h
theorem Rv.int(h:Rv K H (.int i) v):v=.int i:=by simpa only [Rv] using h
theorem Rv.str(h:Rv K H (.str z) v):v=.str z:=by simpa only [Rv] using h
theorem Rv.ref(h:Rv K H (.ref a) v):v=.ref a:=by simpa only [Rv] using h
theorem Rv.ty(h:Rv K H (.ty n) v):v=.ty n:=by simpa only [Rv] using h
theorem Rv.kt(h:Rv K H (.kt ds) v):∃a xs,v=.ref a∧OM K a xs∧RvAll K H ds xs:=by simpa only [Rv] using h
theorem Rv.tup(h:Rv K H (.tup ds) v):∃a xs,v=.ref a∧H a=some (.tup xs)∧RvAll K H ds xs:=by simpa only [Rv] using h
theorem Rv.g8(h:Rv K H (.g8 ds) v):∃a xs,v=.ref a∧FH K H a xs∧RvAll K H ds xs:=by simpa only [Rv] using h
theorem bR:RvAll K H [] []:=by simp only [RvAll]
theorem br(h:Rv K H d x)(t:RvAll K H ds xs):RvAll K H (d::ds) (x::xs):=by simp only [RvAll];exact⟨x,xs,rfl,h,t⟩
theorem RvAll.nil(h:RvAll K H [] xs):xs=[]:=by simpa only [RvAll] using h
theorem RvAll.cons(h:RvAll K H (d::ds) xs):∃y ys,xs=y::ys∧Rv K H d y∧RvAll K H ds ys:=by simpa only [RvAll] using h
mutual
theorem Rv.ts(s:Kp K H H'):∀(d:D) {v:V},Rv K H d v→Rv K H' d v
 |.aK,v,h=>by simpa only [Rv] using h
 |.bl b,v,h=>by simpa only [Rv] using h
 |.int i,v,h=>by simpa only [Rv] using h
 |.str z,v,h=>by simpa only [Rv] using h
 |.tup ds,v,h=>by
  obtain⟨a,xs,rfl,e,t⟩:=h.tup
  exact jt (s.t _ _ e) (RvAll.ts s ds t)
 |.g8 ds,v,h=>by
  obtain⟨a,xs,rfl,e,t⟩:=h.g8
  exact Bx (s.r _ _ e) (RvAll.ts s ds t)
 |.kt ds,v,h=>by
  obtain⟨a,xs,rfl,e,t⟩:=h.kt
  exact FI e (RvAll.ts s ds t)
 |.ref a,v,h=>by simpa only [Rv] using h
 |.ty n,v,h=>by simpa only [Rv] using h
theorem RvAll.ts(s:Kp K H H'):∀(ds:List D) {xs:List V},RvAll K H ds xs→RvAll K H' ds xs
 |[],xs,h=>by rw[h.nil];exact bR
 |d::ds,xs,h=>by
  obtain⟨y,ys,rfl,h1,h2⟩:=h.cons
  exact br (Rv.ts s d h1) (RvAll.ts s ds h2)
end
theorem RvAll.len:∀{ds:List D}{xs:List V},RvAll K H ds xs→xs.length=ds.length
 |[],xs,h=>by rw[h.nil];rfl
 |d::ds,xs,h=>by
  obtain⟨y,ys,rfl,_,h2⟩:=h.cons
  rw[zb,zb,h2.len]
theorem RvAll.get:∀{ds:List D}{xs:List V}{i:Nat}{d:D},RvAll K H ds xs→ds[i]?=some d→∃v,xs[i]?=some v∧Rv K H d v
 |[],xs,i,d,h,e=>by simp at e
 |d0::ds,xs,0,d,h,e=>by
  obtain⟨y,ys,rfl,h1,h2⟩:=h.cons
  simp at e;subst e;exact⟨y,rfl,h1⟩
 |d0::ds,xs,i+1,d,h,e=>by
  obtain⟨y,ys,rfl,h1,h2⟩:=h.cons
  obtain⟨v,e1,e2⟩:=h2.get (i:=i) (by simpa using e)
  exact⟨v,by simpa using e1,e2⟩
theorem RvAll.app:∀{ds es:List D}{xs ys:List V},RvAll K H ds xs→RvAll K H es ys→RvAll K H (ds++es) (xs++ys)
 |[],es,xs,ys,h,k=>by rw[h.nil];exact k
 |d::ds,es,xs,ys,h,k=>by
  obtain⟨y,zs,rfl,h1,h2⟩:=h.cons
  exact br h1 (h2.app k)
theorem RvAll.take:∀{ds:List D}{xs:List V} (n:Nat),RvAll K H ds xs→RvAll K H (ds.take n) (xs.take n)
 |[],xs,n,h=>by rw[h.nil];simp only [List.take_nil];exact bR
 |d::ds,xs,0,h=>by simp only [yx];exact bR
 |d::ds,xs,n+1,h=>by
  obtain⟨y,zs,rfl,h1,h2⟩:=h.cons
  exact br h1 (h2.take n)
theorem RvAll.drop:∀{ds:List D}{xs:List V} (n:Nat),RvAll K H ds xs→RvAll K H (ds.drop n) (xs.drop n)
 |[],xs,n,h=>by rw[h.nil];simp only [List.drop_nil];exact bR
 |d::ds,xs,0,h=>h
 |d::ds,xs,n+1,h=>by
  obtain⟨y,zs,rfl,h1,h2⟩:=h.cons
  exact h2.drop n
theorem RvAll.set:∀{ds:List D}{xs:List V}{d:D}{v:V} (n:Nat),RvAll K H ds xs→Rv K H d v→RvAll K H (ds.set n d) (xs.set n v)
 |[],xs,d,v,n,h,r=>by rw[h.nil];exact bR
 |d0::ds,xs,d,v,0,h,r=>by
  obtain⟨y,zs,rfl,h1,h2⟩:=h.cons
  exact br r h2
 |d0::ds,xs,d,v,n+1,h,r=>by
  obtain⟨y,zs,rfl,h1,h2⟩:=h.cons
  exact br h1 (h2.set n r)
theorem RvAll.erase:∀{ds:List D}{xs:List V} (n:Nat),RvAll K H ds xs→RvAll K H (ds.eraseIdx n) (xs.eraseIdx n)
 |[],xs,n,h=>by rw[h.nil];exact bR
 |d::ds,xs,0,h=>by
  obtain⟨y,zs,rfl,h1,h2⟩:=h.cons
  exact h2
 |d::ds,xs,n+1,h=>by
  obtain⟨y,zs,rfl,h1,h2⟩:=h.cons
  exact br h1 (h2.erase n)
theorem RvAll.dropLast:∀{ds:List D}{xs:List V},RvAll K H ds xs→RvAll K H ds.dropLast xs.dropLast
 |[],xs,h=>by rw[h.nil];exact bR
 |[d],xs,h=>by
  obtain⟨y,zs,rfl,h1,h2⟩:=h.cons
  rw[h2.nil];exact bR
 |d::e::ds,xs,h=>by
  obtain⟨y,zs,rfl,h1,h2⟩:=h.cons
  obtain⟨y2,VZ,rfl,h3,h4⟩:=id h2.cons
  exact br h1 (RvAll.dropLast h2)
theorem RvAll.bools:∀{bs:List Bool}{xs:List V},RvAll K H (bs.map D.bl) xs→xs=bs.map V.bl
 |[],xs,h=>h.nil
 |b::bs,xs,h=>by
  obtain⟨y,ys,rfl,h1,h2⟩:=h.cons
  rw[h1.bl,h2.bools];rfl
theorem RvAll.ints:∀{bs:List Int}{xs:List V},RvAll K H (bs.map D.int) xs→xs=bs.map V.int
 |[],xs,h=>h.nil
 |b::bs,xs,h=>by
  obtain⟨y,ys,rfl,h1,h2⟩:=h.cons
  rw[h1.int,h2.ints];rfl
theorem RvAll.strs:∀{bs:List Str}{xs:List V},RvAll K H (bs.map D.str) xs→xs=bs.map V.str
 |[],xs,h=>h.nil
 |b::bs,xs,h=>by
  obtain⟨y,ys,rfl,h1,h2⟩:=h.cons
  rw[h1.str,h2.strs];rfl
theorem wH:∀(bs:List Int),RvAll K H (bs.map D.int) (bs.map V.int)
 |[]=>bR
 |b::bs=>br (aF b) (wH bs)
theorem qq:∀(bs:List Str),RvAll K H (bs.map D.str) (bs.map V.str)
 |[]=>bR
 |b::bs=>br (cS b) (qq bs)
def dH{κ:Type}(K:Frag)(H:Hp):List (κ×D)→List (κ×V)→Prop:=Paired fun p q=>p.1=q.1∧Rv K H p.2 q.2
theorem dH.ts(s:Kp K H H'):∀{ks:List (κ×D)}{vs:List (κ×V)},dH K H ks vs→dH K H' ks vs
 |_,_,.nil=>.nil
 |_,_,.cons r t=>.cons ⟨r.1,Rv.ts s _ r.2⟩ (dH.ts s t)
end
inductive Ce where
 |lst (ds:List D)|iT (kvs:List (Key×D))|ins (c:Addr) (fs:List (Str×D))|well|exc (c:Addr)|tab (q:Str)
def FJ(H:Hp)(q:Str)(ps:Array Value):Prop:=TriplesOk ps.toList∧∀pos cv,codeAmong pos ps.toList=some cv→∃c o vs t,cv=.ref c∧H c=some (.kR o (.own 0))∧o.data=.fields vs∧vs[1]?=some (.str q t)
abbrev aN:=Addr→Option Ce
def aN.set(S:aN)(a:Addr)(c:Ce):aN:=fun b=>if b=a then some c else S b
theorem aa{S:aN}{a:Addr}{c:Ce} : S.set a c a=some c:=by unfold aN.set;rw[if_pos rfl]
theorem ak{S:aN}{a b:Addr}{c:Ce}(h:b≠a):S.set a c b=S b:=by unfold aN.set;rw[if_neg h]
theorem eC{S:aN}{a:Addr}{c e:Ce} : (S.set a c).set a e=S.set a e:=by
 funext b;unfold aN.set;split <;> rfl
theorem Dn{S:aN}{a b:Addr}{c:Ce}(h:S a=some c)(h':S b=none):a≠b:=by
 intro e;subst e;rw[h] at h';cases h'
def Rc(K:Frag)(H:Hp)(a:Addr):Ce→Prop
 |.lst ds=>∃xs,H a=some (.lst xs)∧RvAll K H ds xs
 |.iT kvs=>∃vs,H a=some (.dK vs)∧dH K H kvs vs
 |.ins c fs=>∃dx vs,H a=some (.ins c dx vs)∧dH K H fs vs
 |.well=>∃x y z:Int,H a=some (.lst [.int x,.int y,.int z])
 |.exc c=>H a=some (oE a (.ref c))
 |.tab q=>∃ps,H a=some (.rN ps)∧FJ H q ps
def Rs(K:Frag)(S:aN)(H:Hp):Prop:=∀a c,S a=some c→Rc K H a c
section
variable{K:Frag}{H H':Hp}{S:aN}{a b:Addr}{c:Ce}
theorem Rc.has(h:Rc K H a c):∃o,H a=some o∧(∀xs,o≠.tup xs)∧∀u v,o≠.kR u v:=by
 cases c with
 |lst ds=>obtain⟨xs,e,_⟩:=h;exact⟨_,e,fun _=>nofun,fun _ _=>nofun⟩
 |iT ds=>obtain⟨xs,e,_⟩:=h;exact⟨_,e,fun _=>nofun,fun _ _=>nofun⟩
 |ins c fs=>obtain⟨dx,vs,e,_⟩:=h;exact⟨_,e,fun _=>nofun,fun _ _=>nofun⟩
 |well=>obtain⟨x,y,z,e⟩:=h;exact⟨_,e,fun _=>nofun,fun _ _=>nofun⟩
 |exc c=>exact⟨_,h,fun _=>nofun,fun _ _=>nofun⟩
 |tab q=>obtain⟨ps,e,_⟩:=h;exact⟨_,e,fun _=>nofun,fun _ _=>nofun⟩
theorem Rc.keep(h:Rc K H a c)(e:∀o,H a=some o→H' a=some o)(s:Kp K H H'):Rc K H' a c:=by
 cases c with
 |lst ds=>obtain⟨xs,e1,r⟩:=h;exact⟨xs,e _ e1,RvAll.ts s _ r⟩
 |iT ds=>obtain⟨xs,e1,r⟩:=h;exact⟨xs,e _ e1,r.ts s⟩
 |ins c fs=>obtain⟨dx,vs,e1,r⟩:=h;exact⟨dx,vs,e _ e1,r.ts s⟩
 |well=>obtain⟨x,y,z,e1⟩:=h;exact⟨x,y,z,e _ e1⟩
 |exc c=>exact e _ h
 |tab q=>obtain⟨ps,e1,r,r2⟩:=h;exact⟨ps,e _ e1,r,fun pos cv z=>by obtain⟨c,o,vs,t,z1,z2,z3⟩:=r2 pos cv z;exact⟨c,o,vs,t,z1,s.f _ _ _ z2,z3⟩⟩
theorem Rs.fresh(h:Rs K S H)(e:H a=none):S a=none:=by
 cases q:S a with
 |none=>rfl
 |some c=>obtain⟨o,e1,_⟩:=(h a c q).has;rw[e] at e1;cases e1
theorem Rs.new(h:Rs K S H)(e:H a=none){o:HO}(r:Rc K (upd H a o) a c):Rs K (S.set a c) (upd H a o):=fun b x hb=>by
 by_cases q:b=a
 ·subst q;rw[aa] at hb;cases hb;exact r
 ·rw[ak q] at hb
  exact (h b x hb).keep (fun o e1=>by rw[aH q];exact e1) (Kp.new e)
theorem Rs.grow(h:Rs K S H)(e:H a=none):Rs K S (upd H a o):=fun b x hb=>by
 obtain⟨u,e1,_⟩:=(h b x hb).has
 have q:b≠a:=aE e1 e
 exact (h b x hb).keep (fun o e1=>by rw[aH q];exact e1) (Kp.new e)
theorem Rs.m8(h:Rs K S H)(ha:S a=some e):Kp K H (upd H a o):=by
 obtain⟨u,e1,n1,n2⟩:=(h a e ha).has
 exact Kp.put e1 n1 n2
theorem Rs.put(h:Rs K S H){e:Ce}(ha:S a=some e){o:HO}(r:Rc K (upd H a o) a c):Rs K (S.set a c) (upd H a o):=fun b x hb=>by
 by_cases q:b=a
 ·subst q;rw[aa] at hb;cases hb;exact r
 ·rw[ak q] at hb
  exact (h b x hb).keep (fun o e1=>by rw[aH q];exact e1) (h.m8 ha)
theorem Rs.lst(h:Rs K S H)(e:S a=some (.lst ds)):∃xs,H a=some (.lst xs)∧RvAll K H ds xs:=h a _ e
theorem Rs.iT(h:Rs K S H)(e:S a=some (.iT ds)):∃xs,H a=some (.dK xs)∧dH K H ds xs:=h a _ e
end
abbrev KD:=D→aN→Prop
abbrev KX:=Addr→aN→Prop
abbrev SD:=List (Option D)
def fb(K:Frag)(H:Hp):SD→St→Prop:=Paired fun (o:Option D) (u:Option V)=>∀d,o=some d→∃v,u=some v∧Rv K H d v
section
variable{K:Frag}{H H':Hp}
theorem fb.ts(s:Kp K H H'):∀{σ:SD}{τ:St},fb K H σ τ→fb K H' σ τ
 |_,_,.nil=>.nil
 |_,_,.cons r t=>.cons (fun d e=>by obtain⟨v,e1,r1⟩:=r d e;exact⟨v,e1,Rv.ts s _ r1⟩) (fb.ts s t)
theorem fb.get:∀{σ:SD}{τ:St}{i:Nat}{d:D},fb K H σ τ→σ[i]?=some (some d)→∃v,τ[i]?=some (some v)∧Rv K H d v
 |_,_,i,d,.nil,e=>by simp at e
 |_,_,0,d,.cons r t,e=>by
  simp at e
  obtain⟨v,e1,r1⟩:=r d e
  exact⟨v,by simp [e1],r1⟩
 |_,_,i+1,d,.cons r t,e=>by
  obtain⟨v,e1,r1⟩:=fb.get (i:=i) t (by simpa using e)
  exact⟨v,by simpa using e1,r1⟩
theorem fb.set:∀{σ:SD}{τ:St} (i:Nat) {d:D}{v:V},fb K H σ τ→Rv K H d v→fb K H (σ.set i (some d)) (τ.set i (some v))
 |_,_,i,d,v,.nil,r=>.nil
 |_,_,0,d,v,.cons r t,q=>.cons (fun d' e=>by cases e;exact⟨v,rfl,q⟩) t
 |_,_,i+1,d,v,.cons r t,q=>.cons r (fb.set i t q)
theorem fb.unset:∀{σ:SD}{τ:St} (i:Nat) (o:Option V),fb K H σ τ→fb K H (σ.set i none) (τ.set i o)
 |_,_,i,o,.nil=>.nil
 |_,_,0,o,.cons r t=>.cons (fun d' e=>by cases e) t
 |_,_,i+1,o,.cons r t=>.cons r (fb.unset i o t)
theorem sA:∀(n:Nat) (τ:St),τ.length=n→fb K H (List.replicate n none) τ
 |0,[],_=>.nil
 |n+1,_::τ,h=>.cons (fun d e=>by cases e) (sA n τ (by simpa using h))
theorem sC:∀{ds:List D}{vs:List V},RvAll K H ds vs→fb K H (ds.map some) (vs.map some)
 |[],vs,h=>by rw[h.nil];exact .nil
 |d::ds,vs,h=>by
  obtain⟨y,ys,rfl,h1,h2⟩:=h.cons
  exact .cons (fun d' e=>by cases e;exact⟨y,rfl,h1⟩) (sC h2)
theorem fb.app:∀{σ aw:SD}{τ Jg:St},fb K H σ τ→fb K H aw Jg→fb K H (σ++aw) (τ++Jg)
 |_,_,_,_,.nil,h=>h
 |_,_,_,_,.cons r t,h=>.cons r (fb.app t h)
end
structure SR(Y:Cx)(E:St→XK)(b:Bool):Prop where
 call:∀p2 τ H s e s',Inv Y p2 τ H s→jM Y.prog Y.w Y.stack H s (E τ) e s'→Y.xe e s'
 own:b=true→∀p2 τ H s h' a cls args,Inv Y p2 τ H s→Heap.MadeExcOf s.heap h' a cls args→E τ cls none H→Y.xe (.ref a) { s with heap:=h' }
 loop:b=true→PassesOwn (model Y.prog Y.w) Y.A Y.env Y.xe
structure Ev(X:Cx)(b:Bool) where
 pn:List (Addr×Obj)
 xe:Value→Shared→Prop
 E:St→XK
 ok:SR { X with pn:=pn,xe:=xe } E b
abbrev Ev.cx{X:Cx}{b:Bool}(y:Ev X b):Cx:={ X with pn:=y.pn,xe:=y.xe }
def Cn(K:Frag)(H:Hp)(R:KD)(Q:VK):Prop:=∀d S v H',R d S→Rv K H' d v→Rs K S H'→Kp K H H'→Q v H'
def yR(K:Frag)(H:Hp)(Z:KX)(e:XK):Prop:=∀C S H',Z C S→Rs K S H'→Kp K H H'→e (.ref C) none H'
theorem Cn.kp{K:Frag}{H H1:Hp}{R:KD}{Q:VK}(h:Cn K H R Q)(k:Kp K H H1):Cn K H1 R Q:=fun d S v H' r v1 s1 k1=>h d S v H' r v1 s1 (k.trans k1)
theorem yR.kp{K:Frag}{H H1:Hp}{Z:KX}{e:XK}(h:yR K H Z e)(k:Kp K H H1):yR K H1 Z e:=fun C S H' r s1 k1=>h C S H' r s1 (k.trans k1)
abbrev TD:=SD→aN→KD→KX→Prop
def T(K:Frag)(E:St→XK)(t:TD):TE:=fun τ H Q=>∃σ S R Z,fb K H σ τ∧Rs K S H∧t σ S R Z∧Cn K H R Q∧yR K H Z (E τ)
structure DE(K:Frag)(X:Cx)(e:Expr)(t:TD):Prop where
 of:∀{b:Bool} (y:Ev X b),PE y.cx e (T K y.E t)
abbrev oo:=SD→aN→(Bool→aN→Prop)→KX→Prop
def MM(K:Frag)(H:Hp)(R:Bool→aN→Prop)(Q:Bool→Hp→Prop):Prop:=∀b S H',R b S→Rs K S H'→Kp K H H'→Q b H'
theorem MM.kp{K:Frag}{H H1:Hp}{R:Bool→aN→Prop}{Q:Bool→Hp→Prop}(h:MM K H R Q)(k:Kp K H H1):MM K H1 R Q:=fun d S H' r s1 k1=>h d S H' r s1 (k.trans k1)
def Tt(K:Frag)(E:St→XK)(t:oo):TT:=fun τ H Q=>∃σ S R Z,fb K H σ τ∧Rs K S H∧t σ S R Z∧MM K H R Q∧yR K H Z (E τ)
structure DT(K:Frag)(X:Cx)(e:Expr)(t:oo):Prop where
 of:∀{b:Bool} (y:Ev X b),PT y.cx e (Tt K y.E t)
abbrev oq:=SD→aN→(List D→aN→Prop)→KX→Prop
def SS(K:Frag)(H:Hp)(R:List D→aN→Prop)(Q:List V→Hp→Prop):Prop:=∀ds S vs H',R ds S→RvAll K H' ds vs→Rs K S H'→Kp K H H'→Q vs H'
def Ta(K:Frag)(E:St→XK)(t:oq):TA:=fun τ H Q=>∃σ S R Z,fb K H σ τ∧Rs K S H∧t σ S R Z∧SS K H R Q∧yR K H Z (E τ)
structure DA(K:Frag)(X:Cx)(es:List Expr)(t:oq):Prop where
 of:∀{b:Bool} (y:Ev X b),PA y.cx es (Ta K y.E t)
theorem PE.mono(h:PE X e t)(i:∀τ H Q,t' τ H Q→t τ H Q):PE X e t':=fun pins s τ H Q I q=>h pins s τ H Q I (i τ H Q q)
theorem PT.mono(h:PT X e t)(i:∀τ H Q,t' τ H Q→t τ H Q):PT X e t':=fun pins s τ H Q I q=>h pins s τ H Q I (i τ H Q q)
theorem PA.mono(h:PA X e t)(i:∀τ H Q,t' τ H Q→t τ H Q):PA X e t':=fun pos pins s τ H Q I q=>h pos pins s τ H Q I (i τ H Q q)
section
variable{K:Frag}{X:Cx}
def KP(i:Nat):TD:=fun σ S R _=>∃d,σ[i]?=some (some d)∧R d S
def dC(d:D):TD:=fun _ S R _=>R d S
theorem dv(i:Nat)(hN:X.N[i]?=some x:=by rfl)(hv:IZ X.env.scope x:=by first|exact Or.inl rfl|exact Or.inr (Or.inl rfl)|exact Or.inr (Or.inr rfl))(hd:(x == ("__debug__" : Str))=false:=by decide)
  (Dj:(x == ("__classdict__" : Str))=false:=by decide):DE K X (.Name x pos) (KP i) :=
 ⟨fun y=>(Gw (X:=y.cx) hN hv hd Dj).mono <| by rintro τ H Q ⟨σ,S,R,Z,aB,hS,⟨d,e,r⟩,hR,_⟩;exact by obtain⟨v,e1,rv⟩:=aB.get e;exact⟨v,e1,hR d S v H r rv hS (Kp.refl _)⟩⟩
theorem DE.const(h:∀Y:Cx,Y.env=X.env→Y.mg=X.mg→PE Y e (tC v))(r:∀H,Rv K H d v):DE K X e (dC d) :=
 ⟨fun y=>(h y.cx rfl rfl).mono <| by rintro τ H Q ⟨σ,S,R,Z,aB,hS,q,hR,_⟩;exact hR d S v H q (r H) hS (Kp.refl _)⟩
theorem di:DE K X (.Constant (.int i) j pos) (dC (.int i)):=.const (fun _ _ _=>Gx) fun _=>aF i
theorem ds:DE K X (.Constant (.str i) j pos) (dC (.str i)):=.const (fun _ _ _=>Gz) fun _=>cS i
theorem db:DE K X (.Constant (.bool i) j pos) (dC (.bl i)):=.const (fun _ _ _=>Jz) fun _=>a_ i
theorem dn:DE K X (.Constant .none j pos) (dC .aK):=.const (fun _ _ _=>Gy) fun _=>kZ
theorem dg(hm:X.mg x=some u)(r:RelV v u)(rd:∀H,Rv K H d v)(hg:Gl X x:=by rfl)(hd:(x == ("__debug__" : Str))=false:=by decide):DE K X (.Name x pos) (dC d) :=
 .const (fun Y e1 e2=>wg (X:=Y) (u:=u) (show Y.env.kindOf x=_ by rw[e1];exact hg) (by rw[e2];exact hm) r hd) rd
theorem uB(hm:X.mg x=none)(hv:bootBuiltins x=some (.type n))(hg:Gl X x:=by rfl)(hn:x ≠ "__name__" := by decide)(hd:(x == ("__debug__" : Str))=false:=by decide):DE K X (.Name x pos) (dC (.ty n)) :=
 .const (fun Y e1 e2=>Dz (X:=Y) (v:=.ty n) (show Y.env.kindOf x=_ by rw[e1];exact hg) (by rw[e2];exact hm) hv rfl hn hd) fun _=>KO n
def KQ:oq:=fun _ S R _=>R [] S
def wI(t:TD)(u:oq):oq:=fun σ S R Z=>t σ S (fun d S1=>u σ S1 (fun ds S2=>R (d::ds) S2) Z) Z
theorem an:DA K X [] KQ:=⟨fun y=>(G1 (X:=y.cx)).mono <| by rintro τ H Q ⟨σ,S,R,Z,aB,hS,q,hR,_⟩;exact hR [] S [] H q bR hS (Kp.refl _)⟩
theorem ac(h:DE K X e t)(hr:DA K X es u)(hp:isPlain e=true:=by rfl):DA K X (e::es) (wI t u) :=
 ⟨fun y=>(Su (h.of y) (hr.of y) hp).mono <| by rintro τ H Q ⟨σ,S,R,Z,aB,hS,q,hR,hZ⟩;exact
  ⟨σ,S,_,Z,aB,hS,q,fun d S1 x H1 r1 v1 s1 k1=>⟨σ,S1,_,Z,aB.ts k1,s1,r1,fun ds S2 xs H2 r2 v2 s2 k2=>hR (d::ds) S2 (x::xs) H2 r2 (br (Rv.ts k2 _ v1) v2) s2 (k1.trans k2),hZ.kp k1⟩,hZ⟩⟩
abbrev rK:=D→D→aN→KD→Prop
def Lr(K:Frag)(r:rK):R2:=fun x y H Q=>∃d e S R,Rv K H d x∧Rv K H e y∧Rs K S H∧r d e S R∧Cn K H R Q
def lQ(K:Frag)(f:Value→Value→Sem Value)(r:rK):Prop:=∀X:Cx,X.K=K→X.A.units+64<cLine→eX X f (Lr K r)
def Jh(r:rK)(ta tb:TD):TD:=fun σ S R Z=>ta σ S (fun x S1=>tb σ S1 (fun y S2=>r x y S2 R) Z) Z
theorem T.op(h:T K E (Jh r ta tb) τ H Q):Jb (Lr K r) (T K E ta) (T K E tb) τ H Q:=by
 obtain⟨σ,S,R,Z,aB,hS,q,hR,hZ⟩:=h
 exact⟨σ,S,_,Z,aB,hS,q,fun d S1 x H1 r1 v1 s1 k1=>⟨σ,S1,_,Z,aB.ts k1,s1,r1,fun e S2 y H2 r2 v2 s2 k2=>⟨d,e,S2,R,Rv.ts k2 _ v1,v2,s2,r2,hR.kp (k1.trans k2)⟩,hZ.kp k1⟩,hZ⟩
theorem bo(ho:lQ K (binaryOp op) r)(hu:X.A.units+64<cLine)(ha:DE K X a ta)(hb:DE K X b tb)(hK:X.K=K:=by rfl):DE K X (.BinOp a op b pos) (Jh r ta tb) :=
 ⟨fun y=>(JR (ho y.cx hK hu) (ha.of y) (hb.of y)).mono fun _ _ _ h=>h.op⟩
theorem cm(ho:lQ K (compareOp op) r)(hu:X.A.units+64<cLine)(ha:DE K X a ta)(hb:DE K X b tb)(hm:behindInMarks op b=false:=by with_unfolding_all rfl)(hK:X.K=K:=by rfl):DE K X (.Compare a [op] [b] pos) (Jh r ta tb) :=
 ⟨fun y=>(DN (ho y.cx hK hu) (ha.of y) (hb.of y) hm).mono fun _ _ _ h=>h.op⟩
def dB(t:TD):oo:=fun σ S R Z=>t σ S (fun x S1=>∃b,x=.bl b∧R b S1) Z
theorem Tt.b(h:Tt K E (dB t) τ H Q):T K E t τ H fun x H'=>∃k,x=.bl k∧Q k H':=by
 obtain⟨σ,S,R,Z,aB,hS,q,hR,hZ⟩:=h
 exact⟨σ,S,_,Z,aB,hS,q,by rintro d S1 x H1 ⟨b,e,r1⟩ v1 s1 k1;exact by subst e;exact⟨b,v1.bl,hR b S1 H1 r1 s1 k1⟩,hZ⟩
theorem Tt.SU(h:Tt K E (dB (Jh r ta tb)) τ H Q):A7 (Jb (Lr K r) (T K E ta) (T K E tb)) τ H Q:=h.b.op
theorem aT(ho:lQ K (compareOp op) r)(hu:X.A.units+64<cLine)(ha:DE K X a ta)(hb:DE K X b tb)(hm:behindInMarks op b=false:=by with_unfolding_all rfl)(hK:X.K=K:=by rfl):DT K X (.Compare a [op] [b] pos) (dB (Jh r ta tb)) :=
 ⟨fun y=>(DP (ho y.cx hK hu) (ha.of y) (hb.of y) hm).mono fun _ _ _ h=>h.SU⟩
theorem tv(h:DE K X e t)(he:∀whole,isTrue e X.env whole=(do let v ← whole;standAt e.pos;holding [v] (truthy v)):=by intro _;rfl):DT K X e (dB t) :=
 ⟨fun y=>(GA (X:=y.cx) (h.of y) he).mono fun _ _ _ h=>h.b⟩
def uZ(r r':rK)(ta tb tc:TD):TD:=fun σ S R Z=>ta σ S (fun x S1=>tb σ S1 (fun y S2=>r x y S2 fun z S3=>∃k,z=.bl k∧if k=true then tc σ S3 (fun w S4=>r' y w S4 R) Z else R (.bl false) S3) Z) Z
theorem T.chain(h:T K E (uZ r r' ta tb tc) τ H Q):uL (Lr K r) (Lr K r') (T K E ta) (T K E tb) (T K E tc) τ H Q:=by
 obtain⟨σ,S,R,Z,aB,hS,q,hR,hZ⟩:=h
 refine⟨σ,S,_,Z,aB,hS,q,fun d S1 x H1 r1 v1 s1 k1=>⟨σ,S1,_,Z,aB.ts k1,s1,r1,fun e S2 y H2 r2 v2 s2 k2=>⟨d,e,S2,_,Rv.ts k2 _ v1,v2,s2,r2,fun z S3 v H3 r3 v3 s3 k3=>?_⟩,hZ.kp k1⟩,hZ⟩
 obtain⟨k,rfl,r3⟩:=r3
 refine⟨k,v3.bl,?_⟩
 cases k with
 |true =>
  rw[if_pos rfl] at r3 ⊢
  exact⟨σ,S3,_,Z,((aB.ts k1).ts k2).ts k3,s3,r3,fun w S4 wv H4 r4 v4 s4 k4=>⟨e,w,S4,R,Rv.ts (k3.trans k4) _ v2,v4,s4,r4,hR.kp (((k1.trans k2).trans k3).trans k4)⟩,hZ.kp ((k1.trans k2).trans k3)⟩
 |false =>
  rw[if_neg zk] at r3 ⊢
  exact hR _ S3 _ H3 r3 (a_ false) s3 ((k1.trans k2).trans k3)
theorem cc(ho:lQ K (compareOp op) r)(uG:lQ K (compareOp xS) r')(hu:X.A.units+64<cLine)(ha:DE K X a ta)(hb:DE K X b tb)(hc:DE K X c tc)
  (hm:lastMarks [op,xS] [b,c]=false:=by with_unfolding_all rfl) (hK:X.K=K:=by rfl):DE K X (.Compare a [op,xS] [b,c] pos) (uZ r r' ta tb tc) :=
 ⟨fun y=>(A8 (ho y.cx hK hu) (uG y.cx hK hu) (ha.of y) (hb.of y) (hc.of y) hm).mono fun _ _ _ h=>h.chain⟩
theorem Ji(ho:lQ K (compareOp op) r)(uG:lQ K (compareOp xS) r')(hu:X.A.units+64<cLine)(ha:DE K X a ta)(hb:DE K X b tb)(hc:DE K X c tc)
  (hm:lastMarks [op,xS] [b,c]=false:=by with_unfolding_all rfl) (hK:X.K=K:=by rfl):DT K X (.Compare a [op,xS] [b,c] pos) (dB (uZ r r' ta tb tc)) :=
 ⟨fun y=>(A9 (ho y.cx hK hu) (uG y.cx hK hu) (ha.of y) (hb.of y) (hc.of y) hm).mono fun _ _ _ h=>h.b.chain⟩
def KR(ta tb:TD):TD:=fun σ S R Z=>ta σ S (fun x S1=>∃c,x=.bl c∧if c=true then tb σ S1 R Z else R (.bl false) S1) Z
def ON(ta tb:TD):TD:=fun σ S R Z=>ta σ S (fun x S1=>∃c,x=.bl c∧if c=true then R (.bl true) S1 else tb σ S1 R Z) Z
def KS(ta:TD):TD:=fun σ S R Z=>ta σ S (fun x S1=>∃c,x=.bl c∧R (.bl (!c)) S1) Z
theorem yS(h:DE K X a t):DE K X (.BoolOp op [a] pos) t:=⟨fun y=>GC (h.of y)⟩
theorem qr{a b:Expr}{rest:List Expr}{ta tb:TD}{pos:Pos}(ha:DE K X a ta)(hb:DE K X (.BoolOp .And (b::rest) pos) tb):DE K X (.BoolOp .And (a::b::rest) pos) (KR ta tb) :=
 ⟨fun y=>(GD (ha.of y) (hb.of y)).mono <| by rintro τ H Q ⟨σ,S,R,Z,aB,hS,q,hR,hZ⟩;exact
  ⟨σ,S,_,Z,aB,hS,q,by
   rintro d S1 x H1 ⟨c,e,r1⟩ v1 s1 k1
   subst e
   refine⟨c,v1.bl,?_⟩
   cases c with
   |true=>rw[if_pos rfl] at r1 ⊢;exact⟨σ,S1,R,Z,aB.ts k1,s1,r1,hR.kp k1,hZ.kp k1⟩
   |false=>rw[if_neg zk] at r1 ⊢;exact hR _ S1 _ H1 r1 (a_ false) s1 k1,hZ⟩⟩
theorem MN{a b:Expr}{rest:List Expr}{ta tb:TD}{pos:Pos}(ha:DE K X a ta)(hb:DE K X (.BoolOp .Or (b::rest) pos) tb):DE K X (.BoolOp .Or (a::b::rest) pos) (ON ta tb) :=
 ⟨fun y=>(JC (ha.of y) (hb.of y)).mono <| by rintro τ H Q ⟨σ,S,R,Z,aB,hS,q,hR,hZ⟩;exact
  ⟨σ,S,_,Z,aB,hS,q,by
   rintro d S1 x H1 ⟨c,e,r1⟩ v1 s1 k1
   subst e
   refine⟨c,v1.bl,?_⟩
   cases c with
   |false=>rw[if_neg zk] at r1 ⊢;exact⟨σ,S1,R,Z,aB.ts k1,s1,r1,hR.kp k1,hZ.kp k1⟩
   |true=>rw[if_pos rfl] at r1 ⊢;exact hR _ S1 _ H1 r1 (a_ true) s1 k1,hZ⟩⟩
theorem OO(ha:DE K X a ta):DE K X (.UnaryOp .Not a pos) (KS ta) :=
 ⟨fun y=>(GF (ha.of y)).mono <| by rintro τ H Q ⟨σ,S,R,Z,aB,hS,q,hR,hZ⟩;exact
  ⟨σ,S,_,Z,aB,hS,q,by rintro d S1 x H1 ⟨c,e,r1⟩ v1 s1 k1;exact by subst e;exact⟨c,v1.bl,hR _ S1 _ H1 r1 (a_ _) s1 k1⟩,hZ⟩⟩
def OP(t:oo):oo:=fun σ S R Z=>t σ S (fun c S1=>R (!c) S1) Z
def OQ(t u:oo):oo:=fun σ S R Z=>t σ S (fun c S1=>if c=true then u σ S1 R Z else R false S1) Z
def SV(t u:oo):oo:=fun σ S R Z=>t σ S (fun c S1=>if c=true then R true S1 else u σ S1 R Z) Z
theorem ej(ha:DT K X a t):DT K X (.UnaryOp .Not a pos) (OP t) :=
 ⟨fun y=>(GB (ha.of y)).mono <| by rintro τ H Q ⟨σ,S,R,Z,aB,hS,q,hR,hZ⟩;exact⟨σ,S,_,Z,aB,hS,q,fun c S1 H1 r1 s1 k1=>hR _ S1 H1 r1 s1 k1,hZ⟩⟩
structure DW(K:Frag)(X:Cx)(e:Expr)(t:oo):Prop where
 of:∀{b:Bool} (y:Ev X b),PW y.cx e (Tt K y.E t)
theorem PW.mono(h:PW X e t)(i:∀τ H Q,t' τ H Q→t τ H Q):PW X e t':=fun wh pins s τ H Q I q=>h wh pins s τ H Q I (i τ H Q q)
theorem twd(h:DW K X e t):DT K X e t:=⟨fun y=>(h.of y).pt⟩
theorem tw1(h:DT K X a t):DW K X (.BoolOp op [a] pos) t:=⟨fun y=>by
 cases op with
 |And=>exact pw_and1 (h.of y)
 |Or=>exact pw_or1 (h.of y)⟩
theorem twand{a b:Expr}{rest:List Expr}{t u:oo}{pos:Pos}(ha:DT K X a t)(hb:DW K X (.BoolOp .And (b::rest) pos) u):DW K X (.BoolOp .And (a::b::rest) pos) (OQ t u) :=
 ⟨fun y=>(pw_and (ha.of y) (hb.of y)).mono <| by rintro τ H Q ⟨σ,S,R,Z,aB,hS,q,hR,hZ⟩;exact
  ⟨σ,S,_,Z,aB,hS,q,fun c S1 H1 r1 s1 k1=>by
   cases c with
   |true=>rw[if_pos rfl] at r1 ⊢;exact⟨σ,S1,R,Z,aB.ts k1,s1,r1,hR.kp k1,hZ.kp k1⟩
   |false=>rw[if_neg zk] at r1 ⊢;exact hR _ S1 H1 r1 s1 k1,hZ⟩⟩
theorem twor{a b:Expr}{rest:List Expr}{t u:oo}{pos:Pos}(ha:DT K X a t)(hb:DW K X (.BoolOp .Or (b::rest) pos) u):DW K X (.BoolOp .Or (a::b::rest) pos) (SV t u) :=
 ⟨fun y=>(pw_or (ha.of y) (hb.of y)).mono <| by rintro τ H Q ⟨σ,S,R,Z,aB,hS,q,hR,hZ⟩;exact
  ⟨σ,S,_,Z,aB,hS,q,fun c S1 H1 r1 s1 k1=>by
   cases c with
   |false=>rw[if_neg zk] at r1 ⊢;exact⟨σ,S1,R,Z,aB.ts k1,s1,r1,hR.kp k1,hZ.kp k1⟩
   |true=>rw[if_pos rfl] at r1 ⊢;exact hR _ S1 H1 r1 s1 k1,hZ⟩⟩
def OR(t:oo)(ta tb:TD):TD:=fun σ S R Z=>t σ S (fun c S1=>if c=true then ta σ S1 R Z else tb σ S1 R Z) Z
theorem Q0(hc:DT K X c t)(ha:DE K X a ta)(hb:DE K X b tb):DE K X (.IfExp c a b pos) (OR t ta tb) :=
 ⟨fun y=>(AY (hc.of y) (ha.of y) (hb.of y)).mono <| by rintro τ H Q ⟨σ,S,R,Z,aB,hS,q,hR,hZ⟩;exact
  ⟨σ,S,_,Z,aB,hS,q,fun c S1 H1 r1 s1 k1=>by
   cases c with
   |true=>rw[if_pos rfl] at r1 ⊢;exact⟨σ,S1,R,Z,aB.ts k1,s1,r1,hR.kp k1,hZ.kp k1⟩
   |false=>rw[if_neg zk] at r1 ⊢;exact⟨σ,S1,R,Z,aB.ts k1,s1,r1,hR.kp k1,hZ.kp k1⟩,hZ⟩⟩
def OS(t:oq):TD:=fun σ S R Z=>t σ S (fun ds S1=>ds.length≤sizeLine∧∀p,S1 p=none→R (.ref p) (S1.set p (.lst ds))) Z
def OT(t:oq):TD:=fun σ S R Z=>t σ S (fun ds S1=>ds.length≤sizeLine∧R (.tup ds) S1) Z
theorem bt(h:DA K X es t):DE K X (.List es pos) (OS t) :=
 ⟨fun y=>(G4 (h.of y)).mono <| by rintro τ H Q ⟨σ,S,R,Z,aB,hS,q,hR,hZ⟩;exact
  ⟨σ,S,_,Z,aB,hS,q,by rintro ds S1 xs H1 ⟨hl,r1⟩ v1 s1 k1;exact⟨by rw[v1.len];exact hl,fun p hp=>hR _ _ _ _ (r1 p (s1.fresh hp)) (fw p) (s1.new hp ⟨xs,bN,RvAll.ts (.new hp) _ v1⟩) (k1.trans (.new hp))⟩,hZ⟩⟩
theorem bD(h:DA K X es t):DE K X (.Tuple es x1 pos) (OT t) :=
 ⟨fun y=>(G3 (h.of y)).mono <| by rintro τ H Q ⟨σ,S,R,Z,aB,hS,q,hR,hZ⟩;exact
  ⟨σ,S,_,Z,aB,hS,q,by rintro ds S1 xs H1 ⟨hl,r1⟩ v1 s1 k1;exact⟨by rw[v1.len];exact hl,fun p hp=>hR _ _ _ _ r1 (jt bN (RvAll.ts (.new hp) _ v1)) (s1.grow hp) (k1.trans (.new hp))⟩,hZ⟩⟩
def Lc(K:Frag)(r:List D→aN→KD→Prop):List V→Hp→VK→Prop:=fun xs H Q=>∃ds S R,RvAll K H ds xs∧Rs K S H∧r ds S R∧Cn K H R Q
def gI(K:Frag)(f:Value)(r:List D→aN→KD→Prop):Prop:=∀X:Cx,X.K=K→X.calm=true→dY X f (Lc K r)
def KU(r:List D→aN→KD→Prop)(t:oq):TD:=fun σ S R Z=>t σ S (fun ds S1=>r ds S1 R) Z
theorem T.cb(h:T K E (KU r t) τ H Q):N1 (Lc K r) (Ta K E t) τ H Q:=by
 obtain⟨σ,S,R,Z,aB,hS,q,hR,hZ⟩:=h
 exact⟨σ,S,_,Z,aB,hS,q,fun ds S1 xs H1 r1 v1 s1 k1=>⟨ds,S1,R,v1,s1,r1,hR.kp k1⟩,hZ⟩
theorem cb{x:Str}{id:String}{r:List D→aN→KD→Prop}{e:Expr}{es:List Expr}{t:oq}{p pos:Pos}(hc:gI K (.builtin id) r)(hm:X.mg x=none)(hv:bootBuiltins x=some (.builtin id))(ha:DA K X (e::es) t)(hg:Gl X x:=by rfl)
  (hn:x ≠ "__name__" := by decide) (oA:(x == ("__debug__" : Str))=false:=by decide) (he:starEach (e::es) X.env=(false,eval e X.env)::starEach es X.env:=by rfl) (l9:(backTo pos (starEach es X.env)).any (·.1)=false:=by rfl) (hK:X.K=K:=by rfl) (hC:X.calm=true:=by rfl) :
  DE K X (.Call (.Name x p) (e::es) [] pos) (KU r t) :=
 ⟨fun y=>(rV (X:=y.cx) (hc _ hK hC) hg hm hv (ha.of y) hn oA he l9).mono fun _ _ _ h=>h.cb⟩
theorem ct{x:Str}{id:String}{r:List D→aN→KD→Prop}{e:Expr}{es:List Expr}{t:oq}{p pos:Pos}(hc:gI K (.type id) r)(hm:X.mg x=none)(hv:bootBuiltins x=some (.type id))(ha:DA K X (e::es) t)(hg:Gl X x:=by rfl)
  (hn:x ≠ "__name__" := by decide) (oA:(x == ("__debug__" : Str))=false:=by decide) (he:starEach (e::es) X.env=(false,eval e X.env)::starEach es X.env:=by rfl) (l9:(backTo pos (starEach es X.env)).any (·.1)=false:=by rfl) (hK:X.K=K:=by rfl) (hC:X.calm=true:=by rfl) :
  DE K X (.Call (.Name x p) (e::es) [] pos) (KU r t) :=
 ⟨fun y=>(xY (X:=y.cx) (hc _ hK hC) hg hm hv (ha.of y) hn oA he l9).mono fun _ _ _ h=>h.cb⟩
end
section
variable{K:Frag}
theorem Cn.now(h:Cn K H R Q)(hS:Rs K S H)(r:R d S)(rv:Rv K H d v):Q v H:=h d S v H r rv hS (.refl _)
theorem Cn.new{H:Hp}{R:KD}{Q:VK}{S:aN}{p:Addr}{ds:List D}{xs:List V}(h:Cn K H R Q)(hS:Rs K S H)(hp:H p=none)(r:S p=none→R (.ref p) (S.set p (.lst ds)))(rv:RvAll K H ds xs):Q (.ref p) (upd H p (.lst xs)) :=
 h _ _ _ _ (r (hS.fresh hp)) (fw p) (hS.new hp ⟨xs,bN,RvAll.ts (.new hp) _ rv⟩) (.new hp)
theorem Cn.Ej{H:Hp}{R:KD}{Q:VK}{S:aN}{p:Addr}{ds:List D}{xs:List V}(h:Cn K H R Q)(hS:Rs K S H)(hp:H p=none)(r:R (.tup ds) S)(rv:RvAll K H ds xs):Q (.ref p) (upd H p (.tup xs)) :=
 h _ _ _ _ r (jt bN (RvAll.ts (.new hp) _ rv)) (hS.grow hp) (.new hp)
theorem Cn.put{H:Hp}{R:KD}{Q:VK}{S:aN}{p:Addr}{ds es:List D}{xs:List V}{d:D}{v:V}(h:Cn K H R Q)(hS:Rs K S H)(hp:S p=some (.lst es))(r:R d (S.set p (.lst ds)))(rd:Rv K H d v)(rv:RvAll K H ds xs):Q v (upd H p (.lst xs)) :=
 h _ _ _ _ r (Rv.ts (hS.m8 hp) _ rd) (hS.put hp ⟨xs,bN,RvAll.ts (hS.m8 hp) _ rv⟩) (hS.m8 hp)
def sD(S:aN):D→List D→Prop
 |.ref a,ds=>S a=some (.lst ds)
 |.g8 es,ds=>es=ds
 |_,_=>False
theorem sD.at{H:Hp}{S:aN}{d:D}{ds:List D}{v:V}(h:sD S d ds)(hS:Rs K S H)(r:Rv K H d v):∃a xs,v=.ref a∧i7 K H a xs∧RvAll K H ds xs:=by
 cases d with
 |ref a =>
  obtain⟨xs,e,q⟩:=hS.lst h
  exact⟨a,xs,r.ref,.of e,q⟩
 |g8 es =>
  have h:es=ds:=h
  subst h
  obtain⟨a,xs,e,q,t⟩:=r.g8
  exact⟨a,xs,e,q.sq,t⟩
 |_=>exact h.elim
def KW:rK:=fun x y S R=>match x,y with
 |.int i,.int j=>R (.int (i+j)) S
 |.str a,.str b=>a.length+b.length≤sizeLine∧R (.str (a++b)) S
 |.tup a,.tup b=>a.length+b.length≤sizeLine∧R (.tup (a++b)) S
 |.ref a,.ref b=>∃xs ys,S a=some (.lst xs)∧S b=some (.lst ys)∧xs.length+ys.length≤sizeLine∧∀p,S p=none→R (.ref p) (S.set p (.lst (xs++ys)))
 |_,_=>False
theorem aj:lQ K (binaryOp .Add) KW:=by
 rintro X hK hu pins s σ H x y v u Q I rx ry ⟨d,e,S,R,r1,r2,hS,h,hR⟩
 subst hK
 cases d with
 |int i =>
  cases e with
  |int j=>exact GR pins s σ H x y v u Q I rx ry ⟨i,j,r1.int,r2.int,hR.now hS h (aF _)⟩
  |_=>exact h.elim
 |str i =>
  cases e with
  |str j=>exact uM pins s σ H x y v u Q I rx ry ⟨i,j,r1.str,r2.str,h.1,hR.now hS h.2 (cS _)⟩
  |_=>exact h.elim
 |tup i =>
  cases e with
  |tup j =>
   obtain⟨a,xs,rfl,q1,t1⟩:=r1.tup
   obtain⟨b,ys,rfl,q2,t2⟩:=r2.tup
   refine Ec pins s σ H _ _ v u Q I rx ry ⟨a,b,xs,ys,rfl,rfl,.of q1,.of q2,by rw[t1.len,t2.len];exact h.1,fun e=>?_,fun _ e=>?_,fun _ _ p hp=>hR.Ej hS hp h.2 (t1.app t2)⟩
   ·subst e
    have:i=[]:=List.length_eq_zero_iff.mp t1.len.symm
    subst this
    exact hR.now hS h.2 (jt q2 t2)
   ·subst e
    have:j=[]:=List.length_eq_zero_iff.mp t2.len.symm
    subst this
    exact hR.now hS h.2 (by rw[zE];exact jt q1 t1)
  |_=>exact h.elim
 |ref a =>
  cases e with
  |ref b =>
   obtain⟨xs,ys,e1,e2,hl,q⟩:=h
   obtain⟨vs,h1,t1⟩:=hS.lst e1
   obtain⟨ws,h2,t2⟩:=hS.lst e2
   exact Hf pins s σ H x y v u Q I rx ry ⟨a,b,vs,ws,r1.ref,r2.ref,h1,h2,by rw[t1.len,t2.len];exact hl,fun p hp=>hR.new hS hp (q p) (t1.app t2)⟩
  |_=>exact h.elim
 |_=>exact h.elim
def OU:rK:=fun x y S R=>match x,y with
 |.int i,.int j=>R (.int (i - j)) S
 |_,_=>False
theorem jf:lQ K (binaryOp .Sub) OU:=by
 rintro X hK hu pins s σ H x y v u Q I rx ry ⟨d,e,S,R,r1,r2,hS,h,hR⟩
 cases d <;> cases e <;> first|exact False.elim h|exact GS pins s σ H x y v u Q I rx ry ⟨_,_,r1.int,r2.int,hR.now hS h (aF _)⟩
def OV:rK:=fun x y S R=>match x,y with
 |.int i,.int j=>DL i j∧R (.int (i * j)) S
 |.str z,.int n=>MulOk z n∧R (.str (PySem.Txt.mul z n)) S
 |_,_=>False
theorem cn:lQ K (binaryOp .Mult) OV:=by
 rintro X hK hu pins s σ H x y v u Q I rx ry ⟨d,e,S,R,r1,r2,hS,h,hR⟩
 cases d <;> cases e <;> first
  |exact False.elim h
  |exact GU pins s σ H x y v u Q I rx ry ⟨_,_,r1.int,r2.int,h.1,hR.now hS h.2 (aF _)⟩
  |exact uX pins s σ H x y v u Q I rx ry ⟨_,_,r1.str,r2.int,h.1,hR.now hS h.2 (cS _)⟩
def OW:rK:=fun x y S R=>match x,y with
 |.int i,.int j=>0<j∧R (.int (i % j)) S
 |_,_=>False
theorem lR:lQ K (binaryOp .Mod) OW:=by
 rintro X hK hu pins s σ H x y v u Q I rx ry ⟨d,e,S,R,r1,r2,hS,h,hR⟩
 cases d <;> cases e <;> first|exact False.elim h|exact GV pins s σ H x y v u Q I rx ry ⟨_,_,r1.int,r2.int,h.1,hR.now hS h.2 (aF _)⟩
def KY:rK:=fun x y S R=>match x,y with
 |.int i,.int j=>FD i j∧R (.int (i / j)) S
 |_,_=>False
theorem u0:lQ K (binaryOp .FloorDiv) KY:=by
 rintro X hK hu pins s σ H x y v u Q I rx ry ⟨d,e,S,R,r1,r2,hS,h,hR⟩
 cases d <;> cases e <;> first|exact False.elim h|exact Bh pins s σ H x y v u Q I rx ry ⟨_,_,r1.int,r2.int,h.1,hR.now hS h.2 (aF _)⟩
def OX:rK:=fun x y S R=>match x,y with
 |.int i,.int j=>JU i j∧R (.int (i ^ j.toNat)) S
 |_,_=>False
theorem FK:lQ K (binaryOp .Pow) OX:=by
 rintro X hK hu pins s σ H x y v u Q I rx ry ⟨d,e,S,R,r1,r2,hS,h,hR⟩
 cases d <;> cases e <;> first|exact False.elim h|exact GW pins s σ H x y v u Q I rx ry ⟨_,_,r1.int,r2.int,h.1,hR.now hS h.2 (aF _)⟩
def By(f:Int→Int→Bool)(g:Str→Str→Bool):rK:=fun x y S R=>match x,y with
 |.int i,.int j=>R (.bl (f i j)) S
 |.str i,.str j=>R (.bl (g i j)) S
 |_,_=>False
theorem wJ(h1:∀X:Cx,eX X (compareOp op) (DJ fun i j=>.bl (f i j)))
  (h2:∀X:Cx,eX X (compareOp op) (fun x y H Q=>∃i j,x=.str i∧y=.str j∧Q (.bl (g i j)) H)):lQ K (compareOp op) (By f g):=by
 rintro X hK hu pins s σ H x y v u Q I rx ry ⟨d,e,S,R,r1,r2,hS,h,hR⟩
 cases d <;> cases e <;> first
  |exact False.elim h
  |exact h1 X pins s σ H x y v u Q I rx ry ⟨_,_,r1.int,r2.int,hR.now hS h (a_ _)⟩
  |exact h2 X pins s σ H x y v u Q I rx ry ⟨_,_,r1.str,r2.str,hR.now hS h (a_ _)⟩
theorem sE:lQ K (compareOp .Lt) (By (fun i j=>decide (i<j)) fun i j=>Og i j):=wJ (fun _=>JW) fun _=>xQ
theorem df:lQ K (compareOp .LtE) (By (fun i j=>decide (i≤j)) fun i j=>om i j):=wJ (fun _=>JX) fun _=>yH
theorem m9:lQ K (compareOp .Gt) (By (fun i j=>decide (j<i)) fun i j=>Og j i):=wJ (fun _=>JY) fun _=>yJ
theorem HB:lQ K (compareOp .GtE) (By (fun i j=>decide (j≤i)) fun i j=>om j i):=wJ (fun _=>JZ) fun _=>yI
def fz:D→Bool
 |.aK=>true
 |_=>false
theorem sF(r:Rv K H d v):decide (v=.aK)=fz d:=by
 cases d with
 |aK=>rw[r.aK];rfl
 |bl b=>rw[r.bl];rfl
 |int b=>rw[r.int];rfl
 |str b=>rw[r.str];rfl
 |ref b=>rw[r.ref];rfl
 |ty b=>rw[r.ty];rfl
 |tup b=>obtain⟨a,xs,rfl,_⟩:=r.tup;rfl
 |g8 b=>obtain⟨a,xs,rfl,_⟩:=r.g8;rfl
 |kt b=>obtain⟨a,xs,rfl,_⟩:=r.kt;rfl
def SW:rK:=fun x y S R=>match y with
 |.aK=>R (.bl (fz x)) S
 |_=>False
def KZ:rK:=fun x y S R=>match y with
 |.aK=>R (.bl (!fz x)) S
 |_=>False
theorem qt:lQ K (compareOp .Is) SW:=by
 rintro X hK hu pins s σ H x y v u Q I rx ry ⟨d,e,S,R,r1,r2,hS,h,hR⟩
 cases e <;> first|exact False.elim h|exact GY pins s σ H x y v u Q I rx ry ⟨r2.aK,by rw[sF r1];exact hR.now hS h (a_ _)⟩
theorem u1:lQ K (compareOp .IsNot) KZ:=by
 rintro X hK hu pins s σ H x y v u Q I rx ry ⟨d,e,S,R,r1,r2,hS,h,hR⟩
 cases e <;> first|exact False.elim h|exact DM pins s σ H x y v u Q I rx ry ⟨r2.aK,by rw[sF r1];exact hR.now hS h (a_ _)⟩
mutual
def Dp(S:aN):D→PyData→Prop
 |.aK,p=>p=.none
 |.bl b,p=>p=.bool b
 |.int i,p=>p=.int i
 |.str z,p=>p=.str z
 |.tup ds,p=>∃ps,p=.tuple ps∧DpAll S ds ps
 |.g8 ds,p=>∃ps,p=.list ps∧DpAll S ds ps
 |.kt _,_=>False
 |.ref _,_=>False
 |.ty _,_=>False
def DpAll(S:aN):List D→List PyData→Prop
 |[],ps=>ps=[]
 |d::ds,ps=>∃q qs,ps=q::qs∧Dp S d q∧DpAll S ds qs
end
mutual
theorem Dp.dt:∀(d:D) {p:PyData}{v:V},Dp S d p→Rv K H d v→Dt K H p v
 |.aK,p,v,h,r=>by simp only [Dp] at h;subst h;simp only [Dt];exact r.aK
 |.bl b,p,v,h,r=>by simp only [Dp] at h;subst h;simp only [Dt];exact r.bl
 |.int b,p,v,h,r=>by simp only [Dp] at h;subst h;simp only [Dt];exact r.int
 |.str b,p,v,h,r=>by simp only [Dp] at h;subst h;simp only [Dt];exact r.str
 |.tup ds,p,v,h,r=>by
  simp only [Dp] at h
  obtain⟨ps,rfl,h⟩:=h
  obtain⟨a,xs,rfl,q,t⟩:=r.tup
  simp only [Dt]
  exact⟨a,xs,rfl,.of q,DpAll.dt ds h t⟩
 |.g8 ds,p,v,h,r=>by
  simp only [Dp] at h
  obtain⟨ps,rfl,h⟩:=h
  obtain⟨a,xs,rfl,q,t⟩:=r.g8
  simp only [Dt]
  exact⟨a,xs,rfl,q.sq,DpAll.dt ds h t⟩
 |.kt a,p,v,h,r=>by simp only [Dp] at h
 |.ref a,p,v,h,r=>by simp only [Dp] at h
 |.ty a,p,v,h,r=>by simp only [Dp] at h
theorem DpAll.dt:∀(ds:List D) {ps:List PyData}{vs:List V},DpAll S ds ps→RvAll K H ds vs→DtAll K H ps vs
 |[],ps,vs,h,r=>by simp only [DpAll] at h;subst h;rw[r.nil];simp only [DtAll]
 |d::ds,ps,vs,h,r=>by
  simp only [DpAll] at h
  obtain⟨q,qs,rfl,h1,h2⟩:=h
  obtain⟨y,ys,rfl,r1,r2⟩:=r.cons
  simp only [DtAll]
  exact⟨y,ys,rfl,Dp.dt d h1 r1,DpAll.dt ds h2 r2⟩
end
def Dl(S:aN):D→PyData→Prop
 |.ref a,p=>∃ds ps,S a=some (.lst ds)∧p=.list ps∧DpAll S ds ps
 |d,p=>Dp S d p
theorem Dl.dt(h:Dl S d p)(hS:Rs K S H)(r:Rv K H d v):Dt K H p v:=by
 cases d with
 |ref a =>
  obtain⟨ds,ps,e,rfl,h⟩:=h
  obtain⟨xs,e1,t⟩:=hS.lst e
  rw[r.ref]
  simp only [Dt]
  exact⟨a,xs,rfl,.of e1,DpAll.dt ds h t⟩
 |_=>exact Dp.dt _ h r
def Ek(neg:Bool):rK:=fun x y S R=>match x,y with
 |.int i,.int j=>R (.bl (if neg then !decide (i=j) else decide (i=j))) S
 |.str i,.str j=>R (.bl (if neg then !decide (i=j) else decide (i=j))) S
 |x,y=>∃p q,Dl S x p∧Dl S y q∧p.canLay0=true∧q.canLay0=true∧(p.depth≤64∨q.depth≤64)∧R (.bl (if neg then !PyData.eqv p q else PyData.eqv p q)) S
theorem Bz(h:Ek neg x y S R):(∃i j,x=.int i∧y=.int j∧R (.bl (if neg then !decide (i=j) else decide (i=j))) S)∨(∃i j,x=.str i∧y=.str j∧R (.bl (if neg then !decide (i=j) else decide (i=j))) S) ∨
  ∃p q,Dl S x p∧Dl S y q∧p.canLay0=true∧q.canLay0=true∧(p.depth≤64∨q.depth≤64)∧R (.bl (if neg then !PyData.eqv p q else PyData.eqv p q)) S:=by
 cases x <;> cases y <;> first|exact .inl ⟨_,_,rfl,rfl,h⟩|exact .inr (.inl ⟨_,_,rfl,rfl,h⟩)|exact .inr (.inr h)
theorem aP:lQ K (compareOp .Eq) (Ek false):=by
 rintro X hK hu pins s σ H x y v u Q I rx ry ⟨d,e,S,R,r1,r2,hS,h,hR⟩
 subst hK
 rcases Bz h with ⟨i,j,rfl,rfl,h⟩|⟨i,j,rfl,rfl,h⟩|⟨p,q,h1,h2,c1,c2,dp,h⟩
 ·cases r1.int;cases r2.int
  refine Fx pins s σ H _ _ v u Q I rx ry ⟨rfl,?_⟩
  have e:decide (V.int i=V.int j)=decide (i=j):=by simp
  rw[e];exact hR.now hS h (a_ _)
 ·cases r1.str;cases r2.str
  refine Fx pins s σ H _ _ v u Q I rx ry ⟨rfl,?_⟩
  have e:decide (V.str i=V.str j)=decide (i=j):=by simp
  rw[e];exact hR.now hS h (a_ _)
 ·exact Ht hu pins s σ H x y v u Q I rx ry ⟨p,q,h1.dt hS r1,h2.dt hS r2,c1,c2,dp,hR.now hS h (a_ _)⟩
theorem ju:lQ K (compareOp .NotEq) (Ek true):=by
 rintro X hK hu pins s σ H x y v u Q I rx ry ⟨d,e,S,R,r1,r2,hS,h,hR⟩
 subst hK
 rcases Bz h with ⟨i,j,rfl,rfl,h⟩|⟨i,j,rfl,rfl,h⟩|⟨p,q,h1,h2,c1,c2,dp,h⟩
 ·cases r1.int;cases r2.int
  refine Fy pins s σ H _ _ v u Q I rx ry ⟨rfl,?_⟩
  have e:decide (V.int i=V.int j)=decide (i=j):=by simp
  rw[e];exact hR.now hS h (a_ _)
 ·cases r1.str;cases r2.str
  refine Fy pins s σ H _ _ v u Q I rx ry ⟨rfl,?_⟩
  have e:decide (V.str i=V.str j)=decide (i=j):=by simp
  rw[e];exact hR.now hS h (a_ _)
 ·exact Hu hu pins s σ H x y v u Q I rx ry ⟨p,q,h1.dt hS r1,h2.dt hS r2,c1,c2,dp,hR.now hS h (a_ _)⟩
def dI(kvs:List (Key×D))(k:Key):Option D:=(kvs.find? fun kv=>decide (kv.1=k)).map (·.2)
def dput(kvs:List (Key×D))(k:Key)(v:D):List (Key×D):=if (kvs.any fun kv=>decide (kv.1=k))=true then kvs.map (fun kv=>if kv.1=k then (kv.1,v) else kv) else kvs++[(k,v)]
theorem dH.val(h:dH K H ks vs)(k:Key):(∀d,dI ks k=some d→∃v,jU vs k=some v∧Rv K H d v)∧(dI ks k=none→jU vs k=none):=by
 induction h with
 |nil=>exact⟨fun d e=>(by cases e),fun _=>rfl⟩
 |@cons a b l m r t ih =>
  obtain⟨k',d⟩:=a
  obtain⟨V0,v⟩:=b
  obtain⟨e0,r⟩:=r
  dsimp only at e0
  subst e0
  unfold dI jU
  simp only [yw]
  by_cases q:k'=k
  ·rw[zr q];exact⟨fun d' e=>⟨v,rfl,(by cases e;exact r)⟩,fun e=>(by cases e)⟩
  ·rw[zh q];exact ih
theorem dH.any(h:dH K H ks vs)(k:Key):(ks.any fun kv=>decide (kv.1=k))=(vs.any fun kv=>decide (kv.1=k)):=by
 induction h with
 |nil=>rfl
 |cons r t ih=>rw[yC,yC,ih,r.1]
theorem dH.len(h:dH K H ks vs):vs.length=ks.length:=(Paired.length h).symm
theorem dH.app:∀{ks ls:List (κ×D)}{vs ws:List (κ×V)},dH K H ks vs→dH K H ls ws→dH K H (ks++ls) (vs++ws)
 |_,_,_,_,.nil,h=>h
 |_,_,_,_,.cons r t,h=>.cons r (dH.app t h)
theorem dH.Hh(h:dH K H ks vs)(k:Key)(rd:Rv K H d v):dH K H (ks.map fun kv=>if kv.1=k then (kv.1,d) else kv) (vs.map fun kv=>if kv.1=k then (kv.1,v) else kv):=by
 induction h with
 |nil=>exact .nil
 |@cons a b l m r t ih =>
  refine .cons ?_ ih
  dsimp only
  by_cases q:b.1=k
  ·rw[if_pos q,if_pos (r.1.trans q)];exact⟨r.1,rd⟩
  ·rw[if_neg q,if_neg fun z=>q (r.1.symm.trans z)];exact r
theorem dH.put(h:dH K H ks vs)(k:Key)(rd:Rv K H d v):dH K H (dput ks k d) (putK vs k v):=by
 unfold dput putK
 rw[h.any k]
 split
 ·exact h.Hh k rd
 ·exact h.app (.cons ⟨rfl,rd⟩ .nil)
def HC:D→Option Key
 |.int i=>some (.inl i)
 |.str z=>some (.inr z)
 |_=>none
theorem u3(h:HC d=some k)(r:Rv K H d v):v=kV k:=by
 cases d with
 |int i=>cases h;exact r.int
 |str i=>cases h;exact r.str
 |_=>cases h
def g9:D→Bool
 |.aK=>true|.bl _=>true|.int _=>true|.str _=>true
 |_=>false
def gU:D→V
 |.aK=>.aK|.bl b=>.bl b|.int i=>.int i|.str z=>.str z|.ref a=>.ref a|.ty n=>.ty n
 |_=>.aK
theorem g_(h:g9 d=true)(r:Rv K H d v):v=gU d∧fH v=true:=by
 cases d with
 |aK=>cases r.aK;exact⟨rfl,rfl⟩
 |bl b=>cases r.bl;exact⟨rfl,rfl⟩
 |int b=>cases r.int;exact⟨rfl,rfl⟩
 |str b=>cases r.str;exact⟨rfl,rfl⟩
 |_=>cases h
theorem fc:∀{ds:List D}{vs:List V},ds.all g9=true→RvAll K H ds vs→vs=ds.map gU∧vs.all fH=true
 |[],vs,_,r=>by rw[r.nil];exact⟨rfl,rfl⟩
 |d::ds,vs,h,r=>by
  obtain⟨y,ys,rfl,r1,r2⟩:=r.cons
  rw[zY,zm] at h
  obtain⟨e1,f1⟩:=g_ h.1 r1
  obtain⟨e2,f2⟩:=fc h.2 r2
  refine⟨by rw[e1,e2];rfl,?_⟩
  rw[zY,f1,f2];rfl
def inD(neg:Bool):rK:=fun x y S R=>match y with
 |.str j=>∃i,x=.str i∧R (.bl (if neg then !(!(Builtin.Str.occurrences j i 0 j.length 1).isEmpty) else !(Builtin.Str.occurrences j i 0 j.length 1).isEmpty)) S
 |.kt ds=>g9 x=true∧ds.all g9=true∧R (.bl (if neg then !uA (gU x) (ds.map gU) else uA (gU x) (ds.map gU))) S
 |.tup ds=>g9 x=true∧ds.all g9=true∧R (.bl (if neg then !uA (gU x) (ds.map gU) else uA (gU x) (ds.map gU))) S
 |.ref a=>(∃ds,S a=some (.lst ds)∧g9 x=true∧ds.all g9=true∧R (.bl (if neg then !uA (gU x) (ds.map gU) else uA (gU x) (ds.map gU))) S) ∨
   ∃kvs k,S a=some (.iT kvs)∧HC x=some k∧R (.bl (if neg then !(dI kvs k).isSome else (dI kvs k).isSome)) S
 |_=>False
theorem mE(hS:Rs K S H)(e:S a=some (.iT kvs)):∃o,mV H a (kV k) o∧o.isSome=(dI kvs k).isSome∧∀d,dI kvs k=some d→∃v,o=some v∧Rv K H d v:=by
 obtain⟨vs,e1,t⟩:=hS.iT e
 refine⟨_,mV.k e1,?_,fun d h=>(t.val k).1 d h⟩
 cases q:dI kvs k with
 |none=>rw[(t.val k).2 q];rfl
 |some d=>obtain⟨v,e2,_⟩:=(t.val k).1 d q;rw[e2];rfl
theorem qu:lQ K (compareOp .In) (inD false):=by
 rintro X hK hu pins s σ H x y v u Q I rx ry ⟨d,e,S,R,r1,r2,hS,h,hR⟩
 subst hK
 cases e with
 |str j =>
  obtain⟨i,rfl,h⟩:=h
  exact xR pins s σ H x y v u Q I rx ry ⟨i,j,r1.str,r2.str,hR.now hS h (a_ _)⟩
 |tup ds =>
  obtain⟨f1,f2,h⟩:=h
  obtain⟨a,xs,rfl,q,t⟩:=r2.tup
  obtain⟨e1,g1⟩:=g_ f1 r1
  obtain⟨e2,g2⟩:=fc f2 t
  subst e1 e2
  exact kX pins s σ H _ _ v u Q I rx ry ⟨a,_,rfl,.inr (.of q),g1,g2,hR.now hS h (a_ _)⟩
 |kt ds =>
  obtain⟨f1,f2,h⟩:=h
  obtain⟨a,xs,rfl,q,t⟩:=r2.kt
  obtain⟨e1,g1⟩:=g_ f1 r1
  obtain⟨e2,g2⟩:=fc f2 t
  subst e1 e2
  exact kX pins s σ H _ _ v u Q I rx ry ⟨a,_,rfl,.inr (.inr q),g1,g2,hR.now hS h (a_ _)⟩
 |ref a =>
  cases r2.ref
  rcases h with ⟨ds,e,f1,f2,h⟩|⟨kvs,k,e,hk,h⟩
  ·obtain⟨xs,e1,t⟩:=hS.lst e
   obtain⟨e2,g1⟩:=g_ f1 r1
   obtain⟨e3,g2⟩:=fc f2 t
   subst e2 e3
   exact kX pins s σ H _ _ v u Q I rx ry ⟨a,_,rfl,.inl (.of e1),g1,g2,hR.now hS h (a_ _)⟩
  ·cases u3 hk r1
   cases ry
   obtain⟨o,g,e1,_⟩:=mE (k:=k) hS e
   refine Oc (by lia) I g rx fun s' I'=>⟨.bl o.isSome,H,I',rfl,?_⟩
   rw[e1];exact hR.now hS h (a_ _)
 |_=>exact h.elim
theorem sG:lQ K (compareOp .NotIn) (inD true):=by
 rintro X hK hu pins s σ H x y v u Q I rx ry ⟨d,e,S,R,r1,r2,hS,h,hR⟩
 subst hK
 cases e with
 |str j =>
  obtain⟨i,rfl,h⟩:=h
  exact qd pins s σ H x y v u Q I rx ry ⟨i,j,r1.str,r2.str,hR.now hS h (a_ _)⟩
 |tup ds =>
  obtain⟨f1,f2,h⟩:=h
  obtain⟨a,xs,rfl,q,t⟩:=r2.tup
  obtain⟨e1,g1⟩:=g_ f1 r1
  obtain⟨e2,g2⟩:=fc f2 t
  subst e1 e2
  exact f_ pins s σ H _ _ v u Q I rx ry ⟨a,_,rfl,.inr (.of q),g1,g2,hR.now hS h (a_ _)⟩
 |kt ds =>
  obtain⟨f1,f2,h⟩:=h
  obtain⟨a,xs,rfl,q,t⟩:=r2.kt
  obtain⟨e1,g1⟩:=g_ f1 r1
  obtain⟨e2,g2⟩:=fc f2 t
  subst e1 e2
  exact f_ pins s σ H _ _ v u Q I rx ry ⟨a,_,rfl,.inr (.inr q),g1,g2,hR.now hS h (a_ _)⟩
 |ref a =>
  cases r2.ref
  rcases h with ⟨ds,e,f1,f2,h⟩|⟨kvs,k,e,hk,h⟩
  ·obtain⟨xs,e1,t⟩:=hS.lst e
   obtain⟨e2,g1⟩:=g_ f1 r1
   obtain⟨e3,g2⟩:=fc f2 t
   subst e2 e3
   exact f_ pins s σ H _ _ v u Q I rx ry ⟨a,_,rfl,.inl (.of e1),g1,g2,hR.now hS h (a_ _)⟩
  ·cases u3 hk r1
   cases ry
   obtain⟨o,g,e1,_⟩:=mE (k:=k) hS e
   refine D2 (by lia) I g rx fun s' I'=>⟨.bl (!o.isSome),H,I',rfl,?_⟩
   rw[e1];exact hR.now hS h (a_ _)
 |_=>exact h.elim
def SX(K:Frag)(r:rK):Prop:=∀X:Cx,X.K=K→X.A.units+64<cLine→J6 X (Lr K r)
def Q1:rK:=fun x y S R=>match x,y with
 |.tup ds,.int i=>∃d,gT ds i=some d∧R d S
 |.kt ds,.int i=>∃d,gT ds i=some d∧R d S
 |.g8 ds,.int i=>∃d,gT ds i=some d∧R d S
 |.str z,.int i=>∃c,z.length≤sizeLine∧gT z.cps.toList i=some c∧R (.str ⟨#[c]⟩) S
 |.ref a,.int i=>∃ds d,S a=some (.lst ds)∧gT ds i=some d∧R d S
 |.ref a,.str z=>∃kvs d,S a=some (.iT kvs)∧dI kvs (.inr z)=some d∧R d S
 |_,_=>False
theorem RvAll.at{H:Hp}{ds:List D}{xs:List V}{i:Int}{d:D}(h:RvAll K H ds xs)(e:gT ds i=some d):∃v,gT xs i=some v∧Rv K H d v:=by
 unfold gT at e ⊢
 rw[h.len]
 cases q:AL ds.length i with
 |none=>rw[q] at e;cases e
 |some j =>
  rw[q] at e
  exact h.get e
theorem OY:SX K Q1:=by
 rintro X hK hu value slice pins s σ H x y v u Q I rx ry ⟨d,e,S,R,r1,r2,hS,h,hR⟩ hs
 subst hK
 cases d with
 |tup ds =>
  cases e with
  |int i =>
   obtain⟨d,e,h⟩:=h
   obtain⟨a,xs,rfl,q,t⟩:=r1.tup
   obtain⟨z,e1,r⟩:=t.at e
   exact Bb value slice pins s σ H _ _ v u Q I rx ry ⟨a,xs,i,z,rfl,r2.int,.of q,e1,hR.now hS h r⟩ hs
  |_=>exact h.elim
 |kt ds =>
  cases e with
  |int i =>
   obtain⟨d,e,h⟩:=h
   obtain⟨a,xs,rfl,q,t⟩:=r1.kt
   obtain⟨z,e1,r⟩:=t.at e
   exact Bb value slice pins s σ H _ _ v u Q I rx ry ⟨a,xs,i,z,rfl,r2.int,.inr q,e1,hR.now hS h r⟩ hs
  |_=>exact h.elim
 |g8 ds =>
  cases e with
  |int i =>
   obtain⟨d,e,h⟩:=h
   obtain⟨a,xs,rfl,q,t⟩:=r1.g8
   obtain⟨z,e1,r⟩:=t.at e
   exact wB value slice pins s σ H _ _ v u Q I rx ry ⟨a,xs,i,z,rfl,r2.int,q.sq,e1,hR.now hS h r⟩ hs
  |_=>exact h.elim
 |str w =>
  cases e with
  |int i =>
   obtain⟨c,e0,e,h⟩:=h
   exact G8 value slice pins s σ H _ _ v u Q I rx ry ⟨w,i,c,r1.str,r2.int,e0,e,hR.now hS h (cS _)⟩ hs
  |_=>exact h.elim
 |ref a =>
  cases e with
  |int i =>
   obtain⟨ds,d,e,e1,h⟩:=h
   obtain⟨xs,e2,t⟩:=hS.lst e
   obtain⟨z,e3,r⟩:=t.at e1
   exact wB value slice pins s σ H _ _ v u Q I rx ry ⟨a,xs,i,z,r1.ref,r2.int,.of e2,e3,hR.now hS h r⟩ hs
  |str w =>
   obtain⟨kvs,d,e,e1,h⟩:=h
   cases r1.ref
   cases r2.str
   cases rx
   obtain⟨o,g,_,e2⟩:=mE (k:=.inr w) hS e
   obtain⟨z,rfl,r⟩:=e2 d e1
   exact tail_any (rZ I g) PySem.F.slot_dict_getitem.lookup (x9 (by lia) I g ry fun w' s' I' qf=>⟨z,H,I',qf,hR.now hS h r⟩) hs
  |_=>exact h.elim
 |_=>exact h.elim
theorem ix(hu:X.A.units+64<cLine)(ha:DE K X a ta)(hb:DE K X b tb)(hs:wA b:=by exact fun _ _=>rfl)(hK:X.K=K:=by rfl):DE K X (.Subscript a b pos) (Jh Q1 ta tb) :=
 ⟨fun y=>(J_ (OY y.cx hK hu) (ha.of y) (hb.of y) hs).mono fun _ _ _ h=>h.op⟩
end
section
variable{K:Frag}{X:Cx}
abbrev FL:=SD→aN→(Option Int→aN→Prop)→KX→Prop
def To(K:Frag)(E:St→XK)(t:FL):TO:=fun τ H Q=>∃σ S R Z,fb K H σ τ∧Rs K S H∧t σ S R Z∧(∀o S' H',R o S'→Rs K S' H'→Kp K H H'→Q o H')∧yR K H Z (E τ)
structure DO(K:Frag)(X:Cx)(e:Option Expr)(t:FL):Prop where
 of:∀{b:Bool} (y:Ev X b),PO y.cx e (To K y.E t)
theorem PO.mono(h:PO X e t)(i:∀τ H Q,t' τ H Q→t τ H Q):PO X e t':=fun pins s τ H Q I q=>h pins s τ H Q I (i τ H Q q)
def K0:FL:=fun _ S R _=>R none S
def K1(t:TD):FL:=fun σ S R Z=>t σ S (fun d S1=>∃i,d=.int i∧R (some i) S1) Z
theorem o0:DO K X none K0:=⟨fun y=>(DX (X:=y.cx)).mono <| by rintro τ H Q ⟨σ,S,R,Z,aB,hS,q,hR,hZ⟩;exact hR _ S H q hS (.refl _)⟩
theorem o1(h:DE K X e t):DO K X (some e) (K1 t) :=
 ⟨fun y=>(DY (h.of y)).mono <| by rintro τ H Q ⟨σ,S,R,Z,aB,hS,q,hR,hZ⟩;exact⟨σ,S,_,Z,aB,hS,q,by rintro d S1 x H1 ⟨i,e,r1⟩ v1 s1 k1;exact by subst e;exact⟨i,v1.int,hR _ S1 H1 r1 s1 k1⟩,hZ⟩⟩
def ay{α:Type}(xs:List α)(lo hi:Option Int):List α:=(xs.drop (HT.sIx xs.length 0 lo)).take (HT.sIx xs.length xs.length hi - HT.sIx xs.length 0 lo)
theorem RvAll.cut{H:Hp}{ds:List D}{xs:List V}(h:RvAll K H ds xs)(lo hi:Option Int):RvAll K H (ay ds lo hi) (rX xs lo hi):=by
 unfold ay rX
 rw[h.len]
 exact (h.drop _).take _
def OZ:D→Option Int→Option Int→aN→KD→Prop:=fun x lo hi S R=>match x with
 |.str z=>z.length≤sizeLine∧R (.str (PySem.Txt.slice z lo hi)) S
 |.tup ds=>¬ (HT.sIx ds.length 0 lo=0∧HT.sIx ds.length ds.length hi=ds.length)∧R (.tup (ay ds lo hi)) S
 |.ref a=>∃ds,S a=some (.lst ds)∧∀p,S p=none→R (.ref p) (S.set p (.lst (ay ds lo hi)))
 |.g8 ds=>∀p,S p=none→R (.ref p) (S.set p (.lst (ay ds lo hi)))
 |_=>False
def SY(K:Frag):V→Option Int→Option Int→Hp→VK→Prop:=fun x lo hi H Q=>∃d S R,Rv K H d x∧Rs K S H∧OZ d lo hi S R∧Cn K H R Q
theorem K2(hK:X.K=K):FA X (SY K):=by
 rintro pins s σ H x v vl vu lo hi sl Q I rx hs pl pu ⟨d,S,R,r1,hS,h,hR⟩
 subst hK
 cases d with
 |str z=>exact HA pins s σ H x v vl vu lo hi sl Q I rx hs pl pu ⟨z,r1.str,h.1,hR.now hS h.2 (cS _)⟩
 |tup ds =>
  obtain⟨a,xs,rfl,q,t⟩:=r1.tup
  exact Ba pins s σ H _ v vl vu lo hi sl Q I rx hs pl pu ⟨a,xs,rfl,.of q,by rw[t.len];exact h.1,fun p hp=>hR.Ej hS hp h.2 (t.cut lo hi)⟩
 |ref a =>
  obtain⟨ds,e,h⟩:=h
  obtain⟨xs,e1,t⟩:=hS.lst e
  exact wC pins s σ H _ v vl vu lo hi sl Q I rx hs pl pu ⟨a,xs,r1.ref,.of e1,fun p hp=>hR.new hS hp (h p) (t.cut lo hi)⟩
 |g8 ds =>
  obtain⟨a,xs,rfl,q,t⟩:=r1.g8
  exact wC pins s σ H _ v vl vu lo hi sl Q I rx hs pl pu ⟨a,xs,rfl,q.sq,fun p hp=>hR.new hS hp (h p) (t.cut lo hi)⟩
 |_=>exact h.elim
def S_(te:TD)(tl th:FL):TD:=fun σ S R Z=>te σ S (fun x S1=>tl σ S1 (fun l S2=>th σ S2 (fun u S3=>OZ x l u S3 R) Z) Z) Z
theorem sl{e:Expr}{lo hi:Option Expr}{te:TD}{tl th:FL}{p2 pos:Pos}(he:DE K X e te)(hl:DO K X lo tl)(hu:DO K X hi th)(hK:X.K=K:=by rfl):DE K X (.Subscript e (.Slice lo hi none p2) pos) (S_ te tl th) :=
 ⟨fun y=>(rW (X:=y.cx) (K2 hK) (he.of y) (hl.of y) (hu.of y)).mono <| by rintro τ H Q ⟨σ,S,R,Z,aB,hS,q,hR,hZ⟩;exact
  ⟨σ,S,_,Z,aB,hS,q,fun d S1 x H1 r1 v1 s1 k1=>⟨σ,S1,_,Z,aB.ts k1,s1,r1,fun l S2 H2 r2 s2 k2=>⟨σ,S2,_,Z,aB.ts (k1.trans k2),s2,r2,fun u S3 H3 r3 s3 k3=>⟨d,S3,R,Rv.ts (k2.trans k3) _ v1,s3,r3,hR.kp ((k1.trans k2).trans k3)⟩,hZ.kp (k1.trans k2)⟩,hZ.kp k1⟩,hZ⟩⟩
def O0(te:TD):TD:=fun σ S R Z=>te σ S (fun x S1=>∃i,x=.int i∧R (.int (-i)) S1) Z
theorem K3(he:DE K X e te):DE K X (.UnaryOp .USub e pos) (O0 te) :=
 ⟨fun y=>(JS GX (he.of y)).mono <| by rintro τ H Q ⟨σ,S,R,Z,aB,hS,q,hR,hZ⟩;exact⟨σ,S,_,Z,aB,hS,q,by rintro d S1 x H1 ⟨i,e,r1⟩ v1 s1 k1;exact by subst e;exact⟨i,v1.int,hR _ S1 _ H1 r1 (aF _) s1 k1⟩,hZ⟩⟩
def O1(T:String)(S:aN):D→Prop
 |.str _=>T = "str"
 |.ref a=>T = "list" ∧ ∃ds,S a=some (.lst ds)
 |.g8 _=>T = "list"
 |_=>False
theorem FN{H:Hp}{S:aN}{T:String}{d:D}{v:V}(h:O1 T S d)(hS:Rs K S H)(r:Rv K H d v):Mz K T v H:=by
 cases d with
 |str z=>rw[r.str];exact h
 |ref a=>obtain⟨e,ds,h⟩:=h;obtain⟨xs,e1,_⟩:=hS.lst h;rw[r.ref];exact .inl ⟨e,xs,.of e1⟩
 |g8 ds=>obtain⟨a,xs,rfl,q,_⟩:=r.g8;exact .inl ⟨h,xs,q.sq⟩
 |_=>exact h.elim
abbrev uC:=D→List D→aN→KD→Prop
def Lm(K:Frag)(r:uC):V→List V→Hp→VK→Prop:=fun x xs H Q=>∃d ds S R,Rv K H d x∧RvAll K H ds xs∧Rs K S H∧r d ds S R∧Cn K H R Q
def AO(K:Frag)(id:String)(r:uC):Prop:=∀X:Cx,X.K=K→Dm X id (Lm K r)
def Tb(T:String)(r:uC)(to:TD)(t:oq):TD:=fun σ S R Z=>to σ S (fun x S1=>O1 T S1 x∧t σ S1 (fun ds S2=>r x ds S2 R) Z) Z
def O2(T:String)(r:uC)(to:TD):TD:=fun σ S R Z=>to σ S (fun x S1=>O1 T S1 x∧r x [] S1 R) Z
theorem bm{o e:Expr}{es:List Expr}{T id:String}{name:Str}{r:uC}{to:TD}{t:oq}{apos aO:Pos}(pa:PlainAttrs T)(slot:Slot T name id)(Hb:typeOf (.builtin id)=pure (.type "method_descriptor"))(hm:AO K id r)(ho:DE K X o to)(ha:DA K X (e::es) t)
  (jT:attributeBase o name X.env (eval o X.env)=eval o X.env:=by rfl)
  (Hc:((backTo aO (starEach (e::es) X.env)).all (fun x=>!x.1) && (backToKw aO (keywordEach [] X.env)).all (fun x=>x.1.isSome)
   && decide ((e::es).length+([]:List Keyword).length+(if ([]:List Keyword).isEmpty then 0 else 1)<30))=true:=by rfl)
  (mR:(apos.endLine == aO.line)=true:=by rfl) (hs:starEach (e::es) X.env=(false,eval e X.env)::starEach es X.env:=by rfl) (uQ:(backTo aO (starEach es X.env)).any (·.1)=false:=by rfl) (hK:X.K=K:=by rfl) :
  DE K X (.Call (.Attribute o name apos) (e::es) [] aO) (Tb T r to t):=by
 subst hK
 exact⟨fun y=>(Kb (X:=y.cx) pa slot Hb (hm _ rfl) (ho.of y) (ha.of y) jT Hc mR hs uQ).mono <| by rintro τ H Q ⟨σ,S,R,Z,aB,hS,q,hR,hZ⟩;exact
  ⟨σ,S,_,Z,aB,hS,q,by rintro d S1 x H1 ⟨h1,r1⟩ v1 s1 k1;exact⟨FN h1 s1 v1,σ,S1,_,Z,aB.ts k1,s1,r1,fun ds S2 xs H2 r2 v2 s2 k2=>⟨d,ds,S2,R,Rv.ts k2 _ v1,v2,s2,r2,hR.kp (k1.trans k2)⟩,hZ.kp k1⟩,hZ⟩⟩
theorem QR{o:Expr}{T id:String}{name:Str}{r:uC}{to:TD}{apos aO:Pos}(pa:PlainAttrs T)(slot:Slot T name id)(Hb:typeOf (.builtin id)=pure (.type "method_descriptor"))(hm:AO K id r)(ho:DE K X o to)
  (jT:attributeBase o name X.env (eval o X.env)=eval o X.env:=by rfl) (mR:(apos.endLine == aO.line)=true:=by rfl) (hK:X.K=K:=by rfl) :
  DE K X (.Call (.Attribute o name apos) [] [] aO) (O2 T r to):=by
 subst hK
 exact⟨fun y=>(Ha (X:=y.cx) pa slot Hb (hm _ rfl) (ho.of y) jT mR).mono <| by rintro τ H Q ⟨σ,S,R,Z,aB,hS,q,hR,hZ⟩;exact
  ⟨σ,S,_,Z,aB,hS,q,by rintro d S1 x H1 ⟨h1,r1⟩ v1 s1 k1;exact⟨FN h1 s1 v1,d,[],S1,R,v1,bR,s1,r1,hR.kp k1⟩,hZ⟩⟩
theorem RvAll.one(h:RvAll K H [d] xs):∃v,xs=[v]∧Rv K H d v:=by
 obtain⟨y,ys,rfl,h1,h2⟩:=h.cons
 rw[h2.nil];exact⟨y,rfl,h1⟩
def El:uC:=fun x ds S R=>∃a es d,x=.ref a∧ds=[d]∧S a=some (.lst es)∧es.length<sizeLine∧R .aK (S.set a (.lst (es++[d])))
theorem dJ:AO K "list.append" El:=by
 rintro X hK pins s σ H x xs v us Q I rx rs ⟨d,ds,S,R,r1,r2,hS,⟨a,es,y,e1,e2,e3,hl,h⟩,hR⟩
 subst e1 e2
 obtain⟨w0,rfl,q2⟩:=r2.one
 obtain⟨zs,e4,t⟩:=hS.lst e3
 exact x8 pins s σ H x _ v us Q I rx rs ⟨a,zs,w0,r1.ref,rfl,e4,by rw[t.len];exact hl,hR.put hS e3 h kZ (t.app (br q2 bR))⟩
def O3:uC:=fun x ds S R=>∃a es d,x=.ref a∧ds=[]∧S a=some (.lst es)∧es[es.length - 1]?=some d∧R d (S.set a (.lst es.dropLast))
theorem K4:AO K "list.pop" O3:=by
 rintro X hK pins s σ H x xs v us Q I rx rs ⟨d,ds,S,R,r1,r2,hS,⟨a,es,y,e1,e2,e3,hl,h⟩,hR⟩
 subst e1 e2
 obtain⟨zs,e4,t⟩:=hS.lst e3
 obtain⟨w,e5,r⟩:=t.get hl
 exact Hd pins s σ H x _ v us Q I rx rs ⟨a,zs,w,r1.ref,r2.nil,e4,by rw[t.len];exact e5,hR.put hS e3 h r t.dropLast⟩
def HD:uC:=fun x ds S R=>∃a es i k d,x=.ref a∧ds=[.int i]∧S a=some (.lst es)∧-(2 ^ 63)≤i∧i<2 ^ 63∧seqIndex? i es.length=some k∧es[k]?=some d∧R d (S.set a (.lst (es.eraseIdx k)))
theorem Em:AO K "list.pop" HD:=by
 rintro X hK pins s σ H x xs v us Q I rx rs ⟨d,ds,S,R,r1,r2,hS,⟨a,es,i,k,y,e1,e2,e3,h1,h2,h3,h4,h⟩,hR⟩
 subst e1 e2
 obtain⟨w0,rfl,q2⟩:=r2.one
 obtain⟨zs,e4,t⟩:=hS.lst e3
 obtain⟨w,e5,r⟩:=t.get h4
 exact Be pins s σ H x _ v us Q I rx rs ⟨a,zs,i,k,w,r1.ref,by rw[q2.int],e4,h1,h2,by rw[t.len];exact h3,e5,hR.put hS e3 h r (t.erase k)⟩
def En:uC:=fun x ds S R=>∃(bs:List Bool) (k:Bool),ds=[.bl k]∧sD S x (bs.map D.bl)∧R (.int (bs.count k:Nat)) S
theorem Eo:AO K "list.count" En:=by
 rintro X hK pins s σ H x xs v us Q I rx rs ⟨d,ds,S,R,r1,r2,hS,⟨bs,k,e2,e3,h⟩,hR⟩
 subst hK e2
 obtain⟨w0,rfl,q2⟩:=r2.one
 obtain⟨a,zs,rfl,q,t⟩:=e3.at hS r1
 rw[t.bools] at q
 exact yQ pins s σ H _ _ v us Q I rx rs ⟨a,bs,k,rfl,by rw[q2.bl],q,hR.now hS h (aF _)⟩
def Ep:uC:=fun x ds S R=>∃(es:List D) (d:D) (j:Nat),ds=[d]∧sD S x es∧g9 d=true∧es.all g9=true∧(∃z,es[j]?=some z∧eqV (gU z) (gU d)=true)∧(∀m u,m<j→es[m]?=some u→eqV (gU u) (gU d)=false)∧R (.int j) S
theorem BA:AO K "list.index" Ep:=by
 rintro X hK pins s σ H x xs v us Q I rx rs ⟨d,ds,S,R,r1,r2,hS,⟨es,y,j,e2,e3,f1,f2,⟨z,e4,e5⟩,h4,h⟩,hR⟩
 subst hK e2
 obtain⟨w0,rfl,q2⟩:=r2.one
 obtain⟨a,zs,rfl,q,t⟩:=e3.at hS r1
 obtain⟨g1,g2⟩:=g_ f1 q2
 obtain⟨g3,g4⟩:=fc f2 t
 subst g1 g3
 refine yP pins s σ H _ _ v us Q I rx rs ⟨a,_,_,gU z,j,rfl,rfl,q,g2,g4,by rw[zZ,e4];rfl,e5,fun m u hm e=>?_,hR.now hS h (aF _)⟩
 rw[zZ] at e
 cases q2:es[m]? with
 |none=>rw[q2] at e;cases e
 |some u'=>rw[q2] at e;cases e;exact h4 m u' hm q2
def Er:uC:=fun x ds S R=>∃z y,x=.str z∧ds=[.str y]∧R (.bl (PySem.Txt.startswith z y)) S
theorem jY:AO K "str.startswith" Er:=by
 rintro X hK pins s σ H x xs v us Q I rx rs ⟨d,ds,S,R,r1,r2,hS,⟨z,y,e1,e2,h⟩,hR⟩
 subst e1 e2
 obtain⟨w0,rfl,q2⟩:=r2.one
 exact oJ pins s σ H _ _ v us Q I rx rs ⟨z,y,r1.str,by rw[q2.str],hR.now hS h (a_ _)⟩
def FO(S:aN)(R:KD):D→Prop
 |.str z=>z.length≤sizeLine∧R (.int z.length) S
 |.tup es=>R (.int es.length) S
 |.kt es=>R (.int es.length) S
 |.g8 es=>R (.int es.length) S
 |.ref a=>(∃es,S a=some (.lst es)∧R (.int es.length) S)∨∃kvs,S a=some (.iT kvs)∧R (.int kvs.length) S
 |_=>False
def O4:List D→aN→KD→Prop:=fun ds S R=>∃x,ds=[x]∧FO S R x
theorem aW:gI K (.builtin "len") O4:=by
 rintro X hK hc pins s σ H xs us Q I rx ⟨ds,S,R,r,hS,⟨x,e,h⟩,hR⟩
 subst hK e
 obtain⟨w,rfl,r'⟩:=r.one
 cases x with
 |str z =>
  cases r'.str
  exact gY pins s σ H _ us Q I rx ⟨_,_,rfl,⟨h.1,rfl⟩,hR.now hS h.2 (aF _)⟩
 |tup es =>
  obtain⟨a,xs,rfl,q,t⟩:=r'.tup
  exact gY pins s σ H _ us Q I rx ⟨_,_,rfl,.inr ⟨xs,.of q,t.len.symm⟩,hR.now hS h (aF _)⟩
 |kt es =>
  obtain⟨a,xs,rfl,q,t⟩:=r'.kt
  exact gY pins s σ H _ us Q I rx ⟨_,_,rfl,.inr ⟨xs,.inr q,t.len.symm⟩,hR.now hS h (aF _)⟩
 |g8 es =>
  obtain⟨a,xs,rfl,q,t⟩:=r'.g8
  exact gY pins s σ H _ us Q I rx ⟨_,_,rfl,.inl ⟨xs,q.sq,t.len.symm⟩,hR.now hS h (aF _)⟩
 |ref a =>
  cases r'.ref
  rcases h with ⟨es,e,h⟩|⟨kvs,e,h⟩
  ·obtain⟨xs,e1,t⟩:=hS.lst e
   exact gY pins s σ H _ us Q I rx ⟨_,_,rfl,.inl ⟨xs,.of e1,t.len.symm⟩,hR.now hS h (aF _)⟩
  ·obtain⟨xs,e1,t⟩:=hS.iT e
   exact yG pins s σ H _ us Q I rx ⟨a,xs,rfl,e1,by rw[t.len];exact hR.now hS h (aF _)⟩
 |_=>exact h.elim
def BB(S:aN):D→Kd→Prop
 |.aK,k=>k=.aK
 |.bl _,k=>k=.bl
 |.int _,k=>k=.int
 |.str _,k=>k=.str
 |.ref a,k=>(k=.lst∧∃ds,S a=some (.lst ds))∨(k=.iT∧∃ds,S a=some (.iT ds))
 |.tup _,k=>k=.tup
 |_,_=>False
theorem K5(h:BB S d k)(hS:Rs K S H)(r:Rv K H d v):mZ H v k:=by
 cases d with
 |aK=>cases h;rw[r.aK];exact .aK
 |bl b=>cases h;rw[r.bl];exact .bl b
 |int b=>cases h;rw[r.int];exact .int b
 |str b=>cases h;rw[r.str];exact .str b
 |tup b=>cases h;obtain⟨a,xs,rfl,q,_⟩:=r.tup;exact .tup q
 |ref a =>
  rw[r.ref]
  rcases h with ⟨rfl,ds,h⟩|⟨rfl,ds,h⟩
  ·obtain⟨xs,e,_⟩:=hS.lst h;exact .lst e
  ·obtain⟨xs,e,_⟩:=hS.iT h;exact .iT e
 |_=>exact h.elim
def O5:List D→aN→KD→Prop:=fun ds S R=>∃x n k g,ds=[x,.ty n]∧sh n=some g∧BB S x k∧R (.bl (g k)) S
theorem RvAll.two(h:RvAll K H [d,e] xs):∃v u,xs=[v,u]∧Rv K H d v∧Rv K H e u:=by
 obtain⟨y,ys,rfl,h1,h2⟩:=h.cons
 obtain⟨u,rfl,h3⟩:=h2.one
 exact⟨y,u,rfl,h1,h3⟩
theorem eG:gI K (.builtin "isinstance") O5:=by
 rintro X hK hc pins s σ H xs us Q I rx ⟨ds,S,R,r,hS,⟨x,n,k,g,e,h1,h2,h⟩,hR⟩
 subst hK e
 obtain⟨v,u,rfl,r1,r2⟩:=r.two
 rw[r2.ty] at rx
 exact Bn pins s σ H _ us Q I rx ⟨v,n,k,g,rfl,h1,K5 h2 hS r1,hR.now hS h (a_ _)⟩
def K6:List D→aN→KD→Prop:=fun ds S R=>∃(x:D) (bs:List Bool),ds=[x]∧sD S x (bs.map D.bl)∧R (.bl (bs.all id)) S
theorem fe:gI K (.builtin "all") K6:=by
 rintro X hK hc pins s σ H xs us Q I rx ⟨ds,S,R,r,hS,⟨x,bs,e,h1,h⟩,hR⟩
 subst hK e
 obtain⟨v,rfl,r1⟩:=r.one
 obtain⟨a,zs,rfl,q,t⟩:=h1.at hS r1
 rw[t.bools] at q
 exact oD hc pins s σ H _ us Q I rx ⟨a,bs,rfl,q,hR.now hS h (a_ _)⟩
def intD:List D→aN→KD→Prop:=fun ds S R=>(∃i,ds=[.int i]∧R (.int i) S)∨∃k,ds=[.bl k]∧R (.int (if k then 1 else 0)) S
theorem FP:gI K (.type "int") intD:=by
 rintro X hK hc pins s σ H xs us Q I rx ⟨ds,S,R,r,hS,h,hR⟩
 rcases h with ⟨i,rfl,h⟩|⟨k,rfl,h⟩
 ·obtain⟨v,rfl,r1⟩:=r.one
  exact pj pins s σ H _ us Q I rx (.inl ⟨i,by rw[r1.int],hR.now hS h (aF _)⟩)
 ·obtain⟨v,rfl,r1⟩:=r.one
  exact pj pins s σ H _ us Q I rx (.inr ⟨k,by rw[r1.bl],hR.now hS h (aF _)⟩)
def K7:List D→aN→KD→Prop:=fun ds S R=>∃x es,ds=[x]∧(sD S x es∨x=.tup es)∧∀p,S p=none→R (.ref p) (S.set p (.lst es))
theorem HE:gI K (.type "list") K7:=by
 rintro X hK hc pins s σ H xs us Q I rx ⟨ds,S,R,r,hS,⟨x,es,e,h1,h⟩,hR⟩
 subst hK e
 obtain⟨v,rfl,r1⟩:=r.one
 rcases h1 with h1|rfl
 ·obtain⟨a,zs,rfl,q,t⟩:=h1.at hS r1
  exact jS pins s σ H _ us Q I rx ⟨a,zs,rfl,.inl q,fun p hp=>hR.new hS hp (h p) t⟩
 ·obtain⟨a,zs,rfl,q,t⟩:=r1.tup
  exact jS pins s σ H _ us Q I rx ⟨a,zs,rfl,.inr (.of q),fun p hp=>hR.new hS hp (h p) t⟩
def HF:List D→aN→KD→Prop:=fun ds S R=>∃x es,ds=[x]∧(sD S x es∨x=.tup es)∧R (.tup es) S
theorem fg:gI K (.type "tuple") HF:=by
 rintro X hK hc pins s σ H xs us Q I rx ⟨ds,S,R,r,hS,⟨x,es,e,h1,h⟩,hR⟩
 subst hK e
 obtain⟨v,rfl,r1⟩:=r.one
 rcases h1 with h1|rfl
 ·obtain⟨a,zs,rfl,q,t⟩:=h1.at hS r1
  exact jc pins s σ H _ us Q I rx ⟨a,zs,rfl,.inl ⟨q,fun p hp=>hR.Ej hS hp h t⟩⟩
 ·obtain⟨a,zs,rfl,q,t⟩:=r1.tup
  exact jc pins s σ H _ us Q I rx ⟨a,zs,rfl,.inr ⟨.of q,hR.now hS h (jt q t)⟩⟩
def minD(f:Int→Int→Bool):List D→aN→KD→Prop:=fun ds S R=>∃i j,ds=[.int i,.int j]∧R (.int (if f j i then j else i)) S
theorem K8:gI K (.builtin "max") (minD fun a b=>decide (b<a)):=by
 rintro X hK hc pins s σ H xs us Q I rx ⟨ds,S,R,r,hS,⟨i,j,e,h⟩,hR⟩
 subst e
 obtain⟨v,u,rfl,r1,r2⟩:=r.two
 refine xT hc pins s σ H _ us Q I rx ⟨i,j,by rw[r1.int,r2.int],?_⟩
 have:=hR.now hS h (aF _)
 simpa using this
end
abbrev jg:=List D→aN→KD→KX→Prop
def u7(K:Frag)(sp:jg):Sp:=fun vs H Q e=>∃ds S R Z,RvAll K H ds vs∧Rs K S H∧sp ds S R Z∧Cn K H R Q∧yR K H Z e
section
variable{K:Frag}{X:Cx}{k:Nat}{f C:Addr}{fd:FuncData}{ps:List Str}{sp:Sp}{xW:List V}{ds:List Value}{x m:Str}{p pos apos:Pos}{e o:Expr}{es:List Expr}{b:Bool}{y:Ev X b}
theorem Es(F:cI X.prog X.w X.K X.mg X.base (jM X.prog X.w) k f fd ps sp)(hr:fG k X.A)(hb:Binds X.K fd ps ds)(hd:Vals xW ds)
  (I:Inv y.cx p2 σ H s) (r:Vals vs us) (h:sp (vs++xW) H Q (y.E σ)):wpAny (model X.prog X.w) X.A (call (.ref f) us) (EP y.cx p2 σ Q) y.xe s:=by
 have r2:Vals (vs++xW) (us++ds):=r.append hd
 have hl:(us++ds).length=ps.length:=by rw[← r2.length];exact F.len _ _ _ _ h
 refine wpAny_call (codeAny_mono (F.run X.A X.stack s H ⟨us,[]⟩ (us++ds) (vs++xW) Q (y.E σ) hr I.NX (hb s us I.oz hl) r2 h) fun res s' hq=>?_)
 cases res with
 |error e=>exact y.ok.call p2 σ H s e s' I hq
 |ok fl =>
  cases fl with
  |ret u=>exact I.after hq
  |next=>exact False.elim hq
  |brk=>exact False.elim hq
  |cont=>exact False.elim hq
theorem BC{t:TA}(F:cI X.prog X.w X.K X.mg X.base (jM X.prog X.w) k f fd ps sp)(hr:fG k X.A)(hg:Gl X x)(hm:X.mg x=some (.ref f))(hk:keepIn X.K (.ref f)=true)(hb:Binds X.K fd ps ds)(hd:Vals xW ds)
  (ha:PA y.cx (e::es) t) (oA:(x == ("__debug__" : Str))=false) (he:starEach (e::es) X.env=(false,eval e X.env)::starEach es X.env) (l9:(backTo pos (starEach es X.env)).any (·.1)=false) :
  PE y.cx (.Call (.Name x p) (e::es) [] pos) (fun σ H Q=>t σ H fun vs H1=>sp (vs++xW) H1 Q (y.E σ)):=by
 intro p2 s σ H Q I h
 refine wpAny_Call_Name_kw (mB I hg hm ?_ oA)
 refine PySem.W.callWith_K (h₀:=X.base) I.ok.mod.Mq hk (bA (ha pos p2 s σ H _ I h) fun us s1 ⟨vs,H1,I1,r,q⟩=>⟨I1.oz,?_⟩) he l9
 exact Es F hr hb hd I1 r q
end
section
variable{K:Frag}{X:Cx}{k:Nat}{f C:Addr}{fd:FuncData}{ps:List Str}{sp:jg}{HG:List D}{xW:List V}{ds:List Value}{x m:Str}{p pos apos:Pos}{e o:Expr}{es:List Expr}
structure Q2(K:Frag)(HG:List D)(xW:List V)(ds:List Value):Prop where
 v:Vals xW ds
 d:∀H,RvAll K H HG xW
theorem d0:Q2 K [] [] []:=⟨.nil,fun _=>bR⟩
def K9(sp:jg)(HG:List D)(t:oq):TD:=fun σ S R Z=>t σ S (fun ds S1=>sp (ds++HG) S1 R Z) Z
theorem cf(F:cI X.prog X.w K X.mg X.base (jM X.prog X.w) k f fd ps (u7 K sp))(hr:fG k X.A)(hm:X.mg x=some (.ref f))(hk:keepIn K (.ref f)=true)(hb:Binds K fd ps ds)(hd:Q2 K HG xW ds)(ha:DA K X (e::es) t)
  (hg:Gl X x:=by rfl) (oA:(x == ("__debug__" : Str))=false:=by decide) (he:starEach (e::es) X.env=(false,eval e X.env)::starEach es X.env:=by rfl) (l9:(backTo pos (starEach es X.env)).any (·.1)=false:=by rfl) (hK:X.K=K:=by rfl) :
  DE K X (.Call (.Name x p) (e::es) [] pos) (K9 sp HG t):=by
 subst hK
 exact⟨fun y=>(BC F hr hg hm hk hb hd.v (ha.of y) oA he l9).mono <| by rintro τ H Q ⟨σ,S,R,Z,aB,hS,q,hR,hZ⟩;exact
  ⟨σ,S,_,Z,aB,hS,q,fun es S1 xs H1 r1 v1 s1 k1=>⟨es++HG,S1,R,Z,v1.app (hd.d _),s1,r1,hR.kp k1,hZ.kp k1⟩,hZ⟩⟩
end
structure pK where
 nx:SD→aN→Prop
 rt:KD
 bk:SD→aN→Prop:=fun _ _=>False
 ct:SD→aN→Prop:=fun _ _=>False
abbrev kN:=pK→SD→aN→(SD→KX)→Prop
def FQ(K:Frag)(H:Hp)(R:SD→aN→Prop)(Q:St→Hp→Prop):Prop:=∀σ S τ H',R σ S→fb K H' σ τ→Rs K S H'→Kp K H H'→Q τ H'
structure MO(K:Frag)(H:Hp)(De:pK)(Dv:Ends):Prop where
 nx:FQ K H De.nx Dv.nx
 rt:Cn K H De.rt Dv.rt
 bk:FQ K H De.bk Dv.bk
 ct:FQ K H De.ct Dv.ct
def sH(K:Frag)(H:Hp)(Z:SD→KX)(E:St→XK):Prop:=∀σ τ C S H',Z σ C S→fb K H' σ τ→Rs K S H'→Kp K H H'→E τ (.ref C) none H'
section
variable{K:Frag}{H H1:Hp}{De:pK}{Dv:Ends}{Z:SD→KX}{E:St→XK}{σ:SD}{τ:St}{S:aN}
theorem FQ.kp(h:FQ K H R Q)(k:Kp K H H1):FQ K H1 R Q:=fun σ S τ H' r a b c=>h σ S τ H' r a b (k.trans c)
theorem MO.kp(h:MO K H De Dv)(k:Kp K H H1):MO K H1 De Dv:=⟨h.nx.kp k,h.rt.kp k,h.bk.kp k,h.ct.kp k⟩
theorem sH.kp(h:sH K H Z E)(k:Kp K H H1):sH K H1 Z E:=fun σ τ C S H' r a b c=>h σ τ C S H' r a b (k.trans c)
theorem sH.at(h:sH K H Z E)(r:fb K H σ τ):yR K H (Z σ) (E τ):=fun C S H' z s k=>h σ τ C S H' z (r.ts k) s k
theorem sH.on(h:sH K H Z E)(k:Kp K H H1)(r:fb K H1 σ τ):yR K H1 (Z σ) (E τ):=(h.kp k).at r
end
def Tl(K:Frag)(E:St→XK)(t:kN):TS:=fun Dv τ H=>∃σ S De Z,fb K H σ τ∧Rs K S H∧t De σ S Z∧MO K H De Dv∧sH K H Z E
structure DS(K:Frag)(X:Cx)(b:Bool)(st:Stmt)(t:kN):Prop where
 of:∀y:Ev X b,PS y.cx st (Tl K y.E t)
structure wK(K:Frag)(X:Cx)(b:Bool)(st:List Stmt)(t:kN):Prop where
 of:∀y:Ev X b,uH y.cx st (Tl K y.E t)
theorem PS.mono(h:PS X e t)(i:∀D τ H,t' D τ H→t D τ H):PS X e t':=fun pins s τ H D I q=>h pins s τ H D I (i D τ H q)
theorem uH.mono(h:uH X e t)(i:∀D τ H,t' D τ H→t D τ H):uH X e t':=fun pins s τ H D I q=>h pins s τ H D I (i D τ H q)
section
variable{K:Frag}{X:Cx}{b:Bool}{pos:Pos}
def K_:kN:=fun De σ S _=>De.nx σ S
def O6(t u:kN):kN:=fun De σ S Z=>t { De with nx:=fun aw S'=>u De aw S' Z } σ S Z
theorem s0:wK K X b [] K_:=⟨fun y=>(wj (X:=y.cx)).mono <| by rintro D τ H ⟨σ,S,De,Z,aB,hS,q,hD,hZ⟩;exact hD.nx _ _ _ _ q aB hS (.refl _)⟩
theorem sc{st:Stmt}{r:List Stmt}{t u:kN}(h1:DS K X b st t)(h2:wK K X b r u):wK K X b (st::r) (O6 t u) :=
 ⟨fun y=>(A0 (h1.of y) (h2.of y)).mono <| by rintro D τ H ⟨σ,S,De,Z,aB,hS,q,hD,hZ⟩;exact
  ⟨σ,S,_,Z,aB,hS,q,⟨fun qb S1 MP H1 r1 a b c=>⟨qb,S1,De,Z,a,b,r1,hD.kp c,hZ.kp c⟩,hD.rt,hD.bk,hD.ct⟩,hZ⟩⟩
theorem s1{st:Stmt}{t:kN}(h:DS K X b st t):wK K X b [st] t:=⟨fun y=>DB (h.of y)⟩
def La(t:TD):kN:=fun De σ S Z=>t σ S (fun _ S1=>De.nx σ S1) (Z σ)
theorem se(h:DE K X e t)(hs:swapsWith e none pos.line X.env=pure false:=by rfl):DS K X b (.Expr e pos) (La t) :=
 ⟨fun y=>(DC (X:=y.cx) (h.of y) hs).mono <| by rintro D τ H ⟨σ,S,De,Z,aB,hS,q,hD,hZ⟩;exact⟨σ,S,_,_,aB,hS,q,fun d S1 v H1 r1 _ s1 k1=>hD.nx _ _ _ _ r1 (aB.ts k1) s1 k1,hZ.at aB⟩⟩
def O7(t:TD):kN:=fun De σ S Z=>t σ S De.rt (Z σ)
theorem sr(h:DE K X e t):DS K X b (.Return (some e) pos) (O7 t) :=
 ⟨fun y=>(GG (h.of y)).mono <| by rintro D τ H ⟨σ,S,De,Z,aB,hS,q,hD,hZ⟩;exact⟨σ,S,_,_,aB,hS,q,hD.rt,hZ.at aB⟩⟩
def Tc(c:oo)(t u:kN):kN:=fun De σ S Z=>c σ S (fun b S1=>if b=true then t De σ S1 Z else u De σ S1 Z) (Z σ)
theorem si(hc:DT K X c tc)(ha:wK K X b a t)(hb:wK K X b a' u):DS K X b (.If c a a' pos) (Tc tc t u) :=
 ⟨fun y=>(JF (hc.of y) (ha.of y) (hb.of y)).mono <| by rintro D τ H ⟨σ,S,De,Z,aB,hS,q,hD,hZ⟩;exact
  ⟨σ,S,_,_,aB,hS,q,fun c S1 H1 r1 s1 k1=>by
   cases c with
   |true=>rw[if_pos rfl] at r1 ⊢;exact⟨σ,S1,De,Z,aB.ts k1,s1,r1,hD.kp k1,hZ.kp k1⟩
   |false=>rw[if_neg zk] at r1 ⊢;exact⟨σ,S1,De,Z,aB.ts k1,s1,r1,hD.kp k1,hZ.kp k1⟩,hZ.at aB⟩⟩
abbrev wL:=D→SD→aN→(SD→aN→Prop)→Prop
def Tg(K:Frag)(g:wL):TG:=fun v τ H Q=>∃d σ S R,Rv K H d v∧fb K H σ τ∧Rs K S H∧g d σ S R∧FQ K H R Q
structure DG(K:Frag)(X:Cx)(e:Expr)(g:wL):Prop where
 of:∀Y:Cx,Y.K=X.K→Y.N=X.N→Y.env=X.env→Y.fn=X.fn→Y.calm=X.calm→PG Y e (Tg K g)
theorem PG.mono(h:PG X e t)(i:∀v τ H Q,t' v τ H Q→t v τ H Q):PG X e t':=fun pins s τ H v u Q I r q=>h pins s τ H v u Q I r (i v τ H Q q)
def MQ(i:Nat):wL:=fun d σ S R=>R (σ.set i (some d)) S
theorem gn(hN:X.N.Nodup)(hi:X.N[i]?=some x:=by rfl)(hx:Loc X.env.scope x:=by first|exact Or.inl rfl|exact Or.inr rfl)(hf:X.fn x=true∨X.env.scope.names.lookup x=some .local:=by first|exact .inl rfl|exact .inr rfl):DG K X (.Name x pos) (MQ i) :=
 ⟨fun Y _ e2 e3 e4 _=>(mC (X:=Y) (by rw[e2];exact hN) (by rw[e2];exact hi) (by rw[e3];exact hx) (by rw[e3,e4];exact hf)).mono <| by rintro v τ H Q ⟨d,σ,S,R,rv,aB,hS,q,hR⟩;exact hR _ S _ H q (aB.set i rv) hS (.refl _)⟩
abbrev yT:=List D→SD→aN→(SD→aN→Prop)→Prop
def Td(K:Frag)(g:yT):Ja:=fun vs τ H Q=>∃ds σ S R,RvAll K H ds vs∧fb K H σ τ∧Rs K S H∧g ds σ S R∧FQ K H R Q
structure MR(K:Frag)(X:Cx)(es:List Expr)(g:yT):Prop where
 of:∀Y:Cx,Y.K=X.K→Y.N=X.N→Y.env=X.env→Y.fn=X.fn→Y.calm=X.calm→Fw Y es (Td K g)
theorem Fw.mono(h:Fw X e t)(i:∀v τ H Q,t' v τ H Q→t v τ H Q):Fw X e t':=fun pins s τ H v u Q I r q=>h pins s τ H v u Q I r (i v τ H Q q)
def FR:yT:=fun ds σ S R=>ds=[]∧R σ S
def u9(g:wL)(u:yT):yT:=fun ds σ S R=>∃d r,ds=d::r∧g d σ S fun qb S1=>u r qb S1 R
theorem g0:MR K X [] FR:=⟨fun Y _ _ _ _ _=>(wk (X:=Y)).mono <| by rintro vs τ H Q ⟨ds,σ,S,R,rv,aB,hS,⟨e,q⟩,hR⟩;exact by subst e;exact⟨rv.nil,hR _ _ _ _ q aB hS (.refl _)⟩⟩
theorem gc(h1:DG K X e g)(h2:MR K X es u)(hs:∀env:Env,(assignEach (e::es) env).map (·.2)=assign e env::(assignEach es env).map (·.2):=by intro _;rfl):MR K X (e::es) (u9 g u) :=
 ⟨fun Y a b c d f=>(mK (h1.of Y a b c d f) (h2.of Y a b c d f) (hs _)).mono <| by
  rintro vs τ H Q ⟨ds,σ,S,R,rv,aB,hS,⟨d,r,e,q⟩,hR⟩
  subst e
  obtain⟨y,ys,e1,r1,r2⟩:=rv.cons
  exact⟨y,ys,e1,d,σ,S,_,r1,aB,hS,q,fun qb S1 MP H1 q1 a b c=>⟨r,qb,S1,R,RvAll.ts c _ r2,a,b,q1,hR.kp c⟩⟩⟩
def FT(n:Nat)(g:yT):wL:=fun d σ S R=>∃ds,d=.tup ds∧ds.length=n∧g ds σ S R
theorem gt(h:MR K X es g)(hn:∀env:Env,(assignEach es env).length=n:=by intro _;rfl)(wm:∀env:Env,(assignEach es env).findIdx? (·.1)=none:=by intro _;rfl)(hK:X.K=K:=by rfl)(hc:X.calm=true:=by rfl):DG K X (.Tuple es j pos) (FT n g) :=
 ⟨fun Y a b c d f=>(A1 (X:=Y) (by rw[f];exact hc) (h.of Y a b c d f) (hn _) (wm _)).mono <| by
  rintro v τ H Q ⟨d,σ,S,R,rv,aB,hS,⟨ds,e,hl,q⟩,hR⟩
  subst e
  obtain⟨p,xs,e1,e2,t⟩:=rv.tup
  exact⟨p,xs,e1,.of e2,by rw[t.len];exact hl,ds,σ,S,R,t,aB,hS,q,hR⟩⟩
def O8(i:Nat)(t:TD):kN:=fun De σ S Z=>t σ S (fun d S1=>De.nx (σ.set i (some d)) S1) (Z σ)
theorem bK(hN:X.N.Nodup)(h:DE K X e t)(hi:X.N[i]?=some x:=by rfl)(hx:Loc X.env.scope x:=by first|exact Or.inl rfl|exact Or.inr rfl)(hs:swapsWith e (some (.Name x pos')) pos.line X.env=pure false:=by rfl)
  (hf:X.fn x=true∨X.env.scope.names.lookup x=some .local:=by first|exact .inl rfl|exact .inr rfl):DS K X b (.Assign [.Name x pos'] e pos) (O8 i t) :=
 ⟨fun y=>(GI (X:=y.cx) (i:=i) hN hi hx (h.of y) hs hf).mono <| by rintro D τ H ⟨σ,S,De,Z,aB,hS,q,hD,hZ⟩;exact⟨σ,S,_,_,aB,hS,q,fun d S1 v H1 r1 v1 s1 k1=>hD.nx _ _ _ _ r1 ((aB.ts k1).set i v1) s1 k1,hZ.at aB⟩⟩
def O9(t:TD)(g:wL):kN:=fun De σ S Z=>t σ S (fun d S1=>g d σ S1 De.nx) (Z σ)
theorem sa(h:DE K X e t)(hg:DG K X tg g)(hs:swapsWithSole [tg] e pos.line X.env=pure false:=by rfl)(hw:swappedStores [tg] e X.env=pure none:=by rfl)(h1:(assignEach [tg] X.env).map (·.2)=[assign tg X.env]:=by rfl) :
  DS K X b (.Assign [tg] e pos) (O9 t g) :=
 ⟨fun y=>(A2 (X:=y.cx) (h.of y) (hg.of _ rfl rfl rfl rfl rfl) hs hw h1).mono <| by rintro D τ H ⟨σ,S,De,Z,aB,hS,q,hD,hZ⟩;exact⟨σ,S,_,_,aB,hS,q,fun d S1 v H1 r1 v1 s1 k1=>⟨d,σ,S1,_,v1,aB.ts k1,s1,r1,hD.nx.kp k1⟩,hZ.at aB⟩⟩
end
section
variable{X:Cx}{pins:List (Addr×Obj)}{σ:St}{H:Hp}{s:Shared}{A:Around}{E:Value→Shared→Prop}{a:Addr}{kvs:List (Key×V)}{k:Key}{u:Value}
end
section
variable{X:Cx}{o e f:Expr}{apos aO:Pos}{td ty tx:TE}
end
section
variable{K:Frag}{X:Cx}{b:Bool}{o e f:Expr}{apos aO pos:Pos}{td ty tx:TD}
theorem HH(hS:Rs K S H)(e:S a=some (.iT kvs)):Od H a:=by
 obtain⟨vs,e1,_⟩:=hS.iT e
 exact .inl ⟨vs,.inl e1⟩
def Lb(td ty:TD):TD:=fun σ S R Z=>td σ S (fun x S1=>∃a kvs,x=.ref a∧S1 a=some (.iT kvs)∧ty σ S1 (fun y S2=>∃kvs k,S2 a=some (.iT kvs)∧HC y=some k∧R ((dI kvs k).getD .aK) S2) Z) Z
theorem HI(hS:Rs K S H)(e:S a=some (.iT kvs))(r:Rv K H d v):∃o,mV H a (kV k) o∧Rv K H ((dI kvs k).getD d) (o.getD v):=by
 obtain⟨o,g,h1,h2⟩:=mE (k:=k) hS e
 refine⟨o,g,?_⟩
 cases q:dI kvs k with
 |none =>
  rw[q] at h1
  cases o with
  |none=>exact r
  |some _=>cases h1
 |some d' =>
  obtain⟨v',rfl,r'⟩:=h2 d' q
  exact r'
theorem Te(hu:X.A.units+64<cLine)(ho:DE K X o td)(he:DE K X e ty)(m:M1 X o "get" apos e aO:=by exact⟨rfl,rfl,rfl,rfl⟩):DE K X (.Call (.Attribute o "get" apos) [e] [] aO) (Lb td ty) :=
 ⟨fun y=>(Bg (X:=y.cx) (by show X.A.units+1<cLine;lia) (ho.of y) (he.of y) ⟨m.base,m.Bf,m.line,m.trees⟩).mono <| by rintro τ H Q ⟨σ,S,R,Z,aB,hS,q,hR,hZ⟩;exact
  ⟨σ,S,_,Z,aB,hS,q,by
   rintro x S1 xv H1 ⟨a,kvs,e1,e2,r1⟩ v1 s1 k1
   subst e1
   exact⟨a,v1.ref,HH s1 e2,σ,S1,_,Z,aB.ts k1,s1,r1,by
    rintro y S2 yv H2 ⟨kvs,k,e3,e4,r2⟩ v2 s2 k2
    obtain⟨o,g,r⟩:=HI (k:=k) s2 e3 kZ
    exact⟨o,by rw[u3 e4 v2];exact g,(hR.kp (k1.trans k2)).now s2 r2 r⟩,hZ.kp k1⟩,hZ⟩⟩
def HJ(C:Addr)(t:oq):kN:=fun _ σ S Z=>t σ S (fun ds S1=>ds.length≤sizeLine∧Z σ C S1) (Z σ)
end
section
variable{K:Frag}{X:Cx}{C:Addr}{x:Str}{e:Expr}{es:List Expr}{np aO pos:Pos}
theorem yU{t:TA}{y:Ev X true}(hc:X.calm=true)(c:XC X.K C)(hg:Gl X x)(hm:X.mg x=some (.ref C))(ha:PA y.cx (e::es) t)(oA:(x == ("__debug__" : Str))=false)
  (he:starEach (e::es) X.env=(false,eval e X.env)::starEach es X.env) (l9:(backTo aO (starEach es X.env)).any (·.1)=false) :
  PS y.cx (.Raise (some (.Call (.Name x np) (e::es) [] aO)) none pos) (fun _ σ H=>t σ H fun vs H1=>vs.length≤sizeLine∧y.E σ (.ref C) none H1):=by
 intro pins s σ H D I h
 obtain⟨bm,N,nm,q,bs,hdct,sn,sub,ab,col,dd,k0,k1,k2,k3,k5,mN,hC,hN,MH,T⟩:=c.at I.mod.Mq
 have jT:bm.contains (.type "BaseException")=true:=T.hasType (by decide)
 refine wpAny_Raise_call_subT (C:=C) (nm:=nm) (q:=q) (N:=N) (bs:=bs) (bm:=bm) (hdct:=hdct) (sn:=sn) (sub:=sub) (ab:=ab) (col:=col) (dd:=dd) (k0:=k0) (k1:=k1) (k2:=k2) (k3:=k3) (k5:=k5) PySem.F.excBase_ValueError (mN:=mN)
  jT (I.ok.hd hc) (by show ((backTo aO (starEach (e::es) X.env)).any (·.1))=false;rw[he];show (false || (backTo aO (starEach es X.env)).any (·.1))=false;rw[l9];rfl) MH (mB I hg hm ⟨rfl,?_⟩ oA)
 have h1:=ha aO pins s σ H _ I h
 have Tf:starEach (e::es) y.cx.env=(false,eval e X.env)::starEach es X.env:=he
 rw[Tf] at h1 ⊢
 exact Calls.evalArgs_plain (bA h1 <| by rintro us s2 ⟨vs,H2,I2,r,z,q2⟩;exact⟨rfl,by show us.length≤sizeLine;rw[← r.length];exact z,I2.bk _ _ hC,hN.keeps I2.bk,T.keeps I2.bk,fun h' a hx=>y.ok.own rfl pins σ H2 s2 h' a _ _ I2 hx q2⟩)
theorem Jj{t:oq}(c:XC K C)(hm:X.mg x=some (.ref C))(ha:DA K X (e::es) t)(hg:Gl X x:=by rfl)(oA:(x == ("__debug__" : Str))=false:=by decide)
  (he:starEach (e::es) X.env=(false,eval e X.env)::starEach es X.env:=by rfl) (l9:(backTo aO (starEach es X.env)).any (·.1)=false:=by rfl) (hc:X.calm=true:=by rfl) (hK:X.K=K:=by rfl) :
  DS K X true (.Raise (some (.Call (.Name x np) (e::es) [] aO)) none pos) (HJ C t):=by
 subst hK
 exact⟨fun y=>(yU (y:=y) hc c hg hm (ha.of y) oA he l9).mono <| by rintro D τ H ⟨σ,S,De,Z,aB,hS,q,hD,hZ⟩;exact
  ⟨σ,S,_,_,aB,hS,q,by rintro ds S1 vs H1 ⟨hl,r1⟩ v1 s1 k1;exact⟨by rw[v1.len];exact hl,hZ.at aB C S1 H1 r1 s1 k1⟩,hZ.at aB⟩⟩
end
structure BD where
 xs:List D
 ok:aN→Prop
def Ld(K:Frag)(H0:Hp)(J:It)(I:BD):Prop:=∀i S H,Kp K H0 H→Rs K S H→I.ok S→(∀d,I.xs[i]?=some d→J.go i H∧∀x H',J.JJ i H x H'→Rv K H' d x∧Kp K H H'∧Rs K S H')∧(I.xs.length≤i→J.stop i H)
abbrev AQ:=SD→aN→(BD→aN→Prop)→KX→Prop
def Ti(K:Frag)(E:St→XK)(t:AQ):TI:=fun τ H R=>∃σ S RI Z,fb K H σ τ∧Rs K S H∧t σ S RI Z∧(∀I S' J H',RI I S'→Ld K H' J I→Rs K S' H'→Kp K H H'→R J H')∧yR K H Z (E τ)
structure DI(K:Frag)(X:Cx)(tg it:Expr)(t:AQ):Prop where
 of:∀{b:Bool} (y:Ev X b),PI y.cx tg it (Ti K y.E t)
theorem PI.mono(h:PI X tg it t)(i:∀τ H R,t' τ H R→t τ H R):PI X tg it t':=fun pins s τ H R I q=>h pins s τ H R I (i τ H R q)
section
variable{K:Frag}{X:Cx}{tg l:Expr}
def O_(t:TD):AQ:=fun σ S R Z=>t σ S (fun x S1=>∃ds,sD S1 x ds∧R ⟨ds,fun S=>sD S x ds⟩ S1) Z
theorem il(h:DE K X l t)(hK:X.K=K:=by rfl):DI K X tg l (O_ t):=by
 subst hK
 exact⟨fun y=>(DH (X:=y.cx) (h.of y)).mono <| by rintro τ H R ⟨σ,S,RI,Z,aB,hS,q,hR,hZ⟩;exact⟨σ,S,_,Z,aB,hS,q,by
  rintro x S1 v H1 ⟨ds,h1,r1⟩ v1 s1 k1
  obtain⟨a,xs,rfl,hq,t⟩:=h1.at s1 v1
  refine⟨a,rfl,⟨xs,hq⟩,hR _ S1 _ H1 r1 (fun i S2 H2 k2 s2 Th=>?_) s1 k1⟩
  obtain⟨a',Pa,e',BE,t'⟩:=sD.at Th s2 (Rv.ts k2 _ v1)
  cases e'
  refine⟨fun d hd=>?_,fun hl=>⟨Pa,BE,by rw[t'.len];exact hl⟩⟩
  obtain⟨v,e1,r⟩:=t'.get hd
  refine⟨⟨Pa,v,BE,e1⟩,fun x' H' ⟨e2,e3⟩=>?_⟩
  subst e2
  have:=e3 Pa BE
  rw[e1] at this;cases this
  exact⟨r,.refl _,s2⟩,hZ⟩⟩
def Le(t:TD):AQ:=fun σ S R Z=>t σ S (fun x S1=>∃ds,(x=.tup ds∨x=.kt ds)∧R ⟨ds,fun _=>True⟩ S1) Z
theorem HK{H:Hp}{x:D}{ds:List D}{v:V}(h:x=.tup ds∨x=.kt ds)(r:Rv K H x v):∃a xs,v=.ref a∧(∀H',Kp K H H'→kU K H' a xs)∧RvAll K H ds xs:=by
 rcases h with rfl|rfl
 ·obtain⟨a,xs,rfl,q,t⟩:=r.tup
  exact⟨a,xs,rfl,fun H' k=>.of (k.t _ _ q),t⟩
 ·obtain⟨a,xs,rfl,q,t⟩:=r.kt
  exact⟨a,xs,rfl,fun H' k=>.inr q,t⟩
theorem Jk(h:DE K X l t)(hK:X.K=K:=by rfl):DI K X tg l (Le t):=by
 subst hK
 exact⟨fun y=>(GN (X:=y.cx) (h.of y)).mono <| by rintro τ H R ⟨σ,S,RI,Z,aB,hS,q,hR,hZ⟩;exact⟨σ,S,_,Z,aB,hS,q,by
  rintro x S1 v H1 ⟨ds,h1,r1⟩ v1 s1 k1
  obtain⟨a,xs,rfl,hq,t⟩:=HK h1 v1
  refine⟨a,rfl,⟨xs,hq _ (.refl _)⟩,hR _ S1 _ H1 r1 (fun i S2 H2 k2 s2 _=>?_) s1 k1⟩
  have Pb:=hq H2 k2
  refine⟨fun d hd=>?_,fun hl=>⟨xs,Pb,by rw[t.len];exact hl⟩⟩
  obtain⟨v,e1,r⟩:=(RvAll.ts k2 _ t).get hd
  refine⟨⟨xs,v,Pb,e1⟩,fun x' H' ⟨e2,e3⟩=>?_⟩
  subst e2
  have:=e3 xs Pb
  rw[e1] at this;cases this
  exact⟨r,.refl _,s2⟩,hZ⟩⟩
def jZ(lo:Int)(n:Nat):List D:=(List.range n).map fun i=>D.int (lo+(i:Nat))
theorem fJ{lo:Int}{n:Nat} : (jZ lo n).length=n:=by unfold jZ;rw[za,List.length_range]
theorem hG{lo:Int}{n i:Nat}{d:D}(h:(jZ lo n)[i]?=some d):i<n∧d=.int (lo+i):=by
 unfold jZ at h
 rw[zZ] at h
 by_cases q:i<n
 ·rw[List.getElem?_range q] at h;exact⟨q,(zO h).symm⟩
 ·rw[List.getElem?_eq_none (by rw[List.length_range];omega)] at h;cases h
theorem BF{H0:Hp}{lo:Int}{n:Nat} : Ld K H0 (JK lo n) ⟨jZ lo n,fun _=>True⟩:=fun i S H k s _=>⟨fun d hd=>by
 obtain⟨h1,rfl⟩:=hG hd
 exact⟨h1,by rintro x H' ⟨e1,e2⟩;exact by subst e1 e2;exact⟨aF _,.refl _,s⟩⟩,fun hl=>by rw[fJ] at hl;exact hl⟩
def Pc(t:oq):AQ:=fun σ S R Z=>t σ S (fun ds S1=>∃j:Int,ds=[.int j]∧-(2 ^ 62)≤j∧j<2 ^ 62∧R ⟨jZ 0 j.toNat,fun _=>True⟩ S1) Z
theorem Lf(hm:X.mg "range" = none)(ha:DA K X [a] t)(hg:Gl X "range" := by rfl)(hs:starEach [a] X.env=[(false,eval a X.env)]:=by rfl):DI K X tg (.Call (.Name "range" p) [a] [] pos) (Pc t) :=
 ⟨fun y=>(xN (X:=y.cx) hg hm (ha.of y) hs).mono <| by rintro τ H R ⟨σ,S,RI,Z,aB,hS,q,hR,hZ⟩;exact⟨σ,S,_,Z,aB,hS,q,by
  rintro ds S1 vs H1 ⟨j,e,h1,h2,r1⟩ v1 s1 k1
  subst e
  obtain⟨v,rfl,r⟩:=v1.one
  exact⟨j,by rw[r.int],h1,h2,hR _ S1 _ H1 r1 BF s1 k1⟩,hZ⟩⟩
def Lg(t:oq):AQ:=fun σ S R Z=>t σ S (fun ds S1=>∃i j:Int,ds=[.int i,.int j]∧(-(2 ^ 62)≤i∧i<2 ^ 62∧-(2 ^ 62)≤j∧j<2 ^ 62)∧R ⟨jZ i (j - i).toNat,fun _=>True⟩ S1) Z
theorem Tj(hm:X.mg "range" = none)(ha:DA K X [a,c] t)(hg:Gl X "range" := by rfl)(hs:starEach [a,c] X.env=[(false,eval a X.env),(false,eval c X.env)]:=by rfl)(A4:starEach [c] X.env=[(false,eval c X.env)]:=by rfl) :
  DI K X tg (.Call (.Name "range" p) [a,c] [] pos) (Lg t) :=
 ⟨fun y=>(xO (X:=y.cx) hg hm (ha.of y) hs A4).mono <| by rintro τ H R ⟨σ,S,RI,Z,aB,hS,q,hR,hZ⟩;exact⟨σ,S,_,Z,aB,hS,q,by
  rintro ds S1 vs H1 ⟨i,j,e,h1,r1⟩ v1 s1 k1
  subst e
  obtain⟨v,u,rfl,r,r'⟩:=v1.two
  exact⟨i,j,by rw[r.int,r'.int],h1,hR _ S1 _ H1 r1 BF s1 k1⟩,hZ⟩⟩
end
section
variable{K:Frag}{X:Cx}{tg iter:Expr}{pos:Pos}
def Lh(ti:AQ)(g:wL)(tb:kN):kN:=fun De σ S Z=>ti σ S (fun I S1=>∃P:Nat→SD→aN→Prop,P 0 σ S1∧(∀i σ S,P i σ S→I.ok S) ∧
 (∀i d σ S,I.xs[i]?=some d→P i σ S→g d σ S fun rS S2=>tb { De with nx:=P (i+1),ct:=P (i+1),bk:=De.nx } rS S2 Z)∧∀σ S,P I.xs.length σ S→De.nx σ S) (Z σ)
theorem FU(hi:DI K X tg iter ti)(hg:DG K X tg g)(hb:wK K X true body tb)(hs:∀x,foldedSetIterable iter X.env x=pure x:=by intro _;rfl)(hc:X.calm=true:=by rfl):DS K X true (.For tg iter body [] pos) (Lh ti g tb) :=
 ⟨fun y=>(GO (X:=y.cx) (y.ok.loop rfl) hc (hi.of y) (hg.of _ rfl rfl rfl rfl rfl) (hb.of y) hs).mono <| by rintro D τ H ⟨σ,S,De,Z,aB,hS,q,hD,hZ⟩;exact
  ⟨σ,S,_,_,aB,hS,q,by
   rintro I S1 J H1 ⟨P,p0,Pd,Pe,pend⟩ hJ s1 k1
   refine⟨fun i m τ H=>m=I.xs.length - i∧i≤I.xs.length∧∃σ S,fb K H σ τ∧Rs K S H∧P i σ S∧Kp K H1 H,⟨_,rfl,yj _,σ,S1,aB.ts k1,s1,p0,.refl _⟩,?_⟩
   rintro i m V1 H2 ⟨rfl,Tn,rS,S2,a2,s2,p2,k2⟩
   have ok:=hJ i S2 H2 k2 s2 (Pd _ _ _ p2)
   by_cases AM:i<I.xs.length
   ·obtain⟨go,yl⟩:=ok.1 _ (zJ AM)
    refine .inr ⟨go,fun Jg H'=>i+1≤I.xs.length∧∃σ S,fb K H' σ Jg∧Rs K S H'∧P (i+1) σ S∧Kp K H1 H',fun aw H' h'=>⟨_,by omega,rfl,h'⟩,fun x H' hy=>?_⟩
    obtain⟨rx,k3,s3⟩:=yl x H' hy
    refine⟨_,rS,S2,_,rx,a2.ts k3,s3,Pe i _ rS S2 (zJ AM) p2,fun MS S4 Tp H4 r4 a4 s4 k4=>?_⟩
    have kk:=(k2.trans k3).trans k4
    exact⟨MS,S4,_,Z,a4,s4,r4,⟨fun HL S5 Pf H5 r5 a5 s5 k5=>⟨AM,HL,S5,a5,s5,r5,kk.trans k5⟩,hD.rt.kp (k1.trans kk),(hD.nx.kp (k1.trans kk)),fun HL S5 Pf H5 r5 a5 s5 k5=>⟨AM,HL,S5,a5,s5,r5,kk.trans k5⟩⟩,hZ.kp (k1.trans kk)⟩
   ·have e:i=I.xs.length:=by omega
    subst e
    exact .inl ⟨ok.2 (zi _),hD.nx _ _ _ _ (pend _ _ p2) a2 s2 (k1.trans k2)⟩,hZ.at aB⟩⟩
end
def sI(σ:SD)(src:List (Option Nat)):SD:=src.map fun o=>match o with|some j=>(σ[j]?).join|none=>none
theorem fb.pick{K:Frag}{H:Hp}{σ:SD}{τ:St}(h:fb K H σ τ):∀src:List (Option Nat),fb K H (sI σ src) (pick τ src)
 |[]=>.nil
 |o::r=>.cons (fun d e=>by
  cases o with
  |none=>cases e
  |some j =>
   dsimp only at e ⊢
   cases q:σ[j]? with
   |none=>rw[q] at e;cases e
   |some o' =>
    rw[q] at e
    obtain rfl:o'=some d:=e
    obtain⟨v,e1,r1⟩:=h.get q
    exact⟨v,by rw[e1];rfl,r1⟩) (fb.pick h r)
def Zf:KX:=fun _ _=>False
def BG(σ:SD)(src:List (Option Nat))(g:wL)(tc:oo)(te:TD)(R:KD)(I:BD)(S1:aN):Prop:=∃P:Nat→List D→aN→Prop,P 0 [] S1∧(∀i out S,P i out S→I.ok S) ∧
 (∀i d out S,I.xs[i]?=some d→P i out S→out.length<sizeLine∧g d (sI σ src) S fun iO S3=>tc iO S3 (fun b S4=>if b=true then te iO S4 (fun v S5=>P (i+1) (out++[v]) S5) Zf else P (i+1) out S4) Zf) ∧
 ∀out S2,P I.xs.length out S2→∀p,S2 p=none→R (.ref p) (S2.set p (.lst out))
def BH(ti:AQ)(src:List (Option Nat))(g:wL)(tc:oo)(te:TD):TD:=fun σ S R Z=>ti σ S (fun I S1=>BG σ src g tc te R I S1) Z
theorem yR.f{K:Frag}{H:Hp}{e:XK} : yR K H Zf e:=fun _ _ _ z=>z.elim
theorem T.comp{K:Frag}{E E':St→XK}{ti:AQ}{src:List (Option Nat)}{g:TG}{gd:wL}{tc:oo}{te:TD}{τ:St}{H:Hp}{Q:VK}(hg:∀v τ H Q,Tg K gd v τ H Q→g v τ H Q)
  (h:T K E (BH ti src gd tc te) τ H Q):FE (Ti K E ti) src g (Tt K E' tc) (T K E' te) τ H Q:=by
 obtain⟨σ,S,R,Z,aB,hS,q,hR,hZ⟩:=h
 refine⟨σ,S,_,Z,aB,hS,q,fun I S1 J H1 ⟨P,p0,Pd,Pe,pend⟩ hJ s1 k1=>?_,hZ⟩
 refine⟨fun i m out H=>m=I.xs.length - i∧i≤I.xs.length∧∃ds S,RvAll K H ds out∧Rs K S H∧P i ds S∧Kp K H1 H,⟨_,rfl,yj _,[],S1,bR,s1,p0,.refl _⟩,?_⟩
 rintro i m out H2 ⟨rfl,Tn,ds,S2,v2,s2,p2,k2⟩
 have ok:=hJ i S2 H2 k2 s2 (Pd _ _ _ p2)
 by_cases AM:i<I.xs.length
 ·obtain⟨go,yl⟩:=ok.1 _ (zJ AM)
  obtain⟨hz,st⟩:=Pe i _ ds S2 (zJ AM) p2
  refine .inr ⟨go,by rw[v2.len];exact hz,fun x H' hy=>?_⟩
  obtain⟨rx,k3,s3⟩:=yl x H' hy
  refine hg _ _ _ _ ⟨_,_,S2,_,rx,(((aB.ts k1).ts k2).ts k3).pick src,s3,st,fun MS S4 Tp H4 r4 a4 s4 k4=>?_⟩
  refine⟨MS,S4,_,Zf,a4,s4,r4,fun c S5 H5 r5 s5 k5=>?_,.f⟩
  cases c with
  |true =>
   rw[if_pos rfl] at r5 ⊢
   exact⟨MS,S5,_,Zf,a4.ts k5,s5,r5,fun d S6 v H6 r6 v6 s6 k6=>⟨_,by omega,rfl,AM,ds++[d],S6,(RvAll.ts (((k3.trans k4).trans k5).trans k6) _ v2).app (br v6 bR),s6,r6,(((k2.trans k3).trans k4).trans k5).trans k6⟩,.f⟩
  |false =>
   rw[if_neg zk] at r5 ⊢
   exact⟨_,by omega,rfl,AM,ds,S5,RvAll.ts ((k3.trans k4).trans k5) _ v2,s5,r5,((k2.trans k3).trans k4).trans k5⟩
 ·have e:i=I.xs.length:=by omega
  subst e
  exact .inl ⟨ok.2 (zi _),fun p hp=>(hR.kp (k1.trans k2)).new s2 hp (pend _ _ p2 p) v2⟩
def Ev.none(X:Cx)(h:X.xe=fun _ _=>False):Ev X false:=⟨X.pn,X.xe,fun _=>E0,⟨by rintro p2 τ H s e s' _ ⟨_,_,_,_,_,_,_,_,_,z⟩;exact z.elim,fun e=>(by cases e),fun e=>(by cases e)⟩⟩
section
variable{K:Frag}{X:Cx}{b:Bool}{N:List Str}{src:List (Option Nat)}{scope:Scope}{tg iter elt:Expr}{ifs:List Expr}{pos:Pos}{ti:AQ}{g:TG}{gd:wL}{tc:oo}{te:TD}
structure Q3(K:Frag)(X:Cx)(ifs:List Expr)(t:oo):Prop where
 of:∀{b:Bool} (y:Ev X b),MF y.cx ifs (Tt K y.E t)
def pL:oo:=fun _ S R _=>R true S
theorem pM:Q3 K X [] pL:=⟨fun y pins s τ H Q I ⟨σ,S,R,Z,aB,hS,q,hR,hZ⟩=>D4 pins s τ H Q I (hR true S H q hS (.refl _))⟩
theorem pN(S:iS X N src scope)(hit:DI K X tg iter ti)(hg:∀C s H ex pn,PG (jd X N scope C s H ex pn) tg g)(hx:Bi g src)(Tq:∀v τ H Q,Tg K gd v τ H Q→g v τ H Q)
  (hi:∀C s H ex pn,Q3 K (jd X N scope C s H ex pn) ifs tc) (he:∀C s H ex pn,DE K (jd X N scope C s H ex pn) elt te)
  (hs:∀x,foldedSetIterable iter X.env x=pure x:=by intro _;rfl) (hc:X.calm=true:=by rfl):DE K X (.ListComp elt [⟨tg,iter,ifs,0⟩] scope pos) (BH ti src gd tc te) :=
 ⟨fun y=>(D6 (X:=y.cx) (tc:=Tt K (fun _=>E0) tc) (te:=T K (fun _=>E0) te) ⟨S.kind,S.uS,S.loc,S.ME,S.len,S.src⟩ hc (hit.of y) hg hx (fun C s H ex pn=>(hi C s H ex pn).of (.none _ rfl)) (fun C s H ex pn=>(he C s H ex pn).of (.none _ rfl)) hs).mono fun _ _ _ h=>h.comp Tq⟩
theorem bb:∀v τ H Q,Tg K (MQ i) v τ H Q→gX i v τ H Q:=by rintro v τ H Q ⟨d,σ,S,R,rv,aB,hS,q,hR⟩;exact hR _ S _ H q (aB.set i rv) hS (.refl _)
end
structure u_(K:Frag)(x qual:Str)(st:Stmt)(f:Addr)(fd:FuncData):Prop where
 ex:∃(oc:Value) (od:Option Addr) (dV kV doc pm:Value) (an:Option Addr) (dh ct:Value) (Jc:Array (Option Value)),
  fd=fnOf x qual (iR st) (ee st) (ae st) dV kV doc pm an dh ct∧K.lookup f=some ⟨oc,od,.func fd,Jc⟩∧codeIn K dh qual=true
def m_(N:List Str)(ds:List D):SD:=ds.map some++List.replicate (N.length - ds.length) none
section
variable{P:Program}{w:World}{K:Frag}{mg:Str→Option Value}{base:Heap}
theorem u_.Tr{x qual:Str}{st:Stmt}{f:Addr}{fd:FuncData}{N ps:List Str}{k:Nat}{sp:jg}(F:u_ K x qual st f fd)(S:ah N ps (ae st))(len:∀ds S R Z,sp ds S R Z→ds.length=ps.length)
  (mP:∀(dh:Value) (A:Around) (outer:List Env) (s:Shared) (H:Hp) (E:XK) (ds:List D) (S:aN) (R:KD) (Z:KX),fG k (A.deeper (envOfC qual (ae st) s.heap.objs.size f dh))→sp ds S R Z →
   ∃t,wK K (l8 (jM P w) P w K mg base N qual (ae st) f dh A outer s H E) true (ee st) t∧t { nx:=fun _ S'=>R .aK S',rt:=R } (m_ N ds) S fun _=>Z):cI P w K mg base (jM P w) (k+1) f fd ps (u7 K sp):=by
 obtain⟨oc,od,dV,kV,doc,pm,an,dh,ct,Jc,rfl,lk,Dj⟩:=F.ex
 have l9:ps.length≤N.length:=by have:=congrArg List.length S.pre;rw[List.length_take] at this;lia
 refine J1 lk Dj S (by rintro vs H Q E ⟨ds,S',R,Z,v,_,h,_⟩;exact by rw[v.len];exact len _ _ _ _ h) fun A outer s H vs Q E hr ⟨ds,S',R,Z,v,hS,h,hR,hZ⟩=>?_
 obtain⟨t,ht,q⟩:=mP dh A outer s H E ds S' R Z hr h
 have L:cR (l8 (jM P w) P w K mg base N qual (ae st) f dh A outer s H E) E:=yM
 let y:Ev (l8 (jM P w) P w K mg base N qual (ae st) f dh A outer s H E) true:=⟨_,(l8 (jM P w) P w K mg base N qual (ae st) f dh A outer s H E).xe,fun _=>E,⟨fun p2 τ H1 s1 e s' I h=>KA L p2 τ H1 s1 e s' I h,fun _ p2 τ H1 s1 h' a cls args I hx he=>sj L I hx he,fun _=>PassesOwn.leaving⟩⟩
 refine⟨Tl K (fun _=>E) t,ht.of y,m_ N ds,S',_,fun _=>Z,?_,hS,q,⟨fun σ S1 τ H1 r a b c=>hR.kp c |>.now b r kZ,hR,fun _ _ _ _ z=>z.elim,fun _ _ _ _ z=>z.elim⟩,fun σ τ C S1 H1 z a b c=>hZ C S1 H1 z b c⟩
 unfold m_ start
 refine (sC v).app ?_
 rw[v.len]
 exact sA _ _ (by rw[List.length_replicate])
theorem cI.Pg(F:cI P w K mg base (jM P w) k f fd ps (u7 K sp))(h:∀ds S R Z,Mw ds S R Z→sp ds S R Z):cI P w K mg base (jM P w) k f fd ps (u7 K Mw) :=
 F.imp <| by rintro vs H Q E ⟨ds,S,R,Z,a,b,c,d⟩;exact⟨ds,S,R,Z,a,b,h _ _ _ _ c,d⟩
theorem cI.calm(F:cI P w K mg base (jM P w) k f fd ps sp):cI P w K mg base MC k f fd ps fun vs H Q _=>sp vs H Q E0:=by
 refine⟨fun vs H Q E h=>F.len vs H Q E0 h,fun A outer s H args us vs Q E hr e0 hb r h=>codeAny_mono (F.run A outer s H args us vs Q E0 hr e0 hb r h) fun res s' q=>?_⟩
 cases res with
 |error e=>obtain⟨_,_,_,_,_,_,_,_,_,z⟩:=q;exact z.elim
 |ok fl=>cases fl <;> exact q
end
section
variable{K:Frag}{X:Cx}{b:Bool}{i:Nat}{n x:Str}{C0:Addr}{body su:List Stmt}{Bq:Stmt}{np Ea pos:Pos}
theorem HM(h:wK K X false body t):Kx X body (fun E=>Tl K E t):=by
 intro pins s σ H D E I q
 let y:Ev X false:=⟨X.pn++pins,XE X pins E,E,⟨fun p2 τ H1 s1 e s' I1 hq=>⟨τ,H1,s1,⟨⟨I1.ok.mod,I1.ok.kind,I1.ok.glob,I1.ok.blt,I1.ok.above,I1.ok.inj,I1.ok.has,I1.ok.Gv,I1.ok.hd,I1.ok.frames,I1.ok.I_,I1.ok.Mr,I1.ok.bs,I1.ok.AV,I1.ok.uF,I1.ok.xH,I1.ok.jq,I1.ok.Dh⟩,
  I1.os,I1.bare,I1.base,I1.loc,I1.cell,I1.free,I1.eE,fun p hp=>I1.pin p (yd _ hp),I1.aS,I1.len⟩,hq⟩,fun e=>(by cases e),fun e=>(by cases e)⟩⟩
 have back:∀{aw:St}{H':Hp}{s':Shared},Inv y.cx [] aw H' s'→Inv X pins aw H' s':=fun I1=>⟨⟨I1.ok.mod,I1.ok.kind,I1.ok.glob,I1.ok.blt,I1.ok.above,I1.ok.inj,I1.ok.has,I1.ok.Gv,I1.ok.hd,I1.ok.frames,I1.ok.I_,I1.ok.Mr,I1.ok.bs,I1.ok.AV,I1.ok.uF,I1.ok.xH,I1.ok.jq,I1.ok.Dh⟩,
  I1.os,I1.bare,I1.base,I1.loc,I1.cell,I1.free,I1.eE,fun p hp=>I1.pin p (yd _ hp),I1.aS,I1.len⟩
 have I0:Inv y.cx [] σ H s:=⟨⟨I.ok.mod,I.ok.kind,I.ok.glob,I.ok.blt,I.ok.above,I.ok.inj,I.ok.has,I.ok.Gv,I.ok.hd,I.ok.frames,I.ok.I_,I.ok.Mr,I.ok.bs,I.ok.AV,I.ok.uF,I.ok.xH,I.ok.jq,I.ok.Dh⟩,
  I.os,I.bare,I.base,I.loc,I.cell,I.free,I.eE,fun p hp=>I.pin p (by rw[zE] at hp;exact hp),I.aS,I.len⟩
 refine yk (h.of y [] s σ H D I0 q) (fun f s' r=>?_) fun _ _ r=>r
 cases f with
 |next=>obtain⟨aw,H',I',q⟩:=r;exact⟨aw,H',back I',q⟩
 |brk=>obtain⟨aw,H',I',q⟩:=r;exact⟨aw,H',back I',q⟩
 |cont=>obtain⟨aw,H',I',q⟩:=r;exact⟨aw,H',back I',q⟩
 |ret u=>obtain⟨v,aw,H',I',r1,q⟩:=r;exact⟨v,aw,H',back I',r1,q⟩
def pK.less(De:pK)(i:Nat):pK:={ nx:=fun σ S=>De.nx (σ.set i none) S,rt:=De.rt,bk:=fun σ S=>De.bk (σ.set i none) S,ct:=fun σ S=>De.ct (σ.set i none) S }
def Ph(K:Frag)(i:Nat)(C0:Addr)(tb ts:kN):kN:=fun De σ S _ =>
 tb De σ S fun aw C S'=>mroIn K C (.ref C0)=some true∧∀a,S' a=none→ts (De.less i) (aw.set i (some (.ref a))) (S'.set a (.exc C)) fun _=>Zf
theorem Pj{tb ts:kN}(hN:X.N.Nodup)(hm:X.mg x=some (.ref C0))(c0:XC K C0)(hb:wK K X false body tb)(hs:∀a,wK K (X.g7 a) false (Bq::su) ts)
  (hi:X.N[i]?=some n:=by rfl) (hx:X.env.scope.names.lookup n=some .local:=by rfl) (OB:Gl X x:=by rfl) (oA:(x == ("__debug__" : Str))=false:=by decide) (wm:X.stack=X.env::X.outer:=by rfl) (fr:X.env.frame=some X.env.locals:=by rfl) (hK:X.K=K:=by rfl) :
  DS K X b (.Try body [.ExceptHandler (some (.Name x np)) (some n) (Bq::su) Ea] [] [] pos) (Ph K i C0 tb ts):=by
 subst hK
 refine⟨fun y=>(Hw (X:=y.cx) (ts:=Tl X.K (fun _=>E0) ts) wm fr hN hi hx OB hm c0 (HM (X:=y.cx) (K:=X.K) (t:=tb) ⟨fun z=>hb.of ⟨z.pn,z.xe,z.E,z.ok⟩⟩) (fun a=>(hs a).of ⟨y.pn,fun _ _=>False,fun _=>E0,⟨fun p2 τ H s e s' _ ⟨_,_,_,_,_,_,_,_,_,z⟩=>z.elim,fun e=>(by cases e),fun e=>(by cases e)⟩⟩) oA).mono fun D τ H ⟨σ,S,De,Z,aB,hS,q,hD,hZ⟩=>?_⟩
 refine⟨σ,S,De,_,aB,hS,q,hD,fun qb MP C S1 H1 ⟨m1,r1⟩ a1 s1 k1=>⟨C,rfl,m1,fun a ha=>?_⟩⟩
 have kn:Kp X.K H1 (upd H1 a (oE a (.ref C))):=.new ha
 have kk:=k1.trans kn
 have un:∀{Eb:SD}{Li:St}{H8:Hp},fb X.K H8 Eb Li→fb X.K H8 (Eb.set i none) (Li.set i none):=fun r=>r.unset i none
 exact⟨_,_,De.less i,fun _=>Zf,(a1.ts kn).set i (fw a),s1.new (c:=.exc C) ha bN,r1 a (s1.fresh ha),⟨fun Eb S8 Li H8 r8 a8 s8 k8=>hD.nx _ _ _ _ r8 (un a8) s8 (kk.trans k8),hD.rt.kp kk,fun Eb S8 Li H8 r8 a8 s8 k8=>hD.bk _ _ _ _ r8 (un a8) s8 (kk.trans k8),fun Eb S8 Li H8 r8 a8 s8 k8=>hD.ct _ _ _ _ r8 (un a8) s8 (kk.trans k8)⟩,fun _ _ _ _ _ z=>z.elim⟩
end
section
variable{K:Frag}{X:Cx}{x:Str}{id:String}{e:Expr}{es:List Expr}{p pos:Pos}{t:oq}{r:List D→aN→KD→Prop}
def FV(K:Frag)(f:Value)(r:List D→aN→KD→Prop):Prop:=∀X:Cx,X.K=K→dY X f (Lc K r)
theorem HN(hc:FV K (.builtin id) r)(hm:X.mg x=none)(hv:bootBuiltins x=some (.builtin id))(ha:DA K X (e::es) t)(hg:Gl X x:=by rfl)
  (hn:x ≠ "__name__" := by decide) (oA:(x == ("__debug__" : Str))=false:=by decide) (he:starEach (e::es) X.env=(false,eval e X.env)::starEach es X.env:=by rfl) (l9:(backTo pos (starEach es X.env)).any (·.1)=false:=by rfl) (hK:X.K=K:=by rfl) :
  DE K X (.Call (.Name x p) (e::es) [] pos) (KU r t) :=
 ⟨fun y=>(rV (X:=y.cx) (hc _ hK) hg hm hv (ha.of y) hn oA he l9).mono fun _ _ _ h=>h.cb⟩
def Pk(K:Frag):List D→aN→KD→Prop:=fun ds S R=>∃a C c b,ds=[.ref a,c]∧S a=some (.exc C)∧XC K C∧XA K C ∧
 ((∃Cd,c=.ref Cd∧kitOne K (.ref C) (.ref Cd)=some b)∨(∃n,c=.ty n∧kitOne K (.ref C) (.type n)=some b) ∨
  ∃as:List Addr,c=.tup (as.map D.ref)∧kitAny K (.ref C) (as.map Value.ref)=some b)∧R (.bl b) S
theorem RvAll.refs:∀{as:List Addr}{xs:List V},RvAll K H (as.map D.ref) xs→xs=as.map V.ref
 |[],xs,h=>h.nil
 |b::bs,xs,h=>by
  obtain⟨y,ys,rfl,h1,h2⟩:=h.cons
  rw[h1.ref,h2.refs];rfl
theorem pO:∀{as:List Addr}{ao:List Value},Vals (as.map V.ref) ao→ao=as.map Value.ref
 |[],_,.nil=>rfl
 |_::_,_,.cons r t=>by rw[pO t];cases r;rfl
theorem nc:FV K (.builtin "isinstance") (Pk K):=by
 rintro X hK pins s σ H xs us Q I rx ⟨ds,S,R,r,hS,⟨a,C,c,b,e,h1,h2,h3,h4,h⟩,hR⟩
 subst hK e
 obtain⟨v,u,rfl,r1,r2⟩:=r.two
 have ha:H a=some (oE a (.ref C)):=hS a _ h1
 rcases h4 with ⟨Cd,rfl,h4⟩|⟨n,rfl,h4⟩|⟨as,rfl,h4⟩
 ·exact je rfl pins s σ H _ us Q I rx ⟨a,C,.ref Cd,.ref Cd,b,by rw[r1.ref,r2.ref],ha,h2,h3,rfl,fun u' e=>e,h4,hR.now hS h (a_ _)⟩
 ·exact je rfl pins s σ H _ us Q I rx ⟨a,C,.ty n,.type n,b,by rw[r1.ref,r2.ty],ha,h2,h3,rfl,fun u' e=>e,h4,hR.now hS h (a_ _)⟩
 ·obtain⟨p,zs,rfl,q,t⟩:=r2.tup
  rw[t.refs] at q
  exact oK rfl pins s σ H _ us Q I rx ⟨a,C,p,_,b,by rw[r1.ref],ha,h2,h3,q,fun ao hv=>by rw[pO hv];exact h4,hR.now hS h (a_ _)⟩
end
section
variable{K:Frag}
end
section
variable{K:Frag}{X:Cx}{tg:Expr}
theorem Et:∀v τ H Q,Tg K (FT 2 (u9 (MQ i) (u9 (MQ j) FR))) v τ H Q→DF K 2 (mJ (gX i) (mJ (gX j) DD)) v τ H Q:=by
 rintro v τ H Q ⟨d,σ,S,R,rv,aB,hS,⟨ds,e,hl,a,r,e1,b,r',e2,e3,q⟩,hR⟩
 subst e e1 e2 e3
 obtain⟨p,xs,rfl,hp,t⟩:=rv.tup
 obtain⟨v1,v2,rfl,r1,r2⟩:=t.two
 exact⟨p,_,rfl,.of hp,rfl,v1,[v2],rfl,v2,[],rfl,rfl,hR _ S _ H q ((aB.set i r1).set j r2) hS (.refl _)⟩
end
section
variable{K:Frag}{X:Cx}{b:Bool}{pos:Pos}
def Lj(tl ti tv:TD):kN:=fun De σ S Z=>tv σ S (fun v S1=>tl σ S1 (fun x S2=>ti σ S2 (fun y S3=>∃a es i j,x=.ref a∧y=.int i∧S3 a=some (.lst es)∧AL es.length i=some j∧De.nx σ (S3.set a (.lst (es.set j v)))) (Z σ)) (Z σ)) (Z σ)
theorem Pl{o i value:Expr}{tl ti tv:TD}{pos':Pos}(ho:DE K X o tl)(hi:DE K X i ti)(hv:DE K X value tv)
  (ha:∀v,assign (.Subscript o i pos') X.env v=(do
   let ov ← holding [v] (eval o X.env)
   let iv ← holding [v,ov] (eval i X.env)
   standAt pos'
   holding [v,ov,iv] (setItem ov iv v)
   release [v,ov,iv] []):=by intro _;rfl)
  (hs:swapsWithSole [.Subscript o i pos'] value pos.line X.env=pure false:=by rfl) (hw:swappedStores [.Subscript o i pos'] value X.env=pure none:=by rfl) (h1:(assignEach [.Subscript o i pos'] X.env).map (·.2)=[assign (.Subscript o i pos') X.env]:=by rfl) :
  DS K X b (.Assign [.Subscript o i pos'] value pos) (Lj tl ti tv) :=
 ⟨fun y=>(A2 (X:=y.cx) (hv.of y) (GH (ho.of y) (hi.of y) set_list ha) hs hw h1).mono <| by rintro D τ H ⟨σ,S,De,Z,aB,hS,q,hD,hZ⟩;exact
  ⟨σ,S,_,_,aB,hS,q,fun v S1 vv H1 r1 v1 s1 k1=>⟨σ,S1,_,_,aB.ts k1,s1,r1,fun x S2 xv H2 r2 v2 s2 k2=>⟨σ,S2,_,_,aB.ts (k1.trans k2),s2,r2,by
   rintro y S3 yv H3 ⟨a,es,i,j,e1,e2,e3,e4,r3⟩ v3 s3 k3
   subst e1 e2
   obtain⟨xs,e5,t⟩:=s3.lst e3
   have kk:=s3.m8 (o:=.lst (xs.set j vv)) e3
   refine⟨a,xs,i,j,(Rv.ts k3 _ v2).ref,v3.int,e5,by rw[t.len];exact e4,?_⟩
   exact hD.nx _ _ _ _ r3 (aB.ts (((k1.trans k2).trans k3).trans kk)) (s3.put (c:=.lst _) e3 ⟨_,bN,RvAll.ts kk _ (t.set j (Rv.ts (k2.trans k3) _ v1))⟩) (((k1.trans k2).trans k3).trans kk),hZ.on (k1.trans k2) (aB.ts (k1.trans k2))⟩,hZ.on k1 (aB.ts k1)⟩,hZ.at aB⟩⟩
def aU(z:Str):List D:=z.cps.toList.map fun c=>D.str ⟨#[c]⟩
def FW(t:TD):AQ:=fun σ S R Z=>t σ S (fun x S1=>∃z,x=.str z∧R ⟨aU z,fun _=>True⟩ S1) Z
theorem va(h:DE K X l t):DI K X tg l (FW t) :=
 ⟨fun y=>(Ho (X:=y.cx) (h.of y)).mono <| by rintro τ H R ⟨σ,S,RI,Z,aB,hS,q,hR,hZ⟩;exact⟨σ,S,_,Z,aB,hS,q,by
  rintro x S1 v H1 ⟨z,e,r1⟩ v1 s1 k1
  subst e
  refine⟨z,v1.str,hR _ S1 _ H1 r1 (fun i S2 H2 k2 s2 _=>⟨fun d hd=>?_,fun hl=>?_⟩) s1 k1⟩
  ·unfold aU at hd
   rw[zZ,Array.getElem?_toList] at hd
   cases q:z.cps[i]? with
   |none=>rw[q] at hd;cases hd
   |some c =>
    rw[q] at hd;cases hd
    refine⟨(Array.getElem?_eq_some_iff.mp q).1,fun x' H' ⟨e1,c',e2,e3⟩=>?_⟩
    rw[q] at e2;cases e2
    subst e1 e3
    exact⟨cS _,.refl _,s2⟩
  ·unfold aU at hl;rw[za,zV] at hl;exact hl,hZ⟩⟩
end
theorem yV{K:Frag}{S:aN}{H:Hp}{l:Addr}(hS:Rs K S H)(h:S l=some .well):∃x y z:Int,Rs K (S.set l (.lst [.int x,.int y,.int z])) H:=by
 obtain⟨x,y,z,e⟩:∃x y z:Int,H l=some (.lst [.int x,.int y,.int z]):=hS l _ h
 refine⟨x,y,z,fun b c hb=>?_⟩
 by_cases q:b=l
 ·subst q;rw[aa] at hb;cases hb
  exact⟨_,e,br (aF x) (br (aF y) (br (aF z) bR))⟩
 ·rw[ak q] at hb;exact hS b c hb
theorem pP{K:Frag}{S:aN}{H:Hp}{l:Addr}{x y z:Int}(h:S l=some .well)(hS:Rs K (S.set l (.lst [.int x,.int y,.int z])) H):Rs K S H:=fun b c hb=>by
 by_cases q:b=l
 ·subst q;rw[h] at hb;cases hb
  obtain⟨xs,e,t⟩:=hS.lst (a:=b) aa
  rw[t.ints (bs:=[x,y,z])] at e
  exact⟨x,y,z,e⟩
 ·exact hS b c (by rw[ak q];exact hb)
def HP(pre:List D→Addr→Prop)(post:List D→D→Prop):jg:=fun ds S R _=>∃l x y z,pre ds l∧S l=some (.lst [.int x,.int y,.int z])∧∀d x' y' z',post ds d→R d (S.set l (.lst [.int x',.int y',.int z']))
def BI(pre:List D→Addr→Prop)(post:List D→D→Prop):jg:=fun ds S R _=>∃l,pre ds l∧S l=some .well∧∀d,post ds d→R d S
theorem yW{P:Program}{w:World}{K:Frag}{mg:Str→Option Value}{base:Heap}{k:Nat}{f:Addr}{fd:FuncData}{ps:List Str}{pre:List D→Addr→Prop}{post:List D→D→Prop}
  (F:cI P w K mg base (jM P w) k f fd ps (u7 K (HP pre post))):cI P w K mg base (jM P w) k f fd ps (u7 K (BI pre post)):=by
 refine F.imp fun vs H Q E ⟨ds,S,R,Z,v,hS,⟨l,hp,hw,h⟩,hR,hZ⟩=>?_
 obtain⟨x,y,z,Ts⟩:=yV hS hw
 refine⟨ds,_,fun d S2=>∃x' y' z',post ds d∧S2=S.set l (.lst [.int x',.int y',.int z']),fun _ _=>False,v,Ts,⟨l,x,y,z,hp,aa,fun d x' y' z' hd=>⟨x',y',z',hd,eC⟩⟩,fun d S2 u H' ⟨x',y',z',hd,e⟩ rv hs kp=>?_,fun _ _ _ q=>q.elim⟩
 subst e
 exact hR d S u H' (h d hd) rv (pP hw hs) kp
def Sub(S S':aN):Prop:=∀b c,S b=some c→S' b=some c
theorem Sub.refl(S:aN):Sub S S:=fun _ _ h=>h
theorem Sub.trans(a:Sub S S1)(b:Sub S1 S2):Sub S S2:=fun p c h=>b p c (a p c h)
theorem Sub.new(h:S p=none):Sub S (S.set p c):=fun b c' hb=>by rw[ak (Dn hb h)];exact hb
theorem Rs.sub{K:Frag}{S S':aN}{H:Hp}(h:Rs K S' H)(s:Sub S S'):Rs K S H:=fun a c e=>h a c (s a c e)
def Fo(S':aN)(p:aN→Prop):Prop:=∃S,Sub S S'∧p S
theorem fo(h:p S):Fo S p:=⟨S,.refl S,h⟩
section
variable{P:Program}{w:World}{K:Frag}{mg:Str→Option Value}{base:Heap}
theorem u_.ok{x qual:Str}{st:Stmt}{f:Addr}{fd:FuncData}{N ps:List Str}{k:Nat}{sp:jg}(F:u_ K x qual st f fd)(S:ah N ps (ae st))(len:∀ds S R Z,sp ds S R Z→ds.length=ps.length)
  (mP:∀(dh:Value) (A:Around) (outer:List Env) (s:Shared) (H:Hp) (E:XK) (ds:List D) (S:aN) (R:KD) (Z:KX),fG k (A.deeper (envOfC qual (ae st) s.heap.objs.size f dh))→sp ds S R Z →
   ∃t,wK K (l8 (jM P w) P w K mg base N qual (ae st) f dh A outer s H E) true (ee st) t∧t { nx:=fun _ S'=>Fo S' (R .aK),rt:=fun d S'=>Fo S' (R d) } (m_ N ds) S fun _ C S'=>Fo S' (Z C)):cI P w K mg base (jM P w) (k+1) f fd ps (u7 K sp):=by
 have F2:cI P w K mg base (jM P w) (k+1) f fd ps (u7 K fun ds S R' Z'=>∃R Z,sp ds S R Z∧R'=(fun d S'=>Fo S' (R d))∧Z'=fun C S'=>Fo S' (Z C)):=by
  refine F.Tr S (by rintro ds S R Z ⟨R0,Z0,h,_⟩;exact len _ _ _ _ h) fun dh A outer s H E ds S R Z hr ⟨R0,Z0,h,e1,e2⟩=>?_
  subst e1 e2
  exact mP dh A outer s H E ds S R0 Z0 hr h
 refine F2.imp <| by rintro vs H Q E ⟨ds,S,R,Z,v,hS,h,hR,hZ⟩;exact⟨ds,S,_,_,v,hS,⟨R,Z,h,rfl,rfl⟩,by rintro d S' u H' ⟨S2,sb,r⟩ rv rs kp;exact hR d S2 u H' r rv (rs.sub sb) kp,by rintro C S' H' ⟨S2,sb,r⟩ rs kp;exact hZ C S2 H' r (rs.sub sb) kp⟩
end
section
variable{K:Frag}{X:Cx}{b:Bool}
def Lk(t:kN):kN:=fun De σ S Z=>∃P:SD→aN→Prop,t { De with nx:=fun aw S'=>Fo S' (P aw) } σ S Z∧∀aw S',P aw S'→De.nx aw S'
theorem sJ{st:Stmt}{t:kN}(h:DS K X b st t):DS K X b st (Lk t) :=
 ⟨fun y=>(h.of y).mono <| by rintro D τ H ⟨σ,S,De,Z,aB,hS,⟨P,q,hP⟩,hD,hZ⟩;exact⟨σ,S,_,Z,aB,hS,q,⟨by rintro qb S1 MP H1 ⟨S2,sb,r1⟩ a b c;exact hD.nx _ _ _ _ (hP _ _ r1) a (b.sub sb) c,hD.rt,hD.bk,hD.ct⟩,hZ⟩⟩
def Tu(t:TD):TD:=fun σ S R Z=>t σ S (fun d S'=>Fo S' (R d)) Z
theorem yX(h:DE K X e t):DE K X e (Tu t) :=
 ⟨fun y=>(h.of y).mono <| by rintro τ H Q ⟨σ,S,R,Z,aB,hS,q,hR,hZ⟩;exact⟨σ,S,_,Z,aB,hS,q,by rintro d S' v H' ⟨S2,sb,r⟩ rv rs kp;exact hR d S2 v H' r rv (rs.sub sb) kp,hZ⟩⟩
theorem qv(nd:N.Nodup)(h0:N[0]?=some a:=by rfl)(hx:∀C s H ex pn,Loc (jd X N scope C s H ex pn).env.scope a∧(jd X N scope C s H ex pn).env.scope.names.lookup a=some .local:=by intro _ _ _ _ _;exact⟨Or.inl rfl,rfl⟩) :
  ∀C s H ex pn,PG (jd X N scope C s H ex pn) (.Name a p) (gX 0):=fun C s H ex pn=>mC (i:=0) nd h0 (hx C s H ex pn).1 (.inr (hx C s H ex pn).2)
theorem Tv(nd:N.Nodup)(h0:N[0]?=some a:=by rfl)(h1:N[1]?=some c:=by rfl)
  (hx:∀C s H ex pn,Loc (jd X N scope C s H ex pn).env.scope a∧(jd X N scope C s H ex pn).env.scope.names.lookup a=some .local:=by intro _ _ _ _ _;exact⟨Or.inl rfl,rfl⟩)
  (hy:∀C s H ex pn,Loc (jd X N scope C s H ex pn).env.scope c∧(jd X N scope C s H ex pn).env.scope.names.lookup c=some .local:=by intro _ _ _ _ _;exact⟨Or.inl rfl,rfl⟩)
  (hl:∀env:Env,(assignEach [.Name a p,.Name c p'] env).length=2∧(assignEach [.Name a p,.Name c p'] env).findIdx? (·.1)=none∧(assignEach [.Name a p,.Name c p'] env).map (·.2)=assign (.Name a p) env::(assignEach [.Name c p'] env).map (·.2)∧(assignEach [.Name c p'] env).map (·.2)=assign (.Name c p') env::(assignEach [] env).map (·.2):=by intro _;exact⟨rfl,rfl,rfl,rfl⟩) (hK:X.K=K:=by rfl) (hc:X.calm=true:=by rfl) :
  ∀C s H ex pn,PG (jd X N scope C s H ex pn) (.Tuple [.Name a p,.Name c p'] j p2) (DF K 2 (mJ (gX 0) (mJ (gX 1) DD))):=fun C s H ex pn=>by
 subst hK
 have e:=hl (jd X N scope C s H ex pn).env
 exact A1 (X:=jd X N scope C s H ex pn) hc (mK (mC (i:=0) nd h0 (hx C s H ex pn).1 (.inr (hx C s H ex pn).2)) (mK (mC (i:=1) nd h1 (hy C s H ex pn).1 (.inr (hy C s H ex pn).2)) wk e.2.2.2) e.2.2.1) e.1 e.2.1
end
section
variable{K:Frag}
end
end L2
namespace HT
open PySem PySem.Spec PyProof.Rows
section
variable{prog:Program}{w:World}{A:Around}{E:Value→Shared→Prop}{s:Shared}
theorem getItem_tuple_whole{t sl:Addr}{items:Array Value}{vl vu:Value}{lo hi:Option Int}{Q:Value→Shared→Prop}(ht:IsTup s.heap t items)(hs:s.heap.IsSliceOf sl vl vu .none)(pl:IsPart vl lo)(pu:IsPart vu hi)
  (hw:sIx items.size 0 lo=0∧sIx items.size items.size hi=items.size) (h:Q (.ref t) s):wpAny (model prog w) A (getItem (.ref t) (.ref sl)) Q E s:=by
 obtain⟨os,G7,Jd,J3⟩:=id hs
 have N3:s.TypeIs (.ref sl) "slice" := ⟨os,G7,Jd⟩
 unfold getItem
 try with_reducible refine wpAny_holding ?_
 first|refine zp (zB ?_)|skip
 refine zp (wpAny_sequenceKey ht.typeIs (by decide) ?_)
 refine zp (wpAny_callSpecial?_slot (name:=Str.ofString "__getitem__") ht.typeIs PyProof.Rows.slot_tuple_getitem
  (wpAny_call_entry PyProof.Rows.slot_tuple_getitem ht.typeIs entry_tuple_getitem ?_ (args_tuple_getitem _ _)))
 show wpAny _ _ (Builtin.Tuple.tupleItemsOf (.ref t) >>= _) _ _ s
 refine zp (tupleItemsOf_ ht ?_)
 refine zp (wpAny_typeOf N3 ?_)
 rw[if_pos (by decide)]
 refine zp (sliceApplied_gen hs pl pu ?_)
 have Pm:((((sIx items.size 0 lo:Nat):Int) == 0 && (1:Int) == 1 && (sIx items.size items.size hi - sIx items.size 0 lo) == items.size)=true):=by
  rw[hw.1,hw.2];simp
 show wpAny _ _ (if (((sIx items.size 0 lo:Nat):Int) == 0 && (1:Int) == 1 && (sIx items.size items.size hi - sIx items.size 0 lo) == items.size)=true then _ else _) _ _ s
 rw[if_pos Pm]
 refine zp ?_
 unfold Builtin.Tuple.tupleIsExact
 refine zp (wpAny_typeOf ht.typeIs (zB ?_))
 rw[if_pos (by decide)]
 refine zp (wpAny_rule ?_)
 first
  |exact zB ⟨_,rfl,zB h⟩
  |exact zp (zB (zB ⟨_,rfl,zB h⟩))
  | (trace_state;exact zp (zB ⟨_,rfl,zB h⟩))
end
end HT
namespace L2
open PySem PySem.Spec PyProof.Rows
def Ll(K:Frag):V→Option Int→Option Int→Hp→VK→Prop:=fun x lo hi H Q=>∃a xs,x=.ref a∧kU K H a xs∧(HT.sIx xs.length 0 lo=0∧HT.sIx xs.length xs.length hi=xs.length)∧Q (.ref a) H
theorem Eu:FA X (Ll X.K):=by
 intro pins s σ H x v vl vu lo hi sl Q I rx hs pl pu h
 obtain⟨a,xs,rfl,hx,hw,q⟩:=h
 cases rx
 obtain⟨ao,r,ht,hz⟩:=I.tuple hx
 have hlen:ao.toArray.size=xs.length:=by rw[zu];exact r.length.symm
 refine⟨"tuple",_,PyProof.Rows.slot_tuple_getitem.lookup,ht.typeIs,?_⟩
 exact HT.getItem_tuple_whole ht hs pl pu (by rw[hlen];exact hw) ⟨.ref a,_,I,rfl,q⟩
def Ln:D→Option Int→Option Int→aN→KD→Prop:=fun x lo hi S R=>∃ds,x=.tup ds∧R (.tup (ay ds lo hi)) S
section
variable{K:Frag}{X:Cx}
theorem Lo(hK:X.K=K):FA X (fun x lo hi H Q=>∃d S R,Rv K H d x∧Rs K S H∧Ln d lo hi S R∧Cn K H R Q):=by
 rintro pins s σ H x v vl vu lo hi sl Q I rx hs pl pu ⟨d,S,R,r1,hS,⟨ds,e,h⟩,hR⟩
 subst hK e
 obtain⟨a,xs,rfl,q,t⟩:=r1.tup
 by_cases hw:HT.sIx xs.length 0 lo=0∧HT.sIx xs.length xs.length hi=xs.length
 ·refine Eu pins s σ H _ v vl vu lo hi sl Q I rx hs pl pu ⟨a,xs,rfl,.of q,hw,?_⟩
  have e:ay ds lo hi=ds:=by
   unfold ay
   rw[← t.len,hw.1,hw.2,yo,Nat.sub_zero,t.len,List.take_length]
  rw[e] at h
  exact hR.now hS h (jt q t)
 ·exact Ba pins s σ H _ v vl vu lo hi sl Q I rx hs pl pu ⟨a,xs,rfl,.of q,hw,fun p hp=>hR.Ej hS hp h (t.cut lo hi)⟩
def Pn(te:TD)(tl th:FL):TD:=fun σ S R Z=>te σ S (fun x S1=>tl σ S1 (fun l S2=>th σ S2 (fun u S3=>Ln x l u S3 R) Z) Z) Z
theorem Tw{e:Expr}{lo hi:Option Expr}{te:TD}{tl th:FL}{p2 pos:Pos}(he:DE K X e te)(hl:DO K X lo tl)(hu:DO K X hi th)(hK:X.K=K:=by rfl):DE K X (.Subscript e (.Slice lo hi none p2) pos) (Pn te tl th) :=
 ⟨fun y=>(rW (X:=y.cx) (Lo hK) (he.of y) (hl.of y) (hu.of y)).mono <| by rintro τ H Q ⟨σ,S,R,Z,aB,hS,q,hR,hZ⟩;exact
  ⟨σ,S,_,Z,aB,hS,q,fun d S1 x H1 r1 v1 s1 k1=>⟨σ,S1,_,Z,aB.ts k1,s1,r1,fun l S2 H2 r2 s2 k2=>⟨σ,S2,_,Z,aB.ts (k1.trans k2),s2,r2,fun u S3 H3 r3 s3 k3=>⟨d,S3,R,Rv.ts (k2.trans k3) _ v1,s3,r3,hR.kp ((k1.trans k2).trans k3)⟩,hZ.kp (k1.trans k2)⟩,hZ.kp k1⟩,hZ⟩⟩
end
inductive BJ (S:aN):List D→List PyData→Prop where
 |nil:BJ S [] []
 |cons {d:D}{p:PyData}{ds:List D}{ps:List PyData} : Dl S d p→BJ S ds ps→BJ S (d::ds) (p::ps)
section
variable{K:Frag}
end
theorem jh:∀(k:Nat) (l:List Str),Vals (l.map V.str) (strsFrom k l)
 |_,[]=>.nil
 |k,z::l=>.cons ⟨_,rfl⟩ (jh _ l)
def HQ:V→List V→Hp→VK→Prop:=fun x vs H Q=>∃z y,x=.str z∧vs=[.str y]∧(y.length == 0)=false∧z.length+2≤sizeLine∧∀l,H l=none→Q (.ref l) (upd H l (.lst ((Txt.split z y).map V.str)))
theorem BK:Dm X "str.split" HQ:=by
 intro pins s σ H x vs v us Q I rx rv h
 obtain⟨z,y,rfl,rfl,hy,hz,q⟩:=h
 obtain⟨t,rfl⟩:=rx
 obtain⟨u,rfl,ru⟩:=rv.one
 obtain⟨t',rfl⟩:=ru
 have one:1≤sizeLine:=by lia
 have self:∀k,(∀l,H l=none→Q (.ref l) (upd H l (.lst [V.str z])))→EP X pins σ Q (.ref s.heap.objs.size) { s with heap:=s.heap.push { cls:=.type "list",data:=.seq #[.str z t] },toks:=k }:=fun k q =>
  ⟨.ref s.heap.objs.size,_,I.laid (t':=k) (o:=.lst [V.str z]) (fun b ob q=>zt _ q) (zi _) ⟨one,[.str z t],0,.cons ⟨t,rfl⟩ .nil,zU _ rfl⟩,rfl,q _ (I.aS.fresh (zi _))⟩
 by_cases h1:(decide (z.length<y.length) || decide (Builtin.Str.strKind z<Builtin.Str.strKind y))=true
 ·have e:Txt.split z y=[z]:=by unfold Txt.split;rw[if_pos h1]
  rw[e] at q
  exact yB F.slot_str_split (typeIs_str _ _ _) F.entry_str_split (F.args_str_split_2 _ _) (meets_str_split_cannot_occur z y t t' h1) (self s.toks q)
 ·by_cases h2:(Builtin.Str.occurrences z y 0 z.length (z.length+1)).isEmpty=true
  ·have e:Txt.split z y=[z]:=by unfold Txt.split;rw[if_neg h1,if_pos h2]
   rw[e] at q
   exact yB F.slot_str_split (typeIs_str _ _ _) F.entry_str_split (F.args_str_split_2 _ _) (meets_str_split_not_found z y t t' (Bool.eq_false_iff.mpr h1) hy h2) (self s.toks q)
  ·have e:Txt.split z y=Builtin.Str.partsBetween z (Builtin.Str.occurrences z y 0 z.length (z.length+1)) y.length:=by unfold Txt.split;rw[if_neg h1,if_neg h2]
   have Tz:1≤y.length:=by
    have:¬ y.length=0:=fun q=>by rw[q] at hy;cases hy
    lia
   have hw:=split_weight z y Tz
   have hl:(Txt.split z y).length≤sizeLine:=by lia
   rw[e] at q hl
   refine yB F.slot_str_split (typeIs_str _ _ _) F.entry_str_split (F.args_str_split_2 _ _) (meets_str_split_sep z y t t' (Bool.eq_false_iff.mpr h1) hy (Bool.eq_false_iff.mpr h2) (by lia) hl) ?_
   exact⟨.ref s.heap.objs.size,_,I.laid (o:=.lst (_:List V)) (fun b ob q=>zt _ q) (zi _) ⟨by rw[za];exact hl,_,0,jh s.toks _,zU _ rfl⟩,rfl,q _ (I.aS.fresh (zi _))⟩
section
variable{K:Frag}
def HR:uC:=fun x ds S R=>∃z y,x=.str z∧ds=[.str y]∧(y.length == 0)=false∧z.length+2≤sizeLine∧∀p,S p=none→R (.ref p) (S.set p (.lst ((Txt.split z y).map D.str)))
theorem m_split:AO K "str.split" HR:=by
 rintro X hK pins s σ H x xs v us Q I rx rs ⟨d,ds,S,R,r1,r2,hS,⟨z,y,e1,e2,hy,hz,h⟩,hR⟩
 subst e1 e2
 obtain⟨w0,rfl,q2⟩:=r2.one
 exact BK pins s σ H _ _ v us Q I rx rs ⟨z,y,r1.str,by rw[q2.str],hy,hz,fun l hl=>hR.new hS hl (h l) (qq _)⟩
def Lp:uC:=fun x ds S R=>∃z texts d,x=.str z∧ds=[d]∧sD S d (texts.map D.str)∧JoinOk z texts=true∧R (.str (Txt.join z texts)) S
theorem hV:AO K "str.join" Lp:=by
 rintro X hK pins s σ H x xs v us Q I rx rs ⟨d,ds,S,R,r1,r2,hS,⟨z,texts,d',e1,e2,e3,hj,h⟩,hR⟩
 subst hK e1 e2
 obtain⟨w0,rfl,q2⟩:=r2.one
 obtain⟨a,ys,rfl,q,t⟩:=e3.at hS q2
 have et:=t.strs
 subst et
 exact Eg pins s σ H _ _ v us Q I rx rs ⟨z,a,texts,r1.str,rfl,q,hj,hR.now hS h (cS _)⟩
theorem pQ(f:α→β):∀(l:List α) (j:Nat),(l.eraseIdx j).map f=(l.map f).eraseIdx j
 |[],_=>rfl
 |_::_,0=>rfl
 |x::l,j+1=>by rw[List.eraseIdx_cons_succ,zz,zz,List.eraseIdx_cons_succ,pQ f l j]
end
section
variable{K:Frag}
def wM(p:Str×D):D:=.tup [.str p.1,p.2]
def dQ(l:List (Str×D)):List (Key×D):=l.foldl (fun c p=>dput c (.inr p.1) p.2) []
theorem wN:∀{kvs:List (Str×D)}{ys:List V},RvAll K H (kvs.map wM) ys→∃kv:List (Str×V),QX H ys kv∧∀c c',dH K H c c'→dH K H (kvs.foldl (fun c p=>dput c (.inr p.1) p.2) c) (kv.foldl (fun c p=>putK c (.inr p.1) p.2) c')
 |[],ys,h=>by
  rw[h.nil]
  exact⟨[],⟨rfl,fun i x p e=>(by cases i <;> cases e)⟩,fun c c' h=>h⟩
 |p::kvs,ys,h=>by
  obtain⟨y,ys,rfl,r1,r2⟩:=h.cons
  obtain⟨b,zs,rfl,hb,tz⟩:=Rv.tup (show Rv K H (.tup [.str p.1,p.2]) y from r1)
  obtain⟨v,u,rfl,rv,ru⟩:=tz.two
  have ev:=rv.str
  subst ev
  obtain⟨kv,⟨hl,hp⟩,hf⟩:=wN r2
  refine⟨(p.1,u)::kv,⟨by rw[zb,zb,hl],fun i x q e1 e2=>?_⟩,fun c c' h=>hf _ _ (h.put (.inr p.1) ru)⟩
  cases i with
  |zero=>cases e1;cases e2;exact⟨b,rfl,hb⟩
  |succ i=>exact hp i x q e1 e2
def Lq:List D→aN→KD→Prop:=fun ds S R=>∃kvs:List (Str×D),ds=[.tup (kvs.map wM)]∧∀p,S p=none→R (.ref p) (S.set p (.iT (dQ kvs)))
theorem BL:gI K (.type "dict") Lq:=by
 rintro X hK hc pins s σ H xs us Q I rx ⟨ds,S,R,r,hS,⟨kvs,e,h⟩,hR⟩
 subst hK e
 obtain⟨v,rfl,r1⟩:=r.one
 obtain⟨a,ys,rfl,q,t⟩:=r1.tup
 obtain⟨kv,hp,hf⟩:=wN t
 refine uW hc pins s σ H _ us Q I rx ⟨a,ys,kv,rfl,q,hp,fun l hl=>?_⟩
 have kn:Kp X.K H (upd H l (.dK (wG kv))):=.new hl
 exact hR _ _ _ _ (h l (hS.fresh hl)) (fw l) (hS.new (c:=.iT (dQ kvs)) hl ⟨_,bN,(hf [] [] .nil).ts kn⟩) kn
theorem sL(kvs:List (Key×D))(k k':Key)(d:D):dI (dput kvs k d) k'=if k'=k then some d else dI kvs k':=by
 unfold dput
 by_cases hk:(kvs.any fun kv=>decide (kv.1=k))=true
 ·rw[if_pos hk]
  unfold dI
  induction kvs with
  |nil=>cases hk
  |cons r kvs ih =>
   rw[zz,yw,yw]
   by_cases e:r.1=k
   ·rw[if_pos e]
    by_cases e2:k'=k
    ·rw[if_pos e2,show decide (r.1=k')=true from zr (e.trans e2.symm)];rfl
    ·rw[if_neg e2,show decide (r.1=k')=false from zh fun q=>e2 (q.symm.trans e)]
     by_cases qw:(kvs.any fun kv=>decide (kv.1=k))=true
     ·have:=ih qw
      rw[if_neg e2] at this
      exact this
     ·have em:kvs.map (fun kv=>if kv.1=k then (kv.1,d) else kv)=kvs:=by
       conv=>rhs;rw[← List.map_id kvs]
       refine List.map_congr_left fun x hx=>?_
       rw[if_neg fun q=>qw (List.any_eq_true.mpr ⟨x,hx,zr q⟩)];rfl
      rw[em]
   ·rw[if_neg e]
    have qw:(kvs.any fun kv=>decide (kv.1=k))=true:=by
     rw[yC,zh e,ym] at hk;exact hk
    by_cases e3:r.1=k'
    ·rw[zr e3,if_neg fun q=>e (e3.trans q)]
    ·rw[zh e3];exact ih qw
 ·rw[if_neg hk]
  unfold dI
  rw[List.find?_append]
  have hn:∀x∈kvs,x.1≠k:=fun x hx q=>hk (List.any_eq_true.mpr ⟨x,hx,zr q⟩)
  by_cases e:k'=k
  ·subst e
   rw[if_pos rfl,List.find?_eq_none.mpr fun x hx=>by simp [hn x hx]]
   simp
  ·rw[if_neg e]
   have:([(k,d)].find? fun kv=>decide (kv.1=k'))=none:=by
    rw[yw,show decide (k=k')=false from zh fun q=>e q.symm];rfl
   rw[this,Option.or_none]
theorem pR(l:List (Str×D))(z:Str):(dI (dQ l) (.inr z)).isSome=l.any fun p=>decide (p.1=z):=by
 have all:∀(l:List (Str×D)) (c:List (Key×D)),(dI (l.foldl (fun c p=>dput c (.inr p.1) p.2) c) (.inr z)).isSome=((dI c (.inr z)).isSome || l.any fun p=>decide (p.1=z)):=by
  intro l
  induction l with
  |nil=>intro c;simp
  |cons p l ih =>
   intro c
   rw[List.foldl_cons,ih,sL,yC]
   by_cases e:p.1=z
   ·rw[if_pos (by rw[e]),zr e];simp
   ·rw[if_neg fun q=>e (Sum.inr.inj q).symm,zh e];simp
 exact (all l []).trans (by rfl)
end
structure Ls(k:Nat)(A:Around):Prop where
 dp:A.depth+3 * k+5<recursionLimit
 un:A.units+16 * k+200<cLine
structure V2(P:Program)(w:World)(K:Frag)(mg:Str→Option Value)(base:Heap)(k:Nat)(f:Addr)(fd:FuncData)(ps:List Str)(sp:jg):Prop where
 len:∀ds S R Z,sp ds S R Z→ds.length=ps.length
 run:∀(A:Around) (outer:List Env) (s:Shared) (H:Hp) (args:Args) (us:List Value) (vs:List V) (Q:VK),Ls k A→A_ P w K mg base A outer s H→BindsTo s fd args (ps.zip us)→Vals vs us→u7 K sp vs H Q E0 →
  codeAny (model P w) A (.call (.ref f) args) (CR (jM P w) outer P w H s Q E0) s
section
variable{P:Program}{w:World}{K:Frag}{mg:Str→Option Value}{base:Heap}
end
section
variable{K:Frag}{X:Cx}{k:Nat}{f:Addr}{fd:FuncData}{ps:List Str}{x:Str}{p pos:Pos}{e:Expr}{es:List Expr}{sp:jg}
end
section
variable{K:Frag}
def Lu:List D→aN→KD→Prop:=fun ds S R=>∃z n,ds=[.str z]∧intText? z=some n∧z.length≤640∧R (.int n) S
theorem vb:gI K (.type "int") Lu:=by
 rintro X hK hc pins s σ H xs us Q I rx ⟨ds,S,R,r,hS,⟨z,n,e,h1,h2,h⟩,hR⟩
 subst hK e
 obtain⟨v,rfl,r1⟩:=r.one
 have ev:=r1.str
 subst ev
 obtain⟨u,rfl,ru⟩:=vals1 rx
 obtain⟨t,rfl⟩:=ru
 exact PySem.W.KIN.call_text h1 h2 ⟨.int n,H,I.tok _,⟨_,rfl⟩,hR.now hS h (aF _)⟩
def Po:List D→aN→KD→Prop:=fun ds S R=>∃n,ds=[.int n]∧n.natAbs.log2<1920∧R (.str (Str.ofString (toString n))) S
theorem BM:gI K (.type "str") Po:=by
 rintro X hK hc pins s σ H xs us Q I rx ⟨ds,S,R,r,hS,⟨n,e,h1,h⟩,hR⟩
 subst hK e
 obtain⟨v,rfl,r1⟩:=r.one
 have ev:=r1.int
 subst ev
 obtain⟨u,rfl,ru⟩:=vals1 rx
 obtain⟨t,rfl⟩:=ru
 exact PySem.P.str_of_int h1 ⟨.str _,H,I.tok _,⟨_,rfl⟩,hR.now hS h (cS _)⟩
end
def vc(pre:Nat)(X:Cx)(e:Expr)(t:TE):Prop:=∀(pins:List (Addr×Obj)) (s:Shared) (σ:St) (H:Hp) (Q:VK),Inv X pins σ H s→pre≤s.toks→t σ H Q→wpAny (model X.prog X.w) X.A (eval e X.env) (fun u s'=>EP X pins σ Q u s'∧1≤s'.toks) X.xe s
section
variable{X:Cx}{e o:Expr}{t:TE}
theorem PE.g(h:PE X e t):vc 1 X e t:=fun pins s σ H Q I hs q=>yk (wpAny_toks_of hs (h pins s σ H Q I q)) (fun _ _ q=>⟨q.2,q.1⟩) fun _ _ q=>q.2
theorem vc.pe(h:vc 0 X e t):PE X e t:=fun pins s σ H Q I q=>yk (h pins s σ H Q I (yj _) q) (fun _ _ q=>q.1) fun _ _ q=>q
def Pp(y z:Str)(t:TE):TE:=fun σ H Q=>t σ H fun x H1=>∃u,x=.str u∧u.length+(u.length+1) * z.length≤16777216∧Q (.str (Txt.replace u y z)) H1
theorem HS(ho:vc pre X o t)(BN:(y == z)=false)(m:M2 X o "replace" apos (.Constant (.str y) j p1) (.Constant (.str z) k p2) aO):vc pre X (.Call (.Attribute o "replace" apos) [.Constant (.str y) j p1,.Constant (.str z) k p2] [] aO) (Pp y z t):=by
 intro pins s σ H Q I hs h
 refine wpAny_Call_method m.base m.Bf m.line zH PySem.F.slot_str_replace PySem.F.type_str_replace (bA (ho pins s σ H _ I hs h) fun u s1 ⟨⟨x,H1,I1,rx,z',ex,hz,q⟩,ht⟩=>?_)
 subst ex
 obtain⟨tk,rfl⟩:=rx
 refine⟨typeIs_str _ _ _,fun b q=>(by cases q),?_⟩
 rw[m.trees]
 refine Calls.callWith_builtin rfl (Calls.evalArgs_plain (ye (Calls.Constant_str (ye (Calls.Constant_str (Calls.spliced_nil ?_))))))
 refine wpAny_with_toks (n:=1) (by show 1≤s1.toks+1+1;lia) (PySem.SC.replace (u:=s1.toks) (v:=s1.toks+1) ?_ ?_ ?_ BN hz fun t' k hk=>⟨⟨.str _,H1,?_,⟨_,rfl⟩,q⟩,hk⟩)
 ·exact Nat.ne_of_gt ht
 ·exact Nat.succ_ne_zero _
 ·exact (Nat.succ_ne_self _).symm
 ·exact I1.tok k
theorem yY(hr:FA X r)(he:PE X e te):vc 0 X (.Subscript e (.Slice (some (.Constant (.int i) j p3)) none none p2) pos) (fun σ H Q=>te σ H fun x H1=>r x (some i) none H1 Q):=by
 intro pins s σ H Q I _ h
 refine Subscript_ (bA (he pins s σ H _ I h) fun v s1 ⟨x,H1,I1,r1,q1⟩=>?_)
 refine wpAny_Slice ?_
 rw[evalPart_some]
 refine wpAny_Constant_int ?_
 rw[evalPart_none]
 refine zB ?_
 refine zB ?_
 have I2:Inv X pins σ H1 { s1 with toks:=s1.toks+1 }:=I1.tok _
 generalize MT:({ s1 with toks:=s1.toks+1 } : Shared)=s3 at I2
 have TB:1≤s3.toks:=by rw[← MT];exact Nat.le_add_left _ _
 have I4:Inv X pins σ H1 { s3 with heap:=s3.heap.push { cls:=.type "slice",data:=.fields #[.int i s1.toks,.none,.none] } }:=I2.kept (t':=s3.toks) fun b ob q=>zt _ q
 obtain⟨T,id,hT,ht,hg⟩:=hr pins { s3 with heap:=s3.heap.push { cls:=.type "slice",data:=.fields #[.int i s1.toks,.none,.none] } } σ H1 x v (.int i s1.toks) .none (some i) none s3.heap.objs.size Q I4 r1 (Heap.IsSliceOf.new ..) (.int i s1.toks) .none q1
 show wpAny (model X.prog X.w) X.A (subscriptTail e (.Slice (some (.Constant (.int i) j p3)) none none p2) v (.ref s3.heap.objs.size)) _ X.xe { s3 with heap:=s3.heap.push { cls:=.type "slice",data:=.fields #[.int i s1.toks,.none,.none] } }
 have hx:wpAny (model X.prog X.w) X.A (subscriptTail e (.Slice (some (.Constant (.int i) j p3)) none none p2) v (.ref s3.heap.objs.size)) (EP X pins σ Q) X.xe { s3 with heap:=s3.heap.push { cls:=.type "slice",data:=.fields #[.int i s1.toks,.none,.none] } }:=tail_any (ops:=[.ref s3.heap.objs.size,v]) ht hT hg (by with_unfolding_all rfl)
 exact yk (wpAny_toks_of (n:=1) TB hx) (fun _ _ q=>⟨q.2,q.1⟩) fun _ _ q=>q.2
theorem Ew(ho:eX X (binaryOp .Add) r)(hb:vc 1 X e tb):PE X (.BinOp (.Constant (.str c) j p1) .Add e pos) (fun σ H Q=>tb σ H fun y H1=>r (.str c) y H1 Q):=by
 intro pins s σ H Q I h
 refine wpAny_BinOp (Calls.Constant_str ?_)
 refine bA (hb pins { s with toks:=s.toks+1 } σ H _ (I.tok _) (Nat.le_add_left _ _) h) fun u s2 ⟨⟨y,H2,I2,r2,q2⟩,_⟩=>?_
 exact ho pins s2 σ H2 (.str c) y (.str c s.toks) u Q I2 ⟨_,rfl⟩ r2 q2
end
structure Dq(pre:Nat)(K:Frag)(X:Cx)(e:Expr)(t:TD):Prop where
 of:∀{b:Bool} (y:Ev X b),vc pre y.cx e (T K y.E t)
section
variable{K:Frag}{X:Cx}{e o:Expr}
theorem vc.mono(h:vc pre X e t)(i:∀τ H Q,t' τ H Q→t τ H Q):vc pre X e t':=fun pins s τ H Q I hs q=>h pins s τ H Q I hs (i τ H Q q)
theorem g1(h:DE K X e t):Dq 1 K X e t:=⟨fun y=>(h.of y).g⟩
theorem gd(h:Dq 0 K X e t):DE K X e t:=⟨fun y=>(h.of y).pe⟩
def Pq(y z:Str)(to:TD):TD:=fun σ S R Z=>to σ S (fun x S1=>∃u,x=.str u∧u.length+(u.length+1) * z.length≤16777216∧R (.str (Txt.replace u y z)) S1) Z
theorem gr(ho:Dq pre K X o to)(BN:(y == z)=false:=by decide)(m:M2 X o "replace" apos (.Constant (.str y) j p1) (.Constant (.str z) k p2) aO:=by exact⟨rfl,rfl,rfl,rfl⟩) :
  Dq pre K X (.Call (.Attribute o "replace" apos) [.Constant (.str y) j p1,.Constant (.str z) k p2] [] aO) (Pq y z to) :=
 ⟨fun q=>(HS (X:=q.cx) (ho.of q) BN ⟨m.base,m.Bf,m.line,m.trees⟩).mono <| by rintro τ H Q ⟨σ,S,R,Z,aB,hS,h,hR,hZ⟩;exact
  ⟨σ,S,_,Z,aB,hS,h,by rintro d S1 x H1 ⟨u,e1,h1,r1⟩ v1 s1 k1;exact by subst e1;exact⟨u,v1.str,h1,(hR.kp k1).now s1 r1 (cS _)⟩,hZ⟩⟩
def Pr(i:Int)(te:TD):TD:=fun σ S R Z=>te σ S (fun x S1=>OZ x (some i) none S1 R) Z
theorem gs(he:DE K X e te)(hK:X.K=K:=by rfl):Dq 0 K X (.Subscript e (.Slice (some (.Constant (.int i) j p3)) none none p2) pos) (Pr i te) :=
 ⟨fun y=>(yY (X:=y.cx) (K2 hK) (he.of y)).mono <| by rintro τ H Q ⟨σ,S,R,Z,aB,hS,q,hR,hZ⟩;exact
  ⟨σ,S,_,Z,aB,hS,q,fun d S1 x H1 r1 v1 s1 k1=>⟨d,S1,R,v1,s1,r1,hR.kp k1⟩,hZ⟩⟩
def FX(c:Str)(te:TD):TD:=fun σ S R Z=>te σ S (fun x S1=>KW (.str c) x S1 R) Z
theorem ga(he:Dq 1 K X e te)(hu:X.A.units+64<cLine)(hK:X.K=K:=by rfl):DE K X (.BinOp (.Constant (.str c) j p1) .Add e pos) (FX c te) :=
 ⟨fun y=>(Ew (X:=y.cx) (aj y.cx hK hu) (he.of y)).mono <| by rintro τ H Q ⟨σ,S,R,Z,aB,hS,q,hR,hZ⟩;exact
  ⟨σ,S,_,Z,aB,hS,q,fun d S1 x H1 r1 v1 s1 k1=>⟨.str c,d,S1,R,cS c,v1,s1,r1,hR.kp k1⟩,hZ⟩⟩
end
theorem e_(a b:Str):(a++b).cps.toList=a.cps.toList++b.cps.toList:=by
 show (a.cps++b.cps).toList=_
 rw[Array.toList_append]
theorem oM{a b:Str}(h:a.cps.toList=b.cps.toList):a=b:=by
 obtain⟨⟨x⟩⟩:=a
 obtain⟨⟨y⟩⟩:=b
 cases h;rfl
def bI(c:Nat)(z:List Nat)(l:List Nat):List Nat:=l.flatMap fun d=>if d=c then z else [d]
theorem cT(c:Nat)(z a b:List Nat):bI c z (a++b)=bI c z a++bI c z b:=by unfold bI;rw[List.flatMap_append]
theorem bg(c:Nat)(z:List Nat)(d:Nat)(l:List Nat):bI c z (d::l)=(if d=c then z else [d])++bI c z l:=by unfold bI;rw[yq]
theorem k7:∀{l:List Nat},c∉l→bI c z l=l
 |[],_=>rfl
 |d::l,h=>by
  rw[bg,if_neg fun e=>h (by rw[e];exact zf),k7 fun m=>h (zd _ m)];rfl
theorem pS(c:Nat)(z:Str):∀(ps:List Str),(∀p∈ps,c∉p.cps.toList)→bI c z.cps.toList ((⟨#[c]⟩:Str).join ps).cps.toList=(z.join ps).cps.toList
 |[],_=>by rw[join_nil,join_nil];rfl
 |[p],h=>by rw[join_one,join_one];exact k7 (h p zf)
 |p::q::r,h=>by
  rw[yz,yz,e_,e_,e_,e_,cT,cT,pS c z (q::r) fun x hx=>h x (zd _ hx),k7 (h p zf)]
  congr 2
  show bI c z.cps.toList [c]=_
  rw[bg,if_pos rfl];exact zE _
theorem rep1(x z:Str)(c:Nat):(Txt.replace x ⟨#[c]⟩ z).cps.toList=bI c z.cps.toList x.cps.toList:=by
 rw[PySem.StrLaws.replace_one,← pS c z _ fun p hp=>PySem.StrLaws.split_free x c p hp,PySem.StrLaws.join_split]
def rep2(a b:Nat)(z:List Nat):List Nat→List Nat
 |x::y::t=>if x=a∧y=b then z++rep2 a b z t else x::rep2 a b z (y::t)
 |l=>l
theorem qx(h:x≠a):rep2 a b z (x::t)=x::rep2 a b z t:=by
 cases t with
 |nil=>rfl
 |cons y t=>rw[rep2,if_neg fun q=>h q.1]
theorem BO(h:y≠b):rep2 a b z (x::y::t)=x::rep2 a b z (y::t):=by rw[rep2,if_neg fun q=>h q.2]
theorem j4:rep2 a b z (a::b::t)=z++rep2 a b z t:=by rw[rep2,if_pos ⟨rfl,rfl⟩]
theorem at2:PySem.StrLaws.At x ⟨#[a,b]⟩ x.length i↔∃t,x.cps.toList.drop i=a::b::t:=by
 unfold PySem.StrLaws.At
 rw[PySem.StrLaws.subAt_eq]
 have hl:x.length=x.cps.toList.length:=zV.symm
 show i+2≤_∧(List.take 2 (List.drop i x.cps.toList) == [a,b])=true↔_
 constructor
 ·rintro⟨h1,h2⟩
  have h2:List.take 2 (List.drop i x.cps.toList)=[a,b]:=eq_of_beq h2
  match e:List.drop i x.cps.toList,h2 with
  |p::q::t,h2=>cases h2;exact⟨t,rfl⟩
  |[p],h2=>cases h2
  |[],h2=>cases h2
 ·rintro⟨t,h⟩
  have h3:(List.drop i x.cps.toList).length=t.length+2:=by rw[h];rfl
  rw[zF] at h3
  refine⟨by lia,?_⟩
  rw[h];simp
theorem k9(l:List Nat):∀(n i:Nat),(∀k,i≤k→k<i+n→¬ ∃t,l.drop k=a::b::t)→rep2 a b z (l.drop i)=(l.drop i).take n++rep2 a b z (l.drop (i+n))
 |0,i,_=>rfl
 |n+1,i,h=>by
  have h0:=h i (zi _) (by lia)
  have ih:=k9 (z:=z) l n (i+1) fun k h1 h2=>h k (by lia) (by lia)
  rw[show i+(n+1)=i+1+n by lia]
  cases e:l.drop i with
  |nil =>
   have e1:l.drop (i+1+n)=[]:=List.drop_eq_nil_of_le (by have:=List.drop_eq_nil_iff.mp e;lia)
   rw[e1];rfl
  |cons x t =>
   have e1:l.drop (i+1)=t:=by rw[show l.drop (i+1)=(l.drop i).drop 1 from (List.drop_drop ..).symm,e];rfl
   rw[e1] at ih
   rw[ya,yf,← ih]
   cases t with
   |nil=>rfl
   |cons y t =>
    rw[rep2,if_neg]
    rintro⟨rfl,rfl⟩
    exact h0 ⟨t,e⟩
theorem yZ(l:List Nat)(i:Nat)(h:∀k,i≤k→¬ ∃t,l.drop k=a::b::t):rep2 a b z (l.drop i)=l.drop i:=by
 rw[k9 l l.length i fun k h1 _=>h k h1,List.drop_eq_nil_of_le (show l.length≤i+l.length by lia),yg (by rw[zF];lia)]
 exact zE _
theorem HU(x:Str)(i j:Nat):(Builtin.Str.strSub x i j).cps.toList=(x.cps.toList.drop i).take (j - i):=PySem.StrLaws.strSub_toList x i j
theorem ng{x z:Str}{a b:Nat} : ∀(Lv:List Nat) (i f:Nat),PySem.StrLaws.ChainG x ⟨#[a,b]⟩ x.length i Lv f→(∀k,f≤k→¬ PySem.StrLaws.At x ⟨#[a,b]⟩ x.length k)→(z.join (PySem.StrLaws.partsFrom x 2 i Lv)).cps.toList=rep2 a b z.cps.toList (x.cps.toList.drop i)
 |[],i,f,hc,hf=>by
  have hc:f=i:=hc
  subst hc
  have hl:x.length=x.cps.toList.length:=zV.symm
  show (z.join [Builtin.Str.strSub x f x.length]).cps.toList=_
  rw[join_one,HU,yZ _ _ fun k hk q=>hf k hk (at2.mpr q),yg (by rw[zF];lia)]
 |c::r,i,f,hc,hf=>by
  obtain⟨h1,h2,h3,h4⟩:=(show i≤c∧PySem.StrLaws.At x ⟨#[a,b]⟩ x.length c∧(∀k,i≤k→k<c→¬ PySem.StrLaws.At x ⟨#[a,b]⟩ x.length k)∧PySem.StrLaws.ChainG x ⟨#[a,b]⟩ x.length (c+2) r f from hc)
  have ih:=ng (z:=z) r (c+2) f h4 hf
  obtain⟨t,ht⟩:=at2.mp h2
  have e2:x.cps.toList.drop (c+2)=t:=by rw[show x.cps.toList.drop (c+2)=(x.cps.toList.drop c).drop 2 from (List.drop_drop ..).symm,ht];rfl
  have e3:=k9 (a:=a) (b:=b) (z:=z.cps.toList) x.cps.toList (c - i) i fun k g1 g2 q=>h3 k g1 (by lia) (at2.mpr q)
  rw[show i+(c - i)=c by lia,ht,j4,← e2,← ih] at e3
  rw[e3]
  show (z.join (Builtin.Str.strSub x i c::PySem.StrLaws.partsFrom x 2 (c+2) r)).cps.toList=_
  have MU:∃p q,PySem.StrLaws.partsFrom x 2 (c+2) r=p::q:=by
   cases r with
   |nil=>exact⟨_,_,rfl⟩
   |cons d r=>exact⟨_,_,rfl⟩
  obtain⟨p,q,Pt⟩:=MU
  rw[Pt,yz,e_,e_,HU,zI]
theorem nh(x z:Str)(a b:Nat):(Txt.replace x ⟨#[a,b]⟩ z).cps.toList=rep2 a b z.cps.toList x.cps.toList:=by
 obtain⟨f,h1,h2⟩:=PySem.StrLaws.occ_tight x ⟨#[a,b]⟩ (by show 1≤2;decide)
 have h3:=ng (z:=z) _ 0 f h1 h2
 rw[yo] at h3
 unfold Txt.replace
 by_cases h:((Builtin.Str.occurrences x ⟨#[a,b]⟩ 0 x.length (x.length+1)).isEmpty || (⟨#[a,b]⟩:Str).length == 0 && z.length == 0)=true
 ·rw[if_pos h]
  have h:(Builtin.Str.occurrences x ⟨#[a,b]⟩ 0 x.length (x.length+1)).isEmpty=true:=by
   rw[show ((⟨#[a,b]⟩:Str).length == 0)=false from rfl,zl,Bool.or_false] at h;exact h
  rw[List.isEmpty_iff.mp h] at h3
  rw[← h3]
  show _=(z.join [Builtin.Str.strSub x 0 x.length]).cps.toList
  rw[join_one,HU,yo,yg (by rw[zV];exact zi _)]
 ·rw[if_neg h,PySem.StrLaws.glued_eq_join,PySem.StrLaws.partsBetween_eq]
  exact h3
def vd(v:Str):Str:=Txt.replace (Txt.replace v "=" "=e") " " "=b"
def wO(v:Str):Str:=Txt.replace (Txt.replace v "=b" " ") "=e" "="
theorem ni(v:Str):(vd v).cps.toList=bI 32 [61,98] (bI 61 [61,101] v.cps.toList):=by
 unfold vd
 rw[show (" " : Str)=⟨#[32]⟩ by trivial,rep1,show ("=" : Str)=⟨#[61]⟩ by trivial,rep1]
 rw[show ("=b" : Str).cps.toList=[61,98] by trivial,show ("=e" : Str).cps.toList=[61,101] by trivial]
theorem mF(v:Str):(wO v).cps.toList=rep2 61 101 [61] (rep2 61 98 [32] v.cps.toList):=by
 unfold wO
 rw[show ("=e" : Str)=⟨#[61,101]⟩ by trivial,nh,show ("=b" : Str)=⟨#[61,98]⟩ by trivial,nh]
 rw[show ("=" : Str).cps.toList=[61] by trivial,show (" " : Str).cps.toList=[32] by trivial]
theorem wQ:∀l:List Nat,rep2 61 98 [32] (bI 32 [61,98] (bI 61 [61,101] l))=bI 61 [61,101] l
 |[]=>rfl
 |c::l=>by
  have ih:=wQ l
  rw[bg 61]
  by_cases h:c=61
  ·subst h
   rw[if_pos rfl,cT,show bI 32 [61,98] [61,101]=[61,101] from rfl]
   show rep2 61 98 [32] (61::101::bI 32 [61,98] (bI 61 [61,101] l))=_
   rw[BO (by decide),qx (by decide),ih];rfl
  ·rw[if_neg h,cT]
   by_cases h2:c=32
   ·subst h2
    show rep2 61 98 [32] (61::98::bI 32 [61,98] (bI 61 [61,101] l))=_
    rw[j4,ih]
   ·rw[show bI 32 [61,98] [c]=[c] by rw[bg,if_neg h2];rfl]
    show rep2 61 98 [32] (c::bI 32 [61,98] (bI 61 [61,101] l))=_
    rw[qx h,ih];rfl
theorem wR:∀l:List Nat,rep2 61 101 [61] (bI 61 [61,101] l)=l
 |[]=>rfl
 |c::l=>by
  have ih:=wR l
  rw[bg]
  by_cases h:c=61
  ·subst h
   rw[if_pos rfl]
   show rep2 61 101 [61] (61::101::bI 61 [61,101] l)=_
   rw[j4,ih];rfl
  ·rw[if_neg h]
   show rep2 61 101 [61] (c::bI 61 [61,101] l)=_
   rw[qx h,ih]
def uD(n:Nat):List Nat:=(Nat.toDigits 10 n).map Char.toNat
theorem BP(h:d<10):d.digitChar.toNat=48+d:=by
 match d,h with
 |0,_=>rfl
 |1,_=>rfl
 |2,_=>rfl
 |3,_=>rfl
 |4,_=>rfl
 |5,_=>rfl
 |6,_=>rfl
 |7,_=>rfl
 |8,_=>rfl
 |9,_=>rfl
theorem eD(h:n<10):uD n=[48+n]:=by unfold uD;rw[Nat.toDigits_of_lt_base h];show [n.digitChar.toNat]=_;rw[BP h]
theorem wU(h:10≤n):uD n=uD (n / 10)++[48+n % 10]:=by
 unfold uD;rw[Nat.toDigits_of_base_le (by decide) h,zT]
 show _++[(n % 10).digitChar.toNat]=_
 rw[BP (Nat.mod_lt _ (by decide))]
theorem BQ:∀n:Nat,NumText.AllDigits (uD n)∧uD n≠[]∧NumText.digitsVal (uD n)=n:=by
 intro n
 induction n using Nat.strongRecOn with
 |ind n ih =>
  by_cases h:n<10
  ·rw[eD h]
   refine⟨fun c hc=>?_,nofun,?_⟩
   ·rw[zM.mp hc];lia
   ·show 0 * 10+(48+n - 48)=n;lia
  ·obtain⟨h1,h2,h3⟩:=ih (n / 10) (by lia)
   rw[wU (by lia)]
   refine⟨fun c hc=>?_,by simp,?_⟩
   ·rcases zW.mp hc with hc|hc
    ·exact h1 c hc
    ·rw[zM.mp hc];lia
   ·rw[NumText.digitsVal_snoc,h3];lia
theorem wV(hk:1≤k)(h:n<10 ^ k):(uD n).length≤k:=by
 unfold uD;rw[za];exact toDigits_len_pow (by decide) hk h
def fK(n:Int):Str:=Str.ofString (toString n)
theorem ji(s:String):(Str.ofString s).cps.toList=s.toList.map Char.toNat:=by
 rw[Str.ofString_eq_toList]
 try simp
theorem qy(n:Nat):(fK (n:Int)).cps.toList=uD n:=by
 unfold fK
 rw[ji]
 show (Nat.repr n).toList.map Char.toNat=_
 rw[Nat.repr_eq_ofList_toDigits,String.toList_ofList];rfl
theorem qz(n:Nat):(fK (-((n+1:Nat):Int))).cps.toList=45::uD (n+1):=by
 unfold fK
 rw[ji]
 show (("-" ++ Nat.repr (n+1)).toList.map Char.toNat)=_
 rw[String.toList_append,zT,Nat.repr_eq_ofList_toDigits]
 show 45::((String.ofList (Nat.toDigits 10 (n+1))).toList.map Char.toNat)=_
 rw[String.toList_ofList];rfl
theorem wW(n:Int):(∃m:Nat,n=m∧(fK n).cps.toList=uD m)∨∃m:Nat,n = -((m+1:Nat):Int)∧(fK n).cps.toList=45::uD (m+1):=by
 cases n with
 |ofNat m=>exact .inl ⟨m,rfl,qy m⟩
 |negSucc m=>exact .inr ⟨m,rfl,qz m⟩
theorem ag(z:Str):z.cps.size=z.cps.toList.length:=zV.symm
theorem j5(h:n.natAbs<10 ^ 60):(fK n).cps.size≤61:=by
 rw[ag]
 rcases wW n with ⟨m,rfl,e⟩|⟨m,rfl,e⟩
 ·rw[e];have:=wV (k:=60) (by decide) (show m<10 ^ 60 from h);lia
 ·rw[e,zb]
  have:=wV (k:=60) (by decide) (show m+1<10 ^ 60 from h)
  lia
theorem y0(n:Int):∀c∈(fK n).cps.toList,c=45∨(48≤c∧c≤57):=by
 rcases wW n with ⟨m,rfl,e⟩|⟨m,rfl,e⟩
 ·rw[e];exact fun c hc=>.inr ((BQ m).1 c hc)
 ·rw[e]
  intro c hc
  rcases zc.mp hc with h|h
  ·exact .inl h
  ·exact .inr ((BQ (m+1)).1 c h)
theorem qA{n:Int}(h:n.natAbs<10 ^ 60):n.natAbs.log2<1920:=by
 by_cases h0:n.natAbs=0
 ·rw[h0];decide
 ·rw[Nat.log2_lt h0]
  exact zo h (by trivial)
theorem AN(h:1≤z.cps.size):(Txt.slice z (some 1) none).cps.toList=z.cps.toList.drop 1:=by
 rw[ag] at h
 have:=PySem.StrLaws.sliceText_from (x:=z) (i:=1) ⟨by decide,by lia⟩
 have e:Txt.slice z (some 1) none=PySem.StrLaws.sliceText z (some 1) none:=rfl
 rw[e,this]
 show List.take (((z.cps.toList.length:Nat):Int) - 1).toNat (List.drop 1 z.cps.toList)=_
 rw[yg (by rw[zF];lia)]
theorem fh(z:Str)(c:Nat):Txt.startswith z ⟨#[c]⟩=decide (z.cps.toList.head?=some c):=by
 unfold Txt.startswith
 rw[PySem.StrLaws.subAt_eq]
 show (decide (0+1≤z.cps.size) && (List.take 1 (List.drop 0 z.cps.toList) == [c]))=_
 rw[ag,yo]
 cases z.cps.toList with
 |nil=>rfl
 |cons a l =>
  rw[ya,yx,List.head?_cons]
  by_cases h:a=c <;> simp [h]
theorem sM:∀{a b r r':List Nat},c∉a→c∉b→a++c::r=b++c::r'→a=b∧r=r'
 |[],[],r,r',_,_,h=>by cases h;exact⟨rfl,rfl⟩
 |[],y::b,r,r',_,hb,h=>by cases h;exact absurd zf hb
 |x::a,[],r,r',ha,_,h=>by cases h;exact absurd zf ha
 |x::a,y::b,r,r',ha,hb,h=>by
  injection h with h1 h2
  obtain⟨e1,e2⟩:=sM (fun m=>ha (zd _ m)) (fun m=>hb (zd _ m)) h2
  exact⟨by rw[h1,e1],e2⟩
theorem qB:∀{a b r:List Nat},c∉b→a++c::r≠b
 |[],b,r,hb,h=>hb (by rw[← h];exact zf)
 |x::a,[],r,_,h=>by cases h
 |x::a,y::b,r,hb,h=>by
  injection h with _ h2
  exact qB (fun m=>hb (zd _ m)) h2
theorem sN:∀{ps qs:List Str},ps≠[]→qs≠[]→(∀p∈ps,c∉p.cps.toList)→(∀p∈qs,c∉p.cps.toList)→(⟨#[c]⟩:Str).join ps=(⟨#[c]⟩:Str).join qs→ps=qs
 |[],_,h,_,_,_,_=>absurd rfl h
 |_,[],_,h,_,_,_=>absurd rfl h
 |[p],[q],_,_,_,_,h=>by rw[join_one,join_one] at h;rw[h]
 |[p],q::q'::r,_,_,hp,_,h=>by
  rw[join_one,yz] at h
  have h:=congrArg (fun s:Str=>s.cps.toList) h
  rw[e_,e_,zI] at h
  exact absurd h.symm (qB (hp p zf))
 |p::p'::r,[q],_,_,_,hq,h=>by
  rw[join_one,yz] at h
  have h:=congrArg (fun s:Str=>s.cps.toList) h
  rw[e_,e_,zI] at h
  exact absurd h (qB (hq q zf))
 |p::p'::r,q::q'::r',_,_,hp,hq,h=>by
  rw[yz,yz] at h
  have h:=congrArg (fun s:Str=>s.cps.toList) h
  rw[e_,e_,e_,e_,zI,zI] at h
  obtain⟨e1,e2⟩:=sM (hp p zf) (hq q zf) h
  rw[oM e1,sN (c:=c) (ps:=p'::r) (qs:=q'::r') nofun nofun (fun x hx=>hp x (zd _ hx)) (fun x hx=>hq x (zd _ hx)) (oM e2)]
end L2
namespace HT
open PySem PySem.Spec PyProof.Rows
section
variable{prog:Program}{w:World}{A:Around}{E:Value→Shared→Prop}{s:Shared}
end
end HT
namespace L2
open PySem PySem.Spec PyProof.Rows
section
variable{K:Frag}{X:Cx}
def Lw:uC:=fun x ds S R=>∃a es fs,x=.ref a∧ds=[.tup fs]∧S a=some (.lst es)∧es.length+fs.length≤sizeLine∧R .aK (S.set a (.lst (es++fs)))
theorem y1:AO K "list.extend" Lw:=by
 rintro X hK pins s σ H x xs v us Q I rx rs ⟨d,ds,S,R,r1,r2,hS,⟨a,es,fs,e1,e2,e3,hl,h⟩,hR⟩
 subst e1 e2
 obtain⟨w0,rfl,q2⟩:=r2.one
 obtain⟨zs,e5,t⟩:=hS.lst e3
 obtain⟨p,ys,rfl,q,t2⟩:=q2.tup
 exact uY pins s σ H x _ v us Q I rx rs ⟨a,p,zs,ys,r1.ref,rfl,e5,q,by rw[t.len,t2.len];exact hl,hR.put hS e3 h kZ (t.app t2)⟩
end
theorem canon:∀(n:Nat) (l:List Nat),l.length=n→NumText.AllDigits l→l≠[]→(uD (NumText.digitsVal l)=l↔(l=[48]∨l.head?≠some 48)):=by
 intro n
 induction n with
 |zero=>intro l hl _ h0;exact absurd (zD hl) h0
 |succ n ih =>
  intro l hl hd h0
  obtain⟨l',c,rfl⟩:∃l' c,l=l'++[c]:=⟨l.dropLast,l.getLast h0,(List.dropLast_concat_getLast h0).symm⟩
  have hc:=hd c (zP _ (zM.mpr rfl))
  have Nq:NumText.AllDigits l':=fun x hx=>hd x (yd _ hx)
  rw[NumText.digitsVal_snoc]
  cases l' with
  |nil =>
   rw[show NumText.digitsVal [] * 10+(c - 48)=c - 48 by show 0 * 10+_=_;lia,eD (by lia),show 48+(c - 48)=c by lia]
   refine⟨fun _=>?_,fun _=>rfl⟩
   by_cases h:c=48
   ·rw[h];exact .inl rfl
   ·exact .inr fun e=>h (by injection e)
  |cons a r =>
   have Jy:(a::r).length=n:=by rw[zg] at hl;exact Nat.succ.inj hl
   have ih:=ih (a::r) Jy Nq nofun
   have MU:(a::r)++[c]≠[48]:=fun e=>by
    have:=congrArg List.length e
    rw[zg] at this
    exact absurd this (by simp)
   have hh:((a::r)++[c]).head?=some a:=rfl
   have ha:=hd a (yd _ zf)
   by_cases hz:NumText.digitsVal (a::r)=0
   ·rw[hz,show 0 * 10+(c - 48)=c - 48 by lia,eD (by lia)]
    rw[hz,eD (by decide)] at ih
    constructor
    ·intro e
     have:=congrArg List.length e
     rw[zg] at this
     exact absurd this (by simp)
    ·rintro (e|e)
     ·exact absurd e MU
     ·rw[hh] at e
      have h2:=ih.mpr (.inr fun q=>e q)
      injection h2 with h2 _
      exact absurd (by rw[← h2]) e
   ·rw[wU (by lia),show (NumText.digitsVal (a::r) * 10+(c - 48)) / 10=NumText.digitsVal (a::r) by lia,show 48+(NumText.digitsVal (a::r) * 10+(c - 48)) % 10=c by lia]
    constructor
    ·intro e
     have e1:=List.append_cancel_right e
     rcases ih.mp e1 with h|h
     ·rw[h] at hz;exact absurd rfl hz
     ·exact .inr h
    ·rintro (e|e)
     ·exact absurd e MU
     ·rw[ih.mpr (.inr e)]
def y3(l:List Nat)(most:Nat):Bool:=decide (1≤l.length) && (decide (l.length≤most) && (l.all (fun c=>decide (48≤c) && decide (c≤57)) && (decide (l=[48]) || !decide (l.head?=some 48))))
def bX(l:List Nat)(most:Nat):Bool:=decide (1≤l.length) && (decide (l.length≤most) && l.all (fun c=>decide (48≤c) && decide (c≤57)))
theorem qC(l:List Nat)(most:Nat):y3 l most=(bX l most && (decide (l=[48]) || !decide (l.head?=some 48))):=by
 unfold y3 bX
 rw[Bool.and_assoc,Bool.and_assoc]
theorem gb(h:bX l most=true):1≤l.length∧l.length≤most∧NumText.AllDigits l∧l≠[]:=by
 unfold bX at h
 simp only [zm,zx,zS] at h
 refine⟨h.1,h.2.1,fun c hc=>h.2.2 c hc,?_⟩
 intro e
 rw[e] at h
 exact absurd h.1 (by decide)
theorem pT(h:NumText.AllDigits l)(hl:l.length≤most):NumText.digitsVal l<10 ^ most:=by
 refine zo ?_ (Nat.pow_le_pow_right (by decide) hl)
 clear hl
 have:∀(n:Nat) (l:List Nat),l.length=n→NumText.AllDigits l→NumText.digitsVal l<10 ^ l.length:=by
  intro n
  induction n with
  |zero=>intro l hl _;rw[zD hl];exact Nat.one_pos
  |succ n ih =>
   intro l hl hd
   have h0:l≠[]:=fun e=>by rw[e] at hl;cases hl
   obtain⟨l',c,rfl⟩:∃l' c,l=l'++[c]:=⟨l.dropLast,l.getLast h0,(List.dropLast_concat_getLast h0).symm⟩
   have hc:=hd c (zP _ (zM.mpr rfl))
   have:=ih l' (by rw[zg] at hl;exact Nat.succ.inj hl) fun x hx=>hd x (yd _ hx)
   rw[NumText.digitsVal_snoc,zg,show [c].length=1 from rfl,Nat.pow_succ]
   lia
 exact this _ l rfl h
theorem sO(hm:most≤60)(h:bX z.cps.toList most=true):∃n:Int,intText? z=some n∧n.natAbs<10 ^ 60∧(decide (fK n=z)=(decide (z.cps.toList=[48]) || !decide (z.cps.toList.head?=some 48))):=by
 obtain⟨h1,h2,h3,h4⟩:=gb h
 refine⟨(NumText.digitsVal z.cps.toList:Nat),intText_digits h3 h4 (by show z.cps.size≤4300;rw[ag];lia),?_,?_⟩
 ·exact zo (pT h3 h2) (Nat.pow_le_pow_right (by decide) hm)
 ·have hc:=canon _ _ rfl h3 h4
  have hn:fK ((NumText.digitsVal z.cps.toList:Nat):Int)=z↔uD (NumText.digitsVal z.cps.toList)=z.cps.toList:=by
   rw[← qy]
   exact⟨fun e=>by rw[e],fun e=>oM e⟩
  rw[yt]
  simp only [zx,Bool.or_eq_true,Bool.not_eq_true',decide_eq_false_iff_not]
  rw[hn,hc]
theorem pU(e:z.cps.toList=45::l)(hm:most≤60)(h:bX l most=true):∃n:Int,intText? z=some n∧n.natAbs<10 ^ 60∧(decide (fK n=z)=(!decide (l=[48]) && (decide (l=[48]) || !decide (l.head?=some 48)))):=by
 obtain⟨h1,h2,h3,h4⟩:=gb h
 have hsz:z.length≤4300:=by show z.cps.size≤4300;rw[ag,e,zb];lia
 have hb:=zo (pT h3 h2) (Nat.pow_le_pow_right (n:=10) (by decide) hm)
 have hc:=canon _ _ rfl h3 h4
 refine⟨-((NumText.digitsVal l:Nat):Int),intText_neg e h3 h4 hsz,by lia,?_⟩
 rw[yt]
 simp only [zx,Bool.or_eq_true,zm,Bool.not_eq_true',decide_eq_false_iff_not]
 rw[← hc]
 cases hv:NumText.digitsVal l with
 |zero =>
  constructor
  ·intro q
   have q:=congrArg (fun s:Str=>s.cps.toList) q
   have q:(fK _).cps.toList=z.cps.toList:=q
   rw[show -((0:Nat):Int)=((0:Nat):Int) from rfl,qy,e,eD (by decide)] at q
   injection q with q _
   exact absurd q (by decide)
  ·rintro⟨q1,q2⟩
   rw[eD (by decide)] at q2
   exact absurd q2.symm q1
 |succ k =>
  constructor
  ·intro q
   have q:=congrArg (fun s:Str=>s.cps.toList) q
   have q:(fK _).cps.toList=z.cps.toList:=q
   rw[qz,e] at q
   injection q with _ q
   refine⟨fun q1=>?_,q⟩
   rw[q1] at hv
   cases hv
  ·rintro⟨_,q2⟩
   refine oM ?_
   rw[qz,e,q2]
def j6(l:List Nat):List Nat:=bI 32 [61,98] (bI 61 [61,101] l)
def y4(l:List Nat):List Nat:=rep2 61 101 [61] (rep2 61 98 [32] l)
theorem fL(c:Nat)(l:List Nat):j6 (c::l)=(if c=61 then [61,101] else if c=32 then [61,98] else [c])++j6 l:=by
 unfold j6
 rw[bg 61,cT]
 congr 1
 by_cases h:c=61
 ·rw[if_pos h,if_pos h];rfl
 ·rw[if_neg h,if_neg h,bg]
  by_cases h2:c=32
  ·rw[if_pos h2];rfl
  ·rw[if_neg h2];rfl
theorem BR(l:List Nat):y4 (j6 l)=l:=by unfold y4 j6;rw[wQ,wR]
def dec:List Nat→Option (List Nat)
 |[]=>some []
 |[c]=>if c=61 then none else if c=32 then none else some [c]
 |c::x::r=>if c=61 then (if x=98 then (dec r).map (32::·) else if x=101 then (dec r).map (61::·) else none) else if c=32 then none else (dec (x::r)).map (c::·)
theorem nj(h1:c≠61)(h2:c≠32)(r:List Nat):dec (c::r)=(dec r).map (c::·):=by
 cases r with
 |nil=>show (if c=61 then none else if c=32 then none else some [c])=_;rw[if_neg h1,if_neg h2];rfl
 |cons x r=>show (if c=61 then _ else if c=32 then none else (dec (x::r)).map (c::·))=_;rw[if_neg h1,if_neg h2]
theorem BS(r:List Nat):dec (61::98::r)=(dec r).map (32::·):=by show (if 61=61 then _ else _)=_;rw[if_pos rfl,if_pos rfl]
theorem BU(r:List Nat):dec (61::101::r)=(dec r).map (61::·):=by show (if 61=61 then _ else _)=_;rw[if_pos rfl,if_neg (by decide),if_pos rfl]
theorem BV(x:Nat)(r:List Nat)(h1:x≠98)(h2:x≠101):dec (61::x::r)=none:=by show (if 61=61 then _ else _)=_;rw[if_pos rfl,if_neg h1,if_neg h2]
theorem BW(r:List Nat):dec (32::r)=none:=by
 cases r with
 |nil=>rfl
 |cons x r=>show (if 32=61 then _ else if 32=32 then none else _)=_;rw[if_neg (by decide),if_pos rfl]
theorem wX:∀v:List Nat,dec (j6 v)=some v
 |[]=>rfl
 |c::v=>by
  have ih:=wX v
  rw[fL]
  by_cases h:c=61
  ·rw[if_pos h,h];show dec (61::101::j6 v)=_;rw[BU,ih];rfl
  ·rw[if_neg h]
   by_cases h2:c=32
   ·rw[if_pos h2,h2];show dec (61::98::j6 v)=_;rw[BS,ih];rfl
   ·rw[if_neg h2];show dec (c::j6 v)=_;rw[nj h h2,ih];rfl
theorem j7:∀(u v:List Nat),dec u=some v→u=j6 v
 |[],v,h=>by cases h;rfl
 |[c],v,h=>by
  have h:(if c=61 then none else if c=32 then none else some [c])=some v:=h
  by_cases h1:c=61
  ·rw[if_pos h1] at h;cases h
  ·rw[if_neg h1] at h
   by_cases h2:c=32
   ·rw[if_pos h2] at h;cases h
   ·rw[if_neg h2] at h;cases h
    rw[fL,if_neg h1,if_neg h2];rfl
 |c::x::r,v,h=>by
  by_cases h1:c=61
  ·subst h1
   by_cases h2:x=98
   ·subst h2
    rw[BS] at h
    cases e:dec r with
    |none=>rw[e] at h;cases h
    |some v' =>
     rw[e] at h;cases h
     rw[fL,if_neg (by decide),if_pos rfl,j7 r v' e];rfl
   ·by_cases h3:x=101
    ·subst h3
     rw[BU] at h
     cases e:dec r with
     |none=>rw[e] at h;cases h
     |some v' =>
      rw[e] at h;cases h
      rw[fL,if_pos rfl,j7 r v' e];rfl
    ·rw[BV x r h2 h3] at h;cases h
  ·by_cases h2:c=32
   ·rw[h2,BW] at h;cases h
   ·rw[nj h1 h2] at h
    cases e:dec (x::r) with
    |none=>rw[e] at h;cases h
    |some v' =>
     rw[e] at h;cases h
     rw[fL,if_neg h1,if_neg h2,← j7 (x::r) v' e];rfl
theorem Ex(u:List Nat):j6 (y4 u)=u↔dec u=some (y4 u) :=
 ⟨fun h=>by have:=wX (y4 u);rw[h] at this;exact this,fun h=>(j7 _ _ h).symm⟩
theorem HV(h:dec u=some v):y4 u=v:=by rw[j7 u v h,BR]
def spL:List Nat→List (List Nat)
 |[]=>[[]]
 |c::r=>if c=61 then []::spL r else match spL r with
  |[]=>[[c]]
  |p::ps=>(c::p)::ps
theorem eH:∀u:List Nat,∃p ps,spL u=p::ps
 |[]=>⟨_,_,rfl⟩
 |c::r=>by
  obtain⟨p,ps,e⟩:=eH r
  unfold spL
  by_cases h:c=61
  ·rw[if_pos h];exact⟨_,_,rfl⟩
  ·rw[if_neg h,e];exact⟨_,_,rfl⟩
theorem nk(r:List Nat):spL (61::r)=[]::spL r:=by rw[spL,if_pos rfl]
theorem nq(h:c≠61)(e:spL r=p::ps):spL (c::r)=(c::p)::ps:=by rw[spL,if_neg h,e]
theorem j8:∀(u p:List Nat),p∈spL u→61∉p
 |[],p,h=>by rw[zM.mp h];exact nofun
 |c::r,p,h=>by
  obtain⟨q,qs,e⟩:=eH r
  by_cases hc:c=61
  ·rw[hc,nk] at h
   rcases zc.mp h with h|h
   ·rw[h];exact nofun
   ·exact j8 r p h
  ·rw[nq hc e] at h
   rcases zc.mp h with h|h
   ·rw[h]
    intro m
    rcases zc.mp m with m|m
    ·exact hc m.symm
    ·exact j8 r q (by rw[e];exact zf) m
   ·exact j8 r p (by rw[e];exact zd _ h)
def bW(l:List Nat):Str:=⟨l.toArray⟩
theorem cq(l:List Nat):(bW l).cps.toList=l:=rfl
theorem sP:∀u:List Nat,((⟨#[61]⟩:Str).join ((spL u).map bW)).cps.toList=u
 |[]=>rfl
 |c::r=>by
  have ih:=sP r
  obtain⟨q,qs,e⟩:=eH r
  rw[e] at ih
  by_cases hc:c=61
  ·rw[hc,nk,e,zz,zz,yz,e_,e_]
   rw[zz] at ih
   rw[ih];rfl
  ·rw[nq hc e]
   cases qs with
   |nil =>
    rw[zz,List.map_nil,join_one] at ih ⊢
    rw[cq] at ih ⊢
    rw[ih]
   |cons q' qs =>
    rw[zz,zz,yz,e_,e_,cq] at ih ⊢
    rw[← ih];rfl
theorem sQ(z:Str):Txt.split z "=" = (spL z.cps.toList).map bW:=by
 have hb:("=" : Str)=⟨#[61]⟩:=by trivial
 rw[hb]
 obtain⟨q,qs,e⟩:=eH z.cps.toList
 refine sN (c:=61) ?_ (by rw[e];exact nofun) (fun p hp=>PySem.StrLaws.split_free _ 61 p hp) (fun p hp=>?_) ((PySem.StrLaws.join_split _ _).trans (oM (sP _)).symm)
 ·intro e
  have:=split_pos z ⟨#[61]⟩
  rw[e] at this
  exact absurd this (by decide)
 ·obtain⟨l,hl,rfl⟩:=zC.mp hp
  exact j8 _ l hl
def oN(p:List Nat):Bool:=decide (p.head?=some 98) || decide (p.head?=some 101)
def fM(u:List Nat):List Nat:=(spL u).headD []++(spL u).tail.flatMap (List.drop 1)
theorem qD:∀u:List Nat,((∃v,dec u=some v)↔((spL u).tail.all oN=true∧32∉fM u))∧∀v,dec u=some v→(fM u).length+(spL u).tail.length=v.length∧(∀c∈fM u,c∈v)∧∀c∈v,c=32∨c=61∨c∈fM u
 |[]=>⟨⟨fun _=>⟨rfl,nofun⟩,fun _=>⟨[],rfl⟩⟩,fun v h=>by cases h;exact⟨rfl,nofun,nofun⟩⟩
 |c::r=>by
  by_cases h1:c=61
  ·subst h1
   match r with
   |[] =>
    refine⟨⟨by rintro⟨v,h⟩;exact (by cases h),fun ⟨h,_⟩=>?_⟩,fun v h=>by cases h⟩
    exact absurd h (by decide)
   |x::r =>
    obtain⟨p,ps,e⟩:=eH r
    by_cases hx:x=98∨x=101
    ·have Pu:x≠61:=by rcases hx with rfl|rfl <;> decide
     have es:spL (61::x::r)=[]::(x::p)::ps:=by rw[nk,nq Pu e]
     have eb:fM (61::x::r)=fM r:=by
      unfold fM;rw[es,e];show []++((x::p)::ps).flatMap (List.drop 1)=_
      rw[List.nil_append,yq];rfl
     have et:(spL (61::x::r)).tail.all oN=(spL r).tail.all oN:=by
      rw[es,e];show (((x::p)::ps).all oN)=ps.all oN
      rw[zY]
      have:oN (x::p)=true:=by rcases hx with rfl|rfl <;> rfl
      rw[this,zq]
     have el:(spL (61::x::r)).tail.length=(spL r).tail.length+1:=by rw[es,e];rfl
     obtain⟨i1,i2⟩:=qD r
     rw[eb,et,el,← i1]
     obtain⟨y,hy,ed⟩:∃y,(y=32∨y=61)∧dec (61::x::r)=(dec r).map (y::·):=by
      rcases hx with rfl|rfl
      ·exact⟨32,.inl rfl,BS r⟩
      ·exact⟨61,.inr rfl,BU r⟩
     rw[ed]
     constructor
     ·constructor
      ·rintro⟨v,h⟩
       cases q:dec r with
       |none=>rw[q] at h;cases h
       |some v'=>exact⟨v',rfl⟩
      ·rintro⟨v,h⟩;rw[h];exact⟨_,rfl⟩
     ·intro v h
      cases q:dec r with
      |none=>rw[q] at h;cases h
      |some v' =>
       rw[q] at h;cases h
       obtain⟨a,b,d⟩:=i2 v' q
       refine⟨by rw[zb];lia,fun c hc=>zd _ (b c hc),fun c hc=>?_⟩
       rcases zc.mp hc with hc|hc
       ·rcases hy with hy|hy
        ·exact .inl (hc.trans hy)
        ·exact .inr (.inl (hc.trans hy))
       ·exact d c hc
    ·have OD:x≠98:=fun h=>hx (.inl h)
     have MI:x≠101:=fun h=>hx (.inr h)
     have Dk:(spL (61::x::r)).tail.all oN=false:=by
      rw[nk]
      show (spL (x::r)).all oN=false
      by_cases Q4:x=61
      ·rw[Q4,nk,zY];rfl
      ·rw[nq Q4 e,zY]
       have:oN (x::p)=false:=by
        unfold oN;rw[List.head?_cons]
        rw[zh (fun q=>OD (by injection q)),zh (fun q=>MI (by injection q))];rfl
       rw[this,zl]
     rw[BV x r OD MI,Dk]
     exact⟨⟨by rintro⟨v,h⟩;exact (by cases h),by rintro⟨h,_⟩;exact (by cases h)⟩,fun v h=>by cases h⟩
  ·obtain⟨p,ps,e⟩:=eH r
   have es:=nq h1 e
   have eb:fM (c::r)=c::fM r:=by unfold fM;rw[es,e];rfl
   have et:(spL (c::r)).tail=(spL r).tail:=by rw[es,e];rfl
   obtain⟨i1,i2⟩:=qD r
   rw[eb,et]
   by_cases h2:c=32
   ·rw[h2,BW]
    exact⟨⟨by rintro⟨v,h⟩;exact (by cases h),by rintro⟨_,h⟩;exact absurd zf h⟩,fun v h=>by cases h⟩
   ·rw[nj h1 h2]
    constructor
    ·constructor
     ·rintro⟨v,h⟩
      cases q:dec r with
      |none=>rw[q] at h;cases h
      |some v' =>
       obtain⟨a,b⟩:=i1.mp ⟨v',q⟩
       refine⟨a,fun m=>?_⟩
       rcases zc.mp m with m|m
       ·exact h2 m.symm
       ·exact b m
     ·rintro⟨a,b⟩
      obtain⟨v,h⟩:=i1.mpr ⟨a,fun m=>b (zd _ m)⟩
      rw[h];exact⟨_,rfl⟩
    ·intro v h
     cases q:dec r with
     |none=>rw[q] at h;cases h
     |some v' =>
      rw[q] at h;cases h
      obtain⟨a,b,d⟩:=i2 v' q
      refine⟨by rw[zb,zb];lia,fun x hx=>?_,fun x hx=>?_⟩
      ·rcases zc.mp hx with hx|hx
       ·rw[hx];exact zf
       ·exact zd _ (b x hx)
      ·rcases zc.mp hx with hx|hx
       ·exact .inr (.inr (by rw[hx];exact zf))
       ·rcases d x hx with h|h|h
        ·exact .inl h
        ·exact .inr (.inl h)
        ·exact .inr (.inr (zd _ h))
def BX(u:List Nat):Bool:=decide (j6 (y4 u)=u) && (decide ((y4 u).length≤40) && (y4 u).all fun c=>decide (32≤c) && decide (c≤126))
def BY(u:List Nat):Bool:=(spL u).tail.all oN && (decide ((fM u).length+(spL u).tail.length≤40) && (fM u).all fun c=>decide (33≤c) && decide (c≤126))
theorem Ey(u:List Nat):BX u=BY u:=by
 obtain⟨h1,h2⟩:=qD u
 unfold BX BY
 rw[yt]
 simp only [zm,zx,zS,Ex]
 constructor
 ·rintro⟨a,b,c⟩
  obtain⟨k1,k2,k3⟩:=h2 _ a
  obtain⟨j1,j2⟩:=h1.mp ⟨_,a⟩
  refine⟨zS.mp j1,by lia,fun x hx=>?_⟩
  have:=c x (k2 x hx)
  have:x≠32:=fun e=>j2 (by rw[← e];exact hx)
  lia
 ·rintro⟨a,b,c⟩
  obtain⟨v,hv⟩:=h1.mpr ⟨zS.mpr a,fun m=>by have:=c 32 m;lia⟩
  have e:=HV hv
  obtain⟨k1,k2,k3⟩:=h2 _ hv
  rw[e]
  refine⟨hv,by lia,fun x hx=>?_⟩
  rcases k3 x hx with h|h|h
  ·lia
  ·lia
  ·have:=c x h;lia
theorem nr(z:Str)(k:Nat):(Txt.slice z none (some (k:Int))).cps.toList=z.cps.toList.take k:=by
 have e0:∀o,Txt.slice z none o=PySem.StrLaws.sliceText z none o:=fun _=>rfl
 by_cases h:k≤z.cps.toList.length
 ·rw[e0,PySem.StrLaws.sliceText_to ⟨by lia,by lia⟩,yo]
  show List.take (((k:Nat):Int) - 0).toNat z.cps.toList=_
  congr 1
 ·have e:Txt.slice z none (some (k:Int))=Txt.slice z none (some (z.cps.toList.length:Int)):=by
   unfold Txt.slice
   have hl:z.length=z.cps.toList.length:=by show z.cps.size=_;exact ag z
   have ei:Builtin.Str.strSliceIndices none (some (k:Int)) 1 z.length=Builtin.Str.strSliceIndices none (some (z.cps.toList.length:Int)) 1 z.length:=by
    rw[hl]
    unfold Builtin.Str.strSliceIndices
    have a1:¬ ((k:Int)<0):=by lia
    have a2:¬ (((z.cps.toList.length:Nat):Int)<0):=by lia
    simp only [if_neg a1,if_neg a2]
    have m1:min (k:Int) ((z.cps.toList.length:Nat):Int)=min ((z.cps.toList.length:Nat):Int) ((z.cps.toList.length:Nat):Int):=by lia
    rw[m1]
    rfl
   rw[ei]
  rw[e,e0,PySem.StrLaws.sliceText_to ⟨by lia,by lia⟩,yo]
  show List.take (((z.cps.toList.length:Nat):Int) - 0).toNat z.cps.toList=_
  rw[yg (by lia),yg (by lia)]
theorem gf(z:Str)(k:Nat):(Txt.slice z (some (k:Int)) none).cps.toList=z.cps.toList.drop k:=by
 have e0:∀o,Txt.slice z o none=PySem.StrLaws.sliceText z o none:=fun _=>rfl
 by_cases h:k≤z.cps.toList.length
 ·rw[e0,PySem.StrLaws.sliceText_from ⟨by lia,by lia⟩]
  show List.take (((z.cps.toList.length:Nat):Int) - ((k:Nat):Int)).toNat (List.drop ((k:Nat):Int).toNat z.cps.toList)=_
  rw[Int.toNat_natCast,yg (by rw[zF];lia)]
 ·have e:Txt.slice z (some (k:Int)) none=Txt.slice z (some (z.cps.toList.length:Int)) none:=by
   unfold Txt.slice
   have hl:z.length=z.cps.toList.length:=by show z.cps.size=_;exact ag z
   have ei:Builtin.Str.strSliceIndices (some (k:Int)) none 1 z.length=Builtin.Str.strSliceIndices (some (z.cps.toList.length:Int)) none 1 z.length:=by
    rw[hl]
    unfold Builtin.Str.strSliceIndices
    have a1:¬ ((k:Int)<0):=by lia
    have a2:¬ (((z.cps.toList.length:Nat):Int)<0):=by lia
    simp only [if_neg a1,if_neg a2]
    have m1:min (k:Int) ((z.cps.toList.length:Nat):Int)=min ((z.cps.toList.length:Nat):Int) ((z.cps.toList.length:Nat):Int):=by lia
    rw[m1]
    rfl
   rw[ei]
  rw[e,e0,PySem.StrLaws.sliceText_from ⟨by lia,by lia⟩]
  show List.take (((z.cps.toList.length:Nat):Int) - ((z.cps.toList.length:Nat):Int)).toNat (List.drop ((z.cps.toList.length:Nat):Int).toNat z.cps.toList)=_
  rw[Int.toNat_natCast,List.drop_length,List.take_nil,List.drop_eq_nil_of_le (by lia)]
section
variable{X:Cx}{N:List Str}{src:List (Option Nat)}{scope:Scope}{tg iter elt:Expr}{ifs:List Expr}{pos:Pos}{wi:TI}{g:TG}{tc:TT}{te:TE}
end
section
variable{K:Frag}{X:Cx}{E:XK}{pos:Pos}
structure V3(K:Frag)(X:Cx)(E:XK)(e:Expr)(t:TD):Prop where
 of:∀(y:Ev X true),y.E=(fun _=>E)→cR y.cx E→PE y.cx e (T K y.E t)
structure V4(K:Frag)(X:Cx)(E:XK)(es:List Expr)(t:oq):Prop where
 of:∀(y:Ev X true),y.E=(fun _=>E)→cR y.cx E→PA y.cx es (Ta K y.E t)
structure V5(K:Frag)(X:Cx)(E:XK)(b:List Stmt)(t:kN):Prop where
 of:∀(y:Ev X true),y.E=(fun _=>E)→cR y.cx E→uH y.cx b (Tl K y.E t)
variable{N:List Str}{src:List (Option Nat)}{scope:Scope}{tg iter elt:Expr}{ifs:List Expr}{ti:AQ}{g:TG}{gd:wL}{tc:oo}{te:TD}
end
section
variable{P:Program}{w:World}{K:Frag}{mg:Str→Option Value}{base:Heap}
end
section
variable{prog:Program}{w:World}{A:Around}{E:Value→Shared→Prop}{s:Shared}{n l0 l1:Nat}{i:Nat}{OJ OK:Array Value}
end
section
variable{K:Frag}{X:Cx}
end
open PySem.Builtin PySem.Builtin.Str
def bL(x y z:Str):Str :=
 if ((occurrences x y 0 x.length 1).isEmpty || (y.length == 0 && z.length == 0))=true then x
 else glued z (partsBetween x (occurrences x y 0 x.length 1) y.length)
theorem nv(x y z:Str)(t u v k:Tok)
  (hf:((occurrences x y 0 x.length 1).isEmpty || (y.length == 0 && z.length == 0))=false→(u == 0 || v == 0)=false∧(u == v)=false∧(y == z)=false∧tooLong (x.length+(occurrences x y 0 x.length 1).length * z.length)=false) :
  Gives («str.replace» ⟨[.str x t,.str y u,.str z v,.int 1 k],[]⟩) (if ((occurrences x y 0 x.length 1).isEmpty || (y.length == 0 && z.length == 0))=true then .val (.str x t) else .str (glued z (partsBetween x (occurrences x y 0 x.length 1) y.length))):=by
 have D7:countLimit "str.replace" (some (.int 1 k)) (x.length+1)=pure 1:=countLimit_int "str.replace" 1 k (x.length+1) (by decide)
 show Gives (countLimit "str.replace" (some (.int 1 k)) (x.length+1) >>= fun limit=>if ((occurrences x y 0 x.length limit).isEmpty || (y.length == 0 && z.length == 0))=true then (do rule "str.replace.nothing";ret (.str x t)) else (do let same ← isSame (.str y u) (.str z v);if same=true then (do rule "str.replace.old-is-new";ret (.str x t)) else if tooLong (x.length+(occurrences x y 0 x.length limit).length * z.length)=true then unsupported "str.replace:memory" else retStr (glued z (partsBetween x (occurrences x y 0 x.length limit) y.length)))) _
 rw[D7]
 show Gives (if ((occurrences x y 0 x.length 1).isEmpty || (y.length == 0 && z.length == 0))=true then (do rule "str.replace.nothing";ret (.str x t)) else (do let same ← isSame (.str y u) (.str z v);if same=true then (do rule "str.replace.old-is-new";ret (.str x t)) else if tooLong (x.length+(occurrences x y 0 x.length 1).length * z.length)=true then unsupported "str.replace:memory" else retStr (glued z (partsBetween x (occurrences x y 0 x.length 1) y.length)))) _
 cases hc:((occurrences x y 0 x.length 1).isEmpty || (y.length == 0 && z.length == 0))
 ·obtain⟨h0,Px,BN,hl⟩:=hf hc
  rw[isSame_str_other y z u v h0 Px BN,hl]
  exact .of_eq rfl
 ·exact .rule (.of_eq rfl)
theorem FY(y:Str):(glued z (partsBetween x (occurrences x y 0 x.length 1) y.length)).length≤x.length+z.length:=by
 have h1:=StrLaws.occ_length_le x y 0 x.length 1
 have hy:(glued y (partsBetween x (occurrences x y 0 x.length 1) y.length)).length=x.length:=by rw[StrLaws.glued_between_self]
 rw[size_glued,length_partsBetween,Nat.add_sub_cancel] at hy
 rw[size_glued,length_partsBetween,Nat.add_sub_cancel]
 have h2:(occurrences x y 0 x.length 1).length * z.length≤1 * z.length:=Nat.mul_le_mul_right _ h1
 lia
theorem ve(x y z:Str):(bL x y z).length≤x.length+z.length:=by
 unfold bL
 split
 ·lia
 ·exact FY y
theorem vf(x y z:Str):∀c∈(bL x y z).cps.toList,c∈x.cps.toList∨c∈z.cps.toList:=by
 unfold bL
 split
 ·exact fun c h=>.inl h
 ·intro c h
  rw[StrLaws.glued_eq_join,mem_join] at h
  rcases h with ⟨p,hp,hc⟩|⟨_,hc⟩
  ·left
   have e:=StrLaws.glued_between_self x y 1
   rw[StrLaws.glued_eq_join] at e
   rw[← e,mem_join]
   exact .inl ⟨p,hp,hc⟩
  ·exact .inr hc
theorem oO(hu:u≠0)(hv:v≠0)(Px:u≠v)(BN:(y == z)=false)(hb:x.length+z.length≤1000000)
  (hq:∀t' k,Q (.str (bL x y z) t') { s with toks:=k }):wpAny (model prog w) A (call (.builtin "str.replace") [.str x t,.str y u,.str z v,.int 1 k]) Q E s:=by
 have h1:=StrLaws.occ_length_le x y 0 x.length 1
 have h2:(occurrences x y 0 x.length 1).length * z.length≤1 * z.length:=Nat.mul_le_mul_right _ h1
 have hl:tooLong (x.length+(occurrences x y 0 x.length 1).length * z.length)=false:=by
  unfold tooLong
  exact zh (by rw[yn];lia)
 refine call_gives F.slot_str_replace (typeIs_str _ _ _) F.entry_str_replace (F.args_str_replace_4 _ _ _ _)
  (nv x y z t u v k fun _=>⟨by simp [hu,hv],by simp [Px],BN,hl⟩) ?_
 have BE:=hq
 unfold bL at BE
 cases hc:((occurrences x y 0 x.length 1).isEmpty || (y.length == 0 && z.length == 0))
 ·rw[hc] at BE
  simp only [Bool.false_eq_true,if_false] at BE ⊢
  exact⟨zG (FY y) (by rw[yn];lia),BE _ _⟩
 ·rw[hc] at BE
  simp only [if_true] at BE ⊢
  exact BE t s.toks
structure M3(X:Cx)(o:Expr)(m:Str)(apos:Pos)(e f g:Expr)(aO:Pos):Prop where
 base:attributeBase o m X.env (eval o X.env)=eval o X.env
 Bf:((backTo aO (starEach [e,f,g] X.env)).all (fun x=>!x.1) && (backToKw aO (keywordEach [] X.env)).all (fun x=>x.1.isSome)
  && decide (([e,f,g]:List Expr).length+([]:List Keyword).length+(if ([]:List Keyword).isEmpty then 0 else 1)<30))=true
 line:(apos.endLine == aO.line)=true
 trees:backTo aO (starEach [e,f,g] X.env)=[(false,eval e X.env),(false,eval f X.env),(false,eval g X.env)]
section
variable{X:Cx}{e o:Expr}{t:TE}
def Lx(y z:Str)(t:TE):TE:=fun σ H Q=>t σ H fun x H1=>∃u,x=.str u∧u.length+z.length≤1000000∧Q (.str (bL u y z)) H1
theorem Ez(ho:vc pre X o t)(BN:(y == z)=false)(m:M3 X o "replace" apos (.Constant (.str y) j p1) (.Constant (.str z) k p2) (.Constant (.int 1) l p3) aO):vc pre X (.Call (.Attribute o "replace" apos) [.Constant (.str y) j p1,.Constant (.str z) k p2,.Constant (.int 1) l p3] [] aO) (Lx y z t):=by
 intro pins s σ H Q I hs h
 refine wpAny_Call_method m.base m.Bf m.line zH PySem.F.slot_str_replace PySem.F.type_str_replace (bA (ho pins s σ H _ I hs h) fun u s1 ⟨⟨x,H1,I1,rx,z',ex,hz,q⟩,ht⟩=>?_)
 subst ex
 obtain⟨tk,rfl⟩:=rx
 refine⟨typeIs_str _ _ _,fun b q=>(by cases q),?_⟩
 rw[m.trees]
 refine Calls.callWith_builtin rfl (Calls.evalArgs_plain (ye (Calls.Constant_str (ye (Calls.Constant_str (ye (wpAny_Constant_int (Calls.spliced_nil ?_))))))))
 refine wpAny_with_toks (n:=1) (by show 1≤s1.toks+1+1+1;lia) (oO (u:=s1.toks) (v:=s1.toks+1) ?_ ?_ ?_ BN hz fun t' k hk=>⟨⟨.str _,H1,?_,⟨_,rfl⟩,q⟩,hk⟩)
 ·exact Nat.ne_of_gt ht
 ·exact Nat.succ_ne_zero _
 ·exact (Nat.succ_ne_self _).symm
 ·exact I1.tok k
theorem EA(ho:eX X (binaryOp .Add) r)(hb:PE X e tb):vc 0 X (.BinOp (.Constant (.str c) j p1) .Add e pos) (fun σ H Q=>tb σ H fun y H1=>r (.str c) y H1 Q):=by
 intro pins s σ H Q I _ h
 refine wpAny_BinOp (Calls.Constant_str ?_)
 have h1:=wpAny_toks_of (n:=1) (show 1≤({ s with toks:=s.toks+1 } : Shared).toks by show 1≤s.toks+1;lia) (hb pins { s with toks:=s.toks+1 } σ H _ (I.tok _) h)
 refine yk h1 (fun u s2 ⟨ht,y,H2,I2,r2,q2⟩=>?_) fun _ _ q=>q.2
 exact yk (wpAny_toks_of ht (ho pins s2 σ H2 (.str c) y (.str c s.toks) u Q I2 ⟨_,rfl⟩ r2 q2)) (fun _ _ q=>⟨q.2,q.1⟩) fun _ _ q=>q.2
def HW(pre:Nat)(X:Cx)(es:List Expr)(t:TA):Prop :=
 ∀(pos:Pos) (pins:List (Addr×Obj)) (s:Shared) (σ:St) (H:Hp) (Q:List V→Hp→Prop),Inv X pins σ H s→pre≤s.toks→t σ H Q→wpAny (model X.prog X.w) X.A (spliced (backTo pos (starEach es X.env))) (AP X pins σ Q) X.xe s
theorem HX(h:PA X es ta):HW pre X es ta:=fun pos pins s σ H Q I _ q=>h pos pins s σ H Q I q
theorem BZ(ha:vc pre X e te)(hr:HW 1 X es ta)(hp:isPlain e=true:=by rfl):HW pre X (e::es) (wx te ta):=by
 intro pos pins s σ H Q I hn h
 rw[js hp]
 show wpAny _ _ (spliced ((false,eval e X.env)::backTo pos (starEach es X.env))) _ _ s
 refine ye (bA (ha pins s σ H _ I hn h) fun u s1 ⟨⟨x,H1,I1,r1,q1⟩,ht⟩=>?_)
 exact bA (hr pos pins s1 σ H1 _ I1 ht q1) <| by rintro us s2 ⟨xs,H2,I2,r2,q2⟩;exact⟨x::xs,H2,I2,.cons r1 r2,q2⟩
theorem HY(h:HW 0 X es ta):PA X es ta:=fun pos pins s σ H Q I q=>h pos pins s σ H Q I (yj _) q
end
section
variable{K:Frag}{X:Cx}{e o:Expr}
structure Jl(pre:Nat)(K:Frag)(X:Cx)(es:List Expr)(t:oq):Prop where
 of:∀{b:Bool} (y:Ev X b),HW pre y.cx es (Ta K y.E t)
theorem gp(he:DE K X e te)(hu:X.A.units+64<cLine)(hK:X.K=K:=by rfl):Dq 0 K X (.BinOp (.Constant (.str c) j p1) .Add e pos) (FX c te) :=
 ⟨fun y=>(EA (X:=y.cx) (aj y.cx hK hu) (he.of y)).mono <| by rintro τ H Q ⟨σ,S,R,Z,aB,hS,q,hR,hZ⟩;exact
  ⟨σ,S,_,Z,aB,hS,q,fun d S1 x H1 r1 v1 s1 k1=>⟨.str c,d,S1,R,cS c,v1,s1,r1,hR.kp k1⟩,hZ⟩⟩
def Lz(y z:Str)(to:TD):TD:=fun σ S R Z=>to σ S (fun x S1=>∃u,x=.str u∧u.length+z.length≤1000000∧R (.str (bL u y z)) S1) Z
theorem TC(ho:Dq pre K X o to)(BN:(y == z)=false:=by decide)(m:M3 X o "replace" apos (.Constant (.str y) j p1) (.Constant (.str z) k p2) (.Constant (.int 1) l p3) aO:=by exact⟨rfl,rfl,rfl,rfl⟩) :
  Dq pre K X (.Call (.Attribute o "replace" apos) [.Constant (.str y) j p1,.Constant (.str z) k p2,.Constant (.int 1) l p3] [] aO) (Lz y z to) :=
 ⟨fun q=>(Ez (X:=q.cx) (ho.of q) BN ⟨m.base,m.Bf,m.line,m.trees⟩).mono <| by rintro τ H Q ⟨σ,S,R,Z,aB,hS,h,hR,hZ⟩;exact
  ⟨σ,S,_,Z,aB,hS,h,by rintro d S1 x H1 ⟨u,e1,h1,r1⟩ v1 s1 k1;exact by subst e1;exact⟨u,v1.str,h1,(hR.kp k1).now s1 r1 (cS _)⟩,hZ⟩⟩
theorem Py{pre:Nat}{es:List Expr}{t:TD}{u:oq}(h:Dq pre K X e t)(hr:Jl 1 K X es u)(hp:isPlain e=true:=by rfl):Jl pre K X (e::es) (wI t u) :=
 ⟨fun y pos pins s τ H Q I hn ⟨σ,S,R,Z,aB,hS,q,hR,hZ⟩=>BZ (h.of y) (hr.of y) hp pos pins s τ H Q I hn
  ⟨σ,S,_,Z,aB,hS,q,fun d S1 x H1 r1 v1 s1 k1=>⟨σ,S1,_,Z,aB.ts k1,s1,r1,fun ds S2 xs H2 r2 v2 s2 k2=>hR (d::ds) S2 (x::xs) H2 r2 (br (Rv.ts k2 _ v1) v2) s2 (k1.trans k2),hZ.kp k1⟩,hZ⟩⟩
theorem TF(h:DA K X es u):Jl pre K X es u:=⟨fun y=>HX (h.of y)⟩
theorem TH(h:Jl 0 K X es u):DA K X es u:=⟨fun y=>HY (h.of y)⟩
end
structure Gh(gO:Array Keyed)(g:Nat→Nat)(xs:Array Keyed):Prop where
 at_:∀k,k<gO.size→xs[k]?=gO[g k]?
 lt:∀k,k<gO.size→g k<gO.size
 inj:∀i j,i<gO.size→j<gO.size→g i=g j→i=j
def Log(κ:KeyKind)(gO:Array Keyed)(i j:Nat):Prop:=κ.klt (KK κ gO i) (KK κ gO j)∨(KK κ gO i=KK κ gO j∧i<j)
def TJ(g:Nat→Nat)(m n:Nat):Prop:=∀k,m≤k→k<n→g k=k
section
variable{κ:KeyKind}{gO xs:Array Keyed}{g:Nat→Nat}
end
section
variable{prog:Program}{w:World}{A:Around}{E:Value→Shared→Prop}{s:Shared}{gO:Array Keyed}{κ:KeyKind}
structure V6(κ:KeyKind)(gO:Array Keyed)(g:Nat→Nat)(x q:Nat):Prop where
 le:q+1≤x
 tl:TJ g (x - (q+1)) gO.size
 dn:∀i j,i<j→j<x→i<x - (q+1)→Log κ gO (g j) (g i)
 eq:∀i,x - (q+1)≤i→i<x→KK κ gO (g i)=KK κ gO (g (x - 1))
end
abbrev Pz(X:Cx)(qual:Str)(params:Arguments)(body:Expr)(scope:Scope)(pm cv LA:Value):Obj :=
 { cls:=.type "function",data:=.func (PySem.W.kla_fn "<lambda>" qual params body scope (clOf X.env.cells scope.names) pm cv LA) }
section
variable{X:Cx}{pins:List (Addr×Obj)}{σ:St}{H:Hp}{s:Shared}{N:List Str}{src:List (Option Nat)}{scope:Scope}{params:Arguments}{body:Expr}{qual p:Str}{pm cv LA u:Value}{f:Addr}{A:Around}{v:V}{te:TE}{Q:VK}
end
structure V7(κ:KeyKind)(b:Bool)(key:Nat→κ.α)(n:Nat)(g:Nat→Nat):Prop where
 lt:∀k,k<n→g k<n
 inj:∀i j,i<n→j<n→g i=g j→i=j
 ord:∀i j,i<j→j<n→(if b=true then κ.klt (key (g j)) (key (g i)) else κ.klt (key (g i)) (key (g j)))∨(key (g i)=key (g j)∧g i<g j)
section
variable{prog:Program}{w:World}{A:Around}{E:Value→Shared→Prop}{s:Shared}{a kS:Addr}{b:Bool}{us vs:List Value}{e e1:Nat}{P:PySem.Fin→Shared→Prop}{κ:KeyKind}
end
structure V8(X:Cx)(pins:List (Addr×Obj))(b:Addr):Prop where
 loc:b≠X.env.locals
 fs:b∉X.fs
 cell:∀x c,X.env.cells.lookup x=some c→c≠b
 pin:∀p∈X.pn++pins,p.1≠b
 new:X.cH.heap.objs.size≤b
section
variable{X:Cx}{pins:List (Addr×Obj)}{σ:St}{H:Hp}{s:Shared}
end
structure Q5(κ:KeyKind)(us:List Value):Prop where
 all:∀u∈us,∃x,κ.keyOf u=some x
 kind:∀LB LC rest,us=LB::LC::rest→keyKind' (LB::LC::rest).toArray=pure oneType'
section
variable{X:Cx}{pins:List (Addr×Obj)}{σ:St}{H:Hp}{s:Shared}{A:Around}{E:Value→Shared→Prop}{xs:List V}{vs:List Value}{f:Addr}{b:Bool}{κ:KeyKind}{W:Nat→List V→Hp→Prop}
end
def Bm(mg:Str→Option Value)(base:Heap):Prop:=∃bm o,mg "__builtins__" = some (.ref bm)∧bm≠builtinsNs∧base.get? bm=some o∧o.cls=.type "module" ∧ o.dict=some builtinsNs∧o.data=.plain
structure V9(K:Frag)(mg:Str→Option Value)(base:Heap)(c P:Addr):Prop where
 hd:codeHdIn K c P=true
 bm:Bm mg base
section
variable{X:Cx}{pins:List (Addr×Obj)}{σ:St}{H:Hp}{s:Shared}
structure V_(X:Cx)(pins:List (Addr×Obj))(σ:St)(H H':Hp)(P:Addr)(q:Str)(params:Arguments)(body:Expr)(scope:Scope)(u:Value)(s':Shared)(f:Addr)(pm cv LA:Value):Prop where
 u:u=.ref f
 inv:Inv X (pins++[(f,Pz X q params body scope pm cv LA)]) σ H' s'
 code:∃c o vs t,cv=.ref c∧H' c=some (.kR o (.own 0))∧o.data=.fields vs∧vs[1]?=some (.str q t)
 same:∀b,H' b=H b∨(b=P∧∃ps,H' b=some (.rN ps)∧FJ H' q ps)∨(H b=none∧∃o,H' b=some (.kR o (.own 0)))
end
def Q6:D→D→Prop
 |.int a,.int b=>a<b
 |.str a,.str b=>a.cps.toList<b.cps.toList
 |_,_=>False
structure TK(b:Bool)(key:Nat→D)(n:Nat)(g:Nat→Nat):Prop where
 lt:∀k,k<n→g k<n
 inj:∀i j,i<n→j<n→g i=g j→i=j
 ord:∀i j,i<j→j<n→(if b=true then Q6 (key (g j)) (key (g i)) else Q6 (key (g i)) (key (g j)))∨(key (g i)=key (g j)∧g i<g j)
section
variable{K:Frag}{Y:Cx}{pins:List (Addr×Obj)}{τ:St}{H H2:Hp}{s:Shared}{N:List Str}{src:List (Option Nat)}{scope:Scope}{params:Arguments}{body:Expr}{q p:Str}{pm cv LA:Value}{f l:Addr}{te:TD}{b:Bool}{kw:List (Str×Value)}{k:Nat}
end
section
variable{K:Frag}{X:Cx}{N:List Str}{src:List (Option Nat)}{scope:Scope}{params:Arguments}{e body:Expr}{q p x:Str}{np pos lp kq Wa cp:Pos}{ci}{tl te:TD}{k:Nat}{c P:Addr}
end
section
variable{P:Program}{w:World}{K:Frag}{mg:Str→Option Value}{base:Heap}
end
structure sR(ts:List Addr)(H:Hp):Prop where
 all:∀b,H b=none∨(∃o xs,H b=some (.kR o (.lst xs)))∨(b∈ts∧H b=some (.rN #[]))
 tab:∀b∈ts,H b=some (.rN #[])
theorem y6{P:Program}{w:World}{K:Frag}{mg mb:Str→Option Value}{CX:uN}{k:Nat}{fa a:Addr}{fd:FuncData}{x:Str}{sp:Sp}{s₁:Shared}{vs:List Value}{ns:List Int}{ts:List Addr}
  (KX:K.In s₁.heap) (PB:s₁.heap.Ns mainGlobals mg) (hb:s₁.heap.Ns builtinsNs mb) (TL:∀x:Str,x ≠ "__name__" → mb x=bootBuiltins x) (PC:s₁.heap.NoLimit) (TM:Bm mg s₁.heap) (hg:s₁.gens=#[])
  (hT:∀b∈ts,s₁.heap.get? b=some (tabObj #[])) (hC:∀b∈ts,isCodeTable s₁.heap b) (hN:∀b∈ts,K.lookup b=none)
  (ha:s₁.heap.get? a=some { cls:=.type "list",data:=.seq vs.toArray }) (hi:IntsAre vs ns) (hl:ns.length≤sizeLine) (hr:fG k callerA)
  (F:∀base:Heap,Bm mg base→K.In base→base.Ns mainGlobals mg→cI P w K mg base CX k fa fd [x] sp) (LD:∀(s:Shared) (u:Value),BindsTo s fd ⟨[u],[]⟩ [(x,u)])
  (G6:∀H:Hp,sR ts H→i7 K H a (ns.map V.int)→sp [.ref a] H (fun v _=>v=.bl true) fun _ _ _=>False)
  (PD:∀H e s',CX [] H s₁ (fun _ _ _=>False) e s'→False) :
  codeAny (model P w) callerA (.call (.ref fa) ⟨[.ref a],[]⟩) (fun r s'=>r=.ok (.ret (.bool true))∧OldK s₁.heap s'.heap∧s'.os=s₁.os∧AllBare s'.gens) s₁:=by
 have rv:=pF hi
 have PF:=hi.length
 have MV:a∉ts:=fun z=>by rw[hT a z] at ha;cases ha
 have core:∀H:Hp,sR ts H→i7 K H a (ns.map V.int)→jb P w H s₁.heap→(∀b,H b≠none→b=a∨b∈ts)→(H a≠none→K.lookup a=none) →
   codeAny (model P w) callerA (.call (.ref fa) ⟨[.ref a],[]⟩) (fun r s'=>r=.ok (.ret (.bool true))∧OldK s₁.heap s'.heap∧s'.os=s₁.os∧AllBare s'.gens) s₁:=by
  intro H hO hS aS hA hK
  have qE:∀{b:Addr}{o:Obj},s₁.heap.get? b=some o→H b=none→(oy s₁.heap H).get? b=some o:=fun e n=>AU e n
  have J0:∀{b:Addr}{o:Obj}{es:Array DictEntry}{ep:Nat},s₁.heap.get? b=some o→o.data=.dict es ep→H b=none:=fun {b o es ep} e d=>by
   cases q:H b with
   |none=>rfl
   |some u =>
    rcases hA b (by rw[q];simp) with e'|e'
    ·subst e'
     rw[ha] at e;cases e
     have d':Data.seq vs.toArray _=Data.dict es ep:=d
     cases d'
    ·rw[hT b e'] at e;cases e;cases d
  have MW:∀{b:Addr}{m:Str→Option Value},s₁.heap.Ns b m→(oy s₁.heap H).Ns b m:=fun {b m} ⟨o,es,ep,e,d,r⟩=>⟨o,es,ep,qE e (J0 e d),d,r⟩
  have Q7:K.In (oy s₁.heap H):=fun b o e=>qE (KX b o e) (by
   cases q:H b with
   |none=>rfl
   |some u =>
    rcases hA b (by rw[q];simp) with e'|e'
    ·subst e'
     rw[hK (by rw[q];simp)] at e;cases e
    ·rw[hN b e'] at e;cases e)
  have hM:Mod K mg (oy s₁.heap H):=⟨Q7,MW PB,⟨mb,MW hb,TL⟩,by obtain⟨mc,h1,h2⟩:=PC;exact⟨mc,MW h1,h2⟩⟩
  have e0:A_ P w K mg (oy s₁.heap H) callerA [] s₁ H:=⟨rfl,hM,fun b o e=>Du e,Nat.le_of_eq (xG _ _),trivial,fun b hb=>absurd (show b∈([]:List Addr) from hb) (by simp),aS,.of_eq hg⟩
  have TN:Bm mg (oy s₁.heap H):=by
   obtain⟨bm,ob,b1,b2,b3,b4,b5,b6⟩:=TM
   refine⟨bm,ob,b1,b2,qE b3 ?_,b4,b5,b6⟩
   cases q:H bm with
   |none=>rfl
   |some u =>
    rcases hA bm (by rw[q];simp) with e'|e'
    ·rw[e',ha] at b3;cases b3;cases b6
    ·rw[hT bm e'] at b3;cases b3;cases b4
  refine codeAny_mono ((F _ TN Q7 (MW PB)).run callerA [] s₁ H ⟨[.ref a],[]⟩ [.ref a] [.ref a] _ _ hr e0 (LD s₁ (.ref a)) (.cons rfl .nil) (G6 H hO hS)) fun r s' h=>?_
  cases r with
  |error e=>exact (PD H e s' h).elim
  |ok fl =>
   cases fl with
   |next=>exact False.elim h
   |brk=>exact False.elim h
   |cont=>exact False.elim h
   |ret u =>
    obtain⟨v,H',os,bare,un,LF,r',q⟩:=h
    have q':v=.bl true:=q
    subst q'
    obtain rfl:u=Value.bool true:=r'
    refine⟨rfl,⟨fun b o e=>?_,fun b o e=>un.there b o e (by simp)⟩,os,bare⟩
    rcases hO.all b with z|⟨ob,xs,z⟩|⟨z1,z⟩
    ·exact .inl (un.keep b o e z (by intro z;exact absurd (show b∈([]:List Addr) from z) (by simp)) (by simp))
    ·have z2:=un.eY b ob _ z
     obtain⟨e1,_⟩:=aS b _ z
     obtain⟨e2,_⟩:=LF b _ z2
     rw[e] at e1;cases e1
     exact .inl e2
    ·obtain⟨more,z2⟩:=un.eZ b _ z
     have e2:=hT b z1
     rw[e] at e2;cases e2
     exact .inr (.inl ⟨hC b z1,rfl,#[],more,rfl,by have:=LF b _ z2;exact this⟩)
 have tabs:∀(H:Hp),(∀b,b∈ts→H b=some (.rN #[]))→∀b u,b∈ts→H b=some u→bh P w H s₁.heap b u:=fun H h b u hb e=>by
  rw[h b hb] at e;cases e;exact hT b hb
 cases hk:K.lookup a with
 |some o =>
  have e:=KX a o hk
  rw[ha] at e
  cases e
  refine core (fun b=>if b∈ts then some (.rN #[]) else none) ⟨fun b=>?_,fun b hb=>if_pos hb⟩ (.inr ⟨_,vs.toArray,_,hk,rfl,rfl,rfl,by rw[zu,PF];exact hl,by simpa using rv⟩) (fun b u z=>?_) (fun b z=>?_) fun z=>absurd (if_neg MV) z
  ·by_cases hb:b∈ts
   ·exact .inr (.inr ⟨hb,if_pos hb⟩)
   ·exact .inl (if_neg hb)
  ·by_cases hb:b∈ts
   ·exact tabs _ (fun b hb=>if_pos hb) b u hb z
   ·have z':=(if_neg hb).symm.trans z;cases z'
  ·by_cases hb:b∈ts
   ·exact .inr hb
   ·exact absurd (if_neg hb) z
 |none =>
  refine core (fun b=>if b=a then some (.kR { cls:=.type "list",data:=.seq vs.toArray } (.lst (ns.map V.int))) else if b∈ts then some (.rN #[]) else none) ⟨fun b=>?_,fun b hb=>?_⟩ (.inl (.inr ⟨{ cls:=.type "list",data:=.seq vs.toArray },if_pos rfl⟩)) (fun b u z=>?_) (fun b z=>?_) fun _=>hk
  ·by_cases hb:b=a
   ·exact .inr (.inl ⟨_,_,if_pos hb⟩)
   ·by_cases Dr:b∈ts
    ·exact .inr (.inr ⟨Dr,(if_neg hb).trans (if_pos Dr)⟩)
    ·exact .inl ((if_neg hb).trans (if_neg Dr))
  ·have:b≠a:=fun z=>MV (z ▸ hb)
   exact (if_neg this).trans (if_pos hb)
  ·by_cases hb:b=a
   ·have z':=(if_pos hb).symm.trans z
    cases z'
    subst hb
    exact⟨ha,by rw[za];exact hl,vs,_,rv,ha⟩
   ·have z':=(if_neg hb).symm.trans z
    by_cases Dr:b∈ts
    ·have z2:=(if_pos Dr).symm.trans z'
     cases z2
     exact hT b Dr
    ·have z2:=(if_neg Dr).symm.trans z'
     cases z2
  ·by_cases hb:b=a
   ·exact .inl hb
   ·by_cases Dr:b∈ts
    ·exact .inr Dr
    ·exact absurd ((if_neg hb).trans (if_neg Dr)) z
theorem B0{l:PySem.W.OpenLaw}{n k:Nat}{q:Program}{loose:List Str}{XP:(Str→Option Value)→Heap→Prop}{YP:World→Heap→Prop}{d:DefRec}{K:Params→Frag}{CX:uN}{x:Str}{ts:List Addr}
  (hn:l.most=some n) (MX:n≤sizeLine) (Of:d.params.defaults=[]) (hr:fG k callerA)
  (hY:∀(w:World) (h:Heap),YP w h→(K w.params).In h) (hT:∀(w:World) (h:Heap),YP w h→∀b∈ts,h.get? b=some (tabObj #[])) (hN:∀(w:World) (h:Heap),YP w h→∀b∈ts,(K w.params).lookup b=none)
  (F:∀(w:World) (mg:Str→Option Value) (fa:Addr) (h:Heap),(K w.params).In h→h.Ns mainGlobals mg→mg d.name=some (.ref fa) →
   ∃(fd:FuncData) (sp:Sp),(∀b∈ts,∃c,codeHdIn (K w.params) c b=true)∧(∀(s:Shared) (u:Value),BindsTo s fd ⟨[u],[]⟩ [(x,u)]) ∧
    (∀base:Heap,Bm mg base→(K w.params).In base→base.Ns mainGlobals mg→cI l.prog w (K w.params) mg base CX k fa fd [x] sp) ∧
    ∀(H:Hp) (a:Addr) (ns:List Int),ns.length≤n→sR ts H→i7 (K w.params) H a (ns.map V.int)→sp [.ref a] H (fun v _=>v=.bl true) fun _ _ _=>False)
  (PD:∀(H:Hp) (s:Shared) (e:Value) (s':Shared),CX [] H s (fun _ _ _=>False) e s'→False) :
  PySem.W.WalkO q loose XP YP l.row.toRowW d [] (fun f vs=>PySem.call f vs):=by
 refine Att.r9 hn Of fun w cH s₁ mg mb fa o pm cd doc a vs ns G Y ho hd Dj Hm Hn hints hlen hg=>?_
 have KX:=hY w _ Y
 obtain⟨fd,sp,hC,hb,hF,G6⟩:=F w mg fa _ KX G.T.g Hm
 have Q8:=hT w _ Y
 exact y6 KX G.T.g G.T.b G.T.builtins G.T.nolimit G.T.bmain hg Q8 (fun b z=>by obtain⟨c,hc⟩:=hC b z;exact ((PySem.W.codeHd_of_K KX hc).tab (Q8 b z)).isCodeTable) (hN w _ Y) Hn hints (zG hlen MX) hr hF hb (fun H hO hS=>G6 H a ns hlen hO hS) fun H e s'=>PD H s₁ e s'
namespace Rt
theorem EB:Slot "reversed" "__init__" "object.__init__" := .of (owner := "object") (n := "__init__") (by rw[typeLookup_type,builtinLookup_eq_fast];kernel_rfl) (by trivial) (by trivial) (by trivial) (by first|exact .inl (by trivial)|exact .inr (by trivial)) (by rw[isSubtype_type];kernel_rfl)
theorem called:TypeCalled "reversed" "reversed.__new__" "object.__init__" := ⟨by trivial,by trivial,⟨_,_,F.mro_reversed⟩,F.made_reversed,by trivial,by rw[isSubtype_type];kernel_rfl,EB⟩
end Rt
section
variable{prog:Program}{w:World}{A:Around}{E:Value→Shared→Prop}{s:Shared}
end
end L2
namespace L2
open PySem PySem.Spec PyProof.Rows
section
variable{K:Frag}{X:Cx}{tg:Expr}
end
section
variable{K:Frag}{X:Cx}{pos:Pos}
def HZ(tc:oo)(tb:kN):kN:=fun De σ S Z=>∃P:Nat→SD→aN→Prop,(∃m,P m σ S)∧∀m σ S,P m σ S→tc σ S (fun b S1=>if b=true then tb { De with nx:=fun aw S'=>∃m',m'<m∧P m' aw S',ct:=fun aw S'=>∃m',m'<m∧P m' aw S',bk:=De.nx } σ S1 Z else De.nx σ S1) (Z σ)
theorem PH(hc:DT K X c tc)(hb:wK K X true body tb):DS K X true (.While c body [] pos) (HZ tc tb) :=
 ⟨fun y=>(A3 (X:=y.cx) (y.ok.loop rfl) (hc.of y) (hb.of y)).mono <| by rintro D τ H ⟨σ,S,De,Z,aB,hS,⟨P,⟨m,p0⟩,turn⟩,hD,hZ⟩;exact
  ⟨fun m Jg H'=>∃σ S,fb K H' σ Jg∧Rs K S H'∧P m σ S∧Kp K H H',⟨m,σ,S,aB,hS,p0,.refl _⟩,by rintro m MP H1 ⟨qb,S1,a1,s1,p1,k1⟩;exact⟨qb,S1,_,Z qb,a1,s1,turn m qb S1 p1,fun b S2 H2 r2 s2 k2=>by
   cases b with
   |true =>
    rw[if_pos rfl] at r2 ⊢
    refine⟨fun Q9 H3=>∃σ S,fb K H3 σ Q9∧Rs K S H3∧(∃m',m'<m∧P m' σ S)∧Kp K H H3,by rintro Q9 H3 ⟨iO,S3,a3,s3,⟨m',hm,p3⟩,k3⟩;exact⟨m',hm,iO,S3,a3,s3,p3,k3⟩,?_⟩
    have kk:=k1.trans k2
    exact⟨qb,S2,_,Z,a1.ts k2,s2,r2,⟨fun HL S5 Pf H5 r5 a5 s5 k5=>⟨HL,S5,a5,s5,r5,kk.trans k5⟩,hD.rt.kp kk,hD.nx.kp kk,fun HL S5 Pf H5 r5 a5 s5 k5=>⟨HL,S5,a5,s5,r5,kk.trans k5⟩⟩,hZ.kp kk⟩
   |false =>
    rw[if_neg zk] at r2 ⊢
    exact hD.nx _ _ _ _ r2 (a1.ts k2) s2 (k1.trans k2),(hZ.kp k1).at a1⟩⟩⟩
def PJ(i:Nat)(te:TD):kN:=fun De σ S Z=>∃a:Int,σ[i]?=some (some (.int a))∧te σ S (fun d S1=>∃b:Int,d=.int b∧De.nx (σ.set i (some (.int (a+b)))) S1) (Z σ)
theorem Q_(hN:X.N.Nodup)(he:DE K X e te)(hi:X.N[i]?=some x:=by rfl)(hx:Loc X.env.scope x:=by first|exact .inl rfl|exact .inr rfl)(hf:X.fn x=true∨X.env.scope.names.lookup x=some .local:=by first|exact .inl rfl|exact .inr rfl) :
  DS K X b (.AugAssign (.Name x pos') .Add e pos) (PJ i te) :=
 ⟨fun y=>(GJ (X:=y.cx) hN hi hx (he.of y) GK hf).mono <| by
  rintro D τ H ⟨σ,S,De,Z,aB,hS,⟨a,ha,t⟩,hD,hZ⟩
  obtain⟨v,e1,r⟩:=aB.get ha
  exact⟨v,e1,σ,S,_,Z σ,aB,hS,t,by
   rintro d S1 u H1 ⟨c,e2,n⟩ rv s1 k1
   subst e2
   exact⟨a,c,r.int,rv.int,hD.nx _ _ _ _ n ((aB.ts k1).set i (aF _)) s1 k1⟩,hZ.at aB⟩⟩
end
section
variable{K:Frag}{X:Cx}
def vD:V→D
 |.int i=>.int i
 |.str z=>.str z
 |.bl b=>.bl b
 |_=>.aK
def B1:V→Bool
 |.int _=>true
 |.str _=>true
 |_=>false
def LG(kvs:List (Str×V))(ty:TD):TD:=fun σ S R Z=>ty σ S (fun y S1=>∃z,y=.str z∧R ((kvs.lookup z).elim .aK vD) S1) Z
theorem TQ{w:World}{ad:Addr}{kvs:List (Str×V)}{o e:Expr}{apos aO:Pos}{ty:TD}(d:KJ w K ad kvs)(hf:(kvs.all fun p=>B1 p.2)=true)(ho:∀Y:Cx,Y.env=X.env→Y.mg=X.mg→PE Y o (tC (.ref ad)))(he:DE K X e ty)(hw:X.w=w:=by rfl)(hK:X.K=K:=by rfl)(m:M1 X o "get" apos e aO:=by exact⟨rfl,rfl,rfl,rfl⟩) :
  DE K X (.Call (.Attribute o "get" apos) [e] [] aO) (LG kvs ty) :=
 ⟨fun y=>(Bv (X:=y.cx) hw hK (ho y.cx rfl rfl) (he.of y) ⟨m.base,m.Bf,m.line,m.trees⟩).mono <| by rintro τ H Q ⟨σ,S,R,Z,aB,hS,q,hR,hZ⟩;exact⟨ad,kvs,rfl,d,σ,S,_,Z,aB,hS,q,by
  rintro yv S1 v H1 ⟨z,e1,r⟩ rv s1 k1
  subst e1
  refine⟨z,rv.str,hR _ _ _ _ r ?_ s1 k1⟩
  have fl:∀v,kvs.lookup z=some v→B1 v=true:=fun v hv=>by
   have:=yr hv
   exact zS.mp hf _ this
  cases q:kvs.lookup z with
  |none=>exact kZ
  |some v =>
   have:=fl v q
   cases v with
   |int i=>exact aF i
   |str i=>exact cS i
   |_=>(cases this),hZ⟩⟩
end
section
variable{X:Cx}
end
section
variable{K:Frag}
end
section
variable{X:Cx}
end
section
variable{K:Frag}
end
theorem gK(hm:X.mg x=some (.ref a))(hg:Gl X x:=by rfl)(hd:(x == ("__debug__" : Str))=false:=by decide):∀Y:Cx,Y.env=X.env→Y.mg=X.mg→PE Y (.Name x pos) (tC (.ref a)) :=
 fun Y e1 e2=>wg (X:=Y) (u:=.ref a) (show Y.env.kindOf x=_ by rw[e1];exact hg) (by rw[e2];exact hm) rfl hd
structure Fb(K:Frag)(x q:Str)(st:Stmt)(ps:List Str)(f:Addr)(d:FuncData):Prop where
 F:u_ K x q st f d
 b:Binds K d ps []
structure dA(K:Frag)(mg:Str→Option Value)(x:Str)(st:Stmt)(ps:List Str)(f:Addr)(d:FuncData):Prop extends Fb K x x st ps f d where
 k:keepIn K (.ref f)=true
 m:mg x=some (.ref f)
structure Wb(K:Frag)(c:Addr)(x q:Str)(st:Stmt)(ps:List Str)(f:Addr)(d:FuncData):Prop extends Fb K x q st ps f d where
 e:Meth K c x f
abbrev Ok(P:Program)(w:World)(base:Heap){K:Frag}{mg:Str→Option Value}{x:Str}{st:Stmt}{ps:List Str}{f:Addr}{d:FuncData}(_:dA K mg x st ps f d)(k:Nat)(sp:jg):Prop:=cI P w K mg base (jM P w) k f d ps (u7 K sp)
theorem dR{N P:List Str}{sc:Scope}(a:sc.kind=.function∧sc.isCoroutine=false∧sc.isGenerator=false∧N.take P.length=P:=by exact⟨rfl,rfl,rfl,rfl⟩)(b:N.Nodup∧(∀x∈P,sc.names.lookup x=some .local∨sc.names.lookup x=some .cell)∧∀y∈sc.names,y.2≠.free:=by trivial):ah N P sc:=⟨a.1,a.2.1,a.2.2.1,b.1,a.2.2.2,b.2.1,b.2.2⟩
section
variable{R:Prop}{K:Frag}{h:Heap}{mg:Str→Option Value}{od an:Option Addr}{sl:Array (Option Value)}{oc dV kV dc pm cd ct:Value}{f da:Addr}{Wc:Option Addr}{dn:Nat}{Wd:Array (Option Value)}{c:Addr}{tk:Tok}{d:FuncData}
theorem dZ(X:K.In h)(G:h.Ns mainGlobals mg)(x:Str)(st:Stmt)(ps:List Str)(a:nsIn K mainGlobals x=some (some (.ref f)))(l:K.lookup f=some ⟨oc,od,.func (fnOf x x (iR st) (ee st) (ae st) dV kV dc pm an cd ct),sl⟩)
  (e:codeIn K cd x=true) (k:keepIn K (.ref f)=true) (b:∀us:List Value,us.length=ps.length→bindArgs (fnOf x x (iR st) (ee st) (ae st) dV kV dc pm an cd ct) ⟨us,[]⟩=pure (ps.zip us)) (g:∀d,dA K mg x st ps f d→R):R :=
 g _ ⟨⟨⟨_,_,_,_,_,_,_,_,_,_,rfl,l,e⟩,.all b⟩,k,mg_of X G a⟩
theorem TR(X:K.In h)(G:h.Ns mainGlobals mg)(x:Str)(st:Stmt)(ps:List Str)(a:nsIn K mainGlobals x=some (some (.ref f)))(l:K.lookup f=some ⟨oc,od,.func (fnOf x x (iR st) (ee st) (ae st) dV kV dc pm an cd ct),sl⟩)
  (e:codeIn K cd x=true) (k:keepIn K (.ref f)=true) (b:∀us:List Value,us.length=ps.length→bindArgs (fnOf x x (iR st) (ee st) (ae st) dV kV dc pm an cd ct) ⟨us,[]⟩=pure (ps.zip us)) (g:∀d,d.code=cd→(∀(s:Shared) (us:List Value),us.length=ps.length→BindsTo s d ⟨us,[]⟩ (ps.zip us))→dA K mg x st ps f d→R):R :=
 g _ rfl (fun s us h=>.of_eq (b us h)) ⟨⟨⟨_,_,_,_,_,_,_,_,_,_,rfl,l,e⟩,.all b⟩,k,mg_of X G a⟩
theorem AR(X:K.In h)(G:h.Ns mainGlobals mg)(x:Str)(a:nsIn K mainGlobals x=some none)(g:mg x=none→R):R:=g (PySem.W.mg_none_of X G a)
theorem H9(X:K.In h)(G:h.Ns mainGlobals mg)(x:Str)(i:Int)(a:nsIn K mainGlobals x=some (some (.int i tk)))(g:mg x=some (.int i tk)→R):R:=g (mg_of X G a)
theorem Ra(X:K.In h)(G:h.Ns mainGlobals mg)(x:Str)(a:nsIn K mainGlobals x=some (some (.ref c)))(l:K.lookup c=some o)(g:mg x=some (.ref c)→K.lookup c=some o→R):R:=g (mg_of X G a) l
theorem PK(X:K.In h)(G:h.Ns mainGlobals mg)(x:Str)(a:nsIn K mainGlobals x=some (some (.ref c)))(e:excIn K c L2.uU "ValueError.__new__" = true)(g:mg x=some (.ref c)→excIn K c L2.uU "ValueError.__new__" = true→R):R:=g (mg_of X G a) e
end
section
variable{Q:List Value→Prop}
theorem TU(h:Q [])(us:List Value)(e:us.length=0):Q us:=by cases us with
 |nil=>exact h
 |cons a us=>cases e
theorem EC(h:∀a us,us.length=n→Q (a::us))(us:List Value)(e:us.length=n+1):Q us:=by cases us with
 |nil=>cases e
 |cons a us=>exact h a us (Nat.succ.inj e)
theorem jN(h:∀a,Q [a]):∀us:List Value,us.length=1→Q us:=EC fun a=>TU (h a)
theorem ln2(h:∀a b,Q [a,b]):∀us:List Value,us.length=2→Q us:=EC fun a=>jN (h a)
theorem Rb(h:∀a b c,Q [a,b,c]):∀us:List Value,us.length=3→Q us:=EC fun a=>ln2 (h a)
theorem TV(h:∀a b c d,Q [a,b,c,d]):∀us:List Value,us.length=4→Q us:=EC fun a=>Rb (h a)
end
section
variable{R:Prop}{K:Frag}{h:Heap}{mg:Str→Option Value}{X Y:Str}{c d:Addr}
theorem AS(_:K.In h)(_:mg X=some (.ref c))(_:mg Y=some (.ref d))(b:Bool)(e:kitOne K (.ref c) (.ref d)=some b)(g:kitOne K (.ref c) (.ref d)=some b→R):R:=g e
theorem Rf(_:K.In h)(_:mg X=some (.ref c))(e:kitOne K (.ref c) (.type "ValueError")=some true)(g:kitOne K (.ref c) (.type "ValueError")=some true→R):R:=g e
theorem Rg(_:K.In h)(_:mg X=some (.ref c))(_:mg Y=some (.ref d))(e:mroIn K c (.ref d)=some true)(g:mroIn K c (.ref d)=some true→R):R:=g e
theorem Rh(_:K.In h)(_:mg X=some (.ref c))(e1:findIn K (.ref c) "__getattribute__" = some (some (.builtin "BaseException.__getattribute__")))(e2:findIn K (.ref c) "__getattr__" = some none)(e3:findIn K (.ref c) "__class__" = some (some (.builtin "object.__class__")))(g:XA K c→R):R:=g ⟨e1,e2,e3⟩
end
section
variable{K:Frag}{X:Cx}{x:Str}{st:Stmt}{ps:List Str}{f:Addr}{fd:FuncData}{sp:jg}{e:Expr}{es:List Expr}{p pos:Pos}
theorem MY{R:Prop}{h:Heap}{mg:Str→Option Value}{c:Addr}(X:K.In h)(G:h.Ns mainGlobals mg)(x:Str)(a:nsIn K mainGlobals x=some (some (.ref c)))(g:mg x=some (.ref c)→R):R:=g (mg_of X G a)
end
section
variable{P:Program}{w:World}{K:Frag}{mg:Str→Option Value}{base:Heap}{x qual:Str}{st:Stmt}{f:Addr}{fd:FuncData}{N ps:List Str}{k:Nat}{sp:jg}
theorem u_.kO(F:u_ K x qual st f fd)(S:ah N ps (ae st))
  (mP:∀(dh:Value) (A:Around) (outer:List Env) (s:Shared) (H:Hp) (E:XK) (ds:List D) (S:aN) (R:KD) (Z:KX),fG k (A.deeper (PyProof.Rows.envOfC qual (ae st) s.heap.objs.size f dh))→sp ds S R Z →
   ∃t,wK K (l8 (jM P w) P w K mg base N qual (ae st) f dh A outer s H E) true (ee st) t∧t { nx:=fun _ S'=>Fo S' (R .aK),rt:=fun d S'=>Fo S' (R d) } (m_ N ds) S fun _ C S'=>Fo S' (Z C))
  (len:∀ds S R Z,sp ds S R Z→ds.length=ps.length:=by intro _ _ _ _ h;repeat first|(obtain⟨e,_⟩:=h;rw[e];rfl;done)|obtain⟨_,h⟩:=h):cI P w K mg base (jM P w) (k+1) f fd ps (u7 K sp):=F.ok S len mP
end
section
variable{prog:Program}{w:World}{A:Around}{E:Value→Shared→Prop}{s:Shared}{n l0 l1:Nat}{i:Nat}{OJ OK:Array Value}
end
section
variable{K:Frag}{X:Cx}
end
section
variable{X:Cx}
def LH(K:Frag)(neg:Bool):R2:=fun x y H Q=>∃p xs d b,y=.ref p∧(i7 K H p xs∨kU K H p xs)∧Dt K H d x∧d.canLay0=true ∧
 (∀y∈xs,∃e,Dt K H e y∧e.canLay0=true∧(e.depth≤62∨d.depth≤62)∧PyData.eqv e d=b)∧Q (.bl (if neg then !(b && !xs.isEmpty) else b && !xs.isEmpty)) H
theorem sS:∀{xs:List V}{us:List Value},Vals xs us→y∈us→∃x∈xs,RelV x y
 |_,_,.nil,h=>by cases h
 |x::xs,u::us,.cons r t,h=>by
  rcases zc.mp h with rfl|h
  ·exact⟨x,zf,r⟩
  ·obtain⟨z,h1,h2⟩:=sS t h
   exact⟨z,zd _ h1,h2⟩
theorem iV(b:Bool):∀l:List Value,l.any (fun _=>b)=(b && !l.isEmpty)
 |[]=>by simp
 |x::l=>by cases b <;> simp
theorem gg:∀{xs:List V}{us:List Value},Vals xs us→us.isEmpty=xs.isEmpty
 |_,_,.nil=>rfl
 |_,_,.cons _ _=>rfl
theorem qF(hu:X.A.units+64<cLine)(I:Inv X pins σ H s)(rx:RelV x v)(hd:Dt X.K H d x)(cd:d.canLay0=true)
  (h:∀y∈xs,∃e,Dt X.K H e y∧e.canLay0=true∧(e.depth≤62∨d.depth≤62)∧PyData.eqv e d=b) (r:Vals xs us):∀u∈us,SeqAt.EqAt X.A.in1 s u v b:=by
 intro u hm
 obtain⟨y,hy,ry⟩:=sS r hm
 obtain⟨e,he,ce,dp,q⟩:=h y hy
 obtain⟨as,ra⟩:=I.reads e he ry
 obtain⟨bs,rb⟩:=I.reads d hd rx
 rw[← q]
 exact SeqAt.eqAt_reads e d _ s u v as bs ra rb ce cd (by rw[Around.in1_units];rcases dp with dp|dp <;> lia)
theorem ED(hu:X.A.units+64<cLine):eX X (compareOp .In) (LH X.K false):=by
 intro pins s σ H x y v u Q I rx ry h
 obtain⟨p,xs,d,b,rfl,hq,hd,cd,hi,q⟩:=h
 cases ry
 rcases hq with hq|hq
 ·obtain⟨ao,r,pl,hz⟩:=I.list hq
  refine SeqAt.in_listAt (fun _=>b) pl.isList (fun w hw=>qF hu I rx hd cd hi r w (by simpa using hw)) ⟨.bl _,H,I,rfl,?_⟩
  rw[show ao.toArray.any (fun _=>b)=ao.any (fun _=>b) by simp,iV,gg r]
  exact q
 ·obtain⟨ao,r,pl,hz⟩:=I.tuple hq
  refine SeqAt.in_tupleAt (fun _=>b) pl (fun w hw=>qF hu I rx hd cd hi r w (by simpa using hw)) ⟨.bl _,H,I,rfl,?_⟩
  rw[show ao.toArray.any (fun _=>b)=ao.any (fun _=>b) by simp,iV,gg r]
  exact q
theorem vg(hu:X.A.units+64<cLine):eX X (compareOp .NotIn) (LH X.K true):=by
 intro pins s σ H x y v u Q I rx ry h
 obtain⟨p,xs,d,b,rfl,hq,hd,cd,hi,q⟩:=h
 cases ry
 rcases hq with hq|hq
 ·obtain⟨ao,r,pl,hz⟩:=I.list hq
  refine SeqAt.notIn_listAt (fun _=>b) pl.isList (fun w hw=>qF hu I rx hd cd hi r w (by simpa using hw)) ⟨.bl _,H,I,rfl,?_⟩
  rw[show ao.toArray.any (fun _=>b)=ao.any (fun _=>b) by simp,iV,gg r]
  exact q
 ·obtain⟨ao,r,pl,hz⟩:=I.tuple hq
  refine SeqAt.notIn_tupleAt (fun _=>b) pl (fun w hw=>qF hu I rx hd cd hi r w (by simpa using hw)) ⟨.bl _,H,I,rfl,?_⟩
  rw[show ao.toArray.any (fun _=>b)=ao.any (fun _=>b) by simp,iV,gg r]
  exact q
end
section
variable{K:Frag}
def Alike(S:aN)(x:D)(ds:List D)(b:Bool):Prop:=∃p,Dl S x p∧p.canLay0=true∧∀d∈ds,∃q,Dl S d q∧q.canLay0=true∧(q.depth≤62∨p.depth≤62)∧PyData.eqv q p=b
def MZ(neg:Bool):rK:=fun x y S R=>inD neg x y S R∨∃ds b,(y=.tup ds∨y=.kt ds∨∃a,y=.ref a∧S a=some (.lst ds))∧Alike S x ds b∧R (.bl (if neg then !(b && !ds.isEmpty) else b && !ds.isEmpty)) S
theorem pV:∀{ds:List D}{xs:List V},RvAll K H ds xs→y∈xs→∃d∈ds,Rv K H d y
 |[],xs,h,hy=>by rw[h.nil] at hy;cases hy
 |d::ds,xs,h,hy=>by
  obtain⟨z,zs,rfl,h1,h2⟩:=h.cons
  rcases zc.mp hy with rfl|hy
  ·exact⟨d,zf,h1⟩
  ·obtain⟨e,h3,h4⟩:=pV h2 hy
   exact⟨e,zd _ h3,h4⟩
theorem hX:∀{ds:List D}{xs:List V},RvAll K H ds xs→xs.isEmpty=ds.isEmpty
 |[],xs,h=>by rw[h.nil];rfl
 |d::ds,xs,h=>by
  obtain⟨z,zs,rfl,h1,h2⟩:=h.cons
  rfl
theorem B2{H:Hp}{S:aN}{x:D}{v:V}{e:D}{u:V}{ds:List D}{b:Bool}(hS:Rs K S H)(r1:Rv K H x v)(r2:Rv K H e u)(h:e=.tup ds∨e=.kt ds∨∃a,e=.ref a∧S a=some (.lst ds))(al:Alike S x ds b) :
  ∃p xs d,u=.ref p∧(i7 K H p xs∨kU K H p xs)∧Dt K H d v∧d.canLay0=true∧(∀y∈xs,∃e,Dt K H e y∧e.canLay0=true∧(e.depth≤62∨d.depth≤62)∧PyData.eqv e d=b)∧xs.isEmpty=ds.isEmpty:=by
 obtain⟨p,h1,h2,h3⟩:=al
 have it:∀{xs:List V},RvAll K H ds xs→∀y∈xs,∃e,Dt K H e y∧e.canLay0=true∧(e.depth≤62∨p.depth≤62)∧PyData.eqv e p=b:=fun t y hy=>by
  obtain⟨d,hd,rd⟩:=pV t hy
  obtain⟨q,q1,q2,q3,q4⟩:=h3 d hd
  exact⟨q,q1.dt hS rd,q2,q3,q4⟩
 rcases h with rfl|rfl|⟨a,rfl,ha⟩
 ·obtain⟨a,xs,rfl,q,t⟩:=r2.tup
  exact⟨a,xs,p,rfl,.inr (.of q),h1.dt hS r1,h2,it t,hX t⟩
 ·obtain⟨a,xs,rfl,q,t⟩:=r2.kt
  exact⟨a,xs,p,rfl,.inr (.inr q),h1.dt hS r1,h2,it t,hX t⟩
 ·cases r2.ref
  obtain⟨xs,e1,t⟩:=hS.lst ha
  exact⟨a,xs,p,rfl,.inl (.of e1),h1.dt hS r1,h2,it t,hX t⟩
theorem FZ:lQ K (compareOp .In) (MZ false):=by
 rintro X hK hu pins s σ H x y v u Q I rx ry ⟨d,e,S,R,r1,r2,hS,h,hR⟩
 rcases h with h|⟨ds,b,hy,al,h⟩
 ·exact qu X hK hu pins s σ H x y v u Q I rx ry ⟨d,e,S,R,r1,r2,hS,h,hR⟩
 subst hK
 obtain⟨p,xs,q,rfl,a1,a2,a3,a4,a5⟩:=B2 hS r1 r2 hy al
 refine ED hu pins s σ H _ _ v u Q I rx ry ⟨p,xs,q,b,rfl,a1,a2,a3,a4,?_⟩
 rw[a5];exact hR.now hS h (a_ _)
theorem B3:lQ K (compareOp .NotIn) (MZ true):=by
 rintro X hK hu pins s σ H x y v u Q I rx ry ⟨d,e,S,R,r1,r2,hS,h,hR⟩
 rcases h with h|⟨ds,b,hy,al,h⟩
 ·exact sG X hK hu pins s σ H x y v u Q I rx ry ⟨d,e,S,R,r1,r2,hS,h,hR⟩
 subst hK
 obtain⟨p,xs,q,rfl,a1,a2,a3,a4,a5⟩:=B2 hS r1 r2 hy al
 refine vg hu pins s σ H _ _ v u Q I rx ry ⟨p,xs,q,b,rfl,a1,a2,a3,a4,?_⟩
 rw[a5];exact hR.now hS h (a_ _)
end
end L2
namespace L2
open PySem PySem.Spec PyProof.Rows PySem.SeqAt
def isStrOf(z:Str):Value→Bool
 |.str y _=>y == z
 |_=>false
theorem LI(z:Str):∀{ws:List Str}{us:List Value},Vals (ws.map V.str) us→us.countP (isStrOf z)=ws.count z∧∀y∈us,∃a t,y=Value.str a t
 |[],_,.nil=>⟨rfl,fun y h=>by cases h⟩
 |w::ws,_,.cons r q=>by
  obtain⟨t,rfl⟩:=r
  obtain⟨h1,h2⟩:=LI z q
  refine⟨?_,zX.mpr ⟨⟨w,t,rfl⟩,h2⟩⟩
  rw[List.countP_cons,h1,List.count_cons]
  rfl
def EF(K:Frag):V→List V→Hp→VK→Prop:=fun x vs H Q=>∃(a:Addr) (ws:List Str) (z:Str),x=.ref a∧vs=[.str z]∧i7 K H a (ws.map V.str)∧Q (.int (ws.count z:Nat)) H
theorem y7:Dm X "list.count" (EF X.K):=by
 intro pins s σ H x vs v us Q I rx rv h
 obtain⟨a,ws,z,rfl,rfl,hq,q⟩:=h
 cases rx
 obtain⟨u,rfl,ru⟩:=rv.one
 obtain⟨tk,rfl⟩:=ru
 obtain⟨ao,r,p,hz⟩:=I.list hq
 obtain⟨TY,Fz⟩:=LI z r
 obtain⟨⟨cls,dd,data,sl⟩,ho,hc,n,hd⟩:=p.isList
 simp only at hc hd
 subst hc hd
 refine yB PySem.F.slot_list_count ⟨_,ho,rfl⟩ PySem.F.entry_list_count (PySem.F.args_list_count_2 _ _) (list_countAt a ao.toArray n dd sl (.str z tk) (isStrOf z)) ⟨ho,fun y hy=>?_,?_⟩
 ·obtain⟨b,t,rfl⟩:=Fz y (by simpa using hy)
  exact EqAt.str_str b t z tk
 ·rw[show ao.toArray.toList=ao from rfl,TY]
  exact⟨.int _,H,I.tok _,⟨_,rfl⟩,q⟩
section
variable{K:Frag}
def EG:uC:=fun x ds S R=>∃(ws:List Str) (z:Str),ds=[.str z]∧sD S x (ws.map D.str)∧R (.int (ws.count z:Nat)) S
theorem B4:AO K "list.count" EG:=by
 rintro X hK pins s σ H x xs v us Q I rx rs ⟨d,ds,S,R,r1,r2,hS,⟨ws,k,e2,e3,h⟩,hR⟩
 subst hK e2
 obtain⟨w0,rfl,q2⟩:=r2.one
 obtain⟨a,zs,rfl,q,t⟩:=e3.at hS r1
 rw[t.strs] at q
 exact y7 pins s σ H _ _ v us Q I rx rs ⟨a,ws,k,rfl,by rw[q2.str],q,hR.now hS h (aF _)⟩
end
end L2
namespace L2
open PySem PySem.Spec PyProof.Rows
section
variable{X:Cx}{e:Expr}
theorem y8(ha:PE X e te)(hr:HW 0 X es ta)(hp:isPlain e=true:=by rfl):HW 0 X (e::es) (wx te ta):=by
 intro pos pins s σ H Q I hn h
 rw[js hp]
 show wpAny _ _ (spliced ((false,eval e X.env)::backTo pos (starEach es X.env))) _ _ s
 refine ye (bA (ha pins s σ H _ I h) fun u s1 ⟨x,H1,I1,r1,q1⟩=>?_)
 exact bA (hr pos pins s1 σ H1 _ I1 (yj _) q1) <| by rintro us s2 ⟨xs,H2,I2,r2,q2⟩;exact⟨x::xs,H2,I2,.cons r1 r2,q2⟩
end
section
variable{K:Frag}{X:Cx}{e:Expr}
theorem TZ{es:List Expr}{t:TD}{u:oq}(h:DE K X e t)(hr:Jl 0 K X es u)(hp:isPlain e=true:=by rfl):Jl 0 K X (e::es) (wI t u) :=
 ⟨fun y pos pins s τ H Q I hn ⟨σ,S,R,Z,aB,hS,q,hR,hZ⟩=>y8 (h.of y) (hr.of y) hp pos pins s τ H Q I hn
  ⟨σ,S,_,Z,aB,hS,q,fun d S1 x H1 r1 v1 s1 k1=>⟨σ,S1,_,Z,aB.ts k1,s1,r1,fun ds S2 xs H2 r2 v2 s2 k2=>hR (d::ds) S2 (x::xs) H2 r2 (br (Rv.ts k2 _ v1) v2) s2 (k1.trans k2),hZ.kp k1⟩,hZ⟩⟩
end
end L2
namespace My
open PySem L2
def top(i:Nat):Stmt:=PySem.Challenge.pw_pageturns_k64_texts_of_no_sieve.main.body.getD i (.Pass ⟨0,0,0,0⟩)
abbrev jv:Stmt:=top 12
abbrev h_:Stmt:=top 13
abbrev ia:Stmt:=top 14
abbrev iW:Stmt:=top 15
abbrev j9:Stmt:=top 16
abbrev iX:Stmt:=top 17
abbrev jw:Stmt:=top 18
abbrev gj:Stmt:=top 20
abbrev gk:Stmt:=top 23
abbrev dS:Stmt:=top 24
abbrev dU:Stmt:=top 25
abbrev bY:Stmt:=top 26
abbrev dD:Stmt:=top 32
abbrev fi:Stmt:=top 33
abbrev dm:Stmt:=top 34
abbrev fA:Stmt:=top 35
abbrev dW:Stmt:=top 36
abbrev gm:Stmt:=top 39
abbrev jx:Stmt:=top 40
abbrev jy:Stmt:=top 41
abbrev fj:Stmt:=top 42
abbrev eu:Stmt:=top 43
abbrev jz:Stmt:=top 44
abbrev dX:Stmt:=top 45
abbrev ny:Stmt:=top 47
abbrev nz:Stmt:=top 48
abbrev ib:Stmt:=top 49
abbrev jA:Stmt:=top 50
abbrev j_:Stmt:=top 51
abbrev k_:Stmt:=top 52
abbrev qG:Stmt:=top 53
abbrev ka:Stmt:=top 54
abbrev la:Stmt:=top 55
abbrev eI:Stmt:=top 56
abbrev cU:Stmt:=top 57
abbrev cF:Stmt:=top 58
abbrev fN:Stmt:=top 59
abbrev nA:Stmt:=top 60
abbrev cV:Stmt:=top 61
abbrev gq:Stmt:=top 62
abbrev kc:Stmt:=top 63
abbrev ic:Stmt:=top 64
abbrev ie:Stmt:=top 65
abbrev gu:Stmt:=top 66
abbrev gv:Stmt:=top 67
abbrev cW:Stmt:=top 68
abbrev ig:Stmt:=top 69
abbrev qH:Stmt:=top 70
abbrev lg:Stmt:=top 71
abbrev lh:Stmt:=top 72
abbrev wY:Stmt:=top 73
set_option genInjectivity false in
set_option genSizeOfSpec false in
structure F_ where
 (vh sT sU y9 B5 y_ vi qI qJ ma me lj oP sV lq oQ mf qK vj vk sW qL vm mh B6 B7 sX vn B8 z_ EH B9 Aa nB nC mi B_ Ca ke vp Cb sY sZ qM qN qO s_ EI Ab Ac Ga eJ pW dM cX ij eK av ik az:Addr)
 (vq tj tq Ad Cc Ae vt qP qQ mj ml lr oR tu lu oS mm qR vw vx tD qS vy mn Cf Ci tE vz Cj Af EJ Ck Ag nD nE mq Cm Co kf vA Cp tG tH qT qU qV tI EK Ah Ai Cq:FuncData)
 (kg lx kh gP tJ qW ki:Tok)
structure Txt(w:World)(K:Frag)(mg:Str→Option Value)(t:F_):Prop where
 ip:dA K mg "is_whole" jv ["thing"] t.vh t.vq
 bG:dA K mg "is_letter" h_ ["sign"] t.sT t.tj
 cN:dA K mg "is_figure" ia ["sign"] t.sU t.tq
 kj:dA K mg "is_name" iW ["thing"] t.y9 t.Ad
 nF:dA K mg "is_key" j9 ["thing"] t.B5 t.Cc
 fk:dA K mg "is_word" iX ["thing"] t.y_ t.Ae
 iq:dA K mg "is_value" jw ["kind","thing"] t.vi t.vt
 eM:dA K mg "kind_named" gj ["columns","name"] t.qI t.qP
 eN:dA K mg "value_text" gk ["value"] t.qJ t.qQ
 cu:dA K mg "is_value_text" dS ["text"] t.ma t.mj
 aL:dA K mg "value_of_text" dU ["text"] t.me t.ml
 bS:dA K mg "is_number_text" bY ["text","most"] t.lj t.lr
 dN:dA K mg "check_sieve" dD ["columns","sieve"] t.oP t.oR
 fO:dA K mg "is_formed" fi ["columns","thing"] t.sV t.tu
 aV:dA K mg "is_short_tuple" dm ["thing"] t.lq t.lu
 dO:dA K mg "fits_column" fA ["columns","sieve"] t.oQ t.oS
 cy:dA K mg "sieves_within" dW ["sieves"] t.mf t.mm
 eO:dA K mg "read_sieve" gm ["columns","text"] t.qK t.qR
 ir:dA K mg "sieve_in" jx ["text"] t.vj t.vw
 iu:dA K mg "sieve_of" jy ["things"] t.vk t.vx
 cO:dA K mg "are_words" fj ["things"] t.sW t.tD
 bT:dA K mg "are_sieves" eu ["things"] t.qL t.qS
 words_of:dA K mg "words_of" jz ["text"] t.vm t.vy
 cz:dA K mg "value_in_word" dX ["word"] t.mh t.mn
 iw:dA K mg "_law_well" ny ["_law_script","_law_k"] t.B6 t.Cf
 af:dA K mg "_law_draw" nz ["_law_well_here","_law_most"] t.B7 t.Ci
 fP:dA K mg "_law_columns" ib ["_law_well_here"] t.sX t.tE
 iy:dA K mg "_law_number" jA ["_law_well_here"] t.vn t.vz
 nG:dA K mg "_law_word" j_ ["_law_well_here"] t.B8 t.Cj
 kl:dA K mg "_law_value" k_ ["_law_well_here","_law_kind"] t.z_ t.Af
 tK:dA K mg "_law_key" qG ["_law_well_here"] t.EH t.EJ
 nH:dA K mg "_law_leaf" ka ["_law_well_here","_law_columns_here"] t.B9 t.Ck
 bZ:dA K mg "_law_sieve" la ["_law_well_here","_law_columns_here","_law_deep","_law_room"] t.Aa t.Ag
 cY:dA K mg "_law_value_text" eI ["_law_value_here"] t.nB t.nD
 aJ:dA K mg "_law_sieve_text" cU ["_law_sieve_here"] t.nC t.nE
 bc:dA K mg "_law_are_figures" cF ["_law_text","_law_most"] t.mi t.mq
 iz:dA K mg "_law_fits" fN ["_law_kind","_law_text"] t.B_ t.Cm
 nI:dA K mg "_law_told" nA ["_law_text"] t.Ca t.Co
 bP:dA K mg "_law_is_value_text" cV ["_law_text"] t.ke t.kf
 iA:dA K mg "_law_is_key" gq ["_law_text"] t.vp t.vA
 iB:dA K mg "_law_menu" kc ["_law_well_here","_law_columns_here"] t.Cb t.Cp
 fQ:dA K mg "_law_spoiled" ic ["_law_well_here","_law_columns_here","_law_text"] t.sY t.tG
 fR:dA K mg "_law_leaf_at" ie ["_law_words","_law_at"] t.sZ t.tH
 dq:dA K mg "_law_inner_at" gu ["_law_words","_law_at"] t.qM t.qT
 bB:dA K mg "_law_sieve_at" gv ["_law_words","_law_at"] t.qN t.qU
 aY:dA K mg "_law_is_right" cW ["_law_columns_here","_law_sieve_here"] t.qO t.qV
 fS:dA K mg "_law_deepest" ig ["_law_words"] t.s_ t.tI
 lS:dA K mg "_law_due" qH ["_law_columns_here","_law_text"] t.EI t.EK
 cZ:dA K mg "_law_found" lg ["_law_columns_here","_law_text"] t.Ab t.Ah
 km:dA K mg "_law_great" lh ["_law_well_here"] t.Ac t.Ai
 PL:dA K mg "law" wY ["_law_script"] t.Ga t.Cq
 jB:mg "MOST_NAME_SIGNS" = some (.int 8 t.kg)
 ko:mg "MOST_KEY_SIGNS" = some (.int 12 t.lx)
 jC:mg "MOST_WORD_SIGNS" = some (.int 40 t.kh)
 gw:mg "MOST_NUMBER_FIGURES" = some (.int 60 t.gP)
 qX:mg "MOST_DEEP" = some (.int 8 t.tJ)
 oT:mg "MOST_PARTS" = some (.int 200 t.qW)
 jD:mg "MOST_IN_A_TUPLE" = some (.int 8 t.ki)
 mr:mg "COLUMN_WORDS" = some (.ref t.eJ)
 mv:∀H,Rv K H (.kt [.str "is",.str "below",.str "above",.str "begins"]) (.ref t.eJ)
 vB:mg "LENGTHS" = some (.ref t.pW)
 Aj:KJ w K t.pW [("every",.int 1),("is",.int 3),("below",.int 3),("above",.int 3),("begins",.int 3),("key",.int 2),("not",.int 2),("and",.int 2),("or",.int 2)]
 aX:mg "len" = none
 fm:mg "all" = none
 aq:mg "isinstance" = none
 iY:mg "range" = none
 nJ:mg "int" = none
 iC:mg "str" = none
 H_:mg "bool" = none
 cG:mg "tuple" = none
 Ia:mg "list" = none
 Cr:mg "dict" = none
 LJ:mg "max" = none
 qY:mg "ValueError" = none
 qZ:mg "PageError" = some (.ref t.dM)
 iD:excIn K t.dM L2.uU "ValueError.__new__" = true
 oU:mg "BadColumns" = some (.ref t.cX)
 Ak:mg "BadRow" = some (.ref t.ij)
 tL:mg "BadOrder" = some (.ref t.eK)
 iE:mg "BadSieve" = some (.ref t.av)
 eP:excIn K t.av L2.uU "ValueError.__new__" = true
 Al:mg "NoMark" = some (.ref t.ik)
 fT:mg "NoText" = some (.ref t.az)
 eQ:excIn K t.az L2.uU "ValueError.__new__" = true
 iF:XA K t.av
 lz:XA K t.az
 bU:mroIn K t.av (.ref t.dM)=some true
 cJ:mroIn K t.az (.ref t.dM)=some true
 k_BadSieve_BadColumns:kitOne K (.ref t.av) (.ref t.cX)=some false
 k_BadSieve_BadRow:kitOne K (.ref t.av) (.ref t.ij)=some false
 k_BadSieve_BadOrder:kitOne K (.ref t.av) (.ref t.eK)=some false
 k_BadSieve_BadSieve:kitOne K (.ref t.av) (.ref t.av)=some true
 k_BadSieve_NoMark:kitOne K (.ref t.av) (.ref t.ik)=some false
 k_BadSieve_NoText:kitOne K (.ref t.av) (.ref t.az)=some false
 k_BadSieve_ValueError:kitOne K (.ref t.av) (.type "ValueError")=some true
 k_NoText_BadColumns:kitOne K (.ref t.az) (.ref t.cX)=some false
 k_NoText_BadRow:kitOne K (.ref t.az) (.ref t.ij)=some false
 k_NoText_BadOrder:kitOne K (.ref t.az) (.ref t.eK)=some false
 k_NoText_BadSieve:kitOne K (.ref t.az) (.ref t.av)=some false
 k_NoText_NoMark:kitOne K (.ref t.az) (.ref t.ik)=some false
 k_NoText_NoText:kitOne K (.ref t.az) (.ref t.az)=some true
 k_NoText_ValueError:kitOne K (.ref t.az) (.type "ValueError")=some true
 bl:∀(s:Shared) (u:Value),BindsTo s t.Cq ⟨[u],[]⟩ [("_law_script",u)]
theorem tM:ah ["thing"] ["thing"] (ae jv):=dR
theorem q9:ah ["sign"] ["sign"] (ae h_):=dR
theorem q_:ah ["sign"] ["sign"] (ae ia):=dR
theorem vC:ah ["thing"] ["thing"] (ae iW):=dR
theorem Am:ah ["thing"] ["thing"] (ae j9):=dR
theorem vE:ah ["thing"] ["thing"] (ae iX):=dR
theorem tN:ah ["kind","thing"] ["kind","thing"] (ae jw):=dR
theorem oV:ah ["columns","name"] ["columns","name"] (ae gj):=dR
theorem oW:ah ["value"] ["value"] (ae gk):=dR
theorem lA:ah ["text"] ["text"] (ae dS):=dR
theorem lB:ah ["text"] ["text"] (ae dU):=dR
theorem fq:ah ["text","most","figures"] ["text","most"] (ae bY):=dR
theorem bj:ah ["columns","sieve","level","deep","parts"] ["columns","sieve"] (ae dD):=dR
theorem rf:ah ["columns","thing"] ["columns","thing"] (ae fi):=dR
theorem kr:ah ["thing"] ["thing"] (ae dm):=dR
theorem iG:ah ["columns","sieve","kind"] ["columns","sieve"] (ae fA):=dR
theorem dr:ah ["sieves","found","sieve"] ["sieves"] (ae dW):=dR
theorem jj:ah ["columns","text","sieve"] ["columns","text"] (ae gm):=dR
theorem ft:ah ["text","unclosed","word","sieve"] ["text"] (ae jx):=dR
theorem iH:ah ["things","word","inner"] ["things"] (ae jy):=dR
theorem rg:ah ["things"] ["things"] (ae fj):=dR
theorem oX:ah ["things"] ["things"] (ae eu):=dR
theorem tO:ah ["text"] ["text"] (ae jz):=dR
theorem lC:ah ["word"] ["word"] (ae dX):=dR
theorem lE:ah ["_law_script","_law_k","_law_cell"] ["_law_script","_law_k"] (ae ny):=dR
theorem iZ:ah ["_law_well_here","_law_most","_law_number_here"] ["_law_well_here","_law_most"] (ae nz):=dR
theorem c_:ah ["_law_well_here","_law_names","_law_found_here","_law_k","_law_name"] ["_law_well_here"] (ae ib):=dR
theorem lT:ah ["_law_well_here","_law_way"] ["_law_well_here"] (ae jA):=dR
theorem lF:ah ["_law_well_here","_law_way","_law_signs"] ["_law_well_here"] (ae j_):=dR
theorem vF:ah ["_law_well_here","_law_kind"] ["_law_well_here","_law_kind"] (ae k_):=dR
theorem tP:ah ["_law_well_here","_law_some"] ["_law_well_here"] (ae qG):=dR
theorem fU:ah ["_law_well_here","_law_columns_here","_law_way","_law_name","_law_kind","_law_value_here"] ["_law_well_here","_law_columns_here"] (ae ka):=dR
theorem eR:ah ["_law_well_here","_law_columns_here","_law_deep","_law_room","_law_way","_law_inner","_law_k"] ["_law_well_here","_law_columns_here","_law_deep","_law_room"] (ae la):=dR
theorem mw:ah ["_law_value_here"] ["_law_value_here"] (ae eI):=dR
theorem bw:ah ["_law_sieve_here","_law_words"] ["_law_sieve_here"] (ae cU):=dR
theorem lG:ah ["_law_text","_law_most"] ["_law_text","_law_most"] (ae cF):=dR
theorem lH:ah ["_law_kind","_law_text","_law_parts","_law_bare"] ["_law_kind","_law_text"] (ae fN):=dR
theorem An:ah ["_law_text"] ["_law_text"] (ae nA):=dR
theorem jE:ah ["_law_text"] ["_law_text"] (ae cV):=dR
theorem tQ:ah ["_law_text"] ["_law_text"] (ae gq):=dR
theorem du:ah ["_law_well_here","_law_columns_here","_law_some"] ["_law_well_here","_law_columns_here"] (ae kc):=dR
theorem de:ah ["_law_well_here","_law_columns_here","_law_text","_law_words","_law_at","_law_way","_law_other"] ["_law_well_here","_law_columns_here","_law_text"] (ae ic):=dR
theorem gy:ah ["_law_words","_law_at","_law_end"] ["_law_words","_law_at"] (ae ie):=dR
theorem dE:ah ["_law_words","_law_at","_law_found_here","_law_one"] ["_law_words","_law_at"] (ae gu):=dR
theorem bC:ah ["_law_words","_law_at","_law_word_here","_law_found_here"] ["_law_words","_law_at"] (ae gv):=dR
theorem fB:ah ["_law_columns_here","_law_sieve_here","_law_kinds"] ["_law_columns_here","_law_sieve_here"] (ae cW):=dR
theorem bM:ah ["_law_words","_law_deep","_law_most","_law_word_here"] ["_law_words"] (ae ig):=dR
theorem nK:ah ["_law_columns_here","_law_text","_law_words","_law_found_here"] ["_law_columns_here","_law_text"] (ae qH):=dR
theorem eT:ah ["_law_columns_here","_law_text","e","_law_sieve_here","_law_some"] ["_law_columns_here","_law_text"] (ae lg):=dR
theorem cK:ah ["_law_well_here","_law_way","_law_many","_law_inner","_law_middle","_law_rest","_law_few"] ["_law_well_here"] (ae lh):=dR
theorem dw:ah ["_law_script","_law_well_here","_law_columns_here","_law_k","_law_sieve_here","_law_text","_law_turn","_law_others","_law_some","_law_one","_law_thing"] ["_law_script"] (ae wY):=dR
theorem gz(h:n≤100000):n<sizeLine:=by rw[yn];lia
theorem sm(h:n≤100000):n≤sizeLine:=Nat.le_of_lt (gz h)
abbrev Ri(P:Program)(w:World)(K:Frag)(mg:Str→Option Value)(base:Heap)(k:Nat)(f:Addr)(fd:FuncData)(ps:List Str)(sp:jg):Prop:=cI P w K mg base (jM P w) k f fd ps (u7 K sp)
def Gt(S:aN)(d:D):Prop:=(∃k,BB S d k)∧∀z,d=.str z→z.cps.size≤100000
def isLet(c:Nat):Bool:=decide (97≤c) && decide (c≤122)
def cA(c:Nat):Bool:=decide (48≤c) && decide (c≤57)
def lU(c:Nat):Bool:=decide (32≤c) && decide (c≤126)
def lV(z:Str):Bool:=decide (1≤z.cps.size) && decide (z.cps.size≤8) && z.cps.toList.all isLet
def eA(z:Str):Bool:=decide (1≤z.cps.size) && decide (z.cps.size≤12) && (z.cps.toList.head?.any isLet) && z.cps.toList.all fun c=>isLet c || cA c
def dj(z:Str):Bool:=decide (z.cps.size≤40) && z.cps.toList.all lU
def ofStr(f:Str→Bool):D→Bool
 |.str z=>f z
 |_=>false
def nL:D→Bool
 |.int _=>true
 |_=>false
def mx(kind:Str)(d:D):Bool:=fz d || if kind = "number" then nL d else ofStr dj d
def Ao(f:D→Bool):jg:=fun ds S R _=>∃d,ds=[d]∧Gt S d∧R (.bl (f d)) S
def Cs(f:Nat→Bool):jg:=fun ds S R _=>∃c,ds=[.str ⟨#[c]⟩]∧R (.bl (f c)) S
theorem lW:∀{xs ys:List D}{a b:D},Paired rel xs ys→rel a b→Paired rel (xs++[a]) (ys++[b])
 |_,_,_,_,.nil,r=>.cons r .nil
 |_,_,_,_,.cons q t,r=>.cons q (lW t r)
theorem take_snoc{α:Type}{l:List α}{i:Nat}{d:α}(h:l[i]?=some d):l.take (i+1)=l.take i++[d]:=by
 rw[List.take_add_one,h];rfl
theorem iI{I:BD}{S1:aN}{g:wL}{te:TD}{σ:SD}{src:List (Option Nat)}{R:KD}(rel:D→D→Prop)(aS:I.ok S1)(hz:I.xs.length≤100000)
  (step:∀d,d∈I.xs→∀Q:KD,(∀v,rel d v→Q v S1)→g d (sI σ src) S1 fun iO S3=>te iO S3 Q Zf) (fin:∀out,Paired rel I.xs out→∀p,S1 p=none→R (.ref p) (S1.set p (.lst out))) :
  BG σ src g pL te R I S1:=by
 refine⟨fun i out S=>S=S1∧Paired rel (I.xs.take i) out,⟨rfl,.nil⟩,fun i out S h=>by rw[h.1];exact aS,?_,?_⟩
 ·rintro i d out S hd ⟨rfl,hp⟩
  have hlen:=Paired.length hp
  rw[List.length_take] at hlen
  refine⟨gz (by lia),?_⟩
  have e:(fun (iO:SD) (S3:aN)=>pL iO S3 (fun b S4=>if b=true then te iO S4 (fun v S5=>S5=S∧Paired rel (I.xs.take (i+1)) (out++[v])) Zf else S4=S∧Paired rel (I.xs.take (i+1)) out) Zf)=fun iO S3=>te iO S3 (fun v S5=>S5=S∧Paired rel (I.xs.take (i+1)) (out++[v])) Zf:=by
   funext iO S3
   simp [pL]
  rw[e]
  exact step d (z0 hd) _ fun v hv=>⟨rfl,by rw[take_snoc hd];exact lW hp hv⟩
 ·rintro out S2 ⟨rfl,hp⟩
  rw[List.take_length] at hp
  exact fin out hp
theorem nM:∀{xs out:List D},Paired (fun d v=>v=f d) xs out→out=xs.map f
 |_,_,.nil=>rfl
 |_,_,.cons r t=>by rw[r,nM t];rfl
theorem comp_map(f:D→D)(aS:I.ok S1)(hz:I.xs.length≤100000)
  (step:∀d,d∈I.xs→∀Q:KD,Q (f d) S1→g d (sI σ src) S1 fun iO S3=>te iO S3 Q Zf) (fin:∀p,S1 p=none→R (.ref p) (S1.set p (.lst (I.xs.map f)))) :
  BG σ src g pL te R I S1 :=
 iI (fun d v=>v=f d) aS hz (fun d hd Q h=>step d hd Q (h _ rfl)) fun out hp p M0=>by rw[nM hp];exact fin p M0
variable{P:Program}{w:World}{K:Frag}{mg:Str→Option Value}{base:Heap}{t:F_}
theorem tR(T:Txt w K mg t):Ok P w base T.ip 1 (Ao nL):=by
 refine T.ip.F.ok tM (by rintro ds S R Z ⟨d,e,_⟩;exact by rw[e];rfl) (fun dh A outer s H E ds S R Z hr ⟨d,e,⟨⟨k,hk⟩,hz⟩,q⟩=>?_)
 subst e
 refine⟨_,(s1 (sr (qr (cb eG T.aq ai (ac (dv 0) (ac (uB T.nJ jr) an))) (yS (OO (cb eG T.aq ai (ac (dv 0) (ac (uB T.H_ D9) an)))))))),?_⟩
 refine⟨_,rfl,_,_,_,_,rfl,wF,hk,_,rfl,?_⟩
 have:(qj k=true∧((nL d=true∧qk k=false)∨(nL d=false∧qk k=true)))∨(qj k=false∧nL d=false):=by
  cases d with
  |aK=>cases hk;exact .inr ⟨rfl,rfl⟩
  |bl b=>cases hk;exact .inl ⟨rfl,.inr ⟨rfl,rfl⟩⟩
  |int b=>cases hk;exact .inl ⟨rfl,.inl ⟨rfl,rfl⟩⟩
  |str b=>cases hk;exact .inr ⟨rfl,rfl⟩
  |tup b=>cases hk;exact .inr ⟨rfl,rfl⟩
  |ref a=>rcases hk with ⟨rfl,_⟩|⟨rfl,_⟩ <;> exact .inr ⟨rfl,rfl⟩
  |_=>exact hk.elim
 rcases this with ⟨h1,h2⟩|⟨h1,h2⟩
 ·rw[h1]
  refine bf ⟨_,rfl,_,_,_,_,rfl,Bo,hk,_,rfl,?_⟩
  rcases h2 with ⟨h2,h3⟩|⟨h2,h3⟩ <;> (rw[h3];rw[h2] at q;exact fo q)
 ·rw[h1]
  rw[h2] at q
  exact aM (fo q)
theorem gA(T:Txt w K mg t):Ok P w base T.bG 1 (Cs isLet):=by
 refine T.bG.F.ok q9 (by rintro ds S R Z ⟨d,e,_⟩;exact by rw[e];rfl) (fun dh A outer s H E ds S R Z hr ⟨c,e,q⟩=>?_)
 subst e
 refine⟨_,(s1 (sr (cc df df hr.units ds (dv 0) ds))),?_⟩
 refine⟨_,rfl,_,rfl,?_⟩
 have e1:om "a" ⟨#[c]⟩=decide (97≤c):=bE 97 c
 have e2:om ⟨#[c]⟩ "z" = decide (c≤122):=bE c 122
 unfold isLet at q
 refine aQ (fun h=>?_) (fun h=>?_)
 ·rw[e1.symm.trans h,zq,← e2] at q
  exact fo q
 ·rw[e1.symm.trans h,zl] at q
  exact fo q
theorem ku(T:Txt w K mg t):Ok P w base T.cN 1 (Cs cA):=by
 refine T.cN.F.ok q_ (by rintro ds S R Z ⟨d,e,_⟩;exact by rw[e];rfl) (fun dh A outer s H E ds S R Z hr ⟨c,e,q⟩=>?_)
 subst e
 refine⟨_,(s1 (sr (cc df df hr.units ds (dv 0) ds))),?_⟩
 refine⟨_,rfl,_,rfl,?_⟩
 have e1:om "0" ⟨#[c]⟩=decide (48≤c):=bE 48 c
 have e2:om ⟨#[c]⟩ "9" = decide (c≤57):=bE c 57
 unfold cA at q
 refine aQ (fun h=>?_) (fun h=>?_)
 ·rw[e1.symm.trans h,zq,← e2] at q
  exact fo q
 ·rw[e1.symm.trans h,zl] at q
  exact fo q
theorem fV(h:d∈aU z):∃c,c∈z.cps.toList∧d=.str ⟨#[c]⟩:=by
 unfold aU at h
 obtain⟨c,hc,e⟩:=zC.mp h
 exact⟨c,hc,e.symm⟩
def d_(f:Nat→Bool):D→D
 |.str z=>.bl (z.cps.toList.head?.any f)
 |_=>.aK
theorem fW:(aU z).map (d_ f)=(z.cps.toList.map f).map D.bl:=by
 unfold aU
 rw[zR,zR]
 rfl
theorem all_map{α:Type}{l:List α}{f:α→Bool} : (l.map f).all id=l.all f:=by
 rw[List.all_map];rfl
theorem i3{z:Str}{f:Nat→Bool}{g:wL}{te:TD}{σ:SD}{src:List (Option Nat)}{S:aN}{R:KD}{Z:KX}{i:Nat}(hv:σ[i]?=some (some (.str z)))(hz:z.cps.size≤100000)
  (step:∀c,c∈z.cps.toList→∀Q:KD,Q (.bl (f c)) S→g (.str ⟨#[c]⟩) (sI σ src) S fun iO S3=>te iO S3 Q Zf) (q:R (.bl (z.cps.toList.all f)) S) :
  KU K6 (wI (BH (FW (KP i)) src g pL te) KQ) σ S (fun d S'=>Fo S' (R d)) Z:=by
 refine⟨_,hv,z,rfl,?_⟩
 refine My.comp_map (I:=⟨aU z,fun _=>True⟩) (d_ f) trivial (by show (aU z).length≤100000;unfold aU;rw[za,zV];exact hz) (fun d hd Q hQ=>?_) fun p hp=>?_
 ·obtain⟨c,hc,rfl⟩:=fV hd
  exact step c hc Q (by simpa [d_] using hQ)
 ·refine⟨.ref p,z.cps.toList.map f,rfl,?_,S,.new hp,?_⟩
  ·show (S.set p (.lst ((aU z).map (d_ f)))) p=_
   rw[aa,fW]
  ·rw[all_map];exact q
theorem nN{S:aN}{d:D}{k:Kd}(hk:BB S d k):(∃z,d=.str z∧ql k=true)∨(ql k=false∧∀f,ofStr f d=false):=by
 cases d with
 |str b=>cases hk;exact .inl ⟨b,rfl,rfl⟩
 |aK=>cases hk;exact .inr ⟨rfl,fun _=>rfl⟩
 |bl b=>cases hk;exact .inr ⟨rfl,fun _=>rfl⟩
 |int b=>cases hk;exact .inr ⟨rfl,fun _=>rfl⟩
 |tup b=>cases hk;exact .inr ⟨rfl,fun _=>rfl⟩
 |ref a=>rcases hk with ⟨rfl,_⟩|⟨rfl,_⟩ <;> exact .inr ⟨rfl,fun _=>rfl⟩
 |_=>exact hk.elim
theorem Ct(hk:BB S d k):(∃ds,d=.tup ds∧jX k=true)∨(jX k=false∧∀ds,d≠.tup ds):=by
 cases d with
 |tup b=>cases hk;exact .inl ⟨b,rfl,rfl⟩
 |aK=>cases hk;exact .inr ⟨rfl,fun _=>nofun⟩
 |bl b=>cases hk;exact .inr ⟨rfl,fun _=>nofun⟩
 |int b=>cases hk;exact .inr ⟨rfl,fun _=>nofun⟩
 |str b=>cases hk;exact .inr ⟨rfl,fun _=>nofun⟩
 |ref a=>rcases hk with ⟨rfl,_⟩|⟨rfl,_⟩ <;> exact .inr ⟨rfl,fun _=>nofun⟩
 |_=>exact hk.elim
theorem vG(T:Txt w K mg t):Ok P w base T.kj 2 (Ao (ofStr lV)):=by
 refine T.kj.F.kO vC ?_
 rintro _ _ _ _ _ _ ds S R Z hr ⟨d,e,⟨⟨k,hk⟩,hz⟩,q⟩
 subst e
 refine⟨_,(sc (si (twd (twor (ej (tv (cb eG T.aq ai (ac (dv 0) (ac (uB T.iC eF) an))))) (tw1 (ej (Ji df df hr.units di (cb aW T.aX aI (ac (dv 0) an)) (dg (v:=.int 8) T.jB ⟨_,rfl⟩ fun _=>aF _)))))) (s1 (sr db)) s0) (s1 (sr (cb fe T.fm cQ (ac (pN (N:=["sign"]) (src:=[none]) (pH (ae iW) ["thing"] rfl rfl (by trivial)) (va (dv 0)) (qv (show (["sign"]:List Str).Nodup by trivial)) (ba rfl) bb (fun _ _ _ _ _=>pM) (fun _ _ _ _ _=>(cf ((gA T).mono (by decide)) hr T.bG.m T.bG.k T.bG.b d0 (ac (dv 0) an)))) an))))),?_⟩
 refine⟨_,rfl,_,_,_,_,rfl,dz,hk,_,rfl,?_⟩
 rcases nN hk with ⟨z,rfl,h0⟩|⟨h0,h1⟩
 ·have hz:=hz z rfl
  rw[h0]
  refine aM ?_
  refine⟨_,rfl,_,rfl,⟨sm hz,?_⟩⟩
  refine⟨_,rfl,?_⟩
  have e1:decide ((1:Int)≤(z.length:Nat))=decide (1≤z.cps.size):=by rw[zy];show (1:Int)≤((z.cps.size:Nat):Int)↔_;omega
  have e2:decide (((z.length:Nat):Int)≤8)=decide (z.cps.size≤8):=by rw[zy];show ((z.cps.size:Nat):Int)≤8↔_;omega
  unfold ofStr lV at q
  dsimp only at q
  refine aQ (fun h2=>?_) (fun h2=>?_)
  ·rw[e1.symm.trans h2,zq] at q
   refine⟨_,rfl,?_⟩
   refine aQ (fun h3=>?_) (fun h3=>?_)
   ·rw[e2.symm.trans (nt h3),zl] at q
    exact fo q
   ·rw[e2.symm.trans (nf h3),zq] at q
    exact i3 rfl hz (fun c hc Q hQ=>⟨_,rfl,c,rfl,hQ⟩) q
  ·rw[e1.symm.trans h2,zl,zl] at q
   refine⟨_,rfl,?_⟩
   exact bf (fo q)
 ·rw[h0]
  rw[h1] at q
  exact bf (bf (fo q))
def bq(c:Str×Str):D:=.tup [.str c.1,.str c.2]
def Gd(cs:List (Str×Str)):Prop:=cs.length≤8∧(cs.map Prod.fst).Nodup∧∀c∈cs,lV c.1=true∧(c.2 = "number" ∨ c.2 = "word")
theorem Ap(T:Txt w K mg t):Ok P w base T.nF 2 (Ao (ofStr eA)):=by
 refine T.nF.F.ok Am (by rintro ds S R Z ⟨d,e,_⟩;exact by rw[e];rfl) (fun dh A outer s H E ds S R Z hr ⟨d,e,⟨⟨k,hk⟩,hz⟩,q⟩=>?_)
 subst e
 refine⟨_,(sc (si (twd (twor (ej (tv (cb eG T.aq ai (ac (dv 0) (ac (uB T.iC eF) an))))) (tw1 (ej (Ji df df hr.units di (cb aW T.aX aI (ac (dv 0) an)) (dg (v:=.int 12) T.ko ⟨_,rfl⟩ fun _=>aF _)))))) (s1 (sr db)) s0) (sc (si (ej (tv (cf ((gA T).mono (by decide)) hr T.bG.m T.bG.k T.bG.b d0 (ac (ix hr.units (dv 0) di) an)))) (s1 (sr db)) s0) (s1 (sr (cb fe T.fm cQ (ac (pN (N:=["sign"]) (src:=[none]) (pH (ae j9) ["thing"] rfl rfl (by trivial)) (va (dv 0)) (qv (show (["sign"]:List Str).Nodup by trivial)) (ba rfl) bb (fun _ _ _ _ _=>pM) (fun _ _ _ _ _=>(MN (cf ((gA T).mono (by decide)) hr T.bG.m T.bG.k T.bG.b d0 (ac (dv 0) an)) (yS (cf ((ku T).mono (by decide)) hr T.cN.m T.cN.k T.cN.b d0 (ac (dv 0) an)))))) an)))))),?_⟩
 refine⟨_,rfl,_,_,_,_,rfl,dz,hk,_,rfl,?_⟩
 rcases nN hk with ⟨z,rfl,h0⟩|⟨h0,h1⟩
 ·have hz:=hz z rfl
  rw[h0]
  refine aM ?_
  refine⟨_,rfl,_,rfl,⟨sm hz,?_⟩⟩
  refine⟨_,rfl,?_⟩
  have e1:decide ((1:Int)≤(z.length:Nat))=decide (1≤z.cps.size):=by rw[zy];show (1:Int)≤((z.cps.size:Nat):Int)↔_;omega
  have e2:decide (((z.length:Nat):Int)≤12)=decide (z.cps.size≤12):=by rw[zy];show ((z.cps.size:Nat):Int)≤12↔_;omega
  unfold ofStr eA at q
  dsimp only at q
  refine aQ (fun h2=>?_) (fun h2=>?_)
  ·have uV:=e1.symm.trans h2
   rw[uV,zq] at q
   refine⟨_,rfl,?_⟩
   refine aQ (fun h3=>?_) (fun h3=>?_)
   ·rw[e2.symm.trans (nt h3),zl,zl] at q
    exact fo q
   ·rw[e2.symm.trans (nf h3),zq] at q
    obtain⟨c,r,ec⟩:=len_pos (z:=z) (ze uV)
    have eh:z.cps.toList.head?.any isLet=isLet c:=by rw[ec];rfl
    rw[eh] at q
    refine⟨_,rfl,c,sm hz,yL ec,c,rfl,_,rfl,?_⟩
    refine aQ (fun h4=>?_) (fun h4=>?_)
    ·rw[nt h4,zl] at q
     exact fo q
    ·rw[nf h4,zq] at q
     refine i3 (f:=fun c=>isLet c || cA c) rfl hz (fun c hc Q hQ=>?_) q
     refine⟨_,rfl,c,rfl,_,rfl,?_⟩
     refine aQ (fun h5=>?_) (fun h5=>?_)
     ·rw[h5,Bool.true_or] at hQ
      exact hQ
     ·rw[h5,ym] at hQ
      exact⟨_,rfl,c,rfl,hQ⟩
  ·rw[e1.symm.trans h2,zl,zl,zl] at q
   refine⟨_,rfl,?_⟩
   exact bf (fo q)
 ·rw[h0]
  rw[h1] at q
  exact bf (bf (fo q))
theorem nO(T:Txt w K mg t):Ok P w base T.fk 2 (Ao (ofStr dj)):=by
 refine T.fk.F.ok vE (by rintro ds S R Z ⟨d,e,_⟩;exact by rw[e];rfl) (fun dh A outer s H E ds S R Z hr ⟨d,e,⟨⟨k,hk⟩,hz⟩,q⟩=>?_)
 subst e
 refine⟨_,(sc (si (twd (twor (ej (tv (cb eG T.aq ai (ac (dv 0) (ac (uB T.iC eF) an))))) (tw1 (aT m9 hr.units (cb aW T.aX aI (ac (dv 0) an)) (dg (v:=.int 40) T.jC ⟨_,rfl⟩ fun _=>aF _))))) (s1 (sr db)) s0) (s1 (sr (cb fe T.fm cQ (ac (pN (N:=["sign"]) (src:=[none]) (pH (ae iX) ["thing"] rfl rfl (by trivial)) (va (dv 0)) (qv (show (["sign"]:List Str).Nodup by trivial)) (ba rfl) bb (fun _ _ _ _ _=>pM) (fun _ _ _ _ _=>(cc df df hr.units ds (dv 0) ds))) an))))),?_⟩
 refine⟨_,rfl,_,_,_,_,rfl,dz,hk,_,rfl,?_⟩
 rcases nN hk with ⟨z,rfl,h0⟩|⟨h0,h1⟩
 ·have hz:=hz z rfl
  rw[h0]
  refine aM ?_
  refine⟨_,rfl,_,rfl,⟨sm hz,?_⟩⟩
  refine⟨_,rfl,?_⟩
  have e2:decide ((40:Int)<((z.length:Nat):Int))=!decide (z.cps.size≤40):=by
   rw[yt];simp only [decide_eq_true_iff,Bool.not_eq_true',decide_eq_false_iff_not];show (40:Int)<((z.cps.size:Nat):Int)↔_;omega
  unfold ofStr dj at q
  dsimp only at q
  refine aQ (fun h3=>?_) (fun h3=>?_)
  ·rw[nt (e2.symm.trans h3),zl] at q
   exact fo q
  ·rw[nf (e2.symm.trans h3),zq] at q
   refine i3 (f:=lU) rfl hz (fun c hc Q hQ=>?_) q
   refine⟨_,rfl,_,rfl,?_⟩
   have e3:om " " ⟨#[c]⟩=decide (32≤c):=bE 32 c
   have e4:om ⟨#[c]⟩ "~" = decide (c≤126):=bE c 126
   unfold lU at hQ
   refine aQ (fun h=>?_) (fun h=>?_)
   ·rw[e3.symm.trans h,zq,← e4] at hQ
    exact hQ
   ·rw[e3.symm.trans h,zl] at hQ
    exact hQ
 ·rw[h0]
  rw[h1] at q
  exact bf (bf (fo q))
theorem tS(T:Txt w K mg t):Ok P w base T.iq 3 (fun ds S R _=>∃kind d,ds=[.str kind,d]∧Gt S d∧R (.bl (mx kind d)) S):=by
 refine T.iq.F.ok tN (by rintro ds S R Z ⟨d,d',e,_⟩;exact by rw[e];rfl) (fun dh A outer s H E ds S R Z hr ⟨kind,d,e,hd,q⟩=>?_)
 subst e
 refine⟨_,(sc (si (aT qt hr.units (dv 1) dn) (s1 (sr db)) s0) (sc (si (aT aP hr.units (dv 0) ds) (s1 (sr (cf ((tR T).mono (by decide)) hr T.ip.m T.ip.k T.ip.b d0 (ac (dv 1) an)))) s0) (s1 (sr (cf ((nO T).mono (by decide)) hr T.fk.m T.fk.k T.fk.b d0 (ac (dv 1) an)))))),?_⟩
 refine⟨_,rfl,_,rfl,?_⟩
 unfold mx at q
 refine aQ (fun h=>?_) (fun h=>?_)
 ·rw[h,Bool.true_or] at q
  exact fo q
 ·rw[h,ym] at q
  refine⟨_,rfl,_,rfl,?_⟩
  refine aQ (fun h=>?_) (fun h=>?_)
  ·rw[if_pos (ze h)] at q
   exact⟨_,rfl,d,rfl,hd,fo q⟩
  ·rw[if_neg (zj h)] at q
   exact⟨_,rfl,d,rfl,hd,fo q⟩
theorem gt_str(h:z.cps.size≤100000):Gt S (.str z):=⟨⟨.str,rfl⟩,fun y e=>by cases e;exact h⟩
def Ly(S:aN)(n:Nat)(d:D):Prop:=∃p,Dp S d p∧p.canLay0=true∧p.depth≤n
theorem Ly.all:∀{ds:List D},(∀d∈ds,Ly S n d)→∃ps:List PyData,DpAll S ds ps∧PyData.canLayAll0 ps=true∧PyData.depthAll ps≤n∧ps.length=ds.length
 |[],_=>⟨[],by simp only [DpAll],rfl,yj _,rfl⟩
 |d::ds,h=>by
  obtain⟨p,h1,h2,h3⟩:=h d zf
  obtain⟨ps,k1,k2,k3,k4⟩:=Ly.all fun x hx=>h x (zd _ hx)
  refine⟨p::ps,by simp only [DpAll];exact⟨p,ps,rfl,h1,k1⟩,by simp only [PyData.canLayAll0,h2,k2,Bool.and_self],by simp only [PyData.depthAll];lia,by rw[zb,zb,k4]⟩
theorem Ly.tup{S:aN}{n:Nat}{ds:List D}(h:∀d∈ds,Ly S n d):Ly S (n+1) (.tup ds):=by
 obtain⟨ps,k1,k2,k3,_⟩:=Ly.all h
 exact⟨.tuple ps,by simp only [Dp];exact⟨ps,rfl,k1⟩,by simp only [PyData.canLay0];exact k2,by simp only [PyData.depth];lia⟩
theorem Ly.str(h:PyData.strOk z=true):Ly S 0 (.str z):=⟨.str z,by simp only [Dp],by simp only [PyData.canLay0];exact h,by simp only [PyData.depth];lia⟩
theorem Ly.le(h:Ly S n d)(l:n≤m):Ly S m d:=by obtain⟨p,a,b,c⟩:=h;exact⟨p,a,b,zG c l⟩
theorem Ly.aK:Ly S 0 .aK:=⟨.none,by simp only [Dp],by simp only [PyData.canLay0],by simp only [PyData.depth];lia⟩
theorem Ly.dl(h:Ly S n d):∃p,Dl S d p∧p.canLay0=true∧p.depth≤n:=by
 obtain⟨p,a,b,c⟩:=h
 refine⟨p,?_,b,c⟩
 cases d with
 |ref x=>simp only [Dp] at a
 |_=>exact a
theorem tT(ps:List PyData):PyData.eqv (.tuple ps) (.tuple [])=ps.isEmpty:=by cases ps <;> simp [PyData.eqv,PyData.eqvAll]
theorem EL{S:aN}{ds:List D}{R:KD}(h:∀d∈ds,Ly S 60 d)(q:R (.bl ds.isEmpty) S):Ek false (.tup ds) (.tup []) S R:=by
 obtain⟨ps,k1,k2,k3,k4⟩:=Ly.all h
 refine⟨.tuple ps,.tuple [],by simp only [Dl,Dp];exact⟨ps,rfl,k1⟩,by simp only [Dl,Dp];exact⟨[],rfl,by simp only [DpAll]⟩,by simp only [PyData.canLay0];exact k2,by simp only [PyData.canLay0,PyData.canLayAll0],.inl (by simp only [PyData.depth];lia),?_⟩
 rw[if_neg zk,tT,show ps.isEmpty=ds.isEmpty by cases ps <;> cases ds <;> first|rfl|cases k4];exact q
theorem tU:∀(ws us:List Str),PyData.eqv (.list (ws.map PyData.str)) (.list (us.map PyData.str))=decide (ws=us)
 |[],[]=>by simp [PyData.eqv,PyData.eqvAll]
 |[],_::_=>by simp [PyData.eqv,PyData.eqvAll]
 |_::_,[]=>by simp [PyData.eqv,PyData.eqvAll]
 |w::ws,u::us=>by
  have ih:=tU ws us
  simp only [PyData.eqv] at ih
  simp only [zz,PyData.eqv,PyData.eqvAll,ih]
  by_cases h:w=u <;> by_cases h2:ws=us <;> simp [h,h2]
theorem kx:∀{ws:List Str},(∀z∈ws,PyData.strOk z=true)→PyData.canLayAll0 (ws.map PyData.str)=true∧PyData.depthAll (ws.map PyData.str)=0
 |[],_=>⟨rfl,rfl⟩
 |w::ws,h=>by
  obtain⟨h1,h2⟩:=kx fun z hz=>h z (zd _ hz)
  refine⟨?_,?_⟩
  ·simp only [zz,PyData.canLayAll0,PyData.canLay0,h w zf,h1,Bool.and_self]
  ·simp only [zz,PyData.depthAll,PyData.depth,h2];lia
theorem rh:∀(ws:List Str),DpAll S (ws.map D.str) (ws.map PyData.str)
 |[]=>by simp only [List.map_nil,DpAll]
 |w::ws=>by simp only [zz,DpAll];exact⟨_,_,rfl,by simp only [Dp],rh ws⟩
theorem cg:PyData.strOk z=true↔∀c∈z.cps.toList,c<1114112:=by
 unfold PyData.strOk
 rw[Array.all_eq_true']
 constructor
 ·intro h c hc;exact ze (h c (Array.mem_toList_iff.mp hc))
 ·intro h c hc;exact zr (h c (Array.mem_toList_iff.mpr hc))
def cL(z:Str):List Str:=Txt.split z " "
theorem kz(a:Str):∀l:List Str,Txt.join a l=a.join l
 |[]=>by rw[PyProof.Rows.join_nil];rfl
 |x::r=>PySem.StrLaws.glued_cons a r x
theorem jF(z:Str):((cL z).map (·.length)).sum+(cL z).length≤z.length+1:=PyProof.Rows.split_weight z " " (by decide)
theorem wZ{l:List Nat}{x:Nat}(h:x∈l):x≤l.sum:=by
 induction l with
 |nil=>cases h
 |cons a l ih =>
  rw[yy]
  rcases zc.mp h with e|h
  ·lia
  ·have:=ih h;lia
theorem rj(z:Str):(cL z).length≤z.length+1:=by have:=jF z;lia
theorem w5(z:Str):1≤(cL z).length:=PyProof.Rows.split_pos z " "
theorem w6{z p:Str}(h:p∈cL z):p.length≤z.length:=by
 have h1:=wZ (zC.mpr ⟨p,h,rfl⟩:p.length∈(cL z).map (·.length))
 have h2:=jF z
 have h3:1≤(cL z).length:=w5 z
 lia
theorem Cu(z:Str):(" " : Str).join (cL z)=z:=PySem.StrLaws.join_split z " "
theorem rk(h:p∈cL z)(hz:PyData.strOk z=true):PyData.strOk p=true:=by
 rw[cg] at hz ⊢
 intro c hc
 refine hz c ?_
 rw[← Cu z,PyProof.Rows.mem_join]
 exact .inl ⟨p,h,hc⟩
theorem EM(ha:PyData.strOk a=true)(h:∀p∈l,PyData.strOk p=true):PyData.strOk (Txt.join a l)=true:=by
 rw[kz,cg]
 intro c hc
 rw[PyProof.Rows.mem_join] at hc
 rcases hc with ⟨p,hp,hc⟩|⟨_,hc⟩
 ·exact cg.mp (h p hp) c hc
 ·exact cg.mp ha c hc
theorem Cv(a:Str)(l:List Str):(Txt.join a l).length≤(l.map (·.length)).sum+l.length * a.length:=by
 rw[kz];exact PySem.StrLaws.join_length_le a l
theorem Ib{l:List Str}{n:Nat}(h:∀p∈l,p.length≤n):(l.map (·.length)).sum≤l.length * n:=by
 induction l with
 |nil=>exact yj _
 |cons a l ih =>
  rw[zz,yy,zb,Nat.succ_mul]
  have h1:=h a zf
  have h2:=ih fun p hp=>h p (zd _ hp)
  lia
theorem rl(a b:Str):eqV (.str a) (.str b)=decide (a=b):=by show (a == b)=_;by_cases h:a=b <;> simp [h]
theorem gB(z:Str):∀ws:List Str,uA (gU (.str z)) ((ws.map D.str).map gU)=decide (z∈ws)
 |[]=>rfl
 |w::ws=>by
  show (eqV (.str w) (.str z) || uA (gU (.str z)) ((ws.map D.str).map gU))=_
  rw[gB z ws,rl]
  by_cases h:w=z
  ·rw[zr h,Bool.true_or,zr (zc.mpr (.inl h.symm))]
  ·rw[zh h,ym,zy]
   exact⟨fun q=>zd _ q,fun q=>(zc.mp q).resolve_left fun e=>h e.symm⟩
theorem pX(ws:List Str):(ws.map D.str).all g9=true:=by
 rw[List.all_map];exact zS.mpr fun _ _=>rfl
def brk(ws:List Str):Bool:=decide (("(" : Str)∈ws) || decide ((")" : Str)∈ws)
theorem f9(h:i<xs.length):gT xs ((i:Nat):Int)=xs[i]?:=by
 unfold gT AL
 rw[if_pos (by lia),if_pos (by lia)];rfl
theorem EN(h:k≤xs.length)(h1:1≤k):gT xs (-((k:Nat):Int))=xs[xs.length - k]?:=by
 unfold gT AL
 rw[if_neg (by lia),if_pos (by lia)]
 have:(-((k:Nat):Int)+(xs.length:Int)).toNat=xs.length - k:=by lia
 rw[this];rfl
theorem Ie{ws:List Str}{i:Nat}(h:i<ws.length):(ws.map D.str)[i]?=some (.str (ws.getD i "")):=by
 rw[zZ,List.getD_eq_getElem?_getD,zJ h];rfl
theorem EO(l:List α)(h:b≤l.length)(h1:a≤b):ay l (some ((a:Nat):Int)) (some ((b:Nat):Int))=(l.drop a).take (b - a):=by
 unfold ay
 rw[HT.sIx_nat,HT.sIx_nat,Nat.min_eq_left h,Nat.min_eq_left (by lia)]
theorem i4{ws:List Str}{a:Nat}(h:a<ws.length):ws.drop a=ws.getD a "" :: ws.drop (a+1):=by
 rw[List.drop_eq_getElem_cons h,List.getD_eq_getElem?_getD,zJ h];rfl
theorem gQ{p:Bool}{A B:Prop}(h:p=false)(q:B):if p=true then A else B:=by rw[h];exact aM q
theorem vH{p:Bool}{A B:Prop}(h:p=true)(q:A):if p=true then A else B:=by rw[h];exact bf q
theorem kd_sub(h:Sub S S')(hk:BB S d k):BB S' d k:=by
 cases d with
 |ref a =>
  rcases hk with ⟨rfl,ds,e⟩|⟨rfl,ds,e⟩
  ·exact .inl ⟨rfl,ds,h _ _ e⟩
  ·exact .inr ⟨rfl,ds,h _ _ e⟩
 |_=>exact hk
theorem Gt.sub(h:Sub S S')(g:Gt S d):Gt S' d:=by
 obtain⟨k,hk⟩:=g.1
 exact⟨⟨k,kd_sub h hk⟩,g.2⟩
theorem rm(h:l.length=1):∃a,l=[a]:=by
 cases l with
 |nil=>cases h
 |cons a l=>exact⟨a,by rw[zD (Nat.succ.inj h)]⟩
theorem Ig(h:l.length=2):∃a b,l=[a,b]:=by
 cases l with
 |nil=>cases h
 |cons a l =>
  obtain⟨b,rfl⟩:=rm (Nat.succ.inj h)
  exact⟨a,b,rfl⟩
def Qd(S:aN):Nat→D→Prop
 |0,d=>Gt S d
 |n+1,d=>Gt S d∧∀ws,d=.tup ws→ws.length≤100000∧∀v∈ws,Qd S n v
theorem Qd.gt(h:Qd S n d):Gt S d:=by cases n <;> first|exact h|exact h.1
theorem Qd.in(h:Qd S (n+1) (.tup ws)):ws.length≤100000∧∀v∈ws,Qd S n v:=h.2 ws rfl
theorem Qd.sub(b:Sub S S'):∀{n:Nat}{d:D},Qd S n d→Qd S' n d:=by
 intro n
 induction n with
 |zero=>exact fun h=>Gt.sub b h
 |succ n ih=>exact fun h=>⟨h.1.sub b,fun ws e=>⟨(h.2 ws e).1,fun v hv=>ih ((h.2 ws e).2 v hv)⟩⟩
def QA(S:aN)(d:D):Prop:=∀n,Qd S n d
theorem QA.in(h:QA S (.tup ws))(hv:v∈ws):QA S v:=fun n=>(h (n+1)).in.2 v hv
theorem Ih(hl:ws.length≤100000)(h:∀v∈ws,QA S v):QA S (.tup ws):=fun n=>by
 have g:Gt S (.tup ws):=⟨⟨.tup,rfl⟩,fun _=>nofun⟩
 cases n with
 |zero=>exact g
 |succ n=>exact⟨g,fun Rj e=>by cases e;exact⟨hl,fun v hv=>h v hv n⟩⟩
theorem Cw(g:Gt S d)(n:∀ws,d≠.tup ws):QA S d:=fun k=>by
 cases k with
 |zero=>exact g
 |succ k=>exact⟨g,fun ws e=>absurd e (n ws)⟩
theorem w_:∀{l:List α}{x y:α},(l.map f).Nodup→x∈l→y∈l→f x=f y→x=y
 |z::l,x,y,nd,hx,hy,e=>by
  rw[zz] at nd
  obtain⟨n1,n2⟩:=yu.mp nd
  rcases zc.mp hx with ex|KG
  ·rcases zc.mp hy with ey|Kc
   ·rw[ex,ey]
   ·exact absurd (zC.mpr ⟨y,Kc,by rw[← e,ex]⟩) n1
  ·rcases zc.mp hy with ey|Kc
   ·exact absurd (zC.mpr ⟨x,KG,by rw[e,ey]⟩) n1
   ·exact w_ n2 KG Kc e
def yO(cs:List (Str×Str)):D→D
 |.str z=>match cs.find? (fun c=>decide (c.1=z)) with|some c=>.str c.2|none=>.aK
 |_=>.aK
theorem Cy(hg:Gd cs)(h:(z,k)∈cs):yO cs (.str z)=.str k:=by
 unfold yO
 cases e:cs.find? (fun c=>decide (c.1=z)) with
 |none=>exact absurd (zr rfl) (List.find?_eq_none.mp e _ h)
 |some c =>
  have h0:decide (c.1=z)=true:=List.find?_some (p:=fun c:Str×Str=>decide (c.1=z)) e
  have h1:c.1=z:=ze h0
  have:=w_ hg.2.1 (List.mem_of_find?_eq_some e) h h1
  subst this
  dsimp only
  rw[e]
theorem rn(h:z∉cs.map Prod.fst):yO cs (.str z)=.aK:=by
 unfold yO
 dsimp only
 rw[List.find?_eq_none.mpr fun c hc e=>h (zC.mpr ⟨c,hc,ze e⟩)]
theorem kA(l:List (Str×D))(z:Str)(h:dI (dQ l) (.inr z)=some d):∃p∈l,p.1=z∧d=p.2:=by
 have all:∀(l:List (Str×D)) (c:List (Key×D)),dI (l.foldl (fun c p=>dput c (.inr p.1) p.2) c) (.inr z)=some d→(∃p∈l,p.1=z∧d=p.2)∨dI c (.inr z)=some d:=by
  intro l
  induction l with
  |nil=>intro c h;exact .inr h
  |cons p l ih =>
   intro c h
   rcases ih _ h with ⟨q,hq,e⟩|h
   ·exact .inl ⟨q,zd _ hq,e⟩
   ·rw[sL] at h
    by_cases e:(.inr z:Key)=.inr p.1
    ·rw[if_pos e] at h;exact .inl ⟨p,zf,(Sum.inr.inj e).symm,(zO h).symm⟩
    ·rw[if_neg e] at h;exact .inr h
 rcases all l [] h with h|h
 ·exact h
 ·cases h
def Ii:jg:=fun ds S R _=>∃cs d,ds=[.tup (cs.map bq),d]∧Gd cs∧Gt S d∧R (yO cs d) S
theorem oY(T:Txt w K mg t):Ok P w base T.eM 3 Ii:=by
 refine T.eM.F.kO oV ?_
 rintro _ _ _ _ _ _ ds S R Z hr ⟨cs,d,e,hg,hz,q⟩
 subst e
 refine⟨_,(sc (si (ej (tv (cf ((vG T).mono (by decide)) hr T.kj.m T.kj.k T.kj.b d0 (ac (dv 1) an)))) (s1 (sr dn)) s0) (s1 (sr (Te hr.units (ct BL T.Cr wD (ac (dv 0) an)) (dv 1))))),?_⟩
 refine⟨_,rfl,d,rfl,hz,_,rfl,?_⟩
 refine aQ (fun h=>?_) (fun h=>?_)
 ·have h:ofStr lV d=false:=nt h
  have e:yO cs d=.aK:=by
   cases d with
   |str z =>
    refine rn fun m=>?_
    obtain⟨c,hc,rfl⟩:=zC.mp m
    have h:lV c.1=false:=h
    rw[(hg.2.2 c hc).1] at h;cases h
   |_=>rfl
  rw[e] at q
  exact fo q
 ·have h:ofStr lV d=true:=nf h
  cases d with
  |str z =>
   have ek:cs.map bq=(cs.map fun c=>(c.1,D.str c.2)).map wM:=by rw[zR];rfl
   refine⟨_,rfl,(cs.map fun c=>(c.1,D.str c.2)),by rw[ek],fun p hp=>⟨p,_,rfl,aa,_,rfl,_,.inr z,aa,rfl,S,.new hp,?_⟩⟩
   have h1:=pR (cs.map fun c=>(c.1,D.str c.2)) z
   cases q3:dI (dQ (cs.map fun c=>(c.1,D.str c.2))) (.inr z) with
   |none =>
    rw[q3] at h1
    rw[rn fun m=>?_] at q
    ·exact q
    obtain⟨c,hc,e⟩:=zC.mp m
    have:(cs.map fun c=>(c.1,D.str c.2)).any (fun p=>decide (p.1=z))=true:=List.any_eq_true.mpr ⟨_,zC.mpr ⟨c,hc,rfl⟩,zr e⟩
    rw[this] at h1;cases h1
   |some d =>
    obtain⟨p,hp,e1,rfl⟩:=kA _ _ q3
    obtain⟨c,hc,rfl⟩:=zC.mp hp
    have e1:c.1=z:=e1
    rw[Cy hg (k:=c.2) (by rw[← e1];exact hc)] at q
    exact q
  |_=>cases h
def Ij:D→Bool
 |.tup es=>decide (es.length≤8)
 |_=>false
def Cz(cs:List (Str×Str))(o:Str)(x v:D):Bool:=match yO cs x with
 |.str k=>mx k v && (decide (o = "is") || ((!(decide (o = "begins") && !decide (k = "word"))) && !fz v))
 |_=>false
theorem lX(T:Txt w K mg t):Ok P w base T.aV 1 (Ao Ij):=by
 refine T.aV.F.kO kr ?_
 rintro _ _ _ _ _ _ ds S R Z hr ⟨d,e,⟨⟨k,hk⟩,hz⟩,q⟩
 subst e
 refine⟨_,(s1 (sr (qr (cb eG T.aq ai (ac (dv 0) (ac (uB T.cG bO) an))) (yS (cm df hr.units (cb aW T.aX aI (ac (dv 0) an)) (dg (v:=.int 8) T.jD ⟨_,rfl⟩ fun _=>aF _)))))),?_⟩
 refine⟨_,rfl,_,_,_,_,rfl,iU,hk,_,rfl,?_⟩
 rcases Ct hk with ⟨es,rfl,h0⟩|⟨h0,h1⟩
 ·rw[h0]
  refine bf ⟨_,rfl,_,rfl,?_⟩
  have e1:decide (((es.length:Nat):Int)≤8)=decide (es.length≤8):=by rw[zy];omega
  show Fo S (R (.bl (decide (((es.length:Nat):Int)≤8))))
  rw[e1]
  exact fo q
 ·have e:Ij d=false:=by
   cases d with
   |tup es=>exact absurd rfl (h1 _)
   |_=>rfl
  rw[e] at q
  rw[h0]
  exact aM (fo q)
theorem ER(cs:List (Str×Str))(x:D):(∃k,yO cs x=.str k)∨yO cs x=.aK:=by
 cases x with
 |str z =>
  unfold yO
  dsimp only
  cases cs.find? (fun c=>decide (c.1=z)) with
  |some c=>exact .inl ⟨_,rfl⟩
  |none=>exact .inr rfl
 |_=>exact .inr rfl
def Gb:jg:=fun ds S R _=>∃cs o x v,ds=[.tup (cs.map bq),.tup [.str o,x,v]]∧Gd cs∧Gt S x∧Gt S v∧R (.bl (Cz cs o x v)) S
theorem nP(T:Txt w K mg t):Ok P w base T.dO 4 Gb:=by
 refine T.dO.F.kO iG ?_
 rintro _ _ _ _ _ _ ds S R Z hr ⟨cs,o,x,v,e,hg,hx,hv,q⟩
 subst e
 refine⟨_,(sc (bK (i:=2) iG.nd (cf ((oY T).mono (by decide)) hr T.eM.m T.eM.k T.eM.b d0 (ac (dv 0) (ac (ix hr.units (dv 1) di) an)))) (sc (si (twd (twor (aT qt hr.units (dv 2) dn) (tw1 (ej (tv (cf ((tS T).mono (by decide)) hr T.iq.m T.iq.k T.iq.b d0 (ac (dv 2) (ac (ix hr.units (dv 1) di) an)))))))) (s1 (sr db)) s0) (sc (si (aT aP hr.units (ix hr.units (dv 1) di) ds) (s1 (sr db)) s0) (sc (si (twd (twand (aT aP hr.units (ix hr.units (dv 1) di) ds) (tw1 (aT ju hr.units (dv 2) ds)))) (s1 (sr db)) s0) (s1 (sr (cm u1 hr.units (ix hr.units (dv 1) di) dn))))))),?_⟩
 refine⟨_,rfl,_,rfl,_,rfl,cs,x,rfl,hg,hx,?_⟩
 unfold Cz at q
 rcases ER cs x with ⟨k,e⟩|e
 ·rw[e] at q ⊢
  have q:R (.bl (mx k v && (decide (o = "is") || ((!(decide (o = "begins") && !decide (k = "word"))) && !fz v)))) S:=q
  refine⟨_,rfl,_,rfl,aM ⟨_,rfl,_,rfl,_,rfl,k,v,rfl,hv,_,rfl,?_⟩⟩
  refine aQ (fun h=>?_) (fun h=>?_)
  ·rw[nt h,zl] at q
   exact fo q
  rw[nf h,zq] at q
  refine⟨_,rfl,_,rfl,_,rfl,?_⟩
  refine aQ (fun h1=>?_) (fun h1=>?_)
  ·have h1:decide (o = "is")=true:=h1
   rw[h1,Bool.true_or] at q
   exact fo q
  have h1:decide (o = "is")=false:=h1
  rw[h1,ym] at q
  refine⟨_,rfl,_,rfl,_,rfl,?_⟩
  refine aQ (fun h2=>?_) (fun h2=>?_)
  ·have h2:decide (o = "begins")=true:=h2
   rw[h2,zq] at q
   refine⟨_,rfl,_,rfl,?_⟩
   refine aQ (fun h3=>?_) (fun h3=>?_)
   ·have h3:(!decide (k = "word"))=true:=h3
    rw[h3] at q
    exact fo q
   ·have h3:(!decide (k = "word"))=false:=h3
    rw[h3] at q
    exact⟨_,rfl,_,rfl,fo q⟩
  ·have h2:decide (o = "begins")=false:=h2
   rw[h2] at q
   exact⟨_,rfl,_,rfl,fo q⟩
 ·rw[e] at q ⊢
  exact⟨_,rfl,_,rfl,bf (fo q)⟩
def Ge:D→Bool
 |.tup ks=>ks.all (ofStr eA)
 |_=>false
def ES(cs:List (Str×Str))(o:Str):List D→Bool
 |[x,v]=>Cz cs o x v
 |_=>false
def ET:List D→Bool
 |[k]=>Ij k && Ge k
 |_=>false
def M4:List D→Bool
 |[x]=>Ij x
 |_=>false
theorem CA{cs:List (Str×Str)}{o:Str}{ws:List D}(n:ws.length≠2):ES cs o ws=false:=by
 unfold ES
 split
 ·exact absurd rfl n
 ·rfl
theorem CB{ws:List D}(n:ws.length≠1):ET ws=false:=by
 unfold ET
 split
 ·exact absurd rfl n
 ·rfl
theorem xb{ws:List D}(n:ws.length≠1):M4 ws=false:=by
 unfold M4
 split
 ·exact absurd rfl n
 ·rfl
def gR(cs:List (Str×Str)):D→Bool
 |.tup (.str o::ws) =>
  if o = "every" then decide (ws.length=0)
  else if o = "is" ∨ o = "below" ∨ o = "above" ∨ o = "begins" then ES cs o ws
  else if o = "key" then ET ws
  else if o = "not" then decide (ws.length=1)
  else if o = "and" ∨ o = "or" then M4 ws
  else false
 |_=>false
def subs:D→List D
 |.tup [.str o,x]=>if o = "not" then [x] else if o = "and" ∨ o = "or" then (match x with|.tup es=>es|_=>[]) else []
 |_=>[]
theorem nQ(o:Str):o = "every" ∨ (o = "is" ∨ o = "below" ∨ o = "above" ∨ o = "begins")∨o = "key" ∨ o = "not" ∨ (o = "and" ∨ o = "or")∨(o ≠ "every" ∧ ¬(o = "is" ∨ o = "below" ∨ o = "above" ∨ o = "begins")∧o ≠ "key" ∧ o ≠ "not" ∧ ¬(o = "and" ∨ o = "or")):=by
 by_cases h1:o = "every"
 ·exact .inl h1
 by_cases h2:o = "is" ∨ o = "below" ∨ o = "above" ∨ o = "begins"
 ·exact .inr (.inl h2)
 by_cases h3:o = "key"
 ·exact .inr (.inr (.inl h3))
 by_cases h4:o = "not"
 ·exact .inr (.inr (.inr (.inl h4)))
 by_cases h5:o = "and" ∨ o = "or"
 ·exact .inr (.inr (.inr (.inr (.inl h5))))
 exact .inr (.inr (.inr (.inr (.inr ⟨h1,h2,h3,h4,h5⟩))))
theorem tV(cs:List (Str×Str))(ws:List D):gR cs (.tup (.str "every" :: ws))=decide (ws.length=0):=by
 unfold gR
 dsimp only
 rw[if_pos rfl]
theorem CC{cs:List (Str×Str)}{o:Str}(h:o = "is" ∨ o = "below" ∨ o = "above" ∨ o = "begins")(ws:List D):gR cs (.tup (.str o::ws))=ES cs o ws:=by
 unfold gR
 dsimp only
 rw[if_neg (by rcases h with rfl|rfl|rfl|rfl <;> decide),if_pos h]
theorem CD(cs:List (Str×Str))(ws:List D):gR cs (.tup (.str "key" :: ws))=ET ws:=by
 unfold gR
 dsimp only
 rw[if_neg (by decide),if_neg (by decide),if_pos rfl]
theorem vI(cs:List (Str×Str))(ws:List D):gR cs (.tup (.str "not" :: ws))=decide (ws.length=1):=by
 unfold gR
 dsimp only
 rw[if_neg (by decide),if_neg (by decide),if_neg (by decide),if_pos rfl]
theorem vJ{cs:List (Str×Str)}{o:Str}(h:o = "and" ∨ o = "or")(ws:List D):gR cs (.tup (.str o::ws))=M4 ws:=by
 unfold gR
 dsimp only
 rw[if_neg (by rcases h with rfl|rfl <;> decide),if_neg (by rcases h with rfl|rfl <;> decide),if_neg (by rcases h with rfl|rfl <;> decide),if_neg (by rcases h with rfl|rfl <;> decide),if_pos h]
theorem CF{cs:List (Str×Str)}{o:Str}(h:o ≠ "every" ∧ ¬(o = "is" ∨ o = "below" ∨ o = "above" ∨ o = "begins")∧o ≠ "key" ∧ o ≠ "not" ∧ ¬(o = "and" ∨ o = "or"))(ws:List D):gR cs (.tup (.str o::ws))=false:=by
 unfold gR
 dsimp only
 rw[if_neg h.1,if_neg h.2.1,if_neg h.2.2.1,if_neg h.2.2.2.1,if_neg h.2.2.2.2]
theorem CG{o:Str}(h:o ≠ "every" ∧ ¬(o = "is" ∨ o = "below" ∨ o = "above" ∨ o = "begins")∧o ≠ "key" ∧ o ≠ "not" ∧ ¬(o = "and" ∨ o = "or")) :
  ([("every",.int 1),("is",.int 3),("below",.int 3),("above",.int 3),("begins",.int 3),("key",.int 2),("not",.int 2),("and",.int 2),("or",.int 2)]:List (Str×V)).lookup o=none:=by
 obtain⟨h1,h2,h3,h4,h5⟩:=h
 simp only [not_or] at h2 h5
 have f:∀{a:Str},o≠a→(o == a)=false:=fun h=>beq_false_of_ne h
 rw[zQ,f h1,zQ,f h2.1,zQ,f h2.2.1,zQ,f h2.2.2.1,zQ,f h2.2.2.2,zQ,f h3,zQ,f h4,zQ,f h5.1,zQ,f h5.2]
 rfl
theorem Ik{S:aN}{i:Int}{R:KD}(q:R (.bl true) S):Ek true .aK (.int i) S R :=
 ⟨.none,.int i,by simp only [Dl,Dp],by simp only [Dl,Dp],by simp only [PyData.canLay0],by simp only [PyData.canLay0],.inl (by simp only [PyData.depth];lia),q⟩
theorem LK{S:aN}{R:KD}{es:List D}(h:R (.int es.length) S):FO S R (.tup es):=h
theorem bJ(x:D)(ws:List D):gT (x::ws) 0=some x:=by
 unfold gT AL
 rw[if_pos (yE 0)]
 show (if (0:Int)<(((x::ws).length:Nat):Int) then some (0:Int).toNat else none).bind _=_
 rw[if_pos (by rw[zb];lia)]
 rfl
theorem rq(T:Txt w K mg t):Ok P w base T.fO 5 (fun ds S R _=>∃cs d,ds=[.tup (cs.map bq),d]∧Gd cs∧Qd S 2 d∧R (.bl (gR cs d)) S):=by
 refine T.fO.F.kO rf ?_
 rintro _ _ _ _ _ _ ds S R Z hr ⟨cs,d,e,hg,hq,q⟩
 subst e
 obtain⟨k,hk⟩:=hq.gt.1
 refine⟨_,(sc (si (twd (twor (ej (tv (cb eG T.aq ai (ac (dv 1) (ac (uB T.cG bO) an))))) (twor (aT aP hr.units (cb aW T.aX aI (ac (dv 1) an)) di) (tw1 (ej (tv (cb eG T.aq ai (ac (ix hr.units (dv 1) di) (ac (uB T.iC eF) an))))))))) (s1 (sr db)) s0) (sc (si (aT ju hr.units (TQ T.Aj (by decide) (gK T.vB) (ix hr.units (dv 1) di)) (cb aW T.aX aI (ac (dv 1) an))) (s1 (sr db)) s0) (sc (si (aT qu hr.units (ix hr.units (dv 1) di) (bD (ac ds (ac ds (ac ds (ac ds an)))))) (s1 (sr (cf ((nP T).mono (by decide)) hr T.dO.m T.dO.k T.dO.b d0 (ac (dv 0) (ac (dv 1) an))))) s0) (sc (si (aT aP hr.units (ix hr.units (dv 1) di) ds) (s1 (sr (qr (cf ((lX T).mono (by decide)) hr T.aV.m T.aV.k T.aV.b d0 (ac (ix hr.units (dv 1) di) an)) (yS (cb fe T.fm cQ (ac (pN (N:=["key"]) (src:=[none]) (pH (ae fi) ["columns","thing"] rfl rfl (by trivial)) (Jk (ix hr.units (dv 1) di)) (qv (show (["key"]:List Str).Nodup by trivial)) (ba rfl) bb (fun _ _ _ _ _=>pM) (fun _ _ _ _ _=>(cf ((Ap T).mono (by decide)) hr T.nF.m T.nF.k T.nF.b d0 (ac (dv 0) an)))) an)))))) s0) (sc (si (aT qu hr.units (ix hr.units (dv 1) di) (bD (ac ds (ac ds an)))) (s1 (sr (cf ((lX T).mono (by decide)) hr T.aV.m T.aV.k T.aV.b d0 (ac (ix hr.units (dv 1) di) an)))) s0) (s1 (sr db))))))),?_⟩
 refine⟨_,rfl,_,_,_,_,rfl,iU,hk,_,rfl,?_⟩
 rcases Ct hk with ⟨ws,rfl,h0⟩|⟨h0,h1⟩
 rotate_left
 ·rw[h0]
  have e:gR cs d=false:=by
   unfold gR
   split
   ·exact absurd rfl (h1 _)
   ·rfl
  rw[e] at q
  exact bf (fo q)
 rw[h0]
 refine aM ⟨_,rfl,_,rfl,_,rfl,?_⟩
 cases ws with
 |nil=>exact vH rfl (fo q)
 |cons x ws =>
 have e0:decide ((((x::ws).length:Nat):Int)=0)=false:=zh (by rw[zb];lia)
 refine gQ e0 ?_
 have gi:=hq.in.2
 obtain⟨k2,qw⟩:=(gi x (by simp)).gt.1
 refine⟨_,rfl,_,bJ x ws,_,_,_,_,rfl,dz,qw,_,rfl,?_⟩
 rcases nN qw with ⟨o,rfl,h2⟩|⟨h2,h3⟩
 rotate_left
 ·rw[h2]
  have e:gR cs (.tup (x::ws))=false:=by
   unfold gR
   split
   ·rename_i e;cases e;have:=h3 (fun _=>true);cases this
   ·rfl
  rw[e] at q
  exact bf (fo q)
 rw[h2]
 refine aM ?_
 have n4:=sm (show 4≤100000 by decide)
 have n2:=sm (show 2≤100000 by decide)
 rcases nQ o with rfl|h|rfl|rfl|h|h
 ·rw[tV] at q
  refine⟨_,rfl,_,bJ _ ws,_,rfl,_,rfl,_,rfl,_,rfl,?_⟩
  refine aQ (fun h=>?_) (fun h=>?_)
  ·have h:¬ (1:Int)=(((D.str "every" :: ws).length:Nat):Int):=zj (nt h)
   rw[zb] at h
   rw[zh (by lia)] at q
   exact fo q
  ·have h:(1:Int)=(((D.str "every" :: ws).length:Nat):Int):=ze (nf h)
   rw[zb] at h
   rw[zr (by lia)] at q
   exact⟨_,rfl,_,bJ _ ws,n4,rfl,rfl,_,rfl,gQ (by trivial) ⟨_,rfl,_,bJ _ ws,_,rfl,gQ (by trivial) ⟨_,rfl,_,bJ _ ws,n2,rfl,rfl,_,rfl,gQ (by trivial) (fo q)⟩⟩⟩
 ·rw[CC h] at q
  have fin:∀{x v:D},ws=[x,v]→Gb [.tup (cs.map bq),.tup [.str o,x,v]] S (fun d S'=>Fo S' (R d)) (fun C S'=>Fo S' (Z C)):=by
   rintro x v rfl
   exact⟨cs,o,x,v,rfl,hg,(gi x (by simp)).gt,(gi v (by simp)).gt,fo q⟩
  have bad:ws.length≠2→R (.bl false) S:=fun n=>by
   rw[CA n] at q;exact q
  rcases h with rfl|rfl|rfl|rfl
  all_goals
   refine⟨_,rfl,_,bJ _ ws,_,rfl,_,rfl,_,rfl,_,rfl,aQ (fun h=>?_) (fun h=>?_)⟩
   ·have h:¬ (3:Int)=(((D.str _::ws).length:Nat):Int):=zj (nt h)
    rw[zb] at h
    exact fo (bad (by lia))
   ·have h:(3:Int)=(((D.str _::ws).length:Nat):Int):=ze (nf h)
    rw[zb] at h
    obtain⟨x,v,rfl⟩:=Ig (l:=ws) (by lia)
    exact⟨_,rfl,_,rfl,n4,rfl,rfl,_,rfl,vH (by trivial) ⟨_,rfl,_,rfl,fin rfl⟩⟩
 ·rw[CD] at q
  refine⟨_,rfl,_,bJ _ ws,_,rfl,_,rfl,_,rfl,_,rfl,aQ (fun h=>?_) (fun h=>?_)⟩
  ·have h:¬ (2:Int)=(((D.str "key" :: ws).length:Nat):Int):=zj (nt h)
   rw[zb] at h
   rw[CB (by lia)] at q
   exact fo q
  ·have h:(2:Int)=(((D.str "key" :: ws).length:Nat):Int):=ze (nf h)
   rw[zb] at h
   obtain⟨x,rfl⟩:=rm (l:=ws) (by lia)
   have q:R (.bl (Ij x && Ge x)) S:=q
   have gx:=gi x (by simp)
   refine⟨_,rfl,_,rfl,n4,rfl,rfl,_,rfl,gQ (by trivial) ⟨_,rfl,_,rfl,_,rfl,vH (by trivial) ?_⟩⟩
   refine⟨_,rfl,_,rfl,x,rfl,gx.gt,_,rfl,aQ (fun h=>?_) (fun h=>?_)⟩
   ·rw[h,zq] at q
    obtain⟨ks,rfl⟩:∃ks,x=.tup ks:=by cases x <;> first|exact⟨_,rfl⟩|cases h
    have h8:ks.length≤8:=ze h
    refine⟨_,rfl,_,rfl,_,.inl rfl,?_⟩
    refine comp_map (fun d=>.bl (ofStr eA d)) trivial (by show ks.length≤100000;lia) (fun d hd Q hQ=>?_) fun p hp=>?_
    ·exact⟨_,rfl,d,rfl,gx.in.2 d hd,hQ⟩
    ·have e2:ks.map (fun d=>D.bl (ofStr eA d))=(ks.map (ofStr eA)).map D.bl:=by rw[zR];rfl
     refine⟨.ref p,ks.map (ofStr eA),rfl,?_,S,.new hp,?_⟩
     ·show (S.set p (.lst (ks.map _))) p=_
      rw[aa,e2]
     ·rw[all_map];exact q
   ·rw[h,zl] at q
    exact fo q
 ·rw[vI] at q
  refine⟨_,rfl,_,bJ _ ws,_,rfl,_,rfl,_,rfl,_,rfl,?_⟩
  refine aQ (fun h=>?_) (fun h=>?_)
  ·have h:¬ (2:Int)=(((D.str "not" :: ws).length:Nat):Int):=zj (nt h)
   rw[zb] at h
   rw[zh (by lia)] at q
   exact fo q
  ·have h:(2:Int)=(((D.str "not" :: ws).length:Nat):Int):=ze (nf h)
   rw[zb] at h
   rw[zr (by lia)] at q
   exact⟨_,rfl,_,bJ _ ws,n4,rfl,rfl,_,rfl,gQ (by trivial) ⟨_,rfl,_,bJ _ ws,_,rfl,gQ (by trivial) ⟨_,rfl,_,bJ _ ws,n2,rfl,rfl,_,rfl,gQ (by trivial) (fo q)⟩⟩⟩
 ·rw[vJ h] at q
  have fin:∀{x:D},ws=[x]→Ao Ij [x] S (fun d S'=>Fo S' (R d)) (fun C S'=>Fo S' (Z C)):=by
   rintro x rfl
   exact⟨x,rfl,(gi x (by simp)).gt,fo q⟩
  have bad:ws.length≠1→R (.bl false) S:=fun n=>by
   rw[xb n] at q;exact q
  rcases h with rfl|rfl
  all_goals
   refine⟨_,rfl,_,bJ _ ws,_,rfl,_,rfl,_,rfl,_,rfl,aQ (fun h=>?_) (fun h=>?_)⟩
   ·have h:¬ (2:Int)=(((D.str _::ws).length:Nat):Int):=zj (nt h)
    rw[zb] at h
    exact fo (bad (by lia))
   ·have h:(2:Int)=(((D.str _::ws).length:Nat):Int):=ze (nf h)
    rw[zb] at h
    obtain⟨x,rfl⟩:=rm (l:=ws) (by lia)
    exact⟨_,rfl,_,rfl,n4,rfl,rfl,_,rfl,gQ (by trivial) ⟨_,rfl,_,rfl,_,rfl,gQ (by trivial) ⟨_,rfl,_,rfl,n2,rfl,rfl,_,rfl,vH (by trivial) ⟨_,rfl,_,rfl,fin rfl⟩⟩⟩⟩
 ·rw[CF h] at q
  refine⟨_,rfl,_,bJ _ ws,_,rfl,?_⟩
  rw[CG h]
  exact⟨_,rfl,_,rfl,LK (Ik ⟨_,rfl,bf (fo q)⟩)⟩
theorem tW{cs:List (Str×Str)}{e:D}(h:gR cs e=true):(∃(o:Str) (ws:List D),e=.tup (.str o::ws)∧o ≠ "not" ∧ ¬(o = "and" ∨ o = "or")∧subs e=[])∨(∃x,e=.tup [.str "not",x])∨∃(o:Str) (es:List D),(o = "and" ∨ o = "or")∧e=.tup [.str o,.tup es]∧es.length≤8:=by
 have hh:=h
 unfold gR at hh
 split at hh
 ·rename_i o ws
  clear hh
  have sb:o ≠ "not" → ¬(o = "and" ∨ o = "or")→subs (.tup (.str o::ws))=[]:=fun n1 n2=>by
   unfold subs
   split
   ·rename_i e;cases e;rw[if_neg n1,if_neg n2]
   ·rfl
  rcases nQ o with rfl|ho|rfl|rfl|ho|ho
  ·exact .inl ⟨_,ws,rfl,by decide,by decide,sb (by decide) (by decide)⟩
  ·have n1:o ≠ "not" := by rcases ho with rfl|rfl|rfl|rfl <;> decide
   have n2:¬(o = "and" ∨ o = "or"):=by rcases ho with rfl|rfl|rfl|rfl <;> decide
   exact .inl ⟨o,ws,rfl,n1,n2,sb n1 n2⟩
  ·exact .inl ⟨_,ws,rfl,by decide,by decide,sb (by decide) (by decide)⟩
  ·rw[vI] at h
   obtain⟨x,rfl⟩:=rm (ze h)
   exact .inr (.inl ⟨x,rfl⟩)
  ·rw[vJ ho] at h
   have hl:ws.length=1:=Decidable.byContradiction fun n=>by rw[xb n] at h;cases h
   obtain⟨x,rfl⟩:=rm hl
   have h:Ij x=true:=h
   obtain⟨es,rfl⟩:∃es,x=.tup es:=by cases x <;> first|exact⟨_,rfl⟩|cases h
   exact .inr (.inr ⟨o,es,ho,rfl,ze h⟩)
  ·rw[CF ho] at h;cases h
 ·cases hh
theorem kB{o:Str}(h:o = "and" ∨ o = "or")(es:List D):subs (.tup [.str o,.tup es])=es:=by
 unfold subs
 dsimp only
 rw[if_neg (by rcases h with rfl|rfl <;> decide),if_pos h]
theorem kC(x:D):subs (.tup [.str "not",x])=[x]:=by
 unfold subs
 dsimp only
 rw[if_pos rfl]
theorem CH{cs:List (Str×Str)}{e:D}(h:gR cs e=true):(subs e).length≤8:=by
 rcases tW h with ⟨_,_,_,_,_,h⟩|⟨x,rfl⟩|⟨o,es,ho,rfl,hl⟩
 ·rw[h];exact yj _
 ·rw[kC];simp
 ·rw[kB ho];exact hl
theorem CI{cs:List (Str×Str)} : ∀{es:List D},(∀e∈es,gR cs e=true)→(es.flatMap subs).length≤8 * es.length:=by
 intro es
 induction es with
 |nil=>exact fun _=>zi _
 |cons e es ih =>
  intro h
  rw[yq,zg,zb]
  have:=CH (h e zf)
  have:=ih fun x hx=>h x (zd _ hx)
  lia
theorem Aq{es:List D}{i:Nat}{e:D}(h:es[i]?=some e):(es.take (i+1)).flatMap subs=(es.take i).flatMap subs++subs e:=by
 rw[take_snoc h,List.flatMap_append,yq,List.flatMap_nil,zE]
theorem lI(T:Txt w K mg t):Ok P w base T.cy 1 (fun ds S R _=>∃l es cs,ds=[.ref l]∧S l=some (.lst es)∧es.length≤200∧(∀e∈es,gR cs e=true)∧∀p,S p=none→R (.ref p) (S.set p (.lst (es.flatMap subs)))):=by
 refine T.cy.F.kO dr ?_
 rintro _ _ _ _ _ _ ds S R Z hr ⟨l,es,cs,e,hl,h8,tX,q⟩
 subst e
 refine⟨_,(sc (bK (i:=1) dr.nd (bt an)) (sc (sJ (FU (il (dv 0)) (gn (i:=2) dr.nd) (sc (sJ (si (aT aP hr.units (ix hr.units (dv 2) di) ds) (s1 (se (bm zN yb yc dJ (dv 1) (ac (ix hr.units (dv 2) di) an)))) s0)) (s1 (si (aT qu hr.units (ix hr.units (dv 2) di) (bD (ac ds (ac ds an)))) (s1 (se (bm zN PySem.F.slot_list_extend PySem.F.type_list_extend y1 (dv 1) (ac (ix hr.units (dv 2) di) an)))) s0))))) (s1 (sr (dv 1))))),?_⟩
 refine⟨sm (show 0≤100000 by decide),fun f hf=>?_⟩
 have Gf:l≠f:=Dn hl hf
 have n2:=sm (show 2≤100000 by decide)
 refine⟨fun aw S'=>∃o,aw=[some (.ref l),some (.ref f),o]∧S'=S.set f (.lst (es.flatMap subs)),?_,?_⟩
 ·refine⟨_,rfl,es,(ak Gf).trans hl,?_⟩
  refine⟨fun i aw S'=>∃o,aw=[some (.ref l),some (.ref f),o]∧S'=S.set f (.lst ((es.take i).flatMap subs)),⟨none,rfl,rfl⟩,?_,?_,?_⟩
  ·rintro i aw S' ⟨o,rfl,rfl⟩
   exact (ak Gf).trans hl
  ·rintro i e aw S' he ⟨o,rfl,rfl⟩
   have he:es[i]?=some e:=he
   have T1:=tX e (z0 he)
   have hi:i<es.length:=(zL.mp he).1
   have PM:((es.take i).flatMap subs).length≤1600:=by
    have:=CI (cs:=cs) (es:=es.take i) fun x hx=>tX x (List.mem_of_mem_take hx)
    rw[List.length_take] at this
    lia
   have more:∃o,[some (D.ref l),some (D.ref f),some e]=[some (.ref l),some (.ref f),o]∧S.set f (.lst ((es.take i).flatMap subs++subs e))=S.set f (.lst ((es.take (i+1)).flatMap subs)):=⟨_,rfl,by rw[Aq he]⟩
   generalize (es.take i).flatMap subs=fs at PM more ⊢
   have Jm:(S.set f (.lst fs)) f=some (.lst fs):=aa
   rcases tW T1 with ⟨o,ws,rfl,n1,n3,hs⟩|⟨x,rfl⟩|⟨o,xs,ho,rfl,We⟩
   ·rw[hs,zE] at more
    refine⟨fun rS S2=>rS=_∧S2=S.set f (.lst fs),⟨_,rfl,_,bJ _ ws,_,rfl,gQ (zh n1) (fo ⟨rfl,rfl⟩)⟩,?_⟩
    rintro _ _ ⟨rfl,rfl⟩
    refine⟨_,rfl,_,bJ _ ws,n2,rfl,rfl,_,rfl,gQ ?_ more⟩
    simp only [not_or] at n3
    simp [uA,gU,eqV,Ne.symm n3.1,Ne.symm n3.2]
   ·rw[kC] at more
    refine⟨fun rS S2=>rS=_∧S2=S.set f (.lst (fs++[x])),⟨_,rfl,_,rfl,_,rfl,vH (by trivial) ⟨_,rfl,⟨rfl,_,Jm⟩,_,rfl,_,rfl,f,_,_,rfl,rfl,Jm,by rw[yn];lia,fo ⟨rfl,eC⟩⟩⟩,?_⟩
    rintro _ _ ⟨rfl,rfl⟩
    exact⟨_,rfl,_,rfl,n2,rfl,rfl,_,rfl,gQ (by trivial) more⟩
   ·rw[kB ho] at more
    rw[← eC (c:=.lst fs)] at more
    rcases ho with rfl|rfl
    ·refine⟨fun rS S2=>rS=_∧S2=S.set f (.lst fs),⟨_,rfl,_,rfl,_,rfl,gQ (by trivial) (fo ⟨rfl,rfl⟩)⟩,?_⟩
     rintro _ _ ⟨rfl,rfl⟩
     exact⟨_,rfl,_,rfl,n2,rfl,rfl,_,rfl,vH (by trivial) ⟨_,rfl,⟨rfl,_,Jm⟩,_,rfl,_,rfl,f,_,_,rfl,rfl,Jm,by rw[yn];lia,more⟩⟩
    ·refine⟨fun rS S2=>rS=_∧S2=S.set f (.lst fs),⟨_,rfl,_,rfl,_,rfl,gQ (by trivial) (fo ⟨rfl,rfl⟩)⟩,?_⟩
     rintro _ _ ⟨rfl,rfl⟩
     exact⟨_,rfl,_,rfl,n2,rfl,rfl,_,rfl,vH (by trivial) ⟨_,rfl,⟨rfl,_,Jm⟩,_,rfl,_,rfl,f,_,_,rfl,rfl,Jm,by rw[yn];lia,more⟩⟩
  ·rintro aw S' ⟨o,rfl,rfl⟩
   exact fo ⟨o,rfl,by rw[List.take_length]⟩
 ·rintro aw S' ⟨o,rfl,rfl⟩
  exact⟨_,rfl,fo (q f hf)⟩
def vK(cs:List (Str×Str)):Nat→Nat→List D→Bool
 |0,_,es=>decide (es.length=0)
 |n+1,p,es=>if es.length=0 then true else decide (p+es.length≤200) && (es.all (gR cs) && vK cs n (p+es.length) (es.flatMap subs))
theorem CJ(cs:List (Str×Str))(n p:Nat):vK cs n p []=true:=by cases n <;> rfl
theorem QA.subs(h:QA S d):∀e∈subs d,QA S e:=by
 intro e he
 unfold My.subs at he
 split at he
 ·rename_i o x
  have hx:QA S x:=h.in (by simp)
  split at he
  ·rw[zM.mp he];exact hx
  ·split at he
   ·split at he
    ·exact hx.in he
    ·cases he
   ·cases he
 ·cases he
def PN(t:F_):jg:=fun ds S R Z=>∃cs d,ds=[.tup (cs.map bq),d]∧Gd cs∧QA S d∧(vK cs 8 0 [d]=true→R .aK S)∧(vK cs 8 0 [d]=false→Z t.av S)
theorem nR(T:Txt w K mg t):Ok P w base T.dN 6 (PN t):=by
 refine T.dN.F.kO bj ?_
 rintro _ _ _ _ _ _ ds S R Z hr ⟨cs,d,e,hg,hd,q1,q2⟩
 subst e
 obtain⟨b,hb⟩:∃b,vK cs 8 0 [d]=b:=⟨_,rfl⟩
 rw[hb] at q1 q2
 have n1:=sm (show 1≤100000 by decide)
 refine⟨_,(sc (bK (i:=2) bj.nd (bt (ac (dv 1) an))) (sc (bK (i:=3) bj.nd di) (sc (bK (i:=4) bj.nd di) (s1 (PH (aT m9 hr.units (cb aW T.aX aI (ac (dv 2) an)) di) (sc (Q_ (i:=3) bj.nd di) (sc (Q_ (i:=4) bj.nd (cb aW T.aX aI (ac (dv 2) an))) (sc (si (twd (twor (aT m9 hr.units (dv 3) (dg (v:=.int 8) T.qX ⟨_,rfl⟩ fun _=>aF _)) (tw1 (aT m9 hr.units (dv 4) (dg (v:=.int 200) T.oT ⟨_,rfl⟩ fun _=>aF _))))) (s1 (Jj ⟨T.eP⟩ T.iE (ac ds an))) s0) (sc (si (ej (tv (cb fe T.fm cQ (ac (pN (N:=["thing","columns"]) (src:=[none,some 0]) (pH (ae dD) ["columns","sieve","level","deep","parts"] rfl rfl (by trivial)) (il (dv 2)) (qv (show (["thing","columns"]:List Str).Nodup by trivial)) (ba rfl) bb (fun _ _ _ _ _=>pM) (fun _ _ _ _ _=>(cf ((rq T).mono (by decide)) hr T.fO.m T.fO.k T.fO.b d0 (ac (dv 1) (ac (dv 0) an))))) an)))) (s1 (Jj ⟨T.eP⟩ T.iE (ac ds an))) s0) (s1 (bK (i:=2) bj.nd (cf ((lI T).mono (by decide)) hr T.cy.m T.cy.k T.cy.b d0 (ac (dv 2) an))))))))))))),?_⟩
 refine⟨_,rfl,sm (show 1≤100000 by decide),fun l0 LL=>?_⟩
 refine⟨fun m aw S'=>∃(l:Addr) (es:List D) (dp p:Nat),aw=[some (.tup (cs.map bq)),some d,some (.ref l),some (.int dp),some (.int p)]∧S' l=some (.lst es)∧Sub S S'∧(∀e∈es,QA S e)∧dp+m=8∧vK cs m p es=b,⟨8,l0,[d],0,0,rfl,aa,.new LL,fun e he=>by rw[zM.mp he];exact hd,rfl,hb⟩,?_⟩
 rintro m aw S' ⟨l,es,dp,p,rfl,hl,sb,tX,Wf,Ar⟩
 refine⟨_,rfl,_,rfl,.inl ⟨_,hl,_,rfl,?_⟩⟩
 refine aQ (fun h1=>?_) (fun h1=>?_)
 ·have Ea:0<es.length:=by
   have h1:(0:Int)<((es.length:Nat):Int):=ze h1
   lia
  refine⟨_,rfl,_,rfl,_,rfl,_,rfl,_,rfl,.inl ⟨_,hl,_,rfl,?_⟩⟩
  refine⟨_,rfl,_,rfl,aQ (fun h2=>?_) (fun h2=>?_)⟩
  ·have h2:(8:Int)<((dp:Nat):Int)+1:=ze h2
   obtain rfl:m=0:=by lia
   refine⟨n1,S,sb,q2 ?_⟩
   rw[← Ar]
   exact zh (by lia)
  have h2:¬ (8:Int)<((dp:Nat):Int)+1:=zj h2
  obtain⟨n,rfl⟩:∃n,m=n+1:=⟨m - 1,by lia⟩
  unfold vK at Ar
  rw[if_neg (by lia)] at Ar
  refine⟨_,rfl,_,rfl,aQ (fun h3=>?_) (fun h3=>?_)⟩
  ·have h3:(200:Int)<((p:Nat):Int)+((es.length:Nat):Int):=ze h3
   refine⟨n1,S,sb,q2 ?_⟩
   rw[← Ar,zh (by lia)];rfl
  have h3:¬ (200:Int)<((p:Nat):Int)+((es.length:Nat):Int):=zj h3
  rw[zr (by lia),zq] at Ar
  refine⟨_,rfl,es,hl,?_⟩
  refine comp_map (fun e=>.bl (gR cs e)) hl (by show es.length≤100000;lia) (fun e he Q hQ=>?_) fun p1 jk=>?_
  ·exact⟨_,rfl,_,rfl,cs,e,rfl,hg,(tX e he 2).sub sb,hQ⟩
  have e2:es.map (fun e=>D.bl (gR cs e))=(es.map (gR cs)).map D.bl:=by rw[zR];rfl
  rw[show (⟨es,fun S=>sD S (.ref l) es⟩:BD).xs=es from rfl,e2]
  have s1:=sb.trans (.new (c:=.lst ((es.map (gR cs)).map D.bl)) jk)
  refine⟨.ref p1,es.map (gR cs),rfl,aa,_,rfl,?_⟩
  rw[show (es.map (gR cs)).all id=es.all (gR cs) from all_map]
  refine aQ (fun h4=>?_) (fun h4=>?_)
  ·refine⟨n1,S,s1,q2 ?_⟩
   rw[← Ar,nt h4];rfl
  have h4:=nf h4
  rw[h4,zq] at Ar
  have T2:(S'.set p1 (.lst ((es.map (gR cs)).map D.bl))) l=some (.lst es):=(ak (Dn hl jk)).trans hl
  refine⟨_,rfl,l,es,cs,rfl,T2,by lia,zS.mp h4,fun p2 h5=>?_⟩
  refine⟨n,Nat.lt_succ_self n,p2,es.flatMap subs,dp+1,p+es.length,?_,aa,s1.trans (.new h5),fun x hx=>?_,by lia,Ar⟩
  ·show [_,_,_,some (D.int (((dp:Nat):Int)+1)),some (D.int (((p:Nat):Int)+((es.length:Nat):Int)))]=_
   rw[show (((dp:Nat):Int)+1)=((dp+1:Nat):Int) by lia,show (((p:Nat):Int)+((es.length:Nat):Int))=((p+es.length:Nat):Int) by lia]
  ·obtain⟨e,he,hx⟩:=List.mem_flatMap.mp hx
   exact (tX e he).subs x hx
 ·have h1:¬ (0:Int)<((es.length:Nat):Int):=zj h1
  have e0:es=[]:=zD (by lia)
  rw[e0,CJ] at Ar
  exact⟨S,sb,q1 Ar.symm⟩
def CK(d:D):Prop:=d=.aK∨(∃n:Int,d=.int n∧n.natAbs<10 ^ 60)∨∃z:Str,d=.str z∧dj z=true
def my:D→Str
 |.int n => "#" ++ fK n
 |.str z => "\"" ++ vd z
 |_ => "-"
theorem str1(c:Nat)(z s:Str)(h:s=⟨#[c]⟩):(s++z).cps.toList=c::z.cps.toList:=by rw[e_,h];rfl
theorem i5(n:Int):(my (.int n)).cps.toList=35::(fK n).cps.toList:=str1 35 _ _ (by trivial)
theorem eU(z:Str):(my (.str z)).cps.toList=34::(vd z).cps.toList:=str1 34 _ _ (by trivial)
theorem pY:("#" : Str)=⟨#[35]⟩:=by trivial
theorem CL:("\"" : Str)=⟨#[34]⟩:=by trivial
theorem lY:("-" : Str)=⟨#[45]⟩:=by trivial
theorem EU(l:List Nat):(bI 32 [61,98] (bI 61 [61,101] l)).length≤2 * l.length:=by
 induction l with
 |nil=>exact zi _
 |cons c l ih =>
  rw[bg 61]
  by_cases h:c=61
  ·rw[if_pos h,cT,zg,show (bI 32 [61,98] [61,101]).length=2 from rfl,zb];lia
  ·rw[if_neg h,cT,zg,zb]
   have:(bI 32 [61,98] [c]).length≤2:=by
    rw[bg]
    by_cases h2:c=32
    ·rw[if_pos h2];exact zi _
    ·rw[if_neg h2];show 1≤2;decide
   lia
theorem EV(l:List Nat):∀c∈bI 32 [61,98] (bI 61 [61,101] l),c≠32∧(c=61∨c=98∨c=101∨c∈l):=by
 induction l with
 |nil=>exact fun _ h=>(nomatch h)
 |cons d l ih =>
  intro c hc
  rw[bg 61] at hc
  have tl:c∈bI 32 [61,98] (bI 61 [61,101] l)→c≠32∧(c=61∨c=98∨c=101∨c∈d::l):=fun h=>by
   obtain⟨a,b⟩:=ih c h
   refine⟨a,?_⟩
   rcases b with b|b|b|b
   ·exact .inl b
   ·exact .inr (.inl b)
   ·exact .inr (.inr (.inl b))
   ·exact .inr (.inr (.inr (zd _ b)))
  by_cases h:d=61
  ·rw[if_pos h,cT,show bI 32 [61,98] [61,101]=[61,101] from rfl] at hc
   rcases zW.mp hc with hc|hc
   ·simp only [zc,zw,or_false] at hc
    rcases hc with rfl|rfl
    ·exact⟨by decide,.inl rfl⟩
    ·exact⟨by decide,.inr (.inr (.inl rfl))⟩
   ·exact tl hc
  ·rw[if_neg h,cT] at hc
   rcases zW.mp hc with hc|hc
   ·rw[bg] at hc
    by_cases h2:d=32
    ·rw[if_pos h2] at hc
     have hc:c∈[61,98]:=by simpa [bI] using hc
     simp only [zc,zw,or_false] at hc
     rcases hc with rfl|rfl
     ·exact⟨by decide,.inl rfl⟩
     ·exact⟨by decide,.inr (.inl rfl)⟩
    ·rw[if_neg h2] at hc
     have hc:c=d:=by simpa [bI] using hc
     subst hc
     exact⟨h2,.inr (.inr (.inr zf))⟩
   ·exact tl hc
theorem kD(z:Str):(vd z).cps.size≤2 * z.cps.size:=by rw[ag,ag,ni];exact EU _
theorem eV(h:dj z=true):z.cps.size≤40∧∀c∈z.cps.toList,32≤c∧c≤126:=by
 unfold dj at h
 rw[zm,zx,zS] at h
 refine⟨h.1,fun c hc=>?_⟩
 have:=h.2 c hc
 unfold lU at this
 rw[zm,zx,zx] at this
 exact this
theorem Il(h:CK d):(my d).cps.size≤90∧PyData.strOk (my d)=true∧32∉(my d).cps.toList:=by
 rcases h with rfl|⟨n,rfl,hn⟩|⟨z,rfl,hz⟩
 ·exact⟨by trivial,by trivial,by trivial⟩
 ·have hs:=j5 hn
  have hc:=y0 n
  refine⟨?_,cg.mpr ?_,?_⟩
  ·rw[ag,i5,zb,← ag];lia
  ·rw[i5]
   intro c h
   rcases zc.mp h with rfl|h
   ·decide
   ·have:=hc c h;lia
  ·rw[i5]
   intro h
   rcases zc.mp h with h|h
   ·exact absurd h (by decide)
   ·have:=hc 32 h;lia
 ·obtain⟨h1,h2⟩:=eV hz
  have hs:=kD z
  have hm:=EV z.cps.toList
  rw[← ni] at hm
  refine⟨?_,cg.mpr ?_,?_⟩
  ·rw[ag,eU,zb,← ag];lia
  ·rw[eU]
   intro c h
   rcases zc.mp h with rfl|h
   ·decide
   ·rcases (hm c h).2 with rfl|rfl|rfl|h
    ·decide
    ·decide
    ·decide
    ·have:=h2 c h;lia
  ·rw[eU]
   intro h
   rcases zc.mp h with h|h
   ·exact absurd h (by decide)
   ·exact (hm 32 h).1 rfl
def pZ(l:List Nat):Bool:=decide (l=[48]) || !decide (l.head?=some 48)
def vL(l:List Nat)(most:Nat):Bool:=if l.head?=some 45 then bX (l.drop 1) most && (!decide (l.drop 1=[48]) && pZ (l.drop 1)) else bX l most && pZ l
def oZ(l:List Nat):Bool:=if l.head?=some 35 then vL (l.drop 1) 60 else if l.head?=some 34 then BX (l.drop 1) else decide (l=[45])
def Told(z:Str)(d:D):Prop:=(z = "-" ∧ d=.aK)∨(z.cps.toList.head?=some 35∧∃n:Int,n.natAbs<10 ^ 60∧intText? (Txt.slice z (some 1) none)=some n∧(Txt.slice z (some 1) none).cps.size≤61∧d=.int n)∨(z.cps.toList.head?=some 34∧d=.str (wO (Txt.slice z (some 1) none)))
theorem bH{z:Str}{c:Nat}(h:z.cps.toList.head?=some c):1≤z.cps.size:=by
 rw[ag]
 cases e:z.cps.toList with
 |nil=>rw[e] at h;cases h
 |cons a l=>exact Nat.le_add_left _ _
theorem head_drop(h:l.head?=some c):l=c::l.drop 1:=by
 cases l with
 |nil=>cases h
 |cons a l=>cases h;rfl
theorem CM(hm:most≤60)(h:vL z.cps.toList most=true):∃n:Int,intText? z=some n∧n.natAbs<10 ^ 60∧z.cps.size≤61:=by
 unfold vL at h
 by_cases hh:z.cps.toList.head?=some 45
 ·rw[if_pos hh,zm] at h
  obtain⟨n,h1,h2,_⟩:=pU (head_drop hh) hm h.1
  have:=(gb h.1).2.1
  exact⟨n,h1,h2,by rw[ag,head_drop hh,zb];lia⟩
 ·rw[if_neg hh,zm] at h
  obtain⟨n,h1,h2,_⟩:=sO hm h.1
  have:=(gb h.1).2.1
  exact⟨n,h1,h2,by rw[ag];lia⟩
theorem lJ(h:oZ z.cps.toList=true):∃d,Told z d∧CK d:=by
 unfold oZ at h
 by_cases h1:z.cps.toList.head?=some 35
 ·rw[if_pos h1,← AN (bH h1)] at h
  obtain⟨n,a,b,c⟩:=CM (by decide) h
  exact⟨.int n,.inr (.inl ⟨h1,n,b,a,c,rfl⟩),.inr (.inl ⟨n,rfl,b⟩)⟩
 ·rw[if_neg h1] at h
  by_cases h2:z.cps.toList.head?=some 34
  ·rw[if_pos h2,← AN (bH h2)] at h
   refine⟨_,.inr (.inr ⟨h2,rfl⟩),.inr (.inr ⟨_,rfl,?_⟩)⟩
   unfold BX at h
   simp only [zm,zx] at h
   unfold dj lU
   rw[zm,zx,ag,mF]
   exact⟨h.2.1,h.2.2⟩
  ·rw[if_neg h2,zx] at h
   exact⟨.aK,.inl ⟨oM (by rw[h,lY]),rfl⟩,.inl rfl⟩
theorem o_(T:Txt w K mg t):Ok P w base T.eN 1 (fun ds S R _=>∃d,ds=[d]∧CK d∧R (.str (my d)) S):=by
 refine T.eN.F.ok oW (by rintro ds S R Z ⟨_,e,_⟩;exact by rw[e];rfl) (fun dh A outer s H E ds S R Z hr ⟨d,e,hd,q⟩=>?_)
 subst e
 refine⟨_,(sc (si (aT qt hr.units (dv 0) dn) (s1 (sr ds)) s0) (sc (si (tv (cb eG T.aq ai (ac (dv 0) (ac (uB T.iC eF) an)))) (s1 (sr (ga (gr (gr (g1 (dv 0)))) hr.units))) s0) (s1 (sr (bo aj hr.units ds (ct BM T.iC eF (ac (dv 0) an))))))),?_⟩
 rcases hd with rfl|⟨n,rfl,hn⟩|⟨z,rfl,hz⟩
 ·exact⟨_,rfl,_,rfl,bf (fo q)⟩
 ·refine⟨_,rfl,_,rfl,aM ⟨_,rfl,_,_,_,_,rfl,dz,rfl,_,rfl,aM ⟨_,rfl,n,rfl,qA hn,sm ?_,fo q⟩⟩⟩
  have:=j5 hn
  show 1+(fK n).cps.size≤_
  lia
 ·obtain⟨h1,_⟩:=eV hz
  refine⟨_,rfl,_,rfl,aM ⟨_,rfl,_,_,_,_,rfl,dz,rfl,_,rfl,bf ⟨_,rfl,z,rfl,?_,_,rfl,?_,sm ?_,fo q⟩⟩⟩
  ·show z.cps.size+(z.cps.size+1) * 2≤_;lia
  ·have:(Txt.replace z "=" "=e").cps.size≤2 * z.cps.size:=by
    rw[ag,ag,show ("=" : Str)=⟨#[61]⟩ by trivial,rep1]
    generalize z.cps.toList=l
    rw[show ("=e" : Str).cps.toList=[61,101] by trivial]
    induction l with
    |nil=>exact zi _
    |cons c l ih =>
     rw[bg,zg,zb]
     by_cases h:c=61
     ·rw[if_pos h];show 2+_≤_;lia
     ·rw[if_neg h];show 1+_≤_;lia
   show (Txt.replace z "=" "=e").cps.size+((Txt.replace z "=" "=e").cps.size+1) * 2≤_
   lia
  ·have:=kD z
   show 1+(vd z).cps.size≤_
   lia
theorem xf(hy:y.cps.toList.length≤2):(Txt.replace z ⟨#[a,b]⟩ y).cps.size≤2 * z.cps.size:=by
 rw[ag,ag,nh]
 have:∀(n:Nat) (l:List Nat),l.length≤n→(rep2 a b y.cps.toList l).length≤2 * l.length:=by
  intro n
  induction n with
  |zero=>intro l hl;rw[zD (Nat.le_zero.mp hl)];exact zi _
  |succ n ih =>
   intro l hl
   match l with
   |[]=>exact zi _
   |[x] =>
    rw[rep2]
    ·simp
    ·intro _ _ _ h;cases h
   |x::u::r =>
    by_cases h:x=a∧u=b
    ·rw[h.1,h.2,j4,zg]
     have:=ih r (by simp at hl;lia)
     simp only [zb] at *;lia
    ·rw[rep2,if_neg h]
     have:=ih (u::r) (by simp at hl ⊢;lia)
     simp only [zb] at *;lia
 exact this _ _ (zi _)
theorem dy(T:Txt w K mg t):Ok P w base T.aL 1 (fun ds S R _=>∃z d,ds=[.str z]∧z.cps.size≤90000∧Told z d∧R d S):=by
 refine T.aL.F.ok lB (by rintro ds S R Z ⟨_,_,e,_⟩;exact by rw[e];rfl) (fun dh A outer s H E ds S R Z hr ⟨z,d,e,hz,ht,q⟩=>?_)
 subst e
 refine⟨_,(sc (si (aT aP hr.units (dv 0) ds) (s1 (sr dn)) s0) (sc (si (tv (bm zH PySem.F.slot_str_startswith PySem.F.type_str_startswith jY (dv 0) (ac ds an))) (s1 (sr (ct vb T.nJ jr (ac (sl (dv 0) (o1 di) o0) an)))) s0) (s1 (sr (gd (gr (gr (gs (dv 0))))))))),?_⟩
 have pb:z.length≤sizeLine:=sm (by show z.cps.size≤_;lia)
 rcases ht with ⟨rfl,rfl⟩|⟨h1,n,hn,PQ,EW,rfl⟩|⟨h1,rfl⟩
 ·exact⟨_,rfl,_,rfl,aQ (fun _=>fo q) (fun h=>by
   have h:decide (("-" : Str) = "-")=false:=h
   exact absurd rfl (zj h))⟩
 ·refine⟨_,rfl,_,rfl,aQ (fun h=>?_) (fun _=>?_)⟩
  ·have h:z = "-" := ze h
   rw[h,lY] at h1;cases h1
  refine⟨_,rfl,rfl,_,_,rfl,rfl,_,rfl,?_⟩
  rw[show Txt.startswith z "#" = true by rw[pY,fh,zr h1]]
  exact bf ⟨_,rfl,_,rfl,pb,_,n,rfl,PQ,zG EW (by decide),fo q⟩
 ·refine⟨_,rfl,_,rfl,aQ (fun h=>?_) (fun _=>?_)⟩
  ·have h:z = "-" := ze h
   rw[h,lY] at h1;cases h1
  refine⟨_,rfl,rfl,_,_,rfl,rfl,_,rfl,?_⟩
  rw[show Txt.startswith z "#" = false by rw[pY,fh,h1];rfl]
  have Ei:(Txt.slice z (some 1) none).cps.size≤90000:=by rw[ag,AN (bH h1),zF,← ag];lia
  have A4:(Txt.replace (Txt.slice z (some 1) none) "=b" " ").cps.size≤180000:=by
   rw[show ("=b" : Str)=⟨#[61,98]⟩ by trivial]
   exact zG (xf (by trivial)) (by lia)
  refine aM ⟨_,rfl,pb,_,rfl,?_,_,rfl,?_,fo q⟩
  ·show (Txt.slice z (some 1) none).cps.size+((Txt.slice z (some 1) none).cps.size+1) * 1≤_;lia
  ·show (Txt.replace (Txt.slice z (some 1) none) "=b" " ").cps.size+((Txt.replace (Txt.slice z (some 1) none) "=b" " ").cps.size+1) * 1≤_
   lia
theorem kE(T:Txt w K mg t):Ok P w base T.bS 2 (fun ds S R _=>∃(z:Str) (m:Nat),ds=[.str z,.int (m:Nat)]∧z.cps.size≤90000∧m≤60∧R (.bl (vL z.cps.toList m)) S):=by
 refine T.bS.F.ok fq (by rintro ds S R Z ⟨_,_,e,_⟩;exact by rw[e];rfl) (fun dh A outer s H E ds S R Z hr ⟨z,m,e,hz,hm,q⟩=>?_)
 subst e
 have pb:z.length≤sizeLine:=sm (by show z.cps.size≤_;lia)
 refine⟨_,(sc (bK (i:=2) fq.nd (Q0 (tv (bm zH PySem.F.slot_str_startswith PySem.F.type_str_startswith jY (dv 0) (ac ds an))) (sl (dv 0) (o1 di) o0) (dv 0))) (sc (si (twd (twor (ej (Ji df df hr.units di (cb aW T.aX aI (ac (dv 2) an)) (dv 1))) (tw1 (ej (tv (cb fe T.fm cQ (ac (pN (N:=["sign"]) (src:=[none]) (pH (ae bY) ["text","most","figures"] rfl rfl (by trivial)) (va (dv 2)) (qv (show (["sign"]:List Str).Nodup by trivial)) (ba rfl) bb (fun _ _ _ _ _=>pM) (fun _ _ _ _ _=>(cf ((ku T).mono (by decide)) hr T.cN.m T.cN.k T.cN.b d0 (ac (dv 0) an)))) an))))))) (s1 (sr db)) s0) (s1 (sr (cm aP hr.units (ct BM T.iC eF (ac (ct vb T.nJ jr (ac (dv 0) an)) an)) (dv 0)))))),?_⟩
 refine⟨_,rfl,rfl,_,_,rfl,rfl,_,rfl,?_⟩
 unfold vL at q
 by_cases hh:z.cps.toList.head?=some 45
 ·rw[if_pos hh,← AN (bH hh)] at q
  rw[show Txt.startswith z "-" = true by rw[lY,fh,zr hh]]
  refine bf ⟨_,rfl,_,rfl,pb,?_⟩
  have Rk:(Txt.slice z (some 1) none).cps.size≤90000:=by rw[ag,AN (bH hh),zF,← ag];lia
  have hint:bX (Txt.slice z (some 1) none).cps.toList m=true→∃n:Int,intText? z=some n∧n.natAbs<10 ^ 60∧z.length≤640∧decide (fK n=z)=(!decide ((Txt.slice z (some 1) none).cps.toList=[48]) && pZ (Txt.slice z (some 1) none).cps.toList):=fun hd=>by
   have e:=head_drop hh
   rw[← AN (bH hh)] at e
   obtain⟨n,a,b,c⟩:=pU e hm hd
   have hl:=(gb hd).2.1
   exact⟨n,a,b,by show z.cps.size≤_;rw[ag,e,zb];lia,c⟩
  generalize Txt.slice z (some 1) none=f at q Rk hint ⊢
  refine⟨_,rfl,_,rfl,sm (by show f.cps.size≤_;lia),_,rfl,?_⟩
  have e1:decide ((1:Int)≤((f.length:Nat):Int))=decide (1≤f.cps.toList.length):=by rw[zy,← ag];show (1:Int)≤((f.cps.size:Nat):Int)↔_;lia
  have e2:decide (((f.length:Nat):Int)≤((m:Nat):Int))=decide (f.cps.toList.length≤m):=by rw[zy,← ag];show ((f.cps.size:Nat):Int)≤_↔_;lia
  refine aQ (fun h2=>?_) (fun h2=>?_)
  ·have uV:=e1.symm.trans h2
   refine⟨_,rfl,_,rfl,?_⟩
   refine aQ (fun h3=>?_) (fun h3=>?_)
   ·have hd:bX f.cps.toList m=false:=by unfold bX;rw[uV,e2.symm.trans (nt h3)];rfl
    rw[hd,zl] at q
    exact fo q
   ·have LM:=e2.symm.trans (nf h3)
    refine⟨_,rfl,f,rfl,?_⟩
    refine comp_map (I:=⟨aU f,fun _=>True⟩) (d_ cA) trivial (by show (aU f).length≤_;unfold aU;rw[za,zV];lia) (fun d hd Q hQ=>?_) fun p hp=>?_
    ·obtain⟨c,hc,rfl⟩:=fV hd
     exact⟨_,rfl,c,rfl,by simpa [d_] using hQ⟩
    refine⟨.ref p,f.cps.toList.map cA,rfl,(show (S.set p (.lst ((aU f).map (d_ cA)))) p=_ by rw[aa,fW]),_,rfl,?_⟩
    have ed:bX f.cps.toList m=(f.cps.toList.map cA).all id:=by
     unfold bX
     rw[uV,LM,zq,zq,all_map];rfl
    rw[← ed]
    cases hd:bX f.cps.toList m with
    |false =>
     rw[hd,zl] at q
     exact bf ⟨S,.new hp,q⟩
    |true =>
     rw[hd,zq] at q
     obtain⟨n,a,b,c,d⟩:=hint hd
     rw[← d] at q
     exact aM ⟨_,rfl,_,n,rfl,a,c,n,rfl,qA b,_,rfl,S,.new hp,q⟩
  ·have hd:bX f.cps.toList m=false:=by unfold bX;rw[e1.symm.trans h2];rfl
   rw[hd,zl] at q
   refine⟨_,rfl,?_⟩
   exact bf (fo q)
 ·rw[if_neg hh] at q
  rw[show Txt.startswith z "-" = false by rw[lY,fh,zh hh]]
  refine aM ⟨_,rfl,?_⟩
  have hint:bX z.cps.toList m=true→∃n:Int,intText? z=some n∧n.natAbs<10 ^ 60∧z.length≤640∧decide (fK n=z)=pZ z.cps.toList:=fun hd=>by
   obtain⟨n,a,b,c⟩:=sO hm hd
   have hl:=(gb hd).2.1
   exact⟨n,a,b,by show z.cps.size≤_;rw[ag];lia,c⟩
  obtain⟨f,hf⟩:∃f,f=z:=⟨z,rfl⟩
  have Rk:f.cps.size≤90000:=by rw[hf];exact hz
  rw[← hf] at q
  have hint:bX f.cps.toList m=true→∃n:Int,intText? z=some n∧n.natAbs<10 ^ 60∧z.length≤640∧decide (fK n=z)=pZ f.cps.toList:=by rw[hf];exact hint
  subst hf
  refine⟨_,rfl,_,rfl,sm (by show f.cps.size≤_;lia),_,rfl,?_⟩
  have e1:decide ((1:Int)≤((f.length:Nat):Int))=decide (1≤f.cps.toList.length):=by rw[zy,← ag];show (1:Int)≤((f.cps.size:Nat):Int)↔_;lia
  have e2:decide (((f.length:Nat):Int)≤((m:Nat):Int))=decide (f.cps.toList.length≤m):=by rw[zy,← ag];show ((f.cps.size:Nat):Int)≤_↔_;lia
  refine aQ (fun h2=>?_) (fun h2=>?_)
  ·have uV:=e1.symm.trans h2
   refine⟨_,rfl,_,rfl,?_⟩
   refine aQ (fun h3=>?_) (fun h3=>?_)
   ·have hd:bX f.cps.toList m=false:=by unfold bX;rw[uV,e2.symm.trans (nt h3)];rfl
    rw[hd,zl] at q
    exact fo q
   ·have LM:=e2.symm.trans (nf h3)
    refine⟨_,rfl,f,rfl,?_⟩
    refine comp_map (I:=⟨aU f,fun _=>True⟩) (d_ cA) trivial (by show (aU f).length≤_;unfold aU;rw[za,zV];lia) (fun d hd Q hQ=>?_) fun p hp=>?_
    ·obtain⟨c,hc,rfl⟩:=fV hd
     exact⟨_,rfl,c,rfl,by simpa [d_] using hQ⟩
    refine⟨.ref p,f.cps.toList.map cA,rfl,(show (S.set p (.lst ((aU f).map (d_ cA)))) p=_ by rw[aa,fW]),_,rfl,?_⟩
    have ed:bX f.cps.toList m=(f.cps.toList.map cA).all id:=by
     unfold bX
     rw[uV,LM,zq,zq,all_map];rfl
    rw[← ed]
    cases hd:bX f.cps.toList m with
    |false =>
     rw[hd,zl] at q
     exact bf ⟨S,.new hp,q⟩
    |true =>
     rw[hd,zq] at q
     obtain⟨n,a,b,c,d⟩:=hint hd
     rw[← d] at q
     exact aM ⟨_,rfl,_,n,rfl,a,c,n,rfl,qA b,_,rfl,S,.new hp,q⟩
  ·have hd:bX f.cps.toList m=false:=by unfold bX;rw[e1.symm.trans h2];rfl
   rw[hd,zl] at q
   refine⟨_,rfl,?_⟩
   exact bf (fo q)
theorem xg(hy:y.length≤2):∀(n:Nat) (l:List Nat),l.length≤n→(rep2 a b y l).length≤l.length:=by
 intro n
 induction n with
 |zero=>intro l hl;rw[zD (Nat.le_zero.mp hl)];exact zi _
 |succ n ih =>
  intro l hl
  match l with
  |[]=>exact zi _
  |[x] =>
   rw[rep2]
   ·exact zi _
   ·intro _ _ _ h;cases h
  |x::u::r =>
   by_cases h:x=a∧u=b
   ·rw[h.1,h.2,j4,zg]
    have:=ih r (by simp at hl;lia)
    simp only [zb] at *;lia
   ·rw[rep2,if_neg h]
    have:=ih (u::r) (by simp at hl ⊢;lia)
    simp only [zb] at *;lia
theorem EX(z:Str):(wO z).cps.size≤z.cps.size:=by
 rw[ag,ag,mF]
 exact zG (xg (by decide) _ _ (zi _)) (xg (by decide) _ _ (zi _))
theorem nS(z:Str):decide (z = "-")=decide (z.cps.toList=[45]):=by
 rw[zy,lY]
 exact⟨fun h=>by rw[h],fun h=>oM h⟩
theorem Im(z:Str)(h:z.cps.toList.head?=some 34):BX (z.cps.toList.drop 1)=(dj (wO (Txt.slice z (some 1) none)) && decide (my (.str (wO (Txt.slice z (some 1) none)))=z)):=by
 have hs:=AN (bH h)
 have e:decide (my (.str (wO (Txt.slice z (some 1) none)))=z)=decide (j6 (y4 (z.cps.toList.drop 1))=z.cps.toList.drop 1):=by
  rw[zy]
  have hl:(my (.str (wO (Txt.slice z (some 1) none)))).cps.toList=34::j6 (y4 (z.cps.toList.drop 1)):=by
   rw[eU,ni,mF,hs];rfl
  constructor
  ·intro q
   rw[q,head_drop h] at hl
   injection hl with _ hl
   exact hl.symm
  ·intro q
   refine oM ?_
   rw[hl,q,← head_drop h]
 have e2:dj (wO (Txt.slice z (some 1) none))=(decide ((y4 (z.cps.toList.drop 1)).length≤40) && (y4 (z.cps.toList.drop 1)).all fun c=>decide (32≤c) && decide (c≤126)):=by
  unfold dj lU
  rw[ag,mF,hs];rfl
 rw[e,e2,Bool.and_comm]
 rfl
theorem lK(T:Txt w K mg t):Ok P w base T.cu 3 (fun ds S R _=>∃z,ds=[.str z]∧z.cps.size≤90000∧R (.bl (oZ z.cps.toList)) S):=by
 refine T.cu.F.ok lA (by rintro ds S R Z ⟨_,e,_⟩;exact by rw[e];rfl) (fun dh A outer s H E ds S R Z hr ⟨z,e,hz,q⟩=>?_)
 subst e
 have pb:z.length≤sizeLine:=sm (by show z.cps.size≤_;lia)
 refine⟨_,(sc (si (tv (bm zH PySem.F.slot_str_startswith PySem.F.type_str_startswith jY (dv 0) (ac ds an))) (s1 (sr (cf ((kE T).mono (by decide)) hr T.bS.m T.bS.k T.bS.b d0 (ac (sl (dv 0) (o1 di) o0) (ac (dg (v:=.int 60) T.gw ⟨_,rfl⟩ fun _=>aF _) an))))) s0) (sc (si (tv (bm zH PySem.F.slot_str_startswith PySem.F.type_str_startswith jY (dv 0) (ac ds an))) (s1 (sr (qr (cf ((nO T).mono (by decide)) hr T.fk.m T.fk.k T.fk.b d0 (ac (cf ((dy T).mono (by decide)) hr T.aL.m T.aL.k T.aL.b d0 (ac (dv 0) an)) an)) (yS (cm aP hr.units (cf ((o_ T).mono (by decide)) hr T.eN.m T.eN.k T.eN.b d0 (ac (cf ((dy T).mono (by decide)) hr T.aL.m T.aL.k T.aL.b d0 (ac (dv 0) an)) an)) (dv 0)))))) s0) (s1 (sr (cm aP hr.units (dv 0) ds))))),?_⟩
 refine⟨_,rfl,rfl,_,_,rfl,rfl,_,rfl,?_⟩
 unfold oZ at q
 by_cases h1:z.cps.toList.head?=some 35
 ·rw[if_pos h1,← AN (bH h1)] at q
  rw[show Txt.startswith z "#" = true by rw[pY,fh,zr h1]]
  exact bf ⟨_,rfl,_,rfl,pb,_,60,rfl,by rw[ag,AN (bH h1),zF,← ag];lia,by decide,fo q⟩
 rw[if_neg h1] at q
 rw[show Txt.startswith z "#" = false by rw[pY,fh,zh h1]]
 refine aM ⟨_,rfl,rfl,_,_,rfl,rfl,_,rfl,?_⟩
 by_cases h2:z.cps.toList.head?=some 34
 ·rw[if_pos h2,Im z h2] at q
  rw[show Txt.startswith z "\"" = true by rw[CL,fh,zr h2]]
  have ht:Told z (.str (wO (Txt.slice z (some 1) none))):=.inr (.inr ⟨h2,rfl⟩)
  have Ei:(Txt.slice z (some 1) none).cps.size≤90000:=by rw[ag,AN (bH h2),zF,← ag];lia
  have MB:=EX (Txt.slice z (some 1) none)
  refine bf ⟨_,rfl,z,_,rfl,hz,ht,_,rfl,gt_str (by lia),_,rfl,?_⟩
  show if ofStr dj (.str (wO (Txt.slice z (some 1) none)))=true then _ else _
  refine aQ (fun h=>?_) (fun h=>?_)
  ·have h:dj (wO (Txt.slice z (some 1) none))=true:=h
   rw[h,zq] at q
   exact⟨_,rfl,z,_,rfl,hz,ht,_,rfl,.inr (.inr ⟨_,rfl,h⟩),_,rfl,fo q⟩
  ·have h:dj (wO (Txt.slice z (some 1) none))=false:=h
   rw[h,zl] at q
   exact fo q
 ·rw[if_neg h2,← nS] at q
  rw[show Txt.startswith z "\"" = false by rw[CL,fh,zh h2]]
  exact aM ⟨_,rfl,fo q⟩
theorem lL(T:Txt w K mg t):Ok P w base T.cz 4 (fun ds S R Z=>∃z,ds=[.str z]∧z.cps.size≤90000∧(oZ z.cps.toList=true→∀d,Told z d→CK d→R d S)∧(oZ z.cps.toList=false→Z t.az S)):=by
 refine T.cz.F.ok lC (by rintro ds S R Z ⟨_,e,_⟩;exact by rw[e];rfl) (fun dh A outer s H E ds S R Z hr ⟨z,e,hz,q1,q2⟩=>?_)
 subst e
 refine⟨_,(sc (si (ej (tv (cf ((lK T).mono (by decide)) hr T.cu.m T.cu.k T.cu.b d0 (ac (dv 0) an)))) (s1 (Jj ⟨T.eQ⟩ T.fT (ac ds an))) s0) (s1 (sr (cf ((dy T).mono (by decide)) hr T.aL.m T.aL.k T.aL.b d0 (ac (dv 0) an))))),?_⟩
 refine⟨_,rfl,z,rfl,hz,_,rfl,?_⟩
 refine aQ (fun h=>?_) (fun h=>?_)
 ·exact⟨sm (show 1≤100000 by decide),fo (q2 (nt h))⟩
 ·obtain⟨d,h1,h2⟩:=lJ (nf h)
  exact⟨_,rfl,z,d,rfl,hz,h1,fo (q1 (nf h) d h1 h2)⟩
theorem mz(T:Txt w K mg t):Ok P w base T.cY 1 (fun ds S R _=>∃d,ds=[d]∧CK d∧R (.str (my d)) S):=by
 refine T.cY.F.ok mw (by rintro ds S R Z ⟨_,e,_⟩;exact by rw[e];rfl) (fun dh A outer s H E ds S R Z hr ⟨d,e,hd,q⟩=>?_)
 subst e
 refine⟨_,(sc (si (aT qt hr.units (dv 0) dn) (s1 (sr ds)) s0) (sc (si (tv (cb eG T.aq ai (ac (dv 0) (ac (uB T.iC eF) an)))) (s1 (sr (ga (gr (gr (g1 (dv 0)))) hr.units))) s0) (s1 (sr (bo aj hr.units ds (ct BM T.iC eF (ac (dv 0) an))))))),?_⟩
 rcases hd with rfl|⟨n,rfl,hn⟩|⟨z,rfl,hz⟩
 ·exact⟨_,rfl,_,rfl,bf (fo q)⟩
 ·refine⟨_,rfl,_,rfl,aM ⟨_,rfl,_,_,_,_,rfl,dz,rfl,_,rfl,aM ⟨_,rfl,n,rfl,qA hn,sm ?_,fo q⟩⟩⟩
  have:=j5 hn
  show 1+(fK n).cps.size≤_
  lia
 ·obtain⟨h1,_⟩:=eV hz
  refine⟨_,rfl,_,rfl,aM ⟨_,rfl,_,_,_,_,rfl,dz,rfl,_,rfl,bf ⟨_,rfl,z,rfl,?_,_,rfl,?_,sm ?_,fo q⟩⟩⟩
  ·show z.cps.size+(z.cps.size+1) * 2≤_;lia
  ·have:(Txt.replace z "=" "=e").cps.size≤2 * z.cps.size:=by
    rw[ag,ag,show ("=" : Str)=⟨#[61]⟩ by trivial,rep1]
    generalize z.cps.toList=l
    rw[show ("=e" : Str).cps.toList=[61,101] by trivial]
    induction l with
    |nil=>exact zi _
    |cons c l ih =>
     rw[bg,zg,zb]
     by_cases h:c=61
     ·rw[if_pos h];show 2+_≤_;lia
     ·rw[if_neg h];show 1+_≤_;lia
   show (Txt.replace z "=" "=e").cps.size+((Txt.replace z "=" "=e").cps.size+1) * 2≤_
   lia
  ·have:=kD z
   show 1+(vd z).cps.size≤_
   lia
def CN(k:Str)(l:List Nat):Bool:=if l=[45] then true else if k = "number" then (if l.take 2=[35,45] then (!decide (l=[35,45,48]) && y3 (l.drop 2) 60) else decide (l.take 1=[35]) && y3 (l.drop 1) 60) else if l.take 1=[34] then BY (l.drop 1) else false
theorem i6{z y:Str}{l:List Nat}(h:y.cps.toList=l):decide (z=y)=decide (z.cps.toList=l):=by
 rw[zy]
 exact⟨fun e=>by rw[e,h],fun e=>oM (e.trans h.symm)⟩
theorem xh(l:List α):ay l (some 1) none=l.drop 1:=by
 unfold ay
 have e:HT.sIx l.length 0 (some 1)=min 1 l.length:=HT.sIx_nat l.length 0 1
 rw[e,HT.sIx_none]
 cases l with
 |nil=>rfl
 |cons a l =>
  rw[show min 1 (a::l).length=1 by rw[zb];lia]
  exact yg (by rw[zF];lia)
theorem LN:∀ws:List Str,(Txt.join "" ws).cps.toList=ws.flatMap fun w=>w.cps.toList:=by
 intro ws
 rw[kz]
 induction ws with
 |nil=>rfl
 |cons a r ih =>
  cases r with
  |nil=>rw[PyProof.Rows.join_one,yq,List.flatMap_nil,zE]
  |cons b r =>
   rw[PyProof.Rows.join_cons_cons,e_,e_,ih]
   show a.cps.toList++[]++_=_
   rw[zE];rfl
theorem LO(p:List Nat):uA (gU (.str (Txt.slice (bW p) none (some 1)))) ([D.str "b",D.str "e"].map gU)=oN p:=by
 have e:=nr (bW p) 1
 show (eqV (.str "b") (.str (Txt.slice (bW p) none (some 1))) || (eqV (.str "e") (.str (Txt.slice (bW p) none (some 1))) || false))=_
 rw[Bool.or_false,rl,rl]
 have hb:("b" : Str).cps.toList=[98]:=by trivial
 have he:("e" : Str).cps.toList=[101]:=by trivial
 unfold oN
 have key:∀(y:Str) (c:Nat),y.cps.toList=[c]→decide (y=Txt.slice (bW p) none (some 1))=decide (p.head?=some c):=fun y c hy=>by
  rw[zy]
  have e':(Txt.slice (bW p) none (some 1)).cps.toList=p.take 1:=e
  constructor
  ·intro q
   rw[← q,hy] at e'
   cases p with
   |nil=>cases e'
   |cons a p=>rw[ya,yx] at e';injection e' with e' _;rw[e'];rfl
  ·intro q
   refine oM ?_
   rw[hy,e']
   cases p with
   |nil=>cases q
   |cons a p=>cases q;rfl
 rw[key _ 98 hb,key _ 101 he]
theorem EY(l:List Nat):(CN "number" l || CN "word" l)=oZ l:=by
 unfold CN oZ
 by_cases h0:l=[45]
 ·rw[if_pos h0,h0];rfl
 have nw:¬ (("word" : Str) = "number"):=by trivial
 rw[if_neg h0,if_neg h0,if_pos rfl,if_neg nw]
 by_cases h1:l.head?=some 35
 ·obtain⟨r,rfl⟩:∃r,l=35::r:=⟨_,head_drop h1⟩
  rw[if_pos h1]
  have e34:¬ ((35::r).take 1=[34]):=by rw[ya,yx];decide
  rw[if_neg e34,Bool.or_false]
  show _=vL r 60
  unfold vL pZ
  rw[← qC]
  by_cases h2:r.head?=some 45
  ·obtain⟨r',rfl⟩:∃r',r=45::r':=⟨_,head_drop h2⟩
   rw[if_pos h2,if_pos (show (35::45::r').take 2=[35,45] from rfl)]
   show (!decide (35::45::r'=[35,45,48]) && y3 r' 60)=(bX r' 60 && (!decide (r'=[48]) && (decide (r'=[48]) || !decide (r'.head?=some 48))))
   rw[qC,show decide (35::45::r'=[35,45,48])=decide (r'=[48]) by rw[zy];simp]
   cases bX r' 60 <;> cases decide (r'=[48]) <;> simp
  ·have e2:¬ ((35::r).take 2=[35,45]):=fun q=>h2 (by
    cases r with
    |nil=>cases q
    |cons a r=>rw[ya,ya,yx] at q;injection q with _ q;injection q with q _;rw[q];rfl)
   rw[if_neg h2,if_neg e2,zr (show (35::r).take 1=[35] from rfl),zq];rfl
 ·rw[if_neg h1]
  have e1:¬ (l.take 1=[35]):=fun q=>h1 (by cases l with|nil=>cases q|cons a l=>rw[ya,yx] at q;injection q with q _;rw[q];rfl)
  have e2:¬ (l.take 2=[35,45]):=fun q=>h1 (by
   match l with
   |[]=>cases q
   |[a]=>cases q
   |a::b::l=>rw[ya] at q;injection q with q _;rw[q];rfl)
  rw[if_neg e2,zh e1,zl,ym]
  by_cases h3:l.head?=some 34
  ·obtain⟨r,rfl⟩:∃r,l=34::r:=⟨_,head_drop h3⟩
   rw[if_pos h3,if_pos (show (34::r).take 1=[34] from rfl),Ey]
  ·have e3:¬ (l.take 1=[34]):=fun q=>h3 (by cases l with|nil=>cases q|cons a l=>rw[ya,yx] at q;injection q with q _;rw[q];rfl)
   rw[if_neg h3,if_neg e3,zh h0]
theorem vM(l:List Nat):((spL l).map List.length).sum+(spL l).length≤l.length+1:=by
 have h:=PyProof.Rows.split_weight (bW l) "=" (by decide)
 rw[sQ,cq,zR,za] at h
 have e:(Str.length ∘ bW)=List.length:=by
  funext p
  show (bW p).cps.size=_
  rw[ag,cq]
 rw[show (fun x:Str=>x.length) ∘ bW=List.length from e] at h
 have:(bW l).length=l.length:=by show (bW l).cps.size=_;rw[ag,cq]
 rw[this] at h
 exact h
theorem EZ(ps:List (List Nat)):(Txt.join "" (ps.map fun l=>Txt.slice (bW l) (some 1) none)).cps.toList=ps.flatMap (List.drop 1):=by
 rw[LN]
 induction ps with
 |nil=>rfl
 |cons a ps ih =>
  rw[zz,yq,yq,ih]
  congr 1
  exact gf (bW a) 1
theorem E1(ps:List (List Nat)):(ps.flatMap (List.drop 1)).length≤(ps.map List.length).sum:=by
 induction ps with
 |nil=>exact zi _
 |cons a ps ih =>
  rw[yq,zg,zz,yy,zF]
  lia
theorem Io(ps:List (List Nat)):((ps.map fun l=>Txt.slice (bW l) (some 1) none).map (·.length)).sum≤(ps.map List.length).sum:=by
 induction ps with
 |nil=>exact zi _
 |cons a ps ih =>
  rw[zz,zz,yy,zz,yy]
  have:(Txt.slice (bW a) (some 1) none).length≤a.length:=by
   show (Txt.slice (bW a) (some 1) none).cps.size≤_
   rw[ag,show (Txt.slice (bW a) (some 1) none).cps.toList=(bW a).cps.toList.drop 1 from gf (bW a) 1,cq,zF];lia
  lia
theorem iJ(T:Txt w K mg t):Ok P w base T.bc 1 (fun ds S R _=>∃(z:Str) (m:Nat),ds=[.str z,.int (m:Nat)]∧z.cps.size≤90000∧R (.bl (y3 z.cps.toList m)) S):=by
 refine T.bc.F.ok lG (by rintro ds S R Z ⟨_,_,e,_⟩;exact by rw[e];rfl) (fun dh A outer s H E ds S R Z hr ⟨z,m,e,hz,q⟩=>?_)
 subst e
 refine⟨_,(sc (si (twd (twor (ej (Ji df df hr.units di (cb aW T.aX aI (ac (dv 0) an)) (dv 1))) (tw1 (ej (tv (cb fe T.fm cQ (ac (pN (N:=["_law_sign"]) (src:=[none]) (pH (ae cF) ["_law_text","_law_most"] rfl rfl (by trivial)) (va (dv 0)) (qv (show (["_law_sign"]:List Str).Nodup by trivial)) (ba rfl) bb (fun _ _ _ _ _=>pM) (fun _ _ _ _ _=>(cc df df hr.units ds (dv 0) ds))) an))))))) (s1 (sr db)) s0) (s1 (sr (MN (cm aP hr.units (dv 0) ds) (yS (cm ju hr.units (ix hr.units (dv 0) di) ds)))))),?_⟩
 rw[qC] at q
 refine⟨_,rfl,_,rfl,sm (by show z.cps.size≤_;lia),_,rfl,?_⟩
 have e1:decide ((1:Int)≤((z.length:Nat):Int))=decide (1≤z.cps.toList.length):=by rw[zy,← ag];show (1:Int)≤((z.cps.size:Nat):Int)↔_;lia
 have e2:decide (((z.length:Nat):Int)≤((m:Nat):Int))=decide (z.cps.toList.length≤m):=by rw[zy,← ag];show ((z.cps.size:Nat):Int)≤_↔_;lia
 refine aQ (fun h2=>?_) (fun h2=>?_)
 ·have uV:=e1.symm.trans h2
  refine⟨_,rfl,_,rfl,?_⟩
  refine aQ (fun h3=>?_) (fun h3=>?_)
  ·have hd:bX z.cps.toList m=false:=by unfold bX;rw[uV,e2.symm.trans (nt h3)];rfl
   rw[hd,zl] at q
   exact fo q
  ·have LM:=e2.symm.trans (nf h3)
   refine⟨_,rfl,z,rfl,?_⟩
   refine comp_map (I:=⟨aU z,fun _=>True⟩) (d_ cA) trivial (by show (aU z).length≤_;unfold aU;rw[za,zV];lia) (fun d hd Q hQ=>?_) fun p hp=>?_
   ·obtain⟨c,hc,rfl⟩:=fV hd
    have hQ:Q (.bl (cA c)) S:=by simpa [d_] using hQ
    refine⟨_,rfl,_,rfl,?_⟩
    have e3:om "0" ⟨#[c]⟩=decide (48≤c):=bE 48 c
    have e4:om ⟨#[c]⟩ "9" = decide (c≤57):=bE c 57
    unfold cA at hQ
    refine aQ (fun h=>?_) (fun h=>?_)
    ·rw[e3.symm.trans h,zq,← e4] at hQ
     exact hQ
    ·rw[e3.symm.trans h,zl] at hQ
     exact hQ
   refine⟨.ref p,z.cps.toList.map cA,rfl,(show (S.set p (.lst ((aU z).map (d_ cA)))) p=_ by rw[aa,fW]),_,rfl,?_⟩
   have ed:bX z.cps.toList m=(z.cps.toList.map cA).all id:=by
    unfold bX
    rw[uV,LM,zq,zq,all_map];rfl
   rw[← ed]
   cases hd:bX z.cps.toList m with
   |false =>
    rw[hd,zl] at q
    exact bf ⟨S,.new hp,q⟩
   |true =>
    rw[hd,zq] at q
    obtain⟨c,r,ec⟩:=len_pos (z:=z) (by rw[ag];exact (gb hd).1)
    refine aM ⟨_,rfl,_,rfl,?_⟩
    have ez:decide (z = "0")=decide (z.cps.toList=[48]):=i6 (by trivial)
    refine aQ (fun h=>?_) (fun h=>?_)
    ·rw[ez.symm.trans h,Bool.true_or] at q
     exact⟨S,.new hp,q⟩
    ·rw[ez.symm.trans h,ym,ec] at q
     refine⟨_,rfl,c,sm (by show z.cps.size≤_;lia),yL ec,S,.new hp,?_⟩
     show R (.bl (!decide ((⟨#[c]⟩:Str) = "0"))) S
     rw[show decide ((⟨#[c]⟩:Str) = "0")=decide ((c::r).head?=some 48) by
      rw[i6 (l:=[48]) (by trivial),zy,List.head?_cons]
      show [c]=[48]↔_
      simp]
     exact q
 ·have hd:bX z.cps.toList m=false:=by unfold bX;rw[e1.symm.trans h2];rfl
  rw[hd,zl] at q
  refine⟨_,rfl,?_⟩
  exact bf (fo q)
theorem xi(T:Txt w K mg t):Ok P w base T.iz 2 (fun ds S R _=>∃k z,ds=[.str k,.str z]∧z.cps.size≤90000∧R (.bl (CN k z.cps.toList)) S):=by
 refine T.iz.F.ok lH (by rintro ds S R Z ⟨_,_,e,_⟩;exact by rw[e];rfl) (fun dh A outer s H E ds S R Z hr ⟨k,z,e,hz,q⟩=>?_)
 subst e
 have pb:z.length≤sizeLine:=sm (by show z.cps.size≤_;lia)
 have A4:(Txt.slice z (some 2) none).cps.toList=z.cps.toList.drop 2:=gf z 2
 have Ei:(Txt.slice z (some 1) none).cps.toList=z.cps.toList.drop 1:=gf z 1
 have T3:(Txt.slice z none (some 2)).cps.toList=z.cps.toList.take 2:=nr z 2
 have Rl:(Txt.slice z none (some 1)).cps.toList=z.cps.toList.take 1:=nr z 1
 have hsz:∀n,(z.cps.toList.drop n).length≤90000:=fun n=>by rw[zF,← ag];lia
 refine⟨_,(sc (si (aT aP hr.units (dv 1) ds) (s1 (sr db)) s0) (sc (si (aT aP hr.units (dv 0) ds) (sc (si (aT aP hr.units (sl (dv 1) o0 (o1 di)) ds) (s1 (sr (qr (cm ju hr.units (dv 1) ds) (yS (cf ((iJ T).mono (by decide)) hr T.bc.m T.bc.k T.bc.b d0 (ac (sl (dv 1) (o1 di) o0) (ac di an))))))) s0) (s1 (sr (qr (cm aP hr.units (sl (dv 1) o0 (o1 di)) ds) (yS (cf ((iJ T).mono (by decide)) hr T.bc.m T.bc.k T.bc.b d0 (ac (sl (dv 1) (o1 di) o0) (ac di an)))))))) s0) (sc (si (aT ju hr.units (sl (dv 1) o0 (o1 di)) ds) (s1 (sr db)) s0) (sc (bK (i:=2) lH.nd (bm zH PySem.F.slot_str_split PySem.F.type_str_split m_split (sl (dv 1) (o1 di) o0) (ac ds an))) (sc (si (twd (twor (ej (tv (cb fe T.fm cQ (ac (pN (N:=["_law_part"]) (src:=[none]) (pH (ae fN) ["_law_kind","_law_text","_law_parts","_law_bare"] rfl rfl (by trivial)) (il (sl (dv 2) (o1 di) o0)) (qv (show (["_law_part"]:List Str).Nodup by trivial)) (ba rfl) bb (fun _ _ _ _ _=>pM) (fun _ _ _ _ _=>(cm qu hr.units (sl (dv 0) o0 (o1 di)) (bD (ac ds (ac ds an)))))) an)))) (tw1 (aT qu hr.units ds (sl (dv 2) (o1 di) o0))))) (s1 (sr db)) s0) (sc (bK (i:=3) lH.nd (bo aj hr.units (ix hr.units (dv 2) di) (bm zH yh yi hV ds (ac (pN (N:=["_law_part"]) (src:=[none]) (pH (ae fN) ["_law_kind","_law_text","_law_parts","_law_bare"] rfl rfl (by trivial)) (il (sl (dv 2) (o1 di) o0)) (qv (show (["_law_part"]:List Str).Nodup by trivial)) (ba rfl) bb (fun _ _ _ _ _=>pM) (fun _ _ _ _ _=>(sl (dv 0) (o1 di) o0))) an)))) (s1 (sr (qr (cm df hr.units (bo jf hr.units (bo aj hr.units (cb aW T.aX aI (ac (dv 3) an)) (cb aW T.aX aI (ac (dv 2) an))) di) di) (yS (cb fe T.fm cQ (ac (pN (N:=["_law_sign"]) (src:=[none]) (pH (ae fN) ["_law_kind","_law_text","_law_parts","_law_bare"] rfl rfl (by trivial)) (va (dv 3)) (qv (show (["_law_sign"]:List Str).Nodup by trivial)) (ba rfl) bb (fun _ _ _ _ _=>pM) (fun _ _ _ _ _=>(cc df df hr.units ds (dv 0) ds))) an)))))))))))),?_⟩
 unfold CN at q
 refine⟨_,rfl,_,rfl,?_⟩
 refine aQ (fun h=>?_) (fun h=>?_)
 ·have h:z.cps.toList=[45]:=ze ((nS z).symm.trans h)
  rw[if_pos h] at q
  exact fo q
 have h:¬ z.cps.toList=[45]:=zj ((nS z).symm.trans h)
 rw[if_neg h] at q
 refine⟨_,rfl,_,rfl,?_⟩
 refine aQ (fun hk=>?_) (fun hk=>?_)
 ·rw[if_pos (ze hk)] at q
  refine⟨_,rfl,_,rfl,pb,_,rfl,?_⟩
  have ea:decide (Txt.slice z none (some 2) = "#-")=decide (z.cps.toList.take 2=[35,45]):=by rw[← T3];exact i6 (by trivial)
  refine aQ (fun h2=>?_) (fun h2=>?_)
  ·rw[if_pos (ze (ea.symm.trans h2))] at q
   refine⟨_,rfl,_,rfl,?_⟩
   have eb:decide (z = "#-0")=decide (z.cps.toList=[35,45,48]):=i6 (by trivial)
   refine aQ (fun h3=>?_) (fun h3=>?_)
   ·have h3:(!decide (z = "#-0"))=true:=h3
    rw[← eb,h3,zq,← A4] at q
    exact⟨_,rfl,_,rfl,pb,_,60,rfl,by rw[ag,A4];exact hsz 2,fo q⟩
   ·have h3:(!decide (z = "#-0"))=false:=h3
    rw[← eb,h3,zl] at q
    exact fo q
  ·rw[if_neg (zj (ea.symm.trans h2))] at q
   refine⟨_,rfl,_,rfl,pb,_,rfl,?_⟩
   have eb:decide (Txt.slice z none (some 1) = "#")=decide (z.cps.toList.take 1=[35]):=by rw[← Rl];exact i6 (by trivial)
   refine aQ (fun h3=>?_) (fun h3=>?_)
   ·rw[eb.symm.trans h3,zq,← Ei] at q
    exact⟨_,rfl,_,rfl,pb,_,60,rfl,by rw[ag,Ei];exact hsz 1,fo q⟩
   ·rw[eb.symm.trans h3,zl] at q
    exact fo q
 rw[if_neg (zj hk)] at q
 refine⟨_,rfl,_,rfl,pb,_,rfl,?_⟩
 have ea:decide (Txt.slice z none (some 1) = "\"")=decide (z.cps.toList.take 1=[34]):=by rw[← Rl];exact i6 (by trivial)
 refine aQ (fun h2=>?_) (fun h2=>?_)
 ·have h2:(!decide (Txt.slice z none (some 1) = "\""))=true:=h2
  rw[ea] at h2
  rw[if_neg (zj (nt h2))] at q
  exact fo q
 have h2:(!decide (Txt.slice z none (some 1) = "\""))=false:=h2
 rw[ea] at h2
 rw[if_pos (ze (nf h2)),← Ei] at q
 have hu:(Txt.slice z (some 1) none).cps.size≤90000:=by rw[ag,Ei];exact hsz 1
 refine⟨_,rfl,_,rfl,pb,rfl,_, "=",rfl,rfl,by trivial,sm (by show (Txt.slice z (some 1) none).cps.size+2≤_;lia),fun p hp=>?_⟩
 generalize Txt.slice z (some 1) none=u at q hu ⊢
 rw[sQ]
 obtain⟨p0,ps,es⟩:=eH u.cps.toList
 have Ip:=vM u.cps.toList
 have T4:BY u.cps.toList=(ps.all oN && (decide ((p0++ps.flatMap (List.drop 1)).length+ps.length≤40) && (p0++ps.flatMap (List.drop 1)).all fun c=>decide (33≤c) && decide (c≤126))):=by
  unfold BY fM;rw[es];rfl
 rw[T4] at q
 rw[es] at Ip
 rw[zz,yy,zb,← ag] at Ip
 have hlen:p0.length+(ps.map List.length).sum+ps.length≤90000:=by lia
 have eL:ay (((spL u.cps.toList).map bW).map D.str) (some 1) none=(ps.map bW).map D.str:=by rw[xh,es];rfl
 have hS:(S.set p (.lst (((spL u.cps.toList).map bW).map D.str))) p=some (.lst (((spL u.cps.toList).map bW).map D.str)):=aa
 have g0:Sub S (S.set p (.lst (((spL u.cps.toList).map bW).map D.str))):=.new hp
 have Rm:gT (((spL u.cps.toList).map bW).map D.str) 0=some (.str (bW p0)):=by rw[es];exact (f9 (i:=0) (by rw[za,za,zb];lia)).trans rfl
 have Rn:(((spL u.cps.toList).map bW).map D.str).length=ps.length+1:=by rw[za,za,es];rfl
 generalize S.set p (.lst (((spL u.cps.toList).map bW).map D.str))=S1 at hS g0 ⊢
 generalize ((spL u.cps.toList).map bW).map D.str=L at hS eL Rm Rn
 have l9:((ps.map bW).map D.str).length=ps.length:=by rw[za,za]
 have PR:∀l∈ps,l.length≤90000:=fun l hl=>by
  have:=wZ (zC.mpr ⟨l,hl,rfl⟩:l.length∈ps.map List.length)
  lia
 have LP:∀l∈ps,(bW l).length≤sizeLine:=fun l hl=>sm (by show (bW l).cps.size≤_;rw[ag,cq];have:=PR l hl;lia)
 refine⟨_,rfl,_,rfl,_,hS,fun p2 cP=>⟨_,aa,?_⟩⟩
 rw[eL]
 refine comp_map (fun d=>match d with|.str y=>.bl (oN y.cps.toList)|_=>.aK) aa (by show ((ps.map bW).map D.str).length≤_;lia) (fun d hd Q hQ=>?_) fun p3 gJ=>?_
 ·obtain⟨y,hy,rfl⟩:=zC.mp hd
  obtain⟨l,hl,rfl⟩:=zC.mp hy
  refine⟨_,rfl,_,rfl,LP l hl,sm (show 2≤100000 by decide),rfl,rfl,?_⟩
  rw[if_neg zk,LO]
  exact hQ
 have g2:=g0.trans (Sub.new (c:=.lst ((ps.map bW).map D.str)) cP)
 have h2:=(Sub.new (c:=.lst ((ps.map bW).map D.str)) cP) _ _ hS
 rw[show (⟨(ps.map bW).map D.str,fun S=>sD S (.ref p2) ((ps.map bW).map D.str)⟩:BD).xs=(ps.map bW).map D.str from rfl,show (((ps.map bW).map D.str).map fun d=>match d with|.str y=>D.bl (oN y.cps.toList)|_=>.aK)=(ps.map oN).map D.bl by rw[zR,zR,zR];rfl]
 have g3:=g2.trans (Sub.new (c:=.lst ((ps.map oN).map D.bl)) gJ)
 have h3:=(Sub.new (c:=.lst ((ps.map oN).map D.bl)) gJ) _ _ h2
 refine⟨.ref p3,ps.map oN,rfl,aa,_,rfl,?_⟩
 generalize (S1.set p2 (.lst ((ps.map bW).map D.str))).set p3 (.lst ((ps.map oN).map D.bl))=S3 at g3 h3 ⊢
 rw[all_map]
 refine aQ (fun ha=>?_) (fun ha=>?_)
 ·rw[nt ha,zl] at q
  exact⟨S,g3,q⟩
 have ha:=nf ha
 rw[ha,zq] at q
 refine⟨_,rfl,_,rfl,_,h3,fun p4 i9=>.inl ⟨_,aa,rfl,?_,_,rfl,?_⟩⟩
 ·rw[eL];exact pX _
 rw[eL]
 have Dk:decide (("" : Str)∈ps.map bW)=false:=zh fun m=>by
  obtain⟨l,hl,e⟩:=zC.mp m
  have:=zS.mp ha l hl
  have e:(bW l).cps.toList=[]:=by rw[e];rfl
  rw[cq] at e
  rw[e] at this;cases this
 rw[if_neg zk,gB,Dk]
 have g4:=g3.trans (Sub.new (c:=.lst ((ps.map bW).map D.str)) i9)
 have h4:=(Sub.new (c:=.lst ((ps.map bW).map D.str)) i9) _ _ h3
 generalize S3.set p4 (.lst ((ps.map bW).map D.str))=S4 at g4 h4 ⊢
 refine aM ⟨_,rfl,_,_,h4,Rm,rfl,_,rfl,_,rfl,_,h4,fun p5 xj=>⟨_,aa,?_⟩⟩
 rw[eL]
 refine comp_map (fun d=>match d with|.str y=>.str (Txt.slice y (some 1) none)|_=>.aK) aa (by show ((ps.map bW).map D.str).length≤_;lia) (fun d hd Q hQ=>?_) fun p6 CO=>?_
 ·obtain⟨y,hy,rfl⟩:=zC.mp hd
  obtain⟨l,hl,rfl⟩:=zC.mp hy
  exact⟨_,rfl,_,rfl,LP l hl,hQ⟩
 have g5:=g4.trans (Sub.new (c:=.lst ((ps.map bW).map D.str)) xj)
 have h5:=(Sub.new (c:=.lst ((ps.map bW).map D.str)) xj) _ _ h4
 rw[show (⟨(ps.map bW).map D.str,fun S=>sD S (.ref p5) ((ps.map bW).map D.str)⟩:BD).xs=(ps.map bW).map D.str from rfl,show (((ps.map bW).map D.str).map fun d=>match d with|.str y=>D.str (Txt.slice y (some 1) none)|_=>.aK)=(ps.map fun l=>Txt.slice (bW l) (some 1) none).map D.str by rw[zR,zR,zR];rfl]
 have g6:=g5.trans (Sub.new (c:=.lst ((ps.map fun l=>Txt.slice (bW l) (some 1) none).map D.str)) CO)
 have h6:=(Sub.new (c:=.lst ((ps.map fun l=>Txt.slice (bW l) (some 1) none).map D.str)) CO) _ _ h5
 have hj:=EZ ps
 have PM:=E1 ps
 have Wg:(Txt.join "" (ps.map fun l=>Txt.slice (bW l) (some 1) none)).cps.size≤(ps.map List.length).sum:=by rw[ag,hj];exact PM
 have PU:JoinOk "" (ps.map fun l=>Txt.slice (bW l) (some 1) none)=true:=by
  refine PyProof.Rows.joinOk_of ?_
  have h0:("" : Str).length=0:=rfl
  have T5:=Io ps
  rw[h0,Nat.mul_zero]
  lia
 have M5:(bW p0).cps.size=p0.length:=by rw[ag,cq]
 refine⟨"",ps.map fun l=>Txt.slice (bW l) (some 1) none,_,rfl,rfl,aa,PU,sm (by show (bW p0).cps.size+(Txt.join "" _).cps.size≤_;lia),?_⟩
 generalize (S4.set p5 (.lst ((ps.map bW).map D.str))).set p6 (.lst ((ps.map fun l=>Txt.slice (bW l) (some 1) none).map D.str))=S6 at g6 h6 ⊢
 have hb:(bW p0++Txt.join "" (ps.map fun l=>Txt.slice (bW l) (some 1) none)).cps.toList=p0++ps.flatMap (List.drop 1):=by rw[e_,hj,cq]
 generalize bW p0++Txt.join "" (ps.map fun l=>Txt.slice (bW l) (some 1) none)=bare at hb ⊢
 rw[← hb] at q
 have Wh:bare.cps.size≤90000:=by rw[ag,hb,zg];lia
 refine⟨_,rfl,_,rfl,sm (by show bare.cps.size≤_;lia),_,rfl,_,rfl,.inl ⟨_,h6,?_⟩⟩
 rw[Rn]
 refine⟨_,rfl,?_⟩
 have ec:decide ((((bare.length:Nat):Int)+((ps.length+1:Nat):Int)) - 1≤40)=decide (bare.cps.toList.length+ps.length≤40):=by
  rw[zy,← ag]
  show (((bare.cps.size:Nat):Int)+((ps.length+1:Nat):Int)) - 1≤40↔_
  lia
 refine aQ (fun h7=>?_) (fun h7=>?_)
 ·rw[ec.symm.trans h7,zq] at q
  refine⟨_,rfl,bare,rfl,?_⟩
  refine comp_map (I:=⟨aU bare,fun _=>True⟩) (d_ fun c=>decide (33≤c) && decide (c≤126)) trivial (by show (aU bare).length≤_;unfold aU;rw[za,zV];lia) (fun d hd Q hQ=>?_) fun p7 M6=>?_
  ·obtain⟨c,hc,rfl⟩:=fV hd
   have hQ:Q (.bl (decide (33≤c) && decide (c≤126))) S6:=by simpa [d_] using hQ
   refine⟨_,rfl,_,rfl,?_⟩
   have e3:om "!" ⟨#[c]⟩=decide (33≤c):=bE 33 c
   have e4:om ⟨#[c]⟩ "~" = decide (c≤126):=bE c 126
   refine aQ (fun h=>?_) (fun h=>?_)
   ·rw[e3.symm.trans h,zq,← e4] at hQ
    exact hQ
   ·rw[e3.symm.trans h,zl] at hQ
    exact hQ
  refine⟨.ref p7,bare.cps.toList.map fun c=>decide (33≤c) && decide (c≤126),rfl,(show (S6.set p7 (.lst ((aU bare).map (d_ fun c=>decide (33≤c) && decide (c≤126))))) p7=_ by rw[aa,fW]),S,g6.trans (.new M6),?_⟩
  rw[all_map]
  exact q
 ·rw[ec.symm.trans h7,zl] at q
  exact⟨S,g6,q⟩
theorem E3(T:Txt w K mg t):Ok P w base T.nI 1 (fun ds S R _=>∃z d,ds=[.str z]∧z.cps.size≤90000∧Told z d∧R d S):=by
 refine T.nI.F.ok An (by rintro ds S R Z ⟨_,_,e,_⟩;exact by rw[e];rfl) (fun dh A outer s H E ds S R Z hr ⟨z,d,e,hz,ht,q⟩=>?_)
 subst e
 refine⟨_,(sc (si (aT aP hr.units (dv 0) ds) (s1 (sr dn)) s0) (sc (si (aT aP hr.units (ix hr.units (dv 0) di) ds) (s1 (sr (ct vb T.nJ jr (ac (sl (dv 0) (o1 di) o0) an)))) s0) (s1 (sr (gd (gr (gr (gs (dv 0))))))))),?_⟩
 have pb:z.length≤sizeLine:=sm (by show z.cps.size≤_;lia)
 rcases ht with ⟨rfl,rfl⟩|⟨h1,n,hn,PQ,EW,rfl⟩|⟨h1,rfl⟩
 ·exact⟨_,rfl,_,rfl,aQ (fun _=>fo q) (fun h=>by
   have h:decide (("-" : Str) = "-")=false:=h
   exact absurd rfl (zj h))⟩
 ·refine⟨_,rfl,_,rfl,aQ (fun h=>?_) (fun _=>?_)⟩
  ·have h:z = "-" := ze h
   rw[h,lY] at h1;cases h1
  refine⟨_,rfl,35,pb,yL (head_drop h1),_,rfl,?_⟩
  refine aQ (fun _=>?_) (fun h=>?_)
  ·exact⟨_,rfl,_,rfl,pb,_,n,rfl,PQ,zG EW (by decide),fo q⟩
  ·have h:decide ((⟨#[35]⟩:Str) = "#")=false:=h
   rw[pY,zr rfl] at h;cases h
 ·refine⟨_,rfl,_,rfl,aQ (fun h=>?_) (fun _=>?_)⟩
  ·have h:z = "-" := ze h
   rw[h,lY] at h1;cases h1
  have Ei:(Txt.slice z (some 1) none).cps.size≤90000:=by rw[ag,AN (bH h1),zF,← ag];lia
  have A4:(Txt.replace (Txt.slice z (some 1) none) "=b" " ").cps.size≤180000:=by
   rw[show ("=b" : Str)=⟨#[61,98]⟩ by trivial]
   exact zG (xf (by trivial)) (by lia)
  refine⟨_,rfl,34,pb,yL (head_drop h1),_,rfl,?_⟩
  refine aQ (fun h=>?_) (fun _=>?_)
  ·have h:(⟨#[34]⟩:Str) = "#" := ze h
   rw[pY] at h;exact absurd h (by decide)
  refine⟨_,rfl,pb,_,rfl,?_,_,rfl,?_,fo q⟩
  ·show (Txt.slice z (some 1) none).cps.size+((Txt.slice z (some 1) none).cps.size+1) * 1≤_;lia
  ·show (Txt.replace (Txt.slice z (some 1) none) "=b" " ").cps.size+((Txt.replace (Txt.slice z (some 1) none) "=b" " ").cps.size+1) * 1≤_
   lia
theorem jG(T:Txt w K mg t):Ok P w base T.bP 3 (fun ds S R _=>∃z,ds=[.str z]∧z.cps.size≤90000∧R (.bl (oZ z.cps.toList)) S):=by
 refine T.bP.F.ok jE (by rintro ds S R Z ⟨_,e,_⟩;exact by rw[e];rfl) (fun dh A outer s H E ds S R Z hr ⟨z,e,hz,q⟩=>?_)
 subst e
 rw[← EY] at q
 refine⟨_,(s1 (sr (MN (cf ((xi T).mono (by decide)) hr T.iz.m T.iz.k T.iz.b d0 (ac ds (ac (dv 0) an))) (yS (cf ((xi T).mono (by decide)) hr T.iz.m T.iz.k T.iz.b d0 (ac ds (ac (dv 0) an))))))),?_⟩
 refine⟨_,rfl, "number",z,rfl,hz,_,rfl,?_⟩
 refine aQ (fun h=>?_) (fun h=>?_)
 ·rw[h,Bool.true_or] at q
  exact fo q
 ·rw[h,ym] at q
  exact⟨_,rfl, "word",z,rfl,hz,fo q⟩
def Rd(S:aN)(d:D):Prop:=(∃k,BB S d k)∧∀z,d=.str z→z.cps.size≤90000∧PyData.strOk z=true
theorem tY(T:Txt w K mg t):Ok P w base T.words_of 1 (fun ds S R Z=>∃d,ds=[d]∧Rd S d∧(∀z,d=.str z→∀p,S p=none→R (.ref p) (S.set p (.lst ((cL z).map D.str))))∧((∀z,d≠.str z)→Z t.az S)):=by
 refine T.words_of.F.ok tO (by rintro ds S R Z ⟨d,e,_⟩;exact by rw[e];rfl) (fun dh A outer s H E ds S R Z hr ⟨d,e,⟨⟨k,hk⟩,hz⟩,q1,q2⟩=>?_)
 subst e
 refine⟨_,(sc (si (ej (tv (cb eG T.aq ai (ac (dv 0) (ac (uB T.iC eF) an))))) (s1 (Jj ⟨T.eQ⟩ T.fT (ac ds an))) s0) (s1 (sr (bm zH PySem.F.slot_str_split PySem.F.type_str_split m_split (dv 0) (ac ds an))))),?_⟩
 refine⟨_,rfl,_,_,_,_,rfl,dz,hk,_,rfl,?_⟩
 rcases nN hk with ⟨z,rfl,h0⟩|⟨h0,h1⟩
 ·rw[h0]
  refine aM ⟨_,rfl,rfl,z, " ",rfl,rfl,rfl,?_,fun p hp=>fo (q1 z rfl p hp)⟩
  have:=(hz z rfl).1
  rw[yn]
  show z.cps.size+2≤_
  lia
 ·rw[h0]
  refine bf ⟨sm (show 1≤100000 by decide),fo (q2 fun z e=>?_)⟩
  have:=h1 fun _=>true
  rw[e] at this
  cases this
theorem E6{P:Program}{w:World}{K:Frag}{mg:Str→Option Value}{base:Heap}{k:Nat}{f:Addr}{fd:FuncData}{ps:List Str}{pre:List D→Prop}
  (F:Ri P w K mg base k f fd ps (fun ds S R _=>pre ds∧∀l x y z,S l=none→R (.ref l) (S.set l (.lst [.int x,.int y,.int z])))):Ri P w K mg base k f fd ps (fun ds S R _=>pre ds∧∀l,S l=none→R (.ref l) (S.set l .well)):=by
 refine F.imp fun vs H Q E ⟨ds,S,R,Z,v,hS,⟨hp,h⟩,hR,hZ⟩=>⟨ds,S,fun d S2=>∃l x y z,S l=none∧d=.ref l∧S2=S.set l (.lst [.int x,.int y,.int z]),fun _ _=>False,v,hS,⟨hp,fun l x y z hl=>⟨l,x,y,z,hl,rfl,rfl⟩⟩,fun d S2 u H' ⟨l,x,y,z,hl,e1,e2⟩ rv hs kp=>?_,fun _ _ _ q=>q.elim⟩
 subst e1 e2
 refine hR _ _ u H' (h l hl) rv ?_ kp
 refine pP (x:=x) (y:=y) (z:=z) aa ?_
 rw[eC];exact hs
def PV(ds:List D)(l:Addr):Prop:=∃m:Int,ds=[.ref l,.int m]∧0<m∧m.natAbs.log2<9000
def LQ(ds:List D)(d:D):Prop:=∃(l:Addr) (m n:Int),ds=[.ref l,.int m]∧d=.int n∧0≤n∧n<m
def Iq:jg:=fun ds S R _=>∃(l:Addr) (m:Int),ds=[.ref l,.int m]∧0<m∧m.natAbs.log2<9000∧S l=some .well∧∀n:Int,0≤n→n<m→R (.int n) S
theorem wl{S:aN}{l p:Addr}{c:Ce}(hw:S l=some .well)(hp:S p=none):(S.set p c) l=some .well:=(ak (Dn hw hp)).trans hw
theorem dF{L:List D}{S:aN}{p:Addr}{n:Int}{R:KD}(h0:0≤n)(h1:n<(L.length:Int))(hp:S p=none)(q:∀d,d∈L→R d S):∃ds d,(S.set p (.lst L)) p=some (.lst ds)∧gT ds n=some d∧Fo (S.set p (.lst L)) (R d):=by
 obtain⟨v,e1,e2⟩:=jW (l:=L) h0 h1
 exact⟨L,v,aa,e1,S,.new hp,q v (z0 e2)⟩
theorem lM{m:Int}(h0:0<m)(h1:m≤8000):m.natAbs.log2<9000:=by
 have h2:m.natAbs≤8000:=by lia
 have h3:m.natAbs.log2≤m.natAbs:=Nat.log2_le_self _
 lia
theorem nT:∀{l:List α}{k:Nat}{x:α},l[k]?=some x→(x::l.eraseIdx k).Perm l
 |a::l,0,x,h=>by cases h;exact .refl _
 |a::l,k+1,x,h=>by
  have ih:=nT (l:=l) (k:=k) h
  rw[List.eraseIdx_cons_succ]
  exact (List.Perm.swap a x _).trans (ih.cons a)
theorem E7(h:k<n):seqIndex? ((k:Nat):Int) n=some k:=by
 have e:(if ((k:Nat):Int)<0 then ((k:Nat):Int)+(n:Int) else ((k:Nat):Int))=((k:Nat):Int):=if_neg (by lia)
 unfold seqIndex?
 dsimp only
 rw[e,if_pos (by simp;lia)];rfl
abbrev xk:List Str:=["a","ab","b","abc","key","up","at","mark","every","is","zzzzzzzz","price"]
theorem vN:∀z∈xk,lV z=true∧PyData.strOk z=true∧z ≠ "other" := by trivial
theorem As:xk.Nodup:=by trivial
def Cg(cs:List (Str×Str)):Prop:=Gd cs∧∀c∈cs,c.1∈xk
theorem xl(h:Cg cs):∀d∈cs.map bq,Ly S 60 d:=fun d hd=>by
 obtain⟨c,hc,rfl⟩:=zC.mp hd
 refine Ly.le (n:=1) (Ly.tup (n:=0) fun d hd=>?_) (by decide)
 simp only [zc,zw,or_false] at hd
 rcases hd with rfl|rfl
 ·exact Ly.str (vN _ (h.2 c hc)).2.1
 ·rcases (h.1.2.2 c hc).2 with e|e <;> rw[e] <;> exact Ly.str (by trivial)
theorem xm(T:Txt w K mg t):Ok P w base T.iw 1 (fun ds S R _=>(∃(ns:List Int) (k:Nat),ds=[.g8 (ns.map D.int),.int (k:Nat)]∧k≤1000)∧∀l,S l=none→R (.ref l) (S.set l .well)):=by
 refine E6 ?_
 refine T.iw.F.ok lE (by rintro ds S R Z ⟨⟨_,_,e,_⟩,_⟩;exact by rw[e];rfl) (fun dh A outer s H E ds S R Z hr ⟨⟨ns,k,e,hk⟩,q⟩=>?_)
 subst e
 refine⟨_,(sc (bK (i:=2) lE.nd di) (sc (sJ (si (aT sE hr.units (dv 1) (cb aW T.aX aI (ac (dv 0) an))) (s1 (bK (i:=2) lE.nd (ix hr.units (dv 0) (dv 1)))) s0)) (s1 (sr (bt (ac (bo aj hr.units (bo lR hr.units (dv 2) di) (bo cn hr.units di (dv 1))) (ac (yX (ix hr.units (bt (ac di (ac (dv 2) an))) (ct FP T.nJ jr (ac (cm HB hr.units (dv 2) (bo FK hr.units di di)) an)))) (ac di an)))))))),?_⟩
 refine⟨fun aw S'=>∃c:Int,aw=[some (.g8 (ns.map D.int)),some (.int (k:Nat)),some (.int c)]∧S'=S,?_,?_⟩
 ·refine⟨_,rfl,_,rfl,_,rfl,_,rfl,?_⟩
  refine aQ (fun h=>?_) (fun h=>?_)
  ·have h:(k:Int)<(((ns.map D.int).length:Nat):Int):=ze h
   have qw:k<ns.length:=by rw[za] at h;lia
   exact⟨_,rfl,_,rfl,.int ns[k],by rw[f9 (by rw[za];exact qw),zZ];simp [qw],fo ⟨_,rfl,rfl⟩⟩
  ·exact fo ⟨0,rfl,rfl⟩
 ·rintro aw S' ⟨c,rfl,rfl⟩
  refine⟨_,rfl,(show (0:Int)<2147483647 by decide),_,rfl,.inl ⟨by decide,by decide⟩,?_⟩
  refine⟨_,rfl,sm (show 2≤100000 by decide),fun pq Pt=>⟨_,rfl,⟨by decide,by decide,by decide⟩,.inr ⟨_,rfl,?_⟩⟩⟩
  have MV:∃j:Int,gT [D.int 0,D.int c] (if decide ((10:Int) ^ (18:Int).toNat≤c)=true then 1 else 0)=some (.int j):=by
   by_cases h:decide ((10:Int) ^ (18:Int).toNat≤c)=true
   ·rw[if_pos h];exact⟨c,rfl⟩
   ·rw[if_neg h];exact⟨0,rfl⟩
  obtain⟨j,hj⟩:=MV
  exact⟨_,_,aa,hj,S',.new Pt,sm (show 3≤100000 by decide),fun l hl=>fo (q l _ _ _ hl)⟩
theorem E8(T:Txt w K mg t):Ok P w base T.af 1 (BI PV LQ):=by
 refine yW ?_
 refine T.af.F.ok iZ (by rintro ds S R Z ⟨_,_,_,_,⟨_,e,_⟩,_⟩;exact by rw[e];rfl) (fun dh A outer s H E ds S R Z hr ⟨l,x,y,z,⟨m,e,hm,hlg⟩,hl,q⟩=>?_)
 subst e
 refine⟨_,(sc (si (aT m9 hr.units (ix hr.units (dv 0) di) di) (sc (bK (i:=2) iZ.nd (bo lR hr.units (ix hr.units (dv 0) di) (dv 1))) (sc (Pl (dv 0) di (bo u0 hr.units (ix hr.units (dv 0) di) (dv 1))) (s1 (sr (dv 2))))) s0) (sc (Pl (dv 0) di (bo aj hr.units (ix hr.units (dv 0) di) di)) (sc (bK (i:=2) iZ.nd (bo lR hr.units (bo cn hr.units (bo aj hr.units (bo aj hr.units (ix hr.units (dv 0) di) (bo cn hr.units di (ix hr.units (dv 0) di))) di) di) di)) (sc (bK (i:=2) iZ.nd (bo lR hr.units (bo cn hr.units (dv 2) (bo aj hr.units (bo u0 hr.units (dv 2) di) di)) di)) (s1 (sr (bo lR hr.units (bo lR hr.units (bo cn hr.units (dv 2) (bo aj hr.units (bo u0 hr.units (dv 2) di) di)) di) (dv 1)))))))),?_⟩
 refine⟨_,rfl,_,_,hl,rfl,_,rfl,?_⟩
 refine aQ (fun h=>?_) (fun h=>?_)
 ·refine⟨_,rfl,_,_,hl,rfl,_,rfl,hm,?_⟩
  refine⟨_,rfl,_,_,hl,rfl,_,rfl,⟨hm,hlg⟩,_,rfl,l,_,1,1,rfl,rfl,hl,rfl,?_⟩
  exact⟨_,rfl,fo (q _ _ _ _ ⟨l,m,_,rfl,rfl,Int.emod_nonneg _ (by lia),Int.emod_lt_of_pos _ hm⟩)⟩
 ·refine⟨_,rfl,_,_,hl,rfl,_,rfl,l,_,2,2,rfl,rfl,hl,rfl,?_⟩
  rw[show ([D.int x,D.int y,D.int z].set 2 (D.int (z+1)))=[D.int x,D.int y,D.int (z+1)] from rfl]
  have Hg:(S.set l (.lst [.int x,.int y,.int (z+1)])) l=some (.lst [.int x,.int y,.int (z+1)]):=aa
  refine⟨_,rfl,_,_,Hg,rfl,_,rfl,_,_,Hg,rfl,.inl ⟨by decide,by decide⟩,.inr ⟨by decide,by decide⟩,(show (0:Int)<2147483647 by decide),?_⟩
  have nb:∀z:Int,0≤z % 2147483647∧z % 2147483647<2147483647:=fun z=>⟨Int.emod_nonneg z (by decide),Int.emod_lt_of_pos z (by decide)⟩
  have n1:=nb ((x+7919 * (z+1)+1) * 48271)
  generalize (x+7919 * (z+1)+1) * 48271 % 2147483647=u at *
  refine⟨_,rfl,_,rfl,⟨by decide,by trivial⟩,.inl ⟨by lia,by lia⟩,(show (0:Int)<2147483647 by decide),?_⟩
  have n2:=nb (u * (u / 1009+69621))
  generalize u * (u / 1009+69621) % 2147483647=v at *
  exact⟨_,rfl,_,rfl,⟨by decide,by trivial⟩,.inl ⟨by lia,by lia⟩,(show (0:Int)<2147483399 by decide),_,rfl,hm,fo (q _ _ _ _ ⟨l,m,_,rfl,rfl,Int.emod_nonneg _ (by lia),Int.emod_lt_of_pos _ hm⟩)⟩
theorem aR(T:Txt w K mg t):Ok P w base T.af 1 Iq :=
 (E8 T).Pg <| by rintro ds S R Z ⟨l,m,e,h0,h1,hw,q⟩;exact⟨l,⟨m,e,h0,h1⟩,hw,by rintro d ⟨l',m',n,e1,e2,a,b⟩;exact by rw[e] at e1;cases e1;subst e2;exact q n a b⟩
theorem vO(T:Txt w K mg t):Ok P w base T.fP 2 (fun ds S R _=>∃l,ds=[.ref l]∧S l=some .well∧∀cs,Cg cs→R (.tup (cs.map bq)) S):=by
 refine T.fP.F.ok c_ (fun ds S R Z ⟨_,e,_⟩=>by rw[e];rfl) (fun dh A outer s H E ds S R Z hr ⟨l,e,hw,q⟩=>?_)
 subst e
 refine⟨_,(sc (bK (i:=1) c_.nd (bt (ac ds (ac ds (ac ds (ac ds (ac ds (ac ds (ac ds (ac ds (ac ds (ac ds (ac ds (ac ds an)))))))))))))) (sc (bK (i:=2) c_.nd (bt an)) (sc (sJ (FU (Lf T.iY (ac (cf ((aR T).mono (by decide)) hr T.af.m T.af.k T.af.b d0 (ac (dv 0) (ac (yX (ix hr.units (bt (ac di (ac di (ac di (ac di an))))) (cf ((aR T).mono (by decide)) hr T.af.m T.af.k T.af.b d0 (ac (dv 0) (ac di an))))) an))) an)) (gn (i:=3) c_.nd) (sc (bK (i:=4) c_.nd (bm zN PySem.F.slot_list_pop PySem.F.type_list_pop Em (dv 1) (ac (cf ((aR T).mono (by decide)) hr T.af.m T.af.k T.af.b d0 (ac (dv 0) (ac (cb aW T.aX aI (ac (dv 1) an)) an))) an))) (s1 (se (bm zN yb yc dJ (dv 2) (ac (bD (ac (dv 4) (ac (yX (ix hr.units (bt (ac ds (ac ds an))) (cf ((aR T).mono (by decide)) hr T.af.m T.af.k T.af.b d0 (ac (dv 0) (ac di an))))) an))) an))))))) (s1 (sr (ct fg T.cG bO (ac (dv 2) an))))))),?_⟩
 refine⟨sm (show 12≤100000 by decide),fun ln M7=>⟨sm (show 0≤100000 by decide),fun lf Gf=>?_⟩⟩
 have M8:ln≠lf:=Dn (aa (S:=S)) Gf
 have LR:S lf=none:=by rw[ak M8.symm] at Gf;exact Gf
 have T6:l≠ln:=Dn hw M7
 have T7:l≠lf:=Dn hw LR
 have M9:((S.set ln (.lst (xk.map D.str))).set lf (.lst [])) l=some .well:=wl (wl hw M7) Gf
 have MX:((S.set ln (.lst (xk.map D.str))).set lf (.lst [])) ln=some (.lst (xk.map D.str)):=(ak M8).trans aa
 have Ro:((S.set ln (.lst (xk.map D.str))).set lf (.lst [])) lf=some (.lst []):=aa
 have Jn:Sub S ((S.set ln (.lst (xk.map D.str))).set lf (.lst [])):=(Sub.new M7).trans (.new Gf)
 refine⟨fun aw S'=>∃o3 o4 cs,aw=[some (.ref l),some (.ref ln),some (.ref lf),o3,o4]∧Cg cs∧S' lf=some (.lst (cs.map bq))∧Sub S S',?_,?_⟩
 ·show Lh _ _ _ _ _ ((S.set ln (.lst (xk.map D.str))).set lf (.lst [])) _
  generalize (S.set ln (.lst (xk.map D.str))).set lf (.lst [])=S2 at M9 MX Ro Jn ⊢
  refine⟨_,rfl,sm (show 4≤100000 by decide),fun p hp=>⟨_,rfl,l,_,rfl,(by decide),(by decide),wl M9 hp,fun n4 Rp Rq=>dF Rp Rq hp fun d hd=>?_⟩⟩
  obtain⟨m,rfl,Wi,hm⟩:∃m:Nat,d=.int m∧1≤m∧m≤9:=by
   have hd:d∈[D.int 5,.int 5,.int 5,.int 9]:=hd
   simp only [zc,zw,or_false] at hd
   rcases hd with h|h|h|h
   ·exact⟨5,h,by decide,by decide⟩
   ·exact⟨5,h,by decide,by decide⟩
   ·exact⟨5,h,by decide,by decide⟩
   ·exact⟨9,h,by decide,by decide⟩
  refine⟨l,_,rfl,(by lia),lM (by lia) (by lia),M9,fun n h0 h1=>⟨n,rfl,by lia,by lia,?_⟩⟩
  refine⟨fun i aw S'=>∃(o3 o4:Option D) (cs:List (Str×Str)) (M:List Str),aw=[some (.ref l),some (.ref ln),some (.ref lf),o3,o4]∧(cs.map Prod.fst++M).Perm xk∧(∀c∈cs,c.2 = "number" ∨ c.2 = "word")∧cs.length=i∧S' ln=some (.lst (M.map D.str))∧S' lf=some (.lst (cs.map bq))∧S' l=some .well∧Sub S S',⟨none,none,[],xk,rfl,.refl _,fun _ h=>(nomatch h),rfl,MX,Ro,M9,Jn⟩,fun _ _ _ _=>trivial,?_,?_⟩
  ·rintro i d aw S' hd ⟨o3,o4,cs,M,rfl,Ir,hk,D7,hM,hF,hW,hs⟩
   have hd:(jZ 0 n.toNat)[i]?=some d:=hd
   obtain⟨hi,rfl⟩:=hG hd
   have Wj:M.length=12 - i:=by
    have:=Ir.length_eq
    rw[zg,za,D7] at this
    have Wk:xk.length=12:=rfl
    lia
   have Rr:(M.map D.str).length=M.length:=za _
   refine⟨_,rfl,⟨rfl,_,hM⟩,_,rfl,_,rfl,_,rfl,.inl ⟨_,hM,l,_,rfl,by lia,lM (by lia) (by lia),hW,fun j T8 T9=>?_⟩⟩
   obtain⟨jn,rfl⟩:∃jn:Nat,j=(jn:Int):=⟨j.toNat,by lia⟩
   have Iu:jn<M.length:=by lia
   have hz:M[jn]?=some (M[jn]'Iu):=zJ Iu
   generalize M[jn]'Iu=z at hz
   refine⟨ln,_,_,jn,.str z,rfl,rfl,hM,by lia,by lia,E7 (by lia),by rw[zZ,hz];rfl,?_⟩
   rw[← pQ]
   have PX:(S'.set ln (.lst ((M.eraseIdx jn).map D.str))) lf=some (.lst (cs.map bq)):=(ak M8.symm).trans hF
   have PY:(S'.set ln (.lst ((M.eraseIdx jn).map D.str))) l=some .well:=(ak T6).trans hW
   have Ru:(S'.set ln (.lst ((M.eraseIdx jn).map D.str))) ln=some (.lst ((M.eraseIdx jn).map D.str)):=aa
   have MT:Sub S (S'.set ln (.lst ((M.eraseIdx jn).map D.str))):=fun b c hb=>(ak (Dn hb M7)).trans (hs b c hb)
   generalize S'.set ln (.lst ((M.eraseIdx jn).map D.str))=S3 at PX PY Ru MT ⊢
   refine⟨_,rfl,⟨rfl,_,PX⟩,_,rfl,sm (show 2≤100000 by decide),fun p hp=>⟨_,rfl,l,_,rfl,(by decide),(by decide),wl PY hp,fun n2 PZ M_=>dF PZ M_ hp fun d hd=>?_⟩⟩
   obtain⟨kd,rfl,P0⟩:∃kd:Str,d=.str kd∧(kd = "number" ∨ kd = "word"):=by
    have hd:d∈[D.str "number",.str "word"]:=hd
    simp only [zc,zw,or_false] at hd
    rcases hd with h|h
    ·exact⟨_,h,.inl rfl⟩
    ·exact⟨_,h,.inr rfl⟩
   refine⟨sm (show 2≤100000 by decide),lf,_,_,rfl,rfl,PX,gz (by rw[za];lia),?_⟩
   refine⟨_,_,cs++[(z,kd)],M.eraseIdx jn,rfl,?_,fun c hc=>?_,by rw[zg,D7];rfl,(ak M8).trans Ru,by rw[aa,zT];rfl,(ak T7).trans PY,fun b c hb=>(ak (Dn hb LR)).trans (MT b c hb)⟩
   ·rw[zT,zI]
    exact ((nT hz).append_left _).trans Ir
   ·rcases zW.mp hc with hc|hc
    ·exact hk c hc
    ·rw[zM.mp hc];exact P0
  ·rintro aw S' ⟨o3,o4,cs,M,rfl,Ir,hk,D7,hM,hF,hW,hs⟩
   rw[show (⟨jZ 0 n.toNat,fun _=>True⟩:BD).xs.length=n.toNat from fJ] at D7
   have T_:=Ir.nodup_iff.mpr As
   have Bp:∀c∈cs,c.1∈xk:=fun c hc=>Ir.mem_iff.mp (yd _ (zC.mpr ⟨c,hc,rfl⟩))
   exact fo ⟨o3,o4,cs,rfl,⟨⟨by lia,(List.nodup_append.mp T_).1,fun c hc=>⟨(vN _ (Bp c hc)).1,hk c hc⟩⟩,Bp⟩,hF,hs⟩
 ·rintro aw S' ⟨o3,o4,cs,rfl,hc,hF,hs⟩
  exact⟨_,rfl,_,_,rfl,.inl hF,S,hs,q cs hc⟩
abbrev Iv:List Str:=["a","ab","b","abc","a1","a10","a2","key","z","zzzzzzzzzzzz","m","c"]
abbrev LS:Str := "ab~ "
abbrev tZ:Str := "ab= ~#-\"()|Z9_&"
abbrev Gg:List Str:=["","a","ab","abc","b","B"," ","a b"]
theorem t5:∀z∈Gg,dj z=true:=by trivial
theorem vP:∀z∈Iv,eA z=true:=by trivial
theorem CP:∀c∈LS.cps.toList,∀n<41,dj (PySem.Txt.mul ⟨#[c]⟩ ((n:Nat):Int))=true:=by trivial
theorem Iw(c:Nat)(n:Nat)(h:n<41):MulOk ⟨#[c]⟩ (n:Int):=by
 have e:(⟨#[c]⟩:Str).length=1:=rfl
 refine⟨by simp;lia,fun h1 _=>?_,fun h1 _=>?_⟩
 ·rw[e]
  have h2:(1:Int)≤(2 ^ 63 - 1) / (n:Int):=by
   rw[Int.le_ediv_iff_mul_le (by lia)]
   lia
  show ¬ ((1:Nat):Int)>_
  lia
 ·rw[e,Nat.one_mul,Int.toNat_natCast]
  have:=sm (n:=n) (by lia)
  unfold PySem.Builtin.Str.tooLong
  exact zh (by lia)
theorem nU:∀cs:List Nat,(Str.join "" (cs.map fun c=>(⟨#[c]⟩:Str))).cps.toList=cs
 |[]=>rfl
 |[c]=>rfl
 |c::d::r=>by
  have ih:=nU (d::r)
  rw[zz,zz]
  show ((⟨#[c]⟩:Str)++("" : Str)++Str.join "" ((⟨#[d]⟩:Str)::r.map fun c=>(⟨#[c]⟩:Str))).cps.toList=c::d::r
  rw[zz] at ih
  show ((#[c]++(("" : Str)).cps)++(Str.join "" ((⟨#[d]⟩:Str)::r.map fun c=>(⟨#[c]⟩:Str))).cps).toList=c::d::r
  rw[Array.toList_append,ih]
  rfl
theorem Au:∀c∈tZ.cps.toList,lU c=true:=by trivial
theorem CQ(cs:List Nat)(h:cs.length≤5):JoinOk "" (cs.map fun c=>(⟨#[c]⟩:Str))=true:=by
 refine PyProof.Rows.joinOk_of ?_
 have e:((cs.map fun c=>(⟨#[c]⟩:Str)).map (·.length)).sum=cs.length:=by
  rw[zR]
  clear h
  induction cs with
  |nil=>rfl
  |cons c r ih=>rw[zz,yy,ih,zb];show 1+_=_;lia
 rw[e,za]
 have:("" : Str).length=0:=rfl
 rw[this]
 lia
theorem kF:∀{xs out:List D},Paired (fun _ v=>∃c∈tZ.cps.toList,v=.str ⟨#[c]⟩) xs out→∃cs:List Nat,out=(cs.map fun c=>(⟨#[c]⟩:Str)).map D.str∧cs.length=xs.length∧∀c∈cs,c∈tZ.cps.toList
 |_,_,.nil=>⟨[],rfl,rfl,fun _ h=>(nomatch h)⟩
 |_,_,.cons ⟨c,hc,e⟩ r=>by
  obtain⟨cs,e1,e2,e3⟩:=kF r
  refine⟨c::cs,by rw[e,e1];rfl,by rw[zb,zb,e2],fun x hx=>?_⟩
  rcases zc.mp hx with e|hx
  ·rw[e];exact hc
  ·exact e3 x hx
theorem Av(T:Txt w K mg t):Ok P w base T.iy 2 (fun ds S R _=>∃l,ds=[.ref l]∧S l=some .well∧∀n:Int,n.natAbs<10 ^ 60→R (.int n) S):=by
 refine T.iy.F.ok lT (by rintro ds S R Z ⟨_,e,_⟩;exact by rw[e];rfl) (fun dh A outer s H E ds S R Z hr ⟨l,e,hw,q⟩=>?_)
 subst e
 refine⟨_,(sc (bK (i:=1) lT.nd (cf ((aR T).mono (by decide)) hr T.af.m T.af.k T.af.b d0 (ac (dv 0) (ac di an)))) (sc (si (aT aP hr.units (dv 1) di) (s1 (sr (bo cn hr.units (bo jf hr.units di (bo cn hr.units di (cf ((aR T).mono (by decide)) hr T.af.m T.af.k T.af.b d0 (ac (dv 0) (ac di an))))) (bo jf hr.units (bo jf hr.units (bo FK hr.units di di) di) (cf ((aR T).mono (by decide)) hr T.af.m T.af.k T.af.b d0 (ac (dv 0) (ac di an))))))) s0) (sc (si (aT aP hr.units (dv 1) di) (s1 (sr (bo jf hr.units (cf ((aR T).mono (by decide)) hr T.af.m T.af.k T.af.b d0 (ac (dv 0) (ac di an))) di))) s0) (s1 (sr (bo jf hr.units (cf ((aR T).mono (by decide)) hr T.af.m T.af.k T.af.b d0 (ac (dv 0) (ac di an))) di)))))),?_⟩
 refine⟨_,rfl,l,_,rfl,(by decide),(by decide),hw,fun n n0 n1=>?_⟩
 refine⟨_,rfl,_,rfl,?_⟩
 refine aQ (fun _=>?_) (fun _=>?_)
 ·refine⟨_,rfl,l,_,rfl,(by decide),(by decide),hw,fun m m0 m1=>?_⟩
  refine⟨.inl ⟨by decide,by decide⟩,⟨by decide,by decide,by decide⟩,_,rfl,l,_,rfl,(by decide),(by decide),hw,fun k k0 k1=>?_⟩
  refine⟨.inl ⟨by lia,by lia⟩,fo (q _ ?_)⟩
  have e10:((10:Int) ^ (60:Int).toNat)=1000000000000000000000000000000000000000000000000000000000000:=by trivial
  have E9:((10:Nat) ^ 60)=1000000000000000000000000000000000000000000000000000000000000:=by trivial
  rw[e10,E9]
  rcases (show m=0∨m=1 by lia) with rfl|rfl
  ·lia
  ·lia
 ·refine⟨_,rfl,_,rfl,?_⟩
  have E9:((10:Nat) ^ 60)=1000000000000000000000000000000000000000000000000000000000000:=by trivial
  refine aQ (fun _=>?_) (fun _=>?_)
  ·exact⟨_,rfl,l,_,rfl,(by decide),(by decide),hw,fun m m0 m1=>fo (q _ (by rw[E9];lia))⟩
  ·exact⟨_,rfl,l,_,rfl,(by decide),(by decide),hw,fun m m0 m1=>fo (q _ (by rw[E9];lia))⟩
theorem E_(T:Txt w K mg t):Ok P w base T.nG 2 (fun ds S R _=>∃l,ds=[.ref l]∧S l=some .well∧∀z:Str,dj z=true→R (.str z) S):=by
 refine T.nG.F.ok lF (by rintro ds S R Z ⟨_,e,_⟩;exact by rw[e];rfl) (fun dh A outer s H E ds S R Z hr ⟨l,e,hw,q⟩=>?_)
 subst e
 refine⟨_,(sc (bK (i:=1) lF.nd (cf ((aR T).mono (by decide)) hr T.af.m T.af.k T.af.b d0 (ac (dv 0) (ac di an)))) (sc (si (aT aP hr.units (dv 1) di) (s1 (sr (bo cn hr.units (ix hr.units ds (cf ((aR T).mono (by decide)) hr T.af.m T.af.k T.af.b d0 (ac (dv 0) (ac di an)))) (cf ((aR T).mono (by decide)) hr T.af.m T.af.k T.af.b d0 (ac (dv 0) (ac di an)))))) s0) (sc (si (aT aP hr.units (dv 1) di) (sc (bK (i:=2) lF.nd ds) (s1 (sr (bm zH yh yi hV ds (ac (pN (N:=["_law_k","_law_signs","_law_well_here"]) (src:=[none,some 2,some 0]) (pH (ae j_) ["_law_well_here","_law_way","_law_signs"] rfl rfl (by trivial)) (Lf T.iY (ac (cf ((aR T).mono (by decide)) hr T.af.m T.af.k T.af.b d0 (ac (dv 0) (ac di an))) an)) (qv (show (["_law_k","_law_signs","_law_well_here"]:List Str).Nodup by trivial)) (ba rfl) bb (fun _ _ _ _ _=>pM) (fun _ _ _ _ _=>(ix hr.units (dv 1) (cf ((aR T).mono (by decide)) hr T.af.m T.af.k T.af.b d0 (ac (dv 2) (ac di an)))))) an))))) s0) (s1 (sr (yX (ix hr.units (bt (ac ds (ac ds (ac ds (ac ds (ac ds (ac ds (ac ds (ac ds an))))))))) (cf ((aR T).mono (by decide)) hr T.af.m T.af.k T.af.b d0 (ac (dv 0) (ac di an)))))))))),?_⟩
 refine⟨_,rfl,l,_,rfl,(by decide),(by decide),hw,fun n n0 n1=>?_⟩
 refine⟨_,rfl,_,rfl,?_⟩
 refine aQ (fun _=>?_) (fun _=>?_)
 ·refine⟨_,rfl,l,_,rfl,(by decide),(by decide),hw,fun m m0 m1=>?_⟩
  obtain⟨c,ac,hc⟩:=jW (l:=LS.cps.toList) m0 (show m<4 from m1)
  refine⟨c,sm (show 4≤100000 by decide),ac,_,rfl,l,_,rfl,(by decide),(by decide),hw,fun k k0 k1=>?_⟩
  obtain⟨k',rfl⟩:∃k':Nat,k=(k':Int):=⟨k.toNat,by lia⟩
  exact⟨Iw c k' (by lia),fo (q _ (CP c (z0 hc) k' (by lia)))⟩
 ·refine⟨_,rfl,_,rfl,?_⟩
  refine aQ (fun _=>?_) (fun _=>?_)
  ·refine⟨rfl,_,rfl,l,_,rfl,(by decide),(by decide),hw,fun m m0 m1=>⟨m,rfl,by lia,by lia,?_⟩⟩
   refine iI (fun _ v=>∃c∈tZ.cps.toList,v=.str ⟨#[c]⟩) trivial (by show (jZ 0 m.toNat).length≤_;rw[fJ];lia) (fun d hd Q hQ=>?_) fun out ho p hp=>?_
   ·refine⟨_,rfl,_,rfl,l,_,rfl,(by decide),(by decide),hw,fun j j0 j1=>?_⟩
    obtain⟨c,ac,hc⟩:=jW (l:=tZ.cps.toList) j0 (show j<15 from j1)
    exact⟨c,sm (show 15≤100000 by decide),ac,hQ _ ⟨c,z0 hc,rfl⟩⟩
   ·obtain⟨cs,rfl,hl,Jd⟩:=kF ho
    have hl:cs.length=m.toNat:=hl.trans fJ
    refine⟨"",cs.map fun c=>(⟨#[c]⟩:Str),_,rfl,rfl,aa,CQ cs (by lia),S,.new hp,q _ ?_⟩
    have hj:(PySem.Txt.join "" (cs.map fun c=>(⟨#[c]⟩:Str))).cps.toList=cs:=by
     rw[kz];exact nU cs
    unfold dj
    rw[hj,zr (show (PySem.Txt.join "" (cs.map fun c=>(⟨#[c]⟩:Str))).cps.size≤40 by rw[ag,hj];lia),zq,zS]
    exact fun c hc=>Au c (Jd c hc)
  ·refine⟨sm (show 8≤100000 by decide),fun p hp=>⟨_,rfl,l,_,rfl,(by decide),(by decide),wl hw hp,fun n h0 h1=>dF h0 h1 hp fun d hd=>?_⟩⟩
   have hd:d∈Gg.map D.str:=hd
   obtain⟨z,hz,rfl⟩:=zC.mp hd
   exact fo (q z (t5 z hz))
theorem CS(T:Txt w K mg t):Ok P w base T.kl 3 (fun ds S R _=>∃l k,ds=[.ref l,.str k]∧S l=some .well∧∀v,CK v→mx k v=true→R v S):=by
 refine T.kl.F.ok vF (by rintro ds S R Z ⟨_,_,e,_⟩;exact by rw[e];rfl) (fun dh A outer s H E ds S R Z hr ⟨l,k,e,hw,q⟩=>?_)
 subst e
 refine⟨_,(sc (si (aT aP hr.units (cf ((aR T).mono (by decide)) hr T.af.m T.af.k T.af.b d0 (ac (dv 0) (ac di an))) di) (s1 (sr dn)) s0) (sc (si (aT aP hr.units (dv 1) ds) (s1 (sr (cf ((Av T).mono (by decide)) hr T.iy.m T.iy.k T.iy.b d0 (ac (dv 0) an)))) s0) (s1 (sr (cf ((E_ T).mono (by decide)) hr T.nG.m T.nG.k T.nG.b d0 (ac (dv 0) an)))))),?_⟩
 refine⟨_,rfl,l,_,rfl,(by decide),(by decide),hw,fun n n0 n1=>⟨_,rfl,?_⟩⟩
 refine aQ (fun _=>?_) (fun _=>?_)
 ·exact fo (q .aK (.inl rfl) rfl)
 refine⟨_,rfl,_,rfl,?_⟩
 refine aQ (fun h=>?_) (fun h=>?_)
 ·have h:k = "number" := ze h
  exact⟨_,rfl,l,rfl,hw,fun i hi=>fo (q _ (.inr (.inl ⟨i,rfl,hi⟩)) (by unfold mx;rw[if_pos h];rfl))⟩
 ·have h:¬ k = "number" := zj h
  exact⟨_,rfl,l,rfl,hw,fun z hz=>fo (q _ (.inr (.inr ⟨z,rfl,hz⟩)) (by unfold mx;rw[if_neg h];exact hz))⟩
theorem Iy(T:Txt w K mg t):Ok P w base T.tK 2 (fun ds S R _=>∃l,ds=[.ref l]∧S l=some .well∧∀z,eA z=true→R (.str z) S):=by
 refine T.tK.F.ok tP (by rintro ds S R Z ⟨_,e,_⟩;exact by rw[e];rfl) (fun dh A outer s H E ds S R Z hr ⟨l,e,hw,q⟩=>?_)
 subst e
 refine⟨_,(sc (bK (i:=1) tP.nd (bt (ac ds (ac ds (ac ds (ac ds (ac ds (ac ds (ac ds (ac ds (ac ds (ac ds (ac ds (ac ds an)))))))))))))) (s1 (sr (ix hr.units (dv 1) (cf ((aR T).mono (by decide)) hr T.af.m T.af.k T.af.b d0 (ac (dv 0) (ac di an))))))),?_⟩
 refine⟨sm (show 12≤100000 by decide),fun p hp=>⟨_,rfl,_,rfl,l,_,rfl,(by decide),(by decide),wl hw hp,fun n h0 h1=>?_⟩⟩
 obtain⟨v,e1,e2⟩:=jW (l:=Iv.map D.str) h0 (show n<12 from h1)
 obtain⟨z,hz,rfl⟩:=zC.mp (z0 e2)
 exact⟨Iv.map D.str,_,aa,e1,S,.new hp,q z (vP z hz)⟩
def Tx(n:Nat)(z:Str):Prop:=z.cps.size≤n∧PyData.strOk z=true
theorem Tx.le(h:Tx n z)(l:n≤m):Tx m z:=⟨zG h.1 l,h.2⟩
theorem CT(a b:Str):(a++b).cps.size=a.cps.size+b.cps.size:=by
 show (a.cps++b.cps).size=_
 rw[Array.size_append]
theorem Iz(ha:PyData.strOk a=true)(hb:PyData.strOk b=true):PyData.strOk (a++b)=true:=by
 rw[cg] at *
 intro c hc
 have hc:c∈(a.cps++b.cps).toList:=hc
 rw[Array.toList_append,zW] at hc
 rcases hc with hc|hc
 ·exact ha c hc
 ·exact hb c hc
theorem Tx.app(h:Tx n a)(h2:Tx m b):Tx (n+m) (a++b):=⟨by rw[CT];have:=h.1;have:=h2.1;lia,Iz h.2 h2.2⟩
theorem Tx.rd(h:Tx 90000 z):Rd S (.str z):=⟨⟨.str,rfl⟩,fun y e=>by cases e;exact h⟩
theorem Cg.tx(h:Cg cs):∀c∈cs,Tx 8 c.1∧Tx 8 c.2:=fun c hc=>by
 obtain⟨h1,h2⟩:=h.1.2.2 c hc
 have h3:c.1.cps.size≤8:=by
  unfold lV at h1
  simp only [zm,zx] at h1
  exact h1.1.2
 refine⟨⟨h3,(vN _ (h.2 c hc)).2.1⟩,?_⟩
 rcases h2 with e|e <;> rw[e] <;> exact⟨by trivial,by trivial⟩
theorem kG{ws:List Str}{i:Nat}(h:i<ws.length){j:Int}(e:j=((i:Nat):Int)):gT (ws.map D.str) j=some (.str (ws.getD i "")):=by
 rw[e,f9 (by rw[za];exact h),Ie h]
theorem CU{S:aN}{ds:List D}{R:KD}(h:∀d∈ds,Ly S 60 d)(q:R (.bl (!ds.isEmpty)) S):Ek true (.tup ds) (.tup []) S R:=by
 obtain⟨ps,k1,k2,k3,k4⟩:=Ly.all h
 refine⟨.tuple ps,.tuple [],by simp only [Dl,Dp];exact⟨ps,rfl,k1⟩,by simp only [Dl,Dp];exact⟨[],rfl,by simp only [DpAll]⟩,by simp only [PyData.canLay0];exact k2,by simp only [PyData.canLay0,PyData.canLayAll0],.inl (by simp only [PyData.depth];lia),?_⟩
 rw[if_pos rfl,tT,show ps.isEmpty=ds.isEmpty by cases ps <;> cases ds <;> first|rfl|cases k4];exact q
abbrev U1:List Str:=["","-","#","#0","#00","#-0","#-1","#1a","#" ++ PySem.Txt.mul "9" 60, "#" ++ PySem.Txt.mul "9" 61, "\"","\"a","\"=","\"=b"]
abbrev U2:List Str:=["\"=e","\"=B","\"a=","\"" ++ PySem.Txt.mul "a" 40, "\"" ++ PySem.Txt.mul "a" 41, "\"=eb","\"a\n","\"\"","'a","a","ab","a1"]
abbrev U3:List Str:=["1a","A","zzzzzzzzzzzzz","zzzzzzzzz","up","down","first","last","key","at","Up","number"]
abbrev U4:List Str:=["word","Word","(",")","((","()","every","is","below","above","begins","not","and","or"]
abbrev U5:List Str:=["xor","0","|","\n"]
theorem P1:∀z∈(((U1++U2)++U3)++U4)++U5,z.cps.size≤62∧PyData.strOk z=true:=by trivial
def i_(l:List Str):Nat:=(l.map (·.length)).sum+l.length
theorem nV(a b:List Str):i_ (a++b)=i_ a+i_ b:=by
 unfold i_;rw[zT,List.sum_append,zg];lia
theorem vQ(h:a.Sublist b):i_ a≤i_ b:=by
 unfold i_
 induction h with
 |slnil=>exact zi _
 |cons x _ ih=>rw[zz,yy,zb];lia
 |cons_cons x _ ih=>rw[zz,zz,yy,yy,zb,zb];lia
theorem vR(z:Str):i_ [z]=z.length+1:=by unfold i_;simp
theorem rz(l:List α)(lo hi:Option Int):(ay l lo hi).Sublist l:=by
 unfold ay
 exact (List.take_sublist _ _).trans (List.drop_sublist _ _)
theorem cB(ws:List Str)(lo hi:Option Int):ay (ws.map D.str) lo hi=(ay ws lo hi).map D.str:=by
 unfold ay
 rw[za,List.map_take,List.map_drop]
theorem rA(h:∀u∈us,PyData.strOk u=true)(hw:i_ us≤B)(hB:B≤100000):JoinOk " " us=true∧Tx B (Txt.join " " us):=by
 have h1:(" " : Str).length=1:=by trivial
 unfold i_ at hw
 refine⟨PyProof.Rows.joinOk_of (by rw[h1];lia),?_,EM (by trivial) h⟩
 have:=Cv " " us
 rw[h1] at this
 show (Txt.join " " us).length≤B
 lia
theorem xn(T:Txt w K mg t):Ok P w base T.iB 2 (fun ds S R _=>∃l cs,ds=[.ref l,.tup (cs.map bq)]∧Cg cs∧S l=some .well∧∀u,Tx 62 u→R (.str u) S):=by
 refine T.iB.F.ok du (fun ds S R Z ⟨_,_,e,_⟩=>by rw[e];rfl) (fun dh A outer s H E ds S R Z hr ⟨l,cs,e,hg,hw,q⟩=>?_)
 subst e
 have P2:=hg.tx
 have h8:=hg.1.1
 have sz:∀a b:Str,a.length+b.length≤100000→a.length+b.length≤sizeLine:=fun a b h=>sm h
 refine⟨_,(sc (bK (i:=2) du.nd (bt (ac ds (ac ds (ac ds (ac ds (ac ds (ac ds (ac ds (ac ds (ac (bo aj hr.units ds (bo cn hr.units ds di)) (ac (bo aj hr.units ds (bo cn hr.units ds di)) (ac ds (ac ds (ac ds (ac ds an)))))))))))))))) (sc (bK (i:=2) du.nd (bo aj hr.units (dv 2) (bt (ac ds (ac ds (ac ds (ac (bo aj hr.units ds (bo cn hr.units ds di)) (ac (bo aj hr.units ds (bo cn hr.units ds di)) (ac ds (ac ds (ac ds (ac ds (ac ds (ac ds (ac ds an))))))))))))))) (sc (bK (i:=2) du.nd (bo aj hr.units (dv 2) (bt (ac ds (ac ds (ac ds (ac ds (ac ds (ac ds (ac ds (ac ds (ac ds (ac ds (ac ds (ac ds an))))))))))))))) (sc (bK (i:=2) du.nd (bo aj hr.units (dv 2) (bt (ac ds (ac ds (ac ds (ac ds (ac ds (ac ds (ac ds (ac ds (ac ds (ac ds (ac ds (ac ds (ac ds (ac ds an))))))))))))))))) (sc (bK (i:=2) du.nd (bo aj hr.units (dv 2) (bt (ac ds (ac ds (ac ds (ac ds an))))))) (sc (sJ (si (aT ju hr.units (dv 1) (bD an)) (s1 (bK (i:=2) du.nd (bo aj hr.units (dv 2) (pN (N:=["_law_column"]) (src:=[none]) (pH (ae kc) ["_law_well_here","_law_columns_here","_law_some"] rfl rfl (by trivial)) (Jk (dv 1)) (qv (show (["_law_column"]:List Str).Nodup by trivial)) (ba rfl) bb (fun _ _ _ _ _=>pM) (fun _ _ _ _ _=>(ix hr.units (dv 0) di)))))) s0)) (s1 (sr (ix hr.units (dv 2) (cf ((aR T).mono (by decide)) hr T.af.m T.af.k T.af.b d0 (ac (dv 0) (ac (cb aW T.aX aI (ac (dv 2) an)) an)))))))))))),?_⟩
 refine⟨⟨by decide,by decide,by trivial⟩,sz _ _ (by trivial),⟨by decide,by decide,by trivial⟩,sz _ _ (by trivial),sm (show 14≤100000 by decide),fun p1 jk=>?_⟩
 generalize ja:S.set p1 _=S1
 have b1:Sub S S1:=by rw[← ja];exact .new jk
 have v1:S1 p1=some (.lst (U1.map D.str)):=by rw[← ja];exact aa
 refine⟨_,rfl,⟨by decide,by decide,by trivial⟩,sz _ _ (by trivial),⟨by decide,by decide,by trivial⟩,sz _ _ (by trivial),sm (show 12≤100000 by decide),fun p2 cP=>⟨_,_,(Sub.new cP) _ _ v1,aa,sm (show 26≤100000 by decide),fun p3 gJ=>?_⟩⟩
 generalize Jo:S1.set p2 _=S2 at gJ
 have b2:Sub S S2:=by rw[← Jo];exact b1.trans (.new cP)
 generalize rL:S2.set p3 _=S3
 have b3:Sub S S3:=by rw[← rL];exact b2.trans (.new gJ)
 have v3:S3 p3=some (.lst ((U1++U2).map D.str)):=by rw[← rL];exact aa
 refine⟨_,rfl,sm (show 12≤100000 by decide),fun p4 i9=>⟨_,_,(Sub.new i9) _ _ v3,aa,sm (show 38≤100000 by decide),fun p5 xj=>?_⟩⟩
 generalize xo:S3.set p4 _=S4 at xj
 have b4:Sub S S4:=by rw[← xo];exact b3.trans (.new i9)
 generalize P4:S4.set p5 _=S5
 have b5:Sub S S5:=by rw[← P4];exact b4.trans (.new xj)
 have v5:S5 p5=some (.lst (((U1++U2)++U3).map D.str)):=by rw[← P4];exact aa
 refine⟨_,rfl,sm (show 14≤100000 by decide),fun p6 CO=>⟨_,_,(Sub.new CO) _ _ v5,aa,sm (show 52≤100000 by decide),fun p7 M6=>?_⟩⟩
 generalize Rw:S5.set p6 _=S6 at M6
 have b6:Sub S S6:=by rw[← Rw];exact b5.trans (.new CO)
 generalize P5:S6.set p7 _=S7
 have b7:Sub S S7:=by rw[← P5];exact b6.trans (.new M6)
 have v7:S7 p7=some (.lst ((((U1++U2)++U3)++U4).map D.str)):=by rw[← P5];exact aa
 refine⟨_,rfl,sm (show 4≤100000 by decide),fun p8 Rx=>⟨_,_,(Sub.new Rx) _ _ v7,aa,sm (show 56≤100000 by decide),fun p9 Ry=>?_⟩⟩
 generalize Rz:S7.set p8 _=S8 at Ry
 have b8:Sub S S8:=by rw[← Rz];exact b7.trans (.new Rx)
 generalize P6:S8.set p9 _=S9
 have b9:Sub S S9:=by rw[← P6];exact b8.trans (.new Ry)
 have v9:S9 p9=some (.lst (((((U1++U2)++U3)++U4)++U5).map D.str)):=by rw[← P6];exact aa
 have hU:∀z∈(((U1++U2)++U3)++U4)++U5,Tx 62 z:=P1
 have Ua:((((U1++U2)++U3)++U4)++U5).length=56:=rfl
 generalize (((U1++U2)++U3)++U4)++U5=us at v9 hU Ua
 clear ja Jo rL xo P4 Rw P5 Rz P6 v1 v3 v5 v7
 refine⟨fun aw S'=>∃(pm:Addr) (us:List Str),aw=[some (.ref l),some (.tup (cs.map bq)),some (.ref pm)]∧S' pm=some (.lst (us.map D.str))∧1≤us.length∧us.length≤100∧(∀u∈us,Tx 62 u)∧Sub S S',?_,?_⟩
 ·refine⟨_,rfl,sm (show 0≤100000 by decide),CU (xl hg) ⟨_,rfl,?_⟩⟩
  refine aQ (fun _=>?_) (fun _=>?_)
  ·refine⟨_,rfl,_,rfl,_,.inl rfl,?_⟩
   refine comp_map (fun d=>match d with|.tup (x::_)=>x|_=>.aK) trivial (by show (cs.map bq).length≤_;rw[za];lia) (fun d hd Q hQ=>?_) fun pn RA=>?_
   ·obtain⟨c,hc,rfl⟩:=zC.mp hd
    exact⟨_,rfl,_,rfl,hQ⟩
   have e5:(cs.map bq).map (fun d=>match d with|.tup (x::_)=>x|_=>.aK)=(cs.map Prod.fst).map D.str:=by rw[zR,zR];rfl
   rw[show (⟨cs.map bq,fun _=>True⟩:BD).xs=cs.map bq from rfl,e5]
   refine⟨_,_,(Sub.new RA) _ _ v9,aa,sm (by rw[za,za,za];lia),fun pm Ir=>fo ⟨pm,us++cs.map Prod.fst,rfl,?_,?_,?_,fun u hu=>?_,(b9.trans (.new RA)).trans (.new Ir)⟩⟩
   ·rw[aa,zT]
   ·rw[zg];lia
   ·rw[zg,za];lia
   ·rcases zW.mp hu with hu|hu
    ·exact hU u hu
    ·obtain⟨c,hc,rfl⟩:=zC.mp hu
     exact (P2 c hc).1.le (by decide)
  ·exact fo ⟨p9,us,rfl,v9,by lia,by lia,hU,b9⟩
 ·rintro aw S' ⟨pm,us,rfl,hm,h1,Ub,hu,hs⟩
  have Rr:(us.map D.str).length=us.length:=za _
  refine⟨_,rfl,_,rfl,_,rfl,_,rfl,.inl ⟨_,hm,l,_,rfl,by lia,lM (by lia) (by lia),hs _ _ hw,fun j T8 T9=>?_⟩⟩
  obtain⟨jn,rfl⟩:∃jn:Nat,j=(jn:Int):=⟨j.toNat,by lia⟩
  have Iu:jn<us.length:=by lia
  refine⟨_,_,hm,kG Iu rfl,S,hs,q _ (hu _ ?_)⟩
  rw[List.getD_eq_getElem?_getD,zJ Iu]
  exact List.getElem_mem Iu
theorem xp{m:Int}(h0:0<m)(h1:m≤100000):m.natAbs.log2<9000 :=
 Nat.lt_trans ((Nat.log2_lt (show m.natAbs≠0 by lia)).mpr (show m.natAbs<2 ^ 17 by lia)) (by decide)
theorem xq(ws:List Str)(h0:0≤a)(h:a≤b):i_ (ay ws none (some a))+i_ (ay ws (some b) none)≤i_ ws:=by
 rw[← nV]
 refine vQ ?_
 obtain⟨i,rfl⟩:∃i:Nat,a=(i:Int):=⟨a.toNat,by lia⟩
 obtain⟨j,rfl⟩:∃j:Nat,b=(j:Int):=⟨b.toNat,by lia⟩
 unfold ay
 rw[HT.sIx_nat,HT.sIx_nat,HT.sIx_none,HT.sIx_none,yo,Nat.sub_zero,← zF,List.take_length]
 refine (List.Sublist.append (List.Sublist.refl _) (List.drop_sublist_drop_left ws (show min i ws.length≤min j ws.length by lia))).trans ?_
 rw[List.take_append_drop];exact List.Sublist.refl _
theorem vS(T:Txt w K mg t):Ok P w base T.fQ 3 (fun ds S R _=>∃(l:Addr) (cs:List (Str×Str)) (z:Str) (n:Nat),ds=[.ref l,.tup (cs.map bq),.str z]∧Cg cs∧S l=some .well∧Tx n z∧n≤49000∧∀u,Tx (2 * n+70) u→R (.str u) S):=by
 refine T.fQ.F.ok de (fun ds S R Z ⟨_,_,_,_,e,_⟩=>by rw[e];rfl) (fun dh A outer s H E ds S R Z hr ⟨l,cs,z,n,e,hg,hw,hz,hn,q⟩=>?_)
 subst e
 have Ip:i_ (cL z)≤n+1:=by have:=jF z;have:=hz.1;unfold i_;have e:z.length=z.cps.size:=rfl;lia
 have Na:∀u∈cL z,PyData.strOk u=true:=fun u hu=>rk hu hz.2
 have G6:=w5 z
 have pb:=rj z
 have RB:z.length=z.cps.size:=rfl
 have IA:=hz.1
 refine⟨_,(sc (bK (i:=3) de.nd (bm zH PySem.F.slot_str_split PySem.F.type_str_split m_split (dv 2) (ac ds an))) (sc (bK (i:=4) de.nd (cf ((aR T).mono (by decide)) hr T.af.m T.af.k T.af.b d0 (ac (dv 0) (ac (cb aW T.aX aI (ac (dv 3) an)) an)))) (sc (bK (i:=5) de.nd (cf ((aR T).mono (by decide)) hr T.af.m T.af.k T.af.b d0 (ac (dv 0) (ac di an)))) (sc (si (aT aP hr.units (dv 5) di) (s1 (sr (bm zH yh yi hV ds (ac (bo aj hr.units (sl (dv 3) o0 (o1 (dv 4))) (sl (dv 3) (o1 (bo aj hr.units (dv 4) di)) o0)) an)))) s0) (sc (si (aT aP hr.units (dv 5) di) (s1 (sr (bm zH yh yi hV ds (ac (bo aj hr.units (sl (dv 3) o0 (o1 (bo aj hr.units (dv 4) di))) (sl (dv 3) (o1 (dv 4)) o0)) an)))) s0) (sc (si (aT aP hr.units (dv 5) di) (s1 (sr (bm zH yh yi hV ds (ac (bo aj hr.units (bo aj hr.units (sl (dv 3) o0 (o1 (dv 4))) (bt (ac (cf ((xn T).mono (by decide)) hr T.iB.m T.iB.k T.iB.b d0 (ac (dv 0) (ac (dv 1) an))) an))) (sl (dv 3) (o1 (dv 4)) o0)) an)))) s0) (sc (si (aT aP hr.units (dv 5) di) (sc (bK (i:=6) de.nd (cf ((aR T).mono (by decide)) hr T.af.m T.af.k T.af.b d0 (ac (dv 0) (ac (cb aW T.aX aI (ac (dv 3) an)) an)))) (s1 (sr (bm zH yh yi hV ds (ac (bo aj hr.units (bo aj hr.units (sl (dv 3) o0 (o1 (dv 4))) (bt (ac (ix hr.units (dv 3) (dv 6)) an))) (sl (dv 3) (o1 (bo aj hr.units (dv 4) di)) o0)) an))))) s0) (s1 (sr (bm zH yh yi hV ds (ac (bo aj hr.units (bo aj hr.units (sl (dv 3) o0 (o1 (dv 4))) (bt (ac (cf ((xn T).mono (by decide)) hr T.iB.m T.iB.k T.iB.b d0 (ac (dv 0) (ac (dv 1) an))) an))) (sl (dv 3) (o1 (bo aj hr.units (dv 4) di)) o0)) an))))))))))),?_⟩
 refine⟨_,rfl,rfl,z, " ",rfl,rfl,rfl,by rw[yn];lia,fun p hp=>?_⟩
 rw[show Txt.split z " " = cL z from rfl]
 generalize cL z=ws at *
 have Rr:(ws.map D.str).length=ws.length:=za _
 have ja:(S.set p (.lst (ws.map D.str))) p=some (.lst (ws.map D.str)):=aa
 have sb:Sub S (S.set p (.lst (ws.map D.str))):=.new hp
 generalize S.set p (.lst (ws.map D.str))=S1 at ja sb ⊢
 have hW:=sb _ _ hw
 have fin:∀(us:List Str) (S':aN),Sub S S'→(∀u∈us,PyData.strOk u=true)→i_ us≤2 * n+70→JoinOk " " us=true∧Fo S' (R (.str (Txt.join " " us))):=fun us S' hs h1 h2=>⟨(rA h1 h2 (by lia)).1,S,hs,q _ (rA h1 h2 (by lia)).2⟩
 have cw:∀lo hi,i_ (ay ws lo hi)≤n+1:=fun lo hi=>zG (vQ (rz ws lo hi)) Ip
 have cl:∀lo hi,(ay ws lo hi).length≤n+1:=fun lo hi=>by have:=(rz ws lo hi).length_le;lia
 have co:∀lo hi,∀u∈ay ws lo hi,PyData.strOk u=true:=fun lo hi u hu=>Na u ((rz ws lo hi).subset hu)
 have two:∀(lo hi Fc Fd:Option Int) (S':aN),Sub S S'→JoinOk " " (ay ws lo hi++ay ws Fc Fd)=true∧Fo S' (R (.str (Txt.join " " (ay ws lo hi++ay ws Fc Fd)))):=fun lo hi Fc Fd S' hs =>
  fin _ S' hs (fun u hu=>(zW.mp hu).elim (co _ _ u) (co _ _ u)) (by rw[nV];have:=cw lo hi;have:=cw Fc Fd;lia)
 have three:∀(lo hi Fc Fd:Option Int) (x:Str) (S':aN),i_ (ay ws lo hi)+i_ (ay ws Fc Fd)≤i_ ws→PyData.strOk x=true→i_ [x]≤n+64→Sub S S'→JoinOk " " ((ay ws lo hi++[x])++ay ws Fc Fd)=true∧Fo S' (R (.str (Txt.join " " ((ay ws lo hi++[x])++ay ws Fc Fd)))):=fun lo hi Fc Fd x S' Fz hx Jp hs =>
  fin _ S' hs (fun u hu=>by
   rcases zW.mp hu with hu|hu
   ·rcases zW.mp hu with hu|hu
    ·exact co _ _ u hu
    ·rw[zM.mp hu];exact hx
   ·exact co _ _ u hu) (by rw[nV,nV];lia)
 refine⟨_,rfl,_,rfl,_,rfl,.inl ⟨_,ja,l,_,rfl,by lia,xp (by lia) (by lia),hW,fun at_ LU Gi=>?_⟩⟩
 refine⟨_,rfl,l,_,rfl,(by decide),(by decide),hW,fun way Nb IB=>?_⟩
 have c20:=xq ws LU (yE at_)
 have c21:=xq ws LU (show at_≤at_+1 by lia)
 refine⟨_,rfl,_,rfl,aQ (fun _=>?_) (fun _=>?_)⟩
 ·refine⟨rfl,_,rfl,_,rfl,_,rfl,_,ja,fun p2 cP=>?_⟩
  rw[cB]
  refine⟨_,rfl,_,rfl,_,rfl,_,(Sub.new cP) _ _ ja,fun p3 gJ=>?_⟩
  rw[cB]
  refine⟨_,_,(Sub.new gJ) _ _ aa,aa,sm (by rw[za,za];have:=cl none (some at_);have:=cl (some (at_+1)) none;lia),fun p4 i9=>?_⟩
  obtain⟨j1,j2⟩:=two none (some at_) (some (at_+1)) none _ (((sb.trans (.new (c:=.lst ((ay ws none (some at_)).map D.str)) cP)).trans (.new (c:=.lst ((ay ws (some (at_+1)) none).map D.str)) gJ)).trans (.new (c:=.lst ((ay ws none (some at_)).map D.str++(ay ws (some (at_+1)) none).map D.str)) i9))
  exact⟨" ",ay ws none (some at_)++ay ws (some (at_+1)) none,_,rfl,rfl,(by show _=_;rw[aa];simp only [zT]),j1,j2⟩
 refine⟨_,rfl,_,rfl,aQ (fun _=>?_) (fun _=>?_)⟩
 ·refine⟨rfl,_,rfl,_,rfl,_,rfl,_,ja,fun p2 cP=>?_⟩
  rw[cB]
  refine⟨_,rfl,_,rfl,_,rfl,_,(Sub.new cP) _ _ ja,fun p3 gJ=>?_⟩
  rw[cB]
  refine⟨_,_,(Sub.new gJ) _ _ aa,aa,sm (by rw[za,za];have:=cl none (some (at_+1));have:=cl (some at_) none;lia),fun p4 i9=>?_⟩
  obtain⟨j1,j2⟩:=two none (some (at_+1)) (some at_) none _ (((sb.trans (.new (c:=.lst ((ay ws none (some (at_+1))).map D.str)) cP)).trans (.new (c:=.lst ((ay ws (some at_) none).map D.str)) gJ)).trans (.new (c:=.lst ((ay ws none (some (at_+1))).map D.str++(ay ws (some at_) none).map D.str)) i9))
  exact⟨" ",ay ws none (some (at_+1))++ay ws (some at_) none,_,rfl,rfl,(by show _=_;rw[aa];simp only [zT]),j1,j2⟩
 refine⟨_,rfl,_,rfl,aQ (fun _=>?_) (fun _=>?_)⟩
 ·skip
  refine⟨rfl,_,rfl,_,rfl,_,rfl,_,ja,fun p2 cP=>?_⟩
  rw[cB]
  have v2:(S1.set p2 (.lst ((ay ws none (some at_)).map D.str))) p2=some (.lst ((ay ws none (some at_)).map D.str)):=aa
  have s2:=sb.trans (.new (c:=.lst ((ay ws none (some at_)).map D.str)) cP)
  have w2:=(Sub.new (c:=.lst ((ay ws none (some at_)).map D.str)) cP) _ _ ja
  generalize S1.set p2 (.lst ((ay ws none (some at_)).map D.str))=S2 at v2 s2 w2 ⊢
  refine⟨_,rfl,_,rfl,l,cs,rfl,hg,s2 _ _ hw,fun x hx=>⟨sm (show 1≤100000 by decide),fun p3 gJ=>⟨_,_,(Sub.new gJ) _ _ v2,aa,sm (by rw[za];have:=cl none (some at_);show _+1≤_;lia),fun p4 i9=>?_⟩⟩⟩
  have LV:=hx.2
  have Jp:i_ [x]≤n+64:=by rw[vR];have:=hx.1;have e:x.length=x.cps.size:=rfl;lia
  generalize rL:S2.set p3 _=S3 at i9
  have s3:Sub S S3:=by rw[← rL];exact s2.trans (.new gJ)
  have w3:S3 p=some (.lst (ws.map D.str)):=by rw[← rL];exact (Sub.new gJ) _ _ w2
  generalize xo:S3.set p4 _=S4
  have s4:Sub S S4:=by rw[← xo];exact s3.trans (.new i9)
  have w4:S4 p=some (.lst (ws.map D.str)):=by rw[← xo];exact (Sub.new i9) _ _ w3
  have v4:S4 p4=some (.lst ((ay ws none (some at_)++[x]).map D.str)):=by rw[← xo,aa,zT];rfl
  refine⟨_,rfl,_,rfl,_,rfl,_,w4,fun p5 xj=>?_⟩
  rw[cB]
  refine⟨_,_,(Sub.new xj) _ _ v4,aa,sm (by rw[za,za,zg];have:=cl none (some at_);have:=cl (some at_) none;show _+1+_≤_;lia),fun p6 CO=>?_⟩
  obtain⟨j1,j2⟩:=three none (some at_) (some at_) none x _ c20 LV Jp ((s4.trans (.new (c:=.lst ((ay ws (some at_) none).map D.str)) xj)).trans (.new (c:=.lst ((ay ws none (some at_)++[x]).map D.str++(ay ws (some at_) none).map D.str)) CO))
  exact⟨" ",(ay ws none (some at_)++[x])++ay ws (some at_) none,_,rfl,rfl,(by show _=_;rw[aa];simp only [zT]),j1,j2⟩
 refine⟨_,rfl,_,rfl,aQ (fun _=>?_) (fun _=>?_)⟩
 ·refine⟨_,rfl,_,rfl,_,rfl,.inl ⟨_,ja,l,_,rfl,by lia,xp (by lia) (by lia),hW,fun ot Wl Wm=>?_⟩⟩
  refine⟨rfl,_,rfl,_,rfl,_,rfl,_,ja,fun p2 cP=>?_⟩
  rw[cB]
  have v2:(S1.set p2 (.lst ((ay ws none (some at_)).map D.str))) p2=some (.lst ((ay ws none (some at_)).map D.str)):=aa
  have s2:=sb.trans (.new (c:=.lst ((ay ws none (some at_)).map D.str)) cP)
  have w2:=(Sub.new (c:=.lst ((ay ws none (some at_)).map D.str)) cP) _ _ ja
  generalize S1.set p2 (.lst ((ay ws none (some at_)).map D.str))=S2 at v2 s2 w2 ⊢
  have IC:ot.toNat<ws.length:=by lia
  obtain⟨x,hx⟩:∃x,x=ws.getD ot.toNat "" := ⟨_,rfl⟩
  have RC:x∈ws:=by rw[hx,List.getD_eq_getElem?_getD,zJ IC];exact List.getElem_mem IC
  refine⟨_,rfl,_,rfl,_,_,w2,kG IC (by lia),sm (show 1≤100000 by decide),fun p3 gJ=>⟨_,_,(Sub.new gJ) _ _ v2,aa,sm (by rw[za];have:=cl none (some at_);show _+1≤_;lia),fun p4 i9=>?_⟩⟩
  rw[← hx] at i9 ⊢
  have LV:=Na x RC
  have Jp:i_ [x]≤n+64:=by
   have:=vQ (List.singleton_sublist.mpr RC)
   lia
  generalize rL:S2.set p3 _=S3 at i9
  have s3:Sub S S3:=by rw[← rL];exact s2.trans (.new gJ)
  have w3:S3 p=some (.lst (ws.map D.str)):=by rw[← rL];exact (Sub.new gJ) _ _ w2
  generalize xo:S3.set p4 _=S4
  have s4:Sub S S4:=by rw[← xo];exact s3.trans (.new i9)
  have w4:S4 p=some (.lst (ws.map D.str)):=by rw[← xo];exact (Sub.new i9) _ _ w3
  have v4:S4 p4=some (.lst ((ay ws none (some at_)++[x]).map D.str)):=by rw[← xo,aa,zT];rfl
  refine⟨_,rfl,_,rfl,_,rfl,_,w4,fun p5 xj=>?_⟩
  rw[cB]
  refine⟨_,_,(Sub.new xj) _ _ v4,aa,sm (by rw[za,za,zg];have:=cl none (some at_);have:=cl (some (at_+1)) none;show _+1+_≤_;lia),fun p6 CO=>?_⟩
  obtain⟨j1,j2⟩:=three none (some at_) (some (at_+1)) none x _ c21 LV Jp ((s4.trans (.new (c:=.lst ((ay ws (some (at_+1)) none).map D.str)) xj)).trans (.new (c:=.lst ((ay ws none (some at_)++[x]).map D.str++(ay ws (some (at_+1)) none).map D.str)) CO))
  exact⟨" ",(ay ws none (some at_)++[x])++ay ws (some (at_+1)) none,_,rfl,rfl,(by show _=_;rw[aa];simp only [zT]),j1,j2⟩
 ·skip
  refine⟨rfl,_,rfl,_,rfl,_,rfl,_,ja,fun p2 cP=>?_⟩
  rw[cB]
  have v2:(S1.set p2 (.lst ((ay ws none (some at_)).map D.str))) p2=some (.lst ((ay ws none (some at_)).map D.str)):=aa
  have s2:=sb.trans (.new (c:=.lst ((ay ws none (some at_)).map D.str)) cP)
  have w2:=(Sub.new (c:=.lst ((ay ws none (some at_)).map D.str)) cP) _ _ ja
  generalize S1.set p2 (.lst ((ay ws none (some at_)).map D.str))=S2 at v2 s2 w2 ⊢
  refine⟨_,rfl,_,rfl,l,cs,rfl,hg,s2 _ _ hw,fun x hx=>⟨sm (show 1≤100000 by decide),fun p3 gJ=>⟨_,_,(Sub.new gJ) _ _ v2,aa,sm (by rw[za];have:=cl none (some at_);show _+1≤_;lia),fun p4 i9=>?_⟩⟩⟩
  have LV:=hx.2
  have Jp:i_ [x]≤n+64:=by rw[vR];have:=hx.1;have e:x.length=x.cps.size:=rfl;lia
  generalize rL:S2.set p3 _=S3 at i9
  have s3:Sub S S3:=by rw[← rL];exact s2.trans (.new gJ)
  have w3:S3 p=some (.lst (ws.map D.str)):=by rw[← rL];exact (Sub.new gJ) _ _ w2
  generalize xo:S3.set p4 _=S4
  have s4:Sub S S4:=by rw[← xo];exact s3.trans (.new i9)
  have w4:S4 p=some (.lst (ws.map D.str)):=by rw[← xo];exact (Sub.new i9) _ _ w3
  have v4:S4 p4=some (.lst ((ay ws none (some at_)++[x]).map D.str)):=by rw[← xo,aa,zT];rfl
  refine⟨_,rfl,_,rfl,_,rfl,_,w4,fun p5 xj=>?_⟩
  rw[cB]
  refine⟨_,_,(Sub.new xj) _ _ v4,aa,sm (by rw[za,za,zg];have:=cl none (some at_);have:=cl (some (at_+1)) none;show _+1+_≤_;lia),fun p6 CO=>?_⟩
  obtain⟨j1,j2⟩:=three none (some at_) (some (at_+1)) none x _ c21 LV Jp ((s4.trans (.new (c:=.lst ((ay ws (some (at_+1)) none).map D.str)) xj)).trans (.new (c:=.lst ((ay ws none (some at_)++[x]).map D.str++(ay ws (some (at_+1)) none).map D.str)) CO))
  exact⟨" ",(ay ws none (some at_)++[x])++ay ws (some (at_+1)) none,_,rfl,rfl,(by show _=_;rw[aa];simp only [zT]),j1,j2⟩
section
variable{iv:Str→Bool}{vo:Str→D}
abbrev lp:Str := "("
abbrev rp:Str := ")"
def cj:List Str:=["is","below","above","begins"]
def bV:List Str:=["and","or"]
def Pw(w:Str):Prop:=w≠lp∧w≠rp
mutual
inductive Wr (iv:Str→Bool) (vo:Str→D):D→List Str→Prop
 |eW:Wr iv vo (.tup [.str "every"]) [lp, "every",rp]
 |col {w n v} : w∈cj→Pw n→Pw v→iv v=true→Wr iv vo (.tup [.str w,.str n,vo v]) [lp,w,n,v,rp]
 |key {ks} : (∀k∈ks,Pw k)→Wr iv vo (.tup [.str "key",.tup (ks.map D.str)]) (lp :: "key" :: (ks++[rp]))
 |not {t ws} : Wr iv vo t ws→Wr iv vo (.tup [.str "not",t]) (lp :: "not" :: (ws++[rp]))
 |many {w ts ws} : w∈bV→kP iv vo ts ws→Wr iv vo (.tup [.str w,.tup ts]) (lp::w::(ws++[rp]))
inductive kP (iv:Str→Bool) (vo:Str→D):List D→List Str→Prop
 |nil:kP iv vo [] []
 |cons {t ts ws vs} : Wr iv vo t ws→kP iv vo ts vs→kP iv vo (t::ts) (ws++vs)
end
def isStr:D→Bool
 |.str _=>true
 |_=>false
def isTup:D→Bool
 |.tup _=>true
 |_=>false
theorem Wr.tup{t:D}(h:Wr iv vo t ws):isTup t=true:=by cases h <;> rfl
def aD(iv:Str→Bool)(vo:Str→D):List D→Option D
 |.str w::inner =>
  if w = "every" ∧ inner.length=0 then some (.tup [.str "every"])
  else if w∈cj∧inner.length=2∧inner.all isStr=true then
   (match inner with
   |[.str a,.str b]=>if iv b then some (.tup [.str w,.str a,vo b]) else none
   |_=>none)
  else if w = "key" ∧ inner.all isStr=true then some (.tup [.str "key",.tup inner])
  else if w = "not" ∧ inner.length=1∧inner.all isTup=true then
   (match inner with
   |[t]=>some (.tup [.str "not",t])
   |_=>none)
  else if w∈bV∧inner.all isTup=true then some (.tup [.str w,.tup inner])
  else none
 |_=>none
def b_(iv:Str→Bool)(vo:Str→D)(st:List (List D))(w:Str):Option (List (List D)) :=
 if w=lp then some ([]::st)
 else match st with
  |top::below::rest=>if w=rp then (aD iv vo top).map fun s=>(below++[s])::rest else some ((top++[.str w])::below::rest)
  |[top]=>some [top++[.str w]]
  |[]=>none
def cM(iv:Str→Bool)(vo:Str→D):List (List D)→List Str→Option (List (List D))
 |st,[]=>some st
 |st,w::ws=>(b_ iv vo st w).bind fun iP=>cM iv vo iP ws
theorem kH(st:List (List D))(ws:List Str):cM iv vo st (lp::ws)=cM iv vo ([]::st) ws:=by
 simp [cM,b_]
theorem kI(top below:List D)(rest:List (List D))(ws:List Str)(h:aD iv vo top=some s):cM iv vo (top::below::rest) (rp::ws)=cM iv vo ((below++[s])::rest) ws:=by
 have:rp≠lp:=by decide
 simp [cM,b_,this,h]
theorem iK{w:Str}(h:Pw w)(top:List D)(st:List (List D))(ws:List Str):cM iv vo (top::st) (w::ws)=cM iv vo ((top++[.str w])::st) ws:=by
 cases st <;> simp [cM,b_,h.1,h.2]
theorem xr:∀{ks:List Str},(∀k∈ks,Pw k)→∀(top:List D) (st:List (List D)) (ws:List Str),cM iv vo (top::st) (ks++ws)=cM iv vo ((top++ks.map D.str)::st) ws
 |[],_,top,st,ws=>by simp
 |k::ks,h,top,st,ws=>by
  rw[yf,iK (h k zf),xr fun x hx=>h x (zd _ hx)]
  simp
theorem all_strs(ks:List Str):(ks.map D.str).all isStr=true:=by
 rw[List.all_map];exact zS.mpr fun _ _=>rfl
theorem kP.dG:kP iv vo ts ws→ts.all isTup=true:=by
 intro h
 induction ts generalizing ws with
 |nil=>rfl
 |cons t ts ih=>cases h with|cons a b=>rw[zY,a.tup,ih b];rfl
theorem pf:aD iv vo [.str "every"]=some (.tup [.str "every"]):=by simp [aD]
theorem t6{w n v:Str}(hw:w∈cj)(hv:iv v=true):aD iv vo [.str w,.str n,.str v]=some (.tup [.str w,.str n,vo v]):=by
 have:w ≠ "every" := by rintro rfl;revert hw;decide
 simp [aD,this,hw,hv,isStr]
theorem t_(ks:List Str):aD iv vo (.str "key" :: ks.map D.str)=some (.tup [.str "key",.tup (ks.map D.str)]):=by
 have h1:("key" : Str) ≠ "every" := by decide
 have h2:("key" : Str)∉cj:=by decide
 dsimp only [aD]
 rw[if_neg (fun h=>h1 h.1),if_neg (fun h=>h2 h.1),if_pos ⟨rfl,all_strs ks⟩]
theorem ud{t:D}(h:isTup t=true):aD iv vo [.str "not",t]=some (.tup [.str "not",t]):=by
 have h1:("not" : Str) ≠ "every" := by decide
 have h2:("not" : Str)∉cj:=by decide
 have h3:("not" : Str) ≠ "key" := by decide
 dsimp only [aD]
 rw[if_neg (fun h=>h1 h.1),if_neg (fun h=>h2 h.1),if_neg (fun h=>h3 h.1),if_pos ⟨rfl,rfl,by rw[zY,h];rfl⟩]
theorem rB{w:Str}(hw:w∈bV)(h:ts.all isTup=true):aD iv vo (.str w::ts)=some (.tup [.str w,.tup ts]):=by
 have h1:w ≠ "every" := by rintro rfl;revert hw;decide
 have h2:w∉cj:=by
  intro h
  simp only [bV,zc,zw,or_false] at hw
  rcases hw with rfl|rfl <;> revert h <;> decide
 have h3:w ≠ "key" := by rintro rfl;revert hw;decide
 have h4:w ≠ "not" := by rintro rfl;revert hw;decide
 dsimp only [aD]
 rw[if_neg (fun h=>h1 h.1),if_neg (fun h=>h2 h.1),if_neg (fun h=>h3 h.1),if_neg (fun h=>h4 h.1),if_pos ⟨hw,h⟩]
theorem pw_col{w:Str}(h:w∈cj):Pw w:=by
 simp only [cj,zc,zw,or_false] at h
 rcases h with rfl|rfl|rfl|rfl <;> constructor <;> decide
theorem pw_andor{w:Str}(h:w∈bV):Pw w:=by
 simp only [bV,zc,zw,or_false] at h
 rcases h with rfl|rfl <;> constructor <;> decide
theorem pw_every:Pw "every" := by constructor <;> decide
theorem pw_key:Pw "key" := by constructor <;> decide
theorem pw_not:Pw "not" := by constructor <;> decide
mutual
theorem Wr.run{t:D} : Wr iv vo t ws→∀(top:List D) (st:List (List D)) (rest:List Str),cM iv vo (top::st) (ws++rest)=cM iv vo ((top++[t])::st) rest
 |.eW,top,st,rest=>by
  show cM iv vo _ (lp :: "every" :: rp::rest)=_
  rw[kH,iK pw_every]
  exact kI _ _ _ _ pf
 |.col hw hn hp hv,top,st,rest=>by
  rename_i w n v
  show cM iv vo _ (lp::w::n::v::rp::rest)=_
  rw[kH,iK (pw_col hw),iK hn,iK hp]
  exact kI _ _ _ _ (t6 hw hv)
 |.key hk,top,st,rest=>by
  rename_i ks
  rw[yf,yf,zI,kH,iK pw_key,xr hk,List.singleton_append]
  exact kI _ _ _ _ (t_ ks)
 |.not h,top,st,rest=>by
  rw[yf,yf,zI,kH,iK pw_not,h.run,List.singleton_append]
  exact kI _ _ _ _ (ud h.tup)
 |.many hw h,top,st,rest=>by
  rw[yf,yf,zI,kH,iK (pw_andor hw),h.run,List.singleton_append]
  exact kI _ _ _ _ (rB hw h.dG)
theorem kP.run:kP iv vo ts ws→∀(top:List D) (st:List (List D)) (rest:List Str),cM iv vo (top::st) (ws++rest)=cM iv vo ((top++ts)::st) rest
 |.nil,top,st,rest=>by simp
 |.cons a b,top,st,rest=>by
  rw[zI,a.run,b.run];simp
end
inductive vT (iv:Str→Bool) (vo:Str→D):List D→List Str→Prop
 |nil:vT iv vo [] []
 |word {w ds ws} : Pw w→vT iv vo ds ws→vT iv vo (.str w::ds) (w::ws)
 |sv {t vs ds ws} : Wr iv vo t vs→vT iv vo ds ws→vT iv vo (t::ds) (vs++ws)
theorem vT.app(h:vT iv vo a u)(k:vT iv vo b v):vT iv vo (a++b) (u++v):=by
 induction h with
 |nil=>exact k
 |word p _ ih=>exact .word p ih
 |sv p _ ih=>rw[zI];exact .sv p ih
theorem vT.strs{ds:List D}{ws:List Str}(h:vT iv vo ds ws)(a:ds.all isStr=true):ds=ws.map D.str∧∀w∈ws,Pw w:=by
 induction h with
 |nil=>exact⟨rfl,by simp⟩
 |word p _ ih =>
  rw[zY,zm] at a
  obtain⟨e,k⟩:=ih a.2
  exact⟨by rw[e];rfl,zX.mpr ⟨p,k⟩⟩
 |sv p _ ih =>
  rw[zY,zm] at a
  have:=p.tup
  cases p <;> cases a.1
theorem vT.dG{ds:List D}{ws:List Str}(h:vT iv vo ds ws)(a:ds.all isTup=true):kP iv vo ds ws:=by
 induction h with
 |nil=>exact .nil
 |word p _ ih=>rw[zY,zm] at a;cases a.1
 |sv p _ ih =>
  rw[zY,zm] at a
  exact .cons p (ih a.2)
theorem nW{ds:List D}{ws:List Str}{s:D}(hb:∀v,iv v=true→Pw v)(h:vT iv vo ds ws)(e:aD iv vo ds=some s):Wr iv vo s (lp::(ws++[rp])):=by
 cases h with
 |nil=>cases e
 |sv p _=>cases p <;> cases e
 |word p h =>
  rename_i w inner vs
  dsimp only [aD] at e
  by_cases h1:w = "every" ∧ inner.length=0
  ·rw[if_pos h1] at e
   obtain⟨rfl,h1⟩:=h1
   rw[List.length_eq_zero_iff] at h1
   subst h1
   cases e;cases h
   exact .eW
  rw[if_neg h1] at e
  by_cases h2:w∈cj∧inner.length=2∧inner.all isStr=true
  ·rw[if_pos h2] at e
   obtain⟨hw,hl,ha⟩:=h2
   obtain⟨e2,k2⟩:=h.strs ha
   subst e2
   rw[za] at hl
   match vs,hl with
   |[a,b],_ =>
    dsimp only [List.map] at e
    by_cases hv:iv b=true
    ·rw[if_pos hv] at e
     cases e
     exact .col hw (k2 a (by simp)) (k2 b (by simp)) hv
    ·rw[if_neg hv] at e;cases e
  rw[if_neg h2] at e
  by_cases h3:w = "key" ∧ inner.all isStr=true
  ·rw[if_pos h3] at e
   obtain⟨rfl,ha⟩:=h3
   obtain⟨e2,k2⟩:=h.strs ha
   subst e2
   cases e
   exact .key k2
  rw[if_neg h3] at e
  by_cases h4:w = "not" ∧ inner.length=1∧inner.all isTup=true
  ·rw[if_pos h4] at e
   obtain⟨rfl,hl,ha⟩:=h4
   have k:=h.dG ha
   match inner,hl with
   |[t],_ =>
    cases e
    cases k with
    |cons a b=>cases b;rw[zE];exact .not a
  rw[if_neg h4] at e
  by_cases h5:w∈bV∧inner.all isTup=true
  ·rw[if_pos h5] at e
   cases e
   exact .many h5.1 (h.dG h5.2)
  ·rw[if_neg h5] at e;cases e
inductive Gj (iv:Str→Bool) (vo:Str→D):List D→List Str→Prop
 |nil:Gj iv vo [] []
 |word {w ds ws} : Gj iv vo ds ws→Gj iv vo (ds++[.str w]) (ws++[w])
 |sv {t vs ds ws} : Gj iv vo ds ws→Wr iv vo t vs→Gj iv vo (ds++[t]) (ws++vs)
theorem Gj.one{t:D}(h:Gj iv vo [t] ws)(ht:isTup t=true):Wr iv vo t ws:=by
 generalize e:[t]=l at h
 cases h with
 |nil=>cases e
 |word h =>
  rename_i w ds vs
  obtain⟨e1,e2⟩:=List.append_inj' (s₁:=[]) (t₁:=[t]) e rfl
  cases e2;cases ht
 |sv h p =>
  rename_i t' vs ds us
  obtain⟨e1,e2⟩:=List.append_inj' (s₁:=[]) (t₁:=[t]) e rfl
  cases e2;subst e1
  generalize e3:([]:List D)=l at h
  cases h with
  |nil=>exact p
  |word _=>simp at e3
  |sv _ _=>simp at e3
inductive Aw (iv:Str→Bool) (vo:Str→D):List (List D)→List Str→Prop
 |base {ds ws} : Gj iv vo ds ws→Aw iv vo [ds] ws
 |up {st us ds ws} : Aw iv vo st us→vT iv vo ds ws→Aw iv vo (ds::st) (us++lp::ws)
theorem Aw.step(hb:∀v,iv v=true→Pw v){st iP:List (List D)}{us:List Str}{w:Str}(h:Aw iv vo st us)(e:b_ iv vo st w=some iP):Aw iv vo iP (us++[w]):=by
 unfold b_ at e
 by_cases h1:w=lp
 ·rw[if_pos h1] at e
  cases e;subst h1
  exact .up h .nil
 rw[if_neg h1] at e
 cases h with
 |base h=>cases e;exact .base (.word h)
 |up h k =>
  rename_i st us ds ws
  rw[zI,yf]
  cases h with
  |base h =>
   dsimp only at e
   by_cases h2:w=rp
   ·rw[if_pos h2] at e
    cases z:aD iv vo ds with
    |none=>rw[z] at e;cases e
    |some s=>rw[z] at e;cases e;subst h2;exact .base (.sv h (nW hb k z))
   ·rw[if_neg h2] at e
    cases e
    exact .up (.base h) (k.app (.word ⟨h1,h2⟩ .nil))
  |up h k' =>
   dsimp only at e
   by_cases h2:w=rp
   ·rw[if_pos h2] at e
    cases z:aD iv vo ds with
    |none=>rw[z] at e;cases e
    |some s =>
     rw[z] at e;cases e;subst h2
     have q:=Aw.up h (k'.app (.sv (nW hb k z) .nil))
     rw[zE] at q
     rw[zI]
     exact q
   ·rw[if_neg h2] at e
    cases e
    exact .up (.up h k') (k.app (.word ⟨h1,h2⟩ .nil))
theorem Aw.run(hb:∀v,iv v=true→Pw v):∀{ws:List Str}{st iP:List (List D)}{us:List Str},Aw iv vo st us→cM iv vo st ws=some iP→Aw iv vo iP (us++ws)
 |[],st,iP,us,h,e=>by cases e;rw[zE];exact h
 |w::ws,st,iP,us,h,e=>by
  unfold cM at e
  cases z:b_ iv vo st w with
  |none=>rw[z] at e;cases e
  |some s1 =>
   rw[z] at e
   have:=Aw.run hb (h.step hb z) e
   rw[zI] at this
   exact this
def bz(iv:Str→Bool)(vo:Str→D)(ws:List Str):Option D :=
 match cM iv vo [[]] ws with
 |some [[t]]=>if isTup t then some t else none
 |_=>none
theorem iL(hb:∀v,iv v=true→Pw v){t:D} : bz iv vo ws=some t↔Wr iv vo t ws:=by
 constructor
 ·intro e
  unfold bz at e
  split at e
  ·rename_i t' z
   by_cases h:isTup t'=true
   ·rw[if_pos h] at e
    cases e
    have k:=Aw.run hb (.base .nil) z
    rw[List.nil_append] at k
    cases k with
    |base k=>exact k.one h
    |up h _=>cases h
   ·rw[if_neg h] at e;cases e
  ·cases e
 ·intro h
  have k:=h.run [] [] []
  rw[zE] at k
  unfold bz
  rw[k]
  show (if isTup t=true then some t else none)=some t
  rw[if_pos h.tup]
def dl(w:Str):Int:=if w=lp then 1 else if w=rp then -1 else 0
def dp:List Str→Int
 |[]=>0
 |w::ws=>dl w+dp ws
theorem xt:dl lp=1:=by decide
theorem Gk:dl rp = -1:=by decide
theorem xu{w:Str}(h:Pw w):dl w=0:=by rw[dl,if_neg h.1,if_neg h.2]
theorem vU(u v:List Str):dp (u++v)=dp u+dp v:=by
 induction u with
 |nil=>show dp v=0+dp v;lia
 |cons w u ih=>show dl w+dp (u++v)=dl w+dp u+dp v;lia
def nX(b:List Str):Prop:=dp b=0∧∀u v,b=u++v→0≤dp u
theorem nX.nil:nX []:=⟨rfl,fun u v e=>by
 obtain⟨rfl,_⟩:=List.append_eq_nil_iff.mp e.symm
 exact yE 0⟩
theorem nX.app(h:nX a)(k:nX b):nX (a++b):=by
 refine⟨by rw[vU,h.1,k.1];rfl,fun u v e=>?_⟩
 rcases List.append_eq_append_iff.mp e with ⟨c,e1,e2⟩|⟨c,e1,e2⟩
 ·rw[e1,vU,h.1]
  have:=k.2 _ _ e2
  lia
 ·exact h.2 _ _ e1
theorem nX.cons{w:Str}(h:Pw w)(k:nX b):nX (w::b):=by
 refine .app (a:=[w]) ⟨by show dl w+0=0;rw[xu h];rfl,fun u v e=>?_⟩ k
 match u,e with
 |[],_=>exact yE 0
 |[x],e=>cases e;show 0≤dl w+0;rw[xu h];decide
 |x::y::u,e=>cases e
theorem nX.words:∀{ks:List Str},(∀k∈ks,Pw k)→nX ks
 |[],_=>.nil
 |k::ks,h=>.cons (h k zf) (nX.words fun x hx=>h x (zd _ hx))
def Nc(vs:List Str):Prop:=dp vs=0∧∀u v,vs=u++v→u≠[]→v≠[]→0<dp u
theorem nX.Ax(h:nX b):Nc (lp::(b++[rp])):=by
 refine⟨?_,fun u v e hu hv=>?_⟩
 ·show dl lp+dp (b++[rp])=0
  rw[vU,h.1,xt]
  show 1+(0+(dl rp+0))=(0:Int)
  rw[Gk];rfl
 ·match u,hu with
  |x::u,_ =>
   obtain⟨ex,e'⟩:lp=x∧b++[rp]=u++v:=List.cons.inj e
   rw[← ex]
   show 0<dl lp+dp u
   rw[xt]
   have:0≤dp u:=by
    rcases List.append_eq_append_iff.mp e' with ⟨c,e1,e2⟩|⟨c,e1,e2⟩
    ·match c,e2 with
     |[],_=>rw[e1,zE,h.1];decide
     |[y],e2=>cases v with
      |nil=>exact absurd rfl hv
      |cons z v=>cases e2
     |y::z::c,e2=>cases e2
    ·exact h.2 _ _ e1
   lia
theorem Nc.lvl(h:Nc vs):nX vs:=by
 refine⟨h.1,fun u v e=>?_⟩
 by_cases hu:u=[]
 ·subst hu;exact yE 0
 by_cases hv:v=[]
 ·subst hv;rw[zE] at e;rw[← e,h.1];decide
 ·exact Int.le_of_lt (h.2 u v e hu hv)
mutual
theorem Wr.Ax{t:D} : Wr iv vo t ws→Nc ws
 |.eW=>nX.Ax (b:=["every"]) (.words (ks:=["every"]) (by simpa using pw_every))
 |.col hw hn hp hv=>by
  rename_i w n v
  exact nX.Ax (b:=[w,n,v]) (.cons (pw_col hw) (.cons hn (.cons hp .nil)))
 |.key hk=>by
  rename_i ks
  exact nX.Ax (b := "key" :: ks) (.cons pw_key (.words hk))
 |.not h=>nX.Ax (b := "not" :: _) (.cons pw_not h.Ax.lvl)
 |.many hw h=>nX.Ax (b:=_::_) (.cons (pw_andor hw) h.lvl)
theorem kP.lvl:kP iv vo ts ws→nX ws
 |.nil=>.nil
 |.cons a b=>a.Ax.lvl.app b.lvl
end
theorem Wr.head{t:D}(h:Wr iv vo t ws):∃r,ws=lp::r:=by cases h <;> exact⟨_,rfl⟩
theorem Wr.ne{t:D}(h:Wr iv vo t ws):ws≠[]:=by
 obtain⟨r,e⟩:=h.head
 rw[e];exact List.cons_ne_nil _ _
def md:List Str→Int
 |[]=>0
 |w::ws=>max 0 (dl w+md ws)
theorem dk:∀ws,0≤md ws
 |[]=>yE 0
 |w::ws=>Int.le_max_left _ _
theorem gL(r:List Str):md (lp::r)=1+md r:=by
 have:=dk r
 show max 0 (dl lp+md r)=_
 rw[xt];lia
theorem nY{w:Str}(h:Pw w)(r:List Str):md (w::r)=md r:=by
 have:=dk r
 show max 0 (dl w+md r)=_
 rw[xu h];lia
theorem CV:∀(u r:List Str),dp u+md r≤md (u++r)
 |[],r=>by show 0+md r≤md r;lia
 |w::u,r=>by
  have:=CV u r
  show dl w+dp u+md r≤max 0 (dl w+md (u++r))
  lia
theorem Wr.md{t:D}(h:Wr iv vo t vs)(r:List Str):md r≤My.md (vs++r):=by
 have:=CV vs r
 rw[h.Ax.1] at this
 lia
end
def Tg(d:D):Prop:=(∃z,d=.str z∧z.cps.size≤90000∧PyData.strOk z=true)∨∃ws,d=.tup ws∧∀S,(∃n,Ly S n d)∧QA S d
theorem Tg.kd(h:Tg d)(S:aN):∃k,BB S d k∧ql k=isStr d∧jX k=isTup d:=by
 rcases h with ⟨z,rfl,_⟩|⟨ws,rfl,_⟩
 ·exact⟨.str,rfl,rfl,rfl⟩
 ·exact⟨.tup,rfl,rfl,rfl⟩
theorem kJ(T:Txt w K mg t):Ok P w base T.cO 1 (fun ds S R _=>∃a xs,ds=[.ref a]∧S a=some (.lst xs)∧xs.length≤100000∧(∀d∈xs,Tg d)∧R (.bl (xs.all isStr)) S):=by
 refine T.cO.F.kO rg ?_
 rintro _ _ _ _ _ _ ds S R Z hr ⟨a,xs,e,hS,hl,ht,q⟩
 subst e
 refine⟨_,(s1 (sr (cb fe T.fm cQ (ac (pN (N:=["thing"]) (src:=[none]) (pH (ae fj) ["things"] rfl rfl (by trivial)) (il (dv 0)) (qv (show (["thing"]:List Str).Nodup by trivial)) (ba rfl) bb (fun _ _ _ _ _=>pM) (fun _ _ _ _ _=>(cb eG T.aq ai (ac (dv 0) (ac (uB T.iC eF) an))))) an)))),?_⟩
 refine⟨_,rfl,xs,hS,?_⟩
 refine comp_map (fun d=>.bl (isStr d)) hS hl (fun d hd Q hQ=>?_) fun p hp=>?_
 ·obtain⟨k,hk,e1,_⟩:=(ht d hd).kd S
  refine⟨_,rfl,_,_,_,_,rfl,dz,hk,?_⟩
  rw[e1];exact hQ
 ·have e2:xs.map (fun d=>D.bl (isStr d))=(xs.map isStr).map D.bl:=by rw[zR];rfl
  rw[show (⟨xs,fun S=>sD S (.ref a) xs⟩:BD).xs=xs from rfl,e2]
  refine⟨.ref p,xs.map isStr,rfl,aa,S,.new hp,?_⟩
  rw[show (xs.map isStr).all id=xs.all isStr from all_map]
  exact q
theorem jl(T:Txt w K mg t):Ok P w base T.bT 1 (fun ds S R _=>∃a xs,ds=[.ref a]∧S a=some (.lst xs)∧xs.length≤100000∧(∀d∈xs,Tg d)∧R (.bl (xs.all isTup)) S):=by
 refine T.bT.F.kO oX ?_
 rintro _ _ _ _ _ _ ds S R Z hr ⟨a,xs,e,hS,hl,ht,q⟩
 subst e
 refine⟨_,(s1 (sr (cb fe T.fm cQ (ac (pN (N:=["thing"]) (src:=[none]) (pH (ae eu) ["things"] rfl rfl (by trivial)) (il (dv 0)) (qv (show (["thing"]:List Str).Nodup by trivial)) (ba rfl) bb (fun _ _ _ _ _=>pM) (fun _ _ _ _ _=>(cb eG T.aq ai (ac (dv 0) (ac (uB T.cG bO) an))))) an)))),?_⟩
 refine⟨_,rfl,xs,hS,?_⟩
 refine comp_map (fun d=>.bl (isTup d)) hS hl (fun d hd Q hQ=>?_) fun p hp=>?_
 ·obtain⟨k,hk,_,e1⟩:=(ht d hd).kd S
  refine⟨_,rfl,_,_,_,_,rfl,iU,hk,?_⟩
  rw[e1];exact hQ
 ·have e2:xs.map (fun d=>D.bl (isTup d))=(xs.map isTup).map D.bl:=by rw[zR];rfl
  rw[show (⟨xs,fun S=>sD S (.ref a) xs⟩:BD).xs=xs from rfl,e2]
  refine⟨.ref p,xs.map isTup,rfl,aa,S,.new hp,?_⟩
  rw[show (xs.map isTup).all id=xs.all isTup from all_map]
  exact q
def ar(z:Str):D:=if z = "-" then .aK else match z.cps.toList.head? with
 |some 35=>(match intText? (Txt.slice z (some 1) none) with|some n=>.int n|none=>.aK)
 |_=>.str (wO (Txt.slice z (some 1) none))
def ck(z:Str):Bool:=oZ z.cps.toList
theorem vV{z:Str}{d:D}(h:Told z d):d=ar z:=by
 unfold ar
 rcases h with ⟨rfl,rfl⟩|⟨h1,n,_,h2,_,rfl⟩|⟨h1,rfl⟩
 ·rw[if_pos rfl]
 ·rw[if_neg (by rintro rfl;revert h1;decide +kernel),h1]
  show _=(match intText? (Txt.slice z (some 1) none) with|some n=>D.int n|none=>D.aK)
  rw[h2]
 ·rw[if_neg (by rintro rfl;revert h1;decide +kernel),h1];rfl
def Nw(d:D):Prop:=d=.aK∨∃ws,d=.tup ws∧∀S,∃n,Ly S n d
theorem Nw.eq(h:Nw d)(hs:PyData.strOk s=true)(q:R (.bl false) S):Ek false d (.str s) S R:=by
 rcases h with rfl|⟨ws,rfl,hl⟩
 ·exact⟨.none,.str s,by simp only [Dl,Dp],by simp only [Dl,Dp],by simp only [PyData.canLay0],by simp only [PyData.canLay0,hs],.inl (by simp only [PyData.depth];decide),q⟩
 ·obtain⟨n,hn⟩:=hl S
  obtain⟨p,h1,h2,_⟩:=hn.dl
  refine⟨p,.str s,h1,by simp only [Dl,Dp],h2,by simp only [PyData.canLay0,hs],.inr (by simp only [PyData.depth];decide),?_⟩
  have e:PyData.eqv p (.str s)=false:=by
   simp only [Dl,Dp] at h1
   obtain⟨ps,rfl,_⟩:=h1
   simp [PyData.eqv]
  show R (.bl (PyData.eqv p (.str s))) S
  rw[e];exact q
theorem Nw.P7{d:D}(h:Nw d){ss:List Str}(hs:∀s∈ss,PyData.strOk s=true){S:aN} : Alike S d (ss.map D.str) false:=by
 obtain⟨p,h1,h2,h3⟩:∃p,Dl S d p∧p.canLay0=true∧∀s,PyData.eqv (.str s) p=false:=by
  rcases h with rfl|⟨ws,rfl,hl⟩
  ·exact⟨.none,by simp only [Dl,Dp],by simp only [PyData.canLay0],fun s=>by simp [PyData.eqv]⟩
  ·obtain⟨n,hn⟩:=hl S
   obtain⟨p,h1,h2,_⟩:=hn.dl
   refine⟨p,h1,h2,fun s=>?_⟩
   simp only [Dl,Dp] at h1
   obtain⟨ps,rfl,_⟩:=h1
   simp [PyData.eqv]
 refine⟨p,h1,h2,fun x hx=>?_⟩
 obtain⟨s,hm,rfl⟩:=zC.mp hx
 exact⟨.str s,by simp only [Dl,Dp],by simp only [PyData.canLay0,hs s hm],.inl (by simp only [PyData.depth];decide),h3 s⟩
def P8(t:F_):jg:=fun ds S R Z=>∃a xs,ds=[.ref a]∧S a=some (.lst xs)∧xs.length≤90000∧(∀d∈xs,Tg d)∧(∀s,aD ck ar xs=some s→R s S)∧(aD ck ar xs=none→Z t.az S)
theorem Nw.Jq{d:D}(h:Nw d){s:Str}(hs:PyData.strOk s=true){σ:SD}{S:aN}{R:KD}{Z:Addr→aN→Prop}(q:R (.bl false) S):dC (.str s) σ S (fun y S2=>Ek false d y S2 R) Z:=h.eq hs q
theorem Nw.RD{d:D}(h:Nw d)(ss:List Str)(hs:∀s∈ss,PyData.strOk s=true){σ:SD}{S:aN}{R:KD}{Z:Addr→aN→Prop}(q:R (.bl false) S):dC (.kt (ss.map D.str)) σ S (fun y S2=>MZ false d y S2 R) Z :=
 .inr ⟨_,false,.inr (.inl rfl),h.P7 hs,q⟩
theorem fC{c1:Bool}{X A B:Prop}(c2:Bool)(hx:(if c2=true then A else B)→X)(h:if (c1 && c2)=true then A else B):if c1=true then X else (if false=true then A else B):=by
 cases c1 with
 |true=>exact hx h
 |false=>exact h
theorem isStr_of{d:D}(h:isStr d=true):∃z,d=.str z:=by
 cases d with
 |str z=>exact⟨z,rfl⟩
 |_=>cases h
theorem eB(x y:D)(ws:List D):gT (x::y::ws) 1=some y:=f9 (xs:=x::y::ws) (i:=1) (by simp)
theorem len_eq(n:Nat)(k:Nat):decide ((((n:Nat):Int))=((k:Nat):Int))=decide (n=k):=by rw[zy];lia
theorem rC(z:Str):uA (gU (.str z)) (([.str "is",.str "below",.str "above",.str "begins"]:List D).map gU)=decide (z∈cj):=gB z cj
theorem CW(z:Str):uA (gU (.str z)) (([.str "and",.str "or"]:List D).map gU)=decide (z∈bV):=gB z bV
theorem ue(T:Txt w K mg t):Ok P w base T.iu 5 (P8 t):=by
 refine T.iu.F.kO iH ?_
 rintro _ _ _ _ _ _ ds S R Z hr ⟨a,xs,e,hS,hl,ht,q1,q2⟩
 subst e
 refine⟨_,(sc (bK (i:=1) iH.nd (Q0 (aT m9 hr.units (cb aW T.aX aI (ac (dv 0) an)) di) (ix hr.units (dv 0) di) dn)) (sc (bK (i:=2) iH.nd (sl (dv 0) (o1 di) o0)) (sc (si (twd (twand (aT aP hr.units (dv 1) ds) (tw1 (aT aP hr.units (cb aW T.aX aI (ac (dv 2) an)) di)))) (s1 (sr (bD (ac ds an)))) s0) (sc (si (twd (twand (aT FZ hr.units (dv 1) (dg (v:=.ref t.eJ) T.mr rfl T.mv)) (twand (aT aP hr.units (cb aW T.aX aI (ac (dv 2) an)) di) (tw1 (tv (cf ((kJ T).mono (by decide)) hr T.cO.m T.cO.k T.cO.b d0 (ac (dv 2) an))))))) (s1 (sr (bD (ac (dv 1) (ac (ix hr.units (dv 2) di) (ac (cf ((lL T).mono (by decide)) hr T.cz.m T.cz.k T.cz.b d0 (ac (ix hr.units (dv 2) di) an)) an)))))) s0) (sc (si (twd (twand (aT aP hr.units (dv 1) ds) (tw1 (tv (cf ((kJ T).mono (by decide)) hr T.cO.m T.cO.k T.cO.b d0 (ac (dv 2) an)))))) (s1 (sr (bD (ac ds (ac (ct fg T.cG bO (ac (dv 2) an)) an))))) s0) (sc (si (twd (twand (aT aP hr.units (dv 1) ds) (twand (aT aP hr.units (cb aW T.aX aI (ac (dv 2) an)) di) (tw1 (tv (cf ((jl T).mono (by decide)) hr T.bT.m T.bT.k T.bT.b d0 (ac (dv 2) an))))))) (s1 (sr (bD (ac ds (ac (ix hr.units (dv 2) di) an))))) s0) (sc (si (twd (twand (aT FZ hr.units (dv 1) (bD (ac ds (ac ds an)))) (tw1 (tv (cf ((jl T).mono (by decide)) hr T.bT.m T.bT.k T.bT.b d0 (ac (dv 2) an)))))) (s1 (sr (bD (ac (dv 1) (ac (ct fg T.cG bO (ac (dv 2) an)) an))))) s0) (s1 (Jj ⟨T.eQ⟩ T.fT (ac ds an)))))))))),?_⟩
 refine⟨_,rfl,_,rfl,.inl ⟨_,hS,_,rfl,?_⟩⟩
 have n2:=sm (show 2≤100000 by decide)
 have n1:=sm (show 1≤100000 by decide)
 have n3:=sm (show 3≤100000 by decide)
 refine aQ (fun h0=>?_) (fun h0=>?_)
 ·have h0:(0:Int)<((xs.length:Nat):Int):=ze h0
  match xs,h0 with
  |x::r,_ =>
  refine⟨_,rfl,_,_,hS,bJ x r,?_⟩
  refine⟨_,rfl,_,rfl,_,hS,fun p hp=>?_⟩
  rw[show ay (x::r) (some 1) none=r from xh (x::r)]
  have sb:Sub S (S.set p (.lst r)):=.new hp
  have jk:(S.set p (.lst r)) p=some (.lst r):=aa
  generalize S.set p (.lst r)=S1 at sb jk ⊢
  have Nd:r.length≤90000:=zG (Nat.le_succ _) hl
  have Fe:r.length≤100000:=zG Nd (by decide)
  have LW:∀d∈r,Tg d:=fun d hd=>ht d (zd _ hd)
  rcases ht x zf with ⟨z,rfl,IA,P9⟩|⟨ws,rfl,Uc⟩
  ·-- a word
   have L:∀(k:Nat),decide (((r.length:Nat):Int)=((k:Nat):Int))=decide (r.length=k):=fun k=>len_eq _ k
   refine⟨_,rfl,decide (z = "every"),rfl,fC (decide (r.length=0)) (fun h=>⟨_,rfl,_,rfl,.inl ⟨_,jk,decide (r.length=0),congrArg D.bl (L 0),h⟩⟩) ?_⟩
   refine aQ (fun h=>?_) (fun h1=>?_)
   ·rw[zm,zx,zx] at h
    refine⟨n1,S,sb,q1 _ ?_⟩
    dsimp only [aD];rw[if_pos h]
   have h1:¬ (z = "every" ∧ r.length=0):=fun h=>by rw[zr h.1,zr h.2] at h1;cases h1
   refine⟨_,rfl,.inl ⟨rfl,rfl,decide (z∈cj),congrArg D.bl (rC z),fC (decide (r.length=2) && r.all isStr) (fun h=>⟨_,rfl,_,rfl,.inl ⟨_,jk,decide (r.length=2),congrArg D.bl (L 2),fC (r.all isStr) (fun h=>⟨_,rfl,p,r,rfl,jk,Fe,LW,_,rfl,h⟩) h⟩⟩) ?_⟩⟩
   refine aQ (fun h=>?_) (fun h2=>?_)
   ·simp only [zm,zx] at h
    obtain⟨hc,Hg,ha⟩:=h
    obtain⟨x1,x2,rfl⟩:=Ig Hg
    have Gi:=ha
    simp only [zY,List.all_nil,yD,zm] at Gi
    obtain⟨a1,rfl⟩:=isStr_of Gi.1
    obtain⟨b1,rfl⟩:=isStr_of Gi.2
    have Ud:b1.cps.size≤90000:=by
     rcases LW (.str b1) (by simp) with ⟨y,e,h,_⟩|⟨_,e,_⟩
     ·cases e;exact h
     ·cases e
    have so:aD ck ar (.str z::[.str a1,.str b1])=if ck b1=true then some (.tup [.str z,.str a1,ar b1]) else none:=by
     dsimp only [aD];rw[if_neg h1,if_pos ⟨hc,Hg,ha⟩]
    refine⟨_,rfl,_,rfl,_,_,jk,bJ _ _,_,rfl,_,_,jk,eB _ _ _,b1,rfl,Ud,fun hv d hd _=>⟨n3,S,sb,q1 _ ?_⟩,fun hv=>⟨S,sb,q2 ?_⟩⟩
    ·rw[so,vV hd];exact if_pos hv
    ·rw[so];exact if_neg (by rw[show ck b1=false from hv];decide)
   have h2:¬ (z∈cj∧r.length=2∧r.all isStr=true):=fun h=>by rw[zr h.1,zr h.2.1,h.2.2] at h2;cases h2
   refine⟨_,rfl,decide (z = "key"),rfl,fC (r.all isStr) (fun h=>⟨_,rfl,p,r,rfl,jk,Fe,LW,_,rfl,h⟩) ?_⟩
   refine aQ (fun h=>?_) (fun h3=>?_)
   ·simp only [zm,zx] at h
    refine⟨_,rfl,_,_,rfl,.inl jk,n2,S,sb,q1 _ ?_⟩
    dsimp only [aD];rw[if_neg h1,if_neg h2,if_pos h]
   have h3:¬ (z = "key" ∧ r.all isStr=true):=fun h=>by rw[zr h.1,h.2] at h3;cases h3
   refine⟨_,rfl,decide (z = "not"),rfl,fC (decide (r.length=1) && r.all isTup) (fun h=>⟨_,rfl,_,rfl,.inl ⟨_,jk,decide (r.length=1),congrArg D.bl (L 1),fC (r.all isTup) (fun h=>⟨_,rfl,p,r,rfl,jk,Fe,LW,_,rfl,h⟩) h⟩⟩) ?_⟩
   refine aQ (fun h=>?_) (fun h4=>?_)
   ·simp only [zm,zx] at h
    obtain⟨x1,rfl⟩:=rm h.2.1
    refine⟨_,rfl,_,_,jk,bJ _ _,n2,S,sb,q1 _ ?_⟩
    dsimp only [aD];rw[if_neg h1,if_neg h2,if_neg h3,if_pos h]
   have h4:¬ (z = "not" ∧ r.length=1∧r.all isTup=true):=fun h=>by rw[zr h.1,zr h.2.1,h.2.2] at h4;cases h4
   refine⟨_,rfl,n2,.inl ⟨rfl,rfl,decide (z∈bV),congrArg D.bl (CW z),fC (r.all isTup) (fun h=>⟨_,rfl,p,r,rfl,jk,Fe,LW,_,rfl,h⟩) ?_⟩⟩
   refine aQ (fun h=>?_) (fun h5=>?_)
   ·simp only [zm,zx] at h
    refine⟨_,rfl,_,rfl,_,_,rfl,.inl jk,n2,S,sb,q1 _ ?_⟩
    dsimp only [aD];rw[if_neg h1,if_neg h2,if_neg h3,if_neg h4,if_pos h]
   have h5:¬ (z∈bV∧r.all isTup=true):=fun h=>by rw[zr h.1,h.2] at h5;cases h5
   refine⟨n1,S,sb,q2 ?_⟩
   dsimp only [aD]
   rw[if_neg h1,if_neg h2,if_neg h3,if_neg h4,if_neg h5]
  ·have hw:Nw (.tup ws):=.inr ⟨ws,rfl,fun S=>(Uc S).1⟩
   refine⟨_,rfl,hw.Jq (by trivial) ⟨false,rfl,aM (aM ?_)⟩⟩
   refine⟨_,rfl,hw.RD ["is","below","above","begins"] (by trivial) ⟨false,rfl,aM (aM ?_)⟩⟩
   refine⟨_,rfl,hw.Jq (by trivial) ⟨false,rfl,aM (aM ?_)⟩⟩
   refine⟨_,rfl,hw.Jq (by trivial) ⟨false,rfl,aM (aM ?_)⟩⟩
   refine⟨_,rfl,n2,.inr ⟨_,false,.inl rfl,hw.P7 (ss:=["and","or"]) (by trivial),false,rfl,aM (aM ?_)⟩⟩
   exact⟨sm (show 1≤100000 by decide),S,sb,q2 rfl⟩
 ·have h0:¬ (0:Int)<((xs.length:Nat):Int):=zj h0
  obtain rfl:xs=[]:=zD (by lia)
  refine⟨_,rfl,_,rfl,_,hS,fun p hp=>?_⟩
  have sb:Sub S (S.set p (.lst (ay [] (some 1) none))):=.new hp
  have hw:Nw .aK:=.inl rfl
  refine⟨_,rfl,hw.Jq (by trivial) ⟨false,rfl,aM (aM ?_)⟩⟩
  refine⟨_,rfl,hw.RD ["is","below","above","begins"] (by trivial) ⟨false,rfl,aM (aM ?_)⟩⟩
  refine⟨_,rfl,hw.Jq (by trivial) ⟨false,rfl,aM (aM ?_)⟩⟩
  refine⟨_,rfl,hw.Jq (by trivial) ⟨false,rfl,aM (aM ?_)⟩⟩
  refine⟨_,rfl,n2,.inr ⟨_,false,.inl rfl,hw.P7 (ss:=["and","or"]) (by trivial),false,rfl,aM (aM ?_)⟩⟩
  exact⟨sm (show 1≤100000 by decide),S,sb,q2 rfl⟩
def Ds(d:D):Prop:=∀S,(∃n,Ly S n d)∧QA S d
theorem gC(h:z.cps.size≤90000)(hs:PyData.strOk z=true):Ds (.str z):=fun S=>⟨⟨0,.str hs⟩,Cw (gt_str (by lia)) fun ws e=>by cases e⟩
theorem Ly.ge:∀{ds:List D},(∀d∈ds,∃n,Ly S n d)→∃n,∀d∈ds,Ly S n d
 |[],_=>⟨0,fun d h=>by cases h⟩
 |d::ds,h=>by
  obtain⟨n,h1⟩:=h d zf
  obtain⟨m,h2⟩:=Ly.ge fun x hx=>h x (zd _ hx)
  refine⟨max n m,fun x hx=>?_⟩
  rcases zc.mp hx with rfl|hx
  ·exact h1.le (Nat.le_max_left _ _)
  ·exact (h2 x hx).le (Nat.le_max_right _ _)
theorem gD{ds:List D}(hl:ds.length≤100000)(h:∀d∈ds,Ds d):Ds (.tup ds):=fun S=>by
 obtain⟨n,hn⟩:=Ly.ge fun d hd=>(h d hd S).1
 exact⟨⟨n+1,.tup hn⟩,Ih hl fun d hd=>(h d hd S).2⟩
theorem Tg.P_(h:Tg d):Ds d:=by
 rcases h with ⟨z,rfl,h1,h2⟩|⟨ws,rfl,h⟩
 ·exact gC h1 h2
 ·exact h
theorem Ff(h:CK d):Ds d:=by
 rcases h with rfl|⟨n,rfl,h⟩|⟨z,rfl,h⟩
 ·exact fun S=>⟨⟨0,.aK⟩,Cw ⟨⟨.aK,rfl⟩,fun z e=>by cases e⟩ fun ws e=>by cases e⟩
 ·exact fun S=>⟨⟨0,.int n,by simp only [Dp],by simp only [PyData.canLay0],by simp only [PyData.depth];exact zi _⟩,Cw ⟨⟨.int,rfl⟩,fun z e=>by cases e⟩ fun ws e=>by cases e⟩
 ·have h1:=h
  unfold dj at h1
  simp only [zm,zx,zS] at h1
  refine gC (by lia) (cg.mpr fun c hc=>?_)
  have:=h1.2 c hc
  unfold lU at this
  simp only [zm,zx] at this
  lia
theorem CY(h:ck z=true):CK (ar z):=by
 obtain⟨d,h1,h2⟩:=lJ h
 rw[← vV h1];exact h2
theorem LX{xs:List D}{s:D}(hl:xs.length≤90000)(ht:∀d∈xs,Tg d)(e:aD ck ar xs=some s):Tg s:=by
 match xs,e with
 |.str z::r,e =>
  have hz:=(ht (.str z) zf).P_
  have hr:∀d∈r,Ds d:=fun d hd=>(ht d (zd _ hd)).P_
  have Nd:r.length≤100000:=zG (zG (Nat.le_succ _) hl) (by decide)
  dsimp only [aD] at e
  by_cases h1:z = "every" ∧ r.length=0
  ·rw[if_pos h1] at e;cases e
   exact .inr ⟨_,rfl,gD (show 1≤100000 by decide) fun d hd=>by rw[zM.mp hd];exact gC (by decide) (by trivial)⟩
  rw[if_neg h1] at e
  by_cases h2:z∈cj∧r.length=2∧r.all isStr=true
  ·rw[if_pos h2] at e
   obtain⟨x1,x2,rfl⟩:=Ig h2.2.1
   have Gi:=h2.2.2
   simp only [zY,List.all_nil,yD,zm] at Gi
   obtain⟨a1,rfl⟩:=isStr_of Gi.1
   obtain⟨b1,rfl⟩:=isStr_of Gi.2
   have e:(if ck b1=true then some (D.tup [.str z,.str a1,ar b1]) else none)=some s:=e
   by_cases hv:ck b1=true
   ·rw[if_pos hv] at e;cases e
    refine .inr ⟨_,rfl,gD (show 3≤100000 by decide) fun d hd=>?_⟩
    simp only [zc,zw,or_false] at hd
    rcases hd with rfl|rfl|rfl
    ·exact hz
    ·exact hr _ (by simp)
    ·exact Ff (CY hv)
   ·rw[if_neg hv] at e;cases e
  rw[if_neg h2] at e
  by_cases h3:z = "key" ∧ r.all isStr=true
  ·rw[if_pos h3] at e;cases e
   refine .inr ⟨_,rfl,gD (show 2≤100000 by decide) fun d hd=>?_⟩
   simp only [zc,zw,or_false] at hd
   rcases hd with rfl|rfl
   ·exact gC (by decide) (by trivial)
   ·exact gD Nd hr
  rw[if_neg h3] at e
  by_cases h4:z = "not" ∧ r.length=1∧r.all isTup=true
  ·rw[if_pos h4] at e
   obtain⟨x1,rfl⟩:=rm h4.2.1
   cases e
   refine .inr ⟨_,rfl,gD (show 2≤100000 by decide) fun d hd=>?_⟩
   simp only [zc,zw,or_false] at hd
   rcases hd with rfl|rfl
   ·exact gC (by decide) (by trivial)
   ·exact hr _ (by simp)
  rw[if_neg h4] at e
  by_cases h5:z∈bV∧r.all isTup=true
  ·rw[if_pos h5] at e;cases e
   refine .inr ⟨_,rfl,gD (show 2≤100000 by decide) fun d hd=>?_⟩
   simp only [zc,zw,or_false] at hd
   rcases hd with rfl|rfl
   ·exact hz
   ·exact gD Nd hr
  ·rw[if_neg h5] at e;cases e
def jm(S:aN):List Addr→List (List D)→Prop
 |[],[]=>True
 |a::as,l::ls=>S a=some (.lst l)∧jm S as ls
 |_,_=>False
theorem jm.set:∀{as:List Addr}{st:List (List D)},jm S as st→a∉as→jm (S.set a c) as st
 |[],[],_,_=>trivial
 |b::as,l::ls,h,n=>⟨(ak fun e=>n (by rw[e];exact zf)).trans h.1,jm.set h.2 fun m=>n (zd _ m)⟩
theorem jm.len:∀{as:List Addr}{st:List (List D)},jm S as st→as.length=st.length
 |[],[],_=>rfl
 |b::as,l::ls,h=>congrArg (·+1) h.2.len
theorem jm.there:∀{as:List Addr}{st:List (List D)},jm S as st→a∈as→∃c,S a=some c
 |b::as,l::ls,h,m=>by
  rcases zc.mp m with rfl|m
  ·exact⟨_,h.1⟩
  ·exact h.2.there m
theorem fX(w:Str):∀(us:List Str) (st:List (List D)),cM iv vo st (us++[w])=(cM iv vo st us).bind fun s=>b_ iv vo s w
 |[],st=>by
  show (b_ iv vo st w).bind (fun s=>some s)=b_ iv vo st w
  cases b_ iv vo st w <;> rfl
 |u::us,st=>by
  show (b_ iv vo st u).bind (fun s=>cM iv vo s (us++[w]))=((b_ iv vo st u).bind fun s=>cM iv vo s us).bind _
  cases b_ iv vo st u with
  |none=>rfl
  |some s=>exact fX w us s
theorem uf:∀(us vs:List Str) (st:List (List D)),cM iv vo st us=none→cM iv vo st (us++vs)=none
 |[],vs,st,h=>by cases h
 |u::us,vs,st,h=>by
  have h:(b_ iv vo st u).bind (fun s=>cM iv vo s us)=none:=h
  show (b_ iv vo st u).bind (fun s=>cM iv vo s (us++vs))=none
  cases e:b_ iv vo st u with
  |none=>rfl
  |some s=>rw[e] at h;exact uf us vs s h
theorem ug:((b::as).reverse.map D.ref)[((b::as).reverse.map D.ref).length - 1]?=some (.ref b):=by
 rw[List.reverse_cons,zT,zg,za]
 show (_++[D.ref b])[_+1 - 1]?=_
 rw[Nat.add_sub_cancel,List.getElem?_append_right (by rw[za];exact zi _),za,Nat.sub_self];rfl
theorem CZ:((b::as).reverse.map D.ref).dropLast=as.reverse.map D.ref:=by
 rw[List.reverse_cons,zT]
 exact List.dropLast_concat
theorem xw:gT ((b::as).reverse.map D.ref) (-1)=some (.ref b):=by
 have h:=EN (xs:=(b::as).reverse.map D.ref) (k:=1) (by simp) (zi 1)
 rw[show (-((1:Nat):Int)) = -1 from rfl] at h
 rw[h];exact ug
structure xx(S:aN)(u pw:Addr)(ws:List Str)(i:Nat)(as:List Addr)(st:List (List D))(S':aN):Prop where
 un:S' u=some (.lst (as.reverse.map D.ref))
 at_:jm S' as st
 nd:as.Nodup
 nu:u∉as
 np:pw∉as
 pu:pw≠u
 pw:S' pw=some (.lst (ws.map D.str))
 new:∀a∈as,S a=none
 LY:S u=none
 sub:Sub S S'
 run:cM ck ar [[]] (ws.take i)=some st
 tg:∀l∈st,l.length≤i∧∀x∈l,Tg x
 len:st.length≤i+1
theorem gE(h:Sub S S')(n:S a=none):Sub S (S'.set a c):=fun b d hb=>(ak fun e=>by rw[e,n] at hb;cases hb).trans (h b d hb)
theorem xx.LZ{S:aN}{u pw p:Addr}{ws:List Str}{i:Nat}{as:List Addr}{st:List (List D)}{S':aN}(h:xx S u pw ws i as st S')(hi:ws[i]?=some lp)(hp:S' p=none) :
  xx S u pw ws (i+1) (p::as) ([]::st) ((S'.set p (.lst [])).set u (.lst (as.reverse.map D.ref++[.ref p]))):=by
 have RE:p≠u:=fun e=>by rw[e,h.un] at hp;cases hp
 have RF:p∉as:=fun m=>by obtain⟨c,hc⟩:=h.at_.there m;rw[hp] at hc;cases hc
 have RG:p≠pw:=fun e=>by rw[e,h.pw] at hp;cases hp
 have RH:S p=none:=by
  cases e:S p with
  |none=>rfl
  |some c=>rw[h.sub _ _ e] at hp;cases hp
 refine⟨?_,⟨(ak RE).trans aa,(h.at_.set RF).set h.nu⟩,yu.mpr ⟨RF,h.nd⟩,?_,?_,h.pu,(ak h.pu).trans ((ak (Ne.symm RG)).trans h.pw),?_,h.LY,gE (gE h.sub RH) h.LY,?_,?_,?_⟩
 ·rw[List.reverse_cons,zT];exact aa
 ·exact fun m=>(zc.mp m).elim (fun e=>RE e.symm) h.nu
 ·exact fun m=>(zc.mp m).elim (fun e=>RG e.symm) h.np
 ·exact zX.mpr ⟨RH,h.new⟩
 ·rw[take_snoc hi,fX,h.run];simp [b_]
 ·refine zX.mpr ⟨⟨yj _,fun x hx=>by cases hx⟩,fun l hl=>⟨Nat.le_succ_of_le (h.tg l hl).1,(h.tg l hl).2⟩⟩
 ·exact Nat.succ_le_succ h.len
theorem xx.word{S:aN}{u pw a:Addr}{ws:List Str}{i:Nat}{as:List Addr}{l:List D}{st:List (List D)}{S':aN}{w:Str}(h:xx S u pw ws i (a::as) (l::st) S')(hi:ws[i]?=some w)(hw:Tg (.str w))(hs:b_ ck ar (l::st) w=some ((l++[.str w])::st)) :
  xx S u pw ws (i+1) (a::as) ((l++[.str w])::st) (S'.set a (.lst (l++[.str w]))):=by
 have nd:=yu.mp h.nd
 have au:u≠a:=fun e=>h.nu (by rw[e];exact zf)
 have ap:pw≠a:=fun e=>h.np (by rw[e];exact zf)
 refine⟨(ak au).trans h.un,⟨aa,h.at_.2.set nd.1⟩,h.nd,h.nu,h.np,h.pu,(ak ap).trans h.pw,h.new,h.LY,gE h.sub (h.new a zf),?_,?_,?_⟩
 ·rw[take_snoc hi,fX,h.run];exact hs
 ·refine zX.mpr ⟨⟨?_,fun x hx=>?_⟩,fun k hk=>⟨Nat.le_succ_of_le (h.tg k (zd _ hk)).1,(h.tg k (zd _ hk)).2⟩⟩
  ·rw[zg];exact Nat.succ_le_succ (h.tg l zf).1
  ·rcases zW.mp hx with hx|hx
   ·exact (h.tg l zf).2 x hx
   ·rw[zM.mp hx];exact hw
 ·exact Nat.le_succ_of_le h.len
theorem xx.close{S:aN}{u pw a b:Addr}{ws:List Str}{i:Nat}{as:List Addr}{l k:List D}{st:List (List D)}{S':aN}{s:D}(h:xx S u pw ws i (a::b::as) (l::k::st) S')(hi:ws[i]?=some rp)(hs:aD ck ar l=some s)(ts:Tg s) :
  xx S u pw ws (i+1) (b::as) ((k++[s])::st) ((S'.set u (.lst ((b::as).reverse.map D.ref))).set b (.lst (k++[s]))):=by
 have nd:=yu.mp h.nd
 have Ue:=yu.mp nd.2
 have bu:u≠b:=fun e=>h.nu (by rw[e];simp)
 have bp:pw≠b:=fun e=>h.np (by rw[e];simp)
 have RJ:u∉b::as:=fun m=>h.nu (zd _ m)
 refine⟨(ak bu).trans aa,⟨aa,(h.at_.2.2.set fun m=>RJ (zd _ m)).set Ue.1⟩,nd.2,RJ,fun m=>h.np (zd _ m),h.pu,(ak bp).trans ((ak h.pu).trans h.pw),fun x hx=>h.new x (zd _ hx),h.LY,gE (gE h.sub h.LY) (h.new b (by simp)),?_,?_,?_⟩
 ·rw[take_snoc hi,fX,h.run]
  have:rp≠lp:=by decide
  simp [b_,this,hs]
 ·have hk:=h.tg k (by simp)
  refine zX.mpr ⟨⟨?_,fun x hx=>?_⟩,fun m hm=>⟨Nat.le_succ_of_le (h.tg m (by simp [hm])).1,(h.tg m (by simp [hm])).2⟩⟩
  ·rw[zg];exact Nat.succ_le_succ hk.1
  ·rcases zW.mp hx with hx|hx
   ·exact hk.2 x hx
   ·rw[zM.mp hx];exact ts
 ·have:=h.len
  simp only [zb] at this ⊢
  lia
theorem jo:∀v,ck v=true→Pw v:=fun v h=>⟨by rintro rfl;revert h;decide +kernel,by rintro rfl;revert h;decide +kernel⟩
theorem xx.ne{S:aN}{u pw:Addr}{ws:List Str}{i:Nat}{as:List Addr}{st:List (List D)}{S':aN}(h:xx S u pw ws i as st S'):∃a nZ l iP,as=a::nZ∧st=l::iP:=by
 have k:=Aw.run jo (.base .nil) h.run
 have hl:=h.at_.len
 match st,as,hl,k with
 |[],_,_,k=>cases k
 |l::iP,a::nZ,_,_=>exact⟨a,nZ,l,iP,rfl,rfl⟩
def Qa(t:F_):jg:=fun ds S R Z=>∃d,ds=[d]∧Rd S d∧(∀z,d=.str z→(∀s,bz ck ar (cL z)=some s→Ds s→R s S)∧(bz ck ar (cL z)=none→Z t.az S))∧((∀z,d≠.str z)→Z t.az S)
theorem uh(T:Txt w K mg t):Ok P w base T.ir 6 (Qa t):=by
 refine T.ir.F.kO ft ?_
 rintro _ _ _ _ _ _ ds S R Z hr ⟨d,e,hd,q1,q2⟩
 subst e
 have n0:=sm (show 0≤100000 by decide)
 have n1:=sm (show 1≤100000 by decide)
 refine⟨_,(sc (bK (i:=1) ft.nd (bt (ac (bt an) an))) (sc (sJ (FU (il (cf ((tY T).mono (by decide)) hr T.words_of.m T.words_of.k T.words_of.b d0 (ac (dv 0) an))) (gn (i:=2) ft.nd) (s1 (si (aT aP hr.units (dv 2) ds) (s1 (se (bm zN yb yc dJ (dv 1) (ac (bt an) an)))) (s1 (si (twd (twand (aT aP hr.units (dv 2) ds) (tw1 (aT m9 hr.units (cb aW T.aX aI (ac (dv 1) an)) di)))) (sc (bK (i:=3) ft.nd (cf ((ue T).mono (by decide)) hr T.iu.m T.iu.k T.iu.b d0 (ac (QR zN PySem.F.slot_list_pop PySem.F.type_list_pop K4 (dv 1)) an))) (s1 (se (bm zN yb yc dJ (ix hr.units (dv 1) (K3 di)) (ac (dv 3) an))))) (s1 (se (bm zN yb yc dJ (ix hr.units (dv 1) (K3 di)) (ac (dv 2) an)))))))))) (sc (si (twd (twor (aT ju hr.units (cb aW T.aX aI (ac (dv 1) an)) di) (twor (aT ju hr.units (cb aW T.aX aI (ac (ix hr.units (dv 1) di) an)) di) (tw1 (ej (tv (cb eG T.aq ai (ac (ix hr.units (ix hr.units (dv 1) di) di) (ac (uB T.cG bO) an))))))))) (s1 (Jj ⟨T.eQ⟩ T.fT (ac ds an))) s0) (s1 (sr (ix hr.units (ix hr.units (dv 1) di) di)))))),?_⟩
 refine⟨n0,fun a0 LU=>⟨n1,fun u hu=>?_⟩⟩
 have RK:Sub S (S.set a0 (.lst [])):=.new LU
 have RL:S u=none:=by
  cases e:S u with
  |none=>rfl
  |some c=>rw[RK _ _ e] at hu;cases hu
 have Qb:u≠a0:=fun e=>by rw[e,aa] at hu;cases hu
 have Jn:Sub S ((S.set a0 (.lst [])).set u (.lst [.ref a0])):=RK.trans (.new hu)
 refine⟨fun aw S'=>∃(z:Str) (pw:Addr) (as:List Addr) (st:List (List D)) (o2 o3:Option D),d=.str z∧aw=[some d,some (.ref u),o2,o3]∧xx S u pw (cL z) (cL z).length as st S',?_,?_⟩
 ·refine⟨_,rfl,d,rfl,⟨?_,hd.2⟩,fun z ez pw L0=>?_,fun hn=>?_⟩
  ·obtain⟨⟨k,hk⟩,_⟩:=hd
   exact⟨k,kd_sub Jn hk⟩
  ·subst ez
   obtain⟨IA,P9⟩:=hd.2 z rfl
   refine⟨_,aa,?_⟩
   have hlen:(cL z).length≤90001:=zG (rj z) (Nat.succ_le_succ IA)
   have pu:pw≠u:=fun e=>by rw[e,aa] at L0;cases L0
   have pa:pw≠a0:=fun e=>by rw[e,ak (Ne.symm Qb),aa] at L0;cases L0
   refine⟨fun i aw S'=>∃(as:List Addr) (st:List (List D)) (o2 o3:Option D),aw=[some (.str z),some (.ref u),o2,o3]∧xx S u pw (cL z) i as st S',⟨[a0],[[]],none,none,rfl,?_⟩,?_,?_,?_⟩
   ·refine⟨(ak (Ne.symm pu)).trans aa,⟨(ak (Ne.symm pa)).trans ((ak (Ne.symm Qb)).trans aa),trivial⟩,by simp,by simpa using Qb,by simpa using pa,pu,aa,by simpa using LU,RL,Jn.trans (.new L0),rfl,?_,zi _⟩
    intro l hl
    rw[zM.mp hl]
    exact⟨zi _,fun x hx=>by cases hx⟩
   ·rintro i aw S' ⟨_,_,_,_,_,h⟩
    exact h.pw
   ·rintro i x aw S' hx ⟨as,st,o2,o3,rfl,h⟩
    have hx:((cL z).map D.str)[i]?=some x:=hx
    rw[zZ] at hx
    obtain⟨w0,hi,rfl⟩:∃w0,(cL z)[i]?=some w0∧D.str w0=x:=by
     cases e:(cL z)[i]? with
     |none=>rw[e] at hx;cases hx
     |some w0=>rw[e] at hx;exact⟨w0,rfl,zO hx⟩
    have RM:=z0 hi
    have RN:i<(cL z).length:=(zL.mp hi).1
    have tw:Tg (.str w0):=.inl ⟨w0,rfl,zG (w6 RM) IA,rk RM P9⟩
    obtain⟨a,nZ,l,iP,rfl,rfl⟩:=h.ne
    have hl:=h.tg l zf
    have Qc:=h.un
    have Ay:=h.at_.len
    have pb:=h.len
    simp only [zb] at Ay pb
    have Fh:((a::nZ).reverse.map D.ref).length=nZ.length+1:=by simp
    refine⟨_,rfl,decide (w0 = "("),rfl,aQ (fun h1=>?_) (fun h1=>?_)⟩
    ·have h1:=ze h1
     subst h1
     refine⟨_,rfl,⟨rfl,_,h.un⟩,n0,fun p hp=>⟨u,_,_,rfl,rfl,(ak fun e=>by rw[← e,h.un] at hp;cases hp).trans h.un,gz (by rw[Fh];lia),?_⟩⟩
     exact⟨_,_,_,_,rfl,h.LZ hi hp⟩
    have h1:=zj h1
    have eL:D.bl (decide ((1:Int)<((((a::nZ).reverse.map D.ref).length:Nat):Int)))=D.bl (decide (1<nZ.length+1)):=congrArg D.bl (by rw[zy,Fh];lia)
    refine⟨_,rfl,decide (w0 = ")"),rfl,fC (decide (1<nZ.length+1)) (fun h=>⟨_,rfl,_,rfl,.inl ⟨_,Qc,decide (1<nZ.length+1),eL,h⟩⟩) ?_⟩
    refine aQ (fun h2=>?_) (fun h2=>?_)
    ·simp only [zm,zx] at h2
     obtain⟨rfl,h2⟩:=h2
     match nZ,iP,Ay,h,h2 with
     |b::nZ,k::iP,Ay,h,_ =>
     have nd:=yu.mp h.nd
     have Ug:a≠u:=fun e=>h.nu (by rw[e];simp)
     have Uh:b≠u:=fun e=>h.nu (by rw[e];simp)
     have hl:=h.tg l zf
     have hk:=h.tg k (by simp)
     refine⟨_,rfl,⟨rfl,_,h.un⟩,u,_,_,rfl,rfl,h.un,ug,?_⟩
     rw[CZ]
     refine⟨a,l,rfl,(ak Ug).trans h.at_.1,by lia,hl.2,fun s hs=>?_,fun hs=>?_⟩
     ·have hb:(S'.set u (.lst ((b::nZ).reverse.map D.ref))) b=some (.lst k):=(ak Uh).trans h.at_.2.1
      refine⟨_,rfl,_,rfl,_,_,aa,xw,⟨rfl,_,hb⟩,_,rfl,b,_,_,rfl,rfl,hb,gz (by lia),?_⟩
      exact⟨_,_,_,_,rfl,h.close hi hs (LX (by lia) hl.2 hs)⟩
     ·refine⟨S,gE h.sub RL,(q1 z rfl).2 ?_⟩
      unfold bz
      have e:cM ck ar [[]] ((cL z).take (i+1))=none:=by
       rw[take_snoc hi,fX,h.run]
       have:rp≠lp:=by decide
       simp [b_,this,hs]
      have e2:=uf _ ((cL z).drop (i+1)) _ e
      rw[List.take_append_drop] at e2
      rw[e2]
    ·have hb:S' a=some (.lst l):=h.at_.1
     refine⟨_,rfl,_,rfl,_,_,h.un,xw,⟨rfl,_,hb⟩,_,rfl,a,_,_,rfl,rfl,hb,gz (by lia),?_⟩
     refine⟨_,_,_,_,rfl,h.word hi tw ?_⟩
     unfold b_
     rw[if_neg h1]
     cases iP with
     |nil=>rfl
     |cons k iP =>
      have:w0≠rp:=fun e=>by
       rw[zr (show w0 = ")" from e),zr (show 1<nZ.length+1 by simp only [zb] at Ay;lia)] at h2
       cases h2
      dsimp only
      rw[if_neg this]
   ·rintro aw S' ⟨as,st,o2,o3,rfl,h⟩
    have h:xx S u pw (cL z) ((cL z).map D.str).length as st S':=h
    rw[za] at h
    exact fo ⟨z,pw,as,st,_,_,rfl,rfl,h⟩
  ·exact⟨S,Jn,q2 hn⟩
 ·rintro aw S' ⟨z,pw,as,st,o2,o3,rfl,rfl,h⟩
  have Fi:=h.run
  rw[List.take_length] at Fi
  obtain⟨IA,P9⟩:=hd.2 z rfl
  obtain⟨a,nZ,l,iP,rfl,rfl⟩:=h.ne
  have Ay:=h.at_.len
  simp only [zb] at Ay
  have Fh:((a::nZ).reverse.map D.ref).length=nZ.length+1:=by simp
  refine⟨_,rfl,_,rfl,.inl ⟨_,h.un,!decide (nZ.length=0),congrArg (fun b=>D.bl (!b)) (show decide (((((a::nZ).reverse.map D.ref).length:Nat):Int)=(1:Int))=decide (nZ.length=0) by rw[zy,Fh];lia),?_⟩⟩
  refine aQ (fun h1=>?_) (fun h1=>?_)
  ·have h1:nZ.length≠0:=zj (by simpa using h1)
   refine bf ⟨n1,S,h.sub,(q1 z rfl).2 ?_⟩
   unfold bz
   rw[Fi]
   match iP,Ay with
   |[],Ay=>exact absurd (by simpa using Ay) h1
   |k::iP,_=>rcases l with _|⟨x,_|⟨y,l⟩⟩ <;> rfl
  have h1:nZ.length=0:=ze (by simpa using h1)
  obtain rfl:nZ=[]:=zD h1
  obtain rfl:iP=[]:=zD (Nat.succ.inj Ay).symm
  have Qe:S' a=some (.lst l):=h.at_.1
  have hl:=h.tg l zf
  refine⟨_,rfl,_,_,h.un,bJ _ _,_,rfl,.inl ⟨_,Qe,!decide (l.length=1),congrArg (fun b=>D.bl (!b)) (len_eq l.length 1),?_⟩⟩
  refine aQ (fun h2=>?_) (fun h2=>?_)
  ·have h2:l.length≠1:=zj (by simpa using h2)
   refine bf ⟨n1,S,h.sub,(q1 z rfl).2 ?_⟩
   unfold bz
   rw[Fi]
   match l,h2 with
   |[],_=>rfl
   |[x],h2=>exact absurd rfl h2
   |x::y::l,_=>rfl
  have h2:l.length=1:=ze (by simpa using h2)
  obtain⟨x,rfl⟩:=rm h2
  have hx:=hl.2 x zf
  obtain⟨k,hk,_,ek⟩:=hx.kd S'
  have eS:bz ck ar (cL z)=if isTup x=true then some x else none:=by
   unfold bz;rw[Fi]
  refine⟨_,rfl,_,_,h.un,bJ _ _,_,_,Qe,bJ _ _,_,_,_,_,rfl,iU,hk,_,rfl,?_⟩
  rw[ek]
  refine aQ (fun h3=>?_) (fun h3=>?_)
  ·refine⟨n1,S,h.sub,(q1 z rfl).2 ?_⟩
   rw[eS,nt h3];rfl
  ·refine⟨_,rfl,_,_,h.un,bJ _ _,_,_,Qe,bJ _ _,S,h.sub,(q1 z rfl).1 x ?_ hx.P_⟩
   rw[eS,nf h3];rfl
def Qf(t:F_):jg:=fun ds S R Z=>∃cs d,ds=[.tup (cs.map bq),d]∧Gd cs∧Rd S d ∧
 (∀z,d=.str z→(∀s,bz ck ar (cL z)=some s→Ds s→(vK cs 8 0 [s]=true→R s S)∧(vK cs 8 0 [s]=false→Z t.av S))∧(bz ck ar (cL z)=none→Z t.az S))∧((∀z,d≠.str z)→Z t.az S)
theorem ph(T:Txt w K mg t):Ok P w base T.eO 7 (Qf t):=by
 refine T.eO.F.kO jj ?_
 rintro _ _ _ _ _ _ ds S R Z hr ⟨cs,d,e,hg,hd,q1,q2⟩
 subst e
 refine⟨_,(sc (bK (i:=2) jj.nd (cf ((uh T).mono (by decide)) hr T.ir.m T.ir.k T.ir.b d0 (ac (dv 1) an))) (sc (se (cf ((nR T).mono (by decide)) hr T.dN.m T.dN.k T.dN.b d0 (ac (dv 0) (ac (dv 2) an)))) (s1 (sr (dv 2))))),?_⟩
 refine⟨_,rfl,d,rfl,hd,fun z ez=>⟨fun s hs hp=>?_,fun hs=>fo ((q1 z ez).2 hs)⟩,fun hn=>fo (q2 hn)⟩
 obtain⟨a1,a2⟩:=(q1 z ez).1 s hs hp
 exact⟨_,rfl,_,rfl,cs,s,rfl,hg,(hp S).2,fun h=>⟨_,rfl,fo (a1 h)⟩,fun h=>fo (a2 h)⟩
theorem uk(T:Txt w K mg t):Ok P w base T.iA 1 (fun ds S R _=>∃z,ds=[.str z]∧z.cps.size≤90000∧R (.bl (eA z)) S):=by
 refine T.iA.F.ok tQ (by rintro ds S R Z ⟨_,e,_⟩;exact by rw[e];rfl) (fun dh A outer s H E ds S R Z hr ⟨z,e,hz,q⟩=>?_)
 subst e
 refine⟨_,(sc (si (twd (twor (ej (Ji df df hr.units di (cb aW T.aX aI (ac (dv 0) an)) di)) (tw1 (ej (Ji df df hr.units ds (ix hr.units (dv 0) di) ds))))) (s1 (sr db)) s0) (s1 (sr (cb fe T.fm cQ (ac (pN (N:=["_law_sign"]) (src:=[none]) (pH (ae gq) ["_law_text"] rfl rfl (by trivial)) (va (dv 0)) (qv (show (["_law_sign"]:List Str).Nodup by trivial)) (ba rfl) bb (fun _ _ _ _ _=>pM) (fun _ _ _ _ _=>(MN (cc df df hr.units ds (dv 0) ds) (yS (cc df df hr.units ds (dv 0) ds))))) an))))),?_⟩
 have e1:decide ((1:Int)≤(z.length:Nat))=decide (1≤z.cps.size):=by rw[zy];show (1:Int)≤((z.cps.size:Nat):Int)↔_;omega
 have e2:decide (((z.length:Nat):Int)≤12)=decide (z.cps.size≤12):=by rw[zy];show ((z.cps.size:Nat):Int)≤12↔_;omega
 unfold eA at q
 refine⟨_,rfl,_,rfl,⟨sm (by show z.cps.size≤_;omega),?_⟩⟩
 refine⟨_,rfl,?_⟩
 refine aQ (fun h2=>?_) (fun h2=>?_)
 ·have uV:=e1.symm.trans h2
  rw[uV,zq] at q
  refine⟨_,rfl,?_⟩
  refine aQ (fun h3=>?_) (fun h3=>?_)
  ·rw[e2.symm.trans (nt h3),zl,zl] at q
   exact fo q
  ·rw[e2.symm.trans (nf h3),zq] at q
   obtain⟨c,r,ec⟩:=len_pos (z:=z) (ze uV)
   have eh:z.cps.toList.head?.any isLet=isLet c:=by rw[ec];rfl
   rw[eh] at q
   refine⟨_,rfl,c,sm (by show z.cps.size≤_;omega),yL ec,_,rfl,?_⟩
   have e3:om "a" ⟨#[c]⟩=decide (97≤c):=bE 97 c
   have e4:om ⟨#[c]⟩ "z" = decide (c≤122):=bE c 122
   have Qg:isLet c=(decide (97≤c) && decide (c≤122)):=rfl
   rw[Qg] at q
   refine aQ (fun h4=>?_) (fun h4=>?_)
   ·rw[e3.symm.trans h4,zq] at q
    refine⟨_,rfl,?_⟩
    refine aQ (fun h5=>?_) (fun h5=>?_)
    ·rw[e4.symm.trans (nt h5),zl] at q
     exact fo q
    ·rw[e4.symm.trans (nf h5),zq] at q
     refine i3 (f:=fun c=>isLet c || cA c) rfl (by omega) (fun c hc Q hQ=>?_) q
     refine⟨_,rfl,_,rfl,?_⟩
     have e5:om "a" ⟨#[c]⟩=decide (97≤c):=bE 97 c
     have e6:om ⟨#[c]⟩ "z" = decide (c≤122):=bE c 122
     have e7:om "0" ⟨#[c]⟩=decide (48≤c):=bE 48 c
     have e8:om ⟨#[c]⟩ "9" = decide (c≤57):=bE c 57
     unfold isLet cA at hQ
     refine aQ (fun h6=>?_) (fun h6=>?_)
     ·rw[e5.symm.trans h6,zq] at hQ
      refine⟨_,rfl,?_⟩
      refine aQ (fun h7=>?_) (fun h7=>?_)
      ·rw[e6.symm.trans h7,Bool.true_or] at hQ
       exact hQ
      ·rw[e6.symm.trans h7,ym] at hQ
       refine⟨_,rfl,_,rfl,?_⟩
       refine aQ (fun h8=>?_) (fun h8=>?_)
       ·rw[e7.symm.trans h8,zq,← e8] at hQ
        exact hQ
       ·rw[e7.symm.trans h8,zl] at hQ
        exact hQ
     ·rw[e5.symm.trans h6,zl,ym] at hQ
      refine⟨_,rfl,aM ?_⟩
      refine⟨_,rfl,_,rfl,?_⟩
      refine aQ (fun h8=>?_) (fun h8=>?_)
      ·rw[e7.symm.trans h8,zq,← e8] at hQ
       exact hQ
      ·rw[e7.symm.trans h8,zl] at hQ
       exact hQ
   ·rw[e3.symm.trans h4,zl,zl] at q
    refine⟨_,rfl,?_⟩
    exact bf (fo q)
 ·rw[e1.symm.trans h2,zl,zl,zl] at q
  refine⟨_,rfl,?_⟩
  exact bf (fo q)
theorem ID:bootBuiltins "max" = some (.builtin "max"):=by trivial
theorem vW(T:Txt w K mg t):Ok P w base T.fS 1 (fun ds S R _=>∃a ws,ds=[.ref a]∧S a=some (.lst (ws.map D.str))∧R (.int (md ws)) S):=by
 refine T.fS.F.kO bM ?_
 rintro _ _ _ _ _ _ ds S R Z hr ⟨a,ws,e,hS,q⟩
 subst e
 refine⟨_,(sc (bK (i:=1) bM.nd di) (sc (bK (i:=2) bM.nd di) (sc (sJ (FU (il (dv 0)) (gn (i:=3) bM.nd) (sc (sJ (si (aT aP hr.units (dv 3) ds) (s1 (bK (i:=1) bM.nd (bo aj hr.units (dv 1) di))) (s1 (si (aT aP hr.units (dv 3) ds) (s1 (bK (i:=1) bM.nd (bo jf hr.units (dv 1) di))) s0)))) (s1 (bK (i:=2) bM.nd (cb K8 T.LJ ID (ac (dv 2) (ac (dv 1) an)))))))) (s1 (sr (dv 2)))))),?_⟩
 refine⟨fun aw S'=>∃o1 o3,aw=[some (.ref a),o1,some (.int (md ws)),o3]∧S'=S,?_,?_⟩
 ·refine⟨_,rfl,_,hS,?_⟩
  refine⟨fun i aw S'=>∃(d m:Int) (o3:Option D),aw=[some (.ref a),some (.int d),some (.int m),o3]∧S'=S∧d≤m∧max m (d+md (ws.drop i))=md ws,⟨0,0,none,rfl,rfl,yE 0,?_⟩,?_,?_,?_⟩
  ·have:=dk ws
   rw[yo];omega
  ·rintro i aw S' ⟨_,_,_,_,rfl,_⟩
   exact hS
  ·rintro i x aw S' hx ⟨d,m,o3,rfl,rfl,Ui,hm⟩
   have hx:(ws.map D.str)[i]?=some x:=hx
   rw[zZ] at hx
   obtain⟨w0,hi,rfl⟩:∃w0,ws[i]?=some w0∧D.str w0=x:=by
    cases e:ws[i]? with
    |none=>rw[e] at hx;cases hx
    |some w0=>rw[e] at hx;exact⟨w0,rfl,zO hx⟩
   obtain⟨RN,Uj⟩:=zL.mp hi
   have Jr:ws.drop i=w0::ws.drop (i+1):=by rw[List.drop_eq_getElem_cons RN,Uj]
   rw[Jr] at hm
   have hm:max m (d+max 0 (dl w0+md (ws.drop (i+1))))=md ws:=hm
   have hn:=dk (ws.drop (i+1))
   refine⟨fun rS S2=>rS=[some (.ref a),some (.int (d+dl w0)),some (.int m),some (.str w0)]∧S2=S',?_,?_⟩
   ·refine⟨_,rfl,decide (w0 = "("),rfl,aQ (fun h1=>?_) (fun h1=>?_)⟩
    ·have h1:=ze h1
     subst h1
     refine⟨_,rfl,fo ⟨?_,rfl⟩⟩
     rw[show dl "(" = 1 from xt];rfl
    have h1:=zj h1
    refine⟨_,rfl,decide (w0 = ")"),rfl,aQ (fun h2=>?_) (fun h2=>?_)⟩
    ·have h2:=ze h2
     subst h2
     refine⟨_,rfl,fo ⟨?_,rfl⟩⟩
     rw[show dl ")" = -1 from Gk];rfl
    ·have h2:=zj h2
     refine fo ⟨?_,rfl⟩
     rw[xu ⟨h1,h2⟩,Int.add_zero];rfl
   ·rintro rS S2 ⟨rfl,rfl⟩
    refine⟨_,rfl,_,rfl,_,_,rfl,?_⟩
    refine⟨_,_,_,rfl,rfl,?_,?_⟩
    ·by_cases h:m<d+dl w0
     ·rw[if_pos (zr h)];omega
     ·rw[if_neg (show ¬ decide (m<d+dl w0)=true by rw[zh h];decide)];omega
    ·by_cases h:m<d+dl w0
     ·rw[if_pos (zr h)];omega
     ·rw[if_neg (show ¬ decide (m<d+dl w0)=true by rw[zh h];decide)];omega
  ·rintro aw S' ⟨d,m,o3,rfl,rfl,Ui,hm⟩
   have hm:max m (d+md (ws.drop (ws.map D.str).length))=md ws:=hm
   rw[za,List.drop_length] at hm
   have hm:max m (d+0)=md ws:=hm
   obtain rfl:m=md ws:=by omega
   exact fo ⟨_,_,rfl,rfl⟩
 ·rintro aw S' ⟨_,_,rfl,rfl⟩
  exact⟨_,rfl,fo q⟩
section
variable{iv:Str→Bool}{vo:Str→D}
def xy:List Str:=["not","and","or"]
def ou(w:Str):Bool:=!(decide (w=lp) || decide (w=rp))
theorem mG{w:Str} : ou w=true↔Pw w:=by
 unfold ou Pw
 by_cases h1:w=lp <;> by_cases h2:w=rp <;> simp [h1,h2]
def vX(iv:Str→Bool)(vo:Str→D)(w:Str):List Str→Option (D×List Str)
 |a::v::r=>if ou a=true∧iv v=true then some (.tup [.str w,.str a,vo v],r) else none
 |_=>none
def dP(iv:Str→Bool)(vo:Str→D)(w:Str)(r:List Str):Option (D×List Str) :=
 if w = "every" then some (.tup [.str "every"],r)
 else if w = "key" then some (.tup [.str "key",.tup ((r.takeWhile ou).map D.str)],r.dropWhile ou)
 else if w∈cj then vX iv vo w r else none
def aC(Q:List Str→Option (D×List Str)):Nat→List Str→Option (List D×List Str)
 |0,ws=>some ([],ws)
 |k+1,ws=>if ws.head?=some lp then (Q ws).bind fun x=>(aC Q k x.2).map fun y=>(x.1::y.1,y.2) else some ([],ws)
def gM(w:Str):List D×List Str→Option (D×List Str)
 | (ts,r)=>if w = "not" then (match ts with|[t]=>some (.tup [.str "not",t],r)|_=>none) else some (.tup [.str w,.tup ts],r)
def fE:D×List Str→Option (D×List Str)
 | (t,e::r)=>if e=rp then some (t,r) else none
 | (_,[])=>none
def ax(iv:Str→Bool)(vo:Str→D):Nat→List Str→Option (D×List Str)
 |0,_=>none
 |n+1,l::w::r=>if l=lp then (if w∈xy then (aC (ax iv vo n) r.length r).bind (gM w) else dP iv vo w r).bind fE else none
 |_+1,_=>none
theorem lN(hQ:∀ws t r,Q ws=some (t,r)→∃vs,Wr iv vo t vs∧ws=vs++r):∀(k:Nat) {ws:List Str}{ts:List D}{r:List Str},aC Q k ws=some (ts,r)→∃vs,kP iv vo ts vs∧ws=vs++r
 |0,ws,ts,r,e=>by cases e;exact⟨[],.nil,rfl⟩
 |k+1,ws,ts,r,e=>by
  unfold aC at e
  by_cases h:ws.head?=some lp
  ·rw[if_pos h] at e
   cases e1:Q ws with
   |none=>rw[e1] at e;cases e
   |some x =>
    obtain⟨t,r1⟩:=x
    rw[e1] at e
    have e:(aC Q k r1).map (fun y=>(t::y.1,y.2))=some (ts,r):=e
    cases e2:aC Q k r1 with
    |none=>rw[e2] at e;cases e
    |some y =>
     obtain⟨Wn,r2⟩:=y
     rw[e2] at e
     cases e
     obtain⟨vs,h1,rfl⟩:=hQ _ _ _ e1
     obtain⟨us,h2,rfl⟩:=lN hQ k e2
     exact⟨vs++us,.cons h1 h2,(zI _ _ _).symm⟩
  ·rw[if_neg h] at e;cases e;exact⟨[],.nil,rfl⟩
theorem jH(hQ:∀t vs r,Wr iv vo t vs→md (vs++r)≤n→Q (vs++r)=some (t,r)):∀(k:Nat) {ts:List D}{vs r:List Str},kP iv vo ts vs→vs.length≤k→md (vs++rp::r)≤n→aC Q k (vs++rp::r)=some (ts,rp::r)
 |k,[],_,r,.nil,_,_=>by
  cases k with
  |zero=>rfl
  |succ k=>unfold aC;rw[if_neg (by show ¬ some rp=some lp;decide)];rfl
 |0,t::ts,_,r,.cons (ws:=u) (vs:=v) a b,hk,_=>by
  obtain⟨z,e⟩:=a.head
  rw[e] at hk;simp at hk
 |k+1,t::ts,_,r,.cons (ws:=u) (vs:=v) a b,hk,hm=>by
  obtain⟨z,e⟩:=a.head
  have Uk:v.length≤k:=by rw[zg,e] at hk;simp only [zb] at hk;lia
  rw[zI] at hm ⊢
  unfold aC
  rw[if_pos (by rw[e];rfl),hQ t u _ a hm]
  show (aC Q k (v++rp::r)).map _=_
  rw[jH hQ k b Uk (Int.le_trans (a.md _) hm)];rfl
theorem tw_mem:∀{l:List Str},x∈l.takeWhile p→p x=true
 |[],h=>by cases h
 |y::l,h=>by
  cases e:p y with
  |false=>rw[List.takeWhile_cons,e] at h;cases h
  |true =>
   rw[List.takeWhile_cons,e] at h
   rcases zc.mp h with rfl|h
   ·exact e
   ·exact tw_mem h
theorem C1{w:Str}{t:D}(hb:∀v,iv v=true→Pw v)(e:dP iv vo w r=some (t,rp::r')):∃vs,Wr iv vo t vs∧lp::w::r=vs++r':=by
 unfold dP at e
 by_cases h1:w = "every"
 ·rw[if_pos h1] at e;cases e;subst h1;exact⟨_,.eW,rfl⟩
 rw[if_neg h1] at e
 by_cases h2:w = "key"
 ·rw[if_pos h2] at e
  have e1:=(Prod.mk.inj (zO e)).1
  have e2:=(Prod.mk.inj (zO e)).2
  subst h2
  rw[← e1]
  refine⟨_,.key (ks:=r.takeWhile ou) fun k hk=>mG.mp ?_,?_⟩
  ·exact tw_mem hk
  ·have:=List.takeWhile_append_dropWhile (p:=ou) (l:=r)
   rw[e2] at this
   show lp :: "key" :: r=lp :: "key" :: ((r.takeWhile ou++[rp])++r')
   rw[zI,List.singleton_append,this]
 rw[if_neg h2] at e
 by_cases h3:w∈cj
 ·rw[if_pos h3] at e
  match r,e with
  |a::v::r,e =>
   dsimp only [vX] at e
   by_cases h4:ou a=true∧iv v=true
   ·rw[if_pos h4] at e;cases e
    exact⟨_,.col h3 (mG.mp h4.1) (hb v h4.2) h4.2,rfl⟩
   ·rw[if_neg h4] at e;cases e
  |[a],e=>cases e
  |[],e=>cases e
 ·rw[if_neg h3] at e;cases e
theorem Az{w:Str}(h:w∈xy)(n:w ≠ "not"):w∈bV:=by
 simp only [xy,zc,zw,or_false] at h
 rcases h with rfl|rfl|rfl
 ·exact absurd rfl n
 ·decide
 ·decide
theorem fY(hb:∀v,iv v=true→Pw v):∀(n:Nat) (ws:List Str) (t:D) (r:List Str),ax iv vo n ws=some (t,r)→∃vs,Wr iv vo t vs∧ws=vs++r
 |0,_,_,_,e=>by cases e
 |n+1,[],_,_,e=>by cases e
 |n+1,[_],_,_,e=>by cases e
 |n+1,l::w::r0,t,r,e=>by
  unfold ax at e
  by_cases hl:l=lp
  ·rw[if_pos hl] at e
   subst hl
   obtain⟨x,e1,e2⟩:=Option.bind_eq_some_iff.mp e
   obtain⟨t1,r1⟩:=x
   obtain⟨rfl,rfl⟩:t1=t∧r1=rp::r:=by
    match r1,e2 with
    |y::r1,e2 =>
     dsimp only [fE] at e2
     by_cases hy:y=rp
     ·rw[if_pos hy] at e2;cases e2;exact⟨rfl,by rw[hy]⟩
     ·rw[if_neg hy] at e2;cases e2
    |[],e2=>cases e2
   by_cases hw:w∈xy
   ·rw[if_pos hw] at e1
    obtain⟨y,e3,e4⟩:=Option.bind_eq_some_iff.mp e1
    obtain⟨ts,r2⟩:=y
    obtain⟨vs,h1,rfl⟩:=lN (fY hb n) _ e3
    dsimp only [gM] at e4
    by_cases hn:w = "not"
    ·rw[if_pos hn] at e4
     subst hn
     match ts,h1,e4 with
     |[x],h1,e4 =>
      cases e4
      cases h1 with
      |cons a b =>
       cases b
       rw[zE]
       exact⟨_,.not a,by simp⟩
     |[],_,e4=>cases e4
     |_::_::_,_,e4=>cases e4
    ·rw[if_neg hn] at e4
     cases e4
     exact⟨_,.many (Az hw hn) h1,by simp⟩
   ·rw[if_neg hw] at e1
    exact C1 hb e1
  ·rw[if_neg hl] at e;cases e
theorem tw_stop(he:p e=false):∀{ks:List Str},(∀k∈ks,p k=true)→(ks++e::r).takeWhile p=ks∧(ks++e::r).dropWhile p=e::r
 |[],_=>by
  rw[List.nil_append,List.takeWhile_cons,List.dropWhile_cons,he];exact⟨rfl,rfl⟩
 |k::ks,h=>by
  obtain⟨h1,h2⟩:=tw_stop he (r:=r) fun x hx=>h x (zd _ hx)
  rw[yf,List.takeWhile_cons,List.dropWhile_cons,h k zf]
  exact⟨by rw[if_pos rfl,h1],by rw[if_pos rfl,h2]⟩
theorem Fj{w:Str}(h:w∈cj):w∉xy∧w ≠ "every" ∧ w ≠ "key" := by
 simp only [cj,zc,zw,or_false] at h
 rcases h with rfl|rfl|rfl|rfl <;> exact⟨by decide,by decide,by decide⟩
theorem IE{w:Str}(h:w∈bV):w∈xy∧w ≠ "not" := by
 simp only [bV,zc,zw,or_false] at h
 rcases h with rfl|rfl <;> exact⟨by decide,by decide⟩
theorem jI:∀(n:Nat) (t:D) (vs r:List Str),Wr iv vo t vs→md (vs++r)≤(n:Int)→ax iv vo n (vs++r)=some (t,r)
 |0,t,vs,r,h,hm=>by
  obtain⟨z,e⟩:=h.head
  rw[e,yf,gL] at hm
  have:=dk (z++r)
  lia
 |n+1,_,_,r,.eW,hm=>by
  show ax iv vo (n+1) (lp :: "every" :: rp::r)=_
  unfold ax
  rw[if_pos rfl,if_neg (by decide)]
  show (dP iv vo "every" (rp::r)).bind fE=_
  unfold dP
  rw[if_pos rfl]
  show fE (_,rp::r)=_
  dsimp only [fE]
  rw[if_pos rfl]
 |n+1,_,_,r,.col (w:=w) (n:=a) (v:=v) hw hn hp hv,hm=>by
  obtain⟨c1,c2,c3⟩:=Fj hw
  show ax iv vo (n+1) (lp::w::a::v::rp::r)=_
  unfold ax
  rw[if_pos rfl,if_neg c1]
  unfold dP
  rw[if_neg c2,if_neg c3,if_pos hw]
  dsimp only [vX]
  rw[if_pos ⟨mG.mpr hn,hv⟩]
  show fE (_,rp::r)=_
  dsimp only [fE]
  rw[if_pos rfl]
 |n+1,_,_,r,.key (ks:=ks) hk,hm=>by
  obtain⟨h1,h2⟩:=tw_stop (p:=ou) (e:=rp) (by decide) (r:=r) (ks:=ks) fun k Kh=>mG.mpr (hk k Kh)
  rw[show lp :: "key" :: (ks++[rp])++r=lp :: "key" :: (ks++rp::r) by simp]
  unfold ax
  rw[if_pos rfl,if_neg (by decide)]
  unfold dP
  rw[if_neg (by decide),if_pos rfl,h1,h2]
  show fE (_,rp::r)=_
  dsimp only [fE]
  rw[if_pos rfl]
 |n+1,_,_,r,.not (t:=x) (ws:=u) h,hm=>by
  have e:lp :: "not" :: (u++[rp])++r=lp :: "not" :: (u++rp::r):=by simp
  rw[e] at hm ⊢
  rw[gL,nY pw_not] at hm
  unfold ax
  have hi:=jH (iv:=iv) (vo:=vo) (Q:=ax iv vo n) (n:=(n:Int)) (fun t vs r h k=>jI n t vs r h k) (u++rp::r).length (ts:=[x]) (vs:=u++[]) (r:=r) (.cons h .nil) (by simp) (by rw[zE];lia)
  rw[zE] at hi
  rw[if_pos rfl,if_pos (by decide),hi]
  show fE (_,rp::r)=_
  dsimp only [fE]
  rw[if_pos rfl]
 |n+1,_,_,r,.many (w:=w) (ts:=ts) (ws:=u) hw h,hm=>by
  have e:lp::w::(u++[rp])++r=lp::w::(u++rp::r):=by simp
  rw[e] at hm ⊢
  rw[gL,nY (pw_andor hw)] at hm
  obtain⟨c1,c2⟩:=IE hw
  unfold ax
  have hi:=jH (iv:=iv) (vo:=vo) (Q:=ax iv vo n) (n:=(n:Int)) (fun t vs r h k=>jI n t vs r h k) (u++rp::r).length (ts:=ts) (vs:=u) (r:=r) h (by simp) (by lia)
  rw[if_pos rfl,if_pos c1,hi]
  show (gM w (ts,rp::r)).bind fE=_
  dsimp only [gM]
  rw[if_neg c2]
  show fE (_,rp::r)=_
  dsimp only [fE]
  rw[if_pos rfl]
theorem jJ(hb:∀v,iv v=true→Pw v){n:Nat}{ws:List Str}(hm:md ws≤(n:Int)){t:D}{r:List Str} : ax iv vo n ws=some (t,r)↔∃vs,Wr iv vo t vs∧ws=vs++r :=
 ⟨fY hb n ws t r,by rintro⟨vs,h,rfl⟩;exact jI n t vs r h hm⟩
end
def rF(cs:List (Str×Str))(d:D):D:=match d with
 |.str z=>(match bz ck ar (cL z) with
  |none=>.str "text"
  |some s=>if vK cs 8 0 [s]=true then s else .str "sieve")
 |_=>.str "text"
theorem Qh{p A G:Prop}(k:(p→A)→G)(h:p→A):G:=k h
structure XM(K:Frag)(t:F_)(C:Addr)(b1 b2:Bool):Prop where
 xc:XC K C
 xa:XA K C
 m:mroIn K C (.ref t.dM)=some true
 k1:kitOne K (.ref C) (.ref t.az)=some b1
 k2:kitOne K (.ref C) (.ref t.av)=some b2
 k3:kitOne K (.ref C) (.ref t.eK)=some false
 k4:kitOne K (.ref C) (.ref t.ij)=some false
 k5:kitOne K (.ref C) (.ref t.cX)=some false
 k6:kitOne K (.ref C) (.ref t.ik)=some false
 v:kitOne K (.ref C) (.type "ValueError")=some true
theorem AA(T:Txt w K mg t):XM K t t.az true false:=⟨⟨T.eQ⟩,T.lz,T.cJ,T.k_NoText_NoText,T.k_NoText_BadSieve,T.k_NoText_BadOrder,T.k_NoText_BadRow,T.k_NoText_BadColumns,T.k_NoText_NoMark,T.k_NoText_ValueError⟩
theorem um(T:Txt w K mg t):XM K t t.av false true:=⟨⟨T.eP⟩,T.iF,T.bU,T.k_BadSieve_NoText,T.k_BadSieve_BadSieve,T.k_BadSieve_BadOrder,T.k_BadSieve_BadRow,T.k_BadSieve_BadColumns,T.k_BadSieve_NoMark,T.k_BadSieve_ValueError⟩
theorem n6(T:Txt w K mg t):Ok P w base T.cZ 8 (fun ds S R _=>∃cs d,ds=[.tup (cs.map bq),d]∧Gd cs∧Rd S d∧(Ds (rF cs d)→R (rF cs d) S)):=by
 refine T.cZ.F.kO eT ?_
 rintro _ _ _ _ _ _ ds S R Z hr ⟨cs,d,e,hg,hd,q⟩
 subst e
 refine⟨_,(sc (sJ (Pj (i:=2) eT.nd T.qZ ⟨T.iD⟩ (s1 (bK (i:=3) eT.nd (cf ((ph T).mono (by decide)) hr T.eO.m T.eO.k T.eO.b d0 (ac (dv 0) (ac (dv 1) an))))) (fun _=>(sc (bK (i:=4) eT.nd (bt (ac (HN nc T.aq ai (ac (dv 2) (ac (dg (v:=.ref t.az) T.fT rfl fun _=>fw _) an))) (ac (HN nc T.aq ai (ac (dv 2) (ac (dg (v:=.ref t.av) T.iE rfl fun _=>fw _) an))) (ac (HN nc T.aq ai (ac (dv 2) (ac (dg (v:=.ref t.eK) T.tL rfl fun _=>fw _) an))) (ac (HN nc T.aq ai (ac (dv 2) (ac (dg (v:=.ref t.ij) T.Ak rfl fun _=>fw _) an))) an)))))) (sc (bK (i:=4) eT.nd (bo aj hr.units (dv 4) (bt (ac (HN nc T.aq ai (ac (dv 2) (ac (dg (v:=.ref t.cX) T.oU rfl fun _=>fw _) an))) (ac (HN nc T.aq ai (ac (dv 2) (ac (dg (v:=.ref t.ik) T.Al rfl fun _=>fw _) an))) an))))) (sc (si (twd (twor (aT ju hr.units (bm zN PySem.F.slot_list_count PySem.F.type_list_count Eo (dv 4) (ac db an)) di) (tw1 (ej (tv (HN nc T.aq ai (ac (dv 2) (ac (uB T.qY oF) an)))))))) (s1 (sr ds)) s0) (s1 (sr (yX (ix hr.units (bt (ac ds (ac ds (ac ds (ac ds (ac ds (ac ds an))))))) (bm zN PySem.F.slot_list_index PySem.F.type_list_index BA (dv 4) (ac db an)))))))))))) (s1 (sr (dv 3)))),?_⟩
 have Ul:∀(m:Nat) (u:D),m<1→(([false,true,false,false,false,false]:List Bool).map D.bl)[m]?=some u→eqV (gU u) (gU (.bl true))=false:=fun m u hm hu=>by
  obtain rfl:m=0:=by lia
  cases hu;rfl
 refine⟨fun aw S'=>aw=[some (.tup (cs.map bq)),some d,none,some (rF cs d),none]∧S'=S∧Ds (rF cs d),?_,?_⟩
 ·refine' Qh (p:=rF cs d=.str "text") (fun tx=>⟨_,rfl,_,rfl,cs,d,rfl,hg,hd,fun z ez=>⟨fun s hs hp=>⟨fun ho=>fo ⟨?_,rfl,?_⟩,fun ho=>?_⟩,fun hn=>tx ?_⟩,fun hn=>tx ?_⟩) (fun e=>?_)
  ·have e:rF cs d=s:=by rw[ez];unfold rF;dsimp only;rw[hs];exact if_pos ho
   rw[e];rfl
  ·have e:rF cs d=s:=by rw[ez];unfold rF;dsimp only;rw[hs];exact if_pos ho
   rw[e];exact hp
  ·have e:rF cs d=.str "sieve" := by rw[ez];unfold rF;dsimp only;rw[hs];exact if_neg (by rw[ho];decide)
   have q:=q (by rw[e];exact gC (by decide) (by trivial))
   rw[e] at q
   have X:=um T
   refine⟨X.m,fun x hx=>?_⟩
   have he:(S.set x (.exc t.av)) x=some (.exc t.av):=aa
   have b0:Sub S (S.set x (.exc t.av)):=.new hx
   generalize S.set x (.exc t.av)=S0 at he b0 ⊢
   refine⟨_,rfl,x,_,_,false,rfl,he,X.xc,X.xa,.inl ⟨_,rfl,X.k1⟩,_,rfl,x,_,_,true,rfl,he,X.xc,X.xa,.inl ⟨_,rfl,X.k2⟩,_,rfl,x,_,_,false,rfl,he,X.xc,X.xa,.inl ⟨_,rfl,X.k3⟩,_,rfl,x,_,_,false,rfl,he,X.xc,X.xa,.inl ⟨_,rfl,X.k4⟩,sm (show 4≤100000 by decide),fun p1 jk=>?_⟩
   generalize ja:S0.set p1 _=S1
   have b1:Sub S0 S1:=by rw[← ja];exact .new jk
   have v1:S1 p1=some (.lst [.bl false,.bl true,.bl false,.bl false]):=by rw[← ja];exact aa
   refine⟨_,rfl,_,rfl,x,_,_,false,rfl,b1 _ _ he,X.xc,X.xa,.inl ⟨_,rfl,X.k5⟩,_,rfl,x,_,_,false,rfl,b1 _ _ he,X.xc,X.xa,.inl ⟨_,rfl,X.k6⟩,sm (show 2≤100000 by decide),fun p2 cP=>⟨_,_,(Sub.new cP) _ _ v1,aa,sm (show 6≤100000 by decide),fun p3 gJ=>?_⟩⟩
   have b3:=b1.trans (.new (c:=.lst [.bl false,.bl false]) cP)
   generalize Jo:S1.set p2 _=S2 at gJ
   have b2:Sub S0 S2:=by rw[← Jo];exact b3
   generalize rL:S2.set p3 _=S3
   have b4:Sub S0 S3:=by rw[← rL];exact b2.trans (.new gJ)
   have v3:S3 p3=some (.lst (([false,true,false,false,false,false]:List Bool).map D.bl)):=by rw[← rL];exact aa
   refine⟨_,rfl,⟨rfl,_,v3⟩,[false,true,false,false,false,false],true,rfl,v3,_,rfl,aM ⟨_,rfl,x,_,_,true,rfl,b4 _ _ he,X.xc,X.xa,.inr (.inl ⟨_,rfl,X.v⟩),_,rfl,aM ?_⟩⟩
   exact⟨sm (show 6≤100000 by decide),fun p4 i9=>⟨_,rfl,⟨rfl,_,(Sub.new i9) _ _ v3⟩,([false,true,false,false,false,false]:List Bool).map D.bl,.bl true,1,rfl,(Sub.new i9) _ _ v3,rfl,rfl,⟨_,rfl,rfl⟩,Ul,_,_,aa,rfl,S3,.new i9,S,b0.trans b4,q⟩⟩
  ·rw[ez];unfold rF;dsimp only;rw[hn]
  ·unfold rF
   cases d with
   |str z=>exact absurd rfl (hn z)
   |_=>rfl
  ·have q:=q (by rw[e];exact gC (by decide) (by trivial))
   rw[e] at q
   have X:=AA T
   refine⟨X.m,fun x hx=>?_⟩
   have he:(S.set x (.exc t.az)) x=some (.exc t.az):=aa
   have b0:Sub S (S.set x (.exc t.az)):=.new hx
   generalize S.set x (.exc t.az)=S0 at he b0 ⊢
   refine⟨_,rfl,x,_,_,true,rfl,he,X.xc,X.xa,.inl ⟨_,rfl,X.k1⟩,_,rfl,x,_,_,false,rfl,he,X.xc,X.xa,.inl ⟨_,rfl,X.k2⟩,_,rfl,x,_,_,false,rfl,he,X.xc,X.xa,.inl ⟨_,rfl,X.k3⟩,_,rfl,x,_,_,false,rfl,he,X.xc,X.xa,.inl ⟨_,rfl,X.k4⟩,sm (show 4≤100000 by decide),fun p1 jk=>?_⟩
   generalize ja:S0.set p1 _=S1
   have b1:Sub S0 S1:=by rw[← ja];exact .new jk
   have v1:S1 p1=some (.lst [.bl true,.bl false,.bl false,.bl false]):=by rw[← ja];exact aa
   refine⟨_,rfl,_,rfl,x,_,_,false,rfl,b1 _ _ he,X.xc,X.xa,.inl ⟨_,rfl,X.k5⟩,_,rfl,x,_,_,false,rfl,b1 _ _ he,X.xc,X.xa,.inl ⟨_,rfl,X.k6⟩,sm (show 2≤100000 by decide),fun p2 cP=>⟨_,_,(Sub.new cP) _ _ v1,aa,sm (show 6≤100000 by decide),fun p3 gJ=>?_⟩⟩
   have b3:=b1.trans (.new (c:=.lst [.bl false,.bl false]) cP)
   generalize Jo:S1.set p2 _=S2 at gJ
   have b2:Sub S0 S2:=by rw[← Jo];exact b3
   generalize rL:S2.set p3 _=S3
   have b4:Sub S0 S3:=by rw[← rL];exact b2.trans (.new gJ)
   have v3:S3 p3=some (.lst (([true,false,false,false,false,false]:List Bool).map D.bl)):=by rw[← rL];exact aa
   refine⟨_,rfl,⟨rfl,_,v3⟩,[true,false,false,false,false,false],true,rfl,v3,_,rfl,aM ⟨_,rfl,x,_,_,true,rfl,b4 _ _ he,X.xc,X.xa,.inr (.inl ⟨_,rfl,X.v⟩),_,rfl,aM ?_⟩⟩
   exact⟨sm (show 6≤100000 by decide),fun p4 i9=>⟨_,rfl,⟨rfl,_,(Sub.new i9) _ _ v3⟩,([true,false,false,false,false,false]:List Bool).map D.bl,.bl true,0,rfl,(Sub.new i9) _ _ v3,rfl,rfl,⟨_,rfl,rfl⟩,fun m u hm=>absurd hm (Nat.not_lt_zero _),_,_,aa,rfl,S3,.new i9,S,b0.trans b4,q⟩⟩
 ·rintro aw S' ⟨rfl,rfl,hp⟩
  exact⟨_,rfl,fo (q hp)⟩
def Nf(ws:List Str):Prop:=ws.length≤100000∧∀w∈ws,w.cps.size≤90000∧PyData.strOk w=true
theorem Gm(z:Str):uA (gU (.str z)) (([.str "(",.str ")"]:List D).map gU)=!ou z:=by
 rw[show (([.str "(",.str ")"]:List D))=([lp,rp]:List Str).map D.str from rfl,gB]
 unfold ou
 by_cases h1:z=lp <;> by_cases h2:z=rp <;> simp [h1,h2]
theorem tw_split{p:Str→Bool}{v:List Str}(hv:∀y,v.head?=some y→p y=false){u:List Str}(h:∀x∈u,p x=true):(u++v).takeWhile p=u∧(u++v).dropWhile p=v:=by
 cases v with
 |cons y v=>exact tw_stop (hv y rfl) h
 |nil =>
  rw[zE]
  induction u with
  |nil=>exact⟨rfl,rfl⟩
  |cons x u ih =>
   obtain⟨i1,i2⟩:=ih fun y hy=>h y (zd _ hy)
   rw[List.takeWhile_cons,List.dropWhile_cons,h x zf]
   exact⟨by rw[if_pos rfl,i1],by rw[if_pos rfl,i2]⟩
theorem uo{c1:Bool}{X A B:Prop}(c2:Bool)(hx:(if c2=true then A else B)→X)(h:if (c1 || c2)=true then A else B):if c1=true then (if true=true then A else B) else X:=by
 cases c1 with
 |true=>exact h
 |false=>exact hx h
def Qi:jg:=fun ds S R _=>∃(a:Addr) (ws:List Str) (k:Nat),ds=[.ref a,.int ((k:Nat):Int)]∧S a=some (.lst (ws.map D.str))∧Nf ws∧k<ws.length ∧
 (∀x r,dP ck ar (ws.getD k "") (ws.drop (k+1))=some (x,r)→R (.tup [x,.int ((ws.length - r.length:Nat):Int)]) S)∧(dP ck ar (ws.getD k "") (ws.drop (k+1))=none→R .aK S)
theorem vY(T:Txt w K mg t):Ok P w base T.fR 4 Qi:=by
 refine T.fR.F.kO gy ?_
 rintro _ _ _ _ _ _ ds S R Z hr ⟨a,ws,k,e,hS,hW,hk,q1,q2⟩
 subst e
 have n1:=sm (show 1≤100000 by decide)
 have n2:=sm (show 2≤100000 by decide)
 have n3:=sm (show 3≤100000 by decide)
 have Ng:(ws.drop (k+1)).length=ws.length - (k+1):=zF
 have yL:gT (ws.map D.str) ((k:Nat):Int)=some (.str (ws.getD k "")):=kG hk rfl
 generalize hw:ws.getD k "" = w0 at q1 q2 yL
 refine⟨_,(sc (si (aT aP hr.units (ix hr.units (dv 0) (dv 1)) ds) (s1 (sr (bD (ac (bD (ac ds an)) (ac (bo aj hr.units (dv 1) di) an))))) s0) (sc (si (aT aP hr.units (ix hr.units (dv 0) (dv 1)) ds) (sc (bK (i:=2) gy.nd (bo aj hr.units (dv 1) di)) (sc (sJ (PH (twd (twand (aT sE hr.units (dv 2) (cb aW T.aX aI (ac (dv 0) an))) (tw1 (aT sG hr.units (ix hr.units (dv 0) (dv 2)) (bD (ac ds (ac ds an))))))) (s1 (bK (i:=2) gy.nd (bo aj hr.units (dv 2) di))))) (s1 (sr (bD (ac (bD (ac ds (ac (ct fg T.cG bO (ac (sl (dv 0) (o1 (bo aj hr.units (dv 1) di)) (o1 (dv 2))) an)) an))) (ac (dv 2) an))))))) s0) (sc (si (twd (twor (aT sG hr.units (ix hr.units (dv 0) (dv 1)) (bD (ac ds (ac ds (ac ds (ac ds an)))))) (tw1 (aT HB hr.units (bo aj hr.units (dv 1) di) (cb aW T.aX aI (ac (dv 0) an)))))) (s1 (sr dn)) s0) (sc (si (twd (twor (aT qu hr.units (ix hr.units (dv 0) (bo aj hr.units (dv 1) di)) (bD (ac ds (ac ds an)))) (tw1 (ej (tv (cf ((jG T).mono (by decide)) hr T.bP.m T.bP.k T.bP.b d0 (ac (ix hr.units (dv 0) (bo aj hr.units (dv 1) di)) an))))))) (s1 (sr dn)) s0) (s1 (sr (bD (ac (bD (ac (ix hr.units (dv 0) (dv 1)) (ac (ix hr.units (dv 0) (bo aj hr.units (dv 1) di)) (ac (cf ((E3 T).mono (by decide)) hr T.nI.m T.nI.k T.nI.b d0 (ac (ix hr.units (dv 0) (bo aj hr.units (dv 1) di)) an)) an)))) (ac (bo aj hr.units (dv 1) di) an))))))))),?_⟩
 refine⟨_,rfl,_,rfl,_,_,hS,yL,decide (w0 = "every"),rfl,aQ (fun h1=>?_) (fun h1=>?_)⟩
 ·have h1:=ze h1
  refine⟨n1,_,rfl,n2,?_⟩
  have q:=q1 _ _ (by unfold dP;rw[if_pos h1])
  rw[Ng,show ((ws.length - (ws.length - (k+1)):Nat):Int)=((k:Nat):Int)+1 by lia] at q
  exact fo q
 have h1:=zj h1
 refine⟨_,rfl,_,rfl,_,_,hS,yL,decide (w0 = "key"),rfl,aQ (fun h2=>?_) (fun h2=>?_)⟩
 ·have h2:=ze h2
  refine⟨_,rfl,?_⟩
  refine⟨fun aw S'=>∃e:Nat,aw=[some (.ref a),some (.int ((k:Nat):Int)),some (.int ((e:Nat):Int))]∧S'=S∧k+1≤e∧e≤ws.length∧(∀x∈(ws.drop (k+1)).take (e - (k+1)),ou x=true)∧∀y,(ws.drop e).head?=some y→ou y=false,?_,?_⟩
  ·refine⟨fun m aw S'=>∃e:Nat,aw=[some (.ref a),some (.int ((k:Nat):Int)),some (.int ((e:Nat):Int))]∧S'=S∧k+1≤e∧e≤ws.length∧m=ws.length - e∧∀x∈(ws.drop (k+1)).take (e - (k+1)),ou x=true,⟨ws.length - (k+1),k+1,rfl,rfl,zi _,hk,rfl,fun x hx=>by rw[Nat.sub_self] at hx;cases hx⟩,?_⟩
   rintro m aw S' ⟨e,rfl,rfl,Nh,Ni,rfl,hp⟩
   refine⟨_,rfl,_,rfl,_,rfl,.inl ⟨_,hS,decide (e<ws.length),congrArg D.bl (by rw[za,zy];lia),?_⟩⟩
   refine aQ (fun h3=>?_) (fun h3=>?_)
   ·have h3:e<ws.length:=ze h3
    have L3:=i4 h3
    refine⟨_,rfl,_,rfl,_,_,hS,kG h3 rfl,n2,⟨rfl,rfl,ou (ws.getD e ""),congrArg D.bl (by rw[Gm];show (!(!ou _))=_;rw[Bool.not_not]),aQ (fun h4=>?_) (fun h4=>?_)⟩⟩
    ·refine⟨_,rfl,ws.length - (e+1),by lia,e+1,rfl,rfl,by lia,h3,rfl,?_⟩
     intro x hx
     rw[show e+1 - (k+1)=(e - (k+1))+1 by lia,List.take_add_one] at hx
     rcases zW.mp hx with hx|hx
     ·exact hp x hx
     ·rw[List.getElem?_drop,show k+1+(e - (k+1))=e by lia,zJ h3] at hx
      have hx:x=ws[e]:=by simpa using hx
      rw[hx,show ws[e]=ws.getD e "" by rw[List.getD_eq_getElem?_getD,zJ h3];rfl]
      exact h4
    ·refine fo ⟨e,rfl,rfl,Nh,Ni,hp,fun y hy=>?_⟩
     rw[L3] at hy
     cases hy
     exact h4
   ·have h3:¬ e<ws.length:=zj h3
    refine aM (fo ⟨e,rfl,rfl,Nh,Ni,hp,fun y hy=>?_⟩)
    rw[List.drop_eq_nil_of_le (by lia)] at hy
    cases hy
  ·rintro aw S' ⟨e,rfl,rfl,Nh,Ni,hp,hy⟩
   obtain⟨t1,t2⟩:=tw_split hy hp
   have Qj:(ws.drop (k+1)).take (e - (k+1))++ws.drop e=ws.drop (k+1):=by
    have:=List.take_append_drop (e - (k+1)) (ws.drop (k+1))
    rw[List.drop_drop,show k+1+(e - (k+1))=e by lia] at this
    exact this
   rw[Qj] at t1 t2
   have q:=q1 _ _ (by unfold dP;rw[if_neg h1,if_pos h2,t1,t2])
   rw[zF,show (ws.length - (ws.length - e):Nat)=e by lia] at q
   refine⟨_,rfl,_,rfl,_,rfl,_,rfl,_,rfl,_,hS,fun p hp=>?_⟩
   rw[show ((k:Nat):Int)+1=((k+1:Nat):Int) by lia,EO (ws.map D.str) (a:=k+1) (b:=e) (by rw[za];exact Ni) Nh]
   refine⟨_,_,rfl,.inl aa,n2,_,rfl,n2,S',.new hp,?_⟩
   rw[← List.map_drop,← List.map_take]
   exact q
 have h2:=zj h2
 have lf:dP ck ar w0 (ws.drop (k+1))=if w0∈cj then vX ck ar w0 (ws.drop (k+1)) else none:=by unfold dP;rw[if_neg h1,if_neg h2]
 rw[lf] at q1 q2
 have n4:=sm (show 4≤100000 by decide)
 refine⟨_,rfl,_,rfl,_,_,hS,yL,n4,⟨rfl,rfl,!decide (w0∈cj),congrArg (fun b=>D.bl (!b)) (rC w0),uo (decide (ws.length≤k+2)) (fun h=>⟨_,rfl,_,rfl,_,rfl,.inl ⟨_,hS,decide (ws.length≤k+2),congrArg D.bl (by rw[za,zy];lia),h⟩⟩) ?_⟩⟩
 refine aQ (fun h3=>?_) (fun h3=>?_)
 ·refine fo (q2 ?_)
  by_cases hc:w0∈cj
  ·rw[if_pos hc]
   rw[zr hc] at h3
   have h3:ws.length≤k+2:=ze h3
   match ws.drop (k+1),Ng with
   |[],_=>rfl
   |[x],_=>rfl
   |x::y::r,Ng=>simp only [zb] at Ng;lia
  ·rw[if_neg hc]
 have hc:w0∈cj:=by
  by_cases hc:w0∈cj
  ·exact hc
  ·rw[zh hc] at h3;cases h3
 have qw:k+2<ws.length:=by
  rw[zr hc] at h3
  have:=zj h3
  lia
 rw[if_pos hc] at q1 q2
 have hd2:ws.drop (k+1)=ws.getD (k+1) "" :: ws.getD (k+2) "" :: ws.drop (k+3):=by rw[i4 (by lia),i4 (a:=k+2) qw]
 have Js:gT (ws.map D.str) (((k:Nat):Int)+1)=some (.str (ws.getD (k+1) "")):=kG (by lia) (by lia)
 have at2:gT (ws.map D.str) (((k:Nat):Int)+2)=some (.str (ws.getD (k+2) "")):=kG qw (by lia)
 have Qk:(ws.getD (k+2) "").cps.size≤90000:=by
  refine (hW.2 _ ?_).1
  rw[List.getD_eq_getElem?_getD,zJ qw];exact List.getElem_mem qw
 rw[hd2] at q1 q2
 generalize ws.getD (k+1) "" = a1 at q1 q2 Js
 generalize ws.getD (k+2) "" = v1 at q1 q2 at2 Qk
 refine⟨_,rfl,_,rfl,_,_,hS,Js,n2,⟨rfl,rfl,!ou a1,congrArg D.bl (Gm a1),uo (!ck v1) (fun h=>⟨_,rfl,_,rfl,_,_,hS,at2,v1,rfl,Qk,_,rfl,h⟩) ?_⟩⟩
 refine aQ (fun h4=>?_) (fun h4=>?_)
 ·refine fo (q2 ?_)
  dsimp only [vX]
  refine if_neg fun h=>?_
  rw[h.1,h.2] at h4;cases h4
 have h5:ou a1=true∧ck v1=true:=by
  cases ha:ou a1 <;> cases hv:ck v1 <;> rw[ha,hv] at h4 <;> first|exact⟨rfl,rfl⟩|cases h4
 obtain⟨d,ht,_⟩:=lJ h5.2
 have q:=q1 (.tup [.str w0,.str a1,ar v1]) (ws.drop (k+3)) (by dsimp only [vX];rw[if_pos h5])
 rw[zF,show ((ws.length - (ws.length - (k+3)):Nat):Int)=((k:Nat):Int)+3 by lia,← vV ht] at q
 exact⟨_,rfl,_,rfl,_,_,hS,yL,_,rfl,_,rfl,_,_,hS,Js,_,rfl,_,rfl,_,_,hS,at2,v1,d,rfl,Qk,ht,n3,_,rfl,n2,fo q⟩
theorem lZ(h:ax ck ar n ws=some (x,r)):r.length<ws.length:=by
 obtain⟨vs,h1,rfl⟩:=fY jo n ws x r h
 obtain⟨z,rfl⟩:=h1.head
 rw[zg,zb];lia
theorem uq(Q:List Str→Option (D×List Str))(k:Nat)(ws:List Str):aC Q (k+1) ws=if ws.head?=some lp then (Q ws).bind fun x=>(aC Q k x.2).map fun y=>(x.1::y.1,y.2) else some ([],ws):=rfl
theorem l3:∀(j1 j2:Nat) (ws:List Str),ws.length≤j1→ws.length≤j2→aC (ax ck ar n) j1 ws=aC (ax ck ar n) j2 ws
 |0,0,ws,_,_=>rfl
 |0,j2+1,ws,h1,_=>by
  obtain rfl:=zD (Nat.le_zero.mp h1)
  unfold aC;rw[if_neg (by decide)]
 |j1+1,0,ws,_,h2=>by
  obtain rfl:=zD (Nat.le_zero.mp h2)
  unfold aC;rw[if_neg (by decide)]
 |j1+1,j2+1,ws,h1,h2=>by
  unfold aC
  by_cases h:ws.head?=some lp
  ·rw[if_pos h,if_pos h]
   cases e:ax ck ar n ws with
   |none=>rfl
   |some y =>
    obtain⟨x,r⟩:=y
    have hl:=lZ e
    show (aC _ j1 r).map _=(aC _ j2 r).map _
    rw[l3 j1 j2 r (by lia) (by lia)]
  ·rw[if_neg h,if_neg h]
theorem AB(h:ws.head?=some lp)(e:ax ck ar n ws=some (x,r)):aC (ax ck ar n) ws.length ws=(aC (ax ck ar n) r.length r).map fun y=>(x::y.1,y.2):=by
 have hl:=lZ e
 obtain⟨m,hm⟩:∃m,ws.length=m+1:=⟨ws.length - 1,by lia⟩
 rw[hm,uq,if_pos h,e]
 show (aC _ m r).map _=_
 rw[l3 m r.length r (by lia) (zi _)]
theorem AD(h:ws.head?=some lp)(e:ax ck ar n ws=none):aC (ax ck ar n) ws.length ws=none:=by
 obtain⟨m,hm⟩:∃m,ws.length=m+1:=by
  cases ws with
  |nil=>cases h
  |cons y ws=>exact⟨_,rfl⟩
 rw[hm]
 unfold aC
 rw[if_pos h,e];rfl
theorem n8(h:ws.head?≠some lp):aC (ax ck ar n) ws.length ws=some ([],ws):=by
 cases ws with
 |nil=>rfl
 |cons y ws =>
  show aC _ (ws.length+1) _=_
  unfold aC
  rw[if_neg h]
def L4(n:Nat):jg:=fun ds S R _=>∃(a:Addr) (ws:List Str) (k:Nat),ds=[.ref a,.int ((k:Nat):Int)]∧S a=some (.lst (ws.map D.str))∧Nf ws∧k≤ws.length∧1≤n∧md (ws.drop k)≤((n:Nat):Int) ∧
 (∀x r,ax ck ar n (ws.drop k)=some (x,r)→R (.tup [x,.int ((ws.length - r.length:Nat):Int)]) S)∧(ax ck ar n (ws.drop k)=none→R .aK S)
def L5(n:Nat):jg:=fun ds S R _=>∃(a:Addr) (ws:List Str) (k:Nat),ds=[.ref a,.int ((k:Nat):Int)]∧S a=some (.lst (ws.map D.str))∧Nf ws∧k≤ws.length∧md (ws.drop k)≤((n:Nat):Int) ∧
 (∀ts r,aC (ax ck ar n) (ws.drop k).length (ws.drop k)=some (ts,r)→R (.tup [.tup ts,.int ((ws.length - r.length:Nat):Int)]) S)∧(aC (ax ck ar n) (ws.drop k).length (ws.drop k)=none→R .aK S)
theorem ur(T:Txt w K mg t)(rD:Ok P w base T.bB L (L4 n)):Ok P w base T.dq (L+1) (L5 n):=by
 refine T.dq.F.kO dE ?_
 rintro _ _ _ _ _ _ ds S R Z hr ⟨a,ws,k,e,hS,hW,hk,L6,q1,q2⟩
 subst e
 have n0:=sm (show 0≤100000 by decide)
 have n2:=sm (show 2≤100000 by decide)
 refine⟨_,(sc (bK (i:=2) dE.nd (bt an)) (sc (sJ (PH (twd (twand (aT sE hr.units (dv 1) (cb aW T.aX aI (ac (dv 0) an))) (tw1 (aT aP hr.units (ix hr.units (dv 0) (dv 1)) ds)))) (sc (bK (i:=3) dE.nd (cf (rD.mono (by lia)) hr T.bB.m T.bB.k T.bB.b d0 (ac (dv 0) (ac (dv 1) an)))) (sc (si (aT qt hr.units (dv 3) dn) (s1 (sr dn)) s0) (sc (se (bm zN yb yc dJ (dv 2) (ac (ix hr.units (dv 3) di) an))) (s1 (bK (i:=1) dE.nd (ix hr.units (dv 3) di)))))))) (s1 (sr (bD (ac (ct fg T.cG bO (ac (dv 2) an)) (ac (dv 1) an))))))),?_⟩
 refine⟨n0,fun p hp=>?_⟩
 have M5:=hp
 refine⟨fun aw S'=>∃(e:Nat) (ts:List D) (o3:Option D),aw=[some (.ref a),some (.int ((e:Nat):Int)),some (.ref p),o3]∧Sub S S'∧S' p=some (.lst ts)∧e≤ws.length∧aC (ax ck ar n) (ws.drop k).length (ws.drop k)=some (ts,ws.drop e),?_,?_⟩
 ·refine⟨fun m aw S'=>∃(e:Nat) (ts:List D) (o3:Option D),aw=[some (.ref a),some (.int ((e:Nat):Int)),some (.ref p),o3]∧Sub S S'∧S' p=some (.lst ts)∧e≤ws.length∧ts.length≤e∧m=ws.length - e∧md (ws.drop e)≤((n:Nat):Int) ∧
   aC (ax ck ar n) (ws.drop k).length (ws.drop k)=(aC (ax ck ar n) (ws.drop e).length (ws.drop e)).map fun y=>(ts++y.1,y.2),⟨ws.length - k,k,[],none,rfl,.new hp,aa,hk,yj _,rfl,L6,?_⟩,?_⟩
  ·cases aC (ax ck ar n) (ws.drop k).length (ws.drop k) <;> rfl
  rintro m aw S' ⟨e,ts,o3,rfl,sb,Jt,he,Wo,rfl,RO,Bp⟩
  have Ql:=sb _ _ hS
  refine⟨_,rfl,_,rfl,_,rfl,.inl ⟨_,Ql,decide (e<ws.length),congrArg D.bl (by rw[za,zy];lia),?_⟩⟩
  refine aQ (fun h1=>?_) (fun h1=>?_)
  ·have h1:e<ws.length:=ze h1
   have L3:=i4 h1
   refine⟨_,rfl,_,rfl,_,_,Ql,kG h1 rfl,decide (ws.getD e "" = "("),rfl,aQ (fun h2=>?_) (fun h2=>?_)⟩
   ·have h2:ws.getD e "" = "(" := ze h2
    have hh:(ws.drop e).head?=some lp:=by rw[L3,h2];rfl
    refine⟨_,rfl,_,rfl,a,ws,e,rfl,Ql,hW,he,by rw[L3,h2,gL] at RO;have:=dk (ws.drop (e+1));lia,RO,fun x r hx=>?_,fun hx=>?_⟩
    ·obtain⟨vs,hv,Qm⟩:=fY jo n _ x r hx
     have hlen:ws.length - e=vs.length+r.length:=by rw[← zF,Qm,zg]
     have Um:0<vs.length:=List.length_pos_iff.mpr hv.ne
     have RP:ws.drop (ws.length - r.length)=r:=by
      rw[show ws.length - r.length=e+vs.length by lia,← List.drop_drop,Qm,List.drop_left]
     have Wq:=hW.1
     refine⟨_,rfl,false,rfl,aM ?_⟩
     refine⟨_,rfl,⟨rfl,_,Jt⟩,_,rfl,_,bJ _ _,p,_,_,rfl,rfl,Jt,gz (by lia),?_⟩
     refine⟨_,rfl,_,eB _ _ _,ws.length - (ws.length - r.length),by lia,ws.length - r.length,ts++[x],_,rfl,gE sb M5,aa,by lia,?_,rfl,?_,?_⟩
     ·rw[zg];show ts.length+1≤_;lia
     ·rw[RP]
      have:=hv.md r
      rw[← Qm] at this
      lia
     ·rw[RP,Bp,AB hh hx]
      cases aC (ax ck ar n) r.length r with
      |none=>rfl
      |some y=>show some (ts++x::y.1,y.2)=some ((ts++[x])++y.1,y.2);rw[zI];rfl
    ·exact⟨_,rfl,true,rfl,bf ⟨S,sb,q2 (by rw[Bp,AD hh hx];rfl)⟩⟩
   ·have h2:ws.getD e "" ≠ "(" := zj h2
    refine fo ⟨e,ts,_,rfl,sb,Jt,he,?_⟩
    rw[Bp,n8 (by rw[L3];intro h;exact h2 (zO h))]
    show some (ts++[],_)=_
    rw[zE]
  ·have h1:¬ e<ws.length:=zj h1
   refine aM (fo ⟨e,ts,_,rfl,sb,Jt,he,?_⟩)
   rw[Bp,n8 (by rw[List.drop_eq_nil_of_le (by lia)];decide)]
   show some (ts++[],_)=_
   rw[zE]
 ·rintro aw S' ⟨e,ts,o3,rfl,sb,Jt,he,Bp⟩
  have q:=q1 _ _ Bp
  rw[zF,show (ws.length - (ws.length - e):Nat)=e by lia] at q
  exact⟨_,rfl,_,_,rfl,.inl Jt,_,rfl,n2,S,sb,q⟩
theorem Fl{ws r u:List Str}(h:ws=u++r):ws.drop (ws.length - r.length)=r:=by
 rw[h,zg,Nat.add_sub_cancel,List.drop_left]
theorem AE{w:Str}(e:dP ck ar w r=some (x,r')):∃u,r=u++r':=by
 unfold dP at e
 by_cases h1:w = "every"
 ·rw[if_pos h1] at e;cases e;exact⟨[],rfl⟩
 rw[if_neg h1] at e
 by_cases h2:w = "key"
 ·rw[if_pos h2] at e
  have e2:=(Prod.mk.inj (zO e)).2
  exact⟨r.takeWhile ou,by rw[← e2,List.takeWhile_append_dropWhile]⟩
 rw[if_neg h2] at e
 by_cases h3:w∈cj
 ·rw[if_pos h3] at e
  match r,e with
  |a::v::r,e =>
   dsimp only [vX] at e
   by_cases h4:ou a=true∧ck v=true
   ·rw[if_pos h4] at e;cases e;exact⟨[a,v],rfl⟩
   ·rw[if_neg h4] at e;cases e
  |[a],e=>cases e
  |[],e=>cases e
 ·rw[if_neg h3] at e;cases e
theorem AF{w:Str}(e:gM w (ts,r)=some (x,r')):r=r':=by
 dsimp only [gM] at e
 by_cases h:w = "not"
 ·rw[if_pos h] at e
  match ts,e with
  |[t],e=>cases e;rfl
  |[],e=>cases e
  |_::_::_,e=>cases e
 ·rw[if_neg h] at e;cases e;rfl
def l4(n:Nat)(w:Str)(r:List Str):Option (D×List Str):=if w∈xy then (aC (ax ck ar n) r.length r).bind (gM w) else dP ck ar w r
theorem AG{n:Nat}{w:Str}{r r':List Str}{x:D}(e:l4 n w r=some (x,r')):∃u,r=u++r':=by
 unfold l4 at e
 by_cases h:w∈xy
 ·rw[if_pos h] at e
  obtain⟨y,e1,e2⟩:=Option.bind_eq_some_iff.mp e
  obtain⟨ts,r2⟩:=y
  obtain⟨vs,_,e3⟩:=lN (fY jo n) _ e1
  rw[AF e2] at e3
  exact⟨vs,e3⟩
 ·rw[if_neg h] at e;exact AE e
theorem uu(n:Nat)(w:Str)(r:List Str):ax ck ar (n+1) (lp::w::r)=(l4 n w r).bind fE:=by
 show (if lp=lp then (l4 n w r).bind fE else none)=_
 rw[if_pos rfl]
theorem AH{n:Nat}{l w:Str}{r:List Str}(h:l≠lp):ax ck ar n (l::w::r)=none:=by
 cases n with
 |zero=>rfl
 |succ n=>show (if l=lp then _ else none)=_;rw[if_neg h]
theorem vZ{n:Nat}{ws:List Str}(h:ws.length≤1):ax ck ar n ws=none:=by
 match n,ws,h with
 |0,_,_=>rfl
 |n+1,[],_=>rfl
 |n+1,[x],_=>rfl
 |n+1,x::y::r,h=>simp only [zb] at h;lia
theorem IF(z:Str):uA (gU (.str z)) (([.str "not",.str "and",.str "or"]:List D).map gU)=decide (z∈xy):=gB z xy
def fD(n:Nat):Option (D×List Str)→D
 |none=>.aK
 |some (x,r)=>.tup [x,.int ((n - r.length:Nat):Int)]
theorem Fm{x:D}{r:List Str}(h:r.take 1≠[rp]):fE (x,r)=none:=by
 cases r with
 |nil=>rfl
 |cons e r =>
  rw[ya,yx] at h
  dsimp only [fE]
  exact if_neg fun k=>h (by rw[k])
theorem C2{x:D}{r:List Str}(h:r.take 1=[rp]):∃r',r=rp::r'∧fE (x,r)=some (x,r'):=by
 cases r with
 |nil=>cases h
 |cons e r =>
  rw[ya,yx] at h
  obtain rfl:e=rp:=(List.cons.inj h).1
  exact⟨r,rfl,by dsimp only [fE];rw[if_pos rfl]⟩
theorem C3{S:aN}{a b:Addr}{ws us:List Str}{R:KD}(e1:S a=some (.lst (ws.map D.str)))(e2:S b=some (.lst (us.map D.str)))(h1:∀z∈ws,PyData.strOk z=true)(h2:∀z∈us,PyData.strOk z=true)(q:R (.bl (!decide (ws=us))) S):Ek true (.ref a) (.ref b) S R:=by
 refine⟨.list (ws.map .str),.list (us.map .str),⟨_,_,e1,rfl,rh ws⟩,⟨_,_,e2,rfl,rh us⟩,by simp only [PyData.canLay0];exact (kx h1).1,by simp only [PyData.canLay0];exact (kx h2).1,.inl (by simp only [PyData.depth,(kx h1).2];lia),?_⟩
 rw[if_pos rfl,tU];exact q
theorem v8{α:Type}(l:List α)(e:Nat):ay l (some ((e:Nat):Int)) (some (((e:Nat):Int)+1))=(l.drop e).take 1:=by
 rw[show ((e:Nat):Int)+1=((e+1:Nat):Int) by lia]
 unfold ay
 rw[HT.sIx_nat,HT.sIx_nat]
 by_cases h:e+1≤l.length
 ·rw[Nat.min_eq_left h,Nat.min_eq_left (by lia),show e+1 - e=1 by lia]
 ·rw[Nat.min_eq_right (by lia),Nat.min_eq_right (show l.length≤e by lia),Nat.sub_self,yx,List.drop_eq_nil_of_le (by lia)];rfl
theorem l6(T:Txt w K mg t):∀n,Ok P w base T.bB (5+2 * n) (L4 n)
 |0=>by
  refine T.bB.F.kO (k:=4) bC ?_
  rintro _ _ _ _ _ _ ds S R Z hr ⟨a,ws,k,e,hS,hW,hk,h1,_⟩
  exact absurd h1 (by decide)
 |n+1=>by
  have rE:Ok P w base T.dq (5+2 * n+1) (L5 n):=ur T (l6 T n)
  refine T.bB.F.kO (k:=5+2 * n+1) bC ?_
  rintro _ _ _ _ _ _ ds S R Z hr ⟨a,ws,k,e,hS,hW,hk,h1,L6,q1,q2⟩
  subst e
  have n1:=sm (show 1≤100000 by decide)
  have n2:=sm (show 2≤100000 by decide)
  have n3:=sm (show 3≤100000 by decide)
  refine⟨_,(sc (si (twd (twor (aT HB hr.units (bo aj hr.units (dv 1) di) (cb aW T.aX aI (ac (dv 0) an))) (tw1 (aT ju hr.units (ix hr.units (dv 0) (dv 1)) ds)))) (s1 (sr dn)) s0) (sc (bK (i:=2) bC.nd (ix hr.units (dv 0) (bo aj hr.units (dv 1) di))) (sc (sJ (si (aT sG hr.units (dv 2) (bD (ac ds (ac ds (ac ds an))))) (s1 (bK (i:=3) bC.nd (cf ((vY T).mono (by lia)) hr T.fR.m T.fR.k T.fR.b d0 (ac (dv 0) (ac (bo aj hr.units (dv 1) di) an))))) (sc (bK (i:=3) bC.nd (cf (rE.mono (by lia)) hr T.dq.m T.dq.k T.dq.b d0 (ac (dv 0) (ac (bo aj hr.units (dv 1) di) an)))) (sc (si (twd (twand (aT u1 hr.units (dv 3) dn) (twand (aT aP hr.units (dv 2) ds) (tw1 (aT ju hr.units (cb aW T.aX aI (ac (ix hr.units (dv 3) di) an)) di))))) (s1 (sr dn)) s0) (s1 (si (aT u1 hr.units (dv 3) dn) (sc (bK (i:=3) bC.nd (bD (ac (bD (ac (dv 2) (ac (yX (ix hr.units (bt (ac (ix hr.units (dv 3) di) (ac (Tw (ix hr.units (dv 3) di) o0 (o1 di)) an))) (ct FP T.nJ jr (ac (cm aP hr.units (dv 2) ds) an)))) an))) (ac (ix hr.units (dv 3) di) an)))) (s1 (si (aT aP hr.units (dv 2) ds) (s1 (bK (i:=3) bC.nd (bD (ac (bD (ac ds (ac (ix hr.units (ix hr.units (ix hr.units (dv 3) di) di) di) an))) (ac (ix hr.units (dv 3) di) an))))) s0))) s0)))))) (sc (si (twd (twor (aT qt hr.units (dv 3) dn) (tw1 (aT ju hr.units (sl (dv 0) (o1 (ix hr.units (dv 3) di)) (o1 (bo aj hr.units (ix hr.units (dv 3) di) di))) (bt (ac ds an)))))) (s1 (sr dn)) s0) (s1 (sr (bD (ac (ix hr.units (dv 3) di) (ac (bo aj hr.units (ix hr.units (dv 3) di) di) an))))))))),?_⟩
  refine⟨_,rfl,_,rfl,_,rfl,.inl ⟨_,hS,decide (ws.length≤k+1),congrArg D.bl (by rw[za,zy];lia),?_⟩⟩
  refine aQ (fun h2=>?_) (fun h2=>?_)
  ·have h2:ws.length≤k+1:=ze h2
   exact bf (fo (q2 (vZ (by rw[zF];lia))))
  have h2:¬ ws.length≤k+1:=zj h2
  have Jr:ws.drop k=ws.getD k "" :: ws.getD (k+1) "" :: ws.drop (k+2):=by rw[i4 (by lia),i4 (a:=k+1) (by lia)]
  have yL:gT (ws.map D.str) ((k:Nat):Int)=some (.str (ws.getD k "")):=kG (by lia) rfl
  have Js:gT (ws.map D.str) (((k:Nat):Int)+1)=some (.str (ws.getD (k+1) "")):=kG (by lia) (by lia)
  refine⟨_,rfl,_,rfl,_,_,hS,yL,!decide (ws.getD k "" = "("),rfl,aQ (fun h3=>?_) (fun h3=>?_)⟩
  ·have h3:ws.getD k "" ≠ lp:=zj (nt h3)
   exact fo (q2 (by rw[Jr];exact AH h3))
  have h3:ws.getD k "" = lp:=ze (nf h3)
  rw[Jr,h3,uu] at q1 q2
  rw[Jr,h3,gL] at L6
  have Ws:ws.getD (k+1) "" = ws.getD (k+1) "" := rfl
  generalize Nb:ws.getD (k+1) "" = w0 at q1 q2 Js L6 Jr
  refine⟨_,rfl,_,rfl,_,_,hS,Js,?_⟩
  refine⟨fun aw S'=>aw=[some (.ref a),some (.int ((k:Nat):Int)),some (.str w0),some (fD ws.length (l4 n w0 (ws.drop (k+2))))]∧S'=S,?_,?_⟩
  ·refine⟨_,rfl,n3,rfl,rfl,!decide (w0∈xy),congrArg (fun b=>D.bl (!b)) (IF w0),aQ (fun h4=>?_) (fun h4=>?_)⟩
   ·have h4:w0∉xy:=zj (nt h4)
    have eb:l4 n w0 (ws.drop (k+2))=dP ck ar w0 (ws.drop (k+2)):=if_neg h4
    refine⟨_,rfl,_,rfl,a,ws,k+1,by rw[show ((k:Nat):Int)+1=((k+1:Nat):Int) by lia];rfl,hS,hW,by lia,fun x r hx=>?_,fun hx=>?_⟩
    ·rw[Nb] at hx
     exact fo ⟨by rw[eb,hx];rfl,rfl⟩
    ·rw[Nb] at hx
     exact fo ⟨by rw[eb,hx];rfl,rfl⟩
   ·have h4:w0∈xy:=ze (nf h4)
    have eb:l4 n w0 (ws.drop (k+2))=(aC (ax ck ar n) (ws.drop (k+2)).length (ws.drop (k+2))).bind (gM w0):=if_pos h4
    have M5:Pw w0:=by
     simp only [xy,zc,zw,or_false] at h4
     rcases h4 with rfl|rfl|rfl <;> constructor <;> decide
    rw[nY M5] at L6
    refine⟨_,rfl,_,rfl,a,ws,k+2,by rw[show ((k:Nat):Int)+2=((k+2:Nat):Int) by lia];rfl,hS,hW,by lia,by lia,fun ts r hx=>?_,fun hx=>?_⟩
    ·rw[hx] at eb
     refine⟨_,rfl,true,rfl,bf ?_⟩
     refine⟨_,rfl,decide (w0 = "not"),rfl,?_⟩
     by_cases h5:w0 = "not"
     ·subst h5
      refine bf ⟨_,rfl,_,bJ _ _,_,rfl,!decide (ts.length=1),congrArg (fun b=>D.bl (!b)) (len_eq ts.length 1),aQ (fun h6=>?_) (fun h6=>?_)⟩
      ·have h6:ts.length≠1:=zj (nt h6)
       refine fo (q2 ?_)
       rw[eb]
       show (gM "not" (ts,r)).bind fE=none
       dsimp only [gM]
       rw[if_pos rfl]
       match ts,h6 with
       |[],_=>rfl
       |[x],h6=>exact absurd rfl h6
       |x::y::ts,_=>rfl
      ·have h6:ts.length=1:=ze (nf h6)
       obtain⟨x,rfl⟩:=rm h6
       refine⟨_,rfl,true,rfl,bf ?_⟩
       refine⟨_,rfl,_,rfl,_,bJ _ _,_,rfl,_,bJ _ _,_,rfl,_,rfl,n2,fun p hp=>⟨_,rfl,.inr ⟨_,rfl,_,_,aa,eB _ _ _,S,.new hp,n2,_,rfl,_,eB _ _ _,n2,?_⟩⟩⟩
       refine⟨_,rfl,true,rfl,bf ⟨_,rfl,_,bJ _ _,_,eB _ _ _,_,rfl,n2,_,rfl,_,eB _ _ _,n2,fo ⟨?_,rfl⟩⟩⟩
       rw[eb];rfl
     ·refine gQ (zh h5) (aM ?_)
      refine⟨_,rfl,true,rfl,bf ?_⟩
      refine⟨_,rfl,_,rfl,_,bJ _ _,_,rfl,_,bJ _ _,_,rfl,_,rfl,n2,fun p hp=>⟨_,rfl,.inr ⟨_,rfl,_,.tup ts,aa,?_,S,.new hp,n2,_,rfl,_,eB _ _ _,n2,?_⟩⟩⟩
      ·rw[zh h5];exact bJ _ _
      ·refine⟨_,rfl,decide (w0 = "not"),rfl,gQ (zh h5) (fo ⟨?_,rfl⟩)⟩
       rw[eb]
       show _=[_,_,_,some (fD _ (gM w0 (ts,r)))]
       dsimp only [gM]
       rw[if_neg h5];rfl
    ·rw[hx] at eb
     refine⟨_,rfl,false,rfl,aM (aM ⟨_,rfl,false,rfl,aM (fo ⟨?_,rfl⟩)⟩)⟩
     rw[eb];rfl
  ·rintro aw S' ⟨rfl,rfl⟩
   cases hb:l4 n w0 (ws.drop (k+2)) with
   |none =>
    rw[hb] at q2
    exact⟨_,rfl,true,rfl,bf (bf (fo (q2 rfl)))⟩
   |some y =>
    obtain⟨x,r⟩:=y
    rw[hb] at q1 q2
    obtain⟨u,hu⟩:=AG hb
    have Qn:ws.drop (ws.length - r.length)=r:=by
     refine Fl (u:=ws.take (k+2)++u) ?_
     rw[zI,← hu,List.take_append_drop]
    have RQ:r.length≤ws.length:=by
     have:=congrArg List.length Qn
     rw[zF] at this
     have h3:=congrArg List.length hu
     rw[zF,zg] at h3
     lia
    refine⟨_,rfl,false,rfl,aM ?_⟩
    refine⟨_,rfl,_,rfl,_,eB _ _ _,_,rfl,_,rfl,_,eB _ _ _,_,rfl,_,hS,fun p hp=>?_⟩
    rw[v8,← List.map_drop,← List.map_take,Qn]
    refine⟨n1,fun p2 cP=>?_⟩
    refine C3 (ws:=r.take 1) (us:=[rp]) ((Sub.new cP) _ _ aa) aa (fun z hz=>?_) (by trivial) ⟨_,rfl,aQ (fun h6=>?_) (fun h6=>?_)⟩
    ·refine (hW.2 z ?_).2
     have:=List.mem_of_mem_take hz
     rw[← Qn] at this
     exact List.mem_of_mem_drop this
    ·have h6:r.take 1≠[rp]:=zj (nt h6)
     exact⟨S',(Sub.new hp).trans (.new cP),q2 (Fm h6)⟩
    ·have h6:r.take 1=[rp]:=ze (nf h6)
     obtain⟨r',rfl,h7⟩:=C2 (x:=x) h6
     have q:=q1 x r' h7
     rw[show ((ws.length - r'.length:Nat):Int)=((ws.length - (rp::r').length:Nat):Int)+1 by rw[zb] at RQ ⊢;lia] at q
     exact⟨_,rfl,_,bJ _ _,_,rfl,_,eB _ _ _,n2,S',(Sub.new hp).trans (.new cP),q⟩
mutual
inductive Sd:Nat→Nat→D→Prop
 |eW {n} : Sd (n+1) 1 (.tup [.str "every"])
 |key {n}{ks:List Str} : ks.length≤8→(∀k∈ks,eA k=true)→Sd (n+1) 2 (.tup [.str "key",.tup (ks.map D.str)])
 |col {n w a v} : w∈cj→Tx 8 a→CK v→Sd (n+1) 2 (.tup [.str w,.str a,v])
 |not {n c e} : Sd n c e→Sd (n+1) (c+1) (.tup [.str "not",e])
 |many {n c w es} : w∈bV→uE n c es→Sd (n+1) (c+1) (.tup [.str w,.tup es])
inductive uE:Nat→Nat→List D→Prop
 |nil {n} : uE n 0 []
 |cons {n c c' e es} : Sd n c e→uE n c' es→uE n (c+c') (e::es)
end
theorem uE.snoc:∀{es:List D}{c c':Nat}{e:D},uE n c es→Sd n c' e→uE n (c+c') (es++[e])
 |[],_,c',e,.nil,h=>by rw[Nat.zero_add];exact .cons (c':=0) h .nil
 |x::es,_,c',e,.cons a b,h=>by rw[Nat.add_assoc];exact .cons a (b.snoc h)
theorem l7:∀{xs out:List D},Paired (fun _ v=>∃z:Str,v=.str z∧eA z=true) xs out→∃ks:List Str,out=ks.map D.str∧ks.length=xs.length∧∀k∈ks,eA k=true
 |[],[],_=>⟨[],rfl,rfl,fun k h=>by cases h⟩
 |x::xs,_,.cons ⟨z,e,hz⟩ r=>by
  obtain⟨ks,e1,e2,e3⟩:=l7 r
  exact⟨z::ks,by rw[e,e1];rfl,by rw[zb,zb,e2],zX.mpr ⟨hz,e3⟩⟩
def Qo:jg:=fun ds S R _=>∃l cs,ds=[.ref l,.tup (cs.map bq)]∧Cg cs∧S l=some .well∧∀d c,c≤2→(∀n,Sd (n+1) c d)→R d S
theorem Fn(T:Txt w K mg t):Ok P w base T.nH 4 Qo:=by
 refine T.nH.F.kO fU ?_
 rintro _ _ _ _ _ _ ds S R Z hr ⟨l,cs,e,hg,hw,q⟩
 subst e
 have n0:=sm (show 0≤100000 by decide)
 have n1:=sm (show 1≤100000 by decide)
 have n2:=sm (show 2≤100000 by decide)
 have n3:=sm (show 3≤100000 by decide)
 refine⟨_,(sc (bK (i:=2) fU.nd (cf ((aR T).mono (by decide)) hr T.af.m T.af.k T.af.b d0 (ac (dv 0) (ac di an)))) (sc (si (twd (twor (aT aP hr.units (dv 2) di) (tw1 (twd (twand (aT m9 hr.units (dv 2) di) (tw1 (aT aP hr.units (dv 1) (bD an)))))))) (s1 (sr (bD (ac ds an)))) s0) (sc (si (aT aP hr.units (dv 2) di) (s1 (sr (bD (ac ds (ac (ct fg T.cG bO (ac (pN (N:=["_law_k","_law_well_here"]) (src:=[none,some 0]) (pH (ae ka) ["_law_well_here","_law_columns_here","_law_way","_law_name","_law_kind","_law_value_here"] rfl rfl (by trivial)) (Lf T.iY (ac (cf ((aR T).mono (by decide)) hr T.af.m T.af.k T.af.b d0 (ac (dv 0) (ac (yX (ix hr.units (bt (ac di (ac di an))) (cf ((aR T).mono (by decide)) hr T.af.m T.af.k T.af.b d0 (ac (dv 0) (ac di an))))) an))) an)) (qv (show (["_law_k","_law_well_here"]:List Str).Nodup by trivial)) (ba rfl) bb (fun _ _ _ _ _=>pM) (fun _ _ _ _ _=>(cf ((Iy T).mono (by decide)) hr T.tK.m T.tK.k T.tK.b d0 (ac (dv 1) an)))) an)) an))))) s0) (sc (sa (ix hr.units (dv 1) (cf ((aR T).mono (by decide)) hr T.af.m T.af.k T.af.b d0 (ac (dv 0) (ac (cb aW T.aX aI (ac (dv 1) an)) an)))) (gt (n:=2) (gc (gn (i:=3) fU.nd) (gc (gn (i:=4) fU.nd) g0)))) (sc (bK (i:=5) fU.nd (cf ((CS T).mono (by decide)) hr T.kl.m T.kl.k T.kl.b d0 (ac (dv 0) (ac (dv 4) an)))) (sc (si (twd (twor (aT sE hr.units (dv 2) di) (tw1 (aT qt hr.units (dv 5) dn)))) (s1 (sr (bD (ac ds (ac (dv 3) (ac (dv 5) an)))))) s0) (sc (si (twd (twand (aT aP hr.units (dv 2) di) (tw1 (aT aP hr.units (dv 4) ds)))) (s1 (sr (bD (ac ds (ac (dv 3) (ac (dv 5) an)))))) s0) (s1 (sr (bD (ac (yX (ix hr.units (bt (ac ds (ac ds an))) (bo lR hr.units (dv 2) di))) (ac (dv 3) (ac (dv 5) an))))))))))))),?_⟩
 refine⟨_,rfl,l,_,rfl,(by decide),(by decide),hw,fun way w0 w1=>?_⟩
 have q0:=q _ 1 (by decide) fun n=>Sd.eW (n:=n)
 refine⟨_,rfl,decide (way=0),rfl,aQ (fun h1=>bf ⟨n1,fo q0⟩) (fun h1=>?_)⟩
 have h1:way≠0:=zj h1
 refine⟨_,rfl,decide (1<way),rfl,aQ (fun h2=>?_) (fun h2=>aM ?_)⟩
 ·have h2:1<way:=ze h2
  refine⟨_,rfl,n0,EL (xl hg) ⟨_,rfl,aQ (fun h3=>⟨n1,fo q0⟩) (fun h3=>?_)⟩⟩
  refine⟨_,rfl,false,congrArg D.bl (zh (show ¬ way=1 by lia)),aM ?_⟩
  have D7:0<cs.length:=by
   cases cs with
   |nil=>cases h3
   |cons c cs=>exact Nat.succ_pos _
  have h8:=hg.1.1
  refine⟨_,rfl,_,rfl,_,rfl,_,rfl,l,_,rfl,by rw[za];lia,lM (by rw[za];lia) (by rw[za];lia),hw,fun i i0 i1=>?_⟩
  obtain⟨d,e1,e2⟩:=jW (l:=cs.map bq) i0 i1
  obtain⟨c,hc,rfl⟩:=zC.mp (z0 e2)
  have Uo:=(hg.tx c hc).1
  refine⟨_,e1,_,rfl,rfl,_,_,rfl,_,_,rfl,rfl,?_⟩
  refine⟨_,rfl,_,rfl,l,c.2,rfl,hw,fun v hv _=>?_⟩
  have qc:∀o∈cj,R (.tup [.str o,.str c.1,v]) S:=fun o ho=>q _ 2 (by decide) fun n=>Sd.col (n:=n) ho Uo hv
  refine⟨_,rfl,decide (way<4),rfl,uo (fz v) (fun h=>⟨_,rfl,fz v,rfl,h⟩) (aQ (fun h4=>?_) (fun h4=>?_))⟩
  ·exact⟨_,rfl,_,rfl,n3,fo (qc _ (by decide))⟩
  refine⟨_,rfl,decide (way=7),rfl,fC (decide (c.2 = "word")) (fun h=>⟨_,rfl,_,rfl,h⟩) (aQ (fun h5=>?_) (fun h5=>?_))⟩
  ·exact⟨_,rfl,_,rfl,n3,fo (qc _ (by decide))⟩
  refine⟨n2,fun p hp=>⟨_,rfl,(by decide:(0:Int)<2),dF (Int.emod_nonneg _ (by decide)) (Int.emod_lt_of_pos _ (by decide)) hp fun d hd=>?_⟩⟩
  obtain⟨o,rfl,ho⟩:∃o:Str,d=.str o∧o∈cj:=by
   have hd:d∈[D.str "below",.str "above"]:=hd
   simp only [zc,zw,or_false] at hd
   rcases hd with rfl|rfl
   ·exact⟨_,rfl,by decide⟩
   ·exact⟨_,rfl,by decide⟩
  exact⟨_,rfl,_,rfl,n3,fo (qc o ho)⟩
 ·have h2:¬ 1<way:=zj h2
  obtain rfl:way=1:=by lia
  refine⟨_,rfl,true,rfl,bf ?_⟩
  refine⟨_,rfl,n2,fun p hp=>⟨_,rfl,l,_,rfl,(by decide),(by decide),wl hw hp,fun i i0 i1=>dF i0 i1 hp fun m hm=>?_⟩⟩
  obtain⟨m',rfl,Up,Uq⟩:∃m':Nat,m=.int (m':Int)∧0<m'∧m'≤9:=by
   have hm:m∈[D.int 4,.int 9]:=hm
   simp only [zc,zw,or_false] at hm
   rcases hm with rfl|rfl
   ·exact⟨4,rfl,by decide,by decide⟩
   ·exact⟨9,rfl,by decide,by decide⟩
  refine⟨l,_,rfl,by lia,lM (by lia) (by lia),hw,fun j j0 j1=>⟨j,rfl,by lia,by lia,?_⟩⟩
  refine iI (fun _ v=>∃z:Str,v=.str z∧eA z=true) trivial (by show (jZ 0 j.toNat).length≤_;rw[fJ];lia) (fun d hd Q hQ=>?_) fun out ho p2 cP=>?_
  ·exact⟨_,rfl,l,rfl,hw,fun z hz=>hQ _ ⟨z,rfl,hz⟩⟩
  ·obtain⟨ks,rfl,hl,L7⟩:=l7 ho
   have hl:ks.length=j.toNat:=hl.trans fJ
   exact⟨_,_,rfl,.inl aa,n2,S,.new cP,q _ 2 (by decide) fun n=>Sd.key (n:=n) (by lia) L7⟩
def L8(n:Nat):jg:=fun ds S R _=>∃(l:Addr) (cs:List (Str×Str)) (p:Addr) (r:Nat),ds=[.ref l,.tup (cs.map bq),.int ((n:Nat):Int),.ref p]∧1≤n∧Cg cs∧S l=some .well∧S p=some (.lst [.int ((r:Nat):Int)])∧1≤r ∧
 ∀(d:D) (c k:Nat),1≤k→k≤r→c≤2 * k→Sd n c d→R d (S.set p (.lst [.int ((r - k:Nat):Int)]))
theorem n_(T:Txt w K mg t):∀n,Ok P w base T.bZ (5+n) (L8 n)
 |0=>by
  refine T.bZ.F.kO (k:=4) eR ?_
  rintro _ _ _ _ _ _ ds S R Z hr ⟨l,cs,p,r,e,h1,_⟩
  exact absurd h1 (by decide)
 |n+1=>by
  refine T.bZ.F.kO (k:=5+n) eR ?_
  rintro _ _ _ _ _ _ ds S R Z hr ⟨l,cs,p,r,e,h1,hg,hw,hp,RS,q⟩
  subst e
  have n0:=sm (show 0≤100000 by decide)
  have n1:=sm (show 1≤100000 by decide)
  have n2:=sm (show 2≤100000 by decide)
  have n3:=sm (show 3≤100000 by decide)
  have RT:l≠p:=fun e=>by rw[e,hp] at hw;cases hw
  refine⟨_,(sc (Pl (dv 3) di (bo jf hr.units (ix hr.units (dv 3) di) di)) (sc (bK (i:=4) eR.nd (cf ((aR T).mono (by lia)) hr T.af.m T.af.k T.af.b d0 (ac (dv 0) (ac di an)))) (sc (si (twd (twor (aT aP hr.units (dv 2) di) (tw1 (aT sE hr.units (dv 4) di)))) (s1 (sr (cf ((Fn T).mono (by lia)) hr T.nH.m T.nH.k T.nH.b d0 (ac (dv 0) (ac (dv 1) an))))) s0) (sc (si (aT aP hr.units (dv 4) di) (sc (si (aT sE hr.units (ix hr.units (dv 3) di) di) (s1 (sr (bD (ac ds (ac (bD (ac ds an)) an))))) s0) (s1 (sr (bD (ac ds (ac (cf ((n_ T n).mono (by lia)) hr T.bZ.m T.bZ.k T.bZ.b d0 (ac (dv 0) (ac (dv 1) (ac (bo jf hr.units (dv 2) di) (ac (dv 3) an))))) an)))))) s0) (sc (bK (i:=5) eR.nd (bt an)) (sc (sJ (FU (Lf T.iY (ac (cf ((aR T).mono (by lia)) hr T.af.m T.af.k T.af.b d0 (ac (dv 0) (ac (yX (ix hr.units (bt (ac di (ac di (ac di an)))) (cf ((aR T).mono (by lia)) hr T.af.m T.af.k T.af.b d0 (ac (dv 0) (ac di an))))) an))) an)) (gn (i:=6) eR.nd) (s1 (si (aT m9 hr.units (ix hr.units (dv 3) di) di) (s1 (se (bm zN yb yc dJ (dv 5) (ac (cf ((n_ T n).mono (by lia)) hr T.bZ.m T.bZ.k T.bZ.b d0 (ac (dv 0) (ac (dv 1) (ac (bo jf hr.units (dv 2) di) (ac (dv 3) an))))) an)))) s0)))) (s1 (sr (bD (ac (yX (ix hr.units (bt (ac ds (ac ds an))) (bo lR hr.units (dv 4) di))) (ac (ct fg T.cG bO (ac (dv 5) an)) an))))))))))),?_⟩
  refine⟨_,rfl,_,_,hp,bJ _ _,_,rfl,p,_,0,0,rfl,rfl,hp,rfl,?_⟩
  rw[show ([D.int ((r:Nat):Int)]:List D).set 0 (D.int (((r:Nat):Int) - 1))=[.int ((r - 1:Nat):Int)] by show [D.int _]=_;rw[show ((r:Nat):Int) - 1=((r - 1:Nat):Int) by lia]]
  have IB:(S.set p (.lst [.int ((r - 1:Nat):Int)])) l=some .well:=(ak RT).trans hw
  refine⟨_,rfl,l,_,rfl,(by decide),(by decide),IB,fun way w0 w1=>?_⟩
  have ja:(S.set p (.lst [.int ((r - 1:Nat):Int)])) p=some (.lst [.int ((r - 1:Nat):Int)]):=aa
  refine⟨_,rfl,decide (((n+1:Nat):Int)=1),rfl,uo (decide (way<3)) (fun h=>⟨_,rfl,decide (way<3),rfl,h⟩) (aQ (fun h2=>?_) (fun h2=>?_))⟩
  ·exact⟨_,rfl,_,rfl,l,cs,rfl,hg,IB,fun d c hc hd=>fo (q d c 1 (by decide) RS (by lia) (hd n))⟩
  rw[Bool.or_eq_false_iff] at h2
  have M_:¬ ((n+1:Nat):Int)=1:=zj h2.1
  have Wt:¬ way<3:=zj h2.2
  have RU:1≤n:=by lia
  have en:((n+1:Nat):Int) - 1=((n:Nat):Int):=by lia
  refine⟨_,rfl,decide (way=3),rfl,aQ (fun h3=>?_) (fun h3=>?_)⟩
  ·refine⟨_,rfl,_,_,ja,bJ _ _,_,rfl,aQ (fun h4=>?_) (fun h4=>?_)⟩
   ·refine⟨n1,n2,fo (q _ 2 1 (by decide) RS (by decide) ?_)⟩
    obtain⟨m,rfl⟩:∃m,n=m+1:=⟨n - 1,by lia⟩
    exact .not .eW
   ·have h4:¬ ((r - 1:Nat):Int)<1:=zj h4
    refine⟨_,rfl,_,rfl,_,rfl,_,rfl,l,cs,p,r - 1,by rw[en];rfl,RU,hg,IB,ja,by lia,fun d c k k1 k2 hc hd=>⟨n2,?_⟩⟩
    have:=q _ (c+1) (k+1) (by lia) (by lia) (by lia) (.not hd)
    rw[eC,show r - 1 - k=r - (k+1) by lia]
    exact fo this
  refine⟨n0,fun a ha=>?_⟩
  have Qp:a≠p:=fun e=>by rw[e,aa] at ha;cases ha
  have Ur:S a=none:=(ak Qp).symm.trans ha
  have Ay:a≠l:=fun e=>by rw[e,IB] at ha;cases ha
  refine⟨fun aw S'=>∃(es:List D) (c k:Nat) (o6:Option D),aw=[some (.ref l),some (.tup (cs.map bq)),some (.int ((n+1:Nat):Int)),some (.ref p),some (.int way),some (.ref a),o6]∧Sub (S.set p (.lst [.int ((r - 1 - k:Nat):Int)])) S'∧S' a=some (.lst es)∧uE n c es∧c≤2 * k∧k≤r - 1,?_,?_⟩
  ·refine⟨_,rfl,n3,fun p1 jk=>⟨_,rfl,l,_,rfl,(by decide),(by decide),wl ((ak (Ne.symm Ay)).trans IB) jk,fun i i0 i1=>dF i0 i1 jk fun m hm=>?_⟩⟩
   obtain⟨m',rfl,Up,Uq⟩:∃m':Nat,m=.int (m':Int)∧0<m'∧m'≤9:=by
    have hm:m∈[D.int 4,.int 4,.int 9]:=hm
    simp only [zc,zw,or_false] at hm
    rcases hm with rfl|rfl|rfl
    ·exact⟨4,rfl,by decide,by decide⟩
    ·exact⟨4,rfl,by decide,by decide⟩
    ·exact⟨9,rfl,by decide,by decide⟩
   refine⟨l,_,rfl,by lia,lM (by lia) (by lia),(ak (Ne.symm Ay)).trans IB,fun j j0 j1=>⟨j,rfl,by lia,by lia,?_⟩⟩
   refine⟨fun i aw S'=>∃(es:List D) (c k:Nat) (o6:Option D),aw=[some (.ref l),some (.tup (cs.map bq)),some (.int ((n+1:Nat):Int)),some (.ref p),some (.int way),some (.ref a),o6]∧Sub (S.set p (.lst [.int ((r - 1 - k:Nat):Int)])) S'∧S' a=some (.lst es)∧es.length≤i∧uE n c es∧c≤2 * k∧k≤r - 1,⟨[],0,0,none,rfl,.new ha,aa,zi _,.nil,zi _,yj _⟩,fun _ _ _ _=>trivial,?_,?_⟩
   ·rintro i d aw S' hd ⟨es,c,k,o6,rfl,sb,tX,Us,AI,L9,Nj⟩
    have hd:(jZ 0 j.toNat)[i]?=some d:=hd
    obtain⟨hi,rfl⟩:=hG hd
    have M0:S' p=some (.lst [.int ((r - 1 - k:Nat):Int)]):=sb _ _ aa
    refine⟨_,rfl,_,_,M0,bJ _ _,_,rfl,aQ (fun h4=>?_) (fun h4=>?_)⟩
    ·have h4:(0:Int)<((r - 1 - k:Nat):Int):=ze h4
     have Jy:S' l=some .well:=sb _ _ ((ak RT).trans hw)
     refine⟨_,rfl,⟨rfl,_,tX⟩,_,rfl,_,rfl,_,rfl,_,rfl,l,cs,p,r - 1 - k,by rw[en];rfl,RU,hg,Jy,M0,by lia,fun d c2 k2 a1 a2 a3 a4=>?_⟩
     have Qq:(S'.set p (.lst [.int ((r - 1 - k - k2:Nat):Int)])) a=some (.lst es):=(ak Qp).trans tX
     refine⟨a,_,_,rfl,rfl,Qq,gz (by lia),es++[d],c+c2,k+k2,_,rfl,?_,aa,by rw[zg];show es.length+1≤_;lia,AI.snoc a4,by lia,by lia⟩
     rw[show r - 1 - (k+k2)=r - 1 - k - k2 by lia]
     intro b x hb
     by_cases Nk:b=p
     ·subst Nk
      rw[aa] at hb
      rw[ak (Ne.symm Qp),aa];exact hb
     ·rw[ak Nk] at hb
      have Ut:b≠a:=fun e=>by rw[e,Ur] at hb;cases hb
      rw[ak Ut,ak Nk]
      exact sb b x ((ak Nk).trans hb)
    ·exact⟨es,c,k,_,rfl,sb,tX,by lia,AI,L9,Nj⟩
   ·rintro aw S' ⟨es,c,k,o6,rfl,sb,tX,Us,AI,L9,Nj⟩
    exact fo ⟨es,c,k,_,rfl,sb,tX,AI,L9,Nj⟩
  ·rintro aw S' ⟨es,c,k,o6,rfl,sb,tX,AI,L9,Nj⟩
   refine⟨n2,fun p1 jk=>⟨_,rfl,(by decide:(0:Int)<2),dF (Int.emod_nonneg _ (by decide)) (Int.emod_lt_of_pos _ (by decide)) jk fun d hd=>?_⟩⟩
   obtain⟨o,rfl,ho⟩:∃o:Str,d=.str o∧o∈bV:=by
    have hd:d∈[D.str "and",.str "or"]:=hd
    simp only [zc,zw,or_false] at hd
    rcases hd with rfl|rfl
    ·exact⟨_,rfl,by decide⟩
    ·exact⟨_,rfl,by decide⟩
   have:=q _ (c+1) (k+1) (by lia) (by lia) (by lia) (.many ho AI)
   rw[show r - (k+1)=r - 1 - k by lia] at this
   exact⟨_,rfl,_,_,rfl,.inl tX,n2,_,sb,this⟩
theorem C4(h:CK d):Tx 81 (my d):=by
 refine⟨?_,(Il h).2.1⟩
 rcases h with rfl|⟨n,rfl,hn⟩|⟨z,rfl,hz⟩
 ·decide +kernel
 ·have:=j5 hn
  rw[ag,i5,zb,← ag];lia
 ·have:=kD z
  have:=(eV hz).1
  rw[ag,eU,zb,← ag];lia
theorem C5(h:eA z=true):Tx 12 z:=by
 unfold eA at h
 simp only [zm,zx,zS] at h
 refine⟨by lia,cg.mpr fun c hc=>?_⟩
 have:=h.2 c hc
 unfold isLet cA at this
 simp only [Bool.or_eq_true,zm,zx] at this
 lia
theorem L_(h:∀u∈us,Tx m u):i_ us≤us.length * (m+1):=by
 have:=Ib (l:=us) (n:=m) fun u hu=>(h u hu).1
 unfold i_
 rw[Nat.mul_add];lia
theorem fu(h:Tx n z)(k:i_ us≤B):i_ (z::us)≤n+1+B:=by
 have e:=nV [z] us
 have h1:=vR z
 have h2:=h.1
 have h3:z.length=z.cps.size:=rfl
 show i_ ([z]++us)≤_
 lia
theorem Sd.c1(h:Sd n c d):1≤c:=by cases h <;> lia
theorem xA{w:Str}(h:w∈bV):w = "and" ∨ w = "or" := by simpa [bV] using h
theorem Sd.Qr(h:Sd n c d)(e:d=.tup [.str "key",x]):c=2:=by
 have hd:∀{o:Str}{r:List D},D.tup (.str o::r)=.tup [.str "key",x]→o = "key" := fun e=>D.str.inj (List.cons.inj (D.tup.inj e)).1
 cases h with
 |eW=>cases e
 |key _ _=>rfl
 |col hw _ _=>cases e
 |not _=>exact absurd (hd e) (by trivial)
 |many hw _=>rw[hd e] at hw;exact absurd hw (by trivial)
theorem Sd.Qs(h:Sd (n+1) c d)(e:d=.tup [.str "not",x]):∃c2,c=c2+1∧Sd n c2 x:=by
 have hd:∀{o:Str}{r:List D},D.tup (.str o::r)=.tup [.str "not",x]→o = "not" := fun e=>D.str.inj (List.cons.inj (D.tup.inj e)).1
 cases h with
 |eW=>cases e
 |key _ _=>exact absurd (hd e) (by trivial)
 |col hw _ _=>cases e
 |not h=>cases e;exact⟨_,rfl,h⟩
 |many hw _=>rw[hd e] at hw;exact absurd hw (by trivial)
theorem Sd.Ma(ho:o∈bV)(h:Sd (n+1) c d)(e:d=.tup [.str o,.tup es]):∃c2,c=c2+1∧uE n c2 es:=by
 have hd:∀{o':Str}{r:List D},D.tup (.str o'::r)=.tup [.str o,.tup es]→o'=o:=fun e=>D.str.inj (List.cons.inj (D.tup.inj e)).1
 cases h with
 |eW=>cases e
 |key _ _=>rw[← hd e] at ho;exact absurd ho (by trivial)
 |col hw _ _=>cases e
 |not h=>rw[← hd e] at ho;exact absurd ho (by trivial)
 |many hw h=>cases e;exact⟨_,rfl,h⟩
theorem oa:∀{es out:List D}{c:Nat},uE n c es→Paired (fun e v=>∃z:Str,v=.str z∧PyData.strOk z=true∧∀c,Sd n c e→Tx (60 * c - 1) z) es out→∃zs:List Str,out=zs.map D.str∧zs.length=es.length∧(∀z∈zs,PyData.strOk z=true)∧∀c,uE n c es→i_ zs≤60 * c
 |[],_,c,_,.nil=>⟨[],rfl,rfl,fun z h=>(nomatch h),fun c _=>yj _⟩
 |e::es,_,_,.cons _ h,.cons ⟨z,e1,hz,hc⟩ r=>by
  obtain⟨zs,h1,h2,h3,h4⟩:=oa h r
  refine⟨z::zs,by rw[e1,h1];rfl,by rw[zb,zb,h2],zX.mpr ⟨hz,h3⟩,fun c h=>?_⟩
  cases h with
  |cons a b =>
   have k1:=hc _ a
   have k2:=h4 _ b
   have k3:=fu k1 k2
   have:=a.c1
   lia
theorem uE.len:∀{c:Nat}{es:List D},uE n c es→es.length≤c
 |_,[],.nil=>zi _
 |_,e::es,.cons a b=>by have:=b.len;have:=a.c1;rw[zb];lia
theorem uE.mem:∀{c:Nat}{es:List D},uE n c es→∀{e:D},e∈es→∃c2,Sd n c2 e∧c2≤c
 |_,_::es,.cons a b,e,h=>by
  rcases zc.mp h with rfl|h
  ·exact⟨_,a,by lia⟩
  ·obtain⟨c2,h1,h2⟩:=b.mem h
   exact⟨c2,h1,by lia⟩
def Mb(n:Nat):jg:=fun ds S R _=>∃(d:D) (c:Nat),ds=[d]∧Sd n c d∧c≤120∧∀z:Str,PyData.strOk z=true→(∀c,Sd n c d→Tx (60 * c - 1) z)→R (.str z) S
theorem fF(T:Txt w K mg t):∀n,Ok P w base T.aJ (2+n) (Mb n)
 |0=>by
  refine T.aJ.F.kO (k:=1) bw ?_
  rintro _ _ _ _ _ _ ds S R Z hr ⟨d,c,e,h1,_⟩
  exact absurd h1 (by rintro⟨⟩)
 |n+1=>by
  refine T.aJ.F.kO (k:=2+n) bw ?_
  rintro _ _ _ _ _ _ ds S R Z hr ⟨d,c0,e,AI,Wu,q⟩
  subst e
  have n1:=sm (show 1≤100000 by decide)
  have n2:=sm (show 2≤100000 by decide)
  have n4:=sm (show 4≤100000 by decide)
  obtain⟨o,rest,rfl⟩:∃(o:Str) (rest:List D),d=.tup (.str o::rest):=by cases AI <;> exact⟨_,_,rfl⟩
  refine⟨_,(sc (bK (i:=1) bw.nd (bt (ac (ix hr.units (dv 0) di) an))) (sc (sJ (si (aT qu hr.units (ix hr.units (dv 0) di) (bD (ac ds (ac ds (ac ds (ac ds an)))))) (s1 (bK (i:=1) bw.nd (bo aj hr.units (dv 1) (bt (ac (ix hr.units (dv 0) di) (ac (cf ((mz T).mono (by lia)) hr T.cY.m T.cY.k T.cY.b d0 (ac (ix hr.units (dv 0) di) an)) an)))))) (s1 (si (aT aP hr.units (ix hr.units (dv 0) di) ds) (s1 (bK (i:=1) bw.nd (bo aj hr.units (dv 1) (ct HE T.Ia D_ (ac (ix hr.units (dv 0) di) an))))) (s1 (si (aT aP hr.units (ix hr.units (dv 0) di) ds) (s1 (se (bm zN yb yc dJ (dv 1) (ac (cf ((fF T n).mono (by lia)) hr T.aJ.m T.aJ.k T.aJ.b d0 (ac (ix hr.units (dv 0) di) an)) an)))) (s1 (si (aT ju hr.units (ix hr.units (dv 0) di) ds) (s1 (bK (i:=1) bw.nd (bo aj hr.units (dv 1) (pN (N:=["_law_one"]) (src:=[none]) (pH (ae cU) ["_law_sieve_here","_law_words"] rfl rfl (by trivial)) (Jk (ix hr.units (dv 0) di)) (qv (show (["_law_one"]:List Str).Nodup by trivial)) (ba rfl) bb (fun _ _ _ _ _=>pM) (fun _ _ _ _ _=>(cf ((fF T n).mono (by lia)) hr T.aJ.m T.aJ.k T.aJ.b d0 (ac (dv 0) an))))))) s0)))))))) (s1 (sr (bo aj hr.units (bo aj hr.units ds (bm zH yh yi hV ds (ac (dv 1) an))) ds))))),?_⟩
  refine⟨_,rfl,_,bJ _ _,n1,fun p hp=>?_⟩
  have b1:Sub S (S.set p (.lst [.str o])):=.new hp
  have v1:(S.set p (.lst [.str o])) p=some (.lst [.str o]):=aa
  generalize S.set p (.lst [.str o])=S1 at b1 v1 ⊢
  have cut:∀{A:Prop},(A→Prop)→True:=fun _=>trivial
  refine⟨fun aw S'=>∃(a:Addr) (us:List Str),aw=[some (.tup (.str o::rest)),some (.ref a)]∧Sub S S'∧S' a=some (.lst (us.map D.str))∧(∀u∈us,PyData.strOk u=true)∧∀c,Sd (n+1) c (.tup (.str o::rest))→i_ us+5≤60 * c,?_,?_⟩
  ·have jK:gT (.str o::rest) 0=some (.str o):=bJ _ _
   cases AI with
   |eW =>
    refine⟨_,rfl,_,jK,n4,rfl,rfl,_,rfl,gQ (by trivial) ⟨_,rfl,_,jK,_,rfl,gQ (by trivial) ⟨_,rfl,_,jK,_,rfl,gQ (by trivial) ⟨_,rfl,_,jK,_,rfl,gQ (by trivial) (fo ⟨p,["every"],rfl,b1,v1,by trivial,fun c h=>?_⟩)⟩⟩⟩⟩
    cases h;decide +kernel
   |@key _ ks hk8 L7 =>
    refine⟨_,rfl,_,jK,n4,rfl,rfl,_,rfl,gQ (by trivial) ⟨_,rfl,_,jK,_,rfl,vH (by trivial) ?_⟩⟩
    refine⟨_,rfl,_,rfl,_,eB _ _ _,_,_,rfl,.inr rfl,fun p2 cP=>⟨_,_,(Sub.new cP) _ _ v1,aa,sm (by show 1+(ks.map D.str).length≤_;rw[za];lia),fun p3 gJ=>?_⟩⟩
    have Uu:∀u∈("key" : Str)::ks,Tx 12 u:=zX.mpr ⟨⟨by trivial,by trivial⟩,fun k hk=>C5 (L7 k hk)⟩
    refine fo ⟨p3, "key" :: ks,rfl,b1.trans ((Sub.new cP).trans (.new gJ)),aa,fun u hu=>(Uu u hu).2,fun c h=>?_⟩
    have Uv:=fu (z := "key") (n:=3) ⟨by trivial,by trivial⟩ (L_ (us:=ks) fun k hk=>C5 (L7 k hk))
    have:ks.length * (12+1)≤8 * 13:=Nat.mul_le_mul_right _ hk8
    have:=h.Qr rfl
    lia
   |@col _ _ a0 v0 hw ha hv =>
    refine⟨_,rfl,_,jK,n4,rfl,rfl,decide (o∈cj),congrArg D.bl (rC o),vH (zr hw) ?_⟩
    refine⟨_,rfl,_,rfl,_,eB _ _ _,_,rfl,_,rfl,v0,rfl,hv,n2,fun p2 cP=>⟨_,_,(Sub.new cP) _ _ v1,aa,sm (show 3≤100000 by decide),fun p3 gJ=>?_⟩⟩
    have RV:Tx 6 o:=by
     simp only [cj,zc,zw,or_false] at hw
     rcases hw with rfl|rfl|rfl|rfl <;> exact⟨by trivial,by trivial⟩
    have Uv:=fu RV (fu ha (fu (us:=[]) (B:=0) (C4 hv) (zi _)))
    refine fo ⟨p3,[o,a0,my v0],rfl,b1.trans ((Sub.new cP).trans (.new gJ)),aa,fun u hu=>?_,fun c h=>?_⟩
    ·simp only [zc,zw,or_false] at hu
     rcases hu with rfl|rfl|rfl
     ·exact RV.2
     ·exact ha.2
     ·exact (C4 hv).2
    ·have:c=2:=by cases h;rfl
     lia
   |@not _ c1 e1 he =>
    refine⟨_,rfl,_,jK,n4,rfl,rfl,_,rfl,gQ (by trivial) ⟨_,rfl,_,jK,_,rfl,gQ (by trivial) ⟨_,rfl,_,jK,_,rfl,vH (by trivial) ?_⟩⟩⟩
    refine⟨_,rfl,⟨rfl,_,v1⟩,_,rfl,_,eB _ _ _,e1,c1,rfl,he,by lia,fun z hz hc=>⟨p,_,_,rfl,rfl,v1,gz (by decide),?_⟩⟩
    refine fo ⟨p,["not",z],rfl,gE b1 hp,aa,fun u hu=>?_,fun c h=>?_⟩
    ·simp only [zc,zw,or_false] at hu
     rcases hu with rfl|rfl
     ·decide +kernel
     ·exact hz
    ·obtain⟨c2,rfl,h2⟩:=h.Qs rfl
     have:=h2.c1
     have:=fu (z := "not") (n:=3) ⟨by trivial,by trivial⟩ (fu (us:=[]) (B:=0) (hc c2 h2) (zi _))
     lia
   |@many _ c1 _ es hw tX =>
    obtain⟨a1,a2,a3,a4⟩:o∉cj∧o ≠ "key" ∧ o ≠ "not" ∧ o ≠ "every" := by
     rcases xA hw with rfl|rfl <;> exact⟨by trivial,by trivial,by trivial,by trivial⟩
    refine⟨_,rfl,_,jK,n4,rfl,rfl,decide (o∈cj),congrArg D.bl (rC o),gQ (zh a1) ⟨_,rfl,_,jK,_,rfl,gQ (zh a2) ⟨_,rfl,_,jK,_,rfl,gQ (zh a3) ⟨_,rfl,_,jK,_,rfl,vH (by show (!decide (o = "every"))=true;rw[zh a4];rfl) ?_⟩⟩⟩⟩
    have hl:=tX.len
    refine⟨_,rfl,_,rfl,_,eB _ _ _,_,.inl rfl,?_⟩
    refine iI (fun e v=>∃z:Str,v=.str z∧PyData.strOk z=true∧∀c,Sd n c e→Tx (60 * c - 1) z) trivial (by show es.length≤_;lia) (fun e he Q hQ=>?_) fun out ho p2 cP=>?_
    ·obtain⟨c2,h2,h3⟩:=tX.mem he
     exact⟨_,rfl,e,c2,rfl,h2,by lia,fun z hz hc=>hQ _ ⟨z,rfl,hz,hc⟩⟩
    obtain⟨zs,rfl,RB,Uw,Ux⟩:=oa tX ho
    refine⟨_,_,(Sub.new cP) _ _ v1,aa,sm (by show 1+(zs.map D.str).length≤_;rw[za];lia),fun p3 gJ=>?_⟩
    have RW:Tx 3 o:=by rcases xA hw with rfl|rfl <;> exact⟨by trivial,by trivial⟩
    refine fo ⟨p3,o::zs,rfl,b1.trans ((Sub.new cP).trans (.new gJ)),aa,zX.mpr ⟨RW.2,Uw⟩,fun c h=>?_⟩
    obtain⟨c2,rfl,h2⟩:=h.Ma hw rfl
    have:=fu RW (Ux c2 h2)
    lia
  ·rintro aw S' ⟨a,us,rfl,sb,MB,Na,Ip⟩
   have Nb:=Ip c0 AI
   obtain⟨j1,j2⟩:=rA (us:=us) (B:=i_ us) Na (zi _) (by lia)
   have Wv:(Txt.join " " us).length≤7200:=by have:=j2.1;show (Txt.join " " us).cps.size≤_;lia
   refine⟨rfl,_,rfl, " ",us,_,rfl,rfl,MB,j1,sm (by show 2+_≤_;lia),?_⟩
   have t1:Tx 2 ("( " : Str):=⟨by trivial,by trivial⟩
   have t2:Tx 2 (" )" : Str):=⟨by trivial,by trivial⟩
   have t3:=(t1.app j2).app t2
   refine⟨sm (by show (("( " : Str)++Txt.join " " us).cps.size+2≤_;have:=(t1.app j2).1;lia),S,sb,q _ t3.2 fun c h=>t3.le ?_⟩
   have:=Ip c h
   lia
theorem uv:∀(u r:List Str),md (u++r)=max (md u) (dp u+md r)
 |[],r=>by have:=dk r;show md r=max 0 (0+md r);lia
 |w::u,r=>by
  have:=uv u r
  show max 0 (dl w+md (u++r))=max (max 0 (dl w+md u)) (dl w+dp u+md r)
  lia
theorem v_:∀{ks:List Str},(∀k∈ks,Pw k)→md ks=0
 |[],_=>rfl
 |k::ks,h=>by rw[nY (h k zf),v_ fun x hx=>h x (zd _ hx)]
theorem IG{w:Str}(h:Pw w)(r:List Str):(w::r).count lp=r.count lp:=by
 rw[List.count_cons,if_neg (by simpa using h.1)];rfl
theorem xB{ks:List Str}(h:∀k∈ks,Pw k):ks.count lp=0:=List.count_eq_zero.mpr fun m=>(h _ m).1 rfl
theorem Mc:md [rp]=0:=by decide
theorem IH(h:nX u):md (u++[rp])=md u:=by
 rw[uv,h.1,Mc]
 have:=dk u
 lia
section
variable{iv:Str→Bool}{vo:Str→D}
theorem frame{w:Str}(hw:Pw w)(h:nX u):(lp::w::(u++[rp])).count lp=1+u.count lp∧md (lp::w::(u++[rp]))=1+md u:=by
 constructor
 ·rw[List.count_cons,if_pos (by simp),IG hw,List.count_append,show [rp].count lp=0 by decide];lia
 ·rw[gL,nY hw,IH h]
theorem wc(w a:Str)(v:D):subs (.tup [.str w,.str a,v])=[]:=rfl
theorem uw(x:D):subs (.tup [.str "key",x])=[]:=by
 unfold subs
 dsimp only
 rw[if_neg (by decide),if_neg (by decide)]
theorem Wr.next{t:D}{ws:List Str}(h:Wr iv vo t ws):∃us,kP iv vo (subs t) us∧ws.count lp=1+us.count lp∧My.md ws=1+My.md us:=by
 cases h with
 |eW=>exact⟨[],.nil,by decide,by decide⟩
 |@col w n v hw hn hp hv =>
  have e:∀k∈[n,v],Pw k:=fun k hk=>by
   simp only [zc,zw,or_false] at hk
   rcases hk with rfl|rfl
   ·exact hn
   ·exact hp
  obtain⟨f1,f2⟩:=frame (u:=[n,v]) (pw_col hw) (.words e)
  exact⟨[],.nil,by rw[show [lp,w,n,v,rp]=lp::w::([n,v]++[rp]) from rfl,f1,xB e];rfl,by rw[show [lp,w,n,v,rp]=lp::w::([n,v]++[rp]) from rfl,f2,v_ e];rfl⟩
 |key hk =>
  obtain⟨f1,f2⟩:=frame pw_key (.words hk)
  refine⟨[],?_,by rw[f1,xB hk];rfl,by rw[f2,v_ hk];rfl⟩
  rw[uw];exact .nil
 |@not t u h =>
  obtain⟨f1,f2⟩:=frame pw_not h.Ax.lvl
  refine⟨u,?_,f1,f2⟩
  rw[kC]
  have:=kP.cons h .nil
  rw[zE] at this
  exact this
 |@many w ts u hw h =>
  obtain⟨f1,f2⟩:=frame (pw_andor hw) h.lvl
  refine⟨u,?_,f1,f2⟩
  rw[kB (xA hw)]
  exact h
theorem kP.app:kP iv vo a u→kP iv vo b v→kP iv vo (a++b) (u++v):=by
 intro h k
 induction a generalizing u with
 |nil=>cases h;exact k
 |cons x a ih=>cases h with|cons p q=>rw[zI];exact .cons p (ih q)
theorem kP.next:∀{es:List D}{ws:List Str},kP iv vo es ws→∃us,kP iv vo (es.flatMap subs) us∧ws.count lp=es.length+us.count lp∧(es≠[]→My.md ws=1+My.md us)∧(es=[]→us=[])
 |[],_,.nil=>⟨[],.nil,rfl,fun h=>absurd rfl h,fun _=>rfl⟩
 |e::es,_,.cons (ws:=wa) (vs:=wb) a b=>by
  obtain⟨ua,a1,a2,a3⟩:=a.next
  obtain⟨ub,b1,b2,b3,b4⟩:=b.next
  refine⟨ua++ub,a1.app b1,by rw[List.count_append,List.count_append,zb,a2,b2];lia,fun _=>?_,fun h=>by cases h⟩
  rw[uv,uv,a.Ax.1,a1.lvl.1,a3]
  by_cases he:es=[]
  ·subst he
   cases b
   rw[b4 rfl]
   have:=dk ua
   show max (1+My.md ua) (0+0)=1+max (My.md ua) (0+0)
   lia
  ·rw[b3 he]
   have:=dk ua
   have:=dk ub
   lia
end
def ox(cs:List (Str×Str)):Nat→D→Bool
 |0,_=>false
 |n+1,d=>gR cs d && (subs d).all (ox cs n)
theorem ux(cs:List (Str×Str))(n:Nat):∀es:List D,es.all (ox cs (n+1))=(es.all (gR cs) && (es.flatMap subs).all (ox cs n))
 |[]=>rfl
 |e::es=>by
  rw[zY,zY,yq,List.all_append,ux cs n es]
  show (gR cs e && (subs e).all (ox cs n) && _)=_
  cases gR cs e <;> cases (subs e).all (ox cs n) <;> cases es.all (gR cs) <;> rfl
theorem wd(cs:List (Str×Str)):∀(n p:Nat) (es:List D) (ws:List Str),kP iv vo es ws→p≤200→(vK cs n p es=true↔md ws≤((n:Nat):Int)∧p+ws.count lp≤200∧es.all (ox cs n)=true)
 |n,p,[],_,.nil,hp=>by
  rw[CJ]
  exact⟨fun _=>⟨by show (0:Int)≤_;lia,hp,rfl⟩,fun _=>rfl⟩
 |0,p,e::es,ws,h,hp=>by
  obtain⟨us,h1,h2,h3,h4⟩:=h.next
  have:=dk us
  have h3:=h3 (List.cons_ne_nil _ _)
  constructor
  ·intro k;cases k
  ·rintro⟨k,_⟩;lia
 |n+1,p,e::es,ws,h,hp=>by
  obtain⟨us,h1,h2,h3,h4⟩:=h.next
  have h3:=h3 (List.cons_ne_nil _ _)
  rw[ux]
  generalize hl:e::es=l at *
  have LL:¬ l.length=0:=by rw[← hl,zb];lia
  unfold vK
  rw[if_neg LL,zm,zm,zm,zx]
  constructor
  ·rintro⟨k1,k2,k3⟩
   obtain⟨j1,j2,j3⟩:=(wd cs n (p+l.length) _ us h1 k1).mp k3
   exact⟨by lia,by lia,k2,j3⟩
  ·rintro⟨j1,j2,k2,j3⟩
   exact⟨by lia,k2,(wd cs n (p+l.length) _ us h1 (by lia)).mpr ⟨by lia,by lia,j3⟩⟩
theorem C6(cs:List (Str×Str)){t:D}(h:Wr iv vo t ws):vK cs 8 0 [t]=true↔md ws≤8∧ws.count lp≤200∧ox cs 8 t=true:=by
 have k:=kP.cons h .nil
 rw[zE] at k
 have:=wd cs 8 0 [t] ws k (by decide)
 rw[this,zY,List.all_nil,yD,Nat.zero_add]
 rfl
theorem Fp(hg:Gd cs)(z:Str):(yO cs (.str z)=.aK∧dI (dQ (cs.map fun c=>(c.1,D.str c.2))) (.inr z)=none)∨∃k,yO cs (.str z)=.str k∧(k = "number" ∨ k = "word")∧dI (dQ (cs.map fun c=>(c.1,D.str c.2))) (.inr z)=some (.str k):=by
 have h1:=pR (cs.map fun c=>(c.1,D.str c.2)) z
 cases q3:dI (dQ (cs.map fun c=>(c.1,D.str c.2))) (.inr z) with
 |none =>
  rw[q3] at h1
  refine .inl ⟨rn fun m=>?_,rfl⟩
  obtain⟨c,hc,e⟩:=zC.mp m
  have:(cs.map fun c=>(c.1,D.str c.2)).any (fun p=>decide (p.1=z))=true:=List.any_eq_true.mpr ⟨_,zC.mpr ⟨c,hc,rfl⟩,zr e⟩
  rw[this] at h1;cases h1
 |some d =>
  obtain⟨p,hp,e1,rfl⟩:=kA _ _ q3
  obtain⟨c,hc,rfl⟩:=zC.mp hp
  have e1:c.1=z:=e1
  exact .inr ⟨c.2,Cy hg (k:=c.2) (by rw[← e1];exact hc),(hg.2.2 c hc).2,rfl⟩
theorem kP.mem:∀{ts:List D}{us:List Str},kP iv vo ts us→∀{e:D},e∈ts→∃ws,Wr iv vo e ws∧My.md ws≤My.md us∧ws.length≤us.length∧∀w∈ws,w∈us
 |t::ts,_,.cons (ws:=u) (vs:=v) a b,e,h=>by
  have hm:=uv u v
  rw[a.Ax.1] at hm
  rcases zc.mp h with rfl|h
  ·exact⟨u,a,by lia,by rw[zg];lia,fun w hw=>yd _ hw⟩
  ·obtain⟨ws,h1,h2,h4,h3⟩:=b.mem h
   exact⟨ws,h1,by lia,by rw[zg];lia,fun w hw=>zP _ (h3 w hw)⟩
def Qt(n:Nat):jg:=fun ds S R _=>∃(cs:List (Str×Str)) (d:D) (ws:List Str),ds=[.tup (cs.map bq),d]∧Gd cs∧Wr ck ar d ws∧(∀w∈ws,w.cps.size≤90000)∧ws.length≤100000∧md ws≤((n:Nat):Int)∧R (.bl (ox cs n d)) S
theorem iM(T:Txt w K mg t):∀n,Ok P w base T.aY (2+n) (Qt n)
 |0=>by
  refine T.aY.F.kO (k:=1) fB ?_
  rintro _ _ _ _ _ _ ds S R Z hr ⟨cs,d,ws,e,hg,hw,_,_,hm,_⟩
  obtain⟨z,e⟩:=hw.head
  rw[e,gL] at hm
  have:=dk z
  lia
 |n+1=>by
  refine T.aY.F.kO (k:=2+n) fB ?_
  rintro _ _ _ _ _ _ ds S R Z hr ⟨cs,d,ws,e,hg,hw,hsz,Hl,hm,q⟩
  subst e
  have n2:=sm (show 2≤100000 by decide)
  have ek:cs.map bq=(cs.map fun c=>(c.1,D.str c.2)).map wM:=by rw[zR];rfl
  obtain⟨o,rest,rfl⟩:∃(o:Str) (rest:List D),d=.tup (.str o::rest):=by cases hw <;> exact⟨_,_,rfl⟩
  refine⟨_,(sc (bK (i:=2) fB.nd (ct BL T.Cr wD (ac (dv 0) an))) (sc (si (aT aP hr.units (ix hr.units (dv 1) di) ds) (s1 (sr (qr (cm sE hr.units (cb aW T.aX aI (ac (ix hr.units (dv 1) di) an)) di) (yS (cb fe T.fm cQ (ac (pN (N:=["_law_key_here"]) (src:=[none]) (pH (ae cW) ["_law_columns_here","_law_sieve_here","_law_kinds"] rfl rfl (by trivial)) (Jk (ix hr.units (dv 1) di)) (qv (show (["_law_key_here"]:List Str).Nodup by trivial)) (ba rfl) bb (fun _ _ _ _ _=>pM) (fun _ _ _ _ _=>(cf ((uk T).mono (by lia)) hr T.iA.m T.iA.k T.iA.b d0 (ac (dv 0) an)))) an)))))) s0) (sc (si (aT aP hr.units (ix hr.units (dv 1) di) ds) (s1 (sr (cf ((iM T n).mono (by lia)) hr T.aY.m T.aY.k T.aY.b d0 (ac (dv 0) (ac (ix hr.units (dv 1) di) an))))) s0) (sc (si (aT qu hr.units (ix hr.units (dv 1) di) (bD (ac ds (ac ds an)))) (s1 (sr (qr (cm sE hr.units (cb aW T.aX aI (ac (ix hr.units (dv 1) di) an)) di) (yS (cb fe T.fm cQ (ac (pN (N:=["_law_one","_law_columns_here"]) (src:=[none,some 0]) (pH (ae cW) ["_law_columns_here","_law_sieve_here","_law_kinds"] rfl rfl (by trivial)) (Jk (ix hr.units (dv 1) di)) (qv (show (["_law_one","_law_columns_here"]:List Str).Nodup by trivial)) (ba rfl) bb (fun _ _ _ _ _=>pM) (fun _ _ _ _ _=>(cf ((iM T n).mono (by lia)) hr T.aY.m T.aY.k T.aY.b d0 (ac (dv 1) (ac (dv 0) an))))) an)))))) s0) (sc (si (aT aP hr.units (ix hr.units (dv 1) di) ds) (s1 (sr db)) s0) (sc (si (twd (twor (aT sG hr.units (ix hr.units (dv 1) di) (dv 2)) (tw1 (twd (twand (aT aP hr.units (ix hr.units (dv 1) di) ds) (tw1 (aT aP hr.units (ix hr.units (dv 2) (ix hr.units (dv 1) di)) ds))))))) (s1 (sr db)) s0) (sc (si (aT qt hr.units (ix hr.units (dv 1) di) dn) (s1 (sr (cm aP hr.units (ix hr.units (dv 1) di) ds))) s0) (s1 (sr (cm aP hr.units (cb eG T.aq ai (ac (ix hr.units (dv 1) di) (ac (uB T.nJ jr) an))) (cm aP hr.units (ix hr.units (dv 2) (ix hr.units (dv 1) di)) ds))))))))))),?_⟩
  refine⟨_,rfl,(cs.map fun c=>(c.1,D.str c.2)),by rw[ek],fun p hp=>?_⟩
  have b1:Sub S (S.set p (.iT (dQ (cs.map fun c=>(c.1,D.str c.2))))):=.new hp
  have v1:(S.set p (.iT (dQ (cs.map fun c=>(c.1,D.str c.2))))) p=some (.iT (dQ (cs.map fun c=>(c.1,D.str c.2)))):=aa
  generalize S.set p (.iT (dQ (cs.map fun c=>(c.1,D.str c.2))))=S1 at b1 v1 ⊢
  have jK:gT (.str o::rest) 0=some (.str o):=bJ _ _
  have er:ox cs (n+1) (.tup (.str o::rest))=(gR cs (.tup (.str o::rest)) && (subs (.tup (.str o::rest))).all (ox cs n)):=rfl
  rw[er] at q
  cases hw with
  |eW =>
   refine⟨_,rfl,_,jK,_,rfl,gQ (by trivial) ⟨_,rfl,_,jK,_,rfl,gQ (by trivial) ⟨_,rfl,_,jK,n2,rfl,rfl,_,rfl,gQ (by trivial) ⟨_,rfl,_,jK,_,rfl,vH (by trivial) ⟨S,b1,?_⟩⟩⟩⟩⟩
   rw[tV] at q
   exact q
  |@key ks L7 =>
   rw[CD,uw,List.all_nil,yD] at q
   have q:R (.bl (decide ((ks.map D.str).length≤8) && (ks.map D.str).all (ofStr eA))) S:=q
   rw[za] at q
   have Uy:ks.length≤100000:=by simp only [zb,zg] at Hl;lia
   refine⟨_,rfl,_,jK,_,rfl,vH (by trivial) ⟨_,rfl,_,eB _ _ _,_,rfl,decide (ks.length≤8),congrArg D.bl (by rw[za,zy];lia),?_⟩⟩
   refine aQ (fun h8=>?_) (fun h8=>⟨S,b1,by rw[h8] at q;exact q⟩)
   rw[h8,zq] at q
   refine⟨_,rfl,_,eB _ _ _,_,.inl rfl,?_⟩
   refine comp_map (fun d=>.bl (ofStr eA d)) trivial (by show (ks.map D.str).length≤_;rw[za];exact Uy) (fun d hd Q hQ=>?_) fun p2 cP=>?_
   ·obtain⟨k,hk,rfl⟩:=zC.mp hd
    exact⟨_,rfl,k,rfl,hsz k (by simp [hk]),hQ⟩
   ·have e2:(ks.map D.str).map (fun d=>D.bl (ofStr eA d))=((ks.map D.str).map (ofStr eA)).map D.bl:=by rw[zR,zR,zR];rfl
    refine⟨.ref p2,(ks.map D.str).map (ofStr eA),rfl,?_,S,b1.trans (.new cP),?_⟩
    ·rw[← e2];exact aa
    ·rw[show ((ks.map D.str).map (ofStr eA)).all id=(ks.map D.str).all (ofStr eA) from all_map];exact q
  |@col _ a v hc ha hv hiv =>
   obtain⟨a1,a2,a3,a4⟩:o∉bV∧o ≠ "key" ∧ o ≠ "not" ∧ o ≠ "every" := by
    simp only [cj,zc,zw,or_false] at hc
    rcases hc with rfl|rfl|rfl|rfl <;> exact⟨by trivial,by trivial,by trivial,by trivial⟩
   have Uz:o = "is" ∨ o = "below" ∨ o = "above" ∨ o = "begins" := by simpa [cj] using hc
   rw[CC Uz,wc,List.all_nil,yD] at q
   have q:R (.bl (Cz cs o (.str a) (ar v))) S:=q
   refine⟨_,rfl,_,jK,_,rfl,gQ (zh a2) ⟨_,rfl,_,jK,_,rfl,gQ (zh a3) ⟨_,rfl,_,jK,n2,rfl,rfl,decide (o∈bV),congrArg D.bl (CW o),gQ (zh a1) ⟨_,rfl,_,jK,_,rfl,gQ (zh a4) ?_⟩⟩⟩⟩
   have Md:=CY hiv
   generalize ar v=y at q Md ⊢
   unfold Cz at q
   rcases Fp hg a with ⟨e1,e2⟩|⟨k,e1,hk,e2⟩
   ·rw[e1] at q
    exact⟨_,rfl,_,eB _ _ _,_,rfl,.inr ⟨_,.inr a,v1,rfl,true,by rw[e2];rfl,bf ⟨S,b1,q⟩⟩⟩
   rw[e1] at q
   have q:R (.bl (mx k y && (decide (o = "is") || ((!(decide (o = "begins") && !decide (k = "word"))) && !fz y)))) S:=q
   refine⟨_,rfl,_,eB _ _ _,_,rfl,.inr ⟨_,.inr a,v1,rfl,false,by rw[e2];rfl,aM ?_⟩⟩
   refine⟨_,rfl,_,jK,decide (o = "begins"),rfl,fC (decide (k = "number")) (fun h=>⟨_,rfl,_,rfl,_,eB _ _ _,_,_,v1,e2,decide (k = "number"),rfl,h⟩) (aQ (fun h3=>?_) (fun h3=>?_))⟩
   ·rw[zm,zx,zx] at h3
    obtain⟨rfl,rfl⟩:=h3
    refine⟨S,b1,?_⟩
    rw[show (decide (("begins" : Str) = "is"))=false by trivial,show (decide (("begins" : Str) = "begins"))=true by trivial,show (decide (("number" : Str) = "word"))=false by trivial,Bool.not_false,zq,Bool.not_true,zl,ym,Bool.and_false] at q
    exact q
   have MK:(!(decide (o = "begins") && !decide (k = "word")))=true:=by
    rcases hk with rfl|rfl
    ·rw[show decide (("number" : Str) = "number")=true by trivial,yD] at h3
     rw[h3];rfl
    ·rw[show decide (("word" : Str) = "word")=true by trivial,Bool.not_true,Bool.and_false];rfl
   rw[MK,zq] at q
   refine⟨_,rfl,_,rfl,fz y,rfl,aQ (fun h4=>?_) (fun h4=>?_)⟩
   ·rw[show mx k y=true by unfold mx;rw[h4];rfl,zq,h4,Bool.not_true,Bool.or_false] at q
    exact⟨_,rfl,_,jK,S,b1,q⟩
   rw[h4,Bool.not_false,Bool.or_true,yD] at q
   have UA:∃kd b,BB S1 y kd∧qj kd=b∧mx k y=(b == decide (k = "number")):=by
    unfold mx
    rw[h4,ym]
    rcases Md with rfl|⟨i,rfl,_⟩|⟨z,rfl,hz⟩
    ·cases h4
    ·refine⟨.int,true,rfl,rfl,?_⟩
     rcases hk with rfl|rfl
     ·rw[if_pos rfl,zr rfl];rfl
     ·rw[if_neg (by trivial),zh (by trivial)];rfl
    ·refine⟨.str,false,rfl,rfl,?_⟩
     rcases hk with rfl|rfl
     ·rw[if_pos rfl,zr rfl];rfl
     ·rw[if_neg (by trivial),zh (by trivial)]
      exact hz
   obtain⟨kd,b,P0,hb,UB⟩:=UA
   rw[UB] at q
   refine⟨_,rfl,_,rfl,_,_,_,_,rfl,wF,P0,_,rfl,_,rfl,_,eB _ _ _,_,_,v1,e2,?_⟩
   rw[hb]
   exact⟨.bool b,.bool (decide (k = "number")),rfl,rfl,rfl,rfl,.inl (yj _),S,b1,q⟩
  |@not e u he =>
   rw[vI,kC] at q
   have q:R (.bl (true && (ox cs n e && true))) S:=q
   rw[zq,yD] at q
   have UC:=(frame pw_not he.Ax.lvl).2
   exact⟨_,rfl,_,jK,_,rfl,gQ (by trivial) ⟨_,rfl,_,jK,_,rfl,vH (by trivial) ⟨_,rfl,_,rfl,_,eB _ _ _,cs,e,u,rfl,hg,he,fun w hw=>hsz w (by simp [hw]),by simp only [zb,zg] at Hl;lia,by lia,S,b1,q⟩⟩⟩
  |@many _ ts u ho Qu =>
   have x5:=xA ho
   obtain⟨a2,a3⟩:o ≠ "key" ∧ o ≠ "not" := by rcases x5 with rfl|rfl <;> exact⟨by trivial,by trivial⟩
   rw[vJ x5,kB x5] at q
   have q:R (.bl (decide (ts.length≤8) && ts.all (ox cs n))) S:=q
   have UC:=(frame (pw_andor ho) Qu.lvl).2
   refine⟨_,rfl,_,jK,_,rfl,gQ (zh a2) ⟨_,rfl,_,jK,_,rfl,gQ (zh a3) ⟨_,rfl,_,jK,n2,rfl,rfl,decide (o∈bV),congrArg D.bl (CW o),vH (zr ho) ?_⟩⟩⟩
   refine⟨_,rfl,_,eB _ _ _,_,rfl,decide (ts.length≤8),congrArg D.bl (by rw[zy];lia),?_⟩
   refine aQ (fun h8=>?_) (fun h8=>⟨S,b1,by rw[h8] at q;exact q⟩)
   rw[h8,zq] at q
   have h8:ts.length≤8:=ze h8
   refine⟨_,rfl,_,eB _ _ _,_,.inl rfl,?_⟩
   refine comp_map (fun d=>.bl (ox cs n d)) trivial (by show ts.length≤_;lia) (fun d hd Q hQ=>?_) fun p2 cP=>?_
   ·obtain⟨Rj,h1,h2,h4,h3⟩:=Qu.mem hd
    exact⟨_,rfl,_,rfl,cs,d,Rj,rfl,hg,h1,fun w hw=>hsz w (by simp [h3 w hw]),by simp only [zb,zg] at Hl;lia,by lia,hQ⟩
   ·have e2:ts.map (fun d=>D.bl (ox cs n d))=(ts.map (ox cs n)).map D.bl:=by rw[zR];rfl
    refine⟨.ref p2,ts.map (ox cs n),rfl,?_,S,b1.trans (.new cP),?_⟩
    ·rw[← e2];exact aa
    ·rw[show (ts.map (ox cs n)).all id=ts.all (ox cs n) from all_map];exact q
def uy(cs:List (Str×Str))(z:Str):List D :=
 if 8<md (cL z)∨200<(cL z).count lp then [.str "text",.str "sieve"]
 else match ax ck ar 8 (cL z) with
  |none=>[.str "text"]
  |some (t,r)=>if r.length=0 then (if ox cs 8 t=true then [t] else [.str "sieve"]) else [.str "text"]
theorem II(h:CK d):Ly S 0 d:=by
 rcases h with rfl|⟨n,rfl,_⟩|⟨y,rfl,hy⟩
 ·exact Ly.aK
 ·exact⟨.int n,by simp only [Dp],by simp only [PyData.canLay0],by simp only [PyData.depth];lia⟩
 ·refine Ly.str (cg.mpr fun c hc=>?_)
  have:=(eV hy).2 c hc
  lia
mutual
theorem Wr.ly{t:D} : Wr ck ar t ws→(∀w∈ws,PyData.strOk w=true)→∀{n:Nat}{r:List Str},My.md (ws++r)≤((n:Nat):Int)→Ly S (2 * n) t
 |.eW,_,n,r,hm=>by
  have:My.md (lp :: "every" :: rp::r)≤_:=hm
  rw[gL] at this
  have:=dk ("every" :: rp::r)
  exact (Ly.tup (n:=0) fun d hd=>by rw[zM.mp hd];exact Ly.str (by trivial)).le (by lia)
 |.col (w:=w) (n:=a) (v:=v) hw ha hv hiv,ho,n,r,hm=>by
  have:My.md (lp::w::a::v::rp::r)≤_:=hm
  rw[gL] at this
  have:=dk (w::a::v::rp::r)
  refine (Ly.tup (n:=0) fun d hd=>?_).le (by lia)
  simp only [zc,zw,or_false] at hd
  rcases hd with rfl|rfl|rfl
  ·exact Ly.str (ho w (by simp))
  ·exact Ly.str (ho a (by simp))
  ·exact II (CY hiv)
 |.key (ks:=ks) hk,ho,n,r,hm=>by
  have:My.md (lp :: "key" :: ((ks++[rp])++r))≤_:=hm
  rw[gL] at this
  have:=dk ("key" :: ((ks++[rp])++r))
  refine (Ly.tup (n:=1) fun d hd=>?_).le (by lia)
  simp only [zc,zw,or_false] at hd
  rcases hd with rfl|rfl
  ·exact (Ly.str (by trivial)).le (by decide)
  ·refine Ly.tup (n:=0) fun d hd=>?_
   obtain⟨k,Kh,rfl⟩:=zC.mp hd
   exact Ly.str (ho k (by simp [Kh]))
 |.not (t:=x) (ws:=u) h,ho,n,r,hm=>by
  have hm:My.md (lp :: "not" :: ((u++[rp])++r))≤_:=hm
  rw[gL,nY pw_not,zI] at hm
  have:=dk (u++([rp]++r))
  obtain⟨m,rfl⟩:∃m,n=m+1:=⟨n - 1,by lia⟩
  have ih:=h.ly (S:=S) (fun w hw=>ho w (by simp [hw])) (n:=m) (r:=[rp]++r) (by lia)
  refine (Ly.tup (n:=2 * m) fun d hd=>?_).le (by lia)
  simp only [zc,zw,or_false] at hd
  rcases hd with rfl|rfl
  ·exact (Ly.str (by trivial)).le (by lia)
  ·exact ih
 |.many (w:=w) (ts:=ts) (ws:=u) hw h,ho,n,r,hm=>by
  have hm:My.md (lp::w::((u++[rp])++r))≤_:=hm
  rw[gL,nY (pw_andor hw),zI] at hm
  have:=dk (u++([rp]++r))
  obtain⟨m,rfl⟩:∃m,n=m+1:=⟨n - 1,by lia⟩
  have ih:=h.ly (S:=S) (fun w hw=>ho w (by simp [hw])) (n:=m) (r:=[rp]++r) (by lia)
  refine (Ly.tup (n:=2 * m+1) fun d hd=>?_).le (by lia)
  simp only [zc,zw,or_false] at hd
  rcases hd with rfl|rfl
  ·exact (Ly.str (ho w (by simp))).le (by lia)
  ·exact Ly.tup ih
theorem kP.ly:kP ck ar ts ws→(∀w∈ws,PyData.strOk w=true)→∀{n:Nat}{r:List Str},My.md (ws++r)≤((n:Nat):Int)→∀d∈ts,Ly S (2 * n) d
 |.nil,_,_,_,_=>fun d h=>(nomatch h)
 |.cons (ws:=u) (vs:=v) a b,ho,n,r,hm=>by
  rw[zI] at hm
  have h1:=a.ly (S:=S) (fun w hw=>ho w (by simp [hw])) hm
  have h2:=b.ly (S:=S) (fun w hw=>ho w (by simp [hw])) (Int.le_trans (a.md _) hm)
  exact zX.mpr ⟨h1,h2⟩
end
theorem IJ(hz:PyData.strOk z=true):(∃s,rF cs (.str z)=.str s∧∃ss:List Str,uy cs z=ss.map D.str∧s∈ss)∨(uy cs z=[rF cs (.str z)]∧∀S,Ly S 16 (rF cs (.str z))):=by
 have er:rF cs (.str z)=(match bz ck ar (cL z) with|none=>.str "text" |some s=>if vK cs 8 0 [s]=true then s else .str "sieve"):=rfl
 rw[er]
 unfold uy
 by_cases h1:8<md (cL z)∨200<(cL z).count lp
 ·rw[if_pos h1]
  refine .inl ?_
  cases e:bz ck ar (cL z) with
  |none=>exact⟨"text",rfl,["text","sieve"],rfl,by trivial⟩
  |some s =>
   have hw:=(iL jo).mp e
   have:¬ vK cs 8 0 [s]=true:=fun h=>by
    obtain⟨a,b,_⟩:=(C6 cs hw).mp h
    lia
   refine⟨"sieve",?_,["text","sieve"],rfl,by trivial⟩
   exact if_neg this
 rw[if_neg h1]
 have hm:md (cL z)≤((8:Nat):Int):=by lia
 cases e:bz ck ar (cL z) with
 |none =>
  refine .inl ⟨"text",rfl,["text"],?_,by trivial⟩
  cases e2:ax ck ar 8 (cL z) with
  |none=>rfl
  |some y =>
   obtain⟨t,r⟩:=y
   obtain⟨vs,h2,h3⟩:=(jJ jo hm).mp e2
   dsimp only
   rw[if_neg fun h=>?_]
   ·rfl
   ·obtain rfl:=zD h
    rw[zE] at h3
    rw[← h3] at h2
    rw[(iL jo).mpr h2] at e
    cases e
 |some s =>
  have hw:=(iL jo).mp e
  have e2:ax ck ar 8 (cL z)=some (s,[]):=(jJ jo hm).mpr ⟨cL z,hw,(zE _).symm⟩
  rw[e2]
  dsimp only
  rw[if_pos (show ([]:List Str).length=0 from rfl)]
  have Ar:=C6 cs hw
  by_cases h4:ox cs 8 s=true
  ·rw[if_pos h4,if_pos (Ar.mpr ⟨hm,by lia,h4⟩)]
   refine .inr ⟨rfl,fun S=>hw.ly (n:=8) (r:=[]) (fun w UD=>rk UD hz) ?_⟩
   rw[zE];exact hm
  ·rw[if_neg h4,if_neg fun h=>h4 (Ar.mp h).2.2]
   exact .inl ⟨"sieve",rfl,["sieve"],rfl,by trivial⟩
def Me:jg:=fun ds S R _=>∃cs z,ds=[.tup (cs.map bq),.str z]∧Gd cs∧Tx 90000 z∧∀p S',Sub S S'→S' p=some (.lst (uy cs z))→R (.ref p) S'
theorem C7(T:Txt w K mg t):Ok P w base T.lS 22 Me:=by
 refine T.lS.F.kO nK ?_
 rintro _ _ _ _ _ _ ds S R Z hr ⟨cs,z,e,hg,hz,q⟩
 subst e
 have n1:=sm (show 1≤100000 by decide)
 have n2:=sm (show 2≤100000 by decide)
 have RB:z.length=z.cps.size:=rfl
 have IA:=hz.1
 refine⟨_,(sc (bK (i:=2) nK.nd (bm zH PySem.F.slot_str_split PySem.F.type_str_split m_split (dv 1) (ac ds an))) (sc (si (twd (twor (aT m9 hr.units (cf ((vW T).mono (by decide)) hr T.fS.m T.fS.k T.fS.b d0 (ac (dv 2) an)) di) (tw1 (aT m9 hr.units (bm zN PySem.F.slot_list_count PySem.F.type_list_count B4 (dv 2) (ac ds an)) di)))) (s1 (sr (bt (ac ds (ac ds an))))) s0) (sc (bK (i:=3) nK.nd (cf ((l6 T 8).mono (by lia)) hr T.bB.m T.bB.k T.bB.b d0 (ac (dv 2) (ac di an)))) (sc (si (twd (twor (aT qt hr.units (dv 3) dn) (tw1 (aT ju hr.units (ix hr.units (dv 3) di) (cb aW T.aX aI (ac (dv 2) an)))))) (s1 (sr (bt (ac ds an)))) s0) (sc (si (ej (tv (cf ((iM T 8).mono (by lia)) hr T.aY.m T.aY.k T.aY.b d0 (ac (dv 0) (ac (ix hr.units (dv 3) di) an))))) (s1 (sr (bt (ac ds an)))) s0) (s1 (sr (bt (ac (ix hr.units (dv 3) di) an))))))))),?_⟩
 refine⟨_,rfl,rfl,z, " ",rfl,rfl,rfl,by rw[yn];lia,fun p hp=>?_⟩
 rw[show Txt.split z " " = cL z from rfl]
 have ja:(S.set p (.lst ((cL z).map D.str))) p=some (.lst ((cL z).map D.str)):=aa
 have sb:Sub S (S.set p (.lst ((cL z).map D.str))):=.new hp
 generalize S.set p (.lst ((cL z).map D.str))=S1 at ja sb ⊢
 have hW:Nf (cL z):=⟨by have:=rj z;lia,fun w hw=>⟨zG (w6 hw) IA,rk hw hz.2⟩⟩
 have fin:∀{ds:List D}{S2:aN}{p2:Addr},uy cs z=ds→Sub S S2→S2 p2=none→Fo (S2.set p2 (.lst ds)) (R (.ref p2)):=fun e h1 h2=>fo (q _ _ (h1.trans (.new h2)) (by rw[e];exact aa))
 refine⟨_,rfl,p,_,rfl,ja,decide (8<md (cL z)),rfl,uo (decide (200<(cL z).count lp)) (fun h=>⟨_,rfl,⟨rfl,_,ja⟩,_,_,rfl,ja,_,congrArg D.bl (by rw[zy];show (200:Int)<(((cL z).count lp:Nat):Int)↔_;lia),h⟩) (aQ (fun h1=>?_) (fun h1=>?_))⟩
 ·rw[Bool.or_eq_true,zx,zx] at h1
  exact⟨n2,fun p2 cP=>fin (if_pos h1) sb cP⟩
 have QW:¬ (8<md (cL z)∨200<(cL z).count lp):=fun h=>by
  rw[← zx (p:=8<md (cL z)),← zx (p:=200<(cL z).count lp),← Bool.or_eq_true,h1] at h
  cases h
 have ed:uy cs z=match ax ck ar 8 (cL z) with
  |none=>[.str "text"]
  |some (t,r)=>if r.length=0 then (if ox cs 8 t=true then [t] else [.str "sieve"]) else [.str "text"]:=if_neg QW
 have hm:md (cL z)≤((8:Nat):Int):=by lia
 refine⟨_,rfl,p,cL z,0,rfl,ja,hW,yj _,by decide,by rw[yo];exact hm,fun x r hx=>?_,fun hx=>?_⟩
 ·rw[yo] at hx
  rw[hx] at ed
  obtain⟨vs,h2,h3⟩:=(jJ jo hm).mp hx
  have RQ:r.length≤(cL z).length:=by rw[h3,zg];lia
  have h0:=h2.ne
  have Um:0<vs.length:=List.length_pos_iff.mpr h0
  have h4:(cL z).length=vs.length+r.length:=by rw[h3,zg]
  refine⟨_,rfl,false,rfl,aM ⟨_,rfl,_,eB _ _ _,_,rfl,_,rfl,.inl ⟨_,ja,!decide (r.length=0),congrArg (fun b=>D.bl (!b)) (by rw[za,zy];lia),aQ (fun h5=>?_) (fun h5=>?_)⟩⟩⟩
  ·have h5:r.length≠0:=zj (nt h5)
   exact⟨n1,fun p2 cP=>fin (ed.trans (if_neg h5)) sb cP⟩
  have h5:r.length=0:=ze (nf h5)
  obtain rfl:=zD h5
  rw[zE] at h3
  have ed:uy cs z=if ox cs 8 x=true then [x] else [.str "sieve"]:=ed.trans (if_pos rfl)
  refine⟨_,rfl,_,rfl,_,bJ _ _,cs,x,vs,rfl,hg,h2,fun w hw=>(hW.2 w (by rw[h3];exact hw)).1,by rw[← h3];exact hW.1,by rw[← h3];exact hm,_,rfl,aQ (fun h6=>?_) (fun h6=>?_)⟩
  ·exact⟨n1,fun p2 cP=>fin (ed.trans (if_neg (by rw[nt h6];decide))) sb cP⟩
  ·exact⟨_,rfl,_,bJ _ _,n1,fun p2 cP=>fin (ed.trans (if_pos (nf h6))) sb cP⟩
 ·rw[yo] at hx
  rw[hx] at ed
  exact⟨_,rfl,true,rfl,bf (bf ⟨n1,fun p2 cP=>fin ed sb cP⟩)⟩
theorem xC:∀(k:Nat) (acc:Array Nat),x∈((List.replicate k c).foldl (·++·) acc).toList→x∈acc.toList∨x∈c.toList
 |0,acc,h=>.inl h
 |k+1,acc,h=>by
  rw[List.replicate_succ,List.foldl_cons] at h
  rcases xC k _ h with h|h
  ·rw[Array.toList_append] at h
   exact zW.mp h
  ·exact .inr h
theorem gF(h:Tx n z)(hb:n * k≤100000)(hk:k≤100000):MulOk z ((k:Nat):Int)∧Tx (n * k) (Txt.mul z ((k:Nat):Int)):=by
 have hz:=h.1
 have hl:z.length=z.cps.size:=rfl
 have hm:z.cps.size * k≤n * k:=Nat.mul_le_mul_right k hz
 refine⟨⟨by simp;lia,fun h1 h2=>?_,fun h1 h2=>?_⟩,?_,cg.mpr fun c hc=>?_⟩
 ·have h3:(z.length:Int)≤(2 ^ 63 - 1) / ((k:Nat):Int):=by
   rw[Int.le_ediv_iff_mul_le (by lia),hl]
   have e:(((z.cps.size * k:Nat)):Int)=(z.cps.size:Int) * ((k:Nat):Int):=Int.natCast_mul _ _
   lia
  lia
 ·rw[Int.toNat_natCast,hl]
  have:=sm (n:=z.cps.size * k) (by lia)
  unfold PySem.Builtin.Str.tooLong
  exact zh (by lia)
 ·exact PyProof.Rows.len_mul_leN hz (yE _)
 ·unfold Txt.mul at hc
  by_cases h1:((k:Nat):Int)<1
  ·rw[if_pos h1] at hc;cases hc
  rw[if_neg h1] at hc
  by_cases h2:(((k:Nat):Int) == 1 || z.length == 0)=true
  ·rw[if_pos h2] at hc;exact cg.mp h.2 c hc
  ·rw[if_neg h2] at hc
   rcases xC _ _ hc with m|m
   ·cases m
   ·exact cg.mp h.2 c m
theorem ad(h:Tx n a)(k:Tx m b)(hb:n+m≤100000):a.length+b.length≤sizeLine :=
 sm (by show a.cps.size+b.cps.size≤_;have:=h.1;have:=k.1;lia)
theorem C8(T:Txt w K mg t):Ok P w base T.km 2 (fun ds S R _=>∃l,ds=[.ref l]∧S l=some .well∧∀z,Tx 20000 z→R (.str z) S):=by
 refine T.km.F.kO cK ?_
 rintro _ _ _ _ _ _ ds S R Z hr ⟨l,e,hw,q⟩
 subst e
 refine⟨_,(sc (bK (i:=1) cK.nd (cf ((aR T).mono (by decide)) hr T.af.m T.af.k T.af.b d0 (ac (dv 0) (ac di an)))) (sc (bK (i:=2) cK.nd (yX (ix hr.units (bt (ac di (ac di (ac di (ac di (ac di an)))))) (cf ((aR T).mono (by decide)) hr T.af.m T.af.k T.af.b d0 (ac (dv 0) (ac di an)))))) (sc (si (aT aP hr.units (dv 1) di) (s1 (sr (bo aj hr.units (bo aj hr.units (bo cn hr.units ds (dv 2)) ds) (bo cn hr.units ds (dv 2))))) s0) (sc (si (aT aP hr.units (dv 1) di) (s1 (sr (bo aj hr.units (bo aj hr.units (bo cn hr.units ds (dv 2)) ds) (bo cn hr.units ds (dv 2))))) s0) (sc (si (aT aP hr.units (dv 1) di) (s1 (sr (bo aj hr.units (bo aj hr.units ds (bo cn hr.units ds (bo aj hr.units di (cf ((aR T).mono (by decide)) hr T.af.m T.af.k T.af.b d0 (ac (dv 0) (ac di an)))))) ds))) s0) (sc (bK (i:=3) cK.nd (bo aj hr.units (bo aj hr.units ds (bo cn hr.units ds di)) ds)) (sc (bK (i:=4) cK.nd (bo aj hr.units (bo aj hr.units ds (bo cn hr.units (bo aj hr.units ds (dv 3)) di)) ds)) (sc (bK (i:=5) cK.nd (bo cn hr.units (bo aj hr.units ds (dv 3)) (bo aj hr.units di (cf ((aR T).mono (by decide)) hr T.af.m T.af.k T.af.b d0 (ac (dv 0) (ac di an)))))) (sc (bK (i:=6) cK.nd (bo aj hr.units (bo aj hr.units ds (bo cn hr.units ds (cf ((aR T).mono (by decide)) hr T.af.m T.af.k T.af.b d0 (ac (dv 0) (ac di an))))) ds)) (s1 (sr (bo aj hr.units (bo aj hr.units (bo aj hr.units (bo aj hr.units (bo aj hr.units (bo aj hr.units ds (dv 4)) ds) (dv 4)) (dv 5)) (dv 6)) ds)))))))))))),?_⟩
 refine⟨_,rfl,l,_,rfl,(by decide),(by decide),hw,fun way w0 w1=>?_⟩
 refine⟨sm (show 5≤100000 by decide),fun p hp=>⟨_,rfl,l,_,rfl,(by decide),(by decide),wl hw hp,fun i i0 i1=>dF i0 i1 hp fun d hd=>?_⟩⟩
 obtain⟨m,rfl,hm⟩:∃m:Nat,d=.int (m:Int)∧m≤2000:=by
  have hd:d∈[D.int 7,.int 8,.int 9,.int 200,.int 2000]:=hd
  simp only [zc,zw,or_false] at hd
  rcases hd with rfl|rfl|rfl|rfl|rfl
  ·exact⟨7,rfl,by decide⟩
  ·exact⟨8,rfl,by decide⟩
  ·exact⟨9,rfl,by decide⟩
  ·exact⟨200,rfl,by decide⟩
  ·exact⟨2000,rfl,by decide⟩
 have tx:∀(z:Str) (n:Nat),(decide (z.cps.size≤n) && PyData.strOk z)=true→Tx n z:=fun z n h=>by
  rw[zm,zx] at h;exact h
 have t9:=tx "( every )" 9 (by trivial)
 have t7:=tx "( key )" 7 (by trivial)
 have tn:=tx "( not " 6 (by trivial)
 have ta:=tx "( and " 6 (by trivial)
 have te:=tx " )" 2 (by trivial)
 have to:=tx "( or" 4 (by trivial)
 have ts:=tx " " 1 (by trivial)
 have tv:=tx " ( every )" 10 (by trivial)
 have td:=tx "( and" 5 (by trivial)
 have tf:=tx " ( and" 6 (by trivial)
 have tr:=tx "( or " 5 (by trivial)
 refine⟨_,rfl,decide (way=0),rfl,aQ (fun h1=>?_) (fun h1=>?_)⟩
 ·obtain⟨m1,t1⟩:=gF tn (k:=m) (by lia) (by lia)
  obtain⟨m2,t2⟩:=gF te (k:=m) (by lia) (by lia)
  exact⟨_,rfl,m1,ad t1 t9 (by lia),_,rfl,m2,ad (t1.app t9) t2 (by lia),fo (q _ (((t1.app t9).app t2).le (by lia)))⟩
 refine⟨_,rfl,decide (way=1),rfl,aQ (fun h2=>?_) (fun h2=>?_)⟩
 ·obtain⟨m1,t1⟩:=gF ta (k:=m) (by lia) (by lia)
  obtain⟨m2,t2⟩:=gF te (k:=m) (by lia) (by lia)
  exact⟨_,rfl,m1,ad t1 t7 (by lia),_,rfl,m2,ad (t1.app t7) t2 (by lia),fo (q _ (((t1.app t7).app t2).le (by lia)))⟩
 refine⟨_,rfl,decide (way=2),rfl,aQ (fun h3=>?_) (fun h3=>?_)⟩
 ·refine⟨_,rfl,l,_,rfl,(by decide),(by decide),hw,fun j j0 j1=>?_⟩
  obtain⟨k,hk,qw⟩:∃k:Nat,(6:Int)+j=((k:Nat):Int)∧k≤11:=⟨(6+j).toNat,by lia,by lia⟩
  obtain⟨m1,t1⟩:=gF tv (k:=k) (by lia) (by lia)
  rw[← hk] at m1 t1
  exact⟨m1,ad to t1 (by lia),ad (to.app t1) te (by lia),fo (q _ (((to.app t1).app te).le (by lia)))⟩
 obtain⟨m1,t1⟩:=gF tv (k:=8) (by lia) (by lia)
 have ti:=(to.app t1).app te
 refine⟨m1,ad to t1 (by lia),ad (to.app t1) te (by lia),?_⟩
 generalize (("( or" : Str)++Txt.mul " ( every )" ((8:Nat):Int)) ++ " )" = inner at ti
 have RX:=ts.app ti
 obtain⟨m2,t2⟩:=gF RX (k:=8) (by lia) (by lia)
 have tm:=(td.app t2).app te
 refine⟨_,rfl,ad ts ti (by lia),m2,ad td t2 (by lia),ad (td.app t2) te (by lia),?_⟩
 generalize (("( and" : Str)++Txt.mul (" " ++ inner) ((8:Nat):Int)) ++ " )" = middle at tm
 refine⟨_,rfl,ad ts ti (by lia),_,rfl,l,_,rfl,(by decide),(by decide),hw,fun j j0 j1=>?_⟩
 obtain⟨k,hk,qw⟩:∃k:Nat,(4:Int)+j=((k:Nat):Int)∧k≤6:=⟨(4+j).toNat,by lia,by lia⟩
 have UE:(1+(4+10 * 8+2)) * k≤87 * 6:=Nat.mul_le_mul_left _ qw
 obtain⟨m3,t3⟩:=gF RX (k:=k) (by lia) (by lia)
 have t3:=t3.le UE
 rw[← hk] at m3 t3
 refine⟨m3,?_⟩
 generalize Txt.mul (" " ++ inner) (4+j)=rest at t3
 refine⟨_,rfl,l,_,rfl,(by decide),(by decide),hw,fun j2 Ww Wx=>?_⟩
 obtain⟨k2,rfl⟩:∃k2:Nat,j2=((k2:Nat):Int):=⟨j2.toNat,by lia⟩
 obtain⟨m4,t4⟩:=gF tv (k:=k2) (by lia) (by lia)
 have t4:=t4.le (show 10 * k2≤90 by lia)
 have tw:=(tf.app t4).app te
 refine⟨m4,ad tf t4 (by lia),ad (tf.app t4) te (by lia),?_⟩
 generalize ((" ( and" : Str)++Txt.mul " ( every )" ((k2:Nat):Int)) ++ " )" = Bf at tw
 have a1:=tr.app tm
 have a2:=a1.app ts
 have a3:=a2.app tm
 have a4:=a3.app t3
 have a5:=a4.app tw
 have a6:=a5.app te
 exact⟨_,rfl,ad tr tm (by lia),ad a1 ts (by lia),_,rfl,ad a2 tm (by lia),_,rfl,ad a3 t3 (by lia),_,rfl,ad a4 tw (by lia),ad a5 te (by lia),fo (q _ (a6.le (by lia)))⟩
def Ju:Nat→Nat
 |0=>7200
 |1=>14470
 |2=>29010
 |_=>58090
theorem C9(h:i<3):Ju i≤49000∧2 * Ju i+70=Ju (i+1):=by
 match i,h with
 |0,_=>exact⟨by decide,by decide⟩
 |1,_=>exact⟨by decide,by decide⟩
 |2,_=>exact⟨by decide,by decide⟩
theorem IK(i:Nat):Ju i≤58090:=by
 match i with
 |0=>decide
 |1=>decide
 |2=>decide
 |_+3=>exact zi _
theorem C_{P:Program}{w:World}{K:Frag}{mg:Str→Option Value}{base:Heap}{k N:Nat}{f:Addr}{fd:FuncData}{ps:List Str}{sp:Nat→jg}(F:∀n,n≤N→cI P w K mg base (jM P w) k f fd ps (u7 K (sp n))) :
  cI P w K mg base (jM P w) k f fd ps (u7 K fun ds S R Z=>∃n,n≤N∧sp n ds S R Z) :=
 ⟨by rintro vs H Q E ⟨ds,S,R,Z,a,b,⟨n,hn,h⟩,c,d⟩;exact (F n hn).len vs H Q E ⟨ds,S,R,Z,a,b,h,c,d⟩,by rintro A outer s H args us vs Q E hr he hb hv ⟨ds,S,R,Z,a,b,⟨n,hn,h⟩,c,d⟩;exact (F n hn).run A outer s H args us vs Q E hr he hb hv ⟨ds,S,R,Z,a,b,h,c,d⟩⟩
theorem Dc(h:Paired (fun d u=>∃c:Str×Str,∃k:Str,d=bq c∧u=bq (c.1,k)∧(k = "number" ∨ k = "word")) xs out):∀{cs:List (Str×Str)},xs=cs.map bq→∃os:List (Str×Str),out=os.map bq∧os.map Prod.fst=cs.map Prod.fst∧∀c∈os,c.2 = "number" ∨ c.2 = "word" := by
 induction h with
 |nil =>
  intro cs e
  cases cs with
  |nil=>exact⟨[],rfl,rfl,fun _ h=>(nomatch h)⟩
  |cons c cs=>cases e
 |cons r _ ih =>
  intro cs e
  cases cs with
  |nil=>cases e
  |cons c0 cs =>
   obtain⟨c,k,e1,e2,hk⟩:=r
   obtain⟨e3,e4⟩:=List.cons.inj e
   obtain⟨os,h1,h2,h3⟩:=ih e4
   rw[e1] at e3
   have e5:c.1=c0.1:=D.str.inj (List.cons.inj (D.tup.inj e3)).1
   exact⟨(c.1,k)::os,by rw[e2,h1];rfl,by rw[zz,zz,h2,e5],zX.mpr ⟨hk,h3⟩⟩
theorem Fq{cs os:List (Str×Str)}(hg:Gd cs)(e:os.map Prod.fst=cs.map Prod.fst)(h:∀c∈os,c.2 = "number" ∨ c.2 = "word"):Gd os:=by
 have el:os.length=cs.length:=by rw[← za (f:=Prod.fst),e,za]
 refine⟨by rw[el];exact hg.1,by rw[e];exact hg.2.1,fun c hc=>⟨?_,h c hc⟩⟩
 have:c.1∈cs.map Prod.fst:=by rw[← e];exact zC.mpr ⟨c,hc,rfl⟩
 obtain⟨c',h1,h2⟩:=zC.mp this
 rw[← h2];exact (hg.2.2 c' h1).1
theorem Mf(cs:List (Str×Str)){d:D}(h:∀z,d=.str z→z = ""):rF cs d=.str "text" := by
 unfold rF
 cases d with
 |str z =>
  rw[h z rfl]
  dsimp only
  rw[show bz ck ar (cL "")=none by trivial]
 |_=>rfl
theorem IL(h:Tx n z):Tx (n+2) (bL z " " "  "):=by
 have h1:=ve z " " "  "
 have e2:("  " : Str).length=2:=by trivial
 have e3:z.length=z.cps.size:=rfl
 refine⟨by show (bL z " " "  ").length≤_;have:=h.1;lia,cg.mpr fun c hc=>?_⟩
 rcases vf z " " "  " c hc with m|m
 ·exact cg.mp h.2 c m
 ·exact cg.mp (show PyData.strOk "  " = true by trivial) c m
theorem Dd(hz:PyData.strOk z=true)(hp:S p=some (.lst (uy cs z)))(q:R (.bl false) S):MZ true (rF cs (.str z)) (.ref p) S R:=by
 rcases IJ (cs:=cs) hz with ⟨s,e1,ss,e2,hs⟩|⟨e1,hl⟩
 ·rw[e1]
  rw[e2] at hp
  refine .inl (.inl ⟨_,hp,rfl,pX ss,?_⟩)
  rw[if_pos rfl,gB,zr hs];exact q
 ·obtain⟨y,h1,h2,h3⟩:=(hl S).dl
  rw[e1] at hp
  refine .inr ⟨_,true,.inr (.inr ⟨p,rfl,hp⟩),⟨y,h1,h2,fun d hd=>?_⟩,q⟩
  rw[zM.mp hd]
  exact⟨y,h1,h2,.inl (zG h3 (by decide)),SeqAt.eqv_refl y h2⟩
def Gn:jg:=fun ds S R _=>∃ns:List Int,ds=[.g8 (ns.map D.int)]∧ns.length≤63∧R (.bl true) S
theorem Fs(T:Txt w K mg t):Ok P w base T.PL 23 Gn:=by
 have AJ:Ok P w base T.bZ 13 (fun ds S R Z=>∃n,n≤8∧L8 n ds S R Z):=C_ fun n hn=>(n_ T n).mono (by lia)
 have og:Ok P w base T.aJ 10 (fun ds S R Z=>∃n,n≤8∧Mb n ds S R Z):=C_ fun n hn=>(fF T n).mono (by lia)
 refine T.PL.F.kO dw ?_
 rintro _ _ _ _ _ _ ds S R Z hr ⟨ns,e,PB,q⟩
 subst e
 have n1:=sm (show 1≤100000 by decide)
 have n2:=sm (show 2≤100000 by decide)
 refine⟨_,(sc (bK (i:=1) dw.nd (cf ((xm T).mono (by decide)) hr T.iw.m T.iw.k T.iw.b d0 (ac (dv 0) (ac di an)))) (sc (bK (i:=2) dw.nd (cf ((vO T).mono (by decide)) hr T.fP.m T.fP.k T.fP.b d0 (ac (dv 1) an))) (sc (sJ (FU (Tj T.iY (ac di (ac di an))) (gn (i:=3) dw.nd) (sc (bK (i:=1) dw.nd (cf ((xm T).mono (by decide)) hr T.iw.m T.iw.k T.iw.b d0 (ac (dv 0) (ac (dv 3) an)))) (sc (bK (i:=4) dw.nd (cf (AJ.mono (by lia)) hr T.bZ.m T.bZ.k T.bZ.b d0 (ac (dv 1) (ac (dv 2) (ac (bo aj hr.units di (cf ((aR T).mono (by decide)) hr T.af.m T.af.k T.af.b d0 (ac (dv 1) (ac di an)))) (ac (bt (ac di an)) an)))))) (sc (bK (i:=5) dw.nd (cf (og.mono (by lia)) hr T.aJ.m T.aJ.k T.aJ.b d0 (ac (dv 4) an))) (sc (sJ (FU (Lf T.iY (ac (cf ((aR T).mono (by decide)) hr T.af.m T.af.k T.af.b d0 (ac (dv 1) (ac di an))) an)) (gn (i:=6) dw.nd) (s1 (bK (i:=5) dw.nd (cf ((vS T).mono (by decide)) hr T.fQ.m T.fQ.k T.fQ.b d0 (ac (dv 1) (ac (dv 2) (ac (dv 5) an)))))))) (sc (bK (i:=7) dw.nd (ct fg T.cG bO (ac (pN (N:=["_law_name","_law_kind","_law_well_here"]) (src:=[none,none,some 1]) (pH (ae wY) ["_law_script","_law_well_here","_law_columns_here","_law_k","_law_sieve_here","_law_text","_law_turn","_law_others","_law_some","_law_one","_law_thing"] rfl rfl (by trivial)) (Jk (dv 2)) (Tv (show (["_law_name","_law_kind","_law_well_here"]:List Str).Nodup by trivial)) (D8 rfl rfl) Et (fun _ _ _ _ _=>pM) (fun _ _ _ _ _=>(bD (ac (dv 0) (ac (yX (ix hr.units (bt (ac ds (ac ds an))) (cf ((aR T).mono (by decide)) hr T.af.m T.af.k T.af.b d0 (ac (dv 2) (ac di an))))) an))))) an))) (sc (si (aT B3 hr.units (cf ((n6 T).mono (by decide)) hr T.cZ.m T.cZ.k T.cZ.b d0 (ac (dv 7) (ac (dv 5) an))) (cf ((C7 T).mono (by decide)) hr T.lS.m T.lS.k T.lS.b d0 (ac (dv 7) (ac (dv 5) an)))) (s1 (sr db)) s0) (sc (bK (i:=8) dw.nd (bt (TH (TZ (dv 5) (Py (gp (dv 5) hr.units) (Py (g1 (bo aj hr.units (dv 5) ds)) (Py (TC (g1 (dv 5))) (TF (ac (bo aj hr.units (dv 5) ds) an))))))))) (sc (sJ (FU (il (bo aj hr.units (dv 8) (bt (ac (cf ((C8 T).mono (by decide)) hr T.km.m T.km.k T.km.b d0 (ac (dv 1) an)) an)))) (gn (i:=9) dw.nd) (s1 (si (aT B3 hr.units (cf ((n6 T).mono (by decide)) hr T.cZ.m T.cZ.k T.cZ.b d0 (ac (dv 2) (ac (dv 9) an))) (cf ((C7 T).mono (by decide)) hr T.lS.m T.lS.k T.lS.b d0 (ac (dv 2) (ac (dv 9) an)))) (s1 (sr db)) s0)))) (sc (bK (i:=10) dw.nd (yX (ix hr.units (bt (ac dn (ac di (ac db (ac (bD (ac ds an)) (ac (bt (ac ds an)) (ac ds an))))))) (cf ((aR T).mono (by decide)) hr T.af.m T.af.k T.af.b d0 (ac (dv 1) (ac di an)))))) (s1 (si (aT ju hr.units (cf ((n6 T).mono (by decide)) hr T.cZ.m T.cZ.k T.cZ.b d0 (ac (dv 2) (ac (dv 10) an))) ds) (s1 (sr db)) s0))))))))))))) (s1 (sr db))))),?_⟩
 refine⟨_,rfl,⟨ns,0,rfl,by decide⟩,fun l0 LL=>⟨_,rfl,l0,rfl,aa,fun cs hg=>?_⟩⟩
 have b0:Sub S (S.set l0 .well):=.new LL
 generalize S.set l0 .well=S0 at b0 ⊢
 have h8:=hg.1.1
 refine⟨fun aw S'=>Sub S S',?_,fun aw S' hs=>⟨S,hs,q⟩⟩
 refine⟨1,17,rfl,⟨by decide,by decide,by decide,by decide⟩,?_⟩
 refine⟨fun i aw S'=>∃o1 o3 o4 o5 o6 o7 o8 o9 Jv,aw=[some (.g8 (ns.map D.int)),o1,some (.tup (cs.map bq)),o3,o4,o5,o6,o7,o8,o9,Jv]∧Sub S S',⟨_,none,none,none,none,none,none,none,none,rfl,b0⟩,fun _ _ _ _=>trivial,?_,fun aw S' ⟨_,_,_,_,_,_,_,_,_,_,h⟩=>fo h⟩
 rintro i d aw S' hd ⟨o1,o3,o4,o5,o6,o7,o8,o9,Jv,rfl,hs⟩
 have hd:(jZ 1 16)[i]?=some d:=hd
 obtain⟨hi,rfl⟩:=hG hd
 refine⟨_,rfl,_,rfl,⟨ns,1+i,by rw[show ((1+i:Nat):Int)=1+((i:Nat):Int) by lia];rfl,by lia⟩,fun l hl=>?_⟩
 have bl:Sub S (S'.set l .well):=hs.trans (.new hl)
 have hW:(S'.set l .well) l=some .well:=aa
 generalize S'.set l .well=S2 at bl hW ⊢
 -- the sieve and ao text
 refine⟨_,rfl,_,rfl,_,rfl,l,_,rfl,(by decide),(by decide),hW,fun dd d0 d1=>⟨n1,fun p1 jk=>?_⟩⟩
 have UG:l≠p1:=Dn hW jk
 obtain⟨dn,UH,IM⟩:∃dn:Nat,(1:Int)+dd=((dn:Nat):Int)∧1≤dn∧dn≤8:=⟨(1+dd).toNat,by lia,by lia,by lia⟩
 refine⟨dn,IM.2,l,cs,p1,60,by rw[UH];rfl,IM.1,hg,wl hW jk,aa,by decide,fun d c k Wy qw L9 AI=>?_⟩
 rw[eC]
 have Qv:S p1=none:=by
  cases e:S p1 with
  |none=>rfl
  |some x=>rw[bl _ _ e] at jk;cases jk
 have b3:Sub S (S2.set p1 (.lst [.int ((60 - k:Nat):Int)])):=gE bl Qv
 have w3:(S2.set p1 (.lst [.int ((60 - k:Nat):Int)])) l=some .well:=(ak UG).trans hW
 generalize S2.set p1 (.lst [.int ((60 - k:Nat):Int)])=S3 at b3 w3 ⊢
 refine⟨_,rfl,dn,IM.2,d,c,rfl,AI,by lia,fun text UI RY=>?_⟩
 have j2:Tx 7200 text:=(RY c AI).le (by lia)
 -- spoiled
 refine⟨fun aw S'=>∃text o6,aw=[some (.g8 (ns.map D.int)),some (.ref l),some (.tup (cs.map bq)),some (.int (1+((i:Nat):Int))),some d,some (.str text),o6,o7,o8,o9,Jv]∧Tx 58090 text∧S' l=some .well∧Sub S S',?_,?_⟩
 ·refine⟨_,rfl,l,_,rfl,(by decide),(by decide),w3,fun n4 Rp Rq=>⟨_,rfl,by lia,by lia,?_⟩⟩
  refine⟨fun j aw S'=>∃text o6,aw=[some (.g8 (ns.map D.int)),some (.ref l),some (.tup (cs.map bq)),some (.int (1+((i:Nat):Int))),some d,some (.str text),o6,o7,o8,o9,Jv]∧Tx (Ju j) text∧S' l=some .well∧Sub S S',⟨text,o6,rfl,j2,w3,b3⟩,fun _ _ _ _=>trivial,?_,?_⟩
  ·rintro j d' aw S6 hd ⟨text,o6,rfl,ht,IP,EW⟩
   have hd:(jZ 0 n4.toNat)[j]?=some d':=hd
   obtain⟨hj,rfl⟩:=hG hd
   obtain⟨g1,g2⟩:=C9 (i:=j) (by lia)
   refine⟨_,rfl,_,rfl,_,rfl,l,cs,text,Ju j,rfl,hg,IP,ht,g1,fun u hu=>?_⟩
   rw[g2] at hu
   exact⟨u,_,rfl,hu,IP,EW⟩
  ·rintro aw S6 ⟨text,o6,rfl,ht,IP,EW⟩
   exact fo ⟨text,o6,rfl,ht.le (IK _),IP,EW⟩
 clear j2 RY UI text
 rintro aw S6 ⟨text,RZ,rfl,ht,IP,EW⟩
 have Nl:Tx 90000 text:=ht.le (by decide)
 -- the others
 refine⟨_,rfl,_,.inl rfl,?_⟩
 refine iI (fun d u=>∃c:Str×Str,∃k:Str,d=bq c∧u=bq (c.1,k)∧(k = "number" ∨ k = "word")) trivial (by show (cs.map bq).length≤_;rw[za];lia) (fun d hd Q hQ=>?_) fun UJ x5 p4 i9=>?_
 ·obtain⟨c,hc,rfl⟩:=zC.mp hd
  refine⟨_,rfl,rfl,_,_,rfl,_,_,rfl,rfl,_,rfl,n2,fun p hp=>⟨_,rfl,l,_,rfl,(by decide),(by decide),wl IP hp,fun Wz PZ M_=>dF PZ M_ hp fun d hd=>?_⟩⟩
  obtain⟨kd,rfl,Qw⟩:∃kd:Str,d=.str kd∧(kd = "number" ∨ kd = "word"):=by
   have hd:d∈[D.str "number",.str "word"]:=hd
   simp only [zc,zw,or_false] at hd
   rcases hd with h|h
   ·exact⟨_,h,.inl rfl⟩
   ·exact⟨_,h,.inr rfl⟩
  exact⟨n2,hQ _ ⟨c,kd,rfl,rfl,Qw⟩⟩
 obtain⟨os,rfl,UK,aS⟩:=Dc (cs:=cs) x5 rfl
 have R1:=Fq hg.1 UK aS
 refine⟨_,_,rfl,.inl aa,?_⟩
 have b7:=EW.trans (.new (c:=.lst (os.map bq)) i9)
 have w7:=wl (c:=.lst (os.map bq)) IP i9
 generalize S6.set p4 (.lst (os.map bq))=S7 at b7 w7 ⊢
 refine⟨_,rfl,_,rfl,os,.str text,rfl,R1,Nl.rd,fun _=>⟨_,rfl,_,rfl,os,text,rfl,R1,Nl,fun pd S8 R3 Qx=>Dd Nl.2 Qx ⟨_,rfl,aM ?_⟩⟩⟩
 have b8:=b7.trans R3
 have w8:=R3 _ _ w7
 have Qu:text.length≤58090:=ht.1
 have UL:text.length+(" " : Str).length≤sizeLine:=sm (by show _+1≤_;lia)
 have UM:(" " : Str).length+text.length≤sizeLine:=sm (by show 1+_≤_;lia)
 have UN:text.length+("\n" : Str).length≤sizeLine:=sm (by show _+1≤_;lia)
 have R4:Tx 1 (" " : Str):=⟨by trivial,by trivial⟩
 have UO:Tx 1 ("\n" : Str):=⟨by trivial,by trivial⟩
 have Mg:∀u∈([text, " " ++ text,text ++ " ",bL text " " "  ",text ++ "\n"]:List Str),Tx 90000 u:=fun u hu=>by
  simp only [zc,zw,or_false] at hu
  rcases hu with rfl|rfl|rfl|rfl|rfl
  ·exact Nl
  ·exact (R4.app ht).le (by decide)
  ·exact (ht.app R4).le (by decide)
  ·exact (IL ht).le (by decide)
  ·exact (ht.app UO).le (by decide)
 refine⟨_,rfl,_,rfl,UM,_,rfl,UL,_,rfl,text,rfl,(by show _+2≤_;lia),_,rfl,UN,sm (show 5≤100000 by decide),fun pl l9=>?_⟩
 have vl:(S8.set pl (.lst (([text, " " ++ text,text ++ " ",bL text " " "  ",text ++ "\n"]:List Str).map D.str))) pl=some (.lst (([text, " " ++ text,text ++ " ",bL text " " "  ",text ++ "\n"]:List Str).map D.str)):=aa
 have b9:=b8.trans (.new (c:=.lst (([text, " " ++ text,text ++ " ",bL text " " "  ",text ++ "\n"]:List Str).map D.str)) l9)
 have w9:=wl (c:=.lst (([text, " " ++ text,text ++ " ",bL text " " "  ",text ++ "\n"]:List Str).map D.str)) w8 l9
 rw[show ([D.str text,.str (" " ++ text),.str (text ++ " "),.str (bL text " " "  "),.str (text ++ "\n")]:List D)=([text, " " ++ text,text ++ " ",bL text " " "  ",text ++ "\n"]:List Str).map D.str from rfl]
 have l5:([text, " " ++ text,text ++ " ",bL text " " "  ",text ++ "\n"]:List Str).length=5:=rfl
 generalize ([text, " " ++ text,text ++ " ",bL text " " "  ",text ++ "\n"]:List Str)=us at Mg vl b9 w9 l5 ⊢
 generalize S8.set pl (.lst (us.map D.str))=S9 at vl b9 w9 ⊢
 refine⟨fun aw S'=>∃o9,aw=[some (.g8 (ns.map D.int)),some (.ref l),some (.tup (cs.map bq)),some (.int (1+((i:Nat):Int))),some d,some (.str text),RZ,some (.tup (os.map bq)),some (.ref pl),o9,Jv]∧S' l=some .well∧Sub S S',?_,?_⟩
 ·refine⟨_,rfl,_,rfl,l,rfl,w9,fun g UP=>⟨n1,fun p2 cP=>⟨_,_,(Sub.new cP) _ _ vl,aa,sm (by show (us.map D.str).length+1≤_;rw[za];lia),fun p3 gJ=>⟨_,aa,?_⟩⟩⟩⟩
  have e6:us.map D.str++[.str g]=(us++[g]).map D.str:=by rw[zT];rfl
  have Qy:∀u∈us++[g],Tx 90000 u:=fun u hu=>by
   rcases zW.mp hu with h|h
   ·exact Mg u h
   ·rw[zM.mp h];exact UP.le (by decide)
  rw[e6]
  have b10:=(b9.trans (.new (c:=.lst [.str g]) cP)).trans (.new (c:=.lst ((us++[g]).map D.str)) gJ)
  have R5:=wl (c:=.lst ((us++[g]).map D.str)) (wl (c:=.lst [.str g]) w9 cP) gJ
  have v10:((S9.set p2 (.lst [.str g])).set p3 (.lst ((us++[g]).map D.str))) p3=some (.lst ((us++[g]).map D.str)):=aa
  generalize (S9.set p2 (.lst [.str g])).set p3 (.lst ((us++[g]).map D.str))=S10 at b10 R5 v10 ⊢
  refine⟨fun _ aw S'=>(∃o9,aw=[some (.g8 (ns.map D.int)),some (.ref l),some (.tup (cs.map bq)),some (.int (1+((i:Nat):Int))),some d,some (.str text),RZ,some (.tup (os.map bq)),some (.ref pl),o9,Jv])∧S' l=some .well∧Sub S S'∧S' p3=some (.lst ((us++[g]).map D.str)),⟨⟨o9,rfl⟩,R5,b10,v10⟩,fun _ _ _ h=>h.2.2.2,?_,fun aw S' ⟨⟨o,h⟩,h2,h3,_⟩=>fo ⟨o,h,h2,h3⟩⟩
  rintro j d' aw WA hd ⟨⟨UQ,rfl⟩,UR,b11,v11⟩
  have hd:d'∈(us++[g]).map D.str:=z0 hd
  obtain⟨u,hu,rfl⟩:=zC.mp hd
  have Qz:=Qy u hu
  exact⟨_,rfl,_,rfl,cs,.str u,rfl,hg.1,Qz.rd,fun _=>⟨_,rfl,_,rfl,cs,u,rfl,hg.1,Qz,fun pd WB IQ Qx=>Dd Qz.2 Qx ⟨_,rfl,aM ⟨⟨_,rfl⟩,IQ _ _ UR,b11.trans IQ,IQ _ _ v11⟩⟩⟩⟩
 rintro aw US ⟨UQ,rfl,UT,UU⟩
 refine⟨n1,n1,fun pi R6=>⟨sm (show 6≤100000 by decide),fun p hp=>⟨_,rfl,l,_,rfl,(by decide),(by decide),wl (wl UT R6) hp,fun n5 UW UX=>dF UW UX hp fun d hd=>?_⟩⟩⟩
 obtain⟨hk,Dk⟩:(∃k,BB (US.set pi (.lst [.str "( every )"])) d k)∧∀z,d=.str z→z = "" := by
  have hd:d∈[D.aK,.int 7,.bl true,.tup [.str "every"],.ref pi,.str ""]:=hd
  simp only [zc,zw,or_false] at hd
  rcases hd with rfl|rfl|rfl|rfl|rfl|rfl
  ·exact⟨⟨.aK,rfl⟩,fun _=>nofun⟩
  ·exact⟨⟨.int,rfl⟩,fun _=>nofun⟩
  ·exact⟨⟨.bl,rfl⟩,fun _=>nofun⟩
  ·exact⟨⟨.tup,rfl⟩,fun _=>nofun⟩
  ·exact⟨⟨.lst,.inl ⟨rfl,_,aa⟩⟩,fun _=>nofun⟩
  ·exact⟨⟨.str,rfl⟩,fun z e=>by cases e;rfl⟩
 refine⟨_,rfl,_,rfl,cs,d,rfl,hg.1,⟨hk,fun z e=>by rw[Dk z e];exact⟨by trivial,by trivial⟩⟩,fun _=>?_⟩
 rw[Mf cs Dk]
 exact⟨_,rfl,aM ⟨_,_,_,_,_,_,_,_,_,rfl,UU.trans (.new R6)⟩⟩
def Df(K:Frag):Sp:=fun vs H Q _=>u7 K Gn vs H Q E0
theorem IS(T:Txt w K mg t):cI P w K mg base MC 23 t.Ga t.Cq ["_law_script"] (Df K):=cI.calm (Fs T)
theorem Dg{K:Frag}{H:Hp}{a:Addr}{ns:List Int}(hl:ns.length≤63)(hO:sR [] H)(hS:i7 K H a (ns.map V.int)):Df K [.ref a] H (fun v _=>v=.bl true) fun _ _ _=>False:=by
 have hR:FH K H a (ns.map V.int):=by
  rcases hS with (h|h)|h
  ·rcases hO.all a with q|⟨o,xs,q⟩|⟨_,q⟩
   ·rw[q] at h;cases h
   ·rw[q] at h;cases h
   ·rw[q] at h;cases h
  ·exact .inl h
  ·exact .inr h
 exact⟨[.g8 (ns.map D.int)],fun _=>none,fun d _=>d=.bl true,fun _ _=>False,br (Bx hR (wH ns)) bR,fun _ _ e=>(by cases e),⟨ns,rfl,hl,rfl⟩,fun d S v H' e r _ _=>by subst e;exact r.bl,fun _ _ _ z=>z.elim⟩
theorem IT{P:Program}{w:World}{K:Frag}{mg:Str→Option Value}{fa:Addr}(Hm:mg "law" = some (.ref fa))(T:∃t:F_,Txt w K mg t):∃(fd:FuncData) (sp:Sp),(∀b∈([]:List Addr),∃c,codeHdIn K c b=true)∧(∀(s:Shared) (u:Value),BindsTo s fd ⟨[u],[]⟩ [("_law_script",u)])∧(∀base:Heap,Bm mg base→K.In base→base.Ns mainGlobals mg→cI P w K mg base MC 23 fa fd ["_law_script"] sp)∧∀(H:Hp) (a:Addr) (ns:List Int),ns.length≤63→sR [] H→i7 K H a (ns.map V.int)→sp [.ref a] H (fun v _=>v=.bl true) fun _ _ _=>False:=by
 obtain⟨t,T⟩:=T
 have e0:=Hm.symm.trans T.PL.m
 cases e0
 exact⟨_,_,fun b hb=>(nomatch hb),T.bl,fun base _ kb nb=>IS T,fun H a ns hl hO hS=>Dg hl hO hS⟩
end My
end Tactic
open Tactic
local macro_rules|`(command|universe $xs*)=>do return Lean.mkNullNode (← xs.mapM fun x=>`(command|theorem $(Lean.mkIdent (.mkSimple s!"tw{x.getId.toString.foldl (fun n c=>n*62+(if c.isDigit then c.toNat-48 else if c.isUpper then c.toNat-55 else c.toNat-61)) 0-10*62^10}")):ident : True:=trivial))
namespace PySem.W.Fast
universe EJ6CsVgP0KA FYMz3VL75cC Sq71n160PNj JLF0fUF1rgT FKQkHEjvcDU MDNcFMpubSn F4KITnqxknO R0EZiNSmwi5 RL70pyAub89 ODjD3RfPMJu VJaSbviz8WS Iu2wyWLSToS OTklLdo1o4U Psyj99x6IHw GkuEiRkAZ2I VbflpaY5QyO G7Pv8D6NaIC KPab2Ggsfk3 MiWilqJJPMu VCW4sRp4Ds8 ASdmY149fB6 DhMs3pdwxjz DcnOs8HR5yd KjgCn8VsFEw MPqLVXxQDsC Uvsg9Obrn5G B8mbnFhkP4E GOniR0V1LXu SauIq00ZnjR PkjZKCA2h1l D13eqm2Jd4b Gp9fV8lqqxm KMZE3ze9E52 LvHKrPicyBn SeyNLk60D7k D9V5wRceAHV BqQRb3W4qvn F4S0j38epLv MicE818IiMf OkawILIrg7h GEsMyB6ttvY EGuMMTvLMDn C1IcI83gJ83 EQj9KJBiS2v RKI5GNf9Je2 UAaU3ymcXft R9MPqOajAbt HpsCPdUydNi ARvSkKciRjQ GcwaF5tboTf FA6OLB52l22 E5jG8HjT0H3 CpjAVp2K75H Iu6GCTrq9tc ERKKhxIShY8 Ppm9iKs0JyM F1CBGCNKgFe DTt3E5WNiCt VJEcLWfG3ya OWHR2A5HgOU ANxOw48G1g9 Akvm2diT7YH ImSJuru7v8e Bf87fdOvCMD VROJkHi3eJL U9WhwmQHq85 BdADJrXMRyU RbGqpJsQJ6Y Bth5gCGIudE Q3ihJxXX20z Rqxk1P9glNk CWPYC0N7vcm PngLm0XPr7g H6kBViwtbqr Qt8UiWFhPG2 GbCzisIliSx A7j4LtBW35y B7aMvtIyIGu PAQbfn7G2Xu Tlhh3NrmHkF PbYslVpmUCF GQSByXndfnK DhrNzcf7s1I J3CgcF15sMq ComNqOzFpk2 IvhlzN0vcLm UHg5cpVkRoj Rq3DGaDsZyv LzuvMGw9Dp2 Ag56Zyd6Hj4 Gmw3nLcjKTQ K6OAKNLFR11 G70wj7nSJs7 ImlgRqnYDSY Udaw0bPB9Jc HH6CNuAnovg LGCr6AlmkRD EuBMgJ4oPuG R8QoDmfTgaE OSsHduJwZLO QqxT41V5enu A0RfRQgNGsA Gyq5n0smd7F UeWh5p6sMwT MHNyz1adU2a OrbFzzd2aEo RXy4Rvo0s4F PTAfWylNlvA PTRhwqUtabt R4ewg1G8m9V NhZL66UJ6o2 NLhkVPDV0eo UKs1DjcOyg9 RRhEmAfGwZ7 Ig8VyCSa3AR P6x4f0NZhyw MixlZgnBXLY QJHRp7lyKvJ QXpmb4NIG1m AkKcKQ56WfH KLpBVqdWtqS STcS8yZVuPm SBP1iHlFK0Q JYKdu2I2Tok Vork8HSaaoV DR8AdPvaDPn OhOjRjSWE0V KsgfxI2ilFZ VFlaAatyElZ EDVuUFnZb3d PotGO6ID7zH C3iBNFFTYuN SraZELn3Enb JuXGsSO7zaP CfjvYLmOjwr GfS5NXIRTwL EYd2lrbPqyG Q3nHMQkmuls SDWyDnRkyiW A15vTbn9t7f FahZocjbe6i NBs0noniz1I GLhgS9FXi9q JRgystxbWYB K268Z3IHkDp A7YGQrJspRf CzAhn1Sw33P J72qs9YRJUF UGJHIEqXWsL EwUUGxu14UZ N4QKREYZAdO MsAjexTZYFV PeTrmiHVM9j HVwPO02kPcP JfR6Ljafgmv AntrSAfmPdC HRn5qaB0JOl SH84RxSKE0S PA5ZxCgLmq3 HMKoW2B53xw Ey3xGqzHiqB MXTM0IqRG3s UnkfHiHpeCu NFcNBreEq9o SMYV1hoGh7e BHU6D7WxuLF THUdsx948om DKX1uEtcXiA Fke8isPcIlE Ax1Hw69in52 MWnGnNJJjN5 Cqi800KW1Fz ARl1tSMKrh0 NyaMG2U7OxF Ifzd2Dgjnba N2QYOJ3oKJv MGOWWtCXqdZ FXASTf5llAe Sjf9yktRcJx PExiHRnWwLk E9kGnShAEHo ArrRHT3QzpW Gggd3WCUp24 Mv2ZWFTYYma K0DG609esvH EGOTXWXNa9R T5qgyZi8Qmh KAnFxx7S5Sv TTsZsF2BvfX T3W1XmQFRTQ Dd8pSVXWtQp F3kPGOPdwvD BPaD1HmnDuT CFRs0H3S1w6 KUx2rQIUUVm Ccsyz9qJKiM G0TanXg0Pdc RKURKlnS6ou GIqM8oXq3IK FWCuBI26EEa Fm1ONvh5PA3 MD3FZPc8VA5 Lq6SP5IJ9cA TYZytcF9jI9 LtoBErdiUxZ FQdlrUhqrsq D47UnSXZShn FNA8TgaMvmV MG4z7fyc6tR VMF9WuX2Vsd AGzPbnqmtby OPli82kPUZ0 E3EiSRf0irw NN2Z846aNnZ POExk7QIH1M RPbM50WtqFR Ob0slxujoB6 AyNkyQ2yUev T8OWUe0giGq CbvO0M8IMFi TRKP7iPMqbW Gi0g1UZqNjx KgDfbaOxBgj J0Kg9zf7Mgv ApMWMfdql3X I9pVH1zpT01 TgJaGNW6KvQ JXc45VMhwSK Te2NGOMPJCz Q1cdcFO5zuB MNXzApG9USx OkmW8aj552T SSCWdrGFcol KYHcc8PUz0A Rj7lJqw74tX Ig2ntI0uOjB HAVu9q8fQ5b HuuL9OYdkGj BkY5WkS9NQj D82IODgfQPD Iz7Go5MSuk1 ODBzf6ANSzx LoxQSnj2OPT LqsH5ZbHzh4 EVBH9HOLk5I KZFDpNfUkTu V1Dy6aRrAp7 AgOIH6AUZi0 UdqJ9MOIC9p FoJ32b3OmCW DpR9oV5J441 FHxokOW0lAV OKadmRNdMQ3 OpIF78fRoEl B5P2kZICmtM LX2Z8lXTthN UbFhhrRY4eL Kc0mSipRTeK MsQn7U0uviR TRU7yfrxp4Z FWwFFzhXE7x CxJ6XA7oY08 T8oNV0Oiux3 IdbJ41ISZYK LHIGBpY5kFJ Fy5IusJ9Zql CiNb7wEwFtP LL3o94tOmY4 HJswrLsZRcF I4cTXCWlDFi VOyYqScoYmZ GdSDDUrsh47 KSGv0sss5Jk MHJhfcK0kzS GBt4u8OkjZE UnMqmjD2Wxs FIeRzg382Xz LZLf5rlK6mL FRf3EjFNp2q Di0mc6hGPib CR5AtK4a02n BdEWn26eoHM Q968sE60Mt3 T4pCWwe5u6v IIQLFnFyIKR TUIYRLTsT07 OlhoR53I3AQ HEBYZCdhLxT CKq3PcBPHRD UilUhXijjkq I8e4oyI6lGk TvW9CN5dzb6 JDOtFW5vQUV VFIZPy5QSmM DY1p6I37DyU CaERoAmIsQW TIulOduqXQS NpRaQ1yKg7A HlBk6rZJaxN Phqh8Gg7SqC KlN2O23HmpZ EBCr5djxraB KvJ7txAPyrz QJPCgpIKAaz LSfvXUCxDQR Exzz7rtpFYz RldhUGdIqET JrITgY3VE4m KlpS07QT0w6 L6hjsJ6ihe0 QCdsbom6BTo A8aWhIyEb2O I5ciCvMZlfz HSGQdyWU7d4 F0MWZi4fOQN Ero5dFvbE5l UVWFdALL61z EmjpKoJ5Duc ItWTuJS7VWX TU9wlJElcM2 LTStafXZhov HSaSeVcn2TU GoaWeyAGjMW VjFwxFgXZDy K5HHuoNWLIA FdsnDs7GxHM I1q7uqpixrc RrB5o5bVBNc CkB9tF5FH2e MEv8q18oRXB Q9yPUk7vs3N LfthquR5Pc9 AuW8M4EPCFE MYXHEnoU6Tq CBJI2zNKwzf MHQurrLFjLD Cz2d1L4DWJU GcRYrkgI24g BalE7PxVAXi DCgqfLBc081 MwfDhf0Dt1X RXPqg4d84Jn Tfm1FPa7FxS LdOn2ywGkhR Ul99iM5lqGv P9Qv3r5WAtP SABNG7gUi3O REqfOsqK2sw Hf9ucBs84ep G2wyHMDAUHS NV1aGemDQ3x HDnROtFeCq3 ACjOujXzXRL QfOBR2J35t0 OYLwc0hCfHr RJZjwFW6qvF BKqHXs3ulPY U9HFpmBhqD8 Robn6qFfyxp BUUt1SOBXOC VDWj9u9xhUA JSuoURFtyto OEIcywptS7b SxzjVTEkBfU ACle96bz1oB NgiCbXGjO8N H6wbIIEDxlE D42BVKtRSqh LRwx6Hy19wr CMO5boHHdJs VfIeTrJKY1h Bqsv48xvpmL RZ4gFeMKoIB LSl853x7O4z ByCBwFXG7kc COylNXdcAJn LqGkEQxZM3Z HwmrVn03sM1 JQYv6LLU3sL A1nETTHdj6z B2ztBRkTIt6 SMTq5AubVq1 DnG6KT1ipDb SvGjvE4lG2B Dn7VbJMcDRa MmcrTRqmyMU I1V04HJBdYS PLaXWR04wfU NxFWMFXHMOK JkmUnIll345 CGPNlswxRc6 StmUWnmkJvK JlmsvfHFRpS OY3QzClI6yL GI5LNyKkpux KfZR1yxSfUg FjvSiYxE52q CPymVHrpU5e VKSulAuyq3r KYQFZhb9Hf5 Pv1VIRlhA0j M7Ic6OqutPK NjlQhEV51Uz UKY4asR26ob QHLQRgEEIRv
end PySem.W.Fast
open PySem PySem.W PyProof.Rows
set_option maxRecDepth 100000 in
set_option maxHeartbeats 0 in
theorem PySem.Challenge.cw_pageturns_k64_texts_of_no_sieve_holds : PySem.Challenge.rw_pageturns_k64_texts_of_no_sieve.Holds := by
 w_on;o_law;k_head;(case hw=>w_witness2)
 k_fill
 refine L2.B0 (l:=PySem.Challenge.rw_pageturns_k64_texts_of_no_sieve) (n:=63) (k:=23) (x := "_law_script") (CX:=L2.MC) (ts:=[]) rfl (by decide) rfl ⟨rfl,by decide,by decide⟩ (fun w h Y=>PySem.W.kIn_of Y) (fun w h Y b hb=>nomatch hb) (fun w h Y b hb=>nomatch hb) ?tF fun _ _ _ _ z=>z
 intro w mg fa h KX G Hm
 refine My.IT Hm ?_
 refine' L2.dZ KX G "is_whole" My.jv ["thing"] ?a1 ?b1 ?c1 ?d1 ?e1 fun d0 F0=>?z1
 (case a1|b1|c1|d1=>k_is)
 (case e1=>exact L2.jN fun _=>rfl)
 refine' L2.dZ KX G "is_letter" My.h_ ["sign"] ?a2 ?b2 ?c2 ?d2 ?e2 fun d1 F1=>?z2
 (case a2|b2|c2|d2=>k_is)
 (case e2=>exact L2.jN fun _=>rfl)
 refine' L2.dZ KX G "is_figure" My.ia ["sign"] ?a3 ?b3 ?c3 ?d3 ?e3 fun d2 F2=>?z3
 (case a3|b3|c3|d3=>k_is)
 (case e3=>exact L2.jN fun _=>rfl)
 refine' L2.dZ KX G "is_name" My.iW ["thing"] ?a4 ?b4 ?c4 ?d4 ?e4 fun d3 F3=>?z4
 (case a4|b4|c4|d4=>k_is)
 (case e4=>exact L2.jN fun _=>rfl)
 refine' L2.dZ KX G "is_key" My.j9 ["thing"] ?a5 ?b5 ?c5 ?d5 ?e5 fun d4 F4=>?z5
 (case a5|b5|c5|d5=>k_is)
 (case e5=>exact L2.jN fun _=>rfl)
 refine' L2.dZ KX G "is_word" My.iX ["thing"] ?a6 ?b6 ?c6 ?d6 ?e6 fun d5 F5=>?z6
 (case a6|b6|c6|d6=>k_is)
 (case e6=>exact L2.jN fun _=>rfl)
 refine' L2.dZ KX G "is_value" My.jw ["kind","thing"] ?a7 ?b7 ?c7 ?d7 ?e7 fun d6 F6=>?z7
 (case a7|b7|c7|d7=>k_is)
 (case e7=>exact L2.ln2 fun _ _=>rfl)
 refine' L2.dZ KX G "kind_named" My.gj ["columns","name"] ?a8 ?b8 ?c8 ?d8 ?e8 fun d7 F7=>?z8
 (case a8|b8|c8|d8=>k_is)
 (case e8=>exact L2.ln2 fun _ _=>rfl)
 refine' L2.dZ KX G "value_text" My.gk ["value"] ?a9 ?b9 ?c9 ?d9 ?e9 fun d8 F8=>?z9
 (case a9|b9|c9|d9=>k_is)
 (case e9=>exact L2.jN fun _=>rfl)
 refine' L2.dZ KX G "is_value_text" My.dS ["text"] ?a10 ?b10 ?c10 ?d10 ?e10 fun d9 F9=>?z10
 (case a10|b10|c10|d10=>k_is)
 (case e10=>exact L2.jN fun _=>rfl)
 refine' L2.dZ KX G "value_of_text" My.dU ["text"] ?a11 ?b11 ?c11 ?d11 ?e11 fun d10 UY=>?z11
 (case a11|b11|c11|d11=>k_is)
 (case e11=>exact L2.jN fun _=>rfl)
 refine' L2.dZ KX G "is_number_text" My.bY ["text","most"] ?a12 ?b12 ?c12 ?d12 ?e12 fun d11 UZ=>?z12
 (case a12|b12|c12|d12=>k_is)
 (case e12=>exact L2.ln2 fun _ _=>rfl)
 refine' L2.dZ KX G "check_sieve" My.dD ["columns","sieve"] ?a13 ?b13 ?c13 ?d13 ?e13 fun d12 U0=>?z13
 (case a13|b13|c13|d13=>k_is)
 (case e13=>exact L2.ln2 fun _ _=>rfl)
 refine' L2.dZ KX G "is_formed" My.fi ["columns","thing"] ?a14 ?b14 ?c14 ?d14 ?e14 fun d13 U6=>?z14
 (case a14|b14|c14|d14=>k_is)
 (case e14=>exact L2.ln2 fun _ _=>rfl)
 refine' L2.dZ KX G "is_short_tuple" My.dm ["thing"] ?a15 ?b15 ?c15 ?d15 ?e15 fun d14 U7=>?z15
 (case a15|b15|c15|d15=>k_is)
 (case e15=>exact L2.jN fun _=>rfl)
 refine' L2.dZ KX G "fits_column" My.fA ["columns","sieve"] ?a16 ?b16 ?c16 ?d16 ?e16 fun d15 U8=>?z16
 (case a16|b16|c16|d16=>k_is)
 (case e16=>exact L2.ln2 fun _ _=>rfl)
 refine' L2.dZ KX G "sieves_within" My.dW ["sieves"] ?a17 ?b17 ?c17 ?d17 ?e17 fun d16 U9=>?z17
 (case a17|b17|c17|d17=>k_is)
 (case e17=>exact L2.jN fun _=>rfl)
 refine' L2.dZ KX G "read_sieve" My.gm ["columns","text"] ?a18 ?b18 ?c18 ?d18 ?e18 fun d17 F17=>?z18
 (case a18|b18|c18|d18=>k_is)
 (case e18=>exact L2.ln2 fun _ _=>rfl)
 refine' L2.dZ KX G "sieve_in" My.jx ["text"] ?a19 ?b19 ?c19 ?d19 ?e19 fun d18 U_=>?z19
 (case a19|b19|c19|d19=>k_is)
 (case e19=>exact L2.jN fun _=>rfl)
 refine' L2.dZ KX G "sieve_of" My.jy ["things"] ?a20 ?b20 ?c20 ?d20 ?e20 fun d19 Va=>?z20
 (case a20|b20|c20|d20=>k_is)
 (case e20=>exact L2.jN fun _=>rfl)
 refine' L2.dZ KX G "are_words" My.fj ["things"] ?a21 ?b21 ?c21 ?d21 ?e21 fun d20 F20=>?z21
 (case a21|b21|c21|d21=>k_is)
 (case e21=>exact L2.jN fun _=>rfl)
 refine' L2.dZ KX G "are_sieves" My.eu ["things"] ?a22 ?b22 ?c22 ?d22 ?e22 fun d21 Vb=>?z22
 (case a22|b22|c22|d22=>k_is)
 (case e22=>exact L2.jN fun _=>rfl)
 refine' L2.dZ KX G "words_of" My.jz ["text"] ?a23 ?b23 ?c23 ?d23 ?e23 fun d22 Vc=>?z23
 (case a23|b23|c23|d23=>k_is)
 (case e23=>exact L2.jN fun _=>rfl)
 refine' L2.dZ KX G "value_in_word" My.dX ["word"] ?a24 ?b24 ?c24 ?d24 ?e24 fun d23 Vd=>?z24
 (case a24|b24|c24|d24=>k_is)
 (case e24=>exact L2.jN fun _=>rfl)
 refine' L2.dZ KX G "_law_well" My.ny ["_law_script","_law_k"] ?a25 ?b25 ?c25 ?d25 ?e25 fun d24 F24=>?z25
 (case a25|b25|c25|d25=>k_is)
 (case e25=>exact L2.ln2 fun _ _=>rfl)
 refine' L2.dZ KX G "_law_draw" My.nz ["_law_well_here","_law_most"] ?a26 ?b26 ?c26 ?d26 ?e26 fun d25 Ve=>?z26
 (case a26|b26|c26|d26=>k_is)
 (case e26=>exact L2.ln2 fun _ _=>rfl)
 refine' L2.dZ KX G "_law_columns" My.ib ["_law_well_here"] ?a27 ?b27 ?c27 ?d27 ?e27 fun d26 Vf=>?z27
 (case a27|b27|c27|d27=>k_is)
 (case e27=>exact L2.jN fun _=>rfl)
 refine' L2.dZ KX G "_law_number" My.jA ["_law_well_here"] ?a28 ?b28 ?c28 ?d28 ?e28 fun d27 Vg=>?z28
 (case a28|b28|c28|d28=>k_is)
 (case e28=>exact L2.jN fun _=>rfl)
 refine' L2.dZ KX G "_law_word" My.j_ ["_law_well_here"] ?a29 ?b29 ?c29 ?d29 ?e29 fun d28 Vh=>?z29
 (case a29|b29|c29|d29=>k_is)
 (case e29=>exact L2.jN fun _=>rfl)
 refine' L2.dZ KX G "_law_value" My.k_ ["_law_well_here","_law_kind"] ?a30 ?b30 ?c30 ?d30 ?e30 fun d29 F29=>?z30
 (case a30|b30|c30|d30=>k_is)
 (case e30=>exact L2.ln2 fun _ _=>rfl)
 refine' L2.dZ KX G "_law_key" My.qG ["_law_well_here"] ?a31 ?b31 ?c31 ?d31 ?e31 fun d30 Vi=>?z31
 (case a31|b31|c31|d31=>k_is)
 (case e31=>exact L2.jN fun _=>rfl)
 refine' L2.dZ KX G "_law_leaf" My.ka ["_law_well_here","_law_columns_here"] ?a32 ?b32 ?c32 ?d32 ?e32 fun d31 Vj=>?z32
 (case a32|b32|c32|d32=>k_is)
 (case e32=>exact L2.ln2 fun _ _=>rfl)
 refine' L2.dZ KX G "_law_sieve" My.la ["_law_well_here","_law_columns_here","_law_deep","_law_room"] ?a33 ?b33 ?c33 ?d33 ?e33 fun d32 F32=>?z33
 (case a33|b33|c33|d33=>k_is)
 (case e33=>exact L2.TV fun _ _ _ _=>rfl)
 refine' L2.dZ KX G "_law_value_text" My.eI ["_law_value_here"] ?a34 ?b34 ?c34 ?d34 ?e34 fun d33 Vk=>?z34
 (case a34|b34|c34|d34=>k_is)
 (case e34=>exact L2.jN fun _=>rfl)
 refine' L2.dZ KX G "_law_sieve_text" My.cU ["_law_sieve_here"] ?a35 ?b35 ?c35 ?d35 ?e35 fun d34 Vl=>?z35
 (case a35|b35|c35|d35=>k_is)
 (case e35=>exact L2.jN fun _=>rfl)
 refine' L2.dZ KX G "_law_are_figures" My.cF ["_law_text","_law_most"] ?a36 ?b36 ?c36 ?d36 ?e36 fun d35 F35=>?z36
 (case a36|b36|c36|d36=>k_is)
 (case e36=>exact L2.ln2 fun _ _=>rfl)
 refine' L2.dZ KX G "_law_fits" My.fN ["_law_kind","_law_text"] ?a37 ?b37 ?c37 ?d37 ?e37 fun d36 Vm=>?z37
 (case a37|b37|c37|d37=>k_is)
 (case e37=>exact L2.ln2 fun _ _=>rfl)
 refine' L2.dZ KX G "_law_told" My.nA ["_law_text"] ?a38 ?b38 ?c38 ?d38 ?e38 fun d37 Vn=>?z38
 (case a38|b38|c38|d38=>k_is)
 (case e38=>exact L2.jN fun _=>rfl)
 refine' L2.dZ KX G "_law_is_value_text" My.cV ["_law_text"] ?a39 ?b39 ?c39 ?d39 ?e39 fun d38 Vo=>?z39
 (case a39|b39|c39|d39=>k_is)
 (case e39=>exact L2.jN fun _=>rfl)
 refine' L2.dZ KX G "_law_is_key" My.gq ["_law_text"] ?a40 ?b40 ?c40 ?d40 ?e40 fun d39 F39=>?z40
 (case a40|b40|c40|d40=>k_is)
 (case e40=>exact L2.jN fun _=>rfl)
 refine' L2.dZ KX G "_law_menu" My.kc ["_law_well_here","_law_columns_here"] ?a41 ?b41 ?c41 ?d41 ?e41 fun d40 Vp=>?z41
 (case a41|b41|c41|d41=>k_is)
 (case e41=>exact L2.ln2 fun _ _=>rfl)
 refine' L2.dZ KX G "_law_spoiled" My.ic ["_law_well_here","_law_columns_here","_law_text"] ?a42 ?b42 ?c42 ?d42 ?e42 fun d41 Vq=>?z42
 (case a42|b42|c42|d42=>k_is)
 (case e42=>exact L2.Rb fun _ _ _=>rfl)
 refine' L2.dZ KX G "_law_leaf_at" My.ie ["_law_words","_law_at"] ?a43 ?b43 ?c43 ?d43 ?e43 fun d42 Vr=>?z43
 (case a43|b43|c43|d43=>k_is)
 (case e43=>exact L2.ln2 fun _ _=>rfl)
 refine' L2.dZ KX G "_law_inner_at" My.gu ["_law_words","_law_at"] ?a44 ?b44 ?c44 ?d44 ?e44 fun d43 Vs=>?z44
 (case a44|b44|c44|d44=>k_is)
 (case e44=>exact L2.ln2 fun _ _=>rfl)
 refine' L2.dZ KX G "_law_sieve_at" My.gv ["_law_words","_law_at"] ?a45 ?b45 ?c45 ?d45 ?e45 fun d44 Vt=>?z45
 (case a45|b45|c45|d45=>k_is)
 (case e45=>exact L2.ln2 fun _ _=>rfl)
 refine' L2.dZ KX G "_law_is_right" My.cW ["_law_columns_here","_law_sieve_here"] ?a46 ?b46 ?c46 ?d46 ?e46 fun d45 Vu=>?z46
 (case a46|b46|c46|d46=>k_is)
 (case e46=>exact L2.ln2 fun _ _=>rfl)
 refine' L2.dZ KX G "_law_deepest" My.ig ["_law_words"] ?a47 ?b47 ?c47 ?d47 ?e47 fun d46 Vv=>?z47
 (case a47|b47|c47|d47=>k_is)
 (case e47=>exact L2.jN fun _=>rfl)
 refine' L2.dZ KX G "_law_due" My.qH ["_law_columns_here","_law_text"] ?a48 ?b48 ?c48 ?d48 ?e48 fun d47 Vw=>?z48
 (case a48|b48|c48|d48=>k_is)
 (case e48=>exact L2.ln2 fun _ _=>rfl)
 refine' L2.dZ KX G "_law_found" My.lg ["_law_columns_here","_law_text"] ?a49 ?b49 ?c49 ?d49 ?e49 fun d48 Vx=>?z49
 (case a49|b49|c49|d49=>k_is)
 (case e49=>exact L2.ln2 fun _ _=>rfl)
 refine' L2.dZ KX G "_law_great" My.lh ["_law_well_here"] ?a50 ?b50 ?c50 ?d50 ?e50 fun d49 Vy=>?z50
 (case a50|b50|c50|d50=>k_is)
 (case e50=>exact L2.jN fun _=>rfl)
 refine' L2.TR KX G "law" My.wY ["_law_script"] ?a51 ?b51 ?c51 ?d51 ?e51 fun d50 e50 Vz VA=>?z51
 (case a51|b51|c51|d51=>k_is)
 (case e51=>exact L2.jN fun _=>rfl)
 refine' L2.H9 KX G "MOST_NAME_SIGNS" 8 ?a52 fun kK=>?z52
 (case a52=>k_is)
 refine' L2.H9 KX G "MOST_KEY_SIGNS" 12 ?a53 fun lO=>?z53
 (case a53=>k_is)
 refine' L2.H9 KX G "MOST_WORD_SIGNS" 40 ?a54 fun kL=>?z54
 (case a54=>k_is)
 refine' L2.H9 KX G "MOST_NUMBER_FIGURES" 60 ?a55 fun gS=>?z55
 (case a55=>k_is)
 refine' L2.H9 KX G "MOST_DEEP" 8 ?a56 fun uz=>?z56
 (case a56=>k_is)
 refine' L2.H9 KX G "MOST_PARTS" 200 ?a57 fun rG=>?z57
 (case a57=>k_is)
 refine' L2.H9 KX G "MOST_IN_A_TUPLE" 8 ?a58 fun kM=>?z58
 (case a58=>k_is)
 refine' L2.Ra KX G "COLUMN_WORDS" ?a59 ?b59 fun oh w_COLUMN_WORDS=>?z59
 (case a59|b59=>k_is)
 refine' L2.Ra KX G "LENGTHS" ?a60 ?b60 fun AK w_LENGTHS=>?z60
 (case a60|b60=>k_is)
 refine' L2.AR KX G "len" ?a61 fun Mh=>?z61
 (case a61=>k_is)
 refine' L2.AR KX G "all" ?a62 fun Mi=>?z62
 (case a62=>k_is)
 refine' L2.AR KX G "isinstance" ?a63 fun rH=>?z63
 (case a63=>k_is)
 refine' L2.AR KX G "range" ?a64 fun Ft=>?z64
 (case a64=>k_is)
 refine' L2.AR KX G "int" ?a65 fun Mj=>?z65
 (case a65=>k_is)
 refine' L2.AR KX G "str" ?a66 fun Ml=>?z66
 (case a66=>k_is)
 refine' L2.AR KX G "bool" ?a67 fun IU=>?z67
 (case a67=>k_is)
 refine' L2.AR KX G "tuple" ?a68 fun Fu=>?z68
 (case a68=>k_is)
 refine' L2.AR KX G "list" ?a69 fun IV=>?z69
 (case a69=>k_is)
 refine' L2.AR KX G "dict" ?a70 fun IW=>?z70
 (case a70=>k_is)
 refine' L2.AR KX G "max" ?a71 fun Mm=>?z71
 (case a71=>k_is)
 refine' L2.AR KX G "ValueError" ?a72 fun rJ=>?z72
 (case a72=>k_is)
 refine' L2.PK KX G "PageError" ?a73 ?b73 fun iN iD=>?z73
 (case a73=>k_is)
 (case b73=>k_exc)
 refine' L2.MY KX G "BadColumns" ?a74 fun gG=>?z74
 (case a74=>k_is)
 refine' L2.MY KX G "BadRow" ?a75 fun oi=>?z75
 (case a75=>k_is)
 refine' L2.MY KX G "BadOrder" ?a76 fun jL=>?z76
 (case a76=>k_is)
 refine' L2.PK KX G "BadSieve" ?a77 ?b77 fun aZ eP=>?z77
 (case a77=>k_is)
 (case b77=>k_exc)
 refine' L2.MY KX G "NoMark" ?a78 fun oj=>?z78
 (case a78=>k_is)
 refine' L2.PK KX G "NoText" ?a79 ?b79 fun bQ eQ=>?z79
 (case a79=>k_is)
 (case b79=>k_exc)
 refine' L2.Rh KX aZ ?a80 ?b80 ?c80 fun iF=>?z80
 (case a80|b80|c80=>k_is)
 refine' L2.Rh KX bQ ?a81 ?b81 ?c81 fun lz=>?z81
 (case a81|b81|c81=>k_is)
 refine' L2.Rg KX aZ iN ?a82 fun bU=>?z82
 (case a82=>k_is)
 refine' L2.Rg KX bQ iN ?a83 fun cJ=>?z83
 (case a83=>k_is)
 refine' L2.AS KX aZ gG false ?a84 fun k_BadSieve_BadColumns=>?z84
 (case a84=>kit_is)
 refine' L2.AS KX aZ oi false ?a85 fun k_BadSieve_BadRow=>?z85
 (case a85=>kit_is)
 refine' L2.AS KX aZ jL false ?a86 fun k_BadSieve_BadOrder=>?z86
 (case a86=>kit_is)
 refine' L2.AS KX aZ aZ true ?a87 fun k_BadSieve_BadSieve=>?z87
 (case a87=>kit_is)
 refine' L2.AS KX aZ oj false ?a88 fun k_BadSieve_NoMark=>?z88
 (case a88=>kit_is)
 refine' L2.AS KX aZ bQ false ?a89 fun k_BadSieve_NoText=>?z89
 (case a89=>kit_is)
 refine' L2.Rf KX aZ ?a90 fun k_BadSieve_ValueError=>?z90
 (case a90=>kit_is)
 refine' L2.AS KX bQ gG false ?a91 fun k_NoText_BadColumns=>?z91
 (case a91=>kit_is)
 refine' L2.AS KX bQ oi false ?a92 fun k_NoText_BadRow=>?z92
 (case a92=>kit_is)
 refine' L2.AS KX bQ jL false ?a93 fun k_NoText_BadOrder=>?z93
 (case a93=>kit_is)
 refine' L2.AS KX bQ aZ false ?a94 fun k_NoText_BadSieve=>?z94
 (case a94=>kit_is)
 refine' L2.AS KX bQ oj false ?a95 fun k_NoText_NoMark=>?z95
 (case a95=>kit_is)
 refine' L2.AS KX bQ bQ true ?a96 fun k_NoText_NoText=>?z96
 (case a96=>kit_is)
 refine' L2.Rf KX bQ ?a97 fun k_NoText_ValueError=>?z97
 (case a97=>kit_is)
 exact⟨⟨_,_,_,_,_,_,_,_,_,_,_,_,_,_,_,_,_,_,_,_,_,_,_,_,_,_,_,_,_,_,_,_,_,_,_,_,_,_,_,_,_,_,_,_,_,_,_,_,_,_,_,_,_,_,_,_,_,_,_,_,_,_,_,_,_,_,_,_,_,_,_,_,_,_,_,_,_,_,_,_,_,_,_,_,_,_,_,_,_,_,_,_,_,_,_,_,_,_,_,_,_,_,_,_,_,_,_,_,_,_,_,_,_,_,_,_,_,_⟩,⟨F0,F1,F2,F3,F4,F5,F6,F7,F8,F9,UY,UZ,U0,U6,U7,U8,U9,F17,U_,Va,F20,Vb,Vc,Vd,F24,Ve,Vf,Vg,Vh,F29,Vi,Vj,F32,Vk,Vl,F35,Vm,Vn,Vo,F39,Vp,Vq,Vr,Vs,Vt,Vu,Vv,Vw,Vx,Vy,VA,kK,lO,kL,gS,uz,rG,kM,oh,fun H=>L2.FI (xs:=[.str "is",.str "below",.str "above",.str "begins"]) ⟨_,_,_,w_COLUMN_WORDS,rfl,rfl,(by rw[yn];show 4≤16777216;decide),.cons ⟨_,rfl⟩ (.cons ⟨_,rfl⟩ (.cons ⟨_,rfl⟩ (.cons ⟨_,rfl⟩ (.nil))))⟩ (L2.qq ["is","below","above","begins"]),AK,⟨by first|rfl|decide,_,_,_,w_LENGTHS,⟨rfl,rfl,rfl⟩,rfl,.cons ⟨rfl,⟨_,rfl⟩,⟨_,rfl⟩⟩ (.cons ⟨rfl,⟨_,rfl⟩,⟨_,rfl⟩⟩ (.cons ⟨rfl,⟨_,rfl⟩,⟨_,rfl⟩⟩ (.cons ⟨rfl,⟨_,rfl⟩,⟨_,rfl⟩⟩ (.cons ⟨rfl,⟨_,rfl⟩,⟨_,rfl⟩⟩ (.cons ⟨rfl,⟨_,rfl⟩,⟨_,rfl⟩⟩ (.cons ⟨rfl,⟨_,rfl⟩,⟨_,rfl⟩⟩ (.cons ⟨rfl,⟨_,rfl⟩,⟨_,rfl⟩⟩ (.cons ⟨rfl,⟨_,rfl⟩,⟨_,rfl⟩⟩ (.nil))))))))),by trivial⟩,Mh,Mi,rH,Ft,Mj,Ml,IU,Fu,IV,IW,Mm,rJ,iN,iD,gG,oi,jL,aZ,eP,oj,bQ,eQ,iF,lz,bU,cJ,k_BadSieve_BadColumns,k_BadSieve_BadRow,k_BadSieve_BadOrder,k_BadSieve_BadSieve,k_BadSieve_NoMark,k_BadSieve_NoText,k_BadSieve_ValueError,k_NoText_BadColumns,k_NoText_BadRow,k_NoText_BadOrder,k_NoText_BadSieve,k_NoText_NoMark,k_NoText_NoText,k_NoText_ValueError,fun s v=>Vz s [v] rfl⟩⟩
