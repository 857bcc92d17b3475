import PyProof.Rows.All
import Wide.All
import OpenK.AllK
import Wide.FinOn
import Lean
import PyProof.EqAt
import PyProof.EqKinds
import PyProof.TupleCall
import PyProof.NsDelKeeps
import KE.KIsBytes
import PyProof.Rows.SetFrom
import KE.KDictOf
import PyProof.AttrMissSeq
import PyProof.WalksMore
import PyProof.ZipIter
import PyProof.StrBlock2
import PyProof.StrBlockI
import PyProof.Rows.StrJoin2
import PyProof.Rows.CountFlat
import PyProof.Rows.Range3
import PyProof.SumWalkG
import PyProof.Rows.ListMulArg
import PyProof.FactsAll.tuple
import PyProof.EnumFor
import PyProof.EnumMake
import KE.KDictLaws
import KE.KDictSum
import KE.KRevIter
import PyProof.Rows.SortStr
import PyProof.Rows.SortWalk
import PyProof.AutoListH
import PyProof.StrLawsReplace
import PyProof.Rows.SortShellK
import KE.KLam
import KE.KSortKey
import KE.KNestM
import PyProof.EnumStmt
import PyProof.ListMulRoad
import PySem.Challenge.RW_pageturns_k37_texts_of_no_mark
set_option compiler.extract_closed false
local macro_rules|`(tactic| trivial)=>`(tactic| decide +kernel)
set_option Elab.async false
set_option linter.all false
set_option maxRecDepth 100000
namespace Tactic
open PySem.W (instObj methodObj hideAll hideAll_get of_hideAll Frag lookIn plainGet findIn specialIn isFn keepIn mroIn kitOne kia_one kitx_list fnOf codeIn excIn Looks looks_mroIn looks_findIn KitX kitAny codeHdIn tabObj nsIn mg_of)
theorem za:type_of% @PySem.wpAny_bind:=@PySem.wpAny_bind
theorem zb:type_of% @List.length_map:=@List.length_map
theorem zc:type_of% @PySem.Heap.get?_push_of_some:=@PySem.Heap.get?_push_of_some
theorem zd:type_of% @List.mem_cons:=@List.mem_cons
theorem ze:type_of% @List.length_append:=@List.length_append
theorem zf:type_of% @Bool.true_and:=@Bool.true_and
theorem zg:type_of% @Bool.false_ne_true:=@Bool.false_ne_true
theorem zh:type_of% @Bool.false_and:=@Bool.false_and
theorem zi:type_of% @PySem.wpAny_pure:=@PySem.wpAny_pure
theorem zj:type_of% @Bool.and_eq_true:=@Bool.and_eq_true
theorem zk:type_of% @Nat.le_refl:=@Nat.le_refl
theorem zl:type_of% @List.mem_map:=@List.mem_map
theorem zm:type_of% @Nat.lt_of_lt_of_le:=@Nat.lt_of_lt_of_le
theorem zo:type_of% @PySem.Heap.get?_push_size:=@PySem.Heap.get?_push_size
theorem zp:type_of% @List.length_cons:=@List.length_cons
theorem zq:type_of% @List.not_mem_nil:=@List.not_mem_nil
theorem zr:type_of% @List.size_toArray:=@List.size_toArray
theorem zt:type_of% @decide_eq_true_eq:=@decide_eq_true_eq
theorem zu:type_of% @List.mem_cons_of_mem:=@List.mem_cons_of_mem
theorem zv:type_of% @decide_eq_false:=@decide_eq_false
theorem zw:type_of% @PySem.Heap.lt_size:=@PySem.Heap.lt_size
theorem zx:type_of% @List.mem_cons_self:=@List.mem_cons_self
theorem zy:type_of% @decide_eq_true:=@decide_eq_true
theorem zz:type_of% @of_decide_eq_true:=@of_decide_eq_true
theorem zA:type_of% @Nat.le_trans:=@Nat.le_trans
theorem zB:type_of% @List.length_drop:=@List.length_drop
theorem zC:type_of% @List.map_map:=@List.map_map
theorem zD:type_of% @List.map_cons:=@List.map_cons
theorem zE:type_of% @List.map_append:=@List.map_append
theorem zF:type_of% @PySem.F.plainAttrs_str:=@PySem.F.plainAttrs_str
theorem zG:type_of% @List.length_take:=@List.length_take
theorem zH:type_of% @List.getD_eq_getElem?_getD:=@List.getD_eq_getElem?_getD
theorem zI:type_of% @Nat.ne_of_lt:=@Nat.ne_of_lt
theorem zJ:type_of% @List.all_eq_true:=@List.all_eq_true
theorem zK:type_of% @decide_eq_decide:=@decide_eq_decide
theorem zL:type_of% @PySem.wpAny_field:=@PySem.wpAny_field
theorem zM:type_of% @List.mem_of_getElem?:=@List.mem_of_getElem?
theorem zN:type_of% @List.mem_append_right:=@List.mem_append_right
theorem zO:type_of% @List.getElem?_eq_getElem:=@List.getElem?_eq_getElem
theorem zP:type_of% @List.take_succ_cons:=@List.take_succ_cons
theorem zQ:type_of% @List.getElem?_map:=@List.getElem?_map
theorem zR:type_of% @Array.length_toList:=@Array.length_toList
theorem zS:type_of% @List.append_assoc:=@List.append_assoc
theorem zT:type_of% @List.mem_singleton:=@List.mem_singleton
theorem zU:type_of% @of_decide_eq_false:=@of_decide_eq_false
theorem zV:type_of% @Option.some.inj:=@Option.some.inj
theorem zW:type_of% @List.mem_append:=@List.mem_append
theorem zX:type_of% @PySem.wpAny_loadPart_at:=@PySem.wpAny_loadPart_at
theorem zY:type_of% @PySem.wpAny_mono:=@PySem.wpAny_mono
theorem zZ:type_of% @PySem.Heap.get?_update_other:=@PySem.Heap.get?_update_other
theorem z0:type_of% @PySem.Calls.spliced_cons:=@PySem.Calls.spliced_cons
theorem ya:type_of% @PySem.Heap.get?_update_self:=@PySem.Heap.get?_update_self
theorem yb:type_of% @Int.toNat_natCast:=@Int.toNat_natCast
theorem yc:type_of% @List.getElem?_eq_some_iff:=@List.getElem?_eq_some_iff
theorem yd:type_of% @PySem.Obj.data_mapFields:=@PySem.Obj.data_mapFields
theorem ye:type_of% @List.take_of_length_le:=@List.take_of_length_le
theorem yf:type_of% @PySem.Heap.size_push:=@PySem.Heap.size_push
theorem yg:type_of% @Bool.or_eq_true:=@Bool.or_eq_true
theorem yh:type_of% @PySem.wpAny_seqItems:=@PySem.wpAny_seqItems
theorem yi:type_of% @List.mem_append_left:=@List.mem_append_left
theorem yj:type_of% @Bool.eq_iff_iff:=@Bool.eq_iff_iff
theorem yk:type_of% @PySem.wpAny_setField_rec:=@PySem.wpAny_setField_rec
theorem ym:type_of% @List.lookup_cons:=@List.lookup_cons
theorem yn:type_of% @PySem.wpAny_holding:=@PySem.wpAny_holding
theorem yo:type_of% @Nat.ne_of_gt:=@Nat.ne_of_gt
theorem yp:type_of% @PySem.Obj.isFreed_of_fields:=@PySem.Obj.isFreed_of_fields
theorem yq:type_of% @PySem.F.slot_str_join:=@PySem.F.slot_str_join
theorem yr:type_of% @PySem.F.type_str_join:=@PySem.F.type_str_join
theorem yt:type_of% @List.take_zero:=@List.take_zero
theorem yu:type_of% @PySem.wpAny_truthy_bool:=@PySem.wpAny_truthy_bool
theorem yw:type_of% @List.find?_cons:=@List.find?_cons
theorem yx:type_of% @PySem.wpAny_newObj_type:=@PySem.wpAny_newObj_type
theorem yy:type_of% @List.flatMap_cons:=@List.flatMap_cons
theorem yz:type_of% @Nat.zero_le:=@Nat.zero_le
theorem yA:type_of% @PyProof.Rows.join_cons_cons:=@PyProof.Rows.join_cons_cons
theorem yB:type_of% @List.nodup_cons:=@List.nodup_cons
theorem yC:type_of% @List.foldl_cons:=@List.foldl_cons
theorem yD:type_of% @PySem.F.slot_zip_next:=@PySem.F.slot_zip_next
theorem yE:type_of% @Nat.lt_irrefl:=@Nat.lt_irrefl
theorem yF:type_of% @List.all_cons:=@List.all_cons
theorem yG:type_of% @List.any_cons:=@List.any_cons
theorem yH:type_of% @Bool.false_or:=@Bool.false_or
namespace L2
open PySem PySem.Spec PyProof.Rows
abbrev Key:=Sum Int Str
def keyIs:Key→Value→Bool
 |.inl k,v=>Value.isInt k v
 |.inr x,v=>Value.isStrOf x v
def Og(w:World):Key→Int
 |.inl k=>hashInt k
 |.inr x=>hashStr w x
theorem bh:∀{k:Key}{v:Value},keyIs k v=true→(∃i t,k=Sum.inl i∧v=Value.int i t)∨(∃x t,k=Sum.inr x∧v=Value.str x t)
 |.inl i,v,h=>by
  obtain⟨t,e⟩:=Value.isInt_shape (k:=i) (v:=v) h
  exact .inl ⟨i,t,rfl,e⟩
 |.inr x,v,h=>by
  obtain⟨t,e⟩:=Value.isStrOf_shape (x:=x) (v:=v) h
  exact .inr ⟨x,t,rfl,e⟩
theorem yL(i:Int)(t:Tok):keyIs (.inl i) (.int i t)=true:=by simp [keyIs,Value.isInt]
theorem yM(x:Str)(t:Tok):keyIs (.inr x) (.str x t)=true:=by simp [keyIs,Value.isStrOf]
theorem GX(a b:Int):decide ((Sum.inl a:Key)=Sum.inl b)=(a == b):=by
 by_cases e:a=b
 ·subst e;simp
 ·have h:¬ (Sum.inl a:Key)=Sum.inl b:=fun q=>e (Sum.inl.inj q)
  rw[zv h]
  exact (beq_eq_false_iff_ne.mpr e).symm
theorem GY(a b:Str):decide ((Sum.inr a:Key)=Sum.inr b)=decide (a=b):=by
 by_cases e:a=b
 ·subst e;simp
 ·have h:¬ (Sum.inr a:Key)=Sum.inr b:=fun q=>e (Sum.inr.inj q)
  rw[zv h,zv e]
theorem GZ(a:Int)(b:Str):decide ((Sum.inl a:Key)=Sum.inr b)=false:=zv (fun q=>nomatch q)
theorem G0(a:Str)(b:Int):decide ((Sum.inr a:Key)=Sum.inl b)=false:=zv (fun q=>nomatch q)
def aB(prog:Program)(w:World):PySem.KeyKind prog w Key where
 is:=keyIs
 hash:=Og w
 inj:=fun v a b ha hb=>by
  rcases bh ha with ⟨i,t,rfl,rfl⟩|⟨x,t,rfl,rfl⟩
  ·rcases bh hb with ⟨j,u,rfl,e⟩|⟨y,u,rfl,e⟩
   ·injection e with e1 _;rw[e1]
   ·exact nomatch e
  ·rcases bh hb with ⟨j,u,rfl,e⟩|⟨y,u,rfl,e⟩
   ·exact nomatch e
   ·injection e with e1 _;rw[e1]
 byValue:=fun k v h=>by
  rcases bh h with ⟨i,t,rfl,rfl⟩|⟨x,t,rfl,rfl⟩ <;> rfl
 pyHash:=fun hv h=>by
  rcases bh hv with ⟨i,t,rfl,rfl⟩|⟨x,t,rfl,rfl⟩
  ·exact wpAny_pyHash_int h
  ·exact wpAny_pyHash_str h
 eqBool:=fun hu hv h=>by
  rcases bh hu with ⟨i,t,rfl,rfl⟩|⟨x,t,rfl,rfl⟩
  ·rcases bh hv with ⟨j,u,rfl,rfl⟩|⟨y,u,rfl,rfl⟩
   ·rw[GX] at h;exact wpAny_eqBool_int h
   ·rw[GZ] at h;exact SeqAt.EqAt.int_str i t y u _ _ _ _ h
  ·rcases bh hv with ⟨j,u,rfl,rfl⟩|⟨y,u,rfl,rfl⟩
   ·rw[G0] at h;exact SeqAt.EqAt.str_int x t j u _ _ _ _ h
   ·rw[GY] at h;exact wpAny_eqBool_str h
 «strs»:=fun k x t v h=>by
  rcases bh h with ⟨i,u,rfl,e⟩|⟨y,u,rfl,e⟩
  ·exact nomatch e
  ·injection e with e1 _
   subst e1
   cases v <;> rfl
theorem sR(prog:Program)(w:World)(i:Int)(t:Tok):(aB prog w).is (.inl i) (.int i t)=true:=yL i t
theorem ia(prog:Program)(w:World)(x:Str)(t:Tok):(aB prog w).is (.inr x) (.str x t)=true:=yM x t
inductive V where
 |ax|bl (b:Bool)|int (i:Int)|str (x:Str)|yN (b:Array UInt8)|JH (b:UInt64)|ref (a:Addr)|ty (n:String)
 deriving DecidableEq
def RelV:V→Value→Prop
 |.ax,u=>u=Value.none
 |.bl b,u=>u=Value.bool b
 |.int i,u=>∃t,u=Value.int i t
 |.str x,u=>∃t,u=Value.str x t
 |.yN b,u=>∃t,u=Value.bytes b t
 |.JH b,u=>∃t,u=Value.float b t
 |.ref a,u=>u=Value.ref a
 |.ty n,u=>u=Value.type n
abbrev Vals:List V→List Value→Prop:=Paired RelV
theorem Vals.length{xs:List V}{us:List Value}(r:Vals xs us):xs.length=us.length:=Paired.length r
theorem Vals.get:∀{xs:List V}{us:List Value}{i:Nat}{x:V},Vals xs us→xs[i]?=some x→∃u,us[i]?=some u∧RelV x u
 |_,_,_,_,.nil,e=>by simp at e
 |_,_,0,_,.cons r _,e=>by simp at e;subst e;exact⟨_,rfl,r⟩
 |_,_,i+1,x,.cons _ t,e=>by
  obtain⟨u,h1,h2⟩:=Vals.get (i:=i) (x:=x) t (by simpa using e)
  exact⟨u,by simpa using h1,h2⟩
theorem Vals.set(r:RelV x u):∀{xs:List V}{us:List Value} (i:Nat),Vals xs us→Vals (xs.set i x) (us.set i u)
 |_,_,_,.nil=>.nil
 |_,_,0,.cons _ t=>.cons r t
 |_,_,i+1,.cons q t=>.cons q (Vals.set r i t)
theorem Vals.append:∀{xs ys:List V}{us ws:List Value},Vals xs us→Vals ys ws→Vals (xs++ys) (us++ws)
 |_,_,_,_,.nil,s=>s
 |_,_,_,_,.cons r t,s=>.cons r (Vals.append t s)
theorem Vals.take:∀{xs:List V}{us:List Value} (n:Nat),Vals xs us→Vals (xs.take n) (us.take n)
 |_,_,0,_=>.nil
 |_,_,_+1,.nil=>.nil
 |_,_,n+1,.cons r t=>.cons r (Vals.take n t)
theorem Vals.drop:∀{xs:List V}{us:List Value} (n:Nat),Vals xs us→Vals (xs.drop n) (us.drop n)
 |_,_,0,r=>r
 |_,_,_+1,.nil=>.nil
 |_,_,n+1,.cons _ t=>Vals.drop n t
def kL:Option V→Option Value→Prop
 |some v,some u=>RelV v u
 |none,none=>True
 |_,_=>False
def KV{κ:Type} : List (κ×V)→List (κ×Value)→Prop:=Paired fun (p:κ×V) (q:κ×Value)=>p.1=q.1∧RelV p.2 q.2
def kV:Key→V
 |.inl i=>.int i
 |.inr x=>.str x
inductive HO where
  |lst (xs:List V)
  |tup (xs:List V)
  |dK (kvs:List (Key×V))|dT (kvs:List (List Key×V))
  |set (S:Int→Bool) (n:Nat)
  |ins (C dx:Addr) (fs:List (Str×V))
  |own (x:Addr)
  |xd (fs:List (Str×V))
  |met (f x:Addr)
  |Nm (lo hi:Int)
  |kM (o:Obj) (u:HO)
  |sS (ps:Array Value)
  |ext (φ:Heap→Prop)
abbrev Hp:=Addr→Option HO
def upd(H:Hp)(a:Addr)(o:HO):Hp:=fun b=>if b=a then some o else H b
theorem aU{H:Hp}{a:Addr}{o:HO} : upd H a o a=some o:=by unfold upd;rw[if_pos rfl]
theorem aq{H:Hp}{a b:Addr}{o:HO}(h:b≠a):upd H a o b=H b:=by unfold upd;rw[if_neg h]
theorem az{H:Hp}{a b:Addr}{o:HO}(h:H a=some o)(h':H b=none):a≠b:=by
 intro e;subst e;rw[h] at h';cases h'
def fE(h:Heap)(a:Addr)(items:Array Value):Prop:=∃o,h.get? a=some o∧o.cls=.type "tuple" ∧ o.dict=none∧∃n,o.data=.seq items n
theorem fE.tup(x:fE h a items):IsTup h a items:=by obtain⟨o,e,c,_,n,d⟩:=x;exact⟨o,e,c,n,d⟩
theorem fE.lt(x:fE h a items):a<h.objs.size:=x.tup.lt
theorem fE.new(h:Heap)(items:Array Value):fE (h.push { cls:=.type "tuple",data:=.seq items }) h.objs.size items:=⟨_,zo _ rfl,rfl,rfl,_,rfl⟩
section
variable(P:Program)(w:World)
def aV(H:Hp)(h:Heap)(a:Addr):HO→Prop
 |.lst xs=>xs.length≤sizeLine∧∃(ak:List Value) (n:Nat),Vals xs ak∧h.get? a=some { cls:=.type "list",data:=.seq ak.toArray n }
 |.tup xs=>xs.length≤sizeLine∧∃ak:List Value,Vals xs ak∧fE h a ak.toArray
 |.dK kvs=>kvs.length≤sizeLine∧(a == sysModules)=false∧∃vs,KV kvs vs∧h.DictOf (aB P w) a vs
 |.dT _=>False
 |.set S n=>h.SetOf (intKind P w) a S n
 |.ins C dx fs=>H dx=some (.own a)∧fs.length≤1000∧dx≠a∧h.get? a=some (instObj C dx) ∧
   ∃mA,h.Ns1 dx mA∧(∀f,kL (fs.lookup f) (mA f))∧PySem.Within mA (fs.map (·.1))
 |.own _=>∃o,h.get? a=some o
 |.xd fs=>∃mA,h.Ns1 a mA∧∀f,kL (fs.lookup f) (mA f)
 |.Nm lo hi=>∃t u v,h.get? a=some { cls:=.type "range",data:=.fields #[.int lo t,.int hi u,.int 1 v] }
 |.kM o u=>h.get? a=some o∧aV H h a u
 |.sS ps=>h.get? a=some { cls:=.none,data:=.fields ps }
 |.met f x=>h.get? a=some (methodObj (.ref f) (.ref x))
 |.ext φ=>φ h∧(∃o,h.get? a=some o)∧∀h1 h2:Heap,φ h1→(∀o,h1.get? a=some o→h2.get? a=some o)→φ h2
def jk(H:Hp)(h:Heap):Prop:=∀a o,H a=some o→aV P w H h a o
end
section
variable{P:Program}{w:World}{H H':Hp}{h h':Heap}{a:Addr}{o:HO}
theorem aV.lt(x:aV P w H h a o):a<h.objs.size:=by
 cases o with
 |lst xs=>obtain⟨_,_,_,_,e⟩:=x;exact zw e
 |tup xs=>obtain⟨_,_,_,p⟩:=x;exact p.lt
 |dK kvs=>obtain⟨_,_,_,_,o,_,_,e,_⟩:=x;exact zw e
 |dT kvs=>exact False.elim x
 |set S n=>obtain⟨o,_,_,_,e,_⟩:=x;exact zw e
 |ins C dx fs=>obtain⟨_,_,_,e,_⟩:=x;exact zw e
 |own y=>obtain⟨_,e⟩:=x;exact zw e
 |xd fs=>obtain⟨_,⟨_,_,_,e,_⟩,_⟩:=x;exact zw e
 |Nm lo hi=>obtain⟨_,_,_,e⟩:=x;exact zw e
 |kM ob u=>obtain⟨e,_⟩:=x;exact zw e
 |sS ps=>exact zw (show h.get? a=some _ from x)
 |met f y=>exact zw (show h.get? a=some _ from x)
 |ext φ=>obtain⟨_,⟨_,e⟩,_⟩:=x;exact zw e
theorem aV.mX(x:aV P w H h a o)(k:∀b u,(b=a∨H b=some (.own a))→h.get? b=some u→h'.get? b=some u)
  (ho:∀b,H b=some (.own a)→H' b=some (.own a)) (ht:∀b xs,H b=some (.tup xs)→H' b=some (.tup xs)):aV P w H' h' a o:=by
 induction o with
 |lst xs=>obtain⟨z,ak,n,r,e⟩:=x;exact⟨z,ak,n,r,k _ _ (.inl rfl) e⟩
 |tup xs=>obtain⟨z,ak,r,ob,e,c⟩:=x;exact⟨z,ak,r,ob,k _ _ (.inl rfl) e,c⟩
 |dK kvs=>obtain⟨z,y,vs,r,ob,es,ep,e,c⟩:=x;exact⟨z,y,vs,r,ob,es,ep,k _ _ (.inl rfl) e,c⟩
 |dT kvs=>exact False.elim x
 |set S n=>obtain⟨ob,es,ep,t,e,c⟩:=x;exact⟨ob,es,ep,t,k _ _ (.inl rfl) e,c⟩
 |ins C dx fs =>
  obtain⟨d,z,ne,e,mA,⟨od,es,ep,e2,c⟩,r⟩:=x
  exact⟨ho _ d,z,ne,k _ _ (.inl rfl) e,mA,⟨od,es,ep,k _ _ (.inr d) e2,c⟩,r⟩
 |own y=>obtain⟨ob,e⟩:=x;exact⟨ob,k _ _ (.inl rfl) e⟩
 |xd fs=>obtain⟨mA,⟨od,es,ep,e,c⟩,r⟩:=x;exact⟨mA,⟨od,es,ep,k _ _ (.inl rfl) e,c⟩,r⟩
 |Nm lo hi=>obtain⟨t,u,v,e⟩:=x;exact⟨t,u,v,k _ _ (.inl rfl) e⟩
 |kM ob u ih=>obtain⟨e,q⟩:=x;exact⟨k _ _ (.inl rfl) e,ih q⟩
 |sS ps =>
  have e:h.get? a=some { cls:=.none,data:=.fields ps }:=x
  show h'.get? a=some { cls:=.none,data:=.fields ps }
  exact k a _ (.inl rfl) e
 |met f y =>
  have e:h.get? a=some (methodObj (.ref f) (.ref y)):=x
  show h'.get? a=some (methodObj (.ref f) (.ref y))
  exact k a _ (.inl rfl) e
 |ext φ=>obtain⟨p,⟨o,e⟩,st⟩:=x;exact⟨st _ _ p fun o q=>k _ _ (.inl rfl) q,⟨o,k _ _ (.inl rfl) e⟩,st⟩
theorem jk.lt(x:jk P w H h)(e:H a=some o):a<h.objs.size:=(x a o e).lt
theorem jk.fresh(x:jk P w H h)(e:h.objs.size≤a):H a=none:=by
 cases q:H a with
 |none=>rfl
 |some u=>exact absurd (zm (x.lt q) e) (yE _)
theorem jk.kept(x:jk P w H h)(k:∀b u,h.get? b=some u→h'.get? b=some u):jk P w H h':=fun a o e =>
 (x a o e).mX (fun b u _ q=>k b u q) (fun _ q=>q) fun _ _ q=>q
theorem jk.laid(x:jk P w H h)(k:∀b u,h.get? b=some u→h'.get? b=some u)(hp:h.objs.size≤a)(new:aV P w (upd H a o) h' a o):jk P w (upd H a o) h':=fun b u e=>by
 have hn:=x.fresh hp
 by_cases hb:b=a
 ·subst hb;rw[aU] at e;cases e;exact new
 ·rw[aq hb] at e
  exact (x b u e).mX (fun c v _ q=>k c v q) (fun c q=>by rw[aq (az q hn)];exact q) fun c xs q=>by rw[aq (az q hn)];exact q
end
def Rd(H:Hp)(a:Addr)(u:HO):Prop:=H a=some u∨∃o,H a=some (.kM o u)
theorem Rd.ok{P:Program}{w:World}{H:Hp}{h:Heap}{a:Addr}{u:HO}(r:Rd H a u)(x:jk P w H h):aV P w H h a u:=by
 rcases r with r|⟨o,r⟩
 ·exact x a u r
 ·obtain⟨_,q⟩:=x a _ r
  exact q
def Nn:Option HO→Prop
 |some (.lst _)=>True
 |some (.dK _)=>True
 |some (.dT _)=>True
 |some (.set _ _)=>True
 |some (.ins _ _ _)=>True
 |some (.ext _)=>True
 |_=>False
section
variable{P:Program}{w:World}{H:Hp}{h h':Heap}{x e:Addr}{o':HO}
theorem jk.write(ok:jk P w H h)(mu:Nn (H x))(he:e=x∨H e=some (.own x))(k:∀b u,b≠e→h.get? b=some u→h'.get? b=some u)(JI:∃u,h'.get? e=some u)
  (new:aV P w (upd H x o') h' x o'):jk P w (upd H x o') h':=fun b u q=>by
 have Ke:∀c y,H c=some (.own y)→c≠x:=fun c y r z=>by subst z;rw[r] at mu;exact mu
 have Oh:∀c xs,H c=some (.tup xs)→c≠x:=fun c xs r z=>by subst z;rw[r] at mu;exact mu
 by_cases hb:b=x
 ·subst hb;rw[aU] at q;cases q;exact new
 ·rw[aq hb] at q
  by_cases G1:b=e
  ·have q':H b=some (.own x):=by
    rcases he with z|z
    ·exact absurd (G1.trans z) hb
    ·rw[G1];exact z
   rw[q] at q';cases q'
   obtain⟨v,hv⟩:=JI
   exact⟨v,by rw[G1];exact hv⟩
  ·refine (ok b u q).mX (fun c v hc r=>k c v ?_ r) (fun c r=>by rw[aq (Ke c b r)];exact r) fun c xs r=>by rw[aq (Oh c xs r)];exact r
   rcases hc with rfl|hc
   ·exact G1
   ·rintro rfl
    rcases he with z|z
    ·exact Ke c b hc z
    ·rw[hc] at z;cases z;exact hb rfl
end
structure Un(fs ex:List Addr)(H H':Hp)(h h':Heap):Prop where
 keep:∀b o,h.get? b=some o→H b=none→b∉fs→b∉ex→h'.get? b=some o
 slot:∀b o,h.get? b=some o→H b=none→b∈fs→b∉ex→∃sl,h'.get? b=some { o with slots:=sl }
 free:∀b o,h.get? b=some o→H b=none→b∉ex→H' b=none
 there:∀b o,h.get? b=some o→b∉ex→∃o',h'.get? b=some o'
 eP:∀b xs,H b=some (.tup xs)→H' b=some (.tup xs)
 ej:∀b o u,H b=some (.kM o u)→H' b=some (.kM o u)
 eu:∀b ps,H b=some (.sS ps)→∃more,H' b=some (.sS (ps++more))
section
variable{fs SH ex Wk:List Addr}{H H1 H2:Hp}{h h1 h2 h':Heap}{a x e:Addr}{o:HO}
theorem Un.any(u:Un fs ex H H1 h h1){b:Addr}{ob:Obj}(q:h.get? b=some ob)(n:H b=none)(hx:b∉ex):∃sl,h1.get? b=some { ob with slots:=sl }:=by
 by_cases hb:b∈fs
 ·exact u.slot b ob q n hb hx
 ·exact⟨ob.slots,u.keep b ob q n hb hx⟩
theorem Un.kept(k:∀b u,h.get? b=some u→h'.get? b=some u):Un fs ex H H h h' :=
 ⟨fun b ob q _ _ _=>k b ob q,fun b ob q _ _ _=>⟨ob.slots,k b ob q⟩,fun _ _ _ n _=>n,fun b ob q _=>⟨ob,k b ob q⟩,fun _ _ q=>q,fun _ _ _ q=>q,fun _ ps q=>⟨#[],by rw[q];simp⟩⟩
theorem Un.refl:Un fs ex H H h h:=Un.kept fun _ _ q=>q
theorem Un.laid(k:∀b u,h.get? b=some u→h'.get? b=some u)(hp:h.objs.size≤a)(hn:H a=none):Un fs ex H (upd H a o) h h' where
 keep:=fun b u q _ _ _=>k b u q
 slot:=fun b u q _ _ _=>⟨u.slots,k b u q⟩
 free:=fun b u q n _=>by rw[aq (zI (zm (zw q) hp))];exact n
 there:=fun b u q _=>⟨u,k b u q⟩
 eP:=fun b xs q=>by rw[aq (az q hn)];exact q
 ej:=fun b u xs q=>by rw[aq (az q hn)];exact q
 eu:=fun b ps q=>⟨#[],by rw[aq (az q hn),q];simp⟩
theorem Un.write(mu:Nn (H x))(he:e=x∨H e=some (.own x))(k:∀b u,b≠e→h.get? b=some u→h'.get? b=some u)(JI:∃u,h'.get? e=some u):Un fs ex H (upd H x o) h h':=by
 have hx:∀b,H b=none→b≠x:=fun b n z=>by subst z;rw[n] at mu;exact mu
 have hb:∀b,H b=none→b≠e:=fun b n z=>by
  subst z
  rcases he with r|r
  ·exact hx b n r
  ·rw[n] at r;cases r
 have hm:∀b u,H b=some u→¬ Nn (some u)→b≠x:=fun b u q nm z=>by subst z;rw[q] at mu;exact nm mu
 refine⟨fun b u q n _ _=>k b u (hb b n) q,fun b u q n _ _=>⟨u.slots,k b u (hb b n) q⟩,fun b u q n _=>by rw[aq (hx b n)];exact n,fun b u q _=>?_,
  fun b xs q=>by rw[aq (hm b _ q fun z=>z)];exact q,fun b u xs q=>by rw[aq (hm b _ q fun z=>z)];exact q,fun b ps q=>⟨#[],by rw[aq (hm b _ q fun z=>z),q];simp⟩⟩
 by_cases G1:b=e
 ·subst G1;exact JI
 ·exact⟨u,k b u G1 q⟩
end
def Np(h:Heap)(H:Hp):List Addr:=(List.range h.objs.size).filter fun a=>(H a).isSome
def pA(h:Heap)(H:Hp):Heap:=hideAll h (Np h H)
theorem yO(h:Heap)(H:Hp):(pA h H).objs.size=h.objs.size:=PySem.W.hideAll_size _ _
theorem Bg(e:h.get? b=some o)(n:H b=none):(pA h H).get? b=some o :=
 hideAll_get _ e fun hm=>by
  have q:(H b).isSome=true:=(List.mem_filter.mp hm).2
  rw[n] at q;simp at q
theorem DY(e:(pA h H).get? b=some o):h.get? b=some o∧H b=none:=by
 have e':h.get? b=some o:=of_hideAll (Np h H) e
 refine⟨e',?_⟩
 cases q:H b with
 |none=>rfl
 |some x =>
  have hm:b∈Np h H:=List.mem_filter.mpr ⟨List.mem_range.mpr (zw e'),by simp [q]⟩
  have z:(pA h H).get? b=none:=PySem.W.hideAll_none (Np h H) hm
  rw[z] at e;cases e
def DZ(g h:Heap)(L:Addr):List (Addr×Obj):=(List.range h.objs.size).filterMap fun a=>if a=L∨(g.get? a).isSome=true then none else (h.get? a).map fun o=>(a,o)
def rest(g h:Heap)(L d:Addr):List (Addr×Obj):=(DZ g h L).filter fun p=>decide (p.1≠d)
structure Mod(K:Frag)(mg:Str→Option Value)(base:Heap):Prop where
 DL:K.In base
 glob:base.Ns mainGlobals mg
 blt:∃mb,base.Ns builtinsNs mb∧∀x:Str,x ≠ "__name__" → mb x=bootBuiltins x
 nolimit:base.NoLimit
structure Cx where
 prog:Program
 w:World
 K:Frag
 mg:Str→Option Value
 base:Heap
 A:Around
 N:List Str
 cK:Shared
 sT:Hp
 env:Env
 outer:List Env
 stack:List Env
 ex:List Addr
 fn:Str→Bool
 calm:Bool
 pn:List (Addr×Obj)
 xe:Value→Shared→Prop
def hV(l:List Env):List Addr:=l.filterMap (·.frame)
abbrev Cx.fs(X:Cx):List Addr:=hV X.outer
def Kf(sc:Scope)(x:Str):Prop:=sc.names.lookup x=some .local∨sc.names.lookup x=some .cell∨sc.names.lookup x=some .free
def Loc(sc:Scope)(x:Str):Prop:=sc.names.lookup x=some .local∨sc.names.lookup x=some .cell
def Look(env:Env)(h:Heap)(m:Str→Option Value)(x:Str)(u:Value):Prop :=
 (env.kindOf x=some .local∧m x=some u)∨((env.kindOf x=some .cell∨env.kindOf x=some .free)∧∃c,env.cells.lookup x=some c∧h.IsCell c (some u))
structure Cx.Ok(X:Cx):Prop where
 mod:Mod X.K X.mg X.base
 kind:X.env.scope.kind=.function
 glob:X.env.globals=mainGlobals
 blt:X.env.builtins=builtinsNs
 above:X.cK.heap.objs.size≤X.env.locals
 inj:∀x y c,X.env.cells.lookup x=some c→X.env.cells.lookup y=some c→x=y
 has:∀x,(X.env.kindOf x=some .cell∨X.env.kindOf x=some .free)→∃c,X.env.cells.lookup x=some c
 G3:∀x c,X.fn x=true→X.env.cells.lookup x=some c→X.cK.heap.objs.size≤c
 hd:X.calm=true→X.A.handled=none
 frames:X.A.frames=some X.stack
 JJ:X.stack=X.outer∨(X.stack=X.env::X.outer∧X.env.frame=some X.env.locals)
 Nq:∀b∈X.ex,b≠X.env.locals∧∀x c,X.env.cells.lookup x=some c→c≠b
 bs:∀b o,X.base.get? b=some o→X.cK.heap.get? b=some o∧X.sT b=none
 Bh:X.base.objs.size≤X.cK.heap.objs.size
 u7:∀b o,X.base.get? b=some o→b∉X.ex
 yP:∀b∈X.ex,b∉X.fs
 jf:X.cK.heap.FunFrames X.base X.outer
 Bi:∀b∈X.fs,X.sT b=none
structure Inv(X:Cx)(pins:List (Addr×Obj))(σ:List (Option V))(H:Hp)(s:Shared):Prop where
 ok:X.Ok
 os:s.os=X.cK.os
 bare:AllBare s.gens
 base:Un X.fs X.ex X.sT H X.cK.heap s.heap
 loc:∃m,s.heap.Ns X.env.locals m∧∀(i:Nat) (x:Str) (v:V),X.N[i]?=some x→σ[i]?=some (some v)→Kf X.env.scope x→∃u,RelV v u∧Look X.env s.heap m x u
 cell:∀x c,X.env.cells.lookup x=some c→∃v,s.heap.IsCell c v
 free:H X.env.locals=none
 eQ:∀x c,X.env.cells.lookup x=some c→H c=none
 pin:∀p∈X.pn++pins,s.heap.get? p.1=some p.2∧H p.1=none∧p.1≠X.env.locals∧p.1∉X.fs∧∀v,p.2.data≠.cell v
 aF:jk X.prog X.w H s.heap
 len:σ.length=X.N.length
section
variable{X:Cx}{pins:List (Addr×Obj)}{σ:List (Option V)}{H H':Hp}{s:Shared}{h':Heap}
theorem Cx.Ok.sU(ok:X.Ok)(e:X.base.get? b=some o):b∉X.fs:=fun hb=>by
 have:=(ok.jf.mem hb).1
 rw[e] at this;cases this
theorem Inv.bs(I:Inv X pins σ H s):∀b o,X.base.get? b=some o→s.heap.get? b=some o∧H b=none:=fun b o e =>
 ⟨I.base.keep b o (I.ok.bs b o e).1 (I.ok.bs b o e).2 (I.ok.sU e) (I.ok.u7 b o e),I.base.free b o (I.ok.bs b o e).1 (I.ok.bs b o e).2 (I.ok.u7 b o e)⟩
theorem Inv.bk(I:Inv X pins σ H s):∀b o,X.base.get? b=some o→s.heap.get? b=some o:=fun b o e=>(I.bs b o e).1
theorem Inv.mod(I:Inv X pins σ H s):Mod X.K X.mg X.base:=I.ok.mod
theorem Inv.oX(I:Inv X pins σ H s):X.K.In s.heap:=I.ok.mod.DL.keeps I.bk
theorem Inv.fr(I:Inv X pins σ H s):∃m,Fr X.base X.env.locals s.heap m :=
 let ⟨m,hn,_⟩:=I.loc
 ⟨m,hn,I.bk,zA I.ok.Bh I.ok.above⟩
theorem Inv.lt(I:Inv X pins σ H s):X.env.locals<s.heap.objs.size:=by obtain⟨_,hn,_⟩:=I.loc;exact hn.lt
theorem Inv.sz(I:Inv X pins σ H s):X.cK.heap.objs.size≤s.heap.objs.size:=zA I.ok.above (Nat.le_of_lt I.lt)
theorem Inv.Oi(I:Inv X pins σ H s)(h:s.heap.objs.size≤a):a∉X.fs:=fun hb=>by
 obtain⟨_,o,ho,_⟩:=I.ok.jf.mem hb
 exact absurd (zm (zw ho) (zA I.sz h)) (yE _)
theorem Inv.D0(I:Inv X pins σ H s):∀x c,X.env.cells.lookup x=some c→c≠X.env.locals:=fun x c e z=>by
 obtain⟨v,o,ho,hd⟩:=I.cell x c e
 obtain⟨m,⟨o',es,ep,u9,wM,_⟩,_⟩:=I.loc
 rw[z,u9] at ho;cases ho;rw[wM] at hd;cases hd
theorem Inv.jf(I:Inv X pins σ H s):s.heap.FunFrames X.base X.outer:=by
 have all:∀(l:List Env),(∀b∈hV l,b∈X.fs)→X.cK.heap.FunFrames X.base l→s.heap.FunFrames X.base l:=by
  intro l
  induction l with
  |nil=>intro _ _;trivial
  |cons env r ih =>
   intro hs hl
   obtain⟨hk,⟨L,o,hf,hn,ho,hd⟩,hr⟩:=hl
   have hL:L∈X.fs:=hs L (by unfold hV;rw[List.filterMap_cons,hf];exact zx)
   obtain⟨sl,e⟩:=I.base.slot L o ho (I.ok.Bi L hL) hL fun z=>I.ok.yP L z hL
   exact⟨hk,⟨L,_,hf,hn,e,hd⟩,ih (fun b hb=>hs b (by unfold hV;rw[List.filterMap_cons,hf];exact zu _ hb)) hr⟩
 exact all X.outer (fun _ hb=>hb) I.ok.jf
theorem Inv.stack(I:Inv X pins σ H s):s.heap.FunFrames X.base X.stack:=by
 rcases I.ok.JJ with e|⟨e,hf⟩
 ·rw[e];exact I.jf
 ·rw[e]
  obtain⟨m,hn,_⟩:=I.loc
  refine .cons (by rw[I.ok.kind];decide) hf hn ?_ I.jf
  exact Heap.get?_none_of_le (zA I.ok.Bh I.ok.above)
theorem Inv.kN(I:Inv X pins σ H s):∀b∈hV X.stack,b∈X.env.locals::X.fs:=fun b hb=>by
 rcases I.ok.JJ with e|⟨e,hf⟩
 ·rw[e] at hb;exact zu _ hb
 ·rw[e] at hb
  unfold hV at hb
  rw[List.filterMap_cons,hf] at hb
  exact hb
theorem Inv.qU(I:Inv X pins σ H s):∀b∈hV X.stack,H b=none:=fun b hb=>by
 rcases zd.mp (I.kN b hb) with e|hb
 ·rw[e];exact I.free
 ·obtain⟨_,o,ho,_⟩:=I.ok.jf.mem hb
  exact I.base.free b o ho (I.ok.Bi b hb) fun z=>I.ok.yP b z hb
theorem Inv.step{g':Array GenState}{t':Nat}{d':Drawn}{ch:List Addr}(I:Inv X pins σ H s)
  (DM:∀b∈ch,(b∈X.ex∨X.cK.heap.objs.size≤b)∧b≠X.env.locals∧(∀x c,X.env.cells.lookup x=some c→c≠b)∧∀p∈X.pn++pins,p.1≠b)
  (keep:∀b o,b≠X.env.locals→b∉X.fs→b∉ch→s.heap.get? b=some o→H b=none→h'.get? b=some o)
  (slot:∀b o,b≠X.env.locals→b∈X.fs→b∉ch→s.heap.get? b=some o→H b=none→∃sl,h'.get? b=some { o with slots:=sl }) (free:∀b o,b∉ch→s.heap.get? b=some o→H b=none→H' b=none)
  (there:∀b o,b∉ch→s.heap.get? b=some o→∃o',h'.get? b=some o')
  (eP:∀b xs,H b=some (.tup xs)→H' b=some (.tup xs)) (ej:∀b o u,H b=some (.kM o u)→H' b=some (.kM o u)) (eu:∀b ps,H b=some (.sS ps)→∃more,H' b=some (.sS (ps++more)))
  (ns:∀m,s.heap.Ns X.env.locals m→h'.Ns X.env.locals m) (aF:jk X.prog X.w H' h') (hg:AllBare g') :
  Inv X pins σ H' { s with heap:=h',gens:=g',drawn:=d',toks:=t' }:=by
 have Rg:∀b o,X.cK.heap.get? b=some o→b≠X.env.locals:=fun b o e=>zI (zm (zw e) I.ok.above)
 have Nr:∀b o,X.cK.heap.get? b=some o→b∉X.ex→b∉ch:=fun b o e hx hb=>by
  rcases (DM b hb).1 with z|z
  ·exact hx z
  ·exact absurd (zm (zw e) z) (yE _)
 have cellK:∀x c,X.env.cells.lookup x=some c→∀v,s.heap.IsCell c v→h'.IsCell c v:=by
  rintro x c e v ⟨o,ho,hd⟩
  have Kg:c∉ch:=fun z=>(DM c z).2.2.1 x c e rfl
  by_cases hc:c∈X.fs
  ·obtain⟨sl,q⟩:=slot c o (I.D0 x c e) hc Kg ho (I.eQ x c e)
   exact⟨_,q,hd⟩
  ·exact⟨o,keep c o (I.D0 x c e) hc Kg ho (I.eQ x c e),hd⟩
 refine⟨I.ok,I.os,hg,⟨fun b o e n hb hx=>?_,fun b o e n hb hx=>?_,fun b o e n hx=>?_,fun b o e hx=>?_,fun b xs e=>eP b xs (I.base.eP b xs e),fun b o xs e=>ej b o xs (I.base.ej b o xs e),fun b ps e=>?_⟩,?_,fun x c e=>?_,?_,fun x c e=>?_,fun p hp=>?_,aF,I.len⟩
 ·exact keep b o (Rg b o e) hb (Nr b o e hx) (I.base.keep b o e n hb hx) (I.base.free b o e n hx)
 ·obtain⟨sl,e1⟩:=I.base.slot b o e n hb hx
  obtain⟨SI,e2⟩:=slot b _ (Rg b o e) hb (Nr b o e hx) e1 (I.base.free b o e n hx)
  exact⟨SI,e2⟩
 ·obtain⟨o',e1⟩:=I.base.there b o e hx
  exact free b o' (Nr b o e hx) e1 (I.base.free b o e n hx)
 ·obtain⟨o',e1⟩:=I.base.there b o e hx
  exact there b o' (Nr b o e hx) e1
 ·obtain⟨m1,e1⟩:=I.base.eu b ps e
  obtain⟨m2,e2⟩:=eu b _ e1
  exact⟨m1++m2,by rw[e2,Array.append_assoc]⟩
 ·obtain⟨m,hn,hl⟩:=I.loc
  refine⟨m,ns m hn,fun i x v e1 e2 e3=>?_⟩
  obtain⟨u,r,l⟩:=hl i x v e1 e2 e3
  refine⟨u,r,?_⟩
  rcases l with l|⟨k,c,e,z⟩
  ·exact .inl l
  ·exact .inr ⟨k,c,e,cellK x c e _ z⟩
 ·obtain⟨v,z⟩:=I.cell x c e
  exact⟨v,cellK x c e v z⟩
 ·obtain⟨m,⟨o,_,_,ho,_⟩,_⟩:=I.loc
  exact free _ o (fun z=>(DM _ z).2.1 rfl) ho I.free
 ·obtain⟨v,o,ho,hd⟩:=I.cell x c e
  exact free c o (fun z=>(DM c z).2.2.1 x c e rfl) ho (I.eQ x c e)
 ·obtain⟨e,n,ne,nf,d⟩:=I.pin p hp
  have Kg:p.1∉ch:=fun z=>(DM p.1 z).2.2.2 p hp rfl
  exact⟨keep p.1 p.2 ne nf Kg e n,free p.1 p.2 Kg e n,ne,nf,d⟩
theorem Inv.un{t':Nat}(I:Inv X pins σ H s)(u:Un X.fs [] H H' s.heap h')(aF:jk X.prog X.w H' h'):Inv X pins σ H' { s with heap:=h',toks:=t' }:=by
 obtain⟨m,⟨o,es,ep,ho,r⟩,_⟩:=id I.loc
 obtain⟨sl,hL⟩:=u.any ho I.free (by simp)
 exact I.step (g':=s.gens) (d':=s.drawn) (ch:=[]) (fun _ z=>nomatch z) (fun b o _ hb _ e n=>u.keep b o e n hb (by simp)) (fun b o _ hb _ e n=>u.slot b o e n hb (by simp)) (fun b o _ e n=>u.free b o e n (by simp)) (fun b o _ e=>u.there b o e (by simp)) u.eP u.ej u.eu (fun m' hm=>by
  obtain⟨o',Nt,Oj,u9,r'⟩:=hm
  rw[ho] at u9;cases u9
  exact⟨_,Nt,Oj,hL,r'⟩) aF I.bare
theorem Inv.call{g':Array GenState}{t':Nat}{d':Drawn}{ch:List Addr}(I:Inv X pins σ H s)(u:Un (hV X.stack) ch H H' s.heap h')(aF:jk X.prog X.w H' h')(hg:AllBare g')
  (DM:∀b∈ch,(b∈X.ex∨X.cK.heap.objs.size≤b)∧b≠X.env.locals∧(∀x c,X.env.cells.lookup x=some c→c≠b)∧∀p∈X.pn++pins,p.1≠b) :
  Inv X pins σ H' { s with heap:=h',gens:=g',drawn:=d',toks:=t' }:=by
 obtain⟨m,⟨o,es,ep,ho,r⟩,_⟩:=id I.loc
 obtain⟨sl,hL⟩:=u.any ho I.free fun z=>(DM _ z).2.1 rfl
 exact I.step (ch:=ch) DM (fun b o hL hb hc e n=>u.keep b o e n (fun z=>(zd.mp (I.kN b z)).elim hL hb) hc) (fun b o _ _ hc e n=>u.any e n hc) (fun b o hc e n=>u.free b o e n hc) (fun b o hc e=>u.there b o e hc) u.eP u.ej u.eu (fun m' hm=>by
  obtain⟨o',Nt,Oj,u9,r'⟩:=hm
  rw[ho] at u9;cases u9
  exact⟨_,Nt,Oj,hL,r'⟩) aF hg
theorem Inv.turned{t':Nat}{it:Addr}(I:Inv X pins σ H s)(k:∀b o,b≠it→s.heap.get? b=some o→h'.get? b=some o)(hn:H it=none)(hL:it≠X.env.locals)
  (h1:it∈X.ex∨X.cK.heap.objs.size≤it) (h2:∀x c,X.env.cells.lookup x=some c→c≠it) (h3:∀p∈X.pn++pins,p.1≠it):Inv X pins σ H { s with heap:=h',toks:=t' }:=by
 have Rh:∀b u,H b=some u→b≠it:=fun b u e z=>by rw[z,hn] at e;cases e
 refine I.step (g':=s.gens) (d':=s.drawn) (ch:=[it]) (fun b hb=>?_) (fun b o _ _ hc e _=>k b o (fun z=>hc (by simp [z])) e) (fun b o _ _ hc e _=>⟨o.slots,k b o (fun z=>hc (by simp [z])) e⟩) (fun _ _ _ _ n=>n)
  (fun b o hc e=>⟨o,k b o (fun z=>hc (by simp [z])) e⟩) (fun _ _ e=>e) (fun _ _ _ e=>e) (fun b ps e=>⟨#[],by rw[e];simp⟩) (fun m hm=>?_) (fun b u e=>?_) I.bare
 ·have e:b=it:=by simpa using hb
  subst e
  exact⟨h1,hL,h2,h3⟩
 ·obtain⟨o,es,ep,ho,r⟩:=hm
  exact⟨o,es,ep,k _ o (Ne.symm hL) ho,r⟩
 ·refine (I.aF b u e).mX (fun c v hc q=>k c v ?_ q) (fun _ q=>q) fun _ _ q=>q
  rcases hc with z|z
  ·rw[z];exact Rh b u e
  ·exact Rh c _ z
theorem Inv.tok(I:Inv X pins σ H s)(t:Nat):Inv X pins σ H { s with toks:=t }:=I.un (h':=s.heap) (t':=t) Un.refl I.aF
theorem Inv.kept(I:Inv X pins σ H s)(k:∀b u,s.heap.get? b=some u→h'.get? b=some u):Inv X pins σ H { s with heap:=h',toks:=t' }:=I.un (Un.kept k) (I.aF.kept k)
theorem Inv.laid{a:Addr}{o:HO}{t':Nat}(I:Inv X pins σ H s)(k:∀b u,s.heap.get? b=some u→h'.get? b=some u)(hp:s.heap.objs.size≤a)(new:aV X.prog X.w (upd H a o) h' a o) :
  Inv X pins σ (upd H a o) { s with heap:=h',toks:=t' }:=I.un (Un.laid k hp (I.aF.fresh hp)) (I.aF.laid k hp new)
theorem Inv.write(I:Inv X pins σ H s)(mu:Nn (H x))(he:e=x∨H e=some (.own x))(k:∀b u,b≠e→s.heap.get? b=some u→h'.get? b=some u)(JI:∃u,h'.get? e=some u)
  (new:aV X.prog X.w (upd H x o) h' x o):Inv X pins σ (upd H x o) { s with heap:=h',toks:=t' }:=I.un (Un.write mu he k JI) (I.aF.write mu he k JI new)
theorem Inv.weak(I:Inv X pins σ H s)(hl:ay.length=σ.length)(w:∀(i:Nat) v,ay[i]?=some (some v)→σ[i]?=some (some v)):Inv X pins ay H s :=
 ⟨I.ok,I.os,I.bare,I.base,by obtain⟨m,hn,Ol⟩:=I.loc;exact⟨m,hn,fun i x v e1 e2 e3=>Ol i x v e1 (w i v e2) e3⟩,I.cell,I.free,I.eQ,I.pin,I.aF,hl.trans I.len⟩
theorem Inv.jQ(I:Inv X pins σ H s)(h:∀p∈pins',s.heap.get? p.1=some p.2∧H p.1=none∧p.1≠X.env.locals∧p.1∉X.fs∧∀v,p.2.data≠.cell v):Inv X pins' σ H s :=
 ⟨I.ok,I.os,I.bare,I.base,I.loc,I.cell,I.free,I.eQ,fun p hp=>(zW.mp hp).elim (fun z=>I.pin p (yi _ z)) (h p),I.aF,I.len⟩
theorem mY{N:List Str}(hN:N.Nodup){i j:Nat}{x:Str}(a:N[i]?=some x)(b:N[j]?=some x):i=j:=by
 obtain⟨h1,e1⟩:=yc.mp a
 obtain⟨h2,e2⟩:=yc.mp b
 exact (List.getElem_inj hN).mp (e1.trans e2.symm)
theorem qm{M:Model}{A:Around}{E:Value→Shared→Prop}{i:Nat}{x:Str}{v:V}{u:Value}{Q:Unit→Shared→Prop}(I:Inv X pins σ H s)(hN:X.N.Nodup)(hi:X.N[i]?=some x)(hx:Loc X.env.scope x)(r:RelV v u)
  (h:∀s',Inv X pins (σ.set i (some v)) H s'→(∃a,Heap.SameBut a s.heap s'.heap∧(a=X.env.locals∨X.env.cells.lookup x=some a))→Q () s') (hf:X.fn x=true∨X.env.scope.names.lookup x=some .local:=by first|exact .inl rfl|exact .inr rfl|assumption):wpAny M A (storeName X.env x u) Q E s:=by
 obtain⟨m,hn,hl⟩:=id I.loc
 have u_:(X.env.scope.kind == .class || (X.env.scope.kind == .module && X.env.locals != X.env.globals))=false:=by rw[I.ok.kind];rfl
 have D1:i<σ.length:=by rw[I.len];exact (yc.mp hi).1
 have D0:=I.D0
 have tracked:∀{a:Addr}{h':Heap},(∃o,s.heap.get? a=some o∧H a=none)→Heap.SameBut a s.heap h'→jk X.prog X.w H h':=fun {a h'} ha hs b ob e=>by
  obtain⟨_,_,FX⟩:=ha
  refine (I.aF b ob e).mX (fun c w' hc q=>(hs.2 c ?_).trans q) (fun _ q=>q) fun _ _ q=>q
  rintro rfl
  rcases hc with rfl|hc
  ·rw[FX] at e;cases e
  ·rw[FX] at hc;cases hc
 rcases hx with hk|hk
 ·refine wpAny_storeName_local hk hn (fun h' Om hs=>?_) u_
  obtain⟨oL,_,_,SJ,_⟩:=id hn
  refine h _ ⟨I.ok,I.os,I.bare,⟨fun b o e n hb hx=>?_,fun b o e n hb hx=>?_,I.base.free,fun b o e hx=>?_,I.base.eP,I.base.ej,I.base.eu⟩,⟨_,Om,fun j y v' e1 e2 e3=>?_⟩,fun y c e=>?_,I.free,I.eQ,fun p hp=>?_,tracked ⟨oL,SJ,I.free⟩ hs,by simpa using I.len⟩ ⟨_,hs,.inl rfl⟩
  ·exact (hs.2 b (zI (zm (zw e) I.ok.above))).trans (I.base.keep b o e n hb hx)
  ·obtain⟨sl,e1⟩:=I.base.slot b o e n hb hx
   exact⟨sl,(hs.2 b (zI (zm (zw e) I.ok.above))).trans e1⟩
  ·obtain⟨o',e1⟩:=I.base.there b o e hx
   exact⟨o',(hs.2 b (zI (zm (zw e) I.ok.above))).trans e1⟩
  ·by_cases hj:j=i
   ·subst hj
    rw[hi] at e1;cases e1
    rw[List.getElem?_set_self D1] at e2
    cases e2
    exact⟨u,r,.inl ⟨hk,by simp⟩⟩
   ·rw[List.getElem?_set_ne (Ne.symm hj)] at e2
    obtain⟨u',r',q⟩:=hl j y v' e1 e2 e3
    refine⟨u',r',?_⟩
    rcases q with ⟨k,e⟩|⟨k,c,e,z⟩
    ·refine .inl ⟨k,?_⟩
     have:y≠x:=fun e=>hj (mY hN e1 (e ▸ hi))
     simp [this,e]
    ·exact .inr ⟨k,c,e,z.sameBut hs (D0 y c e)⟩
  ·obtain⟨w',z⟩:=I.cell y c e
   exact⟨w',z.sameBut hs (D0 y c e)⟩
  ·obtain⟨e,n,ne,nf,d⟩:=I.pin p hp
   exact⟨(hs.2 p.1 ne).trans e,n,ne,nf,d⟩
 ·have Oo:X.fn x=true:=by
   rcases hf with z|z
   ·exact z
   ·rw[z] at hk;cases hk
  obtain⟨c,hc⟩:=I.ok.has x (.inl hk)
  obtain⟨w',z⟩:=I.cell x c hc
  refine wpAny_storeName_cell I.ok.kind hk hc z (fun h' Nu hs=>?_)
  obtain⟨oc,Ri,Oq⟩:=id z
  refine h { s with heap:=h' } ⟨I.ok,I.os,I.bare,⟨fun b o e n hb hx=>?_,fun b o e n hb hx=>?_,I.base.free,fun b o e hx=>?_,I.base.eP,I.base.ej,I.base.eu⟩,⟨m,hn.sameBut hs (Ne.symm (D0 x c hc)),fun j y v' e1 e2 e3=>?_⟩,fun y c' e=>?_,I.free,I.eQ,fun p hp=>?_,tracked ⟨oc,Ri,I.eQ x c hc⟩ hs,by simpa using I.len⟩ ⟨c,hs,.inr hc⟩
  ·exact (hs.2 b (zI (zm (zw e) (I.ok.G3 x c Oo hc)))).trans (I.base.keep b o e n hb hx)
  ·obtain⟨sl,e1⟩:=I.base.slot b o e n hb hx
   exact⟨sl,(hs.2 b (zI (zm (zw e) (I.ok.G3 x c Oo hc)))).trans e1⟩
  ·obtain⟨o',e1⟩:=I.base.there b o e hx
   exact⟨o',(hs.2 b (zI (zm (zw e) (I.ok.G3 x c Oo hc)))).trans e1⟩
  ·by_cases hj:j=i
   ·subst hj
    rw[hi] at e1;cases e1
    rw[List.getElem?_set_self D1] at e2
    cases e2
    exact⟨u,r,.inr ⟨.inl hk,c,hc,Nu⟩⟩
   ·rw[List.getElem?_set_ne (Ne.symm hj)] at e2
    obtain⟨u',r',q⟩:=hl j y v' e1 e2 e3
    refine⟨u',r',?_⟩
    rcases q with q|⟨k,c',e,z'⟩
    ·exact .inl q
    ·refine .inr ⟨k,c',e,z'.sameBut hs ?_⟩
     rintro rfl
     exact hj (mY hN e1 (I.ok.inj _ _ _ e hc ▸ hi))
  ·by_cases Rj:c'=c
   ·subst Rj;exact⟨_,Nu⟩
   ·obtain⟨w2,z2⟩:=I.cell y c' e
    exact⟨w2,z2.sameBut hs Rj⟩
  ·obtain⟨e,n,ne,nf,d⟩:=I.pin p hp
   refine⟨(hs.2 p.1 ?_).trans e,n,ne,nf,d⟩
   intro q
   rw[q,Ri] at e
   have q':oc=p.2:=zV e
   exact d w' (by rw[← q'];exact Oq)
theorem mZ(I:Inv X pins σ H s)(hN:X.N.Nodup)(hi:X.N[i]?=some x)(hx:Loc X.env.scope x)(r:RelV v u)
  (h:∀s',Inv X pins (σ.set i (some v)) H s'→Q () s') (hf:X.fn x=true∨X.env.scope.names.lookup x=some .local:=by first|exact .inl rfl|exact .inr rfl|assumption):wpAny M A (storeName X.env x u) Q E s :=
 qm I hN hi hx r (fun s' I' _=>h s' I') hf
theorem Inv.sV(I:Inv X pins σ H s)(ho:s'.os=s.os)(u:Un (hV X.stack) ch H H' s.heap s'.heap)(aF:jk X.prog X.w H' s'.heap)(hg:AllBare s'.gens)
  (DM:∀b∈ch,(b∈X.ex∨X.cK.heap.objs.size≤b)∧b≠X.env.locals∧(∀x c,X.env.cells.lookup x=some c→c≠b)∧∀p∈X.pn++pins,p.1≠b):Inv X pins σ H' s':=by
 obtain⟨h',g',d',t',o'⟩:=s'
 have e:o'=s.os:=ho
 subst e
 exact I.call (g':=g') (t':=t') (d':=d') u aF hg DM
end
abbrev XK:=Value→Option Addr→Hp→Prop
abbrev St:=List (Option V)
abbrev VK:=V→Hp→Prop
abbrev TE:=St→Hp→VK→Prop
abbrev TT:=St→Hp→(Bool→Hp→Prop)→Prop
abbrev TA:=St→Hp→(List V→Hp→Prop)→Prop
structure Ends where
 nx:St→Hp→Prop
 rt:VK
 bk:St→Hp→Prop:=fun _ _=>False
 ct:St→Hp→Prop:=fun _ _=>False
abbrev TS:=Ends→St→Hp→Prop
def EP(X:Cx)(pins:List (Addr×Obj))(σ:St)(Q:VK)(u:Value)(s':Shared):Prop:=∃v H',Inv X pins σ H' s'∧RelV v u∧Q v H'
def TP(X:Cx)(pins:List (Addr×Obj))(σ:St)(Q:Bool→Hp→Prop)(b:Bool)(s':Shared):Prop:=∃H',Inv X pins σ H' s'∧Q b H'
def AP(X:Cx)(pins:List (Addr×Obj))(σ:St)(Q:List V→Hp→Prop)(us:List Value)(s':Shared):Prop:=∃vs H',Inv X pins σ H' s'∧Vals vs us∧Q vs H'
def SP(X:Cx)(pins:List (Addr×Obj))(D:Ends)(f:Flow)(s':Shared):Prop :=
 match f with
 |.next=>∃ay H',Inv X pins ay H' s'∧D.nx ay H'
 |.brk=>∃ay H',Inv X pins ay H' s'∧D.bk ay H'
 |.cont=>∃ay H',Inv X pins ay H' s'∧D.ct ay H'
 |.ret u=>∃v ay H',Inv X pins ay H' s'∧RelV v u∧D.rt v H'
def PE(X:Cx)(e:Expr)(t:TE):Prop :=
 ∀(pins:List (Addr×Obj)) (s:Shared) (σ:St) (H:Hp) (Q:VK),Inv X pins σ H s→t σ H Q→wpAny (model X.prog X.w) X.A (eval e X.env) (EP X pins σ Q) X.xe s
def PT(X:Cx)(e:Expr)(t:TT):Prop :=
 ∀(pins:List (Addr×Obj)) (s:Shared) (σ:St) (H:Hp) (Q:Bool→Hp→Prop),Inv X pins σ H s→t σ H Q→wpAny (model X.prog X.w) X.A (isTrue e X.env (eval e X.env)) (TP X pins σ Q) X.xe s
def PW(X:Cx)(e:Expr)(t:TT):Prop :=
 ∀(whole:Sem Value) (pins:List (Addr×Obj)) (s:Shared) (σ:St) (H:Hp) (Q:Bool→Hp→Prop),Inv X pins σ H s→t σ H Q→wpAny (model X.prog X.w) X.A (isTrue e X.env whole) (TP X pins σ Q) X.xe s
theorem PW.pt{t:TT}(h:PW X e t):PT X e t:=h _
def PA(X:Cx)(es:List Expr)(t:TA):Prop :=
 ∀(pos:Pos) (pins:List (Addr×Obj)) (s:Shared) (σ:St) (H:Hp) (Q:List V→Hp→Prop),Inv X pins σ H s→t σ H Q→wpAny (model X.prog X.w) X.A (spliced (backTo pos (starEach es X.env))) (AP X pins σ Q) X.xe s
def PS(X:Cx)(st:Stmt)(t:TS):Prop :=
 ∀(pins:List (Addr×Obj)) (s:Shared) (σ:St) (H:Hp) (D:Ends),Inv X pins σ H s→t D σ H→wpAny (model X.prog X.w) X.A (exec st X.env) (SP X pins D) X.xe s
def wN(X:Cx)(st:List Stmt)(t:TS):Prop :=
 ∀(pins:List (Addr×Obj)) (s:Shared) (σ:St) (H:Hp) (D:Ends),Inv X pins σ H s→t D σ H→wpAny (model X.prog X.w) X.A (execs st X.env) (SP X pins D) X.xe s
theorem bq{t:Sem α}(h:wpAny M A t Q E s)(hQ:∀a s,Q a s→Q' a s):wpAny M A t Q' E s:=zY h hQ fun _ _ x=>x
section
variable{X:Cx}
def Ot(i:Nat):TE:=fun σ H Q=>∃v,σ[i]?=some (some v)∧Q v H
def tC(v:V):TE:=fun _ H Q=>Q v H
theorem G4(hN:X.N[i]?=some x)(hv:Kf X.env.scope x)(hd:(x == ("__debug__" : Str))=false:=by decide)(Bc:(x == ("__classdict__" : Str))=false:=by decide):PE X (.Name x pos) (Ot i):=by
 intro pins s σ H Q I h
 obtain⟨v,e,h⟩:=h
 obtain⟨m,hn,hl⟩:=I.loc
 obtain⟨u,r,l⟩:=hl i x v hN e hv
 have fin:EP X pins σ Q u s:=⟨v,H,I,r,h⟩
 rcases l with ⟨hk,hm⟩|⟨hk,c,hc,FY⟩
 ·exact wpAny_Name (wpAny_loadName_local I.ok.kind hk hn hm fin) hd
 ·rcases hk with hk|hk
  ·exact wpAny_Name (wpAny_loadName_cell I.ok.kind hk hc FY fin) hd
  ·exact wpAny_Name (wpAny_loadName_free I.ok.kind hk hc FY fin Bc) hd
theorem G5:PE X (.Constant (.int i) j pos) (tC (.int i)):=fun _ _ _ H _ I h=>wpAny_Constant_int ⟨.int i,H,I.tok _,⟨_,rfl⟩,h⟩
theorem Kh:PE X (.Constant (.bool b) j pos) (tC (.bl b)):=fun _ _ _ H _ I h=>Constant_bool ⟨.bl b,H,I,rfl,h⟩
theorem G6:PE X (.Constant .none j pos) (tC .ax):=fun _ _ _ H _ I h=>Constant_none ⟨.ax,H,I,rfl,h⟩
theorem G7:PE X (.Constant (.str x) j pos) (tC (.str x)):=fun _ _ _ H _ I h=>Calls.Constant_str ⟨.str x,H,I.tok _,⟨_,rfl⟩,h⟩
def Gl(X:Cx)(x:Str):Prop:=X.env.kindOf x=some .globalImplicit
theorem gm(I:Inv X pins σ H s)(hg:Gl X x)(hm:X.mg x=some u)(h:Q u s)
  (hd:(x == ("__debug__" : Str))=false:=by decide):wpAny (model X.prog X.w) X.A (eval (.Name x pos) X.env) Q E s :=
 Calls.Name_function_global I.ok.kind hg (Calls.loadGlobal_global (by rw[I.ok.glob];exact I.mod.glob.keeps I.bk) hm h) hd
theorem ib(I:Inv X pins σ H s)(hg:Gl X x)(hm:X.mg x=none)(hv:bootBuiltins x=some u)(h:Q u s)
  (hn:x ≠ "__name__" := by decide) (hd:(x == ("__debug__" : Str))=false:=by decide):wpAny (model X.prog X.w) X.A (eval (.Name x pos) X.env) Q E s:=by
 obtain⟨mb,h1,h2⟩:=I.mod.blt
 exact Calls.Name_function_global I.ok.kind hg (Calls.loadGlobal_builtin (by rw[I.ok.glob];exact I.mod.glob.keeps I.bk) hm (by rw[I.ok.blt];exact h1.keeps I.bk) ((h2 x hn).trans hv) h) hd
theorem D2(hg:Gl X x)(hm:X.mg x=some u)(r:RelV v u)(hd:(x == ("__debug__" : Str))=false:=by decide):PE X (.Name x pos) (tC v) :=
 fun _ _ _ H _ I h=>gm I hg hm ⟨v,H,I,r,h⟩ hd
theorem D3(hg:Gl X x)(hm:X.mg x=none)(hv:bootBuiltins x=some u)(r:RelV v u)(hn:x ≠ "__name__" := by decide)(hd:(x == ("__debug__" : Str))=false:=by decide):PE X (.Name x pos) (tC v) :=
 fun _ _ _ H _ I h=>ib I hg hm hv ⟨v,H,I,r,h⟩ hn hd
variable{a b:Expr}{ta tb:TE}{pos:Pos}
def tB(t:TE):TT:=fun σ H Q=>t σ H fun x H1=>∃c,x=.bl c∧Q c H1
theorem G8{t:TE}(h:PE X e t)(he:∀whole,isTrue e X.env whole=(do let v ← whole;standAt e.pos;holding [v] (truthy v)):=by intro _;rfl):PT X e (tB t):=by
 intro pins s σ H Q I hw
 refine isTrue_plain (bq (h pins s σ H _ I hw) fun v s1 ⟨x,H1,I1,r1,q1⟩=>?_) (he _)
 obtain⟨d,rfl,q⟩:=q1
 cases r1
 exact yu ⟨H1,I1,q⟩
variable{tA Rk:TT}{rest:List Expr}
def SK(t u:TT):TT:=fun σ H Q=>t σ H fun c H1=>if c=true then Q true H1 else u σ H1 Q
def Ou(t:TT):TT:=fun σ H Q=>t σ H fun c H1=>Q (!c) H1
theorem pw_and1(ha:PT X a tA):PW X (.BoolOp .And [a] pos) tA:=by
 intro wh pins s σ H Q I h
 refine isTrue_and (bq (ha pins s σ H Q I h) fun c s1 e=>?_)
 cases c with
 |true=>exact isTrue_and_nil e
 |false=>exact e
theorem pw_or1(ha:PT X a tA):PW X (.BoolOp .Or [a] pos) tA:=by
 intro wh pins s σ H Q I h
 refine isTrue_or (bq (ha pins s σ H Q I h) fun c s1 e=>?_)
 cases c with
 |false=>exact isTrue_or_nil e
 |true=>exact e
theorem pw_or(ha:PT X a tA)(hb:PW X (.BoolOp .Or (b::rest) pos) Rk):PW X (.BoolOp .Or (a::b::rest) pos) (SK tA Rk):=by
 intro wh pins s σ H Q I h
 refine isTrue_or (bq (ha pins s σ H _ I h) fun c s1 ⟨H1,I1,q1⟩=>?_)
 cases c with
 |true=>exact⟨H1,I1,q1⟩
 |false=>exact hb wh pins s1 σ H1 Q I1 q1
theorem G9(ha:PT X a tA):PT X (.UnaryOp .Not a pos) (Ou tA):=by
 intro pins s σ H Q I h
 exact isTrue_not (ha pins s σ H (fun c H1=>Q (!c) H1) I h)
def Ki(ta tb:TE):TE:=fun σ H Q=>ta σ H fun x H1=>∃c,x=.bl c∧if c=true then tb σ H1 Q else Q (.bl false) H1
def Ov(ta tb:TE):TE:=fun σ H Q=>ta σ H fun x H1=>∃c,x=.bl c∧if c=true then Q (.bl true) H1 else tb σ H1 Q
def Kj(ta:TE):TE:=fun σ H Q=>ta σ H fun x H1=>∃c,x=.bl c∧Q (.bl (!c)) H1
theorem G_{t:TE}(h:PE X a t):PE X (.BoolOp op [a] pos) t:=fun pins s σ H Q I hw=>BoolOp_one (h pins s σ H Q I hw)
theorem Ha(ha:PE X a ta)(hb:PE X (.BoolOp .And (b::rest) pos) tb):PE X (.BoolOp .And (a::b::rest) pos) (Ki ta tb):=by
 intro pins s σ H Q I h
 refine BoolOp_and (bq (ha pins s σ H _ I h) fun v s1 ⟨x,H1,I1,r1,q1⟩=>?_)
 obtain⟨c,rfl,q1⟩:=q1
 cases r1
 refine yu ?_
 cases c with
 |true=>exact hb pins s1 σ H1 Q I1 q1
 |false=>exact⟨.bl false,H1,I1,rfl,q1⟩
theorem Kk(ha:PE X a ta)(hb:PE X (.BoolOp .Or (b::rest) pos) tb):PE X (.BoolOp .Or (a::b::rest) pos) (Ov ta tb):=by
 intro pins s σ H Q I h
 refine BoolOp_or (bq (ha pins s σ H _ I h) fun v s1 ⟨x,H1,I1,r1,q1⟩=>?_)
 obtain⟨c,rfl,q1⟩:=q1
 cases r1
 refine yu ?_
 cases c with
 |false=>exact hb pins s1 σ H1 Q I1 q1
 |true=>exact⟨.bl true,H1,I1,rfl,q1⟩
theorem Hb(ha:PE X a ta):PE X (.UnaryOp .Not a pos) (Kj ta):=by
 intro pins s σ H Q I h
 refine UnaryOp_ (bq (ha pins s σ H _ I h) fun v s1 ⟨x,H1,I1,r1,q1⟩=>?_)
 obtain⟨c,rfl,q1⟩:=q1
 cases r1
 exact not_of (yu ⟨.bl (!c),H1,I1,rfl,q1⟩)
def SM(t:TT)(ta tb:TE):TE:=fun σ H Q=>t σ H fun c H1=>if c=true then ta σ H1 Q else tb σ H1 Q
theorem Bj(hc:PT X c tA)(ha:PE X a ta)(hb:PE X b tb):PE X (.IfExp c a b pos) (SM tA ta tb):=by
 intro pins s σ H Q I h
 refine wpAny_IfExp (bq (hc pins s σ H _ I h) fun d s1 ⟨H1,I1,q1⟩=>?_)
 cases d with
 |true=>exact ha pins s1 σ H1 Q I1 q1
 |false=>exact hb pins s1 σ H1 Q I1 q1
end
def gT(K:Frag)(H:Hp)(a:Addr)(xs:List V):Prop :=
 Rd H a (.lst xs) ∨
  ∃(o:Obj) (ak:Array Value) (n:Nat),K.lookup a=some o∧o.cls=.type "list" ∧ o.dict=none∧o.data=.seq ak n∧ak.size≤sizeLine∧Vals xs ak.toList
def iX(K:Frag)(H:Hp)(a:Addr)(xs:List V):Prop :=
 Rd H a (.tup xs) ∨
  ∃(o:Obj) (ak:Array Value) (n:Nat),K.lookup a=some o∧o.cls=.type "tuple" ∧ o.data=.seq ak n∧ak.size≤sizeLine∧Vals xs ak.toList
def Ow:Value→Option V
 |.none=>some .ax
 |.bool b=>some (.bl b)
 |.int i _=>some (.int i)
 |.str x _=>some (.str x)
 |.bytes b _=>some (.yN b)
 |.float b _=>some (.JH b)
 |.ref a=>some (.ref a)
 |.type n=>some (.ty n)
 |_=>none
theorem RelV.abs(r:RelV x u):Ow u=some x:=by
 cases x with
 |ax=>cases r;rfl
 |bl _=>cases r;rfl
 |int _=>obtain⟨t,rfl⟩:=r;rfl
 |str _=>obtain⟨t,rfl⟩:=r;rfl
 |yN _=>obtain⟨t,rfl⟩:=r;rfl
 |JH _=>obtain⟨t,rfl⟩:=r;rfl
 |ref _=>cases r;rfl
 |ty _=>cases r;rfl
theorem RelV.inj(r:RelV x u)(q:RelV y u):x=y:=zV (r.abs.symm.trans q.abs)
theorem Vals.inj:∀{xs ys:List V}{us:List Value},Vals xs us→Vals ys us→xs=ys
 |_,_,_,.nil,.nil=>rfl
 |_,_,_,.cons r t,.cons r' t'=>by rw[r.inj r',Vals.inj t t']
section
variable{X:Cx}{pins:List (Addr×Obj)}{σ:St}{H:Hp}{s:Shared}{a:Addr}{xs ys:List V}
theorem gT.of{K:Frag}(h:H a=some (.lst xs)):gT K H a xs:=.inl (.inl h)
theorem iX.of{K:Frag}(h:H a=some (.tup xs)):iX K H a xs:=.inl (.inl h)
theorem Inv.list(I:Inv X pins σ H s)(h:gT X.K H a xs):∃ak:List Value,Vals xs ak∧PlainL s.heap a ak.toArray∧xs.length≤sizeLine:=by
 rcases h with h|⟨o,ak,n,hk,hc,hd,hs,hz,r⟩
 ·obtain⟨z,ak,n,r,e⟩:=h.ok I.aF
  exact⟨ak,r,⟨_,n,e,rfl,rfl,rfl⟩,z⟩
 ·refine⟨ak.toList,r,⟨o,n,I.oX a o hk,hc,hd,by simpa using hs⟩,?_⟩
  have e:=r.length
  simp only [zR] at e
  lia
theorem Inv.tuple(I:Inv X pins σ H s)(h:iX X.K H a xs):∃ak:List Value,Vals xs ak∧IsTup s.heap a ak.toArray∧xs.length≤sizeLine:=by
 rcases h with h|⟨o,ak,n,hk,hc,hs,hz,r⟩
 ·obtain⟨z,ak,r,p⟩:=h.ok I.aF
  exact⟨ak,r,p.tup,z⟩
 ·refine⟨ak.toList,r,⟨o,I.oX a o hk,hc,n,by simpa using hs⟩,?_⟩
  have e:=r.length
  simp only [zR] at e
  lia
theorem Inv.m6(I:Inv X pins σ H s)(h:gT X.K H a xs)(h':gT X.K H a ys):xs=ys:=by
 obtain⟨ak,r,⟨o,n,e,_,_,d⟩,_⟩:=I.list h
 obtain⟨its',r',⟨o',n',e',_,_,d'⟩,_⟩:=I.list h'
 rw[e] at e';cases e'
 rw[d] at d'
 injection d' with d1 _
 have:ak=its':=by simpa using congrArg Array.toList d1
 subst this
 exact r.inj r'
theorem Inv.kO(I:Inv X pins σ H s)(h:iX X.K H a xs)(h':iX X.K H a ys):xs=ys:=by
 obtain⟨ak,r,⟨o,e,_,n,d⟩,_⟩:=I.tuple h
 obtain⟨its',r',⟨o',e',_,n',d'⟩,_⟩:=I.tuple h'
 rw[e] at e';cases e'
 rw[d] at d'
 injection d' with d1 _
 have:ak=its':=by simpa using congrArg Array.toList d1
 subst this
 exact r.inj r'
end
abbrev Cx.SN(X:Cx)(E:Value→Shared→Prop):Cx:={ X with xe:=E }
section
variable{X:Cx}{pins:List (Addr×Obj)}{σ:St}{H:Hp}{s:Shared}{E:Value→Shared→Prop}
end
section
variable{X:Cx}{st:Stmt}{rest:List Stmt}{t u:TS}{e:Expr}{te:TE}{pos:Pos}
def Kl:TS:=fun D σ H=>D.nx σ H
def Ox(t u:TS):TS:=fun D σ H=>t { D with nx:=u D } σ H
theorem qV:wN X [] Kl:=fun _ _ σ H _ I h=>wpAny_execs_nil ⟨σ,H,I,h⟩
theorem Bk(h1:PS X st t)(h2:wN X rest u):wN X (st::rest) (Ox t u):=by
 intro pins s σ H D I h
 refine wpAny_execs_cons (bq (h1 pins s σ H { D with nx:=u D } I h) fun f s1 q=>?_)
 cases f with
 |next =>
  obtain⟨ay,H',I',q⟩:=q
  exact h2 pins s1 ay H' D I' q
 |ret v=>exact q
 |brk=>exact q
 |cont=>exact q
theorem wO(h1:PS X st t):wN X [st] t:=by
 intro pins s σ H D I h
 refine wpAny_execs_cons (bq (h1 pins s σ H D I h) fun f s1 q=>?_)
 cases f with
 |next=>exact wpAny_execs_nil q
 |ret v=>exact q
 |brk=>exact q
 |cont=>exact q
theorem Inv.quiet(I:Inv X pins σ H s):interactive X.env=false:=by simp [interactive,I.ok.kind]
def Km(te:TE):TS:=fun D σ H=>te σ H fun _ H1=>D.nx σ H1
theorem D4(he:PE X e te)(hs:swapsWith e none pos.line X.env=pure false:=by rfl):PS X (.Expr e pos) (Km te):=by
 intro pins s σ H D I h
 exact wpAny_Expr_any (bq (he pins s σ H _ I h) <| by rintro v s1 ⟨x,H1,I1,r1,q1⟩;exact⟨σ,H1,I1,q1⟩) I.quiet hs
def Oy(te:TE):TS:=fun D σ H=>te σ H D.rt
theorem Hc(he:PE X e te):PS X (.Return (some e) pos) (Oy te):=by
 intro pins s σ H D I h
 exact wpAny_Return_some (bq (he pins s σ H _ I h) <| by rintro v s1 ⟨x,H1,I1,r1,q1⟩;exact⟨x,σ,H1,I1,r1,q1⟩)
def Oz(c:TT)(t u:TS):TS:=fun D σ H=>c σ H fun b H1=>if b=true then t D σ H1 else u D σ H1
theorem Kn(hc:PT X c tc)(ha:wN X a t)(hb:wN X b u):PS X (.If c a b pos) (Oz tc t u):=by
 intro pins s σ H D I h
 refine wpAny_If (bq (hc pins s σ H _ I h) fun d s1 ⟨H1,I1,q1⟩=>?_)
 cases d with
 |true=>exact ha pins s1 σ H1 D I1 q1
 |false=>exact hb pins s1 σ H1 D I1 q1
end
abbrev TG:=V→St→Hp→(St→Hp→Prop)→Prop
abbrev FZ:=List V→St→Hp→(St→Hp→Prop)→Prop
def PG(X:Cx)(target:Expr)(t:TG):Prop :=
 ∀(pins:List (Addr×Obj)) (s:Shared) (σ:St) (H:Hp) (v:V) (u:Value) (Q:St→Hp→Prop),Inv X pins σ H s→RelV v u→t v σ H Q →
  wpAny (model X.prog X.w) X.A (assign target X.env u) (fun _ s'=>∃ay H',Inv X pins ay H' s'∧Q ay H') X.xe s
def F_(X:Cx)(ts:List Expr)(t:FZ):Prop :=
 ∀(pins:List (Addr×Obj)) (s:Shared) (σ:St) (H:Hp) (vs:List V) (us:List Value) (Q:St→Hp→Prop),Inv X pins σ H s→Vals vs us→t vs σ H Q →
  wpAny (model X.prog X.w) X.A (assignInOrder ((assignEach ts X.env).map (·.2)) us) (fun _ s'=>∃ay H',Inv X pins ay H' s'∧Q ay H') X.xe s
abbrev Hd:=V→V→V→Hp→(Hp→Prop)→Prop
def Ko(X:Cx)(t:Hd):Prop :=
 ∀(pins:List (Addr×Obj)) (s:Shared) (σ:St) (H:Hp) (o i v:V) (ov iv u:Value) (Q:Hp→Prop),Inv X pins σ H s→RelV o ov→RelV i iv→RelV v u→t o i v H Q →
  wpAny (model X.prog X.w) X.A (setItem ov iv u) (fun _ s'=>∃H',Inv X pins σ H' s'∧Q H') X.xe s
section
variable{X:Cx}{pos:Pos}
def cu(i:Nat):TG:=fun v σ H Q=>Q (σ.set i (some v)) H
theorem gq(hN:X.N.Nodup)(hi:X.N[i]?=some x)(hx:Loc X.env.scope x)(hf:X.fn x=true∨X.env.scope.names.lookup x=some .local:=by first|exact .inl rfl|exact .inr rfl|assumption):PG X (.Name x pos) (cu i):=by
 intro pins s σ H v u Q I r h
 exact wpAny_assign_Name (mZ I hN hi hx r (fun s' I'=>⟨_,H,I',h⟩) hf)
def vc:FZ:=fun vs σ H Q=>vs=[]∧Q σ H
def dZ(t:TG)(u:FZ):FZ:=fun vs σ H Q=>∃v r,vs=v::r∧t v σ H fun ay H'=>u r ay H' Q
theorem qW:F_ X [] vc:=by
 intro pins s σ H vs us Q I r h
 obtain⟨e,h⟩:=h
 subst e
 cases r
 exact assignInOrder_nil ⟨σ,H,I,h⟩
theorem fL{t:TG}(h1:PG X e t)(h2:F_ X es u)
  (hs:(assignEach (e::es) X.env).map (·.2)=assign e X.env::(assignEach es X.env).map (·.2):=by rfl):F_ X (e::es) (dZ t u):=by
 intro pins s σ H vs us Q I r h
 obtain⟨v,vr,e1,h⟩:=h
 subst e1
 cases r with
 |cons r rr =>
  rw[hs]
  refine assignInOrder_cons (bq (h1 pins s σ H _ _ _ I r h) fun _ s1 ⟨Bl,H1,I1,q1⟩=>?_)
  exact h2 pins s1 Bl H1 _ _ Q I1 rr q1
def vd(K:Frag)(n:Nat)(t:FZ):TG:=fun v σ H Q=>∃a xs,v=.ref a∧iX K H a xs∧xs.length=n∧t xs σ H Q
theorem ve{t:FZ}(hc:X.calm=true)(h:F_ X es t)
  (hn:(assignEach es X.env).length=n:=by rfl) (sJ:(assignEach es X.env).findIdx? (·.1)=none:=by rfl):PG X (.Tuple es k pos) (vd X.K n t):=by
 intro pins s σ H v u Q I r hw
 obtain⟨a,xs,e1,hq,hl,hw⟩:=hw
 subst e1
 cases r
 obtain⟨ak,rv,ht,hz⟩:=I.tuple hq
 refine assign_Tuple_tuple (I.ok.hd hc) ht (by simp [hn,← hl,rv.length]) sJ fun h' hx=>?_
 have I1:Inv X pins σ H { s with heap:=h' }:=I.kept (t':=s.toks) fun b o e=>hx b o (zI (zw e)) e
 exact h pins _ σ H xs _ Q I1 (by simpa using rv) hw
def OA(to ti:TE)(t:Hd):TG:=fun v σ H Q=>to σ H fun o H1=>ti σ H1 fun i H2=>t o i v H2 fun H3=>Q σ H3
theorem He{t:Hd}(ho:PE X o to)(hi:PE X i ti)(hs:Ko X t)
  (ha:∀v,assign (.Subscript o i pos) X.env v=(do
   let ov ← holding [v] (eval o X.env)
   let iv ← holding [v,ov] (eval i X.env)
   standAt pos
   holding [v,ov,iv] (setItem ov iv v)
   release [v,ov,iv] []):=by intro _;rfl):PG X (.Subscript o i pos) (OA to ti t):=by
 intro pins s σ H v u Q I r h
 rw[ha]
 refine za (yn (bq (ho pins s σ H _ I h) fun ov s1 ⟨x,H1,I1,r1,q1⟩=>?_))
 refine za (yn (bq (hi pins s1 σ H1 _ I1 q1) fun iv s2 ⟨y,H2,I2,r2,q2⟩=>?_))
 refine za (wpAny_standAt (za (yn (bq (hs pins s2 σ H2 x y v ov iv u _ I2 r1 r2 r q2) fun _ s3 ⟨H3,I3,q3⟩=>?_))))
 exact wpAny_release ⟨σ,H3,I3,q3⟩
def Hf(te:TE)(g:TG):TS:=fun D σ H=>te σ H fun x H1=>g x σ H1 D.nx
theorem Bn(he:PE X e te)(hg:PG X tg g)(hs:swapsWithSole [tg] e pos.line X.env=pure false:=by rfl)(hw:swappedStores [tg] e X.env=pure none:=by rfl)
  (h1:(assignEach [tg] X.env).map (·.2)=[assign tg X.env]:=by rfl):PS X (.Assign [tg] e pos) (Hf te g):=by
 intro pins s σ H D I h
 refine wpAny_Assign_stores (bq (he pins s σ H _ I h) fun v s1 ⟨x,H1,I1,r1,q1⟩=>?_) hs hw
 rw[h1]
 exact bq (hg pins s1 σ H1 x v _ I1 r1 q1) fun _ s2 q=>q
theorem Hg(hN:X.N.Nodup)(hi:X.N[i]?=some x)(hx:Loc X.env.scope x)(he:PE X e te)(hs:swapsWith e (some (.Name x pos')) pos.line X.env=pure false:=by rfl)(hf:X.fn x=true∨X.env.scope.names.lookup x=some .local:=by first|exact .inl rfl|exact .inr rfl|assumption) :
  PS X (.Assign [.Name x pos'] e pos) (Hf te (cu i)):=by
 intro pins s σ H D I h
 refine wpAny_Assign_Name (bq (he pins s σ H _ I h) fun v s1 ⟨y,H1,I1,r1,q1⟩=>?_) hs
 exact mZ I1 hN hi hx r1 (fun s2 I2=>⟨_,H1,I2,q1⟩) hf
end
section
variable{X:Cx}{pos:Pos}
end
structure It where
 go:Nat→Hp→Prop
 Kq:Nat→Hp→V→Hp→Prop
 stop:Nat→Hp→Prop
def mn(X:Cx)(pins:List (Addr×Obj))(H:Hp)(b:Addr):Prop :=
 H b=none∧b≠X.env.locals∧b∉X.fs∧(b∈X.ex∨X.cK.heap.objs.size≤b)∧(∀x c,X.env.cells.lookup x=some c→c≠b)∧∀p∈X.pn++pins,p.1≠b
theorem Inv.m7(I:Inv X pins σ H s)(hb:s.heap.objs.size≤b)(hn:H' b=none):mn X pins H' b:=by
 refine⟨hn,yo (zm I.lt hb),I.Oi hb,.inr (zA I.sz hb),fun x c e z=>?_,fun p hp z=>?_⟩
 ·obtain⟨v,q⟩:=I.cell x c e
  exact absurd (zm q.lt (by rw[z];exact hb)) (yE _)
 ·exact absurd (zm (zw (I.pin p hp).1) (by rw[z];exact hb)) (yE _)
structure Turn(P:Program)(w:World)(K:Frag)(tg:Expr)(J:It)(fp:List Addr)(it:Addr)(tn:Nat→Heap→Prop):Prop where
 mem:it∈fp
 obj:∀i h,tn i h→∀b∈fp,∃o,h.get? b=some o∧∀v,o.data≠.cell v
 keep:∀i h h',tn i h→(∀b∈fp,∀o,h.get? b=some o→h'.get? b=some o)→tn i h'
 item:∀(X:Cx),X.prog=P→X.w=w→X.K=K→X.calm=true→∀(i:Nat) (pins:List (Addr×Obj)) (s:Shared) (σ:St) (H:Hp) (E:Value→Shared→Prop),Inv X pins σ H s→(∀b∈fp,mn X pins H b)→tn i s.heap→J.go i H →
  wpAny (model P w) X.A (pyNext (.ref it)) (fun r s1=>∃u,r=some u ∧
   wpAny (model P w) X.A (letOwnedTupleGo tg (.ref it) u) (fun _ s2=>∃x H',Inv X pins σ H' s2∧RelV x u∧J.Kq i H x H'∧tn (i+1) s2.heap∧∀b∈fp,H' b=none) E s1) E s
 done:∀(X:Cx),X.prog=P→X.w=w→X.K=K→X.calm=true→∀(i:Nat) (pins:List (Addr×Obj)) (s:Shared) (σ:St) (H:Hp) (E:Value→Shared→Prop),Inv X pins σ H s→(∀b∈fp,mn X pins H b)→tn i s.heap→J.stop i H →
  wpAny (model P w) X.A (pyNext (.ref it)) (fun r s1=>r=none∧Inv X pins σ H s1) E s
 self:∀(A:Around) (i:Nat) (s:Shared) (Q:Value→Shared→Prop) (E:Value→Shared→Prop),tn i s.heap→Q (.ref it) s→wpAny (model P w) A (pyIter (.ref it)) Q E s
abbrev TI:=St→Hp→(It→Hp→Prop)→Prop
def Nv(X:Cx)(pins:List (Addr×Obj))(σ:St)(tg:Expr)(R:It→Hp→Prop)(Nw:Value)(s2:Shared):Prop :=
 ∃(it:Addr) (fp:List Addr) (tn:Nat→Heap→Prop) (J:It) (H':Hp),Nw=.ref it∧Inv X pins σ H' s2∧Turn X.prog X.w X.K tg J fp it tn∧tn 0 s2.heap∧(∀b∈fp,mn X pins H' b)∧R J H'
def PI(X:Cx)(tg iter:Expr)(wi:TI):Prop :=
 ∀(pins:List (Addr×Obj)) (s:Shared) (σ:St) (H:Hp) (R:It→Hp→Prop),Inv X pins σ H s→wi σ H R →
  wpAny (model X.prog X.w) X.A (eval iter X.env) (fun v s1=>wpAny (model X.prog X.w) X.A (pyIter v) (Nv X pins σ tg R) X.xe s1) X.xe s
theorem sW(ho:s.heap.get? it=some o)(hc:o.cls=.type n)(hd:o.data=.fields vs)
  (hn:["enumerate","zip","dict_itemiterator","dict_reverseitemiterator","odict_iterator","itertools.zip_longest","itertools.pairwise"].contains n=false) (hQ:Q () s):wpAny M A (letOwnedTupleGo tg (.ref it) u) Q E s:=by
 unfold letOwnedTupleGo
 cases tg <;> first
  |exact zi hQ
  | (cases u <;> first
    |exact zi hQ
    | (refine za (wpAny_load ho ?_)
       rw[hc,hd]
       show wpAny M A (if (["enumerate","zip","dict_itemiterator","dict_reverseitemiterator","odict_iterator","itertools.zip_longest","itertools.pairwise"].contains n && vs[0]? == some (rawInt _))=true then _ else _) Q E s
       rw[if_neg (by intro h;rw[hn,zh] at h;cases h)]
       exact zi hQ))
def Rl(K:Frag)(a:Addr):It :=
 ⟨fun i H=>∃xs x,gT K H a xs∧xs[i]?=some x,fun i H x H'=>H'=H∧∀xs,gT K H a xs→xs[i]?=some x,fun i H=>∃xs,gT K H a xs∧xs.length≤i⟩
def Rm(K:Frag)(a:Addr):It :=
 ⟨fun i H=>∃xs x,iX K H a xs∧xs[i]?=some x,fun i H x H'=>H'=H∧∀xs,iX K H a xs→xs[i]?=some x,fun i H=>∃xs,iX K H a xs∧xs.length≤i⟩
def Kr(lo:Int)(n:Nat):It:=⟨fun i _=>i<n,fun i H x H'=>H'=H∧x=.int (lo+i),fun i _=>n≤i⟩
theorem yQ{P:Program}{w:World}{K:Frag}{tg:Expr}(a it:Addr):Turn P w K tg (Rl K a) [it] it (fun i h=>h.IsListIter it a i) where
 mem:=by simp
 obj:=fun i h st b hb=>by
  have e:b=it:=by simpa using hb
  subst e
  obtain⟨o,e,c,d⟩:=st
  exact⟨o,e,fun v z=>by rw[d] at z;cases z⟩
 keep:=fun i h h' st k=>st.at fun o e=>k it (by simp) o e
 item:=by
  intro X hP hw hK hc i pins s σ H E I hf st hg
  subst hP hw hK
  obtain⟨xs,x,hq,hx⟩:=hg
  obtain⟨ak,rv,p,hz⟩:=I.list hq
  obtain⟨u,hu,ru⟩:=rv.get hx
  obtain⟨f0,f1,f2,f3,f4,f5⟩:=hf it (by simp)
  refine wpAny_pyNext_list_item st p.isList (x:=u) (by simpa using hu) fun h' wQ sb=>?_
  have I1:Inv X pins σ H { s with heap:=h' }:=I.turned (t':=s.toks) (fun b o hb e=>(sb.2 b hb).trans e) f0 f1 f3 f4 f5
  obtain⟨o,e,c,d⟩:=id wQ
  exact⟨u,rfl,sW (s:={ s with heap:=h' }) e c d (by decide) ⟨x,H,I1,ru,⟨rfl,fun ys hy=>by rw[I.m6 hy hq];exact hx⟩,wQ,fun b hb=>(hf b hb).1⟩⟩
 done:=by
  intro X hP hw hK hc i pins s σ H E I hf st hg
  subst hP hw hK
  obtain⟨xs,hq,hx⟩:=hg
  obtain⟨ak,rv,p,hz⟩:=I.list hq
  obtain⟨f0,f1,f2,f3,f4,f5⟩:=hf it (by simp)
  have hl:=rv.length
  exact wpAny_pyNext_list_end (I.ok.hd hc) st p.isList (by simp;lia) fun h' eb=>⟨rfl,I.turned (t':=s.toks) (fun b o hb e=>eb b o hb e) f0 f1 f3 f4 f5⟩
 self:=fun _ _ _ _ _ st h=>wpAny_pyIter_listiter st h
theorem vf{P:Program}{w:World}{K:Frag}{tg:Expr}(a it:Addr):Turn P w K tg (Rm K a) [it] it (fun i h=>h.IsTupleIter it a i) where
 mem:=by simp
 obj:=fun i h st b hb=>by
  have e:b=it:=by simpa using hb
  subst e
  obtain⟨o,e,c,d⟩:=st
  exact⟨o,e,fun v z=>by rw[d] at z;cases z⟩
 keep:=fun i h h' st k=>st.at fun o e=>k it (by simp) o e
 item:=by
  intro X hP hw hK hc i pins s σ H E I hf st hg
  subst hP hw hK
  obtain⟨xs,x,hq,hx⟩:=hg
  obtain⟨ak,rv,p,hz⟩:=I.tuple hq
  obtain⟨u,hu,ru⟩:=rv.get hx
  obtain⟨f0,f1,f2,f3,f4,f5⟩:=hf it (by simp)
  refine wpAny_pyNext_tuple_item st (show s.heap.IsTuple a ak.toArray from p) (x:=u) (by simpa using hu) fun h' wQ sb=>?_
  have I1:Inv X pins σ H { s with heap:=h' }:=I.turned (t':=s.toks) (fun b o hb e=>(sb.2 b hb).trans e) f0 f1 f3 f4 f5
  obtain⟨o,e,c,d⟩:=id wQ
  exact⟨u,rfl,sW (s:={ s with heap:=h' }) e c d (by decide) ⟨x,H,I1,ru,⟨rfl,fun ys hy=>by rw[I.kO hy hq];exact hx⟩,wQ,fun b hb=>(hf b hb).1⟩⟩
 done:=by
  intro X hP hw hK hc i pins s σ H E I hf st hg
  subst hP hw hK
  obtain⟨xs,hq,hx⟩:=hg
  obtain⟨ak,rv,p,hz⟩:=I.tuple hq
  obtain⟨f0,f1,f2,f3,f4,f5⟩:=hf it (by simp)
  have hl:=rv.length
  exact wpAny_pyNext_tuple_end (I.ok.hd hc) st (show s.heap.IsTuple a ak.toArray from p) (by simp;lia) fun h' eb=>⟨rfl,I.turned (t':=s.toks) (fun b o hb e=>eb b o hb e) f0 f1 f3 f4 f5⟩
 self:=fun _ _ _ _ _ st h=>wpAny_pyIter_tupleiter st h
theorem vg{P:Program}{w:World}{K:Frag}{tg:Expr}(it:Addr)(lo:Int)(n:Nat):Turn P w K tg (Kr lo n) [it] it (fun i h=>IsRangeIter h it (lo+(i:Nat) * 1) ((n:Int) - (i:Nat)) 1) where
 mem:=by simp
 obj:=fun i h st b hb=>by
  have e:b=it:=by simpa using hb
  subst e
  exact⟨_,st,fun v z=>by
   have z':Data.fields _=Data.cell v:=z
   cases z'⟩
 keep:=fun i h h' st k=>k it (by simp) _ st
 item:=by
  intro X hP hw hK hc i pins s σ H E I hf st hg
  subst hP hw hK
  obtain⟨f0,f1,f2,f3,f4,f5⟩:=hf it (by simp)
  have W:=Walks.range (prog:=X.prog) (w:=X.w) (I.ok.hd hc) it lo 1 n
  refine W.item i s _ _ hg st fun v h' tk hv wQ kk=>?_
  obtain⟨t,rfl⟩:=hv
  have I1:Inv X pins σ H { s with heap:=h',toks:=tk }:=I.turned (fun b o hb e=>kk b o (by simpa using hb) e) f0 f1 f3 f4 f5
  refine⟨_,rfl,sW (s:={ s with heap:=h',toks:=tk }) (n := "range_iterator") wQ rfl rfl (by decide) ⟨.int (lo+i),H,I1,⟨t,?_⟩,⟨rfl,rfl⟩,wQ,fun b hb=>(hf b hb).1⟩⟩
  rw[Int.mul_one]
 done:=by
  intro X hP hw hK hc i pins s σ H E I hf st hg
  subst hP hw hK
  obtain⟨f0,f1,f2,f3,f4,f5⟩:=hf it (by simp)
  exact wpAny_pyNext_range_end (I.ok.hd hc) st (by have:n≤i:=hg;lia) fun h' eb=>⟨rfl,I.turned (t':=s.toks) (fun b o hb e=>eb b o hb e) f0 f1 f3 f4 f5⟩
 self:=fun _ _ _ _ _ st h=>wpAny_pyIter_rangeiter st h
section
variable{X:Cx}{tg:Expr}
def Ks(K:Frag)(tl:TE):TI:=fun σ H R=>tl σ H fun x H1=>∃a,x=.ref a∧(∃xs,gT K H1 a xs)∧R (Rl K a) H1
def OB(K:Frag)(tl:TE):TI:=fun σ H R=>tl σ H fun x H1=>∃a,x=.ref a∧(∃xs,iX K H1 a xs)∧R (Rm K a) H1
theorem D5{l:Expr}{tl:TE}(hl:PE X l tl):PI X tg l (Ks X.K tl):=by
 intro pins s σ H R I h
 refine bq (hl pins s σ H _ I h) fun v s1 ⟨x,H1,I1,r1,q1⟩=>?_
 obtain⟨a,e,⟨xs,hq⟩,q⟩:=q1
 subst e
 cases r1
 obtain⟨ak,rv,p,hz⟩:=I1.list hq
 refine wpAny_pyIter_list p.isList ?_
 refine⟨s1.heap.objs.size,[s1.heap.objs.size],_,_,H1,rfl,I1.kept (t':=s1.toks) fun b o e=>zc _ e,yQ a _,⟨_,zo _ rfl,rfl,rfl⟩,fun b hb=>?_,q⟩
 have e:b=s1.heap.objs.size:=by simpa using hb
 subst e
 exact I1.m7 (zk _) (I1.aF.fresh (zk _))
theorem Hh{l:Expr}{tl:TE}(hl:PE X l tl):PI X tg l (OB X.K tl):=by
 intro pins s σ H R I h
 refine bq (hl pins s σ H _ I h) fun v s1 ⟨x,H1,I1,r1,q1⟩=>?_
 obtain⟨a,e,⟨xs,hq⟩,q⟩:=q1
 subst e
 cases r1
 obtain⟨ak,rv,p,hz⟩:=I1.tuple hq
 refine wpAny_pyIter_tuple (show s1.heap.IsTuple a ak.toArray from p) ?_
 refine⟨s1.heap.objs.size,[s1.heap.objs.size],_,_,H1,rfl,I1.kept (t':=s1.toks) fun b o e=>zc _ e,vf a _,⟨_,zo _ rfl,rfl,rfl⟩,fun b hb=>?_,q⟩
 have e:b=s1.heap.objs.size:=by simpa using hb
 subst e
 exact I1.m7 (zk _) (I1.aF.fresh (zk _))
theorem sX{pins:List (Addr×Obj)}{σ:St}{H:Hp}{s:Shared}{R:It→Hp→Prop}{E:Value→Shared→Prop}{lo hi:Int}{t u v:Tok}{tk:Nat}(I:Inv X pins σ H s)(h1:-(2 ^ 62)≤lo)(h2:lo<2 ^ 62)(h3:-(2 ^ 62)≤hi)(h4:hi<2 ^ 62)
  (q:R (Kr lo (hi - lo).toNat) H):wpAny (model X.prog X.w) X.A (pyIter (.ref s.heap.objs.size)) (Nv X pins σ tg R) E { s with heap:=s.heap.push { cls:=.type "range",data:=.fields #[.int lo t,.int hi u,.int 1 v] },toks:=tk }:=by
 refine wpAny_pyIter_range (IsRange.new ..) (small_one h1 h2 h3 h4) ?_
 have I1:Inv X pins σ H { s with heap:=s.heap.push { cls:=.type "range",data:=.fields #[.int lo t,.int hi u,.int 1 v] },toks:=tk }:=I.kept fun b o e=>zc _ e
 refine⟨(s.heap.push { cls:=.type "range",data:=.fields #[.int lo t,.int hi u,.int 1 v] }).objs.size,[(s.heap.push { cls:=.type "range",data:=.fields #[.int lo t,.int hi u,.int 1 v] }).objs.size],_,_,H,rfl,
  I1.kept (t':=tk) fun b o e=>zc _ e,vg _ lo (hi - lo).toNat,?_,fun b hb=>?_,q⟩
 ·have e1:lo+((0:Nat):Int) * 1=lo:=by simp
  have e2:(((hi - lo).toNat:Nat):Int) - ((0:Nat):Int)=Builtin.Range.rangeSize lo hi 1:=by rw[rangeSize_one];split <;> lia
  show IsRangeIter _ _ (lo+((0:Nat):Int) * 1) ((((hi - lo).toNat:Nat):Int) - ((0:Nat):Int)) 1
  rw[e1,e2]
  exact zo _ rfl
 ·have e:b=(s.heap.push { cls:=.type "range",data:=.fields #[.int lo t,.int hi u,.int 1 v] }).objs.size:=by simpa using hb
  subst e
  exact I1.m7 (zk _) (I1.aF.fresh (zk _))
def Kt(ta:TA):TI:=fun σ H R=>ta σ H fun vs H1=>∃j:Int,vs=[.int j]∧-(2 ^ 62)≤j∧j<2 ^ 62∧R (Kr 0 j.toNat) H1
def Ku(ta:TA):TI:=fun σ H R=>ta σ H fun vs H1=>∃i j:Int,vs=[.int i,.int j]∧(-(2 ^ 62)≤i∧i<2 ^ 62∧-(2 ^ 62)≤j∧j<2 ^ 62)∧R (Kr i (j - i).toNat) H1
theorem yR{a:Expr}{ta:TA}{p pos:Pos}(hg:Gl X "range")(hm:X.mg "range" = none)(ha:PA X [a] ta)(hs:starEach [a] X.env=[(false,eval a X.env)]:=by rfl):PI X tg (.Call (.Name "range" p) [a] [] pos) (Kt ta):=by
 intro pins s σ H R I h
 refine Call_ (ib I hg hm boot_range (PyProof.Rows.callWith_type1 (bq (ha pos pins s σ H _ I h) fun us s1 ⟨vs,H1,I1,r1,q1⟩=>?_) hs rfl))
 obtain⟨j,e,q1,q2,q⟩:=q1
 subst e
 cases r1 with
 |cons r rr =>
  cases rr
  obtain⟨t,rfl⟩:=r
  exact call_range_1 (sX I1 (by lia) (by lia) q1 q2 (by simpa using q))
theorem yS(hg:Gl X "range")(hm:X.mg "range" = none)(ha:PA X [a,b] ta)(hs:starEach [a,b] X.env=[(false,eval a X.env),(false,eval b X.env)]:=by rfl)(l_:starEach [b] X.env=[(false,eval b X.env)]:=by rfl) :
  PI X tg (.Call (.Name "range" p) [a,b] [] pos) (Ku ta):=by
 intro pins s σ H R I h
 refine Call_ (ib I hg hm boot_range (PyProof.Rows.callWith_type1 (bq (ha pos pins s σ H _ I h) fun us s1 ⟨vs,H1,I1,r1,q1⟩=>?_) (by rw[hs,l_]) (by rw[l_];rfl)))
 obtain⟨i,j,e,⟨q1,q2,q3,q4⟩,q⟩:=q1
 subst e
 cases r1 with
 |cons r rr =>
  cases rr with
  |cons r' rr =>
   cases rr
   obtain⟨t,rfl⟩:=r
   obtain⟨t',rfl⟩:=r'
   exact call_range_2 (sX I1 q1 q2 q3 q4 q)
def OC(wi:TI)(g:TG)(tb:TS):TS:=fun D σ H=>wi σ H fun J H1=>∃W:Nat→Nat→St→Hp→Prop,(∃m,W 0 m σ H1)∧∀i m σ H,W i m σ H →
 (J.stop i H∧D.nx σ H)∨(J.go i H∧∃N:St→Hp→Prop,(∀ay H',N ay H'→∃m',m'<m∧W (i+1) m' ay H')∧∀x H',J.Kq i H x H'→g x σ H' fun JK H2=>tb { D with nx:=N,ct:=N,bk:=D.nx } JK H2)
def m8(fp:List Addr)(h:Heap):List (Addr×Obj):=fp.filterMap fun b=>(h.get? b).map fun o=>(b,o)
theorem gu(hb:b∈fp)(e:h.get? b=some o):(b,o)∈m8 fp h:=List.mem_filterMap.mpr ⟨b,hb,by rw[e];rfl⟩
theorem yT(hp:p∈m8 fp h):p.1∈fp∧h.get? p.1=some p.2:=by
 obtain⟨b,hb,e⟩:=List.mem_filterMap.mp hp
 cases q:h.get? b with
 |none=>rw[q] at e;cases e
 |some o =>
  rw[q] at e
  have e':(b,o)=p:=zV e
  subst e'
  exact⟨hb,q⟩
theorem Inv.pinned(I:Inv X pins σ H s)(hf:∀b∈fp,mn X pins H b)(ho:∀b∈fp,∃o,s.heap.get? b=some o∧∀v,o.data≠.cell v):Inv X (pins++m8 fp s.heap) σ H s :=
 I.jQ fun p hp=>(zW.mp hp).elim (fun z=>I.pin p (zN _ z)) fun z=>by
  obtain⟨hb,e⟩:=yT z
  obtain⟨f0,f1,f2,_⟩:=hf p.1 hb
  obtain⟨o,e',d⟩:=ho p.1 hb
  rw[e] at e';cases e'
  exact⟨e,f0,f1,f2,d⟩
theorem Inv.m9(I:Inv X (pins++pl) σ H s):Inv X pins σ H s:=I.jQ fun p hp=>I.pin p (zN _ (yi _ hp))
theorem Hi(hp:PassesOwn (model X.prog X.w) X.A X.env X.xe)(hc:X.calm=true)(hi:PI X tg iter wi)(hg:PG X tg g)(hb:wN X body tb)
  (hs:∀x,foldedSetIterable iter X.env x=pure x:=by intro _;rfl):PS X (.For tg iter body [] pos) (OC wi g tb):=by
 intro pins s σ H D I h
 refine wpAny_For (bq (hi pins s σ H _ I h) fun v s1 h1=>bq h1 fun Nw s2 h2=>?_) hs
 obtain⟨it,fp,tn,J,H2,e,I2,T,Kv,f2,W,⟨m0,w0⟩,turn⟩:=h2
 subst e
 -- what stays true of the iterator's objects through the loop
 have Hj:∀{H':Hp},(∀b∈fp,H' b=none)→∀b∈fp,mn X pins H' b:=fun hn b hb=>⟨hn b hb,(f2 b hb).2⟩
 refine codeAny_forLoop_any (fun n s'=>∃i ay H',Inv X pins ay H' s'∧tn i s'.heap∧(∀b∈fp,H' b=none)∧W i n ay H') ?_ m0 ⟨0,σ,H2,I2,Kv,fun b hb=>(f2 b hb).1,w0⟩
 rintro n s3 ⟨i,iY,H3,I3,Kw,Kx,w3⟩
 rcases turn i n iY H3 w3 with ⟨stop,qn⟩|⟨go,N,hN,step⟩
 ·refine wpAny_passesOwn hp (bq (T.done X rfl rfl rfl hc i pins s3 iY H3 X.xe I3 (Hj Kx) Kw stop) fun r s4 ⟨hr,I4⟩=>?_)
  subst hr
  exact wpAny_execs_nil ⟨iY,H3,I4,qn⟩
 ·refine wpAny_passesOwn hp (bq (T.item X rfl rfl rfl hc i pins s3 iY H3 X.xe I3 (Hj Kx) Kw go) fun r s4 ⟨u,hr,h4⟩=>?_)
  subst hr
  refine wpAny_passesOwn hp (bq h4 fun _ s5 ⟨x,H5,I5,r5,y5,st5,fr5⟩=>?_)
  have OD:=I5.pinned (Hj fr5) (T.obj _ _ st5)
  refine wpAny_passesOwn hp (bq (hg _ s5 iY H5 x u _ OD r5 (step x H5 y5)) fun _ s6 ⟨Ky,H6,I6,q6⟩=>?_)
  refine wpAny_passesOwn hp (bq (hb _ s6 Ky H6 _ I6 q6) fun f s7 q7=>?_)
  have again:∀{Bo:St}{H7:Hp},Inv X (pins++m8 fp s5.heap) Bo H7 s7→N Bo H7→∃m,m<n∧∃i ay H',Inv X pins ay H' s7∧tn i s7.heap∧(∀b∈fp,H' b=none)∧W i m ay H':=fun {Bo H7} I7 n7=>by
   obtain⟨m',hm,w7⟩:=hN Bo H7 n7
   refine⟨m',hm,i+1,Bo,H7,I7.m9,T.keep _ _ _ st5 fun b hb o e=>(I7.pin (b,o) (zN _ (zN _ (gu hb e)))).1,fun b hb=>?_,w7⟩
   obtain⟨o,e,d⟩:=T.obj _ _ st5 b hb
   exact (I7.pin (b,o) (zN _ (zN _ (gu hb e)))).2.1
  cases f with
  |next=>obtain⟨Bo,H7,I7,n7⟩:=q7;exact again I7 n7
  |cont=>obtain⟨Bo,H7,I7,n7⟩:=q7;exact again I7 n7
  |brk=>obtain⟨Bo,H7,I7,q7⟩:=q7;exact⟨Bo,H7,I7.m9,q7⟩
  |ret v=>obtain⟨x7,Bo,H7,I7,r7,q7⟩:=q7;exact⟨x7,Bo,H7,I7.m9,r7,q7⟩
end
abbrev R2:=V→V→Hp→VK→Prop
def fh(X:Cx)(f:Value→Value→Sem Value)(r:R2):Prop :=
 ∀(pins:List (Addr×Obj)) (s:Shared) (σ:St) (H:Hp) (x y:V) (v u:Value) (Q:VK),Inv X pins σ H s→RelV x v→RelV y u→r x y H Q →
  wpAny (model X.prog X.w) X.A (f v u) (EP X pins σ Q) X.xe s
def OE(X:Cx)(f:Value→Sem Value)(r:V→Hp→VK→Prop):Prop :=
 ∀(pins:List (Addr×Obj)) (s:Shared) (σ:St) (H:Hp) (x:V) (v:Value) (Q:VK),Inv X pins σ H s→RelV x v→r x H Q →
  wpAny (model X.prog X.w) X.A (f v) (EP X pins σ Q) X.xe s
def dA(X:Cx)(f:Value)(r:List V→Hp→VK→Prop):Prop :=
 ∀(pins:List (Addr×Obj)) (s:Shared) (σ:St) (H:Hp) (xs:List V) (us:List Value) (Q:VK),Inv X pins σ H s→Vals xs us→r xs H Q →
  wpAny (model X.prog X.w) X.A (call f us) (EP X pins σ Q) X.xe s
def JL(r:R2)(ta tb:TE):TE:=fun σ H Q=>ta σ H fun x H1=>tb σ H1 fun y H2=>r x y H2 Q
def SO(r:V→Hp→VK→Prop)(ta:TE):TE:=fun σ H Q=>ta σ H fun x H1=>r x H1 Q
def rI(C:Int→Int→Prop)(g:Int→Int→V):R2:=fun x y H Q=>∃i j,x=.int i∧y=.int j∧C i j∧Q (g i j) H
def D6(g:Int→Int→V):R2:=fun x y H Q=>∃i j,x=.int i∧y=.int j∧Q (g i j) H
def rU(g:Int→V):V→Hp→VK→Prop:=fun x H Q=>∃i,x=.int i∧Q (g i) H
section
variable{X:Cx}{a b c:Expr}{ta tb tc:TE}{pos:Pos}
theorem Hk(ha:PE X a ta)(hb:PE X b tb){pins:List (Addr×Obj)}{s:Shared}{σ:St}{H:Hp}{R:V→V→Hp→Prop}(I:Inv X pins σ H s)
  (h:ta σ H fun x H1=>tb σ H1 fun y H2=>R x y H2) {Q:Value→Shared→Prop}{f:Value→Value→Sem Value}
  (hf:∀v u s2 x y H2,Inv X pins σ H2 s2→RelV x v→RelV y u→R x y H2→wpAny (model X.prog X.w) X.A (f v u) Q X.xe s2) :
  wpAny (model X.prog X.w) X.A (eval a X.env) (fun v aG=>wpAny (model X.prog X.w) X.A (eval b X.env) (fun u aW=>wpAny (model X.prog X.w) X.A (f v u) Q X.xe aW) X.xe aG) X.xe s:=by
 refine bq (ha pins s σ H _ I h) fun v s1 ⟨x,H1,I1,r1,q1⟩=>?_
 refine bq (hb pins s1 σ H1 _ I1 q1) fun u s2 ⟨y,H2,I2,r2,q2⟩=>?_
 exact hf v u s2 x y H2 I2 r1 r2 q2
theorem Kz{op:Operator}{r:R2}(ho:fh X (binaryOp op) r)(ha:PE X a ta)(hb:PE X b tb):PE X (.BinOp a op b pos) (JL r ta tb):=by
 intro pins s σ H Q I h
 exact wpAny_BinOp (Hk ha hb I h fun v u s2 x y H2 I2 rx ry q=>ho pins s2 σ H2 x y v u Q I2 rx ry q)
theorem KA(ho:OE X (unaryOp op) r)(ha:PE X a ta):PE X (.UnaryOp op a pos) (SO r ta):=by
 intro pins s σ H Q I h
 exact UnaryOp_ (bq (ha pins s σ H _ I h) <| by rintro v s1 ⟨x,H1,I1,r1,q1⟩;exact ho pins s1 σ H1 x v Q I1 r1 q1)
theorem Nx{f:Value→Value→Sem Value}{C:Int→Int→Prop}{g:Int→Int→Int}
  (rule:∀(i j:Int) (t u:Tok) (s:Shared) (Q:Value→Shared→Prop) (E:Value→Shared→Prop),C i j→Q (.int (g i j) s.toks) { s with toks:=s.toks+1 }→wpAny (model X.prog X.w) X.A (f (.int i t) (.int j u)) Q E s) :
  fh X f (rI C fun i j=>.int (g i j)):=by
 intro pins s σ H x y v u Q I rx ry h
 obtain⟨i,j,rfl,rfl,hc,q⟩:=h
 obtain⟨t,rfl⟩:=rx
 obtain⟨t',rfl⟩:=ry
 exact rule i j t t' s _ _ hc ⟨.int (g i j),H,I.tok _,⟨_,rfl⟩,q⟩
theorem KC{f:Value→Value→Sem Value}{g:Int→Int→Int}
  (rule:∀(i j:Int) (t u:Tok) (s:Shared) (Q:Value→Shared→Prop) (E:Value→Shared→Prop),Q (.int (g i j) s.toks) { s with toks:=s.toks+1 }→wpAny (model X.prog X.w) X.A (f (.int i t) (.int j u)) Q E s) :
  fh X f (D6 fun i j=>.int (g i j)):=by
 intro pins s σ H x y v u Q I rx ry h
 obtain⟨i,j,rfl,rfl,q⟩:=h
 obtain⟨t,rfl⟩:=rx
 obtain⟨t',rfl⟩:=ry
 exact rule i j t t' s _ _ ⟨.int (g i j),H,I.tok _,⟨_,rfl⟩,q⟩
theorem D7{f:Value→Value→Sem Value}{g:Int→Int→Bool}
  (rule:∀(i j:Int) (t u:Tok) (s:Shared) (Q:Value→Shared→Prop) (E:Value→Shared→Prop),Q (.bool (g i j)) s→wpAny (model X.prog X.w) X.A (f (.int i t) (.int j u)) Q E s) :
  fh X f (D6 fun i j=>.bl (g i j)):=by
 intro pins s σ H x y v u Q I rx ry h
 obtain⟨i,j,rfl,rfl,q⟩:=h
 obtain⟨t,rfl⟩:=rx
 obtain⟨t',rfl⟩:=ry
 exact rule i j t t' s _ _ ⟨.bl (g i j),H,I,rfl,q⟩
def KG(i j:Int):Prop:=0≤j∧j≤1000000∧i.natAbs<2 ^ 64
def D8(i j:Int):Prop:=(-(2 ^ 64)<i∧i<2 ^ 64)∨(-(2 ^ 64)<j∧j<2 ^ 64)
theorem D8.ok{i j:Int}(h:D8 i j):IntMulOk i j:=by
 rcases h with ⟨h1,h2⟩|⟨h1,h2⟩
 ·exact .of_left (intBits_le_64 h1 h2)
 ·exact .of_right (intBits_le_64 h1 h2)
theorem Hl:fh X (binaryOp .Add) (D6 fun i j=>.int (i+j)):=KC fun _ _ _ _ _ _ _ q=>add_int q
theorem Hm:fh X (binaryOp .Sub) (D6 fun i j=>.int (i - j)):=KC fun _ _ _ _ _ _ _ q=>sub_int q
theorem Hn:fh X (binaryOp .Mult) (rI D8 fun i j=>.int (i * j)):=Nx fun _ _ _ _ _ _ _ hc q=>mul_int q hc.ok
theorem Ho:fh X (binaryOp .Mod) (rI (fun _ j=>0<j) fun i j=>.int (i % j)):=Nx fun i j _ _ _ _ _ hc q=>by
 have h1:(0:Int)<j:=hc
 exact mod_int' (by lia) (by rw[Int.fmod_eq_emod_of_nonneg i (by lia)];exact q)
theorem Hq:fh X (binaryOp .Pow) (rI KG fun i j=>.int (i ^ j.toNat)):=Nx fun _ _ _ _ _ _ _ hc q=>pow_int_small hc.1 hc.2.1 hc.2.2 q
theorem SQ{f:Value→Sem Value}{g:Int→Int}
  (rule:∀(i:Int) (t:Tok) (s:Shared) (Q:Value→Shared→Prop) (E:Value→Shared→Prop),Q (.int (g i) s.toks) { s with toks:=s.toks+1 }→wpAny (model X.prog X.w) X.A (f (.int i t)) Q E s) :
  OE X f (rU fun i=>.int (g i)):=by
 intro pins s σ H x v Q I rx h
 obtain⟨i,rfl,q⟩:=h
 obtain⟨t,rfl⟩:=rx
 exact rule i t s _ _ ⟨.int (g i),H,I.tok _,⟨_,rfl⟩,q⟩
theorem Hr:OE X (unaryOp .USub) (rU fun i=>.int (-i)):=SQ fun _ _ _ _ _ q=>neg_int q
end
def KH:V→V→Bool
 |.ax,.ax=>true|.ax,.int _=>true|.int _,.ax=>true|.ax,.bl _=>true|.bl _,.ax=>true|.ax,.str _=>true|.str _,.ax=>true
 |.int _,.int _=>true|.bl _,.bl _=>true|.str _,.str _=>true|.yN _,.yN _=>true
 |.int _,.str _=>true|.str _,.int _=>true|.bl _,.str _=>true|.str _,.bl _=>true
 |_,_=>false
def SR:R2:=fun x y H Q=>KH x y=true∧Q (.bl (decide (x=y))) H
def SS:R2:=fun x y H Q=>KH x y=true∧Q (.bl (!decide (x=y))) H
theorem wR:decide (V.int i=V.int j)=(i == j):=by
 rw[yj]
 simp
theorem Bp:decide (V.bl i=V.bl j)=(i == j):=by
 rw[yj]
 simp
theorem wU:decide (V.str i=V.str j)=(i == j):=by
 rw[yj]
 simp
theorem wV:decide (V.yN i=V.yN j)=(i.toList == j.toList):=by
 rw[yj]
 cases i
 cases j
 simp
section
variable{X:Cx}{a b c:Expr}{ta tb tc:TE}{pos:Pos}
theorem av(I:Inv X pins σ H s)(q:Q (.bl k) H)(e:k=k'):EP X pins σ Q (.bool k') s:=by
 subst e
 exact⟨.bl k,H,I,rfl,q⟩
theorem Ga:fh X (compareOp .Eq) SR:=by
 intro pins s σ H x y v u Q I rx ry h
 obtain⟨hs,q⟩:=h
 cases x with
 |ax =>
  cases rx
  cases y with
  |ax=>cases ry;exact PySem.EqNone.eq_none_none (av I q (by simp))
  |bl j=>cases ry;exact PySem.EqNone.eq_none_bool (av I q (by simp))
  |int j=>obtain⟨t',rfl⟩:=ry;exact PySem.EqNone.eq_none_int (av I q (by simp))
  |str j=>obtain⟨t',rfl⟩:=ry;exact PySem.EqNone.eq_none_str (av I q (by simp))
  |_=>exact absurd (show false=true from hs) zg
 |bl i =>
  cases rx
  cases y with
  |ax=>cases ry;exact PySem.EqNone.eq_bool_none (av I q (by simp))
  |bl j=>cases ry;exact eq_bool (av I q Bp)
  |str j=>obtain⟨t',rfl⟩:=ry;exact PySem.EqMixed.eq_bool_str (av I q (by simp))
  |_=>exact absurd (show false=true from hs) zg
 |int i =>
  obtain⟨t,rfl⟩:=rx
  cases y with
  |ax=>cases ry;exact PySem.EqNone.eq_int_none (av I q (by simp))
  |int j=>obtain⟨t',rfl⟩:=ry;exact eq_int (av I q wR)
  |str j=>obtain⟨t',rfl⟩:=ry;exact PySem.EqMixed.eq_int_str (av I q (by simp))
  |_=>exact absurd (show false=true from hs) zg
 |str i =>
  obtain⟨t,rfl⟩:=rx
  cases y with
  |ax=>cases ry;exact PySem.EqNone.eq_str_none (av I q (by simp))
  |bl j=>cases ry;exact PySem.EqMixed.eq_str_bool (av I q (by simp))
  |int j=>obtain⟨t',rfl⟩:=ry;exact PySem.EqMixed.eq_str_int (av I q (by simp))
  |str j=>obtain⟨t',rfl⟩:=ry;exact eq_str (av I q wU)
  |_=>exact absurd (show false=true from hs) zg
 |yN i =>
  obtain⟨t,rfl⟩:=rx
  cases y with
  |yN j=>obtain⟨t',rfl⟩:=ry;exact PySem.W.eq_bytes (av I q wV)
  |_=>exact absurd (show false=true from hs) zg
 |_=>cases y <;> exact absurd (show false=true from hs) zg
theorem Gb:fh X (compareOp .NotEq) SS:=by
 intro pins s σ H x y v u Q I rx ry h
 obtain⟨hs,q⟩:=h
 cases x with
 |ax =>
  cases rx
  cases y with
  |ax=>cases ry;exact PySem.EqNone.ne_none_none (av I q (by simp))
  |bl j=>cases ry;exact PySem.EqNone.ne_none_bool (av I q (by simp))
  |int j=>obtain⟨t',rfl⟩:=ry;exact PySem.EqNone.ne_none_int (av I q (by simp))
  |str j=>obtain⟨t',rfl⟩:=ry;exact PySem.EqNone.ne_none_str (av I q (by simp))
  |_=>exact absurd (show false=true from hs) zg
 |bl i =>
  cases rx
  cases y with
  |ax=>cases ry;exact PySem.EqNone.ne_bool_none (av I q (by simp))
  |bl j=>cases ry;exact ne_bool (av I q (congrArg not Bp))
  |str j=>obtain⟨t',rfl⟩:=ry;exact PySem.EqMixed.ne_bool_str (av I q (by simp))
  |_=>exact absurd (show false=true from hs) zg
 |int i =>
  obtain⟨t,rfl⟩:=rx
  cases y with
  |ax=>cases ry;exact PySem.EqNone.ne_int_none (av I q (by simp))
  |int j=>obtain⟨t',rfl⟩:=ry;exact ne_int (av I q (congrArg not wR))
  |str j=>obtain⟨t',rfl⟩:=ry;exact PySem.EqMixed.ne_int_str (av I q (by simp))
  |_=>exact absurd (show false=true from hs) zg
 |str i =>
  obtain⟨t,rfl⟩:=rx
  cases y with
  |ax=>cases ry;exact PySem.EqNone.ne_str_none (av I q (by simp))
  |bl j=>cases ry;exact PySem.EqMixed.ne_str_bool (av I q (by simp))
  |int j=>obtain⟨t',rfl⟩:=ry;exact PySem.EqMixed.ne_str_int (av I q (by simp))
  |str j=>obtain⟨t',rfl⟩:=ry;exact ne_str (av I q (congrArg not wU))
  |_=>exact absurd (show false=true from hs) zg
 |yN i =>
  obtain⟨t,rfl⟩:=rx
  cases y with
  |yN j=>obtain⟨t',rfl⟩:=ry;exact PySem.W.ne_bytes (av I q (congrArg not wV))
  |_=>exact absurd (show false=true from hs) zg
 |_=>cases y <;> exact absurd (show false=true from hs) zg
theorem KI:fh X (compareOp .Lt) (D6 fun i j=>.bl (decide (i<j))):=D7 fun _ _ _ _ _ _ _ q=>lt_int q
theorem KJ:fh X (compareOp .LtE) (D6 fun i j=>.bl (decide (i≤j))):=D7 fun _ _ _ _ _ _ _ q=>le_int q
theorem KL:fh X (compareOp .Gt) (D6 fun i j=>.bl (decide (j<i))):=D7 fun _ _ _ _ _ _ _ q=>gt_int q
theorem KN:fh X (compareOp .GtE) (D6 fun i j=>.bl (decide (j≤i))):=D7 fun _ _ _ _ _ _ _ q=>ge_int q
theorem yU:fh X (compareOp .Lt) (fun x y H Q=>∃i j,x=.str i∧y=.str j∧Q (.bl (decide (i.cps.toList<j.cps.toList))) H):=by
 intro pins s σ H x y v u Q I rx ry h
 obtain⟨i,j,rfl,rfl,q⟩:=h
 obtain⟨t,rfl⟩:=rx
 obtain⟨t',rfl⟩:=ry
 exact lt_str (av I q rfl)
theorem yV:fh X (compareOp .In) (fun x y H Q=>∃i j,x=.str i∧y=.str j∧Q (.bl (!(Builtin.Str.occurrences j i 0 j.length 1).isEmpty)) H):=by
 intro pins s σ H x y v u Q I rx ry h
 obtain⟨i,j,rfl,rfl,q⟩:=h
 obtain⟨t,rfl⟩:=rx
 obtain⟨t',rfl⟩:=ry
 exact in_str (av I q rfl)
theorem Hs:fh X (compareOp .Is) (fun x y H Q=>y=.ax∧Q (.bl (decide (x=.ax))) H):=by
 intro pins s σ H x y v u Q I rx ry h
 obtain⟨rfl,q⟩:=h
 cases ry
 refine is_none_gen (av I q ?_)
 cases x <;> first
  | (cases rx;rfl)
  | (obtain⟨t,rfl⟩:=rx;rfl)
theorem D9:fh X (compareOp .IsNot) (fun x y H Q=>y=.ax∧Q (.bl (!decide (x=.ax))) H):=by
 intro pins s σ H x y v u Q I rx ry h
 obtain⟨rfl,q⟩:=h
 cases ry
 refine isnot_none_gen (av I q ?_)
 cases x <;> first
  | (cases rx;rfl)
  | (obtain⟨t,rfl⟩:=rx;rfl)
theorem qX:fh X (compareOp .NotIn) (fun x y H Q=>∃i j,x=.str i∧y=.str j∧Q (.bl (!(!(Builtin.Str.occurrences j i 0 j.length 1).isEmpty))) H):=by
 intro pins s σ H x y v u Q I rx ry h
 obtain⟨i,j,rfl,rfl,q⟩:=h
 obtain⟨t,rfl⟩:=rx
 obtain⟨t',rfl⟩:=ry
 exact notIn_str (av I q rfl)
theorem OF(b:Expr)(h:op≠.In:=by decide)(h2:op≠.NotIn:=by decide):behindInMarks op b=false:=by
 have e1:(op == CmpOp.In)=false:=by cases op <;> first|rfl|exact absurd rfl h
 have e2:(op == CmpOp.NotIn)=false:=by cases op <;> first|rfl|exact absurd rfl h2
 cases b <;> simp [behindInMarks,e1,e2]
theorem wW{op:CmpOp}{r:R2}(ho:fh X (compareOp op) r)(ha:PE X a ta)(hb:PE X b tb)(hm:behindInMarks op b=false):PE X (.Compare a [op] [b] pos) (JL r ta tb):=by
 intro pins s σ H Q I h
 exact wpAny_Compare1 (Hk ha hb I h fun v u s2 x y H2 I2 rx ry q=>ho pins s2 σ H2 x y v u Q I2 rx ry q) hm
def Bq(t:TE):TT:=fun σ H Q=>t σ H fun x H'=>∃k,x=.bl k∧Q k H'
theorem D_{op:CmpOp}{r:R2}(ho:fh X (compareOp op) r)(ha:PE X a ta)(hb:PE X b tb)(hm:behindInMarks op b=false):PT X (.Compare a [op] [b] pos) (Bq (JL r ta tb)):=by
 intro pins s σ H Q I h
 refine wpAny_isTrue_Compare1 (bq (ha pins s σ H _ I h) fun v s1 ⟨x,H1,I1,r1,q1⟩=>bq (hb pins s1 σ H1 _ I1 q1) fun u s2 ⟨y,H2,I2,r2,q2⟩ =>
  bq (ho pins s2 σ H2 x y v u _ I2 r1 r2 q2) fun c s3 ⟨z,H3,I3,r3,k,e,q3⟩=>?_) hm
 subst e
 cases r3
 exact yu ⟨H3,I3,q3⟩
def vh(r r':R2)(ta tb tc:TE):TE:=fun σ H Q=>ta σ H fun x H1=>tb σ H1 fun y H2=>r x y H2 fun z H3=>∃k,z=.bl k ∧
 (if k=true then tc σ H3 fun w' H4=>r' y w' H4 Q else Q (.bl false) H3)
theorem Br{op yW:CmpOp}{r r':R2}(ho:fh X (compareOp op) r)(u9:fh X (compareOp yW) r')(ha:PE X a ta)(hb:PE X b tb)(hc:PE X c tc)
  (hm:lastMarks [op,yW] [b,c]=false:=by with_unfolding_all rfl):PE X (.Compare a [op,yW] [b,c] pos) (vh r r' ta tb tc):=by
 intro pins s σ H Q I h
 refine Compare_chain (bq (ha pins s σ H _ I h) fun v s1 ⟨x,H1,I1,r1,q1⟩=>chain_link (bq (hb pins s1 σ H1 _ I1 q1) fun u s2 ⟨y,H2,I2,r2,q2⟩ =>
  bq (ho pins s2 σ H2 x y v u _ I2 r1 r2 q2) fun d s3 ⟨z,H3,I3,r3,k,e,q3⟩=>?_)) hm
 subst e
 cases r3
 refine yu ?_
 cases k with
 |false=>exact ite_ff ⟨.bl false,H3,I3,rfl,q3⟩
 |true=>exact ite_tt (chain_last (bq (hc pins s3 σ H3 _ I3 q3) fun w' s4 ⟨z',H4,I4,r4,q4⟩=>u9 pins s4 σ H4 y z' u w' Q I4 r2 r4 q4))
theorem Bs{op yW:CmpOp}{r r':R2}(ho:fh X (compareOp op) r)(u9:fh X (compareOp yW) r')(ha:PE X a ta)(hb:PE X b tb)(hc:PE X c tc)
  (hm:lastMarks [op,yW] [b,c]=false:=by with_unfolding_all rfl):PT X (.Compare a [op,yW] [b,c] pos) (Bq (vh r r' ta tb tc)):=by
 intro pins s σ H Q I h
 refine isTrue_chain (bq (ha pins s σ H _ I h) fun v s1 ⟨x,H1,I1,r1,q1⟩=>test_link (bq (hb pins s1 σ H1 _ I1 q1) fun u s2 ⟨y,H2,I2,r2,q2⟩ =>
  bq (ho pins s2 σ H2 x y v u _ I2 r1 r2 q2) fun d s3 ⟨z,H3,I3,r3,k,e,q3⟩=>?_)) hm
 subst e
 cases r3
 refine yu ?_
 cases k with
 |false =>
  obtain⟨k',e',q'⟩:=q3
  cases e'
  exact ite_ff ⟨H3,I3,q'⟩
 |true =>
  refine ite_tt (test_last (bq (hc pins s3 σ H3 _ I3 q3) fun w' s4 ⟨z',H4,I4,r4,q4⟩=>bq (u9 pins s4 σ H4 y z' u w' _ I4 r2 r4 q4) fun d' s5 ⟨z2,H5,I5,r5,k2,e2,q5⟩=>?_))
  subst e2
  cases r5
  exact yu ⟨H5,I5,q5⟩
theorem m_:(sizeLine:Nat)<2 ^ 63:=by rw[sizeLine_eq];decide
theorem vi:fh X (binaryOp .Add) (fun x y H Q=>∃i j,x=.str i∧y=.str j∧i.length+j.length≤sizeLine∧Q (.str (i++j)) H):=by
 intro pins s σ H x y v u Q I rx ry h
 obtain⟨i,j,rfl,rfl,hz,q⟩:=h
 obtain⟨t,rfl⟩:=rx
 obtain⟨t',rfl⟩:=ry
 exact add_str (fun t' tk=>⟨.str (i++j),H,I.tok _,⟨_,rfl⟩,q⟩) hz
theorem vals1(r:Vals [x] us):∃u,us=[u]∧RelV x u:=by
 cases r with
 |cons r1 r2=>cases r2;exact⟨_,rfl,r1⟩
theorem vals2(r:Vals [x,y] us):∃u w',us=[u,w']∧RelV x u∧RelV y w':=by
 cases r with
 |cons r1 r2 =>
  cases r2 with
  |cons r3 r4=>cases r4;exact⟨_,_,rfl,r1,r3⟩
theorem iZ:dA X (.type "int") (fun xs H Q=>(∃i,xs=[.int i]∧Q (.int i) H)∨∃k,xs=[.bl k]∧Q (.int (if k then 1 else 0)) H):=by
 intro pins s σ H xs us Q I r h
 rcases h with ⟨i,rfl,q⟩|⟨k,rfl,q⟩
 ·obtain⟨u,rfl,t,rfl⟩:=vals1 r
  exact call_int_int ⟨.int i,H,I,⟨_,rfl⟩,q⟩
 ·obtain⟨u,rfl,r1⟩:=vals1 r
  cases r1
  exact call_int_bool ⟨.int (if k then 1 else 0),H,I.tok _,⟨_,rfl⟩,q⟩
def OH(K:Frag)(x:V)(H:Hp)(n:Nat):Prop :=
 match x with
 |.str y=>y.length≤sizeLine∧n=y.length
 |.yN y=>y.size≤sizeLine∧n=y.size
 |.ref p=>(∃xs,gT K H p xs∧n=xs.length)∨∃xs,iX K H p xs∧n=xs.length
 |_=>False
theorem ic:dA X (.builtin "len") (fun xs H Q=>∃x n,xs=[x]∧OH X.K x H n∧Q (.int n) H):=by
 intro pins s σ H xs us Q I r h
 obtain⟨x,n,rfl,e,q⟩:=h
 obtain⟨u,rfl,rx⟩:=vals1 r
 have hl:=m_
 have hs:sizeLine=16777216:=sizeLine_eq
 cases x with
 |str y =>
  obtain⟨t,rfl⟩:=rx
  obtain⟨hy,e'⟩:y.length≤sizeLine∧n=y.length:=e
  subst e'
  exact len_str (by lia) ⟨.int _,H,I.tok _,⟨_,rfl⟩,q⟩
 |yN y =>
  obtain⟨t,rfl⟩:=rx
  obtain⟨hy,e'⟩:y.size≤sizeLine∧n=y.size:=e
  subst e'
  exact PySem.W.len_bytes (by lia) ⟨.int _,H,I.tok _,⟨_,rfl⟩,q⟩
 |ref p =>
  cases rx
  have e':(∃xs,gT X.K H p xs∧n=xs.length)∨∃xs,iX X.K H p xs∧n=xs.length:=e
  rcases e' with ⟨xs,hx,e'⟩|⟨xs,hx,e'⟩
  ·subst e'
   obtain⟨ak,r',pl,hz⟩:=I.list hx
   have hlen:=r'.length
   exact Calls.call_len_list pl.isList (by simp only [zr];lia) ⟨.int xs.length,H,I.tok _,⟨_,by simp only [zr];rw[hlen]⟩,q⟩
  ·subst e'
   obtain⟨ak,r',pl,hz⟩:=I.tuple hx
   have hlen:=r'.length
   exact len_tuple pl (by simp only [zr];lia) ⟨.int xs.length,H,I.tok _,⟨_,by simp only [zr];rw[hlen]⟩,q⟩
 |_=>exact (show False from e).elim
end
structure Ht(h:Heap)(x dx C:Addr)(mA:Str→Option Value):Prop where
 obj:h.get? x=some (instObj C dx)
 ns:h.Ns1 dx mA
 ne:dx≠x
theorem yX{h:Heap}{dx:Addr}{mA:Str→Option Value}(n:h.Ns1 dx mA):∃od,h.get? dx=some od∧∀name,lookIn name od=some (mA name):=by
 obtain⟨o,es,ep,ho,hd,hk,_,hm⟩:=n
 refine⟨o,ho,fun name=>?_⟩
 have e:=hm name
 unfold nsFind findBy at e
 rw[← Array.find?_toList] at e
 unfold lookIn
 rw[hd]
 dsimp only
 split
 ·rename_i y q
  rw[q] at e
  exact congrArg some e
 ·rename_i q
  rw[q] at e
  have a:es.toList.any (·.refKey)=false:=by
   rw[List.any_eq_false]
   intro y hy
   obtain⟨z,t,Hu⟩:=hk y (Array.mem_toList_iff.mp hy)
   simp [DictEntry.refKey,Hu]
  have a':¬ es.toList.any (·.refKey)=true:=by rw[a];exact zg
  rw[if_neg a']
  exact congrArg some e
theorem Ht.look(I:Ht h x dx C mA):∃od,PySem.W.InstAt h x (instObj C dx) C (some od)∧∀name,lookIn name od=some (mA name) :=
 let ⟨od,ho,hl⟩:=yX I.ns
 ⟨od,⟨I.obj,rfl,rfl,ho⟩,hl⟩
section
variable{prog:Program}{w:World}{A:Around}{E:Value→Shared→Prop}{s:Shared}{K:Frag}{x dx C f:Addr}{mA:Str→Option Value}{name:Str}{v:Value}
end
theorem kL.some_of(r:kL (some v) o):∃u,o=some u∧RelV v u:=by
 cases o with
 |none=>exact (show False from r).elim
 |some u=>exact⟨u,rfl,r⟩
section
variable{P:Program}{w:World}{H H':Hp}{h h':Heap}{a C dx:Addr}{fs SH:List (Str×V)}
theorem Ea(aF:jk P w H h)(e:H a=some (.ins C dx fs)):∃mA,Ht h a dx C mA∧(∀f,kL (fs.lookup f) (mA f))∧PySem.Within mA (fs.map (·.1))∧fs.length≤1000∧H dx=some (.own a):=by
 obtain⟨d,z,ne,ob,mA,n,r,q⟩:=(show aV P w H h a (.ins C dx fs) from aF a _ e)
 exact⟨mA,⟨ob,n,ne⟩,r,q,z,d⟩
end
structure OI(K:Frag)(C:Addr):Prop where
 pg:plainGet K C Str.empty=true
 hd:PySem.W.hasDictIn K C=true
 po:PySem.W.plainOver K C=true
 sa:findIn K (.ref C) "__setattr__" = some (some (.builtin "object.__setattr__"))
theorem OI.get{K:Frag}{C:Addr}(c:OI K C)(f:Str):plainGet K C f=true:=c.pg
structure Wl(K:Frag)(C:Addr)(f:Str)(v:V)(u:Value):Prop where
 at_:findIn K (.ref C) f=some (some u)
 rel:RelV v u
 get:specialIn K u "__get__" = some none
 cp:PySem.W.copiedNames.contains f=false
structure Meth(K:Frag)(C:Addr)(m:Str)(f:Addr):Prop where
 at_:findIn K (.ref C) m=some (some (.ref f))
 fn:isFn K (.ref f)=true
 kp:keepIn K (.ref f)=true
section
variable{X:Cx}{pins:List (Addr×Obj)}{σ:St}{H:Hp}{s:Shared}{a C dx:Addr}{fs:List (Str×V)}{f:Str}{v:V}{A:Around}{E:Value→Shared→Prop}
end
section
variable{X:Cx}{o e value:Expr}{f:Str}{pos pos' OJ:Pos}{ta tv:TE}
end
section
variable{X:Cx}{pins:List (Addr×Obj)}{σ:St}{H:Hp}{s:Shared}{A:Around}{E:Value→Shared→Prop}{Q:Value→Shared→Prop}{c:Value}{b:Bool}
inductive kP (K:Frag) (H:Hp):V→Value→Prop where
 |ax:kP K H .ax (.type "NoneType")
 |bl (x:Bool):kP K H (.bl x) (.type "bool")
 |int (i:Int):kP K H (.int i) (.type "int")
 |str (x:Str):kP K H (.str x) (.type "str")
 |JH (x:UInt64):kP K H (.JH x) (.type "float")
 |lst {a:Addr}{xs:List V} (e:H a=some (.lst xs)):kP K H (.ref a) (.type "list")
 |kM {a:Addr}{o:Obj}{xs:List V} (e:H a=some (.kM o (.lst xs))):kP K H (.ref a) (.type "list")
 |tup {a:Addr}{xs:List V} (e:H a=some (.tup xs)):kP K H (.ref a) (.type "tuple")
 |dK {a:Addr}{kvs:List (Key×V)} (e:H a=some (.dK kvs)):kP K H (.ref a) (.type "dict")
 |dT {a:Addr}{kvs:List (List Key×V)} (e:H a=some (.dT kvs)):kP K H (.ref a) (.type "dict")
 |ins {a C dx:Addr}{fs:List (Str×V)} (e:H a=some (.ins C dx fs)) (cl:OI K C) (ha:findIn K (.ref C) "__class__" = some (some (.builtin "object.__class__")))
   (hn:specialIn K (.builtin "object.__class__") "__get__" = some (some (.builtin "getset_descriptor.__get__"))) (Rn:PySem.W.takesIn K (.builtin "object.__class__")=some true)
   (hm:mroIn K C (.type "object")=some true):kP K H (.ref a) (.ref C)
theorem yY{u t:Value}(I:Inv X pins σ H s)(rx:RelV x u)(ty:kP X.K H x t)(e:kitOne X.K t c=some b)(h:∀tk,Q (.bool b) { s with toks:=tk }) :
  wpAny (model X.prog X.w) A (call (.builtin "isinstance") [u,c]) Q E s:=by
 cases ty with
 |ax=>cases (show u=Value.none from rx);exact kia_one PySem.W.kitx_none I.oX True.intro e (fun z=>nomatch z) h
 |bl y=>cases (show u=Value.bool y from rx);exact kia_one PySem.W.kitx_bool I.oX True.intro e (fun z=>nomatch z) h
 |int i=>obtain⟨t,q⟩:=(show ∃t,u=Value.int i t from rx);cases q;exact kia_one PySem.W.kitx_int I.oX True.intro e (fun z=>nomatch z) h
 |str y=>obtain⟨t,q⟩:=(show ∃t,u=Value.str y t from rx);cases q;exact kia_one PySem.W.kitx_str I.oX True.intro e (fun z=>nomatch z) h
 |JH y=>obtain⟨t,q⟩:=(show ∃t,u=Value.float y t from rx);cases q;exact kia_one PySem.W.kitx_float I.oX True.intro e (fun z=>nomatch z) h
 |@lst a xs ea =>
  cases (show u=Value.ref a from rx)
  obtain⟨_,_,n,_,h1⟩:=(show aV X.prog X.w H s.heap a (.lst xs) from I.aF a _ ea)
  exact kia_one kitx_list I.oX ⟨_,h1,rfl⟩ e (fun z=>nomatch z) h
 |@kM a ob xs ea =>
  cases (show u=Value.ref a from rx)
  obtain⟨_,_,_,n,_,h1⟩:=(show aV X.prog X.w H s.heap a (.kM ob (.lst xs)) from I.aF a _ ea)
  exact kia_one kitx_list I.oX ⟨_,h1,rfl⟩ e (fun z=>nomatch z) h
 |@tup a xs ea =>
  cases (show u=Value.ref a from rx)
  obtain⟨_,_,_,p⟩:=(show aV X.prog X.w H s.heap a (.tup xs) from I.aF a _ ea)
  obtain⟨o,h1,h2,_⟩:=p
  exact kia_one PySem.W.kitx_tuple I.oX ⟨o,h1,h2⟩ e (fun z=>nomatch z) h
 |@dK a kvs ea =>
  cases (show u=Value.ref a from rx)
  obtain⟨_,_,vs,_,p⟩:=(show aV X.prog X.w H s.heap a (.dK kvs) from I.aF a _ ea)
  obtain⟨o,es,ep,h1,h2,_⟩:=p
  exact kia_one PySem.W.kitx_dict I.oX ⟨o,h1,h2.1⟩ e (fun z=>nomatch z) h
 |@dT a kvs ea=>exact False.elim (show aV X.prog X.w H s.heap a (.dT kvs) from I.aF a _ ea)
 |@ins a C dx fs ea cl ha hn Rn hm =>
  cases (show u=Value.ref a from rx)
  obtain⟨mA,O,_⟩:=Ea I.aF ea
  obtain⟨od,J,_⟩:=O.look
  exact kia_one (PySem.W.kitx_own (cl.get _) cl.hd ha hn Rn hm) I.oX J e (fun z=>nomatch z) h
end
structure fi(k:Nat)(A:Around):Prop where
 hd:A.handled=none
 dp:A.depth+3 * k+5<recursionLimit
 un:A.units+16 * k+200<cLine
theorem fi.mono(r:fi k A)(h:j≤k):fi j A:=⟨r.hd,by have:=r.dp;lia,by have:=r.un;lia⟩
theorem fi.deeper(r:fi (k+1) A)(env:Env):fi k (A.deeper env) :=
 ⟨r.hd,by have:=r.dp;show A.depth+1+3 * k+5<_;lia,by have:=r.un;show A.units+3+16 * k+200<_;lia⟩
theorem fi.depth(r:fi k A):A.depth<recursionLimit:=by have:=r.dp;lia
theorem fi.units(r:fi k A):A.units+64<cLine:=by have:=r.un;lia
def OK:TA:=fun _ H Q=>Q [] H
def wX(ta:TE)(tr:TA):TA:=fun σ H Q=>ta σ H fun x H1=>tr σ H1 fun xs H2=>Q (x::xs) H2
section
variable{X:Cx}{e:Expr}{es:List Expr}{te:TE}{t:TA}{pos:Pos}
theorem vj:PA X [] OK:=fun _ _ _ _ H Q I h=>Calls.spliced_nil ⟨[],H,I,.nil,h⟩
theorem Eb(ha:PE X e te)(hr:PA X es t)(hs:starEach (e::es) X.env=(false,eval e X.env)::starEach es X.env:=by rfl):PA X (e::es) (wX te t):=by
 intro pos pins s σ H Q I h
 rw[hs]
 show wpAny _ _ (spliced ((false,eval e X.env)::backTo pos (starEach es X.env))) _ _ s
 refine z0 (bq (ha pins s σ H _ I h) fun u s1 ⟨x,H1,I1,r1,q1⟩=>?_)
 exact bq (hr pos pins s1 σ H1 _ I1 q1) <| by rintro us s2 ⟨xs,H2,I2,r2,q2⟩;exact⟨x::xs,H2,I2,.cons r1 r2,q2⟩
def OL(t:TA):TE:=fun σ H Q=>t σ H fun xs H1=>xs.length≤sizeLine∧∀p,H1 p=none→Q (.ref p) (upd H1 p (.tup xs))
def OM(t:TA):TE:=fun σ H Q=>t σ H fun xs H1=>xs.length≤sizeLine∧∀p,H1 p=none→Q (.ref p) (upd H1 p (.lst xs))
theorem Hv{x1}(h:PA X es t):PE X (.Tuple es x1 pos) (OL t):=by
 intro pins s σ H Q I hq
 refine wpAny_Tuple_spliced (bq (h pos pins s σ H _ I hq) fun us s1 ⟨xs,H1,I1,r,z,q⟩=>⟨by rw[← r.length];exact z,?_⟩)
 have hf:H1 s1.heap.objs.size=none:=I1.aF.fresh (zk _)
 refine⟨.ref s1.heap.objs.size,upd H1 s1.heap.objs.size (.tup xs),I1.laid (t':=s1.toks) (fun b u e=>zc _ e) (zk _) ?_,rfl,q _ hf⟩
 exact⟨z,us,r,⟨_,zo _ rfl,rfl,rfl,_,rfl⟩⟩
theorem Hw(h:PA X es t):PE X (.List es pos) (OM t):=by
 intro pins s σ H Q I hq
 refine wpAny_List_spliced (bq (h pos pins s σ H _ I hq) fun us s1 ⟨xs,H1,I1,r,z,q⟩=>⟨by rw[← r.length];exact z,?_⟩)
 have hf:H1 s1.heap.objs.size=none:=I1.aF.fresh (zk _)
 refine⟨.ref s1.heap.objs.size,upd H1 s1.heap.objs.size (.lst xs),I1.laid (t':=s1.toks) (fun b u e=>zc _ e) (zk _) ?_,rfl,q _ hf⟩
 exact⟨z,us,0,r,zo _ rfl⟩
end
abbrev Sp:=List V→Hp→VK→XK→Prop
abbrev vk:=List Env→Hp→Shared→XK→Value→Shared→Prop
structure Bt(P:Program)(w:World)(K:Frag)(mg:Str→Option Value)(base:Heap)(A:Around)(outer:List Env)(s:Shared)(H:Hp):Prop where
 frames:A.frames=some outer
 mod:Mod K mg base
 bs:∀b o,base.get? b=some o→s.heap.get? b=some o∧H b=none
 Bh:base.objs.size≤s.heap.objs.size
 jf:s.heap.FunFrames base outer
 Bi:∀b∈hV outer,H b=none
 aF:jk P w H s.heap
 bare:AllBare s.gens
def CE(outer:List Env)(P:Program)(w:World)(H:Hp)(s:Shared)(Q:VK)(u:Value)(s':Shared):Prop :=
 ∃v H',s'.os=s.os∧AllBare s'.gens∧Un (hV outer) [] H H' s.heap s'.heap∧jk P w H' s'.heap∧RelV v u∧Q v H'
def CR(CX:vk)(outer:List Env)(P:Program)(w:World)(H:Hp)(s:Shared)(Q:VK)(E:XK)(r:Result)(s':Shared):Prop :=
 match r with
 |.ok (.ret u)=>CE outer P w H s Q u s'
 |.ok _=>False
 |.error e=>CX outer H s E e s'
structure cw(P:Program)(w:World)(K:Frag)(mg:Str→Option Value)(base:Heap)(CX:vk)(k:Nat)(f:Addr)(fd:FuncData)(ps:List Str)(sp:Sp):Prop where
 len:∀vs H Q E,sp vs H Q E→vs.length=ps.length
 run:∀(A:Around) (outer:List Env) (s:Shared) (H:Hp) (args:Args) (us:List Value) (vs:List V) (Q:VK) (E:XK),fi k A→Bt P w K mg base A outer s H→BindsTo s fd args (ps.zip us)→Vals vs us→sp vs H Q E →
  codeAny (model P w) A (.call (.ref f) args) (CR CX outer P w H s Q E) s
theorem cw.mono{P:Program}{w:World}{K:Frag}{mg:Str→Option Value}{base:Heap}{CX:vk}{j k:Nat}{f:Addr}{fd:FuncData}{ps:List Str}{sp:Sp}(F:cw P w K mg base CX j f fd ps sp)(h:j≤k) :
  cw P w K mg base CX k f fd ps sp:=⟨F.len,fun A outer s H args us vs Q E hr=>F.run A outer s H args us vs Q E (hr.mono h)⟩
theorem cw.imp{P:Program}{w:World}{K:Frag}{mg:Str→Option Value}{base:Heap}{CX:vk}{k:Nat}{f:Addr}{fd:FuncData}{ps:List Str}{sp Ny:Sp}(F:cw P w K mg base CX k f fd ps sp)
  (h:∀vs H Q E,Ny vs H Q E→sp vs H Q E):cw P w K mg base CX k f fd ps Ny :=
 ⟨fun vs H Q E q=>F.len vs H Q E (h _ _ _ _ q),fun A outer s H args us vs Q E hr he hb hv hs=>F.run A outer s H args us vs Q E hr he hb hv (h _ _ _ _ hs)⟩
section
variable{X:Cx}{pins:List (Addr×Obj)}{σ:St}{H:Hp}{s s':Shared}
theorem Inv.ON(I:Inv X pins σ H s):Bt X.prog X.w X.K X.mg X.base X.A X.stack s H :=
 ⟨I.ok.frames,I.ok.mod,I.bs,zA I.ok.Bh I.sz,I.stack,I.qU,I.aF,I.bare⟩
theorem Inv.after(I:Inv X pins σ H s)(h:CE X.stack X.prog X.w H s Q u s'):EP X pins σ Q u s':=by
 obtain⟨v,H',os,bare,un,aF,r,q⟩:=h
 obtain⟨hh,g,d,t,KO⟩:=s'
 obtain rfl:KO=s.os:=os
 exact⟨v,H',I.call (h':=hh) (g':=g) (d':=d) (t':=t) (ch:=[]) un aF bare (fun b z=>absurd z (by simp)),r,q⟩
end
def Binds(K:Frag)(fd:FuncData)(ps:List Str)(ds:List Value):Prop :=
 ∀(s:Shared) (us:List Value),K.In s.heap→(us++ds).length=ps.length→BindsTo s fd ⟨us,[]⟩ (ps.zip (us++ds))
theorem Binds.all{K:Frag}{fd:FuncData}{ps:List Str}(h:∀us:List Value,us.length=ps.length→bindArgs fd ⟨us,[]⟩=pure (ps.zip us)):Binds K fd ps []:=fun s us _ hl=>by
 rw[List.append_nil] at hl ⊢
 exact .of_eq (h us hl)
def Passes(CX:vk)(X:Cx)(E:XK):Prop:=∀(pins:List (Addr×Obj)) (σ:St) (H:Hp) (s:Shared) (e:Value) (s':Shared),Inv X pins σ H s→CX X.stack H s E e s'→X.xe e s'
section
variable{X:Cx}{CX:vk}{k:Nat}{f C:Addr}{fd:FuncData}{ps:List Str}{sp:Sp}{yZ:List V}{ds:List Value}{E:XK}{x m:Str}{p pos apos:Pos}{e o:Expr}{es:List Expr}{ta:TE}{t:TA}
structure Mk(K:Frag)(C f:Addr):Prop where
 makes:PySem.W.makesIn K C=true
 init:findIn K (.ref C) "__init__" = some (some (.ref f))
 fn:isFn K (.ref f)=true
 kp:keepIn K (.ref C)=true
end
section
variable{X:Cx}{CX:vk}{k:Nat}{f C:Addr}{fd:FuncData}{ps ks:List Str}{sp:Sp}{E:XK}{x m:Str}{p pos apos SU:Pos}{e o:Expr}{es:List Expr}{Wm:List Keyword}{te ta:TE}{t tk:TA}{nm:Option Str}
structure OO(K:Frag)(fd:FuncData)(ps ks:List Str)(g:List Value→List Value→List Value)(gV:List V→List V→List V):Prop where
 to:∀(s:Shared) (us ws:List Value),K.In s.heap→(g us ws).length=ps.length→BindsTo s fd ⟨us,ks.zip ws⟩ (ps.zip (g us ws))
 rel:∀{vs:List V}{us:List Value}{zs:List V}{ws:List Value},Vals vs us→Vals zs ws→Vals (gV vs zs) (g us ws)
variable{g:List Value→List Value→List Value}{gV:List V→List V→List V}
end
structure ai(N P:List Str)(sc:Scope):Prop where
 kind:sc.kind=.function
 co:sc.isCoroutine=false
 gen:sc.isGenerator=false
 nd:N.Nodup
 pre:N.take P.length=P
 par:∀x∈P,sc.names.lookup x=some .local∨sc.names.lookup x=some .cell
 Hx:∀y∈sc.names,y.2≠.free
theorem qo{kindOf:Str→Option NameKind}{x:Str} : ∀{binds:List (Str×Value)}{m:Str→Option Value},(∀v,(x,v)∉binds)→bindL kindOf binds m x=m x
 |[],_,_=>rfl
 | (n,v)::r,m,h=>by
  unfold bindL
  rw[qo fun w hw=>h w (zu _ hw)]
  split
  ·have:x≠n:=by rintro rfl;exact h v zx
   simp [this]
  ·rfl
theorem qp{kindOf:Str→Option NameKind}{x:Str} : ∀{binds:List (Str×Value)}{m:Str→Option Value},(∀v,(x,v)∉binds)→bindC kindOf binds m x=m x
 |[],_,_=>rfl
 | (n,v)::r,m,h=>by
  unfold bindC
  rw[qp fun w hw=>h w (zu _ hw)]
  split
  ·rfl
  ·have:x≠n:=by rintro rfl;exact h v zx
   simp [this]
theorem qq{kindOf:Str→Option NameKind}{x:Str}{v:Value} : ∀{P:List Str}{vs:List Value}{i:Nat}{m:Str→Option Value},P.Nodup→P[i]?=some x→vs[i]?=some v→kindOf x=some .local →
  bindL kindOf (P.zip vs) m x=some v
 |[],_,_,_,_,h,_,_=>by simp at h
 |_::_,[],_,_,_,_,h,_=>by simp at h
 |p::P,w::vs,0,m,nd,h1,h2,hk=>by
  simp at h1 h2;subst h1;subst h2
  show bindL kindOf ((p,w)::P.zip vs) m p=_
  unfold bindL
  rw[qo fun v hv=>(yB.mp nd).1 (List.of_mem_zip hv).1,if_pos hk]
  simp
 |p::P,w::vs,i+1,m,nd,h1,h2,hk=>by
  show bindL kindOf ((p,w)::P.zip vs) m x=_
  unfold bindL
  exact qq (i:=i) (yB.mp nd).2 (by simpa using h1) (by simpa using h2) hk
theorem qr{kindOf:Str→Option NameKind}{x:Str}{v:Value} : ∀{P:List Str}{vs:List Value}{i:Nat}{m:Str→Option Value},P.Nodup→P[i]?=some x→vs[i]?=some v→kindOf x≠some .local →
  bindC kindOf (P.zip vs) m x=some v
 |[],_,_,_,_,h,_,_=>by simp at h
 |_::_,[],_,_,_,_,h,_=>by simp at h
 |p::P,w::vs,0,m,nd,h1,h2,hk=>by
  simp at h1 h2;subst h1;subst h2
  show bindC kindOf ((p,w)::P.zip vs) m p=_
  unfold bindC
  rw[qp fun v hv=>(yB.mp nd).1 (List.of_mem_zip hv).1,if_neg hk]
  simp
 |p::P,w::vs,i+1,m,nd,h1,h2,hk=>by
  show bindC kindOf ((p,w)::P.zip vs) m x=_
  unfold bindC
  exact qr (i:=i) (yB.mp nd).2 (by simpa using h1) (by simpa using h2) hk
def start(N:List Str)(vs:List V):St:=vs.map some++List.replicate (N.length - vs.length) none
def ie(CX:vk)(P:Program)(w:World)(K:Frag)(mg:Str→Option Value)(base:Heap)(N:List Str)(qual:Str)(scope:Scope)(f:Addr)(cd:Value)(A:Around)(outer:List Env)(s:Shared)(H:Hp)(E:XK):Cx where
 prog:=P
 w:=w
 K:=K
 mg:=mg
 base:=base
 A:=A.deeper (envOfC qual scope s.heap.objs.size f cd)
 N:=N
 cK:=s
 sT:=H
 env:=envOfC qual scope s.heap.objs.size f cd
 outer:=outer
 stack:=envOfC qual scope s.heap.objs.size f cd::outer
 ex:=[]
 calm:=true
 fn:=fun _=>true
 pn:=[]
 xe:=fun e s'=>wpAny (model P w) (A.deeper (envOfC qual scope s.heap.objs.size f cd)) (leaving (envOfC qual scope s.heap.objs.size f cd) e) (fun _ y6=>CX outer H s E e y6) (fun e' y6=>CX outer H s E e' y6) s'
theorem sY{sc:Scope}{n:Nat}{x:Str}(h:sc.names.lookup x=some .cell):∃c,(cellsFrom n sc.names []).lookup x=some c:=by
 have q:=PySem.W.cellsFrom_some sc.names n [] (.inl h)
 exact Option.isSome_iff_exists.mp q
theorem y7{CX:vk}{P:Program}{w:World}{K:Frag}{mg:Str→Option Value}{base:Heap}{N ps:List Str}{qual:Str}{scope:Scope}{f:Addr}{cd:Value}{A:Around}{outer:List Env}{s s1:Shared}{H:Hp}{E:XK}{us:List Value}{vs:List V}
  (S:ai N ps scope) (hd:A.handled=none) (e0:Bt P w K mg base A outer s H) (hl:vs.length=ps.length) (r:Vals vs us)
  (x:InCallC s s.heap.objs.size (bindL (envOfC qual scope s.heap.objs.size f cd).kindOf (ps.zip us) fun _=>none) (cellsFrom (s.heap.objs.size+1) scope.names []) (bindC (envOfC qual scope s.heap.objs.size f cd).kindOf (ps.zip us) fun _=>none) s1) :
  Inv (ie CX P w K mg base N qual scope f cd A outer s H E) [] (start N vs) H s1:=by
 have jl:ps.length≤N.length:=by have:=congrArg List.length S.pre;rw[zG] at this;lia
 obtain⟨h1,tk,rfl,hk⟩:=x.done
 have KP:∀b:Addr,b∉(ie CX P w K mg base N qual scope f cd A outer s H E).ex:=fun b z=>absurd (show b∈([]:List Addr) from z) (by simp)
 refine⟨⟨e0.mod,S.kind,rfl,rfl,zk _,fun y z c h1 h2=>?_,fun y hy=>?_,fun y c _ h=>?_,fun _=>hd,Around.frames_deeper e0.frames,.inr ⟨rfl,rfl⟩,fun b z=>absurd z (KP b),e0.bs,e0.Bh,fun b _ _=>KP b,fun b z=>absurd z (KP b),e0.jf,e0.Bi⟩,
  rfl,e0.bare,Un.kept hk,⟨_,x.toInCall.ns,fun i y v h1 h2 h3=>?_⟩,fun y c h=>⟨_,x.cell y c h⟩,e0.aF.fresh (zk _),fun y c h=>?_,fun p hp=>absurd (show p∈([]:List (Addr×Obj)) from hp) (by simp),e0.aF.kept hk,?_⟩
 ·exact name_of_addr x.apart (PySem.mem_of_lookup h1) (PySem.mem_of_lookup h2)
 ·have hy:scope.names.lookup y=some .cell∨scope.names.lookup y=some .free:=hy
  rcases hy with hy|hy
  ·exact sY hy
  ·exact absurd rfl (S.Hx _ (PySem.mem_of_lookup hy))
 ·exact Nat.le_of_lt (x.above y c (PySem.mem_of_lookup h))
 ·have hi:i<vs.length:=by
   unfold start at h2
   by_cases hi:i<vs.length
   ·exact hi
   ·rw[List.getElem?_append_right (by simpa using hi)] at h2
    rw[List.getElem?_replicate] at h2
    split at h2 <;> cases h2
  have ha:vs[i]?=some v:=by
   unfold start at h2
   rw[List.getElem?_append_left (by simpa using hi),zQ] at h2
   cases e:vs[i]? with
   |none=>rw[e] at h2;cases h2
   |some a=>rw[e] at h2;cases h2;rfl
  obtain⟨u,hu,rv⟩:=r.get ha
  have hp:ps[i]?=some y:=by
   rw[← S.pre,List.getElem?_take_of_lt (by lia)];exact h1
  have Ro:ps.Nodup:=by rw[← S.pre];exact S.nd.sublist (List.take_sublist _ _)
  refine⟨u,rv,?_⟩
  rcases S.par y (zM hp) with k|k
  ·exact .inl ⟨k,qq Ro hp hu k⟩
  ·obtain⟨c,e⟩:=sY (n:=s.heap.objs.size+1) k
   refine .inr ⟨.inl k,c,e,?_⟩
   have q:=x.cell y c e
   rw[qr Ro hp hu (by show scope.names.lookup y≠_;rw[k];decide)] at q
   exact q
 ·exact e0.aF.fresh (Nat.le_of_lt (x.above y c (PySem.mem_of_lookup h)))
 ·unfold start
  show _=N.length
  rw[ze,zb,List.length_replicate]
  lia
theorem Ge{CX:vk}{P:Program}{w:World}{K:Frag}{mg:Str→Option Value}{base:Heap}{k:Nat}{f:Addr}{name qual:Str}{params:Arguments}{body:List Stmt}{scope:Scope}{dV kV doc pm bp ct oc:Value}{an od:Option Addr}
  {Hy:Array (Option Value)}{N ps:List Str}{sp:Sp} (lk:K.lookup f=some ⟨oc,od,.func (fnOf name qual params body scope dV kV doc pm an bp ct),Hy⟩) (Bc:codeIn K bp qual=true) (S:ai N ps scope)
  (len:∀vs H Q E,sp vs H Q E→vs.length=ps.length)
  (ig:∀(A:Around) (outer:List Env) (s:Shared) (H:Hp) (vs:List V) (Q:VK) (E:XK),fi k (A.deeper (envOfC qual scope s.heap.objs.size f bp))→sp vs H Q E →
   ∃t,wN (ie CX P w K mg base N qual scope f bp A outer s H E) body t∧t { nx:=fun _ H'=>Q .ax H',rt:=Q } (start N vs) H) :
  cw P w K mg base CX (k+1) f (fnOf name qual params body scope dV kV doc pm an bp ct) ps sp:=by
 refine⟨len,fun A outer s H args us vs Q E hr e0 hb r Bu=>?_⟩
 have hl:=len _ _ _ _ Bu
 have KX:K.In s.heap:=e0.mod.DL.keeps fun b o e=>(e0.bs b o e).1
 have lim:s.heap.NoLimit:=e0.mod.nolimit.keeps fun b o e=>(e0.bs b o e).1
 have KQ:∀y∈ps.zip us,scope.names.lookup y.1=some .local∨(scope.names.lookup y.1=some .cell∧((cellsFrom (s.heap.objs.size+1) scope.names []).lookup y.1).isSome=true):=by
  rintro⟨n,v⟩ hy
  rcases S.par n (List.of_mem_zip hy).1 with q|q
  ·exact .inl q
  ·exact .inr ⟨q,PySem.W.cellsFrom_some _ _ _ (.inl q)⟩
 refine codeAny_call_function hr.depth (KX _ _ lk) rfl S.co S.gen rfl (PySem.W.codeRec_of KX Bc) (hb _ _ _ _ ?_)
 refine wpAny_newFunctionEnv_cells S.kind KQ fun env he s1 x=>?_
 subst he
 refine⟨lim.keeps x.toInCall.keep,codeAny_func ?_⟩
 obtain⟨t,ht,hq⟩:=ig A outer s H vs Q E (hr.deeper _) Bu
 have I:Inv (ie CX P w K mg base N qual scope f bp A outer s H E) [] (start N vs) H s1:=y7 S hr.hd e0 hl r x
 refine zY (ht [] s1 (start N vs) H _ I hq) (fun fl s' hs=>?_) fun e s' hs=>hs
 have fin:∀{ay:St}{H':Hp}{v:V}{u:Value},Inv (ie CX P w K mg base N qual scope f bp A outer s H E) [] ay H' s'→RelV v u→Q v H'→CE outer P w H s Q u s' :=
  fun {ay H' v u} J rv q=>⟨v,H',J.os,J.bare,J.base,J.aF,rv,q⟩
 cases fl with
 |ret u =>
  obtain⟨v,ay,H',J,rv,q⟩:=hs
  exact fin J rv q
 |next =>
  obtain⟨ay,H',J,q⟩:=hs
  exact fin (v:=V.ax) (u:=Value.none) J rfl q
 |brk =>
  obtain⟨_,_,_,q⟩:=hs
  exact False.elim q
 |cont =>
  obtain⟨_,_,_,q⟩:=hs
  exact False.elim q
section
variable{X:Cx}{x:Str}{p pos:Pos}{e:Expr}{es:List Expr}{t:TA}{id T:String}{r:List V→Hp→VK→Prop}
def OP(r:List V→Hp→VK→Prop)(t:TA):TE:=fun σ H Q=>t σ H fun vs H1=>r vs H1 Q
theorem nc(hc:dA X (.builtin id) r)(hg:Gl X x)(hm:X.mg x=none)(hv:bootBuiltins x=some (.builtin id))(ha:PA X (e::es) t)(hn:x ≠ "__name__" := by decide)(ng:(x == ("__debug__" : Str))=false:=by decide)
  (he:starEach (e::es) X.env=(false,eval e X.env)::starEach es X.env:=by rfl) (jl:(backTo pos (starEach es X.env)).any (·.1)=false:=by rfl):PE X (.Call (.Name x p) (e::es) [] pos) (OP r t):=by
 intro pins s σ H Q I h
 refine wpAny_Call_Name_kw (ib I hg hm hv ?_ hn ng)
 exact PyProof.Rows.callWith_builtin1 (bq (ha pos pins s σ H _ I h) <| by rintro us s1 ⟨vs,H1,I1,r1,q1⟩;exact hc pins s1 σ H1 vs us Q I1 r1 q1) he jl
theorem kQ(hc:dA X (.type T) r)(hg:Gl X x)(hm:X.mg x=none)(hv:bootBuiltins x=some (.type T))(ha:PA X (e::es) t)(hn:x ≠ "__name__" := by decide)(ng:(x == ("__debug__" : Str))=false:=by decide)
  (he:starEach (e::es) X.env=(false,eval e X.env)::starEach es X.env:=by rfl) (jl:(backTo pos (starEach es X.env)).any (·.1)=false:=by rfl):PE X (.Call (.Name x p) (e::es) [] pos) (OP r t):=by
 intro pins s σ H Q I h
 refine wpAny_Call_Name_kw (ib I hg hm hv ?_ hn ng)
 exact PyProof.Rows.callWith_type1 (bq (ha pos pins s σ H _ I h) <| by rintro us s1 ⟨vs,H1,I1,r1,q1⟩;exact hc pins s1 σ H1 vs us Q I1 r1 q1) he jl
end
end L2
namespace HT
open PySem PyProof.Rows
section
open PySem.SeqAt
open PySem.AutoSeq1 (wpAny_loadPart')
open PySem.MeetsSeq PySem.MeetsSeq2 PySem.MeetsSeq3
end
section
variable{prog:Program}{w:World}{A:Around}{E:Value→Shared→Prop}{s:Shared}
theorem cat_tup{t b:Addr}(ht:IsTup s.heap t vs.toArray)(hb:IsTup s.heap b ws.toArray)(hv:vs≠[])
  (h1:ws=[]→Q (.ref t) s) (h2:ws≠[]→Q (.ref s.heap.objs.size) { s with heap:=s.heap.push { cls:=.type "tuple",data:=.seq (vs++ws).toArray } })
  (hsz:vs.length+ws.length≤sizeLine):wpAny (model prog w) A (binaryOp .Add (.ref t) (.ref b)) Q E s:=by
 obtain⟨⟨cls,dd,data,sl⟩,ho,hc,n,hd⟩:=id ht
 obtain⟨⟨OQ,KR,data2,vm⟩,Ec,JM,n2,hd2⟩:=id hb
 simp only at hc hd JM hd2
 subst hc hd JM hd2
 have e:vs.toArray++ws.toArray=(vs++ws).toArray:=by simp
 by_cases hw:ws=[]
 ·exact concat_meets ⟨_,ho,rfl⟩ ⟨_,Ec,rfl⟩ noFill_tuple_add seq_tuple_add PySem.F.slot_tuple_add PySem.F.entry_tuple_add (PySem.F.args_tuple_add_2 _ _)
   (tuple_addW1 t b vs.toArray ws.toArray n n2 dd KR sl vm (by simpa using hv) (by simp [hw])) ⟨ho,Ec,h1 hw⟩
 ·refine concat_meets ⟨_,ho,rfl⟩ ⟨_,Ec,rfl⟩ noFill_tuple_add seq_tuple_add PySem.F.slot_tuple_add PySem.F.entry_tuple_add (PySem.F.args_tuple_add_2 _ _)
   (tuple_addW2 t b vs.toArray ws.toArray n n2 dd KR sl vm (by simpa using hv) (by simpa using hw) (by rw[zr,zr];exact hsz)) ⟨ho,Ec,?_⟩
  rw[e]
  exact h2 hw
def sIx(n d:Nat):Option Int→Nat
 |none=>d
 |some v=>if v<0 then (v+(n:Int)).toNat else min v.toNat n
theorem sIx_none(n d:Nat):sIx n d none=d:=rfl
theorem sIx_nat(n d k:Nat):sIx n d (some (k:Int))=min k n:=by
 show (if (k:Int)<0 then ((k:Int)+(n:Int)).toNat else min (k:Int).toNat n)=min k n
 rw[if_neg (by lia),yb]
theorem sIx_le(n d:Nat)(hd:d≤n)(o:Option Int):sIx n d o≤n:=by
 cases o with
 |none=>exact hd
 |some v =>
  show (if v<0 then (v+(n:Int)).toNat else min v.toNat n)≤n
  by_cases hv:v<0
  ·rw[if_pos hv];lia
  ·rw[if_neg hv];exact Nat.min_le_right _ _
theorem clip_eq(v:Int)(n d:Nat):(if v<0 then max (v+(n:Int)) 0 else min v (n:Int))=((sIx n d (some v):Nat):Int):=by
 show (if v<0 then max (v+(n:Int)) 0 else min v (n:Int))=(((if v<0 then (v+(n:Int)).toNat else min v.toNat n):Nat):Int)
 by_cases hv:v<0
 ·simp only [if_pos hv];lia
 ·simp only [if_neg hv];lia
theorem adjust_gen(lo hi:Option Int)(n:Nat):Builtin.Slice.sliceAdjust lo hi 1 (n:Int)=(((sIx n 0 lo:Nat):Int),((sIx n n hi:Nat):Int)):=by
 have h1:¬ ((1:Int)<0):=by lia
 unfold Builtin.Slice.sliceAdjust
 simp only [h1,if_false]
 refine Prod.ext ?_ ?_
 ·cases lo with
  |none=>rfl
  |some v=>exact clip_eq v n 0
 ·cases hi with
  |none=>rfl
  |some v=>exact clip_eq v n n
theorem places_gen(i j:Nat):Builtin.Slice.slicePlaces (i:Int) (j:Int) 1=j - i:=by
 unfold Builtin.Slice.slicePlaces
 have h1:(1:Int)>0:=by lia
 simp only [h1,if_true,Int.ediv_one]
 split <;> lia
theorem slicePart_(p:IsPart v o)(h:Q o s):wpAny (model prog w) A (Builtin.Slice.slicePartIndex v) Q E s:=by
 cases p with
 |none=>exact slicePart_none h
 |int i t=>exact slicePart_int h
theorem sliceApplied_gen{sl:Addr}{vl vu:Value}{lo hi:Option Int}{n:Nat}{Q:Int×Int×Nat→Shared→Prop}(hs:s.heap.IsSliceOf sl vl vu .none)(pl:IsPart vl lo)(pu:IsPart vu hi)
  (h:Q (((sIx n 0 lo:Nat):Int),1,sIx n n hi - sIx n 0 lo) s):wpAny (model prog w) A (Builtin.Slice.sliceApplied (.ref sl) (pure (n:Int))) Q E s:=by
 obtain⟨os,KS,Nz,NA⟩:=id hs
 unfold Builtin.Slice.sliceApplied Builtin.Slice.sliceFields
 refine za (za (zL KS NA (x:=vl) rfl (za (zL KS NA (x:=vu) rfl (za (zL KS NA (x:=.none) rfl (zi ?_)))))))
 refine za (slicePart_none ?_)
 show wpAny _ _ (if ((1:Int) == 0)=true then _ else _) _ _ s
 rw[if_neg (by decide)]
 refine za (slicePart_ pl (za (slicePart_ pu (za (zi ?_)))))
 show wpAny _ _ (match Builtin.Slice.sliceAdjust lo hi 1 (n:Int) with|(lo,hi)=>pure (lo,(1:Int),Builtin.Slice.slicePlaces lo hi 1)) _ _ s
 rw[adjust_gen lo hi n]
 show wpAny _ _ (pure (((sIx n 0 lo:Nat):Int),(1:Int),Builtin.Slice.slicePlaces ((sIx n 0 lo:Nat):Int) ((sIx n n hi:Nat):Int) 1)) _ _ s
 rw[places_gen]
 exact zi h
theorem pick_gen(xs:Array Value)(i k:Nat):((List.range k).filterMap fun (m:Nat)=>xs[((i:Int)+(m:Int) * 1).toNat]?).toArray=((xs.toList.drop i).take k).toArray:=by
 have e:(fun (m:Nat)=>xs[((i:Int)+(m:Int) * 1).toNat]?)=fun m=>xs[i+m]?:=by
  funext m
  have:((i:Int)+(m:Int) * 1).toNat=i+m:=by lia
  rw[this]
 rw[e]
 have:=pick_run xs i k
 rw[List.filterMap_map] at this
 have e2:((fun x=>xs[x]?) ∘ fun x=>i+x)=fun m=>xs[i+m]?:=rfl
 rw[e2] at this
 rw[this]
theorem getItem_tuple_cut{t sl:Addr}{items:Array Value}{vl vu:Value}{lo hi:Option Int}{Q:Value→Shared→Prop}(ht:IsTup s.heap t items)(hs:s.heap.IsSliceOf sl vl vu .none)(pl:IsPart vl lo)(pu:IsPart vu hi)
  (hw:¬ (sIx items.size 0 lo=0∧sIx items.size items.size hi=items.size))
  (h:Q (.ref s.heap.objs.size) { s with heap:=s.heap.push { cls:=.type "tuple",data:=.seq ((items.toList.drop (sIx items.size 0 lo)).take (sIx items.size items.size hi - sIx items.size 0 lo)).toArray } })
  (hsz:items.size≤sizeLine):wpAny (model prog w) A (getItem (.ref t) (.ref sl)) Q E s:=by
 have wY:sizeOk (.seq ((items.toList.drop (sIx items.size 0 lo)).take (sIx items.size items.size hi - sIx items.size 0 lo)).toArray):=by
  show ((items.toList.drop (sIx items.size 0 lo)).take (sIx items.size items.size hi - sIx items.size 0 lo)).toArray.size≤sizeLine
  rw[zr,zG,zB,zR]
  lia
 have hj:sIx items.size items.size hi≤items.size:=sIx_le _ _ (zk _) hi
 obtain⟨os,KS,Nz,NA⟩:=id hs
 have SV:s.TypeIs (.ref sl) "slice" := ⟨os,KS,Nz⟩
 unfold getItem
 try with_reducible refine yn ?_
 first|refine za (zi ?_)|skip
 refine za (wpAny_sequenceKey ht.typeIs (by decide) ?_)
 refine za (wpAny_callSpecial?_slot (name:=Str.ofString "__getitem__") ht.typeIs PyProof.Rows.slot_tuple_getitem
  (wpAny_call_entry PyProof.Rows.slot_tuple_getitem ht.typeIs entry_tuple_getitem ?_ (args_tuple_getitem _ _)))
 show wpAny _ _ (Builtin.Tuple.tupleItemsOf (.ref t) >>= _) _ _ s
 refine za (tupleItemsOf_ ht ?_)
 refine za (wpAny_typeOf SV ?_)
 rw[if_pos (by decide)]
 refine za (sliceApplied_gen hs pl pu ?_)
 have Gf:¬ ((((sIx items.size 0 lo:Nat):Int) == 0 && (1:Int) == 1 && (sIx items.size items.size hi - sIx items.size 0 lo) == items.size)=true):=by
  intro q
  rw[zj,zj] at q
  have q1:((sIx items.size 0 lo:Nat):Int)=0:=eq_of_beq q.1.1
  have q2:sIx items.size items.size hi - sIx items.size 0 lo=items.size:=eq_of_beq q.2
  exact hw ⟨by lia,by lia⟩
 show wpAny _ _ (if (((sIx items.size 0 lo:Nat):Int) == 0 && (1:Int) == 1 && (sIx items.size items.size hi - sIx items.size 0 lo) == items.size)=true then _ else _) _ _ s
 rw[if_neg Gf,pick_gen]
 first
  |exact za (m:=Builtin.Tuple.tupleExact _) (yx (zi ⟨_,rfl,zi h⟩) wY)
  |exact za (m:=Builtin.Tuple.tupleExact _) (yx (za (zi (zi ⟨_,rfl,zi h⟩))) wY)
  |exact za (za (m:=Builtin.Tuple.tupleExact _) (yx (zi (zi ⟨_,rfl,zi h⟩)) wY))
  |exact za (za (m:=Builtin.Tuple.tupleExact _) (yx (zi ⟨_,rfl,zi h⟩) wY))
end
end HT
namespace L2
open PySem PySem.Spec PyProof.Rows
abbrev TO:=St→Hp→(Option Int→Hp→Prop)→Prop
def PO(X:Cx)(e:Option Expr)(t:TO):Prop :=
 ∀(pins:List (Addr×Obj)) (s:Shared) (σ:St) (H:Hp) (Q:Option Int→Hp→Prop),Inv X pins σ H s→t σ H Q →
  wpAny (model X.prog X.w) X.A (evalPart e X.env) (fun u s'=>∃o H',Inv X pins σ H' s'∧IsPart u o∧Q o H') X.xe s
def Ed:TO:=fun _ H Q=>Q none H
def KU(t:TE):TO:=fun σ H Q=>t σ H fun x H1=>∃i,x=.int i∧Q (some i) H1
section
variable{X:Cx}{e:Expr}{te:TE}{lo hi:Option Expr}{tl th:TO}{pos p2:Pos}
theorem Ee:PO X none Ed:=by
 intro pins s σ H Q I h
 rw[evalPart_none]
 exact zi ⟨none,H,I,.none,h⟩
theorem Ef(h:PE X e te):PO X (some e) (KU te):=by
 intro pins s σ H Q I hw
 rw[evalPart_some]
 refine bq (h pins s σ H _ I hw) fun u s1 ⟨x,H1,I1,r1,q1⟩=>?_
 obtain⟨i,rfl,q⟩:=q1
 obtain⟨t,rfl⟩:=r1
 exact⟨some i,H1,I1,.int i t,q⟩
def JN(X:Cx)(r:V→Option Int→Option Int→Hp→VK→Prop):Prop :=
 ∀(pins:List (Addr×Obj)) (s:Shared) (σ:St) (H:Hp) (x:V) (v vl vu:Value) (lo hi:Option Int) (sl:Addr) (Q:VK),Inv X pins σ H s→RelV x v→s.heap.IsSliceOf sl vl vu .none→IsPart vl lo→IsPart vu hi→r x lo hi H Q →
  ∃T id,typeLookup (.type T) "__getitem__" = pure (some (.builtin id))∧s.TypeIs v T∧wpAny (model X.prog X.w) X.A (getItem v (.ref sl)) (EP X pins σ Q) X.xe s
def SW(r:V→Option Int→Option Int→Hp→VK→Prop)(te:TE)(tl th:TO):TE:=fun σ H Q=>te σ H fun x H1=>tl σ H1 fun l H2=>th σ H2 fun u H3=>r x l u H3 Q
theorem Bv{r:V→Option Int→Option Int→Hp→VK→Prop}(hr:JN X r)(he:PE X e te)(hl:PO X lo tl)(hu:PO X hi th):PE X (.Subscript e (.Slice lo hi none p2) pos) (SW r te tl th):=by
 intro pins s σ H Q I h
 refine Subscript_ (bq (he pins s σ H _ I h) fun v s1 ⟨x,H1,I1,r1,q1⟩=>?_)
 refine wpAny_Slice (bq (hl pins s1 σ H1 _ I1 q1) fun vl s2 ⟨l,H2,I2,pl,q2⟩=>bq (hu pins s2 σ H2 _ I2 q2) fun vu s3 ⟨u,H3,I3,pu,q3⟩=>?_)
 rw[evalPart_none]
 refine zi ?_
 have I4:Inv X pins σ H3 { s3 with heap:=s3.heap.push { cls:=.type "slice",data:=.fields #[vl,vu,.none] } }:=I3.kept (t':=s3.toks) fun b ob q=>zc _ q
 obtain⟨T,id,hT,ht,hg⟩:=hr pins { s3 with heap:=s3.heap.push { cls:=.type "slice",data:=.fields #[vl,vu,.none] } } σ H3 x v vl vu l u s3.heap.objs.size Q I4 r1 (Heap.IsSliceOf.new ..) pl pu q3
 show wpAny (model X.prog X.w) X.A (subscriptTail e (.Slice lo hi none p2) v (.ref s3.heap.objs.size)) (EP X pins σ Q) X.xe { s3 with heap:=s3.heap.push { cls:=.type "slice",data:=.fields #[vl,vu,.none] } }
 exact tail_any (ops:=[.ref s3.heap.objs.size,v]) ht hT hg (by with_unfolding_all rfl)
def sZ(xs:List V)(lo hi:Option Int):List V:=(xs.drop (HT.sIx xs.length 0 lo)).take (HT.sIx xs.length xs.length hi - HT.sIx xs.length 0 lo)
theorem ma(xs:List V)(lo hi:Option Int):(sZ xs lo hi).length≤xs.length:=by
 unfold sZ
 rw[zG,zB]
 lia
def OR(K:Frag):V→Option Int→Option Int→Hp→VK→Prop:=fun x lo hi H Q=>∃a xs,x=.ref a∧iX K H a xs ∧
 ¬ (HT.sIx xs.length 0 lo=0∧HT.sIx xs.length xs.length hi=xs.length)∧∀p,H p=none→Q (.ref p) (upd H p (.tup (sZ xs lo hi)))
theorem Hz:JN X (OR X.K):=by
 intro pins s σ H x v vl vu lo hi sl Q I rx hs pl pu h
 obtain⟨a,xs,rfl,hx,hw,q⟩:=h
 cases rx
 obtain⟨ak,r,ht,hz⟩:=I.tuple hx
 have hlen:ak.toArray.size=xs.length:=by rw[zr];exact r.length.symm
 refine⟨"tuple",_,PyProof.Rows.slot_tuple_getitem.lookup,ht.typeIs,?_⟩
 refine HT.getItem_tuple_cut ht hs pl pu (by rw[hlen];exact hw) ?_ (by rw[hlen];exact hz)
 rw[hlen]
 refine⟨.ref s.heap.objs.size,_,I.laid (t':=s.toks) (o:=.tup (sZ xs lo hi)) (fun b ob q=>zc _ q) (zk _) ?_,rfl,q _ (I.aF.fresh (zk _))⟩
 exact⟨zA (ma xs lo hi) hz,_,(r.drop (HT.sIx xs.length 0 lo)).take (HT.sIx xs.length xs.length hi - HT.sIx xs.length 0 lo),fE.new _ _⟩
def KW(K:Frag):R2:=fun x y H Q=>∃a b xs ys,x=.ref a∧y=.ref b∧iX K H a xs∧iX K H b ys∧xs≠[]∧xs.length+ys.length≤sizeLine ∧
 (ys=[]→Q (.ref a) H)∧(ys≠[]→∀p,H p=none→Q (.ref p) (upd H p (.tup (xs++ys))))
theorem Vals.mL(r:Vals xs us):us=[]↔xs=[]:=by
 cases r with
 |nil=>simp
 |cons _ _=>simp
theorem Eg:fh X (binaryOp .Add) (KW X.K):=by
 intro pins s σ H x y v u Q I rx ry h
 obtain⟨a,b,xs,ys,rfl,rfl,ha,hb,hx,hz,q1,q2⟩:=h
 cases rx
 cases ry
 obtain⟨ak,r1,p1,_⟩:=I.tuple ha
 obtain⟨jg,r2,p2,_⟩:=I.tuple hb
 refine HT.cat_tup p1 p2 (fun z=>hx (r1.mL.mp z)) (fun z=>⟨.ref a,H,I,rfl,q1 (r2.mL.mp z)⟩) (fun z=>?_) (by rw[← r1.length,← r2.length];exact hz)
 refine⟨.ref s.heap.objs.size,_,I.laid (t':=s.toks) (o:=.tup (xs++ys)) (fun b ob q=>zc _ q) (zk _) ?_,rfl,q2 (fun w=>z (r2.mL.mpr w)) _ (I.aF.fresh (zk _))⟩
 exact⟨by rw[ze];exact hz,_,r1.append r2,fE.new _ _⟩
end
def Bw(n:Nat)(i:Int):Option Nat:=if 0≤i then (if i<n then some i.toNat else none) else if -(n:Int)≤i then some (i+n).toNat else none
def gP{α:Type}(xs:List α)(i:Int):Option α:=(Bw xs.length i).bind fun j=>xs[j]?
theorem wZ(h:Bw n i=some j):seqIndex? i n=some j∧j<n∧-(n:Int)≤i∧i<n:=by
 unfold Bw at h
 by_cases h0:0≤i
 ·rw[if_pos h0] at h
  by_cases h1:i<n
  ·rw[if_pos h1] at h
   have e:i.toNat=j:=zV h
   exact⟨by rw[seqIndex_of h0 h1,e],by lia,by lia,h1⟩
  ·rw[if_neg h1] at h;cases h
 ·rw[if_neg h0] at h
  by_cases h1:-(n:Int)≤i
  ·rw[if_pos h1] at h
   have e:(i+n).toNat=j:=zV h
   exact⟨by rw[seqIndex_neg (by lia) h1,e],by lia,h1,by lia⟩
  ·rw[if_neg h1] at h;cases h
theorem qY(h:gP xs i=some v):∃j,seqIndex? i xs.length=some j∧xs[j]?=some v∧j<xs.length∧-(xs.length:Int)≤i∧i<xs.length:=by
 unfold gP at h
 cases e:Bw xs.length i with
 |none=>rw[e] at h;cases h
 |some j =>
  rw[e] at h
  obtain⟨h1,h2,h3,h4⟩:=wZ e
  exact⟨j,h1,h,h2,h3,h4⟩
theorem i0{α:Type}{xs:List α}{j:Nat}{v:α}(h:xs[j]?=some v):gP xs (j:Int)=some v:=by
 have hj:j<xs.length:=(yc.mp h).1
 have e:Bw xs.length (j:Int)=some j:=by
  unfold Bw
  rw[if_pos (by lia),if_pos (by lia)];simp
 unfold gP;rw[e];exact h
def w5(b:Expr):Prop:=∀o i,subscripted b false o i=operate [o,i] (getItem o i)
def KY(X:Cx)(r:R2):Prop :=
 ∀(value slice:Expr) (pins:List (Addr×Obj)) (s:Shared) (σ:St) (H:Hp) (x y:V) (v u:Value) (Q:VK),Inv X pins σ H s→RelV x v→RelV y u→r x y H Q →
  subscripted slice false v u=operate [v,u] (getItem v u)→wpAny (model X.prog X.w) X.A (subscriptTail value slice v u) (EP X pins σ Q) X.xe s
def KZ(X:Cx)(id:String)(r:V→List V→Hp→VK→Prop):Prop :=
 ∀(pins:List (Addr×Obj)) (s:Shared) (σ:St) (H:Hp) (x:V) (xs:List V) (v:Value) (us:List Value) (Q:VK),Inv X pins σ H s→RelV x v→Vals xs us→r x xs H Q →
  wpAny (model X.prog X.w) X.A (call (.builtin id) (v::us)) (EP X pins σ Q) X.xe s
section
variable{X:Cx}{a b:Expr}{ta tb:TE}{pos:Pos}
theorem K0(hr:KY X r)(ha:PE X a ta)(hb:PE X b tb)(hs:w5 b):PE X (.Subscript a b pos) (JL r ta tb):=by
 intro pins s σ H Q I h
 exact Subscript_ (Hk ha hb I h fun v u s2 x y H2 I2 rx ry q=>hr a b pins s2 σ H2 x y v u Q I2 rx ry q (hs _ _))
def OS(K:Frag):R2:=fun x y H Q=>∃p xs i v,x=.ref p∧y=.int i∧gT K H p xs∧gP xs i=some v∧Q v H
def OT(K:Frag):R2:=fun x y H Q=>∃p xs i v,x=.ref p∧y=.int i∧iX K H p xs∧gP xs i=some v∧Q v H
def OU:R2:=fun x y H Q=>∃z i c,x=.str z∧y=.int i∧z.length≤sizeLine∧gP z.cps.toList i=some c∧Q (.str ⟨#[c]⟩) H
theorem w6:KY X (OS X.K):=by
 intro value slice pins s σ H x y v u Q I rx ry h hs
 obtain⟨p,xs,i,z,rfl,rfl,hq,he,q⟩:=h
 cases rx
 obtain⟨t,rfl⟩:=ry
 obtain⟨ak,r,pl,hz⟩:=I.list hq
 obtain⟨j,h1,h2,h3,h4,h5⟩:=qY he
 obtain⟨w,ew,qZ⟩:=r.get h2
 have hl:=r.length
 have hn:=m_
 have fin:EP X pins σ Q w s:=⟨z,H,I,qZ,q⟩
 by_cases h0:0≤i
 ·have hj:i.toNat=j:=by
   rw[seqIndex_of h0 h5] at h1
   exact zV h1
  exact item_listR pl.isList h0 (by lia) (by rw[hj];simpa using ew) fin hs
 ·have hj:(i+(ak.toArray.size:Int)).toNat=j:=by
   rw[seqIndex_neg (by lia) h4] at h1
   rw[zr,← hl]
   exact zV h1
  exact subscriptTail_builtinR (x:=w) pl.isList.typeIs slot_list_getitem.lookup
   (wpAny_getItem_list_neg (Q:=fun r s'=>r=w∧EP X pins σ Q r s') pl.isList (by lia) (by rw[zr] <;> lia) (by lia) (by rw[hj];simpa using ew) ⟨rfl,fin⟩) hs
theorem Bx:KY X (OT X.K):=by
 intro value slice pins s σ H x y v u Q I rx ry h hs
 obtain⟨p,xs,i,z,rfl,rfl,hq,he,q⟩:=h
 cases rx
 obtain⟨t,rfl⟩:=ry
 obtain⟨ak,r,pl,hz⟩:=I.tuple hq
 obtain⟨j,h1,h2,h3,h4,h5⟩:=qY he
 obtain⟨w,ew,qZ⟩:=r.get h2
 have hl:=r.length
 have hn:=m_
 have fin:EP X pins σ Q w s:=⟨z,H,I,qZ,q⟩
 exact subscriptTail_builtinR (x:=w) pl.typeIs slot_tuple_getitem.lookup
  (getItem_tuple (j:=j) (Q:=fun r s'=>r=w∧EP X pins σ Q r s') pl (by lia) (by lia) (by rw[zr,← hl];exact h1) (by simpa using ew) ⟨rfl,fin⟩) hs
theorem HA:KY X OU:=by
 intro value slice pins s σ H x y v u Q I rx ry h hs
 obtain⟨z,i,c,rfl,rfl,hz,he,q⟩:=h
 obtain⟨t,rfl⟩:=rx
 obtain⟨t',rfl⟩:=ry
 obtain⟨j,h1,h2,h3,h4,h5⟩:=qY he
 have hl:z.cps.toList.length=z.length:=by simp [Str.length]
 rw[hl] at h1 h4 h5
 have hn:=m_
 exact tail_any (typeIs_str s z t) slot_str_getitem.lookup (getItem_str (c:=c) (by
  have e1:decide (i < -(2 ^ 63:Int))=false:=zv (by lia)
  have e2:decide (i≥2 ^ 63)=false:=zv (by lia)
  rw[e1,e2,Bool.or_false]) (by rw[h1];simpa using h2) ⟨.str ⟨#[c]⟩,H,I.tok _,⟨_,rfl⟩,q⟩) hs
theorem vn(ak:List Value)(n j:Nat)(u:Value):Obj.mapSeq (·.setIfInBounds j u) { cls:=.type "list",data:=.seq ak.toArray n }={ cls:=.type "list",data:=.seq (ak.set j u).toArray n }:=by
 simp [Obj.mapSeq]
theorem Inv.lst(I:Inv X pins σ H s)(h:H p=some (.lst xs)) :
  ∃(ak:List Value) (n:Nat),Vals xs ak∧s.heap.get? p=some { cls:=.type "list",data:=.seq ak.toArray n }∧xs.length≤sizeLine:=by
 obtain⟨z,ak,n,r,e⟩:=I.aF p _ h
 exact⟨ak,n,r,e,z⟩
theorem Inv.HB{pins:List (Addr×Obj)}{σ:St}{H:Hp}{s:Shared}{p:Addr}{xs ys:List V}{ak its':List Value}{n n':Nat}{f:Obj→Obj}(I:Inv X pins σ H s)(h:H p=some (.lst xs))
  (ho:s.heap.get? p=some { cls:=.type "list",data:=.seq ak.toArray n }) (hf:f { cls:=.type "list",data:=.seq ak.toArray n }={ cls:=.type "list",data:=.seq its'.toArray n' }) (r:Vals ys its') (hz:ys.length≤sizeLine) (t:Nat) :
  Inv X pins σ (upd H p (.lst ys)) { s with heap:=s.heap.update p f,toks:=t }:=by
 have e:(s.heap.update p f).get? p=some { cls:=.type "list",data:=.seq its'.toArray n' }:=by
  rw[ya f ho (by rw[hf] <;> rfl),hf]
 refine I.write (x:=p) (e:=p) (by rw[h];trivial) (.inl rfl) (fun b u hb q=>(zZ _ _ (Ne.symm hb)).trans q) ⟨_,e⟩ ?_
 exact⟨hz,its',n',r,e⟩
def K1:V→V→V→Hp→(Hp→Prop)→Prop:=fun o i v H Q=>∃p xs k j,o=.ref p∧i=.int k∧H p=some (.lst xs)∧Bw xs.length k=some j∧Q (upd H p (.lst (xs.set j v)))
theorem set_list:Ko X K1:=by
 intro pins s σ H o i v ov iv u Q I ro ri rv h
 obtain⟨p,xs,k,j,rfl,rfl,hp,hj,q⟩:=h
 cases ro
 obtain⟨t,rfl⟩:=ri
 obtain⟨ak,n,r,ho,hz⟩:=I.lst hp
 obtain⟨h1,h2,h3,h4⟩:=wZ hj
 have hl:=r.length
 have hn:=m_
 have I':Inv X pins σ (upd H p (.lst (xs.set j v))) { s with heap:=s.heap.update p (Obj.mapSeq (·.setIfInBounds j u)) } :=
  I.HB hp ho (vn ak n j u) (r.set rv j) (by rw[List.length_set];exact hz) s.toks
 by_cases h0:0≤k
 ·have hk:k.toNat=j:=by
   rw[seqIndex_of h0 h4] at h1
   exact zV h1
  exact PySem.W.ki_setAt ho h0 (by lia) (by rw[zr,← hl];exact h4) (by rw[hk];exact⟨_,I',q⟩)
 ·have hk:(k+(ak.toArray.size:Int)).toNat=j:=by
   rw[seqIndex_neg (by lia) h3] at h1
   rw[zr,← hl]
   exact zV h1
  exact PySem.W.ki_setBack ho (by lia) (by rw[zr,← hl];exact h3) (by lia) (by rw[hk];exact⟨_,I',q⟩)
theorem q9(lo hi:Option Int)(n:Nat):(sliceBounds lo hi none n).1=((HT.sIx n 0 lo:Nat):Int)∧(sliceBounds lo hi none n).2.1=((HT.sIx n n hi:Nat):Int)∧(sliceBounds lo hi none n).2.2=1:=by
 refine⟨?_,?_,rfl⟩
 ·cases lo with
  |none=>simp [sliceBounds,HT.sIx]
  |some i =>
   simp only [sliceBounds,HT.sIx,Option.getD_none,show (1:Int)>0 by decide,if_true]
   by_cases h:i<0
   ·simp only [h,if_true] <;> lia
   ·simp only [h,if_false] <;> lia
 ·cases hi with
  |none=>simp [sliceBounds,HT.sIx]
  |some i =>
   simp only [sliceBounds,HT.sIx,Option.getD_none,show (1:Int)>0 by decide,if_true]
   by_cases h:i<0
   ·simp only [h,if_true] <;> lia
   ·simp only [h,if_false] <;> lia
theorem pB(ak:List Value)(lo hi:Option Int):slicePick ak.toArray lo hi none=((ak.drop (HT.sIx ak.length 0 lo)).take (HT.sIx ak.length ak.length hi - HT.sIx ak.length 0 lo)).toArray:=by
 obtain⟨h1,h2,h3⟩:=q9 lo hi ak.toArray.size
 unfold slicePick
 rw[h1,h2,h3]
 simp only [sliceRange_one,pick_run,zr] <;> rfl
def OV(K:Frag):V→Option Int→Option Int→Hp→VK→Prop:=fun x lo hi H Q=>∃a xs,x=.ref a∧gT K H a xs∧∀p,H p=none→Q (.ref p) (upd H p (.lst (sZ xs lo hi)))
theorem w_:JN X (OV X.K):=by
 intro pins s σ H x v vl vu lo hi sl Q I rx hs pl pu h
 obtain⟨a,xs,rfl,hx,q⟩:=h
 cases rx
 obtain⟨ak,r,ht,hz⟩:=I.list hx
 have hlen:=r.length
 refine⟨"list",_,slot_list_getitem.lookup,ht.isList.typeIs,?_⟩
 refine wpAny_getItem_list_slice ht.isList hs pl pu .none (by simp) ?_ (by rw[zr] <;> lia)
 rw[pB,← hlen]
 refine⟨.ref s.heap.objs.size,_,I.laid (t':=s.toks) (o:=.lst (sZ xs lo hi)) (fun b ob q=>zc _ q) (zk _) ?_,rfl,q _ (I.aF.fresh (zk _))⟩
 exact⟨zA (ma xs lo hi) hz,_,0,(r.drop (HT.sIx xs.length 0 lo)).take (HT.sIx xs.length xs.length hi - HT.sIx xs.length 0 lo),zo _ rfl⟩
def jm:V→Bool
 |.ax=>true
 |.bl _=>true
 |.int _=>true
 |.str _=>true
 |_=>false
def eqV:V→V→Bool
 |.ax,.ax=>true
 |.bl a,.bl b=>a == b
 |.bl a,.int b=>(if a then 1 else 0) == b
 |.int a,.bl b=>a == (if b then 1 else 0)
 |.int a,.int b=>a == b
 |.str a,.str b=>a == b
 |_,_=>false
theorem HC(ry:RelV y u)(rx:RelV x v)(fy:jm y=true)(fx:jm x=true):SeqAt.EqAt A s u v (eqV y x):=by
 cases y with
 |ax =>
  cases ry
  cases x with
  |ax=>cases rx;exact SeqAt.EqAt.same _
  |bl b=>cases rx;exact SeqAt.EqAt.none_bool b
  |int b=>obtain⟨t,rfl⟩:=rx;exact SeqAt.EqAt.none_int b t
  |str b=>obtain⟨t,rfl⟩:=rx;exact SeqAt.EqAt.none_str b t
  |_=>exact absurd (show false=true from fx) zg
 |bl a =>
  cases ry
  cases x with
  |ax=>cases rx;exact SeqAt.EqAt.bool_none a
  |bl b=>cases rx;exact SeqAt.EqAt.bool_bool a b
  |int b=>obtain⟨t,rfl⟩:=rx;exact SeqAt.EqAt.bool_int a b t
  |str b=>obtain⟨t,rfl⟩:=rx;exact SeqAt.EqAt.bool_str a b t
  |_=>exact absurd (show false=true from fx) zg
 |int a =>
  obtain⟨t',rfl⟩:=ry
  cases x with
  |ax=>cases rx;exact SeqAt.EqAt.int_none a t'
  |bl b=>cases rx;exact SeqAt.EqAt.int_bool a t' b
  |int b=>obtain⟨t,rfl⟩:=rx;exact SeqAt.EqAt.int_int a t' b t
  |str b=>obtain⟨t,rfl⟩:=rx;exact SeqAt.EqAt.int_str a t' b t
  |_=>exact absurd (show false=true from fx) zg
 |str a =>
  obtain⟨t',rfl⟩:=ry
  cases x with
  |ax=>cases rx;exact SeqAt.EqAt.str_none a t'
  |bl b=>cases rx;exact SeqAt.EqAt.str_bool a t' b
  |int b=>obtain⟨t,rfl⟩:=rx;exact SeqAt.EqAt.str_int a t' b t
  |str b=>obtain⟨t,rfl⟩:=rx;exact SeqAt.EqAt.str_str a t' b t
  |_=>exact absurd (show false=true from fx) zg
 |_=>exact absurd (show false=true from fy) zg
def vo(x:V)(u:Value):Bool:=match u with
 |.none=>eqV .ax x
 |.bool b=>eqV (.bl b) x
 |.int i _=>eqV (.int i) x
 |.str z _=>eqV (.str z) x
 |_=>false
theorem By(r:RelV y u)(f:jm y=true):vo x u=eqV y x:=by
 cases y with
 |ax=>cases r;rfl
 |bl b=>cases r;rfl
 |int i=>obtain⟨t,rfl⟩:=r;rfl
 |str z=>obtain⟨t,rfl⟩:=r;rfl
 |_=>exact absurd (show false=true from f) zg
theorem jR:∀{xs:List V}{us:List Value},Vals xs us→xs.all jm=true→us.any (vo x)=xs.any fun y=>eqV y x
 |_,_,.nil,_=>rfl
 |y::xs,u::us,.cons r t,f=>by
  rw[yF,zj] at f
  rw[yG,yG,By r f.1,jR t f.2]
theorem ij(rx:RelV x v)(fx:jm x=true):∀{xs:List V}{us:List Value},Vals xs us→xs.all jm=true→∀u∈us,SeqAt.EqAt A s u v (vo x u)
 |_,_,.nil,_=>fun u hu=>by cases hu
 |y::xs,u::us,.cons r t,f=>fun u' hu=>by
  rw[yF,zj] at f
  rcases zd.mp hu with rfl|hu
  ·rw[By r f.1];exact HC r rx f.1 fx
  ·exact ij rx fx t f.2 u' hu
def uV(x:V)(xs:List V):Bool:=xs.any fun y=>eqV y x
def Rp(K:Frag)(neg:Bool):R2:=fun x y H Q=>∃p xs,y=.ref p∧(gT K H p xs∨iX K H p xs)∧jm x=true∧xs.all jm=true∧Q (.bl (if neg then !uV x xs else uV x xs)) H
theorem kR:fh X (compareOp .In) (Rp X.K false):=by
 intro pins s σ H x y v u Q I rx ry h
 obtain⟨p,xs,rfl,hq,fx,fs,q⟩:=h
 cases ry
 rcases hq with hq|hq
 ·obtain⟨ak,r,pl,hz⟩:=I.list hq
  refine SeqAt.in_listAt (vo x) pl.isList (fun w hw=>ij rx fx r fs w (by simpa using hw)) ⟨.bl _,H,I,rfl,?_⟩
  rw[show ak.toArray.any (vo x)=ak.any (vo x) by simp,jR r fs]
  exact q
 ·obtain⟨ak,r,pl,hz⟩:=I.tuple hq
  refine SeqAt.in_tupleAt (vo x) pl (fun w hw=>ij rx fx r fs w (by simpa using hw)) ⟨.bl _,H,I,rfl,?_⟩
  rw[show ak.toArray.any (vo x)=ak.any (vo x) by simp,jR r fs]
  exact q
theorem gv:fh X (compareOp .NotIn) (Rp X.K true):=by
 intro pins s σ H x y v u Q I rx ry h
 obtain⟨p,xs,rfl,hq,fx,fs,q⟩:=h
 cases ry
 rcases hq with hq|hq
 ·obtain⟨ak,r,pl,hz⟩:=I.list hq
  refine SeqAt.notIn_listAt (vo x) pl.isList (fun w hw=>ij rx fx r fs w (by simpa using hw)) ⟨.bl _,H,I,rfl,?_⟩
  rw[show ak.toArray.any (vo x)=ak.any (vo x) by simp,jR r fs]
  exact q
 ·obtain⟨ak,r,pl,hz⟩:=I.tuple hq
  refine SeqAt.notIn_tupleAt (vo x) pl (fun w hw=>ij rx fx r fs w (by simpa using hw)) ⟨.bl _,H,I,rfl,?_⟩
  rw[show ak.toArray.any (vo x)=ak.any (vo x) by simp,jR r fs]
  exact q
theorem jS:dA X (.type "list") (fun xs H Q=>∃p ys,xs=[.ref p]∧(gT X.K H p ys∨iX X.K H p ys)∧∀l,H l=none→Q (.ref l) (upd H l (.lst ys))):=by
 intro pins s σ H xs us Q I r h
 obtain⟨p,ys,rfl,hq,q⟩:=h
 obtain⟨u,rfl,rx⟩:=vals1 r
 cases rx
 have fin:∀(ak:List Value),Vals ys ak→ys.length≤sizeLine→∀(h':Heap) (c':Nat),(∀b o',s.heap.get? b=some o'→h'.get? b=some o') →
   h'.get? s.heap.objs.size=some { cls:=.type "list",dict:=none,data:=.seq ak.toArray c',slots:=#[] }→EP X pins σ Q (.ref s.heap.objs.size) { s with heap:=h' }:=fun ak r' hz h' c' kp e =>
  ⟨.ref s.heap.objs.size,_,I.laid (t':=s.toks) kp (zk _) (show aV X.prog X.w _ h' _ (.lst ys) from ⟨hz,ak,c',r',e⟩),rfl,q _ (I.aF.fresh (zk _))⟩
 rcases hq with hq|hq
 ·obtain⟨ak,r',pl,hz⟩:=I.list hq
  have hlen:=r'.length
  obtain⟨o,ho,hc,n,hd⟩:=pl.isList
  exact call_list_seq p (.inl rfl) ho hc hd (fun h' c' kp e=>fin ak r' hz h' c' kp e) (by simp only [zr] <;> lia)
 ·obtain⟨ak,r',pl,hz⟩:=I.tuple hq
  have hlen:=r'.length
  obtain⟨o,ho,hc,n,hd⟩:=pl
  exact call_list_seq p (.inr rfl) ho hc hd (fun h' c' kp e=>fin ak r' hz h' c' kp e) (by simp only [zr] <;> lia)
theorem jo:dA X (.type "tuple") (fun xs H Q=>∃p ys,xs=[.ref p]∧((gT X.K H p ys∧∀l,H l=none→Q (.ref l) (upd H l (.tup ys)))∨(iX X.K H p ys∧Q (.ref p) H))):=by
 intro pins s σ H xs us Q I r h
 obtain⟨p,ys,rfl,h⟩:=h
 obtain⟨u,rfl,rx⟩:=vals1 r
 cases rx
 rcases h with ⟨hq,q⟩|⟨hq,q⟩
 ·obtain⟨ak,r',pl,hz⟩:=I.list hq
  have hlen:=r'.length
  refine call_tuple_list pl.isList (fun h' kp=>?_) (by simp only [zr] <;> lia)
  have I1:Inv X pins σ H { s with heap:=h' }:=I.kept (t':=s.toks) kp
  have I2:Inv X pins σ (upd H h'.objs.size (.tup ys)) { s with heap:=h'.push { cls:=.type "tuple",data:=.seq ak.toArray } } :=
   I1.laid (t':=s.toks) (fun b o e=>zc _ e) (zk _) (show aV X.prog X.w _ _ _ (.tup ys) from ⟨hz,ak,r',fE.new _ _⟩)
  exact⟨.ref h'.objs.size,_,I2,rfl,q _ (I1.aF.fresh (zk _))⟩
 ·obtain⟨ak,r',pl,hz⟩:=I.tuple hq
  exact call_tuple_same pl ⟨.ref p,H,I,rfl,q⟩
def OW(K:Frag)(T:String)(x:V)(H:Hp):Prop:=match x with
 |.str _=>T = "str"
 |.int _=>T = "int"
 |.ref p=>(T = "list" ∧ ∃xs,gT K H p xs)∨(T = "tuple" ∧ ∃o,K.lookup p=some o∧o.cls=.type "tuple" ∧ o.dict=none) ∨
   (T = "dict" ∧ ((∃kvs,H p=some (.dK kvs))∨∃kvs,H p=some (.dT kvs)))∨(T = "set" ∧ ∃S n,H p=some (.set S n))
 |_=>False
theorem HD(I:Inv X pins σ H s)(r:RelV x v)(ty:OW X.K T x H) :
  s.TypeIs v T∧∀a,v=.ref a→∃ob,s.heap.get? a=some ob∧ob.dict=none:=by
 cases x with
 |str z =>
  obtain⟨t,rfl⟩:=r
  cases (show T = "str" from ty)
  exact⟨typeIs_str s z t,fun _ e=>nomatch e⟩
 |int i =>
  obtain⟨t,rfl⟩:=r
  cases (show T = "int" from ty)
  exact⟨typeIs_int s i t,fun _ e=>nomatch e⟩
 |ref p =>
  cases r
  rcases ty with ⟨rfl,xs,hq⟩|⟨rfl,o,hk,hc,hd⟩|⟨rfl,hk⟩|⟨rfl,S,n,hk⟩
  ·obtain⟨ak,_,pl,_⟩:=I.list hq
   refine⟨pl.isList.typeIs,fun a e=>?_⟩
   cases e
   obtain⟨o,n,e,c,hd,_⟩:=pl
   exact⟨o,e,hd⟩
  ·refine⟨⟨o,I.oX p o hk,hc⟩,fun a e=>?_⟩
   cases e
   exact⟨o,I.oX _ o hk,hd⟩
  ·have z:∃o,s.heap.get? p=some o∧o.ExactDict:=by
    rcases hk with ⟨kvs,hk⟩|⟨kvs,hk⟩
    ·obtain⟨_,_,_,_,o,_,_,e,ex,_⟩:=I.aF p _ hk
     exact⟨o,e,ex⟩
    ·exact False.elim (I.aF p _ hk)
   obtain⟨o,e,ex⟩:=z
   refine⟨⟨o,e,ex.1⟩,fun a e2=>?_⟩
   cases e2
   exact⟨o,e,ex.2.1⟩
  ·obtain⟨o,_,_,_,e,ex,_⟩:=I.aF p _ hk
   refine⟨⟨o,e,ex.1⟩,fun a e2=>?_⟩
   cases e2
   exact⟨o,e,ex.2.1⟩
 |_=>exact False.elim ty
def SX(K:Frag)(T:String)(r:V→List V→Hp→VK→Prop)(to:TE)(t:TA):TE:=fun σ H Q=>to σ H fun x H1=>OW K T x H1∧t σ H1 fun xs H2=>r x xs H2 Q
variable{o e:Expr}{es:List Expr}{to:TE}{t:TA}{name:Str}{apos aJ:Pos}{T id:String}{r:V→List V→Hp→VK→Prop}
theorem K2(pa:PlainAttrs T)(slot:Slot T name id)(OX:typeOf (.builtin id)=pure (.type "method_descriptor"))(hm:KZ X id r)(ho:PE X o to)(ha:PA X (e::es) t)
  (ik:attributeBase o name X.env (eval o X.env)=eval o X.env:=by rfl)
  (HE:((backTo aJ (starEach (e::es) X.env)).all (fun x=>!x.1) && (backToKw aJ (keywordEach [] X.env)).all (fun x=>x.1.isSome)
   && decide ((e::es).length+([]:List Keyword).length+(if ([]:List Keyword).isEmpty then 0 else 1)<30))=true:=by rfl)
  (Bz:(apos.endLine == aJ.line)=true:=by rfl) (hs:starEach (e::es) X.env=(false,eval e X.env)::starEach es X.env:=by rfl) (nh:(backTo aJ (starEach es X.env)).any (·.1)=false:=by rfl) :
  PE X (.Call (.Attribute o name apos) (e::es) [] aJ) (SX X.K T r to t):=by
 intro pins s σ H Q I h
 refine wpAny_Call_method_late ik HE Bz rfl (bq (ho pins s σ H _ I h) fun v s1 ⟨x,H1,I1,r1,ty,q1⟩=>?_)
 obtain⟨h1,h2⟩:=HD I1 r1 ty
 refine⟨T,id,pa,slot,OX,h1,h2,?_⟩
 have hA:=ha aJ pins s1 σ H1 _ I1 q1
 rw[hs] at hA ⊢
 refine Calls.callWith_builtin (by show (false || (backTo aJ (starEach es X.env)).any (·.1))=false;rw[nh] <;> rfl) (Calls.evalArgs_plain ?_)
 exact bq hA <| by rintro us s2 ⟨vs,H2,I2,r2,q2⟩;exact hm pins s2 σ H2 x vs v us Q I2 r1 r2 q2
end
def NB(X:Cx)(id:String)(r:V→List V→Hp→VK→Prop):Prop :=
 ∀(pins:List (Addr×Obj)) (s:Shared) (σ:St) (H:Hp) (x:V) (xs:List V) (v:Value) (us:List Value) (Q:VK),Inv X pins σ H s→RelV x v→Vals xs us→r x xs H Q →
  wpAny (model X.prog X.w) X.A (call (.builtin id) (v::us)) (EP X pins σ Q) X.xe s
theorem Vals.one:∀{x:V}{us:List Value},Vals [x] us→∃u,us=[u]∧RelV x u:=by
 intro x us h
 cases h with
 |cons r t=>cases t;exact⟨_,rfl,r⟩
theorem Vals.two:∀{x y:V}{us:List Value},Vals [x,y] us→∃u v,us=[u,v]∧RelV x u∧RelV y v:=by
 intro x y us h
 cases h with
 |cons r t =>
  obtain⟨_,rfl,q⟩:=Vals.one t
  exact⟨_,_,rfl,r,q⟩
theorem Vals.eraseIdx:∀{xs:List V}{us:List Value} (i:Nat),Vals xs us→Vals (xs.eraseIdx i) (us.eraseIdx i)
 |_,_,_,.nil=>.nil
 |_,_,0,.cons _ t=>t
 |_,_,i+1,.cons r t=>.cons r (Vals.eraseIdx i t)
theorem qt{α:Type} : ∀(l:List α) (i:Nat),(l.eraseIdx i).length≤l.length
 |[],_=>zk _
 |_::_,0=>Nat.le_succ _
 |_::r,i+1=>Nat.succ_le_succ (qt r i)
section
variable{X:Cx}{pins:List (Addr×Obj)}{σ:St}{H:Hp}{s:Shared}{l b:Addr}{xs ys zs:List V}
theorem Inv.Eh{ak its':List Value}{n:Nat}{f:Array Value→Array Value}{t':Nat}(I:Inv X pins σ H s)(hH:H l=some (.lst xs))
  (e:s.heap.get? l=some { cls:=.type "list",data:=.seq ak.toArray n }) (hf:f ak.toArray=its'.toArray) (hv:Vals ys its') (hz:ys.length≤sizeLine) :
  Inv X pins σ (upd H l (.lst ys)) { s with heap:=s.heap.update l (Obj.mapSeq f),toks:=t' }:=by
 have q:=PySem.IsL.update e f
 rw[hf] at q
 refine I.write (x:=l) (e:=l) (by rw[hH];exact trivial) (.inl rfl) (fun b' u hb hu=>(zZ s.heap (Obj.mapSeq f) (Ne.symm hb)).trans hu) ⟨_,q⟩ ?_
 exact⟨hz,its',_,hv,q⟩
theorem Inv.OY(I:Inv X pins σ H s)(hv:Vals ys ak)(hz:ys.length≤sizeLine) :
  Inv X pins σ (upd H s.heap.objs.size (.lst ys)) { s with heap:=s.heap.push { cls:=.type "list",data:=.seq ak.toArray },toks:=t' } :=
 I.laid (fun _ _ q=>zc _ q) (zk _) ⟨hz,ak,0,hv,zo _ rfl⟩
theorem Inv.fresh(I:Inv X pins σ H s):H s.heap.objs.size=none:=I.aF.fresh (zk _)
theorem Inv.vp(I:Inv X pins σ H s)(hH:H l=some (.lst xs)):xs.length≤sizeLine∧∃(ak:List Value) (n:Nat),Vals xs ak∧xs.length=ak.length∧s.heap.get? l=some { cls:=.type "list",data:=.seq ak.toArray n }:=by
 obtain⟨z,ak,n,r,e⟩:=I.aF l _ hH
 exact⟨z,ak,n,r,r.length,e⟩
theorem s_{n:Nat}(h:n≤sizeLine):Builtin.List.listTooLong n=false:=by
 unfold Builtin.List.listTooLong
 exact zv (by lia)
end
section
variable{X:Cx}
def Ei:V→List V→Hp→VK→Prop:=fun x vs H Q=>∃l xs y,x=.ref l∧vs=[y]∧H l=some (.lst xs)∧xs.length<sizeLine∧Q .ax (upd H l (.lst (xs++[y])))
theorem y8:NB X "list.append" Ei:=by
 intro pins s σ H x vs v us Q I rx rv h
 obtain⟨l,xs,y,rfl,rfl,hH,hz,q⟩:=h
 cases rx
 obtain⟨u,rfl,ru⟩:=rv.one
 obtain⟨z,ak,n,r,hl,e⟩:=I.vp hH
 refine call_meets F.slot_list_append ⟨_,e,rfl⟩ F.entry_list_append (F.args_list_append_2 _ _) (PySem.list_append l ak.toArray n u (by rw[zr];lia)) ⟨e,?_⟩
 refine⟨.ax,_,I.Eh (its':=ak++[u]) hH e (by simp) (r.append (.cons ru .nil)) ?_,rfl,q⟩
 rw[ze,List.length_singleton]
 lia
def Ej:V→List V→Hp→VK→Prop:=fun x vs H Q=>∃l b xs zs,x=.ref l∧vs=[.ref b]∧H l=some (.lst xs)∧H b=some (.lst zs)∧xs.length+zs.length≤sizeLine∧Q .ax (upd H l (.lst (xs++zs)))
theorem y9:NB X "list.extend" Ej:=by
 intro pins s σ H x vs v us Q I rx rv h
 obtain⟨l,b,xs,zs,rfl,rfl,hH,hB,hz,q⟩:=h
 cases rx
 obtain⟨u,rfl,ru⟩:=rv.one
 cases ru
 obtain⟨z,ak,n,r,hl,e⟩:=I.vp hH
 obtain⟨z2,jg,n2,r2,K3,e2⟩:=I.vp hB
 have hsz:ak.toArray.size+jg.toArray.size≤sizeLine:=by rw[zr,zr];lia
 have BA:¬ (!ak.toArray.isEmpty && Builtin.List.listTooLong (ak.toArray.size+jg.toArray.size))=true:=by
  rw[s_ hsz,Bool.and_false]
  exact zg
 refine call_meets F.slot_list_extend ⟨_,e,rfl⟩ F.entry_list_extend (F.args_list_extend_2 _ _)
  (AutoSeq1.list_extend_list_list_0 l ak.toArray n b jg.toArray n2 BA (by rw[zr];lia) (by lia)) ⟨e,e2,?_⟩
 refine⟨.ax,_,I.Eh (its':=ak++jg) hH e (by simp) (r.append r2) ?_,rfl,q⟩
 rw[ze]
 lia
def HF:V→List V→Hp→VK→Prop:=fun x vs H Q=>∃l xs i k y,x=.ref l∧vs=[.int i]∧H l=some (.lst xs)∧-(2 ^ 63)≤i∧i<2 ^ 63∧seqIndex? i xs.length=some k∧xs[k]?=some y∧Q y (upd H l (.lst (xs.eraseIdx k)))
theorem BB:NB X "list.pop" HF:=by
 intro pins s σ H x vs v us Q I rx rv h
 obtain⟨l,xs,i,k,y,rfl,rfl,hH,h1,h2,hk,hy,q⟩:=h
 cases rx
 obtain⟨u,rfl,ru⟩:=rv.one
 obtain⟨t,rfl⟩:=ru
 obtain⟨z,ak,n,r,hl,e⟩:=I.vp hH
 obtain⟨w,hw,qZ⟩:=r.get hy
 refine call_meets F.slot_list_pop ⟨_,e,rfl⟩ F.entry_list_pop (F.args_list_pop_2 _ _)
  (MeetsSeq.list_pop_at l ak.toArray n i t k w (fitsIndex_both h1 h2) (by rw[zr,← hl];exact hk) (by rw[← Array.getElem?_toList];exact hw) (by rw[zr];lia)) ⟨e,?_⟩
 refine⟨y,_,I.Eh (its':=ak.eraseIdx k) hH e ?_ (r.eraseIdx k) ?_,qZ,q⟩
 ·show ak.toArray.eraseIdxIfInBounds k=(ak.eraseIdx k).toArray
  rw[List.eraseIdxIfInBounds_toArray]
 ·have:=qt xs k
  lia
def OZ:R2:=fun x y H Q=>∃l b xs zs,x=.ref l∧y=.ref b∧H l=some (.lst xs)∧H b=some (.lst zs)∧xs.length+zs.length≤sizeLine∧∀p,H p=none→Q (.ref p) (upd H p (.lst (xs++zs)))
theorem HG:fh X (binaryOp .Add) OZ:=by
 intro pins s σ H x y v u Q I rx ry h
 obtain⟨l,b,xs,zs,rfl,rfl,hH,hB,hz,q⟩:=h
 cases rx
 cases ry
 obtain⟨z,ak,n,r,hl,e⟩:=I.vp hH
 obtain⟨z2,jg,n2,r2,K3,e2⟩:=I.vp hB
 refine PySem.P.add_list e e2 ?_ (by rw[zr,zr];lia)
 have ea:ak.toArray++jg.toArray=(ak++jg).toArray:=by simp
 rw[ea]
 exact⟨.ref _,_,I.OY (t':=s.toks) (r.append r2) (by rw[ze];lia),rfl,q _ I.fresh⟩
end
section
variable{prog:Program}{w:World}{A:Around}{E:Value→Shared→Prop}{s:Shared}
end
section
variable{X:Cx}
end
section
variable{κ:Type}[DecidableEq κ]
def jT(kvs:List (κ×V))(k:κ):Option V:=(kvs.find? fun kv=>decide (kv.1=k)).map (·.2)
def putK(kvs:List (κ×V))(k:κ)(v:V):List (κ×V) :=
 if (kvs.any fun kv=>decide (kv.1=k))=true then kvs.map (fun kv=>if kv.1=k then (kv.1,v) else kv) else kvs++[(k,v)]
theorem ni{p:κ×V}{r:List (κ×V)}{k:κ}(e:p.1=k):jT (p::r) k=some p.2:=by simp [jT,yw,e]
theorem nj{p:κ×V}{r:List (κ×V)}{k:κ}(e:¬ p.1=k):jT (p::r) k=jT r k:=by simp [jT,yw,e]
theorem kL.fM(r:kL o u):o.isSome=u.isSome:=by
 cases o with
 |none=>cases u with
  |none=>rfl
  |some _=>exact (show False from r).elim
 |some _=>cases u with
  |none=>exact (show False from r).elim
  |some _=>rfl
theorem kL.getD{o:Option V}{u:Option Value}{d:V}{d':Value}(r:kL o u)(rd:RelV d d'):RelV (o.getD d) (u.getD d'):=by
 cases o with
 |none=>cases u with
  |none=>exact rd
  |some _=>exact (show False from r).elim
 |some _=>cases u with
  |none=>exact (show False from r).elim
  |some _=>exact r
theorem KV.val{kvs:List (κ×V)}{vs:List (κ×Value)}(r:KV kvs vs)(k:κ):kL (jT kvs k) (valueAt vs k):=by
 unfold KV at r
 induction r with
 |nil=>exact True.intro
 |@cons p q ps qs h t ih =>
  obtain⟨h1,h2⟩:=h
  by_cases e:p.1=k
  ·have e':q.1=k:=h1.symm.trans e
   have b:valueAt (q::qs) k=some q.2:=by simp [valueAt,yw,e']
   rw[ni e,b];exact h2
  ·have e':¬ q.1=k:=fun z=>e (h1.trans z)
   have b:valueAt (q::qs) k=valueAt qs k:=by simp [valueAt,yw,e']
   rw[nj e,b];exact ih
theorem KV.any{kvs:List (κ×V)}{vs:List (κ×Value)}(r:KV kvs vs)(k:κ):(kvs.any fun kv=>decide (kv.1=k))=vs.any fun kv=>decide (kv.1=k):=by
 unfold KV at r
 induction r with
 |nil=>rfl
 |cons h t ih=>rw[yG,yG,ih,h.1]
theorem KV.HH(r:KV kvs vs)(k:κ)(ry:RelV y u) :
  KV (kvs.map fun kv=>if kv.1=k then (kv.1,y) else kv) (vs.map fun kv=>if kv.1=k then (kv.1,u) else kv):=by
 unfold KV at r ⊢
 induction r with
 |nil=>exact .nil
 |@cons p q ps qs h t ih =>
  rw[zD,zD]
  refine .cons ?_ ih
  obtain⟨h1,h2⟩:=h
  by_cases e:p.1=k
  ·rw[if_pos e,if_pos (h1.symm.trans e)];exact⟨h1,ry⟩
  ·rw[if_neg e,if_neg (fun z=>e (h1.trans z))];exact⟨h1,h2⟩
theorem KV.put(r:KV kvs vs)(k:κ)(ry:RelV y u):KV (putK kvs k y) (stored vs k u):=by
 unfold putK stored
 rw[r.any k]
 by_cases e:(vs.any fun kv=>decide (kv.1=k))=true
 ·rw[if_pos e,if_pos e];exact r.HH k ry
 ·rw[if_neg e,if_neg e];exact Paired.snoc r ⟨rfl,ry⟩
theorem KV.length{kvs:List (κ×V)}{vs:List (κ×Value)}(r:KV kvs vs):kvs.length=vs.length:=Paired.length r
end
theorem qu(r:RelV (kV k) u):(aB P w).is k u=true:=by
 cases k with
 |inl i=>obtain⟨t,e⟩:=(show ∃t,u=Value.int i t from r);subst e;exact sR P w i t
 |inr x=>obtain⟨t,e⟩:=(show ∃t,u=Value.str x t from r);subst e;exact ia P w x t
theorem qv:∀{ks:List Key}{us:List Value},Vals (ks.map kV) us→ItemsAre (aB P w) ks us
 |[],_,r=>by rw[List.map_nil] at r;cases r;exact .nil
 |k::ks,_,r=>by
  rw[zD] at r
  cases r with
  |cons h t=>exact .cons (qu h) (qv t)
abbrev KT(H:Hp):List (List Key×V)→List (List Key×Addr×Value)→Prop:=Paired fun p q=>p.1=q.1∧H q.2.1=some (.tup (p.1.map kV))∧RelV p.2 q.2.2
theorem KT.val{H:Hp}{kvs:List (List Key×V)}{xs:List (List Key×Addr×Value)}(r:KT H kvs xs)(k:List Key):kL (jT kvs k) ((atKey xs k).map (·.2)):=by
 induction r with
 |nil=>exact True.intro
 |@cons p q ps qs h t ih =>
  obtain⟨h1,_,h2⟩:=h
  by_cases e:p.1=k
  ·have e':q.1=k:=h1.symm.trans e
   have b:atKey (q::qs) k=some q.2:=by simp [atKey,yw,e']
   rw[ni e,b];exact h2
  ·have e':¬ q.1=k:=fun z=>e (h1.trans z)
   have b:atKey (q::qs) k=atKey qs k:=by simp [atKey,yw,e']
   rw[nj e,b];exact ih
section
variable{P:Program}{w:World}{H:Hp}{h:Heap}{a:Addr}
theorem Gg(ok:jk P w H h)(e:Rd H a u):aV P w H h a u:=e.ok ok
theorem nk(ok:jk P w H h)(e:Rd H a (.dK kvs)):kvs.length≤sizeLine∧(a == sysModules)=false∧∃vs,KV kvs vs∧h.DictOf (aB P w) a vs :=
 show aV P w H h a (.dK kvs) from Gg ok e
theorem q_(ok:jk P w H h)(e:H a=some (.tup (ks.map kV))):(tupleKind (aB P w)).is h ks a:=by
 obtain⟨_,ak,r,o,h1,h2,_,n,h3⟩:=(show aV P w H h a (.tup (ks.map kV)) from ok a _ e)
 exact⟨o,ak.toArray,n,h1,h2,h3,by simpa using qv r⟩
theorem qw(ok:jk P w H h)(e:Rd H a (.dT kvs)):kvs.length≤sizeLine∧(a == sysModules)=false ∧
  ∃xs,KT H kvs xs∧h.DictOfH (tupleKind (aB P w)) a xs:=by
 exact False.elim (show aV P w H h a (.dT kvs) from Gg ok e)
end
def nq(H:Hp)(a:Addr)(y:V)(r:Option V):Prop :=
 (∃kvs k,Rd H a (.dK kvs)∧y=kV k∧r=jT kvs k)∨∃kvs k b,Rd H a (.dT kvs)∧y=.ref b∧H b=some (.tup (k.map kV))∧r=jT kvs k
theorem nq.k{H:Hp}{a:Addr}{kvs:List (Key×V)}{k:Key}(e:H a=some (.dK kvs)):nq H a (kV k) (jT kvs k):=.inl ⟨kvs,k,.inl e,rfl,rfl⟩
section
variable{X:Cx}{pins:List (Addr×Obj)}{σ:St}{H:Hp}{s:Shared}{a:Addr}{y v:V}{u r:Value}{o:Option V}{A:Around}{E:Value→Shared→Prop}
theorem Inv.big(I:Inv X pins σ H s):sysModules<s.heap.objs.size:=by
 have h:mainGlobals<s.heap.objs.size:=(I.mod.glob.keeps I.bk).lt
 exact Nat.lt_trans (by decide) h
theorem y_(hu:A.units+1<cLine)(I:Inv X pins σ H s)(g:nq H a y (some v))(ry:RelV y u)(h:∀w' s',Inv X pins σ H s'→RelV v w'→Q w' s') :
  wpAny (model X.prog X.w) A (getItem (.ref a) u) Q E s:=by
 rcases g with ⟨kvs,k,e,ey,l⟩|⟨kvs,k,b,e,ey,eb,l⟩
 ·subst ey
  obtain⟨z,hd,vs,rel,dd⟩:=nk I.aF e
  obtain⟨w',hw,qZ⟩:=kL.some_of (v:=v) (o:=valueAt vs k) (by rw[l];exact rel.val k)
  exact wpAny_getItem_of (qu ry) dd.mapOf hw (h w' _ (I.tok _) qZ)
 ·subst ey
  cases (show u=Value.ref b from ry)
  obtain⟨z,hd,xs,rel,dd⟩:=qw I.aF e
  obtain⟨w',hw,qZ⟩:=kL.some_of (v:=v) (o:=(atKey xs k).map (·.2)) (by rw[l];exact rel.val k)
  obtain⟨p,hp,gU⟩:=Option.map_eq_some_iff.mp hw
  refine wpAny_getItem_heap (tupleKind_room_in1 hu) (q_ I.aF eb) dd hp ?_
  rw[gU]
  exact h w' _ (I.tok _) qZ
theorem O5(hu:A.units+1<cLine)(I:Inv X pins σ H s)(g:nq H a y o)(ry:RelV y u)(h:∀s',Inv X pins σ H s'→Q (.bool o.isSome) s') :
  wpAny (model X.prog X.w) A (compareOp .In u (.ref a)) Q E s:=by
 rcases g with ⟨kvs,k,e,ey,l⟩|⟨kvs,k,b,e,ey,eb,l⟩
 ·subst ey
  obtain⟨z,hd,vs,rel,dd⟩:=nk I.aF e
  refine wpAny_in_of (qu ry) hd dd.mapOf ?_
  rw[← (rel.val k).fM,← l]
  exact h _ (I.tok _)
 ·subst ey
  cases (show u=Value.ref b from ry)
  obtain⟨z,hd,xs,rel,dd⟩:=qw I.aF e
  refine wpAny_in_heap (tupleKind_room_in1 hu) (q_ I.aF eb) hd dd ?_
  have q:=(rel.val k).fM
  rw[Option.isSome_map] at q
  rw[← q,← l]
  exact h _ (I.tok _)
theorem Ek(hu:A.units+1<cLine)(I:Inv X pins σ H s)(g:nq H a y o)(ry:RelV y u)(h:∀s',Inv X pins σ H s'→Q (.bool (!o.isSome)) s') :
  wpAny (model X.prog X.w) A (compareOp .NotIn u (.ref a)) Q E s:=by
 rcases g with ⟨kvs,k,e,ey,l⟩|⟨kvs,k,b,e,ey,eb,l⟩
 ·subst ey
  obtain⟨z,hd,vs,rel,dd⟩:=nk I.aF e
  refine wpAny_notIn_of (qu ry) hd dd.mapOf ?_
  rw[← (rel.val k).fM,← l]
  exact h _ (I.tok _)
 ·subst ey
  cases (show u=Value.ref b from ry)
  obtain⟨z,hd,xs,rel,dd⟩:=qw I.aF e
  refine wpAny_notIn_heap (tupleKind_room_in1 hu) (q_ I.aF eb) hd dd ?_
  have q:=(rel.val k).fM
  rw[Option.isSome_map] at q
  rw[← q,← l]
  exact h _ (I.tok _)
end
section
variable{X:Cx}{pins:List (Addr×Obj)}{σ:St}{H:Hp}{s:Shared}{a:Addr}{kvs:List (Key×V)}{k:Key}{u:Value}{A:Around}{E:Value→Shared→Prop}
theorem K4(I:Inv X pins σ H s)(e:Rd H a (.dK kvs))(h:∀t s',Inv X pins σ H s'→Q (.int kvs.length t) s'):wpAny (model X.prog X.w) A (call (.builtin "len") [.ref a]) Q E s:=by
 obtain⟨z,hd,vs,rel,dd⟩:=nk I.aF e
 refine call_len_dict hd dd (by rw[← rel.length];rw[sizeLine_eq] at z;lia) ?_
 rw[← rel.length]
 exact h _ _ (I.tok _)
end
theorem tf(I:Inv X pins σ H s)(g:nq H a y o):s.TypeIs (.ref a) "dict" := by
 rcases g with ⟨kvs,k,e,_,_⟩|⟨kvs,k,b,e,_,_,_⟩
 ·obtain⟨_,_,vs,_,dd⟩:=nk I.aF e
  exact dd.typeIs
 ·obtain⟨_,_,xs,_,dd⟩:=qw I.aF e
  exact dd.typeIs
section
variable{X:Cx}{o i e value:Expr}{pos pos' OJ:Pos}{td ty tv:TE}
end
section
variable{X:Cx}{pos:Pos}
end
structure M1(X:Cx)(o:Expr)(m:Str)(apos:Pos)(e:Expr)(aJ:Pos):Prop where
 base:attributeBase o m X.env (eval o X.env)=eval o X.env
 Gi:((backTo aJ (starEach [e] X.env)).all (fun x=>!x.1) && (backToKw aJ (keywordEach [] X.env)).all (fun x=>x.1.isSome)
  && decide (([e]:List Expr).length+([]:List Keyword).length+(if ([]:List Keyword).isEmpty then 0 else 1)<30))=true
 line:(apos.endLine == aJ.line)=true
 trees:backTo aJ (starEach [e] X.env)=[(false,eval e X.env)]
structure M2(X:Cx)(o:Expr)(m:Str)(apos:Pos)(e f:Expr)(aJ:Pos):Prop where
 base:attributeBase o m X.env (eval o X.env)=eval o X.env
 Gi:((backTo aJ (starEach [e,f] X.env)).all (fun x=>!x.1) && (backToKw aJ (keywordEach [] X.env)).all (fun x=>x.1.isSome)
  && decide (([e,f]:List Expr).length+([]:List Keyword).length+(if ([]:List Keyword).isEmpty then 0 else 1)<30))=true
 line:(apos.endLine == aJ.line)=true
 trees:backTo aJ (starEach [e,f] X.env)=[(false,eval e X.env),(false,eval f X.env)]
def O6(H:Hp)(a:Addr):Prop:=(∃kvs,Rd H a (.dK kvs))∨∃kvs,Rd H a (.dT kvs)
theorem HI(I:Inv X pins σ H s)(d:O6 H a) :
  s.TypeIs (.ref a) "dict" ∧ (∀b,Value.ref a=.ref b→∃ob,s.heap.get? b=some ob∧ob.dict=none)∧(a == sysModules)=false:=by
 rcases d with ⟨kvs,e⟩|⟨kvs,e⟩
 ·obtain⟨_,hd,vs,_,dd⟩:=nk I.aF e
  refine⟨dd.typeIs,fun b q=>?_,hd⟩
  cases q
  obtain⟨ob,_,_,h1,h2,_⟩:=dd
  exact⟨ob,h1,h2.2.1⟩
 ·obtain⟨_,hd,xs,_,dd⟩:=qw I.aF e
  refine⟨dd.typeIs,fun b q=>?_,hd⟩
  cases q
  obtain⟨ob,_,_,h1,h2,_⟩:=dd
  exact⟨ob,h1,h2.2.1⟩
section
variable{X:Cx}{pins:List (Addr×Obj)}{σ:St}{H:Hp}{s:Shared}{a:Addr}{y d:V}{u r:Value}{o:Option V}{A:Around}{E:Value→Shared→Prop}
theorem HJ(hu:A.units+1<cLine)(I:Inv X pins σ H s)(g:nq H a y o)(ry:RelV y u)(h:∀w' s',Inv X pins σ H s'→RelV (o.getD .ax) w'→Q w' s') :
  wpAny (model X.prog X.w) A (call (.builtin "dict.get") [.ref a,u]) Q E s:=by
 rcases g with ⟨kvs,k,e,ey,l⟩|⟨kvs,k,b,e,ey,eb,l⟩
 ·subst ey
  obtain⟨z,hd,vs,rel,dd⟩:=nk I.aF e
  refine call_meetsIn PySem.F.slot_dict_get dd.typeIs PySem.F.entry_dict_get (PySem.F.args_dict_get_2 _ _) (meets_dict_get (aB X.prog X.w) a (qu ry) hd) ⟨_,dd.mapOf,h _ _ (I.tok _) ?_⟩
  rw[l]
  exact (rel.val k).getD rfl
 ·subst ey
  cases (show u=Value.ref b from ry)
  obtain⟨z,hd,xs,rel,dd⟩:=qw I.aF e
  refine call_meetsIn PySem.F.slot_dict_get dd.typeIs PySem.F.entry_dict_get (PySem.F.args_dict_get_2 _ _) (meetsH_dict_get (tupleKind (aB X.prog X.w)) a b hd) ⟨tupleKind_room_in1 hu,k,xs,q_ I.aF eb,dd,h _ _ (I.tok _) ?_⟩
  rw[l]
  exact (rel.val k).getD rfl
end
def HK(td ty:TE):TE:=fun σ H Q=>td σ H fun x H1=>∃a,x=.ref a∧O6 H1 a∧ty σ H1 fun y H2=>∃o,nq H2 a y o∧Q (o.getD .ax) H2
section
variable{X:Cx}{o e f:Expr}{apos aJ:Pos}{td ty tx:TE}
theorem BC(hu:X.A.units+1<cLine)(ho:PE X o td)(he:PE X e ty)(m:M1 X o "get" apos e aJ):PE X (.Call (.Attribute o "get" apos) [e] [] aJ) (HK td ty):=by
 intro pins s σ H Q I h
 refine wpAny_Call_method m.base m.Gi m.line PySem.F.plainAttrs_dict PySem.F.slot_dict_get PySem.F.type_dict_get (bq (ho pins s σ H _ I h) fun u s1 ⟨x,H1,I1,rx,a,ex,d,q1⟩=>?_)
 subst ex
 obtain rfl:u=Value.ref a:=rx
 obtain⟨t1,t2,_⟩:=HI I1 d
 refine⟨t1,t2,?_⟩
 rw[m.trees]
 refine Calls.callWith_builtin rfl (Calls.evalArgs_plain (z0 (bq (he pins s1 σ H1 _ I1 q1) fun iv s2 ⟨y,H2,I2,ry,ov,g,q2⟩=>Calls.spliced_nil ?_)))
 exact HJ hu I2 g ry fun w' s3 I3 qZ=>⟨_,H2,I3,qZ,q2⟩
end
section
variable{X:Cx}{pins:List (Addr×Obj)}{σ:St}{H:Hp}{s:Shared}{a:Addr}{kvs:List (Key×V)}{A:Around}{E:Value→Shared→Prop}
end
section
variable{X:Cx}{pins:List (Addr×Obj)}{σ:St}{H:Hp}{s:Shared}{a:Addr}{y:V}{u:Value}{A:Around}{E:Value→Shared→Prop}
end
end L2
namespace Att
open PySem PySem.W PySem.Calls PyProof.Rows
theorem mq{P:Params} : ∀(ns:List Int) (vs:List Value),WellAll P h vs (ns.map WData.int)→IntsAre vs ns:=by
 intro ns
 induction ns with
 |nil =>
  intro vs w
  rw[List.map_nil] at w
  cases w
  exact .nil
 |cons n ns ih =>
  intro vs w
  rw[zD] at w
  cases w with
  |cons a b =>
   cases a
   exact .cons _ _ (ih _ b)
theorem z_{l:OpenLaw}{n:Nat}(hn:l.most=some n){P:Params}{h:Heap}{args:List WData}{vals:List Value}
  (El:l.row.toRowW.claim.pre args=true) (BD:WellAll P h vals args) :
  ∃a vs ns,vals=[Value.ref a]∧args=[WData.list (ns.map WData.int)]∧h.get? a=some { cls:=.type "list",data:=.seq vs.toArray }∧IntsAre vs ns∧ns.length≤n:=by
 have SY:WShape.hasAll [] args [.list .int]=true:=(pre_splitW El).1
 have hc:l.pre.holds [] { args:=args }=true:=(pre_splitW El).2
 obtain⟨d,r,rfl,h1,h2⟩:=hasAllW_cons SY
 obtain rfl:=hasAllW_nil h2
 obtain⟨xs,rfl,h3⟩:=hasW_list h1
 obtain⟨ns,rfl⟩:=items_int h3
 have hlen:ns.length≤n:=by
  unfold OpenLaw.pre at hc
  have h4:(WTm.not (.lt (.lit (.int (n:Int))) (.len (.arg 0)))).holds [] { args:=[.list (ns.map .int)] }=true:=by
   have h4:=(holds_andW hc).1
   rw[hn] at h4
   exact h4
  have h5:=condW_of h4 (w_not (w_lt w_lit (w_len_list (w_arg rfl))))
  rw[zb] at h5
  refine Nat.le_of_not_lt fun q=>?_
  have q':(n:Int)<((ns.length:Nat):Int):=by lia
  first
   | (rw[zy q'] at h5;exact absurd h5 (by decide))
   | (simp at h5;lia)
 cases BD with
 |cons w1 w2 =>
  cases w2
  cases w1 with
  |list ho Em=>exact⟨_,_,ns,rfl,rfl,ho,mq ns _ Em,hlen⟩
theorem Aa(l:OpenLaw)(args:List WData):l.row.toRowW.claim.post args (.bool true) args=true :=
 postW_of (r:=l.row.toRowW) (X:=(true == true))
  (show WShape.has [] (.bool true) .bool=true by first|rfl|decide|simp [WShape.has,WShape.arms,WShape.armsAll])
  (show (WTm.eq .res (.lit (.bool true))).value [] { args:=args,res:=some (.bool true),after:=args }=some (.bool (true == true)) from w_eq_bool (w_res rfl) w_lit) rfl
theorem tj{l:OpenLaw}{n:Nat}{q:Program}{loose:List Str}{XP:(Str→Option Value)→Heap→Prop}{YP:World→Heap→Prop}{d:DefRec}
  (hn:l.most=some n) (O7:d.params.defaults=[])
  (call:∀(w:World) (cK aG:Shared) (mg mb:Str→Option Value) (fa:Addr) (o:Obj) (pm cd doc:Value) (a:Addr) (vs:List Value) (ns:List Int),
   Ground q loose [] XP w cK mg mb aG.heap→YP w aG.heap →
   aG.heap.get? fa=some o→o.data=.func (docDef d.name d.params d.body d.scope pm cd doc)→aG.heap.CodeRec cd d.name→mg d.name=some (.ref fa) →
   aG.heap.get? a=some { cls:=.type "list",data:=.seq vs.toArray }→IntsAre vs ns→ns.length≤n→aG.gens=#[] →
   codeAny (model l.prog w) callerA (.call (.ref fa) ⟨[.ref a],[]⟩) (fun r s'=>r=.ok (.ret (.bool true))∧OldK aG.heap s'.heap∧s'.os=aG.os∧AllBare s'.gens) aG) :
  WalkO q loose XP YP l.row.toRowW d [] (fun f vs=>PySem.call f vs):=by
 intro w cK aG mg mb G Y fa o pm cd doc dV kV ho hd Bc hD HL hg args vals as El S_ Wn BD Wo
 obtain rfl:dV=.none:=Dflts.none hD O7
 obtain rfl:kV=.none:=Dflts.noKw hD
 obtain⟨a,vs,ns,rfl,rfl,HM,hints,hlen⟩:=z_ hn El BD
 refine enter_call (codeAny_mono (call w cK aG mg mb fa o pm cd doc a vs ns G Y ho (fd_plain hd) Bc HL HM hints hlen hg) fun r s' hq=>?_)
 obtain⟨rfl,h2,h3,h4⟩:=hq
 exact⟨.inl ⟨.bool true,.bool true,[],rfl,fun _=>rfl,.bool true,Aa l _,fun _=>⟨List.Pairwise.nil,fun _ hm=>(nomatch hm)⟩⟩,h2,h3,h4⟩
section
variable{prog:Program}{w:World}{A:Around}{E:Value→Shared→Prop}{s:Shared}{K:Frag}
end
end Att
namespace L2
open PySem PySem.Spec PyProof.Rows
theorem qx:∀{vs:List Value}{ns:List Int},IntsAre vs ns→Vals (ns.map V.int) vs
 |_,_,.nil=>.nil
 |_,_,.cons n t h=>.cons ⟨t,rfl⟩ (qx h)
def i5(s:Stmt):Arguments:=match s with
 |.FunctionDef _ a _ _ _ _ _ _ _ _=>a
 |_=>{ posonlyargs:=[],args:=[],vararg:=none,kwonlyargs:=[],kw_defaults:=[],kwarg:=none,defaults:=[] }
def cQ(s:Stmt):List Stmt:=match s with
 |.FunctionDef _ _ b _ _ _ _ _ _ _=>b
 |_=>[]
def af(s:Stmt):Scope:=match s with
 |.FunctionDef _ _ _ _ _ _ sc _ _ _=>sc
 |_=>{ kind:=.function,names:=[],isGenerator:=false,isCoroutine:=false }
abbrev NC:vk:=fun _ _ _ _ _ _=>False
abbrev E0:XK:=fun _ _ _=>False
structure Wq(K:Frag)(x qual:Str)(st:Stmt)(f:Addr)(fd:FuncData):Prop where
 ex:∃(oc:Value) (od:Option Addr) (kV doc pm:Value) (an:Option Addr) (bp ct:Value) (Hy:Array (Option Value)),
  fd=fnOf x qual (i5 st) (cQ st) (af st) .none kV doc pm an bp ct∧K.lookup f=some ⟨oc,od,.func fd,Hy⟩∧codeIn K bp qual=true
 kp:keepIn K (.ref f)=true
section
variable{P:Program}{w:World}{K:Frag}{mg:Str→Option Value}{base:Heap}
end
theorem Ab(h:n≤1000):n<sizeLine:=Nat.lt_of_le_of_lt h (by decide)
section
variable{X:Cx}
theorem Ac:dA X (.builtin "len") (fun xs H Q=>∃a kvs,xs=[V.ref a]∧H a=some (.dK kvs)∧Q (.int kvs.length) H):=by
 intro pins s σ H xs us Q I r h
 obtain⟨a,kvs,rfl,ha,q⟩:=h
 obtain⟨u,rfl,ru⟩:=vals1 r
 cases ru
 exact K4 I (.inl ha) fun t s' I'=>⟨.int kvs.length,H,I',⟨t,rfl⟩,q⟩
end
theorem ck{A B:Prop}(h:B):if false=true then A else B:=by
 rw[if_neg zg]
 exact h
theorem cL{A B:Prop}(h:A):if true=true then A else B:=by
 rw[if_pos rfl]
 exact h
section
variable{κ:Type}[DecidableEq κ]
theorem xb:∀{l:List κ}{k:κ},l.Nodup→¬ k∈l→(l++[k]).Nodup
 |[],k,_,_=>by simp
 |a::r,k,h,hk=>by
  obtain⟨h1,h2⟩:=yB.mp h
  show (a::(r++[k])).Nodup
  refine yB.mpr ⟨fun m=>?_,xb h2 fun m=>hk (zd.mpr (Or.inr m))⟩
  rcases zW.mp m with q|q
  ·exact h1 q
  ·exact hk (zd.mpr (Or.inl (zT.mp q).symm))
end
end L2
set_option maxHeartbeats 4000000
namespace L2
open PySem PySem.Spec PyProof.Rows
section
variable{X:Cx}
def oY(i j:Str):Bool:=!decide (j.cps.toList<i.cps.toList)
def O8(i j:Str):Bool:=decide (i.cps.toList<j.cps.toList)
def O9(g:Str→Str→Bool):R2:=fun x y H Q=>∃i j,x=.str i∧y=.str j∧Q (.bl (g i j)) H
theorem Ad:fh X (compareOp .LtE) (O9 oY):=by
 intro pins s σ H x y v u Q I rx ry h
 obtain⟨i,j,rfl,rfl,q⟩:=h
 obtain⟨t,rfl⟩:=rx
 obtain⟨t',rfl⟩:=ry
 exact P.le_str (av I q rfl)
theorem Ae:fh X (compareOp .GtE) (O9 fun i j=>oY j i):=by
 intro pins s σ H x y v u Q I rx ry h
 obtain⟨i,j,rfl,rfl,q⟩:=h
 obtain⟨t,rfl⟩:=rx
 obtain⟨t',rfl⟩:=ry
 exact P.ge_str (av I q rfl)
theorem Af:fh X (compareOp .Gt) (O9 fun i j=>O8 j i):=by
 intro pins s σ H x y v u Q I rx ry h
 obtain⟨i,j,rfl,rfl,q⟩:=h
 obtain⟨t,rfl⟩:=rx
 obtain⟨t',rfl⟩:=ry
 exact P.gt_str (av I q rfl)
def Gj(_ j:Int):Prop:=0<j∧j.natAbs.log2<9000
theorem BE:fh X (binaryOp .FloorDiv) (rI Gj fun i j=>.int (i / j)):=Nx fun i j _ _ _ _ _ hc q=>by
 have hj:j≠0:=by have:=hc.1;omega
 exact floordiv_int hj (by rw[Int.fdiv_eq_ediv_of_nonneg _ (by have:=hc.1;omega)];exact q) (.inl (PyProof.noPylong_of_log2 hc.2))
end
def O_(x:Str):It:=⟨fun i _=>i<x.cps.size,fun i H v H'=>H'=H∧∃c,x.cps[i]?=some c∧v=.str ⟨#[c]⟩,fun i _=>x.cps.size≤i⟩
theorem tm{P:Program}{w:World}{K:Frag}{tg:Expr}{T:String}(hT:["enumerate","zip","dict_itemiterator","dict_reverseitemiterator","odict_iterator","itertools.zip_longest","itertools.pairwise"].contains T=false)(it:Addr)(x:Str)(t:Tok)
  (W:∀A':Around,A'.handled=none→Walks P w A' it [it] [it] x.cps.size (SignAt x) (fun i h=>h.IsStrIter it T x t i))
  (Pa:∀(A:Around) (s:Shared) (E:Value→Shared→Prop) (i:Nat) (Q:Option Value→Shared→Prop),A.handled=none→s.heap.IsStrIter it T x t i→x.cps[i]?=none→(∀h',Heap.ExtBut it s.heap h'→Q none { s with heap:=h' })→wpAny (model P w) A (pyNext (.ref it)) Q E s)
  (K5:∀(A:Around) (s:Shared) (E:Value→Shared→Prop) (i:Nat) (Q:Value→Shared→Prop),s.heap.IsStrIter it T x t i→Q (.ref it) s→wpAny (model P w) A (pyIter (.ref it)) Q E s) :
  Turn P w K tg (O_ x) [it] it (fun i h=>h.IsStrIter it T x t i) where
 mem:=by simp
 obj:=fun i h st b hb=>by
  have e:b=it:=by simpa using hb
  subst e
  obtain⟨o,e,c,d⟩:=st
  exact⟨o,e,fun v z=>by rw[d] at z;cases z⟩
 keep:=fun i h h' st k=>by
  obtain⟨o,e,c,d⟩:=st
  exact⟨o,k it (by simp) o e,c,d⟩
 item:=by
  intro X hP hw hK hc i pins s σ H E I hf st hg
  subst hP hw hK
  obtain⟨f0,f1,f2,f3,f4,f5⟩:=hf it (by simp)
  refine (W X.A (I.ok.hd hc)).item i s _ _ hg st fun v h' tk hv wQ kk=>?_
  obtain⟨c,u,xc,rfl⟩:=hv
  have I1:Inv X pins σ H { s with heap:=h',toks:=tk }:=I.turned (fun b o hb e=>kk b o (by simpa using hb) e) f0 f1 f3 f4 f5
  obtain⟨o,e,c',d⟩:=id wQ
  exact⟨_,rfl,sW (s:={ s with heap:=h',toks:=tk }) e c' d hT ⟨.str ⟨#[c]⟩,H,I1,⟨u,rfl⟩,⟨rfl,c,xc,rfl⟩,wQ,fun b hb=>(hf b hb).1⟩⟩
 done:=by
  intro X hP hw hK hc i pins s σ H E I hf st hg
  subst hP hw hK
  obtain⟨f0,f1,f2,f3,f4,f5⟩:=hf it (by simp)
  have hg:x.cps.size≤i:=hg
  exact Pa X.A s E i _ (I.ok.hd hc) st (by simp;exact hg) fun h' eb=>⟨rfl,I.turned (t':=s.toks) (fun b o hb e=>eb b o hb e) f0 f1 f3 f4 f5⟩
 self:=fun A' i s Q E st h=>K5 A' s E i Q st h
section
variable{X:Cx}{tg:Expr}
def Pb(tl:TE):TI:=fun σ H R=>tl σ H fun x H1=>∃z,x=.str z∧R (O_ z) H1
theorem HN(hl:PE X l tl):PI X tg l (Pb tl):=by
 intro pins s σ H R I h
 refine bq (hl pins s σ H _ I h) fun v s1 ⟨x,H1,I1,r1,q1⟩=>?_
 obtain⟨z,e,q⟩:=q1
 subst e
 obtain⟨t,rfl⟩:=r1
 have fin:∀(T:String) (_:Turn X.prog X.w X.K tg (O_ z) [s1.heap.objs.size] s1.heap.objs.size (fun i h=>h.IsStrIter s1.heap.objs.size T z t i)),
   Nv X pins σ tg R (.ref s1.heap.objs.size) { s1 with heap:=s1.heap.push { cls:=.type T,data:=.fields #[.str z t,.int 0 0] } }:=fun T tn=>by
  refine⟨s1.heap.objs.size,[s1.heap.objs.size],_,_,H1,rfl,I1.kept (t':=s1.toks) fun b o e=>zc _ e,tn,⟨_,zo _ rfl,rfl,rfl⟩,fun b hb=>?_,q⟩
  have e:b=s1.heap.objs.size:=by simpa using hb
  subst e
  exact I1.m7 (zk _) (I1.aF.fresh (zk _))
 cases ha:z.cps.all (·<128)
 ·exact wpAny_pyIter_wide ha (fin _ (tm (by decide) _ z t (fun A' hA=>Walks.strWide hA _ z t) (fun A s E i Q hh st hx hQ=>wpAny_pyNext_wide_end hh st hx hQ) (fun A s E i Q st hq=>wpAny_pyIter_striter_wide st hq)))
 ·exact wpAny_pyIter_ascii ha (fin _ (tm (by decide) _ z t (fun A' hA=>Walks.strAscii hA _ z t) (fun A s E i Q hh st hx hQ=>wpAny_pyNext_ascii_end hh st hx hQ) (fun A s E i Q st hq=>wpAny_pyIter_striter_ascii st hq)))
end
def clOf(cells:List (Str×Addr))(names:List (Str×NameKind)):List (Str×Addr) :=
 names.foldl (fun cs p=>if p.2 == .free then match cells.lookup p.1 with|some a=>(p.1,a)::cs|none=>cs else cs) []
theorem tq(cells:List (Str×Addr)):∀(names:List (Str×NameKind)) (cs:List (Str×Addr)),(∀x c,cs.lookup x=some c→cells.lookup x=some c) →
  ∀x c,(names.foldl (fun cs p=>if p.2 == .free then match cells.lookup p.1 with|some a=>(p.1,a)::cs|none=>cs else cs) cs).lookup x=some c→cells.lookup x=some c
 |[],cs,h=>h
 | (n,k)::r,cs,h=>by
  rw[yC]
  refine tq cells r _ fun x c e=>?_
  dsimp only at e
  split at e
  ·split at e
   ·rename_i a ha
    rw[ym] at e
    split at e
    ·rename_i hx
     have:=LawfulBEq.eq_of_beq hx
     cases e
     rw[this]
     exact ha
    ·exact h x c e
   ·exact h x c e
  ·exact h x c e
theorem qy(cells:List (Str×Addr)):∀(names:List (Str×NameKind)) (cs:List (Str×Addr)) (x:Str) (c:Addr),(∀y c,cs.lookup y=some c→cells.lookup y=some c)→cs.lookup x=some c →
  (names.foldl (fun cs p=>if p.2 == .free then match cells.lookup p.1 with|some a=>(p.1,a)::cs|none=>cs else cs) cs).lookup x=some c
 |[],cs,x,c,_,h=>h
 | (n,k)::r,cs,x,c,hs,h=>by
  rw[yC]
  have Gk:∀y c,(if (k == NameKind.free)=true then match cells.lookup n with|some a=>(n,a)::cs|none=>cs else cs).lookup y=some c→cells.lookup y=some c:=by
   intro y c e
   split at e
   ·split at e
    ·rename_i a ha
     rw[ym] at e
     split at e
     ·rename_i hx
      have:=LawfulBEq.eq_of_beq hx
      cases e
      rw[this]
      exact ha
     ·exact hs y c e
    ·exact hs y c e
   ·exact hs y c e
  refine qy cells r _ x c Gk ?_
  dsimp only
  split
  ·split
   ·rename_i a ha
    rw[ym]
    split
    ·rename_i hx
     have:=LawfulBEq.eq_of_beq hx
     rw[this] at h
     have:=hs _ _ h
     rw[ha] at this
     exact this
    ·exact h
   ·exact h
  ·exact h
theorem nr(cells:List (Str×Addr)):∀(names:List (Str×NameKind)) (cs:List (Str×Addr)) (x:Str) (c:Addr),(∀y c,cs.lookup y=some c→cells.lookup y=some c)→(x,NameKind.free)∈names→cells.lookup x=some c →
  (names.foldl (fun cs p=>if p.2 == .free then match cells.lookup p.1 with|some a=>(p.1,a)::cs|none=>cs else cs) cs).lookup x=some c
 |[],cs,x,c,_,h,_=>nomatch h
 | (n,k)::r,cs,x,c,hs,h,hc=>by
  rw[yC]
  have Gk:∀y c,(if (k == NameKind.free)=true then match cells.lookup n with|some a=>(n,a)::cs|none=>cs else cs).lookup y=some c→cells.lookup y=some c:=by
   intro y c e
   split at e
   ·split at e
    ·rename_i a ha
     rw[ym] at e
     split at e
     ·rename_i hx
      have:=LawfulBEq.eq_of_beq hx
      cases e
      rw[this]
      exact ha
     ·exact hs y c e
    ·exact hs y c e
   ·exact hs y c e
  rcases zd.mp h with e|h
  ·cases e
   refine qy cells r _ _ c Gk ?_
   dsimp only
   rw[if_pos (show (NameKind.free == NameKind.free)=true by decide),hc]
   simp [ym]
  ·exact nr cells r _ x c Gk h hc
theorem jq{scope:Scope}{env:Env}(h:∀x∈scope.names,x.2=.free→∃c,env.cells.lookup x.1=some c):closureFor scope env=pure (clOf env.cells scope.names):=by
 have go:∀(names:List (Str×NameKind)) (cs:List (Str×Addr)),(∀x∈names,x.2=.free→∃c,env.cells.lookup x.1=some c) →
   (forIn names cs fun x r=>match x with|(name,kind)=>if (kind == NameKind.free)=true then do let a ← cellOf env name;pure (ForInStep.yield ((name,a)::r)) else pure (ForInStep.yield r):Sem (List (Str×Addr))) =
    pure (names.foldl (fun cs p=>if p.2 == .free then match env.cells.lookup p.1 with|some a=>(p.1,a)::cs|none=>cs else cs) cs):=by
  intro names
  induction names with
  |nil=>intro cs _;rfl
  |cons p r ih =>
   intro cs hp
   obtain⟨n,k⟩:=p
   rw[List.forIn_cons,yC]
   by_cases hk:k=.free
   ·subst hk
    obtain⟨c,hc⟩:=hp _ zx rfl
    have hc:env.cells.lookup n=some c:=hc
    have e1:cellOf env n=pure c:=by unfold cellOf;rw[hc]
    have ef:(NameKind.free == NameKind.free)=true:=by decide
    dsimp only
    rw[if_pos ef,if_pos ef,e1,hc]
    exact ih _ fun x hx=>hp x (zu _ hx)
   ·have Tb:(k == NameKind.free)=false:=by simpa using hk
    dsimp only
    rw[Tb,if_neg zg,if_neg zg]
    exact ih _ fun x hx=>hp x (zu _ hx)
 have e:=go scope.names [] h
 have e2:closureFor scope env=(forIn scope.names [] (fun x r=>match x with|(name,kind)=>if (kind == NameKind.free)=true then do let a ← cellOf env name;pure (ForInStep.yield ((name,a)::r)) else pure (ForInStep.yield r)):Sem (List (Str×Addr))) >>= fun cs=>pure cs:=rfl
 rw[e2,e]
 rfl
theorem ip{env:Env}{names:List (Str×NameKind)}{x:Str} :
  (names.map fun (n,k)=>if (k == NameKind.free && env.scope.kind == .function && env.kindOf n == some .cell) then (n,NameKind.cell) else (n,k)).lookup x =
   (names.lookup x).map fun k=>if (k == NameKind.free && env.scope.kind == .function && env.kindOf x == some .cell) then NameKind.cell else k:=by
 induction names with
 |nil=>rfl
 |cons p r ih =>
  obtain⟨n,k⟩:=p
  rw[zD,ym]
  by_cases hc:(k == NameKind.free && env.scope.kind == .function && env.kindOf n == some .cell)=true
  ·dsimp only
   rw[if_pos hc,ym]
   cases hx:x == n with
   |true =>
    have:=LawfulBEq.eq_of_beq hx
    subst this
    dsimp only [Option.map]
    rw[if_pos hc]
   |false=>exact ih
  ·dsimp only
   rw[if_neg hc,ym]
   cases hx:x == n with
   |true =>
    have:=LawfulBEq.eq_of_beq hx
    subst this
    dsimp only [Option.map]
    rw[if_neg hc]
   |false=>exact ih
def eR(X:Cx)(N:List Str)(scope:Scope)(C:Addr)(s:Shared)(H:Hp)(ex:List Addr)(pn:List (Addr×Obj)):Cx :=
 { X with N:=N,cK:=s,sT:=H,env:=compEnvC scope (clOf X.env.cells scope.names) C X.env,outer:=X.stack,ex:=ex,fn:=fun _=>false,pn:=pn,xe:=fun _ _=>False }
def pick(σ:St)(src:List (Option Nat)):St:=src.map fun o=>match o with|some j=>(σ[j]?).join|none=>none
structure eG(X:Cx)(N:List Str)(src:List (Option Nat))(scope:Scope):Prop where
 kind:scope.kind=.function
 rf:∀y∈scope.names,y.2≠.cell
 loc:∀y∈scope.names,y.2=.local→scope.names.lookup y.1=some .local
 JO:∀y∈scope.names,y.2=.free→X.env.kindOf y.1=some .cell∨X.env.kindOf y.1=some .free
 len:src.length=N.length
 src:∀(i j:Nat) (x:Str),src[i]?=some (some j)→N[i]?=some x→X.N[j]?=some x∧scope.names.lookup x=some .free∧Kf X.env.scope x
def Ext(σ ay:St):Prop:=ay.length=σ.length∧∀(j:Nat) v,σ[j]?=some (some v)→ay[j]?=some (some v)
def tu(g:TG)(src:List (Option Nat)):Prop:=∀x σ H Q,g x (pick σ src) H Q→g x (pick σ src) H fun ay H'=>Ext (pick σ src) ay∧Q ay H'
def BF(wi:TI)(src:List (Option Nat))(g:TG)(tc:TT)(te:TE):TE:=fun σ H Q=>wi σ H fun J H1 =>
 ∃W:Nat→Nat→List V→Hp→Prop,(∃m,W 0 m [] H1)∧∀i m out H',W i m out H' →
  (J.stop i H'∧∀D,H' D=none→Q (.ref D) (upd H' D (.lst out))) ∨
  (J.go i H'∧out.length<sizeLine∧∀x H2,J.Kq i H' x H2→g x (pick σ src) H2 fun iY H3=>tc iY H3 fun b H4 =>
   if b=true then te iY H4 fun v H5=>∃m',m'<m∧W (i+1) m' (out++[v]) H5 else ∃m',m'<m∧W (i+1) m' out H4)
section
variable{X:Cx}{N:List Str}{src:List (Option Nat)}{scope:Scope}{tg iter elt:Expr}{ifs:List Expr}{pos:Pos}{wi:TI}{g:TG}{tc:TT}{te:TE}
def K6(X:Cx)(ifs:List Expr)(t:TT):Prop :=
 ∀(pins:List (Addr×Obj)) (s:Shared) (σ:St) (H:Hp) (Q:Bool→Hp→Prop),Inv X pins σ H s→t σ H Q →
  wpAny (model X.prog X.w) X.A (forIn ifs true fun c r=>if r=true then do let ok ← isTrue c X.env (eval c X.env);pure (ForInStep.yield ok) else pure (ForInStep.yield r)) (TP X pins σ Q) X.xe s
def K7:TT:=fun _ H Q=>Q true H
theorem En:K6 X [] K7:=fun pins s σ H Q I h=>wpAny_tests_nil ⟨H,I,h⟩
theorem jh(JP:∀x s',EE x s'→notedBy (model prog w) A env (fun e s'=>R (.error e) s') x s')(I:Nat→Shared→Prop)
  (turn:∀n s,I n s→wpAny (model prog w) A (pyNext it) (fun r aG=>match r with
   |none=>R (.ok .next) aG
   |some v=>wpAny (model prog w) A (letOwnedTupleGo target it v) (fun _ Gm=>wpAny (model prog w) A (assign target env v) (fun _ aW =>
     wpAny (model prog w) A (forIn ifs true fun c r=>if r=true then do let ok ← isTrue c env (eval c env);pure (ForInStep.yield ok) else pure (ForInStep.yield r)) (fun ok Ag =>
      if ok=true then wpAny (model prog w) A (eval elt env) (fun x tw =>
       wpAny (model prog w) A (call (.builtin "list.append") [acc,x]) (fun _ K8=>∃m,m<n∧I m K8) EE tw) EE Ag
      else ∃m,m<n∧I m Ag) EE aW) EE Gm) EE aG) EE s)
  (n:Nat) (h:I n s) :
  codeAny (model prog w) A (.compLoop (.ListComp elt [⟨target,iter,ifs,0⟩] scope pos) 0 it acc env) R s:=by
 refine codeAny_loop rfl I (fun n s hI=>?_) n h
 show wpAny _ A ((compTurn (.ListComp elt [⟨target,iter,ifs,0⟩] scope pos) 0 it acc env).onRaise (fun x=>do noteFrame x env;theTreesLotGoes x)) _ _ s
 refine wpAny_noted ?_
 rw[compTurn_list]
 refine za (wpAny_standAt (za (zY (turn n s hI) (fun r aG kT=>?_) JP)))
 cases r with
 |none=>exact zi kT
 |some v =>
  refine za (zY kT (fun _ Gm K9=>?_) JP)
  refine za (zY K9 (fun _ aW BG=>za (zY BG (fun ok Ag Eo=>?_) JP)) JP)
  cases ok with
  |false=>exact zi ⟨rfl,Eo⟩
  |true =>
   exact za (za (zY Eo (fun x tw Pc=>za (zY Pc (fun _ K8 Pd=>zi (zi ⟨rfl,Pd⟩)) JP)) JP))
def CompEnd(X:Cx)(pins:List (Addr×Obj))(σ:St)(Q:VK)(D C:Addr)(s':Shared):Prop :=
 ∃H' m,Inv X pins σ H' s'∧Q (.ref D) H'∧s'.heap.Ns C m∧H' C=none∧C≠X.env.locals∧X.cK.heap.objs.size≤C∧(∀x c,X.env.cells.lookup x=some c→c≠C)∧(∀p∈X.pn++pins,p.1≠C)
theorem qz{pins:List (Addr×Obj)}{aW:Shared}{σ:St}{gW:Hp}{Q:VK}{it:Addr}{fp:List Addr}{tn:Nat→Heap→Prop}{J:It}{E:Value→Shared→Prop}(S:eG X N src scope)(hc:X.calm=true)
  (hg:∀C s H ex pn,PG (eR X N scope C s H ex pn) tg g) (hx:tu g src) (hi:∀C s H ex pn,K6 (eR X N scope C s H ex pn) ifs tc) (he:∀C s H ex pn,PE (eR X N scope C s H ex pn) elt te)
  (I:Inv X pins σ gW aW) (T:Turn X.prog X.w X.K tg J fp it tn) (st:tn 0 aW.heap) (ff:∀b∈fp,mn X pins gW b)
  (W:Nat→Nat→List V→Hp→Prop) (w0:∃m,W 0 m [] gW)
  (turn:∀i m out H',W i m out H'→(J.stop i H'∧∀D,H' D=none→Q (.ref D) (upd H' D (.lst out))) ∨
   (J.go i H'∧out.length<sizeLine∧∀x H2,J.Kq i H' x H2→g x (pick σ src) H2 fun iY H3=>tc iY H3 fun b H4 =>
    if b=true then te iY H4 fun v H5=>∃m',m'<m∧W (i+1) m' (out++[v]) H5 else ∃m',m'<m∧W (i+1) m' out H4))
  {RR:Value→Addr→Result→Shared→Prop} (Tc:∀D C s',CompEnd X pins σ Q D C s'→RR (.ref D) C (.ok .next) s') :
  wpAny (model X.prog X.w) X.A (newList []) (fun acc Ag=>wpAny (model X.prog X.w) X.A (newFunctionEnv scope X.env.globals (clOf X.env.cells scope.names) [] X.env.qual none .none (some X.env)) (fun K_ tw =>
   codeAny (model X.prog X.w) X.A (.compStart (.ListComp elt [⟨tg,iter,ifs,0⟩] scope pos) 0 (.ref it) acc { K_ with scope:=relabel scope X.env }) (RR acc K_.locals) tw) E Ag) E aW:=by
 refine yx (wpAny_newFunctionEnv S.rf (by intro y hy;simp at hy) (fun kT rg nu=>?_) S.kind)
 dsimp only at rg nu ⊢
 generalize JQ:aW.heap.push { cls:=.type "list",dict:=none,data:=.seq ([]:List Value).toArray }=G2 at rg nu ⊢
 have hC:G2.objs.size=aW.heap.objs.size+1:=by rw[← JQ,yf]
 have JR:aW.heap.objs.size≠G2.objs.size:=by rw[hC];exact zI (Nat.lt_succ_self _)
 have Ep:aW.heap.objs.size≤G2.objs.size:=by rw[hC];exact Nat.le_succ _
 have old:∀b o,aW.heap.get? b=some o→kT.get? b=some o:=fun b o e =>
  nu.extBut b o (zI (zm (zw e) Ep)) (zc _ (JQ ▸ zc _ e))
 have La:kT.get? aW.heap.objs.size=some { cls:=.type "list",dict:=none,data:=.seq ([]:List Value).toArray }:=nu.extBut _ _ JR (zc _ (JQ ▸ zo _ rfl))
 generalize Wr:G2.objs.size=C at hC JR Ep rg nu ⊢
 have jU:aW.heap.objs.size≤C:=Ep
 generalize hD:aW.heap.objs.size=D at hC JR Ep La ⊢
 have nv:∀x c,(clOf X.env.cells scope.names).lookup x=some c→X.env.cells.lookup x=some c:=tq X.env.cells scope.names [] (by intro x c h;simp at h)
 have BH:∀x c,X.env.cells.lookup x=some c→c<aW.heap.objs.size:=fun x c e=>by obtain⟨v,q⟩:=I.cell x c e;exact q.lt
 have HP:∀b∈fp,b<aW.heap.objs.size:=fun b hb=>by
  obtain⟨o,e,_⟩:=T.obj _ _ st b hb
  exact zw e
 -- the block's context
 have ok:(eR X N scope C aW gW fp (X.pn++pins)).Ok:=by
  refine⟨I.ok.mod,S.kind,I.ok.glob,I.ok.blt,jU,fun x y c h1 h2=>I.ok.inj x y c (nv _ _ h1) (nv _ _ h2),fun x hk=>?_,fun x c h=>(nomatch h),I.ok.hd,I.ok.frames,.inl rfl,fun b hb=>⟨?_,fun x c h=>?_⟩,
   I.bs,zA I.ok.Bh I.sz,fun b o e hb=>?_,fun b hb hf=>?_,I.stack,I.qU⟩
  ·-- cells for the names
   have hk:(relabel scope X.env).names.lookup x=some .cell∨(relabel scope X.env).names.lookup x=some .free:=hk
   unfold relabel at hk
   dsimp only at hk
   rw[ip] at hk
   cases hl:scope.names.lookup x with
   |none=>rw[hl] at hk;rcases hk with z|z <;> cases z
   |some k =>
    rw[hl] at hk
    have hm:=PySem.mem_of_lookup hl
    have Lb:k=.free:=by
     by_cases Lb:k=.free
     ·exact Lb
     ·exfalso
      have e1:(k == NameKind.free)=false:=by simpa using Lb
      simp only [Option.map,e1,zh,Bool.false_eq_true,if_false] at hk
      rcases hk with z|z
      ·exact S.rf _ hm (zV z)
      ·exact Lb (zV z)
    subst Lb
    obtain⟨c,xc⟩:=I.ok.has x (S.JO _ hm rfl)
    exact⟨c,nr X.env.cells scope.names [] x c (by intro x c h;simp at h) hm xc⟩
  ·exact zI (zm (HP b hb) jU)
  ·exact (ff b hb).2.2.2.2.1 x c (nv _ _ h)
  ·have q:b∈X.ex∨X.cK.heap.objs.size≤b:=(ff b hb).2.2.2.1
   rcases q with q|q
   ·exact I.ok.u7 b o e q
   ·exact absurd (zm (zw e) (zA I.ok.Bh q)) (yE _)
  ·rcases zd.mp (I.kN b hf) with z|z
   ·exact (ff b hb).2.1 z
   ·exact (ff b hb).2.2.1 z
 have Ld:∀p∈X.pn++pins,p.1∉hV X.stack:=fun p hp z=>by
  obtain⟨_,_,ne,nf,_⟩:=I.pin p hp
  rcases zd.mp (I.kN _ z) with q|q
  ·exact ne q
  ·exact nf q
 have BI:∀p∈X.pn++pins,p.1<aW.heap.objs.size:=fun p hp=>zw (I.pin p hp).1
 have Le:∀b∈hV X.stack,b<aW.heap.objs.size:=fun b hb=>by
  rcases zd.mp (I.kN b hb) with z|z
  ·rw[z];exact I.lt
  ·obtain⟨_,o,ho,_⟩:=I.ok.jf.mem z
   exact zm (zw ho) I.sz
 have Pe:∀(i:Nat) (x:Str) (v:V),N[i]?=some x→(pick σ src)[i]?=some (some v)→∃u c,RelV v u∧(clOf X.env.cells scope.names).lookup x=some c∧aW.heap.IsCell c (some u)∧scope.names.lookup x=some .free:=fun i x v e1 e2=>by
  unfold pick at e2
  rw[zQ] at e2
  cases es:src[i]? with
  |none=>rw[es] at e2;cases e2
  |some o =>
   rw[es] at e2
   cases o with
   |none=>cases e2
   |some j =>
    have e3:(σ[j]?).join=some v:=zV e2
    have e4:σ[j]?=some (some v):=by
     cases q:σ[j]? with
     |none=>rw[q] at e3;cases e3
     |some z=>rw[q] at e3;exact congrArg some e3
    obtain⟨a1,a2,a3⟩:=S.src i j x es e1
    obtain⟨m0,_,hl⟩:=I.loc
    obtain⟨u,r,l⟩:=hl j x v a1 e4 a3
    have hm:=PySem.mem_of_lookup a2
    have hk:=S.JO _ hm rfl
    rcases l with ⟨k,_⟩|⟨_,c,xc,z⟩
    ·rcases hk with hk|hk <;> (rw[k] at hk;cases hk)
    ·exact⟨u,c,r,nr X.env.cells scope.names [] x c (by intro x c h;simp at h) hm xc,z,a2⟩
 have kinds:∀x,scope.names.lookup x=some .free→(compEnvC scope (clOf X.env.cells scope.names) C X.env).kindOf x=some .cell∨(compEnvC scope (clOf X.env.cells scope.names) C X.env).kindOf x=some .free:=fun x hx=>by
  show (relabel scope X.env).names.lookup x=some .cell∨(relabel scope X.env).names.lookup x=some .free
  unfold relabel
  dsimp only
  rw[ip,hx]
  dsimp only [Option.map]
  split
  ·exact .inl rfl
  ·exact .inr rfl
 have Ic:Inv (eR X N scope C aW gW fp (X.pn++pins)) [] (pick σ src) gW { aW with heap:=kT,toks:=aW.toks+([]:List (Str×Value)).length }:=by
  refine⟨ok,rfl,I.bare,Un.kept old,⟨_,rg,fun i x v e1 e2 e3=>?_⟩,fun x c e=>?_,I.aF.fresh jU,fun x c e=>I.eQ x c (nv x c e),fun p hp=>?_,I.aF.kept old,?_⟩
  ·obtain⟨u,c,r,e5,⟨o,ho,hd⟩,hf⟩:=Pe i x v e1 e2
   exact⟨u,r,.inr ⟨kinds x hf,c,e5,⟨o,old _ _ ho,hd⟩⟩⟩
  ·obtain⟨v,o,ho,hd⟩:=I.cell x c (nv x c e)
   exact⟨v,o,old _ _ ho,hd⟩
  ·have hp:p∈X.pn++pins:=by simpa [eR] using hp
   obtain⟨e,n,_,_,d⟩:=I.pin p hp
   exact⟨old _ _ e,n,zI (zm (BI p hp) jU),Ld p hp,d⟩
  ·show (pick σ src).length=N.length
   unfold pick
   rw[zb,S.len]
 have tD:aW.heap.objs.size≤D:=Nat.le_of_eq hD
 have HQ:D∉hV X.stack:=fun z=>absurd (zm (Le D z) tD) (yE _)
 have Gn:D∉fp:=fun z=>absurd (zm (HP D z) tD) (yE _)
 have m7:∀{pl:List (Addr×Obj)}{H':Hp},(∀b∈fp,H' b=none)→(∀p∈pl,p.1∉fp)→∀b∈fp,mn (eR X N scope C aW gW fp (X.pn++pins)) pl H' b:=fun {pl H'} hn jl b hb=>by
  obtain⟨f0,f1,f2,f3,f4,f5⟩:=ff b hb
  refine⟨hn b hb,zI (zm (HP b hb) jU),fun z=>?_,.inl hb,fun x c e=>f4 x c (nv x c e),fun p hp=>?_⟩
  ·rcases zd.mp (I.kN b z) with q|q
   ·exact f1 q
   ·exact f2 q
  ·have hp:p∈(X.pn++pins)++pl:=hp
   rcases zW.mp hp with hp|hp
   ·exact f5 p hp
   ·exact fun z=>jl p hp (z ▸ hb)
 -- back in the def's own frame
 have back:∀{s':Shared}{H':Hp}{out:List V}{ak:List Value}{nn:Nat}{ay:St},Inv (eR X N scope C aW gW fp (X.pn++pins)) [] ay H' s'→H' D=none→out.length≤sizeLine→Vals out ak →
   s'.heap.get? D=some { cls:=.type "list",data:=.seq ak.toArray nn }→(∀D,H' D=none→Q (.ref D) (upd H' D (.lst out)))→CompEnd X pins σ Q D C s':=fun {s' H' out ak nn ay} I' hn hl hv ho q=>by
  obtain⟨m,hm,_⟩:=I'.loc
  have un:Un (hV X.stack) fp gW H' aW.heap s'.heap:=I'.base
  have Td:∀b o,aW.heap.get? b=some o→b≠D:=fun b o e=>zI (zm (zw e) tD)
  have fD:gW D=none:=I.aF.fresh tD
  refine⟨upd H' D (.lst out),m,?_,q D hn,hm,by rw[aq (Ne.symm JR)];exact I'.free,yo (zm I.lt jU),zA I.sz jU,fun x c e=>zI (zm (BH x c e) jU),fun p hp=>zI (zm (BI p hp) jU)⟩
  refine I.sV (ch:=fp) I'.os ⟨un.keep,un.slot,fun b o e n hb=>?_,un.there,fun b xs e=>?_,fun b o u e=>?_,fun b ps e=>?_⟩ (fun b o e=>?_) I'.bare fun b hb=>?_
  ·rw[aq (Td b o e)];exact un.free b o e n hb
  ·rw[aq (az e fD)];exact un.eP b xs e
  ·rw[aq (az e fD)];exact un.ej b o u e
  ·rw[aq (az e fD)];exact un.eu b ps e
  ·by_cases hb:b=D
   ·subst hb
    rw[aU] at e
    cases e
    exact⟨hl,ak,nn,hv,ho⟩
   ·rw[aq hb] at e
    refine (I'.aF b o e).mX (fun c v _ q=>q) (fun c q=>?_) fun c xs q=>?_
    ·rw[aq (az q hn)];exact q
    ·rw[aq (az q hn)];exact q
  ·obtain⟨f0,f1,f2,f3,f4,f5⟩:=ff b hb
   exact⟨f3,f1,f4,f5⟩
 obtain⟨m0,w0⟩:=w0
 have loop:∀tw:Shared,tw={ aW with heap:=kT,toks:=aW.toks+([]:List (Str×Value)).length } →
   codeAny (model X.prog X.w) X.A (.compLoop (.ListComp elt [⟨tg,iter,ifs,0⟩] scope pos) 0 (.ref it) (.ref D) (compEnvC scope (clOf X.env.cells scope.names) C X.env)) (RR (.ref D) C) tw:=by
  rintro tw rfl
  refine jh (EE:=fun _ _=>False) (fun _ _ f=>f.elim) (fun n s'=>∃i out ak nn H',Inv (eR X N scope C aW gW fp (X.pn++pins)) [] (pick σ src) H' s'∧H' D=none∧out.length≤sizeLine∧Vals out ak ∧
   s'.heap.get? D=some { cls:=.type "list",data:=.seq ak.toArray nn }∧tn i s'.heap∧(∀b∈fp,H' b=none)∧W i n out H') ?_ m0
   ⟨0,[],[],0,gW,Ic,I.aF.fresh tD,yz _,.nil,La,T.keep _ _ _ st fun b hb o e=>old b o e,fun b hb=>(ff b hb).1,w0⟩
  rintro n s3 ⟨i,out,ak,nn,H3,I3,Lf,Pg,ND,Te,Kw,Kx,w3⟩
  have HR:∀(ak:List Value) (nn:Nat) (v:Option Value),({ cls:=.type "list",data:=.seq ak.toArray nn } : Obj).data≠.cell v:=fun _ _ _ z=>nomatch z
  have Rq:Inv (eR X N scope C aW gW fp (X.pn++pins)) [(D,{ cls:=.type "list",data:=.seq ak.toArray nn })] (pick σ src) H3 s3:=I3.jQ fun p hp=>by
   have e:p=(D,{ cls:=.type "list",data:=.seq ak.toArray nn }):=by simpa using hp
   subst e
   exact⟨Te,Lf,JR,HQ,HR ak nn⟩
  have Ph:∀p∈[((D,{ cls:=.type "list",data:=.seq ak.toArray nn }):Addr×Obj)],p.1∉fp:=fun p hp=>by
   have e:p=(D,{ cls:=.type "list",data:=.seq ak.toArray nn }):=by simpa using hp
   subst e
   exact Gn
  rcases turn i n out H3 w3 with ⟨stop,qn⟩|⟨go,BJ,step⟩
  ·refine bq (T.done (eR X N scope C aW gW fp (X.pn++pins)) rfl rfl rfl hc i _ s3 _ H3 _ Rq (m7 Kx Ph) Kw stop) fun r s4 ⟨hr,I4⟩=>?_
   subst hr
   have p4:=(I4.pin (D,{ cls:=.type "list",data:=.seq ak.toArray nn }) (zN _ (by simp))).1
   exact Tc D C s4 (back (I4.jQ (pins':=[]) fun p hp=>nomatch hp) Lf Pg ND p4 qn)
  ·refine bq (T.item (eR X N scope C aW gW fp (X.pn++pins)) rfl rfl rfl hc i _ s3 _ H3 _ Rq (m7 Kx Ph) Kw go) fun r s4 ⟨u,hr,h4⟩=>?_
   subst hr
   refine bq h4 fun _ s5 ⟨x,H5,I5,r5,y5,st5,fr5⟩=>?_
   have OD:=I5.pinned (m7 fr5 Ph) (T.obj _ _ st5)
   refine bq (hg _ _ _ _ _ _ s5 _ H5 x u _ OD r5 (hx x σ H5 _ (step x H5 y5))) fun _ s6 ⟨Ky,H6,I6,e6,q6⟩=>?_
   have fin:∀{s7:Shared}{H7:Hp},Inv (eR X N scope C aW gW fp (X.pn++pins)) ([(D,{ cls:=.type "list",data:=.seq ak.toArray nn })]++m8 fp s5.heap) Ky H7 s7 →
     Inv (eR X N scope C aW gW fp (X.pn++pins)) [] (pick σ src) H7 s7∧H7 D=none∧s7.heap.get? D=some { cls:=.type "list",data:=.seq ak.toArray nn }∧tn (i+1) s7.heap∧∀b∈fp,H7 b=none:=fun {s7 H7} I7=>by
    have pD:=I7.pin (D,{ cls:=.type "list",data:=.seq ak.toArray nn }) (zN _ (by simp))
    refine⟨(I7.jQ (pins':=[]) fun p hp=>nomatch hp).weak e6.1.symm e6.2,pD.2.1,pD.1,T.keep _ _ _ st5 fun b hb o e=>(I7.pin (b,o) (zN _ (zN _ (gu hb e)))).1,fun b hb=>?_⟩
    obtain⟨o,e,d⟩:=T.obj _ _ st5 b hb
    exact (I7.pin (b,o) (zN _ (zN _ (gu hb e)))).2.1
   refine bq (hi _ _ _ _ _ _ s6 Ky H6 _ I6 q6) fun b s7 ⟨H7,I7,q7⟩=>?_
   cases b with
   |false =>
    rw[if_neg zg] at q7 ⊢
    obtain⟨m',hm,w7⟩:=q7
    obtain⟨J7,d7,o7,t7,f7⟩:=fin I7
    exact⟨m',hm,i+1,out,ak,nn,H7,J7,d7,Pg,ND,o7,t7,f7,w7⟩
   |true =>
    rw[if_pos rfl] at q7 ⊢
    refine bq (he _ _ _ _ _ _ s7 Ky H7 _ I7 q7) fun v s8 ⟨y,H8,I8,r8,m',hm,w8⟩=>?_
    obtain⟨J8,d8,o8,t8,f8⟩:=fin I8
    have hsz:ak.toArray.size≤sizeLine:=by rw[zr,← ND.length];exact Pg
    refine wpAny_list_append_plain (items:=ak.toArray) (hsz:=hsz) ⟨nn,o8⟩ fun h9 ⟨n9,e9⟩ sb=>?_
    have J9:Inv (eR X N scope C aW gW fp (X.pn++pins)) [] (pick σ src) H8 { s8 with heap:=h9 }:=J8.turned (t':=s8.toks) (it:=D) (fun b o hb e=>(sb.2 b hb).trans e) d8 JR (.inr tD) (fun x c e=>zI (zm (BH x c (nv x c e)) tD)) fun p hp=>by
     have hp:p∈X.pn++pins:=by simpa [eR] using hp
     exact zI (zm (BI p hp) tD)
    refine⟨m',hm,i+1,out++[y],ak++[v],n9,H8,J9,d8,?_,ND.append (.cons r8 .nil),?_,T.keep _ _ _ t8 fun b hb o e=>(sb.2 b (fun z=>Gn (z ▸ hb))).trans e,f8,w8⟩
    ·rw[ze];exact BJ
    ·rw[e9];simp
 exact codeAny_compStart_list (loop _ rfl) (T.self _ _ _ _ _ (T.keep _ _ _ st fun b hb o e=>old b o e) (loop _ rfl))
theorem Er(S:eG X N src scope)(hc:X.calm=true)(hit:PI X tg iter wi)
  (hg:∀C s H ex pn,PG (eR X N scope C s H ex pn) tg g) (hx:tu g src) (hi:∀C s H ex pn,K6 (eR X N scope C s H ex pn) ifs tc) (he:∀C s H ex pn,PE (eR X N scope C s H ex pn) elt te)
  (hs:∀x,foldedSetIterable iter X.env x=pure x:=by intro _;rfl):PE X (.ListComp elt [⟨tg,iter,ifs,0⟩] scope pos) (BF wi src g tc te):=by
 intro pins s σ H Q I h
 rw[eval_ListComp]
 have Ah:closureFor scope X.env=pure (clOf X.env.cells scope.names):=jq fun y hy hf=>I.ok.has y.1 (S.JO y hy hf)
 refine wpAny_comprehension_free (use:=none) rfl hs Ah S.kind S.loc (bq (hit pins s σ H _ I h) fun v s1 h1=>bq h1 fun Nw s2 h2=>?_)
 obtain⟨it,fp,tn,J,H2,e,I2,T,Kv,f2,W,w0,turn⟩:=h2
 subst e
 refine qz (RR:=fun acc C=>compPost (model X.prog X.w) X.A X.xe none (EP X pins σ Q) acc C) S hc hg hx hi he I2 T Kv f2 W w0 turn fun D C s' ⟨H',m,I',q,hm,hn,h1,h2,h3,h4⟩=>?_
 exact⟨m,hm,fun h' sb=>⟨.ref D,H',I'.turned (t':=s'.toks) (it:=C) (fun b o hb e=>(sb.2 b hb).trans e) hn h1 (.inr h2) h3 h4,rfl,q⟩⟩
theorem vq{i:Nat}{x:Str}{pos' Es:Pos}(hN:X.N.Nodup)(Pj:X.N[i]?=some x)(NF:X.env.scope.names.lookup x=some .local)
  (S:eG X N src scope) (hc:X.calm=true) (hit:PI X tg iter wi)
  (hg:∀C s H ex pn,PG (eR X N scope C s H ex pn) tg g) (hx:tu g src) (hi:∀C s H ex pn,K6 (eR X N scope C s H ex pn) ifs tc) (he:∀C s H ex pn,PE (eR X N scope C s H ex pn) elt te)
  (Pk:swapsWith (.ListComp elt [⟨tg,iter,ifs,0⟩] scope pos) (some (.Name x pos')) Es.line X.env=pure true:=by rfl)
  (hs:∀x,foldedSetIterable iter X.env x=pure x:=by intro _;rfl):PS X (.Assign [.Name x pos'] (.ListComp elt [⟨tg,iter,ifs,0⟩] scope pos) Es) (Hf (BF wi src g tc te) (cu i)):=by
 intro pins s σ H D I h
 rw[exec_Assign_Name_used _ _ _ _ Pk]
 refine za (wpAny_standAt (za ?_))
 have Ah:closureFor scope X.env=pure (clOf X.env.cells scope.names):=jq fun y hy hf=>I.ok.has y.1 (S.JO y hy hf)
 show wpAny _ X.A (do let _ ← comprehension (.ListComp elt [⟨tg,iter,ifs,0⟩] scope pos) scope X.env _ (newList []) false (eval iter X.env) (some (assign (.Name x pos') X.env))) _ _ s
 refine za (zY (wpAny_comprehension_free (use:=some (assign (.Name x pos') X.env)) (Q:=fun _ s'=>∃ay H',Inv X pins ay H' s'∧D.nx ay H') rfl hs Ah S.kind S.loc (bq (hit pins s σ H _ I h) fun v s1 h1=>bq h1 fun Nw s2 h2=>?_))
  (fun _ s' hq=>zi (zi hq)) fun _ _ e=>e)
 obtain⟨it,fp,tn,J,H2,e,I2,T,Kv,f2,W,w0,turn⟩:=h2
 subst e
 refine qz (Q:=fun v H1=>D.nx (σ.set i (some v)) H1) (RR:=fun acc C=>compPost (model X.prog X.w) X.A X.xe (some (assign (.Name x pos') X.env)) (fun _ s'=>∃ay H',Inv X pins ay H' s'∧D.nx ay H') acc C) S hc hg hx hi he I2 T Kv f2 W w0 turn fun D' C s' ⟨H',m,I',q,hm,hn,h1,h2,h3,h4⟩=>?_
 show wpAny _ X.A (assign (.Name x pos') X.env (.ref D')) _ _ _
 refine wpAny_assign_Name (qm I' hN Pj (.inl NF) (v:=.ref D') rfl (fun y6 Tf ⟨a,sb,ha⟩=>?_) (.inr NF))
 have Th:C≠a:=by
  rcases ha with ha|ha
  ·rw[ha];exact h1
  ·exact Ne.symm (h3 _ _ ha)
 refine⟨m,hm.sameBut sb Th,fun Rr HS=>⟨_,H',Tf.turned (t':=y6.toks) (it:=C) (fun b o hb e=>(HS.2 b hb).trans e) hn h1 (.inr h2) h3 h4,q⟩⟩
end
theorem eH{σ:St}{src:List (Option Nat)}{i:Nat}(h:src[i]?=some none):(pick σ src)[i]?=some none:=by
 unfold pick
 rw[zQ,h]
 rfl
theorem Ext.set(h:σ0[i]?=some none)(e:Ext σ0 σ):Ext σ0 (σ.set i (some v)):=by
 refine⟨by rw[List.length_set];exact e.1,fun j w hj=>?_⟩
 have:i≠j:=by
  rintro rfl
  rw[h] at hj
  cases hj
 rw[List.getElem?_set_ne this]
 exact e.2 j w hj
theorem Ext.refl(σ:St):Ext σ σ:=⟨rfl,fun _ _ h=>h⟩
theorem aK{src:List (Option Nat)}{i:Nat}(h:src[i]?=some none):tu (cu i) src:=fun x σ H Q q=>⟨(Ext.refl _).set (eH h),q⟩
theorem rh{K:Frag}{n:Nat}{src:List (Option Nat)}{i j:Nat}(h:src[i]?=some none)(h':src[j]?=some none):tu (vd K n (dZ (cu i) (dZ (cu j) vc))) src:=fun x σ H Q q=>by
 obtain⟨a,xs,e1,hs,hl,v,r,e2,v2,r2,e3,e4,q⟩:=q
 exact⟨a,xs,e1,hs,hl,v,r,e2,v2,r2,e3,e4,((Ext.refl _).set (eH h)).set (eH h'),q⟩
theorem Et{K:Frag}{n:Nat}{src:List (Option Nat)}{i j k:Nat}(h:src[i]?=some none)(h':src[j]?=some none)(Rr:src[k]?=some none):tu (vd K n (dZ (cu i) (dZ (cu j) (dZ (cu k) vc)))) src:=fun x σ H Q q=>by
 obtain⟨a,xs,e1,hs,hl,v,r,e2,v2,r2,e3,v3,r3,e4,e5,q⟩:=q
 exact⟨a,xs,e1,hs,hl,v,r,e2,v2,r2,e3,v3,r3,e4,e5,(((Ext.refl _).set (eH h)).set (eH h')).set (eH Rr),q⟩
theorem all_bools{xs:List V}{ak:List Value}{bs:List Bool}(hv:Vals xs ak)(hb:xs=bs.map V.bl):∀(i:Nat) (v:Value),ak.toArray[i]?=some v→v=Value.bool ((bs[i]?).getD false):=by
 subst hb
 intro i v h
 have h':ak[i]?=some v:=by simpa using h
 have hl:=hv.length
 rw[zb] at hl
 have hi:i<ak.length:=(yc.mp h').1
 have hb:bs[i]?=some (bs[i]'(by lia)):=by simp
 obtain⟨u,hu,r⟩:=hv.get (i:=i) (x:=V.bl (bs[i]'(by lia))) (by rw[zQ,hb];rfl)
 rw[h'] at hu
 cases hu
 rw[hb]
 exact r
theorem range_all{bs:List Bool} : (List.range bs.length).all (fun i=>(bs[i]?).getD false)=bs.all id:=by
 rw[yj,zJ,zJ]
 constructor
 ·intro h b hb
  obtain⟨i,hi,rfl⟩:=List.mem_iff_getElem.mp hb
  have:=h i (List.mem_range.mpr hi)
  simpa [hi] using this
 ·intro h i hi
  have hi:=List.mem_range.mp hi
  simpa [hi] using h _ (List.getElem_mem hi)
section
variable{X:Cx}
theorem pC(hc:X.calm=true):dA X (.builtin "all") (fun xs H Q=>∃(a:Addr) (bs:List Bool),xs=[.ref a]∧gT X.K H a (bs.map V.bl)∧Q (.bl (bs.all id)) H):=by
 intro pins s σ H xs us Q I r h
 obtain⟨a,bs,rfl,hq,q⟩:=h
 obtain⟨u,rfl,ru⟩:=vals1 r
 cases ru
 obtain⟨ak,rv,p,hz⟩:=I.list hq
 have hl:=rv.length
 rw[zb] at hl
 refine call_all_walk (wpAny_pyIter_list p.isList ?_)
 refine⟨s.heap.objs.size,_,_,_,_,_,fun i=>(bs[i]?).getD false,rfl,Walks.list (A:=X.A.in1) (I.ok.hd hc) s.heap.objs.size a (zI p.lt) ak.toArray,⟨⟨_,zo _ rfl,rfl,rfl⟩,p.isList.at fun o e=>zc _ e⟩,?_,fun h' tk hk=>?_⟩
 ·intro i v s' Q' E' hv hQ
  rw[all_bools rv rfl i v hv]
  exact yu hQ
 ·have e:ak.toArray.size=bs.length:=by rw[zr,← hl]
  rw[e,range_all]
  exact⟨.bl (bs.all id),H,I.kept (h':=h') (t':=tk) (fun b o e=>hk b o (by simpa using zI (zw e)) (zc _ e)),rfl,q⟩
end
def ownOf:HO→Option Addr
 |.ins _ dx _=>some dx
 |.kM _ u=>ownOf u
 |_=>none
structure Fg(H H' G:Hp):Prop where
 sub:∀b o,G b=some o→H' b=some o
 Ws:∀b o,H b=some o→∃o',G b=some o'
 own:∀a o dx,G a=some o→ownOf o=some dx→(∃o',H a=some o'∧ownOf o'=some dx)∨∃o',G dx=some o'
section
variable{X:Cx}{pins:List (Addr×Obj)}{σ ay:St}{H H' G:Hp}{s s':Shared}
end
theorem aP:bootBuiltins "len" = some (.builtin "len"):=PySem.boot_len
theorem dh:bootBuiltins "all" = some (.builtin "all"):=boot_all
theorem aj:bootBuiltins "isinstance" = some (.builtin "isinstance"):=boot_isinstance
theorem iq:bootBuiltins "int" = some (.type "int"):=PyProof.Rows.boot_int
theorem Eu:bootBuiltins "bool" = some (.type "bool"):=PyProof.Rows.boot_bool
theorem cR:bootBuiltins "str" = some (.type "str"):=PyProof.Rows.boot_str
theorem a_:bootBuiltins "tuple" = some (.type "tuple"):=PyProof.Rows.boot_tuple
theorem Ew:bootBuiltins "list" = some (.type "list"):=PyProof.Rows.boot_list
theorem rj:bootBuiltins "dict" = some (.type "dict"):=PyProof.Rows.boot_dict
theorem HU:bootBuiltins "set" = some (.type "set"):=PyProof.Rows.boot_set
inductive Kd where
 |ax|bl|int|str|lst|tup|fJ
 deriving DecidableEq
def Kd.name:Kd→String
 |.ax => "NoneType" |.bl => "bool" |.int => "int" |.str => "str" |.lst => "list" |.tup => "tuple" |.fJ => "dict"
inductive ny (H:Hp):V→Kd→Prop where
 |ax:ny H .ax .ax
 |bl (b:Bool):ny H (.bl b) .bl
 |int (i:Int):ny H (.int i) .int
 |str (x:Str):ny H (.str x) .str
 |lst {a:Addr}{xs:List V} (e:H a=some (.lst xs)):ny H (.ref a) .lst
 |tup {a:Addr}{xs:List V} (e:H a=some (.tup xs)):ny H (.ref a) .tup
 |fJ {a:Addr}{kvs:List (Key×V)} (e:H a=some (.dK kvs)):ny H (.ref a) .fJ
theorem ny.ty{K:Frag}{H:Hp}{x:V}{k:Kd}(h:ny H x k):kP K H x (.type k.name):=by
 cases h with
 |ax=>exact .ax
 |bl b=>exact .bl b
 |int i=>exact .int i
 |str x=>exact .str x
 |lst e=>exact .lst e
 |tup e=>exact .tup e
 |fJ e=>exact .dK e
def tE(T:String):Option (Kd→Bool) :=
 if T = "int" then some fun k=>match k with|.int=>true|.bl=>true|_=>false
 else if T = "bool" then some fun k=>match k with|.bl=>true|_=>false
 else if T = "str" then some fun k=>match k with|.str=>true|_=>false
 else if T = "tuple" then some fun k=>match k with|.tup=>true|_=>false
 else if T = "list" then some fun k=>match k with|.lst=>true|_=>false
 else if T = "dict" then some fun k=>match k with|.fJ=>true|_=>false
 else none
theorem BK{K:Frag}{T:String}{g:Kd→Bool}(h:tE T=some g)(k:Kd):kitOne K (.type k.name) (.type T)=some (g k):=by
 unfold tE at h
 split at h
 ·rename_i e;subst e;cases h;cases k <;> rfl
 ·split at h
  ·rename_i e;subst e;cases h;cases k <;> rfl
  ·split at h
   ·rename_i e;subst e;cases h;cases k <;> rfl
   ·split at h
    ·rename_i e;subst e;cases h;cases k <;> rfl
    ·split at h
     ·rename_i e;subst e;cases h;cases k <;> rfl
     ·split at h
      ·rename_i e;subst e;cases h;cases k <;> rfl
      ·cases h
section
variable{X:Cx}
theorem BL:dA X (.builtin "isinstance") (fun xs H Q=>∃x T k g,xs=[x,.ty T]∧tE T=some g∧ny H x k∧Q (.bl (g k)) H):=by
 intro pins s σ H xs us Q I r h
 obtain⟨x,T,k,g,rfl,hg,hk,q⟩:=h
 obtain⟨v,w',rfl,rv,qZ⟩:=vals2 r
 cases qZ
 exact yY I rv hk.ty (BK hg k) fun tk=>⟨.bl (g k),H,I.tok tk,rfl,q⟩
end
mutual
def Dt(K:Frag)(H:Hp):PyData→V→Prop
 |.none,v=>v=.ax
 |.bool b,v=>v=.bl b
 |.int i,v=>v=.int i
 |.str z,v=>v=.str z
 |.list ds,v=>∃a xs,v=.ref a∧gT K H a xs∧DtAll K H ds xs
 |.tuple ds,v=>∃a xs,v=.ref a∧iX K H a xs∧DtAll K H ds xs
 |.dict _,_=>False
def DtAll(K:Frag)(H:Hp):List PyData→List V→Prop
 |[],xs=>xs=[]
 |d::ds,xs=>∃y ys,xs=y::ys∧Dt K H d y∧DtAll K H ds ys
end
section
variable{X:Cx}{pins:List (Addr×Obj)}{σ:St}{H:Hp}{s:Shared}
mutual
theorem Inv.reads(I:Inv X pins σ H s):∀(d:PyData) {x:V}{u:Value},Dt X.K H d x→RelV x u→∃as,Reads s.heap u d as
 |.none,x,u,h,r=>by
  have h:x=.ax:=by simpa only [Dt] using h
  subst h;cases r;exact⟨_,.none⟩
 |.bool b,x,u,h,r=>by
  have h:x=.bl b:=by simpa only [Dt] using h
  subst h;cases r;exact⟨_,.bool b⟩
 |.int i,x,u,h,r=>by
  have h:x=.int i:=by simpa only [Dt] using h
  subst h;obtain⟨t,rfl⟩:=r;exact⟨_,.int i t⟩
 |.str z,x,u,h,r=>by
  have h:x=.str z:=by simpa only [Dt] using h
  subst h;obtain⟨t,rfl⟩:=r;exact⟨_,.str z t⟩
 |.list ds,x,u,h,r=>by
  have h:∃a xs,x=.ref a∧gT X.K H a xs∧DtAll X.K H ds xs:=by simpa only [Dt] using h
  obtain⟨a,xs,rfl,hq,hd⟩:=h
  cases r
  obtain⟨ak,rv,p,_⟩:=I.list hq
  obtain⟨as,ra⟩:=Inv.readsAll I ds hd rv
  obtain⟨o,e,c,n,d⟩:=p.isList
  exact⟨_,.list e c d (by simpa using ra)⟩
 |.tuple ds,x,u,h,r=>by
  have h:∃a xs,x=.ref a∧iX X.K H a xs∧DtAll X.K H ds xs:=by simpa only [Dt] using h
  obtain⟨a,xs,rfl,hq,hd⟩:=h
  cases r
  obtain⟨ak,rv,p,_⟩:=I.tuple hq
  obtain⟨as,ra⟩:=Inv.readsAll I ds hd rv
  obtain⟨o,e,c,n,d⟩:=p
  exact⟨_,.tuple e c d (by simpa using ra)⟩
 |.dict _,x,u,h,r=>by
  have h:False:=by simpa only [Dt] using h
  exact h.elim
theorem Inv.readsAll(I:Inv X pins σ H s):∀(ds:List PyData) {xs:List V}{us:List Value},DtAll X.K H ds xs→Vals xs us→∃as,ReadsAll s.heap us ds as
 |[],xs,us,h,r=>by
  have h:xs=[]:=by simpa only [DtAll] using h
  subst h;cases r;exact⟨_,.nil⟩
 |d::ds,xs,us,h,r=>by
  have h:∃y ys,xs=y::ys∧Dt X.K H d y∧DtAll X.K H ds ys:=by simpa only [DtAll] using h
  obtain⟨y,ys,rfl,h1,h2⟩:=h
  cases r with
  |cons r1 r2 =>
   obtain⟨as,ra⟩:=Inv.reads I d h1 r1
   obtain⟨bs,rb⟩:=Inv.readsAll I ds h2 r2
   exact⟨_,.cons ra rb⟩
end
end
def Lg(K:Frag)(neg:Bool):R2:=fun x y H Q=>∃d e,Dt K H d x∧Dt K H e y∧d.canLay0=true∧e.canLay0=true∧(d.depth≤64∨e.depth≤64)∧Q (.bl (if neg then !PyData.eqv d e else PyData.eqv d e)) H
section
variable{X:Cx}
theorem HV(hu:X.A.units+64<cLine):fh X (compareOp .Eq) (Lg X.K false):=by
 intro pins s σ H x y v u Q I rx ry h
 obtain⟨d,e,hd,he,cd,ce,dp,q⟩:=h
 obtain⟨as,ra⟩:=I.reads d hd rx
 obtain⟨bs,rb⟩:=I.reads e he ry
 exact SeqAt.compareEq_reads ra rb cd ce (by rcases dp with dp|dp <;> lia) (av I q rfl)
theorem HW(hu:X.A.units+64<cLine):fh X (compareOp .NotEq) (Lg X.K true):=by
 intro pins s σ H x y v u Q I rx ry h
 obtain⟨d,e,hd,he,cd,ce,dp,q⟩:=h
 obtain⟨as,ra⟩:=I.reads d hd rx
 obtain⟨bs,rb⟩:=I.reads e he ry
 exact SeqAt.compareNe_reads ra rb cd ce (by rcases dp with dp|dp <;> lia) (av I q rfl)
end
theorem br(a b:Nat):oY ⟨#[a]⟩ ⟨#[b]⟩=decide (a≤b):=by
 unfold oY
 have e:([b]<[a])↔b<a:=by
  rw[List.cons_lt_cons_iff]
  constructor
  ·rintro (h|⟨_,h⟩)
   ·exact h
   ·exact absurd h (List.not_lt_nil _)
  ·exact .inl
 rw[yj]
 show (!decide ([b]<[a]))=true↔_
 rw[Bool.not_eq_true',decide_eq_false_iff_not,e,decide_eq_true_iff]
 lia
def chkC(sc:Scope)(N0 N:List Str)(src:List (Option Nat))(scope:Scope):Bool :=
 decide (scope.kind=.function) && (scope.names.all (fun y=>decide (y.2≠.cell) && (decide (y.2≠.local) || decide (scope.names.lookup y.1=some .local)) && (decide (y.2≠.free) || (decide (sc.names.lookup y.1=some .cell) || decide (sc.names.lookup y.1=some .free)))) &&
  (decide (src.length=N.length) && (List.range src.length).all fun i=>match src[i]?,N[i]? with
   |some (some j),some x=>decide (N0[j]?=some x) && (decide (scope.names.lookup x=some .free) && (decide (sc.names.lookup x=some .cell) || decide (sc.names.lookup x=some .free)))
   |_,_=>true))
theorem md(sc:Scope)(N0:List Str)(hs:X.env.scope=sc)(hN:X.N=N0)(h:chkC sc N0 N src scope=true):eG X N src scope:=by
 unfold chkC at h
 simp only [zj,zt,zJ,yg] at h
 obtain⟨h1,h2,h3,h4⟩:=h
 refine⟨h1,fun y hy=>(h2 y hy).1.1,fun y hy e=>?_,fun y hy e=>?_,h3,fun i j x e1 e2=>?_⟩
 ·rcases (h2 y hy).1.2 with z|z
  ·exact absurd e z
  ·exact z
 ·rcases (h2 y hy).2 with z|z
  ·exact absurd e z
  ·show X.env.scope.names.lookup y.1=some .cell∨X.env.scope.names.lookup y.1=some .free
   rw[hs];exact z
 ·have hi:i<src.length:=(yc.mp e1).1
  have q:=h4 i (List.mem_range.mpr hi)
  rw[e1,e2] at q
  simp only [zj,zt,yg] at q
  refine⟨by rw[hN];exact q.1,q.2.1,?_⟩
  unfold Kf
  rw[hs]
  exact .inr q.2.2
section
variable{X:Cx}
end
theorem mM(h0:0≤i)(h1:i<l.length):∃v,gP l i=some v∧l[i.toNat]?=some v:=by
 obtain⟨j,rfl⟩:=Int.eq_ofNat_of_zero_le h0
 have hj:j<l.length:=by lia
 exact⟨l[j],i0 (by simp [hj]),by simp [hj]⟩
theorem bg{c:Bool}{A B:Prop}(h:c=true→A)(h':c=false→B):if c=true then A else B:=by
 cases c with
 |true=>exact h rfl
 |false=>exact h' rfl
theorem nt(h:(!b)=true):b=false:=by cases b <;> simp_all
theorem nf(h:(!b)=false):b=true:=by cases b <;> simp_all
def vt:Kd→Bool|.int=>true|.bl=>true|_=>false
def rk:Kd→Bool|.bl=>true|_=>false
def vw:Kd→Bool|.str=>true|_=>false
def BM:Kd→Bool|.tup=>true|_=>false
theorem Ex:tE "int" = some vt:=if_pos rfl
theorem BN:tE "bool" = some rk:=(if_neg (by decide)).trans (if_pos rfl)
theorem cH:tE "str" = some vw:=(if_neg (by decide)).trans ((if_neg (by decide)).trans (if_pos rfl))
theorem eI:tE "tuple" = some BM:=(if_neg (by decide)).trans ((if_neg (by decide)).trans ((if_neg (by decide)).trans (if_pos rfl)))
theorem len_pos{z:Str}(h:1≤z.cps.size):∃c r,z.cps.toList=c::r:=by
 cases e:z.cps.toList with
 |nil =>
  have:z.cps.toList.length=0:=by rw[e];rfl
  rw[zR] at this
  lia
 |cons c r=>exact⟨c,r,rfl⟩
theorem Lh(e:l=c::r):gP l 0=some c:=by
 have:l[0]?=some c:=by rw[e];rfl
 exact i0 (j:=0) this
def isPlain:Expr→Bool
 |.Starred _ _=>false
 |_=>true
theorem jx(h:isPlain e=true):starEach (e::es) env=(false,eval e env)::starEach es env:=by
 cases e <;> first
  |rfl
  |exact absurd h zg
theorem Pl{t:TA}(ha:PE X e te)(hr:PA X es t)(hp:isPlain e=true:=by rfl):PA X (e::es) (wX te t):=Eb ha hr (jx hp)
end L2
namespace HT
open PySem PyProof.Rows
open PySem.SeqAt
open PySem.AutoSeq1 (wpAny_loadPart')
open PySem.MeetsSeq PySem.MeetsSeq2 PySem.MeetsSeq3
end HT
namespace L2
open PySem PySem.Spec PyProof.Rows
section
variable{X:Cx}
end
section
variable{X:Cx}{K:Frag}
end
def oZ(c:Value)(e:Addr)(h:Heap):Prop:=∃o vs,h.get? e=some o∧o.data=.fields vs∧vs[2]?=some c
section
variable{M:Model}{A:Around}{E:Value→Shared→Prop}{s:Shared}{base:Heap}{env:Env}{outer:List Env}{L e:Addr}{a0 c fl:Value}
theorem Li(pE:A.frames=some (env::outer))(hl:s.heap.FunFrames base (env::outer))(hf:env.frame=some L)
  (he:s.heap.get? e=some oe) (xf:base.StaysIn s.heap) (sL:base.get? e=none) (hd:oe.data=.fields vs) (h0:vs[0]?=some a0) (h2:vs[2]?=some c)
  (h:∀h',Heap.NotedW base (env::outer) e oe.cls a0 (rawInt L) s.heap h'→oZ c e h'→Q () { s with heap:=h' }) :
  wpAny M A (do let x ← frameOf env;let y ← entryPlaceOf L nx;let z ← EntryCells.newEntry head x .none (rawInt L) .none y;setField (.ref e) 1 z) Q E s:=by
 have hsz:1<vs.size:=by have:=(Array.getElem?_eq_some_iff.mp h2).1;lia
 have Tj:e∉(env::outer).filterMap (·.frame):=fun m=>by
  obtain⟨_,o,q,n⟩:=hl.mem m
  rw[he] at q;cases q
  exact n vs hd
 refine za (wpAny_frameOf_fun pE hl hf fun g sg=>?_)
 refine za (wpAny_entryPlaceOf fun pl jl=>?_)
 unfold EntryCells.newEntry newFields
 refine za (yx ?_ (jl.sizeOk5 _ _ _ _ _))
 have g1:g.get? e=some oe:=(sg.2.1 e Tj).trans he
 have kg:base.StaysIn g:=fun b o q=>(sg.2.1 b fun m=>by rw[(hl.mem m).1] at q;cases q).trans (xf b o q)
 have t3:((([head,.ref L,.none,rawInt L,.none]++(if pl.isEmpty then List.replicate 6 Value.none else pl)).toArray:Array Value))[3]?=some (rawInt L):=by
  rcases jl with rfl|⟨_,_,_,_,_,_,_,rfl⟩ <;> simp
 generalize Wt:(([head,.ref L,.none,rawInt L,.none]++(if pl.isEmpty then List.replicate 6 Value.none else pl)).toArray:Array Value)=ts at t3
 have g2:=zc (h:=g) { cls:=.type "traceback",dict:=none,data:=.fields ts } g1
 refine wpAny_setField g2 hd hsz (h _ ?_ ?_)
 ·have ne:g.objs.size≠e:=yo (zw g1)
  have d3:=yd hd (·.setIfInBounds 1 (Value.ref g.objs.size))
  have e3:=ya (Obj.mapFields (·.setIfInBounds 1 (Value.ref g.objs.size))) g2 (yp d3)
  have T3:=(zZ (g.push { cls:=.type "traceback",dict:=none,data:=.fields ts }) (Obj.mapFields (·.setIfInBounds 1 (Value.ref g.objs.size))) (Ne.symm ne)).trans (zo g rfl)
  have keep:∀b o,b≠e→g.get? b=some o→((g.push { cls:=.type "traceback",dict:=none,data:=.fields ts }).update e (Obj.mapFields (·.setIfInBounds 1 (Value.ref g.objs.size)))).get? b=some o:=fun b o n q=>by
   rw[zZ _ _ (Ne.symm n)]
   exact zc _ q
  have nz:∀b o,s.heap.get? b=some o→(∀vs,o.data≠.fields vs)→b≠e:=fun b o q n z=>by
   rw[z,he] at q;cases q
   exact n vs hd
  refine⟨fun b o q=>keep b o (fun z=>by rw[z,sL] at q;cases q) (kg b o q),hl.of_keeps fun b o q n=>?_,?_,fun b o q n=>?_⟩
  ·obtain⟨sl,z⟩:=sg.2.2 b o q
   exact⟨_,keep b _ (nz b o q n) z,rfl⟩
  ·exact⟨_,_,g.objs.size,_,_,e3,⟨Obj.cls_mapFields _ _,by rw[Array.getElem?_setIfInBounds_ne (by decide)];exact h0⟩,d3,by simp [hsz],kg.fresh,ne,T3,rfl,t3⟩
  ·obtain⟨sl,z⟩:=sg.2.2 b o q
   exact⟨sl,keep b _ (nz b o q n) z⟩
 ·have d3:=yd hd (·.setIfInBounds 1 (Value.ref g.objs.size))
  exact⟨_,_,ya (Obj.mapFields (·.setIfInBounds 1 (Value.ref g.objs.size))) g2 (yp d3),d3,by rw[Array.getElem?_setIfInBounds_ne (by decide)];exact h2⟩
theorem setC(xf:base.StaysIn s.heap)(sL:base.get? e=none)(hl:s.heap.FunFrames base l)(ht:s.heap.TracedAtW base e cls a0 fl)(hc:oZ c e s.heap)
  (h:∀h',Heap.FlyingW base l e cls a0 h'→s.heap.UpToSlots h'→oZ c e h'→Q () { s with heap:=h' }):wpAny M A (setFlight (.ref e) none) Q E s:=by
 obtain⟨o,vs,T,oT,ts,q,hk,hd,q1,nT,ne,qT,dT,q3⟩:=ht
 obtain⟨o',Ru,q',wM,q2⟩:=hc
 rw[q] at q';cases q'
 rw[hd] at wM;cases wM
 have DN:3<ts.size:=(Array.getElem?_eq_some_iff.mp q3).1
 have xg:∀b,b≠T→(s.heap.update T (Obj.mapFields (·.setIfInBounds 3 ((none:Option Addr).elim Value.none fun f=>rawInt f)))).get? b=s.heap.get? b:=fun b n=>zZ _ _ (Ne.symm n)
 have nz:∀b o,s.heap.get? b=some o→(∀vs,o.data≠.fields vs)→b≠T:=fun b o z n w=>by
  rw[w,qT] at z;cases z
  exact n ts dT
 have qe:=(xg e (Ne.symm ne)).trans q
 unfold setFlight
 refine za (zL q hd q1 ?_)
 rw[if_pos (show (Value.ref T != Value.none)=true by simp)]
 refine wpAny_setField qT dT DN (h _ ⟨fun b o z=>(xg b fun w=>by rw[w,nT] at z;cases z).trans (xf b o z),sL,hl.of_keeps fun b o z n=>⟨o,(xg b (nz b o z n)).trans z,rfl⟩,?_⟩ (fun b o z n=>⟨o.slots,(xg b (nz b o z n)).trans z⟩) ⟨o,vs,qe,hd,q2⟩)
 exact⟨o,vs,T,_,_,qe,hk,hd,q1,nT,ne,ya _ qT (yp (yd dT _)),yd dT _,by simp [DN]⟩
theorem Gp(pE:A.frames=some (env::outer))(hf:env.frame=some L)(xf:base.StaysIn s.heap)(sL:base.get? e=none)(hl:s.heap.FunFrames base (env::outer))(ht:s.heap.TracedAtW base e cls a0 fl)(hc:oZ c e s.heap)
  (h:∀h',Heap.HeldW base (env::outer) e cls a0 L h'→s.heap.UpToSlots h'→oZ c e h'→Q () { s with heap:=h' }):wpAny M A (noteFrame (.ref e) env) Q E s:=by
 by_cases NG:fl=rawInt L
 ·subst NG
  exact wpAny_noteFrame_againW hf ht (h s.heap ⟨xf,sL,hl,ht⟩ (.refl _) hc)
 ·obtain⟨o,vs,T,oT,ts,q,⟨hk,h0⟩,hd,q1,nT,ne,qT,dT,q3⟩:=ht
  obtain⟨o',Ru,q',wM,q2⟩:=hc
  rw[q] at q';cases q'
  rw[hd] at wM;cases wM
  subst hk
  have xg:∀b,b≠T→(s.heap.update T (Obj.mapFields (·.setIfInBounds 3 Value.none))).get? b=s.heap.get? b:=fun b n=>zZ _ _ (Ne.symm n)
  have nz:∀b o,s.heap.get? b=some o→(∀vs,o.data≠.fields vs)→b≠T:=fun b o z n w=>by
   rw[w,qT] at z;cases z
   exact n ts dT
  unfold noteFrame
  simp only [hf]
  refine za (zL q hd q1 ?_)
  rw[if_pos (show (Value.ref T != Value.none)=true by simp)]
  refine za (zL qT dT q3 ?_)
  rw[if_neg (show ¬ ((fl == rawInt L)=true) by simpa using NG)]
  refine za (wpAny_setField qT dT (Array.getElem?_eq_some_iff.mp q3).1 ?_)
  refine Li pE (hl.of_keeps fun b o z n=>⟨o,(xg b (nz b o z n)).trans z,rfl⟩) hf ((xg e (Ne.symm ne)).trans q) (fun b o z=>(xg b fun w=>by rw[w,nT] at z;cases z).trans (xf b o z)) sL hd h0 q2 fun h' x y=>?_
  obtain⟨x1,x2,x3,x4⟩:=x
  exact h h' ⟨x1,sL,x2,x3⟩ (fun b o z n=>x4 b o ((xg b (nz b o z n)).trans z) n) y
theorem BO(pE:A.frames=some (env::outer))(hf:env.frame=some L)(xf:base.StaysIn s.heap)(sL:base.get? e=none)(hl:s.heap.FunFrames base (env::outer))
  (he:s.heap.get? e=some oe) (hd:oe.data=.fields vs) (h0:vs[0]?=some a0) (h1:vs[1]?=some .none) (h2:vs[2]?=some c)
  (h:∀h',Heap.HeldW base (env::outer) e oe.cls a0 L h'→s.heap.UpToSlots h'→oZ c e h'→Q () { s with heap:=h' }):wpAny M A (noteFrame (.ref e) env) Q E s:=by
 unfold noteFrame
 simp only [hf]
 refine za (zL he hd h1 ?_)
 rw[if_neg (by decide)]
 refine Li pE hl hf he xf sL hd h0 h2 fun h' x y=>?_
 obtain⟨x1,x2,x3,x4⟩:=x
 exact h h' ⟨x1,sL,x2,x3⟩ x4 y
theorem BP(pE:A.frames=some (env::outer))(hf:env.frame=some L)(xf:base.StaysIn s.heap)(sL:base.get? e=none)(hl:s.heap.FunFrames base (env::outer))(ht:s.heap.TracedAtW base e cls a0 fl)(hc:oZ c e s.heap)
  (h:∀h',Heap.FlyingW base outer e cls a0 h'→s.heap.UpToSlots h'→oZ c e h'→Q () { s with heap:=h' }):wpAny M A (leaving env (.ref e)) Q E s:=by
 unfold leaving
 refine za (Gp pE hf xf sL hl ht hc fun h' x u y=>?_)
 obtain⟨x1,x2,x3,x4⟩:=x
 refine setC x1 x2 x3 x4 y fun h2 z u2 y2=>?_
 obtain⟨z1,z2,⟨_,_,z3⟩,z4⟩:=z
 exact h h2 ⟨z1,z2,z3,z4⟩ (u.trans u2) y2
theorem Ey(pE:A.frames=some (env::outer))(hf:env.frame=some L)(xf:base.StaysIn s.heap)(sL:base.get? e=none)(hl:s.heap.FunFrames base (env::outer))
  (he:s.heap.get? e=some oe) (hd:oe.data=.fields vs) (h0:vs[0]?=some a0) (h1:vs[1]?=some .none) (h2:vs[2]?=some c)
  (h:∀h',Heap.FlyingW base outer e oe.cls a0 h'→s.heap.UpToSlots h'→oZ c e h'→Q () { s with heap:=h' }):wpAny M A (leaving env (.ref e)) Q E s:=by
 unfold leaving
 refine za (BO pE hf xf sL hl he hd h0 h1 h2 fun h' x u y=>?_)
 obtain⟨x1,x2,x3,x4⟩:=x
 refine setC x1 x2 x3 x4 y fun h2 z u2 y2=>?_
 obtain⟨z1,z2,⟨_,_,z3⟩,z4⟩:=z
 exact h h2 ⟨z1,z2,z3,z4⟩ (u.trans u2) y2
end
theorem aV.get(x:aV P w H h a o):∃u,h.get? a=some u:=by
 cases o with
 |lst xs=>obtain⟨_,_,_,_,e⟩:=x;exact⟨_,e⟩
 |tup xs=>obtain⟨_,_,_,ob,e,_⟩:=x;exact⟨_,e⟩
 |dK kvs=>obtain⟨_,_,_,_,o,_,_,e,_⟩:=x;exact⟨_,e⟩
 |dT kvs=>exact False.elim x
 |set S n=>obtain⟨o,_,_,_,e,_⟩:=x;exact⟨_,e⟩
 |ins C dx fs=>obtain⟨_,_,_,e,_⟩:=x;exact⟨_,e⟩
 |own y=>obtain⟨_,e⟩:=x;exact⟨_,e⟩
 |xd fs=>obtain⟨_,⟨_,_,_,e,_⟩,_⟩:=x;exact⟨_,e⟩
 |Nm lo hi=>obtain⟨_,_,_,e⟩:=x;exact⟨_,e⟩
 |kM ob u=>obtain⟨e,_⟩:=x;exact⟨_,e⟩
 |sS ps=>exact⟨_,show h.get? a=some _ from x⟩
 |met f y=>exact⟨_,show h.get? a=some _ from x⟩
 |ext φ=>obtain⟨_,e,_⟩:=x;exact e
structure mr(P:Program)(w:World)(mg:Str→Option Value)(outer:List Env)(H H':Hp)(h0:Heap)(a:Addr)(cls a0:Value)(B h:Heap):Prop where
 fl:Heap.FlyingW B outer a cls a0 h
 aF:jk P w H' B
 keep:∀b o,h0.get? b=some o→H b=none→b∉hV outer→B.get? b=some o
 there:∀b o,h0.get? b=some o→b∉hV outer→∃o',B.get? b=some o'
 slot:∀b o,h0.get? b=some o→b∈hV outer→∃sl,h.get? b=some { o with slots:=sl }
 free:∀b o,h0.get? b=some o→H b=none→H' b=none
 eP:∀b xs,H b=some (.tup xs)→H' b=some (.tup xs)
 ej:∀b o u,H b=some (.kM o u)→H' b=some (.kM o u)
 eu:∀b ps,H b=some (.sS ps)→∃more,H' b=some (.sS (ps++more))
 cx:oZ .none a h∨mg "NoMark" = some cls
section
variable{P:Program}{w:World}{mg:Str→Option Value}{outer:List Env}{H H':Hp}{h0:Heap}{a:Addr}{cls a0:Value}{B h h2:Heap}
theorem mr.un(F:mr P w mg outer H H' h0 a cls a0 B h):Un (hV outer) [] H H' h0 h where
 keep:=fun b o e n hf _=>F.fl.1 b o (F.keep b o e n hf)
 slot:=fun b o e _ hf _=>F.slot b o e hf
 free:=fun b o e n _=>F.free b o e n
 there:=fun b o e _=>by
  by_cases hf:b∈hV outer
  ·obtain⟨sl,q⟩:=F.slot b o e hf;exact⟨_,q⟩
  ·obtain⟨o',q⟩:=F.there b o e hf;exact⟨o',F.fl.1 b o' q⟩
 eP:=F.eP
 ej:=F.ej
 eu:=F.eu
theorem mr.Pm(F:mr P w mg outer H H' h0 a cls a0 B h):jk P w H' h:=F.aF.kept F.fl.1
theorem mr.hn(F:mr P w mg outer H H' h0 a cls a0 B h):H' a=none:=by
 cases q:H' a with
 |none=>rfl
 |some o =>
  obtain⟨u,e⟩:=(F.aF a o q).get
  rw[F.fl.2.1] at e;cases e
theorem mr.loose(F:mr P w mg outer H H' h0 a cls a0 B h):mr P w (fun _=>some cls) outer H H' h0 a cls a0 B h:=⟨F.fl,F.aF,F.keep,F.there,F.slot,F.free,F.eP,F.ej,F.eu,.inr rfl⟩
theorem mr.on(F:mr P w mg outer H H' h0 a cls a0 B h)(f2:Heap.FlyingW B outer a cls a0 h2)(u2:h.UpToSlots h2)(c2:oZ .none a h2∨mg "NoMark" = some cls):mr P w mg outer H H' h0 a cls a0 B h2 where
 cx:=c2
 fl:=f2
 aF:=F.aF
 keep:=F.keep
 there:=F.there
 slot:=fun b o e hf=>by
  obtain⟨sl,q⟩:=F.slot b o e hf
  obtain⟨_,o1,q1,hd⟩:=F.fl.2.2.1.mem hf
  obtain⟨vm,q2⟩:=u2 b o1 q1 hd
  rw[q] at q1;cases q1
  exact⟨vm,q2⟩
 free:=F.free
 eP:=F.eP
 ej:=F.ej
 eu:=F.eu
end
def h_(P:Program)(w:World)(mg:Str→Option Value):vk:=fun outer H s E e s' =>
 ∃a cls a0 B H',e=.ref a∧s'.os=s.os∧AllBare s'.gens∧mr P w mg outer H H' s.heap a cls a0 B s'.heap∧E cls none H'
structure bI(X:Cx)(E:XK):Prop where
 ex:X.ex=[]
 st:X.stack=X.env::X.outer
 fr:X.env.frame=some X.env.locals
 xe:∀e s',wpAny (model X.prog X.w) X.A (leaving X.env e) (fun _ y6=>h_ X.prog X.w X.mg X.outer X.sT X.cK E e y6) (fun e' y6=>h_ X.prog X.w X.mg X.outer X.sT X.cK E e' y6) s'→X.xe e s'
theorem qA{P:Program}{w:World}{K:Frag}{mg:Str→Option Value}{base:Heap}{N:List Str}{qual:Str}{scope:Scope}{f:Addr}{cd:Value}{A:Around}{outer:List Env}{s:Shared}{H:Hp}{E:XK} :
  bI (ie (h_ P w mg) P w K mg base N qual scope f cd A outer s H E) E:=⟨rfl,rfl,rfl,fun _ _ h=>h⟩
section
variable{X:Cx}{pins:List (Addr×Obj)}{σ:St}{H H':Hp}{s:Shared}{E E':XK}
theorem bI.mem(L:bI X E):b∈hV X.stack↔b=X.env.locals∨b∈X.fs:=by
 unfold Cx.fs hV
 rw[L.st,List.filterMap_cons,L.fr]
 exact zd
theorem bI.sU(L:bI X E)(I:Inv X pins σ H s)(e:X.cK.heap.get? b=some o)(h:b∉X.fs):b∉hV X.stack:=fun z=>by
 rcases L.mem.mp z with z|z
 ·have:=zw e
  have h2:=I.ok.above
  rw[z] at this
  exact absurd (zm this h2) (yE _)
 ·exact h z
theorem bI.Rw(L:bI X E)(I:Inv X pins σ H s)(F:mr X.prog X.w X.mg X.stack H H' s.heap a cls a0 B h)(f2:Heap.FlyingW B X.outer a cls a0 h2)(u2:h.UpToSlots h2)(c2:oZ .none a h2∨X.mg "NoMark" = some cls) :
  mr X.prog X.w X.mg X.outer X.sT H' X.cK.heap a cls a0 B h2 where
 cx:=c2
 fl:=f2
 aF:=F.aF
 keep:=fun b o e n hf=>F.keep b o (I.base.keep b o e n hf (by rw[L.ex];simp)) (I.base.free b o e n (by rw[L.ex];simp)) (L.sU I e hf)
 there:=fun b o e hf=>by
  obtain⟨o',q⟩:=I.base.there b o e (by rw[L.ex];simp)
  exact F.there b o' q (L.sU I e hf)
 slot:=fun b o e hf=>by
  obtain⟨sl,q⟩:=I.base.slot b o e (I.ok.Bi b hf) hf (by rw[L.ex];simp)
  obtain⟨xh,q1⟩:=F.slot b _ q (L.mem.mpr (.inr hf))
  obtain⟨_,o2,q2,hd⟩:=F.fl.2.2.1.mem (L.mem.mpr (.inr hf))
  obtain⟨vm,q3⟩:=u2 b o2 q2 hd
  rw[q1] at q2;cases q2
  exact⟨vm,q3⟩
 free:=fun b o e n=>by
  obtain⟨o',q⟩:=I.base.there b o e (by rw[L.ex];simp)
  exact F.free b o' q (I.base.free b o e n (by rw[L.ex];simp))
 eP:=fun b xs e=>F.eP b xs (I.base.eP b xs e)
 ej:=fun b o u e=>F.ej b o u (I.base.ej b o u e)
 eu:=fun b ps e=>by
  obtain⟨m1,q1⟩:=I.base.eu b ps e
  obtain⟨m2,q2⟩:=F.eu b _ q1
  exact⟨m1++m2,by rw[q2,Array.append_assoc]⟩
theorem Lj(L:bI X E)(hE:∀c d H',E' c d H'→E c d H'):Passes (h_ X.prog X.w X.mg) X E':=fun pins σ H s e s' I h=>by
 obtain⟨a,cls,a0,B,H',rfl,os,bare,F,q⟩:=h
 refine L.xe _ _ ?_
 have pE:X.A.frames=some (X.env::X.outer):=by rw[I.ok.frames,L.st]
 have fl:Heap.FlyingW B (X.env::X.outer) a cls a0 s'.heap:=by rw[← L.st];exact F.fl
 rcases F.cx with hc|hc
 ·obtain⟨f1,f2,f3,f4⟩:=fl
  exact BP pE L.fr f1 f2 f3 f4.at hc fun h2 f2 u2 c2=>⟨a,cls,a0,B,H',rfl,os.trans I.os,bare,L.Rw I F f2 u2 (.inl c2),hE _ _ _ q⟩
 ·exact wpAny_leaves_onW pE L.fr fl fun h2 f2 u2=>⟨a,cls,a0,B,H',rfl,os.trans I.os,bare,L.Rw I F f2 u2 (.inr hc),hE _ _ _ q⟩
theorem BQ(I:Inv X pins σ H s):jk X.prog X.w H (hideAll s.heap (hV X.stack)):=fun a o e =>
 (I.aF a o e).mX (fun b u hb q=>hideAll_get _ q fun z=>by
  have n:=I.qU b z
  rcases hb with rfl|hb
  ·rw[e] at n;cases n
  ·rw[hb] at n;cases n) (fun _ q=>q) fun _ _ q=>q
theorem vz(L:bI X E)(I:Inv X pins σ H s)(hk:∀b o,s.heap.get? b=some o→h'.get? b=some o)(hn:s.heap.get? a=none)(he:h'.get? a=some oe)(hd:oe.data=.fields vs)
  (h0:vs[0]?=some a0) (h1:vs[1]?=some .none) (h2:vs[2]?=some c) (hc:c=.none∨X.mg "NoMark" = some oe.cls) (hE:E oe.cls none H):X.xe (.ref a) { s with heap:=h' }:=by
 refine L.xe _ _ ?_
 have pE:X.A.frames=some (X.env::X.outer):=by rw[I.ok.frames,L.st]
 have JS:∀env∈X.stack,∀b,env.frame=some b→b∈hV X.stack:=fun env he b hb=>List.mem_filterMap.mpr ⟨env,he,hb⟩
 have ff:s.heap.FunFrames (hideAll s.heap (hV X.stack)) (X.env::X.outer):=by rw[← L.st];exact PySem.W.funFrames_hide I.stack JS
 have hb:(hideAll s.heap (hV X.stack)).get? a=none:=by
  cases z:(hideAll s.heap (hV X.stack)).get? a with
  |none=>rfl
  |some o=>have:=of_hideAll _ z;rw[hn] at this;cases this
 refine Ey (base:=hideAll s.heap (hV X.stack)) pE L.fr (fun b o q=>hk b o (of_hideAll _ q)) hb (ff.of_keeps fun b o q _=>⟨o,hk b o q,rfl⟩) he hd h0 h1 h2 fun h2 x1 x4 c2=>?_
 refine⟨a,oe.cls,a0,_,H,rfl,I.os,I.bare,⟨x1,BQ I,fun b o e n hf=>?_,fun b o e hf=>?_,fun b o e hf=>?_,fun b o e n=>I.base.free b o e n (by rw[L.ex];simp),I.base.eP,I.base.ej,I.base.eu,?_⟩,hE⟩
 ·exact hideAll_get _ (I.base.keep b o e n hf (by rw[L.ex];simp)) (L.sU I e hf)
 ·obtain⟨o',q⟩:=I.base.there b o e (by rw[L.ex];simp)
  exact⟨o',hideAll_get _ q (L.sU I e hf)⟩
 ·obtain⟨sl,q⟩:=I.base.slot b o e (I.ok.Bi b hf) hf (by rw[L.ex];simp)
  obtain⟨_,o2,q2,hd⟩:=I.jf.mem hf
  obtain⟨vm,q3⟩:=x4 b o2 (hk _ _ q2) hd
  rw[q] at q2;cases q2
  exact⟨vm,q3⟩
 ·rcases hc with rfl|hc
  ·exact .inl c2
  ·exact .inr hc
theorem me(L:bI X E)(I:Inv X pins σ H s)(hx:Heap.MadeExcOf s.heap h' a cls args)(hE:E cls none H):X.xe (.ref a) { s with heap:=h' }:=by
 obtain⟨t,he,_,_⟩:=hx.there
 exact vz L I (fun b o q=>hx.keeps b o q) hx.new he rfl rfl rfl rfl (.inl rfl) hE
end
abbrev tG:List Value:=[.type "ValueError",.type "Exception",.type "BaseException",.type "object"]
structure XC(K:Frag)(C:Addr):Prop where
 q:excIn K C tG "ValueError.__new__" = true
def kU(h:Heap)(C:Addr)(bm:List Value):Prop:=∃N nm q bs hdct sn sub ab col dd k0 k1 k2 k3 k5 mN,
 h.get? C=some (excClassObj nm q C N bs bm hdct sn sub ab col dd k0 k1 k2 k3 k5 "ValueError.__new__")∧h.Ns N mN∧mN "__init__" = none∧OwnTail h tG bm
theorem XC.at{K:Frag}{C:Addr}{h:Heap}(x:XC K C)(X:K.In h):∃bm,kU h C bm:=by
 have q:=x.q
 unfold excIn at q
 split at q
 ·rename_i dd cd sl ho
  split at q
  ·rename_i C' bm' k0 k1 k2 k3 n k5 hm hs
   simp only [zj,beq_iff_eq,Bool.not_eq_true'] at q
   obtain⟨⟨⟨⟨⟨q1,q2⟩,Lk⟩,ht⟩,aF⟩,Gq⟩:=q
   subst q1;subst q2
   obtain⟨nm,bs,mro,ns,qn,hd,sn,sub,ab,col,del⟩:=cd
   dsimp only at hm Lk aF Gq
   subst hm;subst Lk
   obtain⟨sl⟩:=sl
   dsimp only at hs
   subst hs
   exact⟨bm',ns,nm,qn,bs,hd,sn,sub,ab,col,dd,k0,k1,k2,k3,k5,_,X _ _ ho,.of_isNs (PySem.W.isNs_of_in X aF),PySem.W.nsMap_none_of_in X aF Gq,PySem.W.tail_of_in X ht⟩
  ·cases q
 ·cases q
theorem kU.base(x:kU h C bm):bm.contains (.type "BaseException")=true:=by
 obtain⟨_,_,_,_,_,_,_,_,_,_,_,_,_,_,_,_,_,_,_,T⟩:=x
 exact T.hasType (by decide)
section
variable{X:Cx}{C D:Addr}{Ll:List Value}{x:Str}{np aJ pos:Pos}{e:Expr}{es:List Expr}{t:TA}{E:XK}
theorem tH{M:Model}{A:Around}{E:Value→Shared→Prop}{h:Heap}{g:Array GenState}{d:Drawn}{tk:Nat}{os:OsState}{a:Addr}{oe:Obj}{b:Bool}{Q:Bool→Shared→Prop}(L:Looks M h (isSubtype (.ref C) (.ref D)) b)(cD:kU h D Ll)
  (he:h.get? a=some oe) (u_:oe.cls=.ref C) (hq:Q b ⟨h,g,d,tk,os⟩):wpAny M A (excMatches (.ref a) (.ref D)) Q E ⟨h,g,d,tk,os⟩:=by
 have Ln:=cD.base
 obtain⟨N',Tn,q',Tp,Lo,Tq,Pn,Tr,Po,Rx,Ts,Tu,Tv,Tw,Tz,TB,hD,_,_,_⟩:=cD
 have HX:(Value.ref D::Ll).contains (.type "BaseException")=true:=by rw[List.contains_cons,Ln,Bool.or_true]
 have f:=tc_notTuple
 unfold excMatches
 repeat (first|(with_reducible refine zX he ?_;rw[u_])|with_reducible refine zX hD ?_|with_reducible refine L.at ?_|(with_reducible refine wpAny_isSubtype_exc hD ?_;rw[HX])|wp_step)
 cases b <;> (wp_walk;exact hq)
end
def jy(a:Addr)(cls:Value):HO:=.ext fun h=>∃o vs,h.get? a=some o∧o.cls=cls∧o.data=.fields vs
section
variable{P:Program}{w:World}{mg:Str→Option Value}{outer:List Env}{H H':Hp}{h0:Heap}{a:Addr}{cls a0:Value}{B h:Heap}
theorem mr.fresh(F:mr P w mg outer H H' h0 a cls a0 B h)(e:h0.get? b=some o):b≠a:=by
 rintro rfl
 by_cases hf:b∈hV outer
 ·obtain⟨_,o1,q1,hd⟩:=F.fl.2.2.1.mem hf
  obtain⟨oe,vs,he,_,TC,_⟩:=F.fl.first
  rw[q1] at he;cases he
  exact hd vs TC
 ·obtain⟨o',q⟩:=F.there b o e hf
  rw[F.fl.2.1] at q;cases q
theorem mr.NH(F:mr P w mg outer H H' h0 a cls a0 B h):Un (hV outer) [] H (upd H' a u) h0 h where
 keep:=F.un.keep
 slot:=F.un.slot
 free:=fun b o e n x=>by rw[aq (F.fresh e)];exact F.un.free b o e n x
 there:=F.un.there
 eP:=fun b xs e=>by
  have q:=F.eP b xs e
  rw[aq (az q F.hn)];exact q
 ej:=fun b o xs e=>by
  have q:=F.ej b o xs e
  rw[aq (az q F.hn)];exact q
 eu:=fun b ps e=>by
  obtain⟨m,q⟩:=F.eu b ps e
  exact⟨m,by rw[aq (az q F.hn)];exact q⟩
theorem mr.Ez(F:mr P w mg outer H H' h0 a cls a0 B h):jk P w (upd H' a (jy a cls)) h:=fun b u e=>by
 by_cases hb:b=a
 ·subst hb
  rw[aU] at e;cases e
  obtain⟨oe,vs,he,hc,hd,_⟩:=F.fl.first
  exact⟨⟨oe,vs,he,hc,hd⟩,⟨oe,he⟩,by rintro h1 h2 ⟨o,vs,q,r⟩ k;exact⟨o,vs,k o q,r⟩⟩
 ·rw[aq hb] at e
  exact (F.Pm b u e).mX (fun _ _ _ q=>q) (fun c q=>by rw[aq (az q F.hn)];exact q) fun c xs q=>by rw[aq (az q F.hn)];exact q
end
def XE(X:Cx)(pins:List (Addr×Obj))(E:St→XK)(e:Value)(s':Shared):Prop:=∃ay H1 s1,Inv X pins ay H1 s1∧h_ X.prog X.w X.mg X.stack H1 s1 (E ay) e s'
abbrev TX:=(St→XK)→TS
def HY(X:Cx)(st:List Stmt)(t:TX):Prop :=
 ∀(pins:List (Addr×Obj)) (s:Shared) (σ:St) (H:Hp) (D:Ends) (E:St→XK),Inv X pins σ H s→t E D σ H→wpAny (model X.prog X.w) X.A (execs st X.env) (SP X pins D) (XE X pins E) s
section
variable{X:Cx}{CX:vk}{k:Nat}{f C:Addr}{fd:FuncData}{ps:List Str}{sp:Sp}{yZ:List V}{ds:List Value}{E:XK}{x m:Str}{p pos apos:Pos}{e o:Expr}{es:List Expr}{ta:TE}{t:TA}
end
section
variable{X:Cx}{e:Expr}{pos:Pos}{te:XK→TE}
end
abbrev Cx.fm(X:Cx)(a:Addr):Cx:={ X with A:=X.A.mark (some (.ref a)),calm:=false,xe:=fun _ _=>False }
section
variable{X:Cx}{pins:List (Addr×Obj)}{σ:St}{H:Hp}{s:Shared}
theorem Cx.Ok.fm(ok:X.Ok)(a:Addr):(X.fm a).Ok :=
 ⟨ok.mod,ok.kind,ok.glob,ok.blt,ok.above,ok.inj,ok.has,ok.G3,fun z=>(nomatch (show false=true from z)),ok.frames,ok.JJ,ok.Nq,ok.bs,ok.Bh,ok.u7,ok.yP,ok.jf,ok.Bi⟩
theorem Inv.fm(I:Inv X pins σ H s)(a:Addr):Inv (X.fm a) pins σ H s:=⟨I.ok.fm a,I.os,I.bare,I.base,I.loc,I.cell,I.free,I.eQ,I.pin,I.aF,I.len⟩
theorem Inv.rl(I:Inv (X.fm a) pins σ H s)(ok:X.Ok):Inv X pins σ H s:=⟨ok,I.os,I.bare,I.base,I.loc,I.cell,I.free,I.eQ,I.pin,I.aF,I.len⟩
theorem name_goes(I:Inv X pins σ H s)(hN:X.N.Nodup)(hi:X.N[i]?=some n)(hx:X.env.scope.names.lookup n=some .local)
  (h:∀s',Inv X pins (σ.set i none) H s'→Q () s'):wpAny M A (do bindName X.env n .none;unbindBehindTheSuite X.env n pos) Q E s:=by
 obtain⟨m,hn,hl⟩:=id I.loc
 have u_:(X.env.scope.kind == .class || (X.env.scope.kind == .module && X.env.locals != X.env.globals))=false:=by rw[I.ok.kind];rfl
 have D1:i<σ.length:=by rw[I.len];exact (yc.mp hi).1
 have old:∀b o,X.cK.heap.get? b=some o→b≠X.env.locals:=fun b o e=>zI (zm (zw e) I.ok.above)
 refine wpAny_nameGoes_keeps hx hn u_ fun h' v Om hs=>h _ ?_
 refine⟨I.ok,I.os,I.bare,⟨fun b o e n hb hx=>(hs.2 b (old b o e)).trans (I.base.keep b o e n hb hx),fun b o e n hb hx=>?_,I.base.free,fun b o e hx=>?_,I.base.eP,I.base.ej,I.base.eu⟩,⟨_,Om,fun j y v' e1 e2 e3=>?_⟩,fun y c e=>?_,I.free,I.eQ,fun p hp=>?_,fun b ob e=>?_,by simpa using I.len⟩
 ·obtain⟨sl,e1⟩:=I.base.slot b o e n hb hx
  exact⟨sl,(hs.2 b (old b o e)).trans e1⟩
 ·obtain⟨o',e1⟩:=I.base.there b o e hx
  exact⟨o',(hs.2 b (old b o e)).trans e1⟩
 ·have hj:j≠i:=by
   rintro rfl
   rw[List.getElem?_set_self D1] at e2
   cases e2
  rw[List.getElem?_set_ne (Ne.symm hj)] at e2
  obtain⟨u',r',q⟩:=hl j y v' e1 e2 e3
  refine⟨u',r',?_⟩
  have hy:y≠n:=fun e=>hj (mY hN e1 (e ▸ hi))
  rcases q with ⟨k,e⟩|⟨k,c,e,z⟩
  ·exact .inl ⟨k,by show (if y=n then v else m y)=some u';rw[if_neg hy];exact e⟩
  ·exact .inr ⟨k,c,e,z.sameBut hs (I.D0 y c e)⟩
 ·obtain⟨w',z⟩:=I.cell y c e
  exact⟨w',z.sameBut hs (I.D0 y c e)⟩
 ·obtain⟨e,n,ne,nf,d⟩:=I.pin p hp
  exact⟨(hs.2 p.1 ne).trans e,n,ne,nf,d⟩
 ·refine (I.aF b ob e).mX (fun c w' hc q=>(hs.2 c ?_).trans q) (fun _ q=>q) fun _ _ q=>q
  rintro rfl
  rcases hc with z|z
  ·rw[← z,I.free] at e;cases e
  ·rw[I.free] at z;cases z
end
def Ends.less(D:Ends)(i:Nat):Ends:={ nx:=fun σ H=>D.nx (σ.set i none) H,rt:=D.rt,bk:=fun σ H=>D.bk (σ.set i none) H,ct:=fun σ H=>D.ct (σ.set i none) H }
def Pp(K:Frag)(i:Nat)(C0:Addr)(tb:TX)(ts:TS):TS:=fun D σ H =>
 tb (fun ay cls _ H'=>∃C,cls=.ref C∧mroIn K C (.ref C0)=some true∧∀a,H' a=none→ts (D.less i) (ay.set i (some (.ref a))) (upd H' a (jy a (.ref C)))) D σ H
section
variable{X:Cx}{i:Nat}{n x:Str}{C0:Addr}{body tI:List Stmt}{BR:Stmt}{np tJ pos:Pos}{tb:TX}{ts:TS}
theorem HZ(sJ:X.stack=X.env::X.outer)(fr:X.env.frame=some X.env.locals)(hN:X.N.Nodup)(hi:X.N[i]?=some n)(hx:X.env.scope.names.lookup n=some .local)(Pq:Gl X x)(hm:X.mg x=some (.ref C0))(c0:XC X.K C0)
  (hb:HY X body tb) (hs:∀a,wN (X.fm a) (BR::tI) ts) (ng:(x == ("__debug__" : Str))=false:=by decide) :
  PS X (.Try body [.ExceptHandler (some (.Name x np)) (some n) (BR::tI) tJ] [] [] pos) (Pp X.K i C0 tb ts):=by
 intro pins s σ H D I h
 refine wpAny_Try_except (zY (hb pins s σ H D _ I h) (fun f s1 q=>?_) fun e s1 q=>?_)
 ·cases f with
  |next =>
   obtain⟨ay,H',I',q⟩:=q
   exact qV pins s1 ay H' D I' q
  |ret v=>exact q
  |brk=>exact q
  |cont=>exact q
 ·obtain⟨ay,H1,s2,I2,a,cls,a0,B,H',rfl,os,bare,F,C,rfl,H9,hq⟩:=q
  have pE:X.A.frames=some (X.env::X.outer):=by rw[I.ok.frames,sJ]
  have fl:Heap.FlyingW B (X.env::X.outer) a (.ref C) a0 s1.heap:=by rw[← sJ];exact F.fl
  refine wpAny_looks_onW pE fr fl fun h4 Lp u4=>?_
  refine wpAny_landsW Lp fun h5 f5 u5=>?_
  have F5:mr X.prog X.w (fun _=>some (.ref C)) X.stack H1 H' s2.heap a (.ref C) a0 B h5:=F.loose.on (by rw[sJ];exact f5) (u4.trans u5) (.inr rfl)
  have I5:Inv X pins ay (upd H' a (jy a (.ref C))) { s1 with heap:=h5 }:=I2.sV (ch:=[]) os F5.NH F5.Ez bare fun b z=>absurd z (by simp)
  refine wpAny_handleBy_cons (codeAny_handlers_test (gm (I5.fm a) Pq hm ?_ ng)) (by intro q;cases q)
  obtain⟨oe,vs,he,hc,hd,_⟩:=F5.fl.first
  obtain⟨Wu,TF⟩:=c0.at I5.oX
  refine tH (looks_mroIn I5.oX H9) TF he hc ?_
  refine codeAny_handlers_suite_as ?_
  refine lands_againW f5 fun h6 f6 u6=>?_
  have F6:mr X.prog X.w (fun _=>some (.ref C)) X.stack H1 H' s2.heap a (.ref C) a0 B h6:=F5.on (by rw[sJ];exact f6) u6 (.inr rfl)
  have I6:Inv X pins ay (upd H' a (jy a (.ref C))) { s1 with heap:=h6 }:=I2.sV (ch:=[]) os F6.NH F6.Ez bare fun b z=>absurd z (by simp)
  refine mZ (X:=X.fm a) (I6.fm a) hN hi (.inl hx) (v:=.ref a) rfl (fun s7 I7=>?_) (.inr hx)
  refine zY (hs a pins s7 _ _ _ I7 (hq a F.hn)) (fun f s8 q8=>?_) fun _ _ z=>False.elim z
  cases f with
  |next =>
   obtain⟨EA,H8,I8,q8⟩:=q8
   exact name_goes (I8.rl I.ok) hN hi hx fun s9 I9=>⟨_,H8,I9,q8⟩
  |brk =>
   obtain⟨EA,H8,I8,q8⟩:=q8
   exact name_goes (I8.rl I.ok) hN hi hx fun s9 I9=>⟨_,H8,I9,q8⟩
  |cont =>
   obtain⟨EA,H8,I8,q8⟩:=q8
   exact name_goes (I8.rl I.ok) hN hi hx fun s9 I9=>⟨_,H8,I9,q8⟩
  |ret u =>
   obtain⟨v,EA,H8,I8,r8,q8⟩:=q8
   exact name_goes (I8.rl I.ok) hN hi hx fun s9 I9=>⟨v,_,H8,I9,r8,q8⟩
end
section
variable{P:Program}{w:World}{K:Frag}{mg:Str→Option Value}{base:Heap}
end
structure XA(K:Frag)(C:Addr):Prop where
 ga:findIn K (.ref C) "__getattribute__" = some (some (.builtin "BaseException.__getattribute__"))
 gh:findIn K (.ref C) "__getattr__" = some none
 cl:findIn K (.ref C) "__class__" = some (some (.builtin "object.__class__"))
section
variable{prog:Program}{w:World}{A:Around}{E:Value→Shared→Prop}{h:Heap}{g:Array GenState}{d:Drawn}{t:Nat}{os:OsState}{a:Addr}{o:Obj}{C:Addr}{bm:List Value}{K:Frag}
theorem H_(c:kU h C bm)(Ia:bm.contains (.type "object")=true)(hx:h.get? a=some o)(hc:o.cls=.ref C)(hq:R (.ok (.ret (.ref C))) ⟨h,g,d,t,os⟩) :
  codeAny (model prog w) A (.call (.builtin "getset_descriptor.__get__") ⟨[.builtin "object.__class__",.ref a,.ref C],[]⟩) R ⟨h,g,d,t,os⟩:=by
 obtain⟨N,nm,q,bs,hdct,sn,sub,ab,col,dd,k0,k1,k2,k3,k5,mN,hC,_,_,_⟩:=c
 have NI:(⟨h,g,d,t,os⟩:Shared).TypeIs (.builtin "object.__class__") "getset_descriptor" := F.typeOf_object_class
 have ow : ".".intercalate ("object.__class__".cutAt '.').dropLast = "object" := by trivial
 have HX:(Value.ref C::bm).contains (.type (".".intercalate ("object.__class__".cutAt '.').dropLast))=true:=by rw[ow,List.contains_cons,Ia,Bool.or_true]
 refine codeAny_call_builtin F.slot_gs_get.plain F.entry_gs_get (F.slot_gs_get.check _ _ _ _ _ _ _ _ NI (F.args_gs_get _ _ _) ?_)
 repeat (any_goals (first|assumption|(with_reducible refine zX hx ?_;rw[hc])|(with_reducible refine wpAny_isSubtype_exc hC ?_;rw[HX])|wp_step))
 refine⟨Code.quiet_builtin _ (by trivial),codeAny_builtin F.entry_object_class ?_⟩
 repeat (any_goals (first|assumption|(with_reducible refine zX hx ?_;rw[hc])|wp_step))
theorem BS(c:kU h C bm)(hx:h.get? a=some o)(hc:o.cls=.ref C)(hq:Q () ⟨h,g,d,t,os⟩):wpAny M A (checkBuiltinCall "BaseException.__getattribute__" ⟨[.ref a,nameV],[]⟩) Q E ⟨h,g,d,t,os⟩:=by
 have hb:=c.base
 obtain⟨N,nm,q,bs,hdct,sn,sub,ab,col,dd,k0,k1,k2,k3,k5,mN,hC,_,_,_⟩:=c
 have k1:builtinKind "BaseException.__getattribute__" = some .slot:=by trivial
 have k2:splitId "BaseException.__getattribute__" = some ("BaseException","__getattribute__"):=by trivial
 have hB:(Value.ref C::bm).contains (.type "BaseException")=true:=by rw[List.contains_cons,hb,Bool.or_true]
 have ha:=F.args_bexc_ga (.ref a) nameV
 simp only [checkBuiltinCall,k1,k2]
 refine za ?_
 unfold isInstance
 repeat (first|(with_reducible refine zX hx ?_;rw[hc])|(with_reducible refine wpAny_isSubtype_exc hC ?_;rw[hB])|wp_step)
 exact hq
theorem BU(X:K.In h)(xa:XA K C)(c:kU h C bm)(Ia:bm.contains (.type "object")=true)(hx:h.get? a=some o)(hc:o.cls=.ref C)(hq:Q (.done (.ret (.ref C))) ⟨h,g,d,t,os⟩) :
  wpAny (model prog w) A (Builtin.«object.__getattribute__» ⟨[.ref a,.str "__class__" tk],[]⟩) Q E ⟨h,g,d,t,os⟩:=by
 have NI:(⟨h,g,d,t,os⟩:Shared).TypeIs (.builtin "object.__class__") "getset_descriptor" := F.typeOf_object_class
 have L1:=looks_findIn (M:=model prog w) X xa.cl
 have f5:=F.typeOf_object_class
 have f6:=F.slot_gs_get.lookup
 have f7:=F.slot_gs_set.lookup
 repeat (any_goals (first|assumption|(with_reducible refine zX hx ?_;rw[hc])|with_reducible refine L1.at ?_|wp_step))
 refine H_ c Ia hx hc ?_
 repeat (any_goals (first|assumption|wp_step))
theorem Lq(X:K.In h)(xa:XA K C)(c:kU h C bm)(Ia:bm.contains (.type "object")=true)(hx:h.get? a=some o)(hc:o.cls=.ref C)(hq:Q (.ref C) ⟨h,g,d,t,os⟩) :
  wpAny (model prog w) A (getAttrBy (.ref a) (.str "__class__" tk) false) Q E ⟨h,g,d,t,os⟩:=by
 have FB:=F.attrBase_ValueError
 have f3:=FB.ga.bind (.ref a)
 have L1:=looks_findIn (M:=model prog w) X xa.ga
 have L2:=looks_findIn (M:=model prog w) X xa.gh
 have NJ:(Value.builtin "BaseException.__getattribute__" == Value.builtin "object.__getattribute__")=false:=by trivial
 have Wv:(false && onTheHeap (Value.builtin "BaseException.__getattribute__"))=false:=rfl
 have Ls:(onTheHeap (Value.ref C) && Value.builtin "BaseException.__getattribute__" == Value.builtin "object.__getattribute__")=false:=by rw[NJ];rfl
 repeat (any_goals (first|assumption|(with_reducible refine zX hx ?_;rw[hc])|with_reducible refine L1.at ?_|with_reducible refine L2.at ?_|wp_step))
 refine codeAny_call_builtin FB.ga.plain F.entry_bexc_ga (BS c hx hc (BU X xa c Ia hx hc ?_))
 repeat (any_goals (first|assumption|wp_step))
theorem BV(X:K.In h)(xa:XA K C)(c:kU h C bm)(Ia:bm.contains (.type "object")=true)(hx:h.get? a=some o)(hc:o.cls=.ref C)(hq:Q (some (.ref C)) ⟨h,g,d,t+1,os⟩) :
  wpAny (model prog w) A (getAttr? (.ref a) "__class__") Q E ⟨h,g,d,t,os⟩:=by
 unfold getAttr? getAttrBy?
 repeat (any_goals (first|assumption|with_reducible apply Lq X xa c Ia hx hc|wp_step))
end
theorem kU.obj(x:kU h C bm):bm.contains (.type "object")=true:=by
 obtain⟨_,_,_,_,_,_,_,_,_,_,_,_,_,_,_,_,_,_,_,T⟩:=x
 exact T.hasType (by decide)
theorem tK{K:Frag}{a C:Addr}(c:XC K C)(xa:XA K C):KitX K (.ref a) (.ref C) (fun h=>∃o vs,h.get? a=some o∧o.cls=.ref C∧o.data=.fields vs) where
 ty:=by
  rintro M h X ⟨o,vs,hx,hc,_⟩
  exact hc ▸ (PySem.W.Looks.ld hx).andThen .now
 it:=fun M h X _=>by
  obtain⟨bm,N,nm,q,bs,hdct,sn,sub,ab,col,dd,k0,k1,k2,k3,k5,mN,hC,_,_,_⟩:=c.at X
  intro A Q E s k q
  unfold isType loadHead
  exact za (wpAny_loadPart (k _ _ hC) (zi q))
 ne:=fun h tp dd ak n sl X TH=>by
  obtain⟨bm,N,nm,q,bs,hdct,sn,sub,ab,col,Rx,k0,k1,k2,k3,k5,mN,hC,_,_,_⟩:=c.at X
  refine Bool.eq_false_iff.mpr fun z=>?_
  have e:C=tp:=Value.ref.inj (beq_iff_eq.mp z)
  subst e
  have q:=congrArg (fun x=>x.map (·.cls)) (hC.symm.trans TH)
  have q:some (Value.type "type")=some (Value.type "tuple"):=q
  exact absurd q (by decide)
 ca:=fun {prog w A E Q s} X ⟨o,vs,hx,hc,_⟩ k=>by
  obtain⟨h,g,d,t,os⟩:=s
  obtain⟨bm,c'⟩:=c.at X
  exact BV X xa c' c'.obj hx hc k
section
variable{X:Cx}
theorem rm:dA X (.builtin "isinstance") (fun xs H Q=>∃a C c u b,xs=[.ref a,c]∧H a=some (jy a (.ref C))∧XC X.K C∧XA X.K C∧RelV c u∧(∀u',RelV c u'→u'=u)∧kitOne X.K (.ref C) u=some b∧Q (.bl b) H):=by
 intro pins s σ H xs us Q I r h
 obtain⟨a,C,c,u,b,rfl,ha,cC,xa,rc,uc,e,q⟩:=h
 obtain⟨v,w',rfl,rv,qZ⟩:=vals2 r
 have:=uc w' qZ
 subst this
 cases (show v=Value.ref a from rv)
 obtain⟨p,_⟩:=I.aF a _ ha
 exact kia_one (tK cC xa) I.oX p e (fun z=>nomatch z) fun tk=>⟨.bl b,H,I.tok tk,rfl,q⟩
end
section
variable{X:Cx}
theorem Gr(L:bI X E):Passes (h_ X.prog X.w X.mg) X E:=Lj L fun _ _ _ h=>h
end
theorem jr{X:Cx}{K:Frag}(hK:X.K=K):dA X (.builtin "isinstance") (fun xs H Q=>∃a C c u b,xs=[.ref a,c]∧H a=some (jy a (.ref C))∧XC K C∧XA K C∧RelV c u∧(∀u',RelV c u'→u'=u)∧kitOne K (.ref C) u=some b∧Q (.bl b) H):=by
 subst hK
 exact rm
theorem pF:bootBuiltins "ValueError" = some (.type "ValueError"):=PyProof.Rows.Boot.«ValueError»
theorem vA:entryFor table "proto.unchain" = some Builtin.«proto.unchain»:=entryFor_of_tree (by kernel_rfl)
section
variable{prog:Program}{w:World}{A:Around}{E:Value→Shared→Prop}{s:Shared}{env:Env}
theorem rn(hc:oZ .none h' s.heap)(hq:Q .none s):wpAny (model prog w) A (runValue (.builtin "proto.unchain" ⟨[.ref e,.ref h',.ref h',.bool false],[]⟩)) Q E s:=by
 obtain⟨o,vs,q1,q2,q3⟩:=hc
 refine wpAny_runValue (codeAny_builtin vA ?_)
 unfold Builtin.«proto.unchain»
 refine za (zL q1 q2 q3 ?_)
 rw[if_pos (by rfl)]
 exact zi hq
theorem tL(hh:A.handled=some (.ref hd))(sM:hd≠e)(xc:oZ .none hd s.heap)(he:s.heap.get? e=some o)(wM:o.data=.fields vs)(hz:2<vs.size)
  (h:E (.ref e) { s with heap:=s.heap.update e (Obj.mapFields (·.setIfInBounds 2 (.ref hd))) }):wpAny (model prog w) A (raiseNew (.ref e):Sem α) Q E s:=by
 unfold raiseNew
 refine za (wpAny_handled ?_)
 rw[hh]
 show wpAny _ _ (if (Value.ref hd != Value.ref e)=true then _ else _) _ _ _
 rw[if_pos (by simpa using sM)]
 refine za (yn (rn xc ?_))
 exact za (wpAny_setField he wM hz (wpAny_throw h))
end
section
variable{prog:Program}{w:World}{A:Around}{E:Value→Shared→Prop}{s:Shared}{env:Env}
variable{nm q:Str}{C N:Addr}{bs bm:List Value}{hdct:Bool}{sn:List Str}{sub:List Value}{ab:Bool}{col:Option Bool}{dd:Option Addr}{k0 k1 k2 k3 k5:Option Value}{newId:String}
theorem Ib(ik:bm.contains (.type "BaseException")=true)(hh:A.handled=some (.ref hd))
  (Pr:∀(Q:Value→Shared→Prop) (s:Shared),Q .none s→wpAny (model prog w) A cau Q E s)
  (h:wpAny (model prog w) A x (fun v aG=>∃e t,v=.ref e∧hd≠e∧oZ .none hd aG.heap∧aG.heap.get? C=some (excClassObj nm q C N bs bm hdct sn sub ab col dd k0 k1 k2 k3 k5 newId) ∧
   aG.heap.get? e=some { cls:=.ref C,data:=.fields #[.ref t,.none,.none,.none,.bool false,.none] } ∧
   ∀h',h'.get? e=some { cls:=.ref C,data:=.fields #[.ref t,.none,.ref hd,.none,.bool true,.none] }→(∀b o,b≠e→aG.heap.get? b=some o→h'.get? b=some o)→E (.ref e) { aG with heap:=h' }) E s) :
  wpAny (model prog w) A (raiseStmt env (some x) (some cau)) Q E s:=by
 have HX:(Value.ref C::bm).contains (.type "BaseException")=true:=by rw[List.contains_cons,ik,Bool.or_true]
 unfold raiseStmt
 refine za (zY h (fun v aG kT=>?_) fun _ _ x=>x)
 obtain⟨e,t,rfl,sM,xc,hC,he,hE⟩:=kT
 obtain⟨hp,g,d,tk,os⟩:=aG
 have Ww:C≠e:=fun z=>by
  rw[z,he] at hC
  have:=congrArg (fun o:Option Obj=>o.map (·.data)) hC
  revert this;unfold excClassObj;intro this
  cases this
 refine za (yn (Pr _ _ ?_))
 refine za (zi ?_)
 refine za (yn ?_)
 repeat (first|with_reducible refine zX he ?_|with_reducible refine zX hC ?_|(with_reducible refine wpAny_isSubtype_exc hC ?_;rw[HX])|wp_step)
 have ha:hp.get? e=some { cls:=.ref C,data:=.fields #[.ref t,.none,.none,.none,.bool false,.none] }:=he
 have h1:=ya (Obj.mapFields fun x=>x.setIfInBounds 3 Value.none) ha (yp (yd rfl _))
 have h2:=ya (Obj.mapFields fun x=>x.setIfInBounds 4 (Value.bool true)) h1 (yp (yd rfl _))
 have o2:∀b,b≠e→((hp.update e (Obj.mapFields fun x=>x.setIfInBounds 3 Value.none)).update e (Obj.mapFields fun x=>x.setIfInBounds 4 (Value.bool true))).get? b=hp.get? b:=fun b n =>
  (zZ _ _ (Ne.symm n)).trans (zZ _ _ (Ne.symm n))
 refine tL hh sM ?_ h2 rfl (by simp) (hE _ ?_ fun b o n q=>?_)
 ·obtain⟨o,vs,q1,q2,q3⟩:=xc
  exact⟨o,vs,(o2 hd sM).trans q1,q2,q3⟩
 ·exact ya (Obj.mapFields fun x=>x.setIfInBounds 2 (Value.ref hd)) h2 (yp (yd rfl _))
 ·exact (zZ _ _ (Ne.symm n)).trans ((o2 b n).trans q)
end
section
variable{M:Model}{A:Around}{E:Value→Shared→Prop}{s:Shared}{base:Heap}{env:Env}{outer:List Env}{L e:Addr}{a0 c fl:Value}
theorem FlyingW.keeps(f:Heap.FlyingW B l e cls a0 h)(k:∀b o,h.get? b=some o→h'.get? b=some o):Heap.FlyingW B l e cls a0 h':=by
 obtain⟨f1,f2,f3,o,vs,T,oT,ts,q,hk,hd,q1,nT,ne,qT,dT,q3⟩:=f
 exact⟨fun b o z=>k b o (f1 b o z),f2,f3.of_keeps fun b o z _=>⟨o,k b o z,rfl⟩,o,vs,T,oT,ts,k _ _ q,hk,hd,q1,nT,ne,k _ _ qT,dT,q3⟩
theorem oZ.keeps(x:oZ c e h)(k:∀b o,h.get? b=some o→h'.get? b=some o):oZ c e h':=by
 obtain⟨o,vs,q,r⟩:=x
 exact⟨o,vs,k _ _ q,r⟩
theorem Lu(hf:env.frame=some L)(xf:base.StaysIn s.heap)(sL:base.get? e=none)(hl:s.heap.FunFrames base l)(ht:s.heap.TracedAtW base e cls a0 fl)(hc:oZ c e s.heap)
  (h:∀h',Heap.HeldW base l e cls a0 L h'→s.heap.UpToSlots h'→oZ c e h'→E (.ref e) { s with heap:=h' }):cameBackBy M A env E (.ref e) s:=by
 obtain⟨o,vs,T,oT,ts,q,hk,hd,q1,nT,ne,qT,dT,q3⟩:=ht
 obtain⟨o',Ru,q',wM,q2⟩:=hc
 rw[q] at q';cases q'
 rw[hd] at wM;cases wM
 have DN:3<ts.size:=(Array.getElem?_eq_some_iff.mp q3).1
 have xg:∀b,b≠T→(s.heap.update T (Obj.mapFields (·.setIfInBounds 3 ((some L:Option Addr).elim Value.none fun f=>rawInt f)))).get? b=s.heap.get? b:=fun b n=>zZ _ _ (Ne.symm n)
 have nz:∀b o,s.heap.get? b=some o→(∀vs,o.data≠.fields vs)→b≠T:=fun b o z n w=>by
  rw[w,qT] at z;cases z
  exact n ts dT
 have qe:=(xg e (Ne.symm ne)).trans q
 unfold cameBackBy
 refine za (zL q hd q1 ?_)
 rw[if_neg (show ¬ ((Value.ref T == Value.none)=true) by simp)]
 rw[hf]
 unfold setFlight
 refine za (zL q hd q1 ?_)
 rw[if_pos (show (Value.ref T != Value.none)=true by simp)]
 refine wpAny_setField qT dT DN (h _ ⟨fun b o z=>(xg b fun w=>by rw[w,nT] at z;cases z).trans (xf b o z),sL,hl.of_keeps fun b o z n=>⟨o,(xg b (nz b o z n)).trans z,rfl⟩,?_⟩ (fun b o z n=>⟨o.slots,(xg b (nz b o z n)).trans z⟩) ⟨o,vs,qe,hd,q2⟩)
 exact⟨o,vs,T,_,_,qe,hk,hd,q1,nT,ne,ya _ qT (yp (yd dT _)),yd dT _,by simp [DN]⟩
end
section
variable{X:Cx}{pins:List (Addr×Obj)}{σ:St}{H H':Hp}{s:Shared}{E E':XK}
theorem Ai(hA:A'.frames=X.A.frames)(L:bI X E)(I:Inv X pins σ H s)(hk:∀b o,s.heap.get? b=some o→h'.get? b=some o)(hn:s.heap.get? a=none)(he:h'.get? a=some oe)(hd:oe.data=.fields vs)
  (h0:vs[0]?=some a0) (h1:vs[1]?=some .none) (h2:vs[2]?=some c) (hc:X.mg "NoMark" = some oe.cls) (hE:E oe.cls none H):notedBy (model X.prog X.w) A' X.env (cameBackBy (model X.prog X.w) X.A X.env X.xe) (.ref a) { s with heap:=h' }:=by
 have pE:X.A.frames=some (X.env::X.outer):=by rw[I.ok.frames,L.st]
 have JS:∀env∈X.stack,∀b,env.frame=some b→b∈hV X.stack:=fun env he b hb=>List.mem_filterMap.mpr ⟨env,he,hb⟩
 have ff:s.heap.FunFrames (hideAll s.heap (hV X.stack)) (X.env::X.outer):=by rw[← L.st];exact PySem.W.funFrames_hide I.stack JS
 have hb:(hideAll s.heap (hV X.stack)).get? a=none:=by
  cases z:(hideAll s.heap (hV X.stack)).get? a with
  |none=>rfl
  |some o=>have:=of_hideAll _ z;rw[hn] at this;cases this
 refine BO (base:=hideAll s.heap (hV X.stack)) (hA.trans pE) L.fr (fun b o q=>hk b o (of_hideAll _ q)) hb (ff.of_keeps fun b o q _=>⟨o,hk b o q,rfl⟩) he hd h0 h1 h2 fun h2 x u2 c2=>?_
 obtain⟨x1,x2,x3,x4⟩:=x
 refine Lu L.fr x1 x2 x3 x4 c2 fun h3 y u3 c3=>L.xe _ _ ?_
 obtain⟨y1,y2,y3,y4⟩:=y
 refine BP pE L.fr y1 y2 y3 y4 c3 fun h4 z u4 c4=>?_
 refine⟨a,oe.cls,a0,_,H,rfl,I.os,I.bare,⟨z,BQ I,fun b o e n hf=>?_,fun b o e hf=>?_,fun b o e hf=>?_,fun b o e n=>I.base.free b o e n (by rw[L.ex];simp),I.base.eP,I.base.ej,I.base.eu,.inr hc⟩,hE⟩
 ·exact hideAll_get _ (I.base.keep b o e n hf (by rw[L.ex];simp)) (L.sU I e hf)
 ·obtain⟨o',q⟩:=I.base.there b o e (by rw[L.ex];simp)
  exact⟨o',hideAll_get _ q (L.sU I e hf)⟩
 ·obtain⟨sl,q⟩:=I.base.slot b o e (I.ok.Bi b hf) hf (by rw[L.ex];simp)
  obtain⟨_,o2,q2,hd⟩:=I.jf.mem hf
  obtain⟨vm,q3⟩:=(u2.trans (u3.trans u4)) b o2 (hk _ _ q2) hd
  rw[q] at q2;cases q2
  exact⟨vm,q3⟩
end
theorem rq{C D D' p:Addr}{Ll Lv:List Value}{M:Model}{A:Around}{E:Value→Shared→Prop}{h:Heap}{g:Array GenState}{d:Drawn}{tk:Nat}{os:OsState}{a:Addr}{oe:Obj}{b b':Bool}{Q:Bool→Shared→Prop}(L:Looks M h (isSubtype (.ref C) (.ref D)) b)(L':Looks M h (isSubtype (.ref C) (.ref D')) b')
  (cD:kU h D Ll) (Ry:kU h D' Lv) (hp:h.get? p=some { cls:=.type "tuple",data:=.seq #[.ref D,.ref D'] })
  (he:h.get? a=some oe) (u_:oe.cls=.ref C) (hq:Q (b || b') ⟨h,g,d,tk,os⟩):wpAny M A (excMatches (.ref a) (.ref p)) Q E ⟨h,g,d,tk,os⟩:=by
 have Ln:=cD.base
 have Pt:=Ry.base
 obtain⟨N',Tn,q',Tp,Lo,Tq,Pn,Tr,Po,Rx,Ts,Tu,Tv,Tw,Tz,TB,hD,_,_,_⟩:=cD
 obtain⟨N2,Wx,q2,Wy,Rz,Wz,TJ,WA,TK,KR,WB,WC,WD,WE,WG,WH,RA,_,_,_⟩:=Ry
 have HX:(Value.ref D::Ll).contains (.type "BaseException")=true:=by rw[List.contains_cons,Ln,Bool.or_true]
 have Pu:(Value.ref D'::Lv).contains (.type "BaseException")=true:=by rw[List.contains_cons,Pt,Bool.or_true]
 have f:=tc_notTuple
 have f2:isSubtype (.type "tuple") (.type "tuple")=pure true:=by rw[isSubtype_type];kernel_rfl
 unfold excMatches
 repeat (first|(with_reducible refine zX he ?_;rw[u_])|(with_reducible refine zX hp ?_;dsimp only)|with_reducible refine zX hD ?_|with_reducible refine zX RA ?_|with_reducible refine L.at ?_|with_reducible refine L'.at ?_|(with_reducible refine wpAny_isSubtype_exc hD ?_;rw[HX])|(with_reducible refine wpAny_isSubtype_exc RA ?_;rw[Pu])|wp_step)
 cases b with
 |true=>wp_walk;exact hq
 |false =>
  repeat (first|with_reducible refine L'.at ?_|wp_step)
  cases b' <;> (wp_walk;exact hq)
section
variable{prog:Program}{w:World}{A:Around}{E:Value→Shared→Prop}{s:Shared}{env:Env}
variable{nm q:Str}{C N:Addr}{bs bm RB:List Value}{hdct:Bool}{sn:List Str}{sub:List Value}{ab:Bool}{col:Option Bool}{dd:Option Addr}{k0 k1 k2 k3 k5:Option Value}{B newId Ie:String}
theorem tM(F:ExcBaseFacts B newId Ie RB)
  (ik:bm.contains (.type "BaseException")=true) (hh:A.handled=some (.ref hd)) (nh:(backTo aJ (starEach args env)).any (·.1)=false) (Gq:mN "__init__" = none)
  (h:wpAny (model prog w) A (eval (.Name x np) env) (fun f aG=>f=.ref C∧wpAny (model prog w) A (evalArgs (.ref C) true (backTo aJ (starEach args env)) [])
   (fun a aW=>a.kw=[]∧a.pos.length≤sizeLine∧aW.heap.get? C=some (excClassObj nm q C N bs bm hdct sn sub ab col dd k0 k1 k2 k3 k5 newId)∧aW.heap.Ns N mN∧OwnTail aW.heap RB bm∧oZ .none hd aW.heap ∧
    ∀h' e t,aW.heap.get? e=none→h'.get? e=some { cls:=.ref C,data:=.fields #[.ref t,.none,.ref hd,.none,.bool true,.none] }→(∀b o,aW.heap.get? b=some o→h'.get? b=some o)→E (.ref e) { aW with heap:=h' }) E aG) E s) :
  wpAny (model prog w) A (exec (.Raise (some (.Call (.Name x np) args [] aJ)) (some (.Constant .none j4 p4)) pos) env) Q E s:=by
 rw[arm_exec_Raise]
 refine za (wpAny_standAt (Ib (C:=C) (nm:=nm) (q:=q) (N:=N) (bs:=bs) (bm:=bm) (hdct:=hdct) (sn:=sn) (sub:=sub) (ab:=ab) (col:=col) (dd:=dd) (k0:=k0) (k1:=k1) (k2:=k2) (k3:=k3) (k5:=k5) (newId:=newId) ik hh (fun Q s hq=>?_) (za (zY (wpAny_Call_ofName (zY h (fun f aG kT=>?_) fun _ _ x=>x)) (fun v Ag Eo=>za (wpAny_standAt (zi Eo))) fun _ _ x=>x))))
 ·exact za (zi (za (wpAny_standAt (zi hq))))
 obtain⟨rfl,kT⟩:=kT
 unfold callWith
 refine za (yn (zY kT (fun a aW BG=>za (wpAny_standAt ?_)) fun _ _ x=>x))
 obtain⟨apos,TL⟩:=a
 obtain⟨TM,hlen,hC,hn,T,xc,BG⟩:=BG
 obtain rfl:TL=[]:=TM
 obtain⟨hp,g,d,tk,os⟩:=aW
 simp only [nh]
 refine za (wpAny_keeperOf_exc hC ?_)
 refine za (wpAny_call_exc_subT (hrest:=hlen) F T hC hn Gq fun h' e hm=>za (yn (wpAny_point (zi ?_))))
 obtain⟨t,ht,_,_⟩:=hm.there
 have sM:hd≠e:=fun z=>by
  obtain⟨o,vs,q,_⟩:=xc
  rw[z] at q
  have:=hm.new
  rw[show hp.get? e=none from this] at q;cases q
 refine⟨e,t,rfl,sM,xc.keeps fun b o q=>hm.keeps b o q,hm.keeps _ _ hC,ht,fun h2 q1 q2=>BG h2 e t hm.new q1 fun b o q=>q2 b o (fun z=>?_) (hm.keeps b o q)⟩
 rw[z,show hp.get? e=none from hm.new] at q;cases q
end
def Lw(K:Frag)(C1 C2 CN:Addr)(E:XK)(tb:TX):TS:=fun D σ H =>
 tb (fun ay cls _ H'=>∃C b1 b2,cls=.ref C∧mroIn K C (.ref C1)=some b1∧mroIn K C (.ref C2)=some b2∧(b1 || b2)=true∧C≠CN∧∀a,H' a=none→E (.ref CN) none (upd H' a (jy a (.ref C)))) D σ H
section
variable{X:Cx}{E:XK}{x1 x2:Str}{C1 C2 CN:Addr}{body:List Stmt}{p1 p2 p3 p4 np tp aJ rp tJ pos:Pos}{j2 j3 j4:Nat}{c:Str}{tb:TX}
theorem EB(L:bI X E)(Pw:Gl X x1)(NK:X.mg x1=some (.ref C1))(c1:XC X.K C1)(Px:Gl X x2)(Py:X.mg x2=some (.ref C2))(c2:XC X.K C2)(hg:Gl X "NoMark")(hm:X.mg "NoMark" = some (.ref CN))(cN:XC X.K CN)(hb:HY X body tb)
  (PB:(x1 == ("__debug__" : Str))=false:=by decide) (hd2:(x2 == ("__debug__" : Str))=false:=by decide) :
  PS X (.Try body [.ExceptHandler (some (.Tuple [.Name x1 p1,.Name x2 p2] j2 tp)) none [.Raise (some (.Call (.Name "NoMark" np) [.Constant (.str c) j3 p3] [] aJ)) (some (.Constant .none j4 p4)) rp] tJ] [] [] pos) (Lw X.K C1 C2 CN E tb):=by
 intro pins s σ H D I h
 refine wpAny_Try_except (zY (hb pins s σ H D _ I h) (fun f s1 q=>?_) fun e s1 q=>?_)
 ·cases f with
  |next =>
   obtain⟨ay,H',I',q⟩:=q
   exact qV pins s1 ay H' D I' q
  |ret v=>exact q
  |brk=>exact q
  |cont=>exact q
 ·obtain⟨ay,H1,s2,I2,a,cls,a0,B,H',rfl,os,bare,F,C,b1,b2,rfl,m1,m2,PC,sM,hq⟩:=q
  have xc:oZ .none a s1.heap:=F.cx.resolve_right fun z=>sM (by rw[hm] at z;cases z;rfl)
  have pE:X.A.frames=some (X.env::X.outer):=by rw[I.ok.frames,L.st]
  have fl:Heap.FlyingW B (X.env::X.outer) a (.ref C) a0 s1.heap:=by rw[← L.st];exact F.fl
  obtain⟨f1,f2,f3,f4⟩:=fl
  refine Gp pE L.fr f1 f2 f3 f4.at xc fun h4 y4 u4 c4=>?_
  obtain⟨y1,y2,y3,y4⟩:=y4
  refine setC y1 y2 y3 y4 c4 fun h5 f5 u5 c5=>?_
  have F5:mr X.prog X.w (fun _=>some (.ref C)) X.stack H1 H' s2.heap a (.ref C) a0 B h5:=F.loose.on (by rw[L.st];exact f5) (u4.trans u5) (.inr rfl)
  have I5:Inv X pins ay (upd H' a (jy a (.ref C))) { s1 with heap:=h5 }:=I2.sV (ch:=[]) os F5.NH F5.Ez bare fun b z=>absurd z (by simp)
  obtain⟨oe,vs,he,hc,hd,_⟩:=F5.fl.first
  refine wpAny_handleBy_cons (codeAny_handlers_test (wpAny_Tuple_spliced ?_)) (by intro q;cases q)
  refine z0 (gm (I5.fm a) Pw NK (z0 (gm (I5.fm a) Px Py (Calls.spliced_nil ⟨by show 2≤sizeLine;decide +kernel,?_⟩) hd2)) PB)
  have kp:∀b o,h5.get? b=some o→(h5.push { cls:=.type "tuple",data:=.seq #[.ref C1,.ref C2] }).get? b=some o:=fun b o q=>zc _ q
  have DL:=I5.oX.keeps kp
  obtain⟨WI,TN⟩:=c1.at DL
  obtain⟨WJ,TQ⟩:=c2.at DL
  refine rq (looks_mroIn DL m1) (looks_mroIn DL m2) TN TQ (zo _ rfl) (kp _ _ he) hc ?_
  rw[PC]
  refine codeAny_handlers_suite ?_
  obtain⟨g1,g2,g3,g4⟩:=FlyingW.keeps f5 kp
  refine setC g1 g2 g3 g4.at (c5.keeps kp) fun h6 f6 u6 c6=>?_
  have F6:mr X.prog X.w (fun _=>some (.ref C)) X.stack H1 H' s2.heap a (.ref C) a0 B h6:=F5.on (by rw[L.st];exact f6) ((Heap.UpToSlots.of_keeps kp).trans u6) (.inr rfl)
  have I6:Inv X pins ay (upd H' a (jy a (.ref C))) { s1 with heap:=h6 }:=I2.sV (ch:=[]) os F6.NH F6.Ez bare fun b z=>absurd z (by simp)
  obtain⟨bm,N,nm,q,bs,hdct,sn,sub,ab,col,dd,k0,k1,k2,k3,k5,mN,hC,hN,Gq,T⟩:=cN.at I6.mod.DL
  have ik:bm.contains (.type "BaseException")=true:=T.hasType (by decide)
  refine wpAny_execs_cons ?_
  refine tM (C:=CN) (nm:=nm) (q:=q) (N:=N) (bs:=bs) (bm:=bm) (hdct:=hdct) (sn:=sn) (sub:=sub) (ab:=ab) (col:=col) (dd:=dd) (k0:=k0) (k1:=k1) (k2:=k2) (k3:=k3) (k5:=k5) (hd:=a) PySem.F.excBase_ValueError (mN:=mN)
   ik rfl rfl Gq (gm (I6.fm a) hg hm ⟨rfl,?_⟩ (by decide))
  refine Calls.evalArgs_plain (z0 (wpAny_Constant_str (k:=j3) (pos:=p3) (Calls.spliced_nil ?_)))
  have I7:=I6.tok (s1.toks+1)
  refine⟨rfl,by show 1≤sizeLine;decide +kernel,I6.bk _ _ hC,hN.keeps I6.bk,T.keeps I6.bk,c6,fun h' e t n1 n2 n3=>?_⟩
  exact Ai (X:=X) (A':=X.A.mark (some (.ref a))) rfl L I7 n3 n1 n2 rfl rfl rfl rfl hm (hq a F.hn)
end
def gw(l:List Str):List Str:=l.foldl (fun c x=>if x∈c then c else c++[x]) []
theorem tN(l:List Str)(x:Str):gw (l++[x])=if x∈gw l then gw l else gw l++[x]:=by
 unfold gw
 rw[List.foldl_append]
 rfl
theorem EC:∀(l:List Str),(gw l).length≤l.length:=fun l=>by
 have all:∀(r c:List Str),(r.foldl (fun c x=>if x∈c then c else c++[x]) c).length≤c.length+r.length:=by
  intro r
  induction r with
  |nil=>intro c;simp
  |cons x r ih =>
   intro c
   rw[yC]
   refine zA (ih _) ?_
   split <;> simp <;> try lia
 simpa [gw] using all l []
section
variable{prog:Program}{w:World}{A:Around}{R:Result→Shared→Prop}{I:Addr}{fp wr:List Addr}{G:Array GenState→Array GenState→Prop}{n:Nat}{P:Nat→Value→Prop}{St:Nat→Shared→Prop}
theorem BW(W:WalksS prog w A.in1 I fp wr G n P St)(S:Addr)(RC:S∉fp)(xs:List Str)(hx:xs.length=n)(Ig:∀i v,P i v→∃x t,xs[i]?=some x∧v=.str x t)(hb:n+1<scanBound) :
  ∀(k i:Nat) (s:Shared),i+k=n→St i s→s.heap.SetOf (strKind prog w) S (fun y=>decide (y∈gw (xs.take i))) (gw (xs.take i)).length →
   (∀s',Moved (S::wr) G s s'→s'.heap.SetOf (strKind prog w) S (fun y=>decide (y∈gw xs)) (gw xs).length→R (.ok (.ret .none)) s') →
   codeAny (model prog w) A (.builtin "set.update.loop" ⟨[.ref S,.ref I],[]⟩) R s:=by
 have nw:S∉wr:=fun h=>RC (W.sub _ h)
 have up:∀b∈wr,b∈S::wr:=fun b hb=>zu _ hb
 have mv:∀{i:Nat}{s s':Shared},Moved wr G s s'→s.heap.SetOf (strKind prog w) S (fun y=>decide (y∈gw (xs.take i))) (gw (xs.take i)).length→s'.heap.SetOf (strKind prog w) S (fun y=>decide (y∈gw (xs.take i))) (gw (xs.take i)).length :=
  fun hm ⟨o,es,ep,tb,ho,rest⟩=>⟨o,es,ep,tb,hm.heap S _ nw ho,rest⟩
 intro k
 induction k with
 |zero =>
  intro i s hk sJ hS hR
  have e:i=n:=by lia
  subst e
  refine codeAny_builtin F.entry_set_update_loop ?_ ;rw[Around.under_plainId F.plain_set_update_loop _]
  show wpAny _ A.in1 (pyNext (.ref I) >>= _) _ _ s ;refine za (W.done s _ _ sJ fun s' hm=>?_)
  show wpAny _ A.in1 (ret Value.none) _ _ s' ;have q:=mv hm hS
  rw[← hx,List.take_length] at q
  exact zi (hR s' (hm.mono up) q)
 |succ k ih =>
  intro i s hk sJ hS hR
  have lt:i<n:=by lia
  refine codeAny_builtin F.entry_set_update_loop ?_ ;rw[Around.under_plainId F.plain_set_update_loop _]
  show wpAny _ A.in1 (pyNext (.ref I) >>= _) _ _ s ;refine za (W.item i s _ _ lt sJ fun v s' hP Ih hm=>?_)
  obtain⟨x,t,ex,rfl⟩:=Ig i v hP
  have q:=mv hm hS
  show wpAny _ A.in1 (holding [Value.str x t] (setAdd S (.str x t)) >>= _) _ _ s'
  refine za (yn ?_) ;unfold setAdd ;refine yn ?_
  refine za ((strKind prog w).pyHash (k:=x) (strKind_is _ _ _ _) ?_)
  have room:(gw (xs.take i)).length+1<scanBound:=by have:=EC (xs.take i);rw[zG] at this;lia
  refine wpAny_setAddHashed_of (knd:=strKind prog w) (s:={ s' with toks:=s'.toks+1 }) (strKind_is _ _ _ _) rfl q room fun h' JT q2=>?_
  have tk:xs.take (i+1)=xs.take i++[x]:=by rw[List.take_succ,ex];rfl
  have qi:h'.SetOf (strKind prog w) S (fun y=>decide (y∈gw (xs.take (i+1)))) (gw (xs.take (i+1))).length:=by
   refine SetOf_congr q2 (fun y=>?_) ?_
   ·rw[tk,tN]
    by_cases h:x∈gw (xs.take i)
    ·rw[if_pos h]
     by_cases hy:y=x
     ·subst hy;simp [h]
     ·simp [hy]
    ·rw[if_neg h];simp
   ·rw[tk,tN]
    by_cases h:x∈gw (xs.take i)
    ·rw[if_pos h,if_pos (by simpa using h)]
    ·rw[if_neg h,if_neg (by simpa using h)];simp
  refine zi ⟨plainId_quiet F.plain_set_update_loop _,ih (i+1) _ (by lia) (W.frame _ s' _ _ Ih (Nat.le_succ _) fun b hb o e=>?_) qi fun y6 Ii PD=>?_⟩
  ·rw[JT.2 b (fun h:b=S=>RC (by rw[← h];exact hb))] ;exact e
  ·refine hR y6 (Moved.trans W.gtrans ((hm.mono up).then_heap (Nat.le_succ _) fun b o hb e=>?_) Ii) PD
   rw[JT.2 b (fun h:b=S=>hb (by rw[h];exact zx))] ;exact e
theorem tO(hh:A.handled=none)(hl:s.heap.IsList l items)(hx:xs.length=items.size)
  (hi:∀(i:Nat) (v:Value),items[i]?=some v→∃x t,xs[i]?=some x∧v=.str x t) (hb:items.size+1<scanBound)
  (h:∀(h':Heap) (tk:Nat),h'.SetOf (strKind prog w) s.heap.objs.size (fun y=>decide (y∈gw xs)) (gw xs).length→(∀b o,b<s.heap.objs.size→s.heap.get? b=some o→h'.get? b=some o)→Q (.ref s.heap.objs.size) { s with heap:=h',toks:=tk }) :
  wpAny (model prog w) A (call (.type "set") [.ref l]) Q E s:=by
 obtain⟨c,tl,m0⟩:=F.called_set.mro ;have m1:=F.called_set.made ;have m2:=F.called_set.sub
 refine wpAny_call (codeAny_of_tree ?_) ;show wpAny _ _ (callAny (.type "set") _) _ _ _
 refine zi ⟨Code.quiet_builtin _ (by trivial),codeAny_builtin F.entry_type_call ?_⟩ ;rw[Around.under_plain (weight_type_call_type "set" [.ref l] []) rfl]
 have m3:=F.called_set.notType ;have m4:=F.called_set.canCreate ;have m5:=F.typeCall_set_1 (.ref l)
 repeat (any_goals (first|assumption|wp_step))
 refine codeAny_mono (code_set_new_1 (.ref l) (E:=E) (Q₁:=fun ob s1=>∃led:Bool,ob=.ref s.heap.objs.size∧s1={ s with heap:=s.heap.push { cls:=.type "set",dict:=none,data:=.set #[] 0 (.fresh 0 0 led) } }) fun led=>⟨led,rfl,rfl⟩) fun r s1 hr=>?_
 cases r with
 |error e=>exact hr
 |ok fl =>
  cases fl with
  |ret ob =>
   obtain⟨led,rfl,rfl⟩:=hr
   generalize hO:({ cls:=.type "set",dict:=none,data:=.set #[] 0 (.fresh 0 0 led) } : Obj)=O
   have gS:(s.heap.push O).get? s.heap.objs.size=some O:=zo _ (by rw[← hO];rfl)
   have tS:Shared.TypeIs { s with heap:=s.heap.push O } (.ref s.heap.objs.size) "set" := ⟨_,gS,by rw[← hO]⟩
   have i1:=F.called_set.init.lookup ;have i2:=F.called_set.init.bind (.ref s.heap.objs.size)
   repeat (any_goals (first|assumption|wp_step))
   refine codeAny_mono (codeAny_call_builtin (R:=wants (fun r s2=>r=.none∧∃h' tk,s2={ s with heap:=h',toks:=tk }∧h'.SetOf (strKind prog w) s.heap.objs.size (fun y=>decide (y∈gw xs)) (gw xs).length∧(∀b o,b<s.heap.objs.size→s.heap.get? b=some o→h'.get? b=some o)) E)
    F.called_set.init.plain F.entry_set_init (check_set_init_1 tS ?_)) fun r2 s2 Ij=>?_
   ·obtain⟨ol,gl,cl,nl,dl⟩:=hl
    obtain⟨TR,Lx,RD,Ik⟩:=ol
    simp only at cl dl ;subst cl ;subst dl
    have Lz:(s.heap.push O).get? l=some { cls:=.type "list",dict:=Lx,data:=.seq items nl,slots:=Ik }:=zc _ gl
    have j1:=F.sub_list_set ;have j2:=F.sub_list_frozenset
    have j3:(Value.type "list" == Value.type "dict")=false:=by decide
    have il:(s.heap.push O).IsList l items:=⟨_,Lz,rfl,nl,rfl⟩
    subst hO
    unfold Builtin.«set.__init__» noKeywords Builtin.Frozenset.updateFrom ;generalize TU:pyIter=PI
    wp_walk
    subst TU ;refine wpAny_pyIter_list il ?_ ;refine za (wpAny_runValue ?_)
    have ll:l<s.heap.objs.size:=zw gl
    have h3:A.in1.in1.in1.handled=none:=by simp [hh]
    have ne:l≠(s.heap.push { cls:=.type "set",dict:=none,data:=.set #[] 0 (.fresh 0 0 led) }).objs.size:=by rw[yf] ;exact zI (Nat.lt_succ_of_lt ll)
    have nf:s.heap.objs.size∉[(s.heap.push { cls:=.type "set",dict:=none,data:=.set #[] 0 (.fresh 0 0 led) }).objs.size,l]:=by
     rw[yf] ;simp only [zd,zT,zq,or_false,not_or] ;exact⟨zI (Nat.lt_succ_self _),yo ll⟩
    refine BW ((Walks.list h3 _ l ne items).toS) s.heap.objs.size nf xs hx hi hb (items.size - 0) 0 _ (by lia) ⟨⟨_,zo _ rfl,rfl,rfl⟩,(il.push _)⟩ ?hS0 ?hR
    case hS0 =>
     have gg:=zc { cls:=.type "list_iterator",data:=.fields #[.ref l,.int 0 0] } gS
     exact SetOf_congr ((setObjOf_fresh (knd:=strKind prog w) led).setOf gg (by unfold scanBound;lia)) (fun _=>rfl) rfl
    case hR =>
     intro s' hm q
     obtain⟨h',g',d',JU,KO⟩:=s'
     have eg:g'=s.gens:=hm.gens ;have ed:d'=s.drawn:=hm.drawn ;have eo:KO=s.os:=hm.os
     subst eg ;subst ed ;subst eo
     show wpAny _ _ _ _ _ _ ;refine zi ?_ ;show wpAny _ _ (ret Value.none) _ _ _
     refine zi ⟨rfl,h',JU,rfl,q,fun b o hb e=>?_⟩
     have b2:b≠(s.heap.push { cls:=.type "set",dict:=none,data:=.set #[] 0 (.fresh 0 0 led) }).objs.size:=by rw[yf] ;exact zI (Nat.lt_succ_of_lt hb)
     refine hm.heap b o ?_ (zc _ (zc _ e))
     simp only [zd,zT,zq,or_false,not_or] ;exact⟨zI hb,b2⟩
   ·cases r2 with
    |error e=>exact Ij
    |ok f2 =>
     cases f2 with
     |ret r =>
      obtain⟨rfl,h',tk,rfl,q,k'⟩:=Ij
      repeat (any_goals (first|assumption|wp_step))
      exact h _ _ q k'
     |_=>exact Ij.elim
  |_=>exact hr.elim
end
def Il(P:Program)(w:World)(a:Addr)(xs:List Str):HO:=.ext fun h=>h.SetOf (strKind P w) a (fun y=>decide (y∈gw xs)) (gw xs).length
theorem ED(q:h.SetOf (strKind P w) a (fun y=>decide (y∈gw xs)) (gw xs).length):aV P w H h a (Il P w a xs):=by
 obtain⟨o,es,ep,t,ho,rest⟩:=id q
 exact⟨q,⟨o,ho⟩,by rintro h1 h2 ⟨o,es,ep,t,ho,rest⟩ k;exact⟨o,es,ep,t,k _ ho,rest⟩⟩
theorem tP:∀{xs:List Str}{ak:List Value},Vals (xs.map V.str) ak→∀(i:Nat) (v:Value),ak[i]?=some v→∃x t,xs[i]?=some x∧v=.str x t
 |[],_,.nil,i,v,e=>by simp at e
 |x::xs,_,.cons r rs,0,v,e=>by
  obtain⟨t,q⟩:=r
  simp at e
  exact⟨x,t,rfl,by rw[← e];exact q⟩
 |x::xs,_,.cons r rs,i+1,v,e=>by
  obtain⟨y,t,e1,e2⟩:=tP rs i v (by simpa using e)
  exact⟨y,t,by simpa using e1,e2⟩
section
variable{X:Cx}
theorem Aj{P:Program}{w:World}{K:Frag}(hP:X.prog=P)(hw:X.w=w)(hK:X.K=K)(hc:X.calm=true) :
  dA X (.type "set") (fun vs H Q=>∃p xs,vs=[.ref p]∧gT K H p (xs.map V.str)∧xs.length<4000∧∀l,H l=none→Q (.ref l) (upd H l (Il P w l xs))):=by
 subst hP;subst hw;subst hK
 intro pins s σ H vs us Q I r h
 obtain⟨p,xs,rfl,hq,hz,q⟩:=h
 obtain⟨u,rfl,rx⟩:=vals1 r
 cases rx
 obtain⟨ak,r',pl,_⟩:=I.list hq
 have hlen:xs.length=ak.toArray.size:=by have:=r'.length;simpa using this
 refine tO (I.ok.hd hc) pl.isList hlen (fun i v e=>tP r' i v (by simpa using e)) (by rw[← hlen];unfold scanBound;lia) fun h' tk qs kp=>?_
 refine⟨.ref s.heap.objs.size,_,I.laid (t':=tk) (fun b o e=>kp b o (zw e) e) (zk _) (ED qs),rfl,q _ (I.aF.fresh (zk _))⟩
theorem Ak(hP:X.prog=P)(hw:X.w=w):dA X (.builtin "len") (fun vs H Q=>∃a xs,vs=[.ref a]∧H a=some (Il P w a xs)∧Q (.int (gw xs).length) H):=by
 subst hP;subst hw
 intro pins s σ H vs us Q I r h
 obtain⟨a,xs,rfl,ha,q⟩:=h
 obtain⟨u,rfl,rx⟩:=vals1 r
 cases rx
 obtain⟨⟨o,es,ep,t,ho,hex,hd,WK,pG,hb,hf,hn⟩,_⟩:=I.aF a _ ha
 refine call_len_set ho hex hd hf (by unfold scanBound at hb;lia) ?_
 exact⟨.int (gw xs).length,H,I.tok _,⟨_,by rw[hn]⟩,q⟩
end
theorem qB(l:List Str):(gw l).length=l.length↔l.Nodup:=by
 have all:∀(r c:List Str),c.Nodup→((r.foldl (fun c x=>if x∈c then c else c++[x]) c).length=c.length+r.length↔(c++r).Nodup):=by
  intro r
  induction r with
  |nil=>intro c hc;simpa using hc
  |cons x r ih =>
   intro c hc
   rw[yC]
   by_cases h:x∈c
   ·rw[if_pos h]
    have le:(r.foldl (fun c x=>if x∈c then c else c++[x]) c).length≤c.length+r.length:=by
     have all2:∀(r c:List Str),(r.foldl (fun c x=>if x∈c then c else c++[x]) c).length≤c.length+r.length:=by
      intro r
      induction r with
      |nil=>intro c;simp
      |cons x r ih=>intro c;rw[yC];refine zA (ih _) ?_;split <;> simp <;> try lia
     exact all2 r c
    refine⟨fun e=>by simp at e;lia,fun e=>?_⟩
    exact absurd rfl ((List.nodup_append.mp e).2.2 x h x (by simp))
   ·rw[if_neg h]
    have Nu:(c++[x]).Nodup:=xb hc h
    have:=ih (c++[x]) Nu
    simp only [ze,zp,List.length_nil,zS,List.singleton_append] at this ⊢
    rw[← this]
    constructor <;> intro e <;> lia
 simpa [gw] using all l [] List.nodup_nil
theorem gQ:entryFor table "dict.update.loop" = some Builtin.«dict.update.loop»:=entryFor_of_tree (by kernel_rfl)
theorem cI:plainId "dict.update.loop" = true:=by trivial
theorem pH:typeLookup (.type "tuple") "keys" = pure none:=by rw[typeLookup_type,builtinLookup_eq_fast];kernel_rfl
section
variable{prog:Program}{w:World}{A:Around}{E:Value→Shared→Prop}{s:Shared}
theorem pI(hx:s.heap.get? a=some o)(hc:o.cls=.type "tuple")(LA:o.data=.seq xs k)(hd:o.dict=none)(hA:A.handled=none)
  (h:∀h' tk,(∀b ob,s.heap.get? b=some ob→h'.get? b=some ob)→Q none { s with heap:=h',toks:=tk }):wpAny (model prog w) A (getAttr? (.ref a) "keys") Q E s:=by
 obtain⟨c,fJ,dat,sl⟩:=o
 simp only at hc LA hd
 subst hc LA hd
 obtain⟨hp,g,d,tk,os⟩:=s
 have hT:∀JU,(⟨hp,g,d,JU,os⟩:Shared).TypeIs (.ref a) "tuple" := fun _=>⟨_,hx,rfl⟩
 have f1:=sub_AttributeError ;have f3:=F.slot_tuple_getattribute.lookup
 have f4:=F.slot_tuple_getattribute.bind (.ref a) ;have f5:=am_tuple_getattr_none
 unfold getAttr? getAttrBy? getAttrBy
 repeat (any_goals (first|assumption|exact hT _|((with_reducible show wpAny _ _ (call (Value.builtin "tuple.__getattribute__") _ _) _ _ _);refine call_meets F.slot_tuple_getattribute (hT _) am_entry_tuple_getattribute (F.args_tuple_getattribute_2 _ _) (meets_getattribute_miss_tuple a xs k sl "keys" _ pH (by trivial) (by size_fits)) ⟨hx,hA,fun h' JU e LB=>?_⟩)|wp_step))
 obtain⟨t',u',he⟩:=LB.there
 show wpAny _ _ (getattributeRaised _ _ _ _ _ _ _) _ _ _ ;unfold getattributeRaised
 repeat (any_goals (first|assumption|wp_step))
 exact h _ _ LB.keeps
end
section
variable{prog:Program}{w:World}{A:Around}{R:Result→Shared→Prop}{I:Addr}{fp wr:List Addr}{G:Array GenState→Array GenState→Prop}{n:Nat}{P:Nat→Value→Prop}{St:Nat→Shared→Prop}
theorem Al(W:WalksS prog w A.in1 I fp wr G n P St)(D:Addr)(RE:D∉fp)(kvs:List (Key×Value))(hx:kvs.length=n)(base:Heap)
  (Ig:∀i v,P i v→∃(b:Addr) (k:Key) (key val:Value) (o:Obj) (m:Nat),kvs[i]?=some (k,val)∧v=.ref b∧(aB prog w).is k key=true∧base.get? b=some o∧o.cls=.type "tuple" ∧ o.data=.seq #[key,val] m∧b≠D∧b∉wr) (hb:n≤sizeLine) :
  ∀(k i:Nat) (s:Shared) (c:Int) (t:Tok),i+k=n→St i s→s.heap.DictOf (aB prog w) D (merged [] (kvs.take i))→(∀b o,base.get? b=some o→b≠D→b∉wr→s.heap.get? b=some o) →
   (∀s',Moved (D::wr) G s s'→s'.heap.DictOf (aB prog w) D (merged [] kvs)→R (.ok (.ret .none)) s') →
   codeAny (model prog w) A (.builtin "dict.update.loop" ⟨[.ref D,.ref I,.int c t,.none],[]⟩) R s:=by
 have nw:D∉wr:=fun h=>RE (W.sub _ h)
 have up:∀b∈wr,b∈D::wr:=fun b hb=>zu _ hb
 intro k
 induction k with
 |zero =>
  intro i s c t hk sJ hS hB hR
  have e:i=n:=by lia
  subst e
  refine codeAny_builtin gQ ?_ ;rw[Around.under_plainId cI _]
  show wpAny _ A.in1 (pyNext (.ref I) >>= _) _ _ s ;refine za (W.done s _ _ sJ fun s' hm=>?_)
  show wpAny _ A.in1 (Builtin.Dict.addKeywords D [] >>= _) _ _ s'
  have q:s'.heap.DictOf (aB prog w) D (merged [] (kvs.take i)):=by
   obtain⟨o,es,ep,ho,rest⟩:=hS
   exact⟨o,es,ep,hm.heap D _ nw ho,rest⟩
  rw[← hx,List.take_length] at q
  exact za (zi (zi (hR s' (hm.mono up) q)))
 |succ k ih =>
  intro i s c t hk sJ hS hB hR
  have lt:i<n:=by lia
  refine codeAny_builtin gQ ?_ ;rw[Around.under_plainId cI _]
  show wpAny _ A.in1 (pyNext (.ref I) >>= _) _ _ s ;refine za (W.item i s _ _ lt sJ fun v s' hP Ih hm=>?_)
  obtain⟨b,ky,key,val,o,m,ek,rfl,Hu,ho,hc,hd,Ln,RF⟩:=Ig i v hP
  have q:s'.heap.DictOf (aB prog w) D (merged [] (kvs.take i)):=by
   obtain⟨o,es,ep,ho,rest⟩:=hS
   exact⟨o,es,ep,hm.heap D _ nw ho,rest⟩
  have Gs:s'.heap.get? b=some o:=hm.heap b o RF (hB b o ho Ln RF)
  have room:(merged [] (kvs.take i)).length≤sizeLine:=by have:=merged_length_le ([]:List (Key×Value)) (kvs.take i);rw[zG] at this;simp at this;lia
  have tk:merged [] (kvs.take (i+1))=stored (merged [] (kvs.take i)) ky val:=merged_take_succ [] kvs i (ky,val) ek
  refine za (yn (za (wpAny_tryCatch ?_)))
  unfold Builtin.Dict.pairItems
  refine za (wpAny_typeOf (T := "tuple") ⟨o,Gs,hc⟩ ?_)
  show wpAny _ A.in1 (seqItems? (.ref b) >>= _) _ _ s'
  refine za (yh Gs hd (zi ?_))
  show wpAny _ A.in1 (holding [key,val] (dictSet D key val)) _ _ s'
  refine yn (wpAny_dictSet_pairs Hu q (fun h' q2 JT=>?_) room)
  rw[← tk] at q2
  refine zi ⟨plainId_quiet cI _,ih (i+1) _ _ _ (by lia) (W.frame _ s' _ _ Ih (Nat.le_succ _) fun b hb o e=>?_) q2 (fun b o e h1 h2=>?_) fun y6 Ii PD=>?_⟩
  ·rw[JT.2 b (fun h:b=D=>RE (by rw[← h];exact hb))] ;exact e
  ·rw[JT.2 b h1] ;exact hm.heap b o h2 (hB b o e h1 h2)
  ·refine hR y6 (Moved.trans W.gtrans ((hm.mono up).then_heap (Nat.le_succ _) fun b o hb e=>?_) Ii) PD
   rw[JT.2 b (fun h:b=D=>hb (by rw[h];exact zx))] ;exact e
theorem pJ(hh:A.handled=none)(gl:s.heap.get? l=some ol)(cl:ol.cls=.type "tuple")(dl:ol.data=.seq items m)(nl:ol.dict=none)(hx:kvs.length=items.size)
  (hi:∀(i:Nat) (v:Value),items[i]?=some v→∃(b:Addr) (k:Key) (key val:Value) (o:Obj) (m:Nat),kvs[i]?=some (k,val)∧v=.ref b∧(aB prog w).is k key=true∧s.heap.get? b=some o∧o.cls=.type "tuple" ∧ o.data=.seq #[key,val] m) (hb:items.size≤sizeLine)
  (h:∀(h':Heap) (tk:Nat),h'.DictOf (aB prog w) s.heap.objs.size (merged [] kvs)→(∀b o,s.heap.get? b=some o→h'.get? b=some o)→Q (.ref s.heap.objs.size) { s with heap:=h',toks:=tk }) :
  wpAny (model prog w) A (call (.type "dict") [.ref l]) Q E s:=by
 refine callType_codes (Q₁:=fun obj aG=>obj=.ref s.heap.objs.size∧aG={ s with heap:=s.heap.push { cls:=.type "dict",data:=.dict #[] } }) F.kt_called_dict (F.kt_typeCall_dict_1 _) F.entry_dict_init (kt_code_dict_new _ ⟨rfl,rfl⟩) ?_
 rintro obj aG ⟨rfl,rfl⟩
 have Im:(s.heap.push { cls:=.type "dict",data:=.dict #[] }).DictOf (aB prog w) s.heap.objs.size []:=Heap.DictOf.new s.heap
 have Lz:(s.heap.push { cls:=.type "dict",data:=.dict #[] }).get? l=some ol:=zc _ gl
 refine⟨Im.typeIs,F.args_dict_init_2 _ _,?_⟩
 unfold Builtin.«dict.__init__»
 refine za ?_
 unfold Builtin.Dict.selfAndRest
 refine za (wpAny_notOrdered_dict Im.typeIs ?_) ;show wpAny _ _ (pure (s.heap.objs.size,[Value.ref l])) _ _ _
 refine zi ?_ ;show wpAny _ _ (Builtin.Dict.updateFrom "dict.__init__" s.heap.objs.size (.ref l) [] .none) _ _ _
 unfold Builtin.Dict.updateFrom
 refine za (wpAny_typeOf (T := "tuple") ⟨ol,Lz,cl⟩ ?_) ;rw[if_pos (by decide)]
 have h3:A.in1.in1.handled=none:=by simp [hh]
 refine za (pI Lz cl dl nl h3 fun h1 TY NL=>?_)
 have g1:h1.get? l=some ol:=NL _ _ Lz
 have d1:h1.DictOf (aB prog w) s.heap.objs.size []:=by
  obtain⟨o,es,ep,ho,rest⟩:=Im
  exact⟨o,es,ep,NL _ _ ho,rest⟩
 have lD:s.heap.objs.size<h1.objs.size:=by obtain⟨o,es,ep,ho,rest⟩:=d1;exact zw ho
 have ll:l<s.heap.objs.size:=zw gl
 show wpAny _ _ (rule _ >>= _) _ _ _ ;refine za (wpAny_rule ?_)
 have RG:h1.IsTuple l items:=⟨ol,g1,cl,m,dl⟩
 refine za (wpAny_pyIter_tuple (s:=⟨h1,s.gens,s.drawn,TY,s.os⟩) RG ?_)
 have ne:l≠h1.objs.size:=zI (Nat.lt_trans ll lD)
 have nf:s.heap.objs.size∉[h1.objs.size,l]:=by
  simp only [zd,zT,zq,or_false,not_or] ;exact⟨zI lD,yo ll⟩
 refine zi ⟨plainId_quiet cI _,?_⟩
 refine Al ((Walks.tuple h3 _ l ne items).toS) s.heap.objs.size nf kvs hx s.heap (fun i v e=>?_) hb (items.size - 0) 0 _ _ _ (by lia) ⟨⟨_,zo _ rfl,rfl,rfl⟩,RG.push _⟩ ?hS0 ?hB ?hR
 ·obtain⟨b,k,key,val,o,m',e1,e2,e3,e4,e5,e6⟩:=hi i v e
  have lb:=zw e4
  exact⟨b,k,key,val,o,m',e1,e2,e3,e4,e5,e6,zI lb,by simp;exact zI (Nat.lt_trans lb lD)⟩
 case hS0=>exact d1.push _
 case hB=>exact fun b o e WL vB=>zc _ (NL _ _ (zc _ e))
 case hR =>
  intro s' hm q
  obtain⟨h',g',d',JU,KO⟩:=s'
  have eg:g'=s.gens:=hm.gens ;have ed:d'=s.drawn:=hm.drawn ;have eo:KO=s.os:=hm.os
  subst eg ;subst ed ;subst eo
  refine⟨rfl,h h' JU q fun b o e=>?_⟩
  have lb:=zw e
  refine hm.heap b o ?_ (zc _ (NL _ _ (zc _ e)))
  simp only [zd,zT,zq,or_false,not_or] ;exact⟨zI lb,zI (Nat.lt_trans lb lD)⟩
end
def xi(l:List (Str×V)):List (Key×V):=l.foldl (fun c p=>putK c (.inr p.1) p.2) []
def RH(H:Hp)(ps:List V)(kvs:List (Str×V)):Prop:=kvs.length=ps.length∧∀(i:Nat) (x:V) (p:Str×V),ps[i]?=some x→kvs[i]?=some p→∃b,x=.ref b∧H b=some (.tup [.str p.1,p.2])
section
variable{X:Cx}
theorem vC(hc:X.calm=true):dA X (.type "dict") (fun vs H Q=>∃p ps kvs,vs=[.ref p]∧H p=some (.tup ps)∧RH H ps kvs∧∀l,H l=none→Q (.ref l) (upd H l (.dK (xi kvs)))):=by
 intro pins s σ H vs us Q I r h
 obtain⟨p,ps,kvs,rfl,hp,⟨hl,hq⟩,q⟩:=h
 obtain⟨u,rfl,rx⟩:=vals1 r
 cases rx
 obtain⟨hz,ak,rv,ol,gl,cl,nl,m,dl⟩:=(show aV X.prog X.w H s.heap p (.tup ps) from I.aF p _ hp)
 have hlen:=rv.length
 -- the pairs as values
 have each:∀(i:Nat) (x:V) (pr:Str×V),ps[i]?=some x→kvs[i]?=some pr→∃(b:Addr) (key val:Value) (o:Obj) (m:Nat),ak[i]?=some (.ref b)∧(aB X.prog X.w).is (.inr pr.1) key=true∧RelV pr.2 val∧s.heap.get? b=some o∧o.cls=.type "tuple" ∧ o.data=.seq #[key,val] m:=by
  intro i x pr e1 e2
  obtain⟨b,rfl,hb⟩:=hq i x pr e1 e2
  obtain⟨u,e3,ru⟩:=rv.get e1
  cases ru
  obtain⟨_,WM,r2,o,go,co,no,m2,TZ⟩:=(show aV X.prog X.w H s.heap b (.tup [.str pr.1,pr.2]) from I.aF b _ hb)
  obtain⟨k',v',rfl,⟨tk,rfl⟩,T4⟩:=r2.two
  exact⟨b,_,v',o,m2,e3,ia _ _ _ _,T4,go,co,by simpa using TZ⟩
 have kv:∃vals:List (Key×Value),KV (kvs.map fun p=>((.inr p.1:Key),p.2)) vals∧∀(i:Nat) (x:V),ps[i]?=some x→∃(b:Addr) (k:Key) (key val:Value) (o:Obj) (m:Nat),vals[i]?=some (k,val)∧ak[i]?=some (.ref b)∧(aB X.prog X.w).is k key=true∧s.heap.get? b=some o∧o.cls=.type "tuple" ∧ o.data=.seq #[key,val] m:=by
  clear hp q rv dl hz
  induction kvs generalizing ps ak with
  |nil =>
   refine⟨[],.nil,fun i x e=>?_⟩
   have:ps=[]:=List.eq_nil_of_length_eq_zero (by simpa using hl.symm)
   subst this
   simp at e
  |cons pr r ih =>
   cases ps with
   |nil=>simp at hl
   |cons y ys =>
    cases ak with
    |nil=>simp at hlen
    |cons w0 ws =>
     obtain⟨b,key,val,o,m,e1,e2,e3,e4,e5,e6⟩:=each 0 y pr rfl rfl
     obtain⟨vals,k1,k2⟩:=ih ys (by simpa using hl) (fun i x p a b=>hq (i+1) x p (by simpa using a) (by simpa using b)) ws (by simpa using hlen) (fun i x p a b=>by simpa using each (i+1) x p (by simpa using a) (by simpa using b))
     refine⟨(.inr pr.1,val)::vals,.cons ⟨rfl,e3⟩ k1,fun i x e=>?_⟩
     cases i with
     |zero=>exact⟨b,.inr pr.1,key,val,o,m,rfl,e1,e2,e4,e5,e6⟩
     |succ i=>simpa using k2 i x (by simpa using e)
 obtain⟨vals,RJ,T5⟩:=kv
 have lv:vals.length=ak.length:=by have:=RJ.length;rw[zb] at this;lia
 refine pJ (kvs:=vals) (I.ok.hd hc) gl cl dl nl (by simpa using lv) (fun i v e=>?_) (by simp;lia) fun h' tk qs kp=>?_
 ·have e':ak[i]?=some v:=by simpa using e
  have hi:i<ak.length:=(yc.mp e').1
  obtain⟨b,k,key,val,o,m',e1,e2,e3,e4,e5,e6⟩:=T5 i (ps[i]'(by lia)) (zO _)
  rw[e'] at e2
  exact⟨b,k,key,val,o,m',e1,zV e2,e3,e4,e5,e6⟩
 ·have rel:KV (xi kvs) (merged [] vals):=by
   have all:∀(l:List (Str×V)) (vl:List (Key×Value)) (c:List (Key×V)) (cv:List (Key×Value)),KV (l.map fun p=>((.inr p.1:Key),p.2)) vl→KV c cv→KV (l.foldl (fun c p=>putK c (.inr p.1) p.2) c) (merged cv vl):=by
    intro l
    induction l with
    |nil=>intro vl c cv h1 h2;cases h1;exact h2
    |cons p r ih =>
     intro vl c cv h1 h2
     cases h1 with
     |@cons _ q _ qs r1 r2 =>
      obtain⟨k,v⟩:=q
      obtain⟨rfl,rv⟩:=r1
      exact ih qs _ _ r2 (h2.put _ rv)
   exact all kvs vals [] [] RJ .nil
  have big:=I.big
  refine⟨.ref s.heap.objs.size,_,I.laid (t':=tk) (fun b o e=>kp b o e) (zk _) (o:=.dK (xi kvs)) ⟨?_,?_,_,rel,qs⟩,rfl,q _ (I.aF.fresh (zk _))⟩
  ·have e1:=rel.length
   have e2:=merged_length_le ([]:List (Key×Value)) vals
   simp at e2
   lia
  ·simp;exact yo big
end
section
variable{X:Cx}
def LC(K:Frag):R2:=fun x y H Q=>∃a b xs ys,x=.ref a∧y=.ref b∧iX K H a xs∧iX K H b ys∧xs.length+ys.length≤sizeLine ∧
 (xs=[]→Q (.ref b) H)∧(xs≠[]→ys=[]→Q (.ref a) H)∧(xs≠[]→ys≠[]→∀p,H p=none→Q (.ref p) (upd H p (.tup (xs++ys))))
theorem EF:fh X (binaryOp .Add) (LC X.K):=by
 intro pins s σ H x y v u Q I rx ry h
 obtain⟨a,b,xs,ys,rfl,rfl,ha,hb,hz,q0,q1,q2⟩:=h
 by_cases hx:xs=[]
 ·cases rx
  cases ry
  obtain⟨ak,r1,p1,_⟩:=I.tuple ha
  obtain⟨jg,r2,p2,_⟩:=I.tuple hb
  obtain⟨⟨cls,dd,data,sl⟩,ho,hc,n,hd⟩:=id p1
  obtain⟨⟨OQ,KR,data2,vm⟩,Ec,JM,n2,hd2⟩:=id p2
  simp only at hc hd JM hd2
  subst hc hd JM hd2
  have e:ak=[]:=r1.mL.mpr hx
  exact concat_meets ⟨_,ho,rfl⟩ ⟨_,Ec,rfl⟩ noFill_tuple_add seq_tuple_add PySem.F.slot_tuple_add PySem.F.entry_tuple_add (PySem.F.args_tuple_add_2 _ _)
   (tuple_addW0 a b ak.toArray jg.toArray n n2 dd KR sl vm (by simp [e])) ⟨ho,Ec,.ref b,H,I,rfl,q0 hx⟩
 ·exact Eg pins s σ H _ _ v u Q I rx ry ⟨a,b,xs,ys,rfl,rfl,ha,hb,hx,hz,q1 hx,q2 hx⟩
end
def rz:PyData→Kd
 |.none=>.ax|.bool _=>.bl|.int _=>.int|.str _=>.str|.list _=>.lst|.tuple _=>.tup|.dict _=>.fJ
section
variable{H H':Hp}{K:Frag}
end
section
variable{σ:St}{H:Hp}{te tb:TE}{ta:TA}{d:PyData}{ds:List PyData}
theorem PF(h:n≤1000):n≤sizeLine:=Nat.le_of_lt (Ab h)
end
abbrev df(h:Heap)(T:Addr)(arr:Array Value):Prop:=h.get? T=some { cls:=.type "tuple",data:=.seq arr }
theorem kW(hs:Heap.ExtBut b h h')(n:a≠b)(x:h.IsTupleIter a l i):h'.IsTupleIter a l i:=x.extBut hs n
theorem xj{h h':Heap}{a l:Addr}{i:Nat}(k:∀o,h.get? a=some o→h'.get? a=some o)(x:h.IsTupleIter a l i):h'.IsTupleIter a l i:=by obtain⟨o,e,r⟩:=x;exact⟨o,k o e,r⟩
theorem LD{arr:Array Value}(na:arr.size=2)(x0 x1:Value):((arr.setIfInBounds 0 x0).setIfInBounds 1 x1)=#[x0,x1]:=by obtain⟨l⟩:=arr;match l,na with|[_,_],_=>rfl
section
variable{prog:Program}{w:World}{A:Around}{E:Value→Shared→Prop}{s:Shared}
theorem Gu(h:n≤3):n≤sizeLine:=PF (zA h (by decide))
theorem i6(hT:df s.heap T arr)(hz:arr.size≤3)(h:∀h',df h' T (arr.setIfInBounds k x)→Heap.SameBut T s.heap h'→Q () { s with heap:=h' }):wpAny (model prog w) A (updateSeq T (·.setIfInBounds k x)) Q E s:=by
 refine wpAny_updateSeq hT rfl (h _ ?_ (Heap.SameBut.update ..)) (hz:=Gu hz) (_hz':=by have:=Gu hz;simp;lia)
 show Heap.get? _ _=_
 rw[ya _ hT rfl] ;simp [Obj.mapSeq]
theorem nA(hit:s.heap.IsTupleIter it l i)(hl:s.heap.IsTuple l items)(hx:items[i]?=some x)(hQ:∀h',h'.IsTupleIter it l (i+1)→Heap.SameBut it s.heap h'→Q x { s with heap:=h' }) :
  wpAny (model prog w) A (Builtin.SmallTypes.nextOf (.ref it)) Q E s:=by
 obtain⟨o,ho,hc,hd⟩:=id hit ;obtain⟨ol,BX,_,nl,PH⟩:=hl
 unfold Builtin.SmallTypes.nextOf
 refine za (wpAny_callSpecial?_slot (name:=Str.ofString "__next__") hit.typeIs F.slot_tuple_iterator_next (wpAny_call_entry F.slot_tuple_iterator_next hit.typeIs F.entry_tuple_iterator_next ?_ (F.args_tuple_iterator_next_1 _)))
 show wpAny _ _ (field (.ref it) 0 >>= _) _ _ s ;refine za (zL ho hd (x:=.ref l) rfl ?_)
 show wpAny _ _ (if (Value.ref l == Value.none)=true then _ else _) _ _ s ;rw[if_neg (show ¬ ((Value.ref l == Value.none)=true) from zg)]
 show wpAny _ _ (field (.ref it) 1 >>= _) _ _ s ;refine za (zL ho hd (x:=.int i 0) rfl ?_)
 show wpAny _ _ (seqItems? (.ref l) >>= _) _ _ s ;refine za (yh BX PH ?_)
 simp only [yb,hx]
 refine za (wpAny_setField ho hd (by simp) (zi ⟨x,rfl,zi (hQ _ ⟨_,ya _ ho (yp (yd hd _)),(Obj.cls_mapFields ..).trans hc,by rw[yd hd];simp [rawInt]⟩ (Heap.SameBut.update ..))⟩))
theorem nB(hh:A.handled=none)(hit:s.heap.IsTupleIter it l i)(hl:s.heap.IsTuple l items)(hx:items[i]?=none)
  (hE:∀h' e,Heap.ExtBut it s.heap h'→(∃o,h'.get? e=some o∧o.cls=.type "StopIteration")→E (.ref e) { s with heap:=h' }):wpAny (model prog w) A (Builtin.SmallTypes.nextOf (.ref it)) Q E s:=by
 obtain⟨o,ho,hc,hd⟩:=id hit ;obtain⟨ol,BX,_,nl,PH⟩:=hl
 unfold Builtin.SmallTypes.nextOf
 refine za (wpAny_callSpecial?_slot (name:=Str.ofString "__next__") hit.typeIs F.slot_tuple_iterator_next (wpAny_call_entry F.slot_tuple_iterator_next hit.typeIs F.entry_tuple_iterator_next ?_ (F.args_tuple_iterator_next_1 _)))
 show wpAny _ _ (field (.ref it) 0 >>= _) _ _ s ;refine za (zL ho hd (x:=.ref l) rfl ?_)
 show wpAny _ _ (if (Value.ref l == Value.none)=true then _ else _) _ _ s ;rw[if_neg (show ¬ ((Value.ref l == Value.none)=true) from zg)]
 show wpAny _ _ (field (.ref it) 1 >>= _) _ _ s ;refine za (zL ho hd (x:=.int i 0) rfl ?_)
 show wpAny _ _ (seqItems? (.ref l) >>= _) _ _ s ;refine za (yh BX PH ?_)
 simp only [yb,hx]
 refine za (wpAny_rule (za (wpAny_setField ho hd (by simp) ?_))) ;show wpAny _ _ (newExc (.type "StopIteration") [] >>= _) _ _ _
 refine za ?_ ;simp only [newExc,newTuple] ;refine za (yx ?_ (by size_fits))
 refine za (m:=firstArgMember _ _) (wpAny_of_eq (a:=Value.none) (by first|rfl|(simp only [firstArgMember];rfl)) ?_) ;refine yx ?_ (by size_fits)
 simp only [raiseNew] ;refine za (wpAny_handled ?_)
 first|rw[show A.in1.handled=none from hh]|rw[hh]
 refine za (zi (wpAny_throw (hE _ _ (((Heap.SameBut.update ..).extBut.push _).push _) ⟨_,zo _ rfl,rfl⟩)))
end
def RK(n l0 l1:Nat)(i:Nat)(h:Heap):Prop:=IsZip h (n+4) (n+2) (n+3) .none∧df h (n+2) #[.ref n,.ref (n+1)]∧(∃arr:Array Value,arr.size=2∧df h (n+3) arr)∧h.IsTupleIter n l0 i∧h.IsTupleIter (n+1) l1 i
section
variable{prog:Program}{w:World}{A:Around}{E:Value→Shared→Prop}{s:Shared}{n l0 l1:Nat}{i:Nat}{eA fF:Array Value}
theorem Am{x0 x1:Value}{arr:Array Value}(na:arr.size=2){Q:Value→Shared→Prop}(b0:l0<n)(b1:l1<n)(hz:IsZip s.heap (n+4) (n+2) (n+3) .none)(hI:df s.heap (n+2) #[.ref n,.ref (n+1)])(hO:df s.heap (n+3) arr)(j0:s.heap.IsTupleIter n l0 i)(j1:s.heap.IsTupleIter (n+1) l1 i)(t0:s.heap.IsTuple l0 eA)(t1:s.heap.IsTuple l1 fF)(e0:eA[i]?=some x0)(e1:fF[i]?=some x1)
  (hQ:∀h',IsZip h' (n+4) (n+2) (n+3) (rawInt s.heap.objs.size)→df h' (n+3) #[x0,x1]→h'.IsTupleIter n l0 (i+1)→h'.IsTupleIter (n+1) l1 (i+1)→df h' s.heap.objs.size #[x0,x1]→(∀c o,c≠(n+4)→c≠(n+3)→c≠n→c≠(n+1)→s.heap.get? c=some o→h'.get? c=some o)→Q (.ref s.heap.objs.size) { s with heap:=h' }) :
  wpAny (model prog w) A (Builtin.«zip.__next__» ⟨[.ref (n+4)],[]⟩) (fun fin s'=>∃v,fin=.done (.ret v)∧Q v s') E s:=by
 show wpAny _ _ (field (.ref (n+4)) 2 >>= _) _ _ _ ;refine za (zL hz rfl (x:=.bool false) rfl ?_)
 show wpAny _ _ (field (.ref (n+4)) 3 >>= _) _ _ _ ;refine za (zL hz rfl (x:=.ref (n+2)) rfl ?_)
 refine za (yh hI rfl ?_) ;show wpAny _ _ (Builtin.SmallTypes.ownedTupleIsFree (.ref (n+4)) >>= _) _ _ _
 refine za ?_ ;unfold Builtin.SmallTypes.ownedTupleIsFree
 refine za (zL hz rfl (x:=.none) rfl (zi ?_)) ;simp only [if_true]
 refine za (wpAny_rule ?_) ;refine za (zL hz rfl (x:=.ref (n+3)) rfl ?_)
 refine za (yk hz (by simp) fun h0 vD q0=>?_) ;replace vD:IsZip h0 (n+4) (n+2) (n+3) .ellipsis:=vD
 have k0:∀c o,c≠(n+4)→s.heap.get? c=some o→h0.get? c=some o:=fun c o d e=>q0.extBut _ _ d e
 have O0:df h0 (n+3) arr:=k0 _ _ (by show @Ne Nat _ _;lia) hO
 refine za ?_ ;simp only [List.zipIdx_cons,List.zipIdx_nil,List.forIn_cons,List.forIn_nil]
 -- the 0. iterator
 have J0:Heap.IsTupleIter h0 n l0 i:=by obtain⟨o,a1,a2⟩:=j0;exact⟨o,k0 _ _ (by show @Ne Nat _ _;lia) a1,a2⟩
 have T0:Heap.IsTuple h0 l0 eA:=by obtain⟨o,a1,a2⟩:=t0;exact⟨o,k0 _ _ (by show @Ne Nat _ _;lia) a1,a2⟩
 refine za (za (wpAny_onRaise ?_)) ;show wpAny _ _ (Builtin.SmallTypes.nextOf (.ref n) >>= _) _ _ _
 refine za (nA (s:={ s with heap:=h0 }) J0 T0 e0 fun h1 m0 q1=>zi ?_)
 have O1:df h1 (n+3) arr:=q1.extBut _ _ (by show @Ne Nat _ _;lia) O0
 refine za (yh (s:={ s with heap:=h1 }) O1 rfl ?_) ;refine za (i6 (s:={ s with heap:=h1 }) O1 (by simp [na,Gu]) fun h2 O2 q2=>?_) ;refine za (wpAny_letGo (zi ?_))
 have k2:∀c o,c≠(n+4)→c≠(n+3)→c≠n→s.heap.get? c=some o→h2.get? c=some o:=fun c o dz dO d0 e=>q2.extBut _ _ dO (q1.extBut _ _ d0 (k0 c o dz  e))
 -- the 1. iterator
 have J1:Heap.IsTupleIter h2 (n+1) l1 i:=by obtain⟨o,a1,a2⟩:=j1;exact⟨o,k2 _ _ (by show @Ne Nat _ _;lia) (by show @Ne Nat _ _;lia) (by show @Ne Nat _ _;lia) a1,a2⟩
 have T1:Heap.IsTuple h2 l1 fF:=by obtain⟨o,a1,a2⟩:=t1;exact⟨o,k2 _ _ (by show @Ne Nat _ _;lia) (by show @Ne Nat _ _;lia) (by show @Ne Nat _ _;lia) a1,a2⟩
 refine za (za (wpAny_onRaise ?_)) ;show wpAny _ _ (Builtin.SmallTypes.nextOf (.ref (n+1)) >>= _) _ _ _
 refine za (nA (s:={ s with heap:=h2 }) J1 T1 e1 fun h3 m1 q3=>zi ?_)
 have O3:df h3 (n+3) (arr.setIfInBounds 0 x0):=q3.extBut _ _ (by show @Ne Nat _ _;lia) O2
 refine za (yh (s:={ s with heap:=h3 }) O3 rfl ?_) ;refine za (i6 (s:={ s with heap:=h3 }) O3 (by simp [na,Gu]) fun h4 O4 q4=>?_) ;refine za (wpAny_letGo (zi ?_))
 have k4:∀c o,c≠(n+4)→c≠(n+3)→c≠n→c≠(n+1)→s.heap.get? c=some o→h4.get? c=some o:=fun c o dz dO d0 d1 e=>q4.extBut _ _ dO (q3.extBut _ _ d1 (k2 c o dz dO d0 e))
 have ea:((arr.setIfInBounds 0 x0).setIfInBounds 1 x1)=#[x0,x1]:=LD na x0 x1
 rw[ea] at O4
 have LF:IsZip h4 (n+4) (n+2) (n+3) .ellipsis:=q4.extBut _ _ (by show @Ne Nat _ _;lia) (q3.extBut _ _ (by show @Ne Nat _ _;lia) (q2.extBut _ _ (by show @Ne Nat _ _;lia) (q1.extBut _ _ (by show @Ne Nat _ _;lia) (vD))))
 have M0:Heap.IsTupleIter h4 n l0 (i+1):=kW q4.extBut (by show @Ne Nat _ _;lia) (kW q3.extBut (by show @Ne Nat _ _;lia) (kW q2.extBut (by show @Ne Nat _ _;lia) m0))
 have M1:Heap.IsTupleIter h4 (n+1) l1 (i+1):=kW q4.extBut (by show @Ne Nat _ _;lia) m1
 have hsz:h4.objs.size=s.heap.objs.size:=by rw[q4.1,q3.1,q2.1,q1.1,q0.1]
 refine zi ?_ ;refine za (yh (s:={ s with heap:=h4 }) O4 rfl ?_) ;refine za (wpAny_newTuple ?_)
 have lz:(n+4)<h4.objs.size:=zw LF
 show wpAny _ _ (Builtin.SmallTypes.ownedTupleHandOut (.ref (n+4)) (.ref h4.objs.size) >>= _) _ _ _ ;refine za ?_ ;unfold Builtin.SmallTypes.ownedTupleHandOut
 have PJ:IsZip (h4.push { cls:=.type "tuple",data:=.seq #[x0,x1] }) (n+4) (n+2) (n+3) .ellipsis:=zc _ LF
 refine za (yk (s:={ s with heap:=h4.push { cls:=.type "tuple",data:=.seq #[x0,x1] } }) PJ (by simp) fun g1 vE r1=>?_) ;replace vE:IsZip g1 (n+4) (n+2) (n+3) (rawInt h4.objs.size):=vE
 refine yk (s:={ s with heap:=g1 }) vE (by simp) fun g2 DP r2=>?_ ;replace DP:IsZip g2 (n+4) (n+2) (n+3) (rawInt h4.objs.size):=DP
 have up:∀c o,c≠(n+4)→h4.get? c=some o→g2.get? c=some o:=fun c o d e=>r2.extBut _ _ d (r1.extBut _ _ d (zc _ e))
 have hT:df g2 h4.objs.size #[x0,x1]:=r2.extBut _ _ (yo lz) (r1.extBut _ _ (yo lz) (zo _ rfl))
 rw[hsz] at DP hT ;refine zi ⟨_,rfl,?_⟩ ;show Q (.ref h4.objs.size) _ ;rw[hsz]
 exact hQ g2 DP (up _ _ (by show @Ne Nat _ _;lia) O4) (xj (fun o e=>up _ o (by show @Ne Nat _ _;lia) e) M0) (xj (fun o e=>up _ o (by show @Ne Nat _ _;lia) e) M1) hT fun c o dz dO d0 d1 e=>up c o dz (k4 c o dz dO d0 d1 e)
theorem BY(hh:A.handled=none)(b0:l0<n)(b1:l1<n)(hz:IsZip s.heap (n+4) (n+2) (n+3) .none)(hI:df s.heap (n+2) #[.ref n,.ref (n+1)])(hO:df s.heap (n+3) arr)(j0:s.heap.IsTupleIter n l0 i)(j1:s.heap.IsTupleIter (n+1) l1 i)(t0:s.heap.IsTuple l0 eA)(t1:s.heap.IsTuple l1 fF)
  (e0:eA[i]?=none) (hE:∀h' e,(∀c o,c≠(n+4)→c≠(n+3)→c≠n→c≠(n+1)→s.heap.get? c=some o→h'.get? c=some o)→(∃o,h'.get? e=some o∧o.cls=.type "StopIteration")→E (.ref e) { s with heap:=h' }) :
  wpAny (model prog w) A (Builtin.«zip.__next__» ⟨[.ref (n+4)],[]⟩) Q E s:=by
 show wpAny _ _ (field (.ref (n+4)) 2 >>= _) _ _ _ ;refine za (zL hz rfl (x:=.bool false) rfl ?_)
 show wpAny _ _ (field (.ref (n+4)) 3 >>= _) _ _ _ ;refine za (zL hz rfl (x:=.ref (n+2)) rfl ?_)
 refine za (yh hI rfl ?_) ;show wpAny _ _ (Builtin.SmallTypes.ownedTupleIsFree (.ref (n+4)) >>= _) _ _ _
 refine za ?_ ;unfold Builtin.SmallTypes.ownedTupleIsFree
 refine za (zL hz rfl (x:=.none) rfl (zi ?_)) ;simp only [if_true]
 refine za (wpAny_rule ?_) ;refine za (zL hz rfl (x:=.ref (n+3)) rfl ?_)
 refine za (yk hz (by simp) fun h0 vD q0=>?_) ;replace vD:IsZip h0 (n+4) (n+2) (n+3) .ellipsis:=vD
 have J0:Heap.IsTupleIter h0 n l0 i:=by obtain⟨o,a1,a2⟩:=j0;exact⟨o,q0.extBut _ _ (by show @Ne Nat _ _;lia) a1,a2⟩
 have T0:Heap.IsTuple h0 l0 eA:=by obtain⟨o,a1,a2⟩:=t0;exact⟨o,q0.extBut _ _ (by show @Ne Nat _ _;lia) a1,a2⟩
 refine za ?_ ;simp only [List.zipIdx_cons,List.zipIdx_nil,List.forIn_cons,List.forIn_nil]
 refine za (za (wpAny_onRaise ?_)) ;show wpAny _ _ (Builtin.SmallTypes.nextOf (.ref n) >>= _) _ _ _
 refine za (nB (s:={ s with heap:=h0 }) hh J0 T0 e0 fun h1 e q1 he=>?_)
 obtain⟨oe,Io,LG⟩:=he ;have vE:IsZip h1 (n+4) (n+2) (n+3) .ellipsis:=q1 _ _ (by show @Ne Nat _ _;lia) vD
 have ez:e≠(n+4):=fun x=>by subst x;rw[vE] at Io;cases Io;simp at LG
 refine yk (s:={ s with heap:=h1 }) vE (by simp) fun h2 _ q2=>hE h2 e (fun c o dz _ d0 _ x=>q2.extBut _ _ dz (q1 _ _ d0 (q0.extBut _ _ dz x))) ⟨oe,q2.extBut _ _ ez Io,LG⟩
end
section
variable{X:Cx}{pins:List (Addr×Obj)}{σ:St}{H:Hp}{s:Shared}{h':Heap}
theorem Inv.xk(I:Inv X pins σ H s)(wr:List Addr)(hw:∀b∈wr,mn X pins H b)(k:∀b o,b∉wr→s.heap.get? b=some o→h'.get? b=some o):Inv X pins σ H { s with heap:=h',toks:=t' }:=by
 refine I.step (g':=s.gens) (d':=s.drawn) (ch:=wr) (fun b hb=>by obtain⟨_,a,_,c,d,e⟩:=hw b hb;exact⟨c,a,d,e⟩) (fun b o _ _ hc e _=>k b o hc e) (fun b o _ _ hc e _=>⟨o.slots,k b o hc e⟩) (fun _ _ _ _ n=>n)
  (fun b o hc e=>⟨o,k b o hc e⟩) (fun _ _ e=>e) (fun _ _ _ e=>e) (fun b ps e=>⟨#[],by rw[e];simp⟩) (fun m hm=>?_) (fun b u e=>?_) I.bare
 ·obtain⟨o,es,ep,ho,r⟩:=hm
  exact⟨o,es,ep,k _ o (fun z=>(hw _ z).2.1 rfl) ho,r⟩
 ·refine (I.aF b u e).mX (fun c v hc q=>k c v (fun z=>?_) q) (fun _ q=>q) fun _ _ q=>q
  have n:=(hw c z).1
  rcases hc with rfl|hc
  ·rw[n] at e;cases e
  ·rw[n] at hc;cases hc
theorem Inv.xl(I:Inv X pins σ H s)(wr:List Addr)(hw:∀b∈wr,mn X pins H b)(k:∀b o,b∉wr→s.heap.get? b=some o→h'.get? b=some o)(hT:s.heap.get? T=none)(new:aV X.prog X.w (upd H T o) h' T o) :
  Inv X pins σ (upd H T o) { s with heap:=h',toks:=t' }:=by
 have fr:H T=none:=by
  cases q:H T with
  |none=>rfl
  |some u=>obtain⟨z,e⟩:=(I.aF T u q).get;rw[hT] at e;cases e
 have ne:∀b u,H b=some u→b≠T:=fun b u e z=>by rw[z,fr] at e;cases e
 refine I.step (g':=s.gens) (d':=s.drawn) (ch:=wr) (fun b hb=>by obtain⟨_,a,_,c,d,e⟩:=hw b hb;exact⟨c,a,d,e⟩) (fun b o _ _ hc e _=>k b o hc e) (fun b o _ _ hc e _=>⟨o.slots,k b o hc e⟩) (fun b ob _ e n=>?_)
  (fun b o hc e=>⟨o,k b o hc e⟩) (fun b xs e=>by rw[aq (ne b _ e)];exact e) (fun b ob u e=>by rw[aq (ne b _ e)];exact e) (fun b ps e=>⟨#[],by rw[aq (ne b _ e),e];simp⟩) (fun m hm=>?_) (fun b u e=>?_) I.bare
 ·have:b≠T:=fun z=>by rw[z,hT] at e;cases e
  rw[aq this];exact n
 ·obtain⟨o,es,ep,ho,r⟩:=hm
  exact⟨o,es,ep,k _ o (fun z=>(hw _ z).2.1 rfl) ho,r⟩
 ·by_cases hb:b=T
  ·subst hb;rw[aU] at e;cases e;exact new
  ·rw[aq hb] at e
   refine (I.aF b u e).mX (fun c v hc q=>k c v (fun z=>?_) q) (fun c q=>by rw[aq (ne c _ q)];exact q) fun c xs q=>by rw[aq (ne c _ q)];exact q
   have n:=(hw c z).1
   rcases hc with rfl|hc
   ·rw[n] at e;cases e
   ·rw[n] at hc;cases hc
end
def LH(K:Frag)(l0 l1:Addr):It :=
 ⟨fun i H=>∃(eA fF:List V) (x0 x1:V),iX K H l0 eA∧iX K H l1 fF∧eA[i]?=some x0∧fF[i]?=some x1,
  fun i H x H'=>∃T,H T=none∧x=.ref T∧∀(eA fF:List V) (x0 x1:V),iX K H l0 eA→iX K H l1 fF→eA[i]?=some x0→fF[i]?=some x1→H'=upd H T (.tup [x0,x1]),
  fun i H=>∃eA fF,iX K H l0 eA∧iX K H l1 fF∧eA.length≤i⟩
theorem An{P:Program}{w:World}{K:Frag}{es:List Expr}{kk:Nat}{tp:Pos}{n l0 l1:Nat}(b0:l0<n)(b1:l1<n):Turn P w K (.Tuple es kk tp) (LH K l0 l1) [n,(n+1),(n+2),(n+3),(n+4)] (n+4) (RK n l0 l1) where
 mem:=by simp
 obj:=fun i h st b hb=>by
  obtain⟨hz,hI,⟨arr,na,hO⟩,j0,j1⟩:=st
  have c:b=n∨b=(n+1)∨b=(n+2)∨b=(n+3)∨b=(n+4):=by simpa using hb
  rcases c with rfl|rfl|rfl|rfl|rfl
  ·obtain⟨o,e,c,d⟩:=j0;exact⟨o,e,fun v z=>by rw[d] at z;cases z⟩
  ·obtain⟨o,e,c,d⟩:=j1;exact⟨o,e,fun v z=>by rw[d] at z;cases z⟩
  ·exact⟨_,hI,fun v z=>by cases z⟩
  ·exact⟨_,hO,fun v z=>by cases z⟩
  ·exact⟨_,hz,fun v z=>by cases z⟩
 keep:=fun i h h' st k=>by
  obtain⟨hz,hI,⟨arr,na,hO⟩,j0,j1⟩:=st
  exact⟨k _ (by simp) _ hz,k _ (by simp) _ hI,⟨arr,na,k _ (by simp) _ hO⟩,xj (fun o e=>k _ (by simp) o e) j0,xj (fun o e=>k _ (by simp) o e) j1⟩
 item:=by
  intro X hP hw hK hc i pins s σ H E I hf st hg
  subst hP hw hK
  obtain⟨eA,fF,x0,x1,q0,q1,e0,e1⟩:=hg
  obtain⟨pK,EG,p0,_⟩:=I.tuple q0 ;obtain⟨u0,PK,PL⟩:=EG.get e0
  obtain⟨pL,Ip,p1,_⟩:=I.tuple q1 ;obtain⟨u1,PM,PN⟩:=Ip.get e1
  obtain⟨hz,hI,⟨arr,na,hO⟩,j0,j1⟩:=st
  have hT:s.TypeIs (.ref (n+4)) "zip" := ⟨_,hz,rfl⟩
  unfold pyNext
  refine za (wpAny_attempt (wpAny_callSpecial?_slot (name:=Str.ofString "__next__") hT yD (wpAny_call_entry yD hT F.entry_zip_next (Am na b0 b1 hz hI hO j0 j1 (show s.heap.IsTuple l0 pK.toArray from p0) (show s.heap.IsTuple l1 pL.toArray from p1) (show pK.toArray[i]?=some u0 by simpa using PK) (show pL.toArray[i]?=some u1 by simpa using PM) fun h1 z1 O1 m0 m1 T1 kp=>zi ⟨_,rfl,?_⟩) (F.args_zip_next_1 _))))
  refine wpAny_letOwnedTupleGo_zip (s:={ s with heap:=h1 }) z1 fun h2 z2 r2=>?_
  have PQ:∀c o,c∉([(n+4),(n+3),n,(n+1)]:List Addr)→s.heap.get? c=some o→h2.get? c=some o:=fun c o hc e=>by
   simp only [zd,zq,or_false,not_or] at hc
   obtain⟨dz,dO,d0,d1⟩:=hc
   exact r2.extBut _ _ dz (kp c o dz dO d0 d1 e)
  have lz:(n+4)<s.heap.objs.size:=zw hz
  have T2:df h2 s.heap.objs.size #[u0,u1]:=r2.extBut _ _ (yo lz) T1
  have PR:∀b∈([(n+4),(n+3),n,(n+1)]:List Addr),mn X pins H b:=fun b hb=>hf b (by simp only [zd,zq,or_false] at hb ⊢;rcases hb with h|h|h|h <;> simp [h])
  have I2:Inv X pins σ (upd H s.heap.objs.size (.tup [x0,x1])) { s with heap:=h2 }:=I.xl (t':=s.toks) [(n+4),(n+3),n,(n+1)] PR PQ (Heap.get?_none_of_le (zk _)) ⟨PF (show 2≤1000 by decide),[u0,u1],.cons PL (.cons PN (.nil)),⟨_,T2,rfl,rfl,_,rfl⟩⟩
  refine⟨.ref s.heap.objs.size,_,I2,rfl,⟨_,I.aF.fresh (zk _),rfl,fun T6 T7 y0 y1 g0 g1 f0 f1=>?_⟩,?_,fun b hb=>?_⟩
  ·have:=I.kO g0 q0 ;subst this ;have:=e0.symm.trans f0 ;cases this
   have:=I.kO g1 q1 ;subst this ;have:=e1.symm.trans f1 ;cases this
   rfl
  ·refine⟨z2,r2.extBut _ _ (by show @Ne Nat _ _;lia) (kp _ _ (by show @Ne Nat _ _;lia) (by show @Ne Nat _ _;lia) (by show @Ne Nat _ _;lia) (by show @Ne Nat _ _;lia) hI),⟨_,rfl,r2.extBut _ _ (by show @Ne Nat _ _;lia) O1⟩,kW r2.extBut (by show @Ne Nat _ _;lia) m0,kW r2.extBut (by show @Ne Nat _ _;lia) m1⟩
  ·have l2:b<s.heap.objs.size:=by
    simp only [zd,zq,or_false] at hb
    have lz:@LT.lt Nat _ (n+4) s.heap.objs.size:=lz
    rcases hb with rfl|rfl|rfl|rfl|rfl <;> (show @LT.lt Nat _ _ s.heap.objs.size;lia)
   rw[aq (zI l2)] ;exact (hf b hb).1
 done:=by
  intro X hP hw hK hc i pins s σ H E I hf st hg
  subst hP hw hK
  obtain⟨eA,fF,q0,q1,hx⟩:=hg
  obtain⟨pK,EG,p0,_⟩:=I.tuple q0
  obtain⟨pL,Ip,p1,_⟩:=I.tuple q1
  obtain⟨hz,hI,⟨arr,na,hO⟩,j0,j1⟩:=st
  have hT:s.TypeIs (.ref (n+4)) "zip" := ⟨_,hz,rfl⟩ ;have hl:=EG.length
  unfold pyNext
  refine za (wpAny_attempt (wpAny_callSpecial?_slot (name:=Str.ofString "__next__") hT yD (wpAny_call_entry yD hT F.entry_zip_next (BY (I.ok.hd hc) b0 b1 hz hI hO j0 j1 (show s.heap.IsTuple l0 pK.toArray from p0) (show s.heap.IsTuple l1 pL.toArray from p1) (by simp;lia) fun h1 e kp he=>?_) (F.args_zip_next_1 _))))
  obtain⟨o,ho,PU⟩:=he ;refine za (wpAny_isInstance (T := "StopIteration") (b:=true) ⟨o,ho,PU⟩ isSubtype_stop (zi ⟨rfl,?_⟩))
  refine I.xk (t':=s.toks) [(n+4),(n+3),n,(n+1)] (fun b hb=>hf b (by simp only [zd,zq,or_false] at hb ⊢;rcases hb with h|h|h|h <;> simp [h])) fun c o hc e=>?_
  simp only [zd,zq,or_false,not_or] at hc
  obtain⟨dz,dO,d0,d1⟩:=hc
  exact kp c o dz dO d0 d1 e
 self:=fun A' i s Q E st h=>wpAny_pyIter_zip st.1 h
abbrev EH(h:Heap)(l0:Addr):Heap:=(h).push { cls:=.type "tuple_iterator",data:=.fields #[.ref l0,.int 0 0] }
abbrev EI(h:Heap)(l0 l1:Addr):Heap:=(EH h l0).push { cls:=.type "tuple_iterator",data:=.fields #[.ref l1,.int 0 0] }
abbrev EJ(h:Heap)(l0 l1:Addr):Heap:=(EI h l0 l1).push { cls:=.type "tuple",data:=.seq #[.ref h.objs.size,.ref (EH h l0).objs.size] }
abbrev EK(h:Heap)(l0 l1:Addr):Heap:=(EJ h l0 l1).push { cls:=.type "tuple",data:=.seq #[.none,.none] }
abbrev vF(h:Heap)(l0 l1:Addr):Heap:=(EK h l0 l1).push { cls:=.type "zip",data:=.fields #[.none,.bool false,.bool false,.ref (EI h l0 l1).objs.size,.ref (EJ h l0 l1).objs.size] }
theorem vG(l0 l1:Addr)(eA fF:Array Value):Meets (Builtin.«zip.__new__» ⟨[.type "zip",.ref l0,.ref l1],[]⟩) (fun _ R s=>s.heap.IsTuple l0 eA∧s.heap.IsTuple l1 fF∧R (.ok (.ret (.ref (EK s.heap l0 l1).objs.size))) { s with heap:=vF s.heap l0 l1 }) :=
 .of_wp fun prog w A R s h=>by
  obtain⟨hp,g,d,tk,os⟩:=s;obtain⟨t0,t1,h⟩:=h
  have H9:=sub_zip
  have L0:Heap.IsTuple (Shared.heap ⟨hp,g,d,tk,os⟩) l0 eA:=t0
  have L1:Heap.IsTuple (Shared.heap ⟨hp.push { cls:=.type "tuple_iterator",data:=.fields #[.ref l0,.int 0 0] },g,d,tk,os⟩) l1 fF:=Heap.IsTuple.push (t1) _
  wp_walk using wpAny_pyIter_tuple L0,wpAny_pyIter_tuple L1
  exact⟨_,rfl,h⟩
theorem vH(t0:s.heap.IsTuple l0 eA)(t1:s.heap.IsTuple l1 fF)
  (h:∀h',RK s.heap.objs.size l0 l1 0 h'→(∀c o,s.heap.get? c=some o→h'.get? c=some o)→Q (.ref (s.heap.objs.size+4)) { s with heap:=h' }):wpAny (model prog w) A (call (.type "zip") [.ref l0,.ref l1]) Q E s:=by
 refine callType_new F.called_zip (by decide) (F.typeCall_zip_2 _ _) (F.newCall_zip_2 _ _) (fun obj=>F.args_object_init_3 obj _ _) F.entry_zip_new (vG l0 l1 eA fF) ⟨t0,t1,?_⟩
 have z1:(EH s.heap l0).objs.size=s.heap.objs.size+1:=yf ..
 have z2:(EI s.heap l0 l1).objs.size=s.heap.objs.size+2:=by rw[yf,z1]
 have z3:(EJ s.heap l0 l1).objs.size=s.heap.objs.size+3:=by rw[yf,z2]
 have z4:(EK s.heap l0 l1).objs.size=s.heap.objs.size+4:=by rw[yf,z3]
 have z5:(vF s.heap l0 l1).objs.size=s.heap.objs.size+5:=by rw[yf,z4]
 have g0:(vF s.heap l0 l1).get? (s.heap).objs.size=some _:=zc _ (zc _ (zc _ (zc _ (zo _ rfl))))
 have g1:(vF s.heap l0 l1).get? (EH s.heap l0).objs.size=some _:=zc _ (zc _ (zc _ (zo _ rfl)))
 have g2:(vF s.heap l0 l1).get? (EI s.heap l0 l1).objs.size=some _:=zc _ (zc _ (zo _ rfl))
 have g3:(vF s.heap l0 l1).get? (EJ s.heap l0 l1).objs.size=some _:=zc _ (zo _ rfl)
 have g4:(vF s.heap l0 l1).get? (EK s.heap l0 l1).objs.size=some _:=zo _ rfl
 show _∧_
 rw[z2,z3,z4] at g4
 rw[z3] at g3
 rw[z1,z2] at g2
 rw[z1] at g1
 rw[z4]
 exact⟨⟨_,g4,rfl⟩,h _ ⟨g4,g2,⟨_,rfl,g3⟩,⟨_,g0,rfl,rfl⟩,⟨_,g1,rfl,rfl⟩⟩ fun c o x=>zc _ (zc _ (zc _ (zc _ (zc _ x))))⟩
def LI(K:Frag)(ta:TA):TI:=fun σ H R=>ta σ H fun vs H1=>∃l0 l1,vs=[.ref l0,.ref l1]∧(∃xs,iX K H1 l0 xs)∧(∃xs,iX K H1 l1 xs)∧R (LH K l0 l1) H1
theorem EL(hg:Gl X "zip")(hm:X.mg "zip" = none)(ha:PA X [a,b] ta)(hs:starEach [a,b] X.env=[(false,eval a X.env),(false,eval b X.env)]:=by rfl)(l_:starEach [b] X.env=[(false,eval b X.env)]:=by rfl) :
  PI X (.Tuple es kk tp) (.Call (.Name "zip" p) [a,b] [] pos) (LI X.K ta):=by
 intro pins s σ H R I h
 refine Call_ (ib I hg hm boot_zip (PyProof.Rows.callWith_type1 (bq (ha pos pins s σ H _ I h) fun us s1 ⟨vs,H1,I1,r1,q1⟩=>?_) (by rw[hs,l_]) (by rw[l_];rfl)))
 obtain⟨l0,l1,e,⟨eA,q0⟩,⟨fF,q2⟩,q⟩:=q1
 subst e
 obtain⟨u,v,rfl,r,r'⟩:=r1.two
 cases r
 cases r'
 obtain⟨pK,EG,p0,_⟩:=I1.tuple q0
 obtain⟨pL,Ip,p1,_⟩:=I1.tuple q2
 refine vH (show s1.heap.IsTuple l0 pK.toArray from p0) (show s1.heap.IsTuple l1 pL.toArray from p1) fun h' zs kp=>?_
 refine wpAny_pyIter_zip (s:={ s1 with heap:=h' }) zs.1 ⟨_,_,_,_,H1,rfl,I1.kept (t':=s1.toks) kp,An p0.lt p1.lt,zs,fun b hb=>?_,q⟩
 have Gs:s1.heap.objs.size≤b:=by
  simp only [zd,zq,or_false] at hb
  rcases hb with rfl|rfl|rfl|rfl|rfl <;> (show @LE.le Nat _ _ _;lia)
 exact I1.m7 Gs (I1.aF.fresh Gs)
def LJ:R2:=fun x y H Q=>∃z n,x=.str z∧y=.int n∧MulOk z n∧Q (.str (PySem.Txt.mul z n)) H
theorem vI:fh X (binaryOp .Mult) LJ:=by
 intro pins s σ H x y v u Q I rx ry h
 obtain⟨z,n,rfl,rfl,hm,q⟩:=h
 obtain⟨t,rfl⟩:=rx
 obtain⟨t',rfl⟩:=ry
 exact SB.mul hm fun T8 k=>⟨.str _,H,I.tok k,⟨_,rfl⟩,q⟩
section
variable{σ:St}{H:Hp}{te tb:TE}{K:Frag}
end
def JV(w:World)(K:Frag)(a:Addr)(kvs:List (Str×V)):Prop:=(a == sysModules)=false∧∃(o:Obj) (es:Array DictEntry) (ep:Nat),K.lookup a=some o∧o.ExactDict∧o.data=.dict es ep ∧
 Paired (fun (e:DictEntry) (kv:Str×V)=>e.hash=hashStr w kv.1∧(∃t,e.key=.str kv.1 t)∧RelV kv.2 e.val) es.toList kvs∧(kvs.map Prod.fst).Nodup
theorem tQ(z:Str):∀kvs:List (Str×V),jT (kvs.map fun p=>((.inr p.1:Key),p.2)) (.inr z)=kvs.lookup z
 |[]=>rfl
 | (x,v)::r=>by
  rw[zD,ym]
  by_cases e:z=x
  ·subst e
   rw[ni rfl]
   simp
  ·have e1:(z == x)=false:=by simpa using e
   rw[nj (fun q=>e (Sum.inr.inj q).symm),e1]
   exact tQ z r
section
variable{X:Cx}{pins:List (Addr×Obj)}{σ:St}{H:Hp}{s:Shared}{a:Addr}{kvs:List (Str×V)}
theorem Iq(I:Inv X pins σ H s)(d:JV X.w X.K a kvs):(a == sysModules)=false∧∃vs,KV (kvs.map fun p=>((.inr p.1:Key),p.2)) vs∧s.heap.DictOf (aB X.prog X.w) a vs:=by
 obtain⟨ns,o,es,ep,hk,hx,hd,hp,hn⟩:=d
 have all:∀(es:List DictEntry) (kvs:List (Str×V)),Paired (fun (e:DictEntry) (kv:Str×V)=>e.hash=hashStr X.w kv.1∧(∃t,e.key=.str kv.1 t)∧RelV kv.2 e.val) es kvs →
   ∃vs:List (Key×Value),KV (kvs.map fun p=>((.inr p.1:Key),p.2)) vs∧Pairs (aB X.prog X.w) es vs∧vs.map (·.1)=kvs.map (fun p=>(.inr p.1:Key))∧∀e∈es,∃k,(aB X.prog X.w).is k e.key=true∧e.hash=(aB X.prog X.w).hash k:=by
  intro es kvs hp
  induction hp with
  |nil=>exact⟨[],.nil,.nil,rfl,by simp⟩
  |@cons e kv Nt kvs' h t ih =>
   obtain⟨vs,k1,k2,k3,k4⟩:=ih
   obtain⟨h1,⟨tk,h2⟩,h3⟩:=h
   have hi:(aB X.prog X.w).is (.inr kv.1) e.key=true:=by rw[h2];exact ia _ _ _ _
   refine⟨(.inr kv.1,e.val)::vs,.cons ⟨rfl,h3⟩ k1,.cons hi rfl k2,by rw[zD,zD,k3],fun e' he=>?_⟩
   rcases zd.mp he with rfl|he
   ·exact⟨.inr kv.1,hi,h1⟩
   ·exact k4 e' he
 obtain⟨vs,k1,k2,k3,k4⟩:=all _ _ hp
 refine⟨ns,vs,k1,o,es,ep,I.oX a o hk,hx,hd,fun e he=>k4 e (by simpa using he),k2,?_⟩
 rw[k3]
 have:(kvs.map fun p=>(.inr p.1:Key))=(kvs.map Prod.fst).map Sum.inr:=by rw[zC];rfl
 rw[this]
 exact List.Pairwise.map _ (fun x y h q=>h (Sum.inr.inj q)) hn
theorem BZ{w:World}{K:Frag}(hw:X.w=w)(hK:X.K=K):fh X (compareOp .In) (fun x y H Q=>∃z a kvs,x=.str z∧y=.ref a∧JV w K a kvs∧Q (.bl (kvs.lookup z).isSome) H):=by
 subst hw hK
 intro pins s σ H x y v u Q I rx ry h
 obtain⟨z,a,kvs,rfl,rfl,d,q⟩:=h
 cases ry
 obtain⟨ns,vs,rel,dd⟩:=Iq I d
 refine wpAny_in_of (qu (k:=.inr z) rx) ns dd.mapOf ?_
 rw[← (rel.val (.inr z)).fM,tQ]
 exact⟨.bl _,H,I.tok _,rfl,q⟩
end
section
variable{K:Frag}{σ:St}{H:Hp}
end
section
variable{prog:Program}{w:World}{A:Around}{E:Value→Shared→Prop}{s:Shared}{n l0 l1 l2:Nat}{i:Nat}{eA fF WN:Array Value}
end
section
variable{K:Frag}{σ:St}{H:Hp}
end
section
variable{X:Cx}
def EM:V→List V→Hp→VK→Prop:=fun x vs H Q=>∃z y,x=.str z∧vs=[.str y]∧Q (.bl (PySem.Txt.startswith z y)) H
theorem pM:KZ X "str.startswith" EM:=by
 intro pins s σ H x vs v us Q I rx rv h
 obtain⟨z,y,rfl,rfl,q⟩:=h
 obtain⟨t,rfl⟩:=rx
 obtain⟨u,rfl,ru⟩:=rv.one
 obtain⟨t',rfl⟩:=ru
 exact PySem.SC.startswith ⟨.bl _,H,I,rfl,q⟩
theorem qC:∀{texts:List Str}{us:List Value},Vals (texts.map V.str) us→∃l,us=strValues l∧l.map (·.1)=texts
 |[],_,.nil=>⟨[],rfl,rfl⟩
 |z::zs,_,.cons r q=>by
  obtain⟨t,rfl⟩:=r
  obtain⟨l,rfl,e⟩:=qC q
  exact⟨(z,t)::l,rfl,by rw[zD,e]⟩
def rJoin(K:Frag):V→List V→Hp→VK→Prop:=fun x vs H Q=>∃z l texts,x=.str z∧vs=[.ref l]∧gT K H l (texts.map V.str)∧JoinOk z texts=true∧Q (.str (PySem.Txt.join z texts)) H
theorem EN:KZ X "str.join" (rJoin X.K):=by
 intro pins s σ H x vs v us Q I rx rv h
 obtain⟨z,l,texts,rfl,rfl,hl,aF,q⟩:=h
 obtain⟨t,rfl⟩:=rx
 obtain⟨u,rfl,ru⟩:=rv.one
 cases ru
 obtain⟨ak,r1,p1,_⟩:=I.list hl
 obtain⟨ll,rfl,e⟩:=qC r1
 exact PySem.SC.join p1.isList e aF fun t' k=>⟨.str _,H,I.tok k,⟨_,rfl⟩,q⟩
def PV:V→Option Int→Option Int→Hp→VK→Prop:=fun x lo hi H Q=>∃z,x=.str z∧z.length≤sizeLine∧Q (.str (PySem.Txt.slice z lo hi)) H
theorem Ir:JN X PV:=by
 intro pins s σ H x v vl vu lo hi sl Q I rx hs pl pu h
 obtain⟨z,rfl,hz,q⟩:=h
 obtain⟨t,rfl⟩:=rx
 obtain⟨o,e1,e2,e3⟩:=hs
 refine⟨"str",_,F.slot_str_getitem.lookup,typeIs_str _ _ _,?_⟩
 have fin:∀k,∀t':Tok,EP X pins σ Q (.str (PySem.Txt.slice z lo hi) t') { s with toks:=k }:=fun k t'=>⟨.str _,H,I.tok k,⟨_,rfl⟩,q⟩
 cases pl with
 |none =>
  cases pu with
  |none=>exact wpAny_getItem_str_slice (l:=none) (u:=none) (st:=none) ⟨o,e1,e2,e3⟩ rfl (post_val_or_str ⟨zA (Txt.slice_le z _ _) hz,fun t' k=>fin k t'⟩)
  |int j uj=>exact wpAny_getItem_str_slice (l:=none) (u:=some (j,uj)) (st:=none) ⟨o,e1,e2,e3⟩ rfl (post_val_or_str ⟨zA (Txt.slice_le z _ _) hz,fun t' k=>fin k t'⟩)
 |int i ui =>
  cases pu with
  |none=>exact wpAny_getItem_str_slice (l:=some (i,ui)) (u:=none) (st:=none) ⟨o,e1,e2,e3⟩ rfl (post_val_or_str ⟨zA (Txt.slice_le z _ _) hz,fun t' k=>fin k t'⟩)
  |int j uj=>exact wpAny_getItem_str_slice (l:=some (i,ui)) (u:=some (j,uj)) (st:=none) ⟨o,e1,e2,e3⟩ rfl (post_val_or_str ⟨zA (Txt.slice_le z _ _) hz,fun t' k=>fin k t'⟩)
end
end L2
namespace L2
open PySem PySem.Spec PyProof.Rows PySem.SeqAt
end L2
namespace L2
open PySem PySem.Spec PyProof.Rows
theorem rA(l:Addr)(items:Array Value)(n:Nat)(b:Addr)(nC:Array Value)(n2:Nat)(sl:Array (Option Value))(WO:¬(!items.isEmpty && Builtin.List.listTooLong (items.size+nC.size))=true)(EO:items.size≤sizeLine)(l_:items.size+nC.size≤sizeLine+1) :
  Meets (Builtin.«list.extend» ⟨[.ref l,.ref b],[]⟩) (fun _ R s=>s.heap.get? l=some { cls:=.type "list",dict:=none,data:=.seq items n,slots:=#[] }∧s.heap.get? b=some { cls:=.type "tuple",dict:=none,data:=.seq nC n2,slots:=sl }∧R (.ok (.ret Value.none)) { s with heap:=s.heap.update l (Obj.mapSeq fun x=>x++nC),toks:=s.toks }) :=
 .of_wp fun prog w A R s h=>by
  obtain⟨hp,g,d,tk,os⟩:=s;obtain⟨hl,hb,h⟩:=h;have f1:=AutoSeq1.idx_int;have f2:=AutoSeq1.sub_tuple_tuple;have f3:=AutoSeq1.sub_list_list;have f4:=AutoSeq1.sub_tuple_list;have f5:=AutoSeq1.sub_list_tuple;
  have T9:(items++nC).size≤sizeLine+1:=by rw[Array.size_append];exact l_
  wp_walk using (wpAny_updateSeq hl rfl (hz:=EO) (_hz':=T9)),AutoSeq1.wpAny_loadPart' hl,AutoSeq1.wpAny_loadPart' hb;exact⟨_,rfl,h⟩
section
variable{X:Cx}{K:Frag}
def B0:V→List V→Hp→VK→Prop:=fun x vs H Q=>∃l b xs zs,x=.ref l∧vs=[.ref b]∧H l=some (.lst xs)∧H b=some (.tup zs)∧xs.length+zs.length≤sizeLine∧Q .ax (upd H l (.lst (xs++zs)))
theorem vJ:NB X "list.extend" B0:=by
 intro pins s σ H x vs v us Q I rx rv h
 obtain⟨l,b,xs,zs,rfl,rfl,hH,hB,hz,q⟩:=h
 cases rx
 obtain⟨u,rfl,ru⟩:=rv.one
 cases ru
 obtain⟨z,ak,n,r,hl,e⟩:=I.vp hH
 obtain⟨z2,jg,r2,⟨c2,d2,T_,vm⟩,e2,ec,ed,n2,en⟩:=(show aV X.prog X.w H s.heap b (.tup zs) from I.aF b _ hB)
 dsimp only at ec ed en
 subst ec ed en
 have K3:=r2.length
 have hsz:ak.toArray.size+jg.toArray.size≤sizeLine:=by rw[zr,zr];lia
 have BA:¬ (!ak.toArray.isEmpty && Builtin.List.listTooLong (ak.toArray.size+jg.toArray.size))=true:=by
  rw[s_ hsz,Bool.and_false]
  exact zg
 refine call_meets F.slot_list_extend ⟨_,e,rfl⟩ F.entry_list_extend (F.args_list_extend_2 _ _)
  (rA l ak.toArray n b jg.toArray n2 vm BA (by rw[zr];lia) (by lia)) ⟨e,e2,?_⟩
 refine⟨.ax,_,I.Eh (its':=ak++jg) hH e (by simp) (r.append r2) ?_,rfl,q⟩
 rw[ze]
 lia
theorem pN(hK:X.K=K):dA X (.builtin "isinstance") (fun xs H Q=>∃a C b cs r,xs=[.ref a,.ref b]∧H a=some (jy a (.ref C))∧XC K C∧XA K C∧H b=some (.tup cs)∧(∀ak,Vals cs ak→kitAny K (.ref C) ak=some r)∧Q (.bl r) H):=by
 subst hK
 intro pins s σ H xs us Q I r h
 obtain⟨a,C,b,cs,r',rfl,ha,cC,xa,hb,e,q⟩:=h
 obtain⟨v,w',rfl,rv,qZ⟩:=vals2 r
 cases (show v=Value.ref a from rv)
 cases (show w'=Value.ref b from qZ)
 obtain⟨p,_⟩:=I.aF a _ ha
 obtain⟨z2,jg,r2,⟨c2,d2,T_,vm⟩,e2,ec,ed,n2,en⟩:=(show aV X.prog X.w H s.heap b (.tup cs) from I.aF b _ hb)
 dsimp only at ec ed en
 subst ec ed en
 exact PySem.W.kia_tup (tK cC xa) I.oX p e2 (e _ r2) (fun z=>nomatch z) fun tk=>⟨.bl r',H,I.tok tk,rfl,q⟩
def Iu(lo c:Int)(n:Nat):It:=⟨fun i _=>i<n,fun i H x H'=>H'=H∧x=.int (lo+i * c),fun i _=>n≤i⟩
theorem tR(it:Addr)(lo c:Int)(n:Nat):Turn P w K tg (Iu lo c n) [it] it (fun i h=>IsRangeIter h it (lo+(i:Nat) * c) ((n:Int) - (i:Nat)) c) where
 mem:=by simp
 obj:=fun i h st b hb=>by
  have e:b=it:=by simpa using hb
  subst e
  exact⟨_,st,fun v z=>by
   have z':Data.fields _=Data.cell v:=z
   cases z'⟩
 keep:=fun i h h' st k=>k it (by simp) _ st
 item:=by
  intro X hP hw hK hc i pins s σ H E I hf st hg
  subst hP hw hK
  obtain⟨f0,f1,f2,f3,f4,f5⟩:=hf it (by simp)
  have W:=Walks.range (prog:=X.prog) (w:=X.w) (I.ok.hd hc) it lo c n
  refine W.item i s _ _ hg st fun v h' tk hv wQ kk=>?_
  obtain⟨t,rfl⟩:=hv
  have I1:Inv X pins σ H { s with heap:=h',toks:=tk }:=I.turned (fun b o hb e=>kk b o (by simpa using hb) e) f0 f1 f3 f4 f5
  exact⟨_,rfl,sW (s:={ s with heap:=h',toks:=tk }) (n := "range_iterator") wQ rfl rfl (by decide) ⟨.int (lo+i * c),H,I1,⟨t,rfl⟩,⟨rfl,rfl⟩,wQ,fun b hb=>(hf b hb).1⟩⟩
 done:=by
  intro X hP hw hK hc i pins s σ H E I hf st hg
  subst hP hw hK
  obtain⟨f0,f1,f2,f3,f4,f5⟩:=hf it (by simp)
  exact wpAny_pyNext_range_end (I.ok.hd hc) st (by have:n≤i:=hg;lia) fun h' eb=>⟨rfl,I.turned (t':=s.toks) (fun b o hb e=>eb b o hb e) f0 f1 f3 f4 f5⟩
 self:=fun _ _ _ _ _ st h=>wpAny_pyIter_rangeiter st h
theorem Ao{t u v:Tok}(I:Inv X pins σ H s)(h3:0≤hi)(h4:hi≤100000)(h5:1≤c)(h6:c≤1000)
  (q:R (Iu 0 c ((hi+c - 1) / c).toNat) H):wpAny (model X.prog X.w) X.A (pyIter (.ref s.heap.objs.size)) (Nv X pins σ tg R) E { s with heap:=s.heap.push { cls:=.type "range",data:=.fields #[.int 0 t,.int hi u,.int c v] },toks:=tk }:=by
 have hsz:Builtin.Range.rangeSize 0 hi c=(((hi+c - 1) / c).toNat:Int):=by
  have h7:0≤(hi+c - 1) / c:=Int.ediv_nonneg (by lia) (by lia)
  rw[Int.toNat_of_nonneg h7]
  unfold Builtin.Range.rangeSize
  rw[if_pos (by lia)]
  by_cases h:0<hi
  ·rw[if_pos h,show hi+c - 1=(hi - 0 - 1)+c * 1 by lia,Int.add_mul_ediv_left _ _ (by lia)]
  ·have:hi=0:=by lia
   subst this
   rw[if_neg (by lia),Int.ediv_eq_zero_of_lt (by lia) (by lia)]
 have Ua:Builtin.Range.small 0 hi c=true:=by
  have h8:((hi+c - 1) / c).toNat≤200000:=by
   have:=Int.ediv_le_self c (show 0≤hi+c - 1 by lia)
   lia
  unfold Builtin.Range.small
  rw[hsz]
  simp only [Builtin.Range.rangeFitsLong,zj,yg,zt,beq_iff_eq,show c>0 by lia,if_true]
  lia
 refine wpAny_pyIter_range (IsRange.new ..) Ua ?_
 have I1:Inv X pins σ H { s with heap:=s.heap.push { cls:=.type "range",data:=.fields #[.int 0 t,.int hi u,.int c v] },toks:=tk }:=I.kept fun b o e=>zc _ e
 refine⟨(s.heap.push { cls:=.type "range",data:=.fields #[.int 0 t,.int hi u,.int c v] }).objs.size,[(s.heap.push { cls:=.type "range",data:=.fields #[.int 0 t,.int hi u,.int c v] }).objs.size],_,_,H,rfl,
  I1.kept (t':=tk) fun b o e=>zc _ e,tR _ 0 c ((hi+c - 1) / c).toNat,?_,fun b hb=>?_,q⟩
 ·have e1:(0:Int)+((0:Nat):Int) * c=0:=by simp
  have e2:(((hi+c - 1) / c).toNat:Int) - ((0:Nat):Int)=Builtin.Range.rangeSize 0 hi c:=by rw[hsz];simp
  show IsRangeIter _ _ ((0:Int)+((0:Nat):Int) * c) ((((hi+c - 1) / c).toNat:Int) - ((0:Nat):Int)) c
  rw[e1,e2]
  exact zo _ rfl
 ·have e:b=(s.heap.push { cls:=.type "range",data:=.fields #[.int 0 t,.int hi u,.int c v] }).objs.size:=by simpa using hb
  subst e
  exact I1.m7 (zk _) (I1.aF.fresh (zk _))
def LK(ta:TA):TI:=fun σ H R=>ta σ H fun vs H1=>∃j c:Int,vs=[.int 0,.int j,.int c]∧0≤j∧j≤100000∧1≤c∧c≤1000∧R (Iu 0 c ((j+c - 1) / c).toNat) H1
theorem Ap(hg:Gl X "range")(hm:X.mg "range" = none)(ha:PA X [a,b,c] ta)(hs:starEach [a,b,c] X.env=[(false,eval a X.env),(false,eval b X.env),(false,eval c X.env)]:=by rfl)(l_:starEach [b,c] X.env=[(false,eval b X.env),(false,eval c X.env)]:=by rfl) :
  PI X tg (.Call (.Name "range" p) [a,b,c] [] pos) (LK ta):=by
 intro pins s σ H R I h
 refine Call_ (ib I hg hm boot_range (PyProof.Rows.callWith_type1 (bq (ha pos pins s σ H _ I h) fun us s1 ⟨vs,H1,I1,r1,q1⟩=>?_) (by rw[hs,l_]) (by rw[l_];rfl)))
 obtain⟨j,c,e,q1,q2,q3,q4,q⟩:=q1
 subst e
 cases r1 with
 |cons r rr =>
  cases rr with
  |cons r' rr =>
   cases rr with
   |cons RL rr =>
    cases rr
    obtain⟨t,rfl⟩:=r
    obtain⟨t',rfl⟩:=r'
    obtain⟨T8,rfl⟩:=RL
    exact call_range_3 (by lia) (Ao I1 q1 q2 q3 q4 q) (.inl (PyProof.noPylong_small (by lia)))
end
inductive D where
 |ax|bl (b:Bool)|int (i:Int)|str (x:Str)|tup (ds:List D)|ir (ds:List D)|kt (ds:List D)|ref (a:Addr)|ty (n:String)
def PX(K:Frag)(a:Addr)(xs:List V):Prop:=∃(o:Obj) (ak:Array Value) (n:Nat),K.lookup a=some o∧o.cls=.type "tuple" ∧ o.data=.seq ak n∧ak.size≤sizeLine∧Vals xs ak.toList
def Gv(K:Frag)(H:Hp)(a:Addr)(xs:List V):Prop :=
 (∃o,H a=some (.kM o (.lst xs)))∨∃(o:Obj) (ak:Array Value) (n:Nat),K.lookup a=some o∧o.cls=.type "list" ∧ o.dict=none∧o.data=.seq ak n∧ak.size≤sizeLine∧Vals xs ak.toList
theorem Gv.sq{K:Frag}{H:Hp}{a:Addr}{xs:List V}(h:Gv K H a xs):gT K H a xs:=by
 rcases h with h|h
 ·exact .inl (.inr h)
 ·exact .inr h
structure Kp(K:Frag)(H H':Hp):Prop where
 t:∀a xs,H a=some (.tup xs)→H' a=some (.tup xs)
 r:∀a xs,Gv K H a xs→Gv K H' a xs
 f:∀a o u,H a=some (.kM o u)→H' a=some (.kM o u)
theorem Kp.refl{K:Frag}(H:Hp):Kp K H H:=⟨fun _ _ h=>h,fun _ _ h=>h,fun _ _ _ h=>h⟩
theorem Kp.trans{K:Frag}{H H1 H2:Hp}(a:Kp K H H1)(b:Kp K H1 H2):Kp K H H2:=⟨fun p xs h=>b.t p xs (a.t p xs h),fun p xs h=>b.r p xs (a.r p xs h),fun p o u h=>b.f p o u (a.f p o u h)⟩
theorem Kp.of{K:Frag}{H H':Hp}(h:∀b o,H b=some o→H' b=some o∨(∀xs,o≠.tup xs)∧∀u v,o≠.kM u v):Kp K H H' where
 t:=fun a xs q=>(h _ _ q).resolve_right fun z=>z.1 _ rfl
 r:=fun a xs q=>by
  rcases q with ⟨o,q⟩|q
  ·exact .inl ⟨o,(h _ _ q).resolve_right fun z=>z.2 _ _ rfl⟩
  ·exact .inr q
 f:=fun a o u q=>(h _ _ q).resolve_right fun z=>z.2 _ _ rfl
theorem Kp.new{K:Frag}{H:Hp}{a:Addr}{o:HO}(h:H a=none):Kp K H (upd H a o):=.of fun b u e=>.inl (by rw[aq (az e h)];exact e)
theorem Kp.put{K:Frag}{H:Hp}{a:Addr}{o u:HO}(h:H a=some o)(h1:∀xs,o≠.tup xs)(h2:∀u v,o≠.kM u v):Kp K H (upd H a u):=.of fun b v e=>by
 by_cases q:b=a
 ·subst q;rw[h] at e;cases e;exact .inr ⟨h1,h2⟩
 ·exact .inl (by rw[aq q];exact e)
mutual
def Rv(K:Frag)(H:Hp):D→V→Prop
 |.ax,v=>v=.ax
 |.bl b,v=>v=.bl b
 |.int i,v=>v=.int i
 |.str z,v=>v=.str z
 |.tup ds,v=>∃a xs,v=.ref a∧H a=some (.tup xs)∧RvAll K H ds xs
 |.ir ds,v=>∃a xs,v=.ref a∧Gv K H a xs∧RvAll K H ds xs
 |.kt ds,v=>∃a xs,v=.ref a∧PX K a xs∧RvAll K H ds xs
 |.ref a,v=>v=.ref a
 |.ty n,v=>v=.ty n
def RvAll(K:Frag)(H:Hp):List D→List V→Prop
 |[],xs=>xs=[]
 |d::ds,xs=>∃y ys,xs=y::ys∧Rv K H d y∧RvAll K H ds ys
end
section
variable{K:Frag}{H H':Hp}
theorem jz:Rv K H .ax .ax:=by simp only [Rv]
theorem aX(b:Bool):Rv K H (.bl b) (.bl b):=by simp only [Rv]
theorem aA(i:Int):Rv K H (.int i) (.int i):=by simp only [Rv]
theorem dj(z:Str):Rv K H (.str z) (.str z):=by simp only [Rv]
theorem dk(a:Addr):Rv K H (.ref a) (.ref a):=by simp only [Rv]
theorem LL(n:String):Rv K H (.ty n) (.ty n):=by simp only [Rv]
theorem LM(h:PX K a xs)(t:RvAll K H ds xs):Rv K H (.kt ds) (.ref a):=by simp only [Rv];exact⟨a,xs,rfl,h,t⟩
theorem iu(h:H a=some (.tup xs))(t:RvAll K H ds xs):Rv K H (.tup ds) (.ref a):=by simp only [Rv];exact⟨a,xs,rfl,h,t⟩
theorem B1(h:Gv K H a xs)(t:RvAll K H ds xs):Rv K H (.ir ds) (.ref a):=by simp only [Rv];exact⟨a,xs,rfl,h,t⟩
theorem Rv.ax(h:Rv K H .ax v):v=.ax:=by simpa only [Rv] using h
theorem Rv.bl(h:Rv K H (.bl b) v):v=.bl b:=by simpa only [Rv] using h
theorem Rv.int(h:Rv K H (.int i) v):v=.int i:=by simpa only [Rv] using h
theorem Rv.str(h:Rv K H (.str z) v):v=.str z:=by simpa only [Rv] using h
theorem Rv.ref(h:Rv K H (.ref a) v):v=.ref a:=by simpa only [Rv] using h
theorem Rv.ty(h:Rv K H (.ty n) v):v=.ty n:=by simpa only [Rv] using h
theorem Rv.kt(h:Rv K H (.kt ds) v):∃a xs,v=.ref a∧PX K a xs∧RvAll K H ds xs:=by simpa only [Rv] using h
theorem Rv.tup(h:Rv K H (.tup ds) v):∃a xs,v=.ref a∧H a=some (.tup xs)∧RvAll K H ds xs:=by simpa only [Rv] using h
theorem Rv.ir(h:Rv K H (.ir ds) v):∃a xs,v=.ref a∧Gv K H a xs∧RvAll K H ds xs:=by simpa only [Rv] using h
theorem bM:RvAll K H [] []:=by simp only [RvAll]
theorem aO(h:Rv K H d x)(t:RvAll K H ds xs):RvAll K H (d::ds) (x::xs):=by simp only [RvAll];exact⟨x,xs,rfl,h,t⟩
theorem RvAll.nil(h:RvAll K H [] xs):xs=[]:=by simpa only [RvAll] using h
theorem RvAll.cons(h:RvAll K H (d::ds) xs):∃y ys,xs=y::ys∧Rv K H d y∧RvAll K H ds ys:=by simpa only [RvAll] using h
mutual
theorem Rv.ts(s:Kp K H H'):∀(d:D) {v:V},Rv K H d v→Rv K H' d v
 |.ax,v,h=>by simpa only [Rv] using h
 |.bl b,v,h=>by simpa only [Rv] using h
 |.int i,v,h=>by simpa only [Rv] using h
 |.str z,v,h=>by simpa only [Rv] using h
 |.tup ds,v,h=>by
  obtain⟨a,xs,rfl,e,t⟩:=h.tup
  exact iu (s.t _ _ e) (RvAll.ts s ds t)
 |.ir ds,v,h=>by
  obtain⟨a,xs,rfl,e,t⟩:=h.ir
  exact B1 (s.r _ _ e) (RvAll.ts s ds t)
 |.kt ds,v,h=>by
  obtain⟨a,xs,rfl,e,t⟩:=h.kt
  exact LM e (RvAll.ts s ds t)
 |.ref a,v,h=>by simpa only [Rv] using h
 |.ty n,v,h=>by simpa only [Rv] using h
theorem RvAll.ts(s:Kp K H H'):∀(ds:List D) {xs:List V},RvAll K H ds xs→RvAll K H' ds xs
 |[],xs,h=>by rw[h.nil];exact bM
 |d::ds,xs,h=>by
  obtain⟨y,ys,rfl,h1,h2⟩:=h.cons
  exact aO (Rv.ts s d h1) (RvAll.ts s ds h2)
end
theorem RvAll.len:∀{ds:List D}{xs:List V},RvAll K H ds xs→xs.length=ds.length
 |[],xs,h=>by rw[h.nil];rfl
 |d::ds,xs,h=>by
  obtain⟨y,ys,rfl,_,h2⟩:=h.cons
  rw[zp,zp,h2.len]
theorem RvAll.get:∀{ds:List D}{xs:List V}{i:Nat}{d:D},RvAll K H ds xs→ds[i]?=some d→∃v,xs[i]?=some v∧Rv K H d v
 |[],xs,i,d,h,e=>by simp at e
 |d0::ds,xs,0,d,h,e=>by
  obtain⟨y,ys,rfl,h1,h2⟩:=h.cons
  simp at e;subst e;exact⟨y,rfl,h1⟩
 |d0::ds,xs,i+1,d,h,e=>by
  obtain⟨y,ys,rfl,h1,h2⟩:=h.cons
  obtain⟨v,e1,e2⟩:=h2.get (i:=i) (by simpa using e)
  exact⟨v,by simpa using e1,e2⟩
theorem RvAll.app:∀{ds es:List D}{xs ys:List V},RvAll K H ds xs→RvAll K H es ys→RvAll K H (ds++es) (xs++ys)
 |[],es,xs,ys,h,k=>by rw[h.nil];exact k
 |d::ds,es,xs,ys,h,k=>by
  obtain⟨y,zs,rfl,h1,h2⟩:=h.cons
  exact aO h1 (h2.app k)
theorem RvAll.take:∀{ds:List D}{xs:List V} (n:Nat),RvAll K H ds xs→RvAll K H (ds.take n) (xs.take n)
 |[],xs,n,h=>by rw[h.nil];simp only [List.take_nil];exact bM
 |d::ds,xs,0,h=>by simp only [yt];exact bM
 |d::ds,xs,n+1,h=>by
  obtain⟨y,zs,rfl,h1,h2⟩:=h.cons
  exact aO h1 (h2.take n)
theorem RvAll.drop:∀{ds:List D}{xs:List V} (n:Nat),RvAll K H ds xs→RvAll K H (ds.drop n) (xs.drop n)
 |[],xs,n,h=>by rw[h.nil];simp only [List.drop_nil];exact bM
 |d::ds,xs,0,h=>h
 |d::ds,xs,n+1,h=>by
  obtain⟨y,zs,rfl,h1,h2⟩:=h.cons
  exact h2.drop n
theorem RvAll.set:∀{ds:List D}{xs:List V}{d:D}{v:V} (n:Nat),RvAll K H ds xs→Rv K H d v→RvAll K H (ds.set n d) (xs.set n v)
 |[],xs,d,v,n,h,r=>by rw[h.nil];exact bM
 |d0::ds,xs,d,v,0,h,r=>by
  obtain⟨y,zs,rfl,h1,h2⟩:=h.cons
  exact aO r h2
 |d0::ds,xs,d,v,n+1,h,r=>by
  obtain⟨y,zs,rfl,h1,h2⟩:=h.cons
  exact aO h1 (h2.set n r)
theorem RvAll.erase:∀{ds:List D}{xs:List V} (n:Nat),RvAll K H ds xs→RvAll K H (ds.eraseIdx n) (xs.eraseIdx n)
 |[],xs,n,h=>by rw[h.nil];exact bM
 |d::ds,xs,0,h=>by
  obtain⟨y,zs,rfl,h1,h2⟩:=h.cons
  exact h2
 |d::ds,xs,n+1,h=>by
  obtain⟨y,zs,rfl,h1,h2⟩:=h.cons
  exact aO h1 (h2.erase n)
theorem RvAll.bools:∀{bs:List Bool}{xs:List V},RvAll K H (bs.map D.bl) xs→xs=bs.map V.bl
 |[],xs,h=>h.nil
 |b::bs,xs,h=>by
  obtain⟨y,ys,rfl,h1,h2⟩:=h.cons
  rw[h1.bl,h2.bools];rfl
theorem RvAll.ints:∀{bs:List Int}{xs:List V},RvAll K H (bs.map D.int) xs→xs=bs.map V.int
 |[],xs,h=>h.nil
 |b::bs,xs,h=>by
  obtain⟨y,ys,rfl,h1,h2⟩:=h.cons
  rw[h1.int,h2.ints];rfl
theorem RvAll.strs:∀{bs:List Str}{xs:List V},RvAll K H (bs.map D.str) xs→xs=bs.map V.str
 |[],xs,h=>h.nil
 |b::bs,xs,h=>by
  obtain⟨y,ys,rfl,h1,h2⟩:=h.cons
  rw[h1.str,h2.strs];rfl
theorem xm:∀(bs:List Int),RvAll K H (bs.map D.int) (bs.map V.int)
 |[]=>bM
 |b::bs=>aO (aA b) (xm bs)
theorem xn:∀(bs:List Str),RvAll K H (bs.map D.str) (bs.map V.str)
 |[]=>bM
 |b::bs=>aO (dj b) (xn bs)
def dD{κ:Type}(K:Frag)(H:Hp):List (κ×D)→List (κ×V)→Prop:=Paired fun p q=>p.1=q.1∧Rv K H p.2 q.2
theorem dD.ts(s:Kp K H H'):∀{ks:List (κ×D)}{vs:List (κ×V)},dD K H ks vs→dD K H' ks vs
 |_,_,.nil=>.nil
 |_,_,.cons r t=>.cons ⟨r.1,Rv.ts s _ r.2⟩ (dD.ts s t)
end
inductive Ce where
 |lst (ds:List D)|fJ (kvs:List (Key×D))|ins (c:Addr) (fs:List (Str×D))|well|exc (c:Addr)|tab (q:Str)
def Gw(H:Hp)(q:Str)(ps:Array Value):Prop:=TriplesOk ps.toList∧∀pos cv,codeAmong pos ps.toList=some cv→∃c o vs t,cv=.ref c∧H c=some (.kM o (.own 0))∧o.data=.fields vs∧vs[1]?=some (.str q t)
abbrev aQ:=Addr→Option Ce
def aQ.set(S:aQ)(a:Addr)(c:Ce):aQ:=fun b=>if b=a then some c else S b
theorem ae{S:aQ}{a:Addr}{c:Ce} : S.set a c a=some c:=by unfold aQ.set;rw[if_pos rfl]
theorem aI{S:aQ}{a b:Addr}{c:Ce}(h:b≠a):S.set a c b=S b:=by unfold aQ.set;rw[if_neg h]
theorem kX{S:aQ}{a:Addr}{c e:Ce} : (S.set a c).set a e=S.set a e:=by
 funext b;unfold aQ.set;split <;> rfl
theorem xo{S:aQ}{a b:Addr}{c:Ce}(h:S a=some c)(h':S b=none):a≠b:=by
 intro e;subst e;rw[h] at h';cases h'
def Rc(K:Frag)(H:Hp)(a:Addr):Ce→Prop
 |.lst ds=>∃xs,H a=some (.lst xs)∧RvAll K H ds xs
 |.fJ kvs=>∃vs,H a=some (.dK vs)∧dD K H kvs vs
 |.ins c fs=>∃dx vs,H a=some (.ins c dx vs)∧dD K H fs vs
 |.well=>∃x y z:Int,H a=some (.lst [.int x,.int y,.int z])
 |.exc c=>H a=some (jy a (.ref c))
 |.tab q=>∃ps,H a=some (.sS ps)∧Gw H q ps
def Rs(K:Frag)(S:aQ)(H:Hp):Prop:=∀a c,S a=some c→Rc K H a c
section
variable{K:Frag}{H H':Hp}{S:aQ}{a b:Addr}{c:Ce}
theorem Rc.has(h:Rc K H a c):∃o,H a=some o∧(∀xs,o≠.tup xs)∧∀u v,o≠.kM u v:=by
 cases c with
 |lst ds=>obtain⟨xs,e,_⟩:=h;exact⟨_,e,fun _=>nofun,fun _ _=>nofun⟩
 |fJ ds=>obtain⟨xs,e,_⟩:=h;exact⟨_,e,fun _=>nofun,fun _ _=>nofun⟩
 |ins c fs=>obtain⟨dx,vs,e,_⟩:=h;exact⟨_,e,fun _=>nofun,fun _ _=>nofun⟩
 |well=>obtain⟨x,y,z,e⟩:=h;exact⟨_,e,fun _=>nofun,fun _ _=>nofun⟩
 |exc c=>exact⟨_,h,fun _=>nofun,fun _ _=>nofun⟩
 |tab q=>obtain⟨ps,e,_⟩:=h;exact⟨_,e,fun _=>nofun,fun _ _=>nofun⟩
theorem Rc.keep(h:Rc K H a c)(e:∀o,H a=some o→H' a=some o)(s:Kp K H H'):Rc K H' a c:=by
 cases c with
 |lst ds=>obtain⟨xs,e1,r⟩:=h;exact⟨xs,e _ e1,RvAll.ts s _ r⟩
 |fJ ds=>obtain⟨xs,e1,r⟩:=h;exact⟨xs,e _ e1,r.ts s⟩
 |ins c fs=>obtain⟨dx,vs,e1,r⟩:=h;exact⟨dx,vs,e _ e1,r.ts s⟩
 |well=>obtain⟨x,y,z,e1⟩:=h;exact⟨x,y,z,e _ e1⟩
 |exc c=>exact e _ h
 |tab q=>obtain⟨ps,e1,r,r2⟩:=h;exact⟨ps,e _ e1,r,fun pos cv z=>by obtain⟨c,o,vs,t,z1,z2,z3⟩:=r2 pos cv z;exact⟨c,o,vs,t,z1,s.f _ _ _ z2,z3⟩⟩
theorem Rs.fresh(h:Rs K S H)(e:H a=none):S a=none:=by
 cases q:S a with
 |none=>rfl
 |some c=>obtain⟨o,e1,_⟩:=(h a c q).has;rw[e] at e1;cases e1
theorem Rs.new(h:Rs K S H)(e:H a=none){o:HO}(r:Rc K (upd H a o) a c):Rs K (S.set a c) (upd H a o):=fun b x hb=>by
 by_cases q:b=a
 ·subst q;rw[ae] at hb;cases hb;exact r
 ·rw[aI q] at hb
  exact (h b x hb).keep (fun o e1=>by rw[aq q];exact e1) (Kp.new e)
theorem Rs.grow(h:Rs K S H)(e:H a=none):Rs K S (upd H a o):=fun b x hb=>by
 obtain⟨u,e1,_⟩:=(h b x hb).has
 have q:b≠a:=az e1 e
 exact (h b x hb).keep (fun o e1=>by rw[aq q];exact e1) (Kp.new e)
theorem Rs.nD(h:Rs K S H)(ha:S a=some e):Kp K H (upd H a o):=by
 obtain⟨u,e1,n1,n2⟩:=(h a e ha).has
 exact Kp.put e1 n1 n2
theorem Rs.put(h:Rs K S H){e:Ce}(ha:S a=some e){o:HO}(r:Rc K (upd H a o) a c):Rs K (S.set a c) (upd H a o):=fun b x hb=>by
 by_cases q:b=a
 ·subst q;rw[ae] at hb;cases hb;exact r
 ·rw[aI q] at hb
  exact (h b x hb).keep (fun o e1=>by rw[aq q];exact e1) (h.nD ha)
theorem Rs.lst(h:Rs K S H)(e:S a=some (.lst ds)):∃xs,H a=some (.lst xs)∧RvAll K H ds xs:=h a _ e
theorem Rs.fJ(h:Rs K S H)(e:S a=some (.fJ ds)):∃xs,H a=some (.dK xs)∧dD K H ds xs:=h a _ e
end
abbrev KD:=D→aQ→Prop
abbrev KX:=Addr→aQ→Prop
abbrev SD:=List (Option D)
def fK(K:Frag)(H:Hp):SD→St→Prop:=Paired fun (o:Option D) (u:Option V)=>∀d,o=some d→∃v,u=some v∧Rv K H d v
section
variable{K:Frag}{H H':Hp}
theorem fK.ts(s:Kp K H H'):∀{σ:SD}{τ:St},fK K H σ τ→fK K H' σ τ
 |_,_,.nil=>.nil
 |_,_,.cons r t=>.cons (fun d e=>by obtain⟨v,e1,r1⟩:=r d e;exact⟨v,e1,Rv.ts s _ r1⟩) (fK.ts s t)
theorem fK.get:∀{σ:SD}{τ:St}{i:Nat}{d:D},fK K H σ τ→σ[i]?=some (some d)→∃v,τ[i]?=some (some v)∧Rv K H d v
 |_,_,i,d,.nil,e=>by simp at e
 |_,_,0,d,.cons r t,e=>by
  simp at e
  obtain⟨v,e1,r1⟩:=r d e
  exact⟨v,by simp [e1],r1⟩
 |_,_,i+1,d,.cons r t,e=>by
  obtain⟨v,e1,r1⟩:=fK.get (i:=i) t (by simpa using e)
  exact⟨v,by simpa using e1,r1⟩
theorem fK.set:∀{σ:SD}{τ:St} (i:Nat) {d:D}{v:V},fK K H σ τ→Rv K H d v→fK K H (σ.set i (some d)) (τ.set i (some v))
 |_,_,i,d,v,.nil,r=>.nil
 |_,_,0,d,v,.cons r t,q=>.cons (fun d' e=>by cases e;exact⟨v,rfl,q⟩) t
 |_,_,i+1,d,v,.cons r t,q=>.cons r (fK.set i t q)
theorem fK.unset:∀{σ:SD}{τ:St} (i:Nat) (o:Option V),fK K H σ τ→fK K H (σ.set i none) (τ.set i o)
 |_,_,i,o,.nil=>.nil
 |_,_,0,o,.cons r t=>.cons (fun d' e=>by cases e) t
 |_,_,i+1,o,.cons r t=>.cons r (fK.unset i o t)
theorem nE:∀(n:Nat) (τ:St),τ.length=n→fK K H (List.replicate n none) τ
 |0,[],_=>.nil
 |n+1,_::τ,h=>.cons (fun d e=>by cases e) (nE n τ (by simpa using h))
theorem nF:∀{ds:List D}{vs:List V},RvAll K H ds vs→fK K H (ds.map some) (vs.map some)
 |[],vs,h=>by rw[h.nil];exact .nil
 |d::ds,vs,h=>by
  obtain⟨y,ys,rfl,h1,h2⟩:=h.cons
  exact .cons (fun d' e=>by cases e;exact⟨y,rfl,h1⟩) (nF h2)
theorem fK.app:∀{σ ay:SD}{τ NM:St},fK K H σ τ→fK K H ay NM→fK K H (σ++ay) (τ++NM)
 |_,_,_,_,.nil,h=>h
 |_,_,_,_,.cons r t,h=>.cons r (fK.app t h)
end
structure Ub(Y:Cx)(E:St→XK)(b:Bool):Prop where
 call:∀p2 τ H s e s',Inv Y p2 τ H s→h_ Y.prog Y.w Y.mg Y.stack H s (E τ) e s'→Y.xe e s'
 own:b=true→∀p2 τ H s h' a cls args,Inv Y p2 τ H s→Heap.MadeExcOf s.heap h' a cls args→E τ cls none H→Y.xe (.ref a) { s with heap:=h' }
 loop:b=true→PassesOwn (model Y.prog Y.w) Y.A Y.env Y.xe
structure Ev(X:Cx)(b:Bool) where
 pn:List (Addr×Obj)
 xe:Value→Shared→Prop
 E:St→XK
 ok:Ub { X with pn:=pn,xe:=xe } E b
abbrev Ev.cx{X:Cx}{b:Bool}(y:Ev X b):Cx:={ X with pn:=y.pn,xe:=y.xe }
def Cn(K:Frag)(H:Hp)(R:KD)(Q:VK):Prop:=∀d S v H',R d S→Rv K H' d v→Rs K S H'→Kp K H H'→Q v H'
def Aq(K:Frag)(H:Hp)(Z:KX)(e:XK):Prop:=∀C S H',Z C S→Rs K S H'→Kp K H H'→e (.ref C) none H'
theorem Cn.kp{K:Frag}{H H1:Hp}{R:KD}{Q:VK}(h:Cn K H R Q)(k:Kp K H H1):Cn K H1 R Q:=fun d S v H' r v1 s1 k1=>h d S v H' r v1 s1 (k.trans k1)
theorem Aq.kp{K:Frag}{H H1:Hp}{Z:KX}{e:XK}(h:Aq K H Z e)(k:Kp K H H1):Aq K H1 Z e:=fun C S H' r s1 k1=>h C S H' r s1 (k.trans k1)
abbrev TD:=SD→aQ→KD→KX→Prop
def T(K:Frag)(E:St→XK)(t:TD):TE:=fun τ H Q=>∃σ S R Z,fK K H σ τ∧Rs K S H∧t σ S R Z∧Cn K H R Q∧Aq K H Z (E τ)
structure DE(K:Frag)(X:Cx)(e:Expr)(t:TD):Prop where
 of:∀{b:Bool} (y:Ev X b),PE y.cx e (T K y.E t)
abbrev o_:=SD→aQ→(Bool→aQ→Prop)→KX→Prop
def NN(K:Frag)(H:Hp)(R:Bool→aQ→Prop)(Q:Bool→Hp→Prop):Prop:=∀b S H',R b S→Rs K S H'→Kp K H H'→Q b H'
theorem NN.kp{K:Frag}{H H1:Hp}{R:Bool→aQ→Prop}{Q:Bool→Hp→Prop}(h:NN K H R Q)(k:Kp K H H1):NN K H1 R Q:=fun d S H' r s1 k1=>h d S H' r s1 (k.trans k1)
def Tt(K:Frag)(E:St→XK)(t:o_):TT:=fun τ H Q=>∃σ S R Z,fK K H σ τ∧Rs K S H∧t σ S R Z∧NN K H R Q∧Aq K H Z (E τ)
structure DT(K:Frag)(X:Cx)(e:Expr)(t:o_):Prop where
 of:∀{b:Bool} (y:Ev X b),PT y.cx e (Tt K y.E t)
abbrev iw:=SD→aQ→(List D→aQ→Prop)→KX→Prop
def Uc(K:Frag)(H:Hp)(R:List D→aQ→Prop)(Q:List V→Hp→Prop):Prop:=∀ds S vs H',R ds S→RvAll K H' ds vs→Rs K S H'→Kp K H H'→Q vs H'
def Ta(K:Frag)(E:St→XK)(t:iw):TA:=fun τ H Q=>∃σ S R Z,fK K H σ τ∧Rs K S H∧t σ S R Z∧Uc K H R Q∧Aq K H Z (E τ)
structure DA(K:Frag)(X:Cx)(es:List Expr)(t:iw):Prop where
 of:∀{b:Bool} (y:Ev X b),PA y.cx es (Ta K y.E t)
theorem PE.mono{t t':TE}(h:PE X e t)(i:∀τ H Q,t' τ H Q→t τ H Q):PE X e t':=fun pins s τ H Q I q=>h pins s τ H Q I (i τ H Q q)
theorem PT.mono{t t':TT}(h:PT X e t)(i:∀τ H Q,t' τ H Q→t τ H Q):PT X e t':=fun pins s τ H Q I q=>h pins s τ H Q I (i τ H Q q)
theorem PA.mono{t t':TA}(h:PA X e t)(i:∀τ H Q,t' τ H Q→t τ H Q):PA X e t':=fun pos pins s τ H Q I q=>h pos pins s τ H Q I (i τ H Q q)
section
variable{K:Frag}{X:Cx}
def LN(i:Nat):TD:=fun σ S R _=>∃d,σ[i]?=some (some d)∧R d S
def dC(d:D):TD:=fun _ S R _=>R d S
theorem dv(i:Nat)(hN:X.N[i]?=some x:=by rfl)(hv:Kf X.env.scope x:=by first|exact Or.inl rfl|exact Or.inr (Or.inl rfl)|exact Or.inr (Or.inr rfl))(hd:(x == ("__debug__" : Str))=false:=by decide)
  (Bc:(x == ("__classdict__" : Str))=false:=by decide):DE K X (.Name x pos) (LN i) :=
 ⟨fun y=>(G4 (X:=y.cx) hN hv hd Bc).mono <| by rintro τ H Q ⟨σ,S,R,Z,aw,hS,⟨d,e,r⟩,hR,_⟩;exact by obtain⟨v,e1,rv⟩:=aw.get e;exact⟨v,e1,hR d S v H r rv hS (Kp.refl _)⟩⟩
theorem DE.const(h:∀Y:Cx,Y.env=X.env→Y.mg=X.mg→PE Y e (tC v))(r:∀H,Rv K H d v):DE K X e (dC d) :=
 ⟨fun y=>(h y.cx rfl rfl).mono <| by rintro τ H Q ⟨σ,S,R,Z,aw,hS,q,hR,_⟩;exact hR d S v H q (r H) hS (Kp.refl _)⟩
theorem di:DE K X (.Constant (.int i) j pos) (dC (.int i)):=.const (fun _ _ _=>G5) fun _=>aA i
theorem ds:DE K X (.Constant (.str i) j pos) (dC (.str i)):=.const (fun _ _ _=>G7) fun _=>dj i
theorem db:DE K X (.Constant (.bool i) j pos) (dC (.bl i)):=.const (fun _ _ _=>Kh) fun _=>aX i
theorem dn:DE K X (.Constant .none j pos) (dC .ax):=.const (fun _ _ _=>G6) fun _=>jz
theorem dg(hm:X.mg x=some u)(r:RelV v u)(rd:∀H,Rv K H d v)(hg:Gl X x:=by rfl)(hd:(x == ("__debug__" : Str))=false:=by decide):DE K X (.Name x pos) (dC d) :=
 .const (fun Y e1 e2=>D2 (X:=Y) (u:=u) (show Y.env.kindOf x=_ by rw[e1];exact hg) (by rw[e2];exact hm) r hd) rd
theorem sN(hm:X.mg x=none)(hv:bootBuiltins x=some (.type n))(hg:Gl X x:=by rfl)(hn:x ≠ "__name__" := by decide)(hd:(x == ("__debug__" : Str))=false:=by decide):DE K X (.Name x pos) (dC (.ty n)) :=
 .const (fun Y e1 e2=>D3 (X:=Y) (v:=.ty n) (show Y.env.kindOf x=_ by rw[e1];exact hg) (by rw[e2];exact hm) hv rfl hn hd) fun _=>LL n
def LO:iw:=fun _ S R _=>R [] S
def xp(t:TD)(u:iw):iw:=fun σ S R Z=>t σ S (fun d S1=>u σ S1 (fun ds S2=>R (d::ds) S2) Z) Z
theorem an:DA K X [] LO:=⟨fun y=>(vj (X:=y.cx)).mono <| by rintro τ H Q ⟨σ,S,R,Z,aw,hS,q,hR,_⟩;exact hR [] S [] H q bM hS (Kp.refl _)⟩
theorem ac{t:TD}(h:DE K X e t)(hr:DA K X es u)(hp:isPlain e=true:=by rfl):DA K X (e::es) (xp t u) :=
 ⟨fun y=>(Pl (h.of y) (hr.of y) hp).mono <| by rintro τ H Q ⟨σ,S,R,Z,aw,hS,q,hR,hZ⟩;exact
  ⟨σ,S,_,Z,aw,hS,q,fun d S1 x H1 r1 v1 s1 k1=>⟨σ,S1,_,Z,aw.ts k1,s1,r1,fun ds S2 xs H2 r2 v2 s2 k2=>hR (d::ds) S2 (x::xs) H2 r2 (aO (Rv.ts k2 _ v1) v2) s2 (k1.trans k2),hZ.kp k1⟩,hZ⟩⟩
abbrev sO:=D→D→aQ→KD→Prop
def Lr(K:Frag)(r:sO):R2:=fun x y H Q=>∃d e S R,Rv K H d x∧Rv K H e y∧Rs K S H∧r d e S R∧Cn K H R Q
def mO(K:Frag)(f:Value→Value→Sem Value)(r:sO):Prop:=∀X:Cx,X.K=K→X.A.units+64<cLine→fh X f (Lr K r)
def Iv(r:sO)(ta tb:TD):TD:=fun σ S R Z=>ta σ S (fun x S1=>tb σ S1 (fun y S2=>r x y S2 R) Z) Z
theorem T.op(h:T K E (Iv r ta tb) τ H Q):JL (Lr K r) (T K E ta) (T K E tb) τ H Q:=by
 obtain⟨σ,S,R,Z,aw,hS,q,hR,hZ⟩:=h
 exact⟨σ,S,_,Z,aw,hS,q,fun d S1 x H1 r1 v1 s1 k1=>⟨σ,S1,_,Z,aw.ts k1,s1,r1,fun e S2 y H2 r2 v2 s2 k2=>⟨d,e,S2,R,Rv.ts k2 _ v1,v2,s2,r2,hR.kp (k1.trans k2)⟩,hZ.kp k1⟩,hZ⟩
theorem bo(ho:mO K (binaryOp op) r)(hu:X.A.units+64<cLine)(ha:DE K X a ta)(hb:DE K X b tb)(hK:X.K=K:=by rfl):DE K X (.BinOp a op b pos) (Iv r ta tb) :=
 ⟨fun y=>(Kz (ho y.cx hK hu) (ha.of y) (hb.of y)).mono fun _ _ _ h=>h.op⟩
theorem cm(ho:mO K (compareOp op) r)(hu:X.A.units+64<cLine)(ha:DE K X a ta)(hb:DE K X b tb)(hm:behindInMarks op b=false:=by with_unfolding_all rfl)(hK:X.K=K:=by rfl):DE K X (.Compare a [op] [b] pos) (Iv r ta tb) :=
 ⟨fun y=>(wW (ho y.cx hK hu) (ha.of y) (hb.of y) hm).mono fun _ _ _ h=>h.op⟩
def dB(t:TD):o_:=fun σ S R Z=>t σ S (fun x S1=>∃b,x=.bl b∧R b S1) Z
theorem Tt.b{t:TD}(h:Tt K E (dB t) τ H Q):T K E t τ H fun x H'=>∃k,x=.bl k∧Q k H':=by
 obtain⟨σ,S,R,Z,aw,hS,q,hR,hZ⟩:=h
 exact⟨σ,S,_,Z,aw,hS,q,by rintro d S1 x H1 ⟨b,e,r1⟩ v1 s1 k1;exact by subst e;exact⟨b,v1.bl,hR b S1 H1 r1 s1 k1⟩,hZ⟩
theorem Tt.Ud(h:Tt K E (dB (Iv r ta tb)) τ H Q):Bq (JL (Lr K r) (T K E ta) (T K E tb)) τ H Q:=h.b.op
theorem eS(ho:mO K (compareOp op) r)(hu:X.A.units+64<cLine)(ha:DE K X a ta)(hb:DE K X b tb)(hm:behindInMarks op b=false:=by with_unfolding_all rfl)(hK:X.K=K:=by rfl):DT K X (.Compare a [op] [b] pos) (dB (Iv r ta tb)) :=
 ⟨fun y=>(D_ (ho y.cx hK hu) (ha.of y) (hb.of y) hm).mono fun _ _ _ h=>h.Ud⟩
theorem tv{t:TD}(h:DE K X e t)(he:∀whole,isTrue e X.env whole=(do let v ← whole;standAt e.pos;holding [v] (truthy v)):=by intro _;rfl):DT K X e (dB t) :=
 ⟨fun y=>(G8 (X:=y.cx) (h.of y) he).mono fun _ _ _ h=>h.b⟩
def vK(r r':sO)(ta tb tc:TD):TD:=fun σ S R Z=>ta σ S (fun x S1=>tb σ S1 (fun y S2=>r x y S2 fun z S3=>∃k,z=.bl k∧if k=true then tc σ S3 (fun w S4=>r' y w S4 R) Z else R (.bl false) S3) Z) Z
theorem T.chain(h:T K E (vK r r' ta tb tc) τ H Q):vh (Lr K r) (Lr K r') (T K E ta) (T K E tb) (T K E tc) τ H Q:=by
 obtain⟨σ,S,R,Z,aw,hS,q,hR,hZ⟩:=h
 refine⟨σ,S,_,Z,aw,hS,q,fun d S1 x H1 r1 v1 s1 k1=>⟨σ,S1,_,Z,aw.ts k1,s1,r1,fun e S2 y H2 r2 v2 s2 k2=>⟨d,e,S2,_,Rv.ts k2 _ v1,v2,s2,r2,fun z S3 v H3 r3 v3 s3 k3=>?_⟩,hZ.kp k1⟩,hZ⟩
 obtain⟨k,rfl,r3⟩:=r3
 refine⟨k,v3.bl,?_⟩
 cases k with
 |true =>
  rw[if_pos rfl] at r3 ⊢
  exact⟨σ,S3,_,Z,((aw.ts k1).ts k2).ts k3,s3,r3,fun w S4 wv H4 r4 v4 s4 k4=>⟨e,w,S4,R,Rv.ts (k3.trans k4) _ v2,v4,s4,r4,hR.kp (((k1.trans k2).trans k3).trans k4)⟩,hZ.kp ((k1.trans k2).trans k3)⟩
 |false =>
  rw[if_neg zg] at r3 ⊢
  exact hR _ S3 _ H3 r3 (aX false) s3 ((k1.trans k2).trans k3)
theorem cc(ho:mO K (compareOp op) r)(u9:mO K (compareOp yW) r')(hu:X.A.units+64<cLine)(ha:DE K X a ta)(hb:DE K X b tb)(hc:DE K X c tc)
  (hm:lastMarks [op,yW] [b,c]=false:=by with_unfolding_all rfl) (hK:X.K=K:=by rfl):DE K X (.Compare a [op,yW] [b,c] pos) (vK r r' ta tb tc) :=
 ⟨fun y=>(Br (ho y.cx hK hu) (u9 y.cx hK hu) (ha.of y) (hb.of y) (hc.of y) hm).mono fun _ _ _ h=>h.chain⟩
theorem JW(ho:mO K (compareOp op) r)(u9:mO K (compareOp yW) r')(hu:X.A.units+64<cLine)(ha:DE K X a ta)(hb:DE K X b tb)(hc:DE K X c tc)
  (hm:lastMarks [op,yW] [b,c]=false:=by with_unfolding_all rfl) (hK:X.K=K:=by rfl):DT K X (.Compare a [op,yW] [b,c] pos) (dB (vK r r' ta tb tc)) :=
 ⟨fun y=>(Bs (ho y.cx hK hu) (u9 y.cx hK hu) (ha.of y) (hb.of y) (hc.of y) hm).mono fun _ _ _ h=>h.b.chain⟩
def LP(ta tb:TD):TD:=fun σ S R Z=>ta σ S (fun x S1=>∃c,x=.bl c∧if c=true then tb σ S1 R Z else R (.bl false) S1) Z
def PY(ta tb:TD):TD:=fun σ S R Z=>ta σ S (fun x S1=>∃c,x=.bl c∧if c=true then R (.bl true) S1 else tb σ S1 R Z) Z
def LQ(ta:TD):TD:=fun σ S R Z=>ta σ S (fun x S1=>∃c,x=.bl c∧R (.bl (!c)) S1) Z
theorem vL{t:TD}(h:DE K X a t):DE K X (.BoolOp op [a] pos) t:=⟨fun y=>G_ (h.of y)⟩
theorem jA{a b:Expr}{rest:List Expr}{ta tb:TD}{pos:Pos}(ha:DE K X a ta)(hb:DE K X (.BoolOp .And (b::rest) pos) tb):DE K X (.BoolOp .And (a::b::rest) pos) (LP ta tb) :=
 ⟨fun y=>(Ha (ha.of y) (hb.of y)).mono <| by rintro τ H Q ⟨σ,S,R,Z,aw,hS,q,hR,hZ⟩;exact
  ⟨σ,S,_,Z,aw,hS,q,by
   rintro d S1 x H1 ⟨c,e,r1⟩ v1 s1 k1
   subst e
   refine⟨c,v1.bl,?_⟩
   cases c with
   |true=>rw[if_pos rfl] at r1 ⊢;exact⟨σ,S1,R,Z,aw.ts k1,s1,r1,hR.kp k1,hZ.kp k1⟩
   |false=>rw[if_neg zg] at r1 ⊢;exact hR _ S1 _ H1 r1 (aX false) s1 k1,hZ⟩⟩
theorem PZ{a b:Expr}{rest:List Expr}{ta tb:TD}{pos:Pos}(ha:DE K X a ta)(hb:DE K X (.BoolOp .Or (b::rest) pos) tb):DE K X (.BoolOp .Or (a::b::rest) pos) (PY ta tb) :=
 ⟨fun y=>(Kk (ha.of y) (hb.of y)).mono <| by rintro τ H Q ⟨σ,S,R,Z,aw,hS,q,hR,hZ⟩;exact
  ⟨σ,S,_,Z,aw,hS,q,by
   rintro d S1 x H1 ⟨c,e,r1⟩ v1 s1 k1
   subst e
   refine⟨c,v1.bl,?_⟩
   cases c with
   |false=>rw[if_neg zg] at r1 ⊢;exact⟨σ,S1,R,Z,aw.ts k1,s1,r1,hR.kp k1,hZ.kp k1⟩
   |true=>rw[if_pos rfl] at r1 ⊢;exact hR _ S1 _ H1 r1 (aX true) s1 k1,hZ⟩⟩
theorem Iw(ha:DE K X a ta):DE K X (.UnaryOp .Not a pos) (LQ ta) :=
 ⟨fun y=>(Hb (ha.of y)).mono <| by rintro τ H Q ⟨σ,S,R,Z,aw,hS,q,hR,hZ⟩;exact
  ⟨σ,S,_,Z,aw,hS,q,by rintro d S1 x H1 ⟨c,e,r1⟩ v1 s1 k1;exact by subst e;exact⟨c,v1.bl,hR _ S1 _ H1 r1 (aX _) s1 k1⟩,hZ⟩⟩
def P0(t:o_):o_:=fun σ S R Z=>t σ S (fun c S1=>R (!c) S1) Z
def Ue(t u:o_):o_:=fun σ S R Z=>t σ S (fun c S1=>if c=true then R true S1 else u σ S1 R Z) Z
theorem cy{t:o_}(ha:DT K X a t):DT K X (.UnaryOp .Not a pos) (P0 t) :=
 ⟨fun y=>(G9 (ha.of y)).mono <| by rintro τ H Q ⟨σ,S,R,Z,aw,hS,q,hR,hZ⟩;exact⟨σ,S,_,Z,aw,hS,q,fun c S1 H1 r1 s1 k1=>hR _ S1 H1 r1 s1 k1,hZ⟩⟩
structure DW(K:Frag)(X:Cx)(e:Expr)(t:o_):Prop where
 of:∀{b:Bool} (y:Ev X b),PW y.cx e (Tt K y.E t)
theorem PW.mono{t t':TT}(h:PW X e t)(i:∀τ H Q,t' τ H Q→t τ H Q):PW X e t':=fun wh pins s τ H Q I q=>h wh pins s τ H Q I (i τ H Q q)
theorem twd{t:o_}(h:DW K X e t):DT K X e t:=⟨fun y=>(h.of y).pt⟩
theorem tw1{t:o_}(h:DT K X a t):DW K X (.BoolOp op [a] pos) t:=⟨fun y=>by
 cases op with
 |And=>exact pw_and1 (h.of y)
 |Or=>exact pw_or1 (h.of y)⟩
theorem twor{a b:Expr}{rest:List Expr}{t u:o_}{pos:Pos}(ha:DT K X a t)(hb:DW K X (.BoolOp .Or (b::rest) pos) u):DW K X (.BoolOp .Or (a::b::rest) pos) (Ue t u) :=
 ⟨fun y=>(pw_or (ha.of y) (hb.of y)).mono <| by rintro τ H Q ⟨σ,S,R,Z,aw,hS,q,hR,hZ⟩;exact
  ⟨σ,S,_,Z,aw,hS,q,fun c S1 H1 r1 s1 k1=>by
   cases c with
   |false=>rw[if_neg zg] at r1 ⊢;exact⟨σ,S1,R,Z,aw.ts k1,s1,r1,hR.kp k1,hZ.kp k1⟩
   |true=>rw[if_pos rfl] at r1 ⊢;exact hR _ S1 H1 r1 s1 k1,hZ⟩⟩
def P1(t:o_)(ta tb:TD):TD:=fun σ S R Z=>t σ S (fun c S1=>if c=true then ta σ S1 R Z else tb σ S1 R Z) Z
theorem Ug{t:o_}(hc:DT K X c t)(ha:DE K X a ta)(hb:DE K X b tb):DE K X (.IfExp c a b pos) (P1 t ta tb) :=
 ⟨fun y=>(Bj (hc.of y) (ha.of y) (hb.of y)).mono <| by rintro τ H Q ⟨σ,S,R,Z,aw,hS,q,hR,hZ⟩;exact
  ⟨σ,S,_,Z,aw,hS,q,fun c S1 H1 r1 s1 k1=>by
   cases c with
   |true=>rw[if_pos rfl] at r1 ⊢;exact⟨σ,S1,R,Z,aw.ts k1,s1,r1,hR.kp k1,hZ.kp k1⟩
   |false=>rw[if_neg zg] at r1 ⊢;exact⟨σ,S1,R,Z,aw.ts k1,s1,r1,hR.kp k1,hZ.kp k1⟩,hZ⟩⟩
def P2(t:iw):TD:=fun σ S R Z=>t σ S (fun ds S1=>ds.length≤sizeLine∧∀p,S1 p=none→R (.ref p) (S1.set p (.lst ds))) Z
def P4(t:iw):TD:=fun σ S R Z=>t σ S (fun ds S1=>ds.length≤sizeLine∧R (.tup ds) S1) Z
theorem bE{t:iw}(h:DA K X es t):DE K X (.List es pos) (P2 t) :=
 ⟨fun y=>(Hw (h.of y)).mono <| by rintro τ H Q ⟨σ,S,R,Z,aw,hS,q,hR,hZ⟩;exact
  ⟨σ,S,_,Z,aw,hS,q,by rintro ds S1 xs H1 ⟨hl,r1⟩ v1 s1 k1;exact⟨by rw[v1.len];exact hl,fun p hp=>hR _ _ _ _ (r1 p (s1.fresh hp)) (dk p) (s1.new hp ⟨xs,aU,RvAll.ts (.new hp) _ v1⟩) (k1.trans (.new hp))⟩,hZ⟩⟩
theorem eB{t:iw}(h:DA K X es t):DE K X (.Tuple es x1 pos) (P4 t) :=
 ⟨fun y=>(Hv (h.of y)).mono <| by rintro τ H Q ⟨σ,S,R,Z,aw,hS,q,hR,hZ⟩;exact
  ⟨σ,S,_,Z,aw,hS,q,by rintro ds S1 xs H1 ⟨hl,r1⟩ v1 s1 k1;exact⟨by rw[v1.len];exact hl,fun p hp=>hR _ _ _ _ r1 (iu aU (RvAll.ts (.new hp) _ v1)) (s1.grow hp) (k1.trans (.new hp))⟩,hZ⟩⟩
def Lc(K:Frag)(r:List D→aQ→KD→Prop):List V→Hp→VK→Prop:=fun xs H Q=>∃ds S R,RvAll K H ds xs∧Rs K S H∧r ds S R∧Cn K H R Q
def iy(K:Frag)(f:Value)(r:List D→aQ→KD→Prop):Prop:=∀X:Cx,X.K=K→X.calm=true→dA X f (Lc K r)
def JX(r:List D→aQ→KD→Prop)(t:iw):TD:=fun σ S R Z=>t σ S (fun ds S1=>r ds S1 R) Z
theorem T.cb{t:iw}(h:T K E (JX r t) τ H Q):OP (Lc K r) (Ta K E t) τ H Q:=by
 obtain⟨σ,S,R,Z,aw,hS,q,hR,hZ⟩:=h
 exact⟨σ,S,_,Z,aw,hS,q,fun ds S1 xs H1 r1 v1 s1 k1=>⟨ds,S1,R,v1,s1,r1,hR.kp k1⟩,hZ⟩
theorem cb{x:Str}{id:String}{r:List D→aQ→KD→Prop}{e:Expr}{es:List Expr}{t:iw}{p pos:Pos}(hc:iy K (.builtin id) r)(hm:X.mg x=none)(hv:bootBuiltins x=some (.builtin id))(ha:DA K X (e::es) t)(hg:Gl X x:=by rfl)
  (hn:x ≠ "__name__" := by decide) (ng:(x == ("__debug__" : Str))=false:=by decide) (he:starEach (e::es) X.env=(false,eval e X.env)::starEach es X.env:=by rfl) (jl:(backTo pos (starEach es X.env)).any (·.1)=false:=by rfl) (hK:X.K=K:=by rfl) (hC:X.calm=true:=by rfl) :
  DE K X (.Call (.Name x p) (e::es) [] pos) (JX r t) :=
 ⟨fun y=>(nc (X:=y.cx) (hc _ hK hC) hg hm hv (ha.of y) hn ng he jl).mono fun _ _ _ h=>h.cb⟩
theorem ct{x:Str}{id:String}{r:List D→aQ→KD→Prop}{e:Expr}{es:List Expr}{t:iw}{p pos:Pos}(hc:iy K (.type id) r)(hm:X.mg x=none)(hv:bootBuiltins x=some (.type id))(ha:DA K X (e::es) t)(hg:Gl X x:=by rfl)
  (hn:x ≠ "__name__" := by decide) (ng:(x == ("__debug__" : Str))=false:=by decide) (he:starEach (e::es) X.env=(false,eval e X.env)::starEach es X.env:=by rfl) (jl:(backTo pos (starEach es X.env)).any (·.1)=false:=by rfl) (hK:X.K=K:=by rfl) (hC:X.calm=true:=by rfl) :
  DE K X (.Call (.Name x p) (e::es) [] pos) (JX r t) :=
 ⟨fun y=>(kQ (X:=y.cx) (hc _ hK hC) hg hm hv (ha.of y) hn ng he jl).mono fun _ _ _ h=>h.cb⟩
end
section
variable{K:Frag}
theorem Cn.now(h:Cn K H R Q)(hS:Rs K S H)(r:R d S)(rv:Rv K H d v):Q v H:=h d S v H r rv hS (.refl _)
theorem Cn.new{H:Hp}{R:KD}{Q:VK}{S:aQ}{p:Addr}{ds:List D}{xs:List V}(h:Cn K H R Q)(hS:Rs K S H)(hp:H p=none)(r:S p=none→R (.ref p) (S.set p (.lst ds)))(rv:RvAll K H ds xs):Q (.ref p) (upd H p (.lst xs)) :=
 h _ _ _ _ (r (hS.fresh hp)) (dk p) (hS.new hp ⟨xs,aU,RvAll.ts (.new hp) _ rv⟩) (.new hp)
theorem Cn.Iy{H:Hp}{R:KD}{Q:VK}{S:aQ}{p:Addr}{ds:List D}{xs:List V}(h:Cn K H R Q)(hS:Rs K S H)(hp:H p=none)(r:R (.tup ds) S)(rv:RvAll K H ds xs):Q (.ref p) (upd H p (.tup xs)) :=
 h _ _ _ _ r (iu aU (RvAll.ts (.new hp) _ rv)) (hS.grow hp) (.new hp)
theorem Cn.put{H:Hp}{R:KD}{Q:VK}{S:aQ}{p:Addr}{ds es:List D}{xs:List V}{d:D}{v:V}(h:Cn K H R Q)(hS:Rs K S H)(hp:S p=some (.lst es))(r:R d (S.set p (.lst ds)))(rd:Rv K H d v)(rv:RvAll K H ds xs):Q v (upd H p (.lst xs)) :=
 h _ _ _ _ r (Rv.ts (hS.nD hp) _ rd) (hS.put hp ⟨xs,aU,RvAll.ts (hS.nD hp) _ rv⟩) (hS.nD hp)
def ph(S:aQ):D→List D→Prop
 |.ref a,ds=>S a=some (.lst ds)
 |.ir es,ds=>es=ds
 |_,_=>False
theorem ph.at{H:Hp}{S:aQ}{d:D}{ds:List D}{v:V}(h:ph S d ds)(hS:Rs K S H)(r:Rv K H d v):∃a xs,v=.ref a∧gT K H a xs∧RvAll K H ds xs:=by
 cases d with
 |ref a =>
  obtain⟨xs,e,q⟩:=hS.lst h
  exact⟨a,xs,r.ref,.of e,q⟩
 |ir es =>
  have h:es=ds:=h
  subst h
  obtain⟨a,xs,e,q,t⟩:=r.ir
  exact⟨a,xs,e,q.sq,t⟩
 |_=>exact h.elim
def LR:sO:=fun x y S R=>match x,y with
 |.int i,.int j=>R (.int (i+j)) S
 |.str a,.str b=>a.length+b.length≤sizeLine∧R (.str (a++b)) S
 |.tup a,.tup b=>a.length+b.length≤sizeLine∧R (.tup (a++b)) S
 |.ref a,.ref b=>∃xs ys,S a=some (.lst xs)∧S b=some (.lst ys)∧xs.length+ys.length≤sizeLine∧∀p,S p=none→R (.ref p) (S.set p (.lst (xs++ys)))
 |_,_=>False
theorem au:mO K (binaryOp .Add) LR:=by
 rintro X hK hu pins s σ H x y v u Q I rx ry ⟨d,e,S,R,r1,r2,hS,h,hR⟩
 subst hK
 cases d with
 |int i =>
  cases e with
  |int j=>exact Hl pins s σ H x y v u Q I rx ry ⟨i,j,r1.int,r2.int,hR.now hS h (aA _)⟩
  |_=>exact h.elim
 |str i =>
  cases e with
  |str j=>exact vi pins s σ H x y v u Q I rx ry ⟨i,j,r1.str,r2.str,h.1,hR.now hS h.2 (dj _)⟩
  |_=>exact h.elim
 |tup i =>
  cases e with
  |tup j =>
   obtain⟨a,xs,rfl,q1,t1⟩:=r1.tup
   obtain⟨b,ys,rfl,q2,t2⟩:=r2.tup
   refine EF pins s σ H _ _ v u Q I rx ry ⟨a,b,xs,ys,rfl,rfl,.of q1,.of q2,by rw[t1.len,t2.len];exact h.1,fun e=>?_,fun _ e=>?_,fun _ _ p hp=>hR.Iy hS hp h.2 (t1.app t2)⟩
   ·subst e
    have:i=[]:=List.length_eq_zero_iff.mp t1.len.symm
    subst this
    exact hR.now hS h.2 (iu q2 t2)
   ·subst e
    have:j=[]:=List.length_eq_zero_iff.mp t2.len.symm
    subst this
    exact hR.now hS h.2 (by rw[List.append_nil];exact iu q1 t1)
  |_=>exact h.elim
 |ref a =>
  cases e with
  |ref b =>
   obtain⟨xs,ys,e1,e2,hl,q⟩:=h
   obtain⟨vs,h1,t1⟩:=hS.lst e1
   obtain⟨ws,h2,t2⟩:=hS.lst e2
   exact HG pins s σ H x y v u Q I rx ry ⟨a,b,vs,ws,r1.ref,r2.ref,h1,h2,by rw[t1.len,t2.len];exact hl,fun p hp=>hR.new hS hp (q p) (t1.app t2)⟩
  |_=>exact h.elim
 |_=>exact h.elim
def P5:sO:=fun x y S R=>match x,y with
 |.int i,.int j=>R (.int (i - j)) S
 |_,_=>False
theorem jV:mO K (binaryOp .Sub) P5:=by
 rintro X hK hu pins s σ H x y v u Q I rx ry ⟨d,e,S,R,r1,r2,hS,h,hR⟩
 cases d <;> cases e <;> first|exact False.elim h|exact Hm pins s σ H x y v u Q I rx ry ⟨_,_,r1.int,r2.int,hR.now hS h (aA _)⟩
def P6:sO:=fun x y S R=>match x,y with
 |.int i,.int j=>D8 i j∧R (.int (i * j)) S
 |.str z,.int n=>MulOk z n∧R (.str (PySem.Txt.mul z n)) S
 |_,_=>False
theorem bF:mO K (binaryOp .Mult) P6:=by
 rintro X hK hu pins s σ H x y v u Q I rx ry ⟨d,e,S,R,r1,r2,hS,h,hR⟩
 cases d <;> cases e <;> first
  |exact False.elim h
  |exact Hn pins s σ H x y v u Q I rx ry ⟨_,_,r1.int,r2.int,h.1,hR.now hS h.2 (aA _)⟩
  |exact vI pins s σ H x y v u Q I rx ry ⟨_,_,r1.str,r2.int,h.1,hR.now hS h.2 (dj _)⟩
def P7:sO:=fun x y S R=>match x,y with
 |.int i,.int j=>0<j∧R (.int (i % j)) S
 |_,_=>False
theorem nG:mO K (binaryOp .Mod) P7:=by
 rintro X hK hu pins s σ H x y v u Q I rx ry ⟨d,e,S,R,r1,r2,hS,h,hR⟩
 cases d <;> cases e <;> first|exact False.elim h|exact Ho pins s σ H x y v u Q I rx ry ⟨_,_,r1.int,r2.int,h.1,hR.now hS h.2 (aA _)⟩
def LS:sO:=fun x y S R=>match x,y with
 |.int i,.int j=>Gj i j∧R (.int (i / j)) S
 |_,_=>False
theorem nH:mO K (binaryOp .FloorDiv) LS:=by
 rintro X hK hu pins s σ H x y v u Q I rx ry ⟨d,e,S,R,r1,r2,hS,h,hR⟩
 cases d <;> cases e <;> first|exact False.elim h|exact BE pins s σ H x y v u Q I rx ry ⟨_,_,r1.int,r2.int,h.1,hR.now hS h.2 (aA _)⟩
def P8:sO:=fun x y S R=>match x,y with
 |.int i,.int j=>KG i j∧R (.int (i ^ j.toNat)) S
 |_,_=>False
theorem Gx:mO K (binaryOp .Pow) P8:=by
 rintro X hK hu pins s σ H x y v u Q I rx ry ⟨d,e,S,R,r1,r2,hS,h,hR⟩
 cases d <;> cases e <;> first|exact False.elim h|exact Hq pins s σ H x y v u Q I rx ry ⟨_,_,r1.int,r2.int,h.1,hR.now hS h.2 (aA _)⟩
def B2(f:Int→Int→Bool)(g:Str→Str→Bool):sO:=fun x y S R=>match x,y with
 |.int i,.int j=>R (.bl (f i j)) S
 |.str i,.str j=>R (.bl (g i j)) S
 |_,_=>False
theorem xq(h1:∀X:Cx,fh X (compareOp op) (D6 fun i j=>.bl (f i j)))
  (h2:∀X:Cx,fh X (compareOp op) (fun x y H Q=>∃i j,x=.str i∧y=.str j∧Q (.bl (g i j)) H)):mO K (compareOp op) (B2 f g):=by
 rintro X hK hu pins s σ H x y v u Q I rx ry ⟨d,e,S,R,r1,r2,hS,h,hR⟩
 cases d <;> cases e <;> first
  |exact False.elim h
  |exact h1 X pins s σ H x y v u Q I rx ry ⟨_,_,r1.int,r2.int,hR.now hS h (aX _)⟩
  |exact h2 X pins s σ H x y v u Q I rx ry ⟨_,_,r1.str,r2.str,hR.now hS h (aX _)⟩
theorem Iz:mO K (compareOp .Lt) (B2 (fun i j=>decide (i<j)) fun i j=>O8 i j):=xq (fun _=>KI) fun _=>yU
theorem dm:mO K (compareOp .LtE) (B2 (fun i j=>decide (i≤j)) fun i j=>oY i j):=xq (fun _=>KJ) fun _=>Ad
theorem IA:mO K (compareOp .Gt) (B2 (fun i j=>decide (j<i)) fun i j=>O8 j i):=xq (fun _=>KL) fun _=>Af
theorem P9:mO K (compareOp .GtE) (B2 (fun i j=>decide (j≤i)) fun i j=>oY j i):=xq (fun _=>KN) fun _=>Ae
def jB:D→Bool
 |.ax=>true
 |_=>false
theorem tT(r:Rv K H d v):decide (v=.ax)=jB d:=by
 cases d with
 |ax=>rw[r.ax];rfl
 |bl b=>rw[r.bl];rfl
 |int b=>rw[r.int];rfl
 |str b=>rw[r.str];rfl
 |ref b=>rw[r.ref];rfl
 |ty b=>rw[r.ty];rfl
 |tup b=>obtain⟨a,xs,rfl,_⟩:=r.tup;rfl
 |ir b=>obtain⟨a,xs,rfl,_⟩:=r.ir;rfl
 |kt b=>obtain⟨a,xs,rfl,_⟩:=r.kt;rfl
def Uh:sO:=fun x y S R=>match y with
 |.ax=>R (.bl (jB x)) S
 |_=>False
def LU:sO:=fun x y S R=>match y with
 |.ax=>R (.bl (!jB x)) S
 |_=>False
theorem IB:mO K (compareOp .Is) Uh:=by
 rintro X hK hu pins s σ H x y v u Q I rx ry ⟨d,e,S,R,r1,r2,hS,h,hR⟩
 cases e <;> first|exact False.elim h|exact Hs pins s σ H x y v u Q I rx ry ⟨r2.ax,by rw[tT r1];exact hR.now hS h (aX _)⟩
theorem B3:mO K (compareOp .IsNot) LU:=by
 rintro X hK hu pins s σ H x y v u Q I rx ry ⟨d,e,S,R,r1,r2,hS,h,hR⟩
 cases e <;> first|exact False.elim h|exact D9 pins s σ H x y v u Q I rx ry ⟨r2.ax,by rw[tT r1];exact hR.now hS h (aX _)⟩
mutual
def Dp(S:aQ):D→PyData→Prop
 |.ax,p=>p=.none
 |.bl b,p=>p=.bool b
 |.int i,p=>p=.int i
 |.str z,p=>p=.str z
 |.tup ds,p=>∃ps,p=.tuple ps∧DpAll S ds ps
 |.ir ds,p=>∃ps,p=.list ps∧DpAll S ds ps
 |.kt _,_=>False
 |.ref _,_=>False
 |.ty _,_=>False
def DpAll(S:aQ):List D→List PyData→Prop
 |[],ps=>ps=[]
 |d::ds,ps=>∃q qs,ps=q::qs∧Dp S d q∧DpAll S ds qs
end
mutual
theorem Dp.dt:∀(d:D) {p:PyData}{v:V},Dp S d p→Rv K H d v→Dt K H p v
 |.ax,p,v,h,r=>by simp only [Dp] at h;subst h;simp only [Dt];exact r.ax
 |.bl b,p,v,h,r=>by simp only [Dp] at h;subst h;simp only [Dt];exact r.bl
 |.int b,p,v,h,r=>by simp only [Dp] at h;subst h;simp only [Dt];exact r.int
 |.str b,p,v,h,r=>by simp only [Dp] at h;subst h;simp only [Dt];exact r.str
 |.tup ds,p,v,h,r=>by
  simp only [Dp] at h
  obtain⟨ps,rfl,h⟩:=h
  obtain⟨a,xs,rfl,q,t⟩:=r.tup
  simp only [Dt]
  exact⟨a,xs,rfl,.of q,DpAll.dt ds h t⟩
 |.ir ds,p,v,h,r=>by
  simp only [Dp] at h
  obtain⟨ps,rfl,h⟩:=h
  obtain⟨a,xs,rfl,q,t⟩:=r.ir
  simp only [Dt]
  exact⟨a,xs,rfl,q.sq,DpAll.dt ds h t⟩
 |.kt a,p,v,h,r=>by simp only [Dp] at h
 |.ref a,p,v,h,r=>by simp only [Dp] at h
 |.ty a,p,v,h,r=>by simp only [Dp] at h
theorem DpAll.dt:∀(ds:List D) {ps:List PyData}{vs:List V},DpAll S ds ps→RvAll K H ds vs→DtAll K H ps vs
 |[],ps,vs,h,r=>by simp only [DpAll] at h;subst h;rw[r.nil];simp only [DtAll]
 |d::ds,ps,vs,h,r=>by
  simp only [DpAll] at h
  obtain⟨q,qs,rfl,h1,h2⟩:=h
  obtain⟨y,ys,rfl,r1,r2⟩:=r.cons
  simp only [DtAll]
  exact⟨y,ys,rfl,Dp.dt d h1 r1,DpAll.dt ds h2 r2⟩
end
def Dl(S:aQ):D→PyData→Prop
 |.ref a,p=>∃ds ps,S a=some (.lst ds)∧p=.list ps∧DpAll S ds ps
 |d,p=>Dp S d p
theorem Dl.dt(h:Dl S d p)(hS:Rs K S H)(r:Rv K H d v):Dt K H p v:=by
 cases d with
 |ref a =>
  obtain⟨ds,ps,e,rfl,h⟩:=h
  obtain⟨xs,e1,t⟩:=hS.lst e
  rw[r.ref]
  simp only [Dt]
  exact⟨a,xs,rfl,.of e1,DpAll.dt ds h t⟩
 |_=>exact Dp.dt _ h r
def JY(neg:Bool):sO:=fun x y S R=>match x,y with
 |.int i,.int j=>R (.bl (if neg then !decide (i=j) else decide (i=j))) S
 |.str i,.str j=>R (.bl (if neg then !decide (i=j) else decide (i=j))) S
 |x,y=>∃p q,Dl S x p∧Dl S y q∧p.canLay0=true∧q.canLay0=true∧(p.depth≤64∨q.depth≤64)∧R (.bl (if neg then !PyData.eqv p q else PyData.eqv p q)) S
theorem B4(h:JY neg x y S R):(∃i j,x=.int i∧y=.int j∧R (.bl (if neg then !decide (i=j) else decide (i=j))) S)∨(∃i j,x=.str i∧y=.str j∧R (.bl (if neg then !decide (i=j) else decide (i=j))) S) ∨
  ∃p q,Dl S x p∧Dl S y q∧p.canLay0=true∧q.canLay0=true∧(p.depth≤64∨q.depth≤64)∧R (.bl (if neg then !PyData.eqv p q else PyData.eqv p q)) S:=by
 cases x <;> cases y <;> first|exact .inl ⟨_,_,rfl,rfl,h⟩|exact .inr (.inl ⟨_,_,rfl,rfl,h⟩)|exact .inr (.inr h)
theorem fG:mO K (compareOp .Eq) (JY false):=by
 rintro X hK hu pins s σ H x y v u Q I rx ry ⟨d,e,S,R,r1,r2,hS,h,hR⟩
 subst hK
 rcases B4 h with ⟨i,j,rfl,rfl,h⟩|⟨i,j,rfl,rfl,h⟩|⟨p,q,h1,h2,c1,c2,dp,h⟩
 ·cases r1.int;cases r2.int
  refine Ga pins s σ H _ _ v u Q I rx ry ⟨rfl,?_⟩
  have e:decide (V.int i=V.int j)=decide (i=j):=by simp
  rw[e];exact hR.now hS h (aX _)
 ·cases r1.str;cases r2.str
  refine Ga pins s σ H _ _ v u Q I rx ry ⟨rfl,?_⟩
  have e:decide (V.str i=V.str j)=decide (i=j):=by simp
  rw[e];exact hR.now hS h (aX _)
 ·exact HV hu pins s σ H x y v u Q I rx ry ⟨p,q,h1.dt hS r1,h2.dt hS r2,c1,c2,dp,hR.now hS h (aX _)⟩
theorem fN:mO K (compareOp .NotEq) (JY true):=by
 rintro X hK hu pins s σ H x y v u Q I rx ry ⟨d,e,S,R,r1,r2,hS,h,hR⟩
 subst hK
 rcases B4 h with ⟨i,j,rfl,rfl,h⟩|⟨i,j,rfl,rfl,h⟩|⟨p,q,h1,h2,c1,c2,dp,h⟩
 ·cases r1.int;cases r2.int
  refine Gb pins s σ H _ _ v u Q I rx ry ⟨rfl,?_⟩
  have e:decide (V.int i=V.int j)=decide (i=j):=by simp
  rw[e];exact hR.now hS h (aX _)
 ·cases r1.str;cases r2.str
  refine Gb pins s σ H _ _ v u Q I rx ry ⟨rfl,?_⟩
  have e:decide (V.str i=V.str j)=decide (i=j):=by simp
  rw[e];exact hR.now hS h (aX _)
 ·exact HW hu pins s σ H x y v u Q I rx ry ⟨p,q,h1.dt hS r1,h2.dt hS r2,c1,c2,dp,hR.now hS h (aX _)⟩
def cS(kvs:List (Key×D))(k:Key):Option D:=(kvs.find? fun kv=>decide (kv.1=k)).map (·.2)
def dput(kvs:List (Key×D))(k:Key)(v:D):List (Key×D):=if (kvs.any fun kv=>decide (kv.1=k))=true then kvs.map (fun kv=>if kv.1=k then (kv.1,v) else kv) else kvs++[(k,v)]
theorem dD.val(h:dD K H ks vs)(k:Key):(∀d,cS ks k=some d→∃v,jT vs k=some v∧Rv K H d v)∧(cS ks k=none→jT vs k=none):=by
 induction h with
 |nil=>exact⟨fun d e=>(by cases e),fun _=>rfl⟩
 |@cons a b l m r t ih =>
  obtain⟨k',d⟩:=a
  obtain⟨WQ,v⟩:=b
  obtain⟨e0,r⟩:=r
  dsimp only at e0
  subst e0
  unfold cS jT
  simp only [yw]
  by_cases q:k'=k
  ·rw[zy q];exact⟨fun d' e=>⟨v,rfl,(by cases e;exact r)⟩,fun e=>(by cases e)⟩
  ·rw[zv q];exact ih
theorem dD.any(h:dD K H ks vs)(k:Key):(ks.any fun kv=>decide (kv.1=k))=(vs.any fun kv=>decide (kv.1=k)):=by
 induction h with
 |nil=>rfl
 |cons r t ih=>rw[yG,yG,ih,r.1]
theorem dD.len(h:dD K H ks vs):vs.length=ks.length:=(Paired.length h).symm
theorem dD.app:∀{ks ls:List (κ×D)}{vs ws:List (κ×V)},dD K H ks vs→dD K H ls ws→dD K H (ks++ls) (vs++ws)
 |_,_,_,_,.nil,h=>h
 |_,_,_,_,.cons r t,h=>.cons r (dD.app t h)
theorem dD.HH(h:dD K H ks vs)(k:Key)(rd:Rv K H d v):dD K H (ks.map fun kv=>if kv.1=k then (kv.1,d) else kv) (vs.map fun kv=>if kv.1=k then (kv.1,v) else kv):=by
 induction h with
 |nil=>exact .nil
 |@cons a b l m r t ih =>
  refine .cons ?_ ih
  dsimp only
  by_cases q:b.1=k
  ·rw[if_pos q,if_pos (r.1.trans q)];exact⟨r.1,rd⟩
  ·rw[if_neg q,if_neg fun z=>q (r.1.symm.trans z)];exact r
theorem dD.put(h:dD K H ks vs)(k:Key)(rd:Rv K H d v):dD K H (dput ks k d) (putK vs k v):=by
 unfold dput putK
 rw[h.any k]
 split
 ·exact h.HH k rd
 ·exact h.app (.cons ⟨rfl,rd⟩ .nil)
def IC:D→Option Key
 |.int i=>some (.inl i)
 |.str z=>some (.inr z)
 |_=>none
theorem vM(h:IC d=some k)(r:Rv K H d v):v=kV k:=by
 cases d with
 |int i=>cases h;exact r.int
 |str i=>cases h;exact r.str
 |_=>cases h
def jW:D→Bool
 |.ax=>true|.bl _=>true|.int _=>true|.str _=>true
 |_=>false
def jO:D→V
 |.ax=>.ax|.bl b=>.bl b|.int i=>.int i|.str z=>.str z|.ref a=>.ref a|.ty n=>.ty n
 |_=>.ax
theorem jC(h:jW d=true)(r:Rv K H d v):v=jO d∧jm v=true:=by
 cases d with
 |ax=>cases r.ax;exact⟨rfl,rfl⟩
 |bl b=>cases r.bl;exact⟨rfl,rfl⟩
 |int b=>cases r.int;exact⟨rfl,rfl⟩
 |str b=>cases r.str;exact⟨rfl,rfl⟩
 |_=>cases h
theorem gx:∀{ds:List D}{vs:List V},ds.all jW=true→RvAll K H ds vs→vs=ds.map jO∧vs.all jm=true
 |[],vs,_,r=>by rw[r.nil];exact⟨rfl,rfl⟩
 |d::ds,vs,h,r=>by
  obtain⟨y,ys,rfl,r1,r2⟩:=r.cons
  rw[yF,zj] at h
  obtain⟨e1,f1⟩:=jC h.1 r1
  obtain⟨e2,f2⟩:=gx h.2 r2
  refine⟨by rw[e1,e2];rfl,?_⟩
  rw[yF,f1,f2];rfl
def inD(neg:Bool):sO:=fun x y S R=>match y with
 |.str j=>∃i,x=.str i∧R (.bl (if neg then !(!(Builtin.Str.occurrences j i 0 j.length 1).isEmpty) else !(Builtin.Str.occurrences j i 0 j.length 1).isEmpty)) S
 |.kt ds=>jW x=true∧ds.all jW=true∧R (.bl (if neg then !uV (jO x) (ds.map jO) else uV (jO x) (ds.map jO))) S
 |.tup ds=>jW x=true∧ds.all jW=true∧R (.bl (if neg then !uV (jO x) (ds.map jO) else uV (jO x) (ds.map jO))) S
 |.ref a=>(∃ds,S a=some (.lst ds)∧jW x=true∧ds.all jW=true∧R (.bl (if neg then !uV (jO x) (ds.map jO) else uV (jO x) (ds.map jO))) S) ∨
   ∃kvs k,S a=some (.fJ kvs)∧IC x=some k∧R (.bl (if neg then !(cS kvs k).isSome else (cS kvs k).isSome)) S
 |_=>False
theorem mP(hS:Rs K S H)(e:S a=some (.fJ kvs)):∃o,nq H a (kV k) o∧o.isSome=(cS kvs k).isSome∧∀d,cS kvs k=some d→∃v,o=some v∧Rv K H d v:=by
 obtain⟨vs,e1,t⟩:=hS.fJ e
 refine⟨_,nq.k e1,?_,fun d h=>(t.val k).1 d h⟩
 cases q:cS kvs k with
 |none=>rw[(t.val k).2 q];rfl
 |some d=>obtain⟨v,e2,_⟩:=(t.val k).1 d q;rw[e2];rfl
theorem B5:mO K (compareOp .In) (inD false):=by
 rintro X hK hu pins s σ H x y v u Q I rx ry ⟨d,e,S,R,r1,r2,hS,h,hR⟩
 subst hK
 cases e with
 |str j =>
  obtain⟨i,rfl,h⟩:=h
  exact yV pins s σ H x y v u Q I rx ry ⟨i,j,r1.str,r2.str,hR.now hS h (aX _)⟩
 |tup ds =>
  obtain⟨f1,f2,h⟩:=h
  obtain⟨a,xs,rfl,q,t⟩:=r2.tup
  obtain⟨e1,g1⟩:=jC f1 r1
  obtain⟨e2,g2⟩:=gx f2 t
  subst e1 e2
  exact kR pins s σ H _ _ v u Q I rx ry ⟨a,_,rfl,.inr (.of q),g1,g2,hR.now hS h (aX _)⟩
 |kt ds =>
  obtain⟨f1,f2,h⟩:=h
  obtain⟨a,xs,rfl,q,t⟩:=r2.kt
  obtain⟨e1,g1⟩:=jC f1 r1
  obtain⟨e2,g2⟩:=gx f2 t
  subst e1 e2
  exact kR pins s σ H _ _ v u Q I rx ry ⟨a,_,rfl,.inr (.inr q),g1,g2,hR.now hS h (aX _)⟩
 |ref a =>
  cases r2.ref
  rcases h with ⟨ds,e,f1,f2,h⟩|⟨kvs,k,e,hk,h⟩
  ·obtain⟨xs,e1,t⟩:=hS.lst e
   obtain⟨e2,g1⟩:=jC f1 r1
   obtain⟨e3,g2⟩:=gx f2 t
   subst e2 e3
   exact kR pins s σ H _ _ v u Q I rx ry ⟨a,_,rfl,.inl (.of e1),g1,g2,hR.now hS h (aX _)⟩
  ·cases vM hk r1
   cases ry
   obtain⟨o,g,e1,_⟩:=mP (k:=k) hS e
   refine O5 (by lia) I g rx fun s' I'=>⟨.bl o.isSome,H,I',rfl,?_⟩
   rw[e1];exact hR.now hS h (aX _)
 |_=>exact h.elim
theorem Gy:mO K (compareOp .NotIn) (inD true):=by
 rintro X hK hu pins s σ H x y v u Q I rx ry ⟨d,e,S,R,r1,r2,hS,h,hR⟩
 subst hK
 cases e with
 |str j =>
  obtain⟨i,rfl,h⟩:=h
  exact qX pins s σ H x y v u Q I rx ry ⟨i,j,r1.str,r2.str,hR.now hS h (aX _)⟩
 |tup ds =>
  obtain⟨f1,f2,h⟩:=h
  obtain⟨a,xs,rfl,q,t⟩:=r2.tup
  obtain⟨e1,g1⟩:=jC f1 r1
  obtain⟨e2,g2⟩:=gx f2 t
  subst e1 e2
  exact gv pins s σ H _ _ v u Q I rx ry ⟨a,_,rfl,.inr (.of q),g1,g2,hR.now hS h (aX _)⟩
 |kt ds =>
  obtain⟨f1,f2,h⟩:=h
  obtain⟨a,xs,rfl,q,t⟩:=r2.kt
  obtain⟨e1,g1⟩:=jC f1 r1
  obtain⟨e2,g2⟩:=gx f2 t
  subst e1 e2
  exact gv pins s σ H _ _ v u Q I rx ry ⟨a,_,rfl,.inr (.inr q),g1,g2,hR.now hS h (aX _)⟩
 |ref a =>
  cases r2.ref
  rcases h with ⟨ds,e,f1,f2,h⟩|⟨kvs,k,e,hk,h⟩
  ·obtain⟨xs,e1,t⟩:=hS.lst e
   obtain⟨e2,g1⟩:=jC f1 r1
   obtain⟨e3,g2⟩:=gx f2 t
   subst e2 e3
   exact gv pins s σ H _ _ v u Q I rx ry ⟨a,_,rfl,.inl (.of e1),g1,g2,hR.now hS h (aX _)⟩
  ·cases vM hk r1
   cases ry
   obtain⟨o,g,e1,_⟩:=mP (k:=k) hS e
   refine Ek (by lia) I g rx fun s' I'=>⟨.bl (!o.isSome),H,I',rfl,?_⟩
   rw[e1];exact hR.now hS h (aX _)
 |_=>exact h.elim
def Ui(K:Frag)(r:sO):Prop:=∀X:Cx,X.K=K→X.A.units+64<cLine→KY X (Lr K r)
def RM:sO:=fun x y S R=>match x,y with
 |.tup ds,.int i=>∃d,gP ds i=some d∧R d S
 |.kt ds,.int i=>∃d,gP ds i=some d∧R d S
 |.ir ds,.int i=>∃d,gP ds i=some d∧R d S
 |.str z,.int i=>∃c,z.length≤sizeLine∧gP z.cps.toList i=some c∧R (.str ⟨#[c]⟩) S
 |.ref a,.int i=>∃ds d,S a=some (.lst ds)∧gP ds i=some d∧R d S
 |.ref a,.str z=>∃kvs d,S a=some (.fJ kvs)∧cS kvs (.inr z)=some d∧R d S
 |_,_=>False
theorem RvAll.at{H:Hp}{ds:List D}{xs:List V}{i:Int}{d:D}(h:RvAll K H ds xs)(e:gP ds i=some d):∃v,gP xs i=some v∧Rv K H d v:=by
 unfold gP at e ⊢
 rw[h.len]
 cases q:Bw ds.length i with
 |none=>rw[q] at e;cases e
 |some j =>
  rw[q] at e
  exact h.get e
theorem P_:Ui K RM:=by
 rintro X hK hu value slice pins s σ H x y v u Q I rx ry ⟨d,e,S,R,r1,r2,hS,h,hR⟩ hs
 subst hK
 cases d with
 |tup ds =>
  cases e with
  |int i =>
   obtain⟨d,e,h⟩:=h
   obtain⟨a,xs,rfl,q,t⟩:=r1.tup
   obtain⟨z,e1,r⟩:=t.at e
   exact Bx value slice pins s σ H _ _ v u Q I rx ry ⟨a,xs,i,z,rfl,r2.int,.of q,e1,hR.now hS h r⟩ hs
  |_=>exact h.elim
 |kt ds =>
  cases e with
  |int i =>
   obtain⟨d,e,h⟩:=h
   obtain⟨a,xs,rfl,q,t⟩:=r1.kt
   obtain⟨z,e1,r⟩:=t.at e
   exact Bx value slice pins s σ H _ _ v u Q I rx ry ⟨a,xs,i,z,rfl,r2.int,.inr q,e1,hR.now hS h r⟩ hs
  |_=>exact h.elim
 |ir ds =>
  cases e with
  |int i =>
   obtain⟨d,e,h⟩:=h
   obtain⟨a,xs,rfl,q,t⟩:=r1.ir
   obtain⟨z,e1,r⟩:=t.at e
   exact w6 value slice pins s σ H _ _ v u Q I rx ry ⟨a,xs,i,z,rfl,r2.int,q.sq,e1,hR.now hS h r⟩ hs
  |_=>exact h.elim
 |str w =>
  cases e with
  |int i =>
   obtain⟨c,e0,e,h⟩:=h
   exact HA value slice pins s σ H _ _ v u Q I rx ry ⟨w,i,c,r1.str,r2.int,e0,e,hR.now hS h (dj _)⟩ hs
  |_=>exact h.elim
 |ref a =>
  cases e with
  |int i =>
   obtain⟨ds,d,e,e1,h⟩:=h
   obtain⟨xs,e2,t⟩:=hS.lst e
   obtain⟨z,e3,r⟩:=t.at e1
   exact w6 value slice pins s σ H _ _ v u Q I rx ry ⟨a,xs,i,z,r1.ref,r2.int,.of e2,e3,hR.now hS h r⟩ hs
  |str w =>
   obtain⟨kvs,d,e,e1,h⟩:=h
   cases r1.ref
   cases r2.str
   cases rx
   obtain⟨o,g,_,e2⟩:=mP (k:=.inr w) hS e
   obtain⟨z,rfl,r⟩:=e2 d e1
   exact tail_any (tf I g) PySem.F.slot_dict_getitem.lookup (y_ (by lia) I g ry fun w' s' I' qZ=>⟨z,H,I',qZ,hR.now hS h r⟩) hs
  |_=>exact h.elim
 |_=>exact h.elim
theorem ix(hu:X.A.units+64<cLine)(ha:DE K X a ta)(hb:DE K X b tb)(hs:w5 b:=by exact fun _ _=>rfl)(hK:X.K=K:=by rfl):DE K X (.Subscript a b pos) (Iv RM ta tb) :=
 ⟨fun y=>(K0 (P_ y.cx hK hu) (ha.of y) (hb.of y) hs).mono fun _ _ _ h=>h.op⟩
end
section
variable{K:Frag}{X:Cx}
abbrev JZ:=SD→aQ→(Option Int→aQ→Prop)→KX→Prop
def To(K:Frag)(E:St→XK)(t:JZ):TO:=fun τ H Q=>∃σ S R Z,fK K H σ τ∧Rs K S H∧t σ S R Z∧(∀o S' H',R o S'→Rs K S' H'→Kp K H H'→Q o H')∧Aq K H Z (E τ)
structure DO(K:Frag)(X:Cx)(e:Option Expr)(t:JZ):Prop where
 of:∀{b:Bool} (y:Ev X b),PO y.cx e (To K y.E t)
theorem PO.mono{t t':TO}(h:PO X e t)(i:∀τ H Q,t' τ H Q→t τ H Q):PO X e t':=fun pins s τ H Q I q=>h pins s τ H Q I (i τ H Q q)
def LV:JZ:=fun _ S R _=>R none S
def LW(t:TD):JZ:=fun σ S R Z=>t σ S (fun d S1=>∃i,d=.int i∧R (some i) S1) Z
theorem o0:DO K X none LV:=⟨fun y=>(Ee (X:=y.cx)).mono <| by rintro τ H Q ⟨σ,S,R,Z,aw,hS,q,hR,hZ⟩;exact hR _ S H q hS (.refl _)⟩
theorem o1{t:TD}(h:DE K X e t):DO K X (some e) (LW t) :=
 ⟨fun y=>(Ef (h.of y)).mono <| by rintro τ H Q ⟨σ,S,R,Z,aw,hS,q,hR,hZ⟩;exact⟨σ,S,_,Z,aw,hS,q,by rintro d S1 x H1 ⟨i,e,r1⟩ v1 s1 k1;exact by subst e;exact⟨i,v1.int,hR _ S1 H1 r1 s1 k1⟩,hZ⟩⟩
def ar{α:Type}(xs:List α)(lo hi:Option Int):List α:=(xs.drop (HT.sIx xs.length 0 lo)).take (HT.sIx xs.length xs.length hi - HT.sIx xs.length 0 lo)
theorem RvAll.cut{H:Hp}{ds:List D}{xs:List V}(h:RvAll K H ds xs)(lo hi:Option Int):RvAll K H (ar ds lo hi) (sZ xs lo hi):=by
 unfold ar sZ
 rw[h.len]
 exact (h.drop _).take _
def Qa:D→Option Int→Option Int→aQ→KD→Prop:=fun x lo hi S R=>match x with
 |.str z=>z.length≤sizeLine∧R (.str (PySem.Txt.slice z lo hi)) S
 |.tup ds=>¬ (HT.sIx ds.length 0 lo=0∧HT.sIx ds.length ds.length hi=ds.length)∧R (.tup (ar ds lo hi)) S
 |.ref a=>∃ds,S a=some (.lst ds)∧∀p,S p=none→R (.ref p) (S.set p (.lst (ar ds lo hi)))
 |.ir ds=>∀p,S p=none→R (.ref p) (S.set p (.lst (ar ds lo hi)))
 |_=>False
def Uj(K:Frag):V→Option Int→Option Int→Hp→VK→Prop:=fun x lo hi H Q=>∃d S R,Rv K H d x∧Rs K S H∧Qa d lo hi S R∧Cn K H R Q
theorem LX(hK:X.K=K):JN X (Uj K):=by
 rintro pins s σ H x v vl vu lo hi sl Q I rx hs pl pu ⟨d,S,R,r1,hS,h,hR⟩
 subst hK
 cases d with
 |str z=>exact Ir pins s σ H x v vl vu lo hi sl Q I rx hs pl pu ⟨z,r1.str,h.1,hR.now hS h.2 (dj _)⟩
 |tup ds =>
  obtain⟨a,xs,rfl,q,t⟩:=r1.tup
  exact Hz pins s σ H _ v vl vu lo hi sl Q I rx hs pl pu ⟨a,xs,rfl,.of q,by rw[t.len];exact h.1,fun p hp=>hR.Iy hS hp h.2 (t.cut lo hi)⟩
 |ref a =>
  obtain⟨ds,e,h⟩:=h
  obtain⟨xs,e1,t⟩:=hS.lst e
  exact w_ pins s σ H _ v vl vu lo hi sl Q I rx hs pl pu ⟨a,xs,r1.ref,.of e1,fun p hp=>hR.new hS hp (h p) (t.cut lo hi)⟩
 |ir ds =>
  obtain⟨a,xs,rfl,q,t⟩:=r1.ir
  exact w_ pins s σ H _ v vl vu lo hi sl Q I rx hs pl pu ⟨a,xs,rfl,q.sq,fun p hp=>hR.new hS hp (h p) (t.cut lo hi)⟩
 |_=>exact h.elim
def Uk(te:TD)(tl th:JZ):TD:=fun σ S R Z=>te σ S (fun x S1=>tl σ S1 (fun l S2=>th σ S2 (fun u S3=>Qa x l u S3 R) Z) Z) Z
theorem sl{e:Expr}{lo hi:Option Expr}{te:TD}{tl th:JZ}{p2 pos:Pos}(he:DE K X e te)(hl:DO K X lo tl)(hu:DO K X hi th)(hK:X.K=K:=by rfl):DE K X (.Subscript e (.Slice lo hi none p2) pos) (Uk te tl th) :=
 ⟨fun y=>(Bv (X:=y.cx) (LX hK) (he.of y) (hl.of y) (hu.of y)).mono <| by rintro τ H Q ⟨σ,S,R,Z,aw,hS,q,hR,hZ⟩;exact
  ⟨σ,S,_,Z,aw,hS,q,fun d S1 x H1 r1 v1 s1 k1=>⟨σ,S1,_,Z,aw.ts k1,s1,r1,fun l S2 H2 r2 s2 k2=>⟨σ,S2,_,Z,aw.ts (k1.trans k2),s2,r2,fun u S3 H3 r3 s3 k3=>⟨d,S3,R,Rv.ts (k2.trans k3) _ v1,s3,r3,hR.kp ((k1.trans k2).trans k3)⟩,hZ.kp (k1.trans k2)⟩,hZ.kp k1⟩,hZ⟩⟩
def Qb(te:TD):TD:=fun σ S R Z=>te σ S (fun x S1=>∃i,x=.int i∧R (.int (-i)) S1) Z
theorem tU(he:DE K X e te):DE K X (.UnaryOp .USub e pos) (Qb te) :=
 ⟨fun y=>(KA Hr (he.of y)).mono <| by rintro τ H Q ⟨σ,S,R,Z,aw,hS,q,hR,hZ⟩;exact⟨σ,S,_,Z,aw,hS,q,by rintro d S1 x H1 ⟨i,e,r1⟩ v1 s1 k1;exact by subst e;exact⟨i,v1.int,hR _ S1 _ H1 r1 (aA _) s1 k1⟩,hZ⟩⟩
def RN(T:String)(S:aQ):D→Prop
 |.str _=>T = "str"
 |.ref a=>T = "list" ∧ ∃ds,S a=some (.lst ds)
 |.ir _=>T = "list"
 |_=>False
theorem LY{H:Hp}{S:aQ}{T:String}{d:D}{v:V}(h:RN T S d)(hS:Rs K S H)(r:Rv K H d v):OW K T v H:=by
 cases d with
 |str z=>rw[r.str];exact h
 |ref a=>obtain⟨e,ds,h⟩:=h;obtain⟨xs,e1,_⟩:=hS.lst h;rw[r.ref];exact .inl ⟨e,xs,.of e1⟩
 |ir ds=>obtain⟨a,xs,rfl,q,_⟩:=r.ir;exact .inl ⟨h,xs,q.sq⟩
 |_=>exact h.elim
abbrev B6:=D→List D→aQ→KD→Prop
def Lm(K:Frag)(r:B6):V→List V→Hp→VK→Prop:=fun x xs H Q=>∃d ds S R,Rv K H d x∧RvAll K H ds xs∧Rs K S H∧r d ds S R∧Cn K H R Q
def Gz(K:Frag)(id:String)(r:B6):Prop:=∀X:Cx,X.K=K→KZ X id (Lm K r)
def Ul(T:String)(r:B6)(to:TD)(t:iw):TD:=fun σ S R Z=>to σ S (fun x S1=>RN T S1 x∧t σ S1 (fun ds S2=>r x ds S2 R) Z) Z
theorem bm{o e:Expr}{es:List Expr}{T id:String}{name:Str}{r:B6}{to:TD}{t:iw}{apos aJ:Pos}(pa:PlainAttrs T)(slot:Slot T name id)(OX:typeOf (.builtin id)=pure (.type "method_descriptor"))(hm:Gz K id r)(ho:DE K X o to)(ha:DA K X (e::es) t)
  (ik:attributeBase o name X.env (eval o X.env)=eval o X.env:=by rfl)
  (HE:((backTo aJ (starEach (e::es) X.env)).all (fun x=>!x.1) && (backToKw aJ (keywordEach [] X.env)).all (fun x=>x.1.isSome)
   && decide ((e::es).length+([]:List Keyword).length+(if ([]:List Keyword).isEmpty then 0 else 1)<30))=true:=by rfl)
  (Bz:(apos.endLine == aJ.line)=true:=by rfl) (hs:starEach (e::es) X.env=(false,eval e X.env)::starEach es X.env:=by rfl) (nh:(backTo aJ (starEach es X.env)).any (·.1)=false:=by rfl) (hK:X.K=K:=by rfl) :
  DE K X (.Call (.Attribute o name apos) (e::es) [] aJ) (Ul T r to t):=by
 subst hK
 exact⟨fun y=>(K2 (X:=y.cx) pa slot OX (hm _ rfl) (ho.of y) (ha.of y) ik HE Bz hs nh).mono <| by rintro τ H Q ⟨σ,S,R,Z,aw,hS,q,hR,hZ⟩;exact
  ⟨σ,S,_,Z,aw,hS,q,by rintro d S1 x H1 ⟨h1,r1⟩ v1 s1 k1;exact⟨LY h1 s1 v1,σ,S1,_,Z,aw.ts k1,s1,r1,fun ds S2 xs H2 r2 v2 s2 k2=>⟨d,ds,S2,R,Rv.ts k2 _ v1,v2,s2,r2,hR.kp (k1.trans k2)⟩,hZ.kp k1⟩,hZ⟩⟩
theorem RvAll.one(h:RvAll K H [d] xs):∃v,xs=[v]∧Rv K H d v:=by
 obtain⟨y,ys,rfl,h1,h2⟩:=h.cons
 rw[h2.nil];exact⟨y,rfl,h1⟩
def ER:B6:=fun x ds S R=>∃a es d,x=.ref a∧ds=[d]∧S a=some (.lst es)∧es.length<sizeLine∧R .ax (S.set a (.lst (es++[d])))
theorem tV:Gz K "list.append" ER:=by
 rintro X hK pins s σ H x xs v us Q I rx rs ⟨d,ds,S,R,r1,r2,hS,⟨a,es,y,e1,e2,e3,hl,h⟩,hR⟩
 subst e1 e2
 obtain⟨w0,rfl,q2⟩:=r2.one
 obtain⟨zs,e4,t⟩:=hS.lst e3
 exact y8 pins s σ H x _ v us Q I rx rs ⟨a,zs,w0,r1.ref,rfl,e4,by rw[t.len];exact hl,hR.put hS e3 h jz (t.app (aO q2 bM))⟩
def ID:B6:=fun x ds S R=>∃a es i k d,x=.ref a∧ds=[.int i]∧S a=some (.lst es)∧-(2 ^ 63)≤i∧i<2 ^ 63∧seqIndex? i es.length=some k∧es[k]?=some d∧R d (S.set a (.lst (es.eraseIdx k)))
theorem xr:Gz K "list.pop" ID:=by
 rintro X hK pins s σ H x xs v us Q I rx rs ⟨d,ds,S,R,r1,r2,hS,⟨a,es,i,k,y,e1,e2,e3,h1,h2,h3,h4,h⟩,hR⟩
 subst e1 e2
 obtain⟨w0,rfl,q2⟩:=r2.one
 obtain⟨zs,e4,t⟩:=hS.lst e3
 obtain⟨w,e5,r⟩:=t.get h4
 exact BB pins s σ H x _ v us Q I rx rs ⟨a,zs,i,k,w,r1.ref,by rw[q2.int],e4,h1,h2,by rw[t.len];exact h3,e5,hR.put hS e3 h r (t.erase k)⟩
def ES:B6:=fun x ds S R=>∃z y,x=.str z∧ds=[.str y]∧R (.bl (PySem.Txt.startswith z y)) S
theorem iz:Gz K "str.startswith" ES:=by
 rintro X hK pins s σ H x xs v us Q I rx rs ⟨d,ds,S,R,r1,r2,hS,⟨z,y,e1,e2,h⟩,hR⟩
 subst e1 e2
 obtain⟨w0,rfl,q2⟩:=r2.one
 exact pM pins s σ H _ _ v us Q I rx rs ⟨z,y,r1.str,by rw[q2.str],hR.now hS h (aX _)⟩
def LZ(S:aQ)(R:KD):D→Prop
 |.str z=>z.length≤sizeLine∧R (.int z.length) S
 |.tup es=>R (.int es.length) S
 |.kt es=>R (.int es.length) S
 |.ir es=>R (.int es.length) S
 |.ref a=>(∃es,S a=some (.lst es)∧R (.int es.length) S)∨∃kvs,S a=some (.fJ kvs)∧R (.int kvs.length) S
 |_=>False
def Qc:List D→aQ→KD→Prop:=fun ds S R=>∃x,ds=[x]∧LZ S R x
theorem bG:iy K (.builtin "len") Qc:=by
 rintro X hK hc pins s σ H xs us Q I rx ⟨ds,S,R,r,hS,⟨x,e,h⟩,hR⟩
 subst hK e
 obtain⟨w,rfl,r'⟩:=r.one
 cases x with
 |str z =>
  cases r'.str
  exact ic pins s σ H _ us Q I rx ⟨_,_,rfl,⟨h.1,rfl⟩,hR.now hS h.2 (aA _)⟩
 |tup es =>
  obtain⟨a,xs,rfl,q,t⟩:=r'.tup
  exact ic pins s σ H _ us Q I rx ⟨_,_,rfl,.inr ⟨xs,.of q,t.len.symm⟩,hR.now hS h (aA _)⟩
 |kt es =>
  obtain⟨a,xs,rfl,q,t⟩:=r'.kt
  exact ic pins s σ H _ us Q I rx ⟨_,_,rfl,.inr ⟨xs,.inr q,t.len.symm⟩,hR.now hS h (aA _)⟩
 |ir es =>
  obtain⟨a,xs,rfl,q,t⟩:=r'.ir
  exact ic pins s σ H _ us Q I rx ⟨_,_,rfl,.inl ⟨xs,q.sq,t.len.symm⟩,hR.now hS h (aA _)⟩
 |ref a =>
  cases r'.ref
  rcases h with ⟨es,e,h⟩|⟨kvs,e,h⟩
  ·obtain⟨xs,e1,t⟩:=hS.lst e
   exact ic pins s σ H _ us Q I rx ⟨_,_,rfl,.inl ⟨xs,.of e1,t.len.symm⟩,hR.now hS h (aA _)⟩
  ·obtain⟨xs,e1,t⟩:=hS.fJ e
   exact Ac pins s σ H _ us Q I rx ⟨a,xs,rfl,e1,by rw[t.len];exact hR.now hS h (aA _)⟩
 |_=>exact h.elim
def J2(S:aQ):D→Kd→Prop
 |.ax,k=>k=.ax
 |.bl _,k=>k=.bl
 |.int _,k=>k=.int
 |.str _,k=>k=.str
 |.ref a,k=>(k=.lst∧∃ds,S a=some (.lst ds))∨(k=.fJ∧∃ds,S a=some (.fJ ds))
 |.tup _,k=>k=.tup
 |_,_=>False
theorem L4(h:J2 S d k)(hS:Rs K S H)(r:Rv K H d v):ny H v k:=by
 cases d with
 |ax=>cases h;rw[r.ax];exact .ax
 |bl b=>cases h;rw[r.bl];exact .bl b
 |int b=>cases h;rw[r.int];exact .int b
 |str b=>cases h;rw[r.str];exact .str b
 |tup b=>cases h;obtain⟨a,xs,rfl,q,_⟩:=r.tup;exact .tup q
 |ref a =>
  rw[r.ref]
  rcases h with ⟨rfl,ds,h⟩|⟨rfl,ds,h⟩
  ·obtain⟨xs,e,_⟩:=hS.lst h;exact .lst e
  ·obtain⟨xs,e,_⟩:=hS.fJ h;exact .fJ e
 |_=>exact h.elim
def Qd:List D→aQ→KD→Prop:=fun ds S R=>∃x n k g,ds=[x,.ty n]∧tE n=some g∧J2 S x k∧R (.bl (g k)) S
theorem RvAll.two(h:RvAll K H [d,e] xs):∃v u,xs=[v,u]∧Rv K H d v∧Rv K H e u:=by
 obtain⟨y,ys,rfl,h1,h2⟩:=h.cons
 obtain⟨u,rfl,h3⟩:=h2.one
 exact⟨y,u,rfl,h1,h3⟩
theorem dE:iy K (.builtin "isinstance") Qd:=by
 rintro X hK hc pins s σ H xs us Q I rx ⟨ds,S,R,r,hS,⟨x,n,k,g,e,h1,h2,h⟩,hR⟩
 subst hK e
 obtain⟨v,u,rfl,r1,r2⟩:=r.two
 rw[r2.ty] at rx
 exact BL pins s σ H _ us Q I rx ⟨v,n,k,g,rfl,h1,L4 h2 hS r1,hR.now hS h (aX _)⟩
def L5:List D→aQ→KD→Prop:=fun ds S R=>∃(x:D) (bs:List Bool),ds=[x]∧ph S x (bs.map D.bl)∧R (.bl (bs.all id)) S
theorem fO:iy K (.builtin "all") L5:=by
 rintro X hK hc pins s σ H xs us Q I rx ⟨ds,S,R,r,hS,⟨x,bs,e,h1,h⟩,hR⟩
 subst hK e
 obtain⟨v,rfl,r1⟩:=r.one
 obtain⟨a,zs,rfl,q,t⟩:=h1.at hS r1
 rw[t.bools] at q
 exact pC hc pins s σ H _ us Q I rx ⟨a,bs,rfl,q,hR.now hS h (aX _)⟩
def intD:List D→aQ→KD→Prop:=fun ds S R=>(∃i,ds=[.int i]∧R (.int i) S)∨∃k,ds=[.bl k]∧R (.int (if k then 1 else 0)) S
theorem L6:iy K (.type "int") intD:=by
 rintro X hK hc pins s σ H xs us Q I rx ⟨ds,S,R,r,hS,h,hR⟩
 rcases h with ⟨i,rfl,h⟩|⟨k,rfl,h⟩
 ·obtain⟨v,rfl,r1⟩:=r.one
  exact iZ pins s σ H _ us Q I rx (.inl ⟨i,by rw[r1.int],hR.now hS h (aA _)⟩)
 ·obtain⟨v,rfl,r1⟩:=r.one
  exact iZ pins s σ H _ us Q I rx (.inr ⟨k,by rw[r1.bl],hR.now hS h (aA _)⟩)
def L7:List D→aQ→KD→Prop:=fun ds S R=>∃x es,ds=[x]∧(ph S x es∨x=.tup es)∧∀p,S p=none→R (.ref p) (S.set p (.lst es))
theorem IE:iy K (.type "list") L7:=by
 rintro X hK hc pins s σ H xs us Q I rx ⟨ds,S,R,r,hS,⟨x,es,e,h1,h⟩,hR⟩
 subst hK e
 obtain⟨v,rfl,r1⟩:=r.one
 rcases h1 with h1|rfl
 ·obtain⟨a,zs,rfl,q,t⟩:=h1.at hS r1
  exact jS pins s σ H _ us Q I rx ⟨a,zs,rfl,.inl q,fun p hp=>hR.new hS hp (h p) t⟩
 ·obtain⟨a,zs,rfl,q,t⟩:=r1.tup
  exact jS pins s σ H _ us Q I rx ⟨a,zs,rfl,.inr (.of q),fun p hp=>hR.new hS hp (h p) t⟩
def IF:List D→aQ→KD→Prop:=fun ds S R=>∃x es,ds=[x]∧(ph S x es∨x=.tup es)∧R (.tup es) S
theorem eC:iy K (.type "tuple") IF:=by
 rintro X hK hc pins s σ H xs us Q I rx ⟨ds,S,R,r,hS,⟨x,es,e,h1,h⟩,hR⟩
 subst hK e
 obtain⟨v,rfl,r1⟩:=r.one
 rcases h1 with h1|rfl
 ·obtain⟨a,zs,rfl,q,t⟩:=h1.at hS r1
  exact jo pins s σ H _ us Q I rx ⟨a,zs,rfl,.inl ⟨q,fun p hp=>hR.Iy hS hp h t⟩⟩
 ·obtain⟨a,zs,rfl,q,t⟩:=r1.tup
  exact jo pins s σ H _ us Q I rx ⟨a,zs,rfl,.inr ⟨.of q,hR.now hS h (iu q t)⟩⟩
end
abbrev qD:=List D→aQ→KD→KX→Prop
def uW(K:Frag)(sp:qD):Sp:=fun vs H Q e=>∃ds S R Z,RvAll K H ds vs∧Rs K S H∧sp ds S R Z∧Cn K H R Q∧Aq K H Z e
section
variable{K:Frag}{X:Cx}{k:Nat}{f C:Addr}{fd:FuncData}{ps:List Str}{sp:Sp}{yZ:List V}{ds:List Value}{x m:Str}{p pos apos:Pos}{e o:Expr}{es:List Expr}{b:Bool}{y:Ev X b}
theorem ET(F:cw X.prog X.w X.K X.mg X.base (h_ X.prog X.w X.mg) k f fd ps sp)(hr:fi k X.A)(hb:Binds X.K fd ps ds)(hd:Vals yZ ds)
  (I:Inv y.cx p2 σ H s) (r:Vals vs us) (h:sp (vs++yZ) H Q (y.E σ)):wpAny (model X.prog X.w) X.A (call (.ref f) us) (EP y.cx p2 σ Q) y.xe s:=by
 have r2:Vals (vs++yZ) (us++ds):=r.append hd
 have hl:(us++ds).length=ps.length:=by rw[← r2.length];exact F.len _ _ _ _ h
 refine wpAny_call (codeAny_mono (F.run X.A X.stack s H ⟨us,[]⟩ (us++ds) (vs++yZ) Q (y.E σ) hr I.ON (hb s us I.oX hl) r2 h) fun res s' hq=>?_)
 cases res with
 |error e=>exact y.ok.call p2 σ H s e s' I hq
 |ok fl =>
  cases fl with
  |ret u=>exact I.after hq
  |next=>exact False.elim hq
  |brk=>exact False.elim hq
  |cont=>exact False.elim hq
theorem B7{t:TA}(F:cw X.prog X.w X.K X.mg X.base (h_ X.prog X.w X.mg) k f fd ps sp)(hr:fi k X.A)(hg:Gl X x)(hm:X.mg x=some (.ref f))(hk:keepIn X.K (.ref f)=true)(hb:Binds X.K fd ps ds)(hd:Vals yZ ds)
  (ha:PA y.cx (e::es) t) (ng:(x == ("__debug__" : Str))=false) (he:starEach (e::es) X.env=(false,eval e X.env)::starEach es X.env) (jl:(backTo pos (starEach es X.env)).any (·.1)=false) :
  PE y.cx (.Call (.Name x p) (e::es) [] pos) (fun σ H Q=>t σ H fun vs H1=>sp (vs++yZ) H1 Q (y.E σ)):=by
 intro p2 s σ H Q I h
 refine wpAny_Call_Name_kw (gm I hg hm ?_ ng)
 refine PySem.W.callWith_K (h₀:=X.base) I.ok.mod.DL hk (bq (ha pos p2 s σ H _ I h) fun us s1 ⟨vs,H1,I1,r,q⟩=>⟨I1.oX,?_⟩) he jl
 exact ET F hr hb hd I1 r q
end
section
variable{K:Frag}{X:Cx}{k:Nat}{f C:Addr}{fd:FuncData}{ps:List Str}{sp:qD}{IG:List D}{yZ:List V}{ds:List Value}{x m:Str}{p pos apos:Pos}{e o:Expr}{es:List Expr}
structure RO(K:Frag)(IG:List D)(yZ:List V)(ds:List Value):Prop where
 v:Vals yZ ds
 d:∀H,RvAll K H IG yZ
theorem d0:RO K [] [] []:=⟨.nil,fun _=>bM⟩
def L8(sp:qD)(IG:List D)(t:iw):TD:=fun σ S R Z=>t σ S (fun ds S1=>sp (ds++IG) S1 R Z) Z
theorem cf{t:iw}(F:cw X.prog X.w K X.mg X.base (h_ X.prog X.w X.mg) k f fd ps (uW K sp))(hr:fi k X.A)(hm:X.mg x=some (.ref f))(hk:keepIn K (.ref f)=true)(hb:Binds K fd ps ds)(hd:RO K IG yZ ds)(ha:DA K X (e::es) t)
  (hg:Gl X x:=by rfl) (ng:(x == ("__debug__" : Str))=false:=by decide) (he:starEach (e::es) X.env=(false,eval e X.env)::starEach es X.env:=by rfl) (jl:(backTo pos (starEach es X.env)).any (·.1)=false:=by rfl) (hK:X.K=K:=by rfl) :
  DE K X (.Call (.Name x p) (e::es) [] pos) (L8 sp IG t):=by
 subst hK
 exact⟨fun y=>(B7 F hr hg hm hk hb hd.v (ha.of y) ng he jl).mono <| by rintro τ H Q ⟨σ,S,R,Z,aw,hS,q,hR,hZ⟩;exact
  ⟨σ,S,_,Z,aw,hS,q,fun es S1 xs H1 r1 v1 s1 k1=>⟨es++IG,S1,R,Z,v1.app (hd.d _),s1,r1,hR.kp k1,hZ.kp k1⟩,hZ⟩⟩
end
structure qE where
 nx:SD→aQ→Prop
 rt:KD
 bk:SD→aQ→Prop:=fun _ _=>False
 ct:SD→aQ→Prop:=fun _ _=>False
abbrev jP:=qE→SD→aQ→(SD→KX)→Prop
def GA(K:Frag)(H:Hp)(R:SD→aQ→Prop)(Q:St→Hp→Prop):Prop:=∀σ S τ H',R σ S→fK K H' σ τ→Rs K S H'→Kp K H H'→Q τ H'
structure NO(K:Frag)(H:Hp)(De:qE)(Dv:Ends):Prop where
 nx:GA K H De.nx Dv.nx
 rt:Cn K H De.rt Dv.rt
 bk:GA K H De.bk Dv.bk
 ct:GA K H De.ct Dv.ct
def tW(K:Frag)(H:Hp)(Z:SD→KX)(E:St→XK):Prop:=∀σ τ C S H',Z σ C S→fK K H' σ τ→Rs K S H'→Kp K H H'→E τ (.ref C) none H'
section
variable{K:Frag}{H H1:Hp}{De:qE}{Dv:Ends}{Z:SD→KX}{E:St→XK}{σ:SD}{τ:St}{S:aQ}
theorem GA.kp(h:GA K H R Q)(k:Kp K H H1):GA K H1 R Q:=fun σ S τ H' r a b c=>h σ S τ H' r a b (k.trans c)
theorem NO.kp(h:NO K H De Dv)(k:Kp K H H1):NO K H1 De Dv:=⟨h.nx.kp k,h.rt.kp k,h.bk.kp k,h.ct.kp k⟩
theorem tW.kp(h:tW K H Z E)(k:Kp K H H1):tW K H1 Z E:=fun σ τ C S H' r a b c=>h σ τ C S H' r a b (k.trans c)
theorem tW.at(h:tW K H Z E)(r:fK K H σ τ):Aq K H (Z σ) (E τ):=fun C S H' z s k=>h σ τ C S H' z (r.ts k) s k
theorem tW.on(h:tW K H Z E)(k:Kp K H H1)(r:fK K H1 σ τ):Aq K H1 (Z σ) (E τ):=(h.kp k).at r
end
def Tl(K:Frag)(E:St→XK)(t:jP):TS:=fun Dv τ H=>∃σ S De Z,fK K H σ τ∧Rs K S H∧t De σ S Z∧NO K H De Dv∧tW K H Z E
structure DS(K:Frag)(X:Cx)(b:Bool)(st:Stmt)(t:jP):Prop where
 of:∀y:Ev X b,PS y.cx st (Tl K y.E t)
structure xt(K:Frag)(X:Cx)(b:Bool)(st:List Stmt)(t:jP):Prop where
 of:∀y:Ev X b,wN y.cx st (Tl K y.E t)
theorem PS.mono{t t':TS}(h:PS X e t)(i:∀D τ H,t' D τ H→t D τ H):PS X e t':=fun pins s τ H D I q=>h pins s τ H D I (i D τ H q)
theorem wN.mono{t t':TS}(h:wN X e t)(i:∀D τ H,t' D τ H→t D τ H):wN X e t':=fun pins s τ H D I q=>h pins s τ H D I (i D τ H q)
section
variable{K:Frag}{X:Cx}{b:Bool}{pos:Pos}
def L9:jP:=fun De σ S _=>De.nx σ S
def Qe(t u:jP):jP:=fun De σ S Z=>t { De with nx:=fun ay S'=>u De ay S' Z } σ S Z
theorem s0:xt K X b [] L9:=⟨fun y=>(qV (X:=y.cx)).mono <| by rintro D τ H ⟨σ,S,De,Z,aw,hS,q,hD,hZ⟩;exact hD.nx _ _ _ _ q aw hS (.refl _)⟩
theorem sc{st:Stmt}{r:List Stmt}{t u:jP}(h1:DS K X b st t)(h2:xt K X b r u):xt K X b (st::r) (Qe t u) :=
 ⟨fun y=>(Bk (h1.of y) (h2.of y)).mono <| by rintro D τ H ⟨σ,S,De,Z,aw,hS,q,hD,hZ⟩;exact
  ⟨σ,S,_,Z,aw,hS,q,⟨fun Bl S1 L_ H1 r1 a b c=>⟨Bl,S1,De,Z,a,b,r1,hD.kp c,hZ.kp c⟩,hD.rt,hD.bk,hD.ct⟩,hZ⟩⟩
theorem s1{st:Stmt}{t:jP}(h:DS K X b st t):xt K X b [st] t:=⟨fun y=>wO (h.of y)⟩
def Ma(t:TD):jP:=fun De σ S Z=>t σ S (fun _ S1=>De.nx σ S1) (Z σ)
theorem se{t:TD}(h:DE K X e t)(hs:swapsWith e none pos.line X.env=pure false:=by rfl):DS K X b (.Expr e pos) (Ma t) :=
 ⟨fun y=>(D4 (X:=y.cx) (h.of y) hs).mono <| by rintro D τ H ⟨σ,S,De,Z,aw,hS,q,hD,hZ⟩;exact⟨σ,S,_,_,aw,hS,q,fun d S1 v H1 r1 _ s1 k1=>hD.nx _ _ _ _ r1 (aw.ts k1) s1 k1,hZ.at aw⟩⟩
def Qf(t:TD):jP:=fun De σ S Z=>t σ S De.rt (Z σ)
theorem sr{t:TD}(h:DE K X e t):DS K X b (.Return (some e) pos) (Qf t) :=
 ⟨fun y=>(Hc (h.of y)).mono <| by rintro D τ H ⟨σ,S,De,Z,aw,hS,q,hD,hZ⟩;exact⟨σ,S,_,_,aw,hS,q,hD.rt,hZ.at aw⟩⟩
def Um(c:o_)(t u:jP):jP:=fun De σ S Z=>c σ S (fun b S1=>if b=true then t De σ S1 Z else u De σ S1 Z) (Z σ)
theorem si{t u:jP}(hc:DT K X c tc)(ha:xt K X b a t)(hb:xt K X b a' u):DS K X b (.If c a a' pos) (Um tc t u) :=
 ⟨fun y=>(Kn (hc.of y) (ha.of y) (hb.of y)).mono <| by rintro D τ H ⟨σ,S,De,Z,aw,hS,q,hD,hZ⟩;exact
  ⟨σ,S,_,_,aw,hS,q,fun c S1 H1 r1 s1 k1=>by
   cases c with
   |true=>rw[if_pos rfl] at r1 ⊢;exact⟨σ,S1,De,Z,aw.ts k1,s1,r1,hD.kp k1,hZ.kp k1⟩
   |false=>rw[if_neg zg] at r1 ⊢;exact⟨σ,S1,De,Z,aw.ts k1,s1,r1,hD.kp k1,hZ.kp k1⟩,hZ.at aw⟩⟩
abbrev vN:=D→SD→aQ→(SD→aQ→Prop)→Prop
def Tg(K:Frag)(g:vN):TG:=fun v τ H Q=>∃d σ S R,Rv K H d v∧fK K H σ τ∧Rs K S H∧g d σ S R∧GA K H R Q
structure DG(K:Frag)(X:Cx)(e:Expr)(g:vN):Prop where
 of:∀Y:Cx,Y.K=X.K→Y.N=X.N→Y.env=X.env→Y.fn=X.fn→Y.calm=X.calm→PG Y e (Tg K g)
theorem PG.mono{t t':TG}(h:PG X e t)(i:∀v τ H Q,t' v τ H Q→t v τ H Q):PG X e t':=fun pins s τ H v u Q I r q=>h pins s τ H v u Q I r (i v τ H Q q)
def IH(i:Nat):vN:=fun d σ S R=>R (σ.set i (some d)) S
theorem gn(hN:X.N.Nodup)(hi:X.N[i]?=some x:=by rfl)(hx:Loc X.env.scope x:=by first|exact Or.inl rfl|exact Or.inr rfl)(hf:X.fn x=true∨X.env.scope.names.lookup x=some .local:=by first|exact .inl rfl|exact .inr rfl):DG K X (.Name x pos) (IH i) :=
 ⟨fun Y _ e2 e3 e4 _=>(gq (X:=Y) (by rw[e2];exact hN) (by rw[e2];exact hi) (by rw[e3];exact hx) (by rw[e3,e4];exact hf)).mono <| by rintro v τ H Q ⟨d,σ,S,R,rv,aw,hS,q,hR⟩;exact hR _ S _ H q (aw.set i rv) hS (.refl _)⟩
abbrev Ar:=List D→SD→aQ→(SD→aQ→Prop)→Prop
def Uo(K:Frag)(g:Ar):FZ:=fun vs τ H Q=>∃ds σ S R,RvAll K H ds vs∧fK K H σ τ∧Rs K S H∧g ds σ S R∧GA K H R Q
structure NP(K:Frag)(X:Cx)(es:List Expr)(g:Ar):Prop where
 of:∀Y:Cx,Y.K=X.K→Y.N=X.N→Y.env=X.env→Y.fn=X.fn→Y.calm=X.calm→F_ Y es (Uo K g)
theorem F_.mono{t t':FZ}(h:F_ X e t)(i:∀v τ H Q,t' v τ H Q→t v τ H Q):F_ X e t':=fun pins s τ H v u Q I r q=>h pins s τ H v u Q I r (i v τ H Q q)
def B8:Ar:=fun ds σ S R=>ds=[]∧R σ S
def kY(g:vN)(u:Ar):Ar:=fun ds σ S R=>∃d r,ds=d::r∧g d σ S fun Bl S1=>u r Bl S1 R
theorem g0:NP K X [] B8:=⟨fun Y _ _ _ _ _=>(qW (X:=Y)).mono <| by rintro vs τ H Q ⟨ds,σ,S,R,rv,aw,hS,⟨e,q⟩,hR⟩;exact by subst e;exact⟨rv.nil,hR _ _ _ _ q aw hS (.refl _)⟩⟩
theorem gc(h1:DG K X e g)(h2:NP K X es u)(hs:∀env:Env,(assignEach (e::es) env).map (·.2)=assign e env::(assignEach es env).map (·.2):=by intro _;rfl):NP K X (e::es) (kY g u) :=
 ⟨fun Y a b c d f=>(fL (h1.of Y a b c d f) (h2.of Y a b c d f) (hs _)).mono <| by
  rintro vs τ H Q ⟨ds,σ,S,R,rv,aw,hS,⟨d,r,e,q⟩,hR⟩
  subst e
  obtain⟨y,ys,e1,r1,r2⟩:=rv.cons
  exact⟨y,ys,e1,d,σ,S,_,r1,aw,hS,q,fun Bl S1 L_ H1 q1 a b c=>⟨r,Bl,S1,R,RvAll.ts c _ r2,a,b,q1,hR.kp c⟩⟩⟩
def B9(n:Nat)(g:Ar):vN:=fun d σ S R=>∃ds,d=.tup ds∧ds.length=n∧g ds σ S R
theorem gt(h:NP K X es g)(hn:∀env:Env,(assignEach es env).length=n:=by intro _;rfl)(sJ:∀env:Env,(assignEach es env).findIdx? (·.1)=none:=by intro _;rfl)(hK:X.K=K:=by rfl)(hc:X.calm=true:=by rfl):DG K X (.Tuple es j pos) (B9 n g) :=
 ⟨fun Y a b c d f=>(ve (X:=Y) (by rw[f];exact hc) (h.of Y a b c d f) (hn _) (sJ _)).mono <| by
  rintro v τ H Q ⟨d,σ,S,R,rv,aw,hS,⟨ds,e,hl,q⟩,hR⟩
  subst e
  obtain⟨p,xs,e1,e2,t⟩:=rv.tup
  exact⟨p,xs,e1,.of e2,by rw[t.len];exact hl,ds,σ,S,R,t,aw,hS,q,hR⟩⟩
def Mb(i:Nat)(t:TD):jP:=fun De σ S Z=>t σ S (fun d S1=>De.nx (σ.set i (some d)) S1) (Z σ)
theorem cT{t:TD}(hN:X.N.Nodup)(h:DE K X e t)(hi:X.N[i]?=some x:=by rfl)(hx:Loc X.env.scope x:=by first|exact Or.inl rfl|exact Or.inr rfl)(hs:swapsWith e (some (.Name x pos')) pos.line X.env=pure false:=by rfl)
  (hf:X.fn x=true∨X.env.scope.names.lookup x=some .local:=by first|exact .inl rfl|exact .inr rfl):DS K X b (.Assign [.Name x pos'] e pos) (Mb i t) :=
 ⟨fun y=>(Hg (X:=y.cx) (i:=i) hN hi hx (h.of y) hs hf).mono <| by rintro D τ H ⟨σ,S,De,Z,aw,hS,q,hD,hZ⟩;exact⟨σ,S,_,_,aw,hS,q,fun d S1 v H1 r1 v1 s1 k1=>hD.nx _ _ _ _ r1 ((aw.ts k1).set i v1) s1 k1,hZ.at aw⟩⟩
def Qg(t:TD)(g:vN):jP:=fun De σ S Z=>t σ S (fun d S1=>g d σ S1 De.nx) (Z σ)
theorem sa{t:TD}(h:DE K X e t)(hg:DG K X tg g)(hs:swapsWithSole [tg] e pos.line X.env=pure false:=by rfl)(hw:swappedStores [tg] e X.env=pure none:=by rfl)(h1:(assignEach [tg] X.env).map (·.2)=[assign tg X.env]:=by rfl) :
  DS K X b (.Assign [tg] e pos) (Qg t g) :=
 ⟨fun y=>(Bn (X:=y.cx) (h.of y) (hg.of _ rfl rfl rfl rfl rfl) hs hw h1).mono <| by rintro D τ H ⟨σ,S,De,Z,aw,hS,q,hD,hZ⟩;exact⟨σ,S,_,_,aw,hS,q,fun d S1 v H1 r1 v1 s1 k1=>⟨d,σ,S1,_,v1,aw.ts k1,s1,r1,hD.nx.kp k1⟩,hZ.at aw⟩⟩
end
section
variable{X:Cx}{pins:List (Addr×Obj)}{σ:St}{H:Hp}{s:Shared}{A:Around}{E:Value→Shared→Prop}{a:Addr}{kvs:List (Key×V)}{k:Key}{u:Value}
end
section
variable{X:Cx}{o e f:Expr}{apos aJ:Pos}{td ty tx:TE}
end
section
variable{K:Frag}{X:Cx}{b:Bool}{o e f:Expr}{apos aJ pos:Pos}{td ty tx:TD}
theorem II(hS:Rs K S H)(e:S a=some (.fJ kvs)):O6 H a:=by
 obtain⟨vs,e1,_⟩:=hS.fJ e
 exact .inl ⟨vs,.inl e1⟩
def Mc(td ty:TD):TD:=fun σ S R Z=>td σ S (fun x S1=>∃a kvs,x=.ref a∧S1 a=some (.fJ kvs)∧ty σ S1 (fun y S2=>∃kvs k,S2 a=some (.fJ kvs)∧IC y=some k∧R ((cS kvs k).getD .ax) S2) Z) Z
theorem IJ(hS:Rs K S H)(e:S a=some (.fJ kvs))(r:Rv K H d v):∃o,nq H a (kV k) o∧Rv K H ((cS kvs k).getD d) (o.getD v):=by
 obtain⟨o,g,h1,h2⟩:=mP (k:=k) hS e
 refine⟨o,g,?_⟩
 cases q:cS kvs k with
 |none =>
  rw[q] at h1
  cases o with
  |none=>exact r
  |some _=>cases h1
 |some d' =>
  obtain⟨v',rfl,r'⟩:=h2 d' q
  exact r'
theorem Up(hu:X.A.units+64<cLine)(ho:DE K X o td)(he:DE K X e ty)(m:M1 X o "get" apos e aJ:=by exact⟨rfl,rfl,rfl,rfl⟩):DE K X (.Call (.Attribute o "get" apos) [e] [] aJ) (Mc td ty) :=
 ⟨fun y=>(BC (X:=y.cx) (by show X.A.units+1<cLine;lia) (ho.of y) (he.of y) ⟨m.base,m.Gi,m.line,m.trees⟩).mono <| by rintro τ H Q ⟨σ,S,R,Z,aw,hS,q,hR,hZ⟩;exact
  ⟨σ,S,_,Z,aw,hS,q,by
   rintro x S1 xv H1 ⟨a,kvs,e1,e2,r1⟩ v1 s1 k1
   subst e1
   exact⟨a,v1.ref,II s1 e2,σ,S1,_,Z,aw.ts k1,s1,r1,by
    rintro y S2 yv H2 ⟨kvs,k,e3,e4,r2⟩ v2 s2 k2
    obtain⟨o,g,r⟩:=IJ (k:=k) s2 e3 jz
    exact⟨o,by rw[vM e4 v2];exact g,(hR.kp (k1.trans k2)).now s2 r2 r⟩,hZ.kp k1⟩,hZ⟩⟩
def IK(C:Addr)(t:iw):jP:=fun _ σ S Z=>t σ S (fun ds S1=>ds.length≤sizeLine∧Z σ C S1) (Z σ)
end
section
variable{K:Frag}{X:Cx}{C:Addr}{x:Str}{e:Expr}{es:List Expr}{np aJ pos:Pos}
theorem As{t:TA}{y:Ev X true}(hc:X.calm=true)(c:XC X.K C)(hg:Gl X x)(hm:X.mg x=some (.ref C))(ha:PA y.cx (e::es) t)(ng:(x == ("__debug__" : Str))=false)
  (he:starEach (e::es) X.env=(false,eval e X.env)::starEach es X.env) (jl:(backTo aJ (starEach es X.env)).any (·.1)=false) :
  PS y.cx (.Raise (some (.Call (.Name x np) (e::es) [] aJ)) none pos) (fun _ σ H=>t σ H fun vs H1=>vs.length≤sizeLine∧y.E σ (.ref C) none H1):=by
 intro pins s σ H D I h
 obtain⟨bm,N,nm,q,bs,hdct,sn,sub,ab,col,dd,k0,k1,k2,k3,k5,mN,hC,hN,Gq,T⟩:=c.at I.mod.DL
 have ik:bm.contains (.type "BaseException")=true:=T.hasType (by decide)
 refine wpAny_Raise_call_subT (C:=C) (nm:=nm) (q:=q) (N:=N) (bs:=bs) (bm:=bm) (hdct:=hdct) (sn:=sn) (sub:=sub) (ab:=ab) (col:=col) (dd:=dd) (k0:=k0) (k1:=k1) (k2:=k2) (k3:=k3) (k5:=k5) PySem.F.excBase_ValueError (mN:=mN)
  ik (I.ok.hd hc) (by show ((backTo aJ (starEach (e::es) X.env)).any (·.1))=false;rw[he];show (false || (backTo aJ (starEach es X.env)).any (·.1))=false;rw[jl];rfl) Gq (gm I hg hm ⟨rfl,?_⟩ ng)
 have h1:=ha aJ pins s σ H _ I h
 have Uq:starEach (e::es) y.cx.env=(false,eval e X.env)::starEach es X.env:=he
 rw[Uq] at h1 ⊢
 exact Calls.evalArgs_plain (bq h1 <| by rintro us s2 ⟨vs,H2,I2,r,z,q2⟩;exact⟨rfl,by show us.length≤sizeLine;rw[← r.length];exact z,I2.bk _ _ hC,hN.keeps I2.bk,T.keeps I2.bk,fun h' a hx=>y.ok.own rfl pins σ H2 s2 h' a _ _ I2 hx q2⟩)
theorem xu{t:iw}(c:XC K C)(hm:X.mg x=some (.ref C))(ha:DA K X (e::es) t)(hg:Gl X x:=by rfl)(ng:(x == ("__debug__" : Str))=false:=by decide)
  (he:starEach (e::es) X.env=(false,eval e X.env)::starEach es X.env:=by rfl) (jl:(backTo aJ (starEach es X.env)).any (·.1)=false:=by rfl) (hc:X.calm=true:=by rfl) (hK:X.K=K:=by rfl) :
  DS K X true (.Raise (some (.Call (.Name x np) (e::es) [] aJ)) none pos) (IK C t):=by
 subst hK
 exact⟨fun y=>(As (y:=y) hc c hg hm (ha.of y) ng he jl).mono fun D τ H ⟨σ,S,De,Z,aw,hS,q,hD,hZ⟩ =>
  ⟨σ,S,_,_,aw,hS,q,fun ds S1 vs H1 ⟨hl,r1⟩ v1 s1 k1=>⟨by rw[v1.len];exact hl,hZ.at aw C S1 H1 r1 s1 k1⟩,hZ.at aw⟩⟩
end
structure pj where
 xs:List D
 ok:aQ→Prop
def Md(K:Frag)(H0:Hp)(J:It)(I:pj):Prop:=∀i S H,Kp K H0 H→Rs K S H→I.ok S→(∀d,I.xs[i]?=some d→J.go i H∧∀x H',J.Kq i H x H'→Rv K H' d x∧Kp K H H'∧Rs K S H')∧(I.xs.length≤i→J.stop i H)
abbrev vO:=SD→aQ→(pj→aQ→Prop)→KX→Prop
def Ti(K:Frag)(E:St→XK)(t:vO):TI:=fun τ H R=>∃σ S RI Z,fK K H σ τ∧Rs K S H∧t σ S RI Z∧(∀I S' J H',RI I S'→Md K H' J I→Rs K S' H'→Kp K H H'→R J H')∧Aq K H Z (E τ)
structure DI(K:Frag)(X:Cx)(tg it:Expr)(t:vO):Prop where
 of:∀{b:Bool} (y:Ev X b),PI y.cx tg it (Ti K y.E t)
theorem PI.mono{t t':TI}(h:PI X tg it t)(i:∀τ H R,t' τ H R→t τ H R):PI X tg it t':=fun pins s τ H R I q=>h pins s τ H R I (i τ H R q)
section
variable{K:Frag}{X:Cx}{tg l:Expr}
def Qh(t:TD):vO:=fun σ S R Z=>t σ S (fun x S1=>∃ds,ph S1 x ds∧R ⟨ds,fun S=>ph S x ds⟩ S1) Z
theorem il{t:TD}(h:DE K X l t)(hK:X.K=K:=by rfl):DI K X tg l (Qh t):=by
 subst hK
 exact⟨fun y=>(D5 (X:=y.cx) (h.of y)).mono <| by rintro τ H R ⟨σ,S,RI,Z,aw,hS,q,hR,hZ⟩;exact⟨σ,S,_,Z,aw,hS,q,by
  rintro x S1 v H1 ⟨ds,h1,r1⟩ v1 s1 k1
  obtain⟨a,xs,rfl,hq,t⟩:=h1.at s1 v1
  refine⟨a,rfl,⟨xs,hq⟩,hR _ S1 _ H1 r1 (fun i S2 H2 k2 s2 NQ=>?_) s1 k1⟩
  obtain⟨a',Qi,e',B_,t'⟩:=ph.at NQ s2 (Rv.ts k2 _ v1)
  cases e'
  refine⟨fun d hd=>?_,fun hl=>⟨Qi,B_,by rw[t'.len];exact hl⟩⟩
  obtain⟨v,e1,r⟩:=t'.get hd
  refine⟨⟨Qi,v,B_,e1⟩,fun x' H' ⟨e2,e3⟩=>?_⟩
  subst e2
  have:=e3 Qi B_
  rw[e1] at this;cases this
  exact⟨r,.refl _,s2⟩,hZ⟩⟩
def Me(t:TD):vO:=fun σ S R Z=>t σ S (fun x S1=>∃ds,(x=.tup ds∨x=.kt ds)∧R ⟨ds,fun _=>True⟩ S1) Z
theorem IL{H:Hp}{x:D}{ds:List D}{v:V}(h:x=.tup ds∨x=.kt ds)(r:Rv K H x v):∃a xs,v=.ref a∧(∀H',Kp K H H'→iX K H' a xs)∧RvAll K H ds xs:=by
 rcases h with rfl|rfl
 ·obtain⟨a,xs,rfl,q,t⟩:=r.tup
  exact⟨a,xs,rfl,fun H' k=>.of (k.t _ _ q),t⟩
 ·obtain⟨a,xs,rfl,q,t⟩:=r.kt
  exact⟨a,xs,rfl,fun H' k=>.inr q,t⟩
theorem EU{t:TD}(h:DE K X l t)(hK:X.K=K:=by rfl):DI K X tg l (Me t):=by
 subst hK
 exact⟨fun y=>(Hh (X:=y.cx) (h.of y)).mono <| by rintro τ H R ⟨σ,S,RI,Z,aw,hS,q,hR,hZ⟩;exact⟨σ,S,_,Z,aw,hS,q,by
  rintro x S1 v H1 ⟨ds,h1,r1⟩ v1 s1 k1
  obtain⟨a,xs,rfl,hq,t⟩:=IL h1 v1
  refine⟨a,rfl,⟨xs,hq _ (.refl _)⟩,hR _ S1 _ H1 r1 (fun i S2 H2 k2 s2 _=>?_) s1 k1⟩
  have Qj:=hq H2 k2
  refine⟨fun d hd=>?_,fun hl=>⟨xs,Qj,by rw[t.len];exact hl⟩⟩
  obtain⟨v,e1,r⟩:=(RvAll.ts k2 _ t).get hd
  refine⟨⟨xs,v,Qj,e1⟩,fun x' H' ⟨e2,e3⟩=>?_⟩
  subst e2
  have:=e3 xs Qj
  rw[e1] at this;cases this
  exact⟨r,.refl _,s2⟩,hZ⟩⟩
def fP(lo:Int)(n:Nat):List D:=(List.range n).map fun i=>D.int (lo+(i:Nat))
theorem fQ{lo:Int}{n:Nat} : (fP lo n).length=n:=by unfold fP;rw[zb,List.length_range]
theorem fR{lo:Int}{n i:Nat}{d:D}(h:(fP lo n)[i]?=some d):i<n∧d=.int (lo+i):=by
 unfold fP at h
 rw[zQ] at h
 by_cases q:i<n
 ·rw[List.getElem?_range q] at h;exact⟨q,(zV h).symm⟩
 ·rw[List.getElem?_eq_none (by rw[List.length_range];omega)] at h;cases h
theorem Ca{H0:Hp}{lo:Int}{n:Nat} : Md K H0 (Kr lo n) ⟨fP lo n,fun _=>True⟩:=fun i S H k s _=>⟨fun d hd=>by
 obtain⟨h1,rfl⟩:=fR hd
 exact⟨h1,by rintro x H' ⟨e1,e2⟩;exact by subst e1 e2;exact⟨aA _,.refl _,s⟩⟩,fun hl=>by rw[fQ] at hl;exact hl⟩
def Qk(t:iw):vO:=fun σ S R Z=>t σ S (fun ds S1=>∃j:Int,ds=[.int j]∧-(2 ^ 62)≤j∧j<2 ^ 62∧R ⟨fP 0 j.toNat,fun _=>True⟩ S1) Z
theorem Mf{t:iw}(hm:X.mg "range" = none)(ha:DA K X [a] t)(hg:Gl X "range" := by rfl)(hs:starEach [a] X.env=[(false,eval a X.env)]:=by rfl):DI K X tg (.Call (.Name "range" p) [a] [] pos) (Qk t) :=
 ⟨fun y=>(yR (X:=y.cx) hg hm (ha.of y) hs).mono <| by rintro τ H R ⟨σ,S,RI,Z,aw,hS,q,hR,hZ⟩;exact⟨σ,S,_,Z,aw,hS,q,by
  rintro ds S1 vs H1 ⟨j,e,h1,h2,r1⟩ v1 s1 k1
  subst e
  obtain⟨v,rfl,r⟩:=v1.one
  exact⟨j,by rw[r.int],h1,h2,hR _ S1 _ H1 r1 Ca s1 k1⟩,hZ⟩⟩
def Mg(t:iw):vO:=fun σ S R Z=>t σ S (fun ds S1=>∃i j:Int,ds=[.int i,.int j]∧(-(2 ^ 62)≤i∧i<2 ^ 62∧-(2 ^ 62)≤j∧j<2 ^ 62)∧R ⟨fP i (j - i).toNat,fun _=>True⟩ S1) Z
theorem Ur{t:iw}(hm:X.mg "range" = none)(ha:DA K X [a,c] t)(hg:Gl X "range" := by rfl)(hs:starEach [a,c] X.env=[(false,eval a X.env),(false,eval c X.env)]:=by rfl)(l_:starEach [c] X.env=[(false,eval c X.env)]:=by rfl) :
  DI K X tg (.Call (.Name "range" p) [a,c] [] pos) (Mg t) :=
 ⟨fun y=>(yS (X:=y.cx) hg hm (ha.of y) hs l_).mono <| by rintro τ H R ⟨σ,S,RI,Z,aw,hS,q,hR,hZ⟩;exact⟨σ,S,_,Z,aw,hS,q,by
  rintro ds S1 vs H1 ⟨i,j,e,h1,r1⟩ v1 s1 k1
  subst e
  obtain⟨v,u,rfl,r,r'⟩:=v1.two
  exact⟨i,j,by rw[r.int,r'.int],h1,hR _ S1 _ H1 r1 Ca s1 k1⟩,hZ⟩⟩
end
section
variable{K:Frag}{X:Cx}{tg iter:Expr}{pos:Pos}
def Mh(ti:vO)(g:vN)(tb:jP):jP:=fun De σ S Z=>ti σ S (fun I S1=>∃P:Nat→SD→aQ→Prop,P 0 σ S1∧(∀i σ S,P i σ S→I.ok S) ∧
 (∀i d σ S,I.xs[i]?=some d→P i σ S→g d σ S fun JK S2=>tb { De with nx:=P (i+1),ct:=P (i+1),bk:=De.nx } JK S2 Z)∧∀σ S,P I.xs.length σ S→De.nx σ S) (Z σ)
theorem IM(hi:DI K X tg iter ti)(hg:DG K X tg g)(hb:xt K X true body tb)(hs:∀x,foldedSetIterable iter X.env x=pure x:=by intro _;rfl)(hc:X.calm=true:=by rfl):DS K X true (.For tg iter body [] pos) (Mh ti g tb) :=
 ⟨fun y=>(Hi (X:=y.cx) (y.ok.loop rfl) hc (hi.of y) (hg.of _ rfl rfl rfl rfl rfl) (hb.of y) hs).mono <| by rintro D τ H ⟨σ,S,De,Z,aw,hS,q,hD,hZ⟩;exact
  ⟨σ,S,_,_,aw,hS,q,by
   rintro I S1 J H1 ⟨P,p0,Ql,Qm,pend⟩ hJ s1 k1
   refine⟨fun i m τ H=>m=I.xs.length - i∧i≤I.xs.length∧∃σ S,fK K H σ τ∧Rs K S H∧P i σ S∧Kp K H1 H,⟨_,rfl,yz _,σ,S1,aw.ts k1,s1,p0,.refl _⟩,?_⟩
   rintro i m WR H2 ⟨rfl,Us,JK,S2,a2,s2,p2,k2⟩
   have ok:=hJ i S2 H2 k2 s2 (Ql _ _ _ p2)
   by_cases BJ:i<I.xs.length
   ·obtain⟨go,yl⟩:=ok.1 _ (zO BJ)
    refine .inr ⟨go,fun NM H'=>i+1≤I.xs.length∧∃σ S,fK K H' σ NM∧Rs K S H'∧P (i+1) σ S∧Kp K H1 H',fun ay H' h'=>⟨_,by omega,rfl,h'⟩,fun x H' hy=>?_⟩
    obtain⟨rx,k3,s3⟩:=yl x H' hy
    refine⟨_,JK,S2,_,rx,a2.ts k3,s3,Qm i _ JK S2 (zO BJ) p2,fun NR S4 Ut H4 r4 a4 s4 k4=>?_⟩
    have kk:=(k2.trans k3).trans k4
    exact⟨NR,S4,_,Z,a4,s4,r4,⟨fun Qn S5 Uu H5 r5 a5 s5 k5=>⟨BJ,Qn,S5,a5,s5,r5,kk.trans k5⟩,hD.rt.kp (k1.trans kk),(hD.nx.kp (k1.trans kk)),fun Qn S5 Uu H5 r5 a5 s5 k5=>⟨BJ,Qn,S5,a5,s5,r5,kk.trans k5⟩⟩,hZ.kp (k1.trans kk)⟩
   ·have e:i=I.xs.length:=by omega
    subst e
    exact .inl ⟨ok.2 (zk _),hD.nx _ _ _ _ (pend _ _ p2) a2 s2 (k1.trans k2)⟩,hZ.at aw⟩⟩
end
def qF(σ:SD)(src:List (Option Nat)):SD:=src.map fun o=>match o with|some j=>(σ[j]?).join|none=>none
theorem fK.pick{K:Frag}{H:Hp}{σ:SD}{τ:St}(h:fK K H σ τ):∀src:List (Option Nat),fK K H (qF σ src) (pick τ src)
 |[]=>.nil
 |o::r=>.cons (fun d e=>by
  cases o with
  |none=>cases e
  |some j =>
   dsimp only at e ⊢
   cases q:σ[j]? with
   |none=>rw[q] at e;cases e
   |some o' =>
    rw[q] at e
    obtain rfl:o'=some d:=e
    obtain⟨v,e1,r1⟩:=h.get q
    exact⟨v,by rw[e1];rfl,r1⟩) (fK.pick h r)
def Zf:KX:=fun _ _=>False
def xw(σ:SD)(src:List (Option Nat))(g:vN)(tc:o_)(te:TD)(R:KD)(I:pj)(S1:aQ):Prop:=∃P:Nat→List D→aQ→Prop,P 0 [] S1∧(∀i out S,P i out S→I.ok S) ∧
 (∀i d out S,I.xs[i]?=some d→P i out S→out.length<sizeLine∧g d (qF σ src) S fun iY S3=>tc iY S3 (fun b S4=>if b=true then te iY S4 (fun v S5=>P (i+1) (out++[v]) S5) Zf else P (i+1) out S4) Zf) ∧
 ∀out S2,P I.xs.length out S2→∀p,S2 p=none→R (.ref p) (S2.set p (.lst out))
def xx(ti:vO)(src:List (Option Nat))(g:vN)(tc:o_)(te:TD):TD:=fun σ S R Z=>ti σ S (fun I S1=>xw σ src g tc te R I S1) Z
theorem Aq.f{K:Frag}{H:Hp}{e:XK} : Aq K H Zf e:=fun _ _ _ z=>z.elim
theorem T.comp{K:Frag}{E E':St→XK}{ti:vO}{src:List (Option Nat)}{g:TG}{gd:vN}{tc:o_}{te:TD}{τ:St}{H:Hp}{Q:VK}(hg:∀v τ H Q,Tg K gd v τ H Q→g v τ H Q)
  (h:T K E (xx ti src gd tc te) τ H Q):BF (Ti K E ti) src g (Tt K E' tc) (T K E' te) τ H Q:=by
 obtain⟨σ,S,R,Z,aw,hS,q,hR,hZ⟩:=h
 refine⟨σ,S,_,Z,aw,hS,q,fun I S1 J H1 ⟨P,p0,Ql,Qm,pend⟩ hJ s1 k1=>?_,hZ⟩
 refine⟨fun i m out H=>m=I.xs.length - i∧i≤I.xs.length∧∃ds S,RvAll K H ds out∧Rs K S H∧P i ds S∧Kp K H1 H,⟨_,rfl,yz _,[],S1,bM,s1,p0,.refl _⟩,?_⟩
 rintro i m out H2 ⟨rfl,Us,ds,S2,v2,s2,p2,k2⟩
 have ok:=hJ i S2 H2 k2 s2 (Ql _ _ _ p2)
 by_cases BJ:i<I.xs.length
 ·obtain⟨go,yl⟩:=ok.1 _ (zO BJ)
  obtain⟨hz,st⟩:=Qm i _ ds S2 (zO BJ) p2
  refine .inr ⟨go,by rw[v2.len];exact hz,fun x H' hy=>?_⟩
  obtain⟨rx,k3,s3⟩:=yl x H' hy
  refine hg _ _ _ _ ⟨_,_,S2,_,rx,(((aw.ts k1).ts k2).ts k3).pick src,s3,st,fun NR S4 Ut H4 r4 a4 s4 k4=>?_⟩
  refine⟨NR,S4,_,Zf,a4,s4,r4,fun c S5 H5 r5 s5 k5=>?_,.f⟩
  cases c with
  |true =>
   rw[if_pos rfl] at r5 ⊢
   exact⟨NR,S5,_,Zf,a4.ts k5,s5,r5,fun d S6 v H6 r6 v6 s6 k6=>⟨_,by omega,rfl,BJ,ds++[d],S6,(RvAll.ts (((k3.trans k4).trans k5).trans k6) _ v2).app (aO v6 bM),s6,r6,(((k2.trans k3).trans k4).trans k5).trans k6⟩,.f⟩
  |false =>
   rw[if_neg zg] at r5 ⊢
   exact⟨_,by omega,rfl,BJ,ds,S5,RvAll.ts ((k3.trans k4).trans k5) _ v2,s5,r5,((k2.trans k3).trans k4).trans k5⟩
 ·have e:i=I.xs.length:=by omega
  subst e
  exact .inl ⟨ok.2 (zk _),fun p hp=>(hR.kp (k1.trans k2)).new s2 hp (pend _ _ p2 p) v2⟩
def Ev.none(X:Cx)(h:X.xe=fun _ _=>False):Ev X false:=⟨X.pn,X.xe,fun _=>E0,⟨by rintro p2 τ H s e s' _ ⟨_,_,_,_,_,_,_,_,_,z⟩;exact z.elim,fun e=>(by cases e),fun e=>(by cases e)⟩⟩
section
variable{K:Frag}{X:Cx}{b:Bool}{N:List Str}{src:List (Option Nat)}{scope:Scope}{tg iter elt:Expr}{ifs:List Expr}{pos:Pos}{ti:vO}{g:TG}{gd:vN}{tc:o_}{te:TD}
structure Qo(K:Frag)(X:Cx)(ifs:List Expr)(t:o_):Prop where
 of:∀{b:Bool} (y:Ev X b),K6 y.cx ifs (Tt K y.E t)
def jX:o_:=fun _ S R _=>R true S
theorem mf:Qo K X [] jX:=⟨fun y pins s τ H Q I ⟨σ,S,R,Z,aw,hS,q,hR,hZ⟩=>En pins s τ H Q I (hR true S H q hS (.refl _))⟩
theorem nI(S:eG X N src scope)(hit:DI K X tg iter ti)(hg:∀C s H ex pn,PG (eR X N scope C s H ex pn) tg g)(hx:tu g src)(Qp:∀v τ H Q,Tg K gd v τ H Q→g v τ H Q)
  (hi:∀C s H ex pn,Qo K (eR X N scope C s H ex pn) ifs tc) (he:∀C s H ex pn,DE K (eR X N scope C s H ex pn) elt te)
  (hs:∀x,foldedSetIterable iter X.env x=pure x:=by intro _;rfl) (hc:X.calm=true:=by rfl):DE K X (.ListComp elt [⟨tg,iter,ifs,0⟩] scope pos) (xx ti src gd tc te) :=
 ⟨fun y=>(Er (X:=y.cx) (tc:=Tt K (fun _=>E0) tc) (te:=T K (fun _=>E0) te) ⟨S.kind,S.rf,S.loc,S.JO,S.len,S.src⟩ hc (hit.of y) hg hx (fun C s H ex pn=>(hi C s H ex pn).of (.none _ rfl)) (fun C s H ex pn=>(he C s H ex pn).of (.none _ rfl)) hs).mono fun _ _ _ h=>h.comp Qp⟩
theorem Qq(hN:X.N.Nodup)(S:eG X N src scope)(hit:DI K X tg iter ti)(hg:∀C s H ex pn,PG (eR X N scope C s H ex pn) tg g)(hx:tu g src)(Qp:∀v τ H Q,Tg K gd v τ H Q→g v τ H Q)
  (hi:∀C s H ex pn,Qo K (eR X N scope C s H ex pn) ifs tc) (he:∀C s H ex pn,DE K (eR X N scope C s H ex pn) elt te) (Pj:X.N[i]?=some x:=by rfl) (NF:X.env.scope.names.lookup x=some .local:=by rfl)
  (Pk:swapsWith (.ListComp elt [⟨tg,iter,ifs,0⟩] scope pos) (some (.Name x pos')) Es.line X.env=pure true:=by rfl)
  (hs:∀x,foldedSetIterable iter X.env x=pure x:=by intro _;rfl) (hc:X.calm=true:=by rfl):DS K X b (.Assign [.Name x pos'] (.ListComp elt [⟨tg,iter,ifs,0⟩] scope pos) Es) (Mb i (xx ti src gd tc te)) :=
 ⟨fun y=>(vq (X:=y.cx) (i:=i) (tc:=Tt K (fun _=>E0) tc) (te:=T K (fun _=>E0) te) hN Pj NF ⟨S.kind,S.rf,S.loc,S.JO,S.len,S.src⟩ hc (hit.of y) hg hx (fun C s H ex pn=>(hi C s H ex pn).of (.none _ rfl)) (fun C s H ex pn=>(he C s H ex pn).of (.none _ rfl)) Pk hs).mono
  <| by rintro D τ H ⟨σ,S,De,Z,aw,hS,q,hD,hZ⟩;exact T.comp Qp ⟨σ,S,_,_,aw,hS,q,fun d S1 v H1 r1 v1 s1 k1=>hD.nx _ _ _ _ r1 ((aw.ts k1).set i v1) s1 k1,hZ.at aw⟩⟩
theorem aL:∀v τ H Q,Tg K (IH i) v τ H Q→cu i v τ H Q:=by rintro v τ H Q ⟨d,σ,S,R,rv,aw,hS,q,hR⟩;exact hR _ S _ H q (aw.set i rv) hS (.refl _)
end
structure nJ(K:Frag)(x qual:Str)(st:Stmt)(f:Addr)(fd:FuncData):Prop where
 ex:∃(oc:Value) (od:Option Addr) (dV kV doc pm:Value) (an:Option Addr) (bp ct:Value) (Hy:Array (Option Value)),
  fd=fnOf x qual (i5 st) (cQ st) (af st) dV kV doc pm an bp ct∧K.lookup f=some ⟨oc,od,.func fd,Hy⟩∧codeIn K bp qual=true
def gy(N:List Str)(ds:List D):SD:=ds.map some++List.replicate (N.length - ds.length) none
section
variable{P:Program}{w:World}{K:Frag}{mg:Str→Option Value}{base:Heap}
theorem nJ.Uv{x qual:Str}{st:Stmt}{f:Addr}{fd:FuncData}{N ps:List Str}{k:Nat}{sp:qD}(F:nJ K x qual st f fd)(S:ai N ps (af st))(len:∀ds S R Z,sp ds S R Z→ds.length=ps.length)
  (ig:∀(bp:Value) (A:Around) (outer:List Env) (s:Shared) (H:Hp) (E:XK) (ds:List D) (S:aQ) (R:KD) (Z:KX),fi k (A.deeper (envOfC qual (af st) s.heap.objs.size f bp))→sp ds S R Z →
   ∃t,xt K (ie (h_ P w mg) P w K mg base N qual (af st) f bp A outer s H E) true (cQ st) t∧t { nx:=fun _ S'=>R .ax S',rt:=R } (gy N ds) S fun _=>Z):cw P w K mg base (h_ P w mg) (k+1) f fd ps (uW K sp):=by
 obtain⟨oc,od,dV,kV,doc,pm,an,bp,ct,Hy,rfl,lk,Bc⟩:=F.ex
 have jl:ps.length≤N.length:=by have:=congrArg List.length S.pre;rw[zG] at this;lia
 refine Ge lk Bc S (by rintro vs H Q E ⟨ds,S',R,Z,v,_,h,_⟩;exact by rw[v.len];exact len _ _ _ _ h) fun A outer s H vs Q E hr ⟨ds,S',R,Z,v,hS,h,hR,hZ⟩=>?_
 obtain⟨t,ht,q⟩:=ig bp A outer s H E ds S' R Z hr h
 have L:bI (ie (h_ P w mg) P w K mg base N qual (af st) f bp A outer s H E) E:=qA
 let y:Ev (ie (h_ P w mg) P w K mg base N qual (af st) f bp A outer s H E) true:=⟨_,(ie (h_ P w mg) P w K mg base N qual (af st) f bp A outer s H E).xe,fun _=>E,⟨fun p2 τ H1 s1 e s' I h=>Gr L p2 τ H1 s1 e s' I h,fun _ p2 τ H1 s1 h' a cls args I hx he=>me L I hx he,fun _=>PassesOwn.leaving⟩⟩
 refine⟨Tl K (fun _=>E) t,ht.of y,gy N ds,S',_,fun _=>Z,?_,hS,q,⟨fun σ S1 τ H1 r a b c=>hR.kp c |>.now b r jz,hR,fun _ _ _ _ z=>z.elim,fun _ _ _ _ z=>z.elim⟩,fun σ τ C S1 H1 z a b c=>hZ C S1 H1 z b c⟩
 unfold gy start
 refine (nF v).app ?_
 rw[v.len]
 exact nE _ _ (by rw[List.length_replicate])
theorem cw.Qr(F:cw P w K mg base (h_ P w mg) k f fd ps (uW K sp))(h:∀ds S R Z,Ny ds S R Z→sp ds S R Z):cw P w K mg base (h_ P w mg) k f fd ps (uW K Ny) :=
 F.imp <| by rintro vs H Q E ⟨ds,S,R,Z,a,b,c,d⟩;exact⟨ds,S,R,Z,a,b,h _ _ _ _ c,d⟩
theorem cw.calm(F:cw P w K mg base (h_ P w mg) k f fd ps sp):cw P w K mg base NC k f fd ps fun vs H Q _=>sp vs H Q E0:=by
 refine⟨fun vs H Q E h=>F.len vs H Q E0 h,fun A outer s H args us vs Q E hr e0 hb r h=>codeAny_mono (F.run A outer s H args us vs Q E0 hr e0 hb r h) fun res s' q=>?_⟩
 cases res with
 |error e=>obtain⟨_,_,_,_,_,_,_,_,_,z⟩:=q;exact z.elim
 |ok fl=>cases fl <;> exact q
end
section
variable{K:Frag}{X:Cx}{b:Bool}{i:Nat}{n x:Str}{C0:Addr}{body tI:List Stmt}{BR:Stmt}{np tJ pos:Pos}
theorem Cb{t:jP}(h:xt K X false body t):HY X body (fun E=>Tl K E t):=by
 intro pins s σ H D E I q
 let y:Ev X false:=⟨X.pn++pins,XE X pins E,E,⟨fun p2 τ H1 s1 e s' I1 hq=>⟨τ,H1,s1,⟨⟨I1.ok.mod,I1.ok.kind,I1.ok.glob,I1.ok.blt,I1.ok.above,I1.ok.inj,I1.ok.has,I1.ok.G3,I1.ok.hd,I1.ok.frames,I1.ok.JJ,I1.ok.Nq,I1.ok.bs,I1.ok.Bh,I1.ok.u7,I1.ok.yP,I1.ok.jf,I1.ok.Bi⟩,
  I1.os,I1.bare,I1.base,I1.loc,I1.cell,I1.free,I1.eQ,fun p hp=>I1.pin p (yi _ hp),I1.aF,I1.len⟩,hq⟩,fun e=>(by cases e),fun e=>(by cases e)⟩⟩
 have back:∀{ay:St}{H':Hp}{s':Shared},Inv y.cx [] ay H' s'→Inv X pins ay H' s':=fun I1=>⟨⟨I1.ok.mod,I1.ok.kind,I1.ok.glob,I1.ok.blt,I1.ok.above,I1.ok.inj,I1.ok.has,I1.ok.G3,I1.ok.hd,I1.ok.frames,I1.ok.JJ,I1.ok.Nq,I1.ok.bs,I1.ok.Bh,I1.ok.u7,I1.ok.yP,I1.ok.jf,I1.ok.Bi⟩,
  I1.os,I1.bare,I1.base,I1.loc,I1.cell,I1.free,I1.eQ,fun p hp=>I1.pin p (yi _ hp),I1.aF,I1.len⟩
 have I0:Inv y.cx [] σ H s:=⟨⟨I.ok.mod,I.ok.kind,I.ok.glob,I.ok.blt,I.ok.above,I.ok.inj,I.ok.has,I.ok.G3,I.ok.hd,I.ok.frames,I.ok.JJ,I.ok.Nq,I.ok.bs,I.ok.Bh,I.ok.u7,I.ok.yP,I.ok.jf,I.ok.Bi⟩,
  I.os,I.bare,I.base,I.loc,I.cell,I.free,I.eQ,fun p hp=>I.pin p (by rw[List.append_nil] at hp;exact hp),I.aF,I.len⟩
 refine zY (h.of y [] s σ H D I0 q) (fun f s' r=>?_) fun _ _ r=>r
 cases f with
 |next=>obtain⟨ay,H',I',q⟩:=r;exact⟨ay,H',back I',q⟩
 |brk=>obtain⟨ay,H',I',q⟩:=r;exact⟨ay,H',back I',q⟩
 |cont=>obtain⟨ay,H',I',q⟩:=r;exact⟨ay,H',back I',q⟩
 |ret u=>obtain⟨v,ay,H',I',r1,q⟩:=r;exact⟨v,ay,H',back I',r1,q⟩
def qE.less(De:qE)(i:Nat):qE:={ nx:=fun σ S=>De.nx (σ.set i none) S,rt:=De.rt,bk:=fun σ S=>De.bk (σ.set i none) S,ct:=fun σ S=>De.ct (σ.set i none) S }
def Qs(K:Frag)(i:Nat)(C0:Addr)(tb ts:jP):jP:=fun De σ S _ =>
 tb De σ S fun ay C S'=>mroIn K C (.ref C0)=some true∧∀a,S' a=none→ts (De.less i) (ay.set i (some (.ref a))) (S'.set a (.exc C)) fun _=>Zf
theorem Qt{tb ts:jP}(hN:X.N.Nodup)(hm:X.mg x=some (.ref C0))(c0:XC K C0)(hb:xt K X false body tb)(hs:∀a,xt K (X.fm a) false (BR::tI) ts)
  (hi:X.N[i]?=some n:=by rfl) (hx:X.env.scope.names.lookup n=some .local:=by rfl) (Pq:Gl X x:=by rfl) (ng:(x == ("__debug__" : Str))=false:=by decide) (sJ:X.stack=X.env::X.outer:=by rfl) (fr:X.env.frame=some X.env.locals:=by rfl) (hK:X.K=K:=by rfl) :
  DS K X b (.Try body [.ExceptHandler (some (.Name x np)) (some n) (BR::tI) tJ] [] [] pos) (Qs K i C0 tb ts):=by
 subst hK
 refine⟨fun y=>(HZ (X:=y.cx) (ts:=Tl X.K (fun _=>E0) ts) sJ fr hN hi hx Pq hm c0 (Cb (X:=y.cx) (K:=X.K) (t:=tb) ⟨fun z=>hb.of ⟨z.pn,z.xe,z.E,z.ok⟩⟩) (fun a=>(hs a).of ⟨y.pn,fun _ _=>False,fun _=>E0,⟨fun p2 τ H s e s' _ ⟨_,_,_,_,_,_,_,_,_,z⟩=>z.elim,fun e=>(by cases e),fun e=>(by cases e)⟩⟩) ng).mono fun D τ H ⟨σ,S,De,Z,aw,hS,q,hD,hZ⟩=>?_⟩
 refine⟨σ,S,De,_,aw,hS,q,hD,fun Bl L_ C S1 H1 ⟨m1,r1⟩ a1 s1 k1=>⟨C,rfl,m1,fun a ha=>?_⟩⟩
 have kn:Kp X.K H1 (upd H1 a (jy a (.ref C))):=.new ha
 have kk:=k1.trans kn
 have un:∀{EA:SD}{Mi:St}{H8:Hp},fK X.K H8 EA Mi→fK X.K H8 (EA.set i none) (Mi.set i none):=fun r=>r.unset i none
 exact⟨_,_,De.less i,fun _=>Zf,(a1.ts kn).set i (dk a),s1.new (c:=.exc C) ha aU,r1 a (s1.fresh ha),⟨fun EA S8 Mi H8 r8 a8 s8 k8=>hD.nx _ _ _ _ r8 (un a8) s8 (kk.trans k8),hD.rt.kp kk,fun EA S8 Mi H8 r8 a8 s8 k8=>hD.bk _ _ _ _ r8 (un a8) s8 (kk.trans k8),fun EA S8 Mi H8 r8 a8 s8 k8=>hD.ct _ _ _ _ r8 (un a8) s8 (kk.trans k8)⟩,fun _ _ _ _ _ z=>z.elim⟩
end
section
variable{K:Frag}{X:Cx}{x:Str}{id:String}{e:Expr}{es:List Expr}{p pos:Pos}{t:iw}{r:List D→aQ→KD→Prop}
def xy(K:Frag)(f:Value)(r:List D→aQ→KD→Prop):Prop:=∀X:Cx,X.K=K→dA X f (Lc K r)
theorem Qu(hc:xy K (.builtin id) r)(hm:X.mg x=none)(hv:bootBuiltins x=some (.builtin id))(ha:DA K X (e::es) t)(hg:Gl X x:=by rfl)
  (hn:x ≠ "__name__" := by decide) (ng:(x == ("__debug__" : Str))=false:=by decide) (he:starEach (e::es) X.env=(false,eval e X.env)::starEach es X.env:=by rfl) (jl:(backTo pos (starEach es X.env)).any (·.1)=false:=by rfl) (hK:X.K=K:=by rfl) :
  DE K X (.Call (.Name x p) (e::es) [] pos) (JX r t) :=
 ⟨fun y=>(nc (X:=y.cx) (hc _ hK) hg hm hv (ha.of y) hn ng he jl).mono fun _ _ _ h=>h.cb⟩
def Qv(K:Frag):List D→aQ→KD→Prop:=fun ds S R=>∃a C c b,ds=[.ref a,c]∧S a=some (.exc C)∧XC K C∧XA K C ∧
 ((∃Cd,c=.ref Cd∧kitOne K (.ref C) (.ref Cd)=some b)∨(∃n,c=.ty n∧kitOne K (.ref C) (.type n)=some b) ∨
  ∃as:List Addr,c=.tup (as.map D.ref)∧kitAny K (.ref C) (as.map Value.ref)=some b)∧R (.bl b) S
theorem RvAll.refs:∀{as:List Addr}{xs:List V},RvAll K H (as.map D.ref) xs→xs=as.map V.ref
 |[],xs,h=>h.nil
 |b::bs,xs,h=>by
  obtain⟨y,ys,rfl,h1,h2⟩:=h.cons
  rw[h1.ref,h2.refs];rfl
theorem qG:∀{as:List Addr}{ak:List Value},Vals (as.map V.ref) ak→ak=as.map Value.ref
 |[],_,.nil=>rfl
 |_::_,_,.cons r t=>by rw[qG t];cases r;rfl
theorem Cc:xy K (.builtin "isinstance") (Qv K):=by
 rintro X hK pins s σ H xs us Q I rx ⟨ds,S,R,r,hS,⟨a,C,c,b,e,h1,h2,h3,h4,h⟩,hR⟩
 subst hK e
 obtain⟨v,u,rfl,r1,r2⟩:=r.two
 have ha:H a=some (jy a (.ref C)):=hS a _ h1
 rcases h4 with ⟨Cd,rfl,h4⟩|⟨n,rfl,h4⟩|⟨as,rfl,h4⟩
 ·exact jr rfl pins s σ H _ us Q I rx ⟨a,C,.ref Cd,.ref Cd,b,by rw[r1.ref,r2.ref],ha,h2,h3,rfl,fun u' e=>e,h4,hR.now hS h (aX _)⟩
 ·exact jr rfl pins s σ H _ us Q I rx ⟨a,C,.ty n,.type n,b,by rw[r1.ref,r2.ty],ha,h2,h3,rfl,fun u' e=>e,h4,hR.now hS h (aX _)⟩
 ·obtain⟨p,zs,rfl,q,t⟩:=r2.tup
  rw[t.refs] at q
  exact pN rfl pins s σ H _ us Q I rx ⟨a,C,p,_,b,by rw[r1.ref],ha,h2,h3,q,fun ak hv=>by rw[qG hv];exact h4,hR.now hS h (aX _)⟩
end
section
variable{K:Frag}
end
section
variable{K:Frag}{X:Cx}{tg:Expr}
def aR(xs ys:List D):List D:=List.zipWith (fun a b=>D.tup [a,b]) xs ys
def Mj(t:iw):vO:=fun σ S R Z=>t σ S (fun ds S1=>∃xs ys,ds=[.tup xs,.tup ys]∧xs.length=ys.length∧R ⟨aR xs ys,fun _=>True⟩ S1) Z
theorem Uw{t:iw}(hm:X.mg "zip" = none)(ha:DA K X [a,c] t)(hg:Gl X "zip" := by rfl)(hs:starEach [a,c] X.env=[(false,eval a X.env),(false,eval c X.env)]:=by rfl)(l_:starEach [c] X.env=[(false,eval c X.env)]:=by rfl)(hK:X.K=K:=by rfl) :
  DI K X (.Tuple es kk tp) (.Call (.Name "zip" p) [a,c] [] pos) (Mj t):=by
 subst hK
 exact⟨fun y=>(EL (X:=y.cx) hg hm (ha.of y) hs l_).mono <| by rintro τ H R ⟨σ,S,RI,Z,aw,hS,q,hR,hZ⟩;exact⟨σ,S,_,Z,aw,hS,q,by
  rintro ds S1 vs H1 ⟨xs,ys,e,hl,r1⟩ v1 s1 k1
  subst e
  obtain⟨v,u,rfl,ra,rb⟩:=v1.two
  obtain⟨a,va,rfl,qa,ta⟩:=ra.tup
  obtain⟨b,vb,rfl,qb,tb⟩:=rb.tup
  refine⟨a,b,rfl,⟨va,.of qa⟩,⟨vb,.of qb⟩,hR _ S1 _ H1 r1 (fun i S2 H2 k2 s2 _=>?_) s1 k1⟩
  have IP:iX X.K H2 a va:=.of (k2.t _ _ qa)
  have IQ:iX X.K H2 b vb:=.of (k2.t _ _ qb)
  have la:va.length=xs.length:=ta.len
  have lb:vb.length=ys.length:=tb.len
  refine⟨fun d hd=>?_,fun h=>⟨va,vb,IP,IQ,by unfold aR at h;rw[List.length_zipWith] at h;lia⟩⟩
  unfold aR at hd
  obtain⟨x,y',e1,e2,e3⟩:=List.getElem?_zipWith_eq_some.mp hd
  subst e3
  obtain⟨vx,f1,g1⟩:=(RvAll.ts k2 _ ta).get e1
  obtain⟨vy,f2,g2⟩:=(RvAll.ts k2 _ tb).get e2
  refine⟨⟨va,vb,vx,vy,IP,IQ,f1,f2⟩,fun x' H' ⟨T,hT,e4,e5⟩=>?_⟩
  have:=e5 va vb vx vy IP IQ f1 f2
  subst this e4
  have kk:Kp X.K H2 (upd H2 T (.tup [vx,vy])):=.new hT
  exact⟨iu aU (RvAll.ts kk _ (aO g1 (aO g2 bM))),kk,s2.grow hT⟩,hZ⟩⟩
theorem rB:∀v τ H Q,Tg K (B9 2 (kY (IH i) (kY (IH j) B8))) v τ H Q→vd K 2 (dZ (cu i) (dZ (cu j) vc)) v τ H Q:=by
 rintro v τ H Q ⟨d,σ,S,R,rv,aw,hS,⟨ds,e,hl,a,r,e1,b,r',e2,e3,q⟩,hR⟩
 subst e e1 e2 e3
 obtain⟨p,xs,rfl,hp,t⟩:=rv.tup
 obtain⟨v1,v2,rfl,r1,r2⟩:=t.two
 exact⟨p,_,rfl,.of hp,rfl,v1,[v2],rfl,v2,[],rfl,rfl,hR _ S _ H q ((aw.set i r1).set j r2) hS (.refl _)⟩
end
section
variable{K:Frag}{X:Cx}{b:Bool}{pos:Pos}
def Ml(tl ti tv:TD):jP:=fun De σ S Z=>tv σ S (fun v S1=>tl σ S1 (fun x S2=>ti σ S2 (fun y S3=>∃a es i j,x=.ref a∧y=.int i∧S3 a=some (.lst es)∧Bw es.length i=some j∧De.nx σ (S3.set a (.lst (es.set j v)))) (Z σ)) (Z σ)) (Z σ)
theorem RP{o i value:Expr}{tl ti tv:TD}{pos':Pos}(ho:DE K X o tl)(hi:DE K X i ti)(hv:DE K X value tv)
  (ha:∀v,assign (.Subscript o i pos') X.env v=(do
   let ov ← holding [v] (eval o X.env)
   let iv ← holding [v,ov] (eval i X.env)
   standAt pos'
   holding [v,ov,iv] (setItem ov iv v)
   release [v,ov,iv] []):=by intro _;rfl)
  (hs:swapsWithSole [.Subscript o i pos'] value pos.line X.env=pure false:=by rfl) (hw:swappedStores [.Subscript o i pos'] value X.env=pure none:=by rfl) (h1:(assignEach [.Subscript o i pos'] X.env).map (·.2)=[assign (.Subscript o i pos') X.env]:=by rfl) :
  DS K X b (.Assign [.Subscript o i pos'] value pos) (Ml tl ti tv) :=
 ⟨fun y=>(Bn (X:=y.cx) (hv.of y) (He (ho.of y) (hi.of y) set_list ha) hs hw h1).mono <| by rintro D τ H ⟨σ,S,De,Z,aw,hS,q,hD,hZ⟩;exact
  ⟨σ,S,_,_,aw,hS,q,fun v S1 vv H1 r1 v1 s1 k1=>⟨σ,S1,_,_,aw.ts k1,s1,r1,fun x S2 xv H2 r2 v2 s2 k2=>⟨σ,S2,_,_,aw.ts (k1.trans k2),s2,r2,by
   rintro y S3 yv H3 ⟨a,es,i,j,e1,e2,e3,e4,r3⟩ v3 s3 k3
   subst e1 e2
   obtain⟨xs,e5,t⟩:=s3.lst e3
   have kk:=s3.nD (o:=.lst (xs.set j vv)) e3
   refine⟨a,xs,i,j,(Rv.ts k3 _ v2).ref,v3.int,e5,by rw[t.len];exact e4,?_⟩
   exact hD.nx _ _ _ _ r3 (aw.ts (((k1.trans k2).trans k3).trans kk)) (s3.put (c:=.lst _) e3 ⟨_,aU,RvAll.ts kk _ (t.set j (Rv.ts (k2.trans k3) _ v1))⟩) (((k1.trans k2).trans k3).trans kk),hZ.on (k1.trans k2) (aw.ts (k1.trans k2))⟩,hZ.on k1 (aw.ts k1)⟩,hZ.at aw⟩⟩
def aN(z:Str):List D:=z.cps.toList.map fun c=>D.str ⟨#[c]⟩
def GB(t:TD):vO:=fun σ S R Z=>t σ S (fun x S1=>∃z,x=.str z∧R ⟨aN z,fun _=>True⟩ S1) Z
theorem vP{t:TD}(h:DE K X l t):DI K X tg l (GB t) :=
 ⟨fun y=>(HN (X:=y.cx) (h.of y)).mono <| by rintro τ H R ⟨σ,S,RI,Z,aw,hS,q,hR,hZ⟩;exact⟨σ,S,_,Z,aw,hS,q,by
  rintro x S1 v H1 ⟨z,e,r1⟩ v1 s1 k1
  subst e
  refine⟨z,v1.str,hR _ S1 _ H1 r1 (fun i S2 H2 k2 s2 _=>⟨fun d hd=>?_,fun hl=>?_⟩) s1 k1⟩
  ·unfold aN at hd
   rw[zQ,Array.getElem?_toList] at hd
   cases q:z.cps[i]? with
   |none=>rw[q] at hd;cases hd
   |some c =>
    rw[q] at hd;cases hd
    refine⟨(Array.getElem?_eq_some_iff.mp q).1,fun x' H' ⟨e1,c',e2,e3⟩=>?_⟩
    rw[q] at e2;cases e2
    subst e1 e3
    exact⟨dj _,.refl _,s2⟩
  ·unfold aN at hl;rw[zb,zR] at hl;exact hl,hZ⟩⟩
def EV(t:TD):TD:=fun σ S R Z=>t σ S (fun x S1=>∃ss:List Str,ph S1 x (ss.map D.str)∧ss.length<4000∧R (.int (gw ss).length) S1) Z
theorem RQ{t:TD}(h:DE K X e t)(hm:X.mg "len" = none)(Ux:X.mg "set" = none)(hp:isPlain e=true:=by rfl)(hg:Gl X "len" := by rfl)(Uy:Gl X "set" := by rfl)(he:starEach [e] X.env=[(false,eval e X.env)]:=by rfl)
  (Uz:starEach [Expr.Call (.Name "set" p') [e] [] pos'] X.env=[(false,eval (.Call (.Name "set" p') [e] [] pos') X.env)]:=by rfl) (hK:X.K=K:=by rfl) (hc:X.calm=true:=by rfl) :
  DE K X (.Call (.Name "len" p) [.Call (.Name "set" p') [e] [] pos'] [] pos) (EV t):=by
 subst hK
 refine⟨fun y=>(nc (X:=y.cx) (Ak (X:=y.cx) rfl rfl) hg hm aP (Pl (kQ (X:=y.cx) (Aj (X:=y.cx) rfl rfl rfl hc) Uy Ux HU (Pl (h.of y) vj hp) (by decide) (by decide) he rfl) vj rfl) (by decide) (by decide) Uz rfl).mono fun τ H Q ⟨σ,S,R,Z,aw,hS,q,hR,hZ⟩=>?_⟩
 refine⟨σ,S,_,Z,aw,hS,q,fun x S1 v H1 ⟨ss,h1,hl,r1⟩ v1 s1 k1=>?_,hZ⟩
 obtain⟨a,xs,rfl,hq,t⟩:=h1.at s1 v1
 rw[t.strs] at hq
 exact⟨a,ss,rfl,hq,hl,fun l hl=>⟨l,ss,rfl,aU,hR _ _ _ _ r1 (aA _) (s1.grow hl) (k1.trans (.new hl))⟩⟩
end
theorem Au{K:Frag}{S:aQ}{H:Hp}{l:Addr}(hS:Rs K S H)(h:S l=some .well):∃x y z:Int,Rs K (S.set l (.lst [.int x,.int y,.int z])) H:=by
 obtain⟨x,y,z,e⟩:∃x y z:Int,H l=some (.lst [.int x,.int y,.int z]):=hS l _ h
 refine⟨x,y,z,fun b c hb=>?_⟩
 by_cases q:b=l
 ·subst q;rw[ae] at hb;cases hb
  exact⟨_,e,aO (aA x) (aO (aA y) (aO (aA z) bM))⟩
 ·rw[aI q] at hb;exact hS b c hb
theorem qH{K:Frag}{S:aQ}{H:Hp}{l:Addr}{x y z:Int}(h:S l=some .well)(hS:Rs K (S.set l (.lst [.int x,.int y,.int z])) H):Rs K S H:=fun b c hb=>by
 by_cases q:b=l
 ·subst q;rw[h] at hb;cases hb
  obtain⟨xs,e,t⟩:=hS.lst (a:=b) ae
  rw[t.ints (bs:=[x,y,z])] at e
  exact⟨x,y,z,e⟩
 ·exact hS b c (by rw[aI q];exact hb)
def IS(pre:List D→Addr→Prop)(post:List D→D→Prop):qD:=fun ds S R _=>∃l x y z,pre ds l∧S l=some (.lst [.int x,.int y,.int z])∧∀d x' y' z',post ds d→R d (S.set l (.lst [.int x',.int y',.int z']))
def Cf(pre:List D→Addr→Prop)(post:List D→D→Prop):qD:=fun ds S R _=>∃l,pre ds l∧S l=some .well∧∀d,post ds d→R d S
theorem Av{P:Program}{w:World}{K:Frag}{mg:Str→Option Value}{base:Heap}{k:Nat}{f:Addr}{fd:FuncData}{ps:List Str}{pre:List D→Addr→Prop}{post:List D→D→Prop}
  (F:cw P w K mg base (h_ P w mg) k f fd ps (uW K (IS pre post))):cw P w K mg base (h_ P w mg) k f fd ps (uW K (Cf pre post)):=by
 refine F.imp fun vs H Q E ⟨ds,S,R,Z,v,hS,⟨l,hp,hw,h⟩,hR,hZ⟩=>?_
 obtain⟨x,y,z,UA⟩:=Au hS hw
 refine⟨ds,_,fun d S2=>∃x' y' z',post ds d∧S2=S.set l (.lst [.int x',.int y',.int z']),fun _ _=>False,v,UA,⟨l,x,y,z,hp,ae,fun d x' y' z' hd=>⟨x',y',z',hd,kX⟩⟩,fun d S2 u H' ⟨x',y',z',hd,e⟩ rv hs kp=>?_,fun _ _ _ q=>q.elim⟩
 subst e
 exact hR d S u H' (h d hd) rv (qH hw hs) kp
def Sub(S S':aQ):Prop:=∀b c,S b=some c→S' b=some c
theorem Sub.refl(S:aQ):Sub S S:=fun _ _ h=>h
theorem Sub.trans(a:Sub S S1)(b:Sub S1 S2):Sub S S2:=fun p c h=>b p c (a p c h)
theorem Sub.new(h:S p=none):Sub S (S.set p c):=fun b c' hb=>by rw[aI (xo hb h)];exact hb
theorem Rs.sub{K:Frag}{S S':aQ}{H:Hp}(h:Rs K S' H)(s:Sub S S'):Rs K S H:=fun a c e=>h a c (s a c e)
def Fo(S':aQ)(p:aQ→Prop):Prop:=∃S,Sub S S'∧p S
theorem fo(h:p S):Fo S p:=⟨S,.refl S,h⟩
section
variable{P:Program}{w:World}{K:Frag}{mg:Str→Option Value}{base:Heap}
theorem nJ.ok{x qual:Str}{st:Stmt}{f:Addr}{fd:FuncData}{N ps:List Str}{k:Nat}{sp:qD}(F:nJ K x qual st f fd)(S:ai N ps (af st))(len:∀ds S R Z,sp ds S R Z→ds.length=ps.length)
  (ig:∀(bp:Value) (A:Around) (outer:List Env) (s:Shared) (H:Hp) (E:XK) (ds:List D) (S:aQ) (R:KD) (Z:KX),fi k (A.deeper (envOfC qual (af st) s.heap.objs.size f bp))→sp ds S R Z →
   ∃t,xt K (ie (h_ P w mg) P w K mg base N qual (af st) f bp A outer s H E) true (cQ st) t∧t { nx:=fun _ S'=>Fo S' (R .ax),rt:=fun d S'=>Fo S' (R d) } (gy N ds) S fun _ C S'=>Fo S' (Z C)):cw P w K mg base (h_ P w mg) (k+1) f fd ps (uW K sp):=by
 have F2:cw P w K mg base (h_ P w mg) (k+1) f fd ps (uW K fun ds S R' Z'=>∃R Z,sp ds S R Z∧R'=(fun d S'=>Fo S' (R d))∧Z'=fun C S'=>Fo S' (Z C)):=by
  refine F.Uv S (by rintro ds S R Z ⟨R0,Z0,h,_⟩;exact len _ _ _ _ h) fun bp A outer s H E ds S R Z hr ⟨R0,Z0,h,e1,e2⟩=>?_
  subst e1 e2
  exact ig bp A outer s H E ds S R0 Z0 hr h
 refine F2.imp <| by rintro vs H Q E ⟨ds,S,R,Z,v,hS,h,hR,hZ⟩;exact⟨ds,S,_,_,v,hS,⟨R,Z,h,rfl,rfl⟩,by rintro d S' u H' ⟨S2,sb,r⟩ rv rs kp;exact hR d S2 u H' r rv (rs.sub sb) kp,by rintro C S' H' ⟨S2,sb,r⟩ rs kp;exact hZ C S2 H' r (rs.sub sb) kp⟩
end
section
variable{K:Frag}{X:Cx}{b:Bool}
def Mm(t:jP):jP:=fun De σ S Z=>∃P:SD→aQ→Prop,t { De with nx:=fun ay S'=>Fo S' (P ay) } σ S Z∧∀ay S',P ay S'→De.nx ay S'
theorem DQ{st:Stmt}{t:jP}(h:DS K X b st t):DS K X b st (Mm t) :=
 ⟨fun y=>(h.of y).mono <| by rintro D τ H ⟨σ,S,De,Z,aw,hS,⟨P,q,hP⟩,hD,hZ⟩;exact⟨σ,S,_,Z,aw,hS,q,⟨by rintro Bl S1 L_ H1 ⟨S2,sb,r1⟩ a b c;exact hD.nx _ _ _ _ (hP _ _ r1) a (b.sub sb) c,hD.rt,hD.bk,hD.ct⟩,hZ⟩⟩
def UB(t:TD):TD:=fun σ S R Z=>t σ S (fun d S'=>Fo S' (R d)) Z
theorem Bd{t:TD}(h:DE K X e t):DE K X e (UB t) :=
 ⟨fun y=>(h.of y).mono <| by rintro τ H Q ⟨σ,S,R,Z,aw,hS,q,hR,hZ⟩;exact⟨σ,S,_,Z,aw,hS,q,by rintro d S' v H' ⟨S2,sb,r⟩ rv rs kp;exact hR d S2 v H' r rv (rs.sub sb) kp,hZ⟩⟩
theorem px(nd:N.Nodup)(h0:N[0]?=some a:=by rfl)(hx:∀C s H ex pn,Loc (eR X N scope C s H ex pn).env.scope a∧(eR X N scope C s H ex pn).env.scope.names.lookup a=some .local:=by intro _ _ _ _ _;exact⟨Or.inl rfl,rfl⟩) :
  ∀C s H ex pn,PG (eR X N scope C s H ex pn) (.Name a p) (cu 0):=fun C s H ex pn=>gq (i:=0) nd h0 (hx C s H ex pn).1 (.inr (hx C s H ex pn).2)
theorem Qw(nd:N.Nodup)(h0:N[0]?=some a:=by rfl)(h1:N[1]?=some c:=by rfl)
  (hx:∀C s H ex pn,Loc (eR X N scope C s H ex pn).env.scope a∧(eR X N scope C s H ex pn).env.scope.names.lookup a=some .local:=by intro _ _ _ _ _;exact⟨Or.inl rfl,rfl⟩)
  (hy:∀C s H ex pn,Loc (eR X N scope C s H ex pn).env.scope c∧(eR X N scope C s H ex pn).env.scope.names.lookup c=some .local:=by intro _ _ _ _ _;exact⟨Or.inl rfl,rfl⟩)
  (hl:∀env:Env,(assignEach [.Name a p,.Name c p'] env).length=2∧(assignEach [.Name a p,.Name c p'] env).findIdx? (·.1)=none∧(assignEach [.Name a p,.Name c p'] env).map (·.2)=assign (.Name a p) env::(assignEach [.Name c p'] env).map (·.2)∧(assignEach [.Name c p'] env).map (·.2)=assign (.Name c p') env::(assignEach [] env).map (·.2):=by intro _;exact⟨rfl,rfl,rfl,rfl⟩) (hK:X.K=K:=by rfl) (hc:X.calm=true:=by rfl) :
  ∀C s H ex pn,PG (eR X N scope C s H ex pn) (.Tuple [.Name a p,.Name c p'] j p2) (vd K 2 (dZ (cu 0) (dZ (cu 1) vc))):=fun C s H ex pn=>by
 subst hK
 have e:=hl (eR X N scope C s H ex pn).env
 exact ve (X:=eR X N scope C s H ex pn) hc (fL (gq (i:=0) nd h0 (hx C s H ex pn).1 (.inr (hx C s H ex pn).2)) (fL (gq (i:=1) nd h1 (hy C s H ex pn).1 (.inr (hy C s H ex pn).2)) qW e.2.2.2) e.2.2.1) e.1 e.2.1
end
section
variable{K:Frag}
end
end L2
namespace HT
open PySem PySem.Spec PyProof.Rows
section
variable{prog:Program}{w:World}{A:Around}{E:Value→Shared→Prop}{s:Shared}
end
end HT
namespace L2
open PySem PySem.Spec PyProof.Rows
section
variable{K:Frag}{X:Cx}
end
inductive Ci (S:aQ):List D→List PyData→Prop where
 |nil:Ci S [] []
 |cons {d:D}{p:PyData}{ds:List D}{ps:List PyData} : Dl S d p→Ci S ds ps→Ci S (d::ds) (p::ps)
section
variable{K:Frag}
end
theorem js:∀(k:Nat) (l:List Str),Vals (l.map V.str) (strsFrom k l)
 |_,[]=>.nil
 |k,z::l=>.cons ⟨_,rfl⟩ (js _ l)
def IT:V→List V→Hp→VK→Prop:=fun x vs H Q=>∃z y,x=.str z∧vs=[.str y]∧(y.length == 0)=false∧z.length+2≤sizeLine∧∀l,H l=none→Q (.ref l) (upd H l (.lst ((Txt.split z y).map V.str)))
theorem Cj:KZ X "str.split" IT:=by
 intro pins s σ H x vs v us Q I rx rv h
 obtain⟨z,y,rfl,rfl,hy,hz,q⟩:=h
 obtain⟨t,rfl⟩:=rx
 obtain⟨u,rfl,ru⟩:=rv.one
 obtain⟨t',rfl⟩:=ru
 have one:1≤sizeLine:=by lia
 have self:∀k,(∀l,H l=none→Q (.ref l) (upd H l (.lst [V.str z])))→EP X pins σ Q (.ref s.heap.objs.size) { s with heap:=s.heap.push { cls:=.type "list",data:=.seq #[.str z t] },toks:=k }:=fun k q =>
  ⟨.ref s.heap.objs.size,_,I.laid (t':=k) (o:=.lst [V.str z]) (fun b ob q=>zc _ q) (zk _) ⟨one,[.str z t],0,.cons ⟨t,rfl⟩ .nil,zo _ rfl⟩,rfl,q _ (I.aF.fresh (zk _))⟩
 by_cases h1:(decide (z.length<y.length) || decide (Builtin.Str.strKind z<Builtin.Str.strKind y))=true
 ·have e:Txt.split z y=[z]:=by unfold Txt.split;rw[if_pos h1]
  rw[e] at q
  exact call_meets F.slot_str_split (typeIs_str _ _ _) F.entry_str_split (F.args_str_split_2 _ _) (meets_str_split_cannot_occur z y t t' h1) (self s.toks q)
 ·by_cases h2:(Builtin.Str.occurrences z y 0 z.length (z.length+1)).isEmpty=true
  ·have e:Txt.split z y=[z]:=by unfold Txt.split;rw[if_neg h1,if_pos h2]
   rw[e] at q
   exact call_meets F.slot_str_split (typeIs_str _ _ _) F.entry_str_split (F.args_str_split_2 _ _) (meets_str_split_not_found z y t t' (Bool.eq_false_iff.mpr h1) hy h2) (self s.toks q)
  ·have e:Txt.split z y=Builtin.Str.partsBetween z (Builtin.Str.occurrences z y 0 z.length (z.length+1)) y.length:=by unfold Txt.split;rw[if_neg h1,if_neg h2]
   have UC:1≤y.length:=by
    have:¬ y.length=0:=fun q=>by rw[q] at hy;cases hy
    lia
   have hw:=split_weight z y UC
   have hl:(Txt.split z y).length≤sizeLine:=by lia
   rw[e] at q hl
   refine call_meets F.slot_str_split (typeIs_str _ _ _) F.entry_str_split (F.args_str_split_2 _ _) (meets_str_split_sep z y t t' (Bool.eq_false_iff.mpr h1) hy (Bool.eq_false_iff.mpr h2) (by lia) hl) ?_
   exact⟨.ref s.heap.objs.size,_,I.laid (o:=.lst (_:List V)) (fun b ob q=>zc _ q) (zk _) ⟨by rw[zb];exact hl,_,0,js s.toks _,zo _ rfl⟩,rfl,q _ (I.aF.fresh (zk _))⟩
section
variable{K:Frag}
def IU:B6:=fun x ds S R=>∃z y,x=.str z∧ds=[.str y]∧(y.length == 0)=false∧z.length+2≤sizeLine∧∀p,S p=none→R (.ref p) (S.set p (.lst ((Txt.split z y).map D.str)))
theorem m_split:Gz K "str.split" IU:=by
 rintro X hK pins s σ H x xs v us Q I rx rs ⟨d,ds,S,R,r1,r2,hS,⟨z,y,e1,e2,hy,hz,h⟩,hR⟩
 subst e1 e2
 obtain⟨w0,rfl,q2⟩:=r2.one
 exact Cj pins s σ H _ _ v us Q I rx rs ⟨z,y,r1.str,by rw[q2.str],hy,hz,fun l hl=>hR.new hS hl (h l) (xn _)⟩
def Mn:B6:=fun x ds S R=>∃z texts d,x=.str z∧ds=[d]∧ph S d (texts.map D.str)∧JoinOk z texts=true∧R (.str (Txt.join z texts)) S
theorem iA:Gz K "str.join" Mn:=by
 rintro X hK pins s σ H x xs v us Q I rx rs ⟨d,ds,S,R,r1,r2,hS,⟨z,texts,d',e1,e2,e3,hj,h⟩,hR⟩
 subst hK e1 e2
 obtain⟨w0,rfl,q2⟩:=r2.one
 obtain⟨a,ys,rfl,q,t⟩:=e3.at hS q2
 have et:=t.strs
 subst et
 exact EN pins s σ H _ _ v us Q I rx rs ⟨z,a,texts,r1.str,rfl,q,hj,hR.now hS h (dj _)⟩
theorem kZ(f:α→β):∀(l:List α) (j:Nat),(l.eraseIdx j).map f=(l.map f).eraseIdx j
 |[],_=>rfl
 |_::_,0=>rfl
 |x::l,j+1=>by rw[List.eraseIdx_cons_succ,zD,zD,List.eraseIdx_cons_succ,kZ f l j]
def pO(n:Nat)(c:Int):List D:=(List.range n).map fun i=>D.int ((i:Nat) * c)
theorem tX:(pO n c).length=n:=by unfold pO;rw[zb,List.length_range]
theorem tY(h:(pO n c)[i]?=some d):i<n∧d=.int ((i:Nat) * c):=by
 unfold pO at h
 rw[zQ] at h
 by_cases q:i<n
 ·rw[List.getElem?_range q] at h;exact⟨q,(zV h).symm⟩
 ·rw[List.getElem?_eq_none (by rw[List.length_range];lia)] at h;cases h
def Mo(t:iw):vO:=fun σ S R Z=>t σ S (fun ds S1=>∃j c:Int,ds=[.int 0,.int j,.int c]∧0≤j∧j≤100000∧1≤c∧c≤1000∧R ⟨pO ((j+c - 1) / c).toNat c,fun _=>True⟩ S1) Z
theorem UD{t:iw}(hm:X.mg "range" = none)(ha:DA K X [a,b,c] t)(hg:Gl X "range" := by rfl)(hs:starEach [a,b,c] X.env=[(false,eval a X.env),(false,eval b X.env),(false,eval c X.env)]:=by rfl)(l_:starEach [b,c] X.env=[(false,eval b X.env),(false,eval c X.env)]:=by rfl) :
  DI K X tg (.Call (.Name "range" p) [a,b,c] [] pos) (Mo t) :=
 ⟨fun y=>(Ap (X:=y.cx) hg hm (ha.of y) hs l_).mono <| by rintro τ H R ⟨σ,S,RI,Z,aw,hS,q,hR,hZ⟩;exact⟨σ,S,_,Z,aw,hS,q,by
  rintro ds S1 vs H1 ⟨j,c,e,h1,h2,h3,h4,r1⟩ v1 s1 k1
  subst e
  obtain⟨v0,vs,rfl,r0,v1⟩:=v1.cons
  obtain⟨v,u,rfl,r,r'⟩:=v1.two
  refine⟨j,c,by rw[r0.int,r.int,r'.int],h1,h2,h3,h4,hR _ S1 _ H1 r1 (fun i S H k s _=>⟨fun d hd=>?_,fun hl=>?_⟩) s1 k1⟩
  ·obtain⟨hi,rfl⟩:=tY hd
   refine⟨hi,fun x H' ⟨e1,e2⟩=>?_⟩
   subst e1 e2
   rw[Int.zero_add]
   exact⟨aA _,.refl _,s⟩
  ·rw[tX] at hl;exact hl,hZ⟩⟩
end
section
variable{K:Frag}
def tZ(p:Str×D):D:=.tup [.str p.1,p.2]
def dS(l:List (Str×D)):List (Key×D):=l.foldl (fun c p=>dput c (.inr p.1) p.2) []
theorem xA:∀{kvs:List (Str×D)}{ys:List V},RvAll K H (kvs.map tZ) ys→∃kv:List (Str×V),RH H ys kv∧∀c c',dD K H c c'→dD K H (kvs.foldl (fun c p=>dput c (.inr p.1) p.2) c) (kv.foldl (fun c p=>putK c (.inr p.1) p.2) c')
 |[],ys,h=>by
  rw[h.nil]
  exact⟨[],⟨rfl,fun i x p e=>(by cases i <;> cases e)⟩,fun c c' h=>h⟩
 |p::kvs,ys,h=>by
  obtain⟨y,ys,rfl,r1,r2⟩:=h.cons
  obtain⟨b,zs,rfl,hb,tz⟩:=Rv.tup (show Rv K H (.tup [.str p.1,p.2]) y from r1)
  obtain⟨v,u,rfl,rv,ru⟩:=tz.two
  have ev:=rv.str
  subst ev
  obtain⟨kv,⟨hl,hp⟩,hf⟩:=xA r2
  refine⟨(p.1,u)::kv,⟨by rw[zp,zp,hl],fun i x q e1 e2=>?_⟩,fun c c' h=>hf _ _ (h.put (.inr p.1) ru)⟩
  cases i with
  |zero=>cases e1;cases e2;exact⟨b,rfl,hb⟩
  |succ i=>exact hp i x q e1 e2
def Mp:List D→aQ→KD→Prop:=fun ds S R=>∃kvs:List (Str×D),ds=[.tup (kvs.map tZ)]∧∀p,S p=none→R (.ref p) (S.set p (.fJ (dS kvs)))
theorem vQ:iy K (.type "dict") Mp:=by
 rintro X hK hc pins s σ H xs us Q I rx ⟨ds,S,R,r,hS,⟨kvs,e,h⟩,hR⟩
 subst hK e
 obtain⟨v,rfl,r1⟩:=r.one
 obtain⟨a,ys,rfl,q,t⟩:=r1.tup
 obtain⟨kv,hp,hf⟩:=xA t
 refine vC hc pins s σ H _ us Q I rx ⟨a,ys,kv,rfl,q,hp,fun l hl=>?_⟩
 have kn:Kp X.K H (upd H l (.dK (xi kv))):=.new hl
 exact hR _ _ _ _ (h l (hS.fresh hl)) (dk l) (hS.new (c:=.fJ (dS kvs)) hl ⟨_,aU,(hf [] [] .nil).ts kn⟩) kn
theorem t4(kvs:List (Key×D))(k k':Key)(d:D):cS (dput kvs k d) k'=if k'=k then some d else cS kvs k':=by
 unfold dput
 by_cases hk:(kvs.any fun kv=>decide (kv.1=k))=true
 ·rw[if_pos hk]
  unfold cS
  induction kvs with
  |nil=>cases hk
  |cons r kvs ih =>
   rw[zD,yw,yw]
   by_cases e:r.1=k
   ·rw[if_pos e]
    by_cases e2:k'=k
    ·rw[if_pos e2,show decide (r.1=k')=true from zy (e.trans e2.symm)];rfl
    ·rw[if_neg e2,show decide (r.1=k')=false from zv fun q=>e2 (q.symm.trans e)]
     by_cases IV:(kvs.any fun kv=>decide (kv.1=k))=true
     ·have:=ih IV
      rw[if_neg e2] at this
      exact this
     ·have em:kvs.map (fun kv=>if kv.1=k then (kv.1,d) else kv)=kvs:=by
       conv=>rhs;rw[← List.map_id kvs]
       refine List.map_congr_left fun x hx=>?_
       rw[if_neg fun q=>IV (List.any_eq_true.mpr ⟨x,hx,zy q⟩)];rfl
      rw[em]
   ·rw[if_neg e]
    have IV:(kvs.any fun kv=>decide (kv.1=k))=true:=by
     rw[yG,zv e,yH] at hk;exact hk
    by_cases e3:r.1=k'
    ·rw[zy e3,if_neg fun q=>e (e3.trans q)]
    ·rw[zv e3];exact ih IV
 ·rw[if_neg hk]
  unfold cS
  rw[List.find?_append]
  have hn:∀x∈kvs,x.1≠k:=fun x hx q=>hk (List.any_eq_true.mpr ⟨x,hx,zy q⟩)
  by_cases e:k'=k
  ·subst e
   rw[if_pos rfl,List.find?_eq_none.mpr fun x hx=>by simp [hn x hx]]
   simp
  ·rw[if_neg e]
   have:([(k,d)].find? fun kv=>decide (kv.1=k'))=none:=by
    rw[yw,show decide (k=k')=false from zv fun q=>e q.symm];rfl
   rw[this,Option.or_none]
theorem k_(l:List (Str×D))(z:Str):(cS (dS l) (.inr z)).isSome=l.any fun p=>decide (p.1=z):=by
 have all:∀(l:List (Str×D)) (c:List (Key×D)),(cS (l.foldl (fun c p=>dput c (.inr p.1) p.2) c) (.inr z)).isSome=((cS c (.inr z)).isSome || l.any fun p=>decide (p.1=z)):=by
  intro l
  induction l with
  |nil=>intro c;simp
  |cons p l ih =>
   intro c
   rw[yC,ih,t4,yG]
   by_cases e:p.1=z
   ·rw[if_pos (by rw[e]),zy e];simp
   ·rw[if_neg fun q=>e (Sum.inr.inj q).symm,zv e];simp
 exact (all l []).trans (by rfl)
def Mq(a:Addr)(kvs:List (Str×V)):sO:=fun x y S R=>∃z,x=.str z∧y=.ref a∧R (.bl (kvs.lookup z).isSome) S
theorem Qx{X:Cx}{a b:Expr}{ta tb:TD}{pos:Pos}{w:World}{ad:Addr}{kvs:List (Str×V)}(d:JV w K ad kvs)(ha:DE K X a ta)(hb:DE K X b tb)(hw:X.w=w:=by rfl)(hm:behindInMarks .In b=false:=by with_unfolding_all rfl)(hK:X.K=K:=by rfl) :
  DE K X (.Compare a [.In] [b] pos) (Iv (Mq ad kvs) ta tb):=by
 refine⟨fun y=>(wW (X:=y.cx) (r:=Lr K (Mq ad kvs)) ?_ (ha.of y) (hb.of y) hm).mono fun _ _ _ h=>h.op⟩
 rintro pins s σ H x y' v u Q I rx ry ⟨d',e,S,R,r1,r2,hS,⟨z,e1,e2,h⟩,hR⟩
 subst e1 e2
 exact BZ (X:=y.cx) hw hK pins s σ H x y' v u Q I rx ry ⟨z,ad,kvs,r1.str,r2.ref,d,hR.now hS h (aX _)⟩
end
structure Mr(k:Nat)(A:Around):Prop where
 dp:A.depth+3 * k+5<recursionLimit
 un:A.units+16 * k+200<cLine
structure WS(P:Program)(w:World)(K:Frag)(mg:Str→Option Value)(base:Heap)(k:Nat)(f:Addr)(fd:FuncData)(ps:List Str)(sp:qD):Prop where
 len:∀ds S R Z,sp ds S R Z→ds.length=ps.length
 run:∀(A:Around) (outer:List Env) (s:Shared) (H:Hp) (args:Args) (us:List Value) (vs:List V) (Q:VK),Mr k A→Bt P w K mg base A outer s H→BindsTo s fd args (ps.zip us)→Vals vs us→uW K sp vs H Q E0 →
  codeAny (model P w) A (.call (.ref f) args) (CR (h_ P w mg) outer P w H s Q E0) s
section
variable{P:Program}{w:World}{K:Frag}{mg:Str→Option Value}{base:Heap}
end
section
variable{K:Frag}{X:Cx}{k:Nat}{f:Addr}{fd:FuncData}{ps:List Str}{x:Str}{p pos:Pos}{e:Expr}{es:List Expr}{sp:qD}
end
section
variable{K:Frag}
def Ms:List D→aQ→KD→Prop:=fun ds S R=>∃z n,ds=[.str z]∧intText? z=some n∧z.length≤640∧R (.int n) S
theorem nK:iy K (.type "int") Ms:=by
 rintro X hK hc pins s σ H xs us Q I rx ⟨ds,S,R,r,hS,⟨z,n,e,h1,h2,h⟩,hR⟩
 subst hK e
 obtain⟨v,rfl,r1⟩:=r.one
 have ev:=r1.str
 subst ev
 obtain⟨u,rfl,ru⟩:=vals1 rx
 obtain⟨t,rfl⟩:=ru
 exact PySem.W.KIN.call_text h1 h2 ⟨.int n,H,I.tok _,⟨_,rfl⟩,hR.now hS h (aA _)⟩
def Qy:List D→aQ→KD→Prop:=fun ds S R=>∃n,ds=[.int n]∧n.natAbs.log2<1920∧R (.str (Str.ofString (toString n))) S
theorem t5:iy K (.type "str") Qy:=by
 rintro X hK hc pins s σ H xs us Q I rx ⟨ds,S,R,r,hS,⟨n,e,h1,h⟩,hR⟩
 subst hK e
 obtain⟨v,rfl,r1⟩:=r.one
 have ev:=r1.int
 subst ev
 obtain⟨u,rfl,ru⟩:=vals1 rx
 obtain⟨t,rfl⟩:=ru
 exact PySem.P.str_of_int h1 ⟨.str _,H,I.tok _,⟨_,rfl⟩,hR.now hS h (dj _)⟩
end
def vR(pre:Nat)(X:Cx)(e:Expr)(t:TE):Prop:=∀(pins:List (Addr×Obj)) (s:Shared) (σ:St) (H:Hp) (Q:VK),Inv X pins σ H s→pre≤s.toks→t σ H Q→wpAny (model X.prog X.w) X.A (eval e X.env) (fun u s'=>EP X pins σ Q u s'∧1≤s'.toks) X.xe s
section
variable{X:Cx}{e o:Expr}{t:TE}
theorem PE.g(h:PE X e t):vR 1 X e t:=fun pins s σ H Q I hs q=>zY (wpAny_toks_of hs (h pins s σ H Q I q)) (fun _ _ q=>⟨q.2,q.1⟩) fun _ _ q=>q.2
theorem vR.pe(h:vR 0 X e t):PE X e t:=fun pins s σ H Q I q=>zY (h pins s σ H Q I (yz _) q) (fun _ _ q=>q.1) fun _ _ q=>q
def Qz(y z:Str)(t:TE):TE:=fun σ H Q=>t σ H fun x H1=>∃u,x=.str u∧u.length+(u.length+1) * z.length≤16777216∧Q (.str (Txt.replace u y z)) H1
theorem IW(ho:vR pre X o t)(Ck:(y == z)=false)(m:M2 X o "replace" apos (.Constant (.str y) j p1) (.Constant (.str z) k p2) aJ):vR pre X (.Call (.Attribute o "replace" apos) [.Constant (.str y) j p1,.Constant (.str z) k p2] [] aJ) (Qz y z t):=by
 intro pins s σ H Q I hs h
 refine wpAny_Call_method m.base m.Gi m.line zF PySem.F.slot_str_replace PySem.F.type_str_replace (bq (ho pins s σ H _ I hs h) fun u s1 ⟨⟨x,H1,I1,rx,z',ex,hz,q⟩,ht⟩=>?_)
 subst ex
 obtain⟨tk,rfl⟩:=rx
 refine⟨typeIs_str _ _ _,fun b q=>(by cases q),?_⟩
 rw[m.trees]
 refine Calls.callWith_builtin rfl (Calls.evalArgs_plain (z0 (Calls.Constant_str (z0 (Calls.Constant_str (Calls.spliced_nil ?_))))))
 refine wpAny_with_toks (n:=1) (by show 1≤s1.toks+1+1;lia) (PySem.SC.replace (u:=s1.toks) (v:=s1.toks+1) ?_ ?_ ?_ Ck hz fun t' k hk=>⟨⟨.str _,H1,?_,⟨_,rfl⟩,q⟩,hk⟩)
 ·exact yo ht
 ·exact Nat.succ_ne_zero _
 ·exact (Nat.succ_ne_self _).symm
 ·exact I1.tok k
theorem Aw(hr:JN X r)(he:PE X e te):vR 0 X (.Subscript e (.Slice (some (.Constant (.int i) j p3)) none none p2) pos) (fun σ H Q=>te σ H fun x H1=>r x (some i) none H1 Q):=by
 intro pins s σ H Q I _ h
 refine Subscript_ (bq (he pins s σ H _ I h) fun v s1 ⟨x,H1,I1,r1,q1⟩=>?_)
 refine wpAny_Slice ?_
 rw[evalPart_some]
 refine wpAny_Constant_int ?_
 rw[evalPart_none]
 refine zi ?_
 refine zi ?_
 have I2:Inv X pins σ H1 { s1 with toks:=s1.toks+1 }:=I1.tok _
 generalize DN:({ s1 with toks:=s1.toks+1 } : Shared)=s3 at I2
 have UE:1≤s3.toks:=by rw[← DN];exact Nat.le_add_left _ _
 have I4:Inv X pins σ H1 { s3 with heap:=s3.heap.push { cls:=.type "slice",data:=.fields #[.int i s1.toks,.none,.none] } }:=I2.kept (t':=s3.toks) fun b ob q=>zc _ q
 obtain⟨T,id,hT,ht,hg⟩:=hr pins { s3 with heap:=s3.heap.push { cls:=.type "slice",data:=.fields #[.int i s1.toks,.none,.none] } } σ H1 x v (.int i s1.toks) .none (some i) none s3.heap.objs.size Q I4 r1 (Heap.IsSliceOf.new ..) (.int i s1.toks) .none q1
 show wpAny (model X.prog X.w) X.A (subscriptTail e (.Slice (some (.Constant (.int i) j p3)) none none p2) v (.ref s3.heap.objs.size)) _ X.xe { s3 with heap:=s3.heap.push { cls:=.type "slice",data:=.fields #[.int i s1.toks,.none,.none] } }
 have hx:wpAny (model X.prog X.w) X.A (subscriptTail e (.Slice (some (.Constant (.int i) j p3)) none none p2) v (.ref s3.heap.objs.size)) (EP X pins σ Q) X.xe { s3 with heap:=s3.heap.push { cls:=.type "slice",data:=.fields #[.int i s1.toks,.none,.none] } }:=tail_any (ops:=[.ref s3.heap.objs.size,v]) ht hT hg (by with_unfolding_all rfl)
 exact zY (wpAny_toks_of (n:=1) UE hx) (fun _ _ q=>⟨q.2,q.1⟩) fun _ _ q=>q.2
theorem EW(ho:fh X (binaryOp .Add) r)(hb:vR 1 X e tb):PE X (.BinOp (.Constant (.str c) j p1) .Add e pos) (fun σ H Q=>tb σ H fun y H1=>r (.str c) y H1 Q):=by
 intro pins s σ H Q I h
 refine wpAny_BinOp (Calls.Constant_str ?_)
 refine bq (hb pins { s with toks:=s.toks+1 } σ H _ (I.tok _) (Nat.le_add_left _ _) h) fun u s2 ⟨⟨y,H2,I2,r2,q2⟩,_⟩=>?_
 exact ho pins s2 σ H2 (.str c) y (.str c s.toks) u Q I2 ⟨_,rfl⟩ r2 q2
end
structure DR(pre:Nat)(K:Frag)(X:Cx)(e:Expr)(t:TD):Prop where
 of:∀{b:Bool} (y:Ev X b),vR pre y.cx e (T K y.E t)
section
variable{K:Frag}{X:Cx}{e o:Expr}
theorem vR.mono{t t':TE}(h:vR pre X e t)(i:∀τ H Q,t' τ H Q→t τ H Q):vR pre X e t':=fun pins s τ H Q I hs q=>h pins s τ H Q I hs (i τ H Q q)
theorem g1{t:TD}(h:DE K X e t):DR 1 K X e t:=⟨fun y=>(h.of y).g⟩
theorem gd{t:TD}(h:DR 0 K X e t):DE K X e t:=⟨fun y=>(h.of y).pe⟩
def QA(y z:Str)(to:TD):TD:=fun σ S R Z=>to σ S (fun x S1=>∃u,x=.str u∧u.length+(u.length+1) * z.length≤16777216∧R (.str (Txt.replace u y z)) S1) Z
theorem gr(ho:DR pre K X o to)(Ck:(y == z)=false:=by decide)(m:M2 X o "replace" apos (.Constant (.str y) j p1) (.Constant (.str z) k p2) aJ:=by exact⟨rfl,rfl,rfl,rfl⟩) :
  DR pre K X (.Call (.Attribute o "replace" apos) [.Constant (.str y) j p1,.Constant (.str z) k p2] [] aJ) (QA y z to) :=
 ⟨fun q=>(IW (X:=q.cx) (ho.of q) Ck ⟨m.base,m.Gi,m.line,m.trees⟩).mono <| by rintro τ H Q ⟨σ,S,R,Z,aw,hS,h,hR,hZ⟩;exact
  ⟨σ,S,_,Z,aw,hS,h,by rintro d S1 x H1 ⟨u,e1,h1,r1⟩ v1 s1 k1;exact by subst e1;exact⟨u,v1.str,h1,(hR.kp k1).now s1 r1 (dj _)⟩,hZ⟩⟩
def QB(i:Int)(te:TD):TD:=fun σ S R Z=>te σ S (fun x S1=>Qa x (some i) none S1 R) Z
theorem gs(he:DE K X e te)(hK:X.K=K:=by rfl):DR 0 K X (.Subscript e (.Slice (some (.Constant (.int i) j p3)) none none p2) pos) (QB i te) :=
 ⟨fun y=>(Aw (X:=y.cx) (LX hK) (he.of y)).mono <| by rintro τ H Q ⟨σ,S,R,Z,aw,hS,q,hR,hZ⟩;exact
  ⟨σ,S,_,Z,aw,hS,q,fun d S1 x H1 r1 v1 s1 k1=>⟨d,S1,R,v1,s1,r1,hR.kp k1⟩,hZ⟩⟩
def GC(c:Str)(te:TD):TD:=fun σ S R Z=>te σ S (fun x S1=>LR (.str c) x S1 R) Z
theorem ga(he:DR 1 K X e te)(hu:X.A.units+64<cLine)(hK:X.K=K:=by rfl):DE K X (.BinOp (.Constant (.str c) j p1) .Add e pos) (GC c te) :=
 ⟨fun y=>(EW (X:=y.cx) (au y.cx hK hu) (he.of y)).mono <| by rintro τ H Q ⟨σ,S,R,Z,aw,hS,q,hR,hZ⟩;exact
  ⟨σ,S,_,Z,aw,hS,q,fun d S1 x H1 r1 v1 s1 k1=>⟨.str c,d,S1,R,dj c,v1,s1,r1,hR.kp k1⟩,hZ⟩⟩
end
theorem fj(a b:Str):(a++b).cps.toList=a.cps.toList++b.cps.toList:=by
 show (a.cps++b.cps).toList=_
 rw[Array.toList_append]
theorem lg{a b:Str}(h:a.cps.toList=b.cps.toList):a=b:=by
 obtain⟨⟨x⟩⟩:=a
 obtain⟨⟨y⟩⟩:=b
 cases h;rfl
def bB(c:Nat)(z:List Nat)(l:List Nat):List Nat:=l.flatMap fun d=>if d=c then z else [d]
theorem cU(c:Nat)(z a b:List Nat):bB c z (a++b)=bB c z a++bB c z b:=by unfold bB;rw[List.flatMap_append]
theorem aY(c:Nat)(z:List Nat)(d:Nat)(l:List Nat):bB c z (d::l)=(if d=c then z else [d])++bB c z l:=by unfold bB;rw[yy]
theorem lh:∀{l:List Nat},c∉l→bB c z l=l
 |[],_=>rfl
 |d::l,h=>by
  rw[aY,if_neg fun e=>h (by rw[e];exact zx),lh fun m=>h (zu _ m)];rfl
theorem qI(c:Nat)(z:Str):∀(ps:List Str),(∀p∈ps,c∉p.cps.toList)→bB c z.cps.toList ((⟨#[c]⟩:Str).join ps).cps.toList=(z.join ps).cps.toList
 |[],_=>by rw[join_nil,join_nil];rfl
 |[p],h=>by rw[join_one,join_one];exact lh (h p zx)
 |p::q::r,h=>by
  rw[yA,yA,fj,fj,fj,fj,cU,cU,qI c z (q::r) fun x hx=>h x (zu _ hx),lh (h p zx)]
  congr 2
  show bB c z.cps.toList [c]=_
  rw[aY,if_pos rfl];exact List.append_nil _
theorem rep1(x z:Str)(c:Nat):(Txt.replace x ⟨#[c]⟩ z).cps.toList=bB c z.cps.toList x.cps.toList:=by
 rw[PySem.StrLaws.replace_one,← qI c z _ fun p hp=>PySem.StrLaws.split_free x c p hp,PySem.StrLaws.join_split]
def rep2(a b:Nat)(z:List Nat):List Nat→List Nat
 |x::y::t=>if x=a∧y=b then z++rep2 a b z t else x::rep2 a b z (y::t)
 |l=>l
theorem rC{z t:List Nat}(h:x≠a):rep2 a b z (x::t)=x::rep2 a b z t:=by
 cases t with
 |nil=>rfl
 |cons y t=>rw[rep2,if_neg fun q=>h q.1]
theorem Cm{z t:List Nat}(h:y≠b):rep2 a b z (x::y::t)=x::rep2 a b z (y::t):=by rw[rep2,if_neg fun q=>h q.2]
theorem jY{z t:List Nat} : rep2 a b z (a::b::t)=z++rep2 a b z t:=by rw[rep2,if_pos ⟨rfl,rfl⟩]
theorem at2:PySem.StrLaws.At x ⟨#[a,b]⟩ x.length i↔∃t,x.cps.toList.drop i=a::b::t:=by
 unfold PySem.StrLaws.At
 rw[PySem.StrLaws.subAt_eq]
 have hl:x.length=x.cps.toList.length:=zR.symm
 show i+2≤_∧(List.take 2 (List.drop i x.cps.toList) == [a,b])=true↔_
 constructor
 ·rintro⟨h1,h2⟩
  have h2:List.take 2 (List.drop i x.cps.toList)=[a,b]:=eq_of_beq h2
  match e:List.drop i x.cps.toList,h2 with
  |p::q::t,h2=>cases h2;exact⟨t,rfl⟩
  |[p],h2=>cases h2
  |[],h2=>cases h2
 ·rintro⟨t,h⟩
  have h3:(List.drop i x.cps.toList).length=t.length+2:=by rw[h];rfl
  rw[zB] at h3
  refine⟨by lia,?_⟩
  rw[h];simp
theorem lj(l:List Nat):∀(n i:Nat),(∀k,i≤k→k<i+n→¬ ∃t,l.drop k=a::b::t)→rep2 a b z (l.drop i)=(l.drop i).take n++rep2 a b z (l.drop (i+n))
 |0,i,_=>rfl
 |n+1,i,h=>by
  have h0:=h i (zk _) (by lia)
  have ih:=lj (z:=z) l n (i+1) fun k h1 h2=>h k (by lia) (by lia)
  rw[show i+(n+1)=i+1+n by lia]
  cases e:l.drop i with
  |nil =>
   have e1:l.drop (i+1+n)=[]:=List.drop_eq_nil_of_le (by have:=List.drop_eq_nil_iff.mp e;lia)
   rw[e1];rfl
  |cons x t =>
   have e1:l.drop (i+1)=t:=by rw[show l.drop (i+1)=(l.drop i).drop 1 from (List.drop_drop ..).symm,e];rfl
   rw[e1] at ih
   rw[zP,List.cons_append,← ih]
   cases t with
   |nil=>rfl
   |cons y t =>
    rw[rep2,if_neg]
    rintro⟨rfl,rfl⟩
    exact h0 ⟨t,e⟩
theorem Ax(l:List Nat)(i:Nat)(h:∀k,i≤k→¬ ∃t,l.drop k=a::b::t):rep2 a b z (l.drop i)=l.drop i:=by
 rw[lj l l.length i fun k h1 _=>h k h1,List.drop_eq_nil_of_le (show l.length≤i+l.length by lia),ye (by rw[zB];lia)]
 exact List.append_nil _
theorem IX(x:Str)(i j:Nat):(Builtin.Str.strSub x i j).cps.toList=(x.cps.toList.drop i).take (j - i):=PySem.StrLaws.strSub_toList x i j
theorem nL{x z:Str}{a b:Nat} : ∀(Mt:List Nat) (i f:Nat),PySem.StrLaws.ChainG x ⟨#[a,b]⟩ x.length i Mt f→(∀k,f≤k→¬ PySem.StrLaws.At x ⟨#[a,b]⟩ x.length k)→(z.join (PySem.StrLaws.partsFrom x 2 i Mt)).cps.toList=rep2 a b z.cps.toList (x.cps.toList.drop i)
 |[],i,f,hc,hf=>by
  have hc:f=i:=hc
  subst hc
  have hl:x.length=x.cps.toList.length:=zR.symm
  show (z.join [Builtin.Str.strSub x f x.length]).cps.toList=_
  rw[join_one,IX,Ax _ _ fun k hk q=>hf k hk (at2.mpr q),ye (by rw[zB];lia)]
 |c::r,i,f,hc,hf=>by
  obtain⟨h1,h2,h3,h4⟩:=(show i≤c∧PySem.StrLaws.At x ⟨#[a,b]⟩ x.length c∧(∀k,i≤k→k<c→¬ PySem.StrLaws.At x ⟨#[a,b]⟩ x.length k)∧PySem.StrLaws.ChainG x ⟨#[a,b]⟩ x.length (c+2) r f from hc)
  have ih:=nL (z:=z) r (c+2) f h4 hf
  obtain⟨t,ht⟩:=at2.mp h2
  have e2:x.cps.toList.drop (c+2)=t:=by rw[show x.cps.toList.drop (c+2)=(x.cps.toList.drop c).drop 2 from (List.drop_drop ..).symm,ht];rfl
  have e3:=lj (a:=a) (b:=b) (z:=z.cps.toList) x.cps.toList (c - i) i fun k g1 g2 q=>h3 k g1 (by lia) (at2.mpr q)
  rw[show i+(c - i)=c by lia,ht,jY,← e2,← ih] at e3
  rw[e3]
  show (z.join (Builtin.Str.strSub x i c::PySem.StrLaws.partsFrom x 2 (c+2) r)).cps.toList=_
  have sM:∃p q,PySem.StrLaws.partsFrom x 2 (c+2) r=p::q:=by
   cases r with
   |nil=>exact⟨_,_,rfl⟩
   |cons d r=>exact⟨_,_,rfl⟩
  obtain⟨p,q,EX⟩:=sM
  rw[EX,yA,fj,fj,IX,zS]
theorem nM(x z:Str)(a b:Nat):(Txt.replace x ⟨#[a,b]⟩ z).cps.toList=rep2 a b z.cps.toList x.cps.toList:=by
 obtain⟨f,h1,h2⟩:=PySem.StrLaws.occ_tight x ⟨#[a,b]⟩ (by show 1≤2;decide)
 have h3:=nL (z:=z) _ 0 f h1 h2
 rw[List.drop_zero] at h3
 unfold Txt.replace
 by_cases h:((Builtin.Str.occurrences x ⟨#[a,b]⟩ 0 x.length (x.length+1)).isEmpty || (⟨#[a,b]⟩:Str).length == 0 && z.length == 0)=true
 ·rw[if_pos h]
  have h:(Builtin.Str.occurrences x ⟨#[a,b]⟩ 0 x.length (x.length+1)).isEmpty=true:=by
   rw[show ((⟨#[a,b]⟩:Str).length == 0)=false from rfl,zh,Bool.or_false] at h;exact h
  rw[List.isEmpty_iff.mp h] at h3
  rw[← h3]
  show _=(z.join [Builtin.Str.strSub x 0 x.length]).cps.toList
  rw[join_one,IX,List.drop_zero,ye (by rw[zR];exact zk _)]
 ·rw[if_neg h,PySem.StrLaws.glued_eq_join,PySem.StrLaws.partsBetween_eq]
  exact h3
def vS(v:Str):Str:=Txt.replace (Txt.replace v "=" "=e") " " "=b"
def xB(v:Str):Str:=Txt.replace (Txt.replace v "=b" " ") "=e" "="
theorem nN(v:Str):(vS v).cps.toList=bB 32 [61,98] (bB 61 [61,101] v.cps.toList):=by
 unfold vS
 rw[show (" " : Str)=⟨#[32]⟩ by trivial,rep1,show ("=" : Str)=⟨#[61]⟩ by trivial,rep1]
 rw[show ("=b" : Str).cps.toList=[61,98] by trivial,show ("=e" : Str).cps.toList=[61,101] by trivial]
theorem mQ(v:Str):(xB v).cps.toList=rep2 61 101 [61] (rep2 61 98 [32] v.cps.toList):=by
 unfold xB
 rw[show ("=e" : Str)=⟨#[61,101]⟩ by trivial,nM,show ("=b" : Str)=⟨#[61,98]⟩ by trivial,nM]
 rw[show ("=" : Str).cps.toList=[61] by trivial,show (" " : Str).cps.toList=[32] by trivial]
theorem xC:∀l:List Nat,rep2 61 98 [32] (bB 32 [61,98] (bB 61 [61,101] l))=bB 61 [61,101] l
 |[]=>rfl
 |c::l=>by
  have ih:=xC l
  rw[aY 61]
  by_cases h:c=61
  ·subst h
   rw[if_pos rfl,cU,show bB 32 [61,98] [61,101]=[61,101] from rfl]
   show rep2 61 98 [32] (61::101::bB 32 [61,98] (bB 61 [61,101] l))=_
   rw[Cm (by decide),rC (by decide),ih];rfl
  ·rw[if_neg h,cU]
   by_cases h2:c=32
   ·subst h2
    show rep2 61 98 [32] (61::98::bB 32 [61,98] (bB 61 [61,101] l))=_
    rw[jY,ih]
   ·rw[show bB 32 [61,98] [c]=[c] by rw[aY,if_neg h2];rfl]
    show rep2 61 98 [32] (c::bB 32 [61,98] (bB 61 [61,101] l))=_
    rw[rC h,ih];rfl
theorem xD:∀l:List Nat,rep2 61 101 [61] (bB 61 [61,101] l)=l
 |[]=>rfl
 |c::l=>by
  have ih:=xD l
  rw[aY]
  by_cases h:c=61
  ·subst h
   rw[if_pos rfl]
   show rep2 61 101 [61] (61::101::bB 61 [61,101] l)=_
   rw[jY,ih];rfl
  ·rw[if_neg h]
   show rep2 61 101 [61] (c::bB 61 [61,101] l)=_
   rw[rC h,ih]
def uX(n:Nat):List Nat:=(Nat.toDigits 10 n).map Char.toNat
theorem Co(h:d<10):d.digitChar.toNat=48+d:=by
 match d,h with
 |0,_=>rfl
 |1,_=>rfl
 |2,_=>rfl
 |3,_=>rfl
 |4,_=>rfl
 |5,_=>rfl
 |6,_=>rfl
 |7,_=>rfl
 |8,_=>rfl
 |9,_=>rfl
theorem eJ(h:n<10):uX n=[48+n]:=by unfold uX;rw[Nat.toDigits_of_lt_base h];show [n.digitChar.toNat]=_;rw[Co h]
theorem xE(h:10≤n):uX n=uX (n / 10)++[48+n % 10]:=by
 unfold uX;rw[Nat.toDigits_of_base_le (by decide) h,zE]
 show _++[(n % 10).digitChar.toNat]=_
 rw[Co (Nat.mod_lt _ (by decide))]
theorem Cp:∀n:Nat,NumText.AllDigits (uX n)∧uX n≠[]∧NumText.digitsVal (uX n)=n:=by
 intro n
 induction n using Nat.strongRecOn with
 |ind n ih =>
  by_cases h:n<10
  ·rw[eJ h]
   refine⟨fun c hc=>?_,nofun,?_⟩
   ·rw[zT.mp hc];lia
   ·show 0 * 10+(48+n - 48)=n;lia
  ·obtain⟨h1,h2,h3⟩:=ih (n / 10) (by lia)
   rw[xE (by lia)]
   refine⟨fun c hc=>?_,by simp,?_⟩
   ·rcases zW.mp hc with hc|hc
    ·exact h1 c hc
    ·rw[zT.mp hc];lia
   ·rw[NumText.digitsVal_snoc,h3];lia
theorem xF(hk:1≤k)(h:n<10 ^ k):(uX n).length≤k:=by
 unfold uX;rw[zb];exact toDigits_len_pow (by decide) hk h
def bZ(n:Int):Str:=Str.ofString (toString n)
theorem jt(s:String):(Str.ofString s).cps.toList=s.toList.map Char.toNat:=by
 rw[Str.ofString_eq_toList]
 try simp
theorem mR(n:Nat):(bZ (n:Int)).cps.toList=uX n:=by
 unfold bZ
 rw[jt]
 show (Nat.repr n).toList.map Char.toNat=_
 rw[Nat.repr_eq_ofList_toDigits,String.toList_ofList];rfl
theorem rD(n:Nat):(bZ (-((n+1:Nat):Int))).cps.toList=45::uX (n+1):=by
 unfold bZ
 rw[jt]
 show (("-" ++ Nat.repr (n+1)).toList.map Char.toNat)=_
 rw[String.toList_append,zE,Nat.repr_eq_ofList_toDigits]
 show 45::((String.ofList (Nat.toDigits 10 (n+1))).toList.map Char.toNat)=_
 rw[String.toList_ofList];rfl
theorem xG(n:Int):(∃m:Nat,n=m∧(bZ n).cps.toList=uX m)∨∃m:Nat,n = -((m+1:Nat):Int)∧(bZ n).cps.toList=45::uX (m+1):=by
 cases n with
 |ofNat m=>exact .inl ⟨m,rfl,mR m⟩
 |negSucc m=>exact .inr ⟨m,rfl,rD m⟩
theorem ag(z:Str):z.cps.size=z.cps.toList.length:=zR.symm
theorem jZ(h:n.natAbs<10 ^ 60):(bZ n).cps.size≤61:=by
 rw[ag]
 rcases xG n with ⟨m,rfl,e⟩|⟨m,rfl,e⟩
 ·rw[e];have:=xF (k:=60) (by decide) (show m<10 ^ 60 from h);lia
 ·rw[e,zp]
  have:=xF (k:=60) (by decide) (show m+1<10 ^ 60 from h)
  lia
theorem qJ(n:Int):∀c∈(bZ n).cps.toList,c=45∨(48≤c∧c≤57):=by
 rcases xG n with ⟨m,rfl,e⟩|⟨m,rfl,e⟩
 ·rw[e];exact fun c hc=>.inr ((Cp m).1 c hc)
 ·rw[e]
  intro c hc
  rcases zd.mp hc with h|h
  ·exact .inl h
  ·exact .inr ((Cp (m+1)).1 c h)
theorem lq{n:Int}(h:n.natAbs<10 ^ 60):n.natAbs.log2<1920:=by
 by_cases h0:n.natAbs=0
 ·rw[h0];decide
 ·rw[Nat.log2_lt h0]
  exact zm h (by trivial)
theorem xh(h:1≤z.cps.size):(Txt.slice z (some 1) none).cps.toList=z.cps.toList.drop 1:=by
 rw[ag] at h
 have:=PySem.StrLaws.sliceText_from (x:=z) (i:=1) ⟨by decide,by lia⟩
 have e:Txt.slice z (some 1) none=PySem.StrLaws.sliceText z (some 1) none:=rfl
 rw[e,this]
 show List.take (((z.cps.toList.length:Nat):Int) - 1).toNat (List.drop 1 z.cps.toList)=_
 rw[ye (by rw[zB];lia)]
theorem eD(z:Str)(c:Nat):Txt.startswith z ⟨#[c]⟩=decide (z.cps.toList.head?=some c):=by
 unfold Txt.startswith
 rw[PySem.StrLaws.subAt_eq]
 show (decide (0+1≤z.cps.size) && (List.take 1 (List.drop 0 z.cps.toList) == [c]))=_
 rw[ag,List.drop_zero]
 cases z.cps.toList with
 |nil=>rfl
 |cons a l =>
  rw[zP,yt,List.head?_cons]
  by_cases h:a=c <;> simp [h]
theorem t6:∀{a b r r':List Nat},c∉a→c∉b→a++c::r=b++c::r'→a=b∧r=r'
 |[],[],r,r',_,_,h=>by cases h;exact⟨rfl,rfl⟩
 |[],y::b,r,r',_,hb,h=>by cases h;exact absurd zx hb
 |x::a,[],r,r',ha,_,h=>by cases h;exact absurd zx ha
 |x::a,y::b,r,r',ha,hb,h=>by
  injection h with h1 h2
  obtain⟨e1,e2⟩:=t6 (fun m=>ha (zu _ m)) (fun m=>hb (zu _ m)) h2
  exact⟨by rw[h1,e1],e2⟩
theorem rE:∀{a b r:List Nat},c∉b→a++c::r≠b
 |[],b,r,hb,h=>hb (by rw[← h];exact zx)
 |x::a,[],r,_,h=>by cases h
 |x::a,y::b,r,hb,h=>by
  injection h with _ h2
  exact rE (fun m=>hb (zu _ m)) h2
theorem nO:∀{ps qs:List Str},ps≠[]→qs≠[]→(∀p∈ps,c∉p.cps.toList)→(∀p∈qs,c∉p.cps.toList)→(⟨#[c]⟩:Str).join ps=(⟨#[c]⟩:Str).join qs→ps=qs
 |[],_,h,_,_,_,_=>absurd rfl h
 |_,[],_,h,_,_,_=>absurd rfl h
 |[p],[q],_,_,_,_,h=>by rw[join_one,join_one] at h;rw[h]
 |[p],q::q'::r,_,_,hp,_,h=>by
  rw[join_one,yA] at h
  have h:=congrArg (fun s:Str=>s.cps.toList) h
  rw[fj,fj,zS] at h
  exact absurd h.symm (rE (hp p zx))
 |p::p'::r,[q],_,_,_,hq,h=>by
  rw[join_one,yA] at h
  have h:=congrArg (fun s:Str=>s.cps.toList) h
  rw[fj,fj,zS] at h
  exact absurd h (rE (hq q zx))
 |p::p'::r,q::q'::r',_,_,hp,hq,h=>by
  rw[yA,yA] at h
  have h:=congrArg (fun s:Str=>s.cps.toList) h
  rw[fj,fj,fj,fj,zS,zS] at h
  obtain⟨e1,e2⟩:=t6 (hp p zx) (hq q zx) h
  rw[lg e1,nO (c:=c) (ps:=p'::r) (qs:=q'::r') nofun nofun (fun x hx=>hp x (zu _ hx)) (fun x hx=>hq x (zu _ hx)) (lg e2)]
theorem nQ(h:ws≠[])(hf:∀p∈ws,32∉p.cps.toList):Txt.split (Txt.join " " ws) " " = ws:=by
 have hb:(" " : Str)=⟨#[32]⟩:=by trivial
 have hj:Txt.join " " ws=(" " : Str).join ws:=by
  cases ws with
  |nil=>exact absurd rfl h
  |cons x r=>exact PySem.StrLaws.glued_cons " " r x
 rw[hj,hb]
 refine nO (c:=32) ?_ h (fun p hp=>PySem.StrLaws.split_free _ 32 p hp) hf (PySem.StrLaws.join_split _ _)
 intro e
 have:=split_pos ((⟨#[32]⟩:Str).join ws) ⟨#[32]⟩
 rw[e] at this
 exact absurd this (by decide)
end L2
namespace HT
open PySem PySem.Spec PyProof.Rows
section
variable{prog:Program}{w:World}{A:Around}{E:Value→Shared→Prop}{s:Shared}
end
end HT
namespace L2
open PySem PySem.Spec PyProof.Rows
section
variable{K:Frag}{X:Cx}
def Mu:B6:=fun x ds S R=>∃a b es fs,x=.ref a∧ds=[.ref b]∧a≠b∧S a=some (.lst es)∧S b=some (.lst fs)∧es.length+fs.length≤sizeLine∧R .ax (S.set a (.lst (es++fs)))
theorem Ay:Gz K "list.extend" Mu:=by
 rintro X hK pins s σ H x xs v us Q I rx rs ⟨d,ds,S,R,r1,r2,hS,⟨a,b,es,fs,e1,e2,WT,e3,e4,hl,h⟩,hR⟩
 subst e1 e2
 obtain⟨w0,rfl,q2⟩:=r2.one
 obtain⟨zs,e5,t⟩:=hS.lst e3
 obtain⟨ys,e6,t2⟩:=hS.lst e4
 exact y9 pins s σ H x _ v us Q I rx rs ⟨a,b,zs,ys,r1.ref,by rw[q2.ref],e5,e6,by rw[t.len,t2.len];exact hl,hR.put hS e3 h jz (t.app t2)⟩
def Mv:B6:=fun x ds S R=>∃a es fs,x=.ref a∧ds=[.tup fs]∧S a=some (.lst es)∧es.length+fs.length≤sizeLine∧R .ax (S.set a (.lst (es++fs)))
theorem Az:Gz K "list.extend" Mv:=by
 rintro X hK pins s σ H x xs v us Q I rx rs ⟨d,ds,S,R,r1,r2,hS,⟨a,es,fs,e1,e2,e3,hl,h⟩,hR⟩
 subst e1 e2
 obtain⟨w0,rfl,q2⟩:=r2.one
 obtain⟨zs,e5,t⟩:=hS.lst e3
 obtain⟨p,ys,rfl,q,t2⟩:=q2.tup
 exact vJ pins s σ H x _ v us Q I rx rs ⟨a,p,zs,ys,r1.ref,rfl,e5,q,by rw[t.len,t2.len];exact hl,hR.put hS e3 h jz (t.app t2)⟩
end
theorem canon:∀(n:Nat) (l:List Nat),l.length=n→NumText.AllDigits l→l≠[]→(uX (NumText.digitsVal l)=l↔(l=[48]∨l.head?≠some 48)):=by
 intro n
 induction n with
 |zero=>intro l hl _ h0;exact absurd (List.eq_nil_of_length_eq_zero hl) h0
 |succ n ih =>
  intro l hl hd h0
  obtain⟨l',c,rfl⟩:∃l' c,l=l'++[c]:=⟨l.dropLast,l.getLast h0,(List.dropLast_concat_getLast h0).symm⟩
  have hc:=hd c (zN _ (zT.mpr rfl))
  have wM:NumText.AllDigits l':=fun x hx=>hd x (yi _ hx)
  rw[NumText.digitsVal_snoc]
  cases l' with
  |nil =>
   rw[show NumText.digitsVal [] * 10+(c - 48)=c - 48 by show 0 * 10+_=_;lia,eJ (by lia),show 48+(c - 48)=c by lia]
   refine⟨fun _=>?_,fun _=>rfl⟩
   by_cases h:c=48
   ·rw[h];exact .inl rfl
   ·exact .inr fun e=>h (by injection e)
  |cons a r =>
   have Ol:(a::r).length=n:=by rw[ze] at hl;exact Nat.succ.inj hl
   have ih:=ih (a::r) Ol wM nofun
   have sM:(a::r)++[c]≠[48]:=fun e=>by
    have:=congrArg List.length e
    rw[ze] at this
    exact absurd this (by simp)
   have hh:((a::r)++[c]).head?=some a:=rfl
   have ha:=hd a (yi _ zx)
   by_cases hz:NumText.digitsVal (a::r)=0
   ·rw[hz,show 0 * 10+(c - 48)=c - 48 by lia,eJ (by lia)]
    rw[hz,eJ (by decide)] at ih
    constructor
    ·intro e
     have:=congrArg List.length e
     rw[ze] at this
     exact absurd this (by simp)
    ·rintro (e|e)
     ·exact absurd e sM
     ·rw[hh] at e
      have h2:=ih.mpr (.inr fun q=>e q)
      injection h2 with h2 _
      exact absurd (by rw[← h2]) e
   ·rw[xE (by lia),show (NumText.digitsVal (a::r) * 10+(c - 48)) / 10=NumText.digitsVal (a::r) by lia,show 48+(NumText.digitsVal (a::r) * 10+(c - 48)) % 10=c by lia]
    constructor
    ·intro e
     have e1:=List.append_cancel_right e
     rcases ih.mp e1 with h|h
     ·rw[h] at hz;exact absurd rfl hz
     ·exact .inr h
    ·rintro (e|e)
     ·exact absurd e sM
     ·rw[ih.mpr (.inr e)]
def t9(l:List Nat)(most:Nat):Bool:=decide (1≤l.length) && (decide (l.length≤most) && (l.all (fun c=>decide (48≤c) && decide (c≤57)) && (decide (l=[48]) || !decide (l.head?=some 48))))
def bK(l:List Nat)(most:Nat):Bool:=decide (1≤l.length) && (decide (l.length≤most) && l.all (fun c=>decide (48≤c) && decide (c≤57)))
theorem mS(l:List Nat)(most:Nat):t9 l most=(bK l most && (decide (l=[48]) || !decide (l.head?=some 48))):=by
 unfold t9 bK
 rw[Bool.and_assoc,Bool.and_assoc]
theorem eE(h:bK l most=true):1≤l.length∧l.length≤most∧NumText.AllDigits l∧l≠[]:=by
 unfold bK at h
 simp only [zj,zt,zJ] at h
 refine⟨h.1,h.2.1,fun c hc=>h.2.2 c hc,?_⟩
 intro e
 rw[e] at h
 exact absurd h.1 (by decide)
theorem lr(h:NumText.AllDigits l)(hl:l.length≤most):NumText.digitsVal l<10 ^ most:=by
 refine zm ?_ (Nat.pow_le_pow_right (by decide) hl)
 clear hl
 have:∀(n:Nat) (l:List Nat),l.length=n→NumText.AllDigits l→NumText.digitsVal l<10 ^ l.length:=by
  intro n
  induction n with
  |zero=>intro l hl _;rw[List.eq_nil_of_length_eq_zero hl];exact Nat.one_pos
  |succ n ih =>
   intro l hl hd
   have h0:l≠[]:=fun e=>by rw[e] at hl;cases hl
   obtain⟨l',c,rfl⟩:∃l' c,l=l'++[c]:=⟨l.dropLast,l.getLast h0,(List.dropLast_concat_getLast h0).symm⟩
   have hc:=hd c (zN _ (zT.mpr rfl))
   have:=ih l' (by rw[ze] at hl;exact Nat.succ.inj hl) fun x hx=>hd x (yi _ hx)
   rw[NumText.digitsVal_snoc,ze,show [c].length=1 from rfl,Nat.pow_succ]
   lia
 exact this _ l rfl h
theorem nR(hm:most≤60)(h:bK z.cps.toList most=true):∃n:Int,intText? z=some n∧n.natAbs<10 ^ 60∧(decide (bZ n=z)=(decide (z.cps.toList=[48]) || !decide (z.cps.toList.head?=some 48))):=by
 obtain⟨h1,h2,h3,h4⟩:=eE h
 refine⟨(NumText.digitsVal z.cps.toList:Nat),intText_digits h3 h4 (by show z.cps.size≤4300;rw[ag];lia),?_,?_⟩
 ·exact zm (lr h3 h2) (Nat.pow_le_pow_right (by decide) hm)
 ·have hc:=canon _ _ rfl h3 h4
  have hn:bZ ((NumText.digitsVal z.cps.toList:Nat):Int)=z↔uX (NumText.digitsVal z.cps.toList)=z.cps.toList:=by
   rw[← mR]
   exact⟨fun e=>by rw[e],fun e=>lg e⟩
  rw[yj]
  simp only [zt,yg,Bool.not_eq_true',decide_eq_false_iff_not]
  rw[hn,hc]
theorem lu(e:z.cps.toList=45::l)(hm:most≤60)(h:bK l most=true):∃n:Int,intText? z=some n∧n.natAbs<10 ^ 60∧(decide (bZ n=z)=(!decide (l=[48]) && (decide (l=[48]) || !decide (l.head?=some 48)))):=by
 obtain⟨h1,h2,h3,h4⟩:=eE h
 have hsz:z.length≤4300:=by show z.cps.size≤4300;rw[ag,e,zp];lia
 have hb:=zm (lr h3 h2) (Nat.pow_le_pow_right (n:=10) (by decide) hm)
 have hc:=canon _ _ rfl h3 h4
 refine⟨-((NumText.digitsVal l:Nat):Int),intText_neg e h3 h4 hsz,by lia,?_⟩
 rw[yj]
 simp only [zt,yg,zj,Bool.not_eq_true',decide_eq_false_iff_not]
 rw[← hc]
 cases hv:NumText.digitsVal l with
 |zero =>
  constructor
  ·intro q
   have q:=congrArg (fun s:Str=>s.cps.toList) q
   have q:(bZ _).cps.toList=z.cps.toList:=q
   rw[show -((0:Nat):Int)=((0:Nat):Int) from rfl,mR,e,eJ (by decide)] at q
   injection q with q _
   exact absurd q (by decide)
  ·rintro⟨q1,q2⟩
   rw[eJ (by decide)] at q2
   exact absurd q2.symm q1
 |succ k =>
  constructor
  ·intro q
   have q:=congrArg (fun s:Str=>s.cps.toList) q
   have q:(bZ _).cps.toList=z.cps.toList:=q
   rw[rD,e] at q
   injection q with _ q
   refine⟨fun q1=>?_,q⟩
   rw[q1] at hv
   cases hv
  ·rintro⟨_,q2⟩
   refine lg ?_
   rw[rD,e,q2]
def j5(l:List Nat):List Nat:=bB 32 [61,98] (bB 61 [61,101] l)
def AA(l:List Nat):List Nat:=rep2 61 101 [61] (rep2 61 98 [32] l)
theorem fS(c:Nat)(l:List Nat):j5 (c::l)=(if c=61 then [61,101] else if c=32 then [61,98] else [c])++j5 l:=by
 unfold j5
 rw[aY 61,cU]
 congr 1
 by_cases h:c=61
 ·rw[if_pos h,if_pos h];rfl
 ·rw[if_neg h,if_neg h,aY]
  by_cases h2:c=32
  ·rw[if_pos h2];rfl
  ·rw[if_neg h2];rfl
theorem Cq(l:List Nat):AA (j5 l)=l:=by unfold AA j5;rw[xC,xD]
def dec:List Nat→Option (List Nat)
 |[]=>some []
 |[c]=>if c=61 then none else if c=32 then none else some [c]
 |c::x::r=>if c=61 then (if x=98 then (dec r).map (32::·) else if x=101 then (dec r).map (61::·) else none) else if c=32 then none else (dec (x::r)).map (c::·)
theorem nS(h1:c≠61)(h2:c≠32)(r:List Nat):dec (c::r)=(dec r).map (c::·):=by
 cases r with
 |nil=>show (if c=61 then none else if c=32 then none else some [c])=_;rw[if_neg h1,if_neg h2];rfl
 |cons x r=>show (if c=61 then _ else if c=32 then none else (dec (x::r)).map (c::·))=_;rw[if_neg h1,if_neg h2]
theorem Cr(r:List Nat):dec (61::98::r)=(dec r).map (32::·):=by show (if 61=61 then _ else _)=_;rw[if_pos rfl,if_pos rfl]
theorem Cs(r:List Nat):dec (61::101::r)=(dec r).map (61::·):=by show (if 61=61 then _ else _)=_;rw[if_pos rfl,if_neg (by decide),if_pos rfl]
theorem Ct(x:Nat)(r:List Nat)(h1:x≠98)(h2:x≠101):dec (61::x::r)=none:=by show (if 61=61 then _ else _)=_;rw[if_pos rfl,if_neg h1,if_neg h2]
theorem Cu(r:List Nat):dec (32::r)=none:=by
 cases r with
 |nil=>rfl
 |cons x r=>show (if 32=61 then _ else if 32=32 then none else _)=_;rw[if_neg (by decide),if_pos rfl]
theorem xH:∀v:List Nat,dec (j5 v)=some v
 |[]=>rfl
 |c::v=>by
  have ih:=xH v
  rw[fS]
  by_cases h:c=61
  ·rw[if_pos h,h];show dec (61::101::j5 v)=_;rw[Cs,ih];rfl
  ·rw[if_neg h]
   by_cases h2:c=32
   ·rw[if_pos h2,h2];show dec (61::98::j5 v)=_;rw[Cr,ih];rfl
   ·rw[if_neg h2];show dec (c::j5 v)=_;rw[nS h h2,ih];rfl
theorem j6:∀(u v:List Nat),dec u=some v→u=j5 v
 |[],v,h=>by cases h;rfl
 |[c],v,h=>by
  have h:(if c=61 then none else if c=32 then none else some [c])=some v:=h
  by_cases h1:c=61
  ·rw[if_pos h1] at h;cases h
  ·rw[if_neg h1] at h
   by_cases h2:c=32
   ·rw[if_pos h2] at h;cases h
   ·rw[if_neg h2] at h;cases h
    rw[fS,if_neg h1,if_neg h2];rfl
 |c::x::r,v,h=>by
  by_cases h1:c=61
  ·subst h1
   by_cases h2:x=98
   ·subst h2
    rw[Cr] at h
    cases e:dec r with
    |none=>rw[e] at h;cases h
    |some v' =>
     rw[e] at h;cases h
     rw[fS,if_neg (by decide),if_pos rfl,j6 r v' e];rfl
   ·by_cases h3:x=101
    ·subst h3
     rw[Cs] at h
     cases e:dec r with
     |none=>rw[e] at h;cases h
     |some v' =>
      rw[e] at h;cases h
      rw[fS,if_pos rfl,j6 r v' e];rfl
    ·rw[Ct x r h2 h3] at h;cases h
  ·by_cases h2:c=32
   ·rw[h2,Cu] at h;cases h
   ·rw[nS h1 h2] at h
    cases e:dec (x::r) with
    |none=>rw[e] at h;cases h
    |some v' =>
     rw[e] at h;cases h
     rw[fS,if_neg h1,if_neg h2,← j6 (x::r) v' e];rfl
theorem EY(u:List Nat):j5 (AA u)=u↔dec u=some (AA u) :=
 ⟨fun h=>by have:=xH (AA u);rw[h] at this;exact this,fun h=>(j6 _ _ h).symm⟩
theorem IY(h:dec u=some v):AA u=v:=by rw[j6 u v h,Cq]
def spL:List Nat→List (List Nat)
 |[]=>[[]]
 |c::r=>if c=61 then []::spL r else match spL r with
  |[]=>[[c]]
  |p::ps=>(c::p)::ps
theorem eT:∀u:List Nat,∃p ps,spL u=p::ps
 |[]=>⟨_,_,rfl⟩
 |c::r=>by
  obtain⟨p,ps,e⟩:=eT r
  unfold spL
  by_cases h:c=61
  ·rw[if_pos h];exact⟨_,_,rfl⟩
  ·rw[if_neg h,e];exact⟨_,_,rfl⟩
theorem nU(r:List Nat):spL (61::r)=[]::spL r:=by rw[spL,if_pos rfl]
theorem nV(h:c≠61)(e:spL r=p::ps):spL (c::r)=(c::p)::ps:=by rw[spL,if_neg h,e]
theorem j7:∀(u p:List Nat),p∈spL u→61∉p
 |[],p,h=>by rw[zT.mp h];exact nofun
 |c::r,p,h=>by
  obtain⟨q,qs,e⟩:=eT r
  by_cases hc:c=61
  ·rw[hc,nU] at h
   rcases zd.mp h with h|h
   ·rw[h];exact nofun
   ·exact j7 r p h
  ·rw[nV hc e] at h
   rcases zd.mp h with h|h
   ·rw[h]
    intro m
    rcases zd.mp m with m|m
    ·exact hc m.symm
    ·exact j7 r q (by rw[e];exact zx) m
   ·exact j7 r p (by rw[e];exact zu _ h)
def bY(l:List Nat):Str:=⟨l.toArray⟩
theorem cz(l:List Nat):(bY l).cps.toList=l:=rfl
theorem t_:∀u:List Nat,((⟨#[61]⟩:Str).join ((spL u).map bY)).cps.toList=u
 |[]=>rfl
 |c::r=>by
  have ih:=t_ r
  obtain⟨q,qs,e⟩:=eT r
  rw[e] at ih
  by_cases hc:c=61
  ·rw[hc,nU,e,zD,zD,yA,fj,fj]
   rw[zD] at ih
   rw[ih];rfl
  ·rw[nV hc e]
   cases qs with
   |nil =>
    rw[zD,List.map_nil,join_one] at ih ⊢
    rw[cz] at ih ⊢
    rw[ih]
   |cons q' qs =>
    rw[zD,zD,yA,fj,fj,cz] at ih ⊢
    rw[← ih];rfl
theorem ua(z:Str):Txt.split z "=" = (spL z.cps.toList).map bY:=by
 have hb:("=" : Str)=⟨#[61]⟩:=by trivial
 rw[hb]
 obtain⟨q,qs,e⟩:=eT z.cps.toList
 refine nO (c:=61) ?_ (by rw[e];exact nofun) (fun p hp=>PySem.StrLaws.split_free _ 61 p hp) (fun p hp=>?_) ((PySem.StrLaws.join_split _ _).trans (lg (t_ _)).symm)
 ·intro e
  have:=split_pos z ⟨#[61]⟩
  rw[e] at this
  exact absurd this (by decide)
 ·obtain⟨l,hl,rfl⟩:=zl.mp hp
  exact j7 _ l hl
def pP(p:List Nat):Bool:=decide (p.head?=some 98) || decide (p.head?=some 101)
def fT(u:List Nat):List Nat:=(spL u).headD []++(spL u).tail.flatMap (List.drop 1)
theorem rF:∀u:List Nat,((∃v,dec u=some v)↔((spL u).tail.all pP=true∧32∉fT u))∧∀v,dec u=some v→(fT u).length+(spL u).tail.length=v.length∧(∀c∈fT u,c∈v)∧∀c∈v,c=32∨c=61∨c∈fT u
 |[]=>⟨⟨fun _=>⟨rfl,nofun⟩,fun _=>⟨[],rfl⟩⟩,fun v h=>by cases h;exact⟨rfl,nofun,nofun⟩⟩
 |c::r=>by
  by_cases h1:c=61
  ·subst h1
   match r with
   |[] =>
    refine⟨⟨by rintro⟨v,h⟩;exact (by cases h),fun ⟨h,_⟩=>?_⟩,fun v h=>by cases h⟩
    exact absurd h (by decide)
   |x::r =>
    obtain⟨p,ps,e⟩:=eT r
    by_cases hx:x=98∨x=101
    ·have QC:x≠61:=by rcases hx with rfl|rfl <;> decide
     have es:spL (61::x::r)=[]::(x::p)::ps:=by rw[nU,nV QC e]
     have eb:fT (61::x::r)=fT r:=by
      unfold fT;rw[es,e];show []++((x::p)::ps).flatMap (List.drop 1)=_
      rw[List.nil_append,yy];rfl
     have et:(spL (61::x::r)).tail.all pP=(spL r).tail.all pP:=by
      rw[es,e];show (((x::p)::ps).all pP)=ps.all pP
      rw[yF]
      have:pP (x::p)=true:=by rcases hx with rfl|rfl <;> rfl
      rw[this,zf]
     have el:(spL (61::x::r)).tail.length=(spL r).tail.length+1:=by rw[es,e];rfl
     obtain⟨i1,i2⟩:=rF r
     rw[eb,et,el,← i1]
     obtain⟨y,hy,ed⟩:∃y,(y=32∨y=61)∧dec (61::x::r)=(dec r).map (y::·):=by
      rcases hx with rfl|rfl
      ·exact⟨32,.inl rfl,Cr r⟩
      ·exact⟨61,.inr rfl,Cs r⟩
     rw[ed]
     constructor
     ·constructor
      ·rintro⟨v,h⟩
       cases q:dec r with
       |none=>rw[q] at h;cases h
       |some v'=>exact⟨v',rfl⟩
      ·rintro⟨v,h⟩;rw[h];exact⟨_,rfl⟩
     ·intro v h
      cases q:dec r with
      |none=>rw[q] at h;cases h
      |some v' =>
       rw[q] at h;cases h
       obtain⟨a,b,d⟩:=i2 v' q
       refine⟨by rw[zp];lia,fun c hc=>zu _ (b c hc),fun c hc=>?_⟩
       rcases zd.mp hc with hc|hc
       ·rcases hy with hy|hy
        ·exact .inl (hc.trans hy)
        ·exact .inr (.inl (hc.trans hy))
       ·exact d c hc
    ·have Ls:x≠98:=fun h=>hx (.inl h)
     have NJ:x≠101:=fun h=>hx (.inr h)
     have Gf:(spL (61::x::r)).tail.all pP=false:=by
      rw[nU]
      show (spL (x::r)).all pP=false
      by_cases RS:x=61
      ·rw[RS,nU,yF];rfl
      ·rw[nV RS e,yF]
       have:pP (x::p)=false:=by
        unfold pP;rw[List.head?_cons]
        rw[zv (fun q=>Ls (by injection q)),zv (fun q=>NJ (by injection q))];rfl
       rw[this,zh]
     rw[Ct x r Ls NJ,Gf]
     exact⟨⟨by rintro⟨v,h⟩;exact (by cases h),by rintro⟨h,_⟩;exact (by cases h)⟩,fun v h=>by cases h⟩
  ·obtain⟨p,ps,e⟩:=eT r
   have es:=nV h1 e
   have eb:fT (c::r)=c::fT r:=by unfold fT;rw[es,e];rfl
   have et:(spL (c::r)).tail=(spL r).tail:=by rw[es,e];rfl
   obtain⟨i1,i2⟩:=rF r
   rw[eb,et]
   by_cases h2:c=32
   ·rw[h2,Cu]
    exact⟨⟨by rintro⟨v,h⟩;exact (by cases h),by rintro⟨_,h⟩;exact absurd zx h⟩,fun v h=>by cases h⟩
   ·rw[nS h1 h2]
    constructor
    ·constructor
     ·rintro⟨v,h⟩
      cases q:dec r with
      |none=>rw[q] at h;cases h
      |some v' =>
       obtain⟨a,b⟩:=i1.mp ⟨v',q⟩
       refine⟨a,fun m=>?_⟩
       rcases zd.mp m with m|m
       ·exact h2 m.symm
       ·exact b m
     ·rintro⟨a,b⟩
      obtain⟨v,h⟩:=i1.mpr ⟨a,fun m=>b (zu _ m)⟩
      rw[h];exact⟨_,rfl⟩
    ·intro v h
     cases q:dec r with
     |none=>rw[q] at h;cases h
     |some v' =>
      rw[q] at h;cases h
      obtain⟨a,b,d⟩:=i2 v' q
      refine⟨by rw[zp,zp];lia,fun x hx=>?_,fun x hx=>?_⟩
      ·rcases zd.mp hx with hx|hx
       ·rw[hx];exact zx
       ·exact zu _ (b x hx)
      ·rcases zd.mp hx with hx|hx
       ·exact .inr (.inr (by rw[hx];exact zx))
       ·rcases d x hx with h|h|h
        ·exact .inl h
        ·exact .inr (.inl h)
        ·exact .inr (.inr (zu _ h))
def Cv(u:List Nat):Bool:=decide (j5 (AA u)=u) && (decide ((AA u).length≤40) && (AA u).all fun c=>decide (32≤c) && decide (c≤126))
def Cw(u:List Nat):Bool:=(spL u).tail.all pP && (decide ((fT u).length+(spL u).tail.length≤40) && (fT u).all fun c=>decide (33≤c) && decide (c≤126))
theorem EZ(u:List Nat):Cv u=Cw u:=by
 obtain⟨h1,h2⟩:=rF u
 unfold Cv Cw
 rw[yj]
 simp only [zj,zt,zJ,EY]
 constructor
 ·rintro⟨a,b,c⟩
  obtain⟨k1,k2,k3⟩:=h2 _ a
  obtain⟨j1,j2⟩:=h1.mp ⟨_,a⟩
  refine⟨zJ.mp j1,by lia,fun x hx=>?_⟩
  have:=c x (k2 x hx)
  have:x≠32:=fun e=>j2 (by rw[← e];exact hx)
  lia
 ·rintro⟨a,b,c⟩
  obtain⟨v,hv⟩:=h1.mpr ⟨zJ.mpr a,fun m=>by have:=c 32 m;lia⟩
  have e:=IY hv
  obtain⟨k1,k2,k3⟩:=h2 _ hv
  rw[e]
  refine⟨hv,by lia,fun x hx=>?_⟩
  rcases k3 x hx with h|h|h
  ·lia
  ·lia
  ·have:=c x h;lia
theorem nW(z:Str)(k:Nat):(Txt.slice z none (some (k:Int))).cps.toList=z.cps.toList.take k:=by
 have e0:∀o,Txt.slice z none o=PySem.StrLaws.sliceText z none o:=fun _=>rfl
 by_cases h:k≤z.cps.toList.length
 ·rw[e0,PySem.StrLaws.sliceText_to ⟨by lia,by lia⟩,List.drop_zero]
  show List.take (((k:Nat):Int) - 0).toNat z.cps.toList=_
  congr 1
 ·have e:Txt.slice z none (some (k:Int))=Txt.slice z none (some (z.cps.toList.length:Int)):=by
   unfold Txt.slice
   have hl:z.length=z.cps.toList.length:=by show z.cps.size=_;exact ag z
   have ei:Builtin.Str.strSliceIndices none (some (k:Int)) 1 z.length=Builtin.Str.strSliceIndices none (some (z.cps.toList.length:Int)) 1 z.length:=by
    rw[hl]
    unfold Builtin.Str.strSliceIndices
    have a1:¬ ((k:Int)<0):=by lia
    have a2:¬ (((z.cps.toList.length:Nat):Int)<0):=by lia
    simp only [if_neg a1,if_neg a2]
    have m1:min (k:Int) ((z.cps.toList.length:Nat):Int)=min ((z.cps.toList.length:Nat):Int) ((z.cps.toList.length:Nat):Int):=by lia
    rw[m1]
    rfl
   rw[ei]
  rw[e,e0,PySem.StrLaws.sliceText_to ⟨by lia,by lia⟩,List.drop_zero]
  show List.take (((z.cps.toList.length:Nat):Int) - 0).toNat z.cps.toList=_
  rw[ye (by lia),ye (by lia)]
theorem gz(z:Str)(k:Nat):(Txt.slice z (some (k:Int)) none).cps.toList=z.cps.toList.drop k:=by
 have e0:∀o,Txt.slice z o none=PySem.StrLaws.sliceText z o none:=fun _=>rfl
 by_cases h:k≤z.cps.toList.length
 ·rw[e0,PySem.StrLaws.sliceText_from ⟨by lia,by lia⟩]
  show List.take (((z.cps.toList.length:Nat):Int) - ((k:Nat):Int)).toNat (List.drop ((k:Nat):Int).toNat z.cps.toList)=_
  rw[yb,ye (by rw[zB];lia)]
 ·have e:Txt.slice z (some (k:Int)) none=Txt.slice z (some (z.cps.toList.length:Int)) none:=by
   unfold Txt.slice
   have hl:z.length=z.cps.toList.length:=by show z.cps.size=_;exact ag z
   have ei:Builtin.Str.strSliceIndices (some (k:Int)) none 1 z.length=Builtin.Str.strSliceIndices (some (z.cps.toList.length:Int)) none 1 z.length:=by
    rw[hl]
    unfold Builtin.Str.strSliceIndices
    have a1:¬ ((k:Int)<0):=by lia
    have a2:¬ (((z.cps.toList.length:Nat):Int)<0):=by lia
    simp only [if_neg a1,if_neg a2]
    have m1:min (k:Int) ((z.cps.toList.length:Nat):Int)=min ((z.cps.toList.length:Nat):Int) ((z.cps.toList.length:Nat):Int):=by lia
    rw[m1]
    rfl
   rw[ei]
  rw[e,e0,PySem.StrLaws.sliceText_from ⟨by lia,by lia⟩]
  show List.take (((z.cps.toList.length:Nat):Int) - ((z.cps.toList.length:Nat):Int)).toNat (List.drop ((z.cps.toList.length:Nat):Int).toNat z.cps.toList)=_
  rw[yb,List.drop_length,List.take_nil,List.drop_eq_nil_of_le (by lia)]
section
variable{X:Cx}{N:List Str}{src:List (Option Nat)}{scope:Scope}{tg iter elt:Expr}{ifs:List Expr}{pos:Pos}{wi:TI}{g:TG}{tc:TT}{te:TE}
end
section
variable{K:Frag}{X:Cx}{E:XK}{pos:Pos}
structure WU(K:Frag)(X:Cx)(E:XK)(e:Expr)(t:TD):Prop where
 of:∀(y:Ev X true),y.E=(fun _=>E)→bI y.cx E→PE y.cx e (T K y.E t)
structure WV(K:Frag)(X:Cx)(E:XK)(es:List Expr)(t:iw):Prop where
 of:∀(y:Ev X true),y.E=(fun _=>E)→bI y.cx E→PA y.cx es (Ta K y.E t)
structure QD(K:Frag)(X:Cx)(E:XK)(b:List Stmt)(t:jP):Prop where
 of:∀(y:Ev X true),y.E=(fun _=>E)→bI y.cx E→wN y.cx b (Tl K y.E t)
variable{N:List Str}{src:List (Option Nat)}{scope:Scope}{tg iter elt:Expr}{ifs:List Expr}{ti:vO}{g:TG}{gd:vN}{tc:o_}{te:TD}
end
section
variable{P:Program}{w:World}{K:Frag}{mg:Str→Option Value}{base:Heap}
theorem nJ.QE{x qual:Str}{st:Stmt}{f:Addr}{fd:FuncData}{N ps:List Str}{k:Nat}{sp:qD}(F:nJ K x qual st f fd)(S:ai N ps (af st))(len:∀ds S R Z,sp ds S R Z→ds.length=ps.length)
  (ig:∀(bp:Value) (A:Around) (outer:List Env) (s:Shared) (H:Hp) (E:XK) (ds:List D) (S:aQ) (R:KD) (Z:KX),fi k (A.deeper (envOfC qual (af st) s.heap.objs.size f bp))→sp ds S R Z →
   ∃t,QD K (ie (h_ P w mg) P w K mg base N qual (af st) f bp A outer s H E) E (cQ st) t∧t { nx:=fun _ S'=>R .ax S',rt:=R } (gy N ds) S fun _=>Z):cw P w K mg base (h_ P w mg) (k+1) f fd ps (uW K sp):=by
 obtain⟨oc,od,dV,kV,doc,pm,an,bp,ct,Hy,rfl,lk,Bc⟩:=F.ex
 have jl:ps.length≤N.length:=by have:=congrArg List.length S.pre;rw[zG] at this;lia
 refine Ge lk Bc S (by rintro vs H Q E ⟨ds,S',R,Z,v,_,h,_⟩;exact by rw[v.len];exact len _ _ _ _ h) fun A outer s H vs Q E hr ⟨ds,S',R,Z,v,hS,h,hR,hZ⟩=>?_
 obtain⟨t,ht,q⟩:=ig bp A outer s H E ds S' R Z hr h
 have L:bI (ie (h_ P w mg) P w K mg base N qual (af st) f bp A outer s H E) E:=qA
 let y:Ev (ie (h_ P w mg) P w K mg base N qual (af st) f bp A outer s H E) true:=⟨_,(ie (h_ P w mg) P w K mg base N qual (af st) f bp A outer s H E).xe,fun _=>E,⟨fun p2 τ H1 s1 e s' I h=>Gr L p2 τ H1 s1 e s' I h,fun _ p2 τ H1 s1 h' a cls args I hx he=>me L I hx he,fun _=>PassesOwn.leaving⟩⟩
 refine⟨Tl K (fun _=>E) t,ht.of y rfl L,gy N ds,S',_,fun _=>Z,?_,hS,q,⟨fun σ S1 τ H1 r a b c=>hR.kp c |>.now b r jz,hR,fun _ _ _ _ z=>z.elim,fun _ _ _ _ z=>z.elim⟩,fun σ τ C S1 H1 z a b c=>hZ C S1 H1 z b c⟩
 unfold gy start
 refine (nF v).app ?_
 rw[v.len]
 exact nE _ _ (by rw[List.length_replicate])
theorem nJ.UG{x qual:Str}{st:Stmt}{f:Addr}{fd:FuncData}{N ps:List Str}{k:Nat}{sp:qD}(F:nJ K x qual st f fd)(S:ai N ps (af st))(len:∀ds S R Z,sp ds S R Z→ds.length=ps.length)
  (ig:∀(bp:Value) (A:Around) (outer:List Env) (s:Shared) (H:Hp) (E:XK) (ds:List D) (S:aQ) (R:KD) (Z:KX),fi k (A.deeper (envOfC qual (af st) s.heap.objs.size f bp))→sp ds S R Z →
   ∃t,QD K (ie (h_ P w mg) P w K mg base N qual (af st) f bp A outer s H E) E (cQ st) t∧t { nx:=fun _ S'=>Fo S' (R .ax),rt:=fun d S'=>Fo S' (R d) } (gy N ds) S fun _ C S'=>Fo S' (Z C)):cw P w K mg base (h_ P w mg) (k+1) f fd ps (uW K sp):=by
 have F2:cw P w K mg base (h_ P w mg) (k+1) f fd ps (uW K fun ds S R' Z'=>∃R Z,sp ds S R Z∧R'=(fun d S'=>Fo S' (R d))∧Z'=fun C S'=>Fo S' (Z C)):=by
  refine F.QE S (by rintro ds S R Z ⟨R0,Z0,h,_⟩;exact len _ _ _ _ h) fun bp A outer s H E ds S R Z hr ⟨R0,Z0,h,e1,e2⟩=>?_
  subst e1 e2
  exact ig bp A outer s H E ds S R0 Z0 hr h
 refine F2.imp <| by rintro vs H Q E ⟨ds,S,R,Z,v,hS,h,hR,hZ⟩;exact⟨ds,S,_,_,v,hS,⟨R,Z,h,rfl,rfl⟩,by rintro d S' u H' ⟨S2,sb,r⟩ rv rs kp;exact hR d S2 u H' r rv (rs.sub sb) kp,by rintro C S' H' ⟨S2,sb,r⟩ rs kp;exact hZ C S2 H' r (rs.sub sb) kp⟩
end
theorem lx(hs:Heap.ExtBut b h h')(n:a≠b)(x:h.IsListIter a l i):h'.IsListIter a l i:=x.extBut hs n
theorem xI{h h':Heap}{a l:Addr}{i:Nat}(k:∀o,h.get? a=some o→h'.get? a=some o)(x:h.IsListIter a l i):h'.IsListIter a l i:=by obtain⟨o,e,r⟩:=x;exact⟨o,k o e,r⟩
theorem eK(x:PlainL h a ak):h.IsList a ak:=by obtain⟨o,n,e,c,_,d⟩:=x;exact⟨o,e,c,n,d⟩
theorem qK(x:PlainL h a ak):a<h.objs.size:=by obtain⟨_,_,e,_⟩:=x;exact zw e
section
variable{prog:Program}{w:World}{A:Around}{E:Value→Shared→Prop}{s:Shared}{n l0 l1:Nat}{i:Nat}{eA fF:Array Value}
end
section
variable{K:Frag}{X:Cx}
end
open PySem.Builtin PySem.Builtin.Str
def bJ(x y z:Str):Str :=
 if ((occurrences x y 0 x.length 1).isEmpty || (y.length == 0 && z.length == 0))=true then x
 else glued z (partsBetween x (occurrences x y 0 x.length 1) y.length)
theorem nX(x y z:Str)(t u v k:Tok)
  (hf:((occurrences x y 0 x.length 1).isEmpty || (y.length == 0 && z.length == 0))=false→(u == 0 || v == 0)=false∧(u == v)=false∧(y == z)=false∧tooLong (x.length+(occurrences x y 0 x.length 1).length * z.length)=false) :
  Gives («str.replace» ⟨[.str x t,.str y u,.str z v,.int 1 k],[]⟩) (if ((occurrences x y 0 x.length 1).isEmpty || (y.length == 0 && z.length == 0))=true then .val (.str x t) else .str (glued z (partsBetween x (occurrences x y 0 x.length 1) y.length))):=by
 have Ah:countLimit "str.replace" (some (.int 1 k)) (x.length+1)=pure 1:=countLimit_int "str.replace" 1 k (x.length+1) (by decide)
 show Gives (countLimit "str.replace" (some (.int 1 k)) (x.length+1) >>= fun limit=>if ((occurrences x y 0 x.length limit).isEmpty || (y.length == 0 && z.length == 0))=true then (do rule "str.replace.nothing";ret (.str x t)) else (do let same ← isSame (.str y u) (.str z v);if same=true then (do rule "str.replace.old-is-new";ret (.str x t)) else if tooLong (x.length+(occurrences x y 0 x.length limit).length * z.length)=true then unsupported "str.replace:memory" else retStr (glued z (partsBetween x (occurrences x y 0 x.length limit) y.length)))) _
 rw[Ah]
 show Gives (if ((occurrences x y 0 x.length 1).isEmpty || (y.length == 0 && z.length == 0))=true then (do rule "str.replace.nothing";ret (.str x t)) else (do let same ← isSame (.str y u) (.str z v);if same=true then (do rule "str.replace.old-is-new";ret (.str x t)) else if tooLong (x.length+(occurrences x y 0 x.length 1).length * z.length)=true then unsupported "str.replace:memory" else retStr (glued z (partsBetween x (occurrences x y 0 x.length 1) y.length)))) _
 cases hc:((occurrences x y 0 x.length 1).isEmpty || (y.length == 0 && z.length == 0))
 ·obtain⟨h0,QF,Ck,hl⟩:=hf hc
  rw[isSame_str_other y z u v h0 QF Ck,hl]
  exact .of_eq rfl
 ·exact .rule (.of_eq rfl)
theorem GD(y:Str):(glued z (partsBetween x (occurrences x y 0 x.length 1) y.length)).length≤x.length+z.length:=by
 have h1:=StrLaws.occ_length_le x y 0 x.length 1
 have hy:(glued y (partsBetween x (occurrences x y 0 x.length 1) y.length)).length=x.length:=by rw[StrLaws.glued_between_self]
 rw[size_glued,length_partsBetween,Nat.add_sub_cancel] at hy
 rw[size_glued,length_partsBetween,Nat.add_sub_cancel]
 have h2:(occurrences x y 0 x.length 1).length * z.length≤1 * z.length:=Nat.mul_le_mul_right _ h1
 lia
theorem vT(x y z:Str):(bJ x y z).length≤x.length+z.length:=by
 unfold bJ
 split
 ·lia
 ·exact GD y
theorem vU(x y z:Str):∀c∈(bJ x y z).cps.toList,c∈x.cps.toList∨c∈z.cps.toList:=by
 unfold bJ
 split
 ·exact fun c h=>.inl h
 ·intro c h
  rw[StrLaws.glued_eq_join,mem_join] at h
  rcases h with ⟨p,hp,hc⟩|⟨_,hc⟩
  ·left
   have e:=StrLaws.glued_between_self x y 1
   rw[StrLaws.glued_eq_join] at e
   rw[← e,mem_join]
   exact .inl ⟨p,hp,hc⟩
  ·exact .inr hc
theorem pQ{t u v k:Tok}(hu:u≠0)(hv:v≠0)(QF:u≠v)(Ck:(y == z)=false)(hb:x.length+z.length≤1000000)
  (hq:∀t' k,Q (.str (bJ x y z) t') { s with toks:=k }):wpAny (model prog w) A (call (.builtin "str.replace") [.str x t,.str y u,.str z v,.int 1 k]) Q E s:=by
 have h1:=StrLaws.occ_length_le x y 0 x.length 1
 have h2:(occurrences x y 0 x.length 1).length * z.length≤1 * z.length:=Nat.mul_le_mul_right _ h1
 have hl:tooLong (x.length+(occurrences x y 0 x.length 1).length * z.length)=false:=by
  unfold tooLong
  exact zv (by rw[sizeLine_eq];lia)
 refine call_gives F.slot_str_replace (typeIs_str _ _ _) F.entry_str_replace (F.args_str_replace_4 _ _ _ _)
  (nX x y z t u v k fun _=>⟨by simp [hu,hv],by simp [QF],Ck,hl⟩) ?_
 have B_:=hq
 unfold bJ at B_
 cases hc:((occurrences x y 0 x.length 1).isEmpty || (y.length == 0 && z.length == 0))
 ·rw[hc] at B_
  simp only [Bool.false_eq_true,if_false] at B_ ⊢
  exact⟨zA (GD y) (by rw[sizeLine_eq];lia),B_ _ _⟩
 ·rw[hc] at B_
  simp only [if_true] at B_ ⊢
  exact B_ t s.toks
structure M3(X:Cx)(o:Expr)(m:Str)(apos:Pos)(e f g:Expr)(aJ:Pos):Prop where
 base:attributeBase o m X.env (eval o X.env)=eval o X.env
 Gi:((backTo aJ (starEach [e,f,g] X.env)).all (fun x=>!x.1) && (backToKw aJ (keywordEach [] X.env)).all (fun x=>x.1.isSome)
  && decide (([e,f,g]:List Expr).length+([]:List Keyword).length+(if ([]:List Keyword).isEmpty then 0 else 1)<30))=true
 line:(apos.endLine == aJ.line)=true
 trees:backTo aJ (starEach [e,f,g] X.env)=[(false,eval e X.env),(false,eval f X.env),(false,eval g X.env)]
section
variable{X:Cx}{e o:Expr}{t:TE}
def Mw(y z:Str)(t:TE):TE:=fun σ H Q=>t σ H fun x H1=>∃u,x=.str u∧u.length+z.length≤1000000∧Q (.str (bJ u y z)) H1
theorem E1(ho:vR pre X o t)(Ck:(y == z)=false)(m:M3 X o "replace" apos (.Constant (.str y) j p1) (.Constant (.str z) k p2) (.Constant (.int 1) l p3) aJ):vR pre X (.Call (.Attribute o "replace" apos) [.Constant (.str y) j p1,.Constant (.str z) k p2,.Constant (.int 1) l p3] [] aJ) (Mw y z t):=by
 intro pins s σ H Q I hs h
 refine wpAny_Call_method m.base m.Gi m.line zF PySem.F.slot_str_replace PySem.F.type_str_replace (bq (ho pins s σ H _ I hs h) fun u s1 ⟨⟨x,H1,I1,rx,z',ex,hz,q⟩,ht⟩=>?_)
 subst ex
 obtain⟨tk,rfl⟩:=rx
 refine⟨typeIs_str _ _ _,fun b q=>(by cases q),?_⟩
 rw[m.trees]
 refine Calls.callWith_builtin rfl (Calls.evalArgs_plain (z0 (Calls.Constant_str (z0 (Calls.Constant_str (z0 (wpAny_Constant_int (Calls.spliced_nil ?_))))))))
 refine wpAny_with_toks (n:=1) (by show 1≤s1.toks+1+1+1;lia) (pQ (u:=s1.toks) (v:=s1.toks+1) ?_ ?_ ?_ Ck hz fun t' k hk=>⟨⟨.str _,H1,?_,⟨_,rfl⟩,q⟩,hk⟩)
 ·exact yo ht
 ·exact Nat.succ_ne_zero _
 ·exact (Nat.succ_ne_self _).symm
 ·exact I1.tok k
theorem E3(ho:fh X (binaryOp .Add) r)(hb:PE X e tb):vR 0 X (.BinOp (.Constant (.str c) j p1) .Add e pos) (fun σ H Q=>tb σ H fun y H1=>r (.str c) y H1 Q):=by
 intro pins s σ H Q I _ h
 refine wpAny_BinOp (Calls.Constant_str ?_)
 have h1:=wpAny_toks_of (n:=1) (show 1≤({ s with toks:=s.toks+1 } : Shared).toks by show 1≤s.toks+1;lia) (hb pins { s with toks:=s.toks+1 } σ H _ (I.tok _) h)
 refine zY h1 (fun u s2 ⟨ht,y,H2,I2,r2,q2⟩=>?_) fun _ _ q=>q.2
 exact zY (wpAny_toks_of ht (ho pins s2 σ H2 (.str c) y (.str c s.toks) u Q I2 ⟨_,rfl⟩ r2 q2)) (fun _ _ q=>⟨q.2,q.1⟩) fun _ _ q=>q.2
def IZ(pre:Nat)(X:Cx)(es:List Expr)(t:TA):Prop :=
 ∀(pos:Pos) (pins:List (Addr×Obj)) (s:Shared) (σ:St) (H:Hp) (Q:List V→Hp→Prop),Inv X pins σ H s→pre≤s.toks→t σ H Q→wpAny (model X.prog X.w) X.A (spliced (backTo pos (starEach es X.env))) (AP X pins σ Q) X.xe s
theorem I_(h:PA X es ta):IZ pre X es ta:=fun pos pins s σ H Q I _ q=>h pos pins s σ H Q I q
theorem Cy(ha:vR pre X e te)(hr:IZ 1 X es ta)(hp:isPlain e=true:=by rfl):IZ pre X (e::es) (wX te ta):=by
 intro pos pins s σ H Q I hn h
 rw[jx hp]
 show wpAny _ _ (spliced ((false,eval e X.env)::backTo pos (starEach es X.env))) _ _ s
 refine z0 (bq (ha pins s σ H _ I hn h) fun u s1 ⟨⟨x,H1,I1,r1,q1⟩,ht⟩=>?_)
 exact bq (hr pos pins s1 σ H1 _ I1 ht q1) <| by rintro us s2 ⟨xs,H2,I2,r2,q2⟩;exact⟨x::xs,H2,I2,.cons r1 r2,q2⟩
theorem Ja(h:IZ 0 X es ta):PA X es ta:=fun pos pins s σ H Q I q=>h pos pins s σ H Q I (yz _) q
end
section
variable{K:Frag}{X:Cx}{e o:Expr}
structure J3(pre:Nat)(K:Frag)(X:Cx)(es:List Expr)(t:iw):Prop where
 of:∀{b:Bool} (y:Ev X b),IZ pre y.cx es (Ta K y.E t)
theorem gp(he:DE K X e te)(hu:X.A.units+64<cLine)(hK:X.K=K:=by rfl):DR 0 K X (.BinOp (.Constant (.str c) j p1) .Add e pos) (GC c te) :=
 ⟨fun y=>(E3 (X:=y.cx) (au y.cx hK hu) (he.of y)).mono <| by rintro τ H Q ⟨σ,S,R,Z,aw,hS,q,hR,hZ⟩;exact
  ⟨σ,S,_,Z,aw,hS,q,fun d S1 x H1 r1 v1 s1 k1=>⟨.str c,d,S1,R,dj c,v1,s1,r1,hR.kp k1⟩,hZ⟩⟩
def Mx(y z:Str)(to:TD):TD:=fun σ S R Z=>to σ S (fun x S1=>∃u,x=.str u∧u.length+z.length≤1000000∧R (.str (bJ u y z)) S1) Z
theorem UH(ho:DR pre K X o to)(Ck:(y == z)=false:=by decide)(m:M3 X o "replace" apos (.Constant (.str y) j p1) (.Constant (.str z) k p2) (.Constant (.int 1) l p3) aJ:=by exact⟨rfl,rfl,rfl,rfl⟩) :
  DR pre K X (.Call (.Attribute o "replace" apos) [.Constant (.str y) j p1,.Constant (.str z) k p2,.Constant (.int 1) l p3] [] aJ) (Mx y z to) :=
 ⟨fun q=>(E1 (X:=q.cx) (ho.of q) Ck ⟨m.base,m.Gi,m.line,m.trees⟩).mono <| by rintro τ H Q ⟨σ,S,R,Z,aw,hS,h,hR,hZ⟩;exact
  ⟨σ,S,_,Z,aw,hS,h,by rintro d S1 x H1 ⟨u,e1,h1,r1⟩ v1 s1 k1;exact by subst e1;exact⟨u,v1.str,h1,(hR.kp k1).now s1 r1 (dj _)⟩,hZ⟩⟩
theorem QG{pre:Nat}{es:List Expr}{t:TD}{u:iw}(h:DR pre K X e t)(hr:J3 1 K X es u)(hp:isPlain e=true:=by rfl):J3 pre K X (e::es) (xp t u) :=
 ⟨fun y pos pins s τ H Q I hn ⟨σ,S,R,Z,aw,hS,q,hR,hZ⟩=>Cy (h.of y) (hr.of y) hp pos pins s τ H Q I hn
  ⟨σ,S,_,Z,aw,hS,q,fun d S1 x H1 r1 v1 s1 k1=>⟨σ,S1,_,Z,aw.ts k1,s1,r1,fun ds S2 xs H2 r2 v2 s2 k2=>hR (d::ds) S2 (x::xs) H2 r2 (aO (Rv.ts k2 _ v1) v2) s2 (k1.trans k2),hZ.kp k1⟩,hZ⟩⟩
theorem UI(h:DA K X es u):J3 pre K X es u:=⟨fun y=>I_ (h.of y)⟩
theorem UJ(h:J3 0 K X es u):DA K X es u:=⟨fun y=>Ja (h.of y)⟩
end
structure Gh(gX:Array Keyed)(g:Nat→Nat)(xs:Array Keyed):Prop where
 at_:∀k,k<gX.size→xs[k]?=gX[g k]?
 lt:∀k,k<gX.size→g k<gX.size
 inj:∀i j,i<gX.size→j<gX.size→g i=g j→i=j
def Log(κ:KeyKind)(gX:Array Keyed)(i j:Nat):Prop:=κ.klt (KK κ gX i) (KK κ gX j)∨(KK κ gX i=KK κ gX j∧i<j)
def UK(g:Nat→Nat)(m n:Nat):Prop:=∀k,m≤k→k<n→g k=k
section
variable{κ:KeyKind}{gX xs:Array Keyed}{g:Nat→Nat}
end
section
variable{prog:Program}{w:World}{A:Around}{E:Value→Shared→Prop}{s:Shared}{gX:Array Keyed}{κ:KeyKind}
structure WW(κ:KeyKind)(gX:Array Keyed)(g:Nat→Nat)(x q:Nat):Prop where
 le:q+1≤x
 tl:UK g (x - (q+1)) gX.size
 dn:∀i j,i<j→j<x→i<x - (q+1)→Log κ gX (g j) (g i)
 eq:∀i,x - (q+1)≤i→i<x→KK κ gX (g i)=KK κ gX (g (x - 1))
end
abbrev QH(X:Cx)(qual:Str)(params:Arguments)(body:Expr)(scope:Scope)(pm cv Mz:Value):Obj :=
 { cls:=.type "function",data:=.func (PySem.W.kla_fn "<lambda>" qual params body scope (clOf X.env.cells scope.names) pm cv Mz) }
section
variable{X:Cx}{pins:List (Addr×Obj)}{σ:St}{H:Hp}{s:Shared}{N:List Str}{src:List (Option Nat)}{scope:Scope}{params:Arguments}{body:Expr}{qual p:Str}{pm cv Mz u:Value}{f:Addr}{A:Around}{v:V}{te:TE}{Q:VK}
end
structure WX(κ:KeyKind)(b:Bool)(key:Nat→κ.α)(n:Nat)(g:Nat→Nat):Prop where
 lt:∀k,k<n→g k<n
 inj:∀i j,i<n→j<n→g i=g j→i=j
 ord:∀i j,i<j→j<n→(if b=true then κ.klt (key (g j)) (key (g i)) else κ.klt (key (g i)) (key (g j)))∨(key (g i)=key (g j)∧g i<g j)
section
variable{prog:Program}{w:World}{A:Around}{E:Value→Shared→Prop}{s:Shared}{a kS:Addr}{b:Bool}{us vs:List Value}{e e1:Nat}{P:PySem.Fin→Shared→Prop}{κ:KeyKind}
end
structure WY(X:Cx)(pins:List (Addr×Obj))(b:Addr):Prop where
 loc:b≠X.env.locals
 fs:b∉X.fs
 cell:∀x c,X.env.cells.lookup x=some c→c≠b
 pin:∀p∈X.pn++pins,p.1≠b
 new:X.cK.heap.objs.size≤b
section
variable{X:Cx}{pins:List (Addr×Obj)}{σ:St}{H:Hp}{s:Shared}
end
structure RT(κ:KeyKind)(us:List Value):Prop where
 all:∀u∈us,∃x,κ.keyOf u=some x
 kind:∀MA MB rest,us=MA::MB::rest→keyKind' (MA::MB::rest).toArray=pure oneType'
section
variable{X:Cx}{pins:List (Addr×Obj)}{σ:St}{H:Hp}{s:Shared}{A:Around}{E:Value→Shared→Prop}{xs:List V}{vs:List Value}{f:Addr}{b:Bool}{κ:KeyKind}{W:Nat→List V→Hp→Prop}
end
def Bm(mg:Str→Option Value)(base:Heap):Prop:=∃bm o,mg "__builtins__" = some (.ref bm)∧bm≠builtinsNs∧base.get? bm=some o∧o.cls=.type "module" ∧ o.dict=some builtinsNs∧o.data=.plain
structure WZ(K:Frag)(mg:Str→Option Value)(base:Heap)(c P:Addr):Prop where
 hd:codeHdIn K c P=true
 bm:Bm mg base
section
variable{X:Cx}{pins:List (Addr×Obj)}{σ:St}{H:Hp}{s:Shared}
structure W0(X:Cx)(pins:List (Addr×Obj))(σ:St)(H H':Hp)(P:Addr)(q:Str)(params:Arguments)(body:Expr)(scope:Scope)(u:Value)(s':Shared)(f:Addr)(pm cv Mz:Value):Prop where
 u:u=.ref f
 inv:Inv X (pins++[(f,QH X q params body scope pm cv Mz)]) σ H' s'
 code:∃c o vs t,cv=.ref c∧H' c=some (.kM o (.own 0))∧o.data=.fields vs∧vs[1]?=some (.str q t)
 same:∀b,H' b=H b∨(b=P∧∃ps,H' b=some (.sS ps)∧Gw H' q ps)∨(H b=none∧∃o,H' b=some (.kM o (.own 0)))
end
def RU:D→D→Prop
 |.int a,.int b=>a<b
 |.str a,.str b=>a.cps.toList<b.cps.toList
 |_,_=>False
structure UL(b:Bool)(key:Nat→D)(n:Nat)(g:Nat→Nat):Prop where
 lt:∀k,k<n→g k<n
 inj:∀i j,i<n→j<n→g i=g j→i=j
 ord:∀i j,i<j→j<n→(if b=true then RU (key (g j)) (key (g i)) else RU (key (g i)) (key (g j)))∨(key (g i)=key (g j)∧g i<g j)
section
variable{K:Frag}{Y:Cx}{pins:List (Addr×Obj)}{τ:St}{H H2:Hp}{s:Shared}{N:List Str}{src:List (Option Nat)}{scope:Scope}{params:Arguments}{body:Expr}{q p:Str}{pm cv Mz:Value}{f l:Addr}{te:TD}{b:Bool}{kw:List (Str×Value)}{k:Nat}
end
section
variable{K:Frag}{X:Cx}{N:List Str}{src:List (Option Nat)}{scope:Scope}{params:Arguments}{e body:Expr}{q p x:Str}{np pos lp kq W2 cp:Pos}{ci}{tl te:TD}{k:Nat}{c P:Addr}
end
section
variable{P:Program}{w:World}{K:Frag}{mg:Str→Option Value}{base:Heap}
end
structure ub(ts:List Addr)(H:Hp):Prop where
 all:∀b,H b=none∨(∃o xs,H b=some (.kM o (.lst xs)))∨(b∈ts∧H b=some (.sS #[]))
 tab:∀b∈ts,H b=some (.sS #[])
theorem AB{P:Program}{w:World}{K:Frag}{mg mb:Str→Option Value}{CX:vk}{k:Nat}{fa a:Addr}{fd:FuncData}{x:Str}{sp:Sp}{aG:Shared}{vs:List Value}{ns:List Int}{ts:List Addr}
  (KX:K.In aG.heap) (QI:aG.heap.Ns mainGlobals mg) (hb:aG.heap.Ns builtinsNs mb) (UM:∀x:Str,x ≠ "__name__" → mb x=bootBuiltins x) (QJ:aG.heap.NoLimit) (UN:Bm mg aG.heap) (hg:aG.gens=#[])
  (hT:∀b∈ts,aG.heap.get? b=some (tabObj #[])) (hC:∀b∈ts,isCodeTable aG.heap b) (hN:∀b∈ts,K.lookup b=none)
  (ha:aG.heap.get? a=some { cls:=.type "list",data:=.seq vs.toArray }) (hi:IntsAre vs ns) (hl:ns.length≤sizeLine) (hr:fi k callerA)
  (F:∀base:Heap,Bm mg base→K.In base→base.Ns mainGlobals mg→cw P w K mg base CX k fa fd [x] sp) (MC:∀(s:Shared) (u:Value),BindsTo s fd ⟨[u],[]⟩ [(x,u)])
  (Bu:∀H:Hp,ub ts H→gT K H a (ns.map V.int)→sp [.ref a] H (fun v _=>v=.bl true) fun _ _ _=>False)
  (QK:∀H e s',CX [] H aG (fun _ _ _=>False) e s'→False) :
  codeAny (model P w) callerA (.call (.ref fa) ⟨[.ref a],[]⟩) (fun r s'=>r=.ok (.ret (.bool true))∧OldK aG.heap s'.heap∧s'.os=aG.os∧AllBare s'.gens) aG:=by
 have rv:=qx hi
 have QL:=hi.length
 have J4:a∉ts:=fun z=>by rw[hT a z] at ha;cases ha
 have core:∀H:Hp,ub ts H→gT K H a (ns.map V.int)→jk P w H aG.heap→(∀b,H b≠none→b=a∨b∈ts)→(H a≠none→K.lookup a=none) →
   codeAny (model P w) callerA (.call (.ref fa) ⟨[.ref a],[]⟩) (fun r s'=>r=.ok (.ret (.bool true))∧OldK aG.heap s'.heap∧s'.os=aG.os∧AllBare s'.gens) aG:=by
  intro H hO hS aF hA hK
  have rG:∀{b:Addr}{o:Obj},aG.heap.get? b=some o→H b=none→(pA aG.heap H).get? b=some o:=fun e n=>Bg e n
  have KP:∀{b:Addr}{o:Obj}{es:Array DictEntry}{ep:Nat},aG.heap.get? b=some o→o.data=.dict es ep→H b=none:=fun {b o es ep} e d=>by
   cases q:H b with
   |none=>rfl
   |some u =>
    rcases hA b (by rw[q];simp) with e'|e'
    ·subst e'
     rw[ha] at e;cases e
     have d':Data.seq vs.toArray _=Data.dict es ep:=d
     cases d'
    ·rw[hT b e'] at e;cases e;cases d
  have NS:∀{b:Addr}{m:Str→Option Value},aG.heap.Ns b m→(pA aG.heap H).Ns b m:=fun {b m} ⟨o,es,ep,e,d,r⟩=>⟨o,es,ep,rG e (KP e d),d,r⟩
  have RV:K.In (pA aG.heap H):=fun b o e=>rG (KX b o e) (by
   cases q:H b with
   |none=>rfl
   |some u =>
    rcases hA b (by rw[q];simp) with e'|e'
    ·subst e'
     rw[hK (by rw[q];simp)] at e;cases e
    ·rw[hN b e'] at e;cases e)
  have hM:Mod K mg (pA aG.heap H):=⟨RV,NS QI,⟨mb,NS hb,UM⟩,by obtain⟨mc,h1,h2⟩:=QJ;exact⟨mc,NS h1,h2⟩⟩
  have e0:Bt P w K mg (pA aG.heap H) callerA [] aG H:=⟨rfl,hM,fun b o e=>DY e,Nat.le_of_eq (yO _ _),trivial,fun b hb=>absurd (show b∈([]:List Addr) from hb) (by simp),aF,.of_eq hg⟩
  have UO:Bm mg (pA aG.heap H):=by
   obtain⟨bm,ob,b1,b2,b3,b4,b5,b6⟩:=UN
   refine⟨bm,ob,b1,b2,rG b3 ?_,b4,b5,b6⟩
   cases q:H bm with
   |none=>rfl
   |some u =>
    rcases hA bm (by rw[q];simp) with e'|e'
    ·rw[e',ha] at b3;cases b3;cases b6
    ·rw[hT bm e'] at b3;cases b3;cases b4
  refine codeAny_mono ((F _ UO RV (NS QI)).run callerA [] aG H ⟨[.ref a],[]⟩ [.ref a] [.ref a] _ _ hr e0 (MC aG (.ref a)) (.cons rfl .nil) (Bu H hO hS)) fun r s' h=>?_
  cases r with
  |error e=>exact (QK H e s' h).elim
  |ok fl =>
   cases fl with
   |next=>exact False.elim h
   |brk=>exact False.elim h
   |cont=>exact False.elim h
   |ret u =>
    obtain⟨v,H',os,bare,un,MD,r',q⟩:=h
    have q':v=.bl true:=q
    subst q'
    obtain rfl:u=Value.bool true:=r'
    refine⟨rfl,⟨fun b o e=>?_,fun b o e=>un.there b o e (by simp)⟩,os,bare⟩
    rcases hO.all b with z|⟨ob,xs,z⟩|⟨z1,z⟩
    ·exact .inl (un.keep b o e z (by intro z;exact absurd (show b∈([]:List Addr) from z) (by simp)) (by simp))
    ·have z2:=un.ej b ob _ z
     obtain⟨e1,_⟩:=aF b _ z
     obtain⟨e2,_⟩:=MD b _ z2
     rw[e] at e1;cases e1
     exact .inl e2
    ·obtain⟨more,z2⟩:=un.eu b _ z
     have e2:=hT b z1
     rw[e] at e2;cases e2
     exact .inr (.inl ⟨hC b z1,rfl,#[],more,rfl,by have:=MD b _ z2;exact this⟩)
 have tabs:∀(H:Hp),(∀b,b∈ts→H b=some (.sS #[]))→∀b u,b∈ts→H b=some u→aV P w H aG.heap b u:=fun H h b u hb e=>by
  rw[h b hb] at e;cases e;exact hT b hb
 cases hk:K.lookup a with
 |some o =>
  have e:=KX a o hk
  rw[ha] at e
  cases e
  refine core (fun b=>if b∈ts then some (.sS #[]) else none) ⟨fun b=>?_,fun b hb=>if_pos hb⟩ (.inr ⟨_,vs.toArray,_,hk,rfl,rfl,rfl,by rw[zr,QL];exact hl,by simpa using rv⟩) (fun b u z=>?_) (fun b z=>?_) fun z=>absurd (if_neg J4) z
  ·by_cases hb:b∈ts
   ·exact .inr (.inr ⟨hb,if_pos hb⟩)
   ·exact .inl (if_neg hb)
  ·by_cases hb:b∈ts
   ·exact tabs _ (fun b hb=>if_pos hb) b u hb z
   ·have z':=(if_neg hb).symm.trans z;cases z'
  ·by_cases hb:b∈ts
   ·exact .inr hb
   ·exact absurd (if_neg hb) z
 |none =>
  refine core (fun b=>if b=a then some (.kM { cls:=.type "list",data:=.seq vs.toArray } (.lst (ns.map V.int))) else if b∈ts then some (.sS #[]) else none) ⟨fun b=>?_,fun b hb=>?_⟩ (.inl (.inr ⟨{ cls:=.type "list",data:=.seq vs.toArray },if_pos rfl⟩)) (fun b u z=>?_) (fun b z=>?_) fun _=>hk
  ·by_cases hb:b=a
   ·exact .inr (.inl ⟨_,_,if_pos hb⟩)
   ·by_cases DU:b∈ts
    ·exact .inr (.inr ⟨DU,(if_neg hb).trans (if_pos DU)⟩)
    ·exact .inl ((if_neg hb).trans (if_neg DU))
  ·have:b≠a:=fun z=>J4 (z ▸ hb)
   exact (if_neg this).trans (if_pos hb)
  ·by_cases hb:b=a
   ·have z':=(if_pos hb).symm.trans z
    cases z'
    subst hb
    exact⟨ha,by rw[zb];exact hl,vs,_,rv,ha⟩
   ·have z':=(if_neg hb).symm.trans z
    by_cases DU:b∈ts
    ·have z2:=(if_pos DU).symm.trans z'
     cases z2
     exact hT b DU
    ·have z2:=(if_neg DU).symm.trans z'
     cases z2
  ·by_cases hb:b=a
   ·exact .inl hb
   ·by_cases DU:b∈ts
    ·exact .inr DU
    ·exact absurd ((if_neg hb).trans (if_neg DU)) z
theorem Cz{l:PySem.W.OpenLaw}{n k:Nat}{q:Program}{loose:List Str}{XP:(Str→Option Value)→Heap→Prop}{YP:World→Heap→Prop}{d:DefRec}{K:Params→Frag}{CX:vk}{x:Str}{ts:List Addr}
  (hn:l.most=some n) (NT:n≤sizeLine) (O7:d.params.defaults=[]) (hr:fi k callerA)
  (hY:∀(w:World) (h:Heap),YP w h→(K w.params).In h) (hT:∀(w:World) (h:Heap),YP w h→∀b∈ts,h.get? b=some (tabObj #[])) (hN:∀(w:World) (h:Heap),YP w h→∀b∈ts,(K w.params).lookup b=none)
  (F:∀(w:World) (mg:Str→Option Value) (fa:Addr) (h:Heap),(K w.params).In h→h.Ns mainGlobals mg→mg d.name=some (.ref fa) →
   ∃(fd:FuncData) (sp:Sp),(∀b∈ts,∃c,codeHdIn (K w.params) c b=true)∧(∀(s:Shared) (u:Value),BindsTo s fd ⟨[u],[]⟩ [(x,u)]) ∧
    (∀base:Heap,Bm mg base→(K w.params).In base→base.Ns mainGlobals mg→cw l.prog w (K w.params) mg base CX k fa fd [x] sp) ∧
    ∀(H:Hp) (a:Addr) (ns:List Int),ns.length≤n→ub ts H→gT (K w.params) H a (ns.map V.int)→sp [.ref a] H (fun v _=>v=.bl true) fun _ _ _=>False)
  (QK:∀(H:Hp) (s:Shared) (e:Value) (s':Shared),CX [] H s (fun _ _ _=>False) e s'→False) :
  PySem.W.WalkO q loose XP YP l.row.toRowW d [] (fun f vs=>PySem.call f vs):=by
 refine Att.tj hn O7 fun w cK aG mg mb fa o pm cd doc a vs ns G Y ho hd Bc HL HM hints hlen hg=>?_
 have KX:=hY w _ Y
 obtain⟨fd,sp,hC,hb,hF,Bu⟩:=F w mg fa _ KX G.T.g HL
 have RW:=hT w _ Y
 exact AB KX G.T.g G.T.b G.T.builtins G.T.nolimit G.T.bmain hg RW (fun b z=>by obtain⟨c,hc⟩:=hC b z;exact ((PySem.W.codeHd_of_K KX hc).tab (RW b z)).isCodeTable) (hN w _ Y) HM hints (zA hlen NT) hr hF hb (fun H hO hS=>Bu H a ns hlen hO hS) fun H e s'=>QK H aG e s'
namespace Rt
theorem E6:Slot "reversed" "__init__" "object.__init__" := .of (owner := "object") (n := "__init__") (by rw[typeLookup_type,builtinLookup_eq_fast];kernel_rfl) (by trivial) (by trivial) (by trivial) (by first|exact .inl (by trivial)|exact .inr (by trivial)) (by rw[isSubtype_type];kernel_rfl)
theorem called:TypeCalled "reversed" "reversed.__new__" "object.__init__" := ⟨by trivial,by trivial,⟨_,_,F.mro_reversed⟩,F.made_reversed,by trivial,by rw[isSubtype_type];kernel_rfl,E6⟩
end Rt
section
variable{prog:Program}{w:World}{A:Around}{E:Value→Shared→Prop}{s:Shared}
end
end L2
namespace L2
open PySem PySem.Spec PyProof.Rows
section
variable{K:Frag}{X:Cx}{tg:Expr}
end
section
variable{K:Frag}{X:Cx}{pos:Pos}
end
section
variable{K:Frag}{X:Cx}
end
section
variable{X:Cx}
end
section
variable{K:Frag}
end
section
variable{X:Cx}
end
section
variable{K:Frag}
end
structure Fb(K:Frag)(x q:Str)(st:Stmt)(ps:List Str)(f:Addr)(d:FuncData):Prop where
 F:nJ K x q st f d
 b:Binds K d ps []
structure dU(K:Frag)(mg:Str→Option Value)(x:Str)(st:Stmt)(ps:List Str)(f:Addr)(d:FuncData):Prop extends Fb K x x st ps f d where
 k:keepIn K (.ref f)=true
 m:mg x=some (.ref f)
structure W3(K:Frag)(c:Addr)(x q:Str)(st:Stmt)(ps:List Str)(f:Addr)(d:FuncData):Prop extends Fb K x q st ps f d where
 e:Meth K c x f
abbrev Ok(P:Program)(w:World)(base:Heap){K:Frag}{mg:Str→Option Value}{x:Str}{st:Stmt}{ps:List Str}{f:Addr}{d:FuncData}(_:dU K mg x st ps f d)(k:Nat)(sp:qD):Prop:=cw P w K mg base (h_ P w mg) k f d ps (uW K sp)
theorem eN{N P:List Str}{sc:Scope}(a:sc.kind=.function∧sc.isCoroutine=false∧sc.isGenerator=false∧N.take P.length=P:=by exact⟨rfl,rfl,rfl,rfl⟩)(b:N.Nodup∧(∀x∈P,sc.names.lookup x=some .local∨sc.names.lookup x=some .cell)∧∀y∈sc.names,y.2≠.free:=by trivial):ai N P sc:=⟨a.1,a.2.1,a.2.2.1,b.1,a.2.2.2,b.2.1,b.2.2⟩
section
variable{R:Prop}{K:Frag}{h:Heap}{mg:Str→Option Value}{od an:Option Addr}{sl:Array (Option Value)}{oc dV kV dc pm cd ct:Value}{f da:Addr}{W4:Option Addr}{dn:Nat}{W5:Array (Option Value)}{c:Addr}{tk:Tok}{d:FuncData}
theorem eU(X:K.In h)(G:h.Ns mainGlobals mg)(x:Str)(st:Stmt)(ps:List Str)(a:nsIn K mainGlobals x=some (some (.ref f)))(l:K.lookup f=some ⟨oc,od,.func (fnOf x x (i5 st) (cQ st) (af st) dV kV dc pm an cd ct),sl⟩)
  (e:codeIn K cd x=true) (k:keepIn K (.ref f)=true) (b:∀us:List Value,us.length=ps.length→bindArgs (fnOf x x (i5 st) (cQ st) (af st) dV kV dc pm an cd ct) ⟨us,[]⟩=pure (ps.zip us)) (g:∀d,dU K mg x st ps f d→R):R :=
 g _ ⟨⟨⟨_,_,_,_,_,_,_,_,_,_,rfl,l,e⟩,.all b⟩,k,mg_of X G a⟩
theorem UP(X:K.In h)(G:h.Ns mainGlobals mg)(x:Str)(st:Stmt)(ps:List Str)(a:nsIn K mainGlobals x=some (some (.ref f)))(l:K.lookup f=some ⟨oc,od,.func (fnOf x x (i5 st) (cQ st) (af st) dV kV dc pm an cd ct),sl⟩)
  (e:codeIn K cd x=true) (k:keepIn K (.ref f)=true) (b:∀us:List Value,us.length=ps.length→bindArgs (fnOf x x (i5 st) (cQ st) (af st) dV kV dc pm an cd ct) ⟨us,[]⟩=pure (ps.zip us)) (g:∀d,d.code=cd→(∀(s:Shared) (us:List Value),us.length=ps.length→BindsTo s d ⟨us,[]⟩ (ps.zip us))→dU K mg x st ps f d→R):R :=
 g _ rfl (fun s us h=>.of_eq (b us h)) ⟨⟨⟨_,_,_,_,_,_,_,_,_,_,rfl,l,e⟩,.all b⟩,k,mg_of X G a⟩
theorem AD(X:K.In h)(G:h.Ns mainGlobals mg)(x:Str)(a:nsIn K mainGlobals x=some none)(g:mg x=none→R):R:=g (PySem.W.mg_none_of X G a)
theorem GF(X:K.In h)(G:h.Ns mainGlobals mg)(x:Str)(i:Int)(a:nsIn K mainGlobals x=some (some (.int i tk)))(g:mg x=some (.int i tk)→R):R:=g (mg_of X G a)
theorem QM(X:K.In h)(G:h.Ns mainGlobals mg)(x:Str)(a:nsIn K mainGlobals x=some (some (.ref c)))(l:K.lookup c=some o)(g:mg x=some (.ref c)→K.lookup c=some o→R):R:=g (mg_of X G a) l
theorem NU(X:K.In h)(G:h.Ns mainGlobals mg)(x:Str)(a:nsIn K mainGlobals x=some (some (.ref c)))(e:excIn K c L2.tG "ValueError.__new__" = true)(g:mg x=some (.ref c)→excIn K c L2.tG "ValueError.__new__" = true→R):R:=g (mg_of X G a) e
end
section
variable{Q:List Value→Prop}
theorem UQ(h:Q [])(us:List Value)(e:us.length=0):Q us:=by cases us with
 |nil=>exact h
 |cons a us=>cases e
theorem E7(h:∀a us,us.length=n→Q (a::us))(us:List Value)(e:us.length=n+1):Q us:=by cases us with
 |nil=>cases e
 |cons a us=>exact h a us (Nat.succ.inj e)
theorem lA(h:∀a,Q [a]):∀us:List Value,us.length=1→Q us:=E7 fun a=>UQ (h a)
theorem ln2(h:∀a b,Q [a,b]):∀us:List Value,us.length=2→Q us:=E7 fun a=>lA (h a)
theorem J5(h:∀a b c,Q [a,b,c]):∀us:List Value,us.length=3→Q us:=E7 fun a=>ln2 (h a)
theorem UR(h:∀a b c d,Q [a,b,c,d]):∀us:List Value,us.length=4→Q us:=E7 fun a=>J5 (h a)
end
section
variable{R:Prop}{K:Frag}{h:Heap}{mg:Str→Option Value}{X Y:Str}{c d:Addr}
theorem US(_:K.In h)(_:mg X=some (.ref c))(_:mg Y=some (.ref d))(b:Bool)(e:kitOne K (.ref c) (.ref d)=some b)(g:kitOne K (.ref c) (.ref d)=some b→R):R:=g e
theorem UT(_:K.In h)(_:mg X=some (.ref c))(e:kitOne K (.ref c) (.type "ValueError")=some true)(g:kitOne K (.ref c) (.type "ValueError")=some true→R):R:=g e
theorem ME(_:K.In h)(_:mg X=some (.ref c))(_:mg Y=some (.ref d))(e:mroIn K c (.ref d)=some true)(g:mroIn K c (.ref d)=some true→R):R:=g e
theorem UU(_:K.In h)(_:mg X=some (.ref c))(e1:findIn K (.ref c) "__getattribute__" = some (some (.builtin "BaseException.__getattribute__")))(e2:findIn K (.ref c) "__getattr__" = some none)(e3:findIn K (.ref c) "__class__" = some (some (.builtin "object.__class__")))(g:XA K c→R):R:=g ⟨e1,e2,e3⟩
theorem MF(h:kitOne K C a=some false)(h2:kitAny K C r=some false):kitAny K C (a::r)=some false:=by
 unfold kitAny
 rw[h];exact h2
end
section
variable{K:Frag}{X:Cx}{x:Str}{st:Stmt}{ps:List Str}{f:Addr}{fd:FuncData}{sp:qD}{e:Expr}{es:List Expr}{p pos:Pos}
theorem QN{R:Prop}{h:Heap}{mg:Str→Option Value}{c:Addr}(X:K.In h)(G:h.Ns mainGlobals mg)(x:Str)(a:nsIn K mainGlobals x=some (some (.ref c)))(g:mg x=some (.ref c)→R):R:=g (mg_of X G a)
end
section
variable{P:Program}{w:World}{K:Frag}{mg:Str→Option Value}{base:Heap}{x qual:Str}{st:Stmt}{f:Addr}{fd:FuncData}{N ps:List Str}{k:Nat}{sp:qD}
theorem nJ.NV(F:nJ K x qual st f fd)(S:ai N ps (af st))
  (ig:∀(bp:Value) (A:Around) (outer:List Env) (s:Shared) (H:Hp) (E:XK) (ds:List D) (S:aQ) (R:KD) (Z:KX),fi k (A.deeper (PyProof.Rows.envOfC qual (af st) s.heap.objs.size f bp))→sp ds S R Z →
   ∃t,xt K (ie (h_ P w mg) P w K mg base N qual (af st) f bp A outer s H E) true (cQ st) t∧t { nx:=fun _ S'=>Fo S' (R .ax),rt:=fun d S'=>Fo S' (R d) } (gy N ds) S fun _ C S'=>Fo S' (Z C))
  (len:∀ds S R Z,sp ds S R Z→ds.length=ps.length:=by intro _ _ _ _ h;repeat first|(obtain⟨e,_⟩:=h;rw[e];rfl;done)|obtain⟨_,h⟩:=h):cw P w K mg base (h_ P w mg) (k+1) f fd ps (uW K sp):=F.ok S len ig
end
def RX(n l0 l1:Nat)(i:Nat)(h:Heap):Prop:=IsZip h (n+4) (n+2) (n+3) .none∧df h (n+2) #[.ref n,.ref (n+1)]∧(∃arr:Array Value,arr.size=2∧df h (n+3) arr)∧h.IsListIter n l0 i∧h.IsListIter (n+1) l1 i
section
variable{prog:Program}{w:World}{A:Around}{E:Value→Shared→Prop}{s:Shared}{n l0 l1:Nat}{i:Nat}{eA fF:Array Value}
theorem AE{x0 x1:Value}{arr:Array Value}(na:arr.size=2){Q:Value→Shared→Prop}(b0:l0<n)(b1:l1<n)(hz:IsZip s.heap (n+4) (n+2) (n+3) .none)(hI:df s.heap (n+2) #[.ref n,.ref (n+1)])(hO:df s.heap (n+3) arr)(j0:s.heap.IsListIter n l0 i)(j1:s.heap.IsListIter (n+1) l1 i)(t0:s.heap.IsList l0 eA)(t1:s.heap.IsList l1 fF)(e0:eA[i]?=some x0)(e1:fF[i]?=some x1)
  (hQ:∀h',IsZip h' (n+4) (n+2) (n+3) (rawInt s.heap.objs.size)→df h' (n+3) #[x0,x1]→h'.IsListIter n l0 (i+1)→h'.IsListIter (n+1) l1 (i+1)→df h' s.heap.objs.size #[x0,x1]→(∀c o,c≠(n+4)→c≠(n+3)→c≠n→c≠(n+1)→s.heap.get? c=some o→h'.get? c=some o)→Q (.ref s.heap.objs.size) { s with heap:=h' }) :
  wpAny (model prog w) A (Builtin.«zip.__next__» ⟨[.ref (n+4)],[]⟩) (fun fin s'=>∃v,fin=.done (.ret v)∧Q v s') E s:=by
 show wpAny _ _ (field (.ref (n+4)) 2 >>= _) _ _ _ ;refine za (zL hz rfl (x:=.bool false) rfl ?_)
 show wpAny _ _ (field (.ref (n+4)) 3 >>= _) _ _ _ ;refine za (zL hz rfl (x:=.ref (n+2)) rfl ?_)
 refine za (yh hI rfl ?_) ;show wpAny _ _ (Builtin.SmallTypes.ownedTupleIsFree (.ref (n+4)) >>= _) _ _ _
 refine za ?_ ;unfold Builtin.SmallTypes.ownedTupleIsFree
 refine za (zL hz rfl (x:=.none) rfl (zi ?_)) ;simp only [if_true]
 refine za (wpAny_rule ?_) ;refine za (zL hz rfl (x:=.ref (n+3)) rfl ?_)
 refine za (yk hz (by simp) fun h0 vD q0=>?_) ;replace vD:IsZip h0 (n+4) (n+2) (n+3) .ellipsis:=vD
 have k0:∀c o,c≠(n+4)→s.heap.get? c=some o→h0.get? c=some o:=fun c o d e=>q0.extBut _ _ d e
 have O0:df h0 (n+3) arr:=k0 _ _ (by show @Ne Nat _ _;lia) hO
 refine za ?_ ;simp only [List.zipIdx_cons,List.zipIdx_nil,List.forIn_cons,List.forIn_nil]
 -- the 0. iterator
 have J0:Heap.IsListIter h0 n l0 i:=by obtain⟨o,a1,a2⟩:=j0;exact⟨o,k0 _ _ (by show @Ne Nat _ _;lia) a1,a2⟩
 have T0:Heap.IsList h0 l0 eA:=by obtain⟨o,a1,a2⟩:=t0;exact⟨o,k0 _ _ (by show @Ne Nat _ _;lia) a1,a2⟩
 refine za (za (wpAny_onRaise ?_)) ;show wpAny _ _ (Builtin.SmallTypes.nextOf (.ref n) >>= _) _ _ _
 refine za (wpAny_nextOf_list_item (s:={ s with heap:=h0 }) J0 T0 e0 fun h1 m0 q1=>zi ?_)
 have O1:df h1 (n+3) arr:=q1.extBut _ _ (by show @Ne Nat _ _;lia) O0
 refine za (yh (s:={ s with heap:=h1 }) O1 rfl ?_) ;refine za (i6 (s:={ s with heap:=h1 }) O1 (by simp [na,Gu]) fun h2 O2 q2=>?_) ;refine za (wpAny_letGo (zi ?_))
 have k2:∀c o,c≠(n+4)→c≠(n+3)→c≠n→s.heap.get? c=some o→h2.get? c=some o:=fun c o dz dO d0 e=>q2.extBut _ _ dO (q1.extBut _ _ d0 (k0 c o dz  e))
 -- the 1. iterator
 have J1:Heap.IsListIter h2 (n+1) l1 i:=by obtain⟨o,a1,a2⟩:=j1;exact⟨o,k2 _ _ (by show @Ne Nat _ _;lia) (by show @Ne Nat _ _;lia) (by show @Ne Nat _ _;lia) a1,a2⟩
 have T1:Heap.IsList h2 l1 fF:=by obtain⟨o,a1,a2⟩:=t1;exact⟨o,k2 _ _ (by show @Ne Nat _ _;lia) (by show @Ne Nat _ _;lia) (by show @Ne Nat _ _;lia) a1,a2⟩
 refine za (za (wpAny_onRaise ?_)) ;show wpAny _ _ (Builtin.SmallTypes.nextOf (.ref (n+1)) >>= _) _ _ _
 refine za (wpAny_nextOf_list_item (s:={ s with heap:=h2 }) J1 T1 e1 fun h3 m1 q3=>zi ?_)
 have O3:df h3 (n+3) (arr.setIfInBounds 0 x0):=q3.extBut _ _ (by show @Ne Nat _ _;lia) O2
 refine za (yh (s:={ s with heap:=h3 }) O3 rfl ?_) ;refine za (i6 (s:={ s with heap:=h3 }) O3 (by simp [na,Gu]) fun h4 O4 q4=>?_) ;refine za (wpAny_letGo (zi ?_))
 have k4:∀c o,c≠(n+4)→c≠(n+3)→c≠n→c≠(n+1)→s.heap.get? c=some o→h4.get? c=some o:=fun c o dz dO d0 d1 e=>q4.extBut _ _ dO (q3.extBut _ _ d1 (k2 c o dz dO d0 e))
 have ea:((arr.setIfInBounds 0 x0).setIfInBounds 1 x1)=#[x0,x1]:=LD na x0 x1
 rw[ea] at O4
 have LF:IsZip h4 (n+4) (n+2) (n+3) .ellipsis:=q4.extBut _ _ (by show @Ne Nat _ _;lia) (q3.extBut _ _ (by show @Ne Nat _ _;lia) (q2.extBut _ _ (by show @Ne Nat _ _;lia) (q1.extBut _ _ (by show @Ne Nat _ _;lia) (vD))))
 have M0:Heap.IsListIter h4 n l0 (i+1):=lx q4.extBut (by show @Ne Nat _ _;lia) (lx q3.extBut (by show @Ne Nat _ _;lia) (lx q2.extBut (by show @Ne Nat _ _;lia) m0))
 have M1:Heap.IsListIter h4 (n+1) l1 (i+1):=lx q4.extBut (by show @Ne Nat _ _;lia) m1
 have hsz:h4.objs.size=s.heap.objs.size:=by rw[q4.1,q3.1,q2.1,q1.1,q0.1]
 refine zi ?_ ;refine za (yh (s:={ s with heap:=h4 }) O4 rfl ?_) ;refine za (wpAny_newTuple ?_)
 have lz:(n+4)<h4.objs.size:=zw LF
 show wpAny _ _ (Builtin.SmallTypes.ownedTupleHandOut (.ref (n+4)) (.ref h4.objs.size) >>= _) _ _ _ ;refine za ?_ ;unfold Builtin.SmallTypes.ownedTupleHandOut
 have PJ:IsZip (h4.push { cls:=.type "tuple",data:=.seq #[x0,x1] }) (n+4) (n+2) (n+3) .ellipsis:=zc _ LF
 refine za (yk (s:={ s with heap:=h4.push { cls:=.type "tuple",data:=.seq #[x0,x1] } }) PJ (by simp) fun g1 vE r1=>?_) ;replace vE:IsZip g1 (n+4) (n+2) (n+3) (rawInt h4.objs.size):=vE
 refine yk (s:={ s with heap:=g1 }) vE (by simp) fun g2 DP r2=>?_ ;replace DP:IsZip g2 (n+4) (n+2) (n+3) (rawInt h4.objs.size):=DP
 have up:∀c o,c≠(n+4)→h4.get? c=some o→g2.get? c=some o:=fun c o d e=>r2.extBut _ _ d (r1.extBut _ _ d (zc _ e))
 have hT:df g2 h4.objs.size #[x0,x1]:=r2.extBut _ _ (yo lz) (r1.extBut _ _ (yo lz) (zo _ rfl))
 rw[hsz] at DP hT ;refine zi ⟨_,rfl,?_⟩ ;show Q (.ref h4.objs.size) _ ;rw[hsz]
 exact hQ g2 DP (up _ _ (by show @Ne Nat _ _;lia) O4) (xI (fun o e=>up _ o (by show @Ne Nat _ _;lia) e) M0) (xI (fun o e=>up _ o (by show @Ne Nat _ _;lia) e) M1) hT fun c o dz dO d0 d1 e=>up c o dz (k4 c o dz dO d0 d1 e)
theorem CA(hh:A.handled=none)(b0:l0<n)(b1:l1<n)(hz:IsZip s.heap (n+4) (n+2) (n+3) .none)(hI:df s.heap (n+2) #[.ref n,.ref (n+1)])(hO:df s.heap (n+3) arr)(j0:s.heap.IsListIter n l0 i)(j1:s.heap.IsListIter (n+1) l1 i)(t0:s.heap.IsList l0 eA)(t1:s.heap.IsList l1 fF)
  (e0:eA[i]?=none) (hE:∀h' e,(∀c o,c≠(n+4)→c≠(n+3)→c≠n→c≠(n+1)→s.heap.get? c=some o→h'.get? c=some o)→(∃o,h'.get? e=some o∧o.cls=.type "StopIteration")→E (.ref e) { s with heap:=h' }) :
  wpAny (model prog w) A (Builtin.«zip.__next__» ⟨[.ref (n+4)],[]⟩) Q E s:=by
 show wpAny _ _ (field (.ref (n+4)) 2 >>= _) _ _ _ ;refine za (zL hz rfl (x:=.bool false) rfl ?_)
 show wpAny _ _ (field (.ref (n+4)) 3 >>= _) _ _ _ ;refine za (zL hz rfl (x:=.ref (n+2)) rfl ?_)
 refine za (yh hI rfl ?_) ;show wpAny _ _ (Builtin.SmallTypes.ownedTupleIsFree (.ref (n+4)) >>= _) _ _ _
 refine za ?_ ;unfold Builtin.SmallTypes.ownedTupleIsFree
 refine za (zL hz rfl (x:=.none) rfl (zi ?_)) ;simp only [if_true]
 refine za (wpAny_rule ?_) ;refine za (zL hz rfl (x:=.ref (n+3)) rfl ?_)
 refine za (yk hz (by simp) fun h0 vD q0=>?_) ;replace vD:IsZip h0 (n+4) (n+2) (n+3) .ellipsis:=vD
 have J0:Heap.IsListIter h0 n l0 i:=by obtain⟨o,a1,a2⟩:=j0;exact⟨o,q0.extBut _ _ (by show @Ne Nat _ _;lia) a1,a2⟩
 have T0:Heap.IsList h0 l0 eA:=by obtain⟨o,a1,a2⟩:=t0;exact⟨o,q0.extBut _ _ (by show @Ne Nat _ _;lia) a1,a2⟩
 refine za ?_ ;simp only [List.zipIdx_cons,List.zipIdx_nil,List.forIn_cons,List.forIn_nil]
 refine za (za (wpAny_onRaise ?_)) ;show wpAny _ _ (Builtin.SmallTypes.nextOf (.ref n) >>= _) _ _ _
 refine za (wpAny_nextOf_list_end (s:={ s with heap:=h0 }) hh J0 T0 e0 fun h1 e q1 he=>?_)
 obtain⟨oe,Io,LG⟩:=he ;have vE:IsZip h1 (n+4) (n+2) (n+3) .ellipsis:=q1 _ _ (by show @Ne Nat _ _;lia) vD
 have ez:e≠(n+4):=fun x=>by subst x;rw[vE] at Io;cases Io;simp at LG
 refine yk (s:={ s with heap:=h1 }) vE (by simp) fun h2 _ q2=>hE h2 e (fun c o dz _ d0 _ x=>q2.extBut _ _ dz (q1 _ _ d0 (q0.extBut _ _ dz x))) ⟨oe,q2.extBut _ _ ez Io,LG⟩
end
def MG(K:Frag)(l0 l1:Addr):It :=
 ⟨fun i H=>∃(eA fF:List V) (x0 x1:V),gT K H l0 eA∧gT K H l1 fF∧eA[i]?=some x0∧fF[i]?=some x1,
  fun i H x H'=>∃T,H T=none∧x=.ref T∧∀(eA fF:List V) (x0 x1:V),gT K H l0 eA→gT K H l1 fF→eA[i]?=some x0→fF[i]?=some x1→H'=upd H T (.tup [x0,x1]),
  fun i H=>∃eA fF,gT K H l0 eA∧gT K H l1 fF∧eA.length≤i⟩
theorem AF{P:Program}{w:World}{K:Frag}{es:List Expr}{kk:Nat}{tp:Pos}{n l0 l1:Nat}(b0:l0<n)(b1:l1<n):Turn P w K (.Tuple es kk tp) (MG K l0 l1) [n,(n+1),(n+2),(n+3),(n+4)] (n+4) (RX n l0 l1) where
 mem:=by simp
 obj:=fun i h st b hb=>by
  obtain⟨hz,hI,⟨arr,na,hO⟩,j0,j1⟩:=st
  have c:b=n∨b=(n+1)∨b=(n+2)∨b=(n+3)∨b=(n+4):=by simpa using hb
  rcases c with rfl|rfl|rfl|rfl|rfl
  ·obtain⟨o,e,c,d⟩:=j0;exact⟨o,e,fun v z=>by rw[d] at z;cases z⟩
  ·obtain⟨o,e,c,d⟩:=j1;exact⟨o,e,fun v z=>by rw[d] at z;cases z⟩
  ·exact⟨_,hI,fun v z=>by cases z⟩
  ·exact⟨_,hO,fun v z=>by cases z⟩
  ·exact⟨_,hz,fun v z=>by cases z⟩
 keep:=fun i h h' st k=>by
  obtain⟨hz,hI,⟨arr,na,hO⟩,j0,j1⟩:=st
  exact⟨k _ (by simp) _ hz,k _ (by simp) _ hI,⟨arr,na,k _ (by simp) _ hO⟩,xI (fun o e=>k _ (by simp) o e) j0,xI (fun o e=>k _ (by simp) o e) j1⟩
 item:=by
  intro X hP hw hK hc i pins s σ H E I hf st hg
  subst hP hw hK
  obtain⟨eA,fF,x0,x1,q0,q1,e0,e1⟩:=hg
  obtain⟨pK,EG,p0,_⟩:=I.list q0 ;obtain⟨u0,PK,PL⟩:=EG.get e0
  obtain⟨pL,Ip,p1,_⟩:=I.list q1 ;obtain⟨u1,PM,PN⟩:=Ip.get e1
  obtain⟨hz,hI,⟨arr,na,hO⟩,j0,j1⟩:=st
  have hT:s.TypeIs (.ref (n+4)) "zip" := ⟨_,hz,rfl⟩
  unfold pyNext
  refine za (wpAny_attempt (wpAny_callSpecial?_slot (name:=Str.ofString "__next__") hT yD (wpAny_call_entry yD hT F.entry_zip_next (AE na b0 b1 hz hI hO j0 j1 (eK p0) (eK p1) (show pK.toArray[i]?=some u0 by simpa using PK) (show pL.toArray[i]?=some u1 by simpa using PM) fun h1 z1 O1 m0 m1 T1 kp=>zi ⟨_,rfl,?_⟩) (F.args_zip_next_1 _))))
  refine wpAny_letOwnedTupleGo_zip (s:={ s with heap:=h1 }) z1 fun h2 z2 r2=>?_
  have PQ:∀c o,c∉([(n+4),(n+3),n,(n+1)]:List Addr)→s.heap.get? c=some o→h2.get? c=some o:=fun c o hc e=>by
   simp only [zd,zq,or_false,not_or] at hc
   obtain⟨dz,dO,d0,d1⟩:=hc
   exact r2.extBut _ _ dz (kp c o dz dO d0 d1 e)
  have lz:(n+4)<s.heap.objs.size:=zw hz
  have T2:df h2 s.heap.objs.size #[u0,u1]:=r2.extBut _ _ (yo lz) T1
  have PR:∀b∈([(n+4),(n+3),n,(n+1)]:List Addr),mn X pins H b:=fun b hb=>hf b (by simp only [zd,zq,or_false] at hb ⊢;rcases hb with h|h|h|h <;> simp [h])
  have I2:Inv X pins σ (upd H s.heap.objs.size (.tup [x0,x1])) { s with heap:=h2 }:=I.xl (t':=s.toks) [(n+4),(n+3),n,(n+1)] PR PQ (Heap.get?_none_of_le (zk _)) ⟨PF (show 2≤1000 by decide),[u0,u1],.cons PL (.cons PN (.nil)),⟨_,T2,rfl,rfl,_,rfl⟩⟩
  refine⟨.ref s.heap.objs.size,_,I2,rfl,⟨_,I.aF.fresh (zk _),rfl,fun T6 T7 y0 y1 g0 g1 f0 f1=>?_⟩,?_,fun b hb=>?_⟩
  ·have:=I.m6 g0 q0 ;subst this ;have:=e0.symm.trans f0 ;cases this
   have:=I.m6 g1 q1 ;subst this ;have:=e1.symm.trans f1 ;cases this
   rfl
  ·refine⟨z2,r2.extBut _ _ (by show @Ne Nat _ _;lia) (kp _ _ (by show @Ne Nat _ _;lia) (by show @Ne Nat _ _;lia) (by show @Ne Nat _ _;lia) (by show @Ne Nat _ _;lia) hI),⟨_,rfl,r2.extBut _ _ (by show @Ne Nat _ _;lia) O1⟩,lx r2.extBut (by show @Ne Nat _ _;lia) m0,lx r2.extBut (by show @Ne Nat _ _;lia) m1⟩
  ·have l2:b<s.heap.objs.size:=by
    simp only [zd,zq,or_false] at hb
    have lz:@LT.lt Nat _ (n+4) s.heap.objs.size:=lz
    rcases hb with rfl|rfl|rfl|rfl|rfl <;> (show @LT.lt Nat _ _ s.heap.objs.size;lia)
   rw[aq (zI l2)] ;exact (hf b hb).1
 done:=by
  intro X hP hw hK hc i pins s σ H E I hf st hg
  subst hP hw hK
  obtain⟨eA,fF,q0,q1,hx⟩:=hg
  obtain⟨pK,EG,p0,_⟩:=I.list q0
  obtain⟨pL,Ip,p1,_⟩:=I.list q1
  obtain⟨hz,hI,⟨arr,na,hO⟩,j0,j1⟩:=st
  have hT:s.TypeIs (.ref (n+4)) "zip" := ⟨_,hz,rfl⟩ ;have hl:=EG.length
  unfold pyNext
  refine za (wpAny_attempt (wpAny_callSpecial?_slot (name:=Str.ofString "__next__") hT yD (wpAny_call_entry yD hT F.entry_zip_next (CA (I.ok.hd hc) b0 b1 hz hI hO j0 j1 (eK p0) (eK p1) (by simp;lia) fun h1 e kp he=>?_) (F.args_zip_next_1 _))))
  obtain⟨o,ho,PU⟩:=he ;refine za (wpAny_isInstance (T := "StopIteration") (b:=true) ⟨o,ho,PU⟩ isSubtype_stop (zi ⟨rfl,?_⟩))
  refine I.xk (t':=s.toks) [(n+4),(n+3),n,(n+1)] (fun b hb=>hf b (by simp only [zd,zq,or_false] at hb ⊢;rcases hb with h|h|h|h <;> simp [h])) fun c o hc e=>?_
  simp only [zd,zq,or_false,not_or] at hc
  obtain⟨dz,dO,d0,d1⟩:=hc
  exact kp c o dz dO d0 d1 e
 self:=fun A' i s Q E st h=>wpAny_pyIter_zip st.1 h
abbrev E8(h:Heap)(l0:Addr):Heap:=(h).push { cls:=.type "list_iterator",data:=.fields #[.ref l0,.int 0 0] }
abbrev E9(h:Heap)(l0 l1:Addr):Heap:=(E8 h l0).push { cls:=.type "list_iterator",data:=.fields #[.ref l1,.int 0 0] }
abbrev E_(h:Heap)(l0 l1:Addr):Heap:=(E9 h l0 l1).push { cls:=.type "tuple",data:=.seq #[.ref h.objs.size,.ref (E8 h l0).objs.size] }
abbrev Fc(h:Heap)(l0 l1:Addr):Heap:=(E_ h l0 l1).push { cls:=.type "tuple",data:=.seq #[.none,.none] }
abbrev vV(h:Heap)(l0 l1:Addr):Heap:=(Fc h l0 l1).push { cls:=.type "zip",data:=.fields #[.none,.bool false,.bool false,.ref (E9 h l0 l1).objs.size,.ref (E_ h l0 l1).objs.size] }
theorem vW(l0 l1:Addr)(eA fF:Array Value):Meets (Builtin.«zip.__new__» ⟨[.type "zip",.ref l0,.ref l1],[]⟩) (fun _ R s=>s.heap.IsList l0 eA∧s.heap.IsList l1 fF∧R (.ok (.ret (.ref (Fc s.heap l0 l1).objs.size))) { s with heap:=vV s.heap l0 l1 }) :=
 .of_wp fun prog w A R s h=>by
  obtain⟨hp,g,d,tk,os⟩:=s;obtain⟨t0,t1,h⟩:=h
  have H9:=sub_zip
  have L0:Heap.IsList (Shared.heap ⟨hp,g,d,tk,os⟩) l0 eA:=t0
  have L1:Heap.IsList (Shared.heap ⟨hp.push { cls:=.type "list_iterator",data:=.fields #[.ref l0,.int 0 0] },g,d,tk,os⟩) l1 fF:=Heap.IsList.push (t1) _
  wp_walk using wpAny_pyIter_list L0,wpAny_pyIter_list L1
  exact⟨_,rfl,h⟩
theorem vX(t0:s.heap.IsList l0 eA)(t1:s.heap.IsList l1 fF)
  (h:∀h',RX s.heap.objs.size l0 l1 0 h'→(∀c o,s.heap.get? c=some o→h'.get? c=some o)→Q (.ref (s.heap.objs.size+4)) { s with heap:=h' }):wpAny (model prog w) A (call (.type "zip") [.ref l0,.ref l1]) Q E s:=by
 refine callType_new F.called_zip (by decide) (F.typeCall_zip_2 _ _) (F.newCall_zip_2 _ _) (fun obj=>F.args_object_init_3 obj _ _) F.entry_zip_new (vW l0 l1 eA fF) ⟨t0,t1,?_⟩
 have z1:(E8 s.heap l0).objs.size=s.heap.objs.size+1:=yf ..
 have z2:(E9 s.heap l0 l1).objs.size=s.heap.objs.size+2:=by rw[yf,z1]
 have z3:(E_ s.heap l0 l1).objs.size=s.heap.objs.size+3:=by rw[yf,z2]
 have z4:(Fc s.heap l0 l1).objs.size=s.heap.objs.size+4:=by rw[yf,z3]
 have z5:(vV s.heap l0 l1).objs.size=s.heap.objs.size+5:=by rw[yf,z4]
 have g0:(vV s.heap l0 l1).get? (s.heap).objs.size=some _:=zc _ (zc _ (zc _ (zc _ (zo _ rfl))))
 have g1:(vV s.heap l0 l1).get? (E8 s.heap l0).objs.size=some _:=zc _ (zc _ (zc _ (zo _ rfl)))
 have g2:(vV s.heap l0 l1).get? (E9 s.heap l0 l1).objs.size=some _:=zc _ (zc _ (zo _ rfl))
 have g3:(vV s.heap l0 l1).get? (E_ s.heap l0 l1).objs.size=some _:=zc _ (zo _ rfl)
 have g4:(vV s.heap l0 l1).get? (Fc s.heap l0 l1).objs.size=some _:=zo _ rfl
 show _∧_
 rw[z2,z3,z4] at g4
 rw[z3] at g3
 rw[z1,z2] at g2
 rw[z1] at g1
 rw[z4]
 exact⟨⟨_,g4,rfl⟩,h _ ⟨g4,g2,⟨_,rfl,g3⟩,⟨_,g0,rfl,rfl⟩,⟨_,g1,rfl,rfl⟩⟩ fun c o x=>zc _ (zc _ (zc _ (zc _ (zc _ x))))⟩
def MH(K:Frag)(ta:TA):TI:=fun σ H R=>ta σ H fun vs H1=>∃l0 l1,vs=[.ref l0,.ref l1]∧(∃xs,gT K H1 l0 xs)∧(∃xs,gT K H1 l1 xs)∧R (MG K l0 l1) H1
theorem Fd(hg:Gl X "zip")(hm:X.mg "zip" = none)(ha:PA X [a,b] ta)(hs:starEach [a,b] X.env=[(false,eval a X.env),(false,eval b X.env)]:=by rfl)(l_:starEach [b] X.env=[(false,eval b X.env)]:=by rfl) :
  PI X (.Tuple es kk tp) (.Call (.Name "zip" p) [a,b] [] pos) (MH X.K ta):=by
 intro pins s σ H R I h
 refine Call_ (ib I hg hm boot_zip (PyProof.Rows.callWith_type1 (bq (ha pos pins s σ H _ I h) fun us s1 ⟨vs,H1,I1,r1,q1⟩=>?_) (by rw[hs,l_]) (by rw[l_];rfl)))
 obtain⟨l0,l1,e,⟨eA,q0⟩,⟨fF,q2⟩,q⟩:=q1
 subst e
 obtain⟨u,v,rfl,r,r'⟩:=r1.two
 cases r
 cases r'
 obtain⟨pK,EG,p0,_⟩:=I1.list q0
 obtain⟨pL,Ip,p1,_⟩:=I1.list q2
 refine vX (eK p0) (eK p1) fun h' zs kp=>?_
 refine wpAny_pyIter_zip (s:={ s1 with heap:=h' }) zs.1 ⟨_,_,_,_,H1,rfl,I1.kept (t':=s1.toks) kp,AF (qK p0) (qK p1),zs,fun b hb=>?_,q⟩
 have Gs:s1.heap.objs.size≤b:=by
  simp only [zd,zq,or_false] at hb
  rcases hb with rfl|rfl|rfl|rfl|rfl <;> (show @LE.le Nat _ _ _;lia)
 exact I1.m7 Gs (I1.aF.fresh Gs)
section
variable{K:Frag}{X:Cx}
def Jb(t:iw):vO:=fun σ S R Z=>t σ S (fun ds S1=>∃a xs b ys,ds=[.ref a,.ref b]∧S1 a=some (.lst xs)∧S1 b=some (.lst ys)∧xs.length=ys.length∧R ⟨aR xs ys,fun S=>ph S (.ref a) xs∧ph S (.ref b) ys⟩ S1) Z
theorem UW{t:iw}(hm:X.mg "zip" = none)(ha:DA K X [a,c] t)(hg:Gl X "zip" := by rfl)(hs:starEach [a,c] X.env=[(false,eval a X.env),(false,eval c X.env)]:=by rfl)(l_:starEach [c] X.env=[(false,eval c X.env)]:=by rfl)(hK:X.K=K:=by rfl) :
  DI K X (.Tuple es kk tp) (.Call (.Name "zip" p) [a,c] [] pos) (Jb t):=by
 subst hK
 exact⟨fun y=>(Fd (X:=y.cx) hg hm (ha.of y) hs l_).mono <| by rintro τ H R ⟨σ,S,RI,Z,aw,hS,q,hR,hZ⟩;exact⟨σ,S,_,Z,aw,hS,q,by
  rintro ds S1 vs H1 ⟨aa,xs,bb,ys,e,UX,hb,hl,r1⟩ v1 s1 k1
  subst e
  obtain⟨v,u,rfl,ra,rb⟩:=v1.two
  obtain⟨a,va,rfl,qa,ta⟩:=ph.at (show ph S1 (.ref aa) xs from UX) s1 ra
  obtain⟨b,vb,rfl,qb,tb⟩:=ph.at (show ph S1 (.ref bb) ys from hb) s1 rb
  refine⟨a,b,rfl,⟨va,qa⟩,⟨vb,qb⟩,hR _ S1 _ H1 r1 (fun i S2 H2 k2 s2 NQ=>?_) s1 k1⟩
  obtain⟨a2,NW,e1,IP,RY⟩:=ph.at NQ.1 s2 (Rv.ts k2 _ ra)
  cases e1
  obtain⟨b2,NX,e2,IQ,RZ⟩:=ph.at NQ.2 s2 (Rv.ts k2 _ rb)
  cases e2
  have la:NW.length=xs.length:=RY.len
  have lb:NX.length=ys.length:=RZ.len
  refine⟨fun d hd=>?_,fun h=>⟨NW,NX,IP,IQ,by unfold aR at h;rw[List.length_zipWith] at h;lia⟩⟩
  unfold aR at hd
  obtain⟨x,y',e1,e2,e3⟩:=List.getElem?_zipWith_eq_some.mp hd
  subst e3
  obtain⟨vx,f1,g1⟩:=RY.get e1
  obtain⟨vy,f2,g2⟩:=RZ.get e2
  refine⟨⟨NW,NX,vx,vy,IP,IQ,f1,f2⟩,fun x' H' ⟨T,hT,e4,e5⟩=>?_⟩
  have:=e5 NW NX vx vy IP IQ f1 f2
  subst this e4
  have kk:Kp X.K H2 (upd H2 T (.tup [vx,vy])):=.new hT
  exact⟨iu aU (RvAll.ts kk _ (aO g1 (aO g2 bM))),kk,s2.grow hT⟩,hZ⟩⟩
end
section
variable{X:Cx}
end
section
variable{K:Frag}
end
end L2
namespace L2
open PySem PySem.Spec PyProof.Rows PySem.SeqAt
def isStrOf(z:Str):Value→Bool
 |.str y _=>y == z
 |_=>false
section
variable{K:Frag}
end
end L2
namespace L2
open PySem PySem.Spec PyProof.Rows
section
variable{X:Cx}{e:Expr}
theorem AG(ha:PE X e te)(hr:IZ 0 X es ta)(hp:isPlain e=true:=by rfl):IZ 0 X (e::es) (wX te ta):=by
 intro pos pins s σ H Q I hn h
 rw[jx hp]
 show wpAny _ _ (spliced ((false,eval e X.env)::backTo pos (starEach es X.env))) _ _ s
 refine z0 (bq (ha pins s σ H _ I h) fun u s1 ⟨x,H1,I1,r1,q1⟩=>?_)
 exact bq (hr pos pins s1 σ H1 _ I1 (yz _) q1) <| by rintro us s2 ⟨xs,H2,I2,r2,q2⟩;exact⟨x::xs,H2,I2,.cons r1 r2,q2⟩
end
section
variable{K:Frag}{X:Cx}{e:Expr}
theorem UY{es:List Expr}{t:TD}{u:iw}(h:DE K X e t)(hr:J3 0 K X es u)(hp:isPlain e=true:=by rfl):J3 0 K X (e::es) (xp t u) :=
 ⟨fun y pos pins s τ H Q I hn ⟨σ,S,R,Z,aw,hS,q,hR,hZ⟩=>AG (h.of y) (hr.of y) hp pos pins s τ H Q I hn
  ⟨σ,S,_,Z,aw,hS,q,fun d S1 x H1 r1 v1 s1 k1=>⟨σ,S1,_,Z,aw.ts k1,s1,r1,fun ds S2 xs H2 r2 v2 s2 k2=>hR (d::ds) S2 (x::xs) H2 r2 (aO (Rv.ts k2 _ v1) v2) s2 (k1.trans k2),hZ.kp k1⟩,hZ⟩⟩
end
section
variable{X:Cx}{a b:Expr}{ta tb:TE}
end
section
variable{K:Frag}{X:Cx}{a b:Expr}
end
section
variable{X:Cx}
end
section
variable{K:Frag}
end
def MI(K:Frag)(C1 C2 CN:Addr)(tb:jP):jP:=fun De σ S Z =>
 tb De σ S fun ay C S'=>(∃b1 b2,mroIn K C (.ref C1)=some b1∧mroIn K C (.ref C2)=some b2∧(b1 || b2)=true)∧C≠CN∧Z ay CN S'
section
variable{K:Frag}{X:Cx}{E:XK}{x1 x2 c:Str}{C1 C2 CN:Addr}{body:List Stmt}{p1 p2 p3 p4 np tp aJ rp tJ pos:Pos}{j2 j3 j4:Nat}{tb:jP}
theorem MJ(NK:X.mg x1=some (.ref C1))(c1:XC K C1)(Py:X.mg x2=some (.ref C2))(c2:XC K C2)(hm:X.mg "NoMark" = some (.ref CN))(cN:XC K CN)(hb:xt K X false body tb)
  (Pw:Gl X x1:=by rfl) (Px:Gl X x2:=by rfl) (hg:Gl X "NoMark" := by rfl) (PB:(x1 == ("__debug__" : Str))=false:=by decide) (hd2:(x2 == ("__debug__" : Str))=false:=by decide) (hK:X.K=K:=by rfl) :
  QD K X E [.Try body [.ExceptHandler (some (.Tuple [.Name x1 p1,.Name x2 p2] j2 tp)) none [.Raise (some (.Call (.Name "NoMark" np) [.Constant (.str c) j3 p3] [] aJ)) (some (.Constant .none j4 p4)) rp] tJ] [] [] pos] (MI K C1 C2 CN tb):=by
 subst hK
 refine⟨fun y hE hL=>wO ((EB (X:=y.cx) hL Pw NK c1 Px Py c2 hg hm cN (Cb (X:=y.cx) (K:=X.K) (t:=tb) ⟨fun z=>hb.of ⟨z.pn,z.xe,z.E,z.ok⟩⟩) PB hd2).mono fun D τ H ⟨σ,S,De,Z,aw,hS,q,hD,hZ⟩=>?_)⟩
 refine⟨σ,S,De,_,aw,hS,q,hD,fun Bl L_ C S1 H1 ⟨⟨b1,b2,m1,m2,m3⟩,n1,r1⟩ a1 s1 k1=>⟨C,b1,b2,rfl,m1,m2,m3,n1,fun a ha=>?_⟩⟩
 have kn:Kp X.K H1 (upd H1 a (jy a (.ref C))):=.new ha
 have:=hZ Bl L_ CN S1 (upd H1 a (jy a (.ref C))) r1 (a1.ts kn) (s1.grow ha) (k1.trans kn)
 rw[hE] at this
 exact this
end
section
variable{K:Frag}{X:Cx}
theorem Jc:xy K (.type "int") intD:=by
 rintro X hK pins s σ H xs us Q I rx ⟨ds,S,R,r,hS,h,hR⟩
 rcases h with ⟨i,rfl,h⟩|⟨k,rfl,h⟩
 ·obtain⟨v,rfl,r1⟩:=r.one
  exact iZ pins s σ H _ us Q I rx (.inl ⟨i,by rw[r1.int],hR.now hS h (aA _)⟩)
 ·obtain⟨v,rfl,r1⟩:=r.one
  exact iZ pins s σ H _ us Q I rx (.inr ⟨k,by rw[r1.bl],hR.now hS h (aA _)⟩)
theorem UZ{x:Str}{id:String}{r:List D→aQ→KD→Prop}{e:Expr}{es:List Expr}{t:iw}{p pos:Pos}(hc:xy K (.type id) r)(hm:X.mg x=none)(hv:bootBuiltins x=some (.type id))(ha:DA K X (e::es) t)(hg:Gl X x:=by rfl)
  (hn:x ≠ "__name__" := by decide) (ng:(x == ("__debug__" : Str))=false:=by decide) (he:starEach (e::es) X.env=(false,eval e X.env)::starEach es X.env:=by rfl) (jl:(backTo pos (starEach es X.env)).any (·.1)=false:=by rfl) (hK:X.K=K:=by rfl) :
  DE K X (.Call (.Name x p) (e::es) [] pos) (JX r t) :=
 ⟨fun y=>(kQ (X:=y.cx) (hc _ hK) hg hm hv (ha.of y) hn ng he jl).mono fun _ _ _ h=>h.cb⟩
end
section
variable{K:Frag}{X:Cx}
theorem Fe:∀v τ H Q,Tg K (B9 3 (kY (IH i) (kY (IH j) (kY (IH k) B8)))) v τ H Q→vd K 3 (dZ (cu i) (dZ (cu j) (dZ (cu k) vc))) v τ H Q:=by
 rintro v τ H Q ⟨d,σ,S,R,rv,aw,hS,⟨ds,e,hl,a,r,e1,b,r',e2,c,RL,e3,e4,q⟩,hR⟩
 subst e e1 e2 e3 e4
 obtain⟨p,xs,rfl,hp,t⟩:=rv.tup
 obtain⟨v1,ys,rfl,r1,t2⟩:=t.cons
 obtain⟨v2,v3,rfl,r2,r3⟩:=t2.two
 exact⟨p,_,rfl,.of hp,rfl,v1,[v2,v3],rfl,v2,[v3],rfl,v3,[],rfl,rfl,hR _ S _ H q (((aw.set i r1).set j r2).set k r3) hS (.refl _)⟩
theorem U0(nd:N.Nodup)(h0:N[0]?=some a:=by rfl)(h1:N[1]?=some c:=by rfl)(h2:N[2]?=some d:=by rfl)
  (hx:∀C s H ex pn,Loc (eR X N scope C s H ex pn).env.scope a∧(eR X N scope C s H ex pn).env.scope.names.lookup a=some .local:=by intro _ _ _ _ _;exact⟨Or.inl rfl,rfl⟩)
  (hy:∀C s H ex pn,Loc (eR X N scope C s H ex pn).env.scope c∧(eR X N scope C s H ex pn).env.scope.names.lookup c=some .local:=by intro _ _ _ _ _;exact⟨Or.inl rfl,rfl⟩)
  (hz:∀C s H ex pn,Loc (eR X N scope C s H ex pn).env.scope d∧(eR X N scope C s H ex pn).env.scope.names.lookup d=some .local:=by intro _ _ _ _ _;exact⟨Or.inl rfl,rfl⟩)
  (hl:∀env:Env,(assignEach [.Name a p,.Name c p',.Name d p''] env).length=3∧(assignEach [.Name a p,.Name c p',.Name d p''] env).findIdx? (·.1)=none∧(assignEach [.Name a p,.Name c p',.Name d p''] env).map (·.2)=assign (.Name a p) env::(assignEach [.Name c p',.Name d p''] env).map (·.2)∧(assignEach [.Name c p',.Name d p''] env).map (·.2)=assign (.Name c p') env::(assignEach [.Name d p''] env).map (·.2)∧(assignEach [.Name d p''] env).map (·.2)=assign (.Name d p'') env::(assignEach [] env).map (·.2):=by intro _;exact⟨rfl,rfl,rfl,rfl,rfl⟩) (hK:X.K=K:=by rfl) (hc:X.calm=true:=by rfl) :
  ∀C s H ex pn,PG (eR X N scope C s H ex pn) (.Tuple [.Name a p,.Name c p',.Name d p''] j p2) (vd K 3 (dZ (cu 0) (dZ (cu 1) (dZ (cu 2) vc)))):=fun C s H ex pn=>by
 subst hK
 have e:=hl (eR X N scope C s H ex pn).env
 exact ve (X:=eR X N scope C s H ex pn) hc (fL (gq (i:=0) nd h0 (hx C s H ex pn).1 (.inr (hx C s H ex pn).2)) (fL (gq (i:=1) nd h1 (hy C s H ex pn).1 (.inr (hy C s H ex pn).2)) (fL (gq (i:=2) nd h2 (hz C s H ex pn).1 (.inr (hz C s H ex pn).2)) qW e.2.2.2.2) e.2.2.2.1) e.2.2.1) e.1 e.2.1
end
theorem U7{R:Prop}{K:Frag}{h:Heap}{mg:Str→Option Value}{X:Str}{c:Addr}{Y0 Y1 Y2 Y3 Y4:Str}{d0 d1 d2 d3 d4:Addr}(_:K.In h)(_:mg X=some (.ref c))(_:mg Y0=some (.ref d0))(_:mg Y1=some (.ref d1))(_:mg Y2=some (.ref d2))(_:mg Y3=some (.ref d3))(_:mg Y4=some (.ref d4))(e0:kitOne K (.ref c) (.ref d0)=some false)(e1:kitOne K (.ref c) (.ref d1)=some false)(e2:kitOne K (.ref c) (.ref d2)=some false)(e3:kitOne K (.ref c) (.ref d3)=some false)(e4:kitOne K (.ref c) (.ref d4)=some false)
  (g:kitAny K (.ref c) ([d0,d1,d2,d3,d4].map Value.ref)=some false→R):R:=g (MF e0 (MF e1 (MF e2 (MF e3 (MF e4 rfl)))))
theorem NY{R:Prop}{K:Frag}{h:Heap}{mg:Str→Option Value}{X Y:Str}{c d:Addr}(_:K.In h)(_:mg X=some (.ref c))(_:mg Y=some (.ref d))(e:mroIn K c (.ref d)=some false)(g:mroIn K c (.ref d)=some false→R):R:=g e
end L2
namespace My
open PySem L2
def top(i:Nat):Stmt:=PySem.Challenge.pw_pageturns_k37_texts_of_no_mark.main.body.getD i (.Pass ⟨0,0,0,0⟩)
abbrev jD:Stmt:=top 12
abbrev iB:Stmt:=top 13
abbrev iC:Stmt:=top 14
abbrev i7:Stmt:=top 15
abbrev j8:Stmt:=top 16
abbrev i8:Stmt:=top 17
abbrev jE:Stmt:=top 18
abbrev gA:Stmt:=top 20
abbrev nY:Stmt:=top 26
abbrev nZ:Stmt:=top 27
abbrev lB:Stmt:=top 28
abbrev cA:Stmt:=top 29
abbrev lC:Stmt:=top 30
abbrev fH:Stmt:=top 31
abbrev bC:Stmt:=top 32
abbrev iD:Stmt:=top 33
abbrev gB:Stmt:=top 39
abbrev fq:Stmt:=top 40
abbrev fI:Stmt:=top 41
abbrev iE:Stmt:=top 42
abbrev gC:Stmt:=top 43
abbrev bH:Stmt:=top 44
abbrev b_:Stmt:=top 45
abbrev dq:Stmt:=top 46
abbrev dW:Stmt:=top 47
abbrev dX:Stmt:=top 48
abbrev cg:Stmt:=top 49
abbrev n6:Stmt:=top 51
abbrev n8:Stmt:=top 52
abbrev iF:Stmt:=top 53
abbrev jF:Stmt:=top 54
abbrev j9:Stmt:=top 55
abbrev lE:Stmt:=top 56
abbrev rH:Stmt:=top 57
abbrev lF:Stmt:=top 58
abbrev mT:Stmt:=top 59
abbrev eV:Stmt:=top 60
abbrev dw:Stmt:=top 61
abbrev j_:Stmt:=top 62
abbrev iG:Stmt:=top 63
abbrev cJ:Stmt:=top 64
abbrev fU:Stmt:=top 65
abbrev n_:Stmt:=top 66
abbrev gE:Stmt:=top 67
abbrev iH:Stmt:=top 68
abbrev ft:Stmt:=top 69
abbrev lG:Stmt:=top 70
abbrev xJ:Stmt:=top 71
set_option genInjectivity false in
set_option genSizeOfSpec false in
structure QO where
 (vY ud ue AH CB AI vZ rJ CC CD AJ pR AK pS jG uf rK ug pT uh rL mw lH lI mx my lJ CF CG uk v8 CH AL Ff AM Fh oa pU CI um mz CJ CK v_ uo Fi AN GG iI iJ gF dF gG ba aT aM lK og:Addr)
 (wa uq ur AO CL AQ wb rN CM CO AR pV AS pW jH uu rO uv pX uw rP mB lL lM mC mE lN CP CQ ux wc CS AU Fj AV Fl oh pY CT uy mF CU CV wd uz Fm AW CW:FuncData)
 (ka lO kc rQ gY gZ oi ke:Tok)
structure Txt(w:World)(K:Frag)(mg:Str→Option Value)(t:QO):Prop where
 iK:dU K mg "is_whole" jD ["thing"] t.vY t.wa
 bw:dU K mg "is_letter" iB ["sign"] t.ud t.uq
 cO:dU K mg "is_figure" iC ["sign"] t.ue t.ur
 kf:dU K mg "is_name" i7 ["thing"] t.AH t.AO
 oj:dU K mg "is_key" j8 ["thing"] t.CB t.CL
 fu:dU K mg "is_word" i8 ["thing"] t.AI t.AQ
 iL:dU K mg "is_value" jE ["kind","thing"] t.vZ t.wb
 bN:dU K mg "kind_named" gA ["columns","name"] t.rJ t.rN
 iM:dU K mg "is_way" nY ["thing"] t.CC t.CM
 om:dU K mg "is_end" nZ ["thing"] t.CD t.CO
 kh:dU K mg "is_side" lB ["thing"] t.AJ t.AR
 dG:dU K mg "check_order" cA ["columns","order"] t.pR t.pV
 ki:dU K mg "is_part" lC ["columns","thing"] t.AK t.AS
 dH:dU K mg "check_place" fH ["columns","order","place"] t.pS t.pW
 bx:dU K mg "are_place_values" bC ["columns","parts","thing"] t.jG t.jH
 fV:dU K mg "check_gap" iD ["columns","order","gap"] t.uf t.uu
 bO:dU K mg "value_text" gB ["value"] t.rK t.rO
 fW:dU K mg "mark_text" fq ["mark"] t.ug t.uv
 dI:dU K mg "order_words" fI ["order"] t.pT t.pX
 fX:dU K mg "read_mark" iE ["columns","text"] t.uh t.uw
 eW:dU K mg "check_mark" gC ["columns","mark"] t.rL t.rP
 cB:dU K mg "mark_in_words" bH ["words"] t.mw t.mB
 bP:dU K mg "order_in_words" b_ ["words"] t.lH t.lL
 bQ:dU K mg "is_moment_text" dq ["text"] t.lI t.lM
 cE:dU K mg "is_value_text" dW ["text"] t.mx t.mC
 aC:dU K mg "value_of_text" dX ["text"] t.my t.mE
 aS:dU K mg "is_number_text" cg ["text","most"] t.lJ t.lN
 iN:dU K mg "_law_well" n6 ["_law_script","_law_k"] t.CF t.CP
 ah:dU K mg "_law_draw" n8 ["_law_well_here","_law_most"] t.CG t.CQ
 fY:dU K mg "_law_columns" iF ["_law_well_here"] t.uk t.ux
 iO:dU K mg "_law_number" jF ["_law_well_here"] t.v8 t.wc
 oo:dU K mg "_law_word" j9 ["_law_well_here"] t.CH t.CS
 kj:dU K mg "_law_value" lE ["_law_well_here","_law_kind"] t.AL t.AU
 uA:dU K mg "_law_key" rH ["_law_well_here"] t.Ff t.Fj
 kl:dU K mg "_law_order" lF ["_law_well_here","_law_columns_here"] t.AM t.AV
 uB:dU K mg "_law_gap" mT ["_law_well_here","_law_columns_here","_law_order_here"] t.Fh t.Fl
 cV:dU K mg "_law_value_text" eV ["_law_value_here"] t.oa t.oh
 dJ:dU K mg "_law_mark_text" dw ["_law_mark"] t.pU t.pY
 iP:dU K mg "_law_menu" j_ ["_law_well_here","_law_columns_here"] t.CI t.CT
 fZ:dU K mg "_law_spoiled" iG ["_law_well_here","_law_columns_here","_law_text"] t.um t.uy
 aD:dU K mg "_law_are_figures" cJ ["_law_text","_law_most"] t.mz t.mF
 oq:dU K mg "_law_fits" fU ["_law_kind","_law_text"] t.CJ t.CU
 ot:dU K mg "_law_told" n_ ["_law_text"] t.CK t.CV
 iQ:dU K mg "_law_is_key" gE ["_law_text"] t.v_ t.wd
 f9:dU K mg "_law_is_part" iH ["_law_kinds","_law_name","_law_way","_law_end"] t.uo t.uz
 mh:dU K mg "_law_due" ft ["_law_columns_here","_law_text"] t.Fi t.Fm
 cW:dU K mg "_law_found" lG ["_law_columns_here","_law_text"] t.AN t.AW
 QP:dU K mg "law" xJ ["_law_script"] t.GG t.CW
 jI:mg "MOST_NAME_SIGNS" = some (.int 8 t.ka)
 km:mg "MOST_KEY_SIGNS" = some (.int 12 t.lO)
 jJ:mg "MOST_WORD_SIGNS" = some (.int 40 t.kc)
 pZ:mg "MOST_PARTS" = some (.int 8 t.rQ)
 gH:mg "MOST_MOMENT_FIGURES" = some (.int 18 t.gY)
 gI:mg "MOST_NUMBER_FIGURES" = some (.int 60 t.gZ)
 mG:mg "WORDS_ALWAYS" = some (.int 7 t.oi)
 eX:mg "WORDS_OF_A_PART" = some (.int 4 t.ke)
 rR:mg "OTHER_WAY" = some (.ref t.iI)
 uC:JV w K t.iI [("up",.str "down"),("down",.str "up")]
 rS:mg "OTHER_END" = some (.ref t.iJ)
 uD:JV w K t.iJ [("first",.str "last"),("last",.str "first")]
 p_:mg "OTHER_SIDE" = some (.ref t.gF)
 rT:JV w K t.gF [("ahead",.str "behind"),("behind",.str "ahead")]
 bz:mg "len" = none
 f_:mg "all" = none
 ao:mg "isinstance" = none
 gJ:mg "range" = none
 mi:mg "int" = none
 fv:mg "str" = none
 Jd:mg "bool" = none
 bD:mg "tuple" = none
 Je:mg "list" = none
 we:mg "dict" = none
 GH:mg "set" = none
 GI:mg "zip" = none
 rV:mg "ValueError" = none
 rW:mg "PageError" = some (.ref t.dF)
 iR:excIn K t.dF L2.tG "ValueError.__new__" = true
 qc:mg "BadColumns" = some (.ref t.gG)
 bR:mg "BadOrder" = some (.ref t.ba)
 bS:excIn K t.ba L2.tG "ValueError.__new__" = true
 bT:mg "BadPlace" = some (.ref t.aT)
 bU:excIn K t.aT L2.tG "ValueError.__new__" = true
 eO:mg "NoMark" = some (.ref t.aM)
 cF:excIn K t.aM L2.tG "ValueError.__new__" = true
 wg:mg "OldMark" = some (.ref t.lK)
 AX:mg "NoText" = some (.ref t.og)
 gb:XA K t.aM
 dM:mroIn K t.ba (.ref t.dF)=some true
 bt:mroIn K t.ba (.ref t.ba)=some true
 cn:mroIn K t.ba (.ref t.aT)=some false
 dN:mroIn K t.aT (.ref t.dF)=some true
 cq:mroIn K t.aT (.ref t.ba)=some false
 bu:mroIn K t.aT (.ref t.aT)=some true
 cM:mroIn K t.aM (.ref t.dF)=some true
 cX:mroIn K t.aM (.ref t.ba)=some false
 cY:mroIn K t.aM (.ref t.aT)=some false
 lP:kitAny K (.ref t.aM) ([t.gG,t.ba,t.aT,t.og,t.lK].map Value.ref)=some false
 k_NoMark_NoMark:kitOne K (.ref t.aM) (.ref t.aM)=some true
 k_NoMark_ValueError:kitOne K (.ref t.aM) (.type "ValueError")=some true
 bl:∀(s:Shared) (u:Value),BindsTo s t.CW ⟨[u],[]⟩ [("_law_script",u)]
theorem uE:ai ["thing"] ["thing"] (af jD):=eN
theorem rX:ai ["sign"] ["sign"] (af iB):=eN
theorem rY:ai ["sign"] ["sign"] (af iC):=eN
theorem wj:ai ["thing"] ["thing"] (af i7):=eN
theorem AY:ai ["thing"] ["thing"] (af j8):=eN
theorem wk:ai ["thing"] ["thing"] (af i8):=eN
theorem uF:ai ["kind","thing"] ["kind","thing"] (af jE):=eN
theorem qd:ai ["columns","name"] ["columns","name"] (af gA):=eN
theorem AZ:ai ["thing"] ["thing"] (af nY):=eN
theorem A0:ai ["thing"] ["thing"] (af nZ):=eN
theorem wm:ai ["thing"] ["thing"] (af lB):=eN
theorem eY:ai ["columns","order","parts","names"] ["columns","order"] (af cA):=eN
theorem wo:ai ["columns","thing"] ["columns","thing"] (af lC):=eN
theorem ou:ai ["columns","order","place"] ["columns","order","place"] (af fH):=eN
theorem ji:ai ["columns","parts","thing"] ["columns","parts","thing"] (af bC):=eN
theorem rZ:ai ["columns","order","gap"] ["columns","order","gap"] (af iD):=eN
theorem qg:ai ["value"] ["value"] (af gB):=eN
theorem gK:ai ["mark","gap","words"] ["mark"] (af fq):=eN
theorem eZ:ai ["order","words","part"] ["order"] (af fI):=eN
theorem ko:ai ["columns","text","mark"] ["columns","text"] (af iE):=eN
theorem qh:ai ["columns","mark"] ["columns","mark"] (af gC):=eN
theorem bA:ai ["words","many","behind_order","value_words","place"] ["words"] (af bH):=eN
theorem fw:ai ["words","parts"] ["words"] (af b_):=eN
theorem kr:ai ["text"] ["text"] (af dq):=eN
theorem lQ:ai ["text"] ["text"] (af dW):=eN
theorem lR:ai ["text"] ["text"] (af dX):=eN
theorem fz:ai ["text","most","figures"] ["text","most"] (af cg):=eN
theorem lS:ai ["_law_script","_law_k","_law_cell"] ["_law_script","_law_k"] (af n6):=eN
theorem i9:ai ["_law_well_here","_law_most","_law_number_here"] ["_law_well_here","_law_most"] (af n8):=eN
theorem cZ:ai ["_law_well_here","_law_names","_law_found_here","_law_k","_law_name"] ["_law_well_here"] (af iF):=eN
theorem mj:ai ["_law_well_here","_law_way"] ["_law_well_here"] (af jF):=eN
theorem lT:ai ["_law_well_here","_law_way","_law_signs"] ["_law_well_here"] (af j9):=eN
theorem wq:ai ["_law_well_here","_law_kind"] ["_law_well_here","_law_kind"] (af lE):=eN
theorem uG:ai ["_law_well_here","_law_some"] ["_law_well_here"] (af rH):=eN
theorem dr:ai ["_law_well_here","_law_columns_here","_law_left","_law_parts","_law_k","_law_name","_law_kind"] ["_law_well_here","_law_columns_here"] (af lF):=eN
theorem ox:ai ["_law_well_here","_law_columns_here","_law_order_here","_law_kinds","_law_values"] ["_law_well_here","_law_columns_here","_law_order_here"] (af mT):=eN
theorem mH:ai ["_law_value_here"] ["_law_value_here"] (af eV):=eN
theorem aE:ai ["_law_mark","_law_moment","_law_order_here","_law_gap_here","_law_words","_law_name","_law_way","_law_end"] ["_law_mark"] (af dw):=eN
theorem cP:ai ["_law_well_here","_law_columns_here","_law_some"] ["_law_well_here","_law_columns_here"] (af j_):=eN
theorem eF:ai ["_law_well_here","_law_columns_here","_law_text","_law_words","_law_at","_law_way"] ["_law_well_here","_law_columns_here","_law_text"] (af iG):=eN
theorem lU:ai ["_law_text","_law_most"] ["_law_text","_law_most"] (af cJ):=eN
theorem lV:ai ["_law_kind","_law_text","_law_parts","_law_bare"] ["_law_kind","_law_text"] (af fU):=eN
theorem A1:ai ["_law_text"] ["_law_text"] (af n_):=eN
theorem uH:ai ["_law_text"] ["_law_text"] (af gE):=eN
theorem r9:ai ["_law_kinds","_law_name","_law_way","_law_end"] ["_law_kinds","_law_name","_law_way","_law_end"] (af iH):=eN
theorem c_:ai ["_law_columns_here","_law_text","_law_words","_law_many","_law_heads","_law_tail","_law_kinds","_law_parts","_law_values","_law_gap_here"] ["_law_columns_here","_law_text"] (af ft):=eN
theorem e_:ai ["_law_columns_here","_law_text","e","_law_mark","_law_others","_law_alone"] ["_law_columns_here","_law_text"] (af lG):=eN
theorem dY:ai ["_law_script","_law_well_here","_law_columns_here","_law_k","_law_order_here","_law_text","_law_turn","_law_others","_law_one","_law_thing"] ["_law_script"] (af xJ):=eN
theorem oy(h:n≤100000):n<sizeLine:=by rw[sizeLine_eq];lia
theorem sm(h:n≤100000):n≤sizeLine:=Nat.le_of_lt (oy h)
abbrev R1(P:Program)(w:World)(K:Frag)(mg:Str→Option Value)(base:Heap)(k:Nat)(f:Addr)(fd:FuncData)(ps:List Str)(sp:qD):Prop:=cw P w K mg base (h_ P w mg) k f fd ps (uW K sp)
def Gt(S:aQ)(d:D):Prop:=(∃k,J2 S d k)∧∀z,d=.str z→z.cps.size≤100000
def isLet(c:Nat):Bool:=decide (97≤c) && decide (c≤122)
def cG(c:Nat):Bool:=decide (48≤c) && decide (c≤57)
def oz(c:Nat):Bool:=decide (32≤c) && decide (c≤126)
def gR(z:Str):Bool:=decide (1≤z.cps.size) && decide (z.cps.size≤8) && z.cps.toList.all isLet
def iS(z:Str):Bool:=decide (1≤z.cps.size) && decide (z.cps.size≤12) && (z.cps.toList.head?.any isLet) && z.cps.toList.all fun c=>isLet c || cG c
def dP(z:Str):Bool:=decide (z.cps.size≤40) && z.cps.toList.all oz
def ofStr(f:Str→Bool):D→Bool
 |.str z=>f z
 |_=>false
def oA:D→Bool
 |.int _=>true
 |_=>false
def gf(kind:Str)(d:D):Bool:=jB d || if kind = "number" then oA d else ofStr dP d
def Fn(f:D→Bool):qD:=fun ds S R _=>∃d,ds=[d]∧Gt S d∧R (.bl (f d)) S
def CY(f:Nat→Bool):qD:=fun ds S R _=>∃c,ds=[.str ⟨#[c]⟩]∧R (.bl (f c)) S
theorem ml:∀{xs ys:List D}{a b:D},Paired rel xs ys→rel a b→Paired rel (xs++[a]) (ys++[b])
 |_,_,_,_,.nil,r=>.cons r .nil
 |_,_,_,_,.cons q t,r=>.cons q (ml t r)
theorem take_snoc{α:Type}{l:List α}{i:Nat}{d:α}(h:l[i]?=some d):l.take (i+1)=l.take i++[d]:=by
 rw[List.take_add_one,h];rfl
theorem iT{I:pj}{S1:aQ}{g:vN}{te:TD}{σ:SD}{src:List (Option Nat)}{R:KD}(rel:D→D→Prop)(aF:I.ok S1)(hz:I.xs.length≤100000)
  (step:∀d,d∈I.xs→∀Q:KD,(∀v,rel d v→Q v S1)→g d (qF σ src) S1 fun iY S3=>te iY S3 Q Zf) (fin:∀out,Paired rel I.xs out→∀p,S1 p=none→R (.ref p) (S1.set p (.lst out))) :
  xw σ src g jX te R I S1:=by
 refine⟨fun i out S=>S=S1∧Paired rel (I.xs.take i) out,⟨rfl,.nil⟩,fun i out S h=>by rw[h.1];exact aF,?_,?_⟩
 ·rintro i d out S hd ⟨rfl,hp⟩
  have hlen:=Paired.length hp
  rw[zG] at hlen
  refine⟨oy (by lia),?_⟩
  have e:(fun (iY:SD) (S3:aQ)=>jX iY S3 (fun b S4=>if b=true then te iY S4 (fun v S5=>S5=S∧Paired rel (I.xs.take (i+1)) (out++[v])) Zf else S4=S∧Paired rel (I.xs.take (i+1)) out) Zf)=fun iY S3=>te iY S3 (fun v S5=>S5=S∧Paired rel (I.xs.take (i+1)) (out++[v])) Zf:=by
   funext iY S3
   simp [jX]
  rw[e]
  exact step d (zM hd) _ fun v hv=>⟨rfl,by rw[take_snoc hd];exact ml hp hv⟩
 ·rintro out S2 ⟨rfl,hp⟩
  rw[List.take_length] at hp
  exact fin out hp
theorem oB:∀{xs out:List D},Paired (fun d v=>v=f d) xs out→out=xs.map f
 |_,_,.nil=>rfl
 |_,_,.cons r t=>by rw[r,oB t];rfl
theorem comp_map(f:D→D)(aF:I.ok S1)(hz:I.xs.length≤100000)
  (step:∀d,d∈I.xs→∀Q:KD,Q (f d) S1→g d (qF σ src) S1 fun iY S3=>te iY S3 Q Zf) (fin:∀p,S1 p=none→R (.ref p) (S1.set p (.lst (I.xs.map f)))) :
  xw σ src g jX te R I S1 :=
 iT (fun d v=>v=f d) aF hz (fun d hd Q h=>step d hd Q (h _ rfl)) fun out hp p MK=>by rw[oB hp];exact fin p MK
theorem A2{I:pj}{S1:aQ}{g:vN}{te:TD}{σ:SD}{src:List (Option Nat)}{R:KD}(f:D→D)(aF:∀S',Sub S1 S'→I.ok S')(hz:I.xs.length≤100000)
  (step:∀d,d∈I.xs→∀S',Sub S1 S'→∀Q:KD,(∀S2,Sub S' S2→Q (f d) S2)→g d (qF σ src) S' fun iY S3=>te iY S3 Q Zf) (fin:∀S2,Sub S1 S2→∀p,S2 p=none→R (.ref p) (S2.set p (.lst (I.xs.map f)))) :
  xw σ src g jX te R I S1:=by
 refine⟨fun i out S=>Sub S1 S∧out=(I.xs.take i).map f,⟨.refl _,rfl⟩,fun i out S h=>aF S h.1,?_,?_⟩
 ·rintro i d out S hd ⟨hs,rfl⟩
  refine⟨oy (by rw[zb,zG];lia),?_⟩
  have e:(fun (iY:SD) (S3:aQ)=>jX iY S3 (fun b S4=>if b=true then te iY S4 (fun v S5=>Sub S1 S5∧(I.xs.take i).map f++[v]=(I.xs.take (i+1)).map f) Zf else Sub S1 S4∧(I.xs.take i).map f=(I.xs.take (i+1)).map f) Zf)=fun iY S3=>te iY S3 (fun v S5=>Sub S1 S5∧(I.xs.take i).map f++[v]=(I.xs.take (i+1)).map f) Zf:=by
   funext iY S3
   simp [jX]
  rw[e]
  exact step d (zM hd) S hs _ fun S2 h2=>⟨hs.trans h2,by rw[take_snoc hd,zE];rfl⟩
 ·rintro out S2 ⟨hs,rfl⟩
  rw[List.take_length]
  exact fin S2 hs
variable{P:Program}{w:World}{K:Frag}{mg:Str→Option Value}{base:Heap}{t:QO}
theorem uI(T:Txt w K mg t):Ok P w base T.iK 1 (Fn oA):=by
 refine T.iK.F.ok uE (by rintro ds S R Z ⟨d,e,_⟩;exact by rw[e];rfl) (fun bp A outer s H E ds S R Z hr ⟨d,e,⟨⟨k,hk⟩,hz⟩,q⟩=>?_)
 subst e
 refine⟨_,(s1 (sr (jA (cb dE T.ao aj (ac (dv 0) (ac (sN T.mi iq) an))) (vL (Iw (cb dE T.ao aj (ac (dv 0) (ac (sN T.Jd Eu) an)))))))),?_⟩
 refine⟨_,rfl,_,_,_,_,rfl,Ex,hk,_,rfl,?_⟩
 have:(vt k=true∧((oA d=true∧rk k=false)∨(oA d=false∧rk k=true)))∨(vt k=false∧oA d=false):=by
  cases d with
  |ax=>cases hk;exact .inr ⟨rfl,rfl⟩
  |bl b=>cases hk;exact .inl ⟨rfl,.inr ⟨rfl,rfl⟩⟩
  |int b=>cases hk;exact .inl ⟨rfl,.inl ⟨rfl,rfl⟩⟩
  |str b=>cases hk;exact .inr ⟨rfl,rfl⟩
  |tup b=>cases hk;exact .inr ⟨rfl,rfl⟩
  |ref a=>rcases hk with ⟨rfl,_⟩|⟨rfl,_⟩ <;> exact .inr ⟨rfl,rfl⟩
  |_=>exact hk.elim
 rcases this with ⟨h1,h2⟩|⟨h1,h2⟩
 ·rw[h1]
  refine cL ⟨_,rfl,_,_,_,_,rfl,BN,hk,_,rfl,?_⟩
  rcases h2 with ⟨h2,h3⟩|⟨h2,h3⟩ <;> (rw[h3];rw[h2] at q;exact fo q)
 ·rw[h1]
  rw[h2] at q
  exact ck (fo q)
theorem gL(T:Txt w K mg t):Ok P w base T.bw 1 (CY isLet):=by
 refine T.bw.F.ok rX (by rintro ds S R Z ⟨d,e,_⟩;exact by rw[e];rfl) (fun bp A outer s H E ds S R Z hr ⟨c,e,q⟩=>?_)
 subst e
 refine⟨_,(s1 (sr (cc dm dm hr.units ds (dv 0) ds))),?_⟩
 refine⟨_,rfl,_,rfl,?_⟩
 have e1:oY "a" ⟨#[c]⟩=decide (97≤c):=br 97 c
 have e2:oY ⟨#[c]⟩ "z" = decide (c≤122):=br c 122
 unfold isLet at q
 refine bg (fun h=>?_) (fun h=>?_)
 ·rw[e1.symm.trans h,zf,← e2] at q
  exact fo q
 ·rw[e1.symm.trans h,zh] at q
  exact fo q
theorem ku(T:Txt w K mg t):Ok P w base T.cO 1 (CY cG):=by
 refine T.cO.F.ok rY (by rintro ds S R Z ⟨d,e,_⟩;exact by rw[e];rfl) (fun bp A outer s H E ds S R Z hr ⟨c,e,q⟩=>?_)
 subst e
 refine⟨_,(s1 (sr (cc dm dm hr.units ds (dv 0) ds))),?_⟩
 refine⟨_,rfl,_,rfl,?_⟩
 have e1:oY "0" ⟨#[c]⟩=decide (48≤c):=br 48 c
 have e2:oY ⟨#[c]⟩ "9" = decide (c≤57):=br c 57
 unfold cG at q
 refine bg (fun h=>?_) (fun h=>?_)
 ·rw[e1.symm.trans h,zf,← e2] at q
  exact fo q
 ·rw[e1.symm.trans h,zh] at q
  exact fo q
theorem gi(h:d∈aN z):∃c,c∈z.cps.toList∧d=.str ⟨#[c]⟩:=by
 unfold aN at h
 obtain⟨c,hc,e⟩:=zl.mp h
 exact⟨c,hc,e.symm⟩
def d_(f:Nat→Bool):D→D
 |.str z=>.bl (z.cps.toList.head?.any f)
 |_=>.ax
theorem gj:(aN z).map (d_ f)=(z.cps.toList.map f).map D.bl:=by
 unfold aN
 rw[zC,zC]
 rfl
theorem all_map{α:Type}{l:List α}{f:α→Bool} : (l.map f).all id=l.all f:=by
 rw[List.all_map];rfl
theorem i_{z:Str}{f:Nat→Bool}{g:vN}{te:TD}{σ:SD}{src:List (Option Nat)}{S:aQ}{R:KD}{Z:KX}{i:Nat}(hv:σ[i]?=some (some (.str z)))(hz:z.cps.size≤100000)
  (step:∀c,c∈z.cps.toList→∀Q:KD,Q (.bl (f c)) S→g (.str ⟨#[c]⟩) (qF σ src) S fun iY S3=>te iY S3 Q Zf) (q:R (.bl (z.cps.toList.all f)) S) :
  JX L5 (xp (xx (GB (LN i)) src g jX te) LO) σ S (fun d S'=>Fo S' (R d)) Z:=by
 refine⟨_,hv,z,rfl,?_⟩
 refine My.comp_map (I:=⟨aN z,fun _=>True⟩) (d_ f) trivial (by show (aN z).length≤100000;unfold aN;rw[zb,zR];exact hz) (fun d hd Q hQ=>?_) fun p hp=>?_
 ·obtain⟨c,hc,rfl⟩:=gi hd
  exact step c hc Q (by simpa [d_] using hQ)
 ·refine⟨.ref p,z.cps.toList.map f,rfl,?_,S,.new hp,?_⟩
  ·show (S.set p (.lst ((aN z).map (d_ f)))) p=_
   rw[ae,gj]
  ·rw[all_map];exact q
theorem r_{S:aQ}{d:D}{k:Kd}(hk:J2 S d k):(∃z,d=.str z∧vw k=true)∨(vw k=false∧∀f,ofStr f d=false):=by
 cases d with
 |str b=>cases hk;exact .inl ⟨b,rfl,rfl⟩
 |ax=>cases hk;exact .inr ⟨rfl,fun _=>rfl⟩
 |bl b=>cases hk;exact .inr ⟨rfl,fun _=>rfl⟩
 |int b=>cases hk;exact .inr ⟨rfl,fun _=>rfl⟩
 |tup b=>cases hk;exact .inr ⟨rfl,fun _=>rfl⟩
 |ref a=>rcases hk with ⟨rfl,_⟩|⟨rfl,_⟩ <;> exact .inr ⟨rfl,fun _=>rfl⟩
 |_=>exact hk.elim
theorem wt(T:Txt w K mg t):Ok P w base T.kf 2 (Fn (ofStr gR)):=by
 refine T.kf.F.NV wj ?_
 rintro _ _ _ _ _ _ ds S R Z hr ⟨d,e,⟨⟨k,hk⟩,hz⟩,q⟩
 subst e
 refine⟨_,(sc (si (twd (twor (cy (tv (cb dE T.ao aj (ac (dv 0) (ac (sN T.fv cR) an))))) (tw1 (cy (JW dm dm hr.units di (cb bG T.bz aP (ac (dv 0) an)) (dg (v:=.int 8) T.jI ⟨_,rfl⟩ fun _=>aA _)))))) (s1 (sr db)) s0) (s1 (sr (cb fO T.f_ dh (ac (nI (N:=["sign"]) (src:=[none]) (md (af i7) ["thing"] rfl rfl (by trivial)) (vP (dv 0)) (px (show (["sign"]:List Str).Nodup by trivial)) (aK rfl) aL (fun _ _ _ _ _=>mf) (fun _ _ _ _ _=>(cf ((gL T).mono (by decide)) hr T.bw.m T.bw.k T.bw.b d0 (ac (dv 0) an)))) an))))),?_⟩
 refine⟨_,rfl,_,_,_,_,rfl,cH,hk,_,rfl,?_⟩
 rcases r_ hk with ⟨z,rfl,h0⟩|⟨h0,h1⟩
 ·have hz:=hz z rfl
  rw[h0]
  refine ck ?_
  refine⟨_,rfl,_,rfl,⟨sm hz,?_⟩⟩
  refine⟨_,rfl,?_⟩
  have e1:decide ((1:Int)≤(z.length:Nat))=decide (1≤z.cps.size):=by rw[zK];show (1:Int)≤((z.cps.size:Nat):Int)↔_;omega
  have e2:decide (((z.length:Nat):Int)≤8)=decide (z.cps.size≤8):=by rw[zK];show ((z.cps.size:Nat):Int)≤8↔_;omega
  unfold ofStr gR at q
  dsimp only at q
  refine bg (fun h2=>?_) (fun h2=>?_)
  ·rw[e1.symm.trans h2,zf] at q
   refine⟨_,rfl,?_⟩
   refine bg (fun h3=>?_) (fun h3=>?_)
   ·rw[e2.symm.trans (nt h3),zh] at q
    exact fo q
   ·rw[e2.symm.trans (nf h3),zf] at q
    exact i_ rfl hz (fun c hc Q hQ=>⟨_,rfl,c,rfl,hQ⟩) q
  ·rw[e1.symm.trans h2,zh,zh] at q
   refine⟨_,rfl,?_⟩
   exact cL (fo q)
 ·rw[h0]
  rw[h1] at q
  exact cL (cL (fo q))
def aH(c:Str×Str):D:=.tup [.str c.1,.str c.2]
def Gd(cs:List (Str×Str)):Prop:=cs.length≤8∧(cs.map Prod.fst).Nodup∧∀c∈cs,gR c.1=true∧(c.2 = "number" ∨ c.2 = "word")
theorem A3(T:Txt w K mg t):Ok P w base T.oj 2 (Fn (ofStr iS)):=by
 refine T.oj.F.ok AY (by rintro ds S R Z ⟨d,e,_⟩;exact by rw[e];rfl) (fun bp A outer s H E ds S R Z hr ⟨d,e,⟨⟨k,hk⟩,hz⟩,q⟩=>?_)
 subst e
 refine⟨_,(sc (si (twd (twor (cy (tv (cb dE T.ao aj (ac (dv 0) (ac (sN T.fv cR) an))))) (tw1 (cy (JW dm dm hr.units di (cb bG T.bz aP (ac (dv 0) an)) (dg (v:=.int 12) T.km ⟨_,rfl⟩ fun _=>aA _)))))) (s1 (sr db)) s0) (sc (si (cy (tv (cf ((gL T).mono (by decide)) hr T.bw.m T.bw.k T.bw.b d0 (ac (ix hr.units (dv 0) di) an)))) (s1 (sr db)) s0) (s1 (sr (cb fO T.f_ dh (ac (nI (N:=["sign"]) (src:=[none]) (md (af j8) ["thing"] rfl rfl (by trivial)) (vP (dv 0)) (px (show (["sign"]:List Str).Nodup by trivial)) (aK rfl) aL (fun _ _ _ _ _=>mf) (fun _ _ _ _ _=>(PZ (cf ((gL T).mono (by decide)) hr T.bw.m T.bw.k T.bw.b d0 (ac (dv 0) an)) (vL (cf ((ku T).mono (by decide)) hr T.cO.m T.cO.k T.cO.b d0 (ac (dv 0) an)))))) an)))))),?_⟩
 refine⟨_,rfl,_,_,_,_,rfl,cH,hk,_,rfl,?_⟩
 rcases r_ hk with ⟨z,rfl,h0⟩|⟨h0,h1⟩
 ·have hz:=hz z rfl
  rw[h0]
  refine ck ?_
  refine⟨_,rfl,_,rfl,⟨sm hz,?_⟩⟩
  refine⟨_,rfl,?_⟩
  have e1:decide ((1:Int)≤(z.length:Nat))=decide (1≤z.cps.size):=by rw[zK];show (1:Int)≤((z.cps.size:Nat):Int)↔_;omega
  have e2:decide (((z.length:Nat):Int)≤12)=decide (z.cps.size≤12):=by rw[zK];show ((z.cps.size:Nat):Int)≤12↔_;omega
  unfold ofStr iS at q
  dsimp only at q
  refine bg (fun h2=>?_) (fun h2=>?_)
  ·have vB:=e1.symm.trans h2
   rw[vB,zf] at q
   refine⟨_,rfl,?_⟩
   refine bg (fun h3=>?_) (fun h3=>?_)
   ·rw[e2.symm.trans (nt h3),zh,zh] at q
    exact fo q
   ·rw[e2.symm.trans (nf h3),zf] at q
    obtain⟨c,r,ec⟩:=len_pos (z:=z) (zz vB)
    have eh:z.cps.toList.head?.any isLet=isLet c:=by rw[ec];rfl
    rw[eh] at q
    refine⟨_,rfl,c,sm hz,Lh ec,c,rfl,_,rfl,?_⟩
    refine bg (fun h4=>?_) (fun h4=>?_)
    ·rw[nt h4,zh] at q
     exact fo q
    ·rw[nf h4,zf] at q
     refine i_ (f:=fun c=>isLet c || cG c) rfl hz (fun c hc Q hQ=>?_) q
     refine⟨_,rfl,c,rfl,_,rfl,?_⟩
     refine bg (fun h5=>?_) (fun h5=>?_)
     ·rw[h5,Bool.true_or] at hQ
      exact hQ
     ·rw[h5,yH] at hQ
      exact⟨_,rfl,c,rfl,hQ⟩
  ·rw[e1.symm.trans h2,zh,zh,zh] at q
   refine⟨_,rfl,?_⟩
   exact cL (fo q)
 ·rw[h0]
  rw[h1] at q
  exact cL (cL (fo q))
theorem oC(T:Txt w K mg t):Ok P w base T.fu 2 (Fn (ofStr dP)):=by
 refine T.fu.F.ok wk (by rintro ds S R Z ⟨d,e,_⟩;exact by rw[e];rfl) (fun bp A outer s H E ds S R Z hr ⟨d,e,⟨⟨k,hk⟩,hz⟩,q⟩=>?_)
 subst e
 refine⟨_,(sc (si (twd (twor (cy (tv (cb dE T.ao aj (ac (dv 0) (ac (sN T.fv cR) an))))) (tw1 (eS IA hr.units (cb bG T.bz aP (ac (dv 0) an)) (dg (v:=.int 40) T.jJ ⟨_,rfl⟩ fun _=>aA _))))) (s1 (sr db)) s0) (s1 (sr (cb fO T.f_ dh (ac (nI (N:=["sign"]) (src:=[none]) (md (af i8) ["thing"] rfl rfl (by trivial)) (vP (dv 0)) (px (show (["sign"]:List Str).Nodup by trivial)) (aK rfl) aL (fun _ _ _ _ _=>mf) (fun _ _ _ _ _=>(cc dm dm hr.units ds (dv 0) ds))) an))))),?_⟩
 refine⟨_,rfl,_,_,_,_,rfl,cH,hk,_,rfl,?_⟩
 rcases r_ hk with ⟨z,rfl,h0⟩|⟨h0,h1⟩
 ·have hz:=hz z rfl
  rw[h0]
  refine ck ?_
  refine⟨_,rfl,_,rfl,⟨sm hz,?_⟩⟩
  refine⟨_,rfl,?_⟩
  have e2:decide ((40:Int)<((z.length:Nat):Int))=!decide (z.cps.size≤40):=by
   rw[yj];simp only [decide_eq_true_iff,Bool.not_eq_true',decide_eq_false_iff_not];show (40:Int)<((z.cps.size:Nat):Int)↔_;omega
  unfold ofStr dP at q
  dsimp only at q
  refine bg (fun h3=>?_) (fun h3=>?_)
  ·rw[nt (e2.symm.trans h3),zh] at q
   exact fo q
  ·rw[nf (e2.symm.trans h3),zf] at q
   refine i_ (f:=oz) rfl hz (fun c hc Q hQ=>?_) q
   refine⟨_,rfl,_,rfl,?_⟩
   have e3:oY " " ⟨#[c]⟩=decide (32≤c):=br 32 c
   have e4:oY ⟨#[c]⟩ "~" = decide (c≤126):=br c 126
   unfold oz at hQ
   refine bg (fun h=>?_) (fun h=>?_)
   ·rw[e3.symm.trans h,zf,← e4] at hQ
    exact hQ
   ·rw[e3.symm.trans h,zh] at hQ
    exact hQ
 ·rw[h0]
  rw[h1] at q
  exact cL (cL (fo q))
theorem uJ(T:Txt w K mg t):Ok P w base T.iL 3 (fun ds S R _=>∃kind d,ds=[.str kind,d]∧Gt S d∧R (.bl (gf kind d)) S):=by
 refine T.iL.F.ok uF (by rintro ds S R Z ⟨d,d',e,_⟩;exact by rw[e];rfl) (fun bp A outer s H E ds S R Z hr ⟨kind,d,e,hd,q⟩=>?_)
 subst e
 refine⟨_,(sc (si (eS IB hr.units (dv 1) dn) (s1 (sr db)) s0) (sc (si (eS fG hr.units (dv 0) ds) (s1 (sr (cf ((uI T).mono (by decide)) hr T.iK.m T.iK.k T.iK.b d0 (ac (dv 1) an)))) s0) (s1 (sr (cf ((oC T).mono (by decide)) hr T.fu.m T.fu.k T.fu.b d0 (ac (dv 1) an)))))),?_⟩
 refine⟨_,rfl,_,rfl,?_⟩
 unfold gf at q
 refine bg (fun h=>?_) (fun h=>?_)
 ·rw[h,Bool.true_or] at q
  exact fo q
 ·rw[h,yH] at q
  refine⟨_,rfl,_,rfl,?_⟩
  refine bg (fun h=>?_) (fun h=>?_)
  ·rw[if_pos (zz h)] at q
   exact⟨_,rfl,d,rfl,hd,fo q⟩
  ·rw[if_neg (zU h)] at q
   exact⟨_,rfl,d,rfl,hd,fo q⟩
theorem gt_str(h:z.cps.size≤100000):Gt S (.str z):=⟨⟨.str,rfl⟩,fun y e=>by cases e;exact h⟩
def Ly(S:aQ)(n:Nat)(d:D):Prop:=∃p,Dp S d p∧p.canLay0=true∧p.depth≤n
theorem Ly.all:∀{ds:List D},(∀d∈ds,Ly S n d)→∃ps:List PyData,DpAll S ds ps∧PyData.canLayAll0 ps=true∧PyData.depthAll ps≤n∧ps.length=ds.length
 |[],_=>⟨[],by simp only [DpAll],rfl,yz _,rfl⟩
 |d::ds,h=>by
  obtain⟨p,h1,h2,h3⟩:=h d zx
  obtain⟨ps,k1,k2,k3,k4⟩:=Ly.all fun x hx=>h x (zu _ hx)
  refine⟨p::ps,by simp only [DpAll];exact⟨p,ps,rfl,h1,k1⟩,by simp only [PyData.canLayAll0,h2,k2,Bool.and_self],by simp only [PyData.depthAll];lia,by rw[zp,zp,k4]⟩
theorem Ly.tup{S:aQ}{n:Nat}{ds:List D}(h:∀d∈ds,Ly S n d):Ly S (n+1) (.tup ds):=by
 obtain⟨ps,k1,k2,k3,_⟩:=Ly.all h
 exact⟨.tuple ps,by simp only [Dp];exact⟨ps,rfl,k1⟩,by simp only [PyData.canLay0];exact k2,by simp only [PyData.depth];lia⟩
theorem Ly.str(h:PyData.strOk z=true):Ly S 0 (.str z):=⟨.str z,by simp only [Dp],by simp only [PyData.canLay0];exact h,by simp only [PyData.depth];lia⟩
theorem Ly.le(h:Ly S n d)(l:n≤m):Ly S m d:=by obtain⟨p,a,b,c⟩:=h;exact⟨p,a,b,zA c l⟩
theorem Ly.ax:Ly S 0 .ax:=⟨.none,by simp only [Dp],by simp only [PyData.canLay0],by simp only [PyData.depth];lia⟩
theorem Ly.dl(h:Ly S n d):∃p,Dl S d p∧p.canLay0=true∧p.depth≤n:=by
 obtain⟨p,a,b,c⟩:=h
 refine⟨p,?_,b,c⟩
 cases d with
 |ref x=>simp only [Dp] at a
 |_=>exact a
theorem eq_self(h:Ly S 64 d)(q:R (.bl (!neg)) S):JY neg d d S R:=by
 obtain⟨p,a,b,c⟩:=h.dl
 have e:(if neg then !PyData.eqv p p else PyData.eqv p p)=!neg:=by rw[SeqAt.eqv_refl p b];cases neg <;> rfl
 have ML:∃p q,Dl S d p∧Dl S d q∧p.canLay0=true∧q.canLay0=true∧(p.depth≤64∨q.depth≤64)∧R (.bl (if neg then !PyData.eqv p q else PyData.eqv p q)) S:=⟨p,p,a,a,b,b,.inl c,by rw[e];exact q⟩
 cases d with
 |int i=>show R (.bl (if neg then !decide (i=i) else decide (i=i))) S;rw[zy rfl];cases neg <;> exact q
 |str i=>show R (.bl (if neg then !decide (i=i) else decide (i=i))) S;rw[zy rfl];cases neg <;> exact q
 |_=>exact ML
theorem CZ(ps:List PyData):PyData.eqv (.list ps) (.list [])=ps.isEmpty:=by cases ps <;> simp [PyData.eqv,PyData.eqvAll]
theorem C3(ps:List PyData):PyData.eqv (.tuple ps) (.tuple [])=ps.isEmpty:=by cases ps <;> simp [PyData.eqv,PyData.eqvAll]
theorem fb:PyData.strOk z=true↔∀c∈z.cps.toList,c<1114112:=by
 unfold PyData.strOk
 rw[Array.all_eq_true']
 constructor
 ·intro h c hc;exact zz (h c (Array.mem_toList_iff.mp hc))
 ·intro h c hc;exact zy (h c (Array.mem_toList_iff.mpr hc))
def fk(z:Str):List Str:=Txt.split z " "
theorem iU(a:Str):∀l:List Str,Txt.join a l=a.join l
 |[]=>by rw[PyProof.Rows.join_nil];rfl
 |x::r=>PySem.StrLaws.glued_cons a r x
theorem oE(z:Str):((fk z).map (·.length)).sum+(fk z).length≤z.length+1:=PyProof.Rows.split_weight z " " (by decide)
theorem xK{l:List Nat}{x:Nat}(h:x∈l):x≤l.sum:=by
 induction l with
 |nil=>cases h
 |cons a l ih =>
  rw[List.sum_cons]
  rcases zd.mp h with e|h
  ·lia
  ·have:=ih h;lia
theorem xM(z:Str):(fk z).length≤z.length+1:=by have:=oE z;lia
theorem Fp(z:Str):1≤(fk z).length:=PyProof.Rows.split_pos z " "
theorem xN{z p:Str}(h:p∈fk z):p.length≤z.length:=by
 have h1:=xK (zl.mpr ⟨p,h,rfl⟩:p.length∈(fk z).map (·.length))
 have h2:=oE z
 have h3:1≤(fk z).length:=Fp z
 lia
theorem uK(z:Str):(" " : Str).join (fk z)=z:=PySem.StrLaws.join_split z " "
theorem Fq(z:Str):fk z=[("" : Str)]↔z = "" := by
 constructor
 ·intro h
  have:=uK z
  rw[h,PyProof.Rows.join_one] at this
  exact this.symm
 ·rintro rfl;decide +kernel
theorem xO(ha:PyData.strOk a=true)(h:∀p∈l,PyData.strOk p=true):PyData.strOk (Txt.join a l)=true:=by
 rw[iU,fb]
 intro c hc
 rw[PyProof.Rows.mem_join] at hc
 rcases hc with ⟨p,hp,hc⟩|⟨_,hc⟩
 ·exact fb.mp (h p hp) c hc
 ·exact fb.mp ha c hc
theorem uL(a:Str)(l:List Str):(Txt.join a l).length≤(l.map (·.length)).sum+l.length * a.length:=by
 rw[iU];exact PySem.StrLaws.join_length_le a l
theorem C4{l:List Str}{n:Nat}(h:∀p∈l,p.length≤n):(l.map (·.length)).sum≤l.length * n:=by
 induction l with
 |nil=>exact yz _
 |cons a l ih =>
  rw[zD,List.sum_cons,zp,Nat.succ_mul]
  have h1:=h a zx
  have h2:=ih fun p hp=>h p (zu _ hp)
  lia
theorem sf(a b:Str):eqV (.str a) (.str b)=decide (a=b):=by show (a == b)=_;by_cases h:a=b <;> simp [h]
theorem kx(z:Str):∀ws:List Str,uV (jO (.str z)) ((ws.map D.str).map jO)=decide (z∈ws)
 |[]=>rfl
 |w::ws=>by
  show (eqV (.str w) (.str z) || uV (jO (.str z)) ((ws.map D.str).map jO))=_
  rw[kx z ws,sf]
  by_cases h:w=z
  ·rw[zy h,Bool.true_or,zy (zd.mpr (.inl h.symm))]
  ·rw[zv h,yH,zK]
   exact⟨fun q=>zu _ q,fun q=>(zd.mp q).resolve_left fun e=>h e.symm⟩
theorem A4(ws:List Str):(ws.map D.str).all jW=true:=by
 rw[List.all_map];exact zJ.mpr fun _ _=>rfl
def brk(ws:List Str):Bool:=decide (("(" : Str)∈ws) || decide ((")" : Str)∈ws)
theorem i0(h:i<xs.length):gP xs ((i:Nat):Int)=xs[i]?:=by
 unfold gP Bw
 rw[if_pos (by lia),if_pos (by lia)];rfl
theorem kz(h:k≤xs.length)(h1:1≤k):gP xs (-((k:Nat):Int))=xs[xs.length - k]?:=by
 unfold gP Bw
 rw[if_neg (by lia),if_pos (by lia)]
 have:(-((k:Nat):Int)+(xs.length:Int)).toNat=xs.length - k:=by lia
 rw[this];rfl
theorem lW{ws:List Str}{i:Nat}(h:i<ws.length):(ws.map D.str)[i]?=some (.str (ws.getD i "")):=by
 rw[zQ,zH,zO h];rfl
theorem xP(l:List α)(h:b≤l.length)(h1:a≤b):ar l (some ((a:Nat):Int)) (some ((b:Nat):Int))=(l.drop a).take (b - a):=by
 unfold ar
 rw[HT.sIx_nat,HT.sIx_nat,Nat.min_eq_left h,Nat.min_eq_left (by lia)]
theorem sh{ws:List Str}{a:Nat}(h:a<ws.length):ws.drop a=ws.getD a "" :: ws.drop (a+1):=by
 rw[List.drop_eq_getElem_cons h,zH,zO h];rfl
theorem take2{ws:List Str}{a:Nat}(h:a+2≤ws.length):(ws.drop a).take 2=[ws.getD a "",ws.getD (a+1) ""]:=by
 rw[sh (by lia),zP,sh (by lia),zP,yt]
theorem take3{ws:List Str}{a:Nat}(h:a+3≤ws.length):(ws.drop a).take 3=[ws.getD a "",ws.getD (a+1) "",ws.getD (a+2) ""]:=by
 rw[sh (by lia),zP,take2 (by lia)]
theorem xQ:∀{l:List α}{x y:α},(l.map f).Nodup→x∈l→y∈l→f x=f y→x=y
 |z::l,x,y,nd,hx,hy,e=>by
  rw[zD] at nd
  obtain⟨n1,n2⟩:=yB.mp nd
  rcases zd.mp hx with ex|LB
  ·rcases zd.mp hy with ey|QQ
   ·rw[ex,ey]
   ·exact absurd (zl.mpr ⟨y,QQ,by rw[← e,ex]⟩) n1
  ·rcases zd.mp hy with ey|QQ
   ·exact absurd (zl.mpr ⟨x,LB,by rw[e,ey]⟩) n1
   ·exact xQ n2 LB QQ e
def rz(cs:List (Str×Str)):D→D
 |.str z=>match cs.find? (fun c=>decide (c.1=z)) with|some c=>.str c.2|none=>.ax
 |_=>.ax
theorem oF(hg:Gd cs)(h:(z,k)∈cs):rz cs (.str z)=.str k:=by
 unfold rz
 cases e:cs.find? (fun c=>decide (c.1=z)) with
 |none=>exact absurd (zy rfl) (List.find?_eq_none.mp e _ h)
 |some c =>
  have h0:decide (c.1=z)=true:=List.find?_some (p:=fun c:Str×Str=>decide (c.1=z)) e
  have h1:c.1=z:=zz h0
  have:=xQ hg.2.1 (List.mem_of_find?_eq_some e) h h1
  subst this
  dsimp only
  rw[e]
theorem sj(h:z∉cs.map Prod.fst):rz cs (.str z)=.ax:=by
 unfold rz
 dsimp only
 rw[List.find?_eq_none.mpr fun c hc e=>h (zl.mpr ⟨c,hc,zz e⟩)]
theorem Fs(hg:Gd cs)(z:Str):jB (rz cs (.str z))=!decide (z∈cs.map Prod.fst):=by
 by_cases h:z∈cs.map Prod.fst
 ·obtain⟨c,hc,rfl⟩:=zl.mp h
  rw[oF hg (k:=c.2) hc,zy h];rfl
 ·rw[sj h,zv h];rfl
theorem gM(l:List (Str×D))(z:Str)(h:cS (dS l) (.inr z)=some d):∃p∈l,p.1=z∧d=p.2:=by
 have all:∀(l:List (Str×D)) (c:List (Key×D)),cS (l.foldl (fun c p=>dput c (.inr p.1) p.2) c) (.inr z)=some d→(∃p∈l,p.1=z∧d=p.2)∨cS c (.inr z)=some d:=by
  intro l
  induction l with
  |nil=>intro c h;exact .inr h
  |cons p l ih =>
   intro c h
   rcases ih _ h with ⟨q,hq,e⟩|h
   ·exact .inl ⟨q,zu _ hq,e⟩
   ·rw[t4] at h
    by_cases e:(.inr z:Key)=.inr p.1
    ·rw[if_pos e] at h;exact .inl ⟨p,zx,(Sum.inr.inj e).symm,(zV h).symm⟩
    ·rw[if_neg e] at h;exact .inr h
 rcases all l [] h with h|h
 ·exact h
 ·cases h
def GJ(p:Str×Str×Str):Prop:=p.1.cps.size≤100000∧p.2.1.cps.size≤100000∧p.2.2.cps.size≤100000
def Jf:qD:=fun ds S R _=>∃cs d,ds=[.tup (cs.map aH),d]∧Gd cs∧Gt S d∧R (rz cs d) S
theorem ju(T:Txt w K mg t):Ok P w base T.bN 3 Jf:=by
 refine T.bN.F.NV qd ?_
 rintro _ _ _ _ _ _ ds S R Z hr ⟨cs,d,e,hg,hz,q⟩
 subst e
 refine⟨_,(sc (si (cy (tv (cf ((wt T).mono (by decide)) hr T.kf.m T.kf.k T.kf.b d0 (ac (dv 1) an)))) (s1 (sr dn)) s0) (s1 (sr (Up hr.units (ct vQ T.we rj (ac (dv 0) an)) (dv 1))))),?_⟩
 refine⟨_,rfl,d,rfl,hz,_,rfl,?_⟩
 refine bg (fun h=>?_) (fun h=>?_)
 ·have h:ofStr gR d=false:=nt h
  have e:rz cs d=.ax:=by
   cases d with
   |str z =>
    refine sj fun m=>?_
    obtain⟨c,hc,rfl⟩:=zl.mp m
    have h:gR c.1=false:=h
    rw[(hg.2.2 c hc).1] at h;cases h
   |_=>rfl
  rw[e] at q
  exact fo q
 ·have h:ofStr gR d=true:=nf h
  cases d with
  |str z =>
   have ek:cs.map aH=(cs.map fun c=>(c.1,D.str c.2)).map tZ:=by rw[zC];rfl
   refine⟨_,rfl,(cs.map fun c=>(c.1,D.str c.2)),by rw[ek],fun p hp=>⟨p,_,rfl,ae,_,rfl,_,.inr z,ae,rfl,S,.new hp,?_⟩⟩
   have h1:=k_ (cs.map fun c=>(c.1,D.str c.2)) z
   cases q3:cS (dS (cs.map fun c=>(c.1,D.str c.2))) (.inr z) with
   |none =>
    rw[q3] at h1
    rw[sj fun m=>?_] at q
    ·exact q
    obtain⟨c,hc,e⟩:=zl.mp m
    have:(cs.map fun c=>(c.1,D.str c.2)).any (fun p=>decide (p.1=z))=true:=List.any_eq_true.mpr ⟨_,zl.mpr ⟨c,hc,rfl⟩,zy e⟩
    rw[this] at h1;cases h1
   |some d =>
    obtain⟨p,hp,e1,rfl⟩:=gM _ _ q3
    obtain⟨c,hc,rfl⟩:=zl.mp hp
    have e1:c.1=z:=e1
    rw[oF hg (k:=c.2) (by rw[← e1];exact hc)] at q
    exact q
  |_=>cases h
def wu(d:D):Prop:=d=.ax∨(∃n:Int,d=.int n∧n.natAbs<10 ^ 60)∨∃z:Str,d=.str z∧dP z=true
def bV:D→Str
 |.int n => "#" ++ bZ n
 |.str z => "\"" ++ vS z
 |_ => "-"
theorem str1(c:Nat)(z s:Str)(h:s=⟨#[c]⟩):(s++z).cps.toList=c::z.cps.toList:=by rw[fj,h];rfl
theorem ja(n:Int):(bV (.int n)).cps.toList=35::(bZ n).cps.toList:=str1 35 _ _ (by trivial)
theorem gN(z:Str):(bV (.str z)).cps.toList=34::(vS z).cps.toList:=str1 34 _ _ (by trivial)
theorem qL:("#" : Str)=⟨#[35]⟩:=by trivial
theorem C5:("\"" : Str)=⟨#[34]⟩:=by trivial
theorem fA:("-" : Str)=⟨#[45]⟩:=by trivial
theorem Ft(l:List Nat):(bB 32 [61,98] (bB 61 [61,101] l)).length≤2 * l.length:=by
 induction l with
 |nil=>exact zk _
 |cons c l ih =>
  rw[aY 61]
  by_cases h:c=61
  ·rw[if_pos h,cU,ze,show (bB 32 [61,98] [61,101]).length=2 from rfl,zp];lia
  ·rw[if_neg h,cU,ze,zp]
   have:(bB 32 [61,98] [c]).length≤2:=by
    rw[aY]
    by_cases h2:c=32
    ·rw[if_pos h2];exact zk _
    ·rw[if_neg h2];show 1≤2;decide
   lia
theorem Fu(l:List Nat):∀c∈bB 32 [61,98] (bB 61 [61,101] l),c≠32∧(c=61∨c=98∨c=101∨c∈l):=by
 induction l with
 |nil=>exact fun _ h=>(nomatch h)
 |cons d l ih =>
  intro c hc
  rw[aY 61] at hc
  have tl:c∈bB 32 [61,98] (bB 61 [61,101] l)→c≠32∧(c=61∨c=98∨c=101∨c∈d::l):=fun h=>by
   obtain⟨a,b⟩:=ih c h
   refine⟨a,?_⟩
   rcases b with b|b|b|b
   ·exact .inl b
   ·exact .inr (.inl b)
   ·exact .inr (.inr (.inl b))
   ·exact .inr (.inr (.inr (zu _ b)))
  by_cases h:d=61
  ·rw[if_pos h,cU,show bB 32 [61,98] [61,101]=[61,101] from rfl] at hc
   rcases zW.mp hc with hc|hc
   ·simp only [zd,zq,or_false] at hc
    rcases hc with rfl|rfl
    ·exact⟨by decide,.inl rfl⟩
    ·exact⟨by decide,.inr (.inr (.inl rfl))⟩
   ·exact tl hc
  ·rw[if_neg h,cU] at hc
   rcases zW.mp hc with hc|hc
   ·rw[aY] at hc
    by_cases h2:d=32
    ·rw[if_pos h2] at hc
     have hc:c∈[61,98]:=by simpa [bB] using hc
     simp only [zd,zq,or_false] at hc
     rcases hc with rfl|rfl
     ·exact⟨by decide,.inl rfl⟩
     ·exact⟨by decide,.inr (.inl rfl)⟩
    ·rw[if_neg h2] at hc
     have hc:c=d:=by simpa [bB] using hc
     subst hc
     exact⟨h2,.inr (.inr (.inr zx))⟩
   ·exact tl hc
theorem oG(z:Str):(vS z).cps.size≤2 * z.cps.size:=by rw[ag,ag,nN];exact Ft _
theorem fc(h:dP z=true):z.cps.size≤40∧∀c∈z.cps.toList,32≤c∧c≤126:=by
 unfold dP at h
 rw[zj,zt,zJ] at h
 refine⟨h.1,fun c hc=>?_⟩
 have:=h.2 c hc
 unfold oz at this
 rw[zj,zt,zt] at this
 exact this
theorem Jg(h:wu d):(bV d).cps.size≤90∧PyData.strOk (bV d)=true∧32∉(bV d).cps.toList:=by
 rcases h with rfl|⟨n,rfl,hn⟩|⟨z,rfl,hz⟩
 ·exact⟨by trivial,by trivial,by trivial⟩
 ·have hs:=jZ hn
  have hc:=qJ n
  refine⟨?_,fb.mpr ?_,?_⟩
  ·rw[ag,ja,zp,← ag];lia
  ·rw[ja]
   intro c h
   rcases zd.mp h with rfl|h
   ·decide
   ·have:=hc c h;lia
  ·rw[ja]
   intro h
   rcases zd.mp h with h|h
   ·exact absurd h (by decide)
   ·have:=hc 32 h;lia
 ·obtain⟨h1,h2⟩:=fc hz
  have hs:=oG z
  have hm:=Fu z.cps.toList
  rw[← nN] at hm
  refine⟨?_,fb.mpr ?_,?_⟩
  ·rw[ag,gN,zp,← ag];lia
  ·rw[gN]
   intro c h
   rcases zd.mp h with rfl|h
   ·decide
   ·rcases (hm c h).2 with rfl|rfl|rfl|h
    ·decide
    ·decide
    ·decide
    ·have:=h2 c h;lia
  ·rw[gN]
   intro h
   rcases zd.mp h with h|h
   ·exact absurd h (by decide)
   ·exact (hm 32 h).1 rfl
def mm(l:List Nat):Bool:=decide (l=[48]) || !decide (l.head?=some 48)
def mI(l:List Nat)(most:Nat):Bool:=if l.head?=some 45 then bK (l.drop 1) most && (!decide (l.drop 1=[48]) && mm (l.drop 1)) else bK l most && mm l
def fe(l:List Nat):Bool:=if l.head?=some 35 then mI (l.drop 1) 60 else if l.head?=some 34 then Cv (l.drop 1) else decide (l=[45])
def Told(z:Str)(d:D):Prop:=(z = "-" ∧ d=.ax)∨(z.cps.toList.head?=some 35∧∃n:Int,n.natAbs<10 ^ 60∧intText? (Txt.slice z (some 1) none)=some n∧(Txt.slice z (some 1) none).cps.size≤61∧d=.int n)∨(z.cps.toList.head?=some 34∧d=.str (xB (Txt.slice z (some 1) none)))
theorem aZ{z:Str}{c:Nat}(h:z.cps.toList.head?=some c):1≤z.cps.size:=by
 rw[ag]
 cases e:z.cps.toList with
 |nil=>rw[e] at h;cases h
 |cons a l=>exact Nat.le_add_left _ _
theorem head_drop(h:l.head?=some c):l=c::l.drop 1:=by
 cases l with
 |nil=>cases h
 |cons a l=>cases h;rfl
theorem C6(hm:most≤60)(h:mI z.cps.toList most=true):∃n:Int,intText? z=some n∧n.natAbs<10 ^ 60∧z.cps.size≤61:=by
 unfold mI at h
 by_cases hh:z.cps.toList.head?=some 45
 ·rw[if_pos hh,zj] at h
  obtain⟨n,h1,h2,_⟩:=lu (head_drop hh) hm h.1
  have:=(eE h.1).2.1
  exact⟨n,h1,h2,by rw[ag,head_drop hh,zp];lia⟩
 ·rw[if_neg hh,zj] at h
  obtain⟨n,h1,h2,_⟩:=nR hm h.1
  have:=(eE h.1).2.1
  exact⟨n,h1,h2,by rw[ag];lia⟩
theorem jb(h:fe z.cps.toList=true):∃d,Told z d∧wu d:=by
 unfold fe at h
 by_cases h1:z.cps.toList.head?=some 35
 ·rw[if_pos h1,← xh (aZ h1)] at h
  obtain⟨n,a,b,c⟩:=C6 (by decide) h
  exact⟨.int n,.inr (.inl ⟨h1,n,b,a,c,rfl⟩),.inr (.inl ⟨n,rfl,b⟩)⟩
 ·rw[if_neg h1] at h
  by_cases h2:z.cps.toList.head?=some 34
  ·rw[if_pos h2,← xh (aZ h2)] at h
   refine⟨_,.inr (.inr ⟨h2,rfl⟩),.inr (.inr ⟨_,rfl,?_⟩)⟩
   unfold Cv at h
   simp only [zj,zt] at h
   unfold dP oz
   rw[zj,zt,ag,mQ]
   exact⟨h.2.1,h.2.2⟩
  ·rw[if_neg h2,zt] at h
   exact⟨.ax,.inl ⟨lg (by rw[h,fA]),rfl⟩,.inl rfl⟩
theorem jv(T:Txt w K mg t):Ok P w base T.bO 1 (fun ds S R _=>∃d,ds=[d]∧wu d∧R (.str (bV d)) S):=by
 refine T.bO.F.ok qg (by rintro ds S R Z ⟨_,e,_⟩;exact by rw[e];rfl) (fun bp A outer s H E ds S R Z hr ⟨d,e,hd,q⟩=>?_)
 subst e
 refine⟨_,(sc (si (eS IB hr.units (dv 0) dn) (s1 (sr ds)) s0) (sc (si (tv (cb dE T.ao aj (ac (dv 0) (ac (sN T.fv cR) an)))) (s1 (sr (ga (gr (gr (g1 (dv 0)))) hr.units))) s0) (s1 (sr (bo au hr.units ds (ct t5 T.fv cR (ac (dv 0) an))))))),?_⟩
 rcases hd with rfl|⟨n,rfl,hn⟩|⟨z,rfl,hz⟩
 ·exact⟨_,rfl,_,rfl,cL (fo q)⟩
 ·refine⟨_,rfl,_,rfl,ck ⟨_,rfl,_,_,_,_,rfl,cH,rfl,_,rfl,ck ⟨_,rfl,n,rfl,lq hn,sm ?_,fo q⟩⟩⟩
  have:=jZ hn
  show 1+(bZ n).cps.size≤_
  lia
 ·obtain⟨h1,_⟩:=fc hz
  refine⟨_,rfl,_,rfl,ck ⟨_,rfl,_,_,_,_,rfl,cH,rfl,_,rfl,cL ⟨_,rfl,z,rfl,?_,_,rfl,?_,sm ?_,fo q⟩⟩⟩
  ·show z.cps.size+(z.cps.size+1) * 2≤_;lia
  ·have:(Txt.replace z "=" "=e").cps.size≤2 * z.cps.size:=by
    rw[ag,ag,show ("=" : Str)=⟨#[61]⟩ by trivial,rep1]
    generalize z.cps.toList=l
    rw[show ("=e" : Str).cps.toList=[61,101] by trivial]
    induction l with
    |nil=>exact zk _
    |cons c l ih =>
     rw[aY,ze,zp]
     by_cases h:c=61
     ·rw[if_pos h];show 2+_≤_;lia
     ·rw[if_neg h];show 1+_≤_;lia
   show (Txt.replace z "=" "=e").cps.size+((Txt.replace z "=" "=e").cps.size+1) * 2≤_
   lia
  ·have:=oG z
   show 1+(vS z).cps.size≤_
   lia
theorem xR(hy:y.cps.toList.length≤2):(Txt.replace z ⟨#[a,b]⟩ y).cps.size≤2 * z.cps.size:=by
 rw[ag,ag,nM]
 have:∀(n:Nat) (l:List Nat),l.length≤n→(rep2 a b y.cps.toList l).length≤2 * l.length:=by
  intro n
  induction n with
  |zero=>intro l hl;rw[List.eq_nil_of_length_eq_zero (Nat.le_zero.mp hl)];exact zk _
  |succ n ih =>
   intro l hl
   match l with
   |[]=>exact zk _
   |[x] =>
    rw[rep2]
    ·simp
    ·intro _ _ _ h;cases h
   |x::u::r =>
    by_cases h:x=a∧u=b
    ·rw[h.1,h.2,jY,ze]
     have:=ih r (by simp at hl;lia)
     simp only [zp] at *;lia
    ·rw[rep2,if_neg h]
     have:=ih (u::r) (by simp at hl ⊢;lia)
     simp only [zp] at *;lia
 exact this _ _ (zk _)
theorem du(T:Txt w K mg t):Ok P w base T.aC 1 (fun ds S R _=>∃z d,ds=[.str z]∧z.cps.size≤90000∧Told z d∧R d S):=by
 refine T.aC.F.ok lR (by rintro ds S R Z ⟨_,_,e,_⟩;exact by rw[e];rfl) (fun bp A outer s H E ds S R Z hr ⟨z,d,e,hz,ht,q⟩=>?_)
 subst e
 refine⟨_,(sc (si (eS fG hr.units (dv 0) ds) (s1 (sr dn)) s0) (sc (si (tv (bm zF PySem.F.slot_str_startswith PySem.F.type_str_startswith iz (dv 0) (ac ds an))) (s1 (sr (ct nK T.mi iq (ac (sl (dv 0) (o1 di) o0) an)))) s0) (s1 (sr (gd (gr (gr (gs (dv 0))))))))),?_⟩
 have sP:z.length≤sizeLine:=sm (by show z.cps.size≤_;lia)
 rcases ht with ⟨rfl,rfl⟩|⟨h1,n,hn,Ij,Fv,rfl⟩|⟨h1,rfl⟩
 ·exact⟨_,rfl,_,rfl,bg (fun _=>fo q) (fun h=>by
   have h:decide (("-" : Str) = "-")=false:=h
   exact absurd rfl (zU h))⟩
 ·refine⟨_,rfl,_,rfl,bg (fun h=>?_) (fun _=>?_)⟩
  ·have h:z = "-" := zz h
   rw[h,fA] at h1;cases h1
  refine⟨_,rfl,rfl,_,_,rfl,rfl,_,rfl,?_⟩
  rw[show Txt.startswith z "#" = true by rw[qL,eD,zy h1]]
  exact cL ⟨_,rfl,_,rfl,sP,_,n,rfl,Ij,zA Fv (by decide),fo q⟩
 ·refine⟨_,rfl,_,rfl,bg (fun h=>?_) (fun _=>?_)⟩
  ·have h:z = "-" := zz h
   rw[h,fA] at h1;cases h1
  refine⟨_,rfl,rfl,_,_,rfl,rfl,_,rfl,?_⟩
  rw[show Txt.startswith z "#" = false by rw[qL,eD,h1];rfl]
  have EO:(Txt.slice z (some 1) none).cps.size≤90000:=by rw[ag,xh (aZ h1),zB,← ag];lia
  have l_:(Txt.replace (Txt.slice z (some 1) none) "=b" " ").cps.size≤180000:=by
   rw[show ("=b" : Str)=⟨#[61,98]⟩ by trivial]
   exact zA (xR (by trivial)) (by lia)
  refine ck ⟨_,rfl,sP,_,rfl,?_,_,rfl,?_,fo q⟩
  ·show (Txt.slice z (some 1) none).cps.size+((Txt.slice z (some 1) none).cps.size+1) * 1≤_;lia
  ·show (Txt.replace (Txt.slice z (some 1) none) "=b" " ").cps.size+((Txt.replace (Txt.slice z (some 1) none) "=b" " ").cps.size+1) * 1≤_
   lia
theorem fB(T:Txt w K mg t):Ok P w base T.aS 2 (fun ds S R _=>∃(z:Str) (m:Nat),ds=[.str z,.int (m:Nat)]∧z.cps.size≤90000∧m≤60∧R (.bl (mI z.cps.toList m)) S):=by
 refine T.aS.F.ok fz (by rintro ds S R Z ⟨_,_,e,_⟩;exact by rw[e];rfl) (fun bp A outer s H E ds S R Z hr ⟨z,m,e,hz,hm,q⟩=>?_)
 subst e
 have sP:z.length≤sizeLine:=sm (by show z.cps.size≤_;lia)
 refine⟨_,(sc (cT (i:=2) fz.nd (Ug (tv (bm zF PySem.F.slot_str_startswith PySem.F.type_str_startswith iz (dv 0) (ac ds an))) (sl (dv 0) (o1 di) o0) (dv 0))) (sc (si (twd (twor (cy (JW dm dm hr.units di (cb bG T.bz aP (ac (dv 2) an)) (dv 1))) (tw1 (cy (tv (cb fO T.f_ dh (ac (nI (N:=["sign"]) (src:=[none]) (md (af cg) ["text","most","figures"] rfl rfl (by trivial)) (vP (dv 2)) (px (show (["sign"]:List Str).Nodup by trivial)) (aK rfl) aL (fun _ _ _ _ _=>mf) (fun _ _ _ _ _=>(cf ((ku T).mono (by decide)) hr T.cO.m T.cO.k T.cO.b d0 (ac (dv 0) an)))) an))))))) (s1 (sr db)) s0) (s1 (sr (cm fG hr.units (ct t5 T.fv cR (ac (ct nK T.mi iq (ac (dv 0) an)) an)) (dv 0)))))),?_⟩
 refine⟨_,rfl,rfl,_,_,rfl,rfl,_,rfl,?_⟩
 unfold mI at q
 by_cases hh:z.cps.toList.head?=some 45
 ·rw[if_pos hh,← xh (aZ hh)] at q
  rw[show Txt.startswith z "-" = true by rw[fA,eD,zy hh]]
  refine cL ⟨_,rfl,_,rfl,sP,?_⟩
  have R3:(Txt.slice z (some 1) none).cps.size≤90000:=by rw[ag,xh (aZ hh),zB,← ag];lia
  have hint:bK (Txt.slice z (some 1) none).cps.toList m=true→∃n:Int,intText? z=some n∧n.natAbs<10 ^ 60∧z.length≤640∧decide (bZ n=z)=(!decide ((Txt.slice z (some 1) none).cps.toList=[48]) && mm (Txt.slice z (some 1) none).cps.toList):=fun hd=>by
   have e:=head_drop hh
   rw[← xh (aZ hh)] at e
   obtain⟨n,a,b,c⟩:=lu e hm hd
   have hl:=(eE hd).2.1
   exact⟨n,a,b,by show z.cps.size≤_;rw[ag,e,zp];lia,c⟩
  generalize Txt.slice z (some 1) none=f at q R3 hint ⊢
  refine⟨_,rfl,_,rfl,sm (by show f.cps.size≤_;lia),_,rfl,?_⟩
  have e1:decide ((1:Int)≤((f.length:Nat):Int))=decide (1≤f.cps.toList.length):=by rw[zK,← ag];show (1:Int)≤((f.cps.size:Nat):Int)↔_;lia
  have e2:decide (((f.length:Nat):Int)≤((m:Nat):Int))=decide (f.cps.toList.length≤m):=by rw[zK,← ag];show ((f.cps.size:Nat):Int)≤_↔_;lia
  refine bg (fun h2=>?_) (fun h2=>?_)
  ·have vB:=e1.symm.trans h2
   refine⟨_,rfl,_,rfl,?_⟩
   refine bg (fun h3=>?_) (fun h3=>?_)
   ·have hd:bK f.cps.toList m=false:=by unfold bK;rw[vB,e2.symm.trans (nt h3)];rfl
    rw[hd,zh] at q
    exact fo q
   ·have MM:=e2.symm.trans (nf h3)
    refine⟨_,rfl,f,rfl,?_⟩
    refine comp_map (I:=⟨aN f,fun _=>True⟩) (d_ cG) trivial (by show (aN f).length≤_;unfold aN;rw[zb,zR];lia) (fun d hd Q hQ=>?_) fun p hp=>?_
    ·obtain⟨c,hc,rfl⟩:=gi hd
     exact⟨_,rfl,c,rfl,by simpa [d_] using hQ⟩
    refine⟨.ref p,f.cps.toList.map cG,rfl,(show (S.set p (.lst ((aN f).map (d_ cG)))) p=_ by rw[ae,gj]),_,rfl,?_⟩
    have ed:bK f.cps.toList m=(f.cps.toList.map cG).all id:=by
     unfold bK
     rw[vB,MM,zf,zf,all_map];rfl
    rw[← ed]
    cases hd:bK f.cps.toList m with
    |false =>
     rw[hd,zh] at q
     exact cL ⟨S,.new hp,q⟩
    |true =>
     rw[hd,zf] at q
     obtain⟨n,a,b,c,d⟩:=hint hd
     rw[← d] at q
     exact ck ⟨_,rfl,_,n,rfl,a,c,n,rfl,lq b,_,rfl,S,.new hp,q⟩
  ·have hd:bK f.cps.toList m=false:=by unfold bK;rw[e1.symm.trans h2];rfl
   rw[hd,zh] at q
   refine⟨_,rfl,?_⟩
   exact cL (fo q)
 ·rw[if_neg hh] at q
  rw[show Txt.startswith z "-" = false by rw[fA,eD,zv hh]]
  refine ck ⟨_,rfl,?_⟩
  have hint:bK z.cps.toList m=true→∃n:Int,intText? z=some n∧n.natAbs<10 ^ 60∧z.length≤640∧decide (bZ n=z)=mm z.cps.toList:=fun hd=>by
   obtain⟨n,a,b,c⟩:=nR hm hd
   have hl:=(eE hd).2.1
   exact⟨n,a,b,by show z.cps.size≤_;rw[ag];lia,c⟩
  obtain⟨f,hf⟩:∃f,f=z:=⟨z,rfl⟩
  have R3:f.cps.size≤90000:=by rw[hf];exact hz
  rw[← hf] at q
  have hint:bK f.cps.toList m=true→∃n:Int,intText? z=some n∧n.natAbs<10 ^ 60∧z.length≤640∧decide (bZ n=z)=mm f.cps.toList:=by rw[hf];exact hint
  subst hf
  refine⟨_,rfl,_,rfl,sm (by show f.cps.size≤_;lia),_,rfl,?_⟩
  have e1:decide ((1:Int)≤((f.length:Nat):Int))=decide (1≤f.cps.toList.length):=by rw[zK,← ag];show (1:Int)≤((f.cps.size:Nat):Int)↔_;lia
  have e2:decide (((f.length:Nat):Int)≤((m:Nat):Int))=decide (f.cps.toList.length≤m):=by rw[zK,← ag];show ((f.cps.size:Nat):Int)≤_↔_;lia
  refine bg (fun h2=>?_) (fun h2=>?_)
  ·have vB:=e1.symm.trans h2
   refine⟨_,rfl,_,rfl,?_⟩
   refine bg (fun h3=>?_) (fun h3=>?_)
   ·have hd:bK f.cps.toList m=false:=by unfold bK;rw[vB,e2.symm.trans (nt h3)];rfl
    rw[hd,zh] at q
    exact fo q
   ·have MM:=e2.symm.trans (nf h3)
    refine⟨_,rfl,f,rfl,?_⟩
    refine comp_map (I:=⟨aN f,fun _=>True⟩) (d_ cG) trivial (by show (aN f).length≤_;unfold aN;rw[zb,zR];lia) (fun d hd Q hQ=>?_) fun p hp=>?_
    ·obtain⟨c,hc,rfl⟩:=gi hd
     exact⟨_,rfl,c,rfl,by simpa [d_] using hQ⟩
    refine⟨.ref p,f.cps.toList.map cG,rfl,(show (S.set p (.lst ((aN f).map (d_ cG)))) p=_ by rw[ae,gj]),_,rfl,?_⟩
    have ed:bK f.cps.toList m=(f.cps.toList.map cG).all id:=by
     unfold bK
     rw[vB,MM,zf,zf,all_map];rfl
    rw[← ed]
    cases hd:bK f.cps.toList m with
    |false =>
     rw[hd,zh] at q
     exact cL ⟨S,.new hp,q⟩
    |true =>
     rw[hd,zf] at q
     obtain⟨n,a,b,c,d⟩:=hint hd
     rw[← d] at q
     exact ck ⟨_,rfl,_,n,rfl,a,c,n,rfl,lq b,_,rfl,S,.new hp,q⟩
  ·have hd:bK f.cps.toList m=false:=by unfold bK;rw[e1.symm.trans h2];rfl
   rw[hd,zh] at q
   refine⟨_,rfl,?_⟩
   exact cL (fo q)
theorem xS(hy:y.length≤2):∀(n:Nat) (l:List Nat),l.length≤n→(rep2 a b y l).length≤l.length:=by
 intro n
 induction n with
 |zero=>intro l hl;rw[List.eq_nil_of_length_eq_zero (Nat.le_zero.mp hl)];exact zk _
 |succ n ih =>
  intro l hl
  match l with
  |[]=>exact zk _
  |[x] =>
   rw[rep2]
   ·exact zk _
   ·intro _ _ _ h;cases h
  |x::u::r =>
   by_cases h:x=a∧u=b
   ·rw[h.1,h.2,jY,ze]
    have:=ih r (by simp at hl;lia)
    simp only [zp] at *;lia
   ·rw[rep2,if_neg h]
    have:=ih (u::r) (by simp at hl ⊢;lia)
    simp only [zp] at *;lia
theorem Fw(z:Str):(xB z).cps.size≤z.cps.size:=by
 rw[ag,ag,mQ]
 exact zA (xS (by decide) _ _ (zk _)) (xS (by decide) _ _ (zk _))
theorem oH(z:Str):decide (z = "-")=decide (z.cps.toList=[45]):=by
 rw[zK,fA]
 exact⟨fun h=>by rw[h],fun h=>lg h⟩
theorem C7(z:Str)(h:z.cps.toList.head?=some 34):Cv (z.cps.toList.drop 1)=(dP (xB (Txt.slice z (some 1) none)) && decide (bV (.str (xB (Txt.slice z (some 1) none)))=z)):=by
 have hs:=xh (aZ h)
 have e:decide (bV (.str (xB (Txt.slice z (some 1) none)))=z)=decide (j5 (AA (z.cps.toList.drop 1))=z.cps.toList.drop 1):=by
  rw[zK]
  have hl:(bV (.str (xB (Txt.slice z (some 1) none)))).cps.toList=34::j5 (AA (z.cps.toList.drop 1)):=by
   rw[gN,nN,mQ,hs];rfl
  constructor
  ·intro q
   rw[q,head_drop h] at hl
   injection hl with _ hl
   exact hl.symm
  ·intro q
   refine lg ?_
   rw[hl,q,← head_drop h]
 have e2:dP (xB (Txt.slice z (some 1) none))=(decide ((AA (z.cps.toList.drop 1)).length≤40) && (AA (z.cps.toList.drop 1)).all fun c=>decide (32≤c) && decide (c≤126)):=by
  unfold dP oz
  rw[ag,mQ,hs];rfl
 rw[e,e2,Bool.and_comm]
 rfl
theorem lX(T:Txt w K mg t):Ok P w base T.cE 3 (fun ds S R _=>∃z,ds=[.str z]∧z.cps.size≤90000∧R (.bl (fe z.cps.toList)) S):=by
 refine T.cE.F.ok lQ (by rintro ds S R Z ⟨_,e,_⟩;exact by rw[e];rfl) (fun bp A outer s H E ds S R Z hr ⟨z,e,hz,q⟩=>?_)
 subst e
 have sP:z.length≤sizeLine:=sm (by show z.cps.size≤_;lia)
 refine⟨_,(sc (si (tv (bm zF PySem.F.slot_str_startswith PySem.F.type_str_startswith iz (dv 0) (ac ds an))) (s1 (sr (cf ((fB T).mono (by decide)) hr T.aS.m T.aS.k T.aS.b d0 (ac (sl (dv 0) (o1 di) o0) (ac (dg (v:=.int 60) T.gI ⟨_,rfl⟩ fun _=>aA _) an))))) s0) (sc (si (tv (bm zF PySem.F.slot_str_startswith PySem.F.type_str_startswith iz (dv 0) (ac ds an))) (s1 (sr (jA (cf ((oC T).mono (by decide)) hr T.fu.m T.fu.k T.fu.b d0 (ac (cf ((du T).mono (by decide)) hr T.aC.m T.aC.k T.aC.b d0 (ac (dv 0) an)) an)) (vL (cm fG hr.units (cf ((jv T).mono (by decide)) hr T.bO.m T.bO.k T.bO.b d0 (ac (cf ((du T).mono (by decide)) hr T.aC.m T.aC.k T.aC.b d0 (ac (dv 0) an)) an)) (dv 0)))))) s0) (s1 (sr (cm fG hr.units (dv 0) ds))))),?_⟩
 refine⟨_,rfl,rfl,_,_,rfl,rfl,_,rfl,?_⟩
 unfold fe at q
 by_cases h1:z.cps.toList.head?=some 35
 ·rw[if_pos h1,← xh (aZ h1)] at q
  rw[show Txt.startswith z "#" = true by rw[qL,eD,zy h1]]
  exact cL ⟨_,rfl,_,rfl,sP,_,60,rfl,by rw[ag,xh (aZ h1),zB,← ag];lia,by decide,fo q⟩
 rw[if_neg h1] at q
 rw[show Txt.startswith z "#" = false by rw[qL,eD,zv h1]]
 refine ck ⟨_,rfl,rfl,_,_,rfl,rfl,_,rfl,?_⟩
 by_cases h2:z.cps.toList.head?=some 34
 ·rw[if_pos h2,C7 z h2] at q
  rw[show Txt.startswith z "\"" = true by rw[C5,eD,zy h2]]
  have ht:Told z (.str (xB (Txt.slice z (some 1) none))):=.inr (.inr ⟨h2,rfl⟩)
  have EO:(Txt.slice z (some 1) none).cps.size≤90000:=by rw[ag,xh (aZ h2),zB,← ag];lia
  have W6:=Fw (Txt.slice z (some 1) none)
  refine cL ⟨_,rfl,z,_,rfl,hz,ht,_,rfl,gt_str (by lia),_,rfl,?_⟩
  show if ofStr dP (.str (xB (Txt.slice z (some 1) none)))=true then _ else _
  refine bg (fun h=>?_) (fun h=>?_)
  ·have h:dP (xB (Txt.slice z (some 1) none))=true:=h
   rw[h,zf] at q
   exact⟨_,rfl,z,_,rfl,hz,ht,_,rfl,.inr (.inr ⟨_,rfl,h⟩),_,rfl,fo q⟩
  ·have h:dP (xB (Txt.slice z (some 1) none))=false:=h
   rw[h,zh] at q
   exact fo q
 ·rw[if_neg h2,← oH] at q
  rw[show Txt.startswith z "\"" = false by rw[C5,eD,zv h2]]
  exact ck ⟨_,rfl,fo q⟩
theorem mJ(T:Txt w K mg t):Ok P w base T.cV 1 (fun ds S R _=>∃d,ds=[d]∧wu d∧R (.str (bV d)) S):=by
 refine T.cV.F.ok mH (by rintro ds S R Z ⟨_,e,_⟩;exact by rw[e];rfl) (fun bp A outer s H E ds S R Z hr ⟨d,e,hd,q⟩=>?_)
 subst e
 refine⟨_,(sc (si (eS IB hr.units (dv 0) dn) (s1 (sr ds)) s0) (sc (si (tv (cb dE T.ao aj (ac (dv 0) (ac (sN T.fv cR) an)))) (s1 (sr (ga (gr (gr (g1 (dv 0)))) hr.units))) s0) (s1 (sr (bo au hr.units ds (ct t5 T.fv cR (ac (dv 0) an))))))),?_⟩
 rcases hd with rfl|⟨n,rfl,hn⟩|⟨z,rfl,hz⟩
 ·exact⟨_,rfl,_,rfl,cL (fo q)⟩
 ·refine⟨_,rfl,_,rfl,ck ⟨_,rfl,_,_,_,_,rfl,cH,rfl,_,rfl,ck ⟨_,rfl,n,rfl,lq hn,sm ?_,fo q⟩⟩⟩
  have:=jZ hn
  show 1+(bZ n).cps.size≤_
  lia
 ·obtain⟨h1,_⟩:=fc hz
  refine⟨_,rfl,_,rfl,ck ⟨_,rfl,_,_,_,_,rfl,cH,rfl,_,rfl,cL ⟨_,rfl,z,rfl,?_,_,rfl,?_,sm ?_,fo q⟩⟩⟩
  ·show z.cps.size+(z.cps.size+1) * 2≤_;lia
  ·have:(Txt.replace z "=" "=e").cps.size≤2 * z.cps.size:=by
    rw[ag,ag,show ("=" : Str)=⟨#[61]⟩ by trivial,rep1]
    generalize z.cps.toList=l
    rw[show ("=e" : Str).cps.toList=[61,101] by trivial]
    induction l with
    |nil=>exact zk _
    |cons c l ih =>
     rw[aY,ze,zp]
     by_cases h:c=61
     ·rw[if_pos h];show 2+_≤_;lia
     ·rw[if_neg h];show 1+_≤_;lia
   show (Txt.replace z "=" "=e").cps.size+((Txt.replace z "=" "=e").cps.size+1) * 2≤_
   lia
  ·have:=oG z
   show 1+(vS z).cps.size≤_
   lia
def iV(k:Str)(l:List Nat):Bool:=if l=[45] then true else if k = "number" then (if l.take 2=[35,45] then (!decide (l=[35,45,48]) && t9 (l.drop 2) 60) else decide (l.take 1=[35]) && t9 (l.drop 1) 60) else if l.take 1=[34] then Cw (l.drop 1) else false
theorem jc{z y:Str}{l:List Nat}(h:y.cps.toList=l):decide (z=y)=decide (z.cps.toList=l):=by
 rw[zK]
 exact⟨fun e=>by rw[e,h],fun e=>lg (e.trans h.symm)⟩
theorem Fx(l:List α):ar l (some 1) none=l.drop 1:=by
 unfold ar
 have e:HT.sIx l.length 0 (some 1)=min 1 l.length:=HT.sIx_nat l.length 0 1
 rw[e,HT.sIx_none]
 cases l with
 |nil=>rfl
 |cons a l =>
  rw[show min 1 (a::l).length=1 by rw[zp];lia]
  exact ye (by rw[zB];lia)
theorem MN:∀ws:List Str,(Txt.join "" ws).cps.toList=ws.flatMap fun w=>w.cps.toList:=by
 intro ws
 rw[iU]
 induction ws with
 |nil=>rfl
 |cons a r ih =>
  cases r with
  |nil=>rw[PyProof.Rows.join_one,yy,List.flatMap_nil,List.append_nil]
  |cons b r =>
   rw[PyProof.Rows.join_cons_cons,fj,fj,ih]
   show a.cps.toList++[]++_=_
   rw[List.append_nil];rfl
theorem MO(p:List Nat):uV (jO (.str (Txt.slice (bY p) none (some 1)))) ([D.str "b",D.str "e"].map jO)=pP p:=by
 have e:=nW (bY p) 1
 show (eqV (.str "b") (.str (Txt.slice (bY p) none (some 1))) || (eqV (.str "e") (.str (Txt.slice (bY p) none (some 1))) || false))=_
 rw[Bool.or_false,sf,sf]
 have hb:("b" : Str).cps.toList=[98]:=by trivial
 have he:("e" : Str).cps.toList=[101]:=by trivial
 unfold pP
 have key:∀(y:Str) (c:Nat),y.cps.toList=[c]→decide (y=Txt.slice (bY p) none (some 1))=decide (p.head?=some c):=fun y c hy=>by
  rw[zK]
  have e':(Txt.slice (bY p) none (some 1)).cps.toList=p.take 1:=e
  constructor
  ·intro q
   rw[← q,hy] at e'
   cases p with
   |nil=>cases e'
   |cons a p=>rw[zP,yt] at e';injection e' with e' _;rw[e'];rfl
  ·intro q
   refine lg ?_
   rw[hy,e']
   cases p with
   |nil=>cases q
   |cons a p=>cases q;rfl
 rw[key _ 98 hb,key _ 101 he]
theorem xT(l:List Nat):(iV "number" l || iV "word" l)=fe l:=by
 unfold iV fe
 by_cases h0:l=[45]
 ·rw[if_pos h0,h0];rfl
 have nw:¬ (("word" : Str) = "number"):=by trivial
 rw[if_neg h0,if_neg h0,if_pos rfl,if_neg nw]
 by_cases h1:l.head?=some 35
 ·obtain⟨r,rfl⟩:∃r,l=35::r:=⟨_,head_drop h1⟩
  rw[if_pos h1]
  have e34:¬ ((35::r).take 1=[34]):=by rw[zP,yt];decide
  rw[if_neg e34,Bool.or_false]
  show _=mI r 60
  unfold mI mm
  rw[← mS]
  by_cases h2:r.head?=some 45
  ·obtain⟨r',rfl⟩:∃r',r=45::r':=⟨_,head_drop h2⟩
   rw[if_pos h2,if_pos (show (35::45::r').take 2=[35,45] from rfl)]
   show (!decide (35::45::r'=[35,45,48]) && t9 r' 60)=(bK r' 60 && (!decide (r'=[48]) && (decide (r'=[48]) || !decide (r'.head?=some 48))))
   rw[mS,show decide (35::45::r'=[35,45,48])=decide (r'=[48]) by rw[zK];simp]
   cases bK r' 60 <;> cases decide (r'=[48]) <;> simp
  ·have e2:¬ ((35::r).take 2=[35,45]):=fun q=>h2 (by
    cases r with
    |nil=>cases q
    |cons a r=>rw[zP,zP,yt] at q;injection q with _ q;injection q with q _;rw[q];rfl)
   rw[if_neg h2,if_neg e2,zy (show (35::r).take 1=[35] from rfl),zf];rfl
 ·rw[if_neg h1]
  have e1:¬ (l.take 1=[35]):=fun q=>h1 (by cases l with|nil=>cases q|cons a l=>rw[zP,yt] at q;injection q with q _;rw[q];rfl)
  have e2:¬ (l.take 2=[35,45]):=fun q=>h1 (by
   match l with
   |[]=>cases q
   |[a]=>cases q
   |a::b::l=>rw[zP] at q;injection q with q _;rw[q];rfl)
  rw[if_neg e2,zv e1,zh,yH]
  by_cases h3:l.head?=some 34
  ·obtain⟨r,rfl⟩:∃r,l=34::r:=⟨_,head_drop h3⟩
   rw[if_pos h3,if_pos (show (34::r).take 1=[34] from rfl),EZ]
  ·have e3:¬ (l.take 1=[34]):=fun q=>h3 (by cases l with|nil=>cases q|cons a l=>rw[zP,yt] at q;injection q with q _;rw[q];rfl)
   rw[if_neg h3,if_neg e3,zv h0]
theorem C8{k:Str}(hk:k = "number" ∨ k = "word")(hv:fe z.cps.toList=true)(ht:Told z d)(hd:wu d):iV k z.cps.toList=gf k d:=by
 have ho:=xT z.cps.toList
 rw[hv,yg] at ho
 have nw:¬ (("word" : Str) = "number"):=by trivial
 rcases ht with ⟨rfl,rfl⟩|⟨h1,n,hn,_,_,rfl⟩|⟨h1,rfl⟩
 ·have e:("-" : Str).cps.toList=[45]:=by trivial
  unfold iV;rw[e,if_pos rfl];rfl
 ·have hw:iV "word" z.cps.toList=false:=by
   rw[head_drop h1]
   unfold iV
   rw[if_neg (by intro q;injection q with q _;exact absurd q (by decide)),if_neg nw,if_neg (by rw[zP,yt];decide)]
  rcases hk with rfl|rfl
  ·rw[hw] at ho
   rw[ho.resolve_right zg];rfl
  ·rw[hw];unfold gf;rw[if_neg nw];rfl
 ·have hw:iV "number" z.cps.toList=false:=by
   rw[head_drop h1]
   unfold iV
   rw[if_neg (by intro q;injection q with q _;exact absurd q (by decide)),if_pos rfl,if_neg (by intro q;rw[zP] at q;injection q with q _;exact absurd q (by decide)),zv (by rw[zP,yt];decide)];rfl
  rcases hk with rfl|rfl
  ·rw[hw];rfl
  ·rw[hw] at ho
   rw[ho.resolve_left zg]
   rcases hd with h|⟨_,h,_⟩|⟨y,h,hy⟩
   ·cases h
   ·cases h
   ·unfold gf;rw[if_neg nw,h];exact hy.symm
theorem wx(l:List Nat):((spL l).map List.length).sum+(spL l).length≤l.length+1:=by
 have h:=PyProof.Rows.split_weight (bY l) "=" (by decide)
 rw[ua,cz,zC,zb] at h
 have e:(Str.length ∘ bY)=List.length:=by
  funext p
  show (bY p).cps.size=_
  rw[ag,cz]
 rw[show (fun x:Str=>x.length) ∘ bY=List.length from e] at h
 have:(bY l).length=l.length:=by show (bY l).cps.size=_;rw[ag,cz]
 rw[this] at h
 exact h
theorem Fy(ps:List (List Nat)):(Txt.join "" (ps.map fun l=>Txt.slice (bY l) (some 1) none)).cps.toList=ps.flatMap (List.drop 1):=by
 rw[MN]
 induction ps with
 |nil=>rfl
 |cons a ps ih =>
  rw[zD,yy,yy,ih]
  congr 1
  exact gz (bY a) 1
theorem Fz(ps:List (List Nat)):(ps.flatMap (List.drop 1)).length≤(ps.map List.length).sum:=by
 induction ps with
 |nil=>exact zk _
 |cons a ps ih =>
  rw[yy,ze,zD,List.sum_cons,zB]
  lia
theorem Jh(ps:List (List Nat)):((ps.map fun l=>Txt.slice (bY l) (some 1) none).map (·.length)).sum≤(ps.map List.length).sum:=by
 induction ps with
 |nil=>exact zk _
 |cons a ps ih =>
  rw[zD,zD,List.sum_cons,zD,List.sum_cons]
  have:(Txt.slice (bY a) (some 1) none).length≤a.length:=by
   show (Txt.slice (bY a) (some 1) none).cps.size≤_
   rw[ag,show (Txt.slice (bY a) (some 1) none).cps.toList=(bY a).cps.toList.drop 1 from gz (bY a) 1,cz,zB];lia
  lia
theorem fg(T:Txt w K mg t):Ok P w base T.aD 1 (fun ds S R _=>∃(z:Str) (m:Nat),ds=[.str z,.int (m:Nat)]∧z.cps.size≤90000∧R (.bl (t9 z.cps.toList m)) S):=by
 refine T.aD.F.ok lU (by rintro ds S R Z ⟨_,_,e,_⟩;exact by rw[e];rfl) (fun bp A outer s H E ds S R Z hr ⟨z,m,e,hz,q⟩=>?_)
 subst e
 refine⟨_,(sc (si (twd (twor (cy (JW dm dm hr.units di (cb bG T.bz aP (ac (dv 0) an)) (dv 1))) (tw1 (cy (tv (cb fO T.f_ dh (ac (nI (N:=["_law_sign"]) (src:=[none]) (md (af cJ) ["_law_text","_law_most"] rfl rfl (by trivial)) (vP (dv 0)) (px (show (["_law_sign"]:List Str).Nodup by trivial)) (aK rfl) aL (fun _ _ _ _ _=>mf) (fun _ _ _ _ _=>(cc dm dm hr.units ds (dv 0) ds))) an))))))) (s1 (sr db)) s0) (s1 (sr (PZ (cm fG hr.units (dv 0) ds) (vL (cm fN hr.units (ix hr.units (dv 0) di) ds)))))),?_⟩
 rw[mS] at q
 refine⟨_,rfl,_,rfl,sm (by show z.cps.size≤_;lia),_,rfl,?_⟩
 have e1:decide ((1:Int)≤((z.length:Nat):Int))=decide (1≤z.cps.toList.length):=by rw[zK,← ag];show (1:Int)≤((z.cps.size:Nat):Int)↔_;lia
 have e2:decide (((z.length:Nat):Int)≤((m:Nat):Int))=decide (z.cps.toList.length≤m):=by rw[zK,← ag];show ((z.cps.size:Nat):Int)≤_↔_;lia
 refine bg (fun h2=>?_) (fun h2=>?_)
 ·have vB:=e1.symm.trans h2
  refine⟨_,rfl,_,rfl,?_⟩
  refine bg (fun h3=>?_) (fun h3=>?_)
  ·have hd:bK z.cps.toList m=false:=by unfold bK;rw[vB,e2.symm.trans (nt h3)];rfl
   rw[hd,zh] at q
   exact fo q
  ·have MM:=e2.symm.trans (nf h3)
   refine⟨_,rfl,z,rfl,?_⟩
   refine comp_map (I:=⟨aN z,fun _=>True⟩) (d_ cG) trivial (by show (aN z).length≤_;unfold aN;rw[zb,zR];lia) (fun d hd Q hQ=>?_) fun p hp=>?_
   ·obtain⟨c,hc,rfl⟩:=gi hd
    have hQ:Q (.bl (cG c)) S:=by simpa [d_] using hQ
    refine⟨_,rfl,_,rfl,?_⟩
    have e3:oY "0" ⟨#[c]⟩=decide (48≤c):=br 48 c
    have e4:oY ⟨#[c]⟩ "9" = decide (c≤57):=br c 57
    unfold cG at hQ
    refine bg (fun h=>?_) (fun h=>?_)
    ·rw[e3.symm.trans h,zf,← e4] at hQ
     exact hQ
    ·rw[e3.symm.trans h,zh] at hQ
     exact hQ
   refine⟨.ref p,z.cps.toList.map cG,rfl,(show (S.set p (.lst ((aN z).map (d_ cG)))) p=_ by rw[ae,gj]),_,rfl,?_⟩
   have ed:bK z.cps.toList m=(z.cps.toList.map cG).all id:=by
    unfold bK
    rw[vB,MM,zf,zf,all_map];rfl
   rw[← ed]
   cases hd:bK z.cps.toList m with
   |false =>
    rw[hd,zh] at q
    exact cL ⟨S,.new hp,q⟩
   |true =>
    rw[hd,zf] at q
    obtain⟨c,r,ec⟩:=len_pos (z:=z) (by rw[ag];exact (eE hd).1)
    refine ck ⟨_,rfl,_,rfl,?_⟩
    have ez:decide (z = "0")=decide (z.cps.toList=[48]):=jc (by trivial)
    refine bg (fun h=>?_) (fun h=>?_)
    ·rw[ez.symm.trans h,Bool.true_or] at q
     exact⟨S,.new hp,q⟩
    ·rw[ez.symm.trans h,yH,ec] at q
     refine⟨_,rfl,c,sm (by show z.cps.size≤_;lia),Lh ec,S,.new hp,?_⟩
     show R (.bl (!decide ((⟨#[c]⟩:Str) = "0"))) S
     rw[show decide ((⟨#[c]⟩:Str) = "0")=decide ((c::r).head?=some 48) by
      rw[jc (l:=[48]) (by trivial),zK,List.head?_cons]
      show [c]=[48]↔_
      simp]
     exact q
 ·have hd:bK z.cps.toList m=false:=by unfold bK;rw[e1.symm.trans h2];rfl
  rw[hd,zh] at q
  refine⟨_,rfl,?_⟩
  exact cL (fo q)
theorem FA(T:Txt w K mg t):Ok P w base T.oq 2 (fun ds S R _=>∃k z,ds=[.str k,.str z]∧z.cps.size≤90000∧R (.bl (iV k z.cps.toList)) S):=by
 refine T.oq.F.ok lV (by rintro ds S R Z ⟨_,_,e,_⟩;exact by rw[e];rfl) (fun bp A outer s H E ds S R Z hr ⟨k,z,e,hz,q⟩=>?_)
 subst e
 have sP:z.length≤sizeLine:=sm (by show z.cps.size≤_;lia)
 have l_:(Txt.slice z (some 2) none).cps.toList=z.cps.toList.drop 2:=gz z 2
 have EO:(Txt.slice z (some 1) none).cps.toList=z.cps.toList.drop 1:=gz z 1
 have U8:(Txt.slice z none (some 2)).cps.toList=z.cps.toList.take 2:=nW z 2
 have R4:(Txt.slice z none (some 1)).cps.toList=z.cps.toList.take 1:=nW z 1
 have hsz:∀n,(z.cps.toList.drop n).length≤90000:=fun n=>by rw[zB,← ag];lia
 refine⟨_,(sc (si (eS fG hr.units (dv 1) ds) (s1 (sr db)) s0) (sc (si (eS fG hr.units (dv 0) ds) (sc (si (eS fG hr.units (sl (dv 1) o0 (o1 di)) ds) (s1 (sr (jA (cm fN hr.units (dv 1) ds) (vL (cf ((fg T).mono (by decide)) hr T.aD.m T.aD.k T.aD.b d0 (ac (sl (dv 1) (o1 di) o0) (ac di an))))))) s0) (s1 (sr (jA (cm fG hr.units (sl (dv 1) o0 (o1 di)) ds) (vL (cf ((fg T).mono (by decide)) hr T.aD.m T.aD.k T.aD.b d0 (ac (sl (dv 1) (o1 di) o0) (ac di an)))))))) s0) (sc (si (eS fN hr.units (sl (dv 1) o0 (o1 di)) ds) (s1 (sr db)) s0) (sc (cT (i:=2) lV.nd (bm zF PySem.F.slot_str_split PySem.F.type_str_split m_split (sl (dv 1) (o1 di) o0) (ac ds an))) (sc (si (twd (twor (cy (tv (cb fO T.f_ dh (ac (nI (N:=["_law_part"]) (src:=[none]) (md (af fU) ["_law_kind","_law_text","_law_parts","_law_bare"] rfl rfl (by trivial)) (il (sl (dv 2) (o1 di) o0)) (px (show (["_law_part"]:List Str).Nodup by trivial)) (aK rfl) aL (fun _ _ _ _ _=>mf) (fun _ _ _ _ _=>(cm B5 hr.units (sl (dv 0) o0 (o1 di)) (eB (ac ds (ac ds an)))))) an)))) (tw1 (eS B5 hr.units ds (sl (dv 2) (o1 di) o0))))) (s1 (sr db)) s0) (sc (cT (i:=3) lV.nd (bo au hr.units (ix hr.units (dv 2) di) (bm zF yq yr iA ds (ac (nI (N:=["_law_part"]) (src:=[none]) (md (af fU) ["_law_kind","_law_text","_law_parts","_law_bare"] rfl rfl (by trivial)) (il (sl (dv 2) (o1 di) o0)) (px (show (["_law_part"]:List Str).Nodup by trivial)) (aK rfl) aL (fun _ _ _ _ _=>mf) (fun _ _ _ _ _=>(sl (dv 0) (o1 di) o0))) an)))) (s1 (sr (jA (cm dm hr.units (bo jV hr.units (bo au hr.units (cb bG T.bz aP (ac (dv 3) an)) (cb bG T.bz aP (ac (dv 2) an))) di) di) (vL (cb fO T.f_ dh (ac (nI (N:=["_law_sign"]) (src:=[none]) (md (af fU) ["_law_kind","_law_text","_law_parts","_law_bare"] rfl rfl (by trivial)) (vP (dv 3)) (px (show (["_law_sign"]:List Str).Nodup by trivial)) (aK rfl) aL (fun _ _ _ _ _=>mf) (fun _ _ _ _ _=>(cc dm dm hr.units ds (dv 0) ds))) an)))))))))))),?_⟩
 unfold iV at q
 refine⟨_,rfl,_,rfl,?_⟩
 refine bg (fun h=>?_) (fun h=>?_)
 ·have h:z.cps.toList=[45]:=zz ((oH z).symm.trans h)
  rw[if_pos h] at q
  exact fo q
 have h:¬ z.cps.toList=[45]:=zU ((oH z).symm.trans h)
 rw[if_neg h] at q
 refine⟨_,rfl,_,rfl,?_⟩
 refine bg (fun hk=>?_) (fun hk=>?_)
 ·rw[if_pos (zz hk)] at q
  refine⟨_,rfl,_,rfl,sP,_,rfl,?_⟩
  have ea:decide (Txt.slice z none (some 2) = "#-")=decide (z.cps.toList.take 2=[35,45]):=by rw[← U8];exact jc (by trivial)
  refine bg (fun h2=>?_) (fun h2=>?_)
  ·rw[if_pos (zz (ea.symm.trans h2))] at q
   refine⟨_,rfl,_,rfl,?_⟩
   have eb:decide (z = "#-0")=decide (z.cps.toList=[35,45,48]):=jc (by trivial)
   refine bg (fun h3=>?_) (fun h3=>?_)
   ·have h3:(!decide (z = "#-0"))=true:=h3
    rw[← eb,h3,zf,← l_] at q
    exact⟨_,rfl,_,rfl,sP,_,60,rfl,by rw[ag,l_];exact hsz 2,fo q⟩
   ·have h3:(!decide (z = "#-0"))=false:=h3
    rw[← eb,h3,zh] at q
    exact fo q
  ·rw[if_neg (zU (ea.symm.trans h2))] at q
   refine⟨_,rfl,_,rfl,sP,_,rfl,?_⟩
   have eb:decide (Txt.slice z none (some 1) = "#")=decide (z.cps.toList.take 1=[35]):=by rw[← R4];exact jc (by trivial)
   refine bg (fun h3=>?_) (fun h3=>?_)
   ·rw[eb.symm.trans h3,zf,← EO] at q
    exact⟨_,rfl,_,rfl,sP,_,60,rfl,by rw[ag,EO];exact hsz 1,fo q⟩
   ·rw[eb.symm.trans h3,zh] at q
    exact fo q
 rw[if_neg (zU hk)] at q
 refine⟨_,rfl,_,rfl,sP,_,rfl,?_⟩
 have ea:decide (Txt.slice z none (some 1) = "\"")=decide (z.cps.toList.take 1=[34]):=by rw[← R4];exact jc (by trivial)
 refine bg (fun h2=>?_) (fun h2=>?_)
 ·have h2:(!decide (Txt.slice z none (some 1) = "\""))=true:=h2
  rw[ea] at h2
  rw[if_neg (zU (nt h2))] at q
  exact fo q
 have h2:(!decide (Txt.slice z none (some 1) = "\""))=false:=h2
 rw[ea] at h2
 rw[if_pos (zz (nf h2)),← EO] at q
 have hu:(Txt.slice z (some 1) none).cps.size≤90000:=by rw[ag,EO];exact hsz 1
 refine⟨_,rfl,_,rfl,sP,rfl,_, "=",rfl,rfl,by trivial,sm (by show (Txt.slice z (some 1) none).cps.size+2≤_;lia),fun p hp=>?_⟩
 generalize Txt.slice z (some 1) none=u at q hu ⊢
 rw[ua]
 obtain⟨p0,ps,es⟩:=eT u.cps.toList
 have R5:=wx u.cps.toList
 have U9:Cw u.cps.toList=(ps.all pP && (decide ((p0++ps.flatMap (List.drop 1)).length+ps.length≤40) && (p0++ps.flatMap (List.drop 1)).all fun c=>decide (33≤c) && decide (c≤126))):=by
  unfold Cw fT;rw[es];rfl
 rw[U9] at q
 rw[es] at R5
 rw[zD,List.sum_cons,zp,← ag] at R5
 have hlen:p0.length+(ps.map List.length).sum+ps.length≤90000:=by lia
 have eL:ar (((spL u.cps.toList).map bY).map D.str) (some 1) none=(ps.map bY).map D.str:=by rw[Fx,es];rfl
 have hS:(S.set p (.lst (((spL u.cps.toList).map bY).map D.str))) p=some (.lst (((spL u.cps.toList).map bY).map D.str)):=ae
 have g0:Sub S (S.set p (.lst (((spL u.cps.toList).map bY).map D.str))):=.new hp
 have R6:gP (((spL u.cps.toList).map bY).map D.str) 0=some (.str (bY p0)):=by rw[es];exact (i0 (i:=0) (by rw[zb,zb,zp];lia)).trans rfl
 have R7:(((spL u.cps.toList).map bY).map D.str).length=ps.length+1:=by rw[zb,zb,es];rfl
 generalize S.set p (.lst (((spL u.cps.toList).map bY).map D.str))=S1 at hS g0 ⊢
 generalize ((spL u.cps.toList).map bY).map D.str=L at hS eL R6 R7
 have jl:((ps.map bY).map D.str).length=ps.length:=by rw[zb,zb]
 have pG:∀l∈ps,l.length≤90000:=fun l hl=>by
  have:=xK (zl.mpr ⟨l,hl,rfl⟩:l.length∈ps.map List.length)
  lia
 have MP:∀l∈ps,(bY l).length≤sizeLine:=fun l hl=>sm (by show (bY l).cps.size≤_;rw[ag,cz];have:=pG l hl;lia)
 refine⟨_,rfl,_,rfl,_,hS,fun p2 gU=>⟨_,ae,?_⟩⟩
 rw[eL]
 refine comp_map (fun d=>match d with|.str y=>.bl (pP y.cps.toList)|_=>.ax) ae (by show ((ps.map bY).map D.str).length≤_;lia) (fun d hd Q hQ=>?_) fun p3 mK=>?_
 ·obtain⟨y,hy,rfl⟩:=zl.mp hd
  obtain⟨l,hl,rfl⟩:=zl.mp hy
  refine⟨_,rfl,_,rfl,MP l hl,sm (show 2≤100000 by decide),rfl,rfl,?_⟩
  rw[if_neg zg,MO]
  exact hQ
 have g2:=g0.trans (Sub.new (c:=.lst ((ps.map bY).map D.str)) gU)
 have h2:=(Sub.new (c:=.lst ((ps.map bY).map D.str)) gU) _ _ hS
 rw[show (⟨(ps.map bY).map D.str,fun S=>ph S (.ref p2) ((ps.map bY).map D.str)⟩:pj).xs=(ps.map bY).map D.str from rfl,show (((ps.map bY).map D.str).map fun d=>match d with|.str y=>D.bl (pP y.cps.toList)|_=>.ax)=(ps.map pP).map D.bl by rw[zC,zC,zC];rfl]
 have g3:=g2.trans (Sub.new (c:=.lst ((ps.map pP).map D.bl)) mK)
 have h3:=(Sub.new (c:=.lst ((ps.map pP).map D.bl)) mK) _ _ h2
 refine⟨.ref p3,ps.map pP,rfl,ae,_,rfl,?_⟩
 generalize (S1.set p2 (.lst ((ps.map bY).map D.str))).set p3 (.lst ((ps.map pP).map D.bl))=S3 at g3 h3 ⊢
 rw[all_map]
 refine bg (fun ha=>?_) (fun ha=>?_)
 ·rw[nt ha,zh] at q
  exact⟨S,g3,q⟩
 have ha:=nf ha
 rw[ha,zf] at q
 refine⟨_,rfl,_,rfl,_,h3,fun p4 kA=>.inl ⟨_,ae,rfl,?_,_,rfl,?_⟩⟩
 ·rw[eL];exact A4 _
 rw[eL]
 have Gf:decide (("" : Str)∈ps.map bY)=false:=zv fun m=>by
  obtain⟨l,hl,e⟩:=zl.mp m
  have:=zJ.mp ha l hl
  have e:(bY l).cps.toList=[]:=by rw[e];rfl
  rw[cz] at e
  rw[e] at this;cases this
 rw[if_neg zg,kx,Gf]
 have g4:=g3.trans (Sub.new (c:=.lst ((ps.map bY).map D.str)) kA)
 have h4:=(Sub.new (c:=.lst ((ps.map bY).map D.str)) kA) _ _ h3
 generalize S3.set p4 (.lst ((ps.map bY).map D.str))=S4 at g4 h4 ⊢
 refine ck ⟨_,rfl,_,_,h4,R6,rfl,_,rfl,_,rfl,_,h4,fun p5 uY=>⟨_,ae,?_⟩⟩
 rw[eL]
 refine comp_map (fun d=>match d with|.str y=>.str (Txt.slice y (some 1) none)|_=>.ax) ae (by show ((ps.map bY).map D.str).length≤_;lia) (fun d hd Q hQ=>?_) fun p6 A5=>?_
 ·obtain⟨y,hy,rfl⟩:=zl.mp hd
  obtain⟨l,hl,rfl⟩:=zl.mp hy
  exact⟨_,rfl,_,rfl,MP l hl,hQ⟩
 have g5:=g4.trans (Sub.new (c:=.lst ((ps.map bY).map D.str)) uY)
 have h5:=(Sub.new (c:=.lst ((ps.map bY).map D.str)) uY) _ _ h4
 rw[show (⟨(ps.map bY).map D.str,fun S=>ph S (.ref p5) ((ps.map bY).map D.str)⟩:pj).xs=(ps.map bY).map D.str from rfl,show (((ps.map bY).map D.str).map fun d=>match d with|.str y=>D.str (Txt.slice y (some 1) none)|_=>.ax)=(ps.map fun l=>Txt.slice (bY l) (some 1) none).map D.str by rw[zC,zC,zC];rfl]
 have g6:=g5.trans (Sub.new (c:=.lst ((ps.map fun l=>Txt.slice (bY l) (some 1) none).map D.str)) A5)
 have h6:=(Sub.new (c:=.lst ((ps.map fun l=>Txt.slice (bY l) (some 1) none).map D.str)) A5) _ _ h5
 have hj:=Fy ps
 have NG:=Fz ps
 have W7:(Txt.join "" (ps.map fun l=>Txt.slice (bY l) (some 1) none)).cps.size≤(ps.map List.length).sum:=by rw[ag,hj];exact NG
 have QR:JoinOk "" (ps.map fun l=>Txt.slice (bY l) (some 1) none)=true:=by
  refine PyProof.Rows.joinOk_of ?_
  have h0:("" : Str).length=0:=rfl
  have U_:=Jh ps
  rw[h0,Nat.mul_zero]
  lia
 have W8:(bY p0).cps.size=p0.length:=by rw[ag,cz]
 refine⟨"",ps.map fun l=>Txt.slice (bY l) (some 1) none,_,rfl,rfl,ae,QR,sm (by show (bY p0).cps.size+(Txt.join "" _).cps.size≤_;lia),?_⟩
 generalize (S4.set p5 (.lst ((ps.map bY).map D.str))).set p6 (.lst ((ps.map fun l=>Txt.slice (bY l) (some 1) none).map D.str))=S6 at g6 h6 ⊢
 have hb:(bY p0++Txt.join "" (ps.map fun l=>Txt.slice (bY l) (some 1) none)).cps.toList=p0++ps.flatMap (List.drop 1):=by rw[fj,hj,cz]
 generalize bY p0++Txt.join "" (ps.map fun l=>Txt.slice (bY l) (some 1) none)=bare at hb ⊢
 rw[← hb] at q
 have W9:bare.cps.size≤90000:=by rw[ag,hb,ze];lia
 refine⟨_,rfl,_,rfl,sm (by show bare.cps.size≤_;lia),_,rfl,_,rfl,.inl ⟨_,h6,?_⟩⟩
 rw[R7]
 refine⟨_,rfl,?_⟩
 have ec:decide ((((bare.length:Nat):Int)+((ps.length+1:Nat):Int)) - 1≤40)=decide (bare.cps.toList.length+ps.length≤40):=by
  rw[zK,← ag]
  show (((bare.cps.size:Nat):Int)+((ps.length+1:Nat):Int)) - 1≤40↔_
  lia
 refine bg (fun h7=>?_) (fun h7=>?_)
 ·rw[ec.symm.trans h7,zf] at q
  refine⟨_,rfl,bare,rfl,?_⟩
  refine comp_map (I:=⟨aN bare,fun _=>True⟩) (d_ fun c=>decide (33≤c) && decide (c≤126)) trivial (by show (aN bare).length≤_;unfold aN;rw[zb,zR];lia) (fun d hd Q hQ=>?_) fun p7 NZ=>?_
  ·obtain⟨c,hc,rfl⟩:=gi hd
   have hQ:Q (.bl (decide (33≤c) && decide (c≤126))) S6:=by simpa [d_] using hQ
   refine⟨_,rfl,_,rfl,?_⟩
   have e3:oY "!" ⟨#[c]⟩=decide (33≤c):=br 33 c
   have e4:oY ⟨#[c]⟩ "~" = decide (c≤126):=br c 126
   refine bg (fun h=>?_) (fun h=>?_)
   ·rw[e3.symm.trans h,zf,← e4] at hQ
    exact hQ
   ·rw[e3.symm.trans h,zh] at hQ
    exact hQ
  refine⟨.ref p7,bare.cps.toList.map fun c=>decide (33≤c) && decide (c≤126),rfl,(show (S6.set p7 (.lst ((aN bare).map (d_ fun c=>decide (33≤c) && decide (c≤126))))) p7=_ by rw[ae,gj]),S,g6.trans (.new NZ),?_⟩
  rw[all_map]
  exact q
 ·rw[ec.symm.trans h7,zh] at q
  exact⟨S,g6,q⟩
theorem FC(T:Txt w K mg t):Ok P w base T.ot 1 (fun ds S R _=>∃z d,ds=[.str z]∧z.cps.size≤90000∧Told z d∧R d S):=by
 refine T.ot.F.ok A1 (by rintro ds S R Z ⟨_,_,e,_⟩;exact by rw[e];rfl) (fun bp A outer s H E ds S R Z hr ⟨z,d,e,hz,ht,q⟩=>?_)
 subst e
 refine⟨_,(sc (si (eS fG hr.units (dv 0) ds) (s1 (sr dn)) s0) (sc (si (eS fG hr.units (ix hr.units (dv 0) di) ds) (s1 (sr (ct nK T.mi iq (ac (sl (dv 0) (o1 di) o0) an)))) s0) (s1 (sr (gd (gr (gr (gs (dv 0))))))))),?_⟩
 have sP:z.length≤sizeLine:=sm (by show z.cps.size≤_;lia)
 rcases ht with ⟨rfl,rfl⟩|⟨h1,n,hn,Ij,Fv,rfl⟩|⟨h1,rfl⟩
 ·exact⟨_,rfl,_,rfl,bg (fun _=>fo q) (fun h=>by
   have h:decide (("-" : Str) = "-")=false:=h
   exact absurd rfl (zU h))⟩
 ·refine⟨_,rfl,_,rfl,bg (fun h=>?_) (fun _=>?_)⟩
  ·have h:z = "-" := zz h
   rw[h,fA] at h1;cases h1
  refine⟨_,rfl,35,sP,Lh (head_drop h1),_,rfl,?_⟩
  refine bg (fun _=>?_) (fun h=>?_)
  ·exact⟨_,rfl,_,rfl,sP,_,n,rfl,Ij,zA Fv (by decide),fo q⟩
  ·have h:decide ((⟨#[35]⟩:Str) = "#")=false:=h
   rw[qL,zy rfl] at h;cases h
 ·refine⟨_,rfl,_,rfl,bg (fun h=>?_) (fun _=>?_)⟩
  ·have h:z = "-" := zz h
   rw[h,fA] at h1;cases h1
  have EO:(Txt.slice z (some 1) none).cps.size≤90000:=by rw[ag,xh (aZ h1),zB,← ag];lia
  have l_:(Txt.replace (Txt.slice z (some 1) none) "=b" " ").cps.size≤180000:=by
   rw[show ("=b" : Str)=⟨#[61,98]⟩ by trivial]
   exact zA (xR (by trivial)) (by lia)
  refine⟨_,rfl,34,sP,Lh (head_drop h1),_,rfl,?_⟩
  refine bg (fun h=>?_) (fun _=>?_)
  ·have h:(⟨#[34]⟩:Str) = "#" := zz h
   rw[qL] at h;exact absurd h (by decide)
  refine⟨_,rfl,sP,_,rfl,?_,_,rfl,?_,fo q⟩
  ·show (Txt.slice z (some 1) none).cps.size+((Txt.slice z (some 1) none).cps.size+1) * 1≤_;lia
  ·show (Txt.replace (Txt.slice z (some 1) none) "=b" " ").cps.size+((Txt.replace (Txt.slice z (some 1) none) "=b" " ").cps.size+1) * 1≤_
   lia
def p3(p:Str×Str×Str):D:=.tup [.str p.1,.str p.2.1,.str p.2.2]
def bL(ws:List Str):List (Str×Str×Str):=(List.range (ws.length / 3)).map fun k=>(ws.getD (3 * k) "",ws.getD (3 * k+1) "",ws.getD (3 * k+2) "")
def ee(ws:List Str):Str:=ws.getD (ws.length - 1) ""
def Ji(ws:List Str):D:=.tup [.tup ((bL ws).map p3),.str (ee ws)]
theorem QS(n:Nat)(f:D→D)(g:Nat→D)(h:∀i,f (.int ((i:Nat) * 3))=g i):(pO n 3).map f=(List.range n).map g:=by
 unfold pO
 rw[zC]
 exact List.map_congr_left fun i _=>h i
theorem kB(T:Txt w K mg t):Ok P w base T.bP 1 (fun ds S R _=>∃a ws,ds=[.ref a]∧S a=some (.lst (ws.map D.str))∧ws.length % 3=2∧ws.length≤95000∧R (Ji ws) S):=by
 refine T.bP.F.ok fw (by rintro ds S R Z ⟨_,_,e,_⟩;exact by rw[e];rfl) (fun bp A outer s H E ds S R Z hr ⟨a,ws,e,hS,hm,hl,q⟩=>?_)
 subst e
 have DV:(ws.map D.str).length=ws.length:=zb _
 refine⟨_,(sc (Qq (i:=1) (N:=["at","words"]) (src:=[none,some 0]) fw.nd (md (af b_) ["words","parts"] rfl rfl (by trivial)) (UD T.gJ (ac di (ac (bo jV hr.units (cb bG T.bz aP (ac (dv 0) an)) di) (ac di an)))) (px (show (["at","words"]:List Str).Nodup by trivial)) (aK rfl) aL (fun _ _ _ _ _=>mf) (fun _ _ _ _ _=>(ct eC T.bD a_ (ac (sl (dv 1) (o1 (dv 0)) (o1 (bo au hr.units (dv 0) di))) an)))) (s1 (sr (eB (ac (ct eC T.bD a_ (ac (dv 1) an)) (ac (ix hr.units (dv 0) (tU di)) an)))))),?_⟩
 refine⟨_,rfl,_,rfl,.inl ⟨_,hS,?_⟩⟩
 rw[DV]
 refine⟨((ws.length:Nat):Int) - 2,3,rfl,by lia,by lia,by lia,by lia,?_⟩
 have en:((((ws.length:Nat):Int) - 2+3 - 1) / 3).toNat=ws.length / 3:=by lia
 rw[en]
 refine A2 (fun d=>match d with|.int i=>p3 (ws.getD i.toNat "",ws.getD (i.toNat+1) "",ws.getD (i.toNat+2) "")|_=>.ax) (fun _ _=>trivial) (by show (pO (ws.length / 3) 3).length≤_;rw[tX];lia) (fun d hd S' hs Q hQ=>?_) fun S2 hs p hp=>?_
 ·obtain⟨i,hi⟩:=List.getElem?_of_mem hd
  obtain⟨W_,rfl⟩:=tY hi
  have c1:((i:Nat):Int) * 3=((3 * i:Nat):Int):=by lia
  have c2:((i:Nat):Int) * 3+3=((3 * i+3:Nat):Int):=by lia
  have hb:3 * i+3≤ws.length:=by lia
  have ec:ar (ws.map D.str) (some (((i:Nat):Int) * 3)) (some (((i:Nat):Int) * 3+3))=[.str (ws.getD (3 * i) ""),.str (ws.getD (3 * i+1) ""),.str (ws.getD (3 * i+2) "")]:=by
   rw[c1,show ((3 * i:Nat):Int)+3=((3 * i+3:Nat):Int) by lia,xP _ (by rw[DV];exact hb) (by lia),show 3 * i+3 - 3 * i=3 by lia,← List.map_drop,← List.map_take,take3 hb];rfl
  refine⟨_,rfl,_,rfl,_,rfl,_,rfl,_,rfl,_,hs _ _ hS,fun p hp=>?_⟩
  rw[ec]
  refine⟨_,_,rfl,.inl ae,?_⟩
  have:=hQ (S'.set p (.lst [.str (ws.getD (3 * i) ""),.str (ws.getD (3 * i+1) ""),.str (ws.getD (3 * i+2) "")])) (.new hp)
  have e3:(((i:Nat):Int) * 3).toNat=3 * i:=by lia
  dsimp only at this
  rw[e3] at this
  exact this
 ·rw[show (⟨pO (ws.length / 3) 3,fun _=>True⟩:pj).xs=pO (ws.length / 3) 3 from rfl,QS _ _ (fun k=>p3 (ws.getD (3 * k) "",ws.getD (3 * k+1) "",ws.getD (3 * k+2) "")) fun i=>by
   have e3:(((i:Nat):Int) * 3).toNat=3 * i:=by lia
   dsimp only
   rw[e3]]
  have e4:(List.range (ws.length / 3)).map (fun k=>p3 (ws.getD (3 * k) "",ws.getD (3 * k+1) "",ws.getD (3 * k+2) ""))=(bL ws).map p3:=by
   unfold bL;rw[zC];rfl
  rw[e4]
  have J4:gP (ws.map D.str) (-1)=some (.str (ee ws)):=by
   have:=kz (xs:=ws.map D.str) (k:=1) (by lia) (by decide)
   rw[DV,lW (by lia)] at this
   exact this
  refine⟨_,rfl,_,_,rfl,.inl ae,_,rfl,_,rfl,_,_,(Sub.new hp) _ _ (hs _ _ hS),J4,sm (show 2≤100000 by decide),S,hs.trans (.new hp),q⟩
def jK(z:Str):Bool:=decide (z = "up") || decide (z = "down")
def qj(z:Str):Bool:=decide (z = "first") || decide (z = "last")
theorem C9(z a b:Str)(x y:V):(([(a,x),(b,y)]:List (Str×V)).lookup z).isSome=(decide (z=a) || decide (z=b)):=by
 rw[ym,ym]
 by_cases h:z=a
 ·rw[show (z == a)=true by simp [h],zy h];rfl
 ·rw[show (z == a)=false by simp [h],zv h]
  by_cases h2:z=b
  ·rw[show (z == b)=true by simp [h2],zy h2];rfl
  ·rw[show (z == b)=false by simp [h2],zv h2];rfl
def bc(cs:List (Str×Str))(p:Str×Str×Str):Bool:=decide (p.1∈cs.map Prod.fst) && (jK p.2.1 && qj p.2.2)
def kC(cs:List (Str×Str))(ps:List (Str×Str×Str))(wy:Str):Bool:=decide (ps.length≤8) && (ps.all (bc cs) && (decide ((ps.map Prod.fst).Nodup) && jK wy))
theorem qM(T:Txt w K mg t):Ok P w base T.iM 1 (fun ds S R _=>∃z,ds=[.str z]∧R (.bl (jK z)) S):=by
 refine T.iM.F.ok AZ (by rintro ds S R Z ⟨_,e,_⟩;exact by rw[e];rfl) (fun bp A outer s H E ds S R Z hr ⟨z,e,q⟩=>?_)
 subst e
 refine⟨_,(s1 (sr (jA (cb dE T.ao aj (ac (dv 0) (ac (sN T.fv cR) an))) (vL (Qx T.uC (dv 0) (dg (v:=.ref t.iI) T.rR rfl fun _=>dk _)))))),?_⟩
 refine⟨_,rfl,_,_,_,_,rfl,cH,rfl,_,rfl,cL ⟨_,rfl,z,rfl,rfl,?_⟩⟩
 rw[C9]
 exact fo q
theorem A6(T:Txt w K mg t):Ok P w base T.om 1 (fun ds S R _=>∃z,ds=[.str z]∧R (.bl (qj z)) S):=by
 refine T.om.F.ok A0 (by rintro ds S R Z ⟨_,e,_⟩;exact by rw[e];rfl) (fun bp A outer s H E ds S R Z hr ⟨z,e,q⟩=>?_)
 subst e
 refine⟨_,(s1 (sr (jA (cb dE T.ao aj (ac (dv 0) (ac (sN T.fv cR) an))) (vL (Qx T.uD (dv 0) (dg (v:=.ref t.iJ) T.rS rfl fun _=>dk _)))))),?_⟩
 refine⟨_,rfl,_,_,_,_,rfl,cH,rfl,_,rfl,cL ⟨_,rfl,z,rfl,rfl,?_⟩⟩
 rw[C9]
 exact fo q
theorem wz(T:Txt w K mg t):Ok P w base T.ki 4 (fun ds S R _=>∃cs p,ds=[.tup (cs.map aH),p3 p]∧Gd cs∧GJ p∧R (.bl (bc cs p)) S):=by
 refine T.ki.F.ok wo (by rintro ds S R Z ⟨_,_,e,_⟩;exact by rw[e];rfl) (fun bp A outer s H E ds S R Z hr ⟨cs,p,e,hg,hp,q⟩=>?_)
 subst e
 refine⟨_,(sc (si (twd (twor (cy (tv (cb dE T.ao aj (ac (dv 1) (ac (sN T.bD a_) an))))) (tw1 (eS fN hr.units (cb bG T.bz aP (ac (dv 1) an)) di)))) (s1 (sr db)) s0) (s1 (sr (jA (cm B3 hr.units (cf ((ju T).mono (by decide)) hr T.bN.m T.bN.k T.bN.b d0 (ac (dv 0) (ac (ix hr.units (dv 1) di) an))) dn) (jA (cf ((qM T).mono (by decide)) hr T.iM.m T.iM.k T.iM.b d0 (ac (ix hr.units (dv 1) di) an)) (vL (cf ((A6 T).mono (by decide)) hr T.om.m T.om.k T.om.b d0 (ac (ix hr.units (dv 1) di) an)))))))),?_⟩
 refine⟨_,rfl,_,_,_,_,rfl,eI,rfl,_,rfl,ck ⟨_,rfl,_,rfl,_,rfl,ck ?_⟩⟩
 have hd:=Fs hg p.1
 refine⟨_,rfl,_,rfl,_,rfl,cs,.str p.1,rfl,hg,gt_str hp.1,?_⟩
 generalize rz cs (.str p.1)=d at hd ⊢
 refine⟨_,rfl,?_⟩
 unfold bc at q
 refine bg (fun h=>?_) (fun h=>?_)
 ·have h:(!jB d)=true:=h
  rw[hd,Bool.not_not] at h
  rw[h,zf] at q
  refine⟨_,rfl,_,rfl,p.2.1,rfl,_,rfl,?_⟩
  refine bg (fun h2=>?_) (fun h2=>?_)
  ·rw[h2,zf] at q
   exact⟨_,rfl,_,rfl,p.2.2,rfl,fo q⟩
  ·rw[h2,zh] at q
   exact fo q
 ·have h:(!jB d)=false:=h
  rw[hd,Bool.not_not] at h
  rw[h,zh] at q
  exact fo q
theorem oI(T:Txt w K mg t):Ok P w base T.dG 5 (fun ds S R Z=>∃cs ps wy,ds=[.tup (cs.map aH),.tup [.tup (ps.map p3),.str wy]]∧Gd cs∧(∀p∈ps,GJ p)∧(kC cs ps wy=true→R .ax S)∧(kC cs ps wy=false→Z t.ba S)):=by
 refine T.dG.F.ok eY (by rintro ds S R Z ⟨_,_,_,e,_⟩;exact by rw[e];rfl) (fun bp A outer s H E ds S R Z hr ⟨cs,ps,wy,e,hg,hp,q1,q2⟩=>?_)
 subst e
 have DV:(ps.map p3).length=ps.length:=zb _
 refine⟨_,(sc (si (twd (twor (cy (tv (cb dE T.ao aj (ac (dv 1) (ac (sN T.bD a_) an))))) (tw1 (eS fN hr.units (cb bG T.bz aP (ac (dv 1) an)) di)))) (s1 (xu ⟨T.bS⟩ T.bR (ac ds an))) s0) (sc (cT (i:=2) eY.nd (ix hr.units (dv 1) di)) (sc (si (twd (twor (cy (tv (cb dE T.ao aj (ac (dv 2) (ac (sN T.bD a_) an))))) (tw1 (eS IA hr.units (cb bG T.bz aP (ac (dv 2) an)) (dg (v:=.int 8) T.pZ ⟨_,rfl⟩ fun _=>aA _))))) (s1 (xu ⟨T.bS⟩ T.bR (ac ds an))) s0) (sc (si (cy (tv (cb fO T.f_ dh (ac (nI (N:=["part","columns"]) (src:=[none,some 0]) (md (af cA) ["columns","order","parts","names"] rfl rfl (by trivial)) (EU (dv 2)) (px (show (["part","columns"]:List Str).Nodup by trivial)) (aK rfl) aL (fun _ _ _ _ _=>mf) (fun _ _ _ _ _=>(cf ((wz T).mono (by decide)) hr T.ki.m T.ki.k T.ki.b d0 (ac (dv 1) (ac (dv 0) an))))) an)))) (s1 (xu ⟨T.bS⟩ T.bR (ac ds an))) s0) (sc (Qq (i:=3) (N:=["part"]) (src:=[none]) eY.nd (md (af cA) ["columns","order","parts","names"] rfl rfl (by trivial)) (EU (dv 2)) (px (show (["part"]:List Str).Nodup by trivial)) (aK rfl) aL (fun _ _ _ _ _=>mf) (fun _ _ _ _ _=>(ix hr.units (dv 0) di))) (sc (si (eS fN hr.units (RQ (dv 3) T.bz T.GH) (cb bG T.bz aP (ac (dv 3) an))) (s1 (xu ⟨T.bS⟩ T.bR (ac ds an))) s0) (s1 (si (cy (tv (cf ((qM T).mono (by decide)) hr T.iM.m T.iM.k T.iM.b d0 (ac (ix hr.units (dv 1) di) an)))) (s1 (xu ⟨T.bS⟩ T.bR (ac ds an))) s0)))))))),?_⟩
 refine⟨_,rfl,_,_,_,_,rfl,eI,rfl,_,rfl,ck ⟨_,rfl,_,rfl,_,rfl,ck ?_⟩⟩
 refine⟨_,rfl,_,rfl,_,rfl,_,_,_,_,rfl,eI,rfl,_,rfl,ck ⟨_,rfl,_,rfl,_,rfl,?_⟩⟩
 refine bg (fun h=>?_) (fun h=>?_)
 ·have h:(8:Int)<(((ps.map p3).length:Nat):Int):=zz h
  rw[DV] at h
  exact⟨sm (show 1≤100000 by decide),fo (q2 (by unfold kC;rw[zv (by omega)];rfl))⟩
 have h:¬ (8:Int)<(((ps.map p3).length:Nat):Int):=zU h
 rw[DV] at h
 have h8:ps.length≤8:=by omega
 unfold kC at q1 q2
 rw[zy h8,zf] at q1 q2
 refine⟨_,rfl,_,.inl rfl,?_⟩
 refine iT (fun d v=>∃p,d=p3 p∧v=.bl (bc cs p)) trivial (by show (ps.map p3).length≤_;omega) (fun d hd Q hQ=>?_) fun out ho p Jj=>?_
 ·obtain⟨p,uZ,rfl⟩:=zl.mp hd
  exact⟨_,rfl,_,rfl,cs,p,rfl,hg,hp p uZ,hQ _ ⟨p,rfl,rfl⟩⟩
 have eo:out=(ps.map (bc cs)).map D.bl:=by
  have:∀{ps:List (Str×Str×Str)}{out:List D},Paired (fun d v=>∃p,d=p3 p∧v=.bl (bc cs p)) (ps.map p3) out→out=(ps.map (bc cs)).map D.bl:=by
   intro ps
   induction ps with
   |nil=>intro out h;cases h;rfl
   |cons x ps ih =>
    intro out h
    cases h with
    |cons r t =>
     obtain⟨p,e1,e2⟩:=r
     have:x=p:=by
      obtain⟨a,b,c⟩:=x
      obtain⟨a',b',c'⟩:=p
      unfold p3 at e1
      injection e1 with e1
      injection e1 with h1 e1
      injection e1 with h2 e1
      injection e1 with h3 _
      injection h1 with h1
      injection h2 with h2
      injection h3 with h3
      rw[show a=a' from h1,show b=b' from h2,show c=c' from h3]
     rw[e2,ih t,← this];rfl
  exact this ho
 subst eo
 refine⟨.ref p,ps.map (bc cs),rfl,ae,_,rfl,?_⟩
 rw[show (ps.map (bc cs)).all id=ps.all (bc cs) from all_map]
 refine bg (fun ha=>?_) (fun ha=>?_)
 ·have ha:=nt ha
  exact⟨sm (show 1≤100000 by decide),S,.new Jj,q2 (by rw[ha];rfl)⟩
 have ha:=nf ha
 rw[ha,zf] at q1 q2
 refine⟨_,rfl,_,.inl rfl,?_⟩
 refine comp_map (fun d=>match d with|.tup (x::_)=>x|_=>.ax) trivial (by show (ps.map p3).length≤_;omega) (fun d hd Q hQ=>?_) fun p2 gU=>?_
 ·obtain⟨p,uZ,rfl⟩:=zl.mp hd
  exact⟨_,rfl,_,rfl,hQ⟩
 have e3:(ps.map p3).map (fun d=>match d with|.tup (x::_)=>x|_=>.ax)=(ps.map Prod.fst).map D.str:=by rw[zC,zC];rfl
 rw[show (⟨ps.map p3,fun _=>True⟩:pj).xs=ps.map p3 from rfl,e3]
 have sb:Sub S ((S.set p (.lst ((ps.map (bc cs)).map D.bl))).set p2 (.lst ((ps.map Prod.fst).map D.str))):=(Sub.new Jj).trans (.new gU)
 have FD:((S.set p (.lst ((ps.map (bc cs)).map D.bl))).set p2 (.lst ((ps.map Prod.fst).map D.str))) p2=some (.lst ((ps.map Prod.fst).map D.str)):=ae
 generalize (S.set p (.lst ((ps.map (bc cs)).map D.bl))).set p2 (.lst ((ps.map Prod.fst).map D.str))=S2 at sb FD ⊢
 refine⟨_,rfl,ps.map Prod.fst,FD,by rw[zb];omega,_,rfl,_,rfl,.inl ⟨_,FD,_,rfl,?_⟩⟩
 have e4:decide ((((gw (ps.map Prod.fst)).length:Nat):Int)=((((ps.map Prod.fst).map D.str).length:Nat):Int))=decide ((ps.map Prod.fst).Nodup):=by
  rw[zK,← qB,zb];omega
 refine bg (fun hn=>?_) (fun hn=>?_)
 ·have hn:(!decide ((((gw (ps.map Prod.fst)).length:Nat):Int)=((((ps.map Prod.fst).map D.str).length:Nat):Int)))=true:=hn
  rw[e4] at hn
  exact⟨sm (show 1≤100000 by decide),S,sb,q2 (by rw[nt hn];rfl)⟩
 have hn:(!decide ((((gw (ps.map Prod.fst)).length:Nat):Int)=((((ps.map Prod.fst).map D.str).length:Nat):Int)))=false:=hn
 rw[e4] at hn
 rw[nf hn,zf] at q1 q2
 refine⟨_,rfl,_,rfl,wy,rfl,_,rfl,?_⟩
 refine bg (fun hw=>?_) (fun hw=>?_)
 ·exact⟨sm (show 1≤100000 by decide),S,sb,q2 (nt hw)⟩
 ·exact⟨S,sb,q1 (nf hw)⟩
theorem FE{S:aQ}{a b:Addr}{ds:List D}{R:KD}(e1:S a=some (.lst ds))(e2:S b=some (.lst []))(h:∀d∈ds,Ly S 60 d)(q:R (.bl (!ds.isEmpty)) S):JY true (.ref a) (.ref b) S R:=by
 obtain⟨ps,k1,k2,k3,k4⟩:=Ly.all h
 refine⟨.list ps,.list [],⟨ds,ps,e1,rfl,k1⟩,⟨[],[],e2,rfl,by simp only [DpAll]⟩,by simp only [PyData.canLay0];exact k2,by simp only [PyData.canLay0,PyData.canLayAll0],.inl (by simp only [PyData.depth];lia),?_⟩
 rw[if_pos rfl,CZ,show ps.isEmpty=ds.isEmpty by cases ps <;> cases ds <;> first|rfl|cases k4];exact q
theorem FF{P:Program}{w:World}{K:Frag}{mg:Str→Option Value}{base:Heap}{k:Nat}{f:Addr}{fd:FuncData}{ps:List Str}{pre:List D→Prop}
  (F:R1 P w K mg base k f fd ps (fun ds S R _=>pre ds∧∀l x y z,S l=none→R (.ref l) (S.set l (.lst [.int x,.int y,.int z])))):R1 P w K mg base k f fd ps (fun ds S R _=>pre ds∧∀l,S l=none→R (.ref l) (S.set l .well)):=by
 refine F.imp fun vs H Q E ⟨ds,S,R,Z,v,hS,⟨hp,h⟩,hR,hZ⟩=>⟨ds,S,fun d S2=>∃l x y z,S l=none∧d=.ref l∧S2=S.set l (.lst [.int x,.int y,.int z]),fun _ _=>False,v,hS,⟨hp,fun l x y z hl=>⟨l,x,y,z,hl,rfl,rfl⟩⟩,fun d S2 u H' ⟨l,x,y,z,hl,e1,e2⟩ rv hs kp=>?_,fun _ _ _ q=>q.elim⟩
 subst e1 e2
 refine hR _ _ u H' (h l hl) rv ?_ kp
 refine qH (x:=x) (y:=y) (z:=z) ae ?_
 rw[kX];exact hs
def QT(ds:List D)(l:Addr):Prop:=∃m:Int,ds=[.ref l,.int m]∧0<m∧m.natAbs.log2<9000
def MQ(ds:List D)(d:D):Prop:=∃(l:Addr) (m n:Int),ds=[.ref l,.int m]∧d=.int n∧0≤n∧n<m
def Jk:qD:=fun ds S R _=>∃(l:Addr) (m:Int),ds=[.ref l,.int m]∧0<m∧m.natAbs.log2<9000∧S l=some .well∧∀n:Int,0≤n→n<m→R (.int n) S
theorem wl{S:aQ}{l p:Addr}{c:Ce}(hw:S l=some .well)(hp:S p=none):(S.set p c) l=some .well:=(aI (xo hw hp)).trans hw
theorem dy{L:List D}{S:aQ}{p:Addr}{n:Int}{R:KD}(h0:0≤n)(h1:n<(L.length:Int))(hp:S p=none)(q:∀d,d∈L→R d S):∃ds d,(S.set p (.lst L)) p=some (.lst ds)∧gP ds n=some d∧Fo (S.set p (.lst L)) (R d):=by
 obtain⟨v,e1,e2⟩:=mM (l:=L) h0 h1
 exact⟨L,v,ae,e1,S,.new hp,q v (zM e2)⟩
theorem oJ{m:Int}(h0:0<m)(h1:m≤8000):m.natAbs.log2<9000:=by
 have h2:m.natAbs≤8000:=by lia
 have h3:m.natAbs.log2≤m.natAbs:=Nat.log2_le_self _
 lia
theorem jL:∀{l:List α}{k:Nat}{x:α},l[k]?=some x→(x::l.eraseIdx k).Perm l
 |a::l,0,x,h=>by cases h;exact .refl _
 |a::l,k+1,x,h=>by
  have ih:=jL (l:=l) (k:=k) h
  rw[List.eraseIdx_cons_succ]
  exact (List.Perm.swap a x _).trans (ih.cons a)
theorem xU(h:k<n):seqIndex? ((k:Nat):Int) n=some k:=by
 have e:(if ((k:Nat):Int)<0 then ((k:Nat):Int)+(n:Int) else ((k:Nat):Int))=((k:Nat):Int):=if_neg (by lia)
 unfold seqIndex?
 dsimp only
 rw[e,if_pos (by simp;lia)];rfl
abbrev xV:List Str:=["a","ab","b","abc","key","up","at","mark","every","is","zzzzzzzz","price"]
theorem wA:∀z∈xV,gR z=true∧PyData.strOk z=true∧z ≠ "other" := by trivial
theorem A7:xV.Nodup:=by trivial
def Cg(cs:List (Str×Str)):Prop:=Gd cs∧∀c∈cs,c.1∈xV
theorem xW(h:Cg cs):∀d∈cs.map aH,Ly S 60 d:=fun d hd=>by
 obtain⟨c,hc,rfl⟩:=zl.mp hd
 refine Ly.le (n:=1) (Ly.tup (n:=0) fun d hd=>?_) (by decide)
 simp only [zd,zq,or_false] at hd
 rcases hd with rfl|rfl
 ·exact Ly.str (wA _ (h.2 c hc)).2.1
 ·rcases (h.1.2.2 c hc).2 with e|e <;> rw[e] <;> exact Ly.str (by trivial)
theorem xX(T:Txt w K mg t):Ok P w base T.iN 1 (fun ds S R _=>(∃(ns:List Int) (k:Nat),ds=[.ir (ns.map D.int),.int (k:Nat)]∧k≤1000)∧∀l,S l=none→R (.ref l) (S.set l .well)):=by
 refine FF ?_
 refine T.iN.F.ok lS (by rintro ds S R Z ⟨⟨_,_,e,_⟩,_⟩;exact by rw[e];rfl) (fun bp A outer s H E ds S R Z hr ⟨⟨ns,k,e,hk⟩,q⟩=>?_)
 subst e
 refine⟨_,(sc (cT (i:=2) lS.nd di) (sc (DQ (si (eS Iz hr.units (dv 1) (cb bG T.bz aP (ac (dv 0) an))) (s1 (cT (i:=2) lS.nd (ix hr.units (dv 0) (dv 1)))) s0)) (s1 (sr (bE (ac (bo au hr.units (bo nG hr.units (dv 2) di) (bo bF hr.units di (dv 1))) (ac (Bd (ix hr.units (bE (ac di (ac (dv 2) an))) (ct L6 T.mi iq (ac (cm P9 hr.units (dv 2) (bo Gx hr.units di di)) an)))) (ac di an)))))))),?_⟩
 refine⟨fun ay S'=>∃c:Int,ay=[some (.ir (ns.map D.int)),some (.int (k:Nat)),some (.int c)]∧S'=S,?_,?_⟩
 ·refine⟨_,rfl,_,rfl,_,rfl,_,rfl,?_⟩
  refine bg (fun h=>?_) (fun h=>?_)
  ·have h:(k:Int)<(((ns.map D.int).length:Nat):Int):=zz h
   have IV:k<ns.length:=by rw[zb] at h;lia
   exact⟨_,rfl,_,rfl,.int ns[k],by rw[i0 (by rw[zb];exact IV),zQ];simp [IV],fo ⟨_,rfl,rfl⟩⟩
  ·exact fo ⟨0,rfl,rfl⟩
 ·rintro ay S' ⟨c,rfl,rfl⟩
  refine⟨_,rfl,(show (0:Int)<2147483647 by decide),_,rfl,.inl ⟨by decide,by decide⟩,?_⟩
  refine⟨_,rfl,sm (show 2≤100000 by decide),fun pq EX=>⟨_,rfl,⟨by decide,by decide,by decide⟩,.inr ⟨_,rfl,?_⟩⟩⟩
  have J4:∃j:Int,gP [D.int 0,D.int c] (if decide ((10:Int) ^ (18:Int).toNat≤c)=true then 1 else 0)=some (.int j):=by
   by_cases h:decide ((10:Int) ^ (18:Int).toNat≤c)=true
   ·rw[if_pos h];exact⟨c,rfl⟩
   ·rw[if_neg h];exact⟨0,rfl⟩
  obtain⟨j,hj⟩:=J4
  exact⟨_,_,ae,hj,S',.new EX,sm (show 3≤100000 by decide),fun l hl=>fo (q l _ _ _ hl)⟩
theorem FG(T:Txt w K mg t):Ok P w base T.ah 1 (Cf QT MQ):=by
 refine Av ?_
 refine T.ah.F.ok i9 (by rintro ds S R Z ⟨_,_,_,_,⟨_,e,_⟩,_⟩;exact by rw[e];rfl) (fun bp A outer s H E ds S R Z hr ⟨l,x,y,z,⟨m,e,hm,hlg⟩,hl,q⟩=>?_)
 subst e
 refine⟨_,(sc (si (eS IA hr.units (ix hr.units (dv 0) di) di) (sc (cT (i:=2) i9.nd (bo nG hr.units (ix hr.units (dv 0) di) (dv 1))) (sc (RP (dv 0) di (bo nH hr.units (ix hr.units (dv 0) di) (dv 1))) (s1 (sr (dv 2))))) s0) (sc (RP (dv 0) di (bo au hr.units (ix hr.units (dv 0) di) di)) (sc (cT (i:=2) i9.nd (bo nG hr.units (bo bF hr.units (bo au hr.units (bo au hr.units (ix hr.units (dv 0) di) (bo bF hr.units di (ix hr.units (dv 0) di))) di) di) di)) (sc (cT (i:=2) i9.nd (bo nG hr.units (bo bF hr.units (dv 2) (bo au hr.units (bo nH hr.units (dv 2) di) di)) di)) (s1 (sr (bo nG hr.units (bo nG hr.units (bo bF hr.units (dv 2) (bo au hr.units (bo nH hr.units (dv 2) di) di)) di) (dv 1)))))))),?_⟩
 refine⟨_,rfl,_,_,hl,rfl,_,rfl,?_⟩
 refine bg (fun h=>?_) (fun h=>?_)
 ·refine⟨_,rfl,_,_,hl,rfl,_,rfl,hm,?_⟩
  refine⟨_,rfl,_,_,hl,rfl,_,rfl,⟨hm,hlg⟩,_,rfl,l,_,1,1,rfl,rfl,hl,rfl,?_⟩
  exact⟨_,rfl,fo (q _ _ _ _ ⟨l,m,_,rfl,rfl,Int.emod_nonneg _ (by lia),Int.emod_lt_of_pos _ hm⟩)⟩
 ·refine⟨_,rfl,_,_,hl,rfl,_,rfl,l,_,2,2,rfl,rfl,hl,rfl,?_⟩
  rw[show ([D.int x,D.int y,D.int z].set 2 (D.int (z+1)))=[D.int x,D.int y,D.int (z+1)] from rfl]
  have K3:(S.set l (.lst [.int x,.int y,.int (z+1)])) l=some (.lst [.int x,.int y,.int (z+1)]):=ae
  refine⟨_,rfl,_,_,K3,rfl,_,rfl,_,_,K3,rfl,.inl ⟨by decide,by decide⟩,.inr ⟨by decide,by decide⟩,(show (0:Int)<2147483647 by decide),?_⟩
  have nb:∀z:Int,0≤z % 2147483647∧z % 2147483647<2147483647:=fun z=>⟨Int.emod_nonneg z (by decide),Int.emod_lt_of_pos z (by decide)⟩
  have n1:=nb ((x+7919 * (z+1)+1) * 48271)
  generalize (x+7919 * (z+1)+1) * 48271 % 2147483647=u at *
  refine⟨_,rfl,_,rfl,⟨by decide,by trivial⟩,.inl ⟨by lia,by lia⟩,(show (0:Int)<2147483647 by decide),?_⟩
  have n2:=nb (u * (u / 1009+69621))
  generalize u * (u / 1009+69621) % 2147483647=v at *
  exact⟨_,rfl,_,rfl,⟨by decide,by trivial⟩,.inl ⟨by lia,by lia⟩,(show (0:Int)<2147483399 by decide),_,rfl,hm,fo (q _ _ _ _ ⟨l,m,_,rfl,rfl,Int.emod_nonneg _ (by lia),Int.emod_lt_of_pos _ hm⟩)⟩
theorem bf(T:Txt w K mg t):Ok P w base T.ah 1 Jk :=
 (FG T).Qr <| by rintro ds S R Z ⟨l,m,e,h0,h1,hw,q⟩;exact⟨l,⟨m,e,h0,h1⟩,hw,by rintro d ⟨l',m',n,e1,e2,a,b⟩;exact by rw[e] at e1;cases e1;subst e2;exact q n a b⟩
theorem wB(T:Txt w K mg t):Ok P w base T.fY 2 (fun ds S R _=>∃l,ds=[.ref l]∧S l=some .well∧∀cs,Cg cs→R (.tup (cs.map aH)) S):=by
 refine T.fY.F.ok cZ (fun ds S R Z ⟨_,e,_⟩=>by rw[e];rfl) (fun bp A outer s H E ds S R Z hr ⟨l,e,hw,q⟩=>?_)
 subst e
 refine⟨_,(sc (cT (i:=1) cZ.nd (bE (ac ds (ac ds (ac ds (ac ds (ac ds (ac ds (ac ds (ac ds (ac ds (ac ds (ac ds (ac ds an)))))))))))))) (sc (cT (i:=2) cZ.nd (bE an)) (sc (DQ (IM (Mf T.gJ (ac (cf ((bf T).mono (by decide)) hr T.ah.m T.ah.k T.ah.b d0 (ac (dv 0) (ac (Bd (ix hr.units (bE (ac di (ac di (ac di (ac di an))))) (cf ((bf T).mono (by decide)) hr T.ah.m T.ah.k T.ah.b d0 (ac (dv 0) (ac di an))))) an))) an)) (gn (i:=3) cZ.nd) (sc (cT (i:=4) cZ.nd (bm PySem.F.plainAttrs_list PySem.F.slot_list_pop PySem.F.type_list_pop xr (dv 1) (ac (cf ((bf T).mono (by decide)) hr T.ah.m T.ah.k T.ah.b d0 (ac (dv 0) (ac (cb bG T.bz aP (ac (dv 1) an)) an))) an))) (s1 (se (bm PySem.F.plainAttrs_list PySem.F.slot_list_append PySem.F.type_list_append tV (dv 2) (ac (eB (ac (dv 4) (ac (Bd (ix hr.units (bE (ac ds (ac ds an))) (cf ((bf T).mono (by decide)) hr T.ah.m T.ah.k T.ah.b d0 (ac (dv 0) (ac di an))))) an))) an))))))) (s1 (sr (ct eC T.bD a_ (ac (dv 2) an))))))),?_⟩
 refine⟨sm (show 12≤100000 by decide),fun ln N1=>⟨sm (show 0≤100000 by decide),fun lf MR=>?_⟩⟩
 have N3:ln≠lf:=xo (ae (S:=S)) MR
 have MS:S lf=none:=by rw[aI N3.symm] at MR;exact MR
 have QU:l≠ln:=xo hw N1
 have Va:l≠lf:=xo hw MS
 have FH:((S.set ln (.lst (xV.map D.str))).set lf (.lst [])) l=some .well:=wl (wl hw N1) MR
 have NT:((S.set ln (.lst (xV.map D.str))).set lf (.lst [])) ln=some (.lst (xV.map D.str)):=(aI N3).trans ae
 have R8:((S.set ln (.lst (xV.map D.str))).set lf (.lst [])) lf=some (.lst []):=ae
 have HS:Sub S ((S.set ln (.lst (xV.map D.str))).set lf (.lst [])):=(Sub.new N1).trans (.new MR)
 refine⟨fun ay S'=>∃o3 o4 cs,ay=[some (.ref l),some (.ref ln),some (.ref lf),o3,o4]∧Cg cs∧S' lf=some (.lst (cs.map aH))∧Sub S S',?_,?_⟩
 ·show Mh _ _ _ _ _ ((S.set ln (.lst (xV.map D.str))).set lf (.lst [])) _
  generalize (S.set ln (.lst (xV.map D.str))).set lf (.lst [])=S2 at FH NT R8 HS ⊢
  refine⟨_,rfl,sm (show 4≤100000 by decide),fun p hp=>⟨_,rfl,l,_,rfl,(by decide),(by decide),wl FH hp,fun n4 R9 R_=>dy R9 R_ hp fun d hd=>?_⟩⟩
  obtain⟨m,rfl,Sa,hm⟩:∃m:Nat,d=.int m∧1≤m∧m≤9:=by
   have hd:d∈[D.int 5,.int 5,.int 5,.int 9]:=hd
   simp only [zd,zq,or_false] at hd
   rcases hd with h|h|h|h
   ·exact⟨5,h,by decide,by decide⟩
   ·exact⟨5,h,by decide,by decide⟩
   ·exact⟨5,h,by decide,by decide⟩
   ·exact⟨9,h,by decide,by decide⟩
  refine⟨l,_,rfl,(by lia),oJ (by lia) (by lia),FH,fun n h0 h1=>⟨n,rfl,by lia,by lia,?_⟩⟩
  refine⟨fun i ay S'=>∃(o3 o4:Option D) (cs:List (Str×Str)) (M:List Str),ay=[some (.ref l),some (.ref ln),some (.ref lf),o3,o4]∧(cs.map Prod.fst++M).Perm xV∧(∀c∈cs,c.2 = "number" ∨ c.2 = "word")∧cs.length=i∧S' ln=some (.lst (M.map D.str))∧S' lf=some (.lst (cs.map aH))∧S' l=some .well∧Sub S S',⟨none,none,[],xV,rfl,.refl _,fun _ h=>(nomatch h),rfl,NT,R8,FH,HS⟩,fun _ _ _ _=>trivial,?_,?_⟩
  ·rintro i d ay S' hd ⟨o3,o4,cs,M,rfl,uZ,hk,Ah,hM,hF,hW,hs⟩
   have hd:(fP 0 n.toNat)[i]?=some d:=hd
   obtain⟨hi,rfl⟩:=fR hd
   have Xa:M.length=12 - i:=by
    have:=uZ.length_eq
    rw[ze,zb,Ah] at this
    have Sb:xV.length=12:=rfl
    lia
   have DV:(M.map D.str).length=M.length:=zb _
   refine⟨_,rfl,⟨rfl,_,hM⟩,_,rfl,_,rfl,_,rfl,.inl ⟨_,hM,l,_,rfl,by lia,oJ (by lia) (by lia),hW,fun j Sd Se=>?_⟩⟩
   obtain⟨jn,rfl⟩:∃jn:Nat,j=(jn:Int):=⟨j.toNat,by lia⟩
   have C_:jn<M.length:=by lia
   have hz:M[jn]?=some (M[jn]'C_):=zO C_
   generalize M[jn]'C_=z at hz
   refine⟨ln,_,_,jn,.str z,rfl,rfl,hM,by lia,by lia,xU (by lia),by rw[zQ,hz];rfl,?_⟩
   rw[← kZ]
   have QV:(S'.set ln (.lst ((M.eraseIdx jn).map D.str))) lf=some (.lst (cs.map aH)):=(aI N3.symm).trans hF
   have QW:(S'.set ln (.lst ((M.eraseIdx jn).map D.str))) l=some .well:=(aI QU).trans hW
   have Sf:(S'.set ln (.lst ((M.eraseIdx jn).map D.str))) ln=some (.lst ((M.eraseIdx jn).map D.str)):=ae
   have DN:Sub S (S'.set ln (.lst ((M.eraseIdx jn).map D.str))):=fun b c hb=>(aI (xo hb N1)).trans (hs b c hb)
   generalize S'.set ln (.lst ((M.eraseIdx jn).map D.str))=S3 at QV QW Sf DN ⊢
   refine⟨_,rfl,⟨rfl,_,QV⟩,_,rfl,sm (show 2≤100000 by decide),fun p hp=>⟨_,rfl,l,_,rfl,(by decide),(by decide),wl QW hp,fun n2 FI FJ=>dy FI FJ hp fun d hd=>?_⟩⟩
   obtain⟨kd,rfl,Vb⟩:∃kd:Str,d=.str kd∧(kd = "number" ∨ kd = "word"):=by
    have hd:d∈[D.str "number",.str "word"]:=hd
    simp only [zd,zq,or_false] at hd
    rcases hd with h|h
    ·exact⟨_,h,.inl rfl⟩
    ·exact⟨_,h,.inr rfl⟩
   refine⟨sm (show 2≤100000 by decide),lf,_,_,rfl,rfl,QV,oy (by rw[zb];lia),?_⟩
   refine⟨_,_,cs++[(z,kd)],M.eraseIdx jn,rfl,?_,fun c hc=>?_,by rw[ze,Ah];rfl,(aI N3).trans Sf,by rw[ae,zE];rfl,(aI Va).trans QW,fun b c hb=>(aI (xo hb MS)).trans (DN b c hb)⟩
   ·rw[zE,zS]
    exact ((jL hz).append_left _).trans uZ
   ·rcases zW.mp hc with hc|hc
    ·exact hk c hc
    ·rw[zT.mp hc];exact Vb
  ·rintro ay S' ⟨o3,o4,cs,M,rfl,uZ,hk,Ah,hM,hF,hW,hs⟩
   rw[show (⟨fP 0 n.toNat,fun _=>True⟩:pj).xs.length=n.toNat from fQ] at Ah
   have Vc:=uZ.nodup_iff.mpr A7
   have JS:∀c∈cs,c.1∈xV:=fun c hc=>uZ.mem_iff.mp (yi _ (zl.mpr ⟨c,hc,rfl⟩))
   exact fo ⟨o3,o4,cs,rfl,⟨⟨by lia,(List.nodup_append.mp Vc).1,fun c hc=>⟨(wA _ (JS c hc)).1,hk c hc⟩⟩,JS⟩,hF,hs⟩
 ·rintro ay S' ⟨o3,o4,cs,rfl,hc,hF,hs⟩
  exact⟨_,rfl,_,_,rfl,.inl hF,S,hs,q cs hc⟩
abbrev Jl:List Str:=["a","ab","b","abc","a1","a10","a2","key","z","zzzzzzzzzzzz","m","c"]
abbrev MT:Str := "ab~ "
abbrev uM:Str := "ab= ~#-\"()|Z9_&"
abbrev GK:List Str:=["","a","ab","abc","b","B"," ","a b"]
theorem uN:∀z∈GK,dP z=true:=by trivial
theorem wC:∀z∈Jl,iS z=true:=by trivial
theorem Dc:∀c∈MT.cps.toList,∀n<41,dP (PySem.Txt.mul ⟨#[c]⟩ ((n:Nat):Int))=true:=by trivial
theorem Jm(c:Nat)(n:Nat)(h:n<41):MulOk ⟨#[c]⟩ (n:Int):=by
 have e:(⟨#[c]⟩:Str).length=1:=rfl
 refine⟨by simp;lia,fun h1 _=>?_,fun h1 _=>?_⟩
 ·rw[e]
  have h2:(1:Int)≤(2 ^ 63 - 1) / (n:Int):=by
   rw[Int.le_ediv_iff_mul_le (by lia)]
   lia
  show ¬ ((1:Nat):Int)>_
  lia
 ·rw[e,Nat.one_mul,yb]
  have:=sm (n:=n) (by lia)
  unfold PySem.Builtin.Str.tooLong
  exact zv (by lia)
theorem oK:∀cs:List Nat,(Str.join "" (cs.map fun c=>(⟨#[c]⟩:Str))).cps.toList=cs
 |[]=>rfl
 |[c]=>rfl
 |c::d::r=>by
  have ih:=oK (d::r)
  rw[zD,zD]
  show ((⟨#[c]⟩:Str)++("" : Str)++Str.join "" ((⟨#[d]⟩:Str)::r.map fun c=>(⟨#[c]⟩:Str))).cps.toList=c::d::r
  rw[zD] at ih
  show ((#[c]++(("" : Str)).cps)++(Str.join "" ((⟨#[d]⟩:Str)::r.map fun c=>(⟨#[c]⟩:Str))).cps).toList=c::d::r
  rw[Array.toList_append,ih]
  rfl
theorem A8:∀c∈uM.cps.toList,oz c=true:=by trivial
theorem Dd(cs:List Nat)(h:cs.length≤5):JoinOk "" (cs.map fun c=>(⟨#[c]⟩:Str))=true:=by
 refine PyProof.Rows.joinOk_of ?_
 have e:((cs.map fun c=>(⟨#[c]⟩:Str)).map (·.length)).sum=cs.length:=by
  rw[zC]
  clear h
  induction cs with
  |nil=>rfl
  |cons c r ih=>rw[zD,List.sum_cons,ih,zp];show 1+_=_;lia
 rw[e,zb]
 have:("" : Str).length=0:=rfl
 rw[this]
 lia
theorem kD:∀{xs out:List D},Paired (fun _ v=>∃c∈uM.cps.toList,v=.str ⟨#[c]⟩) xs out→∃cs:List Nat,out=(cs.map fun c=>(⟨#[c]⟩:Str)).map D.str∧cs.length=xs.length∧∀c∈cs,c∈uM.cps.toList
 |_,_,.nil=>⟨[],rfl,rfl,fun _ h=>(nomatch h)⟩
 |_,_,.cons ⟨c,hc,e⟩ r=>by
  obtain⟨cs,e1,e2,e3⟩:=kD r
  refine⟨c::cs,by rw[e,e1];rfl,by rw[zp,zp,e2],fun x hx=>?_⟩
  rcases zd.mp hx with e|hx
  ·rw[e];exact hc
  ·exact e3 x hx
theorem A9(T:Txt w K mg t):Ok P w base T.iO 2 (fun ds S R _=>∃l,ds=[.ref l]∧S l=some .well∧∀n:Int,n.natAbs<10 ^ 60→R (.int n) S):=by
 refine T.iO.F.ok mj (by rintro ds S R Z ⟨_,e,_⟩;exact by rw[e];rfl) (fun bp A outer s H E ds S R Z hr ⟨l,e,hw,q⟩=>?_)
 subst e
 refine⟨_,(sc (cT (i:=1) mj.nd (cf ((bf T).mono (by decide)) hr T.ah.m T.ah.k T.ah.b d0 (ac (dv 0) (ac di an)))) (sc (si (eS fG hr.units (dv 1) di) (s1 (sr (bo bF hr.units (bo jV hr.units di (bo bF hr.units di (cf ((bf T).mono (by decide)) hr T.ah.m T.ah.k T.ah.b d0 (ac (dv 0) (ac di an))))) (bo jV hr.units (bo jV hr.units (bo Gx hr.units di di) di) (cf ((bf T).mono (by decide)) hr T.ah.m T.ah.k T.ah.b d0 (ac (dv 0) (ac di an))))))) s0) (sc (si (eS fG hr.units (dv 1) di) (s1 (sr (bo jV hr.units (cf ((bf T).mono (by decide)) hr T.ah.m T.ah.k T.ah.b d0 (ac (dv 0) (ac di an))) di))) s0) (s1 (sr (bo jV hr.units (cf ((bf T).mono (by decide)) hr T.ah.m T.ah.k T.ah.b d0 (ac (dv 0) (ac di an))) di)))))),?_⟩
 refine⟨_,rfl,l,_,rfl,(by decide),(by decide),hw,fun n n0 n1=>?_⟩
 refine⟨_,rfl,_,rfl,?_⟩
 refine bg (fun _=>?_) (fun _=>?_)
 ·refine⟨_,rfl,l,_,rfl,(by decide),(by decide),hw,fun m m0 m1=>?_⟩
  refine⟨.inl ⟨by decide,by decide⟩,⟨by decide,by decide,by decide⟩,_,rfl,l,_,rfl,(by decide),(by decide),hw,fun k k0 k1=>?_⟩
  refine⟨.inl ⟨by lia,by lia⟩,fo (q _ ?_)⟩
  have e10:((10:Int) ^ (60:Int).toNat)=1000000000000000000000000000000000000000000000000000000000000:=by trivial
  have FK:((10:Nat) ^ 60)=1000000000000000000000000000000000000000000000000000000000000:=by trivial
  rw[e10,FK]
  rcases (show m=0∨m=1 by lia) with rfl|rfl
  ·lia
  ·lia
 ·refine⟨_,rfl,_,rfl,?_⟩
  have FK:((10:Nat) ^ 60)=1000000000000000000000000000000000000000000000000000000000000:=by trivial
  refine bg (fun _=>?_) (fun _=>?_)
  ·exact⟨_,rfl,l,_,rfl,(by decide),(by decide),hw,fun m m0 m1=>fo (q _ (by rw[FK];lia))⟩
  ·exact⟨_,rfl,l,_,rfl,(by decide),(by decide),hw,fun m m0 m1=>fo (q _ (by rw[FK];lia))⟩
theorem FL(T:Txt w K mg t):Ok P w base T.oo 2 (fun ds S R _=>∃l,ds=[.ref l]∧S l=some .well∧∀z:Str,dP z=true→R (.str z) S):=by
 refine T.oo.F.ok lT (by rintro ds S R Z ⟨_,e,_⟩;exact by rw[e];rfl) (fun bp A outer s H E ds S R Z hr ⟨l,e,hw,q⟩=>?_)
 subst e
 refine⟨_,(sc (cT (i:=1) lT.nd (cf ((bf T).mono (by decide)) hr T.ah.m T.ah.k T.ah.b d0 (ac (dv 0) (ac di an)))) (sc (si (eS fG hr.units (dv 1) di) (s1 (sr (bo bF hr.units (ix hr.units ds (cf ((bf T).mono (by decide)) hr T.ah.m T.ah.k T.ah.b d0 (ac (dv 0) (ac di an)))) (cf ((bf T).mono (by decide)) hr T.ah.m T.ah.k T.ah.b d0 (ac (dv 0) (ac di an)))))) s0) (sc (si (eS fG hr.units (dv 1) di) (sc (cT (i:=2) lT.nd ds) (s1 (sr (bm zF yq yr iA ds (ac (nI (N:=["_law_k","_law_signs","_law_well_here"]) (src:=[none,some 2,some 0]) (md (af j9) ["_law_well_here","_law_way","_law_signs"] rfl rfl (by trivial)) (Mf T.gJ (ac (cf ((bf T).mono (by decide)) hr T.ah.m T.ah.k T.ah.b d0 (ac (dv 0) (ac di an))) an)) (px (show (["_law_k","_law_signs","_law_well_here"]:List Str).Nodup by trivial)) (aK rfl) aL (fun _ _ _ _ _=>mf) (fun _ _ _ _ _=>(ix hr.units (dv 1) (cf ((bf T).mono (by decide)) hr T.ah.m T.ah.k T.ah.b d0 (ac (dv 2) (ac di an)))))) an))))) s0) (s1 (sr (Bd (ix hr.units (bE (ac ds (ac ds (ac ds (ac ds (ac ds (ac ds (ac ds (ac ds an))))))))) (cf ((bf T).mono (by decide)) hr T.ah.m T.ah.k T.ah.b d0 (ac (dv 0) (ac di an)))))))))),?_⟩
 refine⟨_,rfl,l,_,rfl,(by decide),(by decide),hw,fun n n0 n1=>?_⟩
 refine⟨_,rfl,_,rfl,?_⟩
 refine bg (fun _=>?_) (fun _=>?_)
 ·refine⟨_,rfl,l,_,rfl,(by decide),(by decide),hw,fun m m0 m1=>?_⟩
  obtain⟨c,ac,hc⟩:=mM (l:=MT.cps.toList) m0 (show m<4 from m1)
  refine⟨c,sm (show 4≤100000 by decide),ac,_,rfl,l,_,rfl,(by decide),(by decide),hw,fun k k0 k1=>?_⟩
  obtain⟨k',rfl⟩:∃k':Nat,k=(k':Int):=⟨k.toNat,by lia⟩
  exact⟨Jm c k' (by lia),fo (q _ (Dc c (zM hc) k' (by lia)))⟩
 ·refine⟨_,rfl,_,rfl,?_⟩
  refine bg (fun _=>?_) (fun _=>?_)
  ·refine⟨rfl,_,rfl,l,_,rfl,(by decide),(by decide),hw,fun m m0 m1=>⟨m,rfl,by lia,by lia,?_⟩⟩
   refine iT (fun _ v=>∃c∈uM.cps.toList,v=.str ⟨#[c]⟩) trivial (by show (fP 0 m.toNat).length≤_;rw[fQ];lia) (fun d hd Q hQ=>?_) fun out ho p hp=>?_
   ·refine⟨_,rfl,_,rfl,l,_,rfl,(by decide),(by decide),hw,fun j j0 j1=>?_⟩
    obtain⟨c,ac,hc⟩:=mM (l:=uM.cps.toList) j0 (show j<15 from j1)
    exact⟨c,sm (show 15≤100000 by decide),ac,hQ _ ⟨c,zM hc,rfl⟩⟩
   ·obtain⟨cs,rfl,hl,Nz⟩:=kD ho
    have hl:cs.length=m.toNat:=hl.trans fQ
    refine⟨"",cs.map fun c=>(⟨#[c]⟩:Str),_,rfl,rfl,ae,Dd cs (by lia),S,.new hp,q _ ?_⟩
    have hj:(PySem.Txt.join "" (cs.map fun c=>(⟨#[c]⟩:Str))).cps.toList=cs:=by
     rw[iU];exact oK cs
    unfold dP
    rw[hj,zy (show (PySem.Txt.join "" (cs.map fun c=>(⟨#[c]⟩:Str))).cps.size≤40 by rw[ag,hj];lia),zf,zJ]
    exact fun c hc=>A8 c (Nz c hc)
  ·refine⟨sm (show 8≤100000 by decide),fun p hp=>⟨_,rfl,l,_,rfl,(by decide),(by decide),wl hw hp,fun n h0 h1=>dy h0 h1 hp fun d hd=>?_⟩⟩
   have hd:d∈GK.map D.str:=hd
   obtain⟨z,hz,rfl⟩:=zl.mp hd
   exact fo (q z (uN z hz))
theorem Df(T:Txt w K mg t):Ok P w base T.kj 3 (fun ds S R _=>∃l k,ds=[.ref l,.str k]∧S l=some .well∧∀v,wu v→gf k v=true→R v S):=by
 refine T.kj.F.ok wq (by rintro ds S R Z ⟨_,_,e,_⟩;exact by rw[e];rfl) (fun bp A outer s H E ds S R Z hr ⟨l,k,e,hw,q⟩=>?_)
 subst e
 refine⟨_,(sc (si (eS fG hr.units (cf ((bf T).mono (by decide)) hr T.ah.m T.ah.k T.ah.b d0 (ac (dv 0) (ac di an))) di) (s1 (sr dn)) s0) (sc (si (eS fG hr.units (dv 1) ds) (s1 (sr (cf ((A9 T).mono (by decide)) hr T.iO.m T.iO.k T.iO.b d0 (ac (dv 0) an)))) s0) (s1 (sr (cf ((FL T).mono (by decide)) hr T.oo.m T.oo.k T.oo.b d0 (ac (dv 0) an)))))),?_⟩
 refine⟨_,rfl,l,_,rfl,(by decide),(by decide),hw,fun n n0 n1=>⟨_,rfl,?_⟩⟩
 refine bg (fun _=>?_) (fun _=>?_)
 ·exact fo (q .ax (.inl rfl) rfl)
 refine⟨_,rfl,_,rfl,?_⟩
 refine bg (fun h=>?_) (fun h=>?_)
 ·have h:k = "number" := zz h
  exact⟨_,rfl,l,rfl,hw,fun i hi=>fo (q _ (.inr (.inl ⟨i,rfl,hi⟩)) (by unfold gf;rw[if_pos h];rfl))⟩
 ·have h:¬ k = "number" := zU h
  exact⟨_,rfl,l,rfl,hw,fun z hz=>fo (q _ (.inr (.inr ⟨z,rfl,hz⟩)) (by unfold gf;rw[if_neg h];exact hz))⟩
theorem Jn(T:Txt w K mg t):Ok P w base T.uA 2 (fun ds S R _=>∃l,ds=[.ref l]∧S l=some .well∧∀z,iS z=true→R (.str z) S):=by
 refine T.uA.F.ok uG (by rintro ds S R Z ⟨_,e,_⟩;exact by rw[e];rfl) (fun bp A outer s H E ds S R Z hr ⟨l,e,hw,q⟩=>?_)
 subst e
 refine⟨_,(sc (cT (i:=1) uG.nd (bE (ac ds (ac ds (ac ds (ac ds (ac ds (ac ds (ac ds (ac ds (ac ds (ac ds (ac ds (ac ds an)))))))))))))) (s1 (sr (ix hr.units (dv 1) (cf ((bf T).mono (by decide)) hr T.ah.m T.ah.k T.ah.b d0 (ac (dv 0) (ac di an))))))),?_⟩
 refine⟨sm (show 12≤100000 by decide),fun p hp=>⟨_,rfl,_,rfl,l,_,rfl,(by decide),(by decide),wl hw hp,fun n h0 h1=>?_⟩⟩
 obtain⟨v,e1,e2⟩:=mM (l:=Jl.map D.str) h0 (show n<12 from h1)
 obtain⟨z,hz,rfl⟩:=zl.mp (zM e2)
 exact⟨Jl.map D.str,_,ae,e1,S,.new hp,q z (wC z hz)⟩
def OG(cs:List (Str×Str))(ps:List (Str×Str×Str))(M:List (Str×Str)):Prop:=(ps.map Prod.fst++M.map Prod.fst).Perm (cs.map Prod.fst)∧∀p∈ps,jK p.2.1=true∧qj p.2.2=true
theorem OG.ord(hg:Gd cs)(h:OG cs ps M)(hw:jK wy=true):kC cs ps wy=true:=by
 unfold kC
 have hl:=h.1.length_eq
 rw[ze,zb,zb,zb] at hl
 have h8:=hg.1
 rw[zy (show ps.length≤8 by lia),hw,zy (List.nodup_append.mp (h.1.nodup_iff.mpr hg.2.1)).1,zJ.mpr]
 ·rfl
 intro p hp
 unfold bc
 rw[(h.2 p hp).1,(h.2 p hp).2,zy (h.1.mem_iff.mp (yi _ (zl.mpr ⟨p,hp,rfl⟩)))]
 rfl
theorem Dg{cs M:List (Str×Str)}(h:Cg cs)(hm:∀c∈M,c∈cs){S:aQ} : ∀d∈M.map aH,Ly S 60 d:=fun d hd=>by
 obtain⟨c,hc,rfl⟩:=zl.mp hd
 exact xW h _ (zl.mpr ⟨c,hm c hc,rfl⟩)
theorem Dh(T:Txt w K mg t):Ok P w base T.kl 2 (fun ds S R _=>∃l cs,ds=[.ref l,.tup (cs.map aH)]∧Cg cs∧S l=some .well∧∀(ps:List (Str×Str×Str)) (wy:Str),kC cs ps wy=true→R (.tup [.tup (ps.map p3),.str wy]) S):=by
 refine T.kl.F.ok dr (fun ds S R Z ⟨_,_,e,_⟩=>by rw[e];rfl) (fun bp A outer s H E ds S R Z hr ⟨l,cs,e,hg,hw,q⟩=>?_)
 subst e
 have h8:=hg.1.1
 refine⟨_,(sc (cT (i:=2) dr.nd (ct IE T.Je Ew (ac (dv 1) an))) (sc (cT (i:=3) dr.nd (bE an)) (sc (DQ (IM (Mf T.gJ (ac (cf ((bf T).mono (by decide)) hr T.ah.m T.ah.k T.ah.b d0 (ac (dv 0) (ac (Bd (ix hr.units (bE (ac di (ac di (ac di an)))) (cf ((bf T).mono (by decide)) hr T.ah.m T.ah.k T.ah.b d0 (ac (dv 0) (ac di an))))) an))) an)) (gn (i:=4) dr.nd) (s1 (si (eS fN hr.units (dv 2) (bE an)) (sc (sa (bm PySem.F.plainAttrs_list PySem.F.slot_list_pop PySem.F.type_list_pop xr (dv 2) (ac (cf ((bf T).mono (by decide)) hr T.ah.m T.ah.k T.ah.b d0 (ac (dv 0) (ac (cb bG T.bz aP (ac (dv 2) an)) an))) an)) (gt (n:=2) (gc (gn (i:=5) dr.nd) (gc (gn (i:=6) dr.nd) g0)))) (s1 (se (bm PySem.F.plainAttrs_list PySem.F.slot_list_append PySem.F.type_list_append tV (dv 3) (ac (eB (ac (dv 5) (ac (Bd (ix hr.units (bE (ac ds (ac ds an))) (cf ((bf T).mono (by decide)) hr T.ah.m T.ah.k T.ah.b d0 (ac (dv 0) (ac di an))))) (ac (Bd (ix hr.units (bE (ac ds (ac ds an))) (cf ((bf T).mono (by decide)) hr T.ah.m T.ah.k T.ah.b d0 (ac (dv 0) (ac di an))))) an)))) an))))) s0)))) (s1 (sr (eB (ac (ct eC T.bD a_ (ac (dv 3) an)) (ac (Bd (ix hr.units (bE (ac ds (ac ds an))) (cf ((bf T).mono (by decide)) hr T.ah.m T.ah.k T.ah.b d0 (ac (dv 0) (ac di an))))) an)))))))),?_⟩
 refine⟨_,rfl,_,_,rfl,.inr rfl,fun ll N4=>⟨sm (show 0≤100000 by decide),fun lp MU=>?_⟩⟩
 have N5:ll≠lp:=xo (ae (S:=S)) MU
 have MV:S lp=none:=by rw[aI N5.symm] at MU;exact MU
 have QU:l≠ll:=xo hw N4
 have Vd:l≠lp:=xo hw MV
 have FH:((S.set ll (.lst (cs.map aH))).set lp (.lst [])) l=some .well:=wl (wl hw N4) MU
 have Sg:((S.set ll (.lst (cs.map aH))).set lp (.lst [])) ll=some (.lst (cs.map aH)):=(aI N5).trans ae
 have Sh:((S.set ll (.lst (cs.map aH))).set lp (.lst [])) lp=some (.lst []):=ae
 have HS:Sub S ((S.set ll (.lst (cs.map aH))).set lp (.lst [])):=(Sub.new N4).trans (.new MU)
 refine⟨fun ay S'=>∃(o4 o5 o6:Option D) (ps:List (Str×Str×Str)) (M:List (Str×Str)),ay=[some (.ref l),some (.tup (cs.map aH)),some (.ref ll),some (.ref lp),o4,o5,o6]∧OG cs ps M∧S' lp=some (.lst (ps.map p3))∧S' l=some .well∧Sub S S',?_,?_⟩
 ·generalize (S.set ll (.lst (cs.map aH))).set lp (.lst [])=S2 at FH Sg Sh HS ⊢
  refine⟨_,rfl,sm (show 3≤100000 by decide),fun p hp=>⟨_,rfl,l,_,rfl,(by decide),(by decide),wl FH hp,fun n3 Ve Vf=>dy Ve Vf hp fun d hd=>?_⟩⟩
  obtain⟨m,rfl,Sa,hm⟩:∃m:Nat,d=.int m∧1≤m∧m≤9:=by
   have hd:d∈[D.int 4,.int 4,.int 9]:=hd
   simp only [zd,zq,or_false] at hd
   rcases hd with h|h|h
   ·exact⟨4,h,by decide,by decide⟩
   ·exact⟨4,h,by decide,by decide⟩
   ·exact⟨9,h,by decide,by decide⟩
  refine⟨l,_,rfl,(by lia),oJ (by lia) (by lia),FH,fun n h0 h1=>⟨n,rfl,by lia,by lia,?_⟩⟩
  refine⟨fun i ay S'=>∃(o4 o5 o6:Option D) (ps:List (Str×Str×Str)) (M:List (Str×Str)),ay=[some (.ref l),some (.tup (cs.map aH)),some (.ref ll),some (.ref lp),o4,o5,o6]∧OG cs ps M∧(∀c∈M,c∈cs)∧M.length≤8∧S' ll=some (.lst (M.map aH))∧S' lp=some (.lst (ps.map p3))∧S' l=some .well∧Sub S S',⟨none,none,none,[],cs,rfl,⟨.refl _,fun _ h=>(nomatch h)⟩,fun _ h=>h,h8,Sg,Sh,FH,HS⟩,fun _ _ _ _=>trivial,?_,?_⟩
  ·rintro i d ay S' hd ⟨o4,o5,o6,ps,M,rfl,GL,N6,Si,hL,hP,hW,hs⟩
   have hd:(fP 0 n.toNat)[i]?=some d:=hd
   obtain⟨hi,rfl⟩:=fR hd
   have DV:(M.map aH).length=M.length:=zb _
   refine⟨_,rfl,sm (show 0≤100000 by decide),fun pe MW=>FE ((Sub.new MW) _ _ hL) ae (Dg hg N6) ⟨_,rfl,?_⟩⟩
   have MX:=(Sub.new (c:=.lst []) MW) _ _ hL
   have QX:=(Sub.new (c:=.lst []) MW) _ _ hP
   have N7:=wl (c:=.lst []) hW MW
   have Gk:=hs.trans (.new (c:=.lst []) MW)
   generalize S'.set pe (.lst [])=S3 at MX QX N7 Gk ⊢
   refine bg (fun sM=>?_) (fun sM=>?_)
   ·have tJ:0<M.length:=by
     have sM:(!(M.map aH).isEmpty)=true:=sM
     cases M with
     |nil=>cases sM
     |cons a M=>exact Nat.succ_pos _
    refine⟨_,rfl,⟨rfl,_,MX⟩,_,rfl,_,rfl,_,rfl,.inl ⟨_,MX,l,_,rfl,by lia,oJ (by lia) (by lia),N7,fun j Sd Se=>?_⟩⟩
    obtain⟨jn,rfl⟩:∃jn:Nat,j=(jn:Int):=⟨j.toNat,by lia⟩
    have C_:jn<M.length:=by lia
    have hz:M[jn]?=some (M[jn]'C_):=zO C_
    generalize M[jn]'C_=c at hz
    have Xb:=zM hz
    refine⟨ll,_,_,jn,aH c,rfl,rfl,MX,by lia,by lia,xU (by lia),by rw[zQ,hz];rfl,?_⟩
    rw[← kZ]
    have GN:(S3.set ll (.lst ((M.eraseIdx jn).map aH))) lp=some (.lst (ps.map p3)):=(aI N5.symm).trans QX
    have N8:(S3.set ll (.lst ((M.eraseIdx jn).map aH))) l=some .well:=(aI QU).trans N7
    have Sj:(S3.set ll (.lst ((M.eraseIdx jn).map aH))) ll=some (.lst ((M.eraseIdx jn).map aH)):=ae
    have Sk:Sub S (S3.set ll (.lst ((M.eraseIdx jn).map aH))):=fun b c hb=>(aI (xo hb N4)).trans (Gk b c hb)
    generalize S3.set ll (.lst ((M.eraseIdx jn).map aH))=S4 at GN N8 Sj Sk ⊢
    refine⟨_,rfl,rfl,_,_,rfl,_,_,rfl,rfl,?_⟩
    refine⟨_,rfl,⟨rfl,_,GN⟩,_,rfl,sm (show 2≤100000 by decide),fun p hp=>⟨_,rfl,l,_,rfl,(by decide),(by decide),wl N8 hp,fun n2 FI FJ=>dy FI FJ hp fun d hd=>?_⟩⟩
    obtain⟨wy,rfl,QY⟩:∃wy:Str,d=.str wy∧jK wy=true:=by
     have hd:d∈[D.str "up",.str "down"]:=hd
     simp only [zd,zq,or_false] at hd
     rcases hd with h|h
     ·exact⟨_,h,(by trivial)⟩
     ·exact⟨_,h,(by trivial)⟩
    refine⟨sm (show 2≤100000 by decide),fun p hp=>⟨_,rfl,l,_,rfl,(by decide),(by decide),wl N8 hp,fun n2 FI FJ=>dy FI FJ hp fun d hd=>?_⟩⟩
    obtain⟨en,rfl,sL⟩:∃en:Str,d=.str en∧qj en=true:=by
     have hd:d∈[D.str "first",.str "last"]:=hd
     simp only [zd,zq,or_false] at hd
     rcases hd with h|h
     ·exact⟨_,h,(by trivial)⟩
     ·exact⟨_,h,(by trivial)⟩
    have jl:ps.length≤8:=by
     have hl:=GL.1.length_eq
     rw[ze,zb,zb,zb] at hl
     lia
    refine⟨sm (show 3≤100000 by decide),lp,_,_,rfl,rfl,GN,oy (by rw[zb];lia),?_⟩
    refine⟨_,_,_,ps++[(c.1,wy,en)],M.eraseIdx jn,rfl,⟨?_,fun x hx=>?_⟩,fun x hx=>N6 x (List.mem_of_mem_eraseIdx hx),by have:=List.length_eraseIdx_le M jn;lia,(aI N5).trans Sj,by rw[ae,zE];rfl,(aI Vd).trans N8,fun b c hb=>(aI (xo hb MV)).trans (Sk b c hb)⟩
    ·rw[zE,zS]
     exact (((jL hz).map Prod.fst).append_left _).trans GL.1
    ·rcases zW.mp hx with hx|hx
     ·exact GL.2 x hx
     ·rw[zT.mp hx];exact⟨QY,sL⟩
   ·exact⟨_,_,_,ps,M,rfl,GL,N6,Si,MX,QX,N7,Gk⟩
  ·rintro ay S' ⟨o4,o5,o6,ps,M,rfl,GL,N6,Si,hL,hP,hW,hs⟩
   exact fo ⟨o4,o5,o6,ps,M,rfl,GL,hP,hW,hs⟩
 ·rintro ay S' ⟨o4,o5,o6,ps,M,rfl,GL,hP,hW,hs⟩
  refine⟨_,rfl,_,_,rfl,.inl hP,sm (show 2≤100000 by decide),fun p hp=>⟨_,rfl,l,_,rfl,(by decide),(by decide),wl hW hp,fun n2 FI FJ=>dy FI FJ hp fun d hd=>?_⟩⟩
  obtain⟨wy,rfl,QY⟩:∃wy:Str,d=.str wy∧jK wy=true:=by
   have hd:d∈[D.str "up",.str "down"]:=hd
   simp only [zd,zq,or_false] at hd
   rcases hd with h|h
   ·exact⟨_,h,(by trivial)⟩
   ·exact⟨_,h,(by trivial)⟩
  exact⟨sm (show 2≤100000 by decide),S,hs,q ps wy (GL.ord hg.1 QY)⟩
def TV(cs:List (Str×Str))(ps:List (Str×Str×Str))(vs:List D):Prop:=vs.length=ps.length∧(∀v∈vs,wu v)∧∀(i:Nat) (p:Str×Str×Str) (v:D),ps[i]?=some p→vs[i]?=some v→∃k,(p.1,k)∈cs∧gf k v=true
theorem Jo(h:wu v):Gt S v:=by
 rcases h with rfl|⟨n,rfl,hn⟩|⟨z,rfl,hz⟩
 ·exact⟨⟨.ax,rfl⟩,fun _ e=>(by cases e)⟩
 ·exact⟨⟨.int,rfl⟩,fun _ e=>(by cases e)⟩
 ·exact gt_str (zA (fc hz).1 (by decide))
theorem Di(h:iS z=true):z.cps.size≤12:=by
 unfold iS at h
 simp only [zj,zt] at h
 lia
def jw(z:Str):Bool:=decide (z = "ahead") || decide (z = "behind")
theorem xY(hg:Gd cs)(h:bc cs p=true):gR p.1=true∧GJ p∧jK p.2.1=true∧qj p.2.2=true:=by
 unfold bc at h
 simp only [zj,zt] at h
 obtain⟨h1,h2,h3⟩:=h
 obtain⟨c,hc,e⟩:=zl.mp h1
 have hn:=(hg.2.2 c hc).1
 rw[e] at hn
 have s1:p.1.cps.size≤8:=by
  unfold gR at hn
  simp only [zj,zt] at hn
  lia
 have s2:p.2.1.cps.size≤4:=by
  unfold jK at h2
  simp only [yg,zt] at h2
  rcases h2 with e|e <;> rw[e] <;> decide +kernel
 have s3:p.2.2.cps.size≤5:=by
  unfold qj at h3
  simp only [yg,zt] at h3
  rcases h3 with e|e <;> rw[e] <;> decide +kernel
 exact⟨hn,⟨by lia,by lia,by lia⟩,h2,h3⟩
theorem iW(h:kC cs ps wy=true):ps.length≤8∧(∀p∈ps,bc cs p=true)∧(ps.map Prod.fst).Nodup∧jK wy=true:=by
 unfold kC at h
 simp only [zj,zt,zJ] at h
 exact h
structure Mark where
 m:Nat
 ps:List (Str×Str×Str)
 wy:Str
 vs:List D
 ky:Str
 sd:Str
def dQ(p:Str×Str×Str):List Str:=[p.1,p.2.1,p.2.2]
def gk(ps:List (Str×Str×Str))(wy:Str):List Str:=ps.flatMap dQ++(["key",wy]:List Str)
def Mark.oD(x:Mark):D:=.tup [.tup (x.ps.map p3),.str x.wy]
def Mark.gD(x:Mark):D:=.tup [.tup [.tup x.vs,.str x.ky],.str x.sd]
def Mark.d(x:Mark):D:=.tup [.int (x.m:Nat),x.oD,x.gD]
def Mark.ws(x:Mark):List Str:=((((["mark",bZ (x.m:Nat)]:List Str)++gk x.ps x.wy)++(["at"]:List Str))++x.vs.map bV)++([x.ky,x.sd]:List Str)
def Mark.tx(x:Mark):Str:=Txt.join " " x.ws
structure Mark.ok(x:Mark)(cs:List (Str×Str)):Prop where
 g:Gd cs
 m:x.m<10 ^ 18
 o:kC cs x.ps x.wy=true
 v:TV cs x.ps x.vs
 k:iS x.ky=true
 s:jw x.sd=true
def Wf(u:Str):Prop:=u.cps.size≤90∧PyData.strOk u=true∧32∉u.cps.toList
theorem wD(h:u.cps.size≤90)(hc:∀c∈u.cps.toList,(97≤c∧c≤122)∨(48≤c∧c≤57)∨c=45):Wf u:=by
 refine⟨h,fb.mpr fun c m=>?_,fun m=>?_⟩
 ·have:=hc c m;lia
 ·have:=hc 32 m;lia
theorem sk(h:gR u=true):Wf u:=by
 unfold gR at h
 simp only [zj,zt,zJ] at h
 refine wD (by lia) fun c m=>.inl ?_
 have:=h.2 c m
 unfold isLet at this
 simpa only [zj,zt] using this
theorem Dj(h:iS u=true):Wf u:=by
 have hs:=Di h
 unfold iS at h
 simp only [zj,zt,zJ] at h
 refine wD (by lia) fun c m=>?_
 have:=h.2 c m
 unfold isLet cG at this
 simp only [yg,zj,zt] at this
 rcases this with h|h
 ·exact .inl h
 ·exact .inr (.inl h)
theorem lY:∀u∈(["mark","key","at","up","down","first","last","ahead","behind"]:List Str),u.cps.size≤90∧PyData.strOk u=true∧32∉u.cps.toList:=by trivial
theorem so(h:jK u=true):Wf u:=by
 unfold jK at h
 simp only [yg,zt] at h
 rcases h with e|e <;> rw[e] <;> exact lY _ (by simp)
theorem Dk(h:qj u=true):Wf u:=by
 unfold qj at h
 simp only [yg,zt] at h
 rcases h with e|e <;> rw[e] <;> exact lY _ (by simp)
theorem xZ(h:jw u=true):Wf u:=by
 unfold jw at h
 simp only [yg,zt] at h
 rcases h with e|e <;> rw[e] <;> exact lY _ (by simp)
theorem Dm(h:m<10 ^ 18):((m:Nat):Int).natAbs<10 ^ 60:=by
 have:(10:Nat) ^ 18≤10 ^ 60:=Nat.pow_le_pow_right (by decide) (by decide)
 lia
theorem Jp(h:n.natAbs<10 ^ 60):Wf (bZ n):=by
 have:=jZ h
 refine wD (by lia) fun c m=>?_
 rcases qJ n c m with h|h
 ·exact .inr (.inr h)
 ·exact .inr (.inl h)
theorem Mark.ok.words{x:Mark}{cs:List (Str×Str)}(h:x.ok cs):∀u∈x.ws,Wf u:=by
 obtain⟨h8,hp,_,hw⟩:=iW h.o
 intro u hu
 unfold Mark.ws gk at hu
 simp only [zW,zd,zq,or_false,List.mem_flatMap,zl] at hu
 rcases hu with (((((rfl|rfl)|(⟨p,uZ,hu⟩|(rfl|rfl)))|rfl)|⟨v,hv,rfl⟩)|(rfl|rfl))
 ·exact lY _ (by simp)
 ·exact Jp (Dm h.m)
 ·obtain⟨h1,_,h2,h3⟩:=xY h.g (hp p uZ)
  unfold dQ at hu
  simp only [zd,zq,or_false] at hu
  rcases hu with rfl|rfl|rfl
  ·exact sk h1
  ·exact so h2
  ·exact Dk h3
 ·exact lY _ (by simp)
 ·exact so hw
 ·exact lY _ (by simp)
 ·exact Jg (h.v.2.1 v hv)
 ·exact Dj h.k
 ·exact xZ h.s
theorem pw_len:∀ps:List (Str×Str×Str),(ps.flatMap dQ).length=3 * ps.length
 |[]=>rfl
 |p::ps=>by rw[yy,ze,pw_len ps,zp];show 3+_=_;lia
theorem Mark.wF{x:Mark}(h:x.vs.length=x.ps.length):x.ws.length=7+4 * x.ps.length:=by
 unfold Mark.ws gk
 simp only [ze,pw_len,zb,zp,List.length_nil]
 lia
theorem x5(h:∀u∈us,Wf u)(hl:us.length≤39):JoinOk " " us=true∧(Txt.join " " us).cps.size≤5000∧PyData.strOk (Txt.join " " us)=true:=by
 have h1:(" " : Str).length=1:=by trivial
 have hs:=C4 (n:=90) fun u hu=>(h u hu).1
 have:us.length * 90≤39 * 90:=Nat.mul_le_mul_right _ hl
 refine⟨PyProof.Rows.joinOk_of (by rw[h1];lia),?_,xO (by trivial) fun u hu=>(h u hu).2.1⟩
 have:=uL " " us
 rw[h1] at this
 show (Txt.join " " us).length≤_
 lia
theorem Mark.ok.len{x:Mark}{cs:List (Str×Str)}(h:x.ok cs):x.ws.length≤39:=by
 have:=Mark.wF h.v.1
 have:=(iW h.o).1
 lia
theorem Mark.ok.split{x:Mark}{cs:List (Str×Str)}(h:x.ok cs):Txt.split x.tx " " = x.ws:=by
 refine nQ ?_ fun p hp=>(h.words p hp).2.2
 intro e
 have:=Mark.wF h.v.1
 rw[e] at this
 have:(0:Nat)=_:=this
 lia
theorem FN(e:l=a++m++b)(hi:i=a.length)(hj:j=b.length)(h1:1≤j):ar l (some ((i:Nat):Int)) (some (-((j:Nat):Int)))=m:=by
 subst e hi hj
 have hl:(a++m++b).length=a.length+m.length+b.length:=by rw[ze,ze]
 unfold ar
 have e2:HT.sIx (a++m++b).length (a++m++b).length (some (-((b.length:Nat):Int)))=a.length+m.length:=by
  have:=HT.clip_eq (-((b.length:Nat):Int)) (a++m++b).length (a++m++b).length
  rw[if_pos (by lia),hl] at this
  rw[hl]
  lia
 rw[HT.sIx_nat,e2,Nat.min_eq_left (by lia),zS,List.drop_left,show a.length+m.length - a.length=m.length by lia,List.take_left]
theorem oM{α:Type}{l a m b:List α}{i j:Nat}(e:l=a++m++b)(hi:i=a.length)(hj:j=a.length+m.length):ar l (some ((i:Nat):Int)) (some ((j:Nat):Int))=m:=by
 subst e hi hj
 rw[xP _ (by rw[ze,ze];lia) (by lia),zS,List.drop_left,show a.length+m.length - a.length=m.length by lia,List.take_left]
theorem FO(h:Sub S S'):Sub (S.set p c) (S'.set p c):=fun b x hb=>by
 by_cases e:b=p
 ·subst e;rw[ae] at hb ⊢;exact hb
 ·rw[aI e] at hb ⊢;exact h b x hb
theorem uO(h:Sub S S')(hp:S' p=none):S p=none:=by
 cases e:S p with
 |none=>rfl
 |some c=>rw[h _ _ e] at hp;cases hp
theorem oN(T:Txt w K mg t):Ok P w base T.dI 1 (fun ds S R _=>∃ps wy,ds=[.tup [.tup (ps.map p3),.str wy]]∧ps.length≤8∧∀p,S p=none→R (.ref p) (S.set p (.lst ((gk ps wy).map D.str)))):=by
 refine T.dI.F.ok eZ (by rintro ds S R Z ⟨_,_,e,_⟩;exact by rw[e];rfl) (fun bp A outer s H E ds S R Z hr ⟨ps,wy,e,h8,q⟩=>?_)
 subst e
 refine⟨_,(sc (cT (i:=1) eZ.nd (bE an)) (sc (DQ (IM (EU (ix hr.units (dv 0) di)) (gn (i:=2) eZ.nd) (s1 (se (bm PySem.F.plainAttrs_list PySem.F.slot_list_extend PySem.F.type_list_extend Az (dv 1) (ac (dv 2) an)))))) (s1 (sr (bo au hr.units (dv 1) (bE (ac ds (ac (ix hr.units (dv 0) di) an)))))))),?_⟩
 refine⟨sm (show 0≤100000 by decide),fun lw Vg=>?_⟩
 refine⟨fun ay S'=>∃o2,ay=[some (.tup [.tup (ps.map p3),.str wy]),some (.ref lw),o2]∧S'=S.set lw (.lst ((ps.flatMap dQ).map D.str)),?_,?_⟩
 ·refine⟨_,rfl,_,rfl,_,.inl rfl,?_⟩
  refine⟨fun i ay S'=>∃o2,ay=[some (.tup [.tup (ps.map p3),.str wy]),some (.ref lw),o2]∧S'=S.set lw (.lst (((ps.take i).flatMap dQ).map D.str)),⟨none,rfl,rfl⟩,fun _ _ _ _=>trivial,?_,?_⟩
  ·rintro i d ay S' hd ⟨o2,rfl,rfl⟩
   have hd:(ps.map p3)[i]?=some d:=hd
   rw[zQ] at hd
   cases e5:ps[i]? with
   |none=>rw[e5] at hd;cases hd
   |some p =>
    rw[e5] at hd;cases hd
    have hlen:(((ps.take i).flatMap dQ).map D.str).length≤24:=by
     rw[zb,pw_len,zG];lia
    refine⟨_,rfl,⟨rfl,_,ae⟩,_,rfl,lw,_,_,rfl,rfl,ae,sm (by show _+3≤_;lia),?_⟩
    refine⟨_,rfl,?_⟩
    rw[kX,take_snoc e5,List.flatMap_append,zE]
    rfl
  ·rintro ay S' ⟨o2,rfl,rfl⟩
   rw[show (⟨ps.map p3,fun _=>True⟩:pj).xs.length=ps.length from zb _,List.take_length]
   exact fo ⟨o2,rfl,rfl⟩
 ·rintro ay S' ⟨o2,rfl,rfl⟩
  have hlen:((ps.flatMap dQ).map D.str).length≤24:=by
   rw[zb,pw_len];lia
  refine⟨_,rfl,_,rfl,_,rfl,sm (show 2≤100000 by decide),fun pq EX=>⟨_,_,(Sub.new EX) _ _ ae,ae,sm (by show _+2≤_;lia),fun p hp=>?_⟩⟩
  have sb:Sub S ((S.set lw (.lst ((ps.flatMap dQ).map D.str))).set pq (.lst [.str "key",.str wy])):=(Sub.new Vg).trans (.new EX)
  refine⟨S.set p (.lst ((gk ps wy).map D.str)),?_,q p (uO sb hp)⟩
  unfold gk
  rw[zE]
  exact FO sb
theorem wG(T:Txt w K mg t):Ok P w base T.kh 1 (fun ds S R _=>∃z,ds=[.str z]∧R (.bl (decide (z = "ahead") || decide (z = "behind"))) S):=by
 refine T.kh.F.ok wm (by rintro ds S R Z ⟨_,e,_⟩;exact by rw[e];rfl) (fun bp A outer s H E ds S R Z hr ⟨z,e,q⟩=>?_)
 subst e
 refine⟨_,(s1 (sr (jA (cb dE T.ao aj (ac (dv 0) (ac (sN T.fv cR) an))) (vL (Qx T.rT (dv 0) (dg (v:=.ref t.gF) T.p_ rfl fun _=>dk _)))))),?_⟩
 refine⟨_,rfl,_,_,_,_,rfl,cH,rfl,_,rfl,cL ⟨_,rfl,z,rfl,rfl,?_⟩⟩
 rw[C9]
 exact fo q
theorem qN:∀{ps:List (Str×Str×Str)}{out:List D},Paired (fun d v=>∃p k,d=p3 p∧(p.1,k)∈cs∧wu v∧gf k v=true) (ps.map p3) out→TV cs ps out
 |[],_,.nil=>⟨rfl,fun _ h=>(nomatch h),fun i p v h=>by rw[List.getElem?_nil] at h;cases h⟩
 |x::ps,_,.cons ⟨p,k,e,hk,hv,hb⟩ r=>by
  have exp:x.1=p.1:=by
   unfold p3 at e
   injection e with e
   injection e with e _
   injection e
  obtain⟨h1,h2,h3⟩:=qN r
  refine⟨by rw[zp,zp,h1],fun v hm=>?_,fun i p' v' h h'=>?_⟩
  ·rcases zd.mp hm with e|hm
   ·rw[e];exact hv
   ·exact h2 v hm
  ·cases i with
   |zero =>
    rw[List.getElem?_cons_zero] at h h'
    cases h;cases h'
    exact⟨k,by rw[exp];exact hk,hb⟩
   |succ i =>
    rw[List.getElem?_cons_succ] at h h'
    exact h3 i p' v' h h'
theorem Jq(T:Txt w K mg t):Ok P w base T.uB 4 (fun ds S R _=>∃l cs ps wy,ds=[.ref l,.tup (cs.map aH),.tup [.tup (ps.map p3),.str wy]]∧Gd cs∧kC cs ps wy=true∧S l=some .well∧∀vs ky sd,TV cs ps vs→iS ky=true→jw sd=true→R (.tup [.tup [.tup vs,.str ky],.str sd]) S):=by
 refine T.uB.F.ok ox (by rintro ds S R Z ⟨_,_,_,_,e,_⟩;exact by rw[e];rfl) (fun bp A outer s H E ds S R Z hr ⟨l,cs,ps,wy,e,hg,ho,hw,q⟩=>?_)
 subst e
 obtain⟨h8,hp,_,_⟩:=iW ho
 have ek:cs.map aH=(cs.map fun c=>(c.1,D.str c.2)).map tZ:=by rw[zC];rfl
 refine⟨_,(sc (cT (i:=3) ox.nd (ct vQ T.we rj (ac (dv 1) an))) (sc (cT (i:=4) ox.nd (ct eC T.bD a_ (ac (nI (N:=["_law_part","_law_well_here","_law_kinds"]) (src:=[none,some 0,some 3]) (md (af mT) ["_law_well_here","_law_columns_here","_law_order_here","_law_kinds","_law_values"] rfl rfl (by trivial)) (EU (ix hr.units (dv 2) di)) (px (show (["_law_part","_law_well_here","_law_kinds"]:List Str).Nodup by trivial)) (aK rfl) aL (fun _ _ _ _ _=>mf) (fun _ _ _ _ _=>(cf ((Df T).mono (by decide)) hr T.kj.m T.kj.k T.kj.b d0 (ac (dv 1) (ac (ix hr.units (dv 2) (ix hr.units (dv 0) di)) an))))) an))) (s1 (sr (eB (ac (eB (ac (dv 4) (ac (cf ((Jn T).mono (by decide)) hr T.uA.m T.uA.k T.uA.b d0 (ac (dv 0) an)) an))) (ac (Bd (ix hr.units (bE (ac ds (ac ds an))) (cf ((bf T).mono (by decide)) hr T.ah.m T.ah.k T.ah.b d0 (ac (dv 0) (ac di an))))) an))))))),?_⟩
 refine⟨_,rfl,(cs.map fun c=>(c.1,D.str c.2)),by rw[ek],fun pd J6=>?_⟩
 have g1:Sub S (S.set pd (.fJ (dS (cs.map fun c=>(c.1,D.str c.2))))):=.new J6
 have s1:(S.set pd (.fJ (dS (cs.map fun c=>(c.1,D.str c.2))))) pd=some (.fJ (dS (cs.map fun c=>(c.1,D.str c.2)))):=ae
 generalize S.set pd (.fJ (dS (cs.map fun c=>(c.1,D.str c.2))))=S1 at g1 s1 ⊢
 refine⟨_,rfl,_,rfl,_,.inl rfl,?_⟩
 refine iT (fun d v=>∃p k,d=p3 p∧(p.1,k)∈cs∧wu v∧gf k v=true) trivial (by show (ps.map p3).length≤_;rw[zb];lia) (fun d hd Q hQ=>?_) fun out ho p Jj=>?_
 ·obtain⟨p,uZ,rfl⟩:=zl.mp hd
  have J_:=hp p uZ
  unfold bc at J_
  simp only [zj,zt] at J_
  have h1:=k_ (cs.map fun c=>(c.1,D.str c.2)) p.1
  obtain⟨c,hc,e⟩:=zl.mp J_.1
  rw[show (cs.map fun c=>(c.1,D.str c.2)).any (fun q=>decide (q.1=p.1))=true from List.any_eq_true.mpr ⟨_,zl.mpr ⟨c,hc,rfl⟩,zy e⟩] at h1
  cases q3:cS (dS (cs.map fun c=>(c.1,D.str c.2))) (.inr p.1) with
  |none=>rw[q3] at h1;cases h1
  |some d =>
   obtain⟨p',MK,e1,rfl⟩:=gM _ _ q3
   obtain⟨c,hc,rfl⟩:=zl.mp MK
   have e1:c.1=p.1:=e1
   exact⟨_,rfl,_,rfl,_,rfl,_,rfl,_,_,s1,q3,l,c.2,rfl,g1 _ _ hw,fun v hv hb=>hQ v ⟨p,c.2,rfl,by rw[← e1];exact hc,hv,hb⟩⟩
 have hv:=qN ho
 refine⟨_,_,rfl,.inl ae,?_⟩
 have g2:=g1.trans (Sub.new (c:=.lst out) Jj)
 generalize S1.set p (.lst out)=S2 at g2 ⊢
 refine⟨_,rfl,_,rfl,l,rfl,g2 _ _ hw,fun ky Vh=>⟨sm (show 2≤100000 by decide),sm (show 2≤100000 by decide),fun p hp=>⟨_,rfl,l,_,rfl,(by decide),(by decide),wl (g2 _ _ hw) hp,fun n h0 h1=>dy h0 h1 hp fun d hd=>?_⟩⟩⟩
 obtain⟨sd,rfl,QZ⟩:∃sd:Str,d=.str sd∧jw sd=true:=by
  have hd:d∈[D.str "ahead",.str "behind"]:=hd
  simp only [zd,zq,or_false] at hd
  rcases hd with h|h
  ·exact⟨_,h,by trivial⟩
  ·exact⟨_,h,by trivial⟩
 exact⟨sm (show 2≤100000 by decide),S,g2,q out ky sd hv Vh QZ⟩
def su(l:List Nat):Bool:=!decide (l.head?=some 45) && mI l 18
def Jr(cs:List (Str×Str)):D→Bool
 |.tup [.tup (n::_),v]=>match rz cs n with
  |.str k=>gf k v
  |_=>false
 |_=>false
def Dn(cs:List (Str×Str))(ps:List (Str×Str×Str))(vs:List D):Bool:=(aR (ps.map p3) vs).all (Jr cs)
def Dq(cs:List (Str×Str))(ps:List (Str×Str×Str))(vs:List D)(ky sd:Str):Bool:=(Dn cs ps vs && iS ky) && jw sd
theorem kE(T:Txt w K mg t):Ok P w base T.bQ 3 (fun ds S R _=>∃z,ds=[.str z]∧z.cps.size≤90000∧R (.bl (su z.cps.toList)) S):=by
 refine T.bQ.F.ok kr (by rintro ds S R Z ⟨_,e,_⟩;exact by rw[e];rfl) (fun bp A outer s H E ds S R Z hr ⟨z,e,hz,q⟩=>?_)
 subst e
 refine⟨_,(s1 (sr (jA (Iw (bm zF PySem.F.slot_str_startswith PySem.F.type_str_startswith iz (dv 0) (ac ds an))) (vL (cf ((fB T).mono (by decide)) hr T.aS.m T.aS.k T.aS.b d0 (ac (dv 0) (ac (dg (v:=.int 18) T.gH ⟨_,rfl⟩ fun _=>aA _) an))))))),?_⟩
 refine⟨_,rfl,rfl,_,_,rfl,rfl,_,rfl,?_⟩
 rw[fA,eD]
 unfold su at q
 refine⟨_,rfl,?_⟩
 refine bg (fun h=>?_) (fun h=>?_)
 ·have h:(!decide (z.cps.toList.head?=some 45))=true:=h
  rw[h,zf] at q
  exact⟨_,rfl,_,18,rfl,hz,by decide,fo q⟩
 ·have h:(!decide (z.cps.toList.head?=some 45))=false:=h
  rw[h,zh] at q
  exact fo q
theorem jj(T:Txt w K mg t):Ok P w base T.bx 4 (fun ds S R _=>∃cs ps vs,ds=[.tup (cs.map aH),.tup (ps.map p3),.tup vs]∧Gd cs∧ps.length≤8∧(∀p∈ps,GJ p∧p.1∈cs.map Prod.fst)∧vs.length=ps.length∧(∀v∈vs,wu v)∧R (.bl (Dn cs ps vs)) S):=by
 refine T.bx.F.ok ji (by rintro ds S R Z ⟨_,_,_,e,_⟩;exact by rw[e];rfl) (fun bp A outer s H E ds S R Z hr ⟨cs,ps,vs,e,hg,A_,hpo,hl,hv,q⟩=>?_)
 subst e
 refine⟨_,(sc (si (twd (twor (cy (tv (cb dE T.ao aj (ac (dv 2) (ac (sN T.bD a_) an))))) (tw1 (eS fN hr.units (cb bG T.bz aP (ac (dv 2) an)) (cb bG T.bz aP (ac (dv 1) an)))))) (s1 (sr db)) s0) (s1 (sr (cb fO T.f_ dh (ac (nI (N:=["part","value","columns"]) (src:=[none,none,some 0]) (md (af bC) ["columns","parts","thing"] rfl rfl (by trivial)) (Uw T.GI (ac (dv 1) (ac (dv 2) an))) (Qw (show (["part","value","columns"]:List Str).Nodup by trivial)) (rh rfl rfl) rB (fun _ _ _ _ _=>mf) (fun _ _ _ _ _=>(cf ((uJ T).mono (by decide)) hr T.iL.m T.iL.k T.iL.b d0 (ac (cf ((ju T).mono (by decide)) hr T.bN.m T.bN.k T.bN.b d0 (ac (dv 2) (ac (ix hr.units (dv 0) di) an))) (ac (dv 1) an))))) an))))),?_⟩
 refine⟨_,rfl,_,_,_,_,rfl,eI,rfl,_,rfl,ck ⟨_,rfl,_,rfl,_,rfl,_,rfl,_,rfl,?_⟩⟩
 have e1:decide (((vs.length:Nat):Int)=(((ps.map p3).length:Nat):Int))=true:=zy (by rw[zb,hl])
 refine bg (fun h=>absurd (e1.symm.trans (nt h)) nofun) (fun _=>?_)
 refine⟨_,rfl,_,rfl,ps.map p3,vs,rfl,by rw[zb];exact hl.symm,?_⟩
 refine comp_map (fun d=>.bl (Jr cs d)) trivial (by show (aR (ps.map p3) vs).length≤_;unfold aR;rw[List.length_zipWith,zb];omega) (fun d hd Q hQ=>?_) fun p hp=>?_
 ·unfold aR at hd
  obtain⟨i,ei⟩:=List.getElem?_of_mem hd
  obtain⟨x,y,e2,e3,e4⟩:=List.getElem?_zipWith_eq_some.mp ei
  subst e4
  rw[zQ] at e2
  cases e5:ps[i]? with
  |none=>rw[e5] at e2;cases e2
  |some c =>
   rw[e5] at e2;cases e2
   obtain⟨pk,hn⟩:=hpo c (zM e5)
   obtain⟨d,hd,ed⟩:=zl.mp hn
   have hk:rz cs (.str c.1)=.str d.2:=oF hg (by rw[← ed];exact hd)
   refine⟨_,rfl,rfl,_,_,rfl,_,_,rfl,rfl,_,rfl,_,rfl,_,rfl,cs,.str c.1,rfl,hg,gt_str pk.1,?_⟩
   rw[hk]
   refine⟨_,rfl,d.2,y,rfl,Jo (hv y (zM e3)),?_⟩
   have:Jr cs (.tup [p3 c,y])=gf d.2 y:=by unfold p3;show (match rz cs (.str c.1) with|.str k=>gf k y|_=>false)=_;rw[hk]
   rw[← this]
   exact hQ
 ·refine⟨.ref p,(aR (ps.map p3) vs).map (Jr cs),rfl,?_,S,.new hp,?_⟩
  ·show (S.set p (.lst ((aR (ps.map p3) vs).map _))) p=_
   rw[ae,zC];rfl
  ·rw[show ((aR (ps.map p3) vs).map (Jr cs)).all id=Dn cs ps vs from all_map]
   exact q
theorem oO(T:Txt w K mg t):Ok P w base T.dH 5 (fun ds S R Z=>∃cs ps wy vs ky,ds=[.tup (cs.map aH),.tup [.tup (ps.map p3),.str wy],.tup [.tup vs,.str ky]]∧Gd cs∧ps.length≤8∧(∀p∈ps,GJ p∧p.1∈cs.map Prod.fst)∧vs.length=ps.length∧(∀v∈vs,wu v)∧ky.cps.size≤100000∧((Dn cs ps vs && iS ky)=true→R .ax S)∧((Dn cs ps vs && iS ky)=false→Z t.aT S)):=by
 refine T.dH.F.ok ou (by rintro ds S R Z ⟨_,_,_,_,_,e,_⟩;exact by rw[e];rfl) (fun bp A outer s H E ds S R Z hr ⟨cs,ps,wy,vs,ky,e,hg,A_,hpo,hl,hv,hk,q1,q2⟩=>?_)
 subst e
 refine⟨_,(sc (si (twd (twor (cy (tv (cb dE T.ao aj (ac (dv 2) (ac (sN T.bD a_) an))))) (tw1 (eS fN hr.units (cb bG T.bz aP (ac (dv 2) an)) di)))) (s1 (xu ⟨T.bU⟩ T.bT (ac ds an))) s0) (sc (si (cy (tv (cf ((jj T).mono (by decide)) hr T.bx.m T.bx.k T.bx.b d0 (ac (dv 0) (ac (ix hr.units (dv 1) di) (ac (ix hr.units (dv 2) di) an)))))) (s1 (xu ⟨T.bU⟩ T.bT (ac ds an))) s0) (s1 (si (cy (tv (cf ((A3 T).mono (by decide)) hr T.oj.m T.oj.k T.oj.b d0 (ac (ix hr.units (dv 2) di) an)))) (s1 (xu ⟨T.bU⟩ T.bT (ac ds an))) s0)))),?_⟩
 refine⟨_,rfl,_,_,_,_,rfl,eI,rfl,_,rfl,ck ⟨_,rfl,_,rfl,_,rfl,ck ?_⟩⟩
 refine⟨_,rfl,_,rfl,_,rfl,_,rfl,_,rfl,cs,ps,vs,rfl,hg,A_,hpo,hl,hv,_,rfl,?_⟩
 refine bg (fun h=>?_) (fun h=>?_)
 ·have h:=nt h
  exact⟨sm (show 1≤100000 by decide),fo (q2 (by rw[h];rfl))⟩
 have h:=nf h
 rw[h,zf] at q1 q2
 refine⟨_,rfl,_,rfl,.str ky,rfl,gt_str hk,_,rfl,?_⟩
 refine bg (fun h2=>?_) (fun h2=>?_)
 ·exact⟨sm (show 1≤100000 by decide),fo (q2 (nt h2))⟩
 exact fo (q1 (nf h2))
theorem sv(T:Txt w K mg t):Ok P w base T.fV 6 (fun ds S R Z=>∃cs ps wy vs ky sd,ds=[.tup (cs.map aH),.tup [.tup (ps.map p3),.str wy],.tup [.tup [.tup vs,.str ky],.str sd]]∧Gd cs∧ps.length≤8∧(∀p∈ps,GJ p∧p.1∈cs.map Prod.fst)∧vs.length=ps.length∧(∀v∈vs,wu v)∧ky.cps.size≤100000∧(Dq cs ps vs ky sd=true→R .ax S)∧(Dq cs ps vs ky sd=false→Z t.aT S)):=by
 refine T.fV.F.ok rZ (by rintro ds S R Z ⟨_,_,_,_,_,_,e,_⟩;exact by rw[e];rfl) (fun bp A outer s H E ds S R Z hr ⟨cs,ps,wy,vs,ky,sd,e,hg,A_,hpo,hl,hv,hk,q1,q2⟩=>?_)
 subst e
 unfold Dq at q1 q2
 refine⟨_,(sc (si (twd (twor (cy (tv (cb dE T.ao aj (ac (dv 2) (ac (sN T.bD a_) an))))) (tw1 (eS fN hr.units (cb bG T.bz aP (ac (dv 2) an)) di)))) (s1 (xu ⟨T.bU⟩ T.bT (ac ds an))) s0) (sc (se (cf ((oO T).mono (by decide)) hr T.dH.m T.dH.k T.dH.b d0 (ac (dv 0) (ac (dv 1) (ac (ix hr.units (dv 2) di) an))))) (s1 (si (cy (tv (cf ((wG T).mono (by decide)) hr T.kh.m T.kh.k T.kh.b d0 (ac (ix hr.units (dv 2) di) an)))) (s1 (xu ⟨T.bU⟩ T.bT (ac ds an))) s0)))),?_⟩
 refine⟨_,rfl,_,_,_,_,rfl,eI,rfl,_,rfl,ck ⟨_,rfl,_,rfl,_,rfl,ck ?_⟩⟩
 refine⟨_,rfl,_,rfl,_,rfl,_,rfl,cs,ps,wy,vs,ky,rfl,hg,A_,hpo,hl,hv,hk,fun h=>?_,fun h=>fo (q2 (by rw[h];rfl))⟩
 rw[h,zf] at q1 q2
 refine⟨_,rfl,_,rfl,sd,rfl,_,rfl,?_⟩
 refine bg (fun h2=>?_) (fun h2=>?_)
 ·exact⟨sm (show 1≤100000 by decide),fo (q2 (nt h2))⟩
 exact fo (q1 (nf h2))
def markB(cs:List (Str×Str))(ps:List (Str×Str×Str))(wy:Str)(vs:List D)(ky sd:Str):Bool:=kC cs ps wy && Dq cs ps vs ky sd
theorem qk(T:Txt w K mg t):Ok P w base T.eW 7 (fun ds S R Z=>∃cs m ps wy vs ky sd,ds=[.tup (cs.map aH),.tup [m,.tup [.tup (ps.map p3),.str wy],.tup [.tup [.tup vs,.str ky],.str sd]]]∧Gd cs∧(∀p∈ps,GJ p)∧vs.length=ps.length∧(∀v∈vs,wu v)∧ky.cps.size≤100000∧(markB cs ps wy vs ky sd=true→R .ax S)∧(markB cs ps wy vs ky sd=false→Z t.aM S)):=by
 refine T.eW.F.UG qh (by rintro ds S R Z ⟨_,_,_,_,_,_,_,e,_⟩;exact by rw[e];rfl) (fun bp A outer s H E ds S R Z hr ⟨cs,m,ps,wy,vs,ky,sd,e,hg,hpo,hl,hv,hk,q1,q2⟩=>?_)
 subst e
 unfold markB at q1 q2
 refine⟨_,(MJ T.bR ⟨T.bS⟩ T.bT ⟨T.bU⟩ T.eO ⟨T.cF⟩ (sc (se (cf ((oI T).mono (by decide)) hr T.dG.m T.dG.k T.dG.b d0 (ac (dv 0) (ac (ix hr.units (dv 1) di) an)))) (s1 (se (cf ((sv T).mono (by decide)) hr T.fV.m T.fV.k T.fV.b d0 (ac (dv 0) (ac (ix hr.units (dv 1) di) (ac (ix hr.units (dv 1) di) an)))))))),?_⟩
 refine⟨_,rfl,_,rfl,_,rfl,cs,ps,wy,rfl,hg,hpo,fun ho=>?_,fun ho=>?_⟩
 ·rw[ho,zf] at q1 q2
  obtain⟨h8,Ka,_⟩:=iW ho
  refine⟨_,rfl,_,rfl,_,rfl,_,rfl,_,rfl,cs,ps,wy,vs,ky,sd,rfl,hg,h8,fun p hp=>⟨hpo p hp,?_⟩,hl,hv,hk,fun h=>fo (q1 h),fun h=>?_⟩
  ·have:=Ka p hp
   unfold bc at this
   rw[zj] at this
   exact zz this.1
  ·exact⟨⟨_,_,T.cq,T.bu,rfl⟩,fun e=>(by have h:=T.cY;rw[← e,T.bu] at h;cases h),fo (q2 h)⟩
 ·exact⟨⟨_,_,T.bt,T.cn,rfl⟩,fun e=>(by have h:=T.cX;rw[← e,T.bt] at h;cases h),fo (q2 (by rw[ho];rfl))⟩
theorem sx(T:Txt w K mg t):Ok P w base T.fW 2 (fun ds S R _=>∃x cs,ds=[x.d]∧Mark.ok x cs∧R (.str x.tx) S):=by
 refine T.fW.F.ok gK (by rintro ds S R Z ⟨_,_,e,_⟩;exact by rw[e];rfl) (fun bp A outer s H E ds S R Z hr ⟨x,cs,e,hx,q⟩=>?_)
 subst e
 have h8:=(iW hx.o).1
 have MY:=hx.v.1
 have BX:((gk x.ps x.wy).map D.str).length≤26:=by rw[zb];unfold gk;rw[ze,pw_len];show _+2≤_;lia
 refine⟨_,(sc (cT (i:=1) gK.nd (ix hr.units (dv 0) di)) (sc (cT (i:=2) gK.nd (bo au hr.units (bo au hr.units (bE (ac ds (ac (ct t5 T.fv cR (ac (ix hr.units (dv 0) di) an)) an))) (cf ((oN T).mono (by decide)) hr T.dI.m T.dI.k T.dI.b d0 (ac (ix hr.units (dv 0) di) an))) (bE (ac ds an)))) (sc (se (bm PySem.F.plainAttrs_list PySem.F.slot_list_extend PySem.F.type_list_extend Ay (dv 2) (ac (nI (N:=["value"]) (src:=[none]) (md (af fq) ["mark","gap","words"] rfl rfl (by trivial)) (EU (ix hr.units (ix hr.units (dv 1) di) di)) (px (show (["value"]:List Str).Nodup by trivial)) (aK rfl) aL (fun _ _ _ _ _=>mf) (fun _ _ _ _ _=>(cf ((jv T).mono (by decide)) hr T.bO.m T.bO.k T.bO.b d0 (ac (dv 0) an)))) an))) (s1 (sr (bm zF yq yr iA ds (ac (bo au hr.units (dv 2) (bE (ac (ix hr.units (ix hr.units (dv 1) di) di) (ac (ix hr.units (dv 1) di) an)))) an))))))),?_⟩
 refine⟨_,rfl,_,rfl,?_⟩
 refine⟨_,rfl,_,rfl,_,rfl,lq (Dm hx.m),sm (show 2≤100000 by decide),fun p1 Be=>?_⟩
 have g1:Sub S (S.set p1 (.lst [D.str "mark",.str (Str.ofString (toString ((x.m:Nat):Int)))])):=.new Be
 have s1:(S.set p1 (.lst [D.str "mark",.str (Str.ofString (toString ((x.m:Nat):Int)))])) p1=some (.lst [D.str "mark",.str (Str.ofString (toString ((x.m:Nat):Int)))]):=ae
 generalize S.set p1 (.lst [D.str "mark",.str (Str.ofString (toString ((x.m:Nat):Int)))])=S1 at g1 s1 ⊢
 refine⟨_,rfl,_,rfl,x.ps,x.wy,rfl,h8,fun p2 gU=>⟨_,_,(Sub.new gU) _ _ s1,ae,sm (by show 2+_≤_;lia),fun p3 mK=>?_⟩⟩
 have g3:Sub S ((S1.set p2 (.lst ((gk x.ps x.wy).map D.str))).set p3 (.lst ([D.str "mark",.str (Str.ofString (toString ((x.m:Nat):Int)))]++(gk x.ps x.wy).map D.str))):=(g1.trans (.new gU)).trans (.new mK)
 have s3:((S1.set p2 (.lst ((gk x.ps x.wy).map D.str))).set p3 (.lst ([D.str "mark",.str (Str.ofString (toString ((x.m:Nat):Int)))]++(gk x.ps x.wy).map D.str))) p3=some (.lst ([D.str "mark",.str (Str.ofString (toString ((x.m:Nat):Int)))]++(gk x.ps x.wy).map D.str)):=ae
 have l3:([D.str "mark",.str (Str.ofString (toString ((x.m:Nat):Int)))]++(gk x.ps x.wy).map D.str).length≤28:=by rw[ze];show 2+_≤_;lia
 have e3:([D.str "mark",.str (Str.ofString (toString ((x.m:Nat):Int)))]++(gk x.ps x.wy).map D.str)=((["mark",bZ (x.m:Nat)]:List Str)++gk x.ps x.wy).map D.str:=by rw[zE];rfl
 generalize (S1.set p2 (.lst ((gk x.ps x.wy).map D.str))).set p3 (.lst ([D.str "mark",.str (Str.ofString (toString ((x.m:Nat):Int)))]++(gk x.ps x.wy).map D.str))=S3 at g3 s3 ⊢
 generalize ([D.str "mark",.str (Str.ofString (toString ((x.m:Nat):Int)))]++(gk x.ps x.wy).map D.str)=L3 at s3 l3 e3
 refine⟨sm (show 1≤100000 by decide),fun p4 kA=>⟨_,_,(Sub.new kA) _ _ s3,ae,sm (by show _+1≤_;lia),fun p5 uY=>?_⟩⟩
 have g5:Sub S ((S3.set p4 (.lst [D.str "at"])).set p5 (.lst (L3++[D.str "at"]))):=(g3.trans (.new kA)).trans (.new uY)
 have s5:((S3.set p4 (.lst [D.str "at"])).set p5 (.lst (L3++[D.str "at"]))) p5=some (.lst (L3++[D.str "at"])):=ae
 have Vi:S p5=none:=uO (g3.trans (.new kA)) uY
 generalize (S3.set p4 (.lst [D.str "at"])).set p5 (.lst (L3++[D.str "at"]))=S5 at g5 s5 ⊢
 refine⟨_,rfl,⟨rfl,_,s5⟩,_,rfl,_,rfl,_,rfl,_,.inl rfl,?_⟩
 refine comp_map (fun d=>.str (bV d)) trivial (by show x.vs.length≤_;lia) (fun d hd Q hQ=>⟨_,rfl,d,rfl,hx.v.2.1 d hd,hQ⟩) fun p6 A5=>?_
 rw[show (⟨x.vs,fun _=>True⟩:pj).xs=x.vs from rfl]
 have Vj:p5≠p6:=xo s5 A5
 refine⟨p5,p6,_,_,rfl,rfl,Vj,(Sub.new A5) _ _ s5,ae,sm (by rw[ze,zb];show _+1+_≤_;lia),?_⟩
 have g7:Sub S ((S5.set p6 (.lst (x.vs.map fun d=>.str (bV d)))).set p5 (.lst ((L3++[D.str "at"])++x.vs.map fun d=>.str (bV d)))):=fun b c hb=>by
  rw[aI (xo hb Vi)];exact (g5.trans (.new A5)) b c hb
 have s7:((S5.set p6 (.lst (x.vs.map fun d=>.str (bV d)))).set p5 (.lst ((L3++[D.str "at"])++x.vs.map fun d=>.str (bV d)))) p5=some (.lst ((L3++[D.str "at"])++x.vs.map fun d=>.str (bV d))):=ae
 generalize (S5.set p6 (.lst (x.vs.map fun d=>.str (bV d)))).set p5 (.lst ((L3++[D.str "at"])++x.vs.map fun d=>.str (bV d)))=S7 at g7 s7 ⊢
 have l7:((L3++[D.str "at"])++x.vs.map fun d=>D.str (bV d)).length≤90000:=by rw[ze,ze,zb];show _+1+_≤_;lia
 refine⟨rfl,_,rfl,_,rfl,_,rfl,_,rfl,_,rfl,_,rfl,sm (show 2≤100000 by decide),fun p8 A_=>⟨_,_,(Sub.new A_) _ _ s7,ae,sm (by show _+2≤_;lia),fun p9 Kb=>?_⟩⟩
 have ew:((L3++[D.str "at"])++x.vs.map fun d=>D.str (bV d))++[.str x.ky,.str x.sd]=x.ws.map D.str:=by
  rw[e3]
  unfold Mark.ws
  simp only [zE,zC]
  rfl
 refine⟨" ",x.ws,_,rfl,rfl,?_,(x5 hx.words hx.len).1,S,(g7.trans (.new A_)).trans (.new Kb),q⟩
 rw[← ew]
 exact ae
def bj(z:Str):D:=if z = "-" then .ax else if z.cps.toList.head?=some 35 then .int ((intText? (Txt.slice z (some 1) none)).getD 0) else .str (xB (Txt.slice z (some 1) none))
theorem mU(h:Told z d):d=bj z:=by
 unfold bj
 rcases h with ⟨rfl,rfl⟩|⟨h1,n,hn,hr,_,rfl⟩|⟨h1,rfl⟩
 ·rw[if_pos rfl]
 ·rw[if_neg (fun e=>by rw[e,fA] at h1;cases h1),if_pos h1,hr];rfl
 ·rw[if_neg (fun e=>by rw[e,fA] at h1;cases h1),if_neg (by rw[h1];decide)]
def Rd(S:aQ)(d:D):Prop:=(∃k,J2 S d k)∧∀z,d=.str z→z.cps.size≤90000∧PyData.strOk z=true
def Tx(n:Nat)(z:Str):Prop:=z.cps.size≤n∧PyData.strOk z=true
theorem Tx.le(h:Tx n z)(l:n≤m):Tx m z:=⟨zA h.1 l,h.2⟩
theorem Dr(a b:Str):(a++b).cps.size=a.cps.size+b.cps.size:=by
 show (a.cps++b.cps).size=_
 rw[Array.size_append]
theorem Js(ha:PyData.strOk a=true)(hb:PyData.strOk b=true):PyData.strOk (a++b)=true:=by
 rw[fb] at *
 intro c hc
 have hc:c∈(a.cps++b.cps).toList:=hc
 rw[Array.toList_append,zW] at hc
 rcases hc with hc|hc
 ·exact ha c hc
 ·exact hb c hc
theorem Tx.app(h:Tx n a)(h2:Tx m b):Tx (n+m) (a++b):=⟨by rw[Dr];have:=h.1;have:=h2.1;lia,Js h.2 h2.2⟩
theorem Tx.rd(h:Tx 90000 z):Rd S (.str z):=⟨⟨.str,rfl⟩,fun y e=>by cases e;exact h⟩
theorem Cg.tx(h:Cg cs):∀c∈cs,Tx 8 c.1∧Tx 8 c.2:=fun c hc=>by
 obtain⟨h1,h2⟩:=h.1.2.2 c hc
 have h3:c.1.cps.size≤8:=by
  unfold gR at h1
  simp only [zj,zt] at h1
  exact h1.1.2
 refine⟨⟨h3,(wA _ (h.2 c hc)).2.1⟩,?_⟩
 rcases h2 with e|e <;> rw[e] <;> exact⟨by trivial,by trivial⟩
theorem qO{ws:List Str}{i:Nat}(h:i<ws.length){j:Int}(e:j=((i:Nat):Int)):gP (ws.map D.str) j=some (.str (ws.getD i "")):=by
 rw[e,i0 (by rw[zb];exact h),lW h]
def nP(ws:List Str):Nat:=(ws.length - 7) / 4
def cj(ws:List Str):List Str:=(ws.drop (5+3 * nP ws)).take (nP ws)
def oW(ws:List Str):List Str:=(ws.drop 2).take (3 * nP ws+2)
def ql(ws:List Str):Bool:=decide (7≤ws.length) && decide ((ws.length - 7) % 4=0)
def wH(ws:List Str):Bool:=ql ws && (su (ws.getD 1 "").cps.toList && (cj ws).all fun u=>fe u.cps.toList)
def gO(ws:List Str):Mark:=⟨((intText? (ws.getD 1 "")).getD 0).toNat,bL (oW ws),ee (oW ws),(cj ws).map bj,ws.getD (ws.length - 2) "",ws.getD (ws.length - 1) ""⟩
theorem oP(h:ql ws=true):ws.length=7+4 * nP ws:=by
 unfold ql at h
 simp only [zj,zt] at h
 unfold nP;lia
theorem mV(h:su z.cps.toList=true):∃m:Nat,intText? z=some (m:Int)∧m<10 ^ 18∧z.cps.size≤18∧bZ (m:Nat)=z:=by
 unfold su mI at h
 simp only [zj,Bool.not_eq_true',decide_eq_false_iff_not] at h
 obtain⟨h0,h1⟩:=h
 rw[if_neg h0,zj] at h1
 obtain⟨a1,a2,a3,a4⟩:=eE h1.1
 refine⟨NumText.digitsVal z.cps.toList,intText_digits a3 a4 (by show z.cps.size≤4300;rw[ag];lia),lr a3 a2,by rw[ag];exact a2,?_⟩
 refine lg ((mR _).trans ((canon _ _ rfl a3 a4).mpr ?_))
 have h2:=h1.2
 unfold mm at h2
 rw[yg,zt,Bool.not_eq_true',decide_eq_false_iff_not] at h2
 exact h2
theorem jd(l:List α)(i j:Nat):l=(l.take i++(l.drop i).take j)++(l.drop i).drop j:=by
 rw[zS,List.take_append_drop,List.take_append_drop]
theorem lZ(T:Txt w K mg t):Ok P w base T.cB 4 (fun ds S R Z=>∃a ws,ds=[.ref a]∧S a=some (.lst (ws.map D.str))∧ws.length≤90001∧(∀u∈ws,u.cps.size≤90000)∧(wH ws=true→R (gO ws).d S)∧(wH ws=false→Z t.aM S)):=by
 refine T.cB.F.ok bA (by rintro ds S R Z ⟨_,_,e,_⟩;exact by rw[e];rfl) (fun bp A outer s H E ds S R Z hr ⟨a,ws,e,hS,hl,hu,q1,q2⟩=>?_)
 subst e
 have BD:(ws.map D.str).length=ws.length:=zb _
 refine⟨_,(sc (cT (i:=1) bA.nd (bo jV hr.units (cb bG T.bz aP (ac (dv 0) an)) (dg (v:=.int 7) T.mG ⟨_,rfl⟩ fun _=>aA _))) (sc (si (twd (twor (eS Iz hr.units (dv 1) di) (tw1 (eS fN hr.units (bo nG hr.units (dv 1) (dg (v:=.int 4) T.eX ⟨_,rfl⟩ fun _=>aA _)) di)))) (s1 (xu ⟨T.cF⟩ T.eO (ac ds an))) s0) (sc (cT (i:=2) bA.nd (bo au hr.units di (bo bF hr.units di (bo nH hr.units (dv 1) (dg (v:=.int 4) T.eX ⟨_,rfl⟩ fun _=>aA _))))) (sc (cT (i:=3) bA.nd (sl (dv 0) (o1 (bo au hr.units (dv 2) di)) (o1 (tU di)))) (sc (si (twd (twor (cy (tv (cf ((kE T).mono (by decide)) hr T.bQ.m T.bQ.k T.bQ.b d0 (ac (ix hr.units (dv 0) di) an)))) (tw1 (cy (tv (cb fO T.f_ dh (ac (nI (N:=["word"]) (src:=[none]) (md (af bH) ["words","many","behind_order","value_words","place"] rfl rfl (by trivial)) (il (dv 3)) (px (show (["word"]:List Str).Nodup by trivial)) (aK rfl) aL (fun _ _ _ _ _=>mf) (fun _ _ _ _ _=>(cf ((lX T).mono (by decide)) hr T.cE.m T.cE.k T.cE.b d0 (ac (dv 0) an)))) an))))))) (s1 (xu ⟨T.cF⟩ T.eO (ac ds an))) s0) (sc (cT (i:=4) bA.nd (eB (ac (ct eC T.bD a_ (ac (nI (N:=["word"]) (src:=[none]) (md (af bH) ["words","many","behind_order","value_words","place"] rfl rfl (by trivial)) (il (dv 3)) (px (show (["word"]:List Str).Nodup by trivial)) (aK rfl) aL (fun _ _ _ _ _=>mf) (fun _ _ _ _ _=>(cf ((du T).mono (by decide)) hr T.aC.m T.aC.k T.aC.b d0 (ac (dv 0) an)))) an)) (ac (ix hr.units (dv 0) (tU di)) an)))) (s1 (sr (eB (ac (ct nK T.mi iq (ac (ix hr.units (dv 0) di) an)) (ac (cf ((kB T).mono (by decide)) hr T.bP.m T.bP.k T.bP.b d0 (ac (sl (dv 0) (o1 di) (o1 (dv 2))) an)) (ac (eB (ac (dv 4) (ac (ix hr.units (dv 0) (tU di)) an))) an)))))))))))),?_⟩
 refine⟨_,rfl,_,rfl,.inl ⟨_,hS,?_⟩⟩
 rw[BD]
 refine⟨_,rfl,_,rfl,?_⟩
 refine bg (fun h=>?_) (fun h7=>?_)
 ·have h:((ws.length:Nat):Int) - 7<0:=zz h
  exact⟨sm (show 1≤100000 by decide),fo (q2 (by unfold wH ql;rw[zv (show ¬ 7≤ws.length by lia)];rfl))⟩
 have h7:¬ ((ws.length:Nat):Int) - 7<0:=zU h7
 refine⟨_,rfl,(show (0:Int)<4 by decide),_,rfl,?_⟩
 refine bg (fun h=>?_) (fun h4=>?_)
 ·have h:¬ (((ws.length:Nat):Int) - 7) % 4=0:=zU (nt h)
  exact⟨sm (show 1≤100000 by decide),fo (q2 (by unfold wH ql;rw[zv (show ¬ (ws.length - 7) % 4=0 by lia),Bool.and_false];rfl))⟩
 have h4:(((ws.length:Nat):Int) - 7) % 4=0:=zz (nf h4)
 have hf:ql ws=true:=by unfold ql;rw[zy (show 7≤ws.length by lia),zy (show (ws.length - 7) % 4=0 by lia)];rfl
 have hn:=oP hf
 unfold wH at q1 q2
 rw[hf,zf] at q1 q2
 refine⟨_,rfl,⟨by decide,by trivial⟩,.inl ⟨by decide,by decide⟩,?_⟩
 refine⟨_,rfl,_,rfl,_,rfl,_,rfl,_,rfl,_,hS,fun p1 Be=>?_⟩
 have MY:(cj ws).length=nP ws:=by unfold cj;rw[zG,zB];lia
 have BX:(oW ws).length=3 * nP ws+2:=by unfold oW;rw[zG,zB];lia
 have MZ:∀u∈cj ws,u.cps.size≤90000:=fun u h=>hu u (List.mem_of_mem_drop (List.mem_of_mem_take h))
 have c1:∀b:Int,b=((5+3 * nP ws:Nat):Int)→ar (ws.map D.str) (some b) (some (-2))=(cj ws).map D.str:=fun b hb=>by
  rw[hb]
  refine FN (j:=2) (a:=(ws.take (5+3 * nP ws)).map D.str) (b:=((ws.drop (5+3 * nP ws)).drop (nP ws)).map D.str) ?_ ?_ ?_ (by decide)
  ·rw[← zE,← zE];exact congrArg _ (jd ws _ _)
  ·rw[zb,zG];lia
  ·rw[zb,zB,zB];lia
 have c2:∀b:Int,b=((4+3 * nP ws:Nat):Int)→ar (ws.map D.str) (some 2) (some b)=(oW ws).map D.str:=fun b hb=>by
  rw[hb]
  refine oM (i:=2) (a:=(ws.take 2).map D.str) (b:=((ws.drop 2).drop (3 * nP ws+2)).map D.str) ?_ ?_ ?_
  ·rw[← zE,← zE];exact congrArg _ (jd ws _ _)
  ·rw[zb,zG];lia
  ·rw[zb,zG,zb,BX];lia
 have w1:gP (ws.map D.str) 1=some (.str (ws.getD 1 "")):=qO (i:=1) (by lia) rfl
 have w2:gP (ws.map D.str) (-2)=some (.str (ws.getD (ws.length - 2) "")):=by
  refine (kz (k:=2) (by lia) (by decide)).trans ?_
  rw[BD,lW (by lia)]
 have w3:gP (ws.map D.str) (-1)=some (.str (ws.getD (ws.length - 1) "")):=by
  refine (kz (k:=1) (by lia) (by decide)).trans ?_
  rw[BD,lW (by lia)]
 have Vk:(ws.getD 1 "").cps.size≤90000:=hu _ (by rw[zH,zO (show 1<ws.length by lia)];exact List.getElem_mem _)
 rw[c1 _ (by lia)]
 have g1:Sub S (S.set p1 (.lst ((cj ws).map D.str))):=.new Be
 have s1:(S.set p1 (.lst ((cj ws).map D.str))) p1=some (.lst ((cj ws).map D.str)):=ae
 generalize S.set p1 (.lst ((cj ws).map D.str))=S1 at g1 s1 ⊢
 refine⟨_,rfl,_,_,g1 _ _ hS,w1,_,rfl,Vk,_,rfl,?_⟩
 refine bg (fun h=>?_) (fun hm=>?_)
 ·exact⟨sm (show 1≤100000 by decide),S,g1,q2 (by rw[nt h];rfl)⟩
 have hm:=nf hm
 rw[hm,zf] at q1 q2
 have Xc:((cj ws).map D.str).length≤90001:=by rw[zb,MY];lia
 refine⟨_,rfl,_,s1,?_⟩
 refine comp_map (fun d=>match d with|.str u=>.bl (fe u.cps.toList)|_=>.ax) s1 (by show ((cj ws).map D.str).length≤_;lia) (fun d hd Q hQ=>?_) fun p2 gU=>?_
 ·obtain⟨u,Jt,rfl⟩:=zl.mp hd
  exact⟨_,rfl,u,rfl,MZ u Jt,hQ⟩
 refine⟨.ref p2,(cj ws).map fun u=>fe u.cps.toList,rfl,(show (S1.set p2 (.lst (((cj ws).map D.str).map _))) p2=_ by rw[ae,zC,zC];rfl),_,rfl,?_⟩
 rw[show ((cj ws).map fun u=>fe u.cps.toList).all id=(cj ws).all (fun u=>fe u.cps.toList) from all_map]
 refine bg (fun h=>?_) (fun hv=>?_)
 ·exact⟨sm (show 1≤100000 by decide),S,g1.trans (.new gU),q2 (nt h)⟩
 have hv:=nf hv
 have q:=q1 hv
 obtain⟨m,i1,i2,i3,i4⟩:=mV hm
 have g2:Sub S _:=g1.trans (Sub.new (c:=.lst (((cj ws).map D.str).map fun d=>match d with|.str u=>.bl (fe u.cps.toList)|_=>.ax)) gU)
 have s2:=(Sub.new (c:=.lst (((cj ws).map D.str).map fun d=>match d with|.str u=>.bl (fe u.cps.toList)|_=>.ax)) gU) _ _ s1
 generalize S1.set p2 (.lst (((cj ws).map D.str).map fun d=>match d with|.str u=>.bl (fe u.cps.toList)|_=>.ax))=S2 at g2 s2 ⊢
 refine⟨_,rfl,_,s2,?_⟩
 refine comp_map (fun d=>match d with|.str u=>bj u|_=>.ax) s2 (by show ((cj ws).map D.str).length≤_;lia) (fun d hd Q hQ=>?_) fun p3 mK=>?_
 ·obtain⟨u,Jt,rfl⟩:=zl.mp hd
  obtain⟨d,t1,t2⟩:=jb (zJ.mp hv u Jt)
  refine⟨_,rfl,u,d,rfl,MZ u Jt,t1,?_⟩
  rw[mU t1];exact hQ
 have em:((cj ws).map D.str).map (fun d=>match d with|.str u=>bj u|_=>.ax)=(cj ws).map bj:=by rw[zC];rfl
 show _
 rw[show (⟨(cj ws).map D.str,fun S=>S p1=some (.lst ((cj ws).map D.str))⟩:pj).xs=(cj ws).map D.str from rfl,em]
 have g3:=g2.trans (Sub.new (c:=.lst ((cj ws).map bj)) mK)
 refine⟨_,_,rfl,.inl ae,_,rfl,_,rfl,_,_,g3 _ _ hS,w2,sm (show 2≤100000 by decide),?_⟩
 refine⟨_,rfl,_,_,g3 _ _ hS,w1,_,m,rfl,i1,zA i3 (by decide),?_⟩
 refine⟨_,rfl,_,rfl,_,rfl,_,rfl,_,g3 _ _ hS,fun p4 kA=>?_⟩
 rw[c2 _ (by lia)]
 refine⟨p4,oW ws,rfl,ae,by lia,by lia,?_⟩
 have g4:=g3.trans (Sub.new (c:=.lst ((oW ws).map D.str)) kA)
 refine⟨_,rfl,_,rfl,_,rfl,_,_,g4 _ _ hS,w3,sm (show 2≤100000 by decide),sm (show 3≤100000 by decide),S,g4,?_⟩
 have eM:(gO ws).d=.tup [.int (m:Nat),Ji (oW ws),.tup [.tup [.tup ((cj ws).map bj),.str (ws.getD (ws.length - 2) "")],.str (ws.getD (ws.length - 1) "")]]:=by
  unfold gO Mark.d Mark.oD Mark.gD Ji
  rw[i1];rfl
 rw[eM] at q
 exact q
def Mark.fits(x:Mark)(cs:List (Str×Str)):Bool:=markB cs x.ps x.wy x.vs x.ky x.sd
def rM(cs:List (Str×Str))(z:Str):Option Mark:=if wH (fk z)=true∧(gO (fk z)).fits cs=true∧(gO (fk z)).tx=z then some (gO (fk z)) else none
def GO(cs:List (Str×Str)):D→Option Mark
 |.str z=>rM cs z
 |_=>none
theorem qP(h:wH ws=true):ql ws=true∧su (ws.getD 1 "").cps.toList=true∧∀u∈cj ws,fe u.cps.toList=true:=by
 unfold wH at h
 simp only [zj,zJ] at h
 exact h
theorem Ds(h:wH ws=true):∀v∈(gO ws).vs,wu v:=fun v hv=>by
 obtain⟨u,hu,rfl⟩:=zl.mp (show v∈(cj ws).map bj from hv)
 obtain⟨d,t1,t2⟩:=jb ((qP h).2.2 u hu)
 rw[← mU t1];exact t2
theorem oQ(h:ql ws=true):(cj ws).length=nP ws:=by
 have:=oP h
 unfold cj;rw[zG,zB];lia
theorem sy(h:ql ws=true):(oW ws).length=3 * nP ws+2:=by
 have:=oP h
 unfold oW;rw[zG,zB];lia
theorem x6(h:ql ws=true):(gO ws).ps.length=nP ws:=by
 show (bL (oW ws)).length=_
 unfold bL
 rw[zb,List.length_range,sy h];lia
theorem Du(h:ql ws=true):(gO ws).vs.length=(gO ws).ps.length:=by
 rw[x6 h]
 show ((cj ws).map bj).length=_
 rw[zb,oQ h]
theorem je{l:List Str}{n i:Nat}(h:∀u∈l,u.cps.size≤n):(l.getD i "").cps.size≤n:=by
 rw[zH]
 cases e:l[i]? with
 |none=>exact yz _
 |some u=>exact h u (zM e)
theorem Ju{ws:List Str}(h:∀u∈ws,u.cps.size≤90000):∀p∈(gO ws).ps,GJ p:=fun p hp=>by
 have ho:∀u∈oW ws,u.cps.size≤100000:=fun u hu=>zA (h u (List.mem_of_mem_drop (List.mem_of_mem_take hu))) (by decide)
 obtain⟨k,_,rfl⟩:=zl.mp (show p∈bL (oW ws) from hp)
 exact⟨je ho,je ho,je ho⟩
theorem M4(hg:Gd cs)(h:Dn cs ps vs=true)(hn:∀p∈ps,p.1∈cs.map Prod.fst):∀(i:Nat) (p:Str×Str×Str) (v:D),ps[i]?=some p→vs[i]?=some v→∃k,(p.1,k)∈cs∧gf k v=true:=fun i p v e1 e2=>by
 unfold Dn at h
 have hm:D.tup [p3 p,v]∈aR (ps.map p3) vs:=by
  unfold aR
  refine zM (i:=i) ?_
  exact List.getElem?_zipWith_eq_some.mpr ⟨p3 p,v,by rw[zQ,e1];rfl,e2,rfl⟩
 have h2:=zJ.mp h _ hm
 obtain⟨d,hd,ed⟩:=zl.mp (hn p (zM e1))
 have hk:rz cs (.str p.1)=.str d.2:=oF hg (by rw[← ed];exact hd)
 have h3:(match rz cs (.str p.1) with|.str k=>gf k v|_=>false)=true:=h2
 rw[hk] at h3
 exact⟨d.2,by rw[← ed];exact hd,h3⟩
theorem mW(h:bc cs p=true):p.1∈cs.map Prod.fst:=by
 unfold bc at h
 rw[zj] at h
 exact zz h.1
theorem x8(hg:Gd cs)(hm:wH ws=true)(h:(gO ws).fits cs=true):Mark.ok (gO ws) cs:=by
 unfold Mark.fits markB Dq at h
 simp only [zj] at h
 obtain⟨ho,⟨hv,hk⟩,hs⟩:=h
 obtain⟨m,i1,i2,i3,i4⟩:=mV (qP hm).2.1
 refine⟨hg,?_,ho,⟨Du (qP hm).1,Ds hm,M4 hg hv fun p hp=>mW ((iW ho).2.1 p hp)⟩,hk,hs⟩
 show ((intText? (ws.getD 1 "")).getD 0).toNat<_
 rw[i1];exact i2
theorem sA(T:Txt w K mg t):Ok P w base T.fX 8 (fun ds S R Z=>∃cs d,ds=[.tup (cs.map aH),d]∧Gd cs∧Rd S d∧(∀x,GO cs d=some x→Mark.ok x cs→R x.d S)∧(GO cs d=none→Z t.aM S)):=by
 refine T.fX.F.ok ko (fun ds S R Z ⟨_,_,e,_⟩=>by rw[e];rfl) (fun bp A outer s H E ds S R Z hr ⟨cs,d,e,hg,⟨⟨k,hk⟩,hd⟩,q1,q2⟩=>?_)
 subst e
 refine⟨_,(sc (si (cy (tv (cb dE T.ao aj (ac (dv 1) (ac (sN T.fv cR) an))))) (s1 (xu ⟨T.cF⟩ T.eO (ac ds an))) s0) (sc (cT (i:=2) ko.nd (cf ((lZ T).mono (by decide)) hr T.cB.m T.cB.k T.cB.b d0 (ac (bm zF PySem.F.slot_str_split PySem.F.type_str_split m_split (dv 1) (ac ds an)) an))) (sc (se (cf ((qk T).mono (by decide)) hr T.eW.m T.eW.k T.eW.b d0 (ac (dv 0) (ac (dv 2) an)))) (sc (si (eS fN hr.units (cf ((sx T).mono (by decide)) hr T.fW.m T.fW.k T.fW.b d0 (ac (dv 2) an)) (dv 1)) (s1 (xu ⟨T.cF⟩ T.eO (ac ds an))) s0) (s1 (sr (dv 2))))))),?_⟩
 by_cases hz:∃z,d=.str z
 ·obtain⟨z,rfl⟩:=hz
  obtain⟨vE,DP⟩:=hd z rfl
  refine⟨_,rfl,_,_,_,_,rfl,cH,rfl,_,rfl,ck ?_⟩
  refine⟨_,rfl,rfl,z, " ",rfl,rfl,by trivial,sm (by show z.cps.size+2≤_;lia),fun p hp=>?_⟩
  have Bu:=xM z
  have pG:∀u∈fk z,u.cps.size≤90000:=fun u hu=>zA (xN hu) vE
  have Vl:z.length=z.cps.size:=rfl
  have er:GO cs (.str z)=if wH (fk z)=true∧(gO (fk z)).fits cs=true∧(gO (fk z)).tx=z then some (gO (fk z)) else none:=rfl
  show _
  rw[show Txt.split z " " = fk z from rfl]
  refine⟨p,fk z,rfl,ae,by lia,pG,fun hm=>?_,fun hm=>⟨S,.new hp,q2 (by rw[er,if_neg (fun h=>by rw[hm] at h;cases h.1)])⟩⟩
  have Vm:=(qP hm).1
  generalize fk z=ws at *
  refine⟨_,rfl,_,rfl,cs,_,(gO ws).ps,(gO ws).wy,(gO ws).vs,(gO ws).ky,(gO ws).sd,rfl,hg,Ju pG,Du Vm,Ds hm,zA (je pG) (by decide),fun hf=>?_,fun hf=>⟨S,.new hp,q2 (by rw[er,if_neg (fun h=>by rw[show (gO ws).fits cs=false from hf] at h;cases h.2.1)])⟩⟩
  have aF:=x8 hg hm hf
  refine⟨_,rfl,gO ws,cs,rfl,aF,_,rfl,_,rfl,?_⟩
  refine bg (fun h=>?_) (fun h=>?_)
  ·have h:(!decide ((gO ws).tx=z))=true:=h
   have h:=zU (nt h)
   exact⟨sm (show 1≤100000 by decide),S,.new hp,q2 (by rw[er,if_neg (fun k=>h k.2.2)])⟩
  ·have h:(!decide ((gO ws).tx=z))=false:=h
   have h:=zz (nf h)
   exact⟨_,rfl,S,.new hp,q1 _ (by rw[er,if_pos ⟨hm,hf,h⟩]) aF⟩
 ·have e:GO cs d=none:=by
   cases d with
   |str z=>exact absurd ⟨z,rfl⟩ hz
   |_=>rfl
  refine⟨_,rfl,_,_,_,_,rfl,cH,hk,_,rfl,?_⟩
  rcases r_ hk with ⟨z,rfl,h0⟩|⟨h0,h1⟩
  ·exact absurd ⟨z,rfl⟩ hz
  rw[h0]
  exact cL ⟨sm (show 1≤100000 by decide),fo (q2 e)⟩
def mD:Option Mark→D
 |none=>.ax
 |some x=>x.d
theorem oR(T:Txt w K mg t):Ok P w base T.cW 9 (fun ds S R _=>∃cs d,ds=[.tup (cs.map aH),d]∧Gd cs∧Rd S d∧R (mD (GO cs d)) S):=by
 refine T.cW.F.NV e_ ?_
 rintro _ _ _ _ _ _ ds S R Z hr ⟨cs,d,e,hg,hd,q⟩
 subst e
 refine⟨_,(sc (DQ (Qt (i:=2) e_.nd T.rW ⟨T.iR⟩ (s1 (cT (i:=3) e_.nd (cf ((sA T).mono (by decide)) hr T.fX.m T.fX.k T.fX.b d0 (ac (dv 0) (ac (dv 1) an))))) (fun _=>(sc (cT (i:=4) e_.nd (Qu Cc T.ao aj (ac (dv 2) (ac (eB (ac (dg (v:=.ref t.gG) T.qc rfl fun _=>dk _) (ac (dg (v:=.ref t.ba) T.bR rfl fun _=>dk _) (ac (dg (v:=.ref t.aT) T.bT rfl fun _=>dk _) (ac (dg (v:=.ref t.og) T.AX rfl fun _=>dk _) (ac (dg (v:=.ref t.lK) T.wg rfl fun _=>dk _) an)))))) an)))) (sc (cT (i:=5) e_.nd (jA (Qu Cc T.ao aj (ac (dv 2) (ac (dg (v:=.ref t.aM) T.eO rfl fun _=>dk _) an))) (jA (Qu Cc T.ao aj (ac (dv 2) (ac (sN T.rV pF) an))) (vL (Iw (dv 4)))))) (s1 (sr (Bd (ix hr.units (bE (ac (bE (ac ds an)) (ac dn an))) (UZ Jc T.mi iq (ac (dv 5) an))))))))))) (s1 (sr (dv 3)))),?_⟩
 refine⟨fun ay S'=>ay=[some (.tup (cs.map aH)),some d,none,some (mD (GO cs d)),none,none]∧S'=S,?_,?_⟩
 ·refine⟨_,rfl,_,rfl,cs,d,rfl,hg,hd,fun x hx _=>fo ⟨?_,rfl⟩,fun hn=>?_⟩
  ·rw[hx];rfl
  ·rw[hn] at q
   refine⟨T.cM,fun x hx=>?_⟩
   have he:(S.set x (.exc t.aM)) x=some (.exc t.aM):=ae
   have b0:Sub S (S.set x (.exc t.aM)):=.new hx
   generalize S.set x (.exc t.aM)=S0 at he b0 ⊢
   refine⟨_,rfl,sm (show 5≤100000 by decide),x,_,_,false,rfl,he,⟨T.cF⟩,T.gb,.inr (.inr ⟨_,rfl,T.lP⟩),?_⟩
   refine⟨_,rfl,x,_,_,true,rfl,he,⟨T.cF⟩,T.gb,.inl ⟨_,rfl,T.k_NoMark_NoMark⟩,_,rfl,cL ?_⟩
   refine⟨_,rfl,x,_,_,true,rfl,he,⟨T.cF⟩,T.gb,.inr (.inl ⟨_,rfl,T.k_NoMark_ValueError⟩),_,rfl,cL ?_⟩
   refine⟨_,rfl,_,rfl,?_⟩
   refine⟨sm (show 1≤100000 by decide),fun p1 Be=>?_⟩
   refine⟨sm (show 2≤100000 by decide),fun p2 gU=>?_⟩
   refine⟨_,rfl,.inr ⟨_,rfl,?_⟩⟩
   exact⟨_,_,ae,rfl,S,((b0.trans (.new Be)).trans (.new gU)),fo q⟩
 ·rintro ay S' ⟨rfl,rfl⟩
  exact⟨_,rfl,fo q⟩
theorem sC(z:Str):uV (jO (.str z)) ([D.str "up",D.str "down"].map jO)=jK z:=by
 have h:uV (jO (.str z)) ([D.str "up",D.str "down"].map jO)=decide (z∈(["up","down"]:List Str)):=kx z ["up","down"]
 rw[h]
 unfold jK
 by_cases h1:z = "up" <;> by_cases h2:z = "down" <;> simp [h1,h2]
theorem Jv(z:Str):uV (jO (.str z)) ([D.str "first",D.str "last"].map jO)=qj z:=by
 have h:uV (jO (.str z)) ([D.str "first",D.str "last"].map jO)=decide (z∈(["first","last"]:List Str)):=kx z ["first","last"]
 rw[h]
 unfold qj
 by_cases h1:z = "first" <;> by_cases h2:z = "last" <;> simp [h1,h2]
theorem sub_len[DecidableEq α]:∀{l m:List α},l.Nodup→(∀x∈l,x∈m)→l.length≤m.length
 |[],m,_,_=>yz _
 |a::l,m,nd,h=>by
  obtain⟨n1,n2⟩:=yB.mp nd
  have h1:=sub_len (m:=m.erase a) n2 fun x hx=>(List.mem_erase_of_ne (fun e=>n1 (by rw[← e];exact hx))).mpr (h x (zu _ hx))
  have h2:=List.length_erase_of_mem (h a zx)
  have h3:0<m.length:=List.length_pos_of_mem (h a zx)
  rw[zp];omega
theorem uP(T:Txt w K mg t):Ok P w base T.iQ 1 (fun ds S R _=>∃z,ds=[.str z]∧z.cps.size≤90000∧R (.bl (iS z)) S):=by
 refine T.iQ.F.ok uH (by rintro ds S R Z ⟨_,e,_⟩;exact by rw[e];rfl) (fun bp A outer s H E ds S R Z hr ⟨z,e,hz,q⟩=>?_)
 subst e
 refine⟨_,(sc (si (twd (twor (cy (JW dm dm hr.units di (cb bG T.bz aP (ac (dv 0) an)) di)) (tw1 (cy (JW dm dm hr.units ds (ix hr.units (dv 0) di) ds))))) (s1 (sr db)) s0) (s1 (sr (cb fO T.f_ dh (ac (nI (N:=["_law_sign"]) (src:=[none]) (md (af gE) ["_law_text"] rfl rfl (by trivial)) (vP (dv 0)) (px (show (["_law_sign"]:List Str).Nodup by trivial)) (aK rfl) aL (fun _ _ _ _ _=>mf) (fun _ _ _ _ _=>(PZ (cc dm dm hr.units ds (dv 0) ds) (vL (cc dm dm hr.units ds (dv 0) ds))))) an))))),?_⟩
 have e1:decide ((1:Int)≤(z.length:Nat))=decide (1≤z.cps.size):=by rw[zK];show (1:Int)≤((z.cps.size:Nat):Int)↔_;omega
 have e2:decide (((z.length:Nat):Int)≤12)=decide (z.cps.size≤12):=by rw[zK];show ((z.cps.size:Nat):Int)≤12↔_;omega
 unfold iS at q
 refine⟨_,rfl,_,rfl,⟨sm (by show z.cps.size≤_;omega),?_⟩⟩
 refine⟨_,rfl,?_⟩
 refine bg (fun h2=>?_) (fun h2=>?_)
 ·have vB:=e1.symm.trans h2
  rw[vB,zf] at q
  refine⟨_,rfl,?_⟩
  refine bg (fun h3=>?_) (fun h3=>?_)
  ·rw[e2.symm.trans (nt h3),zh,zh] at q
   exact fo q
  ·rw[e2.symm.trans (nf h3),zf] at q
   obtain⟨c,r,ec⟩:=len_pos (z:=z) (zz vB)
   have eh:z.cps.toList.head?.any isLet=isLet c:=by rw[ec];rfl
   rw[eh] at q
   refine⟨_,rfl,c,sm (by show z.cps.size≤_;omega),Lh ec,_,rfl,?_⟩
   have e3:oY "a" ⟨#[c]⟩=decide (97≤c):=br 97 c
   have e4:oY ⟨#[c]⟩ "z" = decide (c≤122):=br c 122
   have Q0:isLet c=(decide (97≤c) && decide (c≤122)):=rfl
   rw[Q0] at q
   refine bg (fun h4=>?_) (fun h4=>?_)
   ·rw[e3.symm.trans h4,zf] at q
    refine⟨_,rfl,?_⟩
    refine bg (fun h5=>?_) (fun h5=>?_)
    ·rw[e4.symm.trans (nt h5),zh] at q
     exact fo q
    ·rw[e4.symm.trans (nf h5),zf] at q
     refine i_ (f:=fun c=>isLet c || cG c) rfl (by omega) (fun c hc Q hQ=>?_) q
     refine⟨_,rfl,_,rfl,?_⟩
     have e5:oY "a" ⟨#[c]⟩=decide (97≤c):=br 97 c
     have e6:oY ⟨#[c]⟩ "z" = decide (c≤122):=br c 122
     have e7:oY "0" ⟨#[c]⟩=decide (48≤c):=br 48 c
     have e8:oY ⟨#[c]⟩ "9" = decide (c≤57):=br c 57
     unfold isLet cG at hQ
     refine bg (fun h6=>?_) (fun h6=>?_)
     ·rw[e5.symm.trans h6,zf] at hQ
      refine⟨_,rfl,?_⟩
      refine bg (fun h7=>?_) (fun h7=>?_)
      ·rw[e6.symm.trans h7,Bool.true_or] at hQ
       exact hQ
      ·rw[e6.symm.trans h7,yH] at hQ
       refine⟨_,rfl,_,rfl,?_⟩
       refine bg (fun h8=>?_) (fun h8=>?_)
       ·rw[e7.symm.trans h8,zf,← e8] at hQ
        exact hQ
       ·rw[e7.symm.trans h8,zh] at hQ
        exact hQ
     ·rw[e5.symm.trans h6,zh,yH] at hQ
      refine⟨_,rfl,ck ?_⟩
      refine⟨_,rfl,_,rfl,?_⟩
      refine bg (fun h8=>?_) (fun h8=>?_)
      ·rw[e7.symm.trans h8,zf,← e8] at hQ
       exact hQ
      ·rw[e7.symm.trans h8,zh] at hQ
       exact hQ
   ·rw[e3.symm.trans h4,zh,zh] at q
    refine⟨_,rfl,?_⟩
    exact cL (fo q)
 ·rw[e1.symm.trans h2,zh,zh,zh] at q
  refine⟨_,rfl,?_⟩
  exact cL (fo q)
def wI(cs:List (Str×Str)):List (Key×D):=dS (cs.map fun c=>(c.1,D.str c.2))
theorem wJ(cs:List (Str×Str))(z:Str):(cS (wI cs) (.inr z)).isSome=decide (z∈cs.map Prod.fst):=by
 unfold wI
 rw[k_,yj,zt,List.any_eq_true,zl]
 constructor
 ·rintro⟨q,hq,e⟩
  obtain⟨c,hc,rfl⟩:=zl.mp hq
  exact⟨c,hc,zz e⟩
 ·rintro⟨c,hc,e⟩
  exact⟨_,zl.mpr ⟨c,hc,rfl⟩,zy e⟩
theorem GP(hg:Gd cs)(h:z∈cs.map Prod.fst):∃k,(z,k)∈cs∧rz cs (.str z)=.str k∧cS (wI cs) (.inr z)=some (.str k):=by
 have h1:=wJ cs z
 rw[zy h] at h1
 cases e:cS (wI cs) (.inr z) with
 |none=>rw[e] at h1;cases h1
 |some d =>
  obtain⟨p',MK,e1,rfl⟩:=gM _ _ e
  obtain⟨c,hc,rfl⟩:=zl.mp MK
  have e1:c.1=z:=e1
  exact⟨c.2,by rw[← e1];exact hc,oF hg (by rw[← e1];exact hc),rfl⟩
theorem sD(T:Txt w K mg t):Ok P w base T.f9 1 (fun ds S R _=>∃a cs p,ds=[.ref a,.str p.1,.str p.2.1,.str p.2.2]∧S a=some (.fJ (wI cs))∧R (.bl (bc cs p)) S):=by
 refine T.f9.F.ok r9 (by rintro ds S R Z ⟨_,_,_,e,_⟩;exact by rw[e];rfl) (fun bp A outer s H E ds S R Z hr ⟨a,cs,p,e,hS,q⟩=>?_)
 subst e
 unfold bc at q
 refine⟨_,(s1 (sr (jA (cm B5 hr.units (dv 1) (dv 0)) (jA (cm B5 hr.units (dv 2) (eB (ac ds (ac ds an)))) (vL (cm B5 hr.units (dv 3) (eB (ac ds (ac ds an))))))))),?_⟩
 refine⟨_,rfl,_,rfl,.inr ⟨_,_,hS,rfl,_,rfl,?_⟩⟩
 refine bg (fun h=>?_) (fun h=>?_)
 ·have h:(cS (wI cs) (.inr p.1)).isSome=true:=h
  rw[wJ] at h
  rw[h,zf] at q
  refine⟨_,rfl,sm (show 2≤100000 by decide),rfl,rfl,_,rfl,?_⟩
  refine bg (fun h2=>?_) (fun h2=>?_)
  ·have h2:=(sC p.2.1).symm.trans h2
   rw[h2,zf,← Jv] at q
   exact⟨_,rfl,sm (show 2≤100000 by decide),rfl,rfl,fo q⟩
  ·have h2:=(sC p.2.1).symm.trans h2
   rw[h2,zh] at q
   exact fo q
 ·have h:(cS (wI cs) (.inr p.1)).isSome=false:=h
  rw[wJ] at h
  rw[h,zh] at q
  exact fo q
theorem Dw(a b c:Str)(r:List Str):bL (a::b::c::r)=(a,b,c)::bL r:=by
 unfold bL
 rw[show (a::b::c::r).length / 3=r.length / 3+1 by show (r.length+1+1+1) / 3=_;lia,List.range_succ_eq_map,zD,zC]
 refine congrArg ((a,b,c)::·) (List.map_congr_left fun k _=>?_)
 show ((a::b::c::r).getD (3 * (k+1)) "",(a::b::c::r).getD (3 * (k+1)+1) "",(a::b::c::r).getD (3 * (k+1)+2) "")=_
 rw[show 3 * (k+1)=3 * k+1+1+1 by lia];rfl
theorem uQ:∀(n:Nat) (l:List Str),l.length=3 * n+2→(bL l).flatMap dQ=l.take (3 * n)
 |0,l,h=>by
  have:bL l=[]:=by unfold bL;rw[h];rfl
  rw[this,Nat.mul_zero,yt];rfl
 |n+1,l,h=>by
  match l,h with
  |a::b::c::r,h =>
   have h:r.length+1+1+1=3 * (n+1)+2:=h
   rw[Dw,yy,uQ n r (by lia),show 3 * (n+1)=3 * n+1+1+1 by lia];rfl
  |[],h=>exact absurd h (by simp)
  |[a],h=>exact absurd h (by simp)
  |[a,b],h=>exact absurd h (by simp)
theorem Dx(hm:most≤60)(h:mI z.cps.toList most=true):∃n:Int,intText? z=some n∧bZ n=z:=by
 unfold mI mm at h
 by_cases hh:z.cps.toList.head?=some 45
 ·rw[if_pos hh,zj] at h
  obtain⟨n,h1,h2,h3⟩:=lu (head_drop hh) hm h.1
  rw[h.2] at h3
  exact⟨n,h1,zz h3⟩
 ·rw[if_neg hh,zj] at h
  obtain⟨n,h1,h2,h3⟩:=nR hm h.1
  rw[h.2] at h3
  exact⟨n,h1,zz h3⟩
theorem val_back(h:fe z.cps.toList=true):bV (bj z)=z:=by
 unfold fe at h
 unfold bj
 by_cases h1:z.cps.toList.head?=some 35
 ·rw[if_pos h1,← xh (aZ h1)] at h
  obtain⟨n,a,b⟩:=Dx (by decide) h
  rw[if_neg (fun e=>by rw[e,fA] at h1;cases h1),if_pos h1,a]
  refine lg ?_
  show (bV (.int n)).cps.toList=_
  rw[ja,b,xh (aZ h1)]
  exact (head_drop h1).symm
 ·rw[if_neg h1] at h
  by_cases h2:z.cps.toList.head?=some 34
  ·rw[if_pos h2,C7 z h2,zj] at h
   rw[if_neg (fun e=>by rw[e,fA] at h2;cases h2),if_neg h1]
   exact zz h.2
  ·rw[if_neg h2,zt] at h
   have e:z = "-" := lg (by rw[h,fA])
   rw[if_pos e,e];rfl
theorem Jw{l:List Str}{i:Nat}(h:i<l.length):l.drop i=l.getD i "" :: l.drop (i+1):=by
 rw[List.drop_eq_getElem_cons h,zH,zO h];rfl
theorem GQ(l:List Str)(i j:Nat):l.drop i=(l.drop i).take j++l.drop (i+j):=by
 rw[← List.drop_drop,List.take_append_drop]
def uR(ws:List Str):Str:=ws.getD (2+3 * nP ws) ""
def GR(ws:List Str):Str:=ws.getD (4+3 * nP ws) ""
theorem wK(h:ql ws=true)(hi:i<3 * nP ws+2):(oW ws).getD i "" = ws.getD (2+i) "" := by
 unfold oW
 rw[zH,List.getElem?_take_of_lt hi,List.getElem?_drop,← zH]
theorem Jx{ws:List Str}(h:ql ws=true):oW ws=(oW ws).take (3 * nP ws)++[uR ws,ee (oW ws)]:=by
 have hl:=sy h
 have e:=List.take_append_drop (3 * nP ws) (oW ws)
 rw[Jw (by lia),Jw (by lia),List.drop_eq_nil_of_le (by lia),wK h (by lia)] at e
 unfold ee uR
 rw[hl]
 exact e.symm
def glue(a b k l t:Str)(T V:List Str)(y s:Str):List Str:=a::b::(T++k::l::t::(V++[y,s]))
theorem Jy{ws:List Str}(h:ql ws=true):ws=glue (ws.getD 0 "") (ws.getD 1 "") (uR ws) (ee (oW ws)) (GR ws) ((oW ws).take (3 * nP ws)) (cj ws) (ws.getD (ws.length - 2) "") (ws.getD (ws.length - 1) ""):=by
 have hl:=oP h
 have e1:ws=ws.getD 0 "" :: ws.getD 1 "" :: ws.drop 2:=by
  conv=>lhs;rw[← List.drop_zero (l:=ws),Jw (by lia),Jw (by lia)]
 have e2:ws.drop 2=oW ws++ws.drop (4+3 * nP ws):=by
  rw[show 4+3 * nP ws=2+(3 * nP ws+2) by lia];exact GQ ws 2 _
 have e3:ws.drop (4+3 * nP ws)=GR ws::ws.drop (5+3 * nP ws):=by
  rw[Jw (by lia),show 4+3 * nP ws+1=5+3 * nP ws by lia];rfl
 have e4:ws.drop (5+3 * nP ws)=cj ws++ws.drop (5+3 * nP ws+nP ws):=GQ ws _ _
 have e5:ws.drop (5+3 * nP ws+nP ws)=[ws.getD (ws.length - 2) "",ws.getD (ws.length - 1) ""]:=by
  rw[Jw (by lia),Jw (by lia),List.drop_eq_nil_of_le (by lia),show 5+3 * nP ws+nP ws=ws.length - 2 by lia,show ws.length - 2+1=ws.length - 1 by lia]
 have e6:ws=ws.getD 0 "" :: ws.getD 1 "" :: (((oW ws).take (3 * nP ws)++[uR ws,ee (oW ws)])++GR ws::(cj ws++[ws.getD (ws.length - 2) "",ws.getD (ws.length - 1) ""])):=by
  rw[← e5,← e4,← e3,← Jx h,← e2];exact e1
 refine e6.trans ?_
 unfold glue
 rw[zS];rfl
theorem M5(h:wH ws=true):(gO ws).ws=glue "mark" (ws.getD 1 "") "key" (ee (oW ws)) "at" ((oW ws).take (3 * nP ws)) (cj ws) (ws.getD (ws.length - 2) "") (ws.getD (ws.length - 1) ""):=by
 obtain⟨h1,h2,h3⟩:=qP h
 obtain⟨m,i1,_,_,i4⟩:=mV h2
 have ev:((cj ws).map bj).map bV=cj ws:=by
  rw[zC]
  exact (List.map_congr_left fun u hu=>val_back (h3 u hu)).trans (List.map_id _)
 have em:bZ (((intText? (ws.getD 1 "")).getD 0).toNat:Nat)=ws.getD 1 "" := by rw[i1];exact i4
 show ((((["mark",bZ (((intText? (ws.getD 1 "")).getD 0).toNat:Nat)]:List Str)++((bL (oW ws)).flatMap dQ++(["key",ee (oW ws)]:List Str)))++(["at"]:List Str))++((cj ws).map bj).map bV)++([ws.getD (ws.length - 2) "",ws.getD (ws.length - 1) ""]:List Str)=_
 rw[uQ (nP ws) (oW ws) (sy h1),ev,em]
 unfold glue
 simp only [zS,List.cons_append,List.nil_append]
theorem Dy(hm:wH (fk z)=true)(aF:Mark.ok (gO (fk z)) cs):(gO (fk z)).tx=z↔((fk z).getD 0 "" = "mark" ∧ uR (fk z) = "key" ∧ GR (fk z) = "at"):=by
 have hw:=M5 hm
 have hd:=Jy (qP hm).1
 constructor
 ·intro e
  have h1:(gO (fk z)).ws=fk z:=by rw[← aF.split,e];rfl
  have h2:=hw.symm.trans (h1.trans hd)
  unfold glue at h2
  injection h2 with a h2
  injection h2 with _ h2
  have h2:=List.append_cancel_left h2
  injection h2 with b h2
  injection h2 with _ h2
  injection h2 with c h2
  exact⟨a.symm,b.symm,c.symm⟩
 ·rintro⟨a,b,c⟩
  have h1:(gO (fk z)).ws=fk z:=by
   rw[hw]
   conv=>rhs;rw[hd,a,b,c]
  unfold Mark.tx
  rw[h1,iU]
  exact uK z
def DX(cs:List (Str×Str)):D→Bool
 |.tup [.tup (n::_),.str u]=>match rz cs n with
  |.str k=>iV k u.cps.toList
  |_=>false
 |_=>false
def M6(cs:List (Str×Str))(ps:List (Str×Str×Str))(us:List Str):Bool:=(aR (ps.map p3) (us.map D.str)).all (DX cs)
def kF(cs:List (Str×Str))(ws:List Str):Bool :=
 ql ws && (decide (ws.getD 0 "" = "mark") && (t9 (ws.getD 1 "").cps.toList 18 && ((bL (oW ws)).all (bc cs) && (decide (((bL (oW ws)).map Prod.fst).Nodup) && (decide (uR ws = "key") && (jK (ee (oW ws)) && (decide (GR ws = "at") && (iS (ws.getD (ws.length - 2) "") && (jw (ws.getD (ws.length - 1) "") && M6 cs (bL (oW ws)) (cj ws))))))))))
theorem Ba{k:Str}(hk:k = "number" ∨ k = "word")(u:Str):iV k u.cps.toList=(fe u.cps.toList && gf k (bj u)):=by
 cases h:fe u.cps.toList with
 |false =>
  have:=xT u.cps.toList
  rw[h,Bool.or_eq_false_iff] at this
  rcases hk with rfl|rfl
  ·rw[this.1];rfl
  ·rw[this.2];rfl
 |true =>
  obtain⟨d,t1,t2⟩:=jb h
  rw[C8 hk h t1 t2,mU t1];rfl
theorem kG{cs:List (Str×Str)}(hg:Gd cs):∀{ps:List (Str×Str×Str)}{us:List Str},us.length=ps.length→(∀p∈ps,p.1∈cs.map Prod.fst)→M6 cs ps us=(us.all (fun u=>fe u.cps.toList) && Dn cs ps (us.map bj))
 |[],[],_,_=>rfl
 |p::ps,u::us,hl,hn=>by
  have ih:=kG hg (ps:=ps) (us:=us) (Nat.succ.inj hl) fun q hq=>hn q (zu _ hq)
  obtain⟨k,k1,k2,_⟩:=GP hg (hn p zx)
  have hk:=(hg.2.2 _ k1).2
  have e1:M6 cs (p::ps) (u::us)=(DX cs (.tup [p3 p,.str u]) && M6 cs ps us):=rfl
  have e2:Dn cs (p::ps) ((u::us).map bj)=(Jr cs (.tup [p3 p,bj u]) && Dn cs ps (us.map bj)):=rfl
  have e3:DX cs (.tup [p3 p,.str u])=iV k u.cps.toList:=by
   show (match rz cs (.str p.1) with|.str k=>iV k u.cps.toList|_=>false)=_
   rw[k2]
  have e4:Jr cs (.tup [p3 p,bj u])=gf k (bj u):=by
   show (match rz cs (.str p.1) with|.str k=>gf k (bj u)|_=>false)=_
   rw[k2]
  rw[e1,e2,e3,e4,ih,Ba hk u,yF]
  cases fe u.cps.toList <;> cases gf k (bj u) <;> cases us.all (fun u=>fe u.cps.toList) <;> rfl
theorem x9(l:List Nat):su l=t9 l 18:=by
 unfold su mI
 rw[mS]
 by_cases h:l.head?=some 45
 ·rw[zy h]
  have:bK l 18=false:=by
   cases e:bK l 18 with
   |false=>rfl
   |true =>
    obtain⟨_,_,a,_⟩:=eE e
    have:=a 45 (by rw[head_drop h];exact zx)
    exact absurd this.1 (by decide)
  rw[this];rfl
 ·rw[zv h,if_neg h];rfl
theorem sE(hg:Gd cs)(ws:List Str):kF cs ws=true↔(wH ws=true∧(gO ws).fits cs=true∧(ws.getD 0 "" = "mark" ∧ uR ws = "key" ∧ GR ws = "at")):=by
 have ef:(gO ws).fits cs=(kC cs (bL (oW ws)) (ee (oW ws)) && ((Dn cs (bL (oW ws)) ((cj ws).map bj) && iS (ws.getD (ws.length - 2) "")) && jw (ws.getD (ws.length - 1) ""))):=rfl
 unfold kF wH
 rw[ef,x9]
 unfold kC
 simp only [zj,zt]
 constructor
 ·rintro⟨h1,h2,h3,h4,h5,h6,h7,h8,h9,Q1,M7⟩
  have hn:∀p∈bL (oW ws),p.1∈cs.map Prod.fst:=fun p hp=>mW (zJ.mp h4 p hp)
  rw[kG (ps:=bL (oW ws)) hg ((oQ h1).trans (x6 h1).symm) hn,zj] at M7
  have Vn:(bL (oW ws)).length≤8:=by
   have:=sub_len h5 (m:=cs.map Prod.fst) fun x hx=>by
    obtain⟨p,hp,rfl⟩:=zl.mp hx
    exact hn p hp
   rw[zb,zb] at this
   exact zA this hg.1
  exact⟨⟨h1,h3,M7.1⟩,⟨⟨Vn,h4,h5,h7⟩,⟨M7.2,h9⟩,Q1⟩,h2,h6,h8⟩
 ·rintro⟨⟨h1,h3,M7⟩,⟨⟨_,h4,h5,h7⟩,⟨Sb,h9⟩,Q1⟩,h2,h6,h8⟩
  have hn:∀p∈bL (oW ws),p.1∈cs.map Prod.fst:=fun p hp=>mW (zJ.mp h4 p hp)
  exact⟨h1,h2,h3,h4,h5,h6,h7,h8,h9,Q1,by rw[kG (ps:=bL (oW ws)) hg ((oQ h1).trans (x6 h1).symm) hn,zj];exact⟨M7,Sb⟩⟩
theorem Dz(hg:Gd cs)(z:Str):rM cs z=if kF cs (fk z)=true then some (gO (fk z)) else none:=by
 unfold rM
 by_cases h:kF cs (fk z)=true
 ·obtain⟨a,b,c⟩:=(sE hg _).mp h
  rw[if_pos h,if_pos ⟨a,b,(Dy a (x8 hg a b)).mpr c⟩]
 ·rw[if_neg h,if_neg]
  rintro⟨a,b,c⟩
  exact h ((sE hg _).mpr ⟨a,b,(Dy a (x8 hg a b)).mp c⟩)
theorem DB(l:List α)(h:i≤l.length):ar l (some ((i:Nat):Int)) none=l.drop i:=by
 unfold ar
 rw[HT.sIx_nat,HT.sIx_none,Nat.min_eq_left h]
 exact ye (by rw[zB];lia)
theorem x_(z:Str):uV (jO (.str z)) ([D.str "ahead",D.str "behind"].map jO)=jw z:=by
 unfold jw
 rw[show ([D.str "ahead",D.str "behind"]:List D)=(["ahead","behind"]:List Str).map D.str from rfl,kx,yj]
 simp
theorem DC(T:Txt w K mg t):Ok P w base T.mh 3 (fun ds S R _=>∃cs z,ds=[.tup (cs.map aH),.str z]∧Gd cs∧z.cps.size≤8000∧R (if kF cs (fk z)=true then (gO (fk z)).d else .ax) S):=by
 refine T.mh.F.ok c_ (by rintro ds S R Z ⟨_,_,e,_⟩;exact by rw[e];rfl) (fun bp A outer s H E ds S R Z hr ⟨cs,z,e,hg,hz,q⟩=>?_)
 subst e
 have Bu:=xM z
 have pG:∀u∈fk z,u.cps.size≤8000:=fun u hu=>zA (xN hu) hz
 have Vl:z.length=z.cps.size:=rfl
 refine⟨_,(sc (cT (i:=2) c_.nd (bm zF PySem.F.slot_str_split PySem.F.type_str_split m_split (dv 1) (ac ds an))) (sc (cT (i:=3) c_.nd (bo nH hr.units (bo jV hr.units (cb bG T.bz aP (ac (dv 2) an)) di) di)) (sc (si (twd (twor (eS Iz hr.units (dv 3) di) (twor (eS fN hr.units (cb bG T.bz aP (ac (dv 2) an)) (bo au hr.units di (bo bF hr.units di (dv 3)))) (twor (eS fN hr.units (ix hr.units (dv 2) di) ds) (tw1 (cy (tv (cf ((fg T).mono (by decide)) hr T.aD.m T.aD.k T.aD.b d0 (ac (ix hr.units (dv 2) di) (ac di an)))))))))) (s1 (sr dn)) s0) (sc (cT (i:=4) c_.nd (sl (dv 2) (o1 di) (o1 (bo au hr.units di (bo bF hr.units di (dv 3)))))) (sc (cT (i:=5) c_.nd (sl (dv 2) (o1 (bo au hr.units di (bo bF hr.units di (dv 3)))) o0)) (sc (cT (i:=6) c_.nd (ct vQ T.we rj (ac (dv 0) an))) (sc (Qq (i:=7) (N:=["_law_k","_law_heads"]) (src:=[none,some 4]) c_.nd (md (af ft) ["_law_columns_here","_law_text","_law_words","_law_many","_law_heads","_law_tail","_law_kinds","_law_parts","_law_values","_law_gap_here"] rfl rfl (by trivial)) (Mf T.gJ (ac (dv 3) an)) (px (show (["_law_k","_law_heads"]:List Str).Nodup by trivial)) (aK rfl) aL (fun _ _ _ _ _=>mf) (fun _ _ _ _ _=>(eB (ac (ix hr.units (dv 1) (bo bF hr.units di (dv 0))) (ac (ix hr.units (dv 1) (bo au hr.units (bo bF hr.units di (dv 0)) di)) (ac (ix hr.units (dv 1) (bo au hr.units (bo bF hr.units di (dv 0)) di)) an)))))) (sc (si (cy (tv (cb fO T.f_ dh (ac (nI (N:=["_law_name","_law_way","_law_end","_law_kinds"]) (src:=[none,none,none,some 6]) (md (af ft) ["_law_columns_here","_law_text","_law_words","_law_many","_law_heads","_law_tail","_law_kinds","_law_parts","_law_values","_law_gap_here"] rfl rfl (by trivial)) (il (dv 7)) (U0 (show (["_law_name","_law_way","_law_end","_law_kinds"]:List Str).Nodup by trivial)) (Et rfl rfl rfl) Fe (fun _ _ _ _ _=>mf) (fun _ _ _ _ _=>(cf ((sD T).mono (by decide)) hr T.f9.m T.f9.k T.f9.b d0 (ac (dv 3) (ac (dv 0) (ac (dv 1) (ac (dv 2) an))))))) an)))) (s1 (sr dn)) s0) (sc (si (twd (twor (eS fN hr.units (RQ (nI (N:=["_law_part"]) (src:=[none]) (md (af ft) ["_law_columns_here","_law_text","_law_words","_law_many","_law_heads","_law_tail","_law_kinds","_law_parts","_law_values","_law_gap_here"] rfl rfl (by trivial)) (il (dv 7)) (px (show (["_law_part"]:List Str).Nodup by trivial)) (aK rfl) aL (fun _ _ _ _ _=>mf) (fun _ _ _ _ _=>(ix hr.units (dv 0) di))) T.bz T.GH) (dv 3)) (twor (eS fN hr.units (ix hr.units (dv 5) di) ds) (tw1 (eS Gy hr.units (ix hr.units (dv 5) di) (eB (ac ds (ac ds an)))))))) (s1 (sr dn)) s0) (sc (cT (i:=8) c_.nd (sl (dv 5) (o1 di) (o1 (bo au hr.units di (dv 3))))) (sc (si (twd (twor (eS fN hr.units (ix hr.units (dv 5) di) ds) (twor (cy (tv (cf ((uP T).mono (by decide)) hr T.iQ.m T.iQ.k T.iQ.b d0 (ac (ix hr.units (dv 5) (tU di)) an)))) (tw1 (eS Gy hr.units (ix hr.units (dv 5) (tU di)) (eB (ac ds (ac ds an)))))))) (s1 (sr dn)) s0) (sc (si (cy (tv (cb fO T.f_ dh (ac (nI (N:=["_law_part","_law_value_here","_law_kinds"]) (src:=[none,none,some 6]) (md (af ft) ["_law_columns_here","_law_text","_law_words","_law_many","_law_heads","_law_tail","_law_kinds","_law_parts","_law_values","_law_gap_here"] rfl rfl (by trivial)) (UW T.GI (ac (dv 7) (ac (dv 8) an))) (Qw (show (["_law_part","_law_value_here","_law_kinds"]:List Str).Nodup by trivial)) (rh rfl rfl) rB (fun _ _ _ _ _=>mf) (fun _ _ _ _ _=>(cf ((FA T).mono (by decide)) hr T.oq.m T.oq.k T.oq.b d0 (ac (ix hr.units (dv 2) (ix hr.units (dv 0) di)) (ac (dv 1) an))))) an)))) (s1 (sr dn)) s0) (sc (cT (i:=9) c_.nd (eB (ac (eB (ac (ct eC T.bD a_ (ac (nI (N:=["_law_value_here"]) (src:=[none]) (md (af ft) ["_law_columns_here","_law_text","_law_words","_law_many","_law_heads","_law_tail","_law_kinds","_law_parts","_law_values","_law_gap_here"] rfl rfl (by trivial)) (il (dv 8)) (px (show (["_law_value_here"]:List Str).Nodup by trivial)) (aK rfl) aL (fun _ _ _ _ _=>mf) (fun _ _ _ _ _=>(cf ((FC T).mono (by decide)) hr T.ot.m T.ot.k T.ot.b d0 (ac (dv 0) an)))) an)) (ac (ix hr.units (dv 5) (tU di)) an))) (ac (ix hr.units (dv 5) (tU di)) an)))) (s1 (sr (eB (ac (ct nK T.mi iq (ac (ix hr.units (dv 2) di) an)) (ac (eB (ac (ct eC T.bD a_ (ac (dv 7) an)) (ac (ix hr.units (dv 5) di) an))) (ac (dv 9) an))))))))))))))))))),?_⟩
 refine⟨_,rfl,rfl,z, " ",rfl,rfl,by trivial,sm (by show z.cps.size+2≤_;lia),fun p hp=>?_⟩
 rw[show Txt.split z " " = fk z from rfl]
 generalize fk z=ws at *
 have BD:(ws.map D.str).length=ws.length:=zb _
 have hS:(S.set p (.lst (ws.map D.str))) p=some (.lst (ws.map D.str)):=ae
 have g0:Sub S (S.set p (.lst (ws.map D.str))):=.new hp
 generalize S.set p (.lst (ws.map D.str))=S1 at hS g0 ⊢
 have qf:kF cs ws=false→R .ax S:=fun h=>by rw[h] at q;exact q
 refine⟨_,rfl,_,rfl,.inl ⟨_,hS,?_⟩⟩
 rw[BD]
 refine⟨⟨by decide,by trivial⟩,?_⟩
 refine⟨_,rfl,_,rfl,?_⟩
 refine bg (fun h=>?_) (fun h7=>?_)
 ·have h:(((ws.length:Nat):Int) - 7) / 4<0:=zz h
  exact⟨S,g0,qf (by unfold kF ql;rw[zv (show ¬ 7≤ws.length by lia)];rfl)⟩
 have h7:¬ (((ws.length:Nat):Int) - 7) / 4<0:=zU h7
 refine⟨_,rfl,_,rfl,.inl ⟨_,hS,?_⟩⟩
 rw[BD]
 refine⟨_,rfl,.inl ⟨by decide,by decide⟩,_,rfl,?_⟩
 refine bg (fun h=>?_) (fun h4=>?_)
 ·have h:¬ ((ws.length:Nat):Int)=7+4 * ((((ws.length:Nat):Int) - 7) / 4):=zU (nt h)
  exact⟨S,g0,qf (by unfold kF ql;rw[zv (show ¬ (ws.length - 7) % 4=0 by lia),Bool.and_false];rfl)⟩
 have h4:((ws.length:Nat):Int)=7+4 * ((((ws.length:Nat):Int) - 7) / 4):=zz (nf h4)
 have hf:ql ws=true:=by unfold ql;rw[zy (show 7≤ws.length by lia),zy (show (ws.length - 7) % 4=0 by lia)];rfl
 have hn:=oP hf
 have em:(((ws.length:Nat):Int) - 7) / 4=((nP ws:Nat):Int):=by lia
 rw[em]
 unfold kF at qf q
 rw[hf,zf] at qf q
 have w0:gP (ws.map D.str) 0=some (.str (ws.getD 0 "")):=qO (i:=0) (by lia) rfl
 have w1:gP (ws.map D.str) 1=some (.str (ws.getD 1 "")):=qO (i:=1) (by lia) rfl
 refine⟨_,rfl,_,_,hS,w0,_,rfl,?_⟩
 refine bg (fun h=>?_) (fun hm=>?_)
 ·exact⟨S,g0,qf (by rw[nt h];rfl)⟩
 rw[nf hm,zf] at qf q
 refine⟨_,rfl,_,_,hS,w1,_,18,rfl,zA (je pG) (by decide),_,rfl,?_⟩
 refine bg (fun h=>?_) (fun hm=>?_)
 ·exact⟨S,g0,qf (by rw[nt h];rfl)⟩
 have M8:=nf hm
 rw[M8,zf] at qf q
 refine⟨_,rfl,_,rfl,_,rfl,.inl ⟨by decide,by decide⟩,_,rfl,_,hS,fun p1 Be=>?_⟩
 have c1:ar (ws.map D.str) (some 2) (some (2+3 * ((nP ws:Nat):Int)))=((ws.drop 2).take (3 * nP ws)).map D.str:=by
  rw[show (2:Int)+3 * ((nP ws:Nat):Int)=((2+3 * nP ws:Nat):Int) by lia]
  refine oM (i:=2) (a:=(ws.take 2).map D.str) (b:=((ws.drop 2).drop (3 * nP ws)).map D.str) ?_ ?_ ?_
  ·rw[← zE,← zE];exact congrArg _ (jd ws _ _)
  ·rw[zb,zG];lia
  ·rw[zb,zG,zb,zG,zB];lia
 rw[c1]
 have g1:=g0.trans (Sub.new (c:=.lst (((ws.drop 2).take (3 * nP ws)).map D.str)) Be)
 have sQ:=(Sub.new (c:=.lst (((ws.drop 2).take (3 * nP ws)).map D.str)) Be) _ _ hS
 have Sl:(S1.set p1 (.lst (((ws.drop 2).take (3 * nP ws)).map D.str))) p1=some (.lst (((ws.drop 2).take (3 * nP ws)).map D.str)):=ae
 generalize S1.set p1 (.lst (((ws.drop 2).take (3 * nP ws)).map D.str))=S2 at g1 sQ Sl ⊢
 refine⟨_,rfl,_,rfl,.inl ⟨by decide,by decide⟩,_,rfl,_,sQ,fun p2 gU=>?_⟩
 have c2:ar (ws.map D.str) (some (2+3 * ((nP ws:Nat):Int))) none=(ws.drop (2+3 * nP ws)).map D.str:=by
  rw[show (2:Int)+3 * ((nP ws:Nat):Int)=((2+3 * nP ws:Nat):Int) by lia,List.map_drop]
  exact DB _ (by rw[BD];lia)
 rw[c2]
 have g2:=g1.trans (Sub.new (c:=.lst ((ws.drop (2+3 * nP ws)).map D.str)) gU)
 have FD:=(Sub.new (c:=.lst ((ws.drop (2+3 * nP ws)).map D.str)) gU) _ _ sQ
 have JQ:=(Sub.new (c:=.lst ((ws.drop (2+3 * nP ws)).map D.str)) gU) _ _ Sl
 have Sm:(S2.set p2 (.lst ((ws.drop (2+3 * nP ws)).map D.str))) p2=some (.lst ((ws.drop (2+3 * nP ws)).map D.str)):=ae
 generalize S2.set p2 (.lst ((ws.drop (2+3 * nP ws)).map D.str))=S3 at g2 FD JQ Sm ⊢
 have ek:cs.map aH=(cs.map fun c=>(c.1,D.str c.2)).map tZ:=by rw[zC];rfl
 refine⟨_,rfl,(cs.map fun c=>(c.1,D.str c.2)),by rw[ek],fun pd J6=>?_⟩
 rw[show dS (cs.map fun c=>(c.1,D.str c.2))=wI cs from rfl]
 have g3:=g2.trans (Sub.new (c:=.fJ (wI cs)) J6)
 have Bf:=(Sub.new (c:=.fJ (wI cs)) J6) _ _ FD
 have N9:=(Sub.new (c:=.fJ (wI cs)) J6) _ _ JQ
 have Sn:=(Sub.new (c:=.fJ (wI cs)) J6) _ _ Sm
 have Lf:(S3.set pd (.fJ (wI cs))) pd=some (.fJ (wI cs)):=ae
 generalize S3.set pd (.fJ (wI cs))=S4 at g3 Bf N9 Sn Lf ⊢
 refine⟨_,rfl,_,rfl,by lia,by lia,?_⟩
 have Xd:((ws.drop 2).take (3 * nP ws)).length=3 * nP ws:=by rw[zG,zB];lia
 have Q2:∀(i:Nat) (j:Int),i<3 * nP ws→j=((i:Nat):Int)→gP (((ws.drop 2).take (3 * nP ws)).map D.str) j=some (.str ((oW ws).getD i "")):=fun i j hi hj=>by
  rw[qO (i:=i) (by lia) hj,wK hf (by lia),zH,List.getElem?_take_of_lt hi,List.getElem?_drop,← zH]
 have BX:=sy hf
 have ex:(fP 0 ((nP ws:Nat):Int).toNat).map (fun d=>match d with|.int i=>p3 ((oW ws).getD (3 * i.toNat) "",(oW ws).getD (3 * i.toNat+1) "",(oW ws).getD (3 * i.toNat+2) "")|_=>.ax)=(bL (oW ws)).map p3:=by
  unfold fP bL
  rw[BX,zC,zC,show (3 * nP ws+2) / 3=nP ws by lia,yb]
  refine List.map_congr_left fun k _=>?_
  show p3 ((oW ws).getD (3 * (0+((k:Nat):Int)).toNat) "",(oW ws).getD (3 * (0+((k:Nat):Int)).toNat+1) "",(oW ws).getD (3 * (0+((k:Nat):Int)).toNat+2) "")=_
  rw[Int.zero_add,yb];rfl
 refine comp_map (I:=⟨fP 0 ((nP ws:Nat):Int).toNat,fun _=>True⟩) (fun d=>match d with|.int i=>p3 ((oW ws).getD (3 * i.toNat) "",(oW ws).getD (3 * i.toNat+1) "",(oW ws).getD (3 * i.toNat+2) "")|_=>.ax) trivial (by show (fP 0 _).length≤_;rw[fQ];lia) (fun d hd Q hQ=>?_) fun pp Ka=>?_
 ·obtain⟨k,hk⟩:=List.getElem?_of_mem hd
  obtain⟨k1,rfl⟩:=fR hk
  have k1:k<nP ws:=by rw[yb] at k1;exact k1
  rw[Int.zero_add] at hQ ⊢
  refine⟨_,rfl,_,rfl,.inl ⟨by decide,by decide⟩,_,_,N9,Q2 (3 * k) _ (by lia) (by lia),_,rfl,_,rfl,.inl ⟨by decide,by decide⟩,_,_,N9,Q2 (3 * k+1) _ (by lia) (by lia),_,rfl,_,rfl,.inl ⟨by decide,by decide⟩,_,_,N9,Q2 (3 * k+2) _ (by lia) (by lia),sm (show 3≤100000 by decide),?_⟩
  have e:((k:Nat):Int).toNat=k:=yb k
  have hQ:Q (p3 ((oW ws).getD (3 * ((k:Nat):Int).toNat) "",(oW ws).getD (3 * ((k:Nat):Int).toNat+1) "",(oW ws).getD (3 * ((k:Nat):Int).toNat+2) "")) S4:=hQ
  rw[e] at hQ
  exact hQ
 rw[show (⟨fP 0 ((nP ws:Nat):Int).toNat,fun _=>True⟩:pj).xs=fP 0 ((nP ws:Nat):Int).toNat from rfl,ex]
 have Ah:(bL (oW ws)).length=nP ws:=x6 hf
 have g4:=g3.trans (Sub.new (c:=.lst ((bL (oW ws)).map p3)) Ka)
 have Bb:=(Sub.new (c:=.lst ((bL (oW ws)).map p3)) Ka) _ _ Bf
 have So:=(Sub.new (c:=.lst ((bL (oW ws)).map p3)) Ka) _ _ Sn
 have Q3:=(Sub.new (c:=.lst ((bL (oW ws)).map p3)) Ka) _ _ Lf
 have GN:(S4.set pp (.lst ((bL (oW ws)).map p3))) pp=some (.lst ((bL (oW ws)).map p3)):=ae
 generalize S4.set pp (.lst ((bL (oW ws)).map p3))=S5 at g4 Bb So Q3 GN ⊢
 refine⟨_,rfl,_,GN,?_⟩
 have l8:((bL (oW ws)).map p3).length≤100000:=by rw[zb];lia
 refine comp_map (fun d=>match d with|.tup [.str a,.str b,.str c]=>.bl (bc cs (a,b,c))|_=>.ax) GN l8 (fun d hd Q hQ=>?_) fun pa Sq=>?_
 ·obtain⟨x,hx,rfl⟩:=zl.mp hd
  exact⟨_,rfl,rfl,_,_,rfl,_,_,rfl,_,_,rfl,rfl,_,rfl,_,rfl,_,rfl,_,rfl,pd,cs,x,rfl,Q3,hQ⟩
 refine⟨.ref pa,(bL (oW ws)).map (bc cs),rfl,(show (S5.set pa (.lst (((bL (oW ws)).map p3).map _))) pa=_ by rw[ae,zC,zC];rfl),_,rfl,?_⟩
 rw[show ((bL (oW ws)).map (bc cs)).all id=(bL (oW ws)).all (bc cs) from all_map]
 have g5:=g4.trans (Sub.new (c:=.lst (((bL (oW ws)).map p3).map fun d=>match d with|.tup [.str a,.str b,.str c]=>.bl (bc cs (a,b,c))|_=>.ax)) Sq)
 have k5:=Sub.new (c:=.lst (((bL (oW ws)).map p3).map fun d=>match d with|.tup [.str a,.str b,.str c]=>.bl (bc cs (a,b,c))|_=>.ax)) Sq
 show _
 rw[show (⟨(bL (oW ws)).map p3,fun S=>S pp=some (.lst ((bL (oW ws)).map p3))⟩:pj).xs=(bL (oW ws)).map p3 from rfl]
 generalize S5.set pa (.lst (((bL (oW ws)).map p3).map fun d=>match d with|.tup [.str a,.str b,.str c]=>.bl (bc cs (a,b,c))|_=>.ax))=S6 at g5 k5 ⊢
 have NI:=k5 _ _ So
 have Vo:=k5 _ _ Q3
 have Q4:=k5 _ _ GN
 have M9:=k5 _ _ Bb
 refine bg (fun h=>?_) (fun hm=>?_)
 ·exact⟨S,g5,qf (by rw[nt h];rfl)⟩
 have Em:=nf hm
 rw[Em,zf] at qf q
 refine⟨_,rfl,_,Q4,?_⟩
 refine comp_map (fun d=>match d with|.tup (x::_)=>x|_=>.ax) Q4 l8 (fun d hd Q hQ=>?_) fun pb J_=>?_
 ·obtain⟨x,hx,rfl⟩:=zl.mp hd
  exact⟨_,rfl,_,rfl,hQ⟩
 have e3:((bL (oW ws)).map p3).map (fun d=>match d with|.tup (x::_)=>x|_=>.ax)=((bL (oW ws)).map Prod.fst).map D.str:=by rw[zC,zC];rfl
 show _
 rw[show (⟨(bL (oW ws)).map p3,fun S=>S pp=some (.lst ((bL (oW ws)).map p3))⟩:pj).xs=(bL (oW ws)).map p3 from rfl,e3]
 have g6:=g5.trans (Sub.new (c:=.lst (((bL (oW ws)).map Prod.fst).map D.str)) J_)
 have k6:=Sub.new (c:=.lst (((bL (oW ws)).map Prod.fst).map D.str)) J_
 have Sr:(S6.set pb (.lst (((bL (oW ws)).map Prod.fst).map D.str))) pb=some (.lst (((bL (oW ws)).map Prod.fst).map D.str)):=ae
 generalize S6.set pb (.lst (((bL (oW ws)).map Prod.fst).map D.str))=S7 at g6 k6 Sr ⊢
 have N_:=k6 _ _ NI
 have Vp:=k6 _ _ Vo
 have Vq:=k6 _ _ Q4
 have Oa:=k6 _ _ M9
 refine⟨(bL (oW ws)).map Prod.fst,Sr,by rw[zb];lia,_,rfl,_,rfl,?_⟩
 have e4:decide ((((gw ((bL (oW ws)).map Prod.fst)).length:Nat):Int)=((nP ws:Nat):Int))=decide (((bL (oW ws)).map Prod.fst).Nodup):=by
  rw[zK,← qB,zb,Ah];lia
 refine bg (fun h=>?_) (fun hm=>?_)
 ·have h:(!decide ((((gw ((bL (oW ws)).map Prod.fst)).length:Nat):Int)=((nP ws:Nat):Int)))=true:=h
  rw[e4] at h
  exact⟨S,g6,qf (by rw[nt h];rfl)⟩
 have hm:(!decide ((((gw ((bL (oW ws)).map Prod.fst)).length:Nat):Int)=((nP ws:Nat):Int)))=false:=hm
 rw[e4] at hm
 rw[nf hm,zf] at qf q
 have Kc:(ws.drop (2+3 * nP ws)).length=5+nP ws:=by rw[zB];lia
 have Q5:∀(i:Nat) (j:Int),i<5+nP ws→j=((i:Nat):Int)→gP ((ws.drop (2+3 * nP ws)).map D.str) j=some (.str (ws.getD (2+3 * nP ws+i) "")):=fun i j hi hj=>by
  rw[qO (i:=i) (by lia) hj,zH,List.getElem?_drop,← zH]
 have t0:gP ((ws.drop (2+3 * nP ws)).map D.str) 0=some (.str (uR ws)):=Q5 0 0 (by lia) rfl
 have t1:gP ((ws.drop (2+3 * nP ws)).map D.str) 1=some (.str (ee (oW ws))):=by
  rw[Q5 1 1 (by lia) rfl]
  unfold ee
  rw[BX,wK hf (by lia),show 2+3 * nP ws+1=2+(3 * nP ws+2 - 1) by lia]
 have t2:gP ((ws.drop (2+3 * nP ws)).map D.str) 2=some (.str (GR ws)):=by
  rw[Q5 2 2 (by lia) rfl]
  unfold GR
  rw[show 2+3 * nP ws+2=4+3 * nP ws by lia]
 refine⟨_,rfl,_,_,N_,t0,_,rfl,?_⟩
 refine bg (fun h=>?_) (fun hm=>?_)
 ·exact⟨S,g6,qf (by rw[nt h];rfl)⟩
 rw[nf hm,zf] at qf q
 refine⟨_,rfl,_,_,N_,t1,sm (show 2≤100000 by decide),rfl,rfl,_,rfl,?_⟩
 refine bg (fun h=>?_) (fun hm=>?_)
 ·have h:=(sC (ee (oW ws))).symm.trans (nt h)
  exact⟨S,g6,qf (by rw[h];rfl)⟩
 have hm:=(sC (ee (oW ws))).symm.trans (nf hm)
 rw[hm,zf] at qf q
 have c3:ar ((ws.drop (2+3 * nP ws)).map D.str) (some 3) (some (3+((nP ws:Nat):Int)))=(cj ws).map D.str:=by
  rw[show (3:Int)+((nP ws:Nat):Int)=((3+nP ws:Nat):Int) by lia]
  refine oM (i:=3) (a:=((ws.drop (2+3 * nP ws)).take 3).map D.str) (b:=(((ws.drop (2+3 * nP ws)).drop 3).drop (nP ws)).map D.str) ?_ ?_ ?_
  ·rw[← zE,← zE]
   have:=jd (ws.drop (2+3 * nP ws)) 3 (nP ws)
   rw[show ((ws.drop (2+3 * nP ws)).drop 3).take (nP ws)=cj ws by unfold cj;rw[List.drop_drop,show 2+3 * nP ws+3=5+3 * nP ws by lia]] at this
   exact congrArg _ this
  ·rw[zb,zG,Kc];lia
  ·rw[zb,zG,Kc,zb,oQ hf];lia
 refine⟨_,rfl,_,rfl,_,rfl,_,rfl,_,N_,fun pv Ss=>?_⟩
 rw[c3]
 have g7:=g6.trans (Sub.new (c:=.lst ((cj ws).map D.str)) Ss)
 have k7:=Sub.new (c:=.lst ((cj ws).map D.str)) Ss
 have Ob:(S7.set pv (.lst ((cj ws).map D.str))) pv=some (.lst ((cj ws).map D.str)):=ae
 generalize S7.set pv (.lst ((cj ws).map D.str))=S8 at g7 k7 Ob ⊢
 have Oc:=k7 _ _ N_
 have Vr:=k7 _ _ Vp
 have Q6:=k7 _ _ Vq
 have M_:=k7 _ _ Oa
 have m2:gP ((ws.drop (2+3 * nP ws)).map D.str) (-2)=some (.str (ws.getD (ws.length - 2) "")):=by
  refine (kz (k:=2) (by rw[zb,Kc];lia) (by decide)).trans ?_
  rw[zb,Kc,lW (by lia),zH,List.getElem?_drop,← zH,show 2+3 * nP ws+(5+nP ws - 2)=ws.length - 2 by lia]
 have m1:gP ((ws.drop (2+3 * nP ws)).map D.str) (-1)=some (.str (ws.getD (ws.length - 1) "")):=by
  refine (kz (k:=1) (by rw[zb,Kc];lia) (by decide)).trans ?_
  rw[zb,Kc,lW (by lia),zH,List.getElem?_drop,← zH,show 2+3 * nP ws+(5+nP ws - 1)=ws.length - 1 by lia]
 refine⟨_,rfl,_,_,Oc,t2,_,rfl,?_⟩
 refine bg (fun h=>?_) (fun hm=>?_)
 ·exact⟨S,g7,qf (by rw[nt h];rfl)⟩
 rw[nf hm,zf] at qf q
 refine⟨_,rfl,_,rfl,_,_,Oc,m2,_,rfl,zA (je pG) (by decide),_,rfl,?_⟩
 refine bg (fun h=>?_) (fun hm=>?_)
 ·exact⟨S,g7,qf (by rw[nt h];rfl)⟩
 rw[nf hm,zf] at qf q
 refine⟨_,rfl,_,rfl,_,_,Oc,m1,sm (show 2≤100000 by decide),rfl,rfl,_,rfl,?_⟩
 refine bg (fun h=>?_) (fun hm=>?_)
 ·have h:=(x_ (ws.getD (ws.length - 1) "")).symm.trans (nt h)
  exact⟨S,g7,qf (by rw[h];rfl)⟩
 have hm:=(x_ (ws.getD (ws.length - 1) "")).symm.trans (nf hm)
 rw[hm,zf] at qf q
 have Su:∀p∈bL (oW ws),p.1∈cs.map Prod.fst:=fun p hp=>mW (zJ.mp Em p hp)
 have MY:=oQ hf
 have MZ:∀u∈cj ws,u.cps.size≤90000:=fun u h=>zA (pG u (List.mem_of_mem_drop (List.mem_of_mem_take h))) (by decide)
 have l9:(aR ((bL (oW ws)).map p3) ((cj ws).map D.str)).length≤100000:=by unfold aR;rw[List.length_zipWith,zb,zb];lia
 refine⟨_,rfl,_,rfl,pp,_,pv,_,rfl,Q6,Ob,by rw[zb,zb];lia,?_⟩
 refine comp_map (fun d=>.bl (DX cs d)) ⟨Q6,Ob⟩ l9 (fun d hd Q hQ=>?_) fun pf Vs=>?_
 ·unfold aR at hd
  obtain⟨i,ei⟩:=List.getElem?_of_mem hd
  obtain⟨x,y,e2,e3,e4⟩:=List.getElem?_zipWith_eq_some.mp ei
  subst e4
  rw[zQ] at e2 e3
  cases e5:(bL (oW ws))[i]? with
  |none=>rw[e5] at e2;cases e2
  |some c =>
   cases e6:(cj ws)[i]? with
   |none=>rw[e6] at e3;cases e3
   |some u =>
    rw[e5] at e2;cases e2
    rw[e6] at e3;cases e3
    obtain⟨k,k1,k2,k3⟩:=GP hg (Su c (zM e5))
    have e7:DX cs (.tup [p3 c,.str u])=iV k u.cps.toList:=by
     show (match rz cs (.str c.1) with|.str k=>iV k u.cps.toList|_=>false)=_
     rw[k2]
    have hQ:Q (.bl (DX cs (.tup [p3 c,.str u]))) S8:=hQ
    rw[e7] at hQ
    exact⟨_,rfl,rfl,_,_,rfl,_,_,rfl,rfl,_,rfl,_,rfl,_,rfl,_,_,Vr,k3,_,rfl,k,u,rfl,MZ u (zM e6),hQ⟩
 refine⟨.ref pf,(aR ((bL (oW ws)).map p3) ((cj ws).map D.str)).map (DX cs),rfl,(show (S8.set pf (.lst ((aR ((bL (oW ws)).map p3) ((cj ws).map D.str)).map _))) pf=_ by rw[ae,zC];rfl),_,rfl,?_⟩
 rw[show ((aR ((bL (oW ws)).map p3) ((cj ws).map D.str)).map (DX cs)).all id=M6 cs (bL (oW ws)) (cj ws) from all_map]
 have k8:=Sub.new (c:=.lst ((aR ((bL (oW ws)).map p3) ((cj ws).map D.str)).map fun d=>.bl (DX cs d))) Vs
 show _
 rw[show (⟨aR ((bL (oW ws)).map p3) ((cj ws).map D.str),fun S=>ph S (.ref pp) ((bL (oW ws)).map p3)∧ph S (.ref pv) ((cj ws).map D.str)⟩:pj).xs=aR ((bL (oW ws)).map p3) ((cj ws).map D.str) from rfl]
 generalize S8.set pf (.lst ((aR ((bL (oW ws)).map p3) ((cj ws).map D.str)).map fun d=>.bl (DX cs d)))=S9 at k8 ⊢
 have g8:=g7.trans k8
 refine bg (fun h=>?_) (fun hm=>?_)
 ·exact⟨S,g8,qf (nt h)⟩
 have Q7:=nf hm
 rw[Q7] at q
 have Q8:=k8 _ _ Oc
 have Vt:=k8 _ _ Q6
 have Sv:=k8 _ _ Ob
 have Od:=k8 _ _ M_
 rw[kG hg (MY.trans Ah.symm) Su,zj] at Q7
 refine⟨_,rfl,_,Sv,?_⟩
 refine comp_map (fun d=>match d with|.str u=>bj u|_=>.ax) Sv (by show ((cj ws).map D.str).length≤_;rw[zb];lia) (fun d hd Q hQ=>?_) fun pt Vu=>?_
 ·obtain⟨u,Jt,rfl⟩:=zl.mp hd
  obtain⟨d,t1,t2⟩:=jb (zJ.mp Q7.1 u Jt)
  refine⟨_,rfl,u,d,rfl,MZ u Jt,t1,?_⟩
  rw[mU t1];exact hQ
 have e9:((cj ws).map D.str).map (fun d=>match d with|.str u=>bj u|_=>.ax)=(cj ws).map bj:=by rw[zC];rfl
 show _
 rw[show (⟨(cj ws).map D.str,fun S=>S pv=some (.lst ((cj ws).map D.str))⟩:pj).xs=(cj ws).map D.str from rfl,e9]
 have k9:=Sub.new (c:=.lst ((cj ws).map bj)) Vu
 have g9:=g8.trans k9
 obtain⟨m,i1,i2,i3,i4⟩:=mV (show su (ws.getD 1 "").cps.toList=true by rw[x9];exact M8)
 refine⟨_,_,rfl,.inl ae,_,rfl,_,rfl,_,_,k9 _ _ Q8,m2,sm (show 2≤100000 by decide),_,rfl,_,rfl,_,_,k9 _ _ Q8,m1,sm (show 2≤100000 by decide),?_⟩
 refine⟨_,rfl,_,_,k9 _ _ Od,w1,_,m,rfl,i1,zA i3 (by decide),?_⟩
 refine⟨_,rfl,_,_,rfl,.inl (k9 _ _ Vt),_,rfl,_,_,k9 _ _ Q8,t1,sm (show 2≤100000 by decide),_,rfl,sm (show 3≤100000 by decide),S,g9,?_⟩
 have eM:(gO ws).d=.tup [.int (m:Nat),.tup [.tup ((bL (oW ws)).map p3),.str (ee (oW ws))],.tup [.tup [.tup ((cj ws).map bj),.str (ws.getD (ws.length - 2) "")],.str (ws.getD (ws.length - 1) "")]]:=by
  unfold gO Mark.d Mark.oD Mark.gD
  rw[i1];rfl
 have q:R (gO ws).d S:=q
 rw[eM] at q
 exact q
theorem oS(T:Txt w K mg t):Ok P w base T.dJ 2 (fun ds S R _=>∃x cs,ds=[x.d]∧Mark.ok x cs∧R (.str x.tx) S):=by
 refine T.dJ.F.ok aE (by rintro ds S R Z ⟨_,_,e,_⟩;exact by rw[e];rfl) (fun bp A outer s H E ds S R Z hr ⟨x,cs,e,hx,q⟩=>?_)
 subst e
 have h8:=(iW hx.o).1
 have MY:=hx.v.1
 refine⟨_,(sc (sa (dv 0) (gt (n:=3) (gc (gn (i:=1) aE.nd) (gc (gn (i:=2) aE.nd) (gc (gn (i:=3) aE.nd) g0))))) (sc (cT (i:=4) aE.nd (bE (ac ds (ac (ct t5 T.fv cR (ac (dv 1) an)) an)))) (sc (DQ (IM (EU (ix hr.units (dv 2) di)) (gt (n:=3) (gc (gn (i:=5) aE.nd) (gc (gn (i:=6) aE.nd) (gc (gn (i:=7) aE.nd) g0)))) (s1 (cT (i:=4) aE.nd (bo au hr.units (dv 4) (bE (ac (dv 5) (ac (dv 6) (ac (dv 7) an))))))))) (sc (cT (i:=4) aE.nd (bo au hr.units (bo au hr.units (dv 4) (bE (ac ds (ac (ix hr.units (dv 2) di) (ac ds an))))) (nI (N:=["_law_value_here"]) (src:=[none]) (md (af dw) ["_law_mark","_law_moment","_law_order_here","_law_gap_here","_law_words","_law_name","_law_way","_law_end"] rfl rfl (by trivial)) (EU (ix hr.units (ix hr.units (dv 3) di) di)) (px (show (["_law_value_here"]:List Str).Nodup by trivial)) (aK rfl) aL (fun _ _ _ _ _=>mf) (fun _ _ _ _ _=>(cf ((mJ T).mono (by decide)) hr T.cV.m T.cV.k T.cV.b d0 (ac (dv 0) an)))))) (s1 (sr (bm zF yq yr iA ds (ac (bo au hr.units (dv 4) (bE (ac (ix hr.units (ix hr.units (dv 3) di) di) (ac (ix hr.units (dv 3) di) an)))) an)))))))),?_⟩
 refine⟨_,rfl,_,rfl,rfl,_,_,rfl,_,_,rfl,_,_,rfl,rfl,?_⟩
 refine⟨_,rfl,_,rfl,lq (Dm hx.m),sm (show 2≤100000 by decide),fun p1 Be=>?_⟩
 have g1:Sub S (S.set p1 (.lst [D.str "mark",.str (Str.ofString (toString ((x.m:Nat):Int)))])):=.new Be
 have s1:(S.set p1 (.lst [D.str "mark",.str (Str.ofString (toString ((x.m:Nat):Int)))])) p1=some (.lst (((["mark",bZ (x.m:Nat)]:List Str)++(x.ps.take 0).flatMap dQ).map D.str)):=ae
 generalize S.set p1 (.lst [D.str "mark",.str (Str.ofString (toString ((x.m:Nat):Int)))])=S1 at g1 s1 ⊢
 refine⟨fun ay S'=>∃o5 o6 o7 pw,ay=[some x.d,some (.int (x.m:Nat)),some x.oD,some x.gD,some (.ref pw),o5,o6,o7]∧S' pw=some (.lst (((["mark",bZ (x.m:Nat)]:List Str)++x.ps.flatMap dQ).map D.str))∧Sub S S',?_,?_⟩
 ·refine⟨_,rfl,_,rfl,_,.inl rfl,?_⟩
  refine⟨fun i ay S'=>∃o5 o6 o7 pw,ay=[some x.d,some (.int (x.m:Nat)),some x.oD,some x.gD,some (.ref pw),o5,o6,o7]∧S' pw=some (.lst (((["mark",bZ (x.m:Nat)]:List Str)++(x.ps.take i).flatMap dQ).map D.str))∧Sub S S',⟨none,none,none,p1,rfl,s1,g1⟩,fun _ _ _ _=>trivial,?_,?_⟩
  ·rintro i d ay S' hd ⟨o5,o6,o7,pw,rfl,hS,hs⟩
   have hd:(x.ps.map p3)[i]?=some d:=hd
   rw[zQ] at hd
   cases e5:x.ps[i]? with
   |none=>rw[e5] at hd;cases hd
   |some p =>
    rw[e5] at hd;cases hd
    have hlen:(((["mark",bZ (x.m:Nat)]:List Str)++(x.ps.take i).flatMap dQ).map D.str).length≤26:=by
     rw[zb,ze,pw_len,zG];show 2+_≤_;lia
    refine⟨_,rfl,rfl,_,_,rfl,_,_,rfl,_,_,rfl,rfl,?_⟩
    refine⟨_,rfl,_,rfl,_,rfl,_,rfl,sm (show 3≤100000 by decide),fun pq EX=>⟨_,_,(Sub.new EX) _ _ hS,ae,sm (by show _+3≤_;lia),fun pr Vv=>?_⟩⟩
    refine⟨_,_,_,pr,rfl,?_,(hs.trans (.new EX)).trans (.new Vv)⟩
    rw[ae,take_snoc e5,List.flatMap_append,← zS]
    simp only [zE]
    rfl
  ·rintro ay S' ⟨o5,o6,o7,pw,rfl,hS,hs⟩
   rw[show (⟨x.ps.map p3,fun _=>True⟩:pj).xs.length=x.ps.length from zb _,List.take_length] at hS
   exact fo ⟨o5,o6,o7,pw,rfl,hS,hs⟩
 ·rintro ay S' ⟨o5,o6,o7,pw,rfl,hS,hs⟩
  have hlen:(((["mark",bZ (x.m:Nat)]:List Str)++x.ps.flatMap dQ).map D.str).length≤26:=by
   rw[zb,ze,pw_len];show 2+_≤_;lia
  have e3:((((["mark",bZ (x.m:Nat)]:List Str)++x.ps.flatMap dQ).map D.str++[D.str "key",.str x.wy,.str "at"])++x.vs.map fun d=>D.str (bV d))++[D.str x.ky,.str x.sd]=x.ws.map D.str:=by
   unfold Mark.ws gk
   simp only [zE,zC,zS]
   rfl
  generalize ((["mark",bZ (x.m:Nat)]:List Str)++x.ps.flatMap dQ).map D.str=L at hS hlen e3
  refine⟨_,rfl,_,rfl,_,rfl,sm (show 3≤100000 by decide),fun p2 gU=>⟨_,_,(Sub.new gU) _ _ hS,ae,sm (by show _+3≤_;lia),fun Oe mK=>?_⟩⟩
  have g3:Sub S ((S'.set p2 (.lst [D.str "key",.str x.wy,.str "at"])).set Oe (.lst (L++[D.str "key",.str x.wy,.str "at"]))):=(hs.trans (.new gU)).trans (.new mK)
  have s3:((S'.set p2 (.lst [D.str "key",.str x.wy,.str "at"])).set Oe (.lst (L++[D.str "key",.str x.wy,.str "at"]))) Oe=some (.lst (L++[D.str "key",.str x.wy,.str "at"])):=ae
  generalize (S'.set p2 (.lst [D.str "key",.str x.wy,.str "at"])).set Oe (.lst (L++[D.str "key",.str x.wy,.str "at"]))=S3 at g3 s3 ⊢
  refine⟨_,rfl,_,rfl,_,rfl,_,.inl rfl,?_⟩
  refine comp_map (fun d=>.str (bV d)) trivial (by show x.vs.length≤_;lia) (fun d hd Q hQ=>⟨_,rfl,d,rfl,hx.v.2.1 d hd,hQ⟩) fun p4 kA=>?_
  rw[show (⟨x.vs,fun _=>True⟩:pj).xs=x.vs from rfl]
  refine⟨_,_,(Sub.new kA) _ _ s3,ae,sm (by rw[ze,zb];show _+3+_≤_;lia),fun p5 uY=>?_⟩
  have g5:Sub S ((S3.set p4 (.lst (x.vs.map fun d=>.str (bV d)))).set p5 (.lst ((L++[D.str "key",.str x.wy,.str "at"])++x.vs.map fun d=>.str (bV d)))):=(g3.trans (.new kA)).trans (.new uY)
  have s5:((S3.set p4 (.lst (x.vs.map fun d=>.str (bV d)))).set p5 (.lst ((L++[D.str "key",.str x.wy,.str "at"])++x.vs.map fun d=>.str (bV d)))) p5=some (.lst ((L++[D.str "key",.str x.wy,.str "at"])++x.vs.map fun d=>.str (bV d))):=ae
  generalize (S3.set p4 (.lst (x.vs.map fun d=>.str (bV d)))).set p5 (.lst ((L++[D.str "key",.str x.wy,.str "at"])++x.vs.map fun d=>.str (bV d)))=S5 at g5 s5 ⊢
  have l5:((L++[D.str "key",.str x.wy,.str "at"])++x.vs.map fun d=>D.str (bV d)).length≤90000:=by rw[ze,ze,zb];show _+3+_≤_;lia
  refine⟨rfl,_,rfl,_,rfl,_,rfl,_,rfl,_,rfl,_,rfl,sm (show 2≤100000 by decide),fun p8 A_=>⟨_,_,(Sub.new A_) _ _ s5,ae,sm (by show _+2≤_;lia),fun p9 Kb=>?_⟩⟩
  refine⟨" ",x.ws,_,rfl,rfl,?_,(x5 hx.words hx.len).1,S,(g5.trans (.new A_)).trans (.new Kb),q⟩
  rw[← e3]
  exact ae
theorem DD{S:aQ}{ds:List D}{R:KD}(h:∀d∈ds,Ly S 60 d)(q:R (.bl (!ds.isEmpty)) S):JY true (.tup ds) (.tup []) S R:=by
 obtain⟨ps,k1,k2,k3,k4⟩:=Ly.all h
 refine⟨.tuple ps,.tuple [],by simp only [Dl,Dp];exact⟨ps,rfl,k1⟩,by simp only [Dl,Dp];exact⟨[],rfl,by simp only [DpAll]⟩,by simp only [PyData.canLay0];exact k2,by simp only [PyData.canLay0,PyData.canLayAll0],.inl (by simp only [PyData.depth];omega),?_⟩
 rw[if_pos rfl,C3,show ps.isEmpty=ds.isEmpty by cases ps <;> cases ds <;> first|rfl|cases k4];exact q
abbrev U1:List Str:=["","-","#","#0","#00","#-0","#-1","#+1","#1a","##1","#" ++ PySem.Txt.mul "9" 60, "#" ++ PySem.Txt.mul "9" 61]
abbrev U2:List Str:=["#-" ++ PySem.Txt.mul "1" 60, "#-" ++ PySem.Txt.mul "1" 61, "#-01","\"","\"a","\"=","\"=b","\"=e","\"=B","\"=c","\"=="]
abbrev U3:List Str:=["\"a=","\"" ++ PySem.Txt.mul "a" 40, "\"" ++ PySem.Txt.mul "a" 41, "\"=bx","\"=eb","\"" ++ PySem.Txt.mul "=b" 40, "\"" ++ PySem.Txt.mul "=e" 41]
abbrev U4:List Str:=["\"a\n","\"\"","'a","a","ab","a1","1a","A","zzzzzzzzzzzzz","up","down","first","last"]
abbrev U5:List Str:=["ahead","behind","key","at","mark","Mark","marks","Up","middle","0","1","01","00"]
abbrev U6:List Str:=["-1",PySem.Txt.mul "7" 18,PySem.Txt.mul "7" 19, "1.0","None","(","|"]
theorem Q9:∀z∈((((U1++U2)++U3)++U4)++U5)++U6,z.cps.size≤90∧PyData.strOk z=true∧32∉z.cps.toList:=by trivial
theorem yI(T:Txt w K mg t):Ok P w base T.iP 2 (fun ds S R _=>∃l cs,ds=[.ref l,.tup (cs.map aH)]∧Cg cs∧S l=some .well∧∀u,Wf u→R (.str u) S):=by
 refine T.iP.F.ok cP (fun ds S R Z ⟨_,_,e,_⟩=>by rw[e];rfl) (fun bp A outer s H E ds S R Z hr ⟨l,cs,e,hg,hw,q⟩=>?_)
 subst e
 have Vw:=hg.tx
 have h8:=hg.1.1
 have sz:∀a b:Str,a.length+b.length≤100000→a.length+b.length≤sizeLine:=fun a b h=>sm h
 refine⟨_,(sc (cT (i:=2) cP.nd (bE (ac ds (ac ds (ac ds (ac ds (ac ds (ac ds (ac ds (ac ds (ac ds (ac ds (ac (bo au hr.units ds (bo bF hr.units ds di)) (ac (bo au hr.units ds (bo bF hr.units ds di)) an)))))))))))))) (sc (cT (i:=2) cP.nd (bo au hr.units (dv 2) (bE (ac (bo au hr.units ds (bo bF hr.units ds di)) (ac (bo au hr.units ds (bo bF hr.units ds di)) (ac ds (ac ds (ac ds (ac ds (ac ds (ac ds (ac ds (ac ds (ac ds an)))))))))))))) (sc (cT (i:=2) cP.nd (bo au hr.units (dv 2) (bE (ac ds (ac (bo au hr.units ds (bo bF hr.units ds di)) (ac (bo au hr.units ds (bo bF hr.units ds di)) (ac ds (ac ds (ac (bo au hr.units ds (bo bF hr.units ds di)) (ac (bo au hr.units ds (bo bF hr.units ds di)) an)))))))))) (sc (cT (i:=2) cP.nd (bo au hr.units (dv 2) (bE (ac ds (ac ds (ac ds (ac ds (ac ds (ac ds (ac ds (ac ds (ac ds (ac ds (ac ds (ac ds (ac ds an)))))))))))))))) (sc (cT (i:=2) cP.nd (bo au hr.units (dv 2) (bE (ac ds (ac ds (ac ds (ac ds (ac ds (ac ds (ac ds (ac ds (ac ds (ac ds (ac ds (ac ds (ac ds an)))))))))))))))) (sc (cT (i:=2) cP.nd (bo au hr.units (dv 2) (bE (ac ds (ac (bo bF hr.units ds di) (ac (bo bF hr.units ds di) (ac ds (ac ds (ac ds (ac ds an)))))))))) (sc (DQ (si (eS fN hr.units (dv 1) (eB an)) (s1 (cT (i:=2) cP.nd (bo au hr.units (dv 2) (nI (N:=["_law_column"]) (src:=[none]) (md (af j_) ["_law_well_here","_law_columns_here","_law_some"] rfl rfl (by trivial)) (EU (dv 1)) (px (show (["_law_column"]:List Str).Nodup by trivial)) (aK rfl) aL (fun _ _ _ _ _=>mf) (fun _ _ _ _ _=>(ix hr.units (dv 0) di)))))) s0)) (s1 (sr (ix hr.units (dv 2) (cf ((bf T).mono (by decide)) hr T.ah.m T.ah.k T.ah.b d0 (ac (dv 0) (ac (cb bG T.bz aP (ac (dv 2) an)) an))))))))))))),?_⟩
 refine⟨⟨by decide,by decide,by trivial⟩,sz _ _ (by trivial),⟨by decide,by decide,by trivial⟩,sz _ _ (by trivial),sm (show 12≤100000 by decide),fun p1 Be=>?_⟩
 generalize sQ:S.set p1 _=S1
 have b1:Sub S S1:=by rw[← sQ];exact .new Be
 have v1:S1 p1=some (.lst (U1.map D.str)):=by rw[← sQ];exact ae
 refine⟨_,rfl,⟨by decide,by decide,by trivial⟩,sz _ _ (by trivial),⟨by decide,by decide,by trivial⟩,sz _ _ (by trivial),sm (show 11≤100000 by decide),fun p2 gU=>⟨_,_,(Sub.new gU) _ _ v1,ae,sm (show 23≤100000 by decide),fun p3 mK=>?_⟩⟩
 generalize FD:S1.set p2 _=S2 at mK
 have b2:Sub S S2:=by rw[← FD];exact b1.trans (.new gU)
 generalize Bf:S2.set p3 _=S3
 have b3:Sub S S3:=by rw[← Bf];exact b2.trans (.new mK)
 have v3:S3 p3=some (.lst ((U1++U2).map D.str)):=by rw[← Bf];exact ae
 refine⟨_,rfl,⟨by decide,by decide,by trivial⟩,sz _ _ (by trivial),⟨by decide,by decide,by trivial⟩,sz _ _ (by trivial),⟨by decide,by decide,by trivial⟩,sz _ _ (by trivial),⟨by decide,by decide,by trivial⟩,sz _ _ (by trivial),sm (show 7≤100000 by decide),fun p4 kA=>⟨_,_,(Sub.new kA) _ _ v3,ae,sm (show 30≤100000 by decide),fun p5 uY=>?_⟩⟩
 generalize Bb:S3.set p4 _=S4 at uY
 have b4:Sub S S4:=by rw[← Bb];exact b3.trans (.new kA)
 generalize M9:S4.set p5 _=S5
 have b5:Sub S S5:=by rw[← M9];exact b4.trans (.new uY)
 have v5:S5 p5=some (.lst (((U1++U2)++U3).map D.str)):=by rw[← M9];exact ae
 refine⟨_,rfl,sm (show 13≤100000 by decide),fun p6 A5=>⟨_,_,(Sub.new A5) _ _ v5,ae,sm (show 43≤100000 by decide),fun p7 NZ=>?_⟩⟩
 generalize Oa:S5.set p6 _=S6 at NZ
 have b6:Sub S S6:=by rw[← Oa];exact b5.trans (.new A5)
 generalize M_:S6.set p7 _=S7
 have b7:Sub S S7:=by rw[← M_];exact b6.trans (.new NZ)
 have v7:S7 p7=some (.lst ((((U1++U2)++U3)++U4).map D.str)):=by rw[← M_];exact ae
 refine⟨_,rfl,sm (show 13≤100000 by decide),fun p8 A_=>⟨_,_,(Sub.new A_) _ _ v7,ae,sm (show 56≤100000 by decide),fun p9 Kb=>?_⟩⟩
 generalize Od:S7.set p8 _=S8 at Kb
 have b8:Sub S S8:=by rw[← Od];exact b7.trans (.new A_)
 generalize Q_:S8.set p9 _=S9
 have b9:Sub S S9:=by rw[← Q_];exact b8.trans (.new Kb)
 have v9:S9 p9=some (.lst (((((U1++U2)++U3)++U4)++U5).map D.str)):=by rw[← Q_];exact ae
 refine⟨_,rfl,⟨by decide,by decide,by trivial⟩,⟨by decide,by decide,by trivial⟩,sm (show 7≤100000 by decide),fun Vx Na=>⟨_,_,(Sub.new Na) _ _ v9,ae,sm (show 63≤100000 by decide),fun Ra Nb=>?_⟩⟩
 generalize Nc:S9.set Vx _=S10 at Nb
 have b10:Sub S S10:=by rw[← Nc];exact b9.trans (.new Na)
 generalize Jz:S10.set Ra _=Rb
 have b11:Sub S Rb:=by rw[← Jz];exact b10.trans (.new Nb)
 have v11:Rb Ra=some (.lst ((((((U1++U2)++U3)++U4)++U5)++U6).map D.str)):=by rw[← Jz];exact ae
 have hU:∀z∈((((U1++U2)++U3)++U4)++U5)++U6,Wf z:=Q9
 have Vy:(((((U1++U2)++U3)++U4)++U5)++U6).length=63:=rfl
 generalize ((((U1++U2)++U3)++U4)++U5)++U6=us at v11 hU Vy
 clear sQ FD Bf Bb M9 Oa M_ Od Q_ Nc Jz v1 v3 v5 v7 v9
 refine⟨fun ay S'=>∃(pm:Addr) (us:List Str),ay=[some (.ref l),some (.tup (cs.map aH)),some (.ref pm)]∧S' pm=some (.lst (us.map D.str))∧1≤us.length∧us.length≤100∧(∀u∈us,Wf u)∧Sub S S',?_,?_⟩
 ·refine⟨_,rfl,sm (show 0≤100000 by decide),DD (xW hg) ⟨_,rfl,?_⟩⟩
  refine bg (fun _=>?_) (fun _=>?_)
  ·refine⟨_,rfl,_,rfl,_,.inl rfl,?_⟩
   refine comp_map (fun d=>match d with|.tup (x::_)=>x|_=>.ax) trivial (by show (cs.map aH).length≤_;rw[zb];omega) (fun d hd Q hQ=>?_) fun pn Jj=>?_
   ·obtain⟨c,hc,rfl⟩:=zl.mp hd
    exact⟨_,rfl,_,rfl,hQ⟩
   have e5:(cs.map aH).map (fun d=>match d with|.tup (x::_)=>x|_=>.ax)=(cs.map Prod.fst).map D.str:=by rw[zC,zC];rfl
   rw[show (⟨cs.map aH,fun _=>True⟩:pj).xs=cs.map aH from rfl,e5]
   refine⟨_,_,(Sub.new Jj) _ _ v11,ae,sm (by rw[zb,zb,zb];omega),fun pm uZ=>fo ⟨pm,us++cs.map Prod.fst,rfl,?_,?_,?_,fun u hu=>?_,(b11.trans (.new Jj)).trans (.new uZ)⟩⟩
   ·rw[ae,zE]
   ·rw[ze];omega
   ·rw[ze,zb];omega
   ·rcases zW.mp hu with hu|hu
    ·exact hU u hu
    ·obtain⟨c,hc,rfl⟩:=zl.mp hu
     exact sk (hg.1.2.2 c hc).1
  ·exact fo ⟨Ra,us,rfl,v11,by omega,by omega,hU,b11⟩
 ·rintro ay S' ⟨pm,us,rfl,hm,h1,Vz,hu,hs⟩
  have DV:(us.map D.str).length=us.length:=zb _
  refine⟨_,rfl,_,rfl,_,rfl,_,rfl,.inl ⟨_,hm,l,_,rfl,by omega,oJ (by omega) (by omega),hs _ _ hw,fun j Sd Se=>?_⟩⟩
  obtain⟨jn,rfl⟩:∃jn:Nat,j=(jn:Int):=⟨j.toNat,by omega⟩
  have C_:jn<us.length:=by omega
  refine⟨_,_,hm,qO C_ rfl,S,hs,q _ (hu _ ?_)⟩
  rw[zH,zO C_]
  exact List.getElem_mem C_
theorem yJ(l:List α)(lo hi:Option Int):(ar l lo hi).Sublist l:=by
 unfold ar
 exact (List.take_sublist _ _).trans (List.drop_sublist _ _)
theorem dR(ws:List Str)(lo hi:Option Int):ar (ws.map D.str) lo hi=(ar ws lo hi).map D.str:=by
 unfold ar
 rw[zb,List.map_take,List.map_drop]
theorem oU(h:∀u∈us,Wf u)(hl:us.length≤60):JoinOk " " us=true∧(Txt.join " " us).cps.size≤6000∧PyData.strOk (Txt.join " " us)=true:=by
 have h1:(" " : Str).length=1:=by trivial
 have hs:=C4 (n:=90) fun u hu=>(h u hu).1
 have:us.length * 90≤60 * 90:=Nat.mul_le_mul_right _ hl
 refine⟨PyProof.Rows.joinOk_of (by rw[h1];lia),?_,xO (by trivial) fun u hu=>(h u hu).2.1⟩
 have:=uL " " us
 rw[h1] at this
 show (Txt.join " " us).length≤_
 lia
theorem GS(ws:List Str)(h:0≤a):(ar ws none (some a)).length=min a.toNat ws.length:=by
 obtain⟨i,rfl⟩:∃i:Nat,a=(i:Int):=⟨a.toNat,by lia⟩
 unfold ar
 rw[HT.sIx_nat,HT.sIx_none,List.drop_zero,zG,yb];lia
theorem GU(ws:List Str)(h:0≤a):(ar ws (some a) none).length=ws.length - min a.toNat ws.length:=by
 obtain⟨i,rfl⟩:∃i:Nat,a=(i:Int):=⟨a.toNat,by lia⟩
 unfold ar
 rw[HT.sIx_nat,HT.sIx_none,zG,zB,yb];lia
theorem FP{m:Int}(h0:0<m)(h1:m≤100000):m.natAbs.log2<9000 :=
 Nat.lt_trans ((Nat.log2_lt (show m.natAbs≠0 by lia)).mpr (show m.natAbs<2 ^ 17 by lia)) (by decide)
theorem wL(T:Txt w K mg t):Ok P w base T.fZ 3 (fun ds S R _=>∃(l:Addr) (cs:List (Str×Str)) (ws:List Str),ds=[.ref l,.tup (cs.map aH),.str (Txt.join " " ws)]∧Cg cs∧S l=some .well∧1≤ws.length∧ws.length≤50∧(∀u∈ws,Wf u)∧∀us:List Str,1≤us.length→us.length≤ws.length+1→(∀u∈us,Wf u)→R (.str (Txt.join " " us)) S):=by
 refine T.fZ.F.ok eF (fun ds S R Z ⟨_,_,_,e,_⟩=>by rw[e];rfl) (fun bp A outer s H E ds S R Z hr ⟨l,cs,ws,e,hg,hw,Bu,Sw,hso,q⟩=>?_)
 subst e
 have hj:=(oU hso (by lia)).2.1
 have Xe:(Txt.join " " ws).length=(Txt.join " " ws).cps.size:=rfl
 refine⟨_,(sc (cT (i:=3) eF.nd (bm zF PySem.F.slot_str_split PySem.F.type_str_split m_split (dv 2) (ac ds an))) (sc (cT (i:=4) eF.nd (cf ((bf T).mono (by decide)) hr T.ah.m T.ah.k T.ah.b d0 (ac (dv 0) (ac (cb bG T.bz aP (ac (dv 3) an)) an)))) (sc (cT (i:=5) eF.nd (cf ((bf T).mono (by decide)) hr T.ah.m T.ah.k T.ah.b d0 (ac (dv 0) (ac di an)))) (sc (si (eS fG hr.units (dv 5) di) (s1 (sr (bm zF yq yr iA ds (ac (bo au hr.units (sl (dv 3) o0 (o1 (dv 4))) (sl (dv 3) (o1 (bo au hr.units (dv 4) di)) o0)) an)))) s0) (sc (si (eS fG hr.units (dv 5) di) (s1 (sr (bm zF yq yr iA ds (ac (bo au hr.units (sl (dv 3) o0 (o1 (bo au hr.units (dv 4) di))) (sl (dv 3) (o1 (dv 4)) o0)) an)))) s0) (sc (si (eS fG hr.units (dv 5) di) (s1 (sr (bm zF yq yr iA ds (ac (bo au hr.units (bo au hr.units (sl (dv 3) o0 (o1 (dv 4))) (bE (ac (cf ((yI T).mono (by decide)) hr T.iP.m T.iP.k T.iP.b d0 (ac (dv 0) (ac (dv 1) an))) an))) (sl (dv 3) (o1 (dv 4)) o0)) an)))) s0) (s1 (sr (bm zF yq yr iA ds (ac (bo au hr.units (bo au hr.units (sl (dv 3) o0 (o1 (dv 4))) (bE (ac (cf ((yI T).mono (by decide)) hr T.iP.m T.iP.k T.iP.b d0 (ac (dv 0) (ac (dv 1) an))) an))) (sl (dv 3) (o1 (bo au hr.units (dv 4) di)) o0)) an)))))))))),?_⟩
 refine⟨_,rfl,rfl,Txt.join " " ws, " ",rfl,rfl,rfl,by rw[sizeLine_eq];lia,fun p hp=>?_⟩
 rw[nQ (fun e=>by rw[e] at Bu;exact absurd Bu (by decide)) fun u hu=>(hso u hu).2.2]
 have DV:(ws.map D.str).length=ws.length:=zb _
 have sQ:(S.set p (.lst (ws.map D.str))) p=some (.lst (ws.map D.str)):=ae
 have sb:Sub S (S.set p (.lst (ws.map D.str))):=.new hp
 generalize S.set p (.lst (ws.map D.str))=S1 at sQ sb ⊢
 have hW:=sb _ _ hw
 have fin:∀(us:List Str) (S':aQ),Sub S S'→(∀u∈us,Wf u)→us.length≤ws.length+1→JoinOk " " us=true∧Fo S' (R (.str (Txt.join " " us))):=fun us S' hs h1 h2=>⟨(oU h1 (by lia)).1,S,hs,by
  cases us with
  |nil=>exact q [""] (by decide) (by show 1≤_;lia) fun u hu=>by rw[zT.mp hu];exact⟨by trivial,by trivial,by trivial⟩
  |cons a us=>exact q _ (by rw[zp];lia) h2 h1⟩
 have cl:∀lo hi,(ar ws lo hi).length≤50:=fun lo hi=>by have:=(yJ ws lo hi).length_le;lia
 have co:∀lo hi,∀u∈ar ws lo hi,Wf u:=fun lo hi u hu=>hso u ((yJ ws lo hi).subset hu)
 have two:∀(lo hi FQ FR:Option Int) (S':aQ),(ar ws lo hi).length+(ar ws FQ FR).length≤ws.length+1→Sub S S'→JoinOk " " (ar ws lo hi++ar ws FQ FR)=true∧Fo S' (R (.str (Txt.join " " (ar ws lo hi++ar ws FQ FR)))):=fun lo hi FQ FR S' hc hs =>
  fin _ S' hs (fun u hu=>(zW.mp hu).elim (co _ _ u) (co _ _ u)) (by rw[ze];exact hc)
 have three:∀(lo hi FQ FR:Option Int) (x:Str) (S':aQ),(ar ws lo hi).length+(ar ws FQ FR).length≤ws.length→Wf x→Sub S S'→JoinOk " " ((ar ws lo hi++[x])++ar ws FQ FR)=true∧Fo S' (R (.str (Txt.join " " ((ar ws lo hi++[x])++ar ws FQ FR)))):=fun lo hi FQ FR x S' JM hx hs =>
  fin _ S' hs (fun u hu=>by
   rcases zW.mp hu with hu|hu
   ·rcases zW.mp hu with hu|hu
    ·exact co _ _ u hu
    ·rw[zT.mp hu];exact hx
   ·exact co _ _ u hu) (by rw[ze,ze];show _+1+_≤_;lia)
 refine⟨_,rfl,_,rfl,_,rfl,.inl ⟨_,sQ,l,_,rfl,by lia,FP (by lia) (by lia),hW,fun at_ Sy Xf=>?_⟩⟩
 refine⟨_,rfl,l,_,rfl,(by decide),(by decide),hW,fun way Xg Xh=>?_⟩
 have l1:=GS ws Sy
 have l2:=GU ws Sy
 have l3:=GS ws (show 0≤at_+1 by lia)
 have l4:=GU ws (show 0≤at_+1 by lia)
 have c20:(ar ws none (some at_)).length+(ar ws (some at_) none).length≤ws.length:=by lia
 have c21:(ar ws none (some at_)).length+(ar ws (some (at_+1)) none).length≤ws.length:=by lia
 have c22:(ar ws none (some (at_+1))).length+(ar ws (some at_) none).length≤ws.length+1:=by lia
 refine⟨_,rfl,_,rfl,bg (fun _=>?_) (fun _=>?_)⟩
 ·refine⟨rfl,_,rfl,_,rfl,_,rfl,_,sQ,fun p2 gU=>?_⟩
  rw[dR]
  refine⟨_,rfl,_,rfl,_,rfl,_,(Sub.new gU) _ _ sQ,fun p3 mK=>?_⟩
  rw[dR]
  refine⟨_,_,(Sub.new mK) _ _ ae,ae,sm (by rw[zb,zb];have:=cl none (some at_);have:=cl (some (at_+1)) none;lia),fun p4 kA=>?_⟩
  obtain⟨j1,j2⟩:=two none (some at_) (some (at_+1)) none _ (by lia) (((sb.trans (.new (c:=.lst ((ar ws none (some at_)).map D.str)) gU)).trans (.new (c:=.lst ((ar ws (some (at_+1)) none).map D.str)) mK)).trans (.new (c:=.lst ((ar ws none (some at_)).map D.str++(ar ws (some (at_+1)) none).map D.str)) kA))
  exact⟨" ",ar ws none (some at_)++ar ws (some (at_+1)) none,_,rfl,rfl,(by show _=_;rw[ae];simp only [zE]),j1,j2⟩
 refine⟨_,rfl,_,rfl,bg (fun _=>?_) (fun _=>?_)⟩
 ·refine⟨rfl,_,rfl,_,rfl,_,rfl,_,sQ,fun p2 gU=>?_⟩
  rw[dR]
  refine⟨_,rfl,_,rfl,_,rfl,_,(Sub.new gU) _ _ sQ,fun p3 mK=>?_⟩
  rw[dR]
  refine⟨_,_,(Sub.new mK) _ _ ae,ae,sm (by rw[zb,zb];have:=cl none (some (at_+1));have:=cl (some at_) none;lia),fun p4 kA=>?_⟩
  obtain⟨j1,j2⟩:=two none (some (at_+1)) (some at_) none _ c22 (((sb.trans (.new (c:=.lst ((ar ws none (some (at_+1))).map D.str)) gU)).trans (.new (c:=.lst ((ar ws (some at_) none).map D.str)) mK)).trans (.new (c:=.lst ((ar ws none (some (at_+1))).map D.str++(ar ws (some at_) none).map D.str)) kA))
  exact⟨" ",ar ws none (some (at_+1))++ar ws (some at_) none,_,rfl,rfl,(by show _=_;rw[ae];simp only [zE]),j1,j2⟩
 refine⟨_,rfl,_,rfl,bg (fun _=>?_) (fun _=>?_)⟩
 ·skip
  refine⟨rfl,_,rfl,_,rfl,_,rfl,_,sQ,fun p2 gU=>?_⟩
  rw[dR]
  have v2:(S1.set p2 (.lst ((ar ws none (some at_)).map D.str))) p2=some (.lst ((ar ws none (some at_)).map D.str)):=ae
  have s2:=sb.trans (.new (c:=.lst ((ar ws none (some at_)).map D.str)) gU)
  have w2:=(Sub.new (c:=.lst ((ar ws none (some at_)).map D.str)) gU) _ _ sQ
  generalize S1.set p2 (.lst ((ar ws none (some at_)).map D.str))=S2 at v2 s2 w2 ⊢
  refine⟨_,rfl,_,rfl,l,cs,rfl,hg,s2 _ _ hw,fun x hx=>⟨sm (show 1≤100000 by decide),fun p3 mK=>⟨_,_,(Sub.new mK) _ _ v2,ae,sm (by rw[zb];have:=cl none (some at_);show _+1≤_;lia),fun p4 kA=>?_⟩⟩⟩
  generalize Bf:S2.set p3 _=S3 at kA
  have s3:Sub S S3:=by rw[← Bf];exact s2.trans (.new mK)
  have w3:S3 p=some (.lst (ws.map D.str)):=by rw[← Bf];exact (Sub.new mK) _ _ w2
  generalize Bb:S3.set p4 _=S4
  have s4:Sub S S4:=by rw[← Bb];exact s3.trans (.new kA)
  have w4:S4 p=some (.lst (ws.map D.str)):=by rw[← Bb];exact (Sub.new kA) _ _ w3
  have v4:S4 p4=some (.lst ((ar ws none (some at_)++[x]).map D.str)):=by rw[← Bb,ae,zE];rfl
  refine⟨_,rfl,_,rfl,_,rfl,_,w4,fun p5 uY=>?_⟩
  rw[dR]
  refine⟨_,_,(Sub.new uY) _ _ v4,ae,sm (by rw[zb,zb,ze];have:=cl none (some at_);have:=cl (some at_) none;show _+1+_≤_;lia),fun p6 A5=>?_⟩
  obtain⟨j1,j2⟩:=three none (some at_) (some at_) none x _ c20 hx ((s4.trans (.new (c:=.lst ((ar ws (some at_) none).map D.str)) uY)).trans (.new (c:=.lst ((ar ws none (some at_)++[x]).map D.str++(ar ws (some at_) none).map D.str)) A5))
  exact⟨" ",(ar ws none (some at_)++[x])++ar ws (some at_) none,_,rfl,rfl,(by show _=_;rw[ae];simp only [zE]),j1,j2⟩
 ·skip
  refine⟨rfl,_,rfl,_,rfl,_,rfl,_,sQ,fun p2 gU=>?_⟩
  rw[dR]
  have v2:(S1.set p2 (.lst ((ar ws none (some at_)).map D.str))) p2=some (.lst ((ar ws none (some at_)).map D.str)):=ae
  have s2:=sb.trans (.new (c:=.lst ((ar ws none (some at_)).map D.str)) gU)
  have w2:=(Sub.new (c:=.lst ((ar ws none (some at_)).map D.str)) gU) _ _ sQ
  generalize S1.set p2 (.lst ((ar ws none (some at_)).map D.str))=S2 at v2 s2 w2 ⊢
  refine⟨_,rfl,_,rfl,l,cs,rfl,hg,s2 _ _ hw,fun x hx=>⟨sm (show 1≤100000 by decide),fun p3 mK=>⟨_,_,(Sub.new mK) _ _ v2,ae,sm (by rw[zb];have:=cl none (some at_);show _+1≤_;lia),fun p4 kA=>?_⟩⟩⟩
  generalize Bf:S2.set p3 _=S3 at kA
  have s3:Sub S S3:=by rw[← Bf];exact s2.trans (.new mK)
  have w3:S3 p=some (.lst (ws.map D.str)):=by rw[← Bf];exact (Sub.new mK) _ _ w2
  generalize Bb:S3.set p4 _=S4
  have s4:Sub S S4:=by rw[← Bb];exact s3.trans (.new kA)
  have w4:S4 p=some (.lst (ws.map D.str)):=by rw[← Bb];exact (Sub.new kA) _ _ w3
  have v4:S4 p4=some (.lst ((ar ws none (some at_)++[x]).map D.str)):=by rw[← Bb,ae,zE];rfl
  refine⟨_,rfl,_,rfl,_,rfl,_,w4,fun p5 uY=>?_⟩
  rw[dR]
  refine⟨_,_,(Sub.new uY) _ _ v4,ae,sm (by rw[zb,zb,ze];have:=cl none (some at_);have:=cl (some (at_+1)) none;show _+1+_≤_;lia),fun p6 A5=>?_⟩
  obtain⟨j1,j2⟩:=three none (some at_) (some (at_+1)) none x _ c21 hx ((s4.trans (.new (c:=.lst ((ar ws (some (at_+1)) none).map D.str)) uY)).trans (.new (c:=.lst ((ar ws none (some at_)++[x]).map D.str++(ar ws (some (at_+1)) none).map D.str)) A5))
  exact⟨" ",(ar ws none (some at_)++[x])++ar ws (some (at_+1)) none,_,rfl,rfl,(by show _=_;rw[ae];simp only [zE]),j1,j2⟩
def Pf(d:D)(p:PyData):Prop:=(d=.ax∧p=.none)∨(∃i,d=.int i∧p=.int i)∨∃z,d=.str z∧p=.str z∧PyData.strOk z=true
def Pz:Nat→D→PyData→Prop
 |0=>Pf
 |n+1=>fun d p=>Pf d p∨∃ds ps,d=.tup ds∧p=.tuple ps∧Paired (Pz n) ds ps
theorem qQ(h:∀d p,Pz n d p→Dp S d p∧p.canLay0=true∧p.depth≤n):∀{ds:List D}{ps:List PyData},Paired (Pz n) ds ps→DpAll S ds ps∧PyData.canLayAll0 ps=true∧PyData.depthAll ps≤n
 |_,_,.nil=>⟨by simp only [DpAll],rfl,yz _⟩
 |_,_,.cons r t=>by
  obtain⟨a,b,c⟩:=h _ _ r
  obtain⟨a',b',c'⟩:=qQ h t
  exact⟨by simp only [DpAll];exact⟨_,_,rfl,a,a'⟩,by simp only [PyData.canLayAll0,b,b',Bool.and_self],by simp only [PyData.depthAll];lia⟩
theorem Sz(h:Pf d p):Dp S d p∧p.canLay0=true∧p.depth≤0:=by
 rcases h with ⟨rfl,rfl⟩|⟨i,rfl,rfl⟩|⟨z,rfl,rfl,hz⟩
 ·exact⟨by simp only [Dp],by simp only [PyData.canLay0],by simp only [PyData.depth];lia⟩
 ·exact⟨by simp only [Dp],by simp only [PyData.canLay0],by simp only [PyData.depth];lia⟩
 ·exact⟨by simp only [Dp],by simp only [PyData.canLay0];exact hz,by simp only [PyData.depth];lia⟩
theorem GV:∀(n:Nat) (d:D) (p:PyData),Pz n d p→Dp S d p∧p.canLay0=true∧p.depth≤n
 |0,d,p,h=>Sz h
 |n+1,d,p,h=>by
  rcases h with h|⟨ds,ps,rfl,rfl,hp⟩
  ·obtain⟨a,b,c⟩:=Sz (S:=S) h
   exact⟨a,b,zA c (yz _)⟩
  ·obtain⟨a,b,c⟩:=qQ (GV n) hp
   exact⟨by simp only [Dp];exact⟨ps,rfl,a⟩,by simp only [PyData.canLay0];exact b,by simp only [PyData.depth];lia⟩
theorem jM{n:Nat}{ds:List D}(h:∀d∈ds,∃p,Pz n d p):∃p,Pz (n+1) (.tup ds) p:=by
 have:∃ps,Paired (Pz n) ds ps:=by
  induction ds with
  |nil=>exact⟨[],.nil⟩
  |cons d ds ih =>
   obtain⟨p,hp⟩:=h d zx
   obtain⟨ps,VA⟩:=ih fun x hx=>h x (zu _ hx)
   exact⟨p::ps,.cons hp VA⟩
 obtain⟨ps,hp⟩:=this
 exact⟨_,Or.inr ⟨ds,ps,rfl,rfl,hp⟩⟩
theorem yK(h:∃p,Pf d p):∃p,Pz n d p:=by
 obtain⟨p,h⟩:=h
 cases n with
 |zero=>exact⟨p,h⟩
 |succ n=>exact⟨p,Or.inl h⟩
theorem jN(h:PyData.strOk z=true):∃p,Pz n (.str z) p:=yK ⟨_,.inr (.inr ⟨z,rfl,rfl,h⟩)⟩
theorem Mark.ok.pz{x:Mark}{cs:List (Str×Str)}(h:x.ok cs):∃p,Pz 4 x.d p:=by
 obtain⟨h8,hp,_,hw⟩:=iW h.o
 refine jM fun d hd=>?_
 simp only [zd,zq,or_false] at hd
 rcases hd with rfl|rfl|rfl
 ·exact yK ⟨_,.inr (.inl ⟨_,rfl,rfl⟩)⟩
 ·refine jM fun d hd=>?_
  simp only [zd,zq,or_false] at hd
  rcases hd with rfl|rfl
  ·refine jM fun d hd=>?_
   obtain⟨p,uZ,rfl⟩:=zl.mp hd
   obtain⟨k1,_,k2,k3⟩:=xY h.g (hp p uZ)
   refine jM fun d hd=>?_
   simp only [zd,zq,or_false] at hd
   rcases hd with rfl|rfl|rfl
   ·exact jN (sk k1).2.1
   ·exact jN (so k2).2.1
   ·exact jN (Dk k3).2.1
  ·exact jN (so hw).2.1
 ·refine jM fun d hd=>?_
  simp only [zd,zq,or_false] at hd
  rcases hd with rfl|rfl
  ·refine jM fun d hd=>?_
   simp only [zd,zq,or_false] at hd
   rcases hd with rfl|rfl
   ·refine jM fun d hd=>?_
    rcases h.v.2.1 d hd with rfl|⟨n,rfl,_⟩|⟨z,rfl,hz⟩
    ·exact yK ⟨_,.inl ⟨rfl,rfl⟩⟩
    ·exact yK ⟨_,.inr (.inl ⟨_,rfl,rfl⟩)⟩
    ·refine jN (fb.mpr fun c hc=>?_)
     have:=(fc hz).2 c hc
     lia
   ·exact jN (Dj h.k).2.1
  ·exact jN (xZ h.s).2.1
theorem Mark.ok.ly{x:Mark}{cs:List (Str×Str)}(h:x.ok cs){S:aQ} : Ly S 64 x.d:=by
 obtain⟨p,hp⟩:=h.pz
 obtain⟨a,b,c⟩:=GV (S:=S) _ _ _ hp
 exact⟨p,a,b,by lia⟩
theorem DF(h:Paired (fun d u=>∃c:Str×Str,∃k:Str,d=aH c∧u=aH (c.1,k)∧(k = "number" ∨ k = "word")) xs out):∀{cs:List (Str×Str)},xs=cs.map aH→∃os:List (Str×Str),out=os.map aH∧os.map Prod.fst=cs.map Prod.fst∧∀c∈os,c.2 = "number" ∨ c.2 = "word" := by
 induction h with
 |nil =>
  intro cs e
  cases cs with
  |nil=>exact⟨[],rfl,rfl,fun _ h=>(nomatch h)⟩
  |cons c cs=>cases e
 |cons r _ ih =>
  intro cs e
  cases cs with
  |nil=>cases e
  |cons c0 cs =>
   obtain⟨c,k,e1,e2,hk⟩:=r
   obtain⟨e3,e4⟩:=List.cons.inj e
   obtain⟨os,h1,h2,h3⟩:=ih e4
   rw[e1] at e3
   have e5:c.1=c0.1:=D.str.inj (List.cons.inj (D.tup.inj e3)).1
   exact⟨(c.1,k)::os,by rw[e2,h1];rfl,by rw[zD,zD,h2,e5],List.forall_mem_cons.mpr ⟨hk,h3⟩⟩
theorem FT{cs os:List (Str×Str)}(hg:Gd cs)(e:os.map Prod.fst=cs.map Prod.fst)(h:∀c∈os,c.2 = "number" ∨ c.2 = "word"):Gd os:=by
 have el:os.length=cs.length:=by rw[← zb (f:=Prod.fst),e,zb]
 refine⟨by rw[el];exact hg.1,by rw[e];exact hg.2.1,fun c hc=>⟨?_,h c hc⟩⟩
 have:c.1∈cs.map Prod.fst:=by rw[← e];exact zl.mpr ⟨c,hc,rfl⟩
 obtain⟨c',h1,h2⟩:=zl.mp this
 rw[← h2];exact (hg.2.2 c' h1).1
theorem JA(h:Tx n z):Tx (n+2) (bJ z " " "  "):=by
 have h1:=vT z " " "  "
 have e2:("  " : Str).length=2:=by trivial
 have e3:z.length=z.cps.size:=rfl
 refine⟨by show (bJ z " " "  ").length≤_;have:=h.1;lia,fb.mpr fun c hc=>?_⟩
 rcases vU z " " "  " c hc with m|m
 ·exact fb.mp h.2 c m
 ·exact fb.mp (show PyData.strOk "  " = true by trivial) c m
theorem qR(hg:Gd cs)(z:Str):mD (GO cs (.str z))=if kF cs (fk z)=true then (gO (fk z)).d else .ax:=by
 show mD (rM cs z)=_
 rw[Dz hg]
 by_cases h:kF cs (fk z)=true
 ·rw[if_pos h,if_pos h];rfl
 ·rw[if_neg h,if_neg h];rfl
theorem DH(hg:Gd cs)(z:Str):Ly S 64 (if kF cs (fk z)=true then (gO (fk z)).d else .ax):=by
 by_cases h:kF cs (fk z)=true
 ·obtain⟨a,b,_⟩:=(sE hg _).mp h
  rw[if_pos h];exact (x8 hg a b).ly
 ·rw[if_neg h];exact Ly.ax.le (by decide)
theorem Nd{cs:List (Str×Str)}(hg:Gd cs){d:D}(h:∀z,d=.str z→z = ""):GO cs d=none:=by
 cases d with
 |str z =>
  rw[h z rfl]
  show rM cs "" = none
  rw[Dz hg,if_neg]
  rw[(Fq "").mpr rfl]
  unfold kF ql
  intro e
  rw[zv (show ¬ 7≤([""]:List Str).length by decide)] at e
  cases e
 |_=>rfl
def GW:qD:=fun ds S R _=>∃ns:List Int,ds=[.ir (ns.map D.int)]∧ns.length≤63∧R (.bl true) S
theorem FU(T:Txt w K mg t):Ok P w base T.QP 20 GW:=by
 refine T.QP.F.NV dY ?_
 rintro _ _ _ _ _ _ ds S R Z hr ⟨ns,e,QI,q⟩
 subst e
 have n1:=sm (show 1≤100000 by decide)
 have n2:=sm (show 2≤100000 by decide)
 refine⟨_,(sc (cT (i:=1) dY.nd (cf ((xX T).mono (by decide)) hr T.iN.m T.iN.k T.iN.b d0 (ac (dv 0) (ac di an)))) (sc (cT (i:=2) dY.nd (cf ((wB T).mono (by decide)) hr T.fY.m T.fY.k T.fY.b d0 (ac (dv 1) an))) (sc (DQ (IM (Ur T.gJ (ac di (ac di an))) (gn (i:=3) dY.nd) (sc (cT (i:=1) dY.nd (cf ((xX T).mono (by decide)) hr T.iN.m T.iN.k T.iN.b d0 (ac (dv 0) (ac (dv 3) an)))) (sc (cT (i:=4) dY.nd (cf ((Dh T).mono (by decide)) hr T.kl.m T.kl.k T.kl.b d0 (ac (dv 1) (ac (dv 2) an)))) (sc (cT (i:=5) dY.nd (cf ((oS T).mono (by decide)) hr T.dJ.m T.dJ.k T.dJ.b d0 (ac (eB (ac (cf ((bf T).mono (by decide)) hr T.ah.m T.ah.k T.ah.b d0 (ac (dv 1) (ac di an))) (ac (dv 4) (ac (cf ((Jq T).mono (by decide)) hr T.uB.m T.uB.k T.uB.b d0 (ac (dv 1) (ac (dv 2) (ac (dv 4) an)))) an)))) an))) (sc (DQ (IM (Mf T.gJ (ac (cf ((bf T).mono (by decide)) hr T.ah.m T.ah.k T.ah.b d0 (ac (dv 1) (ac di an))) an)) (gn (i:=6) dY.nd) (s1 (cT (i:=5) dY.nd (cf ((wL T).mono (by decide)) hr T.fZ.m T.fZ.k T.fZ.b d0 (ac (dv 1) (ac (dv 2) (ac (dv 5) an)))))))) (sc (cT (i:=7) dY.nd (ct eC T.bD a_ (ac (nI (N:=["_law_name","_law_kind","_law_well_here"]) (src:=[none,none,some 1]) (md (af xJ) ["_law_script","_law_well_here","_law_columns_here","_law_k","_law_order_here","_law_text","_law_turn","_law_others","_law_one","_law_thing"] rfl rfl (by trivial)) (EU (dv 2)) (Qw (show (["_law_name","_law_kind","_law_well_here"]:List Str).Nodup by trivial)) (rh rfl rfl) rB (fun _ _ _ _ _=>mf) (fun _ _ _ _ _=>(eB (ac (dv 0) (ac (Bd (ix hr.units (bE (ac ds (ac ds an))) (cf ((bf T).mono (by decide)) hr T.ah.m T.ah.k T.ah.b d0 (ac (dv 2) (ac di an))))) an))))) an))) (sc (DQ (IM (il (bE (UJ (UY (dv 5) (QG (gp (dv 5) hr.units) (QG (g1 (bo au hr.units (dv 5) ds)) (QG (UH (g1 (dv 5))) (UI (ac (bo au hr.units (dv 5) ds) an))))))))) (gn (i:=8) dY.nd) (s1 (si (eS fN hr.units (cf ((oR T).mono (by decide)) hr T.cW.m T.cW.k T.cW.b d0 (ac (dv 2) (ac (dv 8) an))) (cf ((DC T).mono (by decide)) hr T.mh.m T.mh.k T.mh.b d0 (ac (dv 2) (ac (dv 8) an)))) (s1 (sr db)) s0)))) (sc (si (eS fN hr.units (cf ((oR T).mono (by decide)) hr T.cW.m T.cW.k T.cW.b d0 (ac (dv 7) (ac (dv 5) an))) (cf ((DC T).mono (by decide)) hr T.mh.m T.mh.k T.mh.b d0 (ac (dv 7) (ac (dv 5) an)))) (s1 (sr db)) s0) (sc (cT (i:=9) dY.nd (Bd (ix hr.units (bE (ac dn (ac di (ac db (ac (bE (ac ds an)) (ac (eB (ac di (ac (dv 4) (ac dn an)))) (ac ds an))))))) (cf ((bf T).mono (by decide)) hr T.ah.m T.ah.k T.ah.b d0 (ac (dv 1) (ac di an)))))) (s1 (si (eS B3 hr.units (cf ((oR T).mono (by decide)) hr T.cW.m T.cW.k T.cW.b d0 (ac (dv 2) (ac (dv 9) an))) dn) (s1 (sr db)) s0)))))))))))) (s1 (sr db))))),?_⟩
 refine⟨_,rfl,⟨ns,0,rfl,by decide⟩,fun l0 VB=>⟨_,rfl,l0,rfl,ae,fun cs hg=>?_⟩⟩
 have b0:Sub S (S.set l0 .well):=.new VB
 generalize S.set l0 .well=S0 at b0 ⊢
 have h8:=hg.1.1
 refine⟨fun ay S'=>Sub S S',?_,fun ay S' hs=>⟨S,hs,q⟩⟩
 refine⟨1,13,rfl,⟨by decide,by decide,by decide,by decide⟩,?_⟩
 refine⟨fun i ay S'=>∃o1 o3 o4 o5 o6 o7 o8 o9,ay=[some (.ir (ns.map D.int)),o1,some (.tup (cs.map aH)),o3,o4,o5,o6,o7,o8,o9]∧Sub S S',⟨_,none,none,none,none,none,none,none,rfl,b0⟩,fun _ _ _ _=>trivial,?_,fun ay S' ⟨_,_,_,_,_,_,_,_,_,h⟩=>fo h⟩
 rintro i d ay S' hd ⟨o1,o3,o4,o5,o6,o7,o8,o9,rfl,hs⟩
 have hd:(fP 1 12)[i]?=some d:=hd
 obtain⟨hi,rfl⟩:=fR hd
 refine⟨_,rfl,_,rfl,⟨ns,1+i,by rw[show ((1+i:Nat):Int)=1+((i:Nat):Int) by lia];rfl,by lia⟩,fun l hl=>?_⟩
 have bl:Sub S (S'.set l .well):=hs.trans (.new hl)
 have hW:(S'.set l .well) l=some .well:=ae
 generalize S'.set l .well=S2 at bl hW ⊢
 refine⟨_,rfl,_,rfl,l,cs,rfl,hg,hW,fun ps wy ho=>?_⟩
 refine⟨_,rfl,l,_,rfl,(by decide),(by decide),hW,fun m Sa NK=>⟨_,rfl,_,rfl,_,rfl,_,rfl,l,cs,ps,wy,rfl,hg.1,ho,hW,fun vs ky sd hv hk QZ=>⟨sm (show 3≤100000 by decide),?_⟩⟩⟩
 obtain⟨m',rfl⟩:∃m':Nat,m=((m':Nat):Int):=⟨m.toNat,by lia⟩
 have hx:Mark.ok (⟨m',ps,wy,vs,ky,sd⟩:Mark) cs:=⟨hg.1,by show m'<_;lia,ho,hv,hk,QZ⟩
 refine⟨⟨m',ps,wy,vs,ky,sd⟩,cs,rfl,hx,?_⟩
 generalize hX:(⟨m',ps,wy,vs,ky,sd⟩:Mark)=x at hx ⊢
 refine⟨fun ay S'=>∃us o6,ay=[some (.ir (ns.map D.int)),some (.ref l),some (.tup (cs.map aH)),some (.int (1+((i:Nat):Int))),some (.tup [.tup (ps.map p3),.str wy]),some (.str (Txt.join " " us)),o6,o7,o8,o9]∧(1≤us.length∧us.length≤42∧∀u∈us,Wf u)∧S' l=some .well∧Sub S S',?_,?_⟩
 ·refine⟨_,rfl,l,_,rfl,(by decide),(by decide),hW,fun n4 R9 R_=>⟨_,rfl,by lia,by lia,?_⟩⟩
  have Ls:1≤x.ws.length:=by have:=Mark.wF hx.v.1;lia
  refine⟨fun j ay S'=>∃us o6,ay=[some (.ir (ns.map D.int)),some (.ref l),some (.tup (cs.map aH)),some (.int (1+((i:Nat):Int))),some (.tup [.tup (ps.map p3),.str wy]),some (.str (Txt.join " " us)),o6,o7,o8,o9]∧(1≤us.length∧us.length≤39+j∧∀u∈us,Wf u)∧S' l=some .well∧Sub S S',⟨x.ws,o6,rfl,⟨Ls,hx.len,hx.words⟩,hW,bl⟩,fun _ _ _ _=>trivial,?_,?_⟩
  ·rintro j d' ay S6 hd ⟨us,o6,rfl,⟨h1,h2,h3⟩,JB,Fv⟩
   have hd:(fP 0 n4.toNat)[j]?=some d':=hd
   obtain⟨hj,rfl⟩:=fR hd
   exact⟨_,rfl,_,rfl,_,rfl,l,cs,us,rfl,hg,JB,h1,by lia,h3,fun VC g1 g2 g3=>⟨VC,_,rfl,⟨g1,by lia,g3⟩,JB,Fv⟩⟩
  ·rintro ay S6 ⟨us,o6,rfl,⟨h1,h2,h3⟩,JB,Fv⟩
   have e:(⟨fP 0 n4.toNat,fun _=>True⟩:pj).xs.length=n4.toNat:=fQ
   rw[e] at h2
   exact fo ⟨us,o6,rfl,⟨h1,by lia,h3⟩,JB,Fv⟩
 rintro ay S6 ⟨us,SA,rfl,⟨h1,h2,h3⟩,JB,Fv⟩
 obtain⟨j1,j2,j3⟩:=oU h3 (by lia)
 generalize Txt.join " " us=text at j2 j3 ⊢
 have ht:Tx 6000 text:=⟨j2,j3⟩
 refine⟨_,rfl,_,.inl rfl,?_⟩
 refine iT (fun d u=>∃c:Str×Str,∃k:Str,d=aH c∧u=aH (c.1,k)∧(k = "number" ∨ k = "word")) trivial (by show (cs.map aH).length≤_;rw[zb];lia) (fun d hd Q hQ=>?_) fun VD Ec p4 kA=>?_
 ·obtain⟨c,hc,rfl⟩:=zl.mp hd
  refine⟨_,rfl,rfl,_,_,rfl,_,_,rfl,rfl,_,rfl,n2,fun p hp=>⟨_,rfl,l,_,rfl,(by decide),(by decide),wl JB hp,fun Xi FI FJ=>dy FI FJ hp fun d hd=>?_⟩⟩
  obtain⟨kd,rfl,Rf⟩:∃kd:Str,d=.str kd∧(kd = "number" ∨ kd = "word"):=by
   have hd:d∈[D.str "number",.str "word"]:=hd
   simp only [zd,zq,or_false] at hd
   rcases hd with h|h
   ·exact⟨_,h,.inl rfl⟩
   ·exact⟨_,h,.inr rfl⟩
  exact⟨n2,hQ _ ⟨c,kd,rfl,rfl,Rf⟩⟩
 obtain⟨os,rfl,BX,aF⟩:=DF (cs:=cs) Ec rfl
 have Of:=FT hg.1 BX aF
 refine⟨_,_,rfl,.inl ae,?_⟩
 have b7:=Fv.trans (.new (c:=.lst (os.map aH)) kA)
 have w7:=wl (c:=.lst (os.map aH)) JB kA
 generalize S6.set p4 (.lst (os.map aH))=S8 at b7 w7 ⊢
 have Xj:text.length≤6000:=ht.1
 have VE:text.length+(" " : Str).length≤sizeLine:=sm (by show _+1≤_;lia)
 have VF:(" " : Str).length+text.length≤sizeLine:=sm (by show 1+_≤_;lia)
 have Gu:text.length+("\n" : Str).length≤sizeLine:=sm (by show _+1≤_;lia)
 have SE:Tx 1 (" " : Str):=⟨by trivial,by trivial⟩
 have VG:Tx 1 ("\n" : Str):=⟨by trivial,by trivial⟩
 have Nf:∀u∈([text, " " ++ text,text ++ " ",bJ text " " "  ",text ++ "\n"]:List Str),Tx 8000 u:=fun u hu=>by
  simp only [zd,zq,or_false] at hu
  rcases hu with rfl|rfl|rfl|rfl|rfl
  ·exact ht.le (by decide)
  ·exact (SE.app ht).le (by decide)
  ·exact (ht.app SE).le (by decide)
  ·exact (JA ht).le (by decide)
  ·exact (ht.app VG).le (by decide)
 refine⟨fun ay S'=>∃o8,ay=[some (.ir (ns.map D.int)),some (.ref l),some (.tup (cs.map aH)),some (.int (1+((i:Nat):Int))),some (.tup [.tup (ps.map p3),.str wy]),some (.str text),SA,some (.tup (os.map aH)),o8,o9]∧S' l=some .well∧Sub S S',?_,?_⟩
 ·refine⟨_,rfl,_,rfl,VF,_,rfl,VE,_,rfl,text,rfl,(by show _+2≤_;lia),_,rfl,Gu,sm (show 5≤100000 by decide),fun pl jl=>⟨_,ae,?_⟩⟩
  have vl:(S8.set pl (.lst (([text, " " ++ text,text ++ " ",bJ text " " "  ",text ++ "\n"]:List Str).map D.str))) pl=some (.lst (([text, " " ++ text,text ++ " ",bJ text " " "  ",text ++ "\n"]:List Str).map D.str)):=ae
  have b9:=b7.trans (.new (c:=.lst (([text, " " ++ text,text ++ " ",bJ text " " "  ",text ++ "\n"]:List Str).map D.str)) jl)
  have w9:=wl (c:=.lst (([text, " " ++ text,text ++ " ",bJ text " " "  ",text ++ "\n"]:List Str).map D.str)) w7 jl
  rw[show ([D.str text,.str (" " ++ text),.str (text ++ " "),.str (bJ text " " "  "),.str (text ++ "\n")]:List D)=([text, " " ++ text,text ++ " ",bJ text " " "  ",text ++ "\n"]:List Str).map D.str from rfl]
  generalize ([text, " " ++ text,text ++ " ",bJ text " " "  ",text ++ "\n"]:List Str)=us at Nf vl b9 w9 ⊢
  generalize S8.set pl (.lst (us.map D.str))=S9 at vl b9 w9 ⊢
  refine⟨fun _ ay S'=>(∃o8,ay=[some (.ir (ns.map D.int)),some (.ref l),some (.tup (cs.map aH)),some (.int (1+((i:Nat):Int))),some (.tup [.tup (ps.map p3),.str wy]),some (.str text),SA,some (.tup (os.map aH)),o8,o9])∧S' l=some .well∧Sub S S'∧S' pl=some (.lst (us.map D.str)),⟨⟨o8,rfl⟩,w9,b9,vl⟩,fun _ _ _ h=>h.2.2.2,?_,fun ay S' ⟨⟨o,h⟩,h2,h3,_⟩=>fo ⟨o,h,h2,h3⟩⟩
  rintro j d' ay Rb hd ⟨⟨VH,rfl⟩,VI,b11,v11⟩
  have hd:d'∈us.map D.str:=zM hd
  obtain⟨u,hu,rfl⟩:=zl.mp hd
  have SF:=Nf u hu
  refine⟨_,rfl,_,rfl,cs,.str u,rfl,hg.1,(SF.le (by decide)).rd,_,rfl,_,rfl,cs,u,rfl,hg.1,SF.1,?_⟩
  rw[qR hg.1]
  exact eq_self (DH hg.1 u) ⟨_,rfl,ck ⟨⟨_,rfl⟩,VI,b11,v11⟩⟩
 rintro ay VJ ⟨VH,rfl,VL,VM⟩
 refine⟨_,rfl,_,rfl,os,.str text,rfl,Of,(ht.le (by decide)).rd,_,rfl,_,rfl,os,text,rfl,Of,zA ht.1 (by decide),?_⟩
 rw[qR Of]
 refine eq_self (DH Of text) ⟨_,rfl,ck ?_⟩
 refine⟨n1,fun pi SG=>⟨_,rfl,sm (show 3≤100000 by decide),sm (show 6≤100000 by decide),fun p hp=>⟨_,rfl,l,_,rfl,(by decide),(by decide),wl (wl VL SG) hp,fun n5 Sw VN=>dy Sw VN hp fun d hd=>?_⟩⟩⟩
 obtain⟨hk,Gf⟩:(∃k,J2 (VJ.set pi (.lst [.str "mark"])) d k)∧∀z,d=.str z→z = "" := by
  have hd:d∈[D.ax,.int 7,.bl true,.ref pi,.tup [.int 0,.tup [.tup (ps.map p3),.str wy],.ax],.str ""]:=hd
  simp only [zd,zq,or_false] at hd
  rcases hd with rfl|rfl|rfl|rfl|rfl|rfl
  ·exact⟨⟨.ax,rfl⟩,fun _=>nofun⟩
  ·exact⟨⟨.int,rfl⟩,fun _=>nofun⟩
  ·exact⟨⟨.bl,rfl⟩,fun _=>nofun⟩
  ·exact⟨⟨.lst,.inl ⟨rfl,_,ae⟩⟩,fun _=>nofun⟩
  ·exact⟨⟨.tup,rfl⟩,fun _=>nofun⟩
  ·exact⟨⟨.str,rfl⟩,fun z e=>by cases e;rfl⟩
 refine⟨_,rfl,_,rfl,cs,d,rfl,hg.1,⟨hk,fun z e=>by rw[Gf z e];exact⟨by trivial,by trivial⟩⟩,?_⟩
 rw[Nd hg.1 Gf]
 exact⟨_,rfl,ck ⟨_,_,_,_,_,_,_,_,rfl,VM.trans (.new SG)⟩⟩
def DJ(K:Frag):Sp:=fun vs H Q _=>uW K GW vs H Q E0
theorem JC(T:Txt w K mg t):cw P w K mg base NC 20 t.GG t.CW ["_law_script"] (DJ K):=cw.calm (FU T)
theorem DK{K:Frag}{H:Hp}{a:Addr}{ns:List Int}(hl:ns.length≤63)(hO:ub [] H)(hS:gT K H a (ns.map V.int)):DJ K [.ref a] H (fun v _=>v=.bl true) fun _ _ _=>False:=by
 have hR:Gv K H a (ns.map V.int):=by
  rcases hS with (h|h)|h
  ·rcases hO.all a with q|⟨o,xs,q⟩|⟨_,q⟩
   ·rw[q] at h;cases h
   ·rw[q] at h;cases h
   ·rw[q] at h;cases h
  ·exact .inl h
  ·exact .inr h
 exact⟨[.ir (ns.map D.int)],fun _=>none,fun d _=>d=.bl true,fun _ _=>False,aO (B1 hR (xm ns)) bM,fun _ _ e=>(by cases e),⟨ns,rfl,hl,rfl⟩,fun d S v H' e r _ _=>by subst e;exact r.bl,fun _ _ _ z=>z.elim⟩
theorem JD{P:Program}{w:World}{K:Frag}{mg:Str→Option Value}{fa:Addr}(HL:mg "law" = some (.ref fa))(T:∃t:QO,Txt w K mg t):∃(fd:FuncData) (sp:Sp),(∀b∈([]:List Addr),∃c,codeHdIn K c b=true)∧(∀(s:Shared) (u:Value),BindsTo s fd ⟨[u],[]⟩ [("_law_script",u)])∧(∀base:Heap,Bm mg base→K.In base→base.Ns mainGlobals mg→cw P w K mg base NC 20 fa fd ["_law_script"] sp)∧∀(H:Hp) (a:Addr) (ns:List Int),ns.length≤63→ub [] H→gT K H a (ns.map V.int)→sp [.ref a] H (fun v _=>v=.bl true) fun _ _ _=>False:=by
 obtain⟨t,T⟩:=T
 have e0:=HL.symm.trans T.QP.m
 cases e0
 exact⟨_,_,fun b hb=>(nomatch hb),T.bl,fun base _ kb nb=>JC T,fun H a ns hl hO hS=>DK hl hO hS⟩
end My
end Tactic
open Tactic
local macro_rules|`(command|universe $xs*)=>do return Lean.mkNullNode (← xs.mapM fun x=>`(command|theorem $(Lean.mkIdent (.mkSimple s!"tw{x.getId.toString.foldl (fun n c=>n*62+(if c.isDigit then c.toNat-48 else if c.isUpper then c.toNat-55 else c.toNat-61)) 0-10*62^10}")):ident : True:=trivial))
namespace PySem.W.Fast
universe NEQNv5lN120 PGYonblzRdc OmSk28fSOgL LvhdagrSK3O LbMcvjoc0gn RavKpALOB3F PBHOLOR9m0K TSh9nbbR5e8 MXi4ygZBVOB Tcpere0xTrx A7SNs4pyPEG OS8sZxKcFKK H5Hyzn6lQqV RK71jiq5bMk HwgiLLn6oNx DCCq7WqDMeS Q6K4yBUQ9GU DQYbYhFbE4h Uwuq4ArBl3A IuJRLaZ2hx9 PwCrq3x933U Jdiz6qJ3AFz SMNxdZ6T3RI M44SXUX0E6G PYPYal8Mkfg ML4zKwuJdOe G7y6eEAnAu2 IhcR2AAg5Lb FuLBtn1gnYi ApJF4uYQ5Jn HJD2aSDgoYv VnMVmB5wDv8 JioOwI0jPAA MIKQz5gJMT9 UMiJrzVO7eE PtauF1XmZDK VQs3lZJlgmt PLE589ovLbI J1j8C6c4Sib VmgbXGV3wqG GDIvLoURmTF PURnSzvDroK CEUe27Wzrk8 OZXqfB8Y96C T4E5HHJ60of Ra7rGQP2Y72 NYjQBWPd3If UPtvZIwG1WL L1wRLbuMDZP Sxha2aFIrXP NVk0u4jEMBh KLocXrMPBkc GdHTqq8f1Qs VBdL1gL9EY8 HHbGspJFFC9 I7SOSyHVw30 HpDeCrJBn6u GDuUo0aPA6V Vtho2HX0uHk CZlxI5DuaKw JFrPPZhmuHX MdcsTX7bFeW B499UHwZRxb AKTFf6nuYAC FSt6zBkBQUs KX2EsnrvxrB OocehrHyPar VceUK7JCnnR TrS39h26q8B F1IbYiF7hRZ IKBLEPuZEw1 QubQ6x1rb6J NCc8TiCnBDN KdjeZIOdF1H QJ4WIcN8Tpc FK3PBqbPn4Y Fa8JLRFhtuk JilG2UXxmQn LhajMLLMRcz D9hPFt55Qwa LoyGtAJnONf S15Nml95z1z SOuxfL4Pm9o E0GhpUQDrff SYwddm8Lvm0 R3O50A7csAT C9UORjcQtcE NRoYCxCCZrL VihTey5JoJa FlOaXfKhc2h NoogS8Yi1pq LcgWkKKSSfM CZaBqeEZQ0S Oc6IYTZGHRI Sd9OjAPPfOc AykTrAcxHnP T5YhumjYNQN NDZgzp0Kdi3 FBP05y4WiW6 Bra7UFCHdBS FT1JJjIpPtF DVexSYd63sS UaNXNw4SOTW GQYPfyeWNXc INz9Aabrich VUW0WBLCZZT RVDQE2UmkQr ESBxpGPC3ja JtUSKapWAOD V6pddRYV92l HnTo6qb3zNC JNrsXRUGpPA RCPQPWmx4bJ KsPLbVN77iP J8dALMl23W0 F7rEgYMWa5D Lw1VWVLk5n9 LMnzLr6DZ7Q Tn4CcNajDb3 TBDlKqNEQM4 Hs2MU5mMZUi ARRyk6t6Oxx LLtb0xMnjLL Qyu7RZckylI JQmnmCxCfaR Jvp06ZgKnaO S1IAXBxdkgW TrIk2ho2Odl IAsfu6vUgLR JiYThX9vhOk DUv0DI8eOuF GN5H0ki5aS5 DThvcx759z0 T0Kis1Dhdwy QyXsuZHnoor JEr6mI7YPia K8Nmt7ib8tj GHoRIfhvuZa EVNt9kZuJH8 Q4v4DrO1sMG D0ZY4EBlkE9 M30XP0kcyhp Kf4GxfCJvU9 M6jfUFf9xRZ PJBjlmQhUvV QA2dNi6pKhd I5mcOLthX40 LaKur82ETKj GIvrdx0xpRw IKIM8J9ylQ3 UCJ9SdpYRIG TCec3ZbyKw3 GtClKo99b6c M19TzhD3awd ClSBYulcerE FL6vr86Jzie MYUzuF46naO Kp9eH9rJeXx KrRRSV7RLBq R7buDIi9QzM B21xpKffsEE RaorxNxa9uU PVxbJkX7ulD P6nTQUXNnSF I02i0AnpJaS Ey5KVPY3iqC UAWk9m3KGyp M0u0Yl0ZR9V VIPO4mIpAka MxGLzV7imcb PtU2xdXuwB5 Lj7UE7zBrrg RFNXFTBUZSD CCiTRjzwiac QvBxDUFT3dF OVZxV5cZteZ MdZ0AHqeBtq TRoXV5U9V2i OIqlyMk5Qyz LceglePuahn Qm5zmteQ4rl KatLYLLMfPS OKLvWhZG2Cc DXtIZjXJUlt JfmiPtD2RrA OL1TSZG1eGB L9EtgjIwDZF J0tuYRWFWIl GHfkyZrJplO J940uCu3dsT Rzx2XJIGMPS C7r9zPp6xdR DMwYNMCAyLD SONbiZIYhQG EhkYkMUFbRO Vx9wWTth9YX J4km124MnO8 TCWauKpARav Oeh7vBkahmo PP5psD33FPA QF5VoG0WPv6 LVfmTsyyHjh P4W0Qm0PvEr RBhoZZdnOsL AW0LVfIGxeN Uwi4vzWw9na EaqKWu6LaWN VAKtYjmbLXS VMGIDWGxuXZ PHHTd1MdSAd N1xLKc6rjmy K69P581KEQs MVtFBL7zkCI NWDsqZWqgRv GBqaYnxSlaP VtywM40rIMp PiXqb9oKWeE C3TZWZ7YxEB PyROxsSpnpp PNkeAvCMXLX KEk69BYqdGB VoUcThOiPQh LvXKRC7CpWV LPDO2iHTpRd SfBhi2cwzWn P9H229BhHHU KfSjKXc3azF SIN6HT4AYCk UlL4UzXN9of L8eyQ45uebD UiUoNnExVy5 RY06vTG3M4C OtWsn33bCwC BcpFBYXfIb5 OK7HiBdMM8w BYSvX8g9Jnd BcLHolorqxC JYm0ml3yDIT RyJbg1scqLi HFpEmxWWb9a Dqf91ZZIk5K IUQ6dejRvxQ VNDLPiRd79e IsDduIfAZMH A71SsQwtnc0 ACpEz40FSSK SsKuuhYUx6Z Le1SfU2gKkY UqJN5eH6xzk E8sAl2ia7H7 JCRB1cUH34X TCGsLUOGpWh RTdr64EulTS K5OY2NoZTAK CMPiZvkTKA0 U6eKgkQtc64 VPdAvLViWR8 INSlWge81Xl A440ua9ziu2 Eqm6cLE7i5N FgZvcNP404W GTCbRVhyjag BUMM6Jr9zCD PBnAxN0OSKb NttbslE3v2d JLy8LBrNibk Lb1fDOaMKZI MB5O6IsMBBn GAf7ksxh7rJ JZayu4fXAQ5 PrgfMBmEUcr HD7FU6TpBdy TTIBIi9mpfF FuZXL9qdBMY D5Zet8Mk3Qm AsmF5h1NfS8 VrCp9tfnYKy DyUmRFBc1m2 MCvMm5AiUVX IIzP50mCZRU V9eB3X8Hg1T G1aVJeAp96H C2uv0lFlUeO IByC3lyLZBh JbBWqilcziv CdCtGWHlLbw EYGrGZNJYNs FwVIgTOfcs8 NrEPB8SMDQe TKYx2cIoi3m P5lm3l8PFtl ID6qEuzq4ox AxU9PZihwOp BEN5o0oBEYO SMQsR2atEtY LjxfpZ7kU2O ITXHatgWTYn LBmlZA5A327 P4YnRzrJesO V2ti5Pd0I5J NxQXiboLlwL CgEW0GgOIu6 NUfiNtzJzOR HPhsM2rYNrG RDvTc7bWXXi Cxnc2jPf4gi F8I5bWOQU3V I2oJT5SFUdF S2gXYp3JgQc JR3bzMgxfC3 QTY7rfkaeow DUYxZq5ylbT AV1THVHJaQm ENUqDvCk350 Vn6NzyXIrP0 EJAwJpD3QGo HYmrgQoYnlN P1Pl8eYR1ul RzhCwdQGUcy VOOIGneiQA0 CxDS2AabHK9 RD9XpKhMXn8 ISmTXtTmbfU SySpDOVk5G0 CSWJjHo3Jli OUenZGA0sIE QpKv4in18wH MMCZerb1EtX T8gQs88CS07 CfSuEValKNS AEKo76w8GYp UQOUCSmJ7xg GDGOBRgduVt Fx5b08Gbhvp POuZJrF9SnJ LlZKjNaW1nY Vf5Q7D7ReyI JihtnNcEQfC VOrelYYetHo DCU6VYvY9Kl Iu26xk73aNp MO7HtIH7T3V JnlkZeXsVHo J1vshQSzNto LnCRirBLIcl MmtcYDVMQBQ FRReSV1BVOV N2mjzfDudxu K8p2uBuXBS4 OTIsYc0vQMJ CAzQVNh6TTu R1BcFlXGGVx BZ9KJQHNSnG NgMdFhXkIcV DMAvBhwqEFd GsBdJMkaiS4 GXmGTOywqNY Gp4KMIjETwT PdqPbF4kC22 KuphY7mIl1F EsV6CkCoqmH V9lcPJDYBdA LR6avLVsyqx L1AnMyl5r2b Ps5daeqI4zr Gvz5Indg9fc KFM4rCFwGE2 K2M2NBTwnKs RWOIsZGhfls S3gb54kRMZi H0JlHhlgKI1 D715ZQnzaYQ CcV8Lf2r2vq SEnr0PgZacZ C3gR4JMhUyz F5wpTV86Fed G7rg3nOgTLT Tc1DkzkjtKp BG510hdHVbt UzbbbLLHNb0 Vl5CluSmwXH HYoCUSpOpWj LckluhXrPrp
end PySem.W.Fast
open PySem PySem.W PyProof.Rows
set_option maxRecDepth 100000 in
set_option maxHeartbeats 0 in
theorem PySem.Challenge.cw_pageturns_k37_texts_of_no_mark_holds : PySem.Challenge.rw_pageturns_k37_texts_of_no_mark.Holds := by
 w_on;o_law;k_head;(case hw=>w_witness2)
 k_fill
 refine L2.Cz (l:=PySem.Challenge.rw_pageturns_k37_texts_of_no_mark) (n:=63) (k:=20) (x := "_law_script") (CX:=L2.NC) (ts:=[]) rfl (by decide) rfl ⟨rfl,by decide,by decide⟩ (fun w h Y=>PySem.W.kIn_of Y) (fun w h Y b hb=>nomatch hb) (fun w h Y b hb=>nomatch hb) ?tF fun _ _ _ _ z=>z
 intro w mg fa h KX G HL
 refine My.JD HL ?_
 refine' L2.eU KX G "is_whole" My.jD ["thing"] ?a1 ?b1 ?c1 ?d1 ?e1 fun d0 F0=>?z1
 (case a1|b1|c1|d1=>k_is)
 (case e1=>exact L2.lA fun _=>rfl)
 refine' L2.eU KX G "is_letter" My.iB ["sign"] ?a2 ?b2 ?c2 ?d2 ?e2 fun d1 F1=>?z2
 (case a2|b2|c2|d2=>k_is)
 (case e2=>exact L2.lA fun _=>rfl)
 refine' L2.eU KX G "is_figure" My.iC ["sign"] ?a3 ?b3 ?c3 ?d3 ?e3 fun d2 F2=>?z3
 (case a3|b3|c3|d3=>k_is)
 (case e3=>exact L2.lA fun _=>rfl)
 refine' L2.eU KX G "is_name" My.i7 ["thing"] ?a4 ?b4 ?c4 ?d4 ?e4 fun d3 F3=>?z4
 (case a4|b4|c4|d4=>k_is)
 (case e4=>exact L2.lA fun _=>rfl)
 refine' L2.eU KX G "is_key" My.j8 ["thing"] ?a5 ?b5 ?c5 ?d5 ?e5 fun d4 F4=>?z5
 (case a5|b5|c5|d5=>k_is)
 (case e5=>exact L2.lA fun _=>rfl)
 refine' L2.eU KX G "is_word" My.i8 ["thing"] ?a6 ?b6 ?c6 ?d6 ?e6 fun d5 F5=>?z6
 (case a6|b6|c6|d6=>k_is)
 (case e6=>exact L2.lA fun _=>rfl)
 refine' L2.eU KX G "is_value" My.jE ["kind","thing"] ?a7 ?b7 ?c7 ?d7 ?e7 fun d6 F6=>?z7
 (case a7|b7|c7|d7=>k_is)
 (case e7=>exact L2.ln2 fun _ _=>rfl)
 refine' L2.eU KX G "kind_named" My.gA ["columns","name"] ?a8 ?b8 ?c8 ?d8 ?e8 fun d7 F7=>?z8
 (case a8|b8|c8|d8=>k_is)
 (case e8=>exact L2.ln2 fun _ _=>rfl)
 refine' L2.eU KX G "is_way" My.nY ["thing"] ?a9 ?b9 ?c9 ?d9 ?e9 fun d8 F8=>?z9
 (case a9|b9|c9|d9=>k_is)
 (case e9=>exact L2.lA fun _=>rfl)
 refine' L2.eU KX G "is_end" My.nZ ["thing"] ?a10 ?b10 ?c10 ?d10 ?e10 fun d9 F9=>?z10
 (case a10|b10|c10|d10=>k_is)
 (case e10=>exact L2.lA fun _=>rfl)
 refine' L2.eU KX G "is_side" My.lB ["thing"] ?a11 ?b11 ?c11 ?d11 ?e11 fun d10 VO=>?z11
 (case a11|b11|c11|d11=>k_is)
 (case e11=>exact L2.lA fun _=>rfl)
 refine' L2.eU KX G "check_order" My.cA ["columns","order"] ?a12 ?b12 ?c12 ?d12 ?e12 fun d11 VP=>?z12
 (case a12|b12|c12|d12=>k_is)
 (case e12=>exact L2.ln2 fun _ _=>rfl)
 refine' L2.eU KX G "is_part" My.lC ["columns","thing"] ?a13 ?b13 ?c13 ?d13 ?e13 fun d12 VQ=>?z13
 (case a13|b13|c13|d13=>k_is)
 (case e13=>exact L2.ln2 fun _ _=>rfl)
 refine' L2.eU KX G "check_place" My.fH ["columns","order","place"] ?a14 ?b14 ?c14 ?d14 ?e14 fun d13 VR=>?z14
 (case a14|b14|c14|d14=>k_is)
 (case e14=>exact L2.J5 fun _ _ _=>rfl)
 refine' L2.eU KX G "are_place_values" My.bC ["columns","parts","thing"] ?a15 ?b15 ?c15 ?d15 ?e15 fun d14 VS=>?z15
 (case a15|b15|c15|d15=>k_is)
 (case e15=>exact L2.J5 fun _ _ _=>rfl)
 refine' L2.eU KX G "check_gap" My.iD ["columns","order","gap"] ?a16 ?b16 ?c16 ?d16 ?e16 fun d15 VT=>?z16
 (case a16|b16|c16|d16=>k_is)
 (case e16=>exact L2.J5 fun _ _ _=>rfl)
 refine' L2.eU KX G "value_text" My.gB ["value"] ?a17 ?b17 ?c17 ?d17 ?e17 fun d16 VU=>?z17
 (case a17|b17|c17|d17=>k_is)
 (case e17=>exact L2.lA fun _=>rfl)
 refine' L2.eU KX G "mark_text" My.fq ["mark"] ?a18 ?b18 ?c18 ?d18 ?e18 fun d17 F17=>?z18
 (case a18|b18|c18|d18=>k_is)
 (case e18=>exact L2.lA fun _=>rfl)
 refine' L2.eU KX G "order_words" My.fI ["order"] ?a19 ?b19 ?c19 ?d19 ?e19 fun d18 VV=>?z19
 (case a19|b19|c19|d19=>k_is)
 (case e19=>exact L2.lA fun _=>rfl)
 refine' L2.eU KX G "read_mark" My.iE ["columns","text"] ?a20 ?b20 ?c20 ?d20 ?e20 fun d19 VW=>?z20
 (case a20|b20|c20|d20=>k_is)
 (case e20=>exact L2.ln2 fun _ _=>rfl)
 refine' L2.eU KX G "check_mark" My.gC ["columns","mark"] ?a21 ?b21 ?c21 ?d21 ?e21 fun d20 F20=>?z21
 (case a21|b21|c21|d21=>k_is)
 (case e21=>exact L2.ln2 fun _ _=>rfl)
 refine' L2.eU KX G "mark_in_words" My.bH ["words"] ?a22 ?b22 ?c22 ?d22 ?e22 fun d21 VX=>?z22
 (case a22|b22|c22|d22=>k_is)
 (case e22=>exact L2.lA fun _=>rfl)
 refine' L2.eU KX G "order_in_words" My.b_ ["words"] ?a23 ?b23 ?c23 ?d23 ?e23 fun d22 VY=>?z23
 (case a23|b23|c23|d23=>k_is)
 (case e23=>exact L2.lA fun _=>rfl)
 refine' L2.eU KX G "is_moment_text" My.dq ["text"] ?a24 ?b24 ?c24 ?d24 ?e24 fun d23 VZ=>?z24
 (case a24|b24|c24|d24=>k_is)
 (case e24=>exact L2.lA fun _=>rfl)
 refine' L2.eU KX G "is_value_text" My.dW ["text"] ?a25 ?b25 ?c25 ?d25 ?e25 fun d24 F24=>?z25
 (case a25|b25|c25|d25=>k_is)
 (case e25=>exact L2.lA fun _=>rfl)
 refine' L2.eU KX G "value_of_text" My.dX ["text"] ?a26 ?b26 ?c26 ?d26 ?e26 fun d25 V0=>?z26
 (case a26|b26|c26|d26=>k_is)
 (case e26=>exact L2.lA fun _=>rfl)
 refine' L2.eU KX G "is_number_text" My.cg ["text","most"] ?a27 ?b27 ?c27 ?d27 ?e27 fun d26 V1=>?z27
 (case a27|b27|c27|d27=>k_is)
 (case e27=>exact L2.ln2 fun _ _=>rfl)
 refine' L2.eU KX G "_law_well" My.n6 ["_law_script","_law_k"] ?a28 ?b28 ?c28 ?d28 ?e28 fun d27 V2=>?z28
 (case a28|b28|c28|d28=>k_is)
 (case e28=>exact L2.ln2 fun _ _=>rfl)
 refine' L2.eU KX G "_law_draw" My.n8 ["_law_well_here","_law_most"] ?a29 ?b29 ?c29 ?d29 ?e29 fun d28 V3=>?z29
 (case a29|b29|c29|d29=>k_is)
 (case e29=>exact L2.ln2 fun _ _=>rfl)
 refine' L2.eU KX G "_law_columns" My.iF ["_law_well_here"] ?a30 ?b30 ?c30 ?d30 ?e30 fun d29 F29=>?z30
 (case a30|b30|c30|d30=>k_is)
 (case e30=>exact L2.lA fun _=>rfl)
 refine' L2.eU KX G "_law_number" My.jF ["_law_well_here"] ?a31 ?b31 ?c31 ?d31 ?e31 fun d30 V4=>?z31
 (case a31|b31|c31|d31=>k_is)
 (case e31=>exact L2.lA fun _=>rfl)
 refine' L2.eU KX G "_law_word" My.j9 ["_law_well_here"] ?a32 ?b32 ?c32 ?d32 ?e32 fun d31 V5=>?z32
 (case a32|b32|c32|d32=>k_is)
 (case e32=>exact L2.lA fun _=>rfl)
 refine' L2.eU KX G "_law_value" My.lE ["_law_well_here","_law_kind"] ?a33 ?b33 ?c33 ?d33 ?e33 fun d32 F32=>?z33
 (case a33|b33|c33|d33=>k_is)
 (case e33=>exact L2.ln2 fun _ _=>rfl)
 refine' L2.eU KX G "_law_key" My.rH ["_law_well_here"] ?a34 ?b34 ?c34 ?d34 ?e34 fun d33 V6=>?z34
 (case a34|b34|c34|d34=>k_is)
 (case e34=>exact L2.lA fun _=>rfl)
 refine' L2.eU KX G "_law_order" My.lF ["_law_well_here","_law_columns_here"] ?a35 ?b35 ?c35 ?d35 ?e35 fun d34 V7=>?z35
 (case a35|b35|c35|d35=>k_is)
 (case e35=>exact L2.ln2 fun _ _=>rfl)
 refine' L2.eU KX G "_law_gap" My.mT ["_law_well_here","_law_columns_here","_law_order_here"] ?a36 ?b36 ?c36 ?d36 ?e36 fun d35 F35=>?z36
 (case a36|b36|c36|d36=>k_is)
 (case e36=>exact L2.J5 fun _ _ _=>rfl)
 refine' L2.eU KX G "_law_value_text" My.eV ["_law_value_here"] ?a37 ?b37 ?c37 ?d37 ?e37 fun d36 V8=>?z37
 (case a37|b37|c37|d37=>k_is)
 (case e37=>exact L2.lA fun _=>rfl)
 refine' L2.eU KX G "_law_mark_text" My.dw ["_law_mark"] ?a38 ?b38 ?c38 ?d38 ?e38 fun d37 V9=>?z38
 (case a38|b38|c38|d38=>k_is)
 (case e38=>exact L2.lA fun _=>rfl)
 refine' L2.eU KX G "_law_menu" My.j_ ["_law_well_here","_law_columns_here"] ?a39 ?b39 ?c39 ?d39 ?e39 fun d38 V_=>?z39
 (case a39|b39|c39|d39=>k_is)
 (case e39=>exact L2.ln2 fun _ _=>rfl)
 refine' L2.eU KX G "_law_spoiled" My.iG ["_law_well_here","_law_columns_here","_law_text"] ?a40 ?b40 ?c40 ?d40 ?e40 fun d39 F39=>?z40
 (case a40|b40|c40|d40=>k_is)
 (case e40=>exact L2.J5 fun _ _ _=>rfl)
 refine' L2.eU KX G "_law_are_figures" My.cJ ["_law_text","_law_most"] ?a41 ?b41 ?c41 ?d41 ?e41 fun d40 Wa=>?z41
 (case a41|b41|c41|d41=>k_is)
 (case e41=>exact L2.ln2 fun _ _=>rfl)
 refine' L2.eU KX G "_law_fits" My.fU ["_law_kind","_law_text"] ?a42 ?b42 ?c42 ?d42 ?e42 fun d41 Wb=>?z42
 (case a42|b42|c42|d42=>k_is)
 (case e42=>exact L2.ln2 fun _ _=>rfl)
 refine' L2.eU KX G "_law_told" My.n_ ["_law_text"] ?a43 ?b43 ?c43 ?d43 ?e43 fun d42 Wc=>?z43
 (case a43|b43|c43|d43=>k_is)
 (case e43=>exact L2.lA fun _=>rfl)
 refine' L2.eU KX G "_law_is_key" My.gE ["_law_text"] ?a44 ?b44 ?c44 ?d44 ?e44 fun d43 Wd=>?z44
 (case a44|b44|c44|d44=>k_is)
 (case e44=>exact L2.lA fun _=>rfl)
 refine' L2.eU KX G "_law_is_part" My.iH ["_law_kinds","_law_name","_law_way","_law_end"] ?a45 ?b45 ?c45 ?d45 ?e45 fun d44 We=>?z45
 (case a45|b45|c45|d45=>k_is)
 (case e45=>exact L2.UR fun _ _ _ _=>rfl)
 refine' L2.eU KX G "_law_due" My.ft ["_law_columns_here","_law_text"] ?a46 ?b46 ?c46 ?d46 ?e46 fun d45 Wg=>?z46
 (case a46|b46|c46|d46=>k_is)
 (case e46=>exact L2.ln2 fun _ _=>rfl)
 refine' L2.eU KX G "_law_found" My.lG ["_law_columns_here","_law_text"] ?a47 ?b47 ?c47 ?d47 ?e47 fun d46 Wh=>?z47
 (case a47|b47|c47|d47=>k_is)
 (case e47=>exact L2.ln2 fun _ _=>rfl)
 refine' L2.UP KX G "law" My.xJ ["_law_script"] ?a48 ?b48 ?c48 ?d48 ?e48 fun d47 e47 Wi Wj=>?z48
 (case a48|b48|c48|d48=>k_is)
 (case e48=>exact L2.lA fun _=>rfl)
 refine' L2.GF KX G "MOST_NAME_SIGNS" 8 ?a49 fun kH=>?z49
 (case a49=>k_is)
 refine' L2.GF KX G "MOST_KEY_SIGNS" 12 ?a50 fun l6=>?z50
 (case a50=>k_is)
 refine' L2.GF KX G "MOST_WORD_SIGNS" 40 ?a51 fun kI=>?z51
 (case a51=>k_is)
 refine' L2.GF KX G "MOST_PARTS" 8 ?a52 fun sF=>?z52
 (case a52=>k_is)
 refine' L2.GF KX G "MOST_MOMENT_FIGURES" 18 ?a53 fun g_=>?z53
 (case a53=>k_is)
 refine' L2.GF KX G "MOST_NUMBER_FIGURES" 60 ?a54 fun hG=>?z54
 (case a54=>k_is)
 refine' L2.GF KX G "WORDS_ALWAYS" 7 ?a55 fun oV=>?z55
 (case a55=>k_is)
 refine' L2.GF KX G "WORDS_OF_A_PART" 4 ?a56 fun kJ=>?z56
 (case a56=>k_is)
 refine' L2.QM KX G "OTHER_WAY" ?a57 ?b57 fun uS w_OTHER_WAY=>?z57
 (case a57|b57=>k_is)
 refine' L2.QM KX G "OTHER_END" ?a58 ?b58 fun uT w_OTHER_END=>?z58
 (case a58|b58=>k_is)
 refine' L2.QM KX G "OTHER_SIDE" ?a59 ?b59 fun sG w_OTHER_SIDE=>?z59
 (case a59|b59=>k_is)
 refine' L2.AD KX G "len" ?a60 fun Ng=>?z60
 (case a60=>k_is)
 refine' L2.AD KX G "all" ?a61 fun Nh=>?z61
 (case a61=>k_is)
 refine' L2.AD KX G "isinstance" ?a62 fun sH=>?z62
 (case a62=>k_is)
 refine' L2.AD KX G "range" ?a63 fun FV=>?z63
 (case a63=>k_is)
 refine' L2.AD KX G "int" ?a64 fun Ni=>?z64
 (case a64=>k_is)
 refine' L2.AD KX G "str" ?a65 fun Nj=>?z65
 (case a65=>k_is)
 refine' L2.AD KX G "bool" ?a66 fun JE=>?z66
 (case a66=>k_is)
 refine' L2.AD KX G "tuple" ?a67 fun FW=>?z67
 (case a67=>k_is)
 refine' L2.AD KX G "list" ?a68 fun JF=>?z68
 (case a68=>k_is)
 refine' L2.AD KX G "dict" ?a69 fun JG=>?z69
 (case a69=>k_is)
 refine' L2.AD KX G "set" ?a70 fun Nk=>?z70
 (case a70=>k_is)
 refine' L2.AD KX G "zip" ?a71 fun Nl=>?z71
 (case a71=>k_is)
 refine' L2.AD KX G "ValueError" ?a72 fun sI=>?z72
 (case a72=>k_is)
 refine' L2.NU KX G "PageError" ?a73 ?b73 fun fC iR=>?z73
 (case a73=>k_is)
 (case b73=>k_exc)
 refine' L2.QN KX G "BadColumns" ?a74 fun kK=>?z74
 (case a74=>k_is)
 refine' L2.NU KX G "BadOrder" ?a75 ?b75 fun bW bS=>?z75
 (case a75=>k_is)
 (case b75=>k_exc)
 refine' L2.NU KX G "BadPlace" ?a76 ?b76 fun bX bU=>?z76
 (case a76=>k_is)
 (case b76=>k_exc)
 refine' L2.NU KX G "NoMark" ?a77 ?b77 fun de cF=>?z77
 (case a77=>k_is)
 (case b77=>k_exc)
 refine' L2.QN KX G "OldMark" ?a78 fun qS=>?z78
 (case a78=>k_is)
 refine' L2.QN KX G "NoText" ?a79 fun uU=>?z79
 (case a79=>k_is)
 refine' L2.UU KX de ?a80 ?b80 ?c80 fun gb=>?z80
 (case a80|b80|c80=>k_is)
 refine' L2.ME KX bW fC ?a81 fun dM=>?z81
 (case a81=>k_is)
 refine' L2.ME KX bW bW ?a82 fun bt=>?z82
 (case a82=>k_is)
 refine' L2.NY KX bW bX ?a83 fun cn=>?z83
 (case a83=>k_is)
 refine' L2.ME KX bX fC ?a84 fun dN=>?z84
 (case a84=>k_is)
 refine' L2.NY KX bX bW ?a85 fun cq=>?z85
 (case a85=>k_is)
 refine' L2.ME KX bX bX ?a86 fun bu=>?z86
 (case a86=>k_is)
 refine' L2.ME KX de fC ?a87 fun cM=>?z87
 (case a87=>k_is)
 refine' L2.NY KX de bW ?a88 fun cX=>?z88
 (case a88=>k_is)
 refine' L2.NY KX de bX ?a89 fun cY=>?z89
 (case a89=>k_is)
 refine' L2.U7 KX de kK bW bX uU qS ?a90 ?b90 ?c90 ?d90 ?e90 fun lP=>?z90
 (case a90|b90|c90|d90|e90=>kit_is)
 refine' L2.US KX de de true ?a91 fun k_NoMark_NoMark=>?z91
 (case a91=>kit_is)
 refine' L2.UT KX de ?a92 fun k_NoMark_ValueError=>?z92
 (case a92=>kit_is)
 exact⟨⟨_,_,_,_,_,_,_,_,_,_,_,_,_,_,_,_,_,_,_,_,_,_,_,_,_,_,_,_,_,_,_,_,_,_,_,_,_,_,_,_,_,_,_,_,_,_,_,_,_,_,_,_,_,_,_,_,_,_,_,_,_,_,_,_,_,_,_,_,_,_,_,_,_,_,_,_,_,_,_,_,_,_,_,_,_,_,_,_,_,_,_,_,_,_,_,_,_,_,_,_,_,_,_,_,_,_,_,_,_,_,_,_,_,_⟩,⟨F0,F1,F2,F3,F4,F5,F6,F7,F8,F9,VO,VP,VQ,VR,VS,VT,VU,F17,VV,VW,F20,VX,VY,VZ,F24,V0,V1,V2,V3,F29,V4,V5,F32,V6,V7,F35,V8,V9,V_,F39,Wa,Wb,Wc,Wd,We,Wg,Wh,Wj,kH,l6,kI,sF,g_,hG,oV,kJ,uS,⟨by first|rfl|decide,_,_,_,w_OTHER_WAY,⟨rfl,rfl,rfl⟩,rfl,.cons ⟨rfl,⟨_,rfl⟩,⟨_,rfl⟩⟩ (.cons ⟨rfl,⟨_,rfl⟩,⟨_,rfl⟩⟩ (.nil)),by trivial⟩,uT,⟨by first|rfl|decide,_,_,_,w_OTHER_END,⟨rfl,rfl,rfl⟩,rfl,.cons ⟨rfl,⟨_,rfl⟩,⟨_,rfl⟩⟩ (.cons ⟨rfl,⟨_,rfl⟩,⟨_,rfl⟩⟩ (.nil)),by trivial⟩,sG,⟨by first|rfl|decide,_,_,_,w_OTHER_SIDE,⟨rfl,rfl,rfl⟩,rfl,.cons ⟨rfl,⟨_,rfl⟩,⟨_,rfl⟩⟩ (.cons ⟨rfl,⟨_,rfl⟩,⟨_,rfl⟩⟩ (.nil)),by trivial⟩,Ng,Nh,sH,FV,Ni,Nj,JE,FW,JF,JG,Nk,Nl,sI,fC,iR,kK,bW,bS,bX,bU,de,cF,qS,uU,gb,dM,bt,cn,dN,cq,bu,cM,cX,cY,lP,k_NoMark_NoMark,k_NoMark_ValueError,fun s v=>Wi s [v] rfl⟩⟩
