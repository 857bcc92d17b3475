import PyProof.Rows.All
import Wide.All
import OpenK.AllK
import Wide.FinOn
import Lean
import PyProof.EqAt
import PyProof.EqKinds
import PyProof.TupleCall
import PyProof.NsDelKeeps
import KE.KIsBytes
import PyProof.Rows.SetFrom
import KE.KDictOf
import PyProof.AttrMissSeq
import PyProof.WalksMore
import PyProof.ZipIter
import PyProof.StrBlock2
import PyProof.StrBlockI
import PyProof.Rows.StrJoin2
import PyProof.Rows.CountFlat
import PyProof.Rows.Range3
import PyProof.SumWalkG
import PyProof.Rows.ListMulArg
import PyProof.FactsAll.tuple
import PyProof.EnumFor
import PyProof.EnumMake
import KE.KDictLaws
import KE.KDictSum
import KE.KRevIter
import PyProof.Rows.SortStr
import PyProof.Rows.SortWalk
import PyProof.AutoListH
import PyProof.StrLawsReplace
import PyProof.Rows.SortShellK
import KE.KLam
import KE.KSortKey
import KE.KNestM
import PyProof.EnumStmt
import PyProof.ListMulRoad
import PySem.Challenge.RW_pageturns_k46_keepers_fed
set_option compiler.extract_closed false
set_option Elab.async false
set_option linter.all false
set_option maxRecDepth 100000
open PySem.W (instObj methodObj hideAll hideAll_get of_hideAll lookIn plainGet hasDictIn findIn handedIn plainGet_of isFn plainOver takerIn makesIn emptyDict specialIn keepIn mroIn kitOne kia_one kitx_list fnOf codeIn excIn callWith_K methodCall_KW envX kla_fn codeHdIn tabObj codeHd_of_K nsIn mg_of)
theorem za:type_of% @PySem.wpAny_bind:=@PySem.wpAny_bind
theorem zb:type_of% @PySem.Heap.get?_push_of_some:=@PySem.Heap.get?_push_of_some
theorem zc:type_of% @List.length_map:=@List.length_map
theorem zd:type_of% @Bool.false_ne_true:=@Bool.false_ne_true
theorem ze:type_of% @List.mem_cons:=@List.mem_cons
theorem zf:type_of% @PySem.wpAny_pure:=@PySem.wpAny_pure
theorem zg:type_of% @List.mem_cons_of_mem:=@List.mem_cons_of_mem
theorem zh:type_of% @List.getElem?_eq_getElem:=@List.getElem?_eq_getElem
theorem zi:type_of% @List.mem_map:=@List.mem_map
theorem zj:type_of% @PySem.Heap.get?_push_size:=@PySem.Heap.get?_push_size
theorem zk:type_of% @List.size_toArray:=@List.size_toArray
theorem zl:type_of% @Nat.lt_of_lt_of_le:=@Nat.lt_of_lt_of_le
theorem zm:type_of% @Nat.le_refl:=@Nat.le_refl
theorem zo:type_of% @List.getElem?_eq_some_iff:=@List.getElem?_eq_some_iff
theorem zp:type_of% @PySem.Heap.lt_size:=@PySem.Heap.lt_size
theorem zq:type_of% @decide_eq_false:=@decide_eq_false
theorem zr:type_of% @Nat.ne_of_lt:=@Nat.ne_of_lt
theorem zt:type_of% @decide_eq_true:=@decide_eq_true
theorem zu:type_of% @List.mem_cons_self:=@List.mem_cons_self
theorem zw:type_of% @List.map_map:=@List.map_map
theorem zx:type_of% @List.getElem?_map:=@List.getElem?_map
theorem zy:type_of% @List.mem_append_right:=@List.mem_append_right
theorem zA:type_of% @List.map_cons:=@List.map_cons
theorem zB:type_of% @List.getD_eq_getElem?_getD:=@List.getD_eq_getElem?_getD
theorem zC:type_of% @List.length_append:=@List.length_append
theorem zD:type_of% @List.not_mem_nil:=@List.not_mem_nil
theorem zE:type_of% @List.mem_singleton:=@List.mem_singleton
theorem zF:type_of% @List.map_append:=@List.map_append
theorem zG:type_of% @Nat.le_trans:=@Nat.le_trans
theorem zH:type_of% @of_decide_eq_true:=@of_decide_eq_true
theorem zI:type_of% @List.mem_append:=@List.mem_append
theorem zJ:type_of% @PySem.wpAny_field:=@PySem.wpAny_field
theorem zK:type_of% @List.length_cons:=@List.length_cons
theorem zL:type_of% @PySem.F.plainAttrs_list:=@PySem.F.plainAttrs_list
theorem zM:type_of% @List.mem_of_getElem?:=@List.mem_of_getElem?
theorem zN:type_of% @Bool.and_eq_true:=@Bool.and_eq_true
theorem zO:type_of% @Option.some.inj:=@Option.some.inj
theorem zP:type_of% @Bool.false_and:=@Bool.false_and
theorem zQ:type_of% @List.find?_cons:=@List.find?_cons
theorem zR:type_of% @PySem.sizeLine_eq:=@PySem.sizeLine_eq
theorem zS:type_of% @List.mem_range:=@List.mem_range
theorem zT:type_of% @List.lookup_cons:=@List.lookup_cons
theorem zU:type_of% @PySem.Heap.size_push:=@PySem.Heap.size_push
theorem zV:type_of% @Bool.true_and:=@Bool.true_and
theorem zW:type_of% @List.map_congr_left:=@List.map_congr_left
theorem zX:type_of% @List.nodup_cons:=@List.nodup_cons
theorem zY:type_of% @List.mem_append_left:=@List.mem_append_left
theorem zZ:type_of% @PySem.F.slot_list_append:=@PySem.F.slot_list_append
theorem z0:type_of% @PySem.F.type_list_append:=@PySem.F.type_list_append
theorem ya:type_of% @PySem.mem_of_lookup:=@PySem.mem_of_lookup
theorem yb:type_of% @PySem.wpAny_callSpecial?_slot:=@PySem.wpAny_callSpecial?_slot
theorem yc:type_of% @Nat.ne_of_gt:=@Nat.ne_of_gt
theorem yd:type_of% @List.length_take:=@List.length_take
theorem ye:type_of% @Array.length_toList:=@Array.length_toList
theorem yf:type_of% @PySem.wpAny_newObj_type:=@PySem.wpAny_newObj_type
theorem yg:type_of% @Nat.lt_irrefl:=@Nat.lt_irrefl
theorem yh:type_of% @PySem.wpAny_seqItems:=@PySem.wpAny_seqItems
theorem yi:type_of% @PySem.wpAny_setField_rec:=@PySem.wpAny_setField_rec
theorem yj:type_of% @Nat.zero_le:=@Nat.zero_le
theorem yk:type_of% @PySem.wpAny_call_entry:=@PySem.wpAny_call_entry
theorem ym:type_of% @List.all_eq_true:=@List.all_eq_true
theorem yn:type_of% @PySem.wpAny_truthy_bool:=@PySem.wpAny_truthy_bool
theorem yo:type_of% @PySem.F.slot_dict_get:=@PySem.F.slot_dict_get
theorem yp:type_of% @List.filter_cons:=@List.filter_cons
theorem yq:type_of% @decide_eq_true_eq:=@decide_eq_true_eq
theorem yr:type_of% @PySem.Heap.SameBut.update:=@PySem.Heap.SameBut.update
theorem yt:type_of% @List.length_reverse:=@List.length_reverse
theorem yu:type_of% @Bool.eq_iff_iff:=@Bool.eq_iff_iff
theorem yw:type_of% @PySem.Calls.spliced_cons:=@PySem.Calls.spliced_cons
theorem yx:type_of% @of_decide_eq_false:=@of_decide_eq_false
theorem yy:type_of% @PySem.wpAny_holding:=@PySem.wpAny_holding
theorem yz:type_of% @PySem.wpAny_mono:=@PySem.wpAny_mono
theorem yA:type_of% @List.mem_filter:=@List.mem_filter
theorem yB:type_of% @Nat.lt_succ_self:=@Nat.lt_succ_self
theorem yC:type_of% @decide_eq_decide:=@decide_eq_decide
theorem yD:type_of% @Sum.inr.inj:=@Sum.inr.inj
theorem yE:type_of% @Nat.le_of_lt:=@Nat.le_of_lt
theorem yF:type_of% @List.foldl_cons:=@List.foldl_cons
theorem yG:type_of% @PySem.codeAny_builtin:=@PySem.codeAny_builtin
theorem yH:type_of% @PySem.F.slot_zip_next:=@PySem.F.slot_zip_next
theorem yI:type_of% @List.any_cons:=@List.any_cons
theorem yJ:type_of% @PySem.wpAny_rule:=@PySem.wpAny_rule
theorem yK:type_of% @PySem.codeAny_mono:=@PySem.codeAny_mono
theorem yL:type_of% @PySem.wpAny_attempt:=@PySem.wpAny_attempt
theorem yM:type_of% @Bool.false_or:=@Bool.false_or
theorem yN:type_of% @Nat.le_succ:=@Nat.le_succ
theorem yO:type_of% @PySem.wpAny_of_eq:=@PySem.wpAny_of_eq
namespace L2
open PySem PySem.Spec PyProof.Rows
abbrev Key:=Sum Int Str
def keyIs:Key→Value→Bool
 | .inl k,v=>Value.isInt k v
 | .inr x,v=>Value.isStrOf x v
def TL (w:World):Key→Int
 | .inl k=>hashInt k
 | .inr x=>hashStr w x
theorem bx:∀ {k:Key}{v:Value},keyIs k v=true→(∃ i t,k=Sum.inl i∧v=Value.int i t)∨(∃ x t,k=Sum.inr x∧v=Value.str x t)
 | .inl i,v,h=>by
  obtain⟨t,e⟩:=Value.isInt_shape (k:=i) (v:=v) h
  exact .inl ⟨i,t,rfl,e⟩
 | .inr x,v,h=>by
  obtain⟨t,e⟩:=Value.isStrOf_shape (x:=x) (v:=v) h
  exact .inr ⟨x,t,rfl,e⟩
theorem B5 (i:Int) (t:Tok):keyIs (.inl i) (.int i t)=true:=by simp [keyIs,Value.isInt]
theorem B6 (x:Str) (t:Tok):keyIs (.inr x) (.str x t)=true:=by simp [keyIs,Value.isStrOf]
theorem Lz (a b:Int):decide ((Sum.inl a:Key)=Sum.inl b)=(a == b):=by
 by_cases e:a=b
 ·subst e;simp
 ·have h:¬ (Sum.inl a:Key)=Sum.inl b:=fun q=>e (Sum.inl.inj q)
  rw[zq h]
  exact (beq_eq_false_iff_ne.mpr e).symm
theorem LA (a b:Str):decide ((Sum.inr a:Key)=Sum.inr b)=decide (a=b):=by
 by_cases e:a=b
 ·subst e;simp
 ·have h:¬ (Sum.inr a:Key)=Sum.inr b:=fun q=>e (yD q)
  rw[zq h,zq e]
theorem LB (a:Int) (b:Str):decide ((Sum.inl a:Key)=Sum.inr b)=false:=zq (fun q=>nomatch q)
theorem LC (a:Str) (b:Int):decide ((Sum.inr a:Key)=Sum.inl b)=false:=zq (fun q=>nomatch q)
def aF (prog:Program) (w:World):PySem.KeyKind prog w Key where
 is:=keyIs
 hash:=TL w
 inj:=fun v a b ha hb=>by
  rcases bx ha with ⟨i,t,rfl,rfl⟩ | ⟨x,t,rfl,rfl⟩
  ·rcases bx hb with ⟨j,u,rfl,e⟩ | ⟨y,u,rfl,e⟩
   ·injection e with e1 _;rw[e1]
   ·exact nomatch e
  ·rcases bx hb with ⟨j,u,rfl,e⟩ | ⟨y,u,rfl,e⟩
   ·exact nomatch e
   ·injection e with e1 _;rw[e1]
 byValue:=fun k v h=>by
  rcases bx h with ⟨i,t,rfl,rfl⟩ | ⟨x,t,rfl,rfl⟩ <;> rfl
 pyHash:=fun hv h=>by
  rcases bx hv with ⟨i,t,rfl,rfl⟩ | ⟨x,t,rfl,rfl⟩
  ·exact wpAny_pyHash_int h
  ·exact wpAny_pyHash_str h
 eqBool:=fun hu hv h=>by
  rcases bx hu with ⟨i,t,rfl,rfl⟩ | ⟨x,t,rfl,rfl⟩
  ·rcases bx hv with ⟨j,u,rfl,rfl⟩ | ⟨y,u,rfl,rfl⟩
   ·rw[Lz] at h;exact wpAny_eqBool_int h
   ·rw[LB] at h;exact SeqAt.EqAt.int_str i t y u _ _ _ _ h
  ·rcases bx hv with ⟨j,u,rfl,rfl⟩ | ⟨y,u,rfl,rfl⟩
   ·rw[LC] at h;exact SeqAt.EqAt.str_int x t j u _ _ _ _ h
   ·rw[LA] at h;exact wpAny_eqBool_str h
 «strs»:=fun k x t v h=>by
  rcases bx h with ⟨i,u,rfl,e⟩ | ⟨y,u,rfl,e⟩
  ·exact nomatch e
  ·injection e with e1 _
   subst e1
   cases v <;> rfl
theorem vq (prog:Program) (w:World) (i:Int) (t:Tok):(aF prog w).is (.inl i) (.int i t)=true:=B5 i t
theorem iZ (prog:Program) (w:World) (x:Str) (t:Tok):(aF prog w).is (.inr x) (.str x t)=true:=B6 x t
inductive V where
 | aw | bl (b:Bool) | int (i:Int) | str (x:Str) | A1 (b:Array UInt8) | LD (b:UInt64) | ref (a:Addr) | ty (n:String)
 deriving DecidableEq
def RelV:V→Value→Prop
 | .aw,u=>u=Value.none
 | .bl b,u=>u=Value.bool b
 | .int i,u=>∃ t,u=Value.int i t
 | .str x,u=>∃ t,u=Value.str x t
 | .A1 b,u=>∃ t,u=Value.bytes b t
 | .LD b,u=>∃ t,u=Value.float b t
 | .ref a,u=>u=Value.ref a
 | .ty n,u=>u=Value.type n
abbrev Vals:List V→List Value→Prop:=Paired RelV
theorem Vals.length {xs:List V}{us:List Value} (r:Vals xs us):xs.length=us.length:=Paired.length r
theorem Vals.get:∀ {xs:List V}{us:List Value}{i:Nat}{x:V},Vals xs us→xs[i]?=some x→∃ u,us[i]?=some u∧RelV x u
 | _,_,_,_,.nil,e=>by simp at e
 | _,_,0,_,.cons r _,e=>by simp at e;subst e;exact⟨_,rfl,r⟩
 | _,_,i+1,x,.cons _ t,e=>by
  obtain⟨u,h1,h2⟩:=Vals.get (i:=i) (x:=x) t (by simpa using e)
  exact⟨u,by simpa using h1,h2⟩
theorem Vals.set (r:RelV x u):∀ {xs:List V}{us:List Value} (i:Nat),Vals xs us→Vals (xs.set i x) (us.set i u)
 | _,_,_,.nil=>.nil
 | _,_,0,.cons _ t=>.cons r t
 | _,_,i+1,.cons q t=>.cons q (Vals.set r i t)
theorem Vals.append:∀ {xs ys:List V}{us ws:List Value},Vals xs us→Vals ys ws→Vals (xs++ys) (us++ws)
 | _,_,_,_,.nil,s=>s
 | _,_,_,_,.cons r t,s=>.cons r (Vals.append t s)
theorem Vals.take:∀ {xs:List V}{us:List Value} (n:Nat),Vals xs us→Vals (xs.take n) (us.take n)
 | _,_,0,_=>.nil
 | _,_,_+1,.nil=>.nil
 | _,_,n+1,.cons r t=>.cons r (Vals.take n t)
theorem Vals.drop:∀ {xs:List V}{us:List Value} (n:Nat),Vals xs us→Vals (xs.drop n) (us.drop n)
 | _,_,0,r=>r
 | _,_,_+1,.nil=>.nil
 | _,_,n+1,.cons _ t=>Vals.drop n t
def fW:Option V→Option Value→Prop
 | some v,some u=>RelV v u
 | none,none=>True
 | _,_=>False
def KV {κ:Type} : List (κ×V)→List (κ×Value)→Prop:=Paired fun (p:κ×V) (q:κ×Value)=>p.1=q.1∧RelV p.2 q.2
def kV:Key→V
 | .inl i=>.int i
 | .inr x=>.str x
inductive HO where
  | lst (xs:List V)
  | tup (xs:List V)
  | dK (kvs:List (Key×V)) | dT (kvs:List (List Key×V))
  | set (S:Int→Bool) (n:Nat)
  | ins (C dx:Addr) (fs:List (Str×V))
  | own (x:Addr)
  | xd (fs:List (Str×V))
  | met (f x:Addr)
  | Sb (lo hi:Int)
  | ku (o:Obj) (u:HO)
  | o3 (ps:Array Value)
  | ext (φ:Heap→Prop)
abbrev Hp:=Addr→Option HO
def upd (H:Hp) (a:Addr) (o:HO):Hp:=fun b=>if b=a then some o else H b
theorem aE {H:Hp}{a:Addr}{o:HO} : upd H a o a=some o:=by unfold upd;rw[if_pos rfl]
theorem av {H:Hp}{a b:Addr}{o:HO} (h:b≠a):upd H a o b=H b:=by unfold upd;rw[if_neg h]
theorem aC {H:Hp}{a b:Addr}{o:HO} (h:H a=some o) (h':H b=none):a≠b:=by
 intro e;subst e;rw[h] at h';cases h'
def gw (h:Heap) (a:Addr) (items:Array Value):Prop:=∃ o,h.get? a=some o∧o.cls=.type "tuple" ∧ o.dict=none∧∃ n,o.data=.seq items n
theorem gw.tup (x:gw h a items):IsTup h a items:=by obtain⟨o,e,c,_,n,d⟩:=x;exact⟨o,e,c,n,d⟩
theorem gw.lt (x:gw h a items):a<h.objs.size:=x.tup.lt
theorem gw.new (h:Heap) (items:Array Value):gw (h.push { cls:=.type "tuple",data:=.seq items }) h.objs.size items:=⟨_,zj _ rfl,rfl,rfl,_,rfl⟩
section
variable (P:Program) (w:World)
def bc (H:Hp) (h:Heap) (a:Addr):HO→Prop
 | .lst xs=>xs.length≤sizeLine∧∃ (ay:List Value) (n:Nat),Vals xs ay∧h.get? a=some { cls:=.type "list",data:=.seq ay.toArray n }
 | .tup xs=>xs.length≤sizeLine∧∃ ay:List Value,Vals xs ay∧gw h a ay.toArray
 | .dK kvs=>kvs.length≤sizeLine∧(a == sysModules)=false∧∃ vs,KV kvs vs∧h.DictOf (aF P w) a vs
 | .dT _=>False
 | .set S n=>h.SetOf (intKind P w) a S n
 | .ins C dx fs=>H dx=some (.own a)∧fs.length≤1000∧dx≠a∧h.get? a=some (instObj C dx) ∧
   ∃ mA,h.Ns1 dx mA∧(∀ f,fW (fs.lookup f) (mA f))∧PySem.Within mA (fs.map (·.1))
 | .own _=>∃ o,h.get? a=some o
 | .xd fs=>∃ mA,h.Ns1 a mA∧∀ f,fW (fs.lookup f) (mA f)
 | .Sb lo hi=>∃ t u v,h.get? a=some { cls:=.type "range",data:=.fields #[.int lo t,.int hi u,.int 1 v] }
 | .ku o u=>h.get? a=some o∧bc H h a u
 | .o3 ps=>h.get? a=some { cls:=.none,data:=.fields ps }
 | .met f x=>h.get? a=some (methodObj (.ref f) (.ref x))
 | .ext φ=>φ h∧(∃ o,h.get? a=some o)∧∀ h1 h2:Heap,φ h1→(∀ o,h1.get? a=some o→h2.get? a=some o)→φ h2
def kx (H:Hp) (h:Heap):Prop:=∀ a o,H a=some o→bc P w H h a o
end
section
variable {P:Program}{w:World}{H H':Hp}{h h':Heap}{a:Addr}{o:HO}
theorem bc.lt (x:bc P w H h a o):a<h.objs.size:=by
 cases o with
 | lst xs=>obtain⟨_,_,_,_,e⟩:=x;exact zp e
 | tup xs=>obtain⟨_,_,_,p⟩:=x;exact p.lt
 | dK kvs=>obtain⟨_,_,_,_,o,_,_,e,_⟩:=x;exact zp e
 | dT kvs=>exact False.elim x
 | set S n=>obtain⟨o,_,_,_,e,_⟩:=x;exact zp e
 | ins C dx fs=>obtain⟨_,_,_,e,_⟩:=x;exact zp e
 | own y=>obtain⟨_,e⟩:=x;exact zp e
 | xd fs=>obtain⟨_,⟨_,_,_,e,_⟩,_⟩:=x;exact zp e
 | Sb lo hi=>obtain⟨_,_,_,e⟩:=x;exact zp e
 | ku ob u=>obtain⟨e,_⟩:=x;exact zp e
 | o3 ps=>exact zp (show h.get? a=some _ from x)
 | met f y=>exact zp (show h.get? a=some _ from x)
 | ext φ=>obtain⟨_,⟨_,e⟩,_⟩:=x;exact zp e
theorem bc.ou (x:bc P w H h a o) (k:∀ b u,(b=a∨H b=some (.own a))→h.get? b=some u→h'.get? b=some u)
  (ho:∀ b,H b=some (.own a)→H' b=some (.own a)) (ht:∀ b xs,H b=some (.tup xs)→H' b=some (.tup xs)):bc P w H' h' a o:=by
 induction o with
 | lst xs=>obtain⟨z,ay,n,r,e⟩:=x;exact⟨z,ay,n,r,k _ _ (.inl rfl) e⟩
 | tup xs=>obtain⟨z,ay,r,ob,e,c⟩:=x;exact⟨z,ay,r,ob,k _ _ (.inl rfl) e,c⟩
 | dK kvs=>obtain⟨z,y,vs,r,ob,es,ep,e,c⟩:=x;exact⟨z,y,vs,r,ob,es,ep,k _ _ (.inl rfl) e,c⟩
 | dT kvs=>exact False.elim x
 | set S n=>obtain⟨ob,es,ep,t,e,c⟩:=x;exact⟨ob,es,ep,t,k _ _ (.inl rfl) e,c⟩
 | ins C dx fs =>
  obtain⟨d,z,ne,e,mA,⟨od,es,ep,e2,c⟩,r⟩:=x
  exact⟨ho _ d,z,ne,k _ _ (.inl rfl) e,mA,⟨od,es,ep,k _ _ (.inr d) e2,c⟩,r⟩
 | own y=>obtain⟨ob,e⟩:=x;exact⟨ob,k _ _ (.inl rfl) e⟩
 | xd fs=>obtain⟨mA,⟨od,es,ep,e,c⟩,r⟩:=x;exact⟨mA,⟨od,es,ep,k _ _ (.inl rfl) e,c⟩,r⟩
 | Sb lo hi=>obtain⟨t,u,v,e⟩:=x;exact⟨t,u,v,k _ _ (.inl rfl) e⟩
 | ku ob u ih=>obtain⟨e,q⟩:=x;exact⟨k _ _ (.inl rfl) e,ih q⟩
 | o3 ps =>
  have e:h.get? a=some { cls:=.none,data:=.fields ps }:=x
  show h'.get? a=some { cls:=.none,data:=.fields ps }
  exact k a _ (.inl rfl) e
 | met f y =>
  have e:h.get? a=some (methodObj (.ref f) (.ref y)):=x
  show h'.get? a=some (methodObj (.ref f) (.ref y))
  exact k a _ (.inl rfl) e
 | ext φ=>obtain⟨p,⟨o,e⟩,st⟩:=x;exact⟨st _ _ p fun o q=>k _ _ (.inl rfl) q,⟨o,k _ _ (.inl rfl) e⟩,st⟩
theorem kx.lt (x:kx P w H h) (e:H a=some o):a<h.objs.size:=(x a o e).lt
theorem kx.fresh (x:kx P w H h) (e:h.objs.size≤a):H a=none:=by
 cases q:H a with
 | none=>rfl
 | some u=>exact absurd (zl (x.lt q) e) (yg _)
theorem kx.kept (x:kx P w H h) (k:∀ b u,h.get? b=some u→h'.get? b=some u):kx P w H h':=fun a o e =>
 (x a o e).ou (fun b u _ q=>k b u q) (fun _ q=>q) fun _ _ q=>q
theorem kx.laid (x:kx P w H h) (k:∀ b u,h.get? b=some u→h'.get? b=some u) (hp:h.objs.size≤a) (new:bc P w (upd H a o) h' a o):kx P w (upd H a o) h':=fun b u e=>by
 have hn:=x.fresh hp
 by_cases hb:b=a
 ·subst hb;rw[aE] at e;cases e;exact new
 ·rw[av hb] at e
  exact (x b u e).ou (fun c v _ q=>k c v q) (fun c q=>by rw[av (aC q hn)];exact q) fun c xs q=>by rw[av (aC q hn)];exact q
end
def Rd (H:Hp) (a:Addr) (u:HO):Prop:=H a=some u∨∃ o,H a=some (.ku o u)
theorem Rd.of (h:H a=some u):Rd H a u:=.inl h
theorem Rd.ok {P:Program}{w:World}{H:Hp}{h:Heap}{a:Addr}{u:HO} (r:Rd H a u) (x:kx P w H h):bc P w H h a u:=by
 rcases r with r | ⟨o,r⟩
 ·exact x a u r
 ·obtain⟨_,q⟩:=x a _ r
  exact q
def Pc:Option HO→Prop
 | some (.lst _)=>True
 | some (.dK _)=>True
 | some (.dT _)=>True
 | some (.set _ _)=>True
 | some (.ins _ _ _)=>True
 | some (.ext _)=>True
 | _=>False
section
variable {P:Program}{w:World}{H:Hp}{h h':Heap}{x e:Addr}{o':HO}
theorem kx.write (ok:kx P w H h) (mu:Pc (H x)) (he:e=x∨H e=some (.own x)) (k:∀ b u,b≠e→h.get? b=some u→h'.get? b=some u) (Ot:∃ u,h'.get? e=some u)
  (new:bc P w (upd H x o') h' x o'):kx P w (upd H x o') h':=fun b u q=>by
 have Pd:∀ c y,H c=some (.own y)→c≠x:=fun c y r z=>by subst z;rw[r] at mu;exact mu
 have TM:∀ c xs,H c=some (.tup xs)→c≠x:=fun c xs r z=>by subst z;rw[r] at mu;exact mu
 by_cases hb:b=x
 ·subst hb;rw[aE] at q;cases q;exact new
 ·rw[av hb] at q
  by_cases LF:b=e
  ·have q':H b=some (.own x):=by
    rcases he with z | z
    ·exact absurd (LF.trans z) hb
    ·rw[LF];exact z
   rw[q] at q';cases q'
   obtain⟨v,hv⟩:=Ot
   exact⟨v,by rw[LF];exact hv⟩
  ·refine (ok b u q).ou (fun c v hc r=>k c v ?_ r) (fun c r=>by rw[av (Pd c b r)];exact r) fun c xs r=>by rw[av (TM c xs r)];exact r
   rcases hc with rfl | hc
   ·exact LF
   ·rintro rfl
    rcases he with z | z
    ·exact Pd c b hc z
    ·rw[hc] at z;cases z;exact hb rfl
end
structure Un (fs ex:List Addr) (H H':Hp) (h h':Heap):Prop where
 keep:∀ b o,h.get? b=some o→H b=none→b∉fs→b∉ex→h'.get? b=some o
 slot:∀ b o,h.get? b=some o→H b=none→b∈fs→b∉ex→∃ sl,h'.get? b=some { o with slots:=sl }
 free:∀ b o,h.get? b=some o→H b=none→b∉ex→H' b=none
 there:∀ b o,h.get? b=some o→b∉ex→∃ o',h'.get? b=some o'
 lE:∀ b xs,H b=some (.tup xs)→H' b=some (.tup xs)
 kz:∀ b o u,H b=some (.ku o u)→H' b=some (.ku o u)
 kB:∀ b ps,H b=some (.o3 ps)→∃ more,H' b=some (.o3 (ps++more))
section
variable {fs Ep ex ex':List Addr}{H H1 H2:Hp}{h h1 h2 h':Heap}{a x e:Addr}{o:HO}
theorem Un.any (u:Un fs ex H H1 h h1) {b:Addr}{ob:Obj} (q:h.get? b=some ob) (n:H b=none) (hx:b∉ex):∃ sl,h1.get? b=some { ob with slots:=sl }:=by
 by_cases hb:b∈fs
 ·exact u.slot b ob q n hb hx
 ·exact⟨ob.slots,u.keep b ob q n hb hx⟩
theorem Un.kept (k:∀ b u,h.get? b=some u→h'.get? b=some u):Un fs ex H H h h' :=
 ⟨fun b ob q _ _ _=>k b ob q,fun b ob q _ _ _=>⟨ob.slots,k b ob q⟩,fun _ _ _ n _=>n,fun b ob q _=>⟨ob,k b ob q⟩,fun _ _ q=>q,fun _ _ _ q=>q,fun _ ps q=>⟨#[],by rw[q];simp⟩⟩
theorem Un.refl:Un fs ex H H h h:=Un.kept fun _ _ q=>q
theorem Un.laid (k:∀ b u,h.get? b=some u→h'.get? b=some u) (hp:h.objs.size≤a) (hn:H a=none):Un fs ex H (upd H a o) h h' where
 keep:=fun b u q _ _ _=>k b u q
 slot:=fun b u q _ _ _=>⟨u.slots,k b u q⟩
 free:=fun b u q n _=>by rw[av (zr (zl (zp q) hp))];exact n
 there:=fun b u q _=>⟨u,k b u q⟩
 lE:=fun b xs q=>by rw[av (aC q hn)];exact q
 kz:=fun b u xs q=>by rw[av (aC q hn)];exact q
 kB:=fun b ps q=>⟨#[],by rw[av (aC q hn),q];simp⟩
theorem Un.write (mu:Pc (H x)) (he:e=x∨H e=some (.own x)) (k:∀ b u,b≠e→h.get? b=some u→h'.get? b=some u) (Ot:∃ u,h'.get? e=some u):Un fs ex H (upd H x o) h h':=by
 have hx:∀ b,H b=none→b≠x:=fun b n z=>by subst z;rw[n] at mu;exact mu
 have hb:∀ b,H b=none→b≠e:=fun b n z=>by
  subst z
  rcases he with r | r
  ·exact hx b n r
  ·rw[n] at r;cases r
 have hm:∀ b u,H b=some u→¬ Pc (some u)→b≠x:=fun b u q nm z=>by subst z;rw[q] at mu;exact nm mu
 refine⟨fun b u q n _ _=>k b u (hb b n) q,fun b u q n _ _=>⟨u.slots,k b u (hb b n) q⟩,fun b u q n _=>by rw[av (hx b n)];exact n,fun b u q _=>?_,
  fun b xs q=>by rw[av (hm b _ q fun z=>z)];exact q,fun b u xs q=>by rw[av (hm b _ q fun z=>z)];exact q,fun b ps q=>⟨#[],by rw[av (hm b _ q fun z=>z),q];simp⟩⟩
 by_cases LF:b=e
 ·subst LF;exact Ot
 ·exact⟨u,k b u LF q⟩
end
def Sd (h:Heap) (H:Hp):List Addr:=(List.range h.objs.size).filter fun a=>(H a).isSome
def rp (h:Heap) (H:Hp):Heap:=hideAll h (Sd h H)
theorem B7 (h:Heap) (H:Hp):(rp h H).objs.size=h.objs.size:=PySem.W.hideAll_size _ _
theorem Er (e:h.get? b=some o) (n:H b=none):(rp h H).get? b=some o :=
 hideAll_get _ e fun hm=>by
  have q:(H b).isSome=true:=(yA.mp hm).2
  rw[n] at q;simp at q
theorem HH (e:(rp h H).get? b=some o):h.get? b=some o∧H b=none:=by
 have e':h.get? b=some o:=of_hideAll (Sd h H) e
 refine⟨e',?_⟩
 cases q:H b with
 | none=>rfl
 | some x =>
  have hm:b∈Sd h H:=yA.mpr ⟨zS.mpr (zp e'),by simp [q]⟩
  have z:(rp h H).get? b=none:=PySem.W.hideAll_none (Sd h H) hm
  rw[z] at e;cases e
def HI (g h:Heap) (L:Addr):List (Addr×Obj):=(List.range h.objs.size).filterMap fun a=>if a=L∨(g.get? a).isSome=true then none else (h.get? a).map fun o=>(a,o)
def rest (g h:Heap) (L d:Addr):List (Addr×Obj):=(HI g h L).filter fun p=>decide (p.1≠d)
structure Mod (K:PySem.W.Frag) (mg:Str→Option Value) (base:Heap):Prop where
 Ou:K.In base
 glob:base.Ns mainGlobals mg
 blt:∃ mb,base.Ns builtinsNs mb∧∀ x:Str,x ≠ "__name__" → mb x=bootBuiltins x
 nolimit:base.NoLimit
structure Cx where
 prog:Program
 w:World
 K:PySem.W.Frag
 mg:Str→Option Value
 base:Heap
 A:Around
 N:List Str
 dr:Shared
 tP:Hp
 env:Env
 outer:List Env
 stack:List Env
 ex:List Addr
 fn:Str→Bool
 calm:Bool
 pn:List (Addr×Obj)
 xe:Value→Shared→Prop
def ow (l:List Env):List Addr:=l.filterMap (·.frame)
abbrev Cx.fs (X:Cx):List Addr:=ow X.outer
def Ov (sc:Scope) (x:Str):Prop:=sc.names.lookup x=some .local∨sc.names.lookup x=some .cell∨sc.names.lookup x=some .free
def Loc (sc:Scope) (x:Str):Prop:=sc.names.lookup x=some .local∨sc.names.lookup x=some .cell
def Look (env:Env) (h:Heap) (m:Str→Option Value) (x:Str) (u:Value):Prop :=
 (env.kindOf x=some .local∧m x=some u)∨((env.kindOf x=some .cell∨env.kindOf x=some .free)∧∃ c,env.cells.lookup x=some c∧h.IsCell c (some u))
structure Cx.Ok (X:Cx):Prop where
 mod:Mod X.K X.mg X.base
 kind:X.env.scope.kind=.function
 glob:X.env.globals=mainGlobals
 blt:X.env.builtins=builtinsNs
 above:X.dr.heap.objs.size≤X.env.locals
 inj:∀ x y c,X.env.cells.lookup x=some c→X.env.cells.lookup y=some c→x=y
 has:∀ x,(X.env.kindOf x=some .cell∨X.env.kindOf x=some .free)→∃ c,X.env.cells.lookup x=some c
 TN:∀ x c,X.fn x=true→X.env.cells.lookup x=some c→X.dr.heap.objs.size≤c
 hd:X.calm=true→X.A.handled=none
 frames:X.A.frames=some X.stack
 Xj:X.stack=X.outer∨(X.stack=X.env :: X.outer∧X.env.frame=some X.env.locals)
 exf:∀ b∈X.ex,b≠X.env.locals∧∀ x c,X.env.cells.lookup x=some c→c≠b
 bs:∀ b o,X.base.get? b=some o→X.dr.heap.get? b=some o∧X.tP b=none
 HJ:X.base.objs.size≤X.dr.heap.objs.size
 LG:∀ b o,X.base.get? b=some o→b∉X.ex
 Pe:∀ b∈X.ex,b∉X.fs
 ox:X.dr.heap.FunFrames X.base X.outer
 LH:∀ b∈X.fs,X.tP b=none
structure Inv (X:Cx) (pins:List (Addr×Obj)) (σ:List (Option V)) (H:Hp) (s:Shared):Prop where
 ok:X.Ok
 os:s.os=X.dr.os
 bare:AllBare s.gens
 base:Un X.fs X.ex X.tP H X.dr.heap s.heap
 loc:∃ m,s.heap.Ns X.env.locals m∧∀ (i:Nat) (x:Str) (v:V),X.N[i]?=some x→σ[i]?=some (some v)→Ov X.env.scope x→∃ u,RelV v u∧Look X.env s.heap m x u
 cell:∀ x c,X.env.cells.lookup x=some c→∃ v,s.heap.IsCell c v
 free:H X.env.locals=none
 f6:∀ x c,X.env.cells.lookup x=some c→H c=none
 pin:∀ p∈X.pn++pins,s.heap.get? p.1=some p.2∧H p.1=none∧p.1≠X.env.locals∧p.1∉X.fs∧∀ v,p.2.data≠.cell v
 aJ:kx X.prog X.w H s.heap
 len:σ.length=X.N.length
section
variable {X:Cx}{pins:List (Addr×Obj)}{σ:List (Option V)}{H H':Hp}{s:Shared}{h':Heap}
theorem Cx.Ok.B8 (ok:X.Ok) (e:X.base.get? b=some o):b∉X.fs:=fun hb=>by
 have:=(ok.ox.mem hb).1
 rw[e] at this;cases this
theorem Inv.bs (I:Inv X pins σ H s):∀ b o,X.base.get? b=some o→s.heap.get? b=some o∧H b=none:=fun b o e =>
 ⟨I.base.keep b o (I.ok.bs b o e).1 (I.ok.bs b o e).2 (I.ok.B8 e) (I.ok.LG b o e),I.base.free b o (I.ok.bs b o e).1 (I.ok.bs b o e).2 (I.ok.LG b o e)⟩
theorem Inv.bk (I:Inv X pins σ H s):∀ b o,X.base.get? b=some o→s.heap.get? b=some o:=fun b o e=>(I.bs b o e).1
theorem Inv.mod (I:Inv X pins σ H s):Mod X.K X.mg X.base:=I.ok.mod
theorem Inv.nS (I:Inv X pins σ H s):X.K.In s.heap:=I.ok.mod.Ou.keeps I.bk
theorem Inv.nolimit (I:Inv X pins σ H s):s.heap.NoLimit:=I.ok.mod.nolimit.keeps I.bk
theorem Inv.fr (I:Inv X pins σ H s):∃ m,Fr X.base X.env.locals s.heap m :=
 let ⟨m,hn,_⟩:=I.loc
 ⟨m,hn,I.bk,zG I.ok.HJ I.ok.above⟩
theorem Inv.lt (I:Inv X pins σ H s):X.env.locals<s.heap.objs.size:=by obtain⟨_,hn,_⟩:=I.loc;exact hn.lt
theorem Inv.sz (I:Inv X pins σ H s):X.dr.heap.objs.size≤s.heap.objs.size:=zG I.ok.above (yE I.lt)
theorem Inv.Pf (I:Inv X pins σ H s) (h:s.heap.objs.size≤a):a∉X.fs:=fun hb=>by
 obtain⟨_,o,ho,_⟩:=I.ok.ox.mem hb
 exact absurd (zl (zp ho) (zG I.sz h)) (yg _)
theorem Inv.LI (I:Inv X pins σ H s):∀ x c,X.env.cells.lookup x=some c→c≠X.env.locals:=fun x c e z=>by
 obtain⟨v,o,ho,hd⟩:=I.cell x c e
 obtain⟨m,⟨o',es,ep,xy,HK,_⟩,_⟩:=I.loc
 rw[z,xy] at ho;cases ho;rw[HK] at hd;cases hd
theorem Inv.ox (I:Inv X pins σ H s):s.heap.FunFrames X.base X.outer:=by
 have all:∀ (l:List Env),(∀ b∈ow l,b∈X.fs)→X.dr.heap.FunFrames X.base l→s.heap.FunFrames X.base l:=by
  intro l
  induction l with
  | nil=>intro _ _;trivial
  | cons env r ih =>
   intro hs hl
   obtain⟨hk,⟨L,o,hf,hn,ho,hd⟩,hr⟩:=hl
   have hL:L∈X.fs:=hs L (by unfold ow;rw[List.filterMap_cons,hf];exact zu)
   obtain⟨sl,e⟩:=I.base.slot L o ho (I.ok.LH L hL) hL fun z=>I.ok.Pe L z hL
   exact⟨hk,⟨L,_,hf,hn,e,hd⟩,ih (fun b hb=>hs b (by unfold ow;rw[List.filterMap_cons,hf];exact zg _ hb)) hr⟩
 exact all X.outer (fun _ hb=>hb) I.ok.ox
theorem Inv.stack (I:Inv X pins σ H s):s.heap.FunFrames X.base X.stack:=by
 rcases I.ok.Xj with e | ⟨e,hf⟩
 ·rw[e];exact I.ox
 ·rw[e]
  obtain⟨m,hn,_⟩:=I.loc
  refine .cons (by rw[I.ok.kind];decide) hf hn ?_ I.ox
  exact Heap.get?_none_of_le (zG I.ok.HJ I.ok.above)
theorem Inv.mF (I:Inv X pins σ H s):∀ b∈ow X.stack,b∈X.env.locals :: X.fs:=fun b hb=>by
 rcases I.ok.Xj with e | ⟨e,hf⟩
 ·rw[e] at hb;exact zg _ hb
 ·rw[e] at hb
  unfold ow at hb
  rw[List.filterMap_cons,hf] at hb
  exact hb
theorem Inv.o_ (I:Inv X pins σ H s):∀ b∈ow X.stack,H b=none:=fun b hb=>by
 rcases ze.mp (I.mF b hb) with e | hb
 ·rw[e];exact I.free
 ·obtain⟨_,o,ho,_⟩:=I.ok.ox.mem hb
  exact I.base.free b o ho (I.ok.LH b hb) fun z=>I.ok.Pe b z hb
theorem Inv.step {g':Array GenState}{t':Nat}{d':Drawn}{ch:List Addr} (I:Inv X pins σ H s)
  (Hx:∀ b∈ch,(b∈X.ex∨X.dr.heap.objs.size≤b)∧b≠X.env.locals∧(∀ x c,X.env.cells.lookup x=some c→c≠b)∧∀ p∈X.pn++pins,p.1≠b)
  (keep:∀ b o,b≠X.env.locals→b∉X.fs→b∉ch→s.heap.get? b=some o→H b=none→h'.get? b=some o)
  (slot:∀ b o,b≠X.env.locals→b∈X.fs→b∉ch→s.heap.get? b=some o→H b=none→∃ sl,h'.get? b=some { o with slots:=sl }) (free:∀ b o,b∉ch→s.heap.get? b=some o→H b=none→H' b=none)
  (there:∀ b o,b∉ch→s.heap.get? b=some o→∃ o',h'.get? b=some o')
  (lE:∀ b xs,H b=some (.tup xs)→H' b=some (.tup xs)) (kz:∀ b o u,H b=some (.ku o u)→H' b=some (.ku o u)) (kB:∀ b ps,H b=some (.o3 ps)→∃ more,H' b=some (.o3 (ps++more)))
  (ns:∀ m,s.heap.Ns X.env.locals m→h'.Ns X.env.locals m) (aJ:kx X.prog X.w H' h') (hg:AllBare g') :
  Inv X pins σ H' { s with heap:=h',gens:=g',drawn:=d',toks:=t' }:=by
 have Xk:∀ b o,X.dr.heap.get? b=some o→b≠X.env.locals:=fun b o e=>zr (zl (zp e) I.ok.above)
 have Se:∀ b o,X.dr.heap.get? b=some o→b∉X.ex→b∉ch:=fun b o e hx hb=>by
  rcases (Hx b hb).1 with z | z
  ·exact hx z
  ·exact absurd (zl (zp e) z) (yg _)
 have cellK:∀ x c,X.env.cells.lookup x=some c→∀ v,s.heap.IsCell c v→h'.IsCell c v:=by
  rintro x c e v ⟨o,ho,hd⟩
  have Pg:c∉ch:=fun z=>(Hx c z).2.2.1 x c e rfl
  by_cases hc:c∈X.fs
  ·obtain⟨sl,q⟩:=slot c o (I.LI x c e) hc Pg ho (I.f6 x c e)
   exact⟨_,q,hd⟩
  ·exact⟨o,keep c o (I.LI x c e) hc Pg ho (I.f6 x c e),hd⟩
 refine⟨I.ok,I.os,hg,⟨fun b o e n hb hx=>?_,fun b o e n hb hx=>?_,fun b o e n hx=>?_,fun b o e hx=>?_,fun b xs e=>lE b xs (I.base.lE b xs e),fun b o xs e=>kz b o xs (I.base.kz b o xs e),fun b ps e=>?_⟩,?_,fun x c e=>?_,?_,fun x c e=>?_,fun p hp=>?_,aJ,I.len⟩
 ·exact keep b o (Xk b o e) hb (Se b o e hx) (I.base.keep b o e n hb hx) (I.base.free b o e n hx)
 ·obtain⟨sl,e1⟩:=I.base.slot b o e n hb hx
  obtain⟨YN,e2⟩:=slot b _ (Xk b o e) hb (Se b o e hx) e1 (I.base.free b o e n hx)
  exact⟨YN,e2⟩
 ·obtain⟨o',e1⟩:=I.base.there b o e hx
  exact free b o' (Se b o e hx) e1 (I.base.free b o e n hx)
 ·obtain⟨o',e1⟩:=I.base.there b o e hx
  exact there b o' (Se b o e hx) e1
 ·obtain⟨m1,e1⟩:=I.base.kB b ps e
  obtain⟨m2,e2⟩:=kB b _ e1
  exact⟨m1++m2,by rw[e2,Array.append_assoc]⟩
 ·obtain⟨m,hn,hl⟩:=I.loc
  refine⟨m,ns m hn,fun i x v e1 e2 e3=>?_⟩
  obtain⟨u,r,l⟩:=hl i x v e1 e2 e3
  refine⟨u,r,?_⟩
  rcases l with l | ⟨k,c,e,z⟩
  ·exact .inl l
  ·exact .inr ⟨k,c,e,cellK x c e _ z⟩
 ·obtain⟨v,z⟩:=I.cell x c e
  exact⟨v,cellK x c e v z⟩
 ·obtain⟨m,⟨o,_,_,ho,_⟩,_⟩:=I.loc
  exact free _ o (fun z=>(Hx _ z).2.1 rfl) ho I.free
 ·obtain⟨v,o,ho,hd⟩:=I.cell x c e
  exact free c o (fun z=>(Hx c z).2.2.1 x c e rfl) ho (I.f6 x c e)
 ·obtain⟨e,n,ne,nf,d⟩:=I.pin p hp
  have Pg:p.1∉ch:=fun z=>(Hx p.1 z).2.2.2 p hp rfl
  exact⟨keep p.1 p.2 ne nf Pg e n,free p.1 p.2 Pg e n,ne,nf,d⟩
theorem Inv.un {t':Nat} (I:Inv X pins σ H s) (u:Un X.fs [] H H' s.heap h') (aJ:kx X.prog X.w H' h'):Inv X pins σ H' { s with heap:=h',toks:=t' }:=by
 obtain⟨m,⟨o,es,ep,ho,r⟩,_⟩:=id I.loc
 obtain⟨sl,hL⟩:=u.any ho I.free (by simp)
 exact I.step (g':=s.gens) (d':=s.drawn) (ch:=[]) (fun _ z=>nomatch z) (fun b o _ hb _ e n=>u.keep b o e n hb (by simp)) (fun b o _ hb _ e n=>u.slot b o e n hb (by simp)) (fun b o _ e n=>u.free b o e n (by simp)) (fun b o _ e=>u.there b o e (by simp)) u.lE u.kz u.kB (fun m' hm=>by
  obtain⟨o',Sf,TQ,xy,r'⟩:=hm
  rw[ho] at xy;cases xy
  exact⟨_,Sf,TQ,hL,r'⟩) aJ I.bare
theorem Inv.call {g':Array GenState}{t':Nat}{d':Drawn}{ch:List Addr} (I:Inv X pins σ H s) (u:Un (ow X.stack) ch H H' s.heap h') (aJ:kx X.prog X.w H' h') (hg:AllBare g')
  (Hx:∀ b∈ch,(b∈X.ex∨X.dr.heap.objs.size≤b)∧b≠X.env.locals∧(∀ x c,X.env.cells.lookup x=some c→c≠b)∧∀ p∈X.pn++pins,p.1≠b) :
  Inv X pins σ H' { s with heap:=h',gens:=g',drawn:=d',toks:=t' }:=by
 obtain⟨m,⟨o,es,ep,ho,r⟩,_⟩:=id I.loc
 obtain⟨sl,hL⟩:=u.any ho I.free fun z=>(Hx _ z).2.1 rfl
 exact I.step (ch:=ch) Hx (fun b o hL hb hc e n=>u.keep b o e n (fun z=>(ze.mp (I.mF b z)).elim hL hb) hc) (fun b o _ _ hc e n=>u.any e n hc) (fun b o hc e n=>u.free b o e n hc) (fun b o hc e=>u.there b o e hc) u.lE u.kz u.kB (fun m' hm=>by
  obtain⟨o',Sf,TQ,xy,r'⟩:=hm
  rw[ho] at xy;cases xy
  exact⟨_,Sf,TQ,hL,r'⟩) aJ hg
theorem Inv.turned {t':Nat}{it:Addr} (I:Inv X pins σ H s) (k:∀ b o,b≠it→s.heap.get? b=some o→h'.get? b=some o) (hn:H it=none) (hL:it≠X.env.locals)
  (h1:it∈X.ex∨X.dr.heap.objs.size≤it) (h2:∀ x c,X.env.cells.lookup x=some c→c≠it) (h3:∀ p∈X.pn++pins,p.1≠it):Inv X pins σ H { s with heap:=h',toks:=t' }:=by
 have LJ:∀ b u,H b=some u→b≠it:=fun b u e z=>by rw[z,hn] at e;cases e
 refine I.step (g':=s.gens) (d':=s.drawn) (ch:=[it]) (fun b hb=>?_) (fun b o _ _ hc e _=>k b o (fun z=>hc (by simp [z])) e) (fun b o _ _ hc e _=>⟨o.slots,k b o (fun z=>hc (by simp [z])) e⟩) (fun _ _ _ _ n=>n)
  (fun b o hc e=>⟨o,k b o (fun z=>hc (by simp [z])) e⟩) (fun _ _ e=>e) (fun _ _ _ e=>e) (fun b ps e=>⟨#[],by rw[e];simp⟩) (fun m hm=>?_) (fun b u e=>?_) I.bare
 ·have e:b=it:=by simpa using hb
  subst e
  exact⟨h1,hL,h2,h3⟩
 ·obtain⟨o,es,ep,ho,r⟩:=hm
  exact⟨o,es,ep,k _ o (Ne.symm hL) ho,r⟩
 ·refine (I.aJ b u e).ou (fun c v hc q=>k c v ?_ q) (fun _ q=>q) fun _ _ q=>q
  rcases hc with z | z
  ·rw[z];exact LJ b u e
  ·exact LJ c _ z
theorem Inv.tok (I:Inv X pins σ H s) (t:Nat):Inv X pins σ H { s with toks:=t }:=I.un (h':=s.heap) (t':=t) Un.refl I.aJ
theorem Inv.kept (I:Inv X pins σ H s) (k:∀ b u,s.heap.get? b=some u→h'.get? b=some u):Inv X pins σ H { s with heap:=h',toks:=t' }:=I.un (Un.kept k) (I.aJ.kept k)
theorem Inv.laid {a:Addr}{o:HO}{t':Nat} (I:Inv X pins σ H s) (k:∀ b u,s.heap.get? b=some u→h'.get? b=some u) (hp:s.heap.objs.size≤a) (new:bc X.prog X.w (upd H a o) h' a o) :
  Inv X pins σ (upd H a o) { s with heap:=h',toks:=t' }:=I.un (Un.laid k hp (I.aJ.fresh hp)) (I.aJ.laid k hp new)
theorem Inv.write (I:Inv X pins σ H s) (mu:Pc (H x)) (he:e=x∨H e=some (.own x)) (k:∀ b u,b≠e→s.heap.get? b=some u→h'.get? b=some u) (Ot:∃ u,h'.get? e=some u)
  (new:bc X.prog X.w (upd H x o) h' x o):Inv X pins σ (upd H x o) { s with heap:=h',toks:=t' }:=I.un (Un.write mu he k Ot) (I.aJ.write mu he k Ot new)
theorem Inv.weak (I:Inv X pins σ H s) (hl:aK.length=σ.length) (w:∀ (i:Nat) v,aK[i]?=some (some v)→σ[i]?=some (some v)):Inv X pins aK H s :=
 ⟨I.ok,I.os,I.bare,I.base,by obtain⟨m,hn,Xl⟩:=I.loc;exact⟨m,hn,fun i x v e1 e2 e3=>Xl i x v e1 (w i v e2) e3⟩,I.cell,I.free,I.f6,I.pin,I.aJ,hl.trans I.len⟩
theorem Inv.lF (I:Inv X pins σ H s) (h:∀ p∈pins',s.heap.get? p.1=some p.2∧H p.1=none∧p.1≠X.env.locals∧p.1∉X.fs∧∀ v,p.2.data≠.cell v):Inv X pins' σ H s :=
 ⟨I.ok,I.os,I.bare,I.base,I.loc,I.cell,I.free,I.f6,fun p hp=>(zI.mp hp).elim (fun z=>I.pin p (zY _ z)) (h p),I.aJ,I.len⟩
theorem vt {N:List Str} (hN:N.Nodup) {i j:Nat}{x:Str} (a:N[i]?=some x) (b:N[j]?=some x):i=j:=by
 obtain⟨h1,e1⟩:=zo.mp a
 obtain⟨h2,e2⟩:=zo.mp b
 exact (List.getElem_inj hN).mp (e1.trans e2.symm)
theorem sF {M:Model}{A:Around}{E:Value→Shared→Prop}{i:Nat}{x:Str}{v:V}{u:Value}{Q:Unit→Shared→Prop} (I:Inv X pins σ H s) (hN:X.N.Nodup) (hi:X.N[i]?=some x) (hx:Loc X.env.scope x) (r:RelV v u)
  (h:∀ s',Inv X pins (σ.set i (some v)) H s'→(∃ a,Heap.SameBut a s.heap s'.heap∧(a=X.env.locals∨X.env.cells.lookup x=some a))→Q () s') (hf:X.fn x=true∨X.env.scope.names.lookup x=some .local:=by first | exact .inl rfl | exact .inr rfl | assumption):wpAny M A (storeName X.env x u) Q E s:=by
 obtain⟨m,hn,hl⟩:=id I.loc
 have TR:(X.env.scope.kind == .class || (X.env.scope.kind == .module && X.env.locals != X.env.globals))=false:=by rw[I.ok.kind];rfl
 have Ph:i<σ.length:=by rw[I.len];exact (zo.mp hi).1
 have LI:=I.LI
 have tracked:∀ {a:Addr}{h':Heap},(∃ o,s.heap.get? a=some o∧H a=none)→Heap.SameBut a s.heap h'→kx X.prog X.w H h':=fun {a h'} ha hs b ob e=>by
  obtain⟨_,_,Kk⟩:=ha
  refine (I.aJ b ob e).ou (fun c w' hc q=>(hs.2 c ?_).trans q) (fun _ q=>q) fun _ _ q=>q
  rintro rfl
  rcases hc with rfl | hc
  ·rw[Kk] at e;cases e
  ·rw[Kk] at hc;cases hc
 rcases hx with hk | hk
 ·refine wpAny_storeName_local hk hn (fun h' Hy hs=>?_) TR
  obtain⟨oL,_,_,Ef,_⟩:=id hn
  refine h _ ⟨I.ok,I.os,I.bare,⟨fun b o e n hb hx=>?_,fun b o e n hb hx=>?_,I.base.free,fun b o e hx=>?_,I.base.lE,I.base.kz,I.base.kB⟩,⟨_,Hy,fun j y v' e1 e2 e3=>?_⟩,fun y c e=>?_,I.free,I.f6,fun p hp=>?_,tracked ⟨oL,Ef,I.free⟩ hs,by simpa using I.len⟩ ⟨_,hs,.inl rfl⟩
  ·exact (hs.2 b (zr (zl (zp e) I.ok.above))).trans (I.base.keep b o e n hb hx)
  ·obtain⟨sl,e1⟩:=I.base.slot b o e n hb hx
   exact⟨sl,(hs.2 b (zr (zl (zp e) I.ok.above))).trans e1⟩
  ·obtain⟨o',e1⟩:=I.base.there b o e hx
   exact⟨o',(hs.2 b (zr (zl (zp e) I.ok.above))).trans e1⟩
  ·by_cases hj:j=i
   ·subst hj
    rw[hi] at e1;cases e1
    rw[List.getElem?_set_self Ph] at e2
    cases e2
    exact⟨u,r,.inl ⟨hk,by simp⟩⟩
   ·rw[List.getElem?_set_ne (Ne.symm hj)] at e2
    obtain⟨u',r',q⟩:=hl j y v' e1 e2 e3
    refine⟨u',r',?_⟩
    rcases q with ⟨k,e⟩ | ⟨k,c,e,z⟩
    ·refine .inl ⟨k,?_⟩
     have:y≠x:=fun e=>hj (vt hN e1 (e ▸ hi))
     simp [this,e]
    ·exact .inr ⟨k,c,e,z.sameBut hs (LI y c e)⟩
  ·obtain⟨w',z⟩:=I.cell y c e
   exact⟨w',z.sameBut hs (LI y c e)⟩
  ·obtain⟨e,n,ne,nf,d⟩:=I.pin p hp
   exact⟨(hs.2 p.1 ne).trans e,n,ne,nf,d⟩
 ·have TU:X.fn x=true:=by
   rcases hf with z | z
   ·exact z
   ·rw[z] at hk;cases hk
  obtain⟨c,hc⟩:=I.ok.has x (.inl hk)
  obtain⟨w',z⟩:=I.cell x c hc
  refine wpAny_storeName_cell I.ok.kind hk hc z (fun h' Eg hs=>?_)
  obtain⟨oc,Sh,TV⟩:=id z
  refine h { s with heap:=h' } ⟨I.ok,I.os,I.bare,⟨fun b o e n hb hx=>?_,fun b o e n hb hx=>?_,I.base.free,fun b o e hx=>?_,I.base.lE,I.base.kz,I.base.kB⟩,⟨m,hn.sameBut hs (Ne.symm (LI x c hc)),fun j y v' e1 e2 e3=>?_⟩,fun y c' e=>?_,I.free,I.f6,fun p hp=>?_,tracked ⟨oc,Sh,I.f6 x c hc⟩ hs,by simpa using I.len⟩ ⟨c,hs,.inr hc⟩
  ·exact (hs.2 b (zr (zl (zp e) (I.ok.TN x c TU hc)))).trans (I.base.keep b o e n hb hx)
  ·obtain⟨sl,e1⟩:=I.base.slot b o e n hb hx
   exact⟨sl,(hs.2 b (zr (zl (zp e) (I.ok.TN x c TU hc)))).trans e1⟩
  ·obtain⟨o',e1⟩:=I.base.there b o e hx
   exact⟨o',(hs.2 b (zr (zl (zp e) (I.ok.TN x c TU hc)))).trans e1⟩
  ·by_cases hj:j=i
   ·subst hj
    rw[hi] at e1;cases e1
    rw[List.getElem?_set_self Ph] at e2
    cases e2
    exact⟨u,r,.inr ⟨.inl hk,c,hc,Eg⟩⟩
   ·rw[List.getElem?_set_ne (Ne.symm hj)] at e2
    obtain⟨u',r',q⟩:=hl j y v' e1 e2 e3
    refine⟨u',r',?_⟩
    rcases q with q | ⟨k,c',e,z'⟩
    ·exact .inl q
    ·refine .inr ⟨k,c',e,z'.sameBut hs ?_⟩
     rintro rfl
     exact hj (vt hN e1 (I.ok.inj _ _ _ e hc ▸ hi))
  ·by_cases Xm:c'=c
   ·subst Xm;exact⟨_,Eg⟩
   ·obtain⟨w2,z2⟩:=I.cell y c' e
    exact⟨w2,z2.sameBut hs Xm⟩
  ·obtain⟨e,n,ne,nf,d⟩:=I.pin p hp
   refine⟨(hs.2 p.1 ?_).trans e,n,ne,nf,d⟩
   intro q
   rw[q,Sh] at e
   have q':oc=p.2:=zO e
   exact d w' (by rw[← q'];exact TV)
theorem pz (I:Inv X pins σ H s) (hN:X.N.Nodup) (hi:X.N[i]?=some x) (hx:Loc X.env.scope x) (r:RelV v u)
  (h:∀ s',Inv X pins (σ.set i (some v)) H s'→Q () s') (hf:X.fn x=true∨X.env.scope.names.lookup x=some .local:=by first | exact .inl rfl | exact .inr rfl | assumption):wpAny M A (storeName X.env x u) Q E s :=
 sF I hN hi hx r (fun s' I' _=>h s' I') hf
theorem Inv.Pj (I:Inv X pins σ H s) (ho:s'.os=s.os) (u:Un (ow X.stack) ch H H' s.heap s'.heap) (aJ:kx X.prog X.w H' s'.heap) (hg:AllBare s'.gens)
  (Hx:∀ b∈ch,(b∈X.ex∨X.dr.heap.objs.size≤b)∧b≠X.env.locals∧(∀ x c,X.env.cells.lookup x=some c→c≠b)∧∀ p∈X.pn++pins,p.1≠b):Inv X pins σ H' s':=by
 obtain⟨h',g',d',t',o'⟩:=s'
 have e:o'=s.os:=ho
 subst e
 exact I.call (g':=g') (t':=t') (d':=d') u aJ hg Hx
end
abbrev XK:=Value→Option Addr→Hp→Prop
abbrev St:=List (Option V)
abbrev VK:=V→Hp→Prop
abbrev TE:=St→Hp→VK→Prop
abbrev TT:=St→Hp→(Bool→Hp→Prop)→Prop
abbrev TA:=St→Hp→(List V→Hp→Prop)→Prop
structure Ends where
 nx:St→Hp→Prop
 rt:VK
 bk:St→Hp→Prop:=fun _ _=>False
 ct:St→Hp→Prop:=fun _ _=>False
abbrev TS:=Ends→St→Hp→Prop
def EP (X:Cx) (pins:List (Addr×Obj)) (σ:St) (Q:VK) (u:Value) (s':Shared):Prop:=∃ v H',Inv X pins σ H' s'∧RelV v u∧Q v H'
def TP (X:Cx) (pins:List (Addr×Obj)) (σ:St) (Q:Bool→Hp→Prop) (b:Bool) (s':Shared):Prop:=∃ H',Inv X pins σ H' s'∧Q b H'
def AP (X:Cx) (pins:List (Addr×Obj)) (σ:St) (Q:List V→Hp→Prop) (us:List Value) (s':Shared):Prop:=∃ vs H',Inv X pins σ H' s'∧Vals vs us∧Q vs H'
def SP (X:Cx) (pins:List (Addr×Obj)) (D:Ends) (f:Flow) (s':Shared):Prop :=
 match f with
 | .next=>∃ aK H',Inv X pins aK H' s'∧D.nx aK H'
 | .brk=>∃ aK H',Inv X pins aK H' s'∧D.bk aK H'
 | .cont=>∃ aK H',Inv X pins aK H' s'∧D.ct aK H'
 | .ret u=>∃ v aK H',Inv X pins aK H' s'∧RelV v u∧D.rt v H'
def PE (X:Cx) (e:Expr) (t:TE):Prop :=
 ∀ (pins:List (Addr×Obj)) (s:Shared) (σ:St) (H:Hp) (Q:VK),Inv X pins σ H s→t σ H Q→wpAny (model X.prog X.w) X.A (eval e X.env) (EP X pins σ Q) X.xe s
def PT (X:Cx) (e:Expr) (t:TT):Prop :=
 ∀ (pins:List (Addr×Obj)) (s:Shared) (σ:St) (H:Hp) (Q:Bool→Hp→Prop),Inv X pins σ H s→t σ H Q→wpAny (model X.prog X.w) X.A (isTrue e X.env (eval e X.env)) (TP X pins σ Q) X.xe s
def PW (X:Cx) (e:Expr) (t:TT):Prop :=
 ∀ (whole:Sem Value) (pins:List (Addr×Obj)) (s:Shared) (σ:St) (H:Hp) (Q:Bool→Hp→Prop),Inv X pins σ H s→t σ H Q→wpAny (model X.prog X.w) X.A (isTrue e X.env whole) (TP X pins σ Q) X.xe s
theorem PW.pt (h:PW X e t):PT X e t:=h _
def PA (X:Cx) (es:List Expr) (t:TA):Prop :=
 ∀ (pos:Pos) (pins:List (Addr×Obj)) (s:Shared) (σ:St) (H:Hp) (Q:List V→Hp→Prop),Inv X pins σ H s→t σ H Q→wpAny (model X.prog X.w) X.A (spliced (backTo pos (starEach es X.env))) (AP X pins σ Q) X.xe s
def PS (X:Cx) (st:Stmt) (t:TS):Prop :=
 ∀ (pins:List (Addr×Obj)) (s:Shared) (σ:St) (H:Hp) (D:Ends),Inv X pins σ H s→t D σ H→wpAny (model X.prog X.w) X.A (exec st X.env) (SP X pins D) X.xe s
def A2 (X:Cx) (st:List Stmt) (t:TS):Prop :=
 ∀ (pins:List (Addr×Obj)) (s:Shared) (σ:St) (H:Hp) (D:Ends),Inv X pins σ H s→t D σ H→wpAny (model X.prog X.w) X.A (execs st X.env) (SP X pins D) X.xe s
theorem bf (h:wpAny M A t Q E s) (hQ:∀ a s,Q a s→Q' a s):wpAny M A t Q' E s:=yz h hQ fun _ _ x=>x
section
variable {X:Cx}
def TY (i:Nat):TE:=fun σ H Q=>∃ v,σ[i]?=some (some v)∧Q v H
def tC (v:V):TE:=fun _ H Q=>Q v H
theorem LK (hN:X.N[i]?=some x) (hv:Ov X.env.scope x) (hd:(x == ("__debug__" : Str))=false:=by decide) (q9:(x == ("__classdict__" : Str))=false:=by decide):PE X (.Name x pos) (TY i):=by
 intro pins s σ H Q I h
 obtain⟨v,e,h⟩:=h
 obtain⟨m,hn,hl⟩:=I.loc
 obtain⟨u,r,l⟩:=hl i x v hN e hv
 have fin:EP X pins σ Q u s:=⟨v,H,I,r,h⟩
 rcases l with ⟨hk,hm⟩ | ⟨hk,c,hc,A3⟩
 ·exact wpAny_Name (wpAny_loadName_local I.ok.kind hk hn hm fin) hd
 ·rcases hk with hk | hk
  ·exact wpAny_Name (wpAny_loadName_cell I.ok.kind hk hc A3 fin) hd
  ·exact wpAny_Name (wpAny_loadName_free I.ok.kind hk hc A3 fin q9) hd
theorem LL:PE X (.Constant (.int i) j pos) (tC (.int i)):=fun _ _ _ H _ I h=>wpAny_Constant_int ⟨.int i,H,I.tok _,⟨_,rfl⟩,h⟩
theorem Kl:PE X (.Constant (.bool b) j pos) (tC (.bl b)):=fun _ _ _ H _ I h=>Constant_bool ⟨.bl b,H,I,rfl,h⟩
theorem LM:PE X (.Constant .none j pos) (tC .aw):=fun _ _ _ H _ I h=>Constant_none ⟨.aw,H,I,rfl,h⟩
theorem LN:PE X (.Constant (.str x) j pos) (tC (.str x)):=fun _ _ _ H _ I h=>Calls.Constant_str ⟨.str x,H,I.tok _,⟨_,rfl⟩,h⟩
def Gl (X:Cx) (x:Str):Prop:=X.env.kindOf x=some .globalImplicit
theorem pb (I:Inv X pins σ H s) (hg:Gl X x) (hm:X.mg x=some u) (h:Q u s)
  (hd:(x == ("__debug__" : Str))=false:=by decide):wpAny (model X.prog X.w) X.A (eval (.Name x pos) X.env) Q E s :=
 Calls.Name_function_global I.ok.kind hg (Calls.loadGlobal_global (by rw[I.ok.glob];exact I.mod.glob.keeps I.bk) hm h) hd
theorem gx (I:Inv X pins σ H s) (hg:Gl X x) (hm:X.mg x=none) (hv:bootBuiltins x=some u) (h:Q u s)
  (hn:x ≠ "__name__" := by decide) (hd:(x == ("__debug__" : Str))=false:=by decide):wpAny (model X.prog X.w) X.A (eval (.Name x pos) X.env) Q E s:=by
 obtain⟨mb,h1,h2⟩:=I.mod.blt
 exact Calls.Name_function_global I.ok.kind hg (Calls.loadGlobal_builtin (by rw[I.ok.glob];exact I.mod.glob.keeps I.bk) hm (by rw[I.ok.blt];exact h1.keeps I.bk) ((h2 x hn).trans hv) h) hd
theorem A4 (hg:Gl X x) (hm:X.mg x=some u) (r:RelV v u) (hd:(x == ("__debug__" : Str))=false:=by decide):PE X (.Name x pos) (tC v) :=
 fun _ _ _ H _ I h=>pb I hg hm ⟨v,H,I,r,h⟩ hd
theorem HL (hg:Gl X x) (hm:X.mg x=none) (hv:bootBuiltins x=some u) (r:RelV v u) (hn:x ≠ "__name__" := by decide) (hd:(x == ("__debug__" : Str))=false:=by decide):PE X (.Name x pos) (tC v) :=
 fun _ _ _ H _ I h=>gx I hg hm hv ⟨v,H,I,r,h⟩ hn hd
variable {a b:Expr}{ta tb:TE}{pos:Pos}
def tB (t:TE):TT:=fun σ H Q=>t σ H fun x H1=>∃ c,x=.bl c∧Q c H1
theorem LO {e:Expr}{t:TE} (h:PE X e t) (he:∀ whole,isTrue e X.env whole=(do let v ← whole;standAt e.pos;holding [v] (truthy v)):=by intro _;rfl):PT X e (tB t):=by
 intro pins s σ H Q I hw
 refine isTrue_plain (bf (h pins s σ H _ I hw) fun v s1 ⟨x,H1,I1,r1,q1⟩=>?_) (he _)
 obtain⟨d,rfl,q⟩:=q1
 cases r1
 exact yn ⟨H1,I1,q⟩
variable {tA Si:TT}{rest:List Expr}
def TZ (t u:TT):TT:=fun σ H Q=>t σ H fun c H1=>if c=true then u σ H1 Q else Q false H1
def YO (t u:TT):TT:=fun σ H Q=>t σ H fun c H1=>if c=true then Q true H1 else u σ H1 Q
def T3 (t:TT):TT:=fun σ H Q=>t σ H fun c H1=>Q (!c) H1
theorem pw_and1 (ha:PT X a tA):PW X (.BoolOp .And [a] pos) tA:=by
 intro wh pins s σ H Q I h
 refine isTrue_and (bf (ha pins s σ H Q I h) fun c s1 e=>?_)
 cases c with
 | true=>exact isTrue_and_nil e
 | false=>exact e
theorem pw_or1 (ha:PT X a tA):PW X (.BoolOp .Or [a] pos) tA:=by
 intro wh pins s σ H Q I h
 refine isTrue_or (bf (ha pins s σ H Q I h) fun c s1 e=>?_)
 cases c with
 | false=>exact isTrue_or_nil e
 | true=>exact e
theorem pw_and (ha:PT X a tA) (hb:PW X (.BoolOp .And (b :: rest) pos) Si):PW X (.BoolOp .And (a :: b :: rest) pos) (TZ tA Si):=by
 intro wh pins s σ H Q I h
 refine isTrue_and (bf (ha pins s σ H _ I h) fun c s1 ⟨H1,I1,q1⟩=>?_)
 cases c with
 | true=>exact hb wh pins s1 σ H1 Q I1 q1
 | false=>exact⟨H1,I1,q1⟩
theorem pw_or (ha:PT X a tA) (hb:PW X (.BoolOp .Or (b :: rest) pos) Si):PW X (.BoolOp .Or (a :: b :: rest) pos) (YO tA Si):=by
 intro wh pins s σ H Q I h
 refine isTrue_or (bf (ha pins s σ H _ I h) fun c s1 ⟨H1,I1,q1⟩=>?_)
 cases c with
 | true=>exact⟨H1,I1,q1⟩
 | false=>exact hb wh pins s1 σ H1 Q I1 q1
theorem LP (ha:PT X a tA):PT X (.UnaryOp .Not a pos) (T3 tA):=by
 intro pins s σ H Q I h
 exact isTrue_not (ha pins s σ H (fun c H1=>Q (!c) H1) I h)
def Pk (ta tb:TE):TE:=fun σ H Q=>ta σ H fun x H1=>∃ c,x=.bl c∧if c=true then tb σ H1 Q else Q (.bl false) H1
def T4 (ta tb:TE):TE:=fun σ H Q=>ta σ H fun x H1=>∃ c,x=.bl c∧if c=true then Q (.bl true) H1 else tb σ H1 Q
def Pl (ta:TE):TE:=fun σ H Q=>ta σ H fun x H1=>∃ c,x=.bl c∧Q (.bl (!c)) H1
theorem LQ (h:PE X a t):PE X (.BoolOp op [a] pos) t:=fun pins s σ H Q I hw=>BoolOp_one (h pins s σ H Q I hw)
theorem LR (ha:PE X a ta) (hb:PE X (.BoolOp .And (b :: rest) pos) tb):PE X (.BoolOp .And (a :: b :: rest) pos) (Pk ta tb):=by
 intro pins s σ H Q I h
 refine BoolOp_and (bf (ha pins s σ H _ I h) fun v s1 ⟨x,H1,I1,r1,q1⟩=>?_)
 obtain⟨c,rfl,q1⟩:=q1
 cases r1
 refine yn ?_
 cases c with
 | true=>exact hb pins s1 σ H1 Q I1 q1
 | false=>exact⟨.bl false,H1,I1,rfl,q1⟩
theorem Pm (ha:PE X a ta) (hb:PE X (.BoolOp .Or (b :: rest) pos) tb):PE X (.BoolOp .Or (a :: b :: rest) pos) (T4 ta tb):=by
 intro pins s σ H Q I h
 refine BoolOp_or (bf (ha pins s σ H _ I h) fun v s1 ⟨x,H1,I1,r1,q1⟩=>?_)
 obtain⟨c,rfl,q1⟩:=q1
 cases r1
 refine yn ?_
 cases c with
 | false=>exact hb pins s1 σ H1 Q I1 q1
 | true=>exact⟨.bl true,H1,I1,rfl,q1⟩
theorem LS (ha:PE X a ta):PE X (.UnaryOp .Not a pos) (Pl ta):=by
 intro pins s σ H Q I h
 refine UnaryOp_ (bf (ha pins s σ H _ I h) fun v s1 ⟨x,H1,I1,r1,q1⟩=>?_)
 obtain⟨c,rfl,q1⟩:=q1
 cases r1
 exact not_of (yn ⟨.bl (!c),H1,I1,rfl,q1⟩)
def YQ (t:TT) (ta tb:TE):TE:=fun σ H Q=>t σ H fun c H1=>if c=true then ta σ H1 Q else tb σ H1 Q
theorem Es {c:Expr} (hc:PT X c tA) (ha:PE X a ta) (hb:PE X b tb):PE X (.IfExp c a b pos) (YQ tA ta tb):=by
 intro pins s σ H Q I h
 refine wpAny_IfExp (bf (hc pins s σ H _ I h) fun d s1 ⟨H1,I1,q1⟩=>?_)
 cases d with
 | true=>exact ha pins s1 σ H1 Q I1 q1
 | false=>exact hb pins s1 σ H1 Q I1 q1
end
def gL (K:PySem.W.Frag) (H:Hp) (a:Addr) (xs:List V):Prop :=
 Rd H a (.lst xs) ∨
  ∃ (o:Obj) (ay:Array Value) (n:Nat),K.lookup a=some o∧o.cls=.type "list" ∧ o.dict=none∧o.data=.seq ay n∧ay.size≤sizeLine∧Vals xs ay.toList
def iU (K:PySem.W.Frag) (H:Hp) (a:Addr) (xs:List V):Prop :=
 Rd H a (.tup xs) ∨
  ∃ (o:Obj) (ay:Array Value) (n:Nat),K.lookup a=some o∧o.cls=.type "tuple" ∧ o.data=.seq ay n∧ay.size≤sizeLine∧Vals xs ay.toList
def T5:Value→Option V
 | .none=>some .aw
 | .bool b=>some (.bl b)
 | .int i _=>some (.int i)
 | .str x _=>some (.str x)
 | .bytes b _=>some (.A1 b)
 | .float b _=>some (.LD b)
 | .ref a=>some (.ref a)
 | .type n=>some (.ty n)
 | _=>none
theorem RelV.abs (r:RelV x u):T5 u=some x:=by
 cases x with
 | aw=>cases r;rfl
 | bl _=>cases r;rfl
 | int _=>obtain⟨t,rfl⟩:=r;rfl
 | str _=>obtain⟨t,rfl⟩:=r;rfl
 | A1 _=>obtain⟨t,rfl⟩:=r;rfl
 | LD _=>obtain⟨t,rfl⟩:=r;rfl
 | ref _=>cases r;rfl
 | ty _=>cases r;rfl
theorem RelV.inj (r:RelV x u) (q:RelV y u):x=y:=zO (r.abs.symm.trans q.abs)
theorem Vals.inj:∀ {xs ys:List V}{us:List Value},Vals xs us→Vals ys us→xs=ys
 | _,_,_,.nil,.nil=>rfl
 | _,_,_,.cons r t,.cons r' t'=>by rw[r.inj r',Vals.inj t t']
section
variable {X:Cx}{pins:List (Addr×Obj)}{σ:St}{H:Hp}{s:Shared}{a:Addr}{xs ys:List V}
theorem gL.of {K:PySem.W.Frag} (h:H a=some (.lst xs)):gL K H a xs:=.inl (.inl h)
theorem iU.of {K:PySem.W.Frag} (h:H a=some (.tup xs)):iU K H a xs:=.inl (.inl h)
theorem Inv.list (I:Inv X pins σ H s) (h:gL X.K H a xs):∃ ay:List Value,Vals xs ay∧PlainL s.heap a ay.toArray∧xs.length≤sizeLine:=by
 rcases h with h | ⟨o,ay,n,hk,hc,hd,hs,hz,r⟩
 ·obtain⟨z,ay,n,r,e⟩:=h.ok I.aJ
  exact⟨ay,r,⟨_,n,e,rfl,rfl,rfl⟩,z⟩
 ·refine⟨ay.toList,r,⟨o,n,I.nS a o hk,hc,hd,by simpa using hs⟩,?_⟩
  have e:=r.length
  simp only [ye] at e
  omega
theorem Inv.tuple (I:Inv X pins σ H s) (h:iU X.K H a xs):∃ ay:List Value,Vals xs ay∧IsTup s.heap a ay.toArray∧xs.length≤sizeLine:=by
 rcases h with h | ⟨o,ay,n,hk,hc,hs,hz,r⟩
 ·obtain⟨z,ay,r,p⟩:=h.ok I.aJ
  exact⟨ay,r,p.tup,z⟩
 ·refine⟨ay.toList,r,⟨o,I.nS a o hk,hc,n,by simpa using hs⟩,?_⟩
  have e:=r.length
  simp only [ye] at e
  omega
theorem Inv.lG (I:Inv X pins σ H s) (h:gL X.K H a xs) (h':gL X.K H a ys):xs=ys:=by
 obtain⟨ay,r,⟨o,n,e,_,_,d⟩,_⟩:=I.list h
 obtain⟨its',r',⟨o',n',e',_,_,d'⟩,_⟩:=I.list h'
 rw[e] at e';cases e'
 rw[d] at d'
 injection d' with d1 _
 have:ay=its':=by simpa using congrArg Array.toList d1
 subst this
 exact r.inj r'
theorem Inv.jK (I:Inv X pins σ H s) (h:iU X.K H a xs) (h':iU X.K H a ys):xs=ys:=by
 obtain⟨ay,r,⟨o,e,_,n,d⟩,_⟩:=I.tuple h
 obtain⟨its',r',⟨o',e',_,n',d'⟩,_⟩:=I.tuple h'
 rw[e] at e';cases e'
 rw[d] at d'
 injection d' with d1 _
 have:ay=its':=by simpa using congrArg Array.toList d1
 subst this
 exact r.inj r'
end
abbrev Cx.YR (X:Cx) (E:Value→Shared→Prop):Cx:={ X with xe:=E }
section
variable {X:Cx}{pins:List (Addr×Obj)}{σ:St}{H:Hp}{s:Shared}{E:Value→Shared→Prop}
end
section
variable {X:Cx}{st:Stmt}{rest:List Stmt}{t u:TS}{e:Expr}{te:TE}{pos:Pos}
def Pn:TS:=fun D σ H=>D.nx σ H
def T6 (t u:TS):TS:=fun D σ H=>t { D with nx:=u D } σ H
theorem HM:A2 X [] Pn:=fun _ _ σ H _ I h=>wpAny_execs_nil ⟨σ,H,I,h⟩
theorem Et (h1:PS X st t) (h2:A2 X rest u):A2 X (st :: rest) (T6 t u):=by
 intro pins s σ H D I h
 refine wpAny_execs_cons (bf (h1 pins s σ H { D with nx:=u D } I h) fun f s1 q=>?_)
 cases f with
 | next =>
  obtain⟨aK,H',I',q⟩:=q
  exact h2 pins s1 aK H' D I' q
 | ret v=>exact q
 | brk=>exact q
 | cont=>exact q
theorem HN (h1:PS X st t):A2 X [st] t:=by
 intro pins s σ H D I h
 refine wpAny_execs_cons (bf (h1 pins s σ H D I h) fun f s1 q=>?_)
 cases f with
 | next=>exact wpAny_execs_nil q
 | ret v=>exact q
 | brk=>exact q
 | cont=>exact q
theorem Inv.quiet (I:Inv X pins σ H s):interactive X.env=false:=by simp [interactive,I.ok.kind]
def Po (te:TE):TS:=fun D σ H=>te σ H fun _ H1=>D.nx σ H1
theorem HP (he:PE X e te) (hs:swapsWith e none pos.line X.env=pure false:=by rfl):PS X (.Expr e pos) (Po te):=by
 intro pins s σ H D I h
 exact wpAny_Expr_any (bf (he pins s σ H _ I h) <| by rintro v s1 ⟨x,H1,I1,r1,q1⟩;exact⟨σ,H1,I1,q1⟩) I.quiet hs
def T7 (te:TE):TS:=fun D σ H=>te σ H D.rt
theorem LU (he:PE X e te):PS X (.Return (some e) pos) (T7 te):=by
 intro pins s σ H D I h
 exact wpAny_Return_some (bf (he pins s σ H _ I h) <| by rintro v s1 ⟨x,H1,I1,r1,q1⟩;exact⟨x,σ,H1,I1,r1,q1⟩)
def T8 (c:TT) (t u:TS):TS:=fun D σ H=>c σ H fun b H1=>if b=true then t D σ H1 else u D σ H1
theorem Pp {c:Expr}{a b:List Stmt}{tc:TT} (hc:PT X c tc) (ha:A2 X a t) (hb:A2 X b u):PS X (.If c a b pos) (T8 tc t u):=by
 intro pins s σ H D I h
 refine wpAny_If (bf (hc pins s σ H _ I h) fun d s1 ⟨H1,I1,q1⟩=>?_)
 cases d with
 | true=>exact ha pins s1 σ H1 D I1 q1
 | false=>exact hb pins s1 σ H1 D I1 q1
end
abbrev TG:=V→St→Hp→(St→Hp→Prop)→Prop
abbrev LV:=List V→St→Hp→(St→Hp→Prop)→Prop
def PG (X:Cx) (target:Expr) (t:TG):Prop :=
 ∀ (pins:List (Addr×Obj)) (s:Shared) (σ:St) (H:Hp) (v:V) (u:Value) (Q:St→Hp→Prop),Inv X pins σ H s→RelV v u→t v σ H Q →
  wpAny (model X.prog X.w) X.A (assign target X.env u) (fun _ s'=>∃ aK H',Inv X pins aK H' s'∧Q aK H') X.xe s
def Km (X:Cx) (ts:List Expr) (t:LV):Prop :=
 ∀ (pins:List (Addr×Obj)) (s:Shared) (σ:St) (H:Hp) (vs:List V) (us:List Value) (Q:St→Hp→Prop),Inv X pins σ H s→Vals vs us→t vs σ H Q →
  wpAny (model X.prog X.w) X.A (assignInOrder ((assignEach ts X.env).map (·.2)) us) (fun _ s'=>∃ aK H',Inv X pins aK H' s'∧Q aK H') X.xe s
abbrev LW:=V→V→V→Hp→(Hp→Prop)→Prop
def Pq (X:Cx) (t:LW):Prop :=
 ∀ (pins:List (Addr×Obj)) (s:Shared) (σ:St) (H:Hp) (o i v:V) (ov iv u:Value) (Q:Hp→Prop),Inv X pins σ H s→RelV o ov→RelV i iv→RelV v u→t o i v H Q →
  wpAny (model X.prog X.w) X.A (setItem ov iv u) (fun _ s'=>∃ H',Inv X pins σ H' s'∧Q H') X.xe s
abbrev Sj:=V→V→Hp→VK→Prop
def Xn (X:Cx) (op:Operator) (t:Sj):Prop :=
 ∀ (pins:List (Addr×Obj)) (s:Shared) (σ:St) (H:Hp) (x y:V) (v u:Value) (Q:VK),Inv X pins σ H s→RelV x v→RelV y u→t x y H Q →
  wpAny (model X.prog X.w) X.A (inplaceOp op v u) (EP X pins σ Q) X.xe s
section
variable {X:Cx}{pos:Pos}
def iJ (i:Nat):TG:=fun v σ H Q=>Q (σ.set i (some v)) H
theorem pd (hN:X.N.Nodup) (hi:X.N[i]?=some x) (hx:Loc X.env.scope x) (hf:X.fn x=true∨X.env.scope.names.lookup x=some .local:=by first | exact .inl rfl | exact .inr rfl | assumption):PG X (.Name x pos) (iJ i):=by
 intro pins s σ H v u Q I r h
 exact wpAny_assign_Name (pz I hN hi hx r (fun s' I'=>⟨_,H,I',h⟩) hf)
def HQ:LV:=fun vs σ H Q=>vs=[]∧Q σ H
def pA (t:TG) (u:LV):LV:=fun vs σ H Q=>∃ v r,vs=v :: r∧t v σ H fun aK H'=>u r aK H' Q
theorem A5:Km X [] HQ:=by
 intro pins s σ H vs us Q I r h
 obtain⟨e,h⟩:=h
 subst e
 cases r
 exact assignInOrder_nil ⟨σ,H,I,h⟩
theorem pB {e:Expr}{es:List Expr}{t:TG}{u:LV} (h1:PG X e t) (h2:Km X es u)
  (hs:(assignEach (e :: es) X.env).map (·.2)=assign e X.env :: (assignEach es X.env).map (·.2):=by rfl):Km X (e :: es) (pA t u):=by
 intro pins s σ H vs us Q I r h
 obtain⟨v,vr,e1,h⟩:=h
 subst e1
 cases r with
 | cons r rr =>
  rw[hs]
  refine assignInOrder_cons (bf (h1 pins s σ H _ _ _ I r h) fun _ s1 ⟨vi,H1,I1,q1⟩=>?_)
  exact h2 pins s1 vi H1 _ _ Q I1 rr q1
def HR (K:PySem.W.Frag) (n:Nat) (t:LV):TG:=fun v σ H Q=>∃ a xs,v=.ref a∧iU K H a xs∧xs.length=n∧t xs σ H Q
theorem Eu (hc:X.calm=true) (h:Km X es t)
  (hn:(assignEach es X.env).length=n:=by rfl) (xA:(assignEach es X.env).findIdx? (·.1)=none:=by rfl):PG X (.Tuple es k pos) (HR X.K n t):=by
 intro pins s σ H v u Q I r hw
 obtain⟨a,xs,e1,hq,hl,hw⟩:=hw
 subst e1
 cases r
 obtain⟨ay,rv,ht,hz⟩:=I.tuple hq
 refine assign_Tuple_tuple (I.ok.hd hc) ht (by simp [hn,← hl,rv.length]) xA fun h' hx=>?_
 have I1:Inv X pins σ H { s with heap:=h' }:=I.kept (t':=s.toks) fun b o e=>hx b o (zr (zp e)) e
 exact h pins _ σ H xs _ Q I1 (by simpa using rv) hw
def T9 (to ti:TE) (t:LW):TG:=fun v σ H Q=>to σ H fun o H1=>ti σ H1 fun i H2=>t o i v H2 fun H3=>Q σ H3
theorem LX {o i:Expr}{to ti:TE}{t:LW} (ho:PE X o to) (hi:PE X i ti) (hs:Pq X t)
  (ha:∀ v,assign (.Subscript o i pos) X.env v=(do
   let ov ← holding [v] (eval o X.env)
   let iv ← holding [v,ov] (eval i X.env)
   standAt pos
   holding [v,ov,iv] (setItem ov iv v)
   release [v,ov,iv] []):=by intro _;rfl):PG X (.Subscript o i pos) (T9 to ti t):=by
 intro pins s σ H v u Q I r h
 rw[ha]
 refine za (yy (bf (ho pins s σ H _ I h) fun ov s1 ⟨x,H1,I1,r1,q1⟩=>?_))
 refine za (yy (bf (hi pins s1 σ H1 _ I1 q1) fun iv s2 ⟨y,H2,I2,r2,q2⟩=>?_))
 refine za (wpAny_standAt (za (yy (bf (hs pins s2 σ H2 x y v ov iv u _ I2 r1 r2 r q2) fun _ s3 ⟨H3,I3,q3⟩=>?_))))
 exact wpAny_release ⟨σ,H3,I3,q3⟩
def LY (te:TE) (g:TG):TS:=fun D σ H=>te σ H fun x H1=>g x σ H1 D.nx
theorem LZ {tg e:Expr}{te:TE}{g:TG} (he:PE X e te) (hg:PG X tg g) (hs:swapsWithSole [tg] e pos.line X.env=pure false:=by rfl) (hw:swappedStores [tg] e X.env=pure none:=by rfl)
  (h1:(assignEach [tg] X.env).map (·.2)=[assign tg X.env]:=by rfl):PS X (.Assign [tg] e pos) (LY te g):=by
 intro pins s σ H D I h
 refine wpAny_Assign_stores (bf (he pins s σ H _ I h) fun v s1 ⟨x,H1,I1,r1,q1⟩=>?_) hs hw
 rw[h1]
 exact bf (hg pins s1 σ H1 x v _ I1 r1 q1) fun _ s2 q=>q
theorem L3 {i:Nat}{x:Str}{e:Expr}{te:TE}{pos':Pos} (hN:X.N.Nodup) (hi:X.N[i]?=some x) (hx:Loc X.env.scope x) (he:PE X e te) (hs:swapsWith e (some (.Name x pos')) pos.line X.env=pure false:=by rfl) (hf:X.fn x=true∨X.env.scope.names.lookup x=some .local:=by first | exact .inl rfl | exact .inr rfl | assumption) :
  PS X (.Assign [.Name x pos'] e pos) (LY te (iJ i)):=by
 intro pins s σ H D I h
 refine wpAny_Assign_Name (bf (he pins s σ H _ I h) fun v s1 ⟨y,H1,I1,r1,q1⟩=>?_) hs
 exact pz I1 hN hi hx r1 (fun s2 I2=>⟨_,H1,I2,q1⟩) hf
def T_ (i:Nat) (te:TE) (ti:Sj):TS:=fun D σ H=>∃ x,σ[i]?=some (some x)∧te σ H fun y H1=>ti x y H1 fun z H2=>D.nx (σ.set i (some z)) H2
theorem L4 {i:Nat}{x:Str}{e:Expr}{te:TE}{op:Operator}{ti:Sj}{pos':Pos} (hN:X.N.Nodup) (hi:X.N[i]?=some x) (hx:Loc X.env.scope x) (he:PE X e te) (ho:Xn X op ti) (hf:X.fn x=true∨X.env.scope.names.lookup x=some .local:=by first | exact .inl rfl | exact .inr rfl | assumption) :
  PS X (.AugAssign (.Name x pos') op e pos) (T_ i te ti):=by
 intro pins s σ H D I h
 obtain⟨v,e1,h⟩:=h
 obtain⟨m,hn,hl⟩:=I.loc
 have YS:Ov X.env.scope x:=by rcases hx with k | k;exact .inl k;exact .inr (.inl k)
 obtain⟨u,r,l⟩:=hl i x v hi e1 YS
 refine wpAny_AugAssign_Name ?_
 have go:wpAny (model X.prog X.w) X.A (eval e X.env) (fun w bS=>wpAny (model X.prog X.w) X.A (inplaceOp op u w) (fun r xB=>wpAny (model X.prog X.w) X.A (storeName X.env x r) (fun _=>SP X pins D .next) X.xe xB) X.xe bS) X.xe s:=by
  refine bf (he pins s σ H _ I h) fun w s1 ⟨y,H1,I1,r1,q1⟩=>?_
  refine bf (ho pins s1 σ H1 v y u w _ I1 r r1 q1) fun z s2 ⟨zv,H2,I2,r2,q2⟩=>?_
  exact pz I2 hN hi hx r2 (fun s3 I3=>⟨_,H2,I3,q2⟩) hf
 rcases l with ⟨hk,hm⟩ | ⟨hk,c,hc,A3⟩
 ·exact wpAny_loadName_local I.ok.kind hk hn hm go
 ·rcases hk with hk | hk
  ·exact wpAny_loadName_cell I.ok.kind hk hc A3 go
  ·rcases hx with k | k
   ·have:X.env.scope.names.lookup x=some .free:=hk
    rw[k] at this;cases this
   ·have:X.env.scope.names.lookup x=some .free:=hk
    rw[k] at this;cases this
def YT (f:Int→Int→Int):Sj:=fun x y H Q=>∃ i j,x=.int i∧y=.int j∧Q (.int (f i j)) H
theorem L5:Xn X .Add (YT fun i j=>i+j):=by
 intro pins s σ H x y v u Q I r1 r2 h
 obtain⟨i,j,e1,e2,q⟩:=h
 subst e1;subst e2
 obtain⟨t,rfl⟩:=r1
 obtain⟨t',rfl⟩:=r2
 exact iadd_int ⟨.int _,H,I.tok _,⟨_,rfl⟩,q⟩
end
section
variable {X:Cx}{pos:Pos}
def L6 (c:TT) (tb:TS):TS:=fun D σ H=>∃ W:Nat→St→Hp→Prop,(∃ m,W m σ H)∧∀ m σ H,W m σ H →
 c σ H fun b H1=>if b=true then ∃ N:St→Hp→Prop,(∀ aK H',N aK H'→∃ m',m'<m∧W m' aK H')∧tb { D with nx:=N,ct:=N,bk:=D.nx } σ H1 else D.nx σ H1
theorem Ew {c:Expr}{body:List Stmt}{tc:TT}{tb:TS} (hp:PassesOwn (model X.prog X.w) X.A X.env X.xe) (hc:PT X c tc) (hb:A2 X body tb):PS X (.While c body [] pos) (L6 tc tb):=by
 intro pins s σ H D I h
 obtain⟨W,⟨m0,w0⟩,turn⟩:=h
 refine wpAny_While (codeAny_whileLoop (fun n s'=>∃ aK H',Inv X pins aK H' s'∧W n aK H') ?_ m0 ⟨σ,H,I,w0⟩)
 rintro n s1 ⟨vi,H1,I1,w1⟩
 refine wpAny_passesOwn hp (bf (hc pins s1 vi H1 _ I1 (turn n vi H1 w1)) fun b s2 ⟨H2,I2,q2⟩=>?_)
 cases b with
 | true =>
  obtain⟨N,hN,q2⟩:=q2
  rw[if_pos rfl]
  refine wpAny_passesOwn hp (bf (hb pins s2 vi H2 _ I2 q2) fun f s3 q3=>?_)
  cases f with
  | next =>
   obtain⟨iV,H3,I3,n3⟩:=q3
   obtain⟨m',hm,w3⟩:=hN iV H3 n3
   exact⟨m',hm,iV,H3,I3,w3⟩
  | cont =>
   obtain⟨iV,H3,I3,n3⟩:=q3
   obtain⟨m',hm,w3⟩:=hN iV H3 n3
   exact⟨m',hm,iV,H3,I3,w3⟩
  | brk=>exact q3
  | ret v=>exact q3
 | false =>
  rw[if_neg zd]
  exact wpAny_execs_nil ⟨vi,H2,I2,q2⟩
end
structure It where
 go:Nat→Hp→Prop
 Pr:Nat→Hp→V→Hp→Prop
 stop:Nat→Hp→Prop
def oy (X:Cx) (pins:List (Addr×Obj)) (H:Hp) (b:Addr):Prop :=
 H b=none∧b≠X.env.locals∧b∉X.fs∧(b∈X.ex∨X.dr.heap.objs.size≤b)∧(∀ x c,X.env.cells.lookup x=some c→c≠b)∧∀ p∈X.pn++pins,p.1≠b
theorem Inv.oz (I:Inv X pins σ H s) (hb:s.heap.objs.size≤b) (hn:H' b=none):oy X pins H' b:=by
 refine⟨hn,yc (zl I.lt hb),I.Pf hb,.inr (zG I.sz hb),fun x c e z=>?_,fun p hp z=>?_⟩
 ·obtain⟨v,q⟩:=I.cell x c e
  exact absurd (zl q.lt (by rw[z];exact hb)) (yg _)
 ·exact absurd (zl (zp (I.pin p hp).1) (by rw[z];exact hb)) (yg _)
structure Turn (P:Program) (w:World) (K:PySem.W.Frag) (tg:Expr) (J:It) (fp:List Addr) (it:Addr) (tn:Nat→Heap→Prop):Prop where
 mem:it∈fp
 obj:∀ i h,tn i h→∀ b∈fp,∃ o,h.get? b=some o∧∀ v,o.data≠.cell v
 keep:∀ i h h',tn i h→(∀ b∈fp,∀ o,h.get? b=some o→h'.get? b=some o)→tn i h'
 item:∀ (X:Cx),X.prog=P→X.w=w→X.K=K→X.calm=true→∀ (i:Nat) (pins:List (Addr×Obj)) (s:Shared) (σ:St) (H:Hp) (E:Value→Shared→Prop),Inv X pins σ H s→(∀ b∈fp,oy X pins H b)→tn i s.heap→J.go i H →
  wpAny (model P w) X.A (pyNext (.ref it)) (fun r s1=>∃ u,r=some u ∧
   wpAny (model P w) X.A (letOwnedTupleGo tg (.ref it) u) (fun _ s2=>∃ x H',Inv X pins σ H' s2∧RelV x u∧J.Pr i H x H'∧tn (i+1) s2.heap∧∀ b∈fp,H' b=none) E s1) E s
 done:∀ (X:Cx),X.prog=P→X.w=w→X.K=K→X.calm=true→∀ (i:Nat) (pins:List (Addr×Obj)) (s:Shared) (σ:St) (H:Hp) (E:Value→Shared→Prop),Inv X pins σ H s→(∀ b∈fp,oy X pins H b)→tn i s.heap→J.stop i H →
  wpAny (model P w) X.A (pyNext (.ref it)) (fun r s1=>r=none∧Inv X pins σ H s1) E s
 self:∀ (A:Around) (i:Nat) (s:Shared) (Q:Value→Shared→Prop) (E:Value→Shared→Prop),tn i s.heap→Q (.ref it) s→wpAny (model P w) A (pyIter (.ref it)) Q E s
abbrev TI:=St→Hp→(It→Hp→Prop)→Prop
def Ua (X:Cx) (pins:List (Addr×Obj)) (σ:St) (tg:Expr) (R:It→Hp→Prop) (Sk:Value) (s2:Shared):Prop :=
 ∃ (it:Addr) (fp:List Addr) (tn:Nat→Heap→Prop) (J:It) (H':Hp),Sk=.ref it∧Inv X pins σ H' s2∧Turn X.prog X.w X.K tg J fp it tn∧tn 0 s2.heap∧(∀ b∈fp,oy X pins H' b)∧R J H'
def PI (X:Cx) (tg iter:Expr) (wi:TI):Prop :=
 ∀ (pins:List (Addr×Obj)) (s:Shared) (σ:St) (H:Hp) (R:It→Hp→Prop),Inv X pins σ H s→wi σ H R →
  wpAny (model X.prog X.w) X.A (eval iter X.env) (fun v s1=>wpAny (model X.prog X.w) X.A (pyIter v) (Ua X pins σ tg R) X.xe s1) X.xe s
theorem sG (ho:s.heap.get? it=some o) (hc:o.cls=.type n) (hd:o.data=.fields vs)
  (hn:["enumerate", "zip", "dict_itemiterator", "dict_reverseitemiterator", "odict_iterator", "itertools.zip_longest", "itertools.pairwise"].contains n=false) (hQ:Q () s):wpAny M A (letOwnedTupleGo tg (.ref it) u) Q E s:=by
 unfold letOwnedTupleGo
 cases tg <;> first
  | exact zf hQ
  | (cases u <;> first
    | exact zf hQ
    | (refine za (wpAny_load ho ?_)
       rw[hc,hd]
       show wpAny M A (if (["enumerate", "zip", "dict_itemiterator", "dict_reverseitemiterator", "odict_iterator", "itertools.zip_longest", "itertools.pairwise"].contains n && vs[0]? == some (rawInt _))=true then _ else _) Q E s
       rw[if_neg (by intro h;rw[hn,zP] at h;cases h)]
       exact zf hQ))
def Xo (K:PySem.W.Frag) (a:Addr):It :=
 ⟨fun i H=>∃ xs x,gL K H a xs∧xs[i]?=some x,fun i H x H'=>H'=H∧∀ xs,gL K H a xs→xs[i]?=some x,fun i H=>∃ xs,gL K H a xs∧xs.length≤i⟩
def Xp (K:PySem.W.Frag) (a:Addr):It :=
 ⟨fun i H=>∃ xs x,iU K H a xs∧xs[i]?=some x,fun i H x H'=>H'=H∧∀ xs,iU K H a xs→xs[i]?=some x,fun i H=>∃ xs,iU K H a xs∧xs.length≤i⟩
def Sl (lo:Int) (n:Nat):It:=⟨fun i _=>i<n,fun i H x H'=>H'=H∧x=.int (lo+i),fun i _=>n≤i⟩
theorem B9 {P:Program}{w:World}{K:PySem.W.Frag}{tg:Expr} (a it:Addr):Turn P w K tg (Xo K a) [it] it (fun i h=>h.IsListIter it a i) where
 mem:=by simp
 obj:=fun i h st b hb=>by
  have e:b=it:=by simpa using hb
  subst e
  obtain⟨o,e,c,d⟩:=st
  exact⟨o,e,fun v z=>by rw[d] at z;cases z⟩
 keep:=fun i h h' st k=>st.at fun o e=>k it (by simp) o e
 item:=by
  intro X hP hw hK hc i pins s σ H E I hf st hg
  subst hP hw hK
  obtain⟨xs,x,hq,hx⟩:=hg
  obtain⟨ay,rv,p,hz⟩:=I.list hq
  obtain⟨u,hu,ru⟩:=rv.get hx
  obtain⟨f0,f1,f2,f3,f4,f5⟩:=hf it (by simp)
  refine wpAny_pyNext_list_item st p.isList (x:=u) (by simpa using hu) fun h' eZ sb=>?_
  have I1:Inv X pins σ H { s with heap:=h' }:=I.turned (t':=s.toks) (fun b o hb e=>(sb.2 b hb).trans e) f0 f1 f3 f4 f5
  obtain⟨o,e,c,d⟩:=id eZ
  exact⟨u,rfl,sG (s:={ s with heap:=h' }) e c d (by decide) ⟨x,H,I1,ru,⟨rfl,fun ys hy=>by rw[I.lG hy hq];exact hx⟩,eZ,fun b hb=>(hf b hb).1⟩⟩
 done:=by
  intro X hP hw hK hc i pins s σ H E I hf st hg
  subst hP hw hK
  obtain⟨xs,hq,hx⟩:=hg
  obtain⟨ay,rv,p,hz⟩:=I.list hq
  obtain⟨f0,f1,f2,f3,f4,f5⟩:=hf it (by simp)
  have hl:=rv.length
  exact wpAny_pyNext_list_end (I.ok.hd hc) st p.isList (by simp;omega) fun h' eb=>⟨rfl,I.turned (t':=s.toks) (fun b o hb e=>eb b o hb e) f0 f1 f3 f4 f5⟩
 self:=fun _ _ _ _ _ st h=>wpAny_pyIter_listiter st h
theorem xC {P:Program}{w:World}{K:PySem.W.Frag}{tg:Expr} (a it:Addr):Turn P w K tg (Xp K a) [it] it (fun i h=>h.IsTupleIter it a i) where
 mem:=by simp
 obj:=fun i h st b hb=>by
  have e:b=it:=by simpa using hb
  subst e
  obtain⟨o,e,c,d⟩:=st
  exact⟨o,e,fun v z=>by rw[d] at z;cases z⟩
 keep:=fun i h h' st k=>st.at fun o e=>k it (by simp) o e
 item:=by
  intro X hP hw hK hc i pins s σ H E I hf st hg
  subst hP hw hK
  obtain⟨xs,x,hq,hx⟩:=hg
  obtain⟨ay,rv,p,hz⟩:=I.tuple hq
  obtain⟨u,hu,ru⟩:=rv.get hx
  obtain⟨f0,f1,f2,f3,f4,f5⟩:=hf it (by simp)
  refine wpAny_pyNext_tuple_item st (show s.heap.IsTuple a ay.toArray from p) (x:=u) (by simpa using hu) fun h' eZ sb=>?_
  have I1:Inv X pins σ H { s with heap:=h' }:=I.turned (t':=s.toks) (fun b o hb e=>(sb.2 b hb).trans e) f0 f1 f3 f4 f5
  obtain⟨o,e,c,d⟩:=id eZ
  exact⟨u,rfl,sG (s:={ s with heap:=h' }) e c d (by decide) ⟨x,H,I1,ru,⟨rfl,fun ys hy=>by rw[I.jK hy hq];exact hx⟩,eZ,fun b hb=>(hf b hb).1⟩⟩
 done:=by
  intro X hP hw hK hc i pins s σ H E I hf st hg
  subst hP hw hK
  obtain⟨xs,hq,hx⟩:=hg
  obtain⟨ay,rv,p,hz⟩:=I.tuple hq
  obtain⟨f0,f1,f2,f3,f4,f5⟩:=hf it (by simp)
  have hl:=rv.length
  exact wpAny_pyNext_tuple_end (I.ok.hd hc) st (show s.heap.IsTuple a ay.toArray from p) (by simp;omega) fun h' eb=>⟨rfl,I.turned (t':=s.toks) (fun b o hb e=>eb b o hb e) f0 f1 f3 f4 f5⟩
 self:=fun _ _ _ _ _ st h=>wpAny_pyIter_tupleiter st h
theorem xD {P:Program}{w:World}{K:PySem.W.Frag}{tg:Expr} (it:Addr) (lo:Int) (n:Nat):Turn P w K tg (Sl lo n) [it] it (fun i h=>IsRangeIter h it (lo+(i:Nat) * 1) ((n:Int) - (i:Nat)) 1) where
 mem:=by simp
 obj:=fun i h st b hb=>by
  have e:b=it:=by simpa using hb
  subst e
  exact⟨_,st,fun v z=>by
   have z':Data.fields _=Data.cell v:=z
   cases z'⟩
 keep:=fun i h h' st k=>k it (by simp) _ st
 item:=by
  intro X hP hw hK hc i pins s σ H E I hf st hg
  subst hP hw hK
  obtain⟨f0,f1,f2,f3,f4,f5⟩:=hf it (by simp)
  have W:=Walks.range (prog:=X.prog) (w:=X.w) (I.ok.hd hc) it lo 1 n
  refine W.item i s _ _ hg st fun v h' tk hv eZ kk=>?_
  obtain⟨t,rfl⟩:=hv
  have I1:Inv X pins σ H { s with heap:=h',toks:=tk }:=I.turned (fun b o hb e=>kk b o (by simpa using hb) e) f0 f1 f3 f4 f5
  refine⟨_,rfl,sG (s:={ s with heap:=h',toks:=tk }) (n := "range_iterator") eZ rfl rfl (by decide) ⟨.int (lo+i),H,I1,⟨t,?_⟩,⟨rfl,rfl⟩,eZ,fun b hb=>(hf b hb).1⟩⟩
  rw[Int.mul_one]
 done:=by
  intro X hP hw hK hc i pins s σ H E I hf st hg
  subst hP hw hK
  obtain⟨f0,f1,f2,f3,f4,f5⟩:=hf it (by simp)
  exact wpAny_pyNext_range_end (I.ok.hd hc) st (by have:n≤i:=hg;omega) fun h' eb=>⟨rfl,I.turned (t':=s.toks) (fun b o hb e=>eb b o hb e) f0 f1 f3 f4 f5⟩
 self:=fun _ _ _ _ _ st h=>wpAny_pyIter_rangeiter st h
section
variable {X:Cx}{tg:Expr}
def Pt (K:PySem.W.Frag) (tl:TE):TI:=fun σ H R=>tl σ H fun x H1=>∃ a,x=.ref a∧(∃ xs,gL K H1 a xs)∧R (Xo K a) H1
def Ub (K:PySem.W.Frag) (tl:TE):TI:=fun σ H R=>tl σ H fun x H1=>∃ a,x=.ref a∧(∃ xs,iU K H1 a xs)∧R (Xp K a) H1
theorem HS {l:Expr}{tl:TE} (hl:PE X l tl):PI X tg l (Pt X.K tl):=by
 intro pins s σ H R I h
 refine bf (hl pins s σ H _ I h) fun v s1 ⟨x,H1,I1,r1,q1⟩=>?_
 obtain⟨a,e,⟨xs,hq⟩,q⟩:=q1
 subst e
 cases r1
 obtain⟨ay,rv,p,hz⟩:=I1.list hq
 refine wpAny_pyIter_list p.isList ?_
 refine⟨s1.heap.objs.size,[s1.heap.objs.size],_,_,H1,rfl,I1.kept (t':=s1.toks) fun b o e=>zb _ e,B9 a _,⟨_,zj _ rfl,rfl,rfl⟩,fun b hb=>?_,q⟩
 have e:b=s1.heap.objs.size:=by simpa using hb
 subst e
 exact I1.oz (zm _) (I1.aJ.fresh (zm _))
theorem L7 {l:Expr}{tl:TE} (hl:PE X l tl):PI X tg l (Ub X.K tl):=by
 intro pins s σ H R I h
 refine bf (hl pins s σ H _ I h) fun v s1 ⟨x,H1,I1,r1,q1⟩=>?_
 obtain⟨a,e,⟨xs,hq⟩,q⟩:=q1
 subst e
 cases r1
 obtain⟨ay,rv,p,hz⟩:=I1.tuple hq
 refine wpAny_pyIter_tuple (show s1.heap.IsTuple a ay.toArray from p) ?_
 refine⟨s1.heap.objs.size,[s1.heap.objs.size],_,_,H1,rfl,I1.kept (t':=s1.toks) fun b o e=>zb _ e,xC a _,⟨_,zj _ rfl,rfl,rfl⟩,fun b hb=>?_,q⟩
 have e:b=s1.heap.objs.size:=by simpa using hb
 subst e
 exact I1.oz (zm _) (I1.aJ.fresh (zm _))
theorem Ex {pins:List (Addr×Obj)}{σ:St}{H:Hp}{s:Shared}{R:It→Hp→Prop}{E:Value→Shared→Prop}{lo hi:Int}{t u v:Tok}{tk:Nat} (I:Inv X pins σ H s) (h1:-(2 ^ 62)≤lo) (h2:lo<2 ^ 62) (h3:-(2 ^ 62)≤hi) (h4:hi<2 ^ 62)
  (q:R (Sl lo (hi - lo).toNat) H):wpAny (model X.prog X.w) X.A (pyIter (.ref s.heap.objs.size)) (Ua X pins σ tg R) E { s with heap:=s.heap.push { cls:=.type "range",data:=.fields #[.int lo t,.int hi u,.int 1 v] },toks:=tk }:=by
 refine wpAny_pyIter_range (IsRange.new ..) (small_one h1 h2 h3 h4) ?_
 have I1:Inv X pins σ H { s with heap:=s.heap.push { cls:=.type "range",data:=.fields #[.int lo t,.int hi u,.int 1 v] },toks:=tk }:=I.kept fun b o e=>zb _ e
 refine⟨(s.heap.push { cls:=.type "range",data:=.fields #[.int lo t,.int hi u,.int 1 v] }).objs.size,[(s.heap.push { cls:=.type "range",data:=.fields #[.int lo t,.int hi u,.int 1 v] }).objs.size],_,_,H,rfl,
  I1.kept (t':=tk) fun b o e=>zb _ e,xD _ lo (hi - lo).toNat,?_,fun b hb=>?_,q⟩
 ·have e1:lo+((0:Nat):Int) * 1=lo:=by simp
  have e2:(((hi - lo).toNat:Nat):Int) - ((0:Nat):Int)=Builtin.Range.rangeSize lo hi 1:=by rw[rangeSize_one];split <;> omega
  show IsRangeIter _ _ (lo+((0:Nat):Int) * 1) ((((hi - lo).toNat:Nat):Int) - ((0:Nat):Int)) 1
  rw[e1,e2]
  exact zj _ rfl
 ·have e:b=(s.heap.push { cls:=.type "range",data:=.fields #[.int lo t,.int hi u,.int 1 v] }).objs.size:=by simpa using hb
  subst e
  exact I1.oz (zm _) (I1.aJ.fresh (zm _))
def Pu (ta:TA):TI:=fun σ H R=>ta σ H fun vs H1=>∃ j:Int,vs=[.int j]∧-(2 ^ 62)≤j∧j<2 ^ 62∧R (Sl 0 j.toNat) H1
theorem B_ {a:Expr}{ta:TA}{p pos:Pos} (hg:Gl X "range") (hm:X.mg "range" = none) (ha:PA X [a] ta) (hs:starEach [a] X.env=[(false,eval a X.env)]:=by rfl):PI X tg (.Call (.Name "range" p) [a] [] pos) (Pu ta):=by
 intro pins s σ H R I h
 refine Call_ (gx I hg hm boot_range (PyProof.Rows.callWith_type1 (bf (ha pos pins s σ H _ I h) fun us s1 ⟨vs,H1,I1,r1,q1⟩=>?_) hs rfl))
 obtain⟨j,e,q1,q2,q⟩:=q1
 subst e
 cases r1 with
 | cons r rr =>
  cases rr
  obtain⟨t,rfl⟩:=r
  exact call_range_1 (Ex I1 (by omega) (by omega) q1 q2 (by simpa using q))
def Uc (wi:TI) (g:TG) (tb:TS):TS:=fun D σ H=>wi σ H fun J H1=>∃ W:Nat→Nat→St→Hp→Prop,(∃ m,W 0 m σ H1)∧∀ i m σ H,W i m σ H →
 (J.stop i H∧D.nx σ H)∨(J.go i H∧∃ N:St→Hp→Prop,(∀ aK H',N aK H'→∃ m',m'<m∧W (i+1) m' aK H')∧∀ x H',J.Pr i H x H'→g x σ H' fun pe H2=>tb { D with nx:=N,ct:=N,bk:=D.nx } pe H2)
def pC (fp:List Addr) (h:Heap):List (Addr×Obj):=fp.filterMap fun b=>(h.get? b).map fun o=>(b,o)
theorem h_ (hb:b∈fp) (e:h.get? b=some o):(b,o)∈pC fp h:=List.mem_filterMap.mpr ⟨b,hb,by rw[e];rfl⟩
theorem Ca (hp:p∈pC fp h):p.1∈fp∧h.get? p.1=some p.2:=by
 obtain⟨b,hb,e⟩:=List.mem_filterMap.mp hp
 cases q:h.get? b with
 | none=>rw[q] at e;cases e
 | some o =>
  rw[q] at e
  have e':(b,o)=p:=zO e
  subst e'
  exact⟨hb,q⟩
theorem Inv.pinned (I:Inv X pins σ H s) (hf:∀ b∈fp,oy X pins H b) (ho:∀ b∈fp,∃ o,s.heap.get? b=some o∧∀ v,o.data≠.cell v):Inv X (pins++pC fp s.heap) σ H s :=
 I.lF fun p hp=>(zI.mp hp).elim (fun z=>I.pin p (zy _ z)) fun z=>by
  obtain⟨hb,e⟩:=Ca z
  obtain⟨f0,f1,f2,_⟩:=hf p.1 hb
  obtain⟨o,e',d⟩:=ho p.1 hb
  rw[e] at e';cases e'
  exact⟨e,f0,f1,f2,d⟩
theorem Inv.pE (I:Inv X (pins++pl) σ H s):Inv X pins σ H s:=I.lF fun p hp=>I.pin p (zy _ (zY _ hp))
theorem L8 {iter:Expr}{body:List Stmt}{wi:TI}{g:TG}{tb:TS}{pos:Pos} (hp:PassesOwn (model X.prog X.w) X.A X.env X.xe) (hc:X.calm=true) (hi:PI X tg iter wi) (hg:PG X tg g) (hb:A2 X body tb)
  (hs:∀ x,foldedSetIterable iter X.env x=pure x:=by intro _;rfl):PS X (.For tg iter body [] pos) (Uc wi g tb):=by
 intro pins s σ H D I h
 refine wpAny_For (bf (hi pins s σ H _ I h) fun v s1 h1=>bf h1 fun Sk s2 h2=>?_) hs
 obtain⟨it,fp,tn,J,H2,e,I2,T,Pw,f2,W,⟨m0,w0⟩,turn⟩:=h2
 subst e
 -- what stays true of the iterator's objects through the loop
 have L9:∀ {H':Hp},(∀ b∈fp,H' b=none)→∀ b∈fp,oy X pins H' b:=fun hn b hb=>⟨hn b hb,(f2 b hb).2⟩
 refine codeAny_forLoop_any (fun n s'=>∃ i aK H',Inv X pins aK H' s'∧tn i s'.heap∧(∀ b∈fp,H' b=none)∧W i n aK H') ?_ m0 ⟨0,σ,H2,I2,Pw,fun b hb=>(f2 b hb).1,w0⟩
 rintro n s3 ⟨i,iV,H3,I3,Px,Py,w3⟩
 rcases turn i n iV H3 w3 with ⟨stop,qn⟩ | ⟨go,N,hN,step⟩
 ·refine wpAny_passesOwn hp (bf (T.done X rfl rfl rfl hc i pins s3 iV H3 X.xe I3 (L9 Py) Px stop) fun r s4 ⟨hr,I4⟩=>?_)
  subst hr
  exact wpAny_execs_nil ⟨iV,H3,I4,qn⟩
 ·refine wpAny_passesOwn hp (bf (T.item X rfl rfl rfl hc i pins s3 iV H3 X.xe I3 (L9 Py) Px go) fun r s4 ⟨u,hr,h4⟩=>?_)
  subst hr
  refine wpAny_passesOwn hp (bf h4 fun _ s5 ⟨x,H5,I5,r5,y5,st5,fr5⟩=>?_)
  have Ud:=I5.pinned (L9 fr5) (T.obj _ _ st5)
  refine wpAny_passesOwn hp (bf (hg _ s5 iV H5 x u _ Ud r5 (step x H5 y5)) fun _ s6 ⟨Pz,H6,I6,q6⟩=>?_)
  refine wpAny_passesOwn hp (bf (hb _ s6 Pz H6 _ I6 q6) fun f s7 q7=>?_)
  have again:∀ {Ey:St}{H7:Hp},Inv X (pins++pC fp s5.heap) Ey H7 s7→N Ey H7→∃ m,m<n∧∃ i aK H',Inv X pins aK H' s7∧tn i s7.heap∧(∀ b∈fp,H' b=none)∧W i m aK H':=fun {Ey H7} I7 n7=>by
   obtain⟨m',hm,w7⟩:=hN Ey H7 n7
   refine⟨m',hm,i+1,Ey,H7,I7.pE,T.keep _ _ _ st5 fun b hb o e=>(I7.pin (b,o) (zy _ (zy _ (h_ hb e)))).1,fun b hb=>?_,w7⟩
   obtain⟨o,e,d⟩:=T.obj _ _ st5 b hb
   exact (I7.pin (b,o) (zy _ (zy _ (h_ hb e)))).2.1
  cases f with
  | next=>obtain⟨Ey,H7,I7,n7⟩:=q7;exact again I7 n7
  | cont=>obtain⟨Ey,H7,I7,n7⟩:=q7;exact again I7 n7
  | brk=>obtain⟨Ey,H7,I7,q7⟩:=q7;exact⟨Ey,H7,I7.pE,q7⟩
  | ret v=>obtain⟨x7,Ey,H7,I7,r7,q7⟩:=q7;exact⟨x7,Ey,H7,I7.pE,r7,q7⟩
end
abbrev R2:=V→V→Hp→VK→Prop
def gQ (X:Cx) (f:Value→Value→Sem Value) (r:R2):Prop :=
 ∀ (pins:List (Addr×Obj)) (s:Shared) (σ:St) (H:Hp) (x y:V) (v u:Value) (Q:VK),Inv X pins σ H s→RelV x v→RelV y u→r x y H Q →
  wpAny (model X.prog X.w) X.A (f v u) (EP X pins σ Q) X.xe s
def Ue (X:Cx) (f:Value→Sem Value) (r:V→Hp→VK→Prop):Prop :=
 ∀ (pins:List (Addr×Obj)) (s:Shared) (σ:St) (H:Hp) (x:V) (v:Value) (Q:VK),Inv X pins σ H s→RelV x v→r x H Q →
  wpAny (model X.prog X.w) X.A (f v) (EP X pins σ Q) X.xe s
def fH (X:Cx) (f:Value) (r:List V→Hp→VK→Prop):Prop :=
 ∀ (pins:List (Addr×Obj)) (s:Shared) (σ:St) (H:Hp) (xs:List V) (us:List Value) (Q:VK),Inv X pins σ H s→Vals xs us→r xs H Q →
  wpAny (model X.prog X.w) X.A (call f us) (EP X pins σ Q) X.xe s
def Ow (r:R2) (ta tb:TE):TE:=fun σ H Q=>ta σ H fun x H1=>tb σ H1 fun y H2=>r x y H2 Q
def YU (r:V→Hp→VK→Prop) (ta:TE):TE:=fun σ H Q=>ta σ H fun x H1=>r x H1 Q
def rI (C:Int→Int→Prop) (g:Int→Int→V):R2:=fun x y H Q=>∃ i j,x=.int i∧y=.int j∧C i j∧Q (g i j) H
def HU (g:Int→Int→V):R2:=fun x y H Q=>∃ i j,x=.int i∧y=.int j∧Q (g i j) H
def rU (g:Int→V):V→Hp→VK→Prop:=fun x H Q=>∃ i,x=.int i∧Q (g i) H
section
variable {X:Cx}{a b c:Expr}{ta tb tc:TE}{pos:Pos}
theorem L_ (ha:PE X a ta) (hb:PE X b tb) {pins:List (Addr×Obj)}{s:Shared}{σ:St}{H:Hp}{R:V→V→Hp→Prop} (I:Inv X pins σ H s)
  (h:ta σ H fun x H1=>tb σ H1 fun y H2=>R x y H2) {Q:Value→Shared→Prop}{f:Value→Value→Sem Value}
  (hf:∀ v u s2 x y H2,Inv X pins σ H2 s2→RelV x v→RelV y u→R x y H2→wpAny (model X.prog X.w) X.A (f v u) Q X.xe s2) :
  wpAny (model X.prog X.w) X.A (eval a X.env) (fun v aY=>wpAny (model X.prog X.w) X.A (eval b X.env) (fun u bS=>wpAny (model X.prog X.w) X.A (f v u) Q X.xe bS) X.xe aY) X.xe s:=by
 refine bf (ha pins s σ H _ I h) fun v s1 ⟨x,H1,I1,r1,q1⟩=>?_
 refine bf (hb pins s1 σ H1 _ I1 q1) fun u s2 ⟨y,H2,I2,r2,q2⟩=>?_
 exact hf v u s2 x y H2 I2 r1 r2 q2
theorem PB {op:Operator}{r:R2} (ho:gQ X (binaryOp op) r) (ha:PE X a ta) (hb:PE X b tb):PE X (.BinOp a op b pos) (Ow r ta tb):=by
 intro pins s σ H Q I h
 exact wpAny_BinOp (L_ ha hb I h fun v u s2 x y H2 I2 rx ry q=>ho pins s2 σ H2 x y v u Q I2 rx ry q)
theorem PC (ho:Ue X (unaryOp op) r) (ha:PE X a ta):PE X (.UnaryOp op a pos) (YU r ta):=by
 intro pins s σ H Q I h
 exact UnaryOp_ (bf (ha pins s σ H _ I h) <| by rintro v s1 ⟨x,H1,I1,r1,q1⟩;exact ho pins s1 σ H1 x v Q I1 r1 q1)
theorem Sm {f:Value→Value→Sem Value}{C:Int→Int→Prop}{g:Int→Int→Int}
  (rule:∀ (i j:Int) (t u:Tok) (s:Shared) (Q:Value→Shared→Prop) (E:Value→Shared→Prop),C i j→Q (.int (g i j) s.toks) { s with toks:=s.toks+1 }→wpAny (model X.prog X.w) X.A (f (.int i t) (.int j u)) Q E s) :
  gQ X f (rI C fun i j=>.int (g i j)):=by
 intro pins s σ H x y v u Q I rx ry h
 obtain⟨i,j,rfl,rfl,hc,q⟩:=h
 obtain⟨t,rfl⟩:=rx
 obtain⟨t',rfl⟩:=ry
 exact rule i j t t' s _ _ hc ⟨.int (g i j),H,I.tok _,⟨_,rfl⟩,q⟩
theorem PD {f:Value→Value→Sem Value}{g:Int→Int→Int}
  (rule:∀ (i j:Int) (t u:Tok) (s:Shared) (Q:Value→Shared→Prop) (E:Value→Shared→Prop),Q (.int (g i j) s.toks) { s with toks:=s.toks+1 }→wpAny (model X.prog X.w) X.A (f (.int i t) (.int j u)) Q E s) :
  gQ X f (HU fun i j=>.int (g i j)):=by
 intro pins s σ H x y v u Q I rx ry h
 obtain⟨i,j,rfl,rfl,q⟩:=h
 obtain⟨t,rfl⟩:=rx
 obtain⟨t',rfl⟩:=ry
 exact rule i j t t' s _ _ ⟨.int (g i j),H,I.tok _,⟨_,rfl⟩,q⟩
theorem HV {f:Value→Value→Sem Value}{g:Int→Int→Bool}
  (rule:∀ (i j:Int) (t u:Tok) (s:Shared) (Q:Value→Shared→Prop) (E:Value→Shared→Prop),Q (.bool (g i j)) s→wpAny (model X.prog X.w) X.A (f (.int i t) (.int j u)) Q E s) :
  gQ X f (HU fun i j=>.bl (g i j)):=by
 intro pins s σ H x y v u Q I rx ry h
 obtain⟨i,j,rfl,rfl,q⟩:=h
 obtain⟨t,rfl⟩:=rx
 obtain⟨t',rfl⟩:=ry
 exact rule i j t t' s _ _ ⟨.bl (g i j),H,I,rfl,q⟩
def PF (i j:Int):Prop:=0≤j∧j≤1000000∧i.natAbs<2 ^ 64
def HW (i j:Int):Prop:=(-(2 ^ 64)<i∧i<2 ^ 64)∨(-(2 ^ 64)<j∧j<2 ^ 64)
theorem HW.ok {i j:Int} (h:HW i j):IntMulOk i j:=by
 rcases h with ⟨h1,h2⟩ | ⟨h1,h2⟩
 ·exact .of_left (intBits_le_64 h1 h2)
 ·exact .of_right (intBits_le_64 h1 h2)
theorem Ma:gQ X (binaryOp .Add) (HU fun i j=>.int (i+j)):=PD fun _ _ _ _ _ _ _ q=>add_int q
theorem Mb:gQ X (binaryOp .Sub) (HU fun i j=>.int (i - j)):=PD fun _ _ _ _ _ _ _ q=>sub_int q
theorem Mc:gQ X (binaryOp .Mult) (rI HW fun i j=>.int (i * j)):=Sm fun _ _ _ _ _ _ _ hc q=>mul_int q hc.ok
theorem Md:gQ X (binaryOp .Mod) (rI (fun _ j=>0<j) fun i j=>.int (i % j)):=Sm fun i j _ _ _ _ _ hc q=>by
 have h1:(0:Int)<j:=hc
 exact mod_int' (by omega) (by rw[Int.fmod_eq_emod_of_nonneg i (by omega)];exact q)
theorem Me:gQ X (binaryOp .Pow) (rI PF fun i j=>.int (i ^ j.toNat)):=Sm fun _ _ _ _ _ _ _ hc q=>pow_int_small hc.1 hc.2.1 hc.2.2 q
theorem YV {f:Value→Sem Value}{g:Int→Int}
  (rule:∀ (i:Int) (t:Tok) (s:Shared) (Q:Value→Shared→Prop) (E:Value→Shared→Prop),Q (.int (g i) s.toks) { s with toks:=s.toks+1 }→wpAny (model X.prog X.w) X.A (f (.int i t)) Q E s) :
  Ue X f (rU fun i=>.int (g i)):=by
 intro pins s σ H x v Q I rx h
 obtain⟨i,rfl,q⟩:=h
 obtain⟨t,rfl⟩:=rx
 exact rule i t s _ _ ⟨.int (g i),H,I.tok _,⟨_,rfl⟩,q⟩
theorem Mf:Ue X (unaryOp .USub) (rU fun i=>.int (-i)):=YV fun _ _ _ _ _ q=>neg_int q
end
def PH:V→V→Bool
 | .aw,.aw=>true | .aw,.int _=>true | .int _,.aw=>true | .aw,.bl _=>true | .bl _,.aw=>true | .aw,.str _=>true | .str _,.aw=>true
 | .int _,.int _=>true | .bl _,.bl _=>true | .str _,.str _=>true | .A1 _,.A1 _=>true
 | .int _,.str _=>true | .str _,.int _=>true | .bl _,.str _=>true | .str _,.bl _=>true
 | _,_=>false
def YW:R2:=fun x y H Q=>PH x y=true∧Q (.bl (decide (x=y))) H
def YX:R2:=fun x y H Q=>PH x y=true∧Q (.bl (!decide (x=y))) H
theorem A6:decide (V.int i=V.int j)=(i == j):=by
 rw[yu]
 simp
theorem Ez:decide (V.bl i=V.bl j)=(i == j):=by
 rw[yu]
 simp
theorem A7:decide (V.str i=V.str j)=(i == j):=by
 rw[yu]
 simp
theorem A8:decide (V.A1 i=V.A1 j)=(i.toList == j.toList):=by
 rw[yu]
 cases i
 cases j
 simp
section
variable {X:Cx}{a b c:Expr}{ta tb tc:TE}{pos:Pos}
theorem aH (I:Inv X pins σ H s) (q:Q (.bl k) H) (e:k=k'):EP X pins σ Q (.bool k') s:=by
 subst e
 exact⟨.bl k,H,I,rfl,q⟩
theorem Ko:gQ X (compareOp .Eq) YW:=by
 intro pins s σ H x y v u Q I rx ry h
 obtain⟨hs,q⟩:=h
 cases x with
 | aw =>
  cases rx
  cases y with
  | aw=>cases ry;exact PySem.EqNone.eq_none_none (aH I q (by simp))
  | bl j=>cases ry;exact PySem.EqNone.eq_none_bool (aH I q (by simp))
  | int j=>obtain⟨t',rfl⟩:=ry;exact PySem.EqNone.eq_none_int (aH I q (by simp))
  | str j=>obtain⟨t',rfl⟩:=ry;exact PySem.EqNone.eq_none_str (aH I q (by simp))
  | _=>exact absurd (show false=true from hs) zd
 | bl i =>
  cases rx
  cases y with
  | aw=>cases ry;exact PySem.EqNone.eq_bool_none (aH I q (by simp))
  | bl j=>cases ry;exact eq_bool (aH I q Ez)
  | str j=>obtain⟨t',rfl⟩:=ry;exact PySem.EqMixed.eq_bool_str (aH I q (by simp))
  | _=>exact absurd (show false=true from hs) zd
 | int i =>
  obtain⟨t,rfl⟩:=rx
  cases y with
  | aw=>cases ry;exact PySem.EqNone.eq_int_none (aH I q (by simp))
  | int j=>obtain⟨t',rfl⟩:=ry;exact eq_int (aH I q A6)
  | str j=>obtain⟨t',rfl⟩:=ry;exact PySem.EqMixed.eq_int_str (aH I q (by simp))
  | _=>exact absurd (show false=true from hs) zd
 | str i =>
  obtain⟨t,rfl⟩:=rx
  cases y with
  | aw=>cases ry;exact PySem.EqNone.eq_str_none (aH I q (by simp))
  | bl j=>cases ry;exact PySem.EqMixed.eq_str_bool (aH I q (by simp))
  | int j=>obtain⟨t',rfl⟩:=ry;exact PySem.EqMixed.eq_str_int (aH I q (by simp))
  | str j=>obtain⟨t',rfl⟩:=ry;exact eq_str (aH I q A7)
  | _=>exact absurd (show false=true from hs) zd
 | A1 i =>
  obtain⟨t,rfl⟩:=rx
  cases y with
  | A1 j=>obtain⟨t',rfl⟩:=ry;exact PySem.W.eq_bytes (aH I q A8)
  | _=>exact absurd (show false=true from hs) zd
 | _=>cases y <;> exact absurd (show false=true from hs) zd
theorem Kr:gQ X (compareOp .NotEq) YX:=by
 intro pins s σ H x y v u Q I rx ry h
 obtain⟨hs,q⟩:=h
 cases x with
 | aw =>
  cases rx
  cases y with
  | aw=>cases ry;exact PySem.EqNone.ne_none_none (aH I q (by simp))
  | bl j=>cases ry;exact PySem.EqNone.ne_none_bool (aH I q (by simp))
  | int j=>obtain⟨t',rfl⟩:=ry;exact PySem.EqNone.ne_none_int (aH I q (by simp))
  | str j=>obtain⟨t',rfl⟩:=ry;exact PySem.EqNone.ne_none_str (aH I q (by simp))
  | _=>exact absurd (show false=true from hs) zd
 | bl i =>
  cases rx
  cases y with
  | aw=>cases ry;exact PySem.EqNone.ne_bool_none (aH I q (by simp))
  | bl j=>cases ry;exact ne_bool (aH I q (congrArg not Ez))
  | str j=>obtain⟨t',rfl⟩:=ry;exact PySem.EqMixed.ne_bool_str (aH I q (by simp))
  | _=>exact absurd (show false=true from hs) zd
 | int i =>
  obtain⟨t,rfl⟩:=rx
  cases y with
  | aw=>cases ry;exact PySem.EqNone.ne_int_none (aH I q (by simp))
  | int j=>obtain⟨t',rfl⟩:=ry;exact ne_int (aH I q (congrArg not A6))
  | str j=>obtain⟨t',rfl⟩:=ry;exact PySem.EqMixed.ne_int_str (aH I q (by simp))
  | _=>exact absurd (show false=true from hs) zd
 | str i =>
  obtain⟨t,rfl⟩:=rx
  cases y with
  | aw=>cases ry;exact PySem.EqNone.ne_str_none (aH I q (by simp))
  | bl j=>cases ry;exact PySem.EqMixed.ne_str_bool (aH I q (by simp))
  | int j=>obtain⟨t',rfl⟩:=ry;exact PySem.EqMixed.ne_str_int (aH I q (by simp))
  | str j=>obtain⟨t',rfl⟩:=ry;exact ne_str (aH I q (congrArg not A7))
  | _=>exact absurd (show false=true from hs) zd
 | A1 i =>
  obtain⟨t,rfl⟩:=rx
  cases y with
  | A1 j=>obtain⟨t',rfl⟩:=ry;exact PySem.W.ne_bytes (aH I q (congrArg not A8))
  | _=>exact absurd (show false=true from hs) zd
 | _=>cases y <;> exact absurd (show false=true from hs) zd
theorem PJ:gQ X (compareOp .Lt) (HU fun i j=>.bl (decide (i<j))):=HV fun _ _ _ _ _ _ _ q=>lt_int q
theorem PK:gQ X (compareOp .LtE) (HU fun i j=>.bl (decide (i≤j))):=HV fun _ _ _ _ _ _ _ q=>le_int q
theorem PL:gQ X (compareOp .Gt) (HU fun i j=>.bl (decide (j<i))):=HV fun _ _ _ _ _ _ _ q=>gt_int q
theorem PM:gQ X (compareOp .GtE) (HU fun i j=>.bl (decide (j≤i))):=HV fun _ _ _ _ _ _ _ q=>ge_int q
theorem Cb:gQ X (compareOp .Lt) (fun x y H Q=>∃ i j,x=.str i∧y=.str j∧Q (.bl (decide (i.cps.toList<j.cps.toList))) H):=by
 intro pins s σ H x y v u Q I rx ry h
 obtain⟨i,j,rfl,rfl,q⟩:=h
 obtain⟨t,rfl⟩:=rx
 obtain⟨t',rfl⟩:=ry
 exact lt_str (aH I q rfl)
theorem Cc:gQ X (compareOp .In) (fun x y H Q=>∃ i j,x=.str i∧y=.str j∧Q (.bl (!(Builtin.Str.occurrences j i 0 j.length 1).isEmpty)) H):=by
 intro pins s σ H x y v u Q I rx ry h
 obtain⟨i,j,rfl,rfl,q⟩:=h
 obtain⟨t,rfl⟩:=rx
 obtain⟨t',rfl⟩:=ry
 exact in_str (aH I q rfl)
theorem Mg:gQ X (compareOp .Is) (fun x y H Q=>y=.aw∧Q (.bl (decide (x=.aw))) H):=by
 intro pins s σ H x y v u Q I rx ry h
 obtain⟨rfl,q⟩:=h
 cases ry
 refine is_none_gen (aH I q ?_)
 cases x <;> first
  | (cases rx;rfl)
  | (obtain⟨t,rfl⟩:=rx;rfl)
theorem HX:gQ X (compareOp .IsNot) (fun x y H Q=>y=.aw∧Q (.bl (!decide (x=.aw))) H):=by
 intro pins s σ H x y v u Q I rx ry h
 obtain⟨rfl,q⟩:=h
 cases ry
 refine isnot_none_gen (aH I q ?_)
 cases x <;> first
  | (cases rx;rfl)
  | (obtain⟨t,rfl⟩:=rx;rfl)
theorem Ug (b:Expr) (h:op≠.In:=by decide) (h2:op≠.NotIn:=by decide):behindInMarks op b=false:=by
 have e1:(op == CmpOp.In)=false:=by cases op <;> first | rfl | exact absurd rfl h
 have e2:(op == CmpOp.NotIn)=false:=by cases op <;> first | rfl | exact absurd rfl h2
 cases b <;> simp [behindInMarks,e1,e2]
theorem A9 {op:CmpOp}{r:R2} (ho:gQ X (compareOp op) r) (ha:PE X a ta) (hb:PE X b tb) (hm:behindInMarks op b=false):PE X (.Compare a [op] [b] pos) (Ow r ta tb):=by
 intro pins s σ H Q I h
 exact wpAny_Compare1 (L_ ha hb I h fun v u s2 x y H2 I2 rx ry q=>ho pins s2 σ H2 x y v u Q I2 rx ry q) hm
def EA (t:TE):TT:=fun σ H Q=>t σ H fun x H'=>∃ k,x=.bl k∧Q k H'
theorem HY {op:CmpOp}{r:R2} (ho:gQ X (compareOp op) r) (ha:PE X a ta) (hb:PE X b tb) (hm:behindInMarks op b=false):PT X (.Compare a [op] [b] pos) (EA (Ow r ta tb)):=by
 intro pins s σ H Q I h
 refine wpAny_isTrue_Compare1 (bf (ha pins s σ H _ I h) fun v s1 ⟨x,H1,I1,r1,q1⟩=>bf (hb pins s1 σ H1 _ I1 q1) fun u s2 ⟨y,H2,I2,r2,q2⟩ =>
  bf (ho pins s2 σ H2 x y v u _ I2 r1 r2 q2) fun c s3 ⟨z,H3,I3,r3,k,e,q3⟩=>?_) hm
 subst e
 cases r3
 exact yn ⟨H3,I3,q3⟩
def xE (r r':R2) (ta tb tc:TE):TE:=fun σ H Q=>ta σ H fun x H1=>tb σ H1 fun y H2=>r x y H2 fun z H3=>∃ k,z=.bl k ∧
 (if k=true then tc σ H3 fun w' H4=>r' y w' H4 Q else Q (.bl false) H3)
theorem EB {op Cd:CmpOp}{r r':R2} (ho:gQ X (compareOp op) r) (xy:gQ X (compareOp Cd) r') (ha:PE X a ta) (hb:PE X b tb) (hc:PE X c tc)
  (hm:lastMarks [op,Cd] [b,c]=false:=by with_unfolding_all rfl):PE X (.Compare a [op,Cd] [b,c] pos) (xE r r' ta tb tc):=by
 intro pins s σ H Q I h
 refine Compare_chain (bf (ha pins s σ H _ I h) fun v s1 ⟨x,H1,I1,r1,q1⟩=>chain_link (bf (hb pins s1 σ H1 _ I1 q1) fun u s2 ⟨y,H2,I2,r2,q2⟩ =>
  bf (ho pins s2 σ H2 x y v u _ I2 r1 r2 q2) fun d s3 ⟨z,H3,I3,r3,k,e,q3⟩=>?_)) hm
 subst e
 cases r3
 refine yn ?_
 cases k with
 | false=>exact ite_ff ⟨.bl false,H3,I3,rfl,q3⟩
 | true=>exact ite_tt (chain_last (bf (hc pins s3 σ H3 _ I3 q3) fun w' s4 ⟨z',H4,I4,r4,q4⟩=>xy pins s4 σ H4 y z' u w' Q I4 r2 r4 q4))
theorem EC {op Cd:CmpOp}{r r':R2} (ho:gQ X (compareOp op) r) (xy:gQ X (compareOp Cd) r') (ha:PE X a ta) (hb:PE X b tb) (hc:PE X c tc)
  (hm:lastMarks [op,Cd] [b,c]=false:=by with_unfolding_all rfl):PT X (.Compare a [op,Cd] [b,c] pos) (EA (xE r r' ta tb tc)):=by
 intro pins s σ H Q I h
 refine isTrue_chain (bf (ha pins s σ H _ I h) fun v s1 ⟨x,H1,I1,r1,q1⟩=>test_link (bf (hb pins s1 σ H1 _ I1 q1) fun u s2 ⟨y,H2,I2,r2,q2⟩ =>
  bf (ho pins s2 σ H2 x y v u _ I2 r1 r2 q2) fun d s3 ⟨z,H3,I3,r3,k,e,q3⟩=>?_)) hm
 subst e
 cases r3
 refine yn ?_
 cases k with
 | false =>
  obtain⟨k',e',q'⟩:=q3
  cases e'
  exact ite_ff ⟨H3,I3,q'⟩
 | true =>
  refine ite_tt (test_last (bf (hc pins s3 σ H3 _ I3 q3) fun w' s4 ⟨z',H4,I4,r4,q4⟩=>bf (xy pins s4 σ H4 y z' u w' _ I4 r2 r4 q4) fun d' s5 ⟨z2,H5,I5,r5,k2,e2,q5⟩=>?_))
  subst e2
  cases r5
  exact yn ⟨H5,I5,q5⟩
theorem pF:(sizeLine:Nat)<2 ^ 63:=by rw[zR];decide
theorem xF:gQ X (binaryOp .Add) (fun x y H Q=>∃ i j,x=.str i∧y=.str j∧i.length+j.length≤sizeLine∧Q (.str (i++j)) H):=by
 intro pins s σ H x y v u Q I rx ry h
 obtain⟨i,j,rfl,rfl,hz,q⟩:=h
 obtain⟨t,rfl⟩:=rx
 obtain⟨t',rfl⟩:=ry
 exact add_str (fun t' tk=>⟨.str (i++j),H,I.tok _,⟨_,rfl⟩,q⟩) hz
theorem vals1 (r:Vals [x] us):∃ u,us=[u]∧RelV x u:=by
 cases r with
 | cons r1 r2=>cases r2;exact⟨_,rfl,r1⟩
theorem vals2 (r:Vals [x,y] us):∃ u w',us=[u,w']∧RelV x u∧RelV y w':=by
 cases r with
 | cons r1 r2 =>
  cases r2 with
  | cons r3 r4=>cases r4;exact⟨_,_,rfl,r1,r3⟩
theorem Cf (hc:X.calm=true):fH X (.builtin "min") (fun xs H Q=>∃ i j,xs=[.int i,.int j]∧Q (.int (if j<i then j else i)) H):=by
 intro pins s σ H xs us Q I r h
 obtain⟨i,j,rfl,q⟩:=h
 obtain⟨u,w',rfl,⟨t,rfl⟩,⟨t',rfl⟩⟩:=vals2 r
 refine min_two_ints (I.ok.hd hc) fun h' tk k=>⟨_,H,I.kept k,?_,q⟩
 by_cases hj:j<i
 ·rw[if_pos hj,if_pos hj];exact⟨_,rfl⟩
 ·rw[if_neg hj,if_neg hj];exact⟨_,rfl⟩
theorem sH:fH X (.type "int") (fun xs H Q=>(∃ i,xs=[.int i]∧Q (.int i) H)∨∃ k,xs=[.bl k]∧Q (.int (if k then 1 else 0)) H):=by
 intro pins s σ H xs us Q I r h
 rcases h with ⟨i,rfl,q⟩ | ⟨k,rfl,q⟩
 ·obtain⟨u,rfl,t,rfl⟩:=vals1 r
  exact call_int_int ⟨.int i,H,I,⟨_,rfl⟩,q⟩
 ·obtain⟨u,rfl,r1⟩:=vals1 r
  cases r1
  exact call_int_bool ⟨.int (if k then 1 else 0),H,I.tok _,⟨_,rfl⟩,q⟩
def Uh (K:PySem.W.Frag) (x:V) (H:Hp) (n:Nat):Prop :=
 match x with
 | .str y=>y.length≤sizeLine∧n=y.length
 | .A1 y=>y.size≤sizeLine∧n=y.size
 | .ref p=>(∃ xs,gL K H p xs∧n=xs.length)∨∃ xs,iU K H p xs∧n=xs.length
 | _=>False
theorem i3:fH X (.builtin "len") (fun xs H Q=>∃ x n,xs=[x]∧Uh X.K x H n∧Q (.int n) H):=by
 intro pins s σ H xs us Q I r h
 obtain⟨x,n,rfl,e,q⟩:=h
 obtain⟨u,rfl,rx⟩:=vals1 r
 have hl:=pF
 have hs:sizeLine=16777216:=zR
 cases x with
 | str y =>
  obtain⟨t,rfl⟩:=rx
  obtain⟨hy,e'⟩:y.length≤sizeLine∧n=y.length:=e
  subst e'
  exact len_str (by omega) ⟨.int _,H,I.tok _,⟨_,rfl⟩,q⟩
 | A1 y =>
  obtain⟨t,rfl⟩:=rx
  obtain⟨hy,e'⟩:y.size≤sizeLine∧n=y.size:=e
  subst e'
  exact PySem.W.len_bytes (by omega) ⟨.int _,H,I.tok _,⟨_,rfl⟩,q⟩
 | ref p =>
  cases rx
  have e':(∃ xs,gL X.K H p xs∧n=xs.length)∨∃ xs,iU X.K H p xs∧n=xs.length:=e
  rcases e' with ⟨xs,hx,e'⟩ | ⟨xs,hx,e'⟩
  ·subst e'
   obtain⟨ay,r',pl,hz⟩:=I.list hx
   have hlen:=r'.length
   exact Calls.call_len_list pl.isList (by simp only [zk];omega) ⟨.int xs.length,H,I.tok _,⟨_,by simp only [zk];rw[hlen]⟩,q⟩
  ·subst e'
   obtain⟨ay,r',pl,hz⟩:=I.tuple hx
   have hlen:=r'.length
   exact len_tuple pl (by simp only [zk];omega) ⟨.int xs.length,H,I.tok _,⟨_,by simp only [zk];rw[hlen]⟩,q⟩
 | _=>exact (show False from e).elim
end
structure xG (h:Heap) (x dx C:Addr) (mA:Str→Option Value):Prop where
 obj:h.get? x=some (instObj C dx)
 ns:h.Ns1 dx mA
 ne:dx≠x
theorem Cg {h:Heap}{dx:Addr}{mA:Str→Option Value} (n:h.Ns1 dx mA):∃ od,h.get? dx=some od∧∀ name,lookIn name od=some (mA name):=by
 obtain⟨o,es,ep,ho,hd,hk,_,hm⟩:=n
 refine⟨o,ho,fun name=>?_⟩
 have e:=hm name
 unfold nsFind findBy at e
 rw[← Array.find?_toList] at e
 unfold lookIn
 rw[hd]
 dsimp only
 split
 ·rename_i y q
  rw[q] at e
  exact congrArg some e
 ·rename_i q
  rw[q] at e
  have a:es.toList.any (·.refKey)=false:=by
   rw[List.any_eq_false]
   intro y hy
   obtain⟨z,t,Mh⟩:=hk y (Array.mem_toList_iff.mp hy)
   simp [DictEntry.refKey,Mh]
  have a':¬ es.toList.any (·.refKey)=true:=by rw[a];exact zd
  rw[if_neg a']
  exact congrArg some e
theorem xG.look (I:xG h x dx C mA):∃ od,PySem.W.InstAt h x (instObj C dx) C (some od)∧∀ name,lookIn name od=some (mA name) :=
 let ⟨od,ho,hl⟩:=Cg I.ns
 ⟨od,⟨I.obj,rfl,rfl,ho⟩,hl⟩
section
variable {prog:Program}{w:World}{A:Around}{E:Value→Shared→Prop}{s:Shared}{K:PySem.W.Frag}{x dx C f:Addr}{mA:Str→Option Value}{name:Str}{v:Value}
theorem get_map (X:K.In s.heap) (I:xG s.heap x dx C mA) (hg:plainGet K C name=true) (hh:hasDictIn K C=true)
  (ha:findIn K (.ref C) name=some none) (hv:mA name=some v) (Sn:handedIn v=true) (h:Q v { s with toks:=s.toks+1 }) :
  wpAny (model prog w) A (getAttr (.ref x) name expr) Q E s:=by
 obtain⟨od,J,hl⟩:=I.look
 exact PySem.W.get_value X J (plainGet_of hg).1 (PySem.W.findObj_own hh ha rfl (by rw[hl,hv])) Sn h
theorem ED (X:K.In s.heap) (I:xG s.heap x dx C mA) (hg:plainGet K C name=true)
  (hf:findIn K (.ref C) name=some (some (.ref f))) (ht:isFn K (.ref f)=true) (hv:mA name=none) (h:Q (.ref f,[.ref x]) s) :
  wpAny (model prog w) A (getMethod (.ref x) name pl) Q E s:=by
 obtain⟨od,J,hl⟩:=I.look
 exact PySem.W.method_fn X J (plainGet_of hg).1 (plainGet_of hg).2 hf (beq_iff_eq.mp ht) (by show (lookIn name od).map (·.isSome)=some false;rw[hl,hv];rfl) h
theorem HZ (X:K.In s.heap) (I:xG s.heap x dx C mA)
  (hs:findIn K (.ref C) "__setattr__" = some (some (.builtin "object.__setattr__"))) (hp:plainOver K C=true) (ht:takerIn K C name=some none) (hh:hasDictIn K C=true)
  (hw:PySem.Within mA ns) (hsz:ns.length≤sizeLine)
  (h:∀ h',xG h' x dx C (fun y=>if y=name then some v else mA y)→Heap.SameBut dx s.heap h'→Q () { s with heap:=h',toks:=s.toks+2 }) :
  wpAny (model prog w) A (setAttr (.ref x) name v) Q E s:=by
 obtain⟨od,J,hl⟩:=I.look
 refine PySem.W.set_plain X J hs (PySem.W.osa_open (s:={ s with toks:=s.toks+1 }) (r:=none) X J hp ht fun b=>?_)
 obtain⟨cd,hc,HK⟩:=PySem.W.any_some hh
 have hx:s.heap.get? x=some ⟨.ref C,some dx,.plain,#[]⟩:=I.obj
 refine za (zf (za (za (wpAny_loadPart hx (za (PySem.W.Looks.here (s:={ s with toks:=s.toks+1 }) (PySem.W.looks_clsIn X hc) ?_))))))
 rw[HK]
 refine zf (a:=some dx) (za (zf (za ?_)))
 refine wpAny_nsSet1 (s:={ s with toks:=s.toks+1 }) I.ns fun h' Mi vz=>?_
 obtain⟨oD,esD,epD,YY,YZ,Y0⟩:=Mi.count (PySem.Within.cons name v hw)
 refine za (wpAny_lookBehind YY (by rw[YZ];exact pastItsLine_dict (zG Y0 (by rw[zK];omega))) ?_)
 exact zf (h _ ⟨(vz.2 _ (Ne.symm I.ne)).trans I.obj,Mi,I.ne⟩ vz)
theorem EF (X:K.In s.heap) (hm:makesIn K C=true)
  (hi:findIn K (.ref C) "__init__" = some (some (.ref f))) (hf:PySem.W.typeIn K (.ref f)=some (.type "function"))
  (h:codeAny (model prog w) (A.under (.builtin "type.__call__" ⟨.ref C :: vs,kw⟩)) (.call (.ref f) ⟨.ref (s.heap.objs.size+1) :: vs,kw⟩) (PySem.W.InitBack (s.heap.objs.size+1) R)
   { s with heap:=(s.heap.push emptyDict).push (instObj C s.heap.objs.size) }) :
  codeAny (model prog w) A (.call (.ref C) ⟨vs,kw⟩) R s:=by
 obtain⟨hh,g,d,t,os⟩:=s
 exact PySem.W.make_core (PySem.W.makes_of X hm) (PySem.W.looks_findIn X hi) (fun self=>PySem.W.bind_fn X self hf) (.inl rfl) h
end
def putF (f:Str) (v:V):List (Str×V)→List (Str×V)
 | []=>[(f,v)]
 | (g,x) :: r=>if g=f then (g,v) :: r else (g,x) :: putF f v r
theorem nT (f g:Str) (v:V):∀ fs:List (Str×V),(putF f v fs).lookup g=if g=f then some v else fs.lookup g
 | []=>by
  show List.lookup g [(f,v)]=_
  by_cases h:g=f
  ·have hb:(g == f)=true:=beq_iff_eq.mpr h
   simp only [List.lookup,hb,if_pos h]
  ·have hb:(g == f)=false:=beq_eq_false_iff_ne.mpr h
   simp only [List.lookup,hb,if_neg h]
 | (k,x) :: r=>by
  have ih:=nT f g v r
  rw[show putF f v ((k,x) :: r)=(if k=f then (k,v) :: r else (k,x) :: putF f v r) from rfl]
  by_cases hk:k=f
  ·rw[if_pos hk]
   by_cases h:g=k
   ·have hb:(g == k)=true:=beq_iff_eq.mpr h
    simp only [List.lookup,hb,if_pos (h.trans hk)]
   ·have hb:(g == k)=false:=beq_eq_false_iff_ne.mpr h
    simp only [List.lookup,hb,if_neg (fun e:g=f=>h (e.trans hk.symm))]
  ·rw[if_neg hk]
   by_cases h:g=k
   ·have hb:(g == k)=true:=beq_iff_eq.mpr h
    simp only [List.lookup,hb,if_neg (fun e:g=f=>hk (h.symm.trans e))]
   ·have hb:(g == k)=false:=beq_eq_false_iff_ne.mpr h
    simp only [List.lookup,hb]
    exact ih
theorem mG (f:Str) (v:V):∀ fs:List (Str×V),f∈(putF f v fs).map (·.1)∧∀ g,g∈fs.map (·.1)→g∈(putF f v fs).map (·.1)
 | []=>⟨by simp [putF],fun g h=>by simp at h⟩
 | (k,x) :: r=>by
  obtain⟨i1,i2⟩:=mG f v r
  rw[show putF f v ((k,x) :: r)=(if k=f then (k,v) :: r else (k,x) :: putF f v r) from rfl]
  by_cases hk:k=f
  ·rw[if_pos hk]
   subst hk
   exact⟨by simp,fun g h=>by simpa using h⟩
  ·rw[if_neg hk]
   refine⟨?_,fun g h=>?_⟩
   ·rw[zA]
    exact zg _ i1
   ·rw[zA] at h ⊢
    rcases ze.mp h with e | e
    ·exact ze.mpr (.inl e)
    ·exact zg _ (i2 g e)
theorem nU (f:Str) (v:V):∀ fs:List (Str×V),(putF f v fs).length≤fs.length+1
 | []=>by simp [putF]
 | (k,x) :: r=>by
  have ih:=nU f v r
  rw[show putF f v ((k,x) :: r)=(if k=f then (k,v) :: r else (k,x) :: putF f v r) from rfl]
  by_cases hk:k=f
  ·rw[if_pos hk,zK,zK];omega
  ·rw[if_neg hk,zK,zK];omega
theorem fW.some_of (r:fW (some v) o):∃ u,o=some u∧RelV v u:=by
 cases o with
 | none=>exact (show False from r).elim
 | some u=>exact⟨u,rfl,r⟩
theorem fW.none_of (r:fW none o):o=none:=by
 cases o with
 | none=>rfl
 | some u=>exact (show False from r).elim
theorem Ci (r:RelV v u):handedIn u=true:=by
 cases v with
 | aw=>cases (show u=Value.none from r);rfl
 | bl b=>cases (show u=Value.bool b from r);rfl
 | int i=>obtain⟨t,e⟩:=(show ∃ t,u=Value.int i t from r);cases e;rfl
 | str x=>obtain⟨t,e⟩:=(show ∃ t,u=Value.str x t from r);cases e;rfl
 | A1 b=>obtain⟨t,e⟩:=(show ∃ t,u=Value.bytes b t from r);cases e;rfl
 | LD b=>obtain⟨t,e⟩:=(show ∃ t,u=Value.float b t from r);cases e;rfl
 | ref a=>cases (show u=Value.ref a from r);rfl
 | ty n=>cases (show u=Value.type n from r);rfl
section
variable {P:Program}{w:World}{H H':Hp}{h h':Heap}{a C dx:Addr}{fs Ep:List (Str×V)}
theorem ph (aJ:kx P w H h) (e:H a=some (.ins C dx fs)):∃ mA,xG h a dx C mA∧(∀ f,fW (fs.lookup f) (mA f))∧PySem.Within mA (fs.map (·.1))∧fs.length≤1000∧H dx=some (.own a):=by
 obtain⟨d,z,ne,ob,mA,n,r,q⟩:=(show bc P w H h a (.ins C dx fs) from aJ a _ e)
 exact⟨mA,⟨ob,n,ne⟩,r,q,z,d⟩
end
structure sI (K:PySem.W.Frag) (C:Addr):Prop where
 pg:plainGet K C Str.empty=true
 hd:hasDictIn K C=true
 po:plainOver K C=true
 sa:findIn K (.ref C) "__setattr__" = some (some (.builtin "object.__setattr__"))
theorem sI.get {K:PySem.W.Frag}{C:Addr} (c:sI K C) (f:Str):plainGet K C f=true:=c.pg
def i4 (K:PySem.W.Frag) (C:Addr) (f:Str):Prop:=findIn K (.ref C) f=some none
theorem i4.PN {K:PySem.W.Frag}{C:Addr}{f:Str} (n:i4 K C f):takerIn K C f=some none:=by
 unfold takerIn
 rw[show findIn K (.ref C) f=some none from n]
 rfl
structure Con (K:PySem.W.Frag) (C:Addr) (f:Str) (v:V) (u:Value):Prop where
 at_:findIn K (.ref C) f=some (some u)
 rel:RelV v u
 get:specialIn K u "__get__" = some none
 cp:PySem.W.copiedNames.contains f=false
structure Meth (K:PySem.W.Frag) (C:Addr) (m:Str) (f:Addr):Prop where
 at_:findIn K (.ref C) m=some (some (.ref f))
 fn:isFn K (.ref f)=true
 kp:keepIn K (.ref f)=true
section
variable {X:Cx}{pins:List (Addr×Obj)}{σ:St}{H:Hp}{s:Shared}{a C dx:Addr}{fs:List (Str×V)}{f:Str}{v:V}{A:Around}{E:Value→Shared→Prop}
theorem xH (I:Inv X pins σ H s) (e:H a=some (.ins C dx fs)) (c:sI X.K C) (n:i4 X.K C f) (l:fs.lookup f=some v)
  (h:∀ u s',Inv X pins σ H s'→RelV v u→Q u s'):wpAny (model X.prog X.w) A (getAttr (.ref a) f b) Q E s:=by
 obtain⟨mA,O,r,_,_,_⟩:=ph I.aJ e
 obtain⟨u,hu,ru⟩:=fW.some_of (v:=v) (o:=mA f) (by rw[← l];exact r f)
 exact get_map I.nS O (c.get f) c.hd n hu (Ci ru) (h u _ (I.tok _) ru)
theorem pG (I:Inv X pins σ H s) (e:H a=some (.ins C dx fs)) (c:sI X.K C) (k:Meth X.K C m g) (l:fs.lookup m=none)
  (h:Q (.ref g,[.ref a]) s):wpAny (model X.prog X.w) A (getMethod (.ref a) m pl) Q E s:=by
 obtain⟨mA,O,r,_,_,_⟩:=ph I.aJ e
 have hn:mA m=none:=fW.none_of (by rw[← l];exact r m)
 exact ED I.nS O (c.get m) k.at_ k.fn hn h
theorem xI (I:Inv X pins σ H s) (e:H a=some (.ins C dx fs)) (c:sI X.K C) (n:i4 X.K C f) (hl:fs.length<1000) (ry:RelV y u)
  (h:∀ s',Inv X pins σ (upd H a (.ins C dx (putF f y fs))) s'→Q () s'):wpAny (model X.prog X.w) A (setAttr (.ref a) f u) Q E s:=by
 obtain⟨mA,O,r,wi,_,ho⟩:=ph I.aJ e
 have hz:(fs.map (·.1)).length≤sizeLine:=by rw[zc,zR];omega
 refine HZ I.nS O c.sa c.po n.PN c.hd wi hz fun h' O' sb=>h _ ?_
 have hd:∃ o,h'.get? dx=some o:=by obtain⟨o,_,_,e',_⟩:=O'.ns;exact⟨o,e'⟩
 refine I.write (x:=a) (e:=dx) (by rw[e];exact True.intro) (.inr ho) (fun b q hb z=>(sb.2 b hb).trans z) hd ?_
 refine⟨by rw[av O.ne];exact ho,?_,O.ne,O'.obj,_,O'.ns,fun g=>?_,fun g hg=>?_⟩
 ·have:=nU f y fs;omega
 ·show fW ((putF f y fs).lookup g) (if g=f then some u else mA g)
  rw[nT]
  by_cases q:g=f
  ·rw[if_pos q,if_pos q];exact ry
  ·rw[if_neg q,if_neg q];exact r g
 ·by_cases q:g=f
  ·rw[q];exact (mG f y fs).1
  ·refine (mG f y fs).2 g (wi g fun z=>hg ?_)
   show (if g=f then some u else mA g)=none
   rw[if_neg q];exact z
theorem Inv.made (I:Inv X pins σ H s):Inv X pins σ (upd (upd H s.heap.objs.size (.own (s.heap.objs.size+1))) (s.heap.objs.size+1) (.ins C s.heap.objs.size []))
  { s with heap:=(s.heap.push emptyDict).push (instObj C s.heap.objs.size) }:=by
 have e1:(s.heap.push emptyDict).get? s.heap.objs.size=some emptyDict:=zj s.heap rfl
 have e2:((s.heap.push emptyDict).push (instObj C s.heap.objs.size)).get? (s.heap.objs.size+1)=some (instObj C s.heap.objs.size):=by
  have:=zj (s.heap.push emptyDict) (o:=instObj C s.heap.objs.size) rfl
  rwa [zU] at this
 have e3:(s.heap.push emptyDict).Ns s.heap.objs.size (fun _=>none):=⟨emptyDict,#[],_,e1,rfl,(fun e he=>absurd he (by simp)),fun _=>rfl⟩
 have I1:=I.laid (a:=s.heap.objs.size) (o:=.own (s.heap.objs.size+1)) (h':=s.heap.push emptyDict) (t':=s.toks) (fun b u q=>zb _ q) (zm _) ⟨_,e1⟩
 refine I1.laid (a:=s.heap.objs.size+1) (o:=.ins C s.heap.objs.size []) (t':=s.toks) (fun b u q=>zb _ q) (Nat.le_of_eq (zU _ _)) ?_
 have ne:s.heap.objs.size≠s.heap.objs.size+1:=zr (yB _)
 refine⟨by rw[av ne,aE],yj _,ne,e2,fun _=>none,(Heap.Ns1.of_empty e3).at fun o q=>zb _ q,fun _=>True.intro,fun y hy=>absurd rfl hy⟩
theorem H9 (hb:attributeBase e f env (eval e env)=eval e env)
  (h:wpAny (model prog w) A (eval e env) (fun o aY=>wpAny (model prog w) A (getAttr o f true) Q E aY) E s):wpAny (model prog w) A (eval (.Attribute e f pos) env) Q E s :=
 Attribute_any_ h (by rw[arm_eval_Attribute,hb])
end
def Ui (K:PySem.W.Frag) (ta:TE) (f:Str):TE:=fun σ H Q=>ta σ H fun x H1=>∃ a C dx fs v,x=.ref a∧H1 a=some (.ins C dx fs)∧sI K C∧i4 K C f∧fs.lookup f=some v∧Q v H1
def Uj (K:PySem.W.Frag) (ta tv:TE) (f:Str):TS:=fun D σ H=>tv σ H fun y H1=>ta σ H1 fun x H2=>∃ a C dx fs,x=.ref a∧H2 a=some (.ins C dx fs)∧sI K C∧i4 K C f∧fs.length<1000 ∧
 D.nx σ (upd H2 a (.ins C dx (putF f y fs)))
section
variable {X:Cx}{o e value:Expr}{f:Str}{pos pos' Uk:Pos}{ta tv:TE}
theorem Mj (he:PE X e ta) (hb:attributeBase e f X.env (eval e X.env)=eval e X.env):PE X (.Attribute e f pos) (Ui X.K ta f):=by
 intro pins s σ H Q I h
 refine H9 hb (bf (he pins s σ H _ I h) fun u s1 ⟨x,H1,I1,rx,a,C,dx,fs,v,ex,ea,c,n,l,q⟩=>?_)
 subst ex
 obtain rfl:u=Value.ref a:=rx
 exact xH I1 ea c n l fun u' s2 I2 ru=>⟨v,H1,I2,ru,q⟩
theorem Ml (ha:PE X o ta) (hv:PE X value tv) (hs:swapsWith value (some (.Attribute o f pos')) pos.line X.env=pure false):PS X (.Assign [.Attribute o f pos'] value pos) (Uj X.K ta tv f):=by
 intro pins s σ H D I h
 refine plainObj_wpAny_Assign_Attribute (bf (hv pins s σ H _ I h) fun u s1 ⟨y,H1,I1,ry,q⟩=>bf (ha pins s1 σ H1 _ I1 q) fun ov s2 ⟨x,H2,I2,rx,a,C,dx,fs,ex,ea,c,n,l,q2⟩=>?_) hs
 subst ex
 obtain rfl:ov=Value.ref a:=rx
 exact xI I2 ea c n l ry fun s3 I3=>⟨σ,_,I3,q2⟩
end
section
variable {X:Cx}{pins:List (Addr×Obj)}{σ:St}{H:Hp}{s:Shared}{A:Around}{E:Value→Shared→Prop}{Q:Value→Shared→Prop}{c:Value}{b:Bool}
inductive mH (K:PySem.W.Frag) (H:Hp):V→Value→Prop where
 | aw:mH K H .aw (.type "NoneType")
 | bl (x:Bool):mH K H (.bl x) (.type "bool")
 | int (i:Int):mH K H (.int i) (.type "int")
 | str (x:Str):mH K H (.str x) (.type "str")
 | LD (x:UInt64):mH K H (.LD x) (.type "float")
 | lst {a:Addr}{xs:List V} (e:H a=some (.lst xs)):mH K H (.ref a) (.type "list")
 | ku {a:Addr}{o:Obj}{xs:List V} (e:H a=some (.ku o (.lst xs))):mH K H (.ref a) (.type "list")
 | tup {a:Addr}{xs:List V} (e:H a=some (.tup xs)):mH K H (.ref a) (.type "tuple")
 | dK {a:Addr}{kvs:List (Key×V)} (e:H a=some (.dK kvs)):mH K H (.ref a) (.type "dict")
 | dT {a:Addr}{kvs:List (List Key×V)} (e:H a=some (.dT kvs)):mH K H (.ref a) (.type "dict")
 | ins {a C dx:Addr}{fs:List (Str×V)} (e:H a=some (.ins C dx fs)) (cl:sI K C) (ha:findIn K (.ref C) "__class__" = some (some (.builtin "object.__class__")))
   (hn:specialIn K (.builtin "object.__class__") "__get__" = some (some (.builtin "getset_descriptor.__get__"))) (Xq:PySem.W.takesIn K (.builtin "object.__class__")=some true)
   (hm:mroIn K C (.type "object")=some true):mH K H (.ref a) (.ref C)
theorem Cj (I:Inv X pins σ H s) (rx:RelV x u) (ty:mH X.K H x t) (e:kitOne X.K t c=some b) (h:∀ tk,Q (.bool b) { s with toks:=tk }) :
  wpAny (model X.prog X.w) A (call (.builtin "isinstance") [u,c]) Q E s:=by
 cases ty with
 | aw=>cases (show u=Value.none from rx);exact kia_one PySem.W.kitx_none I.nS True.intro e (fun z=>nomatch z) h
 | bl y=>cases (show u=Value.bool y from rx);exact kia_one PySem.W.kitx_bool I.nS True.intro e (fun z=>nomatch z) h
 | int i=>obtain⟨t,q⟩:=(show ∃ t,u=Value.int i t from rx);cases q;exact kia_one PySem.W.kitx_int I.nS True.intro e (fun z=>nomatch z) h
 | str y=>obtain⟨t,q⟩:=(show ∃ t,u=Value.str y t from rx);cases q;exact kia_one PySem.W.kitx_str I.nS True.intro e (fun z=>nomatch z) h
 | LD y=>obtain⟨t,q⟩:=(show ∃ t,u=Value.float y t from rx);cases q;exact kia_one PySem.W.kitx_float I.nS True.intro e (fun z=>nomatch z) h
 | @lst a xs ea =>
  cases (show u=Value.ref a from rx)
  obtain⟨_,_,n,_,h1⟩:=(show bc X.prog X.w H s.heap a (.lst xs) from I.aJ a _ ea)
  exact kia_one kitx_list I.nS ⟨_,h1,rfl⟩ e (fun z=>nomatch z) h
 | @ku a ob xs ea =>
  cases (show u=Value.ref a from rx)
  obtain⟨_,_,_,n,_,h1⟩:=(show bc X.prog X.w H s.heap a (.ku ob (.lst xs)) from I.aJ a _ ea)
  exact kia_one kitx_list I.nS ⟨_,h1,rfl⟩ e (fun z=>nomatch z) h
 | @tup a xs ea =>
  cases (show u=Value.ref a from rx)
  obtain⟨_,_,_,p⟩:=(show bc X.prog X.w H s.heap a (.tup xs) from I.aJ a _ ea)
  obtain⟨o,h1,h2,_⟩:=p
  exact kia_one PySem.W.kitx_tuple I.nS ⟨o,h1,h2⟩ e (fun z=>nomatch z) h
 | @dK a kvs ea =>
  cases (show u=Value.ref a from rx)
  obtain⟨_,_,vs,_,p⟩:=(show bc X.prog X.w H s.heap a (.dK kvs) from I.aJ a _ ea)
  obtain⟨o,es,ep,h1,h2,_⟩:=p
  exact kia_one PySem.W.kitx_dict I.nS ⟨o,h1,h2.1⟩ e (fun z=>nomatch z) h
 | @dT a kvs ea=>exact False.elim (show bc X.prog X.w H s.heap a (.dT kvs) from I.aJ a _ ea)
 | @ins a C dx fs ea cl ha hn Xq hm =>
  cases (show u=Value.ref a from rx)
  obtain⟨mA,O,_⟩:=ph I.aJ ea
  obtain⟨od,J,_⟩:=O.look
  exact kia_one (PySem.W.kitx_own (cl.get _) cl.hd ha hn Xq hm) I.nS J e (fun z=>nomatch z) h
end
structure cI (k:Nat) (A:Around):Prop where
 hd:A.handled=none
 dp:A.depth+3 * k+5<recursionLimit
 un:A.units+16 * k+200<cLine
theorem cI.mono (r:cI k A) (h:j≤k):cI j A:=⟨r.hd,by have:=r.dp;omega,by have:=r.un;omega⟩
theorem cI.deeper (r:cI (k+1) A) (env:Env):cI k (A.deeper env) :=
 ⟨r.hd,by have:=r.dp;show A.depth+1+3 * k+5<_;omega,by have:=r.un;show A.units+3+16 * k+200<_;omega⟩
theorem cI.in1 (r:cI (k+1) A):cI k A.in1 :=
 ⟨r.hd,by have:=r.dp;show A.depth+3 * k+5<_;omega,by have:=r.un;show A.units+1+16 * k+200<_;omega⟩
theorem xJ {A:Around}{C:Addr}{us:List Value}{kw:List (Str×Value)} : (A.under (.builtin "type.__call__" ⟨.ref C :: us,kw⟩)).depth=A.depth+1:=by
 first | rfl | simp [Around.under,Code.weight,Code.isCreation,Code.isGuard,Code.isCaller,Code.frames,Code.isFrame,guardIds]
theorem xK {A:Around}{C:Addr}{us:List Value}{kw:List (Str×Value)} : (A.under (.builtin "type.__call__" ⟨.ref C :: us,kw⟩)).units=A.units+1:=by
 first | rfl | simp [Around.under,Code.cUnits,Code.frames,Code.isFrame]
theorem cI.make (r:cI (k+1) A) (C:Addr) (us:List Value) (kw:List (Str×Value)):cI k (A.under (.builtin "type.__call__" ⟨.ref C :: us,kw⟩)) :=
 ⟨r.hd,by have:=r.dp;rw[xJ];omega,by have:=r.un;rw[xK];omega⟩
theorem cI.depth (r:cI k A):A.depth<recursionLimit:=by have:=r.dp;omega
theorem cI.units (r:cI k A):A.units+64<cLine:=by have:=r.un;omega
def Ul:TA:=fun _ H Q=>Q [] H
def Ks (ta:TE) (tr:TA):TA:=fun σ H Q=>ta σ H fun x H1=>tr σ H1 fun xs H2=>Q (x :: xs) H2
section
variable {X:Cx}{e:Expr}{es:List Expr}{te:TE}{t:TA}{pos:Pos}
theorem xM:PA X [] Ul:=fun _ _ _ _ H Q I h=>Calls.spliced_nil ⟨[],H,I,.nil,h⟩
theorem H_ (ha:PE X e te) (hr:PA X es t) (hs:starEach (e :: es) X.env=(false,eval e X.env) :: starEach es X.env:=by rfl):PA X (e :: es) (Ks te t):=by
 intro pos pins s σ H Q I h
 rw[hs]
 show wpAny _ _ (spliced ((false,eval e X.env) :: backTo pos (starEach es X.env))) _ _ s
 refine yw (bf (ha pins s σ H _ I h) fun u s1 ⟨x,H1,I1,r1,q1⟩=>?_)
 exact bf (hr pos pins s1 σ H1 _ I1 q1) fun us s2 ⟨xs,H2,I2,r2,q2⟩=>⟨x :: xs,H2,I2,.cons r1 r2,q2⟩
def Um (t:TA):TE:=fun σ H Q=>t σ H fun xs H1=>xs.length≤sizeLine∧∀ p,H1 p=none→Q (.ref p) (upd H1 p (.tup xs))
def Uo (t:TA):TE:=fun σ H Q=>t σ H fun xs H1=>xs.length≤sizeLine∧∀ p,H1 p=none→Q (.ref p) (upd H1 p (.lst xs))
theorem Mm {x1} (h:PA X es t):PE X (.Tuple es x1 pos) (Um t):=by
 intro pins s σ H Q I hq
 refine wpAny_Tuple_spliced (bf (h pos pins s σ H _ I hq) fun us s1 ⟨xs,H1,I1,r,z,q⟩=>⟨by rw[← r.length];exact z,?_⟩)
 have hf:H1 s1.heap.objs.size=none:=I1.aJ.fresh (zm _)
 refine⟨.ref s1.heap.objs.size,upd H1 s1.heap.objs.size (.tup xs),I1.laid (t':=s1.toks) (fun b u e=>zb _ e) (zm _) ?_,rfl,q _ hf⟩
 exact⟨z,us,r,⟨_,zj _ rfl,rfl,rfl,_,rfl⟩⟩
theorem Mn (h:PA X es t):PE X (.List es pos) (Uo t):=by
 intro pins s σ H Q I hq
 refine wpAny_List_spliced (bf (h pos pins s σ H _ I hq) fun us s1 ⟨xs,H1,I1,r,z,q⟩=>⟨by rw[← r.length];exact z,?_⟩)
 have hf:H1 s1.heap.objs.size=none:=I1.aJ.fresh (zm _)
 refine⟨.ref s1.heap.objs.size,upd H1 s1.heap.objs.size (.lst xs),I1.laid (t':=s1.toks) (fun b u e=>zb _ e) (zm _) ?_,rfl,q _ hf⟩
 exact⟨z,us,0,r,zj _ rfl⟩
end
abbrev Sp:=List V→Hp→VK→XK→Prop
abbrev xN:=List Env→Hp→Shared→XK→Value→Shared→Prop
structure vA (P:Program) (w:World) (K:PySem.W.Frag) (mg:Str→Option Value) (base:Heap) (A:Around) (outer:List Env) (s:Shared) (H:Hp):Prop where
 frames:A.frames=some outer
 mod:Mod K mg base
 bs:∀ b o,base.get? b=some o→s.heap.get? b=some o∧H b=none
 HJ:base.objs.size≤s.heap.objs.size
 ox:s.heap.FunFrames base outer
 LH:∀ b∈ow outer,H b=none
 aJ:kx P w H s.heap
 bare:AllBare s.gens
def CE (outer:List Env) (P:Program) (w:World) (H:Hp) (s:Shared) (Q:VK) (u:Value) (s':Shared):Prop :=
 ∃ v H',s'.os=s.os∧AllBare s'.gens∧Un (ow outer) [] H H' s.heap s'.heap∧kx P w H' s'.heap∧RelV v u∧Q v H'
def CR (CX:xN) (outer:List Env) (P:Program) (w:World) (H:Hp) (s:Shared) (Q:VK) (E:XK) (r:Result) (s':Shared):Prop :=
 match r with
 | .ok (.ret u)=>CE outer P w H s Q u s'
 | .ok _=>False
 | .error e=>CX outer H s E e s'
structure ck (P:Program) (w:World) (K:PySem.W.Frag) (mg:Str→Option Value) (base:Heap) (CX:xN) (k:Nat) (f:Addr) (fd:FuncData) (ps:List Str) (sp:Sp):Prop where
 len:∀ vs H Q E,sp vs H Q E→vs.length=ps.length
 run:∀ (A:Around) (outer:List Env) (s:Shared) (H:Hp) (args:Args) (us:List Value) (vs:List V) (Q:VK) (E:XK),cI k A→vA P w K mg base A outer s H→BindsTo s fd args (ps.zip us)→Vals vs us→sp vs H Q E →
  codeAny (model P w) A (.call (.ref f) args) (CR CX outer P w H s Q E) s
theorem ck.mono {P:Program}{w:World}{K:PySem.W.Frag}{mg:Str→Option Value}{base:Heap}{CX:xN}{j k:Nat}{f:Addr}{fd:FuncData}{ps:List Str}{sp:Sp} (F:ck P w K mg base CX j f fd ps sp) (h:j≤k) :
  ck P w K mg base CX k f fd ps sp:=⟨F.len,fun A outer s H args us vs Q E hr=>F.run A outer s H args us vs Q E (hr.mono h)⟩
theorem ck.imp {P:Program}{w:World}{K:PySem.W.Frag}{mg:Str→Option Value}{base:Heap}{CX:xN}{k:Nat}{f:Addr}{fd:FuncData}{ps:List Str}{sp So:Sp} (F:ck P w K mg base CX k f fd ps sp)
  (h:∀ vs H Q E,So vs H Q E→sp vs H Q E):ck P w K mg base CX k f fd ps So :=
 ⟨fun vs H Q E q=>F.len vs H Q E (h _ _ _ _ q),fun A outer s H args us vs Q E hr he hb hv hs=>F.run A outer s H args us vs Q E hr he hb hv (h _ _ _ _ hs)⟩
theorem vA.make {P:Program}{w:World}{K:PySem.W.Frag}{mg:Str→Option Value}{base:Heap}{A:Around}{outer:List Env}{s:Shared}{H:Hp} (e:vA P w K mg base A outer s H) (C:Addr) (us:List Value) (kw:List (Str×Value)) :
  vA P w K mg base (A.under (.builtin "type.__call__" ⟨.ref C :: us,kw⟩)) outer s H:=⟨by first | exact e.frames | (simpa [Around.under,Code.envs,Code.isFrame,pushEnvs] using e.frames),e.mod,e.bs,e.HJ,e.ox,e.LH,e.aJ,e.bare⟩
section
variable {X:Cx}{pins:List (Addr×Obj)}{σ:St}{H:Hp}{s s':Shared}
theorem Inv.PQ (I:Inv X pins σ H s):vA X.prog X.w X.K X.mg X.base X.A X.stack s H :=
 ⟨I.ok.frames,I.ok.mod,I.bs,zG I.ok.HJ I.sz,I.stack,I.o_,I.aJ,I.bare⟩
theorem Inv.after (I:Inv X pins σ H s) (h:CE X.stack X.prog X.w H s Q u s'):EP X pins σ Q u s':=by
 obtain⟨v,H',os,bare,un,aJ,r,q⟩:=h
 obtain⟨hh,g,d,t,PR⟩:=s'
 obtain rfl:PR=s.os:=os
 exact⟨v,H',I.call (h':=hh) (g':=g) (d':=d) (t':=t) (ch:=[]) un aJ bare (fun b z=>absurd z (by simp)),r,q⟩
end
def Binds (K:PySem.W.Frag) (fd:FuncData) (ps:List Str) (ds:List Value):Prop :=
 ∀ (s:Shared) (us:List Value),K.In s.heap→(us++ds).length=ps.length→BindsTo s fd ⟨us,[]⟩ (ps.zip (us++ds))
theorem Binds.all {K:PySem.W.Frag}{fd:FuncData}{ps:List Str} (h:∀ us:List Value,us.length=ps.length→bindArgs fd ⟨us,[]⟩=pure (ps.zip us)):Binds K fd ps []:=fun s us _ hl=>by
 rw[List.append_nil] at hl ⊢
 exact .of_eq (h us hl)
def Passes (CX:xN) (X:Cx) (E:XK):Prop:=∀ (pins:List (Addr×Obj)) (σ:St) (H:Hp) (s:Shared) (e:Value) (s':Shared),Inv X pins σ H s→CX X.stack H s E e s'→X.xe e s'
section
variable {X:Cx}{CX:xN}{k:Nat}{f C:Addr}{fd:FuncData}{ps:List Str}{sp:Sp}{oA:List V}{ds:List Value}{E:XK}{x m:Str}{p pos apos:Pos}{e o:Expr}{es:List Expr}{ta:TE}{t:TA}
structure Mk (K:PySem.W.Frag) (C f:Addr):Prop where
 makes:makesIn K C=true
 init:findIn K (.ref C) "__init__" = some (some (.ref f))
 fn:isFn K (.ref f)=true
 kp:keepIn K (.ref C)=true
end
section
variable {X:Cx}{CX:xN}{k:Nat}{f C:Addr}{fd:FuncData}{ps ks:List Str}{sp:Sp}{E:XK}{x m:Str}{p pos apos Y1:Pos}{e o:Expr}{es:List Expr}{kws:List Keyword}{te ta:TE}{t tk:TA}{nm:Option Str}
structure Up (K:PySem.W.Frag) (fd:FuncData) (ps ks:List Str) (g:List Value→List Value→List Value) (gV:List V→List V→List V):Prop where
 to:∀ (s:Shared) (us ws:List Value),K.In s.heap→(g us ws).length=ps.length→BindsTo s fd ⟨us,ks.zip ws⟩ (ps.zip (g us ws))
 rel:∀ {vs:List V}{us:List Value}{zs:List V}{ws:List Value},Vals vs us→Vals zs ws→Vals (gV vs zs) (g us ws)
variable {g:List Value→List Value→List Value}{gV:List V→List V→List V}
end
structure ai (N P:List Str) (sc:Scope):Prop where
 kind:sc.kind=.function
 co:sc.isCoroutine=false
 gen:sc.isGenerator=false
 nd:N.Nodup
 pre:N.take P.length=P
 par:∀ x∈P,sc.names.lookup x=some .local∨sc.names.lookup x=some .cell
 Mp:∀ y∈sc.names,y.2≠.free
theorem sJ {kindOf:Str→Option NameKind}{x:Str} : ∀ {binds:List (Str×Value)}{m:Str→Option Value},(∀ v,(x,v)∉binds)→bindL kindOf binds m x=m x
 | [],_,_=>rfl
 | (n,v) :: r,m,h=>by
  unfold bindL
  rw[sJ fun w hw=>h w (zg _ hw)]
  split
  ·have:x≠n:=by rintro rfl;exact h v zu
   simp [this]
  ·rfl
theorem sL {kindOf:Str→Option NameKind}{x:Str} : ∀ {binds:List (Str×Value)}{m:Str→Option Value},(∀ v,(x,v)∉binds)→bindC kindOf binds m x=m x
 | [],_,_=>rfl
 | (n,v) :: r,m,h=>by
  unfold bindC
  rw[sL fun w hw=>h w (zg _ hw)]
  split
  ·rfl
  ·have:x≠n:=by rintro rfl;exact h v zu
   simp [this]
theorem sM {kindOf:Str→Option NameKind}{x:Str}{v:Value} : ∀ {P:List Str}{vs:List Value}{i:Nat}{m:Str→Option Value},P.Nodup→P[i]?=some x→vs[i]?=some v→kindOf x=some .local →
  bindL kindOf (P.zip vs) m x=some v
 | [],_,_,_,_,h,_,_=>by simp at h
 | _ :: _,[],_,_,_,_,h,_=>by simp at h
 | p :: P,w :: vs,0,m,nd,h1,h2,hk=>by
  simp at h1 h2;subst h1;subst h2
  show bindL kindOf ((p,w) :: P.zip vs) m p=_
  unfold bindL
  rw[sJ fun v hv=>(zX.mp nd).1 (List.of_mem_zip hv).1,if_pos hk]
  simp
 | p :: P,w :: vs,i+1,m,nd,h1,h2,hk=>by
  show bindL kindOf ((p,w) :: P.zip vs) m x=_
  unfold bindL
  exact sM (i:=i) (zX.mp nd).2 (by simpa using h1) (by simpa using h2) hk
theorem sN {kindOf:Str→Option NameKind}{x:Str}{v:Value} : ∀ {P:List Str}{vs:List Value}{i:Nat}{m:Str→Option Value},P.Nodup→P[i]?=some x→vs[i]?=some v→kindOf x≠some .local →
  bindC kindOf (P.zip vs) m x=some v
 | [],_,_,_,_,h,_,_=>by simp at h
 | _ :: _,[],_,_,_,_,h,_=>by simp at h
 | p :: P,w :: vs,0,m,nd,h1,h2,hk=>by
  simp at h1 h2;subst h1;subst h2
  show bindC kindOf ((p,w) :: P.zip vs) m p=_
  unfold bindC
  rw[sL fun v hv=>(zX.mp nd).1 (List.of_mem_zip hv).1,if_neg hk]
  simp
 | p :: P,w :: vs,i+1,m,nd,h1,h2,hk=>by
  show bindC kindOf ((p,w) :: P.zip vs) m x=_
  unfold bindC
  exact sN (i:=i) (zX.mp nd).2 (by simpa using h1) (by simpa using h2) hk
def start (N:List Str) (vs:List V):St:=vs.map some++List.replicate (N.length - vs.length) none
def kC (CX:xN) (P:Program) (w:World) (K:PySem.W.Frag) (mg:Str→Option Value) (base:Heap) (N:List Str) (qual:Str) (scope:Scope) (f:Addr) (cd:Value) (A:Around) (outer:List Env) (s:Shared) (H:Hp) (E:XK):Cx where
 prog:=P
 w:=w
 K:=K
 mg:=mg
 base:=base
 A:=A.deeper (envOfC qual scope s.heap.objs.size f cd)
 N:=N
 dr:=s
 tP:=H
 env:=envOfC qual scope s.heap.objs.size f cd
 outer:=outer
 stack:=envOfC qual scope s.heap.objs.size f cd :: outer
 ex:=[]
 calm:=true
 fn:=fun _=>true
 pn:=[]
 xe:=fun e s'=>wpAny (model P w) (A.deeper (envOfC qual scope s.heap.objs.size f cd)) (leaving (envOfC qual scope s.heap.objs.size f cd) e) (fun _ xO=>CX outer H s E e xO) (fun e' xO=>CX outer H s E e' xO) s'
theorem vB {sc:Scope}{n:Nat}{x:Str} (h:sc.names.lookup x=some .cell):∃ c,(cellsFrom n sc.names []).lookup x=some c:=by
 have q:=PySem.W.cellsFrom_some sc.names n [] (.inl h)
 exact Option.isSome_iff_exists.mp q
theorem Ck {CX:xN}{P:Program}{w:World}{K:PySem.W.Frag}{mg:Str→Option Value}{base:Heap}{N ps:List Str}{qual:Str}{scope:Scope}{f:Addr}{cd:Value}{A:Around}{outer:List Env}{s s1:Shared}{H:Hp}{E:XK}{us:List Value}{vs:List V}
  (S:ai N ps scope) (hd:A.handled=none) (e0:vA P w K mg base A outer s H) (hl:vs.length=ps.length) (r:Vals vs us)
  (x:InCallC s s.heap.objs.size (bindL (envOfC qual scope s.heap.objs.size f cd).kindOf (ps.zip us) fun _=>none) (cellsFrom (s.heap.objs.size+1) scope.names []) (bindC (envOfC qual scope s.heap.objs.size f cd).kindOf (ps.zip us) fun _=>none) s1) :
  Inv (kC CX P w K mg base N qual scope f cd A outer s H E) [] (start N vs) H s1:=by
 have gM:ps.length≤N.length:=by have:=congrArg List.length S.pre;rw[yd] at this;omega
 obtain⟨h1,tk,rfl,hk⟩:=x.done
 have Ia:∀ b:Addr,b∉(kC CX P w K mg base N qual scope f cd A outer s H E).ex:=fun b z=>absurd (show b∈([]:List Addr) from z) (by simp)
 refine⟨⟨e0.mod,S.kind,rfl,rfl,zm _,fun y z c h1 h2=>?_,fun y hy=>?_,fun y c _ h=>?_,fun _=>hd,Around.frames_deeper e0.frames,.inr ⟨rfl,rfl⟩,fun b z=>absurd z (Ia b),e0.bs,e0.HJ,fun b _ _=>Ia b,fun b z=>absurd z (Ia b),e0.ox,e0.LH⟩,
  rfl,e0.bare,Un.kept hk,⟨_,x.toInCall.ns,fun i y v h1 h2 h3=>?_⟩,fun y c h=>⟨_,x.cell y c h⟩,e0.aJ.fresh (zm _),fun y c h=>?_,fun p hp=>absurd (show p∈([]:List (Addr×Obj)) from hp) (by simp),e0.aJ.kept hk,?_⟩
 ·exact name_of_addr x.apart (ya h1) (ya h2)
 ·have hy:scope.names.lookup y=some .cell∨scope.names.lookup y=some .free:=hy
  rcases hy with hy | hy
  ·exact vB hy
  ·exact absurd rfl (S.Mp _ (ya hy))
 ·exact yE (x.above y c (ya h))
 ·have hi:i<vs.length:=by
   unfold start at h2
   by_cases hi:i<vs.length
   ·exact hi
   ·rw[List.getElem?_append_right (by simpa using hi)] at h2
    rw[List.getElem?_replicate] at h2
    split at h2 <;> cases h2
  have ha:vs[i]?=some v:=by
   unfold start at h2
   rw[List.getElem?_append_left (by simpa using hi),zx] at h2
   cases e:vs[i]? with
   | none=>rw[e] at h2;cases h2
   | some a=>rw[e] at h2;cases h2;rfl
  obtain⟨u,hu,rv⟩:=r.get ha
  have hp:ps[i]?=some y:=by
   rw[← S.pre,List.getElem?_take_of_lt (by omega)];exact h1
  have Xr:ps.Nodup:=by rw[← S.pre];exact S.nd.sublist (List.take_sublist _ _)
  refine⟨u,rv,?_⟩
  rcases S.par y (zM hp) with k | k
  ·exact .inl ⟨k,sM Xr hp hu k⟩
  ·obtain⟨c,e⟩:=vB (n:=s.heap.objs.size+1) k
   refine .inr ⟨.inl k,c,e,?_⟩
   have q:=x.cell y c e
   rw[sN Xr hp hu (by show scope.names.lookup y≠_;rw[k];decide)] at q
   exact q
 ·exact e0.aJ.fresh (yE (x.above y c (ya h)))
 ·unfold start
  show _=N.length
  rw[zC,zc,List.length_replicate]
  omega
theorem Kt {CX:xN}{P:Program}{w:World}{K:PySem.W.Frag}{mg:Str→Option Value}{base:Heap}{k:Nat}{f:Addr}{name qual:Str}{params:Arguments}{body:List Stmt}{scope:Scope}{dV kV doc pm bq ct oc:Value}{an od:Option Addr}
  {Mq:Array (Option Value)}{N ps:List Str}{sp:Sp} (lk:K.lookup f=some ⟨oc,od,.func (fnOf name qual params body scope dV kV doc pm an bq ct),Mq⟩) (q9:codeIn K bq qual=true) (S:ai N ps scope)
  (len:∀ vs H Q E,sp vs H Q E→vs.length=ps.length)
  (pH:∀ (A:Around) (outer:List Env) (s:Shared) (H:Hp) (vs:List V) (Q:VK) (E:XK),cI k (A.deeper (envOfC qual scope s.heap.objs.size f bq))→sp vs H Q E →
   ∃ t,A2 (kC CX P w K mg base N qual scope f bq A outer s H E) body t∧t { nx:=fun _ H'=>Q .aw H',rt:=Q } (start N vs) H) :
  ck P w K mg base CX (k+1) f (fnOf name qual params body scope dV kV doc pm an bq ct) ps sp:=by
 refine⟨len,fun A outer s H args us vs Q E hr e0 hb r Ox=>?_⟩
 have hl:=len _ _ _ _ Ox
 have KX:K.In s.heap:=e0.mod.Ou.keeps fun b o e=>(e0.bs b o e).1
 have lim:s.heap.NoLimit:=e0.mod.nolimit.keeps fun b o e=>(e0.bs b o e).1
 have PU:∀ y∈ps.zip us,scope.names.lookup y.1=some .local∨(scope.names.lookup y.1=some .cell∧((cellsFrom (s.heap.objs.size+1) scope.names []).lookup y.1).isSome=true):=by
  rintro⟨n,v⟩ hy
  rcases S.par n (List.of_mem_zip hy).1 with q | q
  ·exact .inl q
  ·exact .inr ⟨q,PySem.W.cellsFrom_some _ _ _ (.inl q)⟩
 refine codeAny_call_function hr.depth (KX _ _ lk) rfl S.co S.gen rfl (PySem.W.codeRec_of KX q9) (hb _ _ _ _ ?_)
 refine wpAny_newFunctionEnv_cells S.kind PU fun env he s1 x=>?_
 subst he
 refine⟨lim.keeps x.toInCall.keep,codeAny_func ?_⟩
 obtain⟨t,ht,hq⟩:=pH A outer s H vs Q E (hr.deeper _) Ox
 have I:Inv (kC CX P w K mg base N qual scope f bq A outer s H E) [] (start N vs) H s1:=Ck S hr.hd e0 hl r x
 refine yz (ht [] s1 (start N vs) H _ I hq) (fun fl s' hs=>?_) fun e s' hs=>hs
 have fin:∀ {aK:St}{H':Hp}{v:V}{u:Value},Inv (kC CX P w K mg base N qual scope f bq A outer s H E) [] aK H' s'→RelV v u→Q v H'→CE outer P w H s Q u s' :=
  fun {aK H' v u} J rv q=>⟨v,H',J.os,J.bare,J.base,J.aJ,rv,q⟩
 cases fl with
 | ret u =>
  obtain⟨v,aK,H',J,rv,q⟩:=hs
  exact fin J rv q
 | next =>
  obtain⟨aK,H',J,q⟩:=hs
  exact fin (v:=V.aw) (u:=Value.none) J rfl q
 | brk =>
  obtain⟨_,_,_,q⟩:=hs
  exact False.elim q
 | cont =>
  obtain⟨_,_,_,q⟩:=hs
  exact False.elim q
section
variable {X:Cx}{x:Str}{p pos:Pos}{e:Expr}{es:List Expr}{t:TA}{id T:String}{r:List V→Hp→VK→Prop}
def Uq (r:List V→Hp→VK→Prop) (t:TA):TE:=fun σ H Q=>t σ H fun vs H1=>r vs H1 Q
theorem vE (hc:fH X (.builtin id) r) (hg:Gl X x) (hm:X.mg x=none) (hv:bootBuiltins x=some (.builtin id)) (ha:PA X (e :: es) t) (hn:x ≠ "__name__" := by decide) (pI:(x == ("__debug__" : Str))=false:=by decide)
  (he:starEach (e :: es) X.env=(false,eval e X.env) :: starEach es X.env:=by rfl) (gM:(backTo pos (starEach es X.env)).any (·.1)=false:=by rfl):PE X (.Call (.Name x p) (e :: es) [] pos) (Uq r t):=by
 intro pins s σ H Q I h
 refine wpAny_Call_Name_kw (gx I hg hm hv ?_ hn pI)
 exact PyProof.Rows.callWith_builtin1 (bf (ha pos pins s σ H _ I h) <| by rintro us s1 ⟨vs,H1,I1,r1,q1⟩;exact hc pins s1 σ H1 vs us Q I1 r1 q1) he gM
theorem sO (hc:fH X (.type T) r) (hg:Gl X x) (hm:X.mg x=none) (hv:bootBuiltins x=some (.type T)) (ha:PA X (e :: es) t) (hn:x ≠ "__name__" := by decide) (pI:(x == ("__debug__" : Str))=false:=by decide)
  (he:starEach (e :: es) X.env=(false,eval e X.env) :: starEach es X.env:=by rfl) (gM:(backTo pos (starEach es X.env)).any (·.1)=false:=by rfl):PE X (.Call (.Name x p) (e :: es) [] pos) (Uq r t):=by
 intro pins s σ H Q I h
 refine wpAny_Call_Name_kw (gx I hg hm hv ?_ hn pI)
 exact PyProof.Rows.callWith_type1 (bf (ha pos pins s σ H _ I h) <| by rintro us s1 ⟨vs,H1,I1,r1,q1⟩;exact hc pins s1 σ H1 vs us Q I1 r1 q1) he gM
end
end L2
namespace HT
open PySem PyProof.Rows
section
open PySem.SeqAt
open PySem.AutoSeq1 (wpAny_loadPart')
open PySem.MeetsSeq PySem.MeetsSeq2 PySem.MeetsSeq3
end
section
variable {prog:Program}{w:World}{A:Around}{E:Value→Shared→Prop}{s:Shared}
theorem cat_tup (ht:IsTup s.heap t vs.toArray) (hb:IsTup s.heap b ws.toArray) (hv:vs≠[])
  (h1:ws=[]→Q (.ref t) s) (h2:ws≠[]→Q (.ref s.heap.objs.size) { s with heap:=s.heap.push { cls:=.type "tuple",data:=.seq (vs++ws).toArray } })
  (hsz:vs.length+ws.length≤sizeLine):wpAny (model prog w) A (binaryOp .Add (.ref t) (.ref b)) Q E s:=by
 obtain⟨⟨cls,dd,data,sl⟩,ho,hc,n,hd⟩:=id ht
 obtain⟨⟨Ur,Sq,data2,Hz⟩,Ib,Ie,n2,hd2⟩:=id hb
 simp only at hc hd Ie hd2
 subst hc hd Ie hd2
 have e:vs.toArray++ws.toArray=(vs++ws).toArray:=by simp
 by_cases hw:ws=[]
 ·exact concat_meets ⟨_,ho,rfl⟩ ⟨_,Ib,rfl⟩ noFill_tuple_add seq_tuple_add PySem.F.slot_tuple_add PySem.F.entry_tuple_add (PySem.F.args_tuple_add_2 _ _)
   (tuple_addW1 t b vs.toArray ws.toArray n n2 dd Sq sl Hz (by simpa using hv) (by simp [hw])) ⟨ho,Ib,h1 hw⟩
 ·refine concat_meets ⟨_,ho,rfl⟩ ⟨_,Ib,rfl⟩ noFill_tuple_add seq_tuple_add PySem.F.slot_tuple_add PySem.F.entry_tuple_add (PySem.F.args_tuple_add_2 _ _)
   (tuple_addW2 t b vs.toArray ws.toArray n n2 dd Sq sl Hz (by simpa using hv) (by simpa using hw) (by rw[zk,zk];exact hsz)) ⟨ho,Ib,?_⟩
  rw[e]
  exact h2 hw
def sIx (n d:Nat):Option Int→Nat
 | none=>d
 | some v=>if v<0 then (v+(n:Int)).toNat else min v.toNat n
theorem sIx_le (n d:Nat) (hd:d≤n) (o:Option Int):sIx n d o≤n:=by
 cases o with
 | none=>exact hd
 | some v =>
  show (if v<0 then (v+(n:Int)).toNat else min v.toNat n)≤n
  by_cases hv:v<0
  ·rw[if_pos hv];omega
  ·rw[if_neg hv];exact Nat.min_le_right _ _
theorem clip_eq (v:Int) (n d:Nat):(if v<0 then max (v+(n:Int)) 0 else min v (n:Int))=((sIx n d (some v):Nat):Int):=by
 show (if v<0 then max (v+(n:Int)) 0 else min v (n:Int))=(((if v<0 then (v+(n:Int)).toNat else min v.toNat n):Nat):Int)
 by_cases hv:v<0
 ·simp only [if_pos hv];omega
 ·simp only [if_neg hv];omega
theorem adjust_gen (lo hi:Option Int) (n:Nat):Builtin.Slice.sliceAdjust lo hi 1 (n:Int)=(((sIx n 0 lo:Nat):Int),((sIx n n hi:Nat):Int)):=by
 have h1:¬ ((1:Int)<0):=by omega
 unfold Builtin.Slice.sliceAdjust
 simp only [h1,if_false]
 refine Prod.ext ?_ ?_
 ·cases lo with
  | none=>rfl
  | some v=>exact clip_eq v n 0
 ·cases hi with
  | none=>rfl
  | some v=>exact clip_eq v n n
theorem places_gen (i j:Nat):Builtin.Slice.slicePlaces (i:Int) (j:Int) 1=j - i:=by
 unfold Builtin.Slice.slicePlaces
 have h1:(1:Int)>0:=by omega
 simp only [h1,if_true,Int.ediv_one]
 split <;> omega
theorem slicePart_ (p:IsPart v o) (h:Q o s):wpAny (model prog w) A (Builtin.Slice.slicePartIndex v) Q E s:=by
 cases p with
 | none=>exact slicePart_none h
 | int i t=>exact slicePart_int h
theorem sliceApplied_gen {sl:Addr}{vl vu:Value}{lo hi:Option Int}{n:Nat}{Q:Int×Int×Nat→Shared→Prop} (hs:s.heap.IsSliceOf sl vl vu .none) (pl:IsPart vl lo) (pu:IsPart vu hi)
  (h:Q (((sIx n 0 lo:Nat):Int),1,sIx n n hi - sIx n 0 lo) s):wpAny (model prog w) A (Builtin.Slice.sliceApplied (.ref sl) (pure (n:Int))) Q E s:=by
 obtain⟨os,PV,Xs,Mr⟩:=id hs
 unfold Builtin.Slice.sliceApplied Builtin.Slice.sliceFields
 refine za (za (zJ PV Mr (x:=vl) rfl (za (zJ PV Mr (x:=vu) rfl (za (zJ PV Mr (x:=.none) rfl (zf ?_)))))))
 refine za (slicePart_none ?_)
 show wpAny _ _ (if ((1:Int) == 0)=true then _ else _) _ _ s
 rw[if_neg (by decide)]
 refine za (slicePart_ pl (za (slicePart_ pu (za (zf ?_)))))
 show wpAny _ _ (match Builtin.Slice.sliceAdjust lo hi 1 (n:Int) with | (lo,hi)=>pure (lo,(1:Int),Builtin.Slice.slicePlaces lo hi 1)) _ _ s
 rw[adjust_gen lo hi n]
 show wpAny _ _ (pure (((sIx n 0 lo:Nat):Int),(1:Int),Builtin.Slice.slicePlaces ((sIx n 0 lo:Nat):Int) ((sIx n n hi:Nat):Int) 1)) _ _ s
 rw[places_gen]
 exact zf h
theorem pick_gen (xs:Array Value) (i k:Nat):((List.range k).filterMap fun (m:Nat)=>xs[((i:Int)+(m:Int) * 1).toNat]?).toArray=((xs.toList.drop i).take k).toArray:=by
 have e:(fun (m:Nat)=>xs[((i:Int)+(m:Int) * 1).toNat]?)=fun m=>xs[i+m]?:=by
  funext m
  have:((i:Int)+(m:Int) * 1).toNat=i+m:=by omega
  rw[this]
 rw[e]
 have:=pick_run xs i k
 rw[List.filterMap_map] at this
 have e2:((fun x=>xs[x]?) ∘ fun x=>i+x)=fun m=>xs[i+m]?:=rfl
 rw[e2] at this
 rw[this]
theorem getItem_tuple_cut {t sl:Addr}{items:Array Value}{vl vu:Value}{lo hi:Option Int}{Q:Value→Shared→Prop} (ht:IsTup s.heap t items) (hs:s.heap.IsSliceOf sl vl vu .none) (pl:IsPart vl lo) (pu:IsPart vu hi)
  (hw:¬ (sIx items.size 0 lo=0∧sIx items.size items.size hi=items.size))
  (h:Q (.ref s.heap.objs.size) { s with heap:=s.heap.push { cls:=.type "tuple",data:=.seq ((items.toList.drop (sIx items.size 0 lo)).take (sIx items.size items.size hi - sIx items.size 0 lo)).toArray } })
  (hsz:items.size≤sizeLine):wpAny (model prog w) A (getItem (.ref t) (.ref sl)) Q E s:=by
 have A_:sizeOk (.seq ((items.toList.drop (sIx items.size 0 lo)).take (sIx items.size items.size hi - sIx items.size 0 lo)).toArray):=by
  show ((items.toList.drop (sIx items.size 0 lo)).take (sIx items.size items.size hi - sIx items.size 0 lo)).toArray.size≤sizeLine
  rw[zk,yd,List.length_drop,ye]
  omega
 have hj:sIx items.size items.size hi≤items.size:=sIx_le _ _ (zm _) hi
 obtain⟨os,PV,Xs,Mr⟩:=id hs
 have Y2:s.TypeIs (.ref sl) "slice" := ⟨os,PV,Xs⟩
 unfold getItem
 try with_reducible refine yy ?_
 first | refine za (zf ?_) | skip
 refine za (wpAny_sequenceKey ht.typeIs (by decide) ?_)
 refine za (yb (name:=Str.ofString "__getitem__") ht.typeIs PyProof.Rows.slot_tuple_getitem
  (yk PyProof.Rows.slot_tuple_getitem ht.typeIs entry_tuple_getitem ?_ (args_tuple_getitem _ _)))
 show wpAny _ _ (Builtin.Tuple.tupleItemsOf (.ref t) >>= _) _ _ s
 refine za (tupleItemsOf_ ht ?_)
 refine za (wpAny_typeOf Y2 ?_)
 rw[if_pos (by decide)]
 refine za (sliceApplied_gen hs pl pu ?_)
 have Us:¬ ((((sIx items.size 0 lo:Nat):Int) == 0 && (1:Int) == 1 && (sIx items.size items.size hi - sIx items.size 0 lo) == items.size)=true):=by
  intro q
  rw[zN,zN] at q
  have q1:((sIx items.size 0 lo:Nat):Int)=0:=eq_of_beq q.1.1
  have q2:sIx items.size items.size hi - sIx items.size 0 lo=items.size:=eq_of_beq q.2
  exact hw ⟨by omega,by omega⟩
 show wpAny _ _ (if (((sIx items.size 0 lo:Nat):Int) == 0 && (1:Int) == 1 && (sIx items.size items.size hi - sIx items.size 0 lo) == items.size)=true then _ else _) _ _ s
 rw[if_neg Us,pick_gen]
 first
  | exact za (m:=Builtin.Tuple.tupleExact _) (yf (zf ⟨_,rfl,zf h⟩) A_)
  | exact za (m:=Builtin.Tuple.tupleExact _) (yf (za (zf (zf ⟨_,rfl,zf h⟩))) A_)
  | exact za (za (m:=Builtin.Tuple.tupleExact _) (yf (zf (zf ⟨_,rfl,zf h⟩)) A_))
  | exact za (za (m:=Builtin.Tuple.tupleExact _) (yf (zf ⟨_,rfl,zf h⟩) A_))
end
end HT
namespace L2
open PySem PySem.Spec PyProof.Rows
abbrev TO:=St→Hp→(Option Int→Hp→Prop)→Prop
def PO (X:Cx) (e:Option Expr) (t:TO):Prop :=
 ∀ (pins:List (Addr×Obj)) (s:Shared) (σ:St) (H:Hp) (Q:Option Int→Hp→Prop),Inv X pins σ H s→t σ H Q →
  wpAny (model X.prog X.w) X.A (evalPart e X.env) (fun u s'=>∃ o H',Inv X pins σ H' s'∧IsPart u o∧Q o H') X.xe s
def Ig:TO:=fun _ H Q=>Q none H
def PX (t:TE):TO:=fun σ H Q=>t σ H fun x H1=>∃ i,x=.int i∧Q (some i) H1
section
variable {X:Cx}{e:Expr}{te:TE}{lo hi:Option Expr}{tl th:TO}{pos p2:Pos}
theorem Ih:PO X none Ig:=by
 intro pins s σ H Q I h
 rw[evalPart_none]
 exact zf ⟨none,H,I,.none,h⟩
theorem Ii (h:PE X e te):PO X (some e) (PX te):=by
 intro pins s σ H Q I hw
 rw[evalPart_some]
 refine bf (h pins s σ H _ I hw) fun u s1 ⟨x,H1,I1,r1,q1⟩=>?_
 obtain⟨i,rfl,q⟩:=q1
 obtain⟨t,rfl⟩:=r1
 exact⟨some i,H1,I1,.int i t,q⟩
def PY (X:Cx) (r:V→Option Int→Option Int→Hp→VK→Prop):Prop :=
 ∀ (pins:List (Addr×Obj)) (s:Shared) (σ:St) (H:Hp) (x:V) (v vl vu:Value) (lo hi:Option Int) (sl:Addr) (Q:VK),Inv X pins σ H s→RelV x v→s.heap.IsSliceOf sl vl vu .none→IsPart vl lo→IsPart vu hi→r x lo hi H Q →
  ∃ T id,typeLookup (.type T) "__getitem__" = pure (some (.builtin id))∧s.TypeIs v T∧wpAny (model X.prog X.w) X.A (getItem v (.ref sl)) (EP X pins σ Q) X.xe s
def Y3 (r:V→Option Int→Option Int→Hp→VK→Prop) (te:TE) (tl th:TO):TE:=fun σ H Q=>te σ H fun x H1=>tl σ H1 fun l H2=>th σ H2 fun u H3=>r x l u H3 Q
theorem EG {r:V→Option Int→Option Int→Hp→VK→Prop} (hr:PY X r) (he:PE X e te) (hl:PO X lo tl) (hu:PO X hi th):PE X (.Subscript e (.Slice lo hi none p2) pos) (Y3 r te tl th):=by
 intro pins s σ H Q I h
 refine Subscript_ (bf (he pins s σ H _ I h) fun v s1 ⟨x,H1,I1,r1,q1⟩=>?_)
 refine wpAny_Slice (bf (hl pins s1 σ H1 _ I1 q1) fun vl s2 ⟨l,H2,I2,pl,q2⟩=>bf (hu pins s2 σ H2 _ I2 q2) fun vu s3 ⟨u,H3,I3,pu,q3⟩=>?_)
 rw[evalPart_none]
 refine zf ?_
 have I4:Inv X pins σ H3 { s3 with heap:=s3.heap.push { cls:=.type "slice",data:=.fields #[vl,vu,.none] } }:=I3.kept (t':=s3.toks) fun b ob q=>zb _ q
 obtain⟨T,id,hT,ht,hg⟩:=hr pins { s3 with heap:=s3.heap.push { cls:=.type "slice",data:=.fields #[vl,vu,.none] } } σ H3 x v vl vu l u s3.heap.objs.size Q I4 r1 (Heap.IsSliceOf.new ..) pl pu q3
 show wpAny (model X.prog X.w) X.A (subscriptTail e (.Slice lo hi none p2) v (.ref s3.heap.objs.size)) (EP X pins σ Q) X.xe { s3 with heap:=s3.heap.push { cls:=.type "slice",data:=.fields #[vl,vu,.none] } }
 exact tail_any (ops:=[.ref s3.heap.objs.size,v]) ht hT hg (by with_unfolding_all rfl)
def vF (xs:List V) (lo hi:Option Int):List V:=(xs.drop (HT.sIx xs.length 0 lo)).take (HT.sIx xs.length xs.length hi - HT.sIx xs.length 0 lo)
theorem nV (xs:List V) (lo hi:Option Int):(vF xs lo hi).length≤xs.length:=by
 unfold vF
 rw[yd,List.length_drop]
 omega
def Ut (K:PySem.W.Frag):V→Option Int→Option Int→Hp→VK→Prop:=fun x lo hi H Q=>∃ a xs,x=.ref a∧iU K H a xs ∧
 ¬ (HT.sIx xs.length 0 lo=0∧HT.sIx xs.length xs.length hi=xs.length)∧∀ p,H p=none→Q (.ref p) (upd H p (.tup (vF xs lo hi)))
theorem Ms:PY X (Ut X.K):=by
 intro pins s σ H x v vl vu lo hi sl Q I rx hs pl pu h
 obtain⟨a,xs,rfl,hx,hw,q⟩:=h
 cases rx
 obtain⟨ay,r,ht,hz⟩:=I.tuple hx
 have hlen:ay.toArray.size=xs.length:=by rw[zk];exact r.length.symm
 refine⟨"tuple",_,PyProof.Rows.slot_tuple_getitem.lookup,ht.typeIs,?_⟩
 refine HT.getItem_tuple_cut ht hs pl pu (by rw[hlen];exact hw) ?_ (by rw[hlen];exact hz)
 rw[hlen]
 refine⟨.ref s.heap.objs.size,_,I.laid (t':=s.toks) (o:=.tup (vF xs lo hi)) (fun b ob q=>zb _ q) (zm _) ?_,rfl,q _ (I.aJ.fresh (zm _))⟩
 exact⟨zG (nV xs lo hi) hz,_,(r.drop (HT.sIx xs.length 0 lo)).take (HT.sIx xs.length xs.length hi - HT.sIx xs.length 0 lo),gw.new _ _⟩
def PZ (K:PySem.W.Frag):R2:=fun x y H Q=>∃ a b xs ys,x=.ref a∧y=.ref b∧iU K H a xs∧iU K H b ys∧xs≠[]∧xs.length+ys.length≤sizeLine ∧
 (ys=[]→Q (.ref a) H)∧(ys≠[]→∀ p,H p=none→Q (.ref p) (upd H p (.tup (xs++ys))))
theorem Vals.pj (r:Vals xs us):us=[]↔xs=[]:=by
 cases r with
 | nil=>simp
 | cons _ _=>simp
theorem Ij:gQ X (binaryOp .Add) (PZ X.K):=by
 intro pins s σ H x y v u Q I rx ry h
 obtain⟨a,b,xs,ys,rfl,rfl,ha,hb,hx,hz,q1,q2⟩:=h
 cases rx
 cases ry
 obtain⟨ay,r1,p1,_⟩:=I.tuple ha
 obtain⟨rq,r2,p2,_⟩:=I.tuple hb
 refine HT.cat_tup p1 p2 (fun z=>hx (r1.pj.mp z)) (fun z=>⟨.ref a,H,I,rfl,q1 (r2.pj.mp z)⟩) (fun z=>?_) (by rw[← r1.length,← r2.length];exact hz)
 refine⟨.ref s.heap.objs.size,_,I.laid (t':=s.toks) (o:=.tup (xs++ys)) (fun b ob q=>zb _ q) (zm _) ?_,rfl,q2 (fun w=>z (r2.pj.mpr w)) _ (I.aJ.fresh (zm _))⟩
 exact⟨by rw[zC];exact hz,_,r1.append r2,gw.new _ _⟩
end
def Ik (n:Nat) (i:Int):Option Nat:=if 0≤i then (if i<n then some i.toNat else none) else if -(n:Int)≤i then some (i+n).toNat else none
def sP {α:Type} (xs:List α) (i:Int):Option α:=(Ik xs.length i).bind fun j=>xs[j]?
theorem Ba (h:Ik n i=some j):seqIndex? i n=some j∧j<n∧-(n:Int)≤i∧i<n:=by
 unfold Ik at h
 by_cases h0:0≤i
 ·rw[if_pos h0] at h
  by_cases h1:i<n
  ·rw[if_pos h1] at h
   have e:i.toNat=j:=zO h
   exact⟨by rw[seqIndex_of h0 h1,e],by omega,by omega,h1⟩
  ·rw[if_neg h1] at h;cases h
 ·rw[if_neg h0] at h
  by_cases h1:-(n:Int)≤i
  ·rw[if_pos h1] at h
   have e:(i+n).toNat=j:=zO h
   exact⟨by rw[seqIndex_neg (by omega) h1,e],by omega,h1,by omega⟩
  ·rw[if_neg h1] at h;cases h
theorem tQ (h:sP xs i=some v):∃ j,seqIndex? i xs.length=some j∧xs[j]?=some v∧j<xs.length∧-(xs.length:Int)≤i∧i<xs.length:=by
 unfold sP at h
 cases e:Ik xs.length i with
 | none=>rw[e] at h;cases h
 | some j =>
  rw[e] at h
  obtain⟨h1,h2,h3,h4⟩:=Ba e
  exact⟨j,h1,h,h2,h3,h4⟩
theorem ia {α:Type}{xs:List α}{j:Nat}{v:α} (h:xs[j]?=some v):sP xs (j:Int)=some v:=by
 have hj:j<xs.length:=(zo.mp h).1
 have e:Ik xs.length (j:Int)=some j:=by
  unfold Ik
  rw[if_pos (by omega),if_pos (by omega)];simp
 unfold sP;rw[e];exact h
def Bb (b:Expr):Prop:=∀ o i,subscripted b false o i=operate [o,i] (getItem o i)
def P0 (X:Cx) (r:R2):Prop :=
 ∀ (value slice:Expr) (pins:List (Addr×Obj)) (s:Shared) (σ:St) (H:Hp) (x y:V) (v u:Value) (Q:VK),Inv X pins σ H s→RelV x v→RelV y u→r x y H Q →
  subscripted slice false v u=operate [v,u] (getItem v u)→wpAny (model X.prog X.w) X.A (subscriptTail value slice v u) (EP X pins σ Q) X.xe s
def Oy (X:Cx) (id:String) (r:V→List V→Hp→VK→Prop):Prop :=
 ∀ (pins:List (Addr×Obj)) (s:Shared) (σ:St) (H:Hp) (x:V) (xs:List V) (v:Value) (us:List Value) (Q:VK),Inv X pins σ H s→RelV x v→Vals xs us→r x xs H Q →
  wpAny (model X.prog X.w) X.A (call (.builtin id) (v :: us)) (EP X pins σ Q) X.xe s
section
variable {X:Cx}{a b:Expr}{ta tb:TE}{pos:Pos}
theorem P1 (hr:P0 X r) (ha:PE X a ta) (hb:PE X b tb) (hs:Bb b):PE X (.Subscript a b pos) (Ow r ta tb):=by
 intro pins s σ H Q I h
 exact Subscript_ (L_ ha hb I h fun v u s2 x y H2 I2 rx ry q=>hr a b pins s2 σ H2 x y v u Q I2 rx ry q (hs _ _))
def Uu (K:PySem.W.Frag):R2:=fun x y H Q=>∃ p xs i v,x=.ref p∧y=.int i∧gL K H p xs∧sP xs i=some v∧Q v H
def Uv (K:PySem.W.Frag):R2:=fun x y H Q=>∃ p xs i v,x=.ref p∧y=.int i∧iU K H p xs∧sP xs i=some v∧Q v H
def Uw:R2:=fun x y H Q=>∃ z i c,x=.str z∧y=.int i∧z.length≤sizeLine∧sP z.cps.toList i=some c∧Q (.str ⟨#[c]⟩) H
theorem Bc:P0 X (Uu X.K):=by
 intro value slice pins s σ H x y v u Q I rx ry h hs
 obtain⟨p,xs,i,z,rfl,rfl,hq,he,q⟩:=h
 cases rx
 obtain⟨t,rfl⟩:=ry
 obtain⟨ay,r,pl,hz⟩:=I.list hq
 obtain⟨j,h1,h2,h3,h4,h5⟩:=tQ he
 obtain⟨w,ew,rA⟩:=r.get h2
 have hl:=r.length
 have hn:=pF
 have fin:EP X pins σ Q w s:=⟨z,H,I,rA,q⟩
 by_cases h0:0≤i
 ·have hj:i.toNat=j:=by
   rw[seqIndex_of h0 h5] at h1
   exact zO h1
  exact item_listR pl.isList h0 (by omega) (by rw[hj];simpa using ew) fin hs
 ·have hj:(i+(ay.toArray.size:Int)).toNat=j:=by
   rw[seqIndex_neg (by omega) h4] at h1
   rw[zk,← hl]
   exact zO h1
  exact subscriptTail_builtinR (x:=w) pl.isList.typeIs slot_list_getitem.lookup
   (wpAny_getItem_list_neg (Q:=fun r s'=>r=w∧EP X pins σ Q r s') pl.isList (by omega) (by rw[zk] <;> omega) (by omega) (by rw[hj];simpa using ew) ⟨rfl,fin⟩) hs
theorem EH:P0 X (Uv X.K):=by
 intro value slice pins s σ H x y v u Q I rx ry h hs
 obtain⟨p,xs,i,z,rfl,rfl,hq,he,q⟩:=h
 cases rx
 obtain⟨t,rfl⟩:=ry
 obtain⟨ay,r,pl,hz⟩:=I.tuple hq
 obtain⟨j,h1,h2,h3,h4,h5⟩:=tQ he
 obtain⟨w,ew,rA⟩:=r.get h2
 have hl:=r.length
 have hn:=pF
 have fin:EP X pins σ Q w s:=⟨z,H,I,rA,q⟩
 exact subscriptTail_builtinR (x:=w) pl.typeIs slot_tuple_getitem.lookup
  (getItem_tuple (j:=j) (Q:=fun r s'=>r=w∧EP X pins σ Q r s') pl (by omega) (by omega) (by rw[zk,← hl];exact h1) (by simpa using ew) ⟨rfl,fin⟩) hs
theorem Mt:P0 X Uw:=by
 intro value slice pins s σ H x y v u Q I rx ry h hs
 obtain⟨z,i,c,rfl,rfl,hz,he,q⟩:=h
 obtain⟨t,rfl⟩:=rx
 obtain⟨t',rfl⟩:=ry
 obtain⟨j,h1,h2,h3,h4,h5⟩:=tQ he
 have hl:z.cps.toList.length=z.length:=by simp [Str.length]
 rw[hl] at h1 h4 h5
 have hn:=pF
 exact tail_any (typeIs_str s z t) slot_str_getitem.lookup (getItem_str (c:=c) (by
  have e1:decide (i < -(2 ^ 63:Int))=false:=zq (by omega)
  have e2:decide (i≥2 ^ 63)=false:=zq (by omega)
  rw[e1,e2,Bool.or_false]) (by rw[h1];simpa using h2) ⟨.str ⟨#[c]⟩,H,I.tok _,⟨_,rfl⟩,q⟩) hs
theorem xP (ay:List Value) (n j:Nat) (u:Value):Obj.mapSeq (·.setIfInBounds j u) { cls:=.type "list",data:=.seq ay.toArray n }={ cls:=.type "list",data:=.seq (ay.set j u).toArray n }:=by
 simp [Obj.mapSeq]
theorem Inv.lst (I:Inv X pins σ H s) (h:H p=some (.lst xs)) :
  ∃ (ay:List Value) (n:Nat),Vals xs ay∧s.heap.get? p=some { cls:=.type "list",data:=.seq ay.toArray n }∧xs.length≤sizeLine:=by
 obtain⟨z,ay,n,r,e⟩:=I.aJ p _ h
 exact⟨ay,n,r,e,z⟩
theorem Inv.Mu {pins:List (Addr×Obj)}{σ:St}{H:Hp}{s:Shared}{p:Addr}{xs ys:List V}{ay its':List Value}{n n':Nat}{f:Obj→Obj} (I:Inv X pins σ H s) (h:H p=some (.lst xs))
  (ho:s.heap.get? p=some { cls:=.type "list",data:=.seq ay.toArray n }) (hf:f { cls:=.type "list",data:=.seq ay.toArray n }={ cls:=.type "list",data:=.seq its'.toArray n' }) (r:Vals ys its') (hz:ys.length≤sizeLine) (t:Nat) :
  Inv X pins σ (upd H p (.lst ys)) { s with heap:=s.heap.update p f,toks:=t }:=by
 have e:(s.heap.update p f).get? p=some { cls:=.type "list",data:=.seq its'.toArray n' }:=by
  rw[Heap.get?_update_self f ho (by rw[hf] <;> rfl),hf]
 refine I.write (x:=p) (e:=p) (by rw[h];trivial) (.inl rfl) (fun b u hb q=>(Heap.get?_update_other _ _ (Ne.symm hb)).trans q) ⟨_,e⟩ ?_
 exact⟨hz,its',n',r,e⟩
def P2:V→V→V→Hp→(Hp→Prop)→Prop:=fun o i v H Q=>∃ p xs k j,o=.ref p∧i=.int k∧H p=some (.lst xs)∧Ik xs.length k=some j∧Q (upd H p (.lst (xs.set j v)))
theorem set_list:Pq X P2:=by
 intro pins s σ H o i v ov iv u Q I ro ri rv h
 obtain⟨p,xs,k,j,rfl,rfl,hp,hj,q⟩:=h
 cases ro
 obtain⟨t,rfl⟩:=ri
 obtain⟨ay,n,r,ho,hz⟩:=I.lst hp
 obtain⟨h1,h2,h3,h4⟩:=Ba hj
 have hl:=r.length
 have hn:=pF
 have I':Inv X pins σ (upd H p (.lst (xs.set j v))) { s with heap:=s.heap.update p (Obj.mapSeq (·.setIfInBounds j u)) } :=
  I.Mu hp ho (xP ay n j u) (r.set rv j) (by rw[List.length_set];exact hz) s.toks
 by_cases h0:0≤k
 ·have hk:k.toNat=j:=by
   rw[seqIndex_of h0 h4] at h1
   exact zO h1
  exact PySem.W.ki_setAt ho h0 (by omega) (by rw[zk,← hl];exact h4) (by rw[hk];exact⟨_,I',q⟩)
 ·have hk:(k+(ay.toArray.size:Int)).toNat=j:=by
   rw[seqIndex_neg (by omega) h3] at h1
   rw[zk,← hl]
   exact zO h1
  exact PySem.W.ki_setBack ho (by omega) (by rw[zk,← hl];exact h3) (by omega) (by rw[hk];exact⟨_,I',q⟩)
theorem tR (lo hi:Option Int) (n:Nat):(sliceBounds lo hi none n).1=((HT.sIx n 0 lo:Nat):Int)∧(sliceBounds lo hi none n).2.1=((HT.sIx n n hi:Nat):Int)∧(sliceBounds lo hi none n).2.2=1:=by
 refine⟨?_,?_,rfl⟩
 ·cases lo with
  | none=>simp [sliceBounds,HT.sIx]
  | some i =>
   simp only [sliceBounds,HT.sIx,Option.getD_none,show (1:Int)>0 by decide,if_true]
   by_cases h:i<0
   ·simp only [h,if_true] <;> omega
   ·simp only [h,if_false] <;> omega
 ·cases hi with
  | none=>simp [sliceBounds,HT.sIx]
  | some i =>
   simp only [sliceBounds,HT.sIx,Option.getD_none,show (1:Int)>0 by decide,if_true]
   by_cases h:i<0
   ·simp only [h,if_true] <;> omega
   ·simp only [h,if_false] <;> omega
theorem rB (ay:List Value) (lo hi:Option Int):slicePick ay.toArray lo hi none=((ay.drop (HT.sIx ay.length 0 lo)).take (HT.sIx ay.length ay.length hi - HT.sIx ay.length 0 lo)).toArray:=by
 obtain⟨h1,h2,h3⟩:=tR lo hi ay.toArray.size
 unfold slicePick
 rw[h1,h2,h3]
 simp only [sliceRange_one,pick_run,zk] <;> rfl
def Ux (K:PySem.W.Frag):V→Option Int→Option Int→Hp→VK→Prop:=fun x lo hi H Q=>∃ a xs,x=.ref a∧gL K H a xs∧∀ p,H p=none→Q (.ref p) (upd H p (.lst (vF xs lo hi)))
theorem Bd:PY X (Ux X.K):=by
 intro pins s σ H x v vl vu lo hi sl Q I rx hs pl pu h
 obtain⟨a,xs,rfl,hx,q⟩:=h
 cases rx
 obtain⟨ay,r,ht,hz⟩:=I.list hx
 have hlen:=r.length
 refine⟨"list",_,slot_list_getitem.lookup,ht.isList.typeIs,?_⟩
 refine wpAny_getItem_list_slice ht.isList hs pl pu .none (by simp) ?_ (by rw[zk] <;> omega)
 rw[rB,← hlen]
 refine⟨.ref s.heap.objs.size,_,I.laid (t':=s.toks) (o:=.lst (vF xs lo hi)) (fun b ob q=>zb _ q) (zm _) ?_,rfl,q _ (I.aJ.fresh (zm _))⟩
 exact⟨zG (nV xs lo hi) hz,_,0,(r.drop (HT.sIx xs.length 0 lo)).take (HT.sIx xs.length xs.length hi - HT.sIx xs.length 0 lo),zj _ rfl⟩
def gR:V→Bool
 | .aw=>true
 | .bl _=>true
 | .int _=>true
 | .str _=>true
 | _=>false
def eqV:V→V→Bool
 | .aw,.aw=>true
 | .bl a,.bl b=>a == b
 | .bl a,.int b=>(if a then 1 else 0) == b
 | .int a,.bl b=>a == (if b then 1 else 0)
 | .int a,.int b=>a == b
 | .str a,.str b=>a == b
 | _,_=>false
theorem Mv (ry:RelV y u) (rx:RelV x v) (fy:gR y=true) (fx:gR x=true):SeqAt.EqAt A s u v (eqV y x):=by
 cases y with
 | aw =>
  cases ry
  cases x with
  | aw=>cases rx;exact SeqAt.EqAt.same _
  | bl b=>cases rx;exact SeqAt.EqAt.none_bool b
  | int b=>obtain⟨t,rfl⟩:=rx;exact SeqAt.EqAt.none_int b t
  | str b=>obtain⟨t,rfl⟩:=rx;exact SeqAt.EqAt.none_str b t
  | _=>exact absurd (show false=true from fx) zd
 | bl a =>
  cases ry
  cases x with
  | aw=>cases rx;exact SeqAt.EqAt.bool_none a
  | bl b=>cases rx;exact SeqAt.EqAt.bool_bool a b
  | int b=>obtain⟨t,rfl⟩:=rx;exact SeqAt.EqAt.bool_int a b t
  | str b=>obtain⟨t,rfl⟩:=rx;exact SeqAt.EqAt.bool_str a b t
  | _=>exact absurd (show false=true from fx) zd
 | int a =>
  obtain⟨t',rfl⟩:=ry
  cases x with
  | aw=>cases rx;exact SeqAt.EqAt.int_none a t'
  | bl b=>cases rx;exact SeqAt.EqAt.int_bool a t' b
  | int b=>obtain⟨t,rfl⟩:=rx;exact SeqAt.EqAt.int_int a t' b t
  | str b=>obtain⟨t,rfl⟩:=rx;exact SeqAt.EqAt.int_str a t' b t
  | _=>exact absurd (show false=true from fx) zd
 | str a =>
  obtain⟨t',rfl⟩:=ry
  cases x with
  | aw=>cases rx;exact SeqAt.EqAt.str_none a t'
  | bl b=>cases rx;exact SeqAt.EqAt.str_bool a t' b
  | int b=>obtain⟨t,rfl⟩:=rx;exact SeqAt.EqAt.str_int a t' b t
  | str b=>obtain⟨t,rfl⟩:=rx;exact SeqAt.EqAt.str_str a t' b t
  | _=>exact absurd (show false=true from fx) zd
 | _=>exact absurd (show false=true from fy) zd
def EI (x:V) (u:Value):Bool:=match u with
 | .none=>eqV .aw x
 | .bool b=>eqV (.bl b) x
 | .int i _=>eqV (.int i) x
 | .str z _=>eqV (.str z) x
 | _=>false
theorem xQ (r:RelV y u) (f:gR y=true):EI x u=eqV y x:=by
 cases y with
 | aw=>cases r;rfl
 | bl b=>cases r;rfl
 | int i=>obtain⟨t,rfl⟩:=r;rfl
 | str z=>obtain⟨t,rfl⟩:=r;rfl
 | _=>exact absurd (show false=true from f) zd
theorem tT:∀ {xs:List V}{us:List Value},Vals xs us→xs.all gR=true→us.any (EI x)=xs.any fun y=>eqV y x
 | _,_,.nil,_=>rfl
 | y :: xs,u :: us,.cons r t,f=>by
  rw[List.all_cons,zN] at f
  rw[yI,yI,xQ r f.1,tT t f.2]
theorem lH (rx:RelV x v) (fx:gR x=true):∀ {xs:List V}{us:List Value},Vals xs us→xs.all gR=true→∀ u∈us,SeqAt.EqAt A s u v (EI x u)
 | _,_,.nil,_=>fun u hu=>by cases hu
 | y :: xs,u :: us,.cons r t,f=>fun u' hu=>by
  rw[List.all_cons,zN] at f
  rcases ze.mp hu with rfl | hu
  ·rw[xQ r f.1];exact Mv r rx f.1 fx
  ·exact lH rx fx t f.2 u' hu
def Cm (x:V) (xs:List V):Bool:=xs.any fun y=>eqV y x
def Y4 (K:PySem.W.Frag) (neg:Bool):R2:=fun x y H Q=>∃ p xs,y=.ref p∧(gL K H p xs∨iU K H p xs)∧gR x=true∧xs.all gR=true∧Q (.bl (if neg then !Cm x xs else Cm x xs)) H
theorem mI:gQ X (compareOp .In) (Y4 X.K false):=by
 intro pins s σ H x y v u Q I rx ry h
 obtain⟨p,xs,rfl,hq,fx,fs,q⟩:=h
 cases ry
 rcases hq with hq | hq
 ·obtain⟨ay,r,pl,hz⟩:=I.list hq
  refine SeqAt.in_listAt (EI x) pl.isList (fun w hw=>lH rx fx r fs w (by simpa using hw)) ⟨.bl _,H,I,rfl,?_⟩
  rw[show ay.toArray.any (EI x)=ay.any (EI x) by simp,tT r fs]
  exact q
 ·obtain⟨ay,r,pl,hz⟩:=I.tuple hq
  refine SeqAt.in_tupleAt (EI x) pl (fun w hw=>lH rx fx r fs w (by simpa using hw)) ⟨.bl _,H,I,rfl,?_⟩
  rw[show ay.toArray.any (EI x)=ay.any (EI x) by simp,tT r fs]
  exact q
theorem kj:fH X (.type "tuple") (fun xs H Q=>∃ p ys,xs=[.ref p]∧((gL X.K H p ys∧∀ l,H l=none→Q (.ref l) (upd H l (.tup ys)))∨(iU X.K H p ys∧Q (.ref p) H))):=by
 intro pins s σ H xs us Q I r h
 obtain⟨p,ys,rfl,h⟩:=h
 obtain⟨u,rfl,rx⟩:=vals1 r
 cases rx
 rcases h with ⟨hq,q⟩ | ⟨hq,q⟩
 ·obtain⟨ay,r',pl,hz⟩:=I.list hq
  have hlen:=r'.length
  refine call_tuple_list pl.isList (fun h' kp=>?_) (by simp only [zk] <;> omega)
  have I1:Inv X pins σ H { s with heap:=h' }:=I.kept (t':=s.toks) kp
  have I2:Inv X pins σ (upd H h'.objs.size (.tup ys)) { s with heap:=h'.push { cls:=.type "tuple",data:=.seq ay.toArray } } :=
   I1.laid (t':=s.toks) (fun b o e=>zb _ e) (zm _) (show bc X.prog X.w _ _ _ (.tup ys) from ⟨hz,ay,r',gw.new _ _⟩)
  exact⟨.ref h'.objs.size,_,I2,rfl,q _ (I1.aJ.fresh (zm _))⟩
 ·obtain⟨ay,r',pl,hz⟩:=I.tuple hq
  exact call_tuple_same pl ⟨.ref p,H,I,rfl,q⟩
def Sr (K:PySem.W.Frag) (T:String) (x:V) (H:Hp):Prop:=match x with
 | .str _=>T = "str"
 | .int _=>T = "int"
 | .ref p=>(T = "list" ∧ ∃ xs,gL K H p xs)∨(T = "tuple" ∧ ∃ o,K.lookup p=some o∧o.cls=.type "tuple" ∧ o.dict=none) ∨
   (T = "dict" ∧ ((∃ kvs,H p=some (.dK kvs))∨∃ kvs,H p=some (.dT kvs)))∨(T = "set" ∧ ∃ S n,H p=some (.set S n))
 | _=>False
theorem EJ (I:Inv X pins σ H s) (r:RelV x v) (ty:Sr X.K T x H) :
  s.TypeIs v T∧∀ a,v=.ref a→∃ ob,s.heap.get? a=some ob∧ob.dict=none:=by
 cases x with
 | str z =>
  obtain⟨t,rfl⟩:=r
  cases (show T = "str" from ty)
  exact⟨typeIs_str s z t,fun _ e=>nomatch e⟩
 | int i =>
  obtain⟨t,rfl⟩:=r
  cases (show T = "int" from ty)
  exact⟨typeIs_int s i t,fun _ e=>nomatch e⟩
 | ref p =>
  cases r
  rcases ty with ⟨rfl,xs,hq⟩ | ⟨rfl,o,hk,hc,hd⟩ | ⟨rfl,hk⟩ | ⟨rfl,S,n,hk⟩
  ·obtain⟨ay,_,pl,_⟩:=I.list hq
   refine⟨pl.isList.typeIs,fun a e=>?_⟩
   cases e
   obtain⟨o,n,e,c,hd,_⟩:=pl
   exact⟨o,e,hd⟩
  ·refine⟨⟨o,I.nS p o hk,hc⟩,fun a e=>?_⟩
   cases e
   exact⟨o,I.nS _ o hk,hd⟩
  ·have z:∃ o,s.heap.get? p=some o∧o.ExactDict:=by
    rcases hk with ⟨kvs,hk⟩ | ⟨kvs,hk⟩
    ·obtain⟨_,_,_,_,o,_,_,e,ex,_⟩:=I.aJ p _ hk
     exact⟨o,e,ex⟩
    ·exact False.elim (I.aJ p _ hk)
   obtain⟨o,e,ex⟩:=z
   refine⟨⟨o,e,ex.1⟩,fun a e2=>?_⟩
   cases e2
   exact⟨o,e,ex.2.1⟩
  ·obtain⟨o,_,_,_,e,ex,_⟩:=I.aJ p _ hk
   refine⟨⟨o,e,ex.1⟩,fun a e2=>?_⟩
   cases e2
   exact⟨o,e,ex.2.1⟩
 | _=>exact False.elim ty
def Uy (K:PySem.W.Frag) (T:String) (r:V→List V→Hp→VK→Prop) (to:TE):TE:=fun σ H Q=>to σ H fun x H1=>Sr K T x H1∧r x [] H1 Q
def Y5 (K:PySem.W.Frag) (T:String) (r:V→List V→Hp→VK→Prop) (to:TE) (t:TA):TE:=fun σ H Q=>to σ H fun x H1=>Sr K T x H1∧t σ H1 fun xs H2=>r x xs H2 Q
variable {o e:Expr}{es:List Expr}{to:TE}{t:TA}{name:Str}{apos aR:Pos}{T id:String}{r:V→List V→Hp→VK→Prop}
theorem Mw (pa:PlainAttrs T) (slot:Slot T name id) (Mx:typeOf (.builtin id)=pure (.type "method_descriptor")) (hm:Oy X id r) (ho:PE X o to)
  (lI:attributeBase o name X.env (eval o X.env)=eval o X.env:=by rfl) (pJ:(apos.endLine == aR.line)=true:=by rfl):PE X (.Call (.Attribute o name apos) [] [] aR) (Uy X.K T r to):=by
 intro pins s σ H Q I h
 refine wpAny_Call_method0_late lI pJ (bf (ho pins s σ H _ I h) fun v s1 ⟨x,H1,I1,r1,ty,q1⟩=>?_)
 obtain⟨h1,h2⟩:=EJ I1 r1 ty
 exact⟨T,id,pa,slot,Mx,h1,h2,Calls.callWith_builtin rfl (PySem.evalArgs_none (hm pins s1 σ H1 x [] v [] Q I1 r1 .nil q1))⟩
theorem P4 (pa:PlainAttrs T) (slot:Slot T name id) (Mx:typeOf (.builtin id)=pure (.type "method_descriptor")) (hm:Oy X id r) (ho:PE X o to) (ha:PA X (e :: es) t)
  (lI:attributeBase o name X.env (eval o X.env)=eval o X.env:=by rfl)
  (Mz:((backTo aR (starEach (e :: es) X.env)).all (fun x=>!x.1) && (backToKw aR (keywordEach [] X.env)).all (fun x=>x.1.isSome)
   && decide ((e :: es).length+([]:List Keyword).length+(if ([]:List Keyword).isEmpty then 0 else 1)<30))=true:=by rfl)
  (pJ:(apos.endLine == aR.line)=true:=by rfl) (hs:starEach (e :: es) X.env=(false,eval e X.env) :: starEach es X.env:=by rfl) (xR:(backTo aR (starEach es X.env)).any (·.1)=false:=by rfl) :
  PE X (.Call (.Attribute o name apos) (e :: es) [] aR) (Y5 X.K T r to t):=by
 intro pins s σ H Q I h
 refine wpAny_Call_method_late lI Mz pJ rfl (bf (ho pins s σ H _ I h) fun v s1 ⟨x,H1,I1,r1,ty,q1⟩=>?_)
 obtain⟨h1,h2⟩:=EJ I1 r1 ty
 refine⟨T,id,pa,slot,Mx,h1,h2,?_⟩
 have hA:=ha aR pins s1 σ H1 _ I1 q1
 rw[hs] at hA ⊢
 refine Calls.callWith_builtin (by show (false || (backTo aR (starEach es X.env)).any (·.1))=false;rw[xR] <;> rfl) (Calls.evalArgs_plain ?_)
 exact bf hA fun us s2 ⟨vs,H2,I2,r2,q2⟩=>hm pins s2 σ H2 x vs v us Q I2 r1 r2 q2
end
def Ss (X:Cx) (id:String) (r:V→List V→Hp→VK→Prop):Prop :=
 ∀ (pins:List (Addr×Obj)) (s:Shared) (σ:St) (H:Hp) (x:V) (xs:List V) (v:Value) (us:List Value) (Q:VK),Inv X pins σ H s→RelV x v→Vals xs us→r x xs H Q →
  wpAny (model X.prog X.w) X.A (call (.builtin id) (v :: us)) (EP X pins σ Q) X.xe s
theorem Vals.one:∀ {x:V}{us:List Value},Vals [x] us→∃ u,us=[u]∧RelV x u:=by
 intro x us h
 cases h with
 | cons r t=>cases t;exact⟨_,rfl,r⟩
theorem Vals.two:∀ {x y:V}{us:List Value},Vals [x,y] us→∃ u v,us=[u,v]∧RelV x u∧RelV y v:=by
 intro x y us h
 cases h with
 | cons r t =>
  obtain⟨_,rfl,q⟩:=Vals.one t
  exact⟨_,_,rfl,r,q⟩
theorem Vals.zero:∀ {us:List Value},Vals [] us→us=[]
 | _,.nil=>rfl
theorem Vals.dropLast {xs:List V}{us:List Value} (h:Vals xs us):Vals xs.dropLast us.dropLast:=by
 induction h with
 | nil=>exact .nil
 | cons r t ih =>
  cases t with
  | nil=>exact .nil
  | cons q t'=>exact .cons r ih
theorem xS {α:Type} (l:List α):l.eraseIdx (l.length - 1)=l.dropLast:=by
 induction l with
 | nil=>rfl
 | cons a r ih =>
  cases r with
  | nil=>rfl
  | cons b r =>
   have e:(a :: b :: r).length - 1=((b :: r).length - 1)+1:=by
    have h1:(a :: b :: r).length=r.length+2:=rfl
    have h2:(b :: r).length=r.length+1:=rfl
    omega
   rw[e,List.eraseIdx_cons_succ,ih]
   all_goals rfl
section
variable {X:Cx}{pins:List (Addr×Obj)}{σ:St}{H:Hp}{s:Shared}{l b:Addr}{xs ys zs:List V}
theorem Inv.Il {ay its':List Value}{n:Nat}{f:Array Value→Array Value}{t':Nat} (I:Inv X pins σ H s) (hH:H l=some (.lst xs))
  (e:s.heap.get? l=some { cls:=.type "list",data:=.seq ay.toArray n }) (hf:f ay.toArray=its'.toArray) (hv:Vals ys its') (hz:ys.length≤sizeLine) :
  Inv X pins σ (upd H l (.lst ys)) { s with heap:=s.heap.update l (Obj.mapSeq f),toks:=t' }:=by
 have q:=PySem.IsL.update e f
 rw[hf] at q
 refine I.write (x:=l) (e:=l) (by rw[hH];exact trivial) (.inl rfl) (fun b' u hb hu=>(Heap.get?_update_other s.heap (Obj.mapSeq f) (Ne.symm hb)).trans hu) ⟨_,q⟩ ?_
 exact⟨hz,its',_,hv,q⟩
theorem Inv.Uz (I:Inv X pins σ H s) (hv:Vals ys ay) (hz:ys.length≤sizeLine) :
  Inv X pins σ (upd H s.heap.objs.size (.lst ys)) { s with heap:=s.heap.push { cls:=.type "list",data:=.seq ay.toArray },toks:=t' } :=
 I.laid (fun _ _ q=>zb _ q) (zm _) ⟨hz,ay,0,hv,zj _ rfl⟩
theorem Inv.fresh (I:Inv X pins σ H s):H s.heap.objs.size=none:=I.aJ.fresh (zm _)
theorem Inv.Co (I:Inv X pins σ H s) (hH:H l=some (.lst xs)):xs.length≤sizeLine∧∃ (ay:List Value) (n:Nat),Vals xs ay∧xs.length=ay.length∧s.heap.get? l=some { cls:=.type "list",data:=.seq ay.toArray n }:=by
 obtain⟨z,ay,n,r,e⟩:=I.aJ l _ hH
 exact⟨z,ay,n,r,r.length,e⟩
theorem EK {n:Nat} (h:n≤sizeLine):Builtin.List.listTooLong n=false:=by
 unfold Builtin.List.listTooLong
 exact zq (by omega)
end
section
variable {X:Cx}
def Im:V→List V→Hp→VK→Prop:=fun x vs H Q=>∃ l xs y,x=.ref l∧vs=[y]∧H l=some (.lst xs)∧xs.length<sizeLine∧Q .aw (upd H l (.lst (xs++[y])))
theorem Cp:Ss X "list.append" Im:=by
 intro pins s σ H x vs v us Q I rx rv h
 obtain⟨l,xs,y,rfl,rfl,hH,hz,q⟩:=h
 cases rx
 obtain⟨u,rfl,ru⟩:=rv.one
 obtain⟨z,ay,n,r,hl,e⟩:=I.Co hH
 refine call_meets F.slot_list_append ⟨_,e,rfl⟩ F.entry_list_append (F.args_list_append_2 _ _) (PySem.list_append l ay.toArray n u (by rw[zk];omega)) ⟨e,?_⟩
 refine⟨.aw,_,I.Il (its':=ay++[u]) hH e (by simp) (r.append (.cons ru .nil)) ?_,rfl,q⟩
 rw[zC,List.length_singleton]
 omega
def UA:V→List V→Hp→VK→Prop:=fun x vs H Q=>∃ l xs y,x=.ref l∧vs=[]∧H l=some (.lst xs)∧xs[xs.length - 1]?=some y∧Q y (upd H l (.lst xs.dropLast))
theorem MA:Ss X "list.pop" UA:=by
 intro pins s σ H x vs v us Q I rx rv h
 obtain⟨l,xs,y,rfl,rfl,hH,hy,q⟩:=h
 cases rx
 have Y6:=rv.zero
 subst Y6
 obtain⟨z,ay,n,r,hl,e⟩:=I.Co hH
 obtain⟨u,hu,ru⟩:=r.get hy
 have P5:ay.toArray[ay.toArray.size - 1]?=some u:=by
  show ay.toArray[ay.length - 1]?=some u
  rw[← Array.getElem?_toList,← hl]
  exact hu
 refine call_meets F.slot_list_pop ⟨_,e,rfl⟩ F.entry_list_pop (F.args_list_pop_1 _) (MeetsSeq.list_pop_last l ay.toArray n u P5 (by rw[zk];omega)) ⟨e,?_⟩
 refine⟨y,_,I.Il (its':=ay.dropLast) hH e ?_ r.dropLast ?_,ru,q⟩
 ·show ay.toArray.eraseIdxIfInBounds (ay.toArray.size - 1)=ay.dropLast.toArray
  rw[zk,List.eraseIdxIfInBounds_toArray,xS]
 ·rw[List.length_dropLast]
  omega
def UB:R2:=fun x y H Q=>∃ l b xs zs,x=.ref l∧y=.ref b∧H l=some (.lst xs)∧H b=some (.lst zs)∧xs.length+zs.length≤sizeLine∧∀ p,H p=none→Q (.ref p) (upd H p (.lst (xs++zs)))
theorem MB:gQ X (binaryOp .Add) UB:=by
 intro pins s σ H x y v u Q I rx ry h
 obtain⟨l,b,xs,zs,rfl,rfl,hH,hB,hz,q⟩:=h
 cases rx
 cases ry
 obtain⟨z,ay,n,r,hl,e⟩:=I.Co hH
 obtain⟨z2,rq,n2,r2,Cq,e2⟩:=I.Co hB
 refine PySem.P.add_list e e2 ?_ (by rw[zk,zk];omega)
 have ea:ay.toArray++rq.toArray=(ay++rq).toArray:=by simp
 rw[ea]
 exact⟨.ref _,_,I.Uz (t':=s.toks) (r.append r2) (by rw[zC];omega),rfl,q _ I.fresh⟩
end
section
variable {prog:Program}{w:World}{A:Around}{E:Value→Shared→Prop}{s:Shared}
end
section
variable {X:Cx}
end
section
variable {κ:Type} [DecidableEq κ]
def fX (kvs:List (κ×V)) (k:κ):Option V:=(kvs.find? fun kv=>decide (kv.1=k)).map (·.2)
def putK (kvs:List (κ×V)) (k:κ) (v:V):List (κ×V) :=
 if (kvs.any fun kv=>decide (kv.1=k))=true then kvs.map (fun kv=>if kv.1=k then (kv.1,v) else kv) else kvs++[(k,v)]
def nW (kvs:List (κ×V)) (k:κ):List (κ×V):=kvs.filter fun kv=>decide (kv.1≠k)
theorem pK {p:κ×V}{r:List (κ×V)}{k:κ} (e:p.1=k):fX (p :: r) k=some p.2:=by simp [fX,zQ,e]
theorem pL {p:κ×V}{r:List (κ×V)}{k:κ} (e:¬ p.1=k):fX (p :: r) k=fX r k:=by simp [fX,zQ,e]
theorem nX (kvs:List (κ×V)) (k:κ) (v:V):(putK kvs k v).length≤kvs.length+1:=by
 unfold putK
 split
 ·rw[zc];omega
 ·rw[zC,zK,List.length_nil];omega
theorem fW.mJ (r:fW o u):o.isSome=u.isSome:=by
 cases o with
 | none=>cases u with
  | none=>rfl
  | some _=>exact (show False from r).elim
 | some _=>cases u with
  | none=>exact (show False from r).elim
  | some _=>rfl
theorem fW.getD {o:Option V}{u:Option Value}{d:V}{d':Value} (r:fW o u) (rd:RelV d d'):RelV (o.getD d) (u.getD d'):=by
 cases o with
 | none=>cases u with
  | none=>exact rd
  | some _=>exact (show False from r).elim
 | some _=>cases u with
  | none=>exact (show False from r).elim
  | some _=>exact r
theorem KV.val {kvs:List (κ×V)}{vs:List (κ×Value)} (r:KV kvs vs) (k:κ):fW (fX kvs k) (valueAt vs k):=by
 unfold KV at r
 induction r with
 | nil=>exact True.intro
 | @cons p q ps qs h t ih =>
  obtain⟨h1,h2⟩:=h
  by_cases e:p.1=k
  ·have e':q.1=k:=h1.symm.trans e
   have b:valueAt (q :: qs) k=some q.2:=by simp [valueAt,zQ,e']
   rw[pK e,b];exact h2
  ·have e':¬ q.1=k:=fun z=>e (h1.trans z)
   have b:valueAt (q :: qs) k=valueAt qs k:=by simp [valueAt,zQ,e']
   rw[pL e,b];exact ih
theorem KV.any {kvs:List (κ×V)}{vs:List (κ×Value)} (r:KV kvs vs) (k:κ):(kvs.any fun kv=>decide (kv.1=k))=vs.any fun kv=>decide (kv.1=k):=by
 unfold KV at r
 induction r with
 | nil=>rfl
 | cons h t ih=>rw[yI,yI,ih,h.1]
theorem KV.MC (r:KV kvs vs) (k:κ) (ry:RelV y u) :
  KV (kvs.map fun kv=>if kv.1=k then (kv.1,y) else kv) (vs.map fun kv=>if kv.1=k then (kv.1,u) else kv):=by
 unfold KV at r ⊢
 induction r with
 | nil=>exact .nil
 | @cons p q ps qs h t ih =>
  rw[zA,zA]
  refine .cons ?_ ih
  obtain⟨h1,h2⟩:=h
  by_cases e:p.1=k
  ·rw[if_pos e,if_pos (h1.symm.trans e)];exact⟨h1,ry⟩
  ·rw[if_neg e,if_neg (fun z=>e (h1.trans z))];exact⟨h1,h2⟩
theorem KV.put (r:KV kvs vs) (k:κ) (ry:RelV y u):KV (putK kvs k y) (stored vs k u):=by
 unfold putK stored
 rw[r.any k]
 by_cases e:(vs.any fun kv=>decide (kv.1=k))=true
 ·rw[if_pos e,if_pos e];exact r.MC k ry
 ·rw[if_neg e,if_neg e];exact Paired.snoc r ⟨rfl,ry⟩
theorem KV.drop (r:KV kvs vs) (k:κ):KV (nW kvs k) (without vs k):=by
 unfold KV at r ⊢
 unfold nW without
 induction r with
 | nil=>exact .nil
 | @cons p q ps qs h t ih =>
  obtain⟨h1,h2⟩:=h
  rw[yp,yp]
  by_cases e:p.1=k
  ·have a:¬ decide (p.1≠k)=true:=by simp [e]
   have b:¬ decide (q.1≠k)=true:=by simp [h1.symm.trans e]
   rw[if_neg a,if_neg b];exact ih
  ·have e':¬ q.1=k:=fun z=>e (h1.trans z)
   have a:decide (p.1≠k)=true:=by simp [e]
   have b:decide (q.1≠k)=true:=by simp [e']
   rw[if_pos a,if_pos b];exact .cons ⟨h1,h2⟩ ih
theorem KV.length {kvs:List (κ×V)}{vs:List (κ×Value)} (r:KV kvs vs):kvs.length=vs.length:=Paired.length r
theorem EL (kvs:List (κ×V)) (k:κ):(nW kvs k).length≤kvs.length:=List.length_filter_le _ _
end
theorem kl (r:RelV (kV k) u):(aF P w).is k u=true:=by
 cases k with
 | inl i=>obtain⟨t,e⟩:=(show ∃ t,u=Value.int i t from r);subst e;exact vq P w i t
 | inr x=>obtain⟨t,e⟩:=(show ∃ t,u=Value.str x t from r);subst e;exact iZ P w x t
theorem sQ:∀ {ks:List Key}{us:List Value},Vals (ks.map kV) us→ItemsAre (aF P w) ks us
 | [],_,r=>by rw[List.map_nil] at r;cases r;exact .nil
 | k :: ks,_,r=>by
  rw[zA] at r
  cases r with
  | cons h t=>exact .cons (kl h) (sQ t)
abbrev KT (H:Hp):List (List Key×V)→List (List Key×Addr×Value)→Prop:=Paired fun p q=>p.1=q.1∧H q.2.1=some (.tup (p.1.map kV))∧RelV p.2 q.2.2
theorem KT.val {H:Hp}{kvs:List (List Key×V)}{xs:List (List Key×Addr×Value)} (r:KT H kvs xs) (k:List Key):fW (fX kvs k) ((atKey xs k).map (·.2)):=by
 induction r with
 | nil=>exact True.intro
 | @cons p q ps qs h t ih =>
  obtain⟨h1,_,h2⟩:=h
  by_cases e:p.1=k
  ·have e':q.1=k:=h1.symm.trans e
   have b:atKey (q :: qs) k=some q.2:=by simp [atKey,zQ,e']
   rw[pK e,b];exact h2
  ·have e':¬ q.1=k:=fun z=>e (h1.trans z)
   have b:atKey (q :: qs) k=atKey qs k:=by simp [atKey,zQ,e']
   rw[pL e,b];exact ih
section
variable {P:Program}{w:World}{H:Hp}{h:Heap}{a:Addr}
theorem Ku (ok:kx P w H h) (e:Rd H a u):bc P w H h a u:=e.ok ok
theorem nY (ok:kx P w H h) (e:Rd H a (.dK kvs)):kvs.length≤sizeLine∧(a == sysModules)=false∧∃ vs,KV kvs vs∧h.DictOf (aF P w) a vs :=
 show bc P w H h a (.dK kvs) from Ku ok e
theorem Be (ok:kx P w H h) (e:H a=some (.dK kvs)):kvs.length≤sizeLine∧(a == sysModules)=false∧∃ vs,KV kvs vs∧h.DictOf (aF P w) a vs:=nY ok (.inl e)
theorem tU (ok:kx P w H h) (e:H a=some (.tup (ks.map kV))):(tupleKind (aF P w)).is h ks a:=by
 obtain⟨_,ay,r,o,h1,h2,_,n,h3⟩:=(show bc P w H h a (.tup (ks.map kV)) from ok a _ e)
 exact⟨o,ay.toArray,n,h1,h2,h3,by simpa using sQ r⟩
theorem sR (ok:kx P w H h) (e:Rd H a (.dT kvs)):kvs.length≤sizeLine∧(a == sysModules)=false ∧
  ∃ xs,KT H kvs xs∧h.DictOfH (tupleKind (aF P w)) a xs:=by
 exact False.elim (show bc P w H h a (.dT kvs) from Ku ok e)
end
def oB (H:Hp) (a:Addr) (y:V) (r:Option V):Prop :=
 (∃ kvs k,Rd H a (.dK kvs)∧y=kV k∧r=fX kvs k)∨∃ kvs k b,Rd H a (.dT kvs)∧y=.ref b∧H b=some (.tup (k.map kV))∧r=fX kvs k
def EM (H:Hp) (a:Addr) (y v:V) (H':Hp):Prop :=
 (∃ kvs k,H a=some (.dK kvs)∧y=kV k∧kvs.length<sizeLine∧H'=upd H a (.dK (putK kvs k v))) ∨
 ∃ kvs k b,H a=some (.dT kvs)∧y=.ref b∧H b=some (.tup (k.map kV))∧kvs.length<sizeLine∧H'=upd H a (.dT (putK kvs k v))
theorem oB.k {H:Hp}{a:Addr}{kvs:List (Key×V)}{k:Key} (e:H a=some (.dK kvs)):oB H a (kV k) (fX kvs k):=.inl ⟨kvs,k,.inl e,rfl,rfl⟩
theorem EM.k {H:Hp}{a:Addr}{kvs:List (Key×V)}{k:Key}{v:V} (e:H a=some (.dK kvs)) (hl:kvs.length<sizeLine):EM H a (kV k) v (upd H a (.dK (putK kvs k v))):=.inl ⟨kvs,k,e,rfl,hl,rfl⟩
section
variable {X:Cx}{pins:List (Addr×Obj)}{σ:St}{H:Hp}{s:Shared}{a:Addr}{y v:V}{u r:Value}{o:Option V}{A:Around}{E:Value→Shared→Prop}
theorem Inv.big (I:Inv X pins σ H s):sysModules<s.heap.objs.size:=by
 have h:mainGlobals<s.heap.objs.size:=(I.mod.glob.keeps I.bk).lt
 exact Nat.lt_trans (by decide) h
theorem Cr (hu:A.units+1<cLine) (I:Inv X pins σ H s) (g:oB H a y (some v)) (ry:RelV y u) (h:∀ w' s',Inv X pins σ H s'→RelV v w'→Q w' s') :
  wpAny (model X.prog X.w) A (getItem (.ref a) u) Q E s:=by
 rcases g with ⟨kvs,k,e,ey,l⟩ | ⟨kvs,k,b,e,ey,eb,l⟩
 ·subst ey
  obtain⟨z,hd,vs,rel,dd⟩:=nY I.aJ e
  obtain⟨w',hw,rA⟩:=fW.some_of (v:=v) (o:=valueAt vs k) (by rw[l];exact rel.val k)
  exact wpAny_getItem_of (kl ry) dd.mapOf hw (h w' _ (I.tok _) rA)
 ·subst ey
  cases (show u=Value.ref b from ry)
  obtain⟨z,hd,xs,rel,dd⟩:=sR I.aJ e
  obtain⟨w',hw,rA⟩:=fW.some_of (v:=v) (o:=(atKey xs k).map (·.2)) (by rw[l];exact rel.val k)
  obtain⟨p,hp,mK⟩:=Option.map_eq_some_iff.mp hw
  refine wpAny_getItem_heap (tupleKind_room_in1 hu) (tU I.aJ eb) dd hp ?_
  rw[mK]
  exact h w' _ (I.tok _) rA
theorem UC (hu:A.units+1<cLine) (I:Inv X pins σ H s) (g:oB H a y o) (ry:RelV y u) (h:∀ s',Inv X pins σ H s'→Q (.bool o.isSome) s') :
  wpAny (model X.prog X.w) A (compareOp .In u (.ref a)) Q E s:=by
 rcases g with ⟨kvs,k,e,ey,l⟩ | ⟨kvs,k,b,e,ey,eb,l⟩
 ·subst ey
  obtain⟨z,hd,vs,rel,dd⟩:=nY I.aJ e
  refine wpAny_in_of (kl ry) hd dd.mapOf ?_
  rw[← (rel.val k).mJ,← l]
  exact h _ (I.tok _)
 ·subst ey
  cases (show u=Value.ref b from ry)
  obtain⟨z,hd,xs,rel,dd⟩:=sR I.aJ e
  refine wpAny_in_heap (tupleKind_room_in1 hu) (tU I.aJ eb) hd dd ?_
  have q:=(rel.val k).mJ
  rw[Option.isSome_map] at q
  rw[← q,← l]
  exact h _ (I.tok _)
theorem tV (I:Inv X pins σ H s) (mu:Pc (H a)) (hs:Heap.SameBut a s.heap h') (he:∃ q,h'.get? a=some q) (new:bc X.prog X.w (upd H a ob) h' a ob) :
  Inv X pins σ (upd H a ob) { s with heap:=h',toks:=t' } :=
 I.write (x:=a) (e:=a) mu (.inl rfl) (fun b q hb z=>(hs.2 b hb).trans z) he new
theorem xT (z:kvs.length≤sizeLine) (hd:(a == sysModules)=false) (rel:KV kvs vs) (dd:h'.DictOf (aF P w) a vs) :
  bc P w H' h' a (.dK kvs):=⟨z,hd,vs,rel,dd⟩
theorem Cs (hu:A.units+1<cLine) (I:Inv X pins σ H s) (g:EM H a y v H') (ry:RelV y u) (rv:RelV v r) (h:∀ s',Inv X pins σ H' s'→Q () s') :
  wpAny (model X.prog X.w) A (setItem (.ref a) u r) Q E s:=by
 rcases g with ⟨kvs,k,e,ey,l,eH⟩ | ⟨kvs,k,b,e,ey,eb,l,eH⟩
 ·subst ey eH
  obtain⟨z,hd,vs,rel,dd⟩:=Be I.aJ e
  have hz:vs.length≤sizeLine:=by rw[← rel.length];exact z
  have hl:(putK kvs k v).length≤sizeLine:=by have:=nX kvs k v;omega
  refine wpAny_setItem_pairs (hsz:=hz) (kl ry) dd fun h' Kv hs=>h _ ?_
  have he:∃ q,h'.get? a=some q:=by obtain⟨q,_,_,hq,_⟩:=Kv;exact⟨q,hq⟩
  exact tV I (by rw[e];exact True.intro) hs he (xT hl hd (rel.put k rv) Kv)
 ·exact False.elim (I.aJ _ _ e)
end
section
variable {X:Cx}{pins:List (Addr×Obj)}{σ:St}{H:Hp}{s:Shared}{a:Addr}{kvs:List (Key×V)}{k:Key}{u:Value}{A:Around}{E:Value→Shared→Prop}
theorem P6 (I:Inv X pins σ H s) (e:H a=some (.dK kvs)) (ry:RelV (kV k) u) (l:fX kvs k=some v) (hm:more=[]∨∃ x,more=[x])
  (h:∀ w' s',Inv X pins σ (upd H a (.dK (nW kvs k))) s'→RelV v w'→Q w' s'):wpAny (model X.prog X.w) A (call (.builtin "dict.pop") (.ref a :: u :: more)) Q E s:=by
 obtain⟨z,hd,vs,rel,dd⟩:=Be I.aJ e
 obtain⟨w',hw,rA⟩:=fW.some_of (v:=v) (o:=valueAt vs k) (by rw[← l];exact rel.val k)
 have hp:(keyPart u).isSome=true:=by
  cases k with
  | inl i=>obtain⟨t,q⟩:=(show ∃ t,u=Value.int i t from ry);subst q;rfl
  | inr x=>obtain⟨t,q⟩:=(show ∃ t,u=Value.str x t from ry);subst q;rfl
 have ha:argsOk "dict.pop" ⟨.ref a :: u :: more,[]⟩:=by
  rcases hm with q | ⟨x,q⟩
  ·subst q;exact PySem.F.args_dict_pop_2 _ _
  ·subst q;exact PySem.F.args_dict_pop_3 _ _ _
 refine call_meetsIn PySem.F.slot_dict_pop dd.typeIs PySem.F.entry_dict_pop ha (meets_dict_pop_there (aF X.prog X.w) a (kl ry) more hm hp)
  ⟨vs,w',dd,by rw[← rel.length];exact z,hw,fun h' Kv hs=>h w' _ ?_ rA⟩
 have he:∃ q,h'.get? a=some q:=by obtain⟨q,_,_,hq,_⟩:=Kv;exact⟨q,hq⟩
 exact tV I (by rw[e];exact True.intro) hs he (xT (zG (EL kvs k) z) hd (rel.drop k) Kv)
theorem P7 (I:Inv X pins σ H s) (e:Rd H a (.dK kvs)) (h:∀ t s',Inv X pins σ H s'→Q (.int kvs.length t) s'):wpAny (model X.prog X.w) A (call (.builtin "len") [.ref a]) Q E s:=by
 obtain⟨z,hd,vs,rel,dd⟩:=nY I.aJ e
 refine call_len_dict hd dd (by rw[← rel.length];rw[zR] at z;omega) ?_
 rw[← rel.length]
 exact h _ _ (I.tok _)
end
theorem vG (I:Inv X pins σ H s) (g:oB H a y o):s.TypeIs (.ref a) "dict" := by
 rcases g with ⟨kvs,k,e,_,_⟩ | ⟨kvs,k,b,e,_,_,_⟩
 ·obtain⟨_,_,vs,_,dd⟩:=nY I.aJ e
  exact dd.typeIs
 ·obtain⟨_,_,xs,_,dd⟩:=sR I.aJ e
  exact dd.typeIs
def P8 (td ty tv:TE):TS:=fun D σ H=>tv σ H fun v H1=>td σ H1 fun x H2=>ty σ H2 fun y H3=>∃ a H4,x=.ref a∧EM H3 a y v H4∧D.nx σ H4
section
variable {X:Cx}{o i e value:Expr}{pos pos' Uk:Pos}{td ty tv:TE}
theorem Io (hu:X.A.units+1<cLine) (ho:PE X o td) (hi:PE X i ty) (hv:PE X value tv) (hs:swapsWith value (some (.Subscript o i pos')) pos.line X.env=pure false) :
  PS X (.Assign [.Subscript o i pos'] value pos) (P8 td ty tv):=by
 intro pins s σ H D I h
 refine wpAny_Assign_Subscript (bf (hv pins s σ H _ I h) fun r s1 ⟨v,H1,I1,rv,q1⟩=>bf (ho pins s1 σ H1 _ I1 q1) fun u s2 ⟨x,H2,I2,rx,q2⟩=>bf (hi pins s2 σ H2 _ I2 q2) fun iv s3 ⟨y,H3,I3,ry,a,H4,ex,g,q3⟩=>?_) hs
 subst ex
 obtain rfl:u=Value.ref a:=rx
 exact Cs hu I3 g ry rv fun s4 I4=>⟨σ,H4,I4,q3⟩
end
theorem EN (h:Heap) (hb:sysModules<h.objs.size):bc P w H (h.push { cls:=.type "dict",data:=.dict #[] }) h.objs.size (.dK []) :=
 ⟨yj _,beq_eq_false_iff_ne.mpr (Ne.symm (zr hb)),[],.nil,Heap.DictOf.new h⟩
def MD:TE:=fun _ H Q=>∀ p,H p=none→Q (.ref p) (upd H p (.dK []))
section
variable {X:Cx}{pos:Pos}
theorem EO:PE X (.Dict [] [] pos) MD:=fun pins s σ H Q I h =>
 wpAny_Dict_empty ⟨.ref s.heap.objs.size,_,I.laid (a:=s.heap.objs.size) (o:=.dK []) (t':=s.toks) (fun _ _ q=>zb _ q) (zm _) (EN s.heap I.big),rfl,h _ (I.aJ.fresh (zm _))⟩
end
structure M1 (X:Cx) (o:Expr) (m:Str) (apos:Pos) (e:Expr) (aR:Pos):Prop where
 base:attributeBase o m X.env (eval o X.env)=eval o X.env
 Eh:((backTo aR (starEach [e] X.env)).all (fun x=>!x.1) && (backToKw aR (keywordEach [] X.env)).all (fun x=>x.1.isSome)
  && decide (([e]:List Expr).length+([]:List Keyword).length+(if ([]:List Keyword).isEmpty then 0 else 1)<30))=true
 line:(apos.endLine == aR.line)=true
 trees:backTo aR (starEach [e] X.env)=[(false,eval e X.env)]
structure M2 (X:Cx) (o:Expr) (m:Str) (apos:Pos) (e f:Expr) (aR:Pos):Prop where
 base:attributeBase o m X.env (eval o X.env)=eval o X.env
 Eh:((backTo aR (starEach [e,f] X.env)).all (fun x=>!x.1) && (backToKw aR (keywordEach [] X.env)).all (fun x=>x.1.isSome)
  && decide (([e,f]:List Expr).length+([]:List Keyword).length+(if ([]:List Keyword).isEmpty then 0 else 1)<30))=true
 line:(apos.endLine == aR.line)=true
 trees:backTo aR (starEach [e,f] X.env)=[(false,eval e X.env),(false,eval f X.env)]
def Oz (H:Hp) (a:Addr):Prop:=(∃ kvs,Rd H a (.dK kvs))∨∃ kvs,Rd H a (.dT kvs)
theorem tW (I:Inv X pins σ H s) (d:Oz H a) :
  s.TypeIs (.ref a) "dict" ∧ (∀ b,Value.ref a=.ref b→∃ ob,s.heap.get? b=some ob∧ob.dict=none)∧(a == sysModules)=false:=by
 rcases d with ⟨kvs,e⟩ | ⟨kvs,e⟩
 ·obtain⟨_,hd,vs,_,dd⟩:=nY I.aJ e
  refine⟨dd.typeIs,fun b q=>?_,hd⟩
  cases q
  obtain⟨ob,_,_,h1,h2,_⟩:=dd
  exact⟨ob,h1,h2.2.1⟩
 ·obtain⟨_,hd,xs,_,dd⟩:=sR I.aJ e
  refine⟨dd.typeIs,fun b q=>?_,hd⟩
  cases q
  obtain⟨ob,_,_,h1,h2,_⟩:=dd
  exact⟨ob,h1,h2.2.1⟩
section
variable {X:Cx}{pins:List (Addr×Obj)}{σ:St}{H:Hp}{s:Shared}{a:Addr}{y d:V}{u r:Value}{o:Option V}{A:Around}{E:Value→Shared→Prop}
theorem ME (hu:A.units+1<cLine) (I:Inv X pins σ H s) (g:oB H a y o) (ry:RelV y u) (h:∀ w' s',Inv X pins σ H s'→RelV (o.getD .aw) w'→Q w' s') :
  wpAny (model X.prog X.w) A (call (.builtin "dict.get") [.ref a,u]) Q E s:=by
 rcases g with ⟨kvs,k,e,ey,l⟩ | ⟨kvs,k,b,e,ey,eb,l⟩
 ·subst ey
  obtain⟨z,hd,vs,rel,dd⟩:=nY I.aJ e
  refine call_meetsIn yo dd.typeIs PySem.F.entry_dict_get (PySem.F.args_dict_get_2 _ _) (meets_dict_get (aF X.prog X.w) a (kl ry) hd) ⟨_,dd.mapOf,h _ _ (I.tok _) ?_⟩
  rw[l]
  exact (rel.val k).getD rfl
 ·subst ey
  cases (show u=Value.ref b from ry)
  obtain⟨z,hd,xs,rel,dd⟩:=sR I.aJ e
  refine call_meetsIn yo dd.typeIs PySem.F.entry_dict_get (PySem.F.args_dict_get_2 _ _) (meetsH_dict_get (tupleKind (aF X.prog X.w)) a b hd) ⟨tupleKind_room_in1 hu,k,xs,tU I.aJ eb,dd,h _ _ (I.tok _) ?_⟩
  rw[l]
  exact (rel.val k).getD rfl
theorem MF (hu:A.units+1<cLine) (I:Inv X pins σ H s) (g:oB H a y o) (ry:RelV y u) (rd:RelV d r) (h:∀ w' s',Inv X pins σ H s'→RelV (o.getD d) w'→Q w' s') :
  wpAny (model X.prog X.w) A (call (.builtin "dict.get") [.ref a,u,r]) Q E s:=by
 rcases g with ⟨kvs,k,e,ey,l⟩ | ⟨kvs,k,b,e,ey,eb,l⟩
 ·subst ey
  obtain⟨z,hd,vs,rel,dd⟩:=nY I.aJ e
  refine call_meetsIn yo dd.typeIs PySem.F.entry_dict_get (PySem.F.args_dict_get_3 _ _ _) (meets_dict_get_default (aF X.prog X.w) a (kl ry) hd r) ⟨_,dd.mapOf,h _ _ (I.tok _) ?_⟩
  rw[l]
  exact (rel.val k).getD rd
 ·subst ey
  cases (show u=Value.ref b from ry)
  obtain⟨z,hd,xs,rel,dd⟩:=sR I.aJ e
  refine call_meetsIn yo dd.typeIs PySem.F.entry_dict_get (PySem.F.args_dict_get_3 _ _ _) (meetsH_dict_get_default (tupleKind (aF X.prog X.w)) a b hd r) ⟨tupleKind_room_in1 hu,k,xs,tU I.aJ eb,dd,h _ _ (I.tok _) ?_⟩
  rw[l]
  exact (rel.val k).getD rd
end
def MG (td ty:TE):TE:=fun σ H Q=>td σ H fun x H1=>∃ a,x=.ref a∧Oz H1 a∧ty σ H1 fun y H2=>∃ o,oB H2 a y o∧Q (o.getD .aw) H2
def MH (td ty tx:TE):TE:=fun σ H Q=>td σ H fun x H1=>∃ a,x=.ref a∧Oz H1 a∧ty σ H1 fun y H2=>tx σ H2 fun z H3=>∃ o,oB H3 a y o∧Q (o.getD z) H3
def MI (td ty:TE):TE:=fun σ H Q=>td σ H fun x H1=>∃ a,x=.ref a∧Oz H1 a∧ty σ H1 fun y H2=>∃ kvs k v,H2 a=some (.dK kvs)∧y=kV k∧fX kvs k=some v∧Q v (upd H2 a (.dK (nW kvs k)))
section
variable {X:Cx}{o e f:Expr}{apos aR:Pos}{td ty tx:TE}
theorem ER (hu:X.A.units+1<cLine) (ho:PE X o td) (he:PE X e ty) (m:M1 X o "get" apos e aR):PE X (.Call (.Attribute o "get" apos) [e] [] aR) (MG td ty):=by
 intro pins s σ H Q I h
 refine wpAny_Call_method m.base m.Eh m.line PySem.F.plainAttrs_dict yo PySem.F.type_dict_get (bf (ho pins s σ H _ I h) fun u s1 ⟨x,H1,I1,rx,a,ex,d,q1⟩=>?_)
 subst ex
 obtain rfl:u=Value.ref a:=rx
 obtain⟨t1,t2,_⟩:=tW I1 d
 refine⟨t1,t2,?_⟩
 rw[m.trees]
 refine Calls.callWith_builtin rfl (Calls.evalArgs_plain (yw (bf (he pins s1 σ H1 _ I1 q1) fun iv s2 ⟨y,H2,I2,ry,ov,g,q2⟩=>Calls.spliced_nil ?_)))
 exact ME hu I2 g ry fun w' s3 I3 rA=>⟨_,H2,I3,rA,q2⟩
theorem ES (hu:X.A.units+1<cLine) (ho:PE X o td) (he:PE X e ty) (hf:PE X f tx) (m:M2 X o "get" apos e f aR):PE X (.Call (.Attribute o "get" apos) [e,f] [] aR) (MH td ty tx):=by
 intro pins s σ H Q I h
 refine wpAny_Call_method m.base m.Eh m.line PySem.F.plainAttrs_dict yo PySem.F.type_dict_get (bf (ho pins s σ H _ I h) fun u s1 ⟨x,H1,I1,rx,a,ex,d,q1⟩=>?_)
 subst ex
 obtain rfl:u=Value.ref a:=rx
 obtain⟨t1,t2,_⟩:=tW I1 d
 refine⟨t1,t2,?_⟩
 rw[m.trees]
 refine Calls.callWith_builtin rfl (Calls.evalArgs_plain (yw (bf (he pins s1 σ H1 _ I1 q1) fun iv s2 ⟨y,H2,I2,ry,q2⟩ =>
  yw (bf (hf pins s2 σ H2 _ I2 q2) fun fv s3 ⟨z,H3,I3,rz,ov,g,q3⟩=>Calls.spliced_nil ?_))))
 exact MF hu I3 g ry rz fun w' s4 I4 rA=>⟨_,H3,I4,rA,q3⟩
theorem ET (ho:PE X o td) (he:PE X e ty) (m:M1 X o "pop" apos e aR):PE X (.Call (.Attribute o "pop" apos) [e] [] aR) (MI td ty):=by
 intro pins s σ H Q I h
 refine wpAny_Call_method m.base m.Eh m.line PySem.F.plainAttrs_dict PySem.F.slot_dict_pop PySem.F.type_dict_pop (bf (ho pins s σ H _ I h) fun u s1 ⟨x,H1,I1,rx,a,ex,d,q1⟩=>?_)
 subst ex
 obtain rfl:u=Value.ref a:=rx
 obtain⟨t1,t2,_⟩:=tW I1 d
 refine⟨t1,t2,?_⟩
 rw[m.trees]
 refine Calls.callWith_builtin rfl (Calls.evalArgs_plain (yw (bf (he pins s1 σ H1 _ I1 q1) fun iv s2 ⟨y,H2,I2,ry,kvs,k,v,ea,ey,l,q2⟩=>Calls.spliced_nil ?_)))
 subst ey
 exact P6 I2 ea ry l (.inl rfl) fun w' s3 I3 rA=>⟨v,_,I3,rA,q2⟩
end
section
variable {X:Cx}{pins:List (Addr×Obj)}{σ:St}{H:Hp}{s:Shared}{a:Addr}{kvs:List (Key×V)}{A:Around}{E:Value→Shared→Prop}
end
section
variable {X:Cx}{pins:List (Addr×Obj)}{σ:St}{H:Hp}{s:Shared}{a:Addr}{y:V}{u:Value}{A:Around}{E:Value→Shared→Prop}
end
end L2
namespace Att
open PySem PySem.W PySem.Calls PyProof.Rows
theorem oE:∀ (ns:List Int) (vs:List Value),WellAll P h vs (ns.map WData.int)→IntsAre vs ns:=by
 intro ns
 induction ns with
 | nil =>
  intro vs w
  rw[List.map_nil] at w
  cases w
  exact .nil
 | cons n ns ih =>
  intro vs w
  rw[zA] at w
  cases w with
  | cons a b =>
   cases a
   exact .cons _ _ (ih _ b)
theorem Ct {l:OpenLaw}{n:Nat} (hn:l.most=some n) {P:Params}{h:Heap}{args:List WData}{vals:List Value}
  (Iq:l.row.toRowW.claim.pre args=true) (UD:WellAll P h vals args) :
  ∃ a vs ns,vals=[Value.ref a]∧args=[WData.list (ns.map WData.int)]∧h.get? a=some { cls:=.type "list",data:=.seq vs.toArray }∧IntsAre vs ns∧ns.length≤n:=by
 have Y7:WShape.hasAll [] args [.list .int]=true:=(pre_splitW Iq).1
 have hc:l.pre.holds [] { args:=args }=true:=(pre_splitW Iq).2
 obtain⟨d,r,rfl,h1,h2⟩:=hasAllW_cons Y7
 obtain rfl:=hasAllW_nil h2
 obtain⟨xs,rfl,h3⟩:=hasW_list h1
 obtain⟨ns,rfl⟩:=items_int h3
 have hlen:ns.length≤n:=by
  unfold OpenLaw.pre at hc
  have h4:(WTm.not (.lt (.lit (.int (n:Int))) (.len (.arg 0)))).holds [] { args:=[.list (ns.map .int)] }=true:=by
   have h4:=(holds_andW hc).1
   rw[hn] at h4
   exact h4
  have h5:=condW_of h4 (w_not (w_lt w_lit (w_len_list (w_arg rfl))))
  rw[zc] at h5
  refine Nat.le_of_not_lt fun q=>?_
  have q':(n:Int)<((ns.length:Nat):Int):=by omega
  first
   | (rw[zt q'] at h5;exact absurd h5 (by decide))
   | (simp at h5;omega)
 cases UD with
 | cons w1 w2 =>
  cases w2
  cases w1 with
  | list ho UE=>exact⟨_,_,ns,rfl,rfl,ho,oE ns _ UE,hlen⟩
theorem Cu (l:OpenLaw) (args:List WData):l.row.toRowW.claim.post args (.bool true) args=true :=
 postW_of (r:=l.row.toRowW) (X:=(true == true))
  (show WShape.has [] (.bool true) .bool=true by first | rfl | decide | simp [WShape.has,WShape.arms,WShape.armsAll])
  (show (WTm.eq .res (.lit (.bool true))).value [] { args:=args,res:=some (.bool true),after:=args }=some (.bool (true == true)) from w_eq_bool (w_res rfl) w_lit) rfl
theorem vH {l:OpenLaw}{n:Nat}{q:Program}{loose:List Str}{XP:(Str→Option Value)→Heap→Prop}{YP:World→Heap→Prop}{d:DefRec}
  (hn:l.most=some n) (UG:d.params.defaults=[])
  (call:∀ (w:World) (dr aY:Shared) (mg mb:Str→Option Value) (fa:Addr) (o:Obj) (pm cd doc:Value) (a:Addr) (vs:List Value) (ns:List Int),
   Ground q loose [] XP w dr mg mb aY.heap→YP w aY.heap →
   aY.heap.get? fa=some o→o.data=.func (docDef d.name d.params d.body d.scope pm cd doc)→aY.heap.CodeRec cd d.name→mg d.name=some (.ref fa) →
   aY.heap.get? a=some { cls:=.type "list",data:=.seq vs.toArray }→IntsAre vs ns→ns.length≤n→aY.gens=#[] →
   codeAny (model l.prog w) callerA (.call (.ref fa) ⟨[.ref a],[]⟩) (fun r s'=>r=.ok (.ret (.bool true))∧OldK aY.heap s'.heap∧s'.os=aY.os∧AllBare s'.gens) aY) :
  WalkO q loose XP YP l.row.toRowW d [] (fun f vs=>PySem.call f vs):=by
 intro w dr aY mg mb G Y fa o pm cd doc dV kV ho hd q9 hD MJ hg args vals as Iq Y8 hrd UD Xt
 obtain rfl:dV=.none:=Dflts.none hD UG
 obtain rfl:kV=.none:=Dflts.noKw hD
 obtain⟨a,vs,ns,rfl,rfl,MK,hints,hlen⟩:=Ct hn Iq UD
 refine enter_call (yK (call w dr aY mg mb fa o pm cd doc a vs ns G Y ho (fd_plain hd) q9 MJ MK hints hlen hg) fun r s' hq=>?_)
 obtain⟨rfl,h2,h3,h4⟩:=hq
 exact⟨.inl ⟨.bool true,.bool true,[],rfl,fun _=>rfl,.bool true,Cu l _,fun _=>⟨List.Pairwise.nil,fun _ hm=>(nomatch hm)⟩⟩,h2,h3,h4⟩
section
variable {prog:Program}{w:World}{A:Around}{E:Value→Shared→Prop}{s:Shared}{K:Frag}
end
end Att
namespace L2
open PySem PySem.Spec PyProof.Rows
theorem sS:∀ {vs:List Value}{ns:List Int},IntsAre vs ns→Vals (ns.map V.int) vs
 | _,_,.nil=>.nil
 | _,_,.cons n t h=>.cons ⟨t,rfl⟩ (sS h)
def inClass (s:Stmt) (j:Nat):Stmt:=match s with
 | .ClassDef _ _ _ body _ _ _ _ _ _ _=>body.getD j (.Pass ⟨0,0,0,0⟩)
 | _=>.Pass ⟨0,0,0,0⟩
def cF (s:Stmt):Arguments:=match s with
 | .FunctionDef _ a _ _ _ _ _ _ _ _=>a
 | _=>{ posonlyargs:=[],args:=[],vararg:=none,kwonlyargs:=[],kw_defaults:=[],kwarg:=none,defaults:=[] }
def bN (s:Stmt):List Stmt:=match s with
 | .FunctionDef _ _ b _ _ _ _ _ _ _=>b
 | _=>[]
def ae (s:Stmt):Scope:=match s with
 | .FunctionDef _ _ _ _ _ _ sc _ _ _=>sc
 | _=>{ kind:=.function,names:=[],isGenerator:=false,isCoroutine:=false }
abbrev Su:xN:=fun _ _ _ _ _ _=>False
abbrev E0:XK:=fun _ _ _=>False
structure Fun (K:PySem.W.Frag) (x qual:Str) (st:Stmt) (f:Addr) (fd:FuncData):Prop where
 ex:∃ (oc:Value) (od:Option Addr) (kV doc pm:Value) (an:Option Addr) (bq ct:Value) (Mq:Array (Option Value)),
  fd=fnOf x qual (cF st) (bN st) (ae st) .none kV doc pm an bq ct∧K.lookup f=some ⟨oc,od,.func fd,Mq⟩∧codeIn K bq qual=true
 kp:keepIn K (.ref f)=true
section
variable {P:Program}{w:World}{K:PySem.W.Frag}{mg:Str→Option Value}{base:Heap}
end
theorem gT (h:n≤1000):n<sizeLine:=Nat.lt_of_le_of_lt h (by decide)
section
variable {X:Cx}
theorem Cv:fH X (.builtin "len") (fun xs H Q=>∃ a kvs,xs=[V.ref a]∧H a=some (.dK kvs)∧Q (.int kvs.length) H):=by
 intro pins s σ H xs us Q I r h
 obtain⟨a,kvs,rfl,ha,q⟩:=h
 obtain⟨u,rfl,ru⟩:=vals1 r
 cases ru
 exact P7 I (.inl ha) fun t s' I'=>⟨.int kvs.length,H,I',⟨t,rfl⟩,q⟩
end
theorem bI {A B:Prop} (h:B):if false=true then A else B:=by
 rw[if_neg zd]
 exact h
theorem fI {A B:Prop} (h:A):if true=true then A else B:=by
 rw[if_pos rfl]
 exact h
section
variable {κ:Type} [DecidableEq κ]
theorem lJ:∀ {l:List κ}{k:κ},l.Nodup→¬ k∈l→(l++[k]).Nodup
 | [],k,_,_=>by simp
 | a :: r,k,h,hk=>by
  obtain⟨h1,h2⟩:=zX.mp h
  show (a :: (r++[k])).Nodup
  refine zX.mpr ⟨fun m=>?_,lJ h2 fun m=>hk (ze.mpr (Or.inr m))⟩
  rcases zI.mp m with q | q
  ·exact h1 q
  ·exact hk (ze.mpr (Or.inl (zE.mp q).symm))
end
end L2
set_option maxHeartbeats 4000000
namespace L2
open PySem PySem.Spec PyProof.Rows
section
variable {X:Cx}
def Ei (i j:Str):Bool:=!decide (j.cps.toList<i.cps.toList)
def oF (i j:Str):Bool:=decide (i.cps.toList<j.cps.toList)
def UH (g:Str→Str→Bool):R2:=fun x y H Q=>∃ i j,x=.str i∧y=.str j∧Q (.bl (g i j)) H
theorem Cw:gQ X (compareOp .LtE) (UH Ei):=by
 intro pins s σ H x y v u Q I rx ry h
 obtain⟨i,j,rfl,rfl,q⟩:=h
 obtain⟨t,rfl⟩:=rx
 obtain⟨t',rfl⟩:=ry
 exact P.le_str (aH I q rfl)
theorem Cy:gQ X (compareOp .GtE) (UH fun i j=>Ei j i):=by
 intro pins s σ H x y v u Q I rx ry h
 obtain⟨i,j,rfl,rfl,q⟩:=h
 obtain⟨t,rfl⟩:=rx
 obtain⟨t',rfl⟩:=ry
 exact P.ge_str (aH I q rfl)
theorem Cz:gQ X (compareOp .Gt) (UH fun i j=>oF j i):=by
 intro pins s σ H x y v u Q I rx ry h
 obtain⟨i,j,rfl,rfl,q⟩:=h
 obtain⟨t,rfl⟩:=rx
 obtain⟨t',rfl⟩:=ry
 exact P.gt_str (aH I q rfl)
def Kw (_ j:Int):Prop:=0<j∧j.natAbs.log2<9000
theorem EU:gQ X (binaryOp .FloorDiv) (rI Kw fun i j=>.int (i / j)):=Sm fun i j _ _ _ _ _ hc q=>by
 have hj:j≠0:=by have:=hc.1;omega
 exact floordiv_int hj (by rw[Int.fdiv_eq_ediv_of_nonneg _ (by have:=hc.1;omega)];exact q) (.inl (PyProof.noPylong_of_log2 hc.2))
end
def UI (x:Str):It:=⟨fun i _=>i<x.cps.size,fun i H v H'=>H'=H∧∃ c,x.cps[i]?=some c∧v=.str ⟨#[c]⟩,fun i _=>x.cps.size≤i⟩
theorem vI {P:Program}{w:World}{K:PySem.W.Frag}{tg:Expr}{T:String} (hT:["enumerate", "zip", "dict_itemiterator", "dict_reverseitemiterator", "odict_iterator", "itertools.zip_longest", "itertools.pairwise"].contains T=false) (it:Addr) (x:Str) (t:Tok)
  (W:∀ A':Around,A'.handled=none→Walks P w A' it [it] [it] x.cps.size (SignAt x) (fun i h=>h.IsStrIter it T x t i))
  (UJ:∀ (A:Around) (s:Shared) (E:Value→Shared→Prop) (i:Nat) (Q:Option Value→Shared→Prop),A.handled=none→s.heap.IsStrIter it T x t i→x.cps[i]?=none→(∀ h',Heap.ExtBut it s.heap h'→Q none { s with heap:=h' })→wpAny (model P w) A (pyNext (.ref it)) Q E s)
  (P9:∀ (A:Around) (s:Shared) (E:Value→Shared→Prop) (i:Nat) (Q:Value→Shared→Prop),s.heap.IsStrIter it T x t i→Q (.ref it) s→wpAny (model P w) A (pyIter (.ref it)) Q E s) :
  Turn P w K tg (UI x) [it] it (fun i h=>h.IsStrIter it T x t i) where
 mem:=by simp
 obj:=fun i h st b hb=>by
  have e:b=it:=by simpa using hb
  subst e
  obtain⟨o,e,c,d⟩:=st
  exact⟨o,e,fun v z=>by rw[d] at z;cases z⟩
 keep:=fun i h h' st k=>by
  obtain⟨o,e,c,d⟩:=st
  exact⟨o,k it (by simp) o e,c,d⟩
 item:=by
  intro X hP hw hK hc i pins s σ H E I hf st hg
  subst hP hw hK
  obtain⟨f0,f1,f2,f3,f4,f5⟩:=hf it (by simp)
  refine (W X.A (I.ok.hd hc)).item i s _ _ hg st fun v h' tk hv eZ kk=>?_
  obtain⟨c,u,Ir,rfl⟩:=hv
  have I1:Inv X pins σ H { s with heap:=h',toks:=tk }:=I.turned (fun b o hb e=>kk b o (by simpa using hb) e) f0 f1 f3 f4 f5
  obtain⟨o,e,c',d⟩:=id eZ
  exact⟨_,rfl,sG (s:={ s with heap:=h',toks:=tk }) e c' d hT ⟨.str ⟨#[c]⟩,H,I1,⟨u,rfl⟩,⟨rfl,c,Ir,rfl⟩,eZ,fun b hb=>(hf b hb).1⟩⟩
 done:=by
  intro X hP hw hK hc i pins s σ H E I hf st hg
  subst hP hw hK
  obtain⟨f0,f1,f2,f3,f4,f5⟩:=hf it (by simp)
  have hg:x.cps.size≤i:=hg
  exact UJ X.A s E i _ (I.ok.hd hc) st (by simp;exact hg) fun h' eb=>⟨rfl,I.turned (t':=s.toks) (fun b o hb e=>eb b o hb e) f0 f1 f3 f4 f5⟩
 self:=fun A' i s Q E st h=>P9 A' s E i Q st h
section
variable {X:Cx}{tg:Expr}
def UK (tl:TE):TI:=fun σ H R=>tl σ H fun x H1=>∃ z,x=.str z∧R (UI z) H1
theorem ML {l:Expr}{tl:TE} (hl:PE X l tl):PI X tg l (UK tl):=by
 intro pins s σ H R I h
 refine bf (hl pins s σ H _ I h) fun v s1 ⟨x,H1,I1,r1,q1⟩=>?_
 obtain⟨z,e,q⟩:=q1
 subst e
 obtain⟨t,rfl⟩:=r1
 have fin:∀ (T:String) (_:Turn X.prog X.w X.K tg (UI z) [s1.heap.objs.size] s1.heap.objs.size (fun i h=>h.IsStrIter s1.heap.objs.size T z t i)),
   Ua X pins σ tg R (.ref s1.heap.objs.size) { s1 with heap:=s1.heap.push { cls:=.type T,data:=.fields #[.str z t,.int 0 0] } }:=fun T tn=>by
  refine⟨s1.heap.objs.size,[s1.heap.objs.size],_,_,H1,rfl,I1.kept (t':=s1.toks) fun b o e=>zb _ e,tn,⟨_,zj _ rfl,rfl,rfl⟩,fun b hb=>?_,q⟩
  have e:b=s1.heap.objs.size:=by simpa using hb
  subst e
  exact I1.oz (zm _) (I1.aJ.fresh (zm _))
 cases ha:z.cps.all (·<128)
 ·exact wpAny_pyIter_wide ha (fin _ (vI (by decide) _ z t (fun A' hA=>Walks.strWide hA _ z t) (fun A s E i Q hh st hx hQ=>wpAny_pyNext_wide_end hh st hx hQ) (fun A s E i Q st hq=>wpAny_pyIter_striter_wide st hq)))
 ·exact wpAny_pyIter_ascii ha (fin _ (vI (by decide) _ z t (fun A' hA=>Walks.strAscii hA _ z t) (fun A s E i Q hh st hx hQ=>wpAny_pyNext_ascii_end hh st hx hQ) (fun A s E i Q st hq=>wpAny_pyIter_striter_ascii st hq)))
end
def clOf (cells:List (Str×Addr)) (names:List (Str×NameKind)):List (Str×Addr) :=
 names.foldl (fun cs p=>if p.2 == .free then match cells.lookup p.1 with | some a=>(p.1,a) :: cs | none=>cs else cs) []
theorem pM (cells:List (Str×Addr)):∀ (names:List (Str×NameKind)) (cs:List (Str×Addr)),(∀ x c,cs.lookup x=some c→cells.lookup x=some c) →
  ∀ x c,(names.foldl (fun cs p=>if p.2 == .free then match cells.lookup p.1 with | some a=>(p.1,a) :: cs | none=>cs else cs) cs).lookup x=some c→cells.lookup x=some c
 | [],cs,h=>h
 | (n,k) :: r,cs,h=>by
  rw[yF]
  refine pM cells r _ fun x c e=>?_
  dsimp only at e
  split at e
  ·split at e
   ·rename_i a ha
    rw[zT] at e
    split at e
    ·rename_i hx
     have:=LawfulBEq.eq_of_beq hx
     cases e
     rw[this]
     exact ha
    ·exact h x c e
   ·exact h x c e
  ·exact h x c e
theorem sT (cells:List (Str×Addr)):∀ (names:List (Str×NameKind)) (cs:List (Str×Addr)) (x:Str) (c:Addr),(∀ y c,cs.lookup y=some c→cells.lookup y=some c)→cs.lookup x=some c →
  (names.foldl (fun cs p=>if p.2 == .free then match cells.lookup p.1 with | some a=>(p.1,a) :: cs | none=>cs else cs) cs).lookup x=some c
 | [],cs,x,c,_,h=>h
 | (n,k) :: r,cs,x,c,hs,h=>by
  rw[yF]
  have Sv:∀ y c,(if (k == NameKind.free)=true then match cells.lookup n with | some a=>(n,a) :: cs | none=>cs else cs).lookup y=some c→cells.lookup y=some c:=by
   intro y c e
   split at e
   ·split at e
    ·rename_i a ha
     rw[zT] at e
     split at e
     ·rename_i hx
      have:=LawfulBEq.eq_of_beq hx
      cases e
      rw[this]
      exact ha
     ·exact hs y c e
    ·exact hs y c e
   ·exact hs y c e
  refine sT cells r _ x c Sv ?_
  dsimp only
  split
  ·split
   ·rename_i a ha
    rw[zT]
    split
    ·rename_i hx
     have:=LawfulBEq.eq_of_beq hx
     rw[this] at h
     have:=hs _ _ h
     rw[ha] at this
     exact this
    ·exact h
   ·exact h
  ·exact h
theorem i5 (cells:List (Str×Addr)):∀ (names:List (Str×NameKind)) (cs:List (Str×Addr)) (x:Str) (c:Addr),(∀ y c,cs.lookup y=some c→cells.lookup y=some c)→(x,NameKind.free)∈names→cells.lookup x=some c →
  (names.foldl (fun cs p=>if p.2 == .free then match cells.lookup p.1 with | some a=>(p.1,a) :: cs | none=>cs else cs) cs).lookup x=some c
 | [],cs,x,c,_,h,_=>nomatch h
 | (n,k) :: r,cs,x,c,hs,h,hc=>by
  rw[yF]
  have Sv:∀ y c,(if (k == NameKind.free)=true then match cells.lookup n with | some a=>(n,a) :: cs | none=>cs else cs).lookup y=some c→cells.lookup y=some c:=by
   intro y c e
   split at e
   ·split at e
    ·rename_i a ha
     rw[zT] at e
     split at e
     ·rename_i hx
      have:=LawfulBEq.eq_of_beq hx
      cases e
      rw[this]
      exact ha
     ·exact hs y c e
    ·exact hs y c e
   ·exact hs y c e
  rcases ze.mp h with e | h
  ·cases e
   refine sT cells r _ _ c Sv ?_
   dsimp only
   rw[if_pos (show (NameKind.free == NameKind.free)=true by decide),hc]
   simp [zT]
  ·exact i5 cells r _ x c Sv h hc
theorem gy (h:∀ x∈scope.names,x.2=.free→∃ c,env.cells.lookup x.1=some c):closureFor scope env=pure (clOf env.cells scope.names):=by
 have go:∀ (names:List (Str×NameKind)) (cs:List (Str×Addr)),(∀ x∈names,x.2=.free→∃ c,env.cells.lookup x.1=some c) →
   (forIn names cs fun x r=>match x with | (name,kind)=>if (kind == NameKind.free)=true then do let a ← cellOf env name;pure (ForInStep.yield ((name,a) :: r)) else pure (ForInStep.yield r):Sem (List (Str×Addr))) =
    pure (names.foldl (fun cs p=>if p.2 == .free then match env.cells.lookup p.1 with | some a=>(p.1,a) :: cs | none=>cs else cs) cs):=by
  intro names
  induction names with
  | nil=>intro cs _;rfl
  | cons p r ih =>
   intro cs hp
   obtain⟨n,k⟩:=p
   rw[List.forIn_cons,yF]
   by_cases hk:k=.free
   ·subst hk
    obtain⟨c,hc⟩:=hp _ zu rfl
    have hc:env.cells.lookup n=some c:=hc
    have e1:cellOf env n=pure c:=by unfold cellOf;rw[hc]
    have ef:(NameKind.free == NameKind.free)=true:=by decide
    dsimp only
    rw[if_pos ef,if_pos ef,e1,hc]
    exact ih _ fun x hx=>hp x (zg _ hx)
   ·have MM:(k == NameKind.free)=false:=by simpa using hk
    dsimp only
    rw[MM,if_neg zd,if_neg zd]
    exact ih _ fun x hx=>hp x (zg _ hx)
 have e:=go scope.names [] h
 have e2:closureFor scope env=(forIn scope.names [] (fun x r=>match x with | (name,kind)=>if (kind == NameKind.free)=true then do let a ← cellOf env name;pure (ForInStep.yield ((name,a) :: r)) else pure (ForInStep.yield r)):Sem (List (Str×Addr))) >>= fun cs=>pure cs:=rfl
 rw[e2,e]
 rfl
theorem i6 {env:Env}{names:List (Str×NameKind)}{x:Str} :
  (names.map fun (n,k)=>if (k == NameKind.free && env.scope.kind == .function && env.kindOf n == some .cell) then (n,NameKind.cell) else (n,k)).lookup x =
   (names.lookup x).map fun k=>if (k == NameKind.free && env.scope.kind == .function && env.kindOf x == some .cell) then NameKind.cell else k:=by
 induction names with
 | nil=>rfl
 | cons p r ih =>
  obtain⟨n,k⟩:=p
  rw[zA,zT]
  by_cases hc:(k == NameKind.free && env.scope.kind == .function && env.kindOf n == some .cell)=true
  ·dsimp only
   rw[if_pos hc,zT]
   cases hx:x == n with
   | true =>
    have:=LawfulBEq.eq_of_beq hx
    subst this
    dsimp only [Option.map]
    rw[if_pos hc]
   | false=>exact ih
  ·dsimp only
   rw[if_neg hc,zT]
   cases hx:x == n with
   | true =>
    have:=LawfulBEq.eq_of_beq hx
    subst this
    dsimp only [Option.map]
    rw[if_neg hc]
   | false=>exact ih
def iK (X:Cx) (N:List Str) (scope:Scope) (C:Addr) (s:Shared) (H:Hp) (ex:List Addr) (pn:List (Addr×Obj)):Cx :=
 { X with N:=N,dr:=s,tP:=H,env:=compEnvC scope (clOf X.env.cells scope.names) C X.env,outer:=X.stack,ex:=ex,fn:=fun _=>false,pn:=pn,xe:=fun _ _=>False }
def pick (σ:St) (src:List (Option Nat)):St:=src.map fun o=>match o with | some j=>(σ[j]?).join | none=>none
structure bK (X:Cx) (N:List Str) (src:List (Option Nat)) (scope:Scope):Prop where
 kind:scope.kind=.function
 gz:∀ y∈scope.names,y.2≠.cell
 loc:∀ y∈scope.names,y.2=.local→scope.names.lookup y.1=some .local
 xU:∀ y∈scope.names,y.2=.free→X.env.kindOf y.1=some .cell∨X.env.kindOf y.1=some .free
 len:src.length=N.length
 src:∀ (i j:Nat) (x:Str),src[i]?=some (some j)→N[i]?=some x→X.N[j]?=some x∧scope.names.lookup x=some .free∧Ov X.env.scope x
def Ext (σ aK:St):Prop:=aK.length=σ.length∧∀ (j:Nat) v,σ[j]?=some (some v)→aK[j]?=some (some v)
def xV (g:TG) (src:List (Option Nat)):Prop:=∀ x σ H Q,g x (pick σ src) H Q→g x (pick σ src) H fun aK H'=>Ext (pick σ src) aK∧Q aK H'
def EV (wi:TI) (src:List (Option Nat)) (g:TG) (tc:TT) (te:TE):TE:=fun σ H Q=>wi σ H fun J H1 =>
 ∃ W:Nat→Nat→List V→Hp→Prop,(∃ m,W 0 m [] H1)∧∀ i m out H',W i m out H' →
  (J.stop i H'∧∀ D,H' D=none→Q (.ref D) (upd H' D (.lst out))) ∨
  (J.go i H'∧out.length<sizeLine∧∀ x H2,J.Pr i H' x H2→g x (pick σ src) H2 fun iV H3=>tc iV H3 fun b H4 =>
   if b=true then te iV H4 fun v H5=>∃ m',m'<m∧W (i+1) m' (out++[v]) H5 else ∃ m',m'<m∧W (i+1) m' out H4)
section
variable {X:Cx}{N:List Str}{src:List (Option Nat)}{scope:Scope}{tg iter elt:Expr}{ifs:List Expr}{pos:Pos}{wi:TI}{g:TG}{tc:TT}{te:TE}
def OA (X:Cx) (ifs:List Expr) (t:TT):Prop :=
 ∀ (pins:List (Addr×Obj)) (s:Shared) (σ:St) (H:Hp) (Q:Bool→Hp→Prop),Inv X pins σ H s→t σ H Q →
  wpAny (model X.prog X.w) X.A (forIn ifs true fun c r=>if r=true then do let ok ← isTrue c X.env (eval c X.env);pure (ForInStep.yield ok) else pure (ForInStep.yield r)) (TP X pins σ Q) X.xe s
def P_:TT:=fun _ H Q=>Q true H
theorem Iu:OA X [] P_:=fun pins s σ H Q I h=>wpAny_tests_nil ⟨H,I,h⟩
theorem Iv (h:PT X c t):OA X [c] t:=fun pins s σ H Q I hw=>wpAny_tests_one (h pins s σ H Q I hw)
theorem j5 (OB:∀ x s',EE x s'→notedBy (model prog w) A env (fun e s'=>R (.error e) s') x s') (I:Nat→Shared→Prop)
  (turn:∀ n s,I n s→wpAny (model prog w) A (pyNext it) (fun r aY=>match r with
   | none=>R (.ok .next) aY
   | some v=>wpAny (model prog w) A (letOwnedTupleGo target it v) (fun _ Kx=>wpAny (model prog w) A (assign target env v) (fun _ bS =>
     wpAny (model prog w) A (forIn ifs true fun c r=>if r=true then do let ok ← isTrue c env (eval c env);pure (ForInStep.yield ok) else pure (ForInStep.yield r)) (fun ok xB =>
      if ok=true then wpAny (model prog w) A (eval elt env) (fun x vJ =>
       wpAny (model prog w) A (call (.builtin "list.append") [acc,x]) (fun _ Qa=>∃ m,m<n∧I m Qa) EE vJ) EE xB
      else ∃ m,m<n∧I m xB) EE bS) EE Kx) EE aY) EE s)
  (n:Nat) (h:I n s) :
  codeAny (model prog w) A (.compLoop (.ListComp elt [⟨target,iter,ifs,0⟩] scope pos) 0 it acc env) R s:=by
 refine codeAny_loop rfl I (fun n s hI=>?_) n h
 show wpAny _ A ((compTurn (.ListComp elt [⟨target,iter,ifs,0⟩] scope pos) 0 it acc env).onRaise (fun x=>do noteFrame x env;theTreesLotGoes x)) _ _ s
 refine wpAny_noted ?_
 rw[compTurn_list]
 refine za (wpAny_standAt (za (yz (turn n s hI) (fun r aY h₁=>?_) OB)))
 cases r with
 | none=>exact zf h₁
 | some v =>
  refine za (yz h₁ (fun _ Kx Qb=>?_) OB)
  refine za (yz Qb (fun _ bS UL=>za (yz UL (fun ok xB Qc=>?_) OB)) OB)
  cases ok with
  | false=>exact zf ⟨rfl,Qc⟩
  | true =>
   exact za (za (yz Qc (fun x vJ UM=>za (yz UM (fun _ Qa UN=>zf (zf ⟨rfl,UN⟩)) OB)) OB))
def CompEnd (X:Cx) (pins:List (Addr×Obj)) (σ:St) (Q:VK) (D C:Addr) (s':Shared):Prop :=
 ∃ H' m,Inv X pins σ H' s'∧Q (.ref D) H'∧s'.heap.Ns C m∧H' C=none∧C≠X.env.locals∧X.dr.heap.objs.size≤C∧(∀ x c,X.env.cells.lookup x=some c→c≠C)∧(∀ p∈X.pn++pins,p.1≠C)
theorem sU {pins:List (Addr×Obj)}{bS:Shared}{σ:St}{iW:Hp}{Q:VK}{it:Addr}{fp:List Addr}{tn:Nat→Heap→Prop}{J:It}{E:Value→Shared→Prop} (S:bK X N src scope) (hc:X.calm=true)
  (hg:∀ C s H ex pn,PG (iK X N scope C s H ex pn) tg g) (hx:xV g src) (hi:∀ C s H ex pn,OA (iK X N scope C s H ex pn) ifs tc) (he:∀ C s H ex pn,PE (iK X N scope C s H ex pn) elt te)
  (I:Inv X pins σ iW bS) (T:Turn X.prog X.w X.K tg J fp it tn) (st:tn 0 bS.heap) (ff:∀ b∈fp,oy X pins iW b)
  (W:Nat→Nat→List V→Hp→Prop) (w0:∃ m,W 0 m [] iW)
  (turn:∀ i m out H',W i m out H'→(J.stop i H'∧∀ D,H' D=none→Q (.ref D) (upd H' D (.lst out))) ∨
   (J.go i H'∧out.length<sizeLine∧∀ x H2,J.Pr i H' x H2→g x (pick σ src) H2 fun iV H3=>tc iV H3 fun b H4 =>
    if b=true then te iV H4 fun v H5=>∃ m',m'<m∧W (i+1) m' (out++[v]) H5 else ∃ m',m'<m∧W (i+1) m' out H4))
  {RR:Value→Addr→Result→Shared→Prop} (Y9:∀ D C s',CompEnd X pins σ Q D C s'→RR (.ref D) C (.ok .next) s') :
  wpAny (model X.prog X.w) X.A (newList []) (fun acc xB=>wpAny (model X.prog X.w) X.A (newFunctionEnv scope X.env.globals (clOf X.env.cells scope.names) [] X.env.qual none .none (some X.env)) (fun Qd vJ =>
   codeAny (model X.prog X.w) X.A (.compStart (.ListComp elt [⟨tg,iter,ifs,0⟩] scope pos) 0 (.ref it) acc { Qd with scope:=relabel scope X.env }) (RR acc Qd.locals) vJ) E xB) E bS:=by
 refine yf (wpAny_newFunctionEnv S.gz (by intro y hy;simp at hy) (fun h₁ tX pN=>?_) S.kind)
 dsimp only at tX pN ⊢
 generalize UO:bS.heap.push { cls:=.type "list",dict:=none,data:=.seq ([]:List Value).toArray }=G2 at tX pN ⊢
 have hC:G2.objs.size=bS.heap.objs.size+1:=by rw[← UO,zU]
 have OC:bS.heap.objs.size≠G2.objs.size:=by rw[hC];exact zr (yB _)
 have Iw:bS.heap.objs.size≤G2.objs.size:=by rw[hC];exact yN _
 have old:∀ b o,bS.heap.get? b=some o→h₁.get? b=some o:=fun b o e =>
  pN.extBut b o (zr (zl (zp e) Iw)) (zb _ (UO ▸ zb _ e))
 have pO:h₁.get? bS.heap.objs.size=some { cls:=.type "list",dict:=none,data:=.seq ([]:List Value).toArray }:=pN.extBut _ _ OC (zb _ (UO ▸ zj _ rfl))
 generalize hCC:G2.objs.size=C at hC OC Iw tX pN ⊢
 have lK:bS.heap.objs.size≤C:=Iw
 generalize hD:bS.heap.objs.size=D at hC OC Iw pO ⊢
 have iL:∀ x c,(clOf X.env.cells scope.names).lookup x=some c→X.env.cells.lookup x=some c:=pM X.env.cells scope.names [] (by intro x c h;simp at h)
 have EW:∀ x c,X.env.cells.lookup x=some c→c<bS.heap.objs.size:=fun x c e=>by obtain⟨v,q⟩:=I.cell x c e;exact q.lt
 have MN:∀ b∈fp,b<bS.heap.objs.size:=fun b hb=>by
  obtain⟨o,e,_⟩:=T.obj _ _ st b hb
  exact zp e
 -- the block's context
 have ok:(iK X N scope C bS iW fp (X.pn++pins)).Ok:=by
  refine⟨I.ok.mod,S.kind,I.ok.glob,I.ok.blt,lK,fun x y c h1 h2=>I.ok.inj x y c (iL _ _ h1) (iL _ _ h2),fun x hk=>?_,fun x c h=>(nomatch h),I.ok.hd,I.ok.frames,.inl rfl,fun b hb=>⟨?_,fun x c h=>?_⟩,
   I.bs,zG I.ok.HJ I.sz,fun b o e hb=>?_,fun b hb hf=>?_,I.stack,I.o_⟩
  ·-- cells for the names
   have hk:(relabel scope X.env).names.lookup x=some .cell∨(relabel scope X.env).names.lookup x=some .free:=hk
   unfold relabel at hk
   dsimp only at hk
   rw[i6] at hk
   cases hl:scope.names.lookup x with
   | none=>rw[hl] at hk;rcases hk with z | z <;> cases z
   | some k =>
    rw[hl] at hk
    have hm:=ya hl
    have Qe:k=.free:=by
     by_cases Qe:k=.free
     ·exact Qe
     ·exfalso
      have e1:(k == NameKind.free)=false:=by simpa using Qe
      simp only [Option.map,e1,zP,Bool.false_eq_true,if_false] at hk
      rcases hk with z | z
      ·exact S.gz _ hm (zO z)
      ·exact Qe (zO z)
    subst Qe
    obtain⟨c,Ir⟩:=I.ok.has x (S.xU _ hm rfl)
    exact⟨c,i5 X.env.cells scope.names [] x c (by intro x c h;simp at h) hm Ir⟩
  ·exact zr (zl (MN b hb) lK)
  ·exact (ff b hb).2.2.2.2.1 x c (iL _ _ h)
  ·have q:b∈X.ex∨X.dr.heap.objs.size≤b:=(ff b hb).2.2.2.1
   rcases q with q | q
   ·exact I.ok.LG b o e q
   ·exact absurd (zl (zp e) (zG I.ok.HJ q)) (yg _)
  ·rcases ze.mp (I.mF b hf) with z | z
   ·exact (ff b hb).2.1 z
   ·exact (ff b hb).2.2.1 z
 have Qf:∀ p∈X.pn++pins,p.1∉ow X.stack:=fun p hp z=>by
  obtain⟨_,_,ne,nf,_⟩:=I.pin p hp
  rcases ze.mp (I.mF _ z) with q | q
  ·exact ne q
  ·exact nf q
 have EX:∀ p∈X.pn++pins,p.1<bS.heap.objs.size:=fun p hp=>zp (I.pin p hp).1
 have Qg:∀ b∈ow X.stack,b<bS.heap.objs.size:=fun b hb=>by
  rcases ze.mp (I.mF b hb) with z | z
  ·rw[z];exact I.lt
  ·obtain⟨_,o,ho,_⟩:=I.ok.ox.mem z
   exact zl (zp ho) I.sz
 have UP:∀ (i:Nat) (x:Str) (v:V),N[i]?=some x→(pick σ src)[i]?=some (some v)→∃ u c,RelV v u∧(clOf X.env.cells scope.names).lookup x=some c∧bS.heap.IsCell c (some u)∧scope.names.lookup x=some .free:=fun i x v e1 e2=>by
  unfold pick at e2
  rw[zx] at e2
  cases es:src[i]? with
  | none=>rw[es] at e2;cases e2
  | some o =>
   rw[es] at e2
   cases o with
   | none=>cases e2
   | some j =>
    have e3:(σ[j]?).join=some v:=zO e2
    have e4:σ[j]?=some (some v):=by
     cases q:σ[j]? with
     | none=>rw[q] at e3;cases e3
     | some z=>rw[q] at e3;exact congrArg some e3
    obtain⟨a1,a2,a3⟩:=S.src i j x es e1
    obtain⟨m0,_,hl⟩:=I.loc
    obtain⟨u,r,l⟩:=hl j x v a1 e4 a3
    have hm:=ya a2
    have hk:=S.xU _ hm rfl
    rcases l with ⟨k,_⟩ | ⟨_,c,Ir,z⟩
    ·rcases hk with hk | hk <;> (rw[k] at hk;cases hk)
    ·exact⟨u,c,r,i5 X.env.cells scope.names [] x c (by intro x c h;simp at h) hm Ir,z,a2⟩
 have kinds:∀ x,scope.names.lookup x=some .free→(compEnvC scope (clOf X.env.cells scope.names) C X.env).kindOf x=some .cell∨(compEnvC scope (clOf X.env.cells scope.names) C X.env).kindOf x=some .free:=fun x hx=>by
  show (relabel scope X.env).names.lookup x=some .cell∨(relabel scope X.env).names.lookup x=some .free
  unfold relabel
  dsimp only
  rw[i6,hx]
  dsimp only [Option.map]
  split
  ·exact .inl rfl
  ·exact .inr rfl
 have Ic:Inv (iK X N scope C bS iW fp (X.pn++pins)) [] (pick σ src) iW { bS with heap:=h₁,toks:=bS.toks+([]:List (Str×Value)).length }:=by
  refine⟨ok,rfl,I.bare,Un.kept old,⟨_,tX,fun i x v e1 e2 e3=>?_⟩,fun x c e=>?_,I.aJ.fresh lK,fun x c e=>I.f6 x c (iL x c e),fun p hp=>?_,I.aJ.kept old,?_⟩
  ·obtain⟨u,c,r,e5,⟨o,ho,hd⟩,hf⟩:=UP i x v e1 e2
   exact⟨u,r,.inr ⟨kinds x hf,c,e5,⟨o,old _ _ ho,hd⟩⟩⟩
  ·obtain⟨v,o,ho,hd⟩:=I.cell x c (iL x c e)
   exact⟨v,o,old _ _ ho,hd⟩
  ·have hp:p∈X.pn++pins:=by simpa [iK] using hp
   obtain⟨e,n,_,_,d⟩:=I.pin p hp
   exact⟨old _ _ e,n,zr (zl (EX p hp) lK),Qf p hp,d⟩
  ·show (pick σ src).length=N.length
   unfold pick
   rw[zc,S.len]
 have vK:bS.heap.objs.size≤D:=Nat.le_of_eq hD
 have MO:D∉ow X.stack:=fun z=>absurd (zl (Qg D z) vK) (yg _)
 have Ky:D∉fp:=fun z=>absurd (zl (MN D z) vK) (yg _)
 have oz:∀ {pl:List (Addr×Obj)}{H':Hp},(∀ b∈fp,H' b=none)→(∀ p∈pl,p.1∉fp)→∀ b∈fp,oy (iK X N scope C bS iW fp (X.pn++pins)) pl H' b:=fun {pl H'} hn gM b hb=>by
  obtain⟨f0,f1,f2,f3,f4,f5⟩:=ff b hb
  refine⟨hn b hb,zr (zl (MN b hb) lK),fun z=>?_,.inl hb,fun x c e=>f4 x c (iL x c e),fun p hp=>?_⟩
  ·rcases ze.mp (I.mF b z) with q | q
   ·exact f1 q
   ·exact f2 q
  ·have hp:p∈(X.pn++pins)++pl:=hp
   rcases zI.mp hp with hp | hp
   ·exact f5 p hp
   ·exact fun z=>gM p hp (z ▸ hb)
 -- back in the def's own frame
 have back:∀ {s':Shared}{H':Hp}{out:List V}{ay:List Value}{nn:Nat}{aK:St},Inv (iK X N scope C bS iW fp (X.pn++pins)) [] aK H' s'→H' D=none→out.length≤sizeLine→Vals out ay →
   s'.heap.get? D=some { cls:=.type "list",data:=.seq ay.toArray nn }→(∀ D,H' D=none→Q (.ref D) (upd H' D (.lst out)))→CompEnd X pins σ Q D C s':=fun {s' H' out ay nn aK} I' hn hl hv ho q=>by
  obtain⟨m,hm,_⟩:=I'.loc
  have un:Un (ow X.stack) fp iW H' bS.heap s'.heap:=I'.base
  have Y_:∀ b o,bS.heap.get? b=some o→b≠D:=fun b o e=>zr (zl (zp e) vK)
  have fD:iW D=none:=I.aJ.fresh vK
  refine⟨upd H' D (.lst out),m,?_,q D hn,hm,by rw[av (Ne.symm OC)];exact I'.free,yc (zl I.lt lK),zG I.sz lK,fun x c e=>zr (zl (EW x c e) lK),fun p hp=>zr (zl (EX p hp) lK)⟩
  refine I.Pj (ch:=fp) I'.os ⟨un.keep,un.slot,fun b o e n hb=>?_,un.there,fun b xs e=>?_,fun b o u e=>?_,fun b ps e=>?_⟩ (fun b o e=>?_) I'.bare fun b hb=>?_
  ·rw[av (Y_ b o e)];exact un.free b o e n hb
  ·rw[av (aC e fD)];exact un.lE b xs e
  ·rw[av (aC e fD)];exact un.kz b o u e
  ·rw[av (aC e fD)];exact un.kB b ps e
  ·by_cases hb:b=D
   ·subst hb
    rw[aE] at e
    cases e
    exact⟨hl,ay,nn,hv,ho⟩
   ·rw[av hb] at e
    refine (I'.aJ b o e).ou (fun c v _ q=>q) (fun c q=>?_) fun c xs q=>?_
    ·rw[av (aC q hn)];exact q
    ·rw[av (aC q hn)];exact q
  ·obtain⟨f0,f1,f2,f3,f4,f5⟩:=ff b hb
   exact⟨f3,f1,f4,f5⟩
 obtain⟨m0,w0⟩:=w0
 have loop:∀ vJ:Shared,vJ={ bS with heap:=h₁,toks:=bS.toks+([]:List (Str×Value)).length } →
   codeAny (model X.prog X.w) X.A (.compLoop (.ListComp elt [⟨tg,iter,ifs,0⟩] scope pos) 0 (.ref it) (.ref D) (compEnvC scope (clOf X.env.cells scope.names) C X.env)) (RR (.ref D) C) vJ:=by
  rintro vJ rfl
  refine j5 (EE:=fun _ _=>False) (fun _ _ f=>f.elim) (fun n s'=>∃ i out ay nn H',Inv (iK X N scope C bS iW fp (X.pn++pins)) [] (pick σ src) H' s'∧H' D=none∧out.length≤sizeLine∧Vals out ay ∧
   s'.heap.get? D=some { cls:=.type "list",data:=.seq ay.toArray nn }∧tn i s'.heap∧(∀ b∈fp,H' b=none)∧W i n out H') ?_ m0
   ⟨0,[],[],0,iW,Ic,I.aJ.fresh vK,yj _,.nil,pO,T.keep _ _ _ st fun b hb o e=>old b o e,fun b hb=>(ff b hb).1,w0⟩
  rintro n s3 ⟨i,out,ay,nn,H3,I3,Xu,UQ,Sw,Za,Px,Py,w3⟩
  have MP:∀ (ay:List Value) (nn:Nat) (v:Option Value),({ cls:=.type "list",data:=.seq ay.toArray nn } : Obj).data≠.cell v:=fun _ _ _ z=>nomatch z
  have Xv:Inv (iK X N scope C bS iW fp (X.pn++pins)) [(D,{ cls:=.type "list",data:=.seq ay.toArray nn })] (pick σ src) H3 s3:=I3.lF fun p hp=>by
   have e:p=(D,{ cls:=.type "list",data:=.seq ay.toArray nn }):=by simpa using hp
   subst e
   exact⟨Za,Xu,OC,MO,MP ay nn⟩
  have UR:∀ p∈[((D,{ cls:=.type "list",data:=.seq ay.toArray nn }):Addr×Obj)],p.1∉fp:=fun p hp=>by
   have e:p=(D,{ cls:=.type "list",data:=.seq ay.toArray nn }):=by simpa using hp
   subst e
   exact Ky
  rcases turn i n out H3 w3 with ⟨stop,qn⟩ | ⟨go,fz,step⟩
  ·refine bf (T.done (iK X N scope C bS iW fp (X.pn++pins)) rfl rfl rfl hc i _ s3 _ H3 _ Xv (oz Py UR) Px stop) fun r s4 ⟨hr,I4⟩=>?_
   subst hr
   have p4:=(I4.pin (D,{ cls:=.type "list",data:=.seq ay.toArray nn }) (zy _ (by simp))).1
   exact Y9 D C s4 (back (I4.lF (pins':=[]) fun p hp=>nomatch hp) Xu UQ Sw p4 qn)
  ·refine bf (T.item (iK X N scope C bS iW fp (X.pn++pins)) rfl rfl rfl hc i _ s3 _ H3 _ Xv (oz Py UR) Px go) fun r s4 ⟨u,hr,h4⟩=>?_
   subst hr
   refine bf h4 fun _ s5 ⟨x,H5,I5,r5,y5,st5,fr5⟩=>?_
   have Ud:=I5.pinned (oz fr5 UR) (T.obj _ _ st5)
   refine bf (hg _ _ _ _ _ _ s5 _ H5 x u _ Ud r5 (hx x σ H5 _ (step x H5 y5))) fun _ s6 ⟨Pz,H6,I6,e6,q6⟩=>?_
   have fin:∀ {s7:Shared}{H7:Hp},Inv (iK X N scope C bS iW fp (X.pn++pins)) ([(D,{ cls:=.type "list",data:=.seq ay.toArray nn })]++pC fp s5.heap) Pz H7 s7 →
     Inv (iK X N scope C bS iW fp (X.pn++pins)) [] (pick σ src) H7 s7∧H7 D=none∧s7.heap.get? D=some { cls:=.type "list",data:=.seq ay.toArray nn }∧tn (i+1) s7.heap∧∀ b∈fp,H7 b=none:=fun {s7 H7} I7=>by
    have pD:=I7.pin (D,{ cls:=.type "list",data:=.seq ay.toArray nn }) (zy _ (by simp))
    refine⟨(I7.lF (pins':=[]) fun p hp=>nomatch hp).weak e6.1.symm e6.2,pD.2.1,pD.1,T.keep _ _ _ st5 fun b hb o e=>(I7.pin (b,o) (zy _ (zy _ (h_ hb e)))).1,fun b hb=>?_⟩
    obtain⟨o,e,d⟩:=T.obj _ _ st5 b hb
    exact (I7.pin (b,o) (zy _ (zy _ (h_ hb e)))).2.1
   refine bf (hi _ _ _ _ _ _ s6 Pz H6 _ I6 q6) fun b s7 ⟨H7,I7,q7⟩=>?_
   cases b with
   | false =>
    rw[if_neg zd] at q7 ⊢
    obtain⟨m',hm,w7⟩:=q7
    obtain⟨J7,d7,o7,t7,f7⟩:=fin I7
    exact⟨m',hm,i+1,out,ay,nn,H7,J7,d7,UQ,Sw,o7,t7,f7,w7⟩
   | true =>
    rw[if_pos rfl] at q7 ⊢
    refine bf (he _ _ _ _ _ _ s7 Pz H7 _ I7 q7) fun v s8 ⟨y,H8,I8,r8,m',hm,w8⟩=>?_
    obtain⟨J8,d8,o8,t8,f8⟩:=fin I8
    have hsz:ay.toArray.size≤sizeLine:=by rw[zk,← Sw.length];exact UQ
    refine wpAny_list_append_plain (items:=ay.toArray) (hsz:=hsz) ⟨nn,o8⟩ fun h9 ⟨n9,e9⟩ sb=>?_
    have J9:Inv (iK X N scope C bS iW fp (X.pn++pins)) [] (pick σ src) H8 { s8 with heap:=h9 }:=J8.turned (t':=s8.toks) (it:=D) (fun b o hb e=>(sb.2 b hb).trans e) d8 OC (.inr vK) (fun x c e=>zr (zl (EW x c (iL x c e)) vK)) fun p hp=>by
     have hp:p∈X.pn++pins:=by simpa [iK] using hp
     exact zr (zl (EX p hp) vK)
    refine⟨m',hm,i+1,out++[y],ay++[v],n9,H8,J9,d8,?_,Sw.append (.cons r8 .nil),?_,T.keep _ _ _ t8 fun b hb o e=>(sb.2 b (fun z=>Ky (z ▸ hb))).trans e,f8,w8⟩
    ·rw[zC];exact fz
    ·rw[e9];simp
 exact codeAny_compStart_list (loop _ rfl) (T.self _ _ _ _ _ (T.keep _ _ _ st fun b hb o e=>old b o e) (loop _ rfl))
theorem Iy (S:bK X N src scope) (hc:X.calm=true) (hit:PI X tg iter wi)
  (hg:∀ C s H ex pn,PG (iK X N scope C s H ex pn) tg g) (hx:xV g src) (hi:∀ C s H ex pn,OA (iK X N scope C s H ex pn) ifs tc) (he:∀ C s H ex pn,PE (iK X N scope C s H ex pn) elt te)
  (hs:∀ x,foldedSetIterable iter X.env x=pure x:=by intro _;rfl):PE X (.ListComp elt [⟨tg,iter,ifs,0⟩] scope pos) (EV wi src g tc te):=by
 intro pins s σ H Q I h
 rw[eval_ListComp]
 have Bf:closureFor scope X.env=pure (clOf X.env.cells scope.names):=gy fun y hy hf=>I.ok.has y.1 (S.xU y hy hf)
 refine wpAny_comprehension_free (use:=none) rfl hs Bf S.kind S.loc (bf (hit pins s σ H _ I h) fun v s1 h1=>bf h1 fun Sk s2 h2=>?_)
 obtain⟨it,fp,tn,J,H2,e,I2,T,Pw,f2,W,w0,turn⟩:=h2
 subst e
 refine sU (RR:=fun acc C=>compPost (model X.prog X.w) X.A X.xe none (EP X pins σ Q) acc C) S hc hg hx hi he I2 T Pw f2 W w0 turn fun D C s' ⟨H',m,I',q,hm,hn,h1,h2,h3,h4⟩=>?_
 exact⟨m,hm,fun h' sb=>⟨.ref D,H',I'.turned (t':=s'.toks) (it:=C) (fun b o hb e=>(sb.2 b hb).trans e) hn h1 (.inr h2) h3 h4,rfl,q⟩⟩
theorem xW {i:Nat}{x:Str}{pos' Iz:Pos} (hN:X.N.Nodup) (US:X.N[i]?=some x) (Sy:X.env.scope.names.lookup x=some .local)
  (S:bK X N src scope) (hc:X.calm=true) (hit:PI X tg iter wi)
  (hg:∀ C s H ex pn,PG (iK X N scope C s H ex pn) tg g) (hx:xV g src) (hi:∀ C s H ex pn,OA (iK X N scope C s H ex pn) ifs tc) (he:∀ C s H ex pn,PE (iK X N scope C s H ex pn) elt te)
  (UT:swapsWith (.ListComp elt [⟨tg,iter,ifs,0⟩] scope pos) (some (.Name x pos')) Iz.line X.env=pure true:=by rfl)
  (hs:∀ x,foldedSetIterable iter X.env x=pure x:=by intro _;rfl):PS X (.Assign [.Name x pos'] (.ListComp elt [⟨tg,iter,ifs,0⟩] scope pos) Iz) (LY (EV wi src g tc te) (iJ i)):=by
 intro pins s σ H D I h
 rw[exec_Assign_Name_used _ _ _ _ UT]
 refine za (wpAny_standAt (za ?_))
 have Bf:closureFor scope X.env=pure (clOf X.env.cells scope.names):=gy fun y hy hf=>I.ok.has y.1 (S.xU y hy hf)
 show wpAny _ X.A (do let _ ← comprehension (.ListComp elt [⟨tg,iter,ifs,0⟩] scope pos) scope X.env _ (newList []) false (eval iter X.env) (some (assign (.Name x pos') X.env))) _ _ s
 refine za (yz (wpAny_comprehension_free (use:=some (assign (.Name x pos') X.env)) (Q:=fun _ s'=>∃ aK H',Inv X pins aK H' s'∧D.nx aK H') rfl hs Bf S.kind S.loc (bf (hit pins s σ H _ I h) fun v s1 h1=>bf h1 fun Sk s2 h2=>?_))
  (fun _ s' hq=>zf (zf hq)) fun _ _ e=>e)
 obtain⟨it,fp,tn,J,H2,e,I2,T,Pw,f2,W,w0,turn⟩:=h2
 subst e
 refine sU (Q:=fun v H1=>D.nx (σ.set i (some v)) H1) (RR:=fun acc C=>compPost (model X.prog X.w) X.A X.xe (some (assign (.Name x pos') X.env)) (fun _ s'=>∃ aK H',Inv X pins aK H' s'∧D.nx aK H') acc C) S hc hg hx hi he I2 T Pw f2 W w0 turn fun D' C s' ⟨H',m,I',q,hm,hn,h1,h2,h3,h4⟩=>?_
 show wpAny _ X.A (assign (.Name x pos') X.env (.ref D')) _ _ _
 refine wpAny_assign_Name (sF I' hN US (.inl Sy) (v:=.ref D') rfl (fun xO Zb ⟨a,sb,ha⟩=>?_) (.inr Sy))
 have Zc:C≠a:=by
  rcases ha with ha | ha
  ·rw[ha];exact h1
  ·exact Ne.symm (h3 _ _ ha)
 refine⟨m,hm.sameBut sb Zc,fun h'' Bg=>⟨_,H',Zb.turned (t':=xO.toks) (it:=C) (fun b o hb e=>(Bg.2 b hb).trans e) hn h1 (.inr h2) h3 h4,q⟩⟩
end
theorem mL {σ:St}{src:List (Option Nat)}{i:Nat} (h:src[i]?=some none):(pick σ src)[i]?=some none:=by
 unfold pick
 rw[zx,h]
 rfl
theorem Ext.set (h:σ0[i]?=some none) (e:Ext σ0 σ):Ext σ0 (σ.set i (some v)):=by
 refine⟨by rw[List.length_set];exact e.1,fun j w hj=>?_⟩
 have:i≠j:=by
  rintro rfl
  rw[h] at hj
  cases hj
 rw[List.getElem?_set_ne this]
 exact e.2 j w hj
theorem Ext.refl (σ:St):Ext σ σ:=⟨rfl,fun _ _ h=>h⟩
theorem bt {src:List (Option Nat)}{i:Nat} (h:src[i]?=some none):xV (iJ i) src:=fun x σ H Q q=>⟨(Ext.refl _).set (mL h),q⟩
theorem tY {K:PySem.W.Frag}{n:Nat}{src:List (Option Nat)}{i j:Nat} (h:src[i]?=some none) (h':src[j]?=some none):xV (HR K n (pA (iJ i) (pA (iJ j) HQ))) src:=fun x σ H Q q=>by
 obtain⟨a,xs,e1,hs,hl,v,r,e2,v2,r2,e3,e4,q⟩:=q
 exact⟨a,xs,e1,hs,hl,v,r,e2,v2,r2,e3,e4,((Ext.refl _).set (mL h)).set (mL h'),q⟩
theorem all_bools {xs:List V}{ay:List Value}{bs:List Bool} (hv:Vals xs ay) (hb:xs=bs.map V.bl):∀ (i:Nat) (v:Value),ay.toArray[i]?=some v→v=Value.bool ((bs[i]?).getD false):=by
 subst hb
 intro i v h
 have h':ay[i]?=some v:=by simpa using h
 have hl:=hv.length
 rw[zc] at hl
 have hi:i<ay.length:=(zo.mp h').1
 have hb:bs[i]?=some (bs[i]'(by omega)):=by simp
 obtain⟨u,hu,r⟩:=hv.get (i:=i) (x:=V.bl (bs[i]'(by omega))) (by rw[zx,hb];rfl)
 rw[h'] at hu
 cases hu
 rw[hb]
 exact r
theorem range_all {bs:List Bool} : (List.range bs.length).all (fun i=>(bs[i]?).getD false)=bs.all id:=by
 rw[yu,ym,ym]
 constructor
 ·intro h b hb
  obtain⟨i,hi,rfl⟩:=List.mem_iff_getElem.mp hb
  have:=h i (zS.mpr hi)
  simpa [hi] using this
 ·intro h i hi
  have hi:=zS.mp hi
  simpa [hi] using h _ (List.getElem_mem hi)
theorem range_any {bs:List Bool} : (List.range bs.length).any (fun i=>(bs[i]?).getD false)=bs.any id:=by
 rw[yu,List.any_eq_true,List.any_eq_true]
 constructor
 ·rintro⟨i,hi,h⟩
  have hi:=zS.mp hi
  exact⟨bs[i],List.getElem_mem hi,by simpa [hi] using h⟩
 ·rintro⟨b,hb,h⟩
  obtain⟨i,hi,rfl⟩:=List.mem_iff_getElem.mp hb
  exact⟨i,zS.mpr hi,by simpa [hi] using h⟩
section
variable {X:Cx}
theorem rC (hc:X.calm=true):fH X (.builtin "all") (fun xs H Q=>∃ (a:Addr) (bs:List Bool),xs=[.ref a]∧gL X.K H a (bs.map V.bl)∧Q (.bl (bs.all id)) H):=by
 intro pins s σ H xs us Q I r h
 obtain⟨a,bs,rfl,hq,q⟩:=h
 obtain⟨u,rfl,ru⟩:=vals1 r
 cases ru
 obtain⟨ay,rv,p,hz⟩:=I.list hq
 have hl:=rv.length
 rw[zc] at hl
 refine call_all_walk (wpAny_pyIter_list p.isList ?_)
 refine⟨s.heap.objs.size,_,_,_,_,_,fun i=>(bs[i]?).getD false,rfl,Walks.list (A:=X.A.in1) (I.ok.hd hc) s.heap.objs.size a (zr p.lt) ay.toArray,⟨⟨_,zj _ rfl,rfl,rfl⟩,p.isList.at fun o e=>zb _ e⟩,?_,fun h' tk hk=>?_⟩
 ·intro i v s' Q' E' hv hQ
  rw[all_bools rv rfl i v hv]
  exact yn hQ
 ·have e:ay.toArray.size=bs.length:=by rw[zk,← hl]
  rw[e,range_all]
  exact⟨.bl (bs.all id),H,I.kept (h':=h') (t':=tk) (fun b o e=>hk b o (by simpa using zr (zp e)) (zb _ e)),rfl,q⟩
theorem rD (hc:X.calm=true):fH X (.builtin "any") (fun xs H Q=>∃ (a:Addr) (bs:List Bool),xs=[.ref a]∧gL X.K H a (bs.map V.bl)∧Q (.bl (bs.any id)) H):=by
 intro pins s σ H xs us Q I r h
 obtain⟨a,bs,rfl,hq,q⟩:=h
 obtain⟨u,rfl,ru⟩:=vals1 r
 cases ru
 obtain⟨ay,rv,p,hz⟩:=I.list hq
 have hl:=rv.length
 rw[zc] at hl
 refine call_any_walk (wpAny_pyIter_list p.isList ?_)
 refine⟨s.heap.objs.size,_,_,_,_,_,fun i=>(bs[i]?).getD false,rfl,Walks.list (A:=X.A.in1) (I.ok.hd hc) s.heap.objs.size a (zr p.lt) ay.toArray,⟨⟨_,zj _ rfl,rfl,rfl⟩,p.isList.at fun o e=>zb _ e⟩,?_,fun h' tk hk=>?_⟩
 ·intro i v s' Q' E' hv hQ
  rw[all_bools rv rfl i v hv]
  exact yn hQ
 ·have e:ay.toArray.size=bs.length:=by rw[zk,← hl]
  rw[e,range_any]
  exact⟨.bl (bs.any id),H,I.kept (h':=h') (t':=tk) (fun b o e=>hk b o (by simpa using zr (zp e)) (zb _ e)),rfl,q⟩
end
def ownOf:HO→Option Addr
 | .ins _ dx _=>some dx
 | .ku _ u=>ownOf u
 | _=>none
structure Fg (H H' G:Hp):Prop where
 sub:∀ b o,G b=some o→H' b=some o
 dom:∀ b o,H b=some o→∃ o',G b=some o'
 own:∀ a o dx,G a=some o→ownOf o=some dx→(∃ o',H a=some o'∧ownOf o'=some dx)∨∃ o',G dx=some o'
section
variable {X:Cx}{pins:List (Addr×Obj)}{σ aK:St}{H H' G:Hp}{s s':Shared}
end
theorem ba:bootBuiltins "len" = some (.builtin "len"):=PySem.boot_len
theorem ib:bootBuiltins "all" = some (.builtin "all"):=boot_all
theorem MQ:bootBuiltins "any" = some (.builtin "any"):=boot_any
theorem au:bootBuiltins "isinstance" = some (.builtin "isinstance"):=boot_isinstance
theorem xX:bootBuiltins "int" = some (.type "int"):=PyProof.Rows.boot_int
theorem IA:bootBuiltins "bool" = some (.type "bool"):=PyProof.Rows.boot_bool
theorem i7:bootBuiltins "str" = some (.type "str"):=PyProof.Rows.boot_str
theorem bT:bootBuiltins "tuple" = some (.type "tuple"):=PyProof.Rows.boot_tuple
theorem IB:bootBuiltins "list" = some (.type "list"):=PyProof.Rows.boot_list
theorem IC:bootBuiltins "dict" = some (.type "dict"):=PyProof.Rows.boot_dict
theorem MR:bootBuiltins "set" = some (.type "set"):=PyProof.Rows.boot_set
inductive Kd where
 | aw | bl | int | str | lst | tup | du
 deriving DecidableEq
def Kd.name:Kd→String
 | .aw => "NoneType" | .bl => "bool" | .int => "int" | .str => "str" | .lst => "list" | .tup => "tuple" | .du => "dict"
inductive pP (H:Hp):V→Kd→Prop where
 | aw:pP H .aw .aw
 | bl (b:Bool):pP H (.bl b) .bl
 | int (i:Int):pP H (.int i) .int
 | str (x:Str):pP H (.str x) .str
 | lst {a:Addr}{xs:List V} (e:H a=some (.lst xs)):pP H (.ref a) .lst
 | tup {a:Addr}{xs:List V} (e:H a=some (.tup xs)):pP H (.ref a) .tup
 | du {a:Addr}{kvs:List (Key×V)} (e:H a=some (.dK kvs)):pP H (.ref a) .du
theorem pP.ty {K:PySem.W.Frag}{H:Hp}{x:V}{k:Kd} (h:pP H x k):mH K H x (.type k.name):=by
 cases h with
 | aw=>exact .aw
 | bl b=>exact .bl b
 | int i=>exact .int i
 | str x=>exact .str x
 | lst e=>exact .lst e
 | tup e=>exact .tup e
 | du e=>exact .dK e
def tZ (T:String):Option (Kd→Bool) :=
 if T = "int" then some fun k=>match k with | .int=>true | .bl=>true | _=>false
 else if T = "bool" then some fun k=>match k with | .bl=>true | _=>false
 else if T = "str" then some fun k=>match k with | .str=>true | _=>false
 else if T = "tuple" then some fun k=>match k with | .tup=>true | _=>false
 else if T = "list" then some fun k=>match k with | .lst=>true | _=>false
 else if T = "dict" then some fun k=>match k with | .du=>true | _=>false
 else none
theorem EY {K:PySem.W.Frag}{T:String}{g:Kd→Bool} (h:tZ T=some g) (k:Kd):kitOne K (.type k.name) (.type T)=some (g k):=by
 unfold tZ at h
 split at h
 ·rename_i e;subst e;cases h;cases k <;> rfl
 ·split at h
  ·rename_i e;subst e;cases h;cases k <;> rfl
  ·split at h
   ·rename_i e;subst e;cases h;cases k <;> rfl
   ·split at h
    ·rename_i e;subst e;cases h;cases k <;> rfl
    ·split at h
     ·rename_i e;subst e;cases h;cases k <;> rfl
     ·split at h
      ·rename_i e;subst e;cases h;cases k <;> rfl
      ·cases h
section
variable {X:Cx}
theorem EZ:fH X (.builtin "isinstance") (fun xs H Q=>∃ x T k g,xs=[x,.ty T]∧tZ T=some g∧pP H x k∧Q (.bl (g k)) H):=by
 intro pins s σ H xs us Q I r h
 obtain⟨x,T,k,g,rfl,hg,hk,q⟩:=h
 obtain⟨v,w',rfl,rv,rA⟩:=vals2 r
 cases rA
 exact Cj I rv hk.ty (EY hg k) fun tk=>⟨.bl (g k),H,I.tok tk,rfl,q⟩
end
mutual
def Dt (K:PySem.W.Frag) (H:Hp):PyData→V→Prop
 | .none,v=>v=.aw
 | .bool b,v=>v=.bl b
 | .int i,v=>v=.int i
 | .str z,v=>v=.str z
 | .list ds,v=>∃ a xs,v=.ref a∧gL K H a xs∧DtAll K H ds xs
 | .tuple ds,v=>∃ a xs,v=.ref a∧iU K H a xs∧DtAll K H ds xs
 | .dict _,_=>False
def DtAll (K:PySem.W.Frag) (H:Hp):List PyData→List V→Prop
 | [],xs=>xs=[]
 | d :: ds,xs=>∃ y ys,xs=y :: ys∧Dt K H d y∧DtAll K H ds ys
end
section
variable {X:Cx}{pins:List (Addr×Obj)}{σ:St}{H:Hp}{s:Shared}
mutual
theorem Inv.reads (I:Inv X pins σ H s):∀ (d:PyData) {x:V}{u:Value},Dt X.K H d x→RelV x u→∃ as,Reads s.heap u d as
 | .none,x,u,h,r=>by
  have h:x=.aw:=by simpa only [Dt] using h
  subst h;cases r;exact⟨_,.none⟩
 | .bool b,x,u,h,r=>by
  have h:x=.bl b:=by simpa only [Dt] using h
  subst h;cases r;exact⟨_,.bool b⟩
 | .int i,x,u,h,r=>by
  have h:x=.int i:=by simpa only [Dt] using h
  subst h;obtain⟨t,rfl⟩:=r;exact⟨_,.int i t⟩
 | .str z,x,u,h,r=>by
  have h:x=.str z:=by simpa only [Dt] using h
  subst h;obtain⟨t,rfl⟩:=r;exact⟨_,.str z t⟩
 | .list ds,x,u,h,r=>by
  have h:∃ a xs,x=.ref a∧gL X.K H a xs∧DtAll X.K H ds xs:=by simpa only [Dt] using h
  obtain⟨a,xs,rfl,hq,hd⟩:=h
  cases r
  obtain⟨ay,rv,p,_⟩:=I.list hq
  obtain⟨as,ra⟩:=Inv.readsAll I ds hd rv
  obtain⟨o,e,c,n,d⟩:=p.isList
  exact⟨_,.list e c d (by simpa using ra)⟩
 | .tuple ds,x,u,h,r=>by
  have h:∃ a xs,x=.ref a∧iU X.K H a xs∧DtAll X.K H ds xs:=by simpa only [Dt] using h
  obtain⟨a,xs,rfl,hq,hd⟩:=h
  cases r
  obtain⟨ay,rv,p,_⟩:=I.tuple hq
  obtain⟨as,ra⟩:=Inv.readsAll I ds hd rv
  obtain⟨o,e,c,n,d⟩:=p
  exact⟨_,.tuple e c d (by simpa using ra)⟩
 | .dict _,x,u,h,r=>by
  have h:False:=by simpa only [Dt] using h
  exact h.elim
theorem Inv.readsAll (I:Inv X pins σ H s):∀ (ds:List PyData) {xs:List V}{us:List Value},DtAll X.K H ds xs→Vals xs us→∃ as,ReadsAll s.heap us ds as
 | [],xs,us,h,r=>by
  have h:xs=[]:=by simpa only [DtAll] using h
  subst h;cases r;exact⟨_,.nil⟩
 | d :: ds,xs,us,h,r=>by
  have h:∃ y ys,xs=y :: ys∧Dt X.K H d y∧DtAll X.K H ds ys:=by simpa only [DtAll] using h
  obtain⟨y,ys,rfl,h1,h2⟩:=h
  cases r with
  | cons r1 r2 =>
   obtain⟨as,ra⟩:=Inv.reads I d h1 r1
   obtain⟨bs,rb⟩:=Inv.readsAll I ds h2 r2
   exact⟨_,.cons ra rb⟩
end
end
def Qh (K:PySem.W.Frag) (neg:Bool):R2:=fun x y H Q=>∃ d e,Dt K H d x∧Dt K H e y∧d.canLay0=true∧e.canLay0=true∧(d.depth≤64∨e.depth≤64)∧Q (.bl (if neg then !PyData.eqv d e else PyData.eqv d e)) H
section
variable {X:Cx}
theorem MS (hu:X.A.units+64<cLine):gQ X (compareOp .Eq) (Qh X.K false):=by
 intro pins s σ H x y v u Q I rx ry h
 obtain⟨d,e,hd,he,cd,ce,dp,q⟩:=h
 obtain⟨as,ra⟩:=I.reads d hd rx
 obtain⟨bs,rb⟩:=I.reads e he ry
 exact SeqAt.compareEq_reads ra rb cd ce (by rcases dp with dp | dp <;> omega) (aH I q rfl)
theorem MT (hu:X.A.units+64<cLine):gQ X (compareOp .NotEq) (Qh X.K true):=by
 intro pins s σ H x y v u Q I rx ry h
 obtain⟨d,e,hd,he,cd,ce,dp,q⟩:=h
 obtain⟨as,ra⟩:=I.reads d hd rx
 obtain⟨bs,rb⟩:=I.reads e he ry
 exact SeqAt.compareNe_reads ra rb cd ce (by rcases dp with dp | dp <;> omega) (aH I q rfl)
end
theorem jL (a b:Nat):Ei ⟨#[a]⟩ ⟨#[b]⟩=decide (a≤b):=by
 unfold Ei
 have e:([b]<[a])↔b<a:=by
  rw[List.cons_lt_cons_iff]
  constructor
  ·rintro (h | ⟨_,h⟩)
   ·exact h
   ·exact absurd h (List.not_lt_nil _)
  ·exact .inl
 rw[yu]
 show (!decide ([b]<[a]))=true↔_
 rw[Bool.not_eq_true',decide_eq_false_iff_not,e,decide_eq_true_iff]
 omega
def chkC (sc:Scope) (N0 N:List Str) (src:List (Option Nat)) (scope:Scope):Bool :=
 decide (scope.kind=.function) && (scope.names.all (fun y=>decide (y.2≠.cell) && (decide (y.2≠.local) || decide (scope.names.lookup y.1=some .local)) && (decide (y.2≠.free) || (decide (sc.names.lookup y.1=some .cell) || decide (sc.names.lookup y.1=some .free)))) &&
  (decide (src.length=N.length) && (List.range src.length).all fun i=>match src[i]?,N[i]? with
   | some (some j),some x=>decide (N0[j]?=some x) && (decide (scope.names.lookup x=some .free) && (decide (sc.names.lookup x=some .cell) || decide (sc.names.lookup x=some .free)))
   | _,_=>true))
theorem nZ (sc:Scope) (N0:List Str) (hs:X.env.scope=sc) (hN:X.N=N0) (h:chkC sc N0 N src scope=true):bK X N src scope:=by
 unfold chkC at h
 simp only [zN,yq,ym,Bool.or_eq_true] at h
 obtain⟨h1,h2,h3,h4⟩:=h
 refine⟨h1,fun y hy=>(h2 y hy).1.1,fun y hy e=>?_,fun y hy e=>?_,h3,fun i j x e1 e2=>?_⟩
 ·rcases (h2 y hy).1.2 with z | z
  ·exact absurd e z
  ·exact z
 ·rcases (h2 y hy).2 with z | z
  ·exact absurd e z
  ·show X.env.scope.names.lookup y.1=some .cell∨X.env.scope.names.lookup y.1=some .free
   rw[hs];exact z
 ·have hi:i<src.length:=(zo.mp e1).1
  have q:=h4 i (zS.mpr hi)
  rw[e1,e2] at q
  simp only [zN,yq,Bool.or_eq_true] at q
  refine⟨by rw[hN];exact q.1,q.2.1,?_⟩
  unfold Ov
  rw[hs]
  exact .inr q.2.2
section
variable {X:Cx}
end
theorem Bh (h0:0≤i) (h1:i<l.length):∃ v,sP l i=some v∧l[i.toNat]?=some v:=by
 obtain⟨j,rfl⟩:=Int.eq_ofNat_of_zero_le h0
 have hj:j<l.length:=by omega
 exact⟨l[j],ia (by simp [hj]),by simp [hj]⟩
theorem dw {c:Bool}{A B:Prop} (h:c=true→A) (h':c=false→B):if c=true then A else B:=by
 cases c with
 | true=>exact h rfl
 | false=>exact h' rfl
theorem nt (h:(!b)=true):b=false:=by cases b <;> simp_all
theorem nf (h:(!b)=false):b=true:=by cases b <;> simp_all
def xY:Kd→Bool | .int=>true | .bl=>true | _=>false
def t5:Kd→Bool | .bl=>true | _=>false
def xZ:Kd→Bool | .str=>true | _=>false
def pQ:Kd→Bool | .tup=>true | _=>false
def ID:Kd→Bool | .lst=>true | _=>false
theorem IE:tZ "int" = some xY:=if_pos rfl
theorem E1:tZ "bool" = some t5:=(if_neg (by decide)).trans (if_pos rfl)
theorem cn:tZ "str" = some xZ:=(if_neg (by decide)).trans ((if_neg (by decide)).trans (if_pos rfl))
theorem aW:tZ "tuple" = some pQ:=(if_neg (by decide)).trans ((if_neg (by decide)).trans ((if_neg (by decide)).trans (if_pos rfl)))
theorem len_pos {z:Str} (h:1≤z.cps.size):∃ c r,z.cps.toList=c :: r:=by
 cases e:z.cps.toList with
 | nil =>
  have:z.cps.toList.length=0:=by rw[e];rfl
  rw[ye] at this
  omega
 | cons c r=>exact⟨c,r,rfl⟩
theorem Zd (e:l=c :: r):sP l 0=some c:=by
 have:l[0]?=some c:=by rw[e];rfl
 exact ia (j:=0) this
def isPlain:Expr→Bool
 | .Starred _ _=>false
 | _=>true
theorem x5 (h:isPlain e=true):starEach (e :: es) env=(false,eval e env) :: starEach es env:=by
 cases e <;> first
  | rfl
  | exact absurd h zd
theorem UU (ha:PE X e te) (hr:PA X es t) (hp:isPlain e=true:=by rfl):PA X (e :: es) (Ks te t):=H_ ha hr (x5 hp)
end L2
namespace HT
open PySem PyProof.Rows
open PySem.SeqAt
open PySem.AutoSeq1 (wpAny_loadPart')
open PySem.MeetsSeq PySem.MeetsSeq2 PySem.MeetsSeq3
end HT
namespace L2
open PySem PySem.Spec PyProof.Rows
section
variable {X:Cx}
end
section
variable {X:Cx}{K:PySem.W.Frag}
end
theorem bc.get (x:bc P w H h a o):∃ u,h.get? a=some u:=by
 cases o with
 | lst xs=>obtain⟨_,_,_,_,e⟩:=x;exact⟨_,e⟩
 | tup xs=>obtain⟨_,_,_,ob,e,_⟩:=x;exact⟨_,e⟩
 | dK kvs=>obtain⟨_,_,_,_,o,_,_,e,_⟩:=x;exact⟨_,e⟩
 | dT kvs=>exact False.elim x
 | set S n=>obtain⟨o,_,_,_,e,_⟩:=x;exact⟨_,e⟩
 | ins C dx fs=>obtain⟨_,_,_,e,_⟩:=x;exact⟨_,e⟩
 | own y=>obtain⟨_,e⟩:=x;exact⟨_,e⟩
 | xd fs=>obtain⟨_,⟨_,_,_,e,_⟩,_⟩:=x;exact⟨_,e⟩
 | Sb lo hi=>obtain⟨_,_,_,e⟩:=x;exact⟨_,e⟩
 | ku ob u=>obtain⟨e,_⟩:=x;exact⟨_,e⟩
 | o3 ps=>exact⟨_,show h.get? a=some _ from x⟩
 | met f y=>exact⟨_,show h.get? a=some _ from x⟩
 | ext φ=>obtain⟨_,e,_⟩:=x;exact e
structure UW (P:Program) (w:World) (outer:List Env) (H H':Hp) (h0:Heap) (a:Addr) (cls a0:Value) (B h:Heap):Prop where
 fl:Heap.FlyingW B outer a cls a0 h
 aJ:kx P w H' B
 keep:∀ b o,h0.get? b=some o→H b=none→b∉ow outer→B.get? b=some o
 there:∀ b o,h0.get? b=some o→b∉ow outer→∃ o',B.get? b=some o'
 slot:∀ b o,h0.get? b=some o→b∈ow outer→∃ sl,h.get? b=some { o with slots:=sl }
 free:∀ b o,h0.get? b=some o→H b=none→H' b=none
 lE:∀ b xs,H b=some (.tup xs)→H' b=some (.tup xs)
 kz:∀ b o u,H b=some (.ku o u)→H' b=some (.ku o u)
 kB:∀ b ps,H b=some (.o3 ps)→∃ more,H' b=some (.o3 (ps++more))
section
variable {P:Program}{w:World}{outer:List Env}{H H':Hp}{h0:Heap}{a:Addr}{cls a0:Value}{B h h2:Heap}
end
def hW (P:Program) (w:World):xN:=fun outer H s E e s' =>
 ∃ a cls a0 B H',e=.ref a∧s'.os=s.os∧AllBare s'.gens∧UW P w outer H H' s.heap a cls a0 B s'.heap∧E cls none H'
structure dA (X:Cx) (E:XK):Prop where
 ex:X.ex=[]
 st:X.stack=X.env :: X.outer
 fr:X.env.frame=some X.env.locals
 xe:∀ e s',wpAny (model X.prog X.w) X.A (leaving X.env e) (fun _ xO=>hW X.prog X.w X.outer X.tP X.dr E e xO) (fun e' xO=>hW X.prog X.w X.outer X.tP X.dr E e' xO) s'→X.xe e s'
theorem sV {P:Program}{w:World}{K:PySem.W.Frag}{mg:Str→Option Value}{base:Heap}{N:List Str}{qual:Str}{scope:Scope}{f:Addr}{cd:Value}{A:Around}{outer:List Env}{s:Shared}{H:Hp}{E:XK} :
  dA (kC (hW P w) P w K mg base N qual scope f cd A outer s H E) E:=⟨rfl,rfl,rfl,fun _ _ h=>h⟩
section
variable {X:Cx}{pins:List (Addr×Obj)}{σ:St}{H H':Hp}{s:Shared}{E E':XK}
theorem dA.mem (L:dA X E):b∈ow X.stack↔b=X.env.locals∨b∈X.fs:=by
 unfold Cx.fs ow
 rw[L.st,List.filterMap_cons,L.fr]
 exact ze
theorem dA.B8 (L:dA X E) (I:Inv X pins σ H s) (e:X.dr.heap.get? b=some o) (h:b∉X.fs):b∉ow X.stack:=fun z=>by
 rcases L.mem.mp z with z | z
 ·have:=zp e
  have h2:=I.ok.above
  rw[z] at this
  exact absurd (zl this h2) (yg _)
 ·exact h z
theorem dA.Ze (L:dA X E) (I:Inv X pins σ H s) (F:UW X.prog X.w X.stack H H' s.heap a cls a0 B h) (f2:Heap.FlyingW B X.outer a cls a0 h2) (u2:h.UpToSlots h2) :
  UW X.prog X.w X.outer X.tP H' X.dr.heap a cls a0 B h2 where
 fl:=f2
 aJ:=F.aJ
 keep:=fun b o e n hf=>F.keep b o (I.base.keep b o e n hf (by rw[L.ex];simp)) (I.base.free b o e n (by rw[L.ex];simp)) (L.B8 I e hf)
 there:=fun b o e hf=>by
  obtain⟨o',q⟩:=I.base.there b o e (by rw[L.ex];simp)
  exact F.there b o' q (L.B8 I e hf)
 slot:=fun b o e hf=>by
  obtain⟨sl,q⟩:=I.base.slot b o e (I.ok.LH b hf) hf (by rw[L.ex];simp)
  obtain⟨sl1,q1⟩:=F.slot b _ q (L.mem.mpr (.inr hf))
  obtain⟨_,o2,q2,hd⟩:=F.fl.2.2.1.mem (L.mem.mpr (.inr hf))
  obtain⟨Hz,q3⟩:=u2 b o2 q2 hd
  rw[q1] at q2;cases q2
  exact⟨Hz,q3⟩
 free:=fun b o e n=>by
  obtain⟨o',q⟩:=I.base.there b o e (by rw[L.ex];simp)
  exact F.free b o' q (I.base.free b o e n (by rw[L.ex];simp))
 lE:=fun b xs e=>F.lE b xs (I.base.lE b xs e)
 kz:=fun b o u e=>F.kz b o u (I.base.kz b o u e)
 kB:=fun b ps e=>by
  obtain⟨m1,q1⟩:=I.base.kB b ps e
  obtain⟨m2,q2⟩:=F.kB b _ q1
  exact⟨m1++m2,by rw[q2,Array.append_assoc]⟩
theorem Qi (L:dA X E) (hE:∀ c d H',E' c d H'→E c d H'):Passes (hW X.prog X.w) X E':=fun pins σ H s e s' I h=>by
 obtain⟨a,cls,a0,B,H',rfl,os,bare,F,q⟩:=h
 refine L.xe _ _ ?_
 have MU:X.A.frames=some (X.env :: X.outer):=by rw[I.ok.frames,L.st]
 have fl:Heap.FlyingW B (X.env :: X.outer) a cls a0 s'.heap:=by rw[← L.st];exact F.fl
 exact wpAny_leaves_onW MU L.fr fl fun h2 f2 u2=>⟨a,cls,a0,B,H',rfl,os.trans I.os,bare,L.Ze I F f2 u2,hE _ _ _ q⟩
theorem MV (I:Inv X pins σ H s):kx X.prog X.w H (hideAll s.heap (ow X.stack)):=fun a o e =>
 (I.aJ a o e).ou (fun b u hb q=>hideAll_get _ q fun z=>by
  have n:=I.o_ b z
  rcases hb with rfl | hb
  ·rw[e] at n;cases n
  ·rw[hb] at n;cases n) (fun _ q=>q) fun _ _ q=>q
theorem n0 (L:dA X E) (I:Inv X pins σ H s) (hx:Heap.MadeExcOf s.heap h' a cls args) (hE:E cls none H):X.xe (.ref a) { s with heap:=h' }:=by
 refine L.xe _ _ ?_
 have MU:X.A.frames=some (X.env :: X.outer):=by rw[I.ok.frames,L.st]
 have Kz:∀ env∈X.stack,∀ b,env.frame=some b→b∈ow X.stack:=fun env he b hb=>List.mem_filterMap.mpr ⟨env,he,hb⟩
 have ff:s.heap.FunFrames (hideAll s.heap (ow X.stack)) (X.env :: X.outer):=by rw[← L.st];exact PySem.W.funFrames_hide I.stack Kz
 refine wpAny_leaves_madeW (base:=hideAll s.heap (ow X.stack)) (h:=s.heap) MU L.fr (fun b o q=>of_hideAll _ q) ff hx fun h2 t x1 x2 x3 x4=>?_
 refine⟨a,cls,.ref t,_,H,rfl,I.os,I.bare,⟨x1,MV I,fun b o e n hf=>?_,fun b o e hf=>?_,fun b o e hf=>?_,fun b o e n=>I.base.free b o e n (by rw[L.ex];simp),I.base.lE,I.base.kz,I.base.kB⟩,hE⟩
 ·exact hideAll_get _ (I.base.keep b o e n hf (by rw[L.ex];simp)) (L.B8 I e hf)
 ·obtain⟨o',q⟩:=I.base.there b o e (by rw[L.ex];simp)
  exact⟨o',hideAll_get _ q (L.B8 I e hf)⟩
 ·obtain⟨sl,q⟩:=I.base.slot b o e (I.ok.LH b hf) hf (by rw[L.ex];simp)
  obtain⟨_,o2,q2,hd⟩:=I.ox.mem hf
  obtain⟨Hz,q3⟩:=x4 b o2 (hx.keeps _ _ q2) hd
  rw[q] at q2;cases q2
  exact⟨Hz,q3⟩
end
abbrev oG:List Value:=[.type "ValueError",.type "Exception",.type "BaseException",.type "object"]
structure XC (K:PySem.W.Frag) (C:Addr):Prop where
 q:excIn K C oG "ValueError.__new__" = true
def UX (h:Heap) (C:Addr) (bm:List Value):Prop:=∃ N nm q bs hdct sn sub ab col dd k0 k1 k2 k3 k5 mN,
 h.get? C=some (excClassObj nm q C N bs bm hdct sn sub ab col dd k0 k1 k2 k3 k5 "ValueError.__new__")∧h.Ns N mN∧mN "__init__" = none∧OwnTail h oG bm
theorem XC.at {K:PySem.W.Frag}{C:Addr}{h:Heap} (x:XC K C) (X:K.In h):∃ bm,UX h C bm:=by
 have q:=x.q
 unfold excIn at q
 split at q
 ·rename_i dd cd sl ho
  split at q
  ·rename_i C' bm' k0 k1 k2 k3 n k5 hm hs
   simp only [zN,beq_iff_eq,Bool.not_eq_true'] at q
   obtain⟨⟨⟨⟨⟨q1,q2⟩,Qj⟩,ht⟩,aJ⟩,Sz⟩:=q
   subst q1;subst q2
   obtain⟨nm,bs,mro,ns,qn,hd,sn,sub,ab,col,del⟩:=cd
   dsimp only at hm Qj aJ Sz
   subst hm;subst Qj
   obtain⟨sl⟩:=sl
   dsimp only at hs
   subst hs
   exact⟨bm',ns,nm,qn,bs,hd,sn,sub,ab,col,dd,k0,k1,k2,k3,k5,_,X _ _ ho,.of_isNs (PySem.W.isNs_of_in X aJ),PySem.W.nsMap_none_of_in X aJ Sz,PySem.W.tail_of_in X ht⟩
  ·cases q
 ·cases q
section
variable {X:Cx}{C D:Addr}{bmD:List Value}{x:Str}{np aR pos:Pos}{e:Expr}{es:List Expr}{t:TA}{E:XK}
end
def UY (a:Addr) (cls:Value):HO:=.ext fun h=>∃ o vs,h.get? a=some o∧o.cls=cls∧o.data=.fields vs
section
variable {P:Program}{w:World}{outer:List Env}{H H':Hp}{h0:Heap}{a:Addr}{cls a0:Value}{B h:Heap}
end
abbrev TX:=(St→XK)→TS
section
variable {X:Cx}{CX:xN}{k:Nat}{f C:Addr}{fd:FuncData}{ps:List Str}{sp:Sp}{oA:List V}{ds:List Value}{E:XK}{x m:Str}{p pos apos:Pos}{e o:Expr}{es:List Expr}{ta:TE}{t:TA}
end
section
variable {X:Cx}{e:Expr}{pos:Pos}{te:XK→TE}
end
section
variable {X:Cx}{pins:List (Addr×Obj)}{σ:St}{H:Hp}{s:Shared}
end
def Ends.less (D:Ends) (i:Nat):Ends:={ nx:=fun σ H=>D.nx (σ.set i none) H,rt:=D.rt,bk:=fun σ H=>D.bk (σ.set i none) H,ct:=fun σ H=>D.ct (σ.set i none) H }
section
variable {X:Cx}{i:Nat}{n x:Str}{C0:Addr}{body Ql:List Stmt}{UZ:Stmt}{np IF pos:Pos}{tb:TX}{ts:TS}
end
section
variable {P:Program}{w:World}{K:PySem.W.Frag}{mg:Str→Option Value}{base:Heap}
end
structure XA (K:PySem.W.Frag) (C:Addr):Prop where
 ga:findIn K (.ref C) "__getattribute__" = some (some (.builtin "BaseException.__getattribute__"))
 gh:findIn K (.ref C) "__getattr__" = some none
 cl:findIn K (.ref C) "__class__" = some (some (.builtin "object.__class__"))
section
variable {prog:Program}{w:World}{A:Around}{E:Value→Shared→Prop}{h:Heap}{g:Array GenState}{d:Drawn}{t:Nat}{os:OsState}{a:Addr}{o:Obj}{C:Addr}{bm:List Value}{K:PySem.W.Frag}
end
section
variable {X:Cx}
end
section
variable {X:Cx}
theorem KA (L:dA X E):Passes (hW X.prog X.w) X E:=Qi L fun _ _ _ h=>h
end
def iM (l:List Str):List Str:=l.foldl (fun c x=>if x∈c then c else c++[x]) []
theorem vL (l:List Str) (x:Str):iM (l++[x])=if x∈iM l then iM l else iM l++[x]:=by
 unfold iM
 rw[List.foldl_append]
 rfl
theorem IG:∀ (l:List Str),(iM l).length≤l.length:=fun l=>by
 have all:∀ (r c:List Str),(r.foldl (fun c x=>if x∈c then c else c++[x]) c).length≤c.length+r.length:=by
  intro r
  induction r with
  | nil=>intro c;simp
  | cons x r ih =>
   intro c
   rw[yF]
   refine zG (ih _) ?_
   split <;> simp <;> try omega
 simpa [iM] using all l []
section
variable {prog:Program}{w:World}{A:Around}{R:Result→Shared→Prop}{I:Addr}{fp wr:List Addr}{G:Array GenState→Array GenState→Prop}{n:Nat}{P:Nat→Value→Prop}{St:Nat→Shared→Prop}
theorem E3 (W:WalksS prog w A.in1 I fp wr G n P St) (S:Addr) (Xw:S∉fp) (xs:List Str) (hx:xs.length=n) (MW:∀ i v,P i v→∃ x t,xs[i]?=some x∧v=.str x t) (hb:n+1<scanBound) :
  ∀ (k i:Nat) (s:Shared),i+k=n→St i s→s.heap.SetOf (strKind prog w) S (fun y=>decide (y∈iM (xs.take i))) (iM (xs.take i)).length →
   (∀ s',Moved (S :: wr) G s s'→s'.heap.SetOf (strKind prog w) S (fun y=>decide (y∈iM xs)) (iM xs).length→R (.ok (.ret .none)) s') →
   codeAny (model prog w) A (.builtin "set.update.loop" ⟨[.ref S,.ref I],[]⟩) R s:=by
 have nw:S∉wr:=fun h=>Xw (W.sub _ h)
 have up:∀ b∈wr,b∈S :: wr:=fun b hb=>zg _ hb
 have mv:∀ {i:Nat}{s s':Shared},Moved wr G s s'→s.heap.SetOf (strKind prog w) S (fun y=>decide (y∈iM (xs.take i))) (iM (xs.take i)).length→s'.heap.SetOf (strKind prog w) S (fun y=>decide (y∈iM (xs.take i))) (iM (xs.take i)).length :=
  fun hm ⟨o,es,ep,tb,ho,rest⟩=>⟨o,es,ep,tb,hm.heap S _ nw ho,rest⟩
 intro k
 induction k with
 | zero =>
  intro i s hk xA hS hR
  have e:i=n:=by omega
  subst e
  refine yG F.entry_set_update_loop ?_ ;rw[Around.under_plainId F.plain_set_update_loop _]
  show wpAny _ A.in1 (pyNext (.ref I) >>= _) _ _ s ;refine za (W.done s _ _ xA fun s' hm=>?_)
  show wpAny _ A.in1 (ret Value.none) _ _ s' ;have q:=mv hm hS
  rw[← hx,List.take_length] at q
  exact zf (hR s' (hm.mono up) q)
 | succ k ih =>
  intro i s hk xA hS hR
  have lt:i<n:=by omega
  refine yG F.entry_set_update_loop ?_ ;rw[Around.under_plainId F.plain_set_update_loop _]
  show wpAny _ A.in1 (pyNext (.ref I) >>= _) _ _ s ;refine za (W.item i s _ _ lt xA fun v s' hP MX hm=>?_)
  obtain⟨x,t,ex,rfl⟩:=MW i v hP
  have q:=mv hm hS
  show wpAny _ A.in1 (holding [Value.str x t] (setAdd S (.str x t)) >>= _) _ _ s'
  refine za (yy ?_) ;unfold setAdd ;refine yy ?_
  refine za ((strKind prog w).pyHash (k:=x) (strKind_is _ _ _ _) ?_)
  have room:(iM (xs.take i)).length+1<scanBound:=by have:=IG (xs.take i);rw[yd] at this;omega
  refine wpAny_setAddHashed_of (knd:=strKind prog w) (s:={ s' with toks:=s'.toks+1 }) (strKind_is _ _ _ _) rfl q room fun h' IH q2=>?_
  have tk:xs.take (i+1)=xs.take i++[x]:=by rw[List.take_succ,ex];rfl
  have qi:h'.SetOf (strKind prog w) S (fun y=>decide (y∈iM (xs.take (i+1)))) (iM (xs.take (i+1))).length:=by
   refine SetOf_congr q2 (fun y=>?_) ?_
   ·rw[tk,vL]
    by_cases h:x∈iM (xs.take i)
    ·rw[if_pos h]
     by_cases hy:y=x
     ·subst hy;simp [h]
     ·simp [hy]
    ·rw[if_neg h];simp
   ·rw[tk,vL]
    by_cases h:x∈iM (xs.take i)
    ·rw[if_pos h,if_pos (by simpa using h)]
    ·rw[if_neg h,if_neg (by simpa using h)];simp
  refine zf ⟨plainId_quiet F.plain_set_update_loop _,ih (i+1) _ (by omega) (W.frame _ s' _ _ MX (yN _) fun b hb o e=>?_) qi fun xO MY U0=>?_⟩
  ·rw[IH.2 b (fun h:b=S=>Xw (by rw[← h];exact hb))] ;exact e
  ·refine hR xO (Moved.trans W.gtrans ((hm.mono up).then_heap (yN _) fun b o hb e=>?_) MY) U0
   rw[IH.2 b (fun h:b=S=>hb (by rw[h];exact zu))] ;exact e
theorem vM (hh:A.handled=none) (hl:s.heap.IsList l items) (hx:xs.length=items.size)
  (hi:∀ (i:Nat) (v:Value),items[i]?=some v→∃ x t,xs[i]?=some x∧v=.str x t) (hb:items.size+1<scanBound)
  (h:∀ (h':Heap) (tk:Nat),h'.SetOf (strKind prog w) s.heap.objs.size (fun y=>decide (y∈iM xs)) (iM xs).length→(∀ b o,b<s.heap.objs.size→s.heap.get? b=some o→h'.get? b=some o)→Q (.ref s.heap.objs.size) { s with heap:=h',toks:=tk }) :
  wpAny (model prog w) A (call (.type "set") [.ref l]) Q E s:=by
 obtain⟨c,tl,m0⟩:=F.called_set.mro ;have m1:=F.called_set.made ;have m2:=F.called_set.sub
 refine wpAny_call (codeAny_of_tree ?_) ;show wpAny _ _ (callAny (.type "set") _) _ _ _
 refine zf ⟨Code.quiet_builtin _ (by decide +kernel),yG F.entry_type_call ?_⟩ ;rw[Around.under_plain (weight_type_call_type "set" [.ref l] []) rfl]
 have m3:=F.called_set.notType ;have m4:=F.called_set.canCreate ;have m5:=F.typeCall_set_1 (.ref l)
 repeat (any_goals (first | assumption | wp_step))
 refine yK (code_set_new_1 (.ref l) (E:=E) (Q₁:=fun ob s1=>∃ led:Bool,ob=.ref s.heap.objs.size∧s1={ s with heap:=s.heap.push { cls:=.type "set",dict:=none,data:=.set #[] 0 (.fresh 0 0 led) } }) fun led=>⟨led,rfl,rfl⟩) fun r s1 hr=>?_
 cases r with
 | error e=>exact hr
 | ok fl =>
  cases fl with
  | ret ob =>
   obtain⟨led,rfl,rfl⟩:=hr
   generalize hO:({ cls:=.type "set",dict:=none,data:=.set #[] 0 (.fresh 0 0 led) } : Obj)=O
   have gS:(s.heap.push O).get? s.heap.objs.size=some O:=zj _ (by rw[← hO];rfl)
   have tS:Shared.TypeIs { s with heap:=s.heap.push O } (.ref s.heap.objs.size) "set" := ⟨_,gS,by rw[← hO]⟩
   have i1:=F.called_set.init.lookup ;have i2:=F.called_set.init.bind (.ref s.heap.objs.size)
   repeat (any_goals (first | assumption | wp_step))
   refine yK (codeAny_call_builtin (R:=wants (fun r s2=>r=.none∧∃ h' tk,s2={ s with heap:=h',toks:=tk }∧h'.SetOf (strKind prog w) s.heap.objs.size (fun y=>decide (y∈iM xs)) (iM xs).length∧(∀ b o,b<s.heap.objs.size→s.heap.get? b=some o→h'.get? b=some o)) E)
    F.called_set.init.plain F.entry_set_init (check_set_init_1 tS ?_)) fun r2 s2 U1=>?_
   ·obtain⟨ol,gl,cl,nl,dl⟩:=hl
    obtain⟨Zg,Qm,Xx,MZ⟩:=ol
    simp only at cl dl ;subst cl ;subst dl
    have Qn:(s.heap.push O).get? l=some { cls:=.type "list",dict:=Qm,data:=.seq items nl,slots:=MZ }:=zb _ gl
    have j1:=F.sub_list_set ;have j2:=F.sub_list_frozenset
    have j3:(Value.type "list" == Value.type "dict")=false:=by decide
    have il:(s.heap.push O).IsList l items:=⟨_,Qn,rfl,nl,rfl⟩
    subst hO
    unfold Builtin.«set.__init__» noKeywords Builtin.Frozenset.updateFrom ;generalize Zh:pyIter=PI
    wp_walk
    subst Zh ;refine wpAny_pyIter_list il ?_ ;refine za (wpAny_runValue ?_)
    have ll:l<s.heap.objs.size:=zp gl
    have h3:A.in1.in1.in1.handled=none:=by simp [hh]
    have ne:l≠(s.heap.push { cls:=.type "set",dict:=none,data:=.set #[] 0 (.fresh 0 0 led) }).objs.size:=by rw[zU] ;exact zr (Nat.lt_succ_of_lt ll)
    have nf:s.heap.objs.size∉[(s.heap.push { cls:=.type "set",dict:=none,data:=.set #[] 0 (.fresh 0 0 led) }).objs.size,l]:=by
     rw[zU] ;simp only [ze,zE,zD,or_false,not_or] ;exact⟨zr (yB _),yc ll⟩
    refine E3 ((Walks.list h3 _ l ne items).toS) s.heap.objs.size nf xs hx hi hb (items.size - 0) 0 _ (by omega) ⟨⟨_,zj _ rfl,rfl,rfl⟩,(il.push _)⟩ ?hS0 ?hR
    case hS0 =>
     have gg:=zb { cls:=.type "list_iterator",data:=.fields #[.ref l,.int 0 0] } gS
     exact SetOf_congr ((setObjOf_fresh (knd:=strKind prog w) led).setOf gg (by unfold scanBound;omega)) (fun _=>rfl) rfl
    case hR =>
     intro s' hm q
     obtain⟨h',g',d',OD,PR⟩:=s'
     have eg:g'=s.gens:=hm.gens ;have ed:d'=s.drawn:=hm.drawn ;have eo:PR=s.os:=hm.os
     subst eg ;subst ed ;subst eo
     show wpAny _ _ _ _ _ _ ;refine zf ?_ ;show wpAny _ _ (ret Value.none) _ _ _
     refine zf ⟨rfl,h',OD,rfl,q,fun b o hb e=>?_⟩
     have b2:b≠(s.heap.push { cls:=.type "set",dict:=none,data:=.set #[] 0 (.fresh 0 0 led) }).objs.size:=by rw[zU] ;exact zr (Nat.lt_succ_of_lt hb)
     refine hm.heap b o ?_ (zb _ (zb _ e))
     simp only [ze,zE,zD,or_false,not_or] ;exact⟨zr hb,b2⟩
   ·cases r2 with
    | error e=>exact U1
    | ok f2 =>
     cases f2 with
     | ret r =>
      obtain⟨rfl,h',tk,rfl,q,k'⟩:=U1
      repeat (any_goals (first | assumption | wp_step))
      exact h _ _ q k'
     | _=>exact U1.elim
  | _=>exact hr.elim
end
def M4 (P:Program) (w:World) (a:Addr) (xs:List Str):HO:=.ext fun h=>h.SetOf (strKind P w) a (fun y=>decide (y∈iM xs)) (iM xs).length
theorem II (q:h.SetOf (strKind P w) a (fun y=>decide (y∈iM xs)) (iM xs).length):bc P w H h a (M4 P w a xs):=by
 obtain⟨o,es,ep,t,ho,rest⟩:=id q
 exact⟨q,⟨o,ho⟩,by rintro h1 h2 ⟨o,es,ep,t,ho,rest⟩ k;exact⟨o,es,ep,t,k _ ho,rest⟩⟩
theorem vN:∀ {xs:List Str}{ay:List Value},Vals (xs.map V.str) ay→∀ (i:Nat) (v:Value),ay[i]?=some v→∃ x t,xs[i]?=some x∧v=.str x t
 | [],_,.nil,i,v,e=>by simp at e
 | x :: xs,_,.cons r rs,0,v,e=>by
  obtain⟨t,q⟩:=r
  simp at e
  exact⟨x,t,rfl,by rw[← e];exact q⟩
 | x :: xs,_,.cons r rs,i+1,v,e=>by
  obtain⟨y,t,e1,e2⟩:=vN rs i v (by simpa using e)
  exact⟨y,t,by simpa using e1,e2⟩
section
variable {X:Cx}
theorem CA {P:Program}{w:World}{K:PySem.W.Frag} (hP:X.prog=P) (hw:X.w=w) (hK:X.K=K) (hc:X.calm=true) :
  fH X (.type "set") (fun vs H Q=>∃ p xs,vs=[.ref p]∧gL K H p (xs.map V.str)∧xs.length<4000∧∀ l,H l=none→Q (.ref l) (upd H l (M4 P w l xs))):=by
 subst hP;subst hw;subst hK
 intro pins s σ H vs us Q I r h
 obtain⟨p,xs,rfl,hq,hz,q⟩:=h
 obtain⟨u,rfl,rx⟩:=vals1 r
 cases rx
 obtain⟨ay,r',pl,_⟩:=I.list hq
 have hlen:xs.length=ay.toArray.size:=by have:=r'.length;simpa using this
 refine vM (I.ok.hd hc) pl.isList hlen (fun i v e=>vN r' i v (by simpa using e)) (by rw[← hlen];unfold scanBound;omega) fun h' tk qs kp=>?_
 refine⟨.ref s.heap.objs.size,_,I.laid (t':=tk) (fun b o e=>kp b o (zp e) e) (zm _) (II qs),rfl,q _ (I.aJ.fresh (zm _))⟩
theorem CB (hP:X.prog=P) (hw:X.w=w):fH X (.builtin "len") (fun vs H Q=>∃ a xs,vs=[.ref a]∧H a=some (M4 P w a xs)∧Q (.int (iM xs).length) H):=by
 subst hP;subst hw
 intro pins s σ H vs us Q I r h
 obtain⟨a,xs,rfl,ha,q⟩:=h
 obtain⟨u,rfl,rx⟩:=vals1 r
 cases rx
 obtain⟨⟨o,es,ep,t,ho,hex,hd,U4,M5,hb,hf,hn⟩,_⟩:=I.aJ a _ ha
 refine call_len_set ho hex hd hf (by unfold scanBound at hb;omega) ?_
 exact⟨.int (iM xs).length,H,I.tok _,⟨_,by rw[hn]⟩,q⟩
end
theorem sW (l:List Str):(iM l).length=l.length↔l.Nodup:=by
 have all:∀ (r c:List Str),c.Nodup→((r.foldl (fun c x=>if x∈c then c else c++[x]) c).length=c.length+r.length↔(c++r).Nodup):=by
  intro r
  induction r with
  | nil=>intro c hc;simpa using hc
  | cons x r ih =>
   intro c hc
   rw[yF]
   by_cases h:x∈c
   ·rw[if_pos h]
    have le:(r.foldl (fun c x=>if x∈c then c else c++[x]) c).length≤c.length+r.length:=by
     have all2:∀ (r c:List Str),(r.foldl (fun c x=>if x∈c then c else c++[x]) c).length≤c.length+r.length:=by
      intro r
      induction r with
      | nil=>intro c;simp
      | cons x r ih=>intro c;rw[yF];refine zG (ih _) ?_;split <;> simp <;> try omega
     exact all2 r c
    refine⟨fun e=>by simp at e;omega,fun e=>?_⟩
    exact absurd rfl ((List.nodup_append.mp e).2.2 x h x (by simp))
   ·rw[if_neg h]
    have Eg:(c++[x]).Nodup:=lJ hc h
    have:=ih (c++[x]) Eg
    simp only [zC,zK,List.length_nil,List.append_assoc,List.singleton_append] at this ⊢
    rw[← this]
    constructor <;> intro e <;> omega
 simpa [iM] using all l [] List.nodup_nil
theorem iN:entryFor table "dict.update.loop" = some Builtin.«dict.update.loop»:=entryFor_of_tree (by kernel_rfl)
theorem dh:plainId "dict.update.loop" = true:=by decide +kernel
theorem rE:typeLookup (.type "tuple") "keys" = pure none:=by rw[typeLookup_type,builtinLookup_eq_fast];kernel_rfl
section
variable {prog:Program}{w:World}{A:Around}{E:Value→Shared→Prop}{s:Shared}
theorem rF (hx:s.heap.get? a=some o) (hc:o.cls=.type "tuple") (Qo:o.data=.seq xs k) (hd:o.dict=none) (hA:A.handled=none)
  (h:∀ h' tk,(∀ b ob,s.heap.get? b=some ob→h'.get? b=some ob)→Q none { s with heap:=h',toks:=tk }):wpAny (model prog w) A (getAttr? (.ref a) "keys") Q E s:=by
 obtain⟨c,du,dat,sl⟩:=o
 simp only at hc Qo hd
 subst hc Qo hd
 obtain⟨hp,g,d,tk,os⟩:=s
 have hT:∀ OD,(⟨hp,g,d,OD,os⟩:Shared).TypeIs (.ref a) "tuple" := fun _=>⟨_,hx,rfl⟩
 have f1:=sub_AttributeError ;have f3:=F.slot_tuple_getattribute.lookup
 have f4:=F.slot_tuple_getattribute.bind (.ref a) ;have f5:=am_tuple_getattr_none
 unfold getAttr? getAttrBy? getAttrBy
 repeat (any_goals (first | assumption | exact hT _ | ((with_reducible show wpAny _ _ (call (Value.builtin "tuple.__getattribute__") _ _) _ _ _);refine call_meets F.slot_tuple_getattribute (hT _) am_entry_tuple_getattribute (F.args_tuple_getattribute_2 _ _) (meets_getattribute_miss_tuple a xs k sl "keys" _ rE (by decide +kernel) (by size_fits)) ⟨hx,hA,fun h' OD e Qp=>?_⟩) | wp_step))
 obtain⟨t',u',he⟩:=Qp.there
 show wpAny _ _ (getattributeRaised _ _ _ _ _ _ _) _ _ _ ;unfold getattributeRaised
 repeat (any_goals (first | assumption | wp_step))
 exact h _ _ Qp.keeps
end
section
variable {prog:Program}{w:World}{A:Around}{R:Result→Shared→Prop}{I:Addr}{fp wr:List Addr}{G:Array GenState→Array GenState→Prop}{n:Nat}{P:Nat→Value→Prop}{St:Nat→Shared→Prop}
theorem CC (W:WalksS prog w A.in1 I fp wr G n P St) (D:Addr) (Xy:D∉fp) (kvs:List (Key×Value)) (hx:kvs.length=n) (base:Heap)
  (MW:∀ i v,P i v→∃ (b:Addr) (k:Key) (key val:Value) (o:Obj) (m:Nat),kvs[i]?=some (k,val)∧v=.ref b∧(aF prog w).is k key=true∧base.get? b=some o∧o.cls=.type "tuple" ∧ o.data=.seq #[key,val] m∧b≠D∧b∉wr) (hb:n≤sizeLine) :
  ∀ (k i:Nat) (s:Shared) (c:Int) (t:Tok),i+k=n→St i s→s.heap.DictOf (aF prog w) D (merged [] (kvs.take i))→(∀ b o,base.get? b=some o→b≠D→b∉wr→s.heap.get? b=some o) →
   (∀ s',Moved (D :: wr) G s s'→s'.heap.DictOf (aF prog w) D (merged [] kvs)→R (.ok (.ret .none)) s') →
   codeAny (model prog w) A (.builtin "dict.update.loop" ⟨[.ref D,.ref I,.int c t,.none],[]⟩) R s:=by
 have nw:D∉wr:=fun h=>Xy (W.sub _ h)
 have up:∀ b∈wr,b∈D :: wr:=fun b hb=>zg _ hb
 intro k
 induction k with
 | zero =>
  intro i s c t hk xA hS hB hR
  have e:i=n:=by omega
  subst e
  refine yG iN ?_ ;rw[Around.under_plainId dh _]
  show wpAny _ A.in1 (pyNext (.ref I) >>= _) _ _ s ;refine za (W.done s _ _ xA fun s' hm=>?_)
  show wpAny _ A.in1 (Builtin.Dict.addKeywords D [] >>= _) _ _ s'
  have q:s'.heap.DictOf (aF prog w) D (merged [] (kvs.take i)):=by
   obtain⟨o,es,ep,ho,rest⟩:=hS
   exact⟨o,es,ep,hm.heap D _ nw ho,rest⟩
  rw[← hx,List.take_length] at q
  exact za (zf (zf (hR s' (hm.mono up) q)))
 | succ k ih =>
  intro i s c t hk xA hS hB hR
  have lt:i<n:=by omega
  refine yG iN ?_ ;rw[Around.under_plainId dh _]
  show wpAny _ A.in1 (pyNext (.ref I) >>= _) _ _ s ;refine za (W.item i s _ _ lt xA fun v s' hP MX hm=>?_)
  obtain⟨b,ky,key,val,o,m,ek,rfl,Mh,ho,hc,hd,Zi,Xz⟩:=MW i v hP
  have q:s'.heap.DictOf (aF prog w) D (merged [] (kvs.take i)):=by
   obtain⟨o,es,ep,ho,rest⟩:=hS
   exact⟨o,es,ep,hm.heap D _ nw ho,rest⟩
  have KC:s'.heap.get? b=some o:=hm.heap b o Xz (hB b o ho Zi Xz)
  have room:(merged [] (kvs.take i)).length≤sizeLine:=by have:=merged_length_le ([]:List (Key×Value)) (kvs.take i);rw[yd] at this;simp at this;omega
  have tk:merged [] (kvs.take (i+1))=stored (merged [] (kvs.take i)) ky val:=merged_take_succ [] kvs i (ky,val) ek
  refine za (yy (za (wpAny_tryCatch ?_)))
  unfold Builtin.Dict.pairItems
  refine za (wpAny_typeOf (T := "tuple") ⟨o,KC,hc⟩ ?_)
  show wpAny _ A.in1 (seqItems? (.ref b) >>= _) _ _ s'
  refine za (yh KC hd (zf ?_))
  show wpAny _ A.in1 (holding [key,val] (dictSet D key val)) _ _ s'
  refine yy (wpAny_dictSet_pairs Mh q (fun h' q2 IH=>?_) room)
  rw[← tk] at q2
  refine zf ⟨plainId_quiet dh _,ih (i+1) _ _ _ (by omega) (W.frame _ s' _ _ MX (yN _) fun b hb o e=>?_) q2 (fun b o e h1 h2=>?_) fun xO MY U0=>?_⟩
  ·rw[IH.2 b (fun h:b=D=>Xy (by rw[← h];exact hb))] ;exact e
  ·rw[IH.2 b h1] ;exact hm.heap b o h2 (hB b o e h1 h2)
  ·refine hR xO (Moved.trans W.gtrans ((hm.mono up).then_heap (yN _) fun b o hb e=>?_) MY) U0
   rw[IH.2 b (fun h:b=D=>hb (by rw[h];exact zu))] ;exact e
theorem rG (hh:A.handled=none) (gl:s.heap.get? l=some ol) (cl:ol.cls=.type "tuple") (dl:ol.data=.seq items m) (nl:ol.dict=none) (hx:kvs.length=items.size)
  (hi:∀ (i:Nat) (v:Value),items[i]?=some v→∃ (b:Addr) (k:Key) (key val:Value) (o:Obj) (m:Nat),kvs[i]?=some (k,val)∧v=.ref b∧(aF prog w).is k key=true∧s.heap.get? b=some o∧o.cls=.type "tuple" ∧ o.data=.seq #[key,val] m) (hb:items.size≤sizeLine)
  (h:∀ (h':Heap) (tk:Nat),h'.DictOf (aF prog w) s.heap.objs.size (merged [] kvs)→(∀ b o,s.heap.get? b=some o→h'.get? b=some o)→Q (.ref s.heap.objs.size) { s with heap:=h',toks:=tk }) :
  wpAny (model prog w) A (call (.type "dict") [.ref l]) Q E s:=by
 refine callType_codes (Q₁:=fun obj aY=>obj=.ref s.heap.objs.size∧aY={ s with heap:=s.heap.push { cls:=.type "dict",data:=.dict #[] } }) F.kt_called_dict (F.kt_typeCall_dict_1 _) F.entry_dict_init (kt_code_dict_new _ ⟨rfl,rfl⟩) ?_
 rintro obj aY ⟨rfl,rfl⟩
 have M6:(s.heap.push { cls:=.type "dict",data:=.dict #[] }).DictOf (aF prog w) s.heap.objs.size []:=Heap.DictOf.new s.heap
 have Qn:(s.heap.push { cls:=.type "dict",data:=.dict #[] }).get? l=some ol:=zb _ gl
 refine⟨M6.typeIs,F.args_dict_init_2 _ _,?_⟩
 unfold Builtin.«dict.__init__»
 refine za ?_
 unfold Builtin.Dict.selfAndRest
 refine za (wpAny_notOrdered_dict M6.typeIs ?_) ;show wpAny _ _ (pure (s.heap.objs.size,[Value.ref l])) _ _ _
 refine zf ?_ ;show wpAny _ _ (Builtin.Dict.updateFrom "dict.__init__" s.heap.objs.size (.ref l) [] .none) _ _ _
 unfold Builtin.Dict.updateFrom
 refine za (wpAny_typeOf (T := "tuple") ⟨ol,Qn,cl⟩ ?_) ;rw[if_pos (by decide)]
 have h3:A.in1.in1.handled=none:=by simp [hh]
 refine za (rF Qn cl dl nl h3 fun h1 Zj SA=>?_)
 have g1:h1.get? l=some ol:=SA _ _ Qn
 have d1:h1.DictOf (aF prog w) s.heap.objs.size []:=by
  obtain⟨o,es,ep,ho,rest⟩:=M6
  exact⟨o,es,ep,SA _ _ ho,rest⟩
 have lD:s.heap.objs.size<h1.objs.size:=by obtain⟨o,es,ep,ho,rest⟩:=d1;exact zp ho
 have ll:l<s.heap.objs.size:=zp gl
 show wpAny _ _ (rule _ >>= _) _ _ _ ;refine za (yJ ?_)
 have XB:h1.IsTuple l items:=⟨ol,g1,cl,m,dl⟩
 refine za (wpAny_pyIter_tuple (s:=⟨h1,s.gens,s.drawn,Zj,s.os⟩) XB ?_)
 have ne:l≠h1.objs.size:=zr (Nat.lt_trans ll lD)
 have nf:s.heap.objs.size∉[h1.objs.size,l]:=by
  simp only [ze,zE,zD,or_false,not_or] ;exact⟨zr lD,yc ll⟩
 refine zf ⟨plainId_quiet dh _,?_⟩
 refine CC ((Walks.tuple h3 _ l ne items).toS) s.heap.objs.size nf kvs hx s.heap (fun i v e=>?_) hb (items.size - 0) 0 _ _ _ (by omega) ⟨⟨_,zj _ rfl,rfl,rfl⟩,XB.push _⟩ ?hS0 ?hB ?hR
 ·obtain⟨b,k,key,val,o,m',e1,e2,e3,e4,e5,e6⟩:=hi i v e
  have lb:=zp e4
  exact⟨b,k,key,val,o,m',e1,e2,e3,e4,e5,e6,zr lb,by simp;exact zr (Nat.lt_trans lb lD)⟩
 case hS0=>exact d1.push _
 case hB=>exact fun b o e CD U5=>zb _ (SA _ _ (zb _ e))
 case hR =>
  intro s' hm q
  obtain⟨h',g',d',OD,PR⟩:=s'
  have eg:g'=s.gens:=hm.gens ;have ed:d'=s.drawn:=hm.drawn ;have eo:PR=s.os:=hm.os
  subst eg ;subst ed ;subst eo
  refine⟨rfl,h h' OD q fun b o e=>?_⟩
  have lb:=zp e
  refine hm.heap b o ?_ (zb _ (SA _ _ (zb _ e)))
  simp only [ze,zE,zD,or_false,not_or] ;exact⟨zr lb,zr (Nat.lt_trans lb lD)⟩
end
def Bi (l:List (Str×V)):List (Key×V):=l.foldl (fun c p=>putK c (.inr p.1) p.2) []
def XD (H:Hp) (ps:List V) (kvs:List (Str×V)):Prop:=kvs.length=ps.length∧∀ (i:Nat) (x:V) (p:Str×V),ps[i]?=some x→kvs[i]?=some p→∃ b,x=.ref b∧H b=some (.tup [.str p.1,p.2])
section
variable {X:Cx}
theorem x6 (hc:X.calm=true):fH X (.type "dict") (fun vs H Q=>∃ p ps kvs,vs=[.ref p]∧H p=some (.tup ps)∧XD H ps kvs∧∀ l,H l=none→Q (.ref l) (upd H l (.dK (Bi kvs)))):=by
 intro pins s σ H vs us Q I r h
 obtain⟨p,ps,kvs,rfl,hp,⟨hl,hq⟩,q⟩:=h
 obtain⟨u,rfl,rx⟩:=vals1 r
 cases rx
 obtain⟨hz,ay,rv,ol,gl,cl,nl,m,dl⟩:=(show bc X.prog X.w H s.heap p (.tup ps) from I.aJ p _ hp)
 have hlen:=rv.length
 -- the pairs as values
 have each:∀ (i:Nat) (x:V) (pr:Str×V),ps[i]?=some x→kvs[i]?=some pr→∃ (b:Addr) (key val:Value) (o:Obj) (m:Nat),ay[i]?=some (.ref b)∧(aF X.prog X.w).is (.inr pr.1) key=true∧RelV pr.2 val∧s.heap.get? b=some o∧o.cls=.type "tuple" ∧ o.data=.seq #[key,val] m:=by
  intro i x pr e1 e2
  obtain⟨b,rfl,hb⟩:=hq i x pr e1 e2
  obtain⟨u,e3,ru⟩:=rv.get e1
  cases ru
  obtain⟨_,it2,r2,o,go,co,no,m2,Zk⟩:=(show bc X.prog X.w H s.heap b (.tup [.str pr.1,pr.2]) from I.aJ b _ hb)
  obtain⟨k',v',rfl,⟨tk,rfl⟩,Zl⟩:=r2.two
  exact⟨b,_,v',o,m2,e3,iZ _ _ _ _,Zl,go,co,by simpa using Zk⟩
 have kv:∃ vals:List (Key×Value),KV (kvs.map fun p=>((.inr p.1:Key),p.2)) vals∧∀ (i:Nat) (x:V),ps[i]?=some x→∃ (b:Addr) (k:Key) (key val:Value) (o:Obj) (m:Nat),vals[i]?=some (k,val)∧ay[i]?=some (.ref b)∧(aF X.prog X.w).is k key=true∧s.heap.get? b=some o∧o.cls=.type "tuple" ∧ o.data=.seq #[key,val] m:=by
  clear hp q rv dl hz
  induction kvs generalizing ps ay with
  | nil =>
   refine⟨[],.nil,fun i x e=>?_⟩
   have:ps=[]:=List.eq_nil_of_length_eq_zero (by simpa using hl.symm)
   subst this
   simp at e
  | cons pr r ih =>
   cases ps with
   | nil=>simp at hl
   | cons y ys =>
    cases ay with
    | nil=>simp at hlen
    | cons w0 ws =>
     obtain⟨b,key,val,o,m,e1,e2,e3,e4,e5,e6⟩:=each 0 y pr rfl rfl
     obtain⟨vals,k1,k2⟩:=ih ys (by simpa using hl) (fun i x p a b=>hq (i+1) x p (by simpa using a) (by simpa using b)) ws (by simpa using hlen) (fun i x p a b=>by simpa using each (i+1) x p (by simpa using a) (by simpa using b))
     refine⟨(.inr pr.1,val) :: vals,.cons ⟨rfl,e3⟩ k1,fun i x e=>?_⟩
     cases i with
     | zero=>exact⟨b,.inr pr.1,key,val,o,m,rfl,e1,e2,e4,e5,e6⟩
     | succ i=>simpa using k2 i x (by simpa using e)
 obtain⟨vals,XE,Zm⟩:=kv
 have lv:vals.length=ay.length:=by have:=XE.length;rw[zc] at this;omega
 refine rG (kvs:=vals) (I.ok.hd hc) gl cl dl nl (by simpa using lv) (fun i v e=>?_) (by simp;omega) fun h' tk qs kp=>?_
 ·have e':ay[i]?=some v:=by simpa using e
  have hi:i<ay.length:=(zo.mp e').1
  obtain⟨b,k,key,val,o,m',e1,e2,e3,e4,e5,e6⟩:=Zm i (ps[i]'(by omega)) (zh _)
  rw[e'] at e2
  exact⟨b,k,key,val,o,m',e1,zO e2,e3,e4,e5,e6⟩
 ·have rel:KV (Bi kvs) (merged [] vals):=by
   have all:∀ (l:List (Str×V)) (vl:List (Key×Value)) (c:List (Key×V)) (cv:List (Key×Value)),KV (l.map fun p=>((.inr p.1:Key),p.2)) vl→KV c cv→KV (l.foldl (fun c p=>putK c (.inr p.1) p.2) c) (merged cv vl):=by
    intro l
    induction l with
    | nil=>intro vl c cv h1 h2;cases h1;exact h2
    | cons p r ih =>
     intro vl c cv h1 h2
     cases h1 with
     | @cons _ q _ qs r1 r2 =>
      obtain⟨k,v⟩:=q
      obtain⟨rfl,rv⟩:=r1
      exact ih qs _ _ r2 (h2.put _ rv)
   exact all kvs vals [] [] XE .nil
  have big:=I.big
  refine⟨.ref s.heap.objs.size,_,I.laid (t':=tk) (fun b o e=>kp b o e) (zm _) (o:=.dK (Bi kvs)) ⟨?_,?_,_,rel,qs⟩,rfl,q _ (I.aJ.fresh (zm _))⟩
  ·have e1:=rel.length
   have e2:=merged_length_le ([]:List (Key×Value)) vals
   simp at e2
   omega
  ·simp;exact yc big
end
section
variable {X:Cx}
def Qq (K:PySem.W.Frag):R2:=fun x y H Q=>∃ a b xs ys,x=.ref a∧y=.ref b∧iU K H a xs∧iU K H b ys∧xs.length+ys.length≤sizeLine ∧
 (xs=[]→Q (.ref b) H)∧(xs≠[]→ys=[]→Q (.ref a) H)∧(xs≠[]→ys≠[]→∀ p,H p=none→Q (.ref p) (upd H p (.tup (xs++ys))))
theorem IJ:gQ X (binaryOp .Add) (Qq X.K):=by
 intro pins s σ H x y v u Q I rx ry h
 obtain⟨a,b,xs,ys,rfl,rfl,ha,hb,hz,q0,q1,q2⟩:=h
 by_cases hx:xs=[]
 ·cases rx
  cases ry
  obtain⟨ay,r1,p1,_⟩:=I.tuple ha
  obtain⟨rq,r2,p2,_⟩:=I.tuple hb
  obtain⟨⟨cls,dd,data,sl⟩,ho,hc,n,hd⟩:=id p1
  obtain⟨⟨Ur,Sq,data2,Hz⟩,Ib,Ie,n2,hd2⟩:=id p2
  simp only at hc hd Ie hd2
  subst hc hd Ie hd2
  have e:ay=[]:=r1.pj.mpr hx
  exact concat_meets ⟨_,ho,rfl⟩ ⟨_,Ib,rfl⟩ noFill_tuple_add seq_tuple_add PySem.F.slot_tuple_add PySem.F.entry_tuple_add (PySem.F.args_tuple_add_2 _ _)
   (tuple_addW0 a b ay.toArray rq.toArray n n2 dd Sq sl Hz (by simp [e])) ⟨ho,Ib,.ref b,H,I,rfl,q0 hx⟩
 ·exact Ij pins s σ H _ _ v u Q I rx ry ⟨a,b,xs,ys,rfl,rfl,ha,hb,hx,hz,q1 hx,q2 hx⟩
end
mutual
def Sx (H:Hp):PyData→V→Prop
 | .none,v=>v=.aw
 | .bool b,v=>v=.bl b
 | .int i,v=>v=.int i
 | .str z,v=>v=.str z∧z.cps.size≤sizeLine
 | .list ds,v=>∃ a xs,v=.ref a∧H a=some (.lst xs)∧SxAll H ds xs
 | .tuple ds,v=>∃ a xs,v=.ref a∧H a=some (.tup xs)∧SxAll H ds xs
 | .dict _,v=>∃ a kvs,v=.ref a∧H a=some (.dK kvs)
def SxAll (H:Hp):List PyData→List V→Prop
 | [],xs=>xs=[]
 | d :: ds,xs=>∃ y ys,xs=y :: ys∧Sx H d y∧SxAll H ds ys
end
section
variable {H H':Hp}{K:PySem.W.Frag}
end
section
variable {σ:St}{H:Hp}{te tb:TE}{ta:TA}{d:PyData}{ds:List PyData}
theorem U6 (h:n≤1000):n≤sizeLine:=yE (gT h)
end
abbrev eC (h:Heap) (T:Addr) (arr:Array Value):Prop:=h.get? T=some { cls:=.type "tuple",data:=.seq arr }
theorem mM (hs:Heap.ExtBut b h h') (n:a≠b) (x:h.IsTupleIter a l i):h'.IsTupleIter a l i:=x.extBut hs n
theorem Bj {h h':Heap}{a l:Addr}{i:Nat} (k:∀ o,h.get? a=some o→h'.get? a=some o) (x:h.IsTupleIter a l i):h'.IsTupleIter a l i:=by obtain⟨o,e,r⟩:=x;exact⟨o,k o e,r⟩
section
variable {prog:Program}{w:World}{A:Around}{E:Value→Shared→Prop}{s:Shared}
theorem OE (h:n≤3):n≤sizeLine:=U6 (zG h (by decide))
theorem jM (hT:eC s.heap T arr) (hz:arr.size≤3) (h:∀ h',eC h' T (arr.setIfInBounds k x)→Heap.SameBut T s.heap h'→Q () { s with heap:=h' }):wpAny (model prog w) A (updateSeq T (·.setIfInBounds k x)) Q E s:=by
 refine wpAny_updateSeq hT rfl (h _ ?_ (yr ..)) (hz:=OE hz) (_hz':=by have:=OE hz;simp;omega)
 show Heap.get? _ _=_
 rw[Heap.get?_update_self _ hT rfl] ;simp [Obj.mapSeq]
theorem pR (hit:s.heap.IsTupleIter it l i) (hl:s.heap.IsTuple l items) (hx:items[i]?=some x) (hQ:∀ h',h'.IsTupleIter it l (i+1)→Heap.SameBut it s.heap h'→Q x { s with heap:=h' }) :
  wpAny (model prog w) A (Builtin.SmallTypes.nextOf (.ref it)) Q E s:=by
 obtain⟨o,ho,hc,hd⟩:=id hit ;obtain⟨ol,U7,_,nl,U8⟩:=hl
 unfold Builtin.SmallTypes.nextOf
 refine za (yb (name:=Str.ofString "__next__") hit.typeIs F.slot_tuple_iterator_next (yk F.slot_tuple_iterator_next hit.typeIs F.entry_tuple_iterator_next ?_ (F.args_tuple_iterator_next_1 _)))
 show wpAny _ _ (field (.ref it) 0 >>= _) _ _ s ;refine za (zJ ho hd (x:=.ref l) rfl ?_)
 show wpAny _ _ (if (Value.ref l == Value.none)=true then _ else _) _ _ s ;rw[if_neg (show ¬ ((Value.ref l == Value.none)=true) from zd)]
 show wpAny _ _ (field (.ref it) 1 >>= _) _ _ s ;refine za (zJ ho hd (x:=.int i 0) rfl ?_)
 show wpAny _ _ (seqItems? (.ref l) >>= _) _ _ s ;refine za (yh U7 U8 ?_)
 simp only [Int.toNat_natCast,hx]
 refine za (wpAny_setField ho hd (by simp) (zf ⟨x,rfl,zf (hQ _ ⟨_,Heap.get?_update_self _ ho (Obj.isFreed_of_fields (Obj.data_mapFields hd _)),(Obj.cls_mapFields ..).trans hc,by rw[Obj.data_mapFields hd];simp [rawInt]⟩ (yr ..))⟩))
theorem pS (hh:A.handled=none) (hit:s.heap.IsTupleIter it l i) (hl:s.heap.IsTuple l items) (hx:items[i]?=none)
  (hE:∀ h' e,Heap.ExtBut it s.heap h'→(∃ o,h'.get? e=some o∧o.cls=.type "StopIteration")→E (.ref e) { s with heap:=h' }):wpAny (model prog w) A (Builtin.SmallTypes.nextOf (.ref it)) Q E s:=by
 obtain⟨o,ho,hc,hd⟩:=id hit ;obtain⟨ol,U7,_,nl,U8⟩:=hl
 unfold Builtin.SmallTypes.nextOf
 refine za (yb (name:=Str.ofString "__next__") hit.typeIs F.slot_tuple_iterator_next (yk F.slot_tuple_iterator_next hit.typeIs F.entry_tuple_iterator_next ?_ (F.args_tuple_iterator_next_1 _)))
 show wpAny _ _ (field (.ref it) 0 >>= _) _ _ s ;refine za (zJ ho hd (x:=.ref l) rfl ?_)
 show wpAny _ _ (if (Value.ref l == Value.none)=true then _ else _) _ _ s ;rw[if_neg (show ¬ ((Value.ref l == Value.none)=true) from zd)]
 show wpAny _ _ (field (.ref it) 1 >>= _) _ _ s ;refine za (zJ ho hd (x:=.int i 0) rfl ?_)
 show wpAny _ _ (seqItems? (.ref l) >>= _) _ _ s ;refine za (yh U7 U8 ?_)
 simp only [Int.toNat_natCast,hx]
 refine za (yJ (za (wpAny_setField ho hd (by simp) ?_))) ;show wpAny _ _ (newExc (.type "StopIteration") [] >>= _) _ _ _
 refine za ?_ ;simp only [newExc,newTuple] ;refine za (yf ?_ (by size_fits))
 refine za (m:=firstArgMember _ _) (yO (a:=Value.none) (by first | rfl | (simp only [firstArgMember];rfl)) ?_) ;refine yf ?_ (by size_fits)
 simp only [raiseNew] ;refine za (wpAny_handled ?_)
 first | rw[show A.in1.handled=none from hh] | rw[hh]
 refine za (zf (wpAny_throw (hE _ _ (((yr ..).extBut.push _).push _) ⟨_,zj _ rfl,rfl⟩)))
end
def XF (n l0 l1:Nat) (i:Nat) (h:Heap):Prop:=IsZip h (n+4) (n+2) (n+3) .none∧eC h (n+2) #[.ref n,.ref (n+1)]∧(∃ arr:Array Value,arr.size=2∧eC h (n+3) arr)∧h.IsTupleIter n l0 i∧h.IsTupleIter (n+1) l1 i
section
variable {prog:Program}{w:World}{A:Around}{E:Value→Shared→Prop}{s:Shared}{n l0 l1:Nat}{i:Nat}{fm gA:Array Value}
theorem CF {x0 x1:Value}{arr:Array Value} (na:arr.size=2) {Q:Value→Shared→Prop} (b0:l0<n) (b1:l1<n) (hz:IsZip s.heap (n+4) (n+2) (n+3) .none) (hI:eC s.heap (n+2) #[.ref n,.ref (n+1)]) (hO:eC s.heap (n+3) arr) (j0:s.heap.IsTupleIter n l0 i) (j1:s.heap.IsTupleIter (n+1) l1 i) (t0:s.heap.IsTuple l0 fm) (t1:s.heap.IsTuple l1 gA) (e0:fm[i]?=some x0) (e1:gA[i]?=some x1)
  (hQ:∀ h',IsZip h' (n+4) (n+2) (n+3) (rawInt s.heap.objs.size)→eC h' (n+3) #[x0,x1]→h'.IsTupleIter n l0 (i+1)→h'.IsTupleIter (n+1) l1 (i+1)→eC h' s.heap.objs.size #[x0,x1]→(∀ c o,c≠(n+4)→c≠(n+3)→c≠n→c≠(n+1)→s.heap.get? c=some o→h'.get? c=some o)→Q (.ref s.heap.objs.size) { s with heap:=h' }) :
  wpAny (model prog w) A (Builtin.«zip.__next__» ⟨[.ref (n+4)],[]⟩) (fun fin s'=>∃ v,fin=.done (.ret v)∧Q v s') E s:=by
 show wpAny _ _ (field (.ref (n+4)) 2 >>= _) _ _ _ ;refine za (zJ hz rfl (x:=.bool false) rfl ?_)
 show wpAny _ _ (field (.ref (n+4)) 3 >>= _) _ _ _ ;refine za (zJ hz rfl (x:=.ref (n+2)) rfl ?_)
 refine za (yh hI rfl ?_) ;show wpAny _ _ (Builtin.SmallTypes.ownedTupleIsFree (.ref (n+4)) >>= _) _ _ _
 refine za ?_ ;unfold Builtin.SmallTypes.ownedTupleIsFree
 refine za (zJ hz rfl (x:=.none) rfl (zf ?_)) ;simp only [if_true]
 refine za (yJ ?_) ;refine za (zJ hz rfl (x:=.ref (n+3)) rfl ?_)
 refine za (yi hz (by simp) fun h0 x8 q0=>?_) ;replace x8:IsZip h0 (n+4) (n+2) (n+3) .ellipsis:=x8
 have k0:∀ c o,c≠(n+4)→s.heap.get? c=some o→h0.get? c=some o:=fun c o d e=>q0.extBut _ _ d e
 have O0:eC h0 (n+3) arr:=k0 _ _ (by show @Ne Nat _ _;omega) hO
 refine za ?_ ;simp only [List.zipIdx_cons,List.zipIdx_nil,List.forIn_cons,List.forIn_nil]
 -- the 0. iterator
 have J0:Heap.IsTupleIter h0 n l0 i:=by obtain⟨o,a1,a2⟩:=j0;exact⟨o,k0 _ _ (by show @Ne Nat _ _;omega) a1,a2⟩
 have T0:Heap.IsTuple h0 l0 fm:=by obtain⟨o,a1,a2⟩:=t0;exact⟨o,k0 _ _ (by show @Ne Nat _ _;omega) a1,a2⟩
 refine za (za (wpAny_onRaise ?_)) ;show wpAny _ _ (Builtin.SmallTypes.nextOf (.ref n) >>= _) _ _ _
 refine za (pR (s:={ s with heap:=h0 }) J0 T0 e0 fun h1 m0 q1=>zf ?_)
 have O1:eC h1 (n+3) arr:=q1.extBut _ _ (by show @Ne Nat _ _;omega) O0
 refine za (yh (s:={ s with heap:=h1 }) O1 rfl ?_) ;refine za (jM (s:={ s with heap:=h1 }) O1 (by simp [na,OE]) fun h2 O2 q2=>?_) ;refine za (wpAny_letGo (zf ?_))
 have k2:∀ c o,c≠(n+4)→c≠(n+3)→c≠n→s.heap.get? c=some o→h2.get? c=some o:=fun c o dz dO d0 e=>q2.extBut _ _ dO (q1.extBut _ _ d0 (k0 c o dz  e))
 -- the 1. iterator
 have J1:Heap.IsTupleIter h2 (n+1) l1 i:=by obtain⟨o,a1,a2⟩:=j1;exact⟨o,k2 _ _ (by show @Ne Nat _ _;omega) (by show @Ne Nat _ _;omega) (by show @Ne Nat _ _;omega) a1,a2⟩
 have T1:Heap.IsTuple h2 l1 gA:=by obtain⟨o,a1,a2⟩:=t1;exact⟨o,k2 _ _ (by show @Ne Nat _ _;omega) (by show @Ne Nat _ _;omega) (by show @Ne Nat _ _;omega) a1,a2⟩
 refine za (za (wpAny_onRaise ?_)) ;show wpAny _ _ (Builtin.SmallTypes.nextOf (.ref (n+1)) >>= _) _ _ _
 refine za (pR (s:={ s with heap:=h2 }) J1 T1 e1 fun h3 m1 q3=>zf ?_)
 have O3:eC h3 (n+3) (arr.setIfInBounds 0 x0):=q3.extBut _ _ (by show @Ne Nat _ _;omega) O2
 refine za (yh (s:={ s with heap:=h3 }) O3 rfl ?_) ;refine za (jM (s:={ s with heap:=h3 }) O3 (by simp [na,OE]) fun h4 O4 q4=>?_) ;refine za (wpAny_letGo (zf ?_))
 have k4:∀ c o,c≠(n+4)→c≠(n+3)→c≠n→c≠(n+1)→s.heap.get? c=some o→h4.get? c=some o:=fun c o dz dO d0 d1 e=>q4.extBut _ _ dO (q3.extBut _ _ d1 (k2 c o dz dO d0 e))
 have ea:((arr.setIfInBounds 0 x0).setIfInBounds 1 x1)=#[x0,x1]:=by obtain⟨l⟩:=arr;match l,na with | [_,_],_=>rfl
 rw[ea] at O4
 have Qr:IsZip h4 (n+4) (n+2) (n+3) .ellipsis:=q4.extBut _ _ (by show @Ne Nat _ _;omega) (q3.extBut _ _ (by show @Ne Nat _ _;omega) (q2.extBut _ _ (by show @Ne Nat _ _;omega) (q1.extBut _ _ (by show @Ne Nat _ _;omega) (x8))))
 have M0:Heap.IsTupleIter h4 n l0 (i+1):=mM q4.extBut (by show @Ne Nat _ _;omega) (mM q3.extBut (by show @Ne Nat _ _;omega) (mM q2.extBut (by show @Ne Nat _ _;omega) m0))
 have M1:Heap.IsTupleIter h4 (n+1) l1 (i+1):=mM q4.extBut (by show @Ne Nat _ _;omega) m1
 have hsz:h4.objs.size=s.heap.objs.size:=by rw[q4.1,q3.1,q2.1,q1.1,q0.1]
 refine zf ?_ ;refine za (yh (s:={ s with heap:=h4 }) O4 rfl ?_) ;refine za (wpAny_newTuple ?_)
 have lz:(n+4)<h4.objs.size:=zp Qr
 show wpAny _ _ (Builtin.SmallTypes.ownedTupleHandOut (.ref (n+4)) (.ref h4.objs.size) >>= _) _ _ _ ;refine za ?_ ;unfold Builtin.SmallTypes.ownedTupleHandOut
 have U9:IsZip (h4.push { cls:=.type "tuple",data:=.seq #[x0,x1] }) (n+4) (n+2) (n+3) .ellipsis:=zb _ Qr
 refine za (yi (s:={ s with heap:=h4.push { cls:=.type "tuple",data:=.seq #[x0,x1] } }) U9 (by simp) fun g1 CG r1=>?_) ;replace CG:IsZip g1 (n+4) (n+2) (n+3) (rawInt h4.objs.size):=CG
 refine yi (s:={ s with heap:=g1 }) CG (by simp) fun g2 Ej r2=>?_ ;replace Ej:IsZip g2 (n+4) (n+2) (n+3) (rawInt h4.objs.size):=Ej
 have up:∀ c o,c≠(n+4)→h4.get? c=some o→g2.get? c=some o:=fun c o d e=>r2.extBut _ _ d (r1.extBut _ _ d (zb _ e))
 have hT:eC g2 h4.objs.size #[x0,x1]:=r2.extBut _ _ (yc lz) (r1.extBut _ _ (yc lz) (zj _ rfl))
 rw[hsz] at Ej hT ;refine zf ⟨_,rfl,?_⟩ ;show Q (.ref h4.objs.size) _ ;rw[hsz]
 exact hQ g2 Ej (up _ _ (by show @Ne Nat _ _;omega) O4) (Bj (fun o e=>up _ o (by show @Ne Nat _ _;omega) e) M0) (Bj (fun o e=>up _ o (by show @Ne Nat _ _;omega) e) M1) hT fun c o dz dO d0 d1 e=>up c o dz (k4 c o dz dO d0 d1 e)
theorem E6 (hh:A.handled=none) (b0:l0<n) (b1:l1<n) (hz:IsZip s.heap (n+4) (n+2) (n+3) .none) (hI:eC s.heap (n+2) #[.ref n,.ref (n+1)]) (hO:eC s.heap (n+3) arr) (j0:s.heap.IsTupleIter n l0 i) (j1:s.heap.IsTupleIter (n+1) l1 i) (t0:s.heap.IsTuple l0 fm) (t1:s.heap.IsTuple l1 gA)
  (e0:fm[i]?=none) (hE:∀ h' e,(∀ c o,c≠(n+4)→c≠(n+3)→c≠n→c≠(n+1)→s.heap.get? c=some o→h'.get? c=some o)→(∃ o,h'.get? e=some o∧o.cls=.type "StopIteration")→E (.ref e) { s with heap:=h' }) :
  wpAny (model prog w) A (Builtin.«zip.__next__» ⟨[.ref (n+4)],[]⟩) Q E s:=by
 show wpAny _ _ (field (.ref (n+4)) 2 >>= _) _ _ _ ;refine za (zJ hz rfl (x:=.bool false) rfl ?_)
 show wpAny _ _ (field (.ref (n+4)) 3 >>= _) _ _ _ ;refine za (zJ hz rfl (x:=.ref (n+2)) rfl ?_)
 refine za (yh hI rfl ?_) ;show wpAny _ _ (Builtin.SmallTypes.ownedTupleIsFree (.ref (n+4)) >>= _) _ _ _
 refine za ?_ ;unfold Builtin.SmallTypes.ownedTupleIsFree
 refine za (zJ hz rfl (x:=.none) rfl (zf ?_)) ;simp only [if_true]
 refine za (yJ ?_) ;refine za (zJ hz rfl (x:=.ref (n+3)) rfl ?_)
 refine za (yi hz (by simp) fun h0 x8 q0=>?_) ;replace x8:IsZip h0 (n+4) (n+2) (n+3) .ellipsis:=x8
 have J0:Heap.IsTupleIter h0 n l0 i:=by obtain⟨o,a1,a2⟩:=j0;exact⟨o,q0.extBut _ _ (by show @Ne Nat _ _;omega) a1,a2⟩
 have T0:Heap.IsTuple h0 l0 fm:=by obtain⟨o,a1,a2⟩:=t0;exact⟨o,q0.extBut _ _ (by show @Ne Nat _ _;omega) a1,a2⟩
 refine za ?_ ;simp only [List.zipIdx_cons,List.zipIdx_nil,List.forIn_cons,List.forIn_nil]
 refine za (za (wpAny_onRaise ?_)) ;show wpAny _ _ (Builtin.SmallTypes.nextOf (.ref n) >>= _) _ _ _
 refine za (pS (s:={ s with heap:=h0 }) hh J0 T0 e0 fun h1 e q1 he=>?_)
 obtain⟨oe,M7,Qs⟩:=he ;have CG:IsZip h1 (n+4) (n+2) (n+3) .ellipsis:=q1 _ _ (by show @Ne Nat _ _;omega) x8
 have ez:e≠(n+4):=fun x=>by subst x;rw[CG] at M7;cases M7;simp at Qs
 refine yi (s:={ s with heap:=h1 }) CG (by simp) fun h2 _ q2=>hE h2 e (fun c o dz _ d0 _ x=>q2.extBut _ _ dz (q1 _ _ d0 (q0.extBut _ _ dz x))) ⟨oe,q2.extBut _ _ ez M7,Qs⟩
end
section
variable {X:Cx}{pins:List (Addr×Obj)}{σ:St}{H:Hp}{s:Shared}{h':Heap}
theorem Inv.Bk (I:Inv X pins σ H s) (wr:List Addr) (hw:∀ b∈wr,oy X pins H b) (k:∀ b o,b∉wr→s.heap.get? b=some o→h'.get? b=some o):Inv X pins σ H { s with heap:=h',toks:=t' }:=by
 refine I.step (g':=s.gens) (d':=s.drawn) (ch:=wr) (fun b hb=>by obtain⟨_,a,_,c,d,e⟩:=hw b hb;exact⟨c,a,d,e⟩) (fun b o _ _ hc e _=>k b o hc e) (fun b o _ _ hc e _=>⟨o.slots,k b o hc e⟩) (fun _ _ _ _ n=>n)
  (fun b o hc e=>⟨o,k b o hc e⟩) (fun _ _ e=>e) (fun _ _ _ e=>e) (fun b ps e=>⟨#[],by rw[e];simp⟩) (fun m hm=>?_) (fun b u e=>?_) I.bare
 ·obtain⟨o,es,ep,ho,r⟩:=hm
  exact⟨o,es,ep,k _ o (fun z=>(hw _ z).2.1 rfl) ho,r⟩
 ·refine (I.aJ b u e).ou (fun c v hc q=>k c v (fun z=>?_) q) (fun _ q=>q) fun _ _ q=>q
  have n:=(hw c z).1
  rcases hc with rfl | hc
  ·rw[n] at e;cases e
  ·rw[n] at hc;cases hc
theorem Inv.Bl (I:Inv X pins σ H s) (wr:List Addr) (hw:∀ b∈wr,oy X pins H b) (k:∀ b o,b∉wr→s.heap.get? b=some o→h'.get? b=some o) (hT:s.heap.get? T=none) (new:bc X.prog X.w (upd H T o) h' T o) :
  Inv X pins σ (upd H T o) { s with heap:=h',toks:=t' }:=by
 have fr:H T=none:=by
  cases q:H T with
  | none=>rfl
  | some u=>obtain⟨z,e⟩:=(I.aJ T u q).get;rw[hT] at e;cases e
 have ne:∀ b u,H b=some u→b≠T:=fun b u e z=>by rw[z,fr] at e;cases e
 refine I.step (g':=s.gens) (d':=s.drawn) (ch:=wr) (fun b hb=>by obtain⟨_,a,_,c,d,e⟩:=hw b hb;exact⟨c,a,d,e⟩) (fun b o _ _ hc e _=>k b o hc e) (fun b o _ _ hc e _=>⟨o.slots,k b o hc e⟩) (fun b ob _ e n=>?_)
  (fun b o hc e=>⟨o,k b o hc e⟩) (fun b xs e=>by rw[av (ne b _ e)];exact e) (fun b ob u e=>by rw[av (ne b _ e)];exact e) (fun b ps e=>⟨#[],by rw[av (ne b _ e),e];simp⟩) (fun m hm=>?_) (fun b u e=>?_) I.bare
 ·have:b≠T:=fun z=>by rw[z,hT] at e;cases e
  rw[av this];exact n
 ·obtain⟨o,es,ep,ho,r⟩:=hm
  exact⟨o,es,ep,k _ o (fun z=>(hw _ z).2.1 rfl) ho,r⟩
 ·by_cases hb:b=T
  ·subst hb;rw[aE] at e;cases e;exact new
  ·rw[av hb] at e
   refine (I.aJ b u e).ou (fun c v hc q=>k c v (fun z=>?_) q) (fun c q=>by rw[av (ne c _ q)];exact q) fun c xs q=>by rw[av (ne c _ q)];exact q
   have n:=(hw c z).1
   rcases hc with rfl | hc
   ·rw[n] at e;cases e
   ·rw[n] at hc;cases hc
end
def Qt (K:PySem.W.Frag) (l0 l1:Addr):It :=
 ⟨fun i H=>∃ (fm gA:List V) (x0 x1:V),iU K H l0 fm∧iU K H l1 gA∧fm[i]?=some x0∧gA[i]?=some x1,
  fun i H x H'=>∃ T,H T=none∧x=.ref T∧∀ (fm gA:List V) (x0 x1:V),iU K H l0 fm→iU K H l1 gA→fm[i]?=some x0→gA[i]?=some x1→H'=upd H T (.tup [x0,x1]),
  fun i H=>∃ fm gA,iU K H l0 fm∧iU K H l1 gA∧fm.length≤i⟩
theorem CH {P:Program}{w:World}{K:PySem.W.Frag}{es:List Expr}{kk:Nat}{tp:Pos}{n l0 l1:Nat} (b0:l0<n) (b1:l1<n):Turn P w K (.Tuple es kk tp) (Qt K l0 l1) [n,(n+1),(n+2),(n+3),(n+4)] (n+4) (XF n l0 l1) where
 mem:=by simp
 obj:=fun i h st b hb=>by
  obtain⟨hz,hI,⟨arr,na,hO⟩,j0,j1⟩:=st
  have c:b=n∨b=(n+1)∨b=(n+2)∨b=(n+3)∨b=(n+4):=by simpa using hb
  rcases c with rfl | rfl | rfl | rfl | rfl
  ·obtain⟨o,e,c,d⟩:=j0;exact⟨o,e,fun v z=>by rw[d] at z;cases z⟩
  ·obtain⟨o,e,c,d⟩:=j1;exact⟨o,e,fun v z=>by rw[d] at z;cases z⟩
  ·exact⟨_,hI,fun v z=>by cases z⟩
  ·exact⟨_,hO,fun v z=>by cases z⟩
  ·exact⟨_,hz,fun v z=>by cases z⟩
 keep:=fun i h h' st k=>by
  obtain⟨hz,hI,⟨arr,na,hO⟩,j0,j1⟩:=st
  exact⟨k _ (by simp) _ hz,k _ (by simp) _ hI,⟨arr,na,k _ (by simp) _ hO⟩,Bj (fun o e=>k _ (by simp) o e) j0,Bj (fun o e=>k _ (by simp) o e) j1⟩
 item:=by
  intro X hP hw hK hc i pins s σ H E I hf st hg
  subst hP hw hK
  obtain⟨fm,gA,x0,x1,q0,q1,e0,e1⟩:=hg
  obtain⟨rH,IK,p0,_⟩:=I.tuple q0 ;obtain⟨u0,U_,Va⟩:=IK.get e0
  obtain⟨rJ,E7,p1,_⟩:=I.tuple q1 ;obtain⟨u1,Vb,Vc⟩:=E7.get e1
  obtain⟨hz,hI,⟨arr,na,hO⟩,j0,j1⟩:=st
  have hT:s.TypeIs (.ref (n+4)) "zip" := ⟨_,hz,rfl⟩
  unfold pyNext
  refine za (yL (yb (name:=Str.ofString "__next__") hT yH (yk yH hT F.entry_zip_next (CF na b0 b1 hz hI hO j0 j1 (show s.heap.IsTuple l0 rH.toArray from p0) (show s.heap.IsTuple l1 rJ.toArray from p1) (show rH.toArray[i]?=some u0 by simpa using U_) (show rJ.toArray[i]?=some u1 by simpa using Vb) fun h1 z1 O1 m0 m1 T1 kp=>zf ⟨_,rfl,?_⟩) (F.args_zip_next_1 _))))
  refine wpAny_letOwnedTupleGo_zip (s:={ s with heap:=h1 }) z1 fun h2 z2 r2=>?_
  have OF:∀ c o,c∉([(n+4),(n+3),n,(n+1)]:List Addr)→s.heap.get? c=some o→h2.get? c=some o:=fun c o hc e=>by
   simp only [ze,zD,or_false,not_or] at hc
   obtain⟨dz,dO,d0,d1⟩:=hc
   exact r2.extBut _ _ dz (kp c o dz dO d0 d1 e)
  have lz:(n+4)<s.heap.objs.size:=zp hz
  have T2:eC h2 s.heap.objs.size #[u0,u1]:=r2.extBut _ _ (yc lz) T1
  have Vd:∀ b∈([(n+4),(n+3),n,(n+1)]:List Addr),oy X pins H b:=fun b hb=>hf b (by simp only [ze,zD,or_false] at hb ⊢;rcases hb with h | h | h | h <;> simp [h])
  have I2:Inv X pins σ (upd H s.heap.objs.size (.tup [x0,x1])) { s with heap:=h2 }:=I.Bl (t':=s.toks) [(n+4),(n+3),n,(n+1)] Vd OF (Heap.get?_none_of_le (zm _)) ⟨U6 (show 2≤1000 by decide),[u0,u1],.cons Va (.cons Vc (.nil)),⟨_,T2,rfl,rfl,_,rfl⟩⟩
  refine⟨.ref s.heap.objs.size,_,I2,rfl,⟨_,I.aJ.fresh (zm _),rfl,fun Zn Zo y0 y1 g0 g1 f0 f1=>?_⟩,?_,fun b hb=>?_⟩
  ·have:=I.jK g0 q0 ;subst this ;have:=e0.symm.trans f0 ;cases this
   have:=I.jK g1 q1 ;subst this ;have:=e1.symm.trans f1 ;cases this
   rfl
  ·refine⟨z2,r2.extBut _ _ (by show @Ne Nat _ _;omega) (kp _ _ (by show @Ne Nat _ _;omega) (by show @Ne Nat _ _;omega) (by show @Ne Nat _ _;omega) (by show @Ne Nat _ _;omega) hI),⟨_,rfl,r2.extBut _ _ (by show @Ne Nat _ _;omega) O1⟩,mM r2.extBut (by show @Ne Nat _ _;omega) m0,mM r2.extBut (by show @Ne Nat _ _;omega) m1⟩
  ·have l2:b<s.heap.objs.size:=by
    simp only [ze,zD,or_false] at hb
    have lz:@LT.lt Nat _ (n+4) s.heap.objs.size:=lz
    rcases hb with rfl | rfl | rfl | rfl | rfl <;> (show @LT.lt Nat _ _ s.heap.objs.size;omega)
   rw[av (zr l2)] ;exact (hf b hb).1
 done:=by
  intro X hP hw hK hc i pins s σ H E I hf st hg
  subst hP hw hK
  obtain⟨fm,gA,q0,q1,hx⟩:=hg
  obtain⟨rH,IK,p0,_⟩:=I.tuple q0
  obtain⟨rJ,E7,p1,_⟩:=I.tuple q1
  obtain⟨hz,hI,⟨arr,na,hO⟩,j0,j1⟩:=st
  have hT:s.TypeIs (.ref (n+4)) "zip" := ⟨_,hz,rfl⟩ ;have hl:=IK.length
  unfold pyNext
  refine za (yL (yb (name:=Str.ofString "__next__") hT yH (yk yH hT F.entry_zip_next (E6 (I.ok.hd hc) b0 b1 hz hI hO j0 j1 (show s.heap.IsTuple l0 rH.toArray from p0) (show s.heap.IsTuple l1 rJ.toArray from p1) (by simp;omega) fun h1 e kp he=>?_) (F.args_zip_next_1 _))))
  obtain⟨o,ho,E8⟩:=he ;refine za (wpAny_isInstance (T := "StopIteration") (b:=true) ⟨o,ho,E8⟩ isSubtype_stop (zf ⟨rfl,?_⟩))
  refine I.Bk (t':=s.toks) [(n+4),(n+3),n,(n+1)] (fun b hb=>hf b (by simp only [ze,zD,or_false] at hb ⊢;rcases hb with h | h | h | h <;> simp [h])) fun c o hc e=>?_
  simp only [ze,zD,or_false,not_or] at hc
  obtain⟨dz,dO,d0,d1⟩:=hc
  exact kp c o dz dO d0 d1 e
 self:=fun A' i s Q E st h=>wpAny_pyIter_zip st.1 h
abbrev IL (h:Heap) (l0:Addr):Heap:=(h).push { cls:=.type "tuple_iterator",data:=.fields #[.ref l0,.int 0 0] }
abbrev IM (h:Heap) (l0 l1:Addr):Heap:=(IL h l0).push { cls:=.type "tuple_iterator",data:=.fields #[.ref l1,.int 0 0] }
abbrev IP (h:Heap) (l0 l1:Addr):Heap:=(IM h l0 l1).push { cls:=.type "tuple",data:=.seq #[.ref h.objs.size,.ref (IL h l0).objs.size] }
abbrev IQ (h:Heap) (l0 l1:Addr):Heap:=(IP h l0 l1).push { cls:=.type "tuple",data:=.seq #[.none,.none] }
abbrev x9 (h:Heap) (l0 l1:Addr):Heap:=(IQ h l0 l1).push { cls:=.type "zip",data:=.fields #[.none,.bool false,.bool false,.ref (IM h l0 l1).objs.size,.ref (IP h l0 l1).objs.size] }
theorem x_ (l0 l1:Addr) (fm gA:Array Value):Meets (Builtin.«zip.__new__» ⟨[.type "zip",.ref l0,.ref l1],[]⟩) (fun _ R s=>s.heap.IsTuple l0 fm∧s.heap.IsTuple l1 gA∧R (.ok (.ret (.ref (IQ s.heap l0 l1).objs.size))) { s with heap:=x9 s.heap l0 l1 }) :=
 .of_wp fun prog w A R s h=>by
  obtain⟨hp,g,d,tk,os⟩:=s;obtain⟨t0,t1,h⟩:=h
  have Ve:=sub_zip
  have L0:Heap.IsTuple (Shared.heap ⟨hp,g,d,tk,os⟩) l0 fm:=t0
  have L1:Heap.IsTuple (Shared.heap ⟨hp.push { cls:=.type "tuple_iterator",data:=.fields #[.ref l0,.int 0 0] },g,d,tk,os⟩) l1 gA:=Heap.IsTuple.push (t1) _
  wp_walk using wpAny_pyIter_tuple L0,wpAny_pyIter_tuple L1
  exact⟨_,rfl,h⟩
theorem yP (t0:s.heap.IsTuple l0 fm) (t1:s.heap.IsTuple l1 gA)
  (h:∀ h',XF s.heap.objs.size l0 l1 0 h'→(∀ c o,s.heap.get? c=some o→h'.get? c=some o)→Q (.ref (s.heap.objs.size+4)) { s with heap:=h' }):wpAny (model prog w) A (call (.type "zip") [.ref l0,.ref l1]) Q E s:=by
 refine callType_new F.called_zip (by decide) (F.typeCall_zip_2 _ _) (F.newCall_zip_2 _ _) (fun obj=>F.args_object_init_3 obj _ _) F.entry_zip_new (x_ l0 l1 fm gA) ⟨t0,t1,?_⟩
 have z1:(IL s.heap l0).objs.size=s.heap.objs.size+1:=zU ..
 have z2:(IM s.heap l0 l1).objs.size=s.heap.objs.size+2:=by rw[zU,z1]
 have z3:(IP s.heap l0 l1).objs.size=s.heap.objs.size+3:=by rw[zU,z2]
 have z4:(IQ s.heap l0 l1).objs.size=s.heap.objs.size+4:=by rw[zU,z3]
 have z5:(x9 s.heap l0 l1).objs.size=s.heap.objs.size+5:=by rw[zU,z4]
 have g0:(x9 s.heap l0 l1).get? (s.heap).objs.size=some _:=zb _ (zb _ (zb _ (zb _ (zj _ rfl))))
 have g1:(x9 s.heap l0 l1).get? (IL s.heap l0).objs.size=some _:=zb _ (zb _ (zb _ (zj _ rfl)))
 have g2:(x9 s.heap l0 l1).get? (IM s.heap l0 l1).objs.size=some _:=zb _ (zb _ (zj _ rfl))
 have g3:(x9 s.heap l0 l1).get? (IP s.heap l0 l1).objs.size=some _:=zb _ (zj _ rfl)
 have g4:(x9 s.heap l0 l1).get? (IQ s.heap l0 l1).objs.size=some _:=zj _ rfl
 show _∧_
 rw[z2,z3,z4] at g4
 rw[z3] at g3
 rw[z1,z2] at g2
 rw[z1] at g1
 rw[z4]
 exact⟨⟨_,g4,rfl⟩,h _ ⟨g4,g2,⟨_,rfl,g3⟩,⟨_,g0,rfl,rfl⟩,⟨_,g1,rfl,rfl⟩⟩ fun c o x=>zb _ (zb _ (zb _ (zb _ (zb _ x))))⟩
def Qu (K:PySem.W.Frag) (ta:TA):TI:=fun σ H R=>ta σ H fun vs H1=>∃ l0 l1,vs=[.ref l0,.ref l1]∧(∃ xs,iU K H1 l0 xs)∧(∃ xs,iU K H1 l1 xs)∧R (Qt K l0 l1) H1
theorem IS {X:Cx}{a b:Expr}{ta:TA}{p pos tp:Pos}{es:List Expr}{kk:Nat} (hg:Gl X "zip") (hm:X.mg "zip" = none) (ha:PA X [a,b] ta) (hs:starEach [a,b] X.env=[(false,eval a X.env),(false,eval b X.env)]:=by rfl) (vz:starEach [b] X.env=[(false,eval b X.env)]:=by rfl) :
  PI X (.Tuple es kk tp) (.Call (.Name "zip" p) [a,b] [] pos) (Qu X.K ta):=by
 intro pins s σ H R I h
 refine Call_ (gx I hg hm boot_zip (PyProof.Rows.callWith_type1 (bf (ha pos pins s σ H _ I h) fun us s1 ⟨vs,H1,I1,r1,q1⟩=>?_) (by rw[hs,vz]) (by rw[vz];rfl)))
 obtain⟨l0,l1,e,⟨fm,q0⟩,⟨gA,q2⟩,q⟩:=q1
 subst e
 obtain⟨u,v,rfl,r,r'⟩:=r1.two
 cases r
 cases r'
 obtain⟨rH,IK,p0,_⟩:=I1.tuple q0
 obtain⟨rJ,E7,p1,_⟩:=I1.tuple q2
 refine yP (show s1.heap.IsTuple l0 rH.toArray from p0) (show s1.heap.IsTuple l1 rJ.toArray from p1) fun h' zs kp=>?_
 refine wpAny_pyIter_zip (s:={ s1 with heap:=h' }) zs.1 ⟨_,_,_,_,H1,rfl,I1.kept (t':=s1.toks) kp,CH p0.lt p1.lt,zs,fun b hb=>?_,q⟩
 have KC:s1.heap.objs.size≤b:=by
  simp only [ze,zD,or_false] at hb
  rcases hb with rfl | rfl | rfl | rfl | rfl <;> (show @LE.le Nat _ _ _;omega)
 exact I1.oz KC (I1.aJ.fresh KC)
def IT (K:PySem.W.Frag):V→List V→Hp→VK→Prop:=fun x vs H Q=>∃ (a:Addr) (xs:List V) (y z:V) (j:Nat),x=.ref a∧vs=[y]∧gL K H a xs∧gR y=true∧xs.all gR=true∧xs[j]?=some z∧eqV z y=true∧(∀ m u,m<j→xs[m]?=some u→eqV u y=false)∧Q (.int j) H
theorem CI:Oy X "list.index" (IT X.K):=by
 intro pins s σ H x vs v us Q I rx rv h
 obtain⟨a,xs,y,z,j,rfl,rfl,hq,fy,fx,hj,hit,Us,q⟩:=h
 cases rx
 obtain⟨u,rfl,ru⟩:=rv.one
 obtain⟨ay,r,p,hz⟩:=I.list hq
 obtain⟨⟨cls,dd,data,sl⟩,ho,hc,n,hd⟩:=p.isList
 simp only at hc hd
 subst hc hd
 have hl:=r.length
 have fz:j<xs.length:=(zo.mp hj).1
 have fl:∀ (m:Nat) (w:V),xs[m]?=some w→gR w=true:=fun m w e=>ym.mp fx w (zM e)
 have at':∀ (m:Nat) (hm:m<ay.toArray.size) (w:V),xs[m]?=some w→EI y ay.toArray[m]=eqV w y:=fun m hm w e=>by
  obtain⟨u',e',Zp⟩:=r.get e
  have:ay.toArray[m]=u':=by
   have:=zo.mp e'
   simpa using this.2
  rw[this]
  exact xQ Zp (fl m w e)
 have hs:sizeLine=16777216:=zR
 refine call_meets PySem.F.slot_list_index ⟨_,ho,rfl⟩ PySem.F.entry_list_index (PySem.F.args_list_index_2 _ _) (SeqAt.list_indexAt a ay.toArray n dd sl u (EI y) j (by simp;omega) (by omega) ?_ ?_) ⟨ho,fun w hw=>lH ru fy r fx w (by simpa using hw),⟨.int j,H,I.tok _,⟨_,rfl⟩,q⟩⟩
 ·rw[at' j _ z hj];exact hit
 ·intro m hm Zq
  have XG:m<xs.length:=by omega
  rw[at' m hm _ (zh XG)]
  exact Us m _ Zq (zh XG)
def Qv:R2:=fun x y H Q=>∃ z n,x=.str z∧y=.int n∧MulOk z n∧Q (.str (PySem.Txt.mul z n)) H
theorem yQ:gQ X (binaryOp .Mult) Qv:=by
 intro pins s σ H x y v u Q I rx ry h
 obtain⟨z,n,rfl,rfl,hm,q⟩:=h
 obtain⟨t,rfl⟩:=rx
 obtain⟨t',rfl⟩:=ry
 exact SB.mul hm fun t'' k=>⟨.str _,H,I.tok k,⟨_,rfl⟩,q⟩
section
variable {σ:St}{H:Hp}{te tb:TE}{K:PySem.W.Frag}
end
def HA (w:World) (K:PySem.W.Frag) (a:Addr) (kvs:List (Str×V)):Prop:=(a == sysModules)=false∧∃ (o:Obj) (es:Array DictEntry) (ep:Nat),K.lookup a=some o∧o.ExactDict∧o.data=.dict es ep ∧
 Paired (fun (e:DictEntry) (kv:Str×V)=>e.hash=hashStr w kv.1∧(∃ t,e.key=.str kv.1 t)∧RelV kv.2 e.val) es.toList kvs∧(kvs.map Prod.fst).Nodup
theorem pT (z:Str):∀ kvs:List (Str×V),fX (kvs.map fun p=>((.inr p.1:Key),p.2)) (.inr z)=kvs.lookup z
 | []=>rfl
 | (x,v) :: r=>by
  rw[zA,zT]
  by_cases e:z=x
  ·subst e
   rw[pK rfl]
   simp
  ·have e1:(z == x)=false:=by simpa using e
   rw[pL (fun q=>e (yD q).symm),e1]
   exact pT z r
section
variable {X:Cx}{pins:List (Addr×Obj)}{σ:St}{H:Hp}{s:Shared}{a:Addr}{kvs:List (Str×V)}
theorem yR (I:Inv X pins σ H s) (d:HA X.w X.K a kvs):(a == sysModules)=false∧∃ vs,KV (kvs.map fun p=>((.inr p.1:Key),p.2)) vs∧s.heap.DictOf (aF X.prog X.w) a vs:=by
 obtain⟨ns,o,es,ep,hk,hx,hd,hp,hn⟩:=d
 have all:∀ (es:List DictEntry) (kvs:List (Str×V)),Paired (fun (e:DictEntry) (kv:Str×V)=>e.hash=hashStr X.w kv.1∧(∃ t,e.key=.str kv.1 t)∧RelV kv.2 e.val) es kvs →
   ∃ vs:List (Key×Value),KV (kvs.map fun p=>((.inr p.1:Key),p.2)) vs∧Pairs (aF X.prog X.w) es vs∧vs.map (·.1)=kvs.map (fun p=>(.inr p.1:Key))∧∀ e∈es,∃ k,(aF X.prog X.w).is k e.key=true∧e.hash=(aF X.prog X.w).hash k:=by
  intro es kvs hp
  induction hp with
  | nil=>exact⟨[],.nil,.nil,rfl,by simp⟩
  | @cons e kv Sf kvs' h t ih =>
   obtain⟨vs,k1,k2,k3,k4⟩:=ih
   obtain⟨h1,⟨tk,h2⟩,h3⟩:=h
   have hi:(aF X.prog X.w).is (.inr kv.1) e.key=true:=by rw[h2];exact iZ _ _ _ _
   refine⟨(.inr kv.1,e.val) :: vs,.cons ⟨rfl,h3⟩ k1,.cons hi rfl k2,by rw[zA,zA,k3],fun e' he=>?_⟩
   rcases ze.mp he with rfl | he
   ·exact⟨.inr kv.1,hi,h1⟩
   ·exact k4 e' he
 obtain⟨vs,k1,k2,k3,k4⟩:=all _ _ hp
 refine⟨ns,vs,k1,o,es,ep,I.nS a o hk,hx,hd,fun e he=>k4 e (by simpa using he),k2,?_⟩
 rw[k3]
 have:(kvs.map fun p=>(.inr p.1:Key))=(kvs.map Prod.fst).map Sum.inr:=by rw[zw];rfl
 rw[this]
 exact List.Pairwise.map _ (fun x y h q=>h (yD q)) hn
theorem E9 {w:World}{K:PySem.W.Frag} (hw:X.w=w) (hK:X.K=K):gQ X (compareOp .In) (fun x y H Q=>∃ z a kvs,x=.str z∧y=.ref a∧HA w K a kvs∧Q (.bl (kvs.lookup z).isSome) H):=by
 subst hw hK
 intro pins s σ H x y v u Q I rx ry h
 obtain⟨z,a,kvs,rfl,rfl,d,q⟩:=h
 cases ry
 obtain⟨ns,vs,rel,dd⟩:=yR I d
 refine wpAny_in_of (kl (k:=.inr z) rx) ns dd.mapOf ?_
 rw[← (rel.val (.inr z)).mJ,pT]
 exact⟨.bl _,H,I.tok _,rfl,q⟩
def Qw (w:World) (K:PySem.W.Frag):V→List V→Hp→VK→Prop:=fun x vs H Q=>∃ a z kvs,x=.ref a∧vs=[.str z]∧HA w K a kvs∧Q ((kvs.lookup z).getD .aw) H
theorem IU {w:World}{K:PySem.W.Frag} (hw:X.w=w) (hK:X.K=K):Oy X "dict.get" (Qw w K):=by
 subst hw hK
 intro pins s σ H x vs v us Q I rx rv h
 obtain⟨a,z,kvs,rfl,rfl,d,q⟩:=h
 cases rx
 obtain⟨u,rfl,ru⟩:=rv.one
 obtain⟨ns,vs,rel,dd⟩:=yR I d
 refine call_meetsIn yo dd.typeIs PySem.F.entry_dict_get (PySem.F.args_dict_get_2 _ _) (meets_dict_get (aF X.prog X.w) a (kl (k:=.inr z) ru) ns) ⟨_,dd.mapOf,_,H,I.tok _,?_,q⟩
 rw[← pT]
 exact (rel.val (.inr z)).getD rfl
theorem E_ {w:World}{K:PySem.W.Frag}{o e:Expr}{apos aR:Pos}{td ty:TE} (hw:X.w=w) (hK:X.K=K) (ho:PE X o td) (he:PE X e ty) (m:M1 X o "get" apos e aR):PE X (.Call (.Attribute o "get" apos) [e] [] aR)
  (fun σ H Q=>td σ H fun x H1=>∃ a kvs,x=.ref a∧HA w K a kvs∧ty σ H1 fun y H2=>∃ z,y=.str z∧Q ((kvs.lookup z).getD .aw) H2):=by
 subst hw hK
 intro pins s σ H Q I h
 refine wpAny_Call_method m.base m.Eh m.line PySem.F.plainAttrs_dict yo PySem.F.type_dict_get (bf (ho pins s σ H _ I h) fun u s1 ⟨x,H1,I1,rx,a,kvs,ex,d,q1⟩=>?_)
 subst ex
 obtain rfl:u=Value.ref a:=rx
 obtain⟨ns,vs,rel,dd⟩:=yR I1 d
 obtain⟨ob,_,_,h1,h2,_⟩:=id dd
 refine⟨dd.typeIs,fun b q=>by cases q;exact⟨ob,h1,h2.2.1⟩,?_⟩
 rw[m.trees]
 refine Calls.callWith_builtin rfl (Calls.evalArgs_plain (yw (bf (he pins s1 σ H1 _ I1 q1) fun iv s2 ⟨y,H2,I2,ry,z,ey,q2⟩=>Calls.spliced_nil ?_)))
 subst ey
 exact IU rfl rfl pins s2 σ H2 (.ref a) [.str z] _ [iv] Q I2 rfl (.cons ry .nil) ⟨a,z,kvs,rfl,rfl,d,q2⟩
end
theorem M8:bootBuiltins "min" = some (.builtin "min"):=by decide +kernel
section
variable {K:PySem.W.Frag}{σ:St}{H:Hp}
end
section
variable {prog:Program}{w:World}{A:Around}{E:Value→Shared→Prop}{s:Shared}{n l0 l1 l2:Nat}{i:Nat}{fm gA xs2:Array Value}
end
section
variable {K:PySem.W.Frag}{σ:St}{H:Hp}
end
section
variable {X:Cx}
def IV:V→List V→Hp→VK→Prop:=fun x vs H Q=>∃ z y,x=.str z∧vs=[.str y]∧Q (.bl (PySem.Txt.startswith z y)) H
theorem rK:Oy X "str.startswith" IV:=by
 intro pins s σ H x vs v us Q I rx rv h
 obtain⟨z,y,rfl,rfl,q⟩:=h
 obtain⟨t,rfl⟩:=rx
 obtain⟨u,rfl,ru⟩:=rv.one
 obtain⟨t',rfl⟩:=ru
 exact PySem.SC.startswith ⟨.bl _,H,I,rfl,q⟩
def Vf:V→Option Int→Option Int→Hp→VK→Prop:=fun x lo hi H Q=>∃ z,x=.str z∧z.length≤sizeLine∧Q (.str (PySem.Txt.slice z lo hi)) H
theorem M9:PY X Vf:=by
 intro pins s σ H x v vl vu lo hi sl Q I rx hs pl pu h
 obtain⟨z,rfl,hz,q⟩:=h
 obtain⟨t,rfl⟩:=rx
 obtain⟨o,e1,e2,e3⟩:=hs
 refine⟨"str",_,F.slot_str_getitem.lookup,typeIs_str _ _ _,?_⟩
 have fin:∀ k,∀ t':Tok,EP X pins σ Q (.str (PySem.Txt.slice z lo hi) t') { s with toks:=k }:=fun k t'=>⟨.str _,H,I.tok k,⟨_,rfl⟩,q⟩
 cases pl with
 | none =>
  cases pu with
  | none=>exact wpAny_getItem_str_slice (l:=none) (u:=none) (st:=none) ⟨o,e1,e2,e3⟩ rfl (post_val_or_str ⟨zG (Txt.slice_le z _ _) hz,fun t' k=>fin k t'⟩)
  | int j uj=>exact wpAny_getItem_str_slice (l:=none) (u:=some (j,uj)) (st:=none) ⟨o,e1,e2,e3⟩ rfl (post_val_or_str ⟨zG (Txt.slice_le z _ _) hz,fun t' k=>fin k t'⟩)
 | int i ui =>
  cases pu with
  | none=>exact wpAny_getItem_str_slice (l:=some (i,ui)) (u:=none) (st:=none) ⟨o,e1,e2,e3⟩ rfl (post_val_or_str ⟨zG (Txt.slice_le z _ _) hz,fun t' k=>fin k t'⟩)
  | int j uj=>exact wpAny_getItem_str_slice (l:=some (i,ui)) (u:=some (j,uj)) (st:=none) ⟨o,e1,e2,e3⟩ rfl (post_val_or_str ⟨zG (Txt.slice_le z _ _) hz,fun t' k=>fin k t'⟩)
end
end L2
namespace L2
open PySem PySem.Spec PyProof.Rows PySem.SeqAt
end L2
namespace L2
open PySem PySem.Spec PyProof.Rows
theorem t6 (l:Addr) (items:Array Value) (n:Nat) (b:Addr) (pU:Array Value) (n2:Nat) (sl:Array (Option Value)) (OG:¬(!items.isEmpty && Builtin.List.listTooLong (items.size+pU.size))=true) (Zr:items.size≤sizeLine) (vz:items.size+pU.size≤sizeLine+1) :
  Meets (Builtin.«list.extend» ⟨[.ref l,.ref b],[]⟩) (fun _ R s=>s.heap.get? l=some { cls:=.type "list",dict:=none,data:=.seq items n,slots:=#[] }∧s.heap.get? b=some { cls:=.type "tuple",dict:=none,data:=.seq pU n2,slots:=sl }∧R (.ok (.ret Value.none)) { s with heap:=s.heap.update l (Obj.mapSeq fun x=>x++pU),toks:=s.toks }) :=
 .of_wp fun prog w A R s h=>by
  obtain⟨hp,g,d,tk,os⟩:=s;obtain⟨hl,hb,h⟩:=h;have f1:=AutoSeq1.idx_int;have f2:=AutoSeq1.sub_tuple_tuple;have f3:=AutoSeq1.sub_list_list;have f4:=AutoSeq1.sub_tuple_list;have f5:=AutoSeq1.sub_list_tuple;
  have Vh:(items++pU).size≤sizeLine+1:=by rw[Array.size_append];exact vz
  wp_walk using (wpAny_updateSeq hl rfl (hz:=Zr) (_hz':=Vh)),AutoSeq1.wpAny_loadPart' hl,AutoSeq1.wpAny_loadPart' hb;exact⟨_,rfl,h⟩
section
variable {X:Cx}{K:PySem.W.Frag}
def Fc:V→List V→Hp→VK→Prop:=fun x vs H Q=>∃ l b xs zs,x=.ref l∧vs=[.ref b]∧H l=some (.lst xs)∧H b=some (.tup zs)∧xs.length+zs.length≤sizeLine∧Q .aw (upd H l (.lst (xs++zs)))
theorem yS:Ss X "list.extend" Fc:=by
 intro pins s σ H x vs v us Q I rx rv h
 obtain⟨l,b,xs,zs,rfl,rfl,hH,hB,hz,q⟩:=h
 cases rx
 obtain⟨u,rfl,ru⟩:=rv.one
 cases ru
 obtain⟨z,ay,n,r,hl,e⟩:=I.Co hH
 obtain⟨z2,rq,r2,⟨c2,d2,dt2,Hz⟩,e2,ec,ed,n2,en⟩:=(show bc X.prog X.w H s.heap b (.tup zs) from I.aJ b _ hB)
 dsimp only at ec ed en
 subst ec ed en
 have Cq:=r2.length
 have hsz:ay.toArray.size+rq.toArray.size≤sizeLine:=by rw[zk,zk];omega
 have Qx:¬ (!ay.toArray.isEmpty && Builtin.List.listTooLong (ay.toArray.size+rq.toArray.size))=true:=by
  rw[EK hsz,Bool.and_false]
  exact zd
 refine call_meets F.slot_list_extend ⟨_,e,rfl⟩ F.entry_list_extend (F.args_list_extend_2 _ _)
  (t6 l ay.toArray n b rq.toArray n2 Hz Qx (by rw[zk];omega) (by omega)) ⟨e,e2,?_⟩
 refine⟨.aw,_,I.Il (its':=ay++rq) hH e (by simp) (r.append r2) ?_,rfl,q⟩
 rw[zC]
 omega
end
inductive D where
 | aw | bl (b:Bool) | int (i:Int) | str (x:Str) | tup (ds:List D) | kD (ds:List D) | kt (ds:List D) | ref (a:Addr) | ty (n:String)
def Vi (K:PySem.W.Frag) (a:Addr) (xs:List V):Prop:=∃ (o:Obj) (ay:Array Value) (n:Nat),K.lookup a=some o∧o.cls=.type "tuple" ∧ o.data=.seq ay n∧ay.size≤sizeLine∧Vals xs ay.toList
def KG (K:PySem.W.Frag) (H:Hp) (a:Addr) (xs:List V):Prop :=
 (∃ o,H a=some (.ku o (.lst xs)))∨∃ (o:Obj) (ay:Array Value) (n:Nat),K.lookup a=some o∧o.cls=.type "list" ∧ o.dict=none∧o.data=.seq ay n∧ay.size≤sizeLine∧Vals xs ay.toList
theorem KG.sq {K:PySem.W.Frag}{H:Hp}{a:Addr}{xs:List V} (h:KG K H a xs):gL K H a xs:=by
 rcases h with h | h
 ·exact .inl (.inr h)
 ·exact .inr h
structure Kp (K:PySem.W.Frag) (H H':Hp):Prop where
 t:∀ a xs,H a=some (.tup xs)→H' a=some (.tup xs)
 r:∀ a xs,KG K H a xs→KG K H' a xs
 f:∀ a o u,H a=some (.ku o u)→H' a=some (.ku o u)
theorem Kp.refl {K:PySem.W.Frag} (H:Hp):Kp K H H:=⟨fun _ _ h=>h,fun _ _ h=>h,fun _ _ _ h=>h⟩
theorem Kp.trans {K:PySem.W.Frag}{H H1 H2:Hp} (a:Kp K H H1) (b:Kp K H1 H2):Kp K H H2:=⟨fun p xs h=>b.t p xs (a.t p xs h),fun p xs h=>b.r p xs (a.r p xs h),fun p o u h=>b.f p o u (a.f p o u h)⟩
theorem Kp.of {K:PySem.W.Frag}{H H':Hp} (h:∀ b o,H b=some o→H' b=some o∨(∀ xs,o≠.tup xs)∧∀ u v,o≠.ku u v):Kp K H H' where
 t:=fun a xs q=>(h _ _ q).resolve_right fun z=>z.1 _ rfl
 r:=fun a xs q=>by
  rcases q with ⟨o,q⟩ | q
  ·exact .inl ⟨o,(h _ _ q).resolve_right fun z=>z.2 _ _ rfl⟩
  ·exact .inr q
 f:=fun a o u q=>(h _ _ q).resolve_right fun z=>z.2 _ _ rfl
theorem Kp.new {K:PySem.W.Frag}{H:Hp}{a:Addr}{o:HO} (h:H a=none):Kp K H (upd H a o):=.of fun b u e=>.inl (by rw[av (aC e h)];exact e)
theorem Kp.put {K:PySem.W.Frag}{H:Hp}{a:Addr}{o u:HO} (h:H a=some o) (h1:∀ xs,o≠.tup xs) (h2:∀ u v,o≠.ku u v):Kp K H (upd H a u):=.of fun b v e=>by
 by_cases q:b=a
 ·subst q;rw[h] at e;cases e;exact .inr ⟨h1,h2⟩
 ·exact .inl (by rw[av q];exact e)
mutual
def Rv (K:PySem.W.Frag) (H:Hp):D→V→Prop
 | .aw,v=>v=.aw
 | .bl b,v=>v=.bl b
 | .int i,v=>v=.int i
 | .str z,v=>v=.str z
 | .tup ds,v=>∃ a xs,v=.ref a∧H a=some (.tup xs)∧RvAll K H ds xs
 | .kD ds,v=>∃ a xs,v=.ref a∧KG K H a xs∧RvAll K H ds xs
 | .kt ds,v=>∃ a xs,v=.ref a∧Vi K a xs∧RvAll K H ds xs
 | .ref a,v=>v=.ref a
 | .ty n,v=>v=.ty n
def RvAll (K:PySem.W.Frag) (H:Hp):List D→List V→Prop
 | [],xs=>xs=[]
 | d :: ds,xs=>∃ y ys,xs=y :: ys∧Rv K H d y∧RvAll K H ds ys
end
section
variable {K:PySem.W.Frag}{H H':Hp}
theorem ic:Rv K H .aw .aw:=by simp only [Rv]
theorem cy (b:Bool):Rv K H (.bl b) (.bl b):=by simp only [Rv]
theorem aO (i:Int):Rv K H (.int i) (.int i):=by simp only [Rv]
theorem i8 (z:Str):Rv K H (.str z) (.str z):=by simp only [Rv]
theorem i9 (a:Addr):Rv K H (.ref a) (.ref a):=by simp only [Rv]
theorem Qy (n:String):Rv K H (.ty n) (.ty n):=by simp only [Rv]
theorem KH (h:Vi K a xs) (t:RvAll K H ds xs):Rv K H (.kt ds) (.ref a):=by simp only [Rv];exact⟨a,xs,rfl,h,t⟩
theorem i_ (h:H a=some (.tup xs)) (t:RvAll K H ds xs):Rv K H (.tup ds) (.ref a):=by simp only [Rv];exact⟨a,xs,rfl,h,t⟩
theorem Fd (h:KG K H a xs) (t:RvAll K H ds xs):Rv K H (.kD ds) (.ref a):=by simp only [Rv];exact⟨a,xs,rfl,h,t⟩
theorem Rv.aw (h:Rv K H .aw v):v=.aw:=by simpa only [Rv] using h
theorem Rv.bl (h:Rv K H (.bl b) v):v=.bl b:=by simpa only [Rv] using h
theorem Rv.int (h:Rv K H (.int i) v):v=.int i:=by simpa only [Rv] using h
theorem Rv.str (h:Rv K H (.str z) v):v=.str z:=by simpa only [Rv] using h
theorem Rv.ref (h:Rv K H (.ref a) v):v=.ref a:=by simpa only [Rv] using h
theorem Rv.ty (h:Rv K H (.ty n) v):v=.ty n:=by simpa only [Rv] using h
theorem Rv.kt (h:Rv K H (.kt ds) v):∃ a xs,v=.ref a∧Vi K a xs∧RvAll K H ds xs:=by simpa only [Rv] using h
theorem Rv.tup (h:Rv K H (.tup ds) v):∃ a xs,v=.ref a∧H a=some (.tup xs)∧RvAll K H ds xs:=by simpa only [Rv] using h
theorem Rv.kD (h:Rv K H (.kD ds) v):∃ a xs,v=.ref a∧KG K H a xs∧RvAll K H ds xs:=by simpa only [Rv] using h
theorem bE:RvAll K H [] []:=by simp only [RvAll]
theorem aS (h:Rv K H d x) (t:RvAll K H ds xs):RvAll K H (d :: ds) (x :: xs):=by simp only [RvAll];exact⟨x,xs,rfl,h,t⟩
theorem RvAll.nil (h:RvAll K H [] xs):xs=[]:=by simpa only [RvAll] using h
theorem RvAll.cons (h:RvAll K H (d :: ds) xs):∃ y ys,xs=y :: ys∧Rv K H d y∧RvAll K H ds ys:=by simpa only [RvAll] using h
mutual
theorem Rv.ts (s:Kp K H H'):∀ (d:D) {v:V},Rv K H d v→Rv K H' d v
 | .aw,v,h=>by simpa only [Rv] using h
 | .bl b,v,h=>by simpa only [Rv] using h
 | .int i,v,h=>by simpa only [Rv] using h
 | .str z,v,h=>by simpa only [Rv] using h
 | .tup ds,v,h=>by
  obtain⟨a,xs,rfl,e,t⟩:=h.tup
  exact i_ (s.t _ _ e) (RvAll.ts s ds t)
 | .kD ds,v,h=>by
  obtain⟨a,xs,rfl,e,t⟩:=h.kD
  exact Fd (s.r _ _ e) (RvAll.ts s ds t)
 | .kt ds,v,h=>by
  obtain⟨a,xs,rfl,e,t⟩:=h.kt
  exact KH e (RvAll.ts s ds t)
 | .ref a,v,h=>by simpa only [Rv] using h
 | .ty n,v,h=>by simpa only [Rv] using h
theorem RvAll.ts (s:Kp K H H'):∀ (ds:List D) {xs:List V},RvAll K H ds xs→RvAll K H' ds xs
 | [],xs,h=>by rw[h.nil];exact bE
 | d :: ds,xs,h=>by
  obtain⟨y,ys,rfl,h1,h2⟩:=h.cons
  exact aS (Rv.ts s d h1) (RvAll.ts s ds h2)
end
theorem RvAll.len:∀ {ds:List D}{xs:List V},RvAll K H ds xs→xs.length=ds.length
 | [],xs,h=>by rw[h.nil];rfl
 | d :: ds,xs,h=>by
  obtain⟨y,ys,rfl,_,h2⟩:=h.cons
  rw[zK,zK,h2.len]
theorem RvAll.get:∀ {ds:List D}{xs:List V}{i:Nat}{d:D},RvAll K H ds xs→ds[i]?=some d→∃ v,xs[i]?=some v∧Rv K H d v
 | [],xs,i,d,h,e=>by simp at e
 | d0 :: ds,xs,0,d,h,e=>by
  obtain⟨y,ys,rfl,h1,h2⟩:=h.cons
  simp at e;subst e;exact⟨y,rfl,h1⟩
 | d0 :: ds,xs,i+1,d,h,e=>by
  obtain⟨y,ys,rfl,h1,h2⟩:=h.cons
  obtain⟨v,e1,e2⟩:=h2.get (i:=i) (by simpa using e)
  exact⟨v,by simpa using e1,e2⟩
theorem RvAll.app:∀ {ds es:List D}{xs ys:List V},RvAll K H ds xs→RvAll K H es ys→RvAll K H (ds++es) (xs++ys)
 | [],es,xs,ys,h,k=>by rw[h.nil];exact k
 | d :: ds,es,xs,ys,h,k=>by
  obtain⟨y,zs,rfl,h1,h2⟩:=h.cons
  exact aS h1 (h2.app k)
theorem RvAll.take:∀ {ds:List D}{xs:List V} (n:Nat),RvAll K H ds xs→RvAll K H (ds.take n) (xs.take n)
 | [],xs,n,h=>by rw[h.nil];simp only [List.take_nil];exact bE
 | d :: ds,xs,0,h=>by simp only [List.take_zero];exact bE
 | d :: ds,xs,n+1,h=>by
  obtain⟨y,zs,rfl,h1,h2⟩:=h.cons
  exact aS h1 (h2.take n)
theorem RvAll.drop:∀ {ds:List D}{xs:List V} (n:Nat),RvAll K H ds xs→RvAll K H (ds.drop n) (xs.drop n)
 | [],xs,n,h=>by rw[h.nil];simp only [List.drop_nil];exact bE
 | d :: ds,xs,0,h=>h
 | d :: ds,xs,n+1,h=>by
  obtain⟨y,zs,rfl,h1,h2⟩:=h.cons
  exact h2.drop n
theorem RvAll.set:∀ {ds:List D}{xs:List V}{d:D}{v:V} (n:Nat),RvAll K H ds xs→Rv K H d v→RvAll K H (ds.set n d) (xs.set n v)
 | [],xs,d,v,n,h,r=>by rw[h.nil];exact bE
 | d0 :: ds,xs,d,v,0,h,r=>by
  obtain⟨y,zs,rfl,h1,h2⟩:=h.cons
  exact aS r h2
 | d0 :: ds,xs,d,v,n+1,h,r=>by
  obtain⟨y,zs,rfl,h1,h2⟩:=h.cons
  exact aS h1 (h2.set n r)
theorem RvAll.dropLast:∀ {ds:List D}{xs:List V},RvAll K H ds xs→RvAll K H ds.dropLast xs.dropLast
 | [],xs,h=>by rw[h.nil];exact bE
 | [d],xs,h=>by
  obtain⟨y,zs,rfl,h1,h2⟩:=h.cons
  rw[h2.nil];exact bE
 | d :: e :: ds,xs,h=>by
  obtain⟨y,zs,rfl,h1,h2⟩:=h.cons
  obtain⟨y2,zs2,rfl,h3,h4⟩:=id h2.cons
  exact aS h1 (RvAll.dropLast h2)
theorem RvAll.bools:∀ {bs:List Bool}{xs:List V},RvAll K H (bs.map D.bl) xs→xs=bs.map V.bl
 | [],xs,h=>h.nil
 | b :: bs,xs,h=>by
  obtain⟨y,ys,rfl,h1,h2⟩:=h.cons
  rw[h1.bl,h2.bools];rfl
theorem RvAll.ints:∀ {bs:List Int}{xs:List V},RvAll K H (bs.map D.int) xs→xs=bs.map V.int
 | [],xs,h=>h.nil
 | b :: bs,xs,h=>by
  obtain⟨y,ys,rfl,h1,h2⟩:=h.cons
  rw[h1.int,h2.ints];rfl
theorem RvAll.strs:∀ {bs:List Str}{xs:List V},RvAll K H (bs.map D.str) xs→xs=bs.map V.str
 | [],xs,h=>h.nil
 | b :: bs,xs,h=>by
  obtain⟨y,ys,rfl,h1,h2⟩:=h.cons
  rw[h1.str,h2.strs];rfl
theorem Bn:∀ (bs:List Int),RvAll K H (bs.map D.int) (bs.map V.int)
 | []=>bE
 | b :: bs=>aS (aO b) (Bn bs)
theorem t9:∀ (bs:List Str),RvAll K H (bs.map D.str) (bs.map V.str)
 | []=>bE
 | b :: bs=>aS (i8 b) (t9 bs)
def bU {κ:Type} (K:PySem.W.Frag) (H:Hp):List (κ×D)→List (κ×V)→Prop:=Paired fun p q=>p.1=q.1∧Rv K H p.2 q.2
theorem bU.ts (s:Kp K H H'):∀ {ks:List (κ×D)}{vs:List (κ×V)},bU K H ks vs→bU K H' ks vs
 | _,_,.nil=>.nil
 | _,_,.cons r t=>.cons ⟨r.1,Rv.ts s _ r.2⟩ (bU.ts s t)
theorem bU.look (h:bU K H ks vs) (f:Str):(∀ d,ks.lookup f=some d→∃ v,vs.lookup f=some v∧Rv K H d v)∧(ks.lookup f=none→vs.lookup f=none):=by
 induction h with
 | nil=>exact⟨fun d e=>(by cases e),fun _=>rfl⟩
 | @cons a b l m r t ih =>
  obtain⟨k,d⟩:=a
  obtain⟨k',v⟩:=b
  obtain⟨rfl,r⟩:=r
  simp only [zT]
  cases q:f == k with
  | true=>exact⟨fun d' e=>⟨v,rfl,(by cases e;exact r)⟩,fun e=>(by cases e)⟩
  | false=>exact ih
end
inductive Ce where
 | lst (ds:List D) | du (kvs:List (Key×D)) | ins (c:Addr) (fs:List (Str×D)) | well | exc (c:Addr) | tab (q:Str)
def Bo (H:Hp) (q:Str) (ps:Array Value):Prop:=TriplesOk ps.toList∧∀ pos cv,codeAmong pos ps.toList=some cv→∃ c o vs t,cv=.ref c∧H c=some (.ku o (.own 0))∧o.data=.fields vs∧vs[1]?=some (.str q t)
abbrev aU:=Addr→Option Ce
def aU.set (S:aU) (a:Addr) (c:Ce):aU:=fun b=>if b=a then some c else S b
theorem af {S:aU}{a:Addr}{c:Ce} : S.set a c a=some c:=by unfold aU.set;rw[if_pos rfl]
theorem ag {S:aU}{a b:Addr}{c:Ce} (h:b≠a):S.set a c b=S b:=by unfold aU.set;rw[if_neg h]
theorem eF {S:aU}{a:Addr}{c e:Ce} : (S.set a c).set a e=S.set a e:=by
 funext b;unfold aU.set;split <;> rfl
theorem fU {S:aU}{a b:Addr}{c:Ce} (h:S a=some c) (h':S b=none):a≠b:=by
 intro e;subst e;rw[h] at h';cases h'
def Rc (K:PySem.W.Frag) (H:Hp) (a:Addr):Ce→Prop
 | .lst ds=>∃ xs,H a=some (.lst xs)∧RvAll K H ds xs
 | .du kvs=>∃ vs,H a=some (.dK vs)∧bU K H kvs vs
 | .ins c fs=>∃ dx vs,H a=some (.ins c dx vs)∧bU K H fs vs
 | .well=>∃ x y z:Int,H a=some (.lst [.int x,.int y,.int z])
 | .exc c=>H a=some (UY a (.ref c))
 | .tab q=>∃ ps,H a=some (.o3 ps)∧Bo H q ps
def Rs (K:PySem.W.Frag) (S:aU) (H:Hp):Prop:=∀ a c,S a=some c→Rc K H a c
section
variable {K:PySem.W.Frag}{H H':Hp}{S:aU}{a b:Addr}{c:Ce}
theorem Rc.has (h:Rc K H a c):∃ o,H a=some o∧(∀ xs,o≠.tup xs)∧∀ u v,o≠.ku u v:=by
 cases c with
 | lst ds=>obtain⟨xs,e,_⟩:=h;exact⟨_,e,fun _=>nofun,fun _ _=>nofun⟩
 | du ds=>obtain⟨xs,e,_⟩:=h;exact⟨_,e,fun _=>nofun,fun _ _=>nofun⟩
 | ins c fs=>obtain⟨dx,vs,e,_⟩:=h;exact⟨_,e,fun _=>nofun,fun _ _=>nofun⟩
 | well=>obtain⟨x,y,z,e⟩:=h;exact⟨_,e,fun _=>nofun,fun _ _=>nofun⟩
 | exc c=>exact⟨_,h,fun _=>nofun,fun _ _=>nofun⟩
 | tab q=>obtain⟨ps,e,_⟩:=h;exact⟨_,e,fun _=>nofun,fun _ _=>nofun⟩
theorem Rc.keep (h:Rc K H a c) (e:∀ o,H a=some o→H' a=some o) (s:Kp K H H'):Rc K H' a c:=by
 cases c with
 | lst ds=>obtain⟨xs,e1,r⟩:=h;exact⟨xs,e _ e1,RvAll.ts s _ r⟩
 | du ds=>obtain⟨xs,e1,r⟩:=h;exact⟨xs,e _ e1,r.ts s⟩
 | ins c fs=>obtain⟨dx,vs,e1,r⟩:=h;exact⟨dx,vs,e _ e1,r.ts s⟩
 | well=>obtain⟨x,y,z,e1⟩:=h;exact⟨x,y,z,e _ e1⟩
 | exc c=>exact e _ h
 | tab q=>obtain⟨ps,e1,r,r2⟩:=h;exact⟨ps,e _ e1,r,fun pos cv z=>by obtain⟨c,o,vs,t,z1,z2,z3⟩:=r2 pos cv z;exact⟨c,o,vs,t,z1,s.f _ _ _ z2,z3⟩⟩
theorem Rs.fresh (h:Rs K S H) (e:H a=none):S a=none:=by
 cases q:S a with
 | none=>rfl
 | some c=>obtain⟨o,e1,_⟩:=(h a c q).has;rw[e] at e1;cases e1
theorem Rs.new (h:Rs K S H) (e:H a=none) {o:HO} (r:Rc K (upd H a o) a c):Rs K (S.set a c) (upd H a o):=fun b x hb=>by
 by_cases q:b=a
 ·subst q;rw[af] at hb;cases hb;exact r
 ·rw[ag q] at hb
  exact (h b x hb).keep (fun o e1=>by rw[av q];exact e1) (Kp.new e)
theorem Rs.grow (h:Rs K S H) (e:H a=none):Rs K S (upd H a o):=fun b x hb=>by
 obtain⟨u,e1,_⟩:=(h b x hb).has
 have q:b≠a:=aC e1 e
 exact (h b x hb).keep (fun o e1=>by rw[av q];exact e1) (Kp.new e)
theorem Rs.ie (h:Rs K S H) (ha:S a=some e):Kp K H (upd H a o):=by
 obtain⟨u,e1,n1,n2⟩:=(h a e ha).has
 exact Kp.put e1 n1 n2
theorem Rs.put (h:Rs K S H) {e:Ce} (ha:S a=some e) {o:HO} (r:Rc K (upd H a o) a c):Rs K (S.set a c) (upd H a o):=fun b x hb=>by
 by_cases q:b=a
 ·subst q;rw[af] at hb;cases hb;exact r
 ·rw[ag q] at hb
  exact (h b x hb).keep (fun o e1=>by rw[av q];exact e1) (h.ie ha)
theorem Rs.lst (h:Rs K S H) (e:S a=some (.lst ds)):∃ xs,H a=some (.lst xs)∧RvAll K H ds xs:=h a _ e
theorem Rs.du (h:Rs K S H) (e:S a=some (.du ds)):∃ xs,H a=some (.dK xs)∧bU K H ds xs:=h a _ e
theorem Rs.ins {c:Addr}{fs:List (Str×D)} (h:Rs K S H) (e:S a=some (.ins c fs)):∃ dx vs,H a=some (.ins c dx vs)∧bU K H fs vs:=h a _ e
end
abbrev KD:=D→aU→Prop
abbrev KX:=Addr→aU→Prop
abbrev SD:=List (Option D)
def ig (K:PySem.W.Frag) (H:Hp):SD→St→Prop:=Paired fun (o:Option D) (u:Option V)=>∀ d,o=some d→∃ v,u=some v∧Rv K H d v
section
variable {K:PySem.W.Frag}{H H':Hp}
theorem ig.ts (s:Kp K H H'):∀ {σ:SD}{τ:St},ig K H σ τ→ig K H' σ τ
 | _,_,.nil=>.nil
 | _,_,.cons r t=>.cons (fun d e=>by obtain⟨v,e1,r1⟩:=r d e;exact⟨v,e1,Rv.ts s _ r1⟩) (ig.ts s t)
theorem ig.get:∀ {σ:SD}{τ:St}{i:Nat}{d:D},ig K H σ τ→σ[i]?=some (some d)→∃ v,τ[i]?=some (some v)∧Rv K H d v
 | _,_,i,d,.nil,e=>by simp at e
 | _,_,0,d,.cons r t,e=>by
  simp at e
  obtain⟨v,e1,r1⟩:=r d e
  exact⟨v,by simp [e1],r1⟩
 | _,_,i+1,d,.cons r t,e=>by
  obtain⟨v,e1,r1⟩:=ig.get (i:=i) t (by simpa using e)
  exact⟨v,by simpa using e1,r1⟩
theorem ig.set:∀ {σ:SD}{τ:St} (i:Nat) {d:D}{v:V},ig K H σ τ→Rv K H d v→ig K H (σ.set i (some d)) (τ.set i (some v))
 | _,_,i,d,v,.nil,r=>.nil
 | _,_,0,d,v,.cons r t,q=>.cons (fun d' e=>by cases e;exact⟨v,rfl,q⟩) t
 | _,_,i+1,d,v,.cons r t,q=>.cons r (ig.set i t q)
theorem pV:∀ (n:Nat) (τ:St),τ.length=n→ig K H (List.replicate n none) τ
 | 0,[],_=>.nil
 | n+1,_ :: τ,h=>.cons (fun d e=>by cases e) (pV n τ (by simpa using h))
theorem pW:∀ {ds:List D}{vs:List V},RvAll K H ds vs→ig K H (ds.map some) (vs.map some)
 | [],vs,h=>by rw[h.nil];exact .nil
 | d :: ds,vs,h=>by
  obtain⟨y,ys,rfl,h1,h2⟩:=h.cons
  exact .cons (fun d' e=>by cases e;exact⟨y,rfl,h1⟩) (pW h2)
theorem ig.app:∀ {σ aK:SD}{τ OH:St},ig K H σ τ→ig K H aK OH→ig K H (σ++aK) (τ++OH)
 | _,_,_,_,.nil,h=>h
 | _,_,_,_,.cons r t,h=>.cons r (ig.app t h)
end
structure Zs (Y:Cx) (E:St→XK) (b:Bool):Prop where
 call:∀ p2 τ H s e s',Inv Y p2 τ H s→hW Y.prog Y.w Y.stack H s (E τ) e s'→Y.xe e s'
 own:b=true→∀ p2 τ H s h' a cls args,Inv Y p2 τ H s→Heap.MadeExcOf s.heap h' a cls args→E τ cls none H→Y.xe (.ref a) { s with heap:=h' }
 loop:b=true→PassesOwn (model Y.prog Y.w) Y.A Y.env Y.xe
structure Ev (X:Cx) (b:Bool) where
 pn:List (Addr×Obj)
 xe:Value→Shared→Prop
 E:St→XK
 ok:Zs { X with pn:=pn,xe:=xe } E b
abbrev Ev.cx {X:Cx}{b:Bool} (y:Ev X b):Cx:={ X with pn:=y.pn,xe:=y.xe }
def Cn (K:PySem.W.Frag) (H:Hp) (R:KD) (Q:VK):Prop:=∀ d S v H',R d S→Rv K H' d v→Rs K S H'→Kp K H H'→Q v H'
def CJ (K:PySem.W.Frag) (H:Hp) (Z:KX) (e:XK):Prop:=∀ C S H',Z C S→Rs K S H'→Kp K H H'→e (.ref C) none H'
theorem Cn.kp {K:PySem.W.Frag}{H H1:Hp}{R:KD}{Q:VK} (h:Cn K H R Q) (k:Kp K H H1):Cn K H1 R Q:=fun d S v H' r v1 s1 k1=>h d S v H' r v1 s1 (k.trans k1)
theorem CJ.kp {K:PySem.W.Frag}{H H1:Hp}{Z:KX}{e:XK} (h:CJ K H Z e) (k:Kp K H H1):CJ K H1 Z e:=fun C S H' r s1 k1=>h C S H' r s1 (k.trans k1)
abbrev TD:=SD→aU→KD→KX→Prop
def T (K:PySem.W.Frag) (E:St→XK) (t:TD):TE:=fun τ H Q=>∃ σ S R Z,ig K H σ τ∧Rs K S H∧t σ S R Z∧Cn K H R Q∧CJ K H Z (E τ)
structure DE (K:PySem.W.Frag) (X:Cx) (e:Expr) (t:TD):Prop where
 of:∀ {b:Bool} (y:Ev X b),PE y.cx e (T K y.E t)
abbrev pX:=SD→aU→(Bool→aU→Prop)→KX→Prop
def SE (K:PySem.W.Frag) (H:Hp) (R:Bool→aU→Prop) (Q:Bool→Hp→Prop):Prop:=∀ b S H',R b S→Rs K S H'→Kp K H H'→Q b H'
theorem SE.kp {K:PySem.W.Frag}{H H1:Hp}{R:Bool→aU→Prop}{Q:Bool→Hp→Prop} (h:SE K H R Q) (k:Kp K H H1):SE K H1 R Q:=fun d S H' r s1 k1=>h d S H' r s1 (k.trans k1)
def Tt (K:PySem.W.Frag) (E:St→XK) (t:pX):TT:=fun τ H Q=>∃ σ S R Z,ig K H σ τ∧Rs K S H∧t σ S R Z∧SE K H R Q∧CJ K H Z (E τ)
structure DT (K:PySem.W.Frag) (X:Cx) (e:Expr) (t:pX):Prop where
 of:∀ {b:Bool} (y:Ev X b),PT y.cx e (Tt K y.E t)
abbrev lL:=SD→aU→(List D→aU→Prop)→KX→Prop
def Zt (K:PySem.W.Frag) (H:Hp) (R:List D→aU→Prop) (Q:List V→Hp→Prop):Prop:=∀ ds S vs H',R ds S→RvAll K H' ds vs→Rs K S H'→Kp K H H'→Q vs H'
def Ta (K:PySem.W.Frag) (E:St→XK) (t:lL):TA:=fun τ H Q=>∃ σ S R Z,ig K H σ τ∧Rs K S H∧t σ S R Z∧Zt K H R Q∧CJ K H Z (E τ)
structure DA (K:PySem.W.Frag) (X:Cx) (es:List Expr) (t:lL):Prop where
 of:∀ {b:Bool} (y:Ev X b),PA y.cx es (Ta K y.E t)
theorem PE.mono (h:PE X e t) (i:∀ τ H Q,t' τ H Q→t τ H Q):PE X e t':=fun pins s τ H Q I q=>h pins s τ H Q I (i τ H Q q)
theorem PT.mono (h:PT X e t) (i:∀ τ H Q,t' τ H Q→t τ H Q):PT X e t':=fun pins s τ H Q I q=>h pins s τ H Q I (i τ H Q q)
theorem PA.mono (h:PA X e t) (i:∀ τ H Q,t' τ H Q→t τ H Q):PA X e t':=fun pos pins s τ H Q I q=>h pos pins s τ H Q I (i τ H Q q)
section
variable {K:PySem.W.Frag}{X:Cx}
def Qz (i:Nat):TD:=fun σ S R _=>∃ d,σ[i]?=some (some d)∧R d S
def dC (d:D):TD:=fun _ S R _=>R d S
theorem dv (i:Nat) (hN:X.N[i]?=some x:=by rfl) (hv:Ov X.env.scope x:=by first | exact Or.inl rfl | exact Or.inr (Or.inl rfl) | exact Or.inr (Or.inr rfl)) (hd:(x == ("__debug__" : Str))=false:=by decide)
  (q9:(x == ("__classdict__" : Str))=false:=by decide):DE K X (.Name x pos) (Qz i) :=
 ⟨fun y=>(LK (X:=y.cx) hN hv hd q9).mono <| by rintro τ H Q ⟨σ,S,R,Z,aD,hS,⟨d,e,r⟩,hR,_⟩;exact by obtain⟨v,e1,rv⟩:=aD.get e;exact⟨v,e1,hR d S v H r rv hS (Kp.refl _)⟩⟩
theorem DE.const (h:∀ Y:Cx,Y.env=X.env→Y.mg=X.mg→PE Y e (tC v)) (r:∀ H,Rv K H d v):DE K X e (dC d) :=
 ⟨fun y=>(h y.cx rfl rfl).mono <| by rintro τ H Q ⟨σ,S,R,Z,aD,hS,q,hR,_⟩;exact hR d S v H q (r H) hS (Kp.refl _)⟩
theorem di:DE K X (.Constant (.int i) j pos) (dC (.int i)):=.const (fun _ _ _=>LL) fun _=>aO i
theorem ds:DE K X (.Constant (.str i) j pos) (dC (.str i)):=.const (fun _ _ _=>LN) fun _=>i8 i
theorem db:DE K X (.Constant (.bool i) j pos) (dC (.bl i)):=.const (fun _ _ _=>Kl) fun _=>cy i
theorem dn:DE K X (.Constant .none j pos) (dC .aw):=.const (fun _ _ _=>LM) fun _=>ic
theorem dg (hm:X.mg x=some u) (r:RelV v u) (rd:∀ H,Rv K H d v) (hg:Gl X x:=by rfl) (hd:(x == ("__debug__" : Str))=false:=by decide):DE K X (.Name x pos) (dC d) :=
 .const (fun Y e1 e2=>A4 (X:=Y) (u:=u) (show Y.env.kindOf x=_ by rw[e1];exact hg) (by rw[e2];exact hm) r hd) rd
theorem rL (hm:X.mg x=none) (hv:bootBuiltins x=some (.type n)) (hg:Gl X x:=by rfl) (hn:x ≠ "__name__" := by decide) (hd:(x == ("__debug__" : Str))=false:=by decide):DE K X (.Name x pos) (dC (.ty n)) :=
 .const (fun Y e1 e2=>HL (X:=Y) (v:=.ty n) (show Y.env.kindOf x=_ by rw[e1];exact hg) (by rw[e2];exact hm) hv rfl hn hd) fun _=>Qy n
def M_:lL:=fun _ S R _=>R [] S
def KJ (t:TD) (u:lL):lL:=fun σ S R Z=>t σ S (fun d S1=>u σ S1 (fun ds S2=>R (d :: ds) S2) Z) Z
theorem an:DA K X [] M_:=⟨fun y=>(xM (X:=y.cx)).mono <| by rintro τ H Q ⟨σ,S,R,Z,aD,hS,q,hR,_⟩;exact hR [] S [] H q bE hS (Kp.refl _)⟩
theorem ac (h:DE K X e t) (hr:DA K X es u) (hp:isPlain e=true:=by rfl):DA K X (e :: es) (KJ t u) :=
 ⟨fun y=>(UU (h.of y) (hr.of y) hp).mono <| by rintro τ H Q ⟨σ,S,R,Z,aD,hS,q,hR,hZ⟩;exact
  ⟨σ,S,_,Z,aD,hS,q,fun d S1 x H1 r1 v1 s1 k1=>⟨σ,S1,_,Z,aD.ts k1,s1,r1,fun ds S2 xs H2 r2 v2 s2 k2=>hR (d :: ds) S2 (x :: xs) H2 r2 (aS (Rv.ts k2 _ v1) v2) s2 (k1.trans k2),hZ.kp k1⟩,hZ⟩⟩
abbrev vj:=D→D→aU→KD→Prop
def Lr (K:PySem.W.Frag) (r:vj):R2:=fun x y H Q=>∃ d e S R,Rv K H d x∧Rv K H e y∧Rs K S H∧r d e S R∧Cn K H R Q
def pY (K:PySem.W.Frag) (f:Value→Value→Sem Value) (r:vj):Prop:=∀ X:Cx,X.K=K→X.A.units+64<cLine→gQ X f (Lr K r)
def Na (r:vj) (ta tb:TD):TD:=fun σ S R Z=>ta σ S (fun x S1=>tb σ S1 (fun y S2=>r x y S2 R) Z) Z
theorem T.op (h:T K E (Na r ta tb) τ H Q):Ow (Lr K r) (T K E ta) (T K E tb) τ H Q:=by
 obtain⟨σ,S,R,Z,aD,hS,q,hR,hZ⟩:=h
 exact⟨σ,S,_,Z,aD,hS,q,fun d S1 x H1 r1 v1 s1 k1=>⟨σ,S1,_,Z,aD.ts k1,s1,r1,fun e S2 y H2 r2 v2 s2 k2=>⟨d,e,S2,R,Rv.ts k2 _ v1,v2,s2,r2,hR.kp (k1.trans k2)⟩,hZ.kp k1⟩,hZ⟩
theorem bo (ho:pY K (binaryOp op) r) (hu:X.A.units+64<cLine) (ha:DE K X a ta) (hb:DE K X b tb) (hK:X.K=K:=by rfl):DE K X (.BinOp a op b pos) (Na r ta tb) :=
 ⟨fun y=>(PB (ho y.cx hK hu) (ha.of y) (hb.of y)).mono fun _ _ _ h=>h.op⟩
theorem cm (ho:pY K (compareOp op) r) (hu:X.A.units+64<cLine) (ha:DE K X a ta) (hb:DE K X b tb) (hm:behindInMarks op b=false:=by with_unfolding_all rfl) (hK:X.K=K:=by rfl):DE K X (.Compare a [op] [b] pos) (Na r ta tb) :=
 ⟨fun y=>(A9 (ho y.cx hK hu) (ha.of y) (hb.of y) hm).mono fun _ _ _ h=>h.op⟩
def dB (t:TD):pX:=fun σ S R Z=>t σ S (fun x S1=>∃ b,x=.bl b∧R b S1) Z
theorem Tt.b (h:Tt K E (dB t) τ H Q):T K E t τ H fun x H'=>∃ k,x=.bl k∧Q k H':=by
 obtain⟨σ,S,R,Z,aD,hS,q,hR,hZ⟩:=h
 exact⟨σ,S,_,Z,aD,hS,q,by rintro d S1 x H1 ⟨b,e,r1⟩ v1 s1 k1;exact by subst e;exact⟨b,v1.bl,hR b S1 H1 r1 s1 k1⟩,hZ⟩
theorem Tt.Zu (h:Tt K E (dB (Na r ta tb)) τ H Q):EA (Ow (Lr K r) (T K E ta) (T K E tb)) τ H Q:=h.b.op
theorem cJ (ho:pY K (compareOp op) r) (hu:X.A.units+64<cLine) (ha:DE K X a ta) (hb:DE K X b tb) (hm:behindInMarks op b=false:=by with_unfolding_all rfl) (hK:X.K=K:=by rfl):DT K X (.Compare a [op] [b] pos) (dB (Na r ta tb)) :=
 ⟨fun y=>(HY (ho y.cx hK hu) (ha.of y) (hb.of y) hm).mono fun _ _ _ h=>h.Zu⟩
theorem tv (h:DE K X e t) (he:∀ whole,isTrue e X.env whole=(do let v ← whole;standAt e.pos;holding [v] (truthy v)):=by intro _;rfl):DT K X e (dB t) :=
 ⟨fun y=>(LO (X:=y.cx) (h.of y) he).mono fun _ _ _ h=>h.b⟩
def yT (r r':vj) (ta tb tc:TD):TD:=fun σ S R Z=>ta σ S (fun x S1=>tb σ S1 (fun y S2=>r x y S2 fun z S3=>∃ k,z=.bl k∧if k=true then tc σ S3 (fun w S4=>r' y w S4 R) Z else R (.bl false) S3) Z) Z
theorem T.chain (h:T K E (yT r r' ta tb tc) τ H Q):xE (Lr K r) (Lr K r') (T K E ta) (T K E tb) (T K E tc) τ H Q:=by
 obtain⟨σ,S,R,Z,aD,hS,q,hR,hZ⟩:=h
 refine⟨σ,S,_,Z,aD,hS,q,fun d S1 x H1 r1 v1 s1 k1=>⟨σ,S1,_,Z,aD.ts k1,s1,r1,fun e S2 y H2 r2 v2 s2 k2=>⟨d,e,S2,_,Rv.ts k2 _ v1,v2,s2,r2,fun z S3 v H3 r3 v3 s3 k3=>?_⟩,hZ.kp k1⟩,hZ⟩
 obtain⟨k,rfl,r3⟩:=r3
 refine⟨k,v3.bl,?_⟩
 cases k with
 | true =>
  rw[if_pos rfl] at r3 ⊢
  exact⟨σ,S3,_,Z,((aD.ts k1).ts k2).ts k3,s3,r3,fun w S4 wv H4 r4 v4 s4 k4=>⟨e,w,S4,R,Rv.ts (k3.trans k4) _ v2,v4,s4,r4,hR.kp (((k1.trans k2).trans k3).trans k4)⟩,hZ.kp ((k1.trans k2).trans k3)⟩
 | false =>
  rw[if_neg zd] at r3 ⊢
  exact hR _ S3 _ H3 r3 (cy false) s3 ((k1.trans k2).trans k3)
theorem cc (ho:pY K (compareOp op) r) (xy:pY K (compareOp Cd) r') (hu:X.A.units+64<cLine) (ha:DE K X a ta) (hb:DE K X b tb) (hc:DE K X c tc)
  (hm:lastMarks [op,Cd] [b,c]=false:=by with_unfolding_all rfl) (hK:X.K=K:=by rfl):DE K X (.Compare a [op,Cd] [b,c] pos) (yT r r' ta tb tc) :=
 ⟨fun y=>(EB (ho y.cx hK hu) (xy y.cx hK hu) (ha.of y) (hb.of y) (hc.of y) hm).mono fun _ _ _ h=>h.chain⟩
theorem Vj (ho:pY K (compareOp op) r) (xy:pY K (compareOp Cd) r') (hu:X.A.units+64<cLine) (ha:DE K X a ta) (hb:DE K X b tb) (hc:DE K X c tc)
  (hm:lastMarks [op,Cd] [b,c]=false:=by with_unfolding_all rfl) (hK:X.K=K:=by rfl):DT K X (.Compare a [op,Cd] [b,c] pos) (dB (yT r r' ta tb tc)) :=
 ⟨fun y=>(EC (ho y.cx hK hu) (xy y.cx hK hu) (ha.of y) (hb.of y) (hc.of y) hm).mono fun _ _ _ h=>h.b.chain⟩
def QA (ta tb:TD):TD:=fun σ S R Z=>ta σ S (fun x S1=>∃ c,x=.bl c∧if c=true then tb σ S1 R Z else R (.bl false) S1) Z
def Vk (ta tb:TD):TD:=fun σ S R Z=>ta σ S (fun x S1=>∃ c,x=.bl c∧if c=true then R (.bl true) S1 else tb σ S1 R Z) Z
def QB (ta:TD):TD:=fun σ S R Z=>ta σ S (fun x S1=>∃ c,x=.bl c∧R (.bl (!c)) S1) Z
theorem IW (h:DE K X a t):DE K X (.BoolOp op [a] pos) t:=⟨fun y=>LQ (h.of y)⟩
theorem t_ {a b:Expr}{rest:List Expr}{ta tb:TD}{pos:Pos} (ha:DE K X a ta) (hb:DE K X (.BoolOp .And (b :: rest) pos) tb):DE K X (.BoolOp .And (a :: b :: rest) pos) (QA ta tb) :=
 ⟨fun y=>(LR (ha.of y) (hb.of y)).mono <| by rintro τ H Q ⟨σ,S,R,Z,aD,hS,q,hR,hZ⟩;exact
  ⟨σ,S,_,Z,aD,hS,q,by
   rintro d S1 x H1 ⟨c,e,r1⟩ v1 s1 k1
   subst e
   refine⟨c,v1.bl,?_⟩
   cases c with
   | true=>rw[if_pos rfl] at r1 ⊢;exact⟨σ,S1,R,Z,aD.ts k1,s1,r1,hR.kp k1,hZ.kp k1⟩
   | false=>rw[if_neg zd] at r1 ⊢;exact hR _ S1 _ H1 r1 (cy false) s1 k1,hZ⟩⟩
theorem Zv {a b:Expr}{rest:List Expr}{ta tb:TD}{pos:Pos} (ha:DE K X a ta) (hb:DE K X (.BoolOp .Or (b :: rest) pos) tb):DE K X (.BoolOp .Or (a :: b :: rest) pos) (Vk ta tb) :=
 ⟨fun y=>(Pm (ha.of y) (hb.of y)).mono <| by rintro τ H Q ⟨σ,S,R,Z,aD,hS,q,hR,hZ⟩;exact
  ⟨σ,S,_,Z,aD,hS,q,by
   rintro d S1 x H1 ⟨c,e,r1⟩ v1 s1 k1
   subst e
   refine⟨c,v1.bl,?_⟩
   cases c with
   | false=>rw[if_neg zd] at r1 ⊢;exact⟨σ,S1,R,Z,aD.ts k1,s1,r1,hR.kp k1,hZ.kp k1⟩
   | true=>rw[if_pos rfl] at r1 ⊢;exact hR _ S1 _ H1 r1 (cy true) s1 k1,hZ⟩⟩
theorem QC (ha:DE K X a ta):DE K X (.UnaryOp .Not a pos) (QB ta) :=
 ⟨fun y=>(LS (ha.of y)).mono <| by rintro τ H Q ⟨σ,S,R,Z,aD,hS,q,hR,hZ⟩;exact
  ⟨σ,S,_,Z,aD,hS,q,by rintro d S1 x H1 ⟨c,e,r1⟩ v1 s1 k1;exact by subst e;exact⟨c,v1.bl,hR _ S1 _ H1 r1 (cy _) s1 k1⟩,hZ⟩⟩
def Vl (t:pX):pX:=fun σ S R Z=>t σ S (fun c S1=>R (!c) S1) Z
def Vm (t u:pX):pX:=fun σ S R Z=>t σ S (fun c S1=>if c=true then u σ S1 R Z else R false S1) Z
def Zw (t u:pX):pX:=fun σ S R Z=>t σ S (fun c S1=>if c=true then R true S1 else u σ S1 R Z) Z
theorem dM (ha:DT K X a t):DT K X (.UnaryOp .Not a pos) (Vl t) :=
 ⟨fun y=>(LP (ha.of y)).mono <| by rintro τ H Q ⟨σ,S,R,Z,aD,hS,q,hR,hZ⟩;exact⟨σ,S,_,Z,aD,hS,q,fun c S1 H1 r1 s1 k1=>hR _ S1 H1 r1 s1 k1,hZ⟩⟩
structure DW (K:PySem.W.Frag) (X:Cx) (e:Expr) (t:pX):Prop where
 of:∀ {b:Bool} (y:Ev X b),PW y.cx e (Tt K y.E t)
theorem PW.mono (h:PW X e t) (i:∀ τ H Q,t' τ H Q→t τ H Q):PW X e t':=fun wh pins s τ H Q I q=>h wh pins s τ H Q I (i τ H Q q)
theorem twd (h:DW K X e t):DT K X e t:=⟨fun y=>(h.of y).pt⟩
theorem tw1 (h:DT K X a t):DW K X (.BoolOp op [a] pos) t:=⟨fun y=>by
 cases op with
 | And=>exact pw_and1 (h.of y)
 | Or=>exact pw_or1 (h.of y)⟩
theorem twand {a b:Expr}{rest:List Expr}{t u:pX}{pos:Pos} (ha:DT K X a t) (hb:DW K X (.BoolOp .And (b :: rest) pos) u):DW K X (.BoolOp .And (a :: b :: rest) pos) (Vm t u) :=
 ⟨fun y=>(pw_and (ha.of y) (hb.of y)).mono <| by rintro τ H Q ⟨σ,S,R,Z,aD,hS,q,hR,hZ⟩;exact
  ⟨σ,S,_,Z,aD,hS,q,fun c S1 H1 r1 s1 k1=>by
   cases c with
   | true=>rw[if_pos rfl] at r1 ⊢;exact⟨σ,S1,R,Z,aD.ts k1,s1,r1,hR.kp k1,hZ.kp k1⟩
   | false=>rw[if_neg zd] at r1 ⊢;exact hR _ S1 H1 r1 s1 k1,hZ⟩⟩
theorem twor {a b:Expr}{rest:List Expr}{t u:pX}{pos:Pos} (ha:DT K X a t) (hb:DW K X (.BoolOp .Or (b :: rest) pos) u):DW K X (.BoolOp .Or (a :: b :: rest) pos) (Zw t u) :=
 ⟨fun y=>(pw_or (ha.of y) (hb.of y)).mono <| by rintro τ H Q ⟨σ,S,R,Z,aD,hS,q,hR,hZ⟩;exact
  ⟨σ,S,_,Z,aD,hS,q,fun c S1 H1 r1 s1 k1=>by
   cases c with
   | false=>rw[if_neg zd] at r1 ⊢;exact⟨σ,S1,R,Z,aD.ts k1,s1,r1,hR.kp k1,hZ.kp k1⟩
   | true=>rw[if_pos rfl] at r1 ⊢;exact hR _ S1 H1 r1 s1 k1,hZ⟩⟩
def Vn (t:pX) (ta tb:TD):TD:=fun σ S R Z=>t σ S (fun c S1=>if c=true then ta σ S1 R Z else tb σ S1 R Z) Z
theorem XH (hc:DT K X c t) (ha:DE K X a ta) (hb:DE K X b tb):DE K X (.IfExp c a b pos) (Vn t ta tb) :=
 ⟨fun y=>(Es (hc.of y) (ha.of y) (hb.of y)).mono <| by rintro τ H Q ⟨σ,S,R,Z,aD,hS,q,hR,hZ⟩;exact
  ⟨σ,S,_,Z,aD,hS,q,fun c S1 H1 r1 s1 k1=>by
   cases c with
   | true=>rw[if_pos rfl] at r1 ⊢;exact⟨σ,S1,R,Z,aD.ts k1,s1,r1,hR.kp k1,hZ.kp k1⟩
   | false=>rw[if_neg zd] at r1 ⊢;exact⟨σ,S1,R,Z,aD.ts k1,s1,r1,hR.kp k1,hZ.kp k1⟩,hZ⟩⟩
def Vo (t:lL):TD:=fun σ S R Z=>t σ S (fun ds S1=>ds.length≤sizeLine∧∀ p,S1 p=none→R (.ref p) (S1.set p (.lst ds))) Z
def Vp (t:lL):TD:=fun σ S R Z=>t σ S (fun ds S1=>ds.length≤sizeLine∧R (.tup ds) S1) Z
theorem fY (h:DA K X es t):DE K X (.List es pos) (Vo t) :=
 ⟨fun y=>(Mn (h.of y)).mono <| by rintro τ H Q ⟨σ,S,R,Z,aD,hS,q,hR,hZ⟩;exact
  ⟨σ,S,_,Z,aD,hS,q,by rintro ds S1 xs H1 ⟨hl,r1⟩ v1 s1 k1;exact⟨by rw[v1.len];exact hl,fun p hp=>hR _ _ _ _ (r1 p (s1.fresh hp)) (i9 p) (s1.new hp ⟨xs,aE,RvAll.ts (.new hp) _ v1⟩) (k1.trans (.new hp))⟩,hZ⟩⟩
theorem gB (h:DA K X es t):DE K X (.Tuple es x1 pos) (Vp t) :=
 ⟨fun y=>(Mm (h.of y)).mono <| by rintro τ H Q ⟨σ,S,R,Z,aD,hS,q,hR,hZ⟩;exact
  ⟨σ,S,_,Z,aD,hS,q,by rintro ds S1 xs H1 ⟨hl,r1⟩ v1 s1 k1;exact⟨by rw[v1.len];exact hl,fun p hp=>hR _ _ _ _ r1 (i_ aE (RvAll.ts (.new hp) _ v1)) (s1.grow hp) (k1.trans (.new hp))⟩,hZ⟩⟩
def Vq:TD:=fun _ S R _=>∀ p,S p=none→R (.ref p) (S.set p (.du []))
theorem QD:DE K X (.Dict [] [] pos) Vq :=
 ⟨fun y=>(EO (X:=y.cx)).mono <| by rintro τ H Q ⟨σ,S,R,Z,aD,hS,q,hR,hZ⟩ p hp;exact hR _ _ _ _ (q p (hS.fresh hp)) (i9 p) (hS.new hp ⟨[],aE,.nil⟩) (.new hp)⟩
def Lc (K:PySem.W.Frag) (r:List D→aU→KD→Prop):List V→Hp→VK→Prop:=fun xs H Q=>∃ ds S R,RvAll K H ds xs∧Rs K S H∧r ds S R∧Cn K H R Q
def ja (K:PySem.W.Frag) (f:Value) (r:List D→aU→KD→Prop):Prop:=∀ X:Cx,X.K=K→X.calm=true→fH X f (Lc K r)
def SF (r:List D→aU→KD→Prop) (t:lL):TD:=fun σ S R Z=>t σ S (fun ds S1=>r ds S1 R) Z
theorem T.cb (h:T K E (SF r t) τ H Q):Uq (Lc K r) (Ta K E t) τ H Q:=by
 obtain⟨σ,S,R,Z,aD,hS,q,hR,hZ⟩:=h
 exact⟨σ,S,_,Z,aD,hS,q,fun ds S1 xs H1 r1 v1 s1 k1=>⟨ds,S1,R,v1,s1,r1,hR.kp k1⟩,hZ⟩
theorem cb {x:Str}{id:String}{r:List D→aU→KD→Prop}{e:Expr}{es:List Expr}{t:lL}{p pos:Pos} (hc:ja K (.builtin id) r) (hm:X.mg x=none) (hv:bootBuiltins x=some (.builtin id)) (ha:DA K X (e :: es) t) (hg:Gl X x:=by rfl)
  (hn:x ≠ "__name__" := by decide) (pI:(x == ("__debug__" : Str))=false:=by decide) (he:starEach (e :: es) X.env=(false,eval e X.env) :: starEach es X.env:=by rfl) (gM:(backTo pos (starEach es X.env)).any (·.1)=false:=by rfl) (hK:X.K=K:=by rfl) (hC:X.calm=true:=by rfl) :
  DE K X (.Call (.Name x p) (e :: es) [] pos) (SF r t) :=
 ⟨fun y=>(vE (X:=y.cx) (hc _ hK hC) hg hm hv (ha.of y) hn pI he gM).mono fun _ _ _ h=>h.cb⟩
theorem ct {x:Str}{id:String}{r:List D→aU→KD→Prop}{e:Expr}{es:List Expr}{t:lL}{p pos:Pos} (hc:ja K (.type id) r) (hm:X.mg x=none) (hv:bootBuiltins x=some (.type id)) (ha:DA K X (e :: es) t) (hg:Gl X x:=by rfl)
  (hn:x ≠ "__name__" := by decide) (pI:(x == ("__debug__" : Str))=false:=by decide) (he:starEach (e :: es) X.env=(false,eval e X.env) :: starEach es X.env:=by rfl) (gM:(backTo pos (starEach es X.env)).any (·.1)=false:=by rfl) (hK:X.K=K:=by rfl) (hC:X.calm=true:=by rfl) :
  DE K X (.Call (.Name x p) (e :: es) [] pos) (SF r t) :=
 ⟨fun y=>(sO (X:=y.cx) (hc _ hK hC) hg hm hv (ha.of y) hn pI he gM).mono fun _ _ _ h=>h.cb⟩
end
section
variable {K:PySem.W.Frag}
theorem Cn.now (h:Cn K H R Q) (hS:Rs K S H) (r:R d S) (rv:Rv K H d v):Q v H:=h d S v H r rv hS (.refl _)
theorem Cn.new {H:Hp}{R:KD}{Q:VK}{S:aU}{p:Addr}{ds:List D}{xs:List V} (h:Cn K H R Q) (hS:Rs K S H) (hp:H p=none) (r:S p=none→R (.ref p) (S.set p (.lst ds))) (rv:RvAll K H ds xs):Q (.ref p) (upd H p (.lst xs)) :=
 h _ _ _ _ (r (hS.fresh hp)) (i9 p) (hS.new hp ⟨xs,aE,RvAll.ts (.new hp) _ rv⟩) (.new hp)
theorem Cn.Nb {H:Hp}{R:KD}{Q:VK}{S:aU}{p:Addr}{ds:List D}{xs:List V} (h:Cn K H R Q) (hS:Rs K S H) (hp:H p=none) (r:R (.tup ds) S) (rv:RvAll K H ds xs):Q (.ref p) (upd H p (.tup xs)) :=
 h _ _ _ _ r (i_ aE (RvAll.ts (.new hp) _ rv)) (hS.grow hp) (.new hp)
theorem Cn.put {H:Hp}{R:KD}{Q:VK}{S:aU}{p:Addr}{ds es:List D}{xs:List V}{d:D}{v:V} (h:Cn K H R Q) (hS:Rs K S H) (hp:S p=some (.lst es)) (r:R d (S.set p (.lst ds))) (rd:Rv K H d v) (rv:RvAll K H ds xs):Q v (upd H p (.lst xs)) :=
 h _ _ _ _ r (Rv.ts (hS.ie hp) _ rd) (hS.put hp ⟨xs,aE,RvAll.ts (hS.ie hp) _ rv⟩) (hS.ie hp)
def n5 (S:aU):D→List D→Prop
 | .ref a,ds=>S a=some (.lst ds)
 | .kD es,ds=>es=ds
 | _,_=>False
theorem n5.at {H:Hp}{S:aU}{d:D}{ds:List D}{v:V} (h:n5 S d ds) (hS:Rs K S H) (r:Rv K H d v):∃ a xs,v=.ref a∧gL K H a xs∧RvAll K H ds xs:=by
 cases d with
 | ref a =>
  obtain⟨xs,e,q⟩:=hS.lst h
  exact⟨a,xs,r.ref,.of e,q⟩
 | kD es =>
  have h:es=ds:=h
  subst h
  obtain⟨a,xs,e,q,t⟩:=r.kD
  exact⟨a,xs,e,q.sq,t⟩
 | _=>exact h.elim
def Vr:vj:=fun x y S R=>match x,y with
 | .int i,.int j=>R (.int (i+j)) S
 | .str a,.str b=>a.length+b.length≤sizeLine∧R (.str (a++b)) S
 | .tup a,.tup b=>a.length+b.length≤sizeLine∧R (.tup (a++b)) S
 | .ref a,.ref b=>∃ xs ys,S a=some (.lst xs)∧S b=some (.lst ys)∧xs.length+ys.length≤sizeLine∧∀ p,S p=none→R (.ref p) (S.set p (.lst (xs++ys)))
 | _,_=>False
theorem gU:pY K (binaryOp .Add) Vr:=by
 rintro X hK hu pins s σ H x y v u Q I rx ry ⟨d,e,S,R,r1,r2,hS,h,hR⟩
 subst hK
 cases d with
 | int i =>
  cases e with
  | int j=>exact Ma pins s σ H x y v u Q I rx ry ⟨i,j,r1.int,r2.int,hR.now hS h (aO _)⟩
  | _=>exact h.elim
 | str i =>
  cases e with
  | str j=>exact xF pins s σ H x y v u Q I rx ry ⟨i,j,r1.str,r2.str,h.1,hR.now hS h.2 (i8 _)⟩
  | _=>exact h.elim
 | tup i =>
  cases e with
  | tup j =>
   obtain⟨a,xs,rfl,q1,t1⟩:=r1.tup
   obtain⟨b,ys,rfl,q2,t2⟩:=r2.tup
   refine IJ pins s σ H _ _ v u Q I rx ry ⟨a,b,xs,ys,rfl,rfl,.of q1,.of q2,by rw[t1.len,t2.len];exact h.1,fun e=>?_,fun _ e=>?_,fun _ _ p hp=>hR.Nb hS hp h.2 (t1.app t2)⟩
   ·subst e
    have:i=[]:=List.length_eq_zero_iff.mp t1.len.symm
    subst this
    exact hR.now hS h.2 (i_ q2 t2)
   ·subst e
    have:j=[]:=List.length_eq_zero_iff.mp t2.len.symm
    subst this
    exact hR.now hS h.2 (by rw[List.append_nil];exact i_ q1 t1)
  | _=>exact h.elim
 | ref a =>
  cases e with
  | ref b =>
   obtain⟨xs,ys,e1,e2,hl,q⟩:=h
   obtain⟨vs,h1,t1⟩:=hS.lst e1
   obtain⟨ws,h2,t2⟩:=hS.lst e2
   exact MB pins s σ H x y v u Q I rx ry ⟨a,b,vs,ws,r1.ref,r2.ref,h1,h2,by rw[t1.len,t2.len];exact hl,fun p hp=>hR.new hS hp (q p) (t1.app t2)⟩
  | _=>exact h.elim
 | _=>exact h.elim
def Vs:vj:=fun x y S R=>match x,y with
 | .int i,.int j=>R (.int (i - j)) S
 | _,_=>False
theorem KL:pY K (binaryOp .Sub) Vs:=by
 rintro X hK hu pins s σ H x y v u Q I rx ry ⟨d,e,S,R,r1,r2,hS,h,hR⟩
 cases d <;> cases e <;> first | exact False.elim h | exact Mb pins s σ H x y v u Q I rx ry ⟨_,_,r1.int,r2.int,hR.now hS h (aO _)⟩
def Vt:vj:=fun x y S R=>match x,y with
 | .int i,.int j=>HW i j∧R (.int (i * j)) S
 | .str z,.int n=>MulOk z n∧R (.str (PySem.Txt.mul z n)) S
 | _,_=>False
theorem lM:pY K (binaryOp .Mult) Vt:=by
 rintro X hK hu pins s σ H x y v u Q I rx ry ⟨d,e,S,R,r1,r2,hS,h,hR⟩
 cases d <;> cases e <;> first
  | exact False.elim h
  | exact Mc pins s σ H x y v u Q I rx ry ⟨_,_,r1.int,r2.int,h.1,hR.now hS h.2 (aO _)⟩
  | exact yQ pins s σ H x y v u Q I rx ry ⟨_,_,r1.str,r2.int,h.1,hR.now hS h.2 (i8 _)⟩
def Vu:vj:=fun x y S R=>match x,y with
 | .int i,.int j=>0<j∧R (.int (i % j)) S
 | _,_=>False
theorem n6:pY K (binaryOp .Mod) Vu:=by
 rintro X hK hu pins s σ H x y v u Q I rx ry ⟨d,e,S,R,r1,r2,hS,h,hR⟩
 cases d <;> cases e <;> first | exact False.elim h | exact Md pins s σ H x y v u Q I rx ry ⟨_,_,r1.int,r2.int,h.1,hR.now hS h.2 (aO _)⟩
def QE:vj:=fun x y S R=>match x,y with
 | .int i,.int j=>Kw i j∧R (.int (i / j)) S
 | _,_=>False
theorem yU:pY K (binaryOp .FloorDiv) QE:=by
 rintro X hK hu pins s σ H x y v u Q I rx ry ⟨d,e,S,R,r1,r2,hS,h,hR⟩
 cases d <;> cases e <;> first | exact False.elim h | exact EU pins s σ H x y v u Q I rx ry ⟨_,_,r1.int,r2.int,h.1,hR.now hS h.2 (aO _)⟩
def Vv:vj:=fun x y S R=>match x,y with
 | .int i,.int j=>PF i j∧R (.int (i ^ j.toNat)) S
 | _,_=>False
theorem Bp:pY K (binaryOp .Pow) Vv:=by
 rintro X hK hu pins s σ H x y v u Q I rx ry ⟨d,e,S,R,r1,r2,hS,h,hR⟩
 cases d <;> cases e <;> first | exact False.elim h | exact Me pins s σ H x y v u Q I rx ry ⟨_,_,r1.int,r2.int,h.1,hR.now hS h.2 (aO _)⟩
def Fe (f:Int→Int→Bool) (g:Str→Str→Bool):vj:=fun x y S R=>match x,y with
 | .int i,.int j=>R (.bl (f i j)) S
 | .str i,.str j=>R (.bl (g i j)) S
 | _,_=>False
theorem Bq (h1:∀ X:Cx,gQ X (compareOp op) (HU fun i j=>.bl (f i j)))
  (h2:∀ X:Cx,gQ X (compareOp op) (fun x y H Q=>∃ i j,x=.str i∧y=.str j∧Q (.bl (g i j)) H)):pY K (compareOp op) (Fe f g):=by
 rintro X hK hu pins s σ H x y v u Q I rx ry ⟨d,e,S,R,r1,r2,hS,h,hR⟩
 cases d <;> cases e <;> first
  | exact False.elim h
  | exact h1 X pins s σ H x y v u Q I rx ry ⟨_,_,r1.int,r2.int,hR.now hS h (cy _)⟩
  | exact h2 X pins s σ H x y v u Q I rx ry ⟨_,_,r1.str,r2.str,hR.now hS h (cy _)⟩
theorem Ff:pY K (compareOp .Lt) (Fe (fun i j=>decide (i<j)) fun i j=>oF i j):=Bq (fun _=>PJ) fun _=>Cb
theorem kE:pY K (compareOp .LtE) (Fe (fun i j=>decide (i≤j)) fun i j=>Ei i j):=Bq (fun _=>PK) fun _=>Cw
theorem ua:pY K (compareOp .Gt) (Fe (fun i j=>decide (j<i)) fun i j=>oF j i):=Bq (fun _=>PL) fun _=>Cz
theorem Vx:pY K (compareOp .GtE) (Fe (fun i j=>decide (j≤i)) fun i j=>Ei j i):=Bq (fun _=>PM) fun _=>Cy
def aj:D→Bool
 | .aw=>true
 | _=>false
theorem vO (r:Rv K H d v):decide (v=.aw)=aj d:=by
 cases d with
 | aw=>rw[r.aw];rfl
 | bl b=>rw[r.bl];rfl
 | int b=>rw[r.int];rfl
 | str b=>rw[r.str];rfl
 | ref b=>rw[r.ref];rfl
 | ty b=>rw[r.ty];rfl
 | tup b=>obtain⟨a,xs,rfl,_⟩:=r.tup;rfl
 | kD b=>obtain⟨a,xs,rfl,_⟩:=r.kD;rfl
 | kt b=>obtain⟨a,xs,rfl,_⟩:=r.kt;rfl
def XI:vj:=fun x y S R=>match y with
 | .aw=>R (.bl (aj x)) S
 | _=>False
def QF:vj:=fun x y S R=>match y with
 | .aw=>R (.bl (!aj x)) S
 | _=>False
theorem rM:pY K (compareOp .Is) XI:=by
 rintro X hK hu pins s σ H x y v u Q I rx ry ⟨d,e,S,R,r1,r2,hS,h,hR⟩
 cases e <;> first | exact False.elim h | exact Mg pins s σ H x y v u Q I rx ry ⟨r2.aw,by rw[vO r1];exact hR.now hS h (cy _)⟩
theorem mO:pY K (compareOp .IsNot) QF:=by
 rintro X hK hu pins s σ H x y v u Q I rx ry ⟨d,e,S,R,r1,r2,hS,h,hR⟩
 cases e <;> first | exact False.elim h | exact HX pins s σ H x y v u Q I rx ry ⟨r2.aw,by rw[vO r1];exact hR.now hS h (cy _)⟩
mutual
def Dp (S:aU):D→PyData→Prop
 | .aw,p=>p=.none
 | .bl b,p=>p=.bool b
 | .int i,p=>p=.int i
 | .str z,p=>p=.str z
 | .tup ds,p=>∃ ps,p=.tuple ps∧DpAll S ds ps
 | .kD ds,p=>∃ ps,p=.list ps∧DpAll S ds ps
 | .kt _,_=>False
 | .ref _,_=>False
 | .ty _,_=>False
def DpAll (S:aU):List D→List PyData→Prop
 | [],ps=>ps=[]
 | d :: ds,ps=>∃ q qs,ps=q :: qs∧Dp S d q∧DpAll S ds qs
end
mutual
theorem Dp.dt:∀ (d:D) {p:PyData}{v:V},Dp S d p→Rv K H d v→Dt K H p v
 | .aw,p,v,h,r=>by simp only [Dp] at h;subst h;simp only [Dt];exact r.aw
 | .bl b,p,v,h,r=>by simp only [Dp] at h;subst h;simp only [Dt];exact r.bl
 | .int b,p,v,h,r=>by simp only [Dp] at h;subst h;simp only [Dt];exact r.int
 | .str b,p,v,h,r=>by simp only [Dp] at h;subst h;simp only [Dt];exact r.str
 | .tup ds,p,v,h,r=>by
  simp only [Dp] at h
  obtain⟨ps,rfl,h⟩:=h
  obtain⟨a,xs,rfl,q,t⟩:=r.tup
  simp only [Dt]
  exact⟨a,xs,rfl,.of q,DpAll.dt ds h t⟩
 | .kD ds,p,v,h,r=>by
  simp only [Dp] at h
  obtain⟨ps,rfl,h⟩:=h
  obtain⟨a,xs,rfl,q,t⟩:=r.kD
  simp only [Dt]
  exact⟨a,xs,rfl,q.sq,DpAll.dt ds h t⟩
 | .kt a,p,v,h,r=>by simp only [Dp] at h
 | .ref a,p,v,h,r=>by simp only [Dp] at h
 | .ty a,p,v,h,r=>by simp only [Dp] at h
theorem DpAll.dt:∀ (ds:List D) {ps:List PyData}{vs:List V},DpAll S ds ps→RvAll K H ds vs→DtAll K H ps vs
 | [],ps,vs,h,r=>by simp only [DpAll] at h;subst h;rw[r.nil];simp only [DtAll]
 | d :: ds,ps,vs,h,r=>by
  simp only [DpAll] at h
  obtain⟨q,qs,rfl,h1,h2⟩:=h
  obtain⟨y,ys,rfl,r1,r2⟩:=r.cons
  simp only [DtAll]
  exact⟨y,ys,rfl,Dp.dt d h1 r1,DpAll.dt ds h2 r2⟩
end
def Dl (S:aU):D→PyData→Prop
 | .ref a,p=>∃ ds ps,S a=some (.lst ds)∧p=.list ps∧DpAll S ds ps
 | d,p=>Dp S d p
theorem Dl.dt (h:Dl S d p) (hS:Rs K S H) (r:Rv K H d v):Dt K H p v:=by
 cases d with
 | ref a =>
  obtain⟨ds,ps,e,rfl,h⟩:=h
  obtain⟨xs,e1,t⟩:=hS.lst e
  rw[r.ref]
  simp only [Dt]
  exact⟨a,xs,rfl,.of e1,DpAll.dt ds h t⟩
 | _=>exact Dp.dt _ h r
def IX (neg:Bool):vj:=fun x y S R=>match x,y with
 | .int i,.int j=>R (.bl (if neg then !decide (i=j) else decide (i=j))) S
 | .str i,.str j=>R (.bl (if neg then !decide (i=j) else decide (i=j))) S
 | x,y=>∃ p q,Dl S x p∧Dl S y q∧p.canLay0=true∧q.canLay0=true∧(p.depth≤64∨q.depth≤64)∧R (.bl (if neg then !PyData.eqv p q else PyData.eqv p q)) S
theorem Fh (h:IX neg x y S R):(∃ i j,x=.int i∧y=.int j∧R (.bl (if neg then !decide (i=j) else decide (i=j))) S)∨(∃ i j,x=.str i∧y=.str j∧R (.bl (if neg then !decide (i=j) else decide (i=j))) S) ∨
  ∃ p q,Dl S x p∧Dl S y q∧p.canLay0=true∧q.canLay0=true∧(p.depth≤64∨q.depth≤64)∧R (.bl (if neg then !PyData.eqv p q else PyData.eqv p q)) S:=by
 cases x <;> cases y <;> first | exact .inl ⟨_,_,rfl,rfl,h⟩ | exact .inr (.inl ⟨_,_,rfl,rfl,h⟩) | exact .inr (.inr h)
theorem cg:pY K (compareOp .Eq) (IX false):=by
 rintro X hK hu pins s σ H x y v u Q I rx ry ⟨d,e,S,R,r1,r2,hS,h,hR⟩
 subst hK
 rcases Fh h with ⟨i,j,rfl,rfl,h⟩ | ⟨i,j,rfl,rfl,h⟩ | ⟨p,q,h1,h2,c1,c2,dp,h⟩
 ·cases r1.int;cases r2.int
  refine Ko pins s σ H _ _ v u Q I rx ry ⟨rfl,?_⟩
  have e:decide (V.int i=V.int j)=decide (i=j):=by simp
  rw[e];exact hR.now hS h (cy _)
 ·cases r1.str;cases r2.str
  refine Ko pins s σ H _ _ v u Q I rx ry ⟨rfl,?_⟩
  have e:decide (V.str i=V.str j)=decide (i=j):=by simp
  rw[e];exact hR.now hS h (cy _)
 ·exact MS hu pins s σ H x y v u Q I rx ry ⟨p,q,h1.dt hS r1,h2.dt hS r2,c1,c2,dp,hR.now hS h (cy _)⟩
theorem lN:pY K (compareOp .NotEq) (IX true):=by
 rintro X hK hu pins s σ H x y v u Q I rx ry ⟨d,e,S,R,r1,r2,hS,h,hR⟩
 subst hK
 rcases Fh h with ⟨i,j,rfl,rfl,h⟩ | ⟨i,j,rfl,rfl,h⟩ | ⟨p,q,h1,h2,c1,c2,dp,h⟩
 ·cases r1.int;cases r2.int
  refine Kr pins s σ H _ _ v u Q I rx ry ⟨rfl,?_⟩
  have e:decide (V.int i=V.int j)=decide (i=j):=by simp
  rw[e];exact hR.now hS h (cy _)
 ·cases r1.str;cases r2.str
  refine Kr pins s σ H _ _ v u Q I rx ry ⟨rfl,?_⟩
  have e:decide (V.str i=V.str j)=decide (i=j):=by simp
  rw[e];exact hR.now hS h (cy _)
 ·exact MT hu pins s σ H x y v u Q I rx ry ⟨p,q,h1.dt hS r1,h2.dt hS r2,c1,c2,dp,hR.now hS h (cy _)⟩
def cz (kvs:List (Key×D)) (k:Key):Option D:=(kvs.find? fun kv=>decide (kv.1=k)).map (·.2)
def dput (kvs:List (Key×D)) (k:Key) (v:D):List (Key×D):=if (kvs.any fun kv=>decide (kv.1=k))=true then kvs.map (fun kv=>if kv.1=k then (kv.1,v) else kv) else kvs++[(k,v)]
def vP (kvs:List (Key×D)) (k:Key):List (Key×D):=kvs.filter fun kv=>decide (kv.1≠k)
theorem bU.val (h:bU K H ks vs) (k:Key):(∀ d,cz ks k=some d→∃ v,fX vs k=some v∧Rv K H d v)∧(cz ks k=none→fX vs k=none):=by
 induction h with
 | nil=>exact⟨fun d e=>(by cases e),fun _=>rfl⟩
 | @cons a b l m r t ih =>
  obtain⟨k',d⟩:=a
  obtain⟨k'',v⟩:=b
  obtain⟨e0,r⟩:=r
  dsimp only at e0
  subst e0
  unfold cz fX
  simp only [zQ]
  by_cases q:k'=k
  ·rw[zt q];exact⟨fun d' e=>⟨v,rfl,(by cases e;exact r)⟩,fun e=>(by cases e)⟩
  ·rw[zq q];exact ih
theorem bU.any (h:bU K H ks vs) (k:Key):(ks.any fun kv=>decide (kv.1=k))=(vs.any fun kv=>decide (kv.1=k)):=by
 induction h with
 | nil=>rfl
 | cons r t ih=>rw[yI,yI,ih,r.1]
theorem bU.len (h:bU K H ks vs):vs.length=ks.length:=(Paired.length h).symm
theorem bU.app:∀ {ks ls:List (κ×D)}{vs ws:List (κ×V)},bU K H ks vs→bU K H ls ws→bU K H (ks++ls) (vs++ws)
 | _,_,_,_,.nil,h=>h
 | _,_,_,_,.cons r t,h=>.cons r (bU.app t h)
theorem bU.MC (h:bU K H ks vs) (k:Key) (rd:Rv K H d v):bU K H (ks.map fun kv=>if kv.1=k then (kv.1,d) else kv) (vs.map fun kv=>if kv.1=k then (kv.1,v) else kv):=by
 induction h with
 | nil=>exact .nil
 | @cons a b l m r t ih =>
  refine .cons ?_ ih
  dsimp only
  by_cases q:b.1=k
  ·rw[if_pos q,if_pos (r.1.trans q)];exact⟨r.1,rd⟩
  ·rw[if_neg q,if_neg fun z=>q (r.1.symm.trans z)];exact r
theorem bU.put (h:bU K H ks vs) (k:Key) (rd:Rv K H d v):bU K H (dput ks k d) (putK vs k v):=by
 unfold dput putK
 rw[h.any k]
 split
 ·exact h.MC k rd
 ·exact h.app (.cons ⟨rfl,rd⟩ .nil)
theorem bU.drop (h:bU K H ks vs) (k:Key):bU K H (vP ks k) (nW vs k):=by
 unfold vP nW
 induction h with
 | nil=>exact .nil
 | @cons a b l m r t ih =>
  rw[yp,yp,r.1]
  by_cases q:b.1=k
  ·rw[if_neg (by simp [q]),if_neg (by simp [q])];exact ih
  ·rw[if_pos (by simp [q]),if_pos (by simp [q])];exact .cons r ih
def yV:D→Option Key
 | .int i=>some (.inl i)
 | .str z=>some (.inr z)
 | _=>none
theorem mP (h:yV d=some k) (r:Rv K H d v):v=kV k:=by
 cases d with
 | int i=>cases h;exact r.int
 | str i=>cases h;exact r.str
 | _=>cases h
def km:D→Bool
 | .aw=>true | .bl _=>true | .int _=>true | .str _=>true
 | _=>false
def lO:D→V
 | .aw=>.aw | .bl b=>.bl b | .int i=>.int i | .str z=>.str z | .ref a=>.ref a | .ty n=>.ty n
 | _=>.aw
theorem pZ (h:km d=true) (r:Rv K H d v):v=lO d∧gR v=true:=by
 cases d with
 | aw=>cases r.aw;exact⟨rfl,rfl⟩
 | bl b=>cases r.bl;exact⟨rfl,rfl⟩
 | int b=>cases r.int;exact⟨rfl,rfl⟩
 | str b=>cases r.str;exact⟨rfl,rfl⟩
 | _=>cases h
theorem lP:∀ {ds:List D}{vs:List V},ds.all km=true→RvAll K H ds vs→vs=ds.map lO∧vs.all gR=true
 | [],vs,_,r=>by rw[r.nil];exact⟨rfl,rfl⟩
 | d :: ds,vs,h,r=>by
  obtain⟨y,ys,rfl,r1,r2⟩:=r.cons
  rw[List.all_cons,zN] at h
  obtain⟨e1,f1⟩:=pZ h.1 r1
  obtain⟨e2,f2⟩:=lP h.2 r2
  refine⟨by rw[e1,e2];rfl,?_⟩
  rw[List.all_cons,f1,f2];rfl
def inD (neg:Bool):vj:=fun x y S R=>match y with
 | .str j=>∃ i,x=.str i∧R (.bl (if neg then !(!(Builtin.Str.occurrences j i 0 j.length 1).isEmpty) else !(Builtin.Str.occurrences j i 0 j.length 1).isEmpty)) S
 | .kt ds=>km x=true∧ds.all km=true∧R (.bl (if neg then !Cm (lO x) (ds.map lO) else Cm (lO x) (ds.map lO))) S
 | .tup ds=>km x=true∧ds.all km=true∧R (.bl (if neg then !Cm (lO x) (ds.map lO) else Cm (lO x) (ds.map lO))) S
 | .ref a=>(∃ ds,S a=some (.lst ds)∧km x=true∧ds.all km=true∧R (.bl (if neg then !Cm (lO x) (ds.map lO) else Cm (lO x) (ds.map lO))) S) ∨
   ∃ kvs k,S a=some (.du kvs)∧yV x=some k∧R (.bl (if neg then !(cz kvs k).isSome else (cz kvs k).isSome)) S
 | _=>False
theorem ub (hS:Rs K S H) (e:S a=some (.du kvs)):∃ o,oB H a (kV k) o∧o.isSome=(cz kvs k).isSome∧∀ d,cz kvs k=some d→∃ v,o=some v∧Rv K H d v:=by
 obtain⟨vs,e1,t⟩:=hS.du e
 refine⟨_,oB.k e1,?_,fun d h=>(t.val k).1 d h⟩
 cases q:cz kvs k with
 | none=>rw[(t.val k).2 q];rfl
 | some d=>obtain⟨v,e2,_⟩:=(t.val k).1 d q;rw[e2];rfl
theorem CK:pY K (compareOp .In) (inD false):=by
 rintro X hK hu pins s σ H x y v u Q I rx ry ⟨d,e,S,R,r1,r2,hS,h,hR⟩
 subst hK
 cases e with
 | str j =>
  obtain⟨i,rfl,h⟩:=h
  exact Cc pins s σ H x y v u Q I rx ry ⟨i,j,r1.str,r2.str,hR.now hS h (cy _)⟩
 | tup ds =>
  obtain⟨f1,f2,h⟩:=h
  obtain⟨a,xs,rfl,q,t⟩:=r2.tup
  obtain⟨e1,g1⟩:=pZ f1 r1
  obtain⟨e2,g2⟩:=lP f2 t
  subst e1 e2
  exact mI pins s σ H _ _ v u Q I rx ry ⟨a,_,rfl,.inr (.of q),g1,g2,hR.now hS h (cy _)⟩
 | kt ds =>
  obtain⟨f1,f2,h⟩:=h
  obtain⟨a,xs,rfl,q,t⟩:=r2.kt
  obtain⟨e1,g1⟩:=pZ f1 r1
  obtain⟨e2,g2⟩:=lP f2 t
  subst e1 e2
  exact mI pins s σ H _ _ v u Q I rx ry ⟨a,_,rfl,.inr (.inr q),g1,g2,hR.now hS h (cy _)⟩
 | ref a =>
  cases r2.ref
  rcases h with ⟨ds,e,f1,f2,h⟩ | ⟨kvs,k,e,hk,h⟩
  ·obtain⟨xs,e1,t⟩:=hS.lst e
   obtain⟨e2,g1⟩:=pZ f1 r1
   obtain⟨e3,g2⟩:=lP f2 t
   subst e2 e3
   exact mI pins s σ H _ _ v u Q I rx ry ⟨a,_,rfl,.inl (.of e1),g1,g2,hR.now hS h (cy _)⟩
  ·cases mP hk r1
   cases ry
   obtain⟨o,g,e1,_⟩:=ub (k:=k) hS e
   refine UC (by omega) I g rx fun s' I'=>⟨.bl o.isSome,H,I',rfl,?_⟩
   rw[e1];exact hR.now hS h (cy _)
 | _=>exact h.elim
def Zx (K:PySem.W.Frag) (r:vj):Prop:=∀ X:Cx,X.K=K→X.A.units+64<cLine→P0 X (Lr K r)
def XJ:vj:=fun x y S R=>match x,y with
 | .tup ds,.int i=>∃ d,sP ds i=some d∧R d S
 | .kt ds,.int i=>∃ d,sP ds i=some d∧R d S
 | .kD ds,.int i=>∃ d,sP ds i=some d∧R d S
 | .str z,.int i=>∃ c,z.length≤sizeLine∧sP z.cps.toList i=some c∧R (.str ⟨#[c]⟩) S
 | .ref a,.int i=>∃ ds d,S a=some (.lst ds)∧sP ds i=some d∧R d S
 | .ref a,.str z=>∃ kvs d,S a=some (.du kvs)∧cz kvs (.inr z)=some d∧R d S
 | _,_=>False
theorem RvAll.at {H:Hp}{ds:List D}{xs:List V}{i:Int}{d:D} (h:RvAll K H ds xs) (e:sP ds i=some d):∃ v,sP xs i=some v∧Rv K H d v:=by
 unfold sP at e ⊢
 rw[h.len]
 cases q:Ik ds.length i with
 | none=>rw[q] at e;cases e
 | some j =>
  rw[q] at e
  exact h.get e
theorem Vy:Zx K XJ:=by
 rintro X hK hu value slice pins s σ H x y v u Q I rx ry ⟨d,e,S,R,r1,r2,hS,h,hR⟩ hs
 subst hK
 cases d with
 | tup ds =>
  cases e with
  | int i =>
   obtain⟨d,e,h⟩:=h
   obtain⟨a,xs,rfl,q,t⟩:=r1.tup
   obtain⟨z,e1,r⟩:=t.at e
   exact EH value slice pins s σ H _ _ v u Q I rx ry ⟨a,xs,i,z,rfl,r2.int,.of q,e1,hR.now hS h r⟩ hs
  | _=>exact h.elim
 | kt ds =>
  cases e with
  | int i =>
   obtain⟨d,e,h⟩:=h
   obtain⟨a,xs,rfl,q,t⟩:=r1.kt
   obtain⟨z,e1,r⟩:=t.at e
   exact EH value slice pins s σ H _ _ v u Q I rx ry ⟨a,xs,i,z,rfl,r2.int,.inr q,e1,hR.now hS h r⟩ hs
  | _=>exact h.elim
 | kD ds =>
  cases e with
  | int i =>
   obtain⟨d,e,h⟩:=h
   obtain⟨a,xs,rfl,q,t⟩:=r1.kD
   obtain⟨z,e1,r⟩:=t.at e
   exact Bc value slice pins s σ H _ _ v u Q I rx ry ⟨a,xs,i,z,rfl,r2.int,q.sq,e1,hR.now hS h r⟩ hs
  | _=>exact h.elim
 | str w =>
  cases e with
  | int i =>
   obtain⟨c,e0,e,h⟩:=h
   exact Mt value slice pins s σ H _ _ v u Q I rx ry ⟨w,i,c,r1.str,r2.int,e0,e,hR.now hS h (i8 _)⟩ hs
  | _=>exact h.elim
 | ref a =>
  cases e with
  | int i =>
   obtain⟨ds,d,e,e1,h⟩:=h
   obtain⟨xs,e2,t⟩:=hS.lst e
   obtain⟨z,e3,r⟩:=t.at e1
   exact Bc value slice pins s σ H _ _ v u Q I rx ry ⟨a,xs,i,z,r1.ref,r2.int,.of e2,e3,hR.now hS h r⟩ hs
  | str w =>
   obtain⟨kvs,d,e,e1,h⟩:=h
   cases r1.ref
   cases r2.str
   cases rx
   obtain⟨o,g,_,e2⟩:=ub (k:=.inr w) hS e
   obtain⟨z,rfl,r⟩:=e2 d e1
   exact tail_any (vG I g) PySem.F.slot_dict_getitem.lookup (Cr (by omega) I g ry fun w' s' I' rA=>⟨z,H,I',rA,hR.now hS h r⟩) hs
  | _=>exact h.elim
 | _=>exact h.elim
theorem ix (hu:X.A.units+64<cLine) (ha:DE K X a ta) (hb:DE K X b tb) (hs:Bb b:=by exact fun _ _=>rfl) (hK:X.K=K:=by rfl):DE K X (.Subscript a b pos) (Na XJ ta tb) :=
 ⟨fun y=>(P1 (Vy y.cx hK hu) (ha.of y) (hb.of y) hs).mono fun _ _ _ h=>h.op⟩
end
section
variable {K:PySem.W.Frag}{X:Cx}
abbrev OI:=SD→aU→(Option Int→aU→Prop)→KX→Prop
def To (K:PySem.W.Frag) (E:St→XK) (t:OI):TO:=fun τ H Q=>∃ σ S R Z,ig K H σ τ∧Rs K S H∧t σ S R Z∧(∀ o S' H',R o S'→Rs K S' H'→Kp K H H'→Q o H')∧CJ K H Z (E τ)
structure DO (K:PySem.W.Frag) (X:Cx) (e:Option Expr) (t:OI):Prop where
 of:∀ {b:Bool} (y:Ev X b),PO y.cx e (To K y.E t)
theorem PO.mono (h:PO X e t) (i:∀ τ H Q,t' τ H Q→t τ H Q):PO X e t':=fun pins s τ H Q I q=>h pins s τ H Q I (i τ H Q q)
def QG:OI:=fun _ S R _=>R none S
def QH (t:TD):OI:=fun σ S R Z=>t σ S (fun d S1=>∃ i,d=.int i∧R (some i) S1) Z
theorem o0:DO K X none QG:=⟨fun y=>(Ih (X:=y.cx)).mono <| by rintro τ H Q ⟨σ,S,R,Z,aD,hS,q,hR,hZ⟩;exact hR _ S H q hS (.refl _)⟩
theorem o1 (h:DE K X e t):DO K X (some e) (QH t) :=
 ⟨fun y=>(Ii (h.of y)).mono <| by rintro τ H Q ⟨σ,S,R,Z,aD,hS,q,hR,hZ⟩;exact⟨σ,S,_,Z,aD,hS,q,by rintro d S1 x H1 ⟨i,e,r1⟩ v1 s1 k1;exact by subst e;exact⟨i,v1.int,hR _ S1 H1 r1 s1 k1⟩,hZ⟩⟩
def j6 {α:Type} (xs:List α) (lo hi:Option Int):List α:=(xs.drop (HT.sIx xs.length 0 lo)).take (HT.sIx xs.length xs.length hi - HT.sIx xs.length 0 lo)
theorem RvAll.cut {H:Hp}{ds:List D}{xs:List V} (h:RvAll K H ds xs) (lo hi:Option Int):RvAll K H (j6 ds lo hi) (vF xs lo hi):=by
 unfold j6 vF
 rw[h.len]
 exact (h.drop _).take _
def XM:D→Option Int→Option Int→aU→KD→Prop:=fun x lo hi S R=>match x with
 | .str z=>z.length≤sizeLine∧R (.str (PySem.Txt.slice z lo hi)) S
 | .tup ds=>¬ (HT.sIx ds.length 0 lo=0∧HT.sIx ds.length ds.length hi=ds.length)∧R (.tup (j6 ds lo hi)) S
 | .ref a=>∃ ds,S a=some (.lst ds)∧∀ p,S p=none→R (.ref p) (S.set p (.lst (j6 ds lo hi)))
 | .kD ds=>∀ p,S p=none→R (.ref p) (S.set p (.lst (j6 ds lo hi)))
 | _=>False
def Zy (K:PySem.W.Frag):V→Option Int→Option Int→Hp→VK→Prop:=fun x lo hi H Q=>∃ d S R,Rv K H d x∧Rs K S H∧XM d lo hi S R∧Cn K H R Q
theorem Vz (hK:X.K=K):PY X (Zy K):=by
 rintro pins s σ H x v vl vu lo hi sl Q I rx hs pl pu ⟨d,S,R,r1,hS,h,hR⟩
 subst hK
 cases d with
 | str z=>exact M9 pins s σ H x v vl vu lo hi sl Q I rx hs pl pu ⟨z,r1.str,h.1,hR.now hS h.2 (i8 _)⟩
 | tup ds =>
  obtain⟨a,xs,rfl,q,t⟩:=r1.tup
  exact Ms pins s σ H _ v vl vu lo hi sl Q I rx hs pl pu ⟨a,xs,rfl,.of q,by rw[t.len];exact h.1,fun p hp=>hR.Nb hS hp h.2 (t.cut lo hi)⟩
 | ref a =>
  obtain⟨ds,e,h⟩:=h
  obtain⟨xs,e1,t⟩:=hS.lst e
  exact Bd pins s σ H _ v vl vu lo hi sl Q I rx hs pl pu ⟨a,xs,r1.ref,.of e1,fun p hp=>hR.new hS hp (h p) (t.cut lo hi)⟩
 | kD ds =>
  obtain⟨a,xs,rfl,q,t⟩:=r1.kD
  exact Bd pins s σ H _ v vl vu lo hi sl Q I rx hs pl pu ⟨a,xs,rfl,q.sq,fun p hp=>hR.new hS hp (h p) (t.cut lo hi)⟩
 | _=>exact h.elim
def Zz (te:TD) (tl th:OI):TD:=fun σ S R Z=>te σ S (fun x S1=>tl σ S1 (fun l S2=>th σ S2 (fun u S3=>XM x l u S3 R) Z) Z) Z
theorem sl {e:Expr}{lo hi:Option Expr}{te:TD}{tl th:OI}{p2 pos:Pos} (he:DE K X e te) (hl:DO K X lo tl) (hu:DO K X hi th) (hK:X.K=K:=by rfl):DE K X (.Subscript e (.Slice lo hi none p2) pos) (Zz te tl th) :=
 ⟨fun y=>(EG (X:=y.cx) (Vz hK) (he.of y) (hl.of y) (hu.of y)).mono <| by rintro τ H Q ⟨σ,S,R,Z,aD,hS,q,hR,hZ⟩;exact
  ⟨σ,S,_,Z,aD,hS,q,fun d S1 x H1 r1 v1 s1 k1=>⟨σ,S1,_,Z,aD.ts k1,s1,r1,fun l S2 H2 r2 s2 k2=>⟨σ,S2,_,Z,aD.ts (k1.trans k2),s2,r2,fun u S3 H3 r3 s3 k3=>⟨d,S3,R,Rv.ts (k2.trans k3) _ v1,s3,r3,hR.kp ((k1.trans k2).trans k3)⟩,hZ.kp (k1.trans k2)⟩,hZ.kp k1⟩,hZ⟩⟩
def VA (te:TD):TD:=fun σ S R Z=>te σ S (fun x S1=>∃ i,x=.int i∧R (.int (-i)) S1) Z
theorem VB (he:DE K X e te):DE K X (.UnaryOp .USub e pos) (VA te) :=
 ⟨fun y=>(PC Mf (he.of y)).mono <| by rintro τ H Q ⟨σ,S,R,Z,aD,hS,q,hR,hZ⟩;exact⟨σ,S,_,Z,aD,hS,q,by rintro d S1 x H1 ⟨i,e,r1⟩ v1 s1 k1;exact by subst e;exact⟨i,v1.int,hR _ S1 _ H1 r1 (aO _) s1 k1⟩,hZ⟩⟩
def VC (T:String) (S:aU):D→Prop
 | .str _=>T = "str"
 | .ref a=>T = "list" ∧ ∃ ds,S a=some (.lst ds)
 | .kD _=>T = "list"
 | _=>False
theorem KN {H:Hp}{S:aU}{T:String}{d:D}{v:V} (h:VC T S d) (hS:Rs K S H) (r:Rv K H d v):Sr K T v H:=by
 cases d with
 | str z=>rw[r.str];exact h
 | ref a=>obtain⟨e,ds,h⟩:=h;obtain⟨xs,e1,_⟩:=hS.lst h;rw[r.ref];exact .inl ⟨e,xs,.of e1⟩
 | kD ds=>obtain⟨a,xs,rfl,q,_⟩:=r.kD;exact .inl ⟨h,xs,q.sq⟩
 | _=>exact h.elim
abbrev Ek:=D→List D→aU→KD→Prop
def Lm (K:PySem.W.Frag) (r:Ek):V→List V→Hp→VK→Prop:=fun x xs H Q=>∃ d ds S R,Rv K H d x∧RvAll K H ds xs∧Rs K S H∧r d ds S R∧Cn K H R Q
def KO (K:PySem.W.Frag) (id:String) (r:Ek):Prop:=∀ X:Cx,X.K=K→Oy X id (Lm K r)
def ZA (T:String) (r:Ek) (to:TD) (t:lL):TD:=fun σ S R Z=>to σ S (fun x S1=>VC T S1 x∧t σ S1 (fun ds S2=>r x ds S2 R) Z) Z
def VD (T:String) (r:Ek) (to:TD):TD:=fun σ S R Z=>to σ S (fun x S1=>VC T S1 x∧r x [] S1 R) Z
theorem bm {o e:Expr}{es:List Expr}{T id:String}{name:Str}{r:Ek}{to:TD}{t:lL}{apos aR:Pos} (pa:PlainAttrs T) (slot:Slot T name id) (Mx:typeOf (.builtin id)=pure (.type "method_descriptor")) (hm:KO K id r) (ho:DE K X o to) (ha:DA K X (e :: es) t)
  (lI:attributeBase o name X.env (eval o X.env)=eval o X.env:=by rfl)
  (Mz:((backTo aR (starEach (e :: es) X.env)).all (fun x=>!x.1) && (backToKw aR (keywordEach [] X.env)).all (fun x=>x.1.isSome)
   && decide ((e :: es).length+([]:List Keyword).length+(if ([]:List Keyword).isEmpty then 0 else 1)<30))=true:=by rfl)
  (pJ:(apos.endLine == aR.line)=true:=by rfl) (hs:starEach (e :: es) X.env=(false,eval e X.env) :: starEach es X.env:=by rfl) (xR:(backTo aR (starEach es X.env)).any (·.1)=false:=by rfl) (hK:X.K=K:=by rfl) :
  DE K X (.Call (.Attribute o name apos) (e :: es) [] aR) (ZA T r to t):=by
 subst hK
 exact⟨fun y=>(P4 (X:=y.cx) pa slot Mx (hm _ rfl) (ho.of y) (ha.of y) lI Mz pJ hs xR).mono <| by rintro τ H Q ⟨σ,S,R,Z,aD,hS,q,hR,hZ⟩;exact
  ⟨σ,S,_,Z,aD,hS,q,by rintro d S1 x H1 ⟨h1,r1⟩ v1 s1 k1;exact⟨KN h1 s1 v1,σ,S1,_,Z,aD.ts k1,s1,r1,fun ds S2 xs H2 r2 v2 s2 k2=>⟨d,ds,S2,R,Rv.ts k2 _ v1,v2,s2,r2,hR.kp (k1.trans k2)⟩,hZ.kp k1⟩,hZ⟩⟩
theorem ZC {o:Expr}{T id:String}{name:Str}{r:Ek}{to:TD}{apos aR:Pos} (pa:PlainAttrs T) (slot:Slot T name id) (Mx:typeOf (.builtin id)=pure (.type "method_descriptor")) (hm:KO K id r) (ho:DE K X o to)
  (lI:attributeBase o name X.env (eval o X.env)=eval o X.env:=by rfl) (pJ:(apos.endLine == aR.line)=true:=by rfl) (hK:X.K=K:=by rfl) :
  DE K X (.Call (.Attribute o name apos) [] [] aR) (VD T r to):=by
 subst hK
 exact⟨fun y=>(Mw (X:=y.cx) pa slot Mx (hm _ rfl) (ho.of y) lI pJ).mono <| by rintro τ H Q ⟨σ,S,R,Z,aD,hS,q,hR,hZ⟩;exact
  ⟨σ,S,_,Z,aD,hS,q,by rintro d S1 x H1 ⟨h1,r1⟩ v1 s1 k1;exact⟨KN h1 s1 v1,d,[],S1,R,v1,bE,s1,r1,hR.kp k1⟩,hZ⟩⟩
theorem RvAll.one (h:RvAll K H [d] xs):∃ v,xs=[v]∧Rv K H d v:=by
 obtain⟨y,ys,rfl,h1,h2⟩:=h.cons
 rw[h2.nil];exact⟨y,rfl,h1⟩
def IY:Ek:=fun x ds S R=>∃ a es d,x=.ref a∧ds=[d]∧S a=some (.lst es)∧es.length<sizeLine∧R .aw (S.set a (.lst (es++[d])))
theorem dN:KO K "list.append" IY:=by
 rintro X hK pins s σ H x xs v us Q I rx rs ⟨d,ds,S,R,r1,r2,hS,⟨a,es,y,e1,e2,e3,hl,h⟩,hR⟩
 subst e1 e2
 obtain⟨w0,rfl,q2⟩:=r2.one
 obtain⟨zs,e4,t⟩:=hS.lst e3
 exact Cp pins s σ H x _ v us Q I rx rs ⟨a,zs,w0,r1.ref,rfl,e4,by rw[t.len];exact hl,hR.put hS e3 h ic (t.app (aS q2 bE))⟩
def VE:Ek:=fun x ds S R=>∃ a es d,x=.ref a∧ds=[]∧S a=some (.lst es)∧es[es.length - 1]?=some d∧R d (S.set a (.lst es.dropLast))
theorem QI:KO K "list.pop" VE:=by
 rintro X hK pins s σ H x xs v us Q I rx rs ⟨d,ds,S,R,r1,r2,hS,⟨a,es,y,e1,e2,e3,hl,h⟩,hR⟩
 subst e1 e2
 obtain⟨zs,e4,t⟩:=hS.lst e3
 obtain⟨w,e5,r⟩:=t.get hl
 exact MA pins s σ H x _ v us Q I rx rs ⟨a,zs,w,r1.ref,r2.nil,e4,by rw[t.len];exact e5,hR.put hS e3 h r t.dropLast⟩
def IZ:Ek:=fun x ds S R=>∃ (es:List D) (d:D) (j:Nat),ds=[d]∧n5 S x es∧km d=true∧es.all km=true∧(∃ z,es[j]?=some z∧eqV (lO z) (lO d)=true)∧(∀ m u,m<j→es[m]?=some u→eqV (lO u) (lO d)=false)∧R (.int j) S
theorem Fi:KO K "list.index" IZ:=by
 rintro X hK pins s σ H x xs v us Q I rx rs ⟨d,ds,S,R,r1,r2,hS,⟨es,y,j,e2,e3,f1,f2,⟨z,e4,e5⟩,h4,h⟩,hR⟩
 subst hK e2
 obtain⟨w0,rfl,q2⟩:=r2.one
 obtain⟨a,zs,rfl,q,t⟩:=e3.at hS r1
 obtain⟨g1,g2⟩:=pZ f1 q2
 obtain⟨g3,g4⟩:=lP f2 t
 subst g1 g3
 refine CI pins s σ H _ _ v us Q I rx rs ⟨a,_,_,lO z,j,rfl,rfl,q,g2,g4,by rw[zx,e4];rfl,e5,fun m u hm e=>?_,hR.now hS h (aO _)⟩
 rw[zx] at e
 cases q2:es[m]? with
 | none=>rw[q2] at e;cases e
 | some u'=>rw[q2] at e;cases e;exact h4 m u' hm q2
def I0:Ek:=fun x ds S R=>∃ z y,x=.str z∧ds=[.str y]∧R (.bl (PySem.Txt.startswith z y)) S
theorem Fj:KO K "str.startswith" I0:=by
 rintro X hK pins s σ H x xs v us Q I rx rs ⟨d,ds,S,R,r1,r2,hS,⟨z,y,e1,e2,h⟩,hR⟩
 subst e1 e2
 obtain⟨w0,rfl,q2⟩:=r2.one
 exact rK pins s σ H _ _ v us Q I rx rs ⟨z,y,r1.str,by rw[q2.str],hR.now hS h (cy _)⟩
def QJ (S:aU) (R:KD):D→Prop
 | .str z=>z.length≤sizeLine∧R (.int z.length) S
 | .tup es=>R (.int es.length) S
 | .kt es=>R (.int es.length) S
 | .kD es=>R (.int es.length) S
 | .ref a=>(∃ es,S a=some (.lst es)∧R (.int es.length) S)∨∃ kvs,S a=some (.du kvs)∧R (.int kvs.length) S
 | _=>False
def VF:List D→aU→KD→Prop:=fun ds S R=>∃ x,ds=[x]∧QJ S R x
theorem cj:ja K (.builtin "len") VF:=by
 rintro X hK hc pins s σ H xs us Q I rx ⟨ds,S,R,r,hS,⟨x,e,h⟩,hR⟩
 subst hK e
 obtain⟨w,rfl,r'⟩:=r.one
 cases x with
 | str z =>
  cases r'.str
  exact i3 pins s σ H _ us Q I rx ⟨_,_,rfl,⟨h.1,rfl⟩,hR.now hS h.2 (aO _)⟩
 | tup es =>
  obtain⟨a,xs,rfl,q,t⟩:=r'.tup
  exact i3 pins s σ H _ us Q I rx ⟨_,_,rfl,.inr ⟨xs,.of q,t.len.symm⟩,hR.now hS h (aO _)⟩
 | kt es =>
  obtain⟨a,xs,rfl,q,t⟩:=r'.kt
  exact i3 pins s σ H _ us Q I rx ⟨_,_,rfl,.inr ⟨xs,.inr q,t.len.symm⟩,hR.now hS h (aO _)⟩
 | kD es =>
  obtain⟨a,xs,rfl,q,t⟩:=r'.kD
  exact i3 pins s σ H _ us Q I rx ⟨_,_,rfl,.inl ⟨xs,q.sq,t.len.symm⟩,hR.now hS h (aO _)⟩
 | ref a =>
  cases r'.ref
  rcases h with ⟨es,e,h⟩ | ⟨kvs,e,h⟩
  ·obtain⟨xs,e1,t⟩:=hS.lst e
   exact i3 pins s σ H _ us Q I rx ⟨_,_,rfl,.inl ⟨xs,.of e1,t.len.symm⟩,hR.now hS h (aO _)⟩
  ·obtain⟨xs,e1,t⟩:=hS.du e
   exact Cv pins s σ H _ us Q I rx ⟨a,xs,rfl,e1,by rw[t.len];exact hR.now hS h (aO _)⟩
 | _=>exact h.elim
def Nc (S:aU):D→Kd→Prop
 | .aw,k=>k=.aw
 | .bl _,k=>k=.bl
 | .int _,k=>k=.int
 | .str _,k=>k=.str
 | .ref a,k=>(k=.lst∧∃ ds,S a=some (.lst ds))∨(k=.du∧∃ ds,S a=some (.du ds))
 | .tup _,k=>k=.tup
 | _,_=>False
theorem QK (h:Nc S d k) (hS:Rs K S H) (r:Rv K H d v):pP H v k:=by
 cases d with
 | aw=>cases h;rw[r.aw];exact .aw
 | bl b=>cases h;rw[r.bl];exact .bl b
 | int b=>cases h;rw[r.int];exact .int b
 | str b=>cases h;rw[r.str];exact .str b
 | tup b=>cases h;obtain⟨a,xs,rfl,q,_⟩:=r.tup;exact .tup q
 | ref a =>
  rw[r.ref]
  rcases h with ⟨rfl,ds,h⟩ | ⟨rfl,ds,h⟩
  ·obtain⟨xs,e,_⟩:=hS.lst h;exact .lst e
  ·obtain⟨xs,e,_⟩:=hS.du h;exact .du e
 | _=>exact h.elim
def VG:List D→aU→KD→Prop:=fun ds S R=>∃ x n k g,ds=[x,.ty n]∧tZ n=some g∧Nc S x k∧R (.bl (g k)) S
theorem RvAll.two (h:RvAll K H [d,e] xs):∃ v u,xs=[v,u]∧Rv K H d v∧Rv K H e u:=by
 obtain⟨y,ys,rfl,h1,h2⟩:=h.cons
 obtain⟨u,rfl,h3⟩:=h2.one
 exact⟨y,u,rfl,h1,h3⟩
theorem cW:ja K (.builtin "isinstance") VG:=by
 rintro X hK hc pins s σ H xs us Q I rx ⟨ds,S,R,r,hS,⟨x,n,k,g,e,h1,h2,h⟩,hR⟩
 subst hK e
 obtain⟨v,u,rfl,r1,r2⟩:=r.two
 rw[r2.ty] at rx
 exact EZ pins s σ H _ us Q I rx ⟨v,n,k,g,rfl,h1,QK h2 hS r1,hR.now hS h (cy _)⟩
def QL:List D→aU→KD→Prop:=fun ds S R=>∃ (x:D) (bs:List Bool),ds=[x]∧n5 S x (bs.map D.bl)∧R (.bl (bs.all id)) S
theorem lQ:ja K (.builtin "all") QL:=by
 rintro X hK hc pins s σ H xs us Q I rx ⟨ds,S,R,r,hS,⟨x,bs,e,h1,h⟩,hR⟩
 subst hK e
 obtain⟨v,rfl,r1⟩:=r.one
 obtain⟨a,zs,rfl,q,t⟩:=h1.at hS r1
 rw[t.bools] at q
 exact rC hc pins s σ H _ us Q I rx ⟨a,bs,rfl,q,hR.now hS h (cy _)⟩
def VH:List D→aU→KD→Prop:=fun ds S R=>∃ (x:D) (bs:List Bool),ds=[x]∧n5 S x (bs.map D.bl)∧R (.bl (bs.any id)) S
theorem QM:ja K (.builtin "any") VH:=by
 rintro X hK hc pins s σ H xs us Q I rx ⟨ds,S,R,r,hS,⟨x,bs,e,h1,h⟩,hR⟩
 subst hK e
 obtain⟨v,rfl,r1⟩:=r.one
 obtain⟨a,zs,rfl,q,t⟩:=h1.at hS r1
 rw[t.bools] at q
 exact rD hc pins s σ H _ us Q I rx ⟨a,bs,rfl,q,hR.now hS h (cy _)⟩
def intD:List D→aU→KD→Prop:=fun ds S R=>(∃ i,ds=[.int i]∧R (.int i) S)∨∃ k,ds=[.bl k]∧R (.int (if k then 1 else 0)) S
theorem KP:ja K (.type "int") intD:=by
 rintro X hK hc pins s σ H xs us Q I rx ⟨ds,S,R,r,hS,h,hR⟩
 rcases h with ⟨i,rfl,h⟩ | ⟨k,rfl,h⟩
 ·obtain⟨v,rfl,r1⟩:=r.one
  exact sH pins s σ H _ us Q I rx (.inl ⟨i,by rw[r1.int],hR.now hS h (aO _)⟩)
 ·obtain⟨v,rfl,r1⟩:=r.one
  exact sH pins s σ H _ us Q I rx (.inr ⟨k,by rw[r1.bl],hR.now hS h (aO _)⟩)
def Nd:List D→aU→KD→Prop:=fun ds S R=>∃ x es,ds=[x]∧(n5 S x es∨x=.tup es)∧R (.tup es) S
theorem uc:ja K (.type "tuple") Nd:=by
 rintro X hK hc pins s σ H xs us Q I rx ⟨ds,S,R,r,hS,⟨x,es,e,h1,h⟩,hR⟩
 subst hK e
 obtain⟨v,rfl,r1⟩:=r.one
 rcases h1 with h1 | rfl
 ·obtain⟨a,zs,rfl,q,t⟩:=h1.at hS r1
  exact kj pins s σ H _ us Q I rx ⟨a,zs,rfl,.inl ⟨q,fun p hp=>hR.Nb hS hp h t⟩⟩
 ·obtain⟨a,zs,rfl,q,t⟩:=r1.tup
  exact kj pins s σ H _ us Q I rx ⟨a,zs,rfl,.inr ⟨.of q,hR.now hS h (i_ q t)⟩⟩
def minD (f:Int→Int→Bool):List D→aU→KD→Prop:=fun ds S R=>∃ i j,ds=[.int i,.int j]∧R (.int (if f j i then j else i)) S
theorem QN:ja K (.builtin "min") (minD fun a b=>decide (a<b)):=by
 rintro X hK hc pins s σ H xs us Q I rx ⟨ds,S,R,r,hS,⟨i,j,e,h⟩,hR⟩
 subst e
 obtain⟨v,u,rfl,r1,r2⟩:=r.two
 refine Cf hc pins s σ H _ us Q I rx ⟨i,j,by rw[r1.int,r2.int],?_⟩
 have:=hR.now hS h (aO _)
 simpa using this
end
abbrev gN:=List D→aU→KD→KX→Prop
def ud (K:PySem.W.Frag) (sp:gN):Sp:=fun vs H Q e=>∃ ds S R Z,RvAll K H ds vs∧Rs K S H∧sp ds S R Z∧Cn K H R Q∧CJ K H Z e
section
variable {K:PySem.W.Frag}{X:Cx}{k:Nat}{f C:Addr}{fd:FuncData}{ps:List Str}{sp:Sp}{oA:List V}{ds:List Value}{x m:Str}{p pos apos:Pos}{e o:Expr}{es:List Expr}{b:Bool}{y:Ev X b}
theorem ue (F:ck X.prog X.w X.K X.mg X.base (hW X.prog X.w) k f fd ps sp) (hr:cI k X.A) (hb:Binds X.K fd ps ds) (hd:Vals oA ds)
  (I:Inv y.cx p2 σ H s) (r:Vals vs us) (h:sp (vs++oA) H Q (y.E σ)):wpAny (model X.prog X.w) X.A (call (.ref f) us) (EP y.cx p2 σ Q) y.xe s:=by
 have r2:Vals (vs++oA) (us++ds):=r.append hd
 have hl:(us++ds).length=ps.length:=by rw[← r2.length];exact F.len _ _ _ _ h
 refine wpAny_call (yK (F.run X.A X.stack s H ⟨us,[]⟩ (us++ds) (vs++oA) Q (y.E σ) hr I.PQ (hb s us I.nS hl) r2 h) fun res s' hq=>?_)
 cases res with
 | error e=>exact y.ok.call p2 σ H s e s' I hq
 | ok fl =>
  cases fl with
  | ret u=>exact I.after hq
  | next=>exact False.elim hq
  | brk=>exact False.elim hq
  | cont=>exact False.elim hq
theorem Fl {t:TA} (F:ck X.prog X.w X.K X.mg X.base (hW X.prog X.w) k f fd ps sp) (hr:cI k X.A) (hg:Gl X x) (hm:X.mg x=some (.ref f)) (hk:keepIn X.K (.ref f)=true) (hb:Binds X.K fd ps ds) (hd:Vals oA ds)
  (ha:PA y.cx (e :: es) t) (pI:(x == ("__debug__" : Str))=false) (he:starEach (e :: es) X.env=(false,eval e X.env) :: starEach es X.env) (gM:(backTo pos (starEach es X.env)).any (·.1)=false) :
  PE y.cx (.Call (.Name x p) (e :: es) [] pos) (fun σ H Q=>t σ H fun vs H1=>sp (vs++oA) H1 Q (y.E σ)):=by
 intro p2 s σ H Q I h
 refine wpAny_Call_Name_kw (pb I hg hm ?_ pI)
 refine callWith_K (h₀:=X.base) I.ok.mod.Ou hk (bf (ha pos p2 s σ H _ I h) fun us s1 ⟨vs,H1,I1,r,q⟩=>⟨I1.nS,?_⟩) he gM
 exact ue F hr hb hd I1 r q
theorem Fm {pl:Sem Bool}{ta:TE}{t:TA} (he:PE y.cx o ta) (c:sI X.K C) (hm:Meth X.K C m f) (F:ck X.prog X.w X.K X.mg X.base (hW X.prog X.w) k f fd ps sp) (hr:cI k X.A) (hb:Binds X.K fd ps ds) (hd:Vals oA ds) (ha:PA y.cx (e :: es) t)
  (xA:starEach (e :: es) X.env=(false,eval e X.env) :: starEach es X.env) (gM:(backTo pos (starEach es X.env)).any (·.1)=false)
  (ht:eval (.Call (.Attribute o m apos) (e :: es) [] pos) X.env=(do
   let ov ← eval o X.env
   standAt apos.atName
   let (f,first) ← holding [ov] (getMethod ov m pl)
   callWith pos f first (backTo pos (starEach (e :: es) X.env)) (backToKw pos (keywordEach [] X.env)))) :
  PE y.cx (.Call (.Attribute o m apos) (e :: es) [] pos) (fun σ H Q=>ta σ H fun x H1=>∃ a dx fs,x=.ref a∧H1 a=some (.ins C dx fs)∧fs.lookup m=none∧t σ H1 fun vs H2=>sp (x :: (vs++oA)) H2 Q (y.E σ)):=by
 intro p2 s σ H Q I h
 refine methodCall_KW (pl:=pl) (bf (he p2 s σ H _ I h) fun u s1 ⟨x,H1,I1,rx,a,dx,fs,ex,ea,l,q⟩=>?_) ht
 subst ex
 obtain rfl:u=Value.ref a:=rx
 refine pG I1 ea c hm l ?_
 refine callWith_K (first:=[.ref a]) (h₀:=X.base) I.ok.mod.Ou hm.kp (bf (ha pos p2 s1 σ H1 _ I1 q) fun us s2 ⟨vs,H2,I2,r,q2⟩=>⟨I2.nS,?_⟩) xA gM
 exact ue (us:=.ref a :: us) (vs:=.ref a :: vs) F hr hb hd I2 (.cons rfl r) q2
theorem CL {pl:Sem Bool}{ta:TE} (he:PE y.cx o ta) (c:sI X.K C) (hm:Meth X.K C m f) (F:ck X.prog X.w X.K X.mg X.base (hW X.prog X.w) k f fd ps sp) (hr:cI k X.A) (hb:Binds X.K fd ps ds) (hd:Vals oA ds)
  (ht:eval (.Call (.Attribute o m apos) [] [] pos) X.env=(do
   let ov ← eval o X.env
   standAt apos.atName
   let (f,first) ← holding [ov] (getMethod ov m pl)
   callWith pos f first (backTo pos (starEach [] X.env)) (backToKw pos (keywordEach [] X.env)))) :
  PE y.cx (.Call (.Attribute o m apos) [] [] pos) (fun σ H Q=>ta σ H fun x H1=>∃ a dx fs,x=.ref a∧H1 a=some (.ins C dx fs)∧fs.lookup m=none∧sp (x :: oA) H1 Q (y.E σ)):=by
 intro p2 s σ H Q I h
 refine methodCall_KW (pl:=pl) (bf (he p2 s σ H _ I h) fun u s1 ⟨x,H1,I1,rx,a,dx,fs,ex,ea,l,q⟩=>?_) ht
 subst ex
 obtain rfl:u=Value.ref a:=rx
 refine pG I1 ea c hm l ?_
 exact PySem.W.callWith_K0 (first:=[.ref a]) I1.nS hm.kp (ue (us:=[.ref a]) (vs:=[.ref a]) F hr hb hd I1 (.cons rfl .nil) q)
theorem CM (M:Mk X.K C f) (F:ck X.prog X.w X.K X.mg X.base (hW X.prog X.w) k f fd ps sp) (hr:cI (k+1) X.A) (hb:Binds X.K fd ps ds) (hd:Vals oA ds)
  (I:Inv y.cx p2 σ H s) (r:Vals vs us)
  (h:∀ x dx,H x=none→H dx=none→dx≠x→sp (.ref x :: (vs++oA)) (upd (upd H dx (.own x)) x (.ins C dx [])) (fun v H2=>v=.aw∧Q (.ref x) H2) (y.E σ)) :
  wpAny (model X.prog X.w) X.A (call (.ref C) us) (EP y.cx p2 σ Q) y.xe s:=by
 have hq:=h (s.heap.objs.size+1) s.heap.objs.size (I.aJ.fresh (yN _)) (I.aJ.fresh (zm _)) (zr (yB _))
 have I2:=Inv.made (C:=C) I
 have r2:Vals (V.ref (s.heap.objs.size+1) :: (vs++oA)) (Value.ref (s.heap.objs.size+1) :: (us++ds)):=.cons rfl (r.append hd)
 have hl:(Value.ref (s.heap.objs.size+1) :: us++ds).length=ps.length:=by
  have e:=r2.length
  rw[F.len _ _ _ _ hq] at e
  exact e.symm
 refine wpAny_call (EF (f:=f) I.nS M.makes M.init (beq_iff_eq.mp M.fn) (yK (F.run _ X.stack _ _ ⟨Value.ref (s.heap.objs.size+1) :: us,[]⟩ (Value.ref (s.heap.objs.size+1) :: (us++ds)) _ _ (y.E σ) (hr.make C us [])
  (I2.PQ.make C us []) (hb _ (Value.ref (s.heap.objs.size+1) :: us) I2.nS hl) r2 hq) fun r s' El=>?_))
 cases r with
 | error e=>exact y.ok.call p2 σ _ _ e s' I2 El
 | ok fl =>
  cases fl with
  | ret u =>
   obtain⟨v,H',I3,rv,ev,q3⟩:=I2.after El
   subst ev
   exact⟨rv,⟨V.ref (s.heap.objs.size+1),H',I3,rfl,q3⟩⟩
  | next=>exact False.elim El
  | brk=>exact False.elim El
  | cont=>exact False.elim El
theorem Fn {t:TA} (M:Mk X.K C f) (F:ck X.prog X.w X.K X.mg X.base (hW X.prog X.w) k f fd ps sp) (hr:cI (k+1) X.A) (hg:Gl X x) (hm:X.mg x=some (.ref C)) (hb:Binds X.K fd ps ds) (hd:Vals oA ds)
  (ha:PA y.cx (e :: es) t) (pI:(x == ("__debug__" : Str))=false) (he:starEach (e :: es) X.env=(false,eval e X.env) :: starEach es X.env) (gM:(backTo pos (starEach es X.env)).any (·.1)=false) :
  PE y.cx (.Call (.Name x p) (e :: es) [] pos) (fun σ H Q=>t σ H fun vs H1=>∀ x dx,H1 x=none→H1 dx=none→dx≠x →
   sp (.ref x :: (vs++oA)) (upd (upd H1 dx (.own x)) x (.ins C dx [])) (fun v H2=>v=.aw∧Q (.ref x) H2) (y.E σ)):=by
 intro p2 s σ H Q I h
 refine wpAny_Call_Name_kw (pb I hg hm ?_ pI)
 refine callWith_K (h₀:=X.base) I.ok.mod.Ou M.kp (bf (ha pos p2 s σ H _ I h) fun us s1 ⟨vs,H1,I1,r,q⟩=>⟨I1.nS,?_⟩) he gM
 exact CM M F hr hb hd I1 r q
end
section
variable {K:PySem.W.Frag}{X:Cx}{k:Nat}{f C:Addr}{fd:FuncData}{ps:List Str}{sp:gN}{vQ:List D}{oA:List V}{ds:List Value}{x m:Str}{p pos apos:Pos}{e o:Expr}{es:List Expr}
structure OJ (K:PySem.W.Frag) (vQ:List D) (oA:List V) (ds:List Value):Prop where
 v:Vals oA ds
 d:∀ H,RvAll K H vQ oA
theorem d0:OJ K [] [] []:=⟨.nil,fun _=>bE⟩
theorem d1:OJ K [.aw] [.aw] [.none]:=⟨.cons rfl .nil,fun _=>aS ic bE⟩
def QO (sp:gN) (vQ:List D) (t:lL):TD:=fun σ S R Z=>t σ S (fun ds S1=>sp (ds++vQ) S1 R Z) Z
theorem cf (F:ck X.prog X.w K X.mg X.base (hW X.prog X.w) k f fd ps (ud K sp)) (hr:cI k X.A) (hm:X.mg x=some (.ref f)) (hk:keepIn K (.ref f)=true) (hb:Binds K fd ps ds) (hd:OJ K vQ oA ds) (ha:DA K X (e :: es) t)
  (hg:Gl X x:=by rfl) (pI:(x == ("__debug__" : Str))=false:=by decide) (he:starEach (e :: es) X.env=(false,eval e X.env) :: starEach es X.env:=by rfl) (gM:(backTo pos (starEach es X.env)).any (·.1)=false:=by rfl) (hK:X.K=K:=by rfl) :
  DE K X (.Call (.Name x p) (e :: es) [] pos) (QO sp vQ t):=by
 subst hK
 exact⟨fun y=>(Fl F hr hg hm hk hb hd.v (ha.of y) pI he gM).mono <| by rintro τ H Q ⟨σ,S,R,Z,aD,hS,q,hR,hZ⟩;exact
  ⟨σ,S,_,Z,aD,hS,q,fun es S1 xs H1 r1 v1 s1 k1=>⟨es++vQ,S1,R,Z,v1.app (hd.d _),s1,r1,hR.kp k1,hZ.kp k1⟩,hZ⟩⟩
def KQ (C:Addr) (m:Str) (sp:gN) (vQ:List D) (ta:TD) (t:lL):TD:=fun σ S R Z=>ta σ S (fun x S1=>∃ a fs,x=.ref a∧S1 a=some (.ins C fs)∧fs.lookup m=none∧t σ S1 (fun ds S2=>sp (x :: (ds++vQ)) S2 R Z) Z) Z
theorem rN (he:DE K X o ta) (c:sI K C) (hm:Meth K C m f) (F:ck X.prog X.w K X.mg X.base (hW X.prog X.w) k f fd ps (ud K sp)) (hr:cI k X.A) (hb:Binds K fd ps ds) (hd:OJ K vQ oA ds) (ha:DA K X (e :: es) t)
  (xA:starEach (e :: es) X.env=(false,eval e X.env) :: starEach es X.env:=by rfl) (gM:(backTo pos (starEach es X.env)).any (·.1)=false:=by rfl)
  (ht:eval (.Call (.Attribute o m apos) (e :: es) [] pos) X.env=(do
   let ov ← eval o X.env
   standAt apos.atName
   let (f,first) ← holding [ov] (getMethod ov m pl)
   callWith pos f first (backTo pos (starEach (e :: es) X.env)) (backToKw pos (keywordEach [] X.env))):=by rfl) (hK:X.K=K:=by rfl) :
  DE K X (.Call (.Attribute o m apos) (e :: es) [] pos) (KQ C m sp vQ ta t):=by
 subst hK
 exact⟨fun y=>(Fm (he.of y) c hm F hr hb hd.v (ha.of y) xA gM ht).mono <| by rintro τ H Q ⟨σ,S,R,Z,aD,hS,q,hR,hZ⟩;exact
  ⟨σ,S,_,Z,aD,hS,q,by
   rintro d S1 x H1 ⟨a,fs,e1,e2,e3,r1⟩ v1 s1 k1
   subst e1
   obtain⟨dx,vs,e4,t4⟩:=s1.ins e2
   exact⟨a,dx,vs,v1.ref,e4,(t4.look m).2 e3,σ,S1,_,Z,aD.ts k1,s1,r1,fun es S2 xs H2 r2 v2 s2 k2=>⟨_,S2,R,Z,aS (Rv.ts k2 _ v1) (v2.app (hd.d _)),s2,r2,hR.kp (k1.trans k2),hZ.kp (k1.trans k2)⟩,hZ.kp k1⟩,hZ⟩⟩
theorem rO (he:DE K X o ta) (c:sI K C) (hm:Meth K C m f) (F:ck X.prog X.w K X.mg X.base (hW X.prog X.w) k f fd ps (ud K sp)) (hr:cI k X.A) (hb:Binds K fd ps ds) (hd:OJ K vQ oA ds)
  (ht:eval (.Call (.Attribute o m apos) [] [] pos) X.env=(do
   let ov ← eval o X.env
   standAt apos.atName
   let (f,first) ← holding [ov] (getMethod ov m pl)
   callWith pos f first (backTo pos (starEach [] X.env)) (backToKw pos (keywordEach [] X.env))):=by rfl) (hK:X.K=K:=by rfl) :
  DE K X (.Call (.Attribute o m apos) [] [] pos) (KQ C m sp vQ ta M_):=by
 subst hK
 exact⟨fun y=>(CL (he.of y) c hm F hr hb hd.v ht).mono <| by rintro τ H Q ⟨σ,S,R,Z,aD,hS,q,hR,hZ⟩;exact
  ⟨σ,S,_,Z,aD,hS,q,by
   rintro d S1 x H1 ⟨a,fs,e1,e2,e3,r1⟩ v1 s1 k1
   subst e1
   obtain⟨dx,vs,e4,t4⟩:=s1.ins e2
   exact⟨a,dx,vs,v1.ref,e4,(t4.look m).2 e3,_,S1,R,Z,aS v1 (hd.d _),s1,r1,hR.kp k1,hZ.kp k1⟩,hZ⟩⟩
def QP (C:Addr) (sp:gN) (vQ:List D) (t:lL):TD:=fun σ S R Z=>t σ S (fun ds S1=>∀ x,S1 x=none→sp (.ref x :: (ds++vQ)) (S1.set x (.ins C [])) (fun d S2=>d=.aw∧R (.ref x) S2) Z) Z
theorem mk (M:Mk K C f) (F:ck X.prog X.w K X.mg X.base (hW X.prog X.w) k f fd ps (ud K sp)) (hr:cI (k+1) X.A) (hm:X.mg x=some (.ref C)) (hb:Binds K fd ps ds) (hd:OJ K vQ oA ds) (ha:DA K X (e :: es) t)
  (hg:Gl X x:=by rfl) (pI:(x == ("__debug__" : Str))=false:=by decide) (he:starEach (e :: es) X.env=(false,eval e X.env) :: starEach es X.env:=by rfl) (gM:(backTo pos (starEach es X.env)).any (·.1)=false:=by rfl) (hK:X.K=K:=by rfl) :
  DE K X (.Call (.Name x p) (e :: es) [] pos) (QP C sp vQ t):=by
 subst hK
 exact⟨fun y=>(Fn M F hr hg hm hb hd.v (ha.of y) pI he gM).mono <| by rintro τ H Q ⟨σ,S,R,Z,aD,hS,q,hR,hZ⟩;exact
  ⟨σ,S,_,Z,aD,hS,q,fun es S1 xs H1 r1 v1 s1 k1 x dx hx XN ne=>by
   have Em:upd H1 dx (.own x) x=none:=by rw[av ne.symm];exact hx
   have k2:Kp X.K H1 (upd (upd H1 dx (.own x)) x (.ins C dx [])):=(Kp.new XN).trans (Kp.new Em)
   exact⟨_,_,_,Z,aS (i9 x) (RvAll.ts k2 _ (v1.app (hd.d _))),(s1.grow XN).new (c:=.ins C []) Em ⟨dx,[],aE,.nil⟩,r1 x (s1.fresh hx),by rintro d S2 v H2 ⟨e,r2⟩ v2 s2 k3;exact by subst e;exact⟨v2.aw,hR _ _ _ _ r2 (i9 x) s2 ((k1.trans k2).trans k3)⟩,(hZ.kp k1).kp k2⟩,hZ⟩⟩
def VI (C:Addr) (f:Str) (ta:TD):TD:=fun σ S R Z=>ta σ S (fun x S1=>∃ a fs d,x=.ref a∧S1 a=some (.ins C fs)∧fs.lookup f=some d∧R d S1) Z
theorem fl {f:Str}{ta:TD} (c:sI K C) (n:i4 K C f) (he:DE K X e ta) (hb:attributeBase e f X.env (eval e X.env)=eval e X.env:=by rfl) (hK:X.K=K:=by rfl):DE K X (.Attribute e f pos) (VI C f ta):=by
 subst hK
 exact⟨fun y=>(Mj (X:=y.cx) (he.of y) hb).mono <| by rintro τ H Q ⟨σ,S,R,Z,aD,hS,q,hR,hZ⟩;exact
  ⟨σ,S,_,Z,aD,hS,q,by
   rintro d S1 x H1 ⟨a,fs,y,e1,e2,e3,r1⟩ v1 s1 k1
   subst e1
   obtain⟨dx,vs,e4,t4⟩:=s1.ins e2
   obtain⟨v,e5,r5⟩:=(t4.look f).1 y e3
   exact⟨a,C,dx,vs,v,v1.ref,e4,c,n,e5,(hR.kp k1).now s1 r1 r5⟩,hZ⟩⟩
end
structure sX where
 nx:SD→aU→Prop
 rt:KD
 bk:SD→aU→Prop:=fun _ _=>False
 ct:SD→aU→Prop:=fun _ _=>False
abbrev n8:=sX→SD→aU→(SD→KX)→Prop
def KR (K:PySem.W.Frag) (H:Hp) (R:SD→aU→Prop) (Q:St→Hp→Prop):Prop:=∀ σ S τ H',R σ S→ig K H' σ τ→Rs K S H'→Kp K H H'→Q τ H'
structure SG (K:PySem.W.Frag) (H:Hp) (De:sX) (Dv:Ends):Prop where
 nx:KR K H De.nx Dv.nx
 rt:Cn K H De.rt Dv.rt
 bk:KR K H De.bk Dv.bk
 ct:KR K H De.ct Dv.ct
def vR (K:PySem.W.Frag) (H:Hp) (Z:SD→KX) (E:St→XK):Prop:=∀ σ τ C S H',Z σ C S→ig K H' σ τ→Rs K S H'→Kp K H H'→E τ (.ref C) none H'
section
variable {K:PySem.W.Frag}{H H1:Hp}{De:sX}{Dv:Ends}{Z:SD→KX}{E:St→XK}{σ:SD}{τ:St}{S:aU}
theorem KR.kp (h:KR K H R Q) (k:Kp K H H1):KR K H1 R Q:=fun σ S τ H' r a b c=>h σ S τ H' r a b (k.trans c)
theorem SG.kp (h:SG K H De Dv) (k:Kp K H H1):SG K H1 De Dv:=⟨h.nx.kp k,h.rt.kp k,h.bk.kp k,h.ct.kp k⟩
theorem vR.kp (h:vR K H Z E) (k:Kp K H H1):vR K H1 Z E:=fun σ τ C S H' r a b c=>h σ τ C S H' r a b (k.trans c)
theorem vR.at (h:vR K H Z E) (r:ig K H σ τ):CJ K H (Z σ) (E τ):=fun C S H' z s k=>h σ τ C S H' z (r.ts k) s k
theorem vR.on (h:vR K H Z E) (k:Kp K H H1) (r:ig K H1 σ τ):CJ K H1 (Z σ) (E τ):=(h.kp k).at r
end
def Tl (K:PySem.W.Frag) (E:St→XK) (t:n8):TS:=fun Dv τ H=>∃ σ S De Z,ig K H σ τ∧Rs K S H∧t De σ S Z∧SG K H De Dv∧vR K H Z E
structure DS (K:PySem.W.Frag) (X:Cx) (b:Bool) (st:Stmt) (t:n8):Prop where
 of:∀ y:Ev X b,PS y.cx st (Tl K y.E t)
structure Fp (K:PySem.W.Frag) (X:Cx) (b:Bool) (st:List Stmt) (t:n8):Prop where
 of:∀ y:Ev X b,A2 y.cx st (Tl K y.E t)
theorem PS.mono (h:PS X e t) (i:∀ D τ H,t' D τ H→t D τ H):PS X e t':=fun pins s τ H D I q=>h pins s τ H D I (i D τ H q)
theorem A2.mono (h:A2 X e t) (i:∀ D τ H,t' D τ H→t D τ H):A2 X e t':=fun pins s τ H D I q=>h pins s τ H D I (i D τ H q)
section
variable {K:PySem.W.Frag}{X:Cx}{b:Bool}{pos:Pos}
def QQ:n8:=fun De σ S _=>De.nx σ S
def VJ (t u:n8):n8:=fun De σ S Z=>t { De with nx:=fun aK S'=>u De aK S' Z } σ S Z
theorem s0:Fp K X b [] QQ:=⟨fun y=>(HM (X:=y.cx)).mono <| by rintro D τ H ⟨σ,S,De,Z,aD,hS,q,hD,hZ⟩;exact hD.nx _ _ _ _ q aD hS (.refl _)⟩
theorem sc {st:Stmt}{r:List Stmt}{t u:n8} (h1:DS K X b st t) (h2:Fp K X b r u):Fp K X b (st :: r) (VJ t u) :=
 ⟨fun y=>(Et (h1.of y) (h2.of y)).mono <| by rintro D τ H ⟨σ,S,De,Z,aD,hS,q,hD,hZ⟩;exact
  ⟨σ,S,_,Z,aD,hS,q,⟨fun vi S1 VL H1 r1 a b c=>⟨vi,S1,De,Z,a,b,r1,hD.kp c,hZ.kp c⟩,hD.rt,hD.bk,hD.ct⟩,hZ⟩⟩
theorem s1 {st:Stmt}{t:n8} (h:DS K X b st t):Fp K X b [st] t:=⟨fun y=>HN (h.of y)⟩
def QR (t:TD):n8:=fun De σ S Z=>t σ S (fun _ S1=>De.nx σ S1) (Z σ)
theorem se (h:DE K X e t) (hs:swapsWith e none pos.line X.env=pure false:=by rfl):DS K X b (.Expr e pos) (QR t) :=
 ⟨fun y=>(HP (X:=y.cx) (h.of y) hs).mono <| by rintro D τ H ⟨σ,S,De,Z,aD,hS,q,hD,hZ⟩;exact⟨σ,S,_,_,aD,hS,q,fun d S1 v H1 r1 _ s1 k1=>hD.nx _ _ _ _ r1 (aD.ts k1) s1 k1,hZ.at aD⟩⟩
def VM (t:TD):n8:=fun De σ S Z=>t σ S De.rt (Z σ)
theorem sr (h:DE K X e t):DS K X b (.Return (some e) pos) (VM t) :=
 ⟨fun y=>(LU (h.of y)).mono <| by rintro D τ H ⟨σ,S,De,Z,aD,hS,q,hD,hZ⟩;exact⟨σ,S,_,_,aD,hS,q,hD.rt,hZ.at aD⟩⟩
def ZD (c:pX) (t u:n8):n8:=fun De σ S Z=>c σ S (fun b S1=>if b=true then t De σ S1 Z else u De σ S1 Z) (Z σ)
theorem si (hc:DT K X c tc) (ha:Fp K X b a t) (hb:Fp K X b a' u):DS K X b (.If c a a' pos) (ZD tc t u) :=
 ⟨fun y=>(Pp (hc.of y) (ha.of y) (hb.of y)).mono <| by rintro D τ H ⟨σ,S,De,Z,aD,hS,q,hD,hZ⟩;exact
  ⟨σ,S,_,_,aD,hS,q,fun c S1 H1 r1 s1 k1=>by
   cases c with
   | true=>rw[if_pos rfl] at r1 ⊢;exact⟨σ,S1,De,Z,aD.ts k1,s1,r1,hD.kp k1,hZ.kp k1⟩
   | false=>rw[if_neg zd] at r1 ⊢;exact⟨σ,S1,De,Z,aD.ts k1,s1,r1,hD.kp k1,hZ.kp k1⟩,hZ.at aD⟩⟩
abbrev Br:=D→SD→aU→(SD→aU→Prop)→Prop
def Tg (K:PySem.W.Frag) (g:Br):TG:=fun v τ H Q=>∃ d σ S R,Rv K H d v∧ig K H σ τ∧Rs K S H∧g d σ S R∧KR K H R Q
structure DG (K:PySem.W.Frag) (X:Cx) (e:Expr) (g:Br):Prop where
 of:∀ Y:Cx,Y.K=X.K→Y.N=X.N→Y.env=X.env→Y.fn=X.fn→Y.calm=X.calm→PG Y e (Tg K g)
theorem PG.mono (h:PG X e t) (i:∀ v τ H Q,t' v τ H Q→t v τ H Q):PG X e t':=fun pins s τ H v u Q I r q=>h pins s τ H v u Q I r (i v τ H Q q)
def SH (i:Nat):Br:=fun d σ S R=>R (σ.set i (some d)) S
theorem gn (hN:X.N.Nodup) (hi:X.N[i]?=some x:=by rfl) (hx:Loc X.env.scope x:=by first | exact Or.inl rfl | exact Or.inr rfl) (hf:X.fn x=true∨X.env.scope.names.lookup x=some .local:=by first | exact .inl rfl | exact .inr rfl):DG K X (.Name x pos) (SH i) :=
 ⟨fun Y _ e2 e3 e4 _=>(pd (X:=Y) (by rw[e2];exact hN) (by rw[e2];exact hi) (by rw[e3];exact hx) (by rw[e3,e4];exact hf)).mono <| by rintro v τ H Q ⟨d,σ,S,R,rv,aD,hS,q,hR⟩;exact hR _ S _ H q (aD.set i rv) hS (.refl _)⟩
abbrev CN:=List D→SD→aU→(SD→aU→Prop)→Prop
def ZE (K:PySem.W.Frag) (g:CN):LV:=fun vs τ H Q=>∃ ds σ S R,RvAll K H ds vs∧ig K H σ τ∧Rs K S H∧g ds σ S R∧KR K H R Q
structure SI (K:PySem.W.Frag) (X:Cx) (es:List Expr) (g:CN):Prop where
 of:∀ Y:Cx,Y.K=X.K→Y.N=X.N→Y.env=X.env→Y.fn=X.fn→Y.calm=X.calm→Km Y es (ZE K g)
theorem Km.mono (h:Km X e t) (i:∀ v τ H Q,t' v τ H Q→t v τ H Q):Km X e t':=fun pins s τ H v u Q I r q=>h pins s τ H v u Q I r (i v τ H Q q)
def KU:CN:=fun ds σ S R=>ds=[]∧R σ S
def yW (g:Br) (u:CN):CN:=fun ds σ S R=>∃ d r,ds=d :: r∧g d σ S fun vi S1=>u r vi S1 R
theorem g0:SI K X [] KU:=⟨fun Y _ _ _ _ _=>(A5 (X:=Y)).mono <| by rintro vs τ H Q ⟨ds,σ,S,R,rv,aD,hS,⟨e,q⟩,hR⟩;exact by subst e;exact⟨rv.nil,hR _ _ _ _ q aD hS (.refl _)⟩⟩
theorem gc (h1:DG K X e g) (h2:SI K X es u) (hs:∀ env:Env,(assignEach (e :: es) env).map (·.2)=assign e env :: (assignEach es env).map (·.2):=by intro _;rfl):SI K X (e :: es) (yW g u) :=
 ⟨fun Y a b c d f=>(pB (h1.of Y a b c d f) (h2.of Y a b c d f) (hs _)).mono <| by
  rintro vs τ H Q ⟨ds,σ,S,R,rv,aD,hS,⟨d,r,e,q⟩,hR⟩
  subst e
  obtain⟨y,ys,e1,r1,r2⟩:=rv.cons
  exact⟨y,ys,e1,d,σ,S,_,r1,aD,hS,q,fun vi S1 VL H1 q1 a b c=>⟨r,vi,S1,R,RvAll.ts c _ r2,a,b,q1,hR.kp c⟩⟩⟩
def KW (n:Nat) (g:CN):Br:=fun d σ S R=>∃ ds,d=.tup ds∧ds.length=n∧g ds σ S R
theorem gt (h:SI K X es g) (hn:∀ env:Env,(assignEach es env).length=n:=by intro _;rfl) (xA:∀ env:Env,(assignEach es env).findIdx? (·.1)=none:=by intro _;rfl) (hK:X.K=K:=by rfl) (hc:X.calm=true:=by rfl):DG K X (.Tuple es j pos) (KW n g) :=
 ⟨fun Y a b c d f=>(Eu (X:=Y) (by rw[f];exact hc) (h.of Y a b c d f) (hn _) (xA _)).mono <| by
  rintro v τ H Q ⟨d,σ,S,R,rv,aD,hS,⟨ds,e,hl,q⟩,hR⟩
  subst e
  obtain⟨p,xs,e1,e2,t⟩:=rv.tup
  exact⟨p,xs,e1,.of e2,by rw[t.len];exact hl,ds,σ,S,R,t,aD,hS,q,hR⟩⟩
def QS (i:Nat) (t:TD):n8:=fun De σ S Z=>t σ S (fun d S1=>De.nx (σ.set i (some d)) S1) (Z σ)
theorem hX (hN:X.N.Nodup) (h:DE K X e t) (hi:X.N[i]?=some x:=by rfl) (hx:Loc X.env.scope x:=by first | exact Or.inl rfl | exact Or.inr rfl) (hs:swapsWith e (some (.Name x pos')) pos.line X.env=pure false:=by rfl)
  (hf:X.fn x=true∨X.env.scope.names.lookup x=some .local:=by first | exact .inl rfl | exact .inr rfl):DS K X b (.Assign [.Name x pos'] e pos) (QS i t) :=
 ⟨fun y=>(L3 (X:=y.cx) (i:=i) hN hi hx (h.of y) hs hf).mono <| by rintro D τ H ⟨σ,S,De,Z,aD,hS,q,hD,hZ⟩;exact⟨σ,S,_,_,aD,hS,q,fun d S1 v H1 r1 v1 s1 k1=>hD.nx _ _ _ _ r1 ((aD.ts k1).set i v1) s1 k1,hZ.at aD⟩⟩
def VN (td ty tv:TD):n8:=fun De σ S Z=>tv σ S (fun v S1=>td σ S1 (fun x S2=>ty σ S2 (fun y S3=>∃ a kvs k,x=.ref a∧S3 a=some (.du kvs)∧yV y=some k∧kvs.length<sizeLine∧De.nx σ (S3.set a (.du (dput kvs k v)))) (Z σ)) (Z σ)) (Z σ)
theorem sd {o i value:Expr}{td ty tv:TD}{pos':Pos} (hu:X.A.units+64<cLine) (ho:DE K X o td) (hi:DE K X i ty) (hv:DE K X value tv) (hs:swapsWith value (some (.Subscript o i pos')) pos.line X.env=pure false:=by rfl):DS K X b (.Assign [.Subscript o i pos'] value pos) (VN td ty tv) :=
 ⟨fun y=>(Io (X:=y.cx) (by show X.A.units+1<cLine;omega) (ho.of y) (hi.of y) (hv.of y) hs).mono <| by rintro D τ H ⟨σ,S,De,Z,aD,hS,q,hD,hZ⟩;exact
  ⟨σ,S,_,_,aD,hS,q,fun v S1 vv H1 r1 v1 s1 k1=>⟨σ,S1,_,_,aD.ts k1,s1,r1,fun x S2 xv H2 r2 v2 s2 k2=>⟨σ,S2,_,_,aD.ts (k1.trans k2),s2,r2,by
   rintro y S3 yv H3 ⟨a,kvs,k,e1,e2,e3,hl,r3⟩ v3 s3 k3
   subst e1
   obtain⟨vs,e4,t⟩:=s3.du e2
   have kk:=s3.ie (o:=.dK (putK vs k vv)) e2
   refine⟨a,_,(Rv.ts k3 _ v2).ref,by rw[mP e3 v3];exact EM.k e4 (by rw[t.len];exact hl),?_⟩
   exact hD.nx _ _ _ _ r3 (aD.ts (((k1.trans k2).trans k3).trans kk)) (s3.put (c:=.du _) e2 ⟨_,aE,(t.put k (Rv.ts (k2.trans k3) _ v1)).ts kk⟩) (((k1.trans k2).trans k3).trans kk),hZ.on (k1.trans k2) (aD.ts (k1.trans k2))⟩,hZ.on k1 (aD.ts k1)⟩,hZ.at aD⟩⟩
end
section
variable {X:Cx}{pins:List (Addr×Obj)}{σ:St}{H:Hp}{s:Shared}{A:Around}{E:Value→Shared→Prop}{a:Addr}{kvs:List (Key×V)}{k:Key}{u:Value}
theorem Nf (I:Inv X pins σ H s) (e:H a=some (.dK kvs)) (ry:RelV (kV k) u) (rz:RelV z r) (hl:kvs.length<sizeLine)
  (h1:∀ v w' s',fX kvs k=some v→Inv X pins σ H s'→RelV v w'→Q w' s') (h2:fX kvs k=none→∀ s',Inv X pins σ (upd H a (.dK (putK kvs k z))) s'→Q r s') :
  wpAny (model X.prog X.w) A (call (.builtin "dict.setdefault") [.ref a,u,r]) Q E s:=by
 obtain⟨zz,hd,vs,rel,dd⟩:=Be I.aJ e
 have hp:=nX kvs k z
 refine call_meetsIn PySem.F.slot_dict_setdefault dd.typeIs PySem.F.entry_dict_setdefault (PySem.F.args_dict_setdefault_3 _ _ _) (PySem.kt_meets_setdefault (aF X.prog X.w) a (kl ry) hd r)
  ⟨vs,dd,by rw[← rel.length];exact zz,fun w' hw=>?_,fun hn h' Kv hs=>?_⟩
 ·cases q:fX kvs k with
  | none =>
   have:=fW.none_of (o:=valueAt vs k) (by rw[← q];exact rel.val k)
   rw[this] at hw;cases hw
  | some v =>
   obtain⟨w2,q_,XO⟩:=fW.some_of (v:=v) (o:=valueAt vs k) (by rw[← q];exact rel.val k)
   rw[q_] at hw;cases hw
   exact h1 v _ _ q (I.tok _) XO
 ·cases q:fX kvs k with
  | some v =>
   obtain⟨w2,q_,XO⟩:=fW.some_of (v:=v) (o:=valueAt vs k) (by rw[← q];exact rel.val k)
   rw[q_] at hn;cases hn
  | none =>
   have he:∃ q,h'.get? a=some q:=by obtain⟨q,_,_,hq,_⟩:=Kv;exact⟨q,hq⟩
   exact h2 q _ (tV I (by rw[e];exact True.intro) hs he (xT (by omega) hd (rel.put k rz) Kv))
end
section
variable {X:Cx}{o e f:Expr}{apos aR:Pos}{td ty tx:TE}
def QT (td ty tx:TE):TE:=fun σ H Q=>td σ H fun x H1=>∃ a,x=.ref a∧Oz H1 a∧ty σ H1 fun y H2=>tx σ H2 fun z H3=>∃ kvs k,H3 a=some (.dK kvs)∧y=kV k∧kvs.length<sizeLine ∧
 (∀ v,fX kvs k=some v→Q v H3)∧(fX kvs k=none→Q z (upd H3 a (.dK (putK kvs k z))))
theorem Fq (ho:PE X o td) (he:PE X e ty) (hf:PE X f tx) (m:M2 X o "setdefault" apos e f aR):PE X (.Call (.Attribute o "setdefault" apos) [e,f] [] aR) (QT td ty tx):=by
 intro pins s σ H Q I h
 refine wpAny_Call_method m.base m.Eh m.line PySem.F.plainAttrs_dict PySem.F.slot_dict_setdefault PySem.F.type_dict_setdefault (bf (ho pins s σ H _ I h) fun u s1 ⟨x,H1,I1,rx,a,ex,d,q1⟩=>?_)
 subst ex
 obtain rfl:u=Value.ref a:=rx
 obtain⟨t1,t2,_⟩:=tW I1 d
 refine⟨t1,t2,?_⟩
 rw[m.trees]
 refine Calls.callWith_builtin rfl (Calls.evalArgs_plain (yw (bf (he pins s1 σ H1 _ I1 q1) fun iv s2 ⟨y,H2,I2,ry,q2⟩ =>
  yw (bf (hf pins s2 σ H2 _ I2 q2) fun fv s3 ⟨z,H3,I3,rz,kvs,k,ea,ey,hl,q3,q4⟩=>Calls.spliced_nil ?_))))
 subst ey
 exact Nf I3 ea ry rz hl (fun v w' s4 l I4 rA=>⟨v,H3,I4,rA,q3 v l⟩) fun l s4 I4=>⟨z,_,I4,rz,q4 l⟩
end
section
variable {K:PySem.W.Frag}{X:Cx}{b:Bool}{o e f:Expr}{apos aR pos:Pos}{td ty tx:TD}
theorem uf (hS:Rs K S H) (e:S a=some (.du kvs)):Oz H a:=by
 obtain⟨vs,e1,_⟩:=hS.du e
 exact .inl ⟨vs,.inl e1⟩
def QU (td ty:TD):TD:=fun σ S R Z=>td σ S (fun x S1=>∃ a kvs,x=.ref a∧S1 a=some (.du kvs)∧ty σ S1 (fun y S2=>∃ kvs k,S2 a=some (.du kvs)∧yV y=some k∧R ((cz kvs k).getD .aw) S2) Z) Z
theorem Fs (hS:Rs K S H) (e:S a=some (.du kvs)) (r:Rv K H d v):∃ o,oB H a (kV k) o∧Rv K H ((cz kvs k).getD d) (o.getD v):=by
 obtain⟨o,g,h1,h2⟩:=ub (k:=k) hS e
 refine⟨o,g,?_⟩
 cases q:cz kvs k with
 | none =>
  rw[q] at h1
  cases o with
  | none=>exact r
  | some _=>cases h1
 | some d' =>
  obtain⟨v',rfl,r'⟩:=h2 d' q
  exact r'
theorem ZF (hu:X.A.units+64<cLine) (ho:DE K X o td) (he:DE K X e ty) (m:M1 X o "get" apos e aR:=by exact⟨rfl,rfl,rfl,rfl⟩):DE K X (.Call (.Attribute o "get" apos) [e] [] aR) (QU td ty) :=
 ⟨fun y=>(ER (X:=y.cx) (by show X.A.units+1<cLine;omega) (ho.of y) (he.of y) ⟨m.base,m.Eh,m.line,m.trees⟩).mono <| by rintro τ H Q ⟨σ,S,R,Z,aD,hS,q,hR,hZ⟩;exact
  ⟨σ,S,_,Z,aD,hS,q,by
   rintro x S1 xv H1 ⟨a,kvs,e1,e2,r1⟩ v1 s1 k1
   subst e1
   exact⟨a,v1.ref,uf s1 e2,σ,S1,_,Z,aD.ts k1,s1,r1,by
    rintro y S2 yv H2 ⟨kvs,k,e3,e4,r2⟩ v2 s2 k2
    obtain⟨o,g,r⟩:=Fs (k:=k) s2 e3 ic
    exact⟨o,by rw[mP e4 v2];exact g,(hR.kp (k1.trans k2)).now s2 r2 r⟩,hZ.kp k1⟩,hZ⟩⟩
def QV (td ty tx:TD):TD:=fun σ S R Z=>td σ S (fun x S1=>∃ a kvs,x=.ref a∧S1 a=some (.du kvs)∧ty σ S1 (fun y S2=>tx σ S2 (fun z S3=>∃ kvs k,S3 a=some (.du kvs)∧yV y=some k∧R ((cz kvs k).getD z) S3) Z) Z) Z
theorem ZG (hu:X.A.units+64<cLine) (ho:DE K X o td) (he:DE K X e ty) (hf:DE K X f tx) (m:M2 X o "get" apos e f aR:=by exact⟨rfl,rfl,rfl,rfl⟩):DE K X (.Call (.Attribute o "get" apos) [e,f] [] aR) (QV td ty tx) :=
 ⟨fun y=>(ES (X:=y.cx) (by show X.A.units+1<cLine;omega) (ho.of y) (he.of y) (hf.of y) ⟨m.base,m.Eh,m.line,m.trees⟩).mono <| by rintro τ H Q ⟨σ,S,R,Z,aD,hS,q,hR,hZ⟩;exact
  ⟨σ,S,_,Z,aD,hS,q,by
   rintro x S1 xv H1 ⟨a,kvs,e1,e2,r1⟩ v1 s1 k1
   subst e1
   exact⟨a,v1.ref,uf s1 e2,σ,S1,_,Z,aD.ts k1,s1,r1,fun y S2 yv H2 r2 v2 s2 k2=>⟨σ,S2,_,Z,aD.ts (k1.trans k2),s2,r2,by
    rintro z S3 zv H3 ⟨kvs,k,e3,e4,r3⟩ v3 s3 k3
    obtain⟨o,g,r⟩:=Fs (k:=k) s3 e3 v3
    exact⟨o,by rw[mP e4 v2];exact g,(hR.kp ((k1.trans k2).trans k3)).now s3 r3 r⟩,hZ.kp (k1.trans k2)⟩,hZ.kp k1⟩,hZ⟩⟩
def QW (td ty:TD):TD:=fun σ S R Z=>td σ S (fun x S1=>∃ a kvs,x=.ref a∧S1 a=some (.du kvs)∧ty σ S1 (fun y S2=>∃ kvs k d,S2 a=some (.du kvs)∧yV y=some k∧cz kvs k=some d∧R d (S2.set a (.du (vP kvs k)))) Z) Z
theorem ZH (ho:DE K X o td) (he:DE K X e ty) (m:M1 X o "pop" apos e aR:=by exact⟨rfl,rfl,rfl,rfl⟩):DE K X (.Call (.Attribute o "pop" apos) [e] [] aR) (QW td ty) :=
 ⟨fun y=>(ET (X:=y.cx) (ho.of y) (he.of y) ⟨m.base,m.Eh,m.line,m.trees⟩).mono <| by rintro τ H Q ⟨σ,S,R,Z,aD,hS,q,hR,hZ⟩;exact
  ⟨σ,S,_,Z,aD,hS,q,by
   rintro x S1 xv H1 ⟨a,kvs,e1,e2,r1⟩ v1 s1 k1
   subst e1
   exact⟨a,v1.ref,uf s1 e2,σ,S1,_,Z,aD.ts k1,s1,r1,by
    rintro y S2 yv H2 ⟨kvs,k,d,e3,e4,e5,r2⟩ v2 s2 k2
    obtain⟨vs,e6,t⟩:=s2.du e3
    obtain⟨v,e7,r7⟩:=(t.val k).1 d e5
    have kk:=s2.ie (o:=.dK (nW vs k)) e3
    exact⟨vs,k,v,e6,mP e4 v2,e7,hR _ _ _ _ r2 (Rv.ts kk _ r7) (s2.put (c:=.du _) e3 ⟨_,aE,(t.drop k).ts kk⟩) ((k1.trans k2).trans kk)⟩,hZ.kp k1⟩,hZ⟩⟩
def QX (td ty tx:TD):TD:=fun σ S R Z=>td σ S (fun x S1=>∃ a kvs,x=.ref a∧S1 a=some (.du kvs)∧ty σ S1 (fun y S2=>tx σ S2 (fun z S3=>∃ kvs k,S3 a=some (.du kvs)∧yV y=some k∧kvs.length<sizeLine ∧
 (∀ d,cz kvs k=some d→R d S3)∧(cz kvs k=none→R z (S3.set a (.du (dput kvs k z))))) Z) Z) Z
theorem ZI (ho:DE K X o td) (he:DE K X e ty) (hf:DE K X f tx) (m:M2 X o "setdefault" apos e f aR:=by exact⟨rfl,rfl,rfl,rfl⟩):DE K X (.Call (.Attribute o "setdefault" apos) [e,f] [] aR) (QX td ty tx) :=
 ⟨fun y=>(Fq (X:=y.cx) (ho.of y) (he.of y) (hf.of y) ⟨m.base,m.Eh,m.line,m.trees⟩).mono <| by rintro τ H Q ⟨σ,S,R,Z,aD,hS,q,hR,hZ⟩;exact
  ⟨σ,S,_,Z,aD,hS,q,by
   rintro x S1 xv H1 ⟨a,kvs,e1,e2,r1⟩ v1 s1 k1
   subst e1
   exact⟨a,v1.ref,uf s1 e2,σ,S1,_,Z,aD.ts k1,s1,r1,fun y S2 yv H2 r2 v2 s2 k2=>⟨σ,S2,_,Z,aD.ts (k1.trans k2),s2,r2,by
    rintro z S3 zv H3 ⟨kvs,k,e3,e4,hl,r3,r4⟩ v3 s3 k3
    obtain⟨vs,e6,t⟩:=s3.du e3
    have kk:=s3.ie (o:=.dK (putK vs k zv)) e3
    have XQ:=hR.kp ((k1.trans k2).trans k3)
    refine⟨vs,k,e6,mP e4 (Rv.ts k3 _ v2),by rw[t.len];exact hl,fun v hv=>?_,fun hn=>?_⟩
    ·cases q:cz kvs k with
     | none=>rw[(t.val k).2 q] at hv;cases hv
     | some d =>
      obtain⟨v',e7,r7⟩:=(t.val k).1 d q
      rw[e7] at hv;cases hv
      exact XQ.now s3 (r3 d q) r7
    ·cases q:cz kvs k with
     | some d=>obtain⟨v',e7,r7⟩:=(t.val k).1 d q;rw[e7] at hn;cases hn
     | none=>exact XQ _ _ _ _ (r4 q) (Rv.ts kk _ v3) (s3.put (c:=.du _) e3 ⟨_,aE,(t.put k v3).ts kk⟩) kk,hZ.kp (k1.trans k2)⟩,hZ.kp k1⟩,hZ⟩⟩
def yX (f:Str) (d:D):List (Str×D)→List (Str×D)
 | []=>[(f,d)]
 | (g,x) :: r=>if g=f then (g,d) :: r else (g,x) :: yX f d r
theorem bU.yX {H:Hp}{f:Str}{d:D}{v:V} (rd:Rv K H d v):∀ {ks:List (Str×D)}{vs:List (Str×V)},bU K H ks vs→bU K H (yX f d ks) (putF f v vs)
 | _,_,.nil=>.cons ⟨rfl,rd⟩ .nil
 | (g,x) :: r,(g',y) :: r',.cons h t=>by
  obtain⟨e,h⟩:=h
  dsimp only at e
  subst e
  show bU K H (if g=f then (g,d) :: r else (g,x) :: L2.yX f d r) (if g=f then (g,v) :: r' else (g,y) :: putF f v r')
  by_cases q:g=f
  ·rw[if_pos q,if_pos q];exact .cons ⟨rfl,rd⟩ t
  ·rw[if_neg q,if_neg q];exact .cons ⟨rfl,h⟩ (bU.yX rd t)
def QY (C:Addr) (f:Str) (ta tv:TD):n8:=fun De σ S Z=>tv σ S (fun y S1=>ta σ S1 (fun x S2=>∃ a fs,x=.ref a∧S2 a=some (.ins C fs)∧fs.length<1000∧De.nx σ (S2.set a (.ins C (yX f y fs)))) (Z σ)) (Z σ)
theorem sf {C:Addr}{f:Str}{value:Expr}{ta tv:TD}{pos':Pos} (c:sI K C) (n:i4 K C f) (ha:DE K X o ta) (hv:DE K X value tv) (hs:swapsWith value (some (.Attribute o f pos')) pos.line X.env=pure false:=by rfl) (hK:X.K=K:=by rfl) :
  DS K X b (.Assign [.Attribute o f pos'] value pos) (QY C f ta tv):=by
 subst hK
 exact⟨fun y=>(Ml (X:=y.cx) (ha.of y) (hv.of y) hs).mono <| by rintro D τ H ⟨σ,S,De,Z,aD,hS,q,hD,hZ⟩;exact
  ⟨σ,S,_,_,aD,hS,q,fun y S1 yv H1 r1 v1 s1 k1=>⟨σ,S1,_,_,aD.ts k1,s1,r1,by
   rintro x S2 xv H2 ⟨a,fs,e1,e2,hl,r2⟩ v2 s2 k2
   subst e1
   obtain⟨dx,vs,e4,t4⟩:=s2.ins e2
   have kk:=s2.ie (o:=.ins C dx (putF f yv vs)) e2
   exact⟨a,C,dx,vs,v2.ref,e4,c,n,by rw[t4.len];exact hl,hD.nx _ _ _ _ r2 (aD.ts ((k1.trans k2).trans kk)) (s2.put (c:=.ins C _) e2 ⟨dx,_,aE,(bU.yX (Rv.ts k2 _ v1) t4).ts kk⟩) ((k1.trans k2).trans kk)⟩,hZ.on k1 (aD.ts k1)⟩,hZ.at aD⟩⟩
def Ng (C:Addr) (t:lL):n8:=fun _ σ S Z=>t σ S (fun ds S1=>ds.length≤sizeLine∧Z σ C S1) (Z σ)
end
section
variable {K:PySem.W.Frag}{X:Cx}{C:Addr}{x:Str}{e:Expr}{es:List Expr}{np aR pos:Pos}
theorem CO {t:TA}{y:Ev X true} (hc:X.calm=true) (c:XC X.K C) (hg:Gl X x) (hm:X.mg x=some (.ref C)) (ha:PA y.cx (e :: es) t) (pI:(x == ("__debug__" : Str))=false)
  (he:starEach (e :: es) X.env=(false,eval e X.env) :: starEach es X.env) (gM:(backTo aR (starEach es X.env)).any (·.1)=false) :
  PS y.cx (.Raise (some (.Call (.Name x np) (e :: es) [] aR)) none pos) (fun _ σ H=>t σ H fun vs H1=>vs.length≤sizeLine∧y.E σ (.ref C) none H1):=by
 intro pins s σ H D I h
 obtain⟨bm,N,nm,q,bs,hdct,sn,sub,ab,col,dd,k0,k1,k2,k3,k5,mN,hC,hN,Sz,T⟩:=c.at I.mod.Ou
 have lI:bm.contains (.type "BaseException")=true:=T.hasType (by decide)
 refine wpAny_Raise_call_subT (C:=C) (nm:=nm) (q:=q) (N:=N) (bs:=bs) (bm:=bm) (hdct:=hdct) (sn:=sn) (sub:=sub) (ab:=ab) (col:=col) (dd:=dd) (k0:=k0) (k1:=k1) (k2:=k2) (k3:=k3) (k5:=k5) PySem.F.excBase_ValueError (mN:=mN)
  lI (I.ok.hd hc) (by show ((backTo aR (starEach (e :: es) X.env)).any (·.1))=false;rw[he];show (false || (backTo aR (starEach es X.env)).any (·.1))=false;rw[gM];rfl) Sz (pb I hg hm ⟨rfl,?_⟩ pI)
 have h1:=ha aR pins s σ H _ I h
 have VO:starEach (e :: es) y.cx.env=(false,eval e X.env) :: starEach es X.env:=he
 rw[VO] at h1 ⊢
 exact Calls.evalArgs_plain (bf h1 <| by rintro us s2 ⟨vs,H2,I2,r,z,q2⟩;exact⟨rfl,by show us.length≤sizeLine;rw[← r.length];exact z,I2.bk _ _ hC,hN.keeps I2.bk,T.keeps I2.bk,fun h' a hx=>y.ok.own rfl pins σ H2 s2 h' a _ _ I2 hx q2⟩)
theorem ug {t:lL} (c:XC K C) (hm:X.mg x=some (.ref C)) (ha:DA K X (e :: es) t) (hg:Gl X x:=by rfl) (pI:(x == ("__debug__" : Str))=false:=by decide)
  (he:starEach (e :: es) X.env=(false,eval e X.env) :: starEach es X.env:=by rfl) (gM:(backTo aR (starEach es X.env)).any (·.1)=false:=by rfl) (hc:X.calm=true:=by rfl) (hK:X.K=K:=by rfl) :
  DS K X true (.Raise (some (.Call (.Name x np) (e :: es) [] aR)) none pos) (Ng C t):=by
 subst hK
 exact⟨fun y=>(CO (y:=y) hc c hg hm (ha.of y) pI he gM).mono <| by rintro D τ H ⟨σ,S,De,Z,aD,hS,q,hD,hZ⟩;exact
  ⟨σ,S,_,_,aD,hS,q,by rintro ds S1 vs H1 ⟨hl,r1⟩ v1 s1 k1;exact⟨by rw[v1.len];exact hl,hZ.at aD C S1 H1 r1 s1 k1⟩,hZ.at aD⟩⟩
end
structure Ft where
 xs:List D
 ok:aU→Prop
def QZ (K:PySem.W.Frag) (H0:Hp) (J:It) (I:Ft):Prop:=∀ i S H,Kp K H0 H→Rs K S H→I.ok S→(∀ d,I.xs[i]?=some d→J.go i H∧∀ x H',J.Pr i H x H'→Rv K H' d x∧Kp K H H'∧Rs K S H')∧(I.xs.length≤i→J.stop i H)
abbrev yY:=SD→aU→(Ft→aU→Prop)→KX→Prop
def Ti (K:PySem.W.Frag) (E:St→XK) (t:yY):TI:=fun τ H R=>∃ σ S RI Z,ig K H σ τ∧Rs K S H∧t σ S RI Z∧(∀ I S' J H',RI I S'→QZ K H' J I→Rs K S' H'→Kp K H H'→R J H')∧CJ K H Z (E τ)
structure DI (K:PySem.W.Frag) (X:Cx) (tg it:Expr) (t:yY):Prop where
 of:∀ {b:Bool} (y:Ev X b),PI y.cx tg it (Ti K y.E t)
theorem PI.mono (h:PI X tg it t) (i:∀ τ H R,t' τ H R→t τ H R):PI X tg it t':=fun pins s τ H R I q=>h pins s τ H R I (i τ H R q)
section
variable {K:PySem.W.Frag}{X:Cx}{tg l:Expr}
def VP (t:TD):yY:=fun σ S R Z=>t σ S (fun x S1=>∃ ds,n5 S1 x ds∧R ⟨ds,fun S=>n5 S x ds⟩ S1) Z
theorem il {t:TD} (h:DE K X l t) (hK:X.K=K:=by rfl):DI K X tg l (VP t):=by
 subst hK
 exact⟨fun y=>(HS (X:=y.cx) (h.of y)).mono fun τ H R ⟨σ,S,RI,Z,aD,hS,q,hR,hZ⟩=>⟨σ,S,_,Z,aD,hS,q,fun x S1 v H1 ⟨ds,h1,r1⟩ v1 s1 k1=>by
  obtain⟨a,xs,rfl,hq,t⟩:=h1.at s1 v1
  refine⟨a,rfl,⟨xs,hq⟩,hR _ S1 _ H1 r1 (fun i S2 H2 k2 s2 Nh=>?_) s1 k1⟩
  obtain⟨a',Ni,e',El,t'⟩:=n5.at Nh s2 (Rv.ts k2 _ v1)
  cases e'
  refine⟨fun d hd=>?_,fun hl=>⟨Ni,El,by rw[t'.len];exact hl⟩⟩
  obtain⟨v,e1,r⟩:=t'.get hd
  refine⟨⟨Ni,v,El,e1⟩,fun x' H' ⟨e2,e3⟩=>?_⟩
  subst e2
  have:=e3 Ni El
  rw[e1] at this;cases this
  exact⟨r,.refl _,s2⟩,hZ⟩⟩
def Q0 (t:TD):yY:=fun σ S R Z=>t σ S (fun x S1=>∃ ds,(x=.tup ds∨x=.kt ds)∧R ⟨ds,fun _=>True⟩ S1) Z
theorem Nj {H:Hp}{x:D}{ds:List D}{v:V} (h:x=.tup ds∨x=.kt ds) (r:Rv K H x v):∃ a xs,v=.ref a∧(∀ H',Kp K H H'→iU K H' a xs)∧RvAll K H ds xs:=by
 rcases h with rfl | rfl
 ·obtain⟨a,xs,rfl,q,t⟩:=r.tup
  exact⟨a,xs,rfl,fun H' k=>.of (k.t _ _ q),t⟩
 ·obtain⟨a,xs,rfl,q,t⟩:=r.kt
  exact⟨a,xs,rfl,fun H' k=>.inr q,t⟩
theorem I9 {t:TD} (h:DE K X l t) (hK:X.K=K:=by rfl):DI K X tg l (Q0 t):=by
 subst hK
 exact⟨fun y=>(L7 (X:=y.cx) (h.of y)).mono fun τ H R ⟨σ,S,RI,Z,aD,hS,q,hR,hZ⟩=>⟨σ,S,_,Z,aD,hS,q,fun x S1 v H1 ⟨ds,h1,r1⟩ v1 s1 k1=>by
  obtain⟨a,xs,rfl,hq,t⟩:=Nj h1 v1
  refine⟨a,rfl,⟨xs,hq _ (.refl _)⟩,hR _ S1 _ H1 r1 (fun i S2 H2 k2 s2 _=>?_) s1 k1⟩
  have OL:=hq H2 k2
  refine⟨fun d hd=>?_,fun hl=>⟨xs,OL,by rw[t.len];exact hl⟩⟩
  obtain⟨v,e1,r⟩:=(RvAll.ts k2 _ t).get hd
  refine⟨⟨xs,v,OL,e1⟩,fun x' H' ⟨e2,e3⟩=>?_⟩
  subst e2
  have:=e3 xs OL
  rw[e1] at this;cases this
  exact⟨r,.refl _,s2⟩,hZ⟩⟩
def CP (lo:Int) (n:Nat):List D:=(List.range n).map fun i=>D.int (lo+(i:Nat))
theorem p5 {lo:Int}{n:Nat} : (CP lo n).length=n:=by unfold CP;rw[zc,List.length_range]
theorem p6 {lo:Int}{n i:Nat}{d:D} (h:(CP lo n)[i]?=some d):i<n∧d=.int (lo+i):=by
 unfold CP at h
 rw[zx] at h
 by_cases q:i<n
 ·rw[List.getElem?_range q] at h;exact⟨q,(zO h).symm⟩
 ·rw[List.getElem?_eq_none (by rw[List.length_range];omega)] at h;cases h
theorem Nk {H0:Hp}{lo:Int}{n:Nat} : QZ K H0 (Sl lo n) ⟨CP lo n,fun _=>True⟩:=fun i S H k s _=>⟨fun d hd=>by
 obtain⟨h1,rfl⟩:=p6 hd
 exact⟨h1,by rintro x H' ⟨e1,e2⟩;exact by subst e1 e2;exact⟨aO _,.refl _,s⟩⟩,fun hl=>by rw[p5] at hl;exact hl⟩
def VQ (t:lL):yY:=fun σ S R Z=>t σ S (fun ds S1=>∃ j:Int,ds=[.int j]∧-(2 ^ 62)≤j∧j<2 ^ 62∧R ⟨CP 0 j.toNat,fun _=>True⟩ S1) Z
theorem VR (hm:X.mg "range" = none) (ha:DA K X [a] t) (hg:Gl X "range" := by rfl) (hs:starEach [a] X.env=[(false,eval a X.env)]:=by rfl):DI K X tg (.Call (.Name "range" p) [a] [] pos) (VQ t) :=
 ⟨fun y=>(B_ (X:=y.cx) hg hm (ha.of y) hs).mono <| by rintro τ H R ⟨σ,S,RI,Z,aD,hS,q,hR,hZ⟩;exact⟨σ,S,_,Z,aD,hS,q,by
  rintro ds S1 vs H1 ⟨j,e,h1,h2,r1⟩ v1 s1 k1
  subst e
  obtain⟨v,rfl,r⟩:=v1.one
  exact⟨j,by rw[r.int],h1,h2,hR _ S1 _ H1 r1 Nk s1 k1⟩,hZ⟩⟩
end
section
variable {K:PySem.W.Frag}{X:Cx}{tg iter:Expr}{pos:Pos}
def VS (ti:yY) (g:Br) (tb:n8):n8:=fun De σ S Z=>ti σ S (fun I S1=>∃ P:Nat→SD→aU→Prop,P 0 σ S1∧(∀ i σ S,P i σ S→I.ok S) ∧
 (∀ i d σ S,I.xs[i]?=some d→P i σ S→g d σ S fun pe S2=>tb { De with nx:=P (i+1),ct:=P (i+1),bk:=De.nx } pe S2 Z)∧∀ σ S,P I.xs.length σ S→De.nx σ S) (Z σ)
theorem HB (hi:DI K X tg iter ti) (hg:DG K X tg g) (hb:Fp K X true body tb) (hs:∀ x,foldedSetIterable iter X.env x=pure x:=by intro _;rfl) (hc:X.calm=true:=by rfl):DS K X true (.For tg iter body [] pos) (VS ti g tb) :=
 ⟨fun y=>(L8 (X:=y.cx) (y.ok.loop rfl) hc (hi.of y) (hg.of _ rfl rfl rfl rfl rfl) (hb.of y) hs).mono <| by rintro D τ H ⟨σ,S,De,Z,aD,hS,q,hD,hZ⟩;exact
  ⟨σ,S,_,_,aD,hS,q,by
   rintro I S1 J H1 ⟨P,p0,VT,VU,pend⟩ hJ s1 k1
   refine⟨fun i m τ H=>m=I.xs.length - i∧i≤I.xs.length∧∃ σ S,ig K H σ τ∧Rs K S H∧P i σ S∧Kp K H1 H,⟨_,rfl,yj _,σ,S1,aD.ts k1,s1,p0,.refl _⟩,?_⟩
   rintro i m τ2 H2 ⟨rfl,VV,pe,S2,a2,s2,p2,k2⟩
   have ok:=hJ i S2 H2 k2 s2 (VT _ _ _ p2)
   by_cases fz:i<I.xs.length
   ·obtain⟨go,yl⟩:=ok.1 _ (zh fz)
    refine .inr ⟨go,fun OH H'=>i+1≤I.xs.length∧∃ σ S,ig K H' σ OH∧Rs K S H'∧P (i+1) σ S∧Kp K H1 H',fun aK H' h'=>⟨_,by omega,rfl,h'⟩,fun x H' hy=>?_⟩
    obtain⟨rx,k3,s3⟩:=yl x H' hy
    refine⟨_,pe,S2,_,rx,a2.ts k3,s3,VU i _ pe S2 (zh fz) p2,fun SJ S4 ZJ H4 r4 a4 s4 k4=>?_⟩
    have kk:=(k2.trans k3).trans k4
    exact⟨SJ,S4,_,Z,a4,s4,r4,⟨fun Nl S5 VW H5 r5 a5 s5 k5=>⟨fz,Nl,S5,a5,s5,r5,kk.trans k5⟩,hD.rt.kp (k1.trans kk),(hD.nx.kp (k1.trans kk)),fun Nl S5 VW H5 r5 a5 s5 k5=>⟨fz,Nl,S5,a5,s5,r5,kk.trans k5⟩⟩,hZ.kp (k1.trans kk)⟩
   ·have e:i=I.xs.length:=by omega
    subst e
    exact .inl ⟨ok.2 (zm _),hD.nx _ _ _ _ (pend _ _ p2) a2 s2 (k1.trans k2)⟩,hZ.at aD⟩⟩
end
def n_ (σ:SD) (src:List (Option Nat)):SD:=src.map fun o=>match o with | some j=>(σ[j]?).join | none=>none
theorem ig.pick {K:PySem.W.Frag}{H:Hp}{σ:SD}{τ:St} (h:ig K H σ τ):∀ src:List (Option Nat),ig K H (n_ σ src) (pick τ src)
 | []=>.nil
 | o :: r=>.cons (fun d e=>by
  cases o with
  | none=>cases e
  | some j =>
   dsimp only at e ⊢
   cases q:σ[j]? with
   | none=>rw[q] at e;cases e
   | some o' =>
    rw[q] at e
    obtain rfl:o'=some d:=e
    obtain⟨v,e1,r1⟩:=h.get q
    exact⟨v,by rw[e1];rfl,r1⟩) (ig.pick h r)
def Zf:KX:=fun _ _=>False
def Bs (σ:SD) (src:List (Option Nat)) (g:Br) (tc:pX) (te:TD) (R:KD) (I:Ft) (S1:aU):Prop:=∃ P:Nat→List D→aU→Prop,P 0 [] S1∧(∀ i out S,P i out S→I.ok S) ∧
 (∀ i d out S,I.xs[i]?=some d→P i out S→out.length<sizeLine∧g d (n_ σ src) S fun iV S3=>tc iV S3 (fun b S4=>if b=true then te iV S4 (fun v S5=>P (i+1) (out++[v]) S5) Zf else P (i+1) out S4) Zf) ∧
 ∀ out S2,P I.xs.length out S2→∀ p,S2 p=none→R (.ref p) (S2.set p (.lst out))
def Bt (ti:yY) (src:List (Option Nat)) (g:Br) (tc:pX) (te:TD):TD:=fun σ S R Z=>ti σ S (fun I S1=>Bs σ src g tc te R I S1) Z
theorem CJ.f {K:PySem.W.Frag}{H:Hp}{e:XK} : CJ K H Zf e:=fun _ _ _ z=>z.elim
theorem T.comp {K:PySem.W.Frag}{E E':St→XK}{ti:yY}{src:List (Option Nat)}{g:TG}{gd:Br}{tc:pX}{te:TD}{τ:St}{H:Hp}{Q:VK} (hg:∀ v τ H Q,Tg K gd v τ H Q→g v τ H Q)
  (h:T K E (Bt ti src gd tc te) τ H Q):EV (Ti K E ti) src g (Tt K E' tc) (T K E' te) τ H Q:=by
 obtain⟨σ,S,R,Z,aD,hS,q,hR,hZ⟩:=h
 refine⟨σ,S,_,Z,aD,hS,q,fun I S1 J H1 ⟨P,p0,VT,VU,pend⟩ hJ s1 k1=>?_,hZ⟩
 refine⟨fun i m out H=>m=I.xs.length - i∧i≤I.xs.length∧∃ ds S,RvAll K H ds out∧Rs K S H∧P i ds S∧Kp K H1 H,⟨_,rfl,yj _,[],S1,bE,s1,p0,.refl _⟩,?_⟩
 rintro i m out H2 ⟨rfl,VV,ds,S2,v2,s2,p2,k2⟩
 have ok:=hJ i S2 H2 k2 s2 (VT _ _ _ p2)
 by_cases fz:i<I.xs.length
 ·obtain⟨go,yl⟩:=ok.1 _ (zh fz)
  obtain⟨hz,st⟩:=VU i _ ds S2 (zh fz) p2
  refine .inr ⟨go,by rw[v2.len];exact hz,fun x H' hy=>?_⟩
  obtain⟨rx,k3,s3⟩:=yl x H' hy
  refine hg _ _ _ _ ⟨_,_,S2,_,rx,(((aD.ts k1).ts k2).ts k3).pick src,s3,st,fun SJ S4 ZJ H4 r4 a4 s4 k4=>?_⟩
  refine⟨SJ,S4,_,Zf,a4,s4,r4,fun c S5 H5 r5 s5 k5=>?_,.f⟩
  cases c with
  | true =>
   rw[if_pos rfl] at r5 ⊢
   exact⟨SJ,S5,_,Zf,a4.ts k5,s5,r5,fun d S6 v H6 r6 v6 s6 k6=>⟨_,by omega,rfl,fz,ds++[d],S6,(RvAll.ts (((k3.trans k4).trans k5).trans k6) _ v2).app (aS v6 bE),s6,r6,(((k2.trans k3).trans k4).trans k5).trans k6⟩,.f⟩
  | false =>
   rw[if_neg zd] at r5 ⊢
   exact⟨_,by omega,rfl,fz,ds,S5,RvAll.ts ((k3.trans k4).trans k5) _ v2,s5,r5,((k2.trans k3).trans k4).trans k5⟩
 ·have e:i=I.xs.length:=by omega
  subst e
  exact .inl ⟨ok.2 (zm _),fun p hp=>(hR.kp (k1.trans k2)).new s2 hp (pend _ _ p2 p) v2⟩
def Ev.none (X:Cx) (h:X.xe=fun _ _=>False):Ev X false:=⟨X.pn,X.xe,fun _=>E0,⟨by rintro p2 τ H s e s' _ ⟨_,_,_,_,_,_,_,_,_,z⟩;exact z.elim,fun e=>(by cases e),fun e=>(by cases e)⟩⟩
section
variable {K:PySem.W.Frag}{X:Cx}{b:Bool}{N:List Str}{src:List (Option Nat)}{scope:Scope}{tg iter elt:Expr}{ifs:List Expr}{pos:Pos}{ti:yY}{g:TG}{gd:Br}{tc:pX}{te:TD}
structure SK (K:PySem.W.Frag) (X:Cx) (ifs:List Expr) (t:pX):Prop where
 of:∀ {b:Bool} (y:Ev X b),OA y.cx ifs (Tt K y.E t)
def sY:pX:=fun _ S R _=>R true S
theorem xr:SK K X [] sY:=⟨fun y pins s τ H Q I ⟨σ,S,R,Z,aD,hS,q,hR,hZ⟩=>Iu pins s τ H Q I (hR true S H q hS (.refl _))⟩
theorem if1 (h:DT K X c t):SK K X [c] t:=⟨fun y=>Iv (h.of y)⟩
theorem xt (S:bK X N src scope) (hit:DI K X tg iter ti) (hg:∀ C s H ex pn,PG (iK X N scope C s H ex pn) tg g) (hx:xV g src) (VX:∀ v τ H Q,Tg K gd v τ H Q→g v τ H Q)
  (hi:∀ C s H ex pn,SK K (iK X N scope C s H ex pn) ifs tc) (he:∀ C s H ex pn,DE K (iK X N scope C s H ex pn) elt te)
  (hs:∀ x,foldedSetIterable iter X.env x=pure x:=by intro _;rfl) (hc:X.calm=true:=by rfl):DE K X (.ListComp elt [⟨tg,iter,ifs,0⟩] scope pos) (Bt ti src gd tc te) :=
 ⟨fun y=>(Iy (X:=y.cx) (tc:=Tt K (fun _=>E0) tc) (te:=T K (fun _=>E0) te) ⟨S.kind,S.gz,S.loc,S.xU,S.len,S.src⟩ hc (hit.of y) hg hx (fun C s H ex pn=>(hi C s H ex pn).of (.none _ rfl)) (fun C s H ex pn=>(he C s H ex pn).of (.none _ rfl)) hs).mono fun _ _ _ h=>h.comp VX⟩
theorem OM (hN:X.N.Nodup) (S:bK X N src scope) (hit:DI K X tg iter ti) (hg:∀ C s H ex pn,PG (iK X N scope C s H ex pn) tg g) (hx:xV g src) (VX:∀ v τ H Q,Tg K gd v τ H Q→g v τ H Q)
  (hi:∀ C s H ex pn,SK K (iK X N scope C s H ex pn) ifs tc) (he:∀ C s H ex pn,DE K (iK X N scope C s H ex pn) elt te) (US:X.N[i]?=some x:=by rfl) (Sy:X.env.scope.names.lookup x=some .local:=by rfl)
  (UT:swapsWith (.ListComp elt [⟨tg,iter,ifs,0⟩] scope pos) (some (.Name x pos')) Iz.line X.env=pure true:=by rfl)
  (hs:∀ x,foldedSetIterable iter X.env x=pure x:=by intro _;rfl) (hc:X.calm=true:=by rfl):DS K X b (.Assign [.Name x pos'] (.ListComp elt [⟨tg,iter,ifs,0⟩] scope pos) Iz) (QS i (Bt ti src gd tc te)) :=
 ⟨fun y=>(xW (X:=y.cx) (i:=i) (tc:=Tt K (fun _=>E0) tc) (te:=T K (fun _=>E0) te) hN US Sy ⟨S.kind,S.gz,S.loc,S.xU,S.len,S.src⟩ hc (hit.of y) hg hx (fun C s H ex pn=>(hi C s H ex pn).of (.none _ rfl)) (fun C s H ex pn=>(he C s H ex pn).of (.none _ rfl)) UT hs).mono
  <| by rintro D τ H ⟨σ,S,De,Z,aD,hS,q,hD,hZ⟩;exact T.comp VX ⟨σ,S,_,_,aD,hS,q,fun d S1 v H1 r1 v1 s1 k1=>hD.nx _ _ _ _ r1 ((aD.ts k1).set i v1) s1 k1,hZ.at aD⟩⟩
theorem bu:∀ v τ H Q,Tg K (SH i) v τ H Q→iJ i v τ H Q:=by rintro v τ H Q ⟨d,σ,S,R,rv,aD,hS,q,hR⟩;exact hR _ S _ H q (aD.set i rv) hS (.refl _)
end
structure yZ (K:PySem.W.Frag) (x qual:Str) (st:Stmt) (f:Addr) (fd:FuncData):Prop where
 ex:∃ (oc:Value) (od:Option Addr) (dV kV doc pm:Value) (an:Option Addr) (bq ct:Value) (Mq:Array (Option Value)),
  fd=fnOf x qual (cF st) (bN st) (ae st) dV kV doc pm an bq ct∧K.lookup f=some ⟨oc,od,.func fd,Mq⟩∧codeIn K bq qual=true
def kG (N:List Str) (ds:List D):SD:=ds.map some++List.replicate (N.length - ds.length) none
section
variable {P:Program}{w:World}{K:PySem.W.Frag}{mg:Str→Option Value}{base:Heap}
theorem yZ.ZK {x qual:Str}{st:Stmt}{f:Addr}{fd:FuncData}{N ps:List Str}{k:Nat}{sp:gN} (F:yZ K x qual st f fd) (S:ai N ps (ae st)) (len:∀ ds S R Z,sp ds S R Z→ds.length=ps.length)
  (pH:∀ (bq:Value) (A:Around) (outer:List Env) (s:Shared) (H:Hp) (E:XK) (ds:List D) (S:aU) (R:KD) (Z:KX),cI k (A.deeper (envOfC qual (ae st) s.heap.objs.size f bq))→sp ds S R Z →
   ∃ t,Fp K (kC (hW P w) P w K mg base N qual (ae st) f bq A outer s H E) true (bN st) t∧t { nx:=fun _ S'=>R .aw S',rt:=R } (kG N ds) S fun _=>Z):ck P w K mg base (hW P w) (k+1) f fd ps (ud K sp):=by
 obtain⟨oc,od,dV,kV,doc,pm,an,bq,ct,Mq,rfl,lk,q9⟩:=F.ex
 have gM:ps.length≤N.length:=by have:=congrArg List.length S.pre;rw[yd] at this;omega
 refine Kt lk q9 S (fun vs H Q E ⟨ds,S',R,Z,v,_,h,_⟩=>by rw[v.len];exact len _ _ _ _ h) fun A outer s H vs Q E hr ⟨ds,S',R,Z,v,hS,h,hR,hZ⟩=>?_
 obtain⟨t,ht,q⟩:=pH bq A outer s H E ds S' R Z hr h
 have L:dA (kC (hW P w) P w K mg base N qual (ae st) f bq A outer s H E) E:=sV
 let y:Ev (kC (hW P w) P w K mg base N qual (ae st) f bq A outer s H E) true:=⟨_,(kC (hW P w) P w K mg base N qual (ae st) f bq A outer s H E).xe,fun _=>E,⟨fun p2 τ H1 s1 e s' I h=>KA L p2 τ H1 s1 e s' I h,fun _ p2 τ H1 s1 h' a cls args I hx he=>n0 L I hx he,fun _=>PassesOwn.leaving⟩⟩
 refine⟨Tl K (fun _=>E) t,ht.of y,kG N ds,S',_,fun _=>Z,?_,hS,q,⟨fun σ S1 τ H1 r a b c=>hR.kp c |>.now b r ic,hR,fun _ _ _ _ z=>z.elim,fun _ _ _ _ z=>z.elim⟩,fun σ τ C S1 H1 z a b c=>hZ C S1 H1 z b c⟩
 unfold kG start
 refine (pW v).app ?_
 rw[v.len]
 exact pV _ _ (by rw[List.length_replicate])
theorem ck.Nm (F:ck P w K mg base (hW P w) k f fd ps (ud K sp)) (h:∀ ds S R Z,So ds S R Z→sp ds S R Z):ck P w K mg base (hW P w) k f fd ps (ud K So) :=
 F.imp <| by rintro vs H Q E ⟨ds,S,R,Z,a,b,c,d⟩;exact⟨ds,S,R,Z,a,b,h _ _ _ _ c,d⟩
theorem ck.calm (F:ck P w K mg base (hW P w) k f fd ps sp):ck P w K mg base Su k f fd ps fun vs H Q _=>sp vs H Q E0:=by
 refine⟨fun vs H Q E h=>F.len vs H Q E0 h,fun A outer s H args us vs Q E hr e0 hb r h=>yK (F.run A outer s H args us vs Q E0 hr e0 hb r h) fun res s' q=>?_⟩
 cases res with
 | error e=>obtain⟨_,_,_,_,_,_,_,_,_,z⟩:=q;exact z.elim
 | ok fl=>cases fl <;> exact q
end
section
variable {K:PySem.W.Frag}{X:Cx}{b:Bool}{i:Nat}{n x:Str}{C0:Addr}{body Ql:List Stmt}{UZ:Stmt}{np IF pos:Pos}
def sX.less (De:sX) (i:Nat):sX:={ nx:=fun σ S=>De.nx (σ.set i none) S,rt:=De.rt,bk:=fun σ S=>De.bk (σ.set i none) S,ct:=fun σ S=>De.ct (σ.set i none) S }
end
section
variable {K:PySem.W.Frag}{X:Cx}{x:Str}{id:String}{e:Expr}{es:List Expr}{p pos:Pos}{t:lL}{r:List D→aU→KD→Prop}
end
theorem sZ {P:Program}{w:World} : ∀ {ss:List Str}{vs:List Value},vs.length=ss.length→(∀ (j:Nat) (v:Value),vs[j]?=some v→∃ x,ss[j]?=some x∧keyIs (.inr x) v=true)→StrsAre vs ss
 | [],[],_,_=>.nil
 | [],_ :: _,h,_=>by simp at h
 | _ :: _,[],h,_=>by simp at h
 | x :: ss,v :: vs,h,k=>by
  obtain⟨x',e,q⟩:=k 0 v rfl
  cases e
  rcases bx q with ⟨i,t,e,_⟩ | ⟨y,t,e,rfl⟩
  ·cases e
  ·cases e
   exact .cons x t (sZ (P:=P) (w:=w) (by simpa using h) fun j v e=>k (j+1) v (by simpa using e))
theorem s9:∀ {vs:List Value}{ss:List Str},StrsAre vs ss→Vals (ss.map V.str) vs
 | _,_,.nil=>.nil
 | _,_,.cons y t h=>.cons ⟨t,rfl⟩ (s9 h)
theorem KV.VY {κ:Type}{kvs:List (κ×V)}{vs:List (κ×Value)} (h:KV kvs vs):vs.map (·.1)=kvs.map (·.1):=by
 unfold KV at h
 induction h with
 | nil=>rfl
 | cons r t ih=>rw[zA,zA,ih,r.1]
theorem Fu {prog:Program}{w:World}{A:Around}{E:Value→Shared→Prop}{s:Shared}{T:String}{r d:Addr}{n:Nat}{P:Nat→Value→Prop}{OK:Heap→Prop}{R:List Value→Shared→Prop} (K:PySem.W.KdlSrc prog w T r d n P OK) (hh:A.handled=none) (aJ:OK s.heap) (hn:n≤sizeLine)
  (h:∀ (h':Heap) (tk:Nat) (acc:Array Value),(∀ b o,s.heap.get? b=some o→h'.get? b=some o)→s.heap.objs.size≤h'.objs.size→ItemsOf P acc n→R acc.toList { s with heap:=h',toks:=tk }) :
  wpAny (model prog w) A (collect (.ref r)) R E s:=by
 have fz:=K.there _ aJ
 unfold collect
 refine za (wpAny_runValue (yG entry_proto_collect' ?_))
 rw[Around.under_plainId PySem.F.plain_proto_collect _]
 show wpAny _ A.in1 (newList [] >>= fun l=>again (.builtin "list.__iadd__" ⟨[l,.ref r],[]⟩)) _ _ s
 refine za (yf ?_)
 refine zf ⟨plainId_quiet PySem.F.plain_list_iadd _,yG entry_list_iadd' ?_⟩
 rw[Around.under_plainId PySem.F.plain_list_iadd _]
 have Q1:(s.heap.push { cls:=.type "list",data:=.seq ([]:List Value).toArray }).get? s.heap.objs.size=some { cls:=.type "list",data:=.seq #[] }:=zj _ rfl
 show wpAny _ A.in1 (Builtin.List.listExtendWith (.ref s.heap.objs.size) (.ref r) (.ref s.heap.objs.size)) _ _ _
 have key:=PySem.W.kdl_extend (A:=A) (s:={ s with heap:=s.heap.push { cls:=.type "list",data:=.seq ([]:List Value).toArray } })
  (R:=fun (q:Result) (s':Shared)=>∃ (h':Heap) (tk:Nat) (vS:Array Value) (c':Nat),q=.ok (.ret (.ref s.heap.objs.size))∧s'={ s with heap:=h',toks:=tk } ∧
   (∀ b o,s.heap.get? b=some o→h'.get? b=some o)∧h'.get? s.heap.objs.size=some { cls:=.type "list",dict:=none,data:=.seq vS c',slots:=#[] }∧ItemsOf P vS n)
  K hh (K.keep _ _ aJ fun b _ o e=>zb _ e) s.heap.objs.size (yc fz.1) (yc fz.2) (.ref s.heap.objs.size) 0 Q1
  (fun h' tk vS c' hk oa pO=>⟨h',tk,vS,c',rfl,rfl,fun b o e=>hk b o (zr (zp e)) (zb _ e),oa,pO⟩) hn
 refine yz key (fun fin s' x=>?_) fun e s' x=>?_
 ·cases fin with
  | done f =>
   obtain⟨h',tk,vS,c',e,rfl,hk,oa,pO⟩:=x
   cases e
   show wpAny _ A (load s.heap.objs.size >>= _) _ _ _
   exact za (wpAny_load oa (zf (h h' tk vS hk (yE (zp oa)) pO)))
  | again c₁ =>
   refine⟨x.1,yK x.2 fun q bS y=>?_⟩
   obtain⟨h',tk,vS,c',rfl,rfl,hk,oa,pO⟩:=y
   show wpAny _ A (load s.heap.objs.size >>= _) _ _ _
   exact za (wpAny_load oa (zf (h h' tk vS hk (yE (zp oa)) pO)))
 ·obtain⟨_,_,_,_,e',_⟩:=x
  cases e'
theorem uh {X:Cx} (hc:X.calm=true):fH X (.builtin "sorted") (fun xs H Q=>∃ (a:Addr) (kvs:List (Key×V)) (ss:List Str),xs=[.ref a]∧H a=some (.dK kvs)∧kvs.map (·.1)=ss.map Sum.inr∧kvs.length<64 ∧
  ∀ Bu,Bu.Perm ss→sortedS Bu=true→∀ l,H l=none→Q (.ref l) (upd H l (.lst (Bu.map V.str)))):=by
 intro pins s σ H xs us Q I r h
 obtain⟨a,kvs,ss,rfl,e,hk,hl,q⟩:=h
 obtain⟨u,rfl,ru⟩:=vals1 r
 cases ru
 obtain⟨z,hd,vs,rel,dd⟩:=Be I.aJ e
 obtain⟨ep,SM⟩:=dd.dictAt
 have hlen:vs.length<64:=by rw[← rel.length];exact hl
 have hh:=I.ok.hd hc
 refine PySem.Calls.call_function_entry kind_sorted plain_sorted entry_sorted (args_sorted1 _) ?_
 unfold Builtin.«sorted»
 refine za (m:=checkCount "sorted" 1 1 _) (zf ?_)
 refine za (Fu (A:=X.A.in1) (PySem.W.kdl_dict (knd:=aF X.prog X.w) (kvs:=vs) (ep:=ep) hd) hh SM (by rw[zR];omega) fun h' tk acc XR hB pO=>?_)
 have Cq:acc.toList.length=vs.length:=by rw[ye];exact pO.1
 refine za (wpAny_newList ?_ (by rw[Cq,zR];omega))
 have hS:StrsAre acc.toList ss:=by
  have ZL:=rel.VY
  refine sZ (P:=X.prog) (w:=X.w) (by rw[Cq,← rel.length];have:=congrArg List.length hk;simpa using this) fun j v ev=>?_
  obtain⟨k,x,e1,e2⟩:=pO.2 j v (by rw[← Array.getElem?_toList];exact ev)
  have e3:(vs.map (·.1))[j]?=some k:=by rw[zx,e1];rfl
  rw[ZL,hk,zx] at e3
  cases q2:ss[j]? with
  | none=>rw[q2] at e3;cases e3
  | some y=>rw[q2] at e3;cases e3;exact⟨y,rfl,e2⟩
 have Ef:(h'.push (seqObj "list" acc.toList.toArray 0)).get? h'.objs.size=some (seqObj "list" acc.toList.toArray 0):=zj _ rfl
 show wpAny _ _ _ _ _ { s with heap:=h'.push (seqObj "list" acc.toList.toArray 0),toks:=tk }
 refine za (yy (yk slot_list_sort ⟨_,Ef,rfl⟩ entry_list_sort (list_sort_treeK (s:={ s with heap:=h'.push (seqObj "list" acc.toList.toArray 0),toks:=tk }) strKind_oneLt Ef hS.keysOf (fun mQ mR rest e=>keyKind_strs (by rw[← e];exact hS)) (by rw[Cq];exact hlen) fun eZ hp hs=>⟨_,rfl,?_⟩) (args_list_sort _)))
 refine zf ⟨_,rfl,?_⟩
 obtain⟨Bu,h1,h2,h3⟩:=sorted_out_str hS hp hs
 obtain⟨e1,ZM⟩:=sortedHeap_at (vs:=acc.toList) (n:=0) (out:=(arrOf eZ).map (·.2)) Ef
 have ON:Bu.length≤sizeLine:=by rw[h2.length_eq,zR];have:=congrArg List.length hk;rw[zc,zc] at this;omega
 refine⟨.ref h'.objs.size,_,I.laid (a:=h'.objs.size) (o:=.lst (Bu.map V.str)) (fun b u hb=>?_) hB ⟨by rw[zc];exact ON,_,e1,s9 h1,ZM⟩,rfl,q Bu h2 h3 _ (I.aJ.fresh hB)⟩
 have fz:=zp (XR b u hb)
 rw[sortedHeap_old (zr fz) (by rw[zU];exact Nat.lt_succ_of_lt fz),zb _ (XR b u hb)]
section
variable {K:PySem.W.Frag}
def I_:List D→aU→KD→Prop:=fun ds S R=>∃ (a:Addr) (kvs:List (Key×D)) (ss:List Str),ds=[.ref a]∧S a=some (.du kvs)∧kvs.map (·.1)=ss.map Sum.inr∧kvs.length<64 ∧
 ∀ Bu,Bu.Perm ss→sortedS Bu=true→∀ p,S p=none→R (.ref p) (S.set p (.lst (Bu.map D.str)))
theorem bU.keys {κ:Type}{H:Hp}{ks:List (κ×D)}{vs:List (κ×V)} (h:bU K H ks vs):vs.map (·.1)=ks.map (·.1):=by
 unfold bU at h
 induction h with
 | nil=>rfl
 | cons r t ih=>rw[zA,zA,ih,r.1]
theorem p7:ja K (.builtin "sorted") I_:=by
 rintro X hK hc pins s σ H xs us Q I rx ⟨ds,S,R,r,hS,⟨a,kvs,ss,e,e1,hk,hl,h⟩,hR⟩
 subst e
 obtain⟨v,rfl,r1⟩:=r.one
 obtain⟨vs,e2,t⟩:=hS.du e1
 exact uh hc pins s σ H _ us Q I rx ⟨a,vs,ss,by rw[r1.ref],e2,by rw[t.keys];exact hk,by rw[t.len];exact hl,fun Bu p1 p2 l hl=>hR.new hS hl (h Bu p1 p2 l) (t9 Bu)⟩
end
def KY (K:PySem.W.Frag) (a:Addr) (n:Nat):It :=
 ⟨fun i H=>∃ xs x,gL K H a xs∧xs.length=n∧i<n∧xs[n - 1 - i]?=some x,fun i H x H'=>H'=H∧∀ xs,gL K H a xs→xs.length=n→xs[n - 1 - i]?=some x,fun i _=>n≤i⟩
theorem Fv {P:Program}{w:World}{K:PySem.W.Frag}{tg:Expr} (a it:Addr) (n:Nat):Turn P w K tg (KY K a n) [it] it (fun i h=>i≤n∧h.IsRevIter it a ((n:Int) - 1 - (i:Int))) where
 mem:=by simp
 obj:=fun i h st b hb=>by
  have e:b=it:=by simpa using hb
  subst e
  obtain⟨_,o,e,c,d⟩:=st
  exact⟨o,e,fun v z=>by rw[d] at z;cases z⟩
 keep:=fun i h h' st k=>⟨st.1,st.2.at fun o e=>k it (by simp) o e⟩
 item:=by
  intro X hP hw hK hc i pins s σ H E I hf st hg
  subst hP hw hK
  obtain⟨xs,x,hq,hn,hi,hx⟩:=hg
  obtain⟨ay,rv,p,hz⟩:=I.list hq
  obtain⟨u,hu,ru⟩:=rv.get hx
  obtain⟨f0,f1,f2,f3,f4,f5⟩:=hf it (by simp)
  have e:(n:Int) - 1 - (i:Int)=((n - 1 - i:Nat):Int):=by omega
  have hit:=st.2
  rw[e] at hit
  refine wpAny_pyNext_rev_item hit p.isList (x:=u) (by simpa using hu) fun h' eZ sb=>?_
  have I1:Inv X pins σ H { s with heap:=h' }:=I.turned (t':=s.toks) (fun b o hb e=>(sb.2 b hb).trans e) f0 f1 f3 f4 f5
  obtain⟨o,e1,c,d⟩:=id eZ
  refine⟨u,rfl,sG (s:={ s with heap:=h' }) e1 c d (by decide) ⟨x,H,I1,ru,⟨rfl,fun ys hy _=>by rw[I.lG hy hq];exact hx⟩,⟨hi,?_⟩,fun b hb=>(hf b hb).1⟩⟩
  have e2:(n:Int) - 1 - ((i+1:Nat):Int)=((n - 1 - i:Nat):Int) - 1:=by omega
  rw[e2];exact eZ
 done:=by
  intro X hP hw hK hc i pins s σ H E I hf st hg
  subst hP hw hK
  obtain⟨f0,f1,f2,f3,f4,f5⟩:=hf it (by simp)
  have hg:n≤i:=hg
  have e:(n:Int) - 1 - (i:Int) = -1:=by have:=st.1;omega
  have hit:=st.2
  rw[e] at hit
  exact wpAny_pyNext_rev_end (I.ok.hd hc) hit fun h' eb=>⟨rfl,I.turned (t':=s.toks) (fun b o hb e=>eb b o hb e) f0 f1 f3 f4 f5⟩
 self:=fun _ _ _ _ _ st h=>wpAny_pyIter_revIter st.2 h
def VZ (K:PySem.W.Frag) (ta:TA):TI:=fun σ H R=>ta σ H fun vs H1=>∃ a xs,vs=[.ref a]∧gL K H1 a xs∧R (KY K a xs.length) H1
theorem Nn {X:Cx}{tg a:Expr}{ta:TA}{p pos:Pos} (hg:Gl X "reversed") (hm:X.mg "reversed" = none) (ha:PA X [a] ta) (hs:starEach [a] X.env=[(false,eval a X.env)]):PI X tg (.Call (.Name "reversed" p) [a] [] pos) (VZ X.K ta):=by
 intro pins s σ H R I h
 refine Call_ (gx I hg hm boot_reversed (PyProof.Rows.callWith_type1 (bf (ha pos pins s σ H _ I h) fun us s1 ⟨vs,H1,I1,r1,q1⟩=>?_) hs rfl))
 obtain⟨l,xs,e,q,hR⟩:=q1
 subst e
 obtain⟨u,rfl,ru⟩:=vals1 r1
 cases ru
 obtain⟨ay,rv,pl,hz⟩:=I1.list q
 have hn:ay.toArray.size=xs.length:=by rw[zk,rv.length]
 refine call_reversed_list pl.isList ?_
 rw[hn]
 have st:(s1.heap.push (revObj l ((xs.length:Int) - 1))).IsRevIter s1.heap.objs.size l ((xs.length:Int) - 1 - ((0:Nat):Int)):=⟨_,zj _ rfl,rfl,by show Data.fields _=Data.fields _;simp⟩
 have I2:Inv X pins σ H1 { s1 with heap:=s1.heap.push (revObj l ((xs.length:Int) - 1)) }:=I1.kept (t':=s1.toks) fun b o e=>zb _ e
 refine wpAny_pyIter_revIter st ⟨_,_,_,_,H1,rfl,I2,Fv l s1.heap.objs.size xs.length,⟨yj _,st⟩,fun b hb=>?_,hR⟩
 have hb:b=s1.heap.objs.size:=by simpa using hb
 subst hb
 exact I1.oz (zm _) (I1.aJ.fresh (zm _))
section
variable {K:PySem.W.Frag}{X:Cx}{tg:Expr}
def Q2 (t:lL):yY:=fun σ S R Z=>t σ S (fun ds S1=>∃ x es,ds=[x]∧n5 S1 x es∧R ⟨es.reverse,fun S=>n5 S x es⟩ S1) Z
theorem ZN {a:Expr}{t:lL}{p pos:Pos} (hm:X.mg "reversed" = none) (ha:DA K X [a] t) (hg:Gl X "reversed" := by rfl) (hs:starEach [a] X.env=[(false,eval a X.env)]:=by rfl) (hK:X.K=K:=by rfl):DI K X tg (.Call (.Name "reversed" p) [a] [] pos) (Q2 t):=by
 subst hK
 exact⟨fun y=>(Nn (X:=y.cx) hg hm (ha.of y) hs).mono fun τ H R ⟨σ,S,RI,Z,aD,hS,q,hR,hZ⟩=>⟨σ,S,_,Z,aD,hS,q,fun ds S1 vs H1 ⟨x,es,e,h1,r1⟩ v1 s1 k1=>by
  subst e
  obtain⟨v,rfl,r⟩:=v1.one
  obtain⟨a,xs,rfl,hq,t⟩:=h1.at s1 r
  refine⟨a,xs,rfl,hq,hR _ S1 _ H1 r1 (fun i S2 H2 k2 s2 Nh=>?_) s1 k1⟩
  obtain⟨a',Ni,e',El,t'⟩:=n5.at Nh s2 (Rv.ts k2 _ r)
  cases e'
  have hl:xs.length=es.length:=t.len
  have Xl:Ni.length=es.length:=t'.len
  refine⟨fun d hd=>?_,fun h=>by rw[yt] at h;show xs.length≤i;omega⟩
  have hi:i<es.length:=by have:=(zo.mp hd).1;rwa [yt] at this
  rw[List.getElem?_reverse hi] at hd
  obtain⟨v,e1,r⟩:=t'.get hd
  rw[← hl] at e1
  refine⟨⟨Ni,v,El,by omega,by omega,e1⟩,fun x' H' ⟨e2,e3⟩=>?_⟩
  subst e2
  have:=e3 Ni El (by omega)
  rw[e1] at this;cases this
  exact⟨r,.refl _,s2⟩,hZ⟩⟩
def bh (xs ys:List D):List D:=List.zipWith (fun a b=>D.tup [a,b]) xs ys
def Q3 (t:lL):yY:=fun σ S R Z=>t σ S (fun ds S1=>∃ xs ys,ds=[.tup xs,.tup ys]∧xs.length=ys.length∧R ⟨bh xs ys,fun _=>True⟩ S1) Z
theorem XS {a c:Expr}{t:lL}{p pos tp:Pos}{es:List Expr}{kk:Nat} (hm:X.mg "zip" = none) (ha:DA K X [a,c] t) (hg:Gl X "zip" := by rfl) (hs:starEach [a,c] X.env=[(false,eval a X.env),(false,eval c X.env)]:=by rfl) (vz:starEach [c] X.env=[(false,eval c X.env)]:=by rfl) (hK:X.K=K:=by rfl) :
  DI K X (.Tuple es kk tp) (.Call (.Name "zip" p) [a,c] [] pos) (Q3 t):=by
 subst hK
 exact⟨fun y=>(IS (X:=y.cx) hg hm (ha.of y) hs vz).mono fun τ H R ⟨σ,S,RI,Z,aD,hS,q,hR,hZ⟩=>⟨σ,S,_,Z,aD,hS,q,fun ds S1 vs H1 ⟨xs,ys,e,hl,r1⟩ v1 s1 k1=>by
  subst e
  obtain⟨v,u,rfl,ra,rb⟩:=v1.two
  obtain⟨a,va,rfl,qa,ta⟩:=ra.tup
  obtain⟨b,vb,rfl,qb,tb⟩:=rb.tup
  refine⟨a,b,rfl,⟨va,.of qa⟩,⟨vb,.of qb⟩,hR _ S1 _ H1 r1 (fun i S2 H2 k2 s2 _=>?_) s1 k1⟩
  have Np:iU X.K H2 a va:=.of (k2.t _ _ qa)
  have Nq:iU X.K H2 b vb:=.of (k2.t _ _ qb)
  have la:va.length=xs.length:=ta.len
  have lb:vb.length=ys.length:=tb.len
  refine⟨fun d hd=>?_,fun h=>⟨va,vb,Np,Nq,by unfold bh at h;rw[List.length_zipWith] at h;omega⟩⟩
  unfold bh at hd
  obtain⟨x,y',e1,e2,e3⟩:=List.getElem?_zipWith_eq_some.mp hd
  subst e3
  obtain⟨vx,f1,g1⟩:=(RvAll.ts k2 _ ta).get e1
  obtain⟨vy,f2,g2⟩:=(RvAll.ts k2 _ tb).get e2
  refine⟨⟨va,vb,vx,vy,Np,Nq,f1,f2⟩,fun x' H' ⟨T,hT,e4,e5⟩=>?_⟩
  have:=e5 va vb vx vy Np Nq f1 f2
  subst this e4
  have kk:Kp X.K H2 (upd H2 T (.tup [vx,vy])):=.new hT
  exact⟨i_ aE (RvAll.ts kk _ (aS g1 (aS g2 bE))),kk,s2.grow hT⟩,hZ⟩⟩
theorem uk:∀ v τ H Q,Tg K (KW 2 (yW (SH i) (yW (SH j) KU))) v τ H Q→HR K 2 (pA (iJ i) (pA (iJ j) HQ)) v τ H Q:=by
 rintro v τ H Q ⟨d,σ,S,R,rv,aD,hS,⟨ds,e,hl,a,r,e1,b,r',e2,e3,q⟩,hR⟩
 subst e e1 e2 e3
 obtain⟨p,xs,rfl,hp,t⟩:=rv.tup
 obtain⟨v1,v2,rfl,r1,r2⟩:=t.two
 exact⟨p,_,rfl,.of hp,rfl,v1,[v2],rfl,v2,[],rfl,rfl,hR _ S _ H q ((aD.set i r1).set j r2) hS (.refl _)⟩
end
section
variable {K:PySem.W.Frag}{X:Cx}{b:Bool}{pos:Pos}
def Q4 (tl ti tv:TD):n8:=fun De σ S Z=>tv σ S (fun v S1=>tl σ S1 (fun x S2=>ti σ S2 (fun y S3=>∃ a es i j,x=.ref a∧y=.int i∧S3 a=some (.lst es)∧Ik es.length i=some j∧De.nx σ (S3.set a (.lst (es.set j v)))) (Z σ)) (Z σ)) (Z σ)
theorem XT {o i value:Expr}{tl ti tv:TD}{pos':Pos} (ho:DE K X o tl) (hi:DE K X i ti) (hv:DE K X value tv)
  (ha:∀ v,assign (.Subscript o i pos') X.env v=(do
   let ov ← holding [v] (eval o X.env)
   let iv ← holding [v,ov] (eval i X.env)
   standAt pos'
   holding [v,ov,iv] (setItem ov iv v)
   release [v,ov,iv] []):=by intro _;rfl)
  (hs:swapsWithSole [.Subscript o i pos'] value pos.line X.env=pure false:=by rfl) (hw:swappedStores [.Subscript o i pos'] value X.env=pure none:=by rfl) (h1:(assignEach [.Subscript o i pos'] X.env).map (·.2)=[assign (.Subscript o i pos') X.env]:=by rfl) :
  DS K X b (.Assign [.Subscript o i pos'] value pos) (Q4 tl ti tv) :=
 ⟨fun y=>(LZ (X:=y.cx) (hv.of y) (LX (ho.of y) (hi.of y) set_list ha) hs hw h1).mono <| by rintro D τ H ⟨σ,S,De,Z,aD,hS,q,hD,hZ⟩;exact
  ⟨σ,S,_,_,aD,hS,q,fun v S1 vv H1 r1 v1 s1 k1=>⟨σ,S1,_,_,aD.ts k1,s1,r1,fun x S2 xv H2 r2 v2 s2 k2=>⟨σ,S2,_,_,aD.ts (k1.trans k2),s2,r2,by
   rintro y S3 yv H3 ⟨a,es,i,j,e1,e2,e3,e4,r3⟩ v3 s3 k3
   subst e1 e2
   obtain⟨xs,e5,t⟩:=s3.lst e3
   have kk:=s3.ie (o:=.lst (xs.set j vv)) e3
   refine⟨a,xs,i,j,(Rv.ts k3 _ v2).ref,v3.int,e5,by rw[t.len];exact e4,?_⟩
   exact hD.nx _ _ _ _ r3 (aD.ts (((k1.trans k2).trans k3).trans kk)) (s3.put (c:=.lst _) e3 ⟨_,aE,RvAll.ts kk _ (t.set j (Rv.ts (k2.trans k3) _ v1))⟩) (((k1.trans k2).trans k3).trans kk),hZ.on (k1.trans k2) (aD.ts (k1.trans k2))⟩,hZ.on k1 (aD.ts k1)⟩,hZ.at aD⟩⟩
def fJ (z:Str):List D:=z.cps.toList.map fun c=>D.str ⟨#[c]⟩
def KZ (t:TD):yY:=fun σ S R Z=>t σ S (fun x S1=>∃ z,x=.str z∧R ⟨fJ z,fun _=>True⟩ S1) Z
theorem Nr {tg l:Expr}{t:TD} (h:DE K X l t):DI K X tg l (KZ t) :=
 ⟨fun y=>(ML (X:=y.cx) (h.of y)).mono fun τ H R ⟨σ,S,RI,Z,aD,hS,q,hR,hZ⟩=>⟨σ,S,_,Z,aD,hS,q,fun x S1 v H1 ⟨z,e,r1⟩ v1 s1 k1=>by
  subst e
  refine⟨z,v1.str,hR _ S1 _ H1 r1 (fun i S2 H2 k2 s2 _=>⟨fun d hd=>?_,fun hl=>?_⟩) s1 k1⟩
  ·unfold fJ at hd
   rw[zx,Array.getElem?_toList] at hd
   cases q:z.cps[i]? with
   | none=>rw[q] at hd;cases hd
   | some c =>
    rw[q] at hd;cases hd
    refine⟨(Array.getElem?_eq_some_iff.mp q).1,fun x' H' ⟨e1,c',e2,e3⟩=>?_⟩
    rw[q] at e2;cases e2
    subst e1 e3
    exact⟨i8 _,.refl _,s2⟩
  ·unfold fJ at hl;rw[zc,ye] at hl;exact hl,hZ⟩⟩
def Ja (t:TD):TD:=fun σ S R Z=>t σ S (fun x S1=>∃ ss:List Str,n5 S1 x (ss.map D.str)∧ss.length<4000∧R (.int (iM ss).length) S1) Z
theorem XU {e:Expr}{t:TD}{p p' pos':Pos} (h:DE K X e t) (hm:X.mg "len" = none) (ZO:X.mg "set" = none) (hp:isPlain e=true:=by rfl) (hg:Gl X "len" := by rfl) (V0:Gl X "set" := by rfl) (he:starEach [e] X.env=[(false,eval e X.env)]:=by rfl)
  (ZP:starEach [Expr.Call (.Name "set" p') [e] [] pos'] X.env=[(false,eval (.Call (.Name "set" p') [e] [] pos') X.env)]:=by rfl) (hK:X.K=K:=by rfl) (hc:X.calm=true:=by rfl) :
  DE K X (.Call (.Name "len" p) [.Call (.Name "set" p') [e] [] pos'] [] pos) (Ja t):=by
 subst hK
 refine⟨fun y=>(vE (X:=y.cx) (CB (X:=y.cx) rfl rfl) hg hm ba (UU (sO (X:=y.cx) (CA (X:=y.cx) rfl rfl rfl hc) V0 ZO MR (UU (h.of y) xM hp) (by decide) (by decide) he rfl) xM rfl) (by decide) (by decide) ZP rfl).mono fun τ H Q ⟨σ,S,R,Z,aD,hS,q,hR,hZ⟩=>?_⟩
 refine⟨σ,S,_,Z,aD,hS,q,fun x S1 v H1 ⟨ss,h1,hl,r1⟩ v1 s1 k1=>?_,hZ⟩
 obtain⟨a,xs,rfl,hq,t⟩:=h1.at s1 v1
 rw[t.strs] at hq
 exact⟨a,ss,rfl,hq,hl,fun l hl=>⟨l,ss,rfl,aE,hR _ _ _ _ r1 (aO _) (s1.grow hl) (k1.trans (.new hl))⟩⟩
end
theorem CQ {K:PySem.W.Frag}{S:aU}{H:Hp}{l:Addr} (hS:Rs K S H) (h:S l=some .well):∃ x y z:Int,Rs K (S.set l (.lst [.int x,.int y,.int z])) H:=by
 obtain⟨x,y,z,e⟩:∃ x y z:Int,H l=some (.lst [.int x,.int y,.int z]):=hS l _ h
 refine⟨x,y,z,fun b c hb=>?_⟩
 by_cases q:b=l
 ·subst q;rw[af] at hb;cases hb
  exact⟨_,e,aS (aO x) (aS (aO y) (aS (aO z) bE))⟩
 ·rw[ag q] at hb;exact hS b c hb
theorem s_ {K:PySem.W.Frag}{S:aU}{H:Hp}{l:Addr}{x y z:Int} (h:S l=some .well) (hS:Rs K (S.set l (.lst [.int x,.int y,.int z])) H):Rs K S H:=fun b c hb=>by
 by_cases q:b=l
 ·subst q;rw[h] at hb;cases hb
  obtain⟨xs,e,t⟩:=hS.lst (a:=b) af
  rw[t.ints (bs:=[x,y,z])] at e
  exact⟨x,y,z,e⟩
 ·exact hS b c (by rw[ag q];exact hb)
def Nt (pre:List D→Addr→Prop) (post:List D→D→Prop):gN:=fun ds S R _=>∃ l x y z,pre ds l∧S l=some (.lst [.int x,.int y,.int z])∧∀ d x' y' z',post ds d→R d (S.set l (.lst [.int x',.int y',.int z']))
def Fw (pre:List D→Addr→Prop) (post:List D→D→Prop):gN:=fun ds S R _=>∃ l,pre ds l∧S l=some .well∧∀ d,post ds d→R d S
theorem CT {P:Program}{w:World}{K:PySem.W.Frag}{mg:Str→Option Value}{base:Heap}{k:Nat}{f:Addr}{fd:FuncData}{ps:List Str}{pre:List D→Addr→Prop}{post:List D→D→Prop}
  (F:ck P w K mg base (hW P w) k f fd ps (ud K (Nt pre post))):ck P w K mg base (hW P w) k f fd ps (ud K (Fw pre post)):=by
 refine F.imp fun vs H Q E ⟨ds,S,R,Z,v,hS,⟨l,hp,hw,h⟩,hR,hZ⟩=>?_
 obtain⟨x,y,z,oa⟩:=CQ hS hw
 refine⟨ds,_,fun d S2=>∃ x' y' z',post ds d∧S2=S.set l (.lst [.int x',.int y',.int z']),fun _ _=>False,v,oa,⟨l,x,y,z,hp,af,fun d x' y' z' hd=>⟨x',y',z',hd,eF⟩⟩,fun d S2 u H' ⟨x',y',z',hd,e⟩ rv hs kp=>?_,fun _ _ _ q=>q.elim⟩
 subst e
 exact hR d S u H' (h d hd) rv (s_ hw hs) kp
theorem eG:bootBuiltins "sorted" = some (.builtin "sorted"):=by decide +kernel
def Sub (S S':aU):Prop:=∀ b c,S b=some c→S' b=some c
theorem Sub.refl (S:aU):Sub S S:=fun _ _ h=>h
theorem Sub.trans (a:Sub S S1) (b:Sub S1 S2):Sub S S2:=fun p c h=>b p c (a p c h)
theorem Sub.new (h:S p=none):Sub S (S.set p c):=fun b c' hb=>by rw[ag (fU hb h)];exact hb
theorem Rs.sub {K:PySem.W.Frag}{S S':aU}{H:Hp} (h:Rs K S' H) (s:Sub S S'):Rs K S H:=fun a c e=>h a c (s a c e)
def Fo (S':aU) (p:aU→Prop):Prop:=∃ S,Sub S S'∧p S
theorem fo (h:p S):Fo S p:=⟨S,.refl S,h⟩
section
variable {P:Program}{w:World}{K:PySem.W.Frag}{mg:Str→Option Value}{base:Heap}
theorem yZ.ok {x qual:Str}{st:Stmt}{f:Addr}{fd:FuncData}{N ps:List Str}{k:Nat}{sp:gN} (F:yZ K x qual st f fd) (S:ai N ps (ae st)) (len:∀ ds S R Z,sp ds S R Z→ds.length=ps.length)
  (pH:∀ (bq:Value) (A:Around) (outer:List Env) (s:Shared) (H:Hp) (E:XK) (ds:List D) (S:aU) (R:KD) (Z:KX),cI k (A.deeper (envOfC qual (ae st) s.heap.objs.size f bq))→sp ds S R Z →
   ∃ t,Fp K (kC (hW P w) P w K mg base N qual (ae st) f bq A outer s H E) true (bN st) t∧t { nx:=fun _ S'=>Fo S' (R .aw),rt:=fun d S'=>Fo S' (R d) } (kG N ds) S fun _ C S'=>Fo S' (Z C)):ck P w K mg base (hW P w) (k+1) f fd ps (ud K sp):=by
 have F2:ck P w K mg base (hW P w) (k+1) f fd ps (ud K fun ds S R' Z'=>∃ R Z,sp ds S R Z∧R'=(fun d S'=>Fo S' (R d))∧Z'=fun C S'=>Fo S' (Z C)):=by
  refine F.ZK S (fun ds S R Z ⟨R0,Z0,h,_⟩=>len _ _ _ _ h) fun bq A outer s H E ds S R Z hr ⟨R0,Z0,h,e1,e2⟩=>?_
  subst e1 e2
  exact pH bq A outer s H E ds S R0 Z0 hr h
 refine F2.imp fun vs H Q E ⟨ds,S,R,Z,v,hS,h,hR,hZ⟩=>⟨ds,S,_,_,v,hS,⟨R,Z,h,rfl,rfl⟩,fun d S' u H' ⟨S2,sb,r⟩ rv rs kp=>hR d S2 u H' r rv (rs.sub sb) kp,fun C S' H' ⟨S2,sb,r⟩ rs kp=>hZ C S2 H' r (rs.sub sb) kp⟩
end
section
variable {K:PySem.W.Frag}{X:Cx}{b:Bool}
def Q5 (t:n8):n8:=fun De σ S Z=>∃ P:SD→aU→Prop,t { De with nx:=fun aK S'=>Fo S' (P aK) } σ S Z∧∀ aK S',P aK S'→De.nx aK S'
theorem HC {st:Stmt}{t:n8} (h:DS K X b st t):DS K X b st (Q5 t) :=
 ⟨fun y=>(h.of y).mono <| by rintro D τ H ⟨σ,S,De,Z,aD,hS,⟨P,q,hP⟩,hD,hZ⟩;exact⟨σ,S,_,Z,aD,hS,q,⟨by rintro vi S1 VL H1 ⟨S2,sb,r1⟩ a b c;exact hD.nx _ _ _ _ (hP _ _ r1) a (b.sub sb) c,hD.rt,hD.bk,hD.ct⟩,hZ⟩⟩
def ZQ (t:TD):TD:=fun σ S R Z=>t σ S (fun d S'=>Fo S' (R d)) Z
theorem Jb (h:DE K X e t):DE K X e (ZQ t) :=
 ⟨fun y=>(h.of y).mono <| by rintro τ H Q ⟨σ,S,R,Z,aD,hS,q,hR,hZ⟩;exact⟨σ,S,_,Z,aD,hS,q,by rintro d S' v H' ⟨S2,sb,r⟩ rv rs kp;exact hR d S2 v H' r rv (rs.sub sb) kp,hZ⟩⟩
theorem um (nd:N.Nodup) (h0:N[0]?=some a:=by rfl) (hx:∀ C s H ex pn,Loc (iK X N scope C s H ex pn).env.scope a∧(iK X N scope C s H ex pn).env.scope.names.lookup a=some .local:=by intro _ _ _ _ _;exact⟨Or.inl rfl,rfl⟩) :
  ∀ C s H ex pn,PG (iK X N scope C s H ex pn) (.Name a p) (iJ 0):=fun C s H ex pn=>pd (i:=0) nd h0 (hx C s H ex pn).1 (.inr (hx C s H ex pn).2)
theorem V1 (nd:N.Nodup) (h0:N[0]?=some a:=by rfl) (h1:N[1]?=some c:=by rfl)
  (hx:∀ C s H ex pn,Loc (iK X N scope C s H ex pn).env.scope a∧(iK X N scope C s H ex pn).env.scope.names.lookup a=some .local:=by intro _ _ _ _ _;exact⟨Or.inl rfl,rfl⟩)
  (hy:∀ C s H ex pn,Loc (iK X N scope C s H ex pn).env.scope c∧(iK X N scope C s H ex pn).env.scope.names.lookup c=some .local:=by intro _ _ _ _ _;exact⟨Or.inl rfl,rfl⟩)
  (hl:∀ env:Env,(assignEach [.Name a p,.Name c p'] env).length=2∧(assignEach [.Name a p,.Name c p'] env).findIdx? (·.1)=none∧(assignEach [.Name a p,.Name c p'] env).map (·.2)=assign (.Name a p) env :: (assignEach [.Name c p'] env).map (·.2)∧(assignEach [.Name c p'] env).map (·.2)=assign (.Name c p') env :: (assignEach [] env).map (·.2):=by intro _;exact⟨rfl,rfl,rfl,rfl⟩) (hK:X.K=K:=by rfl) (hc:X.calm=true:=by rfl) :
  ∀ C s H ex pn,PG (iK X N scope C s H ex pn) (.Tuple [.Name a p,.Name c p'] j p2) (HR K 2 (pA (iJ 0) (pA (iJ 1) HQ))):=fun C s H ex pn=>by
 subst hK
 have e:=hl (iK X N scope C s H ex pn).env
 exact Eu (X:=iK X N scope C s H ex pn) hc (pB (pd (i:=0) nd h0 (hx C s H ex pn).1 (.inr (hx C s H ex pn).2)) (pB (pd (i:=1) nd h1 (hy C s H ex pn).1 (.inr (hy C s H ex pn).2)) A5 e.2.2.2) e.2.2.1) e.1 e.2.1
end
theorem p8:∀ {ss:List Str}{ay:List Value},Vals (ss.map V.str) ay→StrsAre ay ss
 | [],_,.nil=>.nil
 | z :: ss,_,.cons r t=>by
  obtain⟨tk,rfl⟩:=r
  exact .cons z tk (p8 t)
section
variable {K:PySem.W.Frag}
end
end L2
namespace HT
open PySem PySem.Spec PyProof.Rows
section
variable {prog:Program}{w:World}{A:Around}{E:Value→Shared→Prop}{s:Shared}
end
end HT
namespace L2
open PySem PySem.Spec PyProof.Rows
section
variable {K:PySem.W.Frag}{X:Cx}
end
inductive Fx (S:aU):List D→List PyData→Prop where
 | nil:Fx S [] []
 | cons {d:D}{p:PyData}{ds:List D}{ps:List PyData} : Dl S d p→Fx S ds ps→Fx S (d :: ds) (p :: ps)
section
variable {K:PySem.W.Frag}
end
section
variable {K:PySem.W.Frag}
end
section
variable {K:PySem.W.Frag}
def Fy (p:Str×D):D:=.tup [.str p.1,p.2]
def p_ (l:List (Str×D)):List (Key×D):=l.foldl (fun c p=>dput c (.inr p.1) p.2) []
theorem Bv:∀ {kvs:List (Str×D)}{ys:List V},RvAll K H (kvs.map Fy) ys→∃ kv:List (Str×V),XD H ys kv∧∀ c c',bU K H c c'→bU K H (kvs.foldl (fun c p=>dput c (.inr p.1) p.2) c) (kv.foldl (fun c p=>putK c (.inr p.1) p.2) c')
 | [],ys,h=>by
  rw[h.nil]
  exact⟨[],⟨rfl,fun i x p e=>(by cases i <;> cases e)⟩,fun c c' h=>h⟩
 | p :: kvs,ys,h=>by
  obtain⟨y,ys,rfl,r1,r2⟩:=h.cons
  obtain⟨b,zs,rfl,hb,tz⟩:=Rv.tup (show Rv K H (.tup [.str p.1,p.2]) y from r1)
  obtain⟨v,u,rfl,rv,ru⟩:=tz.two
  have ev:=rv.str
  subst ev
  obtain⟨kv,⟨hl,hp⟩,hf⟩:=Bv r2
  refine⟨(p.1,u) :: kv,⟨by rw[zK,zK,hl],fun i x q e1 e2=>?_⟩,fun c c' h=>hf _ _ (h.put (.inr p.1) ru)⟩
  cases i with
  | zero=>cases e1;cases e2;exact⟨b,rfl,hb⟩
  | succ i=>exact hp i x q e1 e2
def Q6:List D→aU→KD→Prop:=fun ds S R=>∃ kvs:List (Str×D),ds=[.tup (kvs.map Fy)]∧∀ p,S p=none→R (.ref p) (S.set p (.du (p_ kvs)))
theorem Nu:ja K (.type "dict") Q6:=by
 rintro X hK hc pins s σ H xs us Q I rx ⟨ds,S,R,r,hS,⟨kvs,e,h⟩,hR⟩
 subst hK e
 obtain⟨v,rfl,r1⟩:=r.one
 obtain⟨a,ys,rfl,q,t⟩:=r1.tup
 obtain⟨kv,hp,hf⟩:=Bv t
 refine x6 hc pins s σ H _ us Q I rx ⟨a,ys,kv,rfl,q,hp,fun l hl=>?_⟩
 have kn:Kp X.K H (upd H l (.dK (Bi kv))):=.new hl
 exact hR _ _ _ _ (h l (hS.fresh hl)) (i9 l) (hS.new (c:=.du (p_ kvs)) hl ⟨_,aE,(hf [] [] .nil).ts kn⟩) kn
theorem vT (kvs:List (Key×D)) (k k':Key) (d:D):cz (dput kvs k d) k'=if k'=k then some d else cz kvs k':=by
 unfold dput
 by_cases hk:(kvs.any fun kv=>decide (kv.1=k))=true
 ·rw[if_pos hk]
  unfold cz
  induction kvs with
  | nil=>cases hk
  | cons r kvs ih =>
   rw[zA,zQ,zQ]
   by_cases e:r.1=k
   ·rw[if_pos e]
    by_cases e2:k'=k
    ·rw[if_pos e2,show decide (r.1=k')=true from zt (e.trans e2.symm)];rfl
    ·rw[if_neg e2,show decide (r.1=k')=false from zq fun q=>e2 (q.symm.trans e)]
     by_cases gC:(kvs.any fun kv=>decide (kv.1=k))=true
     ·have:=ih gC
      rw[if_neg e2] at this
      exact this
     ·have em:kvs.map (fun kv=>if kv.1=k then (kv.1,d) else kv)=kvs:=by
       conv=>rhs;rw[← List.map_id kvs]
       refine zW fun x hx=>?_
       rw[if_neg fun q=>gC (List.any_eq_true.mpr ⟨x,hx,zt q⟩)];rfl
      rw[em]
   ·rw[if_neg e]
    have gC:(kvs.any fun kv=>decide (kv.1=k))=true:=by
     rw[yI,zq e,yM] at hk;exact hk
    by_cases e3:r.1=k'
    ·rw[zt e3,if_neg fun q=>e (e3.trans q)]
    ·rw[zq e3];exact ih gC
 ·rw[if_neg hk]
  unfold cz
  rw[List.find?_append]
  have hn:∀ x∈kvs,x.1≠k:=fun x hx q=>hk (List.any_eq_true.mpr ⟨x,hx,zt q⟩)
  by_cases e:k'=k
  ·subst e
   rw[if_pos rfl,List.find?_eq_none.mpr fun x hx=>by simp [hn x hx]]
   simp
  ·rw[if_neg e]
   have:([(k,d)].find? fun kv=>decide (kv.1=k'))=none:=by
    rw[zQ,show decide (k=k')=false from zq fun q=>e q.symm];rfl
   rw[this,Option.or_none]
theorem CU (l:List (Str×D)) (z:Str):(cz (p_ l) (.inr z)).isSome=l.any fun p=>decide (p.1=z):=by
 have all:∀ (l:List (Str×D)) (c:List (Key×D)),(cz (l.foldl (fun c p=>dput c (.inr p.1) p.2) c) (.inr z)).isSome=((cz c (.inr z)).isSome || l.any fun p=>decide (p.1=z)):=by
  intro l
  induction l with
  | nil=>intro c;simp
  | cons p l ih =>
   intro c
   rw[yF,ih,vT,yI]
   by_cases e:p.1=z
   ·rw[if_pos (by rw[e]),zt e];simp
   ·rw[if_neg fun q=>e (yD q).symm,zq e];simp
 exact (all l []).trans (by rfl)
def Q7 (a:Addr) (kvs:List (Str×V)):vj:=fun x y S R=>∃ z,x=.str z∧y=.ref a∧R (.bl (kvs.lookup z).isSome) S
theorem XW {X:Cx}{a b:Expr}{ta tb:TD}{pos:Pos}{w:World}{ad:Addr}{kvs:List (Str×V)} (d:HA w K ad kvs) (ha:DE K X a ta) (hb:DE K X b tb) (hw:X.w=w:=by rfl) (hm:behindInMarks .In b=false:=by with_unfolding_all rfl) (hK:X.K=K:=by rfl) :
  DE K X (.Compare a [.In] [b] pos) (Na (Q7 ad kvs) ta tb):=by
 refine⟨fun y=>(A9 (X:=y.cx) (r:=Lr K (Q7 ad kvs)) ?_ (ha.of y) (hb.of y) hm).mono fun _ _ _ h=>h.op⟩
 rintro pins s σ H x y' v u Q I rx ry ⟨d',e,S,R,r1,r2,hS,⟨z,e1,e2,h⟩,hR⟩
 subst e1 e2
 exact E9 (X:=y.cx) hw hK pins s σ H x y' v u Q I rx ry ⟨z,ad,kvs,r1.str,r2.ref,d,hR.now hS h (cy _)⟩
end
structure Q8 (k:Nat) (A:Around):Prop where
 dp:A.depth+3 * k+5<recursionLimit
 un:A.units+16 * k+200<cLine
structure FnH (P:Program) (w:World) (K:PySem.W.Frag) (mg:Str→Option Value) (base:Heap) (k:Nat) (f:Addr) (fd:FuncData) (ps:List Str) (sp:gN):Prop where
 len:∀ ds S R Z,sp ds S R Z→ds.length=ps.length
 run:∀ (A:Around) (outer:List Env) (s:Shared) (H:Hp) (args:Args) (us:List Value) (vs:List V) (Q:VK),Q8 k A→vA P w K mg base A outer s H→BindsTo s fd args (ps.zip us)→Vals vs us→ud K sp vs H Q E0 →
  codeAny (model P w) A (.call (.ref f) args) (CR (hW P w) outer P w H s Q E0) s
section
variable {P:Program}{w:World}{K:PySem.W.Frag}{mg:Str→Option Value}{base:Heap}
end
section
variable {K:PySem.W.Frag}{X:Cx}{k:Nat}{f:Addr}{fd:FuncData}{ps:List Str}{x:Str}{p pos:Pos}{e:Expr}{es:List Expr}{sp:gN}
end
section
variable {K:PySem.W.Frag}
end
def ZR (pre:Nat) (X:Cx) (e:Expr) (t:TE):Prop:=∀ (pins:List (Addr×Obj)) (s:Shared) (σ:St) (H:Hp) (Q:VK),Inv X pins σ H s→pre≤s.toks→t σ H Q→wpAny (model X.prog X.w) X.A (eval e X.env) (fun u s'=>EP X pins σ Q u s'∧1≤s'.toks) X.xe s
section
variable {X:Cx}{e o:Expr}{t:TE}
end
structure DEg (pre:Nat) (K:PySem.W.Frag) (X:Cx) (e:Expr) (t:TD):Prop where
 of:∀ {b:Bool} (y:Ev X b),ZR pre y.cx e (T K y.E t)
section
variable {K:PySem.W.Frag}{X:Cx}{e o:Expr}
end
theorem V2 {a b:Str} (h:a.cps.toList=b.cps.toList):a=b:=by
 obtain⟨⟨x⟩⟩:=a
 obtain⟨⟨y⟩⟩:=b
 cases h;rfl
end L2
namespace HT
open PySem PySem.Spec PyProof.Rows
section
variable {prog:Program}{w:World}{A:Around}{E:Value→Shared→Prop}{s:Shared}
end
end HT
namespace L2
open PySem PySem.Spec PyProof.Rows
section
variable {K:PySem.W.Frag}{X:Cx}
def Q9:Ek:=fun x ds S R=>∃ a es fs,x=.ref a∧ds=[.tup fs]∧S a=some (.lst es)∧es.length+fs.length≤sizeLine∧R .aw (S.set a (.lst (es++fs)))
theorem CV:KO K "list.extend" Q9:=by
 rintro X hK pins s σ H x xs v us Q I rx rs ⟨d,ds,S,R,r1,r2,hS,⟨a,es,fs,e1,e2,e3,hl,h⟩,hR⟩
 subst e1 e2
 obtain⟨w0,rfl,q2⟩:=r2.one
 obtain⟨zs,e5,t⟩:=hS.lst e3
 obtain⟨p,ys,rfl,q,t2⟩:=q2.tup
 exact yS pins s σ H x _ v us Q I rx rs ⟨a,p,zs,ys,r1.ref,rfl,e5,q,by rw[t.len,t2.len];exact hl,hR.put hS e3 h ic (t.app t2)⟩
end
section
variable {X:Cx}{N:List Str}{src:List (Option Nat)}{scope:Scope}{tg iter elt:Expr}{ifs:List Expr}{pos:Pos}{wi:TI}{g:TG}{tc:TT}{te:TE}
end
section
variable {K:PySem.W.Frag}{X:Cx}{E:XK}{pos:Pos}
structure DEx (K:PySem.W.Frag) (X:Cx) (E:XK) (e:Expr) (t:TD):Prop where
 of:∀ (y:Ev X true),y.E=(fun _=>E)→dA y.cx E→PE y.cx e (T K y.E t)
structure DAx (K:PySem.W.Frag) (X:Cx) (E:XK) (es:List Expr) (t:lL):Prop where
 of:∀ (y:Ev X true),y.E=(fun _=>E)→dA y.cx E→PA y.cx es (Ta K y.E t)
structure DSx (K:PySem.W.Frag) (X:Cx) (E:XK) (b:List Stmt) (t:n8):Prop where
 of:∀ (y:Ev X true),y.E=(fun _=>E)→dA y.cx E→A2 y.cx b (Tl K y.E t)
variable {N:List Str}{src:List (Option Nat)}{scope:Scope}{tg iter elt:Expr}{ifs:List Expr}{ti:yY}{g:TG}{gd:Br}{tc:pX}{te:TD}
end
section
variable {P:Program}{w:World}{K:PySem.W.Frag}{mg:Str→Option Value}{base:Heap}
end
theorem mS (hs:Heap.ExtBut b h h') (n:a≠b) (x:h.IsListIter a l i):h'.IsListIter a l i:=x.extBut hs n
theorem Bw {h h':Heap}{a l:Addr}{i:Nat} (k:∀ o,h.get? a=some o→h'.get? a=some o) (x:h.IsListIter a l i):h'.IsListIter a l i:=by obtain⟨o,e,r⟩:=x;exact⟨o,k o e,r⟩
theorem fA (x:PlainL h a ay):h.IsList a ay:=by obtain⟨o,n,e,c,_,d⟩:=x;exact⟨o,e,c,n,d⟩
theorem tj (x:PlainL h a ay):a<h.objs.size:=by obtain⟨_,_,e,_⟩:=x;exact zp e
section
variable {prog:Program}{w:World}{A:Around}{E:Value→Shared→Prop}{s:Shared}{n l0 l1:Nat}{i:Nat}{fm gA:Array Value}
end
section
variable {K:PySem.W.Frag}{X:Cx}
end
open PySem.Builtin PySem.Builtin.Str
structure M3 (X:Cx) (o:Expr) (m:Str) (apos:Pos) (e f g:Expr) (aR:Pos):Prop where
 base:attributeBase o m X.env (eval o X.env)=eval o X.env
 Eh:((backTo aR (starEach [e,f,g] X.env)).all (fun x=>!x.1) && (backToKw aR (keywordEach [] X.env)).all (fun x=>x.1.isSome)
  && decide (([e,f,g]:List Expr).length+([]:List Keyword).length+(if ([]:List Keyword).isEmpty then 0 else 1)<30))=true
 line:(apos.endLine == aR.line)=true
 trees:backTo aR (starEach [e,f,g] X.env)=[(false,eval e X.env),(false,eval f X.env),(false,eval g X.env)]
section
variable {X:Cx}{e o:Expr}{t:TE}
def ZS (pre:Nat) (X:Cx) (es:List Expr) (t:TA):Prop :=
 ∀ (pos:Pos) (pins:List (Addr×Obj)) (s:Shared) (σ:St) (H:Hp) (Q:List V→Hp→Prop),Inv X pins σ H s→pre≤s.toks→t σ H Q→wpAny (model X.prog X.w) X.A (spliced (backTo pos (starEach es X.env))) (AP X pins σ Q) X.xe s
end
section
variable {K:PySem.W.Frag}{X:Cx}{e o:Expr}
structure DAg (pre:Nat) (K:PySem.W.Frag) (X:Cx) (es:List Expr) (t:lL):Prop where
 of:∀ {b:Bool} (y:Ev X b),ZS pre y.cx es (Ta K y.E t)
end
structure Gh (a₀:Array Keyed) (g:Nat→Nat) (xs:Array Keyed):Prop where
 at_:∀ k,k<a₀.size→xs[k]?=a₀[g k]?
 lt:∀ k,k<a₀.size→g k<a₀.size
 inj:∀ i j,i<a₀.size→j<a₀.size→g i=g j→i=j
def Log (κ:KeyKind) (a₀:Array Keyed) (i j:Nat):Prop:=κ.klt (KK κ a₀ i) (KK κ a₀ j)∨(KK κ a₀ i=KK κ a₀ j∧i<j)
def y3 (κ:KeyKind) (a₀:Array Keyed) (g:Nat→Nat) (k:Nat):Prop:=∀ i j,i<j→j<k→Log κ a₀ (g i) (g j)
def SN (κ:KeyKind) (a₀:Array Keyed) (g:Nat→Nat) (k:Nat):Prop:=∀ i j,i<j→j<k→Log κ a₀ (g j) (g i)
def CW (g:Nat→Nat) (m n:Nat):Prop:=∀ k,m≤k→k<n→g k=k
def Fz (g:Nat→Nat) (i j k:Nat):Nat:=if i≤k∧k<j then g (i+j - 1 - k) else g k
def Jc (g:Nat→Nat) (src l k:Nat):Nat:=if k=l then g src else if l<k∧k≤src then g (k - 1) else g k
section
variable {κ:KeyKind}{a₀ xs:Array Keyed}{g:Nat→Nat}
theorem Log.kle (h:Log κ a₀ i j):κ.kle (KK κ a₀ i) (KK κ a₀ j):=by
 rcases h with h | ⟨h,_⟩
 ·exact KeyOrd.kle_of_klt h
 ·rw[h];exact KeyOrd.kle_refl _
theorem K0 (h:κ.kle (KK κ a₀ i) (KK κ a₀ j)) (hl:i<j):Log κ a₀ i j:=by
 cases q:κ.blt (KK κ a₀ i) (KK κ a₀ j) with
 | true=>exact .inl q
 | false=>exact .inr ⟨KeyOrd.kle_antisymm h q,hl⟩
theorem Gh.low (h:Gh a₀ g xs) (t:CW g m a₀.size) (hm:m≤a₀.size) (hi:i<m):g i<m:=by
 refine Nat.lt_of_not_le fun q=>?_
 have h1:=h.lt i (by omega)
 have h2:=h.inj (g i) i h1 (by omega) (t (g i) q h1)
 omega
theorem Gh.key (h:Gh a₀ g xs) (hk:k<a₀.size):KK κ xs k=KK κ a₀ (g k):=KK_congr (h.at_ k hk)
theorem Gh.mirror (h:Gh a₀ g xs) (hs:xs.size=a₀.size) (hj:j≤a₀.size):Gh a₀ (Fz g i j) (mirror xs i j ((j - i) / 2)) where
 at_:=fun k hk=>by
  rw[getElem?_mirror_all (by omega)]
  unfold Fz
  by_cases q:i≤k∧k<j
  ·rw[if_pos q,if_pos q];exact h.at_ _ (by omega)
  ·rw[if_neg q,if_neg q];exact h.at_ _ hk
 lt:=fun k hk=>by
  unfold Fz
  by_cases q:i≤k∧k<j
  ·rw[if_pos q];exact h.lt _ (by omega)
  ·rw[if_neg q];exact h.lt _ hk
 inj:=fun a b ha hb e=>by
  unfold Fz at e
  by_cases q:i≤a∧a<j <;> by_cases r:i≤b∧b<j
  ·rw[if_pos q,if_pos r] at e;have:=h.inj _ _ (by omega) (by omega) e;omega
  ·rw[if_pos q,if_neg r] at e;have:=h.inj _ _ (by omega) (by omega) e;omega
  ·rw[if_neg q,if_pos r] at e;have:=h.inj _ _ (by omega) (by omega) e;omega
  ·rw[if_neg q,if_neg r] at e;exact h.inj _ _ ha hb e
theorem Gh.bubble (h:Gh a₀ g xs) (hs:xs.size=a₀.size) (hl:l≤src) (hj:src<a₀.size):Gh a₀ (Jc g src l) (bubble xs src (src - l)) where
 at_:=fun k hk=>by
  rw[getElem?_bubble (by omega) _ (by omega),show src - (src - l)=l by omega]
  unfold Jc
  by_cases q:k=l
  ·rw[if_pos q,if_pos q];exact h.at_ _ hj
  ·rw[if_neg q,if_neg q]
   by_cases r:l<k∧k≤src
   ·rw[if_pos r,if_pos r];exact h.at_ _ (by omega)
   ·rw[if_neg r,if_neg r];exact h.at_ _ hk
 lt:=fun k hk=>by
  unfold Jc
  by_cases q:k=l
  ·rw[if_pos q];exact h.lt _ hj
  ·rw[if_neg q]
   by_cases r:l<k∧k≤src
   ·rw[if_pos r];exact h.lt _ (by omega)
   ·rw[if_neg r];exact h.lt _ hk
 inj:=fun a b ha hb e=>by
  unfold Jc at e
  repeat' split at e
  all_goals (have:=h.inj _ _ (by omega) (by omega) e;omega)
theorem ik (h:i≤k∧k<j):Fz g i j k=g (i+j - 1 - k):=by unfold Fz;rw[if_pos h]
theorem f9 (h:¬ (i≤k∧k<j)):Fz g i j k=g k:=by unfold Fz;rw[if_neg h]
end
section
variable {prog:Program}{w:World}{A:Around}{E:Value→Shared→Prop}{s:Shared}{a₀:Array Keyed}{κ:KeyKind}
theorem K1 {st:SortSt}{g:Nat→Nat}{a top:Nat}{Q:AscSt→SortSt→Prop} (hO:κ.OneLt) (h0:KeysOf κ a₀) (ht:top≤a₀.size) (h1:1≤a) (h2:a≤top) (B:SBase a₀ st) (G:Gh a₀ g (arrOf st)) (T:CW g a a₀.size) (U:y3 κ a₀ g a)
  (h:∀ n,a≤n→n≤top→y3 κ a₀ g n→(n=top∨κ.klt (KK κ a₀ (g n)) (KK κ a₀ (g (n - 1))))→Q (none,n) st):wpS (model prog w) A E s (ascLoop a top) Q st:=by
 unfold ascLoop
 refine wpS_forRange (I:=fun x c t=>t=st∧c=(none,x)∧y3 κ a₀ g x) ?_ ?_ ⟨rfl,rfl,U⟩
 ·rintro x c t Jd Em ⟨rfl,rfl,V⟩
  dsimp only
  refine wpS_bind (wpS_ltKK hO B h0 (by omega) (by omega) ?_)
  rw[G.key (by omega),G.key (by omega)]
  cases q:κ.blt (KK κ a₀ (g x)) (KK κ a₀ (g (x - 1))) with
  | true=>exact wpS_pure (h x Jd (by omega) V (.inr q))
  | false =>
   refine wpS_pure ⟨rfl,rfl,fun i j kH hj=>?_⟩
   rcases Nat.lt_or_ge j x with z | z
   ·exact V i j kH z
   ·obtain rfl:j=x:=by omega
    have lw:=G.low (m:=j) (fun k hk gC=>T k (by omega) gC) (by omega) kH
    rw[T j Jd (by omega)] at q ⊢
    refine K0 ?_ lw
    rcases Nat.lt_or_ge i (j - 1) with y | y
    ·exact KeyOrd.kle_trans (V i (j - 1) y (by omega)).kle q
    ·obtain rfl:i=j - 1:=by omega
     exact q
 ·rintro c t ⟨rfl,rfl,V⟩
  rw[show max a top=top by omega] at V ⊢
  exact h top h2 (zm _) V (.inl rfl)
theorem FA {st:SortSt}{g:Nat→Nat}{n top:Nat}{Q:Option Nat→SortSt→Prop} (hO:κ.OneLt) (h0:KeysOf κ a₀) (ht:top≤a₀.size) (h1:1≤n) (h2:n≤top) (B:SBase a₀ st) (G:Gh a₀ g (arrOf st)) (T:CW g n a₀.size) (D:SN κ a₀ g n)
  (h:∀ m g' eZ,SBase a₀ eZ→Gh a₀ g' (arrOf eZ)→CW g' m a₀.size→1≤m→m≤top→y3 κ a₀ g' m→Q (some m) eZ):wpS (model prog w) A E s (tail3 n top) Q st:=by
 unfold tail3
 refine wpS_bind (wpS_reverse ?_)
 have B':SBase a₀ (setArr st (mirror (arrOf st) 0 n ((n - 0) / 2))):=B.setArr (mirror_perm _ _ _ _)
 have G':Gh a₀ (Fz g 0 n) (arrOf (setArr st (mirror (arrOf st) 0 n ((n - 0) / 2)))):=G.mirror B.size (by omega)
 have T':CW (Fz g 0 n) n a₀.size:=fun k hk gC=>by rw[f9 (by omega)];exact T k hk gC
 refine wpS_bind (K1 hO h0 ht h1 h2 B' G' T' (fun i j kH hj=>?_) fun m XX OO V _=>wpS_pure (h m _ _ B' G' (fun k hk gC=>T' k (by omega) gC) (by omega) OO V))
 rw[ik (by omega),ik (by omega)]
 exact D _ _ (by omega) (by omega)
structure HD (κ:KeyKind) (a₀:Array Keyed) (g:Nat→Nat) (x q:Nat):Prop where
 le:q+1≤x
 tl:CW g (x - (q+1)) a₀.size
 dn:∀ i j,i<j→j<x→i<x - (q+1)→Log κ a₀ (g j) (g i)
 eq:∀ i,x - (q+1)≤i→i<x→KK κ a₀ (g i)=KK κ a₀ (g (x - 1))
theorem HD.full (F:HD κ a₀ g x q) (hx:x≤a₀.size):SN κ a₀ (Fz g (x - (q+1)) x) x:=fun i j kH hj=>by
 have le:=F.le
 by_cases hi:i<x - (q+1)
 ·rw[f9 (k:=i) (by omega)]
  by_cases SO:j<x - (q+1)
  ·rw[f9 (by omega)];exact F.dn i j kH hj hi
  ·rw[ik (by omega)];exact F.dn i _ (by omega) (by omega) hi
 ·rw[ik (by omega),ik (by omega)]
  refine .inr ⟨(F.eq _ (by omega) (by omega)).trans (F.eq _ (by omega) (by omega)).symm,?_⟩
  rw[F.tl _ (by omega) (by omega),F.tl _ (by omega) (by omega)];omega
theorem HD.K2 (F:HD κ a₀ g x 0):SN κ a₀ g x:=fun i j kH hj=>F.dn i j kH hj (by omega)
theorem HD.next (D:SN κ a₀ g x) (T:CW g x a₀.size) (hx:x<a₀.size) (h1:1≤x) (hl:κ.klt (KK κ a₀ (g x)) (KK κ a₀ (g (x - 1)))):HD κ a₀ g (x+1) 0 where
 le:=by omega
 tl:=fun k hk gC=>T k (by omega) gC
 dn:=fun i j kH hj hi=>by
  by_cases SO:j<x
  ·exact D i j kH SO
  ·obtain rfl:j=x:=by omega
   refine .inl ?_
   by_cases q:i=j - 1
   ·rw[q];exact hl
   ·exact KeyOrd.klt_of_klt_of_kle hl (D i (j - 1) (by omega) (by omega)).kle
 eq:=fun i hi hj=>by rw[show i=x+1 - 1 by omega]
theorem Nv {st:SortSt}{g:Nat→Nat}{n top:Nat}{Q:DescSt→SortSt→Prop} (hO:κ.OneLt) (h0:KeysOf κ a₀) (ht:top≤a₀.size) (h1:1≤n) (h2:n≤top) (B:SBase a₀ st) (G:Gh a₀ g (arrOf st)) (F:HD κ a₀ g n 0)
  (h:∀ m q g' eZ,SBase a₀ eZ→Gh a₀ g' (arrOf eZ)→n≤m→m≤top→HD κ a₀ g' m q→Q (none,m,q) eZ):wpS (model prog w) A E s (descLoop n top) Q st:=by
 unfold descLoop
 refine wpS_forRange (I:=fun x c t=>∃ q g',c=(none,x,q)∧SBase a₀ t∧Gh a₀ g' (arrOf t)∧HD κ a₀ g' x q) ?_ ?_ ⟨0,g,rfl,B,G,F⟩
 ·rintro x c t Jd Em ⟨q,g',rfl,B',G',F'⟩
  have le:=F'.le
  dsimp only
  refine wpS_bind (wpS_ltKK hO B' h0 (by omega) (by omega) ?_)
  rw[G'.key (by omega),G'.key (by omega)]
  cases hl:κ.blt (KK κ a₀ (g' x)) (KK κ a₀ (g' (x - 1))) with
  | true =>
   simp only [if_true]
   by_cases hq:q>0
   ·rw[if_pos hq]
    refine wpS_bind (wpS_reverse (wpS_pure ⟨0,_,rfl,B'.setArr (mirror_perm _ _ _ _),G'.mirror B'.size (by omega),?_⟩))
    refine .next (F'.full (by omega)) (fun k hk gC=>?_) (by omega) (by omega) ?_
    ·rw[f9 (by omega)];exact F'.tl k (by omega) gC
    ·rw[f9 (by omega),ik (by omega),F'.eq (x - (q+1)+x - 1 - (x - 1)) (by omega) (by omega)];exact hl
   ·rw[if_neg hq]
    obtain rfl:q=0:=by omega
    exact wpS_pure ⟨0,g',rfl,B',G',.next F'.K2 (fun k hk gC=>F'.tl k (by omega) gC) (by omega) (by omega) hl⟩
  | false =>
   simp only [Bool.false_eq_true,if_false]
   refine wpS_bind (wpS_ltKK hO B' h0 (by omega) (by omega) ?_)
   rw[G'.key (by omega),G'.key (by omega)]
   cases hg:κ.blt (KK κ a₀ (g' (x - 1))) (KK κ a₀ (g' x)) with
   | true=>exact wpS_pure (h x q g' t B' G' Jd (by omega) F')
   | false =>
    have e:KK κ a₀ (g' x)=KK κ a₀ (g' (x - 1)):=KeyOrd.kle_antisymm hg hl
    refine wpS_pure ⟨q+1,g',rfl,B',G',⟨by omega,fun k hk gC=>F'.tl k (by omega) gC,fun i j kH hj hi=>?_,fun i hi hj=>?_⟩⟩
    ·by_cases SO:j<x
     ·exact F'.dn i j kH SO (by omega)
     ·obtain rfl:j=x:=by omega
      have:=F'.dn i (j - 1) (by omega) (by omega) (by omega)
      rcases this with z | ⟨_,z⟩
      ·exact .inl (by rw[e];exact z)
      ·rw[F'.tl (j - 1) (by omega) (by omega)] at z
       have:=G'.low (m:=j - (q+1)) F'.tl (by omega) (i:=i) (by omega)
       omega
    ·rw[show x+1 - 1=x by omega]
     by_cases VV:i=x
     ·rw[VV]
     ·rw[e];exact F'.eq i (by omega) (by omega)
 ·rintro c t ⟨q,g',rfl,B',G',F'⟩
  rw[show max n top=top by omega] at F' ⊢
  exact h top q g' t B' G' h2 (zm _) F'
theorem FC {st:SortSt}{g:Nat→Nat}{n top:Nat}{Q:Option Nat→SortSt→Prop} (hO:κ.OneLt) (h0:KeysOf κ a₀) (ht:top≤a₀.size) (h2:n+1≤top) (B:SBase a₀ st) (G:Gh a₀ g (arrOf st)) (F:HD κ a₀ g (n+1) 0)
  (h:∀ m g' eZ,SBase a₀ eZ→Gh a₀ g' (arrOf eZ)→CW g' m a₀.size→1≤m→m≤top→y3 κ a₀ g' m→Q (some m) eZ):wpS (model prog w) A E s (descPart n top) Q st:=by
 unfold descPart
 refine wpS_bind (wpS_lift (yJ ⟨rfl,?_⟩))
 refine wpS_bind (Nv hO h0 ht (by omega) h2 B G F fun m q g' eZ B' G' XX OO F'=>?_)
 have le:=F'.le
 dsimp only
 by_cases hq:q>0
 ·rw[if_pos hq]
  refine wpS_bind (wpS_reverse (FA hO h0 ht (by omega) OO (B'.setArr (mirror_perm _ _ _ _)) (G'.mirror B'.size (by omega)) (fun k hk gC=>?_) (F'.full (by omega)) h))
  rw[f9 (by omega)];exact F'.tl k (by omega) gC
 ·rw[if_neg hq]
  obtain rfl:q=0:=by omega
  exact FA hO h0 ht (by omega) OO B' G' (fun k hk gC=>F'.tl k (by omega) gC) F'.K2 h
theorem Q_ {st:SortSt}{g:Nat→Nat}{top:Nat}{Q:Option Nat→SortSt→Prop} (hO:κ.OneLt) (h0:KeysOf κ a₀) (ht:top≤a₀.size) (h1:1≤top) (B:SBase a₀ st) (G:Gh a₀ g (arrOf st)) (T:CW g 0 a₀.size)
  (h:∀ m g' eZ,SBase a₀ eZ→Gh a₀ g' (arrOf eZ)→CW g' m a₀.size→1≤m→m≤top→y3 κ a₀ g' m→Q (some m) eZ):wpS (model prog w) A E s (countRun' 0 top) Q st:=by
 rw[countRun0_eq]
 refine wpS_bind (K1 hO h0 ht (zm 1) h1 B G (fun k hk gC=>T k (by omega) gC) (fun i j kH hj=>by omega) fun n SQ Mi U ZT=>?_)
 dsimp only
 have Tn:∀ m,CW g m a₀.size:=fun m k hk gC=>T k (by omega) gC
 by_cases Rb:n=top
 ·rw[if_pos (by simpa using Rb)]
  exact wpS_pure (h n g st B G (Tn n) SQ Mi U)
 ·rw[if_neg (by simpa using Rb)]
  have fz:=ZT.resolve_left Rb
  by_cases SR:n>1
  ·rw[if_pos SR]
   refine wpS_bind (wpS_ltKK hO B h0 (by omega) (by omega) ?_)
   rw[G.key (by omega),G.key (by omega)]
   cases hr:κ.blt (KK κ a₀ (g 0)) (KK κ a₀ (g (n - 1))) with
   | true=>exact wpS_pure (h n g st B G (Tn n) SQ Mi U)
   | false =>
    simp only [Bool.false_eq_true,if_false]
    have all:∀ k,k<n→KK κ a₀ (g k)=KK κ a₀ (g (n - 1)):=fun k hk=>by
     have a1:κ.kle (KK κ a₀ (g 0)) (KK κ a₀ (g k)):=by
      by_cases z:k=0
      ·rw[z];exact KeyOrd.kle_refl _
      ·exact (U 0 k (by omega) hk).kle
     have a2:κ.kle (KK κ a₀ (g k)) (KK κ a₀ (g (n - 1))):=by
      by_cases z:k=n - 1
      ·rw[z];exact KeyOrd.kle_refl _
      ·exact (U k (n - 1) (by omega) (by omega)).kle
     exact KeyOrd.kle_antisymm a2 (KeyOrd.kle_trans hr a1)
    refine wpS_bind (wpS_reverse (FC hO h0 ht (by omega) (B.setArr (mirror_perm _ _ _ _)) (G.mirror B.size (by omega)) ?_ h))
    refine .next (fun i j kH hj=>?_) (fun k hk gC=>by rw[f9 (by omega)];exact T k (by omega) gC) (by omega) (by omega) ?_
    ·rw[ik (by omega),ik (by omega)]
     refine .inr ⟨(all _ (by omega)).trans (all _ (by omega)).symm,?_⟩
     rw[T _ (by omega) (by omega),T _ (by omega) (by omega)];omega
    ·rw[f9 (by omega),ik (by omega),all (0+n - 1 - (n - 1)) (by omega)];exact fz
  ·rw[if_neg SR]
   obtain rfl:n=1:=by omega
   exact FC hO h0 ht (by omega) B G (.next (fun i j kH hj=>by omega) (Tn 1) (by omega) (by omega) fz) h
theorem Rf {st:SortSt}{g:Nat→Nat}{n ok:Nat}{Q:Bool→SortSt→Prop} (hO:κ.OneLt) (h0:KeysOf κ a₀) (hn:n≤a₀.size) (aJ:ok≤n) (B:SBase a₀ st) (G:Gh a₀ g (arrOf st)) (T:CW g ok a₀.size) (U:y3 κ a₀ g ok)
  (h:∀ g' eZ,SBase a₀ eZ→Gh a₀ g' (arrOf eZ)→y3 κ a₀ g' n→Q true eZ):wpS (model prog w) A E s (binarySort' 0 n ok) Q st:=by
 rw[binarySort'_eq]
 simp only [Nat.zero_add]
 refine wpS_bind (wpS_mono (wpS_forRange (I:=fun k c t=>c=(none,())∧∃ g',SBase a₀ t∧Gh a₀ g' (arrOf t)∧CW g' k a₀.size∧y3 κ a₀ g' (min k n)) (Q:=fun c t=>c=(none,())∧∃ g',SBase a₀ t∧Gh a₀ g' (arrOf t)∧y3 κ a₀ g' n) ?_ ?_ ?_) ?_)
 ·rintro k c t XY gC ⟨rfl,g',B',G',T',V⟩
  rw[show min k n=k by omega] at V
  have hk:k<a₀.size:=by omega
  refine wpS_bind (wpS_mono (wpS_forRange (I:=fun x c t2=>t2=t∧∃ l r,c=(none,l,r)∧l≤r∧r≤k∧r - l≤k - x∧(∀ i,i<l→κ.kle (KK κ a₀ (g' i)) (KK κ a₀ (g' k)))∧(∀ i,r≤i→i<k→κ.klt (KK κ a₀ (g' k)) (KK κ a₀ (g' i))))
   (Q:=fun c t2=>t2=t∧∃ l r,c=(none,l,r)∧l≤k∧(∀ i,i<l→κ.kle (KK κ a₀ (g' i)) (KK κ a₀ (g' k)))∧(∀ i,l≤i→i<k→κ.klt (KK κ a₀ (g' k)) (KK κ a₀ (g' i)))) ?_ ?_ ?_) ?_)
  ·rintro x c t2 _ hxk ⟨rfl,l,r,rfl,FD,V3,hm,lo,hi⟩
   dsimp only
   by_cases XZ:l≥r
   ·rw[if_pos XZ]
    obtain rfl:l=r:=by omega
    exact wpS_pure ⟨rfl,l,l,rfl,V3,lo,hi⟩
   ·rw[if_neg XZ]
    refine wpS_bind (wpS_ltKK hO B' h0 hk (by omega) ?_)
    rw[G'.key hk,G'.key (by omega)]
    cases hl:κ.blt (KK κ a₀ (g' k)) (KK κ a₀ (g' ((l+r) / 2))) with
    | true =>
     refine wpS_pure ⟨rfl,l,(l+r) / 2,rfl,by omega,by omega,by omega,lo,fun i a b=>?_⟩
     by_cases z:i=(l+r) / 2
     ·rw[z];exact hl
     ·exact KeyOrd.klt_of_klt_of_kle hl (V _ _ (by omega) b).kle
    | false =>
     refine wpS_pure ⟨rfl,(l+r) / 2+1,r,rfl,by omega,by omega,by omega,fun i a=>?_,hi⟩
     by_cases z:i=(l+r) / 2
     ·rw[z];exact hl
     ·exact KeyOrd.kle_trans (V i ((l+r) / 2) (by omega) (by omega)).kle hl
  ·rintro c t2 ⟨rfl,l,r,rfl,FD,V3,hm,lo,hi⟩
   obtain rfl:l=r:=by omega
   exact⟨rfl,l,l,rfl,V3,lo,hi⟩
  ·exact⟨rfl,0,k,rfl,by omega,by omega,by omega,fun i hi=>by omega,fun i a b=>by omega⟩
  ·rintro c t2 ⟨rfl,l,r,rfl,V4,lo,hi⟩
   show wpS _ _ _ _ (do moveDown' k l;pure (ForInStep.yield (none,()))) _ _
   rw[moveDown'_eq]
   refine wpS_bind (wpS_modify (wpS_pure ⟨rfl,_,B'.setArr (bubble_perm _ _ _),G'.bubble B'.size V4 hk,fun x Jd Em=>?_,?_⟩))
   ·show Jc g' k l x=x
    unfold Jc
    rw[if_neg (by omega),if_neg (by omega)]
    exact T' x (by omega) Em
   ·rw[show min (k+1) n=k+1 by omega]
    have lw:∀ i,i<k→g' i<k:=fun i q=>G'.low T' (by omega) q
    have ek:=T' k (zm _) hk
    intro i j kH hj
    show Log κ a₀ (Jc g' k l i) (Jc g' k l j)
    unfold Jc
    by_cases i1:i=l
    ·rw[if_pos i1,if_neg (by omega),if_pos (by omega)]
     exact .inl (hi _ (by omega) (by omega))
    ·rw[if_neg i1]
     by_cases j1:j=l
     ·rw[if_pos j1,if_neg (by omega)]
      have h1:=lo i (by omega)
      have h2:=lw i (by omega)
      rw[ek] at h1 ⊢
      exact K0 h1 h2
     ·rw[if_neg j1]
      by_cases i2:l<i∧i≤k <;> by_cases j2:l<j∧j≤k
      ·rw[if_pos i2,if_pos j2];exact V _ _ (by omega) (by omega)
      ·omega
      ·rw[if_neg i2,if_pos j2];exact V _ _ (by omega) (by omega)
      ·rw[if_neg i2,if_neg j2];exact V _ _ (by omega) (by omega)
 ·rintro c t ⟨hc,g',B',G',T',V⟩
  refine⟨hc,g',B',G',?_⟩
  rwa [show min (max (max ok 1) n) n=n by omega] at V
 ·refine⟨rfl,g,B,G,fun k hk gC=>T k (by omega) gC,fun i j kH hj=>?_⟩
  exact U i j kH (by omega)
 ·rintro c t ⟨rfl,g',B',G',V⟩
  exact wpS_pure (h g' t B' G' V)
def Nw (κ:KeyKind) (a₀:Array Keyed) (st:SortSt):Prop:=failedOf st=none∧pendingOf st=#[(0,a₀.size,0)]∧∃ g,(arrOf st).size=a₀.size∧Gh a₀ g (arrOf st)∧y3 κ a₀ g a₀.size
theorem Nx {st:SortSt}{Q:Unit→SortSt→Prop} (hO:κ.OneLt) (h0:KeysOf κ a₀) (B:SBase a₀ st) (e0:arrOf st=a₀) (h2:2≤a₀.size) (En:a₀.size<64)
  (h:∀ eZ g,failedOf eZ=none→(arrOf eZ).size=a₀.size→Gh a₀ g (arrOf eZ)→y3 κ a₀ g a₀.size→Q () eZ):wpS (model prog w) A E s sortRuns' Q st:=by
 have G:Gh a₀ (fun k=>k) (arrOf st):=⟨fun k _=>by rw[e0],fun k hk=>hk,fun _ _ _ _ e=>e⟩
 have fin:∀ (t:SortSt) (g:Nat→Nat),SBase a₀ t→Gh a₀ g (arrOf t)→y3 κ a₀ g a₀.size→Nw κ a₀ (setPending t ((pendingOf t).push (0,a₀.size,0))):=fun t g B' G' U=>⟨B'.failed,by show (pendingOf t).push _=_;rw[B'.pend];rfl,g,B'.size,G',U⟩
 rw[sortRuns'_eq]
 refine wpS_bind (wpS_get ?_)
 dsimp only
 have hm:minRun' a₀.size a₀.size 0=a₀.size:=by
  obtain⟨f,hf⟩:∃ f,a₀.size=f+1:=⟨a₀.size - 1,by omega⟩
  have:minRun' (f+1) a₀.size 0=a₀.size:=by rw[minRun'_succ,if_pos En];rfl
  rwa [← hf] at this
 simp only [B.size,hm]
 refine wpS_bind (wpS_mono (wpS_forRange (I:=fun x c t=>(x=0∧c=(none,0)∧t=st)∨(1≤x∧c=(none,a₀.size)∧Nw κ a₀ t)) (Q:=fun c t=>c=(none,a₀.size)∧Nw κ a₀ t) ?_ ?_ (.inl ⟨rfl,rfl,rfl⟩)) ?_)
 ·rintro x c t _ hx (⟨rfl,rfl,rfl⟩ | ⟨Jd,rfl,D⟩)
  ·dsimp only
   rw[if_neg (by omega)]
   simp only [Nat.sub_zero,Nat.min_self,Nat.zero_add]
   refine wpS_bind (Q_ hO h0 (zm _) (by omega) B G (fun _ _ _=>rfl) fun m g' t2 B2 G2 T2 XX OO U2=>?_)
   dsimp only
   by_cases fz:m<a₀.size
   ·rw[if_pos fz]
    refine wpS_bind (wpS_lift (yJ ⟨rfl,?_⟩))
    refine wpS_bind (Rf hO h0 (zm _) OO B2 G2 T2 U2 fun g3 t3 B3 G3 U3=>?_)
    simp only [Bool.not_true,Bool.false_eq_true,if_false]
    refine wpS_bind (wpS_get ?_)
    rw[show (pendingOf t3).back?=none by rw[B3.pend];rfl]
    dsimp only
    exact wpS_bind (wpS_modify (wpS_pure (.inr ⟨by omega,rfl,fin t3 g3 B3 G3 U3⟩)))
   ·rw[if_neg fz]
    obtain rfl:m=a₀.size:=by omega
    refine wpS_bind (wpS_get ?_)
    rw[show (pendingOf t2).back?=none by rw[B2.pend];rfl]
    dsimp only
    exact wpS_bind (wpS_modify (wpS_pure (.inr ⟨by omega,rfl,fin t2 g' B2 G2 U2⟩)))
  ·dsimp only
   rw[if_pos (zm _)]
   exact wpS_pure ⟨rfl,D⟩
 ·rintro c t (⟨hx,_,_⟩ | ⟨_,hc,D⟩)
  ·omega
  ·exact⟨hc,D⟩
 ·rintro c t ⟨rfl,D⟩
  dsimp only
  obtain⟨d1,d2,g,d3,d4,d5⟩:=D
  refine wpS_bind (wpS_mono (wpS_forRange (I:=fun _ c t2=>t2=t∧c=(none,())) (Q:=fun c t2=>t2=t∧c=(none,())) ?_ (fun _ _ z=>z) ⟨rfl,rfl⟩) ?_)
  ·rintro x c t2 _ _ ⟨rfl,rfl⟩
   refine wpS_bind (wpS_get ?_)
   rw[if_pos (by rw[d2];exact zm 1)]
   exact wpS_pure ⟨rfl,rfl⟩
  ·rintro c t2 ⟨rfl,rfl⟩
   exact wpS_pure (h _ g d1 d3 d4 d5)
end
abbrev Je (X:Cx) (qual:Str) (scope:Scope) (L f:Addr) (cv:Value):Env:=envX qual scope L f cv (clOf X.env.cells scope.names)
def OP (X:Cx) (N:List Str) (qual:Str) (scope:Scope) (f:Addr) (cv:Value) (A:Around) (s:Shared) (H:Hp):Cx :=
 { X with A:=A.deeper (Je X qual scope s.heap.objs.size f cv),N:=N,dr:=s,tP:=H,env:=Je X qual scope s.heap.objs.size f cv,outer:=X.stack,stack:=Je X qual scope s.heap.objs.size f cv :: X.stack,ex:=[],fn:=fun _=>false,calm:=true,pn:=[],xe:=fun _ _=>False }
abbrev vU (X:Cx) (qual:Str) (params:Arguments) (body:Expr) (scope:Scope) (pm cv lC:Value):Obj :=
 { cls:=.type "function",data:=.func (kla_fn "<lambda>" qual params body scope (clOf X.env.cells scope.names) pm cv lC) }
section
variable {X:Cx}{pins:List (Addr×Obj)}{σ:St}{H:Hp}{s:Shared}{N:List Str}{src:List (Option Nat)}{scope:Scope}{params:Arguments}{body:Expr}{qual p:Str}{pm cv lC u:Value}{f:Addr}{A:Around}{v:V}{te:TE}{Q:VK}
theorem Jf (I:Inv X pins σ H s) (S:bK X N src scope) (Jg:N[0]?=some p) (hp:scope.names.lookup p=some .local) (h0:src[0]?=some none) (MU:A.frames=some X.stack) (hh:A.handled=none) (r:RelV v u)
  (Ny:h₁.Ns s.heap.objs.size fun x=>[(p,u)].reverse.lookup x) (old:∀ b o,s.heap.get? b=some o→h₁.get? b=some o) :
  Inv (OP X N qual scope f cv A s H) [] ((pick σ src).set 0 (some v)) H { s with heap:=h₁,toks:=tk }:=by
 have iL:∀ x c,(clOf X.env.cells scope.names).lookup x=some c→X.env.cells.lookup x=some c:=pM X.env.cells scope.names [] (by intro x c h;simp at h)
 have Ia:∀ b:Addr,b∉(OP X N qual scope f cv A s H).ex:=fun b z=>absurd (show b∈([]:List Addr) from z) (by simp)
 have xU:∀ x,scope.names.lookup x=some .free→∃ c,(clOf X.env.cells scope.names).lookup x=some c:=fun x hl=>by
  have hm:=ya hl
  obtain⟨c,Ir⟩:=I.ok.has x (S.xU _ hm rfl)
  exact⟨c,i5 X.env.cells scope.names [] x c (by intro x c h;simp at h) hm Ir⟩
 refine⟨⟨I.ok.mod,S.kind,rfl,rfl,zm _,fun x y c h1 h2=>I.ok.inj x y c (iL _ _ h1) (iL _ _ h2),fun x hk=>?_,fun x c h=>(nomatch h),fun _=>hh,Around.frames_deeper MU,.inr ⟨rfl,rfl⟩,fun b z=>absurd z (Ia b),I.bs,zG I.ok.HJ I.sz,fun b _ _=>Ia b,fun b z=>absurd z (Ia b),I.stack,I.o_⟩,
  rfl,I.bare,Un.kept old,⟨_,Ny,fun i x w e1 e2 e3=>?_⟩,fun x c e=>?_,I.aJ.fresh (zm _),fun x c e=>I.f6 x c (iL x c e),fun q hq=>absurd (show q∈([]:List (Addr×Obj)) from hq) (by simp),I.aJ.kept old,?_⟩
 ·have hk:scope.names.lookup x=some .cell∨scope.names.lookup x=some .free:=hk
  rcases hk with hk | hk
  ·exact absurd rfl (S.gz _ (ya hk))
  ·exact xU x hk
 ·have e1:N[i]?=some x:=e1
  by_cases hi:i=0
  ·subst hi
   rw[Jg] at e1;cases e1
   have hl:0<(pick σ src).length:=by unfold pick;rw[zc];exact (zo.mp h0).1
   rw[List.getElem?_set_self hl] at e2
   cases e2
   exact⟨u,r,.inl ⟨hp,by simp [zT]⟩⟩
  ·rw[List.getElem?_set_ne (Ne.symm hi)] at e2
   unfold pick at e2
   rw[zx] at e2
   cases es:src[i]? with
   | none=>rw[es] at e2;cases e2
   | some o =>
    rw[es] at e2
    cases o with
    | none=>cases e2
    | some j =>
     have e3:(σ[j]?).join=some w:=zO e2
     have e4:σ[j]?=some (some w):=by
      cases q:σ[j]? with
      | none=>rw[q] at e3;cases e3
      | some z=>rw[q] at e3;exact congrArg some e3
     obtain⟨a1,a2,a3⟩:=S.src i j x es e1
     obtain⟨m0,_,hl⟩:=I.loc
     obtain⟨u',r',l⟩:=hl j x w a1 e4 a3
     have hm:=ya a2
     have hk:=S.xU _ hm rfl
     rcases l with ⟨k,_⟩ | ⟨_,c,Ir,⟨o,ho,hd⟩⟩
     ·rcases hk with hk | hk <;> (rw[k] at hk;cases hk)
     ·exact⟨u',r',.inr ⟨.inr a2,c,i5 X.env.cells scope.names [] x c (by intro x c h;simp at h) hm Ir,o,old _ _ ho,hd⟩⟩
 ·obtain⟨w,o,ho,hd⟩:=I.cell x c (iL x c e)
  exact⟨w,o,old _ _ ho,hd⟩
 ·show ((pick σ src).set 0 (some v)).length=N.length
  unfold pick
  rw[List.length_set,zc,S.len]
theorem FE (I:Inv X pins σ H s) (S:bK X N src scope) (Jg:N[0]?=some p) (hp:scope.names.lookup p=some .local) (h0:src[0]?=some none) (MU:A.frames=some X.stack) (hh:A.handled=none) (Rh:A.depth<recursionLimit) (r:RelV v u)
  (ho:s.heap.get? f=some (vU X qual params body scope pm cv lC)) (q9:s.heap.CodeRec cv qual) (E8:scope.isCoroutine=false) (y4:scope.isGenerator=false)
  (hb:bindArgs (kla_fn "<lambda>" qual params body scope (clOf X.env.cells scope.names) pm cv lC) ⟨[u],[]⟩=pure [(p,u)])
  (he:PE (OP X N qual scope f cv A s H) body te) (h:te ((pick σ src).set 0 (some v)) H Q) :
  codeAny (model X.prog X.w) A (.call (.ref f) ⟨[u],[]⟩) (fun q s'=>∃ w,q=.ok (.ret w)∧CE X.stack X.prog X.w H s Q w s') s:=by
 refine PySem.W.kla_callFunE Rh ho rfl E8 y4 rfl q9 ?_
 show wpAny _ _ (bindArgs (kla_fn "<lambda>" qual params body scope (clOf X.env.cells scope.names) pm cv lC) ⟨[u],[]⟩) _ _ _
 rw[hb]
 refine zf (wpAny_newFunctionEnv S.gz (fun x hx=>?_) (fun h₁ Ny IH=>⟨I.nolimit.fresh _ IH,?_⟩) S.kind)
 ·rw[zE.mp hx];exact hp
 have old:∀ b o,s.heap.get? b=some o→h₁.get? b=some o:=fun b o e=>IH.extBut b o (zr (zp e)) (zb _ e)
 show codeAny _ _ (.expr body (Je X qual scope s.heap.objs.size f cv)) _ _
 refine PySem.W.kla_codeExpr (yz (he [] _ _ H Q (Jf I S Jg hp h0 MU hh r Ny old) h) (by rintro w s' ⟨x,H',J,rv,q⟩;exact⟨w,rfl,x,H',J.os,J.bare,J.base,J.aJ,rv,q⟩) fun _ _ z=>z.elim)
end
@[reducible] def intK:KeyKind where
 α:=Int
 blt a b:=decide (a<b)
 irrefl a:=by simp
 trans a b c h1 h2:=by simp only [yq] at *;omega
 negTrans a b c h:=by simp only [yq] at *;omega
 total a b h1 h2:=by simp only [decide_eq_false_iff_not] at *;omega
 keyOf v:=match v with | .int x _=>some x | _=>none
 dflt:=0
theorem FF:intK.OneLt:=by
 intro prog w A E s x y a b Q ha hb h
 cases x <;> simp only [intK,reduceCtorEq,Option.some.injEq] at ha
 cases y <;> simp only [intK,reduceCtorEq,Option.some.injEq] at hb
 cases ha;cases hb
 exact oneLt_int h
structure SS (κ:KeyKind) (b:Bool) (key:Nat→κ.α) (n:Nat) (g:Nat→Nat):Prop where
 lt:∀ k,k<n→g k<n
 inj:∀ i j,i<n→j<n→g i=g j→i=j
 ord:∀ i j,i<j→j<n→(if b=true then κ.klt (key (g j)) (key (g i)) else κ.klt (key (g i)) (key (g j)))∨(key (g i)=key (g j)∧g i<g j)
def iO (κ:KeyKind) (us:List Value) (j:Nat):κ.α:=(κ.keyOf (us.getD j .none)).getD κ.dflt
theorem FG {us vs:List Value} (hl:us.length=vs.length) {j:Nat} (hj:j<vs.length):(us.toArray.zip vs.toArray)[j]?=some (us.getD j .none,vs.getD j .none):=by
 have e:(us.zip vs)[j]?=some (us.getD j .none,vs.getD j .none):=List.getElem?_zip_eq_some.mpr ⟨by show us[j]?=some (us.getD j .none);rw[zB,zh (by omega)];rfl,by show vs[j]?=some (vs.getD j .none);rw[zB,zh hj];rfl⟩
 rw[← Array.getElem?_toList,ksk_zip,List.toList_toArray]
 exact e
theorem uo {κ:KeyKind}{us vs:List Value} (hl:us.length=vs.length) {j:Nat} (hj:j<vs.length):KK κ (us.toArray.zip vs.toArray) j=iO κ us j:=by
 unfold KK iO
 rw[FG hl hj]
theorem vV {l m:List Value}{n:Nat} (h1:l.length=n) (h2:m.length=n) (h:∀ k,k<n→l[k]?=m[k]?):l=m:=by
 apply List.ext_getElem?
 intro k
 by_cases hk:k<n
 ·exact h k hk
 ·rw[List.getElem?_eq_none (by omega),List.getElem?_eq_none (by omega)]
section
variable {prog:Program}{w:World}{A:Around}{E:Value→Shared→Prop}{s:Shared}{a kS:Addr}{b:Bool}{us vs:List Value}{e e1:Nat}{P:PySem.Fin→Shared→Prop}{κ:KeyKind}
theorem Bx {st:SortSt}{keys:Array Value} (hk:s.heap.get? kS=some (seqObj "list" keys e)) (ha:s.heap.get? a=some (seqObj "list" #[] e1)) (Nz:kS≠a) (hz:keys.size<64) (Ej:(arrOf st).size<64) (OQ:failedOf st=none)
  (h:∀ h' c,(∀ b o,b≠a→b≠kS→s.heap.get? b=some o→h'.get? b=some o)→h'.get? a=some (seqObj "list" (if b then ((arrOf st).map (·.2)).reverse else (arrOf st).map (·.2)) c)→P (.done (.ret .none)) { s with heap:=h' }) :
  wpAny (model prog w) A (ksk_tail a b e1 (.ref kS) st) P E s:=by
 have s1:=yr s.heap kS (Obj.mapSeq fun _=>(#[]:Array Value))
 have V5:(s.heap.update kS (Obj.mapSeq fun _=>(#[]:Array Value))).get? a=some (seqObj "list" #[] e1):=(s1.2 a Nz.symm).trans ha
 have Jh:∀ o:Array Value,o=(if b then ((arrOf st).map (·.2)).reverse else (arrOf st).map (·.2))→o.size<64:=by
  rintro o rfl
  cases b with
  | false=>rw[if_neg zd,Array.size_map];exact Ej
  | true=>rw[if_pos rfl,Array.size_reverse,Array.size_map];exact Ej
 generalize ho:(if b then ((arrOf st).map (·.2)).reverse else (arrOf st).map (·.2))=out at h Jh
 have Jh:=Jh out rfl
 have s2:=yr (s.heap.update kS (Obj.mapSeq fun _=>(#[]:Array Value))) a (Obj.mapSeq fun _=>out)
 obtain⟨c2,Ie⟩:∃ c2,((s.heap.update kS (Obj.mapSeq fun _=>(#[]:Array Value))).update a (Obj.mapSeq fun _=>out)).get? a=some (seqObj "list" out c2):=⟨_,get?_update_seq V5 fun _=>out⟩
 unfold ksk_tail
 try dsimp only
 refine za (listUpdate_at hk rfl ?_ (by rw[zR];omega) (yj _))
 refine za (wpAny_letGo ?_)
 refine za (seqEpoch_at V5 rfl ?_)
 rw[ho]
 refine za (listUpdate_at V5 rfl ?_ (yj _) (zG (yE Jh) (by rw[zR];omega)))
 rw[OQ]
 simp only [bne_self_eq_false,Bool.false_eq_true,if_false]
 exact zf (h _ c2 (fun b o h1 h2 q=>(s2.2 b h1).trans ((s1.2 b h2).trans q)) Ie)
theorem FH {xs:Array Keyed}{g:Nat→Nat} (hl:us.length=vs.length) (hs:xs.size=vs.length)
  (G:Gh (if b=true then (us.toArray.zip vs.toArray).reverse else us.toArray.zip vs.toArray) g xs) (U:y3 κ (if b=true then (us.toArray.zip vs.toArray).reverse else us.toArray.zip vs.toArray) g vs.length) :
  ∃ g',SS κ b (iO κ us) vs.length g'∧(if b then (xs.map (·.2)).reverse else xs.map (·.2)).toList=(List.range vs.length).map fun k=>vs.getD (g' k) .none:=by
 have xu:(us.toArray.zip vs.toArray).size=vs.length:=by rw[Array.size_zip,zk,zk,hl,Nat.min_self]
 have X0:∀ k,k<vs.length→(us.toArray.zip vs.toArray)[k]?=some (us.getD k .none,vs.getD k .none):=fun k hk=>FG hl hk
 cases b with
 | false =>
  rw[if_neg zd] at G U
  refine⟨g,⟨fun k hk=>by have:=G.lt k (by rw[xu];exact hk);rwa [xu] at this,fun i j hi hj=>G.inj i j (by rw[xu];exact hi) (by rw[xu];exact hj),fun i j kH hj=>?_⟩,?_⟩
  ·have h1:=G.lt i (by rw[xu];omega)
   have h2:=G.lt j (by rw[xu];omega)
   rw[xu] at h1 h2
   have:=U i j kH hj
   unfold Log at this
   rw[uo hl h1,uo hl h2] at this
   rw[if_neg zd]
   exact this
  ·rw[if_neg zd]
   refine vV (n:=vs.length) (by rw[ye,Array.size_map,hs]) (by simp) fun k hk=>?_
   have h1:=G.lt k (by rw[xu];omega)
   rw[xu] at h1
   rw[Array.getElem?_toList,Array.getElem?_map,G.at_ k (by rw[xu];exact hk),X0 _ h1,zx,List.getElem?_range hk]
   rfl
 | true =>
  rw[if_pos rfl] at G U
  have rf:(us.toArray.zip vs.toArray).reverse.size=vs.length:=by rw[Array.size_reverse,xu]
  have lt:∀ k,k<vs.length→g k<vs.length:=fun k hk=>by have:=G.lt k (by rw[rf];exact hk);rwa [rf] at this
  have rat:∀ k,k<vs.length→(us.toArray.zip vs.toArray).reverse[k]?=(us.toArray.zip vs.toArray)[vs.length - 1 - k]?:=fun k hk=>by
   rw[Array.getElem?_reverse (by rw[xu];exact hk),xu]
  refine⟨fun k=>vs.length - 1 - g (vs.length - 1 - k),⟨fun k hk=>by have:=lt (vs.length - 1 - k) (by omega);omega,fun i j hi hj e=>?_,fun i j kH hj=>?_⟩,?_⟩
  ·have h1:=lt (vs.length - 1 - i) (by omega)
   have h2:=lt (vs.length - 1 - j) (by omega)
   have:=G.inj (vs.length - 1 - i) (vs.length - 1 - j) (by rw[rf];omega) (by rw[rf];omega) (by omega)
   omega
  ·have h1:=lt (vs.length - 1 - i) (by omega)
   have h2:=lt (vs.length - 1 - j) (by omega)
   have:=U (vs.length - 1 - j) (vs.length - 1 - i) (by omega) (by omega)
   unfold Log at this
   have e1:KK κ (us.toArray.zip vs.toArray).reverse (g (vs.length - 1 - i))=iO κ us (vs.length - 1 - g (vs.length - 1 - i)):=(KK_congr (rat _ h1)).trans (uo hl (by omega))
   have e2:KK κ (us.toArray.zip vs.toArray).reverse (g (vs.length - 1 - j))=iO κ us (vs.length - 1 - g (vs.length - 1 - j)):=(KK_congr (rat _ h2)).trans (uo hl (by omega))
   rw[e1,e2] at this
   rw[if_pos rfl]
   rcases this with z | ⟨z1,z2⟩
   ·exact .inl z
   ·exact .inr ⟨z1.symm,by omega⟩
  ·rw[if_pos rfl]
   refine vV (n:=vs.length) (by rw[ye,Array.size_reverse,Array.size_map,hs]) (by simp) fun k hk=>?_
   have h1:=lt (vs.length - 1 - k) (by omega)
   rw[Array.getElem?_toList,Array.getElem?_reverse (by rw[Array.size_map,hs];exact hk),Array.size_map,hs,Array.getElem?_map,G.at_ _ (by rw[rf];omega),rat _ h1,X0 _ (by omega),zx,List.getElem?_range hk]
   rfl
theorem NA (hO:κ.OneLt) (hk:s.heap.get? kS=some (seqObj "list" us.toArray e)) (ha:s.heap.get? a=some (seqObj "list" #[] e1)) (Nz:kS≠a) (hl:us.length=vs.length) (En:vs.length<64) (h0:∀ u∈us,∃ x,κ.keyOf u=some x)
  (ZU:∀ mQ mR rest,us=mQ :: mR :: rest→keyKind' (mQ :: mR :: rest).toArray=pure oneType')
  (h:∀ h' c g out,(∀ b o,b≠a→b≠kS→s.heap.get? b=some o→h'.get? b=some o)→h'.get? a=some (seqObj "list" out c)→SS κ b (iO κ us) vs.length g→out.toList=(List.range vs.length).map (fun k=>vs.getD (g k) .none)→P (.done (.ret .none)) { s with heap:=h' }) :
  wpAny (model prog w) A (ksk_end a b vs.toArray e1 (.ref kS) us.toArray) P E s:=by
 have xu:(us.toArray.zip vs.toArray).size=vs.length:=by rw[Array.size_zip,zk,zk,hl,Nat.min_self]
 have step:∀ t:Sem PySem.Fin,wpAny (model prog w) A t P E s→wpAny (model prog w) A (if b=true then (do let _ ← rule "list.sort.reverse";t) else t) P E s:=by
  intro t ht
  split
  ·exact za (yJ ht)
  ·exact ht
 have hsz:(if b=true then (us.toArray.zip vs.toArray).reverse else us.toArray.zip vs.toArray).size=vs.length:=by
  cases b with
  | false=>exact xu
  | true=>rw[if_pos rfl,Array.size_reverse,xu]
 have keys:KeysOf κ (if b=true then (us.toArray.zip vs.toArray).reverse else us.toArray.zip vs.toArray):=fun p hp=>by
  have hp:p∈us.zip vs:=by
   have e2:(us.toArray.zip vs.toArray).toList=us.zip vs:=by rw[ksk_zip]
   cases b with
   | false=>rw[if_neg zd,e2] at hp;exact hp
   | true=>rw[if_pos rfl,Array.toList_reverse,e2] at hp;exact List.mem_reverse.mp hp
  obtain⟨x,y⟩:=p
  exact h0 _ (List.of_mem_zip hp).1
 unfold ksk_end
 try dsimp only
 refine step _ ?_
 by_cases h2:vs.toArray.size<2
 ·rw[if_pos h2,if_pos h2]
  refine za (zf ?_)
  rw[StateT.run_pure]
  refine za (zf ?_)
  try dsimp only
  rw[zk] at h2
  refine Bx (st:=SortSt.mk' general' (if b=true then (us.toArray.zip vs.toArray).reverse else us.toArray.zip vs.toArray) #[] 7 none) hk ha Nz (by rw[zk];omega) (by show (if b=true then (us.toArray.zip vs.toArray).reverse else us.toArray.zip vs.toArray).size<64;omega) rfl fun h' c k1 k2=>?_
  obtain⟨g,g1,g2⟩:=FH (κ:=κ) (b:=b) (xs:=if b=true then (us.toArray.zip vs.toArray).reverse else us.toArray.zip vs.toArray) (g:=fun k=>k) hl hsz ⟨fun _ _=>rfl,fun _ hk=>hk,fun _ _ _ _ e=>e⟩ (fun i j kH hj=>by omega)
  exact h h' c g _ k1 k2 g1 g2
 ·rw[if_neg h2,if_neg h2]
  rw[zk] at h2
  obtain⟨mQ,mR,rest,eu⟩:∃ mQ mR rest,us=mQ :: mR :: rest:=by
   match us,hl with
   | [],hl=>simp at hl;omega
   | [_],hl=>simp at hl;omega
   | mQ :: mR :: rest,_=>exact⟨mQ,mR,rest,rfl⟩
  have ek:keyKind' us.toArray=pure oneType':=by rw[eu];exact ZU _ _ _ eu
  rw[ek]
  refine za (zf ?_)
  refine za (yz (Nx (κ:=κ) hO (a₀:=if b=true then (us.toArray.zip vs.toArray).reverse else us.toArray.zip vs.toArray) (st:=SortSt.mk' oneType' (if b=true then (us.toArray.zip vs.toArray).reverse else us.toArray.zip vs.toArray) #[] 7 none)
   (Q:=fun _ eZ=>failedOf eZ=none∧(arrOf eZ).size=vs.length∧∃ g,Gh (if b=true then (us.toArray.zip vs.toArray).reverse else us.toArray.zip vs.toArray) g (arrOf eZ)∧y3 κ (if b=true then (us.toArray.zip vs.toArray).reverse else us.toArray.zip vs.toArray) g vs.length)
   keys ⟨Array.Perm.refl _,rfl,rfl,rfl⟩ rfl (by omega) (by omega) fun eZ g q1 q2 q3 q4=>⟨q1,q2.trans hsz,g,q3,by rw[hsz] at q4;exact q4⟩) ?_ fun _ _ e=>e)
  rintro⟨⟨⟩,eZ⟩ s' ⟨rfl,hf,V6,g,G,U⟩
  try dsimp only
  have V6:(arrOf eZ).size=vs.length:=V6
  refine Bx hk ha Nz (by rw[zk];omega) (by omega) hf fun h' c k1 k2=>?_
  obtain⟨g',g1,g2⟩:=FH (κ:=κ) hl V6 G U
  exact h h' c g' _ k1 k2 g1 g2
end
structure K3 (X:Cx) (pins:List (Addr×Obj)) (b:Addr):Prop where
 loc:b≠X.env.locals
 fs:b∉X.fs
 cell:∀ x c,X.env.cells.lookup x=some c→c≠b
 pin:∀ p∈X.pn++pins,p.1≠b
 new:X.dr.heap.objs.size≤b
section
variable {X:Cx}{pins:List (Addr×Obj)}{σ:St}{H:Hp}{s:Shared}
theorem Inv.SU (I:Inv X pins σ H s) (h:s.heap.objs.size≤b):K3 X pins b :=
 ⟨yc (zl I.lt h),I.Pf h,fun x c e=>by obtain⟨v,q⟩:=I.cell x c e;exact zr (zl q.lt h),fun p hp=>zr (zl (zp (I.pin p hp).1) h),zG I.sz h⟩
theorem Inv.Ji (I:Inv X pins σ H s) (kp:∀ b o,b≠a→b≠k→s.heap.get? b=some o→h'.get? b=some o) (ha:H a=none) (hk:H k=none) (Aa:K3 X pins a) (Ak:K3 X pins k):Inv X pins σ H { s with heap:=h',toks:=t' }:=by
 have LJ:∀ b u,H b=some u→b≠a∧b≠k:=fun b u e=>⟨fun z=>(by rw[z,ha] at e;cases e),fun z=>(by rw[z,hk] at e;cases e)⟩
 refine I.step (g':=s.gens) (d':=s.drawn) (ch:=[a,k]) (fun b hb=>?_) (fun b o _ _ hc e _=>kp b o (fun z=>hc (by simp [z])) (fun z=>hc (by simp [z])) e) (fun b o _ _ hc e _=>⟨o.slots,kp b o (fun z=>hc (by simp [z])) (fun z=>hc (by simp [z])) e⟩) (fun _ _ _ _ n=>n)
  (fun b o hc e=>⟨o,kp b o (fun z=>hc (by simp [z])) (fun z=>hc (by simp [z])) e⟩) (fun _ _ e=>e) (fun _ _ _ e=>e) (fun b ps e=>⟨#[],by rw[e];simp⟩) (fun m hm=>?_) (fun b u e=>?_) I.bare
 ·simp only [ze,zD,or_false] at hb
  rcases hb with rfl | rfl
  ·exact⟨.inr Aa.new,Aa.loc,Aa.cell,Aa.pin⟩
  ·exact⟨.inr Ak.new,Ak.loc,Ak.cell,Ak.pin⟩
 ·obtain⟨o,es,ep,ho,r⟩:=hm
  exact⟨o,es,ep,kp _ o (Ne.symm Aa.loc) (Ne.symm Ak.loc) ho,r⟩
 ·refine (I.aJ b u e).ou (fun c v hc q=>?_) (fun _ q=>q) fun _ _ q=>q
  rcases hc with z | z
  ·rw[z] at q ⊢;exact kp b v (LJ b u e).1 (LJ b u e).2 q
  ·exact kp c v (LJ c _ z).1 (LJ c _ z).2 q
theorem Inv.Ri (I:Inv X pins σ H s) (ha:H a=none) (A:K3 X pins a) (new:bc X.prog X.w (upd H a o) s.heap a o):Inv X pins σ (upd H a o) s:=by
 refine I.step (h':=s.heap) (g':=s.gens) (d':=s.drawn) (t':=s.toks) (ch:=[a]) (fun b hb=>?_) (fun b o _ _ hc e _=>e) (fun b o _ _ hc e _=>⟨o.slots,e⟩) (fun b u hc e n=>?_) (fun b o hc e=>⟨o,e⟩) (fun b xs e=>?_) (fun b u v e=>?_) (fun b ps e=>?_) (fun m hm=>hm) (fun b u e=>?_) I.bare
 ·rw[zE.mp hb];exact⟨.inr A.new,A.loc,A.cell,A.pin⟩
 ·rw[av (fun z=>hc (by simp [z]))];exact n
 ·rw[av (aC e ha)];exact e
 ·rw[av (aC e ha)];exact e
 ·exact⟨#[],by rw[av (aC e ha),e];simp⟩
 ·by_cases hb:b=a
  ·subst hb;rw[aE] at e;cases e;exact new
  ·rw[av hb] at e
   exact (I.aJ b u e).ou (fun c v _ q=>q) (fun c q=>by rw[av (aC q ha)];exact q) fun c xs q=>by rw[av (aC q ha)];exact q
end
def FI (X:Cx) (pins:List (Addr×Obj)) (σ:St) (A:Around) (f:Addr) (xs:List V) (W:Nat→List V→Hp→Prop):Prop :=
 ∀ i x u ks s' H' more,Inv X (pins++more) σ H' s'→W i ks H'→xs[i]?=some x→RelV x u→codeAny (model X.prog X.w) A (.call (.ref f) ⟨[u],[]⟩) (fun q xO=>∃ w,q=.ok (.ret w)∧CE X.stack X.prog X.w H' s' (fun k ZV=>W (i+1) (ks++[k]) ZV) w xO) s'
structure K4 (κ:KeyKind) (us:List Value):Prop where
 all:∀ u∈us,∃ x,κ.keyOf u=some x
 kind:∀ mQ mR rest,us=mQ :: mR :: rest→keyKind' (mQ :: mR :: rest).toArray=pure oneType'
section
variable {X:Cx}{pins:List (Addr×Obj)}{σ:St}{H:Hp}{s:Shared}{A:Around}{E:Value→Shared→Prop}{xs:List V}{vs:List Value}{f:Addr}{b:Bool}{κ:KeyKind}{W:Nat→List V→Hp→Prop}
theorem CY (hO:κ.OneLt) (I:Inv X pins σ H s) (ha:s.heap.get? a=some (seqObj "list" #[] e1)) (hk:s.heap.get? kS=some (seqObj "list" #[] 0)) (Nz:kS≠a) (na:H a=none) (nk:H kS=none) (Aa:K3 X pins a) (Ak:K3 X pins kS)
  (hv:Vals xs vs) (En:vs.length<64) (T:FI X pins σ A f xs W) (w0:W 0 [] H) (G:∀ ks us H',W vs.length ks H'→Vals ks us→ks.length=vs.length→K4 κ us)
  (h:∀ s' H' ks us c g out,Inv X pins σ H' s'→H' a=none→s'.heap.get? a=some (seqObj "list" out c)→W vs.length ks H'→Vals ks us→ks.length=vs.length→SS κ b (iO κ us) vs.length g→out.toList=(List.range vs.length).map (fun k=>vs.getD (g k) .none)→P (.done (.ret .none)) s') :
  wpAny (model X.prog X.w) A (ksk_rest a (.ref f) b vs.toArray e1 (.ref kS)) P E s:=by
 have nc:∀ (k:Array Value) (n:Nat) (v:Option Value),(seqObj "list" k n).data≠.cell v:=fun _ _ _ z=>nomatch z
 unfold ksk_rest
 refine za (yJ ?_)
 rw[List.forIn_toArray]
 refine za (ksk_fold (fun i s'=>∃ ks kA e H',Inv X pins σ H' s'∧W i ks H'∧Vals ks kA.toList∧ks.length=i∧H' a=none∧H' kS=none∧s'.heap.get? a=some (seqObj "list" #[] e1)∧s'.heap.get? kS=some (seqObj "list" kA e)) vs 0 s ⟨[],#[],0,H,I,w0,.nil,rfl,na,nk,ha,hk⟩ ?_ ?_)
 ·rintro j x s' hx ⟨ks,kA,e,H',I',w',v',l',SV,V7,Rj,MM⟩
  simp only [Nat.zero_add] at l' w' ⊢
  have hj:j<vs.length:=(zo.mp hx).1
  have hl:xs.length=vs.length:=hv.length
  obtain⟨y,hy⟩:∃ y,xs[j]?=some y:=⟨_,zh (by omega)⟩
  obtain⟨u,hu,ru⟩:=hv.get hy
  rw[hx] at hu;cases hu
  have Ip:Inv X (pins++[(a,seqObj "list" #[] e1),(kS,seqObj "list" kA e)]) σ H' s':=by
   refine⟨I'.ok,I'.os,I'.bare,I'.base,I'.loc,I'.cell,I'.free,I'.f6,fun p hp=>?_,I'.aJ,I'.len⟩
   rcases zI.mp hp with hp | hp
   ·exact I'.pin p (zY _ hp)
   ·rcases zI.mp hp with hp | hp
    ·exact I'.pin p (zy _ hp)
    ·simp only [ze,zD,or_false] at hp
     rcases hp with rfl | rfl
     ·exact⟨Rj,SV,Aa.loc,Aa.fs,nc _ _⟩
     ·exact⟨MM,V7,Ak.loc,Ak.fs,nc _ _⟩
  have hz:kA.size=j:=by
   have h1:ks.length=kA.toList.length:=v'.length
   have h2:kA.toList.length=kA.size:=ye
   omega
  refine za (yL (wpAny_call (yK (T j y x ks s' H' _ Ip w' hy ru) fun r s2 hq=>?_)))
  obtain⟨w,rfl,ce⟩:=hq
  obtain⟨k,H2,I2,rk,w2⟩:=Ip.after ce
  dsimp only
  have pa:=I2.pin (a,seqObj "list" #[] e1) (zy _ (zy _ (by simp)))
  have pk:=I2.pin (kS,seqObj "list" kA e) (zy _ (zy _ (by simp)))
  have I3:Inv X pins σ H2 s2:=⟨I2.ok,I2.os,I2.bare,I2.base,I2.loc,I2.cell,I2.free,I2.f6,fun p hp=>I2.pin p (by rcases zI.mp hp with z | z;exact zY _ z;exact zy _ (zY _ z)),I2.aJ,I2.len⟩
  have s1:=yr s2.heap kS (Obj.mapSeq (·.push w))
  obtain⟨c2,Ie⟩:∃ c2,(s2.heap.update kS (Obj.mapSeq (·.push w))).get? kS=some (seqObj "list" (kA.push w) c2):=⟨_,get?_update_seq pk.1 (·.push w)⟩
  refine za (listUpdate_at pk.1 rfl ?_ (by rw[zR];omega) (zG (Nat.le_of_eq (Array.size_push ..)) (by rw[zR];omega)))
  refine zf ⟨rfl,ks++[k],kA.push w,c2,H2,I3.turned (t':=s2.toks) (it:=kS) (fun b o hb q=>(s1.2 b hb).trans q) pk.2.1 Ak.loc (.inr Ak.new) Ak.cell Ak.pin,w2,?_,by simp [l'],pa.2.1,pk.2.1,(s1.2 a Nz.symm).trans pa.1,Ie⟩
  rw[show (kA.push w).toList=kA.toList++[w] by simp]
  exact v'.append (.cons rk .nil)
 ·rintro s' ⟨ks,kA,e,H',I',w',v',l',SV,V7,Rj,MM⟩
  simp only [Nat.zero_add] at l' w'
  refine za (listItems_at MM rfl ?_)
  have eA:kA=kA.toList.toArray:=by simp
  have good:=G ks kA.toList H' w' v' l'
  have hl:kA.toList.length=vs.length:=by
   have h1:ks.length=kA.toList.length:=v'.length
   omega
  rw[eA] at MM
  show wpAny _ _ (ksk_end a b vs.toArray e1 (.ref kS) kA) _ _ _
  rw[eA]
  refine NA (κ:=κ) hO MM Rj Nz hl En good.all good.kind fun h' c g out k1 k2 k3 k4=>?_
  exact h _ H' ks kA.toList c g out (I'.Ji (t':=s'.toks) k1 SV V7 Aa Ak) SV k2 w' v' l' k3 k4
theorem tm (hO:κ.OneLt) (I:Inv X pins σ H s) (hl:gL X.K H l xs) (En:xs.length<64) (SW:argsOk "sorted" ⟨[.ref l],kw⟩) (SX:∀ x,argsOk "list.sort" ⟨[.ref x],kw⟩) (ht:∀ x,Builtin.«list.sort» ⟨[.ref x],kw⟩=ksk_tree x (.ref f) b)
  (T:FI X pins σ A.in1.in1 f xs W) (w0:W 0 [] H) (G:∀ ks us H',W xs.length ks H'→Vals ks us→ks.length=xs.length→K4 κ us)
  (h:∀ H' ks us g D,W xs.length ks H'→Vals ks us→ks.length=xs.length→SS κ b (iO κ us) xs.length g→H' D=none→Q (.ref D) (upd H' D (.lst ((List.range xs.length).map fun k=>xs.getD (g k) .aw)))) :
  wpAny (model X.prog X.w) A (call (.builtin "sorted") [.ref l] kw) (EP X pins σ Q) E s:=by
 obtain⟨vs,hv,pl,_⟩:=I.list hl
 have OR:xs.length=vs.length:=hv.length
 rw[OR] at En G h
 refine call_function_entry_kw kind_sorted plain_sorted entry_sorted SW ?_
 unfold Builtin.«sorted»
 refine za (m:=checkCount "sorted" 1 1 _) (zf ?_)
 refine za (collect_list pl.isList ?_ (by rw[zR];omega))
 refine za (wpAny_newList ?_ (by rw[zR];omega))
 have hsz:((s.heap.push (seqObj "list" #[] 0)).update s.heap.objs.size (Obj.mapSeq (·++vs.toArray))).objs.size=s.heap.objs.size+1:=by rw[Heap.size_update,size_push']
 have Ef:(((s.heap.push (seqObj "list" #[] 0)).update s.heap.objs.size (Obj.mapSeq (·++vs.toArray))).push (seqObj "list" vs.toArray 0)).get? (s.heap.objs.size+1)=some (seqObj "list" vs.toArray 0):=by
  rw[← hsz];exact zj _ rfl
 have keep:∀ b o,s.heap.get? b=some o→(((s.heap.push (seqObj "list" #[] 0)).update s.heap.objs.size (Obj.mapSeq (·++vs.toArray))).push (seqObj "list" vs.toArray 0)).get? b=some o:=fun b o q=>by
  have fz:b<s.heap.objs.size:=zp q
  rw[Heap.get?_push_ne _ _ _ (by rw[hsz];exact zr (Nat.lt_succ_of_lt fz)),Heap.get?_update_ne _ _ _ _ (zr fz),Heap.get?_push_ne _ _ _ (zr fz)]
  exact q
 show wpAny _ _ _ _ _ { s with heap:=((s.heap.push (seqObj "list" #[] 0)).update s.heap.objs.size (Obj.mapSeq (·++vs.toArray))).push (seqObj "list" vs.toArray 0) }
 rw[hsz]
 generalize hg:((s.heap.push (seqObj "list" #[] 0)).update s.heap.objs.size (Obj.mapSeq (·++vs.toArray))).push (seqObj "list" vs.toArray 0)=h1 at Ef keep ⊢
 have I1:Inv X pins σ H { s with heap:=h1 }:=I.kept (t':=s.toks) keep
 have Aa:K3 X pins (s.heap.objs.size+1):=I.SU (yN _)
 have na:H (s.heap.objs.size+1)=none:=I.aJ.fresh (yN _)
 generalize s.heap.objs.size+1=a at Ef Aa na ⊢
 refine za (yy (wpAny_call_entry_kw slot_list_sort ⟨_,Ef,rfl⟩ entry_list_sort ?_ (SX _)))
 show wpAny (model X.prog X.w) A.in1.in1 (Builtin.«list.sort» ⟨[.ref a],kw⟩) _ _ _
 rw[ht a]
 have s1:=yr h1 a (Obj.mapSeq fun _=>(#[]:Array Value))
 obtain⟨e1,K5⟩:∃ e1,(h1.update a (Obj.mapSeq fun _=>(#[]:Array Value))).get? a=some (seqObj "list" #[] e1):=⟨_,get?_update_seq Ef fun _=>#[]⟩
 have I2:Inv X pins σ H { s with heap:=h1.update a (Obj.mapSeq fun _=>(#[]:Array Value)) }:=Inv.turned (s:={ s with heap:=h1 }) (h':=h1.update a (Obj.mapSeq fun _=>(#[]:Array Value))) (t':=s.toks) (it:=a) I1 (fun b o hb q=>(s1.2 b hb).trans q) na Aa.loc (.inr Aa.new) Aa.cell Aa.pin
 unfold ksk_tree
 refine za (listItems_at Ef rfl ?_)
 refine za (listUpdate_at Ef rfl ?_ (by rw[zk,zR];omega) (yj _))
 refine za (seqEpoch_at K5 rfl ?_)
 refine za (wpAny_newTuple ?_ (by show vs.length≤_;rw[zR];omega))
 refine za (wpAny_newList ?_ (yj _))
 refine yy ?_
 generalize h1.update a (Obj.mapSeq fun _=>(#[]:Array Value))=h2 at K5 I2 ⊢
 have k3:∀ b u,h2.get? b=some u→((h2.push (seqObj "tuple" vs.toArray 0)).push (seqObj "list" #[] 0)).get? b=some u:=fun b u q=>zb _ (zb _ q)
 have I3:Inv X pins σ H { s with heap:=(h2.push (seqObj "tuple" vs.toArray 0)).push (seqObj "list" #[] 0) }:=I2.kept (t':=s.toks) k3
 have CZ:h2.objs.size≤(h2.push (seqObj "tuple" vs.toArray 0)).objs.size:=by rw[size_push'];exact yN _
 refine CY (s:={ s with heap:=(h2.push (seqObj "tuple" vs.toArray 0)).push (seqObj "list" #[] 0) }) (kS:=(h2.push (seqObj "tuple" vs.toArray 0)).objs.size) hO I3 (k3 _ _ K5) (zj _ rfl) (yc (zl (zp K5) CZ)) na (I2.aJ.fresh CZ) Aa (I2.SU CZ) hv En T w0 G fun s' H' ks us c g out J n1 o1 w1 v1 l1 q1 q2=>⟨.none,rfl,?_⟩
 refine zf ⟨_,rfl,.ref a,_,J.Ri (o:=.lst ((List.range vs.length).map fun k=>xs.getD (g k) .aw)) n1 Aa ⟨?_,out.toList,c,?_,?_⟩,rfl,h H' ks us g a w1 v1 l1 q1 n1⟩
 ·rw[zc,List.length_range,zR];omega
 ·rw[q2]
  have:∀ (ns:List Nat),(∀ k∈ns,g k<vs.length)→Vals (ns.map fun k=>xs.getD (g k) .aw) (ns.map fun k=>vs.getD (g k) .none):=fun ns=>by
   induction ns with
   | nil=>exact fun _=>.nil
   | cons k ns ih =>
    intro hk
    have V8:=hk k zu
    obtain⟨y,hy⟩:∃ y,xs[g k]?=some y:=⟨_,zh (by omega)⟩
    obtain⟨u,hu,ru⟩:=hv.get hy
    refine .cons ?_ (ih fun k gC=>hk k (zg _ gC))
    show RelV (xs.getD (g k) .aw) (vs.getD (g k) .none)
    rw[zB,hy,zB,hu]
    exact ru
  exact this _ fun k hk=>q1.lt k (zS.mp hk)
 ·rw[o1]
end
def Bm (mg:Str→Option Value) (base:Heap):Prop:=∃ bm o,mg "__builtins__" = some (.ref bm)∧bm≠builtinsNs∧base.get? bm=some o∧o.cls=.type "module" ∧ o.dict=some builtinsNs∧o.data=.plain
structure V9 (K:PySem.W.Frag) (mg:Str→Option Value) (base:Heap) (c P:Addr):Prop where
 hd:codeHdIn K c P=true
 bm:Bm mg base
theorem y6 {pos p2:Pos}{c cv:Value} (l:List Value) (h:TriplesOk l) (e:codeAmong pos (l++[rawInt p2.line,rawInt p2.col,c])=some cv):codeAmong pos l=some cv∨cv=c:=by
 fun_induction TriplesOk l with
 | case1 =>
  simp only [List.nil_append,rawInt,codeAmong] at e
  split at e
  ·cases e;exact .inr rfl
  ·cases e
 | case2 a t b u x rest ih =>
  simp only [List.cons_append,codeAmong] at e ⊢
  split at e
  ·rename_i hc;rw[if_pos hc];exact .inl e
  ·rename_i hc;rw[if_neg hc];exact ih h e
 | case3 l h1 h2=>exact h.elim
section
variable {X:Cx}{pins:List (Addr×Obj)}{σ:St}{H:Hp}{s:Shared}
theorem Inv.tab {h':Heap}{tk:Nat}{P c:Addr}{ps OS:Array Value}{oc fo:Obj} (I:Inv X pins σ H s) (hP:H P=some (.o3 ps)) (hx:Heap.ExtBut P s.heap h') (h1:s.heap.objs.size≤c) (h2:c<h'.objs.size) (hc:h'.get? c=some oc) (hp:h'.get? P=some (tabObj (ps++OS))) :
  Inv X pins σ (upd (upd H P (.o3 (ps++OS))) c (.ku oc (.own 0))) { s with heap:=h'.push fo,toks:=tk }:=by
 have X1:c≠P:=fun z=>absurd (zl (I.aJ.lt hP) (z ▸ h1)) (yg _)
 have nc:H c=none:=I.aJ.fresh h1
 have other:∀ b,b≠P→b≠c→upd (upd H P (.o3 (ps++OS))) c (.ku oc (.own 0)) b=H b:=fun b z1 z2=>by rw[av z2,av z1]
 have nP:∀ b o,H b=some o→(∀ q,o≠.o3 q)→b≠P:=fun b o e z q=>by rw[q,hP] at e;cases e;exact z _ rfl
 have V_:∀ b,H b=none→b≠P:=fun b e q=>by rw[q,hP] at e;cases e
 have lt:∀ b o,s.heap.get? b=some o→b≠c:=fun b o e=>zr (zl (zp e) h1)
 refine I.un (h':=h'.push fo) ⟨fun b o e n _ _=>zb _ (hx b o (V_ b n) e),fun b o e n _ _=>⟨o.slots,zb _ (hx b o (V_ b n) e)⟩,fun b o e n _=>by rw[other b (V_ b n) (lt b o e)];exact n,fun b o e _=>?_,fun b xs e=>by rw[other b (nP b _ e fun _=>nofun) (aC e nc)];exact e,fun b o u e=>by rw[other b (nP b _ e fun _=>nofun) (aC e nc)];exact e,fun b q e=>?_⟩ fun b u e=>?_
 ·by_cases hb:b=P
  ·rw[hb];exact⟨_,zb _ hp⟩
  ·exact⟨o,zb _ (hx b o hb e)⟩
 ·by_cases hb:b=P
  ·subst hb
   rw[hP] at e;cases e
   exact⟨OS,by rw[av (Ne.symm X1),aE]⟩
  ·exact⟨#[],by rw[other b hb (aC e nc),e];simp⟩
 ·by_cases OT:b=c
  ·subst OT
   rw[aE] at e;cases e
   exact⟨zb _ hc,_,zb _ hc⟩
  ·rw[av OT] at e
   by_cases hb:b=P
   ·subst hb
    rw[aE] at e;cases e
    exact zb _ hp
   ·rw[av hb] at e
    refine (I.aJ b u e).ou (fun d v hd q=>?_) (fun d q=>by rw[other d (nP d _ q fun _=>nofun) (aC q nc)];exact q) fun d xs q=>by rw[other d (nP d _ q fun _=>nofun) (aC q nc)];exact q
    rcases hd with rfl | hd
    ·exact zb _ (hx d v hb q)
    ·exact zb _ (hx d v (nP d _ hd fun _=>nofun) q)
theorem Inv.By (I:Inv X pins σ H s) (ho:s.heap.get? f=some o) (hn:H f=none) (A:K3 X pins f) (d:∀ v,o.data≠.cell v):Inv X (pins++[(f,o)]) σ H s:=by
 refine⟨I.ok,I.os,I.bare,I.base,I.loc,I.cell,I.free,I.f6,fun p hp=>?_,I.aJ,I.len⟩
 rcases zI.mp hp with hp | hp
 ·exact I.pin p (zY _ hp)
 ·rcases zI.mp hp with hp | hp
  ·exact I.pin p (zy _ hp)
  ·rw[zE.mp hp];exact⟨ho,hn,A.loc,A.fs,d⟩
structure Rk (X:Cx) (pins:List (Addr×Obj)) (σ:St) (H H':Hp) (P:Addr) (q:Str) (params:Arguments) (body:Expr) (scope:Scope) (u:Value) (s':Shared) (f:Addr) (pm cv lC:Value):Prop where
 u:u=.ref f
 inv:Inv X (pins++[(f,vU X q params body scope pm cv lC)]) σ H' s'
 code:∃ c o vs t,cv=.ref c∧H' c=some (.ku o (.own 0))∧o.data=.fields vs∧vs[1]?=some (.str q t)
 same:∀ b,H' b=H b∨(b=P∧∃ ps,H' b=some (.o3 ps)∧Bo H' q ps)∨(H b=none∧∃ o,H' b=some (.ku o (.own 0)))
theorem vW {M:Model}{A:Around}{E:Value→Shared→Prop}{N:List Str}{src:List (Option Nat)}{scope:Scope}{params:Arguments}{body:Expr}{pos:Pos}{c P:Addr}{q:Str}{ps:Array Value}{Q:Value→Shared→Prop} (I:Inv X pins σ H s) (S:bK X N src scope) (og:X.env.code=.ref c) (mk:V9 X.K X.mg X.base c P)
  (hP:H P=some (.o3 ps)) (ok:Bo H q ps) (hq:X.env.qual ++ "<lambda>" = q) (FJ:defaultsOf params X.env=([],[]))
  (h:∀ u s' H' f pm cv lC,Rk X pins σ H H' P q params body scope u s' f pm cv lC→Q u s'):wpAny M A (eval (.Lambda params body scope pos) X.env) Q E s:=by
 have Bf:closureFor scope X.env=pure (clOf X.env.cells scope.names):=gy fun y hy hf=>I.ok.has y.1 (S.xU y hy hf)
 have SY:s.heap.get? P=some (tabObj ps):=I.aJ P _ hP
 have hg:s.heap.Ns mainGlobals X.mg:=I.mod.glob.keeps I.bk
 have hC:=codeHd_of_K I.nS mk.hd
 obtain⟨bm,ob,b1,b2,b3,b4,b5,b6⟩:=mk.bm
 have S_:s.heap.get? bm=some ob:=I.bk _ _ b3
 have ZW:mainGlobals≠P:=fun z=>by
  obtain⟨o,es,ep,e,d,_⟩:=id hg
  rw[z,SY] at e;cases e;cases d
 have ZX:bm≠mainGlobals:=fun z=>by
  obtain⟨o,es,ep,e,d,_⟩:=id hg
  rw[← z,S_] at e;cases e;rw[b6] at d;cases d
 have ZY:bm≠P:=fun z=>by rw[z,SY] at S_;cases S_;cases b4
 have hB:s.heap.BuiltinsAt X.mg P:=⟨bm,ob,b1,b2,ZX,ZY,S_,b4,b5,b6⟩
 have hqs:H P≠none:=by rw[hP];nofun
 refine PySem.W.kla_eval FJ ?_
 rw[hq]
 cases hf:codeAmong pos ps.toList with
 | none =>
  refine PySem.W.kla_makeFunction Bf I.ok.glob hg og hC SY ok.1 hf ZW hB fun c' lC h' tk hx h1 h2 hr hp=>?_
  obtain⟨c2,oc,vs,t,e2,Sh,hd,hv⟩:=hr
  cases e2
  have J:=I.tab (tk:=tk) (fo:=vU X q params body scope ((X.mg "__name__").getD .none) (.ref c') lC) hP hx h1 h2 Sh hp
  have X1:c'≠P:=fun z=>absurd (zl (I.aJ.lt hP) (z ▸ h1)) (yg _)
  have nc:H c'=none:=I.aJ.fresh h1
  have fresh:∀ b,h'.objs.size≤b→upd (upd H P (.o3 (ps++#[rawInt pos.line,rawInt pos.col,.ref c']))) c' (.ku oc (.own 0)) b=none:=fun b hb=>by
   have vz:s.heap.objs.size≤b:=zG (zG h1 (yE h2)) hb
   rw[av (yc (zl h2 hb)),av (yc (zl (I.aJ.lt hP) vz))]
   exact I.aJ.fresh vz
  have hsz:s.heap.objs.size≤h'.objs.size:=zG h1 (yE h2)
  refine h _ _ _ h'.objs.size _ _ _ ⟨rfl,J.By (zj _ rfl) (fresh _ (zm _)) (I.SU hsz) (fun v z=>nomatch z),⟨c',oc,vs,t,rfl,aE,hd,hv⟩,fun b=>?_⟩
  by_cases OT:b=c'
  ·subst OT;exact .inr (.inr ⟨nc,oc,aE⟩)
  ·by_cases hb:b=P
   ·subst hb
    refine .inr (.inl ⟨rfl,_,by rw[av OT,aE],?_,fun p2 cv e=>?_⟩)
    ·rw[Array.toList_append];exact TriplesOk_snoc _ _ _ _ ok.1
    ·rw[Array.toList_append] at e
     rcases y6 _ ok.1 e with e | e
     ·obtain⟨d,o,ws,t2,z1,z2,z3⟩:=ok.2 p2 cv e
      exact⟨d,o,ws,t2,z1,by rw[av (aC z2 nc),av (fun z=>by rw[z,hP] at z2;cases z2)];exact z2,z3⟩
     ·exact⟨c',oc,vs,t,e,aE,hd,hv⟩
   ·exact .inl (by rw[av OT,av hb])
 | some cv =>
  refine PySem.W.kla_makeFunctionHit Bf I.ok.glob hg og hC SY ok.1 hf hB fun lC h' tk hk hsz=>?_
  have J:Inv X pins σ H { s with heap:=h'.push (vU X q params body scope ((X.mg "__name__").getD .none) cv lC),toks:=tk }:=I.kept fun b u e=>zb _ (hk b u e)
  exact h _ _ _ h'.objs.size _ _ _ ⟨rfl,J.By (zj _ rfl) (I.aJ.fresh hsz) (I.SU hsz) (fun v z=>nomatch z),ok.2 pos cv hf,fun b=>.inl rfl⟩
end
def Rl:D→D→Prop
 | .int a,.int b=>a<b
 | .str a,.str b=>a.cps.toList<b.cps.toList
 | _,_=>False
def vX (ks:List D):Prop:=(∃ zs:List Str,ks=zs.map D.str)∨∃ ns:List Int,ks=ns.map D.int
structure NB (b:Bool) (key:Nat→D) (n:Nat) (g:Nat→Nat):Prop where
 lt:∀ k,k<n→g k<n
 inj:∀ i j,i<n→j<n→g i=g j→i=j
 ord:∀ i j,i<j→j<n→(if b=true then Rl (key (g j)) (key (g i)) else Rl (key (g i)) (key (g j)))∨(key (g i)=key (g j)∧g i<g j)
def vY (b:Bool) (P:Addr) (q:Str) (src:List (Option Nat)) (te:TD) (σ:SD) (R:KD) (d:D) (S1:aU):Prop:=∃ (l:Addr) (xs:List D) (f:D→D),d=.ref l∧S1 l=some (.lst xs)∧xs.length<64∧S1 P=some (.tab q)∧vX (xs.map f) ∧
 (∀ x,x∈xs→∀ S',Sub S1 S'→∀ Qk:KD,(∀ S2,Sub S' S2→Qk (f x) S2)→te ((n_ σ src).set 0 (some x)) S' Qk Zf) ∧
 ∀ g S2 p,NB b (fun j=>f (xs.getD j .aw)) xs.length g→Sub S1 S2→S2 p=none→R (.ref p) (S2.set p (.lst ((List.range xs.length).map fun k=>xs.getD (g k) .aw)))
def K6 (b:Bool) (P:Addr) (q:Str) (src:List (Option Nat)) (tl te:TD):TD:=fun σ S R Z=>tl σ S (fun d S1=>vY b P q src te σ R d S1) Z
def FK (F:D→aU→Prop):List D→aU→Prop
 | [d],S=>F d S
 | _,_=>False
theorem Bz {F:D→aU→Prop}{ds:List D}{S:aU} (h:FK F ds S):∃ d,ds=[d]∧F d S:=by
 match ds,h with
 | [d],h=>exact⟨d,rfl,h⟩
theorem qc:∀ {ss:List Int}{ay:List Value},Vals (ss.map V.int) ay→IntsAre ay ss
 | [],_,.nil=>.nil
 | z :: ss,_,.cons r t=>by
  obtain⟨tk,rfl⟩:=r
  exact .cons z tk (qc t)
theorem qd:∀ {us:List Value}{zs:List Str},StrsAre us zs→∀ j,j<zs.length→iO strKind us j=(zs.getD j "").cps.toList
 | _,_,.cons z t h,0,_=>rfl
 | _,_,.cons z t h,j+1,hj=>by
  have:=qd h j (by simpa using hj)
  unfold iO at this ⊢
  rw[List.getD_cons_succ,List.getD_cons_succ]
  exact this
theorem qe:∀ {us:List Value}{zs:List Int},IntsAre us zs→∀ j,j<zs.length→iO intK us j=zs.getD j 0
 | _,_,.cons z t h,0,_=>rfl
 | _,_,.cons z t h,j+1,hj=>by
  have:=qe h j (by simpa using hj)
  unfold iO at this ⊢
  rw[List.getD_cons_succ,List.getD_cons_succ]
  exact this
theorem vZ:∀ {us:List Value}{zs:List Str},StrsAre us zs→∀ u∈us,∃ x,strKind.keyOf u=some x
 | _,_,.cons z t h,u,hu=>by
  rcases ze.mp hu with rfl | hu
  ·exact⟨_,rfl⟩
  ·exact vZ h u hu
theorem FL (h:IntsAre us zs):∀ u∈us,∃ x,intK.keyOf u=some x:=by
 induction h with
 | nil=>intro u hu;cases hu
 | cons z t h ih =>
  intro u hu
  rcases ze.mp hu with rfl | hu
  ·exact⟨_,rfl⟩
  ·exact ih u hu
theorem FN {xs:List D}{f:D→D}{j:Nat} (hj:j<xs.length):(xs.map f)[j]?=some (f (xs.getD j .aw)):=by
 rw[zx,zB,zh hj];rfl
theorem uq {K:PySem.W.Frag}{H:Hp}{ds:List D}{xs:List V} (h:RvAll K H ds xs) (g:Nat→Nat):∀ (ns:List Nat),(∀ k∈ns,g k<ds.length)→RvAll K H (ns.map fun k=>ds.getD (g k) .aw) (ns.map fun k=>xs.getD (g k) .aw)
 | [],_=>bE
 | k :: ns,hk=>by
  have V8:=hk k zu
  obtain⟨v,e,r⟩:=h.get (zh V8)
  refine aS ?_ (uq h g ns fun k gC=>hk k (zg _ gC))
  show Rv K H (ds.getD (g k) .aw) (xs.getD (g k) .aw)
  rw[zB,zh V8,zB,e]
  exact r
section
variable {K:PySem.W.Frag}{Y:Cx}{pins:List (Addr×Obj)}{τ:St}{H H2:Hp}{s:Shared}{N:List Str}{src:List (Option Nat)}{scope:Scope}{params:Arguments}{body:Expr}{q p:Str}{pm cv lC:Value}{f l:Addr}{te:TD}{b:Bool}{kw:List (Str×Value)}{k:Nat}
theorem v5 {σ:SD}{S1:aU}{xs:List D}{fD:D→D}{Q:VK}{R:KD}{E:Value→Shared→Prop} (I:Inv Y (pins++[(f,vU Y q params body scope pm cv lC)]) τ H s) (hK:Y.K=K) (Rm:Y.calm=true) (hr:cI k Y.A) (og:∃ c o vs t,cv=.ref c∧H c=some (.ku o (.own 0))∧o.data=.fields vs∧vs[1]?=some (.str q t))
  (CS:bK Y N src scope) (Jg:N[0]?=some p) (hp:scope.names.lookup p=some .local) (h0:src[0]?=some none) (E8:scope.isCoroutine=false) (y4:scope.isGenerator=false)
  (hb:∀ cl pm cv lC u,bindArgs (kla_fn "<lambda>" q params body scope cl pm cv lC) ⟨[u],[]⟩=pure [(p,u)]) (he:∀ cv s H,DE K (OP Y N q scope f cv Y.A.in1.in1 s H) body te)
  (aD:ig K H σ τ) (hS:Rs K S1 H) (hl:S1 l=some (.lst xs)) (En:xs.length<64) (kd:vX (xs.map fD))
  (step:∀ x,x∈xs→∀ S',Sub S1 S'→∀ Qk:KD,(∀ S2,Sub S' S2→Qk (fD x) S2)→te ((n_ σ src).set 0 (some x)) S' Qk Zf)
  (hR:Cn K H R Q) (fin:∀ g S2 p,NB b (fun j=>fD (xs.getD j .aw)) xs.length g→Sub S1 S2→S2 p=none→R (.ref p) (S2.set p (.lst ((List.range xs.length).map fun k=>xs.getD (g k) .aw))))
  (SW:argsOk "sorted" ⟨[.ref l],kw⟩) (SX:∀ x,argsOk "list.sort" ⟨[.ref x],kw⟩) (ht:∀ x,Builtin.«list.sort» ⟨[.ref x],kw⟩=ksk_tree x (.ref f) b) :
  wpAny (model Y.prog Y.w) Y.A (call (.builtin "sorted") [.ref l] kw) (EP Y pins τ Q) E s:=by
 subst hK
 obtain⟨vs,hv,rv⟩:=hS.lst hl
 have OR:vs.length=xs.length:=rv.len
 obtain⟨c,oc,ws,tk,ZZ,hc,q9,Z1⟩:=og
 have drop:∀ {u:Value}{s':Shared},EP Y (pins++[(f,vU Y q params body scope pm cv lC)]) τ Q u s'→EP Y pins τ Q u s':=fun ⟨v,H',J,r,q⟩=>⟨v,H',⟨J.ok,J.os,J.bare,J.base,J.loc,J.cell,J.free,J.f6,fun p hp=>J.pin p (by
  rcases zI.mp hp with z | z
  ·exact zY _ z
  ·exact zy _ (zY _ z)),J.aJ,J.len⟩,r,q⟩
 have T:FI Y (pins++[(f,vU Y q params body scope pm cv lC)]) τ Y.A.in1.in1 f vs fun i ks H'=>∃ S',Sub S1 S'∧Rs Y.K S' H'∧Kp Y.K H H'∧RvAll Y.K H' ((xs.take i).map fD) ks:=by
  rintro i x u ks s' H' more I' ⟨S',sb,rs,kp,rk⟩ hx ru
  have hi:i<xs.length:=by have:=(zo.mp hx).1;omega
  obtain⟨v,e1,r1⟩:=rv.get (zh hi)
  rw[hx] at e1;cases e1
  have po:=(I'.pin (f,vU Y q params body scope pm cv lC) (zy _ (zY _ (zy _ (by simp))))).1
  have Z2:s'.heap.CodeRec cv q:=⟨c,oc,ws,tk,ZZ,(I'.aJ c _ (kp.f _ _ _ hc)).1,q9,Z1⟩
  refine FE (A:=Y.A.in1.in1) I' CS Jg hp h0 I'.ok.frames (I'.ok.hd Rm) (by have:=hr.dp;show Y.A.depth<_;omega) ru po Z2 E8 y4 (hb _ _ _ _ _) ((he cv s' H').of (.none _ rfl)) ?_
  refine⟨_,S',fun kk S2=>kk=fD xs[i]∧Sub S' S2,Zf,((aD.ts kp).pick src).set 0 (Rv.ts kp _ r1),rs,step _ (List.getElem_mem hi) S' sb _ fun S2 h2=>⟨rfl,h2⟩,fun kk S2 v2 H2 ⟨e2,Bg⟩ Rn tq OF=>?_,.f⟩
  subst e2
  refine⟨S2,sb.trans Bg,tq,kp.trans OF,?_⟩
  rw[show xs.take (i+1)=xs.take i++[xs[i]] by rw[List.take_add_one,zh hi];rfl,zF]
  exact (RvAll.ts OF _ rk).app (aS Rn bE)
 have w0:∃ S',Sub S1 S'∧Rs Y.K S' H∧Kp Y.K H H∧RvAll Y.K H ((xs.take 0).map fD) []:=⟨S1,.refl _,hS,.refl _,by rw[List.take_zero];exact bE⟩
 have Sn:gL Y.K H l vs:=.of hv
 rcases kd with ⟨zs,ez⟩ | ⟨zs,ez⟩
 ·have Z3:zs.length=xs.length:=by have:=congrArg List.length ez;rw[zc,zc] at this;exact this.symm
  have ka:∀ j,j<xs.length→fD (xs.getD j .aw)=.str (zs.getD j ""):=fun j hj=>by
   have e1:=FN (f:=fD) hj
   rw[ez,zx,zh (by omega)] at e1
   rw[zB (l:=zs),zh (by omega)]
   exact (zO e1).symm
  have kv:∀ ks us H',(∃ S',Sub S1 S'∧Rs Y.K S' H'∧Kp Y.K H H'∧RvAll Y.K H' ((xs.take vs.length).map fD) ks)→Vals ks us→StrsAre us zs:=fun ks us H' ⟨S',_,_,_,rk⟩ hu=>by
   rw[OR,List.take_length,ez] at rk
   rw[rk.strs] at hu
   exact p8 hu
  refine yz (tm (κ:=strKind) (Q:=Q) (b:=b) strKind_oneLt I Sn (by omega) SW SX ht T w0 (fun ks us H' w1 v1 l1=>⟨vZ (kv ks us H' w1 v1),fun mQ mR rest e=>keyKind_strs (by rw[← e];exact kv ks us H' w1 v1)⟩) fun H' ks us g D w1 v1 l1 sr hD=>?_) (fun u s' z=>drop z) fun _ _ z=>z
  have sk:=kv ks us H' w1 v1
  obtain⟨S',sb,rs,kp,rk⟩:=w1
  rw[OR] at sr ⊢
  refine (hR.kp kp).new rs hD (fun hp=>fin g S' D ⟨sr.lt,sr.inj,fun i j kH hj=>?_⟩ sb hp) (uq (RvAll.ts kp _ rv) g _ fun k hk=>sr.lt k (zS.mp hk))
  have h1:=sr.lt i (by omega)
  have h2:=sr.lt j hj
  have:=sr.ord i j kH hj
  rw[qd sk _ (by omega),qd sk _ (by omega)] at this
  rw[ka _ h1,ka _ h2]
  rcases this with z | ⟨z1,z2⟩
  ·left
   cases b with
   | false =>
    rw[if_neg zd] at z ⊢
    show (zs.getD (g i) "").cps.toList<(zs.getD (g j) "").cps.toList
    exact zH z
   | true =>
    rw[if_pos rfl] at z ⊢
    show (zs.getD (g j) "").cps.toList<(zs.getD (g i) "").cps.toList
    exact zH z
  ·exact .inr ⟨by rw[V2 z1],z2⟩
 ·have Z3:zs.length=xs.length:=by have:=congrArg List.length ez;rw[zc,zc] at this;exact this.symm
  have ka:∀ j,j<xs.length→fD (xs.getD j .aw)=.int (zs.getD j 0):=fun j hj=>by
   have e1:=FN (f:=fD) hj
   rw[ez,zx,zh (by omega)] at e1
   rw[zB (l:=zs),zh (by omega)]
   exact (zO e1).symm
  have kv:∀ ks us H',(∃ S',Sub S1 S'∧Rs Y.K S' H'∧Kp Y.K H H'∧RvAll Y.K H' ((xs.take vs.length).map fD) ks)→Vals ks us→IntsAre us zs:=fun ks us H' ⟨S',_,_,_,rk⟩ hu=>by
   rw[OR,List.take_length,ez] at rk
   rw[rk.ints] at hu
   exact qc hu
  refine yz (tm (κ:=intK) (Q:=Q) (b:=b) FF I Sn (by omega) SW SX ht T w0 (fun ks us H' w1 v1 l1=>⟨FL (kv ks us H' w1 v1),fun mQ mR rest e=>keyKind_ints (by rw[← e];exact kv ks us H' w1 v1)⟩) fun H' ks us g D w1 v1 l1 sr hD=>?_) (fun u s' z=>drop z) fun _ _ z=>z
  have sk:=kv ks us H' w1 v1
  obtain⟨S',sb,rs,kp,rk⟩:=w1
  rw[OR] at sr ⊢
  refine (hR.kp kp).new rs hD (fun hp=>fin g S' D ⟨sr.lt,sr.inj,fun i j kH hj=>?_⟩ sb hp) (uq (RvAll.ts kp _ rv) g _ fun k hk=>sr.lt k (zS.mp hk))
  have h1:=sr.lt i (by omega)
  have h2:=sr.lt j hj
  have:=sr.ord i j kH hj
  rw[qe sk _ (by omega),qe sk _ (by omega)] at this
  rw[ka _ h1,ka _ h2]
  rcases this with z | ⟨z1,z2⟩
  ·left
   cases b with
   | false =>
    rw[if_neg zd] at z ⊢
    show zs.getD (g i) 0<zs.getD (g j) 0
    exact zH z
   | true =>
    rw[if_pos rfl] at z ⊢
    show zs.getD (g j) 0<zs.getD (g i) 0
    exact zH z
  ·exact .inr ⟨by rw[z1],z2⟩
end
section
variable {K:PySem.W.Frag}{X:Cx}{N:List Str}{src:List (Option Nat)}{scope:Scope}{params:Arguments}{e body:Expr}{q p x:Str}{np pos lp kq Z4 cp:Pos}{ci}{tl te:TD}{k:Nat}{c P:Addr}
theorem Rk.kp {pins:List (Addr×Obj)}{τ:St}{H H':Hp}{u:Value}{s':Shared}{f:Addr}{pm cv lC:Value}{Y:Cx} (L:Rk Y pins τ H H' P q params body scope u s' f pm cv lC) {ps:Array Value} (hP:H P=some (.o3 ps)):Kp K H H':=.of fun b o e=>by
 rcases L.same b with z | ⟨z,_⟩ | ⟨z,_⟩
 ·exact .inl (by rw[z];exact e)
 ·rw[z,hP] at e;cases e;exact .inr ⟨fun _=>nofun,fun _ _=>nofun⟩
 ·rw[z] at e;cases e
theorem Rk.rs {pins:List (Addr×Obj)}{τ:St}{H H':Hp}{u:Value}{s':Shared}{f:Addr}{pm cv lC:Value}{Y:Cx}{S:aU} (L:Rk Y pins τ H H' P q params body scope u s' f pm cv lC) (hS:Rs K S H) (ht:S P=some (.tab q)):Rs K S H':=fun b x hb=>by
 obtain⟨ps,hP,_⟩:=hS P _ ht
 have kp:Kp K H H':=L.kp hP
 rcases L.same b with z | ⟨rfl,OS,z1,z2⟩ | ⟨z,_⟩
 ·exact (hS b x hb).keep (fun o e=>by rw[z];exact e) kp
 ·rw[ht] at hb;cases hb;exact⟨OS,z1,z2⟩
 ·obtain⟨o,e,_⟩:=(hS b x hb).has;rw[z] at e;cases e
theorem Ro (og:X.env.code=.ref c) (mk:V9 K X.mg X.base c P) (hr:cI k X.A) (CS:bK X N src scope) (hl:DE K X e tl) (he:∀ f cv s H,DE K (OP X N q scope f cv X.A.in1.in1 s H) body te) (hm:X.mg x=none) (hv:bootBuiltins x=some (.builtin "sorted"))
  (hq:X.env.qual ++ "<lambda>" = q:=by rfl) (Jg:N[0]?=some p:=by rfl) (hp:scope.names.lookup p=some .local:=by rfl) (h0:src[0]?=some none:=by rfl) (E8:scope.isCoroutine=false:=by rfl) (y4:scope.isGenerator=false:=by rfl)
  (hb:∀ cl pm cv lC u,bindArgs (kla_fn "<lambda>" q params body scope cl pm cv lC) ⟨[u],[]⟩=pure [(p,u)]:=by intro _ _ _ _ _;rfl) (FJ:defaultsOf params X.env=([],[]):=by rfl) (hg:Gl X x:=by rfl) (hn:x ≠ "__name__" := by decide) (pI:(x == ("__debug__" : Str))=false:=by decide)
  (Wa:backTo pos (starEach [e] X.env)=(false,eval e X.env) :: backTo pos (starEach [] X.env):=by rfl) (gM:(backTo pos (starEach [e] X.env)).any (·.1)=false:=by rfl) (Wb:isPlain e=true:=by rfl) (hK:X.K=K:=by rfl) (hC:X.calm=true:=by rfl) :
  DE K X (.Call (.Name x np) [e] [⟨some "key",.Lambda params body scope lp,kq⟩] pos) (K6 false P q src tl te):=by
 subst hK
 refine⟨fun y=>?_⟩
 rintro pins s τ H Q I ⟨σ,S,R,Z,aD,hS,t,hR,hZ⟩
 refine wpAny_Call_Name_kw (gx I hg hm hv ?_ hn pI)
 refine callWith_kw (bf (((ac hl an Wb).of y) pos pins s τ H (fun vs H1=>∃ ds S1,FK (vY false P q src te σ R) ds S1∧RvAll X.K H1 ds vs∧Rs X.K S1 H1∧Kp X.K H H1) I ⟨σ,S,FK (vY false P q src te σ R),Z,aD,hS,t,fun ds S1 vs H1 r rv rs k1=>⟨ds,S1,r,rv,rs,k1⟩,hZ⟩) fun us s1 ⟨vs,H1,I1,r1,ds,S1,r,rv,rs,k1⟩=>?_) Wa gM
 obtain⟨d,rfl,l,xs,fD,rfl,el,En,et,kd,step,fin⟩:=Bz r
 obtain⟨v,Z5,rfl,E7,Rn⟩:=rv.cons
 cases Rn.nil
 cases E7.ref
 obtain⟨u,rfl,ru⟩:=vals1 r1
 cases ru
 obtain⟨ps,hP,aJ⟩:=rs P _ et
 refine kws_cons (vW I1 ⟨CS.kind,CS.gz,CS.loc,CS.xU,CS.len,CS.src⟩ og mk hP aJ hq FJ fun w s2 H2 f pm cv lC L=>?_)
 refine kws_nil ?_
 cases L.u
 have k2:Kp X.K H1 H2:=L.kp hP
 exact v5 L.inv rfl hC hr L.code ⟨CS.kind,CS.gz,CS.loc,CS.xU,CS.len,CS.src⟩ Jg hp h0 E8 y4 hb (he f) ((aD.ts k1).ts k2) (L.rs rs et) el En kd step (hR.kp (k1.trans k2)) fin (ksk_s1 _ _) (fun x=>ksk_l1 _ _) fun x=>ksk_t1 _ _
theorem K7 (og:X.env.code=.ref c) (mk:V9 K X.mg X.base c P) (hr:cI k X.A) (CS:bK X N src scope) (hl:DE K X e tl) (he:∀ f cv s H,DE K (OP X N q scope f cv X.A.in1.in1 s H) body te) (hm:X.mg x=none) (hv:bootBuiltins x=some (.builtin "sorted"))
  (hq:X.env.qual ++ "<lambda>" = q:=by rfl) (Jg:N[0]?=some p:=by rfl) (hp:scope.names.lookup p=some .local:=by rfl) (h0:src[0]?=some none:=by rfl) (E8:scope.isCoroutine=false:=by rfl) (y4:scope.isGenerator=false:=by rfl)
  (hb:∀ cl pm cv lC u,bindArgs (kla_fn "<lambda>" q params body scope cl pm cv lC) ⟨[u],[]⟩=pure [(p,u)]:=by intro _ _ _ _ _;rfl) (FJ:defaultsOf params X.env=([],[]):=by rfl) (hg:Gl X x:=by rfl) (hn:x ≠ "__name__" := by decide) (pI:(x == ("__debug__" : Str))=false:=by decide)
  (Wa:backTo pos (starEach [e] X.env)=(false,eval e X.env) :: backTo pos (starEach [] X.env):=by rfl) (gM:(backTo pos (starEach [e] X.env)).any (·.1)=false:=by rfl) (Wb:isPlain e=true:=by rfl) (hK:X.K=K:=by rfl) (hC:X.calm=true:=by rfl) :
  DE K X (.Call (.Name x np) [e] [⟨some "key",.Lambda params body scope lp,kq⟩,⟨some "reverse",.Constant (.bool true) ci cp,Z4⟩] pos) (K6 true P q src tl te):=by
 subst hK
 refine⟨fun y=>?_⟩
 rintro pins s τ H Q I ⟨σ,S,R,Z,aD,hS,t,hR,hZ⟩
 refine wpAny_Call_Name_kw (gx I hg hm hv ?_ hn pI)
 refine callWith_kw (bf (((ac hl an Wb).of y) pos pins s τ H (fun vs H1=>∃ ds S1,FK (vY true P q src te σ R) ds S1∧RvAll X.K H1 ds vs∧Rs X.K S1 H1∧Kp X.K H H1) I ⟨σ,S,FK (vY true P q src te σ R),Z,aD,hS,t,fun ds S1 vs H1 r rv rs k1=>⟨ds,S1,r,rv,rs,k1⟩,hZ⟩) fun us s1 ⟨vs,H1,I1,r1,ds,S1,r,rv,rs,k1⟩=>?_) Wa gM
 obtain⟨d,rfl,l,xs,fD,rfl,el,En,et,kd,step,fin⟩:=Bz r
 obtain⟨v,Z5,rfl,E7,Rn⟩:=rv.cons
 cases Rn.nil
 cases E7.ref
 obtain⟨u,rfl,ru⟩:=vals1 r1
 cases ru
 obtain⟨ps,hP,aJ⟩:=rs P _ et
 refine kws_cons (vW I1 ⟨CS.kind,CS.gz,CS.loc,CS.xU,CS.len,CS.src⟩ og mk hP aJ hq FJ fun w s2 H2 f pm cv lC L=>?_)
 refine kws_cons (bf (Kl (X:=y.cx) _ s2 τ H2 (fun v H'=>v=.bl true∧H'=H2) L.inv ⟨rfl,rfl⟩) fun w2 s3 ⟨v2,H3,I3,r3,e3,e4⟩=>?_)
 subst e3 e4
 obtain rfl:w2=Value.bool true:=r3
 refine kws_nil ?_
 cases L.u
 have k2:Kp X.K H1 H3:=L.kp hP
 exact v5 I3 rfl hC hr L.code ⟨CS.kind,CS.gz,CS.loc,CS.xU,CS.len,CS.src⟩ Jg hp h0 E8 y4 hb (he f) ((aD.ts k1).ts k2) (L.rs rs et) el En kd step (hR.kp (k1.trans k2)) fin (ksk_s2 _ _ _) (fun x=>ksk_l2 _ _ _) fun x=>ksk_t2 _ _ _
end
section
variable {P:Program}{w:World}{K:PySem.W.Frag}{mg:Str→Option Value}{base:Heap}
theorem yZ.X2 {x qual:Str}{st:Stmt}{f:Addr}{fd:FuncData}{N ps:List Str}{k:Nat}{sp:gN} (F:yZ K x qual st f fd) (S:ai N ps (ae st)) (len:∀ ds S R Z,sp ds S R Z→ds.length=ps.length)
  (pH:∀ (bq:Value) (A:Around) (outer:List Env) (s:Shared) (H:Hp) (E:XK) (ds:List D) (S:aU) (R:KD) (Z:KX),bq=fd.code→cI k (A.deeper (envOfC qual (ae st) s.heap.objs.size f bq))→sp ds S R Z →
   ∃ t,Fp K (kC (hW P w) P w K mg base N qual (ae st) f bq A outer s H E) true (bN st) t∧t { nx:=fun _ S'=>Fo S' (R .aw),rt:=fun d S'=>Fo S' (R d) } (kG N ds) S fun _ C S'=>Fo S' (Z C)):ck P w K mg base (hW P w) (k+1) f fd ps (ud K sp):=by
 obtain⟨oc,od,dV,kV,doc,pm,an,bq,ct,Mq,rfl,lk,q9⟩:=F.ex
 have gM:ps.length≤N.length:=by have:=congrArg List.length S.pre;rw[yd] at this;omega
 refine Kt lk q9 S (fun vs H Q E ⟨ds,S',R,Z,v,_,h,_⟩=>by rw[v.len];exact len _ _ _ _ h) fun A outer s H vs Q E hr ⟨ds,S',R,Z,v,hS,h,hR,hZ⟩=>?_
 obtain⟨t,ht,q⟩:=pH bq A outer s H E ds S' R Z rfl hr h
 have L:dA (kC (hW P w) P w K mg base N qual (ae st) f bq A outer s H E) E:=sV
 let y:Ev (kC (hW P w) P w K mg base N qual (ae st) f bq A outer s H E) true:=⟨_,(kC (hW P w) P w K mg base N qual (ae st) f bq A outer s H E).xe,fun _=>E,⟨fun p2 τ H1 s1 e s' I h=>KA L p2 τ H1 s1 e s' I h,fun _ p2 τ H1 s1 h' a cls args I hx he=>n0 L I hx he,fun _=>PassesOwn.leaving⟩⟩
 refine⟨L2.Tl K (fun _=>E) t,ht.of y,kG N ds,S',_,fun _ C S'=>Fo S' (Z C),?_,hS,q,⟨fun σ S1 τ H1 ⟨S2,sb,r⟩ a b c=>(hR.kp c).now (b.sub sb) r ic,fun d S1 v H1 ⟨S2,sb,r⟩ a b c=>hR _ _ _ _ r a (b.sub sb) c,fun _ _ _ _ z=>z.elim,fun _ _ _ _ z=>z.elim⟩,fun σ τ C S1 H1 ⟨S2,sb,r⟩ a b c=>hZ C S2 H1 r (b.sub sb) c⟩
 unfold kG start
 refine (pW v).app ?_
 rw[v.len]
 exact pV _ _ (by rw[List.length_replicate])
end
structure v7 (ts:List Addr) (H:Hp):Prop where
 all:∀ b,H b=none∨(∃ o xs,H b=some (.ku o (.lst xs)))∨(b∈ts∧H b=some (.o3 #[]))
 tab:∀ b∈ts,H b=some (.o3 #[])
theorem C1 {P:Program}{w:World}{K:PySem.W.Frag}{mg mb:Str→Option Value}{CX:xN}{k:Nat}{fa a:Addr}{fd:FuncData}{x:Str}{sp:Sp}{aY:Shared}{vs:List Value}{ns:List Int}{ts:List Addr}
  (KX:K.In aY.heap) (Ny:aY.heap.Ns mainGlobals mg) (hb:aY.heap.Ns builtinsNs mb) (Z6:∀ x:Str,x ≠ "__name__" → mb x=bootBuiltins x) (Wc:aY.heap.NoLimit) (Z7:Bm mg aY.heap) (hg:aY.gens=#[])
  (hT:∀ b∈ts,aY.heap.get? b=some (tabObj #[])) (hC:∀ b∈ts,isCodeTable aY.heap b) (hN:∀ b∈ts,K.lookup b=none)
  (ha:aY.heap.get? a=some { cls:=.type "list",data:=.seq vs.toArray }) (hi:IntsAre vs ns) (hl:ns.length≤sizeLine) (hr:cI k callerA)
  (F:∀ base:Heap,Bm mg base→K.In base→base.Ns mainGlobals mg→ck P w K mg base CX k fa fd [x] sp) (Rp:∀ (s:Shared) (u:Value),BindsTo s fd ⟨[u],[]⟩ [(x,u)])
  (Ox:∀ H:Hp,v7 ts H→gL K H a (ns.map V.int)→sp [.ref a] H (fun v _=>v=.bl true) fun _ _ _=>False)
  (Wd:∀ H e s',CX [] H aY (fun _ _ _=>False) e s'→False) :
  codeAny (model P w) callerA (.call (.ref fa) ⟨[.ref a],[]⟩) (fun r s'=>r=.ok (.ret (.bool true))∧OldK aY.heap s'.heap∧s'.os=aY.os∧AllBare s'.gens) aY:=by
 have rv:=sS hi
 have We:=hi.length
 have SM:a∉ts:=fun z=>by rw[hT a z] at ha;cases ha
 have core:∀ H:Hp,v7 ts H→gL K H a (ns.map V.int)→kx P w H aY.heap→(∀ b,H b≠none→b=a∨b∈ts)→(H a≠none→K.lookup a=none) →
   codeAny (model P w) callerA (.call (.ref fa) ⟨[.ref a],[]⟩) (fun r s'=>r=.ok (.ret (.bool true))∧OldK aY.heap s'.heap∧s'.os=aY.os∧AllBare s'.gens) aY:=by
  intro H hO hS aJ hA hK
  have ur:∀ {b:Addr}{o:Obj},aY.heap.get? b=some o→H b=none→(rp aY.heap H).get? b=some o:=fun e n=>Er e n
  have Ia:∀ {b:Addr}{o:Obj}{es:Array DictEntry}{ep:Nat},aY.heap.get? b=some o→o.data=.dict es ep→H b=none:=fun {b o es ep} e d=>by
   cases q:H b with
   | none=>rfl
   | some u =>
    rcases hA b (by rw[q];simp) with e' | e'
    ·subst e'
     rw[ha] at e;cases e
     have d':Data.seq vs.toArray _=Data.dict es ep:=d
     cases d'
    ·rw[hT b e'] at e;cases e;cases d
  have Tc:∀ {b:Addr}{m:Str→Option Value},aY.heap.Ns b m→(rp aY.heap H).Ns b m:=fun {b m} ⟨o,es,ep,e,d,r⟩=>⟨o,es,ep,ur e (Ia e d),d,r⟩
  have X3:K.In (rp aY.heap H):=fun b o e=>ur (KX b o e) (by
   cases q:H b with
   | none=>rfl
   | some u =>
    rcases hA b (by rw[q];simp) with e' | e'
    ·subst e'
     rw[hK (by rw[q];simp)] at e;cases e
    ·rw[hN b e'] at e;cases e)
  have hM:Mod K mg (rp aY.heap H):=⟨X3,Tc Ny,⟨mb,Tc hb,Z6⟩,by obtain⟨mc,h1,h2⟩:=Wc;exact⟨mc,Tc h1,h2⟩⟩
  have e0:vA P w K mg (rp aY.heap H) callerA [] aY H:=⟨rfl,hM,fun b o e=>HH e,Nat.le_of_eq (B7 _ _),trivial,fun b hb=>absurd (show b∈([]:List Addr) from hb) (by simp),aJ,.of_eq hg⟩
  have Z8:Bm mg (rp aY.heap H):=by
   obtain⟨bm,ob,b1,b2,b3,b4,b5,b6⟩:=Z7
   refine⟨bm,ob,b1,b2,ur b3 ?_,b4,b5,b6⟩
   cases q:H bm with
   | none=>rfl
   | some u =>
    rcases hA bm (by rw[q];simp) with e' | e'
    ·rw[e',ha] at b3;cases b3;cases b6
    ·rw[hT bm e'] at b3;cases b3;cases b4
  refine yK ((F _ Z8 X3 (Tc Ny)).run callerA [] aY H ⟨[.ref a],[]⟩ [.ref a] [.ref a] _ _ hr e0 (Rp aY (.ref a)) (.cons rfl .nil) (Ox H hO hS)) fun r s' h=>?_
  cases r with
  | error e=>exact (Wd H e s' h).elim
  | ok fl =>
   cases fl with
   | next=>exact False.elim h
   | brk=>exact False.elim h
   | cont=>exact False.elim h
   | ret u =>
    obtain⟨v,H',os,bare,un,Rq,r',q⟩:=h
    have q':v=.bl true:=q
    subst q'
    obtain rfl:u=Value.bool true:=r'
    refine⟨rfl,⟨fun b o e=>?_,fun b o e=>un.there b o e (by simp)⟩,os,bare⟩
    rcases hO.all b with z | ⟨ob,xs,z⟩ | ⟨z1,z⟩
    ·exact .inl (un.keep b o e z (by intro z;exact absurd (show b∈([]:List Addr) from z) (by simp)) (by simp))
    ·have z2:=un.kz b ob _ z
     obtain⟨e1,_⟩:=aJ b _ z
     obtain⟨e2,_⟩:=Rq b _ z2
     rw[e] at e1;cases e1
     exact .inl e2
    ·obtain⟨more,z2⟩:=un.kB b _ z
     have e2:=hT b z1
     rw[e] at e2;cases e2
     exact .inr (.inl ⟨hC b z1,rfl,#[],more,rfl,by have:=Rq b _ z2;exact this⟩)
 have tabs:∀ (H:Hp),(∀ b,b∈ts→H b=some (.o3 #[]))→∀ b u,b∈ts→H b=some u→bc P w H aY.heap b u:=fun H h b u hb e=>by
  rw[h b hb] at e;cases e;exact hT b hb
 cases hk:K.lookup a with
 | some o =>
  have e:=KX a o hk
  rw[ha] at e
  cases e
  refine core (fun b=>if b∈ts then some (.o3 #[]) else none) ⟨fun b=>?_,fun b hb=>if_pos hb⟩ (.inr ⟨_,vs.toArray,_,hk,rfl,rfl,rfl,by rw[zk,We];exact hl,by simpa using rv⟩) (fun b u z=>?_) (fun b z=>?_) fun z=>absurd (if_neg SM) z
  ·by_cases hb:b∈ts
   ·exact .inr (.inr ⟨hb,if_pos hb⟩)
   ·exact .inl (if_neg hb)
  ·by_cases hb:b∈ts
   ·exact tabs _ (fun b hb=>if_pos hb) b u hb z
   ·have z':=(if_neg hb).symm.trans z;cases z'
  ·by_cases hb:b∈ts
   ·exact .inr hb
   ·exact absurd (if_neg hb) z
 | none =>
  refine core (fun b=>if b=a then some (.ku { cls:=.type "list",data:=.seq vs.toArray } (.lst (ns.map V.int))) else if b∈ts then some (.o3 #[]) else none) ⟨fun b=>?_,fun b hb=>?_⟩ (.inl (.inr ⟨{ cls:=.type "list",data:=.seq vs.toArray },if_pos rfl⟩)) (fun b u z=>?_) (fun b z=>?_) fun _=>hk
  ·by_cases hb:b=a
   ·exact .inr (.inl ⟨_,_,if_pos hb⟩)
   ·by_cases oH:b∈ts
    ·exact .inr (.inr ⟨oH,(if_neg hb).trans (if_pos oH)⟩)
    ·exact .inl ((if_neg hb).trans (if_neg oH))
  ·have:b≠a:=fun z=>SM (z ▸ hb)
   exact (if_neg this).trans (if_pos hb)
  ·by_cases hb:b=a
   ·have z':=(if_pos hb).symm.trans z
    cases z'
    subst hb
    exact⟨ha,by rw[zc];exact hl,vs,_,rv,ha⟩
   ·have z':=(if_neg hb).symm.trans z
    by_cases oH:b∈ts
    ·have z2:=(if_pos oH).symm.trans z'
     cases z2
     exact hT b oH
    ·have z2:=(if_neg oH).symm.trans z'
     cases z2
  ·by_cases hb:b=a
   ·exact .inl hb
   ·by_cases oH:b∈ts
    ·exact .inr oH
    ·exact absurd ((if_neg hb).trans (if_neg oH)) z
theorem BA:∀ {K:PySem.W.Frag},b∉K.map (·.1)→K.lookup b=none
 | [],_=>rfl
 | (a,o) :: K,h=>by
  rw[zA,ze,not_or] at h
  rw[zT,show (b == a)=false from beq_false_of_ne h.1]
  exact BA h.2
theorem Jj {K:Params→PySem.W.Frag}{as:List Addr}{e:∀ P,as=(K P).map (·.1)}{ts:List Addr}{w:World}{h:Heap} (_:(PySem.W.kmHook K as e ts).says w h) (d:∀ b∈ts,b∉as):∀ b∈ts,(K w.params).lookup b=none:=fun b hb=>BA (by rw[← e];exact d b hb)
theorem FO {l:PySem.W.OpenLaw}{n k:Nat}{q:Program}{loose:List Str}{XP:(Str→Option Value)→Heap→Prop}{YP:World→Heap→Prop}{d:DefRec}{K:Params→PySem.W.Frag}{CX:xN}{x:Str}{ts:List Addr}
  (hn:l.most=some n) (Mi:n≤sizeLine) (UG:d.params.defaults=[]) (hr:cI k callerA)
  (hY:∀ (w:World) (h:Heap),YP w h→(K w.params).In h) (hT:∀ (w:World) (h:Heap),YP w h→∀ b∈ts,h.get? b=some (tabObj #[])) (hN:∀ (w:World) (h:Heap),YP w h→∀ b∈ts,(K w.params).lookup b=none)
  (F:∀ (w:World) (mg:Str→Option Value) (fa:Addr) (h:Heap),(K w.params).In h→h.Ns mainGlobals mg→mg d.name=some (.ref fa) →
   ∃ (fd:FuncData) (sp:Sp),(∀ b∈ts,∃ c,codeHdIn (K w.params) c b=true)∧(∀ (s:Shared) (u:Value),BindsTo s fd ⟨[u],[]⟩ [(x,u)]) ∧
    (∀ base:Heap,Bm mg base→(K w.params).In base→base.Ns mainGlobals mg→ck l.prog w (K w.params) mg base CX k fa fd [x] sp) ∧
    ∀ (H:Hp) (a:Addr) (ns:List Int),ns.length≤n→v7 ts H→gL (K w.params) H a (ns.map V.int)→sp [.ref a] H (fun v _=>v=.bl true) fun _ _ _=>False)
  (Wd:∀ (H:Hp) (s:Shared) (e:Value) (s':Shared),CX [] H s (fun _ _ _=>False) e s'→False) :
  PySem.W.WalkO q loose XP YP l.row.toRowW d [] (fun f vs=>PySem.call f vs):=by
 refine Att.vH hn UG fun w dr aY mg mb fa o pm cd doc a vs ns G Y ho hd q9 MJ MK hints hlen hg=>?_
 have KX:=hY w _ Y
 obtain⟨fd,sp,hC,hb,hF,Ox⟩:=F w mg fa _ KX G.T.g MJ
 have X4:=hT w _ Y
 exact C1 KX G.T.g G.T.b G.T.builtins G.T.nolimit G.T.bmain hg X4 (fun b z=>by obtain⟨c,hc⟩:=hC b z;exact ((codeHd_of_K KX hc).tab (X4 b z)).isCodeTable) (hN w _ Y) MK hints (zG hlen Mi) hr hF hb (fun H hO hS=>Ox H a ns hlen hO hS) fun H e s'=>Wd H aY e s'
namespace Rt
theorem own:Manifest.owners.lookup (String.ofList ['d','e','s','r','e','v','e','r'].reverse)=some Manifest.sig_reversed:=by kernel_rfl
theorem lR:Slot "reversed" "__next__" "reversed.__next__" := .of (owner := "reversed") (n := "__next__") (by rw[typeLookup_type,builtinLookup_eq_fast];kernel_rfl) (by decide +kernel) (by decide +kernel) (by decide +kernel) (by first | exact .inl (by decide +kernel) | exact .inr (by decide +kernel)) (by rw[isSubtype_type];kernel_rfl)
theorem BB:entryFor table "reversed.__next__" = some Builtin.«reversed.__next__»:=entryFor_of_tree (by kernel_rfl)
theorem BC (a:Value):argsOk "reversed.__next__" ⟨[a],[]⟩:=by
 unfold argsOk;rw[signature?_of (id := "reversed.__next__") (n:=['_','_','t','x','e','n','_','_']) (o:=['d','e','s','r','e','v','e','r']) (by kernel_rfl) own];kernel_rfl
theorem BD:Slot "reversed" "__iter__" "reversed.__iter__" := .of (owner := "reversed") (n := "__iter__") (by rw[typeLookup_type,builtinLookup_eq_fast];kernel_rfl) (by decide +kernel) (by decide +kernel) (by decide +kernel) (by first | exact .inl (by decide +kernel) | exact .inr (by decide +kernel)) (by rw[isSubtype_type];kernel_rfl)
theorem Jk (a:Value):argsOk "reversed.__iter__" ⟨[a],[]⟩:=by
 unfold argsOk;rw[signature?_of (id := "reversed.__iter__") (n:=['_','_','r','e','t','i','_','_']) (o:=['d','e','s','r','e','v','e','r']) (by kernel_rfl) own];kernel_rfl
theorem Jl:entryFor table "reversed.__iter__" = some Builtin.«dict_keyiterator.__iter__» :=
 entryFor_alias (id' := "dict_keyiterator.__iter__") (by kernel_rfl) (by first | rfl | decide +kernel | (unfold String.splitOn;simp +decide [String.splitOnAux])) (by decide +kernel) (by kernel_rfl)
theorem Jm:Slot "reversed" "__init__" "object.__init__" := .of (owner := "object") (n := "__init__") (by rw[typeLookup_type,builtinLookup_eq_fast];kernel_rfl) (by decide +kernel) (by decide +kernel) (by decide +kernel) (by first | exact .inl (by decide +kernel) | exact .inr (by decide +kernel)) (by rw[isSubtype_type];kernel_rfl)
theorem called:TypeCalled "reversed" "reversed.__new__" "object.__init__" := ⟨by decide +kernel,by decide +kernel,⟨_,_,F.mro_reversed⟩,F.made_reversed,by decide +kernel,by rw[isSubtype_type];kernel_rfl,Jm⟩
theorem NC:typeLookup (.type "tuple") "__reversed__" = pure none:=by rw[typeLookup_type,builtinLookup_eq_fast];kernel_rfl
theorem BE:typeLookup (.type "tuple") "__getitem__" = pure (some (.builtin "tuple.__getitem__")):=by rw[typeLookup_type,builtinLookup_eq_fast];kernel_rfl
theorem Jn:isSubtype (.type "tuple") (.type "dict")=pure false:=by rw[isSubtype_type];kernel_rfl
end Rt
def v8 (l:Addr) (i:Int):Obj:={ cls:=.type "reversed",data:=.fields #[.ref l,rawInt i] }
def qf (h:Heap) (a l:Addr) (i:Int):Prop:=∃ o,h.get? a=some o∧o.cls=.type "reversed" ∧ o.data=.fields #[.ref l,rawInt i]
section
variable {prog:Program}{w:World}{A:Around}{E:Value→Shared→Prop}{s:Shared}
theorem qf.typeIs (x:qf s.heap a l i):s.TypeIs (.ref a) "reversed" := by obtain⟨o,ho,hc,_⟩:=x;exact⟨o,ho,hc⟩
theorem qf.keep (x:qf h a l i) (e:∀ o,h.get? a=some o→h'.get? a=some o):qf h' a l i:=by obtain⟨o,ho,r⟩:=x;exact⟨o,e _ ho,r⟩
theorem ND (hl:IsTup s.heap l items) (hz:items.size≤sizeLine) (h:Q₁ (.ref s.heap.objs.size) { s with heap:=s.heap.push (v8 l ((items.size:Int) - 1)),toks:=s.toks+1+1 }) :
  codeAny (model prog w) A (.call (.builtin "reversed.__new__") ⟨[.type "reversed",.ref l],[]⟩) (wants Q₁ E) s:=by
 refine codeAny_of_tree ?_
 show wpAny _ A.in1 (do checkBuiltinCall "reversed.__new__" ⟨[.type "reversed",.ref l],[]⟩;again (.builtin "reversed.__new__" ⟨[.type "reversed",.ref l],[]⟩)) _ _ s
 refine za (yO (F.newCall_reversed_1 _) (zf ⟨plainId_quiet F.plain_reversed_new _,yG F.entry_reversed_new ?_⟩))
 rw[Around.under_plainId F.plain_reversed_new _]
 unfold Builtin.«reversed.__new__»
 refine za (yO (newClass_reversed _) ?_)
 refine za (yO (a:=()) (by first | rfl | kernel_rfl) (za (yO (a:=()) (by first | rfl | kernel_rfl) ?_)))
 refine za (wpAny_specialOf hl.typeIs Rt.NC ?_)
 refine za (za (wpAny_isInstance hl.typeIs Rt.Jn (za (wpAny_specialOf hl.typeIs Rt.BE ?_))))
 show wpAny _ _ (if (["tuple.__getitem__", "str.__getitem__", "bytes.__getitem__", "bytearray.__getitem__", "memoryview.__getitem__", "numpy.ndarray.__getitem__", "sqlite3.Row.__getitem__"]:List String).contains "tuple.__getitem__" = true then pure true else _) _ _ _
 rw[if_pos (by decide +kernel)]
 refine zf ?_
 show wpAny _ _ (do
     let mT ← call (Value.builtin "len") [Value.ref l]
     let Z9 ← asInt? mT
     match Z9 with
      | some n=>do
       let mT ← Builtin.SmallTypes.newRecord (Value.type "reversed") [Value.ref l,rawInt (n - 1)]
       ret mT
      | x=>unsupported "internal:reversed.__new__") _ _ _
 refine za (len_tuple hl (by rw[zR] at hz;omega) ?_)
 refine za (yO (a:=some ((items.size:Nat):Int)) rfl ?_)
 exact za (m:=newObj (.type "reversed") (.fields #[.ref l,rawInt (((items.size:Nat):Int) - 1)])) (yf (zf h))
theorem Jo (hl:IsTup s.heap l items) (hz:items.size≤sizeLine) (h:Q (.ref s.heap.objs.size) { s with heap:=s.heap.push (v8 l ((items.size:Int) - 1)),toks:=s.toks+1+1 }) :
  wpAny (model prog w) A (call (.type "reversed") [.ref l]) Q E s:=by
 refine callType_codes Rt.called (F.typeCall_reversed_1 _) F.entry_object_init (Q₁:=fun obj aY=>aY.TypeIs obj "reversed" ∧ Q obj aY) (ND hl hz ⟨⟨_,zj _ rfl,rfl⟩,h⟩) fun obj aY h₁=>?_
 exact⟨h₁.1,F.args_object_init_2 obj _,object_init_meets Rt.called.init.lookup Rt.called.made (by decide) prog w A.in1 _ aY ⟨h₁.1,rfl,h₁.2⟩⟩
theorem Z_ (h:k<n):seqIndex? ((k:Nat):Int) n=some k:=by
 have e:(if ((k:Nat):Int)<0 then ((k:Nat):Int)+(n:Int) else ((k:Nat):Int))=((k:Nat):Int):=if_neg (by omega)
 unfold seqIndex?
 dsimp only
 rw[e,if_pos (by simp;omega)];rfl
theorem Jp {it l:Addr}{i:Nat}{items:Array Value}{x:Value}{Q:Option Value→Shared→Prop} (hit:qf s.heap it l (i:Int)) (hl:IsTup s.heap l items) (hz:items.size≤sizeLine) (hx:items[i]?=some x)
  (hQ:∀ h' tk,qf h' it l ((i:Int) - 1)→Heap.SameBut it s.heap h'→Q (some x) { s with heap:=h',toks:=tk }):wpAny (model prog w) A (pyNext (.ref it)) Q E s:=by
 obtain⟨o,ho,hc,hd⟩:=id hit
 have hi:i<items.size:=(Array.getElem?_eq_some_iff.mp hx).1
 unfold pyNext
 refine za (yL (yb (name:=Str.ofString "__next__") hit.typeIs Rt.lR (yk Rt.lR hit.typeIs Rt.BB ?_ (Rt.BC _))))
 unfold Builtin.«reversed.__next__»
 refine za (yO (a:=(Value.ref it,[])) rfl (za (zJ ho hd (x:=.ref l) rfl (za (zJ ho hd (x:=rawInt (i:Int)) rfl ?_)))))
 show wpAny _ _ (if (i:Int)<0 then _ else _) _ _ s
 rw[if_neg (by omega)]
 show wpAny _ _ (specialOf (.ref l) "__getitem__" >>= _) _ _ s
 refine za (wpAny_specialOf hl.typeIs Rt.BE ?_)
 show wpAny _ _ (mkInt (i:Int) >>= _) _ _ s
 refine za (wpAny_mkInt ?_)
 refine za (yL (getItem_tuple (j:=i) hl (by omega) (by rw[zR] at hz;omega) (Z_ hi) hx ?_))
 refine za (zJ ho hd (x:=rawInt (i:Int)) rfl ?_)
 show wpAny _ _ (setField (.ref it) 1 (rawInt ((i:Int) - 1)) >>= fun _=>ret x) _ _ _
 refine za (wpAny_setField ho hd (by simp) (zf ⟨x,rfl,zf (hQ _ _ ?_ (yr ..))⟩))
 exact⟨_,Heap.get?_update_self _ ho (Obj.isFreed_of_fields (Obj.data_mapFields hd _)),(Obj.cls_mapFields ..).trans hc,by rw[Obj.data_mapFields hd];simp⟩
theorem NF (hh:A.handled=none) (hit:qf s.heap it l (-1)) (hQ:∀ h',Heap.ExtBut it s.heap h'→Q none { s with heap:=h' }):wpAny (model prog w) A (pyNext (.ref it)) Q E s:=by
 obtain⟨o,ho,hc,hd⟩:=id hit
 unfold pyNext
 refine za (yL (yb (name:=Str.ofString "__next__") hit.typeIs Rt.lR (yk Rt.lR hit.typeIs Rt.BB ?_ (Rt.BC _))))
 unfold Builtin.«reversed.__next__»
 refine za (yO (a:=(Value.ref it,[])) rfl (za (zJ ho hd (x:=.ref l) rfl (za (zJ ho hd (x:=rawInt (-1)) rfl ?_)))))
 show wpAny _ _ (if (-1:Int)<0 then _ else _) _ _ s
 rw[if_pos (by decide)]
 refine za (yJ ?_)
 have X5:=Obj.data_mapFields hd (·.setIfInBounds 1 (rawInt (-1)))
 have K5:=Heap.get?_update_self (Obj.mapFields (·.setIfInBounds 1 (rawInt (-1)))) ho (Obj.isFreed_of_fields X5)
 refine za (m:=setField (.ref it) 1 (rawInt (-1)) >>= fun _=>setField (.ref it) 0 .none) (za (wpAny_setField ho hd (by simp) (wpAny_setField K5 X5 (by simp) ?_)))
 have eb:Heap.ExtBut it s.heap ((s.heap.update it (Obj.mapFields (·.setIfInBounds 1 (rawInt (-1))))).update it (Obj.mapFields (·.setIfInBounds 0 Value.none))):=fun b u hb e=>by
  rw[Heap.get?_update_other _ _ (Ne.symm hb),Heap.get?_update_other _ _ (Ne.symm hb)];exact e
 refine za ?_
 show wpAny _ _ (newExc (.type "StopIteration") [] >>= _) _ _ _
 refine za ?_
 simp only [newExc,newTuple]
 refine za (yf ?_ (by size_fits))
 refine za (m:=firstArgMember _ _) (yO (a:=Value.none) (by first | rfl | (simp only [firstArgMember];rfl)) ?_)
 refine yf ?_ (by size_fits)
 simp only [raiseNew]
 refine za (wpAny_handled ?_)
 first | rw[show A.in1.handled=none from hh] | rw[hh]
 refine za (zf (wpAny_throw ?_))
 refine za (wpAny_isInstance (T := "StopIteration") (b:=true) ⟨_,zj _ rfl,rfl⟩ isSubtype_stop ?_)
 exact zf (hQ _ ((eb.push _).push _))
theorem BF (hit:qf s.heap it l i) (h:Q (.ref it) s):wpAny (model prog w) A (pyIter (.ref it)) Q E s:=by
 refine wpAny_pyIter_slot hit.typeIs Rt.BD (yk Rt.BD hit.typeIs Rt.Jl ?_ (Rt.Jk _))
 show wpAny _ _ (ret (.ref it)) _ _ s
 exact zf ⟨_,rfl, "reversed",_,hit.typeIs,Rt.lR.lookup,h⟩
end
end L2
namespace L2
open PySem PySem.Spec PyProof.Rows
def Rr (K:PySem.W.Frag) (a:Addr) (n:Nat):It :=
 ⟨fun i H=>∃ xs x,iU K H a xs∧xs.length=n∧i<n∧xs[n - 1 - i]?=some x,fun i H x H'=>H'=H∧∀ xs,iU K H a xs→xs.length=n→xs[n - 1 - i]?=some x,fun i _=>n≤i⟩
theorem Jq {P:Program}{w:World}{K:PySem.W.Frag}{tg:Expr} (a it:Addr) (n:Nat):Turn P w K tg (Rr K a n) [it] it (fun i h=>i≤n∧qf h it a ((n:Int) - 1 - (i:Int))) where
 mem:=by simp
 obj:=fun i h st b hb=>by
  have e:b=it:=by simpa using hb
  subst e
  obtain⟨_,o,e,c,d⟩:=st
  exact⟨o,e,fun v z=>by rw[d] at z;cases z⟩
 keep:=fun i h h' st k=>⟨st.1,st.2.keep fun o e=>k it (by simp) o e⟩
 item:=by
  intro X hP hw hK hc i pins s σ H E I hf st hg
  subst hP hw hK
  obtain⟨xs,x,hq,hn,hi,hx⟩:=hg
  obtain⟨ay,rv,p,hz⟩:=I.tuple hq
  obtain⟨u,hu,ru⟩:=rv.get hx
  obtain⟨f0,f1,f2,f3,f4,f5⟩:=hf it (by simp)
  have e:(n:Int) - 1 - (i:Int)=((n - 1 - i:Nat):Int):=by omega
  have hit:=st.2
  rw[e] at hit
  refine Jp hit p (by rw[zk,← rv.length];exact hz) (x:=u) (by simpa using hu) fun h' tk eZ sb=>?_
  have I1:Inv X pins σ H { s with heap:=h',toks:=tk }:=I.turned (t':=tk) (fun b o hb e=>(sb.2 b hb).trans e) f0 f1 f3 f4 f5
  obtain⟨o,e1,c,d⟩:=id eZ
  refine⟨u,rfl,sG (s:={ s with heap:=h',toks:=tk }) e1 c d (by decide) ⟨x,H,I1,ru,⟨rfl,fun ys hy _=>by rw[I.jK hy hq];exact hx⟩,⟨hi,?_⟩,fun b hb=>(hf b hb).1⟩⟩
  have e2:(n:Int) - 1 - ((i+1:Nat):Int)=((n - 1 - i:Nat):Int) - 1:=by omega
  rw[e2];exact eZ
 done:=by
  intro X hP hw hK hc i pins s σ H E I hf st hg
  subst hP hw hK
  obtain⟨f0,f1,f2,f3,f4,f5⟩:=hf it (by simp)
  have hg:n≤i:=hg
  have e:(n:Int) - 1 - (i:Int) = -1:=by have:=st.1;omega
  have hit:=st.2
  rw[e] at hit
  exact NF (I.ok.hd hc) hit fun h' eb=>⟨rfl,I.turned (t':=s.toks) (fun b o hb e=>eb b o hb e) f0 f1 f3 f4 f5⟩
 self:=fun _ _ _ _ _ st h=>BF st.2 h
def iRt (K:PySem.W.Frag) (ta:TA):TI:=fun σ H R=>ta σ H fun vs H1=>∃ a xs,vs=[.ref a]∧iU K H1 a xs∧R (Rr K a xs.length) H1
theorem Ru {X:Cx}{tg a:Expr}{ta:TA}{p pos:Pos} (hg:Gl X "reversed") (hm:X.mg "reversed" = none) (ha:PA X [a] ta) (hs:starEach [a] X.env=[(false,eval a X.env)]):PI X tg (.Call (.Name "reversed" p) [a] [] pos) (iRt X.K ta):=by
 intro pins s σ H R I h
 refine Call_ (gx I hg hm boot_reversed (PyProof.Rows.callWith_type1 (bf (ha pos pins s σ H _ I h) fun us s1 ⟨vs,H1,I1,r1,q1⟩=>?_) hs rfl))
 obtain⟨l,xs,e,q,hR⟩:=q1
 subst e
 obtain⟨u,rfl,ru⟩:=vals1 r1
 cases ru
 obtain⟨ay,rv,pl,hz⟩:=I1.tuple q
 have hn:ay.toArray.size=xs.length:=by rw[zk,rv.length]
 refine Jo pl (by rw[hn];exact hz) ?_
 rw[hn]
 have st:qf (s1.heap.push (v8 l ((xs.length:Int) - 1))) s1.heap.objs.size l ((xs.length:Int) - 1 - ((0:Nat):Int)):=⟨_,zj _ rfl,rfl,by show Data.fields _=Data.fields _;simp⟩
 have I2:Inv X pins σ H1 { s1 with heap:=s1.heap.push (v8 l ((xs.length:Int) - 1)),toks:=s1.toks+1+1 }:=I1.kept (t':=s1.toks+1+1) fun b o e=>zb _ e
 refine BF (s:={ s1 with heap:=s1.heap.push (v8 l ((xs.length:Int) - 1)),toks:=s1.toks+1+1 }) st ⟨_,_,_,_,H1,rfl,I2,Jq l s1.heap.objs.size xs.length,⟨yj _,st⟩,fun b hb=>?_,hR⟩
 have hb:b=s1.heap.objs.size:=by simpa using hb
 subst hb
 exact I1.oz (zm _) (I1.aJ.fresh (zm _))
section
variable {K:PySem.W.Frag}{X:Cx}{tg:Expr}
def Wf (t:lL):yY:=fun σ S R Z=>t σ S (fun ds S1=>∃ es,ds=[.tup es]∧R ⟨es.reverse,fun _=>True⟩ S1) Z
theorem irt {a:Expr}{t:lL}{p pos:Pos} (hm:X.mg "reversed" = none) (ha:DA K X [a] t) (hg:Gl X "reversed" := by rfl) (hs:starEach [a] X.env=[(false,eval a X.env)]:=by rfl) (hK:X.K=K:=by rfl):DI K X tg (.Call (.Name "reversed" p) [a] [] pos) (Wf t):=by
 subst hK
 exact⟨fun y=>(Ru (X:=y.cx) hg hm (ha.of y) hs).mono fun τ H R ⟨σ,S,RI,Z,aD,hS,q,hR,hZ⟩=>⟨σ,S,_,Z,aD,hS,q,fun ds S1 vs H1 ⟨es,e,r1⟩ v1 s1 k1=>by
  subst e
  obtain⟨v,rfl,r⟩:=v1.one
  obtain⟨a,xs,rfl,hq,t⟩:=r.tup
  refine⟨a,xs,rfl,.inl (.of hq),hR _ S1 _ H1 r1 (fun i S2 H2 k2 s2 Nh=>?_) s1 k1⟩
  have OL:iU X.K H2 a xs:=.inl (.of (k2.t _ _ hq))
  have t2:=RvAll.ts k2 _ t
  have hl:xs.length=es.length:=t.len
  refine⟨fun d hd=>?_,fun h=>by rw[yt] at h;show xs.length≤i;omega⟩
  have hi:i<es.length:=by have:=(zo.mp hd).1;rwa [yt] at this
  rw[List.getElem?_reverse hi] at hd
  obtain⟨v,e1,r⟩:=t2.get hd
  rw[hl]
  refine⟨⟨xs,v,OL,hl,hi,e1⟩,fun x' H' ⟨e2,e3⟩=>?_⟩
  subst e2
  have:=e3 xs OL hl
  rw[e1] at this;cases this
  exact⟨r,.refl _,s2⟩,hZ⟩⟩
end
section
variable {K:PySem.W.Frag}{X:Cx}{pos:Pos}
def NG (tc:pX) (tb:n8):n8:=fun De σ S Z=>∃ P:Nat→SD→aU→Prop,(∃ m,P m σ S)∧∀ m σ S,P m σ S→tc σ S (fun b S1=>if b=true then tb { De with nx:=fun aK S'=>∃ m',m'<m∧P m' aK S',ct:=fun aK S'=>∃ m',m'<m∧P m' aK S',bk:=De.nx } σ S1 Z else De.nx σ S1) (Z σ)
theorem swh (hc:DT K X c tc) (hb:Fp K X true body tb):DS K X true (.While c body [] pos) (NG tc tb) :=
 ⟨fun y=>(Ew (X:=y.cx) (y.ok.loop rfl) (hc.of y) (hb.of y)).mono <| by rintro D τ H ⟨σ,S,De,Z,aD,hS,⟨P,⟨m,p0⟩,turn⟩,hD,hZ⟩;exact
  ⟨fun m OH H'=>∃ σ S,ig K H' σ OH∧Rs K S H'∧P m σ S∧Kp K H H',⟨m,σ,S,aD,hS,p0,.refl _⟩,by rintro m VL H1 ⟨vi,S1,a1,s1,p1,k1⟩;exact⟨vi,S1,_,Z vi,a1,s1,turn m vi S1 p1,fun b S2 H2 r2 s2 k2=>by
   cases b with
   | true =>
    rw[if_pos rfl] at r2 ⊢
    refine⟨fun X6 H3=>∃ σ S,ig K H3 σ X6∧Rs K S H3∧(∃ m',m'<m∧P m' σ S)∧Kp K H H3,by rintro X6 H3 ⟨iV,S3,a3,s3,⟨m',hm,p3⟩,k3⟩;exact⟨m',hm,iV,S3,a3,s3,p3,k3⟩,?_⟩
    have kk:=k1.trans k2
    exact⟨vi,S2,_,Z,a1.ts k2,s2,r2,⟨fun Nl S5 VW H5 r5 a5 s5 k5=>⟨Nl,S5,a5,s5,r5,kk.trans k5⟩,hD.rt.kp kk,hD.nx.kp kk,fun Nl S5 VW H5 r5 a5 s5 k5=>⟨Nl,S5,a5,s5,r5,kk.trans k5⟩⟩,hZ.kp kk⟩
   | false =>
    rw[if_neg zd] at r2 ⊢
    exact hD.nx _ _ _ _ r2 (a1.ts k2) s2 (k1.trans k2),(hZ.kp k1).at a1⟩⟩⟩
def Wh (i:Nat) (te:TD):n8:=fun De σ S Z=>∃ a:Int,σ[i]?=some (some (.int a))∧te σ S (fun d S1=>∃ b:Int,d=.int b∧De.nx (σ.set i (some (.int (a+b)))) S1) (Z σ)
theorem X7 (hN:X.N.Nodup) (he:DE K X e te) (hi:X.N[i]?=some x:=by rfl) (hx:Loc X.env.scope x:=by first | exact .inl rfl | exact .inr rfl) (hf:X.fn x=true∨X.env.scope.names.lookup x=some .local:=by first | exact .inl rfl | exact .inr rfl) :
  DS K X b (.AugAssign (.Name x pos') .Add e pos) (Wh i te) :=
 ⟨fun y=>(L4 (X:=y.cx) hN hi hx (he.of y) L5 hf).mono <| by
  rintro D τ H ⟨σ,S,De,Z,aD,hS,⟨a,ha,t⟩,hD,hZ⟩
  obtain⟨v,e1,r⟩:=aD.get ha
  exact⟨v,e1,σ,S,_,Z σ,aD,hS,t,by
   rintro d S1 u H1 ⟨c,e2,n⟩ rv s1 k1
   subst e2
   exact⟨a,c,r.int,rv.int,hD.nx _ _ _ _ n ((aD.ts k1).set i (aO _)) s1 k1⟩,hZ.at aD⟩⟩
end
section
variable {K:PySem.W.Frag}{X:Cx}
def vD:V→D
 | .int i=>.int i
 | .str z=>.str z
 | .bl b=>.bl b
 | _=>.aw
def FP:V→Bool
 | .int _=>true
 | .str _=>true
 | _=>false
def Rw (kvs:List (Str×V)) (ty:TD):TD:=fun σ S R Z=>ty σ S (fun y S1=>∃ z,y=.str z∧R ((kvs.lookup z).elim .aw vD) S1) Z
theorem X8 {w:World}{ad:Addr}{kvs:List (Str×V)}{o e:Expr}{apos aR:Pos}{ty:TD} (d:HA w K ad kvs) (hf:(kvs.all fun p=>FP p.2)=true) (ho:∀ Y:Cx,Y.env=X.env→Y.mg=X.mg→PE Y o (tC (.ref ad))) (he:DE K X e ty) (hw:X.w=w:=by rfl) (hK:X.K=K:=by rfl) (m:M1 X o "get" apos e aR:=by exact⟨rfl,rfl,rfl,rfl⟩) :
  DE K X (.Call (.Attribute o "get" apos) [e] [] aR) (Rw kvs ty) :=
 ⟨fun y=>(E_ (X:=y.cx) hw hK (ho y.cx rfl rfl) (he.of y) ⟨m.base,m.Eh,m.line,m.trees⟩).mono <| by rintro τ H Q ⟨σ,S,R,Z,aD,hS,q,hR,hZ⟩;exact⟨ad,kvs,rfl,d,σ,S,_,Z,aD,hS,q,by
  rintro yv S1 v H1 ⟨z,e1,r⟩ rv s1 k1
  subst e1
  refine⟨z,rv.str,hR _ _ _ _ r ?_ s1 k1⟩
  have fl:∀ v,kvs.lookup z=some v→FP v=true:=fun v hv=>by
   have:=ya hv
   exact ym.mp hf _ this
  cases q:kvs.lookup z with
  | none=>exact ic
  | some v =>
   have:=fl v q
   cases v with
   | int i=>exact aO i
   | str i=>exact i8 i
   | _=>(cases this),hZ⟩⟩
end
theorem BG:∀ (i:Nat) {xs:List V}{us:List Value},Vals xs us→Vals (xs.take i) (us.take i)
 | 0,_,_,_=>.nil
 | _+1,_,_,.nil=>.nil
 | i+1,_,_,.cons r t=>.cons r (BG i t)
theorem BH:∀ (i:Nat) {xs:List V}{us:List Value},Vals xs us→Vals (xs.drop i) (us.drop i)
 | 0,_,_,h=>h
 | _+1,_,_,.nil=>.nil
 | i+1,_,_,.cons r t=>BH i t
section
variable {X:Cx}
def Jr:V→List V→Hp→VK→Prop:=fun x vs H Q=>∃ l xs y i,x=.ref l∧vs=[.int ((i:Nat):Int),y]∧H l=some (.lst xs)∧i≤xs.length∧xs.length≤1000000∧Q .aw (upd H l (.lst (xs.take i++y :: xs.drop i)))
theorem C2:Ss X "list.insert" Jr:=by
 intro pins s σ H x vs v us Q I rx rv h
 obtain⟨l,xs,y,i,rfl,rfl,hH,hi,hz,q⟩:=h
 cases rx
 obtain⟨u1,u2,rfl,r1,r2⟩:=rv.two
 obtain⟨t1,rfl⟩:=r1
 obtain⟨z,ay,n,r,hl,e⟩:=I.Co hH
 have hlen:xs.length=ay.length:=r.length
 have hf:∀ i:Nat,i≤1000000→¬(!Builtin.List.listFitsIndex ((i:Nat):Int))=true:=fun i h=>by
  unfold Builtin.List.listFitsIndex
  simp only [Bool.not_eq_true',Bool.not_eq_false',zN,yq]
  rw[zt (by omega),zt (by omega)];decide
 have hsz:ay.toArray.size≤sizeLine:=by rw[zk,zR];omega
 have X9:=hf i (by omega)
 generalize hk:((i:Nat):Int)=k at X9
 have M:=AutoListH.list_insert_list_int_val_1 l ay.toArray n k t1 u2 X9 hsz
 refine call_meets F.slot_list_insert ⟨_,e,rfl⟩ F.entry_list_insert (F.args_list_insert_3 _ _ _) M ⟨e,?_⟩
 subst hk
 refine⟨.aw,_,I.Il (its':=ay.take i++u2 :: ay.drop i) hH e ?_ ((BG i r).append (.cons r2 (BH i r))) ?_,rfl,q⟩
 ·dsimp only
  rw[if_neg (by omega),Int.toNat_natCast,zk,Nat.min_eq_left (by omega)]
  simp
  exact List.take_of_length_le (by rw[List.length_drop];omega)
 ·rw[zC,zK,yd,List.length_drop,zR]
  omega
end
section
variable {K:PySem.W.Frag}
def Js:Ek:=fun x ds S R=>∃ a es d i,x=.ref a∧ds=[.int ((i:Nat):Int),d]∧S a=some (.lst es)∧i≤es.length∧es.length≤1000000∧R .aw (S.set a (.lst (es.take i++d :: es.drop i)))
theorem FQ:KO K "list.insert" Js:=by
 rintro X hK pins s σ H x xs v us Q I rx rs ⟨d,ds,S,R,r1,r2,hS,⟨a,es,y,i,e1,e2,e3,hi,hl,h⟩,hR⟩
 subst e1 e2
 obtain⟨w0,ws,rfl,q1,q2⟩:=r2.cons
 obtain⟨w1,rfl,q3⟩:=q2.one
 obtain⟨zs,e4,t⟩:=hS.lst e3
 exact C2 pins s σ H x _ v us Q I rx rs ⟨a,zs,w1,i,r1.ref,by rw[q1.int],e4,by rw[t.len];exact hi,by rw[t.len];exact hl,hR.put hS e3 h ic ((t.take i).app (aS q3 (t.drop i)))⟩
end
section
variable {X:Cx}
end
section
variable {K:PySem.W.Frag}
end
theorem gK (hm:X.mg x=some (.ref a)) (hg:Gl X x:=by rfl) (hd:(x == ("__debug__" : Str))=false:=by decide):∀ Y:Cx,Y.env=X.env→Y.mg=X.mg→PE Y (.Name x pos) (tC (.ref a)) :=
 fun Y e1 e2=>A4 (X:=Y) (u:=.ref a) (show Y.env.kindOf x=_ by rw[e1];exact hg) (by rw[e2];exact hm) rfl hd
structure Fb (K:PySem.W.Frag) (x q:Str) (st:Stmt) (ps:List Str) (f:Addr) (d:FuncData):Prop where
 F:yZ K x q st f d
 b:Binds K d ps []
structure eQ (K:PySem.W.Frag) (mg:Str→Option Value) (x:Str) (st:Stmt) (ps:List Str) (f:Addr) (d:FuncData):Prop extends Fb K x x st ps f d where
 k:keepIn K (.ref f)=true
 m:mg x=some (.ref f)
structure vk (K:PySem.W.Frag) (c:Addr) (x q:Str) (st:Stmt) (ps:List Str) (f:Addr) (d:FuncData):Prop extends Fb K x q st ps f d where
 e:Meth K c x f
abbrev Ok (P:Program) (w:World) (base:Heap) {K:PySem.W.Frag}{mg:Str→Option Value}{x:Str}{st:Stmt}{ps:List Str}{f:Addr}{d:FuncData} (_:eQ K mg x st ps f d) (k:Nat) (sp:gN):Prop:=ck P w K mg base (hW P w) k f d ps (ud K sp)
abbrev ip (P:Program) (w:World) (mg:Str→Option Value) (base:Heap) {K:PySem.W.Frag}{c:Addr}{x q:Str}{st:Stmt}{ps:List Str}{f:Addr}{d:FuncData} (_:vk K c x q st ps f d) (k:Nat) (sp:gN):Prop:=ck P w K mg base (hW P w) k f d ps (ud K sp)
theorem cX {N P:List Str}{sc:Scope} (a:sc.kind=.function∧sc.isCoroutine=false∧sc.isGenerator=false∧N.take P.length=P) (b:N.Nodup∧(∀ x∈P,sc.names.lookup x=some .local∨sc.names.lookup x=some .cell)∧∀ y∈sc.names,y.2≠.free):ai N P sc:=⟨a.1,a.2.1,a.2.2.1,b.1,a.2.2.2,b.2.1,b.2.2⟩
section
variable {R:Prop}{K:PySem.W.Frag}{h:Heap}{mg:Str→Option Value}{od an:Option Addr}{sl:Array (Option Value)}{oc dV kV dc pm cd ct:Value}{f da:Addr}{OU:Option Addr}{dn:Nat}{OV:Array (Option Value)}{c:Addr}{tk:Tok}{d:FuncData}
theorem fV (X:K.In h) (G:h.Ns mainGlobals mg) (x:Str) (st:Stmt) (ps:List Str) (a:nsIn K mainGlobals x=some (some (.ref f))) (l:K.lookup f=some ⟨oc,od,.func (fnOf x x (cF st) (bN st) (ae st) dV kV dc pm an cd ct),sl⟩)
  (e:codeIn K cd x=true) (k:keepIn K (.ref f)=true) (b:∀ us:List Value,us.length=ps.length→bindArgs (fnOf x x (cF st) (bN st) (ae st) dV kV dc pm an cd ct) ⟨us,[]⟩=pure (ps.zip us)) (g:∀ d,eQ K mg x st ps f d→R):R :=
 g _ ⟨⟨⟨_,_,_,_,_,_,_,_,_,_,rfl,l,e⟩,.all b⟩,k,mg_of X G a⟩
theorem Wi (X:K.In h) (G:h.Ns mainGlobals mg) (x:Str) (st:Stmt) (ps:List Str) (a:nsIn K mainGlobals x=some (some (.ref f))) (l:K.lookup f=some ⟨oc,od,.func (fnOf x x (cF st) (bN st) (ae st) dV kV dc pm an cd ct),sl⟩)
  (e:codeIn K cd x=true) (k:keepIn K (.ref f)=true) (b:∀ us:List Value,us.length=ps.length→bindArgs (fnOf x x (cF st) (bN st) (ae st) dV kV dc pm an cd ct) ⟨us,[]⟩=pure (ps.zip us)) (g:∀ d,d.code=cd→(∀ (s:Shared) (us:List Value),us.length=ps.length→BindsTo s d ⟨us,[]⟩ (ps.zip us))→eQ K mg x st ps f d→R):R :=
 g _ rfl (fun s us h=>.of_eq (b us h)) ⟨⟨⟨_,_,_,_,_,_,_,_,_,_,rfl,l,e⟩,.all b⟩,k,mg_of X G a⟩
theorem C3 (C:sI K c) (x q:Str) (st:Stmt) (ps:List Str) (a:findIn K (.ref c) x=some (some (.ref f))) (i:isFn K (.ref f)=true) (l:K.lookup f=some ⟨oc,od,.func (fnOf x q (cF st) (bN st) (ae st) dV kV dc pm an cd ct),sl⟩)
  (e:codeIn K cd q=true) (k:keepIn K (.ref f)=true) (b:∀ us:List Value,us.length=ps.length→bindArgs (fnOf x q (cF st) (bN st) (ae st) dV kV dc pm an cd ct) ⟨us,[]⟩=pure (ps.zip us)) (g:∀ d,vk K c x q st ps f d→R):R :=
 g _ ⟨⟨⟨_,_,_,_,_,_,_,_,_,_,rfl,l,e⟩,.all b⟩,a,i,k⟩
theorem fnd (X:K.In h) (G:h.Ns mainGlobals mg) (x:Str) (st:Stmt) (ps:List Str) (a:nsIn K mainGlobals x=some (some (.ref f))) (l:K.lookup f=some ⟨oc,od,.func (fnOf x x (cF st) (bN st) (ae st) (.ref da) kV dc pm an cd ct),sl⟩)
  (t:K.lookup da=some ⟨.type "tuple",OU,.seq #[.none] dn,OV⟩) (e:codeIn K cd x=true) (k:keepIn K (.ref f)=true)
  (b:∀ (s:Shared) (us:List Value),s.heap.get? da=some ⟨.type "tuple",OU,.seq #[.none] dn,OV⟩→us.length=ps.length→BindsTo s (fnOf x x (cF st) (bN st) (ae st) (.ref da) kV dc pm an cd ct) ⟨us,[]⟩ (ps.zip us))
  (b2:∀ (s:Shared) (us:List Value),s.heap.get? da=some ⟨.type "tuple",OU,.seq #[.none] dn,OV⟩→us.length+1=ps.length→BindsTo s (fnOf x x (cF st) (bN st) (ae st) (.ref da) kV dc pm an cd ct) ⟨us,[]⟩ (ps.zip (us++[.none])))
  (g:∀ d,eQ K mg x st ps f d→Binds K d ps [.none]→R):R :=
 g _ ⟨⟨⟨_,_,_,_,_,_,_,_,_,_,rfl,l,e⟩,fun s us hK hl=>by rw[List.append_nil] at hl ⊢;exact b s us (hK _ _ t) hl⟩,k,mg_of X G a⟩ fun s us hK hl=>b2 s us (hK _ _ t) (by simpa using hl)
theorem X_ (C:sI K c) (x q:Str) (st:Stmt) (ps:List Str) (a:findIn K (.ref c) x=some (some (.ref f))) (i:isFn K (.ref f)=true) (l:K.lookup f=some ⟨oc,od,.func (fnOf x q (cF st) (bN st) (ae st) (.ref da) kV dc pm an cd ct),sl⟩)
  (t:K.lookup da=some ⟨.type "tuple",OU,.seq #[.none] dn,OV⟩) (e:codeIn K cd q=true) (k:keepIn K (.ref f)=true)
  (b:∀ (s:Shared) (us:List Value),s.heap.get? da=some ⟨.type "tuple",OU,.seq #[.none] dn,OV⟩→us.length=ps.length→BindsTo s (fnOf x q (cF st) (bN st) (ae st) (.ref da) kV dc pm an cd ct) ⟨us,[]⟩ (ps.zip us))
  (b2:∀ (s:Shared) (us:List Value),s.heap.get? da=some ⟨.type "tuple",OU,.seq #[.none] dn,OV⟩→us.length+1=ps.length→BindsTo s (fnOf x q (cF st) (bN st) (ae st) (.ref da) kV dc pm an cd ct) ⟨us,[]⟩ (ps.zip (us++[.none])))
  (g:∀ d,vk K c x q st ps f d→Binds K d ps [.none]→R):R :=
 g _ ⟨⟨⟨_,_,_,_,_,_,_,_,_,_,rfl,l,e⟩,fun s us hK hl=>by rw[List.append_nil] at hl ⊢;exact b s us (hK _ _ t) hl⟩,a,i,k⟩ fun s us hK hl=>b2 s us (hK _ _ t) (by simpa using hl)
theorem xw (X:K.In h) (G:h.Ns mainGlobals mg) (x:Str) (a:nsIn K mainGlobals x=some none) (g:mg x=none→R):R:=g (PySem.W.mg_none_of X G a)
theorem K8 (X:K.In h) (G:h.Ns mainGlobals mg) (x:Str) (i:Int) (a:nsIn K mainGlobals x=some (some (.int i tk))) (g:mg x=some (.int i tk)→R):R:=g (mg_of X G a)
theorem Rx (X:K.In h) (G:h.Ns mainGlobals mg) (x:Str) (a:nsIn K mainGlobals x=some (some (.ref c))) (l:K.lookup c=some o) (g:mg x=some (.ref c)→K.lookup c=some o→R):R:=g (mg_of X G a) l
theorem K9 (X:K.In h) (G:h.Ns mainGlobals mg) (x:Str) (a:nsIn K mainGlobals x=some (some (.ref c))) (e:excIn K c L2.oG "ValueError.__new__" = true) (g:mg x=some (.ref c)→excIn K c L2.oG "ValueError.__new__" = true→R):R:=g (mg_of X G a) e
theorem Ya (X:K.In h) (G:h.Ns mainGlobals mg) (x:Str) (a:nsIn K mainGlobals x=some (some (.ref c))) (pg:plainGet K c Str.empty=true) (hd:hasDictIn K c=true) (po:plainOver K c=true) (sa:findIn K (.ref c) "__setattr__" = some (some (.builtin "object.__setattr__"))) (ms:makesIn K c=true) (kc:keepIn K (.ref c)=true)
  (g:mg x=some (.ref c)→sI K c→makesIn K c=true→keepIn K (.ref c)=true→R):R:=g (mg_of X G a) ⟨pg,hd,po,sa⟩ ms kc
theorem Ry (C:sI K c) (x:Str) (a:findIn K (.ref c) x=some none) (g:findIn K (.ref c) x=some none→R):R:=g a
theorem NH (l:K.lookup c=some o) (e:codeHdIn [(c,o)] c P=true):codeHdIn K c P=true:=by
 unfold codeHdIn at e ⊢
 rw[l]
 rw[show ([(c,o)]:PySem.W.Frag).lookup c=some o by simp] at e
 exact e
theorem Yb (X:K.In h) (e:d.code=.ref c) (o:K.lookup c=some ⟨oC,od,.fields vC,sl⟩) (q:vC[11]?=some (.ref P)) (hh:codeHdIn [(c,⟨oC,od,.fields vC,sl⟩)] c P=true) (g:codeHdIn K c P=true→R):R:=g (NH o hh)
end
section
variable {Q:List Value→Prop}
theorem ln0 (h:Q []) (us:List Value) (e:us.length=0):Q us:=by cases us with
 | nil=>exact h
 | cons a us=>cases e
theorem Jt (h:∀ a us,us.length=n→Q (a :: us)) (us:List Value) (e:us.length=n+1):Q us:=by cases us with
 | nil=>cases e
 | cons a us=>exact h a us (Nat.succ.inj e)
theorem pq (h:∀ a,Q [a]):∀ us:List Value,us.length=1→Q us:=Jt fun a=>ln0 (h a)
theorem ln2 (h:∀ a b,Q [a,b]):∀ us:List Value,us.length=2→Q us:=Jt fun a=>pq (h a)
theorem v9 (h:∀ a b c,Q [a,b,c]):∀ us:List Value,us.length=3→Q us:=Jt fun a=>ln2 (h a)
theorem Wj (h:∀ a b c d,Q [a,b,c,d]):∀ us:List Value,us.length=4→Q us:=Jt fun a=>v9 (h a)
theorem Wk (h:∀ a,Q [a]) (us:List Value) (e:us.length+1=2):Q us:=pq h us (Nat.succ.inj e)
theorem Wl (h:∀ a b,Q [a,b]) (us:List Value) (e:us.length+1=3):Q us:=ln2 h us (Nat.succ.inj e)
theorem Wm (h:∀ a b c,Q [a,b,c]) (us:List Value) (e:us.length+1=4):Q us:=v9 h us (Nat.succ.inj e)
end
def Yc (n l0 l1:Nat) (i:Nat) (h:Heap):Prop:=IsZip h (n+4) (n+2) (n+3) .none∧eC h (n+2) #[.ref n,.ref (n+1)]∧(∃ arr:Array Value,arr.size=2∧eC h (n+3) arr)∧h.IsListIter n l0 i∧h.IsListIter (n+1) l1 i
section
variable {prog:Program}{w:World}{A:Around}{E:Value→Shared→Prop}{s:Shared}{n l0 l1:Nat}{i:Nat}{fm gA:Array Value}
theorem C4 {x0 x1:Value}{arr:Array Value} (na:arr.size=2) {Q:Value→Shared→Prop} (b0:l0<n) (b1:l1<n) (hz:IsZip s.heap (n+4) (n+2) (n+3) .none) (hI:eC s.heap (n+2) #[.ref n,.ref (n+1)]) (hO:eC s.heap (n+3) arr) (j0:s.heap.IsListIter n l0 i) (j1:s.heap.IsListIter (n+1) l1 i) (t0:s.heap.IsList l0 fm) (t1:s.heap.IsList l1 gA) (e0:fm[i]?=some x0) (e1:gA[i]?=some x1)
  (hQ:∀ h',IsZip h' (n+4) (n+2) (n+3) (rawInt s.heap.objs.size)→eC h' (n+3) #[x0,x1]→h'.IsListIter n l0 (i+1)→h'.IsListIter (n+1) l1 (i+1)→eC h' s.heap.objs.size #[x0,x1]→(∀ c o,c≠(n+4)→c≠(n+3)→c≠n→c≠(n+1)→s.heap.get? c=some o→h'.get? c=some o)→Q (.ref s.heap.objs.size) { s with heap:=h' }) :
  wpAny (model prog w) A (Builtin.«zip.__next__» ⟨[.ref (n+4)],[]⟩) (fun fin s'=>∃ v,fin=.done (.ret v)∧Q v s') E s:=by
 show wpAny _ _ (field (.ref (n+4)) 2 >>= _) _ _ _ ;refine za (zJ hz rfl (x:=.bool false) rfl ?_)
 show wpAny _ _ (field (.ref (n+4)) 3 >>= _) _ _ _ ;refine za (zJ hz rfl (x:=.ref (n+2)) rfl ?_)
 refine za (yh hI rfl ?_) ;show wpAny _ _ (Builtin.SmallTypes.ownedTupleIsFree (.ref (n+4)) >>= _) _ _ _
 refine za ?_ ;unfold Builtin.SmallTypes.ownedTupleIsFree
 refine za (zJ hz rfl (x:=.none) rfl (zf ?_)) ;simp only [if_true]
 refine za (yJ ?_) ;refine za (zJ hz rfl (x:=.ref (n+3)) rfl ?_)
 refine za (yi hz (by simp) fun h0 x8 q0=>?_) ;replace x8:IsZip h0 (n+4) (n+2) (n+3) .ellipsis:=x8
 have k0:∀ c o,c≠(n+4)→s.heap.get? c=some o→h0.get? c=some o:=fun c o d e=>q0.extBut _ _ d e
 have O0:eC h0 (n+3) arr:=k0 _ _ (by show @Ne Nat _ _;omega) hO
 refine za ?_ ;simp only [List.zipIdx_cons,List.zipIdx_nil,List.forIn_cons,List.forIn_nil]
 -- the 0. iterator
 have J0:Heap.IsListIter h0 n l0 i:=by obtain⟨o,a1,a2⟩:=j0;exact⟨o,k0 _ _ (by show @Ne Nat _ _;omega) a1,a2⟩
 have T0:Heap.IsList h0 l0 fm:=by obtain⟨o,a1,a2⟩:=t0;exact⟨o,k0 _ _ (by show @Ne Nat _ _;omega) a1,a2⟩
 refine za (za (wpAny_onRaise ?_)) ;show wpAny _ _ (Builtin.SmallTypes.nextOf (.ref n) >>= _) _ _ _
 refine za (wpAny_nextOf_list_item (s:={ s with heap:=h0 }) J0 T0 e0 fun h1 m0 q1=>zf ?_)
 have O1:eC h1 (n+3) arr:=q1.extBut _ _ (by show @Ne Nat _ _;omega) O0
 refine za (yh (s:={ s with heap:=h1 }) O1 rfl ?_) ;refine za (jM (s:={ s with heap:=h1 }) O1 (by simp [na,OE]) fun h2 O2 q2=>?_) ;refine za (wpAny_letGo (zf ?_))
 have k2:∀ c o,c≠(n+4)→c≠(n+3)→c≠n→s.heap.get? c=some o→h2.get? c=some o:=fun c o dz dO d0 e=>q2.extBut _ _ dO (q1.extBut _ _ d0 (k0 c o dz  e))
 -- the 1. iterator
 have J1:Heap.IsListIter h2 (n+1) l1 i:=by obtain⟨o,a1,a2⟩:=j1;exact⟨o,k2 _ _ (by show @Ne Nat _ _;omega) (by show @Ne Nat _ _;omega) (by show @Ne Nat _ _;omega) a1,a2⟩
 have T1:Heap.IsList h2 l1 gA:=by obtain⟨o,a1,a2⟩:=t1;exact⟨o,k2 _ _ (by show @Ne Nat _ _;omega) (by show @Ne Nat _ _;omega) (by show @Ne Nat _ _;omega) a1,a2⟩
 refine za (za (wpAny_onRaise ?_)) ;show wpAny _ _ (Builtin.SmallTypes.nextOf (.ref (n+1)) >>= _) _ _ _
 refine za (wpAny_nextOf_list_item (s:={ s with heap:=h2 }) J1 T1 e1 fun h3 m1 q3=>zf ?_)
 have O3:eC h3 (n+3) (arr.setIfInBounds 0 x0):=q3.extBut _ _ (by show @Ne Nat _ _;omega) O2
 refine za (yh (s:={ s with heap:=h3 }) O3 rfl ?_) ;refine za (jM (s:={ s with heap:=h3 }) O3 (by simp [na,OE]) fun h4 O4 q4=>?_) ;refine za (wpAny_letGo (zf ?_))
 have k4:∀ c o,c≠(n+4)→c≠(n+3)→c≠n→c≠(n+1)→s.heap.get? c=some o→h4.get? c=some o:=fun c o dz dO d0 d1 e=>q4.extBut _ _ dO (q3.extBut _ _ d1 (k2 c o dz dO d0 e))
 have ea:((arr.setIfInBounds 0 x0).setIfInBounds 1 x1)=#[x0,x1]:=by obtain⟨l⟩:=arr;match l,na with | [_,_],_=>rfl
 rw[ea] at O4
 have Qr:IsZip h4 (n+4) (n+2) (n+3) .ellipsis:=q4.extBut _ _ (by show @Ne Nat _ _;omega) (q3.extBut _ _ (by show @Ne Nat _ _;omega) (q2.extBut _ _ (by show @Ne Nat _ _;omega) (q1.extBut _ _ (by show @Ne Nat _ _;omega) (x8))))
 have M0:Heap.IsListIter h4 n l0 (i+1):=mS q4.extBut (by show @Ne Nat _ _;omega) (mS q3.extBut (by show @Ne Nat _ _;omega) (mS q2.extBut (by show @Ne Nat _ _;omega) m0))
 have M1:Heap.IsListIter h4 (n+1) l1 (i+1):=mS q4.extBut (by show @Ne Nat _ _;omega) m1
 have hsz:h4.objs.size=s.heap.objs.size:=by rw[q4.1,q3.1,q2.1,q1.1,q0.1]
 refine zf ?_ ;refine za (yh (s:={ s with heap:=h4 }) O4 rfl ?_) ;refine za (wpAny_newTuple ?_)
 have lz:(n+4)<h4.objs.size:=zp Qr
 show wpAny _ _ (Builtin.SmallTypes.ownedTupleHandOut (.ref (n+4)) (.ref h4.objs.size) >>= _) _ _ _ ;refine za ?_ ;unfold Builtin.SmallTypes.ownedTupleHandOut
 have U9:IsZip (h4.push { cls:=.type "tuple",data:=.seq #[x0,x1] }) (n+4) (n+2) (n+3) .ellipsis:=zb _ Qr
 refine za (yi (s:={ s with heap:=h4.push { cls:=.type "tuple",data:=.seq #[x0,x1] } }) U9 (by simp) fun g1 CG r1=>?_) ;replace CG:IsZip g1 (n+4) (n+2) (n+3) (rawInt h4.objs.size):=CG
 refine yi (s:={ s with heap:=g1 }) CG (by simp) fun g2 Ej r2=>?_ ;replace Ej:IsZip g2 (n+4) (n+2) (n+3) (rawInt h4.objs.size):=Ej
 have up:∀ c o,c≠(n+4)→h4.get? c=some o→g2.get? c=some o:=fun c o d e=>r2.extBut _ _ d (r1.extBut _ _ d (zb _ e))
 have hT:eC g2 h4.objs.size #[x0,x1]:=r2.extBut _ _ (yc lz) (r1.extBut _ _ (yc lz) (zj _ rfl))
 rw[hsz] at Ej hT ;refine zf ⟨_,rfl,?_⟩ ;show Q (.ref h4.objs.size) _ ;rw[hsz]
 exact hQ g2 Ej (up _ _ (by show @Ne Nat _ _;omega) O4) (Bw (fun o e=>up _ o (by show @Ne Nat _ _;omega) e) M0) (Bw (fun o e=>up _ o (by show @Ne Nat _ _;omega) e) M1) hT fun c o dz dO d0 d1 e=>up c o dz (k4 c o dz dO d0 d1 e)
theorem FR (hh:A.handled=none) (b0:l0<n) (b1:l1<n) (hz:IsZip s.heap (n+4) (n+2) (n+3) .none) (hI:eC s.heap (n+2) #[.ref n,.ref (n+1)]) (hO:eC s.heap (n+3) arr) (j0:s.heap.IsListIter n l0 i) (j1:s.heap.IsListIter (n+1) l1 i) (t0:s.heap.IsList l0 fm) (t1:s.heap.IsList l1 gA)
  (e0:fm[i]?=none) (hE:∀ h' e,(∀ c o,c≠(n+4)→c≠(n+3)→c≠n→c≠(n+1)→s.heap.get? c=some o→h'.get? c=some o)→(∃ o,h'.get? e=some o∧o.cls=.type "StopIteration")→E (.ref e) { s with heap:=h' }) :
  wpAny (model prog w) A (Builtin.«zip.__next__» ⟨[.ref (n+4)],[]⟩) Q E s:=by
 show wpAny _ _ (field (.ref (n+4)) 2 >>= _) _ _ _ ;refine za (zJ hz rfl (x:=.bool false) rfl ?_)
 show wpAny _ _ (field (.ref (n+4)) 3 >>= _) _ _ _ ;refine za (zJ hz rfl (x:=.ref (n+2)) rfl ?_)
 refine za (yh hI rfl ?_) ;show wpAny _ _ (Builtin.SmallTypes.ownedTupleIsFree (.ref (n+4)) >>= _) _ _ _
 refine za ?_ ;unfold Builtin.SmallTypes.ownedTupleIsFree
 refine za (zJ hz rfl (x:=.none) rfl (zf ?_)) ;simp only [if_true]
 refine za (yJ ?_) ;refine za (zJ hz rfl (x:=.ref (n+3)) rfl ?_)
 refine za (yi hz (by simp) fun h0 x8 q0=>?_) ;replace x8:IsZip h0 (n+4) (n+2) (n+3) .ellipsis:=x8
 have J0:Heap.IsListIter h0 n l0 i:=by obtain⟨o,a1,a2⟩:=j0;exact⟨o,q0.extBut _ _ (by show @Ne Nat _ _;omega) a1,a2⟩
 have T0:Heap.IsList h0 l0 fm:=by obtain⟨o,a1,a2⟩:=t0;exact⟨o,q0.extBut _ _ (by show @Ne Nat _ _;omega) a1,a2⟩
 refine za ?_ ;simp only [List.zipIdx_cons,List.zipIdx_nil,List.forIn_cons,List.forIn_nil]
 refine za (za (wpAny_onRaise ?_)) ;show wpAny _ _ (Builtin.SmallTypes.nextOf (.ref n) >>= _) _ _ _
 refine za (wpAny_nextOf_list_end (s:={ s with heap:=h0 }) hh J0 T0 e0 fun h1 e q1 he=>?_)
 obtain⟨oe,M7,Qs⟩:=he ;have CG:IsZip h1 (n+4) (n+2) (n+3) .ellipsis:=q1 _ _ (by show @Ne Nat _ _;omega) x8
 have ez:e≠(n+4):=fun x=>by subst x;rw[CG] at M7;cases M7;simp at Qs
 refine yi (s:={ s with heap:=h1 }) CG (by simp) fun h2 _ q2=>hE h2 e (fun c o dz _ d0 _ x=>q2.extBut _ _ dz (q1 _ _ d0 (q0.extBut _ _ dz x))) ⟨oe,q2.extBut _ _ ez M7,Qs⟩
end
def Rz (K:PySem.W.Frag) (l0 l1:Addr):It :=
 ⟨fun i H=>∃ (fm gA:List V) (x0 x1:V),gL K H l0 fm∧gL K H l1 gA∧fm[i]?=some x0∧gA[i]?=some x1,
  fun i H x H'=>∃ T,H T=none∧x=.ref T∧∀ (fm gA:List V) (x0 x1:V),gL K H l0 fm→gL K H l1 gA→fm[i]?=some x0→gA[i]?=some x1→H'=upd H T (.tup [x0,x1]),
  fun i H=>∃ fm gA,gL K H l0 fm∧gL K H l1 gA∧fm.length≤i⟩
theorem C5 {P:Program}{w:World}{K:PySem.W.Frag}{es:List Expr}{kk:Nat}{tp:Pos}{n l0 l1:Nat} (b0:l0<n) (b1:l1<n):Turn P w K (.Tuple es kk tp) (Rz K l0 l1) [n,(n+1),(n+2),(n+3),(n+4)] (n+4) (Yc n l0 l1) where
 mem:=by simp
 obj:=fun i h st b hb=>by
  obtain⟨hz,hI,⟨arr,na,hO⟩,j0,j1⟩:=st
  have c:b=n∨b=(n+1)∨b=(n+2)∨b=(n+3)∨b=(n+4):=by simpa using hb
  rcases c with rfl | rfl | rfl | rfl | rfl
  ·obtain⟨o,e,c,d⟩:=j0;exact⟨o,e,fun v z=>by rw[d] at z;cases z⟩
  ·obtain⟨o,e,c,d⟩:=j1;exact⟨o,e,fun v z=>by rw[d] at z;cases z⟩
  ·exact⟨_,hI,fun v z=>by cases z⟩
  ·exact⟨_,hO,fun v z=>by cases z⟩
  ·exact⟨_,hz,fun v z=>by cases z⟩
 keep:=fun i h h' st k=>by
  obtain⟨hz,hI,⟨arr,na,hO⟩,j0,j1⟩:=st
  exact⟨k _ (by simp) _ hz,k _ (by simp) _ hI,⟨arr,na,k _ (by simp) _ hO⟩,Bw (fun o e=>k _ (by simp) o e) j0,Bw (fun o e=>k _ (by simp) o e) j1⟩
 item:=by
  intro X hP hw hK hc i pins s σ H E I hf st hg
  subst hP hw hK
  obtain⟨fm,gA,x0,x1,q0,q1,e0,e1⟩:=hg
  obtain⟨rH,IK,p0,_⟩:=I.list q0 ;obtain⟨u0,U_,Va⟩:=IK.get e0
  obtain⟨rJ,E7,p1,_⟩:=I.list q1 ;obtain⟨u1,Vb,Vc⟩:=E7.get e1
  obtain⟨hz,hI,⟨arr,na,hO⟩,j0,j1⟩:=st
  have hT:s.TypeIs (.ref (n+4)) "zip" := ⟨_,hz,rfl⟩
  unfold pyNext
  refine za (yL (yb (name:=Str.ofString "__next__") hT yH (yk yH hT F.entry_zip_next (C4 na b0 b1 hz hI hO j0 j1 (fA p0) (fA p1) (show rH.toArray[i]?=some u0 by simpa using U_) (show rJ.toArray[i]?=some u1 by simpa using Vb) fun h1 z1 O1 m0 m1 T1 kp=>zf ⟨_,rfl,?_⟩) (F.args_zip_next_1 _))))
  refine wpAny_letOwnedTupleGo_zip (s:={ s with heap:=h1 }) z1 fun h2 z2 r2=>?_
  have OF:∀ c o,c∉([(n+4),(n+3),n,(n+1)]:List Addr)→s.heap.get? c=some o→h2.get? c=some o:=fun c o hc e=>by
   simp only [ze,zD,or_false,not_or] at hc
   obtain⟨dz,dO,d0,d1⟩:=hc
   exact r2.extBut _ _ dz (kp c o dz dO d0 d1 e)
  have lz:(n+4)<s.heap.objs.size:=zp hz
  have T2:eC h2 s.heap.objs.size #[u0,u1]:=r2.extBut _ _ (yc lz) T1
  have Vd:∀ b∈([(n+4),(n+3),n,(n+1)]:List Addr),oy X pins H b:=fun b hb=>hf b (by simp only [ze,zD,or_false] at hb ⊢;rcases hb with h | h | h | h <;> simp [h])
  have I2:Inv X pins σ (upd H s.heap.objs.size (.tup [x0,x1])) { s with heap:=h2 }:=I.Bl (t':=s.toks) [(n+4),(n+3),n,(n+1)] Vd OF (Heap.get?_none_of_le (zm _)) ⟨U6 (show 2≤1000 by decide),[u0,u1],.cons Va (.cons Vc (.nil)),⟨_,T2,rfl,rfl,_,rfl⟩⟩
  refine⟨.ref s.heap.objs.size,_,I2,rfl,⟨_,I.aJ.fresh (zm _),rfl,fun Zn Zo y0 y1 g0 g1 f0 f1=>?_⟩,?_,fun b hb=>?_⟩
  ·have:=I.lG g0 q0 ;subst this ;have:=e0.symm.trans f0 ;cases this
   have:=I.lG g1 q1 ;subst this ;have:=e1.symm.trans f1 ;cases this
   rfl
  ·refine⟨z2,r2.extBut _ _ (by show @Ne Nat _ _;omega) (kp _ _ (by show @Ne Nat _ _;omega) (by show @Ne Nat _ _;omega) (by show @Ne Nat _ _;omega) (by show @Ne Nat _ _;omega) hI),⟨_,rfl,r2.extBut _ _ (by show @Ne Nat _ _;omega) O1⟩,mS r2.extBut (by show @Ne Nat _ _;omega) m0,mS r2.extBut (by show @Ne Nat _ _;omega) m1⟩
  ·have l2:b<s.heap.objs.size:=by
    simp only [ze,zD,or_false] at hb
    have lz:@LT.lt Nat _ (n+4) s.heap.objs.size:=lz
    rcases hb with rfl | rfl | rfl | rfl | rfl <;> (show @LT.lt Nat _ _ s.heap.objs.size;omega)
   rw[av (zr l2)] ;exact (hf b hb).1
 done:=by
  intro X hP hw hK hc i pins s σ H E I hf st hg
  subst hP hw hK
  obtain⟨fm,gA,q0,q1,hx⟩:=hg
  obtain⟨rH,IK,p0,_⟩:=I.list q0
  obtain⟨rJ,E7,p1,_⟩:=I.list q1
  obtain⟨hz,hI,⟨arr,na,hO⟩,j0,j1⟩:=st
  have hT:s.TypeIs (.ref (n+4)) "zip" := ⟨_,hz,rfl⟩ ;have hl:=IK.length
  unfold pyNext
  refine za (yL (yb (name:=Str.ofString "__next__") hT yH (yk yH hT F.entry_zip_next (FR (I.ok.hd hc) b0 b1 hz hI hO j0 j1 (fA p0) (fA p1) (by simp;omega) fun h1 e kp he=>?_) (F.args_zip_next_1 _))))
  obtain⟨o,ho,E8⟩:=he ;refine za (wpAny_isInstance (T := "StopIteration") (b:=true) ⟨o,ho,E8⟩ isSubtype_stop (zf ⟨rfl,?_⟩))
  refine I.Bk (t':=s.toks) [(n+4),(n+3),n,(n+1)] (fun b hb=>hf b (by simp only [ze,zD,or_false] at hb ⊢;rcases hb with h | h | h | h <;> simp [h])) fun c o hc e=>?_
  simp only [ze,zD,or_false,not_or] at hc
  obtain⟨dz,dO,d0,d1⟩:=hc
  exact kp c o dz dO d0 d1 e
 self:=fun A' i s Q E st h=>wpAny_pyIter_zip st.1 h
abbrev Ju (h:Heap) (l0:Addr):Heap:=(h).push { cls:=.type "list_iterator",data:=.fields #[.ref l0,.int 0 0] }
abbrev Jv (h:Heap) (l0 l1:Addr):Heap:=(Ju h l0).push { cls:=.type "list_iterator",data:=.fields #[.ref l1,.int 0 0] }
abbrev Jw (h:Heap) (l0 l1:Addr):Heap:=(Jv h l0 l1).push { cls:=.type "tuple",data:=.seq #[.ref h.objs.size,.ref (Ju h l0).objs.size] }
abbrev Jx (h:Heap) (l0 l1:Addr):Heap:=(Jw h l0 l1).push { cls:=.type "tuple",data:=.seq #[.none,.none] }
abbrev y7 (h:Heap) (l0 l1:Addr):Heap:=(Jx h l0 l1).push { cls:=.type "zip",data:=.fields #[.none,.bool false,.bool false,.ref (Jv h l0 l1).objs.size,.ref (Jw h l0 l1).objs.size] }
theorem y8 (l0 l1:Addr) (fm gA:Array Value):Meets (Builtin.«zip.__new__» ⟨[.type "zip",.ref l0,.ref l1],[]⟩) (fun _ R s=>s.heap.IsList l0 fm∧s.heap.IsList l1 gA∧R (.ok (.ret (.ref (Jx s.heap l0 l1).objs.size))) { s with heap:=y7 s.heap l0 l1 }) :=
 .of_wp fun prog w A R s h=>by
  obtain⟨hp,g,d,tk,os⟩:=s;obtain⟨t0,t1,h⟩:=h
  have Ve:=sub_zip
  have L0:Heap.IsList (Shared.heap ⟨hp,g,d,tk,os⟩) l0 fm:=t0
  have L1:Heap.IsList (Shared.heap ⟨hp.push { cls:=.type "list_iterator",data:=.fields #[.ref l0,.int 0 0] },g,d,tk,os⟩) l1 gA:=Heap.IsList.push (t1) _
  wp_walk using wpAny_pyIter_list L0,wpAny_pyIter_list L1
  exact⟨_,rfl,h⟩
theorem y9 (t0:s.heap.IsList l0 fm) (t1:s.heap.IsList l1 gA)
  (h:∀ h',Yc s.heap.objs.size l0 l1 0 h'→(∀ c o,s.heap.get? c=some o→h'.get? c=some o)→Q (.ref (s.heap.objs.size+4)) { s with heap:=h' }):wpAny (model prog w) A (call (.type "zip") [.ref l0,.ref l1]) Q E s:=by
 refine callType_new F.called_zip (by decide) (F.typeCall_zip_2 _ _) (F.newCall_zip_2 _ _) (fun obj=>F.args_object_init_3 obj _ _) F.entry_zip_new (y8 l0 l1 fm gA) ⟨t0,t1,?_⟩
 have z1:(Ju s.heap l0).objs.size=s.heap.objs.size+1:=zU ..
 have z2:(Jv s.heap l0 l1).objs.size=s.heap.objs.size+2:=by rw[zU,z1]
 have z3:(Jw s.heap l0 l1).objs.size=s.heap.objs.size+3:=by rw[zU,z2]
 have z4:(Jx s.heap l0 l1).objs.size=s.heap.objs.size+4:=by rw[zU,z3]
 have z5:(y7 s.heap l0 l1).objs.size=s.heap.objs.size+5:=by rw[zU,z4]
 have g0:(y7 s.heap l0 l1).get? (s.heap).objs.size=some _:=zb _ (zb _ (zb _ (zb _ (zj _ rfl))))
 have g1:(y7 s.heap l0 l1).get? (Ju s.heap l0).objs.size=some _:=zb _ (zb _ (zb _ (zj _ rfl)))
 have g2:(y7 s.heap l0 l1).get? (Jv s.heap l0 l1).objs.size=some _:=zb _ (zb _ (zj _ rfl))
 have g3:(y7 s.heap l0 l1).get? (Jw s.heap l0 l1).objs.size=some _:=zb _ (zj _ rfl)
 have g4:(y7 s.heap l0 l1).get? (Jx s.heap l0 l1).objs.size=some _:=zj _ rfl
 show _∧_
 rw[z2,z3,z4] at g4
 rw[z3] at g3
 rw[z1,z2] at g2
 rw[z1] at g1
 rw[z4]
 exact⟨⟨_,g4,rfl⟩,h _ ⟨g4,g2,⟨_,rfl,g3⟩,⟨_,g0,rfl,rfl⟩,⟨_,g1,rfl,rfl⟩⟩ fun c o x=>zb _ (zb _ (zb _ (zb _ (zb _ x))))⟩
def RA (K:PySem.W.Frag) (ta:TA):TI:=fun σ H R=>ta σ H fun vs H1=>∃ l0 l1,vs=[.ref l0,.ref l1]∧(∃ xs,gL K H1 l0 xs)∧(∃ xs,gL K H1 l1 xs)∧R (Rz K l0 l1) H1
theorem Jy {X:Cx}{a b:Expr}{ta:TA}{p pos tp:Pos}{es:List Expr}{kk:Nat} (hg:Gl X "zip") (hm:X.mg "zip" = none) (ha:PA X [a,b] ta) (hs:starEach [a,b] X.env=[(false,eval a X.env),(false,eval b X.env)]:=by rfl) (vz:starEach [b] X.env=[(false,eval b X.env)]:=by rfl) :
  PI X (.Tuple es kk tp) (.Call (.Name "zip" p) [a,b] [] pos) (RA X.K ta):=by
 intro pins s σ H R I h
 refine Call_ (gx I hg hm boot_zip (PyProof.Rows.callWith_type1 (bf (ha pos pins s σ H _ I h) fun us s1 ⟨vs,H1,I1,r1,q1⟩=>?_) (by rw[hs,vz]) (by rw[vz];rfl)))
 obtain⟨l0,l1,e,⟨fm,q0⟩,⟨gA,q2⟩,q⟩:=q1
 subst e
 obtain⟨u,v,rfl,r,r'⟩:=r1.two
 cases r
 cases r'
 obtain⟨rH,IK,p0,_⟩:=I1.list q0
 obtain⟨rJ,E7,p1,_⟩:=I1.list q2
 refine y9 (fA p0) (fA p1) fun h' zs kp=>?_
 refine wpAny_pyIter_zip (s:={ s1 with heap:=h' }) zs.1 ⟨_,_,_,_,H1,rfl,I1.kept (t':=s1.toks) kp,C5 (tj p0) (tj p1),zs,fun b hb=>?_,q⟩
 have KC:s1.heap.objs.size≤b:=by
  simp only [ze,zD,or_false] at hb
  rcases hb with rfl | rfl | rfl | rfl | rfl <;> (show @LE.le Nat _ _ _;omega)
 exact I1.oz KC (I1.aJ.fresh KC)
section
variable {K:PySem.W.Frag}{X:Cx}
def NI (t:lL):yY:=fun σ S R Z=>t σ S (fun ds S1=>∃ a xs b ys,ds=[.ref a,.ref b]∧S1 a=some (.lst xs)∧S1 b=some (.lst ys)∧xs.length=ys.length∧R ⟨bh xs ys,fun S=>n5 S (.ref a) xs∧n5 S (.ref b) ys⟩ S1) Z
theorem izm {a c:Expr}{t:lL}{p pos tp:Pos}{es:List Expr}{kk:Nat} (hm:X.mg "zip" = none) (ha:DA K X [a,c] t) (hg:Gl X "zip" := by rfl) (hs:starEach [a,c] X.env=[(false,eval a X.env),(false,eval c X.env)]:=by rfl) (vz:starEach [c] X.env=[(false,eval c X.env)]:=by rfl) (hK:X.K=K:=by rfl) :
  DI K X (.Tuple es kk tp) (.Call (.Name "zip" p) [a,c] [] pos) (NI t):=by
 subst hK
 exact⟨fun y=>(Jy (X:=y.cx) hg hm (ha.of y) hs vz).mono fun τ H R ⟨σ,S,RI,Z,aD,hS,q,hR,hZ⟩=>⟨σ,S,_,Z,aD,hS,q,fun ds S1 vs H1 ⟨aa,xs,bb,ys,e,Rj,hb,hl,r1⟩ v1 s1 k1=>by
  subst e
  obtain⟨v,u,rfl,ra,rb⟩:=v1.two
  obtain⟨a,va,rfl,qa,ta⟩:=n5.at (show n5 S1 (.ref aa) xs from Rj) s1 ra
  obtain⟨b,vb,rfl,qb,tb⟩:=n5.at (show n5 S1 (.ref bb) ys from hb) s1 rb
  refine⟨a,b,rfl,⟨va,qa⟩,⟨vb,qb⟩,hR _ S1 _ H1 r1 (fun i S2 H2 k2 s2 Nh=>?_) s1 k1⟩
  obtain⟨a2,Td,e1,Np,Yd⟩:=n5.at Nh.1 s2 (Rv.ts k2 _ ra)
  cases e1
  obtain⟨b2,Te,e2,Nq,Tf⟩:=n5.at Nh.2 s2 (Rv.ts k2 _ rb)
  cases e2
  have la:Td.length=xs.length:=Yd.len
  have lb:Te.length=ys.length:=Tf.len
  refine⟨fun d hd=>?_,fun h=>⟨Td,Te,Np,Nq,by unfold bh at h;rw[List.length_zipWith] at h;omega⟩⟩
  unfold bh at hd
  obtain⟨x,y',e1,e2,e3⟩:=List.getElem?_zipWith_eq_some.mp hd
  subst e3
  obtain⟨vx,f1,g1⟩:=Yd.get e1
  obtain⟨vy,f2,g2⟩:=Tf.get e2
  refine⟨⟨Td,Te,vx,vy,Np,Nq,f1,f2⟩,fun x' H' ⟨T,hT,e4,e5⟩=>?_⟩
  have:=e5 Td Te vx vy Np Nq f1 f2
  subst this e4
  have kk:Kp X.K H2 (upd H2 T (.tup [vx,vy])):=.new hT
  exact⟨i_ aE (RvAll.ts kk _ (aS g1 (aS g2 bE))),kk,s2.grow hT⟩,hZ⟩⟩
end
end L2
namespace My
open PySem L2
def top (i:Nat):Stmt:=PySem.Challenge.pw_pageturns_k46_keepers_fed.main.body.getD i (.Pass ⟨0,0,0,0⟩)
abbrev kI:Stmt:=top 16
abbrev jb:Stmt:=top 17
abbrev jc:Stmt:=top 18
abbrev jN:Stmt:=top 19
abbrev lS:Stmt:=top 20
abbrev jO:Stmt:=top 21
abbrev mU:Stmt:=top 22
abbrev kJ:Stmt:=top 23
abbrev dk:Stmt:=top 26
abbrev jd:Stmt:=top 27
abbrev iq:Stmt:=top 28
abbrev ir:Stmt:=top 29
abbrev je:Stmt:=top 30
abbrev fq:Stmt:=top 31
abbrev kK:Stmt:=top 32
abbrev qg:Stmt:=top 37
abbrev qh:Stmt:=top 38
abbrev cY:Stmt:=top 39
abbrev mV:Stmt:=top 40
abbrev eR:Stmt:=top 46
abbrev f_:Stmt:=top 47
abbrev eI:Stmt:=top 48
abbrev gD:Stmt:=top 49
abbrev e_:Stmt:=top 50
abbrev jf:Stmt:=top 51
abbrev fK:Stmt:=top 52
abbrev uu:Stmt:=top 54
abbrev eJ:Stmt:=top 55
abbrev dP:Stmt:=top 56
abbrev kM:Stmt:=top 57
abbrev bV:Stmt:=top 58
abbrev bW:Stmt:=top 59
abbrev bG:Stmt:=top 60
abbrev iu:Stmt:=top 63
abbrev mW:Stmt:=top 64
abbrev gE:Stmt:=top 67
abbrev jg:Stmt:=top 71
abbrev qj:Stmt:=top 72
abbrev qk:Stmt:=top 73
abbrev jh:Stmt:=top 74
abbrev mX:Stmt:=top 75
abbrev iw:Stmt:=top 76
abbrev uv:Stmt:=top 77
abbrev mY:Stmt:=top 78
abbrev ql:Stmt:=top 79
abbrev mZ:Stmt:=top 80
abbrev uw:Stmt:=top 81
abbrev kN:Stmt:=top 82
abbrev iy:Stmt:=top 83
abbrev v_:Stmt:=top 84
abbrev aA:Stmt:=top 66
abbrev dQ:Stmt:=top 69
set_option genInjectivity false in
set_option genSizeOfSpec false in
structure pv where
 (y_ wa wb C6 FT C7 C8 z_ oI wc Ab ux wd uy Ac FU FV rP C9 rQ we m6 rR oJ FW qm Jz m7 qo Ad m8 m9 kO uz C_ rS wg FX FY wj Dc Ae JA Dd FZ Df NJ Af Ag K_ gW wk qp uA ji iz jj j7 wm lT qq jk gb rT lU uB jl jm gX iP lV dR kP qr lW iA eK tu ah aT gf aP fi aI:Addr)
 (Ah wo wq Dg F_ Dh Di Ai oK wu Aj uC wA uD Al Ga Gb rV Dj rW wB m_ rX oM Ge qt BI ng qu Am gY nh fL uE Dk rY wC Gf Gg wD Dm An JB Dn Gi Dq NK Ao Ap Gj ni wF qv uF jn iB jo j8 wG gk jq jr lX rZ lY:FuncData)
 (lZ nj l3 qw j9 wH j_ l4:Tok)
 ts:List Addr
structure Txt (w:World) (K:PySem.W.Frag) (mg:Str→Option Value) (t:pv):Prop where
 cZ:eQ K mg "is_whole" kI ["thing"] t.y_ t.Ah
 bB:eQ K mg "is_letter" jb ["sign"] t.wa t.wo
 fB:eQ K mg "is_figure" jc ["sign"] t.wb t.wq
 eS:eQ K mg "is_name" jN ["thing"] t.C6 t.Dg
 cE:eQ K mg "is_key" lS ["thing"] t.FT t.F_
 jP:eQ K mg "is_word" jO ["thing"] t.C7 t.Dh
 jQ:eQ K mg "is_kind" mU ["thing"] t.C8 t.Di
 c_:eQ K mg "is_value" kJ ["kind", "thing"] t.z_ t.Ai
 cB:eQ K mg "check_columns" dk ["columns"] t.oI t.oK
 fC:eQ K mg "is_column" jd ["thing"] t.wc t.wu
 df:eQ K mg "names_of" iq ["columns"] t.Ab t.Aj
 bP:eQ K mg "kind_named" ir ["columns", "name"] t.ux t.uC
 cC:eQ K mg "check_row" je ["columns", "row"] t.wd t.wA
 eM:eQ K mg "are_worths" fq ["columns", "thing"] t.uy t.uD
 aX:eQ K mg "value_in" kK ["columns", "row", "name"] t.Ac t.Al
 gF:eQ K mg "is_way" qg ["thing"] t.FU t.Ga
 nq:eQ K mg "is_end" qh ["thing"] t.FV t.Gb
 bz:eQ K mg "check_order" cY ["columns", "order"] t.rP t.rV
 jR:eQ K mg "is_part" mV ["columns", "thing"] t.C9 t.Dj
 dF:eQ K mg "check_sieve" eR ["columns", "sieve"] t.rQ t.rW
 fE:eQ K mg "is_formed" f_ ["columns", "thing"] t.we t.wB
 aZ:eQ K mg "is_short_tuple" eI ["thing"] t.m6 t.m_
 dG:eQ K mg "fits_column" gD ["columns", "sieve"] t.rR t.rX
 cD:eQ K mg "sieves_within" e_ ["sieves"] t.oJ t.oM
 passes:eQ K mg "passes" jf ["columns", "sieve", "row"] t.FW t.Ge
 cQ:eQ K mg "value_passes" fK ["word", "value", "told"] t.qm t.qt
 plain:eQ K mg "plain" uu ["shelf", "order", "sieve", "moment"] t.Jz t.BI
 Dr:Binds K t.BI ["shelf", "order", "sieve", "moment"] [.none]
 bX:eQ K mg "ordered_answer" eJ ["shelf", "order", "sieve", "moment"] t.m7 t.ng
 cR:eQ K mg "rows_passing" dP ["shelf", "sieve", "moment"] t.qo t.qu
 gZ:eQ K mg "in_order" kM ["columns", "order", "rows"] t.Ad t.Am
 bY:eQ K mg "sorted_by_keys" bV ["rows", "way"] t.m8 t.gY
 bZ:eQ K mg "sorted_by_part" bW ["columns", "part", "rows"] t.m9 t.nh
 bC:eQ K mg "sorted_by_values" bG ["columns", "part", "rows"] t.kO t.fL
 bj:eQ K mg "check_deed" iu ["deed"] t.uz t.uE
 jS:eQ K mg "do_deed" mW ["shelf", "deed"] t.C_ t.Dk
 bA:eQ K mg "worths_then" gE ["standings", "moment"] t.rS t.rY
 bL:eQ K mg "_law_cell_at" jg ["_law_script", "_law_k"] t.wg t.wC
 fb:eQ K mg "_law_well" qj ["_law_cell"] t.FX t.Gf
 ar:eQ K mg "_law_draw" qk ["_law_well_here", "_law_most"] t.FY t.Gg
 fF:eQ K mg "_law_columns" jh ["_law_well_here"] t.wj t.wD
 jT:eQ K mg "_law_value" mX ["_law_well_here", "_law_kind"] t.Dc t.Dm
 cA:eQ K mg "_law_worths" iw ["_law_well_here", "_law_columns_here"] t.Ae t.An
 tw:eQ K mg "_law_key" uv ["_law_well_here"] t.JA t.JB
 ft:eQ K mg "_law_order" mY ["_law_well_here", "_law_columns_here"] t.Dd t.Dn
 nr:eQ K mg "_law_deed" ql ["_law_well_here", "_law_columns_here", "_law_known_here"] t.FZ t.Gi
 jU:eQ K mg "_law_known" mZ ["_law_known_here", "_law_deed_here"] t.Df t.Dq
 uG:eQ K mg "_law_at" uw ["_law_columns_here", "_law_row", "_law_name"] t.NJ t.NK
 g5:eQ K mg "_law_before" kN ["_law_columns_here", "_law_order_here", "_law_one", "_law_other"] t.Af t.Ao
 g6:eQ K mg "_law_sorted" iy ["_law_columns_here", "_law_order_here", "_law_rows"] t.Ag t.Ap
 Wn:eQ K mg "law" v_ ["_law_script"] t.K_ t.Gj
 dS:vk K t.ah "__init__" "Shelf.__init__" (inClass aA 0) ["self", "columns"] t.gW t.ni
 cS:vk K t.ah "put" "Shelf.put" (inClass aA 1) ["self", "key", "worths"] t.wk t.wF
 bw:vk K t.ah "change" "Shelf.change" (inClass aA 2) ["self", "key", "worths"] t.qp t.qv
 cq:vk K t.ah "take" "Shelf.take" (inClass aA 3) ["self", "key"] t.uA t.uF
 aL:vk K t.ah "check_stands" "Shelf.check_stands" (inClass aA 4) ["self", "key"] t.ji t.jn
 aG:vk K t.ah "begin_standing" "Shelf.begin_standing" (inClass aA 5) ["self", "key", "worths"] t.iz t.iB
 aM:vk K t.ah "end_standing" "Shelf.end_standing" (inClass aA 6) ["self", "key"] t.jj t.jo
 az:vk K t.ah "has_columns" "Shelf.has_columns" (inClass aA 7) ["self"] t.j7 t.j8
 bD:vk K t.ah "now" "Shelf.now" (inClass aA 8) ["self"] t.wm t.wG
 bM:vk K t.ah "worths_at" "Shelf.worths_at" (inClass aA 9) ["self", "key", "moment"] t.lT t.gk
 fj:Binds K t.gk ["self", "key", "moment"] [.none]
 dU:vk K t.ah "all_at" "Shelf.all_at" (inClass aA 10) ["self", "moment"] t.qq t.jq
 Ds:Binds K t.jq ["self", "moment"] [.none]
 aN:vk K t.ah "moment_meant" "Shelf.moment_meant" (inClass aA 13) ["self", "moment"] t.jk t.jr
 dm:vk K t.aT "__init__" "Keeper.__init__" (inClass dQ 0) ["self", "columns", "order"] t.gb t.lX
 eT:vk K t.aT "feed" "Keeper.feed" (inClass dQ 1) ["self", "deed"] t.rT t.rZ
 bp:vk K t.aT "all_rows" "Keeper.all_rows" (inClass dQ 2) ["self"] t.lU t.lY
 kQ:mg "MOST_NAME_SIGNS" = some (.int 8 t.lZ)
 l5:mg "MOST_KEY_SIGNS" = some (.int 12 t.nj)
 kR:mg "MOST_WORD_SIGNS" = some (.int 40 t.l3)
 oN:mg "MOST_COLUMNS" = some (.int 8 t.qw)
 js:mg "MOST_PARTS_orders" = some (.int 8 t.j9)
 uH:mg "MOST_DEEP" = some (.int 8 t.wH)
 jt:mg "MOST_PARTS_sieves" = some (.int 200 t.j_)
 kT:mg "MOST_IN_A_TUPLE" = some (.int 8 t.l4)
 Gk:mg "KINDS" = some (.ref t.uB)
 Gm:∀ H,Rv K H (.kt [.str "number",.str "word"]) (.ref t.uB)
 uI:mg "OTHER_WAY" = some (.ref t.jl)
 wI:HA w K t.jl [("up",.str "down"),("down",.str "up")]
 uJ:mg "OTHER_END" = some (.ref t.jm)
 wJ:HA w K t.jm [("first",.str "last"),("last",.str "first")]
 l6:mg "LENGTHS_sieves" = some (.ref t.gX)
 nu:HA w K t.gX [("every",.int 1),("is",.int 3),("below",.int 3),("above",.int 3),("begins",.int 3),("key",.int 2),("not",.int 2),("and",.int 2),("or",.int 2)]
 nv:mg "LENGTHS_deeds" = some (.ref t.iP)
 oO:HA w K t.iP [("put",.int 3),("change",.int 3),("take",.int 2)]
 bR:mg "len" = none
 l7:mg "all" = none
 RB:mg "any" = none
 ax:mg "isinstance" = none
 uK:mg "range" = none
 Gn:mg "int" = none
 oh:mg "str" = none
 NL:mg "bool" = none
 cT:mg "tuple" = none
 NM:mg "list" = none
 NN:mg "dict" = none
 La:mg "set" = none
 Gp:mg "zip" = none
 fM:mg "sorted" = none
 RC:mg "min" = none
 qx:mg "reversed" = none
 gG:mg "BadColumns" = some (.ref t.lV)
 dW:excIn K t.lV L2.oG "ValueError.__new__" = true
 jV:mg "BadRow" = some (.ref t.dR)
 g7:excIn K t.dR L2.oG "ValueError.__new__" = true
 eU:mg "BadOrder" = some (.ref t.kP)
 dD:excIn K t.kP L2.oG "ValueError.__new__" = true
 oi:mg "BadSieve" = some (.ref t.qr)
 iC:excIn K t.qr L2.oG "ValueError.__new__" = true
 Du:mg "HasKey" = some (.ref t.lW)
 qy:excIn K t.lW L2.oG "ValueError.__new__" = true
 Gq:mg "NoKey" = some (.ref t.iA)
 uL:excIn K t.iA L2.oG "ValueError.__new__" = true
 wK:mg "NoMoment" = some (.ref t.eK)
 kU:excIn K t.eK L2.oG "ValueError.__new__" = true
 qz:mg "BadDeed" = some (.ref t.tu)
 jW:excIn K t.tu L2.oG "ValueError.__new__" = true
 Gr:mg "Shelf" = some (.ref t.ah)
 aq:sI K t.ah
 Gs:Mk K t.ah t.gW
 cU:findIn K (.ref t.ah) "columns" = some none
 cL:findIn K (.ref t.ah) "deeds" = some none
 bQ:findIn K (.ref t.ah) "runs" = some none
 Dw:mg "Keeper" = some (.ref t.aT)
 dH:sI K t.aT
 Dx:Mk K t.aT t.gb
 fc:findIn K (.ref t.aT) "shelf" = some none
 iQ:findIn K (.ref t.aT) "order" = some none
 gm:t.gY.code=.ref t.gf
 dX:codeHdIn K t.gf t.aP=true
 l8:t.aP∈t.ts
 fk:t.fL.code=.ref t.fi
 cV:codeHdIn K t.fi t.aI=true
 ke:t.aI∈t.ts
 np:[t.aP,t.aI].Nodup
 ta:∀ b∈t.ts,b=t.aP∨b=t.aI
 bl:∀ (s:Shared) (u:Value),BindsTo s t.Gj ⟨[u],[]⟩ [("_law_script",u)]
theorem wL:ai ["thing"] ["thing"] (ae kI):=cX ⟨rfl,rfl,rfl,rfl⟩ (by decide +kernel)
theorem uM:ai ["sign"] ["sign"] (ae jb):=cX ⟨rfl,rfl,rfl,rfl⟩ (by decide +kernel)
theorem uN:ai ["sign"] ["sign"] (ae jc):=cX ⟨rfl,rfl,rfl,rfl⟩ (by decide +kernel)
theorem Aq:ai ["thing"] ["thing"] (ae jN):=cX ⟨rfl,rfl,rfl,rfl⟩ (by decide +kernel)
theorem Dy:ai ["thing"] ["thing"] (ae lS):=cX ⟨rfl,rfl,rfl,rfl⟩ (by decide +kernel)
theorem Ar:ai ["thing"] ["thing"] (ae jO):=cX ⟨rfl,rfl,rfl,rfl⟩ (by decide +kernel)
theorem As:ai ["thing"] ["thing"] (ae mU):=cX ⟨rfl,rfl,rfl,rfl⟩ (by decide +kernel)
theorem wM:ai ["kind", "thing"] ["kind", "thing"] (ae kJ):=cX ⟨rfl,rfl,rfl,rfl⟩ (by decide +kernel)
theorem nA:ai ["columns"] ["columns"] (ae dk):=cX ⟨rfl,rfl,rfl,rfl⟩ (by decide +kernel)
theorem uO:ai ["thing"] ["thing"] (ae jd):=cX ⟨rfl,rfl,rfl,rfl⟩ (by decide +kernel)
theorem wN:ai ["columns"] ["columns"] (ae iq):=cX ⟨rfl,rfl,rfl,rfl⟩ (by decide +kernel)
theorem r9:ai ["columns", "name"] ["columns", "name"] (ae ir):=cX ⟨rfl,rfl,rfl,rfl⟩ (by decide +kernel)
theorem uP:ai ["columns", "row"] ["columns", "row"] (ae je):=cX ⟨rfl,rfl,rfl,rfl⟩ (by decide +kernel)
theorem r_:ai ["columns", "thing"] ["columns", "thing"] (ae fq):=cX ⟨rfl,rfl,rfl,rfl⟩ (by decide +kernel)
theorem wO:ai ["columns", "row", "name"] ["columns", "row", "name"] (ae kK):=cX ⟨rfl,rfl,rfl,rfl⟩ (by decide +kernel)
theorem Dz:ai ["thing"] ["thing"] (ae qg):=cX ⟨rfl,rfl,rfl,rfl⟩ (by decide +kernel)
theorem DB:ai ["thing"] ["thing"] (ae qh):=cX ⟨rfl,rfl,rfl,rfl⟩ (by decide +kernel)
theorem fN:ai ["columns", "order", "parts", "names"] ["columns", "order"] (ae cY):=cX ⟨rfl,rfl,rfl,rfl⟩ (by decide +kernel)
theorem Au:ai ["columns", "thing"] ["columns", "thing"] (ae mV):=cX ⟨rfl,rfl,rfl,rfl⟩ (by decide +kernel)
theorem bH:ai ["columns", "sieve", "level", "deep", "parts"] ["columns", "sieve"] (ae eR):=cX ⟨rfl,rfl,rfl,rfl⟩ (by decide +kernel)
theorem uQ:ai ["columns", "thing"] ["columns", "thing"] (ae f_):=cX ⟨rfl,rfl,rfl,rfl⟩ (by decide +kernel)
theorem l9:ai ["thing"] ["thing"] (ae eI):=cX ⟨rfl,rfl,rfl,rfl⟩ (by decide +kernel)
theorem ju:ai ["columns", "sieve", "kind"] ["columns", "sieve"] (ae gD):=cX ⟨rfl,rfl,rfl,rfl⟩ (by decide +kernel)
theorem eN:ai ["sieves", "found", "sieve"] ["sieves"] (ae e_):=cX ⟨rfl,rfl,rfl,rfl⟩ (by decide +kernel)
theorem tD:ai ["columns", "sieve", "row"] ["columns", "sieve", "row"] (ae jf):=cX ⟨rfl,rfl,rfl,rfl⟩ (by decide +kernel)
theorem oP:ai ["word", "value", "told"] ["word", "value", "told"] (ae fK):=cX ⟨rfl,rfl,rfl,rfl⟩ (by decide +kernel)
theorem Gu:ai ["shelf", "order", "sieve", "moment"] ["shelf", "order", "sieve", "moment"] (ae uu):=cX ⟨rfl,rfl,rfl,rfl⟩ (by decide +kernel)
theorem l_:ai ["shelf", "order", "sieve", "moment"] ["shelf", "order", "sieve", "moment"] (ae eJ):=cX ⟨rfl,rfl,rfl,rfl⟩ (by decide +kernel)
theorem iR:ai ["shelf", "sieve", "moment", "columns"] ["shelf", "sieve", "moment"] (ae dP):=cX ⟨rfl,rfl,rfl,rfl⟩ (by decide +kernel)
theorem gp:ai ["columns", "order", "rows", "ordered", "part"] ["columns", "order", "rows"] (ae kM):=cX ⟨rfl,rfl,rfl,rfl⟩ (by decide +kernel)
theorem ma:ai ["rows", "way"] ["rows", "way"] (ae bV):=cX ⟨rfl,rfl,rfl,rfl⟩ (by decide +kernel)
theorem cG:ai ["columns", "part", "rows", "without", "valued"] ["columns", "part", "rows"] (ae bW):=cX ⟨rfl,rfl,rfl,rfl⟩ (by decide +kernel)
theorem kf:ai ["columns", "part", "rows"] ["columns", "part", "rows"] (ae bG):=cX ⟨rfl,rfl,rfl,rfl⟩ (by decide +kernel)
theorem sg:ai ["deed"] ["deed"] (ae iu):=cX ⟨rfl,rfl,rfl,rfl⟩ (by decide +kernel)
theorem Av:ai ["shelf", "deed"] ["shelf", "deed"] (ae mW):=cX ⟨rfl,rfl,rfl,rfl⟩ (by decide +kernel)
theorem jv:ai ["standings", "moment", "standing"] ["standings", "moment"] (ae gE):=cX ⟨rfl,rfl,rfl,rfl⟩ (by decide +kernel)
theorem uR:ai ["_law_script", "_law_k"] ["_law_script", "_law_k"] (ae jg):=cX ⟨rfl,rfl,rfl,rfl⟩ (by decide +kernel)
theorem DC:ai ["_law_cell"] ["_law_cell"] (ae qj):=cX ⟨rfl,rfl,rfl,rfl⟩ (by decide +kernel)
theorem eO:ai ["_law_well_here", "_law_most", "_law_found", "_law_turn", "_law_number"] ["_law_well_here", "_law_most"] (ae qk):=cX ⟨rfl,rfl,rfl,rfl⟩ (by decide +kernel)
theorem dY:ai ["_law_well_here", "_law_names", "_law_turn", "_law_found", "_law_k"] ["_law_well_here"] (ae jh):=cX ⟨rfl,rfl,rfl,rfl⟩ (by decide +kernel)
theorem qA:ai ["_law_well_here", "_law_kind", "_law_stem"] ["_law_well_here", "_law_kind"] (ae mX):=cX ⟨rfl,rfl,rfl,rfl⟩ (by decide +kernel)
theorem wQ:ai ["_law_well_here", "_law_columns_here"] ["_law_well_here", "_law_columns_here"] (ae iw):=cX ⟨rfl,rfl,rfl,rfl⟩ (by decide +kernel)
theorem Gv:ai ["_law_well_here"] ["_law_well_here"] (ae uv):=cX ⟨rfl,rfl,rfl,rfl⟩ (by decide +kernel)
theorem fO:ai ["_law_well_here", "_law_columns_here", "_law_turn", "_law_parts", "_law_k", "_law_name"] ["_law_well_here", "_law_columns_here"] (ae mY):=cX ⟨rfl,rfl,rfl,rfl⟩ (by decide +kernel)
theorem g8:ai ["_law_well_here", "_law_columns_here", "_law_known_here", "_law_way", "_law_keys", "_law_key_here"] ["_law_well_here", "_law_columns_here", "_law_known_here"] (ae ql):=cX ⟨rfl,rfl,rfl,rfl⟩ (by decide +kernel)
theorem Aw:ai ["_law_known_here", "_law_deed_here"] ["_law_known_here", "_law_deed_here"] (ae mZ):=cX ⟨rfl,rfl,rfl,rfl⟩ (by decide +kernel)
theorem JC:ai ["_law_columns_here", "_law_row", "_law_name"] ["_law_columns_here", "_law_row", "_law_name"] (ae uw):=cX ⟨rfl,rfl,rfl,rfl⟩ (by decide +kernel)
theorem dI:ai ["_law_columns_here", "_law_order_here", "_law_one", "_law_other", "_law_name", "_law_way", "_law_end", "_law_left", "_law_right"] ["_law_columns_here", "_law_order_here", "_law_one", "_law_other"] (ae kN):=cX ⟨rfl,rfl,rfl,rfl⟩ (by decide +kernel)
theorem gq:ai ["_law_columns_here", "_law_order_here", "_law_rows", "_law_found", "_law_row", "_law_many"] ["_law_columns_here", "_law_order_here", "_law_rows"] (ae iy):=cX ⟨rfl,rfl,rfl,rfl⟩ (by decide +kernel)
theorem fe:ai ["_law_script", "_law_columns_here", "_law_well_here", "_law_orders", "_law_keepers", "_law_known_here", "_law_cell", "_law_deed_here", "_law_rows", "_law_order_here", "_law_keeper", "_law_found"] ["_law_script"] (ae v_):=cX ⟨rfl,rfl,rfl,rfl⟩ (by decide +kernel)
theorem me:ai ["self", "columns"] ["self", "columns"] (ae (inClass aA 0)):=cX ⟨rfl,rfl,rfl,rfl⟩ (by decide +kernel)
theorem uS:ai ["self", "key", "worths"] ["self", "key", "worths"] (ae (inClass aA 1)):=cX ⟨rfl,rfl,rfl,rfl⟩ (by decide +kernel)
theorem oQ:ai ["self", "key", "worths"] ["self", "key", "worths"] (ae (inClass aA 2)):=cX ⟨rfl,rfl,rfl,rfl⟩ (by decide +kernel)
theorem sj:ai ["self", "key"] ["self", "key"] (ae (inClass aA 3)):=cX ⟨rfl,rfl,rfl,rfl⟩ (by decide +kernel)
theorem iX:ai ["self", "key"] ["self", "key"] (ae (inClass aA 4)):=cX ⟨rfl,rfl,rfl,rfl⟩ (by decide +kernel)
theorem g9:ai ["self", "key", "worths"] ["self", "key", "worths"] (ae (inClass aA 5)):=cX ⟨rfl,rfl,rfl,rfl⟩ (by decide +kernel)
theorem eE:ai ["self", "key", "standing"] ["self", "key"] (ae (inClass aA 6)):=cX ⟨rfl,rfl,rfl,rfl⟩ (by decide +kernel)
theorem jw:ai ["self"] ["self"] (ae (inClass aA 7)):=cX ⟨rfl,rfl,rfl,rfl⟩ (by decide +kernel)
theorem uT:ai ["self"] ["self"] (ae (inClass aA 8)):=cX ⟨rfl,rfl,rfl,rfl⟩ (by decide +kernel)
theorem fP:ai ["self", "key", "moment", "then"] ["self", "key", "moment"] (ae (inClass aA 9)):=cX ⟨rfl,rfl,rfl,rfl⟩ (by decide +kernel)
theorem fg:ai ["self", "moment", "then", "rows"] ["self", "moment"] (ae (inClass aA 10)):=cX ⟨rfl,rfl,rfl,rfl⟩ (by decide +kernel)
theorem iY:ai ["self", "moment"] ["self", "moment"] (ae (inClass aA 13)):=cX ⟨rfl,rfl,rfl,rfl⟩ (by decide +kernel)
theorem kW:ai ["self", "columns", "order"] ["self", "columns", "order"] (ae (inClass dQ 0)):=cX ⟨rfl,rfl,rfl,rfl⟩ (by decide +kernel)
theorem qB:ai ["self", "deed"] ["self", "deed"] (ae (inClass dQ 1)):=cX ⟨rfl,rfl,rfl,rfl⟩ (by decide +kernel)
theorem kX:ai ["self"] ["self"] (ae (inClass dQ 2)):=cX ⟨rfl,rfl,rfl,rfl⟩ (by decide +kernel)
theorem sm (h:n≤1000):n≤sizeLine:=yE (gT h)
theorem DD:0≤sizeLine:=sm (by decide)
theorem so:1≤sizeLine:=sm (by decide)
theorem eV:2≤sizeLine:=sm (by decide)
theorem nB:3≤sizeLine:=sm (by decide)
theorem oR:4≤sizeLine:=sm (by decide)
theorem Wo:7≤sizeLine:=sm (by decide)
theorem Wq:8≤sizeLine:=sm (by decide)
theorem RD:10≤sizeLine:=sm (by decide)
abbrev Ye (P:Program) (w:World) (K:PySem.W.Frag) (mg:Str→Option Value) (base:Heap) (k:Nat) (f:Addr) (fd:FuncData) (ps:List Str) (sp:gN):Prop:=ck P w K mg base (hW P w) k f fd ps (ud K sp)
def Gt (S:aU) (d:D):Prop:=(∃ k,Nc S d k)∧∀ z,d=.str z→z.cps.size≤1000
def isLet (c:Nat):Bool:=decide (97≤c) && decide (c≤122)
def wR (c:Nat):Bool:=decide (48≤c) && decide (c≤57)
def Gw (c:Nat):Bool:=decide (32≤c) && decide (c≤126)
def jx (z:Str):Bool:=decide (1≤z.cps.size) && decide (z.cps.size≤8) && z.cps.toList.all isLet
def fZ (z:Str):Bool:=decide (1≤z.cps.size) && decide (z.cps.size≤12) && (z.cps.toList.head?.any isLet) && z.cps.toList.all fun c=>isLet c || wR c
def tE (z:Str):Bool:=decide (z.cps.size≤40) && z.cps.toList.all Gw
def ofStr (f:Str→Bool):D→Bool
 | .str z=>f z
 | _=>false
def kY:D→Bool
 | .int _=>true
 | _=>false
def jy (kind:Str) (d:D):Bool:=aj d || if kind = "number" then kY d else ofStr tE d
def nC (f:D→Bool):gN:=fun ds S R _=>∃ d,ds=[d]∧Gt S d∧R (.bl (f d)) S
def qC (f:Nat→Bool):gN:=fun ds S R _=>∃ c,ds=[.str ⟨#[c]⟩]∧R (.bl (f c)) S
theorem oj:∀ {xs ys:List D}{a b:D},Paired rel xs ys→rel a b→Paired rel (xs++[a]) (ys++[b])
 | _,_,_,_,.nil,r=>.cons r .nil
 | _,_,_,_,.cons q t,r=>.cons q (oj t r)
theorem take_snoc {α:Type}{l:List α}{i:Nat}{d:α} (h:l[i]?=some d):l.take (i+1)=l.take i++[d]:=by
 rw[List.take_add_one,h];rfl
theorem qD {I:Ft}{S1:aU}{g:Br}{te:TD}{σ:SD}{src:List (Option Nat)}{R:KD} (rel:D→D→Prop) (aJ:I.ok S1) (hz:I.xs.length≤1000)
  (step:∀ d,d∈I.xs→∀ Q:KD,(∀ v,rel d v→Q v S1)→g d (n_ σ src) S1 fun iV S3=>te iV S3 Q Zf) (fin:∀ out,Paired rel I.xs out→∀ p,S1 p=none→R (.ref p) (S1.set p (.lst out))) :
  Bs σ src g sY te R I S1:=by
 refine⟨fun i out S=>S=S1∧Paired rel (I.xs.take i) out,⟨rfl,.nil⟩,fun i out S h=>by rw[h.1];exact aJ,?_,?_⟩
 ·rintro i d out S hd ⟨rfl,hp⟩
  have hlen:=Paired.length hp
  rw[yd] at hlen
  refine⟨gT (by omega),?_⟩
  have e:(fun (iV:SD) (S3:aU)=>sY iV S3 (fun b S4=>if b=true then te iV S4 (fun v S5=>S5=S∧Paired rel (I.xs.take (i+1)) (out++[v])) Zf else S4=S∧Paired rel (I.xs.take (i+1)) out) Zf)=fun iV S3=>te iV S3 (fun v S5=>S5=S∧Paired rel (I.xs.take (i+1)) (out++[v])) Zf:=by
   funext iV S3
   simp [sY]
  rw[e]
  exact step d (zM hd) _ fun v hv=>⟨rfl,by rw[take_snoc hd];exact oj hp hv⟩
 ·rintro out S2 ⟨rfl,hp⟩
  rw[List.take_length] at hp
  exact fin out hp
theorem qE:∀ {xs out:List D},Paired (fun d v=>v=f d) xs out→out=xs.map f
 | _,_,.nil=>rfl
 | _,_,.cons r t=>by rw[r,qE t];rfl
theorem comp_map (f:D→D) (aJ:I.ok S1) (hz:I.xs.length≤1000)
  (step:∀ d,d∈I.xs→∀ Q:KD,Q (f d) S1→g d (n_ σ src) S1 fun iV S3=>te iV S3 Q Zf) (fin:∀ p,S1 p=none→R (.ref p) (S1.set p (.lst (I.xs.map f)))) :
  Bs σ src g sY te R I S1 :=
 qD (fun d v=>v=f d) aJ hz (fun d hd Q h=>step d hd Q (h _ rfl)) fun out hp p hp'=>by rw[qE hp];exact fin p hp'
theorem fG {I:Ft}{S1:aU}{g:Br}{tc:pX}{te:TD}{σ:SD}{src:List (Option Nat)}{R:KD} (keep:D→Bool) (f:D→D) (aJ:I.ok S1) (hz:I.xs.length≤1000)
  (step:∀ d,d∈I.xs→∀ (Q:KD) (Q':aU→Prop),(keep d=true→Q (f d) S1)→(keep d=false→Q' S1)→g d (n_ σ src) S1 fun iV S3=>tc iV S3 (fun b S4=>if b=true then te iV S4 Q Zf else Q' S4) Zf)
  (fin:∀ p,S1 p=none→R (.ref p) (S1.set p (.lst ((I.xs.filter keep).map f)))) :
  Bs σ src g tc te R I S1:=by
 refine⟨fun i out S=>S=S1∧out=((I.xs.take i).filter keep).map f,⟨rfl,rfl⟩,fun i out S h=>by rw[h.1];exact aJ,?_,?_⟩
 ·rintro i d out S hd ⟨rfl,rfl⟩
  have hlen:((I.xs.take i).filter keep).length≤(I.xs.take i).length:=List.length_filter_le _ _
  rw[yd] at hlen
  refine⟨by rw[zc];exact gT (by omega),?_⟩
  refine step d (zM hd) _ (fun S4=>S4=S∧_=_) (fun hk=>⟨rfl,?_⟩) fun hk=>⟨rfl,?_⟩
  ·rw[take_snoc hd,List.filter_append,zF,yp,if_pos hk];rfl
  ·rw[take_snoc hd,List.filter_append,yp,if_neg (by rw[hk];exact zd)];simp
 ·rintro out S2 ⟨rfl,rfl⟩
  rw[List.take_length]
  exact fin
variable {P:Program}{w:World}{K:PySem.W.Frag}{mg:Str→Option Value}{base:Heap}{t:pv}
theorem om (T:Txt w K mg t):Ok P w base T.cZ 1 (nC kY):=by
 refine T.cZ.F.ok wL (by rintro ds S R Z ⟨d,e,_⟩;rw[e];rfl) ?_
 rintro bq A outer s H E ds S R Z hr ⟨d,e,⟨⟨k,hk⟩,hz⟩,q⟩
 subst e
 refine⟨_,(s1 (sr (t_ (cb cW T.ax au (ac (dv 0) (ac (rL T.Gn xX) an))) (IW (QC (cb cW T.ax au (ac (dv 0) (ac (rL T.NL IA) an)))))))),?_⟩
 refine⟨_,rfl,_,_,_,_,rfl,IE,hk,_,rfl,?_⟩
 have:(xY k=true∧((kY d=true∧t5 k=false)∨(kY d=false∧t5 k=true)))∨(xY k=false∧kY d=false):=by
  cases d with
  | aw=>cases hk;exact .inr ⟨rfl,rfl⟩
  | bl b=>cases hk;exact .inl ⟨rfl,.inr ⟨rfl,rfl⟩⟩
  | int b=>cases hk;exact .inl ⟨rfl,.inl ⟨rfl,rfl⟩⟩
  | str b=>cases hk;exact .inr ⟨rfl,rfl⟩
  | tup b=>cases hk;exact .inr ⟨rfl,rfl⟩
  | ref a=>rcases hk with ⟨rfl,_⟩ | ⟨rfl,_⟩ <;> exact .inr ⟨rfl,rfl⟩
  | _=>exact hk.elim
 rcases this with ⟨h1,h2⟩ | ⟨h1,h2⟩
 ·rw[h1]
  refine fI ⟨_,rfl,_,_,_,_,rfl,E1,hk,_,rfl,?_⟩
  rcases h2 with ⟨h2,h3⟩ | ⟨h2,h3⟩ <;> (rw[h3];rw[h2] at q;exact fo q)
 ·rw[h1]
  rw[h2] at q
  exact bI (fo q)
theorem mf (T:Txt w K mg t):Ok P w base T.bB 1 (qC isLet):=by
 refine T.bB.F.ok uM (by rintro ds S R Z ⟨d,e,_⟩;rw[e];rfl) ?_
 rintro bq A outer s H E ds S R Z hr ⟨c,e,q⟩
 subst e
 refine⟨_,(s1 (sr (cc kE kE hr.units ds (dv 0) ds))),?_⟩
 refine⟨_,rfl,_,rfl,?_⟩
 have e1:Ei "a" ⟨#[c]⟩=decide (97≤c):=jL 97 c
 have e2:Ei ⟨#[c]⟩ "z" = decide (c≤122):=jL c 122
 unfold isLet at q
 refine dw (fun h=>?_) (fun h=>?_)
 ·rw[e1.symm.trans h,zV,← e2] at q
  exact fo q
 ·rw[e1.symm.trans h,zP] at q
  exact fo q
theorem uU (T:Txt w K mg t):Ok P w base T.fB 1 (qC wR):=by
 refine T.fB.F.ok uN (by rintro ds S R Z ⟨d,e,_⟩;rw[e];rfl) ?_
 rintro bq A outer s H E ds S R Z hr ⟨c,e,q⟩
 subst e
 refine⟨_,(s1 (sr (cc kE kE hr.units ds (dv 0) ds))),?_⟩
 refine⟨_,rfl,_,rfl,?_⟩
 have e1:Ei "0" ⟨#[c]⟩=decide (48≤c):=jL 48 c
 have e2:Ei ⟨#[c]⟩ "9" = decide (c≤57):=jL c 57
 unfold wR at q
 refine dw (fun h=>?_) (fun h=>?_)
 ·rw[e1.symm.trans h,zV,← e2] at q
  exact fo q
 ·rw[e1.symm.trans h,zP] at q
  exact fo q
theorem DF (h:d∈fJ z):∃ c,c∈z.cps.toList∧d=.str ⟨#[c]⟩:=by
 unfold fJ at h
 obtain⟨c,hc,e⟩:=zi.mp h
 exact⟨c,hc,e.symm⟩
def BJ (f:Nat→Bool):D→D
 | .str z=>.bl (z.cps.toList.head?.any f)
 | _=>.aw
theorem DH:(fJ z).map (BJ f)=(z.cps.toList.map f).map D.bl:=by
 unfold fJ
 rw[zw,zw]
 rfl
theorem all_map {α:Type}{l:List α}{f:α→Bool} : (l.map f).all id=l.all f:=by
 rw[List.all_map];rfl
theorem nD {z:Str}{f:Nat→Bool}{g:Br}{te:TD}{σ:SD}{src:List (Option Nat)}{S:aU}{R:KD}{Z:KX}{i:Nat} (hv:σ[i]?=some (some (.str z))) (hz:z.cps.size≤1000)
  (step:∀ c,c∈z.cps.toList→∀ Q:KD,Q (.bl (f c)) S→g (.str ⟨#[c]⟩) (n_ σ src) S fun iV S3=>te iV S3 Q Zf) (q:R (.bl (z.cps.toList.all f)) S) :
  SF QL (KJ (Bt (KZ (Qz i)) src g sY te) M_) σ S (fun d S'=>Fo S' (R d)) Z:=by
 refine⟨_,hv,z,rfl,?_⟩
 refine My.comp_map (I:=⟨fJ z,fun _=>True⟩) (BJ f) trivial (by show (fJ z).length≤1000;unfold fJ;rw[zc,ye];exact hz) (fun d hd Q hQ=>?_) fun p hp=>?_
 ·obtain⟨c,hc,rfl⟩:=DF hd
  exact step c hc Q (by simpa [BJ] using hQ)
 ·refine⟨.ref p,z.cps.toList.map f,rfl,?_,S,.new hp,?_⟩
  ·show (S.set p (.lst ((fJ z).map (BJ f)))) p=_
   rw[af,DH]
  ·rw[all_map];exact q
theorem Ax {S:aU}{d:D}{k:Kd} (hk:Nc S d k):(∃ z,d=.str z∧xZ k=true)∨(xZ k=false∧∀ f,ofStr f d=false):=by
 cases d with
 | str b=>cases hk;exact .inl ⟨b,rfl,rfl⟩
 | aw=>cases hk;exact .inr ⟨rfl,fun _=>rfl⟩
 | bl b=>cases hk;exact .inr ⟨rfl,fun _=>rfl⟩
 | int b=>cases hk;exact .inr ⟨rfl,fun _=>rfl⟩
 | tup b=>cases hk;exact .inr ⟨rfl,fun _=>rfl⟩
 | ref a=>rcases hk with ⟨rfl,_⟩ | ⟨rfl,_⟩ <;> exact .inr ⟨rfl,fun _=>rfl⟩
 | _=>exact hk.elim
theorem NO {S:aU}{d:D}{k:Kd} (hk:Nc S d k):(∃ ds,d=.tup ds∧pQ k=true)∨(pQ k=false∧∀ ds,d≠.tup ds):=by
 cases d with
 | tup b=>cases hk;exact .inl ⟨b,rfl,rfl⟩
 | aw=>cases hk;exact .inr ⟨rfl,fun _=>nofun⟩
 | bl b=>cases hk;exact .inr ⟨rfl,fun _=>nofun⟩
 | int b=>cases hk;exact .inr ⟨rfl,fun _=>nofun⟩
 | str b=>cases hk;exact .inr ⟨rfl,fun _=>nofun⟩
 | ref a=>rcases hk with ⟨rfl,_⟩ | ⟨rfl,_⟩ <;> exact .inr ⟨rfl,fun _=>nofun⟩
 | _=>exact hk.elim
theorem qF (T:Txt w K mg t):Ok P w base T.eS 2 (nC (ofStr jx)):=by
 have gr:Ok P w base T.bB 1 (qC isLet):=mf T
 refine T.eS.F.ok Aq (by rintro ds S R Z ⟨d,e,_⟩;rw[e];rfl) ?_
 rintro bq A outer s H E ds S R Z hr ⟨d,e,⟨⟨k,hk⟩,hz⟩,q⟩
 subst e
 refine⟨_,(sc (si (twd (twor (dM (tv (cb cW T.ax au (ac (dv 0) (ac (rL T.oh i7) an))))) (tw1 (dM (Vj kE kE hr.units di (cb cj T.bR ba (ac (dv 0) an)) (dg (v:=.int 8) T.kQ ⟨_,rfl⟩ fun _=>aO _)))))) (s1 (sr db)) s0) (s1 (sr (cb lQ T.l7 ib (ac (xt (N:=["sign"]) (src:=[none]) (nZ (ae jN) ["thing"] rfl rfl (by decide +kernel)) (Nr (dv 0)) (um (show (["sign"]:List Str).Nodup by decide +kernel)) (bt rfl) bu (fun _ _ _ _ _=>xr) (fun _ _ _ _ _=>(cf (gr.mono (by decide)) hr T.bB.m T.bB.k T.bB.b d0 (ac (dv 0) an)))) an))))),?_⟩
 refine⟨_,rfl,_,_,_,_,rfl,cn,hk,_,rfl,?_⟩
 rcases Ax hk with ⟨z,rfl,h0⟩ | ⟨h0,h1⟩
 ·have hz:=hz z rfl
  rw[h0]
  refine bI ?_
  refine⟨_,rfl,_,rfl,⟨sm hz,?_⟩⟩
  refine⟨_,rfl,?_⟩
  have e1:decide ((1:Int)≤(z.length:Nat))=decide (1≤z.cps.size):=by rw[yC];show (1:Int)≤((z.cps.size:Nat):Int)↔_;omega
  have e2:decide (((z.length:Nat):Int)≤8)=decide (z.cps.size≤8):=by rw[yC];show ((z.cps.size:Nat):Int)≤8↔_;omega
  unfold ofStr jx at q
  dsimp only at q
  refine dw (fun h2=>?_) (fun h2=>?_)
  ·rw[e1.symm.trans h2,zV] at q
   refine⟨_,rfl,?_⟩
   refine dw (fun h3=>?_) (fun h3=>?_)
   ·rw[e2.symm.trans (nt h3),zP] at q
    exact fo q
   ·rw[e2.symm.trans (nf h3),zV] at q
    exact nD rfl hz (fun c hc Q hQ=>⟨_,rfl,c,rfl,hQ⟩) q
  ·rw[e1.symm.trans h2,zP,zP] at q
   refine⟨_,rfl,?_⟩
   exact fI (fo q)
 ·rw[h0]
  rw[h1] at q
  exact fI (fI (fo q))
def aB (c:Str×Str):D:=.tup [.str c.1,.str c.2]
def Gd (cs:List (Str×Str)):Prop:=cs.length≤8∧(cs.map Prod.fst).Nodup∧∀ c∈cs,jx c.1=true∧(c.2 = "number" ∨ c.2 = "word")
def mh (cs:List (Str×Str)):D→Bool
 | .tup ws=>decide (ws.length=cs.length) && (List.zipWith (fun c v=>jy c.2 v) cs ws).all id
 | _=>false
def iD (cs:List (Str×Str)) (k v:D):Bool:=ofStr fZ k && mh cs v
def Lb (S:aU) (d:D):Prop:=Gt S d∧∀ ws,d=.tup ws→ws.length≤1000∧∀ v∈ws,Gt S v
theorem jX (T:Txt w K mg t):Ok P w base T.cE 2 (nC (ofStr fZ)):=by
 have gr:Ok P w base T.bB 1 (qC isLet):=mf T
 have wU:Ok P w base T.fB 1 (qC wR):=uU T
 refine T.cE.F.ok Dy (by rintro ds S R Z ⟨d,e,_⟩;rw[e];rfl) ?_
 rintro bq A outer s H E ds S R Z hr ⟨d,e,⟨⟨k,hk⟩,hz⟩,q⟩
 subst e
 refine⟨_,(sc (si (twd (twor (dM (tv (cb cW T.ax au (ac (dv 0) (ac (rL T.oh i7) an))))) (tw1 (dM (Vj kE kE hr.units di (cb cj T.bR ba (ac (dv 0) an)) (dg (v:=.int 12) T.l5 ⟨_,rfl⟩ fun _=>aO _)))))) (s1 (sr db)) s0) (sc (si (dM (tv (cf (gr.mono (by decide)) hr T.bB.m T.bB.k T.bB.b d0 (ac (ix hr.units (dv 0) di) an)))) (s1 (sr db)) s0) (s1 (sr (cb lQ T.l7 ib (ac (xt (N:=["sign"]) (src:=[none]) (nZ (ae lS) ["thing"] rfl rfl (by decide +kernel)) (Nr (dv 0)) (um (show (["sign"]:List Str).Nodup by decide +kernel)) (bt rfl) bu (fun _ _ _ _ _=>xr) (fun _ _ _ _ _=>(Zv (cf (gr.mono (by decide)) hr T.bB.m T.bB.k T.bB.b d0 (ac (dv 0) an)) (IW (cf (wU.mono (by decide)) hr T.fB.m T.fB.k T.fB.b d0 (ac (dv 0) an)))))) an)))))),?_⟩
 refine⟨_,rfl,_,_,_,_,rfl,cn,hk,_,rfl,?_⟩
 rcases Ax hk with ⟨z,rfl,h0⟩ | ⟨h0,h1⟩
 ·have hz:=hz z rfl
  rw[h0]
  refine bI ?_
  refine⟨_,rfl,_,rfl,⟨sm hz,?_⟩⟩
  refine⟨_,rfl,?_⟩
  have e1:decide ((1:Int)≤(z.length:Nat))=decide (1≤z.cps.size):=by rw[yC];show (1:Int)≤((z.cps.size:Nat):Int)↔_;omega
  have e2:decide (((z.length:Nat):Int)≤12)=decide (z.cps.size≤12):=by rw[yC];show ((z.cps.size:Nat):Int)≤12↔_;omega
  unfold ofStr fZ at q
  dsimp only at q
  refine dw (fun h2=>?_) (fun h2=>?_)
  ·have U5:=e1.symm.trans h2
   rw[U5,zV] at q
   refine⟨_,rfl,?_⟩
   refine dw (fun h3=>?_) (fun h3=>?_)
   ·rw[e2.symm.trans (nt h3),zP,zP] at q
    exact fo q
   ·rw[e2.symm.trans (nf h3),zV] at q
    obtain⟨c,r,ec⟩:=len_pos (z:=z) (zH U5)
    have eh:z.cps.toList.head?.any isLet=isLet c:=by rw[ec];rfl
    rw[eh] at q
    refine⟨_,rfl,c,sm hz,Zd ec,c,rfl,_,rfl,?_⟩
    refine dw (fun h4=>?_) (fun h4=>?_)
    ·rw[nt h4,zP] at q
     exact fo q
    ·rw[nf h4,zV] at q
     refine nD (f:=fun c=>isLet c || wR c) rfl hz (fun c hc Q hQ=>?_) q
     refine⟨_,rfl,c,rfl,_,rfl,?_⟩
     refine dw (fun h5=>?_) (fun h5=>?_)
     ·rw[h5,Bool.true_or] at hQ
      exact hQ
     ·rw[h5,yM] at hQ
      exact⟨_,rfl,c,rfl,hQ⟩
  ·rw[e1.symm.trans h2,zP,zP,zP] at q
   refine⟨_,rfl,?_⟩
   exact fI (fo q)
 ·rw[h0]
  rw[h1] at q
  exact fI (fI (fo q))
theorem Ay (T:Txt w K mg t):Ok P w base T.jP 2 (nC (ofStr tE)):=by
 refine T.jP.F.ok Ar (by rintro ds S R Z ⟨d,e,_⟩;rw[e];rfl) ?_
 rintro bq A outer s H E ds S R Z hr ⟨d,e,⟨⟨k,hk⟩,hz⟩,q⟩
 subst e
 refine⟨_,(sc (si (twd (twor (dM (tv (cb cW T.ax au (ac (dv 0) (ac (rL T.oh i7) an))))) (tw1 (cJ ua hr.units (cb cj T.bR ba (ac (dv 0) an)) (dg (v:=.int 40) T.kR ⟨_,rfl⟩ fun _=>aO _))))) (s1 (sr db)) s0) (s1 (sr (cb lQ T.l7 ib (ac (xt (N:=["sign"]) (src:=[none]) (nZ (ae jO) ["thing"] rfl rfl (by decide +kernel)) (Nr (dv 0)) (um (show (["sign"]:List Str).Nodup by decide +kernel)) (bt rfl) bu (fun _ _ _ _ _=>xr) (fun _ _ _ _ _=>(cc kE kE hr.units ds (dv 0) ds))) an))))),?_⟩
 refine⟨_,rfl,_,_,_,_,rfl,cn,hk,_,rfl,?_⟩
 rcases Ax hk with ⟨z,rfl,h0⟩ | ⟨h0,h1⟩
 ·have hz:=hz z rfl
  rw[h0]
  refine bI ?_
  refine⟨_,rfl,_,rfl,⟨sm hz,?_⟩⟩
  refine⟨_,rfl,?_⟩
  have e2:decide ((40:Int)<((z.length:Nat):Int))=!decide (z.cps.size≤40):=by
   rw[yu];simp only [decide_eq_true_iff,Bool.not_eq_true',decide_eq_false_iff_not];show (40:Int)<((z.cps.size:Nat):Int)↔_;omega
  unfold ofStr tE at q
  dsimp only at q
  refine dw (fun h3=>?_) (fun h3=>?_)
  ·rw[nt (e2.symm.trans h3),zP] at q
   exact fo q
  ·rw[nf (e2.symm.trans h3),zV] at q
   refine nD (f:=Gw) rfl hz (fun c hc Q hQ=>?_) q
   refine⟨_,rfl,_,rfl,?_⟩
   have e3:Ei " " ⟨#[c]⟩=decide (32≤c):=jL 32 c
   have e4:Ei ⟨#[c]⟩ "~" = decide (c≤126):=jL c 126
   unfold Gw at hQ
   refine dw (fun h=>?_) (fun h=>?_)
   ·rw[e3.symm.trans h,zV,← e4] at hQ
    exact hQ
   ·rw[e3.symm.trans h,zP] at hQ
    exact hQ
 ·rw[h0]
  rw[h1] at q
  exact fI (fI (fo q))
theorem oo (T:Txt w K mg t):Ok P w base T.c_ 3 (fun ds S R _=>∃ kind d,ds=[.str kind,d]∧Gt S d∧R (.bl (jy kind d)) S):=by
 have kZ:Ok P w base T.cZ 1 (nC kY):=om T
 have DJ:Ok P w base T.jP 2 (nC (ofStr tE)):=Ay T
 refine T.c_.F.ok wM (by rintro ds S R Z ⟨d,d',e,_⟩;rw[e];rfl) ?_
 rintro bq A outer s H E ds S R Z hr ⟨kind,d,e,hd,q⟩
 subst e
 refine⟨_,(sc (si (cJ rM hr.units (dv 1) dn) (s1 (sr db)) s0) (sc (si (cJ cg hr.units (dv 0) ds) (s1 (sr (cf (kZ.mono (by decide)) hr T.cZ.m T.cZ.k T.cZ.b d0 (ac (dv 1) an)))) s0) (s1 (sr (cf (DJ.mono (by decide)) hr T.jP.m T.jP.k T.jP.b d0 (ac (dv 1) an)))))),?_⟩
 refine⟨_,rfl,_,rfl,?_⟩
 unfold jy at q
 refine dw (fun h=>?_) (fun h=>?_)
 ·rw[h,Bool.true_or] at q
  exact fo q
 ·rw[h,yM] at q
  refine⟨_,rfl,_,rfl,?_⟩
  refine dw (fun h=>?_) (fun h=>?_)
  ·rw[if_pos (zH h)] at q
   exact⟨_,rfl,d,rfl,hd,fo q⟩
  ·rw[if_neg (yx h)] at q
   exact⟨_,rfl,d,rfl,hd,fo q⟩
theorem gt_str (h:z.cps.size≤1000):Gt S (.str z):=⟨⟨.str,rfl⟩,fun y e=>by cases e;exact h⟩
theorem nE (h:jx z=true):z.cps.size≤1000:=by
 unfold jx at h
 simp only [zN,yq] at h
 omega
theorem DK (h:∀ c v,f (.tup [aB c,v])=.bl (jy c.2 v)):(bh (cs.map aB) ws).map f=(List.zipWith (fun c v=>jy c.2 v) cs ws).map D.bl:=by
 unfold bh
 induction cs generalizing ws with
 | nil=>cases ws <;> rfl
 | cons c cs ih =>
  cases ws with
  | nil=>rfl
  | cons v ws =>
   show f (.tup [aB c,v]) :: (List.zipWith _ (cs.map aB) ws).map f=.bl (jy c.2 v) :: _
   rw[h,ih]
def pairF:D→D
 | .tup [.tup [_,.str k],v]=>.bl (jy k v)
 | _=>.aw
theorem Az (T:Txt w K mg t):Ok P w base T.jQ 1 (fun ds S R _=>∃ z,ds=[.str z]∧(z = "number" ∨ z = "word")∧R (.bl true) S):=by
 refine T.jQ.F.ok As (by rintro ds S R Z ⟨d,e,_⟩;rw[e];rfl) ?_
 rintro bq A outer s H E ds S R Z hr ⟨z,e,hz,q⟩
 subst e
 refine⟨_,(s1 (sr (t_ (cb cW T.ax au (ac (dv 0) (ac (rL T.oh i7) an))) (IW (cm CK hr.units (dv 0) (dg (v:=.ref t.uB) T.Gk rfl T.Gm)))))),?_⟩
 refine⟨_,rfl,_,_,_,_,rfl,cn,rfl,_,rfl,fI ⟨_,rfl,rfl,rfl,?_⟩⟩
 have e:Cm (lO (.str z)) ([D.str "number",D.str "word"].map lO)=true:=by rcases hz with rfl | rfl <;> decide +kernel
 show Fo S (R (.bl (if false=true then _ else Cm (lO (.str z)) ([D.str "number",D.str "word"].map lO))))
 rw[if_neg zd,e]
 exact fo q
theorem uV (T:Txt w K mg t):Ok P w base T.fC 3 (fun ds S R _=>∃ c,ds=[aB c]∧jx c.1=true∧(c.2 = "number" ∨ c.2 = "word")∧R (.bl true) S):=by
 have nF:Ok P w base T.eS 2 (nC (ofStr jx)):=qF T
 have DL:Ok P w base T.jQ 1 (fun ds S R _=>∃ z,ds=[.str z]∧(z = "number" ∨ z = "word")∧R (.bl true) S):=Az T
 refine T.fC.F.ok uO (by rintro ds S R Z ⟨d,e,_⟩;rw[e];rfl) ?_
 rintro bq A outer s H E ds S R Z hr ⟨c,e,h1,h2,q⟩
 subst e
 refine⟨_,(sc (si (twd (twor (dM (tv (cb cW T.ax au (ac (dv 0) (ac (rL T.cT bT) an))))) (tw1 (cJ lN hr.units (cb cj T.bR ba (ac (dv 0) an)) di)))) (s1 (sr db)) s0) (s1 (sr (t_ (cf (nF.mono (by decide)) hr T.eS.m T.eS.k T.eS.b d0 (ac (ix hr.units (dv 0) di) an)) (IW (cf (DL.mono (by decide)) hr T.jQ.m T.jQ.k T.jQ.b d0 (ac (ix hr.units (dv 0) di) an))))))),?_⟩
 refine⟨_,rfl,_,_,_,_,rfl,aW,rfl,_,rfl,?_⟩
 refine bI ⟨_,rfl,_,rfl,_,rfl,bI ?_⟩
 refine⟨_,rfl,_,rfl,_,rfl,gt_str (nE h1),_,rfl,?_⟩
 show if jx c.1=true then _ else _
 rw[h1]
 exact fI ⟨_,rfl,_,rfl,_,rfl,h2,fo q⟩
theorem oq (T:Txt w K mg t):Ok P w base T.df 1 (fun ds S R _=>∃ cs:List (Str×Str),ds=[.tup (cs.map aB)]∧cs.length≤8∧∀ p,S p=none→R (.ref p) (S.set p (.lst ((cs.map Prod.fst).map D.str)))):=by
 refine T.df.F.ok wN (by rintro ds S R Z ⟨d,e,_⟩;rw[e];rfl) ?_
 rintro bq A outer s H E ds S R Z hr ⟨cs,e,hl,q⟩
 subst e
 refine⟨_,(s1 (sr (xt (N:=["name", "kind"]) (src:=[none,none]) (nZ (ae iq) ["columns"] rfl rfl (by decide +kernel)) (I9 (dv 0)) (V1 (show (["name", "kind"]:List Str).Nodup by decide +kernel)) (tY rfl rfl) uk (fun _ _ _ _ _=>xr) (fun _ _ _ _ _=>(dv 0))))),?_⟩
 refine⟨_,rfl,_,.inl rfl,?_⟩
 refine comp_map (fun d=>match d with | .tup (x :: _)=>x | _=>.aw) trivial (by show (cs.map aB).length≤1000;rw[zc];omega) (fun d hd Q hQ=>?_) fun p hp=>?_
 ·obtain⟨c,hc,rfl⟩:=zi.mp hd
  exact⟨_,rfl,rfl,_,_,rfl,_,_,rfl,rfl,_,rfl,hQ⟩
 ·have e:(cs.map aB).map (fun d=>match d with | .tup (x :: _)=>x | _=>.aw)=(cs.map Prod.fst).map D.str:=by
   rw[zw,zw];rfl
  show Fo (S.set p (.lst ((cs.map aB).map _))) (R (.ref p))
  rw[e]
  exact fo (q p hp)
theorem nG (T:Txt w K mg t):Ok P w base T.cB 4 (fun ds S R _=>∃ cs,ds=[.tup (cs.map aB)]∧Gd cs∧R .aw S):=by
 have wV:Ok P w base T.fC 3 _:=uV T
 have k7:Ok P w base T.df 1 _:=oq T
 refine T.cB.F.ok nA (by rintro ds S R Z ⟨d,e,_⟩;rw[e];rfl) ?_
 rintro bq A outer s H E ds S R Z hr ⟨cs,e,⟨hl,hn,hg⟩,q⟩
 subst e
 refine⟨_,(sc (si (twd (twor (dM (tv (cb cW T.ax au (ac (dv 0) (ac (rL T.cT bT) an))))) (tw1 (cJ ua hr.units (cb cj T.bR ba (ac (dv 0) an)) (dg (v:=.int 8) T.oN ⟨_,rfl⟩ fun _=>aO _))))) (s1 (ug ⟨T.dW⟩ T.gG (ac ds an))) s0) (sc (si (dM (tv (cb lQ T.l7 ib (ac (xt (N:=["column"]) (src:=[none]) (nZ (ae dk) ["columns"] rfl rfl (by decide +kernel)) (I9 (dv 0)) (um (show (["column"]:List Str).Nodup by decide +kernel)) (bt rfl) bu (fun _ _ _ _ _=>xr) (fun _ _ _ _ _=>(cf (wV.mono (by decide)) hr T.fC.m T.fC.k T.fC.b d0 (ac (dv 0) an)))) an)))) (s1 (ug ⟨T.dW⟩ T.gG (ac ds an))) s0) (s1 (si (cJ lN hr.units (XU (cf (k7.mono (by decide)) hr T.df.m T.df.k T.df.b d0 (ac (dv 0) an)) T.bR T.La) (cb cj T.bR ba (ac (dv 0) an))) (s1 (ug ⟨T.dW⟩ T.gG (ac ds an))) s0)))),?_⟩
 refine⟨_,rfl,_,_,_,_,rfl,aW,rfl,_,rfl,?_⟩
 have e1:decide ((8:Int)<((cs.map aB).length:Nat))=false:=zq (by rw[zc];omega)
 refine bI ⟨_,rfl,_,rfl,_,rfl,?_⟩
 show if decide ((8:Int)<((cs.map aB).length:Nat))=true then _ else _
 rw[e1]
 refine bI ?_
 refine⟨_,rfl,_,.inl rfl,?_⟩
 refine comp_map (fun _=>.bl true) trivial (by show (cs.map aB).length≤1000;rw[zc];omega) (fun d hd Q hQ=>?_) fun p hp=>?_
 ·obtain⟨c,hc,rfl⟩:=zi.mp hd
  exact⟨_,rfl,c,rfl,(hg c hc).1,(hg c hc).2,hQ⟩
 ·have e2:(cs.map aB).map (fun _=>D.bl true)=(cs.map fun _=>true).map D.bl:=by rw[zw,zw];rfl
  have e3:(cs.map fun _=>true).all id=true:=by rw[all_map];exact ym.mpr fun _ _=>rfl
  refine⟨.ref p,cs.map fun _=>true,rfl,?_,_,rfl,?_⟩
  ·show (S.set p (.lst ((cs.map aB).map _))) p=_
   rw[af,e2]
  rw[e3]
  refine bI ?_
  refine⟨_,rfl,cs,rfl,hl,fun p2 mK=>?_⟩
  refine⟨cs.map Prod.fst,af,by rw[zc];omega,_,rfl,_,rfl,_,rfl,?_⟩
  have e4:decide ((((iM (cs.map Prod.fst)).length:Nat):Int)=(((cs.map aB).length:Nat):Int))=true:=zt (by rw[(sW _).mpr hn,zc,zc])
  show if (if true=true then !decide ((((iM (cs.map Prod.fst)).length:Nat):Int)=(((cs.map aB).length:Nat):Int)) else _)=true then _ else _
  rw[if_pos rfl,e4]
  exact bI ⟨S,(Sub.new hp).trans (.new mK),q⟩
theorem su (T:Txt w K mg t):Ok P w base T.eM 4 (fun ds S R _=>∃ cs d,ds=[.tup (cs.map aB),d]∧cs.length≤8∧Lb S d∧R (.bl (mh cs d)) S):=by
 have k8:Ok P w base T.c_ 3 _:=oo T
 refine T.eM.F.ok r_ (by rintro ds S R Z ⟨d,d',e,_⟩;rw[e];rfl) ?_
 rintro bq A outer s H E ds S R Z hr ⟨cs,d,e,hl,⟨⟨⟨k,hk⟩,hz⟩,hw⟩,q⟩
 subst e
 refine⟨_,(sc (si (twd (twor (dM (tv (cb cW T.ax au (ac (dv 1) (ac (rL T.cT bT) an))))) (tw1 (cJ lN hr.units (cb cj T.bR ba (ac (dv 1) an)) (cb cj T.bR ba (ac (dv 0) an)))))) (s1 (sr db)) s0) (s1 (sr (cb lQ T.l7 ib (ac (xt (N:=["column", "value"]) (src:=[none,none]) (nZ (ae fq) ["columns", "thing"] rfl rfl (by decide +kernel)) (XS T.Gp (ac (dv 0) (ac (dv 1) an))) (V1 (show (["column", "value"]:List Str).Nodup by decide +kernel)) (tY rfl rfl) uk (fun _ _ _ _ _=>xr) (fun _ _ _ _ _=>(cf (k8.mono (by decide)) hr T.c_.m T.c_.k T.c_.b d0 (ac (ix hr.units (dv 0) di) (ac (dv 1) an))))) an))))),?_⟩
 refine⟨_,rfl,_,_,_,_,rfl,aW,hk,_,rfl,?_⟩
 rcases NO hk with ⟨ws,rfl,h0⟩ | ⟨h0,h1⟩
 ·obtain⟨Th,q_⟩:=hw ws rfl
  rw[h0]
  refine bI ⟨_,rfl,_,rfl,_,rfl,_,rfl,_,rfl,?_⟩
  have e1:decide (((ws.length:Nat):Int)=(((cs.map aB).length:Nat):Int))=decide (ws.length=cs.length):=by rw[yC,zc];omega
  unfold mh at q
  dsimp only at q
  show if (if true=true then !decide (((ws.length:Nat):Int)=(((cs.map aB).length:Nat):Int)) else _)=true then _ else _
  rw[if_pos rfl,e1]
  refine dw (fun h=>?_) (fun h=>?_)
  ·rw[nt h,zP] at q
   exact fo q
  ·have h:=nf h
   rw[h,zV] at q
   have h:=zH h
   refine⟨_,rfl,_,rfl,cs.map aB,ws,rfl,by rw[zc];exact h.symm,?_⟩
   refine comp_map pairF trivial (by show (bh (cs.map aB) ws).length≤1000;unfold bh;rw[List.length_zipWith,zc];omega) (fun d hd Q hQ=>?_) fun p hp=>?_
   ·unfold bh at hd
    obtain⟨i,ei⟩:=List.getElem?_of_mem hd
    obtain⟨x,y,e2,e3,e4⟩:=List.getElem?_zipWith_eq_some.mp ei
    subst e4
    rw[zx] at e2
    cases e5:cs[i]? with
    | none=>rw[e5] at e2;cases e2
    | some c =>
     rw[e5] at e2;cases e2
     exact⟨_,rfl,rfl,_,_,rfl,_,_,rfl,rfl,_,rfl,_,rfl,_,rfl,c.2,y,rfl,q_ y (zM e3),hQ⟩
   ·refine⟨.ref p,List.zipWith (fun c v=>jy c.2 v) cs ws,rfl,?_,S,.new hp,q⟩
    show (S.set p (.lst ((bh (cs.map aB) ws).map pairF))) p=_
    rw[af,DK fun _ _=>rfl]
 ·rw[h0]
  have e:mh cs d=false:=by
   cases d with
   | tup ws=>exact absurd rfl (h1 ws)
   | _=>rfl
  rw[e] at q
  exact fI (fI (fo q))
theorem mi (T:Txt w K mg t):Ok P w base T.cC 5 (fun ds S R Z=>∃ cs k v,ds=[.tup (cs.map aB),.tup [k,v]]∧cs.length≤8∧Gt S k∧Lb S v∧(iD cs k v=true→R .aw S)∧(iD cs k v=false→Z t.dR S)):=by
 have fQ:Ok P w base T.cE 2 (nC (ofStr fZ)):=jX T
 have uW:Ok P w base T.eM 4 _:=su T
 refine T.cC.F.ok uP (by rintro ds S R Z ⟨d,d',d'',e,_⟩;rw[e];rfl) ?_
 rintro bq A outer s H E ds S R Z hr ⟨cs,k,v,e,hl,hk,hv,q1,q2⟩
 subst e
 refine⟨_,(sc (si (twd (twor (dM (tv (cb cW T.ax au (ac (dv 1) (ac (rL T.cT bT) an))))) (tw1 (cJ lN hr.units (cb cj T.bR ba (ac (dv 1) an)) di)))) (s1 (ug ⟨T.g7⟩ T.jV (ac ds an))) s0) (sc (si (dM (tv (cf (fQ.mono (by decide)) hr T.cE.m T.cE.k T.cE.b d0 (ac (ix hr.units (dv 1) di) an)))) (s1 (ug ⟨T.g7⟩ T.jV (ac ds an))) s0) (s1 (si (dM (tv (cf (uW.mono (by decide)) hr T.eM.m T.eM.k T.eM.b d0 (ac (dv 0) (ac (ix hr.units (dv 1) di) an))))) (s1 (ug ⟨T.g7⟩ T.jV (ac ds an))) s0)))),?_⟩
 refine⟨_,rfl,_,_,_,_,rfl,aW,rfl,_,rfl,?_⟩
 refine bI ⟨_,rfl,_,rfl,_,rfl,bI ?_⟩
 refine⟨_,rfl,_,rfl,k,rfl,hk,_,rfl,?_⟩
 unfold iD at q1 q2
 refine dw (fun h=>?_) (fun h=>?_)
 ·rw[nt h,zP] at q2
  exact⟨sm (by decide),fo (q2 rfl)⟩
 ·rw[nf h,zV] at q1 q2
  refine⟨_,rfl,_,rfl,_,rfl,cs,v,rfl,hl,hv,_,rfl,?_⟩
  refine dw (fun h=>?_) (fun h=>?_)
  ·exact⟨sm (by decide),fo (q2 (nt h))⟩
  ·exact fo (q1 (nf h))
theorem bg (h:n≤100000):n<sizeLine:=by rw[zR];omega
structure Std where
 b:Nat
 e:Option Nat
 ws:List D
def eD:Option Nat→D
 | none=>.aw
 | some n=>.int (n:Nat)
def jz (s:Std):D:=.tup [.int (s.b:Nat),eD s.e,.tup s.ws]
def Gx:List Std→Int→D
 | [],_=>.aw
 | s :: r,m=>if (s.b:Int)≤m then (match s.e with | none=>.tup s.ws | some n=>if m≤(n:Int) then .tup s.ws else .aw) else Gx r m
def wt (l:List Std) (m:Int):D:=Gx l.reverse m
abbrev Ra:=List (Str×Addr×List Std)
abbrev uX:=List (Str×List Std)
def g_ (ra:Ra):uX:=ra.map fun r=>(r.1,r.2.2)
def dZ (ra:Ra):List (Key×D):=ra.map fun r=>(Sum.inr r.1,D.ref r.2.1)
def lu (rs:uX) (k:Str):Option (List Std):=(rs.find? fun r=>decide (r.1=k)).map (·.2)
def rh (ra:Ra) (k:Str):Option (Addr×List Std):=(ra.find? fun r=>decide (r.1=k)).map (·.2)
def rj (ra:Ra) (k:Str) (s:List Std):Ra:=ra.map fun r=>if r.1=k then (r.1,r.2.1,s) else r
def AA (rs:uX) (k:Str) (s:List Std):uX:=if (lu rs k).isSome then rs.map fun r=>if r.1=k then (r.1,s) else r else rs++[(k,s)]
theorem gH (ra:Ra) (k:Str):lu (g_ ra) k=(rh ra k).map (·.2):=by
 unfold lu rh g_
 induction ra with
 | nil=>rfl
 | cons r ra ih =>
  rw[zA,zQ,zQ]
  by_cases h:r.1=k
  ·rw[zt h];rfl
  ·rw[zq h];exact ih
theorem hG (ra:Ra) (k:Str):cz (dZ ra) (.inr k)=(rh ra k).map fun p=>D.ref p.1:=by
 unfold cz rh dZ
 induction ra with
 | nil=>rfl
 | cons r ra ih =>
  rw[zA,zQ,zQ]
  by_cases h:r.1=k
  ·rw[zt h]
   have:decide ((Sum.inr r.1:Key)=.inr k)=true:=zt (by rw[h])
   dsimp only
   rw[this];rfl
  ·rw[zq h]
   have:decide ((Sum.inr r.1:Key)=.inr k)=false:=zq fun e=>h (yD e)
   dsimp only
   rw[this];exact ih
theorem dq (h:rh ra k=some (l,s)):(k,l,s)∈ra:=by
 unfold rh at h
 cases q:ra.find? fun r=>decide (r.1=k) with
 | none=>rw[q] at h;cases h
 | some r =>
  rw[q] at h
  have h1:=List.find?_some q
  have h2:=List.mem_of_find?_eq_some q
  obtain⟨k',l',s'⟩:=r
  have e:k'=k:=zH h1
  cases h
  rw[← e];exact h2
theorem ml (h:rh ra k=none):∀ r∈ra,r.1≠k:=by
 unfold rh at h
 intro r hr e
 have:=List.find?_eq_none.mp (Option.map_eq_none_iff.mp h) r hr
 simp [e] at this
theorem iE:∀ {l:List α}{x y:α},(l.map f).Nodup→x∈l→y∈l→f x=f y→x=y
 | z :: l,x,y,nd,hx,hy,e=>by
  rw[zA] at nd
  obtain⟨n1,n2⟩:=zX.mp nd
  rcases ze.mp hx with ex | Qp
  ·rcases ze.mp hy with ey | P5
   ·rw[ex,ey]
   ·exact absurd (zi.mpr ⟨y,P5,by rw[← e,ex]⟩) n1
  ·rcases ze.mp hy with ey | P5
   ·exact absurd (zi.mpr ⟨x,Qp,by rw[e,ey]⟩) n1
   ·exact iE n2 Qp P5 e
structure AB (C:Addr) (S:aU) (a ld lr:Addr) (cs:List (Str×Str)) (dl:List D) (ra:Ra):Prop where
 ins:S a=some (.ins C [("columns",.tup (cs.map aB)),("deeds",.ref ld),("runs",.ref lr)])
 vm:S ld=some (.lst dl)
 run:S lr=some (.du (dZ ra))
 cell:∀ r∈ra,S r.2.1=some (.lst (r.2.2.map jz))
 kn:(ra.map (·.1)).Nodup
 an:(ld :: ra.map (·.2.1)).Nodup
 sz:∀ r∈ra,r.2.2.length≤dl.length
def fp (a ld lr:Addr) (ra:Ra):List Addr:=a :: ld :: lr :: ra.map (·.2.1)
def br (C:Addr) (S:aU) (a:Addr) (F:List Addr) (cs:List (Str×Str)) (dl:List D) (rs:uX):Prop:=∃ ld lr ra,AB C S a ld lr cs dl ra∧F=fp a ld lr ra∧rs=g_ ra
def vn (F F':List Addr) (S S':aU):Prop:=∀ b c,b∉F→S b=some c→b∉F'∧S' b=some c
theorem vn.trans (a:vn F F1 S S1) (b:vn F1 F2 S1 S2):vn F F2 S S2:=fun p c h e=>by obtain⟨h1,e1⟩:=a p c h e;exact b p c h1 e1
section
variable {C a ld lr:Addr}{S:aU}{cs:List (Str×Str)}{dl:List D}{ra:Ra}
theorem AB.AD (h:AB C S a ld lr cs dl ra) {l:Addr}{ds:List D} (e:S l=some (.lst ds)):l≠a∧l≠lr:=by
 constructor
 ·rintro rfl;rw[h.ins] at e;cases e
 ·rintro rfl;rw[h.run] at e;cases e
theorem AB.put (h:AB C S a ld lr cs dl ra) (hk:rh ra k=some (l,s)) (hs:s'.length≤dl.length):AB C (S.set l (.lst (s'.map jz))) a ld lr cs dl (rj ra k s'):=by
 have hm:=dq hk
 have hl:=h.cell _ hm
 obtain⟨n1,n2⟩:=h.AD hl
 obtain⟨Wr,Yf⟩:=zX.mp h.an
 have n3:l≠ld:=fun e=>Wr (by rw[← e];exact zi.mpr ⟨_,hm,rfl⟩)
 have e1:(rj ra k s').map (·.1)=ra.map (·.1):=by
  unfold rj;rw[zw];exact zW fun r _=>by dsimp only [Function.comp];split <;> rfl
 have e2:(rj ra k s').map (·.2.1)=ra.map (·.2.1):=by
  unfold rj;rw[zw];exact zW fun r _=>by dsimp only [Function.comp];split <;> rfl
 have e3:dZ (rj ra k s')=dZ ra:=by
  unfold dZ rj;rw[zw];exact zW fun r _=>by dsimp only [Function.comp];split <;> rfl
 refine⟨by rw[ag n1.symm];exact h.ins,by rw[ag n3.symm];exact h.vm,by rw[ag n2.symm,e3];exact h.run,fun r hr=>?_,by rw[e1];exact h.kn,by rw[e2];exact h.an,fun r hr=>?_⟩
 ·unfold rj at hr
  obtain⟨r0,vo,e⟩:=zi.mp hr
  by_cases q:r0.1=k
  ·rw[if_pos q] at e
   have er:r0=(k,l,s):=iE h.kn vo hm q
   subst er e
   rw[af]
  ·rw[if_neg q] at e
   subst e
   have:r0.2.1≠l:=fun e=>q (by
    have:=iE Yf vo hm e
    rw[this])
   rw[ag this];exact h.cell _ vo
 ·unfold rj at hr
  obtain⟨r0,vo,e⟩:=zi.mp hr
  by_cases q:r0.1=k
  ·rw[if_pos q] at e;subst e;exact hs
  ·rw[if_neg q] at e;subst e;exact h.sz _ vo
theorem AB.add (h:AB C S a ld lr cs dl ra) (hk:rh ra k=none) (hl:S l=none) (hs:s.length≤dl.length) (e1:S' l=some (.lst (s.map jz))) (e2:S' lr=some (.du (dZ (ra++[(k,l,s)])))) (e3:∀ b,b≠l→b≠lr→S' b=S b):AB C S' a ld lr cs dl (ra++[(k,l,s)]):=by
 have n1:a≠l:=fU h.ins hl
 have n2:ld≠l:=fU h.vm hl
 have n3:a≠lr:=by rintro rfl;have:=h.run;rw[h.ins] at this;cases this
 have n4:ld≠lr:=by rintro rfl;have:=h.run;rw[h.vm] at this;cases this
 refine⟨by rw[e3 _ n1 n3];exact h.ins,by rw[e3 _ n2 n4];exact h.vm,e2,fun r hr=>?_,?_,?_,fun r hr=>?_⟩
 ·rcases zI.mp hr with hr | hr
  ·have hc:=h.cell r hr
   rw[e3 _ (fU hc hl) (h.AD hc).2];exact hc
  ·rw[zE.mp hr];exact e1
 ·rw[zF]
  exact lJ h.kn fun m=>by
   obtain⟨r,hr,e⟩:=zi.mp m
   exact ml hk r hr e
 ·rw[zF,← List.cons_append]
  refine lJ h.an fun m=>?_
  rcases ze.mp m with e | m
  ·exact n2 e.symm
  ·obtain⟨r,hr,e⟩:=zi.mp m
   exact fU (h.cell r hr) hl e
 ·rcases zI.mp hr with hr | hr
  ·exact h.sz r hr
  ·rw[zE.mp hr];exact hs
theorem AB.NP (h:AB C S a ld lr cs dl ra) (d:D):AB C (S.set ld (.lst (dl++[d]))) a ld lr cs (dl++[d]) ra:=by
 obtain⟨n1,n2⟩:=h.AD h.vm
 obtain⟨Wr,Yf⟩:=zX.mp h.an
 refine⟨by rw[ag n1.symm];exact h.ins,af,by rw[ag n2.symm];exact h.run,fun r hr=>?_,h.kn,h.an,fun r hr=>by rw[zC];exact zG (h.sz r hr) (Nat.le_add_right _ _)⟩
 rw[ag fun e=>Wr (by rw[← e];exact zi.mpr ⟨r,hr,rfl⟩)]
 exact h.cell r hr
end
def BK (C:Addr):gN:=fun ds S R _=>∃ a F cs dl rs,ds=[.ref a]∧br C S a F cs dl rs∧R (.int (dl.length:Nat)) S
theorem AE (T:Txt w K mg t):ip P w mg base T.bD 1 (BK t.ah):=by
 refine T.bD.F.ok uT (by rintro ds S R Z ⟨_,_,_,_,_,e,_⟩;rw[e];rfl) ?_
 rintro bq A outer s H E ds S R Z hr ⟨a,F,cs,dl,rs,e,⟨ld,lr,ra,h,_⟩,q⟩
 subst e
 refine⟨_,(s1 (sr (cb cj T.bR ba (ac (fl T.aq T.cL (dv 0)) an)))),?_⟩
 exact⟨_,rfl,a,_,_,rfl,h.ins,rfl,_,rfl,.inl ⟨dl,h.vm,fo q⟩⟩
theorem fR (T:Txt w K mg t):ip P w mg base T.az 1 (fun ds S R _=>∃ a F cs dl rs,ds=[.ref a]∧br t.ah S a F cs dl rs∧R (.tup (cs.map aB)) S):=by
 refine T.az.F.ok jw (by rintro ds S R Z ⟨_,_,_,_,_,e,_⟩;rw[e];rfl) ?_
 rintro bq A outer s H E ds S R Z hr ⟨a,F,cs,dl,rs,e,⟨ld,lr,ra,h,_⟩,q⟩
 subst e
 refine⟨_,(s1 (sr (fl T.aq T.cU (dv 0)))),?_⟩
 exact⟨_,rfl,a,_,_,rfl,h.ins,rfl,fo q⟩
def sv (n:Nat):D→Option Int
 | .aw=>some n
 | .int i=>if 0≤i∧i≤(n:Int) then some i else none
 | _=>none
def JD (C N:Addr):gN:=fun ds S R Z=>∃ a F cs dl rs m,ds=[.ref a,m]∧br C S a F cs dl rs∧Gt S m∧(∀ i,sv dl.length m=some i→R (.int i) S)∧(sv dl.length m=none→Z N S)
theorem iS (T:Txt w K mg t):ip P w mg base T.aN 2 (JD t.ah t.eK):=by
 have dJ:ip P w mg base T.bD 1 (BK t.ah):=AE T
 have kZ:Ok P w base T.cZ 1 (nC kY):=om T
 refine T.aN.F.ok iY (by rintro ds S R Z ⟨_,_,_,_,_,_,e,_⟩;rw[e];rfl) ?_
 rintro bq A outer s H E ds S R Z hr ⟨a,F,cs,dl,rs,m,e,hS,hm,q1,q2⟩
 subst e
 obtain⟨ld,lr,ra,h,hF,rf⟩:=id hS
 refine⟨_,(sc (si (cJ rM hr.units (dv 1) dn) (s1 (sr (rO (dv 0) T.aq T.bD.e (dJ.mono (by decide)) hr T.bD.b d0))) s0) (sc (si (twd (twor (dM (tv (cf (kZ.mono (by decide)) hr T.cZ.m T.cZ.k T.cZ.b d0 (ac (dv 1) an)))) (tw1 (dM (Vj kE kE hr.units di (dv 1) (rO (dv 0) T.aq T.bD.e (dJ.mono (by decide)) hr T.bD.b d0)))))) (s1 (ug ⟨T.kU⟩ T.wK (ac ds an))) s0) (s1 (sr (dv 1))))),?_⟩
 refine⟨_,rfl,_,rfl,?_⟩
 refine dw (fun h1=>?_) (fun h1=>?_)
 ·have e:m=.aw:=by cases m <;> first | rfl | cases h1
  subst e
  exact⟨_,rfl,a,_,rfl,h.ins,rfl,a,F,cs,dl,rs,rfl,hS,fo (q1 _ rfl)⟩
 ·refine⟨_,rfl,m,rfl,hm,_,rfl,?_⟩
  refine dw (fun h2=>?_) (fun h2=>?_)
  ·have h2:=nt h2
   have e:sv dl.length m=none:=by
    cases m with
    | aw=>cases h1
    | int i=>cases h2
    | _=>rfl
   exact fI ⟨sm (by decide),fo (q2 e)⟩
  ·have h2:=nf h2
   obtain⟨i,rfl⟩:∃ i,m=.int i:=by cases m <;> first | exact⟨_,rfl⟩ | cases h2
   refine⟨_,rfl,_,rfl,?_⟩
   refine dw (fun h3=>?_) (fun h3=>?_)
   ·have h3:0≤i:=zH h3
    refine⟨_,rfl,a,_,rfl,h.ins,rfl,a,F,cs,dl,rs,rfl,hS,_,rfl,?_⟩
    refine dw (fun h4=>?_) (fun h4=>?_)
    ·have h4:¬ i≤((dl.length:Nat):Int):=yx (nt h4)
     exact⟨sm (by decide),fo (q2 (if_neg fun z=>h4 z.2))⟩
    ·have h4:i≤((dl.length:Nat):Int):=zH (nf h4)
     exact⟨_,rfl,fo (q1 i (if_pos ⟨h3,h4⟩))⟩
   ·have h3:¬ 0≤i:=yx h3
    exact⟨_,rfl,fI ⟨sm (by decide),fo (q2 (if_neg fun z=>h3 z.1))⟩⟩
theorem jA (T:Txt w K mg t):Ok P w base T.bA 1 (fun ds S R _=>∃ l tG m,ds=[.ref l,.int m]∧S l=some (.lst (tG.map jz))∧R (wt tG m) S):=by
 refine T.bA.F.ok jv (by rintro ds S R Z ⟨_,_,_,e,_⟩;rw[e];rfl) ?_
 rintro bq A outer s H E ds S R Z hr ⟨l,tG,m,e,hl,q⟩
 subst e
 refine⟨_,(sc (HC (HB (ZN T.qx (ac (dv 0) an)) (gn (i:=2) jv.nd) (s1 (si (cJ kE hr.units (ix hr.units (dv 2) di) (dv 1)) (s1 (sr (XH (twd (twor (cJ rM hr.units (ix hr.units (dv 2) di) dn) (tw1 (cJ kE hr.units (dv 1) (ix hr.units (dv 2) di))))) (ix hr.units (dv 2) di) dn))) s0)))) (s1 (sr dn))),?_⟩
 refine⟨fun aK S'=>S'=S∧wt tG m=.aw,?_,?_⟩
 ·refine⟨_,rfl,_,_,rfl,hl,?_⟩
  refine⟨fun i aK S'=>(∃ o,aK=[some (.ref l),some (.int m),o])∧S'=S∧wt tG m=Gx (tG.reverse.drop i) m,⟨⟨none,rfl⟩,rfl,by rw[List.drop_zero];rfl⟩,fun i aK S' h=>by rw[h.2.1];exact hl,?_,?_⟩
  ·rintro i d aK S' hd ⟨⟨o,rfl⟩,rfl,hw⟩
   rw[← List.map_reverse,zx] at hd
   cases e1:tG.reverse[i]? with
   | none=>rw[e1] at hd;cases hd
   | some sd =>
    rw[e1] at hd;cases hd
    have e2:tG.reverse.drop i=sd :: tG.reverse.drop (i+1):=by
     obtain⟨hi,e⟩:=zo.mp e1
     rw[List.drop_eq_getElem_cons hi,e]
    obtain⟨sb,se,sw⟩:=sd
    rw[e2] at hw
    refine⟨_,rfl,_,rfl,_,rfl,_,rfl,?_⟩
    unfold Gx at hw
    refine dw (fun h=>?_) (fun h=>?_)
    ·rw[if_pos (zH h)] at hw
     refine⟨_,rfl,_,rfl,_,rfl,?_⟩
     cases se with
     | none =>
      refine fI (fI ⟨_,rfl,_,rfl,?_⟩)
      rw[hw] at q
      exact fo q
     | some n =>
      refine bI ⟨_,rfl,_,rfl,_,rfl,_,rfl,?_⟩
      dsimp only at hw
      refine dw (fun h=>?_) (fun h=>?_)
      ·rw[if_pos (zH h)] at hw
       rw[hw] at q
       exact⟨_,rfl,_,rfl,fo q⟩
      ·rw[if_neg (yx h)] at hw
       rw[hw] at q
       exact fo q
    ·rw[if_neg (yx h)] at hw
     exact⟨⟨_,rfl⟩,rfl,hw⟩
  ·rintro aK S' ⟨_,rfl,hw⟩
   refine fo ⟨rfl,?_⟩
   rw[hw,yt,zc,List.drop_eq_nil_of_le (by rw[yt];exact zm _)]
   rfl
 ·rintro aK S' ⟨rfl,hw⟩
  rw[hw] at q
  exact fo q
def rl (rs:uX) (k:D) (i:Int):D:=match k with
 | .str z=>if fZ z=true then wt ((lu rs z).getD []) i else .aw
 | _=>.aw
def RE (C N:Addr):gN:=fun ds S R Z=>∃ a F cs dl rs k m,ds=[.ref a,k,m]∧br C S a F cs dl rs∧Gt S k∧Gt S m∧(∀ i,sv dl.length m=some i→R (rl rs k i) S)∧(sv dl.length m=none→Z N S)
theorem mm (T:Txt w K mg t):ip P w mg base T.bM 3 (RE t.ah t.eK):=by
 have cM:ip P w mg base T.aN 2 _:=iS T
 have fQ:Ok P w base T.cE 2 (nC (ofStr fZ)):=jX T
 have gI:Ok P w base T.bA 1 _:=jA T
 refine T.bM.F.ok fP (by rintro ds S R Z ⟨_,_,_,_,_,_,_,e,_⟩;rw[e];rfl) ?_
 rintro bq A outer s H E ds S R Z hr ⟨a,F,cs,dl,rs,k,m,e,hS,hk,hm,q1,q2⟩
 subst e
 obtain⟨ld,lr,ra,h,hF,rf⟩:=id hS
 refine⟨_,(sc (hX (i:=3) fP.nd (rN (dv 0) T.aq T.aN.e (cM.mono (by decide)) hr T.aN.b d0 (ac (dv 2) an))) (sc (si (dM (tv (cf (fQ.mono (by decide)) hr T.cE.m T.cE.k T.cE.b d0 (ac (dv 1) an)))) (s1 (sr dn)) s0) (s1 (sr (cf (gI.mono (by decide)) hr T.bA.m T.bA.k T.bA.b d0 (ac (ZG hr.units (fl T.aq T.bQ (dv 0)) (dv 1) (fY an)) (ac (dv 3) an))))))),?_⟩
 refine⟨_,rfl,a,_,rfl,h.ins,rfl,_,rfl,a,F,cs,dl,rs,m,rfl,hS,hm,fun i hi=>?_,fun hn=>fo (q2 hn)⟩
 have q:=q1 i hi
 refine⟨_,rfl,k,rfl,hk,_,rfl,?_⟩
 refine dw (fun h1=>?_) (fun h1=>?_)
 ·have e:rl rs k i=.aw:=by
   cases k with
   | str z=>exact if_neg (by rw[show fZ z=false from nt h1];exact zd)
   | _=>rfl
  rw[e] at q
  exact fo q
 ·have h1:=nf h1
  obtain⟨z,rfl⟩:∃ z,k=.str z:=by
   cases k with
   | str z=>exact⟨z,rfl⟩
   | _=>cases h1
  have e:rl rs (.str z) i=wt ((lu rs z).getD []) i:=if_pos h1
  rw[e] at q
  refine⟨_,rfl,a,_,_,rfl,h.ins,rfl,lr,_,rfl,h.run,_,rfl,sm (by decide),fun p hp=>⟨dZ ra,.inr z,?_,rfl,?_⟩⟩
  ·rw[ag (fU h.run hp)];exact h.run
  ·rw[hG]
   refine⟨_,rfl,?_⟩
   cases e1:rh ra z with
   | none =>
    have e2:lu rs z=none:=by rw[rf,gH,e1];rfl
    rw[e2] at q
    exact⟨p,[],i,rfl,af,S,.new hp,q⟩
   | some ls =>
    obtain⟨l,tG⟩:=ls
    have e2:lu rs z=some tG:=by rw[rf,gH,e1];rfl
    rw[e2] at q
    have hc:=h.cell _ (dq e1)
    exact⟨l,tG,i,rfl,by rw[ag (fU hc hp)];exact hc,S,.new hp,q⟩
theorem Ld (h:rh ra k=some (l,s)):AA (g_ ra) k s'=g_ (rj ra k s'):=by
 unfold AA
 rw[gH,h,if_pos (show (Option.map (fun x:Addr×List Std=>x.2) (some (l,s))).isSome=true from rfl)]
 unfold g_ rj
 rw[zw,zw]
 exact zW fun r _=>by dsimp only [Function.comp];split <;> rfl
theorem NQ (h:rh ra k=none):AA (g_ ra) k s=g_ (ra++[(k,l,s)]):=by
 unfold AA
 rw[gH,h,if_neg (show ¬ (Option.map (fun x:Addr×List Std=>x.2) none).isSome=true from zd)]
 unfold g_
 rw[zF];rfl
theorem NR (h:rh ra k=none):dput (dZ ra) (.inr k) (.ref l)=dZ (ra++[(k,l,s)]):=by
 unfold dput
 have e:((dZ ra).any fun kv=>decide (kv.1=.inr k))=false:=by
  rw[List.any_eq_false]
  intro x hx
  unfold dZ at hx
  obtain⟨r,hr,rfl⟩:=zi.mp hx
  simp only [yq]
  exact fun e=>ml h r hr (yD e)
 rw[e,if_neg zd]
 unfold dZ
 rw[zF];rfl
theorem Gy:fp a ld lr (rj ra k s)=fp a ld lr ra:=by
 unfold fp rj
 rw[zw]
 congr 3
 exact zW fun r _=>by dsimp only [Function.comp];split <;> rfl
theorem qG (h:l∈F):vn F F S (S.set l c):=fun b x hb e=>⟨hb,by rw[ag (show b≠l from fun z=>hb (by rw[z];exact h))];exact e⟩
theorem Gz (h:r∈ra):r.2.1∈fp a ld lr ra:=zg _ (zg _ (zg _ (zi.mpr ⟨r,h,rfl⟩)))
def JE (C:Addr):gN:=fun ds S R _=>∃ a F cs dl rs z ws,ds=[.ref a,.str z,.tup ws]∧br C S a F cs dl rs∧((lu rs z).getD []).length<dl.length∧dl.length≤9000∧rs.length≤9000 ∧
 ∀ S' F',br C S' a F' cs dl (AA rs z ((lu rs z).getD []++[Std.mk dl.length none ws]))→vn F F' S S'→R .aw S'
theorem wW (T:Txt w K mg t):ip P w mg base T.aG 2 (JE t.ah):=by
 have dJ:ip P w mg base T.bD 1 (BK t.ah):=AE T
 refine T.aG.F.ok g9 (by rintro ds S R Z ⟨_,_,_,_,_,_,_,e,_⟩;rw[e];rfl) ?_
 rintro bq A outer s H E ds S R Z hr ⟨a,F,cs,dl,rs,z,ws,e,⟨ld,lr,ra,h,hF,rf⟩,hl,hd,hn,q⟩
 subst e hF rf
 have Hy:(dZ ra).length≤9000:=by unfold g_ at hn;unfold dZ;rw[zc] at hn ⊢;exact hn
 refine⟨_,(s1 (se (bm zL zZ z0 dN (ZI (fl T.aq T.bQ (dv 0)) (dv 1) (fY an)) (ac (gB (ac (rO (dv 0) T.aq T.bD.e (dJ.mono (by decide)) hr T.bD.b d0) (ac dn (ac (dv 2) an)))) an)))),?_⟩
 refine⟨_,rfl,a,_,_,rfl,h.ins,rfl,lr,dZ ra,rfl,h.run,_,rfl,sm (by decide),fun p hp=>⟨dZ ra,.inr z,?_,rfl,bg (by omega),fun d HK=>?_,fun hn=>?_⟩⟩
 ·rw[ag (fU h.run hp)];exact h.run
 ·rw[hG] at HK
  cases e1:rh ra z with
  | none=>rw[e1] at HK;cases HK
  | some ls =>
   obtain⟨l,tG⟩:=ls
   rw[e1] at HK;cases HK
   have e2:lu (g_ ra) z=some tG:=by rw[gH,e1];rfl
   rw[e2] at q hl
   have hc:=h.cell _ (dq e1)
   have Eg:(S.set p (.lst [])) l=some (.lst (tG.map jz)):=by rw[ag (fU hc hp)];exact hc
   have Yg:(S.set p (.lst [])) a=some (.ins t.ah [("columns",.tup (cs.map aB)),("deeds",.ref ld),("runs",.ref lr)]):=by rw[ag (fU h.ins hp)];exact h.ins
   have oa:AB t.ah (S.set p (.lst [])) a ld lr cs dl ra:=⟨Yg,by rw[ag (fU h.vm hp)];exact h.vm,by rw[ag (fU h.run hp)];exact h.run,fun r hr=>by rw[ag (fU (h.cell r hr) hp)];exact h.cell r hr,h.kn,h.an,h.sz⟩
   refine⟨⟨rfl,_,Eg⟩,_,rfl,a,_,rfl,Yg,rfl,a,_,cs,dl,_,rfl,⟨ld,lr,ra,oa,rfl,rfl⟩,_,rfl,nB,?_⟩
   have hle:tG.length<dl.length:=hl
   refine⟨l,tG.map jz,_,rfl,rfl,Eg,bg (by rw[zc];omega),S.set l (.lst ((tG++[Std.mk dl.length none ws]).map jz)),fun b c hb=>?_,q _ _ ⟨ld,lr,_,h.put e1 (by rw[zC];show tG.length+1≤_;omega),rfl,Ld e1⟩ ?_⟩
   ·by_cases Ws:b=l
    ·subst Ws;rw[af] at hb ⊢;rw[zF] at hb;exact hb
    ·rw[ag Ws] at hb
     rw[ag Ws,ag (fU hb hp)];exact hb
   ·rw[Gy];exact qG (Gz (dq e1))
 ·rw[hG] at hn
  cases e1:rh ra z with
  | some ls=>rw[e1] at hn;cases hn
  | none =>
   have e2:lu (g_ ra) z=none:=by rw[gH,e1];rfl
   rw[e2] at q hl
   have Yh:p≠lr:=(fU h.run hp).symm
   generalize BL:(S.set p (.lst [])).set lr _=S1
   have Wt:S1 p=some (.lst []):=by rw[← BL,ag Yh,af]
   have Yi:S1 lr=some (.du (dZ (ra++[(z,p,[])]))):=by rw[← BL,af,NR e1]
   have Wu:∀ b,b≠p→b≠lr→S1 b=S b:=fun b h1 h2=>by rw[← BL,ag h2,ag h1]
   have oa:AB t.ah S1 a ld lr cs dl (ra++[(z,p,[])]):=h.add e1 hp (yj _) Wt Yi Wu
   refine⟨⟨rfl,_,Wt⟩,_,rfl,a,_,rfl,oa.ins,rfl,a,_,cs,dl,_,rfl,⟨ld,lr,_,oa,rfl,rfl⟩,_,rfl,nB,?_⟩
   refine⟨p,[],_,rfl,rfl,Wt,bg (by show 0≤_;omega),S1.set p (.lst ([Std.mk dl.length none ws].map jz)),.refl _,q _ _ ⟨ld,lr,ra++[(z,p,[Std.mk dl.length none ws])],h.add e1 hp (by show 1≤_;have:0<dl.length:=hl;omega) af ?_ (fun b h1 h2=>by rw[ag h1];exact Wu b h1 h2),rfl,NQ e1⟩ ?_⟩
   ·rw[ag Yh.symm,Yi];unfold dZ;rw[zF,zF];rfl
   ·intro b c hb e
    have h1:b≠p:=fU e hp
    have h2:b≠lr:=fun z=>hb (by rw[z];exact zg _ (zg _ zu))
    refine⟨fun m=>?_,by rw[ag h1,Wu b h1 h2];exact e⟩
    unfold fp at m hb
    rw[zF] at m
    rcases ze.mp m with m | m
    ·exact hb (m ▸ zu)
    ·rcases ze.mp m with m | m
     ·exact hb (m ▸ zg _ zu)
     ·rcases ze.mp m with m | m
      ·exact h2 m
      ·rcases zI.mp m with m | m
       ·exact hb (zg _ (zg _ (zg _ m)))
       ·exact h1 (zE.mp m)
def iF (n:Nat) (l:List Std):List Std:=l.dropLast++(l.getLast?.map fun s=>Std.mk s.b (some n) s.ws).toList
def k9 (rs:uX) (z:Str) (n:Nat):uX:=AA rs z (iF n ((lu rs z).getD []))
def oS (rs:uX) (z:Str) (n:Nat) (ws:List D):uX:=AA rs z ((lu rs z).getD []++[Std.mk n none ws])
theorem GA (h:br C S a F cs dl rs) (z:Str):((lu rs z).getD []).length≤dl.length:=by
 obtain⟨ld,lr,ra,h,_,rfl⟩:=h
 rw[gH]
 cases e:rh ra z with
 | none=>exact yj _
 | some ls=>exact h.sz _ (dq (l:=ls.1) (s:=ls.2) e)
theorem JF (rs:uX) (z:Str) (s:List Std):(AA rs z s).length≤rs.length+1:=by
 unfold AA
 split
 ·rw[zc];omega
 ·rw[zC];exact zm _
theorem fu:lu (r :: rs) k=if r.1=k then some r.2 else lu rs k:=by
 unfold lu
 rw[zQ]
 by_cases h:r.1=k
 ·rw[zt h,if_pos h];rfl
 ·rw[zq h,if_neg h]
theorem jB:lu (AA rs z s) k=if k=z then some s else lu rs k:=by
 unfold AA
 by_cases hs:(lu rs z).isSome=true
 ·rw[if_pos hs]
  by_cases hk:k=z
  ·subst hk
   rw[if_pos rfl]
   induction rs with
   | nil=>cases hs
   | cons r rs ih =>
    rw[zA,fu]
    by_cases h:r.1=k
    ·rw[if_pos h,if_pos h]
    ·rw[if_neg h,if_neg h]
     rw[fu,if_neg h] at hs
     exact ih hs
  ·rw[if_neg hk]
   clear hs
   induction rs with
   | nil=>rfl
   | cons r rs ih =>
    rw[zA,fu,fu,ih]
    by_cases h:r.1=z
    ·rw[if_pos h,if_neg (show ¬ r.1=k from fun e=>hk (e.symm.trans h)),if_neg (show ¬ r.1=k from fun e=>hk (e.symm.trans h))]
    ·rw[if_neg h]
 ·rw[if_neg hs]
  have hn:lu rs z=none:=by cases e:lu rs z <;> simp_all
  clear hs
  induction rs with
  | nil =>
   rw[List.nil_append,fu]
   by_cases hk:k=z
   ·rw[if_pos hk,if_pos hk.symm]
   ·rw[if_neg hk,if_neg fun e=>hk e.symm]
  | cons r rs ih =>
   rw[fu] at hn
   by_cases h:r.1=z
   ·rw[if_pos h] at hn;cases hn
   ·rw[if_neg h] at hn
    rw[List.cons_append,fu,fu,ih hn]
    by_cases h2:r.1=k
    ·rw[if_pos h2,if_pos h2,if_neg (show ¬ k=z from fun e=>h (h2.trans e))]
    ·rw[if_neg h2,if_neg h2]
def RF (C:Addr):gN:=fun ds S R _=>∃ a F cs dl rs z,ds=[.ref a,.str z]∧br C S a F cs dl rs∧(∃ s,lu rs z=some s∧s≠[])∧dl.length≤9000 ∧
 ∀ S',br C S' a F cs dl (k9 rs z dl.length)→vn F F S S'→R .aw S'
theorem jY (h:l≠[]):∃ r s,l=r++[s]:=⟨l.dropLast,l.getLast h,(List.dropLast_concat_getLast h).symm⟩
theorem eW (n:Nat) (r:List Std) (s:Std):iF n (r++[s])=r++[Std.mk s.b (some n) s.ws]:=by
 unfold iF
 rw[List.dropLast_concat,List.getLast?_concat];rfl
theorem GB (T:Txt w K mg t):ip P w mg base T.aM 2 (RF t.ah):=by
 have dJ:ip P w mg base T.bD 1 (BK t.ah):=AE T
 refine T.aM.F.ok eE (by rintro ds S R Z ⟨_,_,_,_,_,_,e,_⟩;rw[e];rfl) ?_
 rintro bq A outer s H E ds S R Z hr ⟨a,F,cs,dl,rs,z,e,⟨ld,lr,ra,h,hF,rf⟩,⟨s0,OG,GC⟩,hd,q⟩
 subst e hF rf
 rw[gH] at OG
 cases e1:rh ra z with
 | none=>rw[e1] at OG;cases OG
 | some ls =>
  obtain⟨l,tG⟩:=ls
  rw[e1] at OG;cases OG
  obtain⟨r,sd,rfl⟩:=jY GC
  have hlen:=h.sz _ (dq e1)
  dsimp only at hlen
  rw[zC] at hlen
  have hlen:r.length+1≤dl.length:=hlen
  have hc:=h.cell _ (dq e1)
  dsimp only at hc
  have ed:cz (dZ ra) (.inr z)=some (.ref l):=by rw[hG,e1];rfl
  refine⟨_,(sc (hX (i:=2) eE.nd (ZC zL PySem.F.slot_list_pop PySem.F.type_list_pop QI (ix hr.units (fl T.aq T.bQ (dv 0)) (dv 1)))) (s1 (se (bm zL zZ z0 dN (ix hr.units (fl T.aq T.bQ (dv 0)) (dv 1)) (ac (gB (ac (ix hr.units (dv 2) di) (ac (rO (dv 0) T.aq T.bD.e (dJ.mono (by decide)) hr T.bD.b d0) (ac (ix hr.units (dv 2) di) an)))) an))))),?_⟩
  refine⟨_,rfl,a,_,_,rfl,h.ins,rfl,_,rfl,dZ ra,_,h.run,ed,⟨rfl,_,hc⟩,l,_,jz sd,rfl,rfl,hc,?_,?_⟩
  ·rw[zF,zC];show (r.map jz++[jz sd])[(r.map jz).length+1 - 1]?=_;simp
  have e2:((r++[sd]).map jz).dropLast=r.map jz:=by rw[zF];exact List.dropLast_concat
  rw[e2]
  have h1:AB t.ah (S.set l (.lst (r.map jz))) a ld lr cs dl (rj ra z r):=h.put e1 (by omega)
  generalize BL:S.set l _=S1 at h1
  have Wv:rh (rj ra z r) z=some (l,r):=by
   have hm:(z,l,r)∈rj ra z r:=by unfold rj;exact zi.mpr ⟨_,dq e1,if_pos rfl⟩
   cases e3:rh (rj ra z r) z with
   | none=>exact absurd rfl (ml e3 _ hm)
   | some x=>exact congrArg some (congrArg Prod.snd (iE (f:=fun r:Str×Addr×List Std=>r.1) h1.kn (dq (l:=x.1) (s:=x.2) e3) hm rfl))
  have ed':cz (dZ (rj ra z r)) (.inr z)=some (.ref l):=by rw[hG,Wv];rfl
  have Tj:=h1.cell _ (dq Wv)
  refine⟨_,rfl,a,_,_,rfl,h1.ins,rfl,_,rfl,_,_,h1.run,ed',⟨rfl,_,Tj⟩,_,rfl,_,rfl,_,rfl,a,_,rfl,h1.ins,rfl,a,_,cs,dl,_,rfl,⟨ld,lr,_,h1,rfl,rfl⟩,_,rfl,_,rfl,nB,l,_,_,rfl,rfl,Tj,bg (by rw[zc];show r.length≤_;omega),?_⟩
  have h2:=h1.put (s':=r++[Std.mk sd.b (some dl.length) sd.ws]) Wv (by rw[zC];exact hlen)
  have e4:k9 (g_ ra) z dl.length=g_ (rj (rj ra z r) z (r++[Std.mk sd.b (some dl.length) sd.ws])):=by
   unfold k9
   rw[gH,e1]
   show AA (g_ ra) z (iF dl.length (r++[sd]))=_
   rw[eW,Ld e1]
   unfold g_ rj
   rw[zw,zw,zw]
   exact zW fun x _=>by dsimp only [Function.comp];by_cases hx:x.1=z <;> simp [hx]
  refine⟨_,?_,q _ ⟨ld,lr,_,h2,by rw[Gy,Gy],e4⟩ ?_⟩
  ·show Sub (S1.set l (.lst ((r++[_]).map jz))) (S1.set l (.lst (r.map jz++[_])))
   rw[zF];exact .refl _
  ·rw[← BL,eF];exact qG (Gz (dq e1))
theorem BM (h:ofStr fZ d=true):∃ z,d=.str z∧fZ z=true:=by
 cases d with
 | str z=>exact⟨z,rfl,h⟩
 | _=>cases h
theorem BN (h:iD cs k v=true):∃ z ws,k=.str z∧v=.tup ws∧fZ z=true:=by
 unfold iD at h
 rw[zN] at h
 obtain⟨z,rfl,hz⟩:=BM h.1
 cases v with
 | tup ws=>exact⟨z,ws,rfl,rfl,hz⟩
 | _=>exact absurd h.2 zd
theorem uY:Gt S .aw:=⟨⟨.aw,rfl⟩,fun _=>nofun⟩
theorem Le (h:aj (wt l m)=false):l≠[]:=by
 rintro rfl
 cases h
theorem uZ (hz:fZ z=true) (i:Int):rl rs (.str z) i=wt ((lu rs z).getD []) i:=if_pos hz
theorem iT (T:Txt w K mg t):ip P w mg base T.aL 4 (fun ds S R Z=>∃ a F cs dl rs k,ds=[.ref a,k]∧br t.ah S a F cs dl rs∧Gt S k ∧
  (aj (rl rs k dl.length)=false→R .aw S)∧(aj (rl rs k dl.length)=true→Z t.iA S)):=by
 have d_:ip P w mg base T.bM 3 _:=mm T
 refine T.aL.F.ok iX (by rintro ds S R Z ⟨_,_,_,_,_,_,e,_⟩;rw[e];rfl) ?_
 rintro bq A outer s H E ds S R Z hr ⟨a,F,cs,dl,rs,k,e,hS,hk,q1,q2⟩
 subst e
 obtain⟨ld,lr,ra,h,_⟩:=id hS
 refine⟨_,(s1 (si (cJ rM hr.units (rN (dv 0) T.aq T.bM.e (d_.mono (by decide)) hr T.fj d1 (ac (dv 1) an)) dn) (s1 (ug ⟨T.uL⟩ T.Gq (ac ds an))) s0)),?_⟩
 refine⟨_,rfl,a,_,rfl,h.ins,rfl,_,rfl,a,F,cs,dl,rs,k,.aw,rfl,hS,hk,uY,fun i hi=>?_,fun hn=>by cases hn⟩
 cases hi
 refine⟨_,rfl,?_⟩
 refine dw (fun h1=>?_) (fun h1=>?_)
 ·exact⟨so,fo (q2 h1)⟩
 ·exact fo (q1 h1)
theorem NS (T:Txt w K mg t):ip P w mg base T.cS 6 (fun ds S R Z=>∃ a F cs dl rs k v,ds=[.ref a,k,v]∧br t.ah S a F cs dl rs∧cs.length≤8∧Gt S k∧Lb S v∧dl.length≤8000∧rs.length≤8000 ∧
  (iD cs k v=false→Z t.dR S)∧(iD cs k v=true→aj (rl rs k dl.length)=false→Z t.lW S) ∧
  (∀ z ws,k=.str z→v=.tup ws→iD cs k v=true→aj (rl rs k dl.length)=true→∀ S' F',br t.ah S' a F' cs (dl++[.tup [.str "put",k,v]]) (oS rs z (dl.length+1) ws)→vn F F' S S'→R .aw S')):=by
 have d_:ip P w mg base T.bM 3 _:=mm T
 have jC:Ok P w base T.cC 5 _:=mi T
 have cu:ip P w mg base T.aG 2 _:=wW T
 refine T.cS.F.ok uS (by rintro ds S R Z ⟨_,_,_,_,_,_,_,e,_⟩;rw[e];rfl) ?_
 rintro bq A outer s H E ds S R Z hr ⟨a,F,cs,dl,rs,k,v,e,hS,hc,hk,hv,hd,hn,q1,q2,q3⟩
 subst e
 obtain⟨ld,lr,ra,h,hF,rf⟩:=id hS
 refine⟨_,(sc (se (cf (jC.mono (by decide)) hr T.cC.m T.cC.k T.cC.b d0 (ac (fl T.aq T.cU (dv 0)) (ac (gB (ac (dv 1) (ac (dv 2) an))) an)))) (sc (si (cJ mO hr.units (rN (dv 0) T.aq T.bM.e (d_.mono (by decide)) hr T.fj d1 (ac (dv 1) an)) dn) (s1 (ug ⟨T.qy⟩ T.Du (ac ds an))) s0) (sc (se (bm zL zZ z0 dN (fl T.aq T.cL (dv 0)) (ac (gB (ac ds (ac (dv 1) (ac (dv 2) an)))) an))) (s1 (se (rN (dv 0) T.aq T.aG.e (cu.mono (by decide)) hr T.aG.b d0 (ac (dv 1) (ac (dv 2) an)))))))),?_⟩
 refine⟨_,rfl,a,_,_,rfl,h.ins,rfl,_,rfl,_,rfl,eV,cs,k,v,rfl,hc,hk,hv,fun JG=>?_,fun vo=>fo (q1 vo)⟩
 refine⟨_,rfl,a,_,rfl,h.ins,rfl,_,rfl,a,F,cs,dl,rs,k,.aw,rfl,hS,hk,uY,fun i hi=>?_,fun hn=>by cases hn⟩
 cases hi
 refine⟨_,rfl,?_⟩
 refine dw (fun h1=>?_) (fun h1=>?_)
 ·exact⟨so,fo (q2 JG (nt h1))⟩
 ·obtain⟨z,ws,rfl,rfl,hz⟩:=BN JG
  refine⟨_,rfl,a,_,_,rfl,h.ins,rfl,⟨rfl,_,h.vm⟩,_,rfl,_,rfl,nB,ld,dl,_,rfl,rfl,h.vm,bg (by omega),?_⟩
  have CD:=h.NP (.tup [.str "put",.str z,.tup ws])
  have BL:br t.ah (S.set ld (.lst (dl++[.tup [.str "put",.str z,.tup ws]]))) a F cs (dl++[.tup [.str "put",.str z,.tup ws]]) rs:=⟨ld,lr,ra,CD,hF,rf⟩
  have hl:=GA hS z
  refine⟨_,rfl,a,_,rfl,CD.ins,rfl,_,rfl,_,rfl,a,F,cs,_,rs,z,ws,rfl,BL,by rw[zC];exact Nat.lt_succ_of_le hl,by rw[zC];show dl.length+1≤_;omega,by omega,fun S' F' oa hK=>fo (q3 z ws rfl rfl JG (nf h1) S' F' ?_ ?_)⟩
  ·have:(dl++[D.tup [.str "put",.str z,.tup ws]]).length=dl.length+1:=zC
   rw[this] at oa;exact oa
  ·refine vn.trans (qG ?_) hK
   rw[hF];exact zg _ zu
theorem DM (T:Txt w K mg t):ip P w mg base T.bw 6 (fun ds S R Z=>∃ a F cs dl rs k v,ds=[.ref a,k,v]∧br t.ah S a F cs dl rs∧cs.length≤8∧Gt S k∧Lb S v∧dl.length≤8000∧rs.length≤8000 ∧
  (iD cs k v=false→Z t.dR S)∧(iD cs k v=true→aj (rl rs k dl.length)=true→Z t.iA S) ∧
  (∀ z ws,k=.str z→v=.tup ws→iD cs k v=true→aj (rl rs k dl.length)=false→∀ S' F',br t.ah S' a F' cs (dl++[.tup [.str "change",k,v]]) (oS (k9 rs z dl.length) z (dl.length+1) ws)→vn F F' S S'→R .aw S')):=by
 have cN:ip P w mg base T.aL 4 _:=iT T
 have jC:Ok P w base T.cC 5 _:=mi T
 have cu:ip P w mg base T.aG 2 _:=wW T
 have cO:ip P w mg base T.aM 2 _:=GB T
 refine T.bw.F.ok oQ (by rintro ds S R Z ⟨_,_,_,_,_,_,_,e,_⟩;rw[e];rfl) ?_
 rintro bq A outer s H E ds S R Z hr ⟨a,F,cs,dl,rs,k,v,e,hS,hc,hk,hv,hd,hn,q1,q2,q3⟩
 subst e
 obtain⟨ld,lr,ra,h,hF,rf⟩:=id hS
 refine⟨_,(sc (se (cf (jC.mono (by decide)) hr T.cC.m T.cC.k T.cC.b d0 (ac (fl T.aq T.cU (dv 0)) (ac (gB (ac (dv 1) (ac (dv 2) an))) an)))) (sc (se (rN (dv 0) T.aq T.aL.e (cN.mono (by decide)) hr T.aL.b d0 (ac (dv 1) an))) (sc (se (rN (dv 0) T.aq T.aM.e (cO.mono (by decide)) hr T.aM.b d0 (ac (dv 1) an))) (sc (se (bm zL zZ z0 dN (fl T.aq T.cL (dv 0)) (ac (gB (ac ds (ac (dv 1) (ac (dv 2) an)))) an))) (s1 (se (rN (dv 0) T.aq T.aG.e (cu.mono (by decide)) hr T.aG.b d0 (ac (dv 1) (ac (dv 2) an))))))))),?_⟩
 refine⟨_,rfl,a,_,_,rfl,h.ins,rfl,_,rfl,_,rfl,eV,cs,k,v,rfl,hc,hk,hv,fun JG=>?_,fun vo=>fo (q1 vo)⟩
 refine⟨_,rfl,a,_,rfl,h.ins,rfl,_,rfl,a,F,cs,dl,rs,k,rfl,hS,hk,fun h1=>?_,fun h1=>fo (q2 JG h1)⟩
 obtain⟨z,ws,rfl,rfl,hz⟩:=BN JG
 have GC:∃ s,lu rs z=some s∧s≠[]:=by
  rw[uZ hz] at h1
  have:=Le h1
  cases e:lu rs z with
  | none=>rw[e] at this;exact absurd rfl this
  | some s=>rw[e] at this;exact⟨s,rfl,this⟩
 refine⟨_,rfl,a,_,rfl,h.ins,rfl,_,rfl,a,F,cs,dl,rs,z,rfl,hS,GC,by omega,fun S1 BL OW=>?_⟩
 obtain⟨OX,Ww,Wx,CD,RG,NT⟩:=id BL
 refine⟨_,rfl,a,_,_,rfl,CD.ins,rfl,⟨rfl,_,CD.vm⟩,_,rfl,_,rfl,nB,OX,dl,_,rfl,rfl,CD.vm,bg (by omega),?_⟩
 have h2:=CD.NP (.tup [.str "change",.str z,.tup ws])
 have BO:br t.ah (S1.set OX (.lst (dl++[.tup [.str "change",.str z,.tup ws]]))) a F cs (dl++[.tup [.str "change",.str z,.tup ws]]) (k9 rs z dl.length):=⟨OX,Ww,Wx,h2,RG,NT⟩
 have hl:=GA BL z
 have FD:(k9 rs z dl.length).length≤rs.length+1:=JF _ _ _
 refine⟨_,rfl,a,_,rfl,h2.ins,rfl,_,rfl,_,rfl,a,F,cs,_,_,z,ws,rfl,BO,by rw[zC];exact Nat.lt_succ_of_le hl,by rw[zC];show dl.length+1≤_;omega,by omega,fun S' F' oa hK=>fo (q3 z ws rfl rfl JG h1 S' F' ?_ ?_)⟩
 ·have:(dl++[D.tup [.str "change",.str z,.tup ws]]).length=dl.length+1:=zC
  rw[this] at oa;exact oa
 ·refine OW.trans (vn.trans (qG ?_) hK)
  rw[RG];exact zg _ zu
theorem JH (T:Txt w K mg t):ip P w mg base T.cq 6 (fun ds S R Z=>∃ a F cs dl rs k,ds=[.ref a,k]∧br t.ah S a F cs dl rs∧Gt S k∧dl.length≤8000 ∧
  (ofStr fZ k=false→Z t.dR S)∧(ofStr fZ k=true→aj (rl rs k dl.length)=true→Z t.iA S) ∧
  (∀ z,k=.str z→fZ z=true→aj (rl rs k dl.length)=false→∀ S',br t.ah S' a F cs (dl++[.tup [.str "take",k]]) (k9 rs z dl.length)→vn F F S S'→R .aw S')):=by
 have cN:ip P w mg base T.aL 4 _:=iT T
 have fQ:Ok P w base T.cE 2 (nC (ofStr fZ)):=jX T
 have cO:ip P w mg base T.aM 2 _:=GB T
 refine T.cq.F.ok sj (by rintro ds S R Z ⟨_,_,_,_,_,_,e,_⟩;rw[e];rfl) ?_
 rintro bq A outer s H E ds S R Z hr ⟨a,F,cs,dl,rs,k,e,hS,hk,hd,q1,q2,q3⟩
 subst e
 obtain⟨ld,lr,ra,h,hF,rf⟩:=id hS
 refine⟨_,(sc (si (dM (tv (cf (fQ.mono (by decide)) hr T.cE.m T.cE.k T.cE.b d0 (ac (dv 1) an)))) (s1 (ug ⟨T.g7⟩ T.jV (ac ds an))) s0) (sc (se (rN (dv 0) T.aq T.aL.e (cN.mono (by decide)) hr T.aL.b d0 (ac (dv 1) an))) (sc (se (rN (dv 0) T.aq T.aM.e (cO.mono (by decide)) hr T.aM.b d0 (ac (dv 1) an))) (s1 (se (bm zL zZ z0 dN (fl T.aq T.cL (dv 0)) (ac (gB (ac ds (ac (dv 1) an))) an))))))),?_⟩
 refine⟨_,rfl,k,rfl,hk,_,rfl,?_⟩
 refine dw (fun h0=>?_) (fun h0=>?_)
 ·exact⟨so,fo (q1 (nt h0))⟩
 ·have h0:=nf h0
  refine⟨_,rfl,a,_,rfl,h.ins,rfl,_,rfl,a,F,cs,dl,rs,k,rfl,hS,hk,fun h1=>?_,fun h1=>fo (q2 h0 h1)⟩
  obtain⟨z,rfl,hz⟩:=BM h0
  have GC:∃ s,lu rs z=some s∧s≠[]:=by
   rw[uZ hz] at h1
   have:=Le h1
   cases e:lu rs z with
   | none=>rw[e] at this;exact absurd rfl this
   | some s=>rw[e] at this;exact⟨s,rfl,this⟩
  refine⟨_,rfl,a,_,rfl,h.ins,rfl,_,rfl,a,F,cs,dl,rs,z,rfl,hS,GC,by omega,fun S1 BL OW=>?_⟩
  obtain⟨OX,Ww,Wx,CD,RG,NT⟩:=id BL
  refine⟨_,rfl,a,_,_,rfl,CD.ins,rfl,⟨rfl,_,CD.vm⟩,_,rfl,eV,OX,dl,_,rfl,rfl,CD.vm,bg (by omega),?_⟩
  refine fo (q3 z rfl hz h1 _ ⟨OX,Ww,Wx,CD.NP _,RG,NT⟩ (OW.trans (qG ?_)))
  rw[RG];exact zg _ zu
theorem JI (T:Txt w K mg t):ip P w mg base T.dS 5 (fun ds S R _=>∃ a cs,ds=[.ref a,.tup (cs.map aB)]∧Gd cs∧S a=some (.ins t.ah [])∧∀ S' F,br t.ah S' a F cs [] []→vn [a] F S S'→R .aw S'):=by
 have oT:Ok P w base T.cB 4 _:=nG T
 refine T.dS.F.ok me (by rintro ds S R Z ⟨_,_,e,_⟩;rw[e];rfl) ?_
 rintro bq A outer s H E ds S R Z hr ⟨a,cs,e,hg,ha,q⟩
 subst e
 refine⟨_,(sc (se (cf (oT.mono (by decide)) hr T.cB.m T.cB.k T.cB.b d0 (ac (dv 1) an))) (sc (sf T.aq T.cU (dv 0) (dv 1)) (sc (sf T.aq T.cL (dv 0) (fY an)) (s1 (sf T.aq T.bQ (dv 0) QD))))),?_⟩
 refine⟨_,rfl,cs,rfl,hg,_,rfl,_,rfl,a,[],rfl,ha,(show 0<1000 by decide),?_⟩
 refine⟨DD,fun ld OY=>⟨_,rfl,a,[("columns",.tup (cs.map aB))],rfl,?_,(show 1<1000 by decide),fun lr FD=>⟨_,rfl,a,[("columns",.tup (cs.map aB)),("deeds",.ref ld)],rfl,?_,(show 2<1000 by decide),?_⟩⟩⟩
 ·have nl:a≠ld:=by rintro rfl;rw[af] at OY;cases OY
  rw[ag nl,af];rfl
 ·have nl:a≠lr:=by rintro rfl;rw[af] at FD;cases FD
  rw[ag nl,af];rfl
 have n1:a≠ld:=by rintro rfl;rw[af] at OY;cases OY
 have n2:a≠lr:=by rintro rfl;rw[af] at FD;cases FD
 have n3:ld≠lr:=by rintro rfl;rw[ag n1.symm,af] at FD;cases FD
 rw[ag n1.symm] at OY
 rw[ag n2.symm,ag n3.symm,ag n2.symm] at FD
 refine fo (q _ (fp a ld lr []) ⟨ld,lr,[],⟨af,?_,?_,fun r hr=>(nomatch hr),List.nodup_nil,(by simp),fun r hr=>(nomatch hr)⟩,rfl,rfl⟩ fun b c hb e=>?_)
 ·rw[ag n1.symm,ag n3,ag n1.symm,af]
 ·rw[ag n2.symm,af];rfl
 ·have b1:b≠a:=fun z=>hb (by rw[z];exact zu)
  have b2:b≠ld:=fU e OY
  have b3:b≠lr:=fU e FD
  refine⟨fun m=>?_,by rw[ag b1,ag b3,ag b1,ag b2,ag b1];exact e⟩
  unfold fp at m
  simp only [List.map_nil,ze,zD,or_false] at m
  rcases m with m | m | m
  ·exact b1 m
  ·exact b2 m
  ·exact b3 m
def u3 (rs:uX) (i:Int) (z:Str):D:=.tup [.str z,wt ((lu rs z).getD []) i]
def k_ (rs:uX) (i:Int) (ss:List Str):List D:=(ss.filter fun z=>!aj (wt ((lu rs z).getD []) i)).map (u3 rs i)
def u4:D→Bool
 | .tup [_,x]=>!aj x
 | _=>false
theorem wX (ss:List Str):((ss.map (u3 rs i)).filter u4).map id=k_ rs i ss:=by
 unfold k_
 rw[List.map_id,List.filter_map]
 rfl
def Lg (C N:Addr):gN:=fun ds S R Z=>∃ a F cs dl rs m,ds=[.ref a,m]∧br C S a F cs dl rs∧rs.length<64∧Gt S m ∧
 (∀ i ss,sv dl.length m=some i→ss.Perm (rs.map (·.1))→PyProof.Rows.sortedS ss=true→∀ p,S p=none→R (.ref p) (S.set p (.lst (k_ rs i ss))))∧(sv dl.length m=none→Z N S)
theorem DN (T:Txt w K mg t):ip P w mg base T.dU 3 (Lg t.ah t.eK):=by
 have cM:ip P w mg base T.aN 2 _:=iS T
 have gI:Ok P w base T.bA 1 _:=jA T
 refine T.dU.F.ok fg (by rintro ds S R Z ⟨_,_,_,_,_,_,e,_⟩;rw[e];rfl) ?_
 rintro bq A outer s H E ds S R Z hr ⟨a,F,cs,dl,rs,m,e,hS,hn,hm,q1,q2⟩
 subst e
 obtain⟨ld,lr,ra,h,hF,rf⟩:=id hS
 have ek:(dZ ra).map (·.1)=(rs.map (·.1)).map Sum.inr:=by
  rw[rf];unfold dZ g_;rw[zw,zw,zw];rfl
 have el:(dZ ra).length<64:=by rw[rf] at hn;unfold g_ at hn;unfold dZ;rw[zc] at hn ⊢;exact hn
 refine⟨_,(sc (hX (i:=2) fg.nd (rN (dv 0) T.aq T.aN.e (cM.mono (by decide)) hr T.aN.b d0 (ac (dv 1) an))) (sc (OM (i:=3) (N:=["key", "then", "self"]) (src:=[none,some 2,some 0]) fg.nd (nZ (ae (inClass aA 10)) ["self", "moment", "then", "rows"] rfl rfl (by decide +kernel)) (il (cb p7 T.fM eG (ac (fl T.aq T.bQ (dv 0)) an))) (um (show (["key", "then", "self"]:List Str).Nodup by decide +kernel)) (bt rfl) bu (fun _ _ _ _ _=>xr) (fun _ _ _ _ _=>(gB (ac (dv 0) (ac (cf (gI.mono (by decide)) hr T.bA.m T.bA.k T.bA.b d0 (ac (ix hr.units (fl T.aq T.bQ (dv 2)) (dv 0)) (ac (dv 1) an))) an))))) (s1 (sr (xt (N:=["row"]) (src:=[none]) (nZ (ae (inClass aA 10)) ["self", "moment", "then", "rows"] rfl rfl (by decide +kernel)) (il (dv 3)) (um (show (["row"]:List Str).Nodup by decide +kernel)) (bt rfl) bu (fun _ _ _ _ _=>(if1 (cJ mO hr.units (ix hr.units (dv 0) di) dn))) (fun _ _ _ _ _=>(dv 0))))))),?_⟩
 refine⟨_,rfl,a,_,rfl,h.ins,rfl,_,rfl,a,F,cs,dl,rs,m,rfl,hS,hm,fun i hi=>?_,fun hn=>fo (q2 hn)⟩
 refine⟨_,rfl,a,_,_,rfl,h.ins,rfl,lr,dZ ra,rs.map (·.1),rfl,h.run,ek,el,fun ss hp hs p u5=>?_⟩
 have hlen:ss.length<64:=by rw[hp.length_eq,zc];exact hn
 refine⟨_,af,?_⟩
 refine comp_map (fun d=>match d with | .str z=>u3 rs i z | _=>.aw) af (by show (ss.map D.str).length≤1000;rw[zc];omega) (fun d hd Q hQ=>?_) fun p2 mK=>?_
 ·obtain⟨z,hz,rfl⟩:=zi.mp hd
  have Vh:z∈rs.map (·.1):=hp.mem_iff.mp hz
  obtain⟨r,lg,e⟩:=zi.mp Vh
  rw[rf] at lg
  unfold g_ at lg
  obtain⟨r0,vo,rfl⟩:=zi.mp lg
  have e1:rh ra z=some r0.2:=by
   cases e3:rh ra z with
   | none=>exact absurd e (ml e3 _ vo)
   | some x=>exact congrArg some (congrArg Prod.snd (iE (f:=fun r:Str×Addr×List Std=>r.1) h.kn (dq (l:=x.1) (s:=x.2) e3) vo e.symm))
  have ed:cz (dZ ra) (.inr z)=some (.ref r0.2.1):=by rw[hG,e1];rfl
  have hc:=h.cell _ vo
  have eq:(lu rs z).getD []=r0.2.2:=by rw[rf,gH,e1];rfl
  have hQ:Q (.tup [.str z,wt ((lu rs z).getD []) i]) (S.set p (.lst (ss.map D.str))):=hQ
  rw[eq] at hQ
  have hi1:(S.set p (.lst (ss.map D.str))) a=_:=(ag (fU h.ins u5)).trans h.ins
  have JG:(S.set p (.lst (ss.map D.str))) lr=_:=(ag (fU h.run u5)).trans h.run
  have Tj:(S.set p (.lst (ss.map D.str))) r0.2.1=_:=(ag (fU hc u5)).trans hc
  exact⟨_,rfl,_,rfl,a,_,_,rfl,hi1,rfl,_,rfl,dZ ra,_,JG,ed,_,rfl,_,_,i,rfl,Tj,eV,hQ⟩
 ·have em:(ss.map D.str).map (fun d=>match d with | .str z=>u3 rs i z | _=>.aw)=ss.map (u3 rs i):=by rw[zw];rfl
  refine⟨_,rfl,ss.map (u3 rs i),by show ((S.set p _).set p2 (.lst ((ss.map D.str).map _))) p2=_;rw[af,em],?_⟩
  refine fG u4 id (by show ((S.set p _).set p2 (.lst ((ss.map D.str).map _))) p2=_;rw[af,em]) (by show (ss.map (u3 rs i)).length≤1000;rw[zc];omega) (fun d hd Q Q' hQ GF=>?_) fun p3 Tp=>?_
  ·obtain⟨z,hz,rfl⟩:=zi.mp hd
   refine⟨_,rfl,_,rfl,_,rfl,?_⟩
   exact dw (fun h=>⟨_,rfl,hQ h⟩) fun h=>GF h
  ·have Wy:S p3=none:=by
    cases e:S p3 with
    | none=>rfl
    | some c=>exact absurd Tp (by
      rw[ag (fU e (by
       have:(S.set p (.lst (ss.map D.str))) p2=none:=mK
       cases e':S p2 with
       | none=>rfl
       | some c'=>rw[ag (fU e' u5),e'] at this;cases this)),ag (fU e u5),e];exact nofun)
   refine⟨S.set p3 (.lst (k_ rs i ss)),fun b c hb=>?_,q1 i ss hi hp hs p3 Wy⟩
   show ((((S.set p (.lst (ss.map D.str))).set p2 _).set p3 (.lst (((ss.map (u3 rs i)).filter u4).map id)))) b=some c
   rw[wX]
   by_cases Wz:b=p3
   ·subst Wz;rw[af] at hb ⊢;exact hb
   ·rw[ag Wz] at hb
    have WA:S p2=none:=by
     cases e':S p2 with
     | none=>rfl
     | some c'=>have:(S.set p (.lst (ss.map D.str))) p2=none:=mK;rw[ag (fU e' u5),e'] at this;cases this
    rw[ag Wz,ag (fU hb WA),ag (fU hb u5)];exact hb
theorem JJ {P:Program}{w:World}{K:PySem.W.Frag}{mg:Str→Option Value}{base:Heap}{k:Nat}{f:Addr}{fd:FuncData}{ps:List Str}{pre:List D→Prop}
  (F:Ye P w K mg base k f fd ps (fun ds S R _=>pre ds∧∀ l x y z,S l=none→R (.ref l) (S.set l (.lst [.int x,.int y,.int z])))):Ye P w K mg base k f fd ps (fun ds S R _=>pre ds∧∀ l,S l=none→R (.ref l) (S.set l .well)):=by
 refine F.imp fun vs H Q E ⟨ds,S,R,Z,v,hS,⟨hp,h⟩,hR,hZ⟩=>⟨ds,S,fun d S2=>∃ l x y z,S l=none∧d=.ref l∧S2=S.set l (.lst [.int x,.int y,.int z]),fun _ _=>False,v,hS,⟨hp,fun l x y z hl=>⟨l,x,y,z,hl,rfl,rfl⟩⟩,fun d S2 u H' ⟨l,x,y,z,hl,e1,e2⟩ rv hs kp=>?_,fun _ _ _ q=>q.elim⟩
 subst e1 e2
 refine hR _ _ u H' (h l hl) rv ?_ kp
 refine s_ (x:=x) (y:=y) (z:=z) af ?_
 rw[eF];exact hs
def WB (ds:List D) (l:Addr):Prop:=∃ m:Int,ds=[.ref l,.int m]∧0<m∧m.natAbs.log2<9000
def RH (ds:List D) (d:D):Prop:=∃ (l:Addr) (m n:Int),ds=[.ref l,.int m]∧d=.int n∧0≤n∧n<m
theorem AF (T:Txt w K mg t):Ok P w base T.bL 1 (fun ds S R _=>∃ (ns:List Int) (k:Nat),ds=[.kD (ns.map D.int),.int k]∧∀ c:Int,R (.int c) S):=by
 refine T.bL.F.ok uR (by rintro ds S R Z ⟨_,_,e,_⟩;rw[e];rfl) ?_
 rintro bq A outer s H E ds S R Z hr ⟨ns,k,e,q⟩
 subst e
 refine⟨_,(sc (si (cJ Ff hr.units (dv 1) (cb cj T.bR ba (ac (dv 0) an))) (s1 (sr (ix hr.units (dv 0) (dv 1)))) s0) (s1 (sr di))),?_⟩
 refine⟨_,rfl,_,rfl,_,rfl,_,rfl,?_⟩
 refine dw (fun h=>?_) (fun h=>?_)
 ·have h:(k:Int)<(((ns.map D.int).length:Nat):Int):=zH h
  have hk:k<ns.length:=by rw[zc] at h;omega
  exact⟨_,rfl,_,rfl,.int ns[k],ia (by rw[zx];simp [hk]),fo (q _)⟩
 ·exact fo (q 0)
theorem JK (T:Txt w K mg t):Ok P w base T.fb 1 (fun ds S R _=>(∃ c:Int,ds=[.int c])∧∀ l,S l=none→R (.ref l) (S.set l .well)):=by
 refine JJ ?_
 refine T.fb.F.ok DC (by rintro ds S R Z ⟨⟨_,e⟩,_⟩;rw[e];rfl) ?_
 rintro bq A outer s H E ds S R Z hr ⟨⟨c,e⟩,q⟩
 subst e
 refine⟨_,(s1 (sr (fY (ac (bo lM hr.units (dv 0) (ct KP T.Gn xX (ac (cm Vx hr.units (dv 0) (bo Bp hr.units di di)) an))) (ac (bo n6 hr.units (dv 0) di) (ac di an)))))),?_⟩
 refine⟨_,rfl,_,rfl,⟨by decide,by decide,by decide⟩,.inr ⟨_,rfl,?_⟩⟩
 refine⟨.inr ⟨by split <;> decide,by split <;> decide⟩,_,rfl,by decide,nB,fun l hl=>fo (q l _ _ _ hl)⟩
theorem JL (T:Txt w K mg t):Ok P w base T.ar 1 (Fw WB RH):=by
 refine CT ?_
 refine T.ar.F.ok eO (by rintro ds S R Z ⟨_,_,_,_,⟨_,e,_⟩,_⟩;rw[e];rfl) ?_
 rintro bq A outer s H E ds S R Z hr ⟨l,x,y,z,⟨m,e,hm,hlg⟩,hl,q⟩
 subst e
 refine⟨_,(sc (si (cJ ua hr.units (ix hr.units (dv 0) di) di) (sc (hX (i:=2) eO.nd (bo n6 hr.units (ix hr.units (dv 0) di) (dv 1))) (sc (XT (dv 0) di (bo yU hr.units (ix hr.units (dv 0) di) (dv 1))) (s1 (sr (dv 2))))) s0) (sc (hX (i:=2) eO.nd di) (sc (HC (HB (VR T.uK (ac (bo gU hr.units di (bo lM hr.units di (ct KP T.Gn xX (ac (cm ua hr.units (dv 1) (bo Bp hr.units di di)) an)))) an)) (gn (i:=3) eO.nd) (sc (XT (dv 0) di (bo gU hr.units (ix hr.units (dv 0) di) di)) (sc (hX (i:=4) eO.nd (bo n6 hr.units (bo lM hr.units (bo gU hr.units (bo gU hr.units (ix hr.units (dv 0) di) (bo lM hr.units di (ix hr.units (dv 0) di))) di) di) di)) (sc (hX (i:=4) eO.nd (bo n6 hr.units (bo lM hr.units (dv 4) (bo gU hr.units (bo yU hr.units (dv 4) di) di)) di)) (s1 (hX (i:=2) eO.nd (bo gU hr.units (bo lM hr.units (dv 2) di) (bo n6 hr.units (bo lM hr.units (dv 4) (bo gU hr.units (bo yU hr.units (dv 4) di) di)) di))))))))) (s1 (sr (bo n6 hr.units (dv 2) (dv 1))))))),?_⟩
 refine⟨_,rfl,_,_,hl,rfl,_,rfl,?_⟩
 refine dw (fun h=>?_) (fun h=>?_)
 ·refine⟨_,rfl,_,_,hl,rfl,_,rfl,hm,?_⟩
  refine⟨_,rfl,_,_,hl,rfl,_,rfl,⟨hm,hlg⟩,_,rfl,l,_,0,0,rfl,rfl,hl,rfl,?_⟩
  exact⟨_,rfl,fo (q _ _ _ _ ⟨l,m,_,rfl,rfl,Int.emod_nonneg _ (by omega),Int.emod_lt_of_pos _ hm⟩)⟩
 ·refine⟨fun aK S'=>∃ (f:Int) (o1 o2:Option D) (x y z:Int),aK=[some (.ref l),some (.int m),some (.int f),o1,o2]∧S'=S.set l (.lst [.int x,.int y,.int z]),?_,?_⟩
  ·refine⟨_,rfl,⟨by decide,by decide,by decide⟩,.inr ⟨_,rfl,.inl ⟨by decide,by decide⟩,_,rfl,?_,?_,?_⟩⟩
   ·split <;> decide
   ·split <;> decide
   refine⟨fun i aK S'=>∃ (f:Int) (o1 o2:Option D) (x y z:Int),aK=[some (.ref l),some (.int m),some (.int f),o1,o2]∧S'=S.set l (.lst [.int x,.int y,.int z]),⟨0,none,none,x,y,z,rfl,?_⟩,fun _ _ _ _=>trivial,?_,fun aK S' h=>fo h⟩
   ·funext b;unfold aU.set;split
    ·rename_i h;rw[h];exact hl
    ·rfl
   rintro i d aK S' hd ⟨f,o1,o2,x,y,z,rfl,rfl⟩
   have JM:(S.set l (.lst [.int x,.int y,.int z])) l=some (.lst [.int x,.int y,.int z]):=af
   refine⟨_,rfl,_,_,JM,rfl,_,rfl,l,_,2,2,rfl,rfl,JM,rfl,?_⟩
   rw[eF,show ([D.int x,D.int y,D.int z].set 2 (D.int (z+1)))=[D.int x,D.int y,D.int (z+1)] from rfl]
   have Cq:(S.set l (.lst [.int x,.int y,.int (z+1)])) l=some (.lst [.int x,.int y,.int (z+1)]):=af
   refine⟨_,rfl,_,_,Cq,rfl,_,rfl,_,_,Cq,rfl,.inl ⟨by decide,by decide⟩,.inr ⟨by decide,by decide⟩,(show (0:Int)<2147483647 by decide),?_⟩
   have nb:∀ z:Int,0≤z % 2147483647∧z % 2147483647<2147483647:=fun z=>⟨Int.emod_nonneg z (by decide),Int.emod_lt_of_pos z (by decide)⟩
   have n1:=nb ((y+7919 * (z+1)+1) * 48271)
   generalize (y+7919 * (z+1)+1) * 48271 % 2147483647=u at *
   refine⟨_,rfl,_,rfl,⟨by decide,by decide +kernel⟩,.inl ⟨by omega,by omega⟩,(show (0:Int)<2147483647 by decide),?_⟩
   have n2:=nb (u * (u / 1009+69621))
   generalize u * (u / 1009+69621) % 2147483647=v at *
   exact⟨_,rfl,.inr ⟨by decide,by decide⟩,_,rfl,_,rfl,⟨by decide,by decide +kernel⟩,.inl ⟨by omega,by omega⟩,(show (0:Int)<2147483399 by decide),_,_,_,_,_,_,rfl,rfl⟩
  ·rintro aK S' ⟨f,o1,o2,x,y,z,rfl,rfl⟩
   exact⟨_,rfl,_,rfl,hm,fo (q _ _ _ _ ⟨l,m,_,rfl,rfl,Int.emod_nonneg _ (by omega),Int.emod_lt_of_pos _ hm⟩)⟩
def nH:gN:=fun ds S R _=>∃ (l:Addr) (m:Int),ds=[.ref l,.int m]∧0<m∧m.natAbs.log2<9000∧S l=some .well∧∀ n:Int,0≤n→n<m→R (.int n) S
theorem wY {P:Program}{w:World}{K:PySem.W.Frag}{mg:Str→Option Value}{base:Heap}{t:pv} (T:Txt w K mg t):Ok P w base T.ar 1 nH :=
 (JL T).Nm <| by rintro ds S R Z ⟨l,m,e,h0,h1,hw,q⟩;exact⟨l,⟨m,e,h0,h1⟩,hw,by rintro d ⟨l',m',n,e1,e2,a,b⟩;exact by rw[e] at e1;cases e1;subst e2;exact q n a b⟩
theorem wl {S:aU}{l p:Addr}{c:Ce} (hw:S l=some .well) (hp:S p=none):(S.set p c) l=some .well:=(ag (fU hw hp)).trans hw
theorem fw {L:List D}{S:aU}{p:Addr}{n:Int}{R:KD} (h0:0≤n) (h1:n<(L.length:Int)) (hp:S p=none) (q:∀ d,d∈L→R d S):∃ ds d,(S.set p (.lst L)) p=some (.lst ds)∧sP ds n=some d∧Fo (S.set p (.lst L)) (R d):=by
 obtain⟨v,e1,e2⟩:=Bh (l:=L) h0 h1
 exact⟨L,v,af,e1,S,.new hp,q v (zM e2)⟩
theorem NU {m:Int} (h0:0<m) (h1:m≤8000):m.natAbs.log2<9000:=by
 have h2:m.natAbs≤8000:=by omega
 have h3:m.natAbs.log2≤m.natAbs:=Nat.log2_le_self _
 omega
abbrev KT:List Str:=["a", "ab", "b", "abc", "a1", "key", "z", "ba", "b2", "abcdefghijkl"]
abbrev KEX:List Str:=["k0", "k1", "k2", "k3", "k4", "k5", "k6", "k7", "k8", "k9", "k10", "k11", "k12", "k13", "k14", "k15", "k16", "k17", "k18", "k19"]
abbrev KS:List Str:=KT++KEX
theorem GG (h:z∈KT):z∈KS:=zY _ h
theorem jD:∀ z∈KS,fZ z=true∧z.cps.size≤12∧PyData.strOk z=true:=by decide +kernel
abbrev Eo:List Str:=["key", "up", "a", "at", "ab", "mark", "every", "now"]
theorem NV:∀ z∈Eo,jx z=true∧PyData.strOk z=true:=by decide +kernel
def fS:D→Bool
 | .aw=>true
 | .int _=>true
 | .str z=>decide (z.cps.size≤40) && PyData.strOk z
 | _=>false
def Vg (kind:Str) (d:D):Prop:=jy kind d=true∧fS d=true
abbrev Yj:List Str:=["", "a", "ab", "b", "A b", "#"]
abbrev Yk:List Str:=["", "a", "\""]
theorem GH:∀ a∈("~~~~~~~~~~~~~~~~~~~~~~~~~~~~~~~~~~~~~~~" : Str) :: Yj,∀ b∈Yk,tE (a++b)=true∧(a++b).cps.size≤40∧PyData.strOk (a++b)=true∧a.length+b.length≤1000:=by decide +kernel
theorem NW:PySem.Txt.mul "~" 39 = "~~~~~~~~~~~~~~~~~~~~~~~~~~~~~~~~~~~~~~~" := by decide +kernel
theorem NX:MulOk "~" 39:=⟨by decide,by decide,by decide +kernel⟩
def RJ (pre:List D→Prop) (post:List D→D→Prop):gN:=fun ds S R _=>∃ l r,ds=.ref l :: r∧pre r∧S l=some .well∧∀ d,post r d→R d S
theorem NY (T:Txt w K mg t):Ok P w base T.tw 2 (RJ (·=[]) fun _ d=>∃ z∈KT,d=.str z):=by
 have aQ:Ok P w base T.ar 1 nH:=wY T
 refine T.tw.F.ok Gv (by rintro ds S R Z ⟨_,_,e,e2,_⟩;rw[e,e2];rfl) ?_
 rintro bq A outer s H E ds S R Z hr ⟨l,r,e,e2,hw,q⟩
 subst e e2
 refine⟨_,(s1 (sr (Jb (ix hr.units (fY (ac ds (ac ds (ac ds (ac ds (ac ds (ac ds (ac ds (ac ds (ac ds (ac ds an))))))))))) (cf (aQ.mono (by decide)) hr T.ar.m T.ar.k T.ar.b d0 (ac (dv 0) (ac di an))))))),?_⟩
 refine⟨RD,fun p hp=>⟨_,rfl,l,_,rfl,(by decide),(by decide),wl hw hp,fun n h0 h1=>fw h0 h1 hp fun d hd=>?_⟩⟩
 have hd:d∈KT.map D.str:=hd
 obtain⟨z,hz,rfl⟩:=zi.mp hd
 exact fo (q _ ⟨z,hz,rfl⟩)
theorem GI (T:Txt w K mg t):Ok P w base T.jT 2 (RJ (fun r=>r=[.str "number"]∨r=[.str "word"]) fun r d=>∃ k,r=[.str k]∧Vg k d):=by
 have aQ:Ok P w base T.ar 1 nH:=wY T
 refine T.jT.F.ok qA (fun ds S R Z ⟨_,_,e,e2,_⟩=>by rw[e];rcases e2 with e2 | e2 <;> rw[e2] <;> rfl) (fun bq A outer s H E ds S R Z hr ⟨l,r,e,e2,hw,q⟩=>?_)
 subst e
 obtain⟨k,rfl,hk⟩:∃ k,r=[.str k]∧(k = "number" ∨ k = "word"):=by
  rcases e2 with e | e
  ·exact⟨_,e,.inl rfl⟩
  ·exact⟨_,e,.inr rfl⟩
 have q:∀ d,Vg k d→R d S:=fun d hd=>q d ⟨k,rfl,hd⟩
 have hint:k = "number" → ∀ i:Int,R (.int i) S:=fun e i=>q _ ⟨by rw[e];rfl,rfl⟩
 refine⟨_,(sc (si (cJ cg hr.units (cf (aQ.mono (by decide)) hr T.ar.m T.ar.k T.ar.b d0 (ac (dv 0) (ac di an))) di) (s1 (sr dn)) s0) (sc (si (twd (twand (cJ cg hr.units (dv 1) ds) (tw1 (cJ cg hr.units (cf (aQ.mono (by decide)) hr T.ar.m T.ar.k T.ar.b d0 (ac (dv 0) (ac di an))) di)))) (s1 (sr (bo KL hr.units (cf (aQ.mono (by decide)) hr T.ar.m T.ar.k T.ar.b d0 (ac (dv 0) (ac (bo lM hr.units di (bo Bp hr.units di di)) an))) (bo Bp hr.units di di)))) s0) (sc (si (cJ cg hr.units (dv 1) ds) (s1 (sr (bo KL hr.units (cf (aQ.mono (by decide)) hr T.ar.m T.ar.k T.ar.b d0 (ac (dv 0) (ac di an))) di))) s0) (sc (hX (i:=2) qA.nd (Jb (ix hr.units (fY (ac ds (ac ds (ac ds (ac ds (ac ds (ac ds (ac (bo lM hr.units ds di) an)))))))) (cf (aQ.mono (by decide)) hr T.ar.m T.ar.k T.ar.b d0 (ac (dv 0) (ac di an)))))) (s1 (sr (bo gU hr.units (dv 2) (Jb (ix hr.units (fY (ac ds (ac ds (ac ds (ac ds an))))) (cf (aQ.mono (by decide)) hr T.ar.m T.ar.k T.ar.b d0 (ac (dv 0) (ac di an)))))))))))),?_⟩
 refine⟨_,rfl,l,_,rfl,(by decide),(by decide),hw,fun n h0 h1=>⟨_,rfl,?_⟩⟩
 refine dw (fun h=>?_) (fun h=>?_)
 ·exact fo (q .aw ⟨rfl,rfl⟩)
 refine⟨_,rfl,_,rfl,?_⟩
 refine dw (fun h2=>?_) (fun h2=>?_)
 ·have ek:k = "number" := zH h2
  refine⟨_,rfl,l,_,rfl,(by decide),(by decide),hw,fun n1 Yl Ym=>⟨_,rfl,?_⟩⟩
  refine dw (fun h3=>?_) (fun h3=>?_)
  ·refine⟨_,rfl,⟨by decide,by decide,by decide⟩,.inl ⟨by decide,by decide⟩,l,_,rfl,(by decide +kernel),(by decide +kernel),hw,fun n2 WC WD=>⟨⟨by decide,by decide,by decide⟩,fo (hint ek _)⟩⟩
  ·refine⟨_,rfl,_,rfl,?_⟩
   show if decide (k = "number")=true then _ else _
   rw[zt ek]
   exact fI ⟨_,rfl,l,_,rfl,(by decide),(by decide),hw,fun n2 WC WD=>fo (hint ek _)⟩
 ·have ek:¬ k = "number" := yx h2
  have ek':k = "word" := hk.resolve_left ek
  refine⟨_,rfl,_,rfl,?_⟩
  show if decide (k = "number")=true then _ else _
  rw[zq ek]
  refine bI ?_
  refine⟨NX,Wo,fun p hp=>⟨_,rfl,l,_,rfl,(by decide),(by decide),wl hw hp,fun n1 Yl Ym=>fw Yl Ym hp fun d hd=>?_⟩⟩
  rw[NW] at hd
  have hd:d∈[D.str "",.str "a",.str "ab",.str "b",.str "A b",.str "#",.str "~~~~~~~~~~~~~~~~~~~~~~~~~~~~~~~~~~~~~~~"]:=hd
  obtain⟨a,ha,rfl⟩:∃ a∈("~~~~~~~~~~~~~~~~~~~~~~~~~~~~~~~~~~~~~~~" : Str) :: Yj,d=.str a:=by
   simp only [ze,zD,or_false] at hd
   rcases hd with h | h | h | h | h | h | h <;> exact⟨_,by simp,h⟩
  refine⟨_,rfl,oR,fun p2 mK=>⟨_,rfl,l,_,rfl,(by decide),(by decide),wl hw mK,fun n2 WC WD=>fw WC WD mK fun d hd=>?_⟩⟩
  have hd:d∈[D.str "",.str "",.str "a",.str "\""]:=hd
  obtain⟨b,hb,rfl⟩:∃ b∈Yk,d=.str b:=by
   simp only [ze,zD,or_false] at hd
   rcases hd with h | h | h | h <;> exact⟨_,by simp,h⟩
  obtain⟨w1,w2,w3,w4⟩:=GH a ha b hb
  refine⟨sm w4,fo (q _ ⟨?_,?_⟩)⟩
  ·rw[ek'];show (false || if ("word" : Str) = "number" then _ else tE (a++b))=true
   rw[if_neg (by decide),w1];rfl
  ·show (decide ((a++b).cps.size≤40) && PyData.strOk (a++b))=true
   rw[zt w2,w3];rfl
def Wg (cs:List (Str×Str)) (ws:List D):Prop:=Paired (fun (c:Str×Str) v=>Vg c.2 v) cs ws
theorem qH {rel:(Str×Str)→D→Prop} : ∀ {cs:List (Str×Str)}{out:List D},Paired (fun d v=>∃ c,d=aB c∧rel c v) (cs.map aB) out→Paired (fun c v=>rel c v) cs out
 | [],_,.nil=>.nil
 | c :: cs,_,.cons ⟨c',e,r⟩ t=>by
  have:c=c':=by
   unfold aB at e
   injection e with e
   injection e with e1 e2
   injection e1 with e1
   injection e2 with e2 _
   injection e2 with e2
   exact Prod.ext e1 e2
  subst this
  exact .cons r (qH t)
def wZ (tr j:Nat):Str:=Eo.getD ((j+tr) % 8) ""
theorem GJ:∀ tr<8,∀ i<9,((List.range i).map (wZ tr)).Nodup:=by decide +kernel
theorem NZ (tr j:Nat):wZ tr j∈Eo:=by
 have:(j+tr) % 8<8:=Nat.mod_lt _ (by decide)
 unfold wZ
 rw[zB,zh (show (j+tr) % 8<Eo.length from this)]
 exact List.getElem_mem _
theorem DP (T:Txt w K mg t):Ok P w base T.cA 3 (fun ds S R _=>∃ l cs,ds=[.ref l,.tup (cs.map aB)]∧Gd cs∧S l=some .well∧∀ ws,Wg cs ws→R (.tup ws) S):=by
 have DQ:Ok P w base T.jT 2 _:=GI T
 refine T.cA.F.ok wQ (by rintro ds S R Z ⟨_,_,e,_⟩;rw[e];rfl) ?_
 rintro bq A outer s H E ds S R Z hr ⟨l,cs,e,hg,hw,q⟩
 subst e
 refine⟨_,(s1 (sr (ct uc T.cT bT (ac (xt (N:=["_law_column", "_law_well_here"]) (src:=[none,some 0]) (nZ (ae iw) ["_law_well_here", "_law_columns_here"] rfl rfl (by decide +kernel)) (I9 (dv 1)) (um (show (["_law_column", "_law_well_here"]:List Str).Nodup by decide +kernel)) (bt rfl) bu (fun _ _ _ _ _=>xr) (fun _ _ _ _ _=>(cf (DQ.mono (by decide)) hr T.jT.m T.jT.k T.jT.b d0 (ac (dv 1) (ac (ix hr.units (dv 0) di) an))))) an)))),?_⟩
 refine⟨_,rfl,_,.inl rfl,?_⟩
 refine qD (fun d v=>∃ c:Str×Str,d=aB c∧Vg c.2 v) trivial (by show (cs.map aB).length≤1000;rw[zc];have:=hg.1;omega) (fun d hd Q hQ=>?_) fun out hp p u5=>?_
 ·obtain⟨c,hc,rfl⟩:=zi.mp hd
  refine⟨_,rfl,_,rfl,.str c.2,rfl,l,_,rfl,?_,hw,fun v ⟨k,e,hv⟩=>hQ v ⟨c,rfl,?_⟩⟩
  ·rcases (hg.2.2 c hc).2 with e | e <;> rw[e]
   ·exact .inl rfl
   ·exact .inr rfl
  ·cases e;exact hv
 ·exact⟨_,out,rfl,.inl af,S,.new u5,q out (qH hp)⟩
theorem AG (T:Txt w K mg t):Ok P w base T.fF 2 (fun ds S R _=>∃ l,ds=[.ref l]∧S l=some .well∧∀ cs,Gd cs→(∀ c∈cs,c.1∈Eo)→R (.tup (cs.map aB)) S):=by
 have aQ:Ok P w base T.ar 1 nH:=wY T
 refine T.fF.F.ok dY (by rintro ds S R Z ⟨_,e,_⟩;rw[e];rfl) ?_
 rintro bq A outer s H E ds S R Z hr ⟨l,e,hw,q⟩
 subst e
 refine⟨_,(sc (hX (i:=1) dY.nd (fY (ac ds (ac ds (ac ds (ac ds (ac ds (ac ds (ac ds (ac ds an)))))))))) (sc (hX (i:=2) dY.nd (cf (aQ.mono (by decide)) hr T.ar.m T.ar.k T.ar.b d0 (ac (dv 0) (ac di an)))) (sc (hX (i:=3) dY.nd (fY an)) (sc (HC (HB (VR T.uK (ac (Jb (ix hr.units (fY (ac di (ac di (ac di (ac (cf (aQ.mono (by decide)) hr T.ar.m T.ar.k T.ar.b d0 (ac (dv 0) (ac di an))) an))))) (cf (aQ.mono (by decide)) hr T.ar.m T.ar.k T.ar.b d0 (ac (dv 0) (ac di an))))) an)) (gn (i:=4) dY.nd) (s1 (se (bm zL zZ z0 dN (dv 3) (ac (gB (ac (ix hr.units (dv 1) (bo n6 hr.units (bo gU hr.units (dv 4) (dv 2)) di)) (ac (Jb (ix hr.units (fY (ac ds (ac ds an))) (cf (aQ.mono (by decide)) hr T.ar.m T.ar.k T.ar.b d0 (ac (dv 0) (ac di an))))) an))) an)))))) (s1 (sr (ct uc T.cT bT (ac (dv 3) an)))))))),?_⟩
 refine⟨Wq,fun ln ON=>⟨_,rfl,l,_,rfl,(by decide),(by decide),wl hw ON,fun tr ht0 ht1=>⟨DD,fun lf HE=>?_⟩⟩⟩
 obtain⟨tn,rfl⟩:∃ n:Nat,tr=(n:Int):=⟨tr.toNat,by omega⟩
 have htn:tn<8:=by omega
 have Yn:lf≠ln:=by rintro rfl;rw[af] at HE;cases HE
 have RK:S lf=none:=by rw[ag Yn] at HE;exact HE
 refine⟨fun aK S'=>∃ (o:Option D) (cs:List (Str×Str)),aK=[some (.ref l),some (.ref ln),some (.int tn),some (.ref lf),o]∧Gd cs∧(∀ c∈cs,c.1∈Eo)∧S'=S.set lf (.lst (cs.map aB)),?_,?_⟩
 ·have q_:=wl (c:=.lst []) (wl (c:=.lst [.str "key",.str "up",.str "a",.str "at",.str "ab",.str "mark",.str "every",.str "now"]) hw ON) HE
  refine⟨_,rfl,l,_,rfl,(by decide),(by decide),q_,fun n9 h90 h91=>⟨oR,fun p hp=>⟨_,rfl,l,_,rfl,(by decide),(by decide),wl q_ hp,fun n4 WE WG=>fw WE WG hp fun d hd=>?_⟩⟩⟩
  obtain⟨m,rfl,hm⟩:∃ m:Nat,d=.int m∧m≤8:=by
   have hd:d∈[D.int 1,.int 2,.int 3,.int n9]:=hd
   simp only [ze,zD,or_false] at hd
   rcases hd with h | h | h | h
   ·exact⟨1,h,by decide⟩
   ·exact⟨2,h,by decide⟩
   ·exact⟨3,h,by decide⟩
   ·exact⟨n9.toNat,by rw[h];congr 1;omega,by omega⟩
  refine⟨m,rfl,by omega,by omega,?_⟩
  refine⟨fun i aK S'=>∃ (o:Option D) (cs:List (Str×Str)),aK=[some (.ref l),some (.ref ln),some (.int tn),some (.ref lf),o]∧cs.map Prod.fst=(List.range i).map (wZ tn)∧(∀ c∈cs,c.2 = "number" ∨ c.2 = "word")∧S'=(S.set ln (.lst (Eo.map D.str))).set lf (.lst (cs.map aB)),⟨none,[],rfl,rfl,fun _ h=>(nomatch h),rfl⟩,fun _ _ _ _=>trivial,?_,?_⟩
  ·rintro i d aK S' hd ⟨o,cs,rfl,hn,hk,rfl⟩
   obtain⟨hi,rfl⟩:=p6 hd
   have hi:i<m:=by simpa using hi
   have Bf:cs.length=i:=by have:=congrArg List.length hn;simpa using this
   generalize BO:(S.set ln (.lst (Eo.map D.str))).set lf (.lst (cs.map aB))=S2
   have ef:S2 lf=some (.lst (cs.map aB)):=by rw[← BO,af]
   have en:S2 ln=some (.lst (Eo.map D.str)):=by rw[← BO,ag Yn.symm,af]
   have ew:S2 l=some .well:=by rw[← BO,ag (fU hw RK),ag (fU hw ON)];exact hw
   have enm:sP (Eo.map D.str) (((0:Int)+(i:Nat)+(tn:Nat)) % 8)=some (.str (wZ tn i)):=by
    have e:((0:Int)+(i:Nat)+(tn:Nat)) % 8=(((i+tn) % 8:Nat):Int):=by omega
    have fz:(i+tn) % 8<8:=Nat.mod_lt _ (by decide)
    rw[e]
    refine ia ?_
    rw[zx]
    unfold wZ
    rw[zB,zh (show (i+tn) % 8<Eo.length from fz)]
    rfl
   refine⟨_,rfl,⟨rfl,_,ef⟩,_,rfl,_,rfl,_,rfl,(show (0:Int)<8 by decide),_,_,en,enm,eV,fun p hp=>⟨_,rfl,l,_,rfl,(by decide),(by decide),wl ew hp,fun n2 N1 GK=>fw N1 GK hp fun d hd=>?_⟩⟩
   obtain⟨kd,rfl,Tq⟩:∃ kd:Str,d=.str kd∧(kd = "number" ∨ kd = "word"):=by
    have hd:d∈[D.str "number",.str "word"]:=hd
    simp only [ze,zD,or_false] at hd
    rcases hd with h | h
    ·exact⟨_,h,.inl rfl⟩
    ·exact⟨_,h,.inr rfl⟩
   refine⟨eV,lf,_,_,rfl,rfl,ef,bg (by rw[zc];omega),_,cs++[(wZ tn i,kd)],rfl,?_,?_,?_⟩
   ·rw[zF,hn,List.range_succ,zF];rfl
   ·intro c hc
    rcases zI.mp hc with h | h
    ·exact hk c h
    ·rw[zE.mp h];exact Tq
   ·rw[← BO,eF,zF];rfl
  ·rintro aK S' ⟨o,cs,rfl,hn,hk,rfl⟩
   rw[p5] at hn
   have hn:cs.map Prod.fst=(List.range m).map (wZ tn):=by simpa using hn
   have Bf:cs.length=m:=by have:=congrArg List.length hn;simpa using this
   have Kz:∀ c∈cs,c.1∈Eo:=fun c hc=>by
    have:c.1∈cs.map Prod.fst:=zi.mpr ⟨c,hc,rfl⟩
    rw[hn] at this
    obtain⟨j,_,e⟩:=zi.mp this
    rw[← e];exact NZ tn j
   refine⟨S.set lf (.lst (cs.map aB)),fun b c hb=>?_,o,cs,rfl,⟨by omega,by rw[hn];exact GJ tn htn m (by omega),fun c hc=>⟨(NV _ (Kz c hc)).1,hk c hc⟩⟩,Kz,rfl⟩
   by_cases WH:b=lf
   ·subst WH;rw[af] at hb ⊢;exact hb
   ·rw[ag WH] at hb
    rw[ag WH,ag (fU hb ON)];exact hb
 ·rintro aK S' ⟨o,cs,rfl,hg,Kz,rfl⟩
  exact⟨_,rfl,_,cs.map aB,rfl,.inl af,S,.new RK,q cs hg Kz⟩
abbrev Kn:=List (Str×List D)
def h7 (kn:Kn):List (Key×D):=kn.map fun r=>(Sum.inr r.1,D.tup r.2)
def gO (kn:Kn) (z:Str):Option (List D):=(kn.find? fun r=>decide (r.1=z)).map (·.2)
structure KI (cs:List (Str×Str)) (kn:Kn):Prop where
 nd:(kn.map (·.1)).Nodup
 ok:∀ r∈kn,r.1∈KS∧Wg cs r.2
theorem bO:gO (r :: kn) k=if r.1=k then some r.2 else gO kn k:=by
 unfold gO
 rw[zQ]
 by_cases h:r.1=k
 ·rw[zt h,if_pos h];rfl
 ·rw[zq h,if_neg h]
theorem qI (kn:Kn) (k:Str):cz (h7 kn) (.inr k)=(gO kn k).map D.tup:=by
 induction kn with
 | nil=>rfl
 | cons r kn ih =>
  rw[bO]
  unfold cz h7 at *
  rw[zA,zQ]
  by_cases h:r.1=k
  ·have:decide ((Sum.inr r.1:Key)=.inr k)=true:=zt (by rw[h])
   dsimp only
   rw[this,if_pos h];rfl
  ·have:decide ((Sum.inr r.1:Key)=.inr k)=false:=zq fun e=>h (yD e)
   dsimp only
   rw[this,if_neg h];exact ih
theorem px (h:gO kn k=some ws):(k,ws)∈kn:=by
 induction kn with
 | nil=>cases h
 | cons r kn ih =>
  rw[bO] at h
  by_cases hk:r.1=k
  ·rw[if_pos hk] at h;cases h;rw[← hk];exact zu
  ·rw[if_neg hk] at h;exact zg _ (ih h)
theorem lh (h:k∈kn.map (·.1)):∃ ws,gO kn k=some ws:=by
 induction kn with
 | nil=>cases h
 | cons r kn ih =>
  rw[bO]
  by_cases hk:r.1=k
  ·exact⟨r.2,if_pos hk⟩
  ·rw[if_neg hk]
   rw[zA] at h
   rcases ze.mp h with e | h
   ·exact absurd e.symm hk
   ·exact ih h
theorem sub_len [DecidableEq α]:∀ {l m:List α},l.Nodup→(∀ x∈l,x∈m)→l.length≤m.length
 | [],m,_,_=>yj _
 | a :: l,m,nd,h=>by
  obtain⟨n1,n2⟩:=zX.mp nd
  have h1:=sub_len (m:=m.erase a) n2 fun x hx=>(List.mem_erase_of_ne (fun e=>n1 (by rw[← e];exact hx))).mpr (h x (zg _ hx))
  have h2:=List.length_erase_of_mem (h a zu)
  have h3:0<m.length:=List.length_pos_of_mem (h a zu)
  rw[zK];omega
theorem KI.len (h:KI cs kn):kn.length≤30:=by
 have:=sub_len h.nd (m:=KS) fun x hx=>by
  obtain⟨r,hr,rfl⟩:=zi.mp hx
  exact (h.ok r hr).1
 rw[zc] at this
 exact this
def oU (kn:Kn) (z:Str) (ws:List D):Kn:=if (gO kn z).isSome then kn.map fun r=>if r.1=z then (r.1,ws) else r else kn++[(z,ws)]
def u6 (kn:Kn) (z:Str):Kn:=kn.filter fun r=>decide (r.1≠z)
theorem N2 (kn:Kn) (z:Str) (ws:List D):dput (h7 kn) (.inr z) (.tup ws)=h7 (oU kn z ws):=by
 unfold dput oU
 have e:((h7 kn).any fun kv=>decide (kv.1=.inr z))=(gO kn z).isSome:=by
  induction kn with
  | nil=>rfl
  | cons r kn ih =>
   unfold h7 at *
   rw[zA,yI,ih,bO]
   by_cases h:r.1=z
   ·rw[if_pos h,zt (by rw[h]),Bool.true_or];rfl
   ·rw[if_neg h,zq fun e=>h (yD e),yM]
 rw[e]
 split
 ·unfold h7
  rw[zw,zw]
  refine zW fun r _=>?_
  dsimp only [Function.comp]
  by_cases h:r.1=z
  ·rw[if_pos h,if_pos (by rw[h])]
  ·rw[if_neg h,if_neg fun e=>h (yD e)]
 ·unfold h7
  rw[zF];rfl
theorem N3 (kn:Kn) (z:Str):vP (h7 kn) (.inr z)=h7 (u6 kn z):=by
 unfold vP u6 h7
 rw[List.filter_map]
 congr 1
 refine List.filter_congr fun r _=>?_
 dsimp only [Function.comp]
 rw[yC]
 exact⟨fun h e=>h (by rw[e]),fun h e=>h (yD e)⟩
theorem JN:gO (oU kn z ws) k=if k=z then some ws else gO kn k:=by
 unfold oU
 by_cases hs:(gO kn z).isSome=true
 ·rw[if_pos hs]
  by_cases hk:k=z
  ·subst hk
   rw[if_pos rfl]
   induction kn with
   | nil=>cases hs
   | cons r rs ih =>
    rw[zA,bO]
    by_cases h:r.1=k
    ·rw[if_pos h,if_pos h]
    ·rw[if_neg h,if_neg h]
     rw[bO,if_neg h] at hs
     exact ih hs
  ·rw[if_neg hk]
   clear hs
   induction kn with
   | nil=>rfl
   | cons r rs ih =>
    rw[zA,bO,bO,ih]
    by_cases h:r.1=z
    ·rw[if_pos h,if_neg (show ¬ r.1=k from fun e=>hk (e.symm.trans h)),if_neg (show ¬ r.1=k from fun e=>hk (e.symm.trans h))]
    ·rw[if_neg h]
 ·rw[if_neg hs]
  have hn:gO kn z=none:=by cases e:gO kn z <;> simp_all
  clear hs
  induction kn with
  | nil =>
   rw[List.nil_append,bO]
   by_cases hk:k=z
   ·rw[if_pos hk,if_pos hk.symm]
   ·rw[if_neg hk,if_neg fun e=>hk e.symm]
  | cons r rs ih =>
   rw[bO] at hn
   by_cases h:r.1=z
   ·rw[if_pos h] at hn;cases hn
   ·rw[if_neg h] at hn
    rw[List.cons_append,bO,bO,ih hn]
    by_cases h2:r.1=k
    ·rw[if_pos h2,if_pos h2,if_neg (show ¬ k=z from fun e=>h (h2.trans e))]
    ·rw[if_neg h2,if_neg h2]
theorem JO:gO (u6 kn z) k=if k=z then none else gO kn k:=by
 unfold u6
 induction kn with
 | nil=>split <;> rfl
 | cons r kn ih =>
  rw[yp,bO]
  by_cases h:r.1=z
  ·rw[if_neg (by simp [h]),ih]
   by_cases hk:k=z
   ·rw[if_pos hk,if_pos hk]
   ·rw[if_neg hk,if_neg hk,if_neg (show ¬ r.1=k from fun e=>hk (e.symm.trans h))]
  ·rw[if_pos (by simp [h]),bO,ih]
   by_cases hk:k=z
   ·rw[if_pos hk,if_pos hk,if_neg (show ¬ r.1=k from fun e=>h (e.trans hk))]
   ·rw[if_neg hk,if_neg hk]
theorem KI.put (h:KI cs kn) (hz:z∈KS) (hw:Wg cs ws):KI cs (oU kn z ws):=by
 unfold oU
 split
 ·refine⟨?_,fun r hr=>?_⟩
  ·have:(kn.map fun r=>if r.1=z then (r.1,ws) else r).map (·.1)=kn.map (·.1):=by
    rw[zw];exact zW fun r _=>by dsimp only [Function.comp];split <;> rfl
   rw[this];exact h.nd
  ·obtain⟨r0,vo,e⟩:=zi.mp hr
   by_cases q:r0.1=z
   ·rw[if_pos q] at e;subst e;exact⟨(h.ok r0 vo).1,hw⟩
   ·rw[if_neg q] at e;subst e;exact h.ok r0 vo
 ·rename_i hs
  refine⟨?_,fun r hr=>?_⟩
  ·rw[zF]
   refine lJ h.nd fun m=>hs ?_
   obtain⟨OZ,e⟩:=lh m
   show (gO kn z).isSome=true
   rw[show gO kn z=some OZ from e];rfl
  ·rcases zI.mp hr with hr | hr
   ·exact h.ok r hr
   ·rw[zE.mp hr];exact⟨hz,hw⟩
theorem KI.del (h:KI cs kn) (z:Str):KI cs (u6 kn z) :=
 ⟨(List.Sublist.map _ List.filter_sublist).nodup h.nd,fun r hr=>h.ok r (yA.mp hr).1⟩
def GD (ks:List Str) (cs:List (Str×Str)) (kn:Kn) (d:D):Prop :=
 (∃ z ws,z∈ks∧Wg cs ws∧gO kn z=none∧d=.tup [.str "put",.str z,.tup ws])∨(∃ z ws,z∈KS∧Wg cs ws∧(gO kn z).isSome=true∧d=.tup [.str "change",.str z,.tup ws])∨∃ z,z∈KS∧(gO kn z).isSome=true∧d=.tup [.str "take",.str z]
def Ly (S:aU) (n:Nat) (d:D):Prop:=∃ p,Dp S d p∧p.canLay0=true∧p.depth≤n
theorem Ly.all:∀ {ds:List D},(∀ d∈ds,Ly S n d)→∃ ps:List PyData,DpAll S ds ps∧PyData.canLayAll0 ps=true∧PyData.depthAll ps≤n∧ps.length=ds.length
 | [],_=>⟨[],by simp only [DpAll],rfl,yj _,rfl⟩
 | d :: ds,h=>by
  obtain⟨p,h1,h2,h3⟩:=h d zu
  obtain⟨ps,k1,k2,k3,k4⟩:=Ly.all fun x hx=>h x (zg _ hx)
  refine⟨p :: ps,by simp only [DpAll];exact⟨p,ps,rfl,h1,k1⟩,by simp only [PyData.canLayAll0,h2,k2,Bool.and_self],by simp only [PyData.depthAll];omega,by rw[zK,zK,k4]⟩
theorem Ly.tup {S:aU}{n:Nat}{ds:List D} (h:∀ d∈ds,Ly S n d):Ly S (n+1) (.tup ds):=by
 obtain⟨ps,k1,k2,k3,_⟩:=Ly.all h
 exact⟨.tuple ps,by simp only [Dp];exact⟨ps,rfl,k1⟩,by simp only [PyData.canLay0];exact k2,by simp only [PyData.depth];omega⟩
theorem Ly.str (h:PyData.strOk z=true):Ly S 0 (.str z):=⟨.str z,by simp only [Dp],by simp only [PyData.canLay0];exact h,by simp only [PyData.depth];omega⟩
theorem Ly.le (h:Ly S n d) (l:n≤m):Ly S m d:=by obtain⟨p,a,b,c⟩:=h;exact⟨p,a,b,zG c l⟩
theorem Ly.aw:Ly S 0 .aw:=⟨.none,by simp only [Dp],by simp only [PyData.canLay0],by simp only [PyData.depth];omega⟩
theorem Ly.plain (h:fS d=true):Ly S 0 d:=by
 cases d with
 | aw=>exact Ly.aw
 | int i=>exact⟨.int i,by simp only [Dp],by simp only [PyData.canLay0],by simp only [PyData.depth];omega⟩
 | str z =>
  have h:(decide (z.cps.size≤40) && PyData.strOk z)=true:=h
  rw[zN] at h
  exact Ly.str h.2
 | _=>cases h
theorem Ly.dl (h:Ly S n d):∃ p,Dl S d p∧p.canLay0=true∧p.depth≤n:=by
 obtain⟨p,a,b,c⟩:=h
 refine⟨p,?_,b,c⟩
 cases d with
 | ref x=>simp only [Dp] at a
 | _=>exact a
theorem Ly.lst {S:aU}{n:Nat}{a:Addr}{ds:List D} (e:S a=some (.lst ds)) (h:∀ d∈ds,Ly S n d):∃ p,Dl S (.ref a) p∧p.canLay0=true∧p.depth≤n+1∧∀ b,S b=some (.lst ds)→Dl S (.ref b) p:=by
 obtain⟨ps,k1,k2,k3,_⟩:=Ly.all h
 exact⟨.list ps,⟨ds,ps,e,rfl,k1⟩,by simp only [PyData.canLay0];exact k2,by simp only [PyData.depth];omega,fun b hb=>⟨ds,ps,hb,rfl,k1⟩⟩
theorem w5 {S:aU}{a b:Addr}{ds:List D}{R:KD}{neg:Bool} (e1:S a=some (.lst ds)) (e2:S b=some (.lst ds)) (h:∀ d∈ds,Ly S 60 d) (q:R (.bl (!neg)) S):IX neg (.ref a) (.ref b) S R:=by
 obtain⟨p,k1,k2,k3,k4⟩:=Ly.lst e1 h
 have e:(if neg then !PyData.eqv p p else PyData.eqv p p)=!neg:=by rw[SeqAt.eqv_refl p k2];cases neg <;> rfl
 exact⟨p,p,k1,k4 b e2,k2,k2,.inl (by omega),by rw[e];exact q⟩
theorem GL (ps:List PyData):PyData.eqv (.list ps) (.list [])=ps.isEmpty:=by cases ps <;> simp [PyData.eqv,PyData.eqvAll]
theorem eq_nil {S:aU}{a b:Addr}{ds:List D}{R:KD} (e1:S a=some (.lst ds)) (e2:S b=some (.lst [])) (h:∀ d∈ds,Ly S 60 d) (q:R (.bl ds.isEmpty) S):IX false (.ref a) (.ref b) S R:=by
 obtain⟨ps,k1,k2,k3,k4⟩:=Ly.all h
 refine⟨.list ps,.list [],⟨ds,ps,e1,rfl,k1⟩,⟨[],[],e2,rfl,by simp only [DpAll]⟩,by simp only [PyData.canLay0];exact k2,by simp only [PyData.canLay0,PyData.canLayAll0],.inl (by simp only [PyData.depth];omega),?_⟩
 rw[if_neg zd,GL,show ps.isEmpty=ds.isEmpty by cases ps <;> cases ds <;> first | rfl | cases k4];exact q
theorem Wg.all (h:Wg cs ws):∀ d∈ws,fS d=true:=by
 unfold Wg at h
 induction h with
 | nil=>exact fun _ h=>(nomatch h)
 | cons r t ih =>
  intro d hd
  rcases ze.mp hd with e | hd
  ·rw[e];exact r.2
  ·exact ih d hd
theorem Wg.ly {cs:List (Str×Str)}{ws:List D} (h:Wg cs ws) {S:aU} : Ly S 1 (.tup ws):=Ly.tup fun d hd=>Ly.plain (h.all d hd)
theorem KI.ly {cs:List (Str×Str)}{kn:Kn} (hI:KI cs kn) {ss:List Str} (hp:ss.Perm (kn.map (·.1))) {S:aU} : ∀ d∈ss.map D.str,Ly S 60 d:=fun d hd=>by
 obtain⟨z,hz,rfl⟩:=zi.mp hd
 obtain⟨r,hr,e⟩:=zi.mp (hp.mem_iff.mp hz)
 rw[← e]
 exact (Ly.str (jD _ (hI.ok r hr).1).2.2).le (yj _)
def GN:gN:=fun ds S R _=>∃ l cs lk kn,ds=[.ref l,.tup (cs.map aB),.ref lk]∧Gd cs∧S l=some .well∧S lk=some (.du (h7 kn))∧KI cs kn∧∀ d,GD KT cs kn d→R d S
theorem JP (T:Txt w K mg t):Ok P w base T.nr 4 GN:=by
 have aQ:Ok P w base T.ar 1 nH:=wY T
 have JQ:Ok P w base T.tw 2 _:=NY T
 have lj:Ok P w base T.cA 3 _:=DP T
 refine T.nr.F.ok g8 (by rintro ds S R Z ⟨_,_,_,_,e,_⟩;rw[e];rfl) ?_
 rintro bq A outer s H E ds S R Z hr ⟨l,cs,lk,kn,e,hg,hw,hk,hI,q⟩
 subst e
 have hlen:=hI.len
 refine⟨_,(sc (hX (i:=3) g8.nd (cf (aQ.mono (by decide)) hr T.ar.m T.ar.k T.ar.b d0 (ac (dv 0) (ac di an)))) (sc (hX (i:=4) g8.nd (cb p7 T.fM eG (ac (dv 2) an))) (sc (si (twd (twor (cJ cg hr.units (dv 4) (fY an)) (tw1 (cJ Ff hr.units (dv 3) di)))) (sc (hX (i:=5) g8.nd (cf (JQ.mono (by decide)) hr T.tw.m T.tw.k T.tw.b d0 (ac (dv 0) an))) (sc (si (cJ CK hr.units (dv 5) (dv 2)) (s1 (sr (gB (ac ds (ac (dv 5) (ac (cf (lj.mono (by decide)) hr T.cA.m T.cA.k T.cA.b d0 (ac (dv 0) (ac (dv 1) an))) an)))))) s0) (s1 (sr (gB (ac ds (ac (dv 5) (ac (cf (lj.mono (by decide)) hr T.cA.m T.cA.k T.cA.b d0 (ac (dv 0) (ac (dv 1) an))) an)))))))) s0) (sc (hX (i:=5) g8.nd (ix hr.units (dv 4) (cf (aQ.mono (by decide)) hr T.ar.m T.ar.k T.ar.b d0 (ac (dv 0) (ac (cb cj T.bR ba (ac (dv 4) an)) an))))) (sc (si (cJ cg hr.units (dv 3) di) (s1 (sr (gB (ac ds (ac (dv 5) an))))) s0) (sc (si (cJ cg hr.units (dv 3) di) (s1 (sr (gB (ac ds (ac (dv 5) (ac (ix hr.units (dv 2) (dv 5)) an)))))) s0) (s1 (sr (gB (ac ds (ac (dv 5) (ac (cf (lj.mono (by decide)) hr T.cA.m T.cA.k T.cA.b d0 (ac (dv 0) (ac (dv 1) an))) an)))))))))))),?_⟩
 have ek:(h7 kn).map (·.1)=(kn.map (·.1)).map Sum.inr:=by unfold h7;rw[zw,zw];rfl
 have el:(h7 kn).length<64:=by unfold h7;rw[zc];omega
 refine⟨_,rfl,l,_,rfl,(by decide),(by decide),hw,fun way h0 h1=>⟨_,rfl,lk,h7 kn,kn.map (·.1),rfl,hk,ek,el,fun ss hp hs p u5=>?_⟩⟩
 refine⟨_,rfl,DD,fun p2 mK=>?_⟩
 generalize BO:(S.set p (.lst (ss.map D.str))).set p2 (.lst [])=S2
 have sub:Sub S S2:=by rw[← BO];exact (Sub.new u5).trans (.new mK)
 have q_:=sub _ _ hw
 have gC:=sub _ _ hk
 have DR:S2 p=some (.lst (ss.map D.str)):=by
  rw[← BO,ag (show p≠p2 by rintro rfl;rw[af] at mK;cases mK),af]
 have WI:S2 p2=some (.lst []):=by rw[← BO,af]
 have fin:∀ d,GD KT cs kn d→Fo S2 (R d):=fun d hd=>⟨S,sub,q d hd⟩
 have ed:∀ z,cz (h7 kn) (.inr z)=(gO kn z).map D.tup:=qI kn
 have Tr:∀ z,(cz (h7 kn) (.inr z)).isSome=(gO kn z).isSome:=fun z=>by rw[ed];cases gO kn z <;> rfl
 refine eq_nil DR WI (hI.ly hp) ⟨_,rfl,?_⟩
 refine dw (fun h=>?_) (fun h=>⟨_,rfl,_,rfl,dw (fun h3=>?_) (fun h3=>?_)⟩)
 ·refine⟨_,rfl,l,[],rfl,rfl,q_,fun d ⟨z,hz,e⟩=>?_⟩
  subst e
  refine⟨_,rfl,_,rfl,.inr ⟨h7 kn,.inr z,gC,rfl,_,rfl,?_⟩⟩
  refine dw (fun h5=>?_) (fun h5=>?_)
  ·exact⟨_,rfl,_,rfl,_,rfl,l,cs,rfl,hg,q_,fun ws mE=>⟨nB,fin _ (.inr (.inl ⟨z,ws,GG hz,mE,(Tr z).symm.trans h5,rfl⟩))⟩⟩
  ·have h6:gO kn z=none:=by have:=(Tr z).symm.trans h5;cases e:gO kn z with | none=>rfl | some _=>rw[e] at this;cases this
   exact⟨_,rfl,_,rfl,_,rfl,l,cs,rfl,hg,q_,fun ws mE=>⟨nB,fin _ (.inl ⟨z,ws,hz,mE,h6,rfl⟩)⟩⟩
 ·refine⟨_,rfl,l,[],rfl,rfl,q_,fun d ⟨z,hz,e⟩=>?_⟩
  subst e
  refine⟨_,rfl,_,rfl,.inr ⟨h7 kn,.inr z,gC,rfl,_,rfl,?_⟩⟩
  refine dw (fun h5=>?_) (fun h5=>?_)
  ·exact⟨_,rfl,_,rfl,_,rfl,l,cs,rfl,hg,q_,fun ws mE=>⟨nB,fin _ (.inr (.inl ⟨z,ws,GG hz,mE,(Tr z).symm.trans h5,rfl⟩))⟩⟩
  ·have h6:gO kn z=none:=by have:=(Tr z).symm.trans h5;cases e:gO kn z with | none=>rfl | some _=>rw[e] at this;cases this
   exact⟨_,rfl,_,rfl,_,rfl,l,cs,rfl,hg,q_,fun ws mE=>⟨nB,fin _ (.inl ⟨z,ws,hz,mE,h6,rfl⟩)⟩⟩
 ·have IF:0<(ss.map D.str).length:=by
   have h:(ss.map D.str).isEmpty=false:=h
   cases ss with
   | nil=>cases h
   | cons a ss=>exact Nat.succ_pos _
  have hle:(ss.map D.str).length≤30:=by rw[zc,hp.length_eq,zc];exact hlen
  refine⟨_,rfl,_,rfl,_,rfl,_,rfl,.inl ⟨_,DR,l,_,rfl,(by omega),NU (by omega) (by omega),q_,fun n hn0 SQ=>?_⟩⟩
  obtain⟨v,a1,a2⟩:=Bh (l:=ss.map D.str) hn0 SQ
  obtain⟨z,hz,rfl⟩:=zi.mp (zM a2)
  obtain⟨ws,mE⟩:=lh (hp.mem_iff.mp hz)
  obtain⟨WJ,hwg⟩:=hI.ok _ (px mE)
  have WK:(gO kn z).isSome=true:=by rw[mE];rfl
  refine⟨_,_,DR,a1,_,rfl,_,rfl,?_⟩
  refine dw (fun h4=>?_) (fun h4=>?_)
  ·exact⟨_,rfl,eV,fin _ (.inr (.inr ⟨z,WJ,WK,rfl⟩))⟩
  refine⟨_,rfl,_,rfl,?_⟩
  refine dw (fun h4=>?_) (fun h4=>?_)
  ·exact⟨_,rfl,_,rfl,_,rfl,h7 kn,.tup ws,gC,by rw[ed,mE];rfl,nB,fin _ (.inr (.inl ⟨z,ws,WJ,hwg,WK,rfl⟩))⟩
  ·exact⟨_,rfl,_,rfl,_,rfl,l,cs,rfl,hg,q_,fun OZ WL=>⟨nB,fin _ (.inr (.inl ⟨z,OZ,WJ,WL,WK,rfl⟩))⟩⟩
theorem bJ {p:Bool}{A B:Prop} (h:p=false) (q:B):if p=true then A else B:=by rw[h];exact bI q
theorem rm {p:Bool}{A B:Prop} (h:p=true) (q:A):if p=true then A else B:=by rw[h];exact fI q
def Mo (sp:gN):gN:=fun ds S R Z=>∃ R0 Z0,sp ds S R0 Z0∧(∀ d S',R0 d S'→R d S')∧∀ C S',Z0 C S'→Z C S'
theorem JR {P:Program}{w:World}{K:PySem.W.Frag}{mg:Str→Option Value}{base:Heap}{k:Nat}{f:Addr}{fd:FuncData}{ps:List Str}{sp:gN} (F:ck P w K mg base (hW P w) k f fd ps (ud K sp)):ck P w K mg base (hW P w) k f fd ps (ud K (Mo sp)) :=
 F.imp <| by rintro vs H Q E ⟨ds,S,R,Z,v,hS,⟨R0,Z0,h,h1,h2⟩,hR,hZ⟩;exact⟨ds,S,R0,Z0,v,hS,h,fun d S' u H' r=>hR d S' u H' (h1 _ _ r),fun C S' H' z=>hZ C S' H' (h2 _ _ z)⟩
def Lh (t:pv):gN:=fun ds S R Z=>∃ a F cs dl rs k v,ds=[.ref a,k,v]∧br t.ah S a F cs dl rs∧cs.length≤8∧Gt S k∧Lb S v∧dl.length≤8000∧rs.length≤8000 ∧
  (iD cs k v=false→Z t.dR S)∧(iD cs k v=true→aj (rl rs k dl.length)=false→Z t.lW S) ∧
  (∀ z ws,k=.str z→v=.tup ws→iD cs k v=true→aj (rl rs k dl.length)=true→∀ S' F',br t.ah S' a F' cs (dl++[.tup [.str "put",k,v]]) (oS rs z (dl.length+1) ws)→vn F F' S S'→R .aw S')
def w6 (t:pv):gN:=fun ds S R Z=>∃ a F cs dl rs k v,ds=[.ref a,k,v]∧br t.ah S a F cs dl rs∧cs.length≤8∧Gt S k∧Lb S v∧dl.length≤8000∧rs.length≤8000 ∧
  (iD cs k v=false→Z t.dR S)∧(iD cs k v=true→aj (rl rs k dl.length)=true→Z t.iA S) ∧
  (∀ z ws,k=.str z→v=.tup ws→iD cs k v=true→aj (rl rs k dl.length)=false→∀ S' F',br t.ah S' a F' cs (dl++[.tup [.str "change",k,v]]) (oS (k9 rs z dl.length) z (dl.length+1) ws)→vn F F' S S'→R .aw S')
def GO (t:pv):gN:=fun ds S R Z=>∃ a F cs dl rs k,ds=[.ref a,k]∧br t.ah S a F cs dl rs∧Gt S k∧dl.length≤8000 ∧
  (ofStr fZ k=false→Z t.dR S)∧(ofStr fZ k=true→aj (rl rs k dl.length)=true→Z t.iA S) ∧
  (∀ z,k=.str z→fZ z=true→aj (rl rs k dl.length)=false→∀ S',br t.ah S' a F cs (dl++[.tup [.str "take",k]]) (k9 rs z dl.length)→vn F F S S'→R .aw S')
def WM (kn:Kn) (d:D) (gP:Kn):Prop:=(∃ (n:Str) (z:Str) (ws:List D),(n = "put" ∨ n = "change")∧d=.tup [.str n,.str z,.tup ws]∧gP=oU kn z ws)∨∃ z,(gO kn z).isSome=true∧d=.tup [.str "take",.str z]∧gP=u6 kn z
def GP (t:pv):gN:=fun ds S R Z=>∃ a fs,S a=some (.ins t.ah fs)∧fs.map Prod.fst=(["columns", "deeds", "runs"]:List Str) ∧
 ((∃ k v,ds=[.ref a,.tup [.str "put",k,v]]∧Lh t [.ref a,k,v] S R Z)∨(∃ k v,ds=[.ref a,.tup [.str "change",k,v]]∧w6 t [.ref a,k,v] S R Z)∨∃ k,ds=[.ref a,.tup [.str "take",k]]∧GO t [.ref a,k] S R Z)
theorem Yo:∀ {fs:List (Str×D)},m∉fs.map Prod.fst→fs.lookup m=none
 | [],_=>rfl
 | (a,b) :: fs,h=>by
  rw[zA,ze] at h
  rw[zT,show (m == a)=false from beq_false_of_ne fun e=>h (.inl e)]
  exact Yo fun q=>h (.inr q)
theorem WN {fs:List (Str×D)} (h:fs.map Prod.fst=(["columns", "deeds", "runs"]:List Str)) {m:Str} (hm:m∉(["columns", "deeds", "runs"]:List Str)):fs.lookup m=none:=Yo (by rw[h];exact hm)
theorem GQ (T:Txt w K mg t):Ok P w base T.jU 1 (fun ds S R _=>∃ lk kn d gP,ds=[.ref lk,d]∧S lk=some (.du (h7 kn))∧kn.length≤100∧WM kn d gP∧R .aw (S.set lk (.du (h7 gP)))):=by
 refine T.jU.F.ok Aw (by rintro ds S R Z ⟨_,_,_,_,e,_⟩;rw[e];rfl) ?_
 rintro bq A outer s H E ds S R Z hr ⟨lk,kn,d,gP,e,hk,hn,hd,q⟩
 subst e
 refine⟨_,(s1 (si (cJ cg hr.units (ix hr.units (dv 1) di) ds) (s1 (se (ZH (dv 0) (ix hr.units (dv 1) di)))) (s1 (sd hr.units (dv 0) (ix hr.units (dv 1) di) (ix hr.units (dv 1) di))))),?_⟩
 have hl:(h7 kn).length<sizeLine:=bg (by unfold h7;rw[zc];omega)
 rcases hd with ⟨n,z,ws,Hy,rfl,rfl⟩ | ⟨z,hz,rfl,rfl⟩
 ·refine⟨_,rfl,_,rfl,_,rfl,?_⟩
  refine dw (fun h=>?_) (fun h=>?_)
  ·have h:n = "take" := zH h
   rcases Hy with e | e <;> rw[e] at h <;> exact absurd h (by decide)
  ·refine⟨_,rfl,_,rfl,_,rfl,_,rfl,_,rfl,lk,h7 kn,.inr z,rfl,hk,rfl,hl,?_⟩
   rw[N2]
   exact fo q
 ·refine⟨_,rfl,_,rfl,_,rfl,?_⟩
  refine dw (fun h=>?_) (fun h=>absurd h (by decide))
  obtain⟨ws,mE⟩:=Option.isSome_iff_exists.mp hz
  refine⟨_,rfl,lk,h7 kn,rfl,hk,_,rfl,_,rfl,h7 kn,.inr z,.tup ws,hk,rfl,by rw[qI,mE];rfl,?_⟩
  rw[N3]
  exact fo q
def Dd3 (d:D):Prop:=(∃ k v,d=.tup [.str "put",k,v])∨(∃ k v,d=.tup [.str "change",k,v])∨∃ k,d=.tup [.str "take",k]
theorem sx (T:Txt w K mg t):Ok P w base T.bj 1 (fun ds S R _=>∃ d,ds=[d]∧Dd3 d∧R .aw S):=by
 refine T.bj.F.ok sg (by rintro ds S R Z ⟨_,e,_⟩;rw[e];rfl) ?_
 rintro bq A outer s H E ds S R Z hr ⟨d,e,hd,q⟩
 subst e
 refine⟨_,(sc (si (twd (twor (dM (tv (cb cW T.ax au (ac (dv 0) (ac (rL T.cT bT) an))))) (twor (cJ cg hr.units (cb cj T.bR ba (ac (dv 0) an)) di) (tw1 (dM (tv (cb cW T.ax au (ac (ix hr.units (dv 0) di) (ac (rL T.oh i7) an))))))))) (s1 (ug ⟨T.jW⟩ T.qz (ac ds an))) s0) (s1 (si (cJ lN hr.units (X8 T.oO (by decide) (gK T.nv) (ix hr.units (dv 0) di)) (cb cj T.bR ba (ac (dv 0) an))) (s1 (ug ⟨T.jW⟩ T.qz (ac ds an))) s0))),?_⟩
 rcases hd with ⟨k,v,rfl⟩ | ⟨k,v,rfl⟩ | ⟨k,rfl⟩
 ·exact⟨_,rfl,_,_,_,_,rfl,aW,rfl,_,rfl,bI ⟨_,rfl,_,rfl,_,rfl,bJ rfl ⟨_,rfl,_,rfl,_,_,_,_,rfl,cn,rfl,_,rfl,bI ⟨_,rfl,_,rfl,_,rfl,_,rfl,_,rfl,_,rfl,bJ rfl (fo q)⟩⟩⟩⟩
 ·exact⟨_,rfl,_,_,_,_,rfl,aW,rfl,_,rfl,bI ⟨_,rfl,_,rfl,_,rfl,bJ rfl ⟨_,rfl,_,rfl,_,_,_,_,rfl,cn,rfl,_,rfl,bI ⟨_,rfl,_,rfl,_,rfl,_,rfl,_,rfl,_,rfl,bJ rfl (fo q)⟩⟩⟩⟩
 ·exact⟨_,rfl,_,_,_,_,rfl,aW,rfl,_,rfl,bI ⟨_,rfl,_,rfl,_,rfl,bJ rfl ⟨_,rfl,_,rfl,_,_,_,_,rfl,cn,rfl,_,rfl,bI ⟨_,rfl,_,rfl,_,rfl,_,rfl,_,rfl,_,rfl,bJ rfl (fo q)⟩⟩⟩⟩
theorem JS (T:Txt w K mg t):Ok P w base T.jS 7 (GP t):=by
 have iG:Ok P w base T.bj 1 _:=sx T
 have jE:ip P w mg base T.cS 6 (Mo (Lh t)):=JR (NS T)
 have fT:ip P w mg base T.bw 6 (Mo (w6 t)):=JR (DM T)
 have iH:ip P w mg base T.cq 6 (Mo (GO t)):=JR (JH T)
 refine T.jS.F.ok Av (by rintro ds S R Z ⟨_,_,_,_,h⟩;rcases h with ⟨_,_,e,_⟩ | ⟨_,_,e,_⟩ | ⟨_,e,_⟩ <;> rw[e] <;> rfl) ?_
 rintro bq A outer s H E ds S R Z hr ⟨a,fs,ha,hf,h⟩
 rcases h with ⟨k,v,e,h⟩ | ⟨k,v,e,h⟩ | ⟨k,e,h⟩
 ·subst e
  refine⟨_,(sc (se (cf (iG.mono (by decide)) hr T.bj.m T.bj.k T.bj.b d0 (ac (dv 1) an))) (s1 (si (cJ cg hr.units (ix hr.units (dv 1) di) ds) (s1 (se (rN (dv 0) T.aq T.cS.e (jE.mono (by decide)) hr T.cS.b d0 (ac (ix hr.units (dv 1) di) (ac (ix hr.units (dv 1) di) an))))) (s1 (si (cJ cg hr.units (ix hr.units (dv 1) di) ds) (s1 (se (rN (dv 0) T.aq T.bw.e (fT.mono (by decide)) hr T.bw.b d0 (ac (ix hr.units (dv 1) di) (ac (ix hr.units (dv 1) di) an))))) (s1 (se (rN (dv 0) T.aq T.cq.e (iH.mono (by decide)) hr T.cq.b d0 (ac (ix hr.units (dv 1) di) an))))))))),?_⟩
  refine⟨_,rfl,_,rfl,.inl ⟨k,v,rfl⟩,?_⟩
  refine⟨_,rfl,_,rfl,_,rfl,?_⟩
  refine dw (fun _=>?_) (fun h=>absurd h (by decide))
  exact⟨_,rfl,a,_,rfl,ha,WN hf (by decide),_,rfl,_,rfl,_,rfl,_,rfl,fun _=>R .aw,Z,h,fun d S' r=>fo r,fun C S' z=>fo z⟩
 ·subst e
  refine⟨_,(sc (se (cf (iG.mono (by decide)) hr T.bj.m T.bj.k T.bj.b d0 (ac (dv 1) an))) (s1 (si (cJ cg hr.units (ix hr.units (dv 1) di) ds) (s1 (se (rN (dv 0) T.aq T.cS.e (jE.mono (by decide)) hr T.cS.b d0 (ac (ix hr.units (dv 1) di) (ac (ix hr.units (dv 1) di) an))))) (s1 (si (cJ cg hr.units (ix hr.units (dv 1) di) ds) (s1 (se (rN (dv 0) T.aq T.bw.e (fT.mono (by decide)) hr T.bw.b d0 (ac (ix hr.units (dv 1) di) (ac (ix hr.units (dv 1) di) an))))) (s1 (se (rN (dv 0) T.aq T.cq.e (iH.mono (by decide)) hr T.cq.b d0 (ac (ix hr.units (dv 1) di) an))))))))),?_⟩
  refine⟨_,rfl,_,rfl,.inr (.inl ⟨k,v,rfl⟩),?_⟩
  refine⟨_,rfl,_,rfl,_,rfl,?_⟩
  refine dw (fun h=>absurd h (by decide)) (fun _=>?_)
  refine⟨_,rfl,_,rfl,_,rfl,?_⟩
  refine dw (fun _=>?_) (fun h=>absurd h (by decide))
  exact⟨_,rfl,a,_,rfl,ha,WN hf (by decide),_,rfl,_,rfl,_,rfl,_,rfl,fun _=>R .aw,Z,h,fun d S' r=>fo r,fun C S' z=>fo z⟩
 ·subst e
  refine⟨_,(sc (se (cf (iG.mono (by decide)) hr T.bj.m T.bj.k T.bj.b d0 (ac (dv 1) an))) (s1 (si (cJ cg hr.units (ix hr.units (dv 1) di) ds) (s1 (se (rN (dv 0) T.aq T.cS.e (jE.mono (by decide)) hr T.cS.b d0 (ac (ix hr.units (dv 1) di) (ac (ix hr.units (dv 1) di) an))))) (s1 (si (cJ cg hr.units (ix hr.units (dv 1) di) ds) (s1 (se (rN (dv 0) T.aq T.bw.e (fT.mono (by decide)) hr T.bw.b d0 (ac (ix hr.units (dv 1) di) (ac (ix hr.units (dv 1) di) an))))) (s1 (se (rN (dv 0) T.aq T.cq.e (iH.mono (by decide)) hr T.cq.b d0 (ac (ix hr.units (dv 1) di) an))))))))),?_⟩
  refine⟨_,rfl,_,rfl,.inr (.inr ⟨k,rfl⟩),?_⟩
  refine⟨_,rfl,_,rfl,_,rfl,?_⟩
  refine dw (fun h=>absurd h (by decide)) (fun _=>?_)
  refine⟨_,rfl,_,rfl,_,rfl,?_⟩
  refine dw (fun h=>absurd h (by decide)) (fun _=>?_)
  exact⟨_,rfl,a,_,rfl,ha,WN hf (by decide),_,rfl,_,rfl,fun _=>R .aw,Z,h,fun d S' r=>fo r,fun C S' z=>fo z⟩
def p3 (p:Str×Str×Str):D:=.tup [.str p.1,.str p.2.1,.str p.2.2]
def lx (z:Str):Bool:=decide (z = "up") || decide (z = "down")
def AH (z:Str):Bool:=decide (z = "first") || decide (z = "last")
theorem Li (z a b:Str) (x y:V):(([(a,x),(b,y)]:List (Str×V)).lookup z).isSome=(decide (z=a) || decide (z=b)):=by
 rw[zT,zT]
 by_cases h:z=a
 ·rw[show (z == a)=true by simp [h],zt h];rfl
 ·rw[show (z == a)=false by simp [h],zq h]
  by_cases h2:z=b
  ·rw[show (z == b)=true by simp [h2],zt h2];rfl
  ·rw[show (z == b)=false by simp [h2],zq h2];rfl
def gs (cs:List (Str×Str)) (p:Str×Str×Str):Bool:=decide (p.1∈cs.map Prod.fst) && (lx p.2.1 && AH p.2.2)
def DU (cs:List (Str×Str)) (ps:List (Str×Str×Str)) (wy:Str):Bool:=decide (ps.length≤8) && (ps.all (gs cs) && (decide ((ps.map Prod.fst).Nodup) && lx wy))
theorem u7 (l:List (Str×D)) (z:Str) (h:cz (p_ l) (.inr z)=some d):∃ p∈l,p.1=z∧d=p.2:=by
 have all:∀ (l:List (Str×D)) (c:List (Key×D)),cz (l.foldl (fun c p=>dput c (.inr p.1) p.2) c) (.inr z)=some d→(∃ p∈l,p.1=z∧d=p.2)∨cz c (.inr z)=some d:=by
  intro l
  induction l with
  | nil=>intro c h;exact .inr h
  | cons p l ih =>
   intro c h
   rcases ih _ h with ⟨q,hq,e⟩ | h
   ·exact .inl ⟨q,zg _ hq,e⟩
   ·rw[vT] at h
    by_cases e:(.inr z:Key)=.inr p.1
    ·rw[if_pos e] at h;exact .inl ⟨p,zu,(yD e).symm,(zO h).symm⟩
    ·rw[if_neg e] at h;exact .inr h
 rcases all l [] h with h | h
 ·exact h
 ·cases h
def WO (p:Str×Str×Str):Prop:=p.1.cps.size≤1000∧p.2.1.cps.size≤1000∧p.2.2.cps.size≤1000
theorem tH (T:Txt w K mg t):Ok P w base T.gF 1 (fun ds S R _=>∃ z,ds=[.str z]∧R (.bl (lx z)) S):=by
 refine T.gF.F.ok Dz (by rintro ds S R Z ⟨_,e,_⟩;rw[e];rfl) ?_
 rintro bq A outer s H E ds S R Z hr ⟨z,e,q⟩
 subst e
 refine⟨_,(s1 (sr (t_ (cb cW T.ax au (ac (dv 0) (ac (rL T.oh i7) an))) (IW (XW T.wI (dv 0) (dg (v:=.ref t.jl) T.uI rfl fun _=>i9 _)))))),?_⟩
 refine⟨_,rfl,_,_,_,_,rfl,cn,rfl,_,rfl,fI ⟨_,rfl,z,rfl,rfl,?_⟩⟩
 rw[Li]
 exact fo q
theorem DV (T:Txt w K mg t):Ok P w base T.nq 1 (fun ds S R _=>∃ z,ds=[.str z]∧R (.bl (AH z)) S):=by
 refine T.nq.F.ok DB (by rintro ds S R Z ⟨_,e,_⟩;rw[e];rfl) ?_
 rintro bq A outer s H E ds S R Z hr ⟨z,e,q⟩
 subst e
 refine⟨_,(s1 (sr (t_ (cb cW T.ax au (ac (dv 0) (ac (rL T.oh i7) an))) (IW (XW T.wJ (dv 0) (dg (v:=.ref t.jm) T.uJ rfl fun _=>i9 _)))))),?_⟩
 refine⟨_,rfl,_,_,_,_,rfl,cn,rfl,_,rfl,fI ⟨_,rfl,z,rfl,rfl,?_⟩⟩
 rw[Li]
 exact fo q
theorem kr (T:Txt w K mg t):Ok P w base T.bP 3 (fun ds S R _=>∃ cs z,ds=[.tup (cs.map aB),.str z]∧Gd cs∧z.cps.size≤1000∧(∀ k,(z,k)∈cs→R (.str k) S)∧(z∉cs.map Prod.fst→R .aw S)):=by
 have nF:Ok P w base T.eS 2 (nC (ofStr jx)):=qF T
 refine T.bP.F.ok r9 (by rintro ds S R Z ⟨_,_,e,_⟩;rw[e];rfl) ?_
 rintro bq A outer s H E ds S R Z hr ⟨cs,z,e,hg,hz,q1,q2⟩
 subst e
 refine⟨_,(sc (si (dM (tv (cf (nF.mono (by decide)) hr T.eS.m T.eS.k T.eS.b d0 (ac (dv 1) an)))) (s1 (sr dn)) s0) (s1 (sr (ZF hr.units (ct Nu T.NN IC (ac (dv 0) an)) (dv 1))))),?_⟩
 refine⟨_,rfl,.str z,rfl,gt_str hz,_,rfl,?_⟩
 refine dw (fun h=>?_) (fun h=>?_)
 ·have h:jx z=false:=nt h
  refine fo (q2 fun m=>?_)
  obtain⟨c,hc,rfl⟩:=zi.mp m
  rw[(hg.2.2 c hc).1] at h;cases h
 ·have ek:cs.map aB=(cs.map fun c=>(c.1,D.str c.2)).map Fy:=by rw[zw];rfl
  refine⟨_,rfl,(cs.map fun c=>(c.1,D.str c.2)),by rw[ek],fun p hp=>⟨p,_,rfl,af,_,rfl,_,.inr z,af,rfl,S,.new hp,?_⟩⟩
  have h1:=CU (cs.map fun c=>(c.1,D.str c.2)) z
  cases q3:cz (p_ (cs.map fun c=>(c.1,D.str c.2))) (.inr z) with
  | none =>
   rw[q3] at h1
   refine q2 fun m=>?_
   obtain⟨c,hc,e⟩:=zi.mp m
   have:(cs.map fun c=>(c.1,D.str c.2)).any (fun p=>decide (p.1=z))=true:=List.any_eq_true.mpr ⟨_,zi.mpr ⟨c,hc,rfl⟩,zt e⟩
   rw[this] at h1;cases h1
  | some d =>
   obtain⟨p,hp,e1,rfl⟩:=u7 _ _ q3
   obtain⟨c,hc,rfl⟩:=zi.mp hp
   have e1:c.1=z:=e1
   exact q1 c.2 (by rw[← e1];exact hc)
theorem AI (T:Txt w K mg t):Ok P w base T.jR 4 (fun ds S R _=>∃ cs p,ds=[.tup (cs.map aB),p3 p]∧Gd cs∧WO p∧R (.bl (gs cs p)) S):=by
 have iI:Ok P w base T.bP 3 (fun ds S R _=>∃ cs z,ds=[.tup (cs.map aB),.str z]∧Gd cs∧z.cps.size≤1000∧∀ d,aj d=!decide (z∈cs.map Prod.fst)→R d S) :=
  (kr T).Nm <| by rintro ds S R Z ⟨cs,z,e,hg,hz,q⟩;exact⟨cs,z,e,hg,hz,fun k hk=>q _ (by rw[zt (zi.mpr ⟨_,hk,rfl⟩)];rfl),fun hn=>q _ (by rw[zq hn];rfl)⟩
 have qJ:Ok P w base T.gF 1 _:=tH T
 have GR:Ok P w base T.nq 1 _:=DV T
 refine T.jR.F.ok Au (by rintro ds S R Z ⟨_,_,e,_⟩;rw[e];rfl) ?_
 rintro bq A outer s H E ds S R Z hr ⟨cs,p,e,hg,hp,q⟩
 subst e
 refine⟨_,(sc (si (twd (twor (dM (tv (cb cW T.ax au (ac (dv 1) (ac (rL T.cT bT) an))))) (tw1 (cJ lN hr.units (cb cj T.bR ba (ac (dv 1) an)) di)))) (s1 (sr db)) s0) (s1 (sr (t_ (cm mO hr.units (cf (iI.mono (by decide)) hr T.bP.m T.bP.k T.bP.b d0 (ac (dv 0) (ac (ix hr.units (dv 1) di) an))) dn) (t_ (cf (qJ.mono (by decide)) hr T.gF.m T.gF.k T.gF.b d0 (ac (ix hr.units (dv 1) di) an)) (IW (cf (GR.mono (by decide)) hr T.nq.m T.nq.k T.nq.b d0 (ac (ix hr.units (dv 1) di) an)))))))),?_⟩
 refine⟨_,rfl,_,_,_,_,rfl,aW,rfl,_,rfl,bI ⟨_,rfl,_,rfl,_,rfl,bI ?_⟩⟩
 refine⟨_,rfl,_,rfl,_,rfl,cs,p.1,rfl,hg,hp.1,fun d hd=>⟨_,rfl,?_⟩⟩
 unfold gs at q
 refine dw (fun h=>?_) (fun h=>?_)
 ·have h:(!aj d)=true:=h
  rw[hd,Bool.not_not] at h
  rw[h,zV] at q
  refine⟨_,rfl,_,rfl,p.2.1,rfl,_,rfl,?_⟩
  refine dw (fun h2=>?_) (fun h2=>?_)
  ·rw[h2,zV] at q
   exact⟨_,rfl,_,rfl,p.2.2,rfl,fo q⟩
  ·rw[h2,zP] at q
   exact fo q
 ·have h:(!aj d)=false:=h
  rw[hd,Bool.not_not] at h
  rw[h,zP] at q
  exact fo q
theorem jF (T:Txt w K mg t):Ok P w base T.bz 5 (fun ds S R Z=>∃ cs ps wy,ds=[.tup (cs.map aB),.tup [.tup (ps.map p3),.str wy]]∧Gd cs∧(∀ p∈ps,WO p)∧(DU cs ps wy=true→R .aw S)∧(DU cs ps wy=false→Z t.kP S)):=by
 have DX:Ok P w base T.jR 4 _:=AI T
 have qJ:Ok P w base T.gF 1 _:=tH T
 refine T.bz.F.ok fN (by rintro ds S R Z ⟨_,_,_,e,_⟩;rw[e];rfl) ?_
 rintro bq A outer s H E ds S R Z hr ⟨cs,ps,wy,e,hg,hp,q1,q2⟩
 subst e
 have Yp:(ps.map p3).length=ps.length:=zc _
 refine⟨_,(sc (si (twd (twor (dM (tv (cb cW T.ax au (ac (dv 1) (ac (rL T.cT bT) an))))) (tw1 (cJ lN hr.units (cb cj T.bR ba (ac (dv 1) an)) di)))) (s1 (ug ⟨T.dD⟩ T.eU (ac ds an))) s0) (sc (hX (i:=2) fN.nd (ix hr.units (dv 1) di)) (sc (si (twd (twor (dM (tv (cb cW T.ax au (ac (dv 2) (ac (rL T.cT bT) an))))) (tw1 (cJ ua hr.units (cb cj T.bR ba (ac (dv 2) an)) (dg (v:=.int 8) T.js ⟨_,rfl⟩ fun _=>aO _))))) (s1 (ug ⟨T.dD⟩ T.eU (ac ds an))) s0) (sc (si (dM (tv (cb lQ T.l7 ib (ac (xt (N:=["part", "columns"]) (src:=[none,some 0]) (nZ (ae cY) ["columns", "order", "parts", "names"] rfl rfl (by decide +kernel)) (I9 (dv 2)) (um (show (["part", "columns"]:List Str).Nodup by decide +kernel)) (bt rfl) bu (fun _ _ _ _ _=>xr) (fun _ _ _ _ _=>(cf (DX.mono (by decide)) hr T.jR.m T.jR.k T.jR.b d0 (ac (dv 1) (ac (dv 0) an))))) an)))) (s1 (ug ⟨T.dD⟩ T.eU (ac ds an))) s0) (sc (OM (i:=3) (N:=["part"]) (src:=[none]) fN.nd (nZ (ae cY) ["columns", "order", "parts", "names"] rfl rfl (by decide +kernel)) (I9 (dv 2)) (um (show (["part"]:List Str).Nodup by decide +kernel)) (bt rfl) bu (fun _ _ _ _ _=>xr) (fun _ _ _ _ _=>(ix hr.units (dv 0) di))) (sc (si (cJ lN hr.units (XU (dv 3) T.bR T.La) (cb cj T.bR ba (ac (dv 3) an))) (s1 (ug ⟨T.dD⟩ T.eU (ac ds an))) s0) (s1 (si (dM (tv (cf (qJ.mono (by decide)) hr T.gF.m T.gF.k T.gF.b d0 (ac (ix hr.units (dv 1) di) an)))) (s1 (ug ⟨T.dD⟩ T.eU (ac ds an))) s0)))))))),?_⟩
 refine⟨_,rfl,_,_,_,_,rfl,aW,rfl,_,rfl,bI ⟨_,rfl,_,rfl,_,rfl,bI ?_⟩⟩
 refine⟨_,rfl,_,rfl,_,rfl,_,_,_,_,rfl,aW,rfl,_,rfl,bI ⟨_,rfl,_,rfl,_,rfl,?_⟩⟩
 refine dw (fun h=>?_) (fun h=>?_)
 ·have h:(8:Int)<(((ps.map p3).length:Nat):Int):=zH h
  rw[Yp] at h
  exact⟨so,fo (q2 (by unfold DU;rw[zq (by omega)];rfl))⟩
 have h:¬ (8:Int)<(((ps.map p3).length:Nat):Int):=yx h
 rw[Yp] at h
 have h8:ps.length≤8:=by omega
 unfold DU at q1 q2
 rw[zt h8,zV] at q1 q2
 refine⟨_,rfl,_,.inl rfl,?_⟩
 refine qD (fun d v=>∃ p,d=p3 p∧v=.bl (gs cs p)) trivial (by show (ps.map p3).length≤_;omega) (fun d hd Q hQ=>?_) fun out ho p u5=>?_
 ·obtain⟨p,Yq,rfl⟩:=zi.mp hd
  exact⟨_,rfl,_,rfl,cs,p,rfl,hg,hp p Yq,hQ _ ⟨p,rfl,rfl⟩⟩
 have eo:out=(ps.map (gs cs)).map D.bl:=by
  have:∀ {ps:List (Str×Str×Str)}{out:List D},Paired (fun d v=>∃ p,d=p3 p∧v=.bl (gs cs p)) (ps.map p3) out→out=(ps.map (gs cs)).map D.bl:=by
   intro ps
   induction ps with
   | nil=>intro out h;cases h;rfl
   | cons x ps ih =>
    intro out h
    cases h with
    | cons r t =>
     obtain⟨p,e1,e2⟩:=r
     have:x=p:=by
      obtain⟨a,b,c⟩:=x
      obtain⟨a',b',c'⟩:=p
      unfold p3 at e1
      injection e1 with e1
      injection e1 with h1 e1
      injection e1 with h2 e1
      injection e1 with h3 _
      injection h1 with h1
      injection h2 with h2
      injection h3 with h3
      rw[show a=a' from h1,show b=b' from h2,show c=c' from h3]
     rw[e2,ih t,← this];rfl
  exact this ho
 subst eo
 refine⟨.ref p,ps.map (gs cs),rfl,af,_,rfl,?_⟩
 rw[show (ps.map (gs cs)).all id=ps.all (gs cs) from all_map]
 refine dw (fun ha=>?_) (fun ha=>?_)
 ·have ha:=nt ha
  exact⟨so,S,.new u5,q2 (by rw[ha];rfl)⟩
 have ha:=nf ha
 rw[ha,zV] at q1 q2
 refine⟨_,rfl,_,.inl rfl,?_⟩
 refine comp_map (fun d=>match d with | .tup (x :: _)=>x | _=>.aw) trivial (by show (ps.map p3).length≤_;omega) (fun d hd Q hQ=>?_) fun p2 mK=>?_
 ·obtain⟨p,Yq,rfl⟩:=zi.mp hd
  exact⟨_,rfl,_,rfl,hQ⟩
 have e3:(ps.map p3).map (fun d=>match d with | .tup (x :: _)=>x | _=>.aw)=(ps.map Prod.fst).map D.str:=by rw[zw,zw];rfl
 rw[show (⟨ps.map p3,fun _=>True⟩:Ft).xs=ps.map p3 from rfl,e3]
 have sb:Sub S ((S.set p (.lst ((ps.map (gs cs)).map D.bl))).set p2 (.lst ((ps.map Prod.fst).map D.str))):=(Sub.new u5).trans (.new mK)
 have BO:((S.set p (.lst ((ps.map (gs cs)).map D.bl))).set p2 (.lst ((ps.map Prod.fst).map D.str))) p2=some (.lst ((ps.map Prod.fst).map D.str)):=af
 generalize (S.set p (.lst ((ps.map (gs cs)).map D.bl))).set p2 (.lst ((ps.map Prod.fst).map D.str))=S2 at sb BO ⊢
 refine⟨_,rfl,ps.map Prod.fst,BO,by rw[zc];omega,_,rfl,_,rfl,.inl ⟨_,BO,_,rfl,?_⟩⟩
 have e4:decide ((((iM (ps.map Prod.fst)).length:Nat):Int)=((((ps.map Prod.fst).map D.str).length:Nat):Int))=decide ((ps.map Prod.fst).Nodup):=by
  rw[yC,← sW,zc];omega
 refine dw (fun hn=>?_) (fun hn=>?_)
 ·have hn:(!decide ((((iM (ps.map Prod.fst)).length:Nat):Int)=((((ps.map Prod.fst).map D.str).length:Nat):Int)))=true:=hn
  rw[e4] at hn
  exact⟨so,S,sb,q2 (by rw[nt hn];rfl)⟩
 have hn:(!decide ((((iM (ps.map Prod.fst)).length:Nat):Int)=((((ps.map Prod.fst).map D.str).length:Nat):Int)))=false:=hn
 rw[e4] at hn
 rw[nf hn,zV] at q1 q2
 refine⟨_,rfl,_,rfl,wy,rfl,_,rfl,?_⟩
 refine dw (fun hw=>?_) (fun hw=>?_)
 ·exact⟨so,S,sb,q2 (nt hw)⟩
 ·exact⟨S,sb,q1 (nf hw)⟩
def qL (o:Str) (c:Str×Str) (v:D):Prop:=o = "is" ∨ (v≠.aw∧(o = "below" ∨ o = "above" ∨ (o = "begins" ∧ c.2 = "word")))
def Lf (cs:List (Str×Str)) (d:D):Prop :=
 d=.tup [.str "every"]∨(∃ ks:List Str,d=.tup [.str "key",.tup (ks.map .str)]∧ks.length≤8∧∀ k∈ks,k∈KS) ∨
 ∃ (o:Str) (c:Str×Str) (v:D),c∈cs∧Vg c.2 v∧qL o c v∧d=.tup [.str o,.str c.1,v]
def Sg (cs:List (Str×Str)):Nat→D→Prop
 | 0,_=>False
 | n+1,d=>Lf cs d∨(∃ e,d=.tup [.str "not",e]∧Sg cs n e)∨∃ (o:Str) (ds:List D),(o = "and" ∨ o = "or")∧d=.tup [.str o,.tup ds]∧ds.length≤2∧∀ e∈ds,Sg cs n e
theorem RL (h:Vg k v):Gt S v:=by
 have h:=h.2
 cases v with
 | aw=>exact⟨⟨_,rfl⟩,fun z e=>by cases e⟩
 | int i=>exact⟨⟨_,rfl⟩,fun z e=>by cases e⟩
 | str z =>
  unfold fS at h
  simp only [zN,yq] at h
  exact gt_str (by omega)
 | _=>cases h
theorem w9 (T:Txt w K mg t):Ok P w base T.aZ 1 (fun ds S R _=>∃ es,ds=[.tup es]∧es.length≤8∧R (.bl true) S):=by
 refine T.aZ.F.ok l9 (by rintro ds S R Z ⟨_,e,_⟩;rw[e];rfl) ?_
 rintro bq A outer s H E ds S R Z hr ⟨es,e,hl,q⟩
 subst e
 refine⟨_,(s1 (sr (t_ (cb cW T.ax au (ac (dv 0) (ac (rL T.cT bT) an))) (IW (cm kE hr.units (cb cj T.bR ba (ac (dv 0) an)) (dg (v:=.int 8) T.kT ⟨_,rfl⟩ fun _=>aO _)))))),?_⟩
 refine⟨_,rfl,_,_,_,_,rfl,aW,rfl,_,rfl,fI ⟨_,rfl,_,rfl,?_⟩⟩
 have e1:decide (((es.length:Nat):Int)≤8)=true:=zt (by omega)
 show Fo S (R (.bl (decide (((es.length:Nat):Int)≤8))))
 rw[e1]
 exact fo q
theorem qM (T:Txt w K mg t):Ok P w base T.dG 4 (fun ds S R _=>∃ cs o c v,ds=[.tup (cs.map aB),.tup [.str o,.str c.1,v]]∧Gd cs∧c∈cs∧Vg c.2 v∧qL o c v∧R (.bl true) S):=by
 have iI:Ok P w base T.bP 3 _:=kr T
 have k8:Ok P w base T.c_ 3 _:=oo T
 refine T.dG.F.ok ju (by rintro ds S R Z ⟨_,_,_,_,e,_⟩;rw[e];rfl) ?_
 rintro bq A outer s H E ds S R Z hr ⟨cs,o,c,v,e,hg,hc,hv,ho,q⟩
 subst e
 have hn:∀ k,(c.1,k)∈cs→k=c.2:=fun k hk=>by
  have:=iE hg.2.1 hk hc rfl
  rw[← this]
 refine⟨_,(sc (hX (i:=2) ju.nd (cf (iI.mono (by decide)) hr T.bP.m T.bP.k T.bP.b d0 (ac (dv 0) (ac (ix hr.units (dv 1) di) an)))) (sc (si (twd (twor (cJ rM hr.units (dv 2) dn) (tw1 (dM (tv (cf (k8.mono (by decide)) hr T.c_.m T.c_.k T.c_.b d0 (ac (dv 2) (ac (ix hr.units (dv 1) di) an)))))))) (s1 (sr db)) s0) (sc (si (cJ cg hr.units (ix hr.units (dv 1) di) ds) (s1 (sr db)) s0) (sc (si (twd (twand (cJ cg hr.units (ix hr.units (dv 1) di) ds) (tw1 (cJ lN hr.units (dv 2) ds)))) (s1 (sr db)) s0) (s1 (sr (cm mO hr.units (ix hr.units (dv 1) di) dn))))))),?_⟩
 refine⟨_,rfl,_,rfl,_,rfl,cs,c.1,rfl,hg,nE (hg.2.2 c hc).1,fun k hk=>?_,fun hk=>absurd (zi.mpr ⟨c,hc,rfl⟩) hk⟩
 cases hn k hk
 refine⟨_,rfl,_,rfl,bI ⟨_,rfl,_,rfl,_,rfl,c.2,v,rfl,RL hv,_,rfl,?_⟩⟩
 rw[hv.1]
 refine bI ⟨_,rfl,_,rfl,_,rfl,?_⟩
 rcases ho with rfl | ⟨hvn,ho⟩
 ·exact rm (by decide +kernel) (fo q)
 have Rb:aj v=false:=by cases v <;> first | rfl | exact absurd rfl hvn
 have e9:(!aj v)=true:=by rw[Rb];rfl
 have fin:Fo S (R (.bl (!aj v))):=by rw[e9];exact fo q
 rcases ho with rfl | rfl | ⟨rfl,hw⟩
 ·refine bJ (by decide +kernel) ⟨_,rfl,_,rfl,_,rfl,bJ (by decide +kernel) ⟨_,rfl,_,rfl,fin⟩⟩
 ·refine bJ (by decide +kernel) ⟨_,rfl,_,rfl,_,rfl,bJ (by decide +kernel) ⟨_,rfl,_,rfl,fin⟩⟩
 ·refine bJ (by decide +kernel) ⟨_,rfl,_,rfl,_,rfl,rm (by decide +kernel) ⟨_,rfl,_,rfl,?_⟩⟩
  rw[hw]
  exact bJ (by decide +kernel) ⟨_,rfl,_,rfl,fin⟩
theorem JT (h:z∈KS):z.cps.size≤1000:=zG (jD z h).2.1 (by decide)
theorem u9 (T:Txt w K mg t):Ok P w base T.fE 5 (fun ds S R _=>∃ cs n d,ds=[.tup (cs.map aB),d]∧Gd cs∧Sg cs n d∧R (.bl true) S):=by
 have sy:Ok P w base T.dG 4 _:=qM T
 have hU:Ok P w base T.aZ 1 _:=w9 T
 have fQ:Ok P w base T.cE 2 (nC (ofStr fZ)):=jX T
 refine T.fE.F.ok uQ (by rintro ds S R Z ⟨_,_,_,e,_⟩;rw[e];rfl) ?_
 rintro bq A outer s H E ds S R Z hr ⟨cs,n,d,e,hg,hs,q⟩
 subst e
 refine⟨_,(sc (si (twd (twor (dM (tv (cb cW T.ax au (ac (dv 1) (ac (rL T.cT bT) an))))) (twor (cJ cg hr.units (cb cj T.bR ba (ac (dv 1) an)) di) (tw1 (dM (tv (cb cW T.ax au (ac (ix hr.units (dv 1) di) (ac (rL T.oh i7) an))))))))) (s1 (sr db)) s0) (sc (si (cJ lN hr.units (X8 T.nu (by decide) (gK T.l6) (ix hr.units (dv 1) di)) (cb cj T.bR ba (ac (dv 1) an))) (s1 (sr db)) s0) (sc (si (cJ CK hr.units (ix hr.units (dv 1) di) (gB (ac ds (ac ds (ac ds (ac ds an)))))) (s1 (sr (cf (sy.mono (by decide)) hr T.dG.m T.dG.k T.dG.b d0 (ac (dv 0) (ac (dv 1) an))))) s0) (sc (si (cJ cg hr.units (ix hr.units (dv 1) di) ds) (s1 (sr (t_ (cf (hU.mono (by decide)) hr T.aZ.m T.aZ.k T.aZ.b d0 (ac (ix hr.units (dv 1) di) an)) (IW (cb lQ T.l7 ib (ac (xt (N:=["key"]) (src:=[none]) (nZ (ae f_) ["columns", "thing"] rfl rfl (by decide +kernel)) (I9 (ix hr.units (dv 1) di)) (um (show (["key"]:List Str).Nodup by decide +kernel)) (bt rfl) bu (fun _ _ _ _ _=>xr) (fun _ _ _ _ _=>(cf (fQ.mono (by decide)) hr T.cE.m T.cE.k T.cE.b d0 (ac (dv 0) an)))) an)))))) s0) (sc (si (cJ CK hr.units (ix hr.units (dv 1) di) (gB (ac ds (ac ds an)))) (s1 (sr (cf (hU.mono (by decide)) hr T.aZ.m T.aZ.k T.aZ.b d0 (ac (ix hr.units (dv 1) di) an)))) s0) (s1 (sr db))))))),?_⟩
 cases n with
 | zero=>exact hs.elim
 | succ n =>
 rcases hs with (rfl | ⟨ks,rfl,Yr,CZ⟩ | ⟨o,c,v,hc,hv,ho,rfl⟩) | ⟨e,rfl,he⟩ | ⟨o,es,ho,rfl,N4,_⟩
 ·refine⟨_,rfl,_,_,_,_,rfl,aW,rfl,_,rfl,bI ⟨_,rfl,_,rfl,_,rfl,bJ rfl ⟨_,rfl,_,rfl,_,_,_,_,rfl,cn,rfl,_,rfl,bI ?_⟩⟩⟩
  refine⟨_,rfl,_,rfl,_,rfl,_,rfl,_,rfl,_,rfl,bJ rfl ?_⟩
  exact⟨_,rfl,_,rfl,oR,rfl,rfl,_,rfl,bJ (by decide +kernel) ⟨_,rfl,_,rfl,_,rfl,bJ (by decide +kernel) ⟨_,rfl,_,rfl,eV,rfl,rfl,_,rfl,bJ (by decide +kernel) (fo q)⟩⟩⟩
 ·refine⟨_,rfl,_,_,_,_,rfl,aW,rfl,_,rfl,bI ⟨_,rfl,_,rfl,_,rfl,bJ rfl ⟨_,rfl,_,rfl,_,_,_,_,rfl,cn,rfl,_,rfl,bI ?_⟩⟩⟩
  refine⟨_,rfl,_,rfl,_,rfl,_,rfl,_,rfl,_,rfl,bJ rfl ?_⟩
  refine⟨_,rfl,_,rfl,oR,rfl,rfl,_,rfl,bJ (by decide +kernel) ⟨_,rfl,_,rfl,_,rfl,rm (by decide +kernel) ?_⟩⟩
  refine⟨_,rfl,_,rfl,_,rfl,by rw[zc];exact Yr,_,rfl,fI ⟨_,rfl,_,rfl,_,.inl rfl,?_⟩⟩
  refine comp_map (fun _=>.bl true) trivial (by show (ks.map D.str).length≤1000;rw[zc];omega) (fun d hd Q hQ=>?_) fun p hp=>?_
  ·obtain⟨k,hk,rfl⟩:=zi.mp hd
   refine⟨_,rfl,.str k,rfl,gt_str (JT (CZ k hk)),?_⟩
   show Q (.bl (fZ k)) S
   rw[(jD k (CZ k hk)).1];exact hQ
  ·have e2:(ks.map D.str).map (fun _=>D.bl true)=(ks.map fun _=>true).map D.bl:=by rw[zw,zw];rfl
   have e3:(ks.map fun _=>true).all id=true:=by rw[all_map];exact ym.mpr fun _ _=>rfl
   refine⟨.ref p,ks.map fun _=>true,rfl,?_,S,.new hp,?_⟩
   ·show (S.set p (.lst ((ks.map D.str).map _))) p=_
    rw[af,e2]
   ·rw[e3];exact q
 ·have h4:o = "is" ∨ o = "below" ∨ o = "above" ∨ o = "begins" := by
   rcases ho with h | ⟨_,h | h | ⟨h,_⟩⟩
   ·exact .inl h
   ·exact .inr (.inl h)
   ·exact .inr (.inr (.inl h))
   ·exact .inr (.inr (.inr h))
  refine⟨_,rfl,_,_,_,_,rfl,aW,rfl,_,rfl,bI ⟨_,rfl,_,rfl,_,rfl,bJ rfl ⟨_,rfl,_,rfl,_,_,_,_,rfl,cn,rfl,_,rfl,bI ?_⟩⟩⟩
  have fin:∃ (JU:List (Str×Str)) (o':Str) (c':Str×Str) (v':D),[D.tup (cs.map aB),.tup [.str o,.str c.1,v]]=[.tup (JU.map aB),.tup [.str o',.str c'.1,v']]∧Gd JU∧c'∈JU∧Vg c'.2 v'∧qL o' c' v'∧Fo S (R (.bl true)):=⟨cs,o,c,v,rfl,hg,hc,hv,ho,fo q⟩
  rcases h4 with rfl | rfl | rfl | rfl
  ·exact⟨_,rfl,_,rfl,_,rfl,_,rfl,_,rfl,_,rfl,bJ rfl ⟨_,rfl,_,rfl,oR,rfl,rfl,_,rfl,rm (by decide +kernel) ⟨_,rfl,_,rfl,fin⟩⟩⟩
  ·exact⟨_,rfl,_,rfl,_,rfl,_,rfl,_,rfl,_,rfl,bJ rfl ⟨_,rfl,_,rfl,oR,rfl,rfl,_,rfl,rm (by decide +kernel) ⟨_,rfl,_,rfl,fin⟩⟩⟩
  ·exact⟨_,rfl,_,rfl,_,rfl,_,rfl,_,rfl,_,rfl,bJ rfl ⟨_,rfl,_,rfl,oR,rfl,rfl,_,rfl,rm (by decide +kernel) ⟨_,rfl,_,rfl,fin⟩⟩⟩
  ·exact⟨_,rfl,_,rfl,_,rfl,_,rfl,_,rfl,_,rfl,bJ rfl ⟨_,rfl,_,rfl,oR,rfl,rfl,_,rfl,rm (by decide +kernel) ⟨_,rfl,_,rfl,fin⟩⟩⟩
 ·refine⟨_,rfl,_,_,_,_,rfl,aW,rfl,_,rfl,bI ⟨_,rfl,_,rfl,_,rfl,bJ rfl ⟨_,rfl,_,rfl,_,_,_,_,rfl,cn,rfl,_,rfl,bI ?_⟩⟩⟩
  refine⟨_,rfl,_,rfl,_,rfl,_,rfl,_,rfl,_,rfl,bJ rfl ?_⟩
  exact⟨_,rfl,_,rfl,oR,rfl,rfl,_,rfl,bJ (by decide +kernel) ⟨_,rfl,_,rfl,_,rfl,bJ (by decide +kernel) ⟨_,rfl,_,rfl,eV,rfl,rfl,_,rfl,bJ (by decide +kernel) (fo q)⟩⟩⟩
 ·have h8:es.length≤8:=by omega
  rcases ho with rfl | rfl
  ·refine⟨_,rfl,_,_,_,_,rfl,aW,rfl,_,rfl,bI ⟨_,rfl,_,rfl,_,rfl,bJ rfl ⟨_,rfl,_,rfl,_,_,_,_,rfl,cn,rfl,_,rfl,bI ?_⟩⟩⟩
   refine⟨_,rfl,_,rfl,_,rfl,_,rfl,_,rfl,_,rfl,bJ rfl ?_⟩
   exact⟨_,rfl,_,rfl,oR,rfl,rfl,_,rfl,bJ (by decide +kernel) ⟨_,rfl,_,rfl,_,rfl,bJ (by decide +kernel) ⟨_,rfl,_,rfl,eV,rfl,rfl,_,rfl,rm (by decide +kernel) ⟨_,rfl,_,rfl,_,rfl,h8,fo q⟩⟩⟩⟩
  ·refine⟨_,rfl,_,_,_,_,rfl,aW,rfl,_,rfl,bI ⟨_,rfl,_,rfl,_,rfl,bJ rfl ⟨_,rfl,_,rfl,_,_,_,_,rfl,cn,rfl,_,rfl,bI ?_⟩⟩⟩
   refine⟨_,rfl,_,rfl,_,rfl,_,rfl,_,rfl,_,rfl,bJ rfl ?_⟩
   exact⟨_,rfl,_,rfl,oR,rfl,rfl,_,rfl,bJ (by decide +kernel) ⟨_,rfl,_,rfl,_,rfl,bJ (by decide +kernel) ⟨_,rfl,_,rfl,eV,rfl,rfl,_,rfl,rm (by decide +kernel) ⟨_,rfl,_,rfl,_,rfl,h8,fo q⟩⟩⟩⟩
theorem nI (T:Txt w K mg t):Ok P w base T.cD 1 (fun ds S R _=>∃ l es cs m,ds=[.ref l]∧S l=some (.lst es)∧es.length≤8∧(∀ e∈es,Sg cs (m+1) e)∧∀ p fs,fs.length≤2 * es.length→(∀ f∈fs,Sg cs m f)→S p=none→R (.ref p) (S.set p (.lst fs))):=by
 refine T.cD.F.ok eN (by rintro ds S R Z ⟨_,_,_,_,e,_⟩;rw[e];rfl) ?_
 rintro bq A outer s H E ds S R Z hr ⟨l,es,cs,m,e,hl,h8,N4,q⟩
 subst e
 refine⟨_,(sc (hX (i:=1) eN.nd (fY an)) (sc (HC (HB (il (dv 0)) (gn (i:=2) eN.nd) (sc (HC (si (cJ cg hr.units (ix hr.units (dv 2) di) ds) (s1 (se (bm zL zZ z0 dN (dv 1) (ac (ix hr.units (dv 2) di) an)))) s0)) (s1 (si (cJ CK hr.units (ix hr.units (dv 2) di) (gB (ac ds (ac ds an)))) (s1 (se (bm zL PySem.F.slot_list_extend PySem.F.type_list_extend CV (dv 1) (ac (ix hr.units (dv 2) di) an)))) s0))))) (s1 (sr (dv 1))))),?_⟩
 refine⟨DD,fun f hf=>?_⟩
 have HE:l≠f:=fU hl hf
 refine⟨fun aK S'=>∃ o fs,aK=[some (.ref l),some (.ref f),o]∧S'=S.set f (.lst fs)∧fs.length≤2 * es.length∧∀ x∈fs,Sg cs m x,?_,?_⟩
 ·refine⟨_,rfl,es,(ag HE).trans hl,?_⟩
  refine⟨fun i aK S'=>∃ o fs,aK=[some (.ref l),some (.ref f),o]∧S'=S.set f (.lst fs)∧fs.length≤2 * i∧∀ x∈fs,Sg cs m x,⟨none,[],rfl,rfl,zm _,fun _ h=>(nomatch h)⟩,?_,?_,?_⟩
  ·rintro i aK S' ⟨o,fs,rfl,rfl,_⟩
   exact (ag HE).trans hl
  ·rintro i e aK S' he ⟨o,fs,rfl,rfl,OQ,O5⟩
   have he:es[i]?=some e:=he
   have hem:=N4 e (zM he)
   have hi:i<es.length:=(zo.mp he).1
   have HF:(S.set f (.lst fs)) f=some (.lst fs):=af
   have keep:∀ e:D,∃ o Ep,[some (D.ref l),some (D.ref f),some e]=[some (.ref l),some (.ref f),o]∧S.set f (.lst fs)=S.set f (.lst Ep)∧Ep.length≤2 * (i+1)∧∀ x∈Ep,Sg cs m x:=fun e=>⟨_,fs,rfl,rfl,by omega,O5⟩
   have more:∀ (e:D) (ds:List D),ds.length≤2→(∀ x∈ds,Sg cs m x)→∃ o Ep,[some (D.ref l),some (D.ref f),some e]=[some (.ref l),some (.ref f),o]∧(S.set f (.lst fs)).set f (.lst (fs++ds))=S.set f (.lst Ep)∧Ep.length≤2 * (i+1)∧∀ x∈Ep,Sg cs m x:=fun e ds h1 h2=>⟨_,fs++ds,rfl,eF,by rw[zC];omega,fun x hx=>(zI.mp hx).elim (O5 x) (h2 x)⟩
   have aav:fs.length+2≤1000:=by omega
   rcases hem with (rfl | ⟨ks,rfl,_,_⟩ | ⟨o,c,v,_,_,ho,rfl⟩) | ⟨e',rfl,VO⟩ | ⟨o,ds,ho,rfl,Mr,hd⟩
   ·refine⟨fun pe S2=>pe=_∧S2=S.set f (.lst fs),⟨_,rfl,_,rfl,_,rfl,bJ (by decide +kernel) (fo ⟨rfl,rfl⟩)⟩,?_⟩
    rintro _ _ ⟨rfl,rfl⟩
    exact⟨_,rfl,_,rfl,eV,rfl,rfl,_,rfl,bJ (by decide +kernel) (keep _)⟩
   ·refine⟨fun pe S2=>pe=_∧S2=S.set f (.lst fs),⟨_,rfl,_,rfl,_,rfl,bJ (by decide +kernel) (fo ⟨rfl,rfl⟩)⟩,?_⟩
    rintro _ _ ⟨rfl,rfl⟩
    exact⟨_,rfl,_,rfl,eV,rfl,rfl,_,rfl,bJ (by decide +kernel) (keep _)⟩
   ·rcases ho with rfl | ⟨_,rfl | rfl | ⟨rfl,_⟩⟩
    ·refine⟨fun pe S2=>pe=_∧S2=S.set f (.lst fs),⟨_,rfl,_,rfl,_,rfl,bJ (by decide +kernel) (fo ⟨rfl,rfl⟩)⟩,?_⟩
     rintro _ _ ⟨rfl,rfl⟩
     exact⟨_,rfl,_,rfl,eV,rfl,rfl,_,rfl,bJ (by decide +kernel) (keep _)⟩
    ·refine⟨fun pe S2=>pe=_∧S2=S.set f (.lst fs),⟨_,rfl,_,rfl,_,rfl,bJ (by decide +kernel) (fo ⟨rfl,rfl⟩)⟩,?_⟩
     rintro _ _ ⟨rfl,rfl⟩
     exact⟨_,rfl,_,rfl,eV,rfl,rfl,_,rfl,bJ (by decide +kernel) (keep _)⟩
    ·refine⟨fun pe S2=>pe=_∧S2=S.set f (.lst fs),⟨_,rfl,_,rfl,_,rfl,bJ (by decide +kernel) (fo ⟨rfl,rfl⟩)⟩,?_⟩
     rintro _ _ ⟨rfl,rfl⟩
     exact⟨_,rfl,_,rfl,eV,rfl,rfl,_,rfl,bJ (by decide +kernel) (keep _)⟩
    ·refine⟨fun pe S2=>pe=_∧S2=S.set f (.lst fs),⟨_,rfl,_,rfl,_,rfl,bJ (by decide +kernel) (fo ⟨rfl,rfl⟩)⟩,?_⟩
     rintro _ _ ⟨rfl,rfl⟩
     exact⟨_,rfl,_,rfl,eV,rfl,rfl,_,rfl,bJ (by decide +kernel) (keep _)⟩
   ·refine⟨fun pe S2=>pe=_∧S2=(S.set f (.lst fs)).set f (.lst (fs++[e'])),⟨_,rfl,_,rfl,_,rfl,rm (by decide +kernel) ⟨_,rfl,⟨rfl,_,HF⟩,_,rfl,_,rfl,f,_,_,rfl,rfl,HF,bg (by omega),fo ⟨rfl,rfl⟩⟩⟩,?_⟩
    rintro _ _ ⟨rfl,rfl⟩
    exact⟨_,rfl,_,rfl,eV,rfl,rfl,_,rfl,bJ (by decide +kernel) (more _ [e'] (by simp) (fun x hx=>by rw[zE.mp hx];exact VO))⟩
   ·rcases ho with rfl | rfl
    ·refine⟨fun pe S2=>pe=_∧S2=S.set f (.lst fs),⟨_,rfl,_,rfl,_,rfl,bJ (by decide +kernel) (fo ⟨rfl,rfl⟩)⟩,?_⟩
     rintro _ _ ⟨rfl,rfl⟩
     exact⟨_,rfl,_,rfl,eV,rfl,rfl,_,rfl,rm (by decide +kernel) ⟨_,rfl,⟨rfl,_,HF⟩,_,rfl,_,rfl,f,_,_,rfl,rfl,HF,sm (by omega),more _ ds Mr hd⟩⟩
    ·refine⟨fun pe S2=>pe=_∧S2=S.set f (.lst fs),⟨_,rfl,_,rfl,_,rfl,bJ (by decide +kernel) (fo ⟨rfl,rfl⟩)⟩,?_⟩
     rintro _ _ ⟨rfl,rfl⟩
     exact⟨_,rfl,_,rfl,eV,rfl,rfl,_,rfl,rm (by decide +kernel) ⟨_,rfl,⟨rfl,_,HF⟩,_,rfl,_,rfl,f,_,_,rfl,rfl,HF,sm (by omega),more _ ds Mr hd⟩⟩
  ·rintro aK S' ⟨o,fs,rfl,rfl,OQ,O5⟩
   exact fo ⟨o,fs,rfl,rfl,OQ,O5⟩
 ·rintro aK S' ⟨o,fs,rfl,rfl,OQ,O5⟩
  exact⟨_,rfl,fo (q f fs OQ O5 hf)⟩
theorem qN (T:Txt w K mg t):Ok P w base T.dF 6 (fun ds S R _=>∃ cs d,ds=[.tup (cs.map aB),d]∧Gd cs∧Sg cs 3 d∧R .aw S):=by
 have w_:Ok P w base T.fE 5 _:=u9 T
 have oV:Ok P w base T.cD 1 _:=nI T
 refine T.dF.F.ok bH (by rintro ds S R Z ⟨_,_,e,_⟩;rw[e];rfl) ?_
 rintro bq A outer s H E ds S R Z hr ⟨cs,d,e,hg,hd,q⟩
 subst e
 refine⟨_,(sc (hX (i:=2) bH.nd (fY (ac (dv 1) an))) (sc (hX (i:=3) bH.nd di) (sc (hX (i:=4) bH.nd di) (s1 (swh (cJ ua hr.units (cb cj T.bR ba (ac (dv 2) an)) di) (sc (X7 (i:=3) bH.nd di) (sc (X7 (i:=4) bH.nd (cb cj T.bR ba (ac (dv 2) an))) (sc (si (twd (twor (cJ ua hr.units (dv 3) (dg (v:=.int 8) T.uH ⟨_,rfl⟩ fun _=>aO _)) (tw1 (cJ ua hr.units (dv 4) (dg (v:=.int 200) T.jt ⟨_,rfl⟩ fun _=>aO _))))) (s1 (ug ⟨T.iC⟩ T.oi (ac ds an))) s0) (sc (si (dM (tv (cb lQ T.l7 ib (ac (xt (N:=["thing", "columns"]) (src:=[none,some 0]) (nZ (ae eR) ["columns", "sieve", "level", "deep", "parts"] rfl rfl (by decide +kernel)) (il (dv 2)) (um (show (["thing", "columns"]:List Str).Nodup by decide +kernel)) (bt rfl) bu (fun _ _ _ _ _=>xr) (fun _ _ _ _ _=>(cf (w_.mono (by decide)) hr T.fE.m T.fE.k T.fE.b d0 (ac (dv 1) (ac (dv 0) an))))) an)))) (s1 (ug ⟨T.iC⟩ T.oi (ac ds an))) s0) (s1 (hX (i:=2) bH.nd (cf (oV.mono (by decide)) hr T.cD.m T.cD.k T.cD.b d0 (ac (dv 2) an))))))))))))),?_⟩
 refine⟨_,rfl,so,fun l0 WQ=>?_⟩
 refine⟨fun m aK S'=>∃ (l:Addr) (es:List D) (dp p:Nat),aK=[some (.tup (cs.map aB)),some d,some (.ref l),some (.int dp),some (.int p)]∧S' l=some (.lst es)∧Sub S S'∧(∀ e∈es,Sg cs m e)∧dp+m=3∧p≤8 * dp∧es.length * 2 ^ m≤8,⟨3,l0,[d],0,0,rfl,af,.new WQ,fun e he=>by rw[zE.mp he];exact hd,rfl,zm _,zm 8⟩,?_⟩
 rintro m aK S' ⟨l,es,dp,p,rfl,hl,sb,N4,hdp,hp,h8⟩
 refine⟨_,rfl,_,rfl,.inl ⟨_,hl,_,rfl,?_⟩⟩
 refine dw (fun h1=>?_) (fun h1=>?_)
 ·have IF:0<es.length:=by
   have h1:(0:Int)<((es.length:Nat):Int):=zH h1
   omega
  obtain⟨e0,he0⟩:=List.exists_mem_of_length_pos IF
  obtain⟨n,rfl⟩:∃ n,m=n+1:=by
   cases m with
   | zero=>exact (N4 e0 he0).elim
   | succ n=>exact⟨n,rfl⟩
  have hle:es.length≤8:=zG (Nat.le_mul_of_pos_right _ (Nat.two_pow_pos _)) h8
  refine⟨_,rfl,_,rfl,_,rfl,_,rfl,_,rfl,.inl ⟨_,hl,_,rfl,?_⟩⟩
  refine⟨_,rfl,_,rfl,bJ (zq (by omega)) ⟨_,rfl,_,rfl,bJ (zq (by omega)) ?_⟩⟩
  refine⟨_,rfl,es,hl,?_⟩
  refine comp_map (fun _=>.bl true) hl (by show es.length≤1000;omega) (fun e he Q hQ=>?_) fun p1 DR=>?_
  ·exact⟨_,rfl,_,rfl,cs,_,e,rfl,hg,N4 e he,hQ⟩
  have e2:es.map (fun _=>D.bl true)=(es.map fun _=>true).map D.bl:=by rw[zw];rfl
  have e3:(es.map fun _=>true).all id=true:=by rw[all_map];exact ym.mpr fun _ _=>rfl
  refine⟨.ref p1,es.map fun _=>true,rfl,?_,_,rfl,?_⟩
  ·show (S'.set p1 (.lst (es.map _))) p1=_
   rw[af,e2]
  rw[e3]
  refine bI ?_
  have s1:=sb.trans (.new (c:=.lst (es.map fun _=>D.bl true)) DR)
  have JM:(S'.set p1 (.lst (es.map fun _=>D.bl true))) l=some (.lst es):=(ag (fU hl DR)).trans hl
  refine⟨_,rfl,l,es,cs,n,rfl,JM,hle,N4,fun p2 fs h1 h2 h3=>?_⟩
  refine⟨n,yB n,p2,fs,dp+1,p+es.length,?_,af,s1.trans (.new h3),h2,by omega,by omega,?_⟩
  ·show [_,_,_,some (D.int (((dp:Nat):Int)+1)),some (D.int (((p:Nat):Int)+((es.length:Nat):Int)))]=_
   rw[show (((dp:Nat):Int)+1)=((dp+1:Nat):Int) by omega,show (((p:Nat):Int)+((es.length:Nat):Int))=((p+es.length:Nat):Int) by omega]
  ·rw[Nat.pow_succ] at h8
   exact zG (Nat.mul_le_mul_right _ h1) (by rw[Nat.mul_comm 2,Nat.mul_assoc,Nat.mul_comm 2];exact h8)
 ·exact⟨S,sb,q⟩
def Lj (cs:List (Str×Str)) (z:Str):Nat:=(cs.map Prod.fst).idxOf z
def ak (cs:List (Str×Str)) (ws:List D) (z:Str):D:=(ws[Lj cs z]?).getD .aw
def ao (r:Str×List D):D:=.tup [.str r.1,.tup r.2]
theorem qO:∀ {l:List α}{m:List β},Paired rel l m→∀ {i:Nat}{a:α},l[i]?=some a→∃ b,m[i]?=some b∧rel a b
 | _,_,.nil,_,_,h=>by simp at h
 | _,_,.cons r t,0,a,h=>by
  rw[List.getElem?_cons_zero] at h ⊢
  cases h
  exact⟨_,rfl,r⟩
 | _,_,.cons r t,i+1,a,h=>by
  rw[List.getElem?_cons_succ] at h ⊢
  exact qO t h
theorem GS (hg:Gd cs) (h:c∈cs):cs[Lj cs c.1]?=some c∧(cs.map Prod.fst)[Lj cs c.1]?=some c.1:=by
 have hm:c.1∈cs.map Prod.fst:=zi.mpr ⟨c,h,rfl⟩
 have hi:(cs.map Prod.fst).idxOf c.1<(cs.map Prod.fst).length:=List.idxOf_lt_length_of_mem hm
 have e1:(cs.map Prod.fst)[(cs.map Prod.fst).idxOf c.1]?=some c.1:=by rw[zh hi,List.getElem_idxOf]
 refine⟨?_,e1⟩
 obtain⟨j,ej⟩:=List.getElem?_of_mem h
 have ej1:(cs.map Prod.fst)[j]?=some c.1:=by rw[zx,ej];rfl
 obtain⟨b1,c1⟩:=zo.mp e1
 obtain⟨b2,c2⟩:=zo.mp ej1
 have:=(List.getElem_inj hg.2.1 (h₀:=b1) (h₁:=b2)).mp (c1.trans c2.symm)
 unfold Lj
 rw[this]
 exact ej
theorem mn (hg:Gd cs) (hw:Wg cs ws) (h:c∈cs):ws[Lj cs c.1]?=some (ak cs ws c.1)∧Vg c.2 (ak cs ws c.1):=by
 obtain⟨v,e,r⟩:=qO hw (GS hg h).1
 unfold ak
 rw[e]
 exact⟨rfl,r⟩
def qP:D→D→Bool
 | .aw,.aw=>true
 | .int i,.int j=>decide (i=j)
 | .str i,.str j=>decide (i=j)
 | _,_=>false
theorem cw (ha:fS a=true) (hb:fS b=true):qP a b=true↔a=b:=by
 cases a <;> cases b <;> first | (cases ha;done) | (cases hb;done) | simp [qP]
theorem xa (ha:fS a=true) (hb:fS b=true) (q:R (.bl (if neg then !qP a b else qP a b)) S):IX neg a b S R:=by
 have mix:∀ {a b:D},fS a=true→fS b=true→(∀ p q,Dp S a p→Dp S b q→PyData.eqv p q=qP a b)→(∀ i j,a=.int i→b≠.int j)→(∀ i j,a=.str i→b≠.str j)→R (.bl (if neg then !qP a b else qP a b)) S→IX neg a b S R:=by
  intro a b ha hb h h1 h2 q
  obtain⟨p,p1,p2,p3⟩:=Ly.plain (S:=S) ha
  obtain⟨r,r1,r2,r3⟩:=Ly.plain (S:=S) hb
  have e:=h p r p1 r1
  obtain⟨p',p1',p2',p3'⟩:=Ly.dl (Ly.plain (S:=S) ha)
  cases a <;> cases b <;> first | (cases ha;done) | (cases hb;done) | exact absurd rfl (h1 _ _ rfl) | exact absurd rfl (h2 _ _ rfl) | exact⟨p,r,p1,r1,p2,r2,.inl (by omega),by rw[e];exact q⟩
 cases a with
 | aw =>
  cases b with
  | aw=>exact mix ha hb (fun p q h1 h2=>by simp only [Dp] at h1 h2;subst h1 h2;rfl) nofun nofun q
  | int j=>exact mix ha hb (fun p q h1 h2=>by simp only [Dp] at h1 h2;subst h1 h2;rfl) nofun nofun q
  | str j=>exact mix ha hb (fun p q h1 h2=>by simp only [Dp] at h1 h2;subst h1 h2;rfl) nofun nofun q
  | _=>cases hb
 | int i =>
  cases b with
  | aw=>exact mix ha hb (fun p q h1 h2=>by simp only [Dp] at h1 h2;subst h1 h2;rfl) nofun nofun q
  | int j=>exact q
  | str j=>exact mix ha hb (fun p q h1 h2=>by simp only [Dp] at h1 h2;subst h1 h2;rfl) nofun nofun q
  | _=>cases hb
 | str i =>
  cases b with
  | aw=>exact mix ha hb (fun p q h1 h2=>by simp only [Dp] at h1 h2;subst h1 h2;rfl) nofun nofun q
  | int j=>exact mix ha hb (fun p q h1 h2=>by simp only [Dp] at h1 h2;subst h1 h2;rfl) nofun nofun q
  | str j=>exact q
  | _=>cases hb
 | _=>cases ha
def xx:D→D→Bool
 | .int i,.int j=>decide (i<j)
 | .str i,.str j=>oF i j
 | _,_=>false
def stP:D→D→Bool
 | .str i,.str j=>PySem.Txt.startswith i j
 | _,_=>false
def xb (o:Str) (a b:D):Bool:=if o = "is" then qP a b else if aj a then false else if o = "below" then xx a b else if o = "above" then xx b a else stP a b
def DY:D→List D
 | .tup ds=>ds
 | _=>[]
def RM (cs:List (Str×Str)) (r:Str×List D) (f:D→Bool):D→Bool
 | .tup [.str _]=>true
 | .tup [.str o,e]=>if o = "not" then !f e else if o = "key" then Cm (lO (.str r.1)) ((DY e).map lO) else if o = "and" then (DY e).all f else (DY e).any f
 | .tup [.str o,.str z,v]=>xb o (ak cs r.2 z) v
 | _=>false
def cH (cs:List (Str×Str)) (r:Str×List D):Nat→D→Bool
 | 0,_=>false
 | n+1,d=>RM cs r (cH cs r n) d
theorem BP (cs:List (Str×Str)) (r:Str×List D) (n:Nat) (o:Str) (e:D):cH cs r (n+1) (.tup [.str o,e])=if o = "not" then !cH cs r n e else if o = "key" then Cm (lO (.str r.1)) ((DY e).map lO) else if o = "and" then (DY e).all (cH cs r n) else (DY e).any (cH cs r n):=rfl
theorem RN (cs:List (Str×Str)) (r:Str×List D) (n:Nat) (o z:Str) (v:D):cH cs r (n+1) (.tup [.str o,.str z,v])=xb o (ak cs r.2 z) v:=rfl
theorem GU (cs:List (Str×Str)) (r:Str×List D) (n:Nat) (ks:List D):cH cs r (n+1) (.tup [.str "key",.tup ks])=Cm (lO (.str r.1)) (ks.map lO):=by
 rw[BP,if_neg (by decide +kernel),if_pos rfl];rfl
theorem GV (cs:List (Str×Str)) (r:Str×List D) (n:Nat) (e:D):cH cs r (n+1) (.tup [.str "not",e])=!cH cs r n e:=by
 rw[BP,if_pos rfl]
theorem GW (cs:List (Str×Str)) (r:Str×List D) (n:Nat) (es:List D):cH cs r (n+1) (.tup [.str "and",.tup es])=es.all (cH cs r n):=by
 rw[BP,if_neg (by decide +kernel),if_neg (by decide +kernel),if_pos rfl];rfl
theorem JV (cs:List (Str×Str)) (r:Str×List D) (n:Nat) (es:List D):cH cs r (n+1) (.tup [.str "or",.tup es])=es.any (cH cs r n):=by
 rw[BP,if_neg (by decide +kernel),if_neg (by decide +kernel),if_neg (by decide +kernel)];rfl
theorem u_ (ha:Vg k a) (hb:Vg k b) (na:a≠.aw) (nb:b≠.aw):(∃ i j,a=.int i∧b=.int j)∨∃ i j,a=.str i∧b=.str j:=by
 obtain⟨a1,a2⟩:=ha
 obtain⟨b1,b2⟩:=hb
 cases a with
 | aw=>exact absurd rfl na
 | int i =>
  cases b with
  | aw=>exact absurd rfl nb
  | int j=>exact .inl ⟨i,j,rfl,rfl⟩
  | str j =>
   exfalso
   unfold jy at a1 b1
   simp only [aj,yM] at a1 b1
   by_cases e:k = "number"
   ·rw[if_pos e] at b1;cases b1
   ·rw[if_neg e] at a1;cases a1
  | _=>cases b2
 | str i =>
  cases b with
  | aw=>exact absurd rfl nb
  | str j=>exact .inr ⟨i,j,rfl,rfl⟩
  | int j =>
   exfalso
   unfold jy at a1 b1
   simp only [aj,yM] at a1 b1
   by_cases e:k = "number"
   ·rw[if_pos e] at a1;cases a1
   ·rw[if_neg e] at b1;cases b1
  | _=>cases b2
 | _=>cases a2
theorem BQ (h:Vg "word" a) (n:a≠.aw):∃ z,a=.str z:=by
 obtain⟨h1,h2⟩:=h
 cases a with
 | aw=>exact absurd rfl n
 | str z=>exact⟨z,rfl⟩
 | int i =>
  unfold jy at h1
  rw[if_neg (by decide +kernel)] at h1
  cases h1
 | _=>cases h2
theorem b_ (h:aj a=false):a≠.aw:=by rintro rfl;cases h
theorem jG (T:Txt w K mg t):Ok P w base T.aX 2 (fun ds S R _=>∃ cs r c,ds=[.tup (cs.map aB),ao r,.str c.1]∧Gd cs∧Wg cs r.2∧c∈cs∧R (ak cs r.2 c.1) S):=by
 have k7:Ok P w base T.df 1 _:=oq T
 refine T.aX.F.ok wO (by rintro ds S R Z ⟨_,_,_,e,_⟩;rw[e];rfl) ?_
 rintro bq A outer s H E ds S R Z hr ⟨cs,r,c,e,hg,hw,hc,q⟩
 subst e
 obtain⟨n1,n2⟩:=GS hg hc
 refine⟨_,(s1 (sr (ix hr.units (ix hr.units (dv 1) di) (bm zL PySem.F.slot_list_index PySem.F.type_list_index Fi (cf (k7.mono (by decide)) hr T.df.m T.df.k T.df.b d0 (ac (dv 0) an)) (ac (dv 2) an))))),?_⟩
 refine⟨_,rfl,_,rfl,_,rfl,cs,rfl,hg.1,fun p hp=>?_⟩
 refine⟨⟨rfl,_,af⟩,_,rfl,(cs.map Prod.fst).map D.str,.str c.1,Lj cs c.1,rfl,af,rfl,?_,⟨.str c.1,by rw[zx,n2];rfl,by show (c.1 == c.1)=true;simp⟩,?_,?_⟩
 ·rw[List.all_map];exact ym.mpr fun _ _=>rfl
 ·intro m u hm hu
  rw[zx] at hu
  cases e:(cs.map Prod.fst)[m]? with
  | none=>rw[e] at hu;cases hu
  | some z' =>
   rw[e] at hu
   cases hu
   show (z' == c.1)=false
   have:z'≠c.1:=fun q=>by
    subst q
    obtain⟨b1,c1⟩:=zo.mp e
    obtain⟨b2,c2⟩:=zo.mp n2
    have:=(List.getElem_inj hg.2.1 (h₀:=b1) (h₁:=b2)).mp (c1.trans c2.symm)
    omega
   simpa using this
 ·exact⟨_,ia (mn hg hw hc).1,S,.new hp,q⟩
theorem oW (T:Txt w K mg t):Ok P w base T.cQ 1 (fun ds S R _=>∃ o a b c,ds=[.str o,a,b]∧Vg c.2 a∧Vg c.2 b∧qL o c b∧R (.bl (xb o a b)) S):=by
 refine T.cQ.F.ok oP (by rintro ds S R Z ⟨_,_,_,_,e,_⟩;rw[e];rfl) ?_
 rintro bq A outer s H E ds S R Z hr ⟨o,a,b,c,e,ha,hb,ho,q⟩
 subst e
 refine⟨_,(sc (si (cJ cg hr.units (dv 0) ds) (s1 (sr (cm cg hr.units (dv 1) (dv 2)))) s0) (sc (si (cJ rM hr.units (dv 1) dn) (s1 (sr db)) s0) (sc (si (cJ cg hr.units (dv 0) ds) (s1 (sr (cm Ff hr.units (dv 1) (dv 2)))) s0) (sc (si (cJ cg hr.units (dv 0) ds) (s1 (sr (cm ua hr.units (dv 1) (dv 2)))) s0) (s1 (sr (bm PySem.F.plainAttrs_str PySem.F.slot_str_startswith PySem.F.type_str_startswith Fj (dv 1) (ac (dv 2) an)))))))),?_⟩
 unfold xb at q
 rcases ho with rfl | ⟨nb,ho⟩
 ·rw[if_pos rfl] at q
  exact⟨_,rfl,_,rfl,rm (by decide +kernel) ⟨_,rfl,_,rfl,xa ha.2 hb.2 (fo q)⟩⟩
 ·have ne:∀ {A B:Bool},o ≠ "is" → R (.bl (if o = "is" then A else B)) S→R (.bl B) S:=fun h q=>by rw[if_neg h] at q;exact q
  rcases ho with rfl | rfl | ⟨rfl,hk⟩
  ·rw[if_neg (by decide +kernel)] at q
   refine⟨_,rfl,_,rfl,bJ (by decide +kernel) ⟨_,rfl,_,rfl,dw (fun h=>?_) (fun h=>?_)⟩⟩
   ·rw[if_pos h] at q;exact fo q
   ·rw[if_neg (by rw[show aj a=false from h];exact zd),if_pos rfl] at q
    refine⟨_,rfl,_,rfl,rm (by decide +kernel) ⟨_,rfl,_,rfl,?_⟩⟩
    rcases u_ ha hb (b_ h) nb with ⟨i,j,rfl,rfl⟩ | ⟨i,j,rfl,rfl⟩ <;> exact fo q
  ·rw[if_neg (by decide +kernel)] at q
   refine⟨_,rfl,_,rfl,bJ (by decide +kernel) ⟨_,rfl,_,rfl,dw (fun h=>?_) (fun h=>?_)⟩⟩
   ·rw[if_pos h] at q;exact fo q
   ·rw[if_neg (by rw[show aj a=false from h];exact zd),if_neg (by decide +kernel),if_pos rfl] at q
    refine⟨_,rfl,_,rfl,bJ (by decide +kernel) ⟨_,rfl,_,rfl,rm (by decide +kernel) ⟨_,rfl,_,rfl,?_⟩⟩⟩
    rcases u_ ha hb (b_ h) nb with ⟨i,j,rfl,rfl⟩ | ⟨i,j,rfl,rfl⟩ <;> exact fo q
  ·rw[if_neg (by decide +kernel)] at q
   refine⟨_,rfl,_,rfl,bJ (by decide +kernel) ⟨_,rfl,_,rfl,dw (fun h=>?_) (fun h=>?_)⟩⟩
   ·rw[if_pos h] at q;exact fo q
   ·rw[if_neg (by rw[show aj a=false from h];exact zd),if_neg (by decide +kernel),if_neg (by decide +kernel)] at q
    refine⟨_,rfl,_,rfl,bJ (by decide +kernel) ⟨_,rfl,_,rfl,bJ (by decide +kernel) ?_⟩⟩
    rw[hk] at ha hb
    obtain⟨i,rfl⟩:=BQ ha (b_ h)
    obtain⟨j,rfl⟩:=BQ hb nb
    exact⟨_,rfl,rfl,_,rfl,i,j,rfl,rfl,fo q⟩
def AJ (n:Nat):gN:=fun ds S R _=>∃ cs d r,ds=[.tup (cs.map aB),d,ao r]∧Gd cs∧Sg cs n d∧Wg cs r.2∧R (.bl (cH cs r n d)) S
theorem tI (T:Txt w K mg t):∀ n,Ok P w base T.passes (3+n) (AJ n)
 | 0=>by
  refine T.passes.F.ok (k:=2) tD (by rintro ds S R Z ⟨_,_,_,e,_⟩;exact by rw[e];rfl) (by rintro bq A outer s H E ds S R Z hr ⟨cs,d,r,e,hg,hs,_⟩;exact hs.elim)
 | n+1=>by
  have jH:Ok P w base T.passes (3+n) (AJ n):=tI T n
  have qQ:Ok P w base T.cQ 1 _:=oW T
  have dE:Ok P w base T.aX 2 _:=jG T
  refine T.passes.F.ok (k:=3+n) tD (by rintro ds S R Z ⟨_,_,_,e,_⟩;rw[e];rfl) ?_
  rintro bq A outer s H E ds S R Z hr ⟨cs,d,r,e,hg,hs,hw,q⟩
  subst e
  refine⟨_,(sc (si (cJ cg hr.units (ix hr.units (dv 1) di) ds) (s1 (sr db)) s0) (sc (si (cJ cg hr.units (ix hr.units (dv 1) di) ds) (s1 (sr (cm CK hr.units (ix hr.units (dv 2) di) (ix hr.units (dv 1) di)))) s0) (sc (si (cJ cg hr.units (ix hr.units (dv 1) di) ds) (s1 (sr (QC (cf (jH.mono (by omega)) hr T.passes.m T.passes.k T.passes.b d0 (ac (dv 0) (ac (ix hr.units (dv 1) di) (ac (dv 2) an))))))) s0) (sc (si (cJ cg hr.units (ix hr.units (dv 1) di) ds) (s1 (sr (cb lQ T.l7 ib (ac (xt (N:=["inner", "columns", "row"]) (src:=[none,some 0,some 2]) (nZ (ae jf) ["columns", "sieve", "row"] rfl rfl (by decide +kernel)) (I9 (ix hr.units (dv 1) di)) (um (show (["inner", "columns", "row"]:List Str).Nodup by decide +kernel)) (bt rfl) bu (fun _ _ _ _ _=>xr) (fun _ _ _ _ _=>(cf (jH.mono (by omega)) hr T.passes.m T.passes.k T.passes.b d0 (ac (dv 1) (ac (dv 0) (ac (dv 2) an)))))) an)))) s0) (sc (si (cJ cg hr.units (ix hr.units (dv 1) di) ds) (s1 (sr (cb QM T.RB MQ (ac (xt (N:=["inner", "columns", "row"]) (src:=[none,some 0,some 2]) (nZ (ae jf) ["columns", "sieve", "row"] rfl rfl (by decide +kernel)) (I9 (ix hr.units (dv 1) di)) (um (show (["inner", "columns", "row"]:List Str).Nodup by decide +kernel)) (bt rfl) bu (fun _ _ _ _ _=>xr) (fun _ _ _ _ _=>(cf (jH.mono (by omega)) hr T.passes.m T.passes.k T.passes.b d0 (ac (dv 1) (ac (dv 0) (ac (dv 2) an)))))) an)))) s0) (s1 (sr (cf (qQ.mono (by omega)) hr T.cQ.m T.cQ.k T.cQ.b d0 (ac (ix hr.units (dv 1) di) (ac (cf (dE.mono (by omega)) hr T.aX.m T.aX.k T.aX.b d0 (ac (dv 0) (ac (dv 2) (ac (ix hr.units (dv 1) di) an)))) (ac (ix hr.units (dv 1) di) an))))))))))),?_⟩
  rcases hs with (rfl | ⟨ks,rfl,Yr,CZ⟩ | ⟨o,c,v,hc,hv,ho,rfl⟩) | ⟨e,rfl,he⟩ | ⟨o,es,ho,rfl,N4,U4⟩
  ·exact⟨_,rfl,_,rfl,_,rfl,rm (by decide +kernel) (fo q)⟩
  ·refine⟨_,rfl,_,rfl,_,rfl,bJ (by decide +kernel) ⟨_,rfl,_,rfl,_,rfl,rm (by decide +kernel) ?_⟩⟩
   refine⟨_,rfl,_,rfl,_,rfl,_,rfl,rfl,?_,?_⟩
   ·rw[List.all_map];exact ym.mpr fun _ _=>rfl
   ·rw[GU] at q
    exact fo q
  ·rw[RN] at q
   have fin:∃ o' a b c',[D.str o,ak cs r.2 c.1,v]=[D.str o',a,b]∧Vg (Prod.snd (α:=Str) c') a∧Vg c'.2 b∧qL o' c' b∧Fo S (R (.bl (xb o' a b))):=⟨o,_,v,c,rfl,(mn hg hw hc).2,hv,ho,fo q⟩
   have h4:o = "is" ∨ o = "below" ∨ o = "above" ∨ o = "begins" := by
    rcases ho with h | ⟨_,h | h | ⟨h,_⟩⟩
    ·exact .inl h
    ·exact .inr (.inl h)
    ·exact .inr (.inr (.inl h))
    ·exact .inr (.inr (.inr h))
   rcases h4 with rfl | rfl | rfl | rfl
   ·exact⟨_,rfl,_,rfl,_,rfl,bJ (by decide +kernel) ⟨_,rfl,_,rfl,_,rfl,bJ (by decide +kernel) ⟨_,rfl,_,rfl,_,rfl,bJ (by decide +kernel) ⟨_,rfl,_,rfl,_,rfl,bJ (by decide +kernel) ⟨_,rfl,_,rfl,_,rfl,bJ (by decide +kernel) ⟨_,rfl,_,rfl,_,rfl,_,rfl,_,rfl,_,rfl,cs,r,c,rfl,hg,hw,hc,_,rfl,_,rfl,fin⟩⟩⟩⟩⟩⟩
   ·exact⟨_,rfl,_,rfl,_,rfl,bJ (by decide +kernel) ⟨_,rfl,_,rfl,_,rfl,bJ (by decide +kernel) ⟨_,rfl,_,rfl,_,rfl,bJ (by decide +kernel) ⟨_,rfl,_,rfl,_,rfl,bJ (by decide +kernel) ⟨_,rfl,_,rfl,_,rfl,bJ (by decide +kernel) ⟨_,rfl,_,rfl,_,rfl,_,rfl,_,rfl,_,rfl,cs,r,c,rfl,hg,hw,hc,_,rfl,_,rfl,fin⟩⟩⟩⟩⟩⟩
   ·exact⟨_,rfl,_,rfl,_,rfl,bJ (by decide +kernel) ⟨_,rfl,_,rfl,_,rfl,bJ (by decide +kernel) ⟨_,rfl,_,rfl,_,rfl,bJ (by decide +kernel) ⟨_,rfl,_,rfl,_,rfl,bJ (by decide +kernel) ⟨_,rfl,_,rfl,_,rfl,bJ (by decide +kernel) ⟨_,rfl,_,rfl,_,rfl,_,rfl,_,rfl,_,rfl,cs,r,c,rfl,hg,hw,hc,_,rfl,_,rfl,fin⟩⟩⟩⟩⟩⟩
   ·exact⟨_,rfl,_,rfl,_,rfl,bJ (by decide +kernel) ⟨_,rfl,_,rfl,_,rfl,bJ (by decide +kernel) ⟨_,rfl,_,rfl,_,rfl,bJ (by decide +kernel) ⟨_,rfl,_,rfl,_,rfl,bJ (by decide +kernel) ⟨_,rfl,_,rfl,_,rfl,bJ (by decide +kernel) ⟨_,rfl,_,rfl,_,rfl,_,rfl,_,rfl,_,rfl,cs,r,c,rfl,hg,hw,hc,_,rfl,_,rfl,fin⟩⟩⟩⟩⟩⟩
  ·rw[GV] at q
   exact⟨_,rfl,_,rfl,_,rfl,bJ (by decide +kernel) ⟨_,rfl,_,rfl,_,rfl,bJ (by decide +kernel) ⟨_,rfl,_,rfl,_,rfl,rm (by decide +kernel) ⟨_,rfl,_,rfl,_,rfl,_,rfl,cs,e,r,rfl,hg,he,hw,_,rfl,fo q⟩⟩⟩⟩
  ·have hz:es.length≤1000:=by omega
   rcases ho with rfl | rfl
   ·rw[GW] at q
    refine⟨_,rfl,_,rfl,_,rfl,bJ (by decide +kernel) ⟨_,rfl,_,rfl,_,rfl,bJ (by decide +kernel) ⟨_,rfl,_,rfl,_,rfl,bJ (by decide +kernel) ⟨_,rfl,_,rfl,_,rfl,rm (by decide +kernel) ⟨_,rfl,_,rfl,_,.inl rfl,?_⟩⟩⟩⟩⟩
    refine comp_map (fun d=>.bl (cH cs r n d)) trivial hz (fun d hd Q hQ=>⟨_,rfl,_,rfl,_,rfl,cs,d,r,rfl,hg,U4 d hd,hw,hQ⟩) fun p hp=>?_
    refine⟨.ref p,es.map (cH cs r n),rfl,?_,S,.new hp,?_⟩
    ·show (S.set p (.lst (es.map _))) p=_
     rw[af,zw];rfl
    ·rw[all_map];exact q
   ·rw[JV] at q
    refine⟨_,rfl,_,rfl,_,rfl,bJ (by decide +kernel) ⟨_,rfl,_,rfl,_,rfl,bJ (by decide +kernel) ⟨_,rfl,_,rfl,_,rfl,bJ (by decide +kernel) ⟨_,rfl,_,rfl,_,rfl,bJ (by decide +kernel) ⟨_,rfl,_,rfl,_,rfl,rm (by decide +kernel) ⟨_,rfl,_,rfl,_,.inl rfl,?_⟩⟩⟩⟩⟩⟩
    refine comp_map (fun d=>.bl (cH cs r n d)) trivial hz (fun d hd Q hQ=>⟨_,rfl,_,rfl,_,rfl,cs,d,r,rfl,hg,U4 d hd,hw,hQ⟩) fun p hp=>?_
    refine⟨.ref p,es.map (cH cs r n),rfl,?_,S,.new hp,?_⟩
    ·show (S.set p (.lst (es.map _))) p=_
     rw[af,zw];rfl
    ·rw[List.any_map];exact q
abbrev Row:=Str×List D
abbrev Part:=Str×Str×Str
theorem N5 {a b:Str} (h:a.cps.toList=b.cps.toList):a=b:=by
 obtain⟨x⟩:=a
 obtain⟨y⟩:=b
 exact congrArg Str.mk (Array.ext' h)
theorem BR (a:Str):oF a a=false:=zq (List.lt_irrefl _)
theorem jZ {a b:Str} (h:a≠b):oF b a=!oF a b:=by
 unfold oF
 rw[yu]
 simp only [decide_eq_true_iff,Bool.not_eq_true',decide_eq_false_iff_not]
 constructor
 ·exact fun h1 h2=>List.lt_irrefl _ (List.lt_trans h1 h2)
 ·intro h1
  by_cases h2:b.cps.toList<a.cps.toList
  ·exact h2
  ·exact absurd (N5 (List.le_antisymm (List.not_lt.mp h2) (List.not_lt.mp h1))) h
theorem AK (h1:oF a b=true) (h2:oF b c=true):oF a c=true :=
 zt (List.lt_trans (zH h1) (zH h2))
theorem BS (a:D):xx a a=false:=by
 cases a <;> first | rfl | exact BR _ | exact zq (Int.lt_irrefl _)
theorem mq (ha:Vg k a) (hb:Vg k b) (na:a≠.aw) (nb:b≠.aw) (h:a≠b):xx b a=!xx a b:=by
 rcases u_ ha hb na nb with ⟨i,j,rfl,rfl⟩ | ⟨i,j,rfl,rfl⟩
 ·have kH:i≠j:=fun e=>h (congrArg D.int e)
  show decide (j<i)=!decide (i<j)
  rw[yu]
  simp only [decide_eq_true_iff,Bool.not_eq_true',decide_eq_false_iff_not]
  omega
 ·exact jZ fun e=>h (congrArg D.str e)
theorem GX (h1:xx a b=true) (h2:xx b c=true):xx a c=true:=by
 cases a with
 | int i =>
  cases b with
  | int j =>
   cases c with
   | int l =>
    have h1:i<j:=zH h1
    have h2:j<l:=zH h2
    exact zt (by omega)
   | _=>cases h2
  | _=>cases h1
 | str i =>
  cases b with
  | str j =>
   cases c with
   | str l=>exact AK h1 h2
   | _=>cases h2
  | _=>cases h1
 | _=>cases h1
theorem GY (h:Rl a b):xx a b=true:=by
 cases a with
 | int i =>
  cases b with
  | int j=>exact zt h
  | _=>exact h.elim
 | str i =>
  cases b with
  | str j=>exact zt h
  | _=>exact h.elim
 | _=>exact h.elim
def eX (p:Part) (x y:D):Bool:=if (aj x != aj y)=true then aj x == decide (p.2.2 = "first") else xx x y == decide (p.2.1 = "up")
def aV (cs:List (Str×Str)) (wy:Str):List Part→Row→Row→Bool
 | [],a,b=>oF a.1 b.1 == decide (wy = "up")
 | p :: ps,a,b=>if qP (ak cs a.2 p.1) (ak cs b.2 p.1)=true then aV cs wy ps a b else eX p (ak cs a.2 p.1) (ak cs b.2 p.1)
theorem bxor:((!x) == u)=!(x == u):=by cases x <;> cases u <;> rfl
theorem fh (h:aj x=true):x=.aw:=by cases x <;> first | rfl | cases h
theorem tJ (hx:Vg k x) (hy:Vg k y) (h:x≠y):eX p y x=!eX p x y:=by
 unfold eX
 cases nx:aj x with
 | true =>
  cases ny:aj y with
  | true=>exact absurd ((fh nx).trans (fh ny).symm) h
  | false =>
   rw[if_pos (by rfl),if_pos (by rfl)]
   cases decide (p.2.2 = "first") <;> rfl
 | false =>
  cases ny:aj y with
  | true =>
   rw[if_pos (by rfl),if_pos (by rfl)]
   cases decide (p.2.2 = "first") <;> rfl
  | false =>
   rw[if_neg (by simp),if_neg (by simp),mq hx hy (b_ nx) (b_ ny) h,bxor]
theorem JW (hx:Vg k x) (hy:Vg k y) (hz:Vg k z) (WR:x≠y) (Ys:y≠z) (h1:eX p x y=true) (h2:eX p y z=true):x≠z∧eX p x z=true:=by
 have WS:x≠z:=by
  rintro rfl
  have:=tJ (p:=p) hx hy WR
  rw[h1,h2] at this
  cases this
 refine⟨WS,?_⟩
 unfold eX at h1 h2 ⊢
 cases nx:aj x with
 | true =>
  cases ny:aj y with
  | true=>exact absurd ((fh nx).trans (fh ny).symm) WR
  | false =>
   rw[nx,ny,if_pos (by rfl)] at h1
   cases nz:aj z with
   | true=>exact absurd ((fh nx).trans (fh nz).symm) WS
   | false=>rw[if_pos (by rfl)];exact h1
 | false =>
  cases ny:aj y with
  | true =>
   rw[nx,ny,if_pos (by rfl)] at h1
   cases nz:aj z with
   | true=>exact absurd ((fh ny).trans (fh nz).symm) Ys
   | false =>
    rw[ny,nz,if_pos (by rfl)] at h2
    cases e:decide (p.2.2 = "first") <;> rw[e] at h1 h2 <;> first | cases h1;done | cases h2;done
  | false =>
   rw[nx,ny,if_neg (by simp)] at h1
   cases nz:aj z with
   | true =>
    rw[ny,nz,if_pos (by rfl)] at h2
    rw[if_pos (by rfl)];exact h2
   | false =>
    rw[ny,nz,if_neg (by simp)] at h2
    rw[if_neg (by simp)]
    cases e:decide (p.2.1 = "up") with
    | true =>
     rw[e] at h1 h2
     rw[GX (a:=x) (b:=y) (c:=z) (by simpa using h1) (by simpa using h2)];rfl
    | false =>
     rw[e] at h1 h2
     have h1:xx x y=false:=by simpa using h1
     have h2:xx y z=false:=by simpa using h2
     have a1:=mq hx hy (b_ nx) (b_ ny) WR
     have a2:=mq hy hz (b_ ny) (b_ nz) Ys
     rw[h1] at a1
     rw[h2] at a2
     have a3:=GX a2 a1
     have a4:=mq hx hz (b_ nx) (b_ nz) WS
     rw[a3] at a4
     cases q:xx x z with
     | true=>rw[q] at a4;cases a4
     | false=>rfl
def Pin (cs:List (Str×Str)) (ps:List Part):Prop:=∀ p∈ps,∃ c∈cs,c.1=p.1
section
variable {cs:List (Str×Str)}{wy:Str}
theorem Pin.tail (h:Pin cs (p :: ps)):Pin cs ps:=fun q hq=>h q (zg _ hq)
theorem vd (hg:Gd cs) (h:Pin cs (p :: ps)):∃ k,∀ ws,Wg cs ws→Vg k (ak cs ws p.1):=by
 obtain⟨c,hc,e⟩:=h p zu
 rw[← e]
 exact⟨c.2,fun ws hw=>(mn hg hw hc).2⟩
theorem qR (hg:Gd cs):∀ {ps:List Part}{a b:Row},Pin cs ps→Wg cs a.2→Wg cs b.2→a.1≠b.1→aV cs wy ps b a=!aV cs wy ps a b
 | [],a,b,_,_,_,h=>by
  show (oF b.1 a.1 == _)=!(oF a.1 b.1 == _)
  rw[jZ h,bxor]
 | p :: ps,a,b,hp,ha,hb,h=>by
  obtain⟨k,hk⟩:=vd hg hp
  have va:=hk _ ha
  have vb:=hk _ hb
  unfold aV
  by_cases e:ak cs a.2 p.1=ak cs b.2 p.1
  ·rw[if_pos ((cw vb.2 va.2).mpr e.symm),if_pos ((cw va.2 vb.2).mpr e)]
   exact qR hg hp.tail ha hb h
  ·rw[if_neg (fun q=>e ((cw vb.2 va.2).mp q).symm),if_neg (fun q=>e ((cw va.2 vb.2).mp q))]
   exact tJ va vb e
theorem GZ (hg:Gd cs):∀ {ps:List Part}{a b c:Row},Pin cs ps→Wg cs a.2→Wg cs b.2→Wg cs c.2→a.1≠b.1→b.1≠c.1→a.1≠c.1→aV cs wy ps a b=true→aV cs wy ps b c=true→aV cs wy ps a c=true
 | [],a,b,c,_,_,_,_,h1,h2,h3,q1,q2=>by
  have q1:(oF a.1 b.1 == decide (wy = "up"))=true:=q1
  have q2:(oF b.1 c.1 == decide (wy = "up"))=true:=q2
  show (oF a.1 c.1 == decide (wy = "up"))=true
  cases e:decide (wy = "up") with
  | true =>
   rw[e] at q1 q2
   rw[AK (b:=b.1) (by simpa using q1) (by simpa using q2)];rfl
  | false =>
   rw[e] at q1 q2
   have q1:oF a.1 b.1=false:=by simpa using q1
   have q2:oF b.1 c.1=false:=by simpa using q2
   have a1:=jZ h1
   have a2:=jZ h2
   rw[q1] at a1
   rw[q2] at a2
   have a3:=AK a2 a1
   have a4:=jZ h3
   rw[a3] at a4
   cases q:oF a.1 c.1 with
   | true=>rw[q] at a4;cases a4
   | false=>rfl
 | p :: ps,a,b,c,hp,ha,hb,hc,h1,h2,h3,q1,q2=>by
  obtain⟨k,hk⟩:=vd hg hp
  have va:=hk _ ha
  have vb:=hk _ hb
  have vc:=hk _ hc
  unfold aV at q1 q2 ⊢
  by_cases e1:ak cs a.2 p.1=ak cs b.2 p.1
  ·rw[if_pos ((cw va.2 vb.2).mpr e1)] at q1
   by_cases e2:ak cs b.2 p.1=ak cs c.2 p.1
   ·rw[if_pos ((cw vb.2 vc.2).mpr e2)] at q2
    rw[if_pos ((cw va.2 vc.2).mpr (e1.trans e2))]
    exact GZ hg hp.tail ha hb hc h1 h2 h3 q1 q2
   ·rw[if_neg (fun q=>e2 ((cw vb.2 vc.2).mp q))] at q2
    rw[e1,if_neg (fun q=>e2 ((cw vb.2 vc.2).mp q))]
    exact q2
  ·rw[if_neg (fun q=>e1 ((cw va.2 vb.2).mp q))] at q1
   by_cases e2:ak cs b.2 p.1=ak cs c.2 p.1
   ·rw[← e2,if_neg (fun q=>e1 ((cw va.2 vb.2).mp q))]
    exact q1
   ·rw[if_neg (fun q=>e2 ((cw vb.2 vc.2).mp q))] at q2
    obtain⟨e3,q3⟩:=JW va vb vc e1 e2 q1 q2
    rw[if_neg (fun q=>e3 ((cw va.2 vc.2).mp q))]
    exact q3
def Rg (cs:List (Str×Str)) (rs:List Row):Prop:=(∀ r∈rs,Wg cs r.2)∧(rs.map Prod.fst).Nodup
theorem Rg.perm (h:Rg cs rs) (p:cK.Perm rs):Rg cs cK:=⟨fun r hr=>h.1 r (p.mem_iff.mp hr),(p.map _).nodup_iff.mpr h.2⟩
theorem Rg.sub (h:Rg cs rs) (p:cK.Sublist rs):Rg cs cK:=⟨fun r hr=>h.1 r (p.subset hr),h.2.sublist (p.map _)⟩
theorem BU (hg:Gd cs) (hp:Pin cs ps) (hr:Rg cs m) (hl:l.Pairwise fun a b=>aV cs wy ps a b=true) (hm:m.Pairwise fun a b=>aV cs wy ps a b=true) (pm:l.Perm m):l=m:=by
 refine List.Perm.eq_of_pairwise (le:=fun a b=>aV cs wy ps a b=true) (fun a b ha hb h1 h2=>?_) hl hm pm
 have ha:=pm.mem_iff.mp ha
 by_cases e:a.1=b.1
 ·exact iE (f:=Prod.fst) hr.2 ha hb e
 ·have:=qR (wy:=wy) hg hp (hr.1 a ha) (hr.1 b hb) e
  rw[h1,h2] at this
  cases this
end
theorem AL {l m:List Nat} (hl:l.Nodup) (hm:m.Nodup) (h:∀ x,x∈l↔x∈m):l.Perm m:=by
 induction l generalizing m with
 | nil =>
  cases m with
  | nil=>exact .nil
  | cons y m=>exact absurd ((h y).mpr zu) (by simp)
 | cons x l ih =>
  obtain⟨n1,n2⟩:=zX.mp hl
  have hx:=(h x).mp zu
  refine .trans ((ih n2 (hm.erase x) fun y=>?_).cons x) (List.perm_cons_erase hx).symm
  rw[hm.mem_erase_iff]
  constructor
  ·intro hy
   exact⟨fun e=>n1 (e ▸ hy),(h y).mp (zg _ hy)⟩
  ·rintro⟨h1,h2⟩
   rcases ze.mp ((h y).mpr h2) with e | e
   ·exact absurd e h1
   ·exact e
theorem map_range (d:α) (xs:List α):(List.range xs.length).map (fun k=>xs.getD k d)=xs:=by
 refine List.ext_getElem (by simp) fun i h1 h2=>?_
 simp [zh h2]
theorem DZ {α:Type} (d:α) {xs:List α}{g:Nat→Nat} (lt:∀ k,k<xs.length→g k<xs.length) (inj:∀ i j,i<xs.length→j<xs.length→g i=g j→i=j):((List.range xs.length).map fun k=>xs.getD (g k) d).Perm xs:=by
 have nd:((List.range xs.length).map g).Nodup:=by
  refine List.pairwise_map.mpr (List.nodup_range.imp_of_mem fun {a b} ha hb n e=>n (inj a b (zS.mp ha) (zS.mp hb) e))
 have sub:∀ x∈(List.range xs.length).map g,x∈List.range xs.length:=fun x hx=>by
  obtain⟨k,hk,rfl⟩:=zi.mp hx
  exact zS.mpr (lt k (zS.mp hk))
 have p:((List.range xs.length).map g).Perm (List.range xs.length):=AL nd List.nodup_range fun x=>by
  refine⟨sub x,fun hx=>?_⟩
  by_cases h:x∈(List.range xs.length).map g
  ·exact h
  ·exfalso
   have:=sub_len nd (m:=(List.range xs.length).erase x) fun y hy=>(List.Nodup.mem_erase_iff List.nodup_range).mpr ⟨fun e=>h (e ▸ hy),sub y hy⟩
   rw[zc,List.length_erase_of_mem hx,List.length_range] at this
   have:=zS.mp hx
   omega
 have e:((List.range xs.length).map fun k=>xs.getD (g k) d)=((List.range xs.length).map g).map fun k=>xs.getD k d:=by rw[zw];rfl
 rw[e]
 have:=p.map fun k=>xs.getD k d
 rw[map_range] at this
 exact this
theorem D0 {α:Type} (d:α) {xs:List α}{g:Nat→Nat}{r:α→α→Prop} (h:∀ i j,i<j→j<xs.length→r (xs.getD (g i) d) (xs.getD (g j) d)):((List.range xs.length).map fun k=>xs.getD (g k) d).Pairwise r:=by
 rw[List.pairwise_map,List.pairwise_iff_getElem]
 intro i j hi hj kH
 rw[List.length_range] at hj
 rw[List.getElem_range,List.getElem_range]
 exact h i j kH hj
def r0:Row:=("",[])
theorem getD_map {rs:List Row}{j:Nat} (h:j<rs.length):(rs.map ao).getD j .aw=ao (rs.getD j r0):=by
 rw[zB,zB,zx,zh h];rfl
theorem getD_mem {rs:List Row}{j:Nat} (h:j<rs.length):rs.getD j r0∈rs:=by
 rw[zB,zh h];exact List.getElem_mem h
theorem mr {rs:List Row}{b:Bool}{f:D→D}{g:Nat→Nat} (h:NB b (fun j=>f ((rs.map ao).getD j .aw)) (rs.map ao).length g) :
  ∃ cK:List Row,(List.range (rs.map ao).length).map (fun k=>(rs.map ao).getD (g k) .aw)=cK.map ao∧cK.Perm rs∧∀ q r:Row→Row→Prop,rs.Pairwise q →
   (∀ x y,x∈rs→y∈rs→(if b=true then Rl (f (ao y)) (f (ao x)) else Rl (f (ao x)) (f (ao y)))→r x y)→(∀ x y,x∈rs→y∈rs→f (ao x)=f (ao y)→q x y→r x y)→cK.Pairwise r:=by
 have hn:(rs.map ao).length=rs.length:=zc _
 rw[hn] at h ⊢
 refine⟨(List.range rs.length).map fun k=>rs.getD (g k) r0,?_,DZ r0 h.lt h.inj,fun q r hq h1 h2=>D0 r0 fun i j kH hj=>?_⟩
 ·rw[zw]
  exact zW fun k hk=>getD_map (h.lt k (zS.mp hk))
 ·have gi:=h.lt i (Nat.lt_trans kH hj)
  have gj:=h.lt j hj
  have o:=h.ord i j kH hj
  rw[getD_map gi,getD_map gj] at o
  rcases o with o | ⟨o,l⟩
  ·exact h1 _ _ (getD_mem gi) (getD_mem gj) o
  ·refine h2 _ _ (getD_mem gi) (getD_mem gj) o ?_
   have:=List.pairwise_iff_getElem.mp hq (g i) (g j) gi gj l
   rw[zB,zB,zh gi,zh gj]
   exact this
section
variable {cs:List (Str×Str)}{wy:Str}
def valued (cs:List (Str×Str)) (p:Part) (r:Row):Bool:=!aj (ak cs r.2 p.1)
theorem JX (h1:aj x=true) (h2:aj y=true):qP x y=true:=by rw[fh h1,fh h2];rfl
theorem AM (h:aj x≠aj y):qP x y=false:=by
 cases x <;> cases y <;> first | rfl | exact absurd rfl h
theorem D1 {ps:List Part}{p:Part}{L V:List Row} (hL:L.Pairwise fun a b=>aV cs wy ps a b=true) (hV:V.Perm (L.filter (valued cs p))) (Ts:V.Pairwise fun a b=>aV cs wy (p :: ps) a b=true) :
  (if p.2.2 = "first" then L.filter (fun r=>!valued cs p r)++V else V++L.filter (fun r=>!valued cs p r)).Perm L∧(if p.2.2 = "first" then L.filter (fun r=>!valued cs p r)++V else V++L.filter (fun r=>!valued cs p r)).Pairwise fun a b=>aV cs wy (p :: ps) a b=true:=by
 have hN:(L.filter fun r=>!valued cs p r).Pairwise fun a b=>aV cs wy (p :: ps) a b=true:=by
  refine (hL.sublist List.filter_sublist).imp_of_mem fun {a b} ha hb h=>?_
  have ha:=(yA.mp ha).2
  have hb:=(yA.mp hb).2
  unfold valued at ha hb
  rw[Bool.not_not] at ha hb
  show (if qP (ak cs a.2 p.1) (ak cs b.2 p.1)=true then aV cs wy ps a b else _)=true
  rw[if_pos (JX ha hb)]
  exact h
 have Lk:∀ a∈L.filter (fun r=>!valued cs p r),∀ b∈V,aj (ak cs a.2 p.1)=true∧aj (ak cs b.2 p.1)=false:=fun a ha b hb=>by
  have ha:=(yA.mp ha).2
  have hb:=(yA.mp (hV.mem_iff.mp hb)).2
  unfold valued at ha hb
  rw[Bool.not_not] at ha
  exact⟨ha,by simpa using hb⟩
 have pm:(L.filter (fun r=>!valued cs p r)++V).Perm L:=(List.Perm.append_left _ hV).trans (List.perm_append_comm.trans (List.filter_append_perm (valued cs p) L))
 by_cases e:p.2.2 = "first"
 ·rw[if_pos e]
  refine⟨pm,List.pairwise_append.mpr ⟨hN,Ts,fun a ha b hb=>?_⟩⟩
  obtain⟨na,nb⟩:=Lk a ha b hb
  show (if qP (ak cs a.2 p.1) (ak cs b.2 p.1)=true then aV cs wy ps a b else eX p (ak cs a.2 p.1) (ak cs b.2 p.1))=true
  rw[AM (by rw[na,nb];nofun),if_neg zd]
  unfold eX
  rw[na,nb,if_pos (by rfl),zt e];rfl
 ·rw[if_neg e]
  refine⟨List.perm_append_comm.trans pm,List.pairwise_append.mpr ⟨Ts,hN,fun a ha b hb=>?_⟩⟩
  obtain⟨na,nb⟩:=Lk b hb a ha
  show (if qP (ak cs a.2 p.1) (ak cs b.2 p.1)=true then aV cs wy ps a b else eX p (ak cs a.2 p.1) (ak cs b.2 p.1))=true
  rw[AM (by rw[na,nb];nofun),if_neg zd]
  unfold eX
  rw[na,nb,if_pos (by rfl),zq e];rfl
theorem xc (hg:Gd cs) (hp:Pin cs ps):∀ {F:List Row},Rg cs (x :: F)→(F.Pairwise fun a b=>aV cs wy ps a b=true) →
  (F.take (F.filter fun y=>aV cs wy ps y x).length++x :: F.drop (F.filter fun y=>aV cs wy ps y x).length).Pairwise fun a b=>aV cs wy ps a b=true
 | [],_,_=>by simp
 | y :: F,hr,h=>by
  obtain⟨h1,h2⟩:=List.pairwise_cons.mp h
  have nd:=hr.2
  rw[zA,zA] at nd
  obtain⟨n1,n2⟩:=zX.mp nd
  obtain⟨n3,n4⟩:=zX.mp n2
  have nxy:y.1≠x.1:=fun e=>n1 (by rw[← e];exact zu)
  have wx:=hr.1 x zu
  have wy':=hr.1 y (zg _ zu)
  cases e:aV cs wy ps y x with
  | true =>
   rw[yp,if_pos e,zK,List.take_succ_cons,List.drop_succ_cons,List.cons_append,List.pairwise_cons]
   have lg:Rg cs (x :: F):=hr.sub ((List.sublist_cons_self y F).cons₂ x)
   refine⟨fun z hz=>?_,xc hg hp lg h2⟩
   rcases zI.mp hz with hz | hz
   ·exact h1 z (List.mem_of_mem_take hz)
   ·rcases ze.mp hz with rfl | hz
    ·exact e
    ·exact h1 z (List.mem_of_mem_drop hz)
  | false =>
   have none:∀ z∈y :: F,aV cs wy ps z x=false:=fun z hz=>by
    rcases ze.mp hz with rfl | hz
    ·exact e
    ·cases q:aV cs wy ps z x with
     | false=>rfl
     | true =>
      have nyz:y.1≠z.1:=fun e=>n3 (by rw[e];exact zi.mpr ⟨z,hz,rfl⟩)
      have WT:z.1≠x.1:=fun e=>n1 (by rw[← e];exact zg _ (zi.mpr ⟨z,hz,rfl⟩))
      have wz:=hr.1 z (zg _ (zg _ hz))
      rw[GZ hg hp wy' wz wx nyz WT nxy (h1 z hz) q] at e
      cases e
   have e0:(y :: F).filter (fun y=>aV cs wy ps y x)=[]:=List.filter_eq_nil_iff.mpr fun z hz=>by rw[none z hz];exact zd
   rw[e0]
   show (x :: y :: F).Pairwise _
   refine List.pairwise_cons.mpr ⟨fun z hz=>?_,h⟩
   have WT:z.1≠x.1:=fun e=>n1 (by
    rw[← e]
    exact zi.mpr ⟨z,hz,rfl⟩)
   rw[qR hg hp (hr.1 z (zg _ hz)) wx WT,none z hz];rfl
theorem G0 (x:α) (F:List α) (m:Nat):(F.take m++x :: F.drop m).Perm (F++[x]):=by
 refine (List.perm_middle).trans (List.Perm.trans ?_ List.perm_append_comm)
 rw[List.take_append_drop]
 exact .refl _
end
abbrev qK:Str := "sorted_by_keys.<locals>.<lambda>"
abbrev qV:Str := "sorted_by_values.<locals>.<lambda>"
def N6:D→D
 | .tup (x :: _)=>x
 | _=>.aw
def AN (cs:List (Str×Str)) (z:Str):D→D
 | .tup [_,.tup ws]=>ak cs ws z
 | _=>.aw
def G1 (t:pv):gN:=fun ds S R _=>∃ (cs:List (Str×Str)) (l:Addr) (rs:List Row) (wy:Str),ds=[.ref l,.str wy]∧lx wy=true∧S l=some (.lst (rs.map ao))∧rs.length<64∧Rg cs rs∧S t.aP=some (.tab qK) ∧
 ∀ (cK:List Row) (p:Addr),cK.Perm rs→(cK.Pairwise fun a b=>aV cs wy [] a b=true)→S p=none→R (.ref p) (S.set p (.lst (cK.map ao)))
theorem gu {S S2:aU}{p:Addr}{c:Ce} (h:Sub S S2):Sub (S.set p c) (S2.set p c):=fun b e hb=>by
 by_cases q:b=p
 ·subst q;rw[af] at hb ⊢;exact hb
 ·rw[ag q] at hb ⊢;exact h b e hb
theorem ee {S S2:aU}{p:Addr} (h:Sub S S2) (e:S2 p=none):S p=none:=by
 cases q:S p with
 | none=>rfl
 | some c=>rw[h p c q] at e;cases e
theorem ve {z:Str} (h:lx z=true):z = "up" ∨ z = "down" := by
 unfold lx at h
 simpa using h
theorem Rg.unlike (h:Rg cs rs):rs.Pairwise fun a b=>a.1≠b.1:=List.pairwise_map.mp h.2
theorem mw (T:Txt w K mg t) (B:Bm mg base):Ok P w base T.bY 4 (G1 t):=by
 refine T.bY.F.X2 (k:=3) ma (by rintro ds S R Z ⟨_,_,_,_,e,_⟩;rw[e];rfl) ?_
 rintro bq A outer s H E ds S R Z q9 hr ⟨cs,l,rs,wy,e,HG,hl,hn,lg,ht,q⟩
 subst e
 have CZ:vX ((rs.map ao).map N6):=.inl ⟨rs.map Prod.fst,by rw[zw,zw];rfl⟩
 have un:rs.Pairwise fun a b=>a.1≠b.1:=lg.unlike
 have Hy:(rs.map ao).length<64:=by rw[zc];exact hn
 refine⟨_,(sc (si (cJ cg hr.units (dv 1) ds) (s1 (sr (K7 (N:=["row"]) (src:=[none]) (q9.trans T.gm) ⟨T.dX,B⟩ hr (nZ (ae bV) ["rows", "way"] rfl rfl (by decide +kernel)) (dv 0) (fun _ _ _ _=>(ix (hr.in1.in1.deeper _).units (dv 0) di)) T.fM eG))) s0) (s1 (sr (Ro (N:=["row"]) (src:=[none]) (q9.trans T.gm) ⟨T.dX,B⟩ hr (nZ (ae bV) ["rows", "way"] rfl rfl (by decide +kernel)) (dv 0) (fun _ _ _ _=>(ix (hr.in1.in1.deeper _).units (dv 0) di)) T.fM eG)))),?_⟩
 rcases ve HG with rfl | rfl
 ·refine⟨_,rfl,_,rfl,bJ (by decide +kernel) ⟨_,rfl,l,rs.map ao,N6,rfl,hl,Hy,ht,CZ,fun x hx S' hs Qk hQ=>?_,fun g S2 p hg hs hp=>?_⟩⟩
  ·obtain⟨r,hr,rfl⟩:=zi.mp hx
   exact⟨_,rfl,_,rfl,hQ S' (.refl _)⟩
  ·obtain⟨cK,e,pm,h⟩:=mr hg
   rw[e]
   refine⟨S.set p (.lst (cK.map ao)),gu hs,q cK p pm (h _ _ un (fun x y hx hy fz=>?_) fun x y hx hy e ne=>absurd (D.str.inj e) ne) (ee hs hp)⟩
   show (oF x.1 y.1 == decide (("up" : Str) = "up"))=true
   have:oF x.1 y.1=true:=zt fz
   rw[this];rfl
 ·refine⟨_,rfl,_,rfl,rm (by decide +kernel) ⟨_,rfl,l,rs.map ao,N6,rfl,hl,Hy,ht,CZ,fun x hx S' hs Qk hQ=>?_,fun g S2 p hg hs hp=>?_⟩⟩
  ·obtain⟨r,hr,rfl⟩:=zi.mp hx
   exact⟨_,rfl,_,rfl,hQ S' (.refl _)⟩
  ·obtain⟨cK,e,pm,h⟩:=mr hg
   rw[e]
   refine⟨S.set p (.lst (cK.map ao)),gu hs,q cK p pm (h _ _ un (fun x y hx hy fz=>?_) fun x y hx hy e ne=>absurd (D.str.inj e) ne) (ee hs hp)⟩
   show (oF x.1 y.1 == decide (("down" : Str) = "up"))=true
   have:oF y.1 x.1=true:=zt fz
   by_cases e:x.1=y.1
   ·rw[e,BR] at this;cases this
   ·rw[jZ e] at this
    have h2:oF x.1 y.1=false:=by simpa using this
    rw[h2,zq (by decide +kernel)];rfl
def G4 (t:pv):gN:=fun ds S R _=>∃ (cs:List (Str×Str)) (ps:List Part) (p:Part) (wy:Str) (l:Addr) (rs:List Row),ds=[.tup (cs.map aB),p3 p,.ref l]∧Gd cs∧Pin cs (p :: ps)∧lx p.2.1=true∧S l=some (.lst (rs.map ao))∧rs.length<64∧Rg cs rs∧(∀ r∈rs,valued cs p r=true)∧(rs.Pairwise fun a b=>aV cs wy ps a b=true)∧S t.aI=some (.tab qV) ∧
 ∀ (cK:List Row) (a:Addr),cK.Perm rs→(cK.Pairwise fun a b=>aV cs wy (p :: ps) a b=true)→S a=none→R (.ref a) (S.set a (.lst (cK.map ao)))
theorem AO {α:Type}{f:α→D}{β:Type}{mk:β→D} : ∀ {l:List α},(∀ x∈l,∃ b,f x=mk b)→∃ bs:List β,l.map f=bs.map mk
 | [],_=>⟨[],rfl⟩
 | x :: l,h=>by
  obtain⟨b,e⟩:=h x zu
  obtain⟨bs,e2⟩:=AO fun y hy=>h y (zg _ hy)
  exact⟨b :: bs,by rw[zA,e,e2];rfl⟩
theorem D2 {cs:List (Str×Str)}{p:Part}{k:Str}{rs:List Row} (hk:∀ r∈rs,Vg k (ak cs r.2 p.1)) (hv:∀ r∈rs,valued cs p r=true):vX ((rs.map ao).map (AN cs p.1)):=by
 rw[zw]
 have nn:∀ r∈rs,ak cs r.2 p.1≠.aw:=fun r hr=>b_ (by have:=hv r hr;unfold valued at this;simpa using this)
 by_cases e:k = "number"
 ·refine .inr (AO fun r hr=>?_)
  have h1:=hk r hr
  have h2:=nn r hr
  show ∃ b,ak cs r.2 p.1=.int b
  generalize ak cs r.2 p.1=v at h1 h2
  cases v with
  | aw=>exact absurd rfl h2
  | int i=>exact⟨i,rfl⟩
  | str z =>
   have h1:=h1.1
   unfold jy at h1
   simp only [aj,yM] at h1
   rw[if_pos e] at h1;cases h1
  | _=>cases h1.2
 ·refine .inl (AO fun r hr=>?_)
  have h1:=hk r hr
  have h2:=nn r hr
  show ∃ b,ak cs r.2 p.1=.str b
  generalize ak cs r.2 p.1=v at h1 h2
  cases v with
  | aw=>exact absurd rfl h2
  | str i=>exact⟨i,rfl⟩
  | int z =>
   have h1:=h1.1
   unfold jy at h1
   simp only [aj,yM] at h1
   rw[if_neg e] at h1;cases h1
  | _=>cases h1.2
theorem G5 {cs:List (Str×Str)}{wy:Str}{ps:List Part}{p:Part}{x y:Row} (nx:valued cs p x=true) (ny:valued cs p y=true) (ne:qP (ak cs x.2 p.1) (ak cs y.2 p.1)=false) (h:(xx (ak cs x.2 p.1) (ak cs y.2 p.1) == decide (p.2.1 = "up"))=true):aV cs wy (p :: ps) x y=true:=by
 unfold valued at nx ny
 have nx:aj (ak cs x.2 p.1)=false:=by simpa using nx
 have ny:aj (ak cs y.2 p.1)=false:=by simpa using ny
 show (if qP (ak cs x.2 p.1) (ak cs y.2 p.1)=true then aV cs wy ps x y else eX p (ak cs x.2 p.1) (ak cs y.2 p.1))=true
 rw[ne,if_neg zd]
 unfold eX
 rw[nx,ny,if_neg (by simp)]
 exact h
theorem G6 {x y:D} (h:xx x y=true):qP x y=false:=by
 cases x with
 | int i =>
  cases y with
  | int j=>exact zq fun e=>by rw[e,BS] at h;cases h
  | _=>cases h
 | str i =>
  cases y with
  | str j=>exact zq fun e=>by rw[e,BS] at h;cases h
  | _=>cases h
 | _=>cases h
theorem G7 (x y:D):qP x y=qP y x:=by
 cases x <;> cases y <;> first | rfl | exact yC.mpr ⟨Eq.symm,Eq.symm⟩
theorem kg (T:Txt w K mg t) (B:Bm mg base):Ok P w base T.bC 6 (G4 t):=by
 have dE:Ok P w base T.aX 2 _:=jG T
 refine T.bC.F.X2 (k:=5) kf (by rintro ds S R Z ⟨_,_,_,_,_,_,e,_⟩;rw[e];rfl) ?_
 rintro bq A outer s H E ds S R Z q9 hr ⟨cs,ps,p,wy,l,rs,e,hg,sA,HG,hl,hn,lg,hv,RO,ht,q⟩
 subst e
 obtain⟨c,hc,ec⟩:=sA p zu
 obtain⟨k,hk⟩:=vd hg sA
 have CZ:vX ((rs.map ao).map (AN cs p.1)):=D2 (fun r hr=>hk _ (lg.1 r hr)) hv
 have Hy:(rs.map ao).length<64:=by rw[zc];exact hn
 have same:∀ x y:Row,x∈rs→y∈rs→AN cs p.1 (ao x)=AN cs p.1 (ao y)→aV cs wy ps x y=true→aV cs wy (p :: ps) x y=true:=fun x y hx hy e h=>by
  show (if qP (ak cs x.2 p.1) (ak cs y.2 p.1)=true then aV cs wy ps x y else _)=true
  rw[if_pos ((cw (hk _ (lg.1 x hx)).2 (hk _ (lg.1 y hy)).2).mpr e)]
  exact h
 have step:∀ x,x∈rs.map ao→∀ Qk:KD,∀ S':aU,Qk (AN cs p.1 x) S'→∃ JU r' c',[D.tup (cs.map aB),x,.str p.1]=[.tup (JU.map aB),ao r',.str (Prod.fst (β:=Str) c')]∧Gd JU∧Wg JU r'.2∧c'∈JU∧Qk (ak JU r'.2 c'.1) S':=fun x hx Qk S' hQ=>by
  obtain⟨r,hr,rfl⟩:=zi.mp hx
  exact⟨cs,r,c,by rw[ec],hg,lg.1 r hr,hc,by rw[ec];exact hQ⟩
 refine⟨_,(sc (si (cJ cg hr.units (ix hr.units (dv 1) di) ds) (s1 (sr (K7 (N:=["row", "columns", "part"]) (src:=[none,some 0,some 1]) (q9.trans T.fk) ⟨T.cV,B⟩ hr (nZ (ae bG) ["columns", "part", "rows"] rfl rfl (by decide +kernel)) (dv 2) (fun _ _ _ _=>(cf (dE.mono (by decide)) (hr.in1.in1.deeper _) T.aX.m T.aX.k T.aX.b d0 (ac (dv 1) (ac (dv 0) (ac (ix (hr.in1.in1.deeper _).units (dv 2) di) an))))) T.fM eG))) s0) (s1 (sr (Ro (N:=["row", "columns", "part"]) (src:=[none,some 0,some 1]) (q9.trans T.fk) ⟨T.cV,B⟩ hr (nZ (ae bG) ["columns", "part", "rows"] rfl rfl (by decide +kernel)) (dv 2) (fun _ _ _ _=>(cf (dE.mono (by decide)) (hr.in1.in1.deeper _) T.aX.m T.aX.k T.aX.b d0 (ac (dv 1) (ac (dv 0) (ac (ix (hr.in1.in1.deeper _).units (dv 2) di) an))))) T.fM eG)))),?_⟩
 rcases ve HG with e1 | e1
 ·refine⟨_,rfl,_,rfl,_,rfl,bJ (by rw[e1];decide +kernel) ⟨_,rfl,l,rs.map ao,AN cs p.1,rfl,hl,Hy,ht,CZ,fun x hx S' hs Qk hQ=>⟨_,rfl,_,rfl,_,rfl,_,rfl,step x hx _ S' (hQ S' (.refl _))⟩,fun g S2 a hg hs ha=>?_⟩⟩
  obtain⟨cK,e,pm,h⟩:=mr hg
  rw[e]
  refine⟨S.set a (.lst (cK.map ao)),gu hs,q cK a pm (h _ _ RO (fun x y hx hy fz=>?_) same) (ee hs ha)⟩
  have fz:=GY (a:=ak cs x.2 p.1) (b:=ak cs y.2 p.1) fz
  exact G5 (hv x hx) (hv y hy) (G6 fz) (by rw[fz,zt e1];rfl)
 ·refine⟨_,rfl,_,rfl,_,rfl,rm (by rw[e1];decide +kernel) ⟨_,rfl,l,rs.map ao,AN cs p.1,rfl,hl,Hy,ht,CZ,fun x hx S' hs Qk hQ=>⟨_,rfl,_,rfl,_,rfl,_,rfl,step x hx _ S' (hQ S' (.refl _))⟩,fun g S2 a V0 hs ha=>?_⟩⟩
  obtain⟨cK,e,pm,h⟩:=mr V0
  rw[e]
  refine⟨S.set a (.lst (cK.map ao)),gu hs,q cK a pm (h _ _ RO (fun x y hx hy fz=>?_) same) (ee hs ha)⟩
  have fz:=GY (a:=ak cs y.2 p.1) (b:=ak cs x.2 p.1) fz
  have ne:=G6 fz
  refine G5 (hv x hx) (hv y hy) (by rw[G7];exact ne) ?_
  have nn:∀ r∈rs,ak cs r.2 p.1≠.aw:=fun r hr=>b_ (by have:=hv r hr;unfold valued at this;simpa using this)
  have GC:ak cs x.2 p.1≠ak cs y.2 p.1:=fun e=>by
   have:=(cw (hk _ (lg.1 y hy)).2 (hk _ (lg.1 x hx)).2).mpr e.symm
   rw[ne] at this;cases this
  have:=mq (hk _ (lg.1 x hx)) (hk _ (lg.1 y hy)) (nn x hx) (nn y hy) GC
  rw[fz] at this
  have h2:xx (ak cs x.2 p.1) (ak cs y.2 p.1)=false:=by simpa using this
  rw[h2,e1,zq (by decide +kernel)];rfl
def Tb (t:pv) (S:aU):Prop:=S t.aP=some (.tab qK)∧S t.aI=some (.tab qV)
theorem Tb.sub {t:pv}{S S':aU} (h:Tb t S) (s:Sub S S'):Tb t S':=⟨s _ _ h.1,s _ _ h.2⟩
def BV (b:Bool) (cs:List (Str×Str)) (p:Part):D→Bool
 | .tup [_,.tup ws]=>aj (ak cs ws p.1) == b
 | _=>false
theorem j4 {rs:List Row}{f:D→Bool}{g:Row→Bool} (h:∀ r,f (ao r)=g r):((rs.map ao).filter f).map id=(rs.filter g).map ao:=by
 rw[List.map_id,List.filter_map]
 exact congrArg (List.map ao) (List.filter_congr fun r _=>h r)
def G8 (t:pv):gN:=fun ds S R _=>∃ (cs:List (Str×Str)) (ps:List Part) (p:Part) (wy:Str) (l:Addr) (rs:List Row),ds=[.tup (cs.map aB),p3 p,.ref l]∧Gd cs∧Pin cs (p :: ps)∧lx p.2.1=true∧S l=some (.lst (rs.map ao))∧rs.length<64∧Rg cs rs∧(rs.Pairwise fun a b=>aV cs wy ps a b=true)∧Tb t S ∧
 ∀ (cK:List Row) (a:Addr),cK.Perm rs→(cK.Pairwise fun a b=>aV cs wy (p :: ps) a b=true)→S a=none→R (.ref a) (S.set a (.lst (cK.map ao)))
theorem mx (T:Txt w K mg t) (B:Bm mg base):Ok P w base T.bZ 7 (G8 t):=by
 have dE:Ok P w base T.aX 2 _:=jG T
 have lA:Ok P w base T.bC 6 (G4 t):=kg T B
 refine T.bZ.F.ok cG (by rintro ds S R Z ⟨_,_,_,_,_,_,e,_⟩;rw[e];rfl) ?_
 rintro bq A outer s H E ds S R Z hr ⟨cs,ps,p,wy,l,rs,e,hg,sA,HG,hl,hn,lg,RO,ht,q⟩
 subst e
 obtain⟨c,hc,ec⟩:=sA p zu
 have hz:(rs.map ao).length≤1000:=by rw[zc];omega
 refine⟨_,(sc (OM (i:=3) (N:=["row", "columns", "part"]) (src:=[none,some 0,some 1]) cG.nd (nZ (ae bW) ["columns", "part", "rows", "without", "valued"] rfl rfl (by decide +kernel)) (il (dv 2)) (um (show (["row", "columns", "part"]:List Str).Nodup by decide +kernel)) (bt rfl) bu (fun _ _ _ _ _=>(if1 (cJ rM hr.units (cf (dE.mono (by decide)) hr T.aX.m T.aX.k T.aX.b d0 (ac (dv 1) (ac (dv 0) (ac (ix hr.units (dv 2) di) an)))) dn))) (fun _ _ _ _ _=>(dv 0))) (sc (OM (i:=4) (N:=["row", "columns", "part"]) (src:=[none,some 0,some 1]) cG.nd (nZ (ae bW) ["columns", "part", "rows", "without", "valued"] rfl rfl (by decide +kernel)) (il (dv 2)) (um (show (["row", "columns", "part"]:List Str).Nodup by decide +kernel)) (bt rfl) bu (fun _ _ _ _ _=>(if1 (cJ mO hr.units (cf (dE.mono (by decide)) hr T.aX.m T.aX.k T.aX.b d0 (ac (dv 1) (ac (dv 0) (ac (ix hr.units (dv 2) di) an)))) dn))) (fun _ _ _ _ _=>(dv 0))) (sc (hX (i:=4) cG.nd (cf (lA.mono (by decide)) hr T.bC.m T.bC.k T.bC.b d0 (ac (dv 0) (ac (dv 1) (ac (dv 4) an))))) (s1 (sr (XH (cJ cg hr.units (ix hr.units (dv 1) di) ds) (bo gU hr.units (dv 3) (dv 4)) (bo gU hr.units (dv 4) (dv 3)))))))),?_⟩
 refine⟨_,rfl,_,hl,?_⟩
 refine fG (BV true cs p) id hl hz (fun d hd Q Q' hQ GF=>?_) fun p1 DR=>?_
 ·obtain⟨r,hr,rfl⟩:=zi.mp hd
  refine⟨_,rfl,_,rfl,_,rfl,_,rfl,cs,r,c,(show [D.tup (cs.map aB),ao r,D.str p.1]=[_,_,D.str c.1] by rw[ec]),hg,lg.1 r hr,hc,?_⟩
  rw[ec]
  refine⟨_,rfl,dw (fun h=>⟨_,rfl,hQ ?_⟩) (fun h=>GF ?_)⟩
  ·show (aj (ak cs r.2 p.1) == true)=true
   rw[show aj (ak cs r.2 p.1)=true from h];rfl
  ·show (aj (ak cs r.2 p.1) == true)=false
   rw[show aj (ak cs r.2 p.1)=false from h];rfl
 have e1:((rs.map ao).filter (BV true cs p)).map id=(rs.filter fun r=>!valued cs p r).map ao:=j4 fun r=>by
  show (aj (ak cs r.2 p.1) == true)=!valued cs p r
  unfold valued;cases aj (ak cs r.2 p.1) <;> rfl
 rw[show (⟨rs.map ao,fun S=>n5 S (.ref l) (rs.map ao)⟩:Ft).xs=rs.map ao from rfl,e1]
 have O6:Sub S (S.set p1 (.lst ((rs.filter fun r=>!valued cs p r).map ao))):=.new DR
 have h1:(S.set p1 (.lst ((rs.filter fun r=>!valued cs p r).map ao))) p1=some (.lst ((rs.filter fun r=>!valued cs p r).map ao)):=af
 generalize S.set p1 (.lst ((rs.filter fun r=>!valued cs p r).map ao))=S1 at O6 h1 ⊢
 have JM:=O6 _ _ hl
 refine⟨_,rfl,_,JM,?_⟩
 refine fG (BV false cs p) id JM hz (fun d hd Q Q' hQ GF=>?_) fun p2 mK=>?_
 ·obtain⟨r,hr,rfl⟩:=zi.mp hd
  refine⟨_,rfl,_,rfl,_,rfl,_,rfl,cs,r,c,(show [D.tup (cs.map aB),ao r,D.str p.1]=[_,_,D.str c.1] by rw[ec]),hg,lg.1 r hr,hc,?_⟩
  rw[ec]
  refine⟨_,rfl,dw (fun h=>⟨_,rfl,hQ ?_⟩) (fun h=>GF ?_)⟩
  ·show (aj (ak cs r.2 p.1) == false)=true
   rw[show aj (ak cs r.2 p.1)=false from nt h];rfl
  ·show (aj (ak cs r.2 p.1) == false)=false
   rw[show aj (ak cs r.2 p.1)=true from nf h];rfl
 have e2:((rs.map ao).filter (BV false cs p)).map id=(rs.filter (valued cs p)).map ao:=j4 fun r=>by
  show (aj (ak cs r.2 p.1) == false)=valued cs p r
  unfold valued;cases aj (ak cs r.2 p.1) <;> rfl
 rw[show (⟨rs.map ao,fun S=>n5 S (.ref l) (rs.map ao)⟩:Ft).xs=rs.map ao from rfl,e2]
 have Bg:Sub S (S1.set p2 (.lst ((rs.filter (valued cs p)).map ao))):=O6.trans (.new mK)
 have GK:(S1.set p2 (.lst ((rs.filter (valued cs p)).map ao))) p1=_:=(ag (fU h1 mK)).trans h1
 have Yt:(S1.set p2 (.lst ((rs.filter (valued cs p)).map ao))) p2=_:=af
 generalize S1.set p2 (.lst ((rs.filter (valued cs p)).map ao))=S2 at Bg GK Yt ⊢
 have fl:(rs.filter (valued cs p)).length≤rs.length:=List.length_filter_le _ _
 have fl2:(rs.filter fun r=>!valued cs p r).length≤rs.length:=List.length_filter_le _ _
 refine⟨_,rfl,_,rfl,_,rfl,cs,ps,p,wy,p2,rs.filter (valued cs p),rfl,hg,sA,HG,Yt,by omega,lg.sub List.filter_sublist,fun r hr=>(yA.mp hr).2,RO.sublist List.filter_sublist,(ht.sub Bg).2,fun V p3 hV Ts Tp=>?_⟩
 obtain⟨pm,pw⟩:=D1 RO hV Ts
 have WU:(S2.set p3 (.lst (V.map ao))) p1=_:=(ag (fU GK Tp)).trans GK
 have WV:(S2.set p3 (.lst (V.map ao))) p3=some (.lst (V.map ao)):=af
 have RP:Sub S (S2.set p3 (.lst (V.map ao))):=Bg.trans (.new Tp)
 generalize S2.set p3 (.lst (V.map ao))=S3 at WU WV RP ⊢
 have hVl:=hV.length_eq
 refine⟨_,rfl,_,rfl,_,rfl,dw (fun h=>?_) (fun h=>?_)⟩
 ·rw[if_pos (zH h)] at pm pw
  refine⟨_,rfl,_,rfl,_,_,WU,WV,sm (by rw[zc,zc];omega),fun p4 O7=>?_⟩
  rw[← zF]
  exact⟨_,gu RP,q _ p4 pm pw (ee RP O7)⟩
 ·rw[if_neg (yx h)] at pm pw
  refine⟨_,rfl,_,rfl,_,_,WV,WU,sm (by rw[zc,zc];omega),fun p4 O7=>?_⟩
  rw[← zF]
  exact⟨_,gu RP,q _ p4 pm pw (ee RP O7)⟩
structure Og (cs:List (Str×Str)) (ps:List Part) (wy:Str):Prop where
 pin:Pin cs ps
 WW:∀ p∈ps,lx p.2.1=true
 way:lx wy=true
 ok:DU cs ps wy=true
 tx:∀ p∈ps,WO p
def eB (ps:List Part) (wy:Str):D:=.tup [.tup (ps.map p3),.str wy]
def Ll (t:pv):gN:=fun ds S R _=>∃ (cs:List (Str×Str)) (ps:List Part) (wy:Str) (l:Addr) (rs:List Row),ds=[.tup (cs.map aB),eB ps wy,.ref l]∧Gd cs∧Og cs ps wy∧S l=some (.lst (rs.map ao))∧rs.length<64∧Rg cs rs∧Tb t S ∧
 ∀ (cK:List Row) (a:Addr),cK.Perm rs→(cK.Pairwise fun a b=>aV cs wy ps a b=true)→S a=none→R (.ref a) (S.set a (.lst (cK.map ao)))
structure Vw (C:Addr) (S:aU) (a:Addr) (cs:List (Str×Str)) (m:D) (rows:List Row):Prop where
 sh:∃ F dl rs,br C S a F cs dl rs∧rs.length<64∧sv dl.length m≠none∧∀ i ss,sv dl.length m=some i→ss.Perm (rs.map (·.1))→PyProof.Rows.sortedS ss=true→k_ rs i ss=rows.map ao
 mo:Gt S m
 len:rows.length<64
 rg:Rg cs rows
theorem br.sub (b:Sub S S') (h:br C S a F cs dl rs):br C S' a F cs dl rs:=by
 obtain⟨ld,lr,ra,h,e⟩:=h
 exact⟨ld,lr,ra,⟨b _ _ h.ins,b _ _ h.vm,b _ _ h.run,fun r hr=>b _ _ (h.cell r hr),h.kn,h.an,h.sz⟩,e⟩
theorem xf (T:Txt w K mg t) (B:Bm mg base):Ok P w base T.gZ 8 (Ll t):=by
 have nJ:Ok P w base T.bY 4 (G1 t):=mw T B
 have nK:Ok P w base T.bZ 7 (G8 t):=mx T B
 refine T.gZ.F.ok gp (by rintro ds S R Z ⟨_,_,_,_,_,e,_⟩;rw[e];rfl) ?_
 rintro bq A outer s H E ds S R Z hr ⟨cs,ps,wy,l,rs,e,hg,ho,hl,hn,lg,ht,q⟩
 subst e
 refine⟨_,(sc (hX (i:=3) gp.nd (cf (nJ.mono (by decide)) hr T.bY.m T.bY.k T.bY.b d0 (ac (dv 2) (ac (ix hr.units (dv 1) di) an)))) (sc (HC (HB (irt T.qx (ac (ix hr.units (dv 1) di) an)) (gn (i:=4) gp.nd) (s1 (hX (i:=3) gp.nd (cf (nK.mono (by decide)) hr T.bZ.m T.bZ.k T.bZ.b d0 (ac (dv 0) (ac (dv 4) (ac (dv 3) an)))))))) (s1 (sr (dv 3))))),?_⟩
 refine⟨_,rfl,_,rfl,_,rfl,cs,l,rs,wy,rfl,ho.way,hl,hn,lg,ht.1,fun N7 p1 Ln Tu DR=>?_⟩
 have RQ:ps.reverse.length=ps.length:=yt
 refine⟨fun aK S'=>∃ (o:Option D) (p:Addr) (cK:List Row),aK=[some (.tup (cs.map aB)),some (eB ps wy),some (.ref l),some (.ref p),o]∧S p=none∧S' p=some (.lst (cK.map ao))∧Sub S S'∧cK.Perm rs∧cK.Pairwise fun a b=>aV cs wy ps a b=true,?_,?_⟩
 ·refine⟨_,rfl,_,rfl,_,rfl,?_⟩
  refine⟨fun i aK S'=>∃ (o:Option D) (p:Addr) (cK:List Row),aK=[some (.tup (cs.map aB)),some (eB ps wy),some (.ref l),some (.ref p),o]∧S p=none∧S' p=some (.lst (cK.map ao))∧Sub S S'∧cK.Perm rs∧cK.Pairwise fun a b=>aV cs wy (ps.reverse.take i).reverse a b=true,⟨none,p1,N7,rfl,DR,af,.new DR,Ln,Tu⟩,fun _ _ _ _=>trivial,?_,?_⟩
  ·rintro i d aK S' hd ⟨o,p,cK,rfl,hp,gM,sb,pm,pw⟩
   have hd:(ps.map p3).reverse[i]?=some d:=hd
   rw[← List.map_reverse,zx] at hd
   cases e5:ps.reverse[i]? with
   | none=>rw[e5] at hd;cases hd
   | some pt =>
    rw[e5] at hd
    cases hd
    have M5:pt∈ps:=List.mem_reverse.mp (zM e5)
    have et:(ps.reverse.take (i+1)).reverse=pt :: (ps.reverse.take i).reverse:=by
     rw[List.take_add_one,e5,List.reverse_append];rfl
    have Kz:Pin cs (pt :: (ps.reverse.take i).reverse):=fun x hx=>by
     rcases ze.mp hx with rfl | hx
     ·exact ho.pin _ M5
     ·exact ho.pin _ (List.mem_reverse.mp (List.mem_of_mem_take (List.mem_reverse.mp hx)))
    refine⟨_,rfl,_,rfl,_,rfl,cs,(ps.reverse.take i).reverse,pt,wy,p,cK,rfl,hg,Kz,ho.WW pt M5,gM,by rw[pm.length_eq];exact hn,lg.perm pm,pw,ht.sub sb,fun tq p2 WX Tv mK=>?_⟩
    rw[← et] at Tv
    exact⟨_,p2,tq,rfl,ee sb mK,af,sb.trans (.new mK),WX.trans pm,Tv⟩
  ·rintro aK S' ⟨o,p,cK,rfl,hp,gM,sb,pm,pw⟩
   have pw:cK.Pairwise fun a b=>aV cs wy (ps.reverse.take (ps.map p3).reverse.length).reverse a b=true:=pw
   rw[yt,zc,List.take_of_length_le (Nat.le_of_eq RQ),List.reverse_reverse] at pw
   exact fo ⟨o,p,cK,rfl,hp,gM,sb,pm,pw⟩
 ·rintro aK S' ⟨o,p,cK,rfl,hp,gM,sb,pm,pw⟩
  refine⟨_,rfl,S.set p (.lst (cK.map ao)),fun b c hb=>?_,q cK p pm pw hp⟩
  by_cases e:b=p
  ·subst e;rw[af] at hb;cases hb;exact gM
  ·rw[ag e] at hb;exact sb b c hb
def Lo (cs:List (Str×Str)) (d:D):D→Bool
 | .tup [.str k,.tup ws]=>cH cs (k,ws) 3 d
 | _=>false
def G9 (t:pv):gN:=fun ds S R _=>∃ a cs d m rows,ds=[.ref a,d,m]∧Gd cs∧Sg cs 3 d∧Vw t.ah S a cs m rows∧∀ p,S p=none→R (.ref p) (S.set p (.lst ((rows.filter fun r=>cH cs r 3 d).map ao)))
theorem oX (T:Txt w K mg t):Ok P w base T.cR 7 (G9 t):=by
 have a_:ip P w mg base T.az 1 _:=fR T
 have qS:ip P w mg base T.dU 3 (Lg t.ah t.eK):=DN T
 have jH:Ok P w base T.passes 6 (AJ 3):=tI T 3
 refine T.cR.F.ok iR (by rintro ds S R Z ⟨_,_,_,_,_,e,_⟩;rw[e];rfl) ?_
 rintro bq A outer s H E ds S R Z hr ⟨a,cs,d,m,rows,e,hg,hd,hv,q⟩
 subst e
 obtain⟨F,dl,rs,hS,hn,WY,WZ⟩:=hv.sh
 obtain⟨ld,lr,ra,h,_⟩:=id hS
 refine⟨_,(sc (hX (i:=3) iR.nd (rO (dv 0) T.aq T.az.e (a_.mono (by decide)) hr T.az.b d0)) (s1 (sr (xt (N:=["row", "columns", "sieve"]) (src:=[none,some 3,some 1]) (nZ (ae dP) ["shelf", "sieve", "moment", "columns"] rfl rfl (by decide +kernel)) (il (rN (dv 0) T.aq T.dU.e (qS.mono (by decide)) hr T.dU.b d0 (ac (dv 2) an))) (um (show (["row", "columns", "sieve"]:List Str).Nodup by decide +kernel)) (bt rfl) bu (fun _ _ _ _ _=>(if1 (tv (cf (jH.mono (by omega)) hr T.passes.m T.passes.k T.passes.b d0 (ac (dv 1) (ac (dv 2) (ac (dv 0) an))))))) (fun _ _ _ _ _=>(dv 0)))))),?_⟩
 refine⟨_,rfl,a,_,rfl,h.ins,rfl,a,F,cs,dl,rs,rfl,hS,?_⟩
 refine⟨_,rfl,a,_,rfl,h.ins,rfl,_,rfl,a,F,cs,dl,rs,m,rfl,hS,hn,hv.mo,fun i ss hi hp hs p u5=>?_,fun h=>absurd h WY⟩
 rw[WZ i ss hi hp hs]
 refine⟨_,af,?_⟩
 refine fG (Lo cs d) id af (by show (rows.map ao).length≤1000;rw[zc];have:=hv.len;omega) (fun x hx Q Q' hQ GF=>?_) fun p2 mK=>?_
 ·obtain⟨r,hr,rfl⟩:=zi.mp hx
  refine⟨_,rfl,_,rfl,_,rfl,cs,d,r,rfl,hg,hd,hv.rg.1 r hr,_,rfl,dw (fun h=>⟨_,rfl,hQ h⟩) (fun h=>GF h)⟩
 ·have e1:((rows.map ao).filter (Lo cs d)).map id=(rows.filter fun r=>cH cs r 3 d).map ao:=j4 fun r=>rfl
  rw[show (⟨rows.map ao,fun S=>n5 S (.ref p) (rows.map ao)⟩:Ft).xs=rows.map ao from rfl,e1]
  exact⟨_,gu (.new u5),q p2 (ee (.new u5) mK)⟩
def JY (t:pv):gN:=fun ds S R _=>∃ a cs ps wy d m rows,ds=[.ref a,eB ps wy,d,m]∧Gd cs∧Og cs ps wy∧Sg cs 3 d∧Vw t.ah S a cs m rows∧Tb t S ∧
 ∀ (cK:List Row) (p:Addr),cK.Perm (rows.filter fun r=>cH cs r 3 d)→(cK.Pairwise fun a b=>aV cs wy ps a b=true)→S p=none→R (.ref p) (S.set p (.lst (cK.map ao)))
theorem my (T:Txt w K mg t) (B:Bm mg base):Ok P w base T.bX 9 (JY t):=by
 have a_:ip P w mg base T.az 1 _:=fR T
 have qT:Ok P w base T.cR 7 (G9 t):=oX T
 have AQ:Ok P w base T.gZ 8 (Ll t):=xf T B
 refine T.bX.F.ok l_ (by rintro ds S R Z ⟨_,_,_,_,_,_,_,e,_⟩;rw[e];rfl) ?_
 rintro bq A outer s H E ds S R Z hr ⟨a,cs,ps,wy,d,m,rows,e,hg,ho,hd,hv,ht,q⟩
 subst e
 obtain⟨F,dl,rs,hS,hn,WY,WZ⟩:=hv.sh
 obtain⟨ld,lr,ra,h,_⟩:=id hS
 refine⟨_,(s1 (sr (cf (AQ.mono (by decide)) hr T.gZ.m T.gZ.k T.gZ.b d0 (ac (rO (dv 0) T.aq T.az.e (a_.mono (by decide)) hr T.az.b d0) (ac (dv 1) (ac (cf (qT.mono (by decide)) hr T.cR.m T.cR.k T.cR.b d0 (ac (dv 0) (ac (dv 2) (ac (dv 3) an)))) an)))))),?_⟩
 refine⟨_,rfl,a,_,rfl,h.ins,rfl,a,F,cs,dl,rs,rfl,hS,?_⟩
 refine⟨_,rfl,_,rfl,_,rfl,_,rfl,a,cs,d,m,rows,rfl,hg,hd,hv,fun p hp=>?_⟩
 have fl:(rows.filter fun r=>cH cs r 3 d).length≤rows.length:=List.length_filter_le _ _
 have:=hv.len
 refine⟨cs,ps,wy,p,rows.filter fun r=>cH cs r 3 d,rfl,hg,ho,af,Nat.lt_of_le_of_lt fl this,hv.rg.sub List.filter_sublist,ht.sub (.new hp),fun cK p2 pm pw mK=>?_⟩
 exact⟨_,gu (.new hp),q cK p2 pm pw (ee (.new hp) mK)⟩
theorem G_ (T:Txt w K mg t) (B:Bm mg base):Ok P w base T.plain 10 (JY t):=by
 have a_:ip P w mg base T.az 1 _:=fR T
 have gJ:Ok P w base T.bz 5 _:=jF T
 have sC:Ok P w base T.dF 6 _:=qN T
 have nL:Ok P w base T.bX 9 (JY t):=my T B
 refine T.plain.F.ok Gu (by rintro ds S R Z ⟨_,_,_,_,_,_,_,e,_⟩;rw[e];rfl) ?_
 rintro bq A outer s H E ds S R Z hr ⟨a,cs,ps,wy,d,m,rows,e,hg,ho,hd,hv,ht,q⟩
 subst e
 obtain⟨F,dl,rs,hS,hn,WY,WZ⟩:=hv.sh
 obtain⟨ld,lr,ra,h,_⟩:=id hS
 refine⟨_,(sc (se (cf (gJ.mono (by decide)) hr T.bz.m T.bz.k T.bz.b d0 (ac (rO (dv 0) T.aq T.az.e (a_.mono (by decide)) hr T.az.b d0) (ac (dv 1) an)))) (sc (se (cf (sC.mono (by decide)) hr T.dF.m T.dF.k T.dF.b d0 (ac (rO (dv 0) T.aq T.az.e (a_.mono (by decide)) hr T.az.b d0) (ac (dv 2) an)))) (s1 (sr (cf (nL.mono (by decide)) hr T.bX.m T.bX.k T.bX.b d0 (ac (dv 0) (ac (dv 1) (ac (dv 2) (ac (dv 3) an))))))))),?_⟩
 refine⟨_,rfl,a,_,rfl,h.ins,rfl,a,F,cs,dl,rs,rfl,hS,_,rfl,cs,ps,wy,rfl,hg,ho.tx,fun _=>?_,fun z=>by rw[ho.ok] at z;cases z⟩
 refine⟨_,rfl,a,_,rfl,h.ins,rfl,a,F,cs,dl,rs,rfl,hS,_,rfl,cs,d,rfl,hg,hd,?_⟩
 exact⟨_,rfl,_,rfl,_,rfl,_,rfl,a,cs,ps,wy,d,m,rows,rfl,hg,ho,hd,hv,ht,fun cK p pm pw hp=>fo (q cK p pm pw hp)⟩
def BW (z:Str):D→Bool
 | .tup [.tup (.str n :: _),_]=>decide (n=z)
 | _=>false
def RS:D→D
 | .tup [_,v]=>v
 | _=>.aw
theorem xg:∀ {cs:List (Str×Str)}{ws:List D},z∈cs.map Prod.fst→ws.length=cs.length→(((bh (cs.map aB) ws).filter (BW z)).map RS)[0]?=some (ak cs ws z)
 | [],_,h,_=>by cases h
 | c :: cs,[],_,h=>by cases h
 | c :: cs,v :: ws,h,hl=>by
  have e0:bh ((c :: cs).map aB) (v :: ws)=.tup [aB c,v] :: bh (cs.map aB) ws:=rfl
  rw[e0]
  unfold ak Lj
  by_cases e:c.1=z
  ·rw[yp,if_pos (show BW z (.tup [aB c,v])=true from zt e),zA,zA,e,List.idxOf_cons_self]
   rfl
  ·have hz:z∈cs.map Prod.fst:=by
    rw[zA] at h
    rcases ze.mp h with h | h
    ·exact absurd h.symm e
    ·exact h
   have ih:=xg (ws:=ws) hz (by simpa using hl)
   unfold ak Lj at ih
   rw[yp,if_neg (by rw[show BW z (.tup [aB c,v])=false from zq e];exact zd),ih,zA,List.idxOf_cons,show (c.1 == z)=false by simpa using e]
   rfl
theorem xh (q:R (.bl (if neg then !(x == y) else (x == y))) S):IX neg (.bl x) (.bl y) S R :=
 ⟨.bool x,.bool y,by simp only [Dl,Dp],by simp only [Dl,Dp],by simp only [PyData.canLay0],by simp only [PyData.canLay0],.inl (by simp only [PyData.depth];omega),by
  have e:PyData.eqv (.bool x) (.bool y)=(x == y):=by cases x <;> cases y <;> rfl
  rw[e];exact q⟩
theorem RT (T:Txt w K mg t):Ok P w base T.uG 1 (fun ds S R _=>∃ cs r c,ds=[.tup (cs.map aB),ao r,.str c.1]∧Gd cs∧Wg cs r.2∧c∈cs∧R (ak cs r.2 c.1) S):=by
 refine T.uG.F.ok JC (by rintro ds S R Z ⟨_,_,_,e,_⟩;rw[e];rfl) ?_
 rintro bq A outer s H E ds S R Z hr ⟨cs,r,c,e,hg,hw,hc,q⟩
 subst e
 have hlen:r.2.length=cs.length:=(Paired.length hw).symm
 have gM:(bh (cs.map aB) r.2).length≤1000:=by unfold bh;rw[List.length_zipWith,zc];have:=hg.1;omega
 refine⟨_,(s1 (sr (ix hr.units (xt (N:=["_law_column", "_law_value_here", "_law_name"]) (src:=[none,none,some 2]) (nZ (ae uw) ["_law_columns_here", "_law_row", "_law_name"] rfl rfl (by decide +kernel)) (XS T.Gp (ac (dv 0) (ac (ix hr.units (dv 1) di) an))) (V1 (show (["_law_column", "_law_value_here", "_law_name"]:List Str).Nodup by decide +kernel)) (tY rfl rfl) uk (fun _ _ _ _ _=>(if1 (cJ cg hr.units (ix hr.units (dv 0) di) (dv 2)))) (fun _ _ _ _ _=>(dv 1))) di))),?_⟩
 refine⟨_,rfl,_,rfl,_,rfl,cs.map aB,r.2,rfl,by rw[zc];exact hlen.symm,?_⟩
 refine fG (BW c.1) RS trivial gM (fun d hd Q Q' hQ GF=>?_) fun p hp=>?_
 ·have hd:d∈bh (cs.map aB) r.2:=hd
  unfold bh at hd
  obtain⟨i,ei⟩:=List.getElem?_of_mem hd
  obtain⟨x,y,e2,e3,e4⟩:=List.getElem?_zipWith_eq_some.mp ei
  subst e4
  rw[zx] at e2
  cases e5:cs[i]? with
  | none=>rw[e5] at e2;cases e2
  | some c' =>
   rw[e5] at e2
   cases e2
   exact⟨_,rfl,rfl,_,_,rfl,_,_,rfl,rfl,_,rfl,_,rfl,_,rfl,_,rfl,dw (fun h=>⟨_,rfl,hQ h⟩) (fun h=>GF h)⟩
 ·exact⟨_,_,af,ia (xg (zi.mpr ⟨c,hc,rfl⟩) hlen),S,.new hp,q⟩
theorem D3 (T:Txt w K mg t):Ok P w base T.g5 2 (fun ds S R _=>∃ cs ps wy a b,ds=[.tup (cs.map aB),eB ps wy,ao a,ao b]∧Gd cs∧Pin cs ps∧Wg cs a.2∧Wg cs b.2∧R (.bl (aV cs wy ps a b)) S):=by
 have Ha:Ok P w base T.uG 1 _:=RT T
 refine T.g5.F.ok dI (by rintro ds S R Z ⟨_,_,_,_,_,e,_⟩;rw[e];rfl) ?_
 rintro bq A outer s H E ds S R Z hr ⟨cs,ps,wy,a,b,e,hg,sA,ha,hb,q⟩
 subst e
 refine⟨_,(sc (HC (HB (I9 (ix hr.units (dv 1) di)) (gt (n:=3) (gc (gn (i:=4) dI.nd) (gc (gn (i:=5) dI.nd) (gc (gn (i:=6) dI.nd) g0)))) (sc (hX (i:=7) dI.nd (cf (Ha.mono (by decide)) hr T.uG.m T.uG.k T.uG.b d0 (ac (dv 0) (ac (dv 2) (ac (dv 4) an))))) (sc (hX (i:=8) dI.nd (cf (Ha.mono (by decide)) hr T.uG.m T.uG.k T.uG.b d0 (ac (dv 0) (ac (dv 3) (ac (dv 4) an))))) (sc (si (cJ lN hr.units (cm rM hr.units (dv 7) dn) (cm rM hr.units (dv 8) dn)) (s1 (sr (cm cg hr.units (cm rM hr.units (dv 7) dn) (cm cg hr.units (dv 6) ds)))) s0) (s1 (si (cJ lN hr.units (dv 7) (dv 8)) (s1 (sr (cm cg hr.units (cm Ff hr.units (dv 7) (dv 8)) (cm cg hr.units (dv 5) ds)))) s0))))))) (s1 (sr (cm cg hr.units (cm Ff hr.units (ix hr.units (dv 2) di) (ix hr.units (dv 3) di)) (cm cg hr.units (ix hr.units (dv 1) di) ds))))),?_⟩
 refine⟨fun aK S'=>∃ (o4 o5 o6 o7 o8:Option D),aK=[some (.tup (cs.map aB)),some (eB ps wy),some (ao a),some (ao b),o4,o5,o6,o7,o8]∧S'=S∧aV cs wy ps a b=aV cs wy [] a b,?_,?_⟩
 ·refine⟨_,rfl,_,rfl,_,.inl rfl,?_⟩
  refine⟨fun i aK S'=>∃ (o4 o5 o6 o7 o8:Option D),aK=[some (.tup (cs.map aB)),some (eB ps wy),some (ao a),some (ao b),o4,o5,o6,o7,o8]∧S'=S∧aV cs wy ps a b=aV cs wy (ps.drop i) a b,⟨_,_,_,_,_,rfl,rfl,rfl⟩,fun _ _ _ _=>trivial,?_,?_⟩
  ·rintro i d aK S' hd ⟨o4,o5,o6,o7,o8,rfl,rfl,oH⟩
   have hd:(ps.map p3)[i]?=some d:=hd
   rw[zx] at hd
   cases e5:ps[i]? with
   | none=>rw[e5] at hd;cases hd
   | some p =>
    rw[e5] at hd
    cases hd
    obtain⟨c,hc,ec⟩:=sA p (zM e5)
    have hi:i<ps.length:=(zo.mp e5).1
    have edr:ps.drop i=p :: ps.drop (i+1):=by
     rw[List.drop_eq_getElem_cons hi]
     have:=(zo.mp e5).2
     rw[this]
    rw[edr] at oH
    have va:=(mn hg ha hc).2
    have vb:=(mn hg hb hc).2
    rw[ec] at va vb
    have oH:aV cs wy ps a b=if qP (ak cs a.2 p.1) (ak cs b.2 p.1)=true then aV cs wy (ps.drop (i+1)) a b else eX p (ak cs a.2 p.1) (ak cs b.2 p.1):=oH
    refine⟨_,rfl,rfl,_,_,rfl,_,_,rfl,_,_,rfl,rfl,?_⟩
    refine⟨_,rfl,_,rfl,_,rfl,cs,a,c,(show [D.tup (cs.map aB),ao a,D.str p.1]=[_,_,D.str c.1] by rw[ec]),hg,ha,hc,?_⟩
    refine⟨_,rfl,_,rfl,_,rfl,cs,b,c,(show [D.tup (cs.map aB),ao b,D.str p.1]=[_,_,D.str c.1] by rw[ec]),hg,hb,hc,?_⟩
    rw[ec]
    refine⟨_,rfl,_,rfl,?_⟩
    dsimp only [dC,XI]
    refine xh ⟨_,rfl,dw (fun h=>?_) (fun h=>?_)⟩
    ·have h:(!(aj (ak cs a.2 p.1) == aj (ak cs b.2 p.1)))=true:=h
     have GC:aj (ak cs a.2 p.1)≠aj (ak cs b.2 p.1):=fun e=>by rw[e] at h;simp at h
     rw[oH,AM GC,if_neg zd] at q
     unfold eX at q
     rw[if_pos (show (aj (ak cs a.2 p.1) != aj (ak cs b.2 p.1))=true from h)] at q
     refine⟨_,rfl,_,rfl,?_⟩
     show IX false (.bl (aj (ak cs a.2 p.1))) (.bl (decide (p.2.2 = "first"))) _ _
     exact xh (fo q)
    ·have h:(!(aj (ak cs a.2 p.1) == aj (ak cs b.2 p.1)))=false:=h
     have heq:aj (ak cs a.2 p.1)=aj (ak cs b.2 p.1):=by simpa using h
     refine⟨_,rfl,_,rfl,xa va.2 vb.2 ⟨_,rfl,dw (fun h2=>?_) (fun h2=>?_)⟩⟩
     ·have h2:qP (ak cs a.2 p.1) (ak cs b.2 p.1)=false:=nt h2
      rw[oH,h2,if_neg zd] at q
      unfold eX at q
      rw[if_neg (show ¬ (aj (ak cs a.2 p.1) != aj (ak cs b.2 p.1))=true by rw[heq];simp)] at q
      have na:ak cs a.2 p.1≠.aw:=fun e=>by
       have e2:ak cs b.2 p.1=.aw:=fh (by rw[← heq,e];rfl)
       rw[e,e2] at h2;cases h2
      have nb:ak cs b.2 p.1≠.aw:=fun e=>na (fh (by rw[heq,e];rfl))
      refine⟨_,rfl,_,rfl,?_⟩
      rcases u_ va vb na nb with ⟨i',j',e6,e7⟩ | ⟨i',j',e6,e7⟩
      ·rw[e6,e7] at q ⊢
       exact⟨_,rfl,xh (fo q)⟩
      ·rw[e6,e7] at q ⊢
       exact⟨_,rfl,xh (fo q)⟩
     ·have h2:qP (ak cs a.2 p.1) (ak cs b.2 p.1)=true:=nf h2
      rw[h2,if_pos rfl] at oH
      exact⟨_,_,_,_,_,rfl,rfl,oH⟩
  ·rintro aK S' ⟨o4,o5,o6,o7,o8,rfl,rfl,oH⟩
   have oH:aV cs wy ps a b=aV cs wy (ps.drop (ps.map p3).length) a b:=oH
   rw[zc,List.drop_length] at oH
   exact fo ⟨o4,o5,o6,o7,o8,rfl,rfl,oH⟩
 ·rintro aK S' ⟨o4,o5,o6,o7,o8,rfl,rfl,oH⟩
  rw[oH] at q
  exact⟨_,rfl,_,rfl,_,rfl,_,rfl,_,rfl,_,rfl,xh (fo q)⟩
def Lp (cs:List (Str×Str)) (wy:Str) (ps:List Part) (x:Row):D→Bool
 | .tup [.str k,.tup ws]=>aV cs wy ps (k,ws) x
 | _=>false
def Hb:gN:=fun ds S R _=>∃ (cs:List (Str×Str)) (ps:List Part) (wy:Str) (l:Addr) (rs:List Row),ds=[.tup (cs.map aB),eB ps wy,.ref l]∧Gd cs∧Pin cs ps∧S l=some (.lst (rs.map ao))∧rs.length<64∧Rg cs rs ∧
 ∀ (cK:List Row) (a:Addr),cK.Perm rs→(cK.Pairwise fun a b=>aV cs wy ps a b=true)→S a=none→R (.ref a) (S.set a (.lst (cK.map ao)))
theorem D4 (T:Txt w K mg t):Ok P w base T.g6 3 Hb:=by
 have AR:Ok P w base T.g5 2 _:=D3 T
 refine T.g6.F.ok gq (by rintro ds S R Z ⟨_,_,_,_,_,e,_⟩;rw[e];rfl) ?_
 rintro bq A outer s H E ds S R Z hr ⟨cs,ps,wy,l,rs,e,hg,sA,hl,hn,lg,q⟩
 subst e
 refine⟨_,(sc (hX (i:=3) gq.nd (fY an)) (sc (HC (HB (il (dv 2)) (gn (i:=4) gq.nd) (sc (hX (i:=5) gq.nd (cb cj T.bR ba (ac (xt (N:=["_law_one", "_law_columns_here", "_law_order_here", "_law_row"]) (src:=[none,some 0,some 1,some 4]) (nZ (ae iy) ["_law_columns_here", "_law_order_here", "_law_rows", "_law_found", "_law_row", "_law_many"] rfl rfl (by decide +kernel)) (il (dv 3)) (um (show (["_law_one", "_law_columns_here", "_law_order_here", "_law_row"]:List Str).Nodup by decide +kernel)) (bt rfl) bu (fun _ _ _ _ _=>(if1 (tv (cf (AR.mono (by decide)) hr T.g5.m T.g5.k T.g5.b d0 (ac (dv 1) (ac (dv 2) (ac (dv 0) (ac (dv 3) an)))))))) (fun _ _ _ _ _=>(dv 0))) an))) (s1 (se (bm zL PySem.F.slot_list_insert PySem.F.type_list_insert FQ (dv 3) (ac (dv 5) (ac (dv 4) an)))))))) (s1 (sr (dv 3))))),?_⟩
 refine⟨DD,fun f hf=>?_⟩
 refine⟨fun aK S'=>∃ (o4 o5:Option D) (F:List Row),aK=[some (.tup (cs.map aB)),some (eB ps wy),some (.ref l),some (.ref f),o4,o5]∧S' f=some (.lst (F.map ao))∧Sub S S'∧F.Perm rs∧F.Pairwise fun a b=>aV cs wy ps a b=true,?_,?_⟩
 ·refine⟨_,rfl,_,(ag (fU hl hf)).trans hl,?_⟩
  refine⟨fun i aK S'=>∃ (o4 o5:Option D) (F:List Row),aK=[some (.tup (cs.map aB)),some (eB ps wy),some (.ref l),some (.ref f),o4,o5]∧S' f=some (.lst (F.map ao))∧Sub S S'∧F.Perm (rs.take i)∧F.Pairwise fun a b=>aV cs wy ps a b=true,⟨none,none,[],rfl,af,.new hf,.refl _,.nil⟩,?_,?_,?_⟩
  ·rintro i aK S' ⟨o4,o5,F,rfl,hF,sb,_⟩
   exact sb _ _ hl
  ·rintro i d aK S' hd ⟨o4,o5,F,rfl,hF,sb,pm,pw⟩
   have hd:(rs.map ao)[i]?=some d:=hd
   rw[zx] at hd
   cases e5:rs[i]? with
   | none=>rw[e5] at hd;cases hd
   | some x =>
    rw[e5] at hd
    cases hd
    have hx:=zM e5
    have ht:rs.take (i+1)=rs.take i++[x]:=take_snoc e5
    have Yu:Rg cs (x :: F):=by
     refine (lg.sub (List.take_sublist (i+1) rs)).perm ?_
     rw[ht]
     exact (pm.cons x).trans (List.perm_append_comm (l₁:=[x]) (l₂:=rs.take i))
    have hFl:F.length≤rs.length:=by rw[pm.length_eq];exact List.length_take_le' _ _
    refine⟨_,rfl,_,hF,?_⟩
    refine fG (Lp cs wy ps x) id hF (by show (F.map ao).length≤1000;rw[zc];omega) (fun d hd Q Q' hQ GF=>?_) fun p hp=>?_
    ·obtain⟨y,hy,rfl⟩:=zi.mp hd
     refine⟨_,rfl,_,rfl,_,rfl,_,rfl,cs,ps,wy,y,x,rfl,hg,sA,Yu.1 y (zg _ hy),lg.1 x hx,_,rfl,dw (fun h=>⟨_,rfl,hQ h⟩) (fun h=>GF h)⟩
    ·have e1:((F.map ao).filter (Lp cs wy ps x)).map id=(F.filter fun y=>aV cs wy ps y x).map ao:=j4 fun r=>rfl
     rw[show (⟨F.map ao,fun S=>n5 S (.ref f) (F.map ao)⟩:Ft).xs=F.map ao from rfl,e1]
     have HF:(S'.set p (.lst ((F.filter fun y=>aV cs wy ps y x).map ao))) f=some (.lst (F.map ao)):=(ag (fU hF hp)).trans hF
     have Bg:Sub S (S'.set p (.lst ((F.filter fun y=>aV cs wy ps y x).map ao))):=sb.trans (.new hp)
     have RU:(S'.set p (.lst ((F.filter fun y=>aV cs wy ps y x).map ao))) p=_:=af
     generalize S'.set p (.lst ((F.filter fun y=>aV cs wy ps y x).map ao))=S2 at HF Bg RU ⊢
     refine⟨_,rfl,.inl ⟨_,RU,?_⟩⟩
     rw[zc]
     have fl:(F.filter fun y=>aV cs wy ps y x).length≤F.length:=List.length_filter_le _ _
     have Yv:(F.map ao).length=F.length:=zc _
     refine⟨_,rfl,⟨rfl,_,HF⟩,_,rfl,_,rfl,f,_,ao x,_,rfl,rfl,HF,by rw[Yv];exact fl,by rw[Yv];omega,?_⟩
     refine⟨_,_,F.take (F.filter fun y=>aV cs wy ps y x).length++x :: F.drop (F.filter fun y=>aV cs wy ps y x).length,rfl,?_,fun b c hb=>(ag (fU hb hf)).trans (Bg b c hb),?_,xc hg sA Yu pw⟩
     ·rw[af,zF,zA,List.map_take,List.map_drop]
     ·rw[ht]
      exact (G0 x F _).trans (pm.append_right [x])
  ·rintro aK S' ⟨o4,o5,F,rfl,hF,sb,pm,pw⟩
   have pm:F.Perm (rs.take (rs.map ao).length):=pm
   rw[zc,List.take_length] at pm
   exact fo ⟨o4,o5,F,rfl,hF,sb,pm,pw⟩
 ·rintro aK S' ⟨o4,o5,F,rfl,hF,sb,pm,pw⟩
  refine⟨_,rfl,S.set f (.lst (F.map ao)),fun b c hb=>?_,q F f pm pw hf⟩
  by_cases e:b=f
  ·subst e;rw[af] at hb;cases hb;exact hF
  ·rw[ag e] at hb;exact sb b c hb
theorem kd_sub (h:Sub S S') (hk:Nc S d k):Nc S' d k:=by
 cases d with
 | ref a =>
  rcases hk with ⟨e,ds,q⟩ | ⟨e,ds,q⟩
  ·exact .inl ⟨e,ds,h _ _ q⟩
  ·exact .inr ⟨e,ds,h _ _ q⟩
 | _=>exact hk
theorem Gt.sub (h:Sub S S') (g:Gt S d):Gt S' d:=⟨by obtain⟨k,hk⟩:=g.1;exact⟨k,kd_sub h hk⟩,g.2⟩
theorem N8:Gt S (.tup ws):=⟨⟨.tup,rfl⟩,fun _=>nofun⟩
theorem JZ (h:ws.length≤1000) (g:∀ v∈ws,Gt S v):Lb S (.tup ws):=⟨N8,fun OZ e=>by cases e;exact⟨h,g⟩⟩
theorem gt_int:Gt S (.int i):=⟨⟨.int,rfl⟩,fun _=>nofun⟩
theorem BX (h:z.cps.size≤1000):Gt S (.str z):=⟨⟨.str,rfl⟩,fun z' e=>by cases e;exact h⟩
theorem Hc (h:fS d=true):Gt S d:=by
 cases d with
 | aw=>exact uY
 | int i=>exact gt_int
 | str z =>
  have h:(decide (z.cps.size≤40) && PyData.strOk z)=true:=h
  rw[zN] at h
  have:=zH h.1
  exact BX (by omega)
 | _=>cases h
theorem qU:∀ {cs:List (Str×Str)}{ws:List D},Paired rel cs ws→ws.length=cs.length
 | _,_,.nil=>rfl
 | _,_,.cons _ t=>by rw[zK,zK,qU t]
theorem Wg.len (h:Wg cs ws):ws.length=cs.length:=qU h
theorem Wg.N9 (h:Wg cs ws):mh cs (.tup ws)=true:=by
 show (decide (ws.length=cs.length) && (List.zipWith (fun c v=>jy c.2 v) cs ws).all id)=true
 rw[zt h.len,zV]
 unfold Wg at h
 induction h with
 | nil=>rfl
 | cons r t ih =>
  rw[List.zipWith_cons_cons,List.all_cons,ih]
  show (id (jy _ _) && true)=true
  rw[show id (jy _ _)=true from r.1];rfl
theorem Wg.Yw (h:Wg cs ws) (hc:cs.length≤8):Lb S (.tup ws):=JZ (by rw[h.len];omega) fun v hv=>Hc (h.all v hv)
theorem J2 {n a b tn:Nat} (ha:a<n) (hb:b<n) (h:(a+tn) % n=(b+tn) % n):a=b:=by
 rcases Nat.lt_trichotomy a b with l | l | l
 ·have:=Nat.sub_mod_eq_zero_of_mod_eq h.symm
  rw[show b+tn - (a+tn)=b - a by omega,Nat.mod_eq_of_lt (by omega)] at this
  omega
 ·exact l
 ·have:=Nat.sub_mod_eq_zero_of_mod_eq h
  rw[show a+tn - (b+tn)=a - b by omega,Nat.mod_eq_of_lt (by omega)] at this
  omega
def qW (cs:List (Str×Str)) (tn k:Nat):Str:=(cs.getD ((k+tn) % cs.length) ("", "")).1
theorem xi (h:0<cs.length):∃ c∈cs,cs[(k+tn) % cs.length]?=some c∧c.1=qW cs tn k:=by
 have fz:(k+tn) % cs.length<cs.length:=Nat.mod_lt _ h
 refine⟨cs[(k+tn) % cs.length],List.getElem_mem fz,zh fz,?_⟩
 unfold qW
 rw[zB,zh fz];rfl
theorem xj {cs:List (Str×Str)} (hg:(cs.map Prod.fst).Nodup) {tn i:Nat} (hi:i≤cs.length):((List.range i).map (qW cs tn)).Nodup:=by
 refine List.pairwise_map.mpr (List.nodup_range.imp_of_mem fun {a b} ha hb n e=>n ?_)
 have ha:=zS.mp ha
 have hb:=zS.mp hb
 have h0:0<cs.length:=by omega
 have la:(a+tn) % cs.length<cs.length:=Nat.mod_lt _ h0
 have lb:(b+tn) % cs.length<cs.length:=Nat.mod_lt _ h0
 unfold qW at e
 rw[zB,zh la,zB,zh lb] at e
 have e:(cs[(a+tn) % cs.length]).1=(cs[(b+tn) % cs.length]).1:=e
 have e2:(cs.map Prod.fst)[(a+tn) % cs.length]'(by rw[zc];exact la)=(cs.map Prod.fst)[(b+tn) % cs.length]'(by rw[zc];exact lb):=by
  rw[List.getElem_map,List.getElem_map];exact e
 exact J2 (n:=cs.length) (by omega) (by omega) ((List.getElem_inj hg).mp e2)
theorem He (T:Txt w K mg t):Ok P w base T.ft 2 (fun ds S R _=>∃ l cs,ds=[.ref l,.tup (cs.map aB)]∧Gd cs∧S l=some .well∧∀ (ps:List Part) (wy:Str),Og cs ps wy→R (eB ps wy) S):=by
 have aQ:Ok P w base T.ar 1 nH:=wY T
 refine T.ft.F.ok fO (by rintro ds S R Z ⟨_,_,e,_⟩;rw[e];rfl) ?_
 rintro bq A outer s H E ds S R Z hr ⟨l,cs,e,hg,hw,q⟩
 subst e
 have h8:=hg.1
 have Bf:(cs.map aB).length=cs.length:=zc _
 refine⟨_,(sc (hX (i:=2) fO.nd (cf (aQ.mono (by decide)) hr T.ar.m T.ar.k T.ar.b d0 (ac (dv 0) (ac di an)))) (sc (hX (i:=3) fO.nd (fY an)) (sc (HC (HB (VR T.uK (ac (cb QN T.RC M8 (ac (cb cj T.bR ba (ac (dv 1) an)) (ac (Jb (ix hr.units (fY (ac di (ac di (ac di (ac di an))))) (cf (aQ.mono (by decide)) hr T.ar.m T.ar.k T.ar.b d0 (ac (dv 0) (ac di an))))) an))) an)) (gn (i:=4) fO.nd) (sc (hX (i:=5) fO.nd (ix hr.units (ix hr.units (dv 1) (bo n6 hr.units (bo gU hr.units (dv 4) (dv 2)) (cb cj T.bR ba (ac (dv 1) an)))) di)) (s1 (se (bm zL zZ z0 dN (dv 3) (ac (gB (ac (dv 5) (ac (Jb (ix hr.units (fY (ac ds (ac ds an))) (cf (aQ.mono (by decide)) hr T.ar.m T.ar.k T.ar.b d0 (ac (dv 0) (ac di an))))) (ac (Jb (ix hr.units (fY (ac ds (ac ds an))) (cf (aQ.mono (by decide)) hr T.ar.m T.ar.k T.ar.b d0 (ac (dv 0) (ac di an))))) an)))) an))))))) (s1 (sr (gB (ac (ct uc T.cT bT (ac (dv 3) an)) (ac (Jb (ix hr.units (fY (ac ds (ac ds an))) (cf (aQ.mono (by decide)) hr T.ar.m T.ar.k T.ar.b d0 (ac (dv 0) (ac di an))))) an)))))))),?_⟩
 refine⟨_,rfl,l,_,rfl,(by decide),(by decide),hw,fun tr ht0 ht1=>⟨DD,fun lp W0=>?_⟩⟩
 obtain⟨tn,rfl⟩:∃ n:Nat,tr=(n:Int):=⟨tr.toNat,by omega⟩
 have Tw:l≠lp:=fU hw W0
 refine⟨fun aK S'=>∃ (o4 o5:Option D) (ps:List Part) (i:Nat),aK=[some (.ref l),some (.tup (cs.map aB)),some (.int tn),some (.ref lp),o4,o5]∧i≤cs.length∧ps.map Prod.fst=(List.range i).map (qW cs tn)∧(∀ p∈ps,lx p.2.1=true∧AH p.2.2=true)∧S'=S.set lp (.lst (ps.map p3)),?_,?_⟩
 ·refine⟨_,rfl,_,rfl,oR,fun p hp=>⟨_,rfl,l,_,rfl,(by decide),(by decide),wl (wl hw W0) hp,fun n4 WE WG=>fw WE WG hp fun d hd=>?_⟩⟩
  obtain⟨m,rfl⟩:∃ m:Nat,d=.int m:=by
   have hd:d∈[D.int 1,.int 2,.int 0,.int 8]:=hd
   simp only [ze,zD,or_false] at hd
   rcases hd with h | h | h | h
   ·exact⟨1,h⟩
   ·exact⟨2,h⟩
   ·exact⟨0,h⟩
   ·exact⟨8,h⟩
  obtain⟨k,hk,ek⟩:∃ k:Nat,k≤cs.length∧(if decide ((m:Int)<(((cs.map aB).length:Nat):Int))=true then (m:Int) else (((cs.map aB).length:Nat):Int))=(k:Int):=by
   rw[Bf]
   by_cases h:(m:Int)<((cs.length:Nat):Int)
   ·exact⟨m,by omega,by rw[zt h,if_pos rfl]⟩
   ·exact⟨cs.length,zm _,by rw[zq h,if_neg zd]⟩
  refine⟨_,_,rfl,k,congrArg (fun i=>[D.int i]) ek,by omega,by omega,?_⟩
  refine⟨fun i aK S'=>∃ (o4 o5:Option D) (ps:List Part),aK=[some (.ref l),some (.tup (cs.map aB)),some (.int tn),some (.ref lp),o4,o5]∧ps.map Prod.fst=(List.range i).map (qW cs tn)∧(∀ p∈ps,lx p.2.1=true∧AH p.2.2=true)∧S'=S.set lp (.lst (ps.map p3)),⟨none,none,[],rfl,rfl,fun _ h=>(nomatch h),rfl⟩,fun _ _ _ _=>trivial,?_,?_⟩
  ·rintro i d aK S' hd ⟨o4,o5,ps,rfl,hn,gC,rfl⟩
   obtain⟨hi,rfl⟩:=p6 hd
   have hi:i<k:=by simpa using hi
   have h0:0<cs.length:=by omega
   have gM:ps.length=i:=by have:=congrArg List.length hn;simpa using this
   obtain⟨c,hc,ec,ec1⟩:=xi (cs:=cs) (tn:=tn) (k:=i) h0
   have q_:(S.set lp (.lst (ps.map p3))) l=some .well:=(ag Tw).trans hw
   have Cq:(S.set lp (.lst (ps.map p3))) lp=some (.lst (ps.map p3)):=af
   have eat:sP (cs.map aB) (((0:Int)+(i:Nat)+(tn:Nat)) % (((cs.map aB).length:Nat):Int))=some (aB c):=by
    rw[Bf,show ((0:Int)+(i:Nat)+(tn:Nat)) % ((cs.length:Nat):Int)=(((i+tn) % cs.length:Nat):Int) by rw[Int.zero_add,Int.natCast_emod,Int.natCast_add]]
    refine ia ?_
    rw[zx,ec];rfl
   refine⟨_,rfl,_,rfl,_,rfl,_,rfl,_,rfl,(by rw[Bf];omega),_,eat,_,rfl,?_⟩
   refine⟨_,rfl,⟨rfl,_,Cq⟩,_,rfl,eV,fun p hp=>⟨_,rfl,l,_,rfl,(by decide),(by decide),wl q_ hp,fun n2 N1 GK=>fw N1 GK hp fun d hd=>?_⟩⟩
   obtain⟨wy,rfl,HG⟩:∃ wy:Str,d=.str wy∧lx wy=true:=by
    have hd:d∈[D.str "up",.str "down"]:=hd
    simp only [ze,zD,or_false] at hd
    rcases hd with h | h
    ·exact⟨_,h,by decide +kernel⟩
    ·exact⟨_,h,by decide +kernel⟩
   refine⟨eV,fun p hp=>⟨_,rfl,l,_,rfl,(by decide),(by decide),wl q_ hp,fun n2 N1 GK=>fw N1 GK hp fun d hd=>?_⟩⟩
   obtain⟨en,rfl,hen⟩:∃ en:Str,d=.str en∧AH en=true:=by
    have hd:d∈[D.str "first",.str "last"]:=hd
    simp only [ze,zD,or_false] at hd
    rcases hd with h | h
    ·exact⟨_,h,by decide +kernel⟩
    ·exact⟨_,h,by decide +kernel⟩
   refine⟨nB,lp,_,_,rfl,rfl,Cq,bg (by rw[zc];omega),?_⟩
   refine⟨_,_,ps++[(c.1,wy,en)],rfl,?_,fun x hx=>?_,?_⟩
   ·rw[zF,hn,List.range_succ,zF]
    show _=_++[qW cs tn i]
    rw[← ec1];rfl
   ·rcases zI.mp hx with h | h
    ·exact gC x h
    ·rw[zE.mp h];exact⟨HG,hen⟩
   ·rw[eF,zF];rfl
  ·rintro aK S' ⟨o4,o5,ps,rfl,hn,gC,rfl⟩
   rw[p5] at hn
   exact fo ⟨o4,o5,ps,k,rfl,hk,by simpa using hn,gC,rfl⟩
 ·rintro aK S' ⟨o4,o5,ps,i,rfl,hi,hn,hk,rfl⟩
  have q_:(S.set lp (.lst (ps.map p3))) l=some .well:=(ag Tw).trans hw
  have Cq:(S.set lp (.lst (ps.map p3))) lp=some (.lst (ps.map p3)):=af
  refine⟨_,rfl,_,_,rfl,.inl Cq,eV,fun p hp=>⟨_,rfl,l,_,rfl,(by decide),(by decide),wl q_ hp,fun n2 N1 GK=>fw N1 GK hp fun d hd=>?_⟩⟩
  obtain⟨wy,rfl,HG⟩:∃ wy:Str,d=.str wy∧lx wy=true:=by
   have hd:d∈[D.str "up",.str "down"]:=hd
   simp only [ze,zD,or_false] at hd
   rcases hd with h | h
   ·exact⟨_,h,by decide +kernel⟩
   ·exact⟨_,h,by decide +kernel⟩
  have gM:ps.length=i:=by have:=congrArg List.length hn;simpa using this
  have pin:Pin cs ps:=fun x hx=>by
   have:x.1∈ps.map Prod.fst:=zi.mpr ⟨x,hx,rfl⟩
   rw[hn] at this
   obtain⟨k,hk,e⟩:=zi.mp this
   have:=zS.mp hk
   obtain⟨c,hc,_,ec⟩:=xi (cs:=cs) (tn:=tn) (k:=k) (by omega)
   exact⟨c,hc,ec.trans e⟩
  have wsz:∀ z,lx z=true→z.cps.size≤1000:=fun z h=>by rcases ve h with rfl | rfl <;> decide +kernel
  have esz:∀ z,AH z=true→z.cps.size≤1000:=fun z h=>by
   unfold AH at h
   simp only [Bool.or_eq_true,yq] at h
   rcases h with rfl | rfl <;> decide +kernel
  refine⟨eV,S,.new W0,q ps wy ⟨pin,fun x hx=>(hk x hx).1,HG,?_,fun x hx=>?_⟩⟩
  ·unfold DU
   rw[zt (show ps.length≤8 by omega),zV,zN,zN]
   refine⟨ym.mpr fun x hx=>?_,zt (by rw[hn];exact xj hg.2.1 hi),HG⟩
   obtain⟨c,hc,ec⟩:=pin x hx
   unfold gs
   rw[zt (zi.mpr ⟨c,hc,ec⟩),(hk x hx).1,(hk x hx).2];rfl
  ·obtain⟨c,hc,ec⟩:=pin x hx
   exact⟨by rw[← ec];exact nE (hg.2.2 c hc).1,wsz _ (hk x hx).1,esz _ (hk x hx).2⟩
theorem BY:∀ {l:List Str}{p:Str},PyProof.Rows.risingS p l=true→(p :: l).Pairwise fun a b=>a.cps.toList≤b.cps.toList
 | [],p,_=>List.pairwise_singleton _ _
 | x :: r,p,h=>by
  have h:(!PySem.Spec.ltCps x.cps.toList p.cps.toList && PyProof.Rows.risingS x r)=true:=h
  rw[zN,PyProof.Rows.ltCps_eq,Bool.not_eq_true',decide_eq_false_iff_not] at h
  have ih:=BY h.2
  have Yx:p.cps.toList≤x.cps.toList:=List.not_lt.mp h.1
  refine List.pairwise_cons.mpr ⟨fun y hy=>?_,ih⟩
  rcases ze.mp hy with e | hy
  ·rw[e];exact Yx
  ·exact List.le_trans Yx ((List.pairwise_cons.mp ih).1 y hy)
theorem tK (h:PyProof.Rows.sortedS l=true):l.Pairwise fun a b=>a.cps.toList≤b.cps.toList:=by
 cases l with
 | nil=>exact List.Pairwise.nil
 | cons x r=>exact BY h
theorem J3 {a b:Str} (h:a.cps.toList=b.cps.toList):a=b:=by
 obtain⟨⟨x⟩⟩:=a
 obtain⟨⟨y⟩⟩:=b
 cases h;rfl
theorem D5 {l m:List Str} (hl:l.Pairwise fun a b=>a.cps.toList≤b.cps.toList) (hm:m.Pairwise fun a b=>a.cps.toList≤b.cps.toList) (nl:l.Nodup) (nm:m.Nodup) (h:∀ z,z∈l↔z∈m):l=m :=
 List.Perm.eq_of_pairwise (fun a b _ _ h1 h2=>J3 (List.le_antisymm h1 h2)) hl hm ((List.perm_ext_iff_of_nodup nl nm).mpr h)
def TI (l:List Std) (n:Nat):Prop:=∀ s∈l,s.b≤n∧∀ m,s.e=some m→m<n
def J4 (s:Std):D:=match s.e with
 | none=>.tup s.ws
 | some _=>.aw
def cur (l:List Std):D:=match l.getLast? with
 | none=>.aw
 | some s=>J4 s
theorem jI (r:List Std) (s:Std):cur (r++[s])=J4 s:=by unfold cur;rw[List.getLast?_concat]
theorem N_ (h:TI l n):wt l n=cur l:=by
 by_cases e:l=[]
 ·subst e;rfl
 ·obtain⟨r,s,rfl⟩:=jY e
  rw[jI]
  unfold wt
  rw[List.reverse_append]
  obtain⟨h1,h2⟩:=h s (zy _ (zE.mpr rfl))
  show Gx (s :: r.reverse) (n:Int)=_
  unfold Gx J4
  rw[if_pos (show (s.b:Int)≤(n:Int) by omega)]
  cases q:s.e with
  | none=>rfl
  | some m =>
   have:=h2 m q
   exact if_neg (show ¬ (n:Int)≤(m:Int) by omega)
theorem TI.up (h:TI l n):TI l (n+1):=fun s hs=>⟨Nat.le_succ_of_le (h s hs).1,fun m e=>Nat.lt_succ_of_lt ((h s hs).2 m e)⟩
theorem TI.close (h:TI l n):TI (iF n l) (n+1):=by
 by_cases e:l=[]
 ·subst e;exact fun s hs=>(nomatch hs)
 ·obtain⟨r,s,rfl⟩:=jY e
  rw[eW]
  intro x hx
  rcases zI.mp hx with hx | hx
  ·exact h.up x (zY _ hx)
  ·rw[zE.mp hx]
   exact⟨Nat.le_succ_of_le (h s (zy _ (zE.mpr rfl))).1,fun m e=>by cases e;exact yB _⟩
theorem TI.Yy (h:TI l (n+1)):TI (l++[Std.mk (n+1) none ws]) (n+1):=fun s hs=>by
 rcases zI.mp hs with hs | hs
 ·exact h s hs
 ·rw[zE.mp hs];exact⟨zm _,fun m e=>(by cases e)⟩
theorem D6:cur (iF n l)=.aw:=by
 by_cases e:l=[]
 ·subst e;rfl
 ·obtain⟨r,s,rfl⟩:=jY e
  rw[eW,jI];rfl
def rn (kn:Kn) (z:Str):D:=match gO kn z with
 | none=>.aw
 | some ws=>.tup ws
structure RI (rs:uX) (n:Nat) (kn:Kn):Prop where
 ti:∀ z,TI ((lu rs z).getD []) n
 eq:∀ z,cur ((lu rs z).getD [])=rn kn z
 ks:∀ r∈rs,r.1∈KS
theorem J5 (h:r∈AA rs z s):r.1=z∨∃ r'∈rs,r'.1=r.1:=by
 unfold AA at h
 split at h
 ·obtain⟨r0,vo,e⟩:=zi.mp h
  refine .inr ⟨r0,vo,?_⟩
  subst e
  split <;> rfl
 ·rcases zI.mp h with h | h
  ·exact .inr ⟨r,h,rfl⟩
  ·rw[zE.mp h];exact .inl rfl
theorem Hf (h:∀ r∈rs,r.1∈KS) (hz:z∈KS):∀ r∈AA rs z s,r.1∈KS:=fun r hr=>by
 rcases J5 hr with e | ⟨r',lg,e⟩
 ·rw[e];exact hz
 ·rw[← e];exact h r' lg
theorem BZ:rn (oU kn z ws) k=if k=z then .tup ws else rn kn k:=by
 unfold rn;rw[JN]
 by_cases h:k=z
 ·rw[if_pos h,if_pos h]
 ·rw[if_neg h,if_neg h]
theorem B0:rn (u6 kn z) k=if k=z then .aw else rn kn k:=by
 unfold rn;rw[JO]
 by_cases h:k=z
 ·rw[if_pos h,if_pos h]
 ·rw[if_neg h,if_neg h]
theorem RI.nil:RI [] 0 []:=⟨fun z s hs=>(nomatch hs),fun z=>rfl,fun r hr=>(nomatch hr)⟩
theorem RI.put (h:RI rs n kn) (hz:z∈KS):RI (oS rs z (n+1) ws) (n+1) (oU kn z ws):=by
 refine⟨fun k=>?_,fun k=>?_,Hf h.ks hz⟩
 ·unfold oS;rw[jB]
  by_cases e:k=z
  ·rw[if_pos e];exact (h.ti z).up.Yy
  ·rw[if_neg e];exact (h.ti k).up
 ·unfold oS;rw[jB,BZ]
  by_cases e:k=z
  ·rw[if_pos e,if_pos e];exact jI _ _
  ·rw[if_neg e,if_neg e];exact h.eq k
theorem RI.del (h:RI rs n kn) (hz:z∈KS):RI (k9 rs z n) (n+1) (u6 kn z):=by
 refine⟨fun k=>?_,fun k=>?_,Hf h.ks hz⟩
 ·unfold k9;rw[jB]
  by_cases e:k=z
  ·rw[if_pos e];exact (h.ti z).close
  ·rw[if_neg e];exact (h.ti k).up
 ·unfold k9;rw[jB,B0]
  by_cases e:k=z
  ·rw[if_pos e,if_pos e];exact D6
  ·rw[if_neg e,if_neg e];exact h.eq k
theorem RI.change (h:RI rs n kn) (hz:z∈KS):RI (oS (k9 rs z n) z (n+1) ws) (n+1) (oU kn z ws):=by
 have h1:=h.del hz
 refine⟨fun k=>?_,fun k=>?_,Hf h1.ks hz⟩
 ·unfold oS;rw[jB]
  by_cases e:k=z
  ·rw[if_pos e];exact (h1.ti z).Yy
  ·rw[if_neg e];exact h1.ti k
 ·unfold oS;rw[jB,BZ]
  by_cases e:k=z
  ·rw[if_pos e,if_pos e];exact jI _ _
  ·rw[if_neg e,if_neg e,h1.eq k,B0,if_neg e]
theorem RI.wt {rs:uX}{n:Nat}{kn:Kn} (h:RI rs n kn) (z:Str):wt ((lu rs z).getD []) n=rn kn z:=by rw[N_ (h.ti z),h.eq]
theorem RI.rl (h:RI rs n kn) (hz:z∈KS):rl rs (.str z) n=rn kn z:=by rw[uZ (jD z hz).1,h.wt]
theorem tL (kn:Kn) (z:Str):aj (rn kn z)=!(gO kn z).isSome:=by unfold rn;cases gO kn z <;> rfl
theorem Lq (h:br C S a F cs dl rs):(rs.map (·.1)).Nodup:=by
 obtain⟨ld,lr,ra,h,_,rfl⟩:=h
 unfold g_
 rw[zw]
 exact h.kn
theorem RI.len (h:RI rs n kn) (hs:br C S a F cs dl rs):rs.length≤30:=by
 have:=sub_len (Lq hs) (m:=KS) fun x hx=>by
  obtain⟨r,hr,rfl⟩:=zi.mp hx
  exact h.ks r hr
 rw[zc] at this
 exact this
def Oa (kn:Kn) (ss:List Str):List D:=ss.map fun z=>.tup [.str z,rn kn z]
theorem RV (h:lu rs k=some s):k∈rs.map (·.1):=by
 induction rs with
 | nil=>cases h
 | cons r rs ih =>
  rw[fu] at h
  rw[zA]
  by_cases e:r.1=k
  ·exact ze.mpr (.inl e.symm)
  ·rw[if_neg e] at h;exact zg _ (ih h)
def nM (k:Nat) (l:List Std):List Std:=match l.getLast? with
 | none=>l
 | some s=>match s.e with
  | none=>iF k l
  | some _=>l
theorem ot (h:s.e=none):nM k (r++[s])=r++[Std.mk s.b (some k) s.ws]:=by
 unfold nM;rw[List.getLast?_concat];dsimp only;rw[h];exact eW _ _ _
theorem xk (h:s.e=some n):nM k (r++[s])=r++[s]:=by
 unfold nM;rw[List.getLast?_concat];dsimp only;rw[h]
theorem J6 {s:Std}{r:List Std}{m:Nat} (h:m<s.b):Gx (s :: r) m=Gx r m:=by
 show (if (s.b:Int)≤(m:Int) then _ else Gx r m)=_
 rw[if_neg (by omega)]
theorem D7 (hm:m≤n):wt (nM n l) m=wt l m:=by
 by_cases e:l=[]
 ·subst e;rfl
 ·obtain⟨r,s,rfl⟩:=jY e
  cases q:s.e with
  | some k=>rw[xk q]
  | none =>
   rw[ot q]
   unfold wt
   rw[List.reverse_append,List.reverse_append]
   show (if (s.b:Int)≤(m:Int) then (if (m:Int)≤(n:Int) then D.tup s.ws else .aw) else Gx r.reverse m)=(if (s.b:Int)≤(m:Int) then (match s.e with | none=>.tup s.ws | some n=>if (m:Int)≤(n:Int) then .tup s.ws else .aw) else Gx r.reverse m)
   rw[q,if_pos (show (m:Int)≤(n:Int) by omega)]
theorem AS (h:cur l≠.aw):nM n l=iF n l:=by
 by_cases e:l=[]
 ·subst e;rfl
 ·obtain⟨r,s,rfl⟩:=jY e
  rw[jI] at h
  cases q:s.e with
  | none=>rw[ot q,eW]
  | some m=>unfold J4 at h;rw[q] at h;exact absurd rfl h
theorem D8:tZ "list" = some ID:=(if_neg (by decide)).trans ((if_neg (by decide)).trans ((if_neg (by decide)).trans ((if_neg (by decide)).trans (if_pos rfl))))
theorem Hg (l:List D) (d:D):j6 (l++[d]) none (some (-1))=l:=by
 unfold j6
 have e:HT.sIx (l++[d]).length (l++[d]).length (some (-1))=l.length:=by
  show (if (-1:Int)<0 then ((-1:Int)+((l++[d]).length:Int)).toNat else min (-1:Int).toNat (l++[d]).length)=_
  rw[if_pos (by decide),zC]
  show ((-1:Int)+((l.length+1:Nat):Int)).toNat=_
  omega
 rw[e]
 show ((l++[d]).drop 0).take (l.length - 0)=l
 rw[List.drop_zero,Nat.sub_zero,List.take_left]
def eY (kn:Kn) (ss:List Str):List Row:=ss.map fun z=>(z,(gO kn z).getD [])
structure Snap (rs:uX) (cs:List (Str×Str)) (m:Nat) (rows:List Row):Prop where
 ex:∃ kn ss,rows=eY kn ss∧KI cs kn∧ss.Perm (kn.map (·.1))∧PyProof.Rows.sortedS ss=true∧∀ z,wt ((lu rs z).getD []) m=rn kn z
theorem tM (p:ss.Perm (kn.map (·.1))):(eY kn ss).map ao=Oa kn ss:=by
 unfold eY Oa
 rw[zw]
 refine zW fun z hz=>?_
 obtain⟨ws,mE⟩:=lh (p.mem_iff.mp hz)
 show D.tup [.str z,.tup ((gO kn z).getD [])]=.tup [.str z,rn kn z]
 unfold rn
 rw[mE];rfl
theorem xl (hI:KI cs kn) (p:ss.Perm (kn.map (·.1))):Rg cs (eY kn ss):=by
 refine⟨fun r hr=>?_,?_⟩
 ·obtain⟨z,hz,rfl⟩:=zi.mp hr
  obtain⟨ws,mE⟩:=lh (p.mem_iff.mp hz)
  show Wg cs ((gO kn z).getD [])
  rw[mE]
  exact (hI.ok _ (px mE)).2
 ·unfold eY
  rw[zw]
  show (ss.map id).Nodup
  rw[List.map_id]
  exact p.nodup_iff.mpr hI.nd
theorem tN (hI:KI cs kn) (p:ss.Perm (kn.map (·.1))):(eY kn ss).length≤30:=by
 unfold eY
 rw[zc,p.length_eq,zc]
 exact hI.len
theorem Snap.rg (h:Snap rs cs m rows):Rg cs rows∧rows.length≤30:=by
 obtain⟨kn,ss,rfl,hI,p,_⟩:=h.ex
 exact⟨xl hI p,tN hI p⟩
theorem Snap.key (h:Snap rs cs m rows):∀ r∈rows,r.1∈KS:=by
 obtain⟨kn,ss,rfl,hI,p,_⟩:=h.ex
 intro r hr
 obtain⟨z,hz,rfl⟩:=zi.mp hr
 obtain⟨ws,mE⟩:=lh (p.mem_iff.mp hz)
 exact (hI.ok _ (px mE)).1
theorem D9 {C a:Addr}{S:aU}{F:List Addr}{cs:List (Str×Str)}{dl:List D}{rs:uX}{m:Nat}{rows:List Row} (h:Snap rs cs m rows) (hs:br C S a F cs dl rs) {ss:List Str}
  (p1:ss.Perm (rs.map (·.1))) (o1:PyProof.Rows.sortedS ss=true):k_ rs m ss=rows.map ao:=by
 obtain⟨kn,s2,rfl,hI,p2,o2,hw⟩:=h.ex
 rw[tM p2]
 have e:ss.filter (fun z=>!aj (wt ((lu rs z).getD []) m))=s2:=by
  refine D5 ((tK o1).filter _) (tK o2) ?_ (p2.nodup_iff.mpr hI.nd) fun z=>?_
  ·exact List.filter_sublist.nodup (p1.nodup_iff.mpr (Lq hs))
  ·rw[yA,hw,tL,Bool.not_not,p1.mem_iff,p2.mem_iff]
   constructor
   ·rintro⟨_,hz⟩
    obtain⟨ws,mE⟩:=Option.isSome_iff_exists.mp hz
    exact zi.mpr ⟨_,px mE,rfl⟩
   ·intro hz
    obtain⟨ws,mE⟩:=lh hz
    refine⟨?_,by rw[mE];rfl⟩
    have e:=hw z
    unfold rn at e
    rw[mE] at e
    cases q:lu rs z with
    | none=>rw[q] at e;cases e
    | some s=>exact RV q
 unfold k_ Oa
 rw[e]
 refine zW fun z _=>?_
 unfold u3
 rw[hw]
theorem Ob {l:List Std}{n m:Nat}{ws:List D} (hm:m≤n):wt (l++[Std.mk (n+1) none ws]) m=wt l m:=by
 unfold wt
 rw[List.reverse_append]
 exact J6 (show m<n+1 by omega)
theorem B1 (k:Str) (m:Nat) (hm:m≤n):wt ((lu (oS rs z (n+1) ws) k).getD []) m=wt ((lu rs k).getD []) m:=by
 unfold oS;rw[jB]
 by_cases e:k=z
 ·rw[if_pos e,e];exact Ob hm
 ·rw[if_neg e]
theorem B4 (h:RI rs n kn) (hz:(gO kn z).isSome=true) (k:Str) (m:Nat) (hm:m≤n):wt ((lu (k9 rs z n) k).getD []) m=wt ((lu rs k).getD []) m:=by
 unfold k9;rw[jB]
 by_cases e:k=z
 ·rw[if_pos e,e]
  have hc:cur ((lu rs z).getD [])≠.aw:=by
   rw[h.eq]
   unfold rn
   cases q:gO kn z with
   | none=>rw[q] at hz;cases hz
   | some ws=>exact fun e=>by cases e
  show wt (iF n ((lu rs z).getD [])) m=_
  rw[← AS hc,D7 hm]
 ·rw[if_neg e]
theorem Hh (hz:z∈KS):Gt S (.str z):=BX (by have:=(jD z hz).2.1;omega)
section
variable {t:pv}{S:aU}{a:Addr}{F:List Addr}{cs:List (Str×Str)}{dl:List D}{rs:uX}{kn:Kn}{d:D}{R:KD}{Z:KX}
theorem Hi (hz:z∈KS) (h:Wg cs ws):iD cs (.str z) (.tup ws)=true:=by
 unfold iD
 rw[h.N9,show ofStr fZ (.str z)=true from (jD z hz).1];rfl
theorem AU (hR:RI rs dl.length kn) (hz:z∈KS):aj (rl rs (.str z) dl.length)=!(gO kn z).isSome:=by rw[hR.rl hz,tL]
theorem RW (h:gO kn z=none):(!(gO kn z).isSome)=true:=by rw[h];rfl
theorem Hj (h:(gO kn z).isSome=true):(!(gO kn z).isSome)=false:=by rw[h];rfl
theorem tf {b:Bool} (h1:b=true) (h2:b=false) {p:Prop} : p:=by rw[h1] at h2;cases h2
theorem br.out (hS:br C S a F cs dl rs) (hb:S b=none):b∉F:=fun m=>by
 obtain⟨ld,lr,ra,h,rfl,_⟩:=hS
 unfold fp at m
 simp only [ze,zi] at m
 rcases m with e | e | e | ⟨r,hr,e⟩
 ·have:=h.ins;rw[← e,hb] at this;cases this
 ·have:=h.vm;rw[← e,hb] at this;cases this
 ·have:=h.run;rw[← e,hb] at this;cases this
 ·have:=h.cell r hr;rw[e,hb] at this;cases this
theorem br.off (hS:br C S a F cs dl rs) (hp:p∉F):br C (S.set p c) a F cs dl rs:=by
 obtain⟨ld,lr,ra,hh,rfl,e2⟩:=hS
 unfold fp at hp
 simp only [ze,not_or] at hp
 obtain⟨n1,n2,n3,n4⟩:=hp
 exact⟨ld,lr,ra,⟨(ag (Ne.symm n1)).trans hh.ins,(ag (Ne.symm n2)).trans hh.vm,(ag (Ne.symm n3)).trans hh.run,fun r hr=>(ag fun e=>n4 (by rw[← e];exact zi.mpr ⟨r,hr,rfl⟩)).trans (hh.cell r hr),hh.kn,hh.an,hh.sz⟩,rfl,e2⟩
theorem GD.up (hd:GD KT cs kn d):GD KS cs kn d:=by
 rcases hd with ⟨z,ws,hz,h⟩ | h
 ·exact .inl ⟨z,ws,GG hz,h⟩
 ·exact .inr h
theorem GD.as (hd:GD KS cs kn d) (hI:KI cs kn):∃ gP,WM kn d gP∧KI cs gP:=by
 rcases hd with ⟨z,ws,hz,hw,hn,rfl⟩ | ⟨z,ws,hz,hw,hn,rfl⟩ | ⟨z,hz,hn,rfl⟩
 ·exact⟨_,.inl ⟨_,z,ws,.inl rfl,rfl,rfl⟩,hI.put hz hw⟩
 ·exact⟨_,.inl ⟨_,z,ws,.inr rfl,rfl,rfl⟩,hI.put hz hw⟩
 ·exact⟨_,.inr ⟨z,hn,rfl,rfl⟩,hI.del z⟩
structure W2 (t:pv) (ds:List D) (S:aU) (R:KD) (Z:KX):Prop where
 of:GP t ds S R Z
theorem D_ (hS:br t.ah S a F cs dl rs) (hg:Gd cs) (hI:KI cs kn) (hR:RI rs dl.length kn) (hl:dl.length≤100) (hd:GD KS cs kn d) {gP:Kn} (W3:WM kn d gP)
  (q:∀ S' F' cK,br t.ah S' a F' cs (dl++[d]) cK→vn F F' S S'→RI cK (dl.length+1) gP→(∀ z m,m≤dl.length→wt ((lu cK z).getD []) m=wt ((lu rs z).getD []) m)→R .aw S'):W2 t [.ref a,d] S R Z:=by
 have RQ:=hR.len hS
 have Tx:=hg.1
 obtain⟨ld,lr,ra,h,_,_⟩:=id hS
 refine⟨a,_,h.ins,rfl,?_⟩
 rcases hd with ⟨z,ws,hz,hw,hn,rfl⟩ | ⟨z,ws,hz,hw,hn,rfl⟩ | ⟨z,hz,hn,rfl⟩
 ·have ro:=Hi hz hw
  have st:=(AU hR hz).trans (RW hn)
  refine .inl ⟨_,_,rfl,a,F,cs,_,rs,_,_,rfl,hS,Tx,Hh hz,hw.Yw Tx,by omega,by omega,fun e=>tf ro e,fun _ e=>tf st e,fun z' OZ e1 e2 _ _ S' F' oa hK=>?_⟩
  cases e1;cases e2
  have Oc:gP=oU kn z ws:=by rcases W3 with ⟨n,y,vs,_,e1,e2⟩ | ⟨y,_,e1,_⟩ <;> cases e1;exact e2
  subst Oc
  exact q S' F' _ oa hK (hR.put hz) B1
 ·have ro:=Hi hz hw
  have st:=(AU hR hz).trans (Hj hn)
  refine .inr (.inl ⟨_,_,rfl,a,F,cs,_,rs,_,_,rfl,hS,Tx,Hh hz,hw.Yw Tx,by omega,by omega,fun e=>tf ro e,fun _ e=>tf e st,fun z' OZ e1 e2 _ _ S' F' oa hK=>?_⟩)
  cases e1;cases e2
  have Oc:gP=oU kn z ws:=by rcases W3 with ⟨n,y,vs,_,e1,e2⟩ | ⟨y,_,e1,_⟩ <;> cases e1;exact e2
  subst Oc
  exact q S' F' _ oa hK (hR.change hz) fun k m hm=>(B1 k m hm).trans (B4 hR hn k m hm)
 ·have st:=(AU hR hz).trans (Hj hn)
  refine .inr (.inr ⟨_,rfl,a,F,cs,_,rs,_,rfl,hS,Hh hz,by omega,fun e=>tf (jD z hz).1 e,fun _ e=>tf e st,fun z' e1 _ _ S' oa hK=>?_⟩)
  cases e1
  have Oc:gP=u6 kn z:=by rcases W3 with ⟨n,y,vs,_,e1,e2⟩ | ⟨y,_,e1,e2⟩ <;> cases e1;exact e2
  subst Oc
  exact q S' F _ oa hK (hR.del hz) (B4 hR hn)
theorem Snap.vw (h:Snap rs cs m rows) (hS:br t.ah S a F cs dl rs) (hR:RI rs dl.length kn) (hm:sv dl.length md=some (m:Int)) (SR:Gt S md):Vw t.ah S a cs md rows:=by
 have:=h.rg
 refine⟨⟨F,dl,rs,hS,by have:=hR.len hS;omega,(fun e=>by rw[hm] at e;cases e),fun i ss hi hp hs=>?_⟩,SR,by omega,this.1⟩
 rw[hm] at hi
 cases hi
 exact D9 h hS hp hs
end
theorem KI.nil (cs:List (Str×Str)):KI cs []:=⟨List.nodup_nil,by rintro _ ⟨⟩⟩
theorem Hk (ns:List Int) (lo hi:Option Int):j6 (ns.map D.int) lo hi=(j6 ns lo hi).map D.int:=by
 unfold j6
 rw[zc,List.map_take,List.map_drop]
theorem J_ (ns:List Int) (lo hi:Option Int):(j6 ns lo hi).length≤ns.length:=by
 unfold j6
 rw[yd,List.length_drop];omega
theorem Od (hk:r.1∈KS) (hw:Wg cs r.2):Ly S 60 (ao r):=by
 refine (Ly.tup (n:=1) fun x hx=>?_).le (by decide)
 simp only [ze,zD,or_false] at hx
 rcases hx with rfl | rfl
 ·exact (Ly.str (jD _ hk).2.2).le (by decide)
 ·exact hw.ly
theorem Vw.sub (h:Vw C S a cs m rows) (b:Sub S S'):Vw C S' a cs m rows:=by
 obtain⟨F,dl,rs,h1,h2⟩:=h.sh
 exact⟨⟨F,dl,rs,h1.sub b,h2⟩,h.mo.sub b,h.len,h.rg⟩
theorem br.keep (h:br C S x F cs dl rs) (k:∀ b∈F,∀ c,S b=some c→S' b=some c):br C S' x F cs dl rs:=by
 obtain⟨ld,lr,ra,hh,rfl,e⟩:=h
 refine⟨ld,lr,ra,⟨k _ ?_ _ hh.ins,k _ ?_ _ hh.vm,k _ ?_ _ hh.run,fun r hr=>k _ ?_ _ (hh.cell r hr),hh.kn,hh.an,hh.sz⟩,rfl,e⟩ <;> unfold fp <;> simp
 exact .inr (.inr (.inr ⟨_,_,hr⟩))
theorem br.Yz (h:br C S x F cs dl rs) (hb:b∈F):∃ c,S b=some c:=by
 cases e:S b with
 | some c=>exact⟨c,rfl⟩
 | none=>exact absurd hb (h.out e)
structure Kq where
 (k a:Addr)
 ps:List Part
 wy:Str
structure Hd where
 F:List Addr
 dl:List D
 rs:uX
def RX (C:Addr) (q:Kq):Ce:=.ins C [("shelf",.ref q.a),("order",eB q.ps q.wy)]
def Oe (dy:Nat→Hd) (j:Nat) (h:Hd):Nat→Hd:=fun i=>if i=j then h else dy i
theorem cP:Oe dy j h j=h:=if_pos rfl
theorem eP (n:i≠j):Oe dy j h i=dy i:=if_neg n
structure Sx (t:pv) (S0:aU) (cs:List (Str×Str)) (qs:List Kq) (dy:Nat→Hd) (fs:List (Addr×Ce)) (S:aU):Prop where
 kc:∀ (i:Nat) (q:Kq),qs[i]?=some q→S q.k=some (RX t.aT q)
 sh:∀ (i:Nat) (q:Kq),qs[i]?=some q→br t.ah S q.a (dy i).F cs (dy i).dl (dy i).rs
 ko:∀ (i j:Nat) (q r:Kq),qs[i]?=some q→qs[j]?=some r→q.k∉(dy j).F
 dj:∀ (i j:Nat) (q r:Kq),i≠j→qs[i]?=some q→qs[j]?=some r→∀ b∈(dy i).F,b∉(dy j).F
 fa:∀ x∈fs,S x.1=some x.2∧(∀ (i:Nat) (q:Kq),qs[i]?=some q→x.1∉(dy i).F)∧S0 x.1=none
 nd:(fs.map Prod.fst).Nodup
 vp:∀ b c,S0 b=some c→(∀ (i:Nat) (q:Kq),qs[i]?=some q→b∉(dy i).F)∧S b=some c
section
variable {t:pv}{S0:aU}{cs:List (Str×Str)}{qs:List Kq}{dy:Nat→Hd}{fs:List (Addr×Ce)}{S:aU}
theorem Sx.nil (t:pv) (S:aU) (cs:List (Str×Str)) (dy:Nat→Hd):Sx t S cs [] dy [] S :=
 ⟨by simp,by simp,by simp,by simp,by simp,.nil,fun b c h=>⟨by simp,h⟩⟩
theorem Sx.at (h:Sx t S0 cs qs dy fs S) (i:Nat) (e:fs[i]?=some (b,c)):S b=some c:=(h.fa _ (zM e)).1
theorem Sx.sub (h:Sx t S0 cs qs dy fs S) (b:Sub S S'):Sx t S0 cs qs dy fs S' :=
 ⟨fun i q e=>b _ _ (h.kc i q e),fun i q e=>(h.sh i q e).sub b,h.ko,h.dj,fun x hx=>⟨b _ _ (h.fa x hx).1,(h.fa x hx).2⟩,h.nd,fun x c hx=>⟨(h.vp x c hx).1,b _ _ (h.vp x c hx).2⟩⟩
theorem Sx.zero (h:Sx t S0 cs qs dy fs S) (hb:S b=none):S0 b=none:=by
 cases e:S0 b with
 | none=>rfl
 | some c=>have:=(h.vp _ _ e).2;rw[hb] at this;cases this
theorem Sx.new (h:Sx t S0 cs qs dy fs S) (hp:S p=none) (c:Ce):Sx t S0 cs qs dy (fs++[(p,c)]) (S.set p c):=by
 have h1:=h.sub (.new (c:=c) hp)
 refine⟨h1.kc,h1.sh,h1.ko,h1.dj,fun x hx=>?_,?_,h1.vp⟩
 ·rcases zI.mp hx with hx | hx
  ·exact h1.fa x hx
  ·rw[zE.mp hx]
   exact⟨af,fun i q e=>(h.sh i q e).out hp,h.zero hp⟩
 ·rw[zF,List.nodup_append]
  refine⟨h.nd,by simp,fun x hx y hy e=>?_⟩
  obtain⟨z,hz,rfl⟩:=zi.mp hx
  have hy:y=p:=by simpa using hy
  have:=(h.fa z hz).1
  rw[e,hy,hp] at this;cases this
theorem Sx.put (h:Sx t S0 cs qs dy ((b,.du kv) :: fs) S):Sx t S0 cs qs dy ((b,.du kv') :: fs) (S.set b (.du kv')):=by
 have hb:=h.fa _ zu
 refine⟨fun i q e=>(ag fun z=>?_).trans (h.kc i q e),fun i q e=>(h.sh i q e).off (hb.2.1 i q e),h.ko,h.dj,fun x hx=>?_,h.nd,fun x c hx=>⟨(h.vp x c hx).1,(ag (fU hx hb.2.2)).trans (h.vp x c hx).2⟩⟩
 ·have:=h.kc i q e
  rw[z,hb.1] at this;cases this
 ·rcases ze.mp hx with rfl | hx
  ·exact⟨af,hb.2⟩
  ·have Em:=h.fa x (zg _ hx)
   refine⟨(ag fun e2=>?_).trans Em.1,Em.2⟩
   have nd:=h.nd
   rw[zA,zX] at nd
   exact nd.1 (by rw[← e2];exact zi.mpr ⟨x,hx,rfl⟩)
theorem Sx.less (h:Sx t S0 cs qs dy fs S) (p:Ep.Sublist fs):Sx t S0 cs qs dy Ep S :=
 ⟨h.kc,h.sh,h.ko,h.dj,fun x hx=>h.fa x (p.mem hx),h.nd.sublist (p.map _),h.vp⟩
theorem Sx.W4 (h:Sx t S0 cs qs dy fs S) (ej:qs[j]?=some q) (hS:br t.ah S' q.a g.F cs g.dl g.rs) (hK:vn (dy j).F g.F S S'):Sx t S0 cs qs (Oe dy j g) fs S':=by
 have W5:∀ (i:Nat) (r:Kq),qs[i]?=some r→i≠j→∀ b∈(dy i).F,b∉g.F∧∀ c,S b=some c→S' b=some c:=fun i r e n b hb=>by
  obtain⟨c,hc⟩:=(h.sh i r e).Yz hb
  have:=hK b c (h.dj i j r q n e ej b hb) hc
  refine⟨this.1,fun c' Eg=>?_⟩
  rw[hc] at Eg;cases Eg
  exact this.2
 have two:∀ (b:Addr) (c:Ce),(∀ (i:Nat) (q:Kq),qs[i]?=some q→b∉(dy i).F)→S b=some c→(∀ (i:Nat) (q:Kq),qs[i]?=some q→b∉(Oe dy j g i).F)∧S' b=some c:=fun b c n e=>by
  have:=hK b c (n j q ej) e
  refine⟨fun i r er=>?_,this.2⟩
  by_cases ij:i=j
  ·subst ij;rw[cP];exact this.1
  ·rw[eP ij];exact n i r er
 refine⟨fun i r e=>(two _ _ (fun i' r' e'=>h.ko i i' r r' e e') (h.kc i r e)).2,fun i r e=>?_,fun i i' r r' e e'=>(two _ _ (fun i' r' e'=>h.ko i i' r r' e e') (h.kc i r e)).1 i' r' e',fun i i' r r' n e e' b hb=>?_,fun x hx=>⟨(two _ _ (h.fa x hx).2.1 (h.fa x hx).1).2,(two _ _ (h.fa x hx).2.1 (h.fa x hx).1).1,(h.fa x hx).2.2⟩,h.nd,fun b c e=>two b c (h.vp b c e).1 (h.vp b c e).2⟩
 ·by_cases ij:i=j
  ·subst ij
   rw[ej] at e;cases e
   rw[cP];exact hS
  ·rw[eP ij]
   exact (h.sh i r e).keep fun b hb c hc=>(W5 i r e ij b hb).2 c hc
 ·by_cases ij:i=j
  ·subst ij
   rw[cP] at hb
   rw[eP (Ne.symm n)]
   exact fun m=>(W5 i' r' e' (Ne.symm n) b m).1 hb
  ·rw[eP ij] at hb
   by_cases YA:i'=j
   ·subst YA
    rw[cP]
    exact (W5 i r e ij b hb).1
   ·rw[eP YA]
    exact h.dj i i' r r' n e e' b hb
theorem Sx.add (h:Sx t S0 cs qs dy [] S) (hk:S q.k=none) (hc:S' q.k=some (RX t.aT q)) (hS:br t.ah S' q.a F cs [] []) (hn:q.k∉F) (hK:∀ b c,S b=some c→b∉F∧S' b=some c) :
  Sx t S0 cs (qs++[q]) (Oe dy qs.length ⟨F,[],[]⟩) [] S':=by
 have old:∀ (i:Nat) (r:Kq),(qs++[q])[i]?=some r→(i≠qs.length∧qs[i]?=some r)∨i=qs.length∧r=q:=fun i r e=>by
  by_cases il:i<qs.length
  ·rw[List.getElem?_append_left il] at e
   exact .inl ⟨by omega,e⟩
  ·rw[List.getElem?_append_right (by omega)] at e
   have i0:i - qs.length=0:=by
    cases z:i - qs.length with
    | zero=>rfl
    | succ n=>rw[z] at e;simp at e
   rw[i0] at e
   cases e
   exact .inr ⟨by omega,rfl⟩
 have W6:∀ (i:Nat) (r:Kq),qs[i]?=some r→∀ b∈(dy i).F,b∉F∧b≠q.k:=fun i r e b hb=>by
  obtain⟨c,hc⟩:=(h.sh i r e).Yz hb
  exact⟨(hK b c hc).1,fU hc hk⟩
 refine⟨fun i r e=>?_,fun i r e=>?_,fun i i' r r' e e'=>?_,fun i i' r r' n e e' b hb=>?_,by simp,.nil,fun b c e=>⟨fun i r er=>?_,(hK b c (h.vp b c e).2).2⟩⟩
 ·rcases old i r e with ⟨_,e1⟩ | ⟨_,rfl⟩
  ·exact (hK _ _ (h.kc i r e1)).2
  ·exact hc
 ·rcases old i r e with ⟨n,e1⟩ | ⟨rfl,rfl⟩
  ·rw[eP n]
   exact (h.sh i r e1).keep fun b hb c Eg=>(hK b c Eg).2
  ·rw[cP];exact hS
 ·rcases old i' r' e' with ⟨n,e1⟩ | ⟨rfl,rfl⟩
  ·rw[eP n]
   rcases old i r e with ⟨_,e2⟩ | ⟨_,rfl⟩
   ·exact h.ko i i' r r' e2 e1
   ·exact fun m=>(W6 i' r' e1 _ m).2 rfl
  ·rw[cP]
   rcases old i r e with ⟨_,e2⟩ | ⟨_,rfl⟩
   ·exact (hK _ _ (h.kc i r e2)).1
   ·exact hn
 ·rcases old i r e with ⟨n1,e1⟩ | ⟨rfl,rfl⟩
  ·rw[eP n1] at hb
   rcases old i' r' e' with ⟨n2,e2⟩ | ⟨rfl,rfl⟩
   ·rw[eP n2];exact h.dj i i' r r' n e1 e2 b hb
   ·rw[cP];exact (W6 i r e1 b hb).1
  ·rw[cP] at hb
   rcases old i' r' e' with ⟨n2,e2⟩ | ⟨rfl,rfl⟩
   ·rw[eP n2];exact fun m=>(W6 i' r' e2 b m).1 hb
   ·exact absurd rfl n
 ·rcases old i r er with ⟨n,e1⟩ | ⟨rfl,rfl⟩
  ·rw[eP n];exact (h.vp b c e).1 i r e1
  ·rw[cP];exact (hK b c (h.vp b c e).2).1
end
theorem Hl (T:Txt w K mg t):ip P w mg base T.dm 7 (fun ds S R _=>∃ (k:Addr) (cs:List (Str×Str)) (ps:List Part) (wy:Str),ds=[.ref k,.tup (cs.map aB),eB ps wy]∧Gd cs∧Og cs ps wy∧S k=some (.ins t.aT []) ∧
  ∀ S' F a,br t.ah S' a F cs [] []→S' k=some (RX t.aT ⟨k,a,ps,wy⟩)→k∉F→(∀ b c,b≠k→S b=some c→b∉F∧S' b=some c)→R .aw S'):=by
 have nN:ip P w mg base T.dS 5 _:=JI T
 have gJ:Ok P w base T.bz 5 _:=jF T
 refine T.dm.F.ok kW (by rintro ds S R Z ⟨_,_,_,_,e,_⟩;rw[e];rfl) ?_
 rintro bq A outer s H E ds S R Z hr ⟨k,cs,ps,wy,e,hg,ho,hk,q⟩
 subst e
 refine⟨_,(sc (sf T.dH T.fc (dv 0) (mk T.Gs nN (hr.mono (by decide)) T.Gr T.dS.b d0 (ac (dv 1) an))) (sc (se (cf (gJ.mono (by decide)) hr T.bz.m T.bz.k T.bz.b d0 (ac (dv 1) (ac (dv 2) an)))) (s1 (sf T.dH T.iQ (dv 0) (dv 2))))),?_⟩
 refine⟨_,rfl,fun a ha=>⟨a,cs,rfl,hg,af,fun S1 F1 BL OW=>⟨rfl,?_⟩⟩⟩
 have YB:k≠a:=fU hk ha
 obtain⟨kF,XY⟩:=OW k _ (fun m=>YB (zE.mp m)) ((ag YB).trans hk)
 refine⟨_,rfl,k,[],rfl,XY,(show 0<1000 by decide),?_⟩
 refine⟨_,rfl,_,rfl,cs,ps,wy,rfl,hg,ho.tx,fun _=>?_,fun z=>by rw[ho.ok] at z;cases z⟩
 refine⟨_,rfl,_,rfl,k,[("shelf",.ref a)],rfl,af,(show 1<1000 by decide),?_⟩
 refine fo (q _ F1 a ((BL.off kF).off kF) af kF fun b c n e=>?_)
 have YC:b≠a:=fU e ha
 obtain⟨bF,hb1⟩:=OW b c (fun m=>YC (zE.mp m)) ((ag YC).trans e)
 exact⟨bF,by rw[ag n,ag n];exact hb1⟩
theorem Ka (T:Txt w K mg t):ip P w mg base T.eT 8 (fun ds S R Z=>∃ (q:Kq) (d:D),ds=[.ref q.k,d]∧S q.k=some (RX t.aT q)∧W2 t [.ref q.a,d] S (fun _=>R .aw) Z):=by
 have Ea:Ok P w base T.jS 7 (Mo (W2 t)):=JR ((JS T).Nm fun ds S R Z h=>h.of)
 refine T.eT.F.ok qB (by rintro ds S R Z ⟨_,_,e,_⟩;rw[e];rfl) ?_
 rintro bq A outer s H E ds S R Z hr ⟨q,d,e,hk,h⟩
 subst e
 refine⟨_,(s1 (se (cf (Ea.mono (by decide)) hr T.jS.m T.jS.k T.jS.b d0 (ac (fl T.dH T.fc (dv 0)) (ac (dv 1) an))))),?_⟩
 exact⟨_,rfl,q.k,_,_,rfl,hk,rfl,_,rfl,fun _=>R .aw,Z,h,fun d S' r=>fo r,fun C S' z=>fo z⟩
theorem xm (T:Txt w K mg t) (B:Bm mg base):ip P w mg base T.bp 11 (fun ds S R _=>∃ (q:Kq) (cs:List (Str×Str)) (rows:List Row),ds=[.ref q.k]∧S q.k=some (RX t.aT q)∧Gd cs∧Og cs q.ps q.wy∧Vw t.ah S q.a cs .aw rows∧Tb t S ∧
  ∀ (cK:List Row) (p:Addr),cK.Perm rows→(cK.Pairwise fun a b=>aV cs q.wy q.ps a b=true)→S p=none→R (.ref p) (S.set p (.lst (cK.map ao)))):=by
 have Kb:Ok P w base T.plain 10 (JY t):=G_ T B
 refine T.bp.F.ok kX (by rintro ds S R Z ⟨_,_,_,e,_⟩;rw[e];rfl) ?_
 rintro bq A outer s H E ds S R Z hr ⟨q,cs,rows,e,hk,hg,ho,hv,ht,g⟩
 subst e
 refine⟨_,(s1 (sr (cf (Kb.mono (by decide)) hr T.plain.m T.plain.k T.Dr d1 (ac (fl T.dH T.fc (dv 0)) (ac (fl T.dH T.iQ (dv 0)) (ac (gB (ac ds an)) an)))))),?_⟩
 refine⟨_,rfl,q.k,_,_,rfl,hk,rfl,_,rfl,q.k,_,_,rfl,hk,rfl,so,?_⟩
 refine⟨q.a,cs,q.ps,q.wy,.tup [.str "every"],.aw,rows,rfl,hg,ho,.inl (.inl rfl),hv,ht,fun cK p pm pw hp=>fo (g cK p ?_ pw hp)⟩
 rw[List.filter_eq_self.mpr fun r _=>?_] at pm
 ·exact pm
 ·rfl
theorem Eb {xs ys:List D}{i:Nat}{d:D} (h:(bh xs ys)[i]?=some d):∃ x y,xs[i]?=some x∧ys[i]?=some y∧d=.tup [x,y]:=by
 unfold bh at h
 obtain⟨x,y,e1,e2,e3⟩:=List.getElem?_zipWith_eq_some.mp h
 exact⟨x,y,e1,e2,e3.symm⟩
theorem AV (xs ys:List D):(bh xs ys).length=min xs.length ys.length:=by
 unfold bh
 rw[List.length_zipWith]
def Ls (t:pv):gN:=fun ds S R _=>∃ ns:List Int,ds=[.kD (ns.map D.int)]∧ns.length≤63∧Tb t S∧R (.bl true) S
def Ev (qs:List Kq) (dy:Nat→Hd) (n:Nat→Nat) (kn:Nat→Kn):Prop:=∀ (i:Nat) (q:Kq),qs[i]?=some q→(dy i).dl.length=n i∧RI (dy i).rs (n i) (kn i)
def oL (qs:List Kq):List D:=qs.map fun q=>eB q.ps q.wy
def kL (qs:List Kq):List D:=qs.map fun q=>D.ref q.k
theorem Kc (T:Txt w K mg t) (B:Bm mg base):Ok P w base T.Wn 20 (Ls t):=by
 have jJ:Ok P w base T.bL 1 _:=AF T
 have qX:Ok P w base T.fb 1 _:=JK T
 have xn:Ok P w base T.fF 2 _:=AG T
 have mz:ip P w mg base T.dm 7 _:=Hl T
 have sD:ip P w mg base T.eT 8 _:=Ka T
 have gv:ip P w mg base T.bp 11 _:=xm T B
 have Hm:Ok P w base T.nr 4 GN:=JP T
 have Ec:Ok P w base T.jU 1 _:=GQ T
 have tO:Ok P w base T.ft 2 _:=He T
 have AW:Ok P w base T.g6 3 Hb:=D4 T
 refine T.Wn.F.ok fe (by rintro ds S R Z ⟨_,e,_⟩;rw[e];rfl) ?_
 rintro bq A outer s H E ds S R Z hr ⟨ns,e,Ny,htb,q⟩
 subst e
 refine⟨_,(sc (hX (i:=1) fe.nd (cf (xn.mono (by decide)) hr T.fF.m T.fF.k T.fF.b d0 (ac (cf (qX.mono (by decide)) hr T.fb.m T.fb.k T.fb.b d0 (ac (cf (jJ.mono (by decide)) hr T.bL.m T.bL.k T.bL.b d0 (ac (dv 0) (ac di an))) an)) an))) (sc (hX (i:=2) fe.nd (cf (qX.mono (by decide)) hr T.fb.m T.fb.k T.fb.b d0 (ac (cf (jJ.mono (by decide)) hr T.bL.m T.bL.k T.bL.b d0 (ac (dv 0) (ac di an))) an))) (sc (hX (i:=3) fe.nd (fY (ac (cf (tO.mono (by decide)) hr T.ft.m T.ft.k T.ft.b d0 (ac (dv 2) (ac (dv 1) an))) (ac (cf (tO.mono (by decide)) hr T.ft.m T.ft.k T.ft.b d0 (ac (dv 2) (ac (dv 1) an))) an)))) (sc (OM (i:=4) (N:=["_law_order_here", "_law_columns_here"]) (src:=[none,some 1]) fe.nd (nZ (ae v_) ["_law_script", "_law_columns_here", "_law_well_here", "_law_orders", "_law_keepers", "_law_known_here", "_law_cell", "_law_deed_here", "_law_rows", "_law_order_here", "_law_keeper", "_law_found"] rfl rfl (by decide +kernel)) (il (dv 3)) (um (show (["_law_order_here", "_law_columns_here"]:List Str).Nodup by decide +kernel)) (bt rfl) bu (fun _ _ _ _ _=>xr) (fun _ _ _ _ _=>(mk T.Dx mz (hr.mono (by decide)) T.Dw T.dm.b d0 (ac (dv 1) (ac (dv 0) an))))) (sc (hX (i:=5) fe.nd QD) (sc (HC (HB (il (bo gU hr.units (fY (ac (cf (jJ.mono (by decide)) hr T.bL.m T.bL.k T.bL.b d0 (ac (dv 0) (ac di an))) an)) (sl (dv 0) (o1 di) (o1 di)))) (gn (i:=6) fe.nd) (sc (hX (i:=7) fe.nd (cf (Hm.mono (by decide)) hr T.nr.m T.nr.k T.nr.b d0 (ac (cf (qX.mono (by decide)) hr T.fb.m T.fb.k T.fb.b d0 (ac (dv 6) an)) (ac (dv 1) (ac (dv 5) an))))) (sc (se (cf (Ec.mono (by decide)) hr T.jU.m T.jU.k T.jU.b d0 (ac (dv 5) (ac (dv 7) an)))) (sc (OM (i:=8) (N:=["_law_key_here", "_law_known_here"]) (src:=[none,some 5]) fe.nd (nZ (ae v_) ["_law_script", "_law_columns_here", "_law_well_here", "_law_orders", "_law_keepers", "_law_known_here", "_law_cell", "_law_deed_here", "_law_rows", "_law_order_here", "_law_keeper", "_law_found"] rfl rfl (by decide +kernel)) (il (cb p7 T.fM eG (ac (dv 5) an))) (um (show (["_law_key_here", "_law_known_here"]:List Str).Nodup by decide +kernel)) (bt rfl) bu (fun _ _ _ _ _=>xr) (fun _ _ _ _ _=>(gB (ac (dv 0) (ac (ix hr.units (dv 1) (dv 0)) an))))) (s1 (HB (izm T.Gp (ac (dv 3) (ac (dv 4) an))) (gt (n:=2) (gc (gn (i:=9) fe.nd) (gc (gn (i:=10) fe.nd) g0))) (sc (si (cJ mO hr.units (rN (dv 10) T.dH T.eT.e (sD.mono (by decide)) hr T.eT.b d0 (ac (dv 7) an)) dn) (s1 (sr db)) s0) (sc (hX (i:=11) fe.nd (rO (dv 10) T.dH T.bp.e (gv.mono (by decide)) hr T.bp.b d0)) (sc (si (twd (twor (dM (tv (cb cW T.ax au (ac (dv 11) (ac (rL T.NM IB) an))))) (tw1 (cJ lN hr.units (dv 11) (cf (AW.mono (by decide)) hr T.g6.m T.g6.k T.g6.b d0 (ac (dv 1) (ac (dv 9) (ac (dv 8) an)))))))) (s1 (sr db)) s0) (sc (se (bm zL zZ z0 dN (dv 11) (ac dn an))) (s1 (si (cJ lN hr.units (rO (dv 10) T.dH T.bp.e (gv.mono (by decide)) hr T.bp.b d0) (sl (dv 11) o0 (o1 (VB di)))) (s1 (sr db)) s0))))))))))))) (s1 (sr db)))))))),?_⟩
 refine⟨_,rfl,ns,0,rfl,fun c0=>⟨⟨c0,rfl⟩,fun l0 WQ=>⟨l0,rfl,af,fun cs hg hN=>?_⟩⟩⟩
 refine⟨_,rfl,ns,1,rfl,fun c1=>⟨⟨c1,rfl⟩,fun l1 JM=>?_⟩⟩
 have O6:Sub S ((S.set l0 .well).set l1 .well):=(Sub.new WQ).trans (.new JM)
 have Th:((S.set l0 .well).set l1 .well) l1=some .well:=af
 generalize (S.set l0 .well).set l1 .well=S1 at O6 Th ⊢
 refine⟨_,rfl,_,rfl,l1,cs,rfl,hg,Th,fun Lu Lv K5=>⟨_,rfl,_,rfl,l1,cs,rfl,hg,Th,fun Lw Lx Ib=>⟨eV,fun lo Xt=>?_⟩⟩⟩
 have Bg:Sub S (S1.set lo (.lst [eB Lu Lv,eB Lw Lx])):=O6.trans (.new Xt)
 have Ed:(S1.set lo (.lst [eB Lu Lv,eB Lw Lx])) lo=some (.lst [eB Lu Lv,eB Lw Lx]):=af
 generalize S1.set lo (.lst [eB Lu Lv,eB Lw Lx])=S2 at Bg Ed ⊢
 refine⟨_,rfl,_,Ed,?_⟩
 refine⟨fun i out S'=>∃ (qs:List Kq) (dy:Nat→Hd),out=kL qs∧oL qs=[eB Lu Lv,eB Lw Lx].take i∧Sx t S2 cs qs dy [] S'∧(∀ q∈qs,Og cs q.ps q.wy)∧∀ (j:Nat) (q:Kq),qs[j]?=some q→(dy j).dl=[]∧(dy j).rs=[],⟨[],fun _=>⟨[],[],[]⟩,rfl,rfl,.nil _ _ _ _,by simp,by simp⟩,?_,?_,?_⟩
 ·rintro i out S' ⟨qs,dy,_,_,hx,_⟩
  exact (hx.vp _ _ Ed).2
 ·rintro i d out S' hd ⟨qs,dy,rfl,eo,hx,W7,W8⟩
  have hd:[eB Lu Lv,eB Lw Lx][i]?=some d:=hd
  have hi:i<2:=(zo.mp hd).1
  have W9:qs.length=i:=by
   have:=congrArg List.length eo
   rw[yd] at this
   unfold oL at this
   rw[zc] at this
   rw[this]
   show min i 2=i
   omega
  obtain⟨ps,wy,ho,rfl⟩:∃ ps wy,Og cs ps wy∧d=eB ps wy:=by
   rcases i with _ | _ | i
   ·cases hd;exact⟨Lu,Lv,K5,rfl⟩
   ·cases hd;exact⟨Lw,Lx,Ib,rfl⟩
   ·omega
  refine⟨gT (by unfold kL;rw[zc];omega),?_⟩
  refine⟨_,rfl,_,rfl,fun k hk=>⟨k,cs,ps,wy,rfl,hg,ho,af,fun S3 F a hS3 hk3 hkF hK3=>⟨rfl,?_⟩⟩⟩
  refine⟨qs++[⟨k,a,ps,wy⟩],Oe dy qs.length ⟨F,[],[]⟩,by unfold kL;rw[zF];rfl,?_,hx.add hk hk3 hS3 hkF fun b c e=>hK3 b c (fU e hk) ((Sub.new hk) _ _ e),?_,?_⟩
  ·unfold oL at eo ⊢
   rw[zF,eo,List.take_add_one,hd];rfl
  ·intro q hq
   rcases zI.mp hq with hq | hq
   ·exact W7 q hq
   ·rw[zE.mp hq];exact ho
  ·intro j q hj
   by_cases ej:j=qs.length
   ·rw[ej,cP];exact⟨rfl,rfl⟩
   ·rw[eP ej]
    refine W8 j q ?_
    have:j<qs.length:=by
     have:=(zo.mp hj).1
     rw[zC,List.length_singleton] at this
     omega
    rwa [List.getElem?_append_left this] at hj
 rintro out S3 ⟨qs,dy,rfl,eo,hx,W7,W8⟩
 have eo:oL qs=[eB Lu Lv,eB Lw Lx]:=eo
 refine fun lq hlq=>?_
 have W9:qs.length=2:=by
  have:=congrArg List.length eo
  unfold oL at this
  rw[zc] at this
  exact this
 rw[← eo] at Ed
 clear eo
 have Jd:=hx.new hlq (.lst (kL qs))
 generalize S3.set lq (.lst (kL qs))=S4 at Jd ⊢
 refine fun lk V4=>?_
 have Em:=Jd.new V4 (.du [])
 generalize S4.set lk (.du [])=S5 at Em ⊢
 refine⟨fun aK S'=>Sub S S',?_,fun aK S' h=>⟨S,h,q⟩⟩
 refine⟨_,rfl,ns,2,rfl,fun c2=>⟨so,fun p1 DR=>?_⟩⟩
 have YD:=Em.new DR (.lst [.int c2])
 generalize S5.set p1 (.lst [.int c2])=S6 at YD ⊢
 refine⟨_,rfl,_,rfl,_,rfl,fun p2 mK=>?_⟩
 have O8:=YD.new mK (.lst (j6 (ns.map D.int) (some 3) (some 32)))
 generalize S6.set p2 (.lst (j6 (ns.map D.int) (some 3) (some 32)))=S7 at O8 ⊢
 rw[Hk] at O8
 have Bf:=J_ ns (some 3) (some 32)
 generalize j6 ns (some 3) (some 32)=ms at O8 Bf
 refine⟨_,_,O8.at 2 rfl,O8.at 3 rfl,sm (by show 1+_≤_;rw[zc];omega),fun lf HE=>⟨_,af,?_⟩⟩
 have Tz:=O8.new HE (.lst ([.int c2]++ms.map D.int))
 generalize S7.set lf (.lst ([.int c2]++ms.map D.int))=S8 at Tz ⊢
 have eL:([D.int c2]++ms.map D.int)=(c2 :: ms).map D.int:=rfl
 rw[eL] at Tz ⊢
 have hL:(c2 :: ms).length≤64:=by rw[zK];omega
 generalize (c2 :: ms)=L at Tz hL ⊢
 have hx6:Sx t S2 cs qs dy [(lk,.du (h7 [])),(lq,.lst (kL qs)),(lf,.lst (L.map D.int))] S8:=by
  have h:=Tz
  refine⟨h.kc,h.sh,h.ko,h.dj,fun x hx=>h.fa x ?_,?_,h.vp⟩
  ·simp only [ze,zD,or_false] at hx
   rcases hx with rfl | rfl | rfl <;> simp [h7]
  ·have nd:=h.nd
   simp only [List.cons_append,List.nil_append,zA,List.map_nil,zX,ze,zD,not_or,or_false] at nd ⊢
   grind
 have Tf:Tb t S2:=htb.sub Bg
 refine⟨fun i aK S'=>∃ (o6 o7 o8 o9 O9 O_:Option D) (dy:Nat→Hd) (kn:Kn),aK=[some (.kD (ns.map D.int)),some (.tup (cs.map aB)),some (.ref l1),some (.ref lo),some (.ref lq),some (.ref lk),o6,o7,o8,o9,O9,O_]∧Sx t S2 cs qs dy [(lk,.du (h7 kn)),(lq,.lst (kL qs)),(lf,.lst (L.map D.int))] S'∧KI cs kn∧Ev qs dy (fun _=>i) (fun _=>kn),?_,?_,?_,?_⟩
 ·refine⟨none,none,none,none,none,none,dy,[],rfl,hx6,KI.nil cs,fun i q e=>?_⟩
  obtain⟨e1,e2⟩:=W8 i q e
  rw[e1,e2]
  exact⟨rfl,RI.nil⟩
 ·rintro i aK S' ⟨_,_,_,_,_,_,dy,kn,_,hx,_⟩
  exact hx.at 2 rfl
 ·rintro i d aK S' hd ⟨o6,o7,o8,o9,O9,O_,dy,kn,rfl,hx,hI,Pa⟩
  have hd:(L.map D.int)[i]?=some d:=hd
  have hi:i<L.length:=by
   have:=(zo.mp hd).1
   rwa [zc] at this
  obtain⟨c,hc,rfl⟩:=zi.mp (zM hd)
  refine⟨_,rfl,⟨c,rfl⟩,fun l hl=>?_⟩
  have W_:=hx.sub (.new (c:=.well) hl)
  refine⟨_,rfl,_,rfl,l,cs,lk,kn,rfl,hg,af,W_.at 0 rfl,hI,fun de YE=>?_⟩
  obtain⟨gP,Tq,RY⟩:=(GD.up YE).as hI
  have hkl:=hI.len
  refine⟨_,rfl,_,rfl,lk,kn,de,gP,rfl,W_.at 0 rfl,by omega,Tq,?_⟩
  have Xa:=W_.put (kv':=h7 gP)
  generalize (S'.set l .well).set lk (.du (h7 gP))=S9 at Xa ⊢
  have Xb:=RY.len
  have ek:(h7 gP).map (·.1)=(gP.map (·.1)).map Sum.inr:=by unfold h7;rw[zw,zw];rfl
  refine⟨_,rfl,lk,h7 gP,gP.map (·.1),rfl,Xa.at 0 rfl,ek,by unfold h7;rw[zc];omega,fun ss hp ho p u5=>⟨_,af,?_⟩⟩
  have hsl:ss.length≤30:=by rw[hp.length_eq,zc];exact Xb
  have Xc:=Xa.sub (.new (c:=.lst (ss.map D.str)) u5)
  have RU:(S9.set p (.lst (ss.map D.str))) p=some (.lst (ss.map D.str)):=af
  generalize S9.set p (.lst (ss.map D.str))=YF at Xc RU ⊢
  refine comp_map (fun d=>match d with | .str z=>.tup [.str z,rn gP z] | _=>.aw) RU (by show (ss.map D.str).length≤1000;rw[zc];omega) (fun d hd Q hQ=>?_) fun lw Tw=>?_
  ·obtain⟨z,hz,rfl⟩:=zi.mp hd
   obtain⟨ws,mE⟩:=lh (hp.mem_iff.mp hz)
   have Oc:rn gP z=.tup ws:=by unfold rn;rw[mE]
   have hQ:Q (.tup [.str z,rn gP z]) YF:=hQ
   rw[Oc] at hQ
   exact⟨_,rfl,_,rfl,_,rfl,h7 gP,.tup ws,Xc.at 0 rfl,by rw[qI,mE];rfl,eV,hQ⟩
  have em:(ss.map D.str).map (fun d=>match d with | .str z=>D.tup [.str z,rn gP z] | _=>.aw)=(eY gP ss).map ao:=by rw[tM hp,zw];rfl
  rw[show (⟨ss.map D.str,fun S=>n5 S (.ref p) (ss.map D.str)⟩:Ft).xs=ss.map D.str from rfl,em]
  have TB:=Xc.new Tw (.lst ((eY gP ss).map ao))
  generalize YF.set lw (.lst ((eY gP ss).map ao))=S11 at TB ⊢
  have TC:Rg cs (eY gP ss):=xl RY hp
  have RQ:(eY gP ss).length≤30:=tN RY hp
  have Xd:S11 lo=some (.lst (oL qs)):=(TB.vp _ _ Ed).2
  have YG:(oL qs).length=(kL qs).length:=by unfold oL kL;rw[zc,zc]
  have h2l:(oL qs).length=2:=by unfold oL;rw[zc,W9]
  refine⟨_,rfl,_,rfl,lo,_,lq,_,rfl,Xd,TB.at 1 rfl,YG,?_⟩
  refine⟨fun j aK S'=>∃ (o9 O9 O_:Option D) (dy:Nat→Hd),aK=[some (.kD (ns.map D.int)),some (.tup (cs.map aB)),some (.ref l1),some (.ref lo),some (.ref lq),some (.ref lk),some (.int c),some de,some (.ref lw),o9,O9,O_]∧Sx t S2 cs qs dy [(lk,.du (h7 gP)),(lq,.lst (kL qs)),(lf,.lst (L.map D.int)),(lw,.lst ((eY gP ss).map ao))] S'∧Ev qs dy (fun m=>if m<j then i+1 else i) (fun m=>if m<j then gP else kn),?_,?_,?_,?_⟩
  ·exact⟨_,_,_,dy,rfl,TB,fun m r em=>by dsimp only;rw[if_neg (Nat.not_lt_zero m),if_neg (Nat.not_lt_zero m)];exact Pa m r em⟩
  ·rintro j aK S' ⟨_,_,_,dy,_,hx,_⟩
   exact⟨(hx.vp _ _ Ed).2,hx.at 1 rfl⟩
  ·rintro j d aK S' hd ⟨o9,O9,O_,dy,rfl,hx,Pa⟩
   have hd:(bh (oL qs) (kL qs))[j]?=some d:=hd
   obtain⟨x,y,e1,e2,rfl⟩:=Eb hd
   unfold oL at e1
   unfold kL at e2
   rw[zx] at e1 e2
   cases eq:qs[j]? with
   | none=>rw[eq] at e1;cases e1
   | some kq =>
   rw[eq] at e1 e2
   cases e1
   cases e2
   have Hn:=W7 kq (zM eq)
   obtain⟨en,hR⟩:=Pa j kq eq
   dsimp only at en hR
   rw[if_neg (yg j)] at en
   rw[if_neg (yg j),if_neg (yg j),← en] at hR
   refine⟨_,rfl,rfl,_,_,rfl,_,_,rfl,rfl,?_⟩
   refine⟨_,rfl,kq.k,_,rfl,hx.kc j kq eq,rfl,_,rfl,kq,de,rfl,hx.kc j kq eq,D_ (hx.sh j kq eq) hg hI hR (by omega) (GD.up YE) Tq fun Ho TF Of RZ Xe Oh hold=>?_⟩
   refine⟨_,rfl,bI ?_⟩
   have hy:=hx.W4 (g:=⟨TF,(dy j).dl++[de],Of⟩) eq RZ Xe
   have YH:Snap Of cs ((dy j).dl++[de]).length (eY gP ss):=⟨gP,ss,rfl,RY,hp,ho,fun z=>by rw[zC];exact Oh.wt z⟩
   have vw:Vw t.ah Ho kq.a cs .aw (eY gP ss):=YH.vw RZ (by rw[zC];exact Oh) rfl uY
   have TH:=hy.kc j kq eq
   have tb:Tb t Ho:=Tf.sub fun b c e=>(hy.vp b c e).2
   have R1:=hy.at 3 rfl
   refine⟨_,rfl,kq.k,_,rfl,TH,rfl,kq,cs,eY gP ss,rfl,TH,hg,Hn,vw,tb,fun N7 pf Ln Tu YI=>?_⟩
   have YJ:Sub Ho (Ho.set pf (.lst (N7.map ao))):=.new YI
   have hf:(Ho.set pf (.lst (N7.map ao))) pf=some (.lst (N7.map ao)):=af
   have YK:∀ S,∀ d∈N7.map ao,Ly S 60 d:=fun S d hd=>by
    obtain⟨r,hr,rfl⟩:=zi.mp hd
    have lg:=Ln.mem_iff.mp hr
    exact Od (YH.key r lg) (TC.1 r lg)
   refine⟨_,rfl,_,_,_,_,rfl,D8,.inl ⟨rfl,_,hf⟩,_,rfl,bI ⟨_,rfl,_,rfl,_,rfl,_,rfl,cs,kq.ps,kq.wy,lw,_,rfl,hg,Hn.pin,YJ _ _ R1,Nat.lt_of_le_of_lt RQ (by decide),TC,fun tq p4 WX Tv O7=>?_⟩⟩
   have e2:tq=N7:=BU hg Hn.pin (TC.perm Ln) Tv Tu (WX.trans Ln.symm)
   subst e2
   have TJ:Sub (Ho.set pf (.lst (tq.map ao))) ((Ho.set pf (.lst (tq.map ao))).set p4 (.lst (tq.map ao))):=.new O7
   refine w5 (TJ _ _ hf) af (YK _) ⟨_,rfl,bI ?_⟩
   have aaR:(tq.map ao).length≤30:=by rw[zc,Ln.length_eq];exact RQ
   refine⟨_,rfl,⟨rfl,_,TJ _ _ hf⟩,pf,_,_,rfl,rfl,TJ _ _ hf,bg (by omega),?_⟩
   have n4:p4≠pf:=Ne.symm (fU hf O7)
   have Pb:Sub Ho (((Ho.set pf (.lst (tq.map ao))).set p4 (.lst (tq.map ao))).set pf (.lst (tq.map ao++[.aw]))):=fun b c e=>by
    have n1:b≠pf:=fU e YI
    rw[ag n1]
    exact TJ _ _ (YJ _ _ e)
   have YL:(((Ho.set pf (.lst (tq.map ao))).set p4 (.lst (tq.map ao))).set pf (.lst (tq.map ao++[.aw]))) pf=some (.lst (tq.map ao++[.aw])):=af
   generalize ((Ho.set pf (.lst (tq.map ao))).set p4 (.lst (tq.map ao))).set pf (.lst (tq.map ao++[.aw]))=TK at Pb YL ⊢
   refine⟨_,rfl,kq.k,_,rfl,Pb _ _ TH,rfl,kq,cs,eY gP ss,rfl,Pb _ _ TH,hg,Hn,vw.sub Pb,tb.sub Pb,fun Oi p9 pm9 pw9 hp9=>?_⟩
   have e9:Oi=tq:=BU hg Hn.pin (TC.perm Ln) pw9 Tu (pm9.trans Ln.symm)
   subst e9
   have Xf:Sub TK (TK.set p9 (.lst (Oi.map ao))):=.new hp9
   have YM:(TK.set p9 (.lst (Oi.map ao))) p9=some (.lst (Oi.map ao)):=af
   generalize TK.set p9 (.lst (Oi.map ao))=S15 at Xf YM ⊢
   refine⟨_,rfl,_,rfl,_,rfl,_,Xf _ _ YL,fun p10 R3=>?_⟩
   have Xg:j6 (Oi.map ao++[D.aw]) none (some (-1))=Oi.map ao:=Hg _ _
   refine w5 ((Sub.new R3) _ _ YM) (by rw[af];exact congrArg (fun x=>some (Ce.lst x)) Xg) (YK _) ⟨_,rfl,bI ⟨_,_,_,Oe dy j ⟨TF,(dy j).dl++[de],Of⟩,rfl,hy.sub ((Pb.trans Xf).trans (.new R3)),fun m r em=>?_⟩⟩
   dsimp only
   by_cases mj:m=j
   ·subst mj
    rw[cP,if_pos (yB m),if_pos (yB m)]
    refine⟨by show ((dy m).dl++[de]).length=_;rw[zC,en];rfl,?_⟩
    rw[← en]
    exact Oh
   ·rw[eP mj]
    have:=Pa m r em
    dsimp only at this
    by_cases mlt:m<j
    ·rw[if_pos mlt,if_pos mlt] at this
     rw[if_pos (by omega),if_pos (by omega)];exact this
    ·rw[if_neg mlt,if_neg mlt] at this
     rw[if_neg (by omega),if_neg (by omega)];exact this
  ·rintro aK S' ⟨o9,O9,O_,dy,rfl,hx,Pa⟩
   refine⟨_,_,_,_,_,_,dy,gP,rfl,hx.less (by simp),RY,fun m r em=>?_⟩
   have hm:m<2:=by rw[← W9];exact (zo.mp em).1
   have:=Pa m r em
   dsimp only at this ⊢
   have hj:m<(bh (oL qs) (kL qs)).length:=by rw[AV,← YG,h2l];simpa using hm
   rw[if_pos hj,if_pos hj] at this
   exact this
 ·rintro aK S' ⟨_,_,_,_,_,_,dy,kn,rfl,hx,_⟩
  exact fo (fun b c e=>(hx.vp _ _ (Bg _ _ e)).2)
def Hq (t:pv) (K:PySem.W.Frag):Sp:=fun vs H Q _=>ud K (Ls t) vs H Q E0
theorem Oj (T:Txt w K mg t) (B:Bm mg base):ck P w K mg base Su 20 t.K_ t.Gj ["_law_script"] (Hq t K):=ck.calm (Kc T B)
theorem Hr {w:World}{K:PySem.W.Frag}{mg:Str→Option Value}{t:pv} (T:Txt w K mg t) {H:Hp}{a:Addr}{ns:List Int} (hl:ns.length≤63) (hO:v7 t.ts H) (hS:gL K H a (ns.map V.int)):Hq t K [.ref a] H (fun v _=>v=.bl true) fun _ _ _=>False:=by
 have hR:KG K H a (ns.map V.int):=by
  rcases hS with (h | h) | h
  ·rcases hO.all a with q | ⟨o,xs,q⟩ | ⟨_,q⟩
   ·rw[q] at h;cases h
   ·rw[q] at h;cases h
   ·rw[q] at h;cases h
  ·exact .inl h
  ·exact .inr h
 have GC:t.aI≠t.aP:=fun e=>by
  have:=T.np
  rw[e] at this
  simp at this
 have tok:∀ q,Bo H q #[]:=fun q=>⟨trivial,fun _ _ e=>by cases e⟩
 refine⟨[.kD (ns.map D.int)],fun b=>if b=t.aP then some (.tab qK) else if b=t.aI then some (.tab qV) else none,fun d _=>d=.bl true,fun _ _=>False,aS (Fd hR (Bn ns)) bE,fun b c e=>?_,⟨ns,rfl,hl,⟨if_pos rfl,(if_neg GC).trans (if_pos rfl)⟩,rfl⟩,fun d S v H' e r _ _=>by subst e;exact r.bl,fun _ _ _ z=>z.elim⟩
 by_cases h1:b=t.aP
 ·have e:=(if_pos h1).symm.trans e
  cases e
  rw[h1]
  exact⟨#[],hO.tab _ T.l8,tok _⟩
 ·by_cases h2:b=t.aI
  ·have e:=(if_neg h1).symm.trans e
   have e:=(if_pos h2).symm.trans e
   cases e
   rw[h2]
   exact⟨#[],hO.tab _ T.ke,tok _⟩
  ·have e:=(if_neg h1).symm.trans e
   have e:=(if_neg h2).symm.trans e
   cases e
theorem Ol {P:Program}{w:World}{K:PySem.W.Frag}{mg:Str→Option Value}{fa:Addr}{ts:List Addr} (MJ:mg "law" = some (.ref fa)) (T:∃ t:pv,t.ts=ts∧Txt w K mg t):∃ (fd:FuncData) (sp:Sp),(∀ b∈ts,∃ c,codeHdIn K c b=true)∧(∀ (s:Shared) (u:Value),BindsTo s fd ⟨[u],[]⟩ [("_law_script",u)])∧(∀ base:Heap,Bm mg base→K.In base→base.Ns mainGlobals mg→ck P w K mg base Su 20 fa fd ["_law_script"] sp)∧∀ (H:Hp) (a:Addr) (ns:List Int),ns.length≤63→v7 ts H→gL K H a (ns.map V.int)→sp [.ref a] H (fun v _=>v=.bl true) fun _ _ _=>False:=by
 obtain⟨t,et,T⟩:=T
 have e0:=MJ.symm.trans T.Wn.m
 cases e0
 subst et
 exact⟨_,_,fun b hb=>(T.ta b (hb)).elim (fun e=>⟨_,e ▸ T.dX⟩) (fun e=>⟨_,e ▸ T.cV⟩),T.bl,fun base B kb nb=>Oj T B,fun H a ns hl hO hS=>Hr T hl hO hS⟩
end My
namespace PySem.W.Fast
theorem tw5538573328948214060:True:=⟨⟩
theorem tw971751668878596611:True:=⟨⟩
theorem tw9125323262537604327:True:=⟨⟩
theorem tw2259228642391533217:True:=⟨⟩
theorem tw14075750220173105937:True:=⟨⟩
theorem tw1830737387801330222:True:=⟨⟩
theorem tw1378512033864231902:True:=⟨⟩
theorem tw1719278259198432988:True:=⟨⟩
theorem tw9839930510199374474:True:=⟨⟩
theorem tw7457631271688859255:True:=⟨⟩
theorem tw11517102122783697320:True:=⟨⟩
theorem tw10116611861450578163:True:=⟨⟩
theorem tw1033791975370795142:True:=⟨⟩
theorem tw13346940282373159453:True:=⟨⟩
theorem tw13190254389187043121:True:=⟨⟩
theorem tw489914282872464108:True:=⟨⟩
theorem tw7414185057727645829:True:=⟨⟩
theorem tw1021676296397790186:True:=⟨⟩
theorem tw7382978001819229126:True:=⟨⟩
theorem tw8797958427603935242:True:=⟨⟩
theorem tw17839380949738124878:True:=⟨⟩
theorem tw17491615891413880255:True:=⟨⟩
theorem tw4672189641810520497:True:=⟨⟩
theorem tw9200298648834903432:True:=⟨⟩
theorem tw30469497242677810:True:=⟨⟩
theorem tw16312828240193553205:True:=⟨⟩
theorem tw8916252254929773011:True:=⟨⟩
theorem tw15710904685823336393:True:=⟨⟩
theorem tw16296214357562754459:True:=⟨⟩
theorem tw16030987778321483840:True:=⟨⟩
theorem tw1645515682435354590:True:=⟨⟩
theorem tw4644589569188136543:True:=⟨⟩
theorem tw2978169294476887744:True:=⟨⟩
theorem tw1182400296429688144:True:=⟨⟩
theorem tw15974473482790134042:True:=⟨⟩
theorem tw1280599702666742724:True:=⟨⟩
theorem tw9319952816222429131:True:=⟨⟩
theorem tw16776609721063440795:True:=⟨⟩
theorem tw556824133027598981:True:=⟨⟩
theorem tw17812526789167160839:True:=⟨⟩
theorem tw14413462480901554923:True:=⟨⟩
theorem tw10982825270573901530:True:=⟨⟩
theorem tw5309132195519920979:True:=⟨⟩
theorem tw11581203681116318579:True:=⟨⟩
theorem tw16169098121782645045:True:=⟨⟩
theorem tw2133365971853662038:True:=⟨⟩
theorem tw3882582890815710803:True:=⟨⟩
theorem tw2814104702465557899:True:=⟨⟩
theorem tw9352591077578040483:True:=⟨⟩
theorem tw3212222027437121198:True:=⟨⟩
theorem tw10105643323586813029:True:=⟨⟩
theorem tw4116476160188068770:True:=⟨⟩
theorem tw1208038014625187639:True:=⟨⟩
theorem tw7815679888676367682:True:=⟨⟩
theorem tw7300319807913078985:True:=⟨⟩
theorem tw7532436187338468109:True:=⟨⟩
theorem tw12488793191076996463:True:=⟨⟩
theorem tw3504378874912730983:True:=⟨⟩
theorem tw1824342841775331433:True:=⟨⟩
theorem tw2479706079065876506:True:=⟨⟩
theorem tw3146868202459591196:True:=⟨⟩
theorem tw11254588288209242989:True:=⟨⟩
theorem tw2278399765020665125:True:=⟨⟩
theorem tw16590278447178187924:True:=⟨⟩
theorem tw1664876805193363734:True:=⟨⟩
theorem tw16278912209226136651:True:=⟨⟩
theorem tw6129527104467163566:True:=⟨⟩
theorem tw11120747049702304475:True:=⟨⟩
theorem tw1106466176672030186:True:=⟨⟩
theorem tw11555747412632736280:True:=⟨⟩
theorem tw4793050125614280817:True:=⟨⟩
theorem tw1988709974125211476:True:=⟨⟩
theorem tw1062869539138687552:True:=⟨⟩
theorem tw1530482841885939794:True:=⟨⟩
theorem tw14202839401056210588:True:=⟨⟩
theorem tw2902619856820600647:True:=⟨⟩
theorem tw14978113839744627384:True:=⟨⟩
theorem tw12287525420315184687:True:=⟨⟩
theorem tw12241552989980591122:True:=⟨⟩
theorem tw736139183634055108:True:=⟨⟩
theorem tw1783257375180349758:True:=⟨⟩
theorem tw17617304582778631023:True:=⟨⟩
theorem tw8934195829880143987:True:=⟨⟩
theorem tw2507122035249022782:True:=⟨⟩
theorem tw15281542639634254883:True:=⟨⟩
theorem tw3856418659925397580:True:=⟨⟩
theorem tw14475924782188312012:True:=⟨⟩
theorem tw13221395043533652624:True:=⟨⟩
theorem tw3585079189474546679:True:=⟨⟩
theorem tw8071367313065461796:True:=⟨⟩
theorem tw16655970470293384030:True:=⟨⟩
theorem tw16737850905053446576:True:=⟨⟩
theorem tw3080908870064394033:True:=⟨⟩
theorem tw14754470421302414692:True:=⟨⟩
theorem tw16710663416648266000:True:=⟨⟩
theorem tw785467966986035424:True:=⟨⟩
theorem tw3072482713347397403:True:=⟨⟩
theorem tw13086090067920582989:True:=⟨⟩
theorem tw15216319625887571555:True:=⟨⟩
theorem tw4251290642088231808:True:=⟨⟩
theorem tw15179819689150767359:True:=⟨⟩
theorem tw5866445791429786137:True:=⟨⟩
theorem tw1396341941143281957:True:=⟨⟩
theorem tw3368157944203897211:True:=⟨⟩
theorem tw693517758166574101:True:=⟨⟩
theorem tw7791567414389839282:True:=⟨⟩
theorem tw14492884685203779599:True:=⟨⟩
theorem tw8775802321840045337:True:=⟨⟩
theorem tw8410411168397447734:True:=⟨⟩
theorem tw13241572130121887968:True:=⟨⟩
theorem tw8593789998650334706:True:=⟨⟩
theorem tw2570380424404510429:True:=⟨⟩
theorem tw8008316446039762565:True:=⟨⟩
theorem tw6917422138890129717:True:=⟨⟩
theorem tw4345471629975435240:True:=⟨⟩
theorem tw12541400358623358461:True:=⟨⟩
theorem tw4433737932622355554:True:=⟨⟩
theorem tw5500909499352637010:True:=⟨⟩
theorem tw1348300715467566777:True:=⟨⟩
theorem tw2487305110250430893:True:=⟨⟩
theorem tw9029990395576652666:True:=⟨⟩
theorem tw15865835072659106069:True:=⟨⟩
theorem tw5648746755145530028:True:=⟨⟩
theorem tw17629584009630637068:True:=⟨⟩
theorem tw6558903086718551114:True:=⟨⟩
theorem tw16892091080673059100:True:=⟨⟩
theorem tw10745589915394663816:True:=⟨⟩
theorem tw3112706804132842509:True:=⟨⟩
theorem tw13725452329690476303:True:=⟨⟩
theorem tw5104343118592695730:True:=⟨⟩
theorem tw4765024217752549461:True:=⟨⟩
theorem tw13392126529367574191:True:=⟨⟩
theorem tw9726995381497145003:True:=⟨⟩
theorem tw7104322529768478988:True:=⟨⟩
theorem tw6580341537832490569:True:=⟨⟩
theorem tw2722995601627534774:True:=⟨⟩
theorem tw12553135861882526199:True:=⟨⟩
theorem tw5529775639916198962:True:=⟨⟩
theorem tw17084847545856313273:True:=⟨⟩
theorem tw7334497017624055349:True:=⟨⟩
theorem tw7188006642219674813:True:=⟨⟩
theorem tw16374569823475961850:True:=⟨⟩
theorem tw9198660477471667312:True:=⟨⟩
theorem tw272085820110437992:True:=⟨⟩
theorem tw16254224143163147219:True:=⟨⟩
theorem tw8913168605504572633:True:=⟨⟩
theorem tw3697372719127108671:True:=⟨⟩
theorem tw17583263717617395761:True:=⟨⟩
theorem tw1905405489101244384:True:=⟨⟩
theorem tw17440616927636574536:True:=⟨⟩
theorem tw10220952968792581779:True:=⟨⟩
theorem tw2132719662112242730:True:=⟨⟩
theorem tw17138529462385430460:True:=⟨⟩
theorem tw6265568554441845870:True:=⟨⟩
theorem tw3355279309869997206:True:=⟨⟩
theorem tw15580859340082975325:True:=⟨⟩
theorem tw8225142960825650581:True:=⟨⟩
theorem tw10699648429311419174:True:=⟨⟩
theorem tw9429209129840988154:True:=⟨⟩
theorem tw2962691802102875707:True:=⟨⟩
theorem tw3093136091070610124:True:=⟨⟩
theorem tw2577275086893622037:True:=⟨⟩
theorem tw12543473490843114658:True:=⟨⟩
theorem tw17286825955313710615:True:=⟨⟩
theorem tw15139132546718606117:True:=⟨⟩
theorem tw3671368429750689370:True:=⟨⟩
theorem tw12485417006200985666:True:=⟨⟩
theorem tw17292676604190115626:True:=⟨⟩
theorem tw15447889608566248289:True:=⟨⟩
theorem tw2998592313370102882:True:=⟨⟩
theorem tw13560896142466517319:True:=⟨⟩
theorem tw16776636343309981623:True:=⟨⟩
theorem tw8058249257606099557:True:=⟨⟩
theorem tw6586621741351437414:True:=⟨⟩
theorem tw9703056224955005437:True:=⟨⟩
theorem tw8761690162723136640:True:=⟨⟩
theorem tw13288324383969534560:True:=⟨⟩
theorem tw9126327959164175858:True:=⟨⟩
theorem tw16779606419194662648:True:=⟨⟩
theorem tw5550264924540995321:True:=⟨⟩
theorem tw5961134957764026544:True:=⟨⟩
theorem tw1993645758211006767:True:=⟨⟩
theorem tw1388166742840663447:True:=⟨⟩
theorem tw6007160656568195902:True:=⟨⟩
theorem tw9986767297908843067:True:=⟨⟩
theorem tw4701312480902357533:True:=⟨⟩
theorem tw11646356438816044386:True:=⟨⟩
theorem tw418090643296390354:True:=⟨⟩
theorem tw2347503046390225264:True:=⟨⟩
theorem tw360050661112878159:True:=⟨⟩
theorem tw6953712783380078764:True:=⟨⟩
theorem tw8467596523878579389:True:=⟨⟩
theorem tw6471984495645498585:True:=⟨⟩
theorem tw3864906906139646479:True:=⟨⟩
theorem tw1795231803521412676:True:=⟨⟩
theorem tw10831292495858430763:True:=⟨⟩
theorem tw15769247413719252839:True:=⟨⟩
theorem tw11494454326126749234:True:=⟨⟩
theorem tw9194152512409983822:True:=⟨⟩
theorem tw13943968241048643153:True:=⟨⟩
theorem tw5972072749500820679:True:=⟨⟩
theorem tw9672703125778373577:True:=⟨⟩
theorem tw3557213688173351447:True:=⟨⟩
theorem tw14495166321277314857:True:=⟨⟩
theorem tw9063166306259163063:True:=⟨⟩
theorem tw15570658484561594257:True:=⟨⟩
theorem tw17305070790978958957:True:=⟨⟩
theorem tw5832668502810352100:True:=⟨⟩
theorem tw523342111149521614:True:=⟨⟩
theorem tw17093117821954659611:True:=⟨⟩
theorem tw12752032845597233330:True:=⟨⟩
theorem tw1840253791646598968:True:=⟨⟩
theorem tw9907270954391021402:True:=⟨⟩
theorem tw15026142640898795610:True:=⟨⟩
theorem tw7367962465172384889:True:=⟨⟩
theorem tw14225487566638531801:True:=⟨⟩
theorem tw12494218095291712119:True:=⟨⟩
theorem tw328770077816693206:True:=⟨⟩
theorem tw15038946289763302618:True:=⟨⟩
theorem tw15049296015958777820:True:=⟨⟩
theorem tw1553232167782070214:True:=⟨⟩
theorem tw1826995328059092560:True:=⟨⟩
theorem tw14388348028082166693:True:=⟨⟩
theorem tw4495262059853314679:True:=⟨⟩
theorem tw3824590092179143468:True:=⟨⟩
theorem tw16749691636532055168:True:=⟨⟩
theorem tw1156080302507050803:True:=⟨⟩
theorem tw17057878427874226477:True:=⟨⟩
theorem tw12018713047877549097:True:=⟨⟩
theorem tw853448392552857201:True:=⟨⟩
theorem tw218758455969483819:True:=⟨⟩
theorem tw7695243039282640769:True:=⟨⟩
theorem tw12316592630132731602:True:=⟨⟩
theorem tw4174337705586324209:True:=⟨⟩
theorem tw3681877777424144698:True:=⟨⟩
theorem tw18416557156655010715:True:=⟨⟩
theorem tw8311503875927442540:True:=⟨⟩
theorem tw8042436711647820130:True:=⟨⟩
theorem tw14164291043749090167:True:=⟨⟩
theorem tw11072467781466816606:True:=⟨⟩
theorem tw3104169737357439575:True:=⟨⟩
theorem tw14655552996705132978:True:=⟨⟩
theorem tw5647234421986421739:True:=⟨⟩
theorem tw9543515160552435308:True:=⟨⟩
theorem tw7676966904186391284:True:=⟨⟩
theorem tw6840644551122520777:True:=⟨⟩
theorem tw2241517466162029421:True:=⟨⟩
theorem tw10423425097145367603:True:=⟨⟩
theorem tw17917527244680812636:True:=⟨⟩
theorem tw2897843058561144319:True:=⟨⟩
theorem tw16702365644901261514:True:=⟨⟩
theorem tw12850676556343453126:True:=⟨⟩
theorem tw13626824268165419128:True:=⟨⟩
theorem tw8489282856439956363:True:=⟨⟩
theorem tw14926125363155126835:True:=⟨⟩
theorem tw5132253495571626904:True:=⟨⟩
theorem tw923098614774149742:True:=⟨⟩
theorem tw4525630442244833999:True:=⟨⟩
theorem tw18394407350603680493:True:=⟨⟩
theorem tw13322852596570730326:True:=⟨⟩
theorem tw12178951708715006234:True:=⟨⟩
theorem tw17608089355302325668:True:=⟨⟩
theorem tw8819900971148342462:True:=⟨⟩
theorem tw8994137652740413061:True:=⟨⟩
theorem tw13278240125390988600:True:=⟨⟩
theorem tw10344167463783691766:True:=⟨⟩
theorem tw6082694274840406220:True:=⟨⟩
theorem tw17406181083232063801:True:=⟨⟩
theorem tw8911115275112635794:True:=⟨⟩
theorem tw4888322916113873863:True:=⟨⟩
theorem tw13618098141787448319:True:=⟨⟩
theorem tw7414222476710144900:True:=⟨⟩
theorem tw13503964503439413227:True:=⟨⟩
theorem tw1812982416542420535:True:=⟨⟩
theorem tw12623274882220748544:True:=⟨⟩
theorem tw4311089421144048382:True:=⟨⟩
theorem tw10803122624791830864:True:=⟨⟩
theorem tw5938189993777973293:True:=⟨⟩
theorem tw3824598941448062906:True:=⟨⟩
theorem tw12895186787947304706:True:=⟨⟩
theorem tw1497164361884988867:True:=⟨⟩
theorem tw16216248107536813007:True:=⟨⟩
theorem tw13540115105484528121:True:=⟨⟩
theorem tw5469111786644329449:True:=⟨⟩
theorem tw231275548509743452:True:=⟨⟩
theorem tw11842257775635742445:True:=⟨⟩
theorem tw8343025366641668449:True:=⟨⟩
theorem tw17341507891046292567:True:=⟨⟩
theorem tw17855269528278239534:True:=⟨⟩
theorem tw4239843880915280823:True:=⟨⟩
theorem tw12153188687169421883:True:=⟨⟩
theorem tw9187291716725400671:True:=⟨⟩
theorem tw1158457754339426807:True:=⟨⟩
theorem tw2675070691489089450:True:=⟨⟩
theorem tw16564503821689577593:True:=⟨⟩
theorem tw8008923796459727811:True:=⟨⟩
theorem tw747575847349974821:True:=⟨⟩
theorem tw10609147340977244878:True:=⟨⟩
theorem tw13450612696953456855:True:=⟨⟩
theorem tw3476323214008710119:True:=⟨⟩
theorem tw2692439781460850305:True:=⟨⟩
theorem tw18263616361771043032:True:=⟨⟩
theorem tw9274826297514094482:True:=⟨⟩
theorem tw7467968666767750610:True:=⟨⟩
theorem tw4864798909496267734:True:=⟨⟩
theorem tw8275049462069730544:True:=⟨⟩
theorem tw968033291394587672:True:=⟨⟩
theorem tw16132073057014827627:True:=⟨⟩
theorem tw13037087072088725141:True:=⟨⟩
theorem tw13585647388685404821:True:=⟨⟩
theorem tw12791327134047345827:True:=⟨⟩
theorem tw7788766895768137084:True:=⟨⟩
theorem tw16251652448524558316:True:=⟨⟩
theorem tw3486045328085965357:True:=⟨⟩
theorem tw9498643447991365480:True:=⟨⟩
theorem tw8794876866845245638:True:=⟨⟩
theorem tw18072796773758682977:True:=⟨⟩
theorem tw3945177528879636355:True:=⟨⟩
theorem tw17571016761159569519:True:=⟨⟩
theorem tw4189280612764443774:True:=⟨⟩
theorem tw7584402389558715506:True:=⟨⟩
theorem tw3463871164939570731:True:=⟨⟩
theorem tw6893824657800508550:True:=⟨⟩
theorem tw13987691788489915131:True:=⟨⟩
theorem tw17349848153673169485:True:=⟨⟩
theorem tw15354543592808037536:True:=⟨⟩
theorem tw11570908290081691493:True:=⟨⟩
theorem tw3058545593581528967:True:=⟨⟩
theorem tw3164636294687629420:True:=⟨⟩
theorem tw13382821254108793894:True:=⟨⟩
theorem tw8542296154920076323:True:=⟨⟩
theorem tw11844742665979010812:True:=⟨⟩
theorem tw10277697693827749597:True:=⟨⟩
theorem tw2336201633103193452:True:=⟨⟩
theorem tw8263968811515404666:True:=⟨⟩
theorem tw7029154542777111635:True:=⟨⟩
theorem tw8074906652851453231:True:=⟨⟩
theorem tw5578849079811671235:True:=⟨⟩
theorem tw10277576929704774576:True:=⟨⟩
theorem tw10278641059028848471:True:=⟨⟩
theorem tw3091405901280288328:True:=⟨⟩
theorem tw129949067229152475:True:=⟨⟩
theorem tw390147844835108839:True:=⟨⟩
theorem tw7144700585742263067:True:=⟨⟩
theorem tw14764115567410978972:True:=⟨⟩
theorem tw16023854096299423585:True:=⟨⟩
theorem tw17996762460123415415:True:=⟨⟩
theorem tw13045555804907472419:True:=⟨⟩
theorem tw1009677413242100410:True:=⟨⟩
theorem tw1574705924155805295:True:=⟨⟩
theorem tw5942622441000705498:True:=⟨⟩
theorem tw15950213303661539706:True:=⟨⟩
theorem tw2888430081353670868:True:=⟨⟩
theorem tw3954272398335891856:True:=⟨⟩
theorem tw12494772185298139425:True:=⟨⟩
theorem tw10155648223356174719:True:=⟨⟩
theorem tw3919388166656610548:True:=⟨⟩
theorem tw17276439083154657637:True:=⟨⟩
theorem tw513372469276542531:True:=⟨⟩
theorem tw14200296887132907401:True:=⟨⟩
theorem tw728058194627198869:True:=⟨⟩
theorem tw6246643029783987370:True:=⟨⟩
theorem tw13811537686389714865:True:=⟨⟩
theorem tw9072565594612730147:True:=⟨⟩
theorem tw10230847770251727452:True:=⟨⟩
theorem tw8028489215921297289:True:=⟨⟩
theorem tw15384936620142708533:True:=⟨⟩
theorem tw8547116343869858953:True:=⟨⟩
theorem tw2709434507727148236:True:=⟨⟩
theorem tw15111927888203387609:True:=⟨⟩
theorem tw3452402778152682157:True:=⟨⟩
theorem tw8882967055136755462:True:=⟨⟩
theorem tw7628008945672261212:True:=⟨⟩
theorem tw3716364463569445649:True:=⟨⟩
theorem tw5517029192889908194:True:=⟨⟩
theorem tw7058774845279714243:True:=⟨⟩
theorem tw522533270490246420:True:=⟨⟩
theorem tw11048274516396564106:True:=⟨⟩
theorem tw9411385354185539737:True:=⟨⟩
theorem tw11932684116314695601:True:=⟨⟩
theorem tw2567286201426117325:True:=⟨⟩
theorem tw12083557985378659223:True:=⟨⟩
theorem tw5130488200839620262:True:=⟨⟩
theorem tw17885311838994399748:True:=⟨⟩
theorem tw165196554371502605:True:=⟨⟩
theorem tw11263182190087256942:True:=⟨⟩
theorem tw15481483384436870486:True:=⟨⟩
theorem tw7592184753510573496:True:=⟨⟩
theorem tw17459717463121384913:True:=⟨⟩
theorem tw14731755644932021267:True:=⟨⟩
theorem tw18053877278001126661:True:=⟨⟩
theorem tw11235443456807055854:True:=⟨⟩
theorem tw310208033039227557:True:=⟨⟩
theorem tw18007696812702699003:True:=⟨⟩
theorem tw634946210658722885:True:=⟨⟩
theorem tw8477907687414299970:True:=⟨⟩
theorem tw14662180034903710069:True:=⟨⟩
theorem tw7737666782691538246:True:=⟨⟩
theorem tw8766702879858722955:True:=⟨⟩
theorem tw4160992062313560331:True:=⟨⟩
theorem tw1819460689125776428:True:=⟨⟩
theorem tw10334064968806934855:True:=⟨⟩
theorem tw848248140742171285:True:=⟨⟩
theorem tw8716747858448325904:True:=⟨⟩
theorem tw18137452991440562921:True:=⟨⟩
theorem tw2799635002447988781:True:=⟨⟩
theorem tw6149754467313467252:True:=⟨⟩
theorem tw13480769431671757147:True:=⟨⟩
theorem tw3033990700712381977:True:=⟨⟩
theorem tw16627497333103096531:True:=⟨⟩
theorem tw11556059838658608992:True:=⟨⟩
theorem tw16936505682987798106:True:=⟨⟩
theorem tw6339451604709495632:True:=⟨⟩
theorem tw6149110863797465770:True:=⟨⟩
theorem tw15164350707145517645:True:=⟨⟩
theorem tw2250156933207353020:True:=⟨⟩
theorem tw9699825885211408705:True:=⟨⟩
theorem tw1002355514751206873:True:=⟨⟩
theorem tw16553161021354191779:True:=⟨⟩
theorem tw4014354033984363397:True:=⟨⟩
theorem tw4696146628772446485:True:=⟨⟩
theorem tw7205527520998771571:True:=⟨⟩
theorem tw16075631017422800881:True:=⟨⟩
theorem tw6620769692151949829:True:=⟨⟩
theorem tw9926510944987963362:True:=⟨⟩
theorem tw17753635576675857570:True:=⟨⟩
theorem tw1603746108202144561:True:=⟨⟩
theorem tw4045828412422997527:True:=⟨⟩
theorem tw3302811828241562527:True:=⟨⟩
theorem tw12295609558205387954:True:=⟨⟩
theorem tw13741316671415563272:True:=⟨⟩
theorem tw6876474265832511282:True:=⟨⟩
theorem tw3205934803283462503:True:=⟨⟩
theorem tw6424558533789482523:True:=⟨⟩
theorem tw9749931561608153458:True:=⟨⟩
theorem tw9957259411438452053:True:=⟨⟩
theorem tw1784419216224040185:True:=⟨⟩
theorem tw5160035271755376942:True:=⟨⟩
theorem tw7162349552597949383:True:=⟨⟩
theorem tw3331071071362868392:True:=⟨⟩
theorem tw11380824589101803323:True:=⟨⟩
theorem tw17731757130460537456:True:=⟨⟩
theorem tw9377130198324351179:True:=⟨⟩
theorem tw9305182285776388505:True:=⟨⟩
theorem tw1946794151581673708:True:=⟨⟩
theorem tw15223441549362452436:True:=⟨⟩
theorem tw954851587191308546:True:=⟨⟩
theorem tw1739338492905753074:True:=⟨⟩
theorem tw14673906963672308865:True:=⟨⟩
theorem tw7008083234837656407:True:=⟨⟩
theorem tw7645090768729390971:True:=⟨⟩
theorem tw9287649394628908614:True:=⟨⟩
theorem tw15992286593185233306:True:=⟨⟩
theorem tw4319666593099363682:True:=⟨⟩
theorem tw703907361103152552:True:=⟨⟩
theorem tw10811669293486434247:True:=⟨⟩
theorem tw1066194770866903974:True:=⟨⟩
theorem tw1048801407982373122:True:=⟨⟩
theorem tw6090231013953934832:True:=⟨⟩
theorem tw11902321978054086248:True:=⟨⟩
theorem tw8156022004240077688:True:=⟨⟩
theorem tw8255956505872399327:True:=⟨⟩
theorem tw5943901770627797397:True:=⟨⟩
theorem tw9738388016886410828:True:=⟨⟩
theorem tw5247879668520571566:True:=⟨⟩
theorem tw17424243979811044093:True:=⟨⟩
theorem tw4005912590540735942:True:=⟨⟩
theorem tw8473704099229955555:True:=⟨⟩
theorem tw14825374008381327243:True:=⟨⟩
theorem tw15418034666892104900:True:=⟨⟩
theorem tw3686950552062614546:True:=⟨⟩
theorem tw13834148576807862260:True:=⟨⟩
theorem tw17918497671605553618:True:=⟨⟩
theorem tw3527064305944430800:True:=⟨⟩
theorem tw13219561876110758261:True:=⟨⟩
theorem tw5287130140843734606:True:=⟨⟩
theorem tw10057256787765289928:True:=⟨⟩
theorem tw1278620385015165618:True:=⟨⟩
theorem tw8778608399988674412:True:=⟨⟩
theorem tw13492100164831629405:True:=⟨⟩
theorem tw17348947303284196170:True:=⟨⟩
theorem tw8978562280588525748:True:=⟨⟩
theorem tw3963655310755954332:True:=⟨⟩
theorem tw8103902677488500107:True:=⟨⟩
theorem tw14364771077474681194:True:=⟨⟩
theorem tw3431615619518425613:True:=⟨⟩
theorem tw11223381644902649936:True:=⟨⟩
theorem tw12775287566108846410:True:=⟨⟩
theorem tw3438732561523180469:True:=⟨⟩
theorem tw7563556767620738525:True:=⟨⟩
theorem tw8771244677319043940:True:=⟨⟩
theorem tw14616534571207822699:True:=⟨⟩
theorem tw13917853299874866570:True:=⟨⟩
theorem tw839350161220764657:True:=⟨⟩
theorem tw5528066918153842623:True:=⟨⟩
theorem tw3457366087789637031:True:=⟨⟩
theorem tw9477013574727213665:True:=⟨⟩
theorem tw16804129785214755396:True:=⟨⟩
theorem tw13652652038339174702:True:=⟨⟩
theorem tw8241631778863216082:True:=⟨⟩
theorem tw751774891823323696:True:=⟨⟩
theorem tw13623459447815003012:True:=⟨⟩
theorem tw6512571722022220326:True:=⟨⟩
theorem tw15276407786150323930:True:=⟨⟩
theorem tw8422445433156716069:True:=⟨⟩
theorem tw5707635012842302346:True:=⟨⟩
theorem tw11957556891912936430:True:=⟨⟩
theorem tw11644937094300837897:True:=⟨⟩
theorem tw1375521654715012318:True:=⟨⟩
theorem tw7253794575876226054:True:=⟨⟩
theorem tw11929987617661757788:True:=⟨⟩
theorem tw7015602169748524835:True:=⟨⟩
theorem tw14835187563031128993:True:=⟨⟩
theorem tw18304325595971507583:True:=⟨⟩
theorem tw8957916225709802931:True:=⟨⟩
theorem tw4131398864561534229:True:=⟨⟩
theorem tw3177812936684751213:True:=⟨⟩
theorem tw2590934179351523609:True:=⟨⟩
theorem tw11905910606372948646:True:=⟨⟩
theorem tw3506963422907610898:True:=⟨⟩
theorem tw7079869355582713567:True:=⟨⟩
theorem tw15873360095043150195:True:=⟨⟩
theorem tw11407343897929856440:True:=⟨⟩
theorem tw798862789234706540:True:=⟨⟩
theorem tw16275121847315037569:True:=⟨⟩
theorem tw8630512707080553476:True:=⟨⟩
theorem tw7106819044564972886:True:=⟨⟩
theorem tw11787105426114887287:True:=⟨⟩
theorem tw4862895917022539971:True:=⟨⟩
theorem tw10406265035863300148:True:=⟨⟩
theorem tw699177137981749883:True:=⟨⟩
theorem tw17668789543858795009:True:=⟨⟩
theorem tw6669611632502888609:True:=⟨⟩
theorem tw16889994817200966823:True:=⟨⟩
theorem tw6045386034857087281:True:=⟨⟩
theorem tw7741199221548084871:True:=⟨⟩
theorem tw1957270639825423600:True:=⟨⟩
theorem tw6732791593385129897:True:=⟨⟩
theorem tw499127018957398614:True:=⟨⟩
theorem tw12229457671732886934:True:=⟨⟩
theorem tw10591465352188730385:True:=⟨⟩
theorem tw15586870387471886209:True:=⟨⟩
theorem tw2774917323949649601:True:=⟨⟩
theorem tw8117334381046181321:True:=⟨⟩
theorem tw15152509864852659306:True:=⟨⟩
theorem tw14749832038243301179:True:=⟨⟩
theorem tw169158495736322446:True:=⟨⟩
theorem tw4650478129135372583:True:=⟨⟩
theorem tw9258947700221812756:True:=⟨⟩
theorem tw6741563016611564592:True:=⟨⟩
theorem tw8343015123334161849:True:=⟨⟩
theorem tw1922515769823950139:True:=⟨⟩
theorem tw10568863604937393716:True:=⟨⟩
theorem tw3753598983689023155:True:=⟨⟩
theorem tw2368422923655584039:True:=⟨⟩
theorem tw11335632831567484690:True:=⟨⟩
theorem tw5324727459923588078:True:=⟨⟩
theorem tw10264812450944353749:True:=⟨⟩
theorem tw4849380196049061235:True:=⟨⟩
theorem tw1863564397845967290:True:=⟨⟩
theorem tw2667653316337394723:True:=⟨⟩
theorem tw2480292541132443602:True:=⟨⟩
theorem tw1721832015597439810:True:=⟨⟩
theorem tw7678043926907545907:True:=⟨⟩
theorem tw7955812646614761971:True:=⟨⟩
theorem tw17522281399037598967:True:=⟨⟩
theorem tw7370130044254293099:True:=⟨⟩
theorem tw8598105050126540808:True:=⟨⟩
theorem tw15521053990203935371:True:=⟨⟩
theorem tw15078019603171057535:True:=⟨⟩
theorem tw16787318924056431716:True:=⟨⟩
theorem tw6805850687058495351:True:=⟨⟩
theorem tw17622521890430310096:True:=⟨⟩
theorem tw18224127084609576650:True:=⟨⟩
theorem tw12957689605399257734:True:=⟨⟩
theorem tw12917928066600383401:True:=⟨⟩
theorem tw16619691813583653653:True:=⟨⟩
theorem tw6567194622062764516:True:=⟨⟩
theorem tw16675461648291771624:True:=⟨⟩
theorem tw5997708475364623341:True:=⟨⟩
theorem tw4940109078869670607:True:=⟨⟩
theorem tw8613691906425477161:True:=⟨⟩
theorem tw17225171473086383668:True:=⟨⟩
theorem tw5776157696973781418:True:=⟨⟩
theorem tw892432871730719236:True:=⟨⟩
theorem tw7430913067531448261:True:=⟨⟩
theorem tw17182882657110774600:True:=⟨⟩
theorem tw8204394247889353092:True:=⟨⟩
theorem tw3260415173488045356:True:=⟨⟩
theorem tw10792956227606437935:True:=⟨⟩
theorem tw13815150287638280056:True:=⟨⟩
theorem tw12301178569954146301:True:=⟨⟩
theorem tw6152300727224103474:True:=⟨⟩
theorem tw6903433715700080057:True:=⟨⟩
theorem tw11997554172295743489:True:=⟨⟩
theorem tw300454070502804531:True:=⟨⟩
theorem tw9786897495338416122:True:=⟨⟩
theorem tw12018068925814364369:True:=⟨⟩
theorem tw8366892209405916766:True:=⟨⟩
theorem tw14263260905425222912:True:=⟨⟩
theorem tw5829346399612455090:True:=⟨⟩
theorem tw8850960101651742764:True:=⟨⟩
theorem tw3243369447869546129:True:=⟨⟩
theorem tw9955063281708586052:True:=⟨⟩
theorem tw6900626793502897555:True:=⟨⟩
theorem tw8771048737743575622:True:=⟨⟩
theorem tw14796272011149863627:True:=⟨⟩
theorem tw4104448531880727710:True:=⟨⟩
theorem tw11873069542373569707:True:=⟨⟩
theorem tw16527710143551345800:True:=⟨⟩
theorem tw12446092051067585089:True:=⟨⟩
theorem tw4410212504828066491:True:=⟨⟩
theorem tw4953720512111622823:True:=⟨⟩
theorem tw941711057682292556:True:=⟨⟩
theorem tw917905637109174140:True:=⟨⟩
theorem tw10149711483497525597:True:=⟨⟩
theorem tw5397582682440028304:True:=⟨⟩
theorem tw14777574715142843359:True:=⟨⟩
theorem tw12617982231136723876:True:=⟨⟩
theorem tw134069368153681151:True:=⟨⟩
theorem tw11783768653197020453:True:=⟨⟩
theorem tw14077931281977088096:True:=⟨⟩
theorem tw15016998692457075116:True:=⟨⟩
theorem tw6366086710000258961:True:=⟨⟩
theorem tw1113318472715635542:True:=⟨⟩
theorem tw4610599836656655717:True:=⟨⟩
theorem tw5250390547251225819:True:=⟨⟩
theorem tw14395485522533477962:True:=⟨⟩
theorem tw10483328588687152877:True:=⟨⟩
theorem tw3516443929755442592:True:=⟨⟩
theorem tw14305827674279460673:True:=⟨⟩
theorem tw15989299157516699398:True:=⟨⟩
theorem tw14907964105007803921:True:=⟨⟩
theorem tw6545216010404348532:True:=⟨⟩
theorem tw8720481466549988466:True:=⟨⟩
theorem tw2302650091194142243:True:=⟨⟩
theorem tw17680453999369325448:True:=⟨⟩
theorem tw1161524140284998903:True:=⟨⟩
theorem tw5757718010650398755:True:=⟨⟩
theorem tw17974713616532963691:True:=⟨⟩
theorem tw10799418898927239956:True:=⟨⟩
theorem tw17818385055423382284:True:=⟨⟩
theorem tw6691467431251614565:True:=⟨⟩
theorem tw4087768789620771134:True:=⟨⟩
theorem tw18341357577269528124:True:=⟨⟩
theorem tw5337445464315030002:True:=⟨⟩
theorem tw6199317775236966100:True:=⟨⟩
theorem tw2143876972977290526:True:=⟨⟩
theorem tw16976391375370235104:True:=⟨⟩
theorem tw255769211672584831:True:=⟨⟩
theorem tw7894060439328214299:True:=⟨⟩
theorem tw2650759125087456810:True:=⟨⟩
theorem tw17057582504696122392:True:=⟨⟩
theorem tw14757125240935684771:True:=⟨⟩
theorem tw6498517106316051455:True:=⟨⟩
theorem tw2215608600788290283:True:=⟨⟩
theorem tw7168469610500996584:True:=⟨⟩
theorem tw10843321906044482024:True:=⟨⟩
theorem tw2286420700095414158:True:=⟨⟩
theorem tw9357458168928825259:True:=⟨⟩
theorem tw1300229473323751660:True:=⟨⟩
theorem tw8370115675992025392:True:=⟨⟩
theorem tw13029042868086343484:True:=⟨⟩
theorem tw18131433749174287725:True:=⟨⟩
theorem tw5254843573840696483:True:=⟨⟩
end PySem.W.Fast
open PySem PySem.W PyProof.Rows
set_option maxRecDepth 100000 in
set_option maxHeartbeats 0 in
theorem PySem.Challenge.cw_pageturns_k46_keepers_fed_holds : PySem.Challenge.rw_pageturns_k46_keepers_fed.Holds := by
 w_on;o_law;k_head;(case hw=>w_witness2)
 k_fill
 refine L2.FO (l:=PySem.Challenge.rw_pageturns_k46_keepers_fed) (n:=63) (k:=20) (x := "_law_script") (CX:=L2.Su) rfl (by decide) rfl ⟨rfl,by decide,by decide⟩ (fun w h Y=>PySem.W.km_in_of Y) (fun w h Y=>PySem.W.km_tabs_of Y) (fun w h Y=>L2.Jj Y (by decide +kernel)) ?tF fun _ _ _ _ z=>z
 intro w mg fa h KX G MJ
 refine My.Ol MJ ?_
 refine' L2.Ya KX G "Shelf" ?a1 ?b1 ?c1 ?d1 ?e1 ?f1 ?g1 fun Ke ah Kf k_Shelf=>?z1
 (case a1 | b1 | c1 | d1 | e1 | f1 | g1=>k_is)
 refine' L2.Ya KX G "Keeper" ?a2 ?b2 ?c2 ?d2 ?e2 ?f2 ?g2 fun Hs aT Ht k_Keeper=>?z2
 (case a2 | b2 | c2 | d2 | e2 | f2 | g2=>k_is)
 refine' L2.fV KX G "is_whole" My.kI ["thing"] ?a3 ?b3 ?c3 ?d3 ?e3 fun d0 F0=>?z3
 (case a3 | b3 | c3 | d3=>k_is)
 (case e3=>exact L2.pq fun _=>rfl)
 refine' L2.fV KX G "is_letter" My.jb ["sign"] ?a4 ?b4 ?c4 ?d4 ?e4 fun d1 F1=>?z4
 (case a4 | b4 | c4 | d4=>k_is)
 (case e4=>exact L2.pq fun _=>rfl)
 refine' L2.fV KX G "is_figure" My.jc ["sign"] ?a5 ?b5 ?c5 ?d5 ?e5 fun d2 F2=>?z5
 (case a5 | b5 | c5 | d5=>k_is)
 (case e5=>exact L2.pq fun _=>rfl)
 refine' L2.fV KX G "is_name" My.jN ["thing"] ?a6 ?b6 ?c6 ?d6 ?e6 fun d3 F3=>?z6
 (case a6 | b6 | c6 | d6=>k_is)
 (case e6=>exact L2.pq fun _=>rfl)
 refine' L2.fV KX G "is_key" My.lS ["thing"] ?a7 ?b7 ?c7 ?d7 ?e7 fun d4 F4=>?z7
 (case a7 | b7 | c7 | d7=>k_is)
 (case e7=>exact L2.pq fun _=>rfl)
 refine' L2.fV KX G "is_word" My.jO ["thing"] ?a8 ?b8 ?c8 ?d8 ?e8 fun d5 F5=>?z8
 (case a8 | b8 | c8 | d8=>k_is)
 (case e8=>exact L2.pq fun _=>rfl)
 refine' L2.fV KX G "is_kind" My.mU ["thing"] ?a9 ?b9 ?c9 ?d9 ?e9 fun d6 F6=>?z9
 (case a9 | b9 | c9 | d9=>k_is)
 (case e9=>exact L2.pq fun _=>rfl)
 refine' L2.fV KX G "is_value" My.kJ ["kind", "thing"] ?a10 ?b10 ?c10 ?d10 ?e10 fun d7 F7=>?z10
 (case a10 | b10 | c10 | d10=>k_is)
 (case e10=>exact L2.ln2 fun _ _=>rfl)
 refine' L2.fV KX G "check_columns" My.dk ["columns"] ?a11 ?b11 ?c11 ?d11 ?e11 fun d8 F8=>?z11
 (case a11 | b11 | c11 | d11=>k_is)
 (case e11=>exact L2.pq fun _=>rfl)
 refine' L2.fV KX G "is_column" My.jd ["thing"] ?a12 ?b12 ?c12 ?d12 ?e12 fun d9 F9=>?z12
 (case a12 | b12 | c12 | d12=>k_is)
 (case e12=>exact L2.pq fun _=>rfl)
 refine' L2.fV KX G "names_of" My.iq ["columns"] ?a13 ?b13 ?c13 ?d13 ?e13 fun d10 F10=>?z13
 (case a13 | b13 | c13 | d13=>k_is)
 (case e13=>exact L2.pq fun _=>rfl)
 refine' L2.fV KX G "kind_named" My.ir ["columns", "name"] ?a14 ?b14 ?c14 ?d14 ?e14 fun d11 F11=>?z14
 (case a14 | b14 | c14 | d14=>k_is)
 (case e14=>exact L2.ln2 fun _ _=>rfl)
 refine' L2.fV KX G "check_row" My.je ["columns", "row"] ?a15 ?b15 ?c15 ?d15 ?e15 fun d12 TF=>?z15
 (case a15 | b15 | c15 | d15=>k_is)
 (case e15=>exact L2.ln2 fun _ _=>rfl)
 refine' L2.fV KX G "are_worths" My.fq ["columns", "thing"] ?a16 ?b16 ?c16 ?d16 ?e16 fun d13 F13=>?z16
 (case a16 | b16 | c16 | d16=>k_is)
 (case e16=>exact L2.ln2 fun _ _=>rfl)
 refine' L2.fV KX G "value_in" My.kK ["columns", "row", "name"] ?a17 ?b17 ?c17 ?d17 ?e17 fun d14 F14=>?z17
 (case a17 | b17 | c17 | d17=>k_is)
 (case e17=>exact L2.v9 fun _ _ _=>rfl)
 refine' L2.fV KX G "is_way" My.qg ["thing"] ?a18 ?b18 ?c18 ?d18 ?e18 fun d15 F15=>?z18
 (case a18 | b18 | c18 | d18=>k_is)
 (case e18=>exact L2.pq fun _=>rfl)
 refine' L2.fV KX G "is_end" My.qh ["thing"] ?a19 ?b19 ?c19 ?d19 ?e19 fun d16 F16=>?z19
 (case a19 | b19 | c19 | d19=>k_is)
 (case e19=>exact L2.pq fun _=>rfl)
 refine' L2.fV KX G "check_order" My.cY ["columns", "order"] ?a20 ?b20 ?c20 ?d20 ?e20 fun d17 F17=>?z20
 (case a20 | b20 | c20 | d20=>k_is)
 (case e20=>exact L2.ln2 fun _ _=>rfl)
 refine' L2.fV KX G "is_part" My.mV ["columns", "thing"] ?a21 ?b21 ?c21 ?d21 ?e21 fun d18 F18=>?z21
 (case a21 | b21 | c21 | d21=>k_is)
 (case e21=>exact L2.ln2 fun _ _=>rfl)
 refine' L2.fV KX G "check_sieve" My.eR ["columns", "sieve"] ?a22 ?b22 ?c22 ?d22 ?e22 fun d19 F19=>?z22
 (case a22 | b22 | c22 | d22=>k_is)
 (case e22=>exact L2.ln2 fun _ _=>rfl)
 refine' L2.fV KX G "is_formed" My.f_ ["columns", "thing"] ?a23 ?b23 ?c23 ?d23 ?e23 fun d20 F20=>?z23
 (case a23 | b23 | c23 | d23=>k_is)
 (case e23=>exact L2.ln2 fun _ _=>rfl)
 refine' L2.fV KX G "is_short_tuple" My.eI ["thing"] ?a24 ?b24 ?c24 ?d24 ?e24 fun d21 F21=>?z24
 (case a24 | b24 | c24 | d24=>k_is)
 (case e24=>exact L2.pq fun _=>rfl)
 refine' L2.fV KX G "fits_column" My.gD ["columns", "sieve"] ?a25 ?b25 ?c25 ?d25 ?e25 fun d22 F22=>?z25
 (case a25 | b25 | c25 | d25=>k_is)
 (case e25=>exact L2.ln2 fun _ _=>rfl)
 refine' L2.fV KX G "sieves_within" My.e_ ["sieves"] ?a26 ?b26 ?c26 ?d26 ?e26 fun d23 F23=>?z26
 (case a26 | b26 | c26 | d26=>k_is)
 (case e26=>exact L2.pq fun _=>rfl)
 refine' L2.fV KX G "passes" My.jf ["columns", "sieve", "row"] ?a27 ?b27 ?c27 ?d27 ?e27 fun d24 F24=>?z27
 (case a27 | b27 | c27 | d27=>k_is)
 (case e27=>exact L2.v9 fun _ _ _=>rfl)
 refine' L2.fV KX G "value_passes" My.fK ["word", "value", "told"] ?a28 ?b28 ?c28 ?d28 ?e28 fun d25 F25=>?z28
 (case a28 | b28 | c28 | d28=>k_is)
 (case e28=>exact L2.v9 fun _ _ _=>rfl)
 refine' L2.fnd KX G "plain" My.uu ["shelf", "order", "sieve", "moment"] ?a29 ?b29 ?c29 ?d29 ?e29 ?f29 ?g29 fun d26 F26 D26=>?z29
 (case a29 | b29 | c29 | d29 | e29=>k_is)
 (case f29=>intro s us t;revert us;exact L2.Wj fun _ _ _ _=>.of_defaults rfl t rfl rfl rfl)
 (case g29=>intro s us t;revert us;exact L2.Wm fun _ _ _=>.of_defaults rfl t rfl rfl rfl)
 refine' L2.fV KX G "ordered_answer" My.eJ ["shelf", "order", "sieve", "moment"] ?a30 ?b30 ?c30 ?d30 ?e30 fun d27 F27=>?z30
 (case a30 | b30 | c30 | d30=>k_is)
 (case e30=>exact L2.Wj fun _ _ _ _=>rfl)
 refine' L2.fV KX G "rows_passing" My.dP ["shelf", "sieve", "moment"] ?a31 ?b31 ?c31 ?d31 ?e31 fun d28 F28=>?z31
 (case a31 | b31 | c31 | d31=>k_is)
 (case e31=>exact L2.v9 fun _ _ _=>rfl)
 refine' L2.fV KX G "in_order" My.kM ["columns", "order", "rows"] ?a32 ?b32 ?c32 ?d32 ?e32 fun d29 F29=>?z32
 (case a32 | b32 | c32 | d32=>k_is)
 (case e32=>exact L2.v9 fun _ _ _=>rfl)
 refine' L2.Wi KX G "sorted_by_keys" My.bV ["rows", "way"] ?a33 ?b33 ?c33 ?d33 ?e33 fun d30 e30 B30 F30=>?z33
 (case a33 | b33 | c33 | d33=>k_is)
 (case e33=>exact L2.ln2 fun _ _=>rfl)
 refine' L2.fV KX G "sorted_by_part" My.bW ["columns", "part", "rows"] ?a34 ?b34 ?c34 ?d34 ?e34 fun d31 F31=>?z34
 (case a34 | b34 | c34 | d34=>k_is)
 (case e34=>exact L2.v9 fun _ _ _=>rfl)
 refine' L2.Wi KX G "sorted_by_values" My.bG ["columns", "part", "rows"] ?a35 ?b35 ?c35 ?d35 ?e35 fun d32 e32 B32 F32=>?z35
 (case a35 | b35 | c35 | d35=>k_is)
 (case e35=>exact L2.v9 fun _ _ _=>rfl)
 refine' L2.fV KX G "check_deed" My.iu ["deed"] ?a36 ?b36 ?c36 ?d36 ?e36 fun d33 F33=>?z36
 (case a36 | b36 | c36 | d36=>k_is)
 (case e36=>exact L2.pq fun _=>rfl)
 refine' L2.fV KX G "do_deed" My.mW ["shelf", "deed"] ?a37 ?b37 ?c37 ?d37 ?e37 fun d34 F34=>?z37
 (case a37 | b37 | c37 | d37=>k_is)
 (case e37=>exact L2.ln2 fun _ _=>rfl)
 refine' L2.fV KX G "worths_then" My.gE ["standings", "moment"] ?a38 ?b38 ?c38 ?d38 ?e38 fun d35 F35=>?z38
 (case a38 | b38 | c38 | d38=>k_is)
 (case e38=>exact L2.ln2 fun _ _=>rfl)
 refine' L2.fV KX G "_law_cell_at" My.jg ["_law_script", "_law_k"] ?a39 ?b39 ?c39 ?d39 ?e39 fun d36 F36=>?z39
 (case a39 | b39 | c39 | d39=>k_is)
 (case e39=>exact L2.ln2 fun _ _=>rfl)
 refine' L2.fV KX G "_law_well" My.qj ["_law_cell"] ?a40 ?b40 ?c40 ?d40 ?e40 fun d37 F37=>?z40
 (case a40 | b40 | c40 | d40=>k_is)
 (case e40=>exact L2.pq fun _=>rfl)
 refine' L2.fV KX G "_law_draw" My.qk ["_law_well_here", "_law_most"] ?a41 ?b41 ?c41 ?d41 ?e41 fun d38 F38=>?z41
 (case a41 | b41 | c41 | d41=>k_is)
 (case e41=>exact L2.ln2 fun _ _=>rfl)
 refine' L2.fV KX G "_law_columns" My.jh ["_law_well_here"] ?a42 ?b42 ?c42 ?d42 ?e42 fun d39 F39=>?z42
 (case a42 | b42 | c42 | d42=>k_is)
 (case e42=>exact L2.pq fun _=>rfl)
 refine' L2.fV KX G "_law_value" My.mX ["_law_well_here", "_law_kind"] ?a43 ?b43 ?c43 ?d43 ?e43 fun d40 F40=>?z43
 (case a43 | b43 | c43 | d43=>k_is)
 (case e43=>exact L2.ln2 fun _ _=>rfl)
 refine' L2.fV KX G "_law_worths" My.iw ["_law_well_here", "_law_columns_here"] ?a44 ?b44 ?c44 ?d44 ?e44 fun d41 F41=>?z44
 (case a44 | b44 | c44 | d44=>k_is)
 (case e44=>exact L2.ln2 fun _ _=>rfl)
 refine' L2.fV KX G "_law_key" My.uv ["_law_well_here"] ?a45 ?b45 ?c45 ?d45 ?e45 fun d42 F42=>?z45
 (case a45 | b45 | c45 | d45=>k_is)
 (case e45=>exact L2.pq fun _=>rfl)
 refine' L2.fV KX G "_law_order" My.mY ["_law_well_here", "_law_columns_here"] ?a46 ?b46 ?c46 ?d46 ?e46 fun d43 F43=>?z46
 (case a46 | b46 | c46 | d46=>k_is)
 (case e46=>exact L2.ln2 fun _ _=>rfl)
 refine' L2.fV KX G "_law_deed" My.ql ["_law_well_here", "_law_columns_here", "_law_known_here"] ?a47 ?b47 ?c47 ?d47 ?e47 fun d44 F44=>?z47
 (case a47 | b47 | c47 | d47=>k_is)
 (case e47=>exact L2.v9 fun _ _ _=>rfl)
 refine' L2.fV KX G "_law_known" My.mZ ["_law_known_here", "_law_deed_here"] ?a48 ?b48 ?c48 ?d48 ?e48 fun d45 F45=>?z48
 (case a48 | b48 | c48 | d48=>k_is)
 (case e48=>exact L2.ln2 fun _ _=>rfl)
 refine' L2.fV KX G "_law_at" My.uw ["_law_columns_here", "_law_row", "_law_name"] ?a49 ?b49 ?c49 ?d49 ?e49 fun d46 F46=>?z49
 (case a49 | b49 | c49 | d49=>k_is)
 (case e49=>exact L2.v9 fun _ _ _=>rfl)
 refine' L2.fV KX G "_law_before" My.kN ["_law_columns_here", "_law_order_here", "_law_one", "_law_other"] ?a50 ?b50 ?c50 ?d50 ?e50 fun d47 F47=>?z50
 (case a50 | b50 | c50 | d50=>k_is)
 (case e50=>exact L2.Wj fun _ _ _ _=>rfl)
 refine' L2.fV KX G "_law_sorted" My.iy ["_law_columns_here", "_law_order_here", "_law_rows"] ?a51 ?b51 ?c51 ?d51 ?e51 fun d48 F48=>?z51
 (case a51 | b51 | c51 | d51=>k_is)
 (case e51=>exact L2.v9 fun _ _ _=>rfl)
 refine' L2.Wi KX G "law" My.v_ ["_law_script"] ?a52 ?b52 ?c52 ?d52 ?e52 fun d49 e49 B49 F49=>?z52
 (case a52 | b52 | c52 | d52=>k_is)
 (case e52=>exact L2.pq fun _=>rfl)
 refine' L2.C3 ah "__init__" "Shelf.__init__" ((L2.inClass My.aA 0)) ["self", "columns"] ?a53 ?b53 ?c53 ?d53 ?e53 ?f53 fun d50 Xh=>?z53
 (case a53 | b53 | c53 | d53 | e53=>k_is)
 (case f53=>exact L2.ln2 fun _ _=>rfl)
 refine' L2.C3 ah "put" "Shelf.put" ((L2.inClass My.aA 1)) ["self", "key", "worths"] ?a54 ?b54 ?c54 ?d54 ?e54 ?f54 fun d51 F51=>?z54
 (case a54 | b54 | c54 | d54 | e54=>k_is)
 (case f54=>exact L2.v9 fun _ _ _=>rfl)
 refine' L2.C3 ah "change" "Shelf.change" ((L2.inClass My.aA 2)) ["self", "key", "worths"] ?a55 ?b55 ?c55 ?d55 ?e55 ?f55 fun d52 F52=>?z55
 (case a55 | b55 | c55 | d55 | e55=>k_is)
 (case f55=>exact L2.v9 fun _ _ _=>rfl)
 refine' L2.C3 ah "take" "Shelf.take" ((L2.inClass My.aA 3)) ["self", "key"] ?a56 ?b56 ?c56 ?d56 ?e56 ?f56 fun d53 F53=>?z56
 (case a56 | b56 | c56 | d56 | e56=>k_is)
 (case f56=>exact L2.ln2 fun _ _=>rfl)
 refine' L2.C3 ah "check_stands" "Shelf.check_stands" ((L2.inClass My.aA 4)) ["self", "key"] ?a57 ?b57 ?c57 ?d57 ?e57 ?f57 fun d54 F54=>?z57
 (case a57 | b57 | c57 | d57 | e57=>k_is)
 (case f57=>exact L2.ln2 fun _ _=>rfl)
 refine' L2.C3 ah "begin_standing" "Shelf.begin_standing" ((L2.inClass My.aA 5)) ["self", "key", "worths"] ?a58 ?b58 ?c58 ?d58 ?e58 ?f58 fun d55 F55=>?z58
 (case a58 | b58 | c58 | d58 | e58=>k_is)
 (case f58=>exact L2.v9 fun _ _ _=>rfl)
 refine' L2.C3 ah "end_standing" "Shelf.end_standing" ((L2.inClass My.aA 6)) ["self", "key"] ?a59 ?b59 ?c59 ?d59 ?e59 ?f59 fun d56 F56=>?z59
 (case a59 | b59 | c59 | d59 | e59=>k_is)
 (case f59=>exact L2.ln2 fun _ _=>rfl)
 refine' L2.C3 ah "has_columns" "Shelf.has_columns" ((L2.inClass My.aA 7)) ["self"] ?a60 ?b60 ?c60 ?d60 ?e60 ?f60 fun d57 F57=>?z60
 (case a60 | b60 | c60 | d60 | e60=>k_is)
 (case f60=>exact L2.pq fun _=>rfl)
 refine' L2.C3 ah "now" "Shelf.now" ((L2.inClass My.aA 8)) ["self"] ?a61 ?b61 ?c61 ?d61 ?e61 ?f61 fun d58 F58=>?z61
 (case a61 | b61 | c61 | d61 | e61=>k_is)
 (case f61=>exact L2.pq fun _=>rfl)
 refine' L2.X_ ah "worths_at" "Shelf.worths_at" ((L2.inClass My.aA 9)) ["self", "key", "moment"] ?a62 ?b62 ?c62 ?d62 ?e62 ?f62 ?g62 ?h62 fun d59 F59 D59=>?z62
 (case a62 | b62 | c62 | d62 | e62 | f62=>k_is)
 (case g62=>intro s us t;revert us;exact L2.v9 fun _ _ _=>.of_defaults rfl t rfl rfl rfl)
 (case h62=>intro s us t;revert us;exact L2.Wl fun _ _=>.of_defaults rfl t rfl rfl rfl)
 refine' L2.X_ ah "all_at" "Shelf.all_at" ((L2.inClass My.aA 10)) ["self", "moment"] ?a63 ?b63 ?c63 ?d63 ?e63 ?f63 ?g63 ?h63 fun d60 F60 D60=>?z63
 (case a63 | b63 | c63 | d63 | e63 | f63=>k_is)
 (case g63=>intro s us t;revert us;exact L2.ln2 fun _ _=>.of_defaults rfl t rfl rfl rfl)
 (case h63=>intro s us t;revert us;exact L2.Wk fun _=>.of_defaults rfl t rfl rfl rfl)
 refine' L2.C3 ah "moment_meant" "Shelf.moment_meant" ((L2.inClass My.aA 13)) ["self", "moment"] ?a64 ?b64 ?c64 ?d64 ?e64 ?f64 fun d61 F61=>?z64
 (case a64 | b64 | c64 | d64 | e64=>k_is)
 (case f64=>exact L2.ln2 fun _ _=>rfl)
 refine' L2.C3 aT "__init__" "Keeper.__init__" ((L2.inClass My.dQ 0)) ["self", "columns", "order"] ?a65 ?b65 ?c65 ?d65 ?e65 ?f65 fun d62 Xi=>?z65
 (case a65 | b65 | c65 | d65 | e65=>k_is)
 (case f65=>exact L2.v9 fun _ _ _=>rfl)
 refine' L2.C3 aT "feed" "Keeper.feed" ((L2.inClass My.dQ 1)) ["self", "deed"] ?a66 ?b66 ?c66 ?d66 ?e66 ?f66 fun d63 F63=>?z66
 (case a66 | b66 | c66 | d66 | e66=>k_is)
 (case f66=>exact L2.ln2 fun _ _=>rfl)
 refine' L2.C3 aT "all_rows" "Keeper.all_rows" ((L2.inClass My.dQ 2)) ["self"] ?a67 ?b67 ?c67 ?d67 ?e67 ?f67 fun d64 F64=>?z67
 (case a67 | b67 | c67 | d67 | e67=>k_is)
 (case f67=>exact L2.pq fun _=>rfl)
 refine' L2.K8 KX G "MOST_NAME_SIGNS" 8 ?a68 fun mB=>?z68
 (case a68=>k_is)
 refine' L2.K8 KX G "MOST_KEY_SIGNS" 12 ?a69 fun nO=>?z69
 (case a69=>k_is)
 refine' L2.K8 KX G "MOST_WORD_SIGNS" 40 ?a70 fun mC=>?z70
 (case a70=>k_is)
 refine' L2.K8 KX G "MOST_COLUMNS" 8 ?a71 fun qY=>?z71
 (case a71=>k_is)
 refine' L2.K8 KX G "MOST_PARTS_orders" 8 ?a72 fun kh=>?z72
 (case a72=>k_is)
 refine' L2.K8 KX G "MOST_DEEP" 8 ?a73 fun xo=>?z73
 (case a73=>k_is)
 refine' L2.K8 KX G "MOST_PARTS_sieves" 200 ?a74 fun ki=>?z74
 (case a74=>k_is)
 refine' L2.K8 KX G "MOST_IN_A_TUPLE" 8 ?a75 fun mD=>?z75
 (case a75=>k_is)
 refine' L2.Rx KX G "KINDS" ?a76 ?b76 fun Kg w_KINDS=>?z76
 (case a76 | b76=>k_is)
 refine' L2.Rx KX G "OTHER_WAY" ?a77 ?b77 fun xp w_OTHER_WAY=>?z77
 (case a77 | b77=>k_is)
 refine' L2.Rx KX G "OTHER_END" ?a78 ?b78 fun xq w_OTHER_END=>?z78
 (case a78 | b78=>k_is)
 refine' L2.Rx KX G "LENGTHS_sieves" ?a79 ?b79 fun nQ w_LENGTHS_sieves=>?z79
 (case a79 | b79=>k_is)
 refine' L2.Rx KX G "LENGTHS_deeds" ?a80 ?b80 fun oY w_LENGTHS_deeds=>?z80
 (case a80 | b80=>k_is)
 refine' L2.xw KX G "len" ?a81 fun R4=>?z81
 (case a81=>k_is)
 refine' L2.xw KX G "all" ?a82 fun R5=>?z82
 (case a82=>k_is)
 refine' L2.xw KX G "any" ?a83 fun R6=>?z83
 (case a83=>k_is)
 refine' L2.xw KX G "isinstance" ?a84 fun vf=>?z84
 (case a84=>k_is)
 refine' L2.xw KX G "range" ?a85 fun Kh=>?z85
 (case a85=>k_is)
 refine' L2.xw KX G "int" ?a86 fun R7=>?z86
 (case a86=>k_is)
 refine' L2.xw KX G "str" ?a87 fun R8=>?z87
 (case a87=>k_is)
 refine' L2.xw KX G "bool" ?a88 fun Om=>?z88
 (case a88=>k_is)
 refine' L2.xw KX G "tuple" ?a89 fun Ki=>?z89
 (case a89=>k_is)
 refine' L2.xw KX G "list" ?a90 fun Oo=>?z90
 (case a90=>k_is)
 refine' L2.xw KX G "dict" ?a91 fun Oq=>?z91
 (case a91=>k_is)
 refine' L2.xw KX G "set" ?a92 fun R9=>?z92
 (case a92=>k_is)
 refine' L2.xw KX G "zip" ?a93 fun R_=>?z93
 (case a93=>k_is)
 refine' L2.xw KX G "sorted" ?a94 fun Hu=>?z94
 (case a94=>k_is)
 refine' L2.xw KX G "min" ?a95 fun Sa=>?z95
 (case a95=>k_is)
 refine' L2.xw KX G "reversed" ?a96 fun AX=>?z96
 (case a96=>k_is)
 refine' L2.K9 KX G "BadColumns" ?a97 ?b97 fun vg dW=>?z97
 (case a97=>k_is)
 (case b97=>k_exc)
 refine' L2.K9 KX G "BadRow" ?a98 ?b98 fun Hv g7=>?z98
 (case a98=>k_is)
 (case b98=>k_exc)
 refine' L2.K9 KX G "BadOrder" ?a99 ?b99 fun AY dD=>?z99
 (case a99=>k_is)
 (case b99=>k_exc)
 refine' L2.K9 KX G "BadSieve" ?a100 ?b100 fun AZ iC=>?z100
 (case a100=>k_is)
 (case b100=>k_exc)
 refine' L2.K9 KX G "HasKey" ?a101 ?b101 fun Hw qy=>?z101
 (case a101=>k_is)
 (case b101=>k_exc)
 refine' L2.K9 KX G "NoKey" ?a102 ?b102 fun Kj uL=>?z102
 (case a102=>k_is)
 (case b102=>k_exc)
 refine' L2.K9 KX G "NoMoment" ?a103 ?b103 fun A0 kU=>?z103
 (case a103=>k_is)
 (case b103=>k_exc)
 refine' L2.K9 KX G "BadDeed" ?a104 ?b104 fun Ee jW=>?z104
 (case a104=>k_is)
 (case b104=>k_exc)
 refine' L2.Ry ah "columns" ?a105 fun oZ=>?z105
 (case a105=>k_is)
 refine' L2.Ry ah "deeds" ?a106 fun sE=>?z106
 (case a106=>k_is)
 refine' L2.Ry ah "runs" ?a107 fun vh=>?z107
 (case a107=>k_is)
 refine' L2.Ry aT "shelf" ?a108 fun qZ=>?z108
 (case a108=>k_is)
 refine' L2.Ry aT "order" ?a109 fun q8=>?z109
 (case a109=>k_is)
 refine' L2.Yb KX e30 ?a110 ?b110 ?c110 fun nR=>?z110
 (case a110=>k_is)
 (case b110=>rfl)
 (case c110=>first | rfl | decide | simp [codeHdIn])
 refine' L2.Yb KX e32 ?a111 ?b111 ?c111 fun lB=>?z111
 (case a111=>k_is)
 (case b111=>rfl)
 (case c111=>first | rfl | decide | simp [codeHdIn])
 exact⟨⟨_,_,_,_,_,_,_,_,_,_,_,_,_,_,_,_,_,_,_,_,_,_,_,_,_,_,_,_,_,_,_,_,_,_,_,_,_,_,_,_,_,_,_,_,_,_,_,_,_,_,_,_,_,_,_,_,_,_,_,_,_,_,_,_,_,_,_,_,_,_,_,_,_,_,_,_,_,_,_,_,_,_,_,_,_,_,_,_,_,_,_,_,_,_,_,_,_,_,_,_,_,_,_,_,_,_,_,_,_,_,_,_,_,_,_,_,_,_,_,_,_,_,_,_,_,_,_,_,_,_,_,_,_,_,_,_,_,_,_,_,_,_,_,_,_,_,_,_,_,_,_,_,_,_,_,_,_,_⟩,rfl,⟨F0,F1,F2,F3,F4,F5,F6,F7,F8,F9,F10,F11,TF,F13,F14,F15,F16,F17,F18,F19,F20,F21,F22,F23,F24,F25,F26,D26,F27,F28,F29,F30,F31,F32,F33,F34,F35,F36,F37,F38,F39,F40,F41,F42,F43,F44,F45,F46,F47,F48,F49,Xh,F51,F52,F53,F54,F55,F56,F57,F58,F59,D59,F60,D60,F61,Xi,F63,F64,mB,nO,mC,qY,kh,xo,ki,mD,Kg,fun H=>L2.KH (xs:=[.str "number",.str "word"]) ⟨_,_,_,w_KINDS,rfl,rfl,(by rw[zR];show 2≤16777216;decide),.cons ⟨_,rfl⟩ (.cons ⟨_,rfl⟩ (.nil))⟩ (L2.t9 ["number", "word"]),xp,⟨by first | rfl | decide,_,_,_,w_OTHER_WAY,⟨rfl,rfl,rfl⟩,rfl,.cons ⟨rfl,⟨_,rfl⟩,⟨_,rfl⟩⟩ (.cons ⟨rfl,⟨_,rfl⟩,⟨_,rfl⟩⟩ (.nil)),by decide +kernel⟩,xq,⟨by first | rfl | decide,_,_,_,w_OTHER_END,⟨rfl,rfl,rfl⟩,rfl,.cons ⟨rfl,⟨_,rfl⟩,⟨_,rfl⟩⟩ (.cons ⟨rfl,⟨_,rfl⟩,⟨_,rfl⟩⟩ (.nil)),by decide +kernel⟩,nQ,⟨by first | rfl | decide,_,_,_,w_LENGTHS_sieves,⟨rfl,rfl,rfl⟩,rfl,.cons ⟨rfl,⟨_,rfl⟩,⟨_,rfl⟩⟩ (.cons ⟨rfl,⟨_,rfl⟩,⟨_,rfl⟩⟩ (.cons ⟨rfl,⟨_,rfl⟩,⟨_,rfl⟩⟩ (.cons ⟨rfl,⟨_,rfl⟩,⟨_,rfl⟩⟩ (.cons ⟨rfl,⟨_,rfl⟩,⟨_,rfl⟩⟩ (.cons ⟨rfl,⟨_,rfl⟩,⟨_,rfl⟩⟩ (.cons ⟨rfl,⟨_,rfl⟩,⟨_,rfl⟩⟩ (.cons ⟨rfl,⟨_,rfl⟩,⟨_,rfl⟩⟩ (.cons ⟨rfl,⟨_,rfl⟩,⟨_,rfl⟩⟩ (.nil))))))))),by decide +kernel⟩,oY,⟨by first | rfl | decide,_,_,_,w_LENGTHS_deeds,⟨rfl,rfl,rfl⟩,rfl,.cons ⟨rfl,⟨_,rfl⟩,⟨_,rfl⟩⟩ (.cons ⟨rfl,⟨_,rfl⟩,⟨_,rfl⟩⟩ (.cons ⟨rfl,⟨_,rfl⟩,⟨_,rfl⟩⟩ (.nil))),by decide +kernel⟩,R4,R5,R6,vf,Kh,R7,R8,Om,Ki,Oo,Oq,R9,R_,Hu,Sa,AX,vg,dW,Hv,g7,AY,dD,AZ,iC,Hw,qy,Kj,uL,A0,kU,Ee,jW,Ke,ah,⟨Kf,Xh.e.at_,Xh.e.fn,k_Shelf⟩,oZ,sE,vh,Hs,aT,⟨Ht,Xi.e.at_,Xi.e.fn,k_Keeper⟩,qZ,q8,e30,nR,by simp,e32,lB,by simp,by simp,by simp,fun s v=>B49 s [v] rfl⟩⟩
