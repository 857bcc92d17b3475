import PyProof.Rows.All
import Wide.All
import OpenK.AllK
import Wide.FinOn
import Lean
import PyProof.EqAt
import PyProof.EqKinds
import PyProof.TupleCall
import PyProof.NsDelKeeps
import KE.KIsBytes
import PyProof.Rows.SetFrom
import KE.KDictOf
import PyProof.AttrMissSeq
import PyProof.WalksMore
import PyProof.ZipIter
import PyProof.StrBlock2
import PyProof.StrBlockI
import PyProof.Rows.StrJoin2
import PyProof.Rows.CountFlat
import PyProof.Rows.Range3
import PyProof.SumWalkG
import PyProof.Rows.ListMulArg
import PyProof.FactsAll.tuple
import PyProof.EnumFor
import PyProof.EnumMake
import KE.KDictLaws
import KE.KDictSum
import KE.KRevIter
import PyProof.Rows.SortStr
import PyProof.Rows.SortWalk
import PyProof.AutoListH
import PyProof.StrLawsReplace
import PyProof.Rows.SortShellK
import KE.KLam
import KE.KSortKey
import KE.KNestM
import PyProof.EnumStmt
import PyProof.ListMulRoad
import PySem.Challenge.RW_pageturns_k21_whole_plain_answers
set_option compiler.extract_closed false
set_option Elab.async false
set_option linter.all false
set_option maxRecDepth 100000
open PySem.W (instObj methodObj hideAll hideAll_get of_hideAll lookIn plainGet hasDictIn findIn handedIn plainGet_of isFn plainOver takerIn makesIn emptyDict specialIn keepIn mroIn kitOne kia_one kitx_list fnOf codeIn excIn callWith_K methodCall_KW envX kla_fn codeHdIn tabObj codeHd_of_K nsIn mg_of)
theorem za:type_of% @PySem.wpAny_bind:=@PySem.wpAny_bind
theorem zb:type_of% @List.length_map:=@List.length_map
theorem zc:type_of% @PySem.Heap.get?_push_of_some:=@PySem.Heap.get?_push_of_some
theorem zd:type_of% @Bool.false_ne_true:=@Bool.false_ne_true
theorem ze:type_of% @List.mem_map:=@List.mem_map
theorem zf:type_of% @List.mem_cons:=@List.mem_cons
theorem zg:type_of% @List.getElem?_eq_getElem:=@List.getElem?_eq_getElem
theorem zh:type_of% @List.mem_cons_of_mem:=@List.mem_cons_of_mem
theorem zi:type_of% @PySem.wpAny_pure:=@PySem.wpAny_pure
theorem zj:type_of% @List.size_toArray:=@List.size_toArray
theorem zk:type_of% @Nat.lt_of_lt_of_le:=@Nat.lt_of_lt_of_le
theorem zl:type_of% @Nat.le_refl:=@Nat.le_refl
theorem zm:type_of% @PySem.Heap.get?_push_size:=@PySem.Heap.get?_push_size
theorem zo:type_of% @List.getElem?_eq_some_iff:=@List.getElem?_eq_some_iff
theorem zp:type_of% @List.getElem?_map:=@List.getElem?_map
theorem zq:type_of% @PySem.Heap.lt_size:=@PySem.Heap.lt_size
theorem zr:type_of% @decide_eq_false:=@decide_eq_false
theorem zt:type_of% @List.map_map:=@List.map_map
theorem zu:type_of% @decide_eq_true:=@decide_eq_true
theorem zw:type_of% @Nat.ne_of_lt:=@Nat.ne_of_lt
theorem zx:type_of% @List.mem_cons_self:=@List.mem_cons_self
theorem zy:type_of% @List.length_append:=@List.length_append
theorem zA:type_of% @List.mem_append_right:=@List.mem_append_right
theorem zB:type_of% @List.map_cons:=@List.map_cons
theorem zC:type_of% @List.getD_eq_getElem?_getD:=@List.getD_eq_getElem?_getD
theorem zD:type_of% @List.map_append:=@List.map_append
theorem zE:type_of% @of_decide_eq_true:=@of_decide_eq_true
theorem zF:type_of% @List.not_mem_nil:=@List.not_mem_nil
theorem zG:type_of% @Nat.le_trans:=@Nat.le_trans
theorem zH:type_of% @List.mem_singleton:=@List.mem_singleton
theorem zI:type_of% @List.mem_append:=@List.mem_append
theorem zJ:type_of% @PySem.F.plainAttrs_list:=@PySem.F.plainAttrs_list
theorem zK:type_of% @List.mem_of_getElem?:=@List.mem_of_getElem?
theorem zL:type_of% @Bool.and_eq_true:=@Bool.and_eq_true
theorem zM:type_of% @List.length_cons:=@List.length_cons
theorem zN:type_of% @Option.some.inj:=@Option.some.inj
theorem zO:type_of% @Array.length_toList:=@Array.length_toList
theorem zP:type_of% @Bool.false_and:=@Bool.false_and
theorem zQ:type_of% @List.find?_cons:=@List.find?_cons
theorem zR:type_of% @PySem.sizeLine_eq:=@PySem.sizeLine_eq
theorem zS:type_of% @List.mem_range:=@List.mem_range
theorem zT:type_of% @List.lookup_cons:=@List.lookup_cons
theorem zU:type_of% @PySem.F.slot_list_append:=@PySem.F.slot_list_append
theorem zV:type_of% @PySem.F.type_list_append:=@PySem.F.type_list_append
theorem zW:type_of% @Bool.true_and:=@Bool.true_and
theorem zX:type_of% @of_decide_eq_false:=@of_decide_eq_false
theorem zY:type_of% @List.map_congr_left:=@List.map_congr_left
theorem zZ:type_of% @List.all_eq_true:=@List.all_eq_true
theorem z0:type_of% @List.mem_append_left:=@List.mem_append_left
theorem ya:type_of% @Nat.zero_le:=@Nat.zero_le
theorem yb:type_of% @PySem.wpAny_field:=@PySem.wpAny_field
theorem yc:type_of% @List.nodup_cons:=@List.nodup_cons
theorem yd:type_of% @PySem.mem_of_lookup:=@PySem.mem_of_lookup
theorem ye:type_of% @List.length_take:=@List.length_take
theorem yf:type_of% @PySem.wpAny_newObj_type:=@PySem.wpAny_newObj_type
theorem yg:type_of% @List.mem_filter:=@List.mem_filter
theorem yh:type_of% @PySem.wpAny_truthy_bool:=@PySem.wpAny_truthy_bool
theorem yi:type_of% @Nat.ne_of_gt:=@Nat.ne_of_gt
theorem yj:type_of% @PySem.Heap.size_push:=@PySem.Heap.size_push
theorem yk:type_of% @List.length_filter_le:=@List.length_filter_le
theorem ym:type_of% @PySem.F.slot_dict_get:=@PySem.F.slot_dict_get
theorem yn:type_of% @Bool.eq_iff_iff:=@Bool.eq_iff_iff
theorem yo:type_of% @List.filter_cons:=@List.filter_cons
theorem yp:type_of% @decide_eq_true_eq:=@decide_eq_true_eq
theorem yq:type_of% @PySem.Heap.SameBut.update:=@PySem.Heap.SameBut.update
theorem yr:type_of% @List.length_reverse:=@List.length_reverse
theorem yt:type_of% @List.filter_sublist:=@List.filter_sublist
theorem yu:type_of% @PySem.Calls.spliced_cons:=@PySem.Calls.spliced_cons
theorem yw:type_of% @PySem.wpAny_call_entry:=@PySem.wpAny_call_entry
theorem yx:type_of% @Nat.lt_irrefl:=@Nat.lt_irrefl
theorem yy:type_of% @PySem.wpAny_holding:=@PySem.wpAny_holding
theorem yz:type_of% @PySem.wpAny_mono:=@PySem.wpAny_mono
theorem yA:type_of% @List.foldl_cons:=@List.foldl_cons
theorem yB:type_of% @List.take_length:=@List.take_length
theorem yC:type_of% @decide_eq_decide:=@decide_eq_decide
theorem yD:type_of% @Sum.inr.inj:=@Sum.inr.inj
theorem yE:type_of% @Nat.le_of_lt:=@Nat.le_of_lt
theorem yF:type_of% @PySem.codeAny_builtin:=@PySem.codeAny_builtin
theorem yG:type_of% @List.any_cons:=@List.any_cons
theorem yH:type_of% @PySem.wpAny_seqItems:=@PySem.wpAny_seqItems
theorem yI:type_of% @Nat.le_succ:=@Nat.le_succ
theorem yJ:type_of% @PySem.codeAny_mono:=@PySem.codeAny_mono
theorem yK:type_of% @PySem.Paired.length:=@PySem.Paired.length
theorem yL:type_of% @Bool.false_or:=@Bool.false_or
theorem yM:type_of% @PySem.wpAny_of_eq:=@PySem.wpAny_of_eq
namespace L2
open PySem PySem.Spec PyProof.Rows
abbrev Key:=Sum Int Str
def keyIs:Key→Value→Bool
 | .inl k,v=>Value.isInt k v
 | .inr x,v=>Value.isStrOf x v
def TV (w:World):Key→Int
 | .inl k=>hashInt k
 | .inr x=>hashStr w x
theorem bA:∀ {k:Key}{v:Value},keyIs k v=true→(∃ i t,k=Sum.inl i∧v=Value.int i t)∨(∃ x t,k=Sum.inr x∧v=Value.str x t)
 | .inl i,v,h=>by
  obtain⟨t,e⟩:=Value.isInt_shape (k:=i) (v:=v) h
  exact .inl ⟨i,t,rfl,e⟩
 | .inr x,v,h=>by
  obtain⟨t,e⟩:=Value.isStrOf_shape (x:=x) (v:=v) h
  exact .inr ⟨x,t,rfl,e⟩
theorem B7 (i:Int) (t:Tok):keyIs (.inl i) (.int i t)=true:=by simp [keyIs,Value.isInt]
theorem B8 (x:Str) (t:Tok):keyIs (.inr x) (.str x t)=true:=by simp [keyIs,Value.isStrOf]
theorem Lx (a b:Int):decide ((Sum.inl a:Key)=Sum.inl b)=(a == b):=by
 by_cases e:a=b
 ·subst e;simp
 ·have h:¬ (Sum.inl a:Key)=Sum.inl b:=fun q=>e (Sum.inl.inj q)
  rw[zr h]
  exact (beq_eq_false_iff_ne.mpr e).symm
theorem Lz (a b:Str):decide ((Sum.inr a:Key)=Sum.inr b)=decide (a=b):=by
 by_cases e:a=b
 ·subst e;simp
 ·have h:¬ (Sum.inr a:Key)=Sum.inr b:=fun q=>e (yD q)
  rw[zr h,zr e]
theorem LA (a:Int) (b:Str):decide ((Sum.inl a:Key)=Sum.inr b)=false:=zr (fun q=>nomatch q)
theorem LB (a:Str) (b:Int):decide ((Sum.inr a:Key)=Sum.inl b)=false:=zr (fun q=>nomatch q)
def aE (prog:Program) (w:World):PySem.KeyKind prog w Key where
 is:=keyIs
 hash:=TV w
 inj:=fun v a b ha hb=>by
  rcases bA ha with ⟨i,t,rfl,rfl⟩ | ⟨x,t,rfl,rfl⟩
  ·rcases bA hb with ⟨j,u,rfl,e⟩ | ⟨y,u,rfl,e⟩
   ·injection e with e1 _;rw[e1]
   ·exact nomatch e
  ·rcases bA hb with ⟨j,u,rfl,e⟩ | ⟨y,u,rfl,e⟩
   ·exact nomatch e
   ·injection e with e1 _;rw[e1]
 byValue:=fun k v h=>by
  rcases bA h with ⟨i,t,rfl,rfl⟩ | ⟨x,t,rfl,rfl⟩ <;> rfl
 pyHash:=fun hv h=>by
  rcases bA hv with ⟨i,t,rfl,rfl⟩ | ⟨x,t,rfl,rfl⟩
  ·exact wpAny_pyHash_int h
  ·exact wpAny_pyHash_str h
 eqBool:=fun hu hv h=>by
  rcases bA hu with ⟨i,t,rfl,rfl⟩ | ⟨x,t,rfl,rfl⟩
  ·rcases bA hv with ⟨j,u,rfl,rfl⟩ | ⟨y,u,rfl,rfl⟩
   ·rw[Lx] at h;exact wpAny_eqBool_int h
   ·rw[LA] at h;exact SeqAt.EqAt.int_str i t y u _ _ _ _ h
  ·rcases bA hv with ⟨j,u,rfl,rfl⟩ | ⟨y,u,rfl,rfl⟩
   ·rw[LB] at h;exact SeqAt.EqAt.str_int x t j u _ _ _ _ h
   ·rw[Lz] at h;exact wpAny_eqBool_str h
 «strs»:=fun k x t v h=>by
  rcases bA h with ⟨i,u,rfl,e⟩ | ⟨y,u,rfl,e⟩
  ·exact nomatch e
  ·injection e with e1 _
   subst e1
   cases v <;> rfl
theorem vj (prog:Program) (w:World) (i:Int) (t:Tok):(aE prog w).is (.inl i) (.int i t)=true:=B7 i t
theorem iW (prog:Program) (w:World) (x:Str) (t:Tok):(aE prog w).is (.inr x) (.str x t)=true:=B8 x t
inductive V where
 | au | bl (b:Bool) | int (i:Int) | str (x:Str) | A3 (b:Array UInt8) | LC (b:UInt64) | ref (a:Addr) | ty (n:String)
 deriving DecidableEq
def RelV:V→Value→Prop
 | .au,u=>u=Value.none
 | .bl b,u=>u=Value.bool b
 | .int i,u=>∃ t,u=Value.int i t
 | .str x,u=>∃ t,u=Value.str x t
 | .A3 b,u=>∃ t,u=Value.bytes b t
 | .LC b,u=>∃ t,u=Value.float b t
 | .ref a,u=>u=Value.ref a
 | .ty n,u=>u=Value.type n
abbrev Vals:List V→List Value→Prop:=Paired RelV
theorem Vals.length {xs:List V}{us:List Value} (r:Vals xs us):xs.length=us.length:=yK r
theorem Vals.get:∀ {xs:List V}{us:List Value}{i:Nat}{x:V},Vals xs us→xs[i]?=some x→∃ u,us[i]?=some u∧RelV x u
 | _,_,_,_,.nil,e=>by simp at e
 | _,_,0,_,.cons r _,e=>by simp at e;subst e;exact⟨_,rfl,r⟩
 | _,_,i+1,x,.cons _ t,e=>by
  obtain⟨u,h1,h2⟩:=Vals.get (i:=i) (x:=x) t (by simpa using e)
  exact⟨u,by simpa using h1,h2⟩
theorem Vals.set (r:RelV x u):∀ {xs:List V}{us:List Value} (i:Nat),Vals xs us→Vals (xs.set i x) (us.set i u)
 | _,_,_,.nil=>.nil
 | _,_,0,.cons _ t=>.cons r t
 | _,_,i+1,.cons q t=>.cons q (Vals.set r i t)
theorem Vals.append:∀ {xs ys:List V}{us ws:List Value},Vals xs us→Vals ys ws→Vals (xs++ys) (us++ws)
 | _,_,_,_,.nil,s=>s
 | _,_,_,_,.cons r t,s=>.cons r (Vals.append t s)
theorem Vals.take:∀ {xs:List V}{us:List Value} (n:Nat),Vals xs us→Vals (xs.take n) (us.take n)
 | _,_,0,_=>.nil
 | _,_,_+1,.nil=>.nil
 | _,_,n+1,.cons r t=>.cons r (Vals.take n t)
theorem Vals.drop:∀ {xs:List V}{us:List Value} (n:Nat),Vals xs us→Vals (xs.drop n) (us.drop n)
 | _,_,0,r=>r
 | _,_,_+1,.nil=>.nil
 | _,_,n+1,.cons _ t=>Vals.drop n t
def fU:Option V→Option Value→Prop
 | some v,some u=>RelV v u
 | none,none=>True
 | _,_=>False
def KV {κ:Type} : List (κ×V)→List (κ×Value)→Prop:=Paired fun (p:κ×V) (q:κ×Value)=>p.1=q.1∧RelV p.2 q.2
def kV:Key→V
 | .inl i=>.int i
 | .inr x=>.str x
inductive HO where
  | lst (xs:List V)
  | tup (xs:List V)
  | dK (kvs:List (Key×V)) | dT (kvs:List (List Key×V))
  | set (S:Int→Bool) (n:Nat)
  | ins (C dx:Addr) (fs:List (Str×V))
  | own (x:Addr)
  | xd (fs:List (Str×V))
  | met (f x:Addr)
  | Sb (lo hi:Int)
  | kB (o:Obj) (u:HO)
  | oR (ps:Array Value)
  | ext (φ:Heap→Prop)
abbrev Hp:=Addr→Option HO
def upd (H:Hp) (a:Addr) (o:HO):Hp:=fun b=>if b=a then some o else H b
theorem aF {H:Hp}{a:Addr}{o:HO} : upd H a o a=some o:=by unfold upd;rw[if_pos rfl]
theorem av {H:Hp}{a b:Addr}{o:HO} (h:b≠a):upd H a o b=H b:=by unfold upd;rw[if_neg h]
theorem aC {H:Hp}{a b:Addr}{o:HO} (h:H a=some o) (h':H b=none):a≠b:=by
 intro e;subst e;rw[h] at h';cases h'
def gv (h:Heap) (a:Addr) (items:Array Value):Prop:=∃ o,h.get? a=some o∧o.cls=.type "tuple" ∧ o.dict=none∧∃ n,o.data=.seq items n
theorem gv.tup (x:gv h a items):IsTup h a items:=by obtain⟨o,e,c,_,n,d⟩:=x;exact⟨o,e,c,n,d⟩
theorem gv.lt (x:gv h a items):a<h.objs.size:=x.tup.lt
theorem gv.new (h:Heap) (items:Array Value):gv (h.push { cls:=.type "tuple",data:=.seq items }) h.objs.size items:=⟨_,zm _ rfl,rfl,rfl,_,rfl⟩
section
variable (P:Program) (w:World)
def bh (H:Hp) (h:Heap) (a:Addr):HO→Prop
 | .lst xs=>xs.length≤sizeLine∧∃ (ax:List Value) (n:Nat),Vals xs ax∧h.get? a=some { cls:=.type "list",data:=.seq ax.toArray n }
 | .tup xs=>xs.length≤sizeLine∧∃ ax:List Value,Vals xs ax∧gv h a ax.toArray
 | .dK kvs=>kvs.length≤sizeLine∧(a == sysModules)=false∧∃ vs,KV kvs vs∧h.DictOf (aE P w) a vs
 | .dT _=>False
 | .set S n=>h.SetOf (intKind P w) a S n
 | .ins C dx fs=>H dx=some (.own a)∧fs.length≤1000∧dx≠a∧h.get? a=some (instObj C dx) ∧
   ∃ mA,h.Ns1 dx mA∧(∀ f,fU (fs.lookup f) (mA f))∧PySem.Within mA (fs.map (·.1))
 | .own _=>∃ o,h.get? a=some o
 | .xd fs=>∃ mA,h.Ns1 a mA∧∀ f,fU (fs.lookup f) (mA f)
 | .Sb lo hi=>∃ t u v,h.get? a=some { cls:=.type "range",data:=.fields #[.int lo t,.int hi u,.int 1 v] }
 | .kB o u=>h.get? a=some o∧bh H h a u
 | .oR ps=>h.get? a=some { cls:=.none,data:=.fields ps }
 | .met f x=>h.get? a=some (methodObj (.ref f) (.ref x))
 | .ext φ=>φ h∧(∃ o,h.get? a=some o)∧∀ h1 h2:Heap,φ h1→(∀ o,h1.get? a=some o→h2.get? a=some o)→φ h2
def kC (H:Hp) (h:Heap):Prop:=∀ a o,H a=some o→bh P w H h a o
end
section
variable {P:Program}{w:World}{H H':Hp}{h h':Heap}{a:Addr}{o:HO}
theorem bh.lt (x:bh P w H h a o):a<h.objs.size:=by
 cases o with
 | lst xs=>obtain⟨_,_,_,_,e⟩:=x;exact zq e
 | tup xs=>obtain⟨_,_,_,p⟩:=x;exact p.lt
 | dK kvs=>obtain⟨_,_,_,_,o,_,_,e,_⟩:=x;exact zq e
 | dT kvs=>exact False.elim x
 | set S n=>obtain⟨o,_,_,_,e,_⟩:=x;exact zq e
 | ins C dx fs=>obtain⟨_,_,_,e,_⟩:=x;exact zq e
 | own y=>obtain⟨_,e⟩:=x;exact zq e
 | xd fs=>obtain⟨_,⟨_,_,_,e,_⟩,_⟩:=x;exact zq e
 | Sb lo hi=>obtain⟨_,_,_,e⟩:=x;exact zq e
 | kB ob u=>obtain⟨e,_⟩:=x;exact zq e
 | oR ps=>exact zq (show h.get? a=some _ from x)
 | met f y=>exact zq (show h.get? a=some _ from x)
 | ext φ=>obtain⟨_,⟨_,e⟩,_⟩:=x;exact zq e
theorem bh.oj (x:bh P w H h a o) (k:∀ b u,(b=a∨H b=some (.own a))→h.get? b=some u→h'.get? b=some u)
  (ho:∀ b,H b=some (.own a)→H' b=some (.own a)) (ht:∀ b xs,H b=some (.tup xs)→H' b=some (.tup xs)):bh P w H' h' a o:=by
 induction o with
 | lst xs=>obtain⟨z,ax,n,r,e⟩:=x;exact⟨z,ax,n,r,k _ _ (.inl rfl) e⟩
 | tup xs=>obtain⟨z,ax,r,ob,e,c⟩:=x;exact⟨z,ax,r,ob,k _ _ (.inl rfl) e,c⟩
 | dK kvs=>obtain⟨z,y,vs,r,ob,es,ep,e,c⟩:=x;exact⟨z,y,vs,r,ob,es,ep,k _ _ (.inl rfl) e,c⟩
 | dT kvs=>exact False.elim x
 | set S n=>obtain⟨ob,es,ep,t,e,c⟩:=x;exact⟨ob,es,ep,t,k _ _ (.inl rfl) e,c⟩
 | ins C dx fs =>
  obtain⟨d,z,ne,e,mA,⟨od,es,ep,e2,c⟩,r⟩:=x
  exact⟨ho _ d,z,ne,k _ _ (.inl rfl) e,mA,⟨od,es,ep,k _ _ (.inr d) e2,c⟩,r⟩
 | own y=>obtain⟨ob,e⟩:=x;exact⟨ob,k _ _ (.inl rfl) e⟩
 | xd fs=>obtain⟨mA,⟨od,es,ep,e,c⟩,r⟩:=x;exact⟨mA,⟨od,es,ep,k _ _ (.inl rfl) e,c⟩,r⟩
 | Sb lo hi=>obtain⟨t,u,v,e⟩:=x;exact⟨t,u,v,k _ _ (.inl rfl) e⟩
 | kB ob u ih=>obtain⟨e,q⟩:=x;exact⟨k _ _ (.inl rfl) e,ih q⟩
 | oR ps =>
  have e:h.get? a=some { cls:=.none,data:=.fields ps }:=x
  show h'.get? a=some { cls:=.none,data:=.fields ps }
  exact k a _ (.inl rfl) e
 | met f y =>
  have e:h.get? a=some (methodObj (.ref f) (.ref y)):=x
  show h'.get? a=some (methodObj (.ref f) (.ref y))
  exact k a _ (.inl rfl) e
 | ext φ=>obtain⟨p,⟨o,e⟩,st⟩:=x;exact⟨st _ _ p fun o q=>k _ _ (.inl rfl) q,⟨o,k _ _ (.inl rfl) e⟩,st⟩
theorem kC.lt (x:kC P w H h) (e:H a=some o):a<h.objs.size:=(x a o e).lt
theorem kC.fresh (x:kC P w H h) (e:h.objs.size≤a):H a=none:=by
 cases q:H a with
 | none=>rfl
 | some u=>exact absurd (zk (x.lt q) e) (yx _)
theorem kC.kept (x:kC P w H h) (k:∀ b u,h.get? b=some u→h'.get? b=some u):kC P w H h':=fun a o e =>
 (x a o e).oj (fun b u _ q=>k b u q) (fun _ q=>q) fun _ _ q=>q
theorem kC.laid (x:kC P w H h) (k:∀ b u,h.get? b=some u→h'.get? b=some u) (hp:h.objs.size≤a) (new:bh P w (upd H a o) h' a o):kC P w (upd H a o) h':=fun b u e=>by
 have hn:=x.fresh hp
 by_cases hb:b=a
 ·subst hb;rw[aF] at e;cases e;exact new
 ·rw[av hb] at e
  exact (x b u e).oj (fun c v _ q=>k c v q) (fun c q=>by rw[av (aC q hn)];exact q) fun c xs q=>by rw[av (aC q hn)];exact q
end
def Rd (H:Hp) (a:Addr) (u:HO):Prop:=H a=some u∨∃ o,H a=some (.kB o u)
theorem Rd.of (h:H a=some u):Rd H a u:=.inl h
theorem Rd.ok {P:Program}{w:World}{H:Hp}{h:Heap}{a:Addr}{u:HO} (r:Rd H a u) (x:kC P w H h):bh P w H h a u:=by
 rcases r with r | ⟨o,r⟩
 ·exact x a u r
 ·obtain⟨_,q⟩:=x a _ r
  exact q
def O_:Option HO→Prop
 | some (.lst _)=>True
 | some (.dK _)=>True
 | some (.dT _)=>True
 | some (.set _ _)=>True
 | some (.ins _ _ _)=>True
 | some (.ext _)=>True
 | _=>False
section
variable {P:Program}{w:World}{H:Hp}{h h':Heap}{x e:Addr}{o':HO}
theorem kC.write (ok:kC P w H h) (mu:O_ (H x)) (he:e=x∨H e=some (.own x)) (k:∀ b u,b≠e→h.get? b=some u→h'.get? b=some u) (Ov:∃ u,h'.get? e=some u)
  (new:bh P w (upd H x o') h' x o'):kC P w (upd H x o') h':=fun b u q=>by
 have Pa:∀ c y,H c=some (.own y)→c≠x:=fun c y r z=>by subst z;rw[r] at mu;exact mu
 have TY:∀ c xs,H c=some (.tup xs)→c≠x:=fun c xs r z=>by subst z;rw[r] at mu;exact mu
 by_cases hb:b=x
 ·subst hb;rw[aF] at q;cases q;exact new
 ·rw[av hb] at q
  by_cases LD:b=e
  ·have q':H b=some (.own x):=by
    rcases he with z | z
    ·exact absurd (LD.trans z) hb
    ·rw[LD];exact z
   rw[q] at q';cases q'
   obtain⟨v,hv⟩:=Ov
   exact⟨v,by rw[LD];exact hv⟩
  ·refine (ok b u q).oj (fun c v hc r=>k c v ?_ r) (fun c r=>by rw[av (Pa c b r)];exact r) fun c xs r=>by rw[av (TY c xs r)];exact r
   rcases hc with rfl | hc
   ·exact LD
   ·rintro rfl
    rcases he with z | z
    ·exact Pa c b hc z
    ·rw[hc] at z;cases z;exact hb rfl
end
structure Un (fs ex:List Addr) (H H':Hp) (h h':Heap):Prop where
 keep:∀ b o,h.get? b=some o→H b=none→b∉fs→b∉ex→h'.get? b=some o
 slot:∀ b o,h.get? b=some o→H b=none→b∈fs→b∉ex→∃ sl,h'.get? b=some { o with slots:=sl }
 free:∀ b o,h.get? b=some o→H b=none→b∉ex→H' b=none
 there:∀ b o,h.get? b=some o→b∉ex→∃ o',h'.get? b=some o'
 lI:∀ b xs,H b=some (.tup xs)→H' b=some (.tup xs)
 kD:∀ b o u,H b=some (.kB o u)→H' b=some (.kB o u)
 kE:∀ b ps,H b=some (.oR ps)→∃ more,H' b=some (.oR (ps++more))
section
variable {fs Ea ex ex':List Addr}{H H1 H2:Hp}{h h1 h2 h':Heap}{a x e:Addr}{o:HO}
theorem Un.any (u:Un fs ex H H1 h h1) {b:Addr}{ob:Obj} (q:h.get? b=some ob) (n:H b=none) (hx:b∉ex):∃ sl,h1.get? b=some { ob with slots:=sl }:=by
 by_cases hb:b∈fs
 ·exact u.slot b ob q n hb hx
 ·exact⟨ob.slots,u.keep b ob q n hb hx⟩
theorem Un.kept (k:∀ b u,h.get? b=some u→h'.get? b=some u):Un fs ex H H h h' :=
 ⟨fun b ob q _ _ _=>k b ob q,fun b ob q _ _ _=>⟨ob.slots,k b ob q⟩,fun _ _ _ n _=>n,fun b ob q _=>⟨ob,k b ob q⟩,fun _ _ q=>q,fun _ _ _ q=>q,fun _ ps q=>⟨#[],by rw[q];simp⟩⟩
theorem Un.refl:Un fs ex H H h h:=Un.kept fun _ _ q=>q
theorem Un.laid (k:∀ b u,h.get? b=some u→h'.get? b=some u) (hp:h.objs.size≤a) (hn:H a=none):Un fs ex H (upd H a o) h h' where
 keep:=fun b u q _ _ _=>k b u q
 slot:=fun b u q _ _ _=>⟨u.slots,k b u q⟩
 free:=fun b u q n _=>by rw[av (zw (zk (zq q) hp))];exact n
 there:=fun b u q _=>⟨u,k b u q⟩
 lI:=fun b xs q=>by rw[av (aC q hn)];exact q
 kD:=fun b u xs q=>by rw[av (aC q hn)];exact q
 kE:=fun b ps q=>⟨#[],by rw[av (aC q hn),q];simp⟩
theorem Un.write (mu:O_ (H x)) (he:e=x∨H e=some (.own x)) (k:∀ b u,b≠e→h.get? b=some u→h'.get? b=some u) (Ov:∃ u,h'.get? e=some u):Un fs ex H (upd H x o) h h':=by
 have hx:∀ b,H b=none→b≠x:=fun b n z=>by subst z;rw[n] at mu;exact mu
 have hb:∀ b,H b=none→b≠e:=fun b n z=>by
  subst z
  rcases he with r | r
  ·exact hx b n r
  ·rw[n] at r;cases r
 have hm:∀ b u,H b=some u→¬ O_ (some u)→b≠x:=fun b u q nm z=>by subst z;rw[q] at mu;exact nm mu
 refine⟨fun b u q n _ _=>k b u (hb b n) q,fun b u q n _ _=>⟨u.slots,k b u (hb b n) q⟩,fun b u q n _=>by rw[av (hx b n)];exact n,fun b u q _=>?_,
  fun b xs q=>by rw[av (hm b _ q fun z=>z)];exact q,fun b u xs q=>by rw[av (hm b _ q fun z=>z)];exact q,fun b ps q=>⟨#[],by rw[av (hm b _ q fun z=>z),q];simp⟩⟩
 by_cases LD:b=e
 ·subst LD;exact Ov
 ·exact⟨u,k b u LD q⟩
end
def Sd (h:Heap) (H:Hp):List Addr:=(List.range h.objs.size).filter fun a=>(H a).isSome
def rC (h:Heap) (H:Hp):Heap:=hideAll h (Sd h H)
theorem B9 (h:Heap) (H:Hp):(rC h H).objs.size=h.objs.size:=PySem.W.hideAll_size _ _
theorem El (e:h.get? b=some o) (n:H b=none):(rC h H).get? b=some o :=
 hideAll_get _ e fun hm=>by
  have q:(H b).isSome=true:=(yg.mp hm).2
  rw[n] at q;simp at q
theorem HJ (e:(rC h H).get? b=some o):h.get? b=some o∧H b=none:=by
 have e':h.get? b=some o:=of_hideAll (Sd h H) e
 refine⟨e',?_⟩
 cases q:H b with
 | none=>rfl
 | some x =>
  have hm:b∈Sd h H:=yg.mpr ⟨zS.mpr (zq e'),by simp [q]⟩
  have z:(rC h H).get? b=none:=PySem.W.hideAll_none (Sd h H) hm
  rw[z] at e;cases e
def HK (g h:Heap) (L:Addr):List (Addr×Obj):=(List.range h.objs.size).filterMap fun a=>if a=L∨(g.get? a).isSome=true then none else (h.get? a).map fun o=>(a,o)
def rest (g h:Heap) (L d:Addr):List (Addr×Obj):=(HK g h L).filter fun p=>decide (p.1≠d)
structure Mod (K:PySem.W.Frag) (mg:Str→Option Value) (base:Heap):Prop where
 Ow:K.In base
 glob:base.Ns mainGlobals mg
 blt:∃ mb,base.Ns builtinsNs mb∧∀ x:Str,x ≠ "__name__" → mb x=bootBuiltins x
 nolimit:base.NoLimit
structure Cx where
 prog:Program
 w:World
 K:PySem.W.Frag
 mg:Str→Option Value
 base:Heap
 A:Around
 N:List Str
 dj:Shared
 tN:Hp
 env:Env
 outer:List Env
 stack:List Env
 ex:List Addr
 fn:Str→Bool
 calm:Bool
 pn:List (Addr×Obj)
 xe:Value→Shared→Prop
def om (l:List Env):List Addr:=l.filterMap (·.frame)
abbrev Cx.fs (X:Cx):List Addr:=om X.outer
def Ox (sc:Scope) (x:Str):Prop:=sc.names.lookup x=some .local∨sc.names.lookup x=some .cell∨sc.names.lookup x=some .free
def Loc (sc:Scope) (x:Str):Prop:=sc.names.lookup x=some .local∨sc.names.lookup x=some .cell
def Look (env:Env) (h:Heap) (m:Str→Option Value) (x:Str) (u:Value):Prop :=
 (env.kindOf x=some .local∧m x=some u)∨((env.kindOf x=some .cell∨env.kindOf x=some .free)∧∃ c,env.cells.lookup x=some c∧h.IsCell c (some u))
structure Cx.Ok (X:Cx):Prop where
 mod:Mod X.K X.mg X.base
 kind:X.env.scope.kind=.function
 glob:X.env.globals=mainGlobals
 blt:X.env.builtins=builtinsNs
 above:X.dj.heap.objs.size≤X.env.locals
 inj:∀ x y c,X.env.cells.lookup x=some c→X.env.cells.lookup y=some c→x=y
 has:∀ x,(X.env.kindOf x=some .cell∨X.env.kindOf x=some .free)→∃ c,X.env.cells.lookup x=some c
 TZ:∀ x c,X.fn x=true→X.env.cells.lookup x=some c→X.dj.heap.objs.size≤c
 hd:X.calm=true→X.A.handled=none
 frames:X.A.frames=some X.stack
 Xq:X.stack=X.outer∨(X.stack=X.env :: X.outer∧X.env.frame=some X.env.locals)
 exf:∀ b∈X.ex,b≠X.env.locals∧∀ x c,X.env.cells.lookup x=some c→c≠b
 bs:∀ b o,X.base.get? b=some o→X.dj.heap.get? b=some o∧X.tN b=none
 HL:X.base.objs.size≤X.dj.heap.objs.size
 LF:∀ b o,X.base.get? b=some o→b∉X.ex
 Pb:∀ b∈X.ex,b∉X.fs
 oo:X.dj.heap.FunFrames X.base X.outer
 LG:∀ b∈X.fs,X.tN b=none
structure Inv (X:Cx) (pins:List (Addr×Obj)) (σ:List (Option V)) (H:Hp) (s:Shared):Prop where
 ok:X.Ok
 os:s.os=X.dj.os
 bare:AllBare s.gens
 base:Un X.fs X.ex X.tN H X.dj.heap s.heap
 loc:∃ m,s.heap.Ns X.env.locals m∧∀ (i:Nat) (x:Str) (v:V),X.N[i]?=some x→σ[i]?=some (some v)→Ox X.env.scope x→∃ u,RelV v u∧Look X.env s.heap m x u
 cell:∀ x c,X.env.cells.lookup x=some c→∃ v,s.heap.IsCell c v
 free:H X.env.locals=none
 fY:∀ x c,X.env.cells.lookup x=some c→H c=none
 pin:∀ p∈X.pn++pins,s.heap.get? p.1=some p.2∧H p.1=none∧p.1≠X.env.locals∧p.1∉X.fs∧∀ v,p.2.data≠.cell v
 aM:kC X.prog X.w H s.heap
 len:σ.length=X.N.length
section
variable {X:Cx}{pins:List (Addr×Obj)}{σ:List (Option V)}{H H':Hp}{s:Shared}{h':Heap}
theorem Cx.Ok.B_ (ok:X.Ok) (e:X.base.get? b=some o):b∉X.fs:=fun hb=>by
 have:=(ok.oo.mem hb).1
 rw[e] at this;cases this
theorem Inv.bs (I:Inv X pins σ H s):∀ b o,X.base.get? b=some o→s.heap.get? b=some o∧H b=none:=fun b o e =>
 ⟨I.base.keep b o (I.ok.bs b o e).1 (I.ok.bs b o e).2 (I.ok.B_ e) (I.ok.LF b o e),I.base.free b o (I.ok.bs b o e).1 (I.ok.bs b o e).2 (I.ok.LF b o e)⟩
theorem Inv.bk (I:Inv X pins σ H s):∀ b o,X.base.get? b=some o→s.heap.get? b=some o:=fun b o e=>(I.bs b o e).1
theorem Inv.mod (I:Inv X pins σ H s):Mod X.K X.mg X.base:=I.ok.mod
theorem Inv.nO (I:Inv X pins σ H s):X.K.In s.heap:=I.ok.mod.Ow.keeps I.bk
theorem Inv.nolimit (I:Inv X pins σ H s):s.heap.NoLimit:=I.ok.mod.nolimit.keeps I.bk
theorem Inv.fr (I:Inv X pins σ H s):∃ m,Fr X.base X.env.locals s.heap m :=
 let ⟨m,hn,_⟩:=I.loc
 ⟨m,hn,I.bk,zG I.ok.HL I.ok.above⟩
theorem Inv.lt (I:Inv X pins σ H s):X.env.locals<s.heap.objs.size:=by obtain⟨_,hn,_⟩:=I.loc;exact hn.lt
theorem Inv.sz (I:Inv X pins σ H s):X.dj.heap.objs.size≤s.heap.objs.size:=zG I.ok.above (yE I.lt)
theorem Inv.Pc (I:Inv X pins σ H s) (h:s.heap.objs.size≤a):a∉X.fs:=fun hb=>by
 obtain⟨_,o,ho,_⟩:=I.ok.oo.mem hb
 exact absurd (zk (zq ho) (zG I.sz h)) (yx _)
theorem Inv.LH (I:Inv X pins σ H s):∀ x c,X.env.cells.lookup x=some c→c≠X.env.locals:=fun x c e z=>by
 obtain⟨v,o,ho,hd⟩:=I.cell x c e
 obtain⟨m,⟨o',es,ep,xx,HM,_⟩,_⟩:=I.loc
 rw[z,xx] at ho;cases ho;rw[HM] at hd;cases hd
theorem Inv.oo (I:Inv X pins σ H s):s.heap.FunFrames X.base X.outer:=by
 have all:∀ (l:List Env),(∀ b∈om l,b∈X.fs)→X.dj.heap.FunFrames X.base l→s.heap.FunFrames X.base l:=by
  intro l
  induction l with
  | nil=>intro _ _;trivial
  | cons env r ih =>
   intro hs hl
   obtain⟨hk,⟨L,o,hf,hn,ho,hd⟩,hr⟩:=hl
   have hL:L∈X.fs:=hs L (by unfold om;rw[List.filterMap_cons,hf];exact zx)
   obtain⟨sl,e⟩:=I.base.slot L o ho (I.ok.LG L hL) hL fun z=>I.ok.Pb L z hL
   exact⟨hk,⟨L,_,hf,hn,e,hd⟩,ih (fun b hb=>hs b (by unfold om;rw[List.filterMap_cons,hf];exact zh _ hb)) hr⟩
 exact all X.outer (fun _ hb=>hb) I.ok.oo
theorem Inv.stack (I:Inv X pins σ H s):s.heap.FunFrames X.base X.stack:=by
 rcases I.ok.Xq with e | ⟨e,hf⟩
 ·rw[e];exact I.oo
 ·rw[e]
  obtain⟨m,hn,_⟩:=I.loc
  refine .cons (by rw[I.ok.kind];decide) hf hn ?_ I.oo
  exact Heap.get?_none_of_le (zG I.ok.HL I.ok.above)
theorem Inv.mC (I:Inv X pins σ H s):∀ b∈om X.stack,b∈X.env.locals :: X.fs:=fun b hb=>by
 rcases I.ok.Xq with e | ⟨e,hf⟩
 ·rw[e] at hb;exact zh _ hb
 ·rw[e] at hb
  unfold om at hb
  rw[List.filterMap_cons,hf] at hb
  exact hb
theorem Inv.oS (I:Inv X pins σ H s):∀ b∈om X.stack,H b=none:=fun b hb=>by
 rcases zf.mp (I.mC b hb) with e | hb
 ·rw[e];exact I.free
 ·obtain⟨_,o,ho,_⟩:=I.ok.oo.mem hb
  exact I.base.free b o ho (I.ok.LG b hb) fun z=>I.ok.Pb b z hb
theorem Inv.step {g':Array GenState}{t':Nat}{d':Drawn}{ch:List Addr} (I:Inv X pins σ H s)
  (Hs:∀ b∈ch,(b∈X.ex∨X.dj.heap.objs.size≤b)∧b≠X.env.locals∧(∀ x c,X.env.cells.lookup x=some c→c≠b)∧∀ p∈X.pn++pins,p.1≠b)
  (keep:∀ b o,b≠X.env.locals→b∉X.fs→b∉ch→s.heap.get? b=some o→H b=none→h'.get? b=some o)
  (slot:∀ b o,b≠X.env.locals→b∈X.fs→b∉ch→s.heap.get? b=some o→H b=none→∃ sl,h'.get? b=some { o with slots:=sl }) (free:∀ b o,b∉ch→s.heap.get? b=some o→H b=none→H' b=none)
  (there:∀ b o,b∉ch→s.heap.get? b=some o→∃ o',h'.get? b=some o')
  (lI:∀ b xs,H b=some (.tup xs)→H' b=some (.tup xs)) (kD:∀ b o u,H b=some (.kB o u)→H' b=some (.kB o u)) (kE:∀ b ps,H b=some (.oR ps)→∃ more,H' b=some (.oR (ps++more)))
  (ns:∀ m,s.heap.Ns X.env.locals m→h'.Ns X.env.locals m) (aM:kC X.prog X.w H' h') (hg:AllBare g') :
  Inv X pins σ H' { s with heap:=h',gens:=g',drawn:=d',toks:=t' }:=by
 have Xr:∀ b o,X.dj.heap.get? b=some o→b≠X.env.locals:=fun b o e=>zw (zk (zq e) I.ok.above)
 have Se:∀ b o,X.dj.heap.get? b=some o→b∉X.ex→b∉ch:=fun b o e hx hb=>by
  rcases (Hs b hb).1 with z | z
  ·exact hx z
  ·exact absurd (zk (zq e) z) (yx _)
 have cellK:∀ x c,X.env.cells.lookup x=some c→∀ v,s.heap.IsCell c v→h'.IsCell c v:=by
  rintro x c e v ⟨o,ho,hd⟩
  have Pd:c∉ch:=fun z=>(Hs c z).2.2.1 x c e rfl
  by_cases hc:c∈X.fs
  ·obtain⟨sl,q⟩:=slot c o (I.LH x c e) hc Pd ho (I.fY x c e)
   exact⟨_,q,hd⟩
  ·exact⟨o,keep c o (I.LH x c e) hc Pd ho (I.fY x c e),hd⟩
 refine⟨I.ok,I.os,hg,⟨fun b o e n hb hx=>?_,fun b o e n hb hx=>?_,fun b o e n hx=>?_,fun b o e hx=>?_,fun b xs e=>lI b xs (I.base.lI b xs e),fun b o xs e=>kD b o xs (I.base.kD b o xs e),fun b ps e=>?_⟩,?_,fun x c e=>?_,?_,fun x c e=>?_,fun p hp=>?_,aM,I.len⟩
 ·exact keep b o (Xr b o e) hb (Se b o e hx) (I.base.keep b o e n hb hx) (I.base.free b o e n hx)
 ·obtain⟨sl,e1⟩:=I.base.slot b o e n hb hx
  obtain⟨YT,e2⟩:=slot b _ (Xr b o e) hb (Se b o e hx) e1 (I.base.free b o e n hx)
  exact⟨YT,e2⟩
 ·obtain⟨o',e1⟩:=I.base.there b o e hx
  exact free b o' (Se b o e hx) e1 (I.base.free b o e n hx)
 ·obtain⟨o',e1⟩:=I.base.there b o e hx
  exact there b o' (Se b o e hx) e1
 ·obtain⟨m1,e1⟩:=I.base.kE b ps e
  obtain⟨m2,e2⟩:=kE b _ e1
  exact⟨m1++m2,by rw[e2,Array.append_assoc]⟩
 ·obtain⟨m,hn,hl⟩:=I.loc
  refine⟨m,ns m hn,fun i x v e1 e2 e3=>?_⟩
  obtain⟨u,r,l⟩:=hl i x v e1 e2 e3
  refine⟨u,r,?_⟩
  rcases l with l | ⟨k,c,e,z⟩
  ·exact .inl l
  ·exact .inr ⟨k,c,e,cellK x c e _ z⟩
 ·obtain⟨v,z⟩:=I.cell x c e
  exact⟨v,cellK x c e v z⟩
 ·obtain⟨m,⟨o,_,_,ho,_⟩,_⟩:=I.loc
  exact free _ o (fun z=>(Hs _ z).2.1 rfl) ho I.free
 ·obtain⟨v,o,ho,hd⟩:=I.cell x c e
  exact free c o (fun z=>(Hs c z).2.2.1 x c e rfl) ho (I.fY x c e)
 ·obtain⟨e,n,ne,nf,d⟩:=I.pin p hp
  have Pd:p.1∉ch:=fun z=>(Hs p.1 z).2.2.2 p hp rfl
  exact⟨keep p.1 p.2 ne nf Pd e n,free p.1 p.2 Pd e n,ne,nf,d⟩
theorem Inv.un {t':Nat} (I:Inv X pins σ H s) (u:Un X.fs [] H H' s.heap h') (aM:kC X.prog X.w H' h'):Inv X pins σ H' { s with heap:=h',toks:=t' }:=by
 obtain⟨m,⟨o,es,ep,ho,r⟩,_⟩:=id I.loc
 obtain⟨sl,hL⟩:=u.any ho I.free (by simp)
 exact I.step (g':=s.gens) (d':=s.drawn) (ch:=[]) (fun _ z=>nomatch z) (fun b o _ hb _ e n=>u.keep b o e n hb (by simp)) (fun b o _ hb _ e n=>u.slot b o e n hb (by simp)) (fun b o _ e n=>u.free b o e n (by simp)) (fun b o _ e=>u.there b o e (by simp)) u.lI u.kD u.kE (fun m' hm=>by
  obtain⟨o',Sf,T3,xx,r'⟩:=hm
  rw[ho] at xx;cases xx
  exact⟨_,Sf,T3,hL,r'⟩) aM I.bare
theorem Inv.call {g':Array GenState}{t':Nat}{d':Drawn}{ch:List Addr} (I:Inv X pins σ H s) (u:Un (om X.stack) ch H H' s.heap h') (aM:kC X.prog X.w H' h') (hg:AllBare g')
  (Hs:∀ b∈ch,(b∈X.ex∨X.dj.heap.objs.size≤b)∧b≠X.env.locals∧(∀ x c,X.env.cells.lookup x=some c→c≠b)∧∀ p∈X.pn++pins,p.1≠b) :
  Inv X pins σ H' { s with heap:=h',gens:=g',drawn:=d',toks:=t' }:=by
 obtain⟨m,⟨o,es,ep,ho,r⟩,_⟩:=id I.loc
 obtain⟨sl,hL⟩:=u.any ho I.free fun z=>(Hs _ z).2.1 rfl
 exact I.step (ch:=ch) Hs (fun b o hL hb hc e n=>u.keep b o e n (fun z=>(zf.mp (I.mC b z)).elim hL hb) hc) (fun b o _ _ hc e n=>u.any e n hc) (fun b o hc e n=>u.free b o e n hc) (fun b o hc e=>u.there b o e hc) u.lI u.kD u.kE (fun m' hm=>by
  obtain⟨o',Sf,T3,xx,r'⟩:=hm
  rw[ho] at xx;cases xx
  exact⟨_,Sf,T3,hL,r'⟩) aM hg
theorem Inv.turned {t':Nat}{it:Addr} (I:Inv X pins σ H s) (k:∀ b o,b≠it→s.heap.get? b=some o→h'.get? b=some o) (hn:H it=none) (hL:it≠X.env.locals)
  (h1:it∈X.ex∨X.dj.heap.objs.size≤it) (h2:∀ x c,X.env.cells.lookup x=some c→c≠it) (h3:∀ p∈X.pn++pins,p.1≠it):Inv X pins σ H { s with heap:=h',toks:=t' }:=by
 have LI:∀ b u,H b=some u→b≠it:=fun b u e z=>by rw[z,hn] at e;cases e
 refine I.step (g':=s.gens) (d':=s.drawn) (ch:=[it]) (fun b hb=>?_) (fun b o _ _ hc e _=>k b o (fun z=>hc (by simp [z])) e) (fun b o _ _ hc e _=>⟨o.slots,k b o (fun z=>hc (by simp [z])) e⟩) (fun _ _ _ _ n=>n)
  (fun b o hc e=>⟨o,k b o (fun z=>hc (by simp [z])) e⟩) (fun _ _ e=>e) (fun _ _ _ e=>e) (fun b ps e=>⟨#[],by rw[e];simp⟩) (fun m hm=>?_) (fun b u e=>?_) I.bare
 ·have e:b=it:=by simpa using hb
  subst e
  exact⟨h1,hL,h2,h3⟩
 ·obtain⟨o,es,ep,ho,r⟩:=hm
  exact⟨o,es,ep,k _ o (Ne.symm hL) ho,r⟩
 ·refine (I.aM b u e).oj (fun c v hc q=>k c v ?_ q) (fun _ q=>q) fun _ _ q=>q
  rcases hc with z | z
  ·rw[z];exact LI b u e
  ·exact LI c _ z
theorem Inv.tok (I:Inv X pins σ H s) (t:Nat):Inv X pins σ H { s with toks:=t }:=I.un (h':=s.heap) (t':=t) Un.refl I.aM
theorem Inv.kept (I:Inv X pins σ H s) (k:∀ b u,s.heap.get? b=some u→h'.get? b=some u):Inv X pins σ H { s with heap:=h',toks:=t' }:=I.un (Un.kept k) (I.aM.kept k)
theorem Inv.laid {a:Addr}{o:HO}{t':Nat} (I:Inv X pins σ H s) (k:∀ b u,s.heap.get? b=some u→h'.get? b=some u) (hp:s.heap.objs.size≤a) (new:bh X.prog X.w (upd H a o) h' a o) :
  Inv X pins σ (upd H a o) { s with heap:=h',toks:=t' }:=I.un (Un.laid k hp (I.aM.fresh hp)) (I.aM.laid k hp new)
theorem Inv.write (I:Inv X pins σ H s) (mu:O_ (H x)) (he:e=x∨H e=some (.own x)) (k:∀ b u,b≠e→s.heap.get? b=some u→h'.get? b=some u) (Ov:∃ u,h'.get? e=some u)
  (new:bh X.prog X.w (upd H x o) h' x o):Inv X pins σ (upd H x o) { s with heap:=h',toks:=t' }:=I.un (Un.write mu he k Ov) (I.aM.write mu he k Ov new)
theorem Inv.weak (I:Inv X pins σ H s) (hl:aK.length=σ.length) (w:∀ (i:Nat) v,aK[i]?=some (some v)→σ[i]?=some (some v)):Inv X pins aK H s :=
 ⟨I.ok,I.os,I.bare,I.base,by obtain⟨m,hn,Xs⟩:=I.loc;exact⟨m,hn,fun i x v e1 e2 e3=>Xs i x v e1 (w i v e2) e3⟩,I.cell,I.free,I.fY,I.pin,I.aM,hl.trans I.len⟩
theorem Inv.lJ (I:Inv X pins σ H s) (h:∀ p∈pins',s.heap.get? p.1=some p.2∧H p.1=none∧p.1≠X.env.locals∧p.1∉X.fs∧∀ v,p.2.data≠.cell v):Inv X pins' σ H s :=
 ⟨I.ok,I.os,I.bare,I.base,I.loc,I.cell,I.free,I.fY,fun p hp=>(zI.mp hp).elim (fun z=>I.pin p (z0 _ z)) (h p),I.aM,I.len⟩
theorem vk {N:List Str} (hN:N.Nodup) {i j:Nat}{x:Str} (a:N[i]?=some x) (b:N[j]?=some x):i=j:=by
 obtain⟨h1,e1⟩:=zo.mp a
 obtain⟨h2,e2⟩:=zo.mp b
 exact (List.getElem_inj hN).mp (e1.trans e2.symm)
theorem sv {M:Model}{A:Around}{E:Value→Shared→Prop}{i:Nat}{x:Str}{v:V}{u:Value}{Q:Unit→Shared→Prop} (I:Inv X pins σ H s) (hN:X.N.Nodup) (hi:X.N[i]?=some x) (hx:Loc X.env.scope x) (r:RelV v u)
  (h:∀ s',Inv X pins (σ.set i (some v)) H s'→(∃ a,Heap.SameBut a s.heap s'.heap∧(a=X.env.locals∨X.env.cells.lookup x=some a))→Q () s') (hf:X.fn x=true∨X.env.scope.names.lookup x=some .local:=by first | exact .inl rfl | exact .inr rfl | assumption):wpAny M A (storeName X.env x u) Q E s:=by
 obtain⟨m,hn,hl⟩:=id I.loc
 have T4:(X.env.scope.kind == .class || (X.env.scope.kind == .module && X.env.locals != X.env.globals))=false:=by rw[I.ok.kind];rfl
 have Pe:i<σ.length:=by rw[I.len];exact (zo.mp hi).1
 have LH:=I.LH
 have tracked:∀ {a:Addr}{h':Heap},(∃ o,s.heap.get? a=some o∧H a=none)→Heap.SameBut a s.heap h'→kC X.prog X.w H h':=fun {a h'} ha hs b ob e=>by
  obtain⟨_,_,Kg⟩:=ha
  refine (I.aM b ob e).oj (fun c w' hc q=>(hs.2 c ?_).trans q) (fun _ q=>q) fun _ _ q=>q
  rintro rfl
  rcases hc with rfl | hc
  ·rw[Kg] at e;cases e
  ·rw[Kg] at hc;cases hc
 rcases hx with hk | hk
 ·refine wpAny_storeName_local hk hn (fun h' Ht hs=>?_) T4
  obtain⟨oL,_,_,Eb,_⟩:=id hn
  refine h _ ⟨I.ok,I.os,I.bare,⟨fun b o e n hb hx=>?_,fun b o e n hb hx=>?_,I.base.free,fun b o e hx=>?_,I.base.lI,I.base.kD,I.base.kE⟩,⟨_,Ht,fun j y v' e1 e2 e3=>?_⟩,fun y c e=>?_,I.free,I.fY,fun p hp=>?_,tracked ⟨oL,Eb,I.free⟩ hs,by simpa using I.len⟩ ⟨_,hs,.inl rfl⟩
  ·exact (hs.2 b (zw (zk (zq e) I.ok.above))).trans (I.base.keep b o e n hb hx)
  ·obtain⟨sl,e1⟩:=I.base.slot b o e n hb hx
   exact⟨sl,(hs.2 b (zw (zk (zq e) I.ok.above))).trans e1⟩
  ·obtain⟨o',e1⟩:=I.base.there b o e hx
   exact⟨o',(hs.2 b (zw (zk (zq e) I.ok.above))).trans e1⟩
  ·by_cases hj:j=i
   ·subst hj
    rw[hi] at e1;cases e1
    rw[List.getElem?_set_self Pe] at e2
    cases e2
    exact⟨u,r,.inl ⟨hk,by simp⟩⟩
   ·rw[List.getElem?_set_ne (Ne.symm hj)] at e2
    obtain⟨u',r',q⟩:=hl j y v' e1 e2 e3
    refine⟨u',r',?_⟩
    rcases q with ⟨k,e⟩ | ⟨k,c,e,z⟩
    ·refine .inl ⟨k,?_⟩
     have:y≠x:=fun e=>hj (vk hN e1 (e ▸ hi))
     simp [this,e]
    ·exact .inr ⟨k,c,e,z.sameBut hs (LH y c e)⟩
  ·obtain⟨w',z⟩:=I.cell y c e
   exact⟨w',z.sameBut hs (LH y c e)⟩
  ·obtain⟨e,n,ne,nf,d⟩:=I.pin p hp
   exact⟨(hs.2 p.1 ne).trans e,n,ne,nf,d⟩
 ·have T5:X.fn x=true:=by
   rcases hf with z | z
   ·exact z
   ·rw[z] at hk;cases hk
  obtain⟨c,hc⟩:=I.ok.has x (.inl hk)
  obtain⟨w',z⟩:=I.cell x c hc
  refine wpAny_storeName_cell I.ok.kind hk hc z (fun h' LJ hs=>?_)
  obtain⟨oc,Sh,T6⟩:=id z
  refine h { s with heap:=h' } ⟨I.ok,I.os,I.bare,⟨fun b o e n hb hx=>?_,fun b o e n hb hx=>?_,I.base.free,fun b o e hx=>?_,I.base.lI,I.base.kD,I.base.kE⟩,⟨m,hn.sameBut hs (Ne.symm (LH x c hc)),fun j y v' e1 e2 e3=>?_⟩,fun y c' e=>?_,I.free,I.fY,fun p hp=>?_,tracked ⟨oc,Sh,I.fY x c hc⟩ hs,by simpa using I.len⟩ ⟨c,hs,.inr hc⟩
  ·exact (hs.2 b (zw (zk (zq e) (I.ok.TZ x c T5 hc)))).trans (I.base.keep b o e n hb hx)
  ·obtain⟨sl,e1⟩:=I.base.slot b o e n hb hx
   exact⟨sl,(hs.2 b (zw (zk (zq e) (I.ok.TZ x c T5 hc)))).trans e1⟩
  ·obtain⟨o',e1⟩:=I.base.there b o e hx
   exact⟨o',(hs.2 b (zw (zk (zq e) (I.ok.TZ x c T5 hc)))).trans e1⟩
  ·by_cases hj:j=i
   ·subst hj
    rw[hi] at e1;cases e1
    rw[List.getElem?_set_self Pe] at e2
    cases e2
    exact⟨u,r,.inr ⟨.inl hk,c,hc,LJ⟩⟩
   ·rw[List.getElem?_set_ne (Ne.symm hj)] at e2
    obtain⟨u',r',q⟩:=hl j y v' e1 e2 e3
    refine⟨u',r',?_⟩
    rcases q with q | ⟨k,c',e,z'⟩
    ·exact .inl q
    ·refine .inr ⟨k,c',e,z'.sameBut hs ?_⟩
     rintro rfl
     exact hj (vk hN e1 (I.ok.inj _ _ _ e hc ▸ hi))
  ·by_cases Xt:c'=c
   ·subst Xt;exact⟨_,LJ⟩
   ·obtain⟨w2,z2⟩:=I.cell y c' e
    exact⟨w2,z2.sameBut hs Xt⟩
  ·obtain⟨e,n,ne,nf,d⟩:=I.pin p hp
   refine⟨(hs.2 p.1 ?_).trans e,n,ne,nf,d⟩
   intro q
   rw[q,Sh] at e
   have q':oc=p.2:=zN e
   exact d w' (by rw[← q'];exact T6)
theorem pb (I:Inv X pins σ H s) (hN:X.N.Nodup) (hi:X.N[i]?=some x) (hx:Loc X.env.scope x) (r:RelV v u)
  (h:∀ s',Inv X pins (σ.set i (some v)) H s'→Q () s') (hf:X.fn x=true∨X.env.scope.names.lookup x=some .local:=by first | exact .inl rfl | exact .inr rfl | assumption):wpAny M A (storeName X.env x u) Q E s :=
 sv I hN hi hx r (fun s' I' _=>h s' I') hf
theorem Inv.Pf (I:Inv X pins σ H s) (ho:s'.os=s.os) (u:Un (om X.stack) ch H H' s.heap s'.heap) (aM:kC X.prog X.w H' s'.heap) (hg:AllBare s'.gens)
  (Hs:∀ b∈ch,(b∈X.ex∨X.dj.heap.objs.size≤b)∧b≠X.env.locals∧(∀ x c,X.env.cells.lookup x=some c→c≠b)∧∀ p∈X.pn++pins,p.1≠b):Inv X pins σ H' s':=by
 obtain⟨h',g',d',t',o'⟩:=s'
 have e:o'=s.os:=ho
 subst e
 exact I.call (g':=g') (t':=t') (d':=d') u aM hg Hs
end
abbrev XK:=Value→Option Addr→Hp→Prop
abbrev St:=List (Option V)
abbrev VK:=V→Hp→Prop
abbrev TE:=St→Hp→VK→Prop
abbrev TT:=St→Hp→(Bool→Hp→Prop)→Prop
abbrev TA:=St→Hp→(List V→Hp→Prop)→Prop
structure Ends where
 nx:St→Hp→Prop
 rt:VK
 bk:St→Hp→Prop:=fun _ _=>False
 ct:St→Hp→Prop:=fun _ _=>False
abbrev TS:=Ends→St→Hp→Prop
def EP (X:Cx) (pins:List (Addr×Obj)) (σ:St) (Q:VK) (u:Value) (s':Shared):Prop:=∃ v H',Inv X pins σ H' s'∧RelV v u∧Q v H'
def TP (X:Cx) (pins:List (Addr×Obj)) (σ:St) (Q:Bool→Hp→Prop) (b:Bool) (s':Shared):Prop:=∃ H',Inv X pins σ H' s'∧Q b H'
def AP (X:Cx) (pins:List (Addr×Obj)) (σ:St) (Q:List V→Hp→Prop) (us:List Value) (s':Shared):Prop:=∃ vs H',Inv X pins σ H' s'∧Vals vs us∧Q vs H'
def SP (X:Cx) (pins:List (Addr×Obj)) (D:Ends) (f:Flow) (s':Shared):Prop :=
 match f with
 | .next=>∃ aK H',Inv X pins aK H' s'∧D.nx aK H'
 | .brk=>∃ aK H',Inv X pins aK H' s'∧D.bk aK H'
 | .cont=>∃ aK H',Inv X pins aK H' s'∧D.ct aK H'
 | .ret u=>∃ v aK H',Inv X pins aK H' s'∧RelV v u∧D.rt v H'
def PE (X:Cx) (e:Expr) (t:TE):Prop :=
 ∀ (pins:List (Addr×Obj)) (s:Shared) (σ:St) (H:Hp) (Q:VK),Inv X pins σ H s→t σ H Q→wpAny (model X.prog X.w) X.A (eval e X.env) (EP X pins σ Q) X.xe s
def PT (X:Cx) (e:Expr) (t:TT):Prop :=
 ∀ (pins:List (Addr×Obj)) (s:Shared) (σ:St) (H:Hp) (Q:Bool→Hp→Prop),Inv X pins σ H s→t σ H Q→wpAny (model X.prog X.w) X.A (isTrue e X.env (eval e X.env)) (TP X pins σ Q) X.xe s
def PW (X:Cx) (e:Expr) (t:TT):Prop :=
 ∀ (whole:Sem Value) (pins:List (Addr×Obj)) (s:Shared) (σ:St) (H:Hp) (Q:Bool→Hp→Prop),Inv X pins σ H s→t σ H Q→wpAny (model X.prog X.w) X.A (isTrue e X.env whole) (TP X pins σ Q) X.xe s
theorem PW.pt (h:PW X e t):PT X e t:=h _
def PA (X:Cx) (es:List Expr) (t:TA):Prop :=
 ∀ (pos:Pos) (pins:List (Addr×Obj)) (s:Shared) (σ:St) (H:Hp) (Q:List V→Hp→Prop),Inv X pins σ H s→t σ H Q→wpAny (model X.prog X.w) X.A (spliced (backTo pos (starEach es X.env))) (AP X pins σ Q) X.xe s
def PS (X:Cx) (st:Stmt) (t:TS):Prop :=
 ∀ (pins:List (Addr×Obj)) (s:Shared) (σ:St) (H:Hp) (D:Ends),Inv X pins σ H s→t D σ H→wpAny (model X.prog X.w) X.A (exec st X.env) (SP X pins D) X.xe s
def A4 (X:Cx) (st:List Stmt) (t:TS):Prop :=
 ∀ (pins:List (Addr×Obj)) (s:Shared) (σ:St) (H:Hp) (D:Ends),Inv X pins σ H s→t D σ H→wpAny (model X.prog X.w) X.A (execs st X.env) (SP X pins D) X.xe s
theorem br (h:wpAny M A t Q E s) (hQ:∀ a s,Q a s→Q' a s):wpAny M A t Q' E s:=yz h hQ fun _ _ x=>x
section
variable {X:Cx}
def T7 (i:Nat):TE:=fun σ H Q=>∃ v,σ[i]?=some (some v)∧Q v H
def tC (v:V):TE:=fun _ H Q=>Q v H
theorem LK (hN:X.N[i]?=some x) (hv:Ox X.env.scope x) (hd:(x == ("__debug__" : Str))=false:=by decide) (rh:(x == ("__classdict__" : Str))=false:=by decide):PE X (.Name x pos) (T7 i):=by
 intro pins s σ H Q I h
 obtain⟨v,e,h⟩:=h
 obtain⟨m,hn,hl⟩:=I.loc
 obtain⟨u,r,l⟩:=hl i x v hN e hv
 have fin:EP X pins σ Q u s:=⟨v,H,I,r,h⟩
 rcases l with ⟨hk,hm⟩ | ⟨hk,c,hc,A5⟩
 ·exact wpAny_Name (wpAny_loadName_local I.ok.kind hk hn hm fin) hd
 ·rcases hk with hk | hk
  ·exact wpAny_Name (wpAny_loadName_cell I.ok.kind hk hc A5 fin) hd
  ·exact wpAny_Name (wpAny_loadName_free I.ok.kind hk hc A5 fin rh) hd
theorem LL:PE X (.Constant (.int i) j pos) (tC (.int i)):=fun _ _ _ H _ I h=>wpAny_Constant_int ⟨.int i,H,I.tok _,⟨_,rfl⟩,h⟩
theorem Kh:PE X (.Constant (.bool b) j pos) (tC (.bl b)):=fun _ _ _ H _ I h=>Constant_bool ⟨.bl b,H,I,rfl,h⟩
theorem LM:PE X (.Constant .none j pos) (tC .au):=fun _ _ _ H _ I h=>Constant_none ⟨.au,H,I,rfl,h⟩
theorem LN:PE X (.Constant (.str x) j pos) (tC (.str x)):=fun _ _ _ H _ I h=>Calls.Constant_str ⟨.str x,H,I.tok _,⟨_,rfl⟩,h⟩
def Gl (X:Cx) (x:Str):Prop:=X.env.kindOf x=some .globalImplicit
theorem oT (I:Inv X pins σ H s) (hg:Gl X x) (hm:X.mg x=some u) (h:Q u s)
  (hd:(x == ("__debug__" : Str))=false:=by decide):wpAny (model X.prog X.w) X.A (eval (.Name x pos) X.env) Q E s :=
 Calls.Name_function_global I.ok.kind hg (Calls.loadGlobal_global (by rw[I.ok.glob];exact I.mod.glob.keeps I.bk) hm h) hd
theorem g8 (I:Inv X pins σ H s) (hg:Gl X x) (hm:X.mg x=none) (hv:bootBuiltins x=some u) (h:Q u s)
  (hn:x ≠ "__name__" := by decide) (hd:(x == ("__debug__" : Str))=false:=by decide):wpAny (model X.prog X.w) X.A (eval (.Name x pos) X.env) Q E s:=by
 obtain⟨mb,h1,h2⟩:=I.mod.blt
 exact Calls.Name_function_global I.ok.kind hg (Calls.loadGlobal_builtin (by rw[I.ok.glob];exact I.mod.glob.keeps I.bk) hm (by rw[I.ok.blt];exact h1.keeps I.bk) ((h2 x hn).trans hv) h) hd
theorem A6 (hg:Gl X x) (hm:X.mg x=some u) (r:RelV v u) (hd:(x == ("__debug__" : Str))=false:=by decide):PE X (.Name x pos) (tC v) :=
 fun _ _ _ H _ I h=>oT I hg hm ⟨v,H,I,r,h⟩ hd
theorem HN (hg:Gl X x) (hm:X.mg x=none) (hv:bootBuiltins x=some u) (r:RelV v u) (hn:x ≠ "__name__" := by decide) (hd:(x == ("__debug__" : Str))=false:=by decide):PE X (.Name x pos) (tC v) :=
 fun _ _ _ H _ I h=>g8 I hg hm hv ⟨v,H,I,r,h⟩ hn hd
variable {a b:Expr}{ta tb:TE}{pos:Pos}
def tB (t:TE):TT:=fun σ H Q=>t σ H fun x H1=>∃ c,x=.bl c∧Q c H1
theorem LO (h:PE X e t) (he:∀ whole,isTrue e X.env whole=(do let v ← whole;standAt e.pos;holding [v] (truthy v)):=by intro _;rfl):PT X e (tB t):=by
 intro pins s σ H Q I hw
 refine isTrue_plain (br (h pins s σ H _ I hw) fun v s1 ⟨x,H1,I1,r1,q1⟩=>?_) (he _)
 obtain⟨d,rfl,q⟩:=q1
 cases r1
 exact yh ⟨H1,I1,q⟩
variable {tA Si:TT}{rest:List Expr}
def T8 (t u:TT):TT:=fun σ H Q=>t σ H fun c H1=>if c=true then u σ H1 Q else Q false H1
def YU (t u:TT):TT:=fun σ H Q=>t σ H fun c H1=>if c=true then Q true H1 else u σ H1 Q
def T9 (t:TT):TT:=fun σ H Q=>t σ H fun c H1=>Q (!c) H1
theorem pw_and1 (ha:PT X a tA):PW X (.BoolOp .And [a] pos) tA:=by
 intro wh pins s σ H Q I h
 refine isTrue_and (br (ha pins s σ H Q I h) fun c s1 e=>?_)
 cases c with
 | true=>exact isTrue_and_nil e
 | false=>exact e
theorem pw_or1 (ha:PT X a tA):PW X (.BoolOp .Or [a] pos) tA:=by
 intro wh pins s σ H Q I h
 refine isTrue_or (br (ha pins s σ H Q I h) fun c s1 e=>?_)
 cases c with
 | false=>exact isTrue_or_nil e
 | true=>exact e
theorem pw_and (ha:PT X a tA) (hb:PW X (.BoolOp .And (b :: rest) pos) Si):PW X (.BoolOp .And (a :: b :: rest) pos) (T8 tA Si):=by
 intro wh pins s σ H Q I h
 refine isTrue_and (br (ha pins s σ H _ I h) fun c s1 ⟨H1,I1,q1⟩=>?_)
 cases c with
 | true=>exact hb wh pins s1 σ H1 Q I1 q1
 | false=>exact⟨H1,I1,q1⟩
theorem pw_or (ha:PT X a tA) (hb:PW X (.BoolOp .Or (b :: rest) pos) Si):PW X (.BoolOp .Or (a :: b :: rest) pos) (YU tA Si):=by
 intro wh pins s σ H Q I h
 refine isTrue_or (br (ha pins s σ H _ I h) fun c s1 ⟨H1,I1,q1⟩=>?_)
 cases c with
 | true=>exact⟨H1,I1,q1⟩
 | false=>exact hb wh pins s1 σ H1 Q I1 q1
theorem LP (ha:PT X a tA):PT X (.UnaryOp .Not a pos) (T9 tA):=by
 intro pins s σ H Q I h
 exact isTrue_not (ha pins s σ H (fun c H1=>Q (!c) H1) I h)
def Pg (ta tb:TE):TE:=fun σ H Q=>ta σ H fun x H1=>∃ c,x=.bl c∧if c=true then tb σ H1 Q else Q (.bl false) H1
def T_ (ta tb:TE):TE:=fun σ H Q=>ta σ H fun x H1=>∃ c,x=.bl c∧if c=true then Q (.bl true) H1 else tb σ H1 Q
def Ph (ta:TE):TE:=fun σ H Q=>ta σ H fun x H1=>∃ c,x=.bl c∧Q (.bl (!c)) H1
theorem LQ (h:PE X a t):PE X (.BoolOp op [a] pos) t:=fun pins s σ H Q I hw=>BoolOp_one (h pins s σ H Q I hw)
theorem LR (ha:PE X a ta) (hb:PE X (.BoolOp .And (b :: rest) pos) tb):PE X (.BoolOp .And (a :: b :: rest) pos) (Pg ta tb):=by
 intro pins s σ H Q I h
 refine BoolOp_and (br (ha pins s σ H _ I h) fun v s1 ⟨x,H1,I1,r1,q1⟩=>?_)
 obtain⟨c,rfl,q1⟩:=q1
 cases r1
 refine yh ?_
 cases c with
 | true=>exact hb pins s1 σ H1 Q I1 q1
 | false=>exact⟨.bl false,H1,I1,rfl,q1⟩
theorem Pj (ha:PE X a ta) (hb:PE X (.BoolOp .Or (b :: rest) pos) tb):PE X (.BoolOp .Or (a :: b :: rest) pos) (T_ ta tb):=by
 intro pins s σ H Q I h
 refine BoolOp_or (br (ha pins s σ H _ I h) fun v s1 ⟨x,H1,I1,r1,q1⟩=>?_)
 obtain⟨c,rfl,q1⟩:=q1
 cases r1
 refine yh ?_
 cases c with
 | false=>exact hb pins s1 σ H1 Q I1 q1
 | true=>exact⟨.bl true,H1,I1,rfl,q1⟩
theorem LS (ha:PE X a ta):PE X (.UnaryOp .Not a pos) (Ph ta):=by
 intro pins s σ H Q I h
 refine UnaryOp_ (br (ha pins s σ H _ I h) fun v s1 ⟨x,H1,I1,r1,q1⟩=>?_)
 obtain⟨c,rfl,q1⟩:=q1
 cases r1
 exact not_of (yh ⟨.bl (!c),H1,I1,rfl,q1⟩)
def YV (t:TT) (ta tb:TE):TE:=fun σ H Q=>t σ H fun c H1=>if c=true then ta σ H1 Q else tb σ H1 Q
theorem Em (hc:PT X c tA) (ha:PE X a ta) (hb:PE X b tb):PE X (.IfExp c a b pos) (YV tA ta tb):=by
 intro pins s σ H Q I h
 refine wpAny_IfExp (br (hc pins s σ H _ I h) fun d s1 ⟨H1,I1,q1⟩=>?_)
 cases d with
 | true=>exact ha pins s1 σ H1 Q I1 q1
 | false=>exact hb pins s1 σ H1 Q I1 q1
end
def jH (K:PySem.W.Frag) (H:Hp) (a:Addr) (xs:List V):Prop :=
 Rd H a (.lst xs) ∨
  ∃ (o:Obj) (ax:Array Value) (n:Nat),K.lookup a=some o∧o.cls=.type "list" ∧ o.dict=none∧o.data=.seq ax n∧ax.size≤sizeLine∧Vals xs ax.toList
def iQ (K:PySem.W.Frag) (H:Hp) (a:Addr) (xs:List V):Prop :=
 Rd H a (.tup xs) ∨
  ∃ (o:Obj) (ax:Array Value) (n:Nat),K.lookup a=some o∧o.cls=.type "tuple" ∧ o.data=.seq ax n∧ax.size≤sizeLine∧Vals xs ax.toList
def Ua:Value→Option V
 | .none=>some .au
 | .bool b=>some (.bl b)
 | .int i _=>some (.int i)
 | .str x _=>some (.str x)
 | .bytes b _=>some (.A3 b)
 | .float b _=>some (.LC b)
 | .ref a=>some (.ref a)
 | .type n=>some (.ty n)
 | _=>none
theorem RelV.abs (r:RelV x u):Ua u=some x:=by
 cases x with
 | au=>cases r;rfl
 | bl _=>cases r;rfl
 | int _=>obtain⟨t,rfl⟩:=r;rfl
 | str _=>obtain⟨t,rfl⟩:=r;rfl
 | A3 _=>obtain⟨t,rfl⟩:=r;rfl
 | LC _=>obtain⟨t,rfl⟩:=r;rfl
 | ref _=>cases r;rfl
 | ty _=>cases r;rfl
theorem RelV.inj (r:RelV x u) (q:RelV y u):x=y:=zN (r.abs.symm.trans q.abs)
theorem Vals.inj:∀ {xs ys:List V}{us:List Value},Vals xs us→Vals ys us→xs=ys
 | _,_,_,.nil,.nil=>rfl
 | _,_,_,.cons r t,.cons r' t'=>by rw[r.inj r',Vals.inj t t']
section
variable {X:Cx}{pins:List (Addr×Obj)}{σ:St}{H:Hp}{s:Shared}{a:Addr}{xs ys:List V}
theorem jH.of {K:PySem.W.Frag} (h:H a=some (.lst xs)):jH K H a xs:=.inl (.inl h)
theorem iQ.of {K:PySem.W.Frag} (h:H a=some (.tup xs)):iQ K H a xs:=.inl (.inl h)
theorem Inv.list (I:Inv X pins σ H s) (h:jH X.K H a xs):∃ ax:List Value,Vals xs ax∧PlainL s.heap a ax.toArray∧xs.length≤sizeLine:=by
 rcases h with h | ⟨o,ax,n,hk,hc,hd,hs,hz,r⟩
 ·obtain⟨z,ax,n,r,e⟩:=h.ok I.aM
  exact⟨ax,r,⟨_,n,e,rfl,rfl,rfl⟩,z⟩
 ·refine⟨ax.toList,r,⟨o,n,I.nO a o hk,hc,hd,by simpa using hs⟩,?_⟩
  have e:=r.length
  simp only [zO] at e
  omega
theorem Inv.tuple (I:Inv X pins σ H s) (h:iQ X.K H a xs):∃ ax:List Value,Vals xs ax∧IsTup s.heap a ax.toArray∧xs.length≤sizeLine:=by
 rcases h with h | ⟨o,ax,n,hk,hc,hs,hz,r⟩
 ·obtain⟨z,ax,r,p⟩:=h.ok I.aM
  exact⟨ax,r,p.tup,z⟩
 ·refine⟨ax.toList,r,⟨o,I.nO a o hk,hc,n,by simpa using hs⟩,?_⟩
  have e:=r.length
  simp only [zO] at e
  omega
theorem Inv.vm (I:Inv X pins σ H s) (h:jH X.K H a xs) (h':jH X.K H a ys):xs=ys:=by
 obtain⟨ax,r,⟨o,n,e,_,_,d⟩,_⟩:=I.list h
 obtain⟨its',r',⟨o',n',e',_,_,d'⟩,_⟩:=I.list h'
 rw[e] at e';cases e'
 rw[d] at d'
 injection d' with d1 _
 have:ax=its':=by simpa using congrArg Array.toList d1
 subst this
 exact r.inj r'
theorem Inv.jI (I:Inv X pins σ H s) (h:iQ X.K H a xs) (h':iQ X.K H a ys):xs=ys:=by
 obtain⟨ax,r,⟨o,e,_,n,d⟩,_⟩:=I.tuple h
 obtain⟨its',r',⟨o',e',_,n',d'⟩,_⟩:=I.tuple h'
 rw[e] at e';cases e'
 rw[d] at d'
 injection d' with d1 _
 have:ax=its':=by simpa using congrArg Array.toList d1
 subst this
 exact r.inj r'
end
abbrev Cx.YW (X:Cx) (E:Value→Shared→Prop):Cx:={ X with xe:=E }
section
variable {X:Cx}{pins:List (Addr×Obj)}{σ:St}{H:Hp}{s:Shared}{E:Value→Shared→Prop}
end
section
variable {X:Cx}{st:Stmt}{rest:List Stmt}{t u:TS}{e:Expr}{te:TE}{pos:Pos}
def Pk:TS:=fun D σ H=>D.nx σ H
def Ub (t u:TS):TS:=fun D σ H=>t { D with nx:=u D } σ H
theorem HP:A4 X [] Pk:=fun _ _ σ H _ I h=>wpAny_execs_nil ⟨σ,H,I,h⟩
theorem En (h1:PS X st t) (h2:A4 X rest u):A4 X (st :: rest) (Ub t u):=by
 intro pins s σ H D I h
 refine wpAny_execs_cons (br (h1 pins s σ H { D with nx:=u D } I h) fun f s1 q=>?_)
 cases f with
 | next =>
  obtain⟨aK,H',I',q⟩:=q
  exact h2 pins s1 aK H' D I' q
 | ret v=>exact q
 | brk=>exact q
 | cont=>exact q
theorem HQ (h1:PS X st t):A4 X [st] t:=by
 intro pins s σ H D I h
 refine wpAny_execs_cons (br (h1 pins s σ H D I h) fun f s1 q=>?_)
 cases f with
 | next=>exact wpAny_execs_nil q
 | ret v=>exact q
 | brk=>exact q
 | cont=>exact q
theorem Inv.quiet (I:Inv X pins σ H s):interactive X.env=false:=by simp [interactive,I.ok.kind]
def Pl (te:TE):TS:=fun D σ H=>te σ H fun _ H1=>D.nx σ H1
theorem HR (he:PE X e te) (hs:swapsWith e none pos.line X.env=pure false:=by rfl):PS X (.Expr e pos) (Pl te):=by
 intro pins s σ H D I h
 exact wpAny_Expr_any (br (he pins s σ H _ I h) <| by rintro v s1 ⟨x,H1,I1,r1,q1⟩;exact⟨σ,H1,I1,q1⟩) I.quiet hs
def Uc (te:TE):TS:=fun D σ H=>te σ H D.rt
theorem LU (he:PE X e te):PS X (.Return (some e) pos) (Uc te):=by
 intro pins s σ H D I h
 exact wpAny_Return_some (br (he pins s σ H _ I h) <| by rintro v s1 ⟨x,H1,I1,r1,q1⟩;exact⟨x,σ,H1,I1,r1,q1⟩)
def Ud (c:TT) (t u:TS):TS:=fun D σ H=>c σ H fun b H1=>if b=true then t D σ H1 else u D σ H1
theorem Pm (hc:PT X c tc) (ha:A4 X a t) (hb:A4 X b u):PS X (.If c a b pos) (Ud tc t u):=by
 intro pins s σ H D I h
 refine wpAny_If (br (hc pins s σ H _ I h) fun d s1 ⟨H1,I1,q1⟩=>?_)
 cases d with
 | true=>exact ha pins s1 σ H1 D I1 q1
 | false=>exact hb pins s1 σ H1 D I1 q1
end
abbrev TG:=V→St→Hp→(St→Hp→Prop)→Prop
abbrev Oy:=List V→St→Hp→(St→Hp→Prop)→Prop
def PG (X:Cx) (target:Expr) (t:TG):Prop :=
 ∀ (pins:List (Addr×Obj)) (s:Shared) (σ:St) (H:Hp) (v:V) (u:Value) (Q:St→Hp→Prop),Inv X pins σ H s→RelV v u→t v σ H Q →
  wpAny (model X.prog X.w) X.A (assign target X.env u) (fun _ s'=>∃ aK H',Inv X pins aK H' s'∧Q aK H') X.xe s
def Ki (X:Cx) (ts:List Expr) (t:Oy):Prop :=
 ∀ (pins:List (Addr×Obj)) (s:Shared) (σ:St) (H:Hp) (vs:List V) (us:List Value) (Q:St→Hp→Prop),Inv X pins σ H s→Vals vs us→t vs σ H Q →
  wpAny (model X.prog X.w) X.A (assignInOrder ((assignEach ts X.env).map (·.2)) us) (fun _ s'=>∃ aK H',Inv X pins aK H' s'∧Q aK H') X.xe s
abbrev Pn:=V→V→V→Hp→(Hp→Prop)→Prop
def Po (X:Cx) (t:Pn):Prop :=
 ∀ (pins:List (Addr×Obj)) (s:Shared) (σ:St) (H:Hp) (o i v:V) (ov iv u:Value) (Q:Hp→Prop),Inv X pins σ H s→RelV o ov→RelV i iv→RelV v u→t o i v H Q →
  wpAny (model X.prog X.w) X.A (setItem ov iv u) (fun _ s'=>∃ H',Inv X pins σ H' s'∧Q H') X.xe s
abbrev Ue:=V→V→Hp→VK→Prop
def Xu (X:Cx) (op:Operator) (t:Ue):Prop :=
 ∀ (pins:List (Addr×Obj)) (s:Shared) (σ:St) (H:Hp) (x y:V) (v u:Value) (Q:VK),Inv X pins σ H s→RelV x v→RelV y u→t x y H Q →
  wpAny (model X.prog X.w) X.A (inplaceOp op v u) (EP X pins σ Q) X.xe s
section
variable {X:Cx}{pos:Pos}
def iC (i:Nat):TG:=fun v σ H Q=>Q (σ.set i (some v)) H
theorem oU (hN:X.N.Nodup) (hi:X.N[i]?=some x) (hx:Loc X.env.scope x) (hf:X.fn x=true∨X.env.scope.names.lookup x=some .local:=by first | exact .inl rfl | exact .inr rfl | assumption):PG X (.Name x pos) (iC i):=by
 intro pins s σ H v u Q I r h
 exact wpAny_assign_Name (pb I hN hi hx r (fun s' I'=>⟨_,H,I',h⟩) hf)
def HS:Oy:=fun vs σ H Q=>vs=[]∧Q σ H
def pd (t:TG) (u:Oy):Oy:=fun vs σ H Q=>∃ v r,vs=v :: r∧t v σ H fun aK H'=>u r aK H' Q
theorem A7:Ki X [] HS:=by
 intro pins s σ H vs us Q I r h
 obtain⟨e,h⟩:=h
 subst e
 cases r
 exact assignInOrder_nil ⟨σ,H,I,h⟩
theorem pe (h1:PG X e t) (h2:Ki X es u)
  (hs:(assignEach (e :: es) X.env).map (·.2)=assign e X.env :: (assignEach es X.env).map (·.2):=by rfl):Ki X (e :: es) (pd t u):=by
 intro pins s σ H vs us Q I r h
 obtain⟨v,vr,e1,h⟩:=h
 subst e1
 cases r with
 | cons r rr =>
  rw[hs]
  refine assignInOrder_cons (br (h1 pins s σ H _ _ _ I r h) fun _ s1 ⟨vg,H1,I1,q1⟩=>?_)
  exact h2 pins s1 vg H1 _ _ Q I1 rr q1
def HU (K:PySem.W.Frag) (n:Nat) (t:Oy):TG:=fun v σ H Q=>∃ a xs,v=.ref a∧iQ K H a xs∧xs.length=n∧t xs σ H Q
theorem Eo (hc:X.calm=true) (h:Ki X es t)
  (hn:(assignEach es X.env).length=n:=by rfl) (xy:(assignEach es X.env).findIdx? (·.1)=none:=by rfl):PG X (.Tuple es k pos) (HU X.K n t):=by
 intro pins s σ H v u Q I r hw
 obtain⟨a,xs,e1,hq,hl,hw⟩:=hw
 subst e1
 cases r
 obtain⟨ax,rv,ht,hz⟩:=I.tuple hq
 refine assign_Tuple_tuple (I.ok.hd hc) ht (by simp [hn,← hl,rv.length]) xy fun h' hx=>?_
 have I1:Inv X pins σ H { s with heap:=h' }:=I.kept (t':=s.toks) fun b o e=>hx b o (zw (zq e)) e
 exact h pins _ σ H xs _ Q I1 (by simpa using rv) hw
def Ug (to ti:TE) (t:Pn):TG:=fun v σ H Q=>to σ H fun o H1=>ti σ H1 fun i H2=>t o i v H2 fun H3=>Q σ H3
theorem LV (ho:PE X o to) (hi:PE X i ti) (hs:Po X t)
  (ha:∀ v,assign (.Subscript o i pos) X.env v=(do
   let ov ← holding [v] (eval o X.env)
   let iv ← holding [v,ov] (eval i X.env)
   standAt pos
   holding [v,ov,iv] (setItem ov iv v)
   release [v,ov,iv] []):=by intro _;rfl):PG X (.Subscript o i pos) (Ug to ti t):=by
 intro pins s σ H v u Q I r h
 rw[ha]
 refine za (yy (br (ho pins s σ H _ I h) fun ov s1 ⟨x,H1,I1,r1,q1⟩=>?_))
 refine za (yy (br (hi pins s1 σ H1 _ I1 q1) fun iv s2 ⟨y,H2,I2,r2,q2⟩=>?_))
 refine za (wpAny_standAt (za (yy (br (hs pins s2 σ H2 x y v ov iv u _ I2 r1 r2 r q2) fun _ s3 ⟨H3,I3,q3⟩=>?_))))
 exact wpAny_release ⟨σ,H3,I3,q3⟩
def LW (te:TE) (g:TG):TS:=fun D σ H=>te σ H fun x H1=>g x σ H1 D.nx
theorem Ep (he:PE X e te) (hg:PG X tg g) (hs:swapsWithSole [tg] e pos.line X.env=pure false:=by rfl) (hw:swappedStores [tg] e X.env=pure none:=by rfl)
  (h1:(assignEach [tg] X.env).map (·.2)=[assign tg X.env]:=by rfl):PS X (.Assign [tg] e pos) (LW te g):=by
 intro pins s σ H D I h
 refine wpAny_Assign_stores (br (he pins s σ H _ I h) fun v s1 ⟨x,H1,I1,r1,q1⟩=>?_) hs hw
 rw[h1]
 exact br (hg pins s1 σ H1 x v _ I1 r1 q1) fun _ s2 q=>q
theorem LX (hN:X.N.Nodup) (hi:X.N[i]?=some x) (hx:Loc X.env.scope x) (he:PE X e te) (hs:swapsWith e (some (.Name x pos')) pos.line X.env=pure false:=by rfl) (hf:X.fn x=true∨X.env.scope.names.lookup x=some .local:=by first | exact .inl rfl | exact .inr rfl | assumption) :
  PS X (.Assign [.Name x pos'] e pos) (LW te (iC i)):=by
 intro pins s σ H D I h
 refine wpAny_Assign_Name (br (he pins s σ H _ I h) fun v s1 ⟨y,H1,I1,r1,q1⟩=>?_) hs
 exact pb I1 hN hi hx r1 (fun s2 I2=>⟨_,H1,I2,q1⟩) hf
def Uh (i:Nat) (te:TE) (ti:Ue):TS:=fun D σ H=>∃ x,σ[i]?=some (some x)∧te σ H fun y H1=>ti x y H1 fun z H2=>D.nx (σ.set i (some z)) H2
theorem LY (hN:X.N.Nodup) (hi:X.N[i]?=some x) (hx:Loc X.env.scope x) (he:PE X e te) (ho:Xu X op ti) (hf:X.fn x=true∨X.env.scope.names.lookup x=some .local:=by first | exact .inl rfl | exact .inr rfl | assumption) :
  PS X (.AugAssign (.Name x pos') op e pos) (Uh i te ti):=by
 intro pins s σ H D I h
 obtain⟨v,e1,h⟩:=h
 obtain⟨m,hn,hl⟩:=I.loc
 have YX:Ox X.env.scope x:=by rcases hx with k | k;exact .inl k;exact .inr (.inl k)
 obtain⟨u,r,l⟩:=hl i x v hi e1 YX
 refine wpAny_AugAssign_Name ?_
 have go:wpAny (model X.prog X.w) X.A (eval e X.env) (fun w bU=>wpAny (model X.prog X.w) X.A (inplaceOp op u w) (fun r xA=>wpAny (model X.prog X.w) X.A (storeName X.env x r) (fun _=>SP X pins D .next) X.xe xA) X.xe bU) X.xe s:=by
  refine br (he pins s σ H _ I h) fun w s1 ⟨y,H1,I1,r1,q1⟩=>?_
  refine br (ho pins s1 σ H1 v y u w _ I1 r r1 q1) fun z s2 ⟨zv,H2,I2,r2,q2⟩=>?_
  exact pb I2 hN hi hx r2 (fun s3 I3=>⟨_,H2,I3,q2⟩) hf
 rcases l with ⟨hk,hm⟩ | ⟨hk,c,hc,A5⟩
 ·exact wpAny_loadName_local I.ok.kind hk hn hm go
 ·rcases hk with hk | hk
  ·exact wpAny_loadName_cell I.ok.kind hk hc A5 go
  ·rcases hx with k | k
   ·have:X.env.scope.names.lookup x=some .free:=hk
    rw[k] at this;cases this
   ·have:X.env.scope.names.lookup x=some .free:=hk
    rw[k] at this;cases this
def YY (f:Int→Int→Int):Ue:=fun x y H Q=>∃ i j,x=.int i∧y=.int j∧Q (.int (f i j)) H
theorem LZ:Xu X .Add (YY fun i j=>i+j):=by
 intro pins s σ H x y v u Q I r1 r2 h
 obtain⟨i,j,e1,e2,q⟩:=h
 subst e1;subst e2
 obtain⟨t,rfl⟩:=r1
 obtain⟨t',rfl⟩:=r2
 exact iadd_int ⟨.int _,H,I.tok _,⟨_,rfl⟩,q⟩
end
section
variable {X:Cx}{pos:Pos}
def L3 (c:TT) (tb:TS):TS:=fun D σ H=>∃ W:Nat→St→Hp→Prop,(∃ m,W m σ H)∧∀ m σ H,W m σ H →
 c σ H fun b H1=>if b=true then ∃ N:St→Hp→Prop,(∀ aK H',N aK H'→∃ m',m'<m∧W m' aK H')∧tb { D with nx:=N,ct:=N,bk:=D.nx } σ H1 else D.nx σ H1
theorem Er (hp:PassesOwn (model X.prog X.w) X.A X.env X.xe) (hc:PT X c tc) (hb:A4 X body tb):PS X (.While c body [] pos) (L3 tc tb):=by
 intro pins s σ H D I h
 obtain⟨W,⟨m0,w0⟩,turn⟩:=h
 refine wpAny_While (codeAny_whileLoop (fun n s'=>∃ aK H',Inv X pins aK H' s'∧W n aK H') ?_ m0 ⟨σ,H,I,w0⟩)
 rintro n s1 ⟨vg,H1,I1,w1⟩
 refine wpAny_passesOwn hp (br (hc pins s1 vg H1 _ I1 (turn n vg H1 w1)) fun b s2 ⟨H2,I2,q2⟩=>?_)
 cases b with
 | true =>
  obtain⟨N,hN,q2⟩:=q2
  rw[if_pos rfl]
  refine wpAny_passesOwn hp (br (hb pins s2 vg H2 _ I2 q2) fun f s3 q3=>?_)
  cases f with
  | next =>
   obtain⟨iR,H3,I3,n3⟩:=q3
   obtain⟨m',hm,w3⟩:=hN iR H3 n3
   exact⟨m',hm,iR,H3,I3,w3⟩
  | cont =>
   obtain⟨iR,H3,I3,n3⟩:=q3
   obtain⟨m',hm,w3⟩:=hN iR H3 n3
   exact⟨m',hm,iR,H3,I3,w3⟩
  | brk=>exact q3
  | ret v=>exact q3
 | false =>
  rw[if_neg zd]
  exact wpAny_execs_nil ⟨vg,H2,I2,q2⟩
end
structure It where
 go:Nat→Hp→Prop
 Pp:Nat→Hp→V→Hp→Prop
 stop:Nat→Hp→Prop
def pf (X:Cx) (pins:List (Addr×Obj)) (H:Hp) (b:Addr):Prop :=
 H b=none∧b≠X.env.locals∧b∉X.fs∧(b∈X.ex∨X.dj.heap.objs.size≤b)∧(∀ x c,X.env.cells.lookup x=some c→c≠b)∧∀ p∈X.pn++pins,p.1≠b
theorem Inv.ph (I:Inv X pins σ H s) (hb:s.heap.objs.size≤b) (hn:H' b=none):pf X pins H' b:=by
 refine⟨hn,yi (zk I.lt hb),I.Pc hb,.inr (zG I.sz hb),fun x c e z=>?_,fun p hp z=>?_⟩
 ·obtain⟨v,q⟩:=I.cell x c e
  exact absurd (zk q.lt (by rw[z];exact hb)) (yx _)
 ·exact absurd (zk (zq (I.pin p hp).1) (by rw[z];exact hb)) (yx _)
structure Turn (P:Program) (w:World) (K:PySem.W.Frag) (tg:Expr) (J:It) (fp:List Addr) (it:Addr) (tn:Nat→Heap→Prop):Prop where
 mem:it∈fp
 obj:∀ i h,tn i h→∀ b∈fp,∃ o,h.get? b=some o∧∀ v,o.data≠.cell v
 keep:∀ i h h',tn i h→(∀ b∈fp,∀ o,h.get? b=some o→h'.get? b=some o)→tn i h'
 item:∀ (X:Cx),X.prog=P→X.w=w→X.K=K→X.calm=true→∀ (i:Nat) (pins:List (Addr×Obj)) (s:Shared) (σ:St) (H:Hp) (E:Value→Shared→Prop),Inv X pins σ H s→(∀ b∈fp,pf X pins H b)→tn i s.heap→J.go i H →
  wpAny (model P w) X.A (pyNext (.ref it)) (fun r s1=>∃ u,r=some u ∧
   wpAny (model P w) X.A (letOwnedTupleGo tg (.ref it) u) (fun _ s2=>∃ x H',Inv X pins σ H' s2∧RelV x u∧J.Pp i H x H'∧tn (i+1) s2.heap∧∀ b∈fp,H' b=none) E s1) E s
 done:∀ (X:Cx),X.prog=P→X.w=w→X.K=K→X.calm=true→∀ (i:Nat) (pins:List (Addr×Obj)) (s:Shared) (σ:St) (H:Hp) (E:Value→Shared→Prop),Inv X pins σ H s→(∀ b∈fp,pf X pins H b)→tn i s.heap→J.stop i H →
  wpAny (model P w) X.A (pyNext (.ref it)) (fun r s1=>r=none∧Inv X pins σ H s1) E s
 self:∀ (A:Around) (i:Nat) (s:Shared) (Q:Value→Shared→Prop) (E:Value→Shared→Prop),tn i s.heap→Q (.ref it) s→wpAny (model P w) A (pyIter (.ref it)) Q E s
abbrev TI:=St→Hp→(It→Hp→Prop)→Prop
def Ui (X:Cx) (pins:List (Addr×Obj)) (σ:St) (tg:Expr) (R:It→Hp→Prop) (Sj:Value) (s2:Shared):Prop :=
 ∃ (it:Addr) (fp:List Addr) (tn:Nat→Heap→Prop) (J:It) (H':Hp),Sj=.ref it∧Inv X pins σ H' s2∧Turn X.prog X.w X.K tg J fp it tn∧tn 0 s2.heap∧(∀ b∈fp,pf X pins H' b)∧R J H'
def PI (X:Cx) (tg iter:Expr) (wi:TI):Prop :=
 ∀ (pins:List (Addr×Obj)) (s:Shared) (σ:St) (H:Hp) (R:It→Hp→Prop),Inv X pins σ H s→wi σ H R →
  wpAny (model X.prog X.w) X.A (eval iter X.env) (fun v s1=>wpAny (model X.prog X.w) X.A (pyIter v) (Ui X pins σ tg R) X.xe s1) X.xe s
theorem sx (ho:s.heap.get? it=some o) (hc:o.cls=.type n) (hd:o.data=.fields vs)
  (hn:["enumerate", "zip", "dict_itemiterator", "dict_reverseitemiterator", "odict_iterator", "itertools.zip_longest", "itertools.pairwise"].contains n=false) (hQ:Q () s):wpAny M A (letOwnedTupleGo tg (.ref it) u) Q E s:=by
 unfold letOwnedTupleGo
 cases tg <;> first
  | exact zi hQ
  | (cases u <;> first
    | exact zi hQ
    | (refine za (wpAny_load ho ?_)
       rw[hc,hd]
       show wpAny M A (if (["enumerate", "zip", "dict_itemiterator", "dict_reverseitemiterator", "odict_iterator", "itertools.zip_longest", "itertools.pairwise"].contains n && vs[0]? == some (rawInt _))=true then _ else _) Q E s
       rw[if_neg (by intro h;rw[hn,zP] at h;cases h)]
       exact zi hQ))
def Xv (K:PySem.W.Frag) (a:Addr):It :=
 ⟨fun i H=>∃ xs x,jH K H a xs∧xs[i]?=some x,fun i H x H'=>H'=H∧∀ xs,jH K H a xs→xs[i]?=some x,fun i H=>∃ xs,jH K H a xs∧xs.length≤i⟩
def Xw (K:PySem.W.Frag) (a:Addr):It :=
 ⟨fun i H=>∃ xs x,iQ K H a xs∧xs[i]?=some x,fun i H x H'=>H'=H∧∀ xs,iQ K H a xs→xs[i]?=some x,fun i H=>∃ xs,iQ K H a xs∧xs.length≤i⟩
def Sk (lo:Int) (n:Nat):It:=⟨fun i _=>i<n,fun i H x H'=>H'=H∧x=.int (lo+i),fun i _=>n≤i⟩
theorem Ca {P:Program}{w:World}{K:PySem.W.Frag}{tg:Expr} (a it:Addr):Turn P w K tg (Xv K a) [it] it (fun i h=>h.IsListIter it a i) where
 mem:=by simp
 obj:=fun i h st b hb=>by
  have e:b=it:=by simpa using hb
  subst e
  obtain⟨o,e,c,d⟩:=st
  exact⟨o,e,fun v z=>by rw[d] at z;cases z⟩
 keep:=fun i h h' st k=>st.at fun o e=>k it (by simp) o e
 item:=by
  intro X hP hw hK hc i pins s σ H E I hf st hg
  subst hP hw hK
  obtain⟨xs,x,hq,hx⟩:=hg
  obtain⟨ax,rv,p,hz⟩:=I.list hq
  obtain⟨u,hu,ru⟩:=rv.get hx
  obtain⟨f0,f1,f2,f3,f4,f5⟩:=hf it (by simp)
  refine wpAny_pyNext_list_item st p.isList (x:=u) (by simpa using hu) fun h' e_ sb=>?_
  have I1:Inv X pins σ H { s with heap:=h' }:=I.turned (t':=s.toks) (fun b o hb e=>(sb.2 b hb).trans e) f0 f1 f3 f4 f5
  obtain⟨o,e,c,d⟩:=id e_
  exact⟨u,rfl,sx (s:={ s with heap:=h' }) e c d (by decide) ⟨x,H,I1,ru,⟨rfl,fun ys hy=>by rw[I.vm hy hq];exact hx⟩,e_,fun b hb=>(hf b hb).1⟩⟩
 done:=by
  intro X hP hw hK hc i pins s σ H E I hf st hg
  subst hP hw hK
  obtain⟨xs,hq,hx⟩:=hg
  obtain⟨ax,rv,p,hz⟩:=I.list hq
  obtain⟨f0,f1,f2,f3,f4,f5⟩:=hf it (by simp)
  have hl:=rv.length
  exact wpAny_pyNext_list_end (I.ok.hd hc) st p.isList (by simp;omega) fun h' eb=>⟨rfl,I.turned (t':=s.toks) (fun b o hb e=>eb b o hb e) f0 f1 f3 f4 f5⟩
 self:=fun _ _ _ _ _ st h=>wpAny_pyIter_listiter st h
theorem xB {P:Program}{w:World}{K:PySem.W.Frag}{tg:Expr} (a it:Addr):Turn P w K tg (Xw K a) [it] it (fun i h=>h.IsTupleIter it a i) where
 mem:=by simp
 obj:=fun i h st b hb=>by
  have e:b=it:=by simpa using hb
  subst e
  obtain⟨o,e,c,d⟩:=st
  exact⟨o,e,fun v z=>by rw[d] at z;cases z⟩
 keep:=fun i h h' st k=>st.at fun o e=>k it (by simp) o e
 item:=by
  intro X hP hw hK hc i pins s σ H E I hf st hg
  subst hP hw hK
  obtain⟨xs,x,hq,hx⟩:=hg
  obtain⟨ax,rv,p,hz⟩:=I.tuple hq
  obtain⟨u,hu,ru⟩:=rv.get hx
  obtain⟨f0,f1,f2,f3,f4,f5⟩:=hf it (by simp)
  refine wpAny_pyNext_tuple_item st (show s.heap.IsTuple a ax.toArray from p) (x:=u) (by simpa using hu) fun h' e_ sb=>?_
  have I1:Inv X pins σ H { s with heap:=h' }:=I.turned (t':=s.toks) (fun b o hb e=>(sb.2 b hb).trans e) f0 f1 f3 f4 f5
  obtain⟨o,e,c,d⟩:=id e_
  exact⟨u,rfl,sx (s:={ s with heap:=h' }) e c d (by decide) ⟨x,H,I1,ru,⟨rfl,fun ys hy=>by rw[I.jI hy hq];exact hx⟩,e_,fun b hb=>(hf b hb).1⟩⟩
 done:=by
  intro X hP hw hK hc i pins s σ H E I hf st hg
  subst hP hw hK
  obtain⟨xs,hq,hx⟩:=hg
  obtain⟨ax,rv,p,hz⟩:=I.tuple hq
  obtain⟨f0,f1,f2,f3,f4,f5⟩:=hf it (by simp)
  have hl:=rv.length
  exact wpAny_pyNext_tuple_end (I.ok.hd hc) st (show s.heap.IsTuple a ax.toArray from p) (by simp;omega) fun h' eb=>⟨rfl,I.turned (t':=s.toks) (fun b o hb e=>eb b o hb e) f0 f1 f3 f4 f5⟩
 self:=fun _ _ _ _ _ st h=>wpAny_pyIter_tupleiter st h
theorem xC {P:Program}{w:World}{K:PySem.W.Frag}{tg:Expr} (it:Addr) (lo:Int) (n:Nat):Turn P w K tg (Sk lo n) [it] it (fun i h=>IsRangeIter h it (lo+(i:Nat) * 1) ((n:Int) - (i:Nat)) 1) where
 mem:=by simp
 obj:=fun i h st b hb=>by
  have e:b=it:=by simpa using hb
  subst e
  exact⟨_,st,fun v z=>by
   have z':Data.fields _=Data.cell v:=z
   cases z'⟩
 keep:=fun i h h' st k=>k it (by simp) _ st
 item:=by
  intro X hP hw hK hc i pins s σ H E I hf st hg
  subst hP hw hK
  obtain⟨f0,f1,f2,f3,f4,f5⟩:=hf it (by simp)
  have W:=Walks.range (prog:=X.prog) (w:=X.w) (I.ok.hd hc) it lo 1 n
  refine W.item i s _ _ hg st fun v h' tk hv e_ kk=>?_
  obtain⟨t,rfl⟩:=hv
  have I1:Inv X pins σ H { s with heap:=h',toks:=tk }:=I.turned (fun b o hb e=>kk b o (by simpa using hb) e) f0 f1 f3 f4 f5
  refine⟨_,rfl,sx (s:={ s with heap:=h',toks:=tk }) (n := "range_iterator") e_ rfl rfl (by decide) ⟨.int (lo+i),H,I1,⟨t,?_⟩,⟨rfl,rfl⟩,e_,fun b hb=>(hf b hb).1⟩⟩
  rw[Int.mul_one]
 done:=by
  intro X hP hw hK hc i pins s σ H E I hf st hg
  subst hP hw hK
  obtain⟨f0,f1,f2,f3,f4,f5⟩:=hf it (by simp)
  exact wpAny_pyNext_range_end (I.ok.hd hc) st (by have:n≤i:=hg;omega) fun h' eb=>⟨rfl,I.turned (t':=s.toks) (fun b o hb e=>eb b o hb e) f0 f1 f3 f4 f5⟩
 self:=fun _ _ _ _ _ st h=>wpAny_pyIter_rangeiter st h
section
variable {X:Cx}{tg:Expr}
def Pq (K:PySem.W.Frag) (tl:TE):TI:=fun σ H R=>tl σ H fun x H1=>∃ a,x=.ref a∧(∃ xs,jH K H1 a xs)∧R (Xv K a) H1
def Uj (K:PySem.W.Frag) (tl:TE):TI:=fun σ H R=>tl σ H fun x H1=>∃ a,x=.ref a∧(∃ xs,iQ K H1 a xs)∧R (Xw K a) H1
theorem HV {l:Expr}{tl:TE} (hl:PE X l tl):PI X tg l (Pq X.K tl):=by
 intro pins s σ H R I h
 refine br (hl pins s σ H _ I h) fun v s1 ⟨x,H1,I1,r1,q1⟩=>?_
 obtain⟨a,e,⟨xs,hq⟩,q⟩:=q1
 subst e
 cases r1
 obtain⟨ax,rv,p,hz⟩:=I1.list hq
 refine wpAny_pyIter_list p.isList ?_
 refine⟨s1.heap.objs.size,[s1.heap.objs.size],_,_,H1,rfl,I1.kept (t':=s1.toks) fun b o e=>zc _ e,Ca a _,⟨_,zm _ rfl,rfl,rfl⟩,fun b hb=>?_,q⟩
 have e:b=s1.heap.objs.size:=by simpa using hb
 subst e
 exact I1.ph (zl _) (I1.aM.fresh (zl _))
theorem L4 {l:Expr}{tl:TE} (hl:PE X l tl):PI X tg l (Uj X.K tl):=by
 intro pins s σ H R I h
 refine br (hl pins s σ H _ I h) fun v s1 ⟨x,H1,I1,r1,q1⟩=>?_
 obtain⟨a,e,⟨xs,hq⟩,q⟩:=q1
 subst e
 cases r1
 obtain⟨ax,rv,p,hz⟩:=I1.tuple hq
 refine wpAny_pyIter_tuple (show s1.heap.IsTuple a ax.toArray from p) ?_
 refine⟨s1.heap.objs.size,[s1.heap.objs.size],_,_,H1,rfl,I1.kept (t':=s1.toks) fun b o e=>zc _ e,xB a _,⟨_,zm _ rfl,rfl,rfl⟩,fun b hb=>?_,q⟩
 have e:b=s1.heap.objs.size:=by simpa using hb
 subst e
 exact I1.ph (zl _) (I1.aM.fresh (zl _))
theorem Es {pins:List (Addr×Obj)}{σ:St}{H:Hp}{s:Shared}{R:It→Hp→Prop}{E:Value→Shared→Prop}{lo hi:Int}{t u v:Tok}{tk:Nat} (I:Inv X pins σ H s) (h1:-(2 ^ 62)≤lo) (h2:lo<2 ^ 62) (h3:-(2 ^ 62)≤hi) (h4:hi<2 ^ 62)
  (q:R (Sk lo (hi - lo).toNat) H):wpAny (model X.prog X.w) X.A (pyIter (.ref s.heap.objs.size)) (Ui X pins σ tg R) E { s with heap:=s.heap.push { cls:=.type "range",data:=.fields #[.int lo t,.int hi u,.int 1 v] },toks:=tk }:=by
 refine wpAny_pyIter_range (IsRange.new ..) (small_one h1 h2 h3 h4) ?_
 have I1:Inv X pins σ H { s with heap:=s.heap.push { cls:=.type "range",data:=.fields #[.int lo t,.int hi u,.int 1 v] },toks:=tk }:=I.kept fun b o e=>zc _ e
 refine⟨(s.heap.push { cls:=.type "range",data:=.fields #[.int lo t,.int hi u,.int 1 v] }).objs.size,[(s.heap.push { cls:=.type "range",data:=.fields #[.int lo t,.int hi u,.int 1 v] }).objs.size],_,_,H,rfl,
  I1.kept (t':=tk) fun b o e=>zc _ e,xC _ lo (hi - lo).toNat,?_,fun b hb=>?_,q⟩
 ·have e1:lo+((0:Nat):Int) * 1=lo:=by simp
  have e2:(((hi - lo).toNat:Nat):Int) - ((0:Nat):Int)=Builtin.Range.rangeSize lo hi 1:=by rw[rangeSize_one];split <;> omega
  show IsRangeIter _ _ (lo+((0:Nat):Int) * 1) ((((hi - lo).toNat:Nat):Int) - ((0:Nat):Int)) 1
  rw[e1,e2]
  exact zm _ rfl
 ·have e:b=(s.heap.push { cls:=.type "range",data:=.fields #[.int lo t,.int hi u,.int 1 v] }).objs.size:=by simpa using hb
  subst e
  exact I1.ph (zl _) (I1.aM.fresh (zl _))
def Pr (ta:TA):TI:=fun σ H R=>ta σ H fun vs H1=>∃ j:Int,vs=[.int j]∧-(2 ^ 62)≤j∧j<2 ^ 62∧R (Sk 0 j.toNat) H1
theorem Cb {a:Expr}{ta:TA}{p pos:Pos} (hg:Gl X "range") (hm:X.mg "range" = none) (ha:PA X [a] ta) (hs:starEach [a] X.env=[(false,eval a X.env)]:=by rfl):PI X tg (.Call (.Name "range" p) [a] [] pos) (Pr ta):=by
 intro pins s σ H R I h
 refine Call_ (g8 I hg hm boot_range (PyProof.Rows.callWith_type1 (br (ha pos pins s σ H _ I h) fun us s1 ⟨vs,H1,I1,r1,q1⟩=>?_) hs rfl))
 obtain⟨j,e,q1,q2,q⟩:=q1
 subst e
 cases r1 with
 | cons r rr =>
  cases rr
  obtain⟨t,rfl⟩:=r
  exact call_range_1 (Es I1 (by omega) (by omega) q1 q2 (by simpa using q))
def Uk (wi:TI) (g:TG) (tb:TS):TS:=fun D σ H=>wi σ H fun J H1=>∃ W:Nat→Nat→St→Hp→Prop,(∃ m,W 0 m σ H1)∧∀ i m σ H,W i m σ H →
 (J.stop i H∧D.nx σ H)∨(J.go i H∧∃ N:St→Hp→Prop,(∀ aK H',N aK H'→∃ m',m'<m∧W (i+1) m' aK H')∧∀ x H',J.Pp i H x H'→g x σ H' fun mD H2=>tb { D with nx:=N,ct:=N,bk:=D.nx } mD H2)
def pj (fp:List Addr) (h:Heap):List (Addr×Obj):=fp.filterMap fun b=>(h.get? b).map fun o=>(b,o)
theorem g9 (hb:b∈fp) (e:h.get? b=some o):(b,o)∈pj fp h:=List.mem_filterMap.mpr ⟨b,hb,by rw[e];rfl⟩
theorem Cc (hp:p∈pj fp h):p.1∈fp∧h.get? p.1=some p.2:=by
 obtain⟨b,hb,e⟩:=List.mem_filterMap.mp hp
 cases q:h.get? b with
 | none=>rw[q] at e;cases e
 | some o =>
  rw[q] at e
  have e':(b,o)=p:=zN e
  subst e'
  exact⟨hb,q⟩
theorem Inv.pinned (I:Inv X pins σ H s) (hf:∀ b∈fp,pf X pins H b) (ho:∀ b∈fp,∃ o,s.heap.get? b=some o∧∀ v,o.data≠.cell v):Inv X (pins++pj fp s.heap) σ H s :=
 I.lJ fun p hp=>(zI.mp hp).elim (fun z=>I.pin p (zA _ z)) fun z=>by
  obtain⟨hb,e⟩:=Cc z
  obtain⟨f0,f1,f2,_⟩:=hf p.1 hb
  obtain⟨o,e',d⟩:=ho p.1 hb
  rw[e] at e';cases e'
  exact⟨e,f0,f1,f2,d⟩
theorem Inv.pq (I:Inv X (pins++pl) σ H s):Inv X pins σ H s:=I.lJ fun p hp=>I.pin p (zA _ (z0 _ hp))
theorem L5 (hp:PassesOwn (model X.prog X.w) X.A X.env X.xe) (hc:X.calm=true) (hi:PI X tg iter wi) (hg:PG X tg g) (hb:A4 X body tb)
  (hs:∀ x,foldedSetIterable iter X.env x=pure x:=by intro _;rfl):PS X (.For tg iter body [] pos) (Uk wi g tb):=by
 intro pins s σ H D I h
 refine wpAny_For (br (hi pins s σ H _ I h) fun v s1 h1=>br h1 fun Sj s2 h2=>?_) hs
 obtain⟨it,fp,tn,J,H2,e,I2,T,xD,f2,W,⟨m0,w0⟩,turn⟩:=h2
 subst e
 -- what stays true of the iterator's objects through the loop
 have L6:∀ {H':Hp},(∀ b∈fp,H' b=none)→∀ b∈fp,pf X pins H' b:=fun hn b hb=>⟨hn b hb,(f2 b hb).2⟩
 refine codeAny_forLoop_any (fun n s'=>∃ i aK H',Inv X pins aK H' s'∧tn i s'.heap∧(∀ b∈fp,H' b=none)∧W i n aK H') ?_ m0 ⟨0,σ,H2,I2,xD,fun b hb=>(f2 b hb).1,w0⟩
 rintro n s3 ⟨i,iR,H3,I3,L7,Pt,w3⟩
 rcases turn i n iR H3 w3 with ⟨stop,qn⟩ | ⟨go,N,hN,step⟩
 ·refine wpAny_passesOwn hp (br (T.done X rfl rfl rfl hc i pins s3 iR H3 X.xe I3 (L6 Pt) L7 stop) fun r s4 ⟨hr,I4⟩=>?_)
  subst hr
  exact wpAny_execs_nil ⟨iR,H3,I4,qn⟩
 ·refine wpAny_passesOwn hp (br (T.item X rfl rfl rfl hc i pins s3 iR H3 X.xe I3 (L6 Pt) L7 go) fun r s4 ⟨u,hr,h4⟩=>?_)
  subst hr
  refine wpAny_passesOwn hp (br h4 fun _ s5 ⟨x,H5,I5,r5,y5,Ec,fr5⟩=>?_)
  have Ul:=I5.pinned (L6 fr5) (T.obj _ _ Ec)
  refine wpAny_passesOwn hp (br (hg _ s5 iR H5 x u _ Ul r5 (step x H5 y5)) fun _ s6 ⟨Pu,H6,I6,q6⟩=>?_)
  refine wpAny_passesOwn hp (br (hb _ s6 Pu H6 _ I6 q6) fun f s7 q7=>?_)
  have again:∀ {Et:St}{H7:Hp},Inv X (pins++pj fp s5.heap) Et H7 s7→N Et H7→∃ m,m<n∧∃ i aK H',Inv X pins aK H' s7∧tn i s7.heap∧(∀ b∈fp,H' b=none)∧W i m aK H':=fun {Et H7} I7 n7=>by
   obtain⟨m',hm,w7⟩:=hN Et H7 n7
   refine⟨m',hm,i+1,Et,H7,I7.pq,T.keep _ _ _ Ec fun b hb o e=>(I7.pin (b,o) (zA _ (zA _ (g9 hb e)))).1,fun b hb=>?_,w7⟩
   obtain⟨o,e,d⟩:=T.obj _ _ Ec b hb
   exact (I7.pin (b,o) (zA _ (zA _ (g9 hb e)))).2.1
  cases f with
  | next=>obtain⟨Et,H7,I7,n7⟩:=q7;exact again I7 n7
  | cont=>obtain⟨Et,H7,I7,n7⟩:=q7;exact again I7 n7
  | brk=>obtain⟨Et,H7,I7,q7⟩:=q7;exact⟨Et,H7,I7.pq,q7⟩
  | ret v=>obtain⟨x7,Et,H7,I7,r7,q7⟩:=q7;exact⟨x7,Et,H7,I7.pq,r7,q7⟩
end
abbrev R2:=V→V→Hp→VK→Prop
def fZ (X:Cx) (f:Value→Value→Sem Value) (r:R2):Prop :=
 ∀ (pins:List (Addr×Obj)) (s:Shared) (σ:St) (H:Hp) (x y:V) (v u:Value) (Q:VK),Inv X pins σ H s→RelV x v→RelV y u→r x y H Q →
  wpAny (model X.prog X.w) X.A (f v u) (EP X pins σ Q) X.xe s
def Um (X:Cx) (f:Value→Sem Value) (r:V→Hp→VK→Prop):Prop :=
 ∀ (pins:List (Addr×Obj)) (s:Shared) (σ:St) (H:Hp) (x:V) (v:Value) (Q:VK),Inv X pins σ H s→RelV x v→r x H Q →
  wpAny (model X.prog X.w) X.A (f v) (EP X pins σ Q) X.xe s
def fG (X:Cx) (f:Value) (r:List V→Hp→VK→Prop):Prop :=
 ∀ (pins:List (Addr×Obj)) (s:Shared) (σ:St) (H:Hp) (xs:List V) (us:List Value) (Q:VK),Inv X pins σ H s→Vals xs us→r xs H Q →
  wpAny (model X.prog X.w) X.A (call f us) (EP X pins σ Q) X.xe s
def Oz (r:R2) (ta tb:TE):TE:=fun σ H Q=>ta σ H fun x H1=>tb σ H1 fun y H2=>r x y H2 Q
def YZ (r:V→Hp→VK→Prop) (ta:TE):TE:=fun σ H Q=>ta σ H fun x H1=>r x H1 Q
def rI (C:Int→Int→Prop) (g:Int→Int→V):R2:=fun x y H Q=>∃ i j,x=.int i∧y=.int j∧C i j∧Q (g i j) H
def HW (g:Int→Int→V):R2:=fun x y H Q=>∃ i j,x=.int i∧y=.int j∧Q (g i j) H
def rU (g:Int→V):V→Hp→VK→Prop:=fun x H Q=>∃ i,x=.int i∧Q (g i) H
section
variable {X:Cx}{a b c:Expr}{ta tb tc:TE}{pos:Pos}
theorem L8 (ha:PE X a ta) (hb:PE X b tb) {pins:List (Addr×Obj)}{s:Shared}{σ:St}{H:Hp}{R:V→V→Hp→Prop} (I:Inv X pins σ H s)
  (h:ta σ H fun x H1=>tb σ H1 fun y H2=>R x y H2) {Q:Value→Shared→Prop}{f:Value→Value→Sem Value}
  (hf:∀ v u s2 x y H2,Inv X pins σ H2 s2→RelV x v→RelV y u→R x y H2→wpAny (model X.prog X.w) X.A (f v u) Q X.xe s2) :
  wpAny (model X.prog X.w) X.A (eval a X.env) (fun v bb=>wpAny (model X.prog X.w) X.A (eval b X.env) (fun u bU=>wpAny (model X.prog X.w) X.A (f v u) Q X.xe bU) X.xe bb) X.xe s:=by
 refine br (ha pins s σ H _ I h) fun v s1 ⟨x,H1,I1,r1,q1⟩=>?_
 refine br (hb pins s1 σ H1 _ I1 q1) fun u s2 ⟨y,H2,I2,r2,q2⟩=>?_
 exact hf v u s2 x y H2 I2 r1 r2 q2
theorem Pw {op:Operator}{r:R2} (ho:fZ X (binaryOp op) r) (ha:PE X a ta) (hb:PE X b tb):PE X (.BinOp a op b pos) (Oz r ta tb):=by
 intro pins s σ H Q I h
 exact wpAny_BinOp (L8 ha hb I h fun v u s2 x y H2 I2 rx ry q=>ho pins s2 σ H2 x y v u Q I2 rx ry q)
theorem Px (ho:Um X (unaryOp op) r) (ha:PE X a ta):PE X (.UnaryOp op a pos) (YZ r ta):=by
 intro pins s σ H Q I h
 exact UnaryOp_ (br (ha pins s σ H _ I h) <| by rintro v s1 ⟨x,H1,I1,r1,q1⟩;exact ho pins s1 σ H1 x v Q I1 r1 q1)
theorem Sl {f:Value→Value→Sem Value}{C:Int→Int→Prop}{g:Int→Int→Int}
  (rule:∀ (i j:Int) (t u:Tok) (s:Shared) (Q:Value→Shared→Prop) (E:Value→Shared→Prop),C i j→Q (.int (g i j) s.toks) { s with toks:=s.toks+1 }→wpAny (model X.prog X.w) X.A (f (.int i t) (.int j u)) Q E s) :
  fZ X f (rI C fun i j=>.int (g i j)):=by
 intro pins s σ H x y v u Q I rx ry h
 obtain⟨i,j,rfl,rfl,hc,q⟩:=h
 obtain⟨t,rfl⟩:=rx
 obtain⟨t',rfl⟩:=ry
 exact rule i j t t' s _ _ hc ⟨.int (g i j),H,I.tok _,⟨_,rfl⟩,q⟩
theorem Py {f:Value→Value→Sem Value}{g:Int→Int→Int}
  (rule:∀ (i j:Int) (t u:Tok) (s:Shared) (Q:Value→Shared→Prop) (E:Value→Shared→Prop),Q (.int (g i j) s.toks) { s with toks:=s.toks+1 }→wpAny (model X.prog X.w) X.A (f (.int i t) (.int j u)) Q E s) :
  fZ X f (HW fun i j=>.int (g i j)):=by
 intro pins s σ H x y v u Q I rx ry h
 obtain⟨i,j,rfl,rfl,q⟩:=h
 obtain⟨t,rfl⟩:=rx
 obtain⟨t',rfl⟩:=ry
 exact rule i j t t' s _ _ ⟨.int (g i j),H,I.tok _,⟨_,rfl⟩,q⟩
theorem HX {f:Value→Value→Sem Value}{g:Int→Int→Bool}
  (rule:∀ (i j:Int) (t u:Tok) (s:Shared) (Q:Value→Shared→Prop) (E:Value→Shared→Prop),Q (.bool (g i j)) s→wpAny (model X.prog X.w) X.A (f (.int i t) (.int j u)) Q E s) :
  fZ X f (HW fun i j=>.bl (g i j)):=by
 intro pins s σ H x y v u Q I rx ry h
 obtain⟨i,j,rfl,rfl,q⟩:=h
 obtain⟨t,rfl⟩:=rx
 obtain⟨t',rfl⟩:=ry
 exact rule i j t t' s _ _ ⟨.bl (g i j),H,I,rfl,q⟩
def Pz (i j:Int):Prop:=0≤j∧j≤1000000∧i.natAbs<2 ^ 64
def HY (i j:Int):Prop:=(-(2 ^ 64)<i∧i<2 ^ 64)∨(-(2 ^ 64)<j∧j<2 ^ 64)
theorem HY.ok {i j:Int} (h:HY i j):IntMulOk i j:=by
 rcases h with ⟨h1,h2⟩ | ⟨h1,h2⟩
 ·exact .of_left (intBits_le_64 h1 h2)
 ·exact .of_right (intBits_le_64 h1 h2)
theorem L9:fZ X (binaryOp .Add) (HW fun i j=>.int (i+j)):=Py fun _ _ _ _ _ _ _ q=>add_int q
theorem L_:fZ X (binaryOp .Sub) (HW fun i j=>.int (i - j)):=Py fun _ _ _ _ _ _ _ q=>sub_int q
theorem Ma:fZ X (binaryOp .Mult) (rI HY fun i j=>.int (i * j)):=Sl fun _ _ _ _ _ _ _ hc q=>mul_int q hc.ok
theorem Mb:fZ X (binaryOp .Mod) (rI (fun _ j=>0<j) fun i j=>.int (i % j)):=Sl fun i j _ _ _ _ _ hc q=>by
 have h1:(0:Int)<j:=hc
 exact mod_int' (by omega) (by rw[Int.fmod_eq_emod_of_nonneg i (by omega)];exact q)
theorem Mc:fZ X (binaryOp .Pow) (rI Pz fun i j=>.int (i ^ j.toNat)):=Sl fun _ _ _ _ _ _ _ hc q=>pow_int_small hc.1 hc.2.1 hc.2.2 q
theorem Y0 {f:Value→Sem Value}{g:Int→Int}
  (rule:∀ (i:Int) (t:Tok) (s:Shared) (Q:Value→Shared→Prop) (E:Value→Shared→Prop),Q (.int (g i) s.toks) { s with toks:=s.toks+1 }→wpAny (model X.prog X.w) X.A (f (.int i t)) Q E s) :
  Um X f (rU fun i=>.int (g i)):=by
 intro pins s σ H x v Q I rx h
 obtain⟨i,rfl,q⟩:=h
 obtain⟨t,rfl⟩:=rx
 exact rule i t s _ _ ⟨.int (g i),H,I.tok _,⟨_,rfl⟩,q⟩
theorem Md:Um X (unaryOp .USub) (rU fun i=>.int (-i)):=Y0 fun _ _ _ _ _ q=>neg_int q
end
def PB:V→V→Bool
 | .au,.au=>true | .au,.int _=>true | .int _,.au=>true | .au,.bl _=>true | .bl _,.au=>true | .au,.str _=>true | .str _,.au=>true
 | .int _,.int _=>true | .bl _,.bl _=>true | .str _,.str _=>true | .A3 _,.A3 _=>true
 | .int _,.str _=>true | .str _,.int _=>true | .bl _,.str _=>true | .str _,.bl _=>true
 | _,_=>false
def Y1:R2:=fun x y H Q=>PB x y=true∧Q (.bl (decide (x=y))) H
def Y2:R2:=fun x y H Q=>PB x y=true∧Q (.bl (!decide (x=y))) H
theorem A8:decide (V.int i=V.int j)=(i == j):=by
 rw[yn]
 simp
theorem Eu:decide (V.bl i=V.bl j)=(i == j):=by
 rw[yn]
 simp
theorem A9:decide (V.str i=V.str j)=(i == j):=by
 rw[yn]
 simp
theorem A_:decide (V.A3 i=V.A3 j)=(i.toList == j.toList):=by
 rw[yn]
 cases i
 cases j
 simp
section
variable {X:Cx}{a b c:Expr}{ta tb tc:TE}{pos:Pos}
theorem aG (I:Inv X pins σ H s) (q:Q (.bl k) H) (e:k=k'):EP X pins σ Q (.bool k') s:=by
 subst e
 exact⟨.bl k,H,I,rfl,q⟩
theorem Kj:fZ X (compareOp .Eq) Y1:=by
 intro pins s σ H x y v u Q I rx ry h
 obtain⟨hs,q⟩:=h
 cases x with
 | au =>
  cases rx
  cases y with
  | au=>cases ry;exact PySem.EqNone.eq_none_none (aG I q (by simp))
  | bl j=>cases ry;exact PySem.EqNone.eq_none_bool (aG I q (by simp))
  | int j=>obtain⟨t',rfl⟩:=ry;exact PySem.EqNone.eq_none_int (aG I q (by simp))
  | str j=>obtain⟨t',rfl⟩:=ry;exact PySem.EqNone.eq_none_str (aG I q (by simp))
  | _=>exact absurd (show false=true from hs) zd
 | bl i =>
  cases rx
  cases y with
  | au=>cases ry;exact PySem.EqNone.eq_bool_none (aG I q (by simp))
  | bl j=>cases ry;exact eq_bool (aG I q Eu)
  | str j=>obtain⟨t',rfl⟩:=ry;exact PySem.EqMixed.eq_bool_str (aG I q (by simp))
  | _=>exact absurd (show false=true from hs) zd
 | int i =>
  obtain⟨t,rfl⟩:=rx
  cases y with
  | au=>cases ry;exact PySem.EqNone.eq_int_none (aG I q (by simp))
  | int j=>obtain⟨t',rfl⟩:=ry;exact eq_int (aG I q A8)
  | str j=>obtain⟨t',rfl⟩:=ry;exact PySem.EqMixed.eq_int_str (aG I q (by simp))
  | _=>exact absurd (show false=true from hs) zd
 | str i =>
  obtain⟨t,rfl⟩:=rx
  cases y with
  | au=>cases ry;exact PySem.EqNone.eq_str_none (aG I q (by simp))
  | bl j=>cases ry;exact PySem.EqMixed.eq_str_bool (aG I q (by simp))
  | int j=>obtain⟨t',rfl⟩:=ry;exact PySem.EqMixed.eq_str_int (aG I q (by simp))
  | str j=>obtain⟨t',rfl⟩:=ry;exact eq_str (aG I q A9)
  | _=>exact absurd (show false=true from hs) zd
 | A3 i =>
  obtain⟨t,rfl⟩:=rx
  cases y with
  | A3 j=>obtain⟨t',rfl⟩:=ry;exact PySem.W.eq_bytes (aG I q A_)
  | _=>exact absurd (show false=true from hs) zd
 | _=>cases y <;> exact absurd (show false=true from hs) zd
theorem Kk:fZ X (compareOp .NotEq) Y2:=by
 intro pins s σ H x y v u Q I rx ry h
 obtain⟨hs,q⟩:=h
 cases x with
 | au =>
  cases rx
  cases y with
  | au=>cases ry;exact PySem.EqNone.ne_none_none (aG I q (by simp))
  | bl j=>cases ry;exact PySem.EqNone.ne_none_bool (aG I q (by simp))
  | int j=>obtain⟨t',rfl⟩:=ry;exact PySem.EqNone.ne_none_int (aG I q (by simp))
  | str j=>obtain⟨t',rfl⟩:=ry;exact PySem.EqNone.ne_none_str (aG I q (by simp))
  | _=>exact absurd (show false=true from hs) zd
 | bl i =>
  cases rx
  cases y with
  | au=>cases ry;exact PySem.EqNone.ne_bool_none (aG I q (by simp))
  | bl j=>cases ry;exact ne_bool (aG I q (congrArg not Eu))
  | str j=>obtain⟨t',rfl⟩:=ry;exact PySem.EqMixed.ne_bool_str (aG I q (by simp))
  | _=>exact absurd (show false=true from hs) zd
 | int i =>
  obtain⟨t,rfl⟩:=rx
  cases y with
  | au=>cases ry;exact PySem.EqNone.ne_int_none (aG I q (by simp))
  | int j=>obtain⟨t',rfl⟩:=ry;exact ne_int (aG I q (congrArg not A8))
  | str j=>obtain⟨t',rfl⟩:=ry;exact PySem.EqMixed.ne_int_str (aG I q (by simp))
  | _=>exact absurd (show false=true from hs) zd
 | str i =>
  obtain⟨t,rfl⟩:=rx
  cases y with
  | au=>cases ry;exact PySem.EqNone.ne_str_none (aG I q (by simp))
  | bl j=>cases ry;exact PySem.EqMixed.ne_str_bool (aG I q (by simp))
  | int j=>obtain⟨t',rfl⟩:=ry;exact PySem.EqMixed.ne_str_int (aG I q (by simp))
  | str j=>obtain⟨t',rfl⟩:=ry;exact ne_str (aG I q (congrArg not A9))
  | _=>exact absurd (show false=true from hs) zd
 | A3 i =>
  obtain⟨t,rfl⟩:=rx
  cases y with
  | A3 j=>obtain⟨t',rfl⟩:=ry;exact PySem.W.ne_bytes (aG I q (congrArg not A_))
  | _=>exact absurd (show false=true from hs) zd
 | _=>cases y <;> exact absurd (show false=true from hs) zd
theorem PC:fZ X (compareOp .Lt) (HW fun i j=>.bl (decide (i<j))):=HX fun _ _ _ _ _ _ _ q=>lt_int q
theorem PD:fZ X (compareOp .LtE) (HW fun i j=>.bl (decide (i≤j))):=HX fun _ _ _ _ _ _ _ q=>le_int q
theorem PF:fZ X (compareOp .Gt) (HW fun i j=>.bl (decide (j<i))):=HX fun _ _ _ _ _ _ _ q=>gt_int q
theorem PH:fZ X (compareOp .GtE) (HW fun i j=>.bl (decide (j≤i))):=HX fun _ _ _ _ _ _ _ q=>ge_int q
theorem Cd:fZ X (compareOp .Lt) (fun x y H Q=>∃ i j,x=.str i∧y=.str j∧Q (.bl (decide (i.cps.toList<j.cps.toList))) H):=by
 intro pins s σ H x y v u Q I rx ry h
 obtain⟨i,j,rfl,rfl,q⟩:=h
 obtain⟨t,rfl⟩:=rx
 obtain⟨t',rfl⟩:=ry
 exact lt_str (aG I q rfl)
theorem Cf:fZ X (compareOp .In) (fun x y H Q=>∃ i j,x=.str i∧y=.str j∧Q (.bl (!(Builtin.Str.occurrences j i 0 j.length 1).isEmpty)) H):=by
 intro pins s σ H x y v u Q I rx ry h
 obtain⟨i,j,rfl,rfl,q⟩:=h
 obtain⟨t,rfl⟩:=rx
 obtain⟨t',rfl⟩:=ry
 exact in_str (aG I q rfl)
theorem Me:fZ X (compareOp .Is) (fun x y H Q=>y=.au∧Q (.bl (decide (x=.au))) H):=by
 intro pins s σ H x y v u Q I rx ry h
 obtain⟨rfl,q⟩:=h
 cases ry
 refine is_none_gen (aG I q ?_)
 cases x <;> first
  | (cases rx;rfl)
  | (obtain⟨t,rfl⟩:=rx;rfl)
theorem HZ:fZ X (compareOp .IsNot) (fun x y H Q=>y=.au∧Q (.bl (!decide (x=.au))) H):=by
 intro pins s σ H x y v u Q I rx ry h
 obtain⟨rfl,q⟩:=h
 cases ry
 refine isnot_none_gen (aG I q ?_)
 cases x <;> first
  | (cases rx;rfl)
  | (obtain⟨t,rfl⟩:=rx;rfl)
theorem tO:fZ X (compareOp .NotIn) (fun x y H Q=>∃ i j,x=.str i∧y=.str j∧Q (.bl (!(!(Builtin.Str.occurrences j i 0 j.length 1).isEmpty))) H):=by
 intro pins s σ H x y v u Q I rx ry h
 obtain⟨i,j,rfl,rfl,q⟩:=h
 obtain⟨t,rfl⟩:=rx
 obtain⟨t',rfl⟩:=ry
 exact notIn_str (aG I q rfl)
theorem Uo (b:Expr) (h:op≠.In:=by decide) (h2:op≠.NotIn:=by decide):behindInMarks op b=false:=by
 have e1:(op == CmpOp.In)=false:=by cases op <;> first | rfl | exact absurd rfl h
 have e2:(op == CmpOp.NotIn)=false:=by cases op <;> first | rfl | exact absurd rfl h2
 cases b <;> simp [behindInMarks,e1,e2]
theorem Ba {op:CmpOp}{r:R2} (ho:fZ X (compareOp op) r) (ha:PE X a ta) (hb:PE X b tb) (hm:behindInMarks op b=false):PE X (.Compare a [op] [b] pos) (Oz r ta tb):=by
 intro pins s σ H Q I h
 exact wpAny_Compare1 (L8 ha hb I h fun v u s2 x y H2 I2 rx ry q=>ho pins s2 σ H2 x y v u Q I2 rx ry q) hm
def Ew (t:TE):TT:=fun σ H Q=>t σ H fun x H'=>∃ k,x=.bl k∧Q k H'
theorem H9 {op:CmpOp}{r:R2} (ho:fZ X (compareOp op) r) (ha:PE X a ta) (hb:PE X b tb) (hm:behindInMarks op b=false):PT X (.Compare a [op] [b] pos) (Ew (Oz r ta tb)):=by
 intro pins s σ H Q I h
 refine wpAny_isTrue_Compare1 (br (ha pins s σ H _ I h) fun v s1 ⟨x,H1,I1,r1,q1⟩=>br (hb pins s1 σ H1 _ I1 q1) fun u s2 ⟨y,H2,I2,r2,q2⟩ =>
  br (ho pins s2 σ H2 x y v u _ I2 r1 r2 q2) fun c s3 ⟨z,H3,I3,r3,k,e,q3⟩=>?_) hm
 subst e
 cases r3
 exact yh ⟨H3,I3,q3⟩
def xE (r r':R2) (ta tb tc:TE):TE:=fun σ H Q=>ta σ H fun x H1=>tb σ H1 fun y H2=>r x y H2 fun z H3=>∃ k,z=.bl k ∧
 (if k=true then tc σ H3 fun w' H4=>r' y w' H4 Q else Q (.bl false) H3)
theorem Ex {op Cg:CmpOp}{r r':R2} (ho:fZ X (compareOp op) r) (xx:fZ X (compareOp Cg) r') (ha:PE X a ta) (hb:PE X b tb) (hc:PE X c tc)
  (hm:lastMarks [op,Cg] [b,c]=false:=by with_unfolding_all rfl):PE X (.Compare a [op,Cg] [b,c] pos) (xE r r' ta tb tc):=by
 intro pins s σ H Q I h
 refine Compare_chain (br (ha pins s σ H _ I h) fun v s1 ⟨x,H1,I1,r1,q1⟩=>chain_link (br (hb pins s1 σ H1 _ I1 q1) fun u s2 ⟨y,H2,I2,r2,q2⟩ =>
  br (ho pins s2 σ H2 x y v u _ I2 r1 r2 q2) fun d s3 ⟨z,H3,I3,r3,k,e,q3⟩=>?_)) hm
 subst e
 cases r3
 refine yh ?_
 cases k with
 | false=>exact ite_ff ⟨.bl false,H3,I3,rfl,q3⟩
 | true=>exact ite_tt (chain_last (br (hc pins s3 σ H3 _ I3 q3) fun w' s4 ⟨z',H4,I4,r4,q4⟩=>xx pins s4 σ H4 y z' u w' Q I4 r2 r4 q4))
theorem Ey {op Cg:CmpOp}{r r':R2} (ho:fZ X (compareOp op) r) (xx:fZ X (compareOp Cg) r') (ha:PE X a ta) (hb:PE X b tb) (hc:PE X c tc)
  (hm:lastMarks [op,Cg] [b,c]=false:=by with_unfolding_all rfl):PT X (.Compare a [op,Cg] [b,c] pos) (Ew (xE r r' ta tb tc)):=by
 intro pins s σ H Q I h
 refine isTrue_chain (br (ha pins s σ H _ I h) fun v s1 ⟨x,H1,I1,r1,q1⟩=>test_link (br (hb pins s1 σ H1 _ I1 q1) fun u s2 ⟨y,H2,I2,r2,q2⟩ =>
  br (ho pins s2 σ H2 x y v u _ I2 r1 r2 q2) fun d s3 ⟨z,H3,I3,r3,k,e,q3⟩=>?_)) hm
 subst e
 cases r3
 refine yh ?_
 cases k with
 | false =>
  obtain⟨k',e',q'⟩:=q3
  cases e'
  exact ite_ff ⟨H3,I3,q'⟩
 | true =>
  refine ite_tt (test_last (br (hc pins s3 σ H3 _ I3 q3) fun w' s4 ⟨z',H4,I4,r4,q4⟩=>br (xx pins s4 σ H4 y z' u w' _ I4 r2 r4 q4) fun d' s5 ⟨z2,H5,I5,r5,k2,e2,q5⟩=>?_))
  subst e2
  cases r5
  exact yh ⟨H5,I5,q5⟩
theorem pv:(sizeLine:Nat)<2 ^ 63:=by rw[zR];decide
theorem xF:fZ X (binaryOp .Add) (fun x y H Q=>∃ i j,x=.str i∧y=.str j∧i.length+j.length≤sizeLine∧Q (.str (i++j)) H):=by
 intro pins s σ H x y v u Q I rx ry h
 obtain⟨i,j,rfl,rfl,hz,q⟩:=h
 obtain⟨t,rfl⟩:=rx
 obtain⟨t',rfl⟩:=ry
 exact add_str (fun t' tk=>⟨.str (i++j),H,I.tok _,⟨_,rfl⟩,q⟩) hz
theorem vals1 (r:Vals [x] us):∃ u,us=[u]∧RelV x u:=by
 cases r with
 | cons r1 r2=>cases r2;exact⟨_,rfl,r1⟩
theorem vals2 (r:Vals [x,y] us):∃ u w',us=[u,w']∧RelV x u∧RelV y w':=by
 cases r with
 | cons r1 r2 =>
  cases r2 with
  | cons r3 r4=>cases r4;exact⟨_,_,rfl,r1,r3⟩
theorem Ci (hc:X.calm=true):fG X (.builtin "min") (fun xs H Q=>∃ i j,xs=[.int i,.int j]∧Q (.int (if j<i then j else i)) H):=by
 intro pins s σ H xs us Q I r h
 obtain⟨i,j,rfl,q⟩:=h
 obtain⟨u,w',rfl,⟨t,rfl⟩,⟨t',rfl⟩⟩:=vals2 r
 refine min_two_ints (I.ok.hd hc) fun h' tk k=>⟨_,H,I.kept k,?_,q⟩
 by_cases hj:j<i
 ·rw[if_pos hj,if_pos hj];exact⟨_,rfl⟩
 ·rw[if_neg hj,if_neg hj];exact⟨_,rfl⟩
theorem sy:fG X (.type "int") (fun xs H Q=>(∃ i,xs=[.int i]∧Q (.int i) H)∨∃ k,xs=[.bl k]∧Q (.int (if k then 1 else 0)) H):=by
 intro pins s σ H xs us Q I r h
 rcases h with ⟨i,rfl,q⟩ | ⟨k,rfl,q⟩
 ·obtain⟨u,rfl,t,rfl⟩:=vals1 r
  exact call_int_int ⟨.int i,H,I,⟨_,rfl⟩,q⟩
 ·obtain⟨u,rfl,r1⟩:=vals1 r
  cases r1
  exact call_int_bool ⟨.int (if k then 1 else 0),H,I.tok _,⟨_,rfl⟩,q⟩
def Up (K:PySem.W.Frag) (x:V) (H:Hp) (n:Nat):Prop :=
 match x with
 | .str y=>y.length≤sizeLine∧n=y.length
 | .A3 y=>y.size≤sizeLine∧n=y.size
 | .ref p=>(∃ xs,jH K H p xs∧n=xs.length)∨∃ xs,iQ K H p xs∧n=xs.length
 | _=>False
theorem iX:fG X (.builtin "len") (fun xs H Q=>∃ x n,xs=[x]∧Up X.K x H n∧Q (.int n) H):=by
 intro pins s σ H xs us Q I r h
 obtain⟨x,n,rfl,e,q⟩:=h
 obtain⟨u,rfl,rx⟩:=vals1 r
 have hl:=pv
 have hs:sizeLine=16777216:=zR
 cases x with
 | str y =>
  obtain⟨t,rfl⟩:=rx
  obtain⟨hy,e'⟩:y.length≤sizeLine∧n=y.length:=e
  subst e'
  exact len_str (by omega) ⟨.int _,H,I.tok _,⟨_,rfl⟩,q⟩
 | A3 y =>
  obtain⟨t,rfl⟩:=rx
  obtain⟨hy,e'⟩:y.size≤sizeLine∧n=y.size:=e
  subst e'
  exact PySem.W.len_bytes (by omega) ⟨.int _,H,I.tok _,⟨_,rfl⟩,q⟩
 | ref p =>
  cases rx
  have e':(∃ xs,jH X.K H p xs∧n=xs.length)∨∃ xs,iQ X.K H p xs∧n=xs.length:=e
  rcases e' with ⟨xs,hx,e'⟩ | ⟨xs,hx,e'⟩
  ·subst e'
   obtain⟨ax,r',pl,hz⟩:=I.list hx
   have hlen:=r'.length
   exact Calls.call_len_list pl.isList (by simp only [zj];omega) ⟨.int xs.length,H,I.tok _,⟨_,by simp only [zj];rw[hlen]⟩,q⟩
  ·subst e'
   obtain⟨ax,r',pl,hz⟩:=I.tuple hx
   have hlen:=r'.length
   exact len_tuple pl (by simp only [zj];omega) ⟨.int xs.length,H,I.tok _,⟨_,by simp only [zj];rw[hlen]⟩,q⟩
 | _=>exact (show False from e).elim
end
structure xG (h:Heap) (x dx C:Addr) (mA:Str→Option Value):Prop where
 obj:h.get? x=some (instObj C dx)
 ns:h.Ns1 dx mA
 ne:dx≠x
theorem Cj {h:Heap}{dx:Addr}{mA:Str→Option Value} (n:h.Ns1 dx mA):∃ od,h.get? dx=some od∧∀ name,lookIn name od=some (mA name):=by
 obtain⟨o,es,ep,ho,hd,hk,_,hm⟩:=n
 refine⟨o,ho,fun name=>?_⟩
 have e:=hm name
 unfold nsFind findBy at e
 rw[← Array.find?_toList] at e
 unfold lookIn
 rw[hd]
 dsimp only
 split
 ·rename_i y q
  rw[q] at e
  exact congrArg some e
 ·rename_i q
  rw[q] at e
  have a:es.toList.any (·.refKey)=false:=by
   rw[List.any_eq_false]
   intro y hy
   obtain⟨z,t,Mf⟩:=hk y (Array.mem_toList_iff.mp hy)
   simp [DictEntry.refKey,Mf]
  have a':¬ es.toList.any (·.refKey)=true:=by rw[a];exact zd
  rw[if_neg a']
  exact congrArg some e
theorem xG.look (I:xG h x dx C mA):∃ od,PySem.W.InstAt h x (instObj C dx) C (some od)∧∀ name,lookIn name od=some (mA name) :=
 let ⟨od,ho,hl⟩:=Cj I.ns
 ⟨od,⟨I.obj,rfl,rfl,ho⟩,hl⟩
section
variable {prog:Program}{w:World}{A:Around}{E:Value→Shared→Prop}{s:Shared}{K:PySem.W.Frag}{x dx C f:Addr}{mA:Str→Option Value}{name:Str}{v:Value}
theorem get_map (X:K.In s.heap) (I:xG s.heap x dx C mA) (hg:plainGet K C name=true) (hh:hasDictIn K C=true)
  (ha:findIn K (.ref C) name=some none) (hv:mA name=some v) (Sm:handedIn v=true) (h:Q v { s with toks:=s.toks+1 }) :
  wpAny (model prog w) A (getAttr (.ref x) name expr) Q E s:=by
 obtain⟨od,J,hl⟩:=I.look
 exact PySem.W.get_value X J (plainGet_of hg).1 (PySem.W.findObj_own hh ha rfl (by rw[hl,hv])) Sm h
theorem Ez (X:K.In s.heap) (I:xG s.heap x dx C mA) (hg:plainGet K C name=true)
  (hf:findIn K (.ref C) name=some (some (.ref f))) (ht:isFn K (.ref f)=true) (hv:mA name=none) (h:Q (.ref f,[.ref x]) s) :
  wpAny (model prog w) A (getMethod (.ref x) name pl) Q E s:=by
 obtain⟨od,J,hl⟩:=I.look
 exact PySem.W.method_fn X J (plainGet_of hg).1 (plainGet_of hg).2 hf (beq_iff_eq.mp ht) (by show (lookIn name od).map (·.isSome)=some false;rw[hl,hv];rfl) h
theorem H_ (X:K.In s.heap) (I:xG s.heap x dx C mA)
  (hs:findIn K (.ref C) "__setattr__" = some (some (.builtin "object.__setattr__"))) (hp:plainOver K C=true) (ht:takerIn K C name=some none) (hh:hasDictIn K C=true)
  (hw:PySem.Within mA ns) (hsz:ns.length≤sizeLine)
  (h:∀ h',xG h' x dx C (fun y=>if y=name then some v else mA y)→Heap.SameBut dx s.heap h'→Q () { s with heap:=h',toks:=s.toks+2 }) :
  wpAny (model prog w) A (setAttr (.ref x) name v) Q E s:=by
 obtain⟨od,J,hl⟩:=I.look
 refine PySem.W.set_plain X J hs (PySem.W.osa_open (s:={ s with toks:=s.toks+1 }) (r:=none) X J hp ht fun b=>?_)
 obtain⟨cd,hc,HM⟩:=PySem.W.any_some hh
 have hx:s.heap.get? x=some ⟨.ref C,some dx,.plain,#[]⟩:=I.obj
 refine za (zi (za (za (wpAny_loadPart hx (za (PySem.W.Looks.here (s:={ s with toks:=s.toks+1 }) (PySem.W.looks_clsIn X hc) ?_))))))
 rw[HM]
 refine zi (a:=some dx) (za (zi (za ?_)))
 refine wpAny_nsSet1 (s:={ s with toks:=s.toks+1 }) I.ns fun h' Mg Ed=>?_
 obtain⟨oD,esD,epD,Y3,Y4,Y5⟩:=Mg.count (PySem.Within.cons name v hw)
 refine za (wpAny_lookBehind Y3 (by rw[Y4];exact pastItsLine_dict (zG Y5 (by rw[zM];omega))) ?_)
 exact zi (h _ ⟨(Ed.2 _ (Ne.symm I.ne)).trans I.obj,Mg,I.ne⟩ Ed)
theorem EA (X:K.In s.heap) (hm:makesIn K C=true)
  (hi:findIn K (.ref C) "__init__" = some (some (.ref f))) (hf:PySem.W.typeIn K (.ref f)=some (.type "function"))
  (h:codeAny (model prog w) (A.under (.builtin "type.__call__" ⟨.ref C :: vs,kw⟩)) (.call (.ref f) ⟨.ref (s.heap.objs.size+1) :: vs,kw⟩) (PySem.W.InitBack (s.heap.objs.size+1) R)
   { s with heap:=(s.heap.push emptyDict).push (instObj C s.heap.objs.size) }) :
  codeAny (model prog w) A (.call (.ref C) ⟨vs,kw⟩) R s:=by
 obtain⟨hh,g,d,t,os⟩:=s
 exact PySem.W.make_core (PySem.W.makes_of X hm) (PySem.W.looks_findIn X hi) (fun self=>PySem.W.bind_fn X self hf) (.inl rfl) h
end
def putF (f:Str) (v:V):List (Str×V)→List (Str×V)
 | []=>[(f,v)]
 | (g,x) :: r=>if g=f then (g,v) :: r else (g,x) :: putF f v r
theorem nQ (f g:Str) (v:V):∀ fs:List (Str×V),(putF f v fs).lookup g=if g=f then some v else fs.lookup g
 | []=>by
  show List.lookup g [(f,v)]=_
  by_cases h:g=f
  ·have hb:(g == f)=true:=beq_iff_eq.mpr h
   simp only [List.lookup,hb,if_pos h]
  ·have hb:(g == f)=false:=beq_eq_false_iff_ne.mpr h
   simp only [List.lookup,hb,if_neg h]
 | (k,x) :: r=>by
  have ih:=nQ f g v r
  rw[show putF f v ((k,x) :: r)=(if k=f then (k,v) :: r else (k,x) :: putF f v r) from rfl]
  by_cases hk:k=f
  ·rw[if_pos hk]
   by_cases h:g=k
   ·have hb:(g == k)=true:=beq_iff_eq.mpr h
    simp only [List.lookup,hb,if_pos (h.trans hk)]
   ·have hb:(g == k)=false:=beq_eq_false_iff_ne.mpr h
    simp only [List.lookup,hb,if_neg (fun e:g=f=>h (e.trans hk.symm))]
  ·rw[if_neg hk]
   by_cases h:g=k
   ·have hb:(g == k)=true:=beq_iff_eq.mpr h
    simp only [List.lookup,hb,if_neg (fun e:g=f=>hk (h.symm.trans e))]
   ·have hb:(g == k)=false:=beq_eq_false_iff_ne.mpr h
    simp only [List.lookup,hb]
    exact ih
theorem mE (f:Str) (v:V):∀ fs:List (Str×V),f∈(putF f v fs).map (·.1)∧∀ g,g∈fs.map (·.1)→g∈(putF f v fs).map (·.1)
 | []=>⟨by simp [putF],fun g h=>by simp at h⟩
 | (k,x) :: r=>by
  obtain⟨i1,i2⟩:=mE f v r
  rw[show putF f v ((k,x) :: r)=(if k=f then (k,v) :: r else (k,x) :: putF f v r) from rfl]
  by_cases hk:k=f
  ·rw[if_pos hk]
   subst hk
   exact⟨by simp,fun g h=>by simpa using h⟩
  ·rw[if_neg hk]
   refine⟨?_,fun g h=>?_⟩
   ·rw[zB]
    exact zh _ i1
   ·rw[zB] at h ⊢
    rcases zf.mp h with e | e
    ·exact zf.mpr (.inl e)
    ·exact zh _ (i2 g e)
theorem nR (f:Str) (v:V):∀ fs:List (Str×V),(putF f v fs).length≤fs.length+1
 | []=>by simp [putF]
 | (k,x) :: r=>by
  have ih:=nR f v r
  rw[show putF f v ((k,x) :: r)=(if k=f then (k,v) :: r else (k,x) :: putF f v r) from rfl]
  by_cases hk:k=f
  ·rw[if_pos hk,zM,zM];omega
  ·rw[if_neg hk,zM,zM];omega
theorem fU.some_of (r:fU (some v) o):∃ u,o=some u∧RelV v u:=by
 cases o with
 | none=>exact (show False from r).elim
 | some u=>exact⟨u,rfl,r⟩
theorem fU.none_of (r:fU none o):o=none:=by
 cases o with
 | none=>rfl
 | some u=>exact (show False from r).elim
theorem Ck (r:RelV v u):handedIn u=true:=by
 cases v with
 | au=>cases (show u=Value.none from r);rfl
 | bl b=>cases (show u=Value.bool b from r);rfl
 | int i=>obtain⟨t,e⟩:=(show ∃ t,u=Value.int i t from r);cases e;rfl
 | str x=>obtain⟨t,e⟩:=(show ∃ t,u=Value.str x t from r);cases e;rfl
 | A3 b=>obtain⟨t,e⟩:=(show ∃ t,u=Value.bytes b t from r);cases e;rfl
 | LC b=>obtain⟨t,e⟩:=(show ∃ t,u=Value.float b t from r);cases e;rfl
 | ref a=>cases (show u=Value.ref a from r);rfl
 | ty n=>cases (show u=Value.type n from r);rfl
section
variable {P:Program}{w:World}{H H':Hp}{h h':Heap}{a C dx:Addr}{fs Ea:List (Str×V)}
theorem oV (aM:kC P w H h) (e:H a=some (.ins C dx fs)):∃ mA,xG h a dx C mA∧(∀ f,fU (fs.lookup f) (mA f))∧PySem.Within mA (fs.map (·.1))∧fs.length≤1000∧H dx=some (.own a):=by
 obtain⟨d,z,ne,ob,mA,n,r,q⟩:=(show bh P w H h a (.ins C dx fs) from aM a _ e)
 exact⟨mA,⟨ob,n,ne⟩,r,q,z,d⟩
end
structure tP (K:PySem.W.Frag) (C:Addr):Prop where
 pg:plainGet K C Str.empty=true
 hd:hasDictIn K C=true
 po:plainOver K C=true
 sa:findIn K (.ref C) "__setattr__" = some (some (.builtin "object.__setattr__"))
theorem tP.get {K:PySem.W.Frag}{C:Addr} (c:tP K C) (f:Str):plainGet K C f=true:=c.pg
def iY (K:PySem.W.Frag) (C:Addr) (f:Str):Prop:=findIn K (.ref C) f=some none
theorem iY.PJ {K:PySem.W.Frag}{C:Addr}{f:Str} (n:iY K C f):takerIn K C f=some none:=by
 unfold takerIn
 rw[show findIn K (.ref C) f=some none from n]
 rfl
structure Con (K:PySem.W.Frag) (C:Addr) (f:Str) (v:V) (u:Value):Prop where
 at_:findIn K (.ref C) f=some (some u)
 rel:RelV v u
 get:specialIn K u "__get__" = some none
 cp:PySem.W.copiedNames.contains f=false
structure Meth (K:PySem.W.Frag) (C:Addr) (m:Str) (f:Addr):Prop where
 at_:findIn K (.ref C) m=some (some (.ref f))
 fn:isFn K (.ref f)=true
 kp:keepIn K (.ref f)=true
section
variable {X:Cx}{pins:List (Addr×Obj)}{σ:St}{H:Hp}{s:Shared}{a C dx:Addr}{fs:List (Str×V)}{f:Str}{v:V}{A:Around}{E:Value→Shared→Prop}
theorem xH (I:Inv X pins σ H s) (e:H a=some (.ins C dx fs)) (c:tP X.K C) (n:iY X.K C f) (l:fs.lookup f=some v)
  (h:∀ u s',Inv X pins σ H s'→RelV v u→Q u s'):wpAny (model X.prog X.w) A (getAttr (.ref a) f b) Q E s:=by
 obtain⟨mA,O,r,_,_,_⟩:=oV I.aM e
 obtain⟨u,hu,ru⟩:=fU.some_of (v:=v) (o:=mA f) (by rw[← l];exact r f)
 exact get_map I.nO O (c.get f) c.hd n hu (Ck ru) (h u _ (I.tok _) ru)
theorem px (I:Inv X pins σ H s) (e:H a=some (.ins C dx fs)) (c:tP X.K C) (k:Meth X.K C m g) (l:fs.lookup m=none)
  (h:Q (.ref g,[.ref a]) s):wpAny (model X.prog X.w) A (getMethod (.ref a) m pl) Q E s:=by
 obtain⟨mA,O,r,_,_,_⟩:=oV I.aM e
 have hn:mA m=none:=fU.none_of (by rw[← l];exact r m)
 exact Ez I.nO O (c.get m) k.at_ k.fn hn h
theorem xI (I:Inv X pins σ H s) (e:H a=some (.ins C dx fs)) (c:tP X.K C) (n:iY X.K C f) (hl:fs.length<1000) (ry:RelV y u)
  (h:∀ s',Inv X pins σ (upd H a (.ins C dx (putF f y fs))) s'→Q () s'):wpAny (model X.prog X.w) A (setAttr (.ref a) f u) Q E s:=by
 obtain⟨mA,O,r,wi,_,ho⟩:=oV I.aM e
 have hz:(fs.map (·.1)).length≤sizeLine:=by rw[zb,zR];omega
 refine H_ I.nO O c.sa c.po n.PJ c.hd wi hz fun h' O' sb=>h _ ?_
 have hd:∃ o,h'.get? dx=some o:=by obtain⟨o,_,_,e',_⟩:=O'.ns;exact⟨o,e'⟩
 refine I.write (x:=a) (e:=dx) (by rw[e];exact True.intro) (.inr ho) (fun b q hb z=>(sb.2 b hb).trans z) hd ?_
 refine⟨by rw[av O.ne];exact ho,?_,O.ne,O'.obj,_,O'.ns,fun g=>?_,fun g hg=>?_⟩
 ·have:=nR f y fs;omega
 ·show fU ((putF f y fs).lookup g) (if g=f then some u else mA g)
  rw[nQ]
  by_cases q:g=f
  ·rw[if_pos q,if_pos q];exact ry
  ·rw[if_neg q,if_neg q];exact r g
 ·by_cases q:g=f
  ·rw[q];exact (mE f y fs).1
  ·refine (mE f y fs).2 g (wi g fun z=>hg ?_)
   show (if g=f then some u else mA g)=none
   rw[if_neg q];exact z
theorem Inv.made (I:Inv X pins σ H s):Inv X pins σ (upd (upd H s.heap.objs.size (.own (s.heap.objs.size+1))) (s.heap.objs.size+1) (.ins C s.heap.objs.size []))
  { s with heap:=(s.heap.push emptyDict).push (instObj C s.heap.objs.size) }:=by
 have e1:(s.heap.push emptyDict).get? s.heap.objs.size=some emptyDict:=zm s.heap rfl
 have e2:((s.heap.push emptyDict).push (instObj C s.heap.objs.size)).get? (s.heap.objs.size+1)=some (instObj C s.heap.objs.size):=by
  have:=zm (s.heap.push emptyDict) (o:=instObj C s.heap.objs.size) rfl
  rwa [yj] at this
 have e3:(s.heap.push emptyDict).Ns s.heap.objs.size (fun _=>none):=⟨emptyDict,#[],_,e1,rfl,(fun e he=>absurd he (by simp)),fun _=>rfl⟩
 have I1:=I.laid (a:=s.heap.objs.size) (o:=.own (s.heap.objs.size+1)) (h':=s.heap.push emptyDict) (t':=s.toks) (fun b u q=>zc _ q) (zl _) ⟨_,e1⟩
 refine I1.laid (a:=s.heap.objs.size+1) (o:=.ins C s.heap.objs.size []) (t':=s.toks) (fun b u q=>zc _ q) (Nat.le_of_eq (yj _ _)) ?_
 have ne:s.heap.objs.size≠s.heap.objs.size+1:=zw (Nat.lt_succ_self _)
 refine⟨by rw[av ne,aF],ya _,ne,e2,fun _=>none,(Heap.Ns1.of_empty e3).at fun o q=>zc _ q,fun _=>True.intro,fun y hy=>absurd rfl hy⟩
theorem Ia (hb:attributeBase e f env (eval e env)=eval e env)
  (h:wpAny (model prog w) A (eval e env) (fun o bb=>wpAny (model prog w) A (getAttr o f true) Q E bb) E s):wpAny (model prog w) A (eval (.Attribute e f pos) env) Q E s :=
 Attribute_any_ h (by rw[arm_eval_Attribute,hb])
end
def Uq (K:PySem.W.Frag) (ta:TE) (f:Str):TE:=fun σ H Q=>ta σ H fun x H1=>∃ a C dx fs v,x=.ref a∧H1 a=some (.ins C dx fs)∧tP K C∧iY K C f∧fs.lookup f=some v∧Q v H1
def Ur (K:PySem.W.Frag) (ta tv:TE) (f:Str):TS:=fun D σ H=>tv σ H fun y H1=>ta σ H1 fun x H2=>∃ a C dx fs,x=.ref a∧H2 a=some (.ins C dx fs)∧tP K C∧iY K C f∧fs.length<1000 ∧
 D.nx σ (upd H2 a (.ins C dx (putF f y fs)))
section
variable {X:Cx}{o e value:Expr}{f:Str}{pos pos' Us:Pos}{ta tv:TE}
theorem Mh (he:PE X e ta) (hb:attributeBase e f X.env (eval e X.env)=eval e X.env):PE X (.Attribute e f pos) (Uq X.K ta f):=by
 intro pins s σ H Q I h
 refine Ia hb (br (he pins s σ H _ I h) fun u s1 ⟨x,H1,I1,rx,a,C,dx,fs,v,ex,ea,c,n,l,q⟩=>?_)
 subst ex
 obtain rfl:u=Value.ref a:=rx
 exact xH I1 ea c n l fun u' s2 I2 ru=>⟨v,H1,I2,ru,q⟩
theorem Mi (ha:PE X o ta) (hv:PE X value tv) (hs:swapsWith value (some (.Attribute o f pos')) pos.line X.env=pure false):PS X (.Assign [.Attribute o f pos'] value pos) (Ur X.K ta tv f):=by
 intro pins s σ H D I h
 refine plainObj_wpAny_Assign_Attribute (br (hv pins s σ H _ I h) fun u s1 ⟨y,H1,I1,ry,q⟩=>br (ha pins s1 σ H1 _ I1 q) fun ov s2 ⟨x,H2,I2,rx,a,C,dx,fs,ex,ea,c,n,l,q2⟩=>?_) hs
 subst ex
 obtain rfl:ov=Value.ref a:=rx
 exact xI I2 ea c n l ry fun s3 I3=>⟨σ,_,I3,q2⟩
end
section
variable {X:Cx}{pins:List (Addr×Obj)}{σ:St}{H:Hp}{s:Shared}{A:Around}{E:Value→Shared→Prop}{Q:Value→Shared→Prop}{c:Value}{b:Bool}
inductive mF (K:PySem.W.Frag) (H:Hp):V→Value→Prop where
 | au:mF K H .au (.type "NoneType")
 | bl (x:Bool):mF K H (.bl x) (.type "bool")
 | int (i:Int):mF K H (.int i) (.type "int")
 | str (x:Str):mF K H (.str x) (.type "str")
 | LC (x:UInt64):mF K H (.LC x) (.type "float")
 | lst {a:Addr}{xs:List V} (e:H a=some (.lst xs)):mF K H (.ref a) (.type "list")
 | kB {a:Addr}{o:Obj}{xs:List V} (e:H a=some (.kB o (.lst xs))):mF K H (.ref a) (.type "list")
 | tup {a:Addr}{xs:List V} (e:H a=some (.tup xs)):mF K H (.ref a) (.type "tuple")
 | dK {a:Addr}{kvs:List (Key×V)} (e:H a=some (.dK kvs)):mF K H (.ref a) (.type "dict")
 | dT {a:Addr}{kvs:List (List Key×V)} (e:H a=some (.dT kvs)):mF K H (.ref a) (.type "dict")
 | ins {a C dx:Addr}{fs:List (Str×V)} (e:H a=some (.ins C dx fs)) (cl:tP K C) (ha:findIn K (.ref C) "__class__" = some (some (.builtin "object.__class__")))
   (hn:specialIn K (.builtin "object.__class__") "__get__" = some (some (.builtin "getset_descriptor.__get__"))) (Xx:PySem.W.takesIn K (.builtin "object.__class__")=some true)
   (hm:mroIn K C (.type "object")=some true):mF K H (.ref a) (.ref C)
theorem Cm (I:Inv X pins σ H s) (rx:RelV x u) (ty:mF X.K H x t) (e:kitOne X.K t c=some b) (h:∀ tk,Q (.bool b) { s with toks:=tk }) :
  wpAny (model X.prog X.w) A (call (.builtin "isinstance") [u,c]) Q E s:=by
 cases ty with
 | au=>cases (show u=Value.none from rx);exact kia_one PySem.W.kitx_none I.nO True.intro e (fun z=>nomatch z) h
 | bl y=>cases (show u=Value.bool y from rx);exact kia_one PySem.W.kitx_bool I.nO True.intro e (fun z=>nomatch z) h
 | int i=>obtain⟨t,q⟩:=(show ∃ t,u=Value.int i t from rx);cases q;exact kia_one PySem.W.kitx_int I.nO True.intro e (fun z=>nomatch z) h
 | str y=>obtain⟨t,q⟩:=(show ∃ t,u=Value.str y t from rx);cases q;exact kia_one PySem.W.kitx_str I.nO True.intro e (fun z=>nomatch z) h
 | LC y=>obtain⟨t,q⟩:=(show ∃ t,u=Value.float y t from rx);cases q;exact kia_one PySem.W.kitx_float I.nO True.intro e (fun z=>nomatch z) h
 | @lst a xs ea =>
  cases (show u=Value.ref a from rx)
  obtain⟨_,_,n,_,h1⟩:=(show bh X.prog X.w H s.heap a (.lst xs) from I.aM a _ ea)
  exact kia_one kitx_list I.nO ⟨_,h1,rfl⟩ e (fun z=>nomatch z) h
 | @kB a ob xs ea =>
  cases (show u=Value.ref a from rx)
  obtain⟨_,_,_,n,_,h1⟩:=(show bh X.prog X.w H s.heap a (.kB ob (.lst xs)) from I.aM a _ ea)
  exact kia_one kitx_list I.nO ⟨_,h1,rfl⟩ e (fun z=>nomatch z) h
 | @tup a xs ea =>
  cases (show u=Value.ref a from rx)
  obtain⟨_,_,_,p⟩:=(show bh X.prog X.w H s.heap a (.tup xs) from I.aM a _ ea)
  obtain⟨o,h1,h2,_⟩:=p
  exact kia_one PySem.W.kitx_tuple I.nO ⟨o,h1,h2⟩ e (fun z=>nomatch z) h
 | @dK a kvs ea =>
  cases (show u=Value.ref a from rx)
  obtain⟨_,_,vs,_,p⟩:=(show bh X.prog X.w H s.heap a (.dK kvs) from I.aM a _ ea)
  obtain⟨o,es,ep,h1,h2,_⟩:=p
  exact kia_one PySem.W.kitx_dict I.nO ⟨o,h1,h2.1⟩ e (fun z=>nomatch z) h
 | @dT a kvs ea=>exact False.elim (show bh X.prog X.w H s.heap a (.dT kvs) from I.aM a _ ea)
 | @ins a C dx fs ea cl ha hn Xx hm =>
  cases (show u=Value.ref a from rx)
  obtain⟨mA,O,_⟩:=oV I.aM ea
  obtain⟨od,J,_⟩:=O.look
  exact kia_one (PySem.W.kitx_own (cl.get _) cl.hd ha hn Xx hm) I.nO J e (fun z=>nomatch z) h
end
structure cI (k:Nat) (A:Around):Prop where
 hd:A.handled=none
 dp:A.depth+3 * k+5<recursionLimit
 un:A.units+16 * k+200<cLine
theorem cI.mono (r:cI k A) (h:j≤k):cI j A:=⟨r.hd,by have:=r.dp;omega,by have:=r.un;omega⟩
theorem cI.deeper (r:cI (k+1) A) (env:Env):cI k (A.deeper env) :=
 ⟨r.hd,by have:=r.dp;show A.depth+1+3 * k+5<_;omega,by have:=r.un;show A.units+3+16 * k+200<_;omega⟩
theorem cI.in1 (r:cI (k+1) A):cI k A.in1 :=
 ⟨r.hd,by have:=r.dp;show A.depth+3 * k+5<_;omega,by have:=r.un;show A.units+1+16 * k+200<_;omega⟩
theorem xJ {A:Around}{C:Addr}{us:List Value}{kw:List (Str×Value)} : (A.under (.builtin "type.__call__" ⟨.ref C :: us,kw⟩)).depth=A.depth+1:=by
 first | rfl | simp [Around.under,Code.weight,Code.isCreation,Code.isGuard,Code.isCaller,Code.frames,Code.isFrame,guardIds]
theorem xK {A:Around}{C:Addr}{us:List Value}{kw:List (Str×Value)} : (A.under (.builtin "type.__call__" ⟨.ref C :: us,kw⟩)).units=A.units+1:=by
 first | rfl | simp [Around.under,Code.cUnits,Code.frames,Code.isFrame]
theorem cI.make (r:cI (k+1) A) (C:Addr) (us:List Value) (kw:List (Str×Value)):cI k (A.under (.builtin "type.__call__" ⟨.ref C :: us,kw⟩)) :=
 ⟨r.hd,by have:=r.dp;rw[xJ];omega,by have:=r.un;rw[xK];omega⟩
theorem cI.depth (r:cI k A):A.depth<recursionLimit:=by have:=r.dp;omega
theorem cI.units (r:cI k A):A.units+64<cLine:=by have:=r.un;omega
def Ut:TA:=fun _ H Q=>Q [] H
def Kl (ta:TE) (tr:TA):TA:=fun σ H Q=>ta σ H fun x H1=>tr σ H1 fun xs H2=>Q (x :: xs) H2
section
variable {X:Cx}{e:Expr}{es:List Expr}{te:TE}{t:TA}{pos:Pos}
theorem xM:PA X [] Ut:=fun _ _ _ _ H Q I h=>Calls.spliced_nil ⟨[],H,I,.nil,h⟩
theorem Ib (ha:PE X e te) (hr:PA X es t) (hs:starEach (e :: es) X.env=(false,eval e X.env) :: starEach es X.env:=by rfl):PA X (e :: es) (Kl te t):=by
 intro pos pins s σ H Q I h
 rw[hs]
 show wpAny _ _ (spliced ((false,eval e X.env) :: backTo pos (starEach es X.env))) _ _ s
 refine yu (br (ha pins s σ H _ I h) fun u s1 ⟨x,H1,I1,r1,q1⟩=>?_)
 exact br (hr pos pins s1 σ H1 _ I1 q1) <| by rintro us s2 ⟨xs,H2,I2,r2,q2⟩;exact⟨x :: xs,H2,I2,.cons r1 r2,q2⟩
def Uu (t:TA):TE:=fun σ H Q=>t σ H fun xs H1=>xs.length≤sizeLine∧∀ p,H1 p=none→Q (.ref p) (upd H1 p (.tup xs))
def Uv (t:TA):TE:=fun σ H Q=>t σ H fun xs H1=>xs.length≤sizeLine∧∀ p,H1 p=none→Q (.ref p) (upd H1 p (.lst xs))
theorem Mj {x1} (h:PA X es t):PE X (.Tuple es x1 pos) (Uu t):=by
 intro pins s σ H Q I hq
 refine wpAny_Tuple_spliced (br (h pos pins s σ H _ I hq) fun us s1 ⟨xs,H1,I1,r,z,q⟩=>⟨by rw[← r.length];exact z,?_⟩)
 have hf:H1 s1.heap.objs.size=none:=I1.aM.fresh (zl _)
 refine⟨.ref s1.heap.objs.size,upd H1 s1.heap.objs.size (.tup xs),I1.laid (t':=s1.toks) (fun b u e=>zc _ e) (zl _) ?_,rfl,q _ hf⟩
 exact⟨z,us,r,⟨_,zm _ rfl,rfl,rfl,_,rfl⟩⟩
theorem Ml (h:PA X es t):PE X (.List es pos) (Uv t):=by
 intro pins s σ H Q I hq
 refine wpAny_List_spliced (br (h pos pins s σ H _ I hq) fun us s1 ⟨xs,H1,I1,r,z,q⟩=>⟨by rw[← r.length];exact z,?_⟩)
 have hf:H1 s1.heap.objs.size=none:=I1.aM.fresh (zl _)
 refine⟨.ref s1.heap.objs.size,upd H1 s1.heap.objs.size (.lst xs),I1.laid (t':=s1.toks) (fun b u e=>zc _ e) (zl _) ?_,rfl,q _ hf⟩
 exact⟨z,us,0,r,zm _ rfl⟩
end
abbrev Sp:=List V→Hp→VK→XK→Prop
abbrev xN:=List Env→Hp→Shared→XK→Value→Shared→Prop
structure vn (P:Program) (w:World) (K:PySem.W.Frag) (mg:Str→Option Value) (base:Heap) (A:Around) (outer:List Env) (s:Shared) (H:Hp):Prop where
 frames:A.frames=some outer
 mod:Mod K mg base
 bs:∀ b o,base.get? b=some o→s.heap.get? b=some o∧H b=none
 HL:base.objs.size≤s.heap.objs.size
 oo:s.heap.FunFrames base outer
 LG:∀ b∈om outer,H b=none
 aM:kC P w H s.heap
 bare:AllBare s.gens
def CE (outer:List Env) (P:Program) (w:World) (H:Hp) (s:Shared) (Q:VK) (u:Value) (s':Shared):Prop :=
 ∃ v H',s'.os=s.os∧AllBare s'.gens∧Un (om outer) [] H H' s.heap s'.heap∧kC P w H' s'.heap∧RelV v u∧Q v H'
def CR (CX:xN) (outer:List Env) (P:Program) (w:World) (H:Hp) (s:Shared) (Q:VK) (E:XK) (r:Result) (s':Shared):Prop :=
 match r with
 | .ok (.ret u)=>CE outer P w H s Q u s'
 | .ok _=>False
 | .error e=>CX outer H s E e s'
structure cj (P:Program) (w:World) (K:PySem.W.Frag) (mg:Str→Option Value) (base:Heap) (CX:xN) (k:Nat) (f:Addr) (fd:FuncData) (ps:List Str) (sp:Sp):Prop where
 len:∀ vs H Q E,sp vs H Q E→vs.length=ps.length
 run:∀ (A:Around) (outer:List Env) (s:Shared) (H:Hp) (args:Args) (us:List Value) (vs:List V) (Q:VK) (E:XK),cI k A→vn P w K mg base A outer s H→BindsTo s fd args (ps.zip us)→Vals vs us→sp vs H Q E →
  codeAny (model P w) A (.call (.ref f) args) (CR CX outer P w H s Q E) s
theorem cj.mono {P:Program}{w:World}{K:PySem.W.Frag}{mg:Str→Option Value}{base:Heap}{CX:xN}{j k:Nat}{f:Addr}{fd:FuncData}{ps:List Str}{sp:Sp} (F:cj P w K mg base CX j f fd ps sp) (h:j≤k) :
  cj P w K mg base CX k f fd ps sp:=⟨F.len,fun A outer s H args us vs Q E hr=>F.run A outer s H args us vs Q E (hr.mono h)⟩
theorem cj.imp {P:Program}{w:World}{K:PySem.W.Frag}{mg:Str→Option Value}{base:Heap}{CX:xN}{k:Nat}{f:Addr}{fd:FuncData}{ps:List Str}{sp Sn:Sp} (F:cj P w K mg base CX k f fd ps sp)
  (h:∀ vs H Q E,Sn vs H Q E→sp vs H Q E):cj P w K mg base CX k f fd ps Sn :=
 ⟨fun vs H Q E q=>F.len vs H Q E (h _ _ _ _ q),fun A outer s H args us vs Q E hr he hb hv hs=>F.run A outer s H args us vs Q E hr he hb hv (h _ _ _ _ hs)⟩
theorem vn.make {P:Program}{w:World}{K:PySem.W.Frag}{mg:Str→Option Value}{base:Heap}{A:Around}{outer:List Env}{s:Shared}{H:Hp} (e:vn P w K mg base A outer s H) (C:Addr) (us:List Value) (kw:List (Str×Value)) :
  vn P w K mg base (A.under (.builtin "type.__call__" ⟨.ref C :: us,kw⟩)) outer s H:=⟨by first | exact e.frames | (simpa [Around.under,Code.envs,Code.isFrame,pushEnvs] using e.frames),e.mod,e.bs,e.HL,e.oo,e.LG,e.aM,e.bare⟩
section
variable {X:Cx}{pins:List (Addr×Obj)}{σ:St}{H:Hp}{s s':Shared}
theorem Inv.PK (I:Inv X pins σ H s):vn X.prog X.w X.K X.mg X.base X.A X.stack s H :=
 ⟨I.ok.frames,I.ok.mod,I.bs,zG I.ok.HL I.sz,I.stack,I.oS,I.aM,I.bare⟩
theorem Inv.after (I:Inv X pins σ H s) (h:CE X.stack X.prog X.w H s Q u s'):EP X pins σ Q u s':=by
 obtain⟨v,H',os,bare,un,aM,r,q⟩:=h
 obtain⟨hh,g,d,t,PL⟩:=s'
 obtain rfl:PL=s.os:=os
 exact⟨v,H',I.call (h':=hh) (g':=g) (d':=d) (t':=t) (ch:=[]) un aM bare (fun b z=>absurd z (by simp)),r,q⟩
end
def Binds (K:PySem.W.Frag) (fd:FuncData) (ps:List Str) (ds:List Value):Prop :=
 ∀ (s:Shared) (us:List Value),K.In s.heap→(us++ds).length=ps.length→BindsTo s fd ⟨us,[]⟩ (ps.zip (us++ds))
theorem Binds.all {K:PySem.W.Frag}{fd:FuncData}{ps:List Str} (h:∀ us:List Value,us.length=ps.length→bindArgs fd ⟨us,[]⟩=pure (ps.zip us)):Binds K fd ps []:=fun s us _ hl=>by
 rw[List.append_nil] at hl ⊢
 exact .of_eq (h us hl)
def Passes (CX:xN) (X:Cx) (E:XK):Prop:=∀ (pins:List (Addr×Obj)) (σ:St) (H:Hp) (s:Shared) (e:Value) (s':Shared),Inv X pins σ H s→CX X.stack H s E e s'→X.xe e s'
section
variable {X:Cx}{CX:xN}{k:Nat}{f C:Addr}{fd:FuncData}{ps:List Str}{sp:Sp}{oq:List V}{ds:List Value}{E:XK}{x m:Str}{p pos apos:Pos}{e o:Expr}{es:List Expr}{ta:TE}{t:TA}
structure Mk (K:PySem.W.Frag) (C f:Addr):Prop where
 makes:makesIn K C=true
 init:findIn K (.ref C) "__init__" = some (some (.ref f))
 fn:isFn K (.ref f)=true
 kp:keepIn K (.ref C)=true
end
section
variable {X:Cx}{CX:xN}{k:Nat}{f C:Addr}{fd:FuncData}{ps ks:List Str}{sp:Sp}{E:XK}{x m:Str}{p pos apos Y6:Pos}{e o:Expr}{es:List Expr}{kws:List Keyword}{te ta:TE}{t tk:TA}{nm:Option Str}
structure Uw (K:PySem.W.Frag) (fd:FuncData) (ps ks:List Str) (g:List Value→List Value→List Value) (gV:List V→List V→List V):Prop where
 to:∀ (s:Shared) (us ws:List Value),K.In s.heap→(g us ws).length=ps.length→BindsTo s fd ⟨us,ks.zip ws⟩ (ps.zip (g us ws))
 rel:∀ {vs:List V}{us:List Value}{zs:List V}{ws:List Value},Vals vs us→Vals zs ws→Vals (gV vs zs) (g us ws)
variable {g:List Value→List Value→List Value}{gV:List V→List V→List V}
end
structure ai (N P:List Str) (sc:Scope):Prop where
 kind:sc.kind=.function
 co:sc.isCoroutine=false
 gen:sc.isGenerator=false
 nd:N.Nodup
 pre:N.take P.length=P
 par:∀ x∈P,sc.names.lookup x=some .local∨sc.names.lookup x=some .cell
 Mm:∀ y∈sc.names,y.2≠.free
theorem sA {kindOf:Str→Option NameKind}{x:Str} : ∀ {binds:List (Str×Value)}{m:Str→Option Value},(∀ v,(x,v)∉binds)→bindL kindOf binds m x=m x
 | [],_,_=>rfl
 | (n,v) :: r,m,h=>by
  unfold bindL
  rw[sA fun w hw=>h w (zh _ hw)]
  split
  ·have:x≠n:=by rintro rfl;exact h v zx
   simp [this]
  ·rfl
theorem sC {kindOf:Str→Option NameKind}{x:Str} : ∀ {binds:List (Str×Value)}{m:Str→Option Value},(∀ v,(x,v)∉binds)→bindC kindOf binds m x=m x
 | [],_,_=>rfl
 | (n,v) :: r,m,h=>by
  unfold bindC
  rw[sC fun w hw=>h w (zh _ hw)]
  split
  ·rfl
  ·have:x≠n:=by rintro rfl;exact h v zx
   simp [this]
theorem sD {kindOf:Str→Option NameKind}{x:Str}{v:Value} : ∀ {P:List Str}{vs:List Value}{i:Nat}{m:Str→Option Value},P.Nodup→P[i]?=some x→vs[i]?=some v→kindOf x=some .local →
  bindL kindOf (P.zip vs) m x=some v
 | [],_,_,_,_,h,_,_=>by simp at h
 | _ :: _,[],_,_,_,_,h,_=>by simp at h
 | p :: P,w :: vs,0,m,nd,h1,h2,hk=>by
  simp at h1 h2;subst h1;subst h2
  show bindL kindOf ((p,w) :: P.zip vs) m p=_
  unfold bindL
  rw[sA fun v hv=>(yc.mp nd).1 (List.of_mem_zip hv).1,if_pos hk]
  simp
 | p :: P,w :: vs,i+1,m,nd,h1,h2,hk=>by
  show bindL kindOf ((p,w) :: P.zip vs) m x=_
  unfold bindL
  exact sD (i:=i) (yc.mp nd).2 (by simpa using h1) (by simpa using h2) hk
theorem sE {kindOf:Str→Option NameKind}{x:Str}{v:Value} : ∀ {P:List Str}{vs:List Value}{i:Nat}{m:Str→Option Value},P.Nodup→P[i]?=some x→vs[i]?=some v→kindOf x≠some .local →
  bindC kindOf (P.zip vs) m x=some v
 | [],_,_,_,_,h,_,_=>by simp at h
 | _ :: _,[],_,_,_,_,h,_=>by simp at h
 | p :: P,w :: vs,0,m,nd,h1,h2,hk=>by
  simp at h1 h2;subst h1;subst h2
  show bindC kindOf ((p,w) :: P.zip vs) m p=_
  unfold bindC
  rw[sC fun v hv=>(yc.mp nd).1 (List.of_mem_zip hv).1,if_neg hk]
  simp
 | p :: P,w :: vs,i+1,m,nd,h1,h2,hk=>by
  show bindC kindOf ((p,w) :: P.zip vs) m x=_
  unfold bindC
  exact sE (i:=i) (yc.mp nd).2 (by simpa using h1) (by simpa using h2) hk
def start (N:List Str) (vs:List V):St:=vs.map some++List.replicate (N.length - vs.length) none
def kF (CX:xN) (P:Program) (w:World) (K:PySem.W.Frag) (mg:Str→Option Value) (base:Heap) (N:List Str) (qual:Str) (scope:Scope) (f:Addr) (cd:Value) (A:Around) (outer:List Env) (s:Shared) (H:Hp) (E:XK):Cx where
 prog:=P
 w:=w
 K:=K
 mg:=mg
 base:=base
 A:=A.deeper (envOfC qual scope s.heap.objs.size f cd)
 N:=N
 dj:=s
 tN:=H
 env:=envOfC qual scope s.heap.objs.size f cd
 outer:=outer
 stack:=envOfC qual scope s.heap.objs.size f cd :: outer
 ex:=[]
 calm:=true
 fn:=fun _=>true
 pn:=[]
 xe:=fun e s'=>wpAny (model P w) (A.deeper (envOfC qual scope s.heap.objs.size f cd)) (leaving (envOfC qual scope s.heap.objs.size f cd) e) (fun _ xO=>CX outer H s E e xO) (fun e' xO=>CX outer H s E e' xO) s'
theorem vo {sc:Scope}{n:Nat}{x:Str} (h:sc.names.lookup x=some .cell):∃ c,(cellsFrom n sc.names []).lookup x=some c:=by
 have q:=PySem.W.cellsFrom_some sc.names n [] (.inl h)
 exact Option.isSome_iff_exists.mp q
theorem Co {CX:xN}{P:Program}{w:World}{K:PySem.W.Frag}{mg:Str→Option Value}{base:Heap}{N ps:List Str}{qual:Str}{scope:Scope}{f:Addr}{cd:Value}{A:Around}{outer:List Env}{s s1:Shared}{H:Hp}{E:XK}{us:List Value}{vs:List V}
  (S:ai N ps scope) (hd:A.handled=none) (e0:vn P w K mg base A outer s H) (hl:vs.length=ps.length) (r:Vals vs us)
  (x:InCallC s s.heap.objs.size (bindL (envOfC qual scope s.heap.objs.size f cd).kindOf (ps.zip us) fun _=>none) (cellsFrom (s.heap.objs.size+1) scope.names []) (bindC (envOfC qual scope s.heap.objs.size f cd).kindOf (ps.zip us) fun _=>none) s1) :
  Inv (kF CX P w K mg base N qual scope f cd A outer s H E) [] (start N vs) H s1:=by
 have gF:ps.length≤N.length:=by have:=congrArg List.length S.pre;rw[ye] at this;omega
 obtain⟨h1,tk,rfl,hk⟩:=x.done
 have Ie:∀ b:Addr,b∉(kF CX P w K mg base N qual scope f cd A outer s H E).ex:=fun b z=>absurd (show b∈([]:List Addr) from z) (by simp)
 refine⟨⟨e0.mod,S.kind,rfl,rfl,zl _,fun y z c h1 h2=>?_,fun y hy=>?_,fun y c _ h=>?_,fun _=>hd,Around.frames_deeper e0.frames,.inr ⟨rfl,rfl⟩,fun b z=>absurd z (Ie b),e0.bs,e0.HL,fun b _ _=>Ie b,fun b z=>absurd z (Ie b),e0.oo,e0.LG⟩,
  rfl,e0.bare,Un.kept hk,⟨_,x.toInCall.ns,fun i y v h1 h2 h3=>?_⟩,fun y c h=>⟨_,x.cell y c h⟩,e0.aM.fresh (zl _),fun y c h=>?_,fun p hp=>absurd (show p∈([]:List (Addr×Obj)) from hp) (by simp),e0.aM.kept hk,?_⟩
 ·exact name_of_addr x.apart (yd h1) (yd h2)
 ·have hy:scope.names.lookup y=some .cell∨scope.names.lookup y=some .free:=hy
  rcases hy with hy | hy
  ·exact vo hy
  ·exact absurd rfl (S.Mm _ (yd hy))
 ·exact yE (x.above y c (yd h))
 ·have hi:i<vs.length:=by
   unfold start at h2
   by_cases hi:i<vs.length
   ·exact hi
   ·rw[List.getElem?_append_right (by simpa using hi)] at h2
    rw[List.getElem?_replicate] at h2
    split at h2 <;> cases h2
  have ha:vs[i]?=some v:=by
   unfold start at h2
   rw[List.getElem?_append_left (by simpa using hi),zp] at h2
   cases e:vs[i]? with
   | none=>rw[e] at h2;cases h2
   | some a=>rw[e] at h2;cases h2;rfl
  obtain⟨u,hu,rv⟩:=r.get ha
  have hp:ps[i]?=some y:=by
   rw[← S.pre,List.getElem?_take_of_lt (by omega)];exact h1
  have Xy:ps.Nodup:=by rw[← S.pre];exact S.nd.sublist (List.take_sublist _ _)
  refine⟨u,rv,?_⟩
  rcases S.par y (zK hp) with k | k
  ·exact .inl ⟨k,sD Xy hp hu k⟩
  ·obtain⟨c,e⟩:=vo (n:=s.heap.objs.size+1) k
   refine .inr ⟨.inl k,c,e,?_⟩
   have q:=x.cell y c e
   rw[sE Xy hp hu (by show scope.names.lookup y≠_;rw[k];decide)] at q
   exact q
 ·exact e0.aM.fresh (yE (x.above y c (yd h)))
 ·unfold start
  show _=N.length
  rw[zy,zb,List.length_replicate]
  omega
theorem Km {CX:xN}{P:Program}{w:World}{K:PySem.W.Frag}{mg:Str→Option Value}{base:Heap}{k:Nat}{f:Addr}{name qual:Str}{params:Arguments}{body:List Stmt}{scope:Scope}{dV kV doc pm bu ct oc:Value}{an od:Option Addr}
  {Mn:Array (Option Value)}{N ps:List Str}{sp:Sp} (lk:K.lookup f=some ⟨oc,od,.func (fnOf name qual params body scope dV kV doc pm an bu ct),Mn⟩) (rh:codeIn K bu qual=true) (S:ai N ps scope)
  (len:∀ vs H Q E,sp vs H Q E→vs.length=ps.length)
  (pz:∀ (A:Around) (outer:List Env) (s:Shared) (H:Hp) (vs:List V) (Q:VK) (E:XK),cI k (A.deeper (envOfC qual scope s.heap.objs.size f bu))→sp vs H Q E →
   ∃ t,A4 (kF CX P w K mg base N qual scope f bu A outer s H E) body t∧t { nx:=fun _ H'=>Q .au H',rt:=Q } (start N vs) H) :
  cj P w K mg base CX (k+1) f (fnOf name qual params body scope dV kV doc pm an bu ct) ps sp:=by
 refine⟨len,fun A outer s H args us vs Q E hr e0 hb r OA=>?_⟩
 have hl:=len _ _ _ _ OA
 have KX:K.In s.heap:=e0.mod.Ow.keeps fun b o e=>(e0.bs b o e).1
 have lim:s.heap.NoLimit:=e0.mod.nolimit.keeps fun b o e=>(e0.bs b o e).1
 have PM:∀ y∈ps.zip us,scope.names.lookup y.1=some .local∨(scope.names.lookup y.1=some .cell∧((cellsFrom (s.heap.objs.size+1) scope.names []).lookup y.1).isSome=true):=by
  rintro⟨n,v⟩ hy
  rcases S.par n (List.of_mem_zip hy).1 with q | q
  ·exact .inl q
  ·exact .inr ⟨q,PySem.W.cellsFrom_some _ _ _ (.inl q)⟩
 refine codeAny_call_function hr.depth (KX _ _ lk) rfl S.co S.gen rfl (PySem.W.codeRec_of KX rh) (hb _ _ _ _ ?_)
 refine wpAny_newFunctionEnv_cells S.kind PM fun env he s1 x=>?_
 subst he
 refine⟨lim.keeps x.toInCall.keep,codeAny_func ?_⟩
 obtain⟨t,ht,hq⟩:=pz A outer s H vs Q E (hr.deeper _) OA
 have I:Inv (kF CX P w K mg base N qual scope f bu A outer s H E) [] (start N vs) H s1:=Co S hr.hd e0 hl r x
 refine yz (ht [] s1 (start N vs) H _ I hq) (fun fl s' hs=>?_) fun e s' hs=>hs
 have fin:∀ {aK:St}{H':Hp}{v:V}{u:Value},Inv (kF CX P w K mg base N qual scope f bu A outer s H E) [] aK H' s'→RelV v u→Q v H'→CE outer P w H s Q u s' :=
  fun {aK H' v u} J rv q=>⟨v,H',J.os,J.bare,J.base,J.aM,rv,q⟩
 cases fl with
 | ret u =>
  obtain⟨v,aK,H',J,rv,q⟩:=hs
  exact fin J rv q
 | next =>
  obtain⟨aK,H',J,q⟩:=hs
  exact fin (v:=V.au) (u:=Value.none) J rfl q
 | brk =>
  obtain⟨_,_,_,q⟩:=hs
  exact False.elim q
 | cont =>
  obtain⟨_,_,_,q⟩:=hs
  exact False.elim q
section
variable {X:Cx}{x:Str}{p pos:Pos}{e:Expr}{es:List Expr}{t:TA}{id T:String}{r:List V→Hp→VK→Prop}
def Ux (r:List V→Hp→VK→Prop) (t:TA):TE:=fun σ H Q=>t σ H fun vs H1=>r vs H1 Q
theorem vp (hc:fG X (.builtin id) r) (hg:Gl X x) (hm:X.mg x=none) (hv:bootBuiltins x=some (.builtin id)) (ha:PA X (e :: es) t) (hn:x ≠ "__name__" := by decide) (pA:(x == ("__debug__" : Str))=false:=by decide)
  (he:starEach (e :: es) X.env=(false,eval e X.env) :: starEach es X.env:=by rfl) (gF:(backTo pos (starEach es X.env)).any (·.1)=false:=by rfl):PE X (.Call (.Name x p) (e :: es) [] pos) (Ux r t):=by
 intro pins s σ H Q I h
 refine wpAny_Call_Name_kw (g8 I hg hm hv ?_ hn pA)
 exact PyProof.Rows.callWith_builtin1 (br (ha pos pins s σ H _ I h) <| by rintro us s1 ⟨vs,H1,I1,r1,q1⟩;exact hc pins s1 σ H1 vs us Q I1 r1 q1) he gF
theorem sF (hc:fG X (.type T) r) (hg:Gl X x) (hm:X.mg x=none) (hv:bootBuiltins x=some (.type T)) (ha:PA X (e :: es) t) (hn:x ≠ "__name__" := by decide) (pA:(x == ("__debug__" : Str))=false:=by decide)
  (he:starEach (e :: es) X.env=(false,eval e X.env) :: starEach es X.env:=by rfl) (gF:(backTo pos (starEach es X.env)).any (·.1)=false:=by rfl):PE X (.Call (.Name x p) (e :: es) [] pos) (Ux r t):=by
 intro pins s σ H Q I h
 refine wpAny_Call_Name_kw (g8 I hg hm hv ?_ hn pA)
 exact PyProof.Rows.callWith_type1 (br (ha pos pins s σ H _ I h) <| by rintro us s1 ⟨vs,H1,I1,r1,q1⟩;exact hc pins s1 σ H1 vs us Q I1 r1 q1) he gF
end
end L2
namespace HT
open PySem PyProof.Rows
section
open PySem.SeqAt
open PySem.AutoSeq1 (wpAny_loadPart')
open PySem.MeetsSeq PySem.MeetsSeq2 PySem.MeetsSeq3
end
section
variable {prog:Program}{w:World}{A:Around}{E:Value→Shared→Prop}{s:Shared}
theorem cat_tup (ht:IsTup s.heap t vs.toArray) (hb:IsTup s.heap b ws.toArray) (hv:vs≠[])
  (h1:ws=[]→Q (.ref t) s) (h2:ws≠[]→Q (.ref s.heap.objs.size) { s with heap:=s.heap.push { cls:=.type "tuple",data:=.seq (vs++ws).toArray } })
  (hsz:vs.length+ws.length≤sizeLine):wpAny (model prog w) A (binaryOp .Add (.ref t) (.ref b)) Q E s:=by
 obtain⟨⟨cls,dd,data,sl⟩,ho,hc,n,hd⟩:=id ht
 obtain⟨⟨Uy,So,data2,Hu⟩,EB,Ig,n2,hd2⟩:=id hb
 simp only at hc hd Ig hd2
 subst hc hd Ig hd2
 have e:vs.toArray++ws.toArray=(vs++ws).toArray:=by simp
 by_cases hw:ws=[]
 ·exact concat_meets ⟨_,ho,rfl⟩ ⟨_,EB,rfl⟩ noFill_tuple_add seq_tuple_add PySem.F.slot_tuple_add PySem.F.entry_tuple_add (PySem.F.args_tuple_add_2 _ _)
   (tuple_addW1 t b vs.toArray ws.toArray n n2 dd So sl Hu (by simpa using hv) (by simp [hw])) ⟨ho,EB,h1 hw⟩
 ·refine concat_meets ⟨_,ho,rfl⟩ ⟨_,EB,rfl⟩ noFill_tuple_add seq_tuple_add PySem.F.slot_tuple_add PySem.F.entry_tuple_add (PySem.F.args_tuple_add_2 _ _)
   (tuple_addW2 t b vs.toArray ws.toArray n n2 dd So sl Hu (by simpa using hv) (by simpa using hw) (by rw[zj,zj];exact hsz)) ⟨ho,EB,?_⟩
  rw[e]
  exact h2 hw
def sIx (n d:Nat):Option Int→Nat
 | none=>d
 | some v=>if v<0 then (v+(n:Int)).toNat else min v.toNat n
theorem sIx_le (n d:Nat) (hd:d≤n) (o:Option Int):sIx n d o≤n:=by
 cases o with
 | none=>exact hd
 | some v =>
  show (if v<0 then (v+(n:Int)).toNat else min v.toNat n)≤n
  by_cases hv:v<0
  ·rw[if_pos hv];omega
  ·rw[if_neg hv];exact Nat.min_le_right _ _
theorem clip_eq (v:Int) (n d:Nat):(if v<0 then max (v+(n:Int)) 0 else min v (n:Int))=((sIx n d (some v):Nat):Int):=by
 show (if v<0 then max (v+(n:Int)) 0 else min v (n:Int))=(((if v<0 then (v+(n:Int)).toNat else min v.toNat n):Nat):Int)
 by_cases hv:v<0
 ·simp only [if_pos hv];omega
 ·simp only [if_neg hv];omega
theorem adjust_gen (lo hi:Option Int) (n:Nat):Builtin.Slice.sliceAdjust lo hi 1 (n:Int)=(((sIx n 0 lo:Nat):Int),((sIx n n hi:Nat):Int)):=by
 have h1:¬ ((1:Int)<0):=by omega
 unfold Builtin.Slice.sliceAdjust
 simp only [h1,if_false]
 refine Prod.ext ?_ ?_
 ·cases lo with
  | none=>rfl
  | some v=>exact clip_eq v n 0
 ·cases hi with
  | none=>rfl
  | some v=>exact clip_eq v n n
theorem places_gen (i j:Nat):Builtin.Slice.slicePlaces (i:Int) (j:Int) 1=j - i:=by
 unfold Builtin.Slice.slicePlaces
 have h1:(1:Int)>0:=by omega
 simp only [h1,if_true,Int.ediv_one]
 split <;> omega
theorem slicePart_ (p:IsPart v o) (h:Q o s):wpAny (model prog w) A (Builtin.Slice.slicePartIndex v) Q E s:=by
 cases p with
 | none=>exact slicePart_none h
 | int i t=>exact slicePart_int h
theorem sliceApplied_gen {sl:Addr}{vl vu:Value}{lo hi:Option Int}{n:Nat}{Q:Int×Int×Nat→Shared→Prop} (hs:s.heap.IsSliceOf sl vl vu .none) (pl:IsPart vl lo) (pu:IsPart vu hi)
  (h:Q (((sIx n 0 lo:Nat):Int),1,sIx n n hi - sIx n 0 lo) s):wpAny (model prog w) A (Builtin.Slice.sliceApplied (.ref sl) (pure (n:Int))) Q E s:=by
 obtain⟨os,PN,Xz,Mp⟩:=id hs
 unfold Builtin.Slice.sliceApplied Builtin.Slice.sliceFields
 refine za (za (yb PN Mp (x:=vl) rfl (za (yb PN Mp (x:=vu) rfl (za (yb PN Mp (x:=.none) rfl (zi ?_)))))))
 refine za (slicePart_none ?_)
 show wpAny _ _ (if ((1:Int) == 0)=true then _ else _) _ _ s
 rw[if_neg (by decide)]
 refine za (slicePart_ pl (za (slicePart_ pu (za (zi ?_)))))
 show wpAny _ _ (match Builtin.Slice.sliceAdjust lo hi 1 (n:Int) with | (lo,hi)=>pure (lo,(1:Int),Builtin.Slice.slicePlaces lo hi 1)) _ _ s
 rw[adjust_gen lo hi n]
 show wpAny _ _ (pure (((sIx n 0 lo:Nat):Int),(1:Int),Builtin.Slice.slicePlaces ((sIx n 0 lo:Nat):Int) ((sIx n n hi:Nat):Int) 1)) _ _ s
 rw[places_gen]
 exact zi h
theorem pick_gen (xs:Array Value) (i k:Nat):((List.range k).filterMap fun (m:Nat)=>xs[((i:Int)+(m:Int) * 1).toNat]?).toArray=((xs.toList.drop i).take k).toArray:=by
 have e:(fun (m:Nat)=>xs[((i:Int)+(m:Int) * 1).toNat]?)=fun m=>xs[i+m]?:=by
  funext m
  have:((i:Int)+(m:Int) * 1).toNat=i+m:=by omega
  rw[this]
 rw[e]
 have:=pick_run xs i k
 rw[List.filterMap_map] at this
 have e2:((fun x=>xs[x]?) ∘ fun x=>i+x)=fun m=>xs[i+m]?:=rfl
 rw[e2] at this
 rw[this]
theorem getItem_tuple_cut {t sl:Addr}{items:Array Value}{vl vu:Value}{lo hi:Option Int}{Q:Value→Shared→Prop} (ht:IsTup s.heap t items) (hs:s.heap.IsSliceOf sl vl vu .none) (pl:IsPart vl lo) (pu:IsPart vu hi)
  (hw:¬ (sIx items.size 0 lo=0∧sIx items.size items.size hi=items.size))
  (h:Q (.ref s.heap.objs.size) { s with heap:=s.heap.push { cls:=.type "tuple",data:=.seq ((items.toList.drop (sIx items.size 0 lo)).take (sIx items.size items.size hi - sIx items.size 0 lo)).toArray } })
  (hsz:items.size≤sizeLine):wpAny (model prog w) A (getItem (.ref t) (.ref sl)) Q E s:=by
 have Bb:sizeOk (.seq ((items.toList.drop (sIx items.size 0 lo)).take (sIx items.size items.size hi - sIx items.size 0 lo)).toArray):=by
  show ((items.toList.drop (sIx items.size 0 lo)).take (sIx items.size items.size hi - sIx items.size 0 lo)).toArray.size≤sizeLine
  rw[zj,ye,List.length_drop,zO]
  omega
 have hj:sIx items.size items.size hi≤items.size:=sIx_le _ _ (zl _) hi
 obtain⟨os,PN,Xz,Mp⟩:=id hs
 have Y7:s.TypeIs (.ref sl) "slice" := ⟨os,PN,Xz⟩
 unfold getItem
 try with_reducible refine yy ?_
 first | refine za (zi ?_) | skip
 refine za (wpAny_sequenceKey ht.typeIs (by decide) ?_)
 refine za (wpAny_callSpecial?_slot (name:=Str.ofString "__getitem__") ht.typeIs PyProof.Rows.slot_tuple_getitem
  (yw PyProof.Rows.slot_tuple_getitem ht.typeIs entry_tuple_getitem ?_ (args_tuple_getitem _ _)))
 show wpAny _ _ (Builtin.Tuple.tupleItemsOf (.ref t) >>= _) _ _ s
 refine za (tupleItemsOf_ ht ?_)
 refine za (wpAny_typeOf Y7 ?_)
 rw[if_pos (by decide)]
 refine za (sliceApplied_gen hs pl pu ?_)
 have Uz:¬ ((((sIx items.size 0 lo:Nat):Int) == 0 && (1:Int) == 1 && (sIx items.size items.size hi - sIx items.size 0 lo) == items.size)=true):=by
  intro q
  rw[zL,zL] at q
  have q1:((sIx items.size 0 lo:Nat):Int)=0:=eq_of_beq q.1.1
  have q2:sIx items.size items.size hi - sIx items.size 0 lo=items.size:=eq_of_beq q.2
  exact hw ⟨by omega,by omega⟩
 show wpAny _ _ (if (((sIx items.size 0 lo:Nat):Int) == 0 && (1:Int) == 1 && (sIx items.size items.size hi - sIx items.size 0 lo) == items.size)=true then _ else _) _ _ s
 rw[if_neg Uz,pick_gen]
 first
  | exact za (m:=Builtin.Tuple.tupleExact _) (yf (zi ⟨_,rfl,zi h⟩) Bb)
  | exact za (m:=Builtin.Tuple.tupleExact _) (yf (za (zi (zi ⟨_,rfl,zi h⟩))) Bb)
  | exact za (za (m:=Builtin.Tuple.tupleExact _) (yf (zi (zi ⟨_,rfl,zi h⟩)) Bb))
  | exact za (za (m:=Builtin.Tuple.tupleExact _) (yf (zi ⟨_,rfl,zi h⟩) Bb))
end
end HT
namespace L2
open PySem PySem.Spec PyProof.Rows
abbrev TO:=St→Hp→(Option Int→Hp→Prop)→Prop
def PO (X:Cx) (e:Option Expr) (t:TO):Prop :=
 ∀ (pins:List (Addr×Obj)) (s:Shared) (σ:St) (H:Hp) (Q:Option Int→Hp→Prop),Inv X pins σ H s→t σ H Q →
  wpAny (model X.prog X.w) X.A (evalPart e X.env) (fun u s'=>∃ o H',Inv X pins σ H' s'∧IsPart u o∧Q o H') X.xe s
def Ih:TO:=fun _ H Q=>Q none H
def PQ (t:TE):TO:=fun σ H Q=>t σ H fun x H1=>∃ i,x=.int i∧Q (some i) H1
section
variable {X:Cx}{e:Expr}{te:TE}{lo hi:Option Expr}{tl th:TO}{pos p2:Pos}
theorem Ii:PO X none Ih:=by
 intro pins s σ H Q I h
 rw[evalPart_none]
 exact zi ⟨none,H,I,.none,h⟩
theorem Ij (h:PE X e te):PO X (some e) (PQ te):=by
 intro pins s σ H Q I hw
 rw[evalPart_some]
 refine br (h pins s σ H _ I hw) fun u s1 ⟨x,H1,I1,r1,q1⟩=>?_
 obtain⟨i,rfl,q⟩:=q1
 obtain⟨t,rfl⟩:=r1
 exact⟨some i,H1,I1,.int i t,q⟩
def PR (X:Cx) (r:V→Option Int→Option Int→Hp→VK→Prop):Prop :=
 ∀ (pins:List (Addr×Obj)) (s:Shared) (σ:St) (H:Hp) (x:V) (v vl vu:Value) (lo hi:Option Int) (sl:Addr) (Q:VK),Inv X pins σ H s→RelV x v→s.heap.IsSliceOf sl vl vu .none→IsPart vl lo→IsPart vu hi→r x lo hi H Q →
  ∃ T id,typeLookup (.type T) "__getitem__" = pure (some (.builtin id))∧s.TypeIs v T∧wpAny (model X.prog X.w) X.A (getItem v (.ref sl)) (EP X pins σ Q) X.xe s
def Y8 (r:V→Option Int→Option Int→Hp→VK→Prop) (te:TE) (tl th:TO):TE:=fun σ H Q=>te σ H fun x H1=>tl σ H1 fun l H2=>th σ H2 fun u H3=>r x l u H3 Q
theorem EC {r:V→Option Int→Option Int→Hp→VK→Prop} (hr:PR X r) (he:PE X e te) (hl:PO X lo tl) (hu:PO X hi th):PE X (.Subscript e (.Slice lo hi none p2) pos) (Y8 r te tl th):=by
 intro pins s σ H Q I h
 refine Subscript_ (br (he pins s σ H _ I h) fun v s1 ⟨x,H1,I1,r1,q1⟩=>?_)
 refine wpAny_Slice (br (hl pins s1 σ H1 _ I1 q1) fun vl s2 ⟨l,H2,I2,pl,q2⟩=>br (hu pins s2 σ H2 _ I2 q2) fun vu s3 ⟨u,H3,I3,pu,q3⟩=>?_)
 rw[evalPart_none]
 refine zi ?_
 have I4:Inv X pins σ H3 { s3 with heap:=s3.heap.push { cls:=.type "slice",data:=.fields #[vl,vu,.none] } }:=I3.kept (t':=s3.toks) fun b ob q=>zc _ q
 obtain⟨T,id,hT,ht,hg⟩:=hr pins { s3 with heap:=s3.heap.push { cls:=.type "slice",data:=.fields #[vl,vu,.none] } } σ H3 x v vl vu l u s3.heap.objs.size Q I4 r1 (Heap.IsSliceOf.new ..) pl pu q3
 show wpAny (model X.prog X.w) X.A (subscriptTail e (.Slice lo hi none p2) v (.ref s3.heap.objs.size)) (EP X pins σ Q) X.xe { s3 with heap:=s3.heap.push { cls:=.type "slice",data:=.fields #[vl,vu,.none] } }
 exact tail_any (ops:=[.ref s3.heap.objs.size,v]) ht hT hg (by with_unfolding_all rfl)
def vq (xs:List V) (lo hi:Option Int):List V:=(xs.drop (HT.sIx xs.length 0 lo)).take (HT.sIx xs.length xs.length hi - HT.sIx xs.length 0 lo)
theorem nS (xs:List V) (lo hi:Option Int):(vq xs lo hi).length≤xs.length:=by
 unfold vq
 rw[ye,List.length_drop]
 omega
def UA (K:PySem.W.Frag):V→Option Int→Option Int→Hp→VK→Prop:=fun x lo hi H Q=>∃ a xs,x=.ref a∧iQ K H a xs ∧
 ¬ (HT.sIx xs.length 0 lo=0∧HT.sIx xs.length xs.length hi=xs.length)∧∀ p,H p=none→Q (.ref p) (upd H p (.tup (vq xs lo hi)))
theorem Mq:PR X (UA X.K):=by
 intro pins s σ H x v vl vu lo hi sl Q I rx hs pl pu h
 obtain⟨a,xs,rfl,hx,hw,q⟩:=h
 cases rx
 obtain⟨ax,r,ht,hz⟩:=I.tuple hx
 have hlen:ax.toArray.size=xs.length:=by rw[zj];exact r.length.symm
 refine⟨"tuple",_,PyProof.Rows.slot_tuple_getitem.lookup,ht.typeIs,?_⟩
 refine HT.getItem_tuple_cut ht hs pl pu (by rw[hlen];exact hw) ?_ (by rw[hlen];exact hz)
 rw[hlen]
 refine⟨.ref s.heap.objs.size,_,I.laid (t':=s.toks) (o:=.tup (vq xs lo hi)) (fun b ob q=>zc _ q) (zl _) ?_,rfl,q _ (I.aM.fresh (zl _))⟩
 exact⟨zG (nS xs lo hi) hz,_,(r.drop (HT.sIx xs.length 0 lo)).take (HT.sIx xs.length xs.length hi - HT.sIx xs.length 0 lo),gv.new _ _⟩
def PU (K:PySem.W.Frag):R2:=fun x y H Q=>∃ a b xs ys,x=.ref a∧y=.ref b∧iQ K H a xs∧iQ K H b ys∧xs≠[]∧xs.length+ys.length≤sizeLine ∧
 (ys=[]→Q (.ref a) H)∧(ys≠[]→∀ p,H p=none→Q (.ref p) (upd H p (.tup (xs++ys))))
theorem Vals.oW (r:Vals xs us):us=[]↔xs=[]:=by
 cases r with
 | nil=>simp
 | cons _ _=>simp
theorem Ik:fZ X (binaryOp .Add) (PU X.K):=by
 intro pins s σ H x y v u Q I rx ry h
 obtain⟨a,b,xs,ys,rfl,rfl,ha,hb,hx,hz,q1,q2⟩:=h
 cases rx
 cases ry
 obtain⟨ax,r1,p1,_⟩:=I.tuple ha
 obtain⟨pB,r2,p2,_⟩:=I.tuple hb
 refine HT.cat_tup p1 p2 (fun z=>hx (r1.oW.mp z)) (fun z=>⟨.ref a,H,I,rfl,q1 (r2.oW.mp z)⟩) (fun z=>?_) (by rw[← r1.length,← r2.length];exact hz)
 refine⟨.ref s.heap.objs.size,_,I.laid (t':=s.toks) (o:=.tup (xs++ys)) (fun b ob q=>zc _ q) (zl _) ?_,rfl,q2 (fun w=>z (r2.oW.mpr w)) _ (I.aM.fresh (zl _))⟩
 exact⟨by rw[zy];exact hz,_,r1.append r2,gv.new _ _⟩
end
def ED (n:Nat) (i:Int):Option Nat:=if 0≤i then (if i<n then some i.toNat else none) else if -(n:Int)≤i then some (i+n).toNat else none
def lK {α:Type} (xs:List α) (i:Int):Option α:=(ED xs.length i).bind fun j=>xs[j]?
theorem Bc (h:ED n i=some j):seqIndex? i n=some j∧j<n∧-(n:Int)≤i∧i<n:=by
 unfold ED at h
 by_cases h0:0≤i
 ·rw[if_pos h0] at h
  by_cases h1:i<n
  ·rw[if_pos h1] at h
   have e:i.toNat=j:=zN h
   exact⟨by rw[seqIndex_of h0 h1,e],by omega,by omega,h1⟩
  ·rw[if_neg h1] at h;cases h
 ·rw[if_neg h0] at h
  by_cases h1:-(n:Int)≤i
  ·rw[if_pos h1] at h
   have e:(i+n).toNat=j:=zN h
   exact⟨by rw[seqIndex_neg (by omega) h1,e],by omega,h1,by omega⟩
  ·rw[if_neg h1] at h;cases h
theorem tQ (h:lK xs i=some v):∃ j,seqIndex? i xs.length=some j∧xs[j]?=some v∧j<xs.length∧-(xs.length:Int)≤i∧i<xs.length:=by
 unfold lK at h
 cases e:ED xs.length i with
 | none=>rw[e] at h;cases h
 | some j =>
  rw[e] at h
  obtain⟨h1,h2,h3,h4⟩:=Bc e
  exact⟨j,h1,h,h2,h3,h4⟩
theorem fj {α:Type}{xs:List α}{j:Nat}{v:α} (h:xs[j]?=some v):lK xs (j:Int)=some v:=by
 have hj:j<xs.length:=(zo.mp h).1
 have e:ED xs.length (j:Int)=some j:=by
  unfold ED
  rw[if_pos (by omega),if_pos (by omega)];simp
 unfold lK;rw[e];exact h
def Bd (b:Expr):Prop:=∀ o i,subscripted b false o i=operate [o,i] (getItem o i)
def PV (X:Cx) (r:R2):Prop :=
 ∀ (value slice:Expr) (pins:List (Addr×Obj)) (s:Shared) (σ:St) (H:Hp) (x y:V) (v u:Value) (Q:VK),Inv X pins σ H s→RelV x v→RelV y u→r x y H Q →
  subscripted slice false v u=operate [v,u] (getItem v u)→wpAny (model X.prog X.w) X.A (subscriptTail value slice v u) (EP X pins σ Q) X.xe s
def OB (X:Cx) (id:String) (r:V→List V→Hp→VK→Prop):Prop :=
 ∀ (pins:List (Addr×Obj)) (s:Shared) (σ:St) (H:Hp) (x:V) (xs:List V) (v:Value) (us:List Value) (Q:VK),Inv X pins σ H s→RelV x v→Vals xs us→r x xs H Q →
  wpAny (model X.prog X.w) X.A (call (.builtin id) (v :: us)) (EP X pins σ Q) X.xe s
section
variable {X:Cx}{a b:Expr}{ta tb:TE}{pos:Pos}
theorem PX (hr:PV X r) (ha:PE X a ta) (hb:PE X b tb) (hs:Bd b):PE X (.Subscript a b pos) (Oz r ta tb):=by
 intro pins s σ H Q I h
 exact Subscript_ (L8 ha hb I h fun v u s2 x y H2 I2 rx ry q=>hr a b pins s2 σ H2 x y v u Q I2 rx ry q (hs _ _))
def UB (K:PySem.W.Frag):R2:=fun x y H Q=>∃ p xs i v,x=.ref p∧y=.int i∧jH K H p xs∧lK xs i=some v∧Q v H
def UC (K:PySem.W.Frag):R2:=fun x y H Q=>∃ p xs i v,x=.ref p∧y=.int i∧iQ K H p xs∧lK xs i=some v∧Q v H
def UD:R2:=fun x y H Q=>∃ z i c,x=.str z∧y=.int i∧z.length≤sizeLine∧lK z.cps.toList i=some c∧Q (.str ⟨#[c]⟩) H
theorem Be:PV X (UB X.K):=by
 intro value slice pins s σ H x y v u Q I rx ry h hs
 obtain⟨p,xs,i,z,rfl,rfl,hq,he,q⟩:=h
 cases rx
 obtain⟨t,rfl⟩:=ry
 obtain⟨ax,r,pl,hz⟩:=I.list hq
 obtain⟨j,h1,h2,h3,h4,h5⟩:=tQ he
 obtain⟨w,ew,pC⟩:=r.get h2
 have hl:=r.length
 have hn:=pv
 have fin:EP X pins σ Q w s:=⟨z,H,I,pC,q⟩
 by_cases h0:0≤i
 ·have hj:i.toNat=j:=by
   rw[seqIndex_of h0 h5] at h1
   exact zN h1
  exact item_listR pl.isList h0 (by omega) (by rw[hj];simpa using ew) fin hs
 ·have hj:(i+(ax.toArray.size:Int)).toNat=j:=by
   rw[seqIndex_neg (by omega) h4] at h1
   rw[zj,← hl]
   exact zN h1
  exact subscriptTail_builtinR (x:=w) pl.isList.typeIs slot_list_getitem.lookup
   (wpAny_getItem_list_neg (Q:=fun r s'=>r=w∧EP X pins σ Q r s') pl.isList (by omega) (by rw[zj] <;> omega) (by omega) (by rw[hj];simpa using ew) ⟨rfl,fin⟩) hs
theorem EF:PV X (UC X.K):=by
 intro value slice pins s σ H x y v u Q I rx ry h hs
 obtain⟨p,xs,i,z,rfl,rfl,hq,he,q⟩:=h
 cases rx
 obtain⟨t,rfl⟩:=ry
 obtain⟨ax,r,pl,hz⟩:=I.tuple hq
 obtain⟨j,h1,h2,h3,h4,h5⟩:=tQ he
 obtain⟨w,ew,pC⟩:=r.get h2
 have hl:=r.length
 have hn:=pv
 have fin:EP X pins σ Q w s:=⟨z,H,I,pC,q⟩
 exact subscriptTail_builtinR (x:=w) pl.typeIs slot_tuple_getitem.lookup
  (getItem_tuple (j:=j) (Q:=fun r s'=>r=w∧EP X pins σ Q r s') pl (by omega) (by omega) (by rw[zj,← hl];exact h1) (by simpa using ew) ⟨rfl,fin⟩) hs
theorem Mr:PV X UD:=by
 intro value slice pins s σ H x y v u Q I rx ry h hs
 obtain⟨z,i,c,rfl,rfl,hz,he,q⟩:=h
 obtain⟨t,rfl⟩:=rx
 obtain⟨t',rfl⟩:=ry
 obtain⟨j,h1,h2,h3,h4,h5⟩:=tQ he
 have hl:z.cps.toList.length=z.length:=by simp [Str.length]
 rw[hl] at h1 h4 h5
 have hn:=pv
 exact tail_any (typeIs_str s z t) slot_str_getitem.lookup (getItem_str (c:=c) (by
  have e1:decide (i < -(2 ^ 63:Int))=false:=zr (by omega)
  have e2:decide (i≥2 ^ 63)=false:=zr (by omega)
  rw[e1,e2,Bool.or_false]) (by rw[h1];simpa using h2) ⟨.str ⟨#[c]⟩,H,I.tok _,⟨_,rfl⟩,q⟩) hs
theorem xP (ax:List Value) (n j:Nat) (u:Value):Obj.mapSeq (·.setIfInBounds j u) { cls:=.type "list",data:=.seq ax.toArray n }={ cls:=.type "list",data:=.seq (ax.set j u).toArray n }:=by
 simp [Obj.mapSeq]
theorem Inv.lst (I:Inv X pins σ H s) (h:H p=some (.lst xs)) :
  ∃ (ax:List Value) (n:Nat),Vals xs ax∧s.heap.get? p=some { cls:=.type "list",data:=.seq ax.toArray n }∧xs.length≤sizeLine:=by
 obtain⟨z,ax,n,r,e⟩:=I.aM p _ h
 exact⟨ax,n,r,e,z⟩
theorem Inv.Ms {pins:List (Addr×Obj)}{σ:St}{H:Hp}{s:Shared}{p:Addr}{xs ys:List V}{ax its':List Value}{n n':Nat}{f:Obj→Obj} (I:Inv X pins σ H s) (h:H p=some (.lst xs))
  (ho:s.heap.get? p=some { cls:=.type "list",data:=.seq ax.toArray n }) (hf:f { cls:=.type "list",data:=.seq ax.toArray n }={ cls:=.type "list",data:=.seq its'.toArray n' }) (r:Vals ys its') (hz:ys.length≤sizeLine) (t:Nat) :
  Inv X pins σ (upd H p (.lst ys)) { s with heap:=s.heap.update p f,toks:=t }:=by
 have e:(s.heap.update p f).get? p=some { cls:=.type "list",data:=.seq its'.toArray n' }:=by
  rw[Heap.get?_update_self f ho (by rw[hf] <;> rfl),hf]
 refine I.write (x:=p) (e:=p) (by rw[h];trivial) (.inl rfl) (fun b u hb q=>(Heap.get?_update_other _ _ (Ne.symm hb)).trans q) ⟨_,e⟩ ?_
 exact⟨hz,its',n',r,e⟩
def PY:V→V→V→Hp→(Hp→Prop)→Prop:=fun o i v H Q=>∃ p xs k j,o=.ref p∧i=.int k∧H p=some (.lst xs)∧ED xs.length k=some j∧Q (upd H p (.lst (xs.set j v)))
theorem set_list:Po X PY:=by
 intro pins s σ H o i v ov iv u Q I ro ri rv h
 obtain⟨p,xs,k,j,rfl,rfl,hp,hj,q⟩:=h
 cases ro
 obtain⟨t,rfl⟩:=ri
 obtain⟨ax,n,r,ho,hz⟩:=I.lst hp
 obtain⟨h1,h2,h3,h4⟩:=Bc hj
 have hl:=r.length
 have hn:=pv
 have I':Inv X pins σ (upd H p (.lst (xs.set j v))) { s with heap:=s.heap.update p (Obj.mapSeq (·.setIfInBounds j u)) } :=
  I.Ms hp ho (xP ax n j u) (r.set rv j) (by rw[List.length_set];exact hz) s.toks
 by_cases h0:0≤k
 ·have hk:k.toNat=j:=by
   rw[seqIndex_of h0 h4] at h1
   exact zN h1
  exact PySem.W.ki_setAt ho h0 (by omega) (by rw[zj,← hl];exact h4) (by rw[hk];exact⟨_,I',q⟩)
 ·have hk:(k+(ax.toArray.size:Int)).toNat=j:=by
   rw[seqIndex_neg (by omega) h3] at h1
   rw[zj,← hl]
   exact zN h1
  exact PySem.W.ki_setBack ho (by omega) (by rw[zj,← hl];exact h3) (by omega) (by rw[hk];exact⟨_,I',q⟩)
theorem tR (lo hi:Option Int) (n:Nat):(sliceBounds lo hi none n).1=((HT.sIx n 0 lo:Nat):Int)∧(sliceBounds lo hi none n).2.1=((HT.sIx n n hi:Nat):Int)∧(sliceBounds lo hi none n).2.2=1:=by
 refine⟨?_,?_,rfl⟩
 ·cases lo with
  | none=>simp [sliceBounds,HT.sIx]
  | some i =>
   simp only [sliceBounds,HT.sIx,Option.getD_none,show (1:Int)>0 by decide,if_true]
   by_cases h:i<0
   ·simp only [h,if_true] <;> omega
   ·simp only [h,if_false] <;> omega
 ·cases hi with
  | none=>simp [sliceBounds,HT.sIx]
  | some i =>
   simp only [sliceBounds,HT.sIx,Option.getD_none,show (1:Int)>0 by decide,if_true]
   by_cases h:i<0
   ·simp only [h,if_true] <;> omega
   ·simp only [h,if_false] <;> omega
theorem rD (ax:List Value) (lo hi:Option Int):slicePick ax.toArray lo hi none=((ax.drop (HT.sIx ax.length 0 lo)).take (HT.sIx ax.length ax.length hi - HT.sIx ax.length 0 lo)).toArray:=by
 obtain⟨h1,h2,h3⟩:=tR lo hi ax.toArray.size
 unfold slicePick
 rw[h1,h2,h3]
 simp only [sliceRange_one,pick_run,zj] <;> rfl
def UE (K:PySem.W.Frag):V→Option Int→Option Int→Hp→VK→Prop:=fun x lo hi H Q=>∃ a xs,x=.ref a∧jH K H a xs∧∀ p,H p=none→Q (.ref p) (upd H p (.lst (vq xs lo hi)))
theorem Bf:PR X (UE X.K):=by
 intro pins s σ H x v vl vu lo hi sl Q I rx hs pl pu h
 obtain⟨a,xs,rfl,hx,q⟩:=h
 cases rx
 obtain⟨ax,r,ht,hz⟩:=I.list hx
 have hlen:=r.length
 refine⟨"list",_,slot_list_getitem.lookup,ht.isList.typeIs,?_⟩
 refine wpAny_getItem_list_slice ht.isList hs pl pu .none (by simp) ?_ (by rw[zj] <;> omega)
 rw[rD,← hlen]
 refine⟨.ref s.heap.objs.size,_,I.laid (t':=s.toks) (o:=.lst (vq xs lo hi)) (fun b ob q=>zc _ q) (zl _) ?_,rfl,q _ (I.aM.fresh (zl _))⟩
 exact⟨zG (nS xs lo hi) hz,_,0,(r.drop (HT.sIx xs.length 0 lo)).take (HT.sIx xs.length xs.length hi - HT.sIx xs.length 0 lo),zm _ rfl⟩
def gH:V→Bool
 | .au=>true
 | .bl _=>true
 | .int _=>true
 | .str _=>true
 | _=>false
def eqV:V→V→Bool
 | .au,.au=>true
 | .bl a,.bl b=>a == b
 | .bl a,.int b=>(if a then 1 else 0) == b
 | .int a,.bl b=>a == (if b then 1 else 0)
 | .int a,.int b=>a == b
 | .str a,.str b=>a == b
 | _,_=>false
theorem Mt (ry:RelV y u) (rx:RelV x v) (fy:gH y=true) (fx:gH x=true):SeqAt.EqAt A s u v (eqV y x):=by
 cases y with
 | au =>
  cases ry
  cases x with
  | au=>cases rx;exact SeqAt.EqAt.same _
  | bl b=>cases rx;exact SeqAt.EqAt.none_bool b
  | int b=>obtain⟨t,rfl⟩:=rx;exact SeqAt.EqAt.none_int b t
  | str b=>obtain⟨t,rfl⟩:=rx;exact SeqAt.EqAt.none_str b t
  | _=>exact absurd (show false=true from fx) zd
 | bl a =>
  cases ry
  cases x with
  | au=>cases rx;exact SeqAt.EqAt.bool_none a
  | bl b=>cases rx;exact SeqAt.EqAt.bool_bool a b
  | int b=>obtain⟨t,rfl⟩:=rx;exact SeqAt.EqAt.bool_int a b t
  | str b=>obtain⟨t,rfl⟩:=rx;exact SeqAt.EqAt.bool_str a b t
  | _=>exact absurd (show false=true from fx) zd
 | int a =>
  obtain⟨t',rfl⟩:=ry
  cases x with
  | au=>cases rx;exact SeqAt.EqAt.int_none a t'
  | bl b=>cases rx;exact SeqAt.EqAt.int_bool a t' b
  | int b=>obtain⟨t,rfl⟩:=rx;exact SeqAt.EqAt.int_int a t' b t
  | str b=>obtain⟨t,rfl⟩:=rx;exact SeqAt.EqAt.int_str a t' b t
  | _=>exact absurd (show false=true from fx) zd
 | str a =>
  obtain⟨t',rfl⟩:=ry
  cases x with
  | au=>cases rx;exact SeqAt.EqAt.str_none a t'
  | bl b=>cases rx;exact SeqAt.EqAt.str_bool a t' b
  | int b=>obtain⟨t,rfl⟩:=rx;exact SeqAt.EqAt.str_int a t' b t
  | str b=>obtain⟨t,rfl⟩:=rx;exact SeqAt.EqAt.str_str a t' b t
  | _=>exact absurd (show false=true from fx) zd
 | _=>exact absurd (show false=true from fy) zd
def vt (x:V) (u:Value):Bool:=match u with
 | .none=>eqV .au x
 | .bool b=>eqV (.bl b) x
 | .int i _=>eqV (.int i) x
 | .str z _=>eqV (.str z) x
 | _=>false
theorem xQ (r:RelV y u) (f:gH y=true):vt x u=eqV y x:=by
 cases y with
 | au=>cases r;rfl
 | bl b=>cases r;rfl
 | int i=>obtain⟨t,rfl⟩:=r;rfl
 | str z=>obtain⟨t,rfl⟩:=r;rfl
 | _=>exact absurd (show false=true from f) zd
theorem lL:∀ {xs:List V}{us:List Value},Vals xs us→xs.all gH=true→us.any (vt x)=xs.any fun y=>eqV y x
 | _,_,.nil,_=>rfl
 | y :: xs,u :: us,.cons r t,f=>by
  rw[List.all_cons,zL] at f
  rw[yG,yG,xQ r f.1,lL t f.2]
theorem gI (rx:RelV x v) (fx:gH x=true):∀ {xs:List V}{us:List Value},Vals xs us→xs.all gH=true→∀ u∈us,SeqAt.EqAt A s u v (vt x u)
 | _,_,.nil,_=>fun u hu=>by cases hu
 | y :: xs,u :: us,.cons r t,f=>fun u' hu=>by
  rw[List.all_cons,zL] at f
  rcases zf.mp hu with rfl | hu
  ·rw[xQ r f.1];exact Mt r rx f.1 fx
  ·exact gI rx fx t f.2 u' hu
def tT (x:V) (xs:List V):Bool:=xs.any fun y=>eqV y x
def XB (K:PySem.W.Frag) (neg:Bool):R2:=fun x y H Q=>∃ p xs,y=.ref p∧(jH K H p xs∨iQ K H p xs)∧gH x=true∧xs.all gH=true∧Q (.bl (if neg then !tT x xs else tT x xs)) H
theorem mG:fZ X (compareOp .In) (XB X.K false):=by
 intro pins s σ H x y v u Q I rx ry h
 obtain⟨p,xs,rfl,hq,fx,fs,q⟩:=h
 cases ry
 rcases hq with hq | hq
 ·obtain⟨ax,r,pl,hz⟩:=I.list hq
  refine SeqAt.in_listAt (vt x) pl.isList (fun w hw=>gI rx fx r fs w (by simpa using hw)) ⟨.bl _,H,I,rfl,?_⟩
  rw[show ax.toArray.any (vt x)=ax.any (vt x) by simp,lL r fs]
  exact q
 ·obtain⟨ax,r,pl,hz⟩:=I.tuple hq
  refine SeqAt.in_tupleAt (vt x) pl (fun w hw=>gI rx fx r fs w (by simpa using hw)) ⟨.bl _,H,I,rfl,?_⟩
  rw[show ax.toArray.any (vt x)=ax.any (vt x) by simp,lL r fs]
  exact q
theorem g_:fZ X (compareOp .NotIn) (XB X.K true):=by
 intro pins s σ H x y v u Q I rx ry h
 obtain⟨p,xs,rfl,hq,fx,fs,q⟩:=h
 cases ry
 rcases hq with hq | hq
 ·obtain⟨ax,r,pl,hz⟩:=I.list hq
  refine SeqAt.notIn_listAt (vt x) pl.isList (fun w hw=>gI rx fx r fs w (by simpa using hw)) ⟨.bl _,H,I,rfl,?_⟩
  rw[show ax.toArray.any (vt x)=ax.any (vt x) by simp,lL r fs]
  exact q
 ·obtain⟨ax,r,pl,hz⟩:=I.tuple hq
  refine SeqAt.notIn_tupleAt (vt x) pl (fun w hw=>gI rx fx r fs w (by simpa using hw)) ⟨.bl _,H,I,rfl,?_⟩
  rw[show ax.toArray.any (vt x)=ax.any (vt x) by simp,lL r fs]
  exact q
theorem ko:fG X (.type "tuple") (fun xs H Q=>∃ p ys,xs=[.ref p]∧((jH X.K H p ys∧∀ l,H l=none→Q (.ref l) (upd H l (.tup ys)))∨(iQ X.K H p ys∧Q (.ref p) H))):=by
 intro pins s σ H xs us Q I r h
 obtain⟨p,ys,rfl,h⟩:=h
 obtain⟨u,rfl,rx⟩:=vals1 r
 cases rx
 rcases h with ⟨hq,q⟩ | ⟨hq,q⟩
 ·obtain⟨ax,r',pl,hz⟩:=I.list hq
  have hlen:=r'.length
  refine call_tuple_list pl.isList (fun h' kp=>?_) (by simp only [zj] <;> omega)
  have I1:Inv X pins σ H { s with heap:=h' }:=I.kept (t':=s.toks) kp
  have I2:Inv X pins σ (upd H h'.objs.size (.tup ys)) { s with heap:=h'.push { cls:=.type "tuple",data:=.seq ax.toArray } } :=
   I1.laid (t':=s.toks) (fun b o e=>zc _ e) (zl _) (show bh X.prog X.w _ _ _ (.tup ys) from ⟨hz,ax,r',gv.new _ _⟩)
  exact⟨.ref h'.objs.size,_,I2,rfl,q _ (I1.aM.fresh (zl _))⟩
 ·obtain⟨ax,r',pl,hz⟩:=I.tuple hq
  exact call_tuple_same pl ⟨.ref p,H,I,rfl,q⟩
def Sq (K:PySem.W.Frag) (T:String) (x:V) (H:Hp):Prop:=match x with
 | .str _=>T = "str"
 | .int _=>T = "int"
 | .ref p=>(T = "list" ∧ ∃ xs,jH K H p xs)∨(T = "tuple" ∧ ∃ o,K.lookup p=some o∧o.cls=.type "tuple" ∧ o.dict=none) ∨
   (T = "dict" ∧ ((∃ kvs,H p=some (.dK kvs))∨∃ kvs,H p=some (.dT kvs)))∨(T = "set" ∧ ∃ S n,H p=some (.set S n))
 | _=>False
theorem EG (I:Inv X pins σ H s) (r:RelV x v) (ty:Sq X.K T x H) :
  s.TypeIs v T∧∀ a,v=.ref a→∃ ob,s.heap.get? a=some ob∧ob.dict=none:=by
 cases x with
 | str z =>
  obtain⟨t,rfl⟩:=r
  cases (show T = "str" from ty)
  exact⟨typeIs_str s z t,fun _ e=>nomatch e⟩
 | int i =>
  obtain⟨t,rfl⟩:=r
  cases (show T = "int" from ty)
  exact⟨typeIs_int s i t,fun _ e=>nomatch e⟩
 | ref p =>
  cases r
  rcases ty with ⟨rfl,xs,hq⟩ | ⟨rfl,o,hk,hc,hd⟩ | ⟨rfl,hk⟩ | ⟨rfl,S,n,hk⟩
  ·obtain⟨ax,_,pl,_⟩:=I.list hq
   refine⟨pl.isList.typeIs,fun a e=>?_⟩
   cases e
   obtain⟨o,n,e,c,hd,_⟩:=pl
   exact⟨o,e,hd⟩
  ·refine⟨⟨o,I.nO p o hk,hc⟩,fun a e=>?_⟩
   cases e
   exact⟨o,I.nO _ o hk,hd⟩
  ·have z:∃ o,s.heap.get? p=some o∧o.ExactDict:=by
    rcases hk with ⟨kvs,hk⟩ | ⟨kvs,hk⟩
    ·obtain⟨_,_,_,_,o,_,_,e,ex,_⟩:=I.aM p _ hk
     exact⟨o,e,ex⟩
    ·exact False.elim (I.aM p _ hk)
   obtain⟨o,e,ex⟩:=z
   refine⟨⟨o,e,ex.1⟩,fun a e2=>?_⟩
   cases e2
   exact⟨o,e,ex.2.1⟩
  ·obtain⟨o,_,_,_,e,ex,_⟩:=I.aM p _ hk
   refine⟨⟨o,e,ex.1⟩,fun a e2=>?_⟩
   cases e2
   exact⟨o,e,ex.2.1⟩
 | _=>exact False.elim ty
def UG (K:PySem.W.Frag) (T:String) (r:V→List V→Hp→VK→Prop) (to:TE):TE:=fun σ H Q=>to σ H fun x H1=>Sq K T x H1∧r x [] H1 Q
def Y9 (K:PySem.W.Frag) (T:String) (r:V→List V→Hp→VK→Prop) (to:TE) (t:TA):TE:=fun σ H Q=>to σ H fun x H1=>Sq K T x H1∧t σ H1 fun xs H2=>r x xs H2 Q
variable {o e:Expr}{es:List Expr}{to:TE}{t:TA}{name:Str}{apos aS:Pos}{T id:String}{r:V→List V→Hp→VK→Prop}
theorem Mu (pa:PlainAttrs T) (slot:Slot T name id) (Mv:typeOf (.builtin id)=pure (.type "method_descriptor")) (hm:OB X id r) (ho:PE X o to)
  (lM:attributeBase o name X.env (eval o X.env)=eval o X.env:=by rfl) (pE:(apos.endLine == aS.line)=true:=by rfl):PE X (.Call (.Attribute o name apos) [] [] aS) (UG X.K T r to):=by
 intro pins s σ H Q I h
 refine wpAny_Call_method0_late lM pE (br (ho pins s σ H _ I h) fun v s1 ⟨x,H1,I1,r1,ty,q1⟩=>?_)
 obtain⟨h1,h2⟩:=EG I1 r1 ty
 exact⟨T,id,pa,slot,Mv,h1,h2,Calls.callWith_builtin rfl (PySem.evalArgs_none (hm pins s1 σ H1 x [] v [] Q I1 r1 .nil q1))⟩
theorem PZ (pa:PlainAttrs T) (slot:Slot T name id) (Mv:typeOf (.builtin id)=pure (.type "method_descriptor")) (hm:OB X id r) (ho:PE X o to) (ha:PA X (e :: es) t)
  (lM:attributeBase o name X.env (eval o X.env)=eval o X.env:=by rfl)
  (Mw:((backTo aS (starEach (e :: es) X.env)).all (fun x=>!x.1) && (backToKw aS (keywordEach [] X.env)).all (fun x=>x.1.isSome)
   && decide ((e :: es).length+([]:List Keyword).length+(if ([]:List Keyword).isEmpty then 0 else 1)<30))=true:=by rfl)
  (pE:(apos.endLine == aS.line)=true:=by rfl) (hs:starEach (e :: es) X.env=(false,eval e X.env) :: starEach es X.env:=by rfl) (xR:(backTo aS (starEach es X.env)).any (·.1)=false:=by rfl) :
  PE X (.Call (.Attribute o name apos) (e :: es) [] aS) (Y9 X.K T r to t):=by
 intro pins s σ H Q I h
 refine wpAny_Call_method_late lM Mw pE rfl (br (ho pins s σ H _ I h) fun v s1 ⟨x,H1,I1,r1,ty,q1⟩=>?_)
 obtain⟨h1,h2⟩:=EG I1 r1 ty
 refine⟨T,id,pa,slot,Mv,h1,h2,?_⟩
 have hA:=ha aS pins s1 σ H1 _ I1 q1
 rw[hs] at hA ⊢
 refine Calls.callWith_builtin (by show (false || (backTo aS (starEach es X.env)).any (·.1))=false;rw[xR] <;> rfl) (Calls.evalArgs_plain ?_)
 exact br hA <| by rintro us s2 ⟨vs,H2,I2,r2,q2⟩;exact hm pins s2 σ H2 x vs v us Q I2 r1 r2 q2
end
def Sr (X:Cx) (id:String) (r:V→List V→Hp→VK→Prop):Prop :=
 ∀ (pins:List (Addr×Obj)) (s:Shared) (σ:St) (H:Hp) (x:V) (xs:List V) (v:Value) (us:List Value) (Q:VK),Inv X pins σ H s→RelV x v→Vals xs us→r x xs H Q →
  wpAny (model X.prog X.w) X.A (call (.builtin id) (v :: us)) (EP X pins σ Q) X.xe s
theorem Vals.one:∀ {x:V}{us:List Value},Vals [x] us→∃ u,us=[u]∧RelV x u:=by
 intro x us h
 cases h with
 | cons r t=>cases t;exact⟨_,rfl,r⟩
theorem Vals.two:∀ {x y:V}{us:List Value},Vals [x,y] us→∃ u v,us=[u,v]∧RelV x u∧RelV y v:=by
 intro x y us h
 cases h with
 | cons r t =>
  obtain⟨_,rfl,q⟩:=Vals.one t
  exact⟨_,_,rfl,r,q⟩
theorem Vals.zero:∀ {us:List Value},Vals [] us→us=[]
 | _,.nil=>rfl
theorem Vals.dropLast {xs:List V}{us:List Value} (h:Vals xs us):Vals xs.dropLast us.dropLast:=by
 induction h with
 | nil=>exact .nil
 | cons r t ih =>
  cases t with
  | nil=>exact .nil
  | cons q t'=>exact .cons r ih
theorem xS {α:Type} (l:List α):l.eraseIdx (l.length - 1)=l.dropLast:=by
 induction l with
 | nil=>rfl
 | cons a r ih =>
  cases r with
  | nil=>rfl
  | cons b r =>
   have e:(a :: b :: r).length - 1=((b :: r).length - 1)+1:=by
    have h1:(a :: b :: r).length=r.length+2:=rfl
    have h2:(b :: r).length=r.length+1:=rfl
    omega
   rw[e,List.eraseIdx_cons_succ,ih]
   all_goals rfl
section
variable {X:Cx}{pins:List (Addr×Obj)}{σ:St}{H:Hp}{s:Shared}{l b:Addr}{xs ys zs:List V}
theorem Inv.Il {ax its':List Value}{n:Nat}{f:Array Value→Array Value}{t':Nat} (I:Inv X pins σ H s) (hH:H l=some (.lst xs))
  (e:s.heap.get? l=some { cls:=.type "list",data:=.seq ax.toArray n }) (hf:f ax.toArray=its'.toArray) (hv:Vals ys its') (hz:ys.length≤sizeLine) :
  Inv X pins σ (upd H l (.lst ys)) { s with heap:=s.heap.update l (Obj.mapSeq f),toks:=t' }:=by
 have q:=PySem.IsL.update e f
 rw[hf] at q
 refine I.write (x:=l) (e:=l) (by rw[hH];exact trivial) (.inl rfl) (fun b' u hb hu=>(Heap.get?_update_other s.heap (Obj.mapSeq f) (Ne.symm hb)).trans hu) ⟨_,q⟩ ?_
 exact⟨hz,its',_,hv,q⟩
theorem Inv.UH (I:Inv X pins σ H s) (hv:Vals ys ax) (hz:ys.length≤sizeLine) :
  Inv X pins σ (upd H s.heap.objs.size (.lst ys)) { s with heap:=s.heap.push { cls:=.type "list",data:=.seq ax.toArray },toks:=t' } :=
 I.laid (fun _ _ q=>zc _ q) (zl _) ⟨hz,ax,0,hv,zm _ rfl⟩
theorem Inv.fresh (I:Inv X pins σ H s):H s.heap.objs.size=none:=I.aM.fresh (zl _)
theorem Inv.xT (I:Inv X pins σ H s) (hH:H l=some (.lst xs)):xs.length≤sizeLine∧∃ (ax:List Value) (n:Nat),Vals xs ax∧xs.length=ax.length∧s.heap.get? l=some { cls:=.type "list",data:=.seq ax.toArray n }:=by
 obtain⟨z,ax,n,r,e⟩:=I.aM l _ hH
 exact⟨z,ax,n,r,r.length,e⟩
theorem EH {n:Nat} (h:n≤sizeLine):Builtin.List.listTooLong n=false:=by
 unfold Builtin.List.listTooLong
 exact zr (by omega)
end
section
variable {X:Cx}
def Im:V→List V→Hp→VK→Prop:=fun x vs H Q=>∃ l xs y,x=.ref l∧vs=[y]∧H l=some (.lst xs)∧xs.length<sizeLine∧Q .au (upd H l (.lst (xs++[y])))
theorem Cp:Sr X "list.append" Im:=by
 intro pins s σ H x vs v us Q I rx rv h
 obtain⟨l,xs,y,rfl,rfl,hH,hz,q⟩:=h
 cases rx
 obtain⟨u,rfl,ru⟩:=rv.one
 obtain⟨z,ax,n,r,hl,e⟩:=I.xT hH
 refine call_meets F.slot_list_append ⟨_,e,rfl⟩ F.entry_list_append (F.args_list_append_2 _ _) (PySem.list_append l ax.toArray n u (by rw[zj];omega)) ⟨e,?_⟩
 refine⟨.au,_,I.Il (its':=ax++[u]) hH e (by simp) (r.append (.cons ru .nil)) ?_,rfl,q⟩
 rw[zy,List.length_singleton]
 omega
def UI:V→List V→Hp→VK→Prop:=fun x vs H Q=>∃ l xs y,x=.ref l∧vs=[]∧H l=some (.lst xs)∧xs[xs.length - 1]?=some y∧Q y (upd H l (.lst xs.dropLast))
theorem Mx:Sr X "list.pop" UI:=by
 intro pins s σ H x vs v us Q I rx rv h
 obtain⟨l,xs,y,rfl,rfl,hH,hy,q⟩:=h
 cases rx
 have Y_:=rv.zero
 subst Y_
 obtain⟨z,ax,n,r,hl,e⟩:=I.xT hH
 obtain⟨u,hu,ru⟩:=r.get hy
 have P0:ax.toArray[ax.toArray.size - 1]?=some u:=by
  show ax.toArray[ax.length - 1]?=some u
  rw[← Array.getElem?_toList,← hl]
  exact hu
 refine call_meets F.slot_list_pop ⟨_,e,rfl⟩ F.entry_list_pop (F.args_list_pop_1 _) (MeetsSeq.list_pop_last l ax.toArray n u P0 (by rw[zj];omega)) ⟨e,?_⟩
 refine⟨y,_,I.Il (its':=ax.dropLast) hH e ?_ r.dropLast ?_,ru,q⟩
 ·show ax.toArray.eraseIdxIfInBounds (ax.toArray.size - 1)=ax.dropLast.toArray
  rw[zj,List.eraseIdxIfInBounds_toArray,xS]
 ·rw[List.length_dropLast]
  omega
def UJ:R2:=fun x y H Q=>∃ l b xs zs,x=.ref l∧y=.ref b∧H l=some (.lst xs)∧H b=some (.lst zs)∧xs.length+zs.length≤sizeLine∧∀ p,H p=none→Q (.ref p) (upd H p (.lst (xs++zs)))
theorem Mz:fZ X (binaryOp .Add) UJ:=by
 intro pins s σ H x y v u Q I rx ry h
 obtain⟨l,b,xs,zs,rfl,rfl,hH,hB,hz,q⟩:=h
 cases rx
 cases ry
 obtain⟨z,ax,n,r,hl,e⟩:=I.xT hH
 obtain⟨z2,pB,n2,r2,Bg,e2⟩:=I.xT hB
 refine PySem.P.add_list e e2 ?_ (by rw[zj,zj];omega)
 have ea:ax.toArray++pB.toArray=(ax++pB).toArray:=by simp
 rw[ea]
 exact⟨.ref _,_,I.UH (t':=s.toks) (r.append r2) (by rw[zy];omega),rfl,q _ I.fresh⟩
end
section
variable {prog:Program}{w:World}{A:Around}{E:Value→Shared→Prop}{s:Shared}
end
section
variable {X:Cx}
end
section
variable {κ:Type} [DecidableEq κ]
def fV (kvs:List (κ×V)) (k:κ):Option V:=(kvs.find? fun kv=>decide (kv.1=k)).map (·.2)
def putK (kvs:List (κ×V)) (k:κ) (v:V):List (κ×V) :=
 if (kvs.any fun kv=>decide (kv.1=k))=true then kvs.map (fun kv=>if kv.1=k then (kv.1,v) else kv) else kvs++[(k,v)]
def nT (kvs:List (κ×V)) (k:κ):List (κ×V):=kvs.filter fun kv=>decide (kv.1≠k)
theorem pF {p:κ×V}{r:List (κ×V)}{k:κ} (e:p.1=k):fV (p :: r) k=some p.2:=by simp [fV,zQ,e]
theorem pG {p:κ×V}{r:List (κ×V)}{k:κ} (e:¬ p.1=k):fV (p :: r) k=fV r k:=by simp [fV,zQ,e]
theorem nU (kvs:List (κ×V)) (k:κ) (v:V):(putK kvs k v).length≤kvs.length+1:=by
 unfold putK
 split
 ·rw[zb];omega
 ·rw[zy,zM,List.length_nil];omega
theorem fU.gJ (r:fU o u):o.isSome=u.isSome:=by
 cases o with
 | none=>cases u with
  | none=>rfl
  | some _=>exact (show False from r).elim
 | some _=>cases u with
  | none=>exact (show False from r).elim
  | some _=>rfl
theorem fU.getD {o:Option V}{u:Option Value}{d:V}{d':Value} (r:fU o u) (rd:RelV d d'):RelV (o.getD d) (u.getD d'):=by
 cases o with
 | none=>cases u with
  | none=>exact rd
  | some _=>exact (show False from r).elim
 | some _=>cases u with
  | none=>exact (show False from r).elim
  | some _=>exact r
theorem KV.val {kvs:List (κ×V)}{vs:List (κ×Value)} (r:KV kvs vs) (k:κ):fU (fV kvs k) (valueAt vs k):=by
 unfold KV at r
 induction r with
 | nil=>exact True.intro
 | @cons p q ps qs h t ih =>
  obtain⟨h1,h2⟩:=h
  by_cases e:p.1=k
  ·have e':q.1=k:=h1.symm.trans e
   have b:valueAt (q :: qs) k=some q.2:=by simp [valueAt,zQ,e']
   rw[pF e,b];exact h2
  ·have e':¬ q.1=k:=fun z=>e (h1.trans z)
   have b:valueAt (q :: qs) k=valueAt qs k:=by simp [valueAt,zQ,e']
   rw[pG e,b];exact ih
theorem KV.any {kvs:List (κ×V)}{vs:List (κ×Value)} (r:KV kvs vs) (k:κ):(kvs.any fun kv=>decide (kv.1=k))=vs.any fun kv=>decide (kv.1=k):=by
 unfold KV at r
 induction r with
 | nil=>rfl
 | cons h t ih=>rw[yG,yG,ih,h.1]
theorem KV.MA (r:KV kvs vs) (k:κ) (ry:RelV y u) :
  KV (kvs.map fun kv=>if kv.1=k then (kv.1,y) else kv) (vs.map fun kv=>if kv.1=k then (kv.1,u) else kv):=by
 unfold KV at r ⊢
 induction r with
 | nil=>exact .nil
 | @cons p q ps qs h t ih =>
  rw[zB,zB]
  refine .cons ?_ ih
  obtain⟨h1,h2⟩:=h
  by_cases e:p.1=k
  ·rw[if_pos e,if_pos (h1.symm.trans e)];exact⟨h1,ry⟩
  ·rw[if_neg e,if_neg (fun z=>e (h1.trans z))];exact⟨h1,h2⟩
theorem KV.put (r:KV kvs vs) (k:κ) (ry:RelV y u):KV (putK kvs k y) (stored vs k u):=by
 unfold putK stored
 rw[r.any k]
 by_cases e:(vs.any fun kv=>decide (kv.1=k))=true
 ·rw[if_pos e,if_pos e];exact r.MA k ry
 ·rw[if_neg e,if_neg e];exact Paired.snoc r ⟨rfl,ry⟩
theorem KV.drop (r:KV kvs vs) (k:κ):KV (nT kvs k) (without vs k):=by
 unfold KV at r ⊢
 unfold nT without
 induction r with
 | nil=>exact .nil
 | @cons p q ps qs h t ih =>
  obtain⟨h1,h2⟩:=h
  rw[yo,yo]
  by_cases e:p.1=k
  ·have a:¬ decide (p.1≠k)=true:=by simp [e]
   have b:¬ decide (q.1≠k)=true:=by simp [h1.symm.trans e]
   rw[if_neg a,if_neg b];exact ih
  ·have e':¬ q.1=k:=fun z=>e (h1.trans z)
   have a:decide (p.1≠k)=true:=by simp [e]
   have b:decide (q.1≠k)=true:=by simp [e']
   rw[if_pos a,if_pos b];exact .cons ⟨h1,h2⟩ ih
theorem KV.length {kvs:List (κ×V)}{vs:List (κ×Value)} (r:KV kvs vs):kvs.length=vs.length:=yK r
theorem EI (kvs:List (κ×V)) (k:κ):(nT kvs k).length≤kvs.length:=yk _ _
end
theorem iZ (r:RelV (kV k) u):(aE P w).is k u=true:=by
 cases k with
 | inl i=>obtain⟨t,e⟩:=(show ∃ t,u=Value.int i t from r);subst e;exact vj P w i t
 | inr x=>obtain⟨t,e⟩:=(show ∃ t,u=Value.str x t from r);subst e;exact iW P w x t
theorem sG:∀ {ks:List Key}{us:List Value},Vals (ks.map kV) us→ItemsAre (aE P w) ks us
 | [],_,r=>by rw[List.map_nil] at r;cases r;exact .nil
 | k :: ks,_,r=>by
  rw[zB] at r
  cases r with
  | cons h t=>exact .cons (iZ h) (sG t)
abbrev KT (H:Hp):List (List Key×V)→List (List Key×Addr×Value)→Prop:=Paired fun p q=>p.1=q.1∧H q.2.1=some (.tup (p.1.map kV))∧RelV p.2 q.2.2
theorem KT.val {H:Hp}{kvs:List (List Key×V)}{xs:List (List Key×Addr×Value)} (r:KT H kvs xs) (k:List Key):fU (fV kvs k) ((atKey xs k).map (·.2)):=by
 induction r with
 | nil=>exact True.intro
 | @cons p q ps qs h t ih =>
  obtain⟨h1,_,h2⟩:=h
  by_cases e:p.1=k
  ·have e':q.1=k:=h1.symm.trans e
   have b:atKey (q :: qs) k=some q.2:=by simp [atKey,zQ,e']
   rw[pF e,b];exact h2
  ·have e':¬ q.1=k:=fun z=>e (h1.trans z)
   have b:atKey (q :: qs) k=atKey qs k:=by simp [atKey,zQ,e']
   rw[pG e,b];exact ih
section
variable {P:Program}{w:World}{H:Hp}{h:Heap}{a:Addr}
theorem Ko (ok:kC P w H h) (e:Rd H a u):bh P w H h a u:=e.ok ok
theorem lN (ok:kC P w H h) (e:Rd H a (.dK kvs)):kvs.length≤sizeLine∧(a == sysModules)=false∧∃ vs,KV kvs vs∧h.DictOf (aE P w) a vs :=
 show bh P w H h a (.dK kvs) from Ko ok e
theorem Bh (ok:kC P w H h) (e:H a=some (.dK kvs)):kvs.length≤sizeLine∧(a == sysModules)=false∧∃ vs,KV kvs vs∧h.DictOf (aE P w) a vs:=lN ok (.inl e)
theorem pH (ok:kC P w H h) (e:H a=some (.tup (ks.map kV))):(tupleKind (aE P w)).is h ks a:=by
 obtain⟨_,ax,r,o,h1,h2,_,n,h3⟩:=(show bh P w H h a (.tup (ks.map kV)) from ok a _ e)
 exact⟨o,ax.toArray,n,h1,h2,h3,by simpa using sG r⟩
theorem pI (ok:kC P w H h) (e:Rd H a (.dT kvs)):kvs.length≤sizeLine∧(a == sysModules)=false ∧
  ∃ xs,KT H kvs xs∧h.DictOfH (tupleKind (aE P w)) a xs:=by
 exact False.elim (show bh P w H h a (.dT kvs) from Ko ok e)
end
def mH (H:Hp) (a:Addr) (y:V) (r:Option V):Prop :=
 (∃ kvs k,Rd H a (.dK kvs)∧y=kV k∧r=fV kvs k)∨∃ kvs k b,Rd H a (.dT kvs)∧y=.ref b∧H b=some (.tup (k.map kV))∧r=fV kvs k
def EJ (H:Hp) (a:Addr) (y v:V) (H':Hp):Prop :=
 (∃ kvs k,H a=some (.dK kvs)∧y=kV k∧kvs.length<sizeLine∧H'=upd H a (.dK (putK kvs k v))) ∨
 ∃ kvs k b,H a=some (.dT kvs)∧y=.ref b∧H b=some (.tup (k.map kV))∧kvs.length<sizeLine∧H'=upd H a (.dT (putK kvs k v))
theorem mH.k {H:Hp}{a:Addr}{kvs:List (Key×V)}{k:Key} (e:H a=some (.dK kvs)):mH H a (kV k) (fV kvs k):=.inl ⟨kvs,k,.inl e,rfl,rfl⟩
theorem EJ.k {H:Hp}{a:Addr}{kvs:List (Key×V)}{k:Key}{v:V} (e:H a=some (.dK kvs)) (hl:kvs.length<sizeLine):EJ H a (kV k) v (upd H a (.dK (putK kvs k v))):=.inl ⟨kvs,k,e,rfl,hl,rfl⟩
section
variable {X:Cx}{pins:List (Addr×Obj)}{σ:St}{H:Hp}{s:Shared}{a:Addr}{y v:V}{u r:Value}{o:Option V}{A:Around}{E:Value→Shared→Prop}
theorem Inv.big (I:Inv X pins σ H s):sysModules<s.heap.objs.size:=by
 have h:mainGlobals<s.heap.objs.size:=(I.mod.glob.keeps I.bk).lt
 exact Nat.lt_trans (by decide) h
theorem Cq (hu:A.units+1<cLine) (I:Inv X pins σ H s) (g:mH H a y (some v)) (ry:RelV y u) (h:∀ w' s',Inv X pins σ H s'→RelV v w'→Q w' s') :
  wpAny (model X.prog X.w) A (getItem (.ref a) u) Q E s:=by
 rcases g with ⟨kvs,k,e,ey,l⟩ | ⟨kvs,k,b,e,ey,eb,l⟩
 ·subst ey
  obtain⟨z,hd,vs,rel,dd⟩:=lN I.aM e
  obtain⟨w',hw,pC⟩:=fU.some_of (v:=v) (o:=valueAt vs k) (by rw[l];exact rel.val k)
  exact wpAny_getItem_of (iZ ry) dd.mapOf hw (h w' _ (I.tok _) pC)
 ·subst ey
  cases (show u=Value.ref b from ry)
  obtain⟨z,hd,xs,rel,dd⟩:=pI I.aM e
  obtain⟨w',hw,pC⟩:=fU.some_of (v:=v) (o:=(atKey xs k).map (·.2)) (by rw[l];exact rel.val k)
  obtain⟨p,hp,iD⟩:=Option.map_eq_some_iff.mp hw
  refine wpAny_getItem_heap (tupleKind_room_in1 hu) (pH I.aM eb) dd hp ?_
  rw[iD]
  exact h w' _ (I.tok _) pC
theorem UK (hu:A.units+1<cLine) (I:Inv X pins σ H s) (g:mH H a y o) (ry:RelV y u) (h:∀ s',Inv X pins σ H s'→Q (.bool o.isSome) s') :
  wpAny (model X.prog X.w) A (compareOp .In u (.ref a)) Q E s:=by
 rcases g with ⟨kvs,k,e,ey,l⟩ | ⟨kvs,k,b,e,ey,eb,l⟩
 ·subst ey
  obtain⟨z,hd,vs,rel,dd⟩:=lN I.aM e
  refine wpAny_in_of (iZ ry) hd dd.mapOf ?_
  rw[← (rel.val k).gJ,← l]
  exact h _ (I.tok _)
 ·subst ey
  cases (show u=Value.ref b from ry)
  obtain⟨z,hd,xs,rel,dd⟩:=pI I.aM e
  refine wpAny_in_heap (tupleKind_room_in1 hu) (pH I.aM eb) hd dd ?_
  have q:=(rel.val k).gJ
  rw[Option.isSome_map] at q
  rw[← q,← l]
  exact h _ (I.tok _)
theorem Io (hu:A.units+1<cLine) (I:Inv X pins σ H s) (g:mH H a y o) (ry:RelV y u) (h:∀ s',Inv X pins σ H s'→Q (.bool (!o.isSome)) s') :
  wpAny (model X.prog X.w) A (compareOp .NotIn u (.ref a)) Q E s:=by
 rcases g with ⟨kvs,k,e,ey,l⟩ | ⟨kvs,k,b,e,ey,eb,l⟩
 ·subst ey
  obtain⟨z,hd,vs,rel,dd⟩:=lN I.aM e
  refine wpAny_notIn_of (iZ ry) hd dd.mapOf ?_
  rw[← (rel.val k).gJ,← l]
  exact h _ (I.tok _)
 ·subst ey
  cases (show u=Value.ref b from ry)
  obtain⟨z,hd,xs,rel,dd⟩:=pI I.aM e
  refine wpAny_notIn_heap (tupleKind_room_in1 hu) (pH I.aM eb) hd dd ?_
  have q:=(rel.val k).gJ
  rw[Option.isSome_map] at q
  rw[← q,← l]
  exact h _ (I.tok _)
theorem tU (I:Inv X pins σ H s) (mu:O_ (H a)) (hs:Heap.SameBut a s.heap h') (he:∃ q,h'.get? a=some q) (new:bh X.prog X.w (upd H a ob) h' a ob) :
  Inv X pins σ (upd H a ob) { s with heap:=h',toks:=t' } :=
 I.write (x:=a) (e:=a) mu (.inl rfl) (fun b q hb z=>(hs.2 b hb).trans z) he new
theorem xU (z:kvs.length≤sizeLine) (hd:(a == sysModules)=false) (rel:KV kvs vs) (dd:h'.DictOf (aE P w) a vs) :
  bh P w H' h' a (.dK kvs):=⟨z,hd,vs,rel,dd⟩
theorem Cr (hu:A.units+1<cLine) (I:Inv X pins σ H s) (g:EJ H a y v H') (ry:RelV y u) (rv:RelV v r) (h:∀ s',Inv X pins σ H' s'→Q () s') :
  wpAny (model X.prog X.w) A (setItem (.ref a) u r) Q E s:=by
 rcases g with ⟨kvs,k,e,ey,l,eH⟩ | ⟨kvs,k,b,e,ey,eb,l,eH⟩
 ·subst ey eH
  obtain⟨z,hd,vs,rel,dd⟩:=Bh I.aM e
  have hz:vs.length≤sizeLine:=by rw[← rel.length];exact z
  have hl:(putK kvs k v).length≤sizeLine:=by have:=nU kvs k v;omega
  refine wpAny_setItem_pairs (hsz:=hz) (iZ ry) dd fun h' Kq hs=>h _ ?_
  have he:∃ q,h'.get? a=some q:=by obtain⟨q,_,_,hq,_⟩:=Kq;exact⟨q,hq⟩
  exact tU I (by rw[e];exact True.intro) hs he (xU hl hd (rel.put k rv) Kq)
 ·exact False.elim (I.aM _ _ e)
end
section
variable {X:Cx}{pins:List (Addr×Obj)}{σ:St}{H:Hp}{s:Shared}{a:Addr}{kvs:List (Key×V)}{k:Key}{u:Value}{A:Around}{E:Value→Shared→Prop}
theorem P1 (I:Inv X pins σ H s) (e:H a=some (.dK kvs)) (ry:RelV (kV k) u) (l:fV kvs k=some v) (hm:more=[]∨∃ x,more=[x])
  (h:∀ w' s',Inv X pins σ (upd H a (.dK (nT kvs k))) s'→RelV v w'→Q w' s'):wpAny (model X.prog X.w) A (call (.builtin "dict.pop") (.ref a :: u :: more)) Q E s:=by
 obtain⟨z,hd,vs,rel,dd⟩:=Bh I.aM e
 obtain⟨w',hw,pC⟩:=fU.some_of (v:=v) (o:=valueAt vs k) (by rw[← l];exact rel.val k)
 have hp:(keyPart u).isSome=true:=by
  cases k with
  | inl i=>obtain⟨t,q⟩:=(show ∃ t,u=Value.int i t from ry);subst q;rfl
  | inr x=>obtain⟨t,q⟩:=(show ∃ t,u=Value.str x t from ry);subst q;rfl
 have ha:argsOk "dict.pop" ⟨.ref a :: u :: more,[]⟩:=by
  rcases hm with q | ⟨x,q⟩
  ·subst q;exact PySem.F.args_dict_pop_2 _ _
  ·subst q;exact PySem.F.args_dict_pop_3 _ _ _
 refine call_meetsIn PySem.F.slot_dict_pop dd.typeIs PySem.F.entry_dict_pop ha (meets_dict_pop_there (aE X.prog X.w) a (iZ ry) more hm hp)
  ⟨vs,w',dd,by rw[← rel.length];exact z,hw,fun h' Kq hs=>h w' _ ?_ pC⟩
 have he:∃ q,h'.get? a=some q:=by obtain⟨q,_,_,hq,_⟩:=Kq;exact⟨q,hq⟩
 exact tU I (by rw[e];exact True.intro) hs he (xU (zG (EI kvs k) z) hd (rel.drop k) Kq)
theorem P2 (I:Inv X pins σ H s) (e:Rd H a (.dK kvs)) (h:∀ t s',Inv X pins σ H s'→Q (.int kvs.length t) s'):wpAny (model X.prog X.w) A (call (.builtin "len") [.ref a]) Q E s:=by
 obtain⟨z,hd,vs,rel,dd⟩:=lN I.aM e
 refine call_len_dict hd dd (by rw[← rel.length];rw[zR] at z;omega) ?_
 rw[← rel.length]
 exact h _ _ (I.tok _)
end
theorem vz (I:Inv X pins σ H s) (g:mH H a y o):s.TypeIs (.ref a) "dict" := by
 rcases g with ⟨kvs,k,e,_,_⟩ | ⟨kvs,k,b,e,_,_,_⟩
 ·obtain⟨_,_,vs,_,dd⟩:=lN I.aM e
  exact dd.typeIs
 ·obtain⟨_,_,xs,_,dd⟩:=pI I.aM e
  exact dd.typeIs
def P4 (td ty tv:TE):TS:=fun D σ H=>tv σ H fun v H1=>td σ H1 fun x H2=>ty σ H2 fun y H3=>∃ a H4,x=.ref a∧EJ H3 a y v H4∧D.nx σ H4
section
variable {X:Cx}{o i e value:Expr}{pos pos' Us:Pos}{td ty tv:TE}
theorem Iq (hu:X.A.units+1<cLine) (ho:PE X o td) (hi:PE X i ty) (hv:PE X value tv) (hs:swapsWith value (some (.Subscript o i pos')) pos.line X.env=pure false) :
  PS X (.Assign [.Subscript o i pos'] value pos) (P4 td ty tv):=by
 intro pins s σ H D I h
 refine wpAny_Assign_Subscript (br (hv pins s σ H _ I h) fun r s1 ⟨v,H1,I1,rv,q1⟩=>br (ho pins s1 σ H1 _ I1 q1) fun u s2 ⟨x,H2,I2,rx,q2⟩=>br (hi pins s2 σ H2 _ I2 q2) fun iv s3 ⟨y,H3,I3,ry,a,H4,ex,g,q3⟩=>?_) hs
 subst ex
 obtain rfl:u=Value.ref a:=rx
 exact Cr hu I3 g ry rv fun s4 I4=>⟨σ,H4,I4,q3⟩
end
theorem EK (h:Heap) (hb:sysModules<h.objs.size):bh P w H (h.push { cls:=.type "dict",data:=.dict #[] }) h.objs.size (.dK []) :=
 ⟨ya _,beq_eq_false_iff_ne.mpr (Ne.symm (zw hb)),[],.nil,Heap.DictOf.new h⟩
def MB:TE:=fun _ H Q=>∀ p,H p=none→Q (.ref p) (upd H p (.dK []))
section
variable {X:Cx}{pos:Pos}
theorem EL:PE X (.Dict [] [] pos) MB:=fun pins s σ H Q I h =>
 wpAny_Dict_empty ⟨.ref s.heap.objs.size,_,I.laid (a:=s.heap.objs.size) (o:=.dK []) (t':=s.toks) (fun _ _ q=>zc _ q) (zl _) (EK s.heap I.big),rfl,h _ (I.aM.fresh (zl _))⟩
end
structure M1 (X:Cx) (o:Expr) (m:Str) (apos:Pos) (e:Expr) (aS:Pos):Prop where
 base:attributeBase o m X.env (eval o X.env)=eval o X.env
 Ee:((backTo aS (starEach [e] X.env)).all (fun x=>!x.1) && (backToKw aS (keywordEach [] X.env)).all (fun x=>x.1.isSome)
  && decide (([e]:List Expr).length+([]:List Keyword).length+(if ([]:List Keyword).isEmpty then 0 else 1)<30))=true
 line:(apos.endLine == aS.line)=true
 trees:backTo aS (starEach [e] X.env)=[(false,eval e X.env)]
structure M2 (X:Cx) (o:Expr) (m:Str) (apos:Pos) (e f:Expr) (aS:Pos):Prop where
 base:attributeBase o m X.env (eval o X.env)=eval o X.env
 Ee:((backTo aS (starEach [e,f] X.env)).all (fun x=>!x.1) && (backToKw aS (keywordEach [] X.env)).all (fun x=>x.1.isSome)
  && decide (([e,f]:List Expr).length+([]:List Keyword).length+(if ([]:List Keyword).isEmpty then 0 else 1)<30))=true
 line:(apos.endLine == aS.line)=true
 trees:backTo aS (starEach [e,f] X.env)=[(false,eval e X.env),(false,eval f X.env)]
def OC (H:Hp) (a:Addr):Prop:=(∃ kvs,Rd H a (.dK kvs))∨∃ kvs,Rd H a (.dT kvs)
theorem tV (I:Inv X pins σ H s) (d:OC H a) :
  s.TypeIs (.ref a) "dict" ∧ (∀ b,Value.ref a=.ref b→∃ ob,s.heap.get? b=some ob∧ob.dict=none)∧(a == sysModules)=false:=by
 rcases d with ⟨kvs,e⟩ | ⟨kvs,e⟩
 ·obtain⟨_,hd,vs,_,dd⟩:=lN I.aM e
  refine⟨dd.typeIs,fun b q=>?_,hd⟩
  cases q
  obtain⟨ob,_,_,h1,h2,_⟩:=dd
  exact⟨ob,h1,h2.2.1⟩
 ·obtain⟨_,hd,xs,_,dd⟩:=pI I.aM e
  refine⟨dd.typeIs,fun b q=>?_,hd⟩
  cases q
  obtain⟨ob,_,_,h1,h2,_⟩:=dd
  exact⟨ob,h1,h2.2.1⟩
section
variable {X:Cx}{pins:List (Addr×Obj)}{σ:St}{H:Hp}{s:Shared}{a:Addr}{y d:V}{u r:Value}{o:Option V}{A:Around}{E:Value→Shared→Prop}
theorem MC (hu:A.units+1<cLine) (I:Inv X pins σ H s) (g:mH H a y o) (ry:RelV y u) (h:∀ w' s',Inv X pins σ H s'→RelV (o.getD .au) w'→Q w' s') :
  wpAny (model X.prog X.w) A (call (.builtin "dict.get") [.ref a,u]) Q E s:=by
 rcases g with ⟨kvs,k,e,ey,l⟩ | ⟨kvs,k,b,e,ey,eb,l⟩
 ·subst ey
  obtain⟨z,hd,vs,rel,dd⟩:=lN I.aM e
  refine call_meetsIn ym dd.typeIs PySem.F.entry_dict_get (PySem.F.args_dict_get_2 _ _) (meets_dict_get (aE X.prog X.w) a (iZ ry) hd) ⟨_,dd.mapOf,h _ _ (I.tok _) ?_⟩
  rw[l]
  exact (rel.val k).getD rfl
 ·subst ey
  cases (show u=Value.ref b from ry)
  obtain⟨z,hd,xs,rel,dd⟩:=pI I.aM e
  refine call_meetsIn ym dd.typeIs PySem.F.entry_dict_get (PySem.F.args_dict_get_2 _ _) (meetsH_dict_get (tupleKind (aE X.prog X.w)) a b hd) ⟨tupleKind_room_in1 hu,k,xs,pH I.aM eb,dd,h _ _ (I.tok _) ?_⟩
  rw[l]
  exact (rel.val k).getD rfl
theorem MD (hu:A.units+1<cLine) (I:Inv X pins σ H s) (g:mH H a y o) (ry:RelV y u) (rd:RelV d r) (h:∀ w' s',Inv X pins σ H s'→RelV (o.getD d) w'→Q w' s') :
  wpAny (model X.prog X.w) A (call (.builtin "dict.get") [.ref a,u,r]) Q E s:=by
 rcases g with ⟨kvs,k,e,ey,l⟩ | ⟨kvs,k,b,e,ey,eb,l⟩
 ·subst ey
  obtain⟨z,hd,vs,rel,dd⟩:=lN I.aM e
  refine call_meetsIn ym dd.typeIs PySem.F.entry_dict_get (PySem.F.args_dict_get_3 _ _ _) (meets_dict_get_default (aE X.prog X.w) a (iZ ry) hd r) ⟨_,dd.mapOf,h _ _ (I.tok _) ?_⟩
  rw[l]
  exact (rel.val k).getD rd
 ·subst ey
  cases (show u=Value.ref b from ry)
  obtain⟨z,hd,xs,rel,dd⟩:=pI I.aM e
  refine call_meetsIn ym dd.typeIs PySem.F.entry_dict_get (PySem.F.args_dict_get_3 _ _ _) (meetsH_dict_get_default (tupleKind (aE X.prog X.w)) a b hd r) ⟨tupleKind_room_in1 hu,k,xs,pH I.aM eb,dd,h _ _ (I.tok _) ?_⟩
  rw[l]
  exact (rel.val k).getD rd
end
def ME (td ty:TE):TE:=fun σ H Q=>td σ H fun x H1=>∃ a,x=.ref a∧OC H1 a∧ty σ H1 fun y H2=>∃ o,mH H2 a y o∧Q (o.getD .au) H2
def MF (td ty tx:TE):TE:=fun σ H Q=>td σ H fun x H1=>∃ a,x=.ref a∧OC H1 a∧ty σ H1 fun y H2=>tx σ H2 fun z H3=>∃ o,mH H3 a y o∧Q (o.getD z) H3
def MG (td ty:TE):TE:=fun σ H Q=>td σ H fun x H1=>∃ a,x=.ref a∧OC H1 a∧ty σ H1 fun y H2=>∃ kvs k v,H2 a=some (.dK kvs)∧y=kV k∧fV kvs k=some v∧Q v (upd H2 a (.dK (nT kvs k)))
section
variable {X:Cx}{o e f:Expr}{apos aS:Pos}{td ty tx:TE}
theorem EM (hu:X.A.units+1<cLine) (ho:PE X o td) (he:PE X e ty) (m:M1 X o "get" apos e aS):PE X (.Call (.Attribute o "get" apos) [e] [] aS) (ME td ty):=by
 intro pins s σ H Q I h
 refine wpAny_Call_method m.base m.Ee m.line PySem.F.plainAttrs_dict ym PySem.F.type_dict_get (br (ho pins s σ H _ I h) fun u s1 ⟨x,H1,I1,rx,a,ex,d,q1⟩=>?_)
 subst ex
 obtain rfl:u=Value.ref a:=rx
 obtain⟨t1,t2,_⟩:=tV I1 d
 refine⟨t1,t2,?_⟩
 rw[m.trees]
 refine Calls.callWith_builtin rfl (Calls.evalArgs_plain (yu (br (he pins s1 σ H1 _ I1 q1) fun iv s2 ⟨y,H2,I2,ry,ov,g,q2⟩=>Calls.spliced_nil ?_)))
 exact MC hu I2 g ry fun w' s3 I3 pC=>⟨_,H2,I3,pC,q2⟩
theorem EN (hu:X.A.units+1<cLine) (ho:PE X o td) (he:PE X e ty) (hf:PE X f tx) (m:M2 X o "get" apos e f aS):PE X (.Call (.Attribute o "get" apos) [e,f] [] aS) (MF td ty tx):=by
 intro pins s σ H Q I h
 refine wpAny_Call_method m.base m.Ee m.line PySem.F.plainAttrs_dict ym PySem.F.type_dict_get (br (ho pins s σ H _ I h) fun u s1 ⟨x,H1,I1,rx,a,ex,d,q1⟩=>?_)
 subst ex
 obtain rfl:u=Value.ref a:=rx
 obtain⟨t1,t2,_⟩:=tV I1 d
 refine⟨t1,t2,?_⟩
 rw[m.trees]
 refine Calls.callWith_builtin rfl (Calls.evalArgs_plain (yu (br (he pins s1 σ H1 _ I1 q1) fun iv s2 ⟨y,H2,I2,ry,q2⟩ =>
  yu (br (hf pins s2 σ H2 _ I2 q2) fun fv s3 ⟨z,H3,I3,rz,ov,g,q3⟩=>Calls.spliced_nil ?_))))
 exact MD hu I3 g ry rz fun w' s4 I4 pC=>⟨_,H3,I4,pC,q3⟩
theorem EO (ho:PE X o td) (he:PE X e ty) (m:M1 X o "pop" apos e aS):PE X (.Call (.Attribute o "pop" apos) [e] [] aS) (MG td ty):=by
 intro pins s σ H Q I h
 refine wpAny_Call_method m.base m.Ee m.line PySem.F.plainAttrs_dict PySem.F.slot_dict_pop PySem.F.type_dict_pop (br (ho pins s σ H _ I h) fun u s1 ⟨x,H1,I1,rx,a,ex,d,q1⟩=>?_)
 subst ex
 obtain rfl:u=Value.ref a:=rx
 obtain⟨t1,t2,_⟩:=tV I1 d
 refine⟨t1,t2,?_⟩
 rw[m.trees]
 refine Calls.callWith_builtin rfl (Calls.evalArgs_plain (yu (br (he pins s1 σ H1 _ I1 q1) fun iv s2 ⟨y,H2,I2,ry,kvs,k,v,ea,ey,l,q2⟩=>Calls.spliced_nil ?_)))
 subst ey
 exact P1 I2 ea ry l (.inl rfl) fun w' s3 I3 pC=>⟨v,_,I3,pC,q2⟩
end
section
variable {X:Cx}{pins:List (Addr×Obj)}{σ:St}{H:Hp}{s:Shared}{a:Addr}{kvs:List (Key×V)}{A:Around}{E:Value→Shared→Prop}
end
section
variable {X:Cx}{pins:List (Addr×Obj)}{σ:St}{H:Hp}{s:Shared}{a:Addr}{y:V}{u:Value}{A:Around}{E:Value→Shared→Prop}
end
end L2
namespace Att
open PySem PySem.W PySem.Calls PyProof.Rows
theorem ot:∀ (ns:List Int) (vs:List Value),WellAll P h vs (ns.map WData.int)→IntsAre vs ns:=by
 intro ns
 induction ns with
 | nil =>
  intro vs w
  rw[List.map_nil] at w
  cases w
  exact .nil
 | cons n ns ih =>
  intro vs w
  rw[zB] at w
  cases w with
  | cons a b =>
   cases a
   exact .cons _ _ (ih _ b)
theorem Cs {l:OpenLaw}{n:Nat} (hn:l.most=some n) {P:Params}{h:Heap}{args:List WData}{vals:List Value}
  (Ir:l.row.toRowW.claim.pre args=true) (UL:WellAll P h vals args) :
  ∃ a vs ns,vals=[Value.ref a]∧args=[WData.list (ns.map WData.int)]∧h.get? a=some { cls:=.type "list",data:=.seq vs.toArray }∧IntsAre vs ns∧ns.length≤n:=by
 have Za:WShape.hasAll [] args [.list .int]=true:=(pre_splitW Ir).1
 have hc:l.pre.holds [] { args:=args }=true:=(pre_splitW Ir).2
 obtain⟨d,r,rfl,h1,h2⟩:=hasAllW_cons Za
 obtain rfl:=hasAllW_nil h2
 obtain⟨xs,rfl,h3⟩:=hasW_list h1
 obtain⟨ns,rfl⟩:=items_int h3
 have hlen:ns.length≤n:=by
  unfold OpenLaw.pre at hc
  have h4:(WTm.not (.lt (.lit (.int (n:Int))) (.len (.arg 0)))).holds [] { args:=[.list (ns.map .int)] }=true:=by
   have h4:=(holds_andW hc).1
   rw[hn] at h4
   exact h4
  have h5:=condW_of h4 (w_not (w_lt w_lit (w_len_list (w_arg rfl))))
  rw[zb] at h5
  refine Nat.le_of_not_lt fun q=>?_
  have q':(n:Int)<((ns.length:Nat):Int):=by omega
  first
   | (rw[zu q'] at h5;exact absurd h5 (by decide))
   | (simp at h5;omega)
 cases UL with
 | cons w1 w2 =>
  cases w2
  cases w1 with
  | list ho UM=>exact⟨_,_,ns,rfl,rfl,ho,ot ns _ UM,hlen⟩
theorem Ct (l:OpenLaw) (args:List WData):l.row.toRowW.claim.post args (.bool true) args=true :=
 postW_of (r:=l.row.toRowW) (X:=(true == true))
  (show WShape.has [] (.bool true) .bool=true by first | rfl | decide | simp [WShape.has,WShape.arms,WShape.armsAll])
  (show (WTm.eq .res (.lit (.bool true))).value [] { args:=args,res:=some (.bool true),after:=args }=some (.bool (true == true)) from w_eq_bool (w_res rfl) w_lit) rfl
theorem vA {l:OpenLaw}{n:Nat}{q:Program}{loose:List Str}{XP:(Str→Option Value)→Heap→Prop}{YP:World→Heap→Prop}{d:DefRec}
  (hn:l.most=some n) (UN:d.params.defaults=[])
  (call:∀ (w:World) (dj bb:Shared) (mg mb:Str→Option Value) (fa:Addr) (o:Obj) (pm cd doc:Value) (a:Addr) (vs:List Value) (ns:List Int),
   Ground q loose [] XP w dj mg mb bb.heap→YP w bb.heap →
   bb.heap.get? fa=some o→o.data=.func (docDef d.name d.params d.body d.scope pm cd doc)→bb.heap.CodeRec cd d.name→mg d.name=some (.ref fa) →
   bb.heap.get? a=some { cls:=.type "list",data:=.seq vs.toArray }→IntsAre vs ns→ns.length≤n→bb.gens=#[] →
   codeAny (model l.prog w) callerA (.call (.ref fa) ⟨[.ref a],[]⟩) (fun r s'=>r=.ok (.ret (.bool true))∧OldK bb.heap s'.heap∧s'.os=bb.os∧AllBare s'.gens) bb) :
  WalkO q loose XP YP l.row.toRowW d [] (fun f vs=>PySem.call f vs):=by
 intro w dj bb mg mb G Y fa o pm cd doc dV kV ho hd rh hD MH hg args vals as Ir Zb hrd UL hlo
 obtain rfl:dV=.none:=Dflts.none hD UN
 obtain rfl:kV=.none:=Dflts.noKw hD
 obtain⟨a,vs,ns,rfl,rfl,MI,hints,hlen⟩:=Cs hn Ir UL
 refine enter_call (yJ (call w dj bb mg mb fa o pm cd doc a vs ns G Y ho (fd_plain hd) rh MH MI hints hlen hg) fun r s' hq=>?_)
 obtain⟨rfl,h2,h3,h4⟩:=hq
 exact⟨.inl ⟨.bool true,.bool true,[],rfl,fun _=>rfl,.bool true,Ct l _,fun _=>⟨List.Pairwise.nil,fun _ hm=>(nomatch hm)⟩⟩,h2,h3,h4⟩
section
variable {prog:Program}{w:World}{A:Around}{E:Value→Shared→Prop}{s:Shared}{K:Frag}
end
end Att
namespace L2
open PySem PySem.Spec PyProof.Rows
theorem sH:∀ {vs:List Value}{ns:List Int},IntsAre vs ns→Vals (ns.map V.int) vs
 | _,_,.nil=>.nil
 | _,_,.cons n t h=>.cons ⟨t,rfl⟩ (sH h)
def inClass (s:Stmt) (j:Nat):Stmt:=match s with
 | .ClassDef _ _ _ body _ _ _ _ _ _ _=>body.getD j (.Pass ⟨0,0,0,0⟩)
 | _=>.Pass ⟨0,0,0,0⟩
def cE (s:Stmt):Arguments:=match s with
 | .FunctionDef _ a _ _ _ _ _ _ _ _=>a
 | _=>{ posonlyargs:=[],args:=[],vararg:=none,kwonlyargs:=[],kw_defaults:=[],kwarg:=none,defaults:=[] }
def bO (s:Stmt):List Stmt:=match s with
 | .FunctionDef _ _ b _ _ _ _ _ _ _=>b
 | _=>[]
def ae (s:Stmt):Scope:=match s with
 | .FunctionDef _ _ _ _ _ _ sc _ _ _=>sc
 | _=>{ kind:=.function,names:=[],isGenerator:=false,isCoroutine:=false }
abbrev Ss:xN:=fun _ _ _ _ _ _=>False
abbrev E0:XK:=fun _ _ _=>False
structure Fun (K:PySem.W.Frag) (x qual:Str) (st:Stmt) (f:Addr) (fd:FuncData):Prop where
 ex:∃ (oc:Value) (od:Option Addr) (kV doc pm:Value) (an:Option Addr) (bu ct:Value) (Mn:Array (Option Value)),
  fd=fnOf x qual (cE st) (bO st) (ae st) .none kV doc pm an bu ct∧K.lookup f=some ⟨oc,od,.func fd,Mn⟩∧codeIn K bu qual=true
 kp:keepIn K (.ref f)=true
section
variable {P:Program}{w:World}{K:PySem.W.Frag}{mg:Str→Option Value}{base:Heap}
end
theorem jJ (h:n≤1000):n<sizeLine:=Nat.lt_of_le_of_lt h (by decide)
section
variable {X:Cx}
theorem Cu:fG X (.builtin "len") (fun xs H Q=>∃ a kvs,xs=[V.ref a]∧H a=some (.dK kvs)∧Q (.int kvs.length) H):=by
 intro pins s σ H xs us Q I r h
 obtain⟨a,kvs,rfl,ha,q⟩:=h
 obtain⟨u,rfl,ru⟩:=vals1 r
 cases ru
 exact P2 I (.inl ha) fun t s' I'=>⟨.int kvs.length,H,I',⟨t,rfl⟩,q⟩
end
theorem bV {A B:Prop} (h:B):if false=true then A else B:=by
 rw[if_neg zd]
 exact h
theorem fk {A B:Prop} (h:A):if true=true then A else B:=by
 rw[if_pos rfl]
 exact h
section
variable {κ:Type} [DecidableEq κ]
theorem lO:∀ {l:List κ}{k:κ},l.Nodup→¬ k∈l→(l++[k]).Nodup
 | [],k,_,_=>by simp
 | a :: r,k,h,hk=>by
  obtain⟨h1,h2⟩:=yc.mp h
  show (a :: (r++[k])).Nodup
  refine yc.mpr ⟨fun m=>?_,lO h2 fun m=>hk (zf.mpr (Or.inr m))⟩
  rcases zI.mp m with q | q
  ·exact h1 q
  ·exact hk (zf.mpr (Or.inl (zH.mp q).symm))
end
end L2
set_option maxHeartbeats 4000000
namespace L2
open PySem PySem.Spec PyProof.Rows
section
variable {X:Cx}
def Ef (i j:Str):Bool:=!decide (j.cps.toList<i.cps.toList)
def ou (i j:Str):Bool:=decide (i.cps.toList<j.cps.toList)
def UO (g:Str→Str→Bool):R2:=fun x y H Q=>∃ i j,x=.str i∧y=.str j∧Q (.bl (g i j)) H
theorem Cv:fZ X (compareOp .LtE) (UO Ef):=by
 intro pins s σ H x y v u Q I rx ry h
 obtain⟨i,j,rfl,rfl,q⟩:=h
 obtain⟨t,rfl⟩:=rx
 obtain⟨t',rfl⟩:=ry
 exact P.le_str (aG I q rfl)
theorem Cw:fZ X (compareOp .GtE) (UO fun i j=>Ef j i):=by
 intro pins s σ H x y v u Q I rx ry h
 obtain⟨i,j,rfl,rfl,q⟩:=h
 obtain⟨t,rfl⟩:=rx
 obtain⟨t',rfl⟩:=ry
 exact P.ge_str (aG I q rfl)
theorem Cy:fZ X (compareOp .Gt) (UO fun i j=>ou j i):=by
 intro pins s σ H x y v u Q I rx ry h
 obtain⟨i,j,rfl,rfl,q⟩:=h
 obtain⟨t,rfl⟩:=rx
 obtain⟨t',rfl⟩:=ry
 exact P.gt_str (aG I q rfl)
def Ks (_ j:Int):Prop:=0<j∧j.natAbs.log2<9000
theorem ER:fZ X (binaryOp .FloorDiv) (rI Ks fun i j=>.int (i / j)):=Sl fun i j _ _ _ _ _ hc q=>by
 have hj:j≠0:=by have:=hc.1;omega
 exact floordiv_int hj (by rw[Int.fdiv_eq_ediv_of_nonneg _ (by have:=hc.1;omega)];exact q) (.inl (PyProof.noPylong_of_log2 hc.2))
end
def UP (x:Str):It:=⟨fun i _=>i<x.cps.size,fun i H v H'=>H'=H∧∃ c,x.cps[i]?=some c∧v=.str ⟨#[c]⟩,fun i _=>x.cps.size≤i⟩
theorem vB {P:Program}{w:World}{K:PySem.W.Frag}{tg:Expr}{T:String} (hT:["enumerate", "zip", "dict_itemiterator", "dict_reverseitemiterator", "odict_iterator", "itertools.zip_longest", "itertools.pairwise"].contains T=false) (it:Addr) (x:Str) (t:Tok)
  (W:∀ A':Around,A'.handled=none→Walks P w A' it [it] [it] x.cps.size (SignAt x) (fun i h=>h.IsStrIter it T x t i))
  (UQ:∀ (A:Around) (s:Shared) (E:Value→Shared→Prop) (i:Nat) (Q:Option Value→Shared→Prop),A.handled=none→s.heap.IsStrIter it T x t i→x.cps[i]?=none→(∀ h',Heap.ExtBut it s.heap h'→Q none { s with heap:=h' })→wpAny (model P w) A (pyNext (.ref it)) Q E s)
  (P5:∀ (A:Around) (s:Shared) (E:Value→Shared→Prop) (i:Nat) (Q:Value→Shared→Prop),s.heap.IsStrIter it T x t i→Q (.ref it) s→wpAny (model P w) A (pyIter (.ref it)) Q E s) :
  Turn P w K tg (UP x) [it] it (fun i h=>h.IsStrIter it T x t i) where
 mem:=by simp
 obj:=fun i h st b hb=>by
  have e:b=it:=by simpa using hb
  subst e
  obtain⟨o,e,c,d⟩:=st
  exact⟨o,e,fun v z=>by rw[d] at z;cases z⟩
 keep:=fun i h h' st k=>by
  obtain⟨o,e,c,d⟩:=st
  exact⟨o,k it (by simp) o e,c,d⟩
 item:=by
  intro X hP hw hK hc i pins s σ H E I hf st hg
  subst hP hw hK
  obtain⟨f0,f1,f2,f3,f4,f5⟩:=hf it (by simp)
  refine (W X.A (I.ok.hd hc)).item i s _ _ hg st fun v h' tk hv e_ kk=>?_
  obtain⟨c,u,Iu,rfl⟩:=hv
  have I1:Inv X pins σ H { s with heap:=h',toks:=tk }:=I.turned (fun b o hb e=>kk b o (by simpa using hb) e) f0 f1 f3 f4 f5
  obtain⟨o,e,c',d⟩:=id e_
  exact⟨_,rfl,sx (s:={ s with heap:=h',toks:=tk }) e c' d hT ⟨.str ⟨#[c]⟩,H,I1,⟨u,rfl⟩,⟨rfl,c,Iu,rfl⟩,e_,fun b hb=>(hf b hb).1⟩⟩
 done:=by
  intro X hP hw hK hc i pins s σ H E I hf st hg
  subst hP hw hK
  obtain⟨f0,f1,f2,f3,f4,f5⟩:=hf it (by simp)
  have hg:x.cps.size≤i:=hg
  exact UQ X.A s E i _ (I.ok.hd hc) st (by simp;exact hg) fun h' eb=>⟨rfl,I.turned (t':=s.toks) (fun b o hb e=>eb b o hb e) f0 f1 f3 f4 f5⟩
 self:=fun A' i s Q E st h=>P5 A' s E i Q st h
section
variable {X:Cx}{tg:Expr}
def UR (tl:TE):TI:=fun σ H R=>tl σ H fun x H1=>∃ z,x=.str z∧R (UP z) H1
theorem MJ (hl:PE X l tl):PI X tg l (UR tl):=by
 intro pins s σ H R I h
 refine br (hl pins s σ H _ I h) fun v s1 ⟨x,H1,I1,r1,q1⟩=>?_
 obtain⟨z,e,q⟩:=q1
 subst e
 obtain⟨t,rfl⟩:=r1
 have fin:∀ (T:String) (_:Turn X.prog X.w X.K tg (UP z) [s1.heap.objs.size] s1.heap.objs.size (fun i h=>h.IsStrIter s1.heap.objs.size T z t i)),
   Ui X pins σ tg R (.ref s1.heap.objs.size) { s1 with heap:=s1.heap.push { cls:=.type T,data:=.fields #[.str z t,.int 0 0] } }:=fun T tn=>by
  refine⟨s1.heap.objs.size,[s1.heap.objs.size],_,_,H1,rfl,I1.kept (t':=s1.toks) fun b o e=>zc _ e,tn,⟨_,zm _ rfl,rfl,rfl⟩,fun b hb=>?_,q⟩
  have e:b=s1.heap.objs.size:=by simpa using hb
  subst e
  exact I1.ph (zl _) (I1.aM.fresh (zl _))
 cases ha:z.cps.all (·<128)
 ·exact wpAny_pyIter_wide ha (fin _ (vB (by decide) _ z t (fun A' hA=>Walks.strWide hA _ z t) (fun A s E i Q hh st hx hQ=>wpAny_pyNext_wide_end hh st hx hQ) (fun A s E i Q st hq=>wpAny_pyIter_striter_wide st hq)))
 ·exact wpAny_pyIter_ascii ha (fin _ (vB (by decide) _ z t (fun A' hA=>Walks.strAscii hA _ z t) (fun A s E i Q hh st hx hQ=>wpAny_pyNext_ascii_end hh st hx hQ) (fun A s E i Q st hq=>wpAny_pyIter_striter_ascii st hq)))
end
def clOf (cells:List (Str×Addr)) (names:List (Str×NameKind)):List (Str×Addr) :=
 names.foldl (fun cs p=>if p.2 == .free then match cells.lookup p.1 with | some a=>(p.1,a) :: cs | none=>cs else cs) []
theorem pJ (cells:List (Str×Addr)):∀ (names:List (Str×NameKind)) (cs:List (Str×Addr)),(∀ x c,cs.lookup x=some c→cells.lookup x=some c) →
  ∀ x c,(names.foldl (fun cs p=>if p.2 == .free then match cells.lookup p.1 with | some a=>(p.1,a) :: cs | none=>cs else cs) cs).lookup x=some c→cells.lookup x=some c
 | [],cs,h=>h
 | (n,k) :: r,cs,h=>by
  rw[yA]
  refine pJ cells r _ fun x c e=>?_
  dsimp only at e
  split at e
  ·split at e
   ·rename_i a ha
    rw[zT] at e
    split at e
    ·rename_i hx
     have:=LawfulBEq.eq_of_beq hx
     cases e
     rw[this]
     exact ha
    ·exact h x c e
   ·exact h x c e
  ·exact h x c e
theorem sI (cells:List (Str×Addr)):∀ (names:List (Str×NameKind)) (cs:List (Str×Addr)) (x:Str) (c:Addr),(∀ y c,cs.lookup y=some c→cells.lookup y=some c)→cs.lookup x=some c →
  (names.foldl (fun cs p=>if p.2 == .free then match cells.lookup p.1 with | some a=>(p.1,a) :: cs | none=>cs else cs) cs).lookup x=some c
 | [],cs,x,c,_,h=>h
 | (n,k) :: r,cs,x,c,hs,h=>by
  rw[yA]
  have Su:∀ y c,(if (k == NameKind.free)=true then match cells.lookup n with | some a=>(n,a) :: cs | none=>cs else cs).lookup y=some c→cells.lookup y=some c:=by
   intro y c e
   split at e
   ·split at e
    ·rename_i a ha
     rw[zT] at e
     split at e
     ·rename_i hx
      have:=LawfulBEq.eq_of_beq hx
      cases e
      rw[this]
      exact ha
     ·exact hs y c e
    ·exact hs y c e
   ·exact hs y c e
  refine sI cells r _ x c Su ?_
  dsimp only
  split
  ·split
   ·rename_i a ha
    rw[zT]
    split
    ·rename_i hx
     have:=LawfulBEq.eq_of_beq hx
     rw[this] at h
     have:=hs _ _ h
     rw[ha] at this
     exact this
    ·exact h
   ·exact h
  ·exact h
theorem i0 (cells:List (Str×Addr)):∀ (names:List (Str×NameKind)) (cs:List (Str×Addr)) (x:Str) (c:Addr),(∀ y c,cs.lookup y=some c→cells.lookup y=some c)→(x,NameKind.free)∈names→cells.lookup x=some c →
  (names.foldl (fun cs p=>if p.2 == .free then match cells.lookup p.1 with | some a=>(p.1,a) :: cs | none=>cs else cs) cs).lookup x=some c
 | [],cs,x,c,_,h,_=>nomatch h
 | (n,k) :: r,cs,x,c,hs,h,hc=>by
  rw[yA]
  have Su:∀ y c,(if (k == NameKind.free)=true then match cells.lookup n with | some a=>(n,a) :: cs | none=>cs else cs).lookup y=some c→cells.lookup y=some c:=by
   intro y c e
   split at e
   ·split at e
    ·rename_i a ha
     rw[zT] at e
     split at e
     ·rename_i hx
      have:=LawfulBEq.eq_of_beq hx
      cases e
      rw[this]
      exact ha
     ·exact hs y c e
    ·exact hs y c e
   ·exact hs y c e
  rcases zf.mp h with e | h
  ·cases e
   refine sI cells r _ _ c Su ?_
   dsimp only
   rw[if_pos (show (NameKind.free == NameKind.free)=true by decide),hc]
   simp [zT]
  ·exact i0 cells r _ x c Su h hc
theorem gw {scope:Scope}{env:Env} (h:∀ x∈scope.names,x.2=.free→∃ c,env.cells.lookup x.1=some c):closureFor scope env=pure (clOf env.cells scope.names):=by
 have go:∀ (names:List (Str×NameKind)) (cs:List (Str×Addr)),(∀ x∈names,x.2=.free→∃ c,env.cells.lookup x.1=some c) →
   (forIn names cs fun x r=>match x with | (name,kind)=>if (kind == NameKind.free)=true then do let a ← cellOf env name;pure (ForInStep.yield ((name,a) :: r)) else pure (ForInStep.yield r):Sem (List (Str×Addr))) =
    pure (names.foldl (fun cs p=>if p.2 == .free then match env.cells.lookup p.1 with | some a=>(p.1,a) :: cs | none=>cs else cs) cs):=by
  intro names
  induction names with
  | nil=>intro cs _;rfl
  | cons p r ih =>
   intro cs hp
   obtain⟨n,k⟩:=p
   rw[List.forIn_cons,yA]
   by_cases hk:k=.free
   ·subst hk
    obtain⟨c,hc⟩:=hp _ zx rfl
    have hc:env.cells.lookup n=some c:=hc
    have e1:cellOf env n=pure c:=by unfold cellOf;rw[hc]
    have ef:(NameKind.free == NameKind.free)=true:=by decide
    dsimp only
    rw[if_pos ef,if_pos ef,e1,hc]
    exact ih _ fun x hx=>hp x (zh _ hx)
   ·have Iv:(k == NameKind.free)=false:=by simpa using hk
    dsimp only
    rw[Iv,if_neg zd,if_neg zd]
    exact ih _ fun x hx=>hp x (zh _ hx)
 have e:=go scope.names [] h
 have e2:closureFor scope env=(forIn scope.names [] (fun x r=>match x with | (name,kind)=>if (kind == NameKind.free)=true then do let a ← cellOf env name;pure (ForInStep.yield ((name,a) :: r)) else pure (ForInStep.yield r)):Sem (List (Str×Addr))) >>= fun cs=>pure cs:=rfl
 rw[e2,e]
 rfl
theorem i3 {env:Env}{names:List (Str×NameKind)}{x:Str} :
  (names.map fun (n,k)=>if (k == NameKind.free && env.scope.kind == .function && env.kindOf n == some .cell) then (n,NameKind.cell) else (n,k)).lookup x =
   (names.lookup x).map fun k=>if (k == NameKind.free && env.scope.kind == .function && env.kindOf x == some .cell) then NameKind.cell else k:=by
 induction names with
 | nil=>rfl
 | cons p r ih =>
  obtain⟨n,k⟩:=p
  rw[zB,zT]
  by_cases hc:(k == NameKind.free && env.scope.kind == .function && env.kindOf n == some .cell)=true
  ·dsimp only
   rw[if_pos hc,zT]
   cases hx:x == n with
   | true =>
    have:=LawfulBEq.eq_of_beq hx
    subst this
    dsimp only [Option.map]
    rw[if_pos hc]
   | false=>exact ih
  ·dsimp only
   rw[if_neg hc,zT]
   cases hx:x == n with
   | true =>
    have:=LawfulBEq.eq_of_beq hx
    subst this
    dsimp only [Option.map]
    rw[if_neg hc]
   | false=>exact ih
def iE (X:Cx) (N:List Str) (scope:Scope) (C:Addr) (s:Shared) (H:Hp) (ex:List Addr) (pn:List (Addr×Obj)):Cx :=
 { X with N:=N,dj:=s,tN:=H,env:=compEnvC scope (clOf X.env.cells scope.names) C X.env,outer:=X.stack,ex:=ex,fn:=fun _=>false,pn:=pn,xe:=fun _ _=>False }
def pick (σ:St) (src:List (Option Nat)):St:=src.map fun o=>match o with | some j=>(σ[j]?).join | none=>none
structure bM (X:Cx) (N:List Str) (src:List (Option Nat)) (scope:Scope):Prop where
 kind:scope.kind=.function
 gx:∀ y∈scope.names,y.2≠.cell
 loc:∀ y∈scope.names,y.2=.local→scope.names.lookup y.1=some .local
 xV:∀ y∈scope.names,y.2=.free→X.env.kindOf y.1=some .cell∨X.env.kindOf y.1=some .free
 len:src.length=N.length
 src:∀ (i j:Nat) (x:Str),src[i]?=some (some j)→N[i]?=some x→X.N[j]?=some x∧scope.names.lookup x=some .free∧Ox X.env.scope x
def Ext (σ aK:St):Prop:=aK.length=σ.length∧∀ (j:Nat) v,σ[j]?=some (some v)→aK[j]?=some (some v)
def xW (g:TG) (src:List (Option Nat)):Prop:=∀ x σ H Q,g x (pick σ src) H Q→g x (pick σ src) H fun aK H'=>Ext (pick σ src) aK∧Q aK H'
def ES (wi:TI) (src:List (Option Nat)) (g:TG) (tc:TT) (te:TE):TE:=fun σ H Q=>wi σ H fun J H1 =>
 ∃ W:Nat→Nat→List V→Hp→Prop,(∃ m,W 0 m [] H1)∧∀ i m out H',W i m out H' →
  (J.stop i H'∧∀ D,H' D=none→Q (.ref D) (upd H' D (.lst out))) ∨
  (J.go i H'∧out.length<sizeLine∧∀ x H2,J.Pp i H' x H2→g x (pick σ src) H2 fun iR H3=>tc iR H3 fun b H4 =>
   if b=true then te iR H4 fun v H5=>∃ m',m'<m∧W (i+1) m' (out++[v]) H5 else ∃ m',m'<m∧W (i+1) m' out H4)
section
variable {X:Cx}{N:List Str}{src:List (Option Nat)}{scope:Scope}{tg iter elt:Expr}{ifs:List Expr}{pos:Pos}{wi:TI}{g:TG}{tc:TT}{te:TE}
def OD (X:Cx) (ifs:List Expr) (t:TT):Prop :=
 ∀ (pins:List (Addr×Obj)) (s:Shared) (σ:St) (H:Hp) (Q:Bool→Hp→Prop),Inv X pins σ H s→t σ H Q →
  wpAny (model X.prog X.w) X.A (forIn ifs true fun c r=>if r=true then do let ok ← isTrue c X.env (eval c X.env);pure (ForInStep.yield ok) else pure (ForInStep.yield r)) (TP X pins σ Q) X.xe s
def P6:TT:=fun _ H Q=>Q true H
theorem Iw:OD X [] P6:=fun pins s σ H Q I h=>wpAny_tests_nil ⟨H,I,h⟩
theorem Iy (h:PT X c t):OD X [c] t:=fun pins s σ H Q I hw=>wpAny_tests_one (h pins s σ H Q I hw)
theorem j6 (OE:∀ x s',EE x s'→notedBy (model prog w) A env (fun e s'=>R (.error e) s') x s') (I:Nat→Shared→Prop)
  (turn:∀ n s,I n s→wpAny (model prog w) A (pyNext it) (fun r bb=>match r with
   | none=>R (.ok .next) bb
   | some v=>wpAny (model prog w) A (letOwnedTupleGo target it v) (fun _ Kt=>wpAny (model prog w) A (assign target env v) (fun _ bU =>
     wpAny (model prog w) A (forIn ifs true fun c r=>if r=true then do let ok ← isTrue c env (eval c env);pure (ForInStep.yield ok) else pure (ForInStep.yield r)) (fun ok xA =>
      if ok=true then wpAny (model prog w) A (eval elt env) (fun x vE =>
       wpAny (model prog w) A (call (.builtin "list.append") [acc,x]) (fun _ P7=>∃ m,m<n∧I m P7) EE vE) EE xA
      else ∃ m,m<n∧I m xA) EE bU) EE Kt) EE bb) EE s)
  (n:Nat) (h:I n s) :
  codeAny (model prog w) A (.compLoop (.ListComp elt [⟨target,iter,ifs,0⟩] scope pos) 0 it acc env) R s:=by
 refine codeAny_loop rfl I (fun n s hI=>?_) n h
 show wpAny _ A ((compTurn (.ListComp elt [⟨target,iter,ifs,0⟩] scope pos) 0 it acc env).onRaise (fun x=>do noteFrame x env;theTreesLotGoes x)) _ _ s
 refine wpAny_noted ?_
 rw[compTurn_list]
 refine za (wpAny_standAt (za (yz (turn n s hI) (fun r bb h₁=>?_) OE)))
 cases r with
 | none=>exact zi h₁
 | some v =>
  refine za (yz h₁ (fun _ Kt P8=>?_) OE)
  refine za (yz P8 (fun _ bU US=>za (yz US (fun ok xA P9=>?_) OE)) OE)
  cases ok with
  | false=>exact zi ⟨rfl,P9⟩
  | true =>
   exact za (za (yz P9 (fun x vE UT=>za (yz UT (fun _ P7 UU=>zi (zi ⟨rfl,UU⟩)) OE)) OE))
def CompEnd (X:Cx) (pins:List (Addr×Obj)) (σ:St) (Q:VK) (D C:Addr) (s':Shared):Prop :=
 ∃ H' m,Inv X pins σ H' s'∧Q (.ref D) H'∧s'.heap.Ns C m∧H' C=none∧C≠X.env.locals∧X.dj.heap.objs.size≤C∧(∀ x c,X.env.cells.lookup x=some c→c≠C)∧(∀ p∈X.pn++pins,p.1≠C)
theorem sJ {pins:List (Addr×Obj)}{bU:Shared}{σ:St}{iS:Hp}{Q:VK}{it:Addr}{fp:List Addr}{tn:Nat→Heap→Prop}{J:It}{E:Value→Shared→Prop} (S:bM X N src scope) (hc:X.calm=true)
  (hg:∀ C s H ex pn,PG (iE X N scope C s H ex pn) tg g) (hx:xW g src) (hi:∀ C s H ex pn,OD (iE X N scope C s H ex pn) ifs tc) (he:∀ C s H ex pn,PE (iE X N scope C s H ex pn) elt te)
  (I:Inv X pins σ iS bU) (T:Turn X.prog X.w X.K tg J fp it tn) (st:tn 0 bU.heap) (ff:∀ b∈fp,pf X pins iS b)
  (W:Nat→Nat→List V→Hp→Prop) (w0:∃ m,W 0 m [] iS)
  (turn:∀ i m out H',W i m out H'→(J.stop i H'∧∀ D,H' D=none→Q (.ref D) (upd H' D (.lst out))) ∨
   (J.go i H'∧out.length<sizeLine∧∀ x H2,J.Pp i H' x H2→g x (pick σ src) H2 fun iR H3=>tc iR H3 fun b H4 =>
    if b=true then te iR H4 fun v H5=>∃ m',m'<m∧W (i+1) m' (out++[v]) H5 else ∃ m',m'<m∧W (i+1) m' out H4))
  {RR:Value→Addr→Result→Shared→Prop} (Zc:∀ D C s',CompEnd X pins σ Q D C s'→RR (.ref D) C (.ok .next) s') :
  wpAny (model X.prog X.w) X.A (newList []) (fun acc xA=>wpAny (model X.prog X.w) X.A (newFunctionEnv scope X.env.globals (clOf X.env.cells scope.names) [] X.env.qual none .none (some X.env)) (fun P_ vE =>
   codeAny (model X.prog X.w) X.A (.compStart (.ListComp elt [⟨tg,iter,ifs,0⟩] scope pos) 0 (.ref it) acc { P_ with scope:=relabel scope X.env }) (RR acc P_.locals) vE) E xA) E bU:=by
 refine yf (wpAny_newFunctionEnv S.gx (by intro y hy;simp at hy) (fun h₁ tW pK=>?_) S.kind)
 dsimp only at tW pK ⊢
 generalize UW:bU.heap.push { cls:=.type "list",dict:=none,data:=.seq ([]:List Value).toArray }=G2 at tW pK ⊢
 have hC:G2.objs.size=bU.heap.objs.size+1:=by rw[← UW,yj]
 have OF:bU.heap.objs.size≠G2.objs.size:=by rw[hC];exact zw (Nat.lt_succ_self _)
 have Iz:bU.heap.objs.size≤G2.objs.size:=by rw[hC];exact yI _
 have old:∀ b o,bU.heap.get? b=some o→h₁.get? b=some o:=fun b o e =>
  pK.extBut b o (zw (zk (zq e) Iz)) (zc _ (UW ▸ zc _ e))
 have pL:h₁.get? bU.heap.objs.size=some { cls:=.type "list",dict:=none,data:=.seq ([]:List Value).toArray }:=pK.extBut _ _ OF (zc _ (UW ▸ zm _ rfl))
 generalize hCC:G2.objs.size=C at hC OF Iz tW pK ⊢
 have lP:bU.heap.objs.size≤C:=Iz
 generalize hD:bU.heap.objs.size=D at hC OF Iz pL ⊢
 have iF:∀ x c,(clOf X.env.cells scope.names).lookup x=some c→X.env.cells.lookup x=some c:=pJ X.env.cells scope.names [] (by intro x c h;simp at h)
 have ET:∀ x c,X.env.cells.lookup x=some c→c<bU.heap.objs.size:=fun x c e=>by obtain⟨v,q⟩:=I.cell x c e;exact q.lt
 have MK:∀ b∈fp,b<bU.heap.objs.size:=fun b hb=>by
  obtain⟨o,e,_⟩:=T.obj _ _ st b hb
  exact zq e
 -- the block's context
 have ok:(iE X N scope C bU iS fp (X.pn++pins)).Ok:=by
  refine⟨I.ok.mod,S.kind,I.ok.glob,I.ok.blt,lP,fun x y c h1 h2=>I.ok.inj x y c (iF _ _ h1) (iF _ _ h2),fun x hk=>?_,fun x c h=>(nomatch h),I.ok.hd,I.ok.frames,.inl rfl,fun b hb=>⟨?_,fun x c h=>?_⟩,
   I.bs,zG I.ok.HL I.sz,fun b o e hb=>?_,fun b hb hf=>?_,I.stack,I.oS⟩
  ·-- cells for the names
   have hk:(relabel scope X.env).names.lookup x=some .cell∨(relabel scope X.env).names.lookup x=some .free:=hk
   unfold relabel at hk
   dsimp only at hk
   rw[i3] at hk
   cases hl:scope.names.lookup x with
   | none=>rw[hl] at hk;rcases hk with z | z <;> cases z
   | some k =>
    rw[hl] at hk
    have hm:=yd hl
    have Qa:k=.free:=by
     by_cases Qa:k=.free
     ·exact Qa
     ·exfalso
      have e1:(k == NameKind.free)=false:=by simpa using Qa
      simp only [Option.map,e1,zP,Bool.false_eq_true,if_false] at hk
      rcases hk with z | z
      ·exact S.gx _ hm (zN z)
      ·exact Qa (zN z)
    subst Qa
    obtain⟨c,Iu⟩:=I.ok.has x (S.xV _ hm rfl)
    exact⟨c,i0 X.env.cells scope.names [] x c (by intro x c h;simp at h) hm Iu⟩
  ·exact zw (zk (MK b hb) lP)
  ·exact (ff b hb).2.2.2.2.1 x c (iF _ _ h)
  ·have q:b∈X.ex∨X.dj.heap.objs.size≤b:=(ff b hb).2.2.2.1
   rcases q with q | q
   ·exact I.ok.LF b o e q
   ·exact absurd (zk (zq e) (zG I.ok.HL q)) (yx _)
  ·rcases zf.mp (I.mC b hf) with z | z
   ·exact (ff b hb).2.1 z
   ·exact (ff b hb).2.2.1 z
 have Qb:∀ p∈X.pn++pins,p.1∉om X.stack:=fun p hp z=>by
  obtain⟨_,_,ne,nf,_⟩:=I.pin p hp
  rcases zf.mp (I.mC _ z) with q | q
  ·exact ne q
  ·exact nf q
 have EU:∀ p∈X.pn++pins,p.1<bU.heap.objs.size:=fun p hp=>zq (I.pin p hp).1
 have Qc:∀ b∈om X.stack,b<bU.heap.objs.size:=fun b hb=>by
  rcases zf.mp (I.mC b hb) with z | z
  ·rw[z];exact I.lt
  ·obtain⟨_,o,ho,_⟩:=I.ok.oo.mem z
   exact zk (zq ho) I.sz
 have UX:∀ (i:Nat) (x:Str) (v:V),N[i]?=some x→(pick σ src)[i]?=some (some v)→∃ u c,RelV v u∧(clOf X.env.cells scope.names).lookup x=some c∧bU.heap.IsCell c (some u)∧scope.names.lookup x=some .free:=fun i x v e1 e2=>by
  unfold pick at e2
  rw[zp] at e2
  cases es:src[i]? with
  | none=>rw[es] at e2;cases e2
  | some o =>
   rw[es] at e2
   cases o with
   | none=>cases e2
   | some j =>
    have e3:(σ[j]?).join=some v:=zN e2
    have e4:σ[j]?=some (some v):=by
     cases q:σ[j]? with
     | none=>rw[q] at e3;cases e3
     | some z=>rw[q] at e3;exact congrArg some e3
    obtain⟨a1,a2,a3⟩:=S.src i j x es e1
    obtain⟨m0,_,hl⟩:=I.loc
    obtain⟨u,r,l⟩:=hl j x v a1 e4 a3
    have hm:=yd a2
    have hk:=S.xV _ hm rfl
    rcases l with ⟨k,_⟩ | ⟨_,c,Iu,z⟩
    ·rcases hk with hk | hk <;> (rw[k] at hk;cases hk)
    ·exact⟨u,c,r,i0 X.env.cells scope.names [] x c (by intro x c h;simp at h) hm Iu,z,a2⟩
 have kinds:∀ x,scope.names.lookup x=some .free→(compEnvC scope (clOf X.env.cells scope.names) C X.env).kindOf x=some .cell∨(compEnvC scope (clOf X.env.cells scope.names) C X.env).kindOf x=some .free:=fun x hx=>by
  show (relabel scope X.env).names.lookup x=some .cell∨(relabel scope X.env).names.lookup x=some .free
  unfold relabel
  dsimp only
  rw[i3,hx]
  dsimp only [Option.map]
  split
  ·exact .inl rfl
  ·exact .inr rfl
 have Ic:Inv (iE X N scope C bU iS fp (X.pn++pins)) [] (pick σ src) iS { bU with heap:=h₁,toks:=bU.toks+([]:List (Str×Value)).length }:=by
  refine⟨ok,rfl,I.bare,Un.kept old,⟨_,tW,fun i x v e1 e2 e3=>?_⟩,fun x c e=>?_,I.aM.fresh lP,fun x c e=>I.fY x c (iF x c e),fun p hp=>?_,I.aM.kept old,?_⟩
  ·obtain⟨u,c,r,e5,⟨o,ho,hd⟩,hf⟩:=UX i x v e1 e2
   exact⟨u,r,.inr ⟨kinds x hf,c,e5,⟨o,old _ _ ho,hd⟩⟩⟩
  ·obtain⟨v,o,ho,hd⟩:=I.cell x c (iF x c e)
   exact⟨v,o,old _ _ ho,hd⟩
  ·have hp:p∈X.pn++pins:=by simpa [iE] using hp
   obtain⟨e,n,_,_,d⟩:=I.pin p hp
   exact⟨old _ _ e,n,zw (zk (EU p hp) lP),Qb p hp,d⟩
  ·show (pick σ src).length=N.length
   unfold pick
   rw[zb,S.len]
 have vF:bU.heap.objs.size≤D:=Nat.le_of_eq hD
 have ML:D∉om X.stack:=fun z=>absurd (zk (Qc D z) vF) (yx _)
 have Ku:D∉fp:=fun z=>absurd (zk (MK D z) vF) (yx _)
 have ph:∀ {pl:List (Addr×Obj)}{H':Hp},(∀ b∈fp,H' b=none)→(∀ p∈pl,p.1∉fp)→∀ b∈fp,pf (iE X N scope C bU iS fp (X.pn++pins)) pl H' b:=fun {pl H'} hn gF b hb=>by
  obtain⟨f0,f1,f2,f3,f4,f5⟩:=ff b hb
  refine⟨hn b hb,zw (zk (MK b hb) lP),fun z=>?_,.inl hb,fun x c e=>f4 x c (iF x c e),fun p hp=>?_⟩
  ·rcases zf.mp (I.mC b z) with q | q
   ·exact f1 q
   ·exact f2 q
  ·have hp:p∈(X.pn++pins)++pl:=hp
   rcases zI.mp hp with hp | hp
   ·exact f5 p hp
   ·exact fun z=>gF p hp (z ▸ hb)
 -- back in the def's own frame
 have back:∀ {s':Shared}{H':Hp}{out:List V}{ax:List Value}{nn:Nat}{aK:St},Inv (iE X N scope C bU iS fp (X.pn++pins)) [] aK H' s'→H' D=none→out.length≤sizeLine→Vals out ax →
   s'.heap.get? D=some { cls:=.type "list",data:=.seq ax.toArray nn }→(∀ D,H' D=none→Q (.ref D) (upd H' D (.lst out)))→CompEnd X pins σ Q D C s':=fun {s' H' out ax nn aK} I' hn hl hv ho q=>by
  obtain⟨m,hm,_⟩:=I'.loc
  have un:Un (om X.stack) fp iS H' bU.heap s'.heap:=I'.base
  have Zd:∀ b o,bU.heap.get? b=some o→b≠D:=fun b o e=>zw (zk (zq e) vF)
  have fD:iS D=none:=I.aM.fresh vF
  refine⟨upd H' D (.lst out),m,?_,q D hn,hm,by rw[av (Ne.symm OF)];exact I'.free,yi (zk I.lt lP),zG I.sz lP,fun x c e=>zw (zk (ET x c e) lP),fun p hp=>zw (zk (EU p hp) lP)⟩
  refine I.Pf (ch:=fp) I'.os ⟨un.keep,un.slot,fun b o e n hb=>?_,un.there,fun b xs e=>?_,fun b o u e=>?_,fun b ps e=>?_⟩ (fun b o e=>?_) I'.bare fun b hb=>?_
  ·rw[av (Zd b o e)];exact un.free b o e n hb
  ·rw[av (aC e fD)];exact un.lI b xs e
  ·rw[av (aC e fD)];exact un.kD b o u e
  ·rw[av (aC e fD)];exact un.kE b ps e
  ·by_cases hb:b=D
   ·subst hb
    rw[aF] at e
    cases e
    exact⟨hl,ax,nn,hv,ho⟩
   ·rw[av hb] at e
    refine (I'.aM b o e).oj (fun c v _ q=>q) (fun c q=>?_) fun c xs q=>?_
    ·rw[av (aC q hn)];exact q
    ·rw[av (aC q hn)];exact q
  ·obtain⟨f0,f1,f2,f3,f4,f5⟩:=ff b hb
   exact⟨f3,f1,f4,f5⟩
 obtain⟨m0,w0⟩:=w0
 have loop:∀ vE:Shared,vE={ bU with heap:=h₁,toks:=bU.toks+([]:List (Str×Value)).length } →
   codeAny (model X.prog X.w) X.A (.compLoop (.ListComp elt [⟨tg,iter,ifs,0⟩] scope pos) 0 (.ref it) (.ref D) (compEnvC scope (clOf X.env.cells scope.names) C X.env)) (RR (.ref D) C) vE:=by
  rintro vE rfl
  refine j6 (EE:=fun _ _=>False) (fun _ _ f=>f.elim) (fun n s'=>∃ i out ax nn H',Inv (iE X N scope C bU iS fp (X.pn++pins)) [] (pick σ src) H' s'∧H' D=none∧out.length≤sizeLine∧Vals out ax ∧
   s'.heap.get? D=some { cls:=.type "list",data:=.seq ax.toArray nn }∧tn i s'.heap∧(∀ b∈fp,H' b=none)∧W i n out H') ?_ m0
   ⟨0,[],[],0,iS,Ic,I.aM.fresh vF,ya _,.nil,pL,T.keep _ _ _ st fun b hb o e=>old b o e,fun b hb=>(ff b hb).1,w0⟩
  rintro n s3 ⟨i,out,ax,nn,H3,I3,XD,UY,Sv,Ze,L7,Pt,w3⟩
  have MM:∀ (ax:List Value) (nn:Nat) (v:Option Value),({ cls:=.type "list",data:=.seq ax.toArray nn } : Obj).data≠.cell v:=fun _ _ _ z=>nomatch z
  have XE:Inv (iE X N scope C bU iS fp (X.pn++pins)) [(D,{ cls:=.type "list",data:=.seq ax.toArray nn })] (pick σ src) H3 s3:=I3.lJ fun p hp=>by
   have e:p=(D,{ cls:=.type "list",data:=.seq ax.toArray nn }):=by simpa using hp
   subst e
   exact⟨Ze,XD,OF,ML,MM ax nn⟩
  have UZ:∀ p∈[((D,{ cls:=.type "list",data:=.seq ax.toArray nn }):Addr×Obj)],p.1∉fp:=fun p hp=>by
   have e:p=(D,{ cls:=.type "list",data:=.seq ax.toArray nn }):=by simpa using hp
   subst e
   exact Ku
  rcases turn i n out H3 w3 with ⟨stop,qn⟩ | ⟨go,fu,step⟩
  ·refine br (T.done (iE X N scope C bU iS fp (X.pn++pins)) rfl rfl rfl hc i _ s3 _ H3 _ XE (ph Pt UZ) L7 stop) fun r s4 ⟨hr,I4⟩=>?_
   subst hr
   have p4:=(I4.pin (D,{ cls:=.type "list",data:=.seq ax.toArray nn }) (zA _ (by simp))).1
   exact Zc D C s4 (back (I4.lJ (pins':=[]) fun p hp=>nomatch hp) XD UY Sv p4 qn)
  ·refine br (T.item (iE X N scope C bU iS fp (X.pn++pins)) rfl rfl rfl hc i _ s3 _ H3 _ XE (ph Pt UZ) L7 go) fun r s4 ⟨u,hr,h4⟩=>?_
   subst hr
   refine br h4 fun _ s5 ⟨x,H5,I5,r5,y5,Ec,fr5⟩=>?_
   have Ul:=I5.pinned (ph fr5 UZ) (T.obj _ _ Ec)
   refine br (hg _ _ _ _ _ _ s5 _ H5 x u _ Ul r5 (hx x σ H5 _ (step x H5 y5))) fun _ s6 ⟨Pu,H6,I6,e6,q6⟩=>?_
   have fin:∀ {s7:Shared}{H7:Hp},Inv (iE X N scope C bU iS fp (X.pn++pins)) ([(D,{ cls:=.type "list",data:=.seq ax.toArray nn })]++pj fp s5.heap) Pu H7 s7 →
     Inv (iE X N scope C bU iS fp (X.pn++pins)) [] (pick σ src) H7 s7∧H7 D=none∧s7.heap.get? D=some { cls:=.type "list",data:=.seq ax.toArray nn }∧tn (i+1) s7.heap∧∀ b∈fp,H7 b=none:=fun {s7 H7} I7=>by
    have pD:=I7.pin (D,{ cls:=.type "list",data:=.seq ax.toArray nn }) (zA _ (by simp))
    refine⟨(I7.lJ (pins':=[]) fun p hp=>nomatch hp).weak e6.1.symm e6.2,pD.2.1,pD.1,T.keep _ _ _ Ec fun b hb o e=>(I7.pin (b,o) (zA _ (zA _ (g9 hb e)))).1,fun b hb=>?_⟩
    obtain⟨o,e,d⟩:=T.obj _ _ Ec b hb
    exact (I7.pin (b,o) (zA _ (zA _ (g9 hb e)))).2.1
   refine br (hi _ _ _ _ _ _ s6 Pu H6 _ I6 q6) fun b s7 ⟨H7,I7,q7⟩=>?_
   cases b with
   | false =>
    rw[if_neg zd] at q7 ⊢
    obtain⟨m',hm,w7⟩:=q7
    obtain⟨J7,d7,o7,t7,f7⟩:=fin I7
    exact⟨m',hm,i+1,out,ax,nn,H7,J7,d7,UY,Sv,o7,t7,f7,w7⟩
   | true =>
    rw[if_pos rfl] at q7 ⊢
    refine br (he _ _ _ _ _ _ s7 Pu H7 _ I7 q7) fun v s8 ⟨y,H8,I8,r8,m',hm,w8⟩=>?_
    obtain⟨J8,d8,o8,t8,f8⟩:=fin I8
    have hsz:ax.toArray.size≤sizeLine:=by rw[zj,← Sv.length];exact UY
    refine wpAny_list_append_plain (items:=ax.toArray) (hsz:=hsz) ⟨nn,o8⟩ fun h9 ⟨n9,e9⟩ sb=>?_
    have J9:Inv (iE X N scope C bU iS fp (X.pn++pins)) [] (pick σ src) H8 { s8 with heap:=h9 }:=J8.turned (t':=s8.toks) (it:=D) (fun b o hb e=>(sb.2 b hb).trans e) d8 OF (.inr vF) (fun x c e=>zw (zk (ET x c (iF x c e)) vF)) fun p hp=>by
     have hp:p∈X.pn++pins:=by simpa [iE] using hp
     exact zw (zk (EU p hp) vF)
    refine⟨m',hm,i+1,out++[y],ax++[v],n9,H8,J9,d8,?_,Sv.append (.cons r8 .nil),?_,T.keep _ _ _ t8 fun b hb o e=>(sb.2 b (fun z=>Ku (z ▸ hb))).trans e,f8,w8⟩
    ·rw[zy];exact fu
    ·rw[e9];simp
 exact codeAny_compStart_list (loop _ rfl) (T.self _ _ _ _ _ (T.keep _ _ _ st fun b hb o e=>old b o e) (loop _ rfl))
theorem IA (S:bM X N src scope) (hc:X.calm=true) (hit:PI X tg iter wi)
  (hg:∀ C s H ex pn,PG (iE X N scope C s H ex pn) tg g) (hx:xW g src) (hi:∀ C s H ex pn,OD (iE X N scope C s H ex pn) ifs tc) (he:∀ C s H ex pn,PE (iE X N scope C s H ex pn) elt te)
  (hs:∀ x,foldedSetIterable iter X.env x=pure x:=by intro _;rfl):PE X (.ListComp elt [⟨tg,iter,ifs,0⟩] scope pos) (ES wi src g tc te):=by
 intro pins s σ H Q I h
 rw[eval_ListComp]
 have Cz:closureFor scope X.env=pure (clOf X.env.cells scope.names):=gw fun y hy hf=>I.ok.has y.1 (S.xV y hy hf)
 refine wpAny_comprehension_free (use:=none) rfl hs Cz S.kind S.loc (br (hit pins s σ H _ I h) fun v s1 h1=>br h1 fun Sj s2 h2=>?_)
 obtain⟨it,fp,tn,J,H2,e,I2,T,xD,f2,W,w0,turn⟩:=h2
 subst e
 refine sJ (RR:=fun acc C=>compPost (model X.prog X.w) X.A X.xe none (EP X pins σ Q) acc C) S hc hg hx hi he I2 T xD f2 W w0 turn fun D C s' ⟨H',m,I',q,hm,hn,h1,h2,h3,h4⟩=>?_
 exact⟨m,hm,fun h' sb=>⟨.ref D,H',I'.turned (t':=s'.toks) (it:=C) (fun b o hb e=>(sb.2 b hb).trans e) hn h1 (.inr h2) h3 h4,rfl,q⟩⟩
theorem xX {i:Nat}{x:Str}{pos' IB:Pos} (hN:X.N.Nodup) (U0:X.N[i]?=some x) (Sw:X.env.scope.names.lookup x=some .local)
  (S:bM X N src scope) (hc:X.calm=true) (hit:PI X tg iter wi)
  (hg:∀ C s H ex pn,PG (iE X N scope C s H ex pn) tg g) (hx:xW g src) (hi:∀ C s H ex pn,OD (iE X N scope C s H ex pn) ifs tc) (he:∀ C s H ex pn,PE (iE X N scope C s H ex pn) elt te)
  (U1:swapsWith (.ListComp elt [⟨tg,iter,ifs,0⟩] scope pos) (some (.Name x pos')) IB.line X.env=pure true:=by rfl)
  (hs:∀ x,foldedSetIterable iter X.env x=pure x:=by intro _;rfl):PS X (.Assign [.Name x pos'] (.ListComp elt [⟨tg,iter,ifs,0⟩] scope pos) IB) (LW (ES wi src g tc te) (iC i)):=by
 intro pins s σ H D I h
 rw[exec_Assign_Name_used _ _ _ _ U1]
 refine za (wpAny_standAt (za ?_))
 have Cz:closureFor scope X.env=pure (clOf X.env.cells scope.names):=gw fun y hy hf=>I.ok.has y.1 (S.xV y hy hf)
 show wpAny _ X.A (do let _ ← comprehension (.ListComp elt [⟨tg,iter,ifs,0⟩] scope pos) scope X.env _ (newList []) false (eval iter X.env) (some (assign (.Name x pos') X.env))) _ _ s
 refine za (yz (wpAny_comprehension_free (use:=some (assign (.Name x pos') X.env)) (Q:=fun _ s'=>∃ aK H',Inv X pins aK H' s'∧D.nx aK H') rfl hs Cz S.kind S.loc (br (hit pins s σ H _ I h) fun v s1 h1=>br h1 fun Sj s2 h2=>?_))
  (fun _ s' hq=>zi (zi hq)) fun _ _ e=>e)
 obtain⟨it,fp,tn,J,H2,e,I2,T,xD,f2,W,w0,turn⟩:=h2
 subst e
 refine sJ (Q:=fun v H1=>D.nx (σ.set i (some v)) H1) (RR:=fun acc C=>compPost (model X.prog X.w) X.A X.xe (some (assign (.Name x pos') X.env)) (fun _ s'=>∃ aK H',Inv X pins aK H' s'∧D.nx aK H') acc C) S hc hg hx hi he I2 T xD f2 W w0 turn fun D' C s' ⟨H',m,I',q,hm,hn,h1,h2,h3,h4⟩=>?_
 show wpAny _ X.A (assign (.Name x pos') X.env (.ref D')) _ _ _
 refine wpAny_assign_Name (sv I' hN U0 (.inl Sw) (v:=.ref D') rfl (fun xO Zg ⟨a,sb,ha⟩=>?_) (.inr Sw))
 have Zh:C≠a:=by
  rcases ha with ha | ha
  ·rw[ha];exact h1
  ·exact Ne.symm (h3 _ _ ha)
 refine⟨m,hm.sameBut sb Zh,fun h'' xp=>⟨_,H',Zg.turned (t':=xO.toks) (it:=C) (fun b o hb e=>(xp.2 b hb).trans e) hn h1 (.inr h2) h3 h4,q⟩⟩
end
theorem mI {σ:St}{src:List (Option Nat)}{i:Nat} (h:src[i]?=some none):(pick σ src)[i]?=some none:=by
 unfold pick
 rw[zp,h]
 rfl
theorem Ext.set (h:σ0[i]?=some none) (e:Ext σ0 σ):Ext σ0 (σ.set i (some v)):=by
 refine⟨by rw[List.length_set];exact e.1,fun j w hj=>?_⟩
 have:i≠j:=by
  rintro rfl
  rw[h] at hj
  cases hj
 rw[List.getElem?_set_ne this]
 exact e.2 j w hj
theorem Ext.refl (σ:St):Ext σ σ:=⟨rfl,fun _ _ h=>h⟩
theorem a_ {src:List (Option Nat)}{i:Nat} (h:src[i]?=some none):xW (iC i) src:=fun x σ H Q q=>⟨(Ext.refl _).set (mI h),q⟩
theorem tX {K:PySem.W.Frag}{n:Nat}{src:List (Option Nat)}{i j:Nat} (h:src[i]?=some none) (h':src[j]?=some none):xW (HU K n (pd (iC i) (pd (iC j) HS))) src:=fun x σ H Q q=>by
 obtain⟨a,xs,e1,hs,hl,v,r,e2,v2,r2,e3,e4,q⟩:=q
 exact⟨a,xs,e1,hs,hl,v,r,e2,v2,r2,e3,e4,((Ext.refl _).set (mI h)).set (mI h'),q⟩
theorem all_bools {xs:List V}{ax:List Value}{bs:List Bool} (hv:Vals xs ax) (hb:xs=bs.map V.bl):∀ (i:Nat) (v:Value),ax.toArray[i]?=some v→v=Value.bool ((bs[i]?).getD false):=by
 subst hb
 intro i v h
 have h':ax[i]?=some v:=by simpa using h
 have hl:=hv.length
 rw[zb] at hl
 have hi:i<ax.length:=(zo.mp h').1
 have hb:bs[i]?=some (bs[i]'(by omega)):=by simp
 obtain⟨u,hu,r⟩:=hv.get (i:=i) (x:=V.bl (bs[i]'(by omega))) (by rw[zp,hb];rfl)
 rw[h'] at hu
 cases hu
 rw[hb]
 exact r
theorem range_all {bs:List Bool} : (List.range bs.length).all (fun i=>(bs[i]?).getD false)=bs.all id:=by
 rw[yn,zZ,zZ]
 constructor
 ·intro h b hb
  obtain⟨i,hi,rfl⟩:=List.mem_iff_getElem.mp hb
  have:=h i (zS.mpr hi)
  simpa [hi] using this
 ·intro h i hi
  have hi:=zS.mp hi
  simpa [hi] using h _ (List.getElem_mem hi)
theorem range_any {bs:List Bool} : (List.range bs.length).any (fun i=>(bs[i]?).getD false)=bs.any id:=by
 rw[yn,List.any_eq_true,List.any_eq_true]
 constructor
 ·rintro⟨i,hi,h⟩
  have hi:=zS.mp hi
  exact⟨bs[i],List.getElem_mem hi,by simpa [hi] using h⟩
 ·rintro⟨b,hb,h⟩
  obtain⟨i,hi,rfl⟩:=List.mem_iff_getElem.mp hb
  exact⟨i,zS.mpr hi,by simpa [hi] using h⟩
section
variable {X:Cx}
theorem rE (hc:X.calm=true):fG X (.builtin "all") (fun xs H Q=>∃ (a:Addr) (bs:List Bool),xs=[.ref a]∧jH X.K H a (bs.map V.bl)∧Q (.bl (bs.all id)) H):=by
 intro pins s σ H xs us Q I r h
 obtain⟨a,bs,rfl,hq,q⟩:=h
 obtain⟨u,rfl,ru⟩:=vals1 r
 cases ru
 obtain⟨ax,rv,p,hz⟩:=I.list hq
 have hl:=rv.length
 rw[zb] at hl
 refine call_all_walk (wpAny_pyIter_list p.isList ?_)
 refine⟨s.heap.objs.size,_,_,_,_,_,fun i=>(bs[i]?).getD false,rfl,Walks.list (A:=X.A.in1) (I.ok.hd hc) s.heap.objs.size a (zw p.lt) ax.toArray,⟨⟨_,zm _ rfl,rfl,rfl⟩,p.isList.at fun o e=>zc _ e⟩,?_,fun h' tk hk=>?_⟩
 ·intro i v s' Q' E' hv hQ
  rw[all_bools rv rfl i v hv]
  exact yh hQ
 ·have e:ax.toArray.size=bs.length:=by rw[zj,← hl]
  rw[e,range_all]
  exact⟨.bl (bs.all id),H,I.kept (h':=h') (t':=tk) (fun b o e=>hk b o (by simpa using zw (zq e)) (zc _ e)),rfl,q⟩
theorem rF (hc:X.calm=true):fG X (.builtin "any") (fun xs H Q=>∃ (a:Addr) (bs:List Bool),xs=[.ref a]∧jH X.K H a (bs.map V.bl)∧Q (.bl (bs.any id)) H):=by
 intro pins s σ H xs us Q I r h
 obtain⟨a,bs,rfl,hq,q⟩:=h
 obtain⟨u,rfl,ru⟩:=vals1 r
 cases ru
 obtain⟨ax,rv,p,hz⟩:=I.list hq
 have hl:=rv.length
 rw[zb] at hl
 refine call_any_walk (wpAny_pyIter_list p.isList ?_)
 refine⟨s.heap.objs.size,_,_,_,_,_,fun i=>(bs[i]?).getD false,rfl,Walks.list (A:=X.A.in1) (I.ok.hd hc) s.heap.objs.size a (zw p.lt) ax.toArray,⟨⟨_,zm _ rfl,rfl,rfl⟩,p.isList.at fun o e=>zc _ e⟩,?_,fun h' tk hk=>?_⟩
 ·intro i v s' Q' E' hv hQ
  rw[all_bools rv rfl i v hv]
  exact yh hQ
 ·have e:ax.toArray.size=bs.length:=by rw[zj,← hl]
  rw[e,range_any]
  exact⟨.bl (bs.any id),H,I.kept (h':=h') (t':=tk) (fun b o e=>hk b o (by simpa using zw (zq e)) (zc _ e)),rfl,q⟩
end
def ownOf:HO→Option Addr
 | .ins _ dx _=>some dx
 | .kB _ u=>ownOf u
 | _=>none
structure Fg (H H' G:Hp):Prop where
 sub:∀ b o,G b=some o→H' b=some o
 dom:∀ b o,H b=some o→∃ o',G b=some o'
 own:∀ a o dx,G a=some o→ownOf o=some dx→(∃ o',H a=some o'∧ownOf o'=some dx)∨∃ o',G dx=some o'
section
variable {X:Cx}{pins:List (Addr×Obj)}{σ aK:St}{H H' G:Hp}{s s':Shared}
end
theorem aV:bootBuiltins "len" = some (.builtin "len"):=PySem.boot_len
theorem hG:bootBuiltins "all" = some (.builtin "all"):=boot_all
theorem MN:bootBuiltins "any" = some (.builtin "any"):=boot_any
theorem aw:bootBuiltins "isinstance" = some (.builtin "isinstance"):=boot_isinstance
theorem mJ:bootBuiltins "int" = some (.type "int"):=PyProof.Rows.boot_int
theorem Bi:bootBuiltins "bool" = some (.type "bool"):=PyProof.Rows.boot_bool
theorem i4:bootBuiltins "str" = some (.type "str"):=PyProof.Rows.boot_str
theorem bP:bootBuiltins "tuple" = some (.type "tuple"):=PyProof.Rows.boot_tuple
theorem IC:bootBuiltins "list" = some (.type "list"):=PyProof.Rows.boot_list
theorem ID:bootBuiltins "dict" = some (.type "dict"):=PyProof.Rows.boot_dict
theorem MO:bootBuiltins "set" = some (.type "set"):=PyProof.Rows.boot_set
inductive Kd where
 | au | bl | int | str | lst | tup | dw
 deriving DecidableEq
def Kd.name:Kd→String
 | .au => "NoneType" | .bl => "bool" | .int => "int" | .str => "str" | .lst => "list" | .tup => "tuple" | .dw => "dict"
inductive pM (H:Hp):V→Kd→Prop where
 | au:pM H .au .au
 | bl (b:Bool):pM H (.bl b) .bl
 | int (i:Int):pM H (.int i) .int
 | str (x:Str):pM H (.str x) .str
 | lst {a:Addr}{xs:List V} (e:H a=some (.lst xs)):pM H (.ref a) .lst
 | tup {a:Addr}{xs:List V} (e:H a=some (.tup xs)):pM H (.ref a) .tup
 | dw {a:Addr}{kvs:List (Key×V)} (e:H a=some (.dK kvs)):pM H (.ref a) .dw
theorem pM.ty {K:PySem.W.Frag}{H:Hp}{x:V}{k:Kd} (h:pM H x k):mF K H x (.type k.name):=by
 cases h with
 | au=>exact .au
 | bl b=>exact .bl b
 | int i=>exact .int i
 | str x=>exact .str x
 | lst e=>exact .lst e
 | tup e=>exact .tup e
 | dw e=>exact .dK e
def tY (T:String):Option (Kd→Bool) :=
 if T = "int" then some fun k=>match k with | .int=>true | .bl=>true | _=>false
 else if T = "bool" then some fun k=>match k with | .bl=>true | _=>false
 else if T = "str" then some fun k=>match k with | .str=>true | _=>false
 else if T = "tuple" then some fun k=>match k with | .tup=>true | _=>false
 else if T = "list" then some fun k=>match k with | .lst=>true | _=>false
 else if T = "dict" then some fun k=>match k with | .dw=>true | _=>false
 else none
theorem EV {K:PySem.W.Frag}{T:String}{g:Kd→Bool} (h:tY T=some g) (k:Kd):kitOne K (.type k.name) (.type T)=some (g k):=by
 unfold tY at h
 split at h
 ·rename_i e;subst e;cases h;cases k <;> rfl
 ·split at h
  ·rename_i e;subst e;cases h;cases k <;> rfl
  ·split at h
   ·rename_i e;subst e;cases h;cases k <;> rfl
   ·split at h
    ·rename_i e;subst e;cases h;cases k <;> rfl
    ·split at h
     ·rename_i e;subst e;cases h;cases k <;> rfl
     ·split at h
      ·rename_i e;subst e;cases h;cases k <;> rfl
      ·cases h
section
variable {X:Cx}
theorem EW:fG X (.builtin "isinstance") (fun xs H Q=>∃ x T k g,xs=[x,.ty T]∧tY T=some g∧pM H x k∧Q (.bl (g k)) H):=by
 intro pins s σ H xs us Q I r h
 obtain⟨x,T,k,g,rfl,hg,hk,q⟩:=h
 obtain⟨v,w',rfl,rv,pC⟩:=vals2 r
 cases pC
 exact Cm I rv hk.ty (EV hg k) fun tk=>⟨.bl (g k),H,I.tok tk,rfl,q⟩
end
mutual
def Dt (K:PySem.W.Frag) (H:Hp):PyData→V→Prop
 | .none,v=>v=.au
 | .bool b,v=>v=.bl b
 | .int i,v=>v=.int i
 | .str z,v=>v=.str z
 | .list ds,v=>∃ a xs,v=.ref a∧jH K H a xs∧DtAll K H ds xs
 | .tuple ds,v=>∃ a xs,v=.ref a∧iQ K H a xs∧DtAll K H ds xs
 | .dict _,_=>False
def DtAll (K:PySem.W.Frag) (H:Hp):List PyData→List V→Prop
 | [],xs=>xs=[]
 | d :: ds,xs=>∃ y ys,xs=y :: ys∧Dt K H d y∧DtAll K H ds ys
end
section
variable {X:Cx}{pins:List (Addr×Obj)}{σ:St}{H:Hp}{s:Shared}
mutual
theorem Inv.reads (I:Inv X pins σ H s):∀ (d:PyData) {x:V}{u:Value},Dt X.K H d x→RelV x u→∃ as,Reads s.heap u d as
 | .none,x,u,h,r=>by
  have h:x=.au:=by simpa only [Dt] using h
  subst h;cases r;exact⟨_,.none⟩
 | .bool b,x,u,h,r=>by
  have h:x=.bl b:=by simpa only [Dt] using h
  subst h;cases r;exact⟨_,.bool b⟩
 | .int i,x,u,h,r=>by
  have h:x=.int i:=by simpa only [Dt] using h
  subst h;obtain⟨t,rfl⟩:=r;exact⟨_,.int i t⟩
 | .str z,x,u,h,r=>by
  have h:x=.str z:=by simpa only [Dt] using h
  subst h;obtain⟨t,rfl⟩:=r;exact⟨_,.str z t⟩
 | .list ds,x,u,h,r=>by
  have h:∃ a xs,x=.ref a∧jH X.K H a xs∧DtAll X.K H ds xs:=by simpa only [Dt] using h
  obtain⟨a,xs,rfl,hq,hd⟩:=h
  cases r
  obtain⟨ax,rv,p,_⟩:=I.list hq
  obtain⟨as,ra⟩:=Inv.readsAll I ds hd rv
  obtain⟨o,e,c,n,d⟩:=p.isList
  exact⟨_,.list e c d (by simpa using ra)⟩
 | .tuple ds,x,u,h,r=>by
  have h:∃ a xs,x=.ref a∧iQ X.K H a xs∧DtAll X.K H ds xs:=by simpa only [Dt] using h
  obtain⟨a,xs,rfl,hq,hd⟩:=h
  cases r
  obtain⟨ax,rv,p,_⟩:=I.tuple hq
  obtain⟨as,ra⟩:=Inv.readsAll I ds hd rv
  obtain⟨o,e,c,n,d⟩:=p
  exact⟨_,.tuple e c d (by simpa using ra)⟩
 | .dict _,x,u,h,r=>by
  have h:False:=by simpa only [Dt] using h
  exact h.elim
theorem Inv.readsAll (I:Inv X pins σ H s):∀ (ds:List PyData) {xs:List V}{us:List Value},DtAll X.K H ds xs→Vals xs us→∃ as,ReadsAll s.heap us ds as
 | [],xs,us,h,r=>by
  have h:xs=[]:=by simpa only [DtAll] using h
  subst h;cases r;exact⟨_,.nil⟩
 | d :: ds,xs,us,h,r=>by
  have h:∃ y ys,xs=y :: ys∧Dt X.K H d y∧DtAll X.K H ds ys:=by simpa only [DtAll] using h
  obtain⟨y,ys,rfl,h1,h2⟩:=h
  cases r with
  | cons r1 r2 =>
   obtain⟨as,ra⟩:=Inv.reads I d h1 r1
   obtain⟨bs,rb⟩:=Inv.readsAll I ds h2 r2
   exact⟨_,.cons ra rb⟩
end
end
def Qd (K:PySem.W.Frag) (neg:Bool):R2:=fun x y H Q=>∃ d e,Dt K H d x∧Dt K H e y∧d.canLay0=true∧e.canLay0=true∧(d.depth≤64∨e.depth≤64)∧Q (.bl (if neg then !PyData.eqv d e else PyData.eqv d e)) H
section
variable {X:Cx}
theorem MP (hu:X.A.units+64<cLine):fZ X (compareOp .Eq) (Qd X.K false):=by
 intro pins s σ H x y v u Q I rx ry h
 obtain⟨d,e,hd,he,cd,ce,dp,q⟩:=h
 obtain⟨as,ra⟩:=I.reads d hd rx
 obtain⟨bs,rb⟩:=I.reads e he ry
 exact SeqAt.compareEq_reads ra rb cd ce (by rcases dp with dp | dp <;> omega) (aG I q rfl)
theorem MQ (hu:X.A.units+64<cLine):fZ X (compareOp .NotEq) (Qd X.K true):=by
 intro pins s σ H x y v u Q I rx ry h
 obtain⟨d,e,hd,he,cd,ce,dp,q⟩:=h
 obtain⟨as,ra⟩:=I.reads d hd rx
 obtain⟨bs,rb⟩:=I.reads e he ry
 exact SeqAt.compareNe_reads ra rb cd ce (by rcases dp with dp | dp <;> omega) (aG I q rfl)
end
theorem jK (a b:Nat):Ef ⟨#[a]⟩ ⟨#[b]⟩=decide (a≤b):=by
 unfold Ef
 have e:([b]<[a])↔b<a:=by
  rw[List.cons_lt_cons_iff]
  constructor
  ·rintro (h | ⟨_,h⟩)
   ·exact h
   ·exact absurd h (List.not_lt_nil _)
  ·exact .inl
 rw[yn]
 show (!decide ([b]<[a]))=true↔_
 rw[Bool.not_eq_true',decide_eq_false_iff_not,e,decide_eq_true_iff]
 omega
def chkC (sc:Scope) (N0 N:List Str) (src:List (Option Nat)) (scope:Scope):Bool :=
 decide (scope.kind=.function) && (scope.names.all (fun y=>decide (y.2≠.cell) && (decide (y.2≠.local) || decide (scope.names.lookup y.1=some .local)) && (decide (y.2≠.free) || (decide (sc.names.lookup y.1=some .cell) || decide (sc.names.lookup y.1=some .free)))) &&
  (decide (src.length=N.length) && (List.range src.length).all fun i=>match src[i]?,N[i]? with
   | some (some j),some x=>decide (N0[j]?=some x) && (decide (scope.names.lookup x=some .free) && (decide (sc.names.lookup x=some .cell) || decide (sc.names.lookup x=some .free)))
   | _,_=>true))
theorem kG (sc:Scope) (N0:List Str) (hs:X.env.scope=sc) (hN:X.N=N0) (h:chkC sc N0 N src scope=true):bM X N src scope:=by
 unfold chkC at h
 simp only [zL,yp,zZ,Bool.or_eq_true] at h
 obtain⟨h1,h2,h3,h4⟩:=h
 refine⟨h1,fun y hy=>(h2 y hy).1.1,fun y hy e=>?_,fun y hy e=>?_,h3,fun i j x e1 e2=>?_⟩
 ·rcases (h2 y hy).1.2 with z | z
  ·exact absurd e z
  ·exact z
 ·rcases (h2 y hy).2 with z | z
  ·exact absurd e z
  ·show X.env.scope.names.lookup y.1=some .cell∨X.env.scope.names.lookup y.1=some .free
   rw[hs];exact z
 ·have hi:i<src.length:=(zo.mp e1).1
  have q:=h4 i (zS.mpr hi)
  rw[e1,e2] at q
  simp only [zL,yp,Bool.or_eq_true] at q
  refine⟨by rw[hN];exact q.1,q.2.1,?_⟩
  unfold Ox
  rw[hs]
  exact .inr q.2.2
section
variable {X:Cx}
end
theorem Bj (h0:0≤i) (h1:i<l.length):∃ v,lK l i=some v∧l[i.toNat]?=some v:=by
 obtain⟨j,rfl⟩:=Int.eq_ofNat_of_zero_le h0
 have hj:j<l.length:=by omega
 exact⟨l[j],fj (by simp [hj]),by simp [hj]⟩
theorem ck {c:Bool}{A B:Prop} (h:c=true→A) (h':c=false→B):if c=true then A else B:=by
 cases c with
 | true=>exact h rfl
 | false=>exact h' rfl
theorem nt (h:(!b)=true):b=false:=by cases b <;> simp_all
theorem nf (h:(!b)=false):b=true:=by cases b <;> simp_all
def xY:Kd→Bool | .int=>true | .bl=>true | _=>false
def tZ:Kd→Bool | .bl=>true | _=>false
def xZ:Kd→Bool | .str=>true | _=>false
def pN:Kd→Bool | .tup=>true | _=>false
def IE:Kd→Bool | .lst=>true | _=>false
theorem IF:tY "int" = some xY:=if_pos rfl
theorem vG:tY "bool" = some tZ:=(if_neg (by decide)).trans (if_pos rfl)
theorem cZ:tY "str" = some xZ:=(if_neg (by decide)).trans ((if_neg (by decide)).trans (if_pos rfl))
theorem bt:tY "tuple" = some pN:=(if_neg (by decide)).trans ((if_neg (by decide)).trans ((if_neg (by decide)).trans (if_pos rfl)))
theorem len_pos {z:Str} (h:1≤z.cps.size):∃ c r,z.cps.toList=c :: r:=by
 cases e:z.cps.toList with
 | nil =>
  have:z.cps.toList.length=0:=by rw[e];rfl
  rw[zO] at this
  omega
 | cons c r=>exact⟨c,r,rfl⟩
theorem Zi (e:l=c :: r):lK l 0=some c:=by
 have:l[0]?=some c:=by rw[e];rfl
 exact fj (j:=0) this
def isPlain:Expr→Bool
 | .Starred _ _=>false
 | _=>true
theorem x5 (h:isPlain e=true):starEach (e :: es) env=(false,eval e env) :: starEach es env:=by
 cases e <;> first
  | rfl
  | exact absurd h zd
theorem U4 (ha:PE X e te) (hr:PA X es t) (hp:isPlain e=true:=by rfl):PA X (e :: es) (Kl te t):=Ib ha hr (x5 hp)
end L2
namespace HT
open PySem PyProof.Rows
open PySem.SeqAt
open PySem.AutoSeq1 (wpAny_loadPart')
open PySem.MeetsSeq PySem.MeetsSeq2 PySem.MeetsSeq3
end HT
namespace L2
open PySem PySem.Spec PyProof.Rows
section
variable {X:Cx}
end
section
variable {X:Cx}{K:PySem.W.Frag}
end
theorem bh.get (x:bh P w H h a o):∃ u,h.get? a=some u:=by
 cases o with
 | lst xs=>obtain⟨_,_,_,_,e⟩:=x;exact⟨_,e⟩
 | tup xs=>obtain⟨_,_,_,ob,e,_⟩:=x;exact⟨_,e⟩
 | dK kvs=>obtain⟨_,_,_,_,o,_,_,e,_⟩:=x;exact⟨_,e⟩
 | dT kvs=>exact False.elim x
 | set S n=>obtain⟨o,_,_,_,e,_⟩:=x;exact⟨_,e⟩
 | ins C dx fs=>obtain⟨_,_,_,e,_⟩:=x;exact⟨_,e⟩
 | own y=>obtain⟨_,e⟩:=x;exact⟨_,e⟩
 | xd fs=>obtain⟨_,⟨_,_,_,e,_⟩,_⟩:=x;exact⟨_,e⟩
 | Sb lo hi=>obtain⟨_,_,_,e⟩:=x;exact⟨_,e⟩
 | kB ob u=>obtain⟨e,_⟩:=x;exact⟨_,e⟩
 | oR ps=>exact⟨_,show h.get? a=some _ from x⟩
 | met f y=>exact⟨_,show h.get? a=some _ from x⟩
 | ext φ=>obtain⟨_,e,_⟩:=x;exact e
structure U5 (P:Program) (w:World) (outer:List Env) (H H':Hp) (h0:Heap) (a:Addr) (cls a0:Value) (B h:Heap):Prop where
 fl:Heap.FlyingW B outer a cls a0 h
 aM:kC P w H' B
 keep:∀ b o,h0.get? b=some o→H b=none→b∉om outer→B.get? b=some o
 there:∀ b o,h0.get? b=some o→b∉om outer→∃ o',B.get? b=some o'
 slot:∀ b o,h0.get? b=some o→b∈om outer→∃ sl,h.get? b=some { o with slots:=sl }
 free:∀ b o,h0.get? b=some o→H b=none→H' b=none
 lI:∀ b xs,H b=some (.tup xs)→H' b=some (.tup xs)
 kD:∀ b o u,H b=some (.kB o u)→H' b=some (.kB o u)
 kE:∀ b ps,H b=some (.oR ps)→∃ more,H' b=some (.oR (ps++more))
section
variable {P:Program}{w:World}{outer:List Env}{H H':Hp}{h0:Heap}{a:Addr}{cls a0:Value}{B h h2:Heap}
end
def g6 (P:Program) (w:World):xN:=fun outer H s E e s' =>
 ∃ a cls a0 B H',e=.ref a∧s'.os=s.os∧AllBare s'.gens∧U5 P w outer H H' s.heap a cls a0 B s'.heap∧E cls none H'
structure dk (X:Cx) (E:XK):Prop where
 ex:X.ex=[]
 st:X.stack=X.env :: X.outer
 fr:X.env.frame=some X.env.locals
 xe:∀ e s',wpAny (model X.prog X.w) X.A (leaving X.env e) (fun _ xO=>g6 X.prog X.w X.outer X.tN X.dj E e xO) (fun e' xO=>g6 X.prog X.w X.outer X.tN X.dj E e' xO) s'→X.xe e s'
theorem sL {P:Program}{w:World}{K:PySem.W.Frag}{mg:Str→Option Value}{base:Heap}{N:List Str}{qual:Str}{scope:Scope}{f:Addr}{cd:Value}{A:Around}{outer:List Env}{s:Shared}{H:Hp}{E:XK} :
  dk (kF (g6 P w) P w K mg base N qual scope f cd A outer s H E) E:=⟨rfl,rfl,rfl,fun _ _ h=>h⟩
section
variable {X:Cx}{pins:List (Addr×Obj)}{σ:St}{H H':Hp}{s:Shared}{E E':XK}
theorem dk.mem (L:dk X E):b∈om X.stack↔b=X.env.locals∨b∈X.fs:=by
 unfold Cx.fs om
 rw[L.st,List.filterMap_cons,L.fr]
 exact zf
theorem dk.B_ (L:dk X E) (I:Inv X pins σ H s) (e:X.dj.heap.get? b=some o) (h:b∉X.fs):b∉om X.stack:=fun z=>by
 rcases L.mem.mp z with z | z
 ·have:=zq e
  have h2:=I.ok.above
  rw[z] at this
  exact absurd (zk this h2) (yx _)
 ·exact h z
theorem dk.Zj (L:dk X E) (I:Inv X pins σ H s) (F:U5 X.prog X.w X.stack H H' s.heap a cls a0 B h) (f2:Heap.FlyingW B X.outer a cls a0 h2) (u2:h.UpToSlots h2) :
  U5 X.prog X.w X.outer X.tN H' X.dj.heap a cls a0 B h2 where
 fl:=f2
 aM:=F.aM
 keep:=fun b o e n hf=>F.keep b o (I.base.keep b o e n hf (by rw[L.ex];simp)) (I.base.free b o e n (by rw[L.ex];simp)) (L.B_ I e hf)
 there:=fun b o e hf=>by
  obtain⟨o',q⟩:=I.base.there b o e (by rw[L.ex];simp)
  exact F.there b o' q (L.B_ I e hf)
 slot:=fun b o e hf=>by
  obtain⟨sl,q⟩:=I.base.slot b o e (I.ok.LG b hf) hf (by rw[L.ex];simp)
  obtain⟨sl1,q1⟩:=F.slot b _ q (L.mem.mpr (.inr hf))
  obtain⟨_,o2,q2,hd⟩:=F.fl.2.2.1.mem (L.mem.mpr (.inr hf))
  obtain⟨Hu,q3⟩:=u2 b o2 q2 hd
  rw[q1] at q2;cases q2
  exact⟨Hu,q3⟩
 free:=fun b o e n=>by
  obtain⟨o',q⟩:=I.base.there b o e (by rw[L.ex];simp)
  exact F.free b o' q (I.base.free b o e n (by rw[L.ex];simp))
 lI:=fun b xs e=>F.lI b xs (I.base.lI b xs e)
 kD:=fun b o u e=>F.kD b o u (I.base.kD b o u e)
 kE:=fun b ps e=>by
  obtain⟨m1,q1⟩:=I.base.kE b ps e
  obtain⟨m2,q2⟩:=F.kE b _ q1
  exact⟨m1++m2,by rw[q2,Array.append_assoc]⟩
theorem Qe (L:dk X E) (hE:∀ c d H',E' c d H'→E c d H'):Passes (g6 X.prog X.w) X E':=fun pins σ H s e s' I h=>by
 obtain⟨a,cls,a0,B,H',rfl,os,bare,F,q⟩:=h
 refine L.xe _ _ ?_
 have MR:X.A.frames=some (X.env :: X.outer):=by rw[I.ok.frames,L.st]
 have fl:Heap.FlyingW B (X.env :: X.outer) a cls a0 s'.heap:=by rw[← L.st];exact F.fl
 exact wpAny_leaves_onW MR L.fr fl fun h2 f2 u2=>⟨a,cls,a0,B,H',rfl,os.trans I.os,bare,L.Zj I F f2 u2,hE _ _ _ q⟩
theorem MS (I:Inv X pins σ H s):kC X.prog X.w H (hideAll s.heap (om X.stack)):=fun a o e =>
 (I.aM a o e).oj (fun b u hb q=>hideAll_get _ q fun z=>by
  have n:=I.oS b z
  rcases hb with rfl | hb
  ·rw[e] at n;cases n
  ·rw[hb] at n;cases n) (fun _ q=>q) fun _ _ q=>q
theorem nV (L:dk X E) (I:Inv X pins σ H s) (hx:Heap.MadeExcOf s.heap h' a cls args) (hE:E cls none H):X.xe (.ref a) { s with heap:=h' }:=by
 refine L.xe _ _ ?_
 have MR:X.A.frames=some (X.env :: X.outer):=by rw[I.ok.frames,L.st]
 have Eg:∀ env∈X.stack,∀ b,env.frame=some b→b∈om X.stack:=fun env he b hb=>List.mem_filterMap.mpr ⟨env,he,hb⟩
 have ff:s.heap.FunFrames (hideAll s.heap (om X.stack)) (X.env :: X.outer):=by rw[← L.st];exact PySem.W.funFrames_hide I.stack Eg
 refine wpAny_leaves_madeW (base:=hideAll s.heap (om X.stack)) (h:=s.heap) MR L.fr (fun b o q=>of_hideAll _ q) ff hx fun h2 t x1 x2 x3 x4=>?_
 refine⟨a,cls,.ref t,_,H,rfl,I.os,I.bare,⟨x1,MS I,fun b o e n hf=>?_,fun b o e hf=>?_,fun b o e hf=>?_,fun b o e n=>I.base.free b o e n (by rw[L.ex];simp),I.base.lI,I.base.kD,I.base.kE⟩,hE⟩
 ·exact hideAll_get _ (I.base.keep b o e n hf (by rw[L.ex];simp)) (L.B_ I e hf)
 ·obtain⟨o',q⟩:=I.base.there b o e (by rw[L.ex];simp)
  exact⟨o',hideAll_get _ q (L.B_ I e hf)⟩
 ·obtain⟨sl,q⟩:=I.base.slot b o e (I.ok.LG b hf) hf (by rw[L.ex];simp)
  obtain⟨_,o2,q2,hd⟩:=I.oo.mem hf
  obtain⟨Hu,q3⟩:=x4 b o2 (hx.keeps _ _ q2) hd
  rw[q] at q2;cases q2
  exact⟨Hu,q3⟩
end
abbrev pO:List Value:=[.type "ValueError",.type "Exception",.type "BaseException",.type "object"]
structure XC (K:PySem.W.Frag) (C:Addr):Prop where
 q:excIn K C pO "ValueError.__new__" = true
def U6 (h:Heap) (C:Addr) (bm:List Value):Prop:=∃ N nm q bs hdct sn sub ab col dd k0 k1 k2 k3 k5 mN,
 h.get? C=some (excClassObj nm q C N bs bm hdct sn sub ab col dd k0 k1 k2 k3 k5 "ValueError.__new__")∧h.Ns N mN∧mN "__init__" = none∧OwnTail h pO bm
theorem XC.at {K:PySem.W.Frag}{C:Addr}{h:Heap} (x:XC K C) (X:K.In h):∃ bm,U6 h C bm:=by
 have q:=x.q
 unfold excIn at q
 split at q
 ·rename_i dd cd sl ho
  split at q
  ·rename_i C' bm' k0 k1 k2 k3 n k5 hm hs
   simp only [zL,beq_iff_eq,Bool.not_eq_true'] at q
   obtain⟨⟨⟨⟨⟨q1,q2⟩,Qf⟩,ht⟩,aM⟩,Sy⟩:=q
   subst q1;subst q2
   obtain⟨nm,bs,mro,ns,qn,hd,sn,sub,ab,col,del⟩:=cd
   dsimp only at hm Qf aM Sy
   subst hm;subst Qf
   obtain⟨sl⟩:=sl
   dsimp only at hs
   subst hs
   exact⟨bm',ns,nm,qn,bs,hd,sn,sub,ab,col,dd,k0,k1,k2,k3,k5,_,X _ _ ho,.of_isNs (PySem.W.isNs_of_in X aM),PySem.W.nsMap_none_of_in X aM Sy,PySem.W.tail_of_in X ht⟩
  ·cases q
 ·cases q
section
variable {X:Cx}{C D:Addr}{bmD:List Value}{x:Str}{np aS pos:Pos}{e:Expr}{es:List Expr}{t:TA}{E:XK}
end
def U7 (a:Addr) (cls:Value):HO:=.ext fun h=>∃ o vs,h.get? a=some o∧o.cls=cls∧o.data=.fields vs
section
variable {P:Program}{w:World}{outer:List Env}{H H':Hp}{h0:Heap}{a:Addr}{cls a0:Value}{B h:Heap}
end
abbrev TX:=(St→XK)→TS
section
variable {X:Cx}{CX:xN}{k:Nat}{f C:Addr}{fd:FuncData}{ps:List Str}{sp:Sp}{oq:List V}{ds:List Value}{E:XK}{x m:Str}{p pos apos:Pos}{e o:Expr}{es:List Expr}{ta:TE}{t:TA}
end
section
variable {X:Cx}{e:Expr}{pos:Pos}{te:XK→TE}
end
section
variable {X:Cx}{pins:List (Addr×Obj)}{σ:St}{H:Hp}{s:Shared}
end
def Ends.less (D:Ends) (i:Nat):Ends:={ nx:=fun σ H=>D.nx (σ.set i none) H,rt:=D.rt,bk:=fun σ H=>D.bk (σ.set i none) H,ct:=fun σ H=>D.ct (σ.set i none) H }
section
variable {X:Cx}{i:Nat}{n x:Str}{C0:Addr}{body Qg:List Stmt}{U8:Stmt}{np EX pos:Pos}{tb:TX}{ts:TS}
end
section
variable {P:Program}{w:World}{K:PySem.W.Frag}{mg:Str→Option Value}{base:Heap}
end
structure XA (K:PySem.W.Frag) (C:Addr):Prop where
 ga:findIn K (.ref C) "__getattribute__" = some (some (.builtin "BaseException.__getattribute__"))
 gh:findIn K (.ref C) "__getattr__" = some none
 cl:findIn K (.ref C) "__class__" = some (some (.builtin "object.__class__"))
section
variable {prog:Program}{w:World}{A:Around}{E:Value→Shared→Prop}{h:Heap}{g:Array GenState}{d:Drawn}{t:Nat}{os:OsState}{a:Addr}{o:Obj}{C:Addr}{bm:List Value}{K:PySem.W.Frag}
end
section
variable {X:Cx}
end
section
variable {X:Cx}
theorem Kv (L:dk X E):Passes (g6 X.prog X.w) X E:=Qe L fun _ _ _ h=>h
end
def iG (l:List Str):List Str:=l.foldl (fun c x=>if x∈c then c else c++[x]) []
theorem vH (l:List Str) (x:Str):iG (l++[x])=if x∈iG l then iG l else iG l++[x]:=by
 unfold iG
 rw[List.foldl_append]
 rfl
theorem IG:∀ (l:List Str),(iG l).length≤l.length:=fun l=>by
 have all:∀ (r c:List Str),(r.foldl (fun c x=>if x∈c then c else c++[x]) c).length≤c.length+r.length:=by
  intro r
  induction r with
  | nil=>intro c;simp
  | cons x r ih =>
   intro c
   rw[yA]
   refine zG (ih _) ?_
   split <;> simp <;> try omega
 simpa [iG] using all l []
section
variable {prog:Program}{w:World}{A:Around}{R:Result→Shared→Prop}{I:Addr}{fp wr:List Addr}{G:Array GenState→Array GenState→Prop}{n:Nat}{P:Nat→Value→Prop}{St:Nat→Shared→Prop}
theorem EY (W:WalksS prog w A.in1 I fp wr G n P St) (S:Addr) (XF:S∉fp) (xs:List Str) (hx:xs.length=n) (MT:∀ i v,P i v→∃ x t,xs[i]?=some x∧v=.str x t) (hb:n+1<scanBound) :
  ∀ (k i:Nat) (s:Shared),i+k=n→St i s→s.heap.SetOf (strKind prog w) S (fun y=>decide (y∈iG (xs.take i))) (iG (xs.take i)).length →
   (∀ s',Moved (S :: wr) G s s'→s'.heap.SetOf (strKind prog w) S (fun y=>decide (y∈iG xs)) (iG xs).length→R (.ok (.ret .none)) s') →
   codeAny (model prog w) A (.builtin "set.update.loop" ⟨[.ref S,.ref I],[]⟩) R s:=by
 have nw:S∉wr:=fun h=>XF (W.sub _ h)
 have up:∀ b∈wr,b∈S :: wr:=fun b hb=>zh _ hb
 have mv:∀ {i:Nat}{s s':Shared},Moved wr G s s'→s.heap.SetOf (strKind prog w) S (fun y=>decide (y∈iG (xs.take i))) (iG (xs.take i)).length→s'.heap.SetOf (strKind prog w) S (fun y=>decide (y∈iG (xs.take i))) (iG (xs.take i)).length :=
  fun hm ⟨o,es,ep,tb,ho,rest⟩=>⟨o,es,ep,tb,hm.heap S _ nw ho,rest⟩
 intro k
 induction k with
 | zero =>
  intro i s hk xy hS hR
  have e:i=n:=by omega
  subst e
  refine yF F.entry_set_update_loop ?_ ;rw[Around.under_plainId F.plain_set_update_loop _]
  show wpAny _ A.in1 (pyNext (.ref I) >>= _) _ _ s ;refine za (W.done s _ _ xy fun s' hm=>?_)
  show wpAny _ A.in1 (ret Value.none) _ _ s' ;have q:=mv hm hS
  rw[← hx,yB] at q
  exact zi (hR s' (hm.mono up) q)
 | succ k ih =>
  intro i s hk xy hS hR
  have lt:i<n:=by omega
  refine yF F.entry_set_update_loop ?_ ;rw[Around.under_plainId F.plain_set_update_loop _]
  show wpAny _ A.in1 (pyNext (.ref I) >>= _) _ _ s ;refine za (W.item i s _ _ lt xy fun v s' hP MU hm=>?_)
  obtain⟨x,t,ex,rfl⟩:=MT i v hP
  have q:=mv hm hS
  show wpAny _ A.in1 (holding [Value.str x t] (setAdd S (.str x t)) >>= _) _ _ s'
  refine za (yy ?_) ;unfold setAdd ;refine yy ?_
  refine za ((strKind prog w).pyHash (k:=x) (strKind_is _ _ _ _) ?_)
  have room:(iG (xs.take i)).length+1<scanBound:=by have:=IG (xs.take i);rw[ye] at this;omega
  refine wpAny_setAddHashed_of (knd:=strKind prog w) (s:={ s' with toks:=s'.toks+1 }) (strKind_is _ _ _ _) rfl q room fun h' IH q2=>?_
  have tk:xs.take (i+1)=xs.take i++[x]:=by rw[List.take_succ,ex];rfl
  have qi:h'.SetOf (strKind prog w) S (fun y=>decide (y∈iG (xs.take (i+1)))) (iG (xs.take (i+1))).length:=by
   refine SetOf_congr q2 (fun y=>?_) ?_
   ·rw[tk,vH]
    by_cases h:x∈iG (xs.take i)
    ·rw[if_pos h]
     by_cases hy:y=x
     ·subst hy;simp [h]
     ·simp [hy]
    ·rw[if_neg h];simp
   ·rw[tk,vH]
    by_cases h:x∈iG (xs.take i)
    ·rw[if_pos h,if_pos (by simpa using h)]
    ·rw[if_neg h,if_neg (by simpa using h)];simp
  refine zi ⟨plainId_quiet F.plain_set_update_loop _,ih (i+1) _ (by omega) (W.frame _ s' _ _ MU (yI _) fun b hb o e=>?_) qi fun xO MV U9=>?_⟩
  ·rw[IH.2 b (fun h:b=S=>XF (by rw[← h];exact hb))] ;exact e
  ·refine hR xO (Moved.trans W.gtrans ((hm.mono up).then_heap (yI _) fun b o hb e=>?_) MV) U9
   rw[IH.2 b (fun h:b=S=>hb (by rw[h];exact zx))] ;exact e
theorem vI (hh:A.handled=none) (hl:s.heap.IsList l items) (hx:xs.length=items.size)
  (hi:∀ (i:Nat) (v:Value),items[i]?=some v→∃ x t,xs[i]?=some x∧v=.str x t) (hb:items.size+1<scanBound)
  (h:∀ (h':Heap) (tk:Nat),h'.SetOf (strKind prog w) s.heap.objs.size (fun y=>decide (y∈iG xs)) (iG xs).length→(∀ b o,b<s.heap.objs.size→s.heap.get? b=some o→h'.get? b=some o)→Q (.ref s.heap.objs.size) { s with heap:=h',toks:=tk }) :
  wpAny (model prog w) A (call (.type "set") [.ref l]) Q E s:=by
 obtain⟨c,tl,m0⟩:=F.called_set.mro ;have m1:=F.called_set.made ;have m2:=F.called_set.sub
 refine wpAny_call (codeAny_of_tree ?_) ;show wpAny _ _ (callAny (.type "set") _) _ _ _
 refine zi ⟨Code.quiet_builtin _ (by decide +kernel),yF F.entry_type_call ?_⟩ ;rw[Around.under_plain (weight_type_call_type "set" [.ref l] []) rfl]
 have m3:=F.called_set.notType ;have m4:=F.called_set.canCreate ;have m5:=F.typeCall_set_1 (.ref l)
 repeat (any_goals (first | assumption | wp_step))
 refine yJ (code_set_new_1 (.ref l) (E:=E) (Q₁:=fun ob s1=>∃ led:Bool,ob=.ref s.heap.objs.size∧s1={ s with heap:=s.heap.push { cls:=.type "set",dict:=none,data:=.set #[] 0 (.fresh 0 0 led) } }) fun led=>⟨led,rfl,rfl⟩) fun r s1 hr=>?_
 cases r with
 | error e=>exact hr
 | ok fl =>
  cases fl with
  | ret ob =>
   obtain⟨led,rfl,rfl⟩:=hr
   generalize hO:({ cls:=.type "set",dict:=none,data:=.set #[] 0 (.fresh 0 0 led) } : Obj)=O
   have gS:(s.heap.push O).get? s.heap.objs.size=some O:=zm _ (by rw[← hO];rfl)
   have tS:Shared.TypeIs { s with heap:=s.heap.push O } (.ref s.heap.objs.size) "set" := ⟨_,gS,by rw[← hO]⟩
   have i1:=F.called_set.init.lookup ;have i2:=F.called_set.init.bind (.ref s.heap.objs.size)
   repeat (any_goals (first | assumption | wp_step))
   refine yJ (codeAny_call_builtin (R:=wants (fun r s2=>r=.none∧∃ h' tk,s2={ s with heap:=h',toks:=tk }∧h'.SetOf (strKind prog w) s.heap.objs.size (fun y=>decide (y∈iG xs)) (iG xs).length∧(∀ b o,b<s.heap.objs.size→s.heap.get? b=some o→h'.get? b=some o)) E)
    F.called_set.init.plain F.entry_set_init (check_set_init_1 tS ?_)) fun r2 s2 U_=>?_
   ·obtain⟨ol,gl,cl,nl,dl⟩:=hl
    obtain⟨Zk,Qh,XG,MW⟩:=ol
    simp only at cl dl ;subst cl ;subst dl
    have Qi:(s.heap.push O).get? l=some { cls:=.type "list",dict:=Qh,data:=.seq items nl,slots:=MW }:=zc _ gl
    have j1:=F.sub_list_set ;have j2:=F.sub_list_frozenset
    have j3:(Value.type "list" == Value.type "dict")=false:=by decide
    have il:(s.heap.push O).IsList l items:=⟨_,Qi,rfl,nl,rfl⟩
    subst hO
    unfold Builtin.«set.__init__» noKeywords Builtin.Frozenset.updateFrom ;generalize Zl:pyIter=PI
    wp_walk
    subst Zl ;refine wpAny_pyIter_list il ?_ ;refine za (wpAny_runValue ?_)
    have ll:l<s.heap.objs.size:=zq gl
    have h3:A.in1.in1.in1.handled=none:=by simp [hh]
    have ne:l≠(s.heap.push { cls:=.type "set",dict:=none,data:=.set #[] 0 (.fresh 0 0 led) }).objs.size:=by rw[yj] ;exact zw (Nat.lt_succ_of_lt ll)
    have nf:s.heap.objs.size∉[(s.heap.push { cls:=.type "set",dict:=none,data:=.set #[] 0 (.fresh 0 0 led) }).objs.size,l]:=by
     rw[yj] ;simp only [zf,zH,zF,or_false,not_or] ;exact⟨zw (Nat.lt_succ_self _),yi ll⟩
    refine EY ((Walks.list h3 _ l ne items).toS) s.heap.objs.size nf xs hx hi hb (items.size - 0) 0 _ (by omega) ⟨⟨_,zm _ rfl,rfl,rfl⟩,(il.push _)⟩ ?hS0 ?hR
    case hS0 =>
     have gg:=zc { cls:=.type "list_iterator",data:=.fields #[.ref l,.int 0 0] } gS
     exact SetOf_congr ((setObjOf_fresh (knd:=strKind prog w) led).setOf gg (by unfold scanBound;omega)) (fun _=>rfl) rfl
    case hR =>
     intro s' hm q
     obtain⟨h',g',d',OG,PL⟩:=s'
     have eg:g'=s.gens:=hm.gens ;have ed:d'=s.drawn:=hm.drawn ;have eo:PL=s.os:=hm.os
     subst eg ;subst ed ;subst eo
     show wpAny _ _ _ _ _ _ ;refine zi ?_ ;show wpAny _ _ (ret Value.none) _ _ _
     refine zi ⟨rfl,h',OG,rfl,q,fun b o hb e=>?_⟩
     have b2:b≠(s.heap.push { cls:=.type "set",dict:=none,data:=.set #[] 0 (.fresh 0 0 led) }).objs.size:=by rw[yj] ;exact zw (Nat.lt_succ_of_lt hb)
     refine hm.heap b o ?_ (zc _ (zc _ e))
     simp only [zf,zH,zF,or_false,not_or] ;exact⟨zw hb,b2⟩
   ·cases r2 with
    | error e=>exact U_
    | ok f2 =>
     cases f2 with
     | ret r =>
      obtain⟨rfl,h',tk,rfl,q,k'⟩:=U_
      repeat (any_goals (first | assumption | wp_step))
      exact h _ _ q k'
     | _=>exact U_.elim
  | _=>exact hr.elim
end
def MX (P:Program) (w:World) (a:Addr) (xs:List Str):HO:=.ext fun h=>h.SetOf (strKind P w) a (fun y=>decide (y∈iG xs)) (iG xs).length
theorem II (q:h.SetOf (strKind P w) a (fun y=>decide (y∈iG xs)) (iG xs).length):bh P w H h a (MX P w a xs):=by
 obtain⟨o,es,ep,t,ho,rest⟩:=id q
 exact⟨q,⟨o,ho⟩,by rintro h1 h2 ⟨o,es,ep,t,ho,rest⟩ k;exact⟨o,es,ep,t,k _ ho,rest⟩⟩
theorem vJ:∀ {xs:List Str}{ax:List Value},Vals (xs.map V.str) ax→∀ (i:Nat) (v:Value),ax[i]?=some v→∃ x t,xs[i]?=some x∧v=.str x t
 | [],_,.nil,i,v,e=>by simp at e
 | x :: xs,_,.cons r rs,0,v,e=>by
  obtain⟨t,q⟩:=r
  simp at e
  exact⟨x,t,rfl,by rw[← e];exact q⟩
 | x :: xs,_,.cons r rs,i+1,v,e=>by
  obtain⟨y,t,e1,e2⟩:=vJ rs i v (by simpa using e)
  exact⟨y,t,by simpa using e1,e2⟩
section
variable {X:Cx}
theorem CA {P:Program}{w:World}{K:PySem.W.Frag} (hP:X.prog=P) (hw:X.w=w) (hK:X.K=K) (hc:X.calm=true) :
  fG X (.type "set") (fun vs H Q=>∃ p xs,vs=[.ref p]∧jH K H p (xs.map V.str)∧xs.length<4000∧∀ l,H l=none→Q (.ref l) (upd H l (MX P w l xs))):=by
 subst hP;subst hw;subst hK
 intro pins s σ H vs us Q I r h
 obtain⟨p,xs,rfl,hq,hz,q⟩:=h
 obtain⟨u,rfl,rx⟩:=vals1 r
 cases rx
 obtain⟨ax,r',pl,_⟩:=I.list hq
 have hlen:xs.length=ax.toArray.size:=by have:=r'.length;simpa using this
 refine vI (I.ok.hd hc) pl.isList hlen (fun i v e=>vJ r' i v (by simpa using e)) (by rw[← hlen];unfold scanBound;omega) fun h' tk qs kp=>?_
 refine⟨.ref s.heap.objs.size,_,I.laid (t':=tk) (fun b o e=>kp b o (zq e) e) (zl _) (II qs),rfl,q _ (I.aM.fresh (zl _))⟩
theorem CB (hP:X.prog=P) (hw:X.w=w):fG X (.builtin "len") (fun vs H Q=>∃ a xs,vs=[.ref a]∧H a=some (MX P w a xs)∧Q (.int (iG xs).length) H):=by
 subst hP;subst hw
 intro pins s σ H vs us Q I r h
 obtain⟨a,xs,rfl,ha,q⟩:=h
 obtain⟨u,rfl,rx⟩:=vals1 r
 cases rx
 obtain⟨⟨o,es,ep,t,ho,hex,hd,OH,MY,hb,hf,hn⟩,_⟩:=I.aM a _ ha
 refine call_len_set ho hex hd hf (by unfold scanBound at hb;omega) ?_
 exact⟨.int (iG xs).length,H,I.tok _,⟨_,by rw[hn]⟩,q⟩
end
theorem sM (l:List Str):(iG l).length=l.length↔l.Nodup:=by
 have all:∀ (r c:List Str),c.Nodup→((r.foldl (fun c x=>if x∈c then c else c++[x]) c).length=c.length+r.length↔(c++r).Nodup):=by
  intro r
  induction r with
  | nil=>intro c hc;simpa using hc
  | cons x r ih =>
   intro c hc
   rw[yA]
   by_cases h:x∈c
   ·rw[if_pos h]
    have le:(r.foldl (fun c x=>if x∈c then c else c++[x]) c).length≤c.length+r.length:=by
     have all2:∀ (r c:List Str),(r.foldl (fun c x=>if x∈c then c else c++[x]) c).length≤c.length+r.length:=by
      intro r
      induction r with
      | nil=>intro c;simp
      | cons x r ih=>intro c;rw[yA];refine zG (ih _) ?_;split <;> simp <;> try omega
     exact all2 r c
    refine⟨fun e=>by simp at e;omega,fun e=>?_⟩
    exact absurd rfl ((List.nodup_append.mp e).2.2 x h x (by simp))
   ·rw[if_neg h]
    have LJ:(c++[x]).Nodup:=lO hc h
    have:=ih (c++[x]) LJ
    simp only [zy,zM,List.length_nil,List.append_assoc,List.singleton_append] at this ⊢
    rw[← this]
    constructor <;> intro e <;> omega
 simpa [iG] using all l [] List.nodup_nil
theorem iH:entryFor table "dict.update.loop" = some Builtin.«dict.update.loop»:=entryFor_of_tree (by kernel_rfl)
theorem c_:plainId "dict.update.loop" = true:=by decide +kernel
theorem rG:typeLookup (.type "tuple") "keys" = pure none:=by rw[typeLookup_type,builtinLookup_eq_fast];kernel_rfl
section
variable {prog:Program}{w:World}{A:Around}{E:Value→Shared→Prop}{s:Shared}
theorem rH (hx:s.heap.get? a=some o) (hc:o.cls=.type "tuple") (Qj:o.data=.seq xs k) (hd:o.dict=none) (hA:A.handled=none)
  (h:∀ h' tk,(∀ b ob,s.heap.get? b=some ob→h'.get? b=some ob)→Q none { s with heap:=h',toks:=tk }):wpAny (model prog w) A (getAttr? (.ref a) "keys") Q E s:=by
 obtain⟨c,dw,dat,sl⟩:=o
 simp only at hc Qj hd
 subst hc Qj hd
 obtain⟨hp,g,d,tk,os⟩:=s
 have hT:∀ OG,(⟨hp,g,d,OG,os⟩:Shared).TypeIs (.ref a) "tuple" := fun _=>⟨_,hx,rfl⟩
 have f1:=sub_AttributeError ;have f3:=F.slot_tuple_getattribute.lookup
 have f4:=F.slot_tuple_getattribute.bind (.ref a) ;have f5:=am_tuple_getattr_none
 unfold getAttr? getAttrBy? getAttrBy
 repeat (any_goals (first | assumption | exact hT _ | ((with_reducible show wpAny _ _ (call (Value.builtin "tuple.__getattribute__") _ _) _ _ _);refine call_meets F.slot_tuple_getattribute (hT _) am_entry_tuple_getattribute (F.args_tuple_getattribute_2 _ _) (meets_getattribute_miss_tuple a xs k sl "keys" _ rG (by decide +kernel) (by size_fits)) ⟨hx,hA,fun h' OG e Ql=>?_⟩) | wp_step))
 obtain⟨t',u',he⟩:=Ql.there
 show wpAny _ _ (getattributeRaised _ _ _ _ _ _ _) _ _ _ ;unfold getattributeRaised
 repeat (any_goals (first | assumption | wp_step))
 exact h _ _ Ql.keeps
end
section
variable {prog:Program}{w:World}{A:Around}{R:Result→Shared→Prop}{I:Addr}{fp wr:List Addr}{G:Array GenState→Array GenState→Prop}{n:Nat}{P:Nat→Value→Prop}{St:Nat→Shared→Prop}
theorem CC (W:WalksS prog w A.in1 I fp wr G n P St) (D:Addr) (XH:D∉fp) (kvs:List (Key×Value)) (hx:kvs.length=n) (base:Heap)
  (MT:∀ i v,P i v→∃ (b:Addr) (k:Key) (key val:Value) (o:Obj) (m:Nat),kvs[i]?=some (k,val)∧v=.ref b∧(aE prog w).is k key=true∧base.get? b=some o∧o.cls=.type "tuple" ∧ o.data=.seq #[key,val] m∧b≠D∧b∉wr) (hb:n≤sizeLine) :
  ∀ (k i:Nat) (s:Shared) (c:Int) (t:Tok),i+k=n→St i s→s.heap.DictOf (aE prog w) D (merged [] (kvs.take i))→(∀ b o,base.get? b=some o→b≠D→b∉wr→s.heap.get? b=some o) →
   (∀ s',Moved (D :: wr) G s s'→s'.heap.DictOf (aE prog w) D (merged [] kvs)→R (.ok (.ret .none)) s') →
   codeAny (model prog w) A (.builtin "dict.update.loop" ⟨[.ref D,.ref I,.int c t,.none],[]⟩) R s:=by
 have nw:D∉wr:=fun h=>XH (W.sub _ h)
 have up:∀ b∈wr,b∈D :: wr:=fun b hb=>zh _ hb
 intro k
 induction k with
 | zero =>
  intro i s c t hk xy hS hB hR
  have e:i=n:=by omega
  subst e
  refine yF iH ?_ ;rw[Around.under_plainId c_ _]
  show wpAny _ A.in1 (pyNext (.ref I) >>= _) _ _ s ;refine za (W.done s _ _ xy fun s' hm=>?_)
  show wpAny _ A.in1 (Builtin.Dict.addKeywords D [] >>= _) _ _ s'
  have q:s'.heap.DictOf (aE prog w) D (merged [] (kvs.take i)):=by
   obtain⟨o,es,ep,ho,rest⟩:=hS
   exact⟨o,es,ep,hm.heap D _ nw ho,rest⟩
  rw[← hx,yB] at q
  exact za (zi (zi (hR s' (hm.mono up) q)))
 | succ k ih =>
  intro i s c t hk xy hS hB hR
  have lt:i<n:=by omega
  refine yF iH ?_ ;rw[Around.under_plainId c_ _]
  show wpAny _ A.in1 (pyNext (.ref I) >>= _) _ _ s ;refine za (W.item i s _ _ lt xy fun v s' hP MU hm=>?_)
  obtain⟨b,ky,key,val,o,m,ek,rfl,Mf,ho,hc,hd,Zm,XI⟩:=MT i v hP
  have q:s'.heap.DictOf (aE prog w) D (merged [] (kvs.take i)):=by
   obtain⟨o,es,ep,ho,rest⟩:=hS
   exact⟨o,es,ep,hm.heap D _ nw ho,rest⟩
  have Qm:s'.heap.get? b=some o:=hm.heap b o XI (hB b o ho Zm XI)
  have room:(merged [] (kvs.take i)).length≤sizeLine:=by have:=merged_length_le ([]:List (Key×Value)) (kvs.take i);rw[ye] at this;simp at this;omega
  have tk:merged [] (kvs.take (i+1))=stored (merged [] (kvs.take i)) ky val:=merged_take_succ [] kvs i (ky,val) ek
  refine za (yy (za (wpAny_tryCatch ?_)))
  unfold Builtin.Dict.pairItems
  refine za (wpAny_typeOf (T := "tuple") ⟨o,Qm,hc⟩ ?_)
  show wpAny _ A.in1 (seqItems? (.ref b) >>= _) _ _ s'
  refine za (yH Qm hd (zi ?_))
  show wpAny _ A.in1 (holding [key,val] (dictSet D key val)) _ _ s'
  refine yy (wpAny_dictSet_pairs Mf q (fun h' q2 IH=>?_) room)
  rw[← tk] at q2
  refine zi ⟨plainId_quiet c_ _,ih (i+1) _ _ _ (by omega) (W.frame _ s' _ _ MU (yI _) fun b hb o e=>?_) q2 (fun b o e h1 h2=>?_) fun xO MV U9=>?_⟩
  ·rw[IH.2 b (fun h:b=D=>XH (by rw[← h];exact hb))] ;exact e
  ·rw[IH.2 b h1] ;exact hm.heap b o h2 (hB b o e h1 h2)
  ·refine hR xO (Moved.trans W.gtrans ((hm.mono up).then_heap (yI _) fun b o hb e=>?_) MV) U9
   rw[IH.2 b (fun h:b=D=>hb (by rw[h];exact zx))] ;exact e
theorem rJ (hh:A.handled=none) (gl:s.heap.get? l=some ol) (cl:ol.cls=.type "tuple") (dl:ol.data=.seq items m) (nl:ol.dict=none) (hx:kvs.length=items.size)
  (hi:∀ (i:Nat) (v:Value),items[i]?=some v→∃ (b:Addr) (k:Key) (key val:Value) (o:Obj) (m:Nat),kvs[i]?=some (k,val)∧v=.ref b∧(aE prog w).is k key=true∧s.heap.get? b=some o∧o.cls=.type "tuple" ∧ o.data=.seq #[key,val] m) (hb:items.size≤sizeLine)
  (h:∀ (h':Heap) (tk:Nat),h'.DictOf (aE prog w) s.heap.objs.size (merged [] kvs)→(∀ b o,s.heap.get? b=some o→h'.get? b=some o)→Q (.ref s.heap.objs.size) { s with heap:=h',toks:=tk }) :
  wpAny (model prog w) A (call (.type "dict") [.ref l]) Q E s:=by
 refine callType_codes (Q₁:=fun obj bb=>obj=.ref s.heap.objs.size∧bb={ s with heap:=s.heap.push { cls:=.type "dict",data:=.dict #[] } }) F.kt_called_dict (F.kt_typeCall_dict_1 _) F.entry_dict_init (kt_code_dict_new _ ⟨rfl,rfl⟩) ?_
 rintro obj bb ⟨rfl,rfl⟩
 have MZ:(s.heap.push { cls:=.type "dict",data:=.dict #[] }).DictOf (aE prog w) s.heap.objs.size []:=Heap.DictOf.new s.heap
 have Qi:(s.heap.push { cls:=.type "dict",data:=.dict #[] }).get? l=some ol:=zc _ gl
 refine⟨MZ.typeIs,F.args_dict_init_2 _ _,?_⟩
 unfold Builtin.«dict.__init__»
 refine za ?_
 unfold Builtin.Dict.selfAndRest
 refine za (wpAny_notOrdered_dict MZ.typeIs ?_) ;show wpAny _ _ (pure (s.heap.objs.size,[Value.ref l])) _ _ _
 refine zi ?_ ;show wpAny _ _ (Builtin.Dict.updateFrom "dict.__init__" s.heap.objs.size (.ref l) [] .none) _ _ _
 unfold Builtin.Dict.updateFrom
 refine za (wpAny_typeOf (T := "tuple") ⟨ol,Qi,cl⟩ ?_) ;rw[if_pos (by decide)]
 have h3:A.in1.in1.handled=none:=by simp [hh]
 refine za (rH Qi cl dl nl h3 fun h1 Zn Sz=>?_)
 have g1:h1.get? l=some ol:=Sz _ _ Qi
 have d1:h1.DictOf (aE prog w) s.heap.objs.size []:=by
  obtain⟨o,es,ep,ho,rest⟩:=MZ
  exact⟨o,es,ep,Sz _ _ ho,rest⟩
 have lD:s.heap.objs.size<h1.objs.size:=by obtain⟨o,es,ep,ho,rest⟩:=d1;exact zq ho
 have ll:l<s.heap.objs.size:=zq gl
 show wpAny _ _ (rule _ >>= _) _ _ _ ;refine za (wpAny_rule ?_)
 have XJ:h1.IsTuple l items:=⟨ol,g1,cl,m,dl⟩
 refine za (wpAny_pyIter_tuple (s:=⟨h1,s.gens,s.drawn,Zn,s.os⟩) XJ ?_)
 have ne:l≠h1.objs.size:=zw (Nat.lt_trans ll lD)
 have nf:s.heap.objs.size∉[h1.objs.size,l]:=by
  simp only [zf,zH,zF,or_false,not_or] ;exact⟨zw lD,yi ll⟩
 refine zi ⟨plainId_quiet c_ _,?_⟩
 refine CC ((Walks.tuple h3 _ l ne items).toS) s.heap.objs.size nf kvs hx s.heap (fun i v e=>?_) hb (items.size - 0) 0 _ _ _ (by omega) ⟨⟨_,zm _ rfl,rfl,rfl⟩,XJ.push _⟩ ?hS0 ?hB ?hR
 ·obtain⟨b,k,key,val,o,m',e1,e2,e3,e4,e5,e6⟩:=hi i v e
  have lb:=zq e4
  exact⟨b,k,key,val,o,m',e1,e2,e3,e4,e5,e6,zw lb,by simp;exact zw (Nat.lt_trans lb lD)⟩
 case hS0=>exact d1.push _
 case hB=>exact fun b o e CD Va=>zc _ (Sz _ _ (zc _ e))
 case hR =>
  intro s' hm q
  obtain⟨h',g',d',OG,PL⟩:=s'
  have eg:g'=s.gens:=hm.gens ;have ed:d'=s.drawn:=hm.drawn ;have eo:PL=s.os:=hm.os
  subst eg ;subst ed ;subst eo
  refine⟨rfl,h h' OG q fun b o e=>?_⟩
  have lb:=zq e
  refine hm.heap b o ?_ (zc _ (Sz _ _ (zc _ e)))
  simp only [zf,zH,zF,or_false,not_or] ;exact⟨zw lb,zw (Nat.lt_trans lb lD)⟩
end
def Bk (l:List (Str×V)):List (Key×V):=l.foldl (fun c p=>putK c (.inr p.1) p.2) []
def XM (H:Hp) (ps:List V) (kvs:List (Str×V)):Prop:=kvs.length=ps.length∧∀ (i:Nat) (x:V) (p:Str×V),ps[i]?=some x→kvs[i]?=some p→∃ b,x=.ref b∧H b=some (.tup [.str p.1,p.2])
section
variable {X:Cx}
theorem x6 (hc:X.calm=true):fG X (.type "dict") (fun vs H Q=>∃ p ps kvs,vs=[.ref p]∧H p=some (.tup ps)∧XM H ps kvs∧∀ l,H l=none→Q (.ref l) (upd H l (.dK (Bk kvs)))):=by
 intro pins s σ H vs us Q I r h
 obtain⟨p,ps,kvs,rfl,hp,⟨hl,hq⟩,q⟩:=h
 obtain⟨u,rfl,rx⟩:=vals1 r
 cases rx
 obtain⟨hz,ax,rv,ol,gl,cl,nl,m,dl⟩:=(show bh X.prog X.w H s.heap p (.tup ps) from I.aM p _ hp)
 have hlen:=rv.length
 -- the pairs as values
 have each:∀ (i:Nat) (x:V) (pr:Str×V),ps[i]?=some x→kvs[i]?=some pr→∃ (b:Addr) (key val:Value) (o:Obj) (m:Nat),ax[i]?=some (.ref b)∧(aE X.prog X.w).is (.inr pr.1) key=true∧RelV pr.2 val∧s.heap.get? b=some o∧o.cls=.type "tuple" ∧ o.data=.seq #[key,val] m:=by
  intro i x pr e1 e2
  obtain⟨b,rfl,hb⟩:=hq i x pr e1 e2
  obtain⟨u,e3,ru⟩:=rv.get e1
  cases ru
  obtain⟨_,it2,r2,o,go,co,no,m2,Zo⟩:=(show bh X.prog X.w H s.heap b (.tup [.str pr.1,pr.2]) from I.aM b _ hb)
  obtain⟨k',v',rfl,⟨tk,rfl⟩,Zp⟩:=r2.two
  exact⟨b,_,v',o,m2,e3,iW _ _ _ _,Zp,go,co,by simpa using Zo⟩
 have kv:∃ vals:List (Key×Value),KV (kvs.map fun p=>((.inr p.1:Key),p.2)) vals∧∀ (i:Nat) (x:V),ps[i]?=some x→∃ (b:Addr) (k:Key) (key val:Value) (o:Obj) (m:Nat),vals[i]?=some (k,val)∧ax[i]?=some (.ref b)∧(aE X.prog X.w).is k key=true∧s.heap.get? b=some o∧o.cls=.type "tuple" ∧ o.data=.seq #[key,val] m:=by
  clear hp q rv dl hz
  induction kvs generalizing ps ax with
  | nil =>
   refine⟨[],.nil,fun i x e=>?_⟩
   have:ps=[]:=List.eq_nil_of_length_eq_zero (by simpa using hl.symm)
   subst this
   simp at e
  | cons pr r ih =>
   cases ps with
   | nil=>simp at hl
   | cons y ys =>
    cases ax with
    | nil=>simp at hlen
    | cons w0 ws =>
     obtain⟨b,key,val,o,m,e1,e2,e3,e4,e5,e6⟩:=each 0 y pr rfl rfl
     obtain⟨vals,k1,k2⟩:=ih ys (by simpa using hl) (fun i x p a b=>hq (i+1) x p (by simpa using a) (by simpa using b)) ws (by simpa using hlen) (fun i x p a b=>by simpa using each (i+1) x p (by simpa using a) (by simpa using b))
     refine⟨(.inr pr.1,val) :: vals,.cons ⟨rfl,e3⟩ k1,fun i x e=>?_⟩
     cases i with
     | zero=>exact⟨b,.inr pr.1,key,val,o,m,rfl,e1,e2,e4,e5,e6⟩
     | succ i=>simpa using k2 i x (by simpa using e)
 obtain⟨vals,XN,Zq⟩:=kv
 have lv:vals.length=ax.length:=by have:=XN.length;rw[zb] at this;omega
 refine rJ (kvs:=vals) (I.ok.hd hc) gl cl dl nl (by simpa using lv) (fun i v e=>?_) (by simp;omega) fun h' tk qs kp=>?_
 ·have e':ax[i]?=some v:=by simpa using e
  have hi:i<ax.length:=(zo.mp e').1
  obtain⟨b,k,key,val,o,m',e1,e2,e3,e4,e5,e6⟩:=Zq i (ps[i]'(by omega)) (zg _)
  rw[e'] at e2
  exact⟨b,k,key,val,o,m',e1,zN e2,e3,e4,e5,e6⟩
 ·have rel:KV (Bk kvs) (merged [] vals):=by
   have all:∀ (l:List (Str×V)) (vl:List (Key×Value)) (c:List (Key×V)) (cv:List (Key×Value)),KV (l.map fun p=>((.inr p.1:Key),p.2)) vl→KV c cv→KV (l.foldl (fun c p=>putK c (.inr p.1) p.2) c) (merged cv vl):=by
    intro l
    induction l with
    | nil=>intro vl c cv h1 h2;cases h1;exact h2
    | cons p r ih =>
     intro vl c cv h1 h2
     cases h1 with
     | @cons _ q _ qs r1 r2 =>
      obtain⟨k,v⟩:=q
      obtain⟨rfl,rv⟩:=r1
      exact ih qs _ _ r2 (h2.put _ rv)
   exact all kvs vals [] [] XN .nil
  have big:=I.big
  refine⟨.ref s.heap.objs.size,_,I.laid (t':=tk) (fun b o e=>kp b o e) (zl _) (o:=.dK (Bk kvs)) ⟨?_,?_,_,rel,qs⟩,rfl,q _ (I.aM.fresh (zl _))⟩
  ·have e1:=rel.length
   have e2:=merged_length_le ([]:List (Key×Value)) vals
   simp at e2
   omega
  ·simp;exact yi big
end
section
variable {X:Cx}
def Qn (K:PySem.W.Frag):R2:=fun x y H Q=>∃ a b xs ys,x=.ref a∧y=.ref b∧iQ K H a xs∧iQ K H b ys∧xs.length+ys.length≤sizeLine ∧
 (xs=[]→Q (.ref b) H)∧(xs≠[]→ys=[]→Q (.ref a) H)∧(xs≠[]→ys≠[]→∀ p,H p=none→Q (.ref p) (upd H p (.tup (xs++ys))))
theorem IJ:fZ X (binaryOp .Add) (Qn X.K):=by
 intro pins s σ H x y v u Q I rx ry h
 obtain⟨a,b,xs,ys,rfl,rfl,ha,hb,hz,q0,q1,q2⟩:=h
 by_cases hx:xs=[]
 ·cases rx
  cases ry
  obtain⟨ax,r1,p1,_⟩:=I.tuple ha
  obtain⟨pB,r2,p2,_⟩:=I.tuple hb
  obtain⟨⟨cls,dd,data,sl⟩,ho,hc,n,hd⟩:=id p1
  obtain⟨⟨Uy,So,data2,Hu⟩,EB,Ig,n2,hd2⟩:=id p2
  simp only at hc hd Ig hd2
  subst hc hd Ig hd2
  have e:ax=[]:=r1.oW.mpr hx
  exact concat_meets ⟨_,ho,rfl⟩ ⟨_,EB,rfl⟩ noFill_tuple_add seq_tuple_add PySem.F.slot_tuple_add PySem.F.entry_tuple_add (PySem.F.args_tuple_add_2 _ _)
   (tuple_addW0 a b ax.toArray pB.toArray n n2 dd So sl Hu (by simp [e])) ⟨ho,EB,.ref b,H,I,rfl,q0 hx⟩
 ·exact Ik pins s σ H _ _ v u Q I rx ry ⟨a,b,xs,ys,rfl,rfl,ha,hb,hx,hz,q1 hx,q2 hx⟩
end
section
variable {H H':Hp}{K:PySem.W.Frag}
end
section
variable {σ:St}{H:Hp}{te tb:TE}{ta:TA}{d:PyData}{ds:List PyData}
theorem Vb (h:n≤1000):n≤sizeLine:=yE (jJ h)
end
abbrev kH (h:Heap) (T:Addr) (arr:Array Value):Prop:=h.get? T=some { cls:=.type "tuple",data:=.seq arr }
theorem mK (hs:Heap.ExtBut b h h') (n:a≠b) (x:h.IsTupleIter a l i):h'.IsTupleIter a l i:=x.extBut hs n
theorem Bl {h h':Heap}{a l:Addr}{i:Nat} (k:∀ o,h.get? a=some o→h'.get? a=some o) (x:h.IsTupleIter a l i):h'.IsTupleIter a l i:=by obtain⟨o,e,r⟩:=x;exact⟨o,k o e,r⟩
theorem Vc {arr:Array Value} (na:arr.size=2) (x0 x1:Value):((arr.setIfInBounds 0 x0).setIfInBounds 1 x1)=#[x0,x1]:=by obtain⟨l⟩:=arr;match l,na with | [_,_],_=>rfl
section
variable {prog:Program}{w:World}{A:Around}{E:Value→Shared→Prop}{s:Shared}
theorem SE (h:n≤3):n≤sizeLine:=Vb (zG h (by decide))
theorem sN (hT:kH s.heap T arr) (hz:arr.size≤3) (h:∀ h',kH h' T (arr.setIfInBounds k x)→Heap.SameBut T s.heap h'→Q () { s with heap:=h' }):wpAny (model prog w) A (updateSeq T (·.setIfInBounds k x)) Q E s:=by
 refine wpAny_updateSeq hT rfl (h _ ?_ (yq ..)) (hz:=SE hz) (_hz':=by have:=SE hz;simp;omega)
 show Heap.get? _ _=_
 rw[Heap.get?_update_self _ hT rfl] ;simp [Obj.mapSeq]
theorem pP (hit:s.heap.IsTupleIter it l i) (hl:s.heap.IsTuple l items) (hx:items[i]?=some x) (hQ:∀ h',h'.IsTupleIter it l (i+1)→Heap.SameBut it s.heap h'→Q x { s with heap:=h' }) :
  wpAny (model prog w) A (Builtin.SmallTypes.nextOf (.ref it)) Q E s:=by
 obtain⟨o,ho,hc,hd⟩:=id hit ;obtain⟨ol,Qo,_,nl,OI⟩:=hl
 unfold Builtin.SmallTypes.nextOf
 refine za (wpAny_callSpecial?_slot (name:=Str.ofString "__next__") hit.typeIs F.slot_tuple_iterator_next (yw F.slot_tuple_iterator_next hit.typeIs F.entry_tuple_iterator_next ?_ (F.args_tuple_iterator_next_1 _)))
 show wpAny _ _ (field (.ref it) 0 >>= _) _ _ s ;refine za (yb ho hd (x:=.ref l) rfl ?_)
 show wpAny _ _ (if (Value.ref l == Value.none)=true then _ else _) _ _ s ;rw[if_neg (show ¬ ((Value.ref l == Value.none)=true) from zd)]
 show wpAny _ _ (field (.ref it) 1 >>= _) _ _ s ;refine za (yb ho hd (x:=.int i 0) rfl ?_)
 show wpAny _ _ (seqItems? (.ref l) >>= _) _ _ s ;refine za (yH Qo OI ?_)
 simp only [Int.toNat_natCast,hx]
 refine za (wpAny_setField ho hd (by simp) (zi ⟨x,rfl,zi (hQ _ ⟨_,Heap.get?_update_self _ ho (Obj.isFreed_of_fields (Obj.data_mapFields hd _)),(Obj.cls_mapFields ..).trans hc,by rw[Obj.data_mapFields hd];simp [rawInt]⟩ (yq ..))⟩))
theorem pQ (hh:A.handled=none) (hit:s.heap.IsTupleIter it l i) (hl:s.heap.IsTuple l items) (hx:items[i]?=none)
  (hE:∀ h' e,Heap.ExtBut it s.heap h'→(∃ o,h'.get? e=some o∧o.cls=.type "StopIteration")→E (.ref e) { s with heap:=h' }):wpAny (model prog w) A (Builtin.SmallTypes.nextOf (.ref it)) Q E s:=by
 obtain⟨o,ho,hc,hd⟩:=id hit ;obtain⟨ol,Qo,_,nl,OI⟩:=hl
 unfold Builtin.SmallTypes.nextOf
 refine za (wpAny_callSpecial?_slot (name:=Str.ofString "__next__") hit.typeIs F.slot_tuple_iterator_next (yw F.slot_tuple_iterator_next hit.typeIs F.entry_tuple_iterator_next ?_ (F.args_tuple_iterator_next_1 _)))
 show wpAny _ _ (field (.ref it) 0 >>= _) _ _ s ;refine za (yb ho hd (x:=.ref l) rfl ?_)
 show wpAny _ _ (if (Value.ref l == Value.none)=true then _ else _) _ _ s ;rw[if_neg (show ¬ ((Value.ref l == Value.none)=true) from zd)]
 show wpAny _ _ (field (.ref it) 1 >>= _) _ _ s ;refine za (yb ho hd (x:=.int i 0) rfl ?_)
 show wpAny _ _ (seqItems? (.ref l) >>= _) _ _ s ;refine za (yH Qo OI ?_)
 simp only [Int.toNat_natCast,hx]
 refine za (wpAny_rule (za (wpAny_setField ho hd (by simp) ?_))) ;show wpAny _ _ (newExc (.type "StopIteration") [] >>= _) _ _ _
 refine za ?_ ;simp only [newExc,newTuple] ;refine za (yf ?_ (by size_fits))
 refine za (m:=firstArgMember _ _) (yM (a:=Value.none) (by first | rfl | (simp only [firstArgMember];rfl)) ?_) ;refine yf ?_ (by size_fits)
 simp only [raiseNew] ;refine za (wpAny_handled ?_)
 first | rw[show A.in1.handled=none from hh] | rw[hh]
 refine za (zi (wpAny_throw (hE _ _ (((yq ..).extBut.push _).push _) ⟨_,zm _ rfl,rfl⟩)))
end
def XO (n l0 l1:Nat) (i:Nat) (h:Heap):Prop:=IsZip h (n+4) (n+2) (n+3) .none∧kH h (n+2) #[.ref n,.ref (n+1)]∧(∃ arr:Array Value,arr.size=2∧kH h (n+3) arr)∧h.IsTupleIter n l0 i∧h.IsTupleIter (n+1) l1 i
section
variable {prog:Program}{w:World}{A:Around}{E:Value→Shared→Prop}{s:Shared}{n l0 l1:Nat}{i:Nat}{ow rj:Array Value}
theorem CF {x0 x1:Value}{arr:Array Value} (na:arr.size=2) {Q:Value→Shared→Prop} (b0:l0<n) (b1:l1<n) (hz:IsZip s.heap (n+4) (n+2) (n+3) .none) (hI:kH s.heap (n+2) #[.ref n,.ref (n+1)]) (hO:kH s.heap (n+3) arr) (j0:s.heap.IsTupleIter n l0 i) (j1:s.heap.IsTupleIter (n+1) l1 i) (t0:s.heap.IsTuple l0 ow) (t1:s.heap.IsTuple l1 rj) (e0:ow[i]?=some x0) (e1:rj[i]?=some x1)
  (hQ:∀ h',IsZip h' (n+4) (n+2) (n+3) (rawInt s.heap.objs.size)→kH h' (n+3) #[x0,x1]→h'.IsTupleIter n l0 (i+1)→h'.IsTupleIter (n+1) l1 (i+1)→kH h' s.heap.objs.size #[x0,x1]→(∀ c o,c≠(n+4)→c≠(n+3)→c≠n→c≠(n+1)→s.heap.get? c=some o→h'.get? c=some o)→Q (.ref s.heap.objs.size) { s with heap:=h' }) :
  wpAny (model prog w) A (Builtin.«zip.__next__» ⟨[.ref (n+4)],[]⟩) (fun fin s'=>∃ v,fin=.done (.ret v)∧Q v s') E s:=by
 show wpAny _ _ (field (.ref (n+4)) 2 >>= _) _ _ _ ;refine za (yb hz rfl (x:=.bool false) rfl ?_)
 show wpAny _ _ (field (.ref (n+4)) 3 >>= _) _ _ _ ;refine za (yb hz rfl (x:=.ref (n+2)) rfl ?_)
 refine za (yH hI rfl ?_) ;show wpAny _ _ (Builtin.SmallTypes.ownedTupleIsFree (.ref (n+4)) >>= _) _ _ _
 refine za ?_ ;unfold Builtin.SmallTypes.ownedTupleIsFree
 refine za (yb hz rfl (x:=.none) rfl (zi ?_)) ;simp only [if_true]
 refine za (wpAny_rule ?_) ;refine za (yb hz rfl (x:=.ref (n+3)) rfl ?_)
 refine za (wpAny_setField_rec hz (by simp) fun h0 M4 q0=>?_) ;replace M4:IsZip h0 (n+4) (n+2) (n+3) .ellipsis:=M4
 have k0:∀ c o,c≠(n+4)→s.heap.get? c=some o→h0.get? c=some o:=fun c o d e=>q0.extBut _ _ d e
 have O0:kH h0 (n+3) arr:=k0 _ _ (by show @Ne Nat _ _;omega) hO
 refine za ?_ ;simp only [List.zipIdx_cons,List.zipIdx_nil,List.forIn_cons,List.forIn_nil]
 -- the 0. iterator
 have J0:Heap.IsTupleIter h0 n l0 i:=by obtain⟨o,a1,a2⟩:=j0;exact⟨o,k0 _ _ (by show @Ne Nat _ _;omega) a1,a2⟩
 have T0:Heap.IsTuple h0 l0 ow:=by obtain⟨o,a1,a2⟩:=t0;exact⟨o,k0 _ _ (by show @Ne Nat _ _;omega) a1,a2⟩
 refine za (za (wpAny_onRaise ?_)) ;show wpAny _ _ (Builtin.SmallTypes.nextOf (.ref n) >>= _) _ _ _
 refine za (pP (s:={ s with heap:=h0 }) J0 T0 e0 fun h1 m0 q1=>zi ?_)
 have O1:kH h1 (n+3) arr:=q1.extBut _ _ (by show @Ne Nat _ _;omega) O0
 refine za (yH (s:={ s with heap:=h1 }) O1 rfl ?_) ;refine za (sN (s:={ s with heap:=h1 }) O1 (by simp [na,SE]) fun h2 O2 q2=>?_) ;refine za (wpAny_letGo (zi ?_))
 have k2:∀ c o,c≠(n+4)→c≠(n+3)→c≠n→s.heap.get? c=some o→h2.get? c=some o:=fun c o dz dO d0 e=>q2.extBut _ _ dO (q1.extBut _ _ d0 (k0 c o dz  e))
 -- the 1. iterator
 have J1:Heap.IsTupleIter h2 (n+1) l1 i:=by obtain⟨o,a1,a2⟩:=j1;exact⟨o,k2 _ _ (by show @Ne Nat _ _;omega) (by show @Ne Nat _ _;omega) (by show @Ne Nat _ _;omega) a1,a2⟩
 have T1:Heap.IsTuple h2 l1 rj:=by obtain⟨o,a1,a2⟩:=t1;exact⟨o,k2 _ _ (by show @Ne Nat _ _;omega) (by show @Ne Nat _ _;omega) (by show @Ne Nat _ _;omega) a1,a2⟩
 refine za (za (wpAny_onRaise ?_)) ;show wpAny _ _ (Builtin.SmallTypes.nextOf (.ref (n+1)) >>= _) _ _ _
 refine za (pP (s:={ s with heap:=h2 }) J1 T1 e1 fun h3 m1 q3=>zi ?_)
 have O3:kH h3 (n+3) (arr.setIfInBounds 0 x0):=q3.extBut _ _ (by show @Ne Nat _ _;omega) O2
 refine za (yH (s:={ s with heap:=h3 }) O3 rfl ?_) ;refine za (sN (s:={ s with heap:=h3 }) O3 (by simp [na,SE]) fun h4 O4 q4=>?_) ;refine za (wpAny_letGo (zi ?_))
 have k4:∀ c o,c≠(n+4)→c≠(n+3)→c≠n→c≠(n+1)→s.heap.get? c=some o→h4.get? c=some o:=fun c o dz dO d0 d1 e=>q4.extBut _ _ dO (q3.extBut _ _ d1 (k2 c o dz dO d0 e))
 have ea:((arr.setIfInBounds 0 x0).setIfInBounds 1 x1)=#[x0,x1]:=Vc na x0 x1
 rw[ea] at O4
 have XQ:IsZip h4 (n+4) (n+2) (n+3) .ellipsis:=q4.extBut _ _ (by show @Ne Nat _ _;omega) (q3.extBut _ _ (by show @Ne Nat _ _;omega) (q2.extBut _ _ (by show @Ne Nat _ _;omega) (q1.extBut _ _ (by show @Ne Nat _ _;omega) (M4))))
 have M0:Heap.IsTupleIter h4 n l0 (i+1):=mK q4.extBut (by show @Ne Nat _ _;omega) (mK q3.extBut (by show @Ne Nat _ _;omega) (mK q2.extBut (by show @Ne Nat _ _;omega) m0))
 have M1:Heap.IsTupleIter h4 (n+1) l1 (i+1):=mK q4.extBut (by show @Ne Nat _ _;omega) m1
 have hsz:h4.objs.size=s.heap.objs.size:=by rw[q4.1,q3.1,q2.1,q1.1,q0.1]
 refine zi ?_ ;refine za (yH (s:={ s with heap:=h4 }) O4 rfl ?_) ;refine za (wpAny_newTuple ?_)
 have lz:(n+4)<h4.objs.size:=zq XQ
 show wpAny _ _ (Builtin.SmallTypes.ownedTupleHandOut (.ref (n+4)) (.ref h4.objs.size) >>= _) _ _ _ ;refine za ?_ ;unfold Builtin.SmallTypes.ownedTupleHandOut
 have Zr:IsZip (h4.push { cls:=.type "tuple",data:=.seq #[x0,x1] }) (n+4) (n+2) (n+3) .ellipsis:=zc _ XQ
 refine za (wpAny_setField_rec (s:={ s with heap:=h4.push { cls:=.type "tuple",data:=.seq #[x0,x1] } }) Zr (by simp) fun g1 OJ r1=>?_) ;replace OJ:IsZip g1 (n+4) (n+2) (n+3) (rawInt h4.objs.size):=OJ
 refine wpAny_setField_rec (s:={ s with heap:=g1 }) OJ (by simp) fun g2 EZ r2=>?_ ;replace EZ:IsZip g2 (n+4) (n+2) (n+3) (rawInt h4.objs.size):=EZ
 have up:∀ c o,c≠(n+4)→h4.get? c=some o→g2.get? c=some o:=fun c o d e=>r2.extBut _ _ d (r1.extBut _ _ d (zc _ e))
 have hT:kH g2 h4.objs.size #[x0,x1]:=r2.extBut _ _ (yi lz) (r1.extBut _ _ (yi lz) (zm _ rfl))
 rw[hsz] at EZ hT ;refine zi ⟨_,rfl,?_⟩ ;show Q (.ref h4.objs.size) _ ;rw[hsz]
 exact hQ g2 EZ (up _ _ (by show @Ne Nat _ _;omega) O4) (Bl (fun o e=>up _ o (by show @Ne Nat _ _;omega) e) M0) (Bl (fun o e=>up _ o (by show @Ne Nat _ _;omega) e) M1) hT fun c o dz dO d0 d1 e=>up c o dz (k4 c o dz dO d0 d1 e)
theorem E1 (hh:A.handled=none) (b0:l0<n) (b1:l1<n) (hz:IsZip s.heap (n+4) (n+2) (n+3) .none) (hI:kH s.heap (n+2) #[.ref n,.ref (n+1)]) (hO:kH s.heap (n+3) arr) (j0:s.heap.IsTupleIter n l0 i) (j1:s.heap.IsTupleIter (n+1) l1 i) (t0:s.heap.IsTuple l0 ow) (t1:s.heap.IsTuple l1 rj)
  (e0:ow[i]?=none) (hE:∀ h' e,(∀ c o,c≠(n+4)→c≠(n+3)→c≠n→c≠(n+1)→s.heap.get? c=some o→h'.get? c=some o)→(∃ o,h'.get? e=some o∧o.cls=.type "StopIteration")→E (.ref e) { s with heap:=h' }) :
  wpAny (model prog w) A (Builtin.«zip.__next__» ⟨[.ref (n+4)],[]⟩) Q E s:=by
 show wpAny _ _ (field (.ref (n+4)) 2 >>= _) _ _ _ ;refine za (yb hz rfl (x:=.bool false) rfl ?_)
 show wpAny _ _ (field (.ref (n+4)) 3 >>= _) _ _ _ ;refine za (yb hz rfl (x:=.ref (n+2)) rfl ?_)
 refine za (yH hI rfl ?_) ;show wpAny _ _ (Builtin.SmallTypes.ownedTupleIsFree (.ref (n+4)) >>= _) _ _ _
 refine za ?_ ;unfold Builtin.SmallTypes.ownedTupleIsFree
 refine za (yb hz rfl (x:=.none) rfl (zi ?_)) ;simp only [if_true]
 refine za (wpAny_rule ?_) ;refine za (yb hz rfl (x:=.ref (n+3)) rfl ?_)
 refine za (wpAny_setField_rec hz (by simp) fun h0 M4 q0=>?_) ;replace M4:IsZip h0 (n+4) (n+2) (n+3) .ellipsis:=M4
 have J0:Heap.IsTupleIter h0 n l0 i:=by obtain⟨o,a1,a2⟩:=j0;exact⟨o,q0.extBut _ _ (by show @Ne Nat _ _;omega) a1,a2⟩
 have T0:Heap.IsTuple h0 l0 ow:=by obtain⟨o,a1,a2⟩:=t0;exact⟨o,q0.extBut _ _ (by show @Ne Nat _ _;omega) a1,a2⟩
 refine za ?_ ;simp only [List.zipIdx_cons,List.zipIdx_nil,List.forIn_cons,List.forIn_nil]
 refine za (za (wpAny_onRaise ?_)) ;show wpAny _ _ (Builtin.SmallTypes.nextOf (.ref n) >>= _) _ _ _
 refine za (pQ (s:={ s with heap:=h0 }) hh J0 T0 e0 fun h1 e q1 he=>?_)
 obtain⟨oe,Vd,XR⟩:=he ;have OJ:IsZip h1 (n+4) (n+2) (n+3) .ellipsis:=q1 _ _ (by show @Ne Nat _ _;omega) M4
 have ez:e≠(n+4):=fun x=>by subst x;rw[OJ] at Vd;cases Vd;simp at XR
 refine wpAny_setField_rec (s:={ s with heap:=h1 }) OJ (by simp) fun h2 _ q2=>hE h2 e (fun c o dz _ d0 _ x=>q2.extBut _ _ dz (q1 _ _ d0 (q0.extBut _ _ dz x))) ⟨oe,q2.extBut _ _ ez Vd,XR⟩
end
section
variable {X:Cx}{pins:List (Addr×Obj)}{σ:St}{H:Hp}{s:Shared}{h':Heap}
theorem Inv.IK (I:Inv X pins σ H s) (wr:List Addr) (hw:∀ b∈wr,pf X pins H b) (k:∀ b o,b∉wr→s.heap.get? b=some o→h'.get? b=some o):Inv X pins σ H { s with heap:=h',toks:=t' }:=by
 refine I.step (g':=s.gens) (d':=s.drawn) (ch:=wr) (fun b hb=>by obtain⟨_,a,_,c,d,e⟩:=hw b hb;exact⟨c,a,d,e⟩) (fun b o _ _ hc e _=>k b o hc e) (fun b o _ _ hc e _=>⟨o.slots,k b o hc e⟩) (fun _ _ _ _ n=>n)
  (fun b o hc e=>⟨o,k b o hc e⟩) (fun _ _ e=>e) (fun _ _ _ e=>e) (fun b ps e=>⟨#[],by rw[e];simp⟩) (fun m hm=>?_) (fun b u e=>?_) I.bare
 ·obtain⟨o,es,ep,ho,r⟩:=hm
  exact⟨o,es,ep,k _ o (fun z=>(hw _ z).2.1 rfl) ho,r⟩
 ·refine (I.aM b u e).oj (fun c v hc q=>k c v (fun z=>?_) q) (fun _ q=>q) fun _ _ q=>q
  have n:=(hw c z).1
  rcases hc with rfl | hc
  ·rw[n] at e;cases e
  ·rw[n] at hc;cases hc
theorem Inv.IL (I:Inv X pins σ H s) (wr:List Addr) (hw:∀ b∈wr,pf X pins H b) (k:∀ b o,b∉wr→s.heap.get? b=some o→h'.get? b=some o) (hT:s.heap.get? T=none) (new:bh X.prog X.w (upd H T o) h' T o) :
  Inv X pins σ (upd H T o) { s with heap:=h',toks:=t' }:=by
 have fr:H T=none:=by
  cases q:H T with
  | none=>rfl
  | some u=>obtain⟨z,e⟩:=(I.aM T u q).get;rw[hT] at e;cases e
 have ne:∀ b u,H b=some u→b≠T:=fun b u e z=>by rw[z,fr] at e;cases e
 refine I.step (g':=s.gens) (d':=s.drawn) (ch:=wr) (fun b hb=>by obtain⟨_,a,_,c,d,e⟩:=hw b hb;exact⟨c,a,d,e⟩) (fun b o _ _ hc e _=>k b o hc e) (fun b o _ _ hc e _=>⟨o.slots,k b o hc e⟩) (fun b ob _ e n=>?_)
  (fun b o hc e=>⟨o,k b o hc e⟩) (fun b xs e=>by rw[av (ne b _ e)];exact e) (fun b ob u e=>by rw[av (ne b _ e)];exact e) (fun b ps e=>⟨#[],by rw[av (ne b _ e),e];simp⟩) (fun m hm=>?_) (fun b u e=>?_) I.bare
 ·have:b≠T:=fun z=>by rw[z,hT] at e;cases e
  rw[av this];exact n
 ·obtain⟨o,es,ep,ho,r⟩:=hm
  exact⟨o,es,ep,k _ o (fun z=>(hw _ z).2.1 rfl) ho,r⟩
 ·by_cases hb:b=T
  ·subst hb;rw[aF] at e;cases e;exact new
  ·rw[av hb] at e
   refine (I.aM b u e).oj (fun c v hc q=>k c v (fun z=>?_) q) (fun c q=>by rw[av (ne c _ q)];exact q) fun c xs q=>by rw[av (ne c _ q)];exact q
   have n:=(hw c z).1
   rcases hc with rfl | hc
   ·rw[n] at e;cases e
   ·rw[n] at hc;cases hc
end
def Qp (K:PySem.W.Frag) (l0 l1:Addr):It :=
 ⟨fun i H=>∃ (ow rj:List V) (x0 x1:V),iQ K H l0 ow∧iQ K H l1 rj∧ow[i]?=some x0∧rj[i]?=some x1,
  fun i H x H'=>∃ T,H T=none∧x=.ref T∧∀ (ow rj:List V) (x0 x1:V),iQ K H l0 ow→iQ K H l1 rj→ow[i]?=some x0→rj[i]?=some x1→H'=upd H T (.tup [x0,x1]),
  fun i H=>∃ ow rj,iQ K H l0 ow∧iQ K H l1 rj∧ow.length≤i⟩
theorem CG {P:Program}{w:World}{K:PySem.W.Frag}{es:List Expr}{kk:Nat}{tp:Pos}{n l0 l1:Nat} (b0:l0<n) (b1:l1<n):Turn P w K (.Tuple es kk tp) (Qp K l0 l1) [n,(n+1),(n+2),(n+3),(n+4)] (n+4) (XO n l0 l1) where
 mem:=by simp
 obj:=fun i h st b hb=>by
  obtain⟨hz,hI,⟨arr,na,hO⟩,j0,j1⟩:=st
  have c:b=n∨b=(n+1)∨b=(n+2)∨b=(n+3)∨b=(n+4):=by simpa using hb
  rcases c with rfl | rfl | rfl | rfl | rfl
  ·obtain⟨o,e,c,d⟩:=j0;exact⟨o,e,fun v z=>by rw[d] at z;cases z⟩
  ·obtain⟨o,e,c,d⟩:=j1;exact⟨o,e,fun v z=>by rw[d] at z;cases z⟩
  ·exact⟨_,hI,fun v z=>by cases z⟩
  ·exact⟨_,hO,fun v z=>by cases z⟩
  ·exact⟨_,hz,fun v z=>by cases z⟩
 keep:=fun i h h' st k=>by
  obtain⟨hz,hI,⟨arr,na,hO⟩,j0,j1⟩:=st
  exact⟨k _ (by simp) _ hz,k _ (by simp) _ hI,⟨arr,na,k _ (by simp) _ hO⟩,Bl (fun o e=>k _ (by simp) o e) j0,Bl (fun o e=>k _ (by simp) o e) j1⟩
 item:=by
  intro X hP hw hK hc i pins s σ H E I hf st hg
  subst hP hw hK
  obtain⟨ow,rj,x0,x1,q0,q1,e0,e1⟩:=hg
  obtain⟨CH,SF,p0,_⟩:=I.tuple q0 ;obtain⟨u0,Zs,Zt⟩:=SF.get e0
  obtain⟨CI,M5,p1,_⟩:=I.tuple q1 ;obtain⟨u1,Zu,Zv⟩:=M5.get e1
  obtain⟨hz,hI,⟨arr,na,hO⟩,j0,j1⟩:=st
  have hT:s.TypeIs (.ref (n+4)) "zip" := ⟨_,hz,rfl⟩
  unfold pyNext
  refine za (wpAny_attempt (wpAny_callSpecial?_slot (name:=Str.ofString "__next__") hT F.slot_zip_next (yw F.slot_zip_next hT F.entry_zip_next (CF na b0 b1 hz hI hO j0 j1 (show s.heap.IsTuple l0 CH.toArray from p0) (show s.heap.IsTuple l1 CI.toArray from p1) (show CH.toArray[i]?=some u0 by simpa using Zs) (show CI.toArray[i]?=some u1 by simpa using Zu) fun h1 z1 O1 m0 m1 T1 kp=>zi ⟨_,rfl,?_⟩) (F.args_zip_next_1 _))))
  refine wpAny_letOwnedTupleGo_zip (s:={ s with heap:=h1 }) z1 fun h2 z2 r2=>?_
  have SG:∀ c o,c∉([(n+4),(n+3),n,(n+1)]:List Addr)→s.heap.get? c=some o→h2.get? c=some o:=fun c o hc e=>by
   simp only [zf,zF,or_false,not_or] at hc
   obtain⟨dz,dO,d0,d1⟩:=hc
   exact r2.extBut _ _ dz (kp c o dz dO d0 d1 e)
  have lz:(n+4)<s.heap.objs.size:=zq hz
  have T2:kH h2 s.heap.objs.size #[u0,u1]:=r2.extBut _ _ (yi lz) T1
  have Zw:∀ b∈([(n+4),(n+3),n,(n+1)]:List Addr),pf X pins H b:=fun b hb=>hf b (by simp only [zf,zF,or_false] at hb ⊢;rcases hb with h | h | h | h <;> simp [h])
  have I2:Inv X pins σ (upd H s.heap.objs.size (.tup [x0,x1])) { s with heap:=h2 }:=I.IL (t':=s.toks) [(n+4),(n+3),n,(n+1)] Zw SG (Heap.get?_none_of_le (zl _)) ⟨Vb (show 2≤1000 by decide),[u0,u1],.cons Zt (.cons Zv (.nil)),⟨_,T2,rfl,rfl,_,rfl⟩⟩
  refine⟨.ref s.heap.objs.size,_,I2,rfl,⟨_,I.aM.fresh (zl _),rfl,fun ys0 ys1 y0 y1 g0 g1 f0 f1=>?_⟩,?_,fun b hb=>?_⟩
  ·have:=I.jI g0 q0 ;subst this ;have:=e0.symm.trans f0 ;cases this
   have:=I.jI g1 q1 ;subst this ;have:=e1.symm.trans f1 ;cases this
   rfl
  ·refine⟨z2,r2.extBut _ _ (by show @Ne Nat _ _;omega) (kp _ _ (by show @Ne Nat _ _;omega) (by show @Ne Nat _ _;omega) (by show @Ne Nat _ _;omega) (by show @Ne Nat _ _;omega) hI),⟨_,rfl,r2.extBut _ _ (by show @Ne Nat _ _;omega) O1⟩,mK r2.extBut (by show @Ne Nat _ _;omega) m0,mK r2.extBut (by show @Ne Nat _ _;omega) m1⟩
  ·have l2:b<s.heap.objs.size:=by
    simp only [zf,zF,or_false] at hb
    have lz:@LT.lt Nat _ (n+4) s.heap.objs.size:=lz
    rcases hb with rfl | rfl | rfl | rfl | rfl <;> (show @LT.lt Nat _ _ s.heap.objs.size;omega)
   rw[av (zw l2)] ;exact (hf b hb).1
 done:=by
  intro X hP hw hK hc i pins s σ H E I hf st hg
  subst hP hw hK
  obtain⟨ow,rj,q0,q1,hx⟩:=hg
  obtain⟨CH,SF,p0,_⟩:=I.tuple q0
  obtain⟨CI,M5,p1,_⟩:=I.tuple q1
  obtain⟨hz,hI,⟨arr,na,hO⟩,j0,j1⟩:=st
  have hT:s.TypeIs (.ref (n+4)) "zip" := ⟨_,hz,rfl⟩ ;have hl:=SF.length
  unfold pyNext
  refine za (wpAny_attempt (wpAny_callSpecial?_slot (name:=Str.ofString "__next__") hT F.slot_zip_next (yw F.slot_zip_next hT F.entry_zip_next (E1 (I.ok.hd hc) b0 b1 hz hI hO j0 j1 (show s.heap.IsTuple l0 CH.toArray from p0) (show s.heap.IsTuple l1 CI.toArray from p1) (by simp;omega) fun h1 e kp he=>?_) (F.args_zip_next_1 _))))
  obtain⟨o,ho,IM⟩:=he ;refine za (wpAny_isInstance (T := "StopIteration") (b:=true) ⟨o,ho,IM⟩ isSubtype_stop (zi ⟨rfl,?_⟩))
  refine I.IK (t':=s.toks) [(n+4),(n+3),n,(n+1)] (fun b hb=>hf b (by simp only [zf,zF,or_false] at hb ⊢;rcases hb with h | h | h | h <;> simp [h])) fun c o hc e=>?_
  simp only [zf,zF,or_false,not_or] at hc
  obtain⟨dz,dO,d0,d1⟩:=hc
  exact kp c o dz dO d0 d1 e
 self:=fun A' i s Q E st h=>wpAny_pyIter_zip st.1 h
abbrev IP (h:Heap) (l0:Addr):Heap:=(h).push { cls:=.type "tuple_iterator",data:=.fields #[.ref l0,.int 0 0] }
abbrev IQ (h:Heap) (l0 l1:Addr):Heap:=(IP h l0).push { cls:=.type "tuple_iterator",data:=.fields #[.ref l1,.int 0 0] }
abbrev IS (h:Heap) (l0 l1:Addr):Heap:=(IQ h l0 l1).push { cls:=.type "tuple",data:=.seq #[.ref h.objs.size,.ref (IP h l0).objs.size] }
abbrev IT (h:Heap) (l0 l1:Addr):Heap:=(IS h l0 l1).push { cls:=.type "tuple",data:=.seq #[.none,.none] }
abbrev x8 (h:Heap) (l0 l1:Addr):Heap:=(IT h l0 l1).push { cls:=.type "zip",data:=.fields #[.none,.bool false,.bool false,.ref (IQ h l0 l1).objs.size,.ref (IS h l0 l1).objs.size] }
theorem x9 (l0 l1:Addr) (ow rj:Array Value):Meets (Builtin.«zip.__new__» ⟨[.type "zip",.ref l0,.ref l1],[]⟩) (fun _ R s=>s.heap.IsTuple l0 ow∧s.heap.IsTuple l1 rj∧R (.ok (.ret (.ref (IT s.heap l0 l1).objs.size))) { s with heap:=x8 s.heap l0 l1 }) :=
 .of_wp fun prog w A R s h=>by
  obtain⟨hp,g,d,tk,os⟩:=s;obtain⟨t0,t1,h⟩:=h
  have Zx:=sub_zip
  have L0:Heap.IsTuple (Shared.heap ⟨hp,g,d,tk,os⟩) l0 ow:=t0
  have L1:Heap.IsTuple (Shared.heap ⟨hp.push { cls:=.type "tuple_iterator",data:=.fields #[.ref l0,.int 0 0] },g,d,tk,os⟩) l1 rj:=Heap.IsTuple.push (t1) _
  wp_walk using wpAny_pyIter_tuple L0,wpAny_pyIter_tuple L1
  exact⟨_,rfl,h⟩
theorem x_ (t0:s.heap.IsTuple l0 ow) (t1:s.heap.IsTuple l1 rj)
  (h:∀ h',XO s.heap.objs.size l0 l1 0 h'→(∀ c o,s.heap.get? c=some o→h'.get? c=some o)→Q (.ref (s.heap.objs.size+4)) { s with heap:=h' }):wpAny (model prog w) A (call (.type "zip") [.ref l0,.ref l1]) Q E s:=by
 refine callType_new F.called_zip (by decide) (F.typeCall_zip_2 _ _) (F.newCall_zip_2 _ _) (fun obj=>F.args_object_init_3 obj _ _) F.entry_zip_new (x9 l0 l1 ow rj) ⟨t0,t1,?_⟩
 have z1:(IP s.heap l0).objs.size=s.heap.objs.size+1:=yj ..
 have z2:(IQ s.heap l0 l1).objs.size=s.heap.objs.size+2:=by rw[yj,z1]
 have z3:(IS s.heap l0 l1).objs.size=s.heap.objs.size+3:=by rw[yj,z2]
 have z4:(IT s.heap l0 l1).objs.size=s.heap.objs.size+4:=by rw[yj,z3]
 have z5:(x8 s.heap l0 l1).objs.size=s.heap.objs.size+5:=by rw[yj,z4]
 have g0:(x8 s.heap l0 l1).get? (s.heap).objs.size=some _:=zc _ (zc _ (zc _ (zc _ (zm _ rfl))))
 have g1:(x8 s.heap l0 l1).get? (IP s.heap l0).objs.size=some _:=zc _ (zc _ (zc _ (zm _ rfl)))
 have g2:(x8 s.heap l0 l1).get? (IQ s.heap l0 l1).objs.size=some _:=zc _ (zc _ (zm _ rfl))
 have g3:(x8 s.heap l0 l1).get? (IS s.heap l0 l1).objs.size=some _:=zc _ (zm _ rfl)
 have g4:(x8 s.heap l0 l1).get? (IT s.heap l0 l1).objs.size=some _:=zm _ rfl
 show _∧_
 rw[z2,z3,z4] at g4
 rw[z3] at g3
 rw[z1,z2] at g2
 rw[z1] at g1
 rw[z4]
 exact⟨⟨_,g4,rfl⟩,h _ ⟨g4,g2,⟨_,rfl,g3⟩,⟨_,g0,rfl,rfl⟩,⟨_,g1,rfl,rfl⟩⟩ fun c o x=>zc _ (zc _ (zc _ (zc _ (zc _ x))))⟩
def Qq (K:PySem.W.Frag) (ta:TA):TI:=fun σ H R=>ta σ H fun vs H1=>∃ l0 l1,vs=[.ref l0,.ref l1]∧(∃ xs,iQ K H1 l0 xs)∧(∃ xs,iQ K H1 l1 xs)∧R (Qp K l0 l1) H1
theorem IU (hg:Gl X "zip") (hm:X.mg "zip" = none) (ha:PA X [a,b] ta) (hs:starEach [a,b] X.env=[(false,eval a X.env),(false,eval b X.env)]:=by rfl) (Ed:starEach [b] X.env=[(false,eval b X.env)]:=by rfl) :
  PI X (.Tuple es kk tp) (.Call (.Name "zip" p) [a,b] [] pos) (Qq X.K ta):=by
 intro pins s σ H R I h
 refine Call_ (g8 I hg hm boot_zip (PyProof.Rows.callWith_type1 (br (ha pos pins s σ H _ I h) fun us s1 ⟨vs,H1,I1,r1,q1⟩=>?_) (by rw[hs,Ed]) (by rw[Ed];rfl)))
 obtain⟨l0,l1,e,⟨ow,q0⟩,⟨rj,q2⟩,q⟩:=q1
 subst e
 obtain⟨u,v,rfl,r,r'⟩:=r1.two
 cases r
 cases r'
 obtain⟨CH,SF,p0,_⟩:=I1.tuple q0
 obtain⟨CI,M5,p1,_⟩:=I1.tuple q2
 refine x_ (show s1.heap.IsTuple l0 CH.toArray from p0) (show s1.heap.IsTuple l1 CI.toArray from p1) fun h' zs kp=>?_
 refine wpAny_pyIter_zip (s:={ s1 with heap:=h' }) zs.1 ⟨_,_,_,_,H1,rfl,I1.kept (t':=s1.toks) kp,CG p0.lt p1.lt,zs,fun b hb=>?_,q⟩
 have Qm:s1.heap.objs.size≤b:=by
  simp only [zf,zF,or_false] at hb
  rcases hb with rfl | rfl | rfl | rfl | rfl <;> (show @LE.le Nat _ _ _;omega)
 exact I1.ph Qm (I1.aM.fresh Qm)
def IV (K:PySem.W.Frag):V→List V→Hp→VK→Prop:=fun x vs H Q=>∃ (a:Addr) (xs:List V) (y z:V) (j:Nat),x=.ref a∧vs=[y]∧jH K H a xs∧gH y=true∧xs.all gH=true∧xs[j]?=some z∧eqV z y=true∧(∀ m u,m<j→xs[m]?=some u→eqV u y=false)∧Q (.int j) H
theorem CJ:OB X "list.index" (IV X.K):=by
 intro pins s σ H x vs v us Q I rx rv h
 obtain⟨a,xs,y,z,j,rfl,rfl,hq,fy,fx,hj,hit,Uz,q⟩:=h
 cases rx
 obtain⟨u,rfl,ru⟩:=rv.one
 obtain⟨ax,r,p,hz⟩:=I.list hq
 obtain⟨⟨cls,dd,data,sl⟩,ho,hc,n,hd⟩:=p.isList
 simp only at hc hd
 subst hc hd
 have hl:=r.length
 have fu:j<xs.length:=(zo.mp hj).1
 have fl:∀ (m:Nat) (w:V),xs[m]?=some w→gH w=true:=fun m w e=>zZ.mp fx w (zK e)
 have at':∀ (m:Nat) (hm:m<ax.toArray.size) (w:V),xs[m]?=some w→vt y ax.toArray[m]=eqV w y:=fun m hm w e=>by
  obtain⟨u',e',Zy⟩:=r.get e
  have:ax.toArray[m]=u':=by
   have:=zo.mp e'
   simpa using this.2
  rw[this]
  exact xQ Zy (fl m w e)
 have hs:sizeLine=16777216:=zR
 refine call_meets PySem.F.slot_list_index ⟨_,ho,rfl⟩ PySem.F.entry_list_index (PySem.F.args_list_index_2 _ _) (SeqAt.list_indexAt a ax.toArray n dd sl u (vt y) j (by simp;omega) (by omega) ?_ ?_) ⟨ho,fun w hw=>gI ru fy r fx w (by simpa using hw),⟨.int j,H,I.tok _,⟨_,rfl⟩,q⟩⟩
 ·rw[at' j _ z hj];exact hit
 ·intro m hm Zz
  have XS:m<xs.length:=by omega
  rw[at' m hm _ (zg XS)]
  exact Uz m _ Zz (zg XS)
def Qr:R2:=fun x y H Q=>∃ z n,x=.str z∧y=.int n∧MulOk z n∧Q (.str (PySem.Txt.mul z n)) H
theorem yN:fZ X (binaryOp .Mult) Qr:=by
 intro pins s σ H x y v u Q I rx ry h
 obtain⟨z,n,rfl,rfl,hm,q⟩:=h
 obtain⟨t,rfl⟩:=rx
 obtain⟨t',rfl⟩:=ry
 exact SB.mul hm fun t'' k=>⟨.str _,H,I.tok k,⟨_,rfl⟩,q⟩
section
variable {σ:St}{H:Hp}{te tb:TE}{K:PySem.W.Frag}
end
def IW (w:World) (K:PySem.W.Frag) (a:Addr) (kvs:List (Str×V)):Prop:=(a == sysModules)=false∧∃ (o:Obj) (es:Array DictEntry) (ep:Nat),K.lookup a=some o∧o.ExactDict∧o.data=.dict es ep ∧
 Paired (fun (e:DictEntry) (kv:Str×V)=>e.hash=hashStr w kv.1∧(∃ t,e.key=.str kv.1 t)∧RelV kv.2 e.val) es.toList kvs∧(kvs.map Prod.fst).Nodup
theorem pR (z:Str):∀ kvs:List (Str×V),fV (kvs.map fun p=>((.inr p.1:Key),p.2)) (.inr z)=kvs.lookup z
 | []=>rfl
 | (x,v) :: r=>by
  rw[zB,zT]
  by_cases e:z=x
  ·subst e
   rw[pF rfl]
   simp
  ·have e1:(z == x)=false:=by simpa using e
   rw[pG (fun q=>e (yD q).symm),e1]
   exact pR z r
section
variable {X:Cx}{pins:List (Addr×Obj)}{σ:St}{H:Hp}{s:Shared}{a:Addr}{kvs:List (Str×V)}
theorem yO (I:Inv X pins σ H s) (d:IW X.w X.K a kvs):(a == sysModules)=false∧∃ vs,KV (kvs.map fun p=>((.inr p.1:Key),p.2)) vs∧s.heap.DictOf (aE X.prog X.w) a vs:=by
 obtain⟨ns,o,es,ep,hk,hx,hd,hp,hn⟩:=d
 have all:∀ (es:List DictEntry) (kvs:List (Str×V)),Paired (fun (e:DictEntry) (kv:Str×V)=>e.hash=hashStr X.w kv.1∧(∃ t,e.key=.str kv.1 t)∧RelV kv.2 e.val) es kvs →
   ∃ vs:List (Key×Value),KV (kvs.map fun p=>((.inr p.1:Key),p.2)) vs∧Pairs (aE X.prog X.w) es vs∧vs.map (·.1)=kvs.map (fun p=>(.inr p.1:Key))∧∀ e∈es,∃ k,(aE X.prog X.w).is k e.key=true∧e.hash=(aE X.prog X.w).hash k:=by
  intro es kvs hp
  induction hp with
  | nil=>exact⟨[],.nil,.nil,rfl,by simp⟩
  | @cons e kv Sf kvs' h t ih =>
   obtain⟨vs,k1,k2,k3,k4⟩:=ih
   obtain⟨h1,⟨tk,h2⟩,h3⟩:=h
   have hi:(aE X.prog X.w).is (.inr kv.1) e.key=true:=by rw[h2];exact iW _ _ _ _
   refine⟨(.inr kv.1,e.val) :: vs,.cons ⟨rfl,h3⟩ k1,.cons hi rfl k2,by rw[zB,zB,k3],fun e' he=>?_⟩
   rcases zf.mp he with rfl | he
   ·exact⟨.inr kv.1,hi,h1⟩
   ·exact k4 e' he
 obtain⟨vs,k1,k2,k3,k4⟩:=all _ _ hp
 refine⟨ns,vs,k1,o,es,ep,I.nO a o hk,hx,hd,fun e he=>k4 e (by simpa using he),k2,?_⟩
 rw[k3]
 have:(kvs.map fun p=>(.inr p.1:Key))=(kvs.map Prod.fst).map Sum.inr:=by rw[zt];rfl
 rw[this]
 exact List.Pairwise.map _ (fun x y h q=>h (yD q)) hn
theorem E3 {w:World}{K:PySem.W.Frag} (hw:X.w=w) (hK:X.K=K):fZ X (compareOp .In) (fun x y H Q=>∃ z a kvs,x=.str z∧y=.ref a∧IW w K a kvs∧Q (.bl (kvs.lookup z).isSome) H):=by
 subst hw hK
 intro pins s σ H x y v u Q I rx ry h
 obtain⟨z,a,kvs,rfl,rfl,d,q⟩:=h
 cases ry
 obtain⟨ns,vs,rel,dd⟩:=yO I d
 refine wpAny_in_of (iZ (k:=.inr z) rx) ns dd.mapOf ?_
 rw[← (rel.val (.inr z)).gJ,pR]
 exact⟨.bl _,H,I.tok _,rfl,q⟩
def Qs (w:World) (K:PySem.W.Frag):V→List V→Hp→VK→Prop:=fun x vs H Q=>∃ a z kvs,x=.ref a∧vs=[.str z]∧IW w K a kvs∧Q ((kvs.lookup z).getD .au) H
theorem IX {w:World}{K:PySem.W.Frag} (hw:X.w=w) (hK:X.K=K):OB X "dict.get" (Qs w K):=by
 subst hw hK
 intro pins s σ H x vs v us Q I rx rv h
 obtain⟨a,z,kvs,rfl,rfl,d,q⟩:=h
 cases rx
 obtain⟨u,rfl,ru⟩:=rv.one
 obtain⟨ns,vs,rel,dd⟩:=yO I d
 refine call_meetsIn ym dd.typeIs PySem.F.entry_dict_get (PySem.F.args_dict_get_2 _ _) (meets_dict_get (aE X.prog X.w) a (iZ (k:=.inr z) ru) ns) ⟨_,dd.mapOf,_,H,I.tok _,?_,q⟩
 rw[← pR]
 exact (rel.val (.inr z)).getD rfl
theorem E6 {w:World}{K:PySem.W.Frag}{o e:Expr}{apos aS:Pos}{td ty:TE} (hw:X.w=w) (hK:X.K=K) (ho:PE X o td) (he:PE X e ty) (m:M1 X o "get" apos e aS):PE X (.Call (.Attribute o "get" apos) [e] [] aS)
  (fun σ H Q=>td σ H fun x H1=>∃ a kvs,x=.ref a∧IW w K a kvs∧ty σ H1 fun y H2=>∃ z,y=.str z∧Q ((kvs.lookup z).getD .au) H2):=by
 subst hw hK
 intro pins s σ H Q I h
 refine wpAny_Call_method m.base m.Ee m.line PySem.F.plainAttrs_dict ym PySem.F.type_dict_get (br (ho pins s σ H _ I h) fun u s1 ⟨x,H1,I1,rx,a,kvs,ex,d,q1⟩=>?_)
 subst ex
 obtain rfl:u=Value.ref a:=rx
 obtain⟨ns,vs,rel,dd⟩:=yO I1 d
 obtain⟨ob,_,_,h1,h2,_⟩:=id dd
 refine⟨dd.typeIs,fun b q=>by cases q;exact⟨ob,h1,h2.2.1⟩,?_⟩
 rw[m.trees]
 refine Calls.callWith_builtin rfl (Calls.evalArgs_plain (yu (br (he pins s1 σ H1 _ I1 q1) fun iv s2 ⟨y,H2,I2,ry,z,ey,q2⟩=>Calls.spliced_nil ?_)))
 subst ey
 exact IX rfl rfl pins s2 σ H2 (.ref a) [.str z] _ [iv] Q I2 rfl (.cons ry .nil) ⟨a,z,kvs,rfl,rfl,d,q2⟩
end
theorem M6:bootBuiltins "min" = some (.builtin "min"):=by decide +kernel
section
variable {K:PySem.W.Frag}{σ:St}{H:Hp}
end
section
variable {prog:Program}{w:World}{A:Around}{E:Value→Shared→Prop}{s:Shared}{n l0 l1 l2:Nat}{i:Nat}{ow rj xs2:Array Value}
end
section
variable {K:PySem.W.Frag}{σ:St}{H:Hp}
end
section
variable {X:Cx}
def IY:V→List V→Hp→VK→Prop:=fun x vs H Q=>∃ z y,x=.str z∧vs=[.str y]∧Q (.bl (PySem.Txt.startswith z y)) H
theorem rK:OB X "str.startswith" IY:=by
 intro pins s σ H x vs v us Q I rx rv h
 obtain⟨z,y,rfl,rfl,q⟩:=h
 obtain⟨t,rfl⟩:=rx
 obtain⟨u,rfl,ru⟩:=rv.one
 obtain⟨t',rfl⟩:=ru
 exact PySem.SC.startswith ⟨.bl _,H,I,rfl,q⟩
def Ve:V→Option Int→Option Int→Hp→VK→Prop:=fun x lo hi H Q=>∃ z,x=.str z∧z.length≤sizeLine∧Q (.str (PySem.Txt.slice z lo hi)) H
theorem M7:PR X Ve:=by
 intro pins s σ H x v vl vu lo hi sl Q I rx hs pl pu h
 obtain⟨z,rfl,hz,q⟩:=h
 obtain⟨t,rfl⟩:=rx
 obtain⟨o,e1,e2,e3⟩:=hs
 refine⟨"str",_,F.slot_str_getitem.lookup,typeIs_str _ _ _,?_⟩
 have fin:∀ k,∀ t':Tok,EP X pins σ Q (.str (PySem.Txt.slice z lo hi) t') { s with toks:=k }:=fun k t'=>⟨.str _,H,I.tok k,⟨_,rfl⟩,q⟩
 cases pl with
 | none =>
  cases pu with
  | none=>exact wpAny_getItem_str_slice (l:=none) (u:=none) (st:=none) ⟨o,e1,e2,e3⟩ rfl (post_val_or_str ⟨zG (Txt.slice_le z _ _) hz,fun t' k=>fin k t'⟩)
  | int j uj=>exact wpAny_getItem_str_slice (l:=none) (u:=some (j,uj)) (st:=none) ⟨o,e1,e2,e3⟩ rfl (post_val_or_str ⟨zG (Txt.slice_le z _ _) hz,fun t' k=>fin k t'⟩)
 | int i ui =>
  cases pu with
  | none=>exact wpAny_getItem_str_slice (l:=some (i,ui)) (u:=none) (st:=none) ⟨o,e1,e2,e3⟩ rfl (post_val_or_str ⟨zG (Txt.slice_le z _ _) hz,fun t' k=>fin k t'⟩)
  | int j uj=>exact wpAny_getItem_str_slice (l:=some (i,ui)) (u:=some (j,uj)) (st:=none) ⟨o,e1,e2,e3⟩ rfl (post_val_or_str ⟨zG (Txt.slice_le z _ _) hz,fun t' k=>fin k t'⟩)
end
end L2
namespace L2
open PySem PySem.Spec PyProof.Rows PySem.SeqAt
end L2
namespace L2
open PySem PySem.Spec PyProof.Rows
theorem t5 (l:Addr) (items:Array Value) (n:Nat) (b:Addr) (pS:Array Value) (n2:Nat) (sl:Array (Option Value)) (OL:¬(!items.isEmpty && Builtin.List.listTooLong (items.size+pS.size))=true) (ZA:items.size≤sizeLine) (Ed:items.size+pS.size≤sizeLine+1) :
  Meets (Builtin.«list.extend» ⟨[.ref l,.ref b],[]⟩) (fun _ R s=>s.heap.get? l=some { cls:=.type "list",dict:=none,data:=.seq items n,slots:=#[] }∧s.heap.get? b=some { cls:=.type "tuple",dict:=none,data:=.seq pS n2,slots:=sl }∧R (.ok (.ret Value.none)) { s with heap:=s.heap.update l (Obj.mapSeq fun x=>x++pS),toks:=s.toks }) :=
 .of_wp fun prog w A R s h=>by
  obtain⟨hp,g,d,tk,os⟩:=s;obtain⟨hl,hb,h⟩:=h;have f1:=AutoSeq1.idx_int;have f2:=AutoSeq1.sub_tuple_tuple;have f3:=AutoSeq1.sub_list_list;have f4:=AutoSeq1.sub_tuple_list;have f5:=AutoSeq1.sub_list_tuple;
  have Vf:(items++pS).size≤sizeLine+1:=by rw[Array.size_append];exact Ed
  wp_walk using (wpAny_updateSeq hl rfl (hz:=ZA) (_hz':=Vf)),AutoSeq1.wpAny_loadPart' hl,AutoSeq1.wpAny_loadPart' hb;exact⟨_,rfl,h⟩
section
variable {X:Cx}{K:PySem.W.Frag}
def E7:V→List V→Hp→VK→Prop:=fun x vs H Q=>∃ l b xs zs,x=.ref l∧vs=[.ref b]∧H l=some (.lst xs)∧H b=some (.tup zs)∧xs.length+zs.length≤sizeLine∧Q .au (upd H l (.lst (xs++zs)))
theorem yP:Sr X "list.extend" E7:=by
 intro pins s σ H x vs v us Q I rx rv h
 obtain⟨l,b,xs,zs,rfl,rfl,hH,hB,hz,q⟩:=h
 cases rx
 obtain⟨u,rfl,ru⟩:=rv.one
 cases ru
 obtain⟨z,ax,n,r,hl,e⟩:=I.xT hH
 obtain⟨z2,pB,r2,⟨c2,d2,dt2,Hu⟩,e2,ec,ed,n2,en⟩:=(show bh X.prog X.w H s.heap b (.tup zs) from I.aM b _ hB)
 dsimp only at ec ed en
 subst ec ed en
 have Bg:=r2.length
 have hsz:ax.toArray.size+pB.toArray.size≤sizeLine:=by rw[zj,zj];omega
 have Qt:¬ (!ax.toArray.isEmpty && Builtin.List.listTooLong (ax.toArray.size+pB.toArray.size))=true:=by
  rw[EH hsz,Bool.and_false]
  exact zd
 refine call_meets F.slot_list_extend ⟨_,e,rfl⟩ F.entry_list_extend (F.args_list_extend_2 _ _)
  (t5 l ax.toArray n b pB.toArray n2 Hu Qt (by rw[zj];omega) (by omega)) ⟨e,e2,?_⟩
 refine⟨.au,_,I.Il (its':=ax++pB) hH e (by simp) (r.append r2) ?_,rfl,q⟩
 rw[zy]
 omega
theorem Bn (v:Value):∀ (n:Nat) (acc:List Value),List.foldl (fun x1 x2=>x1++x2) acc.toArray (List.replicate n #[v])=(acc++List.replicate n v).toArray
 | 0,acc=>by simp
 | n+1,acc=>by
  rw[List.replicate_succ,yA,show acc.toArray++#[v]=(acc++[v]).toArray by simp,Bn v n,List.append_assoc]
  rfl
theorem vK (r:RelV x v):∀ n,Vals (List.replicate n x) (List.replicate n v)
 | 0=>.nil
 | n+1=>.cons r (vK r n)
end
inductive D where
 | au | bl (b:Bool) | int (i:Int) | str (x:Str) | tup (ds:List D) | i5 (ds:List D) | kt (ds:List D) | ref (a:Addr) | ty (n:String)
def Vh (K:PySem.W.Frag) (a:Addr) (xs:List V):Prop:=∃ (o:Obj) (ax:Array Value) (n:Nat),K.lookup a=some o∧o.cls=.type "tuple" ∧ o.data=.seq ax n∧ax.size≤sizeLine∧Vals xs ax.toList
def Kw (K:PySem.W.Frag) (H:Hp) (a:Addr) (xs:List V):Prop :=
 (∃ o,H a=some (.kB o (.lst xs)))∨∃ (o:Obj) (ax:Array Value) (n:Nat),K.lookup a=some o∧o.cls=.type "list" ∧ o.dict=none∧o.data=.seq ax n∧ax.size≤sizeLine∧Vals xs ax.toList
theorem Kw.sq {K:PySem.W.Frag}{H:Hp}{a:Addr}{xs:List V} (h:Kw K H a xs):jH K H a xs:=by
 rcases h with h | h
 ·exact .inl (.inr h)
 ·exact .inr h
structure Kp (K:PySem.W.Frag) (H H':Hp):Prop where
 t:∀ a xs,H a=some (.tup xs)→H' a=some (.tup xs)
 r:∀ a xs,Kw K H a xs→Kw K H' a xs
 f:∀ a o u,H a=some (.kB o u)→H' a=some (.kB o u)
theorem Kp.refl {K:PySem.W.Frag} (H:Hp):Kp K H H:=⟨fun _ _ h=>h,fun _ _ h=>h,fun _ _ _ h=>h⟩
theorem Kp.trans {K:PySem.W.Frag}{H H1 H2:Hp} (a:Kp K H H1) (b:Kp K H1 H2):Kp K H H2:=⟨fun p xs h=>b.t p xs (a.t p xs h),fun p xs h=>b.r p xs (a.r p xs h),fun p o u h=>b.f p o u (a.f p o u h)⟩
theorem Kp.of {K:PySem.W.Frag}{H H':Hp} (h:∀ b o,H b=some o→H' b=some o∨(∀ xs,o≠.tup xs)∧∀ u v,o≠.kB u v):Kp K H H' where
 t:=fun a xs q=>(h _ _ q).resolve_right fun z=>z.1 _ rfl
 r:=fun a xs q=>by
  rcases q with ⟨o,q⟩ | q
  ·exact .inl ⟨o,(h _ _ q).resolve_right fun z=>z.2 _ _ rfl⟩
  ·exact .inr q
 f:=fun a o u q=>(h _ _ q).resolve_right fun z=>z.2 _ _ rfl
theorem Kp.new {K:PySem.W.Frag}{H:Hp}{a:Addr}{o:HO} (h:H a=none):Kp K H (upd H a o):=.of fun b u e=>.inl (by rw[av (aC e h)];exact e)
theorem Kp.put {K:PySem.W.Frag}{H:Hp}{a:Addr}{o u:HO} (h:H a=some o) (h1:∀ xs,o≠.tup xs) (h2:∀ u v,o≠.kB u v):Kp K H (upd H a u):=.of fun b v e=>by
 by_cases q:b=a
 ·subst q;rw[h] at e;cases e;exact .inr ⟨h1,h2⟩
 ·exact .inl (by rw[av q];exact e)
mutual
def Rv (K:PySem.W.Frag) (H:Hp):D→V→Prop
 | .au,v=>v=.au
 | .bl b,v=>v=.bl b
 | .int i,v=>v=.int i
 | .str z,v=>v=.str z
 | .tup ds,v=>∃ a xs,v=.ref a∧H a=some (.tup xs)∧RvAll K H ds xs
 | .i5 ds,v=>∃ a xs,v=.ref a∧Kw K H a xs∧RvAll K H ds xs
 | .kt ds,v=>∃ a xs,v=.ref a∧Vh K a xs∧RvAll K H ds xs
 | .ref a,v=>v=.ref a
 | .ty n,v=>v=.ty n
def RvAll (K:PySem.W.Frag) (H:Hp):List D→List V→Prop
 | [],xs=>xs=[]
 | d :: ds,xs=>∃ y ys,xs=y :: ys∧Rv K H d y∧RvAll K H ds ys
end
section
variable {K:PySem.W.Frag}{H H':Hp}
theorem hU:Rv K H .au .au:=by simp only [Rv]
theorem bL (b:Bool):Rv K H (.bl b) (.bl b):=by simp only [Rv]
theorem aQ (i:Int):Rv K H (.int i) (.int i):=by simp only [Rv]
theorem hW (z:Str):Rv K H (.str z) (.str z):=by simp only [Rv]
theorem i6 (a:Addr):Rv K H (.ref a) (.ref a):=by simp only [Rv]
theorem Qu (n:String):Rv K H (.ty n) (.ty n):=by simp only [Rv]
theorem Kx (h:Vh K a xs) (t:RvAll K H ds xs):Rv K H (.kt ds) (.ref a):=by simp only [Rv];exact⟨a,xs,rfl,h,t⟩
theorem kI (h:H a=some (.tup xs)) (t:RvAll K H ds xs):Rv K H (.tup ds) (.ref a):=by simp only [Rv];exact⟨a,xs,rfl,h,t⟩
theorem E8 (h:Kw K H a xs) (t:RvAll K H ds xs):Rv K H (.i5 ds) (.ref a):=by simp only [Rv];exact⟨a,xs,rfl,h,t⟩
theorem Rv.au (h:Rv K H .au v):v=.au:=by simpa only [Rv] using h
theorem Rv.bl (h:Rv K H (.bl b) v):v=.bl b:=by simpa only [Rv] using h
theorem Rv.int (h:Rv K H (.int i) v):v=.int i:=by simpa only [Rv] using h
theorem Rv.str (h:Rv K H (.str z) v):v=.str z:=by simpa only [Rv] using h
theorem Rv.ref (h:Rv K H (.ref a) v):v=.ref a:=by simpa only [Rv] using h
theorem Rv.ty (h:Rv K H (.ty n) v):v=.ty n:=by simpa only [Rv] using h
theorem Rv.kt (h:Rv K H (.kt ds) v):∃ a xs,v=.ref a∧Vh K a xs∧RvAll K H ds xs:=by simpa only [Rv] using h
theorem Rv.tup (h:Rv K H (.tup ds) v):∃ a xs,v=.ref a∧H a=some (.tup xs)∧RvAll K H ds xs:=by simpa only [Rv] using h
theorem Rv.i5 (h:Rv K H (.i5 ds) v):∃ a xs,v=.ref a∧Kw K H a xs∧RvAll K H ds xs:=by simpa only [Rv] using h
theorem bG:RvAll K H [] []:=by simp only [RvAll]
theorem aW (h:Rv K H d x) (t:RvAll K H ds xs):RvAll K H (d :: ds) (x :: xs):=by simp only [RvAll];exact⟨x,xs,rfl,h,t⟩
theorem RvAll.nil (h:RvAll K H [] xs):xs=[]:=by simpa only [RvAll] using h
theorem RvAll.cons (h:RvAll K H (d :: ds) xs):∃ y ys,xs=y :: ys∧Rv K H d y∧RvAll K H ds ys:=by simpa only [RvAll] using h
mutual
theorem Rv.ts (s:Kp K H H'):∀ (d:D) {v:V},Rv K H d v→Rv K H' d v
 | .au,v,h=>by simpa only [Rv] using h
 | .bl b,v,h=>by simpa only [Rv] using h
 | .int i,v,h=>by simpa only [Rv] using h
 | .str z,v,h=>by simpa only [Rv] using h
 | .tup ds,v,h=>by
  obtain⟨a,xs,rfl,e,t⟩:=h.tup
  exact kI (s.t _ _ e) (RvAll.ts s ds t)
 | .i5 ds,v,h=>by
  obtain⟨a,xs,rfl,e,t⟩:=h.i5
  exact E8 (s.r _ _ e) (RvAll.ts s ds t)
 | .kt ds,v,h=>by
  obtain⟨a,xs,rfl,e,t⟩:=h.kt
  exact Kx e (RvAll.ts s ds t)
 | .ref a,v,h=>by simpa only [Rv] using h
 | .ty n,v,h=>by simpa only [Rv] using h
theorem RvAll.ts (s:Kp K H H'):∀ (ds:List D) {xs:List V},RvAll K H ds xs→RvAll K H' ds xs
 | [],xs,h=>by rw[h.nil];exact bG
 | d :: ds,xs,h=>by
  obtain⟨y,ys,rfl,h1,h2⟩:=h.cons
  exact aW (Rv.ts s d h1) (RvAll.ts s ds h2)
end
theorem RvAll.len:∀ {ds:List D}{xs:List V},RvAll K H ds xs→xs.length=ds.length
 | [],xs,h=>by rw[h.nil];rfl
 | d :: ds,xs,h=>by
  obtain⟨y,ys,rfl,_,h2⟩:=h.cons
  rw[zM,zM,h2.len]
theorem RvAll.get:∀ {ds:List D}{xs:List V}{i:Nat}{d:D},RvAll K H ds xs→ds[i]?=some d→∃ v,xs[i]?=some v∧Rv K H d v
 | [],xs,i,d,h,e=>by simp at e
 | d0 :: ds,xs,0,d,h,e=>by
  obtain⟨y,ys,rfl,h1,h2⟩:=h.cons
  simp at e;subst e;exact⟨y,rfl,h1⟩
 | d0 :: ds,xs,i+1,d,h,e=>by
  obtain⟨y,ys,rfl,h1,h2⟩:=h.cons
  obtain⟨v,e1,e2⟩:=h2.get (i:=i) (by simpa using e)
  exact⟨v,by simpa using e1,e2⟩
theorem RvAll.app:∀ {ds es:List D}{xs ys:List V},RvAll K H ds xs→RvAll K H es ys→RvAll K H (ds++es) (xs++ys)
 | [],es,xs,ys,h,k=>by rw[h.nil];exact k
 | d :: ds,es,xs,ys,h,k=>by
  obtain⟨y,zs,rfl,h1,h2⟩:=h.cons
  exact aW h1 (h2.app k)
theorem RvAll.take:∀ {ds:List D}{xs:List V} (n:Nat),RvAll K H ds xs→RvAll K H (ds.take n) (xs.take n)
 | [],xs,n,h=>by rw[h.nil];simp only [List.take_nil];exact bG
 | d :: ds,xs,0,h=>by simp only [List.take_zero];exact bG
 | d :: ds,xs,n+1,h=>by
  obtain⟨y,zs,rfl,h1,h2⟩:=h.cons
  exact aW h1 (h2.take n)
theorem RvAll.drop:∀ {ds:List D}{xs:List V} (n:Nat),RvAll K H ds xs→RvAll K H (ds.drop n) (xs.drop n)
 | [],xs,n,h=>by rw[h.nil];simp only [List.drop_nil];exact bG
 | d :: ds,xs,0,h=>h
 | d :: ds,xs,n+1,h=>by
  obtain⟨y,zs,rfl,h1,h2⟩:=h.cons
  exact h2.drop n
theorem RvAll.set:∀ {ds:List D}{xs:List V}{d:D}{v:V} (n:Nat),RvAll K H ds xs→Rv K H d v→RvAll K H (ds.set n d) (xs.set n v)
 | [],xs,d,v,n,h,r=>by rw[h.nil];exact bG
 | d0 :: ds,xs,d,v,0,h,r=>by
  obtain⟨y,zs,rfl,h1,h2⟩:=h.cons
  exact aW r h2
 | d0 :: ds,xs,d,v,n+1,h,r=>by
  obtain⟨y,zs,rfl,h1,h2⟩:=h.cons
  exact aW h1 (h2.set n r)
theorem RvAll.dropLast:∀ {ds:List D}{xs:List V},RvAll K H ds xs→RvAll K H ds.dropLast xs.dropLast
 | [],xs,h=>by rw[h.nil];exact bG
 | [d],xs,h=>by
  obtain⟨y,zs,rfl,h1,h2⟩:=h.cons
  rw[h2.nil];exact bG
 | d :: e :: ds,xs,h=>by
  obtain⟨y,zs,rfl,h1,h2⟩:=h.cons
  obtain⟨y2,zs2,rfl,h3,h4⟩:=id h2.cons
  exact aW h1 (RvAll.dropLast h2)
theorem RvAll.bools:∀ {bs:List Bool}{xs:List V},RvAll K H (bs.map D.bl) xs→xs=bs.map V.bl
 | [],xs,h=>h.nil
 | b :: bs,xs,h=>by
  obtain⟨y,ys,rfl,h1,h2⟩:=h.cons
  rw[h1.bl,h2.bools];rfl
theorem RvAll.ints:∀ {bs:List Int}{xs:List V},RvAll K H (bs.map D.int) xs→xs=bs.map V.int
 | [],xs,h=>h.nil
 | b :: bs,xs,h=>by
  obtain⟨y,ys,rfl,h1,h2⟩:=h.cons
  rw[h1.int,h2.ints];rfl
theorem RvAll.strs:∀ {bs:List Str}{xs:List V},RvAll K H (bs.map D.str) xs→xs=bs.map V.str
 | [],xs,h=>h.nil
 | b :: bs,xs,h=>by
  obtain⟨y,ys,rfl,h1,h2⟩:=h.cons
  rw[h1.str,h2.strs];rfl
theorem Bo:∀ (bs:List Int),RvAll K H (bs.map D.int) (bs.map V.int)
 | []=>bG
 | b :: bs=>aW (aQ b) (Bo bs)
theorem t6:∀ (bs:List Str),RvAll K H (bs.map D.str) (bs.map V.str)
 | []=>bG
 | b :: bs=>aW (hW b) (t6 bs)
def bW {κ:Type} (K:PySem.W.Frag) (H:Hp):List (κ×D)→List (κ×V)→Prop:=Paired fun p q=>p.1=q.1∧Rv K H p.2 q.2
theorem bW.ts (s:Kp K H H'):∀ {ks:List (κ×D)}{vs:List (κ×V)},bW K H ks vs→bW K H' ks vs
 | _,_,.nil=>.nil
 | _,_,.cons r t=>.cons ⟨r.1,Rv.ts s _ r.2⟩ (bW.ts s t)
theorem bW.look (h:bW K H ks vs) (f:Str):(∀ d,ks.lookup f=some d→∃ v,vs.lookup f=some v∧Rv K H d v)∧(ks.lookup f=none→vs.lookup f=none):=by
 induction h with
 | nil=>exact⟨fun d e=>(by cases e),fun _=>rfl⟩
 | @cons a b l m r t ih =>
  obtain⟨k,d⟩:=a
  obtain⟨k',v⟩:=b
  obtain⟨rfl,r⟩:=r
  simp only [zT]
  cases q:f == k with
  | true=>exact⟨fun d' e=>⟨v,rfl,(by cases e;exact r)⟩,fun e=>(by cases e)⟩
  | false=>exact ih
end
inductive Ce where
 | lst (ds:List D) | dw (kvs:List (Key×D)) | ins (c:Addr) (fs:List (Str×D)) | well | exc (c:Addr) | tab (q:Str)
def Bp (H:Hp) (q:Str) (ps:Array Value):Prop:=TriplesOk ps.toList∧∀ pos cv,codeAmong pos ps.toList=some cv→∃ c o vs t,cv=.ref c∧H c=some (.kB o (.own 0))∧o.data=.fields vs∧vs[1]?=some (.str q t)
abbrev aT:=Addr→Option Ce
def aT.set (S:aT) (a:Addr) (c:Ce):aT:=fun b=>if b=a then some c else S b
theorem aa {S:aT}{a:Addr}{c:Ce} : S.set a c a=some c:=by unfold aT.set;rw[if_pos rfl]
theorem af {S:aT}{a b:Addr}{c:Ce} (h:b≠a):S.set a c b=S b:=by unfold aT.set;rw[if_neg h]
theorem dy {S:aT}{a:Addr}{c e:Ce} : (S.set a c).set a e=S.set a e:=by
 funext b;unfold aT.set;split <;> rfl
theorem gL {S:aT}{a b:Addr}{c:Ce} (h:S a=some c) (h':S b=none):a≠b:=by
 intro e;subst e;rw[h] at h';cases h'
def Rc (K:PySem.W.Frag) (H:Hp) (a:Addr):Ce→Prop
 | .lst ds=>∃ xs,H a=some (.lst xs)∧RvAll K H ds xs
 | .dw kvs=>∃ vs,H a=some (.dK vs)∧bW K H kvs vs
 | .ins c fs=>∃ dx vs,H a=some (.ins c dx vs)∧bW K H fs vs
 | .well=>∃ x y z:Int,H a=some (.lst [.int x,.int y,.int z])
 | .exc c=>H a=some (U7 a (.ref c))
 | .tab q=>∃ ps,H a=some (.oR ps)∧Bp H q ps
def Rs (K:PySem.W.Frag) (S:aT) (H:Hp):Prop:=∀ a c,S a=some c→Rc K H a c
section
variable {K:PySem.W.Frag}{H H':Hp}{S:aT}{a b:Addr}{c:Ce}
theorem Rc.has (h:Rc K H a c):∃ o,H a=some o∧(∀ xs,o≠.tup xs)∧∀ u v,o≠.kB u v:=by
 cases c with
 | lst ds=>obtain⟨xs,e,_⟩:=h;exact⟨_,e,fun _=>nofun,fun _ _=>nofun⟩
 | dw ds=>obtain⟨xs,e,_⟩:=h;exact⟨_,e,fun _=>nofun,fun _ _=>nofun⟩
 | ins c fs=>obtain⟨dx,vs,e,_⟩:=h;exact⟨_,e,fun _=>nofun,fun _ _=>nofun⟩
 | well=>obtain⟨x,y,z,e⟩:=h;exact⟨_,e,fun _=>nofun,fun _ _=>nofun⟩
 | exc c=>exact⟨_,h,fun _=>nofun,fun _ _=>nofun⟩
 | tab q=>obtain⟨ps,e,_⟩:=h;exact⟨_,e,fun _=>nofun,fun _ _=>nofun⟩
theorem Rc.keep (h:Rc K H a c) (e:∀ o,H a=some o→H' a=some o) (s:Kp K H H'):Rc K H' a c:=by
 cases c with
 | lst ds=>obtain⟨xs,e1,r⟩:=h;exact⟨xs,e _ e1,RvAll.ts s _ r⟩
 | dw ds=>obtain⟨xs,e1,r⟩:=h;exact⟨xs,e _ e1,r.ts s⟩
 | ins c fs=>obtain⟨dx,vs,e1,r⟩:=h;exact⟨dx,vs,e _ e1,r.ts s⟩
 | well=>obtain⟨x,y,z,e1⟩:=h;exact⟨x,y,z,e _ e1⟩
 | exc c=>exact e _ h
 | tab q=>obtain⟨ps,e1,r,r2⟩:=h;exact⟨ps,e _ e1,r,fun pos cv z=>by obtain⟨c,o,vs,t,z1,z2,z3⟩:=r2 pos cv z;exact⟨c,o,vs,t,z1,s.f _ _ _ z2,z3⟩⟩
theorem Rs.fresh (h:Rs K S H) (e:H a=none):S a=none:=by
 cases q:S a with
 | none=>rfl
 | some c=>obtain⟨o,e1,_⟩:=(h a c q).has;rw[e] at e1;cases e1
theorem Rs.new (h:Rs K S H) (e:H a=none) {o:HO} (r:Rc K (upd H a o) a c):Rs K (S.set a c) (upd H a o):=fun b x hb=>by
 by_cases q:b=a
 ·subst q;rw[aa] at hb;cases hb;exact r
 ·rw[af q] at hb
  exact (h b x hb).keep (fun o e1=>by rw[av q];exact e1) (Kp.new e)
theorem Rs.grow (h:Rs K S H) (e:H a=none):Rs K S (upd H a o):=fun b x hb=>by
 obtain⟨u,e1,_⟩:=(h b x hb).has
 have q:b≠a:=aC e1 e
 exact (h b x hb).keep (fun o e1=>by rw[av q];exact e1) (Kp.new e)
theorem Rs.hX (h:Rs K S H) (ha:S a=some e):Kp K H (upd H a o):=by
 obtain⟨u,e1,n1,n2⟩:=(h a e ha).has
 exact Kp.put e1 n1 n2
theorem Rs.put (h:Rs K S H) {e:Ce} (ha:S a=some e) {o:HO} (r:Rc K (upd H a o) a c):Rs K (S.set a c) (upd H a o):=fun b x hb=>by
 by_cases q:b=a
 ·subst q;rw[aa] at hb;cases hb;exact r
 ·rw[af q] at hb
  exact (h b x hb).keep (fun o e1=>by rw[av q];exact e1) (h.hX ha)
theorem Rs.lst (h:Rs K S H) (e:S a=some (.lst ds)):∃ xs,H a=some (.lst xs)∧RvAll K H ds xs:=h a _ e
theorem Rs.dw (h:Rs K S H) (e:S a=some (.dw ds)):∃ xs,H a=some (.dK xs)∧bW K H ds xs:=h a _ e
theorem Rs.ins {c:Addr}{fs:List (Str×D)} (h:Rs K S H) (e:S a=some (.ins c fs)):∃ dx vs,H a=some (.ins c dx vs)∧bW K H fs vs:=h a _ e
end
abbrev KD:=D→aT→Prop
abbrev KX:=Addr→aT→Prop
abbrev SD:=List (Option D)
def h_ (K:PySem.W.Frag) (H:Hp):SD→St→Prop:=Paired fun (o:Option D) (u:Option V)=>∀ d,o=some d→∃ v,u=some v∧Rv K H d v
section
variable {K:PySem.W.Frag}{H H':Hp}
theorem h_.ts (s:Kp K H H'):∀ {σ:SD}{τ:St},h_ K H σ τ→h_ K H' σ τ
 | _,_,.nil=>.nil
 | _,_,.cons r t=>.cons (fun d e=>by obtain⟨v,e1,r1⟩:=r d e;exact⟨v,e1,Rv.ts s _ r1⟩) (h_.ts s t)
theorem h_.get:∀ {σ:SD}{τ:St}{i:Nat}{d:D},h_ K H σ τ→σ[i]?=some (some d)→∃ v,τ[i]?=some (some v)∧Rv K H d v
 | _,_,i,d,.nil,e=>by simp at e
 | _,_,0,d,.cons r t,e=>by
  simp at e
  obtain⟨v,e1,r1⟩:=r d e
  exact⟨v,by simp [e1],r1⟩
 | _,_,i+1,d,.cons r t,e=>by
  obtain⟨v,e1,r1⟩:=h_.get (i:=i) t (by simpa using e)
  exact⟨v,by simpa using e1,r1⟩
theorem h_.set:∀ {σ:SD}{τ:St} (i:Nat) {d:D}{v:V},h_ K H σ τ→Rv K H d v→h_ K H (σ.set i (some d)) (τ.set i (some v))
 | _,_,i,d,v,.nil,r=>.nil
 | _,_,0,d,v,.cons r t,q=>.cons (fun d' e=>by cases e;exact⟨v,rfl,q⟩) t
 | _,_,i+1,d,v,.cons r t,q=>.cons r (h_.set i t q)
theorem pT:∀ (n:Nat) (τ:St),τ.length=n→h_ K H (List.replicate n none) τ
 | 0,[],_=>.nil
 | n+1,_ :: τ,h=>.cons (fun d e=>by cases e) (pT n τ (by simpa using h))
theorem pU:∀ {ds:List D}{vs:List V},RvAll K H ds vs→h_ K H (ds.map some) (vs.map some)
 | [],vs,h=>by rw[h.nil];exact .nil
 | d :: ds,vs,h=>by
  obtain⟨y,ys,rfl,h1,h2⟩:=h.cons
  exact .cons (fun d' e=>by cases e;exact⟨y,rfl,h1⟩) (pU h2)
theorem h_.app:∀ {σ aK:SD}{τ OM:St},h_ K H σ τ→h_ K H aK OM→h_ K H (σ++aK) (τ++OM)
 | _,_,_,_,.nil,h=>h
 | _,_,_,_,.cons r t,h=>.cons r (h_.app t h)
end
structure ZC (Y:Cx) (E:St→XK) (b:Bool):Prop where
 call:∀ p2 τ H s e s',Inv Y p2 τ H s→g6 Y.prog Y.w Y.stack H s (E τ) e s'→Y.xe e s'
 own:b=true→∀ p2 τ H s h' a cls args,Inv Y p2 τ H s→Heap.MadeExcOf s.heap h' a cls args→E τ cls none H→Y.xe (.ref a) { s with heap:=h' }
 loop:b=true→PassesOwn (model Y.prog Y.w) Y.A Y.env Y.xe
structure Ev (X:Cx) (b:Bool) where
 pn:List (Addr×Obj)
 xe:Value→Shared→Prop
 E:St→XK
 ok:ZC { X with pn:=pn,xe:=xe } E b
abbrev Ev.cx {X:Cx}{b:Bool} (y:Ev X b):Cx:={ X with pn:=y.pn,xe:=y.xe }
def Cn (K:PySem.W.Frag) (H:Hp) (R:KD) (Q:VK):Prop:=∀ d S v H',R d S→Rv K H' d v→Rs K S H'→Kp K H H'→Q v H'
def CK (K:PySem.W.Frag) (H:Hp) (Z:KX) (e:XK):Prop:=∀ C S H',Z C S→Rs K S H'→Kp K H H'→e (.ref C) none H'
theorem Cn.kp {K:PySem.W.Frag}{H H1:Hp}{R:KD}{Q:VK} (h:Cn K H R Q) (k:Kp K H H1):Cn K H1 R Q:=fun d S v H' r v1 s1 k1=>h d S v H' r v1 s1 (k.trans k1)
theorem CK.kp {K:PySem.W.Frag}{H H1:Hp}{Z:KX}{e:XK} (h:CK K H Z e) (k:Kp K H H1):CK K H1 Z e:=fun C S H' r s1 k1=>h C S H' r s1 (k.trans k1)
abbrev TD:=SD→aT→KD→KX→Prop
def T (K:PySem.W.Frag) (E:St→XK) (t:TD):TE:=fun τ H Q=>∃ σ S R Z,h_ K H σ τ∧Rs K S H∧t σ S R Z∧Cn K H R Q∧CK K H Z (E τ)
structure DE (K:PySem.W.Frag) (X:Cx) (e:Expr) (t:TD):Prop where
 of:∀ {b:Bool} (y:Ev X b),PE y.cx e (T K y.E t)
abbrev pV:=SD→aT→(Bool→aT→Prop)→KX→Prop
def SH (K:PySem.W.Frag) (H:Hp) (R:Bool→aT→Prop) (Q:Bool→Hp→Prop):Prop:=∀ b S H',R b S→Rs K S H'→Kp K H H'→Q b H'
theorem SH.kp {K:PySem.W.Frag}{H H1:Hp}{R:Bool→aT→Prop}{Q:Bool→Hp→Prop} (h:SH K H R Q) (k:Kp K H H1):SH K H1 R Q:=fun d S H' r s1 k1=>h d S H' r s1 (k.trans k1)
def Tt (K:PySem.W.Frag) (E:St→XK) (t:pV):TT:=fun τ H Q=>∃ σ S R Z,h_ K H σ τ∧Rs K S H∧t σ S R Z∧SH K H R Q∧CK K H Z (E τ)
structure DT (K:PySem.W.Frag) (X:Cx) (e:Expr) (t:pV):Prop where
 of:∀ {b:Bool} (y:Ev X b),PT y.cx e (Tt K y.E t)
abbrev oX:=SD→aT→(List D→aT→Prop)→KX→Prop
def ZD (K:PySem.W.Frag) (H:Hp) (R:List D→aT→Prop) (Q:List V→Hp→Prop):Prop:=∀ ds S vs H',R ds S→RvAll K H' ds vs→Rs K S H'→Kp K H H'→Q vs H'
def Ta (K:PySem.W.Frag) (E:St→XK) (t:oX):TA:=fun τ H Q=>∃ σ S R Z,h_ K H σ τ∧Rs K S H∧t σ S R Z∧ZD K H R Q∧CK K H Z (E τ)
structure DA (K:PySem.W.Frag) (X:Cx) (es:List Expr) (t:oX):Prop where
 of:∀ {b:Bool} (y:Ev X b),PA y.cx es (Ta K y.E t)
theorem PE.mono (h:PE X e t) (i:∀ τ H Q,t' τ H Q→t τ H Q):PE X e t':=fun pins s τ H Q I q=>h pins s τ H Q I (i τ H Q q)
theorem PT.mono (h:PT X e t) (i:∀ τ H Q,t' τ H Q→t τ H Q):PT X e t':=fun pins s τ H Q I q=>h pins s τ H Q I (i τ H Q q)
theorem PA.mono (h:PA X e t) (i:∀ τ H Q,t' τ H Q→t τ H Q):PA X e t':=fun pos pins s τ H Q I q=>h pos pins s τ H Q I (i τ H Q q)
section
variable {K:PySem.W.Frag}{X:Cx}
def Qv (i:Nat):TD:=fun σ S R _=>∃ d,σ[i]?=some (some d)∧R d S
def dC (d:D):TD:=fun _ S R _=>R d S
theorem dv (i:Nat) (hN:X.N[i]?=some x:=by rfl) (hv:Ox X.env.scope x:=by first | exact Or.inl rfl | exact Or.inr (Or.inl rfl) | exact Or.inr (Or.inr rfl)) (hd:(x == ("__debug__" : Str))=false:=by decide)
  (rh:(x == ("__classdict__" : Str))=false:=by decide):DE K X (.Name x pos) (Qv i) :=
 ⟨fun y=>(LK (X:=y.cx) hN hv hd rh).mono <| by rintro τ H Q ⟨σ,S,R,Z,aB,hS,⟨d,e,r⟩,hR,_⟩;exact by obtain⟨v,e1,rv⟩:=aB.get e;exact⟨v,e1,hR d S v H r rv hS (Kp.refl _)⟩⟩
theorem DE.const (h:∀ Y:Cx,Y.env=X.env→Y.mg=X.mg→PE Y e (tC v)) (r:∀ H,Rv K H d v):DE K X e (dC d) :=
 ⟨fun y=>(h y.cx rfl rfl).mono <| by rintro τ H Q ⟨σ,S,R,Z,aB,hS,q,hR,_⟩;exact hR d S v H q (r H) hS (Kp.refl _)⟩
theorem di:DE K X (.Constant (.int i) j pos) (dC (.int i)):=.const (fun _ _ _=>LL) fun _=>aQ i
theorem ds:DE K X (.Constant (.str i) j pos) (dC (.str i)):=.const (fun _ _ _=>LN) fun _=>hW i
theorem db:DE K X (.Constant (.bool i) j pos) (dC (.bl i)):=.const (fun _ _ _=>Kh) fun _=>bL i
theorem dn:DE K X (.Constant .none j pos) (dC .au):=.const (fun _ _ _=>LM) fun _=>hU
theorem dg (hm:X.mg x=some u) (r:RelV v u) (rd:∀ H,Rv K H d v) (hg:Gl X x:=by rfl) (hd:(x == ("__debug__" : Str))=false:=by decide):DE K X (.Name x pos) (dC d) :=
 .const (fun Y e1 e2=>A6 (X:=Y) (u:=u) (show Y.env.kindOf x=_ by rw[e1];exact hg) (by rw[e2];exact hm) r hd) rd
theorem sO (hm:X.mg x=none) (hv:bootBuiltins x=some (.type n)) (hg:Gl X x:=by rfl) (hn:x ≠ "__name__" := by decide) (hd:(x == ("__debug__" : Str))=false:=by decide):DE K X (.Name x pos) (dC (.ty n)) :=
 .const (fun Y e1 e2=>HN (X:=Y) (v:=.ty n) (show Y.env.kindOf x=_ by rw[e1];exact hg) (by rw[e2];exact hm) hv rfl hn hd) fun _=>Qu n
def M8:oX:=fun _ S R _=>R [] S
def Ky (t:TD) (u:oX):oX:=fun σ S R Z=>t σ S (fun d S1=>u σ S1 (fun ds S2=>R (d :: ds) S2) Z) Z
theorem an:DA K X [] M8:=⟨fun y=>(xM (X:=y.cx)).mono <| by rintro τ H Q ⟨σ,S,R,Z,aB,hS,q,hR,_⟩;exact hR [] S [] H q bG hS (Kp.refl _)⟩
theorem ac (h:DE K X e t) (hr:DA K X es u) (hp:isPlain e=true:=by rfl):DA K X (e :: es) (Ky t u) :=
 ⟨fun y=>(U4 (h.of y) (hr.of y) hp).mono <| by rintro τ H Q ⟨σ,S,R,Z,aB,hS,q,hR,hZ⟩;exact
  ⟨σ,S,_,Z,aB,hS,q,fun d S1 x H1 r1 v1 s1 k1=>⟨σ,S1,_,Z,aB.ts k1,s1,r1,fun ds S2 xs H2 r2 v2 s2 k2=>hR (d :: ds) S2 (x :: xs) H2 r2 (aW (Rv.ts k2 _ v1) v2) s2 (k1.trans k2),hZ.kp k1⟩,hZ⟩⟩
abbrev t9:=D→D→aT→KD→Prop
def Lr (K:PySem.W.Frag) (r:t9):R2:=fun x y H Q=>∃ d e S R,Rv K H d x∧Rv K H e y∧Rs K S H∧r d e S R∧Cn K H R Q
def ox (K:PySem.W.Frag) (f:Value→Value→Sem Value) (r:t9):Prop:=∀ X:Cx,X.K=K→X.A.units+64<cLine→fZ X f (Lr K r)
def M9 (r:t9) (ta tb:TD):TD:=fun σ S R Z=>ta σ S (fun x S1=>tb σ S1 (fun y S2=>r x y S2 R) Z) Z
theorem T.op (h:T K E (M9 r ta tb) τ H Q):Oz (Lr K r) (T K E ta) (T K E tb) τ H Q:=by
 obtain⟨σ,S,R,Z,aB,hS,q,hR,hZ⟩:=h
 exact⟨σ,S,_,Z,aB,hS,q,fun d S1 x H1 r1 v1 s1 k1=>⟨σ,S1,_,Z,aB.ts k1,s1,r1,fun e S2 y H2 r2 v2 s2 k2=>⟨d,e,S2,R,Rv.ts k2 _ v1,v2,s2,r2,hR.kp (k1.trans k2)⟩,hZ.kp k1⟩,hZ⟩
theorem bo (ho:ox K (binaryOp op) r) (hu:X.A.units+64<cLine) (ha:DE K X a ta) (hb:DE K X b tb) (hK:X.K=K:=by rfl):DE K X (.BinOp a op b pos) (M9 r ta tb) :=
 ⟨fun y=>(Pw (ho y.cx hK hu) (ha.of y) (hb.of y)).mono fun _ _ _ h=>h.op⟩
theorem cm (ho:ox K (compareOp op) r) (hu:X.A.units+64<cLine) (ha:DE K X a ta) (hb:DE K X b tb) (hm:behindInMarks op b=false:=by with_unfolding_all rfl) (hK:X.K=K:=by rfl):DE K X (.Compare a [op] [b] pos) (M9 r ta tb) :=
 ⟨fun y=>(Ba (ho y.cx hK hu) (ha.of y) (hb.of y) hm).mono fun _ _ _ h=>h.op⟩
def dB (t:TD):pV:=fun σ S R Z=>t σ S (fun x S1=>∃ b,x=.bl b∧R b S1) Z
theorem Tt.b (h:Tt K E (dB t) τ H Q):T K E t τ H fun x H'=>∃ k,x=.bl k∧Q k H':=by
 obtain⟨σ,S,R,Z,aB,hS,q,hR,hZ⟩:=h
 exact⟨σ,S,_,Z,aB,hS,q,by rintro d S1 x H1 ⟨b,e,r1⟩ v1 s1 k1;exact by subst e;exact⟨b,v1.bl,hR b S1 H1 r1 s1 k1⟩,hZ⟩
theorem Tt.ZE (h:Tt K E (dB (M9 r ta tb)) τ H Q):Ew (Oz (Lr K r) (T K E ta) (T K E tb)) τ H Q:=h.b.op
theorem bK (ho:ox K (compareOp op) r) (hu:X.A.units+64<cLine) (ha:DE K X a ta) (hb:DE K X b tb) (hm:behindInMarks op b=false:=by with_unfolding_all rfl) (hK:X.K=K:=by rfl):DT K X (.Compare a [op] [b] pos) (dB (M9 r ta tb)) :=
 ⟨fun y=>(H9 (ho y.cx hK hu) (ha.of y) (hb.of y) hm).mono fun _ _ _ h=>h.ZE⟩
theorem tv (h:DE K X e t) (he:∀ whole,isTrue e X.env whole=(do let v ← whole;standAt e.pos;holding [v] (truthy v)):=by intro _;rfl):DT K X e (dB t) :=
 ⟨fun y=>(LO (X:=y.cx) (h.of y) he).mono fun _ _ _ h=>h.b⟩
def yQ (r r':t9) (ta tb tc:TD):TD:=fun σ S R Z=>ta σ S (fun x S1=>tb σ S1 (fun y S2=>r x y S2 fun z S3=>∃ k,z=.bl k∧if k=true then tc σ S3 (fun w S4=>r' y w S4 R) Z else R (.bl false) S3) Z) Z
theorem T.chain (h:T K E (yQ r r' ta tb tc) τ H Q):xE (Lr K r) (Lr K r') (T K E ta) (T K E tb) (T K E tc) τ H Q:=by
 obtain⟨σ,S,R,Z,aB,hS,q,hR,hZ⟩:=h
 refine⟨σ,S,_,Z,aB,hS,q,fun d S1 x H1 r1 v1 s1 k1=>⟨σ,S1,_,Z,aB.ts k1,s1,r1,fun e S2 y H2 r2 v2 s2 k2=>⟨d,e,S2,_,Rv.ts k2 _ v1,v2,s2,r2,fun z S3 v H3 r3 v3 s3 k3=>?_⟩,hZ.kp k1⟩,hZ⟩
 obtain⟨k,rfl,r3⟩:=r3
 refine⟨k,v3.bl,?_⟩
 cases k with
 | true =>
  rw[if_pos rfl] at r3 ⊢
  exact⟨σ,S3,_,Z,((aB.ts k1).ts k2).ts k3,s3,r3,fun w S4 wv H4 r4 v4 s4 k4=>⟨e,w,S4,R,Rv.ts (k3.trans k4) _ v2,v4,s4,r4,hR.kp (((k1.trans k2).trans k3).trans k4)⟩,hZ.kp ((k1.trans k2).trans k3)⟩
 | false =>
  rw[if_neg zd] at r3 ⊢
  exact hR _ S3 _ H3 r3 (bL false) s3 ((k1.trans k2).trans k3)
theorem cc (ho:ox K (compareOp op) r) (xx:ox K (compareOp Cg) r') (hu:X.A.units+64<cLine) (ha:DE K X a ta) (hb:DE K X b tb) (hc:DE K X c tc)
  (hm:lastMarks [op,Cg] [b,c]=false:=by with_unfolding_all rfl) (hK:X.K=K:=by rfl):DE K X (.Compare a [op,Cg] [b,c] pos) (yQ r r' ta tb tc) :=
 ⟨fun y=>(Ex (ho y.cx hK hu) (xx y.cx hK hu) (ha.of y) (hb.of y) (hc.of y) hm).mono fun _ _ _ h=>h.chain⟩
theorem Vi (ho:ox K (compareOp op) r) (xx:ox K (compareOp Cg) r') (hu:X.A.units+64<cLine) (ha:DE K X a ta) (hb:DE K X b tb) (hc:DE K X c tc)
  (hm:lastMarks [op,Cg] [b,c]=false:=by with_unfolding_all rfl) (hK:X.K=K:=by rfl):DT K X (.Compare a [op,Cg] [b,c] pos) (dB (yQ r r' ta tb tc)) :=
 ⟨fun y=>(Ey (ho y.cx hK hu) (xx y.cx hK hu) (ha.of y) (hb.of y) (hc.of y) hm).mono fun _ _ _ h=>h.b.chain⟩
def Qw (ta tb:TD):TD:=fun σ S R Z=>ta σ S (fun x S1=>∃ c,x=.bl c∧if c=true then tb σ S1 R Z else R (.bl false) S1) Z
def Vj (ta tb:TD):TD:=fun σ S R Z=>ta σ S (fun x S1=>∃ c,x=.bl c∧if c=true then R (.bl true) S1 else tb σ S1 R Z) Z
def Qx (ta:TD):TD:=fun σ S R Z=>ta σ S (fun x S1=>∃ c,x=.bl c∧R (.bl (!c)) S1) Z
theorem Hv (h:DE K X a t):DE K X (.BoolOp op [a] pos) t:=⟨fun y=>LQ (h.of y)⟩
theorem rL {a b:Expr}{rest:List Expr}{ta tb:TD}{pos:Pos} (ha:DE K X a ta) (hb:DE K X (.BoolOp .And (b :: rest) pos) tb):DE K X (.BoolOp .And (a :: b :: rest) pos) (Qw ta tb) :=
 ⟨fun y=>(LR (ha.of y) (hb.of y)).mono <| by rintro τ H Q ⟨σ,S,R,Z,aB,hS,q,hR,hZ⟩;exact
  ⟨σ,S,_,Z,aB,hS,q,by
   rintro d S1 x H1 ⟨c,e,r1⟩ v1 s1 k1
   subst e
   refine⟨c,v1.bl,?_⟩
   cases c with
   | true=>rw[if_pos rfl] at r1 ⊢;exact⟨σ,S1,R,Z,aB.ts k1,s1,r1,hR.kp k1,hZ.kp k1⟩
   | false=>rw[if_neg zd] at r1 ⊢;exact hR _ S1 _ H1 r1 (bL false) s1 k1,hZ⟩⟩
theorem ZF {a b:Expr}{rest:List Expr}{ta tb:TD}{pos:Pos} (ha:DE K X a ta) (hb:DE K X (.BoolOp .Or (b :: rest) pos) tb):DE K X (.BoolOp .Or (a :: b :: rest) pos) (Vj ta tb) :=
 ⟨fun y=>(Pj (ha.of y) (hb.of y)).mono <| by rintro τ H Q ⟨σ,S,R,Z,aB,hS,q,hR,hZ⟩;exact
  ⟨σ,S,_,Z,aB,hS,q,by
   rintro d S1 x H1 ⟨c,e,r1⟩ v1 s1 k1
   subst e
   refine⟨c,v1.bl,?_⟩
   cases c with
   | false=>rw[if_neg zd] at r1 ⊢;exact⟨σ,S1,R,Z,aB.ts k1,s1,r1,hR.kp k1,hZ.kp k1⟩
   | true=>rw[if_pos rfl] at r1 ⊢;exact hR _ S1 _ H1 r1 (bL true) s1 k1,hZ⟩⟩
theorem M_ (ha:DE K X a ta):DE K X (.UnaryOp .Not a pos) (Qx ta) :=
 ⟨fun y=>(LS (ha.of y)).mono <| by rintro τ H Q ⟨σ,S,R,Z,aB,hS,q,hR,hZ⟩;exact
  ⟨σ,S,_,Z,aB,hS,q,by rintro d S1 x H1 ⟨c,e,r1⟩ v1 s1 k1;exact by subst e;exact⟨c,v1.bl,hR _ S1 _ H1 r1 (bL _) s1 k1⟩,hZ⟩⟩
def Vk (t:pV):pV:=fun σ S R Z=>t σ S (fun c S1=>R (!c) S1) Z
def Vl (t u:pV):pV:=fun σ S R Z=>t σ S (fun c S1=>if c=true then u σ S1 R Z else R false S1) Z
def ZG (t u:pV):pV:=fun σ S R Z=>t σ S (fun c S1=>if c=true then R true S1 else u σ S1 R Z) Z
theorem eC (ha:DT K X a t):DT K X (.UnaryOp .Not a pos) (Vk t) :=
 ⟨fun y=>(LP (ha.of y)).mono <| by rintro τ H Q ⟨σ,S,R,Z,aB,hS,q,hR,hZ⟩;exact⟨σ,S,_,Z,aB,hS,q,fun c S1 H1 r1 s1 k1=>hR _ S1 H1 r1 s1 k1,hZ⟩⟩
structure DW (K:PySem.W.Frag) (X:Cx) (e:Expr) (t:pV):Prop where
 of:∀ {b:Bool} (y:Ev X b),PW y.cx e (Tt K y.E t)
theorem PW.mono (h:PW X e t) (i:∀ τ H Q,t' τ H Q→t τ H Q):PW X e t':=fun wh pins s τ H Q I q=>h wh pins s τ H Q I (i τ H Q q)
theorem twd (h:DW K X e t):DT K X e t:=⟨fun y=>(h.of y).pt⟩
theorem tw1 (h:DT K X a t):DW K X (.BoolOp op [a] pos) t:=⟨fun y=>by
 cases op with
 | And=>exact pw_and1 (h.of y)
 | Or=>exact pw_or1 (h.of y)⟩
theorem twand {a b:Expr}{rest:List Expr}{t u:pV}{pos:Pos} (ha:DT K X a t) (hb:DW K X (.BoolOp .And (b :: rest) pos) u):DW K X (.BoolOp .And (a :: b :: rest) pos) (Vl t u) :=
 ⟨fun y=>(pw_and (ha.of y) (hb.of y)).mono <| by rintro τ H Q ⟨σ,S,R,Z,aB,hS,q,hR,hZ⟩;exact
  ⟨σ,S,_,Z,aB,hS,q,fun c S1 H1 r1 s1 k1=>by
   cases c with
   | true=>rw[if_pos rfl] at r1 ⊢;exact⟨σ,S1,R,Z,aB.ts k1,s1,r1,hR.kp k1,hZ.kp k1⟩
   | false=>rw[if_neg zd] at r1 ⊢;exact hR _ S1 H1 r1 s1 k1,hZ⟩⟩
theorem twor {a b:Expr}{rest:List Expr}{t u:pV}{pos:Pos} (ha:DT K X a t) (hb:DW K X (.BoolOp .Or (b :: rest) pos) u):DW K X (.BoolOp .Or (a :: b :: rest) pos) (ZG t u) :=
 ⟨fun y=>(pw_or (ha.of y) (hb.of y)).mono <| by rintro τ H Q ⟨σ,S,R,Z,aB,hS,q,hR,hZ⟩;exact
  ⟨σ,S,_,Z,aB,hS,q,fun c S1 H1 r1 s1 k1=>by
   cases c with
   | false=>rw[if_neg zd] at r1 ⊢;exact⟨σ,S1,R,Z,aB.ts k1,s1,r1,hR.kp k1,hZ.kp k1⟩
   | true=>rw[if_pos rfl] at r1 ⊢;exact hR _ S1 H1 r1 s1 k1,hZ⟩⟩
def Vm (t:pV) (ta tb:TD):TD:=fun σ S R Z=>t σ S (fun c S1=>if c=true then ta σ S1 R Z else tb σ S1 R Z) Z
theorem XT (hc:DT K X c t) (ha:DE K X a ta) (hb:DE K X b tb):DE K X (.IfExp c a b pos) (Vm t ta tb) :=
 ⟨fun y=>(Em (hc.of y) (ha.of y) (hb.of y)).mono <| by rintro τ H Q ⟨σ,S,R,Z,aB,hS,q,hR,hZ⟩;exact
  ⟨σ,S,_,Z,aB,hS,q,fun c S1 H1 r1 s1 k1=>by
   cases c with
   | true=>rw[if_pos rfl] at r1 ⊢;exact⟨σ,S1,R,Z,aB.ts k1,s1,r1,hR.kp k1,hZ.kp k1⟩
   | false=>rw[if_neg zd] at r1 ⊢;exact⟨σ,S1,R,Z,aB.ts k1,s1,r1,hR.kp k1,hZ.kp k1⟩,hZ⟩⟩
def Vn (t:oX):TD:=fun σ S R Z=>t σ S (fun ds S1=>ds.length≤sizeLine∧∀ p,S1 p=none→R (.ref p) (S1.set p (.lst ds))) Z
def Vo (t:oX):TD:=fun σ S R Z=>t σ S (fun ds S1=>ds.length≤sizeLine∧R (.tup ds) S1) Z
theorem dI (h:DA K X es t):DE K X (.List es pos) (Vn t) :=
 ⟨fun y=>(Ml (h.of y)).mono <| by rintro τ H Q ⟨σ,S,R,Z,aB,hS,q,hR,hZ⟩;exact
  ⟨σ,S,_,Z,aB,hS,q,by rintro ds S1 xs H1 ⟨hl,r1⟩ v1 s1 k1;exact⟨by rw[v1.len];exact hl,fun p hp=>hR _ _ _ _ (r1 p (s1.fresh hp)) (i6 p) (s1.new hp ⟨xs,aF,RvAll.ts (.new hp) _ v1⟩) (k1.trans (.new hp))⟩,hZ⟩⟩
theorem dJ (h:DA K X es t):DE K X (.Tuple es x1 pos) (Vo t) :=
 ⟨fun y=>(Mj (h.of y)).mono <| by rintro τ H Q ⟨σ,S,R,Z,aB,hS,q,hR,hZ⟩;exact
  ⟨σ,S,_,Z,aB,hS,q,by rintro ds S1 xs H1 ⟨hl,r1⟩ v1 s1 k1;exact⟨by rw[v1.len];exact hl,fun p hp=>hR _ _ _ _ r1 (kI aF (RvAll.ts (.new hp) _ v1)) (s1.grow hp) (k1.trans (.new hp))⟩,hZ⟩⟩
def Vp:TD:=fun _ S R _=>∀ p,S p=none→R (.ref p) (S.set p (.dw []))
theorem Qy:DE K X (.Dict [] [] pos) Vp :=
 ⟨fun y=>(EL (X:=y.cx)).mono <| by rintro τ H Q ⟨σ,S,R,Z,aB,hS,q,hR,hZ⟩ p hp;exact hR _ _ _ _ (q p (hS.fresh hp)) (i6 p) (hS.new hp ⟨[],aF,.nil⟩) (.new hp)⟩
def Lc (K:PySem.W.Frag) (r:List D→aT→KD→Prop):List V→Hp→VK→Prop:=fun xs H Q=>∃ ds S R,RvAll K H ds xs∧Rs K S H∧r ds S R∧Cn K H R Q
def iI (K:PySem.W.Frag) (f:Value) (r:List D→aT→KD→Prop):Prop:=∀ X:Cx,X.K=K→X.calm=true→fG X f (Lc K r)
def SI (r:List D→aT→KD→Prop) (t:oX):TD:=fun σ S R Z=>t σ S (fun ds S1=>r ds S1 R) Z
theorem T.cb (h:T K E (SI r t) τ H Q):Ux (Lc K r) (Ta K E t) τ H Q:=by
 obtain⟨σ,S,R,Z,aB,hS,q,hR,hZ⟩:=h
 exact⟨σ,S,_,Z,aB,hS,q,fun ds S1 xs H1 r1 v1 s1 k1=>⟨ds,S1,R,v1,s1,r1,hR.kp k1⟩,hZ⟩
theorem cb {x:Str}{id:String}{r:List D→aT→KD→Prop}{e:Expr}{es:List Expr}{t:oX}{p pos:Pos} (hc:iI K (.builtin id) r) (hm:X.mg x=none) (hv:bootBuiltins x=some (.builtin id)) (ha:DA K X (e :: es) t) (hg:Gl X x:=by rfl)
  (hn:x ≠ "__name__" := by decide) (pA:(x == ("__debug__" : Str))=false:=by decide) (he:starEach (e :: es) X.env=(false,eval e X.env) :: starEach es X.env:=by rfl) (gF:(backTo pos (starEach es X.env)).any (·.1)=false:=by rfl) (hK:X.K=K:=by rfl) (hC:X.calm=true:=by rfl) :
  DE K X (.Call (.Name x p) (e :: es) [] pos) (SI r t) :=
 ⟨fun y=>(vp (X:=y.cx) (hc _ hK hC) hg hm hv (ha.of y) hn pA he gF).mono fun _ _ _ h=>h.cb⟩
theorem ct {x:Str}{id:String}{r:List D→aT→KD→Prop}{e:Expr}{es:List Expr}{t:oX}{p pos:Pos} (hc:iI K (.type id) r) (hm:X.mg x=none) (hv:bootBuiltins x=some (.type id)) (ha:DA K X (e :: es) t) (hg:Gl X x:=by rfl)
  (hn:x ≠ "__name__" := by decide) (pA:(x == ("__debug__" : Str))=false:=by decide) (he:starEach (e :: es) X.env=(false,eval e X.env) :: starEach es X.env:=by rfl) (gF:(backTo pos (starEach es X.env)).any (·.1)=false:=by rfl) (hK:X.K=K:=by rfl) (hC:X.calm=true:=by rfl) :
  DE K X (.Call (.Name x p) (e :: es) [] pos) (SI r t) :=
 ⟨fun y=>(sF (X:=y.cx) (hc _ hK hC) hg hm hv (ha.of y) hn pA he gF).mono fun _ _ _ h=>h.cb⟩
end
section
variable {K:PySem.W.Frag}
theorem Cn.now (h:Cn K H R Q) (hS:Rs K S H) (r:R d S) (rv:Rv K H d v):Q v H:=h d S v H r rv hS (.refl _)
theorem Cn.new {H:Hp}{R:KD}{Q:VK}{S:aT}{p:Addr}{ds:List D}{xs:List V} (h:Cn K H R Q) (hS:Rs K S H) (hp:H p=none) (r:S p=none→R (.ref p) (S.set p (.lst ds))) (rv:RvAll K H ds xs):Q (.ref p) (upd H p (.lst xs)) :=
 h _ _ _ _ (r (hS.fresh hp)) (i6 p) (hS.new hp ⟨xs,aF,RvAll.ts (.new hp) _ rv⟩) (.new hp)
theorem Cn.Na {H:Hp}{R:KD}{Q:VK}{S:aT}{p:Addr}{ds:List D}{xs:List V} (h:Cn K H R Q) (hS:Rs K S H) (hp:H p=none) (r:R (.tup ds) S) (rv:RvAll K H ds xs):Q (.ref p) (upd H p (.tup xs)) :=
 h _ _ _ _ r (kI aF (RvAll.ts (.new hp) _ rv)) (hS.grow hp) (.new hp)
theorem Cn.put {H:Hp}{R:KD}{Q:VK}{S:aT}{p:Addr}{ds es:List D}{xs:List V}{d:D}{v:V} (h:Cn K H R Q) (hS:Rs K S H) (hp:S p=some (.lst es)) (r:R d (S.set p (.lst ds))) (rd:Rv K H d v) (rv:RvAll K H ds xs):Q v (upd H p (.lst xs)) :=
 h _ _ _ _ r (Rv.ts (hS.hX hp) _ rd) (hS.put hp ⟨xs,aF,RvAll.ts (hS.hX hp) _ rv⟩) (hS.hX hp)
def sP (S:aT):D→List D→Prop
 | .ref a,ds=>S a=some (.lst ds)
 | .i5 es,ds=>es=ds
 | _,_=>False
theorem sP.at {H:Hp}{S:aT}{d:D}{ds:List D}{v:V} (h:sP S d ds) (hS:Rs K S H) (r:Rv K H d v):∃ a xs,v=.ref a∧jH K H a xs∧RvAll K H ds xs:=by
 cases d with
 | ref a =>
  obtain⟨xs,e,q⟩:=hS.lst h
  exact⟨a,xs,r.ref,.of e,q⟩
 | i5 es =>
  have h:es=ds:=h
  subst h
  obtain⟨a,xs,e,q,t⟩:=r.i5
  exact⟨a,xs,e,q.sq,t⟩
 | _=>exact h.elim
def Vq:t9:=fun x y S R=>match x,y with
 | .int i,.int j=>R (.int (i+j)) S
 | .str a,.str b=>a.length+b.length≤sizeLine∧R (.str (a++b)) S
 | .tup a,.tup b=>a.length+b.length≤sizeLine∧R (.tup (a++b)) S
 | .ref a,.ref b=>∃ xs ys,S a=some (.lst xs)∧S b=some (.lst ys)∧xs.length+ys.length≤sizeLine∧∀ p,S p=none→R (.ref p) (S.set p (.lst (xs++ys)))
 | _,_=>False
theorem eF:ox K (binaryOp .Add) Vq:=by
 rintro X hK hu pins s σ H x y v u Q I rx ry ⟨d,e,S,R,r1,r2,hS,h,hR⟩
 subst hK
 cases d with
 | int i =>
  cases e with
  | int j=>exact L9 pins s σ H x y v u Q I rx ry ⟨i,j,r1.int,r2.int,hR.now hS h (aQ _)⟩
  | _=>exact h.elim
 | str i =>
  cases e with
  | str j=>exact xF pins s σ H x y v u Q I rx ry ⟨i,j,r1.str,r2.str,h.1,hR.now hS h.2 (hW _)⟩
  | _=>exact h.elim
 | tup i =>
  cases e with
  | tup j =>
   obtain⟨a,xs,rfl,q1,t1⟩:=r1.tup
   obtain⟨b,ys,rfl,q2,t2⟩:=r2.tup
   refine IJ pins s σ H _ _ v u Q I rx ry ⟨a,b,xs,ys,rfl,rfl,.of q1,.of q2,by rw[t1.len,t2.len];exact h.1,fun e=>?_,fun _ e=>?_,fun _ _ p hp=>hR.Na hS hp h.2 (t1.app t2)⟩
   ·subst e
    have:i=[]:=List.length_eq_zero_iff.mp t1.len.symm
    subst this
    exact hR.now hS h.2 (kI q2 t2)
   ·subst e
    have:j=[]:=List.length_eq_zero_iff.mp t2.len.symm
    subst this
    exact hR.now hS h.2 (by rw[List.append_nil];exact kI q1 t1)
  | _=>exact h.elim
 | ref a =>
  cases e with
  | ref b =>
   obtain⟨xs,ys,e1,e2,hl,q⟩:=h
   obtain⟨vs,h1,t1⟩:=hS.lst e1
   obtain⟨ws,h2,t2⟩:=hS.lst e2
   exact Mz pins s σ H x y v u Q I rx ry ⟨a,b,vs,ws,r1.ref,r2.ref,h1,h2,by rw[t1.len,t2.len];exact hl,fun p hp=>hR.new hS hp (q p) (t1.app t2)⟩
  | _=>exact h.elim
 | _=>exact h.elim
def Vr:t9:=fun x y S R=>match x,y with
 | .int i,.int j=>R (.int (i - j)) S
 | _,_=>False
theorem sQ:ox K (binaryOp .Sub) Vr:=by
 rintro X hK hu pins s σ H x y v u Q I rx ry ⟨d,e,S,R,r1,r2,hS,h,hR⟩
 cases d <;> cases e <;> first | exact False.elim h | exact L_ pins s σ H x y v u Q I rx ry ⟨_,_,r1.int,r2.int,hR.now hS h (aQ _)⟩
def Vs:t9:=fun x y S R=>match x,y with
 | .int i,.int j=>HY i j∧R (.int (i * j)) S
 | .str z,.int n=>MulOk z n∧R (.str (PySem.Txt.mul z n)) S
 | _,_=>False
theorem kr:ox K (binaryOp .Mult) Vs:=by
 rintro X hK hu pins s σ H x y v u Q I rx ry ⟨d,e,S,R,r1,r2,hS,h,hR⟩
 cases d <;> cases e <;> first
  | exact False.elim h
  | exact Ma pins s σ H x y v u Q I rx ry ⟨_,_,r1.int,r2.int,h.1,hR.now hS h.2 (aQ _)⟩
  | exact yN pins s σ H x y v u Q I rx ry ⟨_,_,r1.str,r2.int,h.1,hR.now hS h.2 (hW _)⟩
def Vt:t9:=fun x y S R=>match x,y with
 | .int i,.int j=>0<j∧R (.int (i % j)) S
 | _,_=>False
theorem ku:ox K (binaryOp .Mod) Vt:=by
 rintro X hK hu pins s σ H x y v u Q I rx ry ⟨d,e,S,R,r1,r2,hS,h,hR⟩
 cases d <;> cases e <;> first | exact False.elim h | exact Mb pins s σ H x y v u Q I rx ry ⟨_,_,r1.int,r2.int,h.1,hR.now hS h.2 (aQ _)⟩
def Qz:t9:=fun x y S R=>match x,y with
 | .int i,.int j=>Ks i j∧R (.int (i / j)) S
 | _,_=>False
theorem yR:ox K (binaryOp .FloorDiv) Qz:=by
 rintro X hK hu pins s σ H x y v u Q I rx ry ⟨d,e,S,R,r1,r2,hS,h,hR⟩
 cases d <;> cases e <;> first | exact False.elim h | exact ER pins s σ H x y v u Q I rx ry ⟨_,_,r1.int,r2.int,h.1,hR.now hS h.2 (aQ _)⟩
def Vu:t9:=fun x y S R=>match x,y with
 | .int i,.int j=>Pz i j∧R (.int (i ^ j.toNat)) S
 | _,_=>False
theorem Bq:ox K (binaryOp .Pow) Vu:=by
 rintro X hK hu pins s σ H x y v u Q I rx ry ⟨d,e,S,R,r1,r2,hS,h,hR⟩
 cases d <;> cases e <;> first | exact False.elim h | exact Mc pins s σ H x y v u Q I rx ry ⟨_,_,r1.int,r2.int,h.1,hR.now hS h.2 (aQ _)⟩
def E9 (f:Int→Int→Bool) (g:Str→Str→Bool):t9:=fun x y S R=>match x,y with
 | .int i,.int j=>R (.bl (f i j)) S
 | .str i,.str j=>R (.bl (g i j)) S
 | _,_=>False
theorem Br (h1:∀ X:Cx,fZ X (compareOp op) (HW fun i j=>.bl (f i j)))
  (h2:∀ X:Cx,fZ X (compareOp op) (fun x y H Q=>∃ i j,x=.str i∧y=.str j∧Q (.bl (g i j)) H)):ox K (compareOp op) (E9 f g):=by
 rintro X hK hu pins s σ H x y v u Q I rx ry ⟨d,e,S,R,r1,r2,hS,h,hR⟩
 cases d <;> cases e <;> first
  | exact False.elim h
  | exact h1 X pins s σ H x y v u Q I rx ry ⟨_,_,r1.int,r2.int,hR.now hS h (bL _)⟩
  | exact h2 X pins s σ H x y v u Q I rx ry ⟨_,_,r1.str,r2.str,hR.now hS h (bL _)⟩
theorem yS:ox K (compareOp .Lt) (E9 (fun i j=>decide (i<j)) fun i j=>ou i j):=Br (fun _=>PC) fun _=>Cd
theorem kJ:ox K (compareOp .LtE) (E9 (fun i j=>decide (i≤j)) fun i j=>Ef i j):=Br (fun _=>PD) fun _=>Cv
theorem oy:ox K (compareOp .Gt) (E9 (fun i j=>decide (j<i)) fun i j=>ou j i):=Br (fun _=>PF) fun _=>Cy
theorem Vv:ox K (compareOp .GtE) (E9 (fun i j=>decide (j≤i)) fun i j=>Ef j i):=Br (fun _=>PH) fun _=>Cw
def ah:D→Bool
 | .au=>true
 | _=>false
theorem vL (r:Rv K H d v):decide (v=.au)=ah d:=by
 cases d with
 | au=>rw[r.au];rfl
 | bl b=>rw[r.bl];rfl
 | int b=>rw[r.int];rfl
 | str b=>rw[r.str];rfl
 | ref b=>rw[r.ref];rfl
 | ty b=>rw[r.ty];rfl
 | tup b=>obtain⟨a,xs,rfl,_⟩:=r.tup;rfl
 | i5 b=>obtain⟨a,xs,rfl,_⟩:=r.i5;rfl
 | kt b=>obtain⟨a,xs,rfl,_⟩:=r.kt;rfl
def XU:t9:=fun x y S R=>match y with
 | .au=>R (.bl (ah x)) S
 | _=>False
def QA:t9:=fun x y S R=>match y with
 | .au=>R (.bl (!ah x)) S
 | _=>False
theorem mL:ox K (compareOp .Is) XU:=by
 rintro X hK hu pins s σ H x y v u Q I rx ry ⟨d,e,S,R,r1,r2,hS,h,hR⟩
 cases e <;> first | exact False.elim h | exact Me pins s σ H x y v u Q I rx ry ⟨r2.au,by rw[vL r1];exact hR.now hS h (bL _)⟩
theorem pW:ox K (compareOp .IsNot) QA:=by
 rintro X hK hu pins s σ H x y v u Q I rx ry ⟨d,e,S,R,r1,r2,hS,h,hR⟩
 cases e <;> first | exact False.elim h | exact HZ pins s σ H x y v u Q I rx ry ⟨r2.au,by rw[vL r1];exact hR.now hS h (bL _)⟩
mutual
def Dp (S:aT):D→PyData→Prop
 | .au,p=>p=.none
 | .bl b,p=>p=.bool b
 | .int i,p=>p=.int i
 | .str z,p=>p=.str z
 | .tup ds,p=>∃ ps,p=.tuple ps∧DpAll S ds ps
 | .i5 ds,p=>∃ ps,p=.list ps∧DpAll S ds ps
 | .kt _,_=>False
 | .ref _,_=>False
 | .ty _,_=>False
def DpAll (S:aT):List D→List PyData→Prop
 | [],ps=>ps=[]
 | d :: ds,ps=>∃ q qs,ps=q :: qs∧Dp S d q∧DpAll S ds qs
end
mutual
theorem Dp.dt:∀ (d:D) {p:PyData}{v:V},Dp S d p→Rv K H d v→Dt K H p v
 | .au,p,v,h,r=>by simp only [Dp] at h;subst h;simp only [Dt];exact r.au
 | .bl b,p,v,h,r=>by simp only [Dp] at h;subst h;simp only [Dt];exact r.bl
 | .int b,p,v,h,r=>by simp only [Dp] at h;subst h;simp only [Dt];exact r.int
 | .str b,p,v,h,r=>by simp only [Dp] at h;subst h;simp only [Dt];exact r.str
 | .tup ds,p,v,h,r=>by
  simp only [Dp] at h
  obtain⟨ps,rfl,h⟩:=h
  obtain⟨a,xs,rfl,q,t⟩:=r.tup
  simp only [Dt]
  exact⟨a,xs,rfl,.of q,DpAll.dt ds h t⟩
 | .i5 ds,p,v,h,r=>by
  simp only [Dp] at h
  obtain⟨ps,rfl,h⟩:=h
  obtain⟨a,xs,rfl,q,t⟩:=r.i5
  simp only [Dt]
  exact⟨a,xs,rfl,q.sq,DpAll.dt ds h t⟩
 | .kt a,p,v,h,r=>by simp only [Dp] at h
 | .ref a,p,v,h,r=>by simp only [Dp] at h
 | .ty a,p,v,h,r=>by simp only [Dp] at h
theorem DpAll.dt:∀ (ds:List D) {ps:List PyData}{vs:List V},DpAll S ds ps→RvAll K H ds vs→DtAll K H ps vs
 | [],ps,vs,h,r=>by simp only [DpAll] at h;subst h;rw[r.nil];simp only [DtAll]
 | d :: ds,ps,vs,h,r=>by
  simp only [DpAll] at h
  obtain⟨q,qs,rfl,h1,h2⟩:=h
  obtain⟨y,ys,rfl,r1,r2⟩:=r.cons
  simp only [DtAll]
  exact⟨y,ys,rfl,Dp.dt d h1 r1,DpAll.dt ds h2 r2⟩
end
def Dl (S:aT):D→PyData→Prop
 | .ref a,p=>∃ ds ps,S a=some (.lst ds)∧p=.list ps∧DpAll S ds ps
 | d,p=>Dp S d p
theorem Dl.dt (h:Dl S d p) (hS:Rs K S H) (r:Rv K H d v):Dt K H p v:=by
 cases d with
 | ref a =>
  obtain⟨ds,ps,e,rfl,h⟩:=h
  obtain⟨xs,e1,t⟩:=hS.lst e
  rw[r.ref]
  simp only [Dt]
  exact⟨a,xs,rfl,.of e1,DpAll.dt ds h t⟩
 | _=>exact Dp.dt _ h r
def Hw (neg:Bool):t9:=fun x y S R=>match x,y with
 | .int i,.int j=>R (.bl (if neg then !decide (i=j) else decide (i=j))) S
 | .str i,.str j=>R (.bl (if neg then !decide (i=j) else decide (i=j))) S
 | x,y=>∃ p q,Dl S x p∧Dl S y q∧p.canLay0=true∧q.canLay0=true∧(p.depth≤64∨q.depth≤64)∧R (.bl (if neg then !PyData.eqv p q else PyData.eqv p q)) S
theorem E_ (h:Hw neg x y S R):(∃ i j,x=.int i∧y=.int j∧R (.bl (if neg then !decide (i=j) else decide (i=j))) S)∨(∃ i j,x=.str i∧y=.str j∧R (.bl (if neg then !decide (i=j) else decide (i=j))) S) ∨
  ∃ p q,Dl S x p∧Dl S y q∧p.canLay0=true∧q.canLay0=true∧(p.depth≤64∨q.depth≤64)∧R (.bl (if neg then !PyData.eqv p q else PyData.eqv p q)) S:=by
 cases x <;> cases y <;> first | exact .inl ⟨_,_,rfl,rfl,h⟩ | exact .inr (.inl ⟨_,_,rfl,rfl,h⟩) | exact .inr (.inr h)
theorem bc:ox K (compareOp .Eq) (Hw false):=by
 rintro X hK hu pins s σ H x y v u Q I rx ry ⟨d,e,S,R,r1,r2,hS,h,hR⟩
 subst hK
 rcases E_ h with ⟨i,j,rfl,rfl,h⟩ | ⟨i,j,rfl,rfl,h⟩ | ⟨p,q,h1,h2,c1,c2,dp,h⟩
 ·cases r1.int;cases r2.int
  refine Kj pins s σ H _ _ v u Q I rx ry ⟨rfl,?_⟩
  have e:decide (V.int i=V.int j)=decide (i=j):=by simp
  rw[e];exact hR.now hS h (bL _)
 ·cases r1.str;cases r2.str
  refine Kj pins s σ H _ _ v u Q I rx ry ⟨rfl,?_⟩
  have e:decide (V.str i=V.str j)=decide (i=j):=by simp
  rw[e];exact hR.now hS h (bL _)
 ·exact MP hu pins s σ H x y v u Q I rx ry ⟨p,q,h1.dt hS r1,h2.dt hS r2,c1,c2,dp,hR.now hS h (bL _)⟩
theorem j7:ox K (compareOp .NotEq) (Hw true):=by
 rintro X hK hu pins s σ H x y v u Q I rx ry ⟨d,e,S,R,r1,r2,hS,h,hR⟩
 subst hK
 rcases E_ h with ⟨i,j,rfl,rfl,h⟩ | ⟨i,j,rfl,rfl,h⟩ | ⟨p,q,h1,h2,c1,c2,dp,h⟩
 ·cases r1.int;cases r2.int
  refine Kk pins s σ H _ _ v u Q I rx ry ⟨rfl,?_⟩
  have e:decide (V.int i=V.int j)=decide (i=j):=by simp
  rw[e];exact hR.now hS h (bL _)
 ·cases r1.str;cases r2.str
  refine Kk pins s σ H _ _ v u Q I rx ry ⟨rfl,?_⟩
  have e:decide (V.str i=V.str j)=decide (i=j):=by simp
  rw[e];exact hR.now hS h (bL _)
 ·exact MQ hu pins s σ H x y v u Q I rx ry ⟨p,q,h1.dt hS r1,h2.dt hS r2,c1,c2,dp,hR.now hS h (bL _)⟩
def cy (kvs:List (Key×D)) (k:Key):Option D:=(kvs.find? fun kv=>decide (kv.1=k)).map (·.2)
def dput (kvs:List (Key×D)) (k:Key) (v:D):List (Key×D):=if (kvs.any fun kv=>decide (kv.1=k))=true then kvs.map (fun kv=>if kv.1=k then (kv.1,v) else kv) else kvs++[(k,v)]
def vM (kvs:List (Key×D)) (k:Key):List (Key×D):=kvs.filter fun kv=>decide (kv.1≠k)
theorem bW.val (h:bW K H ks vs) (k:Key):(∀ d,cy ks k=some d→∃ v,fV vs k=some v∧Rv K H d v)∧(cy ks k=none→fV vs k=none):=by
 induction h with
 | nil=>exact⟨fun d e=>(by cases e),fun _=>rfl⟩
 | @cons a b l m r t ih =>
  obtain⟨k',d⟩:=a
  obtain⟨k'',v⟩:=b
  obtain⟨e0,r⟩:=r
  dsimp only at e0
  subst e0
  unfold cy fV
  simp only [zQ]
  by_cases q:k'=k
  ·rw[zu q];exact⟨fun d' e=>⟨v,rfl,(by cases e;exact r)⟩,fun e=>(by cases e)⟩
  ·rw[zr q];exact ih
theorem bW.any (h:bW K H ks vs) (k:Key):(ks.any fun kv=>decide (kv.1=k))=(vs.any fun kv=>decide (kv.1=k)):=by
 induction h with
 | nil=>rfl
 | cons r t ih=>rw[yG,yG,ih,r.1]
theorem bW.len (h:bW K H ks vs):vs.length=ks.length:=(yK h).symm
theorem bW.app:∀ {ks ls:List (κ×D)}{vs ws:List (κ×V)},bW K H ks vs→bW K H ls ws→bW K H (ks++ls) (vs++ws)
 | _,_,_,_,.nil,h=>h
 | _,_,_,_,.cons r t,h=>.cons r (bW.app t h)
theorem bW.MA (h:bW K H ks vs) (k:Key) (rd:Rv K H d v):bW K H (ks.map fun kv=>if kv.1=k then (kv.1,d) else kv) (vs.map fun kv=>if kv.1=k then (kv.1,v) else kv):=by
 induction h with
 | nil=>exact .nil
 | @cons a b l m r t ih =>
  refine .cons ?_ ih
  dsimp only
  by_cases q:b.1=k
  ·rw[if_pos q,if_pos (r.1.trans q)];exact⟨r.1,rd⟩
  ·rw[if_neg q,if_neg fun z=>q (r.1.symm.trans z)];exact r
theorem bW.put (h:bW K H ks vs) (k:Key) (rd:Rv K H d v):bW K H (dput ks k d) (putK vs k v):=by
 unfold dput putK
 rw[h.any k]
 split
 ·exact h.MA k rd
 ·exact h.app (.cons ⟨rfl,rd⟩ .nil)
theorem bW.drop (h:bW K H ks vs) (k:Key):bW K H (vM ks k) (nT vs k):=by
 unfold vM nT
 induction h with
 | nil=>exact .nil
 | @cons a b l m r t ih =>
  rw[yo,yo,r.1]
  by_cases q:b.1=k
  ·rw[if_neg (by simp [q]),if_neg (by simp [q])];exact ih
  ·rw[if_pos (by simp [q]),if_pos (by simp [q])];exact .cons r ih
def yT:D→Option Key
 | .int i=>some (.inl i)
 | .str z=>some (.inr z)
 | _=>none
theorem kK (h:yT d=some k) (r:Rv K H d v):v=kV k:=by
 cases d with
 | int i=>cases h;exact r.int
 | str i=>cases h;exact r.str
 | _=>cases h
def iJ:D→Bool
 | .au=>true | .bl _=>true | .int _=>true | .str _=>true
 | _=>false
def j8:D→V
 | .au=>.au | .bl b=>.bl b | .int i=>.int i | .str z=>.str z | .ref a=>.ref a | .ty n=>.ty n
 | _=>.au
theorem i7 (h:iJ d=true) (r:Rv K H d v):v=j8 d∧gH v=true:=by
 cases d with
 | au=>cases r.au;exact⟨rfl,rfl⟩
 | bl b=>cases r.bl;exact⟨rfl,rfl⟩
 | int b=>cases r.int;exact⟨rfl,rfl⟩
 | str b=>cases r.str;exact⟨rfl,rfl⟩
 | _=>cases h
theorem f6:∀ {ds:List D}{vs:List V},ds.all iJ=true→RvAll K H ds vs→vs=ds.map j8∧vs.all gH=true
 | [],vs,_,r=>by rw[r.nil];exact⟨rfl,rfl⟩
 | d :: ds,vs,h,r=>by
  obtain⟨y,ys,rfl,r1,r2⟩:=r.cons
  rw[List.all_cons,zL] at h
  obtain⟨e1,f1⟩:=i7 h.1 r1
  obtain⟨e2,f2⟩:=f6 h.2 r2
  refine⟨by rw[e1,e2];rfl,?_⟩
  rw[List.all_cons,f1,f2];rfl
def inD (neg:Bool):t9:=fun x y S R=>match y with
 | .str j=>∃ i,x=.str i∧R (.bl (if neg then !(!(Builtin.Str.occurrences j i 0 j.length 1).isEmpty) else !(Builtin.Str.occurrences j i 0 j.length 1).isEmpty)) S
 | .kt ds=>iJ x=true∧ds.all iJ=true∧R (.bl (if neg then !tT (j8 x) (ds.map j8) else tT (j8 x) (ds.map j8))) S
 | .tup ds=>iJ x=true∧ds.all iJ=true∧R (.bl (if neg then !tT (j8 x) (ds.map j8) else tT (j8 x) (ds.map j8))) S
 | .ref a=>(∃ ds,S a=some (.lst ds)∧iJ x=true∧ds.all iJ=true∧R (.bl (if neg then !tT (j8 x) (ds.map j8) else tT (j8 x) (ds.map j8))) S) ∨
   ∃ kvs k,S a=some (.dw kvs)∧yT x=some k∧R (.bl (if neg then !(cy kvs k).isSome else (cy kvs k).isSome)) S
 | _=>False
theorem oY (hS:Rs K S H) (e:S a=some (.dw kvs)):∃ o,mH H a (kV k) o∧o.isSome=(cy kvs k).isSome∧∀ d,cy kvs k=some d→∃ v,o=some v∧Rv K H d v:=by
 obtain⟨vs,e1,t⟩:=hS.dw e
 refine⟨_,mH.k e1,?_,fun d h=>(t.val k).1 d h⟩
 cases q:cy kvs k with
 | none=>rw[(t.val k).2 q];rfl
 | some d=>obtain⟨v,e2,_⟩:=(t.val k).1 d q;rw[e2];rfl
theorem vN:ox K (compareOp .In) (inD false):=by
 rintro X hK hu pins s σ H x y v u Q I rx ry ⟨d,e,S,R,r1,r2,hS,h,hR⟩
 subst hK
 cases e with
 | str j =>
  obtain⟨i,rfl,h⟩:=h
  exact Cf pins s σ H x y v u Q I rx ry ⟨i,j,r1.str,r2.str,hR.now hS h (bL _)⟩
 | tup ds =>
  obtain⟨f1,f2,h⟩:=h
  obtain⟨a,xs,rfl,q,t⟩:=r2.tup
  obtain⟨e1,g1⟩:=i7 f1 r1
  obtain⟨e2,g2⟩:=f6 f2 t
  subst e1 e2
  exact mG pins s σ H _ _ v u Q I rx ry ⟨a,_,rfl,.inr (.of q),g1,g2,hR.now hS h (bL _)⟩
 | kt ds =>
  obtain⟨f1,f2,h⟩:=h
  obtain⟨a,xs,rfl,q,t⟩:=r2.kt
  obtain⟨e1,g1⟩:=i7 f1 r1
  obtain⟨e2,g2⟩:=f6 f2 t
  subst e1 e2
  exact mG pins s σ H _ _ v u Q I rx ry ⟨a,_,rfl,.inr (.inr q),g1,g2,hR.now hS h (bL _)⟩
 | ref a =>
  cases r2.ref
  rcases h with ⟨ds,e,f1,f2,h⟩ | ⟨kvs,k,e,hk,h⟩
  ·obtain⟨xs,e1,t⟩:=hS.lst e
   obtain⟨e2,g1⟩:=i7 f1 r1
   obtain⟨e3,g2⟩:=f6 f2 t
   subst e2 e3
   exact mG pins s σ H _ _ v u Q I rx ry ⟨a,_,rfl,.inl (.of e1),g1,g2,hR.now hS h (bL _)⟩
  ·cases kK hk r1
   cases ry
   obtain⟨o,g,e1,_⟩:=oY (k:=k) hS e
   refine UK (by omega) I g rx fun s' I'=>⟨.bl o.isSome,H,I',rfl,?_⟩
   rw[e1];exact hR.now hS h (bL _)
 | _=>exact h.elim
theorem QB:ox K (compareOp .NotIn) (inD true):=by
 rintro X hK hu pins s σ H x y v u Q I rx ry ⟨d,e,S,R,r1,r2,hS,h,hR⟩
 subst hK
 cases e with
 | str j =>
  obtain⟨i,rfl,h⟩:=h
  exact tO pins s σ H x y v u Q I rx ry ⟨i,j,r1.str,r2.str,hR.now hS h (bL _)⟩
 | tup ds =>
  obtain⟨f1,f2,h⟩:=h
  obtain⟨a,xs,rfl,q,t⟩:=r2.tup
  obtain⟨e1,g1⟩:=i7 f1 r1
  obtain⟨e2,g2⟩:=f6 f2 t
  subst e1 e2
  exact g_ pins s σ H _ _ v u Q I rx ry ⟨a,_,rfl,.inr (.of q),g1,g2,hR.now hS h (bL _)⟩
 | kt ds =>
  obtain⟨f1,f2,h⟩:=h
  obtain⟨a,xs,rfl,q,t⟩:=r2.kt
  obtain⟨e1,g1⟩:=i7 f1 r1
  obtain⟨e2,g2⟩:=f6 f2 t
  subst e1 e2
  exact g_ pins s σ H _ _ v u Q I rx ry ⟨a,_,rfl,.inr (.inr q),g1,g2,hR.now hS h (bL _)⟩
 | ref a =>
  cases r2.ref
  rcases h with ⟨ds,e,f1,f2,h⟩ | ⟨kvs,k,e,hk,h⟩
  ·obtain⟨xs,e1,t⟩:=hS.lst e
   obtain⟨e2,g1⟩:=i7 f1 r1
   obtain⟨e3,g2⟩:=f6 f2 t
   subst e2 e3
   exact g_ pins s σ H _ _ v u Q I rx ry ⟨a,_,rfl,.inl (.of e1),g1,g2,hR.now hS h (bL _)⟩
  ·cases kK hk r1
   cases ry
   obtain⟨o,g,e1,_⟩:=oY (k:=k) hS e
   refine Io (by omega) I g rx fun s' I'=>⟨.bl (!o.isSome),H,I',rfl,?_⟩
   rw[e1];exact hR.now hS h (bL _)
 | _=>exact h.elim
def ZH (K:PySem.W.Frag) (r:t9):Prop:=∀ X:Cx,X.K=K→X.A.units+64<cLine→PV X (Lr K r)
def XW:t9:=fun x y S R=>match x,y with
 | .tup ds,.int i=>∃ d,lK ds i=some d∧R d S
 | .kt ds,.int i=>∃ d,lK ds i=some d∧R d S
 | .i5 ds,.int i=>∃ d,lK ds i=some d∧R d S
 | .str z,.int i=>∃ c,z.length≤sizeLine∧lK z.cps.toList i=some c∧R (.str ⟨#[c]⟩) S
 | .ref a,.int i=>∃ ds d,S a=some (.lst ds)∧lK ds i=some d∧R d S
 | .ref a,.str z=>∃ kvs d,S a=some (.dw kvs)∧cy kvs (.inr z)=some d∧R d S
 | _,_=>False
theorem RvAll.at {H:Hp}{ds:List D}{xs:List V}{i:Int}{d:D} (h:RvAll K H ds xs) (e:lK ds i=some d):∃ v,lK xs i=some v∧Rv K H d v:=by
 unfold lK at e ⊢
 rw[h.len]
 cases q:ED ds.length i with
 | none=>rw[q] at e;cases e
 | some j =>
  rw[q] at e
  exact h.get e
theorem Vx:ZH K XW:=by
 rintro X hK hu value slice pins s σ H x y v u Q I rx ry ⟨d,e,S,R,r1,r2,hS,h,hR⟩ hs
 subst hK
 cases d with
 | tup ds =>
  cases e with
  | int i =>
   obtain⟨d,e,h⟩:=h
   obtain⟨a,xs,rfl,q,t⟩:=r1.tup
   obtain⟨z,e1,r⟩:=t.at e
   exact EF value slice pins s σ H _ _ v u Q I rx ry ⟨a,xs,i,z,rfl,r2.int,.of q,e1,hR.now hS h r⟩ hs
  | _=>exact h.elim
 | kt ds =>
  cases e with
  | int i =>
   obtain⟨d,e,h⟩:=h
   obtain⟨a,xs,rfl,q,t⟩:=r1.kt
   obtain⟨z,e1,r⟩:=t.at e
   exact EF value slice pins s σ H _ _ v u Q I rx ry ⟨a,xs,i,z,rfl,r2.int,.inr q,e1,hR.now hS h r⟩ hs
  | _=>exact h.elim
 | i5 ds =>
  cases e with
  | int i =>
   obtain⟨d,e,h⟩:=h
   obtain⟨a,xs,rfl,q,t⟩:=r1.i5
   obtain⟨z,e1,r⟩:=t.at e
   exact Be value slice pins s σ H _ _ v u Q I rx ry ⟨a,xs,i,z,rfl,r2.int,q.sq,e1,hR.now hS h r⟩ hs
  | _=>exact h.elim
 | str w =>
  cases e with
  | int i =>
   obtain⟨c,e0,e,h⟩:=h
   exact Mr value slice pins s σ H _ _ v u Q I rx ry ⟨w,i,c,r1.str,r2.int,e0,e,hR.now hS h (hW _)⟩ hs
  | _=>exact h.elim
 | ref a =>
  cases e with
  | int i =>
   obtain⟨ds,d,e,e1,h⟩:=h
   obtain⟨xs,e2,t⟩:=hS.lst e
   obtain⟨z,e3,r⟩:=t.at e1
   exact Be value slice pins s σ H _ _ v u Q I rx ry ⟨a,xs,i,z,r1.ref,r2.int,.of e2,e3,hR.now hS h r⟩ hs
  | str w =>
   obtain⟨kvs,d,e,e1,h⟩:=h
   cases r1.ref
   cases r2.str
   cases rx
   obtain⟨o,g,_,e2⟩:=oY (k:=.inr w) hS e
   obtain⟨z,rfl,r⟩:=e2 d e1
   exact tail_any (vz I g) PySem.F.slot_dict_getitem.lookup (Cq (by omega) I g ry fun w' s' I' pC=>⟨z,H,I',pC,hR.now hS h r⟩) hs
  | _=>exact h.elim
 | _=>exact h.elim
theorem ix (hu:X.A.units+64<cLine) (ha:DE K X a ta) (hb:DE K X b tb) (hs:Bd b:=by exact fun _ _=>rfl) (hK:X.K=K:=by rfl):DE K X (.Subscript a b pos) (M9 XW ta tb) :=
 ⟨fun y=>(PX (Vx y.cx hK hu) (ha.of y) (hb.of y) hs).mono fun _ _ _ h=>h.op⟩
end
section
variable {K:PySem.W.Frag}{X:Cx}
abbrev ON:=SD→aT→(Option Int→aT→Prop)→KX→Prop
def To (K:PySem.W.Frag) (E:St→XK) (t:ON):TO:=fun τ H Q=>∃ σ S R Z,h_ K H σ τ∧Rs K S H∧t σ S R Z∧(∀ o S' H',R o S'→Rs K S' H'→Kp K H H'→Q o H')∧CK K H Z (E τ)
structure DO (K:PySem.W.Frag) (X:Cx) (e:Option Expr) (t:ON):Prop where
 of:∀ {b:Bool} (y:Ev X b),PO y.cx e (To K y.E t)
theorem PO.mono (h:PO X e t) (i:∀ τ H Q,t' τ H Q→t τ H Q):PO X e t':=fun pins s τ H Q I q=>h pins s τ H Q I (i τ H Q q)
def QC:ON:=fun _ S R _=>R none S
def QD (t:TD):ON:=fun σ S R Z=>t σ S (fun d S1=>∃ i,d=.int i∧R (some i) S1) Z
theorem o0:DO K X none QC:=⟨fun y=>(Ii (X:=y.cx)).mono <| by rintro τ H Q ⟨σ,S,R,Z,aB,hS,q,hR,hZ⟩;exact hR _ S H q hS (.refl _)⟩
theorem o1 (h:DE K X e t):DO K X (some e) (QD t) :=
 ⟨fun y=>(Ij (h.of y)).mono <| by rintro τ H Q ⟨σ,S,R,Z,aB,hS,q,hR,hZ⟩;exact⟨σ,S,_,Z,aB,hS,q,by rintro d S1 x H1 ⟨i,e,r1⟩ v1 s1 k1;exact by subst e;exact⟨i,v1.int,hR _ S1 H1 r1 s1 k1⟩,hZ⟩⟩
def fm {α:Type} (xs:List α) (lo hi:Option Int):List α:=(xs.drop (HT.sIx xs.length 0 lo)).take (HT.sIx xs.length xs.length hi - HT.sIx xs.length 0 lo)
theorem RvAll.cut {H:Hp}{ds:List D}{xs:List V} (h:RvAll K H ds xs) (lo hi:Option Int):RvAll K H (fm ds lo hi) (vq xs lo hi):=by
 unfold fm vq
 rw[h.len]
 exact (h.drop _).take _
def XX:D→Option Int→Option Int→aT→KD→Prop:=fun x lo hi S R=>match x with
 | .str z=>z.length≤sizeLine∧R (.str (PySem.Txt.slice z lo hi)) S
 | .tup ds=>¬ (HT.sIx ds.length 0 lo=0∧HT.sIx ds.length ds.length hi=ds.length)∧R (.tup (fm ds lo hi)) S
 | .ref a=>∃ ds,S a=some (.lst ds)∧∀ p,S p=none→R (.ref p) (S.set p (.lst (fm ds lo hi)))
 | .i5 ds=>∀ p,S p=none→R (.ref p) (S.set p (.lst (fm ds lo hi)))
 | _=>False
def ZI (K:PySem.W.Frag):V→Option Int→Option Int→Hp→VK→Prop:=fun x lo hi H Q=>∃ d S R,Rv K H d x∧Rs K S H∧XX d lo hi S R∧Cn K H R Q
theorem Vy (hK:X.K=K):PR X (ZI K):=by
 rintro pins s σ H x v vl vu lo hi sl Q I rx hs pl pu ⟨d,S,R,r1,hS,h,hR⟩
 subst hK
 cases d with
 | str z=>exact M7 pins s σ H x v vl vu lo hi sl Q I rx hs pl pu ⟨z,r1.str,h.1,hR.now hS h.2 (hW _)⟩
 | tup ds =>
  obtain⟨a,xs,rfl,q,t⟩:=r1.tup
  exact Mq pins s σ H _ v vl vu lo hi sl Q I rx hs pl pu ⟨a,xs,rfl,.of q,by rw[t.len];exact h.1,fun p hp=>hR.Na hS hp h.2 (t.cut lo hi)⟩
 | ref a =>
  obtain⟨ds,e,h⟩:=h
  obtain⟨xs,e1,t⟩:=hS.lst e
  exact Bf pins s σ H _ v vl vu lo hi sl Q I rx hs pl pu ⟨a,xs,r1.ref,.of e1,fun p hp=>hR.new hS hp (h p) (t.cut lo hi)⟩
 | i5 ds =>
  obtain⟨a,xs,rfl,q,t⟩:=r1.i5
  exact Bf pins s σ H _ v vl vu lo hi sl Q I rx hs pl pu ⟨a,xs,rfl,q.sq,fun p hp=>hR.new hS hp (h p) (t.cut lo hi)⟩
 | _=>exact h.elim
def ZJ (te:TD) (tl th:ON):TD:=fun σ S R Z=>te σ S (fun x S1=>tl σ S1 (fun l S2=>th σ S2 (fun u S3=>XX x l u S3 R) Z) Z) Z
theorem sl {e:Expr}{lo hi:Option Expr}{te:TD}{tl th:ON}{p2 pos:Pos} (he:DE K X e te) (hl:DO K X lo tl) (hu:DO K X hi th) (hK:X.K=K:=by rfl):DE K X (.Subscript e (.Slice lo hi none p2) pos) (ZJ te tl th) :=
 ⟨fun y=>(EC (X:=y.cx) (Vy hK) (he.of y) (hl.of y) (hu.of y)).mono <| by rintro τ H Q ⟨σ,S,R,Z,aB,hS,q,hR,hZ⟩;exact
  ⟨σ,S,_,Z,aB,hS,q,fun d S1 x H1 r1 v1 s1 k1=>⟨σ,S1,_,Z,aB.ts k1,s1,r1,fun l S2 H2 r2 s2 k2=>⟨σ,S2,_,Z,aB.ts (k1.trans k2),s2,r2,fun u S3 H3 r3 s3 k3=>⟨d,S3,R,Rv.ts (k2.trans k3) _ v1,s3,r3,hR.kp ((k1.trans k2).trans k3)⟩,hZ.kp (k1.trans k2)⟩,hZ.kp k1⟩,hZ⟩⟩
def Vz (te:TD):TD:=fun σ S R Z=>te σ S (fun x S1=>∃ i,x=.int i∧R (.int (-i)) S1) Z
theorem QE (he:DE K X e te):DE K X (.UnaryOp .USub e pos) (Vz te) :=
 ⟨fun y=>(Px Md (he.of y)).mono <| by rintro τ H Q ⟨σ,S,R,Z,aB,hS,q,hR,hZ⟩;exact⟨σ,S,_,Z,aB,hS,q,by rintro d S1 x H1 ⟨i,e,r1⟩ v1 s1 k1;exact by subst e;exact⟨i,v1.int,hR _ S1 _ H1 r1 (aQ _) s1 k1⟩,hZ⟩⟩
def VA (T:String) (S:aT):D→Prop
 | .str _=>T = "str"
 | .ref a=>T = "list" ∧ ∃ ds,S a=some (.lst ds)
 | .i5 _=>T = "list"
 | _=>False
theorem Kz {H:Hp}{S:aT}{T:String}{d:D}{v:V} (h:VA T S d) (hS:Rs K S H) (r:Rv K H d v):Sq K T v H:=by
 cases d with
 | str z=>rw[r.str];exact h
 | ref a=>obtain⟨e,ds,h⟩:=h;obtain⟨xs,e1,_⟩:=hS.lst h;rw[r.ref];exact .inl ⟨e,xs,.of e1⟩
 | i5 ds=>obtain⟨a,xs,rfl,q,_⟩:=r.i5;exact .inl ⟨h,xs,q.sq⟩
 | _=>exact h.elim
abbrev Eh:=D→List D→aT→KD→Prop
def Lm (K:PySem.W.Frag) (r:Eh):V→List V→Hp→VK→Prop:=fun x xs H Q=>∃ d ds S R,Rv K H d x∧RvAll K H ds xs∧Rs K S H∧r d ds S R∧Cn K H R Q
def KA (K:PySem.W.Frag) (id:String) (r:Eh):Prop:=∀ X:Cx,X.K=K→OB X id (Lm K r)
def ZK (T:String) (r:Eh) (to:TD) (t:oX):TD:=fun σ S R Z=>to σ S (fun x S1=>VA T S1 x∧t σ S1 (fun ds S2=>r x ds S2 R) Z) Z
def VB (T:String) (r:Eh) (to:TD):TD:=fun σ S R Z=>to σ S (fun x S1=>VA T S1 x∧r x [] S1 R) Z
theorem bm {o e:Expr}{es:List Expr}{T id:String}{name:Str}{r:Eh}{to:TD}{t:oX}{apos aS:Pos} (pa:PlainAttrs T) (slot:Slot T name id) (Mv:typeOf (.builtin id)=pure (.type "method_descriptor")) (hm:KA K id r) (ho:DE K X o to) (ha:DA K X (e :: es) t)
  (lM:attributeBase o name X.env (eval o X.env)=eval o X.env:=by rfl)
  (Mw:((backTo aS (starEach (e :: es) X.env)).all (fun x=>!x.1) && (backToKw aS (keywordEach [] X.env)).all (fun x=>x.1.isSome)
   && decide ((e :: es).length+([]:List Keyword).length+(if ([]:List Keyword).isEmpty then 0 else 1)<30))=true:=by rfl)
  (pE:(apos.endLine == aS.line)=true:=by rfl) (hs:starEach (e :: es) X.env=(false,eval e X.env) :: starEach es X.env:=by rfl) (xR:(backTo aS (starEach es X.env)).any (·.1)=false:=by rfl) (hK:X.K=K:=by rfl) :
  DE K X (.Call (.Attribute o name apos) (e :: es) [] aS) (ZK T r to t):=by
 subst hK
 exact⟨fun y=>(PZ (X:=y.cx) pa slot Mv (hm _ rfl) (ho.of y) (ha.of y) lM Mw pE hs xR).mono <| by rintro τ H Q ⟨σ,S,R,Z,aB,hS,q,hR,hZ⟩;exact
  ⟨σ,S,_,Z,aB,hS,q,by rintro d S1 x H1 ⟨h1,r1⟩ v1 s1 k1;exact⟨Kz h1 s1 v1,σ,S1,_,Z,aB.ts k1,s1,r1,fun ds S2 xs H2 r2 v2 s2 k2=>⟨d,ds,S2,R,Rv.ts k2 _ v1,v2,s2,r2,hR.kp (k1.trans k2)⟩,hZ.kp k1⟩,hZ⟩⟩
theorem XY {o:Expr}{T id:String}{name:Str}{r:Eh}{to:TD}{apos aS:Pos} (pa:PlainAttrs T) (slot:Slot T name id) (Mv:typeOf (.builtin id)=pure (.type "method_descriptor")) (hm:KA K id r) (ho:DE K X o to)
  (lM:attributeBase o name X.env (eval o X.env)=eval o X.env:=by rfl) (pE:(apos.endLine == aS.line)=true:=by rfl) (hK:X.K=K:=by rfl) :
  DE K X (.Call (.Attribute o name apos) [] [] aS) (VB T r to):=by
 subst hK
 exact⟨fun y=>(Mu (X:=y.cx) pa slot Mv (hm _ rfl) (ho.of y) lM pE).mono <| by rintro τ H Q ⟨σ,S,R,Z,aB,hS,q,hR,hZ⟩;exact
  ⟨σ,S,_,Z,aB,hS,q,by rintro d S1 x H1 ⟨h1,r1⟩ v1 s1 k1;exact⟨Kz h1 s1 v1,d,[],S1,R,v1,bG,s1,r1,hR.kp k1⟩,hZ⟩⟩
theorem RvAll.one (h:RvAll K H [d] xs):∃ v,xs=[v]∧Rv K H d v:=by
 obtain⟨y,ys,rfl,h1,h2⟩:=h.cons
 rw[h2.nil];exact⟨y,rfl,h1⟩
def IZ:Eh:=fun x ds S R=>∃ a es d,x=.ref a∧ds=[d]∧S a=some (.lst es)∧es.length<sizeLine∧R .au (S.set a (.lst (es++[d])))
theorem cT:KA K "list.append" IZ:=by
 rintro X hK pins s σ H x xs v us Q I rx rs ⟨d,ds,S,R,r1,r2,hS,⟨a,es,y,e1,e2,e3,hl,h⟩,hR⟩
 subst e1 e2
 obtain⟨w0,rfl,q2⟩:=r2.one
 obtain⟨zs,e4,t⟩:=hS.lst e3
 exact Cp pins s σ H x _ v us Q I rx rs ⟨a,zs,w0,r1.ref,rfl,e4,by rw[t.len];exact hl,hR.put hS e3 h hU (t.app (aW q2 bG))⟩
def VC:Eh:=fun x ds S R=>∃ a es d,x=.ref a∧ds=[]∧S a=some (.lst es)∧es[es.length - 1]?=some d∧R d (S.set a (.lst es.dropLast))
theorem KC:KA K "list.pop" VC:=by
 rintro X hK pins s σ H x xs v us Q I rx rs ⟨d,ds,S,R,r1,r2,hS,⟨a,es,y,e1,e2,e3,hl,h⟩,hR⟩
 subst e1 e2
 obtain⟨zs,e4,t⟩:=hS.lst e3
 obtain⟨w,e5,r⟩:=t.get hl
 exact Mx pins s σ H x _ v us Q I rx rs ⟨a,zs,w,r1.ref,r2.nil,e4,by rw[t.len];exact e5,hR.put hS e3 h r t.dropLast⟩
def I0:Eh:=fun x ds S R=>∃ (es:List D) (d:D) (j:Nat),ds=[d]∧sP S x es∧iJ d=true∧es.all iJ=true∧(∃ z,es[j]?=some z∧eqV (j8 z) (j8 d)=true)∧(∀ m u,m<j→es[m]?=some u→eqV (j8 u) (j8 d)=false)∧R (.int j) S
theorem Fc:KA K "list.index" I0:=by
 rintro X hK pins s σ H x xs v us Q I rx rs ⟨d,ds,S,R,r1,r2,hS,⟨es,y,j,e2,e3,f1,f2,⟨z,e4,e5⟩,h4,h⟩,hR⟩
 subst hK e2
 obtain⟨w0,rfl,q2⟩:=r2.one
 obtain⟨a,zs,rfl,q,t⟩:=e3.at hS r1
 obtain⟨g1,g2⟩:=i7 f1 q2
 obtain⟨g3,g4⟩:=f6 f2 t
 subst g1 g3
 refine CJ pins s σ H _ _ v us Q I rx rs ⟨a,_,_,j8 z,j,rfl,rfl,q,g2,g4,by rw[zp,e4];rfl,e5,fun m u hm e=>?_,hR.now hS h (aQ _)⟩
 rw[zp] at e
 cases q2:es[m]? with
 | none=>rw[q2] at e;cases e
 | some u'=>rw[q2] at e;cases e;exact h4 m u' hm q2
def I9:Eh:=fun x ds S R=>∃ z y,x=.str z∧ds=[.str y]∧R (.bl (PySem.Txt.startswith z y)) S
theorem Fd:KA K "str.startswith" I9:=by
 rintro X hK pins s σ H x xs v us Q I rx rs ⟨d,ds,S,R,r1,r2,hS,⟨z,y,e1,e2,h⟩,hR⟩
 subst e1 e2
 obtain⟨w0,rfl,q2⟩:=r2.one
 exact rK pins s σ H _ _ v us Q I rx rs ⟨z,y,r1.str,by rw[q2.str],hR.now hS h (bL _)⟩
def QF (S:aT) (R:KD):D→Prop
 | .str z=>z.length≤sizeLine∧R (.int z.length) S
 | .tup es=>R (.int es.length) S
 | .kt es=>R (.int es.length) S
 | .i5 es=>R (.int es.length) S
 | .ref a=>(∃ es,S a=some (.lst es)∧R (.int es.length) S)∨∃ kvs,S a=some (.dw kvs)∧R (.int kvs.length) S
 | _=>False
def VD:List D→aT→KD→Prop:=fun ds S R=>∃ x,ds=[x]∧QF S R x
theorem bH:iI K (.builtin "len") VD:=by
 rintro X hK hc pins s σ H xs us Q I rx ⟨ds,S,R,r,hS,⟨x,e,h⟩,hR⟩
 subst hK e
 obtain⟨w,rfl,r'⟩:=r.one
 cases x with
 | str z =>
  cases r'.str
  exact iX pins s σ H _ us Q I rx ⟨_,_,rfl,⟨h.1,rfl⟩,hR.now hS h.2 (aQ _)⟩
 | tup es =>
  obtain⟨a,xs,rfl,q,t⟩:=r'.tup
  exact iX pins s σ H _ us Q I rx ⟨_,_,rfl,.inr ⟨xs,.of q,t.len.symm⟩,hR.now hS h (aQ _)⟩
 | kt es =>
  obtain⟨a,xs,rfl,q,t⟩:=r'.kt
  exact iX pins s σ H _ us Q I rx ⟨_,_,rfl,.inr ⟨xs,.inr q,t.len.symm⟩,hR.now hS h (aQ _)⟩
 | i5 es =>
  obtain⟨a,xs,rfl,q,t⟩:=r'.i5
  exact iX pins s σ H _ us Q I rx ⟨_,_,rfl,.inl ⟨xs,q.sq,t.len.symm⟩,hR.now hS h (aQ _)⟩
 | ref a =>
  cases r'.ref
  rcases h with ⟨es,e,h⟩ | ⟨kvs,e,h⟩
  ·obtain⟨xs,e1,t⟩:=hS.lst e
   exact iX pins s σ H _ us Q I rx ⟨_,_,rfl,.inl ⟨xs,.of e1,t.len.symm⟩,hR.now hS h (aQ _)⟩
  ·obtain⟨xs,e1,t⟩:=hS.dw e
   exact Cu pins s σ H _ us Q I rx ⟨a,xs,rfl,e1,by rw[t.len];exact hR.now hS h (aQ _)⟩
 | _=>exact h.elim
def Nb (S:aT):D→Kd→Prop
 | .au,k=>k=.au
 | .bl _,k=>k=.bl
 | .int _,k=>k=.int
 | .str _,k=>k=.str
 | .ref a,k=>(k=.lst∧∃ ds,S a=some (.lst ds))∨(k=.dw∧∃ ds,S a=some (.dw ds))
 | .tup _,k=>k=.tup
 | _,_=>False
theorem QG (h:Nb S d k) (hS:Rs K S H) (r:Rv K H d v):pM H v k:=by
 cases d with
 | au=>cases h;rw[r.au];exact .au
 | bl b=>cases h;rw[r.bl];exact .bl b
 | int b=>cases h;rw[r.int];exact .int b
 | str b=>cases h;rw[r.str];exact .str b
 | tup b=>cases h;obtain⟨a,xs,rfl,q,_⟩:=r.tup;exact .tup q
 | ref a =>
  rw[r.ref]
  rcases h with ⟨rfl,ds,h⟩ | ⟨rfl,ds,h⟩
  ·obtain⟨xs,e,_⟩:=hS.lst h;exact .lst e
  ·obtain⟨xs,e,_⟩:=hS.dw h;exact .dw e
 | _=>exact h.elim
def VE:List D→aT→KD→Prop:=fun ds S R=>∃ x n k g,ds=[x,.ty n]∧tY n=some g∧Nb S x k∧R (.bl (g k)) S
theorem RvAll.two (h:RvAll K H [d,e] xs):∃ v u,xs=[v,u]∧Rv K H d v∧Rv K H e u:=by
 obtain⟨y,ys,rfl,h1,h2⟩:=h.cons
 obtain⟨u,rfl,h3⟩:=h2.one
 exact⟨y,u,rfl,h1,h3⟩
theorem dA:iI K (.builtin "isinstance") VE:=by
 rintro X hK hc pins s σ H xs us Q I rx ⟨ds,S,R,r,hS,⟨x,n,k,g,e,h1,h2,h⟩,hR⟩
 subst hK e
 obtain⟨v,u,rfl,r1,r2⟩:=r.two
 rw[r2.ty] at rx
 exact EW pins s σ H _ us Q I rx ⟨v,n,k,g,rfl,h1,QG h2 hS r1,hR.now hS h (bL _)⟩
def QH:List D→aT→KD→Prop:=fun ds S R=>∃ (x:D) (bs:List Bool),ds=[x]∧sP S x (bs.map D.bl)∧R (.bl (bs.all id)) S
theorem lQ:iI K (.builtin "all") QH:=by
 rintro X hK hc pins s σ H xs us Q I rx ⟨ds,S,R,r,hS,⟨x,bs,e,h1,h⟩,hR⟩
 subst hK e
 obtain⟨v,rfl,r1⟩:=r.one
 obtain⟨a,zs,rfl,q,t⟩:=h1.at hS r1
 rw[t.bools] at q
 exact rE hc pins s σ H _ us Q I rx ⟨a,bs,rfl,q,hR.now hS h (bL _)⟩
def VF:List D→aT→KD→Prop:=fun ds S R=>∃ (x:D) (bs:List Bool),ds=[x]∧sP S x (bs.map D.bl)∧R (.bl (bs.any id)) S
theorem QI:iI K (.builtin "any") VF:=by
 rintro X hK hc pins s σ H xs us Q I rx ⟨ds,S,R,r,hS,⟨x,bs,e,h1,h⟩,hR⟩
 subst hK e
 obtain⟨v,rfl,r1⟩:=r.one
 obtain⟨a,zs,rfl,q,t⟩:=h1.at hS r1
 rw[t.bools] at q
 exact rF hc pins s σ H _ us Q I rx ⟨a,bs,rfl,q,hR.now hS h (bL _)⟩
def intD:List D→aT→KD→Prop:=fun ds S R=>(∃ i,ds=[.int i]∧R (.int i) S)∨∃ k,ds=[.bl k]∧R (.int (if k then 1 else 0)) S
theorem vO:iI K (.type "int") intD:=by
 rintro X hK hc pins s σ H xs us Q I rx ⟨ds,S,R,r,hS,h,hR⟩
 rcases h with ⟨i,rfl,h⟩ | ⟨k,rfl,h⟩
 ·obtain⟨v,rfl,r1⟩:=r.one
  exact sy pins s σ H _ us Q I rx (.inl ⟨i,by rw[r1.int],hR.now hS h (aQ _)⟩)
 ·obtain⟨v,rfl,r1⟩:=r.one
  exact sy pins s σ H _ us Q I rx (.inr ⟨k,by rw[r1.bl],hR.now hS h (aQ _)⟩)
def Nc:List D→aT→KD→Prop:=fun ds S R=>∃ x es,ds=[x]∧(sP S x es∨x=.tup es)∧R (.tup es) S
theorem lR:iI K (.type "tuple") Nc:=by
 rintro X hK hc pins s σ H xs us Q I rx ⟨ds,S,R,r,hS,⟨x,es,e,h1,h⟩,hR⟩
 subst hK e
 obtain⟨v,rfl,r1⟩:=r.one
 rcases h1 with h1 | rfl
 ·obtain⟨a,zs,rfl,q,t⟩:=h1.at hS r1
  exact ko pins s σ H _ us Q I rx ⟨a,zs,rfl,.inl ⟨q,fun p hp=>hR.Na hS hp h t⟩⟩
 ·obtain⟨a,zs,rfl,q,t⟩:=r1.tup
  exact ko pins s σ H _ us Q I rx ⟨a,zs,rfl,.inr ⟨.of q,hR.now hS h (kI q t)⟩⟩
def minD (f:Int→Int→Bool):List D→aT→KD→Prop:=fun ds S R=>∃ i j,ds=[.int i,.int j]∧R (.int (if f j i then j else i)) S
theorem QJ:iI K (.builtin "min") (minD fun a b=>decide (a<b)):=by
 rintro X hK hc pins s σ H xs us Q I rx ⟨ds,S,R,r,hS,⟨i,j,e,h⟩,hR⟩
 subst e
 obtain⟨v,u,rfl,r1,r2⟩:=r.two
 refine Ci hc pins s σ H _ us Q I rx ⟨i,j,by rw[r1.int,r2.int],?_⟩
 have:=hR.now hS h (aQ _)
 simpa using this
end
abbrev gG:=List D→aT→KD→KX→Prop
def t_ (K:PySem.W.Frag) (sp:gG):Sp:=fun vs H Q e=>∃ ds S R Z,RvAll K H ds vs∧Rs K S H∧sp ds S R Z∧Cn K H R Q∧CK K H Z e
section
variable {K:PySem.W.Frag}{X:Cx}{k:Nat}{f C:Addr}{fd:FuncData}{ps:List Str}{sp:Sp}{oq:List V}{ds:List Value}{x m:Str}{p pos apos:Pos}{e o:Expr}{es:List Expr}{b:Bool}{y:Ev X b}
theorem ua (F:cj X.prog X.w X.K X.mg X.base (g6 X.prog X.w) k f fd ps sp) (hr:cI k X.A) (hb:Binds X.K fd ps ds) (hd:Vals oq ds)
  (I:Inv y.cx p2 σ H s) (r:Vals vs us) (h:sp (vs++oq) H Q (y.E σ)):wpAny (model X.prog X.w) X.A (call (.ref f) us) (EP y.cx p2 σ Q) y.xe s:=by
 have r2:Vals (vs++oq) (us++ds):=r.append hd
 have hl:(us++ds).length=ps.length:=by rw[← r2.length];exact F.len _ _ _ _ h
 refine wpAny_call (yJ (F.run X.A X.stack s H ⟨us,[]⟩ (us++ds) (vs++oq) Q (y.E σ) hr I.PK (hb s us I.nO hl) r2 h) fun res s' hq=>?_)
 cases res with
 | error e=>exact y.ok.call p2 σ H s e s' I hq
 | ok fl =>
  cases fl with
  | ret u=>exact I.after hq
  | next=>exact False.elim hq
  | brk=>exact False.elim hq
  | cont=>exact False.elim hq
theorem Fe {t:TA} (F:cj X.prog X.w X.K X.mg X.base (g6 X.prog X.w) k f fd ps sp) (hr:cI k X.A) (hg:Gl X x) (hm:X.mg x=some (.ref f)) (hk:keepIn X.K (.ref f)=true) (hb:Binds X.K fd ps ds) (hd:Vals oq ds)
  (ha:PA y.cx (e :: es) t) (pA:(x == ("__debug__" : Str))=false) (he:starEach (e :: es) X.env=(false,eval e X.env) :: starEach es X.env) (gF:(backTo pos (starEach es X.env)).any (·.1)=false) :
  PE y.cx (.Call (.Name x p) (e :: es) [] pos) (fun σ H Q=>t σ H fun vs H1=>sp (vs++oq) H1 Q (y.E σ)):=by
 intro p2 s σ H Q I h
 refine wpAny_Call_Name_kw (oT I hg hm ?_ pA)
 refine callWith_K (h₀:=X.base) I.ok.mod.Ow hk (br (ha pos p2 s σ H _ I h) fun us s1 ⟨vs,H1,I1,r,q⟩=>⟨I1.nO,?_⟩) he gF
 exact ua F hr hb hd I1 r q
theorem Ff {pl:Sem Bool}{ta:TE}{t:TA} (he:PE y.cx o ta) (c:tP X.K C) (hm:Meth X.K C m f) (F:cj X.prog X.w X.K X.mg X.base (g6 X.prog X.w) k f fd ps sp) (hr:cI k X.A) (hb:Binds X.K fd ps ds) (hd:Vals oq ds) (ha:PA y.cx (e :: es) t)
  (xy:starEach (e :: es) X.env=(false,eval e X.env) :: starEach es X.env) (gF:(backTo pos (starEach es X.env)).any (·.1)=false)
  (ht:eval (.Call (.Attribute o m apos) (e :: es) [] pos) X.env=(do
   let ov ← eval o X.env
   standAt apos.atName
   let (f,first) ← holding [ov] (getMethod ov m pl)
   callWith pos f first (backTo pos (starEach (e :: es) X.env)) (backToKw pos (keywordEach [] X.env)))) :
  PE y.cx (.Call (.Attribute o m apos) (e :: es) [] pos) (fun σ H Q=>ta σ H fun x H1=>∃ a dx fs,x=.ref a∧H1 a=some (.ins C dx fs)∧fs.lookup m=none∧t σ H1 fun vs H2=>sp (x :: (vs++oq)) H2 Q (y.E σ)):=by
 intro p2 s σ H Q I h
 refine methodCall_KW (pl:=pl) (br (he p2 s σ H _ I h) fun u s1 ⟨x,H1,I1,rx,a,dx,fs,ex,ea,l,q⟩=>?_) ht
 subst ex
 obtain rfl:u=Value.ref a:=rx
 refine px I1 ea c hm l ?_
 refine callWith_K (first:=[.ref a]) (h₀:=X.base) I.ok.mod.Ow hm.kp (br (ha pos p2 s1 σ H1 _ I1 q) fun us s2 ⟨vs,H2,I2,r,q2⟩=>⟨I2.nO,?_⟩) xy gF
 exact ua (us:=.ref a :: us) (vs:=.ref a :: vs) F hr hb hd I2 (.cons rfl r) q2
theorem CL (he:PE y.cx o ta) (c:tP X.K C) (hm:Meth X.K C m f) (F:cj X.prog X.w X.K X.mg X.base (g6 X.prog X.w) k f fd ps sp) (hr:cI k X.A) (hb:Binds X.K fd ps ds) (hd:Vals oq ds)
  (ht:eval (.Call (.Attribute o m apos) [] [] pos) X.env=(do
   let ov ← eval o X.env
   standAt apos.atName
   let (f,first) ← holding [ov] (getMethod ov m pl)
   callWith pos f first (backTo pos (starEach [] X.env)) (backToKw pos (keywordEach [] X.env)))) :
  PE y.cx (.Call (.Attribute o m apos) [] [] pos) (fun σ H Q=>ta σ H fun x H1=>∃ a dx fs,x=.ref a∧H1 a=some (.ins C dx fs)∧fs.lookup m=none∧sp (x :: oq) H1 Q (y.E σ)):=by
 intro p2 s σ H Q I h
 refine methodCall_KW (pl:=pl) (br (he p2 s σ H _ I h) fun u s1 ⟨x,H1,I1,rx,a,dx,fs,ex,ea,l,q⟩=>?_) ht
 subst ex
 obtain rfl:u=Value.ref a:=rx
 refine px I1 ea c hm l ?_
 exact PySem.W.callWith_K0 (first:=[.ref a]) I1.nO hm.kp (ua (us:=[.ref a]) (vs:=[.ref a]) F hr hb hd I1 (.cons rfl .nil) q)
theorem CM (M:Mk X.K C f) (F:cj X.prog X.w X.K X.mg X.base (g6 X.prog X.w) k f fd ps sp) (hr:cI (k+1) X.A) (hb:Binds X.K fd ps ds) (hd:Vals oq ds)
  (I:Inv y.cx p2 σ H s) (r:Vals vs us)
  (h:∀ x dx,H x=none→H dx=none→dx≠x→sp (.ref x :: (vs++oq)) (upd (upd H dx (.own x)) x (.ins C dx [])) (fun v H2=>v=.au∧Q (.ref x) H2) (y.E σ)) :
  wpAny (model X.prog X.w) X.A (call (.ref C) us) (EP y.cx p2 σ Q) y.xe s:=by
 have hq:=h (s.heap.objs.size+1) s.heap.objs.size (I.aM.fresh (yI _)) (I.aM.fresh (zl _)) (zw (Nat.lt_succ_self _))
 have I2:=Inv.made (C:=C) I
 have r2:Vals (V.ref (s.heap.objs.size+1) :: (vs++oq)) (Value.ref (s.heap.objs.size+1) :: (us++ds)):=.cons rfl (r.append hd)
 have hl:(Value.ref (s.heap.objs.size+1) :: us++ds).length=ps.length:=by
  have e:=r2.length
  rw[F.len _ _ _ _ hq] at e
  exact e.symm
 refine wpAny_call (EA (f:=f) I.nO M.makes M.init (beq_iff_eq.mp M.fn) (yJ (F.run _ X.stack _ _ ⟨Value.ref (s.heap.objs.size+1) :: us,[]⟩ (Value.ref (s.heap.objs.size+1) :: (us++ds)) _ _ (y.E σ) (hr.make C us [])
  (I2.PK.make C us []) (hb _ (Value.ref (s.heap.objs.size+1) :: us) I2.nO hl) r2 hq) fun r s' Ei=>?_))
 cases r with
 | error e=>exact y.ok.call p2 σ _ _ e s' I2 Ei
 | ok fl =>
  cases fl with
  | ret u =>
   obtain⟨v,H',I3,rv,ev,q3⟩:=I2.after Ei
   subst ev
   exact⟨rv,⟨V.ref (s.heap.objs.size+1),H',I3,rfl,q3⟩⟩
  | next=>exact False.elim Ei
  | brk=>exact False.elim Ei
  | cont=>exact False.elim Ei
theorem Fh {t:TA} (M:Mk X.K C f) (F:cj X.prog X.w X.K X.mg X.base (g6 X.prog X.w) k f fd ps sp) (hr:cI (k+1) X.A) (hg:Gl X x) (hm:X.mg x=some (.ref C)) (hb:Binds X.K fd ps ds) (hd:Vals oq ds)
  (ha:PA y.cx (e :: es) t) (pA:(x == ("__debug__" : Str))=false) (he:starEach (e :: es) X.env=(false,eval e X.env) :: starEach es X.env) (gF:(backTo pos (starEach es X.env)).any (·.1)=false) :
  PE y.cx (.Call (.Name x p) (e :: es) [] pos) (fun σ H Q=>t σ H fun vs H1=>∀ x dx,H1 x=none→H1 dx=none→dx≠x →
   sp (.ref x :: (vs++oq)) (upd (upd H1 dx (.own x)) x (.ins C dx [])) (fun v H2=>v=.au∧Q (.ref x) H2) (y.E σ)):=by
 intro p2 s σ H Q I h
 refine wpAny_Call_Name_kw (oT I hg hm ?_ pA)
 refine callWith_K (h₀:=X.base) I.ok.mod.Ow M.kp (br (ha pos p2 s σ H _ I h) fun us s1 ⟨vs,H1,I1,r,q⟩=>⟨I1.nO,?_⟩) he gF
 exact CM M F hr hb hd I1 r q
end
section
variable {K:PySem.W.Frag}{X:Cx}{k:Nat}{f C:Addr}{fd:FuncData}{ps:List Str}{sp:gG}{vP:List D}{oq:List V}{ds:List Value}{x m:Str}{p pos apos:Pos}{e o:Expr}{es:List Expr}
structure OO (K:PySem.W.Frag) (vP:List D) (oq:List V) (ds:List Value):Prop where
 v:Vals oq ds
 d:∀ H,RvAll K H vP oq
theorem d0:OO K [] [] []:=⟨.nil,fun _=>bG⟩
theorem d1:OO K [.au] [.au] [.none]:=⟨.cons rfl .nil,fun _=>aW hU bG⟩
def QK (sp:gG) (vP:List D) (t:oX):TD:=fun σ S R Z=>t σ S (fun ds S1=>sp (ds++vP) S1 R Z) Z
theorem cf (F:cj X.prog X.w K X.mg X.base (g6 X.prog X.w) k f fd ps (t_ K sp)) (hr:cI k X.A) (hm:X.mg x=some (.ref f)) (hk:keepIn K (.ref f)=true) (hb:Binds K fd ps ds) (hd:OO K vP oq ds) (ha:DA K X (e :: es) t)
  (hg:Gl X x:=by rfl) (pA:(x == ("__debug__" : Str))=false:=by decide) (he:starEach (e :: es) X.env=(false,eval e X.env) :: starEach es X.env:=by rfl) (gF:(backTo pos (starEach es X.env)).any (·.1)=false:=by rfl) (hK:X.K=K:=by rfl) :
  DE K X (.Call (.Name x p) (e :: es) [] pos) (QK sp vP t):=by
 subst hK
 exact⟨fun y=>(Fe F hr hg hm hk hb hd.v (ha.of y) pA he gF).mono <| by rintro τ H Q ⟨σ,S,R,Z,aB,hS,q,hR,hZ⟩;exact
  ⟨σ,S,_,Z,aB,hS,q,fun es S1 xs H1 r1 v1 s1 k1=>⟨es++vP,S1,R,Z,v1.app (hd.d _),s1,r1,hR.kp k1,hZ.kp k1⟩,hZ⟩⟩
def KG (C:Addr) (m:Str) (sp:gG) (vP:List D) (ta:TD) (t:oX):TD:=fun σ S R Z=>ta σ S (fun x S1=>∃ a fs,x=.ref a∧S1 a=some (.ins C fs)∧fs.lookup m=none∧t σ S1 (fun ds S2=>sp (x :: (ds++vP)) S2 R Z) Z) Z
theorem sR (he:DE K X o ta) (c:tP K C) (hm:Meth K C m f) (F:cj X.prog X.w K X.mg X.base (g6 X.prog X.w) k f fd ps (t_ K sp)) (hr:cI k X.A) (hb:Binds K fd ps ds) (hd:OO K vP oq ds) (ha:DA K X (e :: es) t)
  (xy:starEach (e :: es) X.env=(false,eval e X.env) :: starEach es X.env:=by rfl) (gF:(backTo pos (starEach es X.env)).any (·.1)=false:=by rfl)
  (ht:eval (.Call (.Attribute o m apos) (e :: es) [] pos) X.env=(do
   let ov ← eval o X.env
   standAt apos.atName
   let (f,first) ← holding [ov] (getMethod ov m pl)
   callWith pos f first (backTo pos (starEach (e :: es) X.env)) (backToKw pos (keywordEach [] X.env))):=by rfl) (hK:X.K=K:=by rfl) :
  DE K X (.Call (.Attribute o m apos) (e :: es) [] pos) (KG C m sp vP ta t):=by
 subst hK
 exact⟨fun y=>(Ff (he.of y) c hm F hr hb hd.v (ha.of y) xy gF ht).mono <| by rintro τ H Q ⟨σ,S,R,Z,aB,hS,q,hR,hZ⟩;exact
  ⟨σ,S,_,Z,aB,hS,q,by
   rintro d S1 x H1 ⟨a,fs,e1,e2,e3,r1⟩ v1 s1 k1
   subst e1
   obtain⟨dx,vs,e4,t4⟩:=s1.ins e2
   exact⟨a,dx,vs,v1.ref,e4,(t4.look m).2 e3,σ,S1,_,Z,aB.ts k1,s1,r1,fun es S2 xs H2 r2 v2 s2 k2=>⟨_,S2,R,Z,aW (Rv.ts k2 _ v1) (v2.app (hd.d _)),s2,r2,hR.kp (k1.trans k2),hZ.kp (k1.trans k2)⟩,hZ.kp k1⟩,hZ⟩⟩
theorem ub (he:DE K X o ta) (c:tP K C) (hm:Meth K C m f) (F:cj X.prog X.w K X.mg X.base (g6 X.prog X.w) k f fd ps (t_ K sp)) (hr:cI k X.A) (hb:Binds K fd ps ds) (hd:OO K vP oq ds)
  (ht:eval (.Call (.Attribute o m apos) [] [] pos) X.env=(do
   let ov ← eval o X.env
   standAt apos.atName
   let (f,first) ← holding [ov] (getMethod ov m pl)
   callWith pos f first (backTo pos (starEach [] X.env)) (backToKw pos (keywordEach [] X.env))):=by rfl) (hK:X.K=K:=by rfl) :
  DE K X (.Call (.Attribute o m apos) [] [] pos) (KG C m sp vP ta M8):=by
 subst hK
 exact⟨fun y=>(CL (he.of y) c hm F hr hb hd.v ht).mono <| by rintro τ H Q ⟨σ,S,R,Z,aB,hS,q,hR,hZ⟩;exact
  ⟨σ,S,_,Z,aB,hS,q,by
   rintro d S1 x H1 ⟨a,fs,e1,e2,e3,r1⟩ v1 s1 k1
   subst e1
   obtain⟨dx,vs,e4,t4⟩:=s1.ins e2
   exact⟨a,dx,vs,v1.ref,e4,(t4.look m).2 e3,_,S1,R,Z,aW v1 (hd.d _),s1,r1,hR.kp k1,hZ.kp k1⟩,hZ⟩⟩
def QL (C:Addr) (sp:gG) (vP:List D) (t:oX):TD:=fun σ S R Z=>t σ S (fun ds S1=>∀ x,S1 x=none→sp (.ref x :: (ds++vP)) (S1.set x (.ins C [])) (fun d S2=>d=.au∧R (.ref x) S2) Z) Z
theorem mk (M:Mk K C f) (F:cj X.prog X.w K X.mg X.base (g6 X.prog X.w) k f fd ps (t_ K sp)) (hr:cI (k+1) X.A) (hm:X.mg x=some (.ref C)) (hb:Binds K fd ps ds) (hd:OO K vP oq ds) (ha:DA K X (e :: es) t)
  (hg:Gl X x:=by rfl) (pA:(x == ("__debug__" : Str))=false:=by decide) (he:starEach (e :: es) X.env=(false,eval e X.env) :: starEach es X.env:=by rfl) (gF:(backTo pos (starEach es X.env)).any (·.1)=false:=by rfl) (hK:X.K=K:=by rfl) :
  DE K X (.Call (.Name x p) (e :: es) [] pos) (QL C sp vP t):=by
 subst hK
 exact⟨fun y=>(Fh M F hr hg hm hb hd.v (ha.of y) pA he gF).mono <| by rintro τ H Q ⟨σ,S,R,Z,aB,hS,q,hR,hZ⟩;exact
  ⟨σ,S,_,Z,aB,hS,q,fun es S1 xs H1 r1 v1 s1 k1 x dx hx XZ ne=>by
   have I_:upd H1 dx (.own x) x=none:=by rw[av ne.symm];exact hx
   have k2:Kp X.K H1 (upd (upd H1 dx (.own x)) x (.ins C dx [])):=(Kp.new XZ).trans (Kp.new I_)
   exact⟨_,_,_,Z,aW (i6 x) (RvAll.ts k2 _ (v1.app (hd.d _))),(s1.grow XZ).new (c:=.ins C []) I_ ⟨dx,[],aF,.nil⟩,r1 x (s1.fresh hx),by rintro d S2 v H2 ⟨e,r2⟩ v2 s2 k3;exact by subst e;exact⟨v2.au,hR _ _ _ _ r2 (i6 x) s2 ((k1.trans k2).trans k3)⟩,(hZ.kp k1).kp k2⟩,hZ⟩⟩
def VG (C:Addr) (f:Str) (ta:TD):TD:=fun σ S R Z=>ta σ S (fun x S1=>∃ a fs d,x=.ref a∧S1 a=some (.ins C fs)∧fs.lookup f=some d∧R d S1) Z
theorem fl {f:Str}{ta:TD} (c:tP K C) (n:iY K C f) (he:DE K X e ta) (hb:attributeBase e f X.env (eval e X.env)=eval e X.env:=by rfl) (hK:X.K=K:=by rfl):DE K X (.Attribute e f pos) (VG C f ta):=by
 subst hK
 exact⟨fun y=>(Mh (X:=y.cx) (he.of y) hb).mono <| by rintro τ H Q ⟨σ,S,R,Z,aB,hS,q,hR,hZ⟩;exact
  ⟨σ,S,_,Z,aB,hS,q,by
   rintro d S1 x H1 ⟨a,fs,y,e1,e2,e3,r1⟩ v1 s1 k1
   subst e1
   obtain⟨dx,vs,e4,t4⟩:=s1.ins e2
   obtain⟨v,e5,r5⟩:=(t4.look f).1 y e3
   exact⟨a,C,dx,vs,v,v1.ref,e4,c,n,e5,(hR.kp k1).now s1 r1 r5⟩,hZ⟩⟩
end
structure sS where
 nx:SD→aT→Prop
 rt:KD
 bk:SD→aT→Prop:=fun _ _=>False
 ct:SD→aT→Prop:=fun _ _=>False
abbrev mM:=sS→SD→aT→(SD→KX)→Prop
def KH (K:PySem.W.Frag) (H:Hp) (R:SD→aT→Prop) (Q:St→Hp→Prop):Prop:=∀ σ S τ H',R σ S→h_ K H' σ τ→Rs K S H'→Kp K H H'→Q τ H'
structure SJ (K:PySem.W.Frag) (H:Hp) (De:sS) (Dv:Ends):Prop where
 nx:KH K H De.nx Dv.nx
 rt:Cn K H De.rt Dv.rt
 bk:KH K H De.bk Dv.bk
 ct:KH K H De.ct Dv.ct
def vQ (K:PySem.W.Frag) (H:Hp) (Z:SD→KX) (E:St→XK):Prop:=∀ σ τ C S H',Z σ C S→h_ K H' σ τ→Rs K S H'→Kp K H H'→E τ (.ref C) none H'
section
variable {K:PySem.W.Frag}{H H1:Hp}{De:sS}{Dv:Ends}{Z:SD→KX}{E:St→XK}{σ:SD}{τ:St}{S:aT}
theorem KH.kp (h:KH K H R Q) (k:Kp K H H1):KH K H1 R Q:=fun σ S τ H' r a b c=>h σ S τ H' r a b (k.trans c)
theorem SJ.kp (h:SJ K H De Dv) (k:Kp K H H1):SJ K H1 De Dv:=⟨h.nx.kp k,h.rt.kp k,h.bk.kp k,h.ct.kp k⟩
theorem vQ.kp (h:vQ K H Z E) (k:Kp K H H1):vQ K H1 Z E:=fun σ τ C S H' r a b c=>h σ τ C S H' r a b (k.trans c)
theorem vQ.at (h:vQ K H Z E) (r:h_ K H σ τ):CK K H (Z σ) (E τ):=fun C S H' z s k=>h σ τ C S H' z (r.ts k) s k
theorem vQ.on (h:vQ K H Z E) (k:Kp K H H1) (r:h_ K H1 σ τ):CK K H1 (Z σ) (E τ):=(h.kp k).at r
end
def Tl (K:PySem.W.Frag) (E:St→XK) (t:mM):TS:=fun Dv τ H=>∃ σ S De Z,h_ K H σ τ∧Rs K S H∧t De σ S Z∧SJ K H De Dv∧vQ K H Z E
structure DS (K:PySem.W.Frag) (X:Cx) (b:Bool) (st:Stmt) (t:mM):Prop where
 of:∀ y:Ev X b,PS y.cx st (Tl K y.E t)
structure Fi (K:PySem.W.Frag) (X:Cx) (b:Bool) (st:List Stmt) (t:mM):Prop where
 of:∀ y:Ev X b,A4 y.cx st (Tl K y.E t)
theorem PS.mono (h:PS X e t) (i:∀ D τ H,t' D τ H→t D τ H):PS X e t':=fun pins s τ H D I q=>h pins s τ H D I (i D τ H q)
theorem A4.mono (h:A4 X e t) (i:∀ D τ H,t' D τ H→t D τ H):A4 X e t':=fun pins s τ H D I q=>h pins s τ H D I (i D τ H q)
section
variable {K:PySem.W.Frag}{X:Cx}{b:Bool}{pos:Pos}
def QM:mM:=fun De σ S _=>De.nx σ S
def VH (t u:mM):mM:=fun De σ S Z=>t { De with nx:=fun aK S'=>u De aK S' Z } σ S Z
theorem s0:Fi K X b [] QM:=⟨fun y=>(HP (X:=y.cx)).mono <| by rintro D τ H ⟨σ,S,De,Z,aB,hS,q,hD,hZ⟩;exact hD.nx _ _ _ _ q aB hS (.refl _)⟩
theorem sc {st:Stmt}{r:List Stmt}{t u:mM} (h1:DS K X b st t) (h2:Fi K X b r u):Fi K X b (st :: r) (VH t u) :=
 ⟨fun y=>(En (h1.of y) (h2.of y)).mono <| by rintro D τ H ⟨σ,S,De,Z,aB,hS,q,hD,hZ⟩;exact
  ⟨σ,S,_,Z,aB,hS,q,⟨fun vg S1 VI H1 r1 a b c=>⟨vg,S1,De,Z,a,b,r1,hD.kp c,hZ.kp c⟩,hD.rt,hD.bk,hD.ct⟩,hZ⟩⟩
theorem s1 {st:Stmt}{t:mM} (h:DS K X b st t):Fi K X b [st] t:=⟨fun y=>HQ (h.of y)⟩
def QN (t:TD):mM:=fun De σ S Z=>t σ S (fun _ S1=>De.nx σ S1) (Z σ)
theorem se (h:DE K X e t) (hs:swapsWith e none pos.line X.env=pure false:=by rfl):DS K X b (.Expr e pos) (QN t) :=
 ⟨fun y=>(HR (X:=y.cx) (h.of y) hs).mono <| by rintro D τ H ⟨σ,S,De,Z,aB,hS,q,hD,hZ⟩;exact⟨σ,S,_,_,aB,hS,q,fun d S1 v H1 r1 _ s1 k1=>hD.nx _ _ _ _ r1 (aB.ts k1) s1 k1,hZ.at aB⟩⟩
def VJ (t:TD):mM:=fun De σ S Z=>t σ S De.rt (Z σ)
theorem sr (h:DE K X e t):DS K X b (.Return (some e) pos) (VJ t) :=
 ⟨fun y=>(LU (h.of y)).mono <| by rintro D τ H ⟨σ,S,De,Z,aB,hS,q,hD,hZ⟩;exact⟨σ,S,_,_,aB,hS,q,hD.rt,hZ.at aB⟩⟩
def ZL (c:pV) (t u:mM):mM:=fun De σ S Z=>c σ S (fun b S1=>if b=true then t De σ S1 Z else u De σ S1 Z) (Z σ)
theorem si (hc:DT K X c tc) (ha:Fi K X b a t) (hb:Fi K X b a' u):DS K X b (.If c a a' pos) (ZL tc t u) :=
 ⟨fun y=>(Pm (hc.of y) (ha.of y) (hb.of y)).mono <| by rintro D τ H ⟨σ,S,De,Z,aB,hS,q,hD,hZ⟩;exact
  ⟨σ,S,_,_,aB,hS,q,fun c S1 H1 r1 s1 k1=>by
   cases c with
   | true=>rw[if_pos rfl] at r1 ⊢;exact⟨σ,S1,De,Z,aB.ts k1,s1,r1,hD.kp k1,hZ.kp k1⟩
   | false=>rw[if_neg zd] at r1 ⊢;exact⟨σ,S1,De,Z,aB.ts k1,s1,r1,hD.kp k1,hZ.kp k1⟩,hZ.at aB⟩⟩
abbrev yU:=D→SD→aT→(SD→aT→Prop)→Prop
def Tg (K:PySem.W.Frag) (g:yU):TG:=fun v τ H Q=>∃ d σ S R,Rv K H d v∧h_ K H σ τ∧Rs K S H∧g d σ S R∧KH K H R Q
structure DG (K:PySem.W.Frag) (X:Cx) (e:Expr) (g:yU):Prop where
 of:∀ Y:Cx,Y.K=X.K→Y.N=X.N→Y.env=X.env→Y.fn=X.fn→Y.calm=X.calm→PG Y e (Tg K g)
theorem PG.mono (h:PG X e t) (i:∀ v τ H Q,t' v τ H Q→t v τ H Q):PG X e t':=fun pins s τ H v u Q I r q=>h pins s τ H v u Q I r (i v τ H Q q)
def SK (i:Nat):yU:=fun d σ S R=>R (σ.set i (some d)) S
theorem gn (hN:X.N.Nodup) (hi:X.N[i]?=some x:=by rfl) (hx:Loc X.env.scope x:=by first | exact Or.inl rfl | exact Or.inr rfl) (hf:X.fn x=true∨X.env.scope.names.lookup x=some .local:=by first | exact .inl rfl | exact .inr rfl):DG K X (.Name x pos) (SK i) :=
 ⟨fun Y _ e2 e3 e4 _=>(oU (X:=Y) (by rw[e2];exact hN) (by rw[e2];exact hi) (by rw[e3];exact hx) (by rw[e3,e4];exact hf)).mono <| by rintro v τ H Q ⟨d,σ,S,R,rv,aB,hS,q,hR⟩;exact hR _ S _ H q (aB.set i rv) hS (.refl _)⟩
abbrev CN:=List D→SD→aT→(SD→aT→Prop)→Prop
def ZM (K:PySem.W.Frag) (g:CN):Oy:=fun vs τ H Q=>∃ ds σ S R,RvAll K H ds vs∧h_ K H σ τ∧Rs K S H∧g ds σ S R∧KH K H R Q
structure SM (K:PySem.W.Frag) (X:Cx) (es:List Expr) (g:CN):Prop where
 of:∀ Y:Cx,Y.K=X.K→Y.N=X.N→Y.env=X.env→Y.fn=X.fn→Y.calm=X.calm→Ki Y es (ZM K g)
theorem Ki.mono (h:Ki X e t) (i:∀ v τ H Q,t' v τ H Q→t v τ H Q):Ki X e t':=fun pins s τ H v u Q I r q=>h pins s τ H v u Q I r (i v τ H Q q)
def KJ:CN:=fun ds σ S R=>ds=[]∧R σ S
def yV (g:yU) (u:CN):CN:=fun ds σ S R=>∃ d r,ds=d :: r∧g d σ S fun vg S1=>u r vg S1 R
theorem g0:SM K X [] KJ:=⟨fun Y _ _ _ _ _=>(A7 (X:=Y)).mono <| by rintro vs τ H Q ⟨ds,σ,S,R,rv,aB,hS,⟨e,q⟩,hR⟩;exact by subst e;exact⟨rv.nil,hR _ _ _ _ q aB hS (.refl _)⟩⟩
theorem gc (h1:DG K X e g) (h2:SM K X es u) (hs:∀ env:Env,(assignEach (e :: es) env).map (·.2)=assign e env :: (assignEach es env).map (·.2):=by intro _;rfl):SM K X (e :: es) (yV g u) :=
 ⟨fun Y a b c d f=>(pe (h1.of Y a b c d f) (h2.of Y a b c d f) (hs _)).mono <| by
  rintro vs τ H Q ⟨ds,σ,S,R,rv,aB,hS,⟨d,r,e,q⟩,hR⟩
  subst e
  obtain⟨y,ys,e1,r1,r2⟩:=rv.cons
  exact⟨y,ys,e1,d,σ,S,_,r1,aB,hS,q,fun vg S1 VI H1 q1 a b c=>⟨r,vg,S1,R,RvAll.ts c _ r2,a,b,q1,hR.kp c⟩⟩⟩
def KL (n:Nat) (g:CN):yU:=fun d σ S R=>∃ ds,d=.tup ds∧ds.length=n∧g ds σ S R
theorem gt (h:SM K X es g) (hn:∀ env:Env,(assignEach es env).length=n:=by intro _;rfl) (xy:∀ env:Env,(assignEach es env).findIdx? (·.1)=none:=by intro _;rfl) (hK:X.K=K:=by rfl) (hc:X.calm=true:=by rfl):DG K X (.Tuple es j pos) (KL n g) :=
 ⟨fun Y a b c d f=>(Eo (X:=Y) (by rw[f];exact hc) (h.of Y a b c d f) (hn _) (xy _)).mono <| by
  rintro v τ H Q ⟨d,σ,S,R,rv,aB,hS,⟨ds,e,hl,q⟩,hR⟩
  subst e
  obtain⟨p,xs,e1,e2,t⟩:=rv.tup
  exact⟨p,xs,e1,.of e2,by rw[t.len];exact hl,ds,σ,S,R,t,aB,hS,q,hR⟩⟩
def QO (i:Nat) (t:TD):mM:=fun De σ S Z=>t σ S (fun d S1=>De.nx (σ.set i (some d)) S1) (Z σ)
theorem eI (hN:X.N.Nodup) (h:DE K X e t) (hi:X.N[i]?=some x:=by rfl) (hx:Loc X.env.scope x:=by first | exact Or.inl rfl | exact Or.inr rfl) (hs:swapsWith e (some (.Name x pos')) pos.line X.env=pure false:=by rfl)
  (hf:X.fn x=true∨X.env.scope.names.lookup x=some .local:=by first | exact .inl rfl | exact .inr rfl):DS K X b (.Assign [.Name x pos'] e pos) (QO i t) :=
 ⟨fun y=>(LX (X:=y.cx) (i:=i) hN hi hx (h.of y) hs hf).mono <| by rintro D τ H ⟨σ,S,De,Z,aB,hS,q,hD,hZ⟩;exact⟨σ,S,_,_,aB,hS,q,fun d S1 v H1 r1 v1 s1 k1=>hD.nx _ _ _ _ r1 ((aB.ts k1).set i v1) s1 k1,hZ.at aB⟩⟩
def VL (t:TD) (g:yU):mM:=fun De σ S Z=>t σ S (fun d S1=>g d σ S1 De.nx) (Z σ)
theorem sa (h:DE K X e t) (hg:DG K X tg g) (hs:swapsWithSole [tg] e pos.line X.env=pure false:=by rfl) (hw:swappedStores [tg] e X.env=pure none:=by rfl) (h1:(assignEach [tg] X.env).map (·.2)=[assign tg X.env]:=by rfl) :
  DS K X b (.Assign [tg] e pos) (VL t g) :=
 ⟨fun y=>(Ep (X:=y.cx) (h.of y) (hg.of _ rfl rfl rfl rfl rfl) hs hw h1).mono <| by rintro D τ H ⟨σ,S,De,Z,aB,hS,q,hD,hZ⟩;exact⟨σ,S,_,_,aB,hS,q,fun d S1 v H1 r1 v1 s1 k1=>⟨d,σ,S1,_,v1,aB.ts k1,s1,r1,hD.nx.kp k1⟩,hZ.at aB⟩⟩
def VM (td ty tv:TD):mM:=fun De σ S Z=>tv σ S (fun v S1=>td σ S1 (fun x S2=>ty σ S2 (fun y S3=>∃ a kvs k,x=.ref a∧S3 a=some (.dw kvs)∧yT y=some k∧kvs.length<sizeLine∧De.nx σ (S3.set a (.dw (dput kvs k v)))) (Z σ)) (Z σ)) (Z σ)
theorem sd {o i value:Expr}{td ty tv:TD}{pos':Pos} (hu:X.A.units+64<cLine) (ho:DE K X o td) (hi:DE K X i ty) (hv:DE K X value tv) (hs:swapsWith value (some (.Subscript o i pos')) pos.line X.env=pure false:=by rfl):DS K X b (.Assign [.Subscript o i pos'] value pos) (VM td ty tv) :=
 ⟨fun y=>(Iq (X:=y.cx) (by show X.A.units+1<cLine;omega) (ho.of y) (hi.of y) (hv.of y) hs).mono <| by rintro D τ H ⟨σ,S,De,Z,aB,hS,q,hD,hZ⟩;exact
  ⟨σ,S,_,_,aB,hS,q,fun v S1 vv H1 r1 v1 s1 k1=>⟨σ,S1,_,_,aB.ts k1,s1,r1,fun x S2 xv H2 r2 v2 s2 k2=>⟨σ,S2,_,_,aB.ts (k1.trans k2),s2,r2,by
   rintro y S3 yv H3 ⟨a,kvs,k,e1,e2,e3,hl,r3⟩ v3 s3 k3
   subst e1
   obtain⟨vs,e4,t⟩:=s3.dw e2
   have kk:=s3.hX (o:=.dK (putK vs k vv)) e2
   refine⟨a,_,(Rv.ts k3 _ v2).ref,by rw[kK e3 v3];exact EJ.k e4 (by rw[t.len];exact hl),?_⟩
   exact hD.nx _ _ _ _ r3 (aB.ts (((k1.trans k2).trans k3).trans kk)) (s3.put (c:=.dw _) e2 ⟨_,aF,(t.put k (Rv.ts (k2.trans k3) _ v1)).ts kk⟩) (((k1.trans k2).trans k3).trans kk),hZ.on (k1.trans k2) (aB.ts (k1.trans k2))⟩,hZ.on k1 (aB.ts k1)⟩,hZ.at aB⟩⟩
end
section
variable {X:Cx}{pins:List (Addr×Obj)}{σ:St}{H:Hp}{s:Shared}{A:Around}{E:Value→Shared→Prop}{a:Addr}{kvs:List (Key×V)}{k:Key}{u:Value}
theorem Nd (I:Inv X pins σ H s) (e:H a=some (.dK kvs)) (ry:RelV (kV k) u) (rz:RelV z r) (hl:kvs.length<sizeLine)
  (h1:∀ v w' s',fV kvs k=some v→Inv X pins σ H s'→RelV v w'→Q w' s') (h2:fV kvs k=none→∀ s',Inv X pins σ (upd H a (.dK (putK kvs k z))) s'→Q r s') :
  wpAny (model X.prog X.w) A (call (.builtin "dict.setdefault") [.ref a,u,r]) Q E s:=by
 obtain⟨zz,hd,vs,rel,dd⟩:=Bh I.aM e
 have hp:=nU kvs k z
 refine call_meetsIn PySem.F.slot_dict_setdefault dd.typeIs PySem.F.entry_dict_setdefault (PySem.F.args_dict_setdefault_3 _ _ _) (PySem.kt_meets_setdefault (aE X.prog X.w) a (iZ ry) hd r)
  ⟨vs,dd,by rw[← rel.length];exact zz,fun w' hw=>?_,fun hn h' Kq hs=>?_⟩
 ·cases q:fV kvs k with
  | none =>
   have:=fU.none_of (o:=valueAt vs k) (by rw[← q];exact rel.val k)
   rw[this] at hw;cases hw
  | some v =>
   obtain⟨w2,rl,X0⟩:=fU.some_of (v:=v) (o:=valueAt vs k) (by rw[← q];exact rel.val k)
   rw[rl] at hw;cases hw
   exact h1 v _ _ q (I.tok _) X0
 ·cases q:fV kvs k with
  | some v =>
   obtain⟨w2,rl,X0⟩:=fU.some_of (v:=v) (o:=valueAt vs k) (by rw[← q];exact rel.val k)
   rw[rl] at hn;cases hn
  | none =>
   have he:∃ q,h'.get? a=some q:=by obtain⟨q,_,_,hq,_⟩:=Kq;exact⟨q,hq⟩
   exact h2 q _ (tU I (by rw[e];exact True.intro) hs he (xU (by omega) hd (rel.put k rz) Kq))
end
section
variable {X:Cx}{o e f:Expr}{apos aS:Pos}{td ty tx:TE}
def QP (td ty tx:TE):TE:=fun σ H Q=>td σ H fun x H1=>∃ a,x=.ref a∧OC H1 a∧ty σ H1 fun y H2=>tx σ H2 fun z H3=>∃ kvs k,H3 a=some (.dK kvs)∧y=kV k∧kvs.length<sizeLine ∧
 (∀ v,fV kvs k=some v→Q v H3)∧(fV kvs k=none→Q z (upd H3 a (.dK (putK kvs k z))))
theorem Fj (ho:PE X o td) (he:PE X e ty) (hf:PE X f tx) (m:M2 X o "setdefault" apos e f aS):PE X (.Call (.Attribute o "setdefault" apos) [e,f] [] aS) (QP td ty tx):=by
 intro pins s σ H Q I h
 refine wpAny_Call_method m.base m.Ee m.line PySem.F.plainAttrs_dict PySem.F.slot_dict_setdefault PySem.F.type_dict_setdefault (br (ho pins s σ H _ I h) fun u s1 ⟨x,H1,I1,rx,a,ex,d,q1⟩=>?_)
 subst ex
 obtain rfl:u=Value.ref a:=rx
 obtain⟨t1,t2,_⟩:=tV I1 d
 refine⟨t1,t2,?_⟩
 rw[m.trees]
 refine Calls.callWith_builtin rfl (Calls.evalArgs_plain (yu (br (he pins s1 σ H1 _ I1 q1) fun iv s2 ⟨y,H2,I2,ry,q2⟩ =>
  yu (br (hf pins s2 σ H2 _ I2 q2) fun fv s3 ⟨z,H3,I3,rz,kvs,k,ea,ey,hl,q3,q4⟩=>Calls.spliced_nil ?_))))
 subst ey
 exact Nd I3 ea ry rz hl (fun v w' s4 l I4 pC=>⟨v,H3,I4,pC,q3 v l⟩) fun l s4 I4=>⟨z,_,I4,rz,q4 l⟩
end
section
variable {K:PySem.W.Frag}{X:Cx}{b:Bool}{o e f:Expr}{apos aS pos:Pos}{td ty tx:TD}
theorem uc (hS:Rs K S H) (e:S a=some (.dw kvs)):OC H a:=by
 obtain⟨vs,e1,_⟩:=hS.dw e
 exact .inl ⟨vs,.inl e1⟩
def QQ (td ty:TD):TD:=fun σ S R Z=>td σ S (fun x S1=>∃ a kvs,x=.ref a∧S1 a=some (.dw kvs)∧ty σ S1 (fun y S2=>∃ kvs k,S2 a=some (.dw kvs)∧yT y=some k∧R ((cy kvs k).getD .au) S2) Z) Z
theorem Fl (hS:Rs K S H) (e:S a=some (.dw kvs)) (r:Rv K H d v):∃ o,mH H a (kV k) o∧Rv K H ((cy kvs k).getD d) (o.getD v):=by
 obtain⟨o,g,h1,h2⟩:=oY (k:=k) hS e
 refine⟨o,g,?_⟩
 cases q:cy kvs k with
 | none =>
  rw[q] at h1
  cases o with
  | none=>exact r
  | some _=>cases h1
 | some d' =>
  obtain⟨v',rfl,r'⟩:=h2 d' q
  exact r'
theorem ZN (hu:X.A.units+64<cLine) (ho:DE K X o td) (he:DE K X e ty) (m:M1 X o "get" apos e aS:=by exact⟨rfl,rfl,rfl,rfl⟩):DE K X (.Call (.Attribute o "get" apos) [e] [] aS) (QQ td ty) :=
 ⟨fun y=>(EM (X:=y.cx) (by show X.A.units+1<cLine;omega) (ho.of y) (he.of y) ⟨m.base,m.Ee,m.line,m.trees⟩).mono <| by rintro τ H Q ⟨σ,S,R,Z,aB,hS,q,hR,hZ⟩;exact
  ⟨σ,S,_,Z,aB,hS,q,by
   rintro x S1 xv H1 ⟨a,kvs,e1,e2,r1⟩ v1 s1 k1
   subst e1
   exact⟨a,v1.ref,uc s1 e2,σ,S1,_,Z,aB.ts k1,s1,r1,by
    rintro y S2 yv H2 ⟨kvs,k,e3,e4,r2⟩ v2 s2 k2
    obtain⟨o,g,r⟩:=Fl (k:=k) s2 e3 hU
    exact⟨o,by rw[kK e4 v2];exact g,(hR.kp (k1.trans k2)).now s2 r2 r⟩,hZ.kp k1⟩,hZ⟩⟩
def QR (td ty tx:TD):TD:=fun σ S R Z=>td σ S (fun x S1=>∃ a kvs,x=.ref a∧S1 a=some (.dw kvs)∧ty σ S1 (fun y S2=>tx σ S2 (fun z S3=>∃ kvs k,S3 a=some (.dw kvs)∧yT y=some k∧R ((cy kvs k).getD z) S3) Z) Z) Z
theorem ZO (hu:X.A.units+64<cLine) (ho:DE K X o td) (he:DE K X e ty) (hf:DE K X f tx) (m:M2 X o "get" apos e f aS:=by exact⟨rfl,rfl,rfl,rfl⟩):DE K X (.Call (.Attribute o "get" apos) [e,f] [] aS) (QR td ty tx) :=
 ⟨fun y=>(EN (X:=y.cx) (by show X.A.units+1<cLine;omega) (ho.of y) (he.of y) (hf.of y) ⟨m.base,m.Ee,m.line,m.trees⟩).mono <| by rintro τ H Q ⟨σ,S,R,Z,aB,hS,q,hR,hZ⟩;exact
  ⟨σ,S,_,Z,aB,hS,q,by
   rintro x S1 xv H1 ⟨a,kvs,e1,e2,r1⟩ v1 s1 k1
   subst e1
   exact⟨a,v1.ref,uc s1 e2,σ,S1,_,Z,aB.ts k1,s1,r1,fun y S2 yv H2 r2 v2 s2 k2=>⟨σ,S2,_,Z,aB.ts (k1.trans k2),s2,r2,by
    rintro z S3 zv H3 ⟨kvs,k,e3,e4,r3⟩ v3 s3 k3
    obtain⟨o,g,r⟩:=Fl (k:=k) s3 e3 v3
    exact⟨o,by rw[kK e4 v2];exact g,(hR.kp ((k1.trans k2).trans k3)).now s3 r3 r⟩,hZ.kp (k1.trans k2)⟩,hZ.kp k1⟩,hZ⟩⟩
def QS (td ty:TD):TD:=fun σ S R Z=>td σ S (fun x S1=>∃ a kvs,x=.ref a∧S1 a=some (.dw kvs)∧ty σ S1 (fun y S2=>∃ kvs k d,S2 a=some (.dw kvs)∧yT y=some k∧cy kvs k=some d∧R d (S2.set a (.dw (vM kvs k)))) Z) Z
theorem ZP (ho:DE K X o td) (he:DE K X e ty) (m:M1 X o "pop" apos e aS:=by exact⟨rfl,rfl,rfl,rfl⟩):DE K X (.Call (.Attribute o "pop" apos) [e] [] aS) (QS td ty) :=
 ⟨fun y=>(EO (X:=y.cx) (ho.of y) (he.of y) ⟨m.base,m.Ee,m.line,m.trees⟩).mono <| by rintro τ H Q ⟨σ,S,R,Z,aB,hS,q,hR,hZ⟩;exact
  ⟨σ,S,_,Z,aB,hS,q,by
   rintro x S1 xv H1 ⟨a,kvs,e1,e2,r1⟩ v1 s1 k1
   subst e1
   exact⟨a,v1.ref,uc s1 e2,σ,S1,_,Z,aB.ts k1,s1,r1,by
    rintro y S2 yv H2 ⟨kvs,k,d,e3,e4,e5,r2⟩ v2 s2 k2
    obtain⟨vs,e6,t⟩:=s2.dw e3
    obtain⟨v,e7,r7⟩:=(t.val k).1 d e5
    have kk:=s2.hX (o:=.dK (nT vs k)) e3
    exact⟨vs,k,v,e6,kK e4 v2,e7,hR _ _ _ _ r2 (Rv.ts kk _ r7) (s2.put (c:=.dw _) e3 ⟨_,aF,(t.drop k).ts kk⟩) ((k1.trans k2).trans kk)⟩,hZ.kp k1⟩,hZ⟩⟩
def QT (td ty tx:TD):TD:=fun σ S R Z=>td σ S (fun x S1=>∃ a kvs,x=.ref a∧S1 a=some (.dw kvs)∧ty σ S1 (fun y S2=>tx σ S2 (fun z S3=>∃ kvs k,S3 a=some (.dw kvs)∧yT y=some k∧kvs.length<sizeLine ∧
 (∀ d,cy kvs k=some d→R d S3)∧(cy kvs k=none→R z (S3.set a (.dw (dput kvs k z))))) Z) Z) Z
theorem ZQ (ho:DE K X o td) (he:DE K X e ty) (hf:DE K X f tx) (m:M2 X o "setdefault" apos e f aS:=by exact⟨rfl,rfl,rfl,rfl⟩):DE K X (.Call (.Attribute o "setdefault" apos) [e,f] [] aS) (QT td ty tx) :=
 ⟨fun y=>(Fj (X:=y.cx) (ho.of y) (he.of y) (hf.of y) ⟨m.base,m.Ee,m.line,m.trees⟩).mono <| by rintro τ H Q ⟨σ,S,R,Z,aB,hS,q,hR,hZ⟩;exact
  ⟨σ,S,_,Z,aB,hS,q,by
   rintro x S1 xv H1 ⟨a,kvs,e1,e2,r1⟩ v1 s1 k1
   subst e1
   exact⟨a,v1.ref,uc s1 e2,σ,S1,_,Z,aB.ts k1,s1,r1,fun y S2 yv H2 r2 v2 s2 k2=>⟨σ,S2,_,Z,aB.ts (k1.trans k2),s2,r2,by
    rintro z S3 zv H3 ⟨kvs,k,e3,e4,hl,r3,r4⟩ v3 s3 k3
    obtain⟨vs,e6,t⟩:=s3.dw e3
    have kk:=s3.hX (o:=.dK (putK vs k zv)) e3
    have X1:=hR.kp ((k1.trans k2).trans k3)
    refine⟨vs,k,e6,kK e4 (Rv.ts k3 _ v2),by rw[t.len];exact hl,fun v hv=>?_,fun hn=>?_⟩
    ·cases q:cy kvs k with
     | none=>rw[(t.val k).2 q] at hv;cases hv
     | some d =>
      obtain⟨v',e7,r7⟩:=(t.val k).1 d q
      rw[e7] at hv;cases hv
      exact X1.now s3 (r3 d q) r7
    ·cases q:cy kvs k with
     | some d=>obtain⟨v',e7,r7⟩:=(t.val k).1 d q;rw[e7] at hn;cases hn
     | none=>exact X1 _ _ _ _ (r4 q) (Rv.ts kk _ v3) (s3.put (c:=.dw _) e3 ⟨_,aF,(t.put k v3).ts kk⟩) kk,hZ.kp (k1.trans k2)⟩,hZ.kp k1⟩,hZ⟩⟩
def yW (f:Str) (d:D):List (Str×D)→List (Str×D)
 | []=>[(f,d)]
 | (g,x) :: r=>if g=f then (g,d) :: r else (g,x) :: yW f d r
theorem bW.yW {H:Hp}{f:Str}{d:D}{v:V} (rd:Rv K H d v):∀ {ks:List (Str×D)}{vs:List (Str×V)},bW K H ks vs→bW K H (yW f d ks) (putF f v vs)
 | _,_,.nil=>.cons ⟨rfl,rd⟩ .nil
 | (g,x) :: r,(g',y) :: r',.cons h t=>by
  obtain⟨e,h⟩:=h
  dsimp only at e
  subst e
  show bW K H (if g=f then (g,d) :: r else (g,x) :: L2.yW f d r) (if g=f then (g,v) :: r' else (g,y) :: putF f v r')
  by_cases q:g=f
  ·rw[if_pos q,if_pos q];exact .cons ⟨rfl,rd⟩ t
  ·rw[if_neg q,if_neg q];exact .cons ⟨rfl,h⟩ (bW.yW rd t)
def QU (C:Addr) (f:Str) (ta tv:TD):mM:=fun De σ S Z=>tv σ S (fun y S1=>ta σ S1 (fun x S2=>∃ a fs,x=.ref a∧S2 a=some (.ins C fs)∧fs.length<1000∧De.nx σ (S2.set a (.ins C (yW f y fs)))) (Z σ)) (Z σ)
theorem sf {C:Addr}{f:Str}{value:Expr}{ta tv:TD}{pos':Pos} (c:tP K C) (n:iY K C f) (ha:DE K X o ta) (hv:DE K X value tv) (hs:swapsWith value (some (.Attribute o f pos')) pos.line X.env=pure false:=by rfl) (hK:X.K=K:=by rfl) :
  DS K X b (.Assign [.Attribute o f pos'] value pos) (QU C f ta tv):=by
 subst hK
 exact⟨fun y=>(Mi (X:=y.cx) (ha.of y) (hv.of y) hs).mono <| by rintro D τ H ⟨σ,S,De,Z,aB,hS,q,hD,hZ⟩;exact
  ⟨σ,S,_,_,aB,hS,q,fun y S1 yv H1 r1 v1 s1 k1=>⟨σ,S1,_,_,aB.ts k1,s1,r1,by
   rintro x S2 xv H2 ⟨a,fs,e1,e2,hl,r2⟩ v2 s2 k2
   subst e1
   obtain⟨dx,vs,e4,t4⟩:=s2.ins e2
   have kk:=s2.hX (o:=.ins C dx (putF f yv vs)) e2
   exact⟨a,C,dx,vs,v2.ref,e4,c,n,by rw[t4.len];exact hl,hD.nx _ _ _ _ r2 (aB.ts ((k1.trans k2).trans kk)) (s2.put (c:=.ins C _) e2 ⟨dx,_,aF,(bW.yW (Rv.ts k2 _ v1) t4).ts kk⟩) ((k1.trans k2).trans kk)⟩,hZ.on k1 (aB.ts k1)⟩,hZ.at aB⟩⟩
def Nf (C:Addr) (t:oX):mM:=fun _ σ S Z=>t σ S (fun ds S1=>ds.length≤sizeLine∧Z σ C S1) (Z σ)
end
section
variable {K:PySem.W.Frag}{X:Cx}{C:Addr}{x:Str}{e:Expr}{es:List Expr}{np aS pos:Pos}
theorem CO {t:TA}{y:Ev X true} (hc:X.calm=true) (c:XC X.K C) (hg:Gl X x) (hm:X.mg x=some (.ref C)) (ha:PA y.cx (e :: es) t) (pA:(x == ("__debug__" : Str))=false)
  (he:starEach (e :: es) X.env=(false,eval e X.env) :: starEach es X.env) (gF:(backTo aS (starEach es X.env)).any (·.1)=false) :
  PS y.cx (.Raise (some (.Call (.Name x np) (e :: es) [] aS)) none pos) (fun _ σ H=>t σ H fun vs H1=>vs.length≤sizeLine∧y.E σ (.ref C) none H1):=by
 intro pins s σ H D I h
 obtain⟨bm,N,nm,q,bs,hdct,sn,sub,ab,col,dd,k0,k1,k2,k3,k5,mN,hC,hN,Sy,T⟩:=c.at I.mod.Ow
 have lM:bm.contains (.type "BaseException")=true:=T.hasType (by decide)
 refine wpAny_Raise_call_subT (C:=C) (nm:=nm) (q:=q) (N:=N) (bs:=bs) (bm:=bm) (hdct:=hdct) (sn:=sn) (sub:=sub) (ab:=ab) (col:=col) (dd:=dd) (k0:=k0) (k1:=k1) (k2:=k2) (k3:=k3) (k5:=k5) PySem.F.excBase_ValueError (mN:=mN)
  lM (I.ok.hd hc) (by show ((backTo aS (starEach (e :: es) X.env)).any (·.1))=false;rw[he];show (false || (backTo aS (starEach es X.env)).any (·.1))=false;rw[gF];rfl) Sy (oT I hg hm ⟨rfl,?_⟩ pA)
 have h1:=ha aS pins s σ H _ I h
 have VN:starEach (e :: es) y.cx.env=(false,eval e X.env) :: starEach es X.env:=he
 rw[VN] at h1 ⊢
 exact Calls.evalArgs_plain (br h1 <| by rintro us s2 ⟨vs,H2,I2,r,z,q2⟩;exact⟨rfl,by show us.length≤sizeLine;rw[← r.length];exact z,I2.bk _ _ hC,hN.keeps I2.bk,T.keeps I2.bk,fun h' a hx=>y.ok.own rfl pins σ H2 s2 h' a _ _ I2 hx q2⟩)
theorem vR {t:oX} (c:XC K C) (hm:X.mg x=some (.ref C)) (ha:DA K X (e :: es) t) (hg:Gl X x:=by rfl) (pA:(x == ("__debug__" : Str))=false:=by decide)
  (he:starEach (e :: es) X.env=(false,eval e X.env) :: starEach es X.env:=by rfl) (gF:(backTo aS (starEach es X.env)).any (·.1)=false:=by rfl) (hc:X.calm=true:=by rfl) (hK:X.K=K:=by rfl) :
  DS K X true (.Raise (some (.Call (.Name x np) (e :: es) [] aS)) none pos) (Nf C t):=by
 subst hK
 exact⟨fun y=>(CO (y:=y) hc c hg hm (ha.of y) pA he gF).mono <| by rintro D τ H ⟨σ,S,De,Z,aB,hS,q,hD,hZ⟩;exact
  ⟨σ,S,_,_,aB,hS,q,by rintro ds S1 vs H1 ⟨hl,r1⟩ v1 s1 k1;exact⟨by rw[v1.len];exact hl,hZ.at aB C S1 H1 r1 s1 k1⟩,hZ.at aB⟩⟩
end
structure yX where
 xs:List D
 ok:aT→Prop
def QV (K:PySem.W.Frag) (H0:Hp) (J:It) (I:yX):Prop:=∀ i S H,Kp K H0 H→Rs K S H→I.ok S→(∀ d,I.xs[i]?=some d→J.go i H∧∀ x H',J.Pp i H x H'→Rv K H' d x∧Kp K H H'∧Rs K S H')∧(I.xs.length≤i→J.stop i H)
abbrev Bs:=SD→aT→(yX→aT→Prop)→KX→Prop
def Ti (K:PySem.W.Frag) (E:St→XK) (t:Bs):TI:=fun τ H R=>∃ σ S RI Z,h_ K H σ τ∧Rs K S H∧t σ S RI Z∧(∀ I S' J H',RI I S'→QV K H' J I→Rs K S' H'→Kp K H H'→R J H')∧CK K H Z (E τ)
structure DI (K:PySem.W.Frag) (X:Cx) (tg it:Expr) (t:Bs):Prop where
 of:∀ {b:Bool} (y:Ev X b),PI y.cx tg it (Ti K y.E t)
theorem PI.mono (h:PI X tg it t) (i:∀ τ H R,t' τ H R→t τ H R):PI X tg it t':=fun pins s τ H R I q=>h pins s τ H R I (i τ H R q)
section
variable {K:PySem.W.Frag}{X:Cx}{tg l:Expr}
def VO (t:TD):Bs:=fun σ S R Z=>t σ S (fun x S1=>∃ ds,sP S1 x ds∧R ⟨ds,fun S=>sP S x ds⟩ S1) Z
theorem il (h:DE K X l t) (hK:X.K=K:=by rfl):DI K X tg l (VO t):=by
 subst hK
 exact⟨fun y=>(HV (X:=y.cx) (h.of y)).mono <| by rintro τ H R ⟨σ,S,RI,Z,aB,hS,q,hR,hZ⟩;exact⟨σ,S,_,Z,aB,hS,q,by
  rintro x S1 v H1 ⟨ds,h1,r1⟩ v1 s1 k1
  obtain⟨a,xs,rfl,hq,t⟩:=h1.at s1 v1
  refine⟨a,rfl,⟨xs,hq⟩,hR _ S1 _ H1 r1 (fun i S2 H2 k2 s2 SN=>?_) s1 k1⟩
  obtain⟨a',Ng,e',Ei,t'⟩:=sP.at SN s2 (Rv.ts k2 _ v1)
  cases e'
  refine⟨fun d hd=>?_,fun hl=>⟨Ng,Ei,by rw[t'.len];exact hl⟩⟩
  obtain⟨v,e1,r⟩:=t'.get hd
  refine⟨⟨Ng,v,Ei,e1⟩,fun x' H' ⟨e2,e3⟩=>?_⟩
  subst e2
  have:=e3 Ng Ei
  rw[e1] at this;cases this
  exact⟨r,.refl _,s2⟩,hZ⟩⟩
def QW (t:TD):Bs:=fun σ S R Z=>t σ S (fun x S1=>∃ ds,(x=.tup ds∨x=.kt ds)∧R ⟨ds,fun _=>True⟩ S1) Z
theorem Nh {H:Hp}{x:D}{ds:List D}{v:V} (h:x=.tup ds∨x=.kt ds) (r:Rv K H x v):∃ a xs,v=.ref a∧(∀ H',Kp K H H'→iQ K H' a xs)∧RvAll K H ds xs:=by
 rcases h with rfl | rfl
 ·obtain⟨a,xs,rfl,q,t⟩:=r.tup
  exact⟨a,xs,rfl,fun H' k=>.of (k.t _ _ q),t⟩
 ·obtain⟨a,xs,rfl,q,t⟩:=r.kt
  exact⟨a,xs,rfl,fun H' k=>.inr q,t⟩
theorem Hx (h:DE K X l t) (hK:X.K=K:=by rfl):DI K X tg l (QW t):=by
 subst hK
 exact⟨fun y=>(L4 (X:=y.cx) (h.of y)).mono <| by rintro τ H R ⟨σ,S,RI,Z,aB,hS,q,hR,hZ⟩;exact⟨σ,S,_,Z,aB,hS,q,by
  rintro x S1 v H1 ⟨ds,h1,r1⟩ v1 s1 k1
  obtain⟨a,xs,rfl,hq,t⟩:=Nh h1 v1
  refine⟨a,rfl,⟨xs,hq _ (.refl _)⟩,hR _ S1 _ H1 r1 (fun i S2 H2 k2 s2 _=>?_) s1 k1⟩
  have OP:=hq H2 k2
  refine⟨fun d hd=>?_,fun hl=>⟨xs,OP,by rw[t.len];exact hl⟩⟩
  obtain⟨v,e1,r⟩:=(RvAll.ts k2 _ t).get hd
  refine⟨⟨xs,v,OP,e1⟩,fun x' H' ⟨e2,e3⟩=>?_⟩
  subst e2
  have:=e3 xs OP
  rw[e1] at this;cases this
  exact⟨r,.refl _,s2⟩,hZ⟩⟩
def CP (lo:Int) (n:Nat):List D:=(List.range n).map fun i=>D.int (lo+(i:Nat))
theorem dM {lo:Int}{n:Nat} : (CP lo n).length=n:=by unfold CP;rw[zb,List.length_range]
theorem i8 {lo:Int}{n i:Nat}{d:D} (h:(CP lo n)[i]?=some d):i<n∧d=.int (lo+i):=by
 unfold CP at h
 rw[zp] at h
 by_cases q:i<n
 ·rw[List.getElem?_range q] at h;exact⟨q,(zN h).symm⟩
 ·rw[List.getElem?_eq_none (by rw[List.length_range];omega)] at h;cases h
theorem Ni {H0:Hp}{lo:Int}{n:Nat} : QV K H0 (Sk lo n) ⟨CP lo n,fun _=>True⟩:=fun i S H k s _=>⟨fun d hd=>by
 obtain⟨h1,rfl⟩:=i8 hd
 exact⟨h1,by rintro x H' ⟨e1,e2⟩;exact by subst e1 e2;exact⟨aQ _,.refl _,s⟩⟩,fun hl=>by rw[dM] at hl;exact hl⟩
def VP (t:oX):Bs:=fun σ S R Z=>t σ S (fun ds S1=>∃ j:Int,ds=[.int j]∧-(2 ^ 62)≤j∧j<2 ^ 62∧R ⟨CP 0 j.toNat,fun _=>True⟩ S1) Z
theorem OQ (hm:X.mg "range" = none) (ha:DA K X [a] t) (hg:Gl X "range" := by rfl) (hs:starEach [a] X.env=[(false,eval a X.env)]:=by rfl):DI K X tg (.Call (.Name "range" p) [a] [] pos) (VP t) :=
 ⟨fun y=>(Cb (X:=y.cx) hg hm (ha.of y) hs).mono <| by rintro τ H R ⟨σ,S,RI,Z,aB,hS,q,hR,hZ⟩;exact⟨σ,S,_,Z,aB,hS,q,by
  rintro ds S1 vs H1 ⟨j,e,h1,h2,r1⟩ v1 s1 k1
  subst e
  obtain⟨v,rfl,r⟩:=v1.one
  exact⟨j,by rw[r.int],h1,h2,hR _ S1 _ H1 r1 Ni s1 k1⟩,hZ⟩⟩
end
section
variable {K:PySem.W.Frag}{X:Cx}{tg iter:Expr}{pos:Pos}
def VQ (ti:Bs) (g:yU) (tb:mM):mM:=fun De σ S Z=>ti σ S (fun I S1=>∃ P:Nat→SD→aT→Prop,P 0 σ S1∧(∀ i σ S,P i σ S→I.ok S) ∧
 (∀ i d σ S,I.xs[i]?=some d→P i σ S→g d σ S fun mD S2=>tb { De with nx:=P (i+1),ct:=P (i+1),bk:=De.nx } mD S2 Z)∧∀ σ S,P I.xs.length σ S→De.nx σ S) (Z σ)
theorem Hy (hi:DI K X tg iter ti) (hg:DG K X tg g) (hb:Fi K X true body tb) (hs:∀ x,foldedSetIterable iter X.env x=pure x:=by intro _;rfl) (hc:X.calm=true:=by rfl):DS K X true (.For tg iter body [] pos) (VQ ti g tb) :=
 ⟨fun y=>(L5 (X:=y.cx) (y.ok.loop rfl) hc (hi.of y) (hg.of _ rfl rfl rfl rfl rfl) (hb.of y) hs).mono <| by rintro D τ H ⟨σ,S,De,Z,aB,hS,q,hD,hZ⟩;exact
  ⟨σ,S,_,_,aB,hS,q,by
   rintro I S1 J H1 ⟨P,p0,VR,VS,pend⟩ hJ s1 k1
   refine⟨fun i m τ H=>m=I.xs.length - i∧i≤I.xs.length∧∃ σ S,h_ K H σ τ∧Rs K S H∧P i σ S∧Kp K H1 H,⟨_,rfl,ya _,σ,S1,aB.ts k1,s1,p0,.refl _⟩,?_⟩
   rintro i m τ2 H2 ⟨rfl,VT,mD,S2,a2,s2,p2,k2⟩
   have ok:=hJ i S2 H2 k2 s2 (VR _ _ _ p2)
   by_cases fu:i<I.xs.length
   ·obtain⟨go,yl⟩:=ok.1 _ (zg fu)
    refine .inr ⟨go,fun OM H'=>i+1≤I.xs.length∧∃ σ S,h_ K H' σ OM∧Rs K S H'∧P (i+1) σ S∧Kp K H1 H',fun aK H' h'=>⟨_,by omega,rfl,h'⟩,fun x H' hy=>?_⟩
    obtain⟨rx,k3,s3⟩:=yl x H' hy
    refine⟨_,mD,S2,_,rx,a2.ts k3,s3,VS i _ mD S2 (zg fu) p2,fun SO S4 ZR H4 r4 a4 s4 k4=>?_⟩
    have kk:=(k2.trans k3).trans k4
    exact⟨SO,S4,_,Z,a4,s4,r4,⟨fun Nj S5 VU H5 r5 a5 s5 k5=>⟨fu,Nj,S5,a5,s5,r5,kk.trans k5⟩,hD.rt.kp (k1.trans kk),(hD.nx.kp (k1.trans kk)),fun Nj S5 VU H5 r5 a5 s5 k5=>⟨fu,Nj,S5,a5,s5,r5,kk.trans k5⟩⟩,hZ.kp (k1.trans kk)⟩
   ·have e:i=I.xs.length:=by omega
    subst e
    exact .inl ⟨ok.2 (zl _),hD.nx _ _ _ _ (pend _ _ p2) a2 s2 (k1.trans k2)⟩,hZ.at aB⟩⟩
end
def nW (σ:SD) (src:List (Option Nat)):SD:=src.map fun o=>match o with | some j=>(σ[j]?).join | none=>none
theorem h_.pick {K:PySem.W.Frag}{H:Hp}{σ:SD}{τ:St} (h:h_ K H σ τ):∀ src:List (Option Nat),h_ K H (nW σ src) (pick τ src)
 | []=>.nil
 | o :: r=>.cons (fun d e=>by
  cases o with
  | none=>cases e
  | some j =>
   dsimp only at e ⊢
   cases q:σ[j]? with
   | none=>rw[q] at e;cases e
   | some o' =>
    rw[q] at e
    obtain rfl:o'=some d:=e
    obtain⟨v,e1,r1⟩:=h.get q
    exact⟨v,by rw[e1];rfl,r1⟩) (h_.pick h r)
def Zf:KX:=fun _ _=>False
def Bt (σ:SD) (src:List (Option Nat)) (g:yU) (tc:pV) (te:TD) (R:KD) (I:yX) (S1:aT):Prop:=∃ P:Nat→List D→aT→Prop,P 0 [] S1∧(∀ i out S,P i out S→I.ok S) ∧
 (∀ i d out S,I.xs[i]?=some d→P i out S→out.length<sizeLine∧g d (nW σ src) S fun iR S3=>tc iR S3 (fun b S4=>if b=true then te iR S4 (fun v S5=>P (i+1) (out++[v]) S5) Zf else P (i+1) out S4) Zf) ∧
 ∀ out S2,P I.xs.length out S2→∀ p,S2 p=none→R (.ref p) (S2.set p (.lst out))
def Bu (ti:Bs) (src:List (Option Nat)) (g:yU) (tc:pV) (te:TD):TD:=fun σ S R Z=>ti σ S (fun I S1=>Bt σ src g tc te R I S1) Z
theorem CK.f {K:PySem.W.Frag}{H:Hp}{e:XK} : CK K H Zf e:=fun _ _ _ z=>z.elim
theorem T.comp {K:PySem.W.Frag}{E E':St→XK}{ti:Bs}{src:List (Option Nat)}{g:TG}{gd:yU}{tc:pV}{te:TD}{τ:St}{H:Hp}{Q:VK} (hg:∀ v τ H Q,Tg K gd v τ H Q→g v τ H Q)
  (h:T K E (Bu ti src gd tc te) τ H Q):ES (Ti K E ti) src g (Tt K E' tc) (T K E' te) τ H Q:=by
 obtain⟨σ,S,R,Z,aB,hS,q,hR,hZ⟩:=h
 refine⟨σ,S,_,Z,aB,hS,q,fun I S1 J H1 ⟨P,p0,VR,VS,pend⟩ hJ s1 k1=>?_,hZ⟩
 refine⟨fun i m out H=>m=I.xs.length - i∧i≤I.xs.length∧∃ ds S,RvAll K H ds out∧Rs K S H∧P i ds S∧Kp K H1 H,⟨_,rfl,ya _,[],S1,bG,s1,p0,.refl _⟩,?_⟩
 rintro i m out H2 ⟨rfl,VT,ds,S2,v2,s2,p2,k2⟩
 have ok:=hJ i S2 H2 k2 s2 (VR _ _ _ p2)
 by_cases fu:i<I.xs.length
 ·obtain⟨go,yl⟩:=ok.1 _ (zg fu)
  obtain⟨hz,st⟩:=VS i _ ds S2 (zg fu) p2
  refine .inr ⟨go,by rw[v2.len];exact hz,fun x H' hy=>?_⟩
  obtain⟨rx,k3,s3⟩:=yl x H' hy
  refine hg _ _ _ _ ⟨_,_,S2,_,rx,(((aB.ts k1).ts k2).ts k3).pick src,s3,st,fun SO S4 ZR H4 r4 a4 s4 k4=>?_⟩
  refine⟨SO,S4,_,Zf,a4,s4,r4,fun c S5 H5 r5 s5 k5=>?_,.f⟩
  cases c with
  | true =>
   rw[if_pos rfl] at r5 ⊢
   exact⟨SO,S5,_,Zf,a4.ts k5,s5,r5,fun d S6 v H6 r6 v6 s6 k6=>⟨_,by omega,rfl,fu,ds++[d],S6,(RvAll.ts (((k3.trans k4).trans k5).trans k6) _ v2).app (aW v6 bG),s6,r6,(((k2.trans k3).trans k4).trans k5).trans k6⟩,.f⟩
  | false =>
   rw[if_neg zd] at r5 ⊢
   exact⟨_,by omega,rfl,fu,ds,S5,RvAll.ts ((k3.trans k4).trans k5) _ v2,s5,r5,((k2.trans k3).trans k4).trans k5⟩
 ·have e:i=I.xs.length:=by omega
  subst e
  exact .inl ⟨ok.2 (zl _),fun p hp=>(hR.kp (k1.trans k2)).new s2 hp (pend _ _ p2 p) v2⟩
def Ev.none (X:Cx) (h:X.xe=fun _ _=>False):Ev X false:=⟨X.pn,X.xe,fun _=>E0,⟨by rintro p2 τ H s e s' _ ⟨_,_,_,_,_,_,_,_,_,z⟩;exact z.elim,fun e=>(by cases e),fun e=>(by cases e)⟩⟩
section
variable {K:PySem.W.Frag}{X:Cx}{b:Bool}{N:List Str}{src:List (Option Nat)}{scope:Scope}{tg iter elt:Expr}{ifs:List Expr}{pos:Pos}{ti:Bs}{g:TG}{gd:yU}{tc:pV}{te:TD}
structure SQ (K:PySem.W.Frag) (X:Cx) (ifs:List Expr) (t:pV):Prop where
 of:∀ {b:Bool} (y:Ev X b),OD y.cx ifs (Tt K y.E t)
def sT:pV:=fun _ S R _=>R true S
theorem ud:SQ K X [] sT:=⟨fun y pins s τ H Q I ⟨σ,S,R,Z,aB,hS,q,hR,hZ⟩=>Iw pins s τ H Q I (hR true S H q hS (.refl _))⟩
theorem if1 (h:DT K X c t):SQ K X [c] t:=⟨fun y=>Iy (h.of y)⟩
theorem rM (S:bM X N src scope) (hit:DI K X tg iter ti) (hg:∀ C s H ex pn,PG (iE X N scope C s H ex pn) tg g) (hx:xW g src) (VV:∀ v τ H Q,Tg K gd v τ H Q→g v τ H Q)
  (hi:∀ C s H ex pn,SQ K (iE X N scope C s H ex pn) ifs tc) (he:∀ C s H ex pn,DE K (iE X N scope C s H ex pn) elt te)
  (hs:∀ x,foldedSetIterable iter X.env x=pure x:=by intro _;rfl) (hc:X.calm=true:=by rfl):DE K X (.ListComp elt [⟨tg,iter,ifs,0⟩] scope pos) (Bu ti src gd tc te) :=
 ⟨fun y=>(IA (X:=y.cx) (tc:=Tt K (fun _=>E0) tc) (te:=T K (fun _=>E0) te) ⟨S.kind,S.gx,S.loc,S.xV,S.len,S.src⟩ hc (hit.of y) hg hx (fun C s H ex pn=>(hi C s H ex pn).of (.none _ rfl)) (fun C s H ex pn=>(he C s H ex pn).of (.none _ rfl)) hs).mono fun _ _ _ h=>h.comp VV⟩
theorem OR (hN:X.N.Nodup) (S:bM X N src scope) (hit:DI K X tg iter ti) (hg:∀ C s H ex pn,PG (iE X N scope C s H ex pn) tg g) (hx:xW g src) (VV:∀ v τ H Q,Tg K gd v τ H Q→g v τ H Q)
  (hi:∀ C s H ex pn,SQ K (iE X N scope C s H ex pn) ifs tc) (he:∀ C s H ex pn,DE K (iE X N scope C s H ex pn) elt te) (U0:X.N[i]?=some x:=by rfl) (Sw:X.env.scope.names.lookup x=some .local:=by rfl)
  (U1:swapsWith (.ListComp elt [⟨tg,iter,ifs,0⟩] scope pos) (some (.Name x pos')) IB.line X.env=pure true:=by rfl)
  (hs:∀ x,foldedSetIterable iter X.env x=pure x:=by intro _;rfl) (hc:X.calm=true:=by rfl):DS K X b (.Assign [.Name x pos'] (.ListComp elt [⟨tg,iter,ifs,0⟩] scope pos) IB) (QO i (Bu ti src gd tc te)) :=
 ⟨fun y=>(xX (X:=y.cx) (i:=i) (tc:=Tt K (fun _=>E0) tc) (te:=T K (fun _=>E0) te) hN U0 Sw ⟨S.kind,S.gx,S.loc,S.xV,S.len,S.src⟩ hc (hit.of y) hg hx (fun C s H ex pn=>(hi C s H ex pn).of (.none _ rfl)) (fun C s H ex pn=>(he C s H ex pn).of (.none _ rfl)) U1 hs).mono
  <| by rintro D τ H ⟨σ,S,De,Z,aB,hS,q,hD,hZ⟩;exact T.comp VV ⟨σ,S,_,_,aB,hS,q,fun d S1 v H1 r1 v1 s1 k1=>hD.nx _ _ _ _ r1 ((aB.ts k1).set i v1) s1 k1,hZ.at aB⟩⟩
theorem ba:∀ v τ H Q,Tg K (SK i) v τ H Q→iC i v τ H Q:=by rintro v τ H Q ⟨d,σ,S,R,rv,aB,hS,q,hR⟩;exact hR _ S _ H q (aB.set i rv) hS (.refl _)
end
structure yY (K:PySem.W.Frag) (x qual:Str) (st:Stmt) (f:Addr) (fd:FuncData):Prop where
 ex:∃ (oc:Value) (od:Option Addr) (dV kV doc pm:Value) (an:Option Addr) (bu ct:Value) (Mn:Array (Option Value)),
  fd=fnOf x qual (cE st) (bO st) (ae st) dV kV doc pm an bu ct∧K.lookup f=some ⟨oc,od,.func fd,Mn⟩∧codeIn K bu qual=true
def kL (N:List Str) (ds:List D):SD:=ds.map some++List.replicate (N.length - ds.length) none
section
variable {P:Program}{w:World}{K:PySem.W.Frag}{mg:Str→Option Value}{base:Heap}
theorem yY.ZS {x qual:Str}{st:Stmt}{f:Addr}{fd:FuncData}{N ps:List Str}{k:Nat}{sp:gG} (F:yY K x qual st f fd) (S:ai N ps (ae st)) (len:∀ ds S R Z,sp ds S R Z→ds.length=ps.length)
  (pz:∀ (bu:Value) (A:Around) (outer:List Env) (s:Shared) (H:Hp) (E:XK) (ds:List D) (S:aT) (R:KD) (Z:KX),cI k (A.deeper (envOfC qual (ae st) s.heap.objs.size f bu))→sp ds S R Z →
   ∃ t,Fi K (kF (g6 P w) P w K mg base N qual (ae st) f bu A outer s H E) true (bO st) t∧t { nx:=fun _ S'=>R .au S',rt:=R } (kL N ds) S fun _=>Z):cj P w K mg base (g6 P w) (k+1) f fd ps (t_ K sp):=by
 obtain⟨oc,od,dV,kV,doc,pm,an,bu,ct,Mn,rfl,lk,rh⟩:=F.ex
 have gF:ps.length≤N.length:=by have:=congrArg List.length S.pre;rw[ye] at this;omega
 refine Km lk rh S (by rintro vs H Q E ⟨ds,S',R,Z,v,_,h,_⟩;exact by rw[v.len];exact len _ _ _ _ h) fun A outer s H vs Q E hr ⟨ds,S',R,Z,v,hS,h,hR,hZ⟩=>?_
 obtain⟨t,ht,q⟩:=pz bu A outer s H E ds S' R Z hr h
 have L:dk (kF (g6 P w) P w K mg base N qual (ae st) f bu A outer s H E) E:=sL
 let y:Ev (kF (g6 P w) P w K mg base N qual (ae st) f bu A outer s H E) true:=⟨_,(kF (g6 P w) P w K mg base N qual (ae st) f bu A outer s H E).xe,fun _=>E,⟨fun p2 τ H1 s1 e s' I h=>Kv L p2 τ H1 s1 e s' I h,fun _ p2 τ H1 s1 h' a cls args I hx he=>nV L I hx he,fun _=>PassesOwn.leaving⟩⟩
 refine⟨Tl K (fun _=>E) t,ht.of y,kL N ds,S',_,fun _=>Z,?_,hS,q,⟨fun σ S1 τ H1 r a b c=>hR.kp c |>.now b r hU,hR,fun _ _ _ _ z=>z.elim,fun _ _ _ _ z=>z.elim⟩,fun σ τ C S1 H1 z a b c=>hZ C S1 H1 z b c⟩
 unfold kL start
 refine (pU v).app ?_
 rw[v.len]
 exact pT _ _ (by rw[List.length_replicate])
theorem cj.Nk (F:cj P w K mg base (g6 P w) k f fd ps (t_ K sp)) (h:∀ ds S R Z,Sn ds S R Z→sp ds S R Z):cj P w K mg base (g6 P w) k f fd ps (t_ K Sn) :=
 F.imp <| by rintro vs H Q E ⟨ds,S,R,Z,a,b,c,d⟩;exact⟨ds,S,R,Z,a,b,h _ _ _ _ c,d⟩
theorem cj.calm (F:cj P w K mg base (g6 P w) k f fd ps sp):cj P w K mg base Ss k f fd ps fun vs H Q _=>sp vs H Q E0:=by
 refine⟨fun vs H Q E h=>F.len vs H Q E0 h,fun A outer s H args us vs Q E hr e0 hb r h=>yJ (F.run A outer s H args us vs Q E0 hr e0 hb r h) fun res s' q=>?_⟩
 cases res with
 | error e=>obtain⟨_,_,_,_,_,_,_,_,_,z⟩:=q;exact z.elim
 | ok fl=>cases fl <;> exact q
end
section
variable {K:PySem.W.Frag}{X:Cx}{b:Bool}{i:Nat}{n x:Str}{C0:Addr}{body Qg:List Stmt}{U8:Stmt}{np EX pos:Pos}
def sS.less (De:sS) (i:Nat):sS:={ nx:=fun σ S=>De.nx (σ.set i none) S,rt:=De.rt,bk:=fun σ S=>De.bk (σ.set i none) S,ct:=fun σ S=>De.ct (σ.set i none) S }
end
section
variable {K:PySem.W.Frag}{X:Cx}{x:Str}{id:String}{e:Expr}{es:List Expr}{p pos:Pos}{t:oX}{r:List D→aT→KD→Prop}
end
theorem sU {P:Program}{w:World} : ∀ {ss:List Str}{vs:List Value},vs.length=ss.length→(∀ (j:Nat) (v:Value),vs[j]?=some v→∃ x,ss[j]?=some x∧keyIs (.inr x) v=true)→StrsAre vs ss
 | [],[],_,_=>.nil
 | [],_ :: _,h,_=>by simp at h
 | _ :: _,[],h,_=>by simp at h
 | x :: ss,v :: vs,h,k=>by
  obtain⟨x',e,q⟩:=k 0 v rfl
  cases e
  rcases bA q with ⟨i,t,e,_⟩ | ⟨y,t,e,rfl⟩
  ·cases e
  ·cases e
   exact .cons x t (sU (P:=P) (w:=w) (by simpa using h) fun j v e=>k (j+1) v (by simpa using e))
theorem sV:∀ {vs:List Value}{ss:List Str},StrsAre vs ss→Vals (ss.map V.str) vs
 | _,_,.nil=>.nil
 | _,_,.cons y t h=>.cons ⟨t,rfl⟩ (sV h)
theorem KV.VW {κ:Type}{kvs:List (κ×V)}{vs:List (κ×Value)} (h:KV kvs vs):vs.map (·.1)=kvs.map (·.1):=by
 unfold KV at h
 induction h with
 | nil=>rfl
 | cons r t ih=>rw[zB,zB,ih,r.1]
theorem Fm {prog:Program}{w:World}{A:Around}{E:Value→Shared→Prop}{s:Shared}{T:String}{r d:Addr}{n:Nat}{P:Nat→Value→Prop}{OK:Heap→Prop}{R:List Value→Shared→Prop} (K:PySem.W.KdlSrc prog w T r d n P OK) (hh:A.handled=none) (aM:OK s.heap) (hn:n≤sizeLine)
  (h:∀ (h':Heap) (tk:Nat) (acc:Array Value),(∀ b o,s.heap.get? b=some o→h'.get? b=some o)→s.heap.objs.size≤h'.objs.size→ItemsOf P acc n→R acc.toList { s with heap:=h',toks:=tk }) :
  wpAny (model prog w) A (collect (.ref r)) R E s:=by
 have fu:=K.there _ aM
 unfold collect
 refine za (wpAny_runValue (yF entry_proto_collect' ?_))
 rw[Around.under_plainId PySem.F.plain_proto_collect _]
 show wpAny _ A.in1 (newList [] >>= fun l=>again (.builtin "list.__iadd__" ⟨[l,.ref r],[]⟩)) _ _ s
 refine za (yf ?_)
 refine zi ⟨plainId_quiet PySem.F.plain_list_iadd _,yF entry_list_iadd' ?_⟩
 rw[Around.under_plainId PySem.F.plain_list_iadd _]
 have QX:(s.heap.push { cls:=.type "list",data:=.seq ([]:List Value).toArray }).get? s.heap.objs.size=some { cls:=.type "list",data:=.seq #[] }:=zm _ rfl
 show wpAny _ A.in1 (Builtin.List.listExtendWith (.ref s.heap.objs.size) (.ref r) (.ref s.heap.objs.size)) _ _ _
 have key:=PySem.W.kdl_extend (A:=A) (s:={ s with heap:=s.heap.push { cls:=.type "list",data:=.seq ([]:List Value).toArray } })
  (R:=fun (q:Result) (s':Shared)=>∃ (h':Heap) (tk:Nat) (vS:Array Value) (c':Nat),q=.ok (.ret (.ref s.heap.objs.size))∧s'={ s with heap:=h',toks:=tk } ∧
   (∀ b o,s.heap.get? b=some o→h'.get? b=some o)∧h'.get? s.heap.objs.size=some { cls:=.type "list",dict:=none,data:=.seq vS c',slots:=#[] }∧ItemsOf P vS n)
  K hh (K.keep _ _ aM fun b _ o e=>zc _ e) s.heap.objs.size (yi fu.1) (yi fu.2) (.ref s.heap.objs.size) 0 QX
  (fun h' tk vS c' hk nX pL=>⟨h',tk,vS,c',rfl,rfl,fun b o e=>hk b o (zw (zq e)) (zc _ e),nX,pL⟩) hn
 refine yz key (fun fin s' x=>?_) fun e s' x=>?_
 ·cases fin with
  | done f =>
   obtain⟨h',tk,vS,c',e,rfl,hk,nX,pL⟩:=x
   cases e
   show wpAny _ A (load s.heap.objs.size >>= _) _ _ _
   exact za (wpAny_load nX (zi (h h' tk vS hk (yE (zq nX)) pL)))
  | again c₁ =>
   refine⟨x.1,yJ x.2 fun q bU y=>?_⟩
   obtain⟨h',tk,vS,c',rfl,rfl,hk,nX,pL⟩:=y
   show wpAny _ A (load s.heap.objs.size >>= _) _ _ _
   exact za (wpAny_load nX (zi (h h' tk vS hk (yE (zq nX)) pL)))
 ·obtain⟨_,_,_,_,e',_⟩:=x
  cases e'
theorem ue {X:Cx} (hc:X.calm=true):fG X (.builtin "sorted") (fun xs H Q=>∃ (a:Addr) (kvs:List (Key×V)) (ss:List Str),xs=[.ref a]∧H a=some (.dK kvs)∧kvs.map (·.1)=ss.map Sum.inr∧kvs.length<64 ∧
  ∀ Bv,Bv.Perm ss→sortedS Bv=true→∀ l,H l=none→Q (.ref l) (upd H l (.lst (Bv.map V.str)))):=by
 intro pins s σ H xs us Q I r h
 obtain⟨a,kvs,ss,rfl,e,hk,hl,q⟩:=h
 obtain⟨u,rfl,ru⟩:=vals1 r
 cases ru
 obtain⟨z,hd,vs,rel,dd⟩:=Bh I.aM e
 obtain⟨ep,SR⟩:=dd.dictAt
 have hlen:vs.length<64:=by rw[← rel.length];exact hl
 have hh:=I.ok.hd hc
 refine PySem.Calls.call_function_entry kind_sorted plain_sorted entry_sorted (args_sorted1 _) ?_
 unfold Builtin.«sorted»
 refine za (m:=checkCount "sorted" 1 1 _) (zi ?_)
 refine za (Fm (A:=X.A.in1) (PySem.W.kdl_dict (knd:=aE X.prog X.w) (kvs:=vs) (ep:=ep) hd) hh SR (by rw[zR];omega) fun h' tk acc X2 hB pL=>?_)
 have Bg:acc.toList.length=vs.length:=by rw[zO];exact pL.1
 refine za (wpAny_newList ?_ (by rw[Bg,zR];omega))
 have hS:StrsAre acc.toList ss:=by
  have ZT:=rel.VW
  refine sU (P:=X.prog) (w:=X.w) (by rw[Bg,← rel.length];have:=congrArg List.length hk;simpa using this) fun j v ev=>?_
  obtain⟨k,x,e1,e2⟩:=pL.2 j v (by rw[← Array.getElem?_toList];exact ev)
  have e3:(vs.map (·.1))[j]?=some k:=by rw[zp,e1];rfl
  rw[ZT,hk,zp] at e3
  cases q2:ss[j]? with
  | none=>rw[q2] at e3;cases e3
  | some y=>rw[q2] at e3;cases e3;exact⟨y,rfl,e2⟩
 have Eb:(h'.push (seqObj "list" acc.toList.toArray 0)).get? h'.objs.size=some (seqObj "list" acc.toList.toArray 0):=zm _ rfl
 show wpAny _ _ _ _ _ { s with heap:=h'.push (seqObj "list" acc.toList.toArray 0),toks:=tk }
 refine za (yy (yw slot_list_sort ⟨_,Eb,rfl⟩ entry_list_sort (list_sort_treeK (s:={ s with heap:=h'.push (seqObj "list" acc.toList.toArray 0),toks:=tk }) strKind_oneLt Eb hS.keysOf (fun mO mP rest e=>keyKind_strs (by rw[← e];exact hS)) (by rw[Bg];exact hlen) fun e_ hp hs=>⟨_,rfl,?_⟩) (args_list_sort _)))
 refine zi ⟨_,rfl,?_⟩
 obtain⟨Bv,h1,h2,h3⟩:=sorted_out_str hS hp hs
 obtain⟨e1,ZU⟩:=sortedHeap_at (vs:=acc.toList) (n:=0) (out:=(arrOf e_).map (·.2)) Eb
 have OS:Bv.length≤sizeLine:=by rw[h2.length_eq,zR];have:=congrArg List.length hk;rw[zb,zb] at this;omega
 refine⟨.ref h'.objs.size,_,I.laid (a:=h'.objs.size) (o:=.lst (Bv.map V.str)) (fun b u hb=>?_) hB ⟨by rw[zb];exact OS,_,e1,sV h1,ZU⟩,rfl,q Bv h2 h3 _ (I.aM.fresh hB)⟩
 have fu:=zq (X2 b u hb)
 rw[sortedHeap_old (zw fu) (by rw[yj];exact Nat.lt_succ_of_lt fu),zc _ (X2 b u hb)]
section
variable {K:PySem.W.Frag}
def Ja:List D→aT→KD→Prop:=fun ds S R=>∃ (a:Addr) (kvs:List (Key×D)) (ss:List Str),ds=[.ref a]∧S a=some (.dw kvs)∧kvs.map (·.1)=ss.map Sum.inr∧kvs.length<64 ∧
 ∀ Bv,Bv.Perm ss→sortedS Bv=true→∀ p,S p=none→R (.ref p) (S.set p (.lst (Bv.map D.str)))
theorem bW.keys {κ:Type}{H:Hp}{ks:List (κ×D)}{vs:List (κ×V)} (h:bW K H ks vs):vs.map (·.1)=ks.map (·.1):=by
 unfold bW at h
 induction h with
 | nil=>rfl
 | cons r t ih=>rw[zB,zB,ih,r.1]
theorem pX:iI K (.builtin "sorted") Ja:=by
 rintro X hK hc pins s σ H xs us Q I rx ⟨ds,S,R,r,hS,⟨a,kvs,ss,e,e1,hk,hl,h⟩,hR⟩
 subst e
 obtain⟨v,rfl,r1⟩:=r.one
 obtain⟨vs,e2,t⟩:=hS.dw e1
 exact ue hc pins s σ H _ us Q I rx ⟨a,vs,ss,by rw[r1.ref],e2,by rw[t.keys];exact hk,by rw[t.len];exact hl,fun Bv p1 p2 l hl=>hR.new hS hl (h Bv p1 p2 l) (t6 Bv)⟩
end
def KN (K:PySem.W.Frag) (a:Addr) (n:Nat):It :=
 ⟨fun i H=>∃ xs x,jH K H a xs∧xs.length=n∧i<n∧xs[n - 1 - i]?=some x,fun i H x H'=>H'=H∧∀ xs,jH K H a xs→xs.length=n→xs[n - 1 - i]?=some x,fun i _=>n≤i⟩
theorem Fn {P:Program}{w:World}{K:PySem.W.Frag}{tg:Expr} (a it:Addr) (n:Nat):Turn P w K tg (KN K a n) [it] it (fun i h=>i≤n∧h.IsRevIter it a ((n:Int) - 1 - (i:Int))) where
 mem:=by simp
 obj:=fun i h st b hb=>by
  have e:b=it:=by simpa using hb
  subst e
  obtain⟨_,o,e,c,d⟩:=st
  exact⟨o,e,fun v z=>by rw[d] at z;cases z⟩
 keep:=fun i h h' st k=>⟨st.1,st.2.at fun o e=>k it (by simp) o e⟩
 item:=by
  intro X hP hw hK hc i pins s σ H E I hf st hg
  subst hP hw hK
  obtain⟨xs,x,hq,hn,hi,hx⟩:=hg
  obtain⟨ax,rv,p,hz⟩:=I.list hq
  obtain⟨u,hu,ru⟩:=rv.get hx
  obtain⟨f0,f1,f2,f3,f4,f5⟩:=hf it (by simp)
  have e:(n:Int) - 1 - (i:Int)=((n - 1 - i:Nat):Int):=by omega
  have hit:=st.2
  rw[e] at hit
  refine wpAny_pyNext_rev_item hit p.isList (x:=u) (by simpa using hu) fun h' e_ sb=>?_
  have I1:Inv X pins σ H { s with heap:=h' }:=I.turned (t':=s.toks) (fun b o hb e=>(sb.2 b hb).trans e) f0 f1 f3 f4 f5
  obtain⟨o,e1,c,d⟩:=id e_
  refine⟨u,rfl,sx (s:={ s with heap:=h' }) e1 c d (by decide) ⟨x,H,I1,ru,⟨rfl,fun ys hy _=>by rw[I.vm hy hq];exact hx⟩,⟨hi,?_⟩,fun b hb=>(hf b hb).1⟩⟩
  have e2:(n:Int) - 1 - ((i+1:Nat):Int)=((n - 1 - i:Nat):Int) - 1:=by omega
  rw[e2];exact e_
 done:=by
  intro X hP hw hK hc i pins s σ H E I hf st hg
  subst hP hw hK
  obtain⟨f0,f1,f2,f3,f4,f5⟩:=hf it (by simp)
  have hg:n≤i:=hg
  have e:(n:Int) - 1 - (i:Int) = -1:=by have:=st.1;omega
  have hit:=st.2
  rw[e] at hit
  exact wpAny_pyNext_rev_end (I.ok.hd hc) hit fun h' eb=>⟨rfl,I.turned (t':=s.toks) (fun b o hb e=>eb b o hb e) f0 f1 f3 f4 f5⟩
 self:=fun _ _ _ _ _ st h=>wpAny_pyIter_revIter st.2 h
def VX (K:PySem.W.Frag) (ta:TA):TI:=fun σ H R=>ta σ H fun vs H1=>∃ a xs,vs=[.ref a]∧jH K H1 a xs∧R (KN K a xs.length) H1
theorem Nl {X:Cx}{tg a:Expr}{ta:TA}{p pos:Pos} (hg:Gl X "reversed") (hm:X.mg "reversed" = none) (ha:PA X [a] ta) (hs:starEach [a] X.env=[(false,eval a X.env)]):PI X tg (.Call (.Name "reversed" p) [a] [] pos) (VX X.K ta):=by
 intro pins s σ H R I h
 refine Call_ (g8 I hg hm boot_reversed (PyProof.Rows.callWith_type1 (br (ha pos pins s σ H _ I h) fun us s1 ⟨vs,H1,I1,r1,q1⟩=>?_) hs rfl))
 obtain⟨l,xs,e,q,hR⟩:=q1
 subst e
 obtain⟨u,rfl,ru⟩:=vals1 r1
 cases ru
 obtain⟨ax,rv,pl,hz⟩:=I1.list q
 have hn:ax.toArray.size=xs.length:=by rw[zj,rv.length]
 refine call_reversed_list pl.isList ?_
 rw[hn]
 have st:(s1.heap.push (revObj l ((xs.length:Int) - 1))).IsRevIter s1.heap.objs.size l ((xs.length:Int) - 1 - ((0:Nat):Int)):=⟨_,zm _ rfl,rfl,by show Data.fields _=Data.fields _;simp⟩
 have I2:Inv X pins σ H1 { s1 with heap:=s1.heap.push (revObj l ((xs.length:Int) - 1)) }:=I1.kept (t':=s1.toks) fun b o e=>zc _ e
 refine wpAny_pyIter_revIter st ⟨_,_,_,_,H1,rfl,I2,Fn l s1.heap.objs.size xs.length,⟨ya _,st⟩,fun b hb=>?_,hR⟩
 have hb:b=s1.heap.objs.size:=by simpa using hb
 subst hb
 exact I1.ph (zl _) (I1.aM.fresh (zl _))
section
variable {K:PySem.W.Frag}{X:Cx}{tg:Expr}
def QY (t:oX):Bs:=fun σ S R Z=>t σ S (fun ds S1=>∃ x es,ds=[x]∧sP S1 x es∧R ⟨es.reverse,fun S=>sP S x es⟩ S1) Z
theorem ZV (hm:X.mg "reversed" = none) (ha:DA K X [a] t) (hg:Gl X "reversed" := by rfl) (hs:starEach [a] X.env=[(false,eval a X.env)]:=by rfl) (hK:X.K=K:=by rfl):DI K X tg (.Call (.Name "reversed" p) [a] [] pos) (QY t):=by
 subst hK
 exact⟨fun y=>(Nl (X:=y.cx) hg hm (ha.of y) hs).mono <| by rintro τ H R ⟨σ,S,RI,Z,aB,hS,q,hR,hZ⟩;exact⟨σ,S,_,Z,aB,hS,q,by
  rintro ds S1 vs H1 ⟨x,es,e,h1,r1⟩ v1 s1 k1
  subst e
  obtain⟨v,rfl,r⟩:=v1.one
  obtain⟨a,xs,rfl,hq,t⟩:=h1.at s1 r
  refine⟨a,xs,rfl,hq,hR _ S1 _ H1 r1 (fun i S2 H2 k2 s2 SN=>?_) s1 k1⟩
  obtain⟨a',Ng,e',Ei,t'⟩:=sP.at SN s2 (Rv.ts k2 _ r)
  cases e'
  have hl:xs.length=es.length:=t.len
  have Xs:Ng.length=es.length:=t'.len
  refine⟨fun d hd=>?_,fun h=>by rw[yr] at h;show xs.length≤i;omega⟩
  have hi:i<es.length:=by have:=(zo.mp hd).1;rwa [yr] at this
  rw[List.getElem?_reverse hi] at hd
  obtain⟨v,e1,r⟩:=t'.get hd
  rw[← hl] at e1
  refine⟨⟨Ng,v,Ei,by omega,by omega,e1⟩,fun x' H' ⟨e2,e3⟩=>?_⟩
  subst e2
  have:=e3 Ng Ei (by omega)
  rw[e1] at this;cases this
  exact⟨r,.refl _,s2⟩,hZ⟩⟩
def cR (xs ys:List D):List D:=List.zipWith (fun a b=>D.tup [a,b]) xs ys
def QZ (t:oX):Bs:=fun σ S R Z=>t σ S (fun ds S1=>∃ xs ys,ds=[.tup xs,.tup ys]∧xs.length=ys.length∧R ⟨cR xs ys,fun _=>True⟩ S1) Z
theorem X3 (hm:X.mg "zip" = none) (ha:DA K X [a,c] t) (hg:Gl X "zip" := by rfl) (hs:starEach [a,c] X.env=[(false,eval a X.env),(false,eval c X.env)]:=by rfl) (Ed:starEach [c] X.env=[(false,eval c X.env)]:=by rfl) (hK:X.K=K:=by rfl) :
  DI K X (.Tuple es kk tp) (.Call (.Name "zip" p) [a,c] [] pos) (QZ t):=by
 subst hK
 exact⟨fun y=>(IU (X:=y.cx) hg hm (ha.of y) hs Ed).mono <| by rintro τ H R ⟨σ,S,RI,Z,aB,hS,q,hR,hZ⟩;exact⟨σ,S,_,Z,aB,hS,q,by
  rintro ds S1 vs H1 ⟨xs,ys,e,hl,r1⟩ v1 s1 k1
  subst e
  obtain⟨v,u,rfl,ra,rb⟩:=v1.two
  obtain⟨a,va,rfl,qa,ta⟩:=ra.tup
  obtain⟨b,vb,rfl,qb,tb⟩:=rb.tup
  refine⟨a,b,rfl,⟨va,.of qa⟩,⟨vb,.of qb⟩,hR _ S1 _ H1 r1 (fun i S2 H2 k2 s2 _=>?_) s1 k1⟩
  have VY:iQ X.K H2 a va:=.of (k2.t _ _ qa)
  have VZ:iQ X.K H2 b vb:=.of (k2.t _ _ qb)
  have la:va.length=xs.length:=ta.len
  have lb:vb.length=ys.length:=tb.len
  refine⟨fun d hd=>?_,fun h=>⟨va,vb,VY,VZ,by unfold cR at h;rw[List.length_zipWith] at h;omega⟩⟩
  unfold cR at hd
  obtain⟨x,y',e1,e2,e3⟩:=List.getElem?_zipWith_eq_some.mp hd
  subst e3
  obtain⟨vx,f1,g1⟩:=(RvAll.ts k2 _ ta).get e1
  obtain⟨vy,f2,g2⟩:=(RvAll.ts k2 _ tb).get e2
  refine⟨⟨va,vb,vx,vy,VY,VZ,f1,f2⟩,fun x' H' ⟨T,hT,e4,e5⟩=>?_⟩
  have:=e5 va vb vx vy VY VZ f1 f2
  subst this e4
  have kk:Kp X.K H2 (upd H2 T (.tup [vx,vy])):=.new hT
  exact⟨kI aF (RvAll.ts kk _ (aW g1 (aW g2 bG))),kk,s2.grow hT⟩,hZ⟩⟩
theorem uf:∀ v τ H Q,Tg K (KL 2 (yV (SK i) (yV (SK j) KJ))) v τ H Q→HU K 2 (pd (iC i) (pd (iC j) HS)) v τ H Q:=by
 rintro v τ H Q ⟨d,σ,S,R,rv,aB,hS,⟨ds,e,hl,a,r,e1,b,r',e2,e3,q⟩,hR⟩
 subst e e1 e2 e3
 obtain⟨p,xs,rfl,hp,t⟩:=rv.tup
 obtain⟨v1,v2,rfl,r1,r2⟩:=t.two
 exact⟨p,_,rfl,.of hp,rfl,v1,[v2],rfl,v2,[],rfl,rfl,hR _ S _ H q ((aB.set i r1).set j r2) hS (.refl _)⟩
end
section
variable {K:PySem.W.Frag}{X:Cx}{b:Bool}{pos:Pos}
def Q0 (tl ti tv:TD):mM:=fun De σ S Z=>tv σ S (fun v S1=>tl σ S1 (fun x S2=>ti σ S2 (fun y S3=>∃ a es i j,x=.ref a∧y=.int i∧S3 a=some (.lst es)∧ED es.length i=some j∧De.nx σ (S3.set a (.lst (es.set j v)))) (Z σ)) (Z σ)) (Z σ)
theorem X4 {o i value:Expr}{tl ti tv:TD}{pos':Pos} (ho:DE K X o tl) (hi:DE K X i ti) (hv:DE K X value tv)
  (ha:∀ v,assign (.Subscript o i pos') X.env v=(do
   let ov ← holding [v] (eval o X.env)
   let iv ← holding [v,ov] (eval i X.env)
   standAt pos'
   holding [v,ov,iv] (setItem ov iv v)
   release [v,ov,iv] []):=by intro _;rfl)
  (hs:swapsWithSole [.Subscript o i pos'] value pos.line X.env=pure false:=by rfl) (hw:swappedStores [.Subscript o i pos'] value X.env=pure none:=by rfl) (h1:(assignEach [.Subscript o i pos'] X.env).map (·.2)=[assign (.Subscript o i pos') X.env]:=by rfl) :
  DS K X b (.Assign [.Subscript o i pos'] value pos) (Q0 tl ti tv) :=
 ⟨fun y=>(Ep (X:=y.cx) (hv.of y) (LV (ho.of y) (hi.of y) set_list ha) hs hw h1).mono <| by rintro D τ H ⟨σ,S,De,Z,aB,hS,q,hD,hZ⟩;exact
  ⟨σ,S,_,_,aB,hS,q,fun v S1 vv H1 r1 v1 s1 k1=>⟨σ,S1,_,_,aB.ts k1,s1,r1,fun x S2 xv H2 r2 v2 s2 k2=>⟨σ,S2,_,_,aB.ts (k1.trans k2),s2,r2,by
   rintro y S3 yv H3 ⟨a,es,i,j,e1,e2,e3,e4,r3⟩ v3 s3 k3
   subst e1 e2
   obtain⟨xs,e5,t⟩:=s3.lst e3
   have kk:=s3.hX (o:=.lst (xs.set j vv)) e3
   refine⟨a,xs,i,j,(Rv.ts k3 _ v2).ref,v3.int,e5,by rw[t.len];exact e4,?_⟩
   exact hD.nx _ _ _ _ r3 (aB.ts (((k1.trans k2).trans k3).trans kk)) (s3.put (c:=.lst _) e3 ⟨_,aF,RvAll.ts kk _ (t.set j (Rv.ts (k2.trans k3) _ v1))⟩) (((k1.trans k2).trans k3).trans kk),hZ.on (k1.trans k2) (aB.ts (k1.trans k2))⟩,hZ.on k1 (aB.ts k1)⟩,hZ.at aB⟩⟩
def fH (z:Str):List D:=z.cps.toList.map fun c=>D.str ⟨#[c]⟩
def KO (t:TD):Bs:=fun σ S R Z=>t σ S (fun x S1=>∃ z,x=.str z∧R ⟨fH z,fun _=>True⟩ S1) Z
theorem Nm (h:DE K X l t):DI K X tg l (KO t) :=
 ⟨fun y=>(MJ (X:=y.cx) (h.of y)).mono <| by rintro τ H R ⟨σ,S,RI,Z,aB,hS,q,hR,hZ⟩;exact⟨σ,S,_,Z,aB,hS,q,by
  rintro x S1 v H1 ⟨z,e,r1⟩ v1 s1 k1
  subst e
  refine⟨z,v1.str,hR _ S1 _ H1 r1 (fun i S2 H2 k2 s2 _=>⟨fun d hd=>?_,fun hl=>?_⟩) s1 k1⟩
  ·unfold fH at hd
   rw[zp,Array.getElem?_toList] at hd
   cases q:z.cps[i]? with
   | none=>rw[q] at hd;cases hd
   | some c =>
    rw[q] at hd;cases hd
    refine⟨(Array.getElem?_eq_some_iff.mp q).1,fun x' H' ⟨e1,c',e2,e3⟩=>?_⟩
    rw[q] at e2;cases e2
    subst e1 e3
    exact⟨hW _,.refl _,s2⟩
  ·unfold fH at hl;rw[zb,zO] at hl;exact hl,hZ⟩⟩
def Jb (t:TD):TD:=fun σ S R Z=>t σ S (fun x S1=>∃ ss:List Str,sP S1 x (ss.map D.str)∧ss.length<4000∧R (.int (iG ss).length) S1) Z
theorem X5 (h:DE K X e t) (hm:X.mg "len" = none) (ZW:X.mg "set" = none) (hp:isPlain e=true:=by rfl) (hg:Gl X "len" := by rfl) (V0:Gl X "set" := by rfl) (he:starEach [e] X.env=[(false,eval e X.env)]:=by rfl)
  (ZX:starEach [Expr.Call (.Name "set" p') [e] [] pos'] X.env=[(false,eval (.Call (.Name "set" p') [e] [] pos') X.env)]:=by rfl) (hK:X.K=K:=by rfl) (hc:X.calm=true:=by rfl) :
  DE K X (.Call (.Name "len" p) [.Call (.Name "set" p') [e] [] pos'] [] pos) (Jb t):=by
 subst hK
 refine⟨fun y=>(vp (X:=y.cx) (CB (X:=y.cx) rfl rfl) hg hm aV (U4 (sF (X:=y.cx) (CA (X:=y.cx) rfl rfl rfl hc) V0 ZW MO (U4 (h.of y) xM hp) (by decide) (by decide) he rfl) xM rfl) (by decide) (by decide) ZX rfl).mono fun τ H Q ⟨σ,S,R,Z,aB,hS,q,hR,hZ⟩=>?_⟩
 refine⟨σ,S,_,Z,aB,hS,q,fun x S1 v H1 ⟨ss,h1,hl,r1⟩ v1 s1 k1=>?_,hZ⟩
 obtain⟨a,xs,rfl,hq,t⟩:=h1.at s1 v1
 rw[t.strs] at hq
 exact⟨a,ss,rfl,hq,hl,fun l hl=>⟨l,ss,rfl,aF,hR _ _ _ _ r1 (aQ _) (s1.grow hl) (k1.trans (.new hl))⟩⟩
end
theorem CQ {K:PySem.W.Frag}{S:aT}{H:Hp}{l:Addr} (hS:Rs K S H) (h:S l=some .well):∃ x y z:Int,Rs K (S.set l (.lst [.int x,.int y,.int z])) H:=by
 obtain⟨x,y,z,e⟩:∃ x y z:Int,H l=some (.lst [.int x,.int y,.int z]):=hS l _ h
 refine⟨x,y,z,fun b c hb=>?_⟩
 by_cases q:b=l
 ·subst q;rw[aa] at hb;cases hb
  exact⟨_,e,aW (aQ x) (aW (aQ y) (aW (aQ z) bG))⟩
 ·rw[af q] at hb;exact hS b c hb
theorem sW {K:PySem.W.Frag}{S:aT}{H:Hp}{l:Addr}{x y z:Int} (h:S l=some .well) (hS:Rs K (S.set l (.lst [.int x,.int y,.int z])) H):Rs K S H:=fun b c hb=>by
 by_cases q:b=l
 ·subst q;rw[h] at hb;cases hb
  obtain⟨xs,e,t⟩:=hS.lst (a:=b) aa
  rw[t.ints (bs:=[x,y,z])] at e
  exact⟨x,y,z,e⟩
 ·exact hS b c (by rw[af q];exact hb)
def Nn (pre:List D→Addr→Prop) (post:List D→D→Prop):gG:=fun ds S R _=>∃ l x y z,pre ds l∧S l=some (.lst [.int x,.int y,.int z])∧∀ d x' y' z',post ds d→R d (S.set l (.lst [.int x',.int y',.int z']))
def Fp (pre:List D→Addr→Prop) (post:List D→D→Prop):gG:=fun ds S R _=>∃ l,pre ds l∧S l=some .well∧∀ d,post ds d→R d S
theorem CT {P:Program}{w:World}{K:PySem.W.Frag}{mg:Str→Option Value}{base:Heap}{k:Nat}{f:Addr}{fd:FuncData}{ps:List Str}{pre:List D→Addr→Prop}{post:List D→D→Prop}
  (F:cj P w K mg base (g6 P w) k f fd ps (t_ K (Nn pre post))):cj P w K mg base (g6 P w) k f fd ps (t_ K (Fp pre post)):=by
 refine F.imp fun vs H Q E ⟨ds,S,R,Z,v,hS,⟨l,hp,hw,h⟩,hR,hZ⟩=>?_
 obtain⟨x,y,z,nX⟩:=CQ hS hw
 refine⟨ds,_,fun d S2=>∃ x' y' z',post ds d∧S2=S.set l (.lst [.int x',.int y',.int z']),fun _ _=>False,v,nX,⟨l,x,y,z,hp,aa,fun d x' y' z' hd=>⟨x',y',z',hd,dy⟩⟩,fun d S2 u H' ⟨x',y',z',hd,e⟩ rv hs kp=>?_,fun _ _ _ q=>q.elim⟩
 subst e
 exact hR d S u H' (h d hd) rv (sW hw hs) kp
theorem eJ:bootBuiltins "sorted" = some (.builtin "sorted"):=by decide +kernel
def Sub (S S':aT):Prop:=∀ b c,S b=some c→S' b=some c
theorem Sub.refl (S:aT):Sub S S:=fun _ _ h=>h
theorem Sub.trans (a:Sub S S1) (b:Sub S1 S2):Sub S S2:=fun p c h=>b p c (a p c h)
theorem Sub.new (h:S p=none):Sub S (S.set p c):=fun b c' hb=>by rw[af (gL hb h)];exact hb
theorem Rs.sub {K:PySem.W.Frag}{S S':aT}{H:Hp} (h:Rs K S' H) (s:Sub S S'):Rs K S H:=fun a c e=>h a c (s a c e)
def Fo (S':aT) (p:aT→Prop):Prop:=∃ S,Sub S S'∧p S
theorem fo (h:p S):Fo S p:=⟨S,.refl S,h⟩
section
variable {P:Program}{w:World}{K:PySem.W.Frag}{mg:Str→Option Value}{base:Heap}
theorem yY.ok {x qual:Str}{st:Stmt}{f:Addr}{fd:FuncData}{N ps:List Str}{k:Nat}{sp:gG} (F:yY K x qual st f fd) (S:ai N ps (ae st)) (len:∀ ds S R Z,sp ds S R Z→ds.length=ps.length)
  (pz:∀ (bu:Value) (A:Around) (outer:List Env) (s:Shared) (H:Hp) (E:XK) (ds:List D) (S:aT) (R:KD) (Z:KX),cI k (A.deeper (envOfC qual (ae st) s.heap.objs.size f bu))→sp ds S R Z →
   ∃ t,Fi K (kF (g6 P w) P w K mg base N qual (ae st) f bu A outer s H E) true (bO st) t∧t { nx:=fun _ S'=>Fo S' (R .au),rt:=fun d S'=>Fo S' (R d) } (kL N ds) S fun _ C S'=>Fo S' (Z C)):cj P w K mg base (g6 P w) (k+1) f fd ps (t_ K sp):=by
 have F2:cj P w K mg base (g6 P w) (k+1) f fd ps (t_ K fun ds S R' Z'=>∃ R Z,sp ds S R Z∧R'=(fun d S'=>Fo S' (R d))∧Z'=fun C S'=>Fo S' (Z C)):=by
  refine F.ZS S (by rintro ds S R Z ⟨R0,Z0,h,_⟩;exact len _ _ _ _ h) fun bu A outer s H E ds S R Z hr ⟨R0,Z0,h,e1,e2⟩=>?_
  subst e1 e2
  exact pz bu A outer s H E ds S R0 Z0 hr h
 refine F2.imp <| by rintro vs H Q E ⟨ds,S,R,Z,v,hS,h,hR,hZ⟩;exact⟨ds,S,_,_,v,hS,⟨R,Z,h,rfl,rfl⟩,by rintro d S' u H' ⟨S2,sb,r⟩ rv rs kp;exact hR d S2 u H' r rv (rs.sub sb) kp,by rintro C S' H' ⟨S2,sb,r⟩ rs kp;exact hZ C S2 H' r (rs.sub sb) kp⟩
end
section
variable {K:PySem.W.Frag}{X:Cx}{b:Bool}
def Q1 (t:mM):mM:=fun De σ S Z=>∃ P:SD→aT→Prop,t { De with nx:=fun aK S'=>Fo S' (P aK) } σ S Z∧∀ aK S',P aK S'→De.nx aK S'
theorem CU {st:Stmt}{t:mM} (h:DS K X b st t):DS K X b st (Q1 t) :=
 ⟨fun y=>(h.of y).mono <| by rintro D τ H ⟨σ,S,De,Z,aB,hS,⟨P,q,hP⟩,hD,hZ⟩;exact⟨σ,S,_,Z,aB,hS,q,⟨by rintro vg S1 VI H1 ⟨S2,sb,r1⟩ a b c;exact hD.nx _ _ _ _ (hP _ _ r1) a (b.sub sb) c,hD.rt,hD.bk,hD.ct⟩,hZ⟩⟩
def ZY (t:TD):TD:=fun σ S R Z=>t σ S (fun d S'=>Fo S' (R d)) Z
theorem CV (h:DE K X e t):DE K X e (ZY t) :=
 ⟨fun y=>(h.of y).mono <| by rintro τ H Q ⟨σ,S,R,Z,aB,hS,q,hR,hZ⟩;exact⟨σ,S,_,Z,aB,hS,q,by rintro d S' v H' ⟨S2,sb,r⟩ rv rs kp;exact hR d S2 v H' r rv (rs.sub sb) kp,hZ⟩⟩
theorem oZ (nd:N.Nodup) (h0:N[0]?=some a:=by rfl) (hx:∀ C s H ex pn,Loc (iE X N scope C s H ex pn).env.scope a∧(iE X N scope C s H ex pn).env.scope.names.lookup a=some .local:=by intro _ _ _ _ _;exact⟨Or.inl rfl,rfl⟩) :
  ∀ C s H ex pn,PG (iE X N scope C s H ex pn) (.Name a p) (iC 0):=fun C s H ex pn=>oU (i:=0) nd h0 (hx C s H ex pn).1 (.inr (hx C s H ex pn).2)
theorem V1 (nd:N.Nodup) (h0:N[0]?=some a:=by rfl) (h1:N[1]?=some c:=by rfl)
  (hx:∀ C s H ex pn,Loc (iE X N scope C s H ex pn).env.scope a∧(iE X N scope C s H ex pn).env.scope.names.lookup a=some .local:=by intro _ _ _ _ _;exact⟨Or.inl rfl,rfl⟩)
  (hy:∀ C s H ex pn,Loc (iE X N scope C s H ex pn).env.scope c∧(iE X N scope C s H ex pn).env.scope.names.lookup c=some .local:=by intro _ _ _ _ _;exact⟨Or.inl rfl,rfl⟩)
  (hl:∀ env:Env,(assignEach [.Name a p,.Name c p'] env).length=2∧(assignEach [.Name a p,.Name c p'] env).findIdx? (·.1)=none∧(assignEach [.Name a p,.Name c p'] env).map (·.2)=assign (.Name a p) env :: (assignEach [.Name c p'] env).map (·.2)∧(assignEach [.Name c p'] env).map (·.2)=assign (.Name c p') env :: (assignEach [] env).map (·.2):=by intro _;exact⟨rfl,rfl,rfl,rfl⟩) (hK:X.K=K:=by rfl) (hc:X.calm=true:=by rfl) :
  ∀ C s H ex pn,PG (iE X N scope C s H ex pn) (.Tuple [.Name a p,.Name c p'] j p2) (HU K 2 (pd (iC 0) (pd (iC 1) HS))):=fun C s H ex pn=>by
 subst hK
 have e:=hl (iE X N scope C s H ex pn).env
 exact Eo (X:=iE X N scope C s H ex pn) hc (pe (oU (i:=0) nd h0 (hx C s H ex pn).1 (.inr (hx C s H ex pn).2)) (pe (oU (i:=1) nd h1 (hy C s H ex pn).1 (.inr (hy C s H ex pn).2)) A7 e.2.2.2) e.2.2.1) e.1 e.2.1
end
theorem pY:∀ {ss:List Str}{ax:List Value},Vals (ss.map V.str) ax→StrsAre ax ss
 | [],_,.nil=>.nil
 | z :: ss,_,.cons r t=>by
  obtain⟨tk,rfl⟩:=r
  exact .cons z tk (pY t)
section
variable {K:PySem.W.Frag}
end
end L2
namespace HT
open PySem PySem.Spec PyProof.Rows
section
variable {prog:Program}{w:World}{A:Around}{E:Value→Shared→Prop}{s:Shared}
end
end HT
namespace L2
open PySem PySem.Spec PyProof.Rows
section
variable {K:PySem.W.Frag}{X:Cx}
theorem Fq (r:Rv K H d v):∀ n:Nat,RvAll K H (List.replicate n d) (List.replicate n v)
 | 0=>bG
 | n+1=>aW r (Fq r n)
end
inductive Fs (S:aT):List D→List PyData→Prop where
 | nil:Fs S [] []
 | cons {d:D}{p:PyData}{ds:List D}{ps:List PyData} : Dl S d p→Fs S ds ps→Fs S (d :: ds) (p :: ps)
section
variable {K:PySem.W.Frag}
end
section
variable {K:PySem.W.Frag}
end
section
variable {K:PySem.W.Frag}
def Ft (p:Str×D):D:=.tup [.str p.1,p.2]
def pZ (l:List (Str×D)):List (Key×D):=l.foldl (fun c p=>dput c (.inr p.1) p.2) []
theorem Bw:∀ {kvs:List (Str×D)}{ys:List V},RvAll K H (kvs.map Ft) ys→∃ kv:List (Str×V),XM H ys kv∧∀ c c',bW K H c c'→bW K H (kvs.foldl (fun c p=>dput c (.inr p.1) p.2) c) (kv.foldl (fun c p=>putK c (.inr p.1) p.2) c')
 | [],ys,h=>by
  rw[h.nil]
  exact⟨[],⟨rfl,fun i x p e=>(by cases i <;> cases e)⟩,fun c c' h=>h⟩
 | p :: kvs,ys,h=>by
  obtain⟨y,ys,rfl,r1,r2⟩:=h.cons
  obtain⟨b,zs,rfl,hb,tz⟩:=Rv.tup (show Rv K H (.tup [.str p.1,p.2]) y from r1)
  obtain⟨v,u,rfl,rv,ru⟩:=tz.two
  have ev:=rv.str
  subst ev
  obtain⟨kv,⟨hl,hp⟩,hf⟩:=Bw r2
  refine⟨(p.1,u) :: kv,⟨by rw[zM,zM,hl],fun i x q e1 e2=>?_⟩,fun c c' h=>hf _ _ (h.put (.inr p.1) ru)⟩
  cases i with
  | zero=>cases e1;cases e2;exact⟨b,rfl,hb⟩
  | succ i=>exact hp i x q e1 e2
def Q2:List D→aT→KD→Prop:=fun ds S R=>∃ kvs:List (Str×D),ds=[.tup (kvs.map Ft)]∧∀ p,S p=none→R (.ref p) (S.set p (.dw (pZ kvs)))
theorem Np:iI K (.type "dict") Q2:=by
 rintro X hK hc pins s σ H xs us Q I rx ⟨ds,S,R,r,hS,⟨kvs,e,h⟩,hR⟩
 subst hK e
 obtain⟨v,rfl,r1⟩:=r.one
 obtain⟨a,ys,rfl,q,t⟩:=r1.tup
 obtain⟨kv,hp,hf⟩:=Bw t
 refine x6 hc pins s σ H _ us Q I rx ⟨a,ys,kv,rfl,q,hp,fun l hl=>?_⟩
 have kn:Kp X.K H (upd H l (.dK (Bk kv))):=.new hl
 exact hR _ _ _ _ (h l (hS.fresh hl)) (i6 l) (hS.new (c:=.dw (pZ kvs)) hl ⟨_,aF,(hf [] [] .nil).ts kn⟩) kn
theorem vT (kvs:List (Key×D)) (k k':Key) (d:D):cy (dput kvs k d) k'=if k'=k then some d else cy kvs k':=by
 unfold dput
 by_cases hk:(kvs.any fun kv=>decide (kv.1=k))=true
 ·rw[if_pos hk]
  unfold cy
  induction kvs with
  | nil=>cases hk
  | cons r kvs ih =>
   rw[zB,zQ,zQ]
   by_cases e:r.1=k
   ·rw[if_pos e]
    by_cases e2:k'=k
    ·rw[if_pos e2,show decide (r.1=k')=true from zu (e.trans e2.symm)];rfl
    ·rw[if_neg e2,show decide (r.1=k')=false from zr fun q=>e2 (q.symm.trans e)]
     by_cases fW:(kvs.any fun kv=>decide (kv.1=k))=true
     ·have:=ih fW
      rw[if_neg e2] at this
      exact this
     ·have em:kvs.map (fun kv=>if kv.1=k then (kv.1,d) else kv)=kvs:=by
       conv=>rhs;rw[← List.map_id kvs]
       refine zY fun x hx=>?_
       rw[if_neg fun q=>fW (List.any_eq_true.mpr ⟨x,hx,zu q⟩)];rfl
      rw[em]
   ·rw[if_neg e]
    have fW:(kvs.any fun kv=>decide (kv.1=k))=true:=by
     rw[yG,zr e,yL] at hk;exact hk
    by_cases e3:r.1=k'
    ·rw[zu e3,if_neg fun q=>e (e3.trans q)]
    ·rw[zr e3];exact ih fW
 ·rw[if_neg hk]
  unfold cy
  rw[List.find?_append]
  have hn:∀ x∈kvs,x.1≠k:=fun x hx q=>hk (List.any_eq_true.mpr ⟨x,hx,zu q⟩)
  by_cases e:k'=k
  ·subst e
   rw[if_pos rfl,List.find?_eq_none.mpr fun x hx=>by simp [hn x hx]]
   simp
  ·rw[if_neg e]
   have:([(k,d)].find? fun kv=>decide (kv.1=k'))=none:=by
    rw[zQ,show decide (k=k')=false from zr fun q=>e q.symm];rfl
   rw[this,Option.or_none]
theorem CW (l:List (Str×D)) (z:Str):(cy (pZ l) (.inr z)).isSome=l.any fun p=>decide (p.1=z):=by
 have all:∀ (l:List (Str×D)) (c:List (Key×D)),(cy (l.foldl (fun c p=>dput c (.inr p.1) p.2) c) (.inr z)).isSome=((cy c (.inr z)).isSome || l.any fun p=>decide (p.1=z)):=by
  intro l
  induction l with
  | nil=>intro c;simp
  | cons p l ih =>
   intro c
   rw[yA,ih,vT,yG]
   by_cases e:p.1=z
   ·rw[if_pos (by rw[e]),zu e];simp
   ·rw[if_neg fun q=>e (yD q).symm,zr e];simp
 exact (all l []).trans (by rfl)
def Q3 (a:Addr) (kvs:List (Str×V)):t9:=fun x y S R=>∃ z,x=.str z∧y=.ref a∧R (.bl (kvs.lookup z).isSome) S
theorem X6 {X:Cx}{a b:Expr}{ta tb:TD}{pos:Pos}{w:World}{ad:Addr}{kvs:List (Str×V)} (d:IW w K ad kvs) (ha:DE K X a ta) (hb:DE K X b tb) (hw:X.w=w:=by rfl) (hm:behindInMarks .In b=false:=by with_unfolding_all rfl) (hK:X.K=K:=by rfl) :
  DE K X (.Compare a [.In] [b] pos) (M9 (Q3 ad kvs) ta tb):=by
 refine⟨fun y=>(Ba (X:=y.cx) (r:=Lr K (Q3 ad kvs)) ?_ (ha.of y) (hb.of y) hm).mono fun _ _ _ h=>h.op⟩
 rintro pins s σ H x y' v u Q I rx ry ⟨d',e,S,R,r1,r2,hS,⟨z,e1,e2,h⟩,hR⟩
 subst e1 e2
 exact E3 (X:=y.cx) hw hK pins s σ H x y' v u Q I rx ry ⟨z,ad,kvs,r1.str,r2.ref,d,hR.now hS h (bL _)⟩
end
structure Q4 (k:Nat) (A:Around):Prop where
 dp:A.depth+3 * k+5<recursionLimit
 un:A.units+16 * k+200<cLine
structure FnH (P:Program) (w:World) (K:PySem.W.Frag) (mg:Str→Option Value) (base:Heap) (k:Nat) (f:Addr) (fd:FuncData) (ps:List Str) (sp:gG):Prop where
 len:∀ ds S R Z,sp ds S R Z→ds.length=ps.length
 run:∀ (A:Around) (outer:List Env) (s:Shared) (H:Hp) (args:Args) (us:List Value) (vs:List V) (Q:VK),Q4 k A→vn P w K mg base A outer s H→BindsTo s fd args (ps.zip us)→Vals vs us→t_ K sp vs H Q E0 →
  codeAny (model P w) A (.call (.ref f) args) (CR (g6 P w) outer P w H s Q E0) s
section
variable {P:Program}{w:World}{K:PySem.W.Frag}{mg:Str→Option Value}{base:Heap}
end
section
variable {K:PySem.W.Frag}{X:Cx}{k:Nat}{f:Addr}{fd:FuncData}{ps:List Str}{x:Str}{p pos:Pos}{e:Expr}{es:List Expr}{sp:gG}
end
section
variable {K:PySem.W.Frag}
def V2:List D→aT→KD→Prop:=fun ds S R=>∃ n,ds=[.int n]∧n.natAbs.log2<1920∧R (.str (Str.ofString (toString n))) S
theorem Q5:iI K (.type "str") V2:=by
 rintro X hK hc pins s σ H xs us Q I rx ⟨ds,S,R,r,hS,⟨n,e,h1,h⟩,hR⟩
 subst hK e
 obtain⟨v,rfl,r1⟩:=r.one
 have ev:=r1.int
 subst ev
 obtain⟨u,rfl,ru⟩:=vals1 rx
 obtain⟨t,rfl⟩:=ru
 exact PySem.P.str_of_int h1 ⟨.str _,H,I.tok _,⟨_,rfl⟩,hR.now hS h (hW _)⟩
end
def ZZ (pre:Nat) (X:Cx) (e:Expr) (t:TE):Prop:=∀ (pins:List (Addr×Obj)) (s:Shared) (σ:St) (H:Hp) (Q:VK),Inv X pins σ H s→pre≤s.toks→t σ H Q→wpAny (model X.prog X.w) X.A (eval e X.env) (fun u s'=>EP X pins σ Q u s'∧1≤s'.toks) X.xe s
section
variable {X:Cx}{e o:Expr}{t:TE}
end
structure DEg (pre:Nat) (K:PySem.W.Frag) (X:Cx) (e:Expr) (t:TD):Prop where
 of:∀ {b:Bool} (y:Ev X b),ZZ pre y.cx e (T K y.E t)
section
variable {K:PySem.W.Frag}{X:Cx}{e o:Expr}
end
theorem V3 {a b:Str} (h:a.cps.toList=b.cps.toList):a=b:=by
 obtain⟨⟨x⟩⟩:=a
 obtain⟨⟨y⟩⟩:=b
 cases h;rfl
end L2
namespace HT
open PySem PySem.Spec PyProof.Rows
section
variable {prog:Program}{w:World}{A:Around}{E:Value→Shared→Prop}{s:Shared}
end
end HT
namespace L2
open PySem PySem.Spec PyProof.Rows
section
variable {K:PySem.W.Frag}{X:Cx}
def Q6:Eh:=fun x ds S R=>∃ a es fs,x=.ref a∧ds=[.tup fs]∧S a=some (.lst es)∧es.length+fs.length≤sizeLine∧R .au (S.set a (.lst (es++fs)))
theorem CY:KA K "list.extend" Q6:=by
 rintro X hK pins s σ H x xs v us Q I rx rs ⟨d,ds,S,R,r1,r2,hS,⟨a,es,fs,e1,e2,e3,hl,h⟩,hR⟩
 subst e1 e2
 obtain⟨w0,rfl,q2⟩:=r2.one
 obtain⟨zs,e5,t⟩:=hS.lst e3
 obtain⟨p,ys,rfl,q,t2⟩:=q2.tup
 exact yP pins s σ H x _ v us Q I rx rs ⟨a,p,zs,ys,r1.ref,rfl,e5,q,by rw[t.len,t2.len];exact hl,hR.put hS e3 h hU (t.app t2)⟩
end
section
variable {X:Cx}{N:List Str}{src:List (Option Nat)}{scope:Scope}{tg iter elt:Expr}{ifs:List Expr}{pos:Pos}{wi:TI}{g:TG}{tc:TT}{te:TE}
end
section
variable {K:PySem.W.Frag}{X:Cx}{E:XK}{pos:Pos}
structure DEx (K:PySem.W.Frag) (X:Cx) (E:XK) (e:Expr) (t:TD):Prop where
 of:∀ (y:Ev X true),y.E=(fun _=>E)→dk y.cx E→PE y.cx e (T K y.E t)
structure DAx (K:PySem.W.Frag) (X:Cx) (E:XK) (es:List Expr) (t:oX):Prop where
 of:∀ (y:Ev X true),y.E=(fun _=>E)→dk y.cx E→PA y.cx es (Ta K y.E t)
structure DSx (K:PySem.W.Frag) (X:Cx) (E:XK) (b:List Stmt) (t:mM):Prop where
 of:∀ (y:Ev X true),y.E=(fun _=>E)→dk y.cx E→A4 y.cx b (Tl K y.E t)
variable {N:List Str}{src:List (Option Nat)}{scope:Scope}{tg iter elt:Expr}{ifs:List Expr}{ti:Bs}{g:TG}{gd:yU}{tc:pV}{te:TD}
end
section
variable {P:Program}{w:World}{K:PySem.W.Frag}{mg:Str→Option Value}{base:Heap}
end
section
variable {prog:Program}{w:World}{A:Around}{E:Value→Shared→Prop}{s:Shared}{n l0 l1:Nat}{i:Nat}{ow rj:Array Value}
end
section
variable {K:PySem.W.Frag}{X:Cx}
end
open PySem.Builtin PySem.Builtin.Str
structure M3 (X:Cx) (o:Expr) (m:Str) (apos:Pos) (e f g:Expr) (aS:Pos):Prop where
 base:attributeBase o m X.env (eval o X.env)=eval o X.env
 Ee:((backTo aS (starEach [e,f,g] X.env)).all (fun x=>!x.1) && (backToKw aS (keywordEach [] X.env)).all (fun x=>x.1.isSome)
  && decide (([e,f,g]:List Expr).length+([]:List Keyword).length+(if ([]:List Keyword).isEmpty then 0 else 1)<30))=true
 line:(apos.endLine == aS.line)=true
 trees:backTo aS (starEach [e,f,g] X.env)=[(false,eval e X.env),(false,eval f X.env),(false,eval g X.env)]
section
variable {X:Cx}{e o:Expr}{t:TE}
def Z1 (pre:Nat) (X:Cx) (es:List Expr) (t:TA):Prop :=
 ∀ (pos:Pos) (pins:List (Addr×Obj)) (s:Shared) (σ:St) (H:Hp) (Q:List V→Hp→Prop),Inv X pins σ H s→pre≤s.toks→t σ H Q→wpAny (model X.prog X.w) X.A (spliced (backTo pos (starEach es X.env))) (AP X pins σ Q) X.xe s
end
section
variable {K:PySem.W.Frag}{X:Cx}{e o:Expr}
structure DAg (pre:Nat) (K:PySem.W.Frag) (X:Cx) (es:List Expr) (t:oX):Prop where
 of:∀ {b:Bool} (y:Ev X b),Z1 pre y.cx es (Ta K y.E t)
end
structure Gh (a₀:Array Keyed) (g:Nat→Nat) (xs:Array Keyed):Prop where
 at_:∀ k,k<a₀.size→xs[k]?=a₀[g k]?
 lt:∀ k,k<a₀.size→g k<a₀.size
 inj:∀ i j,i<a₀.size→j<a₀.size→g i=g j→i=j
def Log (κ:KeyKind) (a₀:Array Keyed) (i j:Nat):Prop:=κ.klt (KK κ a₀ i) (KK κ a₀ j)∨(KK κ a₀ i=KK κ a₀ j∧i<j)
def yZ (κ:KeyKind) (a₀:Array Keyed) (g:Nat→Nat) (k:Nat):Prop:=∀ i j,i<j→j<k→Log κ a₀ (g i) (g j)
def SS (κ:KeyKind) (a₀:Array Keyed) (g:Nat→Nat) (k:Nat):Prop:=∀ i j,i<j→j<k→Log κ a₀ (g j) (g i)
def CZ (g:Nat→Nat) (m n:Nat):Prop:=∀ k,m≤k→k<n→g k=k
def Fu (g:Nat→Nat) (i j k:Nat):Nat:=if i≤k∧k<j then g (i+j - 1 - k) else g k
def Jc (g:Nat→Nat) (src l k:Nat):Nat:=if k=l then g src else if l<k∧k≤src then g (k - 1) else g k
section
variable {κ:KeyKind}{a₀ xs:Array Keyed}{g:Nat→Nat}
theorem Log.kle (h:Log κ a₀ i j):κ.kle (KK κ a₀ i) (KK κ a₀ j):=by
 rcases h with h | ⟨h,_⟩
 ·exact KeyOrd.kle_of_klt h
 ·rw[h];exact KeyOrd.kle_refl _
theorem KP (h:κ.kle (KK κ a₀ i) (KK κ a₀ j)) (hl:i<j):Log κ a₀ i j:=by
 cases q:κ.blt (KK κ a₀ i) (KK κ a₀ j) with
 | true=>exact .inl q
 | false=>exact .inr ⟨KeyOrd.kle_antisymm h q,hl⟩
theorem Gh.low (h:Gh a₀ g xs) (t:CZ g m a₀.size) (hm:m≤a₀.size) (hi:i<m):g i<m:=by
 refine Nat.lt_of_not_le fun q=>?_
 have h1:=h.lt i (by omega)
 have h2:=h.inj (g i) i h1 (by omega) (t (g i) q h1)
 omega
theorem Gh.key (h:Gh a₀ g xs) (hk:k<a₀.size):KK κ xs k=KK κ a₀ (g k):=KK_congr (h.at_ k hk)
theorem Gh.mirror (h:Gh a₀ g xs) (hs:xs.size=a₀.size) (hj:j≤a₀.size):Gh a₀ (Fu g i j) (mirror xs i j ((j - i) / 2)) where
 at_:=fun k hk=>by
  rw[getElem?_mirror_all (by omega)]
  unfold Fu
  by_cases q:i≤k∧k<j
  ·rw[if_pos q,if_pos q];exact h.at_ _ (by omega)
  ·rw[if_neg q,if_neg q];exact h.at_ _ hk
 lt:=fun k hk=>by
  unfold Fu
  by_cases q:i≤k∧k<j
  ·rw[if_pos q];exact h.lt _ (by omega)
  ·rw[if_neg q];exact h.lt _ hk
 inj:=fun a b ha hb e=>by
  unfold Fu at e
  by_cases q:i≤a∧a<j <;> by_cases r:i≤b∧b<j
  ·rw[if_pos q,if_pos r] at e;have:=h.inj _ _ (by omega) (by omega) e;omega
  ·rw[if_pos q,if_neg r] at e;have:=h.inj _ _ (by omega) (by omega) e;omega
  ·rw[if_neg q,if_pos r] at e;have:=h.inj _ _ (by omega) (by omega) e;omega
  ·rw[if_neg q,if_neg r] at e;exact h.inj _ _ ha hb e
theorem Gh.bubble (h:Gh a₀ g xs) (hs:xs.size=a₀.size) (hl:l≤src) (hj:src<a₀.size):Gh a₀ (Jc g src l) (bubble xs src (src - l)) where
 at_:=fun k hk=>by
  rw[getElem?_bubble (by omega) _ (by omega),show src - (src - l)=l by omega]
  unfold Jc
  by_cases q:k=l
  ·rw[if_pos q,if_pos q];exact h.at_ _ hj
  ·rw[if_neg q,if_neg q]
   by_cases r:l<k∧k≤src
   ·rw[if_pos r,if_pos r];exact h.at_ _ (by omega)
   ·rw[if_neg r,if_neg r];exact h.at_ _ hk
 lt:=fun k hk=>by
  unfold Jc
  by_cases q:k=l
  ·rw[if_pos q];exact h.lt _ hj
  ·rw[if_neg q]
   by_cases r:l<k∧k≤src
   ·rw[if_pos r];exact h.lt _ (by omega)
   ·rw[if_neg r];exact h.lt _ hk
 inj:=fun a b ha hb e=>by
  unfold Jc at e
  repeat' split at e
  all_goals (have:=h.inj _ _ (by omega) (by omega) e;omega)
theorem ia (h:i≤k∧k<j):Fu g i j k=g (i+j - 1 - k):=by unfold Fu;rw[if_pos h]
theorem f9 (h:¬ (i≤k∧k<j)):Fu g i j k=g k:=by unfold Fu;rw[if_neg h]
end
section
variable {prog:Program}{w:World}{A:Around}{E:Value→Shared→Prop}{s:Shared}{a₀:Array Keyed}{κ:KeyKind}
theorem KQ {st:SortSt}{g:Nat→Nat}{a top:Nat}{Q:AscSt→SortSt→Prop} (hO:κ.OneLt) (h0:KeysOf κ a₀) (ht:top≤a₀.size) (h1:1≤a) (h2:a≤top) (B:SBase a₀ st) (G:Gh a₀ g (arrOf st)) (T:CZ g a a₀.size) (U:yZ κ a₀ g a)
  (h:∀ n,a≤n→n≤top→yZ κ a₀ g n→(n=top∨κ.klt (KK κ a₀ (g n)) (KK κ a₀ (g (n - 1))))→Q (none,n) st):wpS (model prog w) A E s (ascLoop a top) Q st:=by
 unfold ascLoop
 refine wpS_forRange (I:=fun x c t=>t=st∧c=(none,x)∧yZ κ a₀ g x) ?_ ?_ ⟨rfl,rfl,U⟩
 ·rintro x c t OT I_ ⟨rfl,rfl,V⟩
  dsimp only
  refine wpS_bind (wpS_ltKK hO B h0 (by omega) (by omega) ?_)
  rw[G.key (by omega),G.key (by omega)]
  cases q:κ.blt (KK κ a₀ (g x)) (KK κ a₀ (g (x - 1))) with
  | true=>exact wpS_pure (h x OT (by omega) V (.inr q))
  | false =>
   refine wpS_pure ⟨rfl,rfl,fun i j kM hj=>?_⟩
   rcases Nat.lt_or_ge j x with z | z
   ·exact V i j kM z
   ·obtain rfl:j=x:=by omega
    have lw:=G.low (m:=j) (fun k hk fW=>T k (by omega) fW) (by omega) kM
    rw[T j OT (by omega)] at q ⊢
    refine KP ?_ lw
    rcases Nat.lt_or_ge i (j - 1) with y | y
    ·exact KeyOrd.kle_trans (V i (j - 1) y (by omega)).kle q
    ·obtain rfl:i=j - 1:=by omega
     exact q
 ·rintro c t ⟨rfl,rfl,V⟩
  rw[show max a top=top by omega] at V ⊢
  exact h top h2 (zl _) V (.inl rfl)
theorem Fv {st:SortSt}{g:Nat→Nat}{n top:Nat}{Q:Option Nat→SortSt→Prop} (hO:κ.OneLt) (h0:KeysOf κ a₀) (ht:top≤a₀.size) (h1:1≤n) (h2:n≤top) (B:SBase a₀ st) (G:Gh a₀ g (arrOf st)) (T:CZ g n a₀.size) (D:SS κ a₀ g n)
  (h:∀ m g' e_,SBase a₀ e_→Gh a₀ g' (arrOf e_)→CZ g' m a₀.size→1≤m→m≤top→yZ κ a₀ g' m→Q (some m) e_):wpS (model prog w) A E s (tail3 n top) Q st:=by
 unfold tail3
 refine wpS_bind (wpS_reverse ?_)
 have B':SBase a₀ (setArr st (mirror (arrOf st) 0 n ((n - 0) / 2))):=B.setArr (mirror_perm _ _ _ _)
 have G':Gh a₀ (Fu g 0 n) (arrOf (setArr st (mirror (arrOf st) 0 n ((n - 0) / 2)))):=G.mirror B.size (by omega)
 have T':CZ (Fu g 0 n) n a₀.size:=fun k hk fW=>by rw[f9 (by omega)];exact T k hk fW
 refine wpS_bind (KQ hO h0 ht h1 h2 B' G' T' (fun i j kM hj=>?_) fun m SU KR V _=>wpS_pure (h m _ _ B' G' (fun k hk fW=>T' k (by omega) fW) (by omega) KR V))
 rw[ia (by omega),ia (by omega)]
 exact D _ _ (by omega) (by omega)
structure Hz (κ:KeyKind) (a₀:Array Keyed) (g:Nat→Nat) (x q:Nat):Prop where
 le:q+1≤x
 tl:CZ g (x - (q+1)) a₀.size
 dn:∀ i j,i<j→j<x→i<x - (q+1)→Log κ a₀ (g j) (g i)
 eq:∀ i,x - (q+1)≤i→i<x→KK κ a₀ (g i)=KK κ a₀ (g (x - 1))
theorem Hz.full (F:Hz κ a₀ g x q) (hx:x≤a₀.size):SS κ a₀ (Fu g (x - (q+1)) x) x:=fun i j kM hj=>by
 have le:=F.le
 by_cases hi:i<x - (q+1)
 ·rw[f9 (k:=i) (by omega)]
  by_cases KU:j<x - (q+1)
  ·rw[f9 (by omega)];exact F.dn i j kM hj hi
  ·rw[ia (by omega)];exact F.dn i _ (by omega) (by omega) hi
 ·rw[ia (by omega),ia (by omega)]
  refine .inr ⟨(F.eq _ (by omega) (by omega)).trans (F.eq _ (by omega) (by omega)).symm,?_⟩
  rw[F.tl _ (by omega) (by omega),F.tl _ (by omega) (by omega)];omega
theorem Hz.KW (F:Hz κ a₀ g x 0):SS κ a₀ g x:=fun i j kM hj=>F.dn i j kM hj (by omega)
theorem Hz.next (D:SS κ a₀ g x) (T:CZ g x a₀.size) (hx:x<a₀.size) (h1:1≤x) (hl:κ.klt (KK κ a₀ (g x)) (KK κ a₀ (g (x - 1)))):Hz κ a₀ g (x+1) 0 where
 le:=by omega
 tl:=fun k hk fW=>T k (by omega) fW
 dn:=fun i j kM hj hi=>by
  by_cases KU:j<x
  ·exact D i j kM KU
  ·obtain rfl:j=x:=by omega
   refine .inl ?_
   by_cases q:i=j - 1
   ·rw[q];exact hl
   ·exact KeyOrd.klt_of_klt_of_kle hl (D i (j - 1) (by omega) (by omega)).kle
 eq:=fun i hi hj=>by rw[show i=x+1 - 1 by omega]
theorem Nq {st:SortSt}{g:Nat→Nat}{n top:Nat}{Q:DescSt→SortSt→Prop} (hO:κ.OneLt) (h0:KeysOf κ a₀) (ht:top≤a₀.size) (h1:1≤n) (h2:n≤top) (B:SBase a₀ st) (G:Gh a₀ g (arrOf st)) (F:Hz κ a₀ g n 0)
  (h:∀ m q g' e_,SBase a₀ e_→Gh a₀ g' (arrOf e_)→n≤m→m≤top→Hz κ a₀ g' m q→Q (none,m,q) e_):wpS (model prog w) A E s (descLoop n top) Q st:=by
 unfold descLoop
 refine wpS_forRange (I:=fun x c t=>∃ q g',c=(none,x,q)∧SBase a₀ t∧Gh a₀ g' (arrOf t)∧Hz κ a₀ g' x q) ?_ ?_ ⟨0,g,rfl,B,G,F⟩
 ·rintro x c t OT I_ ⟨q,g',rfl,B',G',F'⟩
  have le:=F'.le
  dsimp only
  refine wpS_bind (wpS_ltKK hO B' h0 (by omega) (by omega) ?_)
  rw[G'.key (by omega),G'.key (by omega)]
  cases hl:κ.blt (KK κ a₀ (g' x)) (KK κ a₀ (g' (x - 1))) with
  | true =>
   simp only [if_true]
   by_cases hq:q>0
   ·rw[if_pos hq]
    refine wpS_bind (wpS_reverse (wpS_pure ⟨0,_,rfl,B'.setArr (mirror_perm _ _ _ _),G'.mirror B'.size (by omega),?_⟩))
    refine .next (F'.full (by omega)) (fun k hk fW=>?_) (by omega) (by omega) ?_
    ·rw[f9 (by omega)];exact F'.tl k (by omega) fW
    ·rw[f9 (by omega),ia (by omega),F'.eq (x - (q+1)+x - 1 - (x - 1)) (by omega) (by omega)];exact hl
   ·rw[if_neg hq]
    obtain rfl:q=0:=by omega
    exact wpS_pure ⟨0,g',rfl,B',G',.next F'.KW (fun k hk fW=>F'.tl k (by omega) fW) (by omega) (by omega) hl⟩
  | false =>
   simp only [Bool.false_eq_true,if_false]
   refine wpS_bind (wpS_ltKK hO B' h0 (by omega) (by omega) ?_)
   rw[G'.key (by omega),G'.key (by omega)]
   cases hg:κ.blt (KK κ a₀ (g' (x - 1))) (KK κ a₀ (g' x)) with
   | true=>exact wpS_pure (h x q g' t B' G' OT (by omega) F')
   | false =>
    have e:KK κ a₀ (g' x)=KK κ a₀ (g' (x - 1)):=KeyOrd.kle_antisymm hg hl
    refine wpS_pure ⟨q+1,g',rfl,B',G',⟨by omega,fun k hk fW=>F'.tl k (by omega) fW,fun i j kM hj hi=>?_,fun i hi hj=>?_⟩⟩
    ·by_cases KU:j<x
     ·exact F'.dn i j kM KU (by omega)
     ·obtain rfl:j=x:=by omega
      have:=F'.dn i (j - 1) (by omega) (by omega) (by omega)
      rcases this with z | ⟨_,z⟩
      ·exact .inl (by rw[e];exact z)
      ·rw[F'.tl (j - 1) (by omega) (by omega)] at z
       have:=G'.low (m:=j - (q+1)) F'.tl (by omega) (i:=i) (by omega)
       omega
    ·rw[show x+1 - 1=x by omega]
     by_cases VT:i=x
     ·rw[VT]
     ·rw[e];exact F'.eq i (by omega) (by omega)
 ·rintro c t ⟨q,g',rfl,B',G',F'⟩
  rw[show max n top=top by omega] at F' ⊢
  exact h top q g' t B' G' h2 (zl _) F'
theorem Fw {st:SortSt}{g:Nat→Nat}{n top:Nat}{Q:Option Nat→SortSt→Prop} (hO:κ.OneLt) (h0:KeysOf κ a₀) (ht:top≤a₀.size) (h2:n+1≤top) (B:SBase a₀ st) (G:Gh a₀ g (arrOf st)) (F:Hz κ a₀ g (n+1) 0)
  (h:∀ m g' e_,SBase a₀ e_→Gh a₀ g' (arrOf e_)→CZ g' m a₀.size→1≤m→m≤top→yZ κ a₀ g' m→Q (some m) e_):wpS (model prog w) A E s (descPart n top) Q st:=by
 unfold descPart
 refine wpS_bind (wpS_lift (wpAny_rule ⟨rfl,?_⟩))
 refine wpS_bind (Nq hO h0 ht (by omega) h2 B G F fun m q g' e_ B' G' SU KR F'=>?_)
 have le:=F'.le
 dsimp only
 by_cases hq:q>0
 ·rw[if_pos hq]
  refine wpS_bind (wpS_reverse (Fv hO h0 ht (by omega) KR (B'.setArr (mirror_perm _ _ _ _)) (G'.mirror B'.size (by omega)) (fun k hk fW=>?_) (F'.full (by omega)) h))
  rw[f9 (by omega)];exact F'.tl k (by omega) fW
 ·rw[if_neg hq]
  obtain rfl:q=0:=by omega
  exact Fv hO h0 ht (by omega) KR B' G' (fun k hk fW=>F'.tl k (by omega) fW) F'.KW h
theorem Q7 {st:SortSt}{g:Nat→Nat}{top:Nat}{Q:Option Nat→SortSt→Prop} (hO:κ.OneLt) (h0:KeysOf κ a₀) (ht:top≤a₀.size) (h1:1≤top) (B:SBase a₀ st) (G:Gh a₀ g (arrOf st)) (T:CZ g 0 a₀.size)
  (h:∀ m g' e_,SBase a₀ e_→Gh a₀ g' (arrOf e_)→CZ g' m a₀.size→1≤m→m≤top→yZ κ a₀ g' m→Q (some m) e_):wpS (model prog w) A E s (countRun' 0 top) Q st:=by
 rw[countRun0_eq]
 refine wpS_bind (KQ hO h0 ht (zl 1) h1 B G (fun k hk fW=>T k (by omega) fW) (fun i j kM hj=>by omega) fun n SV Mg U SW=>?_)
 dsimp only
 have Tn:∀ m,CZ g m a₀.size:=fun m k hk fW=>T k (by omega) fW
 by_cases Q8:n=top
 ·rw[if_pos (by simpa using Q8)]
  exact wpS_pure (h n g st B G (Tn n) SV Mg U)
 ·rw[if_neg (by simpa using Q8)]
  have fu:=SW.resolve_left Q8
  by_cases SX:n>1
  ·rw[if_pos SX]
   refine wpS_bind (wpS_ltKK hO B h0 (by omega) (by omega) ?_)
   rw[G.key (by omega),G.key (by omega)]
   cases hr:κ.blt (KK κ a₀ (g 0)) (KK κ a₀ (g (n - 1))) with
   | true=>exact wpS_pure (h n g st B G (Tn n) SV Mg U)
   | false =>
    simp only [Bool.false_eq_true,if_false]
    have all:∀ k,k<n→KK κ a₀ (g k)=KK κ a₀ (g (n - 1)):=fun k hk=>by
     have a1:κ.kle (KK κ a₀ (g 0)) (KK κ a₀ (g k)):=by
      by_cases z:k=0
      ·rw[z];exact KeyOrd.kle_refl _
      ·exact (U 0 k (by omega) hk).kle
     have a2:κ.kle (KK κ a₀ (g k)) (KK κ a₀ (g (n - 1))):=by
      by_cases z:k=n - 1
      ·rw[z];exact KeyOrd.kle_refl _
      ·exact (U k (n - 1) (by omega) (by omega)).kle
     exact KeyOrd.kle_antisymm a2 (KeyOrd.kle_trans hr a1)
    refine wpS_bind (wpS_reverse (Fw hO h0 ht (by omega) (B.setArr (mirror_perm _ _ _ _)) (G.mirror B.size (by omega)) ?_ h))
    refine .next (fun i j kM hj=>?_) (fun k hk fW=>by rw[f9 (by omega)];exact T k (by omega) fW) (by omega) (by omega) ?_
    ·rw[ia (by omega),ia (by omega)]
     refine .inr ⟨(all _ (by omega)).trans (all _ (by omega)).symm,?_⟩
     rw[T _ (by omega) (by omega),T _ (by omega) (by omega)];omega
    ·rw[f9 (by omega),ia (by omega),all (0+n - 1 - (n - 1)) (by omega)];exact fu
  ·rw[if_neg SX]
   obtain rfl:n=1:=by omega
   exact Fw hO h0 ht (by omega) B G (.next (fun i j kM hj=>by omega) (Tn 1) (by omega) (by omega) fu) h
theorem Q9 {st:SortSt}{g:Nat→Nat}{n ok:Nat}{Q:Bool→SortSt→Prop} (hO:κ.OneLt) (h0:KeysOf κ a₀) (hn:n≤a₀.size) (aM:ok≤n) (B:SBase a₀ st) (G:Gh a₀ g (arrOf st)) (T:CZ g ok a₀.size) (U:yZ κ a₀ g ok)
  (h:∀ g' e_,SBase a₀ e_→Gh a₀ g' (arrOf e_)→yZ κ a₀ g' n→Q true e_):wpS (model prog w) A E s (binarySort' 0 n ok) Q st:=by
 rw[binarySort'_eq]
 simp only [Nat.zero_add]
 refine wpS_bind (wpS_mono (wpS_forRange (I:=fun k c t=>c=(none,())∧∃ g',SBase a₀ t∧Gh a₀ g' (arrOf t)∧CZ g' k a₀.size∧yZ κ a₀ g' (min k n)) (Q:=fun c t=>c=(none,())∧∃ g',SBase a₀ t∧Gh a₀ g' (arrOf t)∧yZ κ a₀ g' n) ?_ ?_ ?_) ?_)
 ·rintro k c t hk1 fW ⟨rfl,g',B',G',T',V⟩
  rw[show min k n=k by omega] at V
  have hk:k<a₀.size:=by omega
  refine wpS_bind (wpS_mono (wpS_forRange (I:=fun x c t2=>t2=t∧∃ l r,c=(none,l,r)∧l≤r∧r≤k∧r - l≤k - x∧(∀ i,i<l→κ.kle (KK κ a₀ (g' i)) (KK κ a₀ (g' k)))∧(∀ i,r≤i→i<k→κ.klt (KK κ a₀ (g' k)) (KK κ a₀ (g' i))))
   (Q:=fun c t2=>t2=t∧∃ l r,c=(none,l,r)∧l≤k∧(∀ i,i<l→κ.kle (KK κ a₀ (g' i)) (KK κ a₀ (g' k)))∧(∀ i,l≤i→i<k→κ.klt (KK κ a₀ (g' k)) (KK κ a₀ (g' i)))) ?_ ?_ ?_) ?_)
  ·rintro x c t2 _ hxk ⟨rfl,l,r,rfl,C1,V4,hm,lo,hi⟩
   dsimp only
   by_cases X7:l≥r
   ·rw[if_pos X7]
    obtain rfl:l=r:=by omega
    exact wpS_pure ⟨rfl,l,l,rfl,V4,lo,hi⟩
   ·rw[if_neg X7]
    refine wpS_bind (wpS_ltKK hO B' h0 hk (by omega) ?_)
    rw[G'.key hk,G'.key (by omega)]
    cases hl:κ.blt (KK κ a₀ (g' k)) (KK κ a₀ (g' ((l+r) / 2))) with
    | true =>
     refine wpS_pure ⟨rfl,l,(l+r) / 2,rfl,by omega,by omega,by omega,lo,fun i a b=>?_⟩
     by_cases z:i=(l+r) / 2
     ·rw[z];exact hl
     ·exact KeyOrd.klt_of_klt_of_kle hl (V _ _ (by omega) b).kle
    | false =>
     refine wpS_pure ⟨rfl,(l+r) / 2+1,r,rfl,by omega,by omega,by omega,fun i a=>?_,hi⟩
     by_cases z:i=(l+r) / 2
     ·rw[z];exact hl
     ·exact KeyOrd.kle_trans (V i ((l+r) / 2) (by omega) (by omega)).kle hl
  ·rintro c t2 ⟨rfl,l,r,rfl,C1,V4,hm,lo,hi⟩
   obtain rfl:l=r:=by omega
   exact⟨rfl,l,l,rfl,V4,lo,hi⟩
  ·exact⟨rfl,0,k,rfl,by omega,by omega,by omega,fun i hi=>by omega,fun i a b=>by omega⟩
  ·rintro c t2 ⟨rfl,l,r,rfl,V5,lo,hi⟩
   show wpS _ _ _ _ (do moveDown' k l;pure (ForInStep.yield (none,()))) _ _
   rw[moveDown'_eq]
   refine wpS_bind (wpS_modify (wpS_pure ⟨rfl,_,B'.setArr (bubble_perm _ _ _),G'.bubble B'.size V5 hk,fun x OT I_=>?_,?_⟩))
   ·show Jc g' k l x=x
    unfold Jc
    rw[if_neg (by omega),if_neg (by omega)]
    exact T' x (by omega) I_
   ·rw[show min (k+1) n=k+1 by omega]
    have lw:∀ i,i<k→g' i<k:=fun i q=>G'.low T' (by omega) q
    have ek:=T' k (zl _) hk
    intro i j kM hj
    show Log κ a₀ (Jc g' k l i) (Jc g' k l j)
    unfold Jc
    by_cases i1:i=l
    ·rw[if_pos i1,if_neg (by omega),if_pos (by omega)]
     exact .inl (hi _ (by omega) (by omega))
    ·rw[if_neg i1]
     by_cases j1:j=l
     ·rw[if_pos j1,if_neg (by omega)]
      have h1:=lo i (by omega)
      have h2:=lw i (by omega)
      rw[ek] at h1 ⊢
      exact KP h1 h2
     ·rw[if_neg j1]
      by_cases i2:l<i∧i≤k <;> by_cases j2:l<j∧j≤k
      ·rw[if_pos i2,if_pos j2];exact V _ _ (by omega) (by omega)
      ·omega
      ·rw[if_neg i2,if_pos j2];exact V _ _ (by omega) (by omega)
      ·rw[if_neg i2,if_neg j2];exact V _ _ (by omega) (by omega)
 ·rintro c t ⟨hc,g',B',G',T',V⟩
  refine⟨hc,g',B',G',?_⟩
  rwa [show min (max (max ok 1) n) n=n by omega] at V
 ·refine⟨rfl,g,B,G,fun k hk fW=>T k (by omega) fW,fun i j kM hj=>?_⟩
  exact U i j kM (by omega)
 ·rintro c t ⟨rfl,g',B',G',V⟩
  exact wpS_pure (h g' t B' G' V)
def Nr (κ:KeyKind) (a₀:Array Keyed) (st:SortSt):Prop:=failedOf st=none∧pendingOf st=#[(0,a₀.size,0)]∧∃ g,(arrOf st).size=a₀.size∧Gh a₀ g (arrOf st)∧yZ κ a₀ g a₀.size
theorem Nt {st:SortSt}{Q:Unit→SortSt→Prop} (hO:κ.OneLt) (h0:KeysOf κ a₀) (B:SBase a₀ st) (e0:arrOf st=a₀) (h2:2≤a₀.size) (h64:a₀.size<64)
  (h:∀ e_ g,failedOf e_=none→(arrOf e_).size=a₀.size→Gh a₀ g (arrOf e_)→yZ κ a₀ g a₀.size→Q () e_):wpS (model prog w) A E s sortRuns' Q st:=by
 have G:Gh a₀ (fun k=>k) (arrOf st):=⟨fun k _=>by rw[e0],fun k hk=>hk,fun _ _ _ _ e=>e⟩
 have fin:∀ (t:SortSt) (g:Nat→Nat),SBase a₀ t→Gh a₀ g (arrOf t)→yZ κ a₀ g a₀.size→Nr κ a₀ (setPending t ((pendingOf t).push (0,a₀.size,0))):=fun t g B' G' U=>⟨B'.failed,by show (pendingOf t).push _=_;rw[B'.pend];rfl,g,B'.size,G',U⟩
 rw[sortRuns'_eq]
 refine wpS_bind (wpS_get ?_)
 dsimp only
 have hm:minRun' a₀.size a₀.size 0=a₀.size:=by
  obtain⟨f,hf⟩:∃ f,a₀.size=f+1:=⟨a₀.size - 1,by omega⟩
  have:minRun' (f+1) a₀.size 0=a₀.size:=by rw[minRun'_succ,if_pos h64];rfl
  rwa [← hf] at this
 simp only [B.size,hm]
 refine wpS_bind (wpS_mono (wpS_forRange (I:=fun x c t=>(x=0∧c=(none,0)∧t=st)∨(1≤x∧c=(none,a₀.size)∧Nr κ a₀ t)) (Q:=fun c t=>c=(none,a₀.size)∧Nr κ a₀ t) ?_ ?_ (.inl ⟨rfl,rfl,rfl⟩)) ?_)
 ·rintro x c t _ hx (⟨rfl,rfl,rfl⟩ | ⟨OT,rfl,D⟩)
  ·dsimp only
   rw[if_neg (by omega)]
   simp only [Nat.sub_zero,Nat.min_self,Nat.zero_add]
   refine wpS_bind (Q7 hO h0 (zl _) (by omega) B G (fun _ _ _=>rfl) fun m g' t2 B2 G2 T2 SU KR U2=>?_)
   dsimp only
   by_cases fu:m<a₀.size
   ·rw[if_pos fu]
    refine wpS_bind (wpS_lift (wpAny_rule ⟨rfl,?_⟩))
    refine wpS_bind (Q9 hO h0 (zl _) KR B2 G2 T2 U2 fun g3 t3 B3 G3 U3=>?_)
    simp only [Bool.not_true,Bool.false_eq_true,if_false]
    refine wpS_bind (wpS_get ?_)
    rw[show (pendingOf t3).back?=none by rw[B3.pend];rfl]
    dsimp only
    exact wpS_bind (wpS_modify (wpS_pure (.inr ⟨by omega,rfl,fin t3 g3 B3 G3 U3⟩)))
   ·rw[if_neg fu]
    obtain rfl:m=a₀.size:=by omega
    refine wpS_bind (wpS_get ?_)
    rw[show (pendingOf t2).back?=none by rw[B2.pend];rfl]
    dsimp only
    exact wpS_bind (wpS_modify (wpS_pure (.inr ⟨by omega,rfl,fin t2 g' B2 G2 U2⟩)))
  ·dsimp only
   rw[if_pos (zl _)]
   exact wpS_pure ⟨rfl,D⟩
 ·rintro c t (⟨hx,_,_⟩ | ⟨_,hc,D⟩)
  ·omega
  ·exact⟨hc,D⟩
 ·rintro c t ⟨rfl,D⟩
  dsimp only
  obtain⟨d1,d2,g,d3,d4,d5⟩:=D
  refine wpS_bind (wpS_mono (wpS_forRange (I:=fun _ c t2=>t2=t∧c=(none,())) (Q:=fun c t2=>t2=t∧c=(none,())) ?_ (fun _ _ z=>z) ⟨rfl,rfl⟩) ?_)
  ·rintro x c t2 _ _ ⟨rfl,rfl⟩
   refine wpS_bind (wpS_get ?_)
   rw[if_pos (by rw[d2];exact zl 1)]
   exact wpS_pure ⟨rfl,rfl⟩
  ·rintro c t2 ⟨rfl,rfl⟩
   exact wpS_pure (h _ g d1 d3 d4 d5)
end
abbrev Jd (X:Cx) (qual:Str) (scope:Scope) (L f:Addr) (cv:Value):Env:=envX qual scope L f cv (clOf X.env.cells scope.names)
def OU (X:Cx) (N:List Str) (qual:Str) (scope:Scope) (f:Addr) (cv:Value) (A:Around) (s:Shared) (H:Hp):Cx :=
 { X with A:=A.deeper (Jd X qual scope s.heap.objs.size f cv),N:=N,dj:=s,tN:=H,env:=Jd X qual scope s.heap.objs.size f cv,outer:=X.stack,stack:=Jd X qual scope s.heap.objs.size f cv :: X.stack,ex:=[],fn:=fun _=>false,calm:=true,pn:=[],xe:=fun _ _=>False }
abbrev vU (X:Cx) (qual:Str) (params:Arguments) (body:Expr) (scope:Scope) (pm cv lF:Value):Obj :=
 { cls:=.type "function",data:=.func (kla_fn "<lambda>" qual params body scope (clOf X.env.cells scope.names) pm cv lF) }
section
variable {X:Cx}{pins:List (Addr×Obj)}{σ:St}{H:Hp}{s:Shared}{N:List Str}{src:List (Option Nat)}{scope:Scope}{params:Arguments}{body:Expr}{qual p:Str}{pm cv lF u:Value}{f:Addr}{A:Around}{v:V}{te:TE}{Q:VK}
theorem Je (I:Inv X pins σ H s) (S:bM X N src scope) (Jf:N[0]?=some p) (hp:scope.names.lookup p=some .local) (h0:src[0]?=some none) (MR:A.frames=some X.stack) (hh:A.handled=none) (r:RelV v u)
  (KY:h₁.Ns s.heap.objs.size fun x=>[(p,u)].reverse.lookup x) (old:∀ b o,s.heap.get? b=some o→h₁.get? b=some o) :
  Inv (OU X N qual scope f cv A s H) [] ((pick σ src).set 0 (some v)) H { s with heap:=h₁,toks:=tk }:=by
 have iF:∀ x c,(clOf X.env.cells scope.names).lookup x=some c→X.env.cells.lookup x=some c:=pJ X.env.cells scope.names [] (by intro x c h;simp at h)
 have Ie:∀ b:Addr,b∉(OU X N qual scope f cv A s H).ex:=fun b z=>absurd (show b∈([]:List Addr) from z) (by simp)
 have xV:∀ x,scope.names.lookup x=some .free→∃ c,(clOf X.env.cells scope.names).lookup x=some c:=fun x hl=>by
  have hm:=yd hl
  obtain⟨c,Iu⟩:=I.ok.has x (S.xV _ hm rfl)
  exact⟨c,i0 X.env.cells scope.names [] x c (by intro x c h;simp at h) hm Iu⟩
 refine⟨⟨I.ok.mod,S.kind,rfl,rfl,zl _,fun x y c h1 h2=>I.ok.inj x y c (iF _ _ h1) (iF _ _ h2),fun x hk=>?_,fun x c h=>(nomatch h),fun _=>hh,Around.frames_deeper MR,.inr ⟨rfl,rfl⟩,fun b z=>absurd z (Ie b),I.bs,zG I.ok.HL I.sz,fun b _ _=>Ie b,fun b z=>absurd z (Ie b),I.stack,I.oS⟩,
  rfl,I.bare,Un.kept old,⟨_,KY,fun i x w e1 e2 e3=>?_⟩,fun x c e=>?_,I.aM.fresh (zl _),fun x c e=>I.fY x c (iF x c e),fun q hq=>absurd (show q∈([]:List (Addr×Obj)) from hq) (by simp),I.aM.kept old,?_⟩
 ·have hk:scope.names.lookup x=some .cell∨scope.names.lookup x=some .free:=hk
  rcases hk with hk | hk
  ·exact absurd rfl (S.gx _ (yd hk))
  ·exact xV x hk
 ·have e1:N[i]?=some x:=e1
  by_cases hi:i=0
  ·subst hi
   rw[Jf] at e1;cases e1
   have hl:0<(pick σ src).length:=by unfold pick;rw[zb];exact (zo.mp h0).1
   rw[List.getElem?_set_self hl] at e2
   cases e2
   exact⟨u,r,.inl ⟨hp,by simp [zT]⟩⟩
  ·rw[List.getElem?_set_ne (Ne.symm hi)] at e2
   unfold pick at e2
   rw[zp] at e2
   cases es:src[i]? with
   | none=>rw[es] at e2;cases e2
   | some o =>
    rw[es] at e2
    cases o with
    | none=>cases e2
    | some j =>
     have e3:(σ[j]?).join=some w:=zN e2
     have e4:σ[j]?=some (some w):=by
      cases q:σ[j]? with
      | none=>rw[q] at e3;cases e3
      | some z=>rw[q] at e3;exact congrArg some e3
     obtain⟨a1,a2,a3⟩:=S.src i j x es e1
     obtain⟨m0,_,hl⟩:=I.loc
     obtain⟨u',r',l⟩:=hl j x w a1 e4 a3
     have hm:=yd a2
     have hk:=S.xV _ hm rfl
     rcases l with ⟨k,_⟩ | ⟨_,c,Iu,⟨o,ho,hd⟩⟩
     ·rcases hk with hk | hk <;> (rw[k] at hk;cases hk)
     ·exact⟨u',r',.inr ⟨.inr a2,c,i0 X.env.cells scope.names [] x c (by intro x c h;simp at h) hm Iu,o,old _ _ ho,hd⟩⟩
 ·obtain⟨w,o,ho,hd⟩:=I.cell x c (iF x c e)
  exact⟨w,o,old _ _ ho,hd⟩
 ·show ((pick σ src).set 0 (some v)).length=N.length
  unfold pick
  rw[List.length_set,zb,S.len]
theorem Fx (I:Inv X pins σ H s) (S:bM X N src scope) (Jf:N[0]?=some p) (hp:scope.names.lookup p=some .local) (h0:src[0]?=some none) (MR:A.frames=some X.stack) (hh:A.handled=none) (Q_:A.depth<recursionLimit) (r:RelV v u)
  (ho:s.heap.get? f=some (vU X qual params body scope pm cv lF)) (rh:s.heap.CodeRec cv qual) (IM:scope.isCoroutine=false) (y3:scope.isGenerator=false)
  (hb:bindArgs (kla_fn "<lambda>" qual params body scope (clOf X.env.cells scope.names) pm cv lF) ⟨[u],[]⟩=pure [(p,u)])
  (he:PE (OU X N qual scope f cv A s H) body te) (h:te ((pick σ src).set 0 (some v)) H Q) :
  codeAny (model X.prog X.w) A (.call (.ref f) ⟨[u],[]⟩) (fun q s'=>∃ w,q=.ok (.ret w)∧CE X.stack X.prog X.w H s Q w s') s:=by
 refine PySem.W.kla_callFunE Q_ ho rfl IM y3 rfl rh ?_
 show wpAny _ _ (bindArgs (kla_fn "<lambda>" qual params body scope (clOf X.env.cells scope.names) pm cv lF) ⟨[u],[]⟩) _ _ _
 rw[hb]
 refine zi (wpAny_newFunctionEnv S.gx (fun x hx=>?_) (fun h₁ KY IH=>⟨I.nolimit.fresh _ IH,?_⟩) S.kind)
 ·rw[zH.mp hx];exact hp
 have old:∀ b o,s.heap.get? b=some o→h₁.get? b=some o:=fun b o e=>IH.extBut b o (zw (zq e)) (zc _ e)
 show codeAny _ _ (.expr body (Jd X qual scope s.heap.objs.size f cv)) _ _
 refine PySem.W.kla_codeExpr (yz (he [] _ _ H Q (Je I S Jf hp h0 MR hh r KY old) h) (by rintro w s' ⟨x,H',J,rv,q⟩;exact⟨w,rfl,x,H',J.os,J.bare,J.base,J.aM,rv,q⟩) fun _ _ z=>z.elim)
end
@[reducible] def intK:KeyKind where
 α:=Int
 blt a b:=decide (a<b)
 irrefl a:=by simp
 trans a b c h1 h2:=by simp only [yp] at *;omega
 negTrans a b c h:=by simp only [yp] at *;omega
 total a b h1 h2:=by simp only [decide_eq_false_iff_not] at *;omega
 keyOf v:=match v with | .int x _=>some x | _=>none
 dflt:=0
theorem Fy:intK.OneLt:=by
 intro prog w A E s x y a b Q ha hb h
 cases x <;> simp only [intK,reduceCtorEq,Option.some.injEq] at ha
 cases y <;> simp only [intK,reduceCtorEq,Option.some.injEq] at hb
 cases ha;cases hb
 exact oneLt_int h
structure SY (κ:KeyKind) (b:Bool) (key:Nat→κ.α) (n:Nat) (g:Nat→Nat):Prop where
 lt:∀ k,k<n→g k<n
 inj:∀ i j,i<n→j<n→g i=g j→i=j
 ord:∀ i j,i<j→j<n→(if b=true then κ.klt (key (g j)) (key (g i)) else κ.klt (key (g i)) (key (g j)))∨(key (g i)=key (g j)∧g i<g j)
def iK (κ:KeyKind) (us:List Value) (j:Nat):κ.α:=(κ.keyOf (us.getD j .none)).getD κ.dflt
theorem Fz {us vs:List Value} (hl:us.length=vs.length) {j:Nat} (hj:j<vs.length):(us.toArray.zip vs.toArray)[j]?=some (us.getD j .none,vs.getD j .none):=by
 have e:(us.zip vs)[j]?=some (us.getD j .none,vs.getD j .none):=List.getElem?_zip_eq_some.mpr ⟨by show us[j]?=some (us.getD j .none);rw[zC,zg (by omega)];rfl,by show vs[j]?=some (vs.getD j .none);rw[zC,zg hj];rfl⟩
 rw[← Array.getElem?_toList,ksk_zip,List.toList_toArray]
 exact e
theorem ug {κ:KeyKind}{us vs:List Value} (hl:us.length=vs.length) {j:Nat} (hj:j<vs.length):KK κ (us.toArray.zip vs.toArray) j=iK κ us j:=by
 unfold KK iK
 rw[Fz hl hj]
theorem vV {l m:List Value}{n:Nat} (h1:l.length=n) (h2:m.length=n) (h:∀ k,k<n→l[k]?=m[k]?):l=m:=by
 apply List.ext_getElem?
 intro k
 by_cases hk:k<n
 ·exact h k hk
 ·rw[List.getElem?_eq_none (by omega),List.getElem?_eq_none (by omega)]
section
variable {prog:Program}{w:World}{A:Around}{E:Value→Shared→Prop}{s:Shared}{a kS:Addr}{b:Bool}{us vs:List Value}{e e1:Nat}{P:PySem.Fin→Shared→Prop}{κ:KeyKind}
theorem Bx {st:SortSt}{keys:Array Value} (hk:s.heap.get? kS=some (seqObj "list" keys e)) (ha:s.heap.get? a=some (seqObj "list" #[] e1)) (Nu:kS≠a) (hz:keys.size<64) (EZ:(arrOf st).size<64) (Ej:failedOf st=none)
  (h:∀ h' c,(∀ b o,b≠a→b≠kS→s.heap.get? b=some o→h'.get? b=some o)→h'.get? a=some (seqObj "list" (if b then ((arrOf st).map (·.2)).reverse else (arrOf st).map (·.2)) c)→P (.done (.ret .none)) { s with heap:=h' }) :
  wpAny (model prog w) A (ksk_tail a b e1 (.ref kS) st) P E s:=by
 have s1:=yq s.heap kS (Obj.mapSeq fun _=>(#[]:Array Value))
 have V6:(s.heap.update kS (Obj.mapSeq fun _=>(#[]:Array Value))).get? a=some (seqObj "list" #[] e1):=(s1.2 a Nu.symm).trans ha
 have Jg:∀ o:Array Value,o=(if b then ((arrOf st).map (·.2)).reverse else (arrOf st).map (·.2))→o.size<64:=by
  rintro o rfl
  cases b with
  | false=>rw[if_neg zd,Array.size_map];exact EZ
  | true=>rw[if_pos rfl,Array.size_reverse,Array.size_map];exact EZ
 generalize ho:(if b then ((arrOf st).map (·.2)).reverse else (arrOf st).map (·.2))=out at h Jg
 have Jg:=Jg out rfl
 have s2:=yq (s.heap.update kS (Obj.mapSeq fun _=>(#[]:Array Value))) a (Obj.mapSeq fun _=>out)
 obtain⟨c2,Ig⟩:∃ c2,((s.heap.update kS (Obj.mapSeq fun _=>(#[]:Array Value))).update a (Obj.mapSeq fun _=>out)).get? a=some (seqObj "list" out c2):=⟨_,get?_update_seq V6 fun _=>out⟩
 unfold ksk_tail
 try dsimp only
 refine za (listUpdate_at hk rfl ?_ (by rw[zR];omega) (ya _))
 refine za (wpAny_letGo ?_)
 refine za (seqEpoch_at V6 rfl ?_)
 rw[ho]
 refine za (listUpdate_at V6 rfl ?_ (ya _) (zG (yE Jg) (by rw[zR];omega)))
 rw[Ej]
 simp only [bne_self_eq_false,Bool.false_eq_true,if_false]
 exact zi (h _ c2 (fun b o h1 h2 q=>(s2.2 b h1).trans ((s1.2 b h2).trans q)) Ig)
theorem FA {xs:Array Keyed}{g:Nat→Nat} (hl:us.length=vs.length) (hs:xs.size=vs.length)
  (G:Gh (if b=true then (us.toArray.zip vs.toArray).reverse else us.toArray.zip vs.toArray) g xs) (U:yZ κ (if b=true then (us.toArray.zip vs.toArray).reverse else us.toArray.zip vs.toArray) g vs.length) :
  ∃ g',SY κ b (iK κ us) vs.length g'∧(if b then (xs.map (·.2)).reverse else xs.map (·.2)).toList=(List.range vs.length).map fun k=>vs.getD (g' k) .none:=by
 have xq:(us.toArray.zip vs.toArray).size=vs.length:=by rw[Array.size_zip,zj,zj,hl,Nat.min_self]
 have X8:∀ k,k<vs.length→(us.toArray.zip vs.toArray)[k]?=some (us.getD k .none,vs.getD k .none):=fun k hk=>Fz hl hk
 cases b with
 | false =>
  rw[if_neg zd] at G U
  refine⟨g,⟨fun k hk=>by have:=G.lt k (by rw[xq];exact hk);rwa [xq] at this,fun i j hi hj=>G.inj i j (by rw[xq];exact hi) (by rw[xq];exact hj),fun i j kM hj=>?_⟩,?_⟩
  ·have h1:=G.lt i (by rw[xq];omega)
   have h2:=G.lt j (by rw[xq];omega)
   rw[xq] at h1 h2
   have:=U i j kM hj
   unfold Log at this
   rw[ug hl h1,ug hl h2] at this
   rw[if_neg zd]
   exact this
  ·rw[if_neg zd]
   refine vV (n:=vs.length) (by rw[zO,Array.size_map,hs]) (by simp) fun k hk=>?_
   have h1:=G.lt k (by rw[xq];omega)
   rw[xq] at h1
   rw[Array.getElem?_toList,Array.getElem?_map,G.at_ k (by rw[xq];exact hk),X8 _ h1,zp,List.getElem?_range hk]
   rfl
 | true =>
  rw[if_pos rfl] at G U
  have rm:(us.toArray.zip vs.toArray).reverse.size=vs.length:=by rw[Array.size_reverse,xq]
  have lt:∀ k,k<vs.length→g k<vs.length:=fun k hk=>by have:=G.lt k (by rw[rm];exact hk);rwa [rm] at this
  have rat:∀ k,k<vs.length→(us.toArray.zip vs.toArray).reverse[k]?=(us.toArray.zip vs.toArray)[vs.length - 1 - k]?:=fun k hk=>by
   rw[Array.getElem?_reverse (by rw[xq];exact hk),xq]
  refine⟨fun k=>vs.length - 1 - g (vs.length - 1 - k),⟨fun k hk=>by have:=lt (vs.length - 1 - k) (by omega);omega,fun i j hi hj e=>?_,fun i j kM hj=>?_⟩,?_⟩
  ·have h1:=lt (vs.length - 1 - i) (by omega)
   have h2:=lt (vs.length - 1 - j) (by omega)
   have:=G.inj (vs.length - 1 - i) (vs.length - 1 - j) (by rw[rm];omega) (by rw[rm];omega) (by omega)
   omega
  ·have h1:=lt (vs.length - 1 - i) (by omega)
   have h2:=lt (vs.length - 1 - j) (by omega)
   have:=U (vs.length - 1 - j) (vs.length - 1 - i) (by omega) (by omega)
   unfold Log at this
   have e1:KK κ (us.toArray.zip vs.toArray).reverse (g (vs.length - 1 - i))=iK κ us (vs.length - 1 - g (vs.length - 1 - i)):=(KK_congr (rat _ h1)).trans (ug hl (by omega))
   have e2:KK κ (us.toArray.zip vs.toArray).reverse (g (vs.length - 1 - j))=iK κ us (vs.length - 1 - g (vs.length - 1 - j)):=(KK_congr (rat _ h2)).trans (ug hl (by omega))
   rw[e1,e2] at this
   rw[if_pos rfl]
   rcases this with z | ⟨z1,z2⟩
   ·exact .inl z
   ·exact .inr ⟨z1.symm,by omega⟩
  ·rw[if_pos rfl]
   refine vV (n:=vs.length) (by rw[zO,Array.size_reverse,Array.size_map,hs]) (by simp) fun k hk=>?_
   have h1:=lt (vs.length - 1 - k) (by omega)
   rw[Array.getElem?_toList,Array.getElem?_reverse (by rw[Array.size_map,hs];exact hk),Array.size_map,hs,Array.getElem?_map,G.at_ _ (by rw[rm];omega),rat _ h1,X8 _ (by omega),zp,List.getElem?_range hk]
   rfl
theorem Nv (hO:κ.OneLt) (hk:s.heap.get? kS=some (seqObj "list" us.toArray e)) (ha:s.heap.get? a=some (seqObj "list" #[] e1)) (Nu:kS≠a) (hl:us.length=vs.length) (h64:vs.length<64) (h0:∀ u∈us,∃ x,κ.keyOf u=some x)
  (Z2:∀ mO mP rest,us=mO :: mP :: rest→keyKind' (mO :: mP :: rest).toArray=pure oneType')
  (h:∀ h' c g out,(∀ b o,b≠a→b≠kS→s.heap.get? b=some o→h'.get? b=some o)→h'.get? a=some (seqObj "list" out c)→SY κ b (iK κ us) vs.length g→out.toList=(List.range vs.length).map (fun k=>vs.getD (g k) .none)→P (.done (.ret .none)) { s with heap:=h' }) :
  wpAny (model prog w) A (ksk_end a b vs.toArray e1 (.ref kS) us.toArray) P E s:=by
 have xq:(us.toArray.zip vs.toArray).size=vs.length:=by rw[Array.size_zip,zj,zj,hl,Nat.min_self]
 have step:∀ t:Sem PySem.Fin,wpAny (model prog w) A t P E s→wpAny (model prog w) A (if b=true then (do let _ ← rule "list.sort.reverse";t) else t) P E s:=by
  intro t ht
  split
  ·exact za (wpAny_rule ht)
  ·exact ht
 have hsz:(if b=true then (us.toArray.zip vs.toArray).reverse else us.toArray.zip vs.toArray).size=vs.length:=by
  cases b with
  | false=>exact xq
  | true=>rw[if_pos rfl,Array.size_reverse,xq]
 have keys:KeysOf κ (if b=true then (us.toArray.zip vs.toArray).reverse else us.toArray.zip vs.toArray):=fun p hp=>by
  have hp:p∈us.zip vs:=by
   have e2:(us.toArray.zip vs.toArray).toList=us.zip vs:=by rw[ksk_zip]
   cases b with
   | false=>rw[if_neg zd,e2] at hp;exact hp
   | true=>rw[if_pos rfl,Array.toList_reverse,e2] at hp;exact List.mem_reverse.mp hp
  obtain⟨x,y⟩:=p
  exact h0 _ (List.of_mem_zip hp).1
 unfold ksk_end
 try dsimp only
 refine step _ ?_
 by_cases h2:vs.toArray.size<2
 ·rw[if_pos h2,if_pos h2]
  refine za (zi ?_)
  rw[StateT.run_pure]
  refine za (zi ?_)
  try dsimp only
  rw[zj] at h2
  refine Bx (st:=SortSt.mk' general' (if b=true then (us.toArray.zip vs.toArray).reverse else us.toArray.zip vs.toArray) #[] 7 none) hk ha Nu (by rw[zj];omega) (by show (if b=true then (us.toArray.zip vs.toArray).reverse else us.toArray.zip vs.toArray).size<64;omega) rfl fun h' c k1 k2=>?_
  obtain⟨g,g1,g2⟩:=FA (κ:=κ) (b:=b) (xs:=if b=true then (us.toArray.zip vs.toArray).reverse else us.toArray.zip vs.toArray) (g:=fun k=>k) hl hsz ⟨fun _ _=>rfl,fun _ hk=>hk,fun _ _ _ _ e=>e⟩ (fun i j kM hj=>by omega)
  exact h h' c g _ k1 k2 g1 g2
 ·rw[if_neg h2,if_neg h2]
  rw[zj] at h2
  obtain⟨mO,mP,rest,eu⟩:∃ mO mP rest,us=mO :: mP :: rest:=by
   match us,hl with
   | [],hl=>simp at hl;omega
   | [_],hl=>simp at hl;omega
   | mO :: mP :: rest,_=>exact⟨mO,mP,rest,rfl⟩
  have ek:keyKind' us.toArray=pure oneType':=by rw[eu];exact Z2 _ _ _ eu
  rw[ek]
  refine za (zi ?_)
  refine za (yz (Nt (κ:=κ) hO (a₀:=if b=true then (us.toArray.zip vs.toArray).reverse else us.toArray.zip vs.toArray) (st:=SortSt.mk' oneType' (if b=true then (us.toArray.zip vs.toArray).reverse else us.toArray.zip vs.toArray) #[] 7 none)
   (Q:=fun _ e_=>failedOf e_=none∧(arrOf e_).size=vs.length∧∃ g,Gh (if b=true then (us.toArray.zip vs.toArray).reverse else us.toArray.zip vs.toArray) g (arrOf e_)∧yZ κ (if b=true then (us.toArray.zip vs.toArray).reverse else us.toArray.zip vs.toArray) g vs.length)
   keys ⟨Array.Perm.refl _,rfl,rfl,rfl⟩ rfl (by omega) (by omega) fun e_ g q1 q2 q3 q4=>⟨q1,q2.trans hsz,g,q3,by rw[hsz] at q4;exact q4⟩) ?_ fun _ _ e=>e)
  rintro⟨⟨⟩,e_⟩ s' ⟨rfl,hf,V7,g,G,U⟩
  try dsimp only
  have V7:(arrOf e_).size=vs.length:=V7
  refine Bx hk ha Nu (by rw[zj];omega) (by omega) hf fun h' c k1 k2=>?_
  obtain⟨g',g1,g2⟩:=FA (κ:=κ) hl V7 G U
  exact h h' c g' _ k1 k2 g1 g2
end
structure KZ (X:Cx) (pins:List (Addr×Obj)) (b:Addr):Prop where
 loc:b≠X.env.locals
 fs:b∉X.fs
 cell:∀ x c,X.env.cells.lookup x=some c→c≠b
 pin:∀ p∈X.pn++pins,p.1≠b
 new:X.dj.heap.objs.size≤b
section
variable {X:Cx}{pins:List (Addr×Obj)}{σ:St}{H:Hp}{s:Shared}
theorem Inv.S7 (I:Inv X pins σ H s) (h:s.heap.objs.size≤b):KZ X pins b :=
 ⟨yi (zk I.lt h),I.Pc h,fun x c e=>by obtain⟨v,q⟩:=I.cell x c e;exact zw (zk q.lt h),fun p hp=>zw (zk (zq (I.pin p hp).1) h),zG I.sz h⟩
theorem Inv.Jh (I:Inv X pins σ H s) (kp:∀ b o,b≠a→b≠k→s.heap.get? b=some o→h'.get? b=some o) (ha:H a=none) (hk:H k=none) (Aa:KZ X pins a) (Ak:KZ X pins k):Inv X pins σ H { s with heap:=h',toks:=t' }:=by
 have LI:∀ b u,H b=some u→b≠a∧b≠k:=fun b u e=>⟨fun z=>(by rw[z,ha] at e;cases e),fun z=>(by rw[z,hk] at e;cases e)⟩
 refine I.step (g':=s.gens) (d':=s.drawn) (ch:=[a,k]) (fun b hb=>?_) (fun b o _ _ hc e _=>kp b o (fun z=>hc (by simp [z])) (fun z=>hc (by simp [z])) e) (fun b o _ _ hc e _=>⟨o.slots,kp b o (fun z=>hc (by simp [z])) (fun z=>hc (by simp [z])) e⟩) (fun _ _ _ _ n=>n)
  (fun b o hc e=>⟨o,kp b o (fun z=>hc (by simp [z])) (fun z=>hc (by simp [z])) e⟩) (fun _ _ e=>e) (fun _ _ _ e=>e) (fun b ps e=>⟨#[],by rw[e];simp⟩) (fun m hm=>?_) (fun b u e=>?_) I.bare
 ·simp only [zf,zF,or_false] at hb
  rcases hb with rfl | rfl
  ·exact⟨.inr Aa.new,Aa.loc,Aa.cell,Aa.pin⟩
  ·exact⟨.inr Ak.new,Ak.loc,Ak.cell,Ak.pin⟩
 ·obtain⟨o,es,ep,ho,r⟩:=hm
  exact⟨o,es,ep,kp _ o (Ne.symm Aa.loc) (Ne.symm Ak.loc) ho,r⟩
 ·refine (I.aM b u e).oj (fun c v hc q=>?_) (fun _ q=>q) fun _ _ q=>q
  rcases hc with z | z
  ·rw[z] at q ⊢;exact kp b v (LI b u e).1 (LI b u e).2 q
  ·exact kp c v (LI c _ z).1 (LI c _ z).2 q
theorem Inv.Rb (I:Inv X pins σ H s) (ha:H a=none) (A:KZ X pins a) (new:bh X.prog X.w (upd H a o) s.heap a o):Inv X pins σ (upd H a o) s:=by
 refine I.step (h':=s.heap) (g':=s.gens) (d':=s.drawn) (t':=s.toks) (ch:=[a]) (fun b hb=>?_) (fun b o _ _ hc e _=>e) (fun b o _ _ hc e _=>⟨o.slots,e⟩) (fun b u hc e n=>?_) (fun b o hc e=>⟨o,e⟩) (fun b xs e=>?_) (fun b u v e=>?_) (fun b ps e=>?_) (fun m hm=>hm) (fun b u e=>?_) I.bare
 ·rw[zH.mp hb];exact⟨.inr A.new,A.loc,A.cell,A.pin⟩
 ·rw[av (fun z=>hc (by simp [z]))];exact n
 ·rw[av (aC e ha)];exact e
 ·rw[av (aC e ha)];exact e
 ·exact⟨#[],by rw[av (aC e ha),e];simp⟩
 ·by_cases hb:b=a
  ·subst hb;rw[aF] at e;cases e;exact new
  ·rw[av hb] at e
   exact (I.aM b u e).oj (fun c v _ q=>q) (fun c q=>by rw[av (aC q ha)];exact q) fun c xs q=>by rw[av (aC q ha)];exact q
end
def FC (X:Cx) (pins:List (Addr×Obj)) (σ:St) (A:Around) (f:Addr) (xs:List V) (W:Nat→List V→Hp→Prop):Prop :=
 ∀ i x u ks s' H' more,Inv X (pins++more) σ H' s'→W i ks H'→xs[i]?=some x→RelV x u→codeAny (model X.prog X.w) A (.call (.ref f) ⟨[u],[]⟩) (fun q xO=>∃ w,q=.ok (.ret w)∧CE X.stack X.prog X.w H' s' (fun k Z3=>W (i+1) (ks++[k]) Z3) w xO) s'
structure K0 (κ:KeyKind) (us:List Value):Prop where
 all:∀ u∈us,∃ x,κ.keyOf u=some x
 kind:∀ mO mP rest,us=mO :: mP :: rest→keyKind' (mO :: mP :: rest).toArray=pure oneType'
section
variable {X:Cx}{pins:List (Addr×Obj)}{σ:St}{H:Hp}{s:Shared}{A:Around}{E:Value→Shared→Prop}{xs:List V}{vs:List Value}{f:Addr}{b:Bool}{κ:KeyKind}{W:Nat→List V→Hp→Prop}
theorem C2 (hO:κ.OneLt) (I:Inv X pins σ H s) (ha:s.heap.get? a=some (seqObj "list" #[] e1)) (hk:s.heap.get? kS=some (seqObj "list" #[] 0)) (Nu:kS≠a) (na:H a=none) (nk:H kS=none) (Aa:KZ X pins a) (Ak:KZ X pins kS)
  (hv:Vals xs vs) (h64:vs.length<64) (T:FC X pins σ A f xs W) (w0:W 0 [] H) (G:∀ ks us H',W vs.length ks H'→Vals ks us→ks.length=vs.length→K0 κ us)
  (h:∀ s' H' ks us c g out,Inv X pins σ H' s'→H' a=none→s'.heap.get? a=some (seqObj "list" out c)→W vs.length ks H'→Vals ks us→ks.length=vs.length→SY κ b (iK κ us) vs.length g→out.toList=(List.range vs.length).map (fun k=>vs.getD (g k) .none)→P (.done (.ret .none)) s') :
  wpAny (model X.prog X.w) A (ksk_rest a (.ref f) b vs.toArray e1 (.ref kS)) P E s:=by
 have nc:∀ (k:Array Value) (n:Nat) (v:Option Value),(seqObj "list" k n).data≠.cell v:=fun _ _ _ z=>nomatch z
 unfold ksk_rest
 refine za (wpAny_rule ?_)
 rw[List.forIn_toArray]
 refine za (ksk_fold (fun i s'=>∃ ks kA e H',Inv X pins σ H' s'∧W i ks H'∧Vals ks kA.toList∧ks.length=i∧H' a=none∧H' kS=none∧s'.heap.get? a=some (seqObj "list" #[] e1)∧s'.heap.get? kS=some (seqObj "list" kA e)) vs 0 s ⟨[],#[],0,H,I,w0,.nil,rfl,na,nk,ha,hk⟩ ?_ ?_)
 ·rintro j x s' hx ⟨ks,kA,e,H',I',w',v',l',S8,V8,V9,Iv⟩
  simp only [Nat.zero_add] at l' w' ⊢
  have hj:j<vs.length:=(zo.mp hx).1
  have hl:xs.length=vs.length:=hv.length
  obtain⟨y,hy⟩:∃ y,xs[j]?=some y:=⟨_,zg (by omega)⟩
  obtain⟨u,hu,ru⟩:=hv.get hy
  rw[hx] at hu;cases hu
  have Ip:Inv X (pins++[(a,seqObj "list" #[] e1),(kS,seqObj "list" kA e)]) σ H' s':=by
   refine⟨I'.ok,I'.os,I'.bare,I'.base,I'.loc,I'.cell,I'.free,I'.fY,fun p hp=>?_,I'.aM,I'.len⟩
   rcases zI.mp hp with hp | hp
   ·exact I'.pin p (z0 _ hp)
   ·rcases zI.mp hp with hp | hp
    ·exact I'.pin p (zA _ hp)
    ·simp only [zf,zF,or_false] at hp
     rcases hp with rfl | rfl
     ·exact⟨V9,S8,Aa.loc,Aa.fs,nc _ _⟩
     ·exact⟨Iv,V8,Ak.loc,Ak.fs,nc _ _⟩
  have hz:kA.size=j:=by
   have h1:ks.length=kA.toList.length:=v'.length
   have h2:kA.toList.length=kA.size:=zO
   omega
  refine za (wpAny_attempt (wpAny_call (yJ (T j y x ks s' H' _ Ip w' hy ru) fun r s2 hq=>?_)))
  obtain⟨w,rfl,ce⟩:=hq
  obtain⟨k,H2,I2,rk,w2⟩:=Ip.after ce
  dsimp only
  have pa:=I2.pin (a,seqObj "list" #[] e1) (zA _ (zA _ (by simp)))
  have pk:=I2.pin (kS,seqObj "list" kA e) (zA _ (zA _ (by simp)))
  have I3:Inv X pins σ H2 s2:=⟨I2.ok,I2.os,I2.bare,I2.base,I2.loc,I2.cell,I2.free,I2.fY,fun p hp=>I2.pin p (by rcases zI.mp hp with z | z;exact z0 _ z;exact zA _ (z0 _ z)),I2.aM,I2.len⟩
  have s1:=yq s2.heap kS (Obj.mapSeq (·.push w))
  obtain⟨c2,Ig⟩:∃ c2,(s2.heap.update kS (Obj.mapSeq (·.push w))).get? kS=some (seqObj "list" (kA.push w) c2):=⟨_,get?_update_seq pk.1 (·.push w)⟩
  refine za (listUpdate_at pk.1 rfl ?_ (by rw[zR];omega) (zG (Nat.le_of_eq (Array.size_push ..)) (by rw[zR];omega)))
  refine zi ⟨rfl,ks++[k],kA.push w,c2,H2,I3.turned (t':=s2.toks) (it:=kS) (fun b o hb q=>(s1.2 b hb).trans q) pk.2.1 Ak.loc (.inr Ak.new) Ak.cell Ak.pin,w2,?_,by simp [l'],pa.2.1,pk.2.1,(s1.2 a Nu.symm).trans pa.1,Ig⟩
  rw[show (kA.push w).toList=kA.toList++[w] by simp]
  exact v'.append (.cons rk .nil)
 ·rintro s' ⟨ks,kA,e,H',I',w',v',l',S8,V8,V9,Iv⟩
  simp only [Nat.zero_add] at l' w'
  refine za (listItems_at Iv rfl ?_)
  have eA:kA=kA.toList.toArray:=by simp
  have good:=G ks kA.toList H' w' v' l'
  have hl:kA.toList.length=vs.length:=by
   have h1:ks.length=kA.toList.length:=v'.length
   omega
  rw[eA] at Iv
  show wpAny _ _ (ksk_end a b vs.toArray e1 (.ref kS) kA) _ _ _
  rw[eA]
  refine Nv (κ:=κ) hO Iv V9 Nu hl h64 good.all good.kind fun h' c g out k1 k2 k3 k4=>?_
  exact h _ H' ks kA.toList c g out (I'.Jh (t':=s'.toks) k1 S8 V8 Aa Ak) S8 k2 w' v' l' k3 k4
theorem sX (hO:κ.OneLt) (I:Inv X pins σ H s) (hl:jH X.K H l xs) (h64:xs.length<64) (S9:argsOk "sorted" ⟨[.ref l],kw⟩) (S_:∀ x,argsOk "list.sort" ⟨[.ref x],kw⟩) (ht:∀ x,Builtin.«list.sort» ⟨[.ref x],kw⟩=ksk_tree x (.ref f) b)
  (T:FC X pins σ A.in1.in1 f xs W) (w0:W 0 [] H) (G:∀ ks us H',W xs.length ks H'→Vals ks us→ks.length=xs.length→K0 κ us)
  (h:∀ H' ks us g D,W xs.length ks H'→Vals ks us→ks.length=xs.length→SY κ b (iK κ us) xs.length g→H' D=none→Q (.ref D) (upd H' D (.lst ((List.range xs.length).map fun k=>xs.getD (g k) .au)))) :
  wpAny (model X.prog X.w) A (call (.builtin "sorted") [.ref l] kw) (EP X pins σ Q) E s:=by
 obtain⟨vs,hv,pl,_⟩:=I.list hl
 have OV:xs.length=vs.length:=hv.length
 rw[OV] at h64 G h
 refine call_function_entry_kw kind_sorted plain_sorted entry_sorted S9 ?_
 unfold Builtin.«sorted»
 refine za (m:=checkCount "sorted" 1 1 _) (zi ?_)
 refine za (collect_list pl.isList ?_ (by rw[zR];omega))
 refine za (wpAny_newList ?_ (by rw[zR];omega))
 have hsz:((s.heap.push (seqObj "list" #[] 0)).update s.heap.objs.size (Obj.mapSeq (·++vs.toArray))).objs.size=s.heap.objs.size+1:=by rw[Heap.size_update,size_push']
 have Eb:(((s.heap.push (seqObj "list" #[] 0)).update s.heap.objs.size (Obj.mapSeq (·++vs.toArray))).push (seqObj "list" vs.toArray 0)).get? (s.heap.objs.size+1)=some (seqObj "list" vs.toArray 0):=by
  rw[← hsz];exact zm _ rfl
 have keep:∀ b o,s.heap.get? b=some o→(((s.heap.push (seqObj "list" #[] 0)).update s.heap.objs.size (Obj.mapSeq (·++vs.toArray))).push (seqObj "list" vs.toArray 0)).get? b=some o:=fun b o q=>by
  have fu:b<s.heap.objs.size:=zq q
  rw[Heap.get?_push_ne _ _ _ (by rw[hsz];exact zw (Nat.lt_succ_of_lt fu)),Heap.get?_update_ne _ _ _ _ (zw fu),Heap.get?_push_ne _ _ _ (zw fu)]
  exact q
 show wpAny _ _ _ _ _ { s with heap:=((s.heap.push (seqObj "list" #[] 0)).update s.heap.objs.size (Obj.mapSeq (·++vs.toArray))).push (seqObj "list" vs.toArray 0) }
 rw[hsz]
 generalize hg:((s.heap.push (seqObj "list" #[] 0)).update s.heap.objs.size (Obj.mapSeq (·++vs.toArray))).push (seqObj "list" vs.toArray 0)=h1 at Eb keep ⊢
 have I1:Inv X pins σ H { s with heap:=h1 }:=I.kept (t':=s.toks) keep
 have Aa:KZ X pins (s.heap.objs.size+1):=I.S7 (yI _)
 have na:H (s.heap.objs.size+1)=none:=I.aM.fresh (yI _)
 generalize s.heap.objs.size+1=a at Eb Aa na ⊢
 refine za (yy (wpAny_call_entry_kw slot_list_sort ⟨_,Eb,rfl⟩ entry_list_sort ?_ (S_ _)))
 show wpAny (model X.prog X.w) A.in1.in1 (Builtin.«list.sort» ⟨[.ref a],kw⟩) _ _ _
 rw[ht a]
 have s1:=yq h1 a (Obj.mapSeq fun _=>(#[]:Array Value))
 obtain⟨e1,Ji⟩:∃ e1,(h1.update a (Obj.mapSeq fun _=>(#[]:Array Value))).get? a=some (seqObj "list" #[] e1):=⟨_,get?_update_seq Eb fun _=>#[]⟩
 have I2:Inv X pins σ H { s with heap:=h1.update a (Obj.mapSeq fun _=>(#[]:Array Value)) }:=Inv.turned (s:={ s with heap:=h1 }) (h':=h1.update a (Obj.mapSeq fun _=>(#[]:Array Value))) (t':=s.toks) (it:=a) I1 (fun b o hb q=>(s1.2 b hb).trans q) na Aa.loc (.inr Aa.new) Aa.cell Aa.pin
 unfold ksk_tree
 refine za (listItems_at Eb rfl ?_)
 refine za (listUpdate_at Eb rfl ?_ (by rw[zj,zR];omega) (ya _))
 refine za (seqEpoch_at Ji rfl ?_)
 refine za (wpAny_newTuple ?_ (by show vs.length≤_;rw[zR];omega))
 refine za (wpAny_newList ?_ (ya _))
 refine yy ?_
 generalize h1.update a (Obj.mapSeq fun _=>(#[]:Array Value))=h2 at Ji I2 ⊢
 have k3:∀ b u,h2.get? b=some u→((h2.push (seqObj "tuple" vs.toArray 0)).push (seqObj "list" #[] 0)).get? b=some u:=fun b u q=>zc _ (zc _ q)
 have I3:Inv X pins σ H { s with heap:=(h2.push (seqObj "tuple" vs.toArray 0)).push (seqObj "list" #[] 0) }:=I2.kept (t':=s.toks) k3
 have xr:h2.objs.size≤(h2.push (seqObj "tuple" vs.toArray 0)).objs.size:=by rw[size_push'];exact yI _
 refine C2 (s:={ s with heap:=(h2.push (seqObj "tuple" vs.toArray 0)).push (seqObj "list" #[] 0) }) (kS:=(h2.push (seqObj "tuple" vs.toArray 0)).objs.size) hO I3 (k3 _ _ Ji) (zm _ rfl) (yi (zk (zq Ji) xr)) na (I2.aM.fresh xr) Aa (I2.S7 xr) hv h64 T w0 G fun s' H' ks us c g out J n1 o1 w1 v1 l1 q1 q2=>⟨.none,rfl,?_⟩
 refine zi ⟨_,rfl,.ref a,_,J.Rb (o:=.lst ((List.range vs.length).map fun k=>xs.getD (g k) .au)) n1 Aa ⟨?_,out.toList,c,?_,?_⟩,rfl,h H' ks us g a w1 v1 l1 q1 n1⟩
 ·rw[zb,List.length_range,zR];omega
 ·rw[q2]
  have:∀ (ns:List Nat),(∀ k∈ns,g k<vs.length)→Vals (ns.map fun k=>xs.getD (g k) .au) (ns.map fun k=>vs.getD (g k) .none):=fun ns=>by
   induction ns with
   | nil=>exact fun _=>.nil
   | cons k ns ih =>
    intro hk
    have V_:=hk k zx
    obtain⟨y,hy⟩:∃ y,xs[g k]?=some y:=⟨_,zg (by omega)⟩
    obtain⟨u,hu,ru⟩:=hv.get hy
    refine .cons ?_ (ih fun k fW=>hk k (zh _ fW))
    show RelV (xs.getD (g k) .au) (vs.getD (g k) .none)
    rw[zC,hy,zC,hu]
    exact ru
  exact this _ fun k hk=>q1.lt k (zS.mp hk)
 ·rw[o1]
end
def Bm (mg:Str→Option Value) (base:Heap):Prop:=∃ bm o,mg "__builtins__" = some (.ref bm)∧bm≠builtinsNs∧base.get? bm=some o∧o.cls=.type "module" ∧ o.dict=some builtinsNs∧o.data=.plain
structure Wa (K:PySem.W.Frag) (mg:Str→Option Value) (base:Heap) (c P:Addr):Prop where
 hd:codeHdIn K c P=true
 bm:Bm mg base
theorem y4 {pos p2:Pos}{c cv:Value} (l:List Value) (h:TriplesOk l) (e:codeAmong pos (l++[rawInt p2.line,rawInt p2.col,c])=some cv):codeAmong pos l=some cv∨cv=c:=by
 fun_induction TriplesOk l with
 | case1 =>
  simp only [List.nil_append,rawInt,codeAmong] at e
  split at e
  ·cases e;exact .inr rfl
  ·cases e
 | case2 a t b u x rest ih =>
  simp only [List.cons_append,codeAmong] at e ⊢
  split at e
  ·rename_i hc;rw[if_pos hc];exact .inl e
  ·rename_i hc;rw[if_neg hc];exact ih h e
 | case3 l h1 h2=>exact h.elim
section
variable {X:Cx}{pins:List (Addr×Obj)}{σ:St}{H:Hp}{s:Shared}
theorem Inv.tab {h':Heap}{tk:Nat}{P c:Addr}{ps OW:Array Value}{oc fo:Obj} (I:Inv X pins σ H s) (hP:H P=some (.oR ps)) (hx:Heap.ExtBut P s.heap h') (h1:s.heap.objs.size≤c) (h2:c<h'.objs.size) (hc:h'.get? c=some oc) (hp:h'.get? P=some (tabObj (ps++OW))) :
  Inv X pins σ (upd (upd H P (.oR (ps++OW))) c (.kB oc (.own 0))) { s with heap:=h'.push fo,toks:=tk }:=by
 have X9:c≠P:=fun z=>absurd (zk (I.aM.lt hP) (z ▸ h1)) (yx _)
 have nc:H c=none:=I.aM.fresh h1
 have other:∀ b,b≠P→b≠c→upd (upd H P (.oR (ps++OW))) c (.kB oc (.own 0)) b=H b:=fun b z1 z2=>by rw[av z2,av z1]
 have nP:∀ b o,H b=some o→(∀ q,o≠.oR q)→b≠P:=fun b o e z q=>by rw[q,hP] at e;cases e;exact z _ rfl
 have Wb:∀ b,H b=none→b≠P:=fun b e q=>by rw[q,hP] at e;cases e
 have lt:∀ b o,s.heap.get? b=some o→b≠c:=fun b o e=>zw (zk (zq e) h1)
 refine I.un (h':=h'.push fo) ⟨fun b o e n _ _=>zc _ (hx b o (Wb b n) e),fun b o e n _ _=>⟨o.slots,zc _ (hx b o (Wb b n) e)⟩,fun b o e n _=>by rw[other b (Wb b n) (lt b o e)];exact n,fun b o e _=>?_,fun b xs e=>by rw[other b (nP b _ e fun _=>nofun) (aC e nc)];exact e,fun b o u e=>by rw[other b (nP b _ e fun _=>nofun) (aC e nc)];exact e,fun b q e=>?_⟩ fun b u e=>?_
 ·by_cases hb:b=P
  ·rw[hb];exact⟨_,zc _ hp⟩
  ·exact⟨o,zc _ (hx b o hb e)⟩
 ·by_cases hb:b=P
  ·subst hb
   rw[hP] at e;cases e
   exact⟨OW,by rw[av (Ne.symm X9),aF]⟩
  ·exact⟨#[],by rw[other b hb (aC e nc),e];simp⟩
 ·by_cases OX:b=c
  ·subst OX
   rw[aF] at e;cases e
   exact⟨zc _ hc,_,zc _ hc⟩
  ·rw[av OX] at e
   by_cases hb:b=P
   ·subst hb
    rw[aF] at e;cases e
    exact zc _ hp
   ·rw[av hb] at e
    refine (I.aM b u e).oj (fun d v hd q=>?_) (fun d q=>by rw[other d (nP d _ q fun _=>nofun) (aC q nc)];exact q) fun d xs q=>by rw[other d (nP d _ q fun _=>nofun) (aC q nc)];exact q
    rcases hd with rfl | hd
    ·exact zc _ (hx d v hb q)
    ·exact zc _ (hx d v (nP d _ hd fun _=>nofun) q)
theorem Inv.By (I:Inv X pins σ H s) (ho:s.heap.get? f=some o) (hn:H f=none) (A:KZ X pins f) (d:∀ v,o.data≠.cell v):Inv X (pins++[(f,o)]) σ H s:=by
 refine⟨I.ok,I.os,I.bare,I.base,I.loc,I.cell,I.free,I.fY,fun p hp=>?_,I.aM,I.len⟩
 rcases zI.mp hp with hp | hp
 ·exact I.pin p (z0 _ hp)
 ·rcases zI.mp hp with hp | hp
  ·exact I.pin p (zA _ hp)
  ·rw[zH.mp hp];exact⟨ho,hn,A.loc,A.fs,d⟩
structure Rf (X:Cx) (pins:List (Addr×Obj)) (σ:St) (H H':Hp) (P:Addr) (q:Str) (params:Arguments) (body:Expr) (scope:Scope) (u:Value) (s':Shared) (f:Addr) (pm cv lF:Value):Prop where
 u:u=.ref f
 inv:Inv X (pins++[(f,vU X q params body scope pm cv lF)]) σ H' s'
 code:∃ c o vs t,cv=.ref c∧H' c=some (.kB o (.own 0))∧o.data=.fields vs∧vs[1]?=some (.str q t)
 same:∀ b,H' b=H b∨(b=P∧∃ ps,H' b=some (.oR ps)∧Bp H' q ps)∨(H b=none∧∃ o,H' b=some (.kB o (.own 0)))
theorem vW {M:Model}{A:Around}{E:Value→Shared→Prop}{N:List Str}{src:List (Option Nat)}{scope:Scope}{params:Arguments}{body:Expr}{pos:Pos}{c P:Addr}{q:Str}{ps:Array Value}{Q:Value→Shared→Prop} (I:Inv X pins σ H s) (S:bM X N src scope) (nY:X.env.code=.ref c) (mk:Wa X.K X.mg X.base c P)
  (hP:H P=some (.oR ps)) (ok:Bp H q ps) (hq:X.env.qual ++ "<lambda>" = q) (FD:defaultsOf params X.env=([],[]))
  (h:∀ u s' H' f pm cv lF,Rf X pins σ H H' P q params body scope u s' f pm cv lF→Q u s'):wpAny M A (eval (.Lambda params body scope pos) X.env) Q E s:=by
 have Cz:closureFor scope X.env=pure (clOf X.env.cells scope.names):=gw fun y hy hf=>I.ok.has y.1 (S.xV y hy hf)
 have Tc:s.heap.get? P=some (tabObj ps):=I.aM P _ hP
 have hg:s.heap.Ns mainGlobals X.mg:=I.mod.glob.keeps I.bk
 have hC:=codeHd_of_K I.nO mk.hd
 obtain⟨bm,ob,b1,b2,b3,b4,b5,b6⟩:=mk.bm
 have Td:s.heap.get? bm=some ob:=I.bk _ _ b3
 have Z4:mainGlobals≠P:=fun z=>by
  obtain⟨o,es,ep,e,d,_⟩:=id hg
  rw[z,Tc] at e;cases e;cases d
 have Z5:bm≠mainGlobals:=fun z=>by
  obtain⟨o,es,ep,e,d,_⟩:=id hg
  rw[← z,Td] at e;cases e;rw[b6] at d;cases d
 have Z6:bm≠P:=fun z=>by rw[z,Tc] at Td;cases Td;cases b4
 have hB:s.heap.BuiltinsAt X.mg P:=⟨bm,ob,b1,b2,Z5,Z6,Td,b4,b5,b6⟩
 have hqs:H P≠none:=by rw[hP];nofun
 refine PySem.W.kla_eval FD ?_
 rw[hq]
 cases hf:codeAmong pos ps.toList with
 | none =>
  refine PySem.W.kla_makeFunction Cz I.ok.glob hg nY hC Tc ok.1 hf Z4 hB fun c' lF h' tk hx h1 h2 hr hp=>?_
  obtain⟨c2,oc,vs,t,e2,Sh,hd,hv⟩:=hr
  cases e2
  have J:=I.tab (tk:=tk) (fo:=vU X q params body scope ((X.mg "__name__").getD .none) (.ref c') lF) hP hx h1 h2 Sh hp
  have X9:c'≠P:=fun z=>absurd (zk (I.aM.lt hP) (z ▸ h1)) (yx _)
  have nc:H c'=none:=I.aM.fresh h1
  have fresh:∀ b,h'.objs.size≤b→upd (upd H P (.oR (ps++#[rawInt pos.line,rawInt pos.col,.ref c']))) c' (.kB oc (.own 0)) b=none:=fun b hb=>by
   have Ed:s.heap.objs.size≤b:=zG (zG h1 (yE h2)) hb
   rw[av (yi (zk h2 hb)),av (yi (zk (I.aM.lt hP) Ed))]
   exact I.aM.fresh Ed
  have hsz:s.heap.objs.size≤h'.objs.size:=zG h1 (yE h2)
  refine h _ _ _ h'.objs.size _ _ _ ⟨rfl,J.By (zm _ rfl) (fresh _ (zl _)) (I.S7 hsz) (fun v z=>nomatch z),⟨c',oc,vs,t,rfl,aF,hd,hv⟩,fun b=>?_⟩
  by_cases OX:b=c'
  ·subst OX;exact .inr (.inr ⟨nc,oc,aF⟩)
  ·by_cases hb:b=P
   ·subst hb
    refine .inr (.inl ⟨rfl,_,by rw[av OX,aF],?_,fun p2 cv e=>?_⟩)
    ·rw[Array.toList_append];exact TriplesOk_snoc _ _ _ _ ok.1
    ·rw[Array.toList_append] at e
     rcases y4 _ ok.1 e with e | e
     ·obtain⟨d,o,ws,t2,z1,z2,z3⟩:=ok.2 p2 cv e
      exact⟨d,o,ws,t2,z1,by rw[av (aC z2 nc),av (fun z=>by rw[z,hP] at z2;cases z2)];exact z2,z3⟩
     ·exact⟨c',oc,vs,t,e,aF,hd,hv⟩
   ·exact .inl (by rw[av OX,av hb])
 | some cv =>
  refine PySem.W.kla_makeFunctionHit Cz I.ok.glob hg nY hC Tc ok.1 hf hB fun lF h' tk hk hsz=>?_
  have J:Inv X pins σ H { s with heap:=h'.push (vU X q params body scope ((X.mg "__name__").getD .none) cv lF),toks:=tk }:=I.kept fun b u e=>zc _ (hk b u e)
  exact h _ _ _ h'.objs.size _ _ _ ⟨rfl,J.By (zm _ rfl) (I.aM.fresh hsz) (I.S7 hsz) (fun v z=>nomatch z),ok.2 pos cv hf,fun b=>.inl rfl⟩
end
def Rh:D→D→Prop
 | .int a,.int b=>a<b
 | .str a,.str b=>a.cps.toList<b.cps.toList
 | _,_=>False
def vX (ks:List D):Prop:=(∃ zs:List Str,ks=zs.map D.str)∨∃ ns:List Int,ks=ns.map D.int
structure Nw (b:Bool) (key:Nat→D) (n:Nat) (g:Nat→Nat):Prop where
 lt:∀ k,k<n→g k<n
 inj:∀ i j,i<n→j<n→g i=g j→i=j
 ord:∀ i j,i<j→j<n→(if b=true then Rh (key (g j)) (key (g i)) else Rh (key (g i)) (key (g j)))∨(key (g i)=key (g j)∧g i<g j)
def vY (b:Bool) (P:Addr) (q:Str) (src:List (Option Nat)) (te:TD) (σ:SD) (R:KD) (d:D) (S1:aT):Prop:=∃ (l:Addr) (xs:List D) (f:D→D),d=.ref l∧S1 l=some (.lst xs)∧xs.length<64∧S1 P=some (.tab q)∧vX (xs.map f) ∧
 (∀ x,x∈xs→∀ S',Sub S1 S'→∀ Qk:KD,(∀ S2,Sub S' S2→Qk (f x) S2)→te ((nW σ src).set 0 (some x)) S' Qk Zf) ∧
 ∀ g S2 p,Nw b (fun j=>f (xs.getD j .au)) xs.length g→Sub S1 S2→S2 p=none→R (.ref p) (S2.set p (.lst ((List.range xs.length).map fun k=>xs.getD (g k) .au)))
def K1 (b:Bool) (P:Addr) (q:Str) (src:List (Option Nat)) (tl te:TD):TD:=fun σ S R Z=>tl σ S (fun d S1=>vY b P q src te σ R d S1) Z
def FE (F:D→aT→Prop):List D→aT→Prop
 | [d],S=>F d S
 | _,_=>False
theorem Bz {F:D→aT→Prop}{ds:List D}{S:aT} (h:FE F ds S):∃ d,ds=[d]∧F d S:=by
 match ds,h with
 | [d],h=>exact⟨d,rfl,h⟩
theorem p_:∀ {ss:List Int}{ax:List Value},Vals (ss.map V.int) ax→IntsAre ax ss
 | [],_,.nil=>.nil
 | z :: ss,_,.cons r t=>by
  obtain⟨tk,rfl⟩:=r
  exact .cons z tk (p_ t)
theorem qc:∀ {us:List Value}{zs:List Str},StrsAre us zs→∀ j,j<zs.length→iK strKind us j=(zs.getD j "").cps.toList
 | _,_,.cons z t h,0,_=>rfl
 | _,_,.cons z t h,j+1,hj=>by
  have:=qc h j (by simpa using hj)
  unfold iK at this ⊢
  rw[List.getD_cons_succ,List.getD_cons_succ]
  exact this
theorem qd:∀ {us:List Value}{zs:List Int},IntsAre us zs→∀ j,j<zs.length→iK intK us j=zs.getD j 0
 | _,_,.cons z t h,0,_=>rfl
 | _,_,.cons z t h,j+1,hj=>by
  have:=qd h j (by simpa using hj)
  unfold iK at this ⊢
  rw[List.getD_cons_succ,List.getD_cons_succ]
  exact this
theorem FF (h:StrsAre us zs):∀ u∈us,∃ x,strKind.keyOf u=some x:=by
 induction h with
 | nil=>intro u hu;cases hu
 | cons z t h ih =>
  intro u hu
  rcases zf.mp hu with rfl | hu
  ·exact⟨_,rfl⟩
  ·exact ih u hu
theorem FG (h:IntsAre us zs):∀ u∈us,∃ x,intK.keyOf u=some x:=by
 induction h with
 | nil=>intro u hu;cases hu
 | cons z t h ih =>
  intro u hu
  rcases zf.mp hu with rfl | hu
  ·exact⟨_,rfl⟩
  ·exact ih u hu
theorem FH {xs:List D}{f:D→D}{j:Nat} (hj:j<xs.length):(xs.map f)[j]?=some (f (xs.getD j .au)):=by
 rw[zp,zC,zg hj];rfl
theorem uh {K:PySem.W.Frag}{H:Hp}{ds:List D}{xs:List V} (h:RvAll K H ds xs) (g:Nat→Nat):∀ (ns:List Nat),(∀ k∈ns,g k<ds.length)→RvAll K H (ns.map fun k=>ds.getD (g k) .au) (ns.map fun k=>xs.getD (g k) .au)
 | [],_=>bG
 | k :: ns,hk=>by
  have V_:=hk k zx
  obtain⟨v,e,r⟩:=h.get (zg V_)
  refine aW ?_ (uh h g ns fun k fW=>hk k (zh _ fW))
  show Rv K H (ds.getD (g k) .au) (xs.getD (g k) .au)
  rw[zC,zg V_,zC,e]
  exact r
section
variable {K:PySem.W.Frag}{Y:Cx}{pins:List (Addr×Obj)}{τ:St}{H H2:Hp}{s:Shared}{N:List Str}{src:List (Option Nat)}{scope:Scope}{params:Arguments}{body:Expr}{q p:Str}{pm cv lF:Value}{f l:Addr}{te:TD}{b:Bool}{kw:List (Str×Value)}{k:Nat}
theorem vZ {σ:SD}{S1:aT}{xs:List D}{fD:D→D}{Q:VK}{R:KD}{E:Value→Shared→Prop} (I:Inv Y (pins++[(f,vU Y q params body scope pm cv lF)]) τ H s) (hK:Y.K=K) (Ri:Y.calm=true) (hr:cI k Y.A) (nY:∃ c o vs t,cv=.ref c∧H c=some (.kB o (.own 0))∧o.data=.fields vs∧vs[1]?=some (.str q t))
  (CS:bM Y N src scope) (Jf:N[0]?=some p) (hp:scope.names.lookup p=some .local) (h0:src[0]?=some none) (IM:scope.isCoroutine=false) (y3:scope.isGenerator=false)
  (hb:∀ cl pm cv lF u,bindArgs (kla_fn "<lambda>" q params body scope cl pm cv lF) ⟨[u],[]⟩=pure [(p,u)]) (he:∀ cv s H,DE K (OU Y N q scope f cv Y.A.in1.in1 s H) body te)
  (aB:h_ K H σ τ) (hS:Rs K S1 H) (hl:S1 l=some (.lst xs)) (h64:xs.length<64) (kd:vX (xs.map fD))
  (step:∀ x,x∈xs→∀ S',Sub S1 S'→∀ Qk:KD,(∀ S2,Sub S' S2→Qk (fD x) S2)→te ((nW σ src).set 0 (some x)) S' Qk Zf)
  (hR:Cn K H R Q) (fin:∀ g S2 p,Nw b (fun j=>fD (xs.getD j .au)) xs.length g→Sub S1 S2→S2 p=none→R (.ref p) (S2.set p (.lst ((List.range xs.length).map fun k=>xs.getD (g k) .au))))
  (S9:argsOk "sorted" ⟨[.ref l],kw⟩) (S_:∀ x,argsOk "list.sort" ⟨[.ref x],kw⟩) (ht:∀ x,Builtin.«list.sort» ⟨[.ref x],kw⟩=ksk_tree x (.ref f) b) :
  wpAny (model Y.prog Y.w) Y.A (call (.builtin "sorted") [.ref l] kw) (EP Y pins τ Q) E s:=by
 subst hK
 obtain⟨vs,hv,rv⟩:=hS.lst hl
 have OV:vs.length=xs.length:=rv.len
 obtain⟨c,oc,ws,tk,Z7,hc,rh,Z8⟩:=nY
 have drop:∀ {u:Value}{s':Shared},EP Y (pins++[(f,vU Y q params body scope pm cv lF)]) τ Q u s'→EP Y pins τ Q u s':=fun ⟨v,H',J,r,q⟩=>⟨v,H',⟨J.ok,J.os,J.bare,J.base,J.loc,J.cell,J.free,J.fY,fun p hp=>J.pin p (by
  rcases zI.mp hp with z | z
  ·exact z0 _ z
  ·exact zA _ (z0 _ z)),J.aM,J.len⟩,r,q⟩
 have T:FC Y (pins++[(f,vU Y q params body scope pm cv lF)]) τ Y.A.in1.in1 f vs fun i ks H'=>∃ S',Sub S1 S'∧Rs Y.K S' H'∧Kp Y.K H H'∧RvAll Y.K H' ((xs.take i).map fD) ks:=by
  rintro i x u ks s' H' more I' ⟨S',sb,rs,kp,rk⟩ hx ru
  have hi:i<xs.length:=by have:=(zo.mp hx).1;omega
  obtain⟨v,e1,r1⟩:=rv.get (zg hi)
  rw[hx] at e1;cases e1
  have po:=(I'.pin (f,vU Y q params body scope pm cv lF) (zA _ (z0 _ (zA _ (by simp))))).1
  have Z9:s'.heap.CodeRec cv q:=⟨c,oc,ws,tk,Z7,(I'.aM c _ (kp.f _ _ _ hc)).1,rh,Z8⟩
  refine Fx (A:=Y.A.in1.in1) I' CS Jf hp h0 I'.ok.frames (I'.ok.hd Ri) (by have:=hr.dp;show Y.A.depth<_;omega) ru po Z9 IM y3 (hb _ _ _ _ _) ((he cv s' H').of (.none _ rfl)) ?_
  refine⟨_,S',fun kk S2=>kk=fD xs[i]∧Sub S' S2,Zf,((aB.ts kp).pick src).set 0 (Rv.ts kp _ r1),rs,step _ (List.getElem_mem hi) S' sb _ fun S2 h2=>⟨rfl,h2⟩,fun kk S2 v2 H2 ⟨e2,xp⟩ Rj xt SG=>?_,.f⟩
  subst e2
  refine⟨S2,sb.trans xp,xt,kp.trans SG,?_⟩
  rw[show xs.take (i+1)=xs.take i++[xs[i]] by rw[List.take_add_one,zg hi];rfl,zD]
  exact (RvAll.ts SG _ rk).app (aW Rj bG)
 have w0:∃ S',Sub S1 S'∧Rs Y.K S' H∧Kp Y.K H H∧RvAll Y.K H ((xs.take 0).map fD) []:=⟨S1,.refl _,hS,.refl _,by rw[List.take_zero];exact bG⟩
 have Sm:jH Y.K H l vs:=.of hv
 rcases kd with ⟨zs,ez⟩ | ⟨zs,ez⟩
 ·have Z_:zs.length=xs.length:=by have:=congrArg List.length ez;rw[zb,zb] at this;exact this.symm
  have ka:∀ j,j<xs.length→fD (xs.getD j .au)=.str (zs.getD j ""):=fun j hj=>by
   have e1:=FH (f:=fD) hj
   rw[ez,zp,zg (by omega)] at e1
   rw[zC (l:=zs),zg (by omega)]
   exact (zN e1).symm
  have kv:∀ ks us H',(∃ S',Sub S1 S'∧Rs Y.K S' H'∧Kp Y.K H H'∧RvAll Y.K H' ((xs.take vs.length).map fD) ks)→Vals ks us→StrsAre us zs:=fun ks us H' ⟨S',_,_,_,rk⟩ hu=>by
   rw[OV,yB,ez] at rk
   rw[rk.strs] at hu
   exact pY hu
  refine yz (sX (κ:=strKind) (Q:=Q) (b:=b) strKind_oneLt I Sm (by omega) S9 S_ ht T w0 (fun ks us H' w1 v1 l1=>⟨FF (kv ks us H' w1 v1),fun mO mP rest e=>keyKind_strs (by rw[← e];exact kv ks us H' w1 v1)⟩) fun H' ks us g D w1 v1 l1 sr hD=>?_) (fun u s' z=>drop z) fun _ _ z=>z
  have sk:=kv ks us H' w1 v1
  obtain⟨S',sb,rs,kp,rk⟩:=w1
  rw[OV] at sr ⊢
  refine (hR.kp kp).new rs hD (fun hp=>fin g S' D ⟨sr.lt,sr.inj,fun i j kM hj=>?_⟩ sb hp) (uh (RvAll.ts kp _ rv) g _ fun k hk=>sr.lt k (zS.mp hk))
  have h1:=sr.lt i (by omega)
  have h2:=sr.lt j hj
  have:=sr.ord i j kM hj
  rw[qc sk _ (by omega),qc sk _ (by omega)] at this
  rw[ka _ h1,ka _ h2]
  rcases this with z | ⟨z1,z2⟩
  ·left
   cases b with
   | false =>
    rw[if_neg zd] at z ⊢
    show (zs.getD (g i) "").cps.toList<(zs.getD (g j) "").cps.toList
    exact zE z
   | true =>
    rw[if_pos rfl] at z ⊢
    show (zs.getD (g j) "").cps.toList<(zs.getD (g i) "").cps.toList
    exact zE z
  ·exact .inr ⟨by rw[V3 z1],z2⟩
 ·have Z_:zs.length=xs.length:=by have:=congrArg List.length ez;rw[zb,zb] at this;exact this.symm
  have ka:∀ j,j<xs.length→fD (xs.getD j .au)=.int (zs.getD j 0):=fun j hj=>by
   have e1:=FH (f:=fD) hj
   rw[ez,zp,zg (by omega)] at e1
   rw[zC (l:=zs),zg (by omega)]
   exact (zN e1).symm
  have kv:∀ ks us H',(∃ S',Sub S1 S'∧Rs Y.K S' H'∧Kp Y.K H H'∧RvAll Y.K H' ((xs.take vs.length).map fD) ks)→Vals ks us→IntsAre us zs:=fun ks us H' ⟨S',_,_,_,rk⟩ hu=>by
   rw[OV,yB,ez] at rk
   rw[rk.ints] at hu
   exact p_ hu
  refine yz (sX (κ:=intK) (Q:=Q) (b:=b) Fy I Sm (by omega) S9 S_ ht T w0 (fun ks us H' w1 v1 l1=>⟨FG (kv ks us H' w1 v1),fun mO mP rest e=>keyKind_ints (by rw[← e];exact kv ks us H' w1 v1)⟩) fun H' ks us g D w1 v1 l1 sr hD=>?_) (fun u s' z=>drop z) fun _ _ z=>z
  have sk:=kv ks us H' w1 v1
  obtain⟨S',sb,rs,kp,rk⟩:=w1
  rw[OV] at sr ⊢
  refine (hR.kp kp).new rs hD (fun hp=>fin g S' D ⟨sr.lt,sr.inj,fun i j kM hj=>?_⟩ sb hp) (uh (RvAll.ts kp _ rv) g _ fun k hk=>sr.lt k (zS.mp hk))
  have h1:=sr.lt i (by omega)
  have h2:=sr.lt j hj
  have:=sr.ord i j kM hj
  rw[qd sk _ (by omega),qd sk _ (by omega)] at this
  rw[ka _ h1,ka _ h2]
  rcases this with z | ⟨z1,z2⟩
  ·left
   cases b with
   | false =>
    rw[if_neg zd] at z ⊢
    show zs.getD (g i) 0<zs.getD (g j) 0
    exact zE z
   | true =>
    rw[if_pos rfl] at z ⊢
    show zs.getD (g j) 0<zs.getD (g i) 0
    exact zE z
  ·exact .inr ⟨by rw[z1],z2⟩
end
section
variable {K:PySem.W.Frag}{X:Cx}{N:List Str}{src:List (Option Nat)}{scope:Scope}{params:Arguments}{e body:Expr}{q p x:Str}{np pos lp kq kq2 cp:Pos}{ci}{tl te:TD}{k:Nat}{c P:Addr}
theorem Rf.kp {pins:List (Addr×Obj)}{τ:St}{H H':Hp}{u:Value}{s':Shared}{f:Addr}{pm cv lF:Value}{Y:Cx} (L:Rf Y pins τ H H' P q params body scope u s' f pm cv lF) {ps:Array Value} (hP:H P=some (.oR ps)):Kp K H H':=.of fun b o e=>by
 rcases L.same b with z | ⟨z,_⟩ | ⟨z,_⟩
 ·exact .inl (by rw[z];exact e)
 ·rw[z,hP] at e;cases e;exact .inr ⟨fun _=>nofun,fun _ _=>nofun⟩
 ·rw[z] at e;cases e
theorem Rf.rs {pins:List (Addr×Obj)}{τ:St}{H H':Hp}{u:Value}{s':Shared}{f:Addr}{pm cv lF:Value}{Y:Cx}{S:aT} (L:Rf Y pins τ H H' P q params body scope u s' f pm cv lF) (hS:Rs K S H) (ht:S P=some (.tab q)):Rs K S H':=fun b x hb=>by
 obtain⟨ps,hP,_⟩:=hS P _ ht
 have kp:Kp K H H':=L.kp hP
 rcases L.same b with z | ⟨rfl,OW,z1,z2⟩ | ⟨z,_⟩
 ·exact (hS b x hb).keep (fun o e=>by rw[z];exact e) kp
 ·rw[ht] at hb;cases hb;exact⟨OW,z1,z2⟩
 ·obtain⟨o,e,_⟩:=(hS b x hb).has;rw[z] at e;cases e
theorem Rk (nY:X.env.code=.ref c) (mk:Wa K X.mg X.base c P) (hr:cI k X.A) (CS:bM X N src scope) (hl:DE K X e tl) (he:∀ f cv s H,DE K (OU X N q scope f cv X.A.in1.in1 s H) body te) (hm:X.mg x=none) (hv:bootBuiltins x=some (.builtin "sorted"))
  (hq:X.env.qual ++ "<lambda>" = q:=by rfl) (Jf:N[0]?=some p:=by rfl) (hp:scope.names.lookup p=some .local:=by rfl) (h0:src[0]?=some none:=by rfl) (IM:scope.isCoroutine=false:=by rfl) (y3:scope.isGenerator=false:=by rfl)
  (hb:∀ cl pm cv lF u,bindArgs (kla_fn "<lambda>" q params body scope cl pm cv lF) ⟨[u],[]⟩=pure [(p,u)]:=by intro _ _ _ _ _;rfl) (FD:defaultsOf params X.env=([],[]):=by rfl) (hg:Gl X x:=by rfl) (hn:x ≠ "__name__" := by decide) (pA:(x == ("__debug__" : Str))=false:=by decide)
  (Wc:backTo pos (starEach [e] X.env)=(false,eval e X.env) :: backTo pos (starEach [] X.env):=by rfl) (gF:(backTo pos (starEach [e] X.env)).any (·.1)=false:=by rfl) (Wd:isPlain e=true:=by rfl) (hK:X.K=K:=by rfl) (hC:X.calm=true:=by rfl) :
  DE K X (.Call (.Name x np) [e] [⟨some "key",.Lambda params body scope lp,kq⟩] pos) (K1 false P q src tl te):=by
 subst hK
 refine⟨fun y=>?_⟩
 rintro pins s τ H Q I ⟨σ,S,R,Z,aB,hS,t,hR,hZ⟩
 refine wpAny_Call_Name_kw (g8 I hg hm hv ?_ hn pA)
 refine callWith_kw (br (((ac hl an Wd).of y) pos pins s τ H (fun vs H1=>∃ ds S1,FE (vY false P q src te σ R) ds S1∧RvAll X.K H1 ds vs∧Rs X.K S1 H1∧Kp X.K H H1) I ⟨σ,S,FE (vY false P q src te σ R),Z,aB,hS,t,fun ds S1 vs H1 r rv rs k1=>⟨ds,S1,r,rv,rs,k1⟩,hZ⟩) fun us s1 ⟨vs,H1,I1,r1,ds,S1,r,rv,rs,k1⟩=>?_) Wc gF
 obtain⟨d,rfl,l,xs,fD,rfl,el,h64,et,kd,step,fin⟩:=Bz r
 obtain⟨v,vs',rfl,M5,Rj⟩:=rv.cons
 cases Rj.nil
 cases M5.ref
 obtain⟨u,rfl,ru⟩:=vals1 r1
 cases ru
 obtain⟨ps,hP,aM⟩:=rs P _ et
 refine kws_cons (vW I1 ⟨CS.kind,CS.gx,CS.loc,CS.xV,CS.len,CS.src⟩ nY mk hP aM hq FD fun w s2 H2 f pm cv lF L=>?_)
 refine kws_nil ?_
 cases L.u
 have k2:Kp X.K H1 H2:=L.kp hP
 exact vZ L.inv rfl hC hr L.code ⟨CS.kind,CS.gx,CS.loc,CS.xV,CS.len,CS.src⟩ Jf hp h0 IM y3 hb (he f) ((aB.ts k1).ts k2) (L.rs rs et) el h64 kd step (hR.kp (k1.trans k2)) fin (ksk_s1 _ _) (fun x=>ksk_l1 _ _) fun x=>ksk_t1 _ _
theorem K2 (nY:X.env.code=.ref c) (mk:Wa K X.mg X.base c P) (hr:cI k X.A) (CS:bM X N src scope) (hl:DE K X e tl) (he:∀ f cv s H,DE K (OU X N q scope f cv X.A.in1.in1 s H) body te) (hm:X.mg x=none) (hv:bootBuiltins x=some (.builtin "sorted"))
  (hq:X.env.qual ++ "<lambda>" = q:=by rfl) (Jf:N[0]?=some p:=by rfl) (hp:scope.names.lookup p=some .local:=by rfl) (h0:src[0]?=some none:=by rfl) (IM:scope.isCoroutine=false:=by rfl) (y3:scope.isGenerator=false:=by rfl)
  (hb:∀ cl pm cv lF u,bindArgs (kla_fn "<lambda>" q params body scope cl pm cv lF) ⟨[u],[]⟩=pure [(p,u)]:=by intro _ _ _ _ _;rfl) (FD:defaultsOf params X.env=([],[]):=by rfl) (hg:Gl X x:=by rfl) (hn:x ≠ "__name__" := by decide) (pA:(x == ("__debug__" : Str))=false:=by decide)
  (Wc:backTo pos (starEach [e] X.env)=(false,eval e X.env) :: backTo pos (starEach [] X.env):=by rfl) (gF:(backTo pos (starEach [e] X.env)).any (·.1)=false:=by rfl) (Wd:isPlain e=true:=by rfl) (hK:X.K=K:=by rfl) (hC:X.calm=true:=by rfl) :
  DE K X (.Call (.Name x np) [e] [⟨some "key",.Lambda params body scope lp,kq⟩,⟨some "reverse",.Constant (.bool true) ci cp,kq2⟩] pos) (K1 true P q src tl te):=by
 subst hK
 refine⟨fun y=>?_⟩
 rintro pins s τ H Q I ⟨σ,S,R,Z,aB,hS,t,hR,hZ⟩
 refine wpAny_Call_Name_kw (g8 I hg hm hv ?_ hn pA)
 refine callWith_kw (br (((ac hl an Wd).of y) pos pins s τ H (fun vs H1=>∃ ds S1,FE (vY true P q src te σ R) ds S1∧RvAll X.K H1 ds vs∧Rs X.K S1 H1∧Kp X.K H H1) I ⟨σ,S,FE (vY true P q src te σ R),Z,aB,hS,t,fun ds S1 vs H1 r rv rs k1=>⟨ds,S1,r,rv,rs,k1⟩,hZ⟩) fun us s1 ⟨vs,H1,I1,r1,ds,S1,r,rv,rs,k1⟩=>?_) Wc gF
 obtain⟨d,rfl,l,xs,fD,rfl,el,h64,et,kd,step,fin⟩:=Bz r
 obtain⟨v,vs',rfl,M5,Rj⟩:=rv.cons
 cases Rj.nil
 cases M5.ref
 obtain⟨u,rfl,ru⟩:=vals1 r1
 cases ru
 obtain⟨ps,hP,aM⟩:=rs P _ et
 refine kws_cons (vW I1 ⟨CS.kind,CS.gx,CS.loc,CS.xV,CS.len,CS.src⟩ nY mk hP aM hq FD fun w s2 H2 f pm cv lF L=>?_)
 refine kws_cons (br (Kh (X:=y.cx) _ s2 τ H2 (fun v H'=>v=.bl true∧H'=H2) L.inv ⟨rfl,rfl⟩) fun w2 s3 ⟨v2,H3,I3,r3,e3,e4⟩=>?_)
 subst e3 e4
 obtain rfl:w2=Value.bool true:=r3
 refine kws_nil ?_
 cases L.u
 have k2:Kp X.K H1 H3:=L.kp hP
 exact vZ I3 rfl hC hr L.code ⟨CS.kind,CS.gx,CS.loc,CS.xV,CS.len,CS.src⟩ Jf hp h0 IM y3 hb (he f) ((aB.ts k1).ts k2) (L.rs rs et) el h64 kd step (hR.kp (k1.trans k2)) fin (ksk_s2 _ _ _) (fun x=>ksk_l2 _ _ _) fun x=>ksk_t2 _ _ _
end
section
variable {P:Program}{w:World}{K:PySem.W.Frag}{mg:Str→Option Value}{base:Heap}
theorem yY.X_ {x qual:Str}{st:Stmt}{f:Addr}{fd:FuncData}{N ps:List Str}{k:Nat}{sp:gG} (F:yY K x qual st f fd) (S:ai N ps (ae st)) (len:∀ ds S R Z,sp ds S R Z→ds.length=ps.length)
  (pz:∀ (bu:Value) (A:Around) (outer:List Env) (s:Shared) (H:Hp) (E:XK) (ds:List D) (S:aT) (R:KD) (Z:KX),bu=fd.code→cI k (A.deeper (envOfC qual (ae st) s.heap.objs.size f bu))→sp ds S R Z →
   ∃ t,Fi K (kF (g6 P w) P w K mg base N qual (ae st) f bu A outer s H E) true (bO st) t∧t { nx:=fun _ S'=>Fo S' (R .au),rt:=fun d S'=>Fo S' (R d) } (kL N ds) S fun _ C S'=>Fo S' (Z C)):cj P w K mg base (g6 P w) (k+1) f fd ps (t_ K sp):=by
 obtain⟨oc,od,dV,kV,doc,pm,an,bu,ct,Mn,rfl,lk,rh⟩:=F.ex
 have gF:ps.length≤N.length:=by have:=congrArg List.length S.pre;rw[ye] at this;omega
 refine Km lk rh S (by rintro vs H Q E ⟨ds,S',R,Z,v,_,h,_⟩;exact by rw[v.len];exact len _ _ _ _ h) fun A outer s H vs Q E hr ⟨ds,S',R,Z,v,hS,h,hR,hZ⟩=>?_
 obtain⟨t,ht,q⟩:=pz bu A outer s H E ds S' R Z rfl hr h
 have L:dk (kF (g6 P w) P w K mg base N qual (ae st) f bu A outer s H E) E:=sL
 let y:Ev (kF (g6 P w) P w K mg base N qual (ae st) f bu A outer s H E) true:=⟨_,(kF (g6 P w) P w K mg base N qual (ae st) f bu A outer s H E).xe,fun _=>E,⟨fun p2 τ H1 s1 e s' I h=>Kv L p2 τ H1 s1 e s' I h,fun _ p2 τ H1 s1 h' a cls args I hx he=>nV L I hx he,fun _=>PassesOwn.leaving⟩⟩
 refine⟨L2.Tl K (fun _=>E) t,ht.of y,kL N ds,S',_,fun _ C S'=>Fo S' (Z C),?_,hS,q,⟨by rintro σ S1 τ H1 ⟨S2,sb,r⟩ a b c;exact (hR.kp c).now (b.sub sb) r hU,by rintro d S1 v H1 ⟨S2,sb,r⟩ a b c;exact hR _ _ _ _ r a (b.sub sb) c,fun _ _ _ _ z=>z.elim,fun _ _ _ _ z=>z.elim⟩,by rintro σ τ C S1 H1 ⟨S2,sb,r⟩ a b c;exact hZ C S2 H1 r (b.sub sb) c⟩
 unfold kL start
 refine (pU v).app ?_
 rw[v.len]
 exact pT _ _ (by rw[List.length_replicate])
end
structure v5 (ts:List Addr) (H:Hp):Prop where
 all:∀ b,H b=none∨(∃ o xs,H b=some (.kB o (.lst xs)))∨(b∈ts∧H b=some (.oR #[]))
 tab:∀ b∈ts,H b=some (.oR #[])
theorem C3 {P:Program}{w:World}{K:PySem.W.Frag}{mg mb:Str→Option Value}{CX:xN}{k:Nat}{fa a:Addr}{fd:FuncData}{x:Str}{sp:Sp}{bb:Shared}{vs:List Value}{ns:List Int}{ts:List Addr}
  (KX:K.In bb.heap) (KY:bb.heap.Ns mainGlobals mg) (hb:bb.heap.Ns builtinsNs mb) (hbb:∀ x:Str,x ≠ "__name__" → mb x=bootBuiltins x) (We:bb.heap.NoLimit) (hbm:Bm mg bb.heap) (hg:bb.gens=#[])
  (hT:∀ b∈ts,bb.heap.get? b=some (tabObj #[])) (hC:∀ b∈ts,isCodeTable bb.heap b) (hN:∀ b∈ts,K.lookup b=none)
  (ha:bb.heap.get? a=some { cls:=.type "list",data:=.seq vs.toArray }) (hi:IntsAre vs ns) (hl:ns.length≤sizeLine) (hr:cI k callerA)
  (F:∀ base:Heap,Bm mg base→K.In base→base.Ns mainGlobals mg→cj P w K mg base CX k fa fd [x] sp) (Rl:∀ (s:Shared) (u:Value),BindsTo s fd ⟨[u],[]⟩ [(x,u)])
  (OA:∀ H:Hp,v5 ts H→jH K H a (ns.map V.int)→sp [.ref a] H (fun v _=>v=.bl true) fun _ _ _=>False)
  (Wf:∀ H e s',CX [] H bb (fun _ _ _=>False) e s'→False) :
  codeAny (model P w) callerA (.call (.ref fa) ⟨[.ref a],[]⟩) (fun r s'=>r=.ok (.ret (.bool true))∧OldK bb.heap s'.heap∧s'.os=bb.os∧AllBare s'.gens) bb:=by
 have rv:=sH hi
 have Wh:=hi.length
 have SR:a∉ts:=fun z=>by rw[hT a z] at ha;cases ha
 have core:∀ H:Hp,v5 ts H→jH K H a (ns.map V.int)→kC P w H bb.heap→(∀ b,H b≠none→b=a∨b∈ts)→(H a≠none→K.lookup a=none) →
   codeAny (model P w) callerA (.call (.ref fa) ⟨[.ref a],[]⟩) (fun r s'=>r=.ok (.ret (.bool true))∧OldK bb.heap s'.heap∧s'.os=bb.os∧AllBare s'.gens) bb:=by
  intro H hO hS aM hA hK
  have uk:∀ {b:Addr}{o:Obj},bb.heap.get? b=some o→H b=none→(rC bb.heap H).get? b=some o:=fun e n=>El e n
  have Ie:∀ {b:Addr}{o:Obj}{es:Array DictEntry}{ep:Nat},bb.heap.get? b=some o→o.data=.dict es ep→H b=none:=fun {b o es ep} e d=>by
   cases q:H b with
   | none=>rfl
   | some u =>
    rcases hA b (by rw[q];simp) with e' | e'
    ·subst e'
     rw[ha] at e;cases e
     have d':Data.seq vs.toArray _=Data.dict es ep:=d
     cases d'
    ·rw[hT b e'] at e;cases e;cases d
  have Te:∀ {b:Addr}{m:Str→Option Value},bb.heap.Ns b m→(rC bb.heap H).Ns b m:=fun {b m} ⟨o,es,ep,e,d,r⟩=>⟨o,es,ep,uk e (Ie e d),d,r⟩
  have Ya:K.In (rC bb.heap H):=fun b o e=>uk (KX b o e) (by
   cases q:H b with
   | none=>rfl
   | some u =>
    rcases hA b (by rw[q];simp) with e' | e'
    ·subst e'
     rw[hK (by rw[q];simp)] at e;cases e
    ·rw[hN b e'] at e;cases e)
  have hM:Mod K mg (rC bb.heap H):=⟨Ya,Te KY,⟨mb,Te hb,hbb⟩,by obtain⟨mc,h1,h2⟩:=We;exact⟨mc,Te h1,h2⟩⟩
  have e0:vn P w K mg (rC bb.heap H) callerA [] bb H:=⟨rfl,hM,fun b o e=>HJ e,Nat.le_of_eq (B9 _ _),trivial,fun b hb=>absurd (show b∈([]:List Addr) from hb) (by simp),aM,.of_eq hg⟩
  have hBm:Bm mg (rC bb.heap H):=by
   obtain⟨bm,ob,b1,b2,b3,b4,b5,b6⟩:=hbm
   refine⟨bm,ob,b1,b2,uk b3 ?_,b4,b5,b6⟩
   cases q:H bm with
   | none=>rfl
   | some u =>
    rcases hA bm (by rw[q];simp) with e' | e'
    ·rw[e',ha] at b3;cases b3;cases b6
    ·rw[hT bm e'] at b3;cases b3;cases b4
  refine yJ ((F _ hBm Ya (Te KY)).run callerA [] bb H ⟨[.ref a],[]⟩ [.ref a] [.ref a] _ _ hr e0 (Rl bb (.ref a)) (.cons rfl .nil) (OA H hO hS)) fun r s' h=>?_
  cases r with
  | error e=>exact (Wf H e s' h).elim
  | ok fl =>
   cases fl with
   | next=>exact False.elim h
   | brk=>exact False.elim h
   | cont=>exact False.elim h
   | ret u =>
    obtain⟨v,H',os,bare,un,Rm,r',q⟩:=h
    have q':v=.bl true:=q
    subst q'
    obtain rfl:u=Value.bool true:=r'
    refine⟨rfl,⟨fun b o e=>?_,fun b o e=>un.there b o e (by simp)⟩,os,bare⟩
    rcases hO.all b with z | ⟨ob,xs,z⟩ | ⟨z1,z⟩
    ·exact .inl (un.keep b o e z (by intro z;exact absurd (show b∈([]:List Addr) from z) (by simp)) (by simp))
    ·have z2:=un.kD b ob _ z
     obtain⟨e1,_⟩:=aM b _ z
     obtain⟨e2,_⟩:=Rm b _ z2
     rw[e] at e1;cases e1
     exact .inl e2
    ·obtain⟨more,z2⟩:=un.kE b _ z
     have e2:=hT b z1
     rw[e] at e2;cases e2
     exact .inr (.inl ⟨hC b z1,rfl,#[],more,rfl,by have:=Rm b _ z2;exact this⟩)
 have tabs:∀ (H:Hp),(∀ b,b∈ts→H b=some (.oR #[]))→∀ b u,b∈ts→H b=some u→bh P w H bb.heap b u:=fun H h b u hb e=>by
  rw[h b hb] at e;cases e;exact hT b hb
 cases hk:K.lookup a with
 | some o =>
  have e:=KX a o hk
  rw[ha] at e
  cases e
  refine core (fun b=>if b∈ts then some (.oR #[]) else none) ⟨fun b=>?_,fun b hb=>if_pos hb⟩ (.inr ⟨_,vs.toArray,_,hk,rfl,rfl,rfl,by rw[zj,Wh];exact hl,by simpa using rv⟩) (fun b u z=>?_) (fun b z=>?_) fun z=>absurd (if_neg SR) z
  ·by_cases hb:b∈ts
   ·exact .inr (.inr ⟨hb,if_pos hb⟩)
   ·exact .inl (if_neg hb)
  ·by_cases hb:b∈ts
   ·exact tabs _ (fun b hb=>if_pos hb) b u hb z
   ·have z':=(if_neg hb).symm.trans z;cases z'
  ·by_cases hb:b∈ts
   ·exact .inr hb
   ·exact absurd (if_neg hb) z
 | none =>
  refine core (fun b=>if b=a then some (.kB { cls:=.type "list",data:=.seq vs.toArray } (.lst (ns.map V.int))) else if b∈ts then some (.oR #[]) else none) ⟨fun b=>?_,fun b hb=>?_⟩ (.inl (.inr ⟨{ cls:=.type "list",data:=.seq vs.toArray },if_pos rfl⟩)) (fun b u z=>?_) (fun b z=>?_) fun _=>hk
  ·by_cases hb:b=a
   ·exact .inr (.inl ⟨_,_,if_pos hb⟩)
   ·by_cases oz:b∈ts
    ·exact .inr (.inr ⟨oz,(if_neg hb).trans (if_pos oz)⟩)
    ·exact .inl ((if_neg hb).trans (if_neg oz))
  ·have:b≠a:=fun z=>SR (z ▸ hb)
   exact (if_neg this).trans (if_pos hb)
  ·by_cases hb:b=a
   ·have z':=(if_pos hb).symm.trans z
    cases z'
    subst hb
    exact⟨ha,by rw[zb];exact hl,vs,_,rv,ha⟩
   ·have z':=(if_neg hb).symm.trans z
    by_cases oz:b∈ts
    ·have z2:=(if_pos oz).symm.trans z'
     cases z2
     exact hT b oz
    ·have z2:=(if_neg oz).symm.trans z'
     cases z2
  ·by_cases hb:b=a
   ·exact .inl hb
   ·by_cases oz:b∈ts
    ·exact .inr oz
    ·exact absurd ((if_neg hb).trans (if_neg oz)) z
theorem BA:∀ {K:PySem.W.Frag},b∉K.map (·.1)→K.lookup b=none
 | [],_=>rfl
 | (a,o) :: K,h=>by
  rw[zB,zf,not_or] at h
  rw[zT,show (b == a)=false from beq_false_of_ne h.1]
  exact BA h.2
theorem Jj {K:Params→PySem.W.Frag}{as:List Addr}{e:∀ P,as=(K P).map (·.1)}{ts:List Addr}{w:World}{h:Heap} (_:(PySem.W.kmHook K as e ts).says w h) (d:∀ b∈ts,b∉as):∀ b∈ts,(K w.params).lookup b=none:=fun b hb=>BA (by rw[← e];exact d b hb)
theorem FI {l:PySem.W.OpenLaw}{n k:Nat}{q:Program}{loose:List Str}{XP:(Str→Option Value)→Heap→Prop}{YP:World→Heap→Prop}{d:DefRec}{K:Params→PySem.W.Frag}{CX:xN}{x:Str}{ts:List Addr}
  (hn:l.most=some n) (Mg:n≤sizeLine) (UN:d.params.defaults=[]) (hr:cI k callerA)
  (hY:∀ (w:World) (h:Heap),YP w h→(K w.params).In h) (hT:∀ (w:World) (h:Heap),YP w h→∀ b∈ts,h.get? b=some (tabObj #[])) (hN:∀ (w:World) (h:Heap),YP w h→∀ b∈ts,(K w.params).lookup b=none)
  (F:∀ (w:World) (mg:Str→Option Value) (fa:Addr) (h:Heap),(K w.params).In h→h.Ns mainGlobals mg→mg d.name=some (.ref fa) →
   ∃ (fd:FuncData) (sp:Sp),(∀ b∈ts,∃ c,codeHdIn (K w.params) c b=true)∧(∀ (s:Shared) (u:Value),BindsTo s fd ⟨[u],[]⟩ [(x,u)]) ∧
    (∀ base:Heap,Bm mg base→(K w.params).In base→base.Ns mainGlobals mg→cj l.prog w (K w.params) mg base CX k fa fd [x] sp) ∧
    ∀ (H:Hp) (a:Addr) (ns:List Int),ns.length≤n→v5 ts H→jH (K w.params) H a (ns.map V.int)→sp [.ref a] H (fun v _=>v=.bl true) fun _ _ _=>False)
  (Wf:∀ (H:Hp) (s:Shared) (e:Value) (s':Shared),CX [] H s (fun _ _ _=>False) e s'→False) :
  PySem.W.WalkO q loose XP YP l.row.toRowW d [] (fun f vs=>PySem.call f vs):=by
 refine Att.vA hn UN fun w dj bb mg mb fa o pm cd doc a vs ns G Y ho hd rh MH MI hints hlen hg=>?_
 have KX:=hY w _ Y
 obtain⟨fd,sp,hC,hb,hF,OA⟩:=F w mg fa _ KX G.T.g MH
 have Yb:=hT w _ Y
 exact C3 KX G.T.g G.T.b G.T.builtins G.T.nolimit G.T.bmain hg Yb (fun b z=>by obtain⟨c,hc⟩:=hC b z;exact ((codeHd_of_K KX hc).tab (Yb b z)).isCodeTable) (hN w _ Y) MI hints (zG hlen Mg) hr hF hb (fun H hO hS=>OA H a ns hlen hO hS) fun H e s'=>Wf H bb e s'
namespace Rt
theorem own:Manifest.owners.lookup (String.ofList ['d','e','s','r','e','v','e','r'].reverse)=some Manifest.sig_reversed:=by kernel_rfl
theorem lS:Slot "reversed" "__next__" "reversed.__next__" := .of (owner := "reversed") (n := "__next__") (by rw[typeLookup_type,builtinLookup_eq_fast];kernel_rfl) (by decide +kernel) (by decide +kernel) (by decide +kernel) (by first | exact .inl (by decide +kernel) | exact .inr (by decide +kernel)) (by rw[isSubtype_type];kernel_rfl)
theorem BB:entryFor table "reversed.__next__" = some Builtin.«reversed.__next__»:=entryFor_of_tree (by kernel_rfl)
theorem BC (a:Value):argsOk "reversed.__next__" ⟨[a],[]⟩:=by
 unfold argsOk;rw[signature?_of (id := "reversed.__next__") (n:=['_','_','t','x','e','n','_','_']) (o:=['d','e','s','r','e','v','e','r']) (by kernel_rfl) own];kernel_rfl
theorem BD:Slot "reversed" "__iter__" "reversed.__iter__" := .of (owner := "reversed") (n := "__iter__") (by rw[typeLookup_type,builtinLookup_eq_fast];kernel_rfl) (by decide +kernel) (by decide +kernel) (by decide +kernel) (by first | exact .inl (by decide +kernel) | exact .inr (by decide +kernel)) (by rw[isSubtype_type];kernel_rfl)
theorem Jk (a:Value):argsOk "reversed.__iter__" ⟨[a],[]⟩:=by
 unfold argsOk;rw[signature?_of (id := "reversed.__iter__") (n:=['_','_','r','e','t','i','_','_']) (o:=['d','e','s','r','e','v','e','r']) (by kernel_rfl) own];kernel_rfl
theorem Jl:entryFor table "reversed.__iter__" = some Builtin.«dict_keyiterator.__iter__» :=
 entryFor_alias (id' := "dict_keyiterator.__iter__") (by kernel_rfl) (by first | rfl | decide +kernel | (unfold String.splitOn;simp +decide [String.splitOnAux])) (by decide +kernel) (by kernel_rfl)
theorem Jm:Slot "reversed" "__init__" "object.__init__" := .of (owner := "object") (n := "__init__") (by rw[typeLookup_type,builtinLookup_eq_fast];kernel_rfl) (by decide +kernel) (by decide +kernel) (by decide +kernel) (by first | exact .inl (by decide +kernel) | exact .inr (by decide +kernel)) (by rw[isSubtype_type];kernel_rfl)
theorem called:TypeCalled "reversed" "reversed.__new__" "object.__init__" := ⟨by decide +kernel,by decide +kernel,⟨_,_,F.mro_reversed⟩,F.made_reversed,by decide +kernel,by rw[isSubtype_type];kernel_rfl,Jm⟩
theorem Nx:typeLookup (.type "tuple") "__reversed__" = pure none:=by rw[typeLookup_type,builtinLookup_eq_fast];kernel_rfl
theorem BE:typeLookup (.type "tuple") "__getitem__" = pure (some (.builtin "tuple.__getitem__")):=by rw[typeLookup_type,builtinLookup_eq_fast];kernel_rfl
theorem Jn:isSubtype (.type "tuple") (.type "dict")=pure false:=by rw[isSubtype_type];kernel_rfl
end Rt
def v7 (l:Addr) (i:Int):Obj:={ cls:=.type "reversed",data:=.fields #[.ref l,rawInt i] }
def qe (h:Heap) (a l:Addr) (i:Int):Prop:=∃ o,h.get? a=some o∧o.cls=.type "reversed" ∧ o.data=.fields #[.ref l,rawInt i]
section
variable {prog:Program}{w:World}{A:Around}{E:Value→Shared→Prop}{s:Shared}
theorem qe.typeIs (x:qe s.heap a l i):s.TypeIs (.ref a) "reversed" := by obtain⟨o,ho,hc,_⟩:=x;exact⟨o,ho,hc⟩
theorem qe.keep (x:qe h a l i) (e:∀ o,h.get? a=some o→h'.get? a=some o):qe h' a l i:=by obtain⟨o,ho,r⟩:=x;exact⟨o,e _ ho,r⟩
theorem Ny (hl:IsTup s.heap l items) (hz:items.size≤sizeLine) (h:Q₁ (.ref s.heap.objs.size) { s with heap:=s.heap.push (v7 l ((items.size:Int) - 1)),toks:=s.toks+1+1 }) :
  codeAny (model prog w) A (.call (.builtin "reversed.__new__") ⟨[.type "reversed",.ref l],[]⟩) (wants Q₁ E) s:=by
 refine codeAny_of_tree ?_
 show wpAny _ A.in1 (do checkBuiltinCall "reversed.__new__" ⟨[.type "reversed",.ref l],[]⟩;again (.builtin "reversed.__new__" ⟨[.type "reversed",.ref l],[]⟩)) _ _ s
 refine za (yM (F.newCall_reversed_1 _) (zi ⟨plainId_quiet F.plain_reversed_new _,yF F.entry_reversed_new ?_⟩))
 rw[Around.under_plainId F.plain_reversed_new _]
 unfold Builtin.«reversed.__new__»
 refine za (yM (newClass_reversed _) ?_)
 refine za (yM (a:=()) (by first | rfl | kernel_rfl) (za (yM (a:=()) (by first | rfl | kernel_rfl) ?_)))
 refine za (wpAny_specialOf hl.typeIs Rt.Nx ?_)
 refine za (za (wpAny_isInstance hl.typeIs Rt.Jn (za (wpAny_specialOf hl.typeIs Rt.BE ?_))))
 show wpAny _ _ (if (["tuple.__getitem__", "str.__getitem__", "bytes.__getitem__", "bytearray.__getitem__", "memoryview.__getitem__", "numpy.ndarray.__getitem__", "sqlite3.Row.__getitem__"]:List String).contains "tuple.__getitem__" = true then pure true else _) _ _ _
 rw[if_pos (by decide +kernel)]
 refine zi ?_
 show wpAny _ _ (do
     let mQ ← call (Value.builtin "len") [Value.ref l]
     let __x ← asInt? mQ
     match __x with
      | some n=>do
       let mQ ← Builtin.SmallTypes.newRecord (Value.type "reversed") [Value.ref l,rawInt (n - 1)]
       ret mQ
      | x=>unsupported "internal:reversed.__new__") _ _ _
 refine za (len_tuple hl (by rw[zR] at hz;omega) ?_)
 refine za (yM (a:=some ((items.size:Nat):Int)) rfl ?_)
 exact za (m:=newObj (.type "reversed") (.fields #[.ref l,rawInt (((items.size:Nat):Int) - 1)])) (yf (zi h))
theorem Jo (hl:IsTup s.heap l items) (hz:items.size≤sizeLine) (h:Q (.ref s.heap.objs.size) { s with heap:=s.heap.push (v7 l ((items.size:Int) - 1)),toks:=s.toks+1+1 }) :
  wpAny (model prog w) A (call (.type "reversed") [.ref l]) Q E s:=by
 refine callType_codes Rt.called (F.typeCall_reversed_1 _) F.entry_object_init (Q₁:=fun obj bb=>bb.TypeIs obj "reversed" ∧ Q obj bb) (Ny hl hz ⟨⟨_,zm _ rfl,rfl⟩,h⟩) fun obj bb h₁=>?_
 exact⟨h₁.1,F.args_object_init_2 obj _,object_init_meets Rt.called.init.lookup Rt.called.made (by decide) prog w A.in1 _ bb ⟨h₁.1,rfl,h₁.2⟩⟩
theorem sqx (h:k<n):seqIndex? ((k:Nat):Int) n=some k:=by
 have e:(if ((k:Nat):Int)<0 then ((k:Nat):Int)+(n:Int) else ((k:Nat):Int))=((k:Nat):Int):=if_neg (by omega)
 unfold seqIndex?
 dsimp only
 rw[e,if_pos (by simp;omega)];rfl
theorem Jp {it l:Addr}{i:Nat}{items:Array Value}{x:Value}{Q:Option Value→Shared→Prop} (hit:qe s.heap it l (i:Int)) (hl:IsTup s.heap l items) (hz:items.size≤sizeLine) (hx:items[i]?=some x)
  (hQ:∀ h' tk,qe h' it l ((i:Int) - 1)→Heap.SameBut it s.heap h'→Q (some x) { s with heap:=h',toks:=tk }):wpAny (model prog w) A (pyNext (.ref it)) Q E s:=by
 obtain⟨o,ho,hc,hd⟩:=id hit
 have hi:i<items.size:=(Array.getElem?_eq_some_iff.mp hx).1
 unfold pyNext
 refine za (wpAny_attempt (wpAny_callSpecial?_slot (name:=Str.ofString "__next__") hit.typeIs Rt.lS (yw Rt.lS hit.typeIs Rt.BB ?_ (Rt.BC _))))
 unfold Builtin.«reversed.__next__»
 refine za (yM (a:=(Value.ref it,[])) rfl (za (yb ho hd (x:=.ref l) rfl (za (yb ho hd (x:=rawInt (i:Int)) rfl ?_)))))
 show wpAny _ _ (if (i:Int)<0 then _ else _) _ _ s
 rw[if_neg (by omega)]
 show wpAny _ _ (specialOf (.ref l) "__getitem__" >>= _) _ _ s
 refine za (wpAny_specialOf hl.typeIs Rt.BE ?_)
 show wpAny _ _ (mkInt (i:Int) >>= _) _ _ s
 refine za (wpAny_mkInt ?_)
 refine za (wpAny_attempt (getItem_tuple (j:=i) hl (by omega) (by rw[zR] at hz;omega) (sqx hi) hx ?_))
 refine za (yb ho hd (x:=rawInt (i:Int)) rfl ?_)
 show wpAny _ _ (setField (.ref it) 1 (rawInt ((i:Int) - 1)) >>= fun _=>ret x) _ _ _
 refine za (wpAny_setField ho hd (by simp) (zi ⟨x,rfl,zi (hQ _ _ ?_ (yq ..))⟩))
 exact⟨_,Heap.get?_update_self _ ho (Obj.isFreed_of_fields (Obj.data_mapFields hd _)),(Obj.cls_mapFields ..).trans hc,by rw[Obj.data_mapFields hd];simp⟩
theorem Nz (hh:A.handled=none) (hit:qe s.heap it l (-1)) (hQ:∀ h',Heap.ExtBut it s.heap h'→Q none { s with heap:=h' }):wpAny (model prog w) A (pyNext (.ref it)) Q E s:=by
 obtain⟨o,ho,hc,hd⟩:=id hit
 unfold pyNext
 refine za (wpAny_attempt (wpAny_callSpecial?_slot (name:=Str.ofString "__next__") hit.typeIs Rt.lS (yw Rt.lS hit.typeIs Rt.BB ?_ (Rt.BC _))))
 unfold Builtin.«reversed.__next__»
 refine za (yM (a:=(Value.ref it,[])) rfl (za (yb ho hd (x:=.ref l) rfl (za (yb ho hd (x:=rawInt (-1)) rfl ?_)))))
 show wpAny _ _ (if (-1:Int)<0 then _ else _) _ _ s
 rw[if_pos (by decide)]
 refine za (wpAny_rule ?_)
 have Yc:=Obj.data_mapFields hd (·.setIfInBounds 1 (rawInt (-1)))
 have Ji:=Heap.get?_update_self (Obj.mapFields (·.setIfInBounds 1 (rawInt (-1)))) ho (Obj.isFreed_of_fields Yc)
 refine za (m:=setField (.ref it) 1 (rawInt (-1)) >>= fun _=>setField (.ref it) 0 .none) (za (wpAny_setField ho hd (by simp) (wpAny_setField Ji Yc (by simp) ?_)))
 have eb:Heap.ExtBut it s.heap ((s.heap.update it (Obj.mapFields (·.setIfInBounds 1 (rawInt (-1))))).update it (Obj.mapFields (·.setIfInBounds 0 Value.none))):=fun b u hb e=>by
  rw[Heap.get?_update_other _ _ (Ne.symm hb),Heap.get?_update_other _ _ (Ne.symm hb)];exact e
 refine za ?_
 show wpAny _ _ (newExc (.type "StopIteration") [] >>= _) _ _ _
 refine za ?_
 simp only [newExc,newTuple]
 refine za (yf ?_ (by size_fits))
 refine za (m:=firstArgMember _ _) (yM (a:=Value.none) (by first | rfl | (simp only [firstArgMember];rfl)) ?_)
 refine yf ?_ (by size_fits)
 simp only [raiseNew]
 refine za (wpAny_handled ?_)
 first | rw[show A.in1.handled=none from hh] | rw[hh]
 refine za (zi (wpAny_throw ?_))
 refine za (wpAny_isInstance (T := "StopIteration") (b:=true) ⟨_,zm _ rfl,rfl⟩ isSubtype_stop ?_)
 exact zi (hQ _ ((eb.push _).push _))
theorem BF (hit:qe s.heap it l i) (h:Q (.ref it) s):wpAny (model prog w) A (pyIter (.ref it)) Q E s:=by
 refine wpAny_pyIter_slot hit.typeIs Rt.BD (yw Rt.BD hit.typeIs Rt.Jl ?_ (Rt.Jk _))
 show wpAny _ _ (ret (.ref it)) _ _ s
 exact zi ⟨_,rfl, "reversed",_,hit.typeIs,Rt.lS.lookup,h⟩
end
end L2
namespace L2
open PySem PySem.Spec PyProof.Rows
def Rn (K:PySem.W.Frag) (a:Addr) (n:Nat):It :=
 ⟨fun i H=>∃ xs x,iQ K H a xs∧xs.length=n∧i<n∧xs[n - 1 - i]?=some x,fun i H x H'=>H'=H∧∀ xs,iQ K H a xs→xs.length=n→xs[n - 1 - i]?=some x,fun i _=>n≤i⟩
theorem Jq {P:Program}{w:World}{K:PySem.W.Frag}{tg:Expr} (a it:Addr) (n:Nat):Turn P w K tg (Rn K a n) [it] it (fun i h=>i≤n∧qe h it a ((n:Int) - 1 - (i:Int))) where
 mem:=by simp
 obj:=fun i h st b hb=>by
  have e:b=it:=by simpa using hb
  subst e
  obtain⟨_,o,e,c,d⟩:=st
  exact⟨o,e,fun v z=>by rw[d] at z;cases z⟩
 keep:=fun i h h' st k=>⟨st.1,st.2.keep fun o e=>k it (by simp) o e⟩
 item:=by
  intro X hP hw hK hc i pins s σ H E I hf st hg
  subst hP hw hK
  obtain⟨xs,x,hq,hn,hi,hx⟩:=hg
  obtain⟨ax,rv,p,hz⟩:=I.tuple hq
  obtain⟨u,hu,ru⟩:=rv.get hx
  obtain⟨f0,f1,f2,f3,f4,f5⟩:=hf it (by simp)
  have e:(n:Int) - 1 - (i:Int)=((n - 1 - i:Nat):Int):=by omega
  have hit:=st.2
  rw[e] at hit
  refine Jp hit p (by rw[zj,← rv.length];exact hz) (x:=u) (by simpa using hu) fun h' tk e_ sb=>?_
  have I1:Inv X pins σ H { s with heap:=h',toks:=tk }:=I.turned (t':=tk) (fun b o hb e=>(sb.2 b hb).trans e) f0 f1 f3 f4 f5
  obtain⟨o,e1,c,d⟩:=id e_
  refine⟨u,rfl,sx (s:={ s with heap:=h',toks:=tk }) e1 c d (by decide) ⟨x,H,I1,ru,⟨rfl,fun ys hy _=>by rw[I.jI hy hq];exact hx⟩,⟨hi,?_⟩,fun b hb=>(hf b hb).1⟩⟩
  have e2:(n:Int) - 1 - ((i+1:Nat):Int)=((n - 1 - i:Nat):Int) - 1:=by omega
  rw[e2];exact e_
 done:=by
  intro X hP hw hK hc i pins s σ H E I hf st hg
  subst hP hw hK
  obtain⟨f0,f1,f2,f3,f4,f5⟩:=hf it (by simp)
  have hg:n≤i:=hg
  have e:(n:Int) - 1 - (i:Int) = -1:=by have:=st.1;omega
  have hit:=st.2
  rw[e] at hit
  exact Nz (I.ok.hd hc) hit fun h' eb=>⟨rfl,I.turned (t':=s.toks) (fun b o hb e=>eb b o hb e) f0 f1 f3 f4 f5⟩
 self:=fun _ _ _ _ _ st h=>BF st.2 h
def iRt (K:PySem.W.Frag) (ta:TA):TI:=fun σ H R=>ta σ H fun vs H1=>∃ a xs,vs=[.ref a]∧iQ K H1 a xs∧R (Rn K a xs.length) H1
theorem Ro {X:Cx}{tg a:Expr}{ta:TA}{p pos:Pos} (hg:Gl X "reversed") (hm:X.mg "reversed" = none) (ha:PA X [a] ta) (hs:starEach [a] X.env=[(false,eval a X.env)]):PI X tg (.Call (.Name "reversed" p) [a] [] pos) (iRt X.K ta):=by
 intro pins s σ H R I h
 refine Call_ (g8 I hg hm boot_reversed (PyProof.Rows.callWith_type1 (br (ha pos pins s σ H _ I h) fun us s1 ⟨vs,H1,I1,r1,q1⟩=>?_) hs rfl))
 obtain⟨l,xs,e,q,hR⟩:=q1
 subst e
 obtain⟨u,rfl,ru⟩:=vals1 r1
 cases ru
 obtain⟨ax,rv,pl,hz⟩:=I1.tuple q
 have hn:ax.toArray.size=xs.length:=by rw[zj,rv.length]
 refine Jo pl (by rw[hn];exact hz) ?_
 rw[hn]
 have st:qe (s1.heap.push (v7 l ((xs.length:Int) - 1))) s1.heap.objs.size l ((xs.length:Int) - 1 - ((0:Nat):Int)):=⟨_,zm _ rfl,rfl,by show Data.fields _=Data.fields _;simp⟩
 have I2:Inv X pins σ H1 { s1 with heap:=s1.heap.push (v7 l ((xs.length:Int) - 1)),toks:=s1.toks+1+1 }:=I1.kept (t':=s1.toks+1+1) fun b o e=>zc _ e
 refine BF (s:={ s1 with heap:=s1.heap.push (v7 l ((xs.length:Int) - 1)),toks:=s1.toks+1+1 }) st ⟨_,_,_,_,H1,rfl,I2,Jq l s1.heap.objs.size xs.length,⟨ya _,st⟩,fun b hb=>?_,hR⟩
 have hb:b=s1.heap.objs.size:=by simpa using hb
 subst hb
 exact I1.ph (zl _) (I1.aM.fresh (zl _))
section
variable {K:PySem.W.Frag}{X:Cx}{tg:Expr}
def Wi (t:oX):Bs:=fun σ S R Z=>t σ S (fun ds S1=>∃ es,ds=[.tup es]∧R ⟨es.reverse,fun _=>True⟩ S1) Z
theorem irt (hm:X.mg "reversed" = none) (ha:DA K X [a] t) (hg:Gl X "reversed" := by rfl) (hs:starEach [a] X.env=[(false,eval a X.env)]:=by rfl) (hK:X.K=K:=by rfl):DI K X tg (.Call (.Name "reversed" p) [a] [] pos) (Wi t):=by
 subst hK
 exact⟨fun y=>(Ro (X:=y.cx) hg hm (ha.of y) hs).mono <| by rintro τ H R ⟨σ,S,RI,Z,aB,hS,q,hR,hZ⟩;exact⟨σ,S,_,Z,aB,hS,q,by
  rintro ds S1 vs H1 ⟨es,e,r1⟩ v1 s1 k1
  subst e
  obtain⟨v,rfl,r⟩:=v1.one
  obtain⟨a,xs,rfl,hq,t⟩:=r.tup
  refine⟨a,xs,rfl,.inl (.of hq),hR _ S1 _ H1 r1 (fun i S2 H2 k2 s2 SN=>?_) s1 k1⟩
  have OP:iQ X.K H2 a xs:=.inl (.of (k2.t _ _ hq))
  have t2:=RvAll.ts k2 _ t
  have hl:xs.length=es.length:=t.len
  refine⟨fun d hd=>?_,fun h=>by rw[yr] at h;show xs.length≤i;omega⟩
  have hi:i<es.length:=by have:=(zo.mp hd).1;rwa [yr] at this
  rw[List.getElem?_reverse hi] at hd
  obtain⟨v,e1,r⟩:=t2.get hd
  rw[hl]
  refine⟨⟨xs,v,OP,hl,hi,e1⟩,fun x' H' ⟨e2,e3⟩=>?_⟩
  subst e2
  have:=e3 xs OP hl
  rw[e1] at this;cases this
  exact⟨r,.refl _,s2⟩,hZ⟩⟩
end
section
variable {K:PySem.W.Frag}{X:Cx}{pos:Pos}
def NA (tc:pV) (tb:mM):mM:=fun De σ S Z=>∃ P:Nat→SD→aT→Prop,(∃ m,P m σ S)∧∀ m σ S,P m σ S→tc σ S (fun b S1=>if b=true then tb { De with nx:=fun aK S'=>∃ m',m'<m∧P m' aK S',ct:=fun aK S'=>∃ m',m'<m∧P m' aK S',bk:=De.nx } σ S1 Z else De.nx σ S1) (Z σ)
theorem swh (hc:DT K X c tc) (hb:Fi K X true body tb):DS K X true (.While c body [] pos) (NA tc tb) :=
 ⟨fun y=>(Er (X:=y.cx) (y.ok.loop rfl) (hc.of y) (hb.of y)).mono <| by rintro D τ H ⟨σ,S,De,Z,aB,hS,⟨P,⟨m,p0⟩,turn⟩,hD,hZ⟩;exact
  ⟨fun m OM H'=>∃ σ S,h_ K H' σ OM∧Rs K S H'∧P m σ S∧Kp K H H',⟨m,σ,S,aB,hS,p0,.refl _⟩,by rintro m VI H1 ⟨vg,S1,a1,s1,p1,k1⟩;exact⟨vg,S1,_,Z vg,a1,s1,turn m vg S1 p1,fun b S2 H2 r2 s2 k2=>by
   cases b with
   | true =>
    rw[if_pos rfl] at r2 ⊢
    refine⟨fun Yd H3=>∃ σ S,h_ K H3 σ Yd∧Rs K S H3∧(∃ m',m'<m∧P m' σ S)∧Kp K H H3,by rintro Yd H3 ⟨iR,S3,a3,s3,⟨m',hm,p3⟩,k3⟩;exact⟨m',hm,iR,S3,a3,s3,p3,k3⟩,?_⟩
    have kk:=k1.trans k2
    exact⟨vg,S2,_,Z,a1.ts k2,s2,r2,⟨fun Nj S5 VU H5 r5 a5 s5 k5=>⟨Nj,S5,a5,s5,r5,kk.trans k5⟩,hD.rt.kp kk,hD.nx.kp kk,fun Nj S5 VU H5 r5 a5 s5 k5=>⟨Nj,S5,a5,s5,r5,kk.trans k5⟩⟩,hZ.kp kk⟩
   | false =>
    rw[if_neg zd] at r2 ⊢
    exact hD.nx _ _ _ _ r2 (a1.ts k2) s2 (k1.trans k2),(hZ.kp k1).at a1⟩⟩⟩
def Wj (i:Nat) (te:TD):mM:=fun De σ S Z=>∃ a:Int,σ[i]?=some (some (.int a))∧te σ S (fun d S1=>∃ b:Int,d=.int b∧De.nx (σ.set i (some (.int (a+b)))) S1) (Z σ)
theorem Ye (hN:X.N.Nodup) (he:DE K X e te) (hi:X.N[i]?=some x:=by rfl) (hx:Loc X.env.scope x:=by first | exact .inl rfl | exact .inr rfl) (hf:X.fn x=true∨X.env.scope.names.lookup x=some .local:=by first | exact .inl rfl | exact .inr rfl) :
  DS K X b (.AugAssign (.Name x pos') .Add e pos) (Wj i te) :=
 ⟨fun y=>(LY (X:=y.cx) hN hi hx (he.of y) LZ hf).mono <| by
  rintro D τ H ⟨σ,S,De,Z,aB,hS,⟨a,ha,t⟩,hD,hZ⟩
  obtain⟨v,e1,r⟩:=aB.get ha
  exact⟨v,e1,σ,S,_,Z σ,aB,hS,t,by
   rintro d S1 u H1 ⟨c,e2,n⟩ rv s1 k1
   subst e2
   exact⟨a,c,r.int,rv.int,hD.nx _ _ _ _ n ((aB.ts k1).set i (aQ _)) s1 k1⟩,hZ.at aB⟩⟩
end
section
variable {K:PySem.W.Frag}{X:Cx}
def vD:V→D
 | .int i=>.int i
 | .str z=>.str z
 | .bl b=>.bl b
 | _=>.au
def FJ:V→Bool
 | .int _=>true
 | .str _=>true
 | _=>false
def Rp (kvs:List (Str×V)) (ty:TD):TD:=fun σ S R Z=>ty σ S (fun y S1=>∃ z,y=.str z∧R ((kvs.lookup z).elim .au vD) S1) Z
theorem mgk {w:World}{ad:Addr}{kvs:List (Str×V)}{o e:Expr}{apos aS:Pos}{ty:TD} (d:IW w K ad kvs) (hf:(kvs.all fun p=>FJ p.2)=true) (ho:∀ Y:Cx,Y.env=X.env→Y.mg=X.mg→PE Y o (tC (.ref ad))) (he:DE K X e ty) (hw:X.w=w:=by rfl) (hK:X.K=K:=by rfl) (m:M1 X o "get" apos e aS:=by exact⟨rfl,rfl,rfl,rfl⟩) :
  DE K X (.Call (.Attribute o "get" apos) [e] [] aS) (Rp kvs ty) :=
 ⟨fun y=>(E6 (X:=y.cx) hw hK (ho y.cx rfl rfl) (he.of y) ⟨m.base,m.Ee,m.line,m.trees⟩).mono <| by rintro τ H Q ⟨σ,S,R,Z,aB,hS,q,hR,hZ⟩;exact⟨ad,kvs,rfl,d,σ,S,_,Z,aB,hS,q,by
  rintro yv S1 v H1 ⟨z,e1,r⟩ rv s1 k1
  subst e1
  refine⟨z,rv.str,hR _ _ _ _ r ?_ s1 k1⟩
  have fl:∀ v,kvs.lookup z=some v→FJ v=true:=fun v hv=>by
   have:=yd hv
   exact zZ.mp hf _ this
  cases q:kvs.lookup z with
  | none=>exact hU
  | some v =>
   have:=fl v q
   cases v with
   | int i=>exact aQ i
   | str i=>exact hW i
   | _=>(cases this),hZ⟩⟩
end
theorem BG:∀ (i:Nat) {xs:List V}{us:List Value},Vals xs us→Vals (xs.take i) (us.take i)
 | 0,_,_,_=>.nil
 | _+1,_,_,.nil=>.nil
 | i+1,_,_,.cons r t=>.cons r (BG i t)
theorem BH:∀ (i:Nat) {xs:List V}{us:List Value},Vals xs us→Vals (xs.drop i) (us.drop i)
 | 0,_,_,h=>h
 | _+1,_,_,.nil=>.nil
 | i+1,_,_,.cons r t=>BH i t
section
variable {X:Cx}
def Jr:V→List V→Hp→VK→Prop:=fun x vs H Q=>∃ l xs y i,x=.ref l∧vs=[.int ((i:Nat):Int),y]∧H l=some (.lst xs)∧i≤xs.length∧xs.length≤1000000∧Q .au (upd H l (.lst (xs.take i++y :: xs.drop i)))
theorem C4:Sr X "list.insert" Jr:=by
 intro pins s σ H x vs v us Q I rx rv h
 obtain⟨l,xs,y,i,rfl,rfl,hH,hi,hz,q⟩:=h
 cases rx
 obtain⟨u1,u2,rfl,r1,r2⟩:=rv.two
 obtain⟨t1,rfl⟩:=r1
 obtain⟨z,ax,n,r,hl,e⟩:=I.xT hH
 have hlen:xs.length=ax.length:=r.length
 have hf:∀ i:Nat,i≤1000000→¬(!Builtin.List.listFitsIndex ((i:Nat):Int))=true:=fun i h=>by
  unfold Builtin.List.listFitsIndex
  simp only [Bool.not_eq_true',Bool.not_eq_false',zL,yp]
  rw[zu (by omega),zu (by omega)];decide
 have hsz:ax.toArray.size≤sizeLine:=by rw[zj,zR];omega
 have Yf:=hf i (by omega)
 generalize hk:((i:Nat):Int)=k at Yf
 have M:=AutoListH.list_insert_list_int_val_1 l ax.toArray n k t1 u2 Yf hsz
 refine call_meets F.slot_list_insert ⟨_,e,rfl⟩ F.entry_list_insert (F.args_list_insert_3 _ _ _) M ⟨e,?_⟩
 subst hk
 refine⟨.au,_,I.Il (its':=ax.take i++u2 :: ax.drop i) hH e ?_ ((BG i r).append (.cons r2 (BH i r))) ?_,rfl,q⟩
 ·dsimp only
  rw[if_neg (by omega),Int.toNat_natCast,zj,Nat.min_eq_left (by omega)]
  simp
  exact List.take_of_length_le (by rw[List.length_drop];omega)
 ·rw[zy,zM,ye,List.length_drop,zR]
  omega
end
section
variable {K:PySem.W.Frag}
def Js:Eh:=fun x ds S R=>∃ a es d i,x=.ref a∧ds=[.int ((i:Nat):Int),d]∧S a=some (.lst es)∧i≤es.length∧es.length≤1000000∧R .au (S.set a (.lst (es.take i++d :: es.drop i)))
theorem FK:KA K "list.insert" Js:=by
 rintro X hK pins s σ H x xs v us Q I rx rs ⟨d,ds,S,R,r1,r2,hS,⟨a,es,y,i,e1,e2,e3,hi,hl,h⟩,hR⟩
 subst e1 e2
 obtain⟨w0,ws,rfl,q1,q2⟩:=r2.cons
 obtain⟨w1,rfl,q3⟩:=q2.one
 obtain⟨zs,e4,t⟩:=hS.lst e3
 exact C4 pins s σ H x _ v us Q I rx rs ⟨a,zs,w1,i,r1.ref,by rw[q1.int],e4,by rw[t.len];exact hi,by rw[t.len];exact hl,hR.put hS e3 h hU ((t.take i).app (aW q3 (t.drop i)))⟩
end
section
variable {X:Cx}
def Rq:R2:=fun x y H Q=>∃ a z n,x=.ref a∧y=.int n∧H a=some (.lst [z])∧0≤n∧n≤1000∧∀ p,H p=none→Q (.ref p) (upd H p (.lst (List.replicate n.toNat z)))
theorem Jt:fZ X (binaryOp .Mult) Rq:=by
 intro pins s σ H x y v u Q I rx ry h
 obtain⟨a,z,n,rfl,rfl,ha,h1,h2,q⟩:=h
 cases rx
 obtain⟨t',rfl⟩:=ry
 obtain⟨z2,pB,k,r2,hl,ho⟩:=I.xT ha
 obtain⟨w,rfl,pC⟩:=r2.one
 refine wpAny_binaryOp_repeat_ref (T := "list") (U := "int") (by decide) ⟨_,ho,rfl⟩ (fun s'=>typeIs_int s' n t') noFill_list_mul F.fills_int_mul F.slot_int_rmul repeat_list F.slot_int_index.lookup
  (call_meets F.slot_int_rmul (typeIs_int s n t') F.entry_int_rmul (F.args_int_rmul_2 _ _) (int___rmul___int_list n t' a [w].toArray k) ⟨ho,rfl,⟨_,ho,rfl⟩,?_⟩)
 refine call_meets F.slot_list_mul ⟨_,ho,rfl⟩ F.entry_list_mul (F.args_list_mul_2 _ _) (AutoListH.list___mul___list_int_3 a [w].toArray k n t' (by simp [Builtin.List.listFitsIndex];omega) (by simp;omega) (by simp [Builtin.List.listTooLong,sizeLine];omega)) ⟨ho,?_⟩
 rw[if_neg (by simp),show (#[]:Array Value)=([]:List Value).toArray from rfl,show [w].toArray=#[w] from rfl,Bn,List.nil_append]
 refine⟨.ref s.heap.objs.size,_,I.laid (t':=s.toks) (fun _ _ q=>zc _ q) (zl _) ?_,rfl,q _ I.fresh⟩
 exact (show bh X.prog X.w _ _ _ (.lst (List.replicate n.toNat z)) from ⟨by rw[List.length_replicate];exact Vb (by omega),_,_,vK pC _,zm _ rfl⟩)
end
section
variable {K:PySem.W.Frag}
def Rr:t9:=fun x y S R=>∃ a d n,x=.ref a∧y=.int n∧S a=some (.lst [d])∧0≤n∧n≤1000∧∀ p,S p=none→R (.ref p) (S.set p (.lst (List.replicate n.toNat d)))
theorem NB:ox K (binaryOp .Mult) Rr:=by
 rintro X hK hu pins s σ H x y v u Q I rx ry ⟨d,e,S,R,r1,r2,hS,⟨a,d0,n,e1,e2,e3,h1,h2,h⟩,hR⟩
 subst e1 e2
 obtain⟨zs,e4,t⟩:=hS.lst e3
 obtain⟨z,rfl,rz⟩:=t.one
 exact Jt pins s σ H _ _ v u Q I rx ry ⟨a,z,n,r1.ref,r2.int,e4,h1,h2,fun p hp=>hR.new hS hp (h p) (Fq rz _)⟩
end
theorem gK (hm:X.mg x=some (.ref a)) (hg:Gl X x:=by rfl) (hd:(x == ("__debug__" : Str))=false:=by decide):∀ Y:Cx,Y.env=X.env→Y.mg=X.mg→PE Y (.Name x pos) (tC (.ref a)) :=
 fun Y e1 e2=>A6 (X:=Y) (u:=.ref a) (show Y.env.kindOf x=_ by rw[e1];exact hg) (by rw[e2];exact hm) rfl hd
structure Fb (K:PySem.W.Frag) (x q:Str) (st:Stmt) (ps:List Str) (f:Addr) (d:FuncData):Prop where
 F:yY K x q st f d
 b:Binds K d ps []
structure eE (K:PySem.W.Frag) (mg:Str→Option Value) (x:Str) (st:Stmt) (ps:List Str) (f:Addr) (d:FuncData):Prop extends Fb K x x st ps f d where
 k:keepIn K (.ref f)=true
 m:mg x=some (.ref f)
structure y6 (K:PySem.W.Frag) (c:Addr) (x q:Str) (st:Stmt) (ps:List Str) (f:Addr) (d:FuncData):Prop extends Fb K x q st ps f d where
 e:Meth K c x f
abbrev Ok (P:Program) (w:World) (base:Heap) {K:PySem.W.Frag}{mg:Str→Option Value}{x:Str}{st:Stmt}{ps:List Str}{f:Addr}{d:FuncData} (_:eE K mg x st ps f d) (k:Nat) (sp:gG):Prop:=cj P w K mg base (g6 P w) k f d ps (t_ K sp)
abbrev jL (P:Program) (w:World) (mg:Str→Option Value) (base:Heap) {K:PySem.W.Frag}{c:Addr}{x q:Str}{st:Stmt}{ps:List Str}{f:Addr}{d:FuncData} (_:y6 K c x q st ps f d) (k:Nat) (sp:gG):Prop:=cj P w K mg base (g6 P w) k f d ps (t_ K sp)
theorem cU {N P:List Str}{sc:Scope} (a:sc.kind=.function∧sc.isCoroutine=false∧sc.isGenerator=false∧N.take P.length=P) (b:N.Nodup∧(∀ x∈P,sc.names.lookup x=some .local∨sc.names.lookup x=some .cell)∧∀ y∈sc.names,y.2≠.free):ai N P sc:=⟨a.1,a.2.1,a.2.2.1,b.1,a.2.2.2,b.2.1,b.2.2⟩
section
variable {R:Prop}{K:PySem.W.Frag}{h:Heap}{mg:Str→Option Value}{od an:Option Addr}{sl:Array (Option Value)}{oc dV kV dc pm cd ct:Value}{f da:Addr}{OY:Option Addr}{dn:Nat}{OZ:Array (Option Value)}{c:Addr}{tk:Tok}{d:FuncData}
theorem fw (X:K.In h) (G:h.Ns mainGlobals mg) (x:Str) (st:Stmt) (ps:List Str) (a:nsIn K mainGlobals x=some (some (.ref f))) (l:K.lookup f=some ⟨oc,od,.func (fnOf x x (cE st) (bO st) (ae st) dV kV dc pm an cd ct),sl⟩)
  (e:codeIn K cd x=true) (k:keepIn K (.ref f)=true) (b:∀ us:List Value,us.length=ps.length→bindArgs (fnOf x x (cE st) (bO st) (ae st) dV kV dc pm an cd ct) ⟨us,[]⟩=pure (ps.zip us)) (g:∀ d,eE K mg x st ps f d→R):R :=
 g _ ⟨⟨⟨_,_,_,_,_,_,_,_,_,_,rfl,l,e⟩,.all b⟩,k,mg_of X G a⟩
theorem Wk (X:K.In h) (G:h.Ns mainGlobals mg) (x:Str) (st:Stmt) (ps:List Str) (a:nsIn K mainGlobals x=some (some (.ref f))) (l:K.lookup f=some ⟨oc,od,.func (fnOf x x (cE st) (bO st) (ae st) dV kV dc pm an cd ct),sl⟩)
  (e:codeIn K cd x=true) (k:keepIn K (.ref f)=true) (b:∀ us:List Value,us.length=ps.length→bindArgs (fnOf x x (cE st) (bO st) (ae st) dV kV dc pm an cd ct) ⟨us,[]⟩=pure (ps.zip us)) (g:∀ d,d.code=cd→(∀ (s:Shared) (us:List Value),us.length=ps.length→BindsTo s d ⟨us,[]⟩ (ps.zip us))→eE K mg x st ps f d→R):R :=
 g _ rfl (fun s us h=>.of_eq (b us h)) ⟨⟨⟨_,_,_,_,_,_,_,_,_,_,rfl,l,e⟩,.all b⟩,k,mg_of X G a⟩
theorem HA (C:tP K c) (x q:Str) (st:Stmt) (ps:List Str) (a:findIn K (.ref c) x=some (some (.ref f))) (i:isFn K (.ref f)=true) (l:K.lookup f=some ⟨oc,od,.func (fnOf x q (cE st) (bO st) (ae st) dV kV dc pm an cd ct),sl⟩)
  (e:codeIn K cd q=true) (k:keepIn K (.ref f)=true) (b:∀ us:List Value,us.length=ps.length→bindArgs (fnOf x q (cE st) (bO st) (ae st) dV kV dc pm an cd ct) ⟨us,[]⟩=pure (ps.zip us)) (g:∀ d,y6 K c x q st ps f d→R):R :=
 g _ ⟨⟨⟨_,_,_,_,_,_,_,_,_,_,rfl,l,e⟩,.all b⟩,a,i,k⟩
theorem Yg (X:K.In h) (G:h.Ns mainGlobals mg) (x:Str) (st:Stmt) (ps:List Str) (a:nsIn K mainGlobals x=some (some (.ref f))) (l:K.lookup f=some ⟨oc,od,.func (fnOf x x (cE st) (bO st) (ae st) (.ref da) kV dc pm an cd ct),sl⟩)
  (t:K.lookup da=some ⟨.type "tuple",OY,.seq #[.none] dn,OZ⟩) (e:codeIn K cd x=true) (k:keepIn K (.ref f)=true)
  (b:∀ (s:Shared) (us:List Value),s.heap.get? da=some ⟨.type "tuple",OY,.seq #[.none] dn,OZ⟩→us.length=ps.length→BindsTo s (fnOf x x (cE st) (bO st) (ae st) (.ref da) kV dc pm an cd ct) ⟨us,[]⟩ (ps.zip us))
  (b2:∀ (s:Shared) (us:List Value),s.heap.get? da=some ⟨.type "tuple",OY,.seq #[.none] dn,OZ⟩→us.length+1=ps.length→BindsTo s (fnOf x x (cE st) (bO st) (ae st) (.ref da) kV dc pm an cd ct) ⟨us,[]⟩ (ps.zip (us++[.none])))
  (g:∀ d,eE K mg x st ps f d→Binds K d ps [.none]→R):R :=
 g _ ⟨⟨⟨_,_,_,_,_,_,_,_,_,_,rfl,l,e⟩,fun s us hK hl=>by rw[List.append_nil] at hl ⊢;exact b s us (hK _ _ t) hl⟩,k,mg_of X G a⟩ fun s us hK hl=>b2 s us (hK _ _ t) (by simpa using hl)
theorem Yh (C:tP K c) (x q:Str) (st:Stmt) (ps:List Str) (a:findIn K (.ref c) x=some (some (.ref f))) (i:isFn K (.ref f)=true) (l:K.lookup f=some ⟨oc,od,.func (fnOf x q (cE st) (bO st) (ae st) (.ref da) kV dc pm an cd ct),sl⟩)
  (t:K.lookup da=some ⟨.type "tuple",OY,.seq #[.none] dn,OZ⟩) (e:codeIn K cd q=true) (k:keepIn K (.ref f)=true)
  (b:∀ (s:Shared) (us:List Value),s.heap.get? da=some ⟨.type "tuple",OY,.seq #[.none] dn,OZ⟩→us.length=ps.length→BindsTo s (fnOf x q (cE st) (bO st) (ae st) (.ref da) kV dc pm an cd ct) ⟨us,[]⟩ (ps.zip us))
  (b2:∀ (s:Shared) (us:List Value),s.heap.get? da=some ⟨.type "tuple",OY,.seq #[.none] dn,OZ⟩→us.length+1=ps.length→BindsTo s (fnOf x q (cE st) (bO st) (ae st) (.ref da) kV dc pm an cd ct) ⟨us,[]⟩ (ps.zip (us++[.none])))
  (g:∀ d,y6 K c x q st ps f d→Binds K d ps [.none]→R):R :=
 g _ ⟨⟨⟨_,_,_,_,_,_,_,_,_,_,rfl,l,e⟩,fun s us hK hl=>by rw[List.append_nil] at hl ⊢;exact b s us (hK _ _ t) hl⟩,a,i,k⟩ fun s us hK hl=>b2 s us (hK _ _ t) (by simpa using hl)
theorem xu (X:K.In h) (G:h.Ns mainGlobals mg) (x:Str) (a:nsIn K mainGlobals x=some none) (g:mg x=none→R):R:=g (PySem.W.mg_none_of X G a)
theorem K3 (X:K.In h) (G:h.Ns mainGlobals mg) (x:Str) (i:Int) (a:nsIn K mainGlobals x=some (some (.int i tk))) (g:mg x=some (.int i tk)→R):R:=g (mg_of X G a)
theorem Tf (X:K.In h) (G:h.Ns mainGlobals mg) (x:Str) (a:nsIn K mainGlobals x=some (some (.ref c))) (l:K.lookup c=some o) (g:mg x=some (.ref c)→K.lookup c=some o→R):R:=g (mg_of X G a) l
theorem NC (X:K.In h) (G:h.Ns mainGlobals mg) (x:Str) (a:nsIn K mainGlobals x=some (some (.ref c))) (e:excIn K c L2.pO "ValueError.__new__" = true) (g:mg x=some (.ref c)→excIn K c L2.pO "ValueError.__new__" = true→R):R:=g (mg_of X G a) e
theorem gvc (X:K.In h) (G:h.Ns mainGlobals mg) (x:Str) (a:nsIn K mainGlobals x=some (some (.ref c))) (pg:plainGet K c Str.empty=true) (hd:hasDictIn K c=true) (po:plainOver K c=true) (sa:findIn K (.ref c) "__setattr__" = some (some (.builtin "object.__setattr__"))) (ms:makesIn K c=true) (kc:keepIn K (.ref c)=true)
  (g:mg x=some (.ref c)→tP K c→makesIn K c=true→keepIn K (.ref c)=true→R):R:=g (mg_of X G a) ⟨pg,hd,po,sa⟩ ms kc
theorem Wl (C:tP K c) (x:Str) (a:findIn K (.ref c) x=some none) (g:findIn K (.ref c) x=some none→R):R:=g a
theorem ND (l:K.lookup c=some o) (e:codeHdIn [(c,o)] c P=true):codeHdIn K c P=true:=by
 unfold codeHdIn at e ⊢
 rw[l]
 rw[show ([(c,o)]:PySem.W.Frag).lookup c=some o by simp] at e
 exact e
theorem Yi (X:K.In h) (e:d.code=.ref c) (o:K.lookup c=some ⟨oC,od,.fields vC,sl⟩) (q:vC[11]?=some (.ref P)) (hh:codeHdIn [(c,⟨oC,od,.fields vC,sl⟩)] c P=true) (g:codeHdIn K c P=true→R):R:=g (ND o hh)
end
section
variable {Q:List Value→Prop}
theorem ln0 (h:Q []) (us:List Value) (e:us.length=0):Q us:=by cases us with
 | nil=>exact h
 | cons a us=>cases e
theorem Ju (h:∀ a us,us.length=n→Q (a :: us)) (us:List Value) (e:us.length=n+1):Q us:=by cases us with
 | nil=>cases e
 | cons a us=>exact h a us (Nat.succ.inj e)
theorem rn (h:∀ a,Q [a]):∀ us:List Value,us.length=1→Q us:=Ju fun a=>ln0 (h a)
theorem ln2 (h:∀ a b,Q [a,b]):∀ us:List Value,us.length=2→Q us:=Ju fun a=>rn (h a)
theorem um (h:∀ a b c,Q [a,b,c]):∀ us:List Value,us.length=3→Q us:=Ju fun a=>ln2 (h a)
theorem Th (h:∀ a b c d,Q [a,b,c,d]):∀ us:List Value,us.length=4→Q us:=Ju fun a=>um (h a)
theorem Wm (h:∀ a,Q [a]) (us:List Value) (e:us.length+1=2):Q us:=rn h us (Nat.succ.inj e)
theorem Ru (h:∀ a b,Q [a,b]) (us:List Value) (e:us.length+1=3):Q us:=ln2 h us (Nat.succ.inj e)
theorem Wn (h:∀ a b c,Q [a,b,c]) (us:List Value) (e:us.length+1=4):Q us:=um h us (Nat.succ.inj e)
end
end L2
namespace My
open PySem L2
def top (i:Nat):Stmt:=PySem.Challenge.pw_pageturns_k21_whole_plain_answers.main.body.getD i (.Pass ⟨0,0,0,0⟩)
abbrev kN:Stmt:=top 15
abbrev i9:Stmt:=top 16
abbrev i_:Stmt:=top 17
abbrev jM:Stmt:=top 18
abbrev lT:Stmt:=top 19
abbrev jN:Stmt:=top 20
abbrev mR:Stmt:=top 21
abbrev kO:Stmt:=top 22
abbrev df:Stmt:=top 25
abbrev ja:Stmt:=top 26
abbrev ib:Stmt:=top 27
abbrev ic:Stmt:=top 28
abbrev jb:Stmt:=top 29
abbrev fq:Stmt:=top 30
abbrev kP:Stmt:=top 31
abbrev qf:Stmt:=top 36
abbrev qg:Stmt:=top 37
abbrev cV:Stmt:=top 38
abbrev mS:Stmt:=top 39
abbrev eR:Stmt:=top 45
abbrev f_:Stmt:=top 46
abbrev eK:Stmt:=top 47
abbrev gy:Stmt:=top 48
abbrev fb:Stmt:=top 49
abbrev jc:Stmt:=top 50
abbrev fI:Stmt:=top 51
abbrev uo:Stmt:=top 53
abbrev kQ:Stmt:=top 54
abbrev eM:Stmt:=top 55
abbrev dN:Stmt:=top 56
abbrev kR:Stmt:=top 57
abbrev bX:Stmt:=top 58
abbrev bY:Stmt:=top 59
abbrev bI:Stmt:=top 60
abbrev gz:Stmt:=top 63
abbrev jd:Stmt:=top 65
abbrev qh:Stmt:=top 66
abbrev qj:Stmt:=top 67
abbrev je:Stmt:=top 68
abbrev mT:Stmt:=top 69
abbrev ie:Stmt:=top 70
abbrev uq:Stmt:=top 71
abbrev mU:Stmt:=top 72
abbrev gM:Stmt:=top 73
abbrev qk:Stmt:=top 74
abbrev mV:Stmt:=top 75
abbrev qm:Stmt:=top 76
abbrev ur:Stmt:=top 77
abbrev kT:Stmt:=top 78
abbrev ig:Stmt:=top 79
abbrev ij:Stmt:=top 80
abbrev lU:Stmt:=top 81
abbrev sY:Stmt:=top 82
abbrev aA:Stmt:=top 62
set_option genInjectivity false in
set_option genSizeOfSpec false in
structure o3 where
 (y7 v8 v9 C5 FL C6 C7 y8 oA v_ y9 uu wa uv y_ FN FO rN C8 rO wb mW rP oB FP qo Jv z_ mX qp Ab mY mZ kU rQ wc FQ FR wd C9 Ac Jw C_ Dc FT Dd FU NF Ad Ae Af FV K4 gN we qq uw jf ik jg j9 wg lV qr jh ux ji jj sZ lW dP kW qt lX ip eN ag gb aR fg aI:Addr)
 (Ag wj wk Df FW Dg Dh Ah oE wm Ai uy wo uz Aj FX FY rR Di rS wq m6 rT oF FZ qu BI qv m7 qw Al gO m8 fJ rV wu F_ Ga wA Dj Am Jx Dk Dm Gb Dn Ge NG An Ao Ap Gf Gg m9 wB qy uA jk iq jl j_ wC gf jm jo:FuncData)
 (lY m_ lZ qz ke wD kf l3:Tok)
 ts:List Addr
structure Txt (w:World) (K:PySem.W.Frag) (mg:Str→Option Value) (t:o3):Prop where
 cW:eE K mg "is_whole" kN ["thing"] t.y7 t.Ag
 bD:eE K mg "is_letter" i9 ["sign"] t.v8 t.wj
 fz:eE K mg "is_figure" i_ ["sign"] t.v9 t.wk
 eS:eE K mg "is_name" jM ["thing"] t.C5 t.Df
 cC:eE K mg "is_key" lT ["thing"] t.FL t.FW
 jO:eE K mg "is_word" jN ["thing"] t.C6 t.Dg
 jP:eE K mg "is_kind" mR ["thing"] t.C7 t.Dh
 cX:eE K mg "is_value" kO ["kind", "thing"] t.y8 t.Ah
 cz:eE K mg "check_columns" df ["columns"] t.oA t.oE
 fA:eE K mg "is_column" ja ["thing"] t.v_ t.wm
 cY:eE K mg "names_of" ib ["columns"] t.y9 t.Ai
 bR:eE K mg "kind_named" ic ["columns", "name"] t.uu t.uy
 cA:eE K mg "check_row" jb ["columns", "row"] t.wa t.wo
 eO:eE K mg "are_worths" fq ["columns", "thing"] t.uv t.uz
 aY:eE K mg "value_in" kP ["columns", "row", "name"] t.y_ t.Aj
 gA:eE K mg "is_way" qf ["thing"] t.FN t.FX
 ng:eE K mg "is_end" qg ["thing"] t.FO t.FY
 dD:eE K mg "check_order" cV ["columns", "order"] t.rN t.rR
 jQ:eE K mg "is_part" mS ["columns", "thing"] t.C8 t.Di
 bB:eE K mg "check_sieve" eR ["columns", "sieve"] t.rO t.rS
 fB:eE K mg "is_formed" f_ ["columns", "thing"] t.wb t.wq
 bf:eE K mg "is_short_tuple" eK ["thing"] t.mW t.m6
 dE:eE K mg "fits_column" gy ["columns", "sieve"] t.rP t.rT
 cB:eE K mg "sieves_within" fb ["sieves"] t.oB t.oF
 passes:eE K mg "passes" jc ["columns", "sieve", "row"] t.FP t.FZ
 cO:eE K mg "value_passes" fI ["word", "value", "told"] t.qo t.qu
 plain:eE K mg "plain" uo ["shelf", "order", "sieve", "moment"] t.Jv t.BI
 Dq:Binds K t.BI ["shelf", "order", "sieve", "moment"] [.none]
 eU:eE K mg "count_of" kQ ["shelf", "sieve", "moment"] t.z_ t.qv
 uB:Binds K t.qv ["shelf", "sieve", "moment"] [.none]
 bZ:eE K mg "ordered_answer" eM ["shelf", "order", "sieve", "moment"] t.mX t.m7
 bj:eE K mg "rows_passing" dN ["shelf", "sieve", "moment"] t.qp t.qw
 gP:eE K mg "in_order" kR ["columns", "order", "rows"] t.Ab t.Al
 b_:eE K mg "sorted_by_keys" bX ["rows", "way"] t.mY t.gO
 cg:eE K mg "sorted_by_part" bY ["columns", "part", "rows"] t.mZ t.m8
 bE:eE K mg "sorted_by_values" bI ["columns", "part", "rows"] t.kU t.fJ
 bC:eE K mg "worths_then" gz ["standings", "moment"] t.rQ t.rV
 aU:eE K mg "_law_cell_at" jd ["_law_script", "_law_k"] t.wc t.wu
 dm:eE K mg "_law_well" qh ["_law_cell"] t.FQ t.F_
 ak:eE K mg "_law_draw" qj ["_law_well_here", "_law_most"] t.FR t.Ga
 fC:eE K mg "_law_columns" je ["_law_well_here"] t.wd t.wA
 eT:eE K mg "_law_value" mT ["_law_well_here", "_law_kind"] t.C9 t.Dj
 bw:eE K mg "_law_worths" ie ["_law_well_here", "_law_columns_here"] t.Ac t.Am
 kx:eE K mg "_law_key" uq ["_law_well_here"] t.Jw t.Jx
 jR:eE K mg "_law_order" mU ["_law_well_here", "_law_columns_here"] t.C_ t.Dk
 cF:eE K mg "_law_sieve" gM ["_law_well_here", "_law_columns_here", "_law_deep"] t.Dc t.Dm
 nh:eE K mg "_law_deed" qk ["_law_well_here", "_law_columns_here", "_law_known_here"] t.FT t.Gb
 jS:eE K mg "_law_known" mV ["_law_known_here", "_law_deed_here"] t.Dd t.Dn
 ni:eE K mg "_law_does" qm ["_law_shelf", "_law_deed_here"] t.FU t.Ge
 nj:eE K mg "_law_at" ur ["_law_columns_here", "_law_row", "_law_name"] t.NF t.NG
 gQ:eE K mg "_law_before" kT ["_law_columns_here", "_law_order_here", "_law_one", "_law_other"] t.Ad t.An
 dQ:eE K mg "_law_sorted" ig ["_law_columns_here", "_law_order_here", "_law_rows"] t.Ae t.Ao
 bp:eE K mg "_law_passes" ij ["_law_columns_here", "_law_sieve_here", "_law_row"] t.Af t.Ap
 nq:eE K mg "_law_many" lU ["_law_well_here", "_law_columns_here", "_law_least", "_law_most"] t.FV t.Gf
 Wo:eE K mg "law" sY ["_law_script"] t.K4 t.Gg
 dR:y6 K t.ag "__init__" "Shelf.__init__" (inClass aA 0) ["self", "columns"] t.gN t.m9
 cP:y6 K t.ag "put" "Shelf.put" (inClass aA 1) ["self", "key", "worths"] t.we t.wB
 bz:y6 K t.ag "change" "Shelf.change" (inClass aA 2) ["self", "key", "worths"] t.qq t.qy
 cn:y6 K t.ag "take" "Shelf.take" (inClass aA 3) ["self", "key"] t.uw t.uA
 aN:y6 K t.ag "check_stands" "Shelf.check_stands" (inClass aA 4) ["self", "key"] t.jf t.jk
 aH:y6 K t.ag "begin_standing" "Shelf.begin_standing" (inClass aA 5) ["self", "key", "worths"] t.ik t.iq
 aO:y6 K t.ag "end_standing" "Shelf.end_standing" (inClass aA 6) ["self", "key"] t.jg t.jl
 ar:y6 K t.ag "has_columns" "Shelf.has_columns" (inClass aA 7) ["self"] t.j9 t.j_
 bF:y6 K t.ag "now" "Shelf.now" (inClass aA 8) ["self"] t.wg t.wC
 bN:y6 K t.ag "worths_at" "Shelf.worths_at" (inClass aA 9) ["self", "key", "moment"] t.lV t.gf
 fh:Binds K t.gf ["self", "key", "moment"] [.none]
 dS:y6 K t.ag "all_at" "Shelf.all_at" (inClass aA 10) ["self", "moment"] t.qr t.jm
 Dr:Binds K t.jm ["self", "moment"] [.none]
 aP:y6 K t.ag "moment_meant" "Shelf.moment_meant" (inClass aA 13) ["self", "moment"] t.jh t.jo
 kX:mg "MOST_NAME_SIGNS" = some (.int 8 t.lY)
 l4:mg "MOST_KEY_SIGNS" = some (.int 12 t.m_)
 kY:mg "MOST_WORD_SIGNS" = some (.int 40 t.lZ)
 oG:mg "MOST_COLUMNS" = some (.int 8 t.qz)
 jq:mg "MOST_PARTS_orders" = some (.int 8 t.ke)
 uC:mg "MOST_DEEP" = some (.int 8 t.wD)
 jr:mg "MOST_PARTS_sieves" = some (.int 200 t.kf)
 kZ:mg "MOST_IN_A_TUPLE" = some (.int 8 t.l3)
 Gi:mg "KINDS" = some (.ref t.ux)
 Gj:∀ H,Rv K H (.kt [.str "number",.str "word"]) (.ref t.ux)
 uD:mg "OTHER_WAY" = some (.ref t.ji)
 wF:IW w K t.ji [("up",.str "down"),("down",.str "up")]
 uE:mg "OTHER_END" = some (.ref t.jj)
 wG:IW w K t.jj [("first",.str "last"),("last",.str "first")]
 Aq:mg "LENGTHS" = some (.ref t.sZ)
 Ds:IW w K t.sZ [("every",.int 1),("is",.int 3),("below",.int 3),("above",.int 3),("begins",.int 3),("key",.int 2),("not",.int 2),("and",.int 2),("or",.int 2)]
 bx:mg "len" = none
 l5:mg "all" = none
 Rw:mg "any" = none
 az:mg "isinstance" = none
 jT:mg "range" = none
 s9:mg "int" = none
 nZ:mg "str" = none
 Gk:mg "bool" = none
 cG:mg "tuple" = none
 NH:mg "list" = none
 NI:mg "dict" = none
 K5:mg "set" = none
 K6:mg "zip" = none
 fK:mg "sorted" = none
 Rx:mg "min" = none
 qA:mg "reversed" = none
 gB:mg "BadColumns" = some (.ref t.lW)
 dU:excIn K t.lW L2.pO "ValueError.__new__" = true
 jU:mg "BadRow" = some (.ref t.dP)
 gR:excIn K t.dP L2.pO "ValueError.__new__" = true
 eV:mg "BadOrder" = some (.ref t.kW)
 dq:excIn K t.kW L2.pO "ValueError.__new__" = true
 n0:mg "BadSieve" = some (.ref t.qt)
 ir:excIn K t.qt L2.pO "ValueError.__new__" = true
 Du:mg "HasKey" = some (.ref t.lX)
 qB:excIn K t.lX L2.pO "ValueError.__new__" = true
 Gm:mg "NoKey" = some (.ref t.ip)
 uF:excIn K t.ip L2.pO "ValueError.__new__" = true
 wH:mg "NoMoment" = some (.ref t.eN)
 k7:excIn K t.eN L2.pO "ValueError.__new__" = true
 Gn:mg "Shelf" = some (.ref t.ag)
 aq:tP K t.ag
 Gp:Mk K t.ag t.gN
 cQ:findIn K (.ref t.ag) "columns" = some none
 cK:findIn K (.ref t.ag) "deeds" = some none
 bS:findIn K (.ref t.ag) "runs" = some none
 gk:t.gO.code=.ref t.gb
 dW:codeHdIn K t.gb t.aR=true
 l6:t.aR∈t.ts
 fi:t.fJ.code=.ref t.fg
 cS:codeHdIn K t.fg t.aI=true
 kg:t.aI∈t.ts
 np:[t.aR,t.aI].Nodup
 ta:∀ b∈t.ts,b=t.aR∨b=t.aI
 bl:∀ (s:Shared) (u:Value),BindsTo s t.Gg ⟨[u],[]⟩ [("_law_script",u)]
theorem wI:ai ["thing"] ["thing"] (ae kN):=cU ⟨rfl,rfl,rfl,rfl⟩ (by decide +kernel)
theorem uG:ai ["sign"] ["sign"] (ae i9):=cU ⟨rfl,rfl,rfl,rfl⟩ (by decide +kernel)
theorem uH:ai ["sign"] ["sign"] (ae i_):=cU ⟨rfl,rfl,rfl,rfl⟩ (by decide +kernel)
theorem Ar:ai ["thing"] ["thing"] (ae jM):=cU ⟨rfl,rfl,rfl,rfl⟩ (by decide +kernel)
theorem Dw:ai ["thing"] ["thing"] (ae lT):=cU ⟨rfl,rfl,rfl,rfl⟩ (by decide +kernel)
theorem As:ai ["thing"] ["thing"] (ae jN):=cU ⟨rfl,rfl,rfl,rfl⟩ (by decide +kernel)
theorem Au:ai ["thing"] ["thing"] (ae mR):=cU ⟨rfl,rfl,rfl,rfl⟩ (by decide +kernel)
theorem wJ:ai ["kind", "thing"] ["kind", "thing"] (ae kO):=cU ⟨rfl,rfl,rfl,rfl⟩ (by decide +kernel)
theorem nr:ai ["columns"] ["columns"] (ae df):=cU ⟨rfl,rfl,rfl,rfl⟩ (by decide +kernel)
theorem uI:ai ["thing"] ["thing"] (ae ja):=cU ⟨rfl,rfl,rfl,rfl⟩ (by decide +kernel)
theorem wK:ai ["columns"] ["columns"] (ae ib):=cU ⟨rfl,rfl,rfl,rfl⟩ (by decide +kernel)
theorem rW:ai ["columns", "name"] ["columns", "name"] (ae ic):=cU ⟨rfl,rfl,rfl,rfl⟩ (by decide +kernel)
theorem uJ:ai ["columns", "row"] ["columns", "row"] (ae jb):=cU ⟨rfl,rfl,rfl,rfl⟩ (by decide +kernel)
theorem rX:ai ["columns", "thing"] ["columns", "thing"] (ae fq):=cU ⟨rfl,rfl,rfl,rfl⟩ (by decide +kernel)
theorem wL:ai ["columns", "row", "name"] ["columns", "row", "name"] (ae kP):=cU ⟨rfl,rfl,rfl,rfl⟩ (by decide +kernel)
theorem Dx:ai ["thing"] ["thing"] (ae qf):=cU ⟨rfl,rfl,rfl,rfl⟩ (by decide +kernel)
theorem Dy:ai ["thing"] ["thing"] (ae qg):=cU ⟨rfl,rfl,rfl,rfl⟩ (by decide +kernel)
theorem fL:ai ["columns", "order", "parts", "names"] ["columns", "order"] (ae cV):=cU ⟨rfl,rfl,rfl,rfl⟩ (by decide +kernel)
theorem Av:ai ["columns", "thing"] ["columns", "thing"] (ae mS):=cU ⟨rfl,rfl,rfl,rfl⟩ (by decide +kernel)
theorem bJ:ai ["columns", "sieve", "level", "deep", "parts"] ["columns", "sieve"] (ae eR):=cU ⟨rfl,rfl,rfl,rfl⟩ (by decide +kernel)
theorem uK:ai ["columns", "thing"] ["columns", "thing"] (ae f_):=cU ⟨rfl,rfl,rfl,rfl⟩ (by decide +kernel)
theorem l7:ai ["thing"] ["thing"] (ae eK):=cU ⟨rfl,rfl,rfl,rfl⟩ (by decide +kernel)
theorem js:ai ["columns", "sieve", "kind"] ["columns", "sieve"] (ae gy):=cU ⟨rfl,rfl,rfl,rfl⟩ (by decide +kernel)
theorem eP:ai ["sieves", "found", "sieve"] ["sieves"] (ae fb):=cU ⟨rfl,rfl,rfl,rfl⟩ (by decide +kernel)
theorem s_:ai ["columns", "sieve", "row"] ["columns", "sieve", "row"] (ae jc):=cU ⟨rfl,rfl,rfl,rfl⟩ (by decide +kernel)
theorem oH:ai ["word", "value", "told"] ["word", "value", "told"] (ae fI):=cU ⟨rfl,rfl,rfl,rfl⟩ (by decide +kernel)
theorem Gq:ai ["shelf", "order", "sieve", "moment"] ["shelf", "order", "sieve", "moment"] (ae uo):=cU ⟨rfl,rfl,rfl,rfl⟩ (by decide +kernel)
theorem wM:ai ["shelf", "sieve", "moment"] ["shelf", "sieve", "moment"] (ae kQ):=cU ⟨rfl,rfl,rfl,rfl⟩ (by decide +kernel)
theorem l8:ai ["shelf", "order", "sieve", "moment"] ["shelf", "order", "sieve", "moment"] (ae eM):=cU ⟨rfl,rfl,rfl,rfl⟩ (by decide +kernel)
theorem iL:ai ["shelf", "sieve", "moment", "columns"] ["shelf", "sieve", "moment"] (ae dN):=cU ⟨rfl,rfl,rfl,rfl⟩ (by decide +kernel)
theorem gm:ai ["columns", "order", "rows", "ordered", "part"] ["columns", "order", "rows"] (ae kR):=cU ⟨rfl,rfl,rfl,rfl⟩ (by decide +kernel)
theorem l9:ai ["rows", "way"] ["rows", "way"] (ae bX):=cU ⟨rfl,rfl,rfl,rfl⟩ (by decide +kernel)
theorem cH:ai ["columns", "part", "rows", "without", "valued"] ["columns", "part", "rows"] (ae bY):=cU ⟨rfl,rfl,rfl,rfl⟩ (by decide +kernel)
theorem kh:ai ["columns", "part", "rows"] ["columns", "part", "rows"] (ae bI):=cU ⟨rfl,rfl,rfl,rfl⟩ (by decide +kernel)
theorem jt:ai ["standings", "moment", "standing"] ["standings", "moment"] (ae gz):=cU ⟨rfl,rfl,rfl,rfl⟩ (by decide +kernel)
theorem uL:ai ["_law_script", "_law_k"] ["_law_script", "_law_k"] (ae jd):=cU ⟨rfl,rfl,rfl,rfl⟩ (by decide +kernel)
theorem Dz:ai ["_law_cell"] ["_law_cell"] (ae qh):=cU ⟨rfl,rfl,rfl,rfl⟩ (by decide +kernel)
theorem eQ:ai ["_law_well_here", "_law_most", "_law_found", "_law_turn", "_law_number"] ["_law_well_here", "_law_most"] (ae qj):=cU ⟨rfl,rfl,rfl,rfl⟩ (by decide +kernel)
theorem dX:ai ["_law_well_here", "_law_names", "_law_turn", "_law_found", "_law_k"] ["_law_well_here"] (ae je):=cU ⟨rfl,rfl,rfl,rfl⟩ (by decide +kernel)
theorem qC:ai ["_law_well_here", "_law_kind", "_law_stem"] ["_law_well_here", "_law_kind"] (ae mT):=cU ⟨rfl,rfl,rfl,rfl⟩ (by decide +kernel)
theorem wN:ai ["_law_well_here", "_law_columns_here"] ["_law_well_here", "_law_columns_here"] (ae ie):=cU ⟨rfl,rfl,rfl,rfl⟩ (by decide +kernel)
theorem Gr:ai ["_law_well_here"] ["_law_well_here"] (ae uq):=cU ⟨rfl,rfl,rfl,rfl⟩ (by decide +kernel)
theorem fM:ai ["_law_well_here", "_law_columns_here", "_law_turn", "_law_parts", "_law_k", "_law_name"] ["_law_well_here", "_law_columns_here"] (ae mU):=cU ⟨rfl,rfl,rfl,rfl⟩ (by decide +kernel)
theorem dr:ai ["_law_well_here", "_law_columns_here", "_law_deep", "_law_way", "_law_some", "_law_name", "_law_kind", "_law_value_here"] ["_law_well_here", "_law_columns_here", "_law_deep"] (ae gM):=cU ⟨rfl,rfl,rfl,rfl⟩ (by decide +kernel)
theorem gT:ai ["_law_well_here", "_law_columns_here", "_law_known_here", "_law_way", "_law_keys", "_law_key_here"] ["_law_well_here", "_law_columns_here", "_law_known_here"] (ae qk):=cU ⟨rfl,rfl,rfl,rfl⟩ (by decide +kernel)
theorem Aw:ai ["_law_known_here", "_law_deed_here"] ["_law_known_here", "_law_deed_here"] (ae mV):=cU ⟨rfl,rfl,rfl,rfl⟩ (by decide +kernel)
theorem DB:ai ["_law_shelf", "_law_deed_here"] ["_law_shelf", "_law_deed_here"] (ae qm):=cU ⟨rfl,rfl,rfl,rfl⟩ (by decide +kernel)
theorem Jy:ai ["_law_columns_here", "_law_row", "_law_name"] ["_law_columns_here", "_law_row", "_law_name"] (ae ur):=cU ⟨rfl,rfl,rfl,rfl⟩ (by decide +kernel)
theorem dF:ai ["_law_columns_here", "_law_order_here", "_law_one", "_law_other", "_law_name", "_law_way", "_law_end", "_law_left", "_law_right"] ["_law_columns_here", "_law_order_here", "_law_one", "_law_other"] (ae kT):=cU ⟨rfl,rfl,rfl,rfl⟩ (by decide +kernel)
theorem gp:ai ["_law_columns_here", "_law_order_here", "_law_rows", "_law_found", "_law_row", "_law_many_here"] ["_law_columns_here", "_law_order_here", "_law_rows"] (ae ig):=cU ⟨rfl,rfl,rfl,rfl⟩ (by decide +kernel)
theorem eW:ai ["_law_columns_here", "_law_sieve_here", "_law_row", "_law_word", "_law_some", "_law_value_here"] ["_law_columns_here", "_law_sieve_here", "_law_row"] (ae ij):=cU ⟨rfl,rfl,rfl,rfl⟩ (by decide +kernel)
theorem tj:ai ["_law_well_here", "_law_columns_here", "_law_least", "_law_most", "_law_many_here"] ["_law_well_here", "_law_columns_here", "_law_least", "_law_most"] (ae lU):=cU ⟨rfl,rfl,rfl,rfl⟩ (by decide +kernel)
theorem cq:ai ["_law_script", "_law_columns_here", "_law_shelf", "_law_known_here", "_law_rows", "_law_deeds", "_law_cell", "_law_deed_here", "_law_well_here", "_law_order_here", "_law_sieve_here", "_law_moment", "_law_due", "_law_found", "_law_many_here"] ["_law_script"] (ae sY):=cU ⟨rfl,rfl,rfl,rfl⟩ (by decide +kernel)
theorem l_:ai ["self", "columns"] ["self", "columns"] (ae (inClass aA 0)):=cU ⟨rfl,rfl,rfl,rfl⟩ (by decide +kernel)
theorem uM:ai ["self", "key", "worths"] ["self", "key", "worths"] (ae (inClass aA 1)):=cU ⟨rfl,rfl,rfl,rfl⟩ (by decide +kernel)
theorem oI:ai ["self", "key", "worths"] ["self", "key", "worths"] (ae (inClass aA 2)):=cU ⟨rfl,rfl,rfl,rfl⟩ (by decide +kernel)
theorem rY:ai ["self", "key"] ["self", "key"] (ae (inClass aA 3)):=cU ⟨rfl,rfl,rfl,rfl⟩ (by decide +kernel)
theorem iT:ai ["self", "key"] ["self", "key"] (ae (inClass aA 4)):=cU ⟨rfl,rfl,rfl,rfl⟩ (by decide +kernel)
theorem gU:ai ["self", "key", "worths"] ["self", "key", "worths"] (ae (inClass aA 5)):=cU ⟨rfl,rfl,rfl,rfl⟩ (by decide +kernel)
theorem eG:ai ["self", "key", "standing"] ["self", "key"] (ae (inClass aA 6)):=cU ⟨rfl,rfl,rfl,rfl⟩ (by decide +kernel)
theorem ju:ai ["self"] ["self"] (ae (inClass aA 7)):=cU ⟨rfl,rfl,rfl,rfl⟩ (by decide +kernel)
theorem uN:ai ["self"] ["self"] (ae (inClass aA 8)):=cU ⟨rfl,rfl,rfl,rfl⟩ (by decide +kernel)
theorem fN:ai ["self", "key", "moment", "then"] ["self", "key", "moment"] (ae (inClass aA 9)):=cU ⟨rfl,rfl,rfl,rfl⟩ (by decide +kernel)
theorem fc:ai ["self", "moment", "then", "rows"] ["self", "moment"] (ae (inClass aA 10)):=cU ⟨rfl,rfl,rfl,rfl⟩ (by decide +kernel)
theorem iU:ai ["self", "moment"] ["self", "moment"] (ae (inClass aA 13)):=cU ⟨rfl,rfl,rfl,rfl⟩ (by decide +kernel)
theorem sm (h:n≤1000):n≤sizeLine:=yE (jJ h)
theorem uO:0≤sizeLine:=sm (by decide)
theorem oJ:1≤sizeLine:=sm (by decide)
theorem cD:2≤sizeLine:=sm (by decide)
theorem iV:3≤sizeLine:=sm (by decide)
theorem oK:4≤sizeLine:=sm (by decide)
theorem Wq:7≤sizeLine:=sm (by decide)
theorem Wr:8≤sizeLine:=sm (by decide)
theorem Ry:10≤sizeLine:=sm (by decide)
abbrev Yj (P:Program) (w:World) (K:PySem.W.Frag) (mg:Str→Option Value) (base:Heap) (k:Nat) (f:Addr) (fd:FuncData) (ps:List Str) (sp:gG):Prop:=cj P w K mg base (g6 P w) k f fd ps (t_ K sp)
def Gt (S:aT) (d:D):Prop:=(∃ k,Nb S d k)∧∀ z,d=.str z→z.cps.size≤1000
def isLet (c:Nat):Bool:=decide (97≤c) && decide (c≤122)
def wO (c:Nat):Bool:=decide (48≤c) && decide (c≤57)
def Gs (c:Nat):Bool:=decide (32≤c) && decide (c≤126)
def jv (z:Str):Bool:=decide (1≤z.cps.size) && decide (z.cps.size≤8) && z.cps.toList.all isLet
def fX (z:Str):Bool:=decide (1≤z.cps.size) && decide (z.cps.size≤12) && (z.cps.toList.head?.any isLet) && z.cps.toList.all fun c=>isLet c || wO c
def tm (z:Str):Bool:=decide (z.cps.size≤40) && z.cps.toList.all Gs
def ofStr (f:Str→Bool):D→Bool
 | .str z=>f z
 | _=>false
def k8:D→Bool
 | .int _=>true
 | _=>false
def jw (kind:Str) (d:D):Bool:=ah d || if kind = "number" then k8 d else ofStr tm d
def nu (f:D→Bool):gG:=fun ds S R _=>∃ d,ds=[d]∧Gt S d∧R (.bl (f d)) S
def qD (f:Nat→Bool):gG:=fun ds S R _=>∃ c,ds=[.str ⟨#[c]⟩]∧R (.bl (f c)) S
theorem n6:∀ {xs ys:List D}{a b:D},Paired rel xs ys→rel a b→Paired rel (xs++[a]) (ys++[b])
 | _,_,_,_,.nil,r=>.cons r .nil
 | _,_,_,_,.cons q t,r=>.cons q (n6 t r)
theorem take_snoc {α:Type}{l:List α}{i:Nat}{d:α} (h:l[i]?=some d):l.take (i+1)=l.take i++[d]:=by
 rw[List.take_add_one,h];rfl
theorem gW {I:yX}{S1:aT}{g:yU}{te:TD}{σ:SD}{src:List (Option Nat)}{R:KD} (rel:D→D→Prop) (aM:I.ok S1) (hz:I.xs.length≤1000)
  (step:∀ d,d∈I.xs→∀ Q:KD,(∀ v,rel d v→Q v S1)→g d (nW σ src) S1 fun iR S3=>te iR S3 Q Zf) (fin:∀ out,Paired rel I.xs out→∀ p,S1 p=none→R (.ref p) (S1.set p (.lst out))) :
  Bt σ src g sT te R I S1:=by
 refine⟨fun i out S=>S=S1∧Paired rel (I.xs.take i) out,⟨rfl,.nil⟩,fun i out S h=>by rw[h.1];exact aM,?_,?_⟩
 ·rintro i d out S hd ⟨rfl,hp⟩
  have hlen:=yK hp
  rw[ye] at hlen
  refine⟨jJ (by omega),?_⟩
  have e:(fun (iR:SD) (S3:aT)=>sT iR S3 (fun b S4=>if b=true then te iR S4 (fun v S5=>S5=S∧Paired rel (I.xs.take (i+1)) (out++[v])) Zf else S4=S∧Paired rel (I.xs.take (i+1)) out) Zf)=fun iR S3=>te iR S3 (fun v S5=>S5=S∧Paired rel (I.xs.take (i+1)) (out++[v])) Zf:=by
   funext iR S3
   simp [sT]
  rw[e]
  exact step d (zK hd) _ fun v hv=>⟨rfl,by rw[take_snoc hd];exact n6 hp hv⟩
 ·rintro out S2 ⟨rfl,hp⟩
  rw[yB] at hp
  exact fin out hp
theorem qE:∀ {xs out:List D},Paired (fun d v=>v=f d) xs out→out=xs.map f
 | _,_,.nil=>rfl
 | _,_,.cons r t=>by rw[r,qE t];rfl
theorem comp_map (f:D→D) (aM:I.ok S1) (hz:I.xs.length≤1000)
  (step:∀ d,d∈I.xs→∀ Q:KD,Q (f d) S1→g d (nW σ src) S1 fun iR S3=>te iR S3 Q Zf) (fin:∀ p,S1 p=none→R (.ref p) (S1.set p (.lst (I.xs.map f)))) :
  Bt σ src g sT te R I S1 :=
 gW (fun d v=>v=f d) aM hz (fun d hd Q h=>step d hd Q (h _ rfl)) fun out hp p NJ=>by rw[qE hp];exact fin p NJ
theorem dG {I:yX}{S1:aT}{g:yU}{tc:pV}{te:TD}{σ:SD}{src:List (Option Nat)}{R:KD} (keep:D→Bool) (f:D→D) (aM:I.ok S1) (hz:I.xs.length≤1000)
  (step:∀ d,d∈I.xs→∀ (Q:KD) (Q':aT→Prop),(keep d=true→Q (f d) S1)→(keep d=false→Q' S1)→g d (nW σ src) S1 fun iR S3=>tc iR S3 (fun b S4=>if b=true then te iR S4 Q Zf else Q' S4) Zf)
  (fin:∀ p,S1 p=none→R (.ref p) (S1.set p (.lst ((I.xs.filter keep).map f)))) :
  Bt σ src g tc te R I S1:=by
 refine⟨fun i out S=>S=S1∧out=((I.xs.take i).filter keep).map f,⟨rfl,rfl⟩,fun i out S h=>by rw[h.1];exact aM,?_,?_⟩
 ·rintro i d out S hd ⟨rfl,rfl⟩
  have hlen:((I.xs.take i).filter keep).length≤(I.xs.take i).length:=yk _ _
  rw[ye] at hlen
  refine⟨by rw[zb];exact jJ (by omega),?_⟩
  refine step d (zK hd) _ (fun S4=>S4=S∧_=_) (fun hk=>⟨rfl,?_⟩) fun hk=>⟨rfl,?_⟩
  ·rw[take_snoc hd,List.filter_append,zD,yo,if_pos hk];rfl
  ·rw[take_snoc hd,List.filter_append,yo,if_neg (by rw[hk];exact zd)];simp
 ·rintro out S2 ⟨rfl,rfl⟩
  rw[yB]
  exact fin
variable {P:Program}{w:World}{K:PySem.W.Frag}{mg:Str→Option Value}{base:Heap}{t:o3}
theorem n8 (T:Txt w K mg t):Ok P w base T.cW 1 (nu k8):=by
 refine T.cW.F.ok wI (by rintro ds S R Z ⟨d,e,_⟩;rw[e];rfl) ?_
 rintro bu A outer s H E ds S R Z hr ⟨d,e,⟨⟨k,hk⟩,hz⟩,q⟩
 subst e
 refine⟨_,(s1 (sr (rL (cb dA T.az aw (ac (dv 0) (ac (sO T.s9 mJ) an))) (Hv (M_ (cb dA T.az aw (ac (dv 0) (ac (sO T.Gk Bi) an)))))))),?_⟩
 refine⟨_,rfl,_,_,_,_,rfl,IF,hk,_,rfl,?_⟩
 have:(xY k=true∧((k8 d=true∧tZ k=false)∨(k8 d=false∧tZ k=true)))∨(xY k=false∧k8 d=false):=by
  cases d with
  | au=>cases hk;exact .inr ⟨rfl,rfl⟩
  | bl b=>cases hk;exact .inl ⟨rfl,.inr ⟨rfl,rfl⟩⟩
  | int b=>cases hk;exact .inl ⟨rfl,.inl ⟨rfl,rfl⟩⟩
  | str b=>cases hk;exact .inr ⟨rfl,rfl⟩
  | tup b=>cases hk;exact .inr ⟨rfl,rfl⟩
  | ref a=>rcases hk with ⟨rfl,_⟩ | ⟨rfl,_⟩ <;> exact .inr ⟨rfl,rfl⟩
  | _=>exact hk.elim
 rcases this with ⟨h1,h2⟩ | ⟨h1,h2⟩
 ·rw[h1]
  refine fk ⟨_,rfl,_,_,_,_,rfl,vG,hk,_,rfl,?_⟩
  rcases h2 with ⟨h2,h3⟩ | ⟨h2,h3⟩ <;> (rw[h3];rw[h2] at q;exact fo q)
 ·rw[h1]
  rw[h2] at q
  exact bV (fo q)
theorem ma (T:Txt w K mg t):Ok P w base T.bD 1 (qD isLet):=by
 refine T.bD.F.ok uG (by rintro ds S R Z ⟨d,e,_⟩;rw[e];rfl) ?_
 rintro bu A outer s H E ds S R Z hr ⟨c,e,q⟩
 subst e
 refine⟨_,(s1 (sr (cc kJ kJ hr.units ds (dv 0) ds))),?_⟩
 refine⟨_,rfl,_,rfl,?_⟩
 have e1:Ef "a" ⟨#[c]⟩=decide (97≤c):=jK 97 c
 have e2:Ef ⟨#[c]⟩ "z" = decide (c≤122):=jK c 122
 unfold isLet at q
 refine ck (fun h=>?_) (fun h=>?_)
 ·rw[e1.symm.trans h,zW,← e2] at q
  exact fo q
 ·rw[e1.symm.trans h,zP] at q
  exact fo q
theorem uP (T:Txt w K mg t):Ok P w base T.fz 1 (qD wO):=by
 refine T.fz.F.ok uH (by rintro ds S R Z ⟨d,e,_⟩;rw[e];rfl) ?_
 rintro bu A outer s H E ds S R Z hr ⟨c,e,q⟩
 subst e
 refine⟨_,(s1 (sr (cc kJ kJ hr.units ds (dv 0) ds))),?_⟩
 refine⟨_,rfl,_,rfl,?_⟩
 have e1:Ef "0" ⟨#[c]⟩=decide (48≤c):=jK 48 c
 have e2:Ef ⟨#[c]⟩ "9" = decide (c≤57):=jK c 57
 unfold wO at q
 refine ck (fun h=>?_) (fun h=>?_)
 ·rw[e1.symm.trans h,zW,← e2] at q
  exact fo q
 ·rw[e1.symm.trans h,zP] at q
  exact fo q
theorem DC (h:d∈fH z):∃ c,c∈z.cps.toList∧d=.str ⟨#[c]⟩:=by
 unfold fH at h
 obtain⟨c,hc,e⟩:=ze.mp h
 exact⟨c,hc,e.symm⟩
def BJ (f:Nat→Bool):D→D
 | .str z=>.bl (z.cps.toList.head?.any f)
 | _=>.au
theorem DD:(fH z).map (BJ f)=(z.cps.toList.map f).map D.bl:=by
 unfold fH
 rw[zt,zt]
 rfl
theorem all_map {α:Type}{l:List α}{f:α→Bool} : (l.map f).all id=l.all f:=by
 rw[List.all_map];rfl
theorem nv {z:Str}{f:Nat→Bool}{g:yU}{te:TD}{σ:SD}{src:List (Option Nat)}{S:aT}{R:KD}{Z:KX}{i:Nat} (hv:σ[i]?=some (some (.str z))) (hz:z.cps.size≤1000)
  (step:∀ c,c∈z.cps.toList→∀ Q:KD,Q (.bl (f c)) S→g (.str ⟨#[c]⟩) (nW σ src) S fun iR S3=>te iR S3 Q Zf) (q:R (.bl (z.cps.toList.all f)) S) :
  SI QH (Ky (Bu (KO (Qv i)) src g sT te) M8) σ S (fun d S'=>Fo S' (R d)) Z:=by
 refine⟨_,hv,z,rfl,?_⟩
 refine My.comp_map (I:=⟨fH z,fun _=>True⟩) (BJ f) trivial (by show (fH z).length≤1000;unfold fH;rw[zb,zO];exact hz) (fun d hd Q hQ=>?_) fun p hp=>?_
 ·obtain⟨c,hc,rfl⟩:=DC hd
  exact step c hc Q (by simpa [BJ] using hQ)
 ·refine⟨.ref p,z.cps.toList.map f,rfl,?_,S,.new hp,?_⟩
  ·show (S.set p (.lst ((fH z).map (BJ f)))) p=_
   rw[aa,DD]
  ·rw[all_map];exact q
theorem Ax {S:aT}{d:D}{k:Kd} (hk:Nb S d k):(∃ z,d=.str z∧xZ k=true)∨(xZ k=false∧∀ f,ofStr f d=false):=by
 cases d with
 | str b=>cases hk;exact .inl ⟨b,rfl,rfl⟩
 | au=>cases hk;exact .inr ⟨rfl,fun _=>rfl⟩
 | bl b=>cases hk;exact .inr ⟨rfl,fun _=>rfl⟩
 | int b=>cases hk;exact .inr ⟨rfl,fun _=>rfl⟩
 | tup b=>cases hk;exact .inr ⟨rfl,fun _=>rfl⟩
 | ref a=>rcases hk with ⟨rfl,_⟩ | ⟨rfl,_⟩ <;> exact .inr ⟨rfl,fun _=>rfl⟩
 | _=>exact hk.elim
theorem NK {S:aT}{d:D}{k:Kd} (hk:Nb S d k):(∃ ds,d=.tup ds∧pN k=true)∨(pN k=false∧∀ ds,d≠.tup ds):=by
 cases d with
 | tup b=>cases hk;exact .inl ⟨b,rfl,rfl⟩
 | au=>cases hk;exact .inr ⟨rfl,fun _=>nofun⟩
 | bl b=>cases hk;exact .inr ⟨rfl,fun _=>nofun⟩
 | int b=>cases hk;exact .inr ⟨rfl,fun _=>nofun⟩
 | str b=>cases hk;exact .inr ⟨rfl,fun _=>nofun⟩
 | ref a=>rcases hk with ⟨rfl,_⟩ | ⟨rfl,_⟩ <;> exact .inr ⟨rfl,fun _=>nofun⟩
 | _=>exact hk.elim
theorem qF (T:Txt w K mg t):Ok P w base T.eS 2 (nu (ofStr jv)):=by
 have gq:Ok P w base T.bD 1 (qD isLet):=ma T
 refine T.eS.F.ok Ar (by rintro ds S R Z ⟨d,e,_⟩;rw[e];rfl) ?_
 rintro bu A outer s H E ds S R Z hr ⟨d,e,⟨⟨k,hk⟩,hz⟩,q⟩
 subst e
 refine⟨_,(sc (si (twd (twor (eC (tv (cb dA T.az aw (ac (dv 0) (ac (sO T.nZ i4) an))))) (tw1 (eC (Vi kJ kJ hr.units di (cb bH T.bx aV (ac (dv 0) an)) (dg (v:=.int 8) T.kX ⟨_,rfl⟩ fun _=>aQ _)))))) (s1 (sr db)) s0) (s1 (sr (cb lQ T.l5 hG (ac (rM (N:=["sign"]) (src:=[none]) (kG (ae jM) ["thing"] rfl rfl (by decide +kernel)) (Nm (dv 0)) (oZ (show (["sign"]:List Str).Nodup by decide +kernel)) (a_ rfl) ba (fun _ _ _ _ _=>ud) (fun _ _ _ _ _=>(cf (gq.mono (by decide)) hr T.bD.m T.bD.k T.bD.b d0 (ac (dv 0) an)))) an))))),?_⟩
 refine⟨_,rfl,_,_,_,_,rfl,cZ,hk,_,rfl,?_⟩
 rcases Ax hk with ⟨z,rfl,h0⟩ | ⟨h0,h1⟩
 ·have hz:=hz z rfl
  rw[h0]
  refine bV ?_
  refine⟨_,rfl,_,rfl,⟨sm hz,?_⟩⟩
  refine⟨_,rfl,?_⟩
  have e1:decide ((1:Int)≤(z.length:Nat))=decide (1≤z.cps.size):=by rw[yC];show (1:Int)≤((z.cps.size:Nat):Int)↔_;omega
  have e2:decide (((z.length:Nat):Int)≤8)=decide (z.cps.size≤8):=by rw[yC];show ((z.cps.size:Nat):Int)≤8↔_;omega
  unfold ofStr jv at q
  dsimp only at q
  refine ck (fun h2=>?_) (fun h2=>?_)
  ·rw[e1.symm.trans h2,zW] at q
   refine⟨_,rfl,?_⟩
   refine ck (fun h3=>?_) (fun h3=>?_)
   ·rw[e2.symm.trans (nt h3),zP] at q
    exact fo q
   ·rw[e2.symm.trans (nf h3),zW] at q
    exact nv rfl hz (fun c hc Q hQ=>⟨_,rfl,c,rfl,hQ⟩) q
  ·rw[e1.symm.trans h2,zP,zP] at q
   refine⟨_,rfl,?_⟩
   exact fk (fo q)
 ·rw[h0]
  rw[h1] at q
  exact fk (fk (fo q))
def ay (c:Str×Str):D:=.tup [.str c.1,.str c.2]
def Gd (cs:List (Str×Str)):Prop:=cs.length≤8∧(cs.map Prod.fst).Nodup∧∀ c∈cs,jv c.1=true∧(c.2 = "number" ∨ c.2 = "word")
def me (cs:List (Str×Str)):D→Bool
 | .tup ws=>decide (ws.length=cs.length) && (List.zipWith (fun c v=>jw c.2 v) cs ws).all id
 | _=>false
def iu (cs:List (Str×Str)) (k v:D):Bool:=ofStr fX k && me cs v
def K7 (S:aT) (d:D):Prop:=Gt S d∧∀ ws,d=.tup ws→ws.length≤1000∧∀ v∈ws,Gt S v
theorem jV (T:Txt w K mg t):Ok P w base T.cC 2 (nu (ofStr fX)):=by
 have gq:Ok P w base T.bD 1 (qD isLet):=ma T
 have wQ:Ok P w base T.fz 1 (qD wO):=uP T
 refine T.cC.F.ok Dw (by rintro ds S R Z ⟨d,e,_⟩;rw[e];rfl) ?_
 rintro bu A outer s H E ds S R Z hr ⟨d,e,⟨⟨k,hk⟩,hz⟩,q⟩
 subst e
 refine⟨_,(sc (si (twd (twor (eC (tv (cb dA T.az aw (ac (dv 0) (ac (sO T.nZ i4) an))))) (tw1 (eC (Vi kJ kJ hr.units di (cb bH T.bx aV (ac (dv 0) an)) (dg (v:=.int 12) T.l4 ⟨_,rfl⟩ fun _=>aQ _)))))) (s1 (sr db)) s0) (sc (si (eC (tv (cf (gq.mono (by decide)) hr T.bD.m T.bD.k T.bD.b d0 (ac (ix hr.units (dv 0) di) an)))) (s1 (sr db)) s0) (s1 (sr (cb lQ T.l5 hG (ac (rM (N:=["sign"]) (src:=[none]) (kG (ae lT) ["thing"] rfl rfl (by decide +kernel)) (Nm (dv 0)) (oZ (show (["sign"]:List Str).Nodup by decide +kernel)) (a_ rfl) ba (fun _ _ _ _ _=>ud) (fun _ _ _ _ _=>(ZF (cf (gq.mono (by decide)) hr T.bD.m T.bD.k T.bD.b d0 (ac (dv 0) an)) (Hv (cf (wQ.mono (by decide)) hr T.fz.m T.fz.k T.fz.b d0 (ac (dv 0) an)))))) an)))))),?_⟩
 refine⟨_,rfl,_,_,_,_,rfl,cZ,hk,_,rfl,?_⟩
 rcases Ax hk with ⟨z,rfl,h0⟩ | ⟨h0,h1⟩
 ·have hz:=hz z rfl
  rw[h0]
  refine bV ?_
  refine⟨_,rfl,_,rfl,⟨sm hz,?_⟩⟩
  refine⟨_,rfl,?_⟩
  have e1:decide ((1:Int)≤(z.length:Nat))=decide (1≤z.cps.size):=by rw[yC];show (1:Int)≤((z.cps.size:Nat):Int)↔_;omega
  have e2:decide (((z.length:Nat):Int)≤12)=decide (z.cps.size≤12):=by rw[yC];show ((z.cps.size:Nat):Int)≤12↔_;omega
  unfold ofStr fX at q
  dsimp only at q
  refine ck (fun h2=>?_) (fun h2=>?_)
  ·have Va:=e1.symm.trans h2
   rw[Va,zW] at q
   refine⟨_,rfl,?_⟩
   refine ck (fun h3=>?_) (fun h3=>?_)
   ·rw[e2.symm.trans (nt h3),zP,zP] at q
    exact fo q
   ·rw[e2.symm.trans (nf h3),zW] at q
    obtain⟨c,r,ec⟩:=len_pos (z:=z) (zE Va)
    have eh:z.cps.toList.head?.any isLet=isLet c:=by rw[ec];rfl
    rw[eh] at q
    refine⟨_,rfl,c,sm hz,Zi ec,c,rfl,_,rfl,?_⟩
    refine ck (fun h4=>?_) (fun h4=>?_)
    ·rw[nt h4,zP] at q
     exact fo q
    ·rw[nf h4,zW] at q
     refine nv (f:=fun c=>isLet c || wO c) rfl hz (fun c hc Q hQ=>?_) q
     refine⟨_,rfl,c,rfl,_,rfl,?_⟩
     refine ck (fun h5=>?_) (fun h5=>?_)
     ·rw[h5,Bool.true_or] at hQ
      exact hQ
     ·rw[h5,yL] at hQ
      exact⟨_,rfl,c,rfl,hQ⟩
  ·rw[e1.symm.trans h2,zP,zP,zP] at q
   refine⟨_,rfl,?_⟩
   exact fk (fo q)
 ·rw[h0]
  rw[h1] at q
  exact fk (fk (fo q))
theorem Ay (T:Txt w K mg t):Ok P w base T.jO 2 (nu (ofStr tm)):=by
 refine T.jO.F.ok As (by rintro ds S R Z ⟨d,e,_⟩;rw[e];rfl) ?_
 rintro bu A outer s H E ds S R Z hr ⟨d,e,⟨⟨k,hk⟩,hz⟩,q⟩
 subst e
 refine⟨_,(sc (si (twd (twor (eC (tv (cb dA T.az aw (ac (dv 0) (ac (sO T.nZ i4) an))))) (tw1 (bK oy hr.units (cb bH T.bx aV (ac (dv 0) an)) (dg (v:=.int 40) T.kY ⟨_,rfl⟩ fun _=>aQ _))))) (s1 (sr db)) s0) (s1 (sr (cb lQ T.l5 hG (ac (rM (N:=["sign"]) (src:=[none]) (kG (ae jN) ["thing"] rfl rfl (by decide +kernel)) (Nm (dv 0)) (oZ (show (["sign"]:List Str).Nodup by decide +kernel)) (a_ rfl) ba (fun _ _ _ _ _=>ud) (fun _ _ _ _ _=>(cc kJ kJ hr.units ds (dv 0) ds))) an))))),?_⟩
 refine⟨_,rfl,_,_,_,_,rfl,cZ,hk,_,rfl,?_⟩
 rcases Ax hk with ⟨z,rfl,h0⟩ | ⟨h0,h1⟩
 ·have hz:=hz z rfl
  rw[h0]
  refine bV ?_
  refine⟨_,rfl,_,rfl,⟨sm hz,?_⟩⟩
  refine⟨_,rfl,?_⟩
  have e2:decide ((40:Int)<((z.length:Nat):Int))=!decide (z.cps.size≤40):=by
   rw[yn];simp only [decide_eq_true_iff,Bool.not_eq_true',decide_eq_false_iff_not];show (40:Int)<((z.cps.size:Nat):Int)↔_;omega
  unfold ofStr tm at q
  dsimp only at q
  refine ck (fun h3=>?_) (fun h3=>?_)
  ·rw[nt (e2.symm.trans h3),zP] at q
   exact fo q
  ·rw[nf (e2.symm.trans h3),zW] at q
   refine nv (f:=Gs) rfl hz (fun c hc Q hQ=>?_) q
   refine⟨_,rfl,_,rfl,?_⟩
   have e3:Ef " " ⟨#[c]⟩=decide (32≤c):=jK 32 c
   have e4:Ef ⟨#[c]⟩ "~" = decide (c≤126):=jK c 126
   unfold Gs at hQ
   refine ck (fun h=>?_) (fun h=>?_)
   ·rw[e3.symm.trans h,zW,← e4] at hQ
    exact hQ
   ·rw[e3.symm.trans h,zP] at hQ
    exact hQ
 ·rw[h0]
  rw[h1] at q
  exact fk (fk (fo q))
theorem n_ (T:Txt w K mg t):Ok P w base T.cX 3 (fun ds S R _=>∃ kind d,ds=[.str kind,d]∧Gt S d∧R (.bl (jw kind d)) S):=by
 have k9:Ok P w base T.cW 1 (nu k8):=n8 T
 have DF:Ok P w base T.jO 2 (nu (ofStr tm)):=Ay T
 refine T.cX.F.ok wJ (by rintro ds S R Z ⟨d,d',e,_⟩;rw[e];rfl) ?_
 rintro bu A outer s H E ds S R Z hr ⟨kind,d,e,hd,q⟩
 subst e
 refine⟨_,(sc (si (bK mL hr.units (dv 1) dn) (s1 (sr db)) s0) (sc (si (bK bc hr.units (dv 0) ds) (s1 (sr (cf (k9.mono (by decide)) hr T.cW.m T.cW.k T.cW.b d0 (ac (dv 1) an)))) s0) (s1 (sr (cf (DF.mono (by decide)) hr T.jO.m T.jO.k T.jO.b d0 (ac (dv 1) an)))))),?_⟩
 refine⟨_,rfl,_,rfl,?_⟩
 unfold jw at q
 refine ck (fun h=>?_) (fun h=>?_)
 ·rw[h,Bool.true_or] at q
  exact fo q
 ·rw[h,yL] at q
  refine⟨_,rfl,_,rfl,?_⟩
  refine ck (fun h=>?_) (fun h=>?_)
  ·rw[if_pos (zE h)] at q
   exact⟨_,rfl,d,rfl,hd,fo q⟩
  ·rw[if_neg (zX h)] at q
   exact⟨_,rfl,d,rfl,hd,fo q⟩
theorem gt_str (h:z.cps.size≤1000):Gt S (.str z):=⟨⟨.str,rfl⟩,fun y e=>by cases e;exact h⟩
theorem nA (h:jv z=true):z.cps.size≤1000:=by
 unfold jv at h
 simp only [zL,yp] at h
 omega
theorem DH (h:∀ c v,f (.tup [ay c,v])=.bl (jw c.2 v)):(cR (cs.map ay) ws).map f=(List.zipWith (fun c v=>jw c.2 v) cs ws).map D.bl:=by
 unfold cR
 induction cs generalizing ws with
 | nil=>cases ws <;> rfl
 | cons c cs ih =>
  cases ws with
  | nil=>rfl
  | cons v ws =>
   show f (.tup [ay c,v]) :: (List.zipWith _ (cs.map ay) ws).map f=.bl (jw c.2 v) :: _
   rw[h,ih]
def pairF:D→D
 | .tup [.tup [_,.str k],v]=>.bl (jw k v)
 | _=>.au
theorem Az (T:Txt w K mg t):Ok P w base T.jP 1 (fun ds S R _=>∃ z,ds=[.str z]∧(z = "number" ∨ z = "word")∧R (.bl true) S):=by
 refine T.jP.F.ok Au (by rintro ds S R Z ⟨d,e,_⟩;rw[e];rfl) ?_
 rintro bu A outer s H E ds S R Z hr ⟨z,e,hz,q⟩
 subst e
 refine⟨_,(s1 (sr (rL (cb dA T.az aw (ac (dv 0) (ac (sO T.nZ i4) an))) (Hv (cm vN hr.units (dv 0) (dg (v:=.ref t.ux) T.Gi rfl T.Gj)))))),?_⟩
 refine⟨_,rfl,_,_,_,_,rfl,cZ,rfl,_,rfl,fk ⟨_,rfl,rfl,rfl,?_⟩⟩
 have e:tT (j8 (.str z)) ([D.str "number",D.str "word"].map j8)=true:=by rcases hz with rfl | rfl <;> decide +kernel
 show Fo S (R (.bl (if false=true then _ else tT (j8 (.str z)) ([D.str "number",D.str "word"].map j8))))
 rw[if_neg zd,e]
 exact fo q
theorem uQ (T:Txt w K mg t):Ok P w base T.fA 3 (fun ds S R _=>∃ c,ds=[ay c]∧jv c.1=true∧(c.2 = "number" ∨ c.2 = "word")∧R (.bl true) S):=by
 have nB:Ok P w base T.eS 2 (nu (ofStr jv)):=qF T
 have DJ:Ok P w base T.jP 1 (fun ds S R _=>∃ z,ds=[.str z]∧(z = "number" ∨ z = "word")∧R (.bl true) S):=Az T
 refine T.fA.F.ok uI (by rintro ds S R Z ⟨d,e,_⟩;rw[e];rfl) ?_
 rintro bu A outer s H E ds S R Z hr ⟨c,e,h1,h2,q⟩
 subst e
 refine⟨_,(sc (si (twd (twor (eC (tv (cb dA T.az aw (ac (dv 0) (ac (sO T.cG bP) an))))) (tw1 (bK j7 hr.units (cb bH T.bx aV (ac (dv 0) an)) di)))) (s1 (sr db)) s0) (s1 (sr (rL (cf (nB.mono (by decide)) hr T.eS.m T.eS.k T.eS.b d0 (ac (ix hr.units (dv 0) di) an)) (Hv (cf (DJ.mono (by decide)) hr T.jP.m T.jP.k T.jP.b d0 (ac (ix hr.units (dv 0) di) an))))))),?_⟩
 refine⟨_,rfl,_,_,_,_,rfl,bt,rfl,_,rfl,?_⟩
 refine bV ⟨_,rfl,_,rfl,_,rfl,bV ?_⟩
 refine⟨_,rfl,_,rfl,_,rfl,gt_str (nA h1),_,rfl,?_⟩
 show if jv c.1=true then _ else _
 rw[h1]
 exact fk ⟨_,rfl,_,rfl,_,rfl,h2,fo q⟩
theorem oa (T:Txt w K mg t):Ok P w base T.cY 1 (fun ds S R _=>∃ cs:List (Str×Str),ds=[.tup (cs.map ay)]∧cs.length≤8∧∀ p,S p=none→R (.ref p) (S.set p (.lst ((cs.map Prod.fst).map D.str)))):=by
 refine T.cY.F.ok wK (by rintro ds S R Z ⟨d,e,_⟩;rw[e];rfl) ?_
 rintro bu A outer s H E ds S R Z hr ⟨cs,e,hl,q⟩
 subst e
 refine⟨_,(s1 (sr (rM (N:=["name", "kind"]) (src:=[none,none]) (kG (ae ib) ["columns"] rfl rfl (by decide +kernel)) (Hx (dv 0)) (V1 (show (["name", "kind"]:List Str).Nodup by decide +kernel)) (tX rfl rfl) uf (fun _ _ _ _ _=>ud) (fun _ _ _ _ _=>(dv 0))))),?_⟩
 refine⟨_,rfl,_,.inl rfl,?_⟩
 refine comp_map (fun d=>match d with | .tup (x :: _)=>x | _=>.au) trivial (by show (cs.map ay).length≤1000;rw[zb];omega) (fun d hd Q hQ=>?_) fun p hp=>?_
 ·obtain⟨c,hc,rfl⟩:=ze.mp hd
  exact⟨_,rfl,rfl,_,_,rfl,_,_,rfl,rfl,_,rfl,hQ⟩
 ·have e:(cs.map ay).map (fun d=>match d with | .tup (x :: _)=>x | _=>.au)=(cs.map Prod.fst).map D.str:=by
   rw[zt,zt];rfl
  show Fo (S.set p (.lst ((cs.map ay).map _))) (R (.ref p))
  rw[e]
  exact fo (q p hp)
theorem nC (T:Txt w K mg t):Ok P w base T.cz 4 (fun ds S R _=>∃ cs,ds=[.tup (cs.map ay)]∧Gd cs∧R .au S):=by
 have wR:Ok P w base T.fA 3 _:=uQ T
 have k_:Ok P w base T.cY 1 _:=oa T
 refine T.cz.F.ok nr (by rintro ds S R Z ⟨d,e,_⟩;rw[e];rfl) ?_
 rintro bu A outer s H E ds S R Z hr ⟨cs,e,⟨hl,hn,hg⟩,q⟩
 subst e
 refine⟨_,(sc (si (twd (twor (eC (tv (cb dA T.az aw (ac (dv 0) (ac (sO T.cG bP) an))))) (tw1 (bK oy hr.units (cb bH T.bx aV (ac (dv 0) an)) (dg (v:=.int 8) T.oG ⟨_,rfl⟩ fun _=>aQ _))))) (s1 (vR ⟨T.dU⟩ T.gB (ac ds an))) s0) (sc (si (eC (tv (cb lQ T.l5 hG (ac (rM (N:=["column"]) (src:=[none]) (kG (ae df) ["columns"] rfl rfl (by decide +kernel)) (Hx (dv 0)) (oZ (show (["column"]:List Str).Nodup by decide +kernel)) (a_ rfl) ba (fun _ _ _ _ _=>ud) (fun _ _ _ _ _=>(cf (wR.mono (by decide)) hr T.fA.m T.fA.k T.fA.b d0 (ac (dv 0) an)))) an)))) (s1 (vR ⟨T.dU⟩ T.gB (ac ds an))) s0) (s1 (si (bK j7 hr.units (X5 (cf (k_.mono (by decide)) hr T.cY.m T.cY.k T.cY.b d0 (ac (dv 0) an)) T.bx T.K5) (cb bH T.bx aV (ac (dv 0) an))) (s1 (vR ⟨T.dU⟩ T.gB (ac ds an))) s0)))),?_⟩
 refine⟨_,rfl,_,_,_,_,rfl,bt,rfl,_,rfl,?_⟩
 have e1:decide ((8:Int)<((cs.map ay).length:Nat))=false:=zr (by rw[zb];omega)
 refine bV ⟨_,rfl,_,rfl,_,rfl,?_⟩
 show if decide ((8:Int)<((cs.map ay).length:Nat))=true then _ else _
 rw[e1]
 refine bV ?_
 refine⟨_,rfl,_,.inl rfl,?_⟩
 refine comp_map (fun _=>.bl true) trivial (by show (cs.map ay).length≤1000;rw[zb];omega) (fun d hd Q hQ=>?_) fun p hp=>?_
 ·obtain⟨c,hc,rfl⟩:=ze.mp hd
  exact⟨_,rfl,c,rfl,(hg c hc).1,(hg c hc).2,hQ⟩
 ·have e2:(cs.map ay).map (fun _=>D.bl true)=(cs.map fun _=>true).map D.bl:=by rw[zt,zt];rfl
  have e3:(cs.map fun _=>true).all id=true:=by rw[all_map];exact zZ.mpr fun _ _=>rfl
  refine⟨.ref p,cs.map fun _=>true,rfl,?_,_,rfl,?_⟩
  ·show (S.set p (.lst ((cs.map ay).map _))) p=_
   rw[aa,e2]
  rw[e3]
  refine bV ?_
  refine⟨_,rfl,cs,rfl,hl,fun p2 iD=>?_⟩
  refine⟨cs.map Prod.fst,aa,by rw[zb];omega,_,rfl,_,rfl,_,rfl,?_⟩
  have e4:decide ((((iG (cs.map Prod.fst)).length:Nat):Int)=(((cs.map ay).length:Nat):Int))=true:=zu (by rw[(sM _).mpr hn,zb,zb])
  show if (if true=true then !decide ((((iG (cs.map Prod.fst)).length:Nat):Int)=(((cs.map ay).length:Nat):Int)) else _)=true then _ else _
  rw[if_pos rfl,e4]
  exact bV ⟨S,(Sub.new hp).trans (.new iD),q⟩
theorem rZ (T:Txt w K mg t):Ok P w base T.eO 4 (fun ds S R _=>∃ cs d,ds=[.tup (cs.map ay),d]∧cs.length≤8∧K7 S d∧R (.bl (me cs d)) S):=by
 have lh:Ok P w base T.cX 3 _:=n_ T
 refine T.eO.F.ok rX (by rintro ds S R Z ⟨d,d',e,_⟩;rw[e];rfl) ?_
 rintro bu A outer s H E ds S R Z hr ⟨cs,d,e,hl,⟨⟨⟨k,hk⟩,hz⟩,hw⟩,q⟩
 subst e
 refine⟨_,(sc (si (twd (twor (eC (tv (cb dA T.az aw (ac (dv 1) (ac (sO T.cG bP) an))))) (tw1 (bK j7 hr.units (cb bH T.bx aV (ac (dv 1) an)) (cb bH T.bx aV (ac (dv 0) an)))))) (s1 (sr db)) s0) (s1 (sr (cb lQ T.l5 hG (ac (rM (N:=["column", "value"]) (src:=[none,none]) (kG (ae fq) ["columns", "thing"] rfl rfl (by decide +kernel)) (X3 T.K6 (ac (dv 0) (ac (dv 1) an))) (V1 (show (["column", "value"]:List Str).Nodup by decide +kernel)) (tX rfl rfl) uf (fun _ _ _ _ _=>ud) (fun _ _ _ _ _=>(cf (lh.mono (by decide)) hr T.cX.m T.cX.k T.cX.b d0 (ac (ix hr.units (dv 0) di) (ac (dv 1) an))))) an))))),?_⟩
 refine⟨_,rfl,_,_,_,_,rfl,bt,hk,_,rfl,?_⟩
 rcases NK hk with ⟨ws,rfl,h0⟩ | ⟨h0,h1⟩
 ·obtain⟨Rz,rl⟩:=hw ws rfl
  rw[h0]
  refine bV ⟨_,rfl,_,rfl,_,rfl,_,rfl,_,rfl,?_⟩
  have e1:decide (((ws.length:Nat):Int)=(((cs.map ay).length:Nat):Int))=decide (ws.length=cs.length):=by rw[yC,zb];omega
  unfold me at q
  dsimp only at q
  show if (if true=true then !decide (((ws.length:Nat):Int)=(((cs.map ay).length:Nat):Int)) else _)=true then _ else _
  rw[if_pos rfl,e1]
  refine ck (fun h=>?_) (fun h=>?_)
  ·rw[nt h,zP] at q
   exact fo q
  ·have h:=nf h
   rw[h,zW] at q
   have h:=zE h
   refine⟨_,rfl,_,rfl,cs.map ay,ws,rfl,by rw[zb];exact h.symm,?_⟩
   refine comp_map pairF trivial (by show (cR (cs.map ay) ws).length≤1000;unfold cR;rw[List.length_zipWith,zb];omega) (fun d hd Q hQ=>?_) fun p hp=>?_
   ·unfold cR at hd
    obtain⟨i,ei⟩:=List.getElem?_of_mem hd
    obtain⟨x,y,e2,e3,e4⟩:=List.getElem?_zipWith_eq_some.mp ei
    subst e4
    rw[zp] at e2
    cases e5:cs[i]? with
    | none=>rw[e5] at e2;cases e2
    | some c =>
     rw[e5] at e2;cases e2
     exact⟨_,rfl,rfl,_,_,rfl,_,_,rfl,rfl,_,rfl,_,rfl,_,rfl,c.2,y,rfl,rl y (zK e3),hQ⟩
   ·refine⟨.ref p,List.zipWith (fun c v=>jw c.2 v) cs ws,rfl,?_,S,.new hp,q⟩
    show (S.set p (.lst ((cR (cs.map ay) ws).map pairF))) p=_
    rw[aa,DH fun _ _=>rfl]
 ·rw[h0]
  have e:me cs d=false:=by
   cases d with
   | tup ws=>exact absurd rfl (h1 ws)
   | _=>rfl
  rw[e] at q
  exact fk (fk (fo q))
theorem mf (T:Txt w K mg t):Ok P w base T.cA 5 (fun ds S R Z=>∃ cs k v,ds=[.tup (cs.map ay),.tup [k,v]]∧cs.length≤8∧Gt S k∧K7 S v∧(iu cs k v=true→R .au S)∧(iu cs k v=false→Z t.dP S)):=by
 have fO:Ok P w base T.cC 2 (nu (ofStr fX)):=jV T
 have uR:Ok P w base T.eO 4 _:=rZ T
 refine T.cA.F.ok uJ (by rintro ds S R Z ⟨d,d',d'',e,_⟩;rw[e];rfl) ?_
 rintro bu A outer s H E ds S R Z hr ⟨cs,k,v,e,hl,hk,hv,q1,q2⟩
 subst e
 refine⟨_,(sc (si (twd (twor (eC (tv (cb dA T.az aw (ac (dv 1) (ac (sO T.cG bP) an))))) (tw1 (bK j7 hr.units (cb bH T.bx aV (ac (dv 1) an)) di)))) (s1 (vR ⟨T.gR⟩ T.jU (ac ds an))) s0) (sc (si (eC (tv (cf (fO.mono (by decide)) hr T.cC.m T.cC.k T.cC.b d0 (ac (ix hr.units (dv 1) di) an)))) (s1 (vR ⟨T.gR⟩ T.jU (ac ds an))) s0) (s1 (si (eC (tv (cf (uR.mono (by decide)) hr T.eO.m T.eO.k T.eO.b d0 (ac (dv 0) (ac (ix hr.units (dv 1) di) an))))) (s1 (vR ⟨T.gR⟩ T.jU (ac ds an))) s0)))),?_⟩
 refine⟨_,rfl,_,_,_,_,rfl,bt,rfl,_,rfl,?_⟩
 refine bV ⟨_,rfl,_,rfl,_,rfl,bV ?_⟩
 refine⟨_,rfl,_,rfl,k,rfl,hk,_,rfl,?_⟩
 unfold iu at q1 q2
 refine ck (fun h=>?_) (fun h=>?_)
 ·rw[nt h,zP] at q2
  exact⟨sm (by decide),fo (q2 rfl)⟩
 ·rw[nf h,zW] at q1 q2
  refine⟨_,rfl,_,rfl,_,rfl,cs,v,rfl,hl,hv,_,rfl,?_⟩
  refine ck (fun h=>?_) (fun h=>?_)
  ·exact⟨sm (by decide),fo (q2 (nt h))⟩
  ·exact fo (q1 (nf h))
theorem bg (h:n≤100000):n<sizeLine:=by rw[zR];omega
structure Std where
 b:Nat
 e:Option Nat
 ws:List D
def eD:Option Nat→D
 | none=>.au
 | some n=>.int (n:Nat)
def jx (s:Std):D:=.tup [.int (s.b:Nat),eD s.e,.tup s.ws]
def Gu:List Std→Int→D
 | [],_=>.au
 | s :: r,m=>if (s.b:Int)≤m then (match s.e with | none=>.tup s.ws | some n=>if m≤(n:Int) then .tup s.ws else .au) else Gu r m
def wt (l:List Std) (m:Int):D:=Gu l.reverse m
abbrev Ra:=List (Str×Addr×List Std)
abbrev qG:=List (Str×List Std)
def gX (ra:Ra):qG:=ra.map fun r=>(r.1,r.2.2)
def dY (ra:Ra):List (Key×D):=ra.map fun r=>(Sum.inr r.1,D.ref r.2.1)
def lu (rs:qG) (k:Str):Option (List Std):=(rs.find? fun r=>decide (r.1=k)).map (·.2)
def rp (ra:Ra) (k:Str):Option (Addr×List Std):=(ra.find? fun r=>decide (r.1=k)).map (·.2)
def rq (ra:Ra) (k:Str) (s:List Std):Ra:=ra.map fun r=>if r.1=k then (r.1,r.2.1,s) else r
def AA (rs:qG) (k:Str) (s:List Std):qG:=if (lu rs k).isSome then rs.map fun r=>if r.1=k then (r.1,s) else r else rs++[(k,s)]
theorem gC (ra:Ra) (k:Str):lu (gX ra) k=(rp ra k).map (·.2):=by
 unfold lu rp gX
 induction ra with
 | nil=>rfl
 | cons r ra ih =>
  rw[zB,zQ,zQ]
  by_cases h:r.1=k
  ·rw[zu h];rfl
  ·rw[zr h];exact ih
theorem gY (ra:Ra) (k:Str):cy (dY ra) (.inr k)=(rp ra k).map fun p=>D.ref p.1:=by
 unfold cy rp dY
 induction ra with
 | nil=>rfl
 | cons r ra ih =>
  rw[zB,zQ,zQ]
  by_cases h:r.1=k
  ·rw[zu h]
   have:decide ((Sum.inr r.1:Key)=.inr k)=true:=zu (by rw[h])
   dsimp only
   rw[this];rfl
  ·rw[zr h]
   have:decide ((Sum.inr r.1:Key)=.inr k)=false:=zr fun e=>h (yD e)
   dsimp only
   rw[this];exact ih
theorem dh (h:rp ra k=some (l,s)):(k,l,s)∈ra:=by
 unfold rp at h
 cases q:ra.find? fun r=>decide (r.1=k) with
 | none=>rw[q] at h;cases h
 | some r =>
  rw[q] at h
  have h1:=List.find?_some q
  have h2:=List.mem_of_find?_eq_some q
  obtain⟨k',l',s'⟩:=r
  have e:k'=k:=zE h1
  cases h
  rw[← e];exact h2
theorem mh (h:rp ra k=none):∀ r∈ra,r.1≠k:=by
 unfold rp at h
 intro r hr e
 have:=List.find?_eq_none.mp (Option.map_eq_none_iff.mp h) r hr
 simp [e] at this
theorem iw:∀ {l:List α}{x y:α},(l.map f).Nodup→x∈l→y∈l→f x=f y→x=y
 | z :: l,x,y,nd,hx,hy,e=>by
  rw[zB] at nd
  obtain⟨n1,n2⟩:=yc.mp nd
  rcases zf.mp hx with ex | Ql
  ·rcases zf.mp hy with ey | P0
   ·rw[ex,ey]
   ·exact absurd (ze.mpr ⟨y,P0,by rw[← e,ex]⟩) n1
  ·rcases zf.mp hy with ey | P0
   ·exact absurd (ze.mpr ⟨x,Ql,by rw[e,ey]⟩) n1
   ·exact iw n2 Ql P0 e
structure AB (C:Addr) (S:aT) (a ld lr:Addr) (cs:List (Str×Str)) (dl:List D) (ra:Ra):Prop where
 ins:S a=some (.ins C [("columns",.tup (cs.map ay)),("deeds",.ref ld),("runs",.ref lr)])
 wU:S ld=some (.lst dl)
 run:S lr=some (.dw (dY ra))
 cell:∀ r∈ra,S r.2.1=some (.lst (r.2.2.map jx))
 kn:(ra.map (·.1)).Nodup
 an:(ld :: ra.map (·.2.1)).Nodup
 sz:∀ r∈ra,r.2.2.length≤dl.length
def fp (a ld lr:Addr) (ra:Ra):List Addr:=a :: ld :: lr :: ra.map (·.2.1)
def bT (C:Addr) (S:aT) (a:Addr) (F:List Addr) (cs:List (Str×Str)) (dl:List D) (rs:qG):Prop:=∃ ld lr ra,AB C S a ld lr cs dl ra∧F=fp a ld lr ra∧rs=gX ra
def vh (F F':List Addr) (S S':aT):Prop:=∀ b c,b∉F→S b=some c→b∉F'∧S' b=some c
theorem vh.trans (a:vh F F1 S S1) (b:vh F1 F2 S1 S2):vh F F2 S S2:=fun p c h e=>by obtain⟨h1,e1⟩:=a p c h e;exact b p c h1 e1
section
variable {C a ld lr:Addr}{S:aT}{cs:List (Str×Str)}{dl:List D}{ra:Ra}
theorem AB.AD (h:AB C S a ld lr cs dl ra) {l:Addr}{ds:List D} (e:S l=some (.lst ds)):l≠a∧l≠lr:=by
 constructor
 ·rintro rfl;rw[h.ins] at e;cases e
 ·rintro rfl;rw[h.run] at e;cases e
theorem AB.put (h:AB C S a ld lr cs dl ra) (hk:rp ra k=some (l,s)) (hs:s'.length≤dl.length):AB C (S.set l (.lst (s'.map jx))) a ld lr cs dl (rq ra k s'):=by
 have hm:=dh hk
 have hl:=h.cell _ hm
 obtain⟨n1,n2⟩:=h.AD hl
 obtain⟨Ws,Yk⟩:=yc.mp h.an
 have n3:l≠ld:=fun e=>Ws (by rw[← e];exact ze.mpr ⟨_,hm,rfl⟩)
 have e1:(rq ra k s').map (·.1)=ra.map (·.1):=by
  unfold rq;rw[zt];exact zY fun r _=>by dsimp only [Function.comp];split <;> rfl
 have e2:(rq ra k s').map (·.2.1)=ra.map (·.2.1):=by
  unfold rq;rw[zt];exact zY fun r _=>by dsimp only [Function.comp];split <;> rfl
 have e3:dY (rq ra k s')=dY ra:=by
  unfold dY rq;rw[zt];exact zY fun r _=>by dsimp only [Function.comp];split <;> rfl
 refine⟨by rw[af n1.symm];exact h.ins,by rw[af n3.symm];exact h.wU,by rw[af n2.symm,e3];exact h.run,fun r hr=>?_,by rw[e1];exact h.kn,by rw[e2];exact h.an,fun r hr=>?_⟩
 ·unfold rq at hr
  obtain⟨r0,vi,e⟩:=ze.mp hr
  by_cases q:r0.1=k
  ·rw[if_pos q] at e
   have er:r0=(k,l,s):=iw h.kn vi hm q
   subst er e
   rw[aa]
  ·rw[if_neg q] at e
   subst e
   have:r0.2.1≠l:=fun e=>q (by
    have:=iw Yk vi hm e
    rw[this])
   rw[af this];exact h.cell _ vi
 ·unfold rq at hr
  obtain⟨r0,vi,e⟩:=ze.mp hr
  by_cases q:r0.1=k
  ·rw[if_pos q] at e;subst e;exact hs
  ·rw[if_neg q] at e;subst e;exact h.sz _ vi
theorem AB.add (h:AB C S a ld lr cs dl ra) (hk:rp ra k=none) (hl:S l=none) (hs:s.length≤dl.length) (e1:S' l=some (.lst (s.map jx))) (e2:S' lr=some (.dw (dY (ra++[(k,l,s)])))) (e3:∀ b,b≠l→b≠lr→S' b=S b):AB C S' a ld lr cs dl (ra++[(k,l,s)]):=by
 have n1:a≠l:=gL h.ins hl
 have n2:ld≠l:=gL h.wU hl
 have n3:a≠lr:=by rintro rfl;have:=h.run;rw[h.ins] at this;cases this
 have n4:ld≠lr:=by rintro rfl;have:=h.run;rw[h.wU] at this;cases this
 refine⟨by rw[e3 _ n1 n3];exact h.ins,by rw[e3 _ n2 n4];exact h.wU,e2,fun r hr=>?_,?_,?_,fun r hr=>?_⟩
 ·rcases zI.mp hr with hr | hr
  ·have hc:=h.cell r hr
   rw[e3 _ (gL hc hl) (h.AD hc).2];exact hc
  ·rw[zH.mp hr];exact e1
 ·rw[zD]
  exact lO h.kn fun m=>by
   obtain⟨r,hr,e⟩:=ze.mp m
   exact mh hk r hr e
 ·rw[zD,← List.cons_append]
  refine lO h.an fun m=>?_
  rcases zf.mp m with e | m
  ·exact n2 e.symm
  ·obtain⟨r,hr,e⟩:=ze.mp m
   exact gL (h.cell r hr) hl e
 ·rcases zI.mp hr with hr | hr
  ·exact h.sz r hr
  ·rw[zH.mp hr];exact hs
theorem AB.Gv (h:AB C S a ld lr cs dl ra) (d:D):AB C (S.set ld (.lst (dl++[d]))) a ld lr cs (dl++[d]) ra:=by
 obtain⟨n1,n2⟩:=h.AD h.wU
 obtain⟨Ws,Yk⟩:=yc.mp h.an
 refine⟨by rw[af n1.symm];exact h.ins,aa,by rw[af n2.symm];exact h.run,fun r hr=>?_,h.kn,h.an,fun r hr=>by rw[zy];exact zG (h.sz r hr) (Nat.le_add_right _ _)⟩
 rw[af fun e=>Ws (by rw[← e];exact ze.mpr ⟨r,hr,rfl⟩)]
 exact h.cell r hr
end
def BK (C:Addr):gG:=fun ds S R _=>∃ a F cs dl rs,ds=[.ref a]∧bT C S a F cs dl rs∧R (.int (dl.length:Nat)) S
theorem AE (T:Txt w K mg t):jL P w mg base T.bF 1 (BK t.ag):=by
 refine T.bF.F.ok uN (by rintro ds S R Z ⟨_,_,_,_,_,e,_⟩;rw[e];rfl) ?_
 rintro bu A outer s H E ds S R Z hr ⟨a,F,cs,dl,rs,e,⟨ld,lr,ra,h,_⟩,q⟩
 subst e
 refine⟨_,(s1 (sr (cb bH T.bx aV (ac (fl T.aq T.cK (dv 0)) an)))),?_⟩
 exact⟨_,rfl,a,_,_,rfl,h.ins,rfl,_,rfl,.inl ⟨dl,h.wU,fo q⟩⟩
theorem dZ (T:Txt w K mg t):jL P w mg base T.ar 1 (fun ds S R _=>∃ a F cs dl rs,ds=[.ref a]∧bT t.ag S a F cs dl rs∧R (.tup (cs.map ay)) S):=by
 refine T.ar.F.ok ju (by rintro ds S R Z ⟨_,_,_,_,_,e,_⟩;rw[e];rfl) ?_
 rintro bu A outer s H E ds S R Z hr ⟨a,F,cs,dl,rs,e,⟨ld,lr,ra,h,_⟩,q⟩
 subst e
 refine⟨_,(s1 (sr (fl T.aq T.cQ (dv 0)))),?_⟩
 exact⟨_,rfl,a,_,_,rfl,h.ins,rfl,fo q⟩
def r9 (n:Nat):D→Option Int
 | .au=>some n
 | .int i=>if 0≤i∧i≤(n:Int) then some i else none
 | _=>none
def Jz (C N:Addr):gG:=fun ds S R Z=>∃ a F cs dl rs m,ds=[.ref a,m]∧bT C S a F cs dl rs∧Gt S m∧(∀ i,r9 dl.length m=some i→R (.int i) S)∧(r9 dl.length m=none→Z N S)
theorem iM (T:Txt w K mg t):jL P w mg base T.aP 2 (Jz t.ag t.eN):=by
 have dH:jL P w mg base T.bF 1 (BK t.ag):=AE T
 have k9:Ok P w base T.cW 1 (nu k8):=n8 T
 refine T.aP.F.ok iU (by rintro ds S R Z ⟨_,_,_,_,_,_,e,_⟩;rw[e];rfl) ?_
 rintro bu A outer s H E ds S R Z hr ⟨a,F,cs,dl,rs,m,e,hS,hm,q1,q2⟩
 subst e
 obtain⟨ld,lr,ra,h,hF,rm⟩:=id hS
 refine⟨_,(sc (si (bK mL hr.units (dv 1) dn) (s1 (sr (ub (dv 0) T.aq T.bF.e (dH.mono (by decide)) hr T.bF.b d0))) s0) (sc (si (twd (twor (eC (tv (cf (k9.mono (by decide)) hr T.cW.m T.cW.k T.cW.b d0 (ac (dv 1) an)))) (tw1 (eC (Vi kJ kJ hr.units di (dv 1) (ub (dv 0) T.aq T.bF.e (dH.mono (by decide)) hr T.bF.b d0)))))) (s1 (vR ⟨T.k7⟩ T.wH (ac ds an))) s0) (s1 (sr (dv 1))))),?_⟩
 refine⟨_,rfl,_,rfl,?_⟩
 refine ck (fun h1=>?_) (fun h1=>?_)
 ·have e:m=.au:=by cases m <;> first | rfl | cases h1
  subst e
  exact⟨_,rfl,a,_,rfl,h.ins,rfl,a,F,cs,dl,rs,rfl,hS,fo (q1 _ rfl)⟩
 ·refine⟨_,rfl,m,rfl,hm,_,rfl,?_⟩
  refine ck (fun h2=>?_) (fun h2=>?_)
  ·have h2:=nt h2
   have e:r9 dl.length m=none:=by
    cases m with
    | au=>cases h1
    | int i=>cases h2
    | _=>rfl
   exact fk ⟨sm (by decide),fo (q2 e)⟩
  ·have h2:=nf h2
   obtain⟨i,rfl⟩:∃ i,m=.int i:=by cases m <;> first | exact⟨_,rfl⟩ | cases h2
   refine⟨_,rfl,_,rfl,?_⟩
   refine ck (fun h3=>?_) (fun h3=>?_)
   ·have h3:0≤i:=zE h3
    refine⟨_,rfl,a,_,rfl,h.ins,rfl,a,F,cs,dl,rs,rfl,hS,_,rfl,?_⟩
    refine ck (fun h4=>?_) (fun h4=>?_)
    ·have h4:¬ i≤((dl.length:Nat):Int):=zX (nt h4)
     exact⟨sm (by decide),fo (q2 (if_neg fun z=>h4 z.2))⟩
    ·have h4:i≤((dl.length:Nat):Int):=zE (nf h4)
     exact⟨_,rfl,fo (q1 i (if_pos ⟨h3,h4⟩))⟩
   ·have h3:¬ 0≤i:=zX h3
    exact⟨_,rfl,fk ⟨sm (by decide),fo (q2 (if_neg fun z=>h3 z.1))⟩⟩
theorem jy (T:Txt w K mg t):Ok P w base T.bC 1 (fun ds S R _=>∃ l tq m,ds=[.ref l,.int m]∧S l=some (.lst (tq.map jx))∧R (wt tq m) S):=by
 refine T.bC.F.ok jt (by rintro ds S R Z ⟨_,_,_,e,_⟩;rw[e];rfl) ?_
 rintro bu A outer s H E ds S R Z hr ⟨l,tq,m,e,hl,q⟩
 subst e
 refine⟨_,(sc (CU (Hy (ZV T.qA (ac (dv 0) an)) (gn (i:=2) jt.nd) (s1 (si (bK kJ hr.units (ix hr.units (dv 2) di) (dv 1)) (s1 (sr (XT (twd (twor (bK mL hr.units (ix hr.units (dv 2) di) dn) (tw1 (bK kJ hr.units (dv 1) (ix hr.units (dv 2) di))))) (ix hr.units (dv 2) di) dn))) s0)))) (s1 (sr dn))),?_⟩
 refine⟨fun aK S'=>S'=S∧wt tq m=.au,?_,?_⟩
 ·refine⟨_,rfl,_,_,rfl,hl,?_⟩
  refine⟨fun i aK S'=>(∃ o,aK=[some (.ref l),some (.int m),o])∧S'=S∧wt tq m=Gu (tq.reverse.drop i) m,⟨⟨none,rfl⟩,rfl,by rw[List.drop_zero];rfl⟩,fun i aK S' h=>by rw[h.2.1];exact hl,?_,?_⟩
  ·rintro i d aK S' hd ⟨⟨o,rfl⟩,rfl,hw⟩
   rw[← List.map_reverse,zp] at hd
   cases e1:tq.reverse[i]? with
   | none=>rw[e1] at hd;cases hd
   | some sd =>
    rw[e1] at hd;cases hd
    have e2:tq.reverse.drop i=sd :: tq.reverse.drop (i+1):=by
     obtain⟨hi,e⟩:=zo.mp e1
     rw[List.drop_eq_getElem_cons hi,e]
    obtain⟨sb,se,sw⟩:=sd
    rw[e2] at hw
    refine⟨_,rfl,_,rfl,_,rfl,_,rfl,?_⟩
    unfold Gu at hw
    refine ck (fun h=>?_) (fun h=>?_)
    ·rw[if_pos (zE h)] at hw
     refine⟨_,rfl,_,rfl,_,rfl,?_⟩
     cases se with
     | none =>
      refine fk (fk ⟨_,rfl,_,rfl,?_⟩)
      rw[hw] at q
      exact fo q
     | some n =>
      refine bV ⟨_,rfl,_,rfl,_,rfl,_,rfl,?_⟩
      dsimp only at hw
      refine ck (fun h=>?_) (fun h=>?_)
      ·rw[if_pos (zE h)] at hw
       rw[hw] at q
       exact⟨_,rfl,_,rfl,fo q⟩
      ·rw[if_neg (zX h)] at hw
       rw[hw] at q
       exact fo q
    ·rw[if_neg (zX h)] at hw
     exact⟨⟨_,rfl⟩,rfl,hw⟩
  ·rintro aK S' ⟨_,rfl,hw⟩
   refine fo ⟨rfl,?_⟩
   rw[hw,yr,zb,List.drop_eq_nil_of_le (by rw[yr];exact zl _)]
   rfl
 ·rintro aK S' ⟨rfl,hw⟩
  rw[hw] at q
  exact fo q
def rA (rs:qG) (k:D) (i:Int):D:=match k with
 | .str z=>if fX z=true then wt ((lu rs z).getD []) i else .au
 | _=>.au
def RA (C N:Addr):gG:=fun ds S R Z=>∃ a F cs dl rs k m,ds=[.ref a,k,m]∧bT C S a F cs dl rs∧Gt S k∧Gt S m∧(∀ i,r9 dl.length m=some i→R (rA rs k i) S)∧(r9 dl.length m=none→Z N S)
theorem mi (T:Txt w K mg t):jL P w mg base T.bN 3 (RA t.ag t.eN):=by
 have cL:jL P w mg base T.aP 2 _:=iM T
 have fO:Ok P w base T.cC 2 (nu (ofStr fX)):=jV T
 have gD:Ok P w base T.bC 1 _:=jy T
 refine T.bN.F.ok fN (by rintro ds S R Z ⟨_,_,_,_,_,_,_,e,_⟩;rw[e];rfl) ?_
 rintro bu A outer s H E ds S R Z hr ⟨a,F,cs,dl,rs,k,m,e,hS,hk,hm,q1,q2⟩
 subst e
 obtain⟨ld,lr,ra,h,hF,rm⟩:=id hS
 refine⟨_,(sc (eI (i:=3) fN.nd (sR (dv 0) T.aq T.aP.e (cL.mono (by decide)) hr T.aP.b d0 (ac (dv 2) an))) (sc (si (eC (tv (cf (fO.mono (by decide)) hr T.cC.m T.cC.k T.cC.b d0 (ac (dv 1) an)))) (s1 (sr dn)) s0) (s1 (sr (cf (gD.mono (by decide)) hr T.bC.m T.bC.k T.bC.b d0 (ac (ZO hr.units (fl T.aq T.bS (dv 0)) (dv 1) (dI an)) (ac (dv 3) an))))))),?_⟩
 refine⟨_,rfl,a,_,rfl,h.ins,rfl,_,rfl,a,F,cs,dl,rs,m,rfl,hS,hm,fun i hi=>?_,fun hn=>fo (q2 hn)⟩
 have q:=q1 i hi
 refine⟨_,rfl,k,rfl,hk,_,rfl,?_⟩
 refine ck (fun h1=>?_) (fun h1=>?_)
 ·have e:rA rs k i=.au:=by
   cases k with
   | str z=>exact if_neg (by rw[show fX z=false from nt h1];exact zd)
   | _=>rfl
  rw[e] at q
  exact fo q
 ·have h1:=nf h1
  obtain⟨z,rfl⟩:∃ z,k=.str z:=by
   cases k with
   | str z=>exact⟨z,rfl⟩
   | _=>cases h1
  have e:rA rs (.str z) i=wt ((lu rs z).getD []) i:=if_pos h1
  rw[e] at q
  refine⟨_,rfl,a,_,_,rfl,h.ins,rfl,lr,_,rfl,h.run,_,rfl,sm (by decide),fun p hp=>⟨dY ra,.inr z,?_,rfl,?_⟩⟩
  ·rw[af (gL h.run hp)];exact h.run
  ·rw[gY]
   refine⟨_,rfl,?_⟩
   cases e1:rp ra z with
   | none =>
    have e2:lu rs z=none:=by rw[rm,gC,e1];rfl
    rw[e2] at q
    exact⟨p,[],i,rfl,aa,S,.new hp,q⟩
   | some ls =>
    obtain⟨l,tq⟩:=ls
    have e2:lu rs z=some tq:=by rw[rm,gC,e1];rfl
    rw[e2] at q
    have hc:=h.cell _ (dh e1)
    exact⟨l,tq,i,rfl,by rw[af (gL hc hp)];exact hc,S,.new hp,q⟩
theorem K8 (h:rp ra k=some (l,s)):AA (gX ra) k s'=gX (rq ra k s'):=by
 unfold AA
 rw[gC,h,if_pos (show (Option.map (fun x:Addr×List Std=>x.2) (some (l,s))).isSome=true from rfl)]
 unfold gX rq
 rw[zt,zt]
 exact zY fun r _=>by dsimp only [Function.comp];split <;> rfl
theorem NL (h:rp ra k=none):AA (gX ra) k s=gX (ra++[(k,l,s)]):=by
 unfold AA
 rw[gC,h,if_neg (show ¬ (Option.map (fun x:Addr×List Std=>x.2) none).isSome=true from zd)]
 unfold gX
 rw[zD];rfl
theorem NM (h:rp ra k=none):dput (dY ra) (.inr k) (.ref l)=dY (ra++[(k,l,s)]):=by
 unfold dput
 have e:((dY ra).any fun kv=>decide (kv.1=.inr k))=false:=by
  rw[List.any_eq_false]
  intro x hx
  unfold dY at hx
  obtain⟨r,hr,rfl⟩:=ze.mp hx
  simp only [yp]
  exact fun e=>mh h r hr (yD e)
 rw[e,if_neg zd]
 unfold dY
 rw[zD];rfl
theorem Gw:fp a ld lr (rq ra k s)=fp a ld lr ra:=by
 unfold fp rq
 rw[zt]
 congr 3
 exact zY fun r _=>by dsimp only [Function.comp];split <;> rfl
theorem qH (h:l∈F):vh F F S (S.set l c):=fun b x hb e=>⟨hb,by rw[af (show b≠l from fun z=>hb (by rw[z];exact h))];exact e⟩
theorem Gx (h:r∈ra):r.2.1∈fp a ld lr ra:=zh _ (zh _ (zh _ (ze.mpr ⟨r,h,rfl⟩)))
def JA (C:Addr):gG:=fun ds S R _=>∃ a F cs dl rs z ws,ds=[.ref a,.str z,.tup ws]∧bT C S a F cs dl rs∧((lu rs z).getD []).length<dl.length∧dl.length≤9000∧rs.length≤9000 ∧
 ∀ S' F',bT C S' a F' cs dl (AA rs z ((lu rs z).getD []++[Std.mk dl.length none ws]))→vh F F' S S'→R .au S'
theorem wV (T:Txt w K mg t):jL P w mg base T.aH 2 (JA t.ag):=by
 have dH:jL P w mg base T.bF 1 (BK t.ag):=AE T
 refine T.aH.F.ok gU (by rintro ds S R Z ⟨_,_,_,_,_,_,_,e,_⟩;rw[e];rfl) ?_
 rintro bu A outer s H E ds S R Z hr ⟨a,F,cs,dl,rs,z,ws,e,⟨ld,lr,ra,h,hF,rm⟩,hl,hd,hn,q⟩
 subst e hF rm
 have Ht:(dY ra).length≤9000:=by unfold gX at hn;unfold dY;rw[zb] at hn ⊢;exact hn
 refine⟨_,(s1 (se (bm zJ zU zV cT (ZQ (fl T.aq T.bS (dv 0)) (dv 1) (dI an)) (ac (dJ (ac (ub (dv 0) T.aq T.bF.e (dH.mono (by decide)) hr T.bF.b d0) (ac dn (ac (dv 2) an)))) an)))),?_⟩
 refine⟨_,rfl,a,_,_,rfl,h.ins,rfl,lr,dY ra,rfl,h.run,_,rfl,sm (by decide),fun p hp=>⟨dY ra,.inr z,?_,rfl,bg (by omega),fun d HM=>?_,fun hn=>?_⟩⟩
 ·rw[af (gL h.run hp)];exact h.run
 ·rw[gY] at HM
  cases e1:rp ra z with
  | none=>rw[e1] at HM;cases HM
  | some ls =>
   obtain⟨l,tq⟩:=ls
   rw[e1] at HM;cases HM
   have e2:lu (gX ra) z=some tq:=by rw[gC,e1];rfl
   rw[e2] at q hl
   have hc:=h.cell _ (dh e1)
   have LJ:(S.set p (.lst [])) l=some (.lst (tq.map jx)):=by rw[af (gL hc hp)];exact hc
   have Yl:(S.set p (.lst [])) a=some (.ins t.ag [("columns",.tup (cs.map ay)),("deeds",.ref ld),("runs",.ref lr)]):=by rw[af (gL h.ins hp)];exact h.ins
   have nX:AB t.ag (S.set p (.lst [])) a ld lr cs dl ra:=⟨Yl,by rw[af (gL h.wU hp)];exact h.wU,by rw[af (gL h.run hp)];exact h.run,fun r hr=>by rw[af (gL (h.cell r hr) hp)];exact h.cell r hr,h.kn,h.an,h.sz⟩
   refine⟨⟨rfl,_,LJ⟩,_,rfl,a,_,rfl,Yl,rfl,a,_,cs,dl,_,rfl,⟨ld,lr,ra,nX,rfl,rfl⟩,_,rfl,iV,?_⟩
   have hle:tq.length<dl.length:=hl
   refine⟨l,tq.map jx,_,rfl,rfl,LJ,bg (by rw[zb];omega),S.set l (.lst ((tq++[Std.mk dl.length none ws]).map jx)),fun b c hb=>?_,q _ _ ⟨ld,lr,_,h.put e1 (by rw[zy];show tq.length+1≤_;omega),rfl,K8 e1⟩ ?_⟩
   ·by_cases Wt:b=l
    ·subst Wt;rw[aa] at hb ⊢;rw[zD] at hb;exact hb
    ·rw[af Wt] at hb
     rw[af Wt,af (gL hb hp)];exact hb
   ·rw[Gw];exact qH (Gx (dh e1))
 ·rw[gY] at hn
  cases e1:rp ra z with
  | some ls=>rw[e1] at hn;cases hn
  | none =>
   have e2:lu (gX ra) z=none:=by rw[gC,e1];rfl
   rw[e2] at q hl
   have Ym:p≠lr:=(gL h.run hp).symm
   generalize BL:(S.set p (.lst [])).set lr _=S1
   have Wu:S1 p=some (.lst []):=by rw[← BL,af Ym,aa]
   have Yn:S1 lr=some (.dw (dY (ra++[(z,p,[])]))):=by rw[← BL,aa,NM e1]
   have Wv:∀ b,b≠p→b≠lr→S1 b=S b:=fun b h1 h2=>by rw[← BL,af h2,af h1]
   have nX:AB t.ag S1 a ld lr cs dl (ra++[(z,p,[])]):=h.add e1 hp (ya _) Wu Yn Wv
   refine⟨⟨rfl,_,Wu⟩,_,rfl,a,_,rfl,nX.ins,rfl,a,_,cs,dl,_,rfl,⟨ld,lr,_,nX,rfl,rfl⟩,_,rfl,iV,?_⟩
   refine⟨p,[],_,rfl,rfl,Wu,bg (by show 0≤_;omega),S1.set p (.lst ([Std.mk dl.length none ws].map jx)),.refl _,q _ _ ⟨ld,lr,ra++[(z,p,[Std.mk dl.length none ws])],h.add e1 hp (by show 1≤_;have:0<dl.length:=hl;omega) aa ?_ (fun b h1 h2=>by rw[af h1];exact Wv b h1 h2),rfl,NL e1⟩ ?_⟩
   ·rw[af Ym.symm,Yn];unfold dY;rw[zD,zD];rfl
   ·intro b c hb e
    have h1:b≠p:=gL e hp
    have h2:b≠lr:=fun z=>hb (by rw[z];exact zh _ (zh _ zx))
    refine⟨fun m=>?_,by rw[af h1,Wv b h1 h2];exact e⟩
    unfold fp at m hb
    rw[zD] at m
    rcases zf.mp m with m | m
    ·exact hb (m ▸ zx)
    ·rcases zf.mp m with m | m
     ·exact hb (m ▸ zh _ zx)
     ·rcases zf.mp m with m | m
      ·exact h2 m
      ·rcases zI.mp m with m | m
       ·exact hb (zh _ (zh _ (zh _ m)))
       ·exact h1 (zH.mp m)
def iy (n:Nat) (l:List Std):List Std:=l.dropLast++(l.getLast?.map fun s=>Std.mk s.b (some n) s.ws).toList
def lj (rs:qG) (z:Str) (n:Nat):qG:=AA rs z (iy n ((lu rs z).getD []))
def oM (rs:qG) (z:Str) (n:Nat) (ws:List D):qG:=AA rs z ((lu rs z).getD []++[Std.mk n none ws])
theorem Gy (h:bT C S a F cs dl rs) (z:Str):((lu rs z).getD []).length≤dl.length:=by
 obtain⟨ld,lr,ra,h,_,rfl⟩:=h
 rw[gC]
 cases e:rp ra z with
 | none=>exact ya _
 | some ls=>exact h.sz _ (dh (l:=ls.1) (s:=ls.2) e)
theorem JB (rs:qG) (z:Str) (s:List Std):(AA rs z s).length≤rs.length+1:=by
 unfold AA
 split
 ·rw[zb];omega
 ·rw[zy];exact zl _
theorem ft:lu (r :: rs) k=if r.1=k then some r.2 else lu rs k:=by
 unfold lu
 rw[zQ]
 by_cases h:r.1=k
 ·rw[zu h,if_pos h];rfl
 ·rw[zr h,if_neg h]
theorem jz:lu (AA rs z s) k=if k=z then some s else lu rs k:=by
 unfold AA
 by_cases hs:(lu rs z).isSome=true
 ·rw[if_pos hs]
  by_cases hk:k=z
  ·subst hk
   rw[if_pos rfl]
   induction rs with
   | nil=>cases hs
   | cons r rs ih =>
    rw[zB,ft]
    by_cases h:r.1=k
    ·rw[if_pos h,if_pos h]
    ·rw[if_neg h,if_neg h]
     rw[ft,if_neg h] at hs
     exact ih hs
  ·rw[if_neg hk]
   clear hs
   induction rs with
   | nil=>rfl
   | cons r rs ih =>
    rw[zB,ft,ft,ih]
    by_cases h:r.1=z
    ·rw[if_pos h,if_neg (show ¬ r.1=k from fun e=>hk (e.symm.trans h)),if_neg (show ¬ r.1=k from fun e=>hk (e.symm.trans h))]
    ·rw[if_neg h]
 ·rw[if_neg hs]
  have hn:lu rs z=none:=by cases e:lu rs z <;> simp_all
  clear hs
  induction rs with
  | nil =>
   rw[List.nil_append,ft]
   by_cases hk:k=z
   ·rw[if_pos hk,if_pos hk.symm]
   ·rw[if_neg hk,if_neg fun e=>hk e.symm]
  | cons r rs ih =>
   rw[ft] at hn
   by_cases h:r.1=z
   ·rw[if_pos h] at hn;cases hn
   ·rw[if_neg h] at hn
    rw[List.cons_append,ft,ft,ih hn]
    by_cases h2:r.1=k
    ·rw[if_pos h2,if_pos h2,if_neg (show ¬ k=z from fun e=>h (h2.trans e))]
    ·rw[if_neg h2,if_neg h2]
def RB (C:Addr):gG:=fun ds S R _=>∃ a F cs dl rs z,ds=[.ref a,.str z]∧bT C S a F cs dl rs∧(∃ s,lu rs z=some s∧s≠[])∧dl.length≤9000 ∧
 ∀ S',bT C S' a F cs dl (lj rs z dl.length)→vh F F S S'→R .au S'
theorem jW (h:l≠[]):∃ r s,l=r++[s]:=⟨l.dropLast,l.getLast h,(List.dropLast_concat_getLast h).symm⟩
theorem eX (n:Nat) (r:List Std) (s:Std):iy n (r++[s])=r++[Std.mk s.b (some n) s.ws]:=by
 unfold iy
 rw[List.dropLast_concat,List.getLast?_concat];rfl
theorem Gz (T:Txt w K mg t):jL P w mg base T.aO 2 (RB t.ag):=by
 have dH:jL P w mg base T.bF 1 (BK t.ag):=AE T
 refine T.aO.F.ok eG (by rintro ds S R Z ⟨_,_,_,_,_,_,e,_⟩;rw[e];rfl) ?_
 rintro bu A outer s H E ds S R Z hr ⟨a,F,cs,dl,rs,z,e,⟨ld,lr,ra,h,hF,rm⟩,⟨s0,OL,DK⟩,hd,q⟩
 subst e hF rm
 rw[gC] at OL
 cases e1:rp ra z with
 | none=>rw[e1] at OL;cases OL
 | some ls =>
  obtain⟨l,tq⟩:=ls
  rw[e1] at OL;cases OL
  obtain⟨r,sd,rfl⟩:=jW DK
  have hlen:=h.sz _ (dh e1)
  dsimp only at hlen
  rw[zy] at hlen
  have hlen:r.length+1≤dl.length:=hlen
  have hc:=h.cell _ (dh e1)
  dsimp only at hc
  have ed:cy (dY ra) (.inr z)=some (.ref l):=by rw[gY,e1];rfl
  refine⟨_,(sc (eI (i:=2) eG.nd (XY zJ PySem.F.slot_list_pop PySem.F.type_list_pop KC (ix hr.units (fl T.aq T.bS (dv 0)) (dv 1)))) (s1 (se (bm zJ zU zV cT (ix hr.units (fl T.aq T.bS (dv 0)) (dv 1)) (ac (dJ (ac (ix hr.units (dv 2) di) (ac (ub (dv 0) T.aq T.bF.e (dH.mono (by decide)) hr T.bF.b d0) (ac (ix hr.units (dv 2) di) an)))) an))))),?_⟩
  refine⟨_,rfl,a,_,_,rfl,h.ins,rfl,_,rfl,dY ra,_,h.run,ed,⟨rfl,_,hc⟩,l,_,jx sd,rfl,rfl,hc,?_,?_⟩
  ·rw[zD,zy];show (r.map jx++[jx sd])[(r.map jx).length+1 - 1]?=_;simp
  have e2:((r++[sd]).map jx).dropLast=r.map jx:=by rw[zD];exact List.dropLast_concat
  rw[e2]
  have h1:AB t.ag (S.set l (.lst (r.map jx))) a ld lr cs dl (rq ra z r):=h.put e1 (by omega)
  generalize BL:S.set l _=S1 at h1
  have Ww:rp (rq ra z r) z=some (l,r):=by
   have hm:(z,l,r)∈rq ra z r:=by unfold rq;exact ze.mpr ⟨_,dh e1,if_pos rfl⟩
   cases e3:rp (rq ra z r) z with
   | none=>exact absurd rfl (mh e3 _ hm)
   | some x=>exact congrArg some (congrArg Prod.snd (iw (f:=fun r:Str×Addr×List Std=>r.1) h1.kn (dh (l:=x.1) (s:=x.2) e3) hm rfl))
  have ed':cy (dY (rq ra z r)) (.inr z)=some (.ref l):=by rw[gY,Ww];rfl
  have Tj:=h1.cell _ (dh Ww)
  refine⟨_,rfl,a,_,_,rfl,h1.ins,rfl,_,rfl,_,_,h1.run,ed',⟨rfl,_,Tj⟩,_,rfl,_,rfl,_,rfl,a,_,rfl,h1.ins,rfl,a,_,cs,dl,_,rfl,⟨ld,lr,_,h1,rfl,rfl⟩,_,rfl,_,rfl,iV,l,_,_,rfl,rfl,Tj,bg (by rw[zb];show r.length≤_;omega),?_⟩
  have h2:=h1.put (s':=r++[Std.mk sd.b (some dl.length) sd.ws]) Ww (by rw[zy];exact hlen)
  have e4:lj (gX ra) z dl.length=gX (rq (rq ra z r) z (r++[Std.mk sd.b (some dl.length) sd.ws])):=by
   unfold lj
   rw[gC,e1]
   show AA (gX ra) z (iy dl.length (r++[sd]))=_
   rw[eX,K8 e1]
   unfold gX rq
   rw[zt,zt,zt]
   exact zY fun x _=>by dsimp only [Function.comp];by_cases hx:x.1=z <;> simp [hx]
  refine⟨_,?_,q _ ⟨ld,lr,_,h2,by rw[Gw,Gw],e4⟩ ?_⟩
  ·show Sub (S1.set l (.lst ((r++[_]).map jx))) (S1.set l (.lst (r.map jx++[_])))
   rw[zD];exact .refl _
  ·rw[← BL,dy];exact qH (Gx (dh e1))
theorem BM (h:ofStr fX d=true):∃ z,d=.str z∧fX z=true:=by
 cases d with
 | str z=>exact⟨z,rfl,h⟩
 | _=>cases h
theorem BN (h:iu cs k v=true):∃ z ws,k=.str z∧v=.tup ws∧fX z=true:=by
 unfold iu at h
 rw[zL] at h
 obtain⟨z,rfl,hz⟩:=BM h.1
 cases v with
 | tup ws=>exact⟨z,ws,rfl,rfl,hz⟩
 | _=>exact absurd h.2 zd
theorem uS:Gt S .au:=⟨⟨.au,rfl⟩,fun _=>nofun⟩
theorem K9 (h:ah (wt l m)=false):l≠[]:=by
 rintro rfl
 cases h
theorem uT (hz:fX z=true) (i:Int):rA rs (.str z) i=wt ((lu rs z).getD []) i:=if_pos hz
theorem iN (T:Txt w K mg t):jL P w mg base T.aN 4 (fun ds S R Z=>∃ a F cs dl rs k,ds=[.ref a,k]∧bT t.ag S a F cs dl rs∧Gt S k ∧
  (ah (rA rs k dl.length)=false→R .au S)∧(ah (rA rs k dl.length)=true→Z t.ip S)):=by
 have d_:jL P w mg base T.bN 3 _:=mi T
 refine T.aN.F.ok iT (by rintro ds S R Z ⟨_,_,_,_,_,_,e,_⟩;rw[e];rfl) ?_
 rintro bu A outer s H E ds S R Z hr ⟨a,F,cs,dl,rs,k,e,hS,hk,q1,q2⟩
 subst e
 obtain⟨ld,lr,ra,h,_⟩:=id hS
 refine⟨_,(s1 (si (bK mL hr.units (sR (dv 0) T.aq T.bN.e (d_.mono (by decide)) hr T.fh d1 (ac (dv 1) an)) dn) (s1 (vR ⟨T.uF⟩ T.Gm (ac ds an))) s0)),?_⟩
 refine⟨_,rfl,a,_,rfl,h.ins,rfl,_,rfl,a,F,cs,dl,rs,k,.au,rfl,hS,hk,uS,fun i hi=>?_,fun hn=>by cases hn⟩
 cases hi
 refine⟨_,rfl,?_⟩
 refine ck (fun h1=>?_) (fun h1=>?_)
 ·exact⟨oJ,fo (q2 h1)⟩
 ·exact fo (q1 h1)
theorem NN (T:Txt w K mg t):jL P w mg base T.cP 6 (fun ds S R Z=>∃ a F cs dl rs k v,ds=[.ref a,k,v]∧bT t.ag S a F cs dl rs∧cs.length≤8∧Gt S k∧K7 S v∧dl.length≤8000∧rs.length≤8000 ∧
  (iu cs k v=false→Z t.dP S)∧(iu cs k v=true→ah (rA rs k dl.length)=false→Z t.lX S) ∧
  (∀ z ws,k=.str z→v=.tup ws→iu cs k v=true→ah (rA rs k dl.length)=true→∀ S' F',bT t.ag S' a F' cs (dl++[.tup [.str "put",k,v]]) (oM rs z (dl.length+1) ws)→vh F F' S S'→R .au S')):=by
 have d_:jL P w mg base T.bN 3 _:=mi T
 have jA:Ok P w base T.cA 5 _:=mf T
 have cu:jL P w mg base T.aH 2 _:=wV T
 refine T.cP.F.ok uM (by rintro ds S R Z ⟨_,_,_,_,_,_,_,e,_⟩;rw[e];rfl) ?_
 rintro bu A outer s H E ds S R Z hr ⟨a,F,cs,dl,rs,k,v,e,hS,hc,hk,hv,hd,hn,q1,q2,q3⟩
 subst e
 obtain⟨ld,lr,ra,h,hF,rm⟩:=id hS
 refine⟨_,(sc (se (cf (jA.mono (by decide)) hr T.cA.m T.cA.k T.cA.b d0 (ac (fl T.aq T.cQ (dv 0)) (ac (dJ (ac (dv 1) (ac (dv 2) an))) an)))) (sc (si (bK pW hr.units (sR (dv 0) T.aq T.bN.e (d_.mono (by decide)) hr T.fh d1 (ac (dv 1) an)) dn) (s1 (vR ⟨T.qB⟩ T.Du (ac ds an))) s0) (sc (se (bm zJ zU zV cT (fl T.aq T.cK (dv 0)) (ac (dJ (ac ds (ac (dv 1) (ac (dv 2) an)))) an))) (s1 (se (sR (dv 0) T.aq T.aH.e (cu.mono (by decide)) hr T.aH.b d0 (ac (dv 1) (ac (dv 2) an)))))))),?_⟩
 refine⟨_,rfl,a,_,_,rfl,h.ins,rfl,_,rfl,_,rfl,cD,cs,k,v,rfl,hc,hk,hv,fun GA=>?_,fun vi=>fo (q1 vi)⟩
 refine⟨_,rfl,a,_,rfl,h.ins,rfl,_,rfl,a,F,cs,dl,rs,k,.au,rfl,hS,hk,uS,fun i hi=>?_,fun hn=>by cases hn⟩
 cases hi
 refine⟨_,rfl,?_⟩
 refine ck (fun h1=>?_) (fun h1=>?_)
 ·exact⟨oJ,fo (q2 GA (nt h1))⟩
 ·obtain⟨z,ws,rfl,rfl,hz⟩:=BN GA
  refine⟨_,rfl,a,_,_,rfl,h.ins,rfl,⟨rfl,_,h.wU⟩,_,rfl,_,rfl,iV,ld,dl,_,rfl,rfl,h.wU,bg (by omega),?_⟩
  have CD:=h.Gv (.tup [.str "put",.str z,.tup ws])
  have BL:bT t.ag (S.set ld (.lst (dl++[.tup [.str "put",.str z,.tup ws]]))) a F cs (dl++[.tup [.str "put",.str z,.tup ws]]) rs:=⟨ld,lr,ra,CD,hF,rm⟩
  have hl:=Gy hS z
  refine⟨_,rfl,a,_,rfl,CD.ins,rfl,_,rfl,_,rfl,a,F,cs,_,rs,z,ws,rfl,BL,by rw[zy];exact Nat.lt_succ_of_le hl,by rw[zy];show dl.length+1≤_;omega,by omega,fun S' F' nX hK=>fo (q3 z ws rfl rfl GA (nf h1) S' F' ?_ ?_)⟩
  ·have:(dl++[D.tup [.str "put",.str z,.tup ws]]).length=dl.length+1:=zy
   rw[this] at nX;exact nX
  ·refine vh.trans (qH ?_) hK
   rw[hF];exact zh _ zx
theorem DL (T:Txt w K mg t):jL P w mg base T.bz 6 (fun ds S R Z=>∃ a F cs dl rs k v,ds=[.ref a,k,v]∧bT t.ag S a F cs dl rs∧cs.length≤8∧Gt S k∧K7 S v∧dl.length≤8000∧rs.length≤8000 ∧
  (iu cs k v=false→Z t.dP S)∧(iu cs k v=true→ah (rA rs k dl.length)=true→Z t.ip S) ∧
  (∀ z ws,k=.str z→v=.tup ws→iu cs k v=true→ah (rA rs k dl.length)=false→∀ S' F',bT t.ag S' a F' cs (dl++[.tup [.str "change",k,v]]) (oM (lj rs z dl.length) z (dl.length+1) ws)→vh F F' S S'→R .au S')):=by
 have cM:jL P w mg base T.aN 4 _:=iN T
 have jA:Ok P w base T.cA 5 _:=mf T
 have cu:jL P w mg base T.aH 2 _:=wV T
 have cN:jL P w mg base T.aO 2 _:=Gz T
 refine T.bz.F.ok oI (by rintro ds S R Z ⟨_,_,_,_,_,_,_,e,_⟩;rw[e];rfl) ?_
 rintro bu A outer s H E ds S R Z hr ⟨a,F,cs,dl,rs,k,v,e,hS,hc,hk,hv,hd,hn,q1,q2,q3⟩
 subst e
 obtain⟨ld,lr,ra,h,hF,rm⟩:=id hS
 refine⟨_,(sc (se (cf (jA.mono (by decide)) hr T.cA.m T.cA.k T.cA.b d0 (ac (fl T.aq T.cQ (dv 0)) (ac (dJ (ac (dv 1) (ac (dv 2) an))) an)))) (sc (se (sR (dv 0) T.aq T.aN.e (cM.mono (by decide)) hr T.aN.b d0 (ac (dv 1) an))) (sc (se (sR (dv 0) T.aq T.aO.e (cN.mono (by decide)) hr T.aO.b d0 (ac (dv 1) an))) (sc (se (bm zJ zU zV cT (fl T.aq T.cK (dv 0)) (ac (dJ (ac ds (ac (dv 1) (ac (dv 2) an)))) an))) (s1 (se (sR (dv 0) T.aq T.aH.e (cu.mono (by decide)) hr T.aH.b d0 (ac (dv 1) (ac (dv 2) an))))))))),?_⟩
 refine⟨_,rfl,a,_,_,rfl,h.ins,rfl,_,rfl,_,rfl,cD,cs,k,v,rfl,hc,hk,hv,fun GA=>?_,fun vi=>fo (q1 vi)⟩
 refine⟨_,rfl,a,_,rfl,h.ins,rfl,_,rfl,a,F,cs,dl,rs,k,rfl,hS,hk,fun h1=>?_,fun h1=>fo (q2 GA h1)⟩
 obtain⟨z,ws,rfl,rfl,hz⟩:=BN GA
 have DK:∃ s,lu rs z=some s∧s≠[]:=by
  rw[uT hz] at h1
  have:=K9 h1
  cases e:lu rs z with
  | none=>rw[e] at this;exact absurd rfl this
  | some s=>rw[e] at this;exact⟨s,rfl,this⟩
 refine⟨_,rfl,a,_,rfl,h.ins,rfl,_,rfl,a,F,cs,dl,rs,z,rfl,hS,DK,by omega,fun S1 BL RC=>?_⟩
 obtain⟨O5,Wx,Wy,CD,RD,NO⟩:=id BL
 refine⟨_,rfl,a,_,_,rfl,CD.ins,rfl,⟨rfl,_,CD.wU⟩,_,rfl,_,rfl,iV,O5,dl,_,rfl,rfl,CD.wU,bg (by omega),?_⟩
 have h2:=CD.Gv (.tup [.str "change",.str z,.tup ws])
 have BO:bT t.ag (S1.set O5 (.lst (dl++[.tup [.str "change",.str z,.tup ws]]))) a F cs (dl++[.tup [.str "change",.str z,.tup ws]]) (lj rs z dl.length):=⟨O5,Wx,Wy,h2,RD,NO⟩
 have hl:=Gy BL z
 have C1:(lj rs z dl.length).length≤rs.length+1:=JB _ _ _
 refine⟨_,rfl,a,_,rfl,h2.ins,rfl,_,rfl,_,rfl,a,F,cs,_,_,z,ws,rfl,BO,by rw[zy];exact Nat.lt_succ_of_le hl,by rw[zy];show dl.length+1≤_;omega,by omega,fun S' F' nX hK=>fo (q3 z ws rfl rfl GA h1 S' F' ?_ ?_)⟩
 ·have:(dl++[D.tup [.str "change",.str z,.tup ws]]).length=dl.length+1:=zy
  rw[this] at nX;exact nX
 ·refine RC.trans (vh.trans (qH ?_) hK)
  rw[RD];exact zh _ zx
theorem JC (T:Txt w K mg t):jL P w mg base T.cn 6 (fun ds S R Z=>∃ a F cs dl rs k,ds=[.ref a,k]∧bT t.ag S a F cs dl rs∧Gt S k∧dl.length≤8000 ∧
  (ofStr fX k=false→Z t.dP S)∧(ofStr fX k=true→ah (rA rs k dl.length)=true→Z t.ip S) ∧
  (∀ z,k=.str z→fX z=true→ah (rA rs k dl.length)=false→∀ S',bT t.ag S' a F cs (dl++[.tup [.str "take",k]]) (lj rs z dl.length)→vh F F S S'→R .au S')):=by
 have cM:jL P w mg base T.aN 4 _:=iN T
 have fO:Ok P w base T.cC 2 (nu (ofStr fX)):=jV T
 have cN:jL P w mg base T.aO 2 _:=Gz T
 refine T.cn.F.ok rY (by rintro ds S R Z ⟨_,_,_,_,_,_,e,_⟩;rw[e];rfl) ?_
 rintro bu A outer s H E ds S R Z hr ⟨a,F,cs,dl,rs,k,e,hS,hk,hd,q1,q2,q3⟩
 subst e
 obtain⟨ld,lr,ra,h,hF,rm⟩:=id hS
 refine⟨_,(sc (si (eC (tv (cf (fO.mono (by decide)) hr T.cC.m T.cC.k T.cC.b d0 (ac (dv 1) an)))) (s1 (vR ⟨T.gR⟩ T.jU (ac ds an))) s0) (sc (se (sR (dv 0) T.aq T.aN.e (cM.mono (by decide)) hr T.aN.b d0 (ac (dv 1) an))) (sc (se (sR (dv 0) T.aq T.aO.e (cN.mono (by decide)) hr T.aO.b d0 (ac (dv 1) an))) (s1 (se (bm zJ zU zV cT (fl T.aq T.cK (dv 0)) (ac (dJ (ac ds (ac (dv 1) an))) an))))))),?_⟩
 refine⟨_,rfl,k,rfl,hk,_,rfl,?_⟩
 refine ck (fun h0=>?_) (fun h0=>?_)
 ·exact⟨oJ,fo (q1 (nt h0))⟩
 ·have h0:=nf h0
  refine⟨_,rfl,a,_,rfl,h.ins,rfl,_,rfl,a,F,cs,dl,rs,k,rfl,hS,hk,fun h1=>?_,fun h1=>fo (q2 h0 h1)⟩
  obtain⟨z,rfl,hz⟩:=BM h0
  have DK:∃ s,lu rs z=some s∧s≠[]:=by
   rw[uT hz] at h1
   have:=K9 h1
   cases e:lu rs z with
   | none=>rw[e] at this;exact absurd rfl this
   | some s=>rw[e] at this;exact⟨s,rfl,this⟩
  refine⟨_,rfl,a,_,rfl,h.ins,rfl,_,rfl,a,F,cs,dl,rs,z,rfl,hS,DK,by omega,fun S1 BL RC=>?_⟩
  obtain⟨O5,Wx,Wy,CD,RD,NO⟩:=id BL
  refine⟨_,rfl,a,_,_,rfl,CD.ins,rfl,⟨rfl,_,CD.wU⟩,_,rfl,cD,O5,dl,_,rfl,rfl,CD.wU,bg (by omega),?_⟩
  refine fo (q3 z rfl hz h1 _ ⟨O5,Wx,Wy,CD.Gv _,RD,NO⟩ (RC.trans (qH ?_)))
  rw[RD];exact zh _ zx
theorem JD (T:Txt w K mg t):jL P w mg base T.dR 5 (fun ds S R _=>∃ a cs,ds=[.ref a,.tup (cs.map ay)]∧Gd cs∧S a=some (.ins t.ag [])∧∀ S' F,bT t.ag S' a F cs [] []→vh [a] F S S'→R .au S'):=by
 have oN:Ok P w base T.cz 4 _:=nC T
 refine T.dR.F.ok l_ (by rintro ds S R Z ⟨_,_,e,_⟩;rw[e];rfl) ?_
 rintro bu A outer s H E ds S R Z hr ⟨a,cs,e,hg,ha,q⟩
 subst e
 refine⟨_,(sc (se (cf (oN.mono (by decide)) hr T.cz.m T.cz.k T.cz.b d0 (ac (dv 1) an))) (sc (sf T.aq T.cQ (dv 0) (dv 1)) (sc (sf T.aq T.cK (dv 0) (dI an)) (s1 (sf T.aq T.bS (dv 0) Qy))))),?_⟩
 refine⟨_,rfl,cs,rfl,hg,_,rfl,_,rfl,a,[],rfl,ha,(show 0<1000 by decide),?_⟩
 refine⟨uO,fun ld JE=>⟨_,rfl,a,[("columns",.tup (cs.map ay))],rfl,?_,(show 1<1000 by decide),fun lr C1=>⟨_,rfl,a,[("columns",.tup (cs.map ay)),("deeds",.ref ld)],rfl,?_,(show 2<1000 by decide),?_⟩⟩⟩
 ·have nl:a≠ld:=by rintro rfl;rw[aa] at JE;cases JE
  rw[af nl,aa];rfl
 ·have nl:a≠lr:=by rintro rfl;rw[aa] at C1;cases C1
  rw[af nl,aa];rfl
 have n1:a≠ld:=by rintro rfl;rw[aa] at JE;cases JE
 have n2:a≠lr:=by rintro rfl;rw[aa] at C1;cases C1
 have n3:ld≠lr:=by rintro rfl;rw[af n1.symm,aa] at C1;cases C1
 rw[af n1.symm] at JE
 rw[af n2.symm,af n3.symm,af n2.symm] at C1
 refine fo (q _ (fp a ld lr []) ⟨ld,lr,[],⟨aa,?_,?_,fun r hr=>(nomatch hr),List.nodup_nil,(by simp),fun r hr=>(nomatch hr)⟩,rfl,rfl⟩ fun b c hb e=>?_)
 ·rw[af n1.symm,af n3,af n1.symm,aa]
 ·rw[af n2.symm,aa];rfl
 ·have b1:b≠a:=fun z=>hb (by rw[z];exact zx)
  have b2:b≠ld:=gL e JE
  have b3:b≠lr:=gL e C1
  refine⟨fun m=>?_,by rw[af b1,af b3,af b1,af b2,af b1];exact e⟩
  unfold fp at m
  simp only [List.map_nil,zf,zF,or_false] at m
  rcases m with m | m | m
  ·exact b1 m
  ·exact b2 m
  ·exact b3 m
def uU (rs:qG) (i:Int) (z:Str):D:=.tup [.str z,wt ((lu rs z).getD []) i]
def lq (rs:qG) (i:Int) (ss:List Str):List D:=(ss.filter fun z=>!ah (wt ((lu rs z).getD []) i)).map (uU rs i)
def uV:D→Bool
 | .tup [_,x]=>!ah x
 | _=>false
theorem wW (ss:List Str):((ss.map (uU rs i)).filter uV).map id=lq rs i ss:=by
 unfold lq
 rw[List.map_id,List.filter_map]
 rfl
def K_ (C N:Addr):gG:=fun ds S R Z=>∃ a F cs dl rs m,ds=[.ref a,m]∧bT C S a F cs dl rs∧rs.length<64∧Gt S m ∧
 (∀ i ss,r9 dl.length m=some i→ss.Perm (rs.map (·.1))→PyProof.Rows.sortedS ss=true→∀ p,S p=none→R (.ref p) (S.set p (.lst (lq rs i ss))))∧(r9 dl.length m=none→Z N S)
theorem DM (T:Txt w K mg t):jL P w mg base T.dS 3 (K_ t.ag t.eN):=by
 have cL:jL P w mg base T.aP 2 _:=iM T
 have gD:Ok P w base T.bC 1 _:=jy T
 refine T.dS.F.ok fc (by rintro ds S R Z ⟨_,_,_,_,_,_,e,_⟩;rw[e];rfl) ?_
 rintro bu A outer s H E ds S R Z hr ⟨a,F,cs,dl,rs,m,e,hS,hn,hm,q1,q2⟩
 subst e
 obtain⟨ld,lr,ra,h,hF,rm⟩:=id hS
 have ek:(dY ra).map (·.1)=(rs.map (·.1)).map Sum.inr:=by
  rw[rm];unfold dY gX;rw[zt,zt,zt];rfl
 have el:(dY ra).length<64:=by rw[rm] at hn;unfold gX at hn;unfold dY;rw[zb] at hn ⊢;exact hn
 refine⟨_,(sc (eI (i:=2) fc.nd (sR (dv 0) T.aq T.aP.e (cL.mono (by decide)) hr T.aP.b d0 (ac (dv 1) an))) (sc (OR (i:=3) (N:=["key", "then", "self"]) (src:=[none,some 2,some 0]) fc.nd (kG (ae (inClass aA 10)) ["self", "moment", "then", "rows"] rfl rfl (by decide +kernel)) (il (cb pX T.fK eJ (ac (fl T.aq T.bS (dv 0)) an))) (oZ (show (["key", "then", "self"]:List Str).Nodup by decide +kernel)) (a_ rfl) ba (fun _ _ _ _ _=>ud) (fun _ _ _ _ _=>(dJ (ac (dv 0) (ac (cf (gD.mono (by decide)) hr T.bC.m T.bC.k T.bC.b d0 (ac (ix hr.units (fl T.aq T.bS (dv 2)) (dv 0)) (ac (dv 1) an))) an))))) (s1 (sr (rM (N:=["row"]) (src:=[none]) (kG (ae (inClass aA 10)) ["self", "moment", "then", "rows"] rfl rfl (by decide +kernel)) (il (dv 3)) (oZ (show (["row"]:List Str).Nodup by decide +kernel)) (a_ rfl) ba (fun _ _ _ _ _=>(if1 (bK pW hr.units (ix hr.units (dv 0) di) dn))) (fun _ _ _ _ _=>(dv 0))))))),?_⟩
 refine⟨_,rfl,a,_,rfl,h.ins,rfl,_,rfl,a,F,cs,dl,rs,m,rfl,hS,hm,fun i hi=>?_,fun hn=>fo (q2 hn)⟩
 refine⟨_,rfl,a,_,_,rfl,h.ins,rfl,lr,dY ra,rs.map (·.1),rfl,h.run,ek,el,fun ss hp hs p uW=>?_⟩
 have hlen:ss.length<64:=by rw[hp.length_eq,zb];exact hn
 refine⟨_,aa,?_⟩
 refine comp_map (fun d=>match d with | .str z=>uU rs i z | _=>.au) aa (by show (ss.map D.str).length≤1000;rw[zb];omega) (fun d hd Q hQ=>?_) fun p2 iD=>?_
 ·obtain⟨z,hz,rfl⟩:=ze.mp hd
  have Vf:z∈rs.map (·.1):=hp.mem_iff.mp hz
  obtain⟨r,jX,e⟩:=ze.mp Vf
  rw[rm] at jX
  unfold gX at jX
  obtain⟨r0,vi,rfl⟩:=ze.mp jX
  have e1:rp ra z=some r0.2:=by
   cases e3:rp ra z with
   | none=>exact absurd e (mh e3 _ vi)
   | some x=>exact congrArg some (congrArg Prod.snd (iw (f:=fun r:Str×Addr×List Std=>r.1) h.kn (dh (l:=x.1) (s:=x.2) e3) vi e.symm))
  have ed:cy (dY ra) (.inr z)=some (.ref r0.2.1):=by rw[gY,e1];rfl
  have hc:=h.cell _ vi
  have eq:(lu rs z).getD []=r0.2.2:=by rw[rm,gC,e1];rfl
  have hQ:Q (.tup [.str z,wt ((lu rs z).getD []) i]) (S.set p (.lst (ss.map D.str))):=hQ
  rw[eq] at hQ
  have hi1:(S.set p (.lst (ss.map D.str))) a=_:=(af (gL h.ins uW)).trans h.ins
  have GA:(S.set p (.lst (ss.map D.str))) lr=_:=(af (gL h.run uW)).trans h.run
  have Tj:(S.set p (.lst (ss.map D.str))) r0.2.1=_:=(af (gL hc uW)).trans hc
  exact⟨_,rfl,_,rfl,a,_,_,rfl,hi1,rfl,_,rfl,dY ra,_,GA,ed,_,rfl,_,_,i,rfl,Tj,cD,hQ⟩
 ·have em:(ss.map D.str).map (fun d=>match d with | .str z=>uU rs i z | _=>.au)=ss.map (uU rs i):=by rw[zt];rfl
  refine⟨_,rfl,ss.map (uU rs i),by show ((S.set p _).set p2 (.lst ((ss.map D.str).map _))) p2=_;rw[aa,em],?_⟩
  refine dG uV id (by show ((S.set p _).set p2 (.lst ((ss.map D.str).map _))) p2=_;rw[aa,em]) (by show (ss.map (uU rs i)).length≤1000;rw[zb];omega) (fun d hd Q Q' hQ AF=>?_) fun p3 La=>?_
  ·obtain⟨z,hz,rfl⟩:=ze.mp hd
   refine⟨_,rfl,_,rfl,_,rfl,?_⟩
   exact ck (fun h=>⟨_,rfl,hQ h⟩) fun h=>AF h
  ·have Wz:S p3=none:=by
    cases e:S p3 with
    | none=>rfl
    | some c=>exact absurd La (by
      rw[af (gL e (by
       have:(S.set p (.lst (ss.map D.str))) p2=none:=iD
       cases e':S p2 with
       | none=>rfl
       | some c'=>rw[af (gL e' uW),e'] at this;cases this)),af (gL e uW),e];exact nofun)
   refine⟨S.set p3 (.lst (lq rs i ss)),fun b c hb=>?_,q1 i ss hi hp hs p3 Wz⟩
   show ((((S.set p (.lst (ss.map D.str))).set p2 _).set p3 (.lst (((ss.map (uU rs i)).filter uV).map id)))) b=some c
   rw[wW]
   by_cases WA:b=p3
   ·subst WA;rw[aa] at hb ⊢;exact hb
   ·rw[af WA] at hb
    have WB:S p2=none:=by
     cases e':S p2 with
     | none=>rfl
     | some c'=>have:(S.set p (.lst (ss.map D.str))) p2=none:=iD;rw[af (gL e' uW),e'] at this;cases this
    rw[af WA,af (gL hb WB),af (gL hb uW)];exact hb
theorem JF {P:Program}{w:World}{K:PySem.W.Frag}{mg:Str→Option Value}{base:Heap}{k:Nat}{f:Addr}{fd:FuncData}{ps:List Str}{pre:List D→Prop}
  (F:Yj P w K mg base k f fd ps (fun ds S R _=>pre ds∧∀ l x y z,S l=none→R (.ref l) (S.set l (.lst [.int x,.int y,.int z])))):Yj P w K mg base k f fd ps (fun ds S R _=>pre ds∧∀ l,S l=none→R (.ref l) (S.set l .well)):=by
 refine F.imp fun vs H Q E ⟨ds,S,R,Z,v,hS,⟨hp,h⟩,hR,hZ⟩=>⟨ds,S,fun d S2=>∃ l x y z,S l=none∧d=.ref l∧S2=S.set l (.lst [.int x,.int y,.int z]),fun _ _=>False,v,hS,⟨hp,fun l x y z hl=>⟨l,x,y,z,hl,rfl,rfl⟩⟩,fun d S2 u H' ⟨l,x,y,z,hl,e1,e2⟩ rv hs kp=>?_,fun _ _ _ q=>q.elim⟩
 subst e1 e2
 refine hR _ _ u H' (h l hl) rv ?_ kp
 refine sW (x:=x) (y:=y) (z:=z) aa ?_
 rw[dy];exact hs
def WC (ds:List D) (l:Addr):Prop:=∃ m:Int,ds=[.ref l,.int m]∧0<m∧m.natAbs.log2<9000
def RE (ds:List D) (d:D):Prop:=∃ (l:Addr) (m n:Int),ds=[.ref l,.int m]∧d=.int n∧0≤n∧n<m
theorem AG (T:Txt w K mg t):Ok P w base T.aU 1 (fun ds S R _=>∃ (ns:List Int) (k:Nat),ds=[.i5 (ns.map D.int),.int k]∧∀ c:Int,R (.int c) S):=by
 refine T.aU.F.ok uL (by rintro ds S R Z ⟨_,_,e,_⟩;rw[e];rfl) ?_
 rintro bu A outer s H E ds S R Z hr ⟨ns,k,e,q⟩
 subst e
 refine⟨_,(sc (si (bK yS hr.units (dv 1) (cb bH T.bx aV (ac (dv 0) an))) (s1 (sr (ix hr.units (dv 0) (dv 1)))) s0) (s1 (sr di))),?_⟩
 refine⟨_,rfl,_,rfl,_,rfl,_,rfl,?_⟩
 refine ck (fun h=>?_) (fun h=>?_)
 ·have h:(k:Int)<(((ns.map D.int).length:Nat):Int):=zE h
  have hk:k<ns.length:=by rw[zb] at h;omega
  exact⟨_,rfl,_,rfl,.int ns[k],fj (by rw[zp];simp [hk]),fo (q _)⟩
 ·exact fo (q 0)
theorem JG (T:Txt w K mg t):Ok P w base T.dm 1 (fun ds S R _=>(∃ c:Int,ds=[.int c])∧∀ l,S l=none→R (.ref l) (S.set l .well)):=by
 refine JF ?_
 refine T.dm.F.ok Dz (by rintro ds S R Z ⟨⟨_,e⟩,_⟩;rw[e];rfl) ?_
 rintro bu A outer s H E ds S R Z hr ⟨⟨c,e⟩,q⟩
 subst e
 refine⟨_,(s1 (sr (dI (ac (bo kr hr.units (dv 0) (ct vO T.s9 mJ (ac (cm Vv hr.units (dv 0) (bo Bq hr.units di di)) an))) (ac (bo ku hr.units (dv 0) di) (ac di an)))))),?_⟩
 refine⟨_,rfl,_,rfl,⟨by decide,by decide,by decide⟩,.inr ⟨_,rfl,?_⟩⟩
 refine⟨.inr ⟨by split <;> decide,by split <;> decide⟩,_,rfl,by decide,iV,fun l hl=>fo (q l _ _ _ hl)⟩
theorem JH (T:Txt w K mg t):Ok P w base T.ak 1 (Fp WC RE):=by
 refine CT ?_
 refine T.ak.F.ok eQ (by rintro ds S R Z ⟨_,_,_,_,⟨_,e,_⟩,_⟩;rw[e];rfl) ?_
 rintro bu A outer s H E ds S R Z hr ⟨l,x,y,z,⟨m,e,hm,Tp⟩,hl,q⟩
 subst e
 refine⟨_,(sc (si (bK oy hr.units (ix hr.units (dv 0) di) di) (sc (eI (i:=2) eQ.nd (bo ku hr.units (ix hr.units (dv 0) di) (dv 1))) (sc (X4 (dv 0) di (bo yR hr.units (ix hr.units (dv 0) di) (dv 1))) (s1 (sr (dv 2))))) s0) (sc (eI (i:=2) eQ.nd di) (sc (CU (Hy (OQ T.jT (ac (bo eF hr.units di (bo kr hr.units di (ct vO T.s9 mJ (ac (cm oy hr.units (dv 1) (bo Bq hr.units di di)) an)))) an)) (gn (i:=3) eQ.nd) (sc (X4 (dv 0) di (bo eF hr.units (ix hr.units (dv 0) di) di)) (sc (eI (i:=4) eQ.nd (bo ku hr.units (bo kr hr.units (bo eF hr.units (bo eF hr.units (ix hr.units (dv 0) di) (bo kr hr.units di (ix hr.units (dv 0) di))) di) di) di)) (sc (eI (i:=4) eQ.nd (bo ku hr.units (bo kr hr.units (dv 4) (bo eF hr.units (bo yR hr.units (dv 4) di) di)) di)) (s1 (eI (i:=2) eQ.nd (bo eF hr.units (bo kr hr.units (dv 2) di) (bo ku hr.units (bo kr hr.units (dv 4) (bo eF hr.units (bo yR hr.units (dv 4) di) di)) di))))))))) (s1 (sr (bo ku hr.units (dv 2) (dv 1))))))),?_⟩
 refine⟨_,rfl,_,_,hl,rfl,_,rfl,?_⟩
 refine ck (fun h=>?_) (fun h=>?_)
 ·refine⟨_,rfl,_,_,hl,rfl,_,rfl,hm,?_⟩
  refine⟨_,rfl,_,_,hl,rfl,_,rfl,⟨hm,Tp⟩,_,rfl,l,_,0,0,rfl,rfl,hl,rfl,?_⟩
  exact⟨_,rfl,fo (q _ _ _ _ ⟨l,m,_,rfl,rfl,Int.emod_nonneg _ (by omega),Int.emod_lt_of_pos _ hm⟩)⟩
 ·refine⟨fun aK S'=>∃ (f:Int) (o1 o2:Option D) (x y z:Int),aK=[some (.ref l),some (.int m),some (.int f),o1,o2]∧S'=S.set l (.lst [.int x,.int y,.int z]),?_,?_⟩
  ·refine⟨_,rfl,⟨by decide,by decide,by decide⟩,.inr ⟨_,rfl,.inl ⟨by decide,by decide⟩,_,rfl,?_,?_,?_⟩⟩
   ·split <;> decide
   ·split <;> decide
   refine⟨fun i aK S'=>∃ (f:Int) (o1 o2:Option D) (x y z:Int),aK=[some (.ref l),some (.int m),some (.int f),o1,o2]∧S'=S.set l (.lst [.int x,.int y,.int z]),⟨0,none,none,x,y,z,rfl,?_⟩,fun _ _ _ _=>trivial,?_,fun aK S' h=>fo h⟩
   ·funext b;unfold aT.set;split
    ·rename_i h;rw[h];exact hl
    ·rfl
   rintro i d aK S' hd ⟨f,o1,o2,x,y,z,rfl,rfl⟩
   have Ek:(S.set l (.lst [.int x,.int y,.int z])) l=some (.lst [.int x,.int y,.int z]):=aa
   refine⟨_,rfl,_,_,Ek,rfl,_,rfl,l,_,2,2,rfl,rfl,Ek,rfl,?_⟩
   rw[dy,show ([D.int x,D.int y,D.int z].set 2 (D.int (z+1)))=[D.int x,D.int y,D.int (z+1)] from rfl]
   have Bg:(S.set l (.lst [.int x,.int y,.int (z+1)])) l=some (.lst [.int x,.int y,.int (z+1)]):=aa
   refine⟨_,rfl,_,_,Bg,rfl,_,rfl,_,_,Bg,rfl,.inl ⟨by decide,by decide⟩,.inr ⟨by decide,by decide⟩,(show (0:Int)<2147483647 by decide),?_⟩
   have nb:∀ z:Int,0≤z % 2147483647∧z % 2147483647<2147483647:=fun z=>⟨Int.emod_nonneg z (by decide),Int.emod_lt_of_pos z (by decide)⟩
   have n1:=nb ((y+7919 * (z+1)+1) * 48271)
   generalize (y+7919 * (z+1)+1) * 48271 % 2147483647=u at *
   refine⟨_,rfl,_,rfl,⟨by decide,by decide +kernel⟩,.inl ⟨by omega,by omega⟩,(show (0:Int)<2147483647 by decide),?_⟩
   have n2:=nb (u * (u / 1009+69621))
   generalize u * (u / 1009+69621) % 2147483647=v at *
   exact⟨_,rfl,.inr ⟨by decide,by decide⟩,_,rfl,_,rfl,⟨by decide,by decide +kernel⟩,.inl ⟨by omega,by omega⟩,(show (0:Int)<2147483399 by decide),_,_,_,_,_,_,rfl,rfl⟩
  ·rintro aK S' ⟨f,o1,o2,x,y,z,rfl,rfl⟩
   exact⟨_,rfl,_,rfl,hm,fo (q _ _ _ _ ⟨l,m,_,rfl,rfl,Int.emod_nonneg _ (by omega),Int.emod_lt_of_pos _ hm⟩)⟩
def iz:gG:=fun ds S R _=>∃ (l:Addr) (m:Int),ds=[.ref l,.int m]∧0<m∧m.natAbs.log2<9000∧S l=some .well∧∀ n:Int,0≤n→n<m→R (.int n) S
theorem og {P:Program}{w:World}{K:PySem.W.Frag}{mg:Str→Option Value}{base:Heap}{t:o3} (T:Txt w K mg t):Ok P w base T.ak 1 iz :=
 (JH T).Nk <| by rintro ds S R Z ⟨l,m,e,h0,h1,hw,q⟩;exact⟨l,⟨m,e,h0,h1⟩,hw,by rintro d ⟨l',m',n,e1,e2,a,b⟩;exact by rw[e] at e1;cases e1;subst e2;exact q n a b⟩
theorem wl {S:aT}{l p:Addr}{c:Ce} (hw:S l=some .well) (hp:S p=none):(S.set p c) l=some .well:=(af (gL hw hp)).trans hw
theorem ee {L:List D}{S:aT}{p:Addr}{n:Int}{R:KD} (h0:0≤n) (h1:n<(L.length:Int)) (hp:S p=none) (q:∀ d,d∈L→R d S):∃ ds d,(S.set p (.lst L)) p=some (.lst ds)∧lK ds n=some d∧Fo (S.set p (.lst L)) (R d):=by
 obtain⟨v,e1,e2⟩:=Bj (l:=L) h0 h1
 exact⟨L,v,aa,e1,S,.new hp,q v (zK e2)⟩
theorem uX {m:Int} (h0:0<m) (h1:m≤8000):m.natAbs.log2<9000:=by
 have h2:m.natAbs≤8000:=by omega
 have h3:m.natAbs.log2≤m.natAbs:=Nat.log2_le_self _
 omega
abbrev KT:List Str:=["a", "ab", "b", "abc", "a1", "key", "z", "ba", "b2", "abcdefghijkl"]
abbrev WD:List Str:=["k0", "k1", "k2", "k3", "k4", "k5", "k6", "k7", "k8", "k9", "k10", "k11", "k12", "k13", "k14", "k15", "k16", "k17", "k18", "k19"]
abbrev KS:List Str:=KT++WD
theorem BP (h:z∈KT):z∈KS:=z0 _ h
theorem jB:∀ z∈KS,fX z=true∧z.cps.size≤12∧PyData.strOk z=true:=by decide +kernel
abbrev BQ:List Str:=["key", "up", "a", "at", "ab", "mark", "every", "now"]
theorem GB:∀ z∈BQ,jv z=true∧PyData.strOk z=true:=by decide +kernel
def fP:D→Bool
 | .au=>true
 | .int _=>true
 | .str z=>decide (z.cps.size≤40) && PyData.strOk z
 | _=>false
def Vg (kind:Str) (d:D):Prop:=jw kind d=true∧fP d=true
abbrev Yo:List Str:=["", "a", "ab", "b", "A b", "#"]
abbrev Yp:List Str:=["", "a", "\""]
theorem GC:∀ a∈("~~~~~~~~~~~~~~~~~~~~~~~~~~~~~~~~~~~~~~~" : Str) :: Yo,∀ b∈Yp,tm (a++b)=true∧(a++b).cps.size≤40∧PyData.strOk (a++b)=true∧a.length+b.length≤1000:=by decide +kernel
theorem NP:PySem.Txt.mul "~" 39 = "~~~~~~~~~~~~~~~~~~~~~~~~~~~~~~~~~~~~~~~" := by decide +kernel
theorem NQ:MulOk "~" 39:=⟨by decide,by decide,by decide +kernel⟩
def RF (pre:List D→Prop) (post:List D→D→Prop):gG:=fun ds S R _=>∃ l r,ds=.ref l :: r∧pre r∧S l=some .well∧∀ d,post r d→R d S
theorem GF (T:Txt w K mg t):Ok P w base T.kx 2 (RF (·=[]) fun _ d=>∃ z∈KT,d=.str z):=by
 have aD:Ok P w base T.ak 1 iz:=og T
 refine T.kx.F.ok Gr (by rintro ds S R Z ⟨_,_,e,e2,_⟩;rw[e,e2];rfl) ?_
 rintro bu A outer s H E ds S R Z hr ⟨l,r,e,e2,hw,q⟩
 subst e e2
 refine⟨_,(s1 (sr (CV (ix hr.units (dI (ac ds (ac ds (ac ds (ac ds (ac ds (ac ds (ac ds (ac ds (ac ds (ac ds an))))))))))) (cf (aD.mono (by decide)) hr T.ak.m T.ak.k T.ak.b d0 (ac (dv 0) (ac di an))))))),?_⟩
 refine⟨Ry,fun p hp=>⟨_,rfl,l,_,rfl,(by decide),(by decide),wl hw hp,fun n h0 h1=>ee h0 h1 hp fun d hd=>?_⟩⟩
 have hd:d∈KT.map D.str:=hd
 obtain⟨z,hz,rfl⟩:=ze.mp hd
 exact fo (q _ ⟨z,hz,rfl⟩)
theorem wX (T:Txt w K mg t):Ok P w base T.eT 2 (RF (fun r=>r=[.str "number"]∨r=[.str "word"]) fun r d=>∃ k,r=[.str k]∧Vg k d):=by
 have aD:Ok P w base T.ak 1 iz:=og T
 refine T.eT.F.ok qC (fun ds S R Z ⟨_,_,e,e2,_⟩=>by rw[e];rcases e2 with e2 | e2 <;> rw[e2] <;> rfl) (fun bu A outer s H E ds S R Z hr ⟨l,r,e,e2,hw,q⟩=>?_)
 subst e
 obtain⟨k,rfl,hk⟩:∃ k,r=[.str k]∧(k = "number" ∨ k = "word"):=by
  rcases e2 with e | e
  ·exact⟨_,e,.inl rfl⟩
  ·exact⟨_,e,.inr rfl⟩
 have q:∀ d,Vg k d→R d S:=fun d hd=>q d ⟨k,rfl,hd⟩
 have hint:k = "number" → ∀ i:Int,R (.int i) S:=fun e i=>q _ ⟨by rw[e];rfl,rfl⟩
 refine⟨_,(sc (si (bK bc hr.units (cf (aD.mono (by decide)) hr T.ak.m T.ak.k T.ak.b d0 (ac (dv 0) (ac di an))) di) (s1 (sr dn)) s0) (sc (si (twd (twand (bK bc hr.units (dv 1) ds) (tw1 (bK bc hr.units (cf (aD.mono (by decide)) hr T.ak.m T.ak.k T.ak.b d0 (ac (dv 0) (ac di an))) di)))) (s1 (sr (bo sQ hr.units (cf (aD.mono (by decide)) hr T.ak.m T.ak.k T.ak.b d0 (ac (dv 0) (ac (bo kr hr.units di (bo Bq hr.units di di)) an))) (bo Bq hr.units di di)))) s0) (sc (si (bK bc hr.units (dv 1) ds) (s1 (sr (bo sQ hr.units (cf (aD.mono (by decide)) hr T.ak.m T.ak.k T.ak.b d0 (ac (dv 0) (ac di an))) di))) s0) (sc (eI (i:=2) qC.nd (CV (ix hr.units (dI (ac ds (ac ds (ac ds (ac ds (ac ds (ac ds (ac (bo kr hr.units ds di) an)))))))) (cf (aD.mono (by decide)) hr T.ak.m T.ak.k T.ak.b d0 (ac (dv 0) (ac di an)))))) (s1 (sr (bo eF hr.units (dv 2) (CV (ix hr.units (dI (ac ds (ac ds (ac ds (ac ds an))))) (cf (aD.mono (by decide)) hr T.ak.m T.ak.k T.ak.b d0 (ac (dv 0) (ac di an)))))))))))),?_⟩
 refine⟨_,rfl,l,_,rfl,(by decide),(by decide),hw,fun n h0 h1=>⟨_,rfl,?_⟩⟩
 refine ck (fun h=>?_) (fun h=>?_)
 ·exact fo (q .au ⟨rfl,rfl⟩)
 refine⟨_,rfl,_,rfl,?_⟩
 refine ck (fun h2=>?_) (fun h2=>?_)
 ·have ek:k = "number" := zE h2
  refine⟨_,rfl,l,_,rfl,(by decide),(by decide),hw,fun n1 Yq RG=>⟨_,rfl,?_⟩⟩
  refine ck (fun h3=>?_) (fun h3=>?_)
  ·refine⟨_,rfl,⟨by decide,by decide,by decide⟩,.inl ⟨by decide,by decide⟩,l,_,rfl,(by decide +kernel),(by decide +kernel),hw,fun n2 WE WG=>⟨⟨by decide,by decide,by decide⟩,fo (hint ek _)⟩⟩
  ·refine⟨_,rfl,_,rfl,?_⟩
   show if decide (k = "number")=true then _ else _
   rw[zu ek]
   exact fk ⟨_,rfl,l,_,rfl,(by decide),(by decide),hw,fun n2 WE WG=>fo (hint ek _)⟩
 ·have ek:¬ k = "number" := zX h2
  have ek':k = "word" := hk.resolve_left ek
  refine⟨_,rfl,_,rfl,?_⟩
  show if decide (k = "number")=true then _ else _
  rw[zr ek]
  refine bV ?_
  refine⟨NQ,Wq,fun p hp=>⟨_,rfl,l,_,rfl,(by decide),(by decide),wl hw hp,fun n1 Yq RG=>ee Yq RG hp fun d hd=>?_⟩⟩
  rw[NP] at hd
  have hd:d∈[D.str "",.str "a",.str "ab",.str "b",.str "A b",.str "#",.str "~~~~~~~~~~~~~~~~~~~~~~~~~~~~~~~~~~~~~~~"]:=hd
  obtain⟨a,ha,rfl⟩:∃ a∈("~~~~~~~~~~~~~~~~~~~~~~~~~~~~~~~~~~~~~~~" : Str) :: Yo,d=.str a:=by
   simp only [zf,zF,or_false] at hd
   rcases hd with h | h | h | h | h | h | h <;> exact⟨_,by simp,h⟩
  refine⟨_,rfl,oK,fun p2 iD=>⟨_,rfl,l,_,rfl,(by decide),(by decide),wl hw iD,fun n2 WE WG=>ee WE WG iD fun d hd=>?_⟩⟩
  have hd:d∈[D.str "",.str "",.str "a",.str "\""]:=hd
  obtain⟨b,hb,rfl⟩:∃ b∈Yp,d=.str b:=by
   simp only [zf,zF,or_false] at hd
   rcases hd with h | h | h | h <;> exact⟨_,by simp,h⟩
  obtain⟨w1,w2,w3,w4⟩:=GC a ha b hb
  refine⟨sm w4,fo (q _ ⟨?_,?_⟩)⟩
  ·rw[ek'];show (false || if ("word" : Str) = "number" then _ else tm (a++b))=true
   rw[if_neg (by decide),w1];rfl
  ·show (decide ((a++b).cps.size≤40) && PyData.strOk (a++b))=true
   rw[zu w2,w3];rfl
def Wg (cs:List (Str×Str)) (ws:List D):Prop:=Paired (fun (c:Str×Str) v=>Vg c.2 v) cs ws
theorem qI {rel:(Str×Str)→D→Prop} : ∀ {cs:List (Str×Str)}{out:List D},Paired (fun d v=>∃ c,d=ay c∧rel c v) (cs.map ay) out→Paired (fun c v=>rel c v) cs out
 | [],_,.nil=>.nil
 | c :: cs,_,.cons ⟨c',e,r⟩ t=>by
  have:c=c':=by
   unfold ay at e
   injection e with e
   injection e with e1 e2
   injection e1 with e1
   injection e2 with e2 _
   injection e2 with e2
   exact Prod.ext e1 e2
  subst this
  exact .cons r (qI t)
def wY (tr j:Nat):Str:=BQ.getD ((j+tr) % 8) ""
theorem GG:∀ tr<8,∀ i<9,((List.range i).map (wY tr)).Nodup:=by decide +kernel
theorem NR (tr j:Nat):wY tr j∈BQ:=by
 have:(j+tr) % 8<8:=Nat.mod_lt _ (by decide)
 unfold wY
 rw[zC,zg (show (j+tr) % 8<BQ.length from this)]
 exact List.getElem_mem _
theorem tu (T:Txt w K mg t):Ok P w base T.bw 3 (fun ds S R _=>∃ l cs,ds=[.ref l,.tup (cs.map ay)]∧Gd cs∧S l=some .well∧∀ ws,Wg cs ws→R (.tup ws) S):=by
 have nD:Ok P w base T.eT 2 _:=wX T
 refine T.bw.F.ok wN (by rintro ds S R Z ⟨_,_,e,_⟩;rw[e];rfl) ?_
 rintro bu A outer s H E ds S R Z hr ⟨l,cs,e,hg,hw,q⟩
 subst e
 refine⟨_,(s1 (sr (ct lR T.cG bP (ac (rM (N:=["_law_column", "_law_well_here"]) (src:=[none,some 0]) (kG (ae ie) ["_law_well_here", "_law_columns_here"] rfl rfl (by decide +kernel)) (Hx (dv 1)) (oZ (show (["_law_column", "_law_well_here"]:List Str).Nodup by decide +kernel)) (a_ rfl) ba (fun _ _ _ _ _=>ud) (fun _ _ _ _ _=>(cf (nD.mono (by decide)) hr T.eT.m T.eT.k T.eT.b d0 (ac (dv 1) (ac (ix hr.units (dv 0) di) an))))) an)))),?_⟩
 refine⟨_,rfl,_,.inl rfl,?_⟩
 refine gW (fun d v=>∃ c:Str×Str,d=ay c∧Vg c.2 v) trivial (by show (cs.map ay).length≤1000;rw[zb];have:=hg.1;omega) (fun d hd Q hQ=>?_) fun out hp p uW=>?_
 ·obtain⟨c,hc,rfl⟩:=ze.mp hd
  refine⟨_,rfl,_,rfl,.str c.2,rfl,l,_,rfl,?_,hw,fun v ⟨k,e,hv⟩=>hQ v ⟨c,rfl,?_⟩⟩
  ·rcases (hg.2.2 c hc).2 with e | e <;> rw[e]
   ·exact .inl rfl
   ·exact .inr rfl
  ·cases e;exact hv
 ·exact⟨_,out,rfl,.inl aa,S,.new uW,q out (qI hp)⟩
theorem AH (T:Txt w K mg t):Ok P w base T.fC 2 (fun ds S R _=>∃ l,ds=[.ref l]∧S l=some .well∧∀ cs,Gd cs→(∀ c∈cs,c.1∈BQ)→R (.tup (cs.map ay)) S):=by
 have aD:Ok P w base T.ak 1 iz:=og T
 refine T.fC.F.ok dX (by rintro ds S R Z ⟨_,e,_⟩;rw[e];rfl) ?_
 rintro bu A outer s H E ds S R Z hr ⟨l,e,hw,q⟩
 subst e
 refine⟨_,(sc (eI (i:=1) dX.nd (dI (ac ds (ac ds (ac ds (ac ds (ac ds (ac ds (ac ds (ac ds an)))))))))) (sc (eI (i:=2) dX.nd (cf (aD.mono (by decide)) hr T.ak.m T.ak.k T.ak.b d0 (ac (dv 0) (ac di an)))) (sc (eI (i:=3) dX.nd (dI an)) (sc (CU (Hy (OQ T.jT (ac (CV (ix hr.units (dI (ac di (ac di (ac di (ac (cf (aD.mono (by decide)) hr T.ak.m T.ak.k T.ak.b d0 (ac (dv 0) (ac di an))) an))))) (cf (aD.mono (by decide)) hr T.ak.m T.ak.k T.ak.b d0 (ac (dv 0) (ac di an))))) an)) (gn (i:=4) dX.nd) (s1 (se (bm zJ zU zV cT (dv 3) (ac (dJ (ac (ix hr.units (dv 1) (bo ku hr.units (bo eF hr.units (dv 4) (dv 2)) di)) (ac (CV (ix hr.units (dI (ac ds (ac ds an))) (cf (aD.mono (by decide)) hr T.ak.m T.ak.k T.ak.b d0 (ac (dv 0) (ac di an))))) an))) an)))))) (s1 (sr (ct lR T.cG bP (ac (dv 3) an)))))))),?_⟩
 refine⟨Wr,fun ln OS=>⟨_,rfl,l,_,rfl,(by decide),(by decide),wl hw OS,fun tr ht0 ht1=>⟨uO,fun lf HB=>?_⟩⟩⟩
 obtain⟨tn,rfl⟩:∃ n:Nat,tr=(n:Int):=⟨tr.toNat,by omega⟩
 have htn:tn<8:=by omega
 have Yr:lf≠ln:=by rintro rfl;rw[aa] at HB;cases HB
 have RH:S lf=none:=by rw[af Yr] at HB;exact HB
 refine⟨fun aK S'=>∃ (o:Option D) (cs:List (Str×Str)),aK=[some (.ref l),some (.ref ln),some (.int tn),some (.ref lf),o]∧Gd cs∧(∀ c∈cs,c.1∈BQ)∧S'=S.set lf (.lst (cs.map ay)),?_,?_⟩
 ·have rl:=wl (c:=.lst []) (wl (c:=.lst [.str "key",.str "up",.str "a",.str "at",.str "ab",.str "mark",.str "every",.str "now"]) hw OS) HB
  refine⟨_,rfl,l,_,rfl,(by decide),(by decide),rl,fun n9 h90 h91=>⟨oK,fun p hp=>⟨_,rfl,l,_,rfl,(by decide),(by decide),wl rl hp,fun n4 WH WI=>ee WH WI hp fun d hd=>?_⟩⟩⟩
  obtain⟨m,rfl,hm⟩:∃ m:Nat,d=.int m∧m≤8:=by
   have hd:d∈[D.int 1,.int 2,.int 3,.int n9]:=hd
   simp only [zf,zF,or_false] at hd
   rcases hd with h | h | h | h
   ·exact⟨1,h,by decide⟩
   ·exact⟨2,h,by decide⟩
   ·exact⟨3,h,by decide⟩
   ·exact⟨n9.toNat,by rw[h];congr 1;omega,by omega⟩
  refine⟨m,rfl,by omega,by omega,?_⟩
  refine⟨fun i aK S'=>∃ (o:Option D) (cs:List (Str×Str)),aK=[some (.ref l),some (.ref ln),some (.int tn),some (.ref lf),o]∧cs.map Prod.fst=(List.range i).map (wY tn)∧(∀ c∈cs,c.2 = "number" ∨ c.2 = "word")∧S'=(S.set ln (.lst (BQ.map D.str))).set lf (.lst (cs.map ay)),⟨none,[],rfl,rfl,fun _ h=>(nomatch h),rfl⟩,fun _ _ _ _=>trivial,?_,?_⟩
  ·rintro i d aK S' hd ⟨o,cs,rfl,hn,hk,rfl⟩
   obtain⟨hi,rfl⟩:=i8 hd
   have hi:i<m:=by simpa using hi
   have Cz:cs.length=i:=by have:=congrArg List.length hn;simpa using this
   generalize BO:(S.set ln (.lst (BQ.map D.str))).set lf (.lst (cs.map ay))=S2
   have ef:S2 lf=some (.lst (cs.map ay)):=by rw[← BO,aa]
   have en:S2 ln=some (.lst (BQ.map D.str)):=by rw[← BO,af Yr.symm,aa]
   have ew:S2 l=some .well:=by rw[← BO,af (gL hw RH),af (gL hw OS)];exact hw
   have enm:lK (BQ.map D.str) (((0:Int)+(i:Nat)+(tn:Nat)) % 8)=some (.str (wY tn i)):=by
    have e:((0:Int)+(i:Nat)+(tn:Nat)) % 8=(((i+tn) % 8:Nat):Int):=by omega
    have fu:(i+tn) % 8<8:=Nat.mod_lt _ (by decide)
    rw[e]
    refine fj ?_
    rw[zp]
    unfold wY
    rw[zC,zg (show (i+tn) % 8<BQ.length from fu)]
    rfl
   refine⟨_,rfl,⟨rfl,_,ef⟩,_,rfl,_,rfl,_,rfl,(show (0:Int)<8 by decide),_,_,en,enm,cD,fun p hp=>⟨_,rfl,l,_,rfl,(by decide),(by decide),wl ew hp,fun n2 NS GH=>ee NS GH hp fun d hd=>?_⟩⟩
   obtain⟨kd,rfl,HC⟩:∃ kd:Str,d=.str kd∧(kd = "number" ∨ kd = "word"):=by
    have hd:d∈[D.str "number",.str "word"]:=hd
    simp only [zf,zF,or_false] at hd
    rcases hd with h | h
    ·exact⟨_,h,.inl rfl⟩
    ·exact⟨_,h,.inr rfl⟩
   refine⟨cD,lf,_,_,rfl,rfl,ef,bg (by rw[zb];omega),_,cs++[(wY tn i,kd)],rfl,?_,?_,?_⟩
   ·rw[zD,hn,List.range_succ,zD];rfl
   ·intro c hc
    rcases zI.mp hc with h | h
    ·exact hk c h
    ·rw[zH.mp h];exact HC
   ·rw[← BO,dy,zD];rfl
  ·rintro aK S' ⟨o,cs,rfl,hn,hk,rfl⟩
   rw[dM] at hn
   have hn:cs.map Prod.fst=(List.range m).map (wY tn):=by simpa using hn
   have Cz:cs.length=m:=by have:=congrArg List.length hn;simpa using this
   have Eg:∀ c∈cs,c.1∈BQ:=fun c hc=>by
    have:c.1∈cs.map Prod.fst:=ze.mpr ⟨c,hc,rfl⟩
    rw[hn] at this
    obtain⟨j,_,e⟩:=ze.mp this
    rw[← e];exact NR tn j
   refine⟨S.set lf (.lst (cs.map ay)),fun b c hb=>?_,o,cs,rfl,⟨by omega,by rw[hn];exact GG tn htn m (by omega),fun c hc=>⟨(GB _ (Eg c hc)).1,hk c hc⟩⟩,Eg,rfl⟩
   by_cases WJ:b=lf
   ·subst WJ;rw[aa] at hb ⊢;exact hb
   ·rw[af WJ] at hb
    rw[af WJ,af (gL hb OS)];exact hb
 ·rintro aK S' ⟨o,cs,rfl,hg,Eg,rfl⟩
  exact⟨_,rfl,_,cs.map ay,rfl,.inl aa,S,.new RH,q cs hg Eg⟩
abbrev Kn:=List (Str×List D)
def g7 (kn:Kn):List (Key×D):=kn.map fun r=>(Sum.inr r.1,D.tup r.2)
def gr (kn:Kn) (z:Str):Option (List D):=(kn.find? fun r=>decide (r.1=z)).map (·.2)
structure KI (cs:List (Str×Str)) (kn:Kn):Prop where
 nd:(kn.map (·.1)).Nodup
 ok:∀ r∈kn,r.1∈KS∧Wg cs r.2
theorem bQ:gr (r :: kn) k=if r.1=k then some r.2 else gr kn k:=by
 unfold gr
 rw[zQ]
 by_cases h:r.1=k
 ·rw[zu h,if_pos h];rfl
 ·rw[zr h,if_neg h]
theorem qJ (kn:Kn) (k:Str):cy (g7 kn) (.inr k)=(gr kn k).map D.tup:=by
 induction kn with
 | nil=>rfl
 | cons r kn ih =>
  rw[bQ]
  unfold cy g7 at *
  rw[zB,zQ]
  by_cases h:r.1=k
  ·have:decide ((Sum.inr r.1:Key)=.inr k)=true:=zu (by rw[h])
   dsimp only
   rw[this,if_pos h];rfl
  ·have:decide ((Sum.inr r.1:Key)=.inr k)=false:=zr fun e=>h (yD e)
   dsimp only
   rw[this,if_neg h];exact ih
theorem jY (h:gr kn k=some ws):(k,ws)∈kn:=by
 induction kn with
 | nil=>cases h
 | cons r kn ih =>
  rw[bQ] at h
  by_cases hk:r.1=k
  ·rw[if_pos hk] at h;cases h;rw[← hk];exact zx
  ·rw[if_neg hk] at h;exact zh _ (ih h)
theorem lx (h:k∈kn.map (·.1)):∃ ws,gr kn k=some ws:=by
 induction kn with
 | nil=>cases h
 | cons r kn ih =>
  rw[bQ]
  by_cases hk:r.1=k
  ·exact⟨r.2,if_pos hk⟩
  ·rw[if_neg hk]
   rw[zB] at h
   rcases zf.mp h with e | h
   ·exact absurd e.symm hk
   ·exact ih h
theorem sub_len [DecidableEq α]:∀ {l m:List α},l.Nodup→(∀ x∈l,x∈m)→l.length≤m.length
 | [],m,_,_=>ya _
 | a :: l,m,nd,h=>by
  obtain⟨n1,n2⟩:=yc.mp nd
  have h1:=sub_len (m:=m.erase a) n2 fun x hx=>(List.mem_erase_of_ne (fun e=>n1 (by rw[← e];exact hx))).mpr (h x (zh _ hx))
  have h2:=List.length_erase_of_mem (h a zx)
  have h3:0<m.length:=List.length_pos_of_mem (h a zx)
  rw[zM];omega
theorem KI.len (h:KI cs kn):kn.length≤30:=by
 have:=sub_len h.nd (m:=KS) fun x hx=>by
  obtain⟨r,hr,rfl⟩:=ze.mp hx
  exact (h.ok r hr).1
 rw[zb] at this
 exact this
def mj (kn:Kn) (z:Str) (ws:List D):Kn:=if (gr kn z).isSome then kn.map fun r=>if r.1=z then (r.1,ws) else r else kn++[(z,ws)]
def r_ (kn:Kn) (z:Str):Kn:=kn.filter fun r=>decide (r.1≠z)
theorem NT (kn:Kn) (z:Str) (ws:List D):dput (g7 kn) (.inr z) (.tup ws)=g7 (mj kn z ws):=by
 unfold dput mj
 have e:((g7 kn).any fun kv=>decide (kv.1=.inr z))=(gr kn z).isSome:=by
  induction kn with
  | nil=>rfl
  | cons r kn ih =>
   unfold g7 at *
   rw[zB,yG,ih,bQ]
   by_cases h:r.1=z
   ·rw[if_pos h,zu (by rw[h]),Bool.true_or];rfl
   ·rw[if_neg h,zr fun e=>h (yD e),yL]
 rw[e]
 split
 ·unfold g7
  rw[zt,zt]
  refine zY fun r _=>?_
  dsimp only [Function.comp]
  by_cases h:r.1=z
  ·rw[if_pos h,if_pos (by rw[h])]
  ·rw[if_neg h,if_neg fun e=>h (yD e)]
 ·unfold g7
  rw[zD];rfl
theorem NU (kn:Kn) (z:Str):vM (g7 kn) (.inr z)=g7 (r_ kn z):=by
 unfold vM r_ g7
 rw[List.filter_map]
 congr 1
 refine List.filter_congr fun r _=>?_
 dsimp only [Function.comp]
 rw[yC]
 exact⟨fun h e=>h (by rw[e]),fun h e=>h (yD e)⟩
theorem JI:gr (mj kn z ws) k=if k=z then some ws else gr kn k:=by
 unfold mj
 by_cases hs:(gr kn z).isSome=true
 ·rw[if_pos hs]
  by_cases hk:k=z
  ·subst hk
   rw[if_pos rfl]
   induction kn with
   | nil=>cases hs
   | cons r rs ih =>
    rw[zB,bQ]
    by_cases h:r.1=k
    ·rw[if_pos h,if_pos h]
    ·rw[if_neg h,if_neg h]
     rw[bQ,if_neg h] at hs
     exact ih hs
  ·rw[if_neg hk]
   clear hs
   induction kn with
   | nil=>rfl
   | cons r rs ih =>
    rw[zB,bQ,bQ,ih]
    by_cases h:r.1=z
    ·rw[if_pos h,if_neg (show ¬ r.1=k from fun e=>hk (e.symm.trans h)),if_neg (show ¬ r.1=k from fun e=>hk (e.symm.trans h))]
    ·rw[if_neg h]
 ·rw[if_neg hs]
  have hn:gr kn z=none:=by cases e:gr kn z <;> simp_all
  clear hs
  induction kn with
  | nil =>
   rw[List.nil_append,bQ]
   by_cases hk:k=z
   ·rw[if_pos hk,if_pos hk.symm]
   ·rw[if_neg hk,if_neg fun e=>hk e.symm]
  | cons r rs ih =>
   rw[bQ] at hn
   by_cases h:r.1=z
   ·rw[if_pos h] at hn;cases hn
   ·rw[if_neg h] at hn
    rw[List.cons_append,bQ,bQ,ih hn]
    by_cases h2:r.1=k
    ·rw[if_pos h2,if_pos h2,if_neg (show ¬ k=z from fun e=>h (h2.trans e))]
    ·rw[if_neg h2,if_neg h2]
theorem JJ:gr (r_ kn z) k=if k=z then none else gr kn k:=by
 unfold r_
 induction kn with
 | nil=>split <;> rfl
 | cons r kn ih =>
  rw[yo,bQ]
  by_cases h:r.1=z
  ·rw[if_neg (by simp [h]),ih]
   by_cases hk:k=z
   ·rw[if_pos hk,if_pos hk]
   ·rw[if_neg hk,if_neg hk,if_neg (show ¬ r.1=k from fun e=>hk (e.symm.trans h))]
  ·rw[if_pos (by simp [h]),bQ,ih]
   by_cases hk:k=z
   ·rw[if_pos hk,if_pos hk,if_neg (show ¬ r.1=k from fun e=>h (e.trans hk))]
   ·rw[if_neg hk,if_neg hk]
theorem KI.put (h:KI cs kn) (hz:z∈KS) (hw:Wg cs ws):KI cs (mj kn z ws):=by
 unfold mj
 split
 ·refine⟨?_,fun r hr=>?_⟩
  ·have:(kn.map fun r=>if r.1=z then (r.1,ws) else r).map (·.1)=kn.map (·.1):=by
    rw[zt];exact zY fun r _=>by dsimp only [Function.comp];split <;> rfl
   rw[this];exact h.nd
  ·obtain⟨r0,vi,e⟩:=ze.mp hr
   by_cases q:r0.1=z
   ·rw[if_pos q] at e;subst e;exact⟨(h.ok r0 vi).1,hw⟩
   ·rw[if_neg q] at e;subst e;exact h.ok r0 vi
 ·rename_i hs
  refine⟨?_,fun r hr=>?_⟩
  ·rw[zD]
   refine lO h.nd fun m=>hs ?_
   obtain⟨Lb,e⟩:=lx m
   show (gr kn z).isSome=true
   rw[show gr kn z=some Lb from e];rfl
  ·rcases zI.mp hr with hr | hr
   ·exact h.ok r hr
   ·rw[zH.mp hr];exact⟨hz,hw⟩
theorem KI.del (h:KI cs kn) (z:Str):KI cs (r_ kn z) :=
 ⟨(List.Sublist.map _ yt).nodup h.nd,fun r hr=>h.ok r (yg.mp hr).1⟩
def GD (ks:List Str) (cs:List (Str×Str)) (kn:Kn) (d:D):Prop :=
 (∃ z ws,z∈ks∧Wg cs ws∧gr kn z=none∧d=.tup [.str "put",.str z,.tup ws])∨(∃ z ws,z∈KS∧Wg cs ws∧(gr kn z).isSome=true∧d=.tup [.str "change",.str z,.tup ws])∨∃ z,z∈KS∧(gr kn z).isSome=true∧d=.tup [.str "take",.str z]
def Ly (S:aT) (n:Nat) (d:D):Prop:=∃ p,Dp S d p∧p.canLay0=true∧p.depth≤n
theorem Ly.all:∀ {ds:List D},(∀ d∈ds,Ly S n d)→∃ ps:List PyData,DpAll S ds ps∧PyData.canLayAll0 ps=true∧PyData.depthAll ps≤n∧ps.length=ds.length
 | [],_=>⟨[],by simp only [DpAll],rfl,ya _,rfl⟩
 | d :: ds,h=>by
  obtain⟨p,h1,h2,h3⟩:=h d zx
  obtain⟨ps,k1,k2,k3,k4⟩:=Ly.all fun x hx=>h x (zh _ hx)
  refine⟨p :: ps,by simp only [DpAll];exact⟨p,ps,rfl,h1,k1⟩,by simp only [PyData.canLayAll0,h2,k2,Bool.and_self],by simp only [PyData.depthAll];omega,by rw[zM,zM,k4]⟩
theorem Ly.tup {S:aT}{n:Nat}{ds:List D} (h:∀ d∈ds,Ly S n d):Ly S (n+1) (.tup ds):=by
 obtain⟨ps,k1,k2,k3,_⟩:=Ly.all h
 exact⟨.tuple ps,by simp only [Dp];exact⟨ps,rfl,k1⟩,by simp only [PyData.canLay0];exact k2,by simp only [PyData.depth];omega⟩
theorem Ly.str (h:PyData.strOk z=true):Ly S 0 (.str z):=⟨.str z,by simp only [Dp],by simp only [PyData.canLay0];exact h,by simp only [PyData.depth];omega⟩
theorem Ly.le (h:Ly S n d) (l:n≤m):Ly S m d:=by obtain⟨p,a,b,c⟩:=h;exact⟨p,a,b,zG c l⟩
theorem Ly.au:Ly S 0 .au:=⟨.none,by simp only [Dp],by simp only [PyData.canLay0],by simp only [PyData.depth];omega⟩
theorem Ly.plain (h:fP d=true):Ly S 0 d:=by
 cases d with
 | au=>exact Ly.au
 | int i=>exact⟨.int i,by simp only [Dp],by simp only [PyData.canLay0],by simp only [PyData.depth];omega⟩
 | str z =>
  have h:(decide (z.cps.size≤40) && PyData.strOk z)=true:=h
  rw[zL] at h
  exact Ly.str h.2
 | _=>cases h
theorem Ly.dl (h:Ly S n d):∃ p,Dl S d p∧p.canLay0=true∧p.depth≤n:=by
 obtain⟨p,a,b,c⟩:=h
 refine⟨p,?_,b,c⟩
 cases d with
 | ref x=>simp only [Dp] at a
 | _=>exact a
theorem Ly.lst {S:aT}{n:Nat}{a:Addr}{ds:List D} (e:S a=some (.lst ds)) (h:∀ d∈ds,Ly S n d):∃ p,Dl S (.ref a) p∧p.canLay0=true∧p.depth≤n+1∧∀ b,S b=some (.lst ds)→Dl S (.ref b) p:=by
 obtain⟨ps,k1,k2,k3,_⟩:=Ly.all h
 exact⟨.list ps,⟨ds,ps,e,rfl,k1⟩,by simp only [PyData.canLay0];exact k2,by simp only [PyData.depth];omega,fun b hb=>⟨ds,ps,hb,rfl,k1⟩⟩
theorem qL {S:aT}{a b:Addr}{ds:List D}{R:KD}{neg:Bool} (e1:S a=some (.lst ds)) (e2:S b=some (.lst ds)) (h:∀ d∈ds,Ly S 60 d) (q:R (.bl (!neg)) S):Hw neg (.ref a) (.ref b) S R:=by
 obtain⟨p,k1,k2,k3,k4⟩:=Ly.lst e1 h
 have e:(if neg then !PyData.eqv p p else PyData.eqv p p)=!neg:=by rw[SeqAt.eqv_refl p k2];cases neg <;> rfl
 exact⟨p,p,k1,k4 b e2,k2,k2,.inl (by omega),by rw[e];exact q⟩
theorem GI (ps:List PyData):PyData.eqv (.list ps) (.list [])=ps.isEmpty:=by cases ps <;> simp [PyData.eqv,PyData.eqvAll]
theorem GJ (ps:List PyData):PyData.eqv (.tuple ps) (.tuple [])=ps.isEmpty:=by cases ps <;> simp [PyData.eqv,PyData.eqvAll]
theorem eq_nil {S:aT}{a b:Addr}{ds:List D}{R:KD} (e1:S a=some (.lst ds)) (e2:S b=some (.lst [])) (h:∀ d∈ds,Ly S 60 d) (q:R (.bl ds.isEmpty) S):Hw false (.ref a) (.ref b) S R:=by
 obtain⟨ps,k1,k2,k3,k4⟩:=Ly.all h
 refine⟨.list ps,.list [],⟨ds,ps,e1,rfl,k1⟩,⟨[],[],e2,rfl,by simp only [DpAll]⟩,by simp only [PyData.canLay0];exact k2,by simp only [PyData.canLay0,PyData.canLayAll0],.inl (by simp only [PyData.depth];omega),?_⟩
 rw[if_neg zd,GI,show ps.isEmpty=ds.isEmpty by cases ps <;> cases ds <;> first | rfl | cases k4];exact q
theorem JK {S:aT}{ds:List D}{R:KD} (h:∀ d∈ds,Ly S 60 d) (q:R (.bl ds.isEmpty) S):Hw false (.tup ds) (.tup []) S R:=by
 obtain⟨ps,k1,k2,k3,k4⟩:=Ly.all h
 refine⟨.tuple ps,.tuple [],by simp only [Dl,Dp];exact⟨ps,rfl,k1⟩,by simp only [Dl,Dp];exact⟨[],rfl,by simp only [DpAll]⟩,by simp only [PyData.canLay0];exact k2,by simp only [PyData.canLay0,PyData.canLayAll0],.inl (by simp only [PyData.depth];omega),?_⟩
 rw[if_neg zd,GJ,show ps.isEmpty=ds.isEmpty by cases ps <;> cases ds <;> first | rfl | cases k4];exact q
theorem Wg.all (h:Wg cs ws):∀ d∈ws,fP d=true:=by
 unfold Wg at h
 induction h with
 | nil=>exact fun _ h=>(nomatch h)
 | cons r t ih =>
  intro d hd
  rcases zf.mp hd with e | hd
  ·rw[e];exact r.2
  ·exact ih d hd
theorem Wg.ly {cs:List (Str×Str)}{ws:List D} (h:Wg cs ws) {S:aT} : Ly S 1 (.tup ws):=Ly.tup fun d hd=>Ly.plain (h.all d hd)
theorem KI.ly {cs:List (Str×Str)}{kn:Kn} (hI:KI cs kn) {ss:List Str} (hp:ss.Perm (kn.map (·.1))) {S:aT} : ∀ d∈ss.map D.str,Ly S 60 d:=fun d hd=>by
 obtain⟨z,hz,rfl⟩:=ze.mp hd
 obtain⟨r,hr,e⟩:=ze.mp (hp.mem_iff.mp hz)
 rw[← e]
 exact (Ly.str (jB _ (hI.ok r hr).1).2.2).le (ya _)
def GK:gG:=fun ds S R _=>∃ l cs lk kn,ds=[.ref l,.tup (cs.map ay),.ref lk]∧Gd cs∧S l=some .well∧S lk=some (.dw (g7 kn))∧KI cs kn∧∀ d,GD KT cs kn d→R d S
theorem JL (T:Txt w K mg t):Ok P w base T.nh 4 GK:=by
 have aD:Ok P w base T.ak 1 iz:=og T
 have uY:Ok P w base T.kx 2 _:=GF T
 have fQ:Ok P w base T.bw 3 _:=tu T
 refine T.nh.F.ok gT (by rintro ds S R Z ⟨_,_,_,_,e,_⟩;rw[e];rfl) ?_
 rintro bu A outer s H E ds S R Z hr ⟨l,cs,lk,kn,e,hg,hw,hk,hI,q⟩
 subst e
 have hlen:=hI.len
 refine⟨_,(sc (eI (i:=3) gT.nd (cf (aD.mono (by decide)) hr T.ak.m T.ak.k T.ak.b d0 (ac (dv 0) (ac di an)))) (sc (eI (i:=4) gT.nd (cb pX T.fK eJ (ac (dv 2) an))) (sc (si (twd (twor (bK bc hr.units (dv 4) (dI an)) (tw1 (bK yS hr.units (dv 3) di)))) (sc (eI (i:=5) gT.nd (cf (uY.mono (by decide)) hr T.kx.m T.kx.k T.kx.b d0 (ac (dv 0) an))) (sc (si (bK vN hr.units (dv 5) (dv 2)) (s1 (sr (dJ (ac ds (ac (dv 5) (ac (cf (fQ.mono (by decide)) hr T.bw.m T.bw.k T.bw.b d0 (ac (dv 0) (ac (dv 1) an))) an)))))) s0) (s1 (sr (dJ (ac ds (ac (dv 5) (ac (cf (fQ.mono (by decide)) hr T.bw.m T.bw.k T.bw.b d0 (ac (dv 0) (ac (dv 1) an))) an)))))))) s0) (sc (eI (i:=5) gT.nd (ix hr.units (dv 4) (cf (aD.mono (by decide)) hr T.ak.m T.ak.k T.ak.b d0 (ac (dv 0) (ac (cb bH T.bx aV (ac (dv 4) an)) an))))) (sc (si (bK bc hr.units (dv 3) di) (s1 (sr (dJ (ac ds (ac (dv 5) an))))) s0) (sc (si (bK bc hr.units (dv 3) di) (s1 (sr (dJ (ac ds (ac (dv 5) (ac (ix hr.units (dv 2) (dv 5)) an)))))) s0) (s1 (sr (dJ (ac ds (ac (dv 5) (ac (cf (fQ.mono (by decide)) hr T.bw.m T.bw.k T.bw.b d0 (ac (dv 0) (ac (dv 1) an))) an)))))))))))),?_⟩
 have ek:(g7 kn).map (·.1)=(kn.map (·.1)).map Sum.inr:=by unfold g7;rw[zt,zt];rfl
 have el:(g7 kn).length<64:=by unfold g7;rw[zb];omega
 refine⟨_,rfl,l,_,rfl,(by decide),(by decide),hw,fun way h0 h1=>⟨_,rfl,lk,g7 kn,kn.map (·.1),rfl,hk,ek,el,fun ss hp hs p uW=>?_⟩⟩
 refine⟨_,rfl,uO,fun p2 iD=>?_⟩
 generalize BO:(S.set p (.lst (ss.map D.str))).set p2 (.lst [])=S2
 have sub:Sub S S2:=by rw[← BO];exact (Sub.new uW).trans (.new iD)
 have rl:=sub _ _ hw
 have fW:=sub _ _ hk
 have AI:S2 p=some (.lst (ss.map D.str)):=by
  rw[← BO,af (show p≠p2 by rintro rfl;rw[aa] at iD;cases iD),aa]
 have WK:S2 p2=some (.lst []):=by rw[← BO,aa]
 have fin:∀ d,GD KT cs kn d→Fo S2 (R d):=fun d hd=>⟨S,sub,q d hd⟩
 have ed:∀ z,cy (g7 kn) (.inr z)=(gr kn z).map D.tup:=qJ kn
 have NV:∀ z,(cy (g7 kn) (.inr z)).isSome=(gr kn z).isSome:=fun z=>by rw[ed];cases gr kn z <;> rfl
 refine eq_nil AI WK (hI.ly hp) ⟨_,rfl,?_⟩
 refine ck (fun h=>?_) (fun h=>⟨_,rfl,_,rfl,ck (fun h3=>?_) (fun h3=>?_)⟩)
 ·refine⟨_,rfl,l,[],rfl,rfl,rl,fun d ⟨z,hz,e⟩=>?_⟩
  subst e
  refine⟨_,rfl,_,rfl,.inr ⟨g7 kn,.inr z,fW,rfl,_,rfl,?_⟩⟩
  refine ck (fun h5=>?_) (fun h5=>?_)
  ·exact⟨_,rfl,_,rfl,_,rfl,l,cs,rfl,hg,rl,fun ws lG=>⟨iV,fin _ (.inr (.inl ⟨z,ws,BP hz,lG,(NV z).symm.trans h5,rfl⟩))⟩⟩
  ·have h6:gr kn z=none:=by have:=(NV z).symm.trans h5;cases e:gr kn z with | none=>rfl | some _=>rw[e] at this;cases this
   exact⟨_,rfl,_,rfl,_,rfl,l,cs,rfl,hg,rl,fun ws lG=>⟨iV,fin _ (.inl ⟨z,ws,hz,lG,h6,rfl⟩)⟩⟩
 ·refine⟨_,rfl,l,[],rfl,rfl,rl,fun d ⟨z,hz,e⟩=>?_⟩
  subst e
  refine⟨_,rfl,_,rfl,.inr ⟨g7 kn,.inr z,fW,rfl,_,rfl,?_⟩⟩
  refine ck (fun h5=>?_) (fun h5=>?_)
  ·exact⟨_,rfl,_,rfl,_,rfl,l,cs,rfl,hg,rl,fun ws lG=>⟨iV,fin _ (.inr (.inl ⟨z,ws,BP hz,lG,(NV z).symm.trans h5,rfl⟩))⟩⟩
  ·have h6:gr kn z=none:=by have:=(NV z).symm.trans h5;cases e:gr kn z with | none=>rfl | some _=>rw[e] at this;cases this
   exact⟨_,rfl,_,rfl,_,rfl,l,cs,rfl,hg,rl,fun ws lG=>⟨iV,fin _ (.inl ⟨z,ws,hz,lG,h6,rfl⟩)⟩⟩
 ·have EX:0<(ss.map D.str).length:=by
   have h:(ss.map D.str).isEmpty=false:=h
   cases ss with
   | nil=>cases h
   | cons a ss=>exact Nat.succ_pos _
  have hle:(ss.map D.str).length≤30:=by rw[zb,hp.length_eq,zb];exact hlen
  refine⟨_,rfl,_,rfl,_,rfl,_,rfl,.inl ⟨_,AI,l,_,rfl,(by omega),uX (by omega) (by omega),rl,fun n hn0 SV=>?_⟩⟩
  obtain⟨v,a1,a2⟩:=Bj (l:=ss.map D.str) hn0 SV
  obtain⟨z,hz,rfl⟩:=ze.mp (zK a2)
  obtain⟨ws,lG⟩:=lx (hp.mem_iff.mp hz)
  obtain⟨WL,hwg⟩:=hI.ok _ (jY lG)
  have WM:(gr kn z).isSome=true:=by rw[lG];rfl
  refine⟨_,_,AI,a1,_,rfl,_,rfl,?_⟩
  refine ck (fun h4=>?_) (fun h4=>?_)
  ·exact⟨_,rfl,cD,fin _ (.inr (.inr ⟨z,WL,WM,rfl⟩))⟩
  refine⟨_,rfl,_,rfl,?_⟩
  refine ck (fun h4=>?_) (fun h4=>?_)
  ·exact⟨_,rfl,_,rfl,_,rfl,g7 kn,.tup ws,fW,by rw[ed,lG];rfl,iV,fin _ (.inr (.inl ⟨z,ws,WL,hwg,WM,rfl⟩))⟩
  ·exact⟨_,rfl,_,rfl,_,rfl,l,cs,rfl,hg,rl,fun Lb WN=>⟨iV,fin _ (.inr (.inl ⟨z,Lb,WL,WN,WM,rfl⟩))⟩⟩
def Mo (sp:gG):gG:=fun ds S R Z=>∃ R0 Z0,sp ds S R0 Z0∧(∀ d S',R0 d S'→R d S')∧∀ C S',Z0 C S'→Z C S'
theorem NW (F:cj P w K mg base (g6 P w) k f fd ps (t_ K sp)):cj P w K mg base (g6 P w) k f fd ps (t_ K (Mo sp)) :=
 F.imp <| by rintro vs H Q E ⟨ds,S,R,Z,v,hS,⟨R0,Z0,h,h1,h2⟩,hR,hZ⟩;exact⟨ds,S,R0,Z0,v,hS,h,fun d S' u H' r=>hR d S' u H' (h1 _ _ r),fun C S' H' z=>hZ C S' H' (h2 _ _ z)⟩
def Ld (t:o3):gG:=fun ds S R Z=>∃ a F cs dl rs k v,ds=[.ref a,k,v]∧bT t.ag S a F cs dl rs∧cs.length≤8∧Gt S k∧K7 S v∧dl.length≤8000∧rs.length≤8000 ∧
  (iu cs k v=false→Z t.dP S)∧(iu cs k v=true→ah (rA rs k dl.length)=false→Z t.lX S) ∧
  (∀ z ws,k=.str z→v=.tup ws→iu cs k v=true→ah (rA rs k dl.length)=true→∀ S' F',bT t.ag S' a F' cs (dl++[.tup [.str "put",k,v]]) (oM rs z (dl.length+1) ws)→vh F F' S S'→R .au S')
def wZ (t:o3):gG:=fun ds S R Z=>∃ a F cs dl rs k v,ds=[.ref a,k,v]∧bT t.ag S a F cs dl rs∧cs.length≤8∧Gt S k∧K7 S v∧dl.length≤8000∧rs.length≤8000 ∧
  (iu cs k v=false→Z t.dP S)∧(iu cs k v=true→ah (rA rs k dl.length)=true→Z t.ip S) ∧
  (∀ z ws,k=.str z→v=.tup ws→iu cs k v=true→ah (rA rs k dl.length)=false→∀ S' F',bT t.ag S' a F' cs (dl++[.tup [.str "change",k,v]]) (oM (lj rs z dl.length) z (dl.length+1) ws)→vh F F' S S'→R .au S')
def GL (t:o3):gG:=fun ds S R Z=>∃ a F cs dl rs k,ds=[.ref a,k]∧bT t.ag S a F cs dl rs∧Gt S k∧dl.length≤8000 ∧
  (ofStr fX k=false→Z t.dP S)∧(ofStr fX k=true→ah (rA rs k dl.length)=true→Z t.ip S) ∧
  (∀ z,k=.str z→fX z=true→ah (rA rs k dl.length)=false→∀ S',bT t.ag S' a F cs (dl++[.tup [.str "take",k]]) (lj rs z dl.length)→vh F F S S'→R .au S')
def O6 (kn:Kn) (d:D) (fE:Kn):Prop:=(∃ (n:Str) (z:Str) (ws:List D),(n = "put" ∨ n = "change")∧d=.tup [.str n,.str z,.tup ws]∧fE=mj kn z ws)∨∃ z,(gr kn z).isSome=true∧d=.tup [.str "take",.str z]∧fE=r_ kn z
def GN (t:o3):gG:=fun ds S R Z=>∃ a fs,S a=some (.ins t.ag fs)∧fs.map Prod.fst=(["columns", "deeds", "runs"]:List Str) ∧
 ((∃ k v,ds=[.ref a,.tup [.str "put",k,v]]∧Ld t [.ref a,k,v] S R Z)∨(∃ k v,ds=[.ref a,.tup [.str "change",k,v]]∧wZ t [.ref a,k,v] S R Z)∨∃ k,ds=[.ref a,.tup [.str "take",k]]∧GL t [.ref a,k] S R Z)
theorem Ys:∀ {fs:List (Str×D)},m∉fs.map Prod.fst→fs.lookup m=none
 | [],_=>rfl
 | (a,b) :: fs,h=>by
  rw[zB,zf] at h
  rw[zT,show (m == a)=false from beq_false_of_ne fun e=>h (.inl e)]
  exact Ys fun q=>h (.inr q)
theorem WO {fs:List (Str×D)} (h:fs.map Prod.fst=(["columns", "deeds", "runs"]:List Str)) {m:Str} (hm:m∉(["columns", "deeds", "runs"]:List Str)):fs.lookup m=none:=Ys (by rw[h];exact hm)
theorem GO (T:Txt w K mg t):Ok P w base T.jS 1 (fun ds S R _=>∃ lk kn d fE,ds=[.ref lk,d]∧S lk=some (.dw (g7 kn))∧kn.length≤100∧O6 kn d fE∧R .au (S.set lk (.dw (g7 fE)))):=by
 refine T.jS.F.ok Aw (by rintro ds S R Z ⟨_,_,_,_,e,_⟩;rw[e];rfl) ?_
 rintro bu A outer s H E ds S R Z hr ⟨lk,kn,d,fE,e,hk,hn,hd,q⟩
 subst e
 refine⟨_,(s1 (si (bK bc hr.units (ix hr.units (dv 1) di) ds) (s1 (se (ZP (dv 0) (ix hr.units (dv 1) di)))) (s1 (sd hr.units (dv 0) (ix hr.units (dv 1) di) (ix hr.units (dv 1) di))))),?_⟩
 have hl:(g7 kn).length<sizeLine:=bg (by unfold g7;rw[zb];omega)
 rcases hd with ⟨n,z,ws,Ht,rfl,rfl⟩ | ⟨z,hz,rfl,rfl⟩
 ·refine⟨_,rfl,_,rfl,_,rfl,?_⟩
  refine ck (fun h=>?_) (fun h=>?_)
  ·have h:n = "take" := zE h
   rcases Ht with e | e <;> rw[e] at h <;> exact absurd h (by decide)
  ·refine⟨_,rfl,_,rfl,_,rfl,_,rfl,_,rfl,lk,g7 kn,.inr z,rfl,hk,rfl,hl,?_⟩
   rw[NT]
   exact fo q
 ·refine⟨_,rfl,_,rfl,_,rfl,?_⟩
  refine ck (fun h=>?_) (fun h=>absurd h (by decide))
  obtain⟨ws,lG⟩:=Option.isSome_iff_exists.mp hz
  refine⟨_,rfl,lk,g7 kn,rfl,hk,_,rfl,_,rfl,g7 kn,.inr z,.tup ws,hk,rfl,by rw[qJ,lG];rfl,?_⟩
  rw[NU]
  exact fo q
theorem JM (T:Txt w K mg t):Ok P w base T.ni 7 (GN t):=by
 have jC:jL P w mg base T.cP 6 (Mo (Ld t)):=NW (NN T)
 have fR:jL P w mg base T.bz 6 (Mo (wZ t)):=NW (DL T)
 have iA:jL P w mg base T.cn 6 (Mo (GL t)):=NW (JC T)
 refine T.ni.F.ok DB (fun ds S R Z ⟨_,_,_,_,h⟩=>by rcases h with ⟨_,_,e,_⟩ | ⟨_,_,e,_⟩ | ⟨_,e,_⟩ <;> rw[e] <;> rfl) (fun bu A outer s H E ds S R Z hr ⟨a,fs,ha,hf,h⟩=>?_)
 rcases h with ⟨k,v,e,h⟩ | ⟨k,v,e,h⟩ | ⟨k,e,h⟩
 ·subst e
  refine⟨_,(sc (si (bK bc hr.units (ix hr.units (dv 1) di) ds) (s1 (sr (sR (dv 0) T.aq T.cP.e (jC.mono (by decide)) hr T.cP.b d0 (ac (ix hr.units (dv 1) di) (ac (ix hr.units (dv 1) di) an))))) s0) (sc (si (bK bc hr.units (ix hr.units (dv 1) di) ds) (s1 (sr (sR (dv 0) T.aq T.bz.e (fR.mono (by decide)) hr T.bz.b d0 (ac (ix hr.units (dv 1) di) (ac (ix hr.units (dv 1) di) an))))) s0) (s1 (sr (sR (dv 0) T.aq T.cn.e (iA.mono (by decide)) hr T.cn.b d0 (ac (ix hr.units (dv 1) di) an)))))),?_⟩
  refine⟨_,rfl,_,rfl,_,rfl,?_⟩
  refine ck (fun _=>?_) (fun h=>absurd h (by decide))
  exact⟨_,rfl,a,_,rfl,ha,WO hf (by decide),_,rfl,_,rfl,_,rfl,_,rfl,R,Z,h,fun d S' r=>fo r,fun C S' z=>fo z⟩
 ·subst e
  refine⟨_,(sc (si (bK bc hr.units (ix hr.units (dv 1) di) ds) (s1 (sr (sR (dv 0) T.aq T.cP.e (jC.mono (by decide)) hr T.cP.b d0 (ac (ix hr.units (dv 1) di) (ac (ix hr.units (dv 1) di) an))))) s0) (sc (si (bK bc hr.units (ix hr.units (dv 1) di) ds) (s1 (sr (sR (dv 0) T.aq T.bz.e (fR.mono (by decide)) hr T.bz.b d0 (ac (ix hr.units (dv 1) di) (ac (ix hr.units (dv 1) di) an))))) s0) (s1 (sr (sR (dv 0) T.aq T.cn.e (iA.mono (by decide)) hr T.cn.b d0 (ac (ix hr.units (dv 1) di) an)))))),?_⟩
  refine⟨_,rfl,_,rfl,_,rfl,?_⟩
  refine ck (fun h=>absurd h (by decide)) (fun _=>?_)
  refine⟨_,rfl,_,rfl,_,rfl,?_⟩
  refine ck (fun _=>?_) (fun h=>absurd h (by decide))
  exact⟨_,rfl,a,_,rfl,ha,WO hf (by decide),_,rfl,_,rfl,_,rfl,_,rfl,R,Z,h,fun d S' r=>fo r,fun C S' z=>fo z⟩
 ·subst e
  refine⟨_,(sc (si (bK bc hr.units (ix hr.units (dv 1) di) ds) (s1 (sr (sR (dv 0) T.aq T.cP.e (jC.mono (by decide)) hr T.cP.b d0 (ac (ix hr.units (dv 1) di) (ac (ix hr.units (dv 1) di) an))))) s0) (sc (si (bK bc hr.units (ix hr.units (dv 1) di) ds) (s1 (sr (sR (dv 0) T.aq T.bz.e (fR.mono (by decide)) hr T.bz.b d0 (ac (ix hr.units (dv 1) di) (ac (ix hr.units (dv 1) di) an))))) s0) (s1 (sr (sR (dv 0) T.aq T.cn.e (iA.mono (by decide)) hr T.cn.b d0 (ac (ix hr.units (dv 1) di) an)))))),?_⟩
  refine⟨_,rfl,_,rfl,_,rfl,?_⟩
  refine ck (fun h=>absurd h (by decide)) (fun _=>?_)
  refine⟨_,rfl,_,rfl,_,rfl,?_⟩
  refine ck (fun h=>absurd h (by decide)) (fun _=>?_)
  exact⟨_,rfl,a,_,rfl,ha,WO hf (by decide),_,rfl,_,rfl,R,Z,h,fun d S' r=>fo r,fun C S' z=>fo z⟩
def p3 (p:Str×Str×Str):D:=.tup [.str p.1,.str p.2.1,.str p.2.2]
def lA (z:Str):Bool:=decide (z = "up") || decide (z = "down")
def AJ (z:Str):Bool:=decide (z = "first") || decide (z = "last")
theorem Le (z a b:Str) (x y:V):(([(a,x),(b,y)]:List (Str×V)).lookup z).isSome=(decide (z=a) || decide (z=b)):=by
 rw[zT,zT]
 by_cases h:z=a
 ·rw[show (z == a)=true by simp [h],zu h];rfl
 ·rw[show (z == a)=false by simp [h],zr h]
  by_cases h2:z=b
  ·rw[show (z == b)=true by simp [h2],zu h2];rfl
  ·rw[show (z == b)=false by simp [h2],zr h2];rfl
def gs (cs:List (Str×Str)) (p:Str×Str×Str):Bool:=decide (p.1∈cs.map Prod.fst) && (lA p.2.1 && AJ p.2.2)
def DN (cs:List (Str×Str)) (ps:List (Str×Str×Str)) (wy:Str):Bool:=decide (ps.length≤8) && (ps.all (gs cs) && (decide ((ps.map Prod.fst).Nodup) && lA wy))
theorem uZ (l:List (Str×D)) (z:Str) (h:cy (pZ l) (.inr z)=some d):∃ p∈l,p.1=z∧d=p.2:=by
 have all:∀ (l:List (Str×D)) (c:List (Key×D)),cy (l.foldl (fun c p=>dput c (.inr p.1) p.2) c) (.inr z)=some d→(∃ p∈l,p.1=z∧d=p.2)∨cy c (.inr z)=some d:=by
  intro l
  induction l with
  | nil=>intro c h;exact .inr h
  | cons p l ih =>
   intro c h
   rcases ih _ h with ⟨q,hq,e⟩ | h
   ·exact .inl ⟨q,zh _ hq,e⟩
   ·rw[vT] at h
    by_cases e:(.inr z:Key)=.inr p.1
    ·rw[if_pos e] at h;exact .inl ⟨p,zx,(yD e).symm,(zN h).symm⟩
    ·rw[if_neg e] at h;exact .inr h
 rcases all l [] h with h | h
 ·exact h
 ·cases h
def WQ (p:Str×Str×Str):Prop:=p.1.cps.size≤1000∧p.2.1.cps.size≤1000∧p.2.2.cps.size≤1000
theorem tw (T:Txt w K mg t):Ok P w base T.gA 1 (fun ds S R _=>∃ z,ds=[.str z]∧R (.bl (lA z)) S):=by
 refine T.gA.F.ok Dx (by rintro ds S R Z ⟨_,e,_⟩;rw[e];rfl) ?_
 rintro bu A outer s H E ds S R Z hr ⟨z,e,q⟩
 subst e
 refine⟨_,(s1 (sr (rL (cb dA T.az aw (ac (dv 0) (ac (sO T.nZ i4) an))) (Hv (X6 T.wF (dv 0) (dg (v:=.ref t.ji) T.uD rfl fun _=>i6 _)))))),?_⟩
 refine⟨_,rfl,_,_,_,_,rfl,cZ,rfl,_,rfl,fk ⟨_,rfl,z,rfl,rfl,?_⟩⟩
 rw[Le]
 exact fo q
theorem DP (T:Txt w K mg t):Ok P w base T.ng 1 (fun ds S R _=>∃ z,ds=[.str z]∧R (.bl (AJ z)) S):=by
 refine T.ng.F.ok Dy (by rintro ds S R Z ⟨_,e,_⟩;rw[e];rfl) ?_
 rintro bu A outer s H E ds S R Z hr ⟨z,e,q⟩
 subst e
 refine⟨_,(s1 (sr (rL (cb dA T.az aw (ac (dv 0) (ac (sO T.nZ i4) an))) (Hv (X6 T.wG (dv 0) (dg (v:=.ref t.jj) T.uE rfl fun _=>i6 _)))))),?_⟩
 refine⟨_,rfl,_,_,_,_,rfl,cZ,rfl,_,rfl,fk ⟨_,rfl,z,rfl,rfl,?_⟩⟩
 rw[Le]
 exact fo q
theorem kz (T:Txt w K mg t):Ok P w base T.bR 3 (fun ds S R _=>∃ cs z,ds=[.tup (cs.map ay),.str z]∧Gd cs∧z.cps.size≤1000∧(∀ k,(z,k)∈cs→R (.str k) S)∧(z∉cs.map Prod.fst→R .au S)):=by
 have nB:Ok P w base T.eS 2 (nu (ofStr jv)):=qF T
 refine T.bR.F.ok rW (by rintro ds S R Z ⟨_,_,e,_⟩;rw[e];rfl) ?_
 rintro bu A outer s H E ds S R Z hr ⟨cs,z,e,hg,hz,q1,q2⟩
 subst e
 refine⟨_,(sc (si (eC (tv (cf (nB.mono (by decide)) hr T.eS.m T.eS.k T.eS.b d0 (ac (dv 1) an)))) (s1 (sr dn)) s0) (s1 (sr (ZN hr.units (ct Np T.NI ID (ac (dv 0) an)) (dv 1))))),?_⟩
 refine⟨_,rfl,.str z,rfl,gt_str hz,_,rfl,?_⟩
 refine ck (fun h=>?_) (fun h=>?_)
 ·have h:jv z=false:=nt h
  refine fo (q2 fun m=>?_)
  obtain⟨c,hc,rfl⟩:=ze.mp m
  rw[(hg.2.2 c hc).1] at h;cases h
 ·have ek:cs.map ay=(cs.map fun c=>(c.1,D.str c.2)).map Ft:=by rw[zt];rfl
  refine⟨_,rfl,(cs.map fun c=>(c.1,D.str c.2)),by rw[ek],fun p hp=>⟨p,_,rfl,aa,_,rfl,_,.inr z,aa,rfl,S,.new hp,?_⟩⟩
  have h1:=CW (cs.map fun c=>(c.1,D.str c.2)) z
  cases q3:cy (pZ (cs.map fun c=>(c.1,D.str c.2))) (.inr z) with
  | none =>
   rw[q3] at h1
   refine q2 fun m=>?_
   obtain⟨c,hc,e⟩:=ze.mp m
   have:(cs.map fun c=>(c.1,D.str c.2)).any (fun p=>decide (p.1=z))=true:=List.any_eq_true.mpr ⟨_,ze.mpr ⟨c,hc,rfl⟩,zu e⟩
   rw[this] at h1;cases h1
  | some d =>
   obtain⟨p,hp,e1,rfl⟩:=uZ _ _ q3
   obtain⟨c,hc,rfl⟩:=ze.mp hp
   have e1:c.1=z:=e1
   exact q1 c.2 (by rw[← e1];exact hc)
theorem AK (T:Txt w K mg t):Ok P w base T.jQ 4 (fun ds S R _=>∃ cs p,ds=[.tup (cs.map ay),p3 p]∧Gd cs∧WQ p∧R (.bl (gs cs p)) S):=by
 have iB:Ok P w base T.bR 3 (fun ds S R _=>∃ cs z,ds=[.tup (cs.map ay),.str z]∧Gd cs∧z.cps.size≤1000∧∀ d,ah d=!decide (z∈cs.map Prod.fst)→R d S) :=
  (kz T).Nk <| by rintro ds S R Z ⟨cs,z,e,hg,hz,q⟩;exact⟨cs,z,e,hg,hz,fun k hk=>q _ (by rw[zu (ze.mpr ⟨_,hk,rfl⟩)];rfl),fun hn=>q _ (by rw[zr hn];rfl)⟩
 have qM:Ok P w base T.gA 1 _:=tw T
 have GP:Ok P w base T.ng 1 _:=DP T
 refine T.jQ.F.ok Av (by rintro ds S R Z ⟨_,_,e,_⟩;rw[e];rfl) ?_
 rintro bu A outer s H E ds S R Z hr ⟨cs,p,e,hg,hp,q⟩
 subst e
 refine⟨_,(sc (si (twd (twor (eC (tv (cb dA T.az aw (ac (dv 1) (ac (sO T.cG bP) an))))) (tw1 (bK j7 hr.units (cb bH T.bx aV (ac (dv 1) an)) di)))) (s1 (sr db)) s0) (s1 (sr (rL (cm pW hr.units (cf (iB.mono (by decide)) hr T.bR.m T.bR.k T.bR.b d0 (ac (dv 0) (ac (ix hr.units (dv 1) di) an))) dn) (rL (cf (qM.mono (by decide)) hr T.gA.m T.gA.k T.gA.b d0 (ac (ix hr.units (dv 1) di) an)) (Hv (cf (GP.mono (by decide)) hr T.ng.m T.ng.k T.ng.b d0 (ac (ix hr.units (dv 1) di) an)))))))),?_⟩
 refine⟨_,rfl,_,_,_,_,rfl,bt,rfl,_,rfl,bV ⟨_,rfl,_,rfl,_,rfl,bV ?_⟩⟩
 refine⟨_,rfl,_,rfl,_,rfl,cs,p.1,rfl,hg,hp.1,fun d hd=>⟨_,rfl,?_⟩⟩
 unfold gs at q
 refine ck (fun h=>?_) (fun h=>?_)
 ·have h:(!ah d)=true:=h
  rw[hd,Bool.not_not] at h
  rw[h,zW] at q
  refine⟨_,rfl,_,rfl,p.2.1,rfl,_,rfl,?_⟩
  refine ck (fun h2=>?_) (fun h2=>?_)
  ·rw[h2,zW] at q
   exact⟨_,rfl,_,rfl,p.2.2,rfl,fo q⟩
  ·rw[h2,zP] at q
   exact fo q
 ·have h:(!ah d)=false:=h
  rw[hd,Bool.not_not] at h
  rw[h,zP] at q
  exact fo q
theorem qN (T:Txt w K mg t):Ok P w base T.dD 5 (fun ds S R Z=>∃ cs ps wy,ds=[.tup (cs.map ay),.tup [.tup (ps.map p3),.str wy]]∧Gd cs∧(∀ p∈ps,WQ p)∧(DN cs ps wy=true→R .au S)∧(DN cs ps wy=false→Z t.kW S)):=by
 have DQ:Ok P w base T.jQ 4 _:=AK T
 have qM:Ok P w base T.gA 1 _:=tw T
 refine T.dD.F.ok fL (by rintro ds S R Z ⟨_,_,_,e,_⟩;rw[e];rfl) ?_
 rintro bu A outer s H E ds S R Z hr ⟨cs,ps,wy,e,hg,hp,q1,q2⟩
 subst e
 have Yt:(ps.map p3).length=ps.length:=zb _
 refine⟨_,(sc (si (twd (twor (eC (tv (cb dA T.az aw (ac (dv 1) (ac (sO T.cG bP) an))))) (tw1 (bK j7 hr.units (cb bH T.bx aV (ac (dv 1) an)) di)))) (s1 (vR ⟨T.dq⟩ T.eV (ac ds an))) s0) (sc (eI (i:=2) fL.nd (ix hr.units (dv 1) di)) (sc (si (twd (twor (eC (tv (cb dA T.az aw (ac (dv 2) (ac (sO T.cG bP) an))))) (tw1 (bK oy hr.units (cb bH T.bx aV (ac (dv 2) an)) (dg (v:=.int 8) T.jq ⟨_,rfl⟩ fun _=>aQ _))))) (s1 (vR ⟨T.dq⟩ T.eV (ac ds an))) s0) (sc (si (eC (tv (cb lQ T.l5 hG (ac (rM (N:=["part", "columns"]) (src:=[none,some 0]) (kG (ae cV) ["columns", "order", "parts", "names"] rfl rfl (by decide +kernel)) (Hx (dv 2)) (oZ (show (["part", "columns"]:List Str).Nodup by decide +kernel)) (a_ rfl) ba (fun _ _ _ _ _=>ud) (fun _ _ _ _ _=>(cf (DQ.mono (by decide)) hr T.jQ.m T.jQ.k T.jQ.b d0 (ac (dv 1) (ac (dv 0) an))))) an)))) (s1 (vR ⟨T.dq⟩ T.eV (ac ds an))) s0) (sc (OR (i:=3) (N:=["part"]) (src:=[none]) fL.nd (kG (ae cV) ["columns", "order", "parts", "names"] rfl rfl (by decide +kernel)) (Hx (dv 2)) (oZ (show (["part"]:List Str).Nodup by decide +kernel)) (a_ rfl) ba (fun _ _ _ _ _=>ud) (fun _ _ _ _ _=>(ix hr.units (dv 0) di))) (sc (si (bK j7 hr.units (X5 (dv 3) T.bx T.K5) (cb bH T.bx aV (ac (dv 3) an))) (s1 (vR ⟨T.dq⟩ T.eV (ac ds an))) s0) (s1 (si (eC (tv (cf (qM.mono (by decide)) hr T.gA.m T.gA.k T.gA.b d0 (ac (ix hr.units (dv 1) di) an)))) (s1 (vR ⟨T.dq⟩ T.eV (ac ds an))) s0)))))))),?_⟩
 refine⟨_,rfl,_,_,_,_,rfl,bt,rfl,_,rfl,bV ⟨_,rfl,_,rfl,_,rfl,bV ?_⟩⟩
 refine⟨_,rfl,_,rfl,_,rfl,_,_,_,_,rfl,bt,rfl,_,rfl,bV ⟨_,rfl,_,rfl,_,rfl,?_⟩⟩
 refine ck (fun h=>?_) (fun h=>?_)
 ·have h:(8:Int)<(((ps.map p3).length:Nat):Int):=zE h
  rw[Yt] at h
  exact⟨oJ,fo (q2 (by unfold DN;rw[zr (by omega)];rfl))⟩
 have h:¬ (8:Int)<(((ps.map p3).length:Nat):Int):=zX h
 rw[Yt] at h
 have h8:ps.length≤8:=by omega
 unfold DN at q1 q2
 rw[zu h8,zW] at q1 q2
 refine⟨_,rfl,_,.inl rfl,?_⟩
 refine gW (fun d v=>∃ p,d=p3 p∧v=.bl (gs cs p)) trivial (by show (ps.map p3).length≤_;omega) (fun d hd Q hQ=>?_) fun out ho p uW=>?_
 ·obtain⟨p,Yu,rfl⟩:=ze.mp hd
  exact⟨_,rfl,_,rfl,cs,p,rfl,hg,hp p Yu,hQ _ ⟨p,rfl,rfl⟩⟩
 have eo:out=(ps.map (gs cs)).map D.bl:=by
  have:∀ {ps:List (Str×Str×Str)}{out:List D},Paired (fun d v=>∃ p,d=p3 p∧v=.bl (gs cs p)) (ps.map p3) out→out=(ps.map (gs cs)).map D.bl:=by
   intro ps
   induction ps with
   | nil=>intro out h;cases h;rfl
   | cons x ps ih =>
    intro out h
    cases h with
    | cons r t =>
     obtain⟨p,e1,e2⟩:=r
     have:x=p:=by
      obtain⟨a,b,c⟩:=x
      obtain⟨a',b',c'⟩:=p
      unfold p3 at e1
      injection e1 with e1
      injection e1 with h1 e1
      injection e1 with h2 e1
      injection e1 with h3 _
      injection h1 with h1
      injection h2 with h2
      injection h3 with h3
      rw[show a=a' from h1,show b=b' from h2,show c=c' from h3]
     rw[e2,ih t,← this];rfl
  exact this ho
 subst eo
 refine⟨.ref p,ps.map (gs cs),rfl,aa,_,rfl,?_⟩
 rw[show (ps.map (gs cs)).all id=ps.all (gs cs) from all_map]
 refine ck (fun ha=>?_) (fun ha=>?_)
 ·have ha:=nt ha
  exact⟨oJ,S,.new uW,q2 (by rw[ha];rfl)⟩
 have ha:=nf ha
 rw[ha,zW] at q1 q2
 refine⟨_,rfl,_,.inl rfl,?_⟩
 refine comp_map (fun d=>match d with | .tup (x :: _)=>x | _=>.au) trivial (by show (ps.map p3).length≤_;omega) (fun d hd Q hQ=>?_) fun p2 iD=>?_
 ·obtain⟨p,Yu,rfl⟩:=ze.mp hd
  exact⟨_,rfl,_,rfl,hQ⟩
 have e3:(ps.map p3).map (fun d=>match d with | .tup (x :: _)=>x | _=>.au)=(ps.map Prod.fst).map D.str:=by rw[zt,zt];rfl
 rw[show (⟨ps.map p3,fun _=>True⟩:yX).xs=ps.map p3 from rfl,e3]
 have sb:Sub S ((S.set p (.lst ((ps.map (gs cs)).map D.bl))).set p2 (.lst ((ps.map Prod.fst).map D.str))):=(Sub.new uW).trans (.new iD)
 have BO:((S.set p (.lst ((ps.map (gs cs)).map D.bl))).set p2 (.lst ((ps.map Prod.fst).map D.str))) p2=some (.lst ((ps.map Prod.fst).map D.str)):=aa
 generalize (S.set p (.lst ((ps.map (gs cs)).map D.bl))).set p2 (.lst ((ps.map Prod.fst).map D.str))=S2 at sb BO ⊢
 refine⟨_,rfl,ps.map Prod.fst,BO,by rw[zb];omega,_,rfl,_,rfl,.inl ⟨_,BO,_,rfl,?_⟩⟩
 have e4:decide ((((iG (ps.map Prod.fst)).length:Nat):Int)=((((ps.map Prod.fst).map D.str).length:Nat):Int))=decide ((ps.map Prod.fst).Nodup):=by
  rw[yC,← sM,zb];omega
 refine ck (fun hn=>?_) (fun hn=>?_)
 ·have hn:(!decide ((((iG (ps.map Prod.fst)).length:Nat):Int)=((((ps.map Prod.fst).map D.str).length:Nat):Int)))=true:=hn
  rw[e4] at hn
  exact⟨oJ,S,sb,q2 (by rw[nt hn];rfl)⟩
 have hn:(!decide ((((iG (ps.map Prod.fst)).length:Nat):Int)=((((ps.map Prod.fst).map D.str).length:Nat):Int)))=false:=hn
 rw[e4] at hn
 rw[nf hn,zW] at q1 q2
 refine⟨_,rfl,_,rfl,wy,rfl,_,rfl,?_⟩
 refine ck (fun hw=>?_) (fun hw=>?_)
 ·exact⟨oJ,S,sb,q2 (nt hw)⟩
 ·exact⟨S,sb,q1 (nf hw)⟩
theorem aX {p:Bool}{A B:Prop} (h:p=false) (q:B):if p=true then A else B:=by rw[h];exact bV q
theorem lH {p:Bool}{A B:Prop} (h:p=true) (q:A):if p=true then A else B:=by rw[h];exact fk q
def qO (o:Str) (c:Str×Str) (v:D):Prop:=o = "is" ∨ (v≠.au∧(o = "below" ∨ o = "above" ∨ (o = "begins" ∧ c.2 = "word")))
def Lf (cs:List (Str×Str)) (d:D):Prop :=
 d=.tup [.str "every"]∨(∃ ks:List Str,d=.tup [.str "key",.tup (ks.map .str)]∧ks.length≤8∧∀ k∈ks,k∈KS) ∨
 ∃ (o:Str) (c:Str×Str) (v:D),c∈cs∧Vg c.2 v∧qO o c v∧d=.tup [.str o,.str c.1,v]
def Sg (cs:List (Str×Str)):Nat→D→Prop
 | 0,_=>False
 | n+1,d=>Lf cs d∨(∃ e,d=.tup [.str "not",e]∧Sg cs n e)∨∃ (o:Str) (ds:List D),(o = "and" ∨ o = "or")∧d=.tup [.str o,.tup ds]∧ds.length≤2∧∀ e∈ds,Sg cs n e
theorem GQ {k:Str}{v:D} (h:Vg k v) {S:aT} : Gt S v:=by
 have h:=h.2
 cases v with
 | au=>exact⟨⟨_,rfl⟩,fun z e=>by cases e⟩
 | int i=>exact⟨⟨_,rfl⟩,fun z e=>by cases e⟩
 | str z =>
  unfold fP at h
  simp only [zL,yp] at h
  exact gt_str (by omega)
 | _=>cases h
theorem w5 (T:Txt w K mg t):Ok P w base T.bf 1 (fun ds S R _=>∃ es,ds=[.tup es]∧es.length≤8∧R (.bl true) S):=by
 refine T.bf.F.ok l7 (by rintro ds S R Z ⟨_,e,_⟩;rw[e];rfl) ?_
 rintro bu A outer s H E ds S R Z hr ⟨es,e,hl,q⟩
 subst e
 refine⟨_,(s1 (sr (rL (cb dA T.az aw (ac (dv 0) (ac (sO T.cG bP) an))) (Hv (cm kJ hr.units (cb bH T.bx aV (ac (dv 0) an)) (dg (v:=.int 8) T.kZ ⟨_,rfl⟩ fun _=>aQ _)))))),?_⟩
 refine⟨_,rfl,_,_,_,_,rfl,bt,rfl,_,rfl,fk ⟨_,rfl,_,rfl,?_⟩⟩
 have e1:decide (((es.length:Nat):Int)≤8)=true:=zu (by omega)
 show Fo S (R (.bl (decide (((es.length:Nat):Int)≤8))))
 rw[e1]
 exact fo q
theorem qP (T:Txt w K mg t):Ok P w base T.dE 4 (fun ds S R _=>∃ cs o c v,ds=[.tup (cs.map ay),.tup [.str o,.str c.1,v]]∧Gd cs∧c∈cs∧Vg c.2 v∧qO o c v∧R (.bl true) S):=by
 have iB:Ok P w base T.bR 3 _:=kz T
 have lh:Ok P w base T.cX 3 _:=n_ T
 refine T.dE.F.ok js (by rintro ds S R Z ⟨_,_,_,_,e,_⟩;rw[e];rfl) ?_
 rintro bu A outer s H E ds S R Z hr ⟨cs,o,c,v,e,hg,hc,hv,ho,q⟩
 subst e
 have hn:∀ k,(c.1,k)∈cs→k=c.2:=fun k hk=>by
  have:=iw hg.2.1 hk hc rfl
  rw[← this]
 refine⟨_,(sc (eI (i:=2) js.nd (cf (iB.mono (by decide)) hr T.bR.m T.bR.k T.bR.b d0 (ac (dv 0) (ac (ix hr.units (dv 1) di) an)))) (sc (si (twd (twor (bK mL hr.units (dv 2) dn) (tw1 (eC (tv (cf (lh.mono (by decide)) hr T.cX.m T.cX.k T.cX.b d0 (ac (dv 2) (ac (ix hr.units (dv 1) di) an)))))))) (s1 (sr db)) s0) (sc (si (bK bc hr.units (ix hr.units (dv 1) di) ds) (s1 (sr db)) s0) (sc (si (twd (twand (bK bc hr.units (ix hr.units (dv 1) di) ds) (tw1 (bK j7 hr.units (dv 2) ds)))) (s1 (sr db)) s0) (s1 (sr (cm pW hr.units (ix hr.units (dv 1) di) dn))))))),?_⟩
 refine⟨_,rfl,_,rfl,_,rfl,cs,c.1,rfl,hg,nA (hg.2.2 c hc).1,fun k hk=>?_,fun hk=>absurd (ze.mpr ⟨c,hc,rfl⟩) hk⟩
 cases hn k hk
 refine⟨_,rfl,_,rfl,bV ⟨_,rfl,_,rfl,_,rfl,c.2,v,rfl,GQ hv,_,rfl,?_⟩⟩
 rw[hv.1]
 refine bV ⟨_,rfl,_,rfl,_,rfl,?_⟩
 rcases ho with rfl | ⟨Tq,ho⟩
 ·exact lH (by decide +kernel) (fo q)
 have Q8:ah v=false:=by cases v <;> first | rfl | exact absurd rfl Tq
 have e9:(!ah v)=true:=by rw[Q8];rfl
 have fin:Fo S (R (.bl (!ah v))):=by rw[e9];exact fo q
 rcases ho with rfl | rfl | ⟨rfl,hw⟩
 ·refine aX (by decide +kernel) ⟨_,rfl,_,rfl,_,rfl,aX (by decide +kernel) ⟨_,rfl,_,rfl,fin⟩⟩
 ·refine aX (by decide +kernel) ⟨_,rfl,_,rfl,_,rfl,aX (by decide +kernel) ⟨_,rfl,_,rfl,fin⟩⟩
 ·refine aX (by decide +kernel) ⟨_,rfl,_,rfl,_,rfl,lH (by decide +kernel) ⟨_,rfl,_,rfl,?_⟩⟩
  rw[hw]
  exact aX (by decide +kernel) ⟨_,rfl,_,rfl,fin⟩
theorem JN (h:z∈KS):z.cps.size≤1000:=zG (jB z h).2.1 (by decide)
theorem u3 (T:Txt w K mg t):Ok P w base T.fB 5 (fun ds S R _=>∃ cs n d,ds=[.tup (cs.map ay),d]∧Gd cs∧Sg cs n d∧R (.bl true) S):=by
 have sg:Ok P w base T.dE 4 _:=qP T
 have gZ:Ok P w base T.bf 1 _:=w5 T
 have fO:Ok P w base T.cC 2 (nu (ofStr fX)):=jV T
 refine T.fB.F.ok uK (by rintro ds S R Z ⟨_,_,_,e,_⟩;rw[e];rfl) ?_
 rintro bu A outer s H E ds S R Z hr ⟨cs,n,d,e,hg,hs,q⟩
 subst e
 refine⟨_,(sc (si (twd (twor (eC (tv (cb dA T.az aw (ac (dv 1) (ac (sO T.cG bP) an))))) (twor (bK bc hr.units (cb bH T.bx aV (ac (dv 1) an)) di) (tw1 (eC (tv (cb dA T.az aw (ac (ix hr.units (dv 1) di) (ac (sO T.nZ i4) an))))))))) (s1 (sr db)) s0) (sc (si (bK j7 hr.units (mgk T.Ds (by decide) (gK T.Aq) (ix hr.units (dv 1) di)) (cb bH T.bx aV (ac (dv 1) an))) (s1 (sr db)) s0) (sc (si (bK vN hr.units (ix hr.units (dv 1) di) (dJ (ac ds (ac ds (ac ds (ac ds an)))))) (s1 (sr (cf (sg.mono (by decide)) hr T.dE.m T.dE.k T.dE.b d0 (ac (dv 0) (ac (dv 1) an))))) s0) (sc (si (bK bc hr.units (ix hr.units (dv 1) di) ds) (s1 (sr (rL (cf (gZ.mono (by decide)) hr T.bf.m T.bf.k T.bf.b d0 (ac (ix hr.units (dv 1) di) an)) (Hv (cb lQ T.l5 hG (ac (rM (N:=["key"]) (src:=[none]) (kG (ae f_) ["columns", "thing"] rfl rfl (by decide +kernel)) (Hx (ix hr.units (dv 1) di)) (oZ (show (["key"]:List Str).Nodup by decide +kernel)) (a_ rfl) ba (fun _ _ _ _ _=>ud) (fun _ _ _ _ _=>(cf (fO.mono (by decide)) hr T.cC.m T.cC.k T.cC.b d0 (ac (dv 0) an)))) an)))))) s0) (sc (si (bK vN hr.units (ix hr.units (dv 1) di) (dJ (ac ds (ac ds an)))) (s1 (sr (cf (gZ.mono (by decide)) hr T.bf.m T.bf.k T.bf.b d0 (ac (ix hr.units (dv 1) di) an)))) s0) (s1 (sr db))))))),?_⟩
 cases n with
 | zero=>exact hs.elim
 | succ n =>
 rcases hs with (rfl | ⟨ks,rfl,WR,xr⟩ | ⟨o,c,v,hc,hv,ho,rfl⟩) | ⟨e,rfl,he⟩ | ⟨o,es,ho,rfl,Lg,_⟩
 ·refine⟨_,rfl,_,_,_,_,rfl,bt,rfl,_,rfl,bV ⟨_,rfl,_,rfl,_,rfl,aX rfl ⟨_,rfl,_,rfl,_,_,_,_,rfl,cZ,rfl,_,rfl,bV ?_⟩⟩⟩
  refine⟨_,rfl,_,rfl,_,rfl,_,rfl,_,rfl,_,rfl,aX rfl ?_⟩
  exact⟨_,rfl,_,rfl,oK,rfl,rfl,_,rfl,aX (by decide +kernel) ⟨_,rfl,_,rfl,_,rfl,aX (by decide +kernel) ⟨_,rfl,_,rfl,cD,rfl,rfl,_,rfl,aX (by decide +kernel) (fo q)⟩⟩⟩
 ·refine⟨_,rfl,_,_,_,_,rfl,bt,rfl,_,rfl,bV ⟨_,rfl,_,rfl,_,rfl,aX rfl ⟨_,rfl,_,rfl,_,_,_,_,rfl,cZ,rfl,_,rfl,bV ?_⟩⟩⟩
  refine⟨_,rfl,_,rfl,_,rfl,_,rfl,_,rfl,_,rfl,aX rfl ?_⟩
  refine⟨_,rfl,_,rfl,oK,rfl,rfl,_,rfl,aX (by decide +kernel) ⟨_,rfl,_,rfl,_,rfl,lH (by decide +kernel) ?_⟩⟩
  refine⟨_,rfl,_,rfl,_,rfl,by rw[zb];exact WR,_,rfl,fk ⟨_,rfl,_,rfl,_,.inl rfl,?_⟩⟩
  refine comp_map (fun _=>.bl true) trivial (by show (ks.map D.str).length≤1000;rw[zb];omega) (fun d hd Q hQ=>?_) fun p hp=>?_
  ·obtain⟨k,hk,rfl⟩:=ze.mp hd
   refine⟨_,rfl,.str k,rfl,gt_str (JN (xr k hk)),?_⟩
   show Q (.bl (fX k)) S
   rw[(jB k (xr k hk)).1];exact hQ
  ·have e2:(ks.map D.str).map (fun _=>D.bl true)=(ks.map fun _=>true).map D.bl:=by rw[zt,zt];rfl
   have e3:(ks.map fun _=>true).all id=true:=by rw[all_map];exact zZ.mpr fun _ _=>rfl
   refine⟨.ref p,ks.map fun _=>true,rfl,?_,S,.new hp,?_⟩
   ·show (S.set p (.lst ((ks.map D.str).map _))) p=_
    rw[aa,e2]
   ·rw[e3];exact q
 ·have h4:o = "is" ∨ o = "below" ∨ o = "above" ∨ o = "begins" := by
   rcases ho with h | ⟨_,h | h | ⟨h,_⟩⟩
   ·exact .inl h
   ·exact .inr (.inl h)
   ·exact .inr (.inr (.inl h))
   ·exact .inr (.inr (.inr h))
  refine⟨_,rfl,_,_,_,_,rfl,bt,rfl,_,rfl,bV ⟨_,rfl,_,rfl,_,rfl,aX rfl ⟨_,rfl,_,rfl,_,_,_,_,rfl,cZ,rfl,_,rfl,bV ?_⟩⟩⟩
  have fin:∃ (JO:List (Str×Str)) (o':Str) (c':Str×Str) (v':D),[D.tup (cs.map ay),.tup [.str o,.str c.1,v]]=[.tup (JO.map ay),.tup [.str o',.str c'.1,v']]∧Gd JO∧c'∈JO∧Vg c'.2 v'∧qO o' c' v'∧Fo S (R (.bl true)):=⟨cs,o,c,v,rfl,hg,hc,hv,ho,fo q⟩
  rcases h4 with rfl | rfl | rfl | rfl
  ·exact⟨_,rfl,_,rfl,_,rfl,_,rfl,_,rfl,_,rfl,aX rfl ⟨_,rfl,_,rfl,oK,rfl,rfl,_,rfl,lH (by decide +kernel) ⟨_,rfl,_,rfl,fin⟩⟩⟩
  ·exact⟨_,rfl,_,rfl,_,rfl,_,rfl,_,rfl,_,rfl,aX rfl ⟨_,rfl,_,rfl,oK,rfl,rfl,_,rfl,lH (by decide +kernel) ⟨_,rfl,_,rfl,fin⟩⟩⟩
  ·exact⟨_,rfl,_,rfl,_,rfl,_,rfl,_,rfl,_,rfl,aX rfl ⟨_,rfl,_,rfl,oK,rfl,rfl,_,rfl,lH (by decide +kernel) ⟨_,rfl,_,rfl,fin⟩⟩⟩
  ·exact⟨_,rfl,_,rfl,_,rfl,_,rfl,_,rfl,_,rfl,aX rfl ⟨_,rfl,_,rfl,oK,rfl,rfl,_,rfl,lH (by decide +kernel) ⟨_,rfl,_,rfl,fin⟩⟩⟩
 ·refine⟨_,rfl,_,_,_,_,rfl,bt,rfl,_,rfl,bV ⟨_,rfl,_,rfl,_,rfl,aX rfl ⟨_,rfl,_,rfl,_,_,_,_,rfl,cZ,rfl,_,rfl,bV ?_⟩⟩⟩
  refine⟨_,rfl,_,rfl,_,rfl,_,rfl,_,rfl,_,rfl,aX rfl ?_⟩
  exact⟨_,rfl,_,rfl,oK,rfl,rfl,_,rfl,aX (by decide +kernel) ⟨_,rfl,_,rfl,_,rfl,aX (by decide +kernel) ⟨_,rfl,_,rfl,cD,rfl,rfl,_,rfl,aX (by decide +kernel) (fo q)⟩⟩⟩
 ·have h8:es.length≤8:=by omega
  rcases ho with rfl | rfl
  ·refine⟨_,rfl,_,_,_,_,rfl,bt,rfl,_,rfl,bV ⟨_,rfl,_,rfl,_,rfl,aX rfl ⟨_,rfl,_,rfl,_,_,_,_,rfl,cZ,rfl,_,rfl,bV ?_⟩⟩⟩
   refine⟨_,rfl,_,rfl,_,rfl,_,rfl,_,rfl,_,rfl,aX rfl ?_⟩
   exact⟨_,rfl,_,rfl,oK,rfl,rfl,_,rfl,aX (by decide +kernel) ⟨_,rfl,_,rfl,_,rfl,aX (by decide +kernel) ⟨_,rfl,_,rfl,cD,rfl,rfl,_,rfl,lH (by decide +kernel) ⟨_,rfl,_,rfl,_,rfl,h8,fo q⟩⟩⟩⟩
  ·refine⟨_,rfl,_,_,_,_,rfl,bt,rfl,_,rfl,bV ⟨_,rfl,_,rfl,_,rfl,aX rfl ⟨_,rfl,_,rfl,_,_,_,_,rfl,cZ,rfl,_,rfl,bV ?_⟩⟩⟩
   refine⟨_,rfl,_,rfl,_,rfl,_,rfl,_,rfl,_,rfl,aX rfl ?_⟩
   exact⟨_,rfl,_,rfl,oK,rfl,rfl,_,rfl,aX (by decide +kernel) ⟨_,rfl,_,rfl,_,rfl,aX (by decide +kernel) ⟨_,rfl,_,rfl,cD,rfl,rfl,_,rfl,lH (by decide +kernel) ⟨_,rfl,_,rfl,_,rfl,h8,fo q⟩⟩⟩⟩
theorem nE (T:Txt w K mg t):Ok P w base T.cB 1 (fun ds S R _=>∃ l es cs m,ds=[.ref l]∧S l=some (.lst es)∧es.length≤8∧(∀ e∈es,Sg cs (m+1) e)∧∀ p fs,fs.length≤2 * es.length→(∀ f∈fs,Sg cs m f)→S p=none→R (.ref p) (S.set p (.lst fs))):=by
 refine T.cB.F.ok eP (by rintro ds S R Z ⟨_,_,_,_,e,_⟩;rw[e];rfl) ?_
 rintro bu A outer s H E ds S R Z hr ⟨l,es,cs,m,e,hl,h8,Lg,q⟩
 subst e
 refine⟨_,(sc (eI (i:=1) eP.nd (dI an)) (sc (CU (Hy (il (dv 0)) (gn (i:=2) eP.nd) (sc (CU (si (bK bc hr.units (ix hr.units (dv 2) di) ds) (s1 (se (bm zJ zU zV cT (dv 1) (ac (ix hr.units (dv 2) di) an)))) s0)) (s1 (si (bK vN hr.units (ix hr.units (dv 2) di) (dJ (ac ds (ac ds an)))) (s1 (se (bm zJ PySem.F.slot_list_extend PySem.F.type_list_extend CY (dv 1) (ac (ix hr.units (dv 2) di) an)))) s0))))) (s1 (sr (dv 1))))),?_⟩
 refine⟨uO,fun f hf=>?_⟩
 have HB:l≠f:=gL hl hf
 refine⟨fun aK S'=>∃ o fs,aK=[some (.ref l),some (.ref f),o]∧S'=S.set f (.lst fs)∧fs.length≤2 * es.length∧∀ x∈fs,Sg cs m x,?_,?_⟩
 ·refine⟨_,rfl,es,(af HB).trans hl,?_⟩
  refine⟨fun i aK S'=>∃ o fs,aK=[some (.ref l),some (.ref f),o]∧S'=S.set f (.lst fs)∧fs.length≤2 * i∧∀ x∈fs,Sg cs m x,⟨none,[],rfl,rfl,zl _,fun _ h=>(nomatch h)⟩,?_,?_,?_⟩
  ·rintro i aK S' ⟨o,fs,rfl,rfl,_⟩
   exact (af HB).trans hl
  ·rintro i e aK S' he ⟨o,fs,rfl,rfl,Ej,O7⟩
   have he:es[i]?=some e:=he
   have hem:=Lg e (zK he)
   have hi:i<es.length:=(zo.mp he).1
   have HD:(S.set f (.lst fs)) f=some (.lst fs):=aa
   have keep:∀ e:D,∃ o Ea,[some (D.ref l),some (D.ref f),some e]=[some (.ref l),some (.ref f),o]∧S.set f (.lst fs)=S.set f (.lst Ea)∧Ea.length≤2 * (i+1)∧∀ x∈Ea,Sg cs m x:=fun e=>⟨_,fs,rfl,rfl,by omega,O7⟩
   have more:∀ (e:D) (ds:List D),ds.length≤2→(∀ x∈ds,Sg cs m x)→∃ o Ea,[some (D.ref l),some (D.ref f),some e]=[some (.ref l),some (.ref f),o]∧(S.set f (.lst fs)).set f (.lst (fs++ds))=S.set f (.lst Ea)∧Ea.length≤2 * (i+1)∧∀ x∈Ea,Sg cs m x:=fun e ds h1 h2=>⟨_,fs++ds,rfl,dy,by rw[zy];omega,fun x hx=>(zI.mp hx).elim (O7 x) (h2 x)⟩
   have aax:fs.length+2≤1000:=by omega
   rcases hem with (rfl | ⟨ks,rfl,_,_⟩ | ⟨o,c,v,_,_,ho,rfl⟩) | ⟨e',rfl,VN⟩ | ⟨o,ds,ho,rfl,Mp,hd⟩
   ·refine⟨fun mD S2=>mD=_∧S2=S.set f (.lst fs),⟨_,rfl,_,rfl,_,rfl,aX (by decide +kernel) (fo ⟨rfl,rfl⟩)⟩,?_⟩
    rintro _ _ ⟨rfl,rfl⟩
    exact⟨_,rfl,_,rfl,cD,rfl,rfl,_,rfl,aX (by decide +kernel) (keep _)⟩
   ·refine⟨fun mD S2=>mD=_∧S2=S.set f (.lst fs),⟨_,rfl,_,rfl,_,rfl,aX (by decide +kernel) (fo ⟨rfl,rfl⟩)⟩,?_⟩
    rintro _ _ ⟨rfl,rfl⟩
    exact⟨_,rfl,_,rfl,cD,rfl,rfl,_,rfl,aX (by decide +kernel) (keep _)⟩
   ·rcases ho with rfl | ⟨_,rfl | rfl | ⟨rfl,_⟩⟩
    ·refine⟨fun mD S2=>mD=_∧S2=S.set f (.lst fs),⟨_,rfl,_,rfl,_,rfl,aX (by decide +kernel) (fo ⟨rfl,rfl⟩)⟩,?_⟩
     rintro _ _ ⟨rfl,rfl⟩
     exact⟨_,rfl,_,rfl,cD,rfl,rfl,_,rfl,aX (by decide +kernel) (keep _)⟩
    ·refine⟨fun mD S2=>mD=_∧S2=S.set f (.lst fs),⟨_,rfl,_,rfl,_,rfl,aX (by decide +kernel) (fo ⟨rfl,rfl⟩)⟩,?_⟩
     rintro _ _ ⟨rfl,rfl⟩
     exact⟨_,rfl,_,rfl,cD,rfl,rfl,_,rfl,aX (by decide +kernel) (keep _)⟩
    ·refine⟨fun mD S2=>mD=_∧S2=S.set f (.lst fs),⟨_,rfl,_,rfl,_,rfl,aX (by decide +kernel) (fo ⟨rfl,rfl⟩)⟩,?_⟩
     rintro _ _ ⟨rfl,rfl⟩
     exact⟨_,rfl,_,rfl,cD,rfl,rfl,_,rfl,aX (by decide +kernel) (keep _)⟩
    ·refine⟨fun mD S2=>mD=_∧S2=S.set f (.lst fs),⟨_,rfl,_,rfl,_,rfl,aX (by decide +kernel) (fo ⟨rfl,rfl⟩)⟩,?_⟩
     rintro _ _ ⟨rfl,rfl⟩
     exact⟨_,rfl,_,rfl,cD,rfl,rfl,_,rfl,aX (by decide +kernel) (keep _)⟩
   ·refine⟨fun mD S2=>mD=_∧S2=(S.set f (.lst fs)).set f (.lst (fs++[e'])),⟨_,rfl,_,rfl,_,rfl,lH (by decide +kernel) ⟨_,rfl,⟨rfl,_,HD⟩,_,rfl,_,rfl,f,_,_,rfl,rfl,HD,bg (by omega),fo ⟨rfl,rfl⟩⟩⟩,?_⟩
    rintro _ _ ⟨rfl,rfl⟩
    exact⟨_,rfl,_,rfl,cD,rfl,rfl,_,rfl,aX (by decide +kernel) (more _ [e'] (by simp) (fun x hx=>by rw[zH.mp hx];exact VN))⟩
   ·rcases ho with rfl | rfl
    ·refine⟨fun mD S2=>mD=_∧S2=S.set f (.lst fs),⟨_,rfl,_,rfl,_,rfl,aX (by decide +kernel) (fo ⟨rfl,rfl⟩)⟩,?_⟩
     rintro _ _ ⟨rfl,rfl⟩
     exact⟨_,rfl,_,rfl,cD,rfl,rfl,_,rfl,lH (by decide +kernel) ⟨_,rfl,⟨rfl,_,HD⟩,_,rfl,_,rfl,f,_,_,rfl,rfl,HD,sm (by omega),more _ ds Mp hd⟩⟩
    ·refine⟨fun mD S2=>mD=_∧S2=S.set f (.lst fs),⟨_,rfl,_,rfl,_,rfl,aX (by decide +kernel) (fo ⟨rfl,rfl⟩)⟩,?_⟩
     rintro _ _ ⟨rfl,rfl⟩
     exact⟨_,rfl,_,rfl,cD,rfl,rfl,_,rfl,lH (by decide +kernel) ⟨_,rfl,⟨rfl,_,HD⟩,_,rfl,_,rfl,f,_,_,rfl,rfl,HD,sm (by omega),more _ ds Mp hd⟩⟩
  ·rintro aK S' ⟨o,fs,rfl,rfl,Ej,O7⟩
   exact fo ⟨o,fs,rfl,rfl,Ej,O7⟩
 ·rintro aK S' ⟨o,fs,rfl,rfl,Ej,O7⟩
  exact⟨_,rfl,fo (q f fs Ej O7 hf)⟩
theorem jD (T:Txt w K mg t):Ok P w base T.bB 6 (fun ds S R _=>∃ cs d,ds=[.tup (cs.map ay),d]∧Gd cs∧Sg cs 3 d∧R .au S):=by
 have w6:Ok P w base T.fB 5 _:=u3 T
 have oO:Ok P w base T.cB 1 _:=nE T
 refine T.bB.F.ok bJ (by rintro ds S R Z ⟨_,_,e,_⟩;rw[e];rfl) ?_
 rintro bu A outer s H E ds S R Z hr ⟨cs,d,e,hg,hd,q⟩
 subst e
 refine⟨_,(sc (eI (i:=2) bJ.nd (dI (ac (dv 1) an))) (sc (eI (i:=3) bJ.nd di) (sc (eI (i:=4) bJ.nd di) (s1 (swh (bK oy hr.units (cb bH T.bx aV (ac (dv 2) an)) di) (sc (Ye (i:=3) bJ.nd di) (sc (Ye (i:=4) bJ.nd (cb bH T.bx aV (ac (dv 2) an))) (sc (si (twd (twor (bK oy hr.units (dv 3) (dg (v:=.int 8) T.uC ⟨_,rfl⟩ fun _=>aQ _)) (tw1 (bK oy hr.units (dv 4) (dg (v:=.int 200) T.jr ⟨_,rfl⟩ fun _=>aQ _))))) (s1 (vR ⟨T.ir⟩ T.n0 (ac ds an))) s0) (sc (si (eC (tv (cb lQ T.l5 hG (ac (rM (N:=["thing", "columns"]) (src:=[none,some 0]) (kG (ae eR) ["columns", "sieve", "level", "deep", "parts"] rfl rfl (by decide +kernel)) (il (dv 2)) (oZ (show (["thing", "columns"]:List Str).Nodup by decide +kernel)) (a_ rfl) ba (fun _ _ _ _ _=>ud) (fun _ _ _ _ _=>(cf (w6.mono (by decide)) hr T.fB.m T.fB.k T.fB.b d0 (ac (dv 1) (ac (dv 0) an))))) an)))) (s1 (vR ⟨T.ir⟩ T.n0 (ac ds an))) s0) (s1 (eI (i:=2) bJ.nd (cf (oO.mono (by decide)) hr T.cB.m T.cB.k T.cB.b d0 (ac (dv 2) an))))))))))))),?_⟩
 refine⟨_,rfl,oJ,fun l0 WS=>?_⟩
 refine⟨fun m aK S'=>∃ (l:Addr) (es:List D) (dp p:Nat),aK=[some (.tup (cs.map ay)),some d,some (.ref l),some (.int dp),some (.int p)]∧S' l=some (.lst es)∧Sub S S'∧(∀ e∈es,Sg cs m e)∧dp+m=3∧p≤8 * dp∧es.length * 2 ^ m≤8,⟨3,l0,[d],0,0,rfl,aa,.new WS,fun e he=>by rw[zH.mp he];exact hd,rfl,zl _,zl 8⟩,?_⟩
 rintro m aK S' ⟨l,es,dp,p,rfl,hl,sb,Lg,hdp,hp,h8⟩
 refine⟨_,rfl,_,rfl,.inl ⟨_,hl,_,rfl,?_⟩⟩
 refine ck (fun h1=>?_) (fun h1=>?_)
 ·have EX:0<es.length:=by
   have h1:(0:Int)<((es.length:Nat):Int):=zE h1
   omega
  obtain⟨e0,he0⟩:=List.exists_mem_of_length_pos EX
  obtain⟨n,rfl⟩:∃ n,m=n+1:=by
   cases m with
   | zero=>exact (Lg e0 he0).elim
   | succ n=>exact⟨n,rfl⟩
  have hle:es.length≤8:=zG (Nat.le_mul_of_pos_right _ (Nat.two_pow_pos _)) h8
  refine⟨_,rfl,_,rfl,_,rfl,_,rfl,_,rfl,.inl ⟨_,hl,_,rfl,?_⟩⟩
  refine⟨_,rfl,_,rfl,aX (zr (by omega)) ⟨_,rfl,_,rfl,aX (zr (by omega)) ?_⟩⟩
  refine⟨_,rfl,es,hl,?_⟩
  refine comp_map (fun _=>.bl true) hl (by show es.length≤1000;omega) (fun e he Q hQ=>?_) fun p1 AI=>?_
  ·exact⟨_,rfl,_,rfl,cs,_,e,rfl,hg,Lg e he,hQ⟩
  have e2:es.map (fun _=>D.bl true)=(es.map fun _=>true).map D.bl:=by rw[zt];rfl
  have e3:(es.map fun _=>true).all id=true:=by rw[all_map];exact zZ.mpr fun _ _=>rfl
  refine⟨.ref p1,es.map fun _=>true,rfl,?_,_,rfl,?_⟩
  ·show (S'.set p1 (.lst (es.map _))) p1=_
   rw[aa,e2]
  rw[e3]
  refine bV ?_
  have s1:=sb.trans (.new (c:=.lst (es.map fun _=>D.bl true)) AI)
  have Ek:(S'.set p1 (.lst (es.map fun _=>D.bl true))) l=some (.lst es):=(af (gL hl AI)).trans hl
  refine⟨_,rfl,l,es,cs,n,rfl,Ek,hle,Lg,fun p2 fs h1 h2 h3=>?_⟩
  refine⟨n,Nat.lt_succ_self n,p2,fs,dp+1,p+es.length,?_,aa,s1.trans (.new h3),h2,by omega,by omega,?_⟩
  ·show [_,_,_,some (D.int (((dp:Nat):Int)+1)),some (D.int (((p:Nat):Int)+((es.length:Nat):Int)))]=_
   rw[show (((dp:Nat):Int)+1)=((dp+1:Nat):Int) by omega,show (((p:Nat):Int)+((es.length:Nat):Int))=((p+es.length:Nat):Int) by omega]
  ·rw[Nat.pow_succ] at h8
   exact zG (Nat.mul_le_mul_right _ h1) (by rw[Nat.mul_comm 2,Nat.mul_assoc,Nat.mul_comm 2];exact h8)
 ·exact⟨S,sb,q⟩
def Lh (cs:List (Str×Str)) (z:Str):Nat:=(cs.map Prod.fst).idxOf z
def ao (cs:List (Str×Str)) (ws:List D) (z:Str):D:=(ws[Lh cs z]?).getD .au
def aj (r:Str×List D):D:=.tup [.str r.1,.tup r.2]
theorem qQ:∀ {l:List α}{m:List β},Paired rel l m→∀ {i:Nat}{a:α},l[i]?=some a→∃ b,m[i]?=some b∧rel a b
 | _,_,.nil,_,_,h=>by simp at h
 | _,_,.cons r t,0,a,h=>by
  rw[List.getElem?_cons_zero] at h ⊢
  cases h
  exact⟨_,rfl,r⟩
 | _,_,.cons r t,i+1,a,h=>by
  rw[List.getElem?_cons_succ] at h ⊢
  exact qQ t h
theorem GR (hg:Gd cs) (h:c∈cs):cs[Lh cs c.1]?=some c∧(cs.map Prod.fst)[Lh cs c.1]?=some c.1:=by
 have hm:c.1∈cs.map Prod.fst:=ze.mpr ⟨c,h,rfl⟩
 have hi:(cs.map Prod.fst).idxOf c.1<(cs.map Prod.fst).length:=List.idxOf_lt_length_of_mem hm
 have e1:(cs.map Prod.fst)[(cs.map Prod.fst).idxOf c.1]?=some c.1:=by rw[zg hi,List.getElem_idxOf]
 refine⟨?_,e1⟩
 obtain⟨j,ej⟩:=List.getElem?_of_mem h
 have ej1:(cs.map Prod.fst)[j]?=some c.1:=by rw[zp,ej];rfl
 obtain⟨b1,c1⟩:=zo.mp e1
 obtain⟨b2,c2⟩:=zo.mp ej1
 have:=(List.getElem_inj hg.2.1 (h₀:=b1) (h₁:=b2)).mp (c1.trans c2.symm)
 unfold Lh
 rw[this]
 exact ej
theorem jZ (hg:Gd cs) (hw:Wg cs ws) (h:c∈cs):ws[Lh cs c.1]?=some (ao cs ws c.1)∧Vg c.2 (ao cs ws c.1):=by
 obtain⟨v,e,r⟩:=qQ hw (GR hg h).1
 unfold ao
 rw[e]
 exact⟨rfl,r⟩
def qR:D→D→Bool
 | .au,.au=>true
 | .int i,.int j=>decide (i=j)
 | .str i,.str j=>decide (i=j)
 | _,_=>false
theorem cw (ha:fP a=true) (hb:fP b=true):qR a b=true↔a=b:=by
 cases a <;> cases b <;> first | (cases ha;done) | (cases hb;done) | simp [qR]
theorem qS (ha:fP a=true) (hb:fP b=true) (q:R (.bl (if neg then !qR a b else qR a b)) S):Hw neg a b S R:=by
 have mix:∀ {a b:D},fP a=true→fP b=true→(∀ p q,Dp S a p→Dp S b q→PyData.eqv p q=qR a b)→(∀ i j,a=.int i→b≠.int j)→(∀ i j,a=.str i→b≠.str j)→R (.bl (if neg then !qR a b else qR a b)) S→Hw neg a b S R:=by
  intro a b ha hb h h1 h2 q
  obtain⟨p,p1,p2,p3⟩:=Ly.plain (S:=S) ha
  obtain⟨r,r1,r2,r3⟩:=Ly.plain (S:=S) hb
  have e:=h p r p1 r1
  obtain⟨p',p1',p2',p3'⟩:=Ly.dl (Ly.plain (S:=S) ha)
  cases a <;> cases b <;> first | (cases ha;done) | (cases hb;done) | exact absurd rfl (h1 _ _ rfl) | exact absurd rfl (h2 _ _ rfl) | exact⟨p,r,p1,r1,p2,r2,.inl (by omega),by rw[e];exact q⟩
 cases a with
 | au =>
  cases b with
  | au=>exact mix ha hb (fun p q h1 h2=>by simp only [Dp] at h1 h2;subst h1 h2;rfl) nofun nofun q
  | int j=>exact mix ha hb (fun p q h1 h2=>by simp only [Dp] at h1 h2;subst h1 h2;rfl) nofun nofun q
  | str j=>exact mix ha hb (fun p q h1 h2=>by simp only [Dp] at h1 h2;subst h1 h2;rfl) nofun nofun q
  | _=>cases hb
 | int i =>
  cases b with
  | au=>exact mix ha hb (fun p q h1 h2=>by simp only [Dp] at h1 h2;subst h1 h2;rfl) nofun nofun q
  | int j=>exact q
  | str j=>exact mix ha hb (fun p q h1 h2=>by simp only [Dp] at h1 h2;subst h1 h2;rfl) nofun nofun q
  | _=>cases hb
 | str i =>
  cases b with
  | au=>exact mix ha hb (fun p q h1 h2=>by simp only [Dp] at h1 h2;subst h1 h2;rfl) nofun nofun q
  | int j=>exact mix ha hb (fun p q h1 h2=>by simp only [Dp] at h1 h2;subst h1 h2;rfl) nofun nofun q
  | str j=>exact q
  | _=>cases hb
 | _=>cases ha
def xw:D→D→Bool
 | .int i,.int j=>decide (i<j)
 | .str i,.str j=>ou i j
 | _,_=>false
def stP:D→D→Bool
 | .str i,.str j=>PySem.Txt.startswith i j
 | _,_=>false
def tD (o:Str) (a b:D):Bool:=if o = "is" then qR a b else if ah a then false else if o = "below" then xw a b else if o = "above" then xw b a else stP a b
def DR:D→List D
 | .tup ds=>ds
 | _=>[]
def RJ (cs:List (Str×Str)) (r:Str×List D) (f:D→Bool):D→Bool
 | .tup [.str _]=>true
 | .tup [.str o,e]=>if o = "not" then !f e else if o = "key" then tT (j8 (.str r.1)) ((DR e).map j8) else if o = "and" then (DR e).all f else (DR e).any f
 | .tup [.str o,.str z,v]=>tD o (ao cs r.2 z) v
 | _=>false
def aJ (cs:List (Str×Str)) (r:Str×List D):Nat→D→Bool
 | 0,_=>false
 | n+1,d=>RJ cs r (aJ cs r n) d
theorem BR (cs:List (Str×Str)) (r:Str×List D) (n:Nat) (o:Str) (e:D):aJ cs r (n+1) (.tup [.str o,e])=if o = "not" then !aJ cs r n e else if o = "key" then tT (j8 (.str r.1)) ((DR e).map j8) else if o = "and" then (DR e).all (aJ cs r n) else (DR e).any (aJ cs r n):=rfl
theorem Li (cs:List (Str×Str)) (r:Str×List D) (n:Nat) (o z:Str) (v:D):aJ cs r (n+1) (.tup [.str o,.str z,v])=tD o (ao cs r.2 z) v:=rfl
theorem w9 (cs:List (Str×Str)) (r:Str×List D) (n:Nat) (ks:List D):aJ cs r (n+1) (.tup [.str "key",.tup ks])=tT (j8 (.str r.1)) (ks.map j8):=by
 rw[BR,if_neg (by decide +kernel),if_pos rfl];rfl
theorem w_ (cs:List (Str×Str)) (r:Str×List D) (n:Nat) (e:D):aJ cs r (n+1) (.tup [.str "not",e])=!aJ cs r n e:=by
 rw[BR,if_pos rfl]
theorem xa (cs:List (Str×Str)) (r:Str×List D) (n:Nat) (es:List D):aJ cs r (n+1) (.tup [.str "and",.tup es])=es.all (aJ cs r n):=by
 rw[BR,if_neg (by decide +kernel),if_neg (by decide +kernel),if_pos rfl];rfl
theorem BS (cs:List (Str×Str)) (r:Str×List D) (n:Nat) (es:List D):aJ cs r (n+1) (.tup [.str "or",.tup es])=es.any (aJ cs r n):=by
 rw[BR,if_neg (by decide +kernel),if_neg (by decide +kernel),if_neg (by decide +kernel)];rfl
theorem nF (ha:Vg k a) (hb:Vg k b) (na:a≠.au) (nb:b≠.au):(∃ i j,a=.int i∧b=.int j)∨∃ i j,a=.str i∧b=.str j:=by
 obtain⟨a1,a2⟩:=ha
 obtain⟨b1,b2⟩:=hb
 cases a with
 | au=>exact absurd rfl na
 | int i =>
  cases b with
  | au=>exact absurd rfl nb
  | int j=>exact .inl ⟨i,j,rfl,rfl⟩
  | str j =>
   exfalso
   unfold jw at a1 b1
   simp only [ah,yL] at a1 b1
   by_cases e:k = "number"
   ·rw[if_pos e] at b1;cases b1
   ·rw[if_neg e] at a1;cases a1
  | _=>cases b2
 | str i =>
  cases b with
  | au=>exact absurd rfl nb
  | str j=>exact .inr ⟨i,j,rfl,rfl⟩
  | int j =>
   exfalso
   unfold jw at a1 b1
   simp only [ah,yL] at a1 b1
   by_cases e:k = "number"
   ·rw[if_pos e] at a1;cases a1
   ·rw[if_neg e] at b1;cases b1
  | _=>cases b2
 | _=>cases a2
theorem o_ (h:Vg "word" a) (n:a≠.au):∃ z,a=.str z:=by
 obtain⟨h1,h2⟩:=h
 cases a with
 | au=>exact absurd rfl n
 | str z=>exact⟨z,rfl⟩
 | int i =>
  unfold jw at h1
  rw[if_neg (by decide +kernel)] at h1
  cases h1
 | _=>cases h2
theorem bq (h:ah a=false):a≠.au:=by rintro rfl;cases h
theorem jE (T:Txt w K mg t):Ok P w base T.aY 2 (fun ds S R _=>∃ cs r c,ds=[.tup (cs.map ay),aj r,.str c.1]∧Gd cs∧Wg cs r.2∧c∈cs∧R (ao cs r.2 c.1) S):=by
 have k_:Ok P w base T.cY 1 _:=oa T
 refine T.aY.F.ok wL (by rintro ds S R Z ⟨_,_,_,e,_⟩;rw[e];rfl) ?_
 rintro bu A outer s H E ds S R Z hr ⟨cs,r,c,e,hg,hw,hc,q⟩
 subst e
 obtain⟨n1,n2⟩:=GR hg hc
 refine⟨_,(s1 (sr (ix hr.units (ix hr.units (dv 1) di) (bm zJ PySem.F.slot_list_index PySem.F.type_list_index Fc (cf (k_.mono (by decide)) hr T.cY.m T.cY.k T.cY.b d0 (ac (dv 0) an)) (ac (dv 2) an))))),?_⟩
 refine⟨_,rfl,_,rfl,_,rfl,cs,rfl,hg.1,fun p hp=>?_⟩
 refine⟨⟨rfl,_,aa⟩,_,rfl,(cs.map Prod.fst).map D.str,.str c.1,Lh cs c.1,rfl,aa,rfl,?_,⟨.str c.1,by rw[zp,n2];rfl,by show (c.1 == c.1)=true;simp⟩,?_,?_⟩
 ·rw[List.all_map];exact zZ.mpr fun _ _=>rfl
 ·intro m u hm hu
  rw[zp] at hu
  cases e:(cs.map Prod.fst)[m]? with
  | none=>rw[e] at hu;cases hu
  | some z' =>
   rw[e] at hu
   cases hu
   show (z' == c.1)=false
   have:z'≠c.1:=fun q=>by
    subst q
    obtain⟨b1,c1⟩:=zo.mp e
    obtain⟨b2,c2⟩:=zo.mp n2
    have:=(List.getElem_inj hg.2.1 (h₀:=b1) (h₁:=b2)).mp (c1.trans c2.symm)
    omega
   simpa using this
 ·exact⟨_,fj (jZ hg hw hc).1,S,.new hp,q⟩
theorem oP (T:Txt w K mg t):Ok P w base T.cO 1 (fun ds S R _=>∃ o a b c,ds=[.str o,a,b]∧Vg c.2 a∧Vg c.2 b∧qO o c b∧R (.bl (tD o a b)) S):=by
 refine T.cO.F.ok oH (by rintro ds S R Z ⟨_,_,_,_,e,_⟩;rw[e];rfl) ?_
 rintro bu A outer s H E ds S R Z hr ⟨o,a,b,c,e,ha,hb,ho,q⟩
 subst e
 refine⟨_,(sc (si (bK bc hr.units (dv 0) ds) (s1 (sr (cm bc hr.units (dv 1) (dv 2)))) s0) (sc (si (bK mL hr.units (dv 1) dn) (s1 (sr db)) s0) (sc (si (bK bc hr.units (dv 0) ds) (s1 (sr (cm yS hr.units (dv 1) (dv 2)))) s0) (sc (si (bK bc hr.units (dv 0) ds) (s1 (sr (cm oy hr.units (dv 1) (dv 2)))) s0) (s1 (sr (bm PySem.F.plainAttrs_str PySem.F.slot_str_startswith PySem.F.type_str_startswith Fd (dv 1) (ac (dv 2) an)))))))),?_⟩
 unfold tD at q
 rcases ho with rfl | ⟨nb,ho⟩
 ·rw[if_pos rfl] at q
  exact⟨_,rfl,_,rfl,lH (by decide +kernel) ⟨_,rfl,_,rfl,qS ha.2 hb.2 (fo q)⟩⟩
 ·have ne:∀ {A B:Bool},o ≠ "is" → R (.bl (if o = "is" then A else B)) S→R (.bl B) S:=fun h q=>by rw[if_neg h] at q;exact q
  rcases ho with rfl | rfl | ⟨rfl,hk⟩
  ·rw[if_neg (by decide +kernel)] at q
   refine⟨_,rfl,_,rfl,aX (by decide +kernel) ⟨_,rfl,_,rfl,ck (fun h=>?_) (fun h=>?_)⟩⟩
   ·rw[if_pos h] at q;exact fo q
   ·rw[if_neg (by rw[show ah a=false from h];exact zd),if_pos rfl] at q
    refine⟨_,rfl,_,rfl,lH (by decide +kernel) ⟨_,rfl,_,rfl,?_⟩⟩
    rcases nF ha hb (bq h) nb with ⟨i,j,rfl,rfl⟩ | ⟨i,j,rfl,rfl⟩ <;> exact fo q
  ·rw[if_neg (by decide +kernel)] at q
   refine⟨_,rfl,_,rfl,aX (by decide +kernel) ⟨_,rfl,_,rfl,ck (fun h=>?_) (fun h=>?_)⟩⟩
   ·rw[if_pos h] at q;exact fo q
   ·rw[if_neg (by rw[show ah a=false from h];exact zd),if_neg (by decide +kernel),if_pos rfl] at q
    refine⟨_,rfl,_,rfl,aX (by decide +kernel) ⟨_,rfl,_,rfl,lH (by decide +kernel) ⟨_,rfl,_,rfl,?_⟩⟩⟩
    rcases nF ha hb (bq h) nb with ⟨i,j,rfl,rfl⟩ | ⟨i,j,rfl,rfl⟩ <;> exact fo q
  ·rw[if_neg (by decide +kernel)] at q
   refine⟨_,rfl,_,rfl,aX (by decide +kernel) ⟨_,rfl,_,rfl,ck (fun h=>?_) (fun h=>?_)⟩⟩
   ·rw[if_pos h] at q;exact fo q
   ·rw[if_neg (by rw[show ah a=false from h];exact zd),if_neg (by decide +kernel),if_neg (by decide +kernel)] at q
    refine⟨_,rfl,_,rfl,aX (by decide +kernel) ⟨_,rfl,_,rfl,aX (by decide +kernel) ?_⟩⟩
    rw[hk] at ha hb
    obtain⟨i,rfl⟩:=o_ ha (bq h)
    obtain⟨j,rfl⟩:=o_ hb nb
    exact⟨_,rfl,rfl,_,rfl,i,j,rfl,rfl,fo q⟩
def nG (n:Nat):gG:=fun ds S R _=>∃ cs d r,ds=[.tup (cs.map ay),d,aj r]∧Gd cs∧Sg cs n d∧Wg cs r.2∧R (.bl (aJ cs r n d)) S
theorem tE (T:Txt w K mg t):∀ n,Ok P w base T.passes (3+n) (nG n)
 | 0=>by
  refine T.passes.F.ok (k:=2) s_ (by rintro ds S R Z ⟨_,_,_,e,_⟩;exact by rw[e];rfl) (by rintro bu A outer s H E ds S R Z hr ⟨cs,d,r,e,hg,hs,_⟩;exact hs.elim)
 | n+1=>by
  have jF:Ok P w base T.passes (3+n) (nG n):=tE T n
  have qT:Ok P w base T.cO 1 _:=oP T
  have du:Ok P w base T.aY 2 _:=jE T
  refine T.passes.F.ok (k:=3+n) s_ (by rintro ds S R Z ⟨_,_,_,e,_⟩;rw[e];rfl) ?_
  rintro bu A outer s H E ds S R Z hr ⟨cs,d,r,e,hg,hs,hw,q⟩
  subst e
  refine⟨_,(sc (si (bK bc hr.units (ix hr.units (dv 1) di) ds) (s1 (sr db)) s0) (sc (si (bK bc hr.units (ix hr.units (dv 1) di) ds) (s1 (sr (cm vN hr.units (ix hr.units (dv 2) di) (ix hr.units (dv 1) di)))) s0) (sc (si (bK bc hr.units (ix hr.units (dv 1) di) ds) (s1 (sr (M_ (cf (jF.mono (by omega)) hr T.passes.m T.passes.k T.passes.b d0 (ac (dv 0) (ac (ix hr.units (dv 1) di) (ac (dv 2) an))))))) s0) (sc (si (bK bc hr.units (ix hr.units (dv 1) di) ds) (s1 (sr (cb lQ T.l5 hG (ac (rM (N:=["inner", "columns", "row"]) (src:=[none,some 0,some 2]) (kG (ae jc) ["columns", "sieve", "row"] rfl rfl (by decide +kernel)) (Hx (ix hr.units (dv 1) di)) (oZ (show (["inner", "columns", "row"]:List Str).Nodup by decide +kernel)) (a_ rfl) ba (fun _ _ _ _ _=>ud) (fun _ _ _ _ _=>(cf (jF.mono (by omega)) hr T.passes.m T.passes.k T.passes.b d0 (ac (dv 1) (ac (dv 0) (ac (dv 2) an)))))) an)))) s0) (sc (si (bK bc hr.units (ix hr.units (dv 1) di) ds) (s1 (sr (cb QI T.Rw MN (ac (rM (N:=["inner", "columns", "row"]) (src:=[none,some 0,some 2]) (kG (ae jc) ["columns", "sieve", "row"] rfl rfl (by decide +kernel)) (Hx (ix hr.units (dv 1) di)) (oZ (show (["inner", "columns", "row"]:List Str).Nodup by decide +kernel)) (a_ rfl) ba (fun _ _ _ _ _=>ud) (fun _ _ _ _ _=>(cf (jF.mono (by omega)) hr T.passes.m T.passes.k T.passes.b d0 (ac (dv 1) (ac (dv 0) (ac (dv 2) an)))))) an)))) s0) (s1 (sr (cf (qT.mono (by omega)) hr T.cO.m T.cO.k T.cO.b d0 (ac (ix hr.units (dv 1) di) (ac (cf (du.mono (by omega)) hr T.aY.m T.aY.k T.aY.b d0 (ac (dv 0) (ac (dv 2) (ac (ix hr.units (dv 1) di) an)))) (ac (ix hr.units (dv 1) di) an))))))))))),?_⟩
  rcases hs with (rfl | ⟨ks,rfl,WR,xr⟩ | ⟨o,c,v,hc,hv,ho,rfl⟩) | ⟨e,rfl,he⟩ | ⟨o,es,ho,rfl,Lg,OH⟩
  ·exact⟨_,rfl,_,rfl,_,rfl,lH (by decide +kernel) (fo q)⟩
  ·refine⟨_,rfl,_,rfl,_,rfl,aX (by decide +kernel) ⟨_,rfl,_,rfl,_,rfl,lH (by decide +kernel) ?_⟩⟩
   refine⟨_,rfl,_,rfl,_,rfl,_,rfl,rfl,?_,?_⟩
   ·rw[List.all_map];exact zZ.mpr fun _ _=>rfl
   ·rw[w9] at q
    exact fo q
  ·rw[Li] at q
   have fin:∃ o' a b c',[D.str o,ao cs r.2 c.1,v]=[D.str o',a,b]∧Vg (Prod.snd (α:=Str) c') a∧Vg c'.2 b∧qO o' c' b∧Fo S (R (.bl (tD o' a b))):=⟨o,_,v,c,rfl,(jZ hg hw hc).2,hv,ho,fo q⟩
   have h4:o = "is" ∨ o = "below" ∨ o = "above" ∨ o = "begins" := by
    rcases ho with h | ⟨_,h | h | ⟨h,_⟩⟩
    ·exact .inl h
    ·exact .inr (.inl h)
    ·exact .inr (.inr (.inl h))
    ·exact .inr (.inr (.inr h))
   rcases h4 with rfl | rfl | rfl | rfl
   ·exact⟨_,rfl,_,rfl,_,rfl,aX (by decide +kernel) ⟨_,rfl,_,rfl,_,rfl,aX (by decide +kernel) ⟨_,rfl,_,rfl,_,rfl,aX (by decide +kernel) ⟨_,rfl,_,rfl,_,rfl,aX (by decide +kernel) ⟨_,rfl,_,rfl,_,rfl,aX (by decide +kernel) ⟨_,rfl,_,rfl,_,rfl,_,rfl,_,rfl,_,rfl,cs,r,c,rfl,hg,hw,hc,_,rfl,_,rfl,fin⟩⟩⟩⟩⟩⟩
   ·exact⟨_,rfl,_,rfl,_,rfl,aX (by decide +kernel) ⟨_,rfl,_,rfl,_,rfl,aX (by decide +kernel) ⟨_,rfl,_,rfl,_,rfl,aX (by decide +kernel) ⟨_,rfl,_,rfl,_,rfl,aX (by decide +kernel) ⟨_,rfl,_,rfl,_,rfl,aX (by decide +kernel) ⟨_,rfl,_,rfl,_,rfl,_,rfl,_,rfl,_,rfl,cs,r,c,rfl,hg,hw,hc,_,rfl,_,rfl,fin⟩⟩⟩⟩⟩⟩
   ·exact⟨_,rfl,_,rfl,_,rfl,aX (by decide +kernel) ⟨_,rfl,_,rfl,_,rfl,aX (by decide +kernel) ⟨_,rfl,_,rfl,_,rfl,aX (by decide +kernel) ⟨_,rfl,_,rfl,_,rfl,aX (by decide +kernel) ⟨_,rfl,_,rfl,_,rfl,aX (by decide +kernel) ⟨_,rfl,_,rfl,_,rfl,_,rfl,_,rfl,_,rfl,cs,r,c,rfl,hg,hw,hc,_,rfl,_,rfl,fin⟩⟩⟩⟩⟩⟩
   ·exact⟨_,rfl,_,rfl,_,rfl,aX (by decide +kernel) ⟨_,rfl,_,rfl,_,rfl,aX (by decide +kernel) ⟨_,rfl,_,rfl,_,rfl,aX (by decide +kernel) ⟨_,rfl,_,rfl,_,rfl,aX (by decide +kernel) ⟨_,rfl,_,rfl,_,rfl,aX (by decide +kernel) ⟨_,rfl,_,rfl,_,rfl,_,rfl,_,rfl,_,rfl,cs,r,c,rfl,hg,hw,hc,_,rfl,_,rfl,fin⟩⟩⟩⟩⟩⟩
  ·rw[w_] at q
   exact⟨_,rfl,_,rfl,_,rfl,aX (by decide +kernel) ⟨_,rfl,_,rfl,_,rfl,aX (by decide +kernel) ⟨_,rfl,_,rfl,_,rfl,lH (by decide +kernel) ⟨_,rfl,_,rfl,_,rfl,_,rfl,cs,e,r,rfl,hg,he,hw,_,rfl,fo q⟩⟩⟩⟩
  ·have hz:es.length≤1000:=by omega
   rcases ho with rfl | rfl
   ·rw[xa] at q
    refine⟨_,rfl,_,rfl,_,rfl,aX (by decide +kernel) ⟨_,rfl,_,rfl,_,rfl,aX (by decide +kernel) ⟨_,rfl,_,rfl,_,rfl,aX (by decide +kernel) ⟨_,rfl,_,rfl,_,rfl,lH (by decide +kernel) ⟨_,rfl,_,rfl,_,.inl rfl,?_⟩⟩⟩⟩⟩
    refine comp_map (fun d=>.bl (aJ cs r n d)) trivial hz (fun d hd Q hQ=>⟨_,rfl,_,rfl,_,rfl,cs,d,r,rfl,hg,OH d hd,hw,hQ⟩) fun p hp=>?_
    refine⟨.ref p,es.map (aJ cs r n),rfl,?_,S,.new hp,?_⟩
    ·show (S.set p (.lst (es.map _))) p=_
     rw[aa,zt];rfl
    ·rw[all_map];exact q
   ·rw[BS] at q
    refine⟨_,rfl,_,rfl,_,rfl,aX (by decide +kernel) ⟨_,rfl,_,rfl,_,rfl,aX (by decide +kernel) ⟨_,rfl,_,rfl,_,rfl,aX (by decide +kernel) ⟨_,rfl,_,rfl,_,rfl,aX (by decide +kernel) ⟨_,rfl,_,rfl,_,rfl,lH (by decide +kernel) ⟨_,rfl,_,rfl,_,.inl rfl,?_⟩⟩⟩⟩⟩⟩
    refine comp_map (fun d=>.bl (aJ cs r n d)) trivial hz (fun d hd Q hQ=>⟨_,rfl,_,rfl,_,rfl,cs,d,r,rfl,hg,OH d hd,hw,hQ⟩) fun p hp=>?_
    refine⟨.ref p,es.map (aJ cs r n),rfl,?_,S,.new hp,?_⟩
    ·show (S.set p (.lst (es.map _))) p=_
     rw[aa,zt];rfl
    ·rw[List.any_map];exact q
abbrev Row:=Str×List D
abbrev Part:=Str×Str×Str
theorem NX {a b:Str} (h:a.cps.toList=b.cps.toList):a=b:=by
 obtain⟨x⟩:=a
 obtain⟨y⟩:=b
 exact congrArg Str.mk (Array.ext' h)
theorem BU (a:Str):ou a a=false:=zr (List.lt_irrefl _)
theorem j4 {a b:Str} (h:a≠b):ou b a=!ou a b:=by
 unfold ou
 rw[yn]
 simp only [decide_eq_true_iff,Bool.not_eq_true',decide_eq_false_iff_not]
 constructor
 ·exact fun h1 h2=>List.lt_irrefl _ (List.lt_trans h1 h2)
 ·intro h1
  by_cases h2:b.cps.toList<a.cps.toList
  ·exact h2
  ·exact absurd (NX (List.le_antisymm (List.not_lt.mp h2) (List.not_lt.mp h1))) h
theorem AL (h1:ou a b=true) (h2:ou b c=true):ou a c=true :=
 zu (List.lt_trans (zE h1) (zE h2))
theorem BV (a:D):xw a a=false:=by
 cases a <;> first | rfl | exact BU _ | exact zr (Int.lt_irrefl _)
theorem ml (ha:Vg k a) (hb:Vg k b) (na:a≠.au) (nb:b≠.au) (h:a≠b):xw b a=!xw a b:=by
 rcases nF ha hb na nb with ⟨i,j,rfl,rfl⟩ | ⟨i,j,rfl,rfl⟩
 ·have kM:i≠j:=fun e=>h (congrArg D.int e)
  show decide (j<i)=!decide (i<j)
  rw[yn]
  simp only [decide_eq_true_iff,Bool.not_eq_true',decide_eq_false_iff_not]
  omega
 ·exact j4 fun e=>h (congrArg D.str e)
theorem GS (h1:xw a b=true) (h2:xw b c=true):xw a c=true:=by
 cases a with
 | int i =>
  cases b with
  | int j =>
   cases c with
   | int l =>
    have h1:i<j:=zE h1
    have h2:j<l:=zE h2
    exact zu (by omega)
   | _=>cases h2
  | _=>cases h1
 | str i =>
  cases b with
  | str j =>
   cases c with
   | str l=>exact AL h1 h2
   | _=>cases h2
  | _=>cases h1
 | _=>cases h1
theorem GU (h:Rh a b):xw a b=true:=by
 cases a with
 | int i =>
  cases b with
  | int j=>exact zu h
  | _=>exact h.elim
 | str i =>
  cases b with
  | str j=>exact zu h
  | _=>exact h.elim
 | _=>exact h.elim
def eY (p:Part) (x y:D):Bool:=if (ah x != ah y)=true then ah x == decide (p.2.2 = "first") else xw x y == decide (p.2.1 = "up")
def aZ (cs:List (Str×Str)) (wy:Str):List Part→Row→Row→Bool
 | [],a,b=>ou a.1 b.1 == decide (wy = "up")
 | p :: ps,a,b=>if qR (ao cs a.2 p.1) (ao cs b.2 p.1)=true then aZ cs wy ps a b else eY p (ao cs a.2 p.1) (ao cs b.2 p.1)
theorem bxor:((!x) == u)=!(x == u):=by cases x <;> cases u <;> rfl
theorem fe (h:ah x=true):x=.au:=by cases x <;> first | rfl | cases h
theorem tG (hx:Vg k x) (hy:Vg k y) (h:x≠y):eY p y x=!eY p x y:=by
 unfold eY
 cases nx:ah x with
 | true =>
  cases ny:ah y with
  | true=>exact absurd ((fe nx).trans (fe ny).symm) h
  | false =>
   rw[if_pos (by rfl),if_pos (by rfl)]
   cases decide (p.2.2 = "first") <;> rfl
 | false =>
  cases ny:ah y with
  | true =>
   rw[if_pos (by rfl),if_pos (by rfl)]
   cases decide (p.2.2 = "first") <;> rfl
  | false =>
   rw[if_neg (by simp),if_neg (by simp),ml hx hy (bq nx) (bq ny) h,bxor]
theorem JP (hx:Vg k x) (hy:Vg k y) (hz:Vg k z) (WT:x≠y) (Yv:y≠z) (h1:eY p x y=true) (h2:eY p y z=true):x≠z∧eY p x z=true:=by
 have WU:x≠z:=by
  rintro rfl
  have:=tG (p:=p) hx hy WT
  rw[h1,h2] at this
  cases this
 refine⟨WU,?_⟩
 unfold eY at h1 h2 ⊢
 cases nx:ah x with
 | true =>
  cases ny:ah y with
  | true=>exact absurd ((fe nx).trans (fe ny).symm) WT
  | false =>
   rw[nx,ny,if_pos (by rfl)] at h1
   cases nz:ah z with
   | true=>exact absurd ((fe nx).trans (fe nz).symm) WU
   | false=>rw[if_pos (by rfl)];exact h1
 | false =>
  cases ny:ah y with
  | true =>
   rw[nx,ny,if_pos (by rfl)] at h1
   cases nz:ah z with
   | true=>exact absurd ((fe ny).trans (fe nz).symm) Yv
   | false =>
    rw[ny,nz,if_pos (by rfl)] at h2
    cases e:decide (p.2.2 = "first") <;> rw[e] at h1 h2 <;> first | cases h1;done | cases h2;done
  | false =>
   rw[nx,ny,if_neg (by simp)] at h1
   cases nz:ah z with
   | true =>
    rw[ny,nz,if_pos (by rfl)] at h2
    rw[if_pos (by rfl)];exact h2
   | false =>
    rw[ny,nz,if_neg (by simp)] at h2
    rw[if_neg (by simp)]
    cases e:decide (p.2.1 = "up") with
    | true =>
     rw[e] at h1 h2
     rw[GS (a:=x) (b:=y) (c:=z) (by simpa using h1) (by simpa using h2)];rfl
    | false =>
     rw[e] at h1 h2
     have h1:xw x y=false:=by simpa using h1
     have h2:xw y z=false:=by simpa using h2
     have a1:=ml hx hy (bq nx) (bq ny) WT
     have a2:=ml hy hz (bq ny) (bq nz) Yv
     rw[h1] at a1
     rw[h2] at a2
     have a3:=GS a2 a1
     have a4:=ml hx hz (bq nx) (bq nz) WU
     rw[a3] at a4
     cases q:xw x z with
     | true=>rw[q] at a4;cases a4
     | false=>rfl
def Pin (cs:List (Str×Str)) (ps:List Part):Prop:=∀ p∈ps,∃ c∈cs,c.1=p.1
section
variable {cs:List (Str×Str)}{wy:Str}
theorem Pin.tail (h:Pin cs (p :: ps)):Pin cs ps:=fun q hq=>h q (zh _ hq)
theorem u4 (hg:Gd cs) (h:Pin cs (p :: ps)):∃ k,∀ ws,Wg cs ws→Vg k (ao cs ws p.1):=by
 obtain⟨c,hc,e⟩:=h p zx
 rw[← e]
 exact⟨c.2,fun ws hw=>(jZ hg hw hc).2⟩
theorem qU (hg:Gd cs):∀ {ps:List Part}{a b:Row},Pin cs ps→Wg cs a.2→Wg cs b.2→a.1≠b.1→aZ cs wy ps b a=!aZ cs wy ps a b
 | [],a,b,_,_,_,h=>by
  show (ou b.1 a.1 == _)=!(ou a.1 b.1 == _)
  rw[j4 h,bxor]
 | p :: ps,a,b,hp,ha,hb,h=>by
  obtain⟨k,hk⟩:=u4 hg hp
  have va:=hk _ ha
  have vb:=hk _ hb
  unfold aZ
  by_cases e:ao cs a.2 p.1=ao cs b.2 p.1
  ·rw[if_pos ((cw vb.2 va.2).mpr e.symm),if_pos ((cw va.2 vb.2).mpr e)]
   exact qU hg hp.tail ha hb h
  ·rw[if_neg (fun q=>e ((cw vb.2 va.2).mp q).symm),if_neg (fun q=>e ((cw va.2 vb.2).mp q))]
   exact tG va vb e
theorem GV (hg:Gd cs):∀ {ps:List Part}{a b c:Row},Pin cs ps→Wg cs a.2→Wg cs b.2→Wg cs c.2→a.1≠b.1→b.1≠c.1→a.1≠c.1→aZ cs wy ps a b=true→aZ cs wy ps b c=true→aZ cs wy ps a c=true
 | [],a,b,c,_,_,_,_,h1,h2,h3,q1,q2=>by
  have q1:(ou a.1 b.1 == decide (wy = "up"))=true:=q1
  have q2:(ou b.1 c.1 == decide (wy = "up"))=true:=q2
  show (ou a.1 c.1 == decide (wy = "up"))=true
  cases e:decide (wy = "up") with
  | true =>
   rw[e] at q1 q2
   rw[AL (b:=b.1) (by simpa using q1) (by simpa using q2)];rfl
  | false =>
   rw[e] at q1 q2
   have q1:ou a.1 b.1=false:=by simpa using q1
   have q2:ou b.1 c.1=false:=by simpa using q2
   have a1:=j4 h1
   have a2:=j4 h2
   rw[q1] at a1
   rw[q2] at a2
   have a3:=AL a2 a1
   have a4:=j4 h3
   rw[a3] at a4
   cases q:ou a.1 c.1 with
   | true=>rw[q] at a4;cases a4
   | false=>rfl
 | p :: ps,a,b,c,hp,ha,hb,hc,h1,h2,h3,q1,q2=>by
  obtain⟨k,hk⟩:=u4 hg hp
  have va:=hk _ ha
  have vb:=hk _ hb
  have vc:=hk _ hc
  unfold aZ at q1 q2 ⊢
  by_cases e1:ao cs a.2 p.1=ao cs b.2 p.1
  ·rw[if_pos ((cw va.2 vb.2).mpr e1)] at q1
   by_cases e2:ao cs b.2 p.1=ao cs c.2 p.1
   ·rw[if_pos ((cw vb.2 vc.2).mpr e2)] at q2
    rw[if_pos ((cw va.2 vc.2).mpr (e1.trans e2))]
    exact GV hg hp.tail ha hb hc h1 h2 h3 q1 q2
   ·rw[if_neg (fun q=>e2 ((cw vb.2 vc.2).mp q))] at q2
    rw[e1,if_neg (fun q=>e2 ((cw vb.2 vc.2).mp q))]
    exact q2
  ·rw[if_neg (fun q=>e1 ((cw va.2 vb.2).mp q))] at q1
   by_cases e2:ao cs b.2 p.1=ao cs c.2 p.1
   ·rw[← e2,if_neg (fun q=>e1 ((cw va.2 vb.2).mp q))]
    exact q1
   ·rw[if_neg (fun q=>e2 ((cw vb.2 vc.2).mp q))] at q2
    obtain⟨e3,q3⟩:=JP va vb vc e1 e2 q1 q2
    rw[if_neg (fun q=>e3 ((cw va.2 vc.2).mp q))]
    exact q3
def Rg (cs:List (Str×Str)) (rs:List Row):Prop:=(∀ r∈rs,Wg cs r.2)∧(rs.map Prod.fst).Nodup
theorem Rg.perm (h:Rg cs rs) (p:cJ.Perm rs):Rg cs cJ:=⟨fun r hr=>h.1 r (p.mem_iff.mp hr),(p.map _).nodup_iff.mpr h.2⟩
theorem Rg.sub (h:Rg cs rs) (p:cJ.Sublist rs):Rg cs cJ:=⟨fun r hr=>h.1 r (p.subset hr),h.2.sublist (p.map _)⟩
theorem u5 (hg:Gd cs) (hp:Pin cs ps) (hr:Rg cs m) (hl:l.Pairwise fun a b=>aZ cs wy ps a b=true) (hm:m.Pairwise fun a b=>aZ cs wy ps a b=true) (pm:l.Perm m):l=m:=by
 refine List.Perm.eq_of_pairwise (le:=fun a b=>aZ cs wy ps a b=true) (fun a b ha hb h1 h2=>?_) hl hm pm
 have ha:=pm.mem_iff.mp ha
 by_cases e:a.1=b.1
 ·exact iw (f:=Prod.fst) hr.2 ha hb e
 ·have:=qU (wy:=wy) hg hp (hr.1 a ha) (hr.1 b hb) e
  rw[h1,h2] at this
  cases this
end
theorem AM {l m:List Nat} (hl:l.Nodup) (hm:m.Nodup) (h:∀ x,x∈l↔x∈m):l.Perm m:=by
 induction l generalizing m with
 | nil =>
  cases m with
  | nil=>exact .nil
  | cons y m=>exact absurd ((h y).mpr zx) (by simp)
 | cons x l ih =>
  obtain⟨n1,n2⟩:=yc.mp hl
  have hx:=(h x).mp zx
  refine .trans ((ih n2 (hm.erase x) fun y=>?_).cons x) (List.perm_cons_erase hx).symm
  rw[hm.mem_erase_iff]
  constructor
  ·intro hy
   exact⟨fun e=>n1 (e ▸ hy),(h y).mp (zh _ hy)⟩
  ·rintro⟨h1,h2⟩
   rcases zf.mp ((h y).mpr h2) with e | e
   ·exact absurd e h1
   ·exact e
theorem map_range (d:α) (xs:List α):(List.range xs.length).map (fun k=>xs.getD k d)=xs:=by
 refine List.ext_getElem (by simp) fun i h1 h2=>?_
 simp [zg h2]
theorem DU {α:Type} (d:α) {xs:List α}{g:Nat→Nat} (lt:∀ k,k<xs.length→g k<xs.length) (inj:∀ i j,i<xs.length→j<xs.length→g i=g j→i=j):((List.range xs.length).map fun k=>xs.getD (g k) d).Perm xs:=by
 have nd:((List.range xs.length).map g).Nodup:=by
  refine List.pairwise_map.mpr (List.nodup_range.imp_of_mem fun {a b} ha hb n e=>n (inj a b (zS.mp ha) (zS.mp hb) e))
 have sub:∀ x∈(List.range xs.length).map g,x∈List.range xs.length:=fun x hx=>by
  obtain⟨k,hk,rfl⟩:=ze.mp hx
  exact zS.mpr (lt k (zS.mp hk))
 have p:((List.range xs.length).map g).Perm (List.range xs.length):=AM nd List.nodup_range fun x=>by
  refine⟨sub x,fun hx=>?_⟩
  by_cases h:x∈(List.range xs.length).map g
  ·exact h
  ·exfalso
   have:=sub_len nd (m:=(List.range xs.length).erase x) fun y hy=>(List.Nodup.mem_erase_iff List.nodup_range).mpr ⟨fun e=>h (e ▸ hy),sub y hy⟩
   rw[zb,List.length_erase_of_mem hx,List.length_range] at this
   have:=zS.mp hx
   omega
 have e:((List.range xs.length).map fun k=>xs.getD (g k) d)=((List.range xs.length).map g).map fun k=>xs.getD k d:=by rw[zt];rfl
 rw[e]
 have:=p.map fun k=>xs.getD k d
 rw[map_range] at this
 exact this
theorem DV {α:Type} (d:α) {xs:List α}{g:Nat→Nat}{r:α→α→Prop} (h:∀ i j,i<j→j<xs.length→r (xs.getD (g i) d) (xs.getD (g j) d)):((List.range xs.length).map fun k=>xs.getD (g k) d).Pairwise r:=by
 rw[List.pairwise_map,List.pairwise_iff_getElem]
 intro i j hi hj kM
 rw[List.length_range] at hj
 rw[List.getElem_range,List.getElem_range]
 exact h i j kM hj
def r0:Row:=("",[])
theorem getD_map {rs:List Row}{j:Nat} (h:j<rs.length):(rs.map aj).getD j .au=aj (rs.getD j r0):=by
 rw[zC,zC,zp,zg h];rfl
theorem getD_mem {rs:List Row}{j:Nat} (h:j<rs.length):rs.getD j r0∈rs:=by
 rw[zC,zg h];exact List.getElem_mem h
theorem mm {rs:List Row}{b:Bool}{f:D→D}{g:Nat→Nat} (h:Nw b (fun j=>f ((rs.map aj).getD j .au)) (rs.map aj).length g) :
  ∃ cJ:List Row,(List.range (rs.map aj).length).map (fun k=>(rs.map aj).getD (g k) .au)=cJ.map aj∧cJ.Perm rs∧∀ q r:Row→Row→Prop,rs.Pairwise q →
   (∀ x y,x∈rs→y∈rs→(if b=true then Rh (f (aj y)) (f (aj x)) else Rh (f (aj x)) (f (aj y)))→r x y)→(∀ x y,x∈rs→y∈rs→f (aj x)=f (aj y)→q x y→r x y)→cJ.Pairwise r:=by
 have hn:(rs.map aj).length=rs.length:=zb _
 rw[hn] at h ⊢
 refine⟨(List.range rs.length).map fun k=>rs.getD (g k) r0,?_,DU r0 h.lt h.inj,fun q r hq h1 h2=>DV r0 fun i j kM hj=>?_⟩
 ·rw[zt]
  exact zY fun k hk=>getD_map (h.lt k (zS.mp hk))
 ·have gi:=h.lt i (Nat.lt_trans kM hj)
  have gj:=h.lt j hj
  have o:=h.ord i j kM hj
  rw[getD_map gi,getD_map gj] at o
  rcases o with o | ⟨o,l⟩
  ·exact h1 _ _ (getD_mem gi) (getD_mem gj) o
  ·refine h2 _ _ (getD_mem gi) (getD_mem gj) o ?_
   have:=List.pairwise_iff_getElem.mp hq (g i) (g j) gi gj l
   rw[zC,zC,zg gi,zg gj]
   exact this
section
variable {cs:List (Str×Str)}{wy:Str}
def valued (cs:List (Str×Str)) (p:Part) (r:Row):Bool:=!ah (ao cs r.2 p.1)
theorem JQ (h1:ah x=true) (h2:ah y=true):qR x y=true:=by rw[fe h1,fe h2];rfl
theorem AN (h:ah x≠ah y):qR x y=false:=by
 cases x <;> cases y <;> first | rfl | exact absurd rfl h
theorem DX {ps:List Part}{p:Part}{L V:List Row} (hL:L.Pairwise fun a b=>aZ cs wy ps a b=true) (hV:V.Perm (L.filter (valued cs p))) (Tr:V.Pairwise fun a b=>aZ cs wy (p :: ps) a b=true) :
  (if p.2.2 = "first" then L.filter (fun r=>!valued cs p r)++V else V++L.filter (fun r=>!valued cs p r)).Perm L∧(if p.2.2 = "first" then L.filter (fun r=>!valued cs p r)++V else V++L.filter (fun r=>!valued cs p r)).Pairwise fun a b=>aZ cs wy (p :: ps) a b=true:=by
 have hN:(L.filter fun r=>!valued cs p r).Pairwise fun a b=>aZ cs wy (p :: ps) a b=true:=by
  refine (hL.sublist yt).imp_of_mem fun {a b} ha hb h=>?_
  have ha:=(yg.mp ha).2
  have hb:=(yg.mp hb).2
  unfold valued at ha hb
  rw[Bool.not_not] at ha hb
  show (if qR (ao cs a.2 p.1) (ao cs b.2 p.1)=true then aZ cs wy ps a b else _)=true
  rw[if_pos (JQ ha hb)]
  exact h
 have Lj:∀ a∈L.filter (fun r=>!valued cs p r),∀ b∈V,ah (ao cs a.2 p.1)=true∧ah (ao cs b.2 p.1)=false:=fun a ha b hb=>by
  have ha:=(yg.mp ha).2
  have hb:=(yg.mp (hV.mem_iff.mp hb)).2
  unfold valued at ha hb
  rw[Bool.not_not] at ha
  exact⟨ha,by simpa using hb⟩
 have pm:(L.filter (fun r=>!valued cs p r)++V).Perm L:=(List.Perm.append_left _ hV).trans (List.perm_append_comm.trans (List.filter_append_perm (valued cs p) L))
 by_cases e:p.2.2 = "first"
 ·rw[if_pos e]
  refine⟨pm,List.pairwise_append.mpr ⟨hN,Tr,fun a ha b hb=>?_⟩⟩
  obtain⟨na,nb⟩:=Lj a ha b hb
  show (if qR (ao cs a.2 p.1) (ao cs b.2 p.1)=true then aZ cs wy ps a b else eY p (ao cs a.2 p.1) (ao cs b.2 p.1))=true
  rw[AN (by rw[na,nb];nofun),if_neg zd]
  unfold eY
  rw[na,nb,if_pos (by rfl),zu e];rfl
 ·rw[if_neg e]
  refine⟨List.perm_append_comm.trans pm,List.pairwise_append.mpr ⟨Tr,hN,fun a ha b hb=>?_⟩⟩
  obtain⟨na,nb⟩:=Lj b hb a ha
  show (if qR (ao cs a.2 p.1) (ao cs b.2 p.1)=true then aZ cs wy ps a b else eY p (ao cs a.2 p.1) (ao cs b.2 p.1))=true
  rw[AN (by rw[na,nb];nofun),if_neg zd]
  unfold eY
  rw[na,nb,if_pos (by rfl),zr e];rfl
theorem xb (hg:Gd cs) (hp:Pin cs ps):∀ {F:List Row},Rg cs (x :: F)→(F.Pairwise fun a b=>aZ cs wy ps a b=true) →
  (F.take (F.filter fun y=>aZ cs wy ps y x).length++x :: F.drop (F.filter fun y=>aZ cs wy ps y x).length).Pairwise fun a b=>aZ cs wy ps a b=true
 | [],_,_=>by simp
 | y :: F,hr,h=>by
  obtain⟨h1,h2⟩:=List.pairwise_cons.mp h
  have nd:=hr.2
  rw[zB,zB] at nd
  obtain⟨n1,n2⟩:=yc.mp nd
  obtain⟨n3,n4⟩:=yc.mp n2
  have nxy:y.1≠x.1:=fun e=>n1 (by rw[← e];exact zx)
  have wx:=hr.1 x zx
  have wy':=hr.1 y (zh _ zx)
  cases e:aZ cs wy ps y x with
  | true =>
   rw[yo,if_pos e,zM,List.take_succ_cons,List.drop_succ_cons,List.cons_append,List.pairwise_cons]
   have jX:Rg cs (x :: F):=hr.sub ((List.sublist_cons_self y F).cons₂ x)
   refine⟨fun z hz=>?_,xb hg hp jX h2⟩
   rcases zI.mp hz with hz | hz
   ·exact h1 z (List.mem_of_mem_take hz)
   ·rcases zf.mp hz with rfl | hz
    ·exact e
    ·exact h1 z (List.mem_of_mem_drop hz)
  | false =>
   have none:∀ z∈y :: F,aZ cs wy ps z x=false:=fun z hz=>by
    rcases zf.mp hz with rfl | hz
    ·exact e
    ·cases q:aZ cs wy ps z x with
     | false=>rfl
     | true =>
      have nyz:y.1≠z.1:=fun e=>n3 (by rw[e];exact ze.mpr ⟨z,hz,rfl⟩)
      have WV:z.1≠x.1:=fun e=>n1 (by rw[← e];exact zh _ (ze.mpr ⟨z,hz,rfl⟩))
      have wz:=hr.1 z (zh _ (zh _ hz))
      rw[GV hg hp wy' wz wx nyz WV nxy (h1 z hz) q] at e
      cases e
   have e0:(y :: F).filter (fun y=>aZ cs wy ps y x)=[]:=List.filter_eq_nil_iff.mpr fun z hz=>by rw[none z hz];exact zd
   rw[e0]
   show (x :: y :: F).Pairwise _
   refine List.pairwise_cons.mpr ⟨fun z hz=>?_,h⟩
   have WV:z.1≠x.1:=fun e=>n1 (by
    rw[← e]
    exact ze.mpr ⟨z,hz,rfl⟩)
   rw[qU hg hp (hr.1 z (zh _ hz)) wx WV,none z hz];rfl
theorem GW (x:α) (F:List α) (m:Nat):(F.take m++x :: F.drop m).Perm (F++[x]):=by
 refine (List.perm_middle).trans (List.Perm.trans ?_ List.perm_append_comm)
 rw[List.take_append_drop]
 exact .refl _
end
abbrev qK:Str := "sorted_by_keys.<locals>.<lambda>"
abbrev qV:Str := "sorted_by_values.<locals>.<lambda>"
def NY:D→D
 | .tup (x :: _)=>x
 | _=>.au
def AO (cs:List (Str×Str)) (z:Str):D→D
 | .tup [_,.tup ws]=>ao cs ws z
 | _=>.au
def GX (t:o3):gG:=fun ds S R _=>∃ (cs:List (Str×Str)) (l:Addr) (rs:List Row) (wy:Str),ds=[.ref l,.str wy]∧lA wy=true∧S l=some (.lst (rs.map aj))∧rs.length<64∧Rg cs rs∧S t.aR=some (.tab qK) ∧
 ∀ (cJ:List Row) (p:Addr),cJ.Perm rs→(cJ.Pairwise fun a b=>aZ cs wy [] a b=true)→S p=none→R (.ref p) (S.set p (.lst (cJ.map aj)))
theorem gu {S S2:aT}{p:Addr}{c:Ce} (h:Sub S S2):Sub (S.set p c) (S2.set p c):=fun b e hb=>by
 by_cases q:b=p
 ·subst q;rw[aa] at hb ⊢;exact hb
 ·rw[af q] at hb ⊢;exact h b e hb
theorem eB {S S2:aT}{p:Addr} (h:Sub S S2) (e:S2 p=none):S p=none:=by
 cases q:S p with
 | none=>rfl
 | some c=>rw[h p c q] at e;cases e
theorem u6 {z:Str} (h:lA z=true):z = "up" ∨ z = "down" := by
 unfold lA at h
 simpa using h
theorem Rg.unlike (h:Rg cs rs):rs.Pairwise fun a b=>a.1≠b.1:=List.pairwise_map.mp h.2
theorem mn (T:Txt w K mg t) (B:Bm mg base):Ok P w base T.b_ 4 (GX t):=by
 refine T.b_.F.X_ (k:=3) l9 (by rintro ds S R Z ⟨_,_,_,_,e,_⟩;rw[e];rfl) ?_
 rintro bu A outer s H E ds S R Z rh hr ⟨cs,l,rs,wy,e,HE,hl,hn,jX,ht,q⟩
 subst e
 have xr:vX ((rs.map aj).map NY):=.inl ⟨rs.map Prod.fst,by rw[zt,zt];rfl⟩
 have un:rs.Pairwise fun a b=>a.1≠b.1:=jX.unlike
 have Ht:(rs.map aj).length<64:=by rw[zb];exact hn
 refine⟨_,(sc (si (bK bc hr.units (dv 1) ds) (s1 (sr (K2 (N:=["row"]) (src:=[none]) (rh.trans T.gk) ⟨T.dW,B⟩ hr (kG (ae bX) ["rows", "way"] rfl rfl (by decide +kernel)) (dv 0) (fun _ _ _ _=>(ix (hr.in1.in1.deeper _).units (dv 0) di)) T.fK eJ))) s0) (s1 (sr (Rk (N:=["row"]) (src:=[none]) (rh.trans T.gk) ⟨T.dW,B⟩ hr (kG (ae bX) ["rows", "way"] rfl rfl (by decide +kernel)) (dv 0) (fun _ _ _ _=>(ix (hr.in1.in1.deeper _).units (dv 0) di)) T.fK eJ)))),?_⟩
 rcases u6 HE with rfl | rfl
 ·refine⟨_,rfl,_,rfl,aX (by decide +kernel) ⟨_,rfl,l,rs.map aj,NY,rfl,hl,Ht,ht,xr,fun x hx S' hs Qk hQ=>?_,fun g S2 p hg hs hp=>?_⟩⟩
  ·obtain⟨r,hr,rfl⟩:=ze.mp hx
   exact⟨_,rfl,_,rfl,hQ S' (.refl _)⟩
  ·obtain⟨cJ,e,pm,h⟩:=mm hg
   rw[e]
   refine⟨S.set p (.lst (cJ.map aj)),gu hs,q cJ p pm (h _ _ un (fun x y hx hy fu=>?_) fun x y hx hy e ne=>absurd (D.str.inj e) ne) (eB hs hp)⟩
   show (ou x.1 y.1 == decide (("up" : Str) = "up"))=true
   have:ou x.1 y.1=true:=zu fu
   rw[this];rfl
 ·refine⟨_,rfl,_,rfl,lH (by decide +kernel) ⟨_,rfl,l,rs.map aj,NY,rfl,hl,Ht,ht,xr,fun x hx S' hs Qk hQ=>?_,fun g S2 p hg hs hp=>?_⟩⟩
  ·obtain⟨r,hr,rfl⟩:=ze.mp hx
   exact⟨_,rfl,_,rfl,hQ S' (.refl _)⟩
  ·obtain⟨cJ,e,pm,h⟩:=mm hg
   rw[e]
   refine⟨S.set p (.lst (cJ.map aj)),gu hs,q cJ p pm (h _ _ un (fun x y hx hy fu=>?_) fun x y hx hy e ne=>absurd (D.str.inj e) ne) (eB hs hp)⟩
   show (ou x.1 y.1 == decide (("down" : Str) = "up"))=true
   have:ou y.1 x.1=true:=zu fu
   by_cases e:x.1=y.1
   ·rw[e,BU] at this;cases this
   ·rw[j4 e] at this
    have h2:ou x.1 y.1=false:=by simpa using this
    rw[h2,zr (by decide +kernel)];rfl
def GY (t:o3):gG:=fun ds S R _=>∃ (cs:List (Str×Str)) (ps:List Part) (p:Part) (wy:Str) (l:Addr) (rs:List Row),ds=[.tup (cs.map ay),p3 p,.ref l]∧Gd cs∧Pin cs (p :: ps)∧lA p.2.1=true∧S l=some (.lst (rs.map aj))∧rs.length<64∧Rg cs rs∧(∀ r∈rs,valued cs p r=true)∧(rs.Pairwise fun a b=>aZ cs wy ps a b=true)∧S t.aI=some (.tab qV) ∧
 ∀ (cJ:List Row) (a:Addr),cJ.Perm rs→(cJ.Pairwise fun a b=>aZ cs wy (p :: ps) a b=true)→S a=none→R (.ref a) (S.set a (.lst (cJ.map aj)))
theorem AQ {α:Type}{f:α→D}{β:Type}{mk:β→D} : ∀ {l:List α},(∀ x∈l,∃ b,f x=mk b)→∃ bs:List β,l.map f=bs.map mk
 | [],_=>⟨[],rfl⟩
 | x :: l,h=>by
  obtain⟨b,e⟩:=h x zx
  obtain⟨bs,e2⟩:=AQ fun y hy=>h y (zh _ hy)
  exact⟨b :: bs,by rw[zB,e,e2];rfl⟩
theorem DY {cs:List (Str×Str)}{p:Part}{k:Str}{rs:List Row} (hk:∀ r∈rs,Vg k (ao cs r.2 p.1)) (hv:∀ r∈rs,valued cs p r=true):vX ((rs.map aj).map (AO cs p.1)):=by
 rw[zt]
 have nn:∀ r∈rs,ao cs r.2 p.1≠.au:=fun r hr=>bq (by have:=hv r hr;unfold valued at this;simpa using this)
 by_cases e:k = "number"
 ·refine .inr (AQ fun r hr=>?_)
  have h1:=hk r hr
  have h2:=nn r hr
  show ∃ b,ao cs r.2 p.1=.int b
  generalize ao cs r.2 p.1=v at h1 h2
  cases v with
  | au=>exact absurd rfl h2
  | int i=>exact⟨i,rfl⟩
  | str z =>
   have h1:=h1.1
   unfold jw at h1
   simp only [ah,yL] at h1
   rw[if_pos e] at h1;cases h1
  | _=>cases h1.2
 ·refine .inl (AQ fun r hr=>?_)
  have h1:=hk r hr
  have h2:=nn r hr
  show ∃ b,ao cs r.2 p.1=.str b
  generalize ao cs r.2 p.1=v at h1 h2
  cases v with
  | au=>exact absurd rfl h2
  | str i=>exact⟨i,rfl⟩
  | int z =>
   have h1:=h1.1
   unfold jw at h1
   simp only [ah,yL] at h1
   rw[if_neg e] at h1;cases h1
  | _=>cases h1.2
theorem GZ {cs:List (Str×Str)}{wy:Str}{ps:List Part}{p:Part}{x y:Row} (nx:valued cs p x=true) (ny:valued cs p y=true) (ne:qR (ao cs x.2 p.1) (ao cs y.2 p.1)=false) (h:(xw (ao cs x.2 p.1) (ao cs y.2 p.1) == decide (p.2.1 = "up"))=true):aZ cs wy (p :: ps) x y=true:=by
 unfold valued at nx ny
 have nx:ah (ao cs x.2 p.1)=false:=by simpa using nx
 have ny:ah (ao cs y.2 p.1)=false:=by simpa using ny
 show (if qR (ao cs x.2 p.1) (ao cs y.2 p.1)=true then aZ cs wy ps x y else eY p (ao cs x.2 p.1) (ao cs y.2 p.1))=true
 rw[ne,if_neg zd]
 unfold eY
 rw[nx,ny,if_neg (by simp)]
 exact h
theorem G0 {x y:D} (h:xw x y=true):qR x y=false:=by
 cases x with
 | int i =>
  cases y with
  | int j=>exact zr fun e=>by rw[e,BV] at h;cases h
  | _=>cases h
 | str i =>
  cases y with
  | str j=>exact zr fun e=>by rw[e,BV] at h;cases h
  | _=>cases h
 | _=>cases h
theorem G1 (x y:D):qR x y=qR y x:=by
 cases x <;> cases y <;> first | rfl | exact yC.mpr ⟨Eq.symm,Eq.symm⟩
theorem ki (T:Txt w K mg t) (B:Bm mg base):Ok P w base T.bE 6 (GY t):=by
 have du:Ok P w base T.aY 2 _:=jE T
 refine T.bE.F.X_ (k:=5) kh (by rintro ds S R Z ⟨_,_,_,_,_,_,e,_⟩;rw[e];rfl) ?_
 rintro bu A outer s H E ds S R Z rh hr ⟨cs,ps,p,wy,l,rs,e,hg,sj,HE,hl,hn,jX,hv,RK,ht,q⟩
 subst e
 obtain⟨c,hc,ec⟩:=sj p zx
 obtain⟨k,hk⟩:=u4 hg sj
 have xr:vX ((rs.map aj).map (AO cs p.1)):=DY (fun r hr=>hk _ (jX.1 r hr)) hv
 have Ht:(rs.map aj).length<64:=by rw[zb];exact hn
 have same:∀ x y:Row,x∈rs→y∈rs→AO cs p.1 (aj x)=AO cs p.1 (aj y)→aZ cs wy ps x y=true→aZ cs wy (p :: ps) x y=true:=fun x y hx hy e h=>by
  show (if qR (ao cs x.2 p.1) (ao cs y.2 p.1)=true then aZ cs wy ps x y else _)=true
  rw[if_pos ((cw (hk _ (jX.1 x hx)).2 (hk _ (jX.1 y hy)).2).mpr e)]
  exact h
 have step:∀ x,x∈rs.map aj→∀ Qk:KD,∀ S':aT,Qk (AO cs p.1 x) S'→∃ JO r' c',[D.tup (cs.map ay),x,.str p.1]=[.tup (JO.map ay),aj r',.str (Prod.fst (β:=Str) c')]∧Gd JO∧Wg JO r'.2∧c'∈JO∧Qk (ao JO r'.2 c'.1) S':=fun x hx Qk S' hQ=>by
  obtain⟨r,hr,rfl⟩:=ze.mp hx
  exact⟨cs,r,c,by rw[ec],hg,jX.1 r hr,hc,by rw[ec];exact hQ⟩
 refine⟨_,(sc (si (bK bc hr.units (ix hr.units (dv 1) di) ds) (s1 (sr (K2 (N:=["row", "columns", "part"]) (src:=[none,some 0,some 1]) (rh.trans T.fi) ⟨T.cS,B⟩ hr (kG (ae bI) ["columns", "part", "rows"] rfl rfl (by decide +kernel)) (dv 2) (fun _ _ _ _=>(cf (du.mono (by decide)) (hr.in1.in1.deeper _) T.aY.m T.aY.k T.aY.b d0 (ac (dv 1) (ac (dv 0) (ac (ix (hr.in1.in1.deeper _).units (dv 2) di) an))))) T.fK eJ))) s0) (s1 (sr (Rk (N:=["row", "columns", "part"]) (src:=[none,some 0,some 1]) (rh.trans T.fi) ⟨T.cS,B⟩ hr (kG (ae bI) ["columns", "part", "rows"] rfl rfl (by decide +kernel)) (dv 2) (fun _ _ _ _=>(cf (du.mono (by decide)) (hr.in1.in1.deeper _) T.aY.m T.aY.k T.aY.b d0 (ac (dv 1) (ac (dv 0) (ac (ix (hr.in1.in1.deeper _).units (dv 2) di) an))))) T.fK eJ)))),?_⟩
 rcases u6 HE with e1 | e1
 ·refine⟨_,rfl,_,rfl,_,rfl,aX (by rw[e1];decide +kernel) ⟨_,rfl,l,rs.map aj,AO cs p.1,rfl,hl,Ht,ht,xr,fun x hx S' hs Qk hQ=>⟨_,rfl,_,rfl,_,rfl,_,rfl,step x hx _ S' (hQ S' (.refl _))⟩,fun g S2 a hg hs ha=>?_⟩⟩
  obtain⟨cJ,e,pm,h⟩:=mm hg
  rw[e]
  refine⟨S.set a (.lst (cJ.map aj)),gu hs,q cJ a pm (h _ _ RK (fun x y hx hy fu=>?_) same) (eB hs ha)⟩
  have fu:=GU (a:=ao cs x.2 p.1) (b:=ao cs y.2 p.1) fu
  exact GZ (hv x hx) (hv y hy) (G0 fu) (by rw[fu,zu e1];rfl)
 ·refine⟨_,rfl,_,rfl,_,rfl,lH (by rw[e1];decide +kernel) ⟨_,rfl,l,rs.map aj,AO cs p.1,rfl,hl,Ht,ht,xr,fun x hx S' hs Qk hQ=>⟨_,rfl,_,rfl,_,rfl,_,rfl,step x hx _ S' (hQ S' (.refl _))⟩,fun g S2 a V0 hs ha=>?_⟩⟩
  obtain⟨cJ,e,pm,h⟩:=mm V0
  rw[e]
  refine⟨S.set a (.lst (cJ.map aj)),gu hs,q cJ a pm (h _ _ RK (fun x y hx hy fu=>?_) same) (eB hs ha)⟩
  have fu:=GU (a:=ao cs y.2 p.1) (b:=ao cs x.2 p.1) fu
  have ne:=G0 fu
  refine GZ (hv x hx) (hv y hy) (by rw[G1];exact ne) ?_
  have nn:∀ r∈rs,ao cs r.2 p.1≠.au:=fun r hr=>bq (by have:=hv r hr;unfold valued at this;simpa using this)
  have DK:ao cs x.2 p.1≠ao cs y.2 p.1:=fun e=>by
   have:=(cw (hk _ (jX.1 y hy)).2 (hk _ (jX.1 x hx)).2).mpr e.symm
   rw[ne] at this;cases this
  have:=ml (hk _ (jX.1 x hx)) (hk _ (jX.1 y hy)) (nn x hx) (nn y hy) DK
  rw[fu] at this
  have h2:xw (ao cs x.2 p.1) (ao cs y.2 p.1)=false:=by simpa using this
  rw[h2,e1,zr (by decide +kernel)];rfl
def Tb (t:o3) (S:aT):Prop:=S t.aR=some (.tab qK)∧S t.aI=some (.tab qV)
theorem Tb.sub {t:o3}{S S':aT} (h:Tb t S) (s:Sub S S'):Tb t S':=⟨s _ _ h.1,s _ _ h.2⟩
def BW (b:Bool) (cs:List (Str×Str)) (p:Part):D→Bool
 | .tup [_,.tup ws]=>ah (ao cs ws p.1) == b
 | _=>false
theorem fF {rs:List Row}{f:D→Bool}{g:Row→Bool} (h:∀ r,f (aj r)=g r):((rs.map aj).filter f).map id=(rs.filter g).map aj:=by
 rw[List.map_id,List.filter_map]
 exact congrArg (List.map aj) (List.filter_congr fun r _=>h r)
def G4 (t:o3):gG:=fun ds S R _=>∃ (cs:List (Str×Str)) (ps:List Part) (p:Part) (wy:Str) (l:Addr) (rs:List Row),ds=[.tup (cs.map ay),p3 p,.ref l]∧Gd cs∧Pin cs (p :: ps)∧lA p.2.1=true∧S l=some (.lst (rs.map aj))∧rs.length<64∧Rg cs rs∧(rs.Pairwise fun a b=>aZ cs wy ps a b=true)∧Tb t S ∧
 ∀ (cJ:List Row) (a:Addr),cJ.Perm rs→(cJ.Pairwise fun a b=>aZ cs wy (p :: ps) a b=true)→S a=none→R (.ref a) (S.set a (.lst (cJ.map aj)))
theorem mq (T:Txt w K mg t) (B:Bm mg base):Ok P w base T.cg 7 (G4 t):=by
 have du:Ok P w base T.aY 2 _:=jE T
 have lB:Ok P w base T.bE 6 (GY t):=ki T B
 refine T.cg.F.ok cH (by rintro ds S R Z ⟨_,_,_,_,_,_,e,_⟩;rw[e];rfl) ?_
 rintro bu A outer s H E ds S R Z hr ⟨cs,ps,p,wy,l,rs,e,hg,sj,HE,hl,hn,jX,RK,ht,q⟩
 subst e
 obtain⟨c,hc,ec⟩:=sj p zx
 have hz:(rs.map aj).length≤1000:=by rw[zb];omega
 refine⟨_,(sc (OR (i:=3) (N:=["row", "columns", "part"]) (src:=[none,some 0,some 1]) cH.nd (kG (ae bY) ["columns", "part", "rows", "without", "valued"] rfl rfl (by decide +kernel)) (il (dv 2)) (oZ (show (["row", "columns", "part"]:List Str).Nodup by decide +kernel)) (a_ rfl) ba (fun _ _ _ _ _=>(if1 (bK mL hr.units (cf (du.mono (by decide)) hr T.aY.m T.aY.k T.aY.b d0 (ac (dv 1) (ac (dv 0) (ac (ix hr.units (dv 2) di) an)))) dn))) (fun _ _ _ _ _=>(dv 0))) (sc (OR (i:=4) (N:=["row", "columns", "part"]) (src:=[none,some 0,some 1]) cH.nd (kG (ae bY) ["columns", "part", "rows", "without", "valued"] rfl rfl (by decide +kernel)) (il (dv 2)) (oZ (show (["row", "columns", "part"]:List Str).Nodup by decide +kernel)) (a_ rfl) ba (fun _ _ _ _ _=>(if1 (bK pW hr.units (cf (du.mono (by decide)) hr T.aY.m T.aY.k T.aY.b d0 (ac (dv 1) (ac (dv 0) (ac (ix hr.units (dv 2) di) an)))) dn))) (fun _ _ _ _ _=>(dv 0))) (sc (eI (i:=4) cH.nd (cf (lB.mono (by decide)) hr T.bE.m T.bE.k T.bE.b d0 (ac (dv 0) (ac (dv 1) (ac (dv 4) an))))) (s1 (sr (XT (bK bc hr.units (ix hr.units (dv 1) di) ds) (bo eF hr.units (dv 3) (dv 4)) (bo eF hr.units (dv 4) (dv 3)))))))),?_⟩
 refine⟨_,rfl,_,hl,?_⟩
 refine dG (BW true cs p) id hl hz (fun d hd Q Q' hQ AF=>?_) fun p1 AI=>?_
 ·obtain⟨r,hr,rfl⟩:=ze.mp hd
  refine⟨_,rfl,_,rfl,_,rfl,_,rfl,cs,r,c,(show [D.tup (cs.map ay),aj r,D.str p.1]=[_,_,D.str c.1] by rw[ec]),hg,jX.1 r hr,hc,?_⟩
  rw[ec]
  refine⟨_,rfl,ck (fun h=>⟨_,rfl,hQ ?_⟩) (fun h=>AF ?_)⟩
  ·show (ah (ao cs r.2 p.1) == true)=true
   rw[show ah (ao cs r.2 p.1)=true from h];rfl
  ·show (ah (ao cs r.2 p.1) == true)=false
   rw[show ah (ao cs r.2 p.1)=false from h];rfl
 have e1:((rs.map aj).filter (BW true cs p)).map id=(rs.filter fun r=>!valued cs p r).map aj:=fF fun r=>by
  show (ah (ao cs r.2 p.1) == true)=!valued cs p r
  unfold valued;cases ah (ao cs r.2 p.1) <;> rfl
 rw[show (⟨rs.map aj,fun S=>sP S (.ref l) (rs.map aj)⟩:yX).xs=rs.map aj from rfl,e1]
 have HF:Sub S (S.set p1 (.lst ((rs.filter fun r=>!valued cs p r).map aj))):=.new AI
 have h1:(S.set p1 (.lst ((rs.filter fun r=>!valued cs p r).map aj))) p1=some (.lst ((rs.filter fun r=>!valued cs p r).map aj)):=aa
 generalize S.set p1 (.lst ((rs.filter fun r=>!valued cs p r).map aj))=S1 at HF h1 ⊢
 have Ek:=HF _ _ hl
 refine⟨_,rfl,_,Ek,?_⟩
 refine dG (BW false cs p) id Ek hz (fun d hd Q Q' hQ AF=>?_) fun p2 iD=>?_
 ·obtain⟨r,hr,rfl⟩:=ze.mp hd
  refine⟨_,rfl,_,rfl,_,rfl,_,rfl,cs,r,c,(show [D.tup (cs.map ay),aj r,D.str p.1]=[_,_,D.str c.1] by rw[ec]),hg,jX.1 r hr,hc,?_⟩
  rw[ec]
  refine⟨_,rfl,ck (fun h=>⟨_,rfl,hQ ?_⟩) (fun h=>AF ?_)⟩
  ·show (ah (ao cs r.2 p.1) == false)=true
   rw[show ah (ao cs r.2 p.1)=false from nt h];rfl
  ·show (ah (ao cs r.2 p.1) == false)=false
   rw[show ah (ao cs r.2 p.1)=true from nf h];rfl
 have e2:((rs.map aj).filter (BW false cs p)).map id=(rs.filter (valued cs p)).map aj:=fF fun r=>by
  show (ah (ao cs r.2 p.1) == false)=valued cs p r
  unfold valued;cases ah (ao cs r.2 p.1) <;> rfl
 rw[show (⟨rs.map aj,fun S=>sP S (.ref l) (rs.map aj)⟩:yX).xs=rs.map aj from rfl,e2]
 have xp:Sub S (S1.set p2 (.lst ((rs.filter (valued cs p)).map aj))):=HF.trans (.new iD)
 have GH:(S1.set p2 (.lst ((rs.filter (valued cs p)).map aj))) p1=_:=(af (gL h1 iD)).trans h1
 have Yw:(S1.set p2 (.lst ((rs.filter (valued cs p)).map aj))) p2=_:=aa
 generalize S1.set p2 (.lst ((rs.filter (valued cs p)).map aj))=S2 at xp GH Yw ⊢
 have fl:(rs.filter (valued cs p)).length≤rs.length:=yk _ _
 have fl2:(rs.filter fun r=>!valued cs p r).length≤rs.length:=yk _ _
 refine⟨_,rfl,_,rfl,_,rfl,cs,ps,p,wy,p2,rs.filter (valued cs p),rfl,hg,sj,HE,Yw,by omega,jX.sub yt,fun r hr=>(yg.mp hr).2,RK.sublist yt,(ht.sub xp).2,fun V p3 hV Tr La=>?_⟩
 obtain⟨pm,pw⟩:=DX RK hV Tr
 have Ts:(S2.set p3 (.lst (V.map aj))) p1=_:=(af (gL GH La)).trans GH
 have WW:(S2.set p3 (.lst (V.map aj))) p3=some (.lst (V.map aj)):=aa
 have JR:Sub S (S2.set p3 (.lst (V.map aj))):=xp.trans (.new La)
 generalize S2.set p3 (.lst (V.map aj))=S3 at Ts WW JR ⊢
 have hVl:=hV.length_eq
 refine⟨_,rfl,_,rfl,_,rfl,ck (fun h=>?_) (fun h=>?_)⟩
 ·rw[if_pos (zE h)] at pm pw
  refine⟨_,rfl,_,rfl,_,_,Ts,WW,sm (by rw[zb,zb];omega),fun p4 RL=>?_⟩
  rw[← zD]
  exact⟨_,gu JR,q _ p4 pm pw (eB JR RL)⟩
 ·rw[if_neg (zX h)] at pm pw
  refine⟨_,rfl,_,rfl,_,_,WW,Ts,sm (by rw[zb,zb];omega),fun p4 RL=>?_⟩
  rw[← zD]
  exact⟨_,gu JR,q _ p4 pm pw (eB JR RL)⟩
structure Og (cs:List (Str×Str)) (ps:List Part) (wy:Str):Prop where
 pin:Pin cs ps
 WX:∀ p∈ps,lA p.2.1=true
 way:lA wy=true
 ok:DN cs ps wy=true
 tx:∀ p∈ps,WQ p
def qW (ps:List Part) (wy:Str):D:=.tup [.tup (ps.map p3),.str wy]
def Lk (t:o3):gG:=fun ds S R _=>∃ (cs:List (Str×Str)) (ps:List Part) (wy:Str) (l:Addr) (rs:List Row),ds=[.tup (cs.map ay),qW ps wy,.ref l]∧Gd cs∧Og cs ps wy∧S l=some (.lst (rs.map aj))∧rs.length<64∧Rg cs rs∧Tb t S ∧
 ∀ (cJ:List Row) (a:Addr),cJ.Perm rs→(cJ.Pairwise fun a b=>aZ cs wy ps a b=true)→S a=none→R (.ref a) (S.set a (.lst (cJ.map aj)))
structure Vw (C:Addr) (S:aT) (a:Addr) (cs:List (Str×Str)) (m:D) (rows:List Row):Prop where
 sh:∃ F dl rs,bT C S a F cs dl rs∧rs.length<64∧r9 dl.length m≠none∧∀ i ss,r9 dl.length m=some i→ss.Perm (rs.map (·.1))→PyProof.Rows.sortedS ss=true→lq rs i ss=rows.map aj
 mo:Gt S m
 len:rows.length<64
 rg:Rg cs rows
theorem bT.sub (b:Sub S S') (h:bT C S a F cs dl rs):bT C S' a F cs dl rs:=by
 obtain⟨ld,lr,ra,h,e⟩:=h
 exact⟨ld,lr,ra,⟨b _ _ h.ins,b _ _ h.wU,b _ _ h.run,fun r hr=>b _ _ (h.cell r hr),h.kn,h.an,h.sz⟩,e⟩
theorem xc (T:Txt w K mg t) (B:Bm mg base):Ok P w base T.gP 8 (Lk t):=by
 have nH:Ok P w base T.b_ 4 (GX t):=mn T B
 have nI:Ok P w base T.cg 7 (G4 t):=mq T B
 refine T.gP.F.ok gm (by rintro ds S R Z ⟨_,_,_,_,_,e,_⟩;rw[e];rfl) ?_
 rintro bu A outer s H E ds S R Z hr ⟨cs,ps,wy,l,rs,e,hg,ho,hl,hn,jX,ht,q⟩
 subst e
 refine⟨_,(sc (eI (i:=3) gm.nd (cf (nH.mono (by decide)) hr T.b_.m T.b_.k T.b_.b d0 (ac (dv 2) (ac (ix hr.units (dv 1) di) an)))) (sc (CU (Hy (irt T.qA (ac (ix hr.units (dv 1) di) an)) (gn (i:=4) gm.nd) (s1 (eI (i:=3) gm.nd (cf (nI.mono (by decide)) hr T.cg.m T.cg.k T.cg.b d0 (ac (dv 0) (ac (dv 4) (ac (dv 3) an)))))))) (s1 (sr (dv 3))))),?_⟩
 refine⟨_,rfl,_,rfl,_,rfl,cs,l,rs,wy,rfl,ho.way,hl,hn,jX,ht.1,fun NZ p1 Ll Tu AI=>?_⟩
 have Ln:ps.reverse.length=ps.length:=yr
 refine⟨fun aK S'=>∃ (o:Option D) (p:Addr) (cJ:List Row),aK=[some (.tup (cs.map ay)),some (qW ps wy),some (.ref l),some (.ref p),o]∧S p=none∧S' p=some (.lst (cJ.map aj))∧Sub S S'∧cJ.Perm rs∧cJ.Pairwise fun a b=>aZ cs wy ps a b=true,?_,?_⟩
 ·refine⟨_,rfl,_,rfl,_,rfl,?_⟩
  refine⟨fun i aK S'=>∃ (o:Option D) (p:Addr) (cJ:List Row),aK=[some (.tup (cs.map ay)),some (qW ps wy),some (.ref l),some (.ref p),o]∧S p=none∧S' p=some (.lst (cJ.map aj))∧Sub S S'∧cJ.Perm rs∧cJ.Pairwise fun a b=>aZ cs wy (ps.reverse.take i).reverse a b=true,⟨none,p1,NZ,rfl,AI,aa,.new AI,Ll,Tu⟩,fun _ _ _ _=>trivial,?_,?_⟩
  ·rintro i d aK S' hd ⟨o,p,cJ,rfl,hp,gF,sb,pm,pw⟩
   have hd:(ps.map p3).reverse[i]?=some d:=hd
   rw[← List.map_reverse,zp] at hd
   cases e5:ps.reverse[i]? with
   | none=>rw[e5] at hd;cases hd
   | some pt =>
    rw[e5] at hd
    cases hd
    have MY:pt∈ps:=List.mem_reverse.mp (zK e5)
    have et:(ps.reverse.take (i+1)).reverse=pt :: (ps.reverse.take i).reverse:=by
     rw[List.take_add_one,e5,List.reverse_append];rfl
    have Eg:Pin cs (pt :: (ps.reverse.take i).reverse):=fun x hx=>by
     rcases zf.mp hx with rfl | hx
     ·exact ho.pin _ MY
     ·exact ho.pin _ (List.mem_reverse.mp (List.mem_of_mem_take (List.mem_reverse.mp hx)))
    refine⟨_,rfl,_,rfl,_,rfl,cs,(ps.reverse.take i).reverse,pt,wy,p,cJ,rfl,hg,Eg,ho.WX pt MY,gF,by rw[pm.length_eq];exact hn,jX.perm pm,pw,ht.sub sb,fun xt p2 WY Tv iD=>?_⟩
    rw[← et] at Tv
    exact⟨_,p2,xt,rfl,eB sb iD,aa,sb.trans (.new iD),WY.trans pm,Tv⟩
  ·rintro aK S' ⟨o,p,cJ,rfl,hp,gF,sb,pm,pw⟩
   have pw:cJ.Pairwise fun a b=>aZ cs wy (ps.reverse.take (ps.map p3).reverse.length).reverse a b=true:=pw
   rw[yr,zb,List.take_of_length_le (Nat.le_of_eq Ln),List.reverse_reverse] at pw
   exact fo ⟨o,p,cJ,rfl,hp,gF,sb,pm,pw⟩
 ·rintro aK S' ⟨o,p,cJ,rfl,hp,gF,sb,pm,pw⟩
  refine⟨_,rfl,S.set p (.lst (cJ.map aj)),fun b c hb=>?_,q cJ p pm pw hp⟩
  by_cases e:b=p
  ·subst e;rw[aa] at hb;cases hb;exact gF
  ·rw[af e] at hb;exact sb b c hb
def tH (cs:List (Str×Str)) (d:D):D→Bool
 | .tup [.str k,.tup ws]=>aJ cs (k,ws) 3 d
 | _=>false
def AR (t:o3):gG:=fun ds S R _=>∃ a cs d m rows,ds=[.ref a,d,m]∧Gd cs∧Sg cs 3 d∧Vw t.ag S a cs m rows∧∀ p,S p=none→R (.ref p) (S.set p (.lst ((rows.filter fun r=>aJ cs r 3 d).map aj)))
theorem iO (T:Txt w K mg t):Ok P w base T.bj 7 (AR t):=by
 have aL:jL P w mg base T.ar 1 _:=dZ T
 have qX:jL P w mg base T.dS 3 (K_ t.ag t.eN):=DM T
 have jF:Ok P w base T.passes 6 (nG 3):=tE T 3
 refine T.bj.F.ok iL (by rintro ds S R Z ⟨_,_,_,_,_,e,_⟩;rw[e];rfl) ?_
 rintro bu A outer s H E ds S R Z hr ⟨a,cs,d,m,rows,e,hg,hd,hv,q⟩
 subst e
 obtain⟨F,dl,rs,hS,hn,Tw,Tx⟩:=hv.sh
 obtain⟨ld,lr,ra,h,_⟩:=id hS
 refine⟨_,(sc (eI (i:=3) iL.nd (ub (dv 0) T.aq T.ar.e (aL.mono (by decide)) hr T.ar.b d0)) (s1 (sr (rM (N:=["row", "columns", "sieve"]) (src:=[none,some 3,some 1]) (kG (ae dN) ["shelf", "sieve", "moment", "columns"] rfl rfl (by decide +kernel)) (il (sR (dv 0) T.aq T.dS.e (qX.mono (by decide)) hr T.dS.b d0 (ac (dv 2) an))) (oZ (show (["row", "columns", "sieve"]:List Str).Nodup by decide +kernel)) (a_ rfl) ba (fun _ _ _ _ _=>(if1 (tv (cf (jF.mono (by omega)) hr T.passes.m T.passes.k T.passes.b d0 (ac (dv 1) (ac (dv 2) (ac (dv 0) an))))))) (fun _ _ _ _ _=>(dv 0)))))),?_⟩
 refine⟨_,rfl,a,_,rfl,h.ins,rfl,a,F,cs,dl,rs,rfl,hS,?_⟩
 refine⟨_,rfl,a,_,rfl,h.ins,rfl,_,rfl,a,F,cs,dl,rs,m,rfl,hS,hn,hv.mo,fun i ss hi hp hs p uW=>?_,fun h=>absurd h Tw⟩
 rw[Tx i ss hi hp hs]
 refine⟨_,aa,?_⟩
 refine dG (tH cs d) id aa (by show (rows.map aj).length≤1000;rw[zb];have:=hv.len;omega) (fun x hx Q Q' hQ AF=>?_) fun p2 iD=>?_
 ·obtain⟨r,hr,rfl⟩:=ze.mp hx
  refine⟨_,rfl,_,rfl,_,rfl,cs,d,r,rfl,hg,hd,hv.rg.1 r hr,_,rfl,ck (fun h=>⟨_,rfl,hQ h⟩) (fun h=>AF h)⟩
 ·have e1:((rows.map aj).filter (tH cs d)).map id=(rows.filter fun r=>aJ cs r 3 d).map aj:=fF fun r=>rfl
  rw[show (⟨rows.map aj,fun S=>sP S (.ref p) (rows.map aj)⟩:yX).xs=rows.map aj from rfl,e1]
  exact⟨_,gu (.new uW),q p2 (eB (.new uW) iD)⟩
def JS (t:o3):gG:=fun ds S R _=>∃ a cs ps wy d m rows,ds=[.ref a,qW ps wy,d,m]∧Gd cs∧Og cs ps wy∧Sg cs 3 d∧Vw t.ag S a cs m rows∧Tb t S ∧
 ∀ (cJ:List Row) (p:Addr),cJ.Perm (rows.filter fun r=>aJ cs r 3 d)→(cJ.Pairwise fun a b=>aZ cs wy ps a b=true)→S p=none→R (.ref p) (S.set p (.lst (cJ.map aj)))
theorem mr (T:Txt w K mg t) (B:Bm mg base):Ok P w base T.bZ 9 (JS t):=by
 have aL:jL P w mg base T.ar 1 _:=dZ T
 have fS:Ok P w base T.bj 7 (AR t):=iO T
 have AS:Ok P w base T.gP 8 (Lk t):=xc T B
 refine T.bZ.F.ok l8 (by rintro ds S R Z ⟨_,_,_,_,_,_,_,e,_⟩;rw[e];rfl) ?_
 rintro bu A outer s H E ds S R Z hr ⟨a,cs,ps,wy,d,m,rows,e,hg,ho,hd,hv,ht,q⟩
 subst e
 obtain⟨F,dl,rs,hS,hn,Tw,Tx⟩:=hv.sh
 obtain⟨ld,lr,ra,h,_⟩:=id hS
 refine⟨_,(s1 (sr (cf (AS.mono (by decide)) hr T.gP.m T.gP.k T.gP.b d0 (ac (ub (dv 0) T.aq T.ar.e (aL.mono (by decide)) hr T.ar.b d0) (ac (dv 1) (ac (cf (fS.mono (by decide)) hr T.bj.m T.bj.k T.bj.b d0 (ac (dv 0) (ac (dv 2) (ac (dv 3) an)))) an)))))),?_⟩
 refine⟨_,rfl,a,_,rfl,h.ins,rfl,a,F,cs,dl,rs,rfl,hS,?_⟩
 refine⟨_,rfl,_,rfl,_,rfl,_,rfl,a,cs,d,m,rows,rfl,hg,hd,hv,fun p hp=>?_⟩
 have fl:(rows.filter fun r=>aJ cs r 3 d).length≤rows.length:=yk _ _
 have:=hv.len
 refine⟨cs,ps,wy,p,rows.filter fun r=>aJ cs r 3 d,rfl,hg,ho,aa,Nat.lt_of_le_of_lt fl this,hv.rg.sub yt,ht.sub (.new hp),fun cJ p2 pm pw iD=>?_⟩
 exact⟨_,gu (.new hp),q cJ p2 pm pw (eB (.new hp) iD)⟩
theorem G5 (T:Txt w K mg t) (B:Bm mg base):Ok P w base T.plain 10 (JS t):=by
 have aL:jL P w mg base T.ar 1 _:=dZ T
 have so:Ok P w base T.dD 5 _:=qN T
 have gE:Ok P w base T.bB 6 _:=jD T
 have nJ:Ok P w base T.bZ 9 (JS t):=mr T B
 refine T.plain.F.ok Gq (by rintro ds S R Z ⟨_,_,_,_,_,_,_,e,_⟩;rw[e];rfl) ?_
 rintro bu A outer s H E ds S R Z hr ⟨a,cs,ps,wy,d,m,rows,e,hg,ho,hd,hv,ht,q⟩
 subst e
 obtain⟨F,dl,rs,hS,hn,Tw,Tx⟩:=hv.sh
 obtain⟨ld,lr,ra,h,_⟩:=id hS
 refine⟨_,(sc (se (cf (so.mono (by decide)) hr T.dD.m T.dD.k T.dD.b d0 (ac (ub (dv 0) T.aq T.ar.e (aL.mono (by decide)) hr T.ar.b d0) (ac (dv 1) an)))) (sc (se (cf (gE.mono (by decide)) hr T.bB.m T.bB.k T.bB.b d0 (ac (ub (dv 0) T.aq T.ar.e (aL.mono (by decide)) hr T.ar.b d0) (ac (dv 2) an)))) (s1 (sr (cf (nJ.mono (by decide)) hr T.bZ.m T.bZ.k T.bZ.b d0 (ac (dv 0) (ac (dv 1) (ac (dv 2) (ac (dv 3) an))))))))),?_⟩
 refine⟨_,rfl,a,_,rfl,h.ins,rfl,a,F,cs,dl,rs,rfl,hS,_,rfl,cs,ps,wy,rfl,hg,ho.tx,fun _=>?_,fun z=>by rw[ho.ok] at z;cases z⟩
 refine⟨_,rfl,a,_,rfl,h.ins,rfl,a,F,cs,dl,rs,rfl,hS,_,rfl,cs,d,rfl,hg,hd,?_⟩
 exact⟨_,rfl,_,rfl,_,rfl,_,rfl,a,cs,ps,wy,d,m,rows,rfl,hg,ho,hd,hv,ht,fun cJ p pm pw hp=>fo (q cJ p pm pw hp)⟩
theorem xf (T:Txt w K mg t):Ok P w base T.eU 8 (fun ds S R _=>∃ a cs d m rows,ds=[.ref a,d,m]∧Gd cs∧Sg cs 3 d∧Vw t.ag S a cs m rows∧R (.int ((rows.filter fun r=>aJ cs r 3 d).length:Nat)) S):=by
 have aL:jL P w mg base T.ar 1 _:=dZ T
 have gE:Ok P w base T.bB 6 _:=jD T
 have fS:Ok P w base T.bj 7 (AR t):=iO T
 refine T.eU.F.ok wM (by rintro ds S R Z ⟨_,_,_,_,_,e,_⟩;rw[e];rfl) ?_
 rintro bu A outer s H E ds S R Z hr ⟨a,cs,d,m,rows,e,hg,hd,hv,q⟩
 subst e
 obtain⟨F,dl,rs,hS,hn,Tw,Tx⟩:=hv.sh
 obtain⟨ld,lr,ra,h,_⟩:=id hS
 refine⟨_,(sc (se (cf (gE.mono (by decide)) hr T.bB.m T.bB.k T.bB.b d0 (ac (ub (dv 0) T.aq T.ar.e (aL.mono (by decide)) hr T.ar.b d0) (ac (dv 1) an)))) (s1 (sr (cb bH T.bx aV (ac (cf (fS.mono (by decide)) hr T.bj.m T.bj.k T.bj.b d0 (ac (dv 0) (ac (dv 1) (ac (dv 2) an)))) an))))),?_⟩
 refine⟨_,rfl,a,_,rfl,h.ins,rfl,a,F,cs,dl,rs,rfl,hS,_,rfl,cs,d,rfl,hg,hd,?_⟩
 refine⟨_,rfl,_,rfl,_,rfl,a,cs,d,m,rows,rfl,hg,hd,hv,fun p hp=>⟨_,rfl,.inl ⟨_,aa,S,.new hp,?_⟩⟩⟩
 rw[zb]
 exact q
def BX (z:Str):D→Bool
 | .tup [.tup (.str n :: _),_]=>decide (n=z)
 | _=>false
def RM:D→D
 | .tup [_,v]=>v
 | _=>.au
theorem xg:∀ {cs:List (Str×Str)}{ws:List D},z∈cs.map Prod.fst→ws.length=cs.length→(((cR (cs.map ay) ws).filter (BX z)).map RM)[0]?=some (ao cs ws z)
 | [],_,h,_=>by cases h
 | c :: cs,[],_,h=>by cases h
 | c :: cs,v :: ws,h,hl=>by
  have e0:cR ((c :: cs).map ay) (v :: ws)=.tup [ay c,v] :: cR (cs.map ay) ws:=rfl
  rw[e0]
  unfold ao Lh
  by_cases e:c.1=z
  ·rw[yo,if_pos (show BX z (.tup [ay c,v])=true from zu e),zB,zB,e,List.idxOf_cons_self]
   rfl
  ·have hz:z∈cs.map Prod.fst:=by
    rw[zB] at h
    rcases zf.mp h with h | h
    ·exact absurd h.symm e
    ·exact h
   have ih:=xg (ws:=ws) hz (by simpa using hl)
   unfold ao Lh at ih
   rw[yo,if_neg (by rw[show BX z (.tup [ay c,v])=false from zr e];exact zd),ih,zB,List.idxOf_cons,show (c.1 == z)=false by simpa using e]
   rfl
theorem xh (q:R (.bl (if neg then !(x == y) else (x == y))) S):Hw neg (.bl x) (.bl y) S R :=
 ⟨.bool x,.bool y,by simp only [Dl,Dp],by simp only [Dl,Dp],by simp only [PyData.canLay0],by simp only [PyData.canLay0],.inl (by simp only [PyData.depth];omega),by
  have e:PyData.eqv (.bool x) (.bool y)=(x == y):=by cases x <;> cases y <;> rfl
  rw[e];exact q⟩
theorem Lo (T:Txt w K mg t):Ok P w base T.nj 1 (fun ds S R _=>∃ cs r c,ds=[.tup (cs.map ay),aj r,.str c.1]∧Gd cs∧Wg cs r.2∧c∈cs∧R (ao cs r.2 c.1) S):=by
 refine T.nj.F.ok Jy (by rintro ds S R Z ⟨_,_,_,e,_⟩;rw[e];rfl) ?_
 rintro bu A outer s H E ds S R Z hr ⟨cs,r,c,e,hg,hw,hc,q⟩
 subst e
 have hlen:r.2.length=cs.length:=(yK hw).symm
 have gF:(cR (cs.map ay) r.2).length≤1000:=by unfold cR;rw[List.length_zipWith,zb];have:=hg.1;omega
 refine⟨_,(s1 (sr (ix hr.units (rM (N:=["_law_column", "_law_value_here", "_law_name"]) (src:=[none,none,some 2]) (kG (ae ur) ["_law_columns_here", "_law_row", "_law_name"] rfl rfl (by decide +kernel)) (X3 T.K6 (ac (dv 0) (ac (ix hr.units (dv 1) di) an))) (V1 (show (["_law_column", "_law_value_here", "_law_name"]:List Str).Nodup by decide +kernel)) (tX rfl rfl) uf (fun _ _ _ _ _=>(if1 (bK bc hr.units (ix hr.units (dv 0) di) (dv 2)))) (fun _ _ _ _ _=>(dv 1))) di))),?_⟩
 refine⟨_,rfl,_,rfl,_,rfl,cs.map ay,r.2,rfl,by rw[zb];exact hlen.symm,?_⟩
 refine dG (BX c.1) RM trivial gF (fun d hd Q Q' hQ AF=>?_) fun p hp=>?_
 ·have hd:d∈cR (cs.map ay) r.2:=hd
  unfold cR at hd
  obtain⟨i,ei⟩:=List.getElem?_of_mem hd
  obtain⟨x,y,e2,e3,e4⟩:=List.getElem?_zipWith_eq_some.mp ei
  subst e4
  rw[zp] at e2
  cases e5:cs[i]? with
  | none=>rw[e5] at e2;cases e2
  | some c' =>
   rw[e5] at e2
   cases e2
   exact⟨_,rfl,rfl,_,_,rfl,_,_,rfl,rfl,_,rfl,_,rfl,_,rfl,_,rfl,ck (fun h=>⟨_,rfl,hQ h⟩) (fun h=>AF h)⟩
 ·exact⟨_,_,aa,fj (xg (ze.mpr ⟨c,hc,rfl⟩) hlen),S,.new hp,q⟩
theorem DZ (T:Txt w K mg t):Ok P w base T.gQ 2 (fun ds S R _=>∃ cs ps wy a b,ds=[.tup (cs.map ay),qW ps wy,aj a,aj b]∧Gd cs∧Pin cs ps∧Wg cs a.2∧Wg cs b.2∧R (.bl (aZ cs wy ps a b)) S):=by
 have u7:Ok P w base T.nj 1 _:=Lo T
 refine T.gQ.F.ok dF (by rintro ds S R Z ⟨_,_,_,_,_,e,_⟩;rw[e];rfl) ?_
 rintro bu A outer s H E ds S R Z hr ⟨cs,ps,wy,a,b,e,hg,sj,ha,hb,q⟩
 subst e
 refine⟨_,(sc (CU (Hy (Hx (ix hr.units (dv 1) di)) (gt (n:=3) (gc (gn (i:=4) dF.nd) (gc (gn (i:=5) dF.nd) (gc (gn (i:=6) dF.nd) g0)))) (sc (eI (i:=7) dF.nd (cf (u7.mono (by decide)) hr T.nj.m T.nj.k T.nj.b d0 (ac (dv 0) (ac (dv 2) (ac (dv 4) an))))) (sc (eI (i:=8) dF.nd (cf (u7.mono (by decide)) hr T.nj.m T.nj.k T.nj.b d0 (ac (dv 0) (ac (dv 3) (ac (dv 4) an))))) (sc (si (bK j7 hr.units (cm mL hr.units (dv 7) dn) (cm mL hr.units (dv 8) dn)) (s1 (sr (cm bc hr.units (cm mL hr.units (dv 7) dn) (cm bc hr.units (dv 6) ds)))) s0) (s1 (si (bK j7 hr.units (dv 7) (dv 8)) (s1 (sr (cm bc hr.units (cm yS hr.units (dv 7) (dv 8)) (cm bc hr.units (dv 5) ds)))) s0))))))) (s1 (sr (cm bc hr.units (cm yS hr.units (ix hr.units (dv 2) di) (ix hr.units (dv 3) di)) (cm bc hr.units (ix hr.units (dv 1) di) ds))))),?_⟩
 refine⟨fun aK S'=>∃ (o4 o5 o6 o7 o8:Option D),aK=[some (.tup (cs.map ay)),some (qW ps wy),some (aj a),some (aj b),o4,o5,o6,o7,o8]∧S'=S∧aZ cs wy ps a b=aZ cs wy [] a b,?_,?_⟩
 ·refine⟨_,rfl,_,rfl,_,.inl rfl,?_⟩
  refine⟨fun i aK S'=>∃ (o4 o5 o6 o7 o8:Option D),aK=[some (.tup (cs.map ay)),some (qW ps wy),some (aj a),some (aj b),o4,o5,o6,o7,o8]∧S'=S∧aZ cs wy ps a b=aZ cs wy (ps.drop i) a b,⟨_,_,_,_,_,rfl,rfl,rfl⟩,fun _ _ _ _=>trivial,?_,?_⟩
  ·rintro i d aK S' hd ⟨o4,o5,o6,o7,o8,rfl,rfl,oz⟩
   have hd:(ps.map p3)[i]?=some d:=hd
   rw[zp] at hd
   cases e5:ps[i]? with
   | none=>rw[e5] at hd;cases hd
   | some p =>
    rw[e5] at hd
    cases hd
    obtain⟨c,hc,ec⟩:=sj p (zK e5)
    have hi:i<ps.length:=(zo.mp e5).1
    have edr:ps.drop i=p :: ps.drop (i+1):=by
     rw[List.drop_eq_getElem_cons hi]
     have:=(zo.mp e5).2
     rw[this]
    rw[edr] at oz
    have va:=(jZ hg ha hc).2
    have vb:=(jZ hg hb hc).2
    rw[ec] at va vb
    have oz:aZ cs wy ps a b=if qR (ao cs a.2 p.1) (ao cs b.2 p.1)=true then aZ cs wy (ps.drop (i+1)) a b else eY p (ao cs a.2 p.1) (ao cs b.2 p.1):=oz
    refine⟨_,rfl,rfl,_,_,rfl,_,_,rfl,_,_,rfl,rfl,?_⟩
    refine⟨_,rfl,_,rfl,_,rfl,cs,a,c,(show [D.tup (cs.map ay),aj a,D.str p.1]=[_,_,D.str c.1] by rw[ec]),hg,ha,hc,?_⟩
    refine⟨_,rfl,_,rfl,_,rfl,cs,b,c,(show [D.tup (cs.map ay),aj b,D.str p.1]=[_,_,D.str c.1] by rw[ec]),hg,hb,hc,?_⟩
    rw[ec]
    refine⟨_,rfl,_,rfl,?_⟩
    dsimp only [dC,XU]
    refine xh ⟨_,rfl,ck (fun h=>?_) (fun h=>?_)⟩
    ·have h:(!(ah (ao cs a.2 p.1) == ah (ao cs b.2 p.1)))=true:=h
     have DK:ah (ao cs a.2 p.1)≠ah (ao cs b.2 p.1):=fun e=>by rw[e] at h;simp at h
     rw[oz,AN DK,if_neg zd] at q
     unfold eY at q
     rw[if_pos (show (ah (ao cs a.2 p.1) != ah (ao cs b.2 p.1))=true from h)] at q
     refine⟨_,rfl,_,rfl,?_⟩
     show Hw false (.bl (ah (ao cs a.2 p.1))) (.bl (decide (p.2.2 = "first"))) _ _
     exact xh (fo q)
    ·have h:(!(ah (ao cs a.2 p.1) == ah (ao cs b.2 p.1)))=false:=h
     have heq:ah (ao cs a.2 p.1)=ah (ao cs b.2 p.1):=by simpa using h
     refine⟨_,rfl,_,rfl,qS va.2 vb.2 ⟨_,rfl,ck (fun h2=>?_) (fun h2=>?_)⟩⟩
     ·have h2:qR (ao cs a.2 p.1) (ao cs b.2 p.1)=false:=nt h2
      rw[oz,h2,if_neg zd] at q
      unfold eY at q
      rw[if_neg (show ¬ (ah (ao cs a.2 p.1) != ah (ao cs b.2 p.1))=true by rw[heq];simp)] at q
      have na:ao cs a.2 p.1≠.au:=fun e=>by
       have e2:ao cs b.2 p.1=.au:=fe (by rw[← heq,e];rfl)
       rw[e,e2] at h2;cases h2
      have nb:ao cs b.2 p.1≠.au:=fun e=>na (fe (by rw[heq,e];rfl))
      refine⟨_,rfl,_,rfl,?_⟩
      rcases nF va vb na nb with ⟨i',j',e6,e7⟩ | ⟨i',j',e6,e7⟩
      ·rw[e6,e7] at q ⊢
       exact⟨_,rfl,xh (fo q)⟩
      ·rw[e6,e7] at q ⊢
       exact⟨_,rfl,xh (fo q)⟩
     ·have h2:qR (ao cs a.2 p.1) (ao cs b.2 p.1)=true:=nf h2
      rw[h2,if_pos rfl] at oz
      exact⟨_,_,_,_,_,rfl,rfl,oz⟩
  ·rintro aK S' ⟨o4,o5,o6,o7,o8,rfl,rfl,oz⟩
   have oz:aZ cs wy ps a b=aZ cs wy (ps.drop (ps.map p3).length) a b:=oz
   rw[zb,List.drop_length] at oz
   exact fo ⟨o4,o5,o6,o7,o8,rfl,rfl,oz⟩
 ·rintro aK S' ⟨o4,o5,o6,o7,o8,rfl,rfl,oz⟩
  rw[oz] at q
  exact⟨_,rfl,_,rfl,_,rfl,_,rfl,_,rfl,_,rfl,xh (fo q)⟩
def Lp (cs:List (Str×Str)) (wy:Str) (ps:List Part) (x:Row):D→Bool
 | .tup [.str k,.tup ws]=>aZ cs wy ps (k,ws) x
 | _=>false
def G6:gG:=fun ds S R _=>∃ (cs:List (Str×Str)) (ps:List Part) (wy:Str) (l:Addr) (rs:List Row),ds=[.tup (cs.map ay),qW ps wy,.ref l]∧Gd cs∧Pin cs ps∧S l=some (.lst (rs.map aj))∧rs.length<64∧Rg cs rs ∧
 ∀ (cJ:List Row) (a:Addr),cJ.Perm rs→(cJ.Pairwise fun a b=>aZ cs wy ps a b=true)→S a=none→R (.ref a) (S.set a (.lst (cJ.map aj)))
theorem D0 (T:Txt w K mg t):Ok P w base T.dQ 3 G6:=by
 have AU:Ok P w base T.gQ 2 _:=DZ T
 refine T.dQ.F.ok gp (by rintro ds S R Z ⟨_,_,_,_,_,e,_⟩;rw[e];rfl) ?_
 rintro bu A outer s H E ds S R Z hr ⟨cs,ps,wy,l,rs,e,hg,sj,hl,hn,jX,q⟩
 subst e
 refine⟨_,(sc (eI (i:=3) gp.nd (dI an)) (sc (CU (Hy (il (dv 2)) (gn (i:=4) gp.nd) (sc (eI (i:=5) gp.nd (cb bH T.bx aV (ac (rM (N:=["_law_one", "_law_columns_here", "_law_order_here", "_law_row"]) (src:=[none,some 0,some 1,some 4]) (kG (ae ig) ["_law_columns_here", "_law_order_here", "_law_rows", "_law_found", "_law_row", "_law_many_here"] rfl rfl (by decide +kernel)) (il (dv 3)) (oZ (show (["_law_one", "_law_columns_here", "_law_order_here", "_law_row"]:List Str).Nodup by decide +kernel)) (a_ rfl) ba (fun _ _ _ _ _=>(if1 (tv (cf (AU.mono (by decide)) hr T.gQ.m T.gQ.k T.gQ.b d0 (ac (dv 1) (ac (dv 2) (ac (dv 0) (ac (dv 3) an)))))))) (fun _ _ _ _ _=>(dv 0))) an))) (s1 (se (bm zJ PySem.F.slot_list_insert PySem.F.type_list_insert FK (dv 3) (ac (dv 5) (ac (dv 4) an)))))))) (s1 (sr (dv 3))))),?_⟩
 refine⟨uO,fun f hf=>?_⟩
 refine⟨fun aK S'=>∃ (o4 o5:Option D) (F:List Row),aK=[some (.tup (cs.map ay)),some (qW ps wy),some (.ref l),some (.ref f),o4,o5]∧S' f=some (.lst (F.map aj))∧Sub S S'∧F.Perm rs∧F.Pairwise fun a b=>aZ cs wy ps a b=true,?_,?_⟩
 ·refine⟨_,rfl,_,(af (gL hl hf)).trans hl,?_⟩
  refine⟨fun i aK S'=>∃ (o4 o5:Option D) (F:List Row),aK=[some (.tup (cs.map ay)),some (qW ps wy),some (.ref l),some (.ref f),o4,o5]∧S' f=some (.lst (F.map aj))∧Sub S S'∧F.Perm (rs.take i)∧F.Pairwise fun a b=>aZ cs wy ps a b=true,⟨none,none,[],rfl,aa,.new hf,.refl _,.nil⟩,?_,?_,?_⟩
  ·rintro i aK S' ⟨o4,o5,F,rfl,hF,sb,_⟩
   exact sb _ _ hl
  ·rintro i d aK S' hd ⟨o4,o5,F,rfl,hF,sb,pm,pw⟩
   have hd:(rs.map aj)[i]?=some d:=hd
   rw[zp] at hd
   cases e5:rs[i]? with
   | none=>rw[e5] at hd;cases hd
   | some x =>
    rw[e5] at hd
    cases hd
    have hx:=zK e5
    have ht:rs.take (i+1)=rs.take i++[x]:=take_snoc e5
    have Yx:Rg cs (x :: F):=by
     refine (jX.sub (List.take_sublist (i+1) rs)).perm ?_
     rw[ht]
     exact (pm.cons x).trans (List.perm_append_comm (l₁:=[x]) (l₂:=rs.take i))
    have hFl:F.length≤rs.length:=by rw[pm.length_eq];exact List.length_take_le' _ _
    refine⟨_,rfl,_,hF,?_⟩
    refine dG (Lp cs wy ps x) id hF (by show (F.map aj).length≤1000;rw[zb];omega) (fun d hd Q Q' hQ AF=>?_) fun p hp=>?_
    ·obtain⟨y,hy,rfl⟩:=ze.mp hd
     refine⟨_,rfl,_,rfl,_,rfl,_,rfl,cs,ps,wy,y,x,rfl,hg,sj,Yx.1 y (zh _ hy),jX.1 x hx,_,rfl,ck (fun h=>⟨_,rfl,hQ h⟩) (fun h=>AF h)⟩
    ·have e1:((F.map aj).filter (Lp cs wy ps x)).map id=(F.filter fun y=>aZ cs wy ps y x).map aj:=fF fun r=>rfl
     rw[show (⟨F.map aj,fun S=>sP S (.ref f) (F.map aj)⟩:yX).xs=F.map aj from rfl,e1]
     have HD:(S'.set p (.lst ((F.filter fun y=>aZ cs wy ps y x).map aj))) f=some (.lst (F.map aj)):=(af (gL hF hp)).trans hF
     have xp:Sub S (S'.set p (.lst ((F.filter fun y=>aZ cs wy ps y x).map aj))):=sb.trans (.new hp)
     have RN:(S'.set p (.lst ((F.filter fun y=>aZ cs wy ps y x).map aj))) p=_:=aa
     generalize S'.set p (.lst ((F.filter fun y=>aZ cs wy ps y x).map aj))=S2 at HD xp RN ⊢
     refine⟨_,rfl,.inl ⟨_,RN,?_⟩⟩
     rw[zb]
     have fl:(F.filter fun y=>aZ cs wy ps y x).length≤F.length:=yk _ _
     have Yy:(F.map aj).length=F.length:=zb _
     refine⟨_,rfl,⟨rfl,_,HD⟩,_,rfl,_,rfl,f,_,aj x,_,rfl,rfl,HD,by rw[Yy];exact fl,by rw[Yy];omega,?_⟩
     refine⟨_,_,F.take (F.filter fun y=>aZ cs wy ps y x).length++x :: F.drop (F.filter fun y=>aZ cs wy ps y x).length,rfl,?_,fun b c hb=>(af (gL hb hf)).trans (xp b c hb),?_,xb hg sj Yx pw⟩
     ·rw[aa,zD,zB,List.map_take,List.map_drop]
     ·rw[ht]
      exact (GW x F _).trans (pm.append_right [x])
  ·rintro aK S' ⟨o4,o5,F,rfl,hF,sb,pm,pw⟩
   have pm:F.Perm (rs.take (rs.map aj).length):=pm
   rw[zb,yB] at pm
   exact fo ⟨o4,o5,F,rfl,hF,sb,pm,pw⟩
 ·rintro aK S' ⟨o4,o5,F,rfl,hF,sb,pm,pw⟩
  refine⟨_,rfl,S.set f (.lst (F.map aj)),fun b c hb=>?_,q F f pm pw hf⟩
  by_cases e:b=f
  ·subst e;rw[aa] at hb;cases hb;exact hF
  ·rw[af e] at hb;exact sb b c hb
theorem AV (x:Str) (n:Nat):(PySem.Txt.slice x none (some (n:Int))).cps.toList=x.cps.toList.take n:=by
 have e1:PySem.Builtin.Str.strSliceIndices none (some (n:Int)) 1 x.length=PySem.Builtin.Str.strSliceIndices (some ((0:Nat):Int)) (some ((min n x.length:Nat):Int)) 1 x.length:=by
  unfold PySem.Builtin.Str.strSliceIndices
  have h1:((1:Int)>0)=True:=by simp
  simp only [h1,if_true]
  have a1:¬ ((n:Int)<0):=by omega
  have a2:¬ (((min n x.length:Nat):Int)<0):=by omega
  have a3:¬ (((0:Nat):Int)<0):=by omega
  simp only [a1,a2,a3,if_false]
  have b1:max 0 (min ((0:Nat):Int) (x.length:Int))=0:=by omega
  have b2:max 0 (min (n:Int) (x.length:Int))=max 0 (min ((min n x.length:Nat):Int) (x.length:Int)):=by omega
  rw[b1,b2]
 have e2:(PySem.Builtin.Str.strSliceIndices none (some (n:Int)) 1 x.length).filterMap (x.cps[·]?)=x.cps.toList.take n:=by
  rw[e1,StrLaws.sliced_plain x (ya _) (Nat.min_le_right _ _),List.drop_zero,Nat.sub_zero]
  by_cases h:n≤x.length
  ·rw[Nat.min_eq_left h]
  ·have hl:x.cps.toList.length=x.length:=zO
   rw[Nat.min_eq_right (by omega),List.take_of_length_le (by omega),List.take_of_length_le (by omega)]
 unfold PySem.Txt.slice
 split
 ·next h =>
  simp only [zL,beq_iff_eq] at h
  rw[e1,StrLaws.strSliceIndices_plain (ya _) (Nat.min_le_right _ _),zb,List.length_range] at h
  have hl:x.cps.toList.length=x.length:=zO
  rw[List.take_of_length_le (by omega)]
 ·rw[e2]
theorem u9 (x y:Str):decide (PySem.Txt.slice x none (some ((y.length:Nat):Int))=y)=PySem.Txt.startswith x y:=by
 unfold PySem.Txt.startswith
 rw[StrLaws.subAt_eq,List.drop_zero,Nat.zero_add,yn]
 simp only [decide_eq_true_iff,zL,beq_iff_eq]
 have hs:=AV x y.length
 constructor
 ·intro h
  rw[h] at hs
  have hl:x.cps.toList.length=x.length:=zO
  have Bg:y.cps.toList.length=y.length:=zO
  refine⟨?_,hs.symm⟩
  have:=congrArg List.length hs
  rw[ye] at this
  omega
 ·rintro⟨_,h⟩
  rw[h] at hs
  obtain⟨a⟩:=y
  generalize hz:PySem.Txt.slice x none _=z at hs ⊢
  obtain⟨b⟩:=z
  exact congrArg Str.mk (Array.ext' hs)
theorem JT (bs:List Bool):tT (.bl true) ((bs.map D.bl).map j8)=bs.any id:=by
 unfold tT
 rw[List.any_map,List.any_map]
 refine congrArg (fun f=>List.any bs f) (funext fun b=>?_)
 cases b <;> rfl
theorem G7 (bs:List Bool):(!tT (.bl false) ((bs.map D.bl).map j8))=bs.all id:=by
 unfold tT
 rw[List.any_map,List.any_map,List.not_any_eq_all_not]
 refine congrArg (fun f=>List.all bs f) (funext fun b=>?_)
 cases b <;> rfl
theorem qY (T:Txt w K mg t):∀ n,Ok P w base T.bp (3+n) (nG n)
 | 0=>by
  refine T.bp.F.ok (k:=2) eW (by rintro ds S R Z ⟨_,_,_,e,_⟩;exact by rw[e];rfl) (by rintro bu A outer s H E ds S R Z hr ⟨cs,d,r,e,hg,hs,_⟩;exact hs.elim)
 | n+1=>by
  have fT:Ok P w base T.bp (3+n) (nG n):=qY T n
  have u7:Ok P w base T.nj 1 _:=Lo T
  refine T.bp.F.ok (k:=3+n) eW (by rintro ds S R Z ⟨_,_,_,e,_⟩;rw[e];rfl) ?_
  rintro bu A outer s H E ds S R Z hr ⟨cs,d,r,e,hg,hs,hw,q⟩
  subst e
  refine⟨_,(sc (eI (i:=3) eW.nd (ix hr.units (dv 1) di)) (sc (si (bK bc hr.units (dv 3) ds) (s1 (sr db)) s0) (sc (si (bK bc hr.units (dv 3) ds) (s1 (sr (cm vN hr.units (ix hr.units (dv 2) di) (ix hr.units (dv 1) di)))) s0) (sc (si (bK bc hr.units (dv 3) ds) (s1 (sr (M_ (cf (fT.mono (by omega)) hr T.bp.m T.bp.k T.bp.b d0 (ac (dv 0) (ac (ix hr.units (dv 1) di) (ac (dv 2) an))))))) s0) (sc (si (twd (twor (bK bc hr.units (dv 3) ds) (tw1 (bK bc hr.units (dv 3) ds)))) (sc (OR (i:=4) (N:=["_law_one", "_law_columns_here", "_law_row"]) (src:=[none,some 0,some 2]) eW.nd (kG (ae ij) ["_law_columns_here", "_law_sieve_here", "_law_row", "_law_word", "_law_some", "_law_value_here"] rfl rfl (by decide +kernel)) (Hx (ix hr.units (dv 1) di)) (oZ (show (["_law_one", "_law_columns_here", "_law_row"]:List Str).Nodup by decide +kernel)) (a_ rfl) ba (fun _ _ _ _ _=>ud) (fun _ _ _ _ _=>(cf (fT.mono (by omega)) hr T.bp.m T.bp.k T.bp.b d0 (ac (dv 1) (ac (dv 0) (ac (dv 2) an)))))) (s1 (sr (CV (ix hr.units (dI (ac (cm vN hr.units db (dv 4)) (ac (cm QB hr.units db (dv 4)) an))) (ct vO T.s9 mJ (ac (cm bc hr.units (dv 3) ds) an))))))) s0) (sc (eI (i:=5) eW.nd (cf (u7.mono (by omega)) hr T.nj.m T.nj.k T.nj.b d0 (ac (dv 0) (ac (dv 2) (ac (ix hr.units (dv 1) di) an))))) (sc (si (twd (twor (bK bc hr.units (dv 3) ds) (tw1 (bK mL hr.units (dv 5) dn)))) (s1 (sr (rL (cm bc hr.units (dv 3) ds) (Hv (cm bc hr.units (dv 5) (ix hr.units (dv 1) di)))))) s0) (sc (si (bK bc hr.units (dv 3) ds) (s1 (sr (cm bc hr.units (sl (dv 5) o0 (o1 (cb bH T.bx aV (ac (ix hr.units (dv 1) di) an)))) (ix hr.units (dv 1) di)))) s0) (s1 (sr (CV (ix hr.units (dI (ac (cm oy hr.units (dv 5) (ix hr.units (dv 1) di)) (ac (cm yS hr.units (dv 5) (ix hr.units (dv 1) di)) an))) (ct vO T.s9 mJ (ac (cm bc hr.units (dv 3) ds) an)))))))))))))),?_⟩
  rcases hs with (rfl | ⟨ks,rfl,WR,xr⟩ | ⟨o,c,v,hc,hv,ho,rfl⟩) | ⟨e,rfl,he⟩ | ⟨o,es,ho,rfl,Lg,OH⟩
  ·exact⟨_,rfl,_,rfl,_,rfl,_,rfl,lH (by decide +kernel) (fo q)⟩
  ·refine⟨_,rfl,_,rfl,_,rfl,_,rfl,aX (by decide +kernel) ?_⟩
   refine⟨_,rfl,_,rfl,lH (by decide +kernel) ⟨_,rfl,_,rfl,_,rfl,_,rfl,rfl,?_,?_⟩⟩
   ·rw[List.all_map];exact zZ.mpr fun _ _=>rfl
   ·rw[w9] at q
    exact fo q
  ·rw[Li] at q
   obtain⟨_,O8⟩:=jZ hg hw hc
   unfold tD at q
   rcases ho with rfl | ⟨nb,rfl | rfl | ⟨rfl,hk⟩⟩
   ·rw[if_pos rfl] at q
    refine⟨_,rfl,_,rfl,_,rfl,_,rfl,aX (by decide +kernel) ⟨_,rfl,_,rfl,aX (by decide +kernel) ⟨_,rfl,_,rfl,aX (by decide +kernel) ⟨_,rfl,_,rfl,aX (by decide +kernel) ⟨_,rfl,_,rfl,aX (by decide +kernel) ⟨_,rfl,_,rfl,_,rfl,_,rfl,cs,r,c,rfl,hg,hw,hc,?_⟩⟩⟩⟩⟩⟩
    exact⟨_,rfl,_,rfl,lH (by decide +kernel) ⟨_,rfl,_,rfl,lH (by decide +kernel) ⟨_,rfl,_,rfl,_,rfl,qS O8.2 hv.2 (fo q)⟩⟩⟩
   ·rw[if_neg (by decide +kernel)] at q
    refine⟨_,rfl,_,rfl,_,rfl,_,rfl,aX (by decide +kernel) ⟨_,rfl,_,rfl,aX (by decide +kernel) ⟨_,rfl,_,rfl,aX (by decide +kernel) ⟨_,rfl,_,rfl,aX (by decide +kernel) ⟨_,rfl,_,rfl,aX (by decide +kernel) ⟨_,rfl,_,rfl,_,rfl,_,rfl,cs,r,c,rfl,hg,hw,hc,?_⟩⟩⟩⟩⟩⟩
    refine⟨_,rfl,_,rfl,aX (by decide +kernel) ⟨_,rfl,_,rfl,ck (fun h=>?_) (fun h=>?_)⟩⟩
    ·rw[if_pos h] at q
     exact⟨_,rfl,_,rfl,aX (by decide +kernel) (fo q)⟩
    ·rw[if_neg (by rw[show ah (ao cs r.2 c.1)=false from h];exact zd),if_pos rfl] at q
     refine⟨_,rfl,_,rfl,aX (by decide +kernel) ?_⟩
     rcases nF O8 hv (bq h) nb with ⟨i,j,e6,rfl⟩ | ⟨i,j,e6,rfl⟩
     ·rw[e6] at q ⊢
      exact⟨_,rfl,_,rfl,_,rfl,_,rfl,_,rfl,_,rfl,cD,fun p hp=>⟨_,rfl,.inr ⟨_,rfl,_,_,aa,(show lK _ 1=some _ from rfl),_,.new hp,fo q⟩⟩⟩
     ·rw[e6] at q ⊢
      exact⟨_,rfl,_,rfl,_,rfl,_,rfl,_,rfl,_,rfl,cD,fun p hp=>⟨_,rfl,.inr ⟨_,rfl,_,_,aa,(show lK _ 1=some _ from rfl),_,.new hp,fo q⟩⟩⟩
   ·rw[if_neg (by decide +kernel)] at q
    refine⟨_,rfl,_,rfl,_,rfl,_,rfl,aX (by decide +kernel) ⟨_,rfl,_,rfl,aX (by decide +kernel) ⟨_,rfl,_,rfl,aX (by decide +kernel) ⟨_,rfl,_,rfl,aX (by decide +kernel) ⟨_,rfl,_,rfl,aX (by decide +kernel) ⟨_,rfl,_,rfl,_,rfl,_,rfl,cs,r,c,rfl,hg,hw,hc,?_⟩⟩⟩⟩⟩⟩
    refine⟨_,rfl,_,rfl,aX (by decide +kernel) ⟨_,rfl,_,rfl,ck (fun h=>?_) (fun h=>?_)⟩⟩
    ·rw[if_pos h] at q
     exact⟨_,rfl,_,rfl,aX (by decide +kernel) (fo q)⟩
    ·rw[if_neg (by rw[show ah (ao cs r.2 c.1)=false from h];exact zd),if_neg (by decide +kernel),if_pos rfl] at q
     refine⟨_,rfl,_,rfl,aX (by decide +kernel) ?_⟩
     rcases nF O8 hv (bq h) nb with ⟨i,j,e6,rfl⟩ | ⟨i,j,e6,rfl⟩
     ·rw[e6] at q ⊢
      exact⟨_,rfl,_,rfl,_,rfl,_,rfl,_,rfl,_,rfl,cD,fun p hp=>⟨_,rfl,.inr ⟨_,rfl,_,_,aa,(show lK _ 0=some _ from rfl),_,.new hp,fo q⟩⟩⟩
     ·rw[e6] at q ⊢
      exact⟨_,rfl,_,rfl,_,rfl,_,rfl,_,rfl,_,rfl,cD,fun p hp=>⟨_,rfl,.inr ⟨_,rfl,_,_,aa,(show lK _ 0=some _ from rfl),_,.new hp,fo q⟩⟩⟩
   ·rw[if_neg (by decide +kernel)] at q
    refine⟨_,rfl,_,rfl,_,rfl,_,rfl,aX (by decide +kernel) ⟨_,rfl,_,rfl,aX (by decide +kernel) ⟨_,rfl,_,rfl,aX (by decide +kernel) ⟨_,rfl,_,rfl,aX (by decide +kernel) ⟨_,rfl,_,rfl,aX (by decide +kernel) ⟨_,rfl,_,rfl,_,rfl,_,rfl,cs,r,c,rfl,hg,hw,hc,?_⟩⟩⟩⟩⟩⟩
    refine⟨_,rfl,_,rfl,aX (by decide +kernel) ⟨_,rfl,_,rfl,ck (fun h=>?_) (fun h=>?_)⟩⟩
    ·rw[if_pos h] at q
     exact⟨_,rfl,_,rfl,aX (by decide +kernel) (fo q)⟩
    ·rw[if_neg (by rw[show ah (ao cs r.2 c.1)=false from h];exact zd),if_neg (by decide +kernel),if_neg (by decide +kernel)] at q
     have hz:∀ z,ao cs r.2 c.1=.str z→z.length≤sizeLine:=fun z e=>sm ((GQ O8 (S:=S)).2 z e)
     have EZ:∀ z,v=.str z→z.length≤sizeLine:=fun z e=>sm ((GQ hv (S:=S)).2 z e)
     rw[hk] at O8 hv
     obtain⟨i,e6⟩:=o_ O8 (bq h)
     obtain⟨j,rfl⟩:=o_ hv nb
     have hz:=hz i e6
     have EZ:=EZ j rfl
     rw[e6] at q ⊢
     refine⟨_,rfl,_,rfl,lH (by decide +kernel) ⟨_,rfl,_,rfl,_,rfl,_,rfl,EZ,_,rfl,hz,_,rfl,_,rfl,?_⟩⟩
     show Fo S (R (.bl (decide (PySem.Txt.slice i none (some ((j.length:Nat):Int))=j))))
     rw[u9]
     exact fo q
  ·rw[w_] at q
   exact⟨_,rfl,_,rfl,_,rfl,_,rfl,aX (by decide +kernel) ⟨_,rfl,_,rfl,aX (by decide +kernel) ⟨_,rfl,_,rfl,lH (by decide +kernel) ⟨_,rfl,_,rfl,_,rfl,_,rfl,cs,e,r,rfl,hg,he,hw,_,rfl,fo q⟩⟩⟩⟩
  ·have hz:es.length≤1000:=by omega
   rcases ho with rfl | rfl
   ·rw[xa] at q
    refine⟨_,rfl,_,rfl,_,rfl,_,rfl,aX (by decide +kernel) ⟨_,rfl,_,rfl,aX (by decide +kernel) ⟨_,rfl,_,rfl,aX (by decide +kernel) ⟨_,rfl,_,rfl,lH (by decide +kernel) ⟨_,rfl,_,rfl,_,.inl rfl,?_⟩⟩⟩⟩⟩
    refine comp_map (fun d=>.bl (aJ cs r n d)) trivial hz (fun d hd Q hQ=>⟨_,rfl,_,rfl,_,rfl,cs,d,r,rfl,hg,OH d hd,hw,hQ⟩) fun p hp=>?_
    have em:es.map (fun d=>D.bl (aJ cs r n d))=(es.map (aJ cs r n)).map D.bl:=by rw[zt];rfl
    rw[show (⟨es,fun _=>True⟩:yX).xs=es from rfl,em]
    have NJ:(S.set p (.lst ((es.map (aJ cs r n)).map D.bl))) p=_:=aa
    have Ej:((es.map (aJ cs r n)).map D.bl).all iJ=true:=by rw[List.all_map];exact zZ.mpr fun _ _=>rfl
    refine⟨_,rfl,.inl ⟨_,NJ,rfl,Ej,_,rfl,.inl ⟨_,NJ,rfl,Ej,cD,fun p2 iD=>⟨_,rfl,.inr ⟨_,rfl,_,_,aa,(show lK _ 1=some _ from rfl),S,(Sub.new hp).trans (.new iD),?_⟩⟩⟩⟩⟩
    refine fo ?_
    show R (.bl (!tT (.bl false) (((es.map (aJ cs r n)).map D.bl).map j8))) S
    rw[G7,all_map]
    exact q
   ·rw[BS] at q
    refine⟨_,rfl,_,rfl,_,rfl,_,rfl,aX (by decide +kernel) ⟨_,rfl,_,rfl,aX (by decide +kernel) ⟨_,rfl,_,rfl,aX (by decide +kernel) ⟨_,rfl,_,rfl,aX (by decide +kernel) ⟨_,rfl,_,rfl,lH (by decide +kernel) ⟨_,rfl,_,rfl,_,.inl rfl,?_⟩⟩⟩⟩⟩⟩
    refine comp_map (fun d=>.bl (aJ cs r n d)) trivial hz (fun d hd Q hQ=>⟨_,rfl,_,rfl,_,rfl,cs,d,r,rfl,hg,OH d hd,hw,hQ⟩) fun p hp=>?_
    have em:es.map (fun d=>D.bl (aJ cs r n d))=(es.map (aJ cs r n)).map D.bl:=by rw[zt];rfl
    rw[show (⟨es,fun _=>True⟩:yX).xs=es from rfl,em]
    have NJ:(S.set p (.lst ((es.map (aJ cs r n)).map D.bl))) p=_:=aa
    have Ej:((es.map (aJ cs r n)).map D.bl).all iJ=true:=by rw[List.all_map];exact zZ.mpr fun _ _=>rfl
    refine⟨_,rfl,.inl ⟨_,NJ,rfl,Ej,_,rfl,.inl ⟨_,NJ,rfl,Ej,cD,fun p2 iD=>⟨_,rfl,.inr ⟨_,rfl,_,_,aa,(show lK _ 0=some _ from rfl),S,(Sub.new hp).trans (.new iD),?_⟩⟩⟩⟩⟩
    refine fo ?_
    show R (.bl (tT (.bl true) (((es.map (aJ cs r n)).map D.bl).map j8))) S
    rw[JT,List.any_map]
    exact q
theorem kd_sub (h:Sub S S') (hk:Nb S d k):Nb S' d k:=by
 cases d with
 | ref a =>
  rcases hk with ⟨e,ds,q⟩ | ⟨e,ds,q⟩
  ·exact .inl ⟨e,ds,h _ _ q⟩
  ·exact .inr ⟨e,ds,h _ _ q⟩
 | _=>exact hk
theorem Gt.sub (h:Sub S S') (g:Gt S d):Gt S' d:=⟨by obtain⟨k,hk⟩:=g.1;exact⟨k,kd_sub h hk⟩,g.2⟩
theorem N1:Gt S (.tup ws):=⟨⟨.tup,rfl⟩,fun _=>nofun⟩
theorem JU (h:ws.length≤1000) (g:∀ v∈ws,Gt S v):K7 S (.tup ws):=⟨N1,fun Lb e=>by cases e;exact⟨h,g⟩⟩
theorem gt_int:Gt S (.int i):=⟨⟨.int,rfl⟩,fun _=>nofun⟩
theorem BY (h:z.cps.size≤1000):Gt S (.str z):=⟨⟨.str,rfl⟩,fun z' e=>by cases e;exact h⟩
theorem G8 (h:fP d=true):Gt S d:=by
 cases d with
 | au=>exact uS
 | int i=>exact gt_int
 | str z =>
  have h:(decide (z.cps.size≤40) && PyData.strOk z)=true:=h
  rw[zL] at h
  have:=zE h.1
  exact BY (by omega)
 | _=>cases h
theorem qZ:∀ {cs:List (Str×Str)}{ws:List D},Paired rel cs ws→ws.length=cs.length
 | _,_,.nil=>rfl
 | _,_,.cons _ t=>by rw[zM,zM,qZ t]
theorem Wg.len (h:Wg cs ws):ws.length=cs.length:=qZ h
theorem Wg.N2 (h:Wg cs ws):me cs (.tup ws)=true:=by
 show (decide (ws.length=cs.length) && (List.zipWith (fun c v=>jw c.2 v) cs ws).all id)=true
 rw[zu h.len,zW]
 unfold Wg at h
 induction h with
 | nil=>rfl
 | cons r t ih =>
  rw[List.zipWith_cons_cons,List.all_cons,ih]
  show (id (jw _ _) && true)=true
  rw[show id (jw _ _)=true from r.1];rfl
theorem Wg.Yz (h:Wg cs ws) (hc:cs.length≤8):K7 S (.tup ws):=JU (by rw[h.len];omega) fun v hv=>G8 (h.all v hv)
theorem JV (hg:Gd cs) (hN:∀ c∈cs,c.1∈BQ):∀ d∈cs.map ay,Ly S 60 d:=fun d hd=>by
 obtain⟨c,hc,rfl⟩:=ze.mp hd
 refine (Ly.tup (n:=0) fun x hx=>?_).le (by decide)
 have hx:x∈[D.str c.1,D.str c.2]:=hx
 simp only [zf,zF,or_false] at hx
 rcases hx with rfl | rfl
 ·exact Ly.str (GB _ (hN c hc)).2
 ·rcases (hg.2.2 c hc).2 with e | e <;> rw[e] <;> exact Ly.str (by decide +kernel)
theorem JW {n a b tn:Nat} (ha:a<n) (hb:b<n) (h:(a+tn) % n=(b+tn) % n):a=b:=by
 rcases Nat.lt_trichotomy a b with l | l | l
 ·have:=Nat.sub_mod_eq_zero_of_mod_eq h.symm
  rw[show b+tn - (a+tn)=b - a by omega,Nat.mod_eq_of_lt (by omega)] at this
  omega
 ·exact l
 ·have:=Nat.sub_mod_eq_zero_of_mod_eq h
  rw[show a+tn - (b+tn)=a - b by omega,Nat.mod_eq_of_lt (by omega)] at this
  omega
def q8 (cs:List (Str×Str)) (tn k:Nat):Str:=(cs.getD ((k+tn) % cs.length) ("", "")).1
theorem xi (h:0<cs.length):∃ c∈cs,cs[(k+tn) % cs.length]?=some c∧c.1=q8 cs tn k:=by
 have fu:(k+tn) % cs.length<cs.length:=Nat.mod_lt _ h
 refine⟨cs[(k+tn) % cs.length],List.getElem_mem fu,zg fu,?_⟩
 unfold q8
 rw[zC,zg fu];rfl
theorem xj {cs:List (Str×Str)} (hg:(cs.map Prod.fst).Nodup) {tn i:Nat} (hi:i≤cs.length):((List.range i).map (q8 cs tn)).Nodup:=by
 refine List.pairwise_map.mpr (List.nodup_range.imp_of_mem fun {a b} ha hb n e=>n ?_)
 have ha:=zS.mp ha
 have hb:=zS.mp hb
 have h0:0<cs.length:=by omega
 have la:(a+tn) % cs.length<cs.length:=Nat.mod_lt _ h0
 have lb:(b+tn) % cs.length<cs.length:=Nat.mod_lt _ h0
 unfold q8 at e
 rw[zC,zg la,zC,zg lb] at e
 have e:(cs[(a+tn) % cs.length]).1=(cs[(b+tn) % cs.length]).1:=e
 have e2:(cs.map Prod.fst)[(a+tn) % cs.length]'(by rw[zb];exact la)=(cs.map Prod.fst)[(b+tn) % cs.length]'(by rw[zb];exact lb):=by
  rw[List.getElem_map,List.getElem_map];exact e
 exact JW (n:=cs.length) (by omega) (by omega) ((List.getElem_inj hg).mp e2)
theorem G9 (T:Txt w K mg t):Ok P w base T.jR 2 (fun ds S R _=>∃ l cs,ds=[.ref l,.tup (cs.map ay)]∧Gd cs∧S l=some .well∧∀ (ps:List Part) (wy:Str),Og cs ps wy→R (qW ps wy) S):=by
 have aD:Ok P w base T.ak 1 iz:=og T
 refine T.jR.F.ok fM (by rintro ds S R Z ⟨_,_,e,_⟩;rw[e];rfl) ?_
 rintro bu A outer s H E ds S R Z hr ⟨l,cs,e,hg,hw,q⟩
 subst e
 have h8:=hg.1
 have Cz:(cs.map ay).length=cs.length:=zb _
 refine⟨_,(sc (eI (i:=2) fM.nd (cf (aD.mono (by decide)) hr T.ak.m T.ak.k T.ak.b d0 (ac (dv 0) (ac di an)))) (sc (eI (i:=3) fM.nd (dI an)) (sc (CU (Hy (OQ T.jT (ac (cb QJ T.Rx M6 (ac (cb bH T.bx aV (ac (dv 1) an)) (ac (CV (ix hr.units (dI (ac di (ac di (ac di (ac di an))))) (cf (aD.mono (by decide)) hr T.ak.m T.ak.k T.ak.b d0 (ac (dv 0) (ac di an))))) an))) an)) (gn (i:=4) fM.nd) (sc (eI (i:=5) fM.nd (ix hr.units (ix hr.units (dv 1) (bo ku hr.units (bo eF hr.units (dv 4) (dv 2)) (cb bH T.bx aV (ac (dv 1) an)))) di)) (s1 (se (bm zJ zU zV cT (dv 3) (ac (dJ (ac (dv 5) (ac (CV (ix hr.units (dI (ac ds (ac ds an))) (cf (aD.mono (by decide)) hr T.ak.m T.ak.k T.ak.b d0 (ac (dv 0) (ac di an))))) (ac (CV (ix hr.units (dI (ac ds (ac ds an))) (cf (aD.mono (by decide)) hr T.ak.m T.ak.k T.ak.b d0 (ac (dv 0) (ac di an))))) an)))) an))))))) (s1 (sr (dJ (ac (ct lR T.cG bP (ac (dv 3) an)) (ac (CV (ix hr.units (dI (ac ds (ac ds an))) (cf (aD.mono (by decide)) hr T.ak.m T.ak.k T.ak.b d0 (ac (dv 0) (ac di an))))) an)))))))),?_⟩
 refine⟨_,rfl,l,_,rfl,(by decide),(by decide),hw,fun tr ht0 ht1=>⟨uO,fun lp WZ=>?_⟩⟩
 obtain⟨tn,rfl⟩:∃ n:Nat,tr=(n:Int):=⟨tr.toNat,by omega⟩
 have YA:l≠lp:=gL hw WZ
 refine⟨fun aK S'=>∃ (o4 o5:Option D) (ps:List Part) (i:Nat),aK=[some (.ref l),some (.tup (cs.map ay)),some (.int tn),some (.ref lp),o4,o5]∧i≤cs.length∧ps.map Prod.fst=(List.range i).map (q8 cs tn)∧(∀ p∈ps,lA p.2.1=true∧AJ p.2.2=true)∧S'=S.set lp (.lst (ps.map p3)),?_,?_⟩
 ·refine⟨_,rfl,_,rfl,oK,fun p hp=>⟨_,rfl,l,_,rfl,(by decide),(by decide),wl (wl hw WZ) hp,fun n4 WH WI=>ee WH WI hp fun d hd=>?_⟩⟩
  obtain⟨m,rfl⟩:∃ m:Nat,d=.int m:=by
   have hd:d∈[D.int 1,.int 2,.int 0,.int 8]:=hd
   simp only [zf,zF,or_false] at hd
   rcases hd with h | h | h | h
   ·exact⟨1,h⟩
   ·exact⟨2,h⟩
   ·exact⟨0,h⟩
   ·exact⟨8,h⟩
  obtain⟨k,hk,ek⟩:∃ k:Nat,k≤cs.length∧(if decide ((m:Int)<(((cs.map ay).length:Nat):Int))=true then (m:Int) else (((cs.map ay).length:Nat):Int))=(k:Int):=by
   rw[Cz]
   by_cases h:(m:Int)<((cs.length:Nat):Int)
   ·exact⟨m,by omega,by rw[zu h,if_pos rfl]⟩
   ·exact⟨cs.length,zl _,by rw[zr h,if_neg zd]⟩
  refine⟨_,_,rfl,k,congrArg (fun i=>[D.int i]) ek,by omega,by omega,?_⟩
  refine⟨fun i aK S'=>∃ (o4 o5:Option D) (ps:List Part),aK=[some (.ref l),some (.tup (cs.map ay)),some (.int tn),some (.ref lp),o4,o5]∧ps.map Prod.fst=(List.range i).map (q8 cs tn)∧(∀ p∈ps,lA p.2.1=true∧AJ p.2.2=true)∧S'=S.set lp (.lst (ps.map p3)),⟨none,none,[],rfl,rfl,fun _ h=>(nomatch h),rfl⟩,fun _ _ _ _=>trivial,?_,?_⟩
  ·rintro i d aK S' hd ⟨o4,o5,ps,rfl,hn,fW,rfl⟩
   obtain⟨hi,rfl⟩:=i8 hd
   have hi:i<k:=by simpa using hi
   have h0:0<cs.length:=by omega
   have gF:ps.length=i:=by have:=congrArg List.length hn;simpa using this
   obtain⟨c,hc,ec,ec1⟩:=xi (cs:=cs) (tn:=tn) (k:=i) h0
   have rl:(S.set lp (.lst (ps.map p3))) l=some .well:=(af YA).trans hw
   have Bg:(S.set lp (.lst (ps.map p3))) lp=some (.lst (ps.map p3)):=aa
   have W0:lK (cs.map ay) (((0:Int)+(i:Nat)+(tn:Nat)) % (((cs.map ay).length:Nat):Int))=some (ay c):=by
    rw[Cz,show ((0:Int)+(i:Nat)+(tn:Nat)) % ((cs.length:Nat):Int)=(((i+tn) % cs.length:Nat):Int) by rw[Int.zero_add,Int.natCast_emod,Int.natCast_add]]
    refine fj ?_
    rw[zp,ec];rfl
   refine⟨_,rfl,_,rfl,_,rfl,_,rfl,_,rfl,(by rw[Cz];omega),_,W0,_,rfl,?_⟩
   refine⟨_,rfl,⟨rfl,_,Bg⟩,_,rfl,cD,fun p hp=>⟨_,rfl,l,_,rfl,(by decide),(by decide),wl rl hp,fun n2 NS GH=>ee NS GH hp fun d hd=>?_⟩⟩
   obtain⟨wy,rfl,HE⟩:∃ wy:Str,d=.str wy∧lA wy=true:=by
    have hd:d∈[D.str "up",.str "down"]:=hd
    simp only [zf,zF,or_false] at hd
    rcases hd with h | h
    ·exact⟨_,h,by decide +kernel⟩
    ·exact⟨_,h,by decide +kernel⟩
   refine⟨cD,fun p hp=>⟨_,rfl,l,_,rfl,(by decide),(by decide),wl rl hp,fun n2 NS GH=>ee NS GH hp fun d hd=>?_⟩⟩
   obtain⟨en,rfl,hen⟩:∃ en:Str,d=.str en∧AJ en=true:=by
    have hd:d∈[D.str "first",.str "last"]:=hd
    simp only [zf,zF,or_false] at hd
    rcases hd with h | h
    ·exact⟨_,h,by decide +kernel⟩
    ·exact⟨_,h,by decide +kernel⟩
   refine⟨iV,lp,_,_,rfl,rfl,Bg,bg (by rw[zb];omega),?_⟩
   refine⟨_,_,ps++[(c.1,wy,en)],rfl,?_,fun x hx=>?_,?_⟩
   ·rw[zD,hn,List.range_succ,zD]
    show _=_++[q8 cs tn i]
    rw[← ec1];rfl
   ·rcases zI.mp hx with h | h
    ·exact fW x h
    ·rw[zH.mp h];exact⟨HE,hen⟩
   ·rw[dy,zD];rfl
  ·rintro aK S' ⟨o4,o5,ps,rfl,hn,fW,rfl⟩
   rw[dM] at hn
   exact fo ⟨o4,o5,ps,k,rfl,hk,by simpa using hn,fW,rfl⟩
 ·rintro aK S' ⟨o4,o5,ps,i,rfl,hi,hn,hk,rfl⟩
  have rl:(S.set lp (.lst (ps.map p3))) l=some .well:=(af YA).trans hw
  have Bg:(S.set lp (.lst (ps.map p3))) lp=some (.lst (ps.map p3)):=aa
  refine⟨_,rfl,_,_,rfl,.inl Bg,cD,fun p hp=>⟨_,rfl,l,_,rfl,(by decide),(by decide),wl rl hp,fun n2 NS GH=>ee NS GH hp fun d hd=>?_⟩⟩
  obtain⟨wy,rfl,HE⟩:∃ wy:Str,d=.str wy∧lA wy=true:=by
   have hd:d∈[D.str "up",.str "down"]:=hd
   simp only [zf,zF,or_false] at hd
   rcases hd with h | h
   ·exact⟨_,h,by decide +kernel⟩
   ·exact⟨_,h,by decide +kernel⟩
  have gF:ps.length=i:=by have:=congrArg List.length hn;simpa using this
  have pin:Pin cs ps:=fun x hx=>by
   have:x.1∈ps.map Prod.fst:=ze.mpr ⟨x,hx,rfl⟩
   rw[hn] at this
   obtain⟨k,hk,e⟩:=ze.mp this
   have:=zS.mp hk
   obtain⟨c,hc,_,ec⟩:=xi (cs:=cs) (tn:=tn) (k:=k) (by omega)
   exact⟨c,hc,ec.trans e⟩
  have wsz:∀ z,lA z=true→z.cps.size≤1000:=fun z h=>by rcases u6 h with rfl | rfl <;> decide +kernel
  have esz:∀ z,AJ z=true→z.cps.size≤1000:=fun z h=>by
   unfold AJ at h
   simp only [Bool.or_eq_true,yp] at h
   rcases h with rfl | rfl <;> decide +kernel
  refine⟨cD,S,.new WZ,q ps wy ⟨pin,fun x hx=>(hk x hx).1,HE,?_,fun x hx=>?_⟩⟩
  ·unfold DN
   rw[zu (show ps.length≤8 by omega),zW,zL,zL]
   refine⟨zZ.mpr fun x hx=>?_,zu (by rw[hn];exact xj hg.2.1 hi),HE⟩
   obtain⟨c,hc,ec⟩:=pin x hx
   unfold gs
   rw[zu (ze.mpr ⟨c,hc,ec⟩),(hk x hx).1,(hk x hx).2];rfl
  ·obtain⟨c,hc,ec⟩:=pin x hx
   exact⟨by rw[← ec];exact nA (hg.2.2 c hc).1,wsz _ (hk x hx).1,esz _ (hk x hx).2⟩
def N3 (n:Nat):gG:=fun ds S R _=>∃ l cs m,n=m+1∧ds=[.ref l,.tup (cs.map ay),.int ((m:Nat):Int)]∧Gd cs∧(∀ c∈cs,c.1∈BQ)∧S l=some .well∧∀ d,Sg cs n d→R d S
theorem keys_str:(∀ d∈out,∃ z∈KS,d=.str z)→∃ ks:List Str,out=ks.map D.str∧∀ k∈ks,k∈KS:=by
 induction out with
 | nil=>exact fun _=>⟨[],rfl,fun _ h=>(nomatch h)⟩
 | cons x l ih =>
  intro h
  obtain⟨z,hz,e⟩:=h x zx
  obtain⟨ks,e2,hk⟩:=ih fun d hd=>h d (zh _ hd)
  exact⟨z :: ks,by rw[e,e2];rfl,fun k Iv=>(zf.mp Iv).elim (fun e=>e ▸ hz) (hk k)⟩
theorem lC:∀ {xs out:List D},Paired rel xs out→∀ v∈out,∃ x,rel x v
 | _,_,.nil,_,h=>(nomatch h)
 | _,_,.cons r t,v,h=>by
  rcases zf.mp h with rfl | h
  ·exact⟨_,r⟩
  ·exact lC t v h
theorem tI (T:Txt w K mg t):∀ n,Ok P w base T.cF (3+n) (N3 n)
 | 0=>by
  refine T.cF.F.ok (k:=2) dr (by rintro ds S R Z ⟨_,_,_,_,e,_⟩;exact by rw[e];rfl) (by rintro bu A outer s H E ds S R Z hr ⟨_,_,m,e,_⟩;exact by cases e)
 | n+1=>by
  have j5:Ok P w base T.cF (3+n) (N3 n):=tI T n
  have aD:Ok P w base T.ak 1 iz:=og T
  have uY:Ok P w base T.kx 2 _:=GF T
  have nD:Ok P w base T.eT 2 _:=wX T
  refine T.cF.F.ok (k:=3+n) dr (by rintro ds S R Z ⟨_,_,_,_,e,_⟩;rw[e];rfl) ?_
  rintro bu A outer s H E ds S R Z hr ⟨l,cs,m,em,e,hg,hN,hw,q⟩
  subst e
  cases em
  have Cz:(cs.map ay).length=cs.length:=zb _
  have h8:=hg.1
  refine⟨_,(sc (eI (i:=3) dr.nd (cf (aD.mono (by omega)) hr T.ak.m T.ak.k T.ak.b d0 (ac (dv 0) (ac (bo eF hr.units di (bo kr hr.units di (ct vO T.s9 mJ (ac (cm oy hr.units (dv 2) di) an)))) an)))) (sc (si (twd (twor (bK bc hr.units (dv 3) di) (tw1 (twd (twand (bK bc hr.units (dv 1) (dJ an)) (tw1 (bK yS hr.units (dv 3) di))))))) (s1 (sr (dJ (ac ds an)))) s0) (sc (si (bK bc hr.units (dv 3) di) (s1 (sr (dJ (ac ds (ac (ct lR T.cG bP (ac (rM (N:=["_law_k", "_law_well_here"]) (src:=[none,some 0]) (kG (ae gM) ["_law_well_here", "_law_columns_here", "_law_deep", "_law_way", "_law_some", "_law_name", "_law_kind", "_law_value_here"] rfl rfl (by decide +kernel)) (OQ T.jT (ac (cf (aD.mono (by omega)) hr T.ak.m T.ak.k T.ak.b d0 (ac (dv 0) (ac di an))) an)) (oZ (show (["_law_k", "_law_well_here"]:List Str).Nodup by decide +kernel)) (a_ rfl) ba (fun _ _ _ _ _=>ud) (fun _ _ _ _ _=>(cf (uY.mono (by omega)) hr T.kx.m T.kx.k T.kx.b d0 (ac (dv 1) an)))) an)) an))))) s0) (sc (si (bK bc hr.units (dv 3) di) (s1 (sr (dJ (ac ds (ac (cf (j5.mono (by omega)) hr T.cF.m T.cF.k T.cF.b d0 (ac (dv 0) (ac (dv 1) (ac (bo sQ hr.units (dv 2) di) an)))) an))))) s0) (sc (si (bK oy hr.units (dv 3) di) (sc (OR (i:=4) (N:=["_law_k", "_law_well_here", "_law_columns_here", "_law_deep"]) (src:=[none,some 0,some 1,some 2]) dr.nd (kG (ae gM) ["_law_well_here", "_law_columns_here", "_law_deep", "_law_way", "_law_some", "_law_name", "_law_kind", "_law_value_here"] rfl rfl (by decide +kernel)) (OQ T.jT (ac (cf (aD.mono (by omega)) hr T.ak.m T.ak.k T.ak.b d0 (ac (dv 0) (ac di an))) an)) (oZ (show (["_law_k", "_law_well_here", "_law_columns_here", "_law_deep"]:List Str).Nodup by decide +kernel)) (a_ rfl) ba (fun _ _ _ _ _=>ud) (fun _ _ _ _ _=>(cf (j5.mono (by omega)) hr T.cF.m T.cF.k T.cF.b d0 (ac (dv 1) (ac (dv 2) (ac (bo sQ hr.units (dv 3) di) an)))))) (s1 (sr (dJ (ac (CV (ix hr.units (dI (ac ds (ac ds an))) (bo sQ hr.units (dv 3) di))) (ac (ct lR T.cG bP (ac (dv 4) an)) an)))))) s0) (sc (sa (ix hr.units (dv 1) (cf (aD.mono (by omega)) hr T.ak.m T.ak.k T.ak.b d0 (ac (dv 0) (ac (cb bH T.bx aV (ac (dv 1) an)) an)))) (gt (n:=2) (gc (gn (i:=5) dr.nd) (gc (gn (i:=6) dr.nd) g0)))) (sc (eI (i:=7) dr.nd (cf (nD.mono (by omega)) hr T.eT.m T.eT.k T.eT.b d0 (ac (dv 0) (ac (dv 6) an)))) (sc (si (twd (twor (bK bc hr.units (dv 3) di) (tw1 (bK mL hr.units (dv 7) dn)))) (s1 (sr (dJ (ac ds (ac (dv 5) (ac (dv 7) an)))))) s0) (sc (si (twd (twand (bK bc hr.units (dv 3) di) (tw1 (bK bc hr.units (dv 6) ds)))) (s1 (sr (dJ (ac ds (ac (dv 5) (ac (dv 7) an)))))) s0) (s1 (sr (dJ (ac (CV (ix hr.units (dI (ac ds (ac ds an))) (bo ku hr.units (dv 3) di))) (ac (dv 5) (ac (dv 7) an))))))))))))))),?_⟩
  obtain⟨x,ex,hx⟩:∃ x:Int,(if (fun i j:Int=>decide (j<i)) (↑n) 0=true then (1:Int) else 0)=x∧(x=0∨(x=1∧0<n)):=by
   by_cases e:(0:Int)<(n:Int)
   ·exact⟨1,if_pos (zu e),.inr ⟨rfl,by omega⟩⟩
   ·exact⟨0,if_neg (by rw[show (fun i j:Int=>decide (j<i)) (↑n) 0=false from zr e];exact zd),.inl rfl⟩
  refine⟨_,rfl,_,rfl,.inr ⟨_,rfl,?_⟩⟩
  rw[ex]
  refine⟨.inl ⟨by decide,by decide⟩,l,_,rfl,by omega,uX (by omega) (by omega),hw,fun way h0 h1=>?_⟩
  have h9:way<9:=by omega
  have Lq:6≤way→0<n:=fun h=>by omega
  have Ls:Fo S (R (.tup [.str "every"])):=fo (q _ (.inl (.inl rfl)))
  have lys:∀ d∈cs.map ay,Ly S 60 d:=JV hg hN
  refine⟨_,rfl,_,rfl,ck (fun h=>⟨oJ,Ls⟩) (fun h=>⟨_,rfl,uO,JK lys ⟨_,rfl,ck (fun h2=>⟨_,rfl,_,rfl,ck (fun h3=>⟨oJ,Ls⟩) (fun h3=>?_)⟩) (fun h2=>?_)⟩⟩)⟩
  all_goals
   have DK:way<5→0<cs.length:=by
    first
    | exact fun h=>absurd h (zX h3)
    | exact fun _=>List.length_pos_iff.mpr fun e=>by subst e;cases h2
   have hw0:way≠0:=zX h
   refine⟨_,rfl,_,rfl,ck (fun h5=>?_) (fun h5=>?_)⟩
   ·refine⟨_,rfl,l,_,rfl,(by decide),(by decide),hw,fun n5 h50 h51=>⟨n5,rfl,by omega,by omega,?_⟩⟩
    refine gW (fun _ v=>∃ z∈KS,v=.str z) trivial (by rw[dM];omega) (fun d hd Q hQ=>?_) fun out ho p hp=>?_
    ·exact⟨_,rfl,l,[],rfl,rfl,hw,by rintro d ⟨z,hz,e⟩;exact hQ d ⟨z,BP hz,e⟩⟩
    ·obtain⟨ks,rfl,xr⟩:=keys_str fun d hd=>(lC ho d hd).elim fun _ h=>h
     have YB:ks.length≤8:=by
      have:=yK ho
      rw[dM,zb] at this
      omega
     exact⟨_,_,rfl,.inl aa,cD,S,.new hp,q _ (.inl (.inr (.inl ⟨ks,rfl,YB,xr⟩)))⟩
   have hw5:way≠5:=zX h5
   refine⟨_,rfl,_,rfl,ck (fun h6=>?_) (fun h6=>?_)⟩
   ·have h6:way=6:=zE h6
    have hn:=Lq (by omega)
    refine⟨_,rfl,_,rfl,_,rfl,l,cs,n - 1,by omega,?_,hg,hN,hw,fun d hd=>⟨cD,fo (q _ (.inr (.inl ⟨d,rfl,hd⟩)))⟩⟩
    show [D.ref l,.tup (cs.map ay),.int ((n:Int) - 1)]=[_,_,D.int ((n - 1:Nat):Int)]
    rw[show ((n - 1:Nat):Int)=(n:Int) - 1 by omega]
   have hw6:way≠6:=zX h6
   refine⟨_,rfl,_,rfl,ck (fun h7=>?_) (fun h7=>?_)⟩
   ·have h7:6<way:=zE h7
    have hn:=Lq (by omega)
    refine⟨_,rfl,l,_,rfl,(by decide),(by decide),hw,fun n3 h30 Ts=>⟨n3,rfl,by omega,by omega,?_⟩⟩
    refine gW (fun _ v=>Sg cs n v) trivial (by rw[dM];omega) (fun d hd Q hQ=>?_) fun out ho p hp=>?_
    ·refine⟨_,rfl,_,rfl,_,rfl,l,cs,n - 1,by omega,?_,hg,hN,hw,fun d hd=>hQ d hd⟩
     show [D.ref l,.tup (cs.map ay),.int ((n:Int) - 1)]=[_,_,D.int ((n - 1:Nat):Int)]
     rw[show ((n - 1:Nat):Int)=(n:Int) - 1 by omega]
    ·have Qo:out.length≤2:=by
      have:=yK ho
      rw[dM] at this
      omega
     refine⟨cD,fun p2 iD=>⟨_,rfl,ee (by omega) (by show way - 7<2;omega) iD fun d hd=>?_⟩⟩
     obtain⟨o,rfl,W2⟩:∃ o:Str,d=.str o∧(o = "and" ∨ o = "or"):=by
      have hd:d∈[D.str "and",.str "or"]:=hd
      simp only [zf,zF,or_false] at hd
      rcases hd with h | h
      ·exact⟨_,h,.inl rfl⟩
      ·exact⟨_,h,.inr rfl⟩
     exact⟨_,rfl,_,_,rfl,.inl aa,cD,S,.new hp,q _ (.inr (.inr ⟨o,out,W2,rfl,Qo,fun e he=>(lC ho e he).elim fun _ h=>h⟩))⟩
   have h7:¬ 6<way:=zX h7
   have EX:=DK (by omega)
   refine⟨_,rfl,_,rfl,_,rfl,_,rfl,l,_,rfl,by omega,uX (by omega) (by omega),hw,fun j hj0 hj1=>?_⟩
   obtain⟨jn,rfl⟩:∃ jn:Nat,j=(jn:Int):=⟨j.toNat,by omega⟩
   have YC:jn<cs.length:=by omega
   have ec:cs[jn]?=some cs[jn]:=zg YC
   have hc:cs[jn]∈cs:=List.getElem_mem YC
   generalize cs[jn]=c at ec hc
   refine⟨ay c,fj (by rw[zp,ec];rfl),_,rfl,rfl,_,_,rfl,_,_,rfl,rfl,?_⟩
   refine⟨_,rfl,_,rfl,l,[.str c.2],rfl,?_,hw,fun v hv=>?_⟩
   ·rcases (hg.2.2 c hc).2 with e | e <;> rw[e]
    ·exact .inl rfl
    ·exact .inr rfl
   obtain⟨k,ek,hv⟩:=hv
   cases ek
   have NV:Fo S (R (.tup [.str "is",.str c.1,v])):=fo (q _ (.inl (.inr (.inr ⟨"is",c,v,hc,hv,.inl rfl,rfl⟩))))
   refine⟨_,rfl,_,rfl,ck (fun h8=>⟨_,rfl,_,rfl,iV,NV⟩) (fun h8=>⟨_,rfl,_,rfl,ck (fun h9=>⟨_,rfl,_,rfl,iV,NV⟩) (fun h9=>?_)⟩)⟩
   have Tq:v≠.au:=bq h9
   refine⟨_,rfl,_,rfl,ck (fun h10=>⟨_,rfl,_,rfl,ck (fun RG=>?_) (fun RG=>?_)⟩) (fun h10=>?_)⟩
   ·exact⟨_,rfl,_,rfl,iV,fo (q _ (.inl (.inr (.inr ⟨"begins",c,v,hc,hv,.inr ⟨Tq,.inr (.inr ⟨rfl,zE RG⟩)⟩,rfl⟩))))⟩
   all_goals
    refine⟨cD,fun p hp=>⟨_,rfl,(by decide),ee (by omega) (by show way % 2<2;omega) hp fun d hd=>?_⟩⟩
    obtain⟨o,rfl,W2⟩:∃ o:Str,d=.str o∧(o = "below" ∨ o = "above"):=by
     have hd:d∈[D.str "below",.str "above"]:=hd
     simp only [zf,zF,or_false] at hd
     rcases hd with h | h
     ·exact⟨_,h,.inl rfl⟩
     ·exact⟨_,h,.inr rfl⟩
    exact⟨_,rfl,_,rfl,iV,fo (q _ (.inl (.inr (.inr ⟨o,c,v,hc,hv,.inr ⟨Tq,W2.elim .inl fun h=>.inr (.inl h)⟩,rfl⟩))))⟩
theorem BZ:∀ {l:List Str}{p:Str},PyProof.Rows.risingS p l=true→(p :: l).Pairwise fun a b=>a.cps.toList≤b.cps.toList
 | [],p,_=>List.pairwise_singleton _ _
 | x :: r,p,h=>by
  have h:(!PySem.Spec.ltCps x.cps.toList p.cps.toList && PyProof.Rows.risingS x r)=true:=h
  rw[zL,PyProof.Rows.ltCps_eq,Bool.not_eq_true',decide_eq_false_iff_not] at h
  have ih:=BZ h.2
  have YD:p.cps.toList≤x.cps.toList:=List.not_lt.mp h.1
  refine List.pairwise_cons.mpr ⟨fun y hy=>?_,ih⟩
  rcases zf.mp hy with e | hy
  ·rw[e];exact YD
  ·exact List.le_trans YD ((List.pairwise_cons.mp ih).1 y hy)
theorem tJ (h:PyProof.Rows.sortedS l=true):l.Pairwise fun a b=>a.cps.toList≤b.cps.toList:=by
 cases l with
 | nil=>exact List.Pairwise.nil
 | cons x r=>exact BZ h
theorem JX {a b:Str} (h:a.cps.toList=b.cps.toList):a=b:=by
 obtain⟨⟨x⟩⟩:=a
 obtain⟨⟨y⟩⟩:=b
 cases h;rfl
theorem D1 {l m:List Str} (hl:l.Pairwise fun a b=>a.cps.toList≤b.cps.toList) (hm:m.Pairwise fun a b=>a.cps.toList≤b.cps.toList) (nl:l.Nodup) (nm:m.Nodup) (h:∀ z,z∈l↔z∈m):l=m :=
 List.Perm.eq_of_pairwise (fun a b _ _ h1 h2=>JX (List.le_antisymm h1 h2)) hl hm ((List.perm_ext_iff_of_nodup nl nm).mpr h)
def TI (l:List Std) (n:Nat):Prop:=∀ s∈l,s.b≤n∧∀ m,s.e=some m→m<n
def JY (s:Std):D:=match s.e with
 | none=>.tup s.ws
 | some _=>.au
def cur (l:List Std):D:=match l.getLast? with
 | none=>.au
 | some s=>JY s
theorem jG (r:List Std) (s:Std):cur (r++[s])=JY s:=by unfold cur;rw[List.getLast?_concat]
theorem N4 (h:TI l n):wt l n=cur l:=by
 by_cases e:l=[]
 ·subst e;rfl
 ·obtain⟨r,s,rfl⟩:=jW e
  rw[jG]
  unfold wt
  rw[List.reverse_append]
  obtain⟨h1,h2⟩:=h s (zA _ (zH.mpr rfl))
  show Gu (s :: r.reverse) (n:Int)=_
  unfold Gu JY
  rw[if_pos (show (s.b:Int)≤(n:Int) by omega)]
  cases q:s.e with
  | none=>rfl
  | some m =>
   have:=h2 m q
   exact if_neg (show ¬ (n:Int)≤(m:Int) by omega)
theorem TI.up (h:TI l n):TI l (n+1):=fun s hs=>⟨Nat.le_succ_of_le (h s hs).1,fun m e=>Nat.lt_succ_of_lt ((h s hs).2 m e)⟩
theorem TI.close (h:TI l n):TI (iy n l) (n+1):=by
 by_cases e:l=[]
 ·subst e;exact fun s hs=>(nomatch hs)
 ·obtain⟨r,s,rfl⟩:=jW e
  rw[eX]
  intro x hx
  rcases zI.mp hx with hx | hx
  ·exact h.up x (z0 _ hx)
  ·rw[zH.mp hx]
   exact⟨Nat.le_succ_of_le (h s (zA _ (zH.mpr rfl))).1,fun m e=>by cases e;exact Nat.lt_succ_self _⟩
theorem TI.YE (h:TI l (n+1)):TI (l++[Std.mk (n+1) none ws]) (n+1):=fun s hs=>by
 rcases zI.mp hs with hs | hs
 ·exact h s hs
 ·rw[zH.mp hs];exact⟨zl _,fun m e=>(by cases e)⟩
theorem D2:cur (iy n l)=.au:=by
 by_cases e:l=[]
 ·subst e;rfl
 ·obtain⟨r,s,rfl⟩:=jW e
  rw[eX,jG];rfl
def rB (kn:Kn) (z:Str):D:=match gr kn z with
 | none=>.au
 | some ws=>.tup ws
structure RI (rs:qG) (n:Nat) (kn:Kn):Prop where
 ti:∀ z,TI ((lu rs z).getD []) n
 eq:∀ z,cur ((lu rs z).getD [])=rB kn z
 ks:∀ r∈rs,r.1∈KS
theorem JZ (h:r∈AA rs z s):r.1=z∨∃ r'∈rs,r'.1=r.1:=by
 unfold AA at h
 split at h
 ·obtain⟨r0,vi,e⟩:=ze.mp h
  refine .inr ⟨r0,vi,?_⟩
  subst e
  split <;> rfl
 ·rcases zI.mp h with h | h
  ·exact .inr ⟨r,h,rfl⟩
  ·rw[zH.mp h];exact .inl rfl
theorem G_ (h:∀ r∈rs,r.1∈KS) (hz:z∈KS):∀ r∈AA rs z s,r.1∈KS:=fun r hr=>by
 rcases JZ hr with e | ⟨r',jX,e⟩
 ·rw[e];exact hz
 ·rw[← e];exact h r' jX
theorem B0:rB (mj kn z ws) k=if k=z then .tup ws else rB kn k:=by
 unfold rB;rw[JI]
 by_cases h:k=z
 ·rw[if_pos h,if_pos h]
 ·rw[if_neg h,if_neg h]
theorem B1:rB (r_ kn z) k=if k=z then .au else rB kn k:=by
 unfold rB;rw[JJ]
 by_cases h:k=z
 ·rw[if_pos h,if_pos h]
 ·rw[if_neg h,if_neg h]
theorem RI.nil:RI [] 0 []:=⟨fun z s hs=>(nomatch hs),fun z=>rfl,fun r hr=>(nomatch hr)⟩
theorem RI.put (h:RI rs n kn) (hz:z∈KS):RI (oM rs z (n+1) ws) (n+1) (mj kn z ws):=by
 refine⟨fun k=>?_,fun k=>?_,G_ h.ks hz⟩
 ·unfold oM;rw[jz]
  by_cases e:k=z
  ·rw[if_pos e];exact (h.ti z).up.YE
  ·rw[if_neg e];exact (h.ti k).up
 ·unfold oM;rw[jz,B0]
  by_cases e:k=z
  ·rw[if_pos e,if_pos e];exact jG _ _
  ·rw[if_neg e,if_neg e];exact h.eq k
theorem RI.del (h:RI rs n kn) (hz:z∈KS):RI (lj rs z n) (n+1) (r_ kn z):=by
 refine⟨fun k=>?_,fun k=>?_,G_ h.ks hz⟩
 ·unfold lj;rw[jz]
  by_cases e:k=z
  ·rw[if_pos e];exact (h.ti z).close
  ·rw[if_neg e];exact (h.ti k).up
 ·unfold lj;rw[jz,B1]
  by_cases e:k=z
  ·rw[if_pos e,if_pos e];exact D2
  ·rw[if_neg e,if_neg e];exact h.eq k
theorem RI.change (h:RI rs n kn) (hz:z∈KS):RI (oM (lj rs z n) z (n+1) ws) (n+1) (mj kn z ws):=by
 have h1:=h.del hz
 refine⟨fun k=>?_,fun k=>?_,G_ h1.ks hz⟩
 ·unfold oM;rw[jz]
  by_cases e:k=z
  ·rw[if_pos e];exact (h1.ti z).YE
  ·rw[if_neg e];exact h1.ti k
 ·unfold oM;rw[jz,B0]
  by_cases e:k=z
  ·rw[if_pos e,if_pos e];exact jG _ _
  ·rw[if_neg e,if_neg e,h1.eq k,B1,if_neg e]
theorem RI.wt {rs:qG}{n:Nat}{kn:Kn} (h:RI rs n kn) (z:Str):wt ((lu rs z).getD []) n=rB kn z:=by rw[N4 (h.ti z),h.eq]
theorem RI.rA (h:RI rs n kn) (hz:z∈KS):rA rs (.str z) n=rB kn z:=by rw[uT (jB z hz).1,h.wt]
theorem tK (kn:Kn) (z:Str):ah (rB kn z)=!(gr kn z).isSome:=by unfold rB;cases gr kn z <;> rfl
theorem Lu (h:bT C S a F cs dl rs):(rs.map (·.1)).Nodup:=by
 obtain⟨ld,lr,ra,h,_,rfl⟩:=h
 unfold gX
 rw[zt]
 exact h.kn
theorem RI.len (h:RI rs n kn) (hs:bT C S a F cs dl rs):rs.length≤30:=by
 have:=sub_len (Lu hs) (m:=KS) fun x hx=>by
  obtain⟨r,hr,rfl⟩:=ze.mp hx
  exact h.ks r hr
 rw[zb] at this
 exact this
def N5 (kn:Kn) (ss:List Str):List D:=ss.map fun z=>.tup [.str z,rB kn z]
theorem RO (h:lu rs k=some s):k∈rs.map (·.1):=by
 induction rs with
 | nil=>cases h
 | cons r rs ih =>
  rw[ft] at h
  rw[zB]
  by_cases e:r.1=k
  ·exact zf.mpr (.inl e.symm)
  ·rw[if_neg e] at h;exact zh _ (ih h)
def nK (k:Nat) (l:List Std):List Std:=match l.getLast? with
 | none=>l
 | some s=>match s.e with
  | none=>iy k l
  | some _=>l
theorem oh (h:s.e=none):nK k (r++[s])=r++[Std.mk s.b (some k) s.ws]:=by
 unfold nK;rw[List.getLast?_concat];dsimp only;rw[h];exact eX _ _ _
theorem xk (h:s.e=some n):nK k (r++[s])=r++[s]:=by
 unfold nK;rw[List.getLast?_concat];dsimp only;rw[h]
theorem J2 {s:Std}{r:List Std}{m:Nat} (h:m<s.b):Gu (s :: r) m=Gu r m:=by
 show (if (s.b:Int)≤(m:Int) then _ else Gu r m)=_
 rw[if_neg (by omega)]
theorem D3 (hm:m≤n):wt (nK n l) m=wt l m:=by
 by_cases e:l=[]
 ·subst e;rfl
 ·obtain⟨r,s,rfl⟩:=jW e
  cases q:s.e with
  | some k=>rw[xk q]
  | none =>
   rw[oh q]
   unfold wt
   rw[List.reverse_append,List.reverse_append]
   show (if (s.b:Int)≤(m:Int) then (if (m:Int)≤(n:Int) then D.tup s.ws else .au) else Gu r.reverse m)=(if (s.b:Int)≤(m:Int) then (match s.e with | none=>.tup s.ws | some n=>if (m:Int)≤(n:Int) then .tup s.ws else .au) else Gu r.reverse m)
   rw[q,if_pos (show (m:Int)≤(n:Int) by omega)]
theorem AW (h:cur l≠.au):nK n l=iy n l:=by
 by_cases e:l=[]
 ·subst e;rfl
 ·obtain⟨r,s,rfl⟩:=jW e
  rw[jG] at h
  cases q:s.e with
  | none=>rw[oh q,eX]
  | some m=>unfold JY at h;rw[q] at h;exact absurd rfl h
theorem D4:tY "list" = some IE:=(if_neg (by decide)).trans ((if_neg (by decide)).trans ((if_neg (by decide)).trans ((if_neg (by decide)).trans (if_pos rfl))))
theorem Ha (l:List D) (d:D):fm (l++[d]) none (some (-1))=l:=by
 unfold fm
 have e:HT.sIx (l++[d]).length (l++[d]).length (some (-1))=l.length:=by
  show (if (-1:Int)<0 then ((-1:Int)+((l++[d]).length:Int)).toNat else min (-1:Int).toNat (l++[d]).length)=_
  rw[if_pos (by decide),zy]
  show ((-1:Int)+((l.length+1:Nat):Int)).toNat=_
  omega
 rw[e]
 show ((l++[d]).drop 0).take (l.length - 0)=l
 rw[List.drop_zero,Nat.sub_zero,List.take_left]
def iP (kn:Kn) (ss:List Str):List Row:=ss.map fun z=>(z,(gr kn z).getD [])
structure Snap (rs:qG) (cs:List (Str×Str)) (m:Nat) (rows:List Row):Prop where
 ex:∃ kn ss,rows=iP kn ss∧KI cs kn∧ss.Perm (kn.map (·.1))∧PyProof.Rows.sortedS ss=true∧∀ z,wt ((lu rs z).getD []) m=rB kn z
theorem tL (p:ss.Perm (kn.map (·.1))):(iP kn ss).map aj=N5 kn ss:=by
 unfold iP N5
 rw[zt]
 refine zY fun z hz=>?_
 obtain⟨ws,lG⟩:=lx (p.mem_iff.mp hz)
 show D.tup [.str z,.tup ((gr kn z).getD [])]=.tup [.str z,rB kn z]
 unfold rB
 rw[lG];rfl
theorem Hb (hI:KI cs kn) (p:ss.Perm (kn.map (·.1))):Rg cs (iP kn ss):=by
 refine⟨fun r hr=>?_,?_⟩
 ·obtain⟨z,hz,rfl⟩:=ze.mp hr
  obtain⟨ws,lG⟩:=lx (p.mem_iff.mp hz)
  show Wg cs ((gr kn z).getD [])
  rw[lG]
  exact (hI.ok _ (jY lG)).2
 ·unfold iP
  rw[zt]
  show (ss.map id).Nodup
  rw[List.map_id]
  exact p.nodup_iff.mpr hI.nd
theorem D5 (hI:KI cs kn) (p:ss.Perm (kn.map (·.1))):(iP kn ss).length≤30:=by
 unfold iP
 rw[zb,p.length_eq,zb]
 exact hI.len
theorem Snap.rg (h:Snap rs cs m rows):Rg cs rows∧rows.length≤30:=by
 obtain⟨kn,ss,rfl,hI,p,_⟩:=h.ex
 exact⟨Hb hI p,D5 hI p⟩
theorem Snap.key (h:Snap rs cs m rows):∀ r∈rows,r.1∈KS:=by
 obtain⟨kn,ss,rfl,hI,p,_⟩:=h.ex
 intro r hr
 obtain⟨z,hz,rfl⟩:=ze.mp hr
 obtain⟨ws,lG⟩:=lx (p.mem_iff.mp hz)
 exact (hI.ok _ (jY lG)).1
theorem D6 {C a:Addr}{S:aT}{F:List Addr}{cs:List (Str×Str)}{dl:List D}{rs:qG}{m:Nat}{rows:List Row} (h:Snap rs cs m rows) (hs:bT C S a F cs dl rs) {ss:List Str}
  (p1:ss.Perm (rs.map (·.1))) (o1:PyProof.Rows.sortedS ss=true):lq rs m ss=rows.map aj:=by
 obtain⟨kn,s2,rfl,hI,p2,o2,hw⟩:=h.ex
 rw[tL p2]
 have e:ss.filter (fun z=>!ah (wt ((lu rs z).getD []) m))=s2:=by
  refine D1 ((tJ o1).filter _) (tJ o2) ?_ (p2.nodup_iff.mpr hI.nd) fun z=>?_
  ·exact yt.nodup (p1.nodup_iff.mpr (Lu hs))
  ·rw[yg,hw,tK,Bool.not_not,p1.mem_iff,p2.mem_iff]
   constructor
   ·rintro⟨_,hz⟩
    obtain⟨ws,lG⟩:=Option.isSome_iff_exists.mp hz
    exact ze.mpr ⟨_,jY lG,rfl⟩
   ·intro hz
    obtain⟨ws,lG⟩:=lx hz
    refine⟨?_,by rw[lG];rfl⟩
    have e:=hw z
    unfold rB at e
    rw[lG] at e
    cases q:lu rs z with
    | none=>rw[q] at e;cases e
    | some s=>exact RO q
 unfold lq N5
 rw[e]
 refine zY fun z _=>?_
 unfold uU
 rw[hw]
def HI (rs:qG) (cs:List (Str×Str)) (n:Nat) (hs:List (List Row)):Prop:=hs.length=n+1∧∀ m rows,hs[m]?=some rows→Snap rs cs m rows
theorem HI.step {rs cJ:qG}{cs:List (Str×Str)}{n:Nat}{hs:List (List Row)} (h:HI rs cs n hs) (old:∀ z m,m≤n→wt ((lu cJ z).getD []) m=wt ((lu rs z).getD []) m) {kn:Kn} (hI:KI cs kn) (hR:RI cJ (n+1) kn) {ss:List Str} (p:ss.Perm (kn.map (·.1))) (o:PyProof.Rows.sortedS ss=true):HI cJ cs (n+1) (hs++[iP kn ss]):=by
 refine⟨by rw[zy,h.1];rfl,fun m rows e=>?_⟩
 by_cases hm:m<hs.length
 ·rw[List.getElem?_append_left hm] at e
  obtain⟨kn0,s0,e0,h1,h2,h3,h4⟩:=(h.2 m rows e).ex
  have:=h.1
  exact⟨kn0,s0,e0,h1,h2,h3,fun z=>(old z m (by omega)).trans (h4 z)⟩
 ·rw[List.getElem?_append_right (by omega)] at e
  have KR:m - hs.length=0:=by
   cases q:m - hs.length with
   | zero=>rfl
   | succ k=>rw[q] at e;simp at e
  rw[KR] at e
  cases e
  have:=h.1
  have hmn:m=n+1:=by omega
  subst hmn
  exact⟨kn,ss,rfl,hI,p,o,fun z=>hR.wt z⟩
theorem N6 {l:List Std}{n m:Nat}{ws:List D} (hm:m≤n):wt (l++[Std.mk (n+1) none ws]) m=wt l m:=by
 unfold wt
 rw[List.reverse_append]
 exact J2 (show m<n+1 by omega)
theorem B4 (k:Str) (m:Nat) (hm:m≤n):wt ((lu (oM rs z (n+1) ws) k).getD []) m=wt ((lu rs k).getD []) m:=by
 unfold oM;rw[jz]
 by_cases e:k=z
 ·rw[if_pos e,e];exact N6 hm
 ·rw[if_neg e]
theorem B5 (h:RI rs n kn) (hz:(gr kn z).isSome=true) (k:Str) (m:Nat) (hm:m≤n):wt ((lu (lj rs z n) k).getD []) m=wt ((lu rs k).getD []) m:=by
 unfold lj;rw[jz]
 by_cases e:k=z
 ·rw[if_pos e,e]
  have hc:cur ((lu rs z).getD [])≠.au:=by
   rw[h.eq]
   unfold rB
   cases q:gr kn z with
   | none=>rw[q] at hz;cases hz
   | some ws=>exact fun e=>by cases e
  show wt (iy n ((lu rs z).getD [])) m=_
  rw[← AW hc,D3 hm]
 ·rw[if_neg e]
theorem Hc (hz:z∈KS):Gt S (.str z):=BY (by have:=(jB z hz).2.1;omega)
section
variable {t:o3}{S:aT}{a:Addr}{F:List Addr}{cs:List (Str×Str)}{dl:List D}{rs:qG}{kn:Kn}{d:D}{R:KD}{Z:KX}
theorem Hd (hz:z∈KS) (h:Wg cs ws):iu cs (.str z) (.tup ws)=true:=by
 unfold iu
 rw[h.N2,show ofStr fX (.str z)=true from (jB z hz).1];rfl
theorem AX (hR:RI rs dl.length kn) (hz:z∈KS):ah (rA rs (.str z) dl.length)=!(gr kn z).isSome:=by rw[hR.rA hz,tK]
theorem RP (h:gr kn z=none):(!(gr kn z).isSome)=true:=by rw[h];rfl
theorem He (h:(gr kn z).isSome=true):(!(gr kn z).isSome)=false:=by rw[h];rfl
theorem tf {b:Bool} (h1:b=true) (h2:b=false) {p:Prop} : p:=by rw[h1] at h2;cases h2
theorem bT.out (hS:bT C S a F cs dl rs) (hb:S b=none):b∉F:=fun m=>by
 obtain⟨ld,lr,ra,h,rfl,_⟩:=hS
 unfold fp at m
 simp only [zf,ze] at m
 rcases m with e | e | e | ⟨r,hr,e⟩
 ·have:=h.ins;rw[← e,hb] at this;cases this
 ·have:=h.wU;rw[← e,hb] at this;cases this
 ·have:=h.run;rw[← e,hb] at this;cases this
 ·have:=h.cell r hr;rw[e,hb] at this;cases this
theorem bT.off (hS:bT C S a F cs dl rs) (hp:p∉F):bT C (S.set p c) a F cs dl rs:=by
 obtain⟨ld,lr,ra,hh,rfl,e2⟩:=hS
 unfold fp at hp
 simp only [zf,not_or] at hp
 obtain⟨n1,n2,n3,n4⟩:=hp
 exact⟨ld,lr,ra,⟨(af (Ne.symm n1)).trans hh.ins,(af (Ne.symm n2)).trans hh.wU,(af (Ne.symm n3)).trans hh.run,fun r hr=>(af fun e=>n4 (by rw[← e];exact ze.mpr ⟨r,hr,rfl⟩)).trans (hh.cell r hr),hh.kn,hh.an,hh.sz⟩,rfl,e2⟩
theorem GD.up (hd:GD KT cs kn d):GD KS cs kn d:=by
 rcases hd with ⟨z,ws,hz,h⟩ | h
 ·exact .inl ⟨z,ws,BP hz,h⟩
 ·exact .inr h
theorem GD.as (hd:GD KS cs kn d) (hI:KI cs kn):∃ fE,O6 kn d fE∧KI cs fE:=by
 rcases hd with ⟨z,ws,hz,hw,hn,rfl⟩ | ⟨z,ws,hz,hw,hn,rfl⟩ | ⟨z,hz,hn,rfl⟩
 ·exact⟨_,.inl ⟨_,z,ws,.inl rfl,rfl,rfl⟩,hI.put hz hw⟩
 ·exact⟨_,.inl ⟨_,z,ws,.inr rfl,rfl,rfl⟩,hI.put hz hw⟩
 ·exact⟨_,.inr ⟨z,hn,rfl,rfl⟩,hI.del z⟩
structure YF (t:o3) (ds:List D) (S:aT) (R:KD) (Z:KX):Prop where
 of:GN t ds S R Z
theorem D7 (hS:bT t.ag S a F cs dl rs) (hg:Gd cs) (hI:KI cs kn) (hR:RI rs dl.length kn) (hl:dl.length≤100) (hd:GD KS cs kn d) {fE:Kn} (W3:O6 kn d fE)
  (q:∀ S' F' cJ,bT t.ag S' a F' cs (dl++[d]) cJ→vh F F' S S'→RI cJ (dl.length+1) fE→(∀ z m,m≤dl.length→wt ((lu cJ z).getD []) m=wt ((lu rs z).getD []) m)→R .au S'):YF t [.ref a,d] S R Z:=by
 have Ln:=hR.len hS
 have Tz:=hg.1
 obtain⟨ld,lr,ra,h,_,_⟩:=id hS
 refine⟨a,_,h.ins,rfl,?_⟩
 rcases hd with ⟨z,ws,hz,hw,hn,rfl⟩ | ⟨z,ws,hz,hw,hn,rfl⟩ | ⟨z,hz,hn,rfl⟩
 ·have ro:=Hd hz hw
  have st:=(AX hR hz).trans (RP hn)
  refine .inl ⟨_,_,rfl,a,F,cs,_,rs,_,_,rfl,hS,Tz,Hc hz,hw.Yz Tz,by omega,by omega,fun e=>tf ro e,fun _ e=>tf st e,fun z' Lb e1 e2 _ _ S' F' nX hK=>?_⟩
  cases e1;cases e2
  have N7:fE=mj kn z ws:=by rcases W3 with ⟨n,y,vs,_,e1,e2⟩ | ⟨y,_,e1,_⟩ <;> cases e1;exact e2
  subst N7
  exact q S' F' _ nX hK (hR.put hz) B4
 ·have ro:=Hd hz hw
  have st:=(AX hR hz).trans (He hn)
  refine .inr (.inl ⟨_,_,rfl,a,F,cs,_,rs,_,_,rfl,hS,Tz,Hc hz,hw.Yz Tz,by omega,by omega,fun e=>tf ro e,fun _ e=>tf e st,fun z' Lb e1 e2 _ _ S' F' nX hK=>?_⟩)
  cases e1;cases e2
  have N7:fE=mj kn z ws:=by rcases W3 with ⟨n,y,vs,_,e1,e2⟩ | ⟨y,_,e1,_⟩ <;> cases e1;exact e2
  subst N7
  exact q S' F' _ nX hK (hR.change hz) fun k m hm=>(B4 k m hm).trans (B5 hR hn k m hm)
 ·have st:=(AX hR hz).trans (He hn)
  refine .inr (.inr ⟨_,rfl,a,F,cs,_,rs,_,rfl,hS,Hc hz,by omega,fun e=>tf (jB z hz).1 e,fun _ e=>tf e st,fun z' e1 _ _ S' nX hK=>?_⟩)
  cases e1
  have N7:fE=r_ kn z:=by rcases W3 with ⟨n,y,vs,_,e1,e2⟩ | ⟨y,_,e1,e2⟩ <;> cases e1;exact e2
  subst N7
  exact q S' F _ nX hK (hR.del hz) (B5 hR hn)
theorem Snap.vw (h:Snap rs cs m rows) (hS:bT t.ag S a F cs dl rs) (hR:RI rs dl.length kn) (hm:r9 dl.length md=some (m:Int)) (SX:Gt S md):Vw t.ag S a cs md rows:=by
 have:=h.rg
 refine⟨⟨F,dl,rs,hS,by have:=hR.len hS;omega,(fun e=>by rw[hm] at e;cases e),fun i ss hi hp hs=>?_⟩,SX,by omega,this.1⟩
 rw[hm] at hi
 cases hi
 exact D6 h hS hp hs
end
def kj (j:Nat):Str:=WD.getD j ""
theorem N8:∀ j<20,("k" : Str)++Str.ofString (toString ((0:Int)+((j:Nat):Int)))=kj j∧("k" : Str).length+(Str.ofString (toString ((0:Int)+((j:Nat):Int)))).length≤1000:=by decide +kernel
theorem RQ:∀ j<20,kj j∈WD∧kj j∉KT:=by decide +kernel
theorem N9:∀ j<20,∀ i<20,kj j=kj i→j=i:=by decide +kernel
theorem oi:∀ {l:List α}{m:List β},Paired rel l m→∀ {i:Nat}{b:β},m[i]?=some b→∃ a,l[i]?=some a∧rel a b
 | _,_,.nil,_,_,h=>by simp at h
 | _,_,.cons r t,0,b,h=>by
  rw[List.getElem?_cons_zero] at h ⊢
  cases h
  exact⟨_,rfl,r⟩
 | _,_,.cons r t,i+1,b,h=>by
  rw[List.getElem?_cons_succ] at h ⊢
  exact oi t h
def TB (cs:List (Str×Str)) (j:Nat) (d:D):Prop:=j<20∧∃ ws,Wg cs ws∧d=.tup [.str "put",.str (kj j),.tup ws]
theorem J3 (T:Txt w K mg t):Ok P w base T.nq 4 (fun ds S R _=>∃ l cs,ds=[.ref l,.tup (cs.map ay),.int 13,.int 20]∧Gd cs∧S l=some .well∧∀ (out:List D) (p:Addr),out.length≤20→(∀ j d,out[j]?=some d→TB cs j d)→S p=none→R (.ref p) (S.set p (.lst out))):=by
 have aD:Ok P w base T.ak 1 iz:=og T
 have fQ:Ok P w base T.bw 3 _:=tu T
 refine T.nq.F.ok tj (by rintro ds S R Z ⟨_,_,e,_⟩;rw[e];rfl) ?_
 rintro bu A outer s H E ds S R Z hr ⟨l,cs,e,hg,hw,q⟩
 subst e
 refine⟨_,(sc (eI (i:=4) tj.nd (bo eF hr.units (dv 2) (cf (aD.mono (by decide)) hr T.ak.m T.ak.k T.ak.b d0 (ac (dv 0) (ac (bo eF hr.units (bo sQ hr.units (dv 3) (dv 2)) di) an))))) (s1 (sr (rM (N:=["_law_j", "_law_well_here", "_law_columns_here"]) (src:=[none,some 0,some 1]) (kG (ae lU) ["_law_well_here", "_law_columns_here", "_law_least", "_law_most", "_law_many_here"] rfl rfl (by decide +kernel)) (OQ T.jT (ac (dv 4) an)) (oZ (show (["_law_j", "_law_well_here", "_law_columns_here"]:List Str).Nodup by decide +kernel)) (a_ rfl) ba (fun _ _ _ _ _=>ud) (fun _ _ _ _ _=>(dJ (ac ds (ac (bo eF hr.units ds (ct Q5 T.nZ i4 (ac (dv 0) an))) (ac (cf (fQ.mono (by decide)) hr T.bw.m T.bw.k T.bw.b d0 (ac (dv 1) (ac (dv 2) an))) an))))))))),?_⟩
 refine⟨_,rfl,_,rfl,_,rfl,_,rfl,l,_,rfl,(by decide),(by decide),hw,fun n h0 h1=>?_⟩
 have h1:n<8:=h1
 obtain⟨N,hN⟩:∃ N:Nat,(13:Int)+n=(N:Int):=⟨(13+n).toNat,by omega⟩
 refine⟨_,rfl,13+n,rfl,by omega,by omega,?_⟩
 refine gW (fun d v=>∃ j:Nat,d=.int ((j:Nat):Int)∧TB cs j v) trivial (by rw[dM];omega) (fun d hd Q hQ=>?_) fun out ho p hp=>?_
 ·obtain⟨i,ei⟩:=List.getElem?_of_mem hd
  obtain⟨hi,rfl⟩:=i8 ei
  have hi:i<20:=by omega
  obtain⟨k1,k2⟩:=N8 i hi
  refine⟨_,rfl,_,rfl,(by have:=Nat.log2_le_self ((0:Int)+(i:Nat)).natAbs;omega),sm k2,_,rfl,_,rfl,l,cs,rfl,hg,hw,fun ws lG=>⟨iV,hQ _ ⟨i,?_,hi,ws,lG,?_⟩⟩⟩
  ·rw[Int.zero_add]
  ·rw[k1]
 ·refine fo (q out p ?_ (fun j d hd=>?_) hp)
  ·have:=yK ho
   rw[dM] at this
   omega
  ·obtain⟨x,hx,j',e,hm⟩:=oi ho hd
   obtain⟨_,e2⟩:=i8 hx
   rw[e2] at e
   have e:(0:Int)+(j:Nat)=((j':Nat):Int):=D.int.inj e
   have:j=j':=by omega
   rw[this];exact hm
def TC (S:aT) (F:List Addr) (S':aT):Prop:=∀ b c,S b=some c→b∉F∧S' b=some c
theorem TC.sub (h:TC S F S'):Sub S S':=fun b c e=>(h b c e).2
theorem KI.nil (cs:List (Str×Str)):KI cs []:=⟨List.nodup_nil,fun _ h=>(nomatch h)⟩
theorem mw (ns:List Int) (lo hi:Option Int):fm (ns.map D.int) lo hi=(fm ns lo hi).map D.int:=by
 unfold fm
 rw[zb,List.map_take,List.map_drop]
theorem B6 (ns:List Int) (lo hi:Option Int):(fm ns lo hi).length≤ns.length:=by
 unfold fm
 rw[ye,List.length_drop];omega
theorem Hf (xs:List α) (x:α):ED (xs++[x]).length (-1)=some xs.length:=by
 unfold ED
 rw[zy]
 show (if (0:Int)≤-1 then _ else _)=_
 rw[if_neg (by decide)]
 rw[if_pos (by show -((xs.length+1:Nat):Int)≤-1;omega)]
 congr 1
 show ((-1:Int)+((xs.length+1:Nat):Int)).toNat=_
 omega
theorem J4 (xs:List α) (x:α):lK (xs++[x]) (-1)=some x:=by
 unfold lK
 rw[Hf]
 simp
structure St (t:o3) (S0:aT) (a:Addr) (fs:List (Addr×Ce)) (F:List Addr) (cs:List (Str×Str)) (dl:List D) (rs:qG) (S:aT):Prop where
 sh:bT t.ag S a F cs dl rs
 fa:∀ x∈fs,S x.1=some x.2∧x.1∉F∧S0 x.1=none
 nd:(fs.map Prod.fst).Nodup
 HG:TC S0 F S
section
variable {t:o3}{S0:aT}{a:Addr}{fs:List (Addr×Ce)}{F:List Addr}{cs:List (Str×Str)}{dl:List D}{rs:qG}{S:aT}
theorem St.at (h:St t S0 a fs F cs dl rs S) (i:Nat) (e:fs[i]?=some (b,c)):S b=some c:=(h.fa _ (zK e)).1
theorem St.sub (h:St t S0 a fs F cs dl rs S) (b:Sub S S'):St t S0 a fs F cs dl rs S' :=
 ⟨h.sh.sub b,fun x hx=>⟨b _ _ (h.fa x hx).1,(h.fa x hx).2⟩,h.nd,fun x c hx=>⟨(h.HG x c hx).1,b _ _ (h.HG x c hx).2⟩⟩
theorem St.zero (h:St t S0 a fs F cs dl rs S) (hb:S b=none):S0 b=none:=by
 cases e:S0 b with
 | none=>rfl
 | some c=>have:=h.HG.sub _ _ e;rw[hb] at this;cases this
theorem St.new (h:St t S0 a fs F cs dl rs S) (hp:S p=none) (c:Ce):St t S0 a (fs++[(p,c)]) F cs dl rs (S.set p c):=by
 have h1:=h.sub (.new (c:=c) hp)
 refine⟨h1.sh,fun x hx=>?_,?_,h1.HG⟩
 ·rcases zI.mp hx with hx | hx
  ·exact h1.fa x hx
  ·rw[zH.mp hx]
   exact⟨aa,h.sh.out hp,h.zero hp⟩
 ·rw[zD,List.nodup_append]
  refine⟨h.nd,by simp,fun x hx y hy e=>?_⟩
  obtain⟨z,hz,rfl⟩:=ze.mp hx
  have hy:y=p:=by simpa using hy
  have:=(h.fa z hz).1
  rw[e,hy,hp] at this;cases this
theorem St.put (h:St t S0 a fs F cs dl rs S) (i:Nat) (e:fs[i]?=some (b,c)) (c':Ce):St t S0 a (fs.set i (b,c')) F cs dl rs (S.set b c'):=by
 have hb:=h.fa _ (zK e)
 have hi:=(zo.mp e).1
 have em:(fs.set i (b,c')).map Prod.fst=fs.map Prod.fst:=by
  refine List.ext_getElem? fun j=>?_
  rw[zp,zp]
  by_cases q:j=i
  ·subst q
   rw[List.getElem?_set_self hi,e];rfl
  ·rw[List.getElem?_set_ne (Ne.symm q)]
 refine⟨h.sh.off hb.2.1,fun x hx=>?_,by rw[em];exact h.nd,fun x c hx=>⟨(h.HG x c hx).1,(af (gL hx hb.2.2)).trans (h.HG x c hx).2⟩⟩
 obtain⟨j,hj⟩:=List.getElem?_of_mem hx
 by_cases q:j=i
 ·subst q
  rw[List.getElem?_set_self hi] at hj
  cases hj
  exact⟨aa,hb.2⟩
 ·rw[List.getElem?_set_ne (Ne.symm q)] at hj
  have I_:=h.fa x (zK hj)
  refine⟨(af fun e2=>q ?_).trans I_.1,I_.2⟩
  have a1:(fs.map Prod.fst)[j]?=some x.1:=by rw[zp,hj];rfl
  have a2:(fs.map Prod.fst)[i]?=some b:=by rw[zp,e];rfl
  obtain⟨b1,c1⟩:=zo.mp a1
  obtain⟨b2,c2⟩:=zo.mp a2
  exact (List.getElem_inj h.nd (h₀:=b1) (h₁:=b2)).mp (by rw[c1,c2];exact e2)
theorem St.less (h:St t S0 a fs F cs dl rs S) (n:(Ea.map Prod.fst).Nodup) (p:∀ x∈Ea,x∈fs):St t S0 a Ea F cs dl rs S :=
 ⟨h.sh,fun x hx=>h.fa x (p x hx),n,h.HG⟩
theorem St.W4 (h:St t S0 a fs F cs dl rs S) (hS:bT t.ag S' a F' cs dl' cJ) (hK:vh F F' S S'):St t S0 a fs F' cs dl' cJ S' :=
 ⟨hS,fun x hx=>by obtain⟨h1,h2,h3⟩:=h.fa x hx;exact by obtain⟨k1,k2⟩:=hK _ _ h2 h1;exact⟨k2,k1,h3⟩,h.nd,fun x c hx=>by obtain⟨h1,h2⟩:=h.HG x c hx;exact hK _ _ h1 h2⟩
end
abbrev Cel:=List (Addr×List Row)
def AY (x:Addr×List Row):Addr×Ce:=(x.1,.lst (x.2.map aj))
theorem Hg (hk:r.1∈KS) (hw:Wg cs r.2):Ly S 60 (aj r):=by
 refine (Ly.tup (n:=1) fun x hx=>?_).le (by decide)
 simp only [zf,zF,or_false] at hx
 rcases hx with rfl | rfl
 ·exact (Ly.str (jB _ hk).2.2).le (by decide)
 ·exact hw.ly
def Kr (r:Nat) (kn:Kn):Prop:=∀ x∈kn.map (·.1),x∈KT∨∃ j,r≤j∧j<20∧x=kj j
theorem tM (h:x∈(mj kn z ws).map (·.1)):x=z∨x∈kn.map (·.1):=by
 unfold mj at h
 split at h
 ·rw[zt] at h
  obtain⟨r,hr,e⟩:=ze.mp h
  refine .inr (ze.mpr ⟨r,hr,?_⟩)
  rw[← e]
  dsimp only [Function.comp]
  split <;> rfl
 ·rw[zD] at h
  rcases zI.mp h with h | h
  ·exact .inr h
  ·exact .inl (by simpa using h)
theorem Kr.Gv (h:Kr r kn) (hd:GD KT cs kn d) (hk:O6 kn d fE):Kr r fE:=by
 rcases hk with ⟨n,z,ws,hn,rfl,rfl⟩ | ⟨z,hz,rfl,rfl⟩
 ·intro x hx
  rcases tM hx with rfl | hx
  ·rcases hd with ⟨z',Lb,hz,_,_,e⟩ | ⟨z',Lb,hz,_,hs,e⟩ | ⟨z',_,_,e⟩
   ·injection e with e;injection e with _ e;injection e with e _;injection e with e
    rw[e];exact .inl hz
   ·injection e with e;injection e with _ e;injection e with e _;injection e with e
    obtain⟨w,hw⟩:=Option.isSome_iff_exists.mp hs
    rw[e]
    exact h _ (ze.mpr ⟨_,jY hw,rfl⟩)
   ·injection e with e;injection e with _ e;injection e with _ e;cases e
  ·exact h x hx
 ·intro x hx
  unfold r_ at hx
  obtain⟨r,hr,e⟩:=ze.mp hx
  exact h x (ze.mpr ⟨r,(yg.mp hr).1,e⟩)
theorem Kr.many (h:Kr (r+1) kn) (hm:TB cs r d):GD KS cs kn d∧∃ fE,O6 kn d fE∧Kr r fE:=by
 obtain⟨hr,ws,hw,rfl⟩:=hm
 obtain⟨k1,k2⟩:=RQ r hr
 have hn:gr kn (kj r)=none:=by
  cases q:gr kn (kj r) with
  | none=>rfl
  | some w =>
   exfalso
   rcases h (kj r) (ze.mpr ⟨_,jY q,rfl⟩) with z | ⟨j,hj,KU,e⟩
   ·exact k2 z
   ·have:=N9 r hr j KU e
    omega
 refine⟨.inl ⟨kj r,ws,zA _ k1,hw,hn,rfl⟩,_,.inl ⟨"put",kj r,ws,.inl rfl,rfl,rfl⟩,fun x hx=>?_⟩
 rcases tM hx with rfl | hx
 ·exact .inr ⟨r,zl _,hr,rfl⟩
 ·rcases h x hx with z | ⟨j,hj,KU,e⟩
  ·exact .inl z
  ·exact .inr ⟨j,by omega,KU,e⟩
theorem Vw.sub (h:Vw C S a cs m rows) (b:Sub S S'):Vw C S' a cs m rows:=by
 obtain⟨F,dl,rs,h1,h2⟩:=h.sh
 exact⟨⟨F,dl,rs,h1.sub b,h2⟩,h.mo.sub b,h.len,h.rg⟩
def Lv (t:o3):gG:=fun ds S R _=>∃ ns:List Int,ds=[.i5 (ns.map D.int)]∧ns.length≤63∧Tb t S∧R (.bl true) S
def YG (t:o3) (S0:aT) (a lk lr ld lf:Addr) (L out:List D) (cs:List (Str×Str)) (i r:Nat) (S:aT):Prop :=
 ∃ (F:List Addr) (dl:List D) (rs:qG) (kn:Kn) (ce:Cel),dl.length=i∧St t S0 a ((lk,.dw (g7 kn)) :: (lr,.lst (ce.map fun x=>D.ref x.1)) :: (ld,.lst (out.take r)) :: (lf,.lst L) :: ce.map AY) F cs dl rs S∧KI cs kn∧RI rs dl.length kn∧HI rs cs dl.length (ce.map Prod.snd)∧Kr r kn
theorem J5 (T:Txt w K mg t) (B:Bm mg base):Ok P w base T.Wo 20 (Lv t):=by
 have eZ:Ok P w base T.aU 1 _:=AG T
 have mx:Ok P w base T.dm 1 _:=JG T
 have xl:Ok P w base T.fC 2 _:=AH T
 have nL:jL P w mg base T.dR 5 _:=JD T
 have Hh:Ok P w base T.nh 4 GK:=JL T
 have aD:Ok P w base T.ak 1 iz:=og T
 have Hi:Ok P w base T.ni 7 (YF t):=(JM T).Nk fun ds S R Z h=>h.of
 have D8:Ok P w base T.jS 1 _:=GO T
 have Hj:Ok P w base T.nq 4 _:=J3 T
 have D9:Ok P w base T.jR 2 _:=G9 T
 have j5:Ok P w base T.cF 6 (N3 3):=tI T 3
 have q9:Ok P w base T.dQ 3 G6:=D0 T
 have fT:Ok P w base T.bp 6 (nG 3):=qY T 3
 have u_:Ok P w base T.plain 10 (JS t):=G5 T B
 have q_:Ok P w base T.eU 8 _:=xf T
 refine T.Wo.F.ok cq (by rintro ds S R Z ⟨_,e,_⟩;rw[e];rfl) ?_
 rintro bu A outer s H E ds S R Z hr ⟨ns,e,KY,htb,q⟩
 subst e
 refine⟨_,(sc (eI (i:=1) cq.nd (cf (xl.mono (by decide)) hr T.fC.m T.fC.k T.fC.b d0 (ac (cf (mx.mono (by decide)) hr T.dm.m T.dm.k T.dm.b d0 (ac (cf (eZ.mono (by decide)) hr T.aU.m T.aU.k T.aU.b d0 (ac (dv 0) (ac di an))) an)) an))) (sc (eI (i:=2) cq.nd (mk T.Gp nL (hr.mono (by decide)) T.Gn T.dR.b d0 (ac (dv 1) an))) (sc (eI (i:=3) cq.nd Qy) (sc (eI (i:=4) cq.nd (dI (ac (dI an) an))) (sc (eI (i:=5) cq.nd (dI an)) (sc (CU (si (bK bc hr.units (bo ku hr.units (cf (eZ.mono (by decide)) hr T.aU.m T.aU.k T.aU.b d0 (ac (dv 0) (ac di an))) di) di) (s1 (eI (i:=5) cq.nd (cf (Hj.mono (by decide)) hr T.nq.m T.nq.k T.nq.b d0 (ac (cf (mx.mono (by decide)) hr T.dm.m T.dm.k T.dm.b d0 (ac (cf (eZ.mono (by decide)) hr T.aU.m T.aU.k T.aU.b d0 (ac (dv 0) (ac di an))) an)) (ac (dv 1) (ac di (ac di an))))))) s0)) (sc (CU (Hy (il (bo eF hr.units (sl (dv 0) (o1 di) (o1 di)) (bo NB hr.units (dI (ac dn an)) (cb bH T.bx aV (ac (dv 5) an))))) (gn (i:=6) cq.nd) (sc (CU (si (bK mL hr.units (dv 6) dn) (s1 (eI (i:=7) cq.nd (XY zJ PySem.F.slot_list_pop PySem.F.type_list_pop KC (dv 5)))) (s1 (eI (i:=7) cq.nd (cf (Hh.mono (by decide)) hr T.nh.m T.nh.k T.nh.b d0 (ac (cf (mx.mono (by decide)) hr T.dm.m T.dm.k T.dm.b d0 (ac (dv 6) an)) (ac (dv 1) (ac (dv 3) an)))))))) (sc (se (cf (D8.mono (by decide)) hr T.jS.m T.jS.k T.jS.b d0 (ac (dv 3) (ac (dv 7) an)))) (sc (se (cf (Hi.mono (by decide)) hr T.ni.m T.ni.k T.ni.b d0 (ac (dv 2) (ac (dv 7) an)))) (s1 (se (bm zJ zU zV cT (dv 4) (ac (rM (N:=["_law_key_here", "_law_known_here"]) (src:=[none,some 3]) (kG (ae sY) ["_law_script", "_law_columns_here", "_law_shelf", "_law_known_here", "_law_rows", "_law_deeds", "_law_cell", "_law_deed_here", "_law_well_here", "_law_order_here", "_law_sieve_here", "_law_moment", "_law_due", "_law_found", "_law_many_here"] rfl rfl (by decide +kernel)) (il (cb pX T.fK eJ (ac (dv 3) an))) (oZ (show (["_law_key_here", "_law_known_here"]:List Str).Nodup by decide +kernel)) (a_ rfl) ba (fun _ _ _ _ _=>ud) (fun _ _ _ _ _=>(dJ (ac (dv 0) (ac (ix hr.units (dv 1) (dv 0)) an))))) an))))))))) (sc (CU (Hy (il (bo eF hr.units (dI (ac (cf (eZ.mono (by decide)) hr T.aU.m T.aU.k T.aU.b d0 (ac (dv 0) (ac di an))) (ac (cf (eZ.mono (by decide)) hr T.aU.m T.aU.k T.aU.b d0 (ac (dv 0) (ac di an))) an))) (sl (dv 0) (o1 di) (o1 di)))) (gn (i:=6) cq.nd) (sc (eI (i:=8) cq.nd (cf (mx.mono (by decide)) hr T.dm.m T.dm.k T.dm.b d0 (ac (dv 6) an))) (sc (eI (i:=9) cq.nd (cf (D9.mono (by decide)) hr T.jR.m T.jR.k T.jR.b d0 (ac (dv 8) (ac (dv 1) an)))) (sc (eI (i:=10) cq.nd (cf (j5.mono (by omega)) hr T.cF.m T.cF.k T.cF.b d0 (ac (dv 8) (ac (dv 1) (ac di an))))) (sc (eI (i:=11) cq.nd (cf (aD.mono (by decide)) hr T.ak.m T.ak.k T.ak.b d0 (ac (dv 8) (ac (cb bH T.bx aV (ac (dv 4) an)) an)))) (sc (eI (i:=12) cq.nd (cf (q9.mono (by decide)) hr T.dQ.m T.dQ.k T.dQ.b d0 (ac (dv 1) (ac (dv 9) (ac (rM (N:=["_law_row", "_law_columns_here", "_law_sieve_here"]) (src:=[none,some 1,some 10]) (kG (ae sY) ["_law_script", "_law_columns_here", "_law_shelf", "_law_known_here", "_law_rows", "_law_deeds", "_law_cell", "_law_deed_here", "_law_well_here", "_law_order_here", "_law_sieve_here", "_law_moment", "_law_due", "_law_found", "_law_many_here"] rfl rfl (by decide +kernel)) (il (ix hr.units (dv 4) (dv 11))) (oZ (show (["_law_row", "_law_columns_here", "_law_sieve_here"]:List Str).Nodup by decide +kernel)) (a_ rfl) ba (fun _ _ _ _ _=>(if1 (tv (cf (fT.mono (by omega)) hr T.bp.m T.bp.k T.bp.b d0 (ac (dv 1) (ac (dv 2) (ac (dv 0) an))))))) (fun _ _ _ _ _=>(dv 0))) an))))) (sc (eI (i:=13) cq.nd (cf (u_.mono (by decide)) hr T.plain.m T.plain.k T.plain.b d0 (ac (dv 2) (ac (dv 9) (ac (dv 10) (ac (dv 11) an)))))) (sc (eI (i:=14) cq.nd (cf (q_.mono (by decide)) hr T.eU.m T.eU.k T.eU.b d0 (ac (dv 2) (ac (dv 10) (ac (dv 11) an))))) (sc (si (twd (twor (eC (tv (cb dA T.az aw (ac (dv 13) (ac (sO T.NH IC) an))))) (twor (bK j7 hr.units (dv 13) (dv 12)) (twor (bK j7 hr.units (dv 14) (cb bH T.bx aV (ac (dv 12) an))) (tw1 (tv (cb dA T.az aw (ac (dv 14) (ac (sO T.Gk Bi) an))))))))) (s1 (sr db)) s0) (sc (se (bm zJ zU zV cT (dv 13) (ac dn an))) (sc (eI (i:=12) cq.nd (cf (q9.mono (by decide)) hr T.dQ.m T.dQ.k T.dQ.b d0 (ac (dv 1) (ac (dv 9) (ac (rM (N:=["_law_row", "_law_columns_here", "_law_sieve_here"]) (src:=[none,some 1,some 10]) (kG (ae sY) ["_law_script", "_law_columns_here", "_law_shelf", "_law_known_here", "_law_rows", "_law_deeds", "_law_cell", "_law_deed_here", "_law_well_here", "_law_order_here", "_law_sieve_here", "_law_moment", "_law_due", "_law_found", "_law_many_here"] rfl rfl (by decide +kernel)) (il (ix hr.units (dv 4) (QE di))) (oZ (show (["_law_row", "_law_columns_here", "_law_sieve_here"]:List Str).Nodup by decide +kernel)) (a_ rfl) ba (fun _ _ _ _ _=>(if1 (tv (cf (fT.mono (by omega)) hr T.bp.m T.bp.k T.bp.b d0 (ac (dv 1) (ac (dv 2) (ac (dv 0) an))))))) (fun _ _ _ _ _=>(dv 0))) an))))) (sc (si (twd (twor (bK j7 hr.units (cf (u_.mono (by decide)) hr T.plain.m T.plain.k T.Dq d1 (ac (dv 2) (ac (dv 9) (ac (dv 10) an)))) (dv 12)) (tw1 (bK j7 hr.units (cf (q_.mono (by decide)) hr T.eU.m T.eU.k T.uB d1 (ac (dv 2) (ac (dv 10) an))) (cb bH T.bx aV (ac (dv 12) an)))))) (s1 (sr db)) s0) (s1 (si (bK j7 hr.units (cf (u_.mono (by decide)) hr T.plain.m T.plain.k T.plain.b d0 (ac (dv 2) (ac (dv 9) (ac (dv 10) (ac (dv 11) an))))) (sl (dv 13) o0 (o1 (QE di)))) (s1 (sr db)) s0))))))))))))))) (s1 (sr db)))))))))),?_⟩
 refine⟨_,rfl,ns,0,rfl,fun c0=>⟨⟨c0,rfl⟩,fun l0 WS=>⟨l0,rfl,aa,fun cs hg hN=>?_⟩⟩⟩
 refine⟨_,rfl,fun a ha=>⟨a,cs,rfl,hg,aa,fun S1 F1 BL RC=>⟨rfl,?_⟩⟩⟩
 have W5:TC S F1 S1:=fun b c hb=>by
  have h1:(S.set l0 .well) b=some c:=(Sub.new WS) _ _ hb
  have h2:b≠a:=gL h1 ha
  exact RC b c (fun m=>h2 (zH.mp m)) ((af h2).trans h1)
 have st0:St t S a [] F1 cs [] [] S1:=⟨BL,fun _ h=>(nomatch h),.nil,W5⟩
 refine fun lk V5=>⟨uO,fun q0 hq0=>⟨oJ,fun lr C1=>⟨uO,fun YH J6=>?_⟩⟩⟩
 have TF:=((st0.new V5 (.dw [])).new hq0 (.lst [])).new C1 (.lst [.ref q0])
 have xD:=TF.new J6 (.lst [])
 generalize (((S1.set lk (.dw [])).set q0 (.lst [])).set lr (.lst [.ref q0]))=SA at TF xD J6 ⊢
 refine⟨fun aK S'=>∃ (ld:Addr) (out:List D),aK=[some (.i5 (ns.map D.int)),some (.tup (cs.map ay)),some (.ref a),some (.ref lk),some (.ref lr),some (.ref ld),none,none,none,none,none,none,none,none,none]∧out.length≤20∧(∀ j d,out[j]?=some d→TB cs j d)∧St t S a [(lk,.dw []),(q0,.lst []),(lr,.lst [.ref q0]),(ld,.lst out)] F1 cs [] [] S',?_,?_⟩
 ·refine⟨_,rfl,ns,0,rfl,fun c1=>⟨(by decide),_,rfl,ck (fun h=>?_) (fun h=>?_)⟩⟩
  ·refine⟨_,rfl,ns,34,rfl,fun c2=>⟨⟨c2,rfl⟩,fun l1 Ek=>⟨_,rfl,l1,cs,rfl,hg,aa,fun out p Ji EB hp=>?_⟩⟩⟩
   have sb:Sub SA ((SA.set YH (.lst [])).set l1 .well):=(Sub.new J6).trans (.new Ek)
   exact fo ⟨p,out,rfl,Ji,EB,(TF.sub sb).new hp (.lst out)⟩
  ·exact fo ⟨YH,[],rfl,ya _,fun j d h=>by simp at h,xD⟩
 rintro aK S' ⟨ld,out,rfl,Ji,EB,L7⟩
 clear TF xD J6
 refine⟨fun aK S'=>∃ (o5 o6 o7:Option D) (lf:Addr) (L out:List D) (i r:Nat),aK=[some (.i5 (ns.map D.int)),some (.tup (cs.map ay)),some (.ref a),some (.ref lk),some (.ref lr),o5,o6,o7,none,none,none,none,none,none,none]∧YG t S a lk lr ld lf L out cs i r S'∧i≤100,?_,?_⟩
 ·refine⟨_,rfl,_,rfl,_,rfl,fun p1 AI=>⟨oJ,fun p2 iD=>?_⟩⟩
  have TH:=(L7.new AI (.lst (fm (ns.map D.int) (some 1) (some 25)))).new iD (.lst [.au])
  generalize YI:aT.set (S'.set p1 _) p2 _=S4 at TH ⊢
  refine⟨_,rfl,_,rfl,.inl ⟨_,TH.at 3 rfl,p2,.au,_,rfl,rfl,TH.at 5 rfl,by omega,by omega,fun p3 La=>?_⟩⟩
  rw[Int.toNat_natCast]
  have Ec:=TH.new La (.lst (List.replicate out.length .au))
  generalize S4.set p3 (.lst (List.replicate out.length .au))=S5 at Ec ⊢
  have W6:(fm (ns.map D.int) (some 1) (some 25)).length≤63:=by
   rw[mw,zb]
   exact zG (B6 _ _ _) KY
  refine⟨_,_,Ec.at 4 rfl,Ec.at 6 rfl,sm (by rw[List.length_replicate];omega),fun lf HB=>⟨_,aa,?_⟩⟩
  have RS:=Ec.new HB (.lst (fm (ns.map D.int) (some 1) (some 25)++List.replicate out.length .au))
  generalize S5.set lf (.lst (fm (ns.map D.int) (some 1) (some 25)++List.replicate out.length .au))=S6 at RS ⊢
  rw[mw] at RS W6 ⊢
  rw[zb] at W6
  generalize fm ns (some 1) (some 25)=ms at RS W6 ⊢
  have st7:St t S a ((lk,.dw (g7 [])) :: (lr,.lst ([(q0,([]:List Row))].map fun x=>D.ref x.1)) :: (ld,.lst (out.take out.length)) :: (lf,.lst (ms.map D.int++List.replicate out.length .au)) :: [(q0,([]:List Row))].map AY) F1 cs [] [] S6:=by
   rw[yB]
   refine RS.less ?_ fun x hx=>?_
   ·have nd:=RS.nd
    simp only [List.cons_append,List.nil_append,zB,List.map_nil,yc,zf,zF,not_or,or_false,AY] at nd ⊢
    grind
   ·simp only [zB,List.map_nil,zf,zF,or_false,AY] at hx
    rcases hx with rfl | rfl | rfl | rfl | rfl <;> simp [g7]
  refine⟨fun i aK S'=>∃ (o6 o7:Option D),aK=[some (.i5 (ns.map D.int)),some (.tup (cs.map ay)),some (.ref a),some (.ref lk),some (.ref lr),some (.ref ld),o6,o7,none,none,none,none,none,none,none]∧YG t S a lk lr ld lf (ms.map D.int++List.replicate out.length .au) out cs i (out.length - (i - ms.length)) S'∧i≤ms.length+out.length,?_,?_,?_,?_⟩
  ·refine⟨none,none,rfl,⟨F1,[],[],[],[(q0,[])],rfl,?_,KI.nil cs,RI.nil,⟨rfl,fun m rows e=>?_⟩,fun x hx=>by cases hx⟩,ya _⟩
   ·rw[Nat.zero_sub,Nat.sub_zero];exact st7
   ·cases m with
    | zero =>
     cases e
     exact⟨[],[],rfl,KI.nil cs,.refl _,rfl,fun z=>rfl⟩
    | succ m=>simp at e
  ·rintro i aK S' ⟨o6,o7,_,⟨F,dl,rs,kn,ce,_,st,_⟩,_⟩
   exact st.at 3 rfl
  ·rintro i d aK S' hd ⟨o6,o7,rfl,⟨F,dl,rs,kn,ce,OI,st,hI,hR,hH,RT⟩,hiM⟩
   have hd:(ms.map D.int++List.replicate out.length D.au)[i]?=some d:=hd
   have aaT:i<ms.length+out.length:=by
    have:=(zo.mp hd).1
    rw[zy,zb,List.length_replicate] at this
    exact this
   have N_:dl.length≤100:=by omega
   refine⟨fun mD S2=>∃ (de:D) (fE:Kn),mD=[some (.i5 (ns.map D.int)),some (.tup (cs.map ay)),some (.ref a),some (.ref lk),some (.ref lr),some (.ref ld),some d,some de,none,none,none,none,none,none,none]∧St t S a ((lk,.dw (g7 kn)) :: (lr,.lst (ce.map fun x=>D.ref x.1)) :: (ld,.lst (out.take (out.length - (i+1 - ms.length)))) :: (lf,.lst (ms.map D.int++List.replicate out.length .au)) :: ce.map AY) F cs dl rs S2∧GD KS cs kn de∧O6 kn de fE∧KI cs fE∧Kr (out.length - (i+1 - ms.length)) fE,?_,?_⟩
   ·by_cases him:i<ms.length
    ·rw[List.getElem?_append_left (by rw[zb];exact him),zp] at hd
     cases e5:ms[i]? with
     | none=>rw[e5] at hd;cases hd
     | some c =>
      rw[e5] at hd
      cases hd
      have er:out.length - (i - ms.length)=out.length - (i+1 - ms.length):=by omega
      rw[er] at st RT
      refine⟨_,rfl,_,rfl,bV ⟨_,rfl,⟨c,rfl⟩,fun l hl=>⟨_,rfl,_,rfl,l,cs,lk,kn,rfl,hg,aa,(st.sub (.new hl)).at 0 rfl,hI,fun de Lw=>?_⟩⟩⟩
      obtain⟨fE,HC,Oa⟩:=(GD.up Lw).as hI
      exact⟨_,.new hl,de,fE,rfl,st,GD.up Lw,HC,Oa,RT.Gv Lw HC⟩
    ·rw[List.getElem?_append_right (by rw[zb];omega)] at hd
     have hd2:d=.au:=List.eq_of_mem_replicate (zK hd)
     subst hd2
     obtain⟨r,hr⟩:∃ r,out.length - (i - ms.length)=r+1:=⟨out.length - (i - ms.length) - 1,by omega⟩
     have GA:out.length - (i+1 - ms.length)=r:=by omega
     rw[hr] at st RT
     rw[GA]
     have Ln:r<out.length:=by omega
     have SW:out[r]?=some out[r]:=zg Ln
     have hm:=EB r _ SW
     obtain⟨Lw,fE,HC,Ob⟩:=RT.many hm
     have Oa:KI cs fE:=by
      obtain⟨k2,fW,hI2⟩:=Lw.as hI
      obtain⟨_,ws,_,e⟩:=hm
      have e1:fE=k2:=by
       rcases HC with ⟨n1,z1,w1,_,e1,rfl⟩ | ⟨z1,_,e1,rfl⟩
       ·rcases fW with ⟨n2,z2,w2,_,e2,rfl⟩ | ⟨z2,_,e2,rfl⟩
        ·rw[e1] at e2;cases e2;rfl
        ·rw[e1] at e2;cases e2
       ·rw[e] at e1;cases e1
      rw[e1];exact hI2
     have JE:=st.at 2 rfl
     have YJ:(out.take (r+1)).length=r+1:=by rw[ye];omega
     refine⟨_,rfl,_,rfl,fk ⟨_,rfl,⟨rfl,_,JE⟩,ld,_,out[r],rfl,rfl,JE,?_,?_⟩⟩
     ·rw[YJ,Nat.add_sub_cancel,List.getElem?_take,if_pos (Nat.lt_succ_self r)];exact SW
     ·have xD:=st.put 2 rfl (.lst (out.take (r+1)).dropLast)
      have ed:(out.take (r+1)).dropLast=out.take r:=by
       rw[List.dropLast_eq_take,YJ,Nat.add_sub_cancel,List.take_take,Nat.min_eq_left (yI r)]
      rw[ed] at xD ⊢
      exact fo ⟨out[r],fE,rfl,xD,Lw,HC,Oa,Ob⟩
   ·rintro mD S2 ⟨de,fE,rfl,xD,Lw,HC,Oa,Ob⟩
    have YB:=hI.len
    refine⟨_,rfl,_,rfl,lk,kn,de,fE,rfl,xD.at 0 rfl,by omega,HC,?_⟩
    have Oc:=xD.put 0 rfl (.dw (g7 fE))
    generalize S2.set lk (.dw (g7 fE))=S3 at Oc ⊢
    refine⟨_,rfl,_,rfl,D7 Oc.sh hg hI hR N_ Lw HC fun S4 F4 rs4 YI hK4 YK hold=>?_⟩
    have Od:=Oc.W4 YI hK4
    have W7:=Oa.len
    have ek:(g7 fE).map (·.1)=(fE.map (·.1)).map Sum.inr:=by unfold g7;rw[zt,zt];rfl
    refine⟨_,rfl,⟨rfl,_,Od.at 1 rfl⟩,_,rfl,lk,g7 fE,fE.map (·.1),rfl,Od.at 0 rfl,ek,by unfold g7;rw[zb];omega,fun ss hp ho p uW=>⟨_,aa,?_⟩⟩
    have TJ:ss.length≤30:=by rw[hp.length_eq,zb];exact W7
    have Oe:=Od.sub (.new (c:=.lst (ss.map D.str)) uW)
    have RN:(S4.set p (.lst (ss.map D.str))) p=some (.lst (ss.map D.str)):=aa
    generalize S4.set p (.lst (ss.map D.str))=YL at Oe RN ⊢
    refine comp_map (fun d=>match d with | .str z=>.tup [.str z,rB fE z] | _=>.au) RN (by show (ss.map D.str).length≤1000;rw[zb];omega) (fun d hd Q hQ=>?_) fun p2 iD=>?_
    ·obtain⟨z,hz,rfl⟩:=ze.mp hd
     obtain⟨ws,lG⟩:=lx (hp.mem_iff.mp hz)
     have N7:rB fE z=.tup ws:=by unfold rB;rw[lG]
     have hQ:Q (.tup [.str z,rB fE z]) YL:=hQ
     rw[N7] at hQ
     exact⟨_,rfl,_,rfl,_,rfl,g7 fE,.tup ws,Oe.at 0 rfl,by rw[qJ,lG];rfl,cD,hQ⟩
    ·have em:(ss.map D.str).map (fun d=>match d with | .str z=>D.tup [.str z,rB fE z] | _=>.au)=(iP fE ss).map aj:=by rw[tL hp,zt];rfl
     rw[show (⟨ss.map D.str,fun S=>sP S (.ref p) (ss.map D.str)⟩:yX).xs=ss.map D.str from rfl,em]
     have Of:=Oe.new iD (.lst ((iP fE ss).map aj))
     generalize YL.set p2 (.lst ((iP fE ss).map aj))=S6' at Of ⊢
     have Hk:ce.length=dl.length+1:=by have:=hH.1;rw[zb] at this;exact this
     refine⟨lr,_,_,rfl,rfl,Of.at 1 rfl,bg (by rw[zb];omega),?_⟩
     have W8:=Of.put 1 rfl (.lst (ce.map (fun x=>D.ref x.1)++[.ref p2]))
     refine⟨some d,some de,rfl,⟨F4,dl++[de],rs4,fE,ce++[(p2,iP fE ss)],by rw[zy,OI];rfl,?_,Oa,by rw[zy];exact YK,?_,Ob⟩,by omega⟩
     ·rw[zD,zD]
      exact W8
     ·rw[zy,zD]
      exact hH.step hold Oa YK hp ho
  ·rintro aK S' ⟨o6,o7,rfl,Eg,hiM⟩
   exact fo ⟨_,o6,o7,lf,_,out,_,_,rfl,Eg,by omega⟩
 ·rintro aK S' ⟨o5,o6,o7,lf,L,out,i,r,rfl,Eg,hi⟩
  obtain⟨F,dl,rs,kn,ce,OI,st,hI,hR,hH,RT⟩:=Eg
  have Hk:ce.length=dl.length+1:=by have:=hH.1;rw[zb] at this;exact this
  refine⟨fun aK HH=>Sub S' HH∧aK[0]?=some (some (.i5 (ns.map D.int))),?_,?_⟩
  ·refine⟨_,rfl,ns,25,rfl,fun c1=>⟨_,rfl,ns,1,rfl,fun c2=>⟨cD,fun p1 AI=>⟨_,rfl,_,rfl,_,rfl,fun p2 iD=>⟨_,_,(Sub.new iD) _ _ aa,aa,?_,fun lg Tp=>⟨_,aa,?_⟩⟩⟩⟩⟩⟩
   ·rw[mw,zb]
    have:=B6 ns (some 26) (some 34)
    exact sm (by show 2+_≤_;omega)
   rw[mw] at Tp ⊢
   have eL:([D.int c1,.int c2]++(fm ns (some 26) (some 34)).map D.int)=(c1 :: c2 :: fm ns (some 26) (some 34)).map D.int:=rfl
   generalize (c1 :: c2 :: fm ns (some 26) (some 34))=ls at eL
   rw[eL]
   have TK:=((Sub.new (c:=.lst [.int c1,.int c2]) AI).trans (.new (c:=.lst ((fm ns (some 26) (some 34)).map D.int)) iD)).trans (.new (c:=.lst (ls.map D.int)) Tp)
   have RU:(((S'.set p1 (.lst [.int c1,.int c2])).set p2 (.lst ((fm ns (some 26) (some 34)).map D.int))).set lg (.lst (ls.map D.int))) lg=some (.lst (ls.map D.int)):=aa
   generalize ((S'.set p1 (.lst [.int c1,.int c2])).set p2 (.lst ((fm ns (some 26) (some 34)).map D.int))).set lg (.lst (ls.map D.int))=SB at TK RU ⊢
   have TL:=st.sub TK
   have cell:∀ (k:Nat) (x:Addr×List Row),ce[k]?=some x→SB x.1=some (.lst (x.2.map aj)):=fun k x e=>TL.at (4+k) (by show (_ :: _ :: _ :: _ :: ce.map AY)[4+k]?=_;rw[Nat.add_comm];show (ce.map AY)[k]?=_;rw[zp,e];rfl)
   have snap:∀ (k:Nat) (x:Addr×List Row),ce[k]?=some x→Snap rs cs k x.2:=fun k x e=>hH.2 k x.2 (by rw[zp,e];rfl)
   have W9:Tb t SB:=htb.sub (st.HG.sub.trans TK)
   refine⟨fun i aK HH=>∃ (o6 o8 o9 W_ Xa Xb Xc Xd:Option D),aK=[some (.i5 (ns.map D.int)),some (.tup (cs.map ay)),some (.ref a),some (.ref lk),some (.ref lr),o5,o6,o7,o8,o9,W_,Xa,Xb,Xc,Xd]∧Sub SB HH,⟨_,_,_,_,_,_,_,_,rfl,.refl _⟩,?_,?_,?_⟩
   ·rintro i aK HH ⟨_,_,_,_,_,_,_,_,_,sb⟩
    exact sb _ _ RU
   ·rintro j d aK HH hd ⟨o6,o8,o9,W_,Xa,Xb,Xc,Xd,rfl,sb⟩
    have hd:(ls.map D.int)[j]?=some d:=hd
    obtain⟨c,hc,rfl⟩:=ze.mp (zK hd)
    refine⟨_,rfl,⟨c,rfl⟩,fun l hl=>?_⟩
    have HF:Sub SB (HH.set l .well):=sb.trans (.new hl)
    have Rz:(HH.set l .well) l=some .well:=aa
    generalize HH.set l .well=Xe at HF Rz ⊢
    refine⟨_,rfl,_,rfl,l,cs,rfl,hg,Rz,fun ps wy ho=>?_⟩
    refine⟨_,rfl,_,rfl,l,cs,2,rfl,rfl,hg,hN,Rz,fun dv Oh=>?_⟩
    have Oi:=TL.at 1 rfl
    refine⟨_,rfl,_,rfl,_,rfl,.inl ⟨_,HF _ _ Oi,l,_,rfl,by rw[zb];omega,uX (by rw[zb];omega) (by rw[zb];omega),Rz,fun m hm0 SU=>?_⟩⟩
    rw[zb] at SU
    obtain⟨k,rfl⟩:=Int.eq_ofNat_of_zero_le hm0
    have hk:k<ce.length:=by omega
    have ek:ce[k]?=some ce[k]:=zg hk
    generalize ce[k]=x at ek
    obtain⟨qx,rows⟩:=x
    have Xf:=snap k _ ek
    obtain⟨RV,Ln⟩:=Xf.rg
    have Ln:rows.length≤30:=Ln
    have RV:Rg cs rows:=RV
    have YM:SB qx=some (.lst (rows.map aj)):=cell k _ ek
    refine⟨_,rfl,_,rfl,_,rfl,_,rfl,_,.ref qx,HF _ _ Oi,fj (by rw[zp,ek];rfl),_,HF _ _ YM,?_⟩
    refine dG (tH cs dv) id (HF _ _ YM) (by show (rows.map aj).length≤1000;rw[zb];omega) (fun x hx Q Q' hQ AF=>?_) fun p3 La=>?_
    ·obtain⟨r,hr,rfl⟩:=ze.mp hx
     exact⟨_,rfl,_,rfl,_,rfl,cs,dv,r,rfl,hg,Oh,RV.1 r hr,_,rfl,ck (fun h=>⟨_,rfl,hQ h⟩) (fun h=>AF h)⟩
    have e1:((rows.map aj).filter (tH cs dv)).map id=(rows.filter fun r=>aJ cs r 3 dv).map aj:=fF fun r=>rfl
    rw[show (⟨rows.map aj,fun S=>sP S (.ref qx) (rows.map aj)⟩:yX).xs=rows.map aj from rfl,e1]
    have fl:(rows.filter fun r=>aJ cs r 3 dv).length≤rows.length:=yk _ _
    have Xg:Rg cs (rows.filter fun r=>aJ cs r 3 dv):=RV.sub yt
    refine⟨cs,ps,wy,p3,_,rfl,hg,ho.pin,aa,Nat.lt_of_le_of_lt fl (by omega),Xg,fun NZ p4 Ll Tu RL=>?_⟩
    have xp:Sub SB ((Xe.set p3 (.lst ((rows.filter fun r=>aJ cs r 3 dv).map aj))).set p4 (.lst (NZ.map aj))):=(HF.trans (.new La)).trans (.new RL)
    have h4:((Xe.set p3 (.lst ((rows.filter fun r=>aJ cs r 3 dv).map aj))).set p4 (.lst (NZ.map aj))) p4=some (.lst (NZ.map aj)):=aa
    generalize (Xe.set p3 (.lst ((rows.filter fun r=>aJ cs r 3 dv).map aj))).set p4 (.lst (NZ.map aj))=O9 at xp h4 ⊢
    have Xh:Vw t.ag SB a cs (.int (k:Nat)) rows:=Xf.vw TL.sh hR (by show (if 0≤((k:Nat):Int)∧((k:Nat):Int)≤((dl.length:Nat):Int) then some ((k:Nat):Int) else none)=_;rw[if_pos (by omega)]) gt_int
    refine⟨_,rfl,_,rfl,_,rfl,_,rfl,a,cs,ps,wy,dv,_,rows,rfl,hg,ho,Oh,Xh.sub xp,W9.sub xp,fun xt p5 WY Tv YN=>?_⟩
    have e2:xt=NZ:=u5 hg ho.pin (Xg.perm Ll) Tv Tu (WY.trans Ll.symm)
    subst e2
    have YO:∀ S,∀ d∈xt.map aj,Ly S 60 d:=fun S d hd=>by
     obtain⟨r,hr,rfl⟩:=ze.mp hd
     have jX:=(yg.mp (Ll.mem_iff.mp hr)).1
     exact Hg (Xf.key r jX) (RV.1 r jX)
    have JR:Sub O9 (O9.set p5 (.lst (xt.map aj))):=.new YN
    have h5:(O9.set p5 (.lst (xt.map aj))) p5=some (.lst (xt.map aj)):=aa
    refine⟨_,rfl,_,rfl,_,rfl,a,cs,dv,_,rows,rfl,hg,Oh,Xh.sub (xp.trans JR),?_⟩
    have Ek:(xt.map aj).length=(rows.filter fun r=>aJ cs r 3 dv).length:=by rw[zb,Ll.length_eq]
    refine⟨_,rfl,_,_,_,_,rfl,D4,.inl ⟨rfl,_,h5⟩,_,rfl,bV ⟨_,rfl,_,rfl,qL h5 (JR _ _ h4) (YO _) ⟨_,rfl,bV ⟨_,rfl,_,rfl,_,rfl,.inl ⟨_,JR _ _ h4,_,rfl,aX ?_ ⟨_,rfl,_,_,_,_,rfl,vG,rfl,_,rfl,bV ?_⟩⟩⟩⟩⟩⟩
    ·rw[Ek];simp
    have aaZ:(xt.map aj).length≤30:=by rw[Ek];exact zG fl Ln
    refine⟨_,rfl,⟨rfl,_,h5⟩,p5,_,_,rfl,rfl,h5,bg (by omega),?_⟩
    rw[dy]
    have RW:Sub SB (O9.set p5 (.lst (xt.map aj++[.au]))):=xp.trans (.new YN)
    have YQ:(O9.set p5 (.lst (xt.map aj++[.au]))) p5=some (.lst (xt.map aj++[.au])):=aa
    generalize O9.set p5 (.lst (xt.map aj++[.au]))=TM at RW YQ ⊢
    obtain⟨Xi,last,Xj⟩:∃ Xi last,ce=Xi++[last]:=by
     rcases List.eq_nil_or_concat ce with e | ⟨l,b,e⟩
     ·rw[e] at Hk;simp at Hk
     ·exact⟨l,b,by rw[e,List.concat_eq_append]⟩
    obtain⟨ql,g5⟩:=last
    have el:ce[dl.length]?=some (ql,g5):=by
     have:Xi.length=dl.length:=by rw[Xj,zy] at Hk;simpa using Hk
     rw[Xj,List.getElem?_append_right (by omega),this,Nat.sub_self];rfl
    have TJ:=snap _ _ el
    obtain⟨Hl,RX⟩:=TJ.rg
    have RX:g5.length≤30:=RX
    have Hl:Rg cs g5:=Hl
    have YR:SB ql=some (.lst (g5.map aj)):=cell _ _ el
    have W0:lK (ce.map fun x=>D.ref x.1) (-1)=some (.ref ql):=by rw[Xj,zD];exact J4 _ _
    refine⟨_,rfl,_,rfl,_,rfl,_,rfl,_,.ref ql,RW _ _ Oi,W0,_,RW _ _ YR,?_⟩
    refine dG (tH cs dv) id (RW _ _ YR) (by show (g5.map aj).length≤1000;rw[zb];omega) (fun x hx Q Q' hQ AF=>?_) fun p6 hp6=>?_
    ·obtain⟨r,hr,rfl⟩:=ze.mp hx
     exact⟨_,rfl,_,rfl,_,rfl,cs,dv,r,rfl,hg,Oh,Hl.1 r hr,_,rfl,ck (fun h=>⟨_,rfl,hQ h⟩) (fun h=>AF h)⟩
    have e6:((g5.map aj).filter (tH cs dv)).map id=(g5.filter fun r=>aJ cs r 3 dv).map aj:=fF fun r=>rfl
    rw[show (⟨g5.map aj,fun S=>sP S (.ref ql) (g5.map aj)⟩:yX).xs=g5.map aj from rfl,e6]
    have fl6:(g5.filter fun r=>aJ cs r 3 dv).length≤g5.length:=yk _ _
    have RY:Rg cs (g5.filter fun r=>aJ cs r 3 dv):=Hl.sub yt
    refine⟨cs,ps,wy,p6,_,rfl,hg,ho.pin,aa,Nat.lt_of_le_of_lt fl6 (by omega),RY,fun RZ p7 TN pw6 hp7=>?_⟩
    have Xk:Sub TM ((TM.set p6 (.lst ((g5.filter fun r=>aJ cs r 3 dv).map aj))).set p7 (.lst (RZ.map aj))):=(Sub.new hp6).trans (.new hp7)
    have h7:((TM.set p6 (.lst ((g5.filter fun r=>aJ cs r 3 dv).map aj))).set p7 (.lst (RZ.map aj))) p7=some (.lst (RZ.map aj)):=aa
    generalize (TM.set p6 (.lst ((g5.filter fun r=>aJ cs r 3 dv).map aj))).set p7 (.lst (RZ.map aj))=TQ at Xk h7 ⊢
    have Xl:=RW.trans Xk
    have YS:Vw t.ag SB a cs .au g5:=TJ.vw TL.sh hR rfl uS
    refine⟨_,rfl,_,rfl,_,rfl,a,cs,ps,wy,dv,.au,g5,rfl,hg,ho,Oh,YS.sub Xl,W9.sub Xl,fun Oj p8 pm8 pw8 hp8=>?_⟩
    have e8:Oj=RZ:=u5 hg ho.pin (RY.perm TN) pw8 pw6 (pm8.trans TN.symm)
    subst e8
    have Xm:∀ S,∀ d∈Oj.map aj,Ly S 60 d:=fun S d hd=>by
     obtain⟨r,hr,rfl⟩:=ze.mp hd
     have jX:=(yg.mp (TN.mem_iff.mp hr)).1
     exact Hg (TJ.key r jX) (Hl.1 r jX)
    have R1:Sub TQ (TQ.set p8 (.lst (Oj.map aj))):=.new hp8
    have h8:(TQ.set p8 (.lst (Oj.map aj))) p8=some (.lst (Oj.map aj)):=aa
    generalize TQ.set p8 (.lst (Oj.map aj))=TR at R1 h8 ⊢
    have TU:=Xl.trans R1
    have hl8:(Oj.map aj).length=(g5.filter fun r=>aJ cs r 3 dv).length:=by rw[zb,TN.length_eq]
    refine⟨_,rfl,qL h8 (R1 _ _ h7) (Xm _) ⟨_,rfl,bV ⟨_,rfl,_,rfl,a,cs,dv,.au,g5,rfl,hg,Oh,YS.sub TU,_,rfl,_,rfl,.inl ⟨_,R1 _ _ h7,_,rfl,aX ?_ ?_⟩⟩⟩⟩
    ·rw[hl8];simp
    refine⟨_,rfl,_,rfl,_,rfl,_,rfl,a,cs,ps,wy,dv,_,rows,rfl,hg,ho,Oh,Xh.sub TU,W9.sub TU,fun Ol p9 pm9 pw9 hp9=>?_⟩
    have e9:Ol=xt:=u5 hg ho.pin (Xg.perm Ll) pw9 Tu (pm9.trans Ll.symm)
    subst e9
    have Xn:Sub TR (TR.set p9 (.lst (Ol.map aj))):=.new hp9
    have h9:(TR.set p9 (.lst (Ol.map aj))) p9=some (.lst (Ol.map aj)):=aa
    generalize TR.set p9 (.lst (Ol.map aj))=S9x at Xn h9 ⊢
    refine⟨_,rfl,_,rfl,_,rfl,_,Xn _ _ (R1 _ _ (Xk _ _ YQ)),fun p10 R3=>?_⟩
    have Xo:fm (Ol.map aj++[D.au]) none (some (-1))=Ol.map aj:=Ha _ _
    exact qL ((Sub.new R3) _ _ h9) (by rw[aa];exact congrArg (fun x=>some (Ce.lst x)) Xo) (YO _) ⟨_,rfl,bV ⟨_,_,_,_,_,_,_,_,rfl,(TU.trans Xn).trans (.new R3)⟩⟩
   ·rintro aK HH ⟨o6,o8,o9,W_,Xa,Xb,Xc,Xd,rfl,sb⟩
    exact fo ⟨TK.trans sb,rfl⟩
  ·rintro aK HH ⟨sb,e0⟩
   exact⟨S,st.HG.sub.trans sb,q⟩
def Hm (t:o3) (K:PySem.W.Frag):Sp:=fun vs H Q _=>t_ K (Lv t) vs H Q E0
theorem Om (T:Txt w K mg t) (B:Bm mg base):cj P w K mg base Ss 20 t.K4 t.Gg ["_law_script"] (Hm t K):=cj.calm (J5 T B)
theorem Hn {w:World}{K:PySem.W.Frag}{mg:Str→Option Value}{t:o3} (T:Txt w K mg t) {H:Hp}{a:Addr}{ns:List Int} (hl:ns.length≤63) (hO:v5 t.ts H) (hS:jH K H a (ns.map V.int)):Hm t K [.ref a] H (fun v _=>v=.bl true) fun _ _ _=>False:=by
 have hR:Kw K H a (ns.map V.int):=by
  rcases hS with (h | h) | h
  ·rcases hO.all a with q | ⟨o,xs,q⟩ | ⟨_,q⟩
   ·rw[q] at h;cases h
   ·rw[q] at h;cases h
   ·rw[q] at h;cases h
  ·exact .inl h
  ·exact .inr h
 have DK:t.aI≠t.aR:=fun e=>by
  have:=T.np
  rw[e] at this
  simp at this
 have tok:∀ q,Bp H q #[]:=fun q=>⟨trivial,fun _ _ e=>by cases e⟩
 refine⟨[.i5 (ns.map D.int)],fun b=>if b=t.aR then some (.tab qK) else if b=t.aI then some (.tab qV) else none,fun d _=>d=.bl true,fun _ _=>False,aW (E8 hR (Bo ns)) bG,fun b c e=>?_,⟨ns,rfl,hl,⟨if_pos rfl,(if_neg DK).trans (if_pos rfl)⟩,rfl⟩,fun d S v H' e r _ _=>by subst e;exact r.bl,fun _ _ _ z=>z.elim⟩
 by_cases h1:b=t.aR
 ·have e:=(if_pos h1).symm.trans e
  cases e
  rw[h1]
  exact⟨#[],hO.tab _ T.l6,tok _⟩
 ·by_cases h2:b=t.aI
  ·have e:=(if_neg h1).symm.trans e
   have e:=(if_pos h2).symm.trans e
   cases e
   rw[h2]
   exact⟨#[],hO.tab _ T.kg,tok _⟩
  ·have e:=(if_neg h1).symm.trans e
   have e:=(if_neg h2).symm.trans e
   cases e
theorem Oo {P:Program}{w:World}{K:PySem.W.Frag}{mg:Str→Option Value}{fa:Addr}{ts:List Addr} (MH:mg "law" = some (.ref fa)) (T:∃ t:o3,t.ts=ts∧Txt w K mg t):∃ (fd:FuncData) (sp:Sp),(∀ b∈ts,∃ c,codeHdIn K c b=true)∧(∀ (s:Shared) (u:Value),BindsTo s fd ⟨[u],[]⟩ [("_law_script",u)])∧(∀ base:Heap,Bm mg base→K.In base→base.Ns mainGlobals mg→cj P w K mg base Ss 20 fa fd ["_law_script"] sp)∧∀ (H:Hp) (a:Addr) (ns:List Int),ns.length≤63→v5 ts H→jH K H a (ns.map V.int)→sp [.ref a] H (fun v _=>v=.bl true) fun _ _ _=>False:=by
 obtain⟨t,et,T⟩:=T
 have e0:=MH.symm.trans T.Wo.m
 cases e0
 subst et
 exact⟨_,_,fun b hb=>(T.ta b (hb)).elim (fun e=>⟨_,e ▸ T.dW⟩) (fun e=>⟨_,e ▸ T.cS⟩),T.bl,fun base B kb nb=>Om T B,fun H a ns hl hO hS=>Hn T hl hO hS⟩
end My
namespace PySem.W.Fast
def tw1320624057520283145:=0
def tw7057539693709865472:=0
def tw10980586235214543368:=0
def tw9493329360228256042:=0
def tw5346678536855808711:=0
def tw9406901753388188804:=0
def tw13006799594442325831:=0
def tw10885353771431349163:=0
def tw3408399713175907678:=0
def tw2970300033839511605:=0
def tw6916993405959769486:=0
def tw9632423842564013673:=0
def tw13278240746886597608:=0
def tw9495407588660053799:=0
def tw8872375608672858780:=0
def tw10381304947732162028:=0
def tw12167298262871833925:=0
def tw2226590195498892987:=0
def tw13892789769167334062:=0
def tw2138070655109863507:=0
def tw15463623988180575355:=0
def tw2216585293546263949:=0
def tw817747160688814110:=0
def tw1838920589523109404:=0
def tw15640192466624851001:=0
def tw1324434911207461015:=0
def tw3815688539372605523:=0
def tw13938691971964688167:=0
def tw12972254845124451909:=0
def tw7252657662185471255:=0
def tw13586091942531033877:=0
def tw2322001543530622250:=0
def tw2152759647392753080:=0
def tw17541718935221710321:=0
def tw2368650025235206472:=0
def tw14568450015302398393:=0
def tw59890401964271502:=0
def tw14727906097944918981:=0
def tw17461432128431255344:=0
def tw7907248386393265467:=0
def tw10651175777699086614:=0
def tw11983510998180151657:=0
def tw14779612371799756871:=0
def tw3959738180754920244:=0
def tw1153783585446068899:=0
def tw15047126185373233214:=0
def tw6252382730602120608:=0
def tw17268932617734017904:=0
def tw9347384005328873385:=0
def tw13857266754477245285:=0
def tw145079751326923290:=0
def tw18184696822104903602:=0
def tw9275306033284660232:=0
def tw17379704902358088373:=0
def tw12708165413773383605:=0
def tw10786530578338701042:=0
def tw16894023726402484341:=0
def tw4480277567596599334:=0
def tw773546029853520637:=0
def tw7690552124001857696:=0
def tw14345666988348583523:=0
def tw8601529149245334717:=0
def tw5723889036877302525:=0
def tw6832457345993310565:=0
def tw5209408379345303172:=0
def tw1128492498951737979:=0
def tw4462755567781337984:=0
def tw9224857469579973230:=0
def tw6615830690455767523:=0
def tw8577753713364272443:=0
def tw13618680152714548271:=0
def tw7840686105772987019:=0
def tw119733683723501807:=0
def tw16845285511076805123:=0
def tw8078615811972446740:=0
def tw11384079652736217581:=0
def tw14851588962631323838:=0
def tw2861613304209425825:=0
def tw4757781620680274738:=0
def tw117557206990564852:=0
def tw12842360332863479999:=0
def tw17783874478379900727:=0
def tw6405819639594690394:=0
def tw3300732916471720569:=0
def tw16725825014683125053:=0
def tw10643478509182671051:=0
def tw7718089736576119171:=0
def tw2084822992274669457:=0
def tw9189452576509376531:=0
def tw18366581369105718599:=0
def tw9110413957586686720:=0
def tw16065197096552593563:=0
def tw6953413852244443467:=0
def tw6364912931172251268:=0
def tw17553443611998044850:=0
def tw15796327362401634690:=0
def tw7208541655011332086:=0
def tw17612409708772277650:=0
def tw11752655709514434688:=0
def tw14010451349656476160:=0
def tw10081877248407916032:=0
def tw8054496827755809395:=0
def tw8302659129769600600:=0
def tw8021996396098131513:=0
def tw1725008138839218951:=0
def tw11296072965557691928:=0
def tw3800643825477436001:=0
def tw3927877476328607044:=0
def tw8525407215769535597:=0
def tw4786380593628147025:=0
def tw8543341336465790849:=0
def tw8827846090750311471:=0
def tw15487807128742301748:=0
def tw18010458722222583674:=0
def tw8021489660239327008:=0
def tw1793753570506165356:=0
def tw3899518018597387709:=0
def tw12717724678253571050:=0
def tw11794828728619853733:=0
def tw12267948089551642213:=0
def tw13269058378839885521:=0
def tw108202336984980880:=0
def tw1499881826148747117:=0
def tw18214983925020861228:=0
def tw2230423118770536392:=0
def tw5670661204067619577:=0
def tw13449911181385301925:=0
def tw14828521933888589591:=0
def tw1873244470589833019:=0
def tw5737791220621341405:=0
def tw6725318232522403795:=0
def tw6234276732985325184:=0
def tw16103488046289245743:=0
def tw7772946748362323371:=0
def tw4741155290751426160:=0
def tw2999589265791480078:=0
def tw14366230727758313643:=0
def tw10019853583903609074:=0
def tw1901525046618454501:=0
def tw10185908824498226086:=0
def tw5825823548652968318:=0
def tw17322726878952878794:=0
def tw8049245540505733045:=0
def tw2064026966981856164:=0
def tw8856669247203176504:=0
def tw4730420327627740576:=0
def tw13181777738941276912:=0
def tw2595089382565118028:=0
def tw13902217519802485567:=0
def tw15917989271206697811:=0
def tw9808304576440469180:=0
def tw1060743557861786833:=0
def tw1020386360955097504:=0
def tw2317663038655905939:=0
def tw7956336287158887688:=0
def tw3114517908902699799:=0
def tw3045387363853032760:=0
def tw12111169340401964534:=0
def tw11827972531068305434:=0
def tw15253929814355183939:=0
def tw6053242301744117162:=0
def tw3634676908905815109:=0
def tw867069653675761060:=0
def tw4456693889247357965:=0
def tw9925517683626022341:=0
def tw110727396994452120:=0
def tw13998268064264641023:=0
def tw17297001855817768855:=0
def tw8512776030709624792:=0
def tw10447300884522975400:=0
def tw16756794276807710180:=0
def tw15057380981826430146:=0
def tw8322561640618738717:=0
def tw3862702099686735029:=0
def tw14175650818274168060:=0
def tw14903566823543829224:=0
def tw17808841569159045797:=0
def tw7254673341783020674:=0
def tw9955329958817536246:=0
def tw17321991864211855012:=0
def tw1849857645151129930:=0
def tw4737628921337473283:=0
def tw7610238825963197174:=0
def tw16106644015985183892:=0
def tw10429870704928676362:=0
def tw17790366092700385598:=0
def tw1207180126901041330:=0
def tw5075424146915055730:=0
def tw3952407837092147518:=0
def tw5145327116519773445:=0
def tw7539073086917864093:=0
def tw3472934707141141029:=0
def tw5611985065051628092:=0
def tw18101551278466943074:=0
def tw6674942971921888352:=0
def tw7784590224845700161:=0
def tw5621415993769109500:=0
def tw4357453273055753947:=0
def tw16050056756134755369:=0
def tw3288576250695030627:=0
def tw8588517436450513649:=0
def tw5476760864794963304:=0
def tw558767176585087606:=0
def tw5707932778046014381:=0
def tw17043302499453621404:=0
def tw6386815796793504921:=0
def tw3316152662534649901:=0
def tw15239345117418431720:=0
def tw11572245056097430373:=0
def tw16567362282109573950:=0
def tw10849553341071600877:=0
def tw6721041646940442896:=0
def tw2694548477649369473:=0
def tw8772185290886112355:=0
def tw15126786761511369607:=0
def tw16767870885896770288:=0
def tw16369695963363505364:=0
def tw8597411214074612743:=0
def tw6699082551764251909:=0
def tw15518700536506709094:=0
def tw4921112219800614533:=0
def tw3723489448756283704:=0
def tw15865831047856709445:=0
def tw15807135464141082974:=0
def tw1820424997891315705:=0
def tw3480171025962186641:=0
def tw1449634053528629717:=0
def tw10484864232826959933:=0
def tw10925549259672131173:=0
def tw2978145418770773850:=0
def tw12109470357780838069:=0
def tw10210880168069653156:=0
def tw402428313936470051:=0
def tw4564915584930387291:=0
def tw9829645141229071897:=0
def tw10071088979708755514:=0
def tw6212541149154830066:=0
def tw10032411749352919714:=0
def tw6319714600891571718:=0
def tw14759597447076687346:=0
def tw14289163501041399823:=0
def tw17846088849232192942:=0
def tw4313626839417724674:=0
def tw9593933906539077452:=0
def tw9529517147590360546:=0
def tw10931947379795745166:=0
def tw1379350416972462636:=0
def tw18321439911254430186:=0
def tw10481077584087611598:=0
def tw13280788073229233085:=0
def tw5170562390136343684:=0
def tw8419798373994180813:=0
def tw618571361963865296:=0
def tw7761562413725920443:=0
def tw3554366992123598431:=0
def tw14081248897844017593:=0
def tw12681758436389720346:=0
def tw14767782339131890269:=0
def tw18200823647702305026:=0
def tw12354654268459547578:=0
def tw11094955789881883058:=0
def tw1608135940937215004:=0
def tw11427646719553602279:=0
def tw4090648492164061027:=0
def tw12671691840546364505:=0
def tw16906250161775549383:=0
def tw18175611496012192478:=0
def tw15452621035681510949:=0
def tw15930882856520451679:=0
def tw15536329091738801001:=0
def tw14182422611947448759:=0
def tw9693407411673262008:=0
def tw3422859283022879022:=0
def tw4463521190767287344:=0
def tw5211800802076720411:=0
def tw9542083736145960750:=0
def tw13135006215419767789:=0
def tw8632343836621609345:=0
def tw6681004859558796824:=0
def tw1421869796731268319:=0
def tw6417836521701104070:=0
def tw14895604072681522829:=0
def tw11889912518431954004:=0
def tw17640936454629800674:=0
def tw9323421179116932974:=0
def tw2032671358115102631:=0
def tw11308682399387821343:=0
def tw4525564252055938391:=0
def tw3027040099484081344:=0
def tw12622753542876512988:=0
def tw7067847120911387874:=0
def tw13324626087874467422:=0
def tw10675767660249511935:=0
def tw5627320819326112902:=0
def tw2117275475559337419:=0
def tw15948531095870781990:=0
def tw13766672277899090102:=0
def tw3180306834472723187:=0
def tw15255924524271067945:=0
def tw12842534248482052739:=0
def tw8807933097486747727:=0
def tw5280853128413025996:=0
def tw14803205164300225720:=0
def tw15450144135414506095:=0
def tw5539368607165260458:=0
def tw5366557850350980449:=0
def tw14490011724667475773:=0
def tw12108943246407251495:=0
def tw9990099418659426167:=0
def tw1277566640295397286:=0
def tw5010321118001470894:=0
def tw12352556316369547344:=0
def tw11038501497904136714:=0
def tw1459710636647217898:=0
def tw9177294423377961209:=0
def tw11720205424132876141:=0
def tw15062840713902215288:=0
def tw5514485316541538281:=0
def tw9022059222357740:=0
def tw1839848342833682411:=0
def tw5906816189840384258:=0
def tw5467576622046754637:=0
def tw13286116323057029482:=0
def tw3211844102976723534:=0
def tw2255107493115521801:=0
def tw12415826541388871750:=0
def tw1550333559263235859:=0
def tw11878025257262338756:=0
def tw5456955219903761990:=0
def tw10211435094397294125:=0
def tw3058976222910107197:=0
def tw6384713216018630882:=0
def tw2371196465587623238:=0
def tw8187923069812219030:=0
def tw10171749178299034144:=0
def tw12625494656499472708:=0
def tw13257631295954824170:=0
def tw1916552959127034304:=0
def tw846828753544896494:=0
def tw12658856069182758881:=0
def tw3233552345145443561:=0
def tw13905783249346878716:=0
def tw5526520923400989885:=0
def tw7823094398914136937:=0
def tw4996950805026055684:=0
def tw1774554171466324788:=0
def tw720420530855927984:=0
def tw5386419294962748641:=0
def tw12340665722610114342:=0
def tw2471925062011910629:=0
def tw5456343572247941511:=0
def tw6934522942783439198:=0
def tw13610455194182697620:=0
def tw7130790043393717905:=0
def tw10731017306352805960:=0
def tw14955220228235650541:=0
def tw14803171621916496028:=0
def tw1776741653007197976:=0
def tw5089385647382880049:=0
def tw12067072737363335655:=0
def tw1382131153414133959:=0
def tw17696795748513713232:=0
def tw2707335457797923605:=0
def tw16948827929785733024:=0
def tw18208748975286561342:=0
def tw14515964552241040260:=0
def tw2914004553865099406:=0
def tw13098144110353619249:=0
def tw10065599187070604869:=0
def tw16870237100282161549:=0
def tw8884864683040294368:=0
def tw13895696886092810568:=0
def tw8453335095896713986:=0
def tw7179591469531148658:=0
def tw16991440131864982790:=0
def tw189904939499380944:=0
def tw9851368825245838053:=0
def tw10790509328298778763:=0
def tw17579564678337772947:=0
def tw15621975010445467205:=0
def tw10454417213813544322:=0
def tw11174241388186431545:=0
def tw15531572461522283209:=0
def tw13081776353147957221:=0
def tw4672932693305555663:=0
def tw5958147251237753882:=0
def tw2429818729876935052:=0
def tw8572090025256100560:=0
def tw3648977989934719364:=0
def tw9494152354740485023:=0
def tw16004728168860456406:=0
def tw11899182812786352587:=0
def tw4645590764900241260:=0
def tw6279390990658959316:=0
def tw3496522912448208687:=0
def tw15462479649674682259:=0
def tw10661251631756826508:=0
def tw144259528961440764:=0
def tw7633358773336759017:=0
def tw2198021777552436433:=0
def tw14574195318705858514:=0
def tw8398661164488625243:=0
def tw819485531625643860:=0
def tw15873043234443794107:=0
def tw10014229734347537875:=0
def tw17572264032219234992:=0
def tw14111268848895333003:=0
def tw7155698447787974500:=0
def tw15895075666988004324:=0
def tw16807232075332172218:=0
def tw2964617630615103463:=0
def tw7377206545628222750:=0
def tw13440372302706783593:=0
def tw6050466521651447850:=0
def tw8240165626026327425:=0
def tw2423033441129397422:=0
def tw15859298685011364106:=0
def tw11973598612710902781:=0
def tw1402899082635768033:=0
def tw4248974894546787475:=0
def tw11698807188491859276:=0
def tw14922598882729502576:=0
def tw1368643609836736084:=0
def tw17099598155132739193:=0
def tw2594865583008237463:=0
def tw8954301442080894963:=0
def tw15884735803220650597:=0
def tw11140280561654362208:=0
def tw3655547773979557376:=0
def tw3015006671739604430:=0
def tw12889907044392466443:=0
def tw7615688698287675778:=0
def tw14624706307338202145:=0
def tw331323093349513460:=0
def tw4571625007164139751:=0
def tw7673042675804111059:=0
def tw6313971394246595302:=0
def tw7680831991723439282:=0
def tw7065374780174603035:=0
def tw5573238857947309587:=0
def tw11879231751871764831:=0
def tw8569085578592149755:=0
def tw16431275864124200580:=0
def tw4620591881494845232:=0
def tw10195342834204185212:=0
def tw16507344320072650757:=0
def tw788103051491197397:=0
def tw15318025150245974653:=0
def tw16018607985652486662:=0
def tw2698825345940014:=0
def tw8776751716480542750:=0
def tw14119455529674378889:=0
def tw4030104945651813861:=0
def tw13473609272713037329:=0
def tw13591896066649411212:=0
def tw14821117983322326596:=0
def tw13223120615434084113:=0
def tw787133354124143217:=0
def tw9502065122688802041:=0
def tw8689143691850479392:=0
def tw8718411904517023206:=0
def tw1500541305011883733:=0
def tw9889303386114308498:=0
def tw6894834307690788308:=0
def tw4678119472586358976:=0
def tw2507800061375729213:=0
def tw4351144908211123296:=0
def tw9704013557690643662:=0
def tw12176902400804158140:=0
def tw11617816927145139925:=0
def tw9261937967929779569:=0
def tw17350583564150928540:=0
def tw4189287176810822169:=0
def tw7769273662031737830:=0
def tw10227296531783171797:=0
def tw13530407537436019709:=0
def tw16877659449022401930:=0
def tw15419026648802577876:=0
def tw13913722017448050666:=0
def tw16356769088347048929:=0
def tw17183520061279720502:=0
def tw18303352881357411504:=0
def tw10609425149879852570:=0
def tw13275653319157565096:=0
def tw2142002853637931243:=0
def tw14098524398880829848:=0
def tw11924168458131323371:=0
def tw12000206031193638137:=0
def tw7795497828110948103:=0
def tw1189691634857283183:=0
def tw10925603416090038684:=0
def tw11544812698815756930:=0
def tw13856686097031323122:=0
def tw5432029555082717208:=0
def tw5152856584054081391:=0
def tw10206636848638894136:=0
def tw12712734600737887170:=0
def tw13753728436669894077:=0
def tw15872817975496404633:=0
def tw2256941769611585360:=0
def tw16597253757190273798:=0
def tw11358046781589587104:=0
def tw10201089335629434148:=0
def tw4782075689705419276:=0
def tw17083566872028074595:=0
def tw14703241020016326517:=0
def tw14216671280006871582:=0
def tw11281381416531785012:=0
def tw9349954274706561373:=0
def tw16726376363488680479:=0
def tw11843896047261003301:=0
def tw7098210387326330879:=0
def tw17337663687045683346:=0
def tw9143533627499261072:=0
def tw3346093633546546257:=0
def tw3923329702544044717:=0
def tw6490313469620079799:=0
def tw7083434979172448237:=0
def tw10182695728427596514:=0
def tw13822078404728210128:=0
def tw9074164006567320226:=0
def tw4408055893462050280:=0
def tw17352018837260506008:=0
def tw6037382046966152166:=0
def tw926008045851518198:=0
def tw17922710531146454754:=0
def tw4169329832056562193:=0
def tw13105404252908471660:=0
def tw15398082467643608157:=0
def tw12092258037931590960:=0
def tw16061902314899474582:=0
def tw8331635781841053250:=0
def tw13591285371762268780:=0
def tw12046814011229218939:=0
def tw7900519370956336914:=0
def tw1991543954899724746:=0
def tw5901156768535817310:=0
def tw8774219909249692593:=0
def tw17528525592637501536:=0
def tw12066114169660119405:=0
def tw12158878537941625876:=0
def tw13067702996215183029:=0
def tw11185172426197962832:=0
def tw8288271693035647728:=0
def tw16046756879910580160:=0
def tw18117104799182436291:=0
def tw16863728993815909267:=0
def tw14569161217186966515:=0
def tw5440477447908361388:=0
def tw258318402452655382:=0
def tw7887382843487457038:=0
def tw4540827656763290804:=0
def tw5924013241166713926:=0
def tw1955654517824940710:=0
def tw4731728662433772067:=0
def tw13067245908686034507:=0
def tw15660674920934560920:=0
def tw14609812289013607855:=0
def tw11538163843161736867:=0
def tw2221730606973923140:=0
def tw1090564208043408467:=0
def tw573782574226292660:=0
def tw1508266137440924409:=0
def tw1009753729831154279:=0
def tw12646806992707412761:=0
def tw3370913348995051859:=0
def tw9001352320520992548:=0
def tw6689930623478372241:=0
def tw8954264679539510428:=0
def tw13231465098809201962:=0
def tw15159686721068540434:=0
def tw3482690841003653578:=0
def tw6755324421021139997:=0
def tw9893355179506394228:=0
def tw8686301280082856035:=0
def tw8533668201535030553:=0
def tw802326678460693670:=0
def tw324865899422224772:=0
def tw14871778474984366627:=0
def tw781324570616344015:=0
def tw18004627946924816405:=0
def tw7565665011879736921:=0
def tw3950293578864438523:=0
def tw17452840510838769064:=0
def tw13684614780229149511:=0
def tw5421759241524103763:=0
def tw6174624645249711835:=0
def tw5476842931934337671:=0
def tw13347124956362037754:=0
def tw9150795433426479772:=0
def tw15667654413583456732:=0
def tw1531979459288683769:=0
def tw8320736332911522572:=0
def tw5901567945393374348:=0
def tw15733849408406278650:=0
def tw11680150234954429773:=0
def tw7266079413075119063:=0
def tw18083036043126101903:=0
def tw17165024192493970297:=0
def tw3018118004945470021:=0
def tw1474145109106755153:=0
def tw8629623253122958310:=0
def tw16394877373676829476:=0
def tw16309488832823052458:=0
def tw2370475206556468129:=0
def tw3129021263060351073:=0
def tw17795838134952415542:=0
def tw13608655084278610147:=0
def tw13227592956629373909:=0
def tw10894881790367884943:=0
def tw12843506985748604606:=0
end PySem.W.Fast
open PySem PySem.W PyProof.Rows
set_option maxRecDepth 100000 in
set_option maxHeartbeats 0 in
theorem PySem.Challenge.cw_pageturns_k21_whole_plain_answers_holds : PySem.Challenge.rw_pageturns_k21_whole_plain_answers.Holds := by
 w_on;o_law;k_head;(case hw=>w_witness2)
 k_fill
 refine L2.FI (l:=PySem.Challenge.rw_pageturns_k21_whole_plain_answers) (n:=63) (k:=20) (x := "_law_script") (CX:=L2.Ss) rfl (by decide) rfl ⟨rfl,by decide,by decide⟩ (fun w h Y=>PySem.W.km_in_of Y) (fun w h Y=>PySem.W.km_tabs_of Y) (fun w h Y=>L2.Jj Y (by decide +kernel)) ?tF fun _ _ _ _ z=>z
 intro w mg fa h KX G MH
 refine My.Oo MH ?_
 refine' L2.gvc KX G "Shelf" ?a1 ?b1 ?c1 ?d1 ?e1 ?f1 ?g1 fun J_ ag Ka k_Shelf=>?z1
 (case a1 | b1 | c1 | d1 | e1 | f1 | g1=>k_is)
 refine' L2.fw KX G "is_whole" My.kN ["thing"] ?a2 ?b2 ?c2 ?d2 ?e2 fun d0 F0=>?z2
 (case a2 | b2 | c2 | d2=>k_is)
 (case e2=>exact L2.rn fun _=>rfl)
 refine' L2.fw KX G "is_letter" My.i9 ["sign"] ?a3 ?b3 ?c3 ?d3 ?e3 fun d1 F1=>?z3
 (case a3 | b3 | c3 | d3=>k_is)
 (case e3=>exact L2.rn fun _=>rfl)
 refine' L2.fw KX G "is_figure" My.i_ ["sign"] ?a4 ?b4 ?c4 ?d4 ?e4 fun d2 F2=>?z4
 (case a4 | b4 | c4 | d4=>k_is)
 (case e4=>exact L2.rn fun _=>rfl)
 refine' L2.fw KX G "is_name" My.jM ["thing"] ?a5 ?b5 ?c5 ?d5 ?e5 fun d3 F3=>?z5
 (case a5 | b5 | c5 | d5=>k_is)
 (case e5=>exact L2.rn fun _=>rfl)
 refine' L2.fw KX G "is_key" My.lT ["thing"] ?a6 ?b6 ?c6 ?d6 ?e6 fun d4 F4=>?z6
 (case a6 | b6 | c6 | d6=>k_is)
 (case e6=>exact L2.rn fun _=>rfl)
 refine' L2.fw KX G "is_word" My.jN ["thing"] ?a7 ?b7 ?c7 ?d7 ?e7 fun d5 F5=>?z7
 (case a7 | b7 | c7 | d7=>k_is)
 (case e7=>exact L2.rn fun _=>rfl)
 refine' L2.fw KX G "is_kind" My.mR ["thing"] ?a8 ?b8 ?c8 ?d8 ?e8 fun d6 F6=>?z8
 (case a8 | b8 | c8 | d8=>k_is)
 (case e8=>exact L2.rn fun _=>rfl)
 refine' L2.fw KX G "is_value" My.kO ["kind", "thing"] ?a9 ?b9 ?c9 ?d9 ?e9 fun d7 F7=>?z9
 (case a9 | b9 | c9 | d9=>k_is)
 (case e9=>exact L2.ln2 fun _ _=>rfl)
 refine' L2.fw KX G "check_columns" My.df ["columns"] ?a10 ?b10 ?c10 ?d10 ?e10 fun d8 F8=>?z10
 (case a10 | b10 | c10 | d10=>k_is)
 (case e10=>exact L2.rn fun _=>rfl)
 refine' L2.fw KX G "is_column" My.ja ["thing"] ?a11 ?b11 ?c11 ?d11 ?e11 fun d9 F9=>?z11
 (case a11 | b11 | c11 | d11=>k_is)
 (case e11=>exact L2.rn fun _=>rfl)
 refine' L2.fw KX G "names_of" My.ib ["columns"] ?a12 ?b12 ?c12 ?d12 ?e12 fun d10 F10=>?z12
 (case a12 | b12 | c12 | d12=>k_is)
 (case e12=>exact L2.rn fun _=>rfl)
 refine' L2.fw KX G "kind_named" My.ic ["columns", "name"] ?a13 ?b13 ?c13 ?d13 ?e13 fun d11 F11=>?z13
 (case a13 | b13 | c13 | d13=>k_is)
 (case e13=>exact L2.ln2 fun _ _=>rfl)
 refine' L2.fw KX G "check_row" My.jb ["columns", "row"] ?a14 ?b14 ?c14 ?d14 ?e14 fun d12 F12=>?z14
 (case a14 | b14 | c14 | d14=>k_is)
 (case e14=>exact L2.ln2 fun _ _=>rfl)
 refine' L2.fw KX G "are_worths" My.fq ["columns", "thing"] ?a15 ?b15 ?c15 ?d15 ?e15 fun d13 F13=>?z15
 (case a15 | b15 | c15 | d15=>k_is)
 (case e15=>exact L2.ln2 fun _ _=>rfl)
 refine' L2.fw KX G "value_in" My.kP ["columns", "row", "name"] ?a16 ?b16 ?c16 ?d16 ?e16 fun d14 F14=>?z16
 (case a16 | b16 | c16 | d16=>k_is)
 (case e16=>exact L2.um fun _ _ _=>rfl)
 refine' L2.fw KX G "is_way" My.qf ["thing"] ?a17 ?b17 ?c17 ?d17 ?e17 fun d15 F15=>?z17
 (case a17 | b17 | c17 | d17=>k_is)
 (case e17=>exact L2.rn fun _=>rfl)
 refine' L2.fw KX G "is_end" My.qg ["thing"] ?a18 ?b18 ?c18 ?d18 ?e18 fun d16 F16=>?z18
 (case a18 | b18 | c18 | d18=>k_is)
 (case e18=>exact L2.rn fun _=>rfl)
 refine' L2.fw KX G "check_order" My.cV ["columns", "order"] ?a19 ?b19 ?c19 ?d19 ?e19 fun d17 F17=>?z19
 (case a19 | b19 | c19 | d19=>k_is)
 (case e19=>exact L2.ln2 fun _ _=>rfl)
 refine' L2.fw KX G "is_part" My.mS ["columns", "thing"] ?a20 ?b20 ?c20 ?d20 ?e20 fun d18 F18=>?z20
 (case a20 | b20 | c20 | d20=>k_is)
 (case e20=>exact L2.ln2 fun _ _=>rfl)
 refine' L2.fw KX G "check_sieve" My.eR ["columns", "sieve"] ?a21 ?b21 ?c21 ?d21 ?e21 fun d19 F19=>?z21
 (case a21 | b21 | c21 | d21=>k_is)
 (case e21=>exact L2.ln2 fun _ _=>rfl)
 refine' L2.fw KX G "is_formed" My.f_ ["columns", "thing"] ?a22 ?b22 ?c22 ?d22 ?e22 fun d20 F20=>?z22
 (case a22 | b22 | c22 | d22=>k_is)
 (case e22=>exact L2.ln2 fun _ _=>rfl)
 refine' L2.fw KX G "is_short_tuple" My.eK ["thing"] ?a23 ?b23 ?c23 ?d23 ?e23 fun d21 F21=>?z23
 (case a23 | b23 | c23 | d23=>k_is)
 (case e23=>exact L2.rn fun _=>rfl)
 refine' L2.fw KX G "fits_column" My.gy ["columns", "sieve"] ?a24 ?b24 ?c24 ?d24 ?e24 fun d22 F22=>?z24
 (case a24 | b24 | c24 | d24=>k_is)
 (case e24=>exact L2.ln2 fun _ _=>rfl)
 refine' L2.fw KX G "sieves_within" My.fb ["sieves"] ?a25 ?b25 ?c25 ?d25 ?e25 fun d23 F23=>?z25
 (case a25 | b25 | c25 | d25=>k_is)
 (case e25=>exact L2.rn fun _=>rfl)
 refine' L2.fw KX G "passes" My.jc ["columns", "sieve", "row"] ?a26 ?b26 ?c26 ?d26 ?e26 fun d24 F24=>?z26
 (case a26 | b26 | c26 | d26=>k_is)
 (case e26=>exact L2.um fun _ _ _=>rfl)
 refine' L2.fw KX G "value_passes" My.fI ["word", "value", "told"] ?a27 ?b27 ?c27 ?d27 ?e27 fun d25 F25=>?z27
 (case a27 | b27 | c27 | d27=>k_is)
 (case e27=>exact L2.um fun _ _ _=>rfl)
 refine' L2.Yg KX G "plain" My.uo ["shelf", "order", "sieve", "moment"] ?a28 ?b28 ?c28 ?d28 ?e28 ?f28 ?g28 fun d26 F26 D26=>?z28
 (case a28 | b28 | c28 | d28 | e28=>k_is)
 (case f28=>intro s us t;revert us;exact L2.Th fun _ _ _ _=>.of_defaults rfl t rfl rfl rfl)
 (case g28=>intro s us t;revert us;exact L2.Wn fun _ _ _=>.of_defaults rfl t rfl rfl rfl)
 refine' L2.Yg KX G "count_of" My.kQ ["shelf", "sieve", "moment"] ?a29 ?b29 ?c29 ?d29 ?e29 ?f29 ?g29 fun d27 F27 D27=>?z29
 (case a29 | b29 | c29 | d29 | e29=>k_is)
 (case f29=>intro s us t;revert us;exact L2.um fun _ _ _=>.of_defaults rfl t rfl rfl rfl)
 (case g29=>intro s us t;revert us;exact L2.Ru fun _ _=>.of_defaults rfl t rfl rfl rfl)
 refine' L2.fw KX G "ordered_answer" My.eM ["shelf", "order", "sieve", "moment"] ?a30 ?b30 ?c30 ?d30 ?e30 fun d28 F28=>?z30
 (case a30 | b30 | c30 | d30=>k_is)
 (case e30=>exact L2.Th fun _ _ _ _=>rfl)
 refine' L2.fw KX G "rows_passing" My.dN ["shelf", "sieve", "moment"] ?a31 ?b31 ?c31 ?d31 ?e31 fun d29 F29=>?z31
 (case a31 | b31 | c31 | d31=>k_is)
 (case e31=>exact L2.um fun _ _ _=>rfl)
 refine' L2.fw KX G "in_order" My.kR ["columns", "order", "rows"] ?a32 ?b32 ?c32 ?d32 ?e32 fun d30 F30=>?z32
 (case a32 | b32 | c32 | d32=>k_is)
 (case e32=>exact L2.um fun _ _ _=>rfl)
 refine' L2.Wk KX G "sorted_by_keys" My.bX ["rows", "way"] ?a33 ?b33 ?c33 ?d33 ?e33 fun d31 e31 B31 F31=>?z33
 (case a33 | b33 | c33 | d33=>k_is)
 (case e33=>exact L2.ln2 fun _ _=>rfl)
 refine' L2.fw KX G "sorted_by_part" My.bY ["columns", "part", "rows"] ?a34 ?b34 ?c34 ?d34 ?e34 fun d32 F32=>?z34
 (case a34 | b34 | c34 | d34=>k_is)
 (case e34=>exact L2.um fun _ _ _=>rfl)
 refine' L2.Wk KX G "sorted_by_values" My.bI ["columns", "part", "rows"] ?a35 ?b35 ?c35 ?d35 ?e35 fun d33 e33 B33 F33=>?z35
 (case a35 | b35 | c35 | d35=>k_is)
 (case e35=>exact L2.um fun _ _ _=>rfl)
 refine' L2.fw KX G "worths_then" My.gz ["standings", "moment"] ?a36 ?b36 ?c36 ?d36 ?e36 fun d34 F34=>?z36
 (case a36 | b36 | c36 | d36=>k_is)
 (case e36=>exact L2.ln2 fun _ _=>rfl)
 refine' L2.fw KX G "_law_cell_at" My.jd ["_law_script", "_law_k"] ?a37 ?b37 ?c37 ?d37 ?e37 fun d35 F35=>?z37
 (case a37 | b37 | c37 | d37=>k_is)
 (case e37=>exact L2.ln2 fun _ _=>rfl)
 refine' L2.fw KX G "_law_well" My.qh ["_law_cell"] ?a38 ?b38 ?c38 ?d38 ?e38 fun d36 F36=>?z38
 (case a38 | b38 | c38 | d38=>k_is)
 (case e38=>exact L2.rn fun _=>rfl)
 refine' L2.fw KX G "_law_draw" My.qj ["_law_well_here", "_law_most"] ?a39 ?b39 ?c39 ?d39 ?e39 fun d37 F37=>?z39
 (case a39 | b39 | c39 | d39=>k_is)
 (case e39=>exact L2.ln2 fun _ _=>rfl)
 refine' L2.fw KX G "_law_columns" My.je ["_law_well_here"] ?a40 ?b40 ?c40 ?d40 ?e40 fun d38 F38=>?z40
 (case a40 | b40 | c40 | d40=>k_is)
 (case e40=>exact L2.rn fun _=>rfl)
 refine' L2.fw KX G "_law_value" My.mT ["_law_well_here", "_law_kind"] ?a41 ?b41 ?c41 ?d41 ?e41 fun d39 F39=>?z41
 (case a41 | b41 | c41 | d41=>k_is)
 (case e41=>exact L2.ln2 fun _ _=>rfl)
 refine' L2.fw KX G "_law_worths" My.ie ["_law_well_here", "_law_columns_here"] ?a42 ?b42 ?c42 ?d42 ?e42 fun d40 F40=>?z42
 (case a42 | b42 | c42 | d42=>k_is)
 (case e42=>exact L2.ln2 fun _ _=>rfl)
 refine' L2.fw KX G "_law_key" My.uq ["_law_well_here"] ?a43 ?b43 ?c43 ?d43 ?e43 fun d41 F41=>?z43
 (case a43 | b43 | c43 | d43=>k_is)
 (case e43=>exact L2.rn fun _=>rfl)
 refine' L2.fw KX G "_law_order" My.mU ["_law_well_here", "_law_columns_here"] ?a44 ?b44 ?c44 ?d44 ?e44 fun d42 F42=>?z44
 (case a44 | b44 | c44 | d44=>k_is)
 (case e44=>exact L2.ln2 fun _ _=>rfl)
 refine' L2.fw KX G "_law_sieve" My.gM ["_law_well_here", "_law_columns_here", "_law_deep"] ?a45 ?b45 ?c45 ?d45 ?e45 fun d43 F43=>?z45
 (case a45 | b45 | c45 | d45=>k_is)
 (case e45=>exact L2.um fun _ _ _=>rfl)
 refine' L2.fw KX G "_law_deed" My.qk ["_law_well_here", "_law_columns_here", "_law_known_here"] ?a46 ?b46 ?c46 ?d46 ?e46 fun d44 F44=>?z46
 (case a46 | b46 | c46 | d46=>k_is)
 (case e46=>exact L2.um fun _ _ _=>rfl)
 refine' L2.fw KX G "_law_known" My.mV ["_law_known_here", "_law_deed_here"] ?a47 ?b47 ?c47 ?d47 ?e47 fun d45 F45=>?z47
 (case a47 | b47 | c47 | d47=>k_is)
 (case e47=>exact L2.ln2 fun _ _=>rfl)
 refine' L2.fw KX G "_law_does" My.qm ["_law_shelf", "_law_deed_here"] ?a48 ?b48 ?c48 ?d48 ?e48 fun d46 F46=>?z48
 (case a48 | b48 | c48 | d48=>k_is)
 (case e48=>exact L2.ln2 fun _ _=>rfl)
 refine' L2.fw KX G "_law_at" My.ur ["_law_columns_here", "_law_row", "_law_name"] ?a49 ?b49 ?c49 ?d49 ?e49 fun d47 F47=>?z49
 (case a49 | b49 | c49 | d49=>k_is)
 (case e49=>exact L2.um fun _ _ _=>rfl)
 refine' L2.fw KX G "_law_before" My.kT ["_law_columns_here", "_law_order_here", "_law_one", "_law_other"] ?a50 ?b50 ?c50 ?d50 ?e50 fun d48 F48=>?z50
 (case a50 | b50 | c50 | d50=>k_is)
 (case e50=>exact L2.Th fun _ _ _ _=>rfl)
 refine' L2.fw KX G "_law_sorted" My.ig ["_law_columns_here", "_law_order_here", "_law_rows"] ?a51 ?b51 ?c51 ?d51 ?e51 fun d49 F49=>?z51
 (case a51 | b51 | c51 | d51=>k_is)
 (case e51=>exact L2.um fun _ _ _=>rfl)
 refine' L2.fw KX G "_law_passes" My.ij ["_law_columns_here", "_law_sieve_here", "_law_row"] ?a52 ?b52 ?c52 ?d52 ?e52 fun d50 F50=>?z52
 (case a52 | b52 | c52 | d52=>k_is)
 (case e52=>exact L2.um fun _ _ _=>rfl)
 refine' L2.fw KX G "_law_many" My.lU ["_law_well_here", "_law_columns_here", "_law_least", "_law_most"] ?a53 ?b53 ?c53 ?d53 ?e53 fun d51 F51=>?z53
 (case a53 | b53 | c53 | d53=>k_is)
 (case e53=>exact L2.Th fun _ _ _ _=>rfl)
 refine' L2.Wk KX G "law" My.sY ["_law_script"] ?a54 ?b54 ?c54 ?d54 ?e54 fun d52 e52 B52 F52=>?z54
 (case a54 | b54 | c54 | d54=>k_is)
 (case e54=>exact L2.rn fun _=>rfl)
 refine' L2.HA ag "__init__" "Shelf.__init__" ((L2.inClass My.aA 0)) ["self", "columns"] ?a55 ?b55 ?c55 ?d55 ?e55 ?f55 fun d53 Xp=>?z55
 (case a55 | b55 | c55 | d55 | e55=>k_is)
 (case f55=>exact L2.ln2 fun _ _=>rfl)
 refine' L2.HA ag "put" "Shelf.put" ((L2.inClass My.aA 1)) ["self", "key", "worths"] ?a56 ?b56 ?c56 ?d56 ?e56 ?f56 fun d54 F54=>?z56
 (case a56 | b56 | c56 | d56 | e56=>k_is)
 (case f56=>exact L2.um fun _ _ _=>rfl)
 refine' L2.HA ag "change" "Shelf.change" ((L2.inClass My.aA 2)) ["self", "key", "worths"] ?a57 ?b57 ?c57 ?d57 ?e57 ?f57 fun d55 F55=>?z57
 (case a57 | b57 | c57 | d57 | e57=>k_is)
 (case f57=>exact L2.um fun _ _ _=>rfl)
 refine' L2.HA ag "take" "Shelf.take" ((L2.inClass My.aA 3)) ["self", "key"] ?a58 ?b58 ?c58 ?d58 ?e58 ?f58 fun d56 F56=>?z58
 (case a58 | b58 | c58 | d58 | e58=>k_is)
 (case f58=>exact L2.ln2 fun _ _=>rfl)
 refine' L2.HA ag "check_stands" "Shelf.check_stands" ((L2.inClass My.aA 4)) ["self", "key"] ?a59 ?b59 ?c59 ?d59 ?e59 ?f59 fun d57 F57=>?z59
 (case a59 | b59 | c59 | d59 | e59=>k_is)
 (case f59=>exact L2.ln2 fun _ _=>rfl)
 refine' L2.HA ag "begin_standing" "Shelf.begin_standing" ((L2.inClass My.aA 5)) ["self", "key", "worths"] ?a60 ?b60 ?c60 ?d60 ?e60 ?f60 fun d58 F58=>?z60
 (case a60 | b60 | c60 | d60 | e60=>k_is)
 (case f60=>exact L2.um fun _ _ _=>rfl)
 refine' L2.HA ag "end_standing" "Shelf.end_standing" ((L2.inClass My.aA 6)) ["self", "key"] ?a61 ?b61 ?c61 ?d61 ?e61 ?f61 fun d59 F59=>?z61
 (case a61 | b61 | c61 | d61 | e61=>k_is)
 (case f61=>exact L2.ln2 fun _ _=>rfl)
 refine' L2.HA ag "has_columns" "Shelf.has_columns" ((L2.inClass My.aA 7)) ["self"] ?a62 ?b62 ?c62 ?d62 ?e62 ?f62 fun d60 F60=>?z62
 (case a62 | b62 | c62 | d62 | e62=>k_is)
 (case f62=>exact L2.rn fun _=>rfl)
 refine' L2.HA ag "now" "Shelf.now" ((L2.inClass My.aA 8)) ["self"] ?a63 ?b63 ?c63 ?d63 ?e63 ?f63 fun d61 F61=>?z63
 (case a63 | b63 | c63 | d63 | e63=>k_is)
 (case f63=>exact L2.rn fun _=>rfl)
 refine' L2.Yh ag "worths_at" "Shelf.worths_at" ((L2.inClass My.aA 9)) ["self", "key", "moment"] ?a64 ?b64 ?c64 ?d64 ?e64 ?f64 ?g64 ?h64 fun d62 F62 D62=>?z64
 (case a64 | b64 | c64 | d64 | e64 | f64=>k_is)
 (case g64=>intro s us t;revert us;exact L2.um fun _ _ _=>.of_defaults rfl t rfl rfl rfl)
 (case h64=>intro s us t;revert us;exact L2.Ru fun _ _=>.of_defaults rfl t rfl rfl rfl)
 refine' L2.Yh ag "all_at" "Shelf.all_at" ((L2.inClass My.aA 10)) ["self", "moment"] ?a65 ?b65 ?c65 ?d65 ?e65 ?f65 ?g65 ?h65 fun d63 F63 D63=>?z65
 (case a65 | b65 | c65 | d65 | e65 | f65=>k_is)
 (case g65=>intro s us t;revert us;exact L2.ln2 fun _ _=>.of_defaults rfl t rfl rfl rfl)
 (case h65=>intro s us t;revert us;exact L2.Wm fun _=>.of_defaults rfl t rfl rfl rfl)
 refine' L2.HA ag "moment_meant" "Shelf.moment_meant" ((L2.inClass My.aA 13)) ["self", "moment"] ?a66 ?b66 ?c66 ?d66 ?e66 ?f66 fun d64 F64=>?z66
 (case a66 | b66 | c66 | d66 | e66=>k_is)
 (case f66=>exact L2.ln2 fun _ _=>rfl)
 refine' L2.K3 KX G "MOST_NAME_SIGNS" 8 ?a67 fun my=>?z67
 (case a67=>k_is)
 refine' L2.K3 KX G "MOST_KEY_SIGNS" 12 ?a68 fun nM=>?z68
 (case a68=>k_is)
 refine' L2.K3 KX G "MOST_WORD_SIGNS" 40 ?a69 fun mz=>?z69
 (case a69=>k_is)
 refine' L2.K3 KX G "MOST_COLUMNS" 8 ?a70 fun rf=>?z70
 (case a70=>k_is)
 refine' L2.K3 KX G "MOST_PARTS_orders" 8 ?a71 fun kl=>?z71
 (case a71=>k_is)
 refine' L2.K3 KX G "MOST_DEEP" 8 ?a72 fun xm=>?z72
 (case a72=>k_is)
 refine' L2.K3 KX G "MOST_PARTS_sieves" 200 ?a73 fun km=>?z73
 (case a73=>k_is)
 refine' L2.K3 KX G "MOST_IN_A_TUPLE" 8 ?a74 fun mB=>?z74
 (case a74=>k_is)
 refine' L2.Tf KX G "KINDS" ?a75 ?b75 fun Kb w_KINDS=>?z75
 (case a75 | b75=>k_is)
 refine' L2.Tf KX G "OTHER_WAY" ?a76 ?b76 fun xn w_OTHER_WAY=>?z76
 (case a76 | b76=>k_is)
 refine' L2.Tf KX G "OTHER_END" ?a77 ?b77 fun xo w_OTHER_END=>?z77
 (case a77 | b77=>k_is)
 refine' L2.Tf KX G "LENGTHS" ?a78 ?b78 fun D_ w_LENGTHS=>?z78
 (case a78 | b78=>k_is)
 refine' L2.xu KX G "len" ?a79 fun R4=>?z79
 (case a79=>k_is)
 refine' L2.xu KX G "all" ?a80 fun R5=>?z80
 (case a80=>k_is)
 refine' L2.xu KX G "any" ?a81 fun R6=>?z81
 (case a81=>k_is)
 refine' L2.xu KX G "isinstance" ?a82 fun vd=>?z82
 (case a82=>k_is)
 refine' L2.xu KX G "range" ?a83 fun Kc=>?z83
 (case a83=>k_is)
 refine' L2.xu KX G "int" ?a84 fun R7=>?z84
 (case a84=>k_is)
 refine' L2.xu KX G "str" ?a85 fun R8=>?z85
 (case a85=>k_is)
 refine' L2.xu KX G "bool" ?a86 fun Oq=>?z86
 (case a86=>k_is)
 refine' L2.xu KX G "tuple" ?a87 fun Ke=>?z87
 (case a87=>k_is)
 refine' L2.xu KX G "list" ?a88 fun Ot=>?z88
 (case a88=>k_is)
 refine' L2.xu KX G "dict" ?a89 fun Ou=>?z89
 (case a89=>k_is)
 refine' L2.xu KX G "set" ?a90 fun R9=>?z90
 (case a90=>k_is)
 refine' L2.xu KX G "zip" ?a91 fun R_=>?z91
 (case a91=>k_is)
 refine' L2.xu KX G "sorted" ?a92 fun Ho=>?z92
 (case a92=>k_is)
 refine' L2.xu KX G "min" ?a93 fun Sa=>?z93
 (case a93=>k_is)
 refine' L2.xu KX G "reversed" ?a94 fun AZ=>?z94
 (case a94=>k_is)
 refine' L2.NC KX G "BadColumns" ?a95 ?b95 fun ve dU=>?z95
 (case a95=>k_is)
 (case b95=>k_exc)
 refine' L2.NC KX G "BadRow" ?a96 ?b96 fun Hq gR=>?z96
 (case a96=>k_is)
 (case b96=>k_exc)
 refine' L2.NC KX G "BadOrder" ?a97 ?b97 fun A0 dq=>?z97
 (case a97=>k_is)
 (case b97=>k_exc)
 refine' L2.NC KX G "BadSieve" ?a98 ?b98 fun A1 ir=>?z98
 (case a98=>k_is)
 (case b98=>k_exc)
 refine' L2.NC KX G "HasKey" ?a99 ?b99 fun Hr qB=>?z99
 (case a99=>k_is)
 (case b99=>k_exc)
 refine' L2.NC KX G "NoKey" ?a100 ?b100 fun Kf uF=>?z100
 (case a100=>k_is)
 (case b100=>k_exc)
 refine' L2.NC KX G "NoMoment" ?a101 ?b101 fun A2 k7=>?z101
 (case a101=>k_is)
 (case b101=>k_exc)
 refine' L2.Wl ag "columns" ?a102 fun oQ=>?z102
 (case a102=>k_is)
 refine' L2.Wl ag "deeds" ?a103 fun su=>?z103
 (case a103=>k_is)
 refine' L2.Wl ag "runs" ?a104 fun vf=>?z104
 (case a104=>k_is)
 refine' L2.Yi KX e31 ?a105 ?b105 ?c105 fun nN=>?z105
 (case a105=>k_is)
 (case b105=>rfl)
 (case c105=>first | rfl | decide | simp [codeHdIn])
 refine' L2.Yi KX e33 ?a106 ?b106 ?c106 fun lE=>?z106
 (case a106=>k_is)
 (case b106=>rfl)
 (case c106=>first | rfl | decide | simp [codeHdIn])
 exact⟨⟨_,_,_,_,_,_,_,_,_,_,_,_,_,_,_,_,_,_,_,_,_,_,_,_,_,_,_,_,_,_,_,_,_,_,_,_,_,_,_,_,_,_,_,_,_,_,_,_,_,_,_,_,_,_,_,_,_,_,_,_,_,_,_,_,_,_,_,_,_,_,_,_,_,_,_,_,_,_,_,_,_,_,_,_,_,_,_,_,_,_,_,_,_,_,_,_,_,_,_,_,_,_,_,_,_,_,_,_,_,_,_,_,_,_,_,_,_,_,_,_,_,_,_,_,_,_,_,_,_,_,_,_,_,_,_,_,_,_,_,_,_,_,_,_,_,_,_,_,_,_,_,_,_,_,_⟩,rfl,⟨F0,F1,F2,F3,F4,F5,F6,F7,F8,F9,F10,F11,F12,F13,F14,F15,F16,F17,F18,F19,F20,F21,F22,F23,F24,F25,F26,D26,F27,D27,F28,F29,F30,F31,F32,F33,F34,F35,F36,F37,F38,F39,F40,F41,F42,F43,F44,F45,F46,F47,F48,F49,F50,F51,F52,Xp,F54,F55,F56,F57,F58,F59,F60,F61,F62,D62,F63,D63,F64,my,nM,mz,rf,kl,xm,km,mB,Kb,fun H=>L2.Kx (xs:=[.str "number",.str "word"]) ⟨_,_,_,w_KINDS,rfl,rfl,(by rw[zR];show 2≤16777216;decide),.cons ⟨_,rfl⟩ (.cons ⟨_,rfl⟩ (.nil))⟩ (L2.t6 ["number", "word"]),xn,⟨by first | rfl | decide,_,_,_,w_OTHER_WAY,⟨rfl,rfl,rfl⟩,rfl,.cons ⟨rfl,⟨_,rfl⟩,⟨_,rfl⟩⟩ (.cons ⟨rfl,⟨_,rfl⟩,⟨_,rfl⟩⟩ (.nil)),by decide +kernel⟩,xo,⟨by first | rfl | decide,_,_,_,w_OTHER_END,⟨rfl,rfl,rfl⟩,rfl,.cons ⟨rfl,⟨_,rfl⟩,⟨_,rfl⟩⟩ (.cons ⟨rfl,⟨_,rfl⟩,⟨_,rfl⟩⟩ (.nil)),by decide +kernel⟩,D_,⟨by first | rfl | decide,_,_,_,w_LENGTHS,⟨rfl,rfl,rfl⟩,rfl,.cons ⟨rfl,⟨_,rfl⟩,⟨_,rfl⟩⟩ (.cons ⟨rfl,⟨_,rfl⟩,⟨_,rfl⟩⟩ (.cons ⟨rfl,⟨_,rfl⟩,⟨_,rfl⟩⟩ (.cons ⟨rfl,⟨_,rfl⟩,⟨_,rfl⟩⟩ (.cons ⟨rfl,⟨_,rfl⟩,⟨_,rfl⟩⟩ (.cons ⟨rfl,⟨_,rfl⟩,⟨_,rfl⟩⟩ (.cons ⟨rfl,⟨_,rfl⟩,⟨_,rfl⟩⟩ (.cons ⟨rfl,⟨_,rfl⟩,⟨_,rfl⟩⟩ (.cons ⟨rfl,⟨_,rfl⟩,⟨_,rfl⟩⟩ (.nil))))))))),by decide +kernel⟩,R4,R5,R6,vd,Kc,R7,R8,Oq,Ke,Ot,Ou,R9,R_,Ho,Sa,AZ,ve,dU,Hq,gR,A0,dq,A1,ir,Hr,qB,Kf,uF,A2,k7,J_,ag,⟨Ka,Xp.e.at_,Xp.e.fn,k_Shelf⟩,oQ,su,vf,e31,nN,by simp,e33,lE,by simp,by simp,by simp,fun s v=>B52 s [v] rfl⟩⟩
