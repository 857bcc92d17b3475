import PyProof.Rows.All
import Wide.All
import OpenK.AllK
import Wide.FinOn
import Lean
import PyProof.EqAt
import PyProof.EqKinds
import PyProof.TupleCall
import PyProof.NsDelKeeps
import KE.KIsBytes
import PyProof.Rows.SetFrom
import KE.KDictOf
import PyProof.AttrMissSeq
import PyProof.WalksMore
import PyProof.ZipIter
import PyProof.StrBlock2
import PyProof.StrBlockI
import PyProof.Rows.StrJoin2
import PyProof.Rows.CountFlat
import PyProof.Rows.Range3
import PyProof.SumWalkG
import PyProof.Rows.ListMulArg
import PyProof.FactsAll.tuple
import PyProof.EnumFor
import PyProof.EnumMake
import KE.KDictLaws
import KE.KDictSum
import KE.KRevIter
import PyProof.Rows.SortStr
import PyProof.Rows.SortWalk
import PyProof.AutoListH
import PySem.Challenge.RW_pageturns_k19_whole_told_moment_by_momen
set_option Elab.async false
set_option linter.all false
set_option maxRecDepth 100000
namespace L2
open PySem PySem.Spec PyProof.Rows
abbrev Key := Sum Int Str
def keyIs : Key → Value → Bool
  | .inl k, v => Value.isInt k v
  | .inr x, v => Value.isStrOf x v
def keyH (w : World) : Key → Int
  | .inl k => hashInt k
  | .inr x => hashStr w x
theorem keyIs_shape : ∀ {k : Key} {v : Value}, keyIs k v = true → (∃ i t, k = Sum.inl i ∧ v = Value.int i t) ∨ (∃ x t, k = Sum.inr x ∧ v = Value.str x t)
  | .inl i, v, h => by
    obtain ⟨t, e⟩ := Value.isInt_shape (k := i) (v := v) h
    exact .inl ⟨i, t, rfl, e⟩
  | .inr x, v, h => by
    obtain ⟨t, e⟩ := Value.isStrOf_shape (x := x) (v := v) h
    exact .inr ⟨x, t, rfl, e⟩
theorem keyIs_int (i : Int) (t : Tok) : keyIs (.inl i) (.int i t) = true := by simp [keyIs, Value.isInt]
theorem keyIs_str (x : Str) (t : Tok) : keyIs (.inr x) (.str x t) = true := by simp [keyIs, Value.isStrOf]
theorem key_ll (a b : Int) : decide ((Sum.inl a : Key) = Sum.inl b) = (a == b) := by
  by_cases e : a = b
  · subst e; simp
  · have h : ¬ (Sum.inl a : Key) = Sum.inl b := fun q => e (Sum.inl.inj q)
    rw [decide_eq_false h]
    exact (beq_eq_false_iff_ne.mpr e).symm
theorem key_rr (a b : Str) : decide ((Sum.inr a : Key) = Sum.inr b) = decide (a = b) := by
  by_cases e : a = b
  · subst e; simp
  · have h : ¬ (Sum.inr a : Key) = Sum.inr b := fun q => e (Sum.inr.inj q)
    rw [decide_eq_false h, decide_eq_false e]
theorem key_lr (a : Int) (b : Str) : decide ((Sum.inl a : Key) = Sum.inr b) = false := decide_eq_false (fun q => nomatch q)
theorem key_rl (a : Str) (b : Int) : decide ((Sum.inr a : Key) = Sum.inl b) = false := decide_eq_false (fun q => nomatch q)
def mixKind (prog : Program) (w : World) : PySem.KeyKind prog w Key where
  is := keyIs
  hash := keyH w
  inj := fun v a b ha hb => by
    rcases keyIs_shape ha with ⟨i, t, rfl, rfl⟩ | ⟨x, t, rfl, rfl⟩
    · rcases keyIs_shape hb with ⟨j, u, rfl, e⟩ | ⟨y, u, rfl, e⟩
      · injection e with e1 _; rw [e1]
      · exact nomatch e
    · rcases keyIs_shape hb with ⟨j, u, rfl, e⟩ | ⟨y, u, rfl, e⟩
      · exact nomatch e
      · injection e with e1 _; rw [e1]
  byValue := fun k v h => by
    rcases keyIs_shape h with ⟨i, t, rfl, rfl⟩ | ⟨x, t, rfl, rfl⟩ <;> rfl
  pyHash := fun hv h => by
    rcases keyIs_shape hv with ⟨i, t, rfl, rfl⟩ | ⟨x, t, rfl, rfl⟩
    · exact wpAny_pyHash_int h
    · exact wpAny_pyHash_str h
  eqBool := fun hu hv h => by
    rcases keyIs_shape hu with ⟨i, t, rfl, rfl⟩ | ⟨x, t, rfl, rfl⟩
    · rcases keyIs_shape hv with ⟨j, u, rfl, rfl⟩ | ⟨y, u, rfl, rfl⟩
      · rw [key_ll] at h; exact wpAny_eqBool_int h
      · rw [key_lr] at h; exact SeqAt.EqAt.int_str i t y u _ _ _ _ h
    · rcases keyIs_shape hv with ⟨j, u, rfl, rfl⟩ | ⟨y, u, rfl, rfl⟩
      · rw [key_rl] at h; exact SeqAt.EqAt.str_int x t j u _ _ _ _ h
      · rw [key_rr] at h; exact wpAny_eqBool_str h
  «strs» := fun k x t v h => by
    rcases keyIs_shape h with ⟨i, u, rfl, e⟩ | ⟨y, u, rfl, e⟩
    · exact nomatch e
    · injection e with e1 _
      subst e1
      cases v <;> rfl
theorem mixKind_int (prog : Program) (w : World) (i : Int) (t : Tok) : (mixKind prog w).is (.inl i) (.int i t) = true := keyIs_int i t
theorem mixKind_str (prog : Program) (w : World) (x : Str) (t : Tok) : (mixKind prog w).is (.inr x) (.str x t) = true := keyIs_str x t
end L2
namespace L2
open PySem PySem.Spec PyProof.Rows
inductive V where
  | non | bl (b : Bool) | int (i : Int) | str (x : Str) | byt (b : Array UInt8) | flt (b : UInt64) | ref (a : Addr) | ty (n : String)
  deriving DecidableEq
def RelV : V → Value → Prop
  | .non, u => u = Value.none
  | .bl b, u => u = Value.bool b
  | .int i, u => ∃ t, u = Value.int i t
  | .str x, u => ∃ t, u = Value.str x t
  | .byt b, u => ∃ t, u = Value.bytes b t
  | .flt b, u => ∃ t, u = Value.float b t
  | .ref a, u => u = Value.ref a
  | .ty n, u => u = Value.type n
abbrev Vals : List V → List Value → Prop := Paired RelV
theorem Vals.length {xs : List V} {us : List Value} (r : Vals xs us) : xs.length = us.length := Paired.length r
theorem Vals.get : ∀ {xs : List V} {us : List Value} {i : Nat} {x : V}, Vals xs us → xs[i]? = some x → ∃ u, us[i]? = some u ∧ RelV x u
  | _, _, _, _, .nil, e => by simp at e
  | _, _, 0, _, .cons r _, e => by simp at e; subst e; exact ⟨_, rfl, r⟩
  | _, _, i + 1, x, .cons _ t, e => by
    obtain ⟨u, h1, h2⟩ := Vals.get (i := i) (x := x) t (by simpa using e)
    exact ⟨u, by simpa using h1, h2⟩
theorem Vals.set {x : V} {u : Value} (r : RelV x u) : ∀ {xs : List V} {us : List Value} (i : Nat), Vals xs us → Vals (xs.set i x) (us.set i u)
  | _, _, _, .nil => .nil
  | _, _, 0, .cons _ t => .cons r t
  | _, _, i + 1, .cons q t => .cons q (Vals.set r i t)
theorem Vals.append : ∀ {xs ys : List V} {us ws : List Value}, Vals xs us → Vals ys ws → Vals (xs ++ ys) (us ++ ws)
  | _, _, _, _, .nil, s => s
  | _, _, _, _, .cons r t, s => .cons r (Vals.append t s)
theorem Vals.take : ∀ {xs : List V} {us : List Value} (n : Nat), Vals xs us → Vals (xs.take n) (us.take n)
  | _, _, 0, _ => .nil
  | _, _, _ + 1, .nil => .nil
  | _, _, n + 1, .cons r t => .cons r (Vals.take n t)
theorem Vals.drop : ∀ {xs : List V} {us : List Value} (n : Nat), Vals xs us → Vals (xs.drop n) (us.drop n)
  | _, _, 0, r => r
  | _, _, _ + 1, .nil => .nil
  | _, _, n + 1, .cons _ t => Vals.drop n t
def RelO : Option V → Option Value → Prop
  | some v, some u => RelV v u
  | none, none => True
  | _, _ => False
def KV {κ : Type} : List (κ × V) → List (κ × Value) → Prop := Paired fun (p : κ × V) (q : κ × Value) => p.1 = q.1 ∧ RelV p.2 q.2
def kV : Key → V
  | .inl i => .int i
  | .inr x => .str x
inductive HO where
    | lst (xs : List V)
    | tup (xs : List V)
    | dK (kvs : List (Key × V)) | dT (kvs : List (List Key × V))
    | set (S : Int → Bool) (n : Nat)
    | ins (C dx : Addr) (fs : List (Str × V))
    | own (x : Addr)
    | xd (fs : List (Str × V))
    | met (f x : Addr)
    | rng (lo hi : Int)
    | frz (o : Obj) (u : HO)
    | tbl (ps : Array Value)
    | ext (φ : Heap → Prop)
abbrev Hp := Addr → Option HO
def upd (H : Hp) (a : Addr) (o : HO) : Hp := fun b => if b = a then some o else H b
theorem upd_same {H : Hp} {a : Addr} {o : HO} : upd H a o a = some o := by unfold upd; rw [if_pos rfl]
theorem upd_ne {H : Hp} {a b : Addr} {o : HO} (h : b ≠ a) : upd H a o b = H b := by unfold upd; rw [if_neg h]
theorem ne_of_none {H : Hp} {a b : Addr} {o : HO} (h : H a = some o) (h' : H b = none) : a ≠ b := by
  intro e; subst e; rw [h] at h'; cases h'
def IsTupN (h : Heap) (a : Addr) (items : Array Value) : Prop := ∃ o, h.get? a = some o ∧ o.cls = .type "tuple" ∧ o.dict = none ∧ ∃ n, o.data = .seq items n
theorem IsTupN.tup {h : Heap} {a : Addr} {items : Array Value} (x : IsTupN h a items) : IsTup h a items := let ⟨o, e, c, _, n, d⟩ := x; ⟨o, e, c, n, d⟩
theorem IsTupN.lt {h : Heap} {a : Addr} {items : Array Value} (x : IsTupN h a items) : a < h.objs.size := x.tup.lt
theorem IsTupN.new (h : Heap) (items : Array Value) : IsTupN (h.push { cls := .type "tuple", data := .seq items }) h.objs.size items := ⟨_, Heap.get?_push_size _ rfl, rfl, rfl, _, rfl⟩
section
variable (P : Program) (w : World)
def ObjOk (H : Hp) (h : Heap) (a : Addr) : HO → Prop
  | .lst xs => xs.length ≤ sizeLine ∧ ∃ (its : List Value) (n : Nat), Vals xs its ∧ h.get? a = some { cls := .type "list", data := .seq its.toArray n }
  | .tup xs => xs.length ≤ sizeLine ∧ ∃ its : List Value, Vals xs its ∧ IsTupN h a its.toArray
  | .dK kvs => kvs.length ≤ sizeLine ∧ (a == sysModules) = false ∧ ∃ vs, KV kvs vs ∧ h.DictOf (mixKind P w) a vs
  | .dT _ => False
  | .set S n => h.SetOf (intKind P w) a S n
  | .ins C dx fs => H dx = some (.own a) ∧ fs.length ≤ 1000 ∧ dx ≠ a ∧ h.get? a = some (PySem.W.instObj C dx) ∧
      ∃ mA, h.Ns1 dx mA ∧ (∀ f, RelO (fs.lookup f) (mA f)) ∧ PySem.Within mA (fs.map (·.1))
  | .own _ => ∃ o, h.get? a = some o
  | .xd fs => ∃ mA, h.Ns1 a mA ∧ ∀ f, RelO (fs.lookup f) (mA f)
  | .rng lo hi => ∃ t u v, h.get? a = some { cls := .type "range", data := .fields #[.int lo t, .int hi u, .int 1 v] }
  | .frz o u => h.get? a = some o ∧ ObjOk H h a u
  | .tbl ps => h.get? a = some { cls := .none, data := .fields ps }
  | .met f x => h.get? a = some (PySem.W.methodObj (.ref f) (.ref x))
  | .ext φ => φ h ∧ (∃ o, h.get? a = some o) ∧ ∀ h1 h2 : Heap, φ h1 → (∀ o, h1.get? a = some o → h2.get? a = some o) → φ h2
def HOk (H : Hp) (h : Heap) : Prop := ∀ a o, H a = some o → ObjOk P w H h a o
end
section
variable {P : Program} {w : World} {H H' : Hp} {h h' : Heap} {a : Addr} {o : HO}
theorem ObjOk.lt (x : ObjOk P w H h a o) : a < h.objs.size := by
  cases o with
  | lst xs => obtain ⟨_, _, _, _, e⟩ := x; exact Heap.lt_size e
  | tup xs => obtain ⟨_, _, _, p⟩ := x; exact p.lt
  | dK kvs => obtain ⟨_, _, _, _, o, _, _, e, _⟩ := x; exact Heap.lt_size e
  | dT kvs => exact False.elim x
  | set S n => obtain ⟨o, _, _, _, e, _⟩ := x; exact Heap.lt_size e
  | ins C dx fs => obtain ⟨_, _, _, e, _⟩ := x; exact Heap.lt_size e
  | own y => obtain ⟨_, e⟩ := x; exact Heap.lt_size e
  | xd fs => obtain ⟨_, ⟨_, _, _, e, _⟩, _⟩ := x; exact Heap.lt_size e
  | rng lo hi => obtain ⟨_, _, _, e⟩ := x; exact Heap.lt_size e
  | frz ob u => obtain ⟨e, _⟩ := x; exact Heap.lt_size e
  | tbl ps => exact Heap.lt_size (show h.get? a = some _ from x)
  | met f y => exact Heap.lt_size (show h.get? a = some _ from x)
  | ext φ => obtain ⟨_, ⟨_, e⟩, _⟩ := x; exact Heap.lt_size e
theorem ObjOk.stay (x : ObjOk P w H h a o) (k : ∀ b u, (b = a ∨ H b = some (.own a)) → h.get? b = some u → h'.get? b = some u)
    (ho : ∀ b, H b = some (.own a) → H' b = some (.own a)) (ht : ∀ b xs, H b = some (.tup xs) → H' b = some (.tup xs)) : ObjOk P w H' h' a o := by
  induction o with
  | lst xs => obtain ⟨z, its, n, r, e⟩ := x; exact ⟨z, its, n, r, k _ _ (.inl rfl) e⟩
  | tup xs => obtain ⟨z, its, r, ob, e, c⟩ := x; exact ⟨z, its, r, ob, k _ _ (.inl rfl) e, c⟩
  | dK kvs => obtain ⟨z, y, vs, r, ob, es, ep, e, c⟩ := x; exact ⟨z, y, vs, r, ob, es, ep, k _ _ (.inl rfl) e, c⟩
  | dT kvs => exact False.elim x
  | set S n => obtain ⟨ob, es, ep, t, e, c⟩ := x; exact ⟨ob, es, ep, t, k _ _ (.inl rfl) e, c⟩
  | ins C dx fs =>
    obtain ⟨d, z, ne, e, mA, ⟨od, es, ep, e2, c⟩, r⟩ := x
    exact ⟨ho _ d, z, ne, k _ _ (.inl rfl) e, mA, ⟨od, es, ep, k _ _ (.inr d) e2, c⟩, r⟩
  | own y => obtain ⟨ob, e⟩ := x; exact ⟨ob, k _ _ (.inl rfl) e⟩
  | xd fs => obtain ⟨mA, ⟨od, es, ep, e, c⟩, r⟩ := x; exact ⟨mA, ⟨od, es, ep, k _ _ (.inl rfl) e, c⟩, r⟩
  | rng lo hi => obtain ⟨t, u, v, e⟩ := x; exact ⟨t, u, v, k _ _ (.inl rfl) e⟩
  | frz ob u ih => obtain ⟨e, q⟩ := x; exact ⟨k _ _ (.inl rfl) e, ih q⟩
  | tbl ps =>
    have e : h.get? a = some { cls := .none, data := .fields ps } := x
    show h'.get? a = some { cls := .none, data := .fields ps }
    exact k a _ (.inl rfl) e
  | met f y =>
    have e : h.get? a = some (PySem.W.methodObj (.ref f) (.ref y)) := x
    show h'.get? a = some (PySem.W.methodObj (.ref f) (.ref y))
    exact k a _ (.inl rfl) e
  | ext φ => obtain ⟨p, ⟨o, e⟩, st⟩ := x; exact ⟨st _ _ p fun o q => k _ _ (.inl rfl) q, ⟨o, k _ _ (.inl rfl) e⟩, st⟩
theorem HOk.lt (x : HOk P w H h) (e : H a = some o) : a < h.objs.size := (x a o e).lt
theorem HOk.fresh (x : HOk P w H h) (e : h.objs.size ≤ a) : H a = none := by
  cases q : H a with
  | none => rfl
  | some u => exact absurd (Nat.lt_of_lt_of_le (x.lt q) e) (Nat.lt_irrefl _)
theorem HOk.kept (x : HOk P w H h) (k : ∀ b u, h.get? b = some u → h'.get? b = some u) : HOk P w H h' := fun a o e =>
  (x a o e).stay (fun b u _ q => k b u q) (fun _ q => q) fun _ _ q => q
theorem HOk.laid (x : HOk P w H h) (k : ∀ b u, h.get? b = some u → h'.get? b = some u) (hp : h.objs.size ≤ a) (new : ObjOk P w (upd H a o) h' a o) : HOk P w (upd H a o) h' := fun b u e => by
  have hn := x.fresh hp
  by_cases hb : b = a
  · subst hb; rw [upd_same] at e; cases e; exact new
  · rw [upd_ne hb] at e
    exact (x b u e).stay (fun c v _ q => k c v q) (fun c q => by rw [upd_ne (ne_of_none q hn)]; exact q) fun c xs q => by rw [upd_ne (ne_of_none q hn)]; exact q
end
def Rd (H : Hp) (a : Addr) (u : HO) : Prop := H a = some u ∨ ∃ o, H a = some (.frz o u)
theorem Rd.ok {P : Program} {w : World} {H : Hp} {h : Heap} {a : Addr} {u : HO} (r : Rd H a u) (x : HOk P w H h) : ObjOk P w H h a u := by
  rcases r with r | ⟨o, r⟩
  · exact x a u r
  · obtain ⟨_, q⟩ := x a _ r
    exact q
def Mut : Option HO → Prop
  | some (.lst _) => True
  | some (.dK _) => True
  | some (.dT _) => True
  | some (.set _ _) => True
  | some (.ins _ _ _) => True
  | some (.ext _) => True
  | _ => False
section
variable {P : Program} {w : World} {H : Hp} {h h' : Heap} {x e : Addr} {o' : HO}
theorem HOk.write (ok : HOk P w H h) (mu : Mut (H x)) (he : e = x ∨ H e = some (.own x)) (k : ∀ b u, b ≠ e → h.get? b = some u → h'.get? b = some u) (heo : ∃ u, h'.get? e = some u)
    (new : ObjOk P w (upd H x o') h' x o') : HOk P w (upd H x o') h' := fun b u q => by
  have nown : ∀ c y, H c = some (.own y) → c ≠ x := fun c y r z => by subst z; rw [r] at mu; exact mu
  have ntup : ∀ c xs, H c = some (.tup xs) → c ≠ x := fun c xs r z => by subst z; rw [r] at mu; exact mu
  by_cases hb : b = x
  · subst hb; rw [upd_same] at q; cases q; exact new
  · rw [upd_ne hb] at q
    by_cases hbe : b = e
    · have q' : H b = some (.own x) := by
        rcases he with z | z
        · exact absurd (hbe.trans z) hb
        · rw [hbe]; exact z
      rw [q] at q'; cases q'
      obtain ⟨v, hv⟩ := heo
      exact ⟨v, by rw [hbe]; exact hv⟩
    · refine (ok b u q).stay (fun c v hc r => k c v ?_ r) (fun c r => by rw [upd_ne (nown c b r)]; exact r) fun c xs r => by rw [upd_ne (ntup c xs r)]; exact r
      rcases hc with rfl | hc
      · exact hbe
      · rintro rfl
        rcases he with z | z
        · exact nown c b hc z
        · rw [hc] at z; cases z; exact hb rfl
end
structure Un (fs ex : List Addr) (H H' : Hp) (h h' : Heap) : Prop where
  keep : ∀ b o, h.get? b = some o → H b = none → b ∉ fs → b ∉ ex → h'.get? b = some o
  slot : ∀ b o, h.get? b = some o → H b = none → b ∈ fs → b ∉ ex → ∃ sl, h'.get? b = some { o with slots := sl }
  free : ∀ b o, h.get? b = some o → H b = none → b ∉ ex → H' b = none
  there : ∀ b o, h.get? b = some o → b ∉ ex → ∃ o', h'.get? b = some o'
  tups : ∀ b xs, H b = some (.tup xs) → H' b = some (.tup xs)
  frzs : ∀ b o u, H b = some (.frz o u) → H' b = some (.frz o u)
  tbls : ∀ b ps, H b = some (.tbl ps) → ∃ more, H' b = some (.tbl (ps ++ more))
section
variable {fs fs' ex ex' : List Addr} {H H1 H2 : Hp} {h h1 h2 h' : Heap} {a x e : Addr} {o : HO}
theorem Un.any (u : Un fs ex H H1 h h1) {b : Addr} {ob : Obj} (q : h.get? b = some ob) (n : H b = none) (hx : b ∉ ex) : ∃ sl, h1.get? b = some { ob with slots := sl } := by
  by_cases hb : b ∈ fs
  · exact u.slot b ob q n hb hx
  · exact ⟨ob.slots, u.keep b ob q n hb hx⟩
theorem Un.kept (k : ∀ b u, h.get? b = some u → h'.get? b = some u) : Un fs ex H H h h' :=
  ⟨fun b ob q _ _ _ => k b ob q, fun b ob q _ _ _ => ⟨ob.slots, k b ob q⟩, fun _ _ _ n _ => n, fun b ob q _ => ⟨ob, k b ob q⟩, fun _ _ q => q, fun _ _ _ q => q, fun _ ps q => ⟨#[], by rw [q]; simp⟩⟩
theorem Un.refl : Un fs ex H H h h := Un.kept fun _ _ q => q
theorem Un.laid (k : ∀ b u, h.get? b = some u → h'.get? b = some u) (hp : h.objs.size ≤ a) (hn : H a = none) : Un fs ex H (upd H a o) h h' where
  keep := fun b u q _ _ _ => k b u q
  slot := fun b u q _ _ _ => ⟨u.slots, k b u q⟩
  free := fun b u q n _ => by rw [upd_ne (Nat.ne_of_lt (Nat.lt_of_lt_of_le (Heap.lt_size q) hp))]; exact n
  there := fun b u q _ => ⟨u, k b u q⟩
  tups := fun b xs q => by rw [upd_ne (ne_of_none q hn)]; exact q
  frzs := fun b u xs q => by rw [upd_ne (ne_of_none q hn)]; exact q
  tbls := fun b ps q => ⟨#[], by rw [upd_ne (ne_of_none q hn), q]; simp⟩
theorem Un.write (mu : Mut (H x)) (he : e = x ∨ H e = some (.own x)) (k : ∀ b u, b ≠ e → h.get? b = some u → h'.get? b = some u) (heo : ∃ u, h'.get? e = some u) : Un fs ex H (upd H x o) h h' := by
  have hx : ∀ b, H b = none → b ≠ x := fun b n z => by subst z; rw [n] at mu; exact mu
  have hb : ∀ b, H b = none → b ≠ e := fun b n z => by
    subst z
    rcases he with r | r
    · exact hx b n r
    · rw [n] at r; cases r
  have hm : ∀ b u, H b = some u → ¬ Mut (some u) → b ≠ x := fun b u q nm z => by subst z; rw [q] at mu; exact nm mu
  refine ⟨fun b u q n _ _ => k b u (hb b n) q, fun b u q n _ _ => ⟨u.slots, k b u (hb b n) q⟩, fun b u q n _ => by rw [upd_ne (hx b n)]; exact n, fun b u q _ => ?_,
    fun b xs q => by rw [upd_ne (hm b _ q fun z => z)]; exact q, fun b u xs q => by rw [upd_ne (hm b _ q fun z => z)]; exact q, fun b ps q => ⟨#[], by rw [upd_ne (hm b _ q fun z => z), q]; simp⟩⟩
  by_cases hbe : b = e
  · subst hbe; exact heo
  · exact ⟨u, k b u hbe q⟩
end
def trk (h : Heap) (H : Hp) : List Addr := (List.range h.objs.size).filter fun a => (H a).isSome
def hidT (h : Heap) (H : Hp) : Heap := PySem.W.hideAll h (trk h H)
theorem hidT_size (h : Heap) (H : Hp) : (hidT h H).objs.size = h.objs.size := PySem.W.hideAll_size _ _
theorem hidT_get {h : Heap} {H : Hp} {b : Addr} {o : Obj} (e : h.get? b = some o) (n : H b = none) : (hidT h H).get? b = some o :=
  PySem.W.hideAll_get _ e fun hm => by
    have q : (H b).isSome = true := (List.mem_filter.mp hm).2
    rw [n] at q; simp at q
theorem of_hidT {h : Heap} {H : Hp} {b : Addr} {o : Obj} (e : (hidT h H).get? b = some o) : h.get? b = some o ∧ H b = none := by
  have e' : h.get? b = some o := PySem.W.of_hideAll (trk h H) e
  refine ⟨e', ?_⟩
  cases q : H b with
  | none => rfl
  | some x =>
    have hm : b ∈ trk h H := List.mem_filter.mpr ⟨List.mem_range.mpr (Heap.lt_size e'), by simp [q]⟩
    have z : (hidT h H).get? b = none := PySem.W.hideAll_none (trk h H) hm
    rw [z] at e; cases e
def allNews (g h : Heap) (L : Addr) : List (Addr × Obj) := (List.range h.objs.size).filterMap fun a => if a = L ∨ (g.get? a).isSome = true then none else (h.get? a).map fun o => (a, o)
def rest (g h : Heap) (L d : Addr) : List (Addr × Obj) := (allNews g h L).filter fun p => decide (p.1 ≠ d)
end L2
namespace L2
open PySem PySem.Spec PyProof.Rows
structure Mod (K : PySem.W.Frag) (mg : Str → Option Value) (base : Heap) : Prop where
  kin : K.In base
  glob : base.Ns mainGlobals mg
  blt : ∃ mb, base.Ns builtinsNs mb ∧ ∀ x : Str, x ≠ "__name__" → mb x = bootBuiltins x
  nolimit : base.NoLimit
structure Cx where
  prog : Program
  w : World
  K : PySem.W.Frag
  mg : Str → Option Value
  base : Heap
  A : Around
  N : List Str
  s₀ : Shared
  H₀ : Hp
  env : Env
  outer : List Env
  stack : List Env
  ex : List Addr
  fn : Str → Bool
  calm : Bool
  pn : List (Addr × Obj)
  xe : Value → Shared → Prop
def frs (l : List Env) : List Addr := l.filterMap (·.frame)
abbrev Cx.fs (X : Cx) : List Addr := frs X.outer
def Vis (sc : Scope) (x : Str) : Prop := sc.names.lookup x = some .local ∨ sc.names.lookup x = some .cell ∨ sc.names.lookup x = some .free
def Loc (sc : Scope) (x : Str) : Prop := sc.names.lookup x = some .local ∨ sc.names.lookup x = some .cell
def Look (env : Env) (h : Heap) (m : Str → Option Value) (x : Str) (u : Value) : Prop :=
  (env.kindOf x = some .local ∧ m x = some u) ∨ ((env.kindOf x = some .cell ∨ env.kindOf x = some .free) ∧ ∃ c, env.cells.lookup x = some c ∧ h.IsCell c (some u))
structure Cx.Ok (X : Cx) : Prop where
  mod : Mod X.K X.mg X.base
  kind : X.env.scope.kind = .function
  glob : X.env.globals = mainGlobals
  blt : X.env.builtins = builtinsNs
  above : X.s₀.heap.objs.size ≤ X.env.locals
  inj : ∀ x y c, X.env.cells.lookup x = some c → X.env.cells.lookup y = some c → x = y
  has : ∀ x, (X.env.kindOf x = some .cell ∨ X.env.kindOf x = some .free) → ∃ c, X.env.cells.lookup x = some c
  cab : ∀ x c, X.fn x = true → X.env.cells.lookup x = some c → X.s₀.heap.objs.size ≤ c
  hd : X.calm = true → X.A.handled = none
  frames : X.A.frames = some X.stack
  stk : X.stack = X.outer ∨ (X.stack = X.env :: X.outer ∧ X.env.frame = some X.env.locals)
  exf : ∀ b ∈ X.ex, b ≠ X.env.locals ∧ ∀ x c, X.env.cells.lookup x = some c → c ≠ b
  bs : ∀ b o, X.base.get? b = some o → X.s₀.heap.get? b = some o ∧ X.H₀ b = none
  bsz : X.base.objs.size ≤ X.s₀.heap.objs.size
  noex : ∀ b o, X.base.get? b = some o → b ∉ X.ex
  exfs : ∀ b ∈ X.ex, b ∉ X.fs
  funs : X.s₀.heap.FunFrames X.base X.outer
  frf : ∀ b ∈ X.fs, X.H₀ b = none
structure Inv (X : Cx) (pins : List (Addr × Obj)) (σ : List (Option V)) (H : Hp) (s : Shared) : Prop where
  ok : X.Ok
  os : s.os = X.s₀.os
  bare : AllBare s.gens
  base : Un X.fs X.ex X.H₀ H X.s₀.heap s.heap
  loc : ∃ m, s.heap.Ns X.env.locals m ∧ ∀ (i : Nat) (x : Str) (v : V), X.N[i]? = some x → σ[i]? = some (some v) → Vis X.env.scope x → ∃ u, RelV v u ∧ Look X.env s.heap m x u
  cell : ∀ x c, X.env.cells.lookup x = some c → ∃ v, s.heap.IsCell c v
  free : H X.env.locals = none
  freeC : ∀ x c, X.env.cells.lookup x = some c → H c = none
  pin : ∀ p ∈ X.pn ++ pins, s.heap.get? p.1 = some p.2 ∧ H p.1 = none ∧ p.1 ≠ X.env.locals ∧ p.1 ∉ X.fs ∧ ∀ v, p.2.data ≠ .cell v
  hok : HOk X.prog X.w H s.heap
  len : σ.length = X.N.length
section
variable {X : Cx} {pins : List (Addr × Obj)} {σ : List (Option V)} {H H' : Hp} {s : Shared} {h' : Heap}
theorem Cx.Ok.nofr (ok : X.Ok) {b : Addr} {o : Obj} (e : X.base.get? b = some o) : b ∉ X.fs := fun hb => by
  have := (ok.funs.mem hb).1
  rw [e] at this; cases this
theorem Inv.bs (I : Inv X pins σ H s) : ∀ b o, X.base.get? b = some o → s.heap.get? b = some o ∧ H b = none := fun b o e =>
  ⟨I.base.keep b o (I.ok.bs b o e).1 (I.ok.bs b o e).2 (I.ok.nofr e) (I.ok.noex b o e), I.base.free b o (I.ok.bs b o e).1 (I.ok.bs b o e).2 (I.ok.noex b o e)⟩
theorem Inv.bk (I : Inv X pins σ H s) : ∀ b o, X.base.get? b = some o → s.heap.get? b = some o := fun b o e => (I.bs b o e).1
theorem Inv.mod (I : Inv X pins σ H s) : Mod X.K X.mg X.base := I.ok.mod
theorem Inv.kIn (I : Inv X pins σ H s) : X.K.In s.heap := I.ok.mod.kin.keeps I.bk
theorem Inv.fr (I : Inv X pins σ H s) : ∃ m, Fr X.base X.env.locals s.heap m :=
  let ⟨m, hn, _⟩ := I.loc
  ⟨m, hn, I.bk, Nat.le_trans I.ok.bsz I.ok.above⟩
theorem Inv.lt (I : Inv X pins σ H s) : X.env.locals < s.heap.objs.size := let ⟨_, hn, _⟩ := I.loc; hn.lt
theorem Inv.sz (I : Inv X pins σ H s) : X.s₀.heap.objs.size ≤ s.heap.objs.size := Nat.le_trans I.ok.above (Nat.le_of_lt I.lt)
theorem Inv.nofs (I : Inv X pins σ H s) {a : Addr} (h : s.heap.objs.size ≤ a) : a ∉ X.fs := fun hb => by
  obtain ⟨_, o, ho, _⟩ := I.ok.funs.mem hb
  exact absurd (Nat.lt_of_lt_of_le (Heap.lt_size ho) (Nat.le_trans I.sz h)) (Nat.lt_irrefl _)
theorem Inv.cne (I : Inv X pins σ H s) : ∀ x c, X.env.cells.lookup x = some c → c ≠ X.env.locals := fun x c e z => by
  obtain ⟨v, o, ho, hd⟩ := I.cell x c e
  obtain ⟨m, ⟨o', es, ep, ho', hd', _⟩, _⟩ := I.loc
  rw [z, ho'] at ho; cases ho; rw [hd'] at hd; cases hd
theorem Inv.funs (I : Inv X pins σ H s) : s.heap.FunFrames X.base X.outer := by
  have all : ∀ (l : List Env), (∀ b ∈ frs l, b ∈ X.fs) → X.s₀.heap.FunFrames X.base l → s.heap.FunFrames X.base l := by
    intro l
    induction l with
    | nil => intro _ _; trivial
    | cons env r ih =>
      intro hs hl
      obtain ⟨hk, ⟨L, o, hf, hn, ho, hd⟩, hr⟩ := hl
      have hL : L ∈ X.fs := hs L (by unfold frs; rw [List.filterMap_cons, hf]; exact List.mem_cons_self)
      obtain ⟨sl, e⟩ := I.base.slot L o ho (I.ok.frf L hL) hL fun z => I.ok.exfs L z hL
      exact ⟨hk, ⟨L, _, hf, hn, e, hd⟩, ih (fun b hb => hs b (by unfold frs; rw [List.filterMap_cons, hf]; exact List.mem_cons_of_mem _ hb)) hr⟩
  exact all X.outer (fun _ hb => hb) I.ok.funs
theorem Inv.stack (I : Inv X pins σ H s) : s.heap.FunFrames X.base X.stack := by
  rcases I.ok.stk with e | ⟨e, hf⟩
  · rw [e]; exact I.funs
  · rw [e]
    obtain ⟨m, hn, _⟩ := I.loc
    refine .cons (by rw [I.ok.kind]; decide) hf hn ?_ I.funs
    exact Heap.get?_none_of_le (Nat.le_trans I.ok.bsz I.ok.above)
theorem Inv.stkSub (I : Inv X pins σ H s) : ∀ b ∈ frs X.stack, b ∈ X.env.locals :: X.fs := fun b hb => by
  rcases I.ok.stk with e | ⟨e, hf⟩
  · rw [e] at hb; exact List.mem_cons_of_mem _ hb
  · rw [e] at hb
    unfold frs at hb
    rw [List.filterMap_cons, hf] at hb
    exact hb
theorem Inv.stkFree (I : Inv X pins σ H s) : ∀ b ∈ frs X.stack, H b = none := fun b hb => by
  rcases List.mem_cons.mp (I.stkSub b hb) with e | hb
  · rw [e]; exact I.free
  · obtain ⟨_, o, ho, _⟩ := I.ok.funs.mem hb
    exact I.base.free b o ho (I.ok.frf b hb) fun z => I.ok.exfs b z hb
theorem Inv.step {g' : Array GenState} {t' : Nat} {d' : Drawn} {ch : List Addr} (I : Inv X pins σ H s)
    (hch : ∀ b ∈ ch, (b ∈ X.ex ∨ X.s₀.heap.objs.size ≤ b) ∧ b ≠ X.env.locals ∧ (∀ x c, X.env.cells.lookup x = some c → c ≠ b) ∧ ∀ p ∈ X.pn ++ pins, p.1 ≠ b)
    (keep : ∀ b o, b ≠ X.env.locals → b ∉ X.fs → b ∉ ch → s.heap.get? b = some o → H b = none → h'.get? b = some o)
    (slot : ∀ b o, b ≠ X.env.locals → b ∈ X.fs → b ∉ ch → s.heap.get? b = some o → H b = none → ∃ sl, h'.get? b = some { o with slots := sl }) (free : ∀ b o, b ∉ ch → s.heap.get? b = some o → H b = none → H' b = none)
    (there : ∀ b o, b ∉ ch → s.heap.get? b = some o → ∃ o', h'.get? b = some o')
    (tups : ∀ b xs, H b = some (.tup xs) → H' b = some (.tup xs)) (frzs : ∀ b o u, H b = some (.frz o u) → H' b = some (.frz o u)) (tbls : ∀ b ps, H b = some (.tbl ps) → ∃ more, H' b = some (.tbl (ps ++ more)))
    (ns : ∀ m, s.heap.Ns X.env.locals m → h'.Ns X.env.locals m) (hok : HOk X.prog X.w H' h') (hg : AllBare g') :
    Inv X pins σ H' { s with heap := h', gens := g', drawn := d', toks := t' } := by
  have neL : ∀ b o, X.s₀.heap.get? b = some o → b ≠ X.env.locals := fun b o e => Nat.ne_of_lt (Nat.lt_of_lt_of_le (Heap.lt_size e) I.ok.above)
  have neC : ∀ b o, X.s₀.heap.get? b = some o → b ∉ X.ex → b ∉ ch := fun b o e hx hb => by
    rcases (hch b hb).1 with z | z
    · exact hx z
    · exact absurd (Nat.lt_of_lt_of_le (Heap.lt_size e) z) (Nat.lt_irrefl _)
  have cellK : ∀ x c, X.env.cells.lookup x = some c → ∀ v, s.heap.IsCell c v → h'.IsCell c v := fun x c e v ⟨o, ho, hd⟩ => by
    have nch : c ∉ ch := fun z => (hch c z).2.2.1 x c e rfl
    by_cases hc : c ∈ X.fs
    · obtain ⟨sl, q⟩ := slot c o (I.cne x c e) hc nch ho (I.freeC x c e)
      exact ⟨_, q, hd⟩
    · exact ⟨o, keep c o (I.cne x c e) hc nch ho (I.freeC x c e), hd⟩
  refine ⟨I.ok, I.os, hg, ⟨fun b o e n hb hx => ?_, fun b o e n hb hx => ?_, fun b o e n hx => ?_, fun b o e hx => ?_, fun b xs e => tups b xs (I.base.tups b xs e), fun b o xs e => frzs b o xs (I.base.frzs b o xs e), fun b ps e => ?_⟩, ?_, fun x c e => ?_, ?_, fun x c e => ?_, fun p hp => ?_, hok, I.len⟩
  · exact keep b o (neL b o e) hb (neC b o e hx) (I.base.keep b o e n hb hx) (I.base.free b o e n hx)
  · obtain ⟨sl, e1⟩ := I.base.slot b o e n hb hx
    obtain ⟨sl', e2⟩ := slot b _ (neL b o e) hb (neC b o e hx) e1 (I.base.free b o e n hx)
    exact ⟨sl', e2⟩
  · obtain ⟨o', e1⟩ := I.base.there b o e hx
    exact free b o' (neC b o e hx) e1 (I.base.free b o e n hx)
  · obtain ⟨o', e1⟩ := I.base.there b o e hx
    exact there b o' (neC b o e hx) e1
  · obtain ⟨m1, e1⟩ := I.base.tbls b ps e
    obtain ⟨m2, e2⟩ := tbls b _ e1
    exact ⟨m1 ++ m2, by rw [e2, Array.append_assoc]⟩
  · obtain ⟨m, hn, hl⟩ := I.loc
    refine ⟨m, ns m hn, fun i x v e1 e2 e3 => ?_⟩
    obtain ⟨u, r, l⟩ := hl i x v e1 e2 e3
    refine ⟨u, r, ?_⟩
    rcases l with l | ⟨k, c, e, z⟩
    · exact .inl l
    · exact .inr ⟨k, c, e, cellK x c e _ z⟩
  · obtain ⟨v, z⟩ := I.cell x c e
    exact ⟨v, cellK x c e v z⟩
  · obtain ⟨m, ⟨o, _, _, ho, _⟩, _⟩ := I.loc
    exact free _ o (fun z => (hch _ z).2.1 rfl) ho I.free
  · obtain ⟨v, o, ho, hd⟩ := I.cell x c e
    exact free c o (fun z => (hch c z).2.2.1 x c e rfl) ho (I.freeC x c e)
  · obtain ⟨e, n, ne, nf, d⟩ := I.pin p hp
    have nch : p.1 ∉ ch := fun z => (hch p.1 z).2.2.2 p hp rfl
    exact ⟨keep p.1 p.2 ne nf nch e n, free p.1 p.2 nch e n, ne, nf, d⟩
theorem Inv.un {t' : Nat} (I : Inv X pins σ H s) (u : Un X.fs [] H H' s.heap h') (hok : HOk X.prog X.w H' h') : Inv X pins σ H' { s with heap := h', toks := t' } := by
  obtain ⟨m, ⟨o, es, ep, ho, r⟩, _⟩ := id I.loc
  obtain ⟨sl, hL⟩ := u.any ho I.free (by simp)
  exact I.step (g' := s.gens) (d' := s.drawn) (ch := []) (fun _ z => nomatch z) (fun b o _ hb _ e n => u.keep b o e n hb (by simp)) (fun b o _ hb _ e n => u.slot b o e n hb (by simp)) (fun b o _ e n => u.free b o e n (by simp)) (fun b o _ e => u.there b o e (by simp)) u.tups u.frzs u.tbls (fun m' hm => by
    obtain ⟨o', es', ep', ho', r'⟩ := hm
    rw [ho] at ho'; cases ho'
    exact ⟨_, es', ep', hL, r'⟩) hok I.bare
theorem Inv.call {g' : Array GenState} {t' : Nat} {d' : Drawn} {ch : List Addr} (I : Inv X pins σ H s) (u : Un (frs X.stack) ch H H' s.heap h') (hok : HOk X.prog X.w H' h') (hg : AllBare g')
    (hch : ∀ b ∈ ch, (b ∈ X.ex ∨ X.s₀.heap.objs.size ≤ b) ∧ b ≠ X.env.locals ∧ (∀ x c, X.env.cells.lookup x = some c → c ≠ b) ∧ ∀ p ∈ X.pn ++ pins, p.1 ≠ b) :
    Inv X pins σ H' { s with heap := h', gens := g', drawn := d', toks := t' } := by
  obtain ⟨m, ⟨o, es, ep, ho, r⟩, _⟩ := id I.loc
  obtain ⟨sl, hL⟩ := u.any ho I.free fun z => (hch _ z).2.1 rfl
  exact I.step (ch := ch) hch (fun b o hL hb hc e n => u.keep b o e n (fun z => (List.mem_cons.mp (I.stkSub b z)).elim hL hb) hc) (fun b o _ _ hc e n => u.any e n hc) (fun b o hc e n => u.free b o e n hc) (fun b o hc e => u.there b o e hc) u.tups u.frzs u.tbls (fun m' hm => by
    obtain ⟨o', es', ep', ho', r'⟩ := hm
    rw [ho] at ho'; cases ho'
    exact ⟨_, es', ep', hL, r'⟩) hok hg
theorem Inv.turned {t' : Nat} {it : Addr} (I : Inv X pins σ H s) (k : ∀ b o, b ≠ it → s.heap.get? b = some o → h'.get? b = some o) (hn : H it = none) (hL : it ≠ X.env.locals)
    (h1 : it ∈ X.ex ∨ X.s₀.heap.objs.size ≤ it) (h2 : ∀ x c, X.env.cells.lookup x = some c → c ≠ it) (h3 : ∀ p ∈ X.pn ++ pins, p.1 ≠ it) : Inv X pins σ H { s with heap := h', toks := t' } := by
  have nit : ∀ b u, H b = some u → b ≠ it := fun b u e z => by rw [z, hn] at e; cases e
  refine I.step (g' := s.gens) (d' := s.drawn) (ch := [it]) (fun b hb => ?_) (fun b o _ _ hc e _ => k b o (fun z => hc (by simp [z])) e) (fun b o _ _ hc e _ => ⟨o.slots, k b o (fun z => hc (by simp [z])) e⟩) (fun _ _ _ _ n => n)
    (fun b o hc e => ⟨o, k b o (fun z => hc (by simp [z])) e⟩) (fun _ _ e => e) (fun _ _ _ e => e) (fun b ps e => ⟨#[], by rw [e]; simp⟩) (fun m hm => ?_) (fun b u e => ?_) I.bare
  · have e : b = it := by simpa using hb
    subst e
    exact ⟨h1, hL, h2, h3⟩
  · obtain ⟨o, es, ep, ho, r⟩ := hm
    exact ⟨o, es, ep, k _ o (Ne.symm hL) ho, r⟩
  · refine (I.hok b u e).stay (fun c v hc q => k c v ?_ q) (fun _ q => q) fun _ _ q => q
    rcases hc with z | z
    · rw [z]; exact nit b u e
    · exact nit c _ z
theorem Inv.tok (I : Inv X pins σ H s) (t : Nat) : Inv X pins σ H { s with toks := t } := I.un (h' := s.heap) (t' := t) Un.refl I.hok
theorem Inv.kept {t' : Nat} (I : Inv X pins σ H s) (k : ∀ b u, s.heap.get? b = some u → h'.get? b = some u) : Inv X pins σ H { s with heap := h', toks := t' } := I.un (Un.kept k) (I.hok.kept k)
theorem Inv.laid {a : Addr} {o : HO} {t' : Nat} (I : Inv X pins σ H s) (k : ∀ b u, s.heap.get? b = some u → h'.get? b = some u) (hp : s.heap.objs.size ≤ a) (new : ObjOk X.prog X.w (upd H a o) h' a o) :
    Inv X pins σ (upd H a o) { s with heap := h', toks := t' } := I.un (Un.laid k hp (I.hok.fresh hp)) (I.hok.laid k hp new)
theorem Inv.write {x e : Addr} {o : HO} {t' : Nat} (I : Inv X pins σ H s) (mu : Mut (H x)) (he : e = x ∨ H e = some (.own x)) (k : ∀ b u, b ≠ e → s.heap.get? b = some u → h'.get? b = some u) (heo : ∃ u, h'.get? e = some u)
    (new : ObjOk X.prog X.w (upd H x o) h' x o) : Inv X pins σ (upd H x o) { s with heap := h', toks := t' } := I.un (Un.write mu he k heo) (I.hok.write mu he k heo new)
theorem Inv.weak {σ' : List (Option V)} (I : Inv X pins σ H s) (hl : σ'.length = σ.length) (w : ∀ (i : Nat) v, σ'[i]? = some (some v) → σ[i]? = some (some v)) : Inv X pins σ' H s :=
  ⟨I.ok, I.os, I.bare, I.base, let ⟨m, hn, hl'⟩ := I.loc; ⟨m, hn, fun i x v e1 e2 e3 => hl' i x v e1 (w i v e2) e3⟩, I.cell, I.free, I.freeC, I.pin, I.hok, hl.trans I.len⟩
theorem Inv.pins_of {pins' : List (Addr × Obj)} (I : Inv X pins σ H s) (h : ∀ p ∈ pins', s.heap.get? p.1 = some p.2 ∧ H p.1 = none ∧ p.1 ≠ X.env.locals ∧ p.1 ∉ X.fs ∧ ∀ v, p.2.data ≠ .cell v) : Inv X pins' σ H s :=
  ⟨I.ok, I.os, I.bare, I.base, I.loc, I.cell, I.free, I.freeC, fun p hp => (List.mem_append.mp hp).elim (fun z => I.pin p (List.mem_append_left _ z)) (h p), I.hok, I.len⟩
theorem nodup_ix {N : List Str} (hN : N.Nodup) {i j : Nat} {x : Str} (a : N[i]? = some x) (b : N[j]? = some x) : i = j := by
  obtain ⟨h1, e1⟩ := List.getElem?_eq_some_iff.mp a
  obtain ⟨h2, e2⟩ := List.getElem?_eq_some_iff.mp b
  exact (List.getElem_inj hN).mp (e1.trans e2.symm)
theorem store_ok2 {M : Model} {A : Around} {E : Value → Shared → Prop} {i : Nat} {x : Str} {v : V} {u : Value} {Q : Unit → Shared → Prop} (I : Inv X pins σ H s) (hN : X.N.Nodup) (hi : X.N[i]? = some x) (hx : Loc X.env.scope x) (r : RelV v u)
    (h : ∀ s', Inv X pins (σ.set i (some v)) H s' → (∃ a, Heap.SameBut a s.heap s'.heap ∧ (a = X.env.locals ∨ X.env.cells.lookup x = some a)) → Q () s') (hf : X.fn x = true ∨ X.env.scope.names.lookup x = some .local := by first | exact .inl rfl | exact .inr rfl | assumption) : wpAny M A (storeName X.env x u) Q E s := by
  obtain ⟨m, hn, hl⟩ := id I.loc
  have hcls : (X.env.scope.kind == .class || (X.env.scope.kind == .module && X.env.locals != X.env.globals)) = false := by rw [I.ok.kind]; rfl
  have hiσ : i < σ.length := by rw [I.len]; exact (List.getElem?_eq_some_iff.mp hi).1
  have cne := I.cne
  have tracked : ∀ {a : Addr} {h' : Heap}, (∃ o, s.heap.get? a = some o ∧ H a = none) → Heap.SameBut a s.heap h' → HOk X.prog X.w H h' := fun {a h'} ha hs b ob e => by
    obtain ⟨_, _, hfree⟩ := ha
    refine (I.hok b ob e).stay (fun c w' hc q => (hs.2 c ?_).trans q) (fun _ q => q) fun _ _ q => q
    rintro rfl
    rcases hc with rfl | hc
    · rw [hfree] at e; cases e
    · rw [hfree] at hc; cases hc
  rcases hx with hk | hk
  · refine wpAny_storeName_local hk hn (fun h' hn' hs => ?_) hcls
    obtain ⟨oL, _, _, hoL, _⟩ := id hn
    refine h _ ⟨I.ok, I.os, I.bare, ⟨fun b o e n hb hx => ?_, fun b o e n hb hx => ?_, I.base.free, fun b o e hx => ?_, I.base.tups, I.base.frzs, I.base.tbls⟩, ⟨_, hn', fun j y v' e1 e2 e3 => ?_⟩, fun y c e => ?_, I.free, I.freeC, fun p hp => ?_, tracked ⟨oL, hoL, I.free⟩ hs, by simpa using I.len⟩ ⟨_, hs, .inl rfl⟩
    · exact (hs.2 b (Nat.ne_of_lt (Nat.lt_of_lt_of_le (Heap.lt_size e) I.ok.above))).trans (I.base.keep b o e n hb hx)
    · obtain ⟨sl, e1⟩ := I.base.slot b o e n hb hx
      exact ⟨sl, (hs.2 b (Nat.ne_of_lt (Nat.lt_of_lt_of_le (Heap.lt_size e) I.ok.above))).trans e1⟩
    · obtain ⟨o', e1⟩ := I.base.there b o e hx
      exact ⟨o', (hs.2 b (Nat.ne_of_lt (Nat.lt_of_lt_of_le (Heap.lt_size e) I.ok.above))).trans e1⟩
    · by_cases hj : j = i
      · subst hj
        rw [hi] at e1; cases e1
        rw [List.getElem?_set_self hiσ] at e2
        cases e2
        exact ⟨u, r, .inl ⟨hk, by simp⟩⟩
      · rw [List.getElem?_set_ne (Ne.symm hj)] at e2
        obtain ⟨u', r', q⟩ := hl j y v' e1 e2 e3
        refine ⟨u', r', ?_⟩
        rcases q with ⟨k, e⟩ | ⟨k, c, e, z⟩
        · refine .inl ⟨k, ?_⟩
          have : y ≠ x := fun e => hj (nodup_ix hN e1 (e ▸ hi))
          simp [this, e]
        · exact .inr ⟨k, c, e, z.sameBut hs (cne y c e)⟩
    · obtain ⟨w', z⟩ := I.cell y c e
      exact ⟨w', z.sameBut hs (cne y c e)⟩
    · obtain ⟨e, n, ne, nf, d⟩ := I.pin p hp
      exact ⟨(hs.2 p.1 ne).trans e, n, ne, nf, d⟩
  · have hfn : X.fn x = true := by
      rcases hf with z | z
      · exact z
      · rw [z] at hk; cases hk
    obtain ⟨c, hc⟩ := I.ok.has x (.inl hk)
    obtain ⟨w', z⟩ := I.cell x c hc
    refine wpAny_storeName_cell I.ok.kind hk hc z (fun h' hc' hs => ?_)
    obtain ⟨oc, hoc, hocd⟩ := id z
    refine h { s with heap := h' } ⟨I.ok, I.os, I.bare, ⟨fun b o e n hb hx => ?_, fun b o e n hb hx => ?_, I.base.free, fun b o e hx => ?_, I.base.tups, I.base.frzs, I.base.tbls⟩, ⟨m, hn.sameBut hs (Ne.symm (cne x c hc)), fun j y v' e1 e2 e3 => ?_⟩, fun y c' e => ?_, I.free, I.freeC, fun p hp => ?_, tracked ⟨oc, hoc, I.freeC x c hc⟩ hs, by simpa using I.len⟩ ⟨c, hs, .inr hc⟩
    · exact (hs.2 b (Nat.ne_of_lt (Nat.lt_of_lt_of_le (Heap.lt_size e) (I.ok.cab x c hfn hc)))).trans (I.base.keep b o e n hb hx)
    · obtain ⟨sl, e1⟩ := I.base.slot b o e n hb hx
      exact ⟨sl, (hs.2 b (Nat.ne_of_lt (Nat.lt_of_lt_of_le (Heap.lt_size e) (I.ok.cab x c hfn hc)))).trans e1⟩
    · obtain ⟨o', e1⟩ := I.base.there b o e hx
      exact ⟨o', (hs.2 b (Nat.ne_of_lt (Nat.lt_of_lt_of_le (Heap.lt_size e) (I.ok.cab x c hfn hc)))).trans e1⟩
    · by_cases hj : j = i
      · subst hj
        rw [hi] at e1; cases e1
        rw [List.getElem?_set_self hiσ] at e2
        cases e2
        exact ⟨u, r, .inr ⟨.inl hk, c, hc, hc'⟩⟩
      · rw [List.getElem?_set_ne (Ne.symm hj)] at e2
        obtain ⟨u', r', q⟩ := hl j y v' e1 e2 e3
        refine ⟨u', r', ?_⟩
        rcases q with q | ⟨k, c', e, z'⟩
        · exact .inl q
        · refine .inr ⟨k, c', e, z'.sameBut hs ?_⟩
          rintro rfl
          exact hj (nodup_ix hN e1 (I.ok.inj _ _ _ e hc ▸ hi))
    · by_cases hcc : c' = c
      · subst hcc; exact ⟨_, hc'⟩
      · obtain ⟨w2, z2⟩ := I.cell y c' e
        exact ⟨w2, z2.sameBut hs hcc⟩
    · obtain ⟨e, n, ne, nf, d⟩ := I.pin p hp
      refine ⟨(hs.2 p.1 ?_).trans e, n, ne, nf, d⟩
      intro q
      rw [q, hoc] at e
      have q' : oc = p.2 := Option.some.inj e
      exact d w' (by rw [← q']; exact hocd)
theorem store_ok {M : Model} {A : Around} {E : Value → Shared → Prop} {i : Nat} {x : Str} {v : V} {u : Value} {Q : Unit → Shared → Prop} (I : Inv X pins σ H s) (hN : X.N.Nodup) (hi : X.N[i]? = some x) (hx : Loc X.env.scope x) (r : RelV v u)
    (h : ∀ s', Inv X pins (σ.set i (some v)) H s' → Q () s') (hf : X.fn x = true ∨ X.env.scope.names.lookup x = some .local := by first | exact .inl rfl | exact .inr rfl | assumption) : wpAny M A (storeName X.env x u) Q E s :=
  store_ok2 I hN hi hx r (fun s' I' _ => h s' I') hf
theorem Inv.call' {s' : Shared} {ch : List Addr} (I : Inv X pins σ H s) (ho : s'.os = s.os) (u : Un (frs X.stack) ch H H' s.heap s'.heap) (hok : HOk X.prog X.w H' s'.heap) (hg : AllBare s'.gens)
    (hch : ∀ b ∈ ch, (b ∈ X.ex ∨ X.s₀.heap.objs.size ≤ b) ∧ b ≠ X.env.locals ∧ (∀ x c, X.env.cells.lookup x = some c → c ≠ b) ∧ ∀ p ∈ X.pn ++ pins, p.1 ≠ b) : Inv X pins σ H' s' := by
  obtain ⟨h', g', d', t', o'⟩ := s'
  have e : o' = s.os := ho
  subst e
  exact I.call (g' := g') (t' := t') (d' := d') u hok hg hch
end
abbrev XK := Value → Option Addr → Hp → Prop
abbrev St := List (Option V)
abbrev VK := V → Hp → Prop
abbrev TE := St → Hp → VK → Prop
abbrev TT := St → Hp → (Bool → Hp → Prop) → Prop
abbrev TA := St → Hp → (List V → Hp → Prop) → Prop
structure Ends where
  nx : St → Hp → Prop
  rt : VK
  bk : St → Hp → Prop := fun _ _ => False
  ct : St → Hp → Prop := fun _ _ => False
abbrev TS := Ends → St → Hp → Prop
def EP (X : Cx) (pins : List (Addr × Obj)) (σ : St) (Q : VK) (u : Value) (s' : Shared) : Prop := ∃ v H', Inv X pins σ H' s' ∧ RelV v u ∧ Q v H'
def TP (X : Cx) (pins : List (Addr × Obj)) (σ : St) (Q : Bool → Hp → Prop) (b : Bool) (s' : Shared) : Prop := ∃ H', Inv X pins σ H' s' ∧ Q b H'
def AP (X : Cx) (pins : List (Addr × Obj)) (σ : St) (Q : List V → Hp → Prop) (us : List Value) (s' : Shared) : Prop := ∃ vs H', Inv X pins σ H' s' ∧ Vals vs us ∧ Q vs H'
def SP (X : Cx) (pins : List (Addr × Obj)) (D : Ends) (f : Flow) (s' : Shared) : Prop :=
  match f with
  | .next => ∃ σ' H', Inv X pins σ' H' s' ∧ D.nx σ' H'
  | .brk => ∃ σ' H', Inv X pins σ' H' s' ∧ D.bk σ' H'
  | .cont => ∃ σ' H', Inv X pins σ' H' s' ∧ D.ct σ' H'
  | .ret u => ∃ v σ' H', Inv X pins σ' H' s' ∧ RelV v u ∧ D.rt v H'
def PE (X : Cx) (e : Expr) (t : TE) : Prop :=
  ∀ (pins : List (Addr × Obj)) (s : Shared) (σ : St) (H : Hp) (Q : VK), Inv X pins σ H s → t σ H Q → wpAny (model X.prog X.w) X.A (eval e X.env) (EP X pins σ Q) X.xe s
def PT (X : Cx) (e : Expr) (t : TT) : Prop :=
  ∀ (pins : List (Addr × Obj)) (s : Shared) (σ : St) (H : Hp) (Q : Bool → Hp → Prop), Inv X pins σ H s → t σ H Q → wpAny (model X.prog X.w) X.A (isTrue e X.env (eval e X.env)) (TP X pins σ Q) X.xe s
def PW (X : Cx) (e : Expr) (t : TT) : Prop :=
  ∀ (whole : Sem Value) (pins : List (Addr × Obj)) (s : Shared) (σ : St) (H : Hp) (Q : Bool → Hp → Prop), Inv X pins σ H s → t σ H Q → wpAny (model X.prog X.w) X.A (isTrue e X.env whole) (TP X pins σ Q) X.xe s
theorem PW.pt {X : Cx} {e : Expr} {t : TT} (h : PW X e t) : PT X e t := h _
def PA (X : Cx) (es : List Expr) (t : TA) : Prop :=
  ∀ (pos : Pos) (pins : List (Addr × Obj)) (s : Shared) (σ : St) (H : Hp) (Q : List V → Hp → Prop), Inv X pins σ H s → t σ H Q → wpAny (model X.prog X.w) X.A (spliced (backTo pos (starEach es X.env))) (AP X pins σ Q) X.xe s
def PS (X : Cx) (st : Stmt) (t : TS) : Prop :=
  ∀ (pins : List (Addr × Obj)) (s : Shared) (σ : St) (H : Hp) (D : Ends), Inv X pins σ H s → t D σ H → wpAny (model X.prog X.w) X.A (exec st X.env) (SP X pins D) X.xe s
def PSs (X : Cx) (st : List Stmt) (t : TS) : Prop :=
  ∀ (pins : List (Addr × Obj)) (s : Shared) (σ : St) (H : Hp) (D : Ends), Inv X pins σ H s → t D σ H → wpAny (model X.prog X.w) X.A (execs st X.env) (SP X pins D) X.xe s
theorem thn {α : Type} {t : Sem α} {Q Q' : α → Shared → Prop} {M : Model} {A : Around} {E : Value → Shared → Prop} {s : Shared} (h : wpAny M A t Q E s) (hQ : ∀ a s, Q a s → Q' a s) : wpAny M A t Q' E s := wpAny_mono h hQ fun _ _ x => x
end L2
namespace L2
open PySem PySem.Spec PyProof.Rows
section
variable {X : Cx}
def tVar (i : Nat) : TE := fun σ H Q => ∃ v, σ[i]? = some (some v) ∧ Q v H
def tC (v : V) : TE := fun _ H Q => Q v H
theorem pe_var {i : Nat} {x : Str} {pos : Pos} (hN : X.N[i]? = some x) (hv : Vis X.env.scope x) (hd : (x == ("__debug__" : Str)) = false := by decide) (hcd : (x == ("__classdict__" : Str)) = false := by decide) : PE X (.Name x pos) (tVar i) := by
  intro pins s σ H Q I h
  obtain ⟨v, e, h⟩ := h
  obtain ⟨m, hn, hl⟩ := I.loc
  obtain ⟨u, r, l⟩ := hl i x v hN e hv
  have fin : EP X pins σ Q u s := ⟨v, H, I, r, h⟩
  rcases l with ⟨hk, hm⟩ | ⟨hk, c, hc, hcell⟩
  · exact wpAny_Name (wpAny_loadName_local I.ok.kind hk hn hm fin) hd
  · rcases hk with hk | hk
    · exact wpAny_Name (wpAny_loadName_cell I.ok.kind hk hc hcell fin) hd
    · exact wpAny_Name (wpAny_loadName_free I.ok.kind hk hc hcell fin hcd) hd
theorem pe_int {i j pos} : PE X (.Constant (.int i) j pos) (tC (.int i)) := fun _ _ _ H _ I h => wpAny_Constant_int ⟨.int i, H, I.tok _, ⟨_, rfl⟩, h⟩
theorem pe_bl {b j pos} : PE X (.Constant (.bool b) j pos) (tC (.bl b)) := fun _ _ _ H _ I h => Constant_bool ⟨.bl b, H, I, rfl, h⟩
theorem pe_non {j pos} : PE X (.Constant .none j pos) (tC .non) := fun _ _ _ H _ I h => Constant_none ⟨.non, H, I, rfl, h⟩
theorem pe_str {x j pos} : PE X (.Constant (.str x) j pos) (tC (.str x)) := fun _ _ _ H _ I h => Calls.Constant_str ⟨.str x, H, I.tok _, ⟨_, rfl⟩, h⟩
def Gl (X : Cx) (x : Str) : Prop := X.env.kindOf x = some .globalImplicit
theorem ld_glob {E : Value → Shared → Prop} {pins : List (Addr × Obj)} {s : Shared} {σ : St} {H : Hp} {x : Str} {u : Value} {pos : Pos} {Q : Value → Shared → Prop} (I : Inv X pins σ H s) (hg : Gl X x) (hm : X.mg x = some u) (h : Q u s)
    (hd : (x == ("__debug__" : Str)) = false := by decide) : wpAny (model X.prog X.w) X.A (eval (.Name x pos) X.env) Q E s :=
  Calls.Name_function_global I.ok.kind hg (Calls.loadGlobal_global (by rw [I.ok.glob]; exact I.mod.glob.keeps I.bk) hm h) hd
theorem ld_blt {E : Value → Shared → Prop} {pins : List (Addr × Obj)} {s : Shared} {σ : St} {H : Hp} {x : Str} {u : Value} {pos : Pos} {Q : Value → Shared → Prop} (I : Inv X pins σ H s) (hg : Gl X x) (hm : X.mg x = none) (hv : bootBuiltins x = some u) (h : Q u s)
    (hn : x ≠ "__name__" := by decide) (hd : (x == ("__debug__" : Str)) = false := by decide) : wpAny (model X.prog X.w) X.A (eval (.Name x pos) X.env) Q E s := by
  obtain ⟨mb, h1, h2⟩ := I.mod.blt
  exact Calls.Name_function_global I.ok.kind hg (Calls.loadGlobal_builtin (by rw [I.ok.glob]; exact I.mod.glob.keeps I.bk) hm (by rw [I.ok.blt]; exact h1.keeps I.bk) ((h2 x hn).trans hv) h) hd
theorem pe_glob {x : Str} {v : V} {u : Value} {pos : Pos} (hg : Gl X x) (hm : X.mg x = some u) (r : RelV v u) (hd : (x == ("__debug__" : Str)) = false := by decide) : PE X (.Name x pos) (tC v) :=
  fun _ _ _ H _ I h => ld_glob I hg hm ⟨v, H, I, r, h⟩ hd
theorem pe_bltn {x : Str} {v : V} {u : Value} {pos : Pos} (hg : Gl X x) (hm : X.mg x = none) (hv : bootBuiltins x = some u) (r : RelV v u) (hn : x ≠ "__name__" := by decide) (hd : (x == ("__debug__" : Str)) = false := by decide) : PE X (.Name x pos) (tC v) :=
  fun _ _ _ H _ I h => ld_blt I hg hm hv ⟨v, H, I, r, h⟩ hn hd
variable {a b : Expr} {ta tb : TE} {pos : Pos}
def tB (t : TE) : TT := fun σ H Q => t σ H fun x H1 => ∃ c, x = .bl c ∧ Q c H1
theorem pt_val {e : Expr} {t : TE} (h : PE X e t) (he : ∀ whole, isTrue e X.env whole = (do let v ← whole; standAt e.pos; holding [v] (truthy v)) := by intro _; rfl) : PT X e (tB t) := by
  intro pins s σ H Q I hw
  refine isTrue_plain (thn (h pins s σ H _ I hw) fun v s1 ⟨x, H1, I1, r1, q1⟩ => ?_) (he _)
  obtain ⟨d, rfl, q⟩ := q1
  cases r1
  exact wpAny_truthy_bool ⟨H1, I1, q⟩
variable {tA tB' : TT} {rest : List Expr}
def tAnd (t u : TT) : TT := fun σ H Q => t σ H fun c H1 => if c = true then u σ H1 Q else Q false H1
def tOr (t u : TT) : TT := fun σ H Q => t σ H fun c H1 => if c = true then Q true H1 else u σ H1 Q
def tNot (t : TT) : TT := fun σ H Q => t σ H fun c H1 => Q (!c) H1
theorem pw_and1 (ha : PT X a tA) : PW X (.BoolOp .And [a] pos) tA := by
  intro wh pins s σ H Q I h
  refine isTrue_and (thn (ha pins s σ H Q I h) fun c s1 e => ?_)
  cases c with
  | true => exact isTrue_and_nil e
  | false => exact e
theorem pw_or1 (ha : PT X a tA) : PW X (.BoolOp .Or [a] pos) tA := by
  intro wh pins s σ H Q I h
  refine isTrue_or (thn (ha pins s σ H Q I h) fun c s1 e => ?_)
  cases c with
  | false => exact isTrue_or_nil e
  | true => exact e
theorem pw_and (ha : PT X a tA) (hb : PW X (.BoolOp .And (b :: rest) pos) tB') : PW X (.BoolOp .And (a :: b :: rest) pos) (tAnd tA tB') := by
  intro wh pins s σ H Q I h
  refine isTrue_and (thn (ha pins s σ H _ I h) fun c s1 ⟨H1, I1, q1⟩ => ?_)
  cases c with
  | true => exact hb wh pins s1 σ H1 Q I1 q1
  | false => exact ⟨H1, I1, q1⟩
theorem pw_or (ha : PT X a tA) (hb : PW X (.BoolOp .Or (b :: rest) pos) tB') : PW X (.BoolOp .Or (a :: b :: rest) pos) (tOr tA tB') := by
  intro wh pins s σ H Q I h
  refine isTrue_or (thn (ha pins s σ H _ I h) fun c s1 ⟨H1, I1, q1⟩ => ?_)
  cases c with
  | true => exact ⟨H1, I1, q1⟩
  | false => exact hb wh pins s1 σ H1 Q I1 q1
theorem pt_not (ha : PT X a tA) : PT X (.UnaryOp .Not a pos) (tNot tA) := by
  intro pins s σ H Q I h
  exact isTrue_not (ha pins s σ H (fun c H1 => Q (!c) H1) I h)
def tAndV (ta tb : TE) : TE := fun σ H Q => ta σ H fun x H1 => ∃ c, x = .bl c ∧ if c = true then tb σ H1 Q else Q (.bl false) H1
def tOrV (ta tb : TE) : TE := fun σ H Q => ta σ H fun x H1 => ∃ c, x = .bl c ∧ if c = true then Q (.bl true) H1 else tb σ H1 Q
def tNotV (ta : TE) : TE := fun σ H Q => ta σ H fun x H1 => ∃ c, x = .bl c ∧ Q (.bl (!c)) H1
theorem pe_one {op} {t : TE} (h : PE X a t) : PE X (.BoolOp op [a] pos) t := fun pins s σ H Q I hw => BoolOp_one (h pins s σ H Q I hw)
theorem pe_and (ha : PE X a ta) (hb : PE X (.BoolOp .And (b :: rest) pos) tb) : PE X (.BoolOp .And (a :: b :: rest) pos) (tAndV ta tb) := by
  intro pins s σ H Q I h
  refine BoolOp_and (thn (ha pins s σ H _ I h) fun v s1 ⟨x, H1, I1, r1, q1⟩ => ?_)
  obtain ⟨c, rfl, q1⟩ := q1
  cases r1
  refine wpAny_truthy_bool ?_
  cases c with
  | true => exact hb pins s1 σ H1 Q I1 q1
  | false => exact ⟨.bl false, H1, I1, rfl, q1⟩
theorem pe_or (ha : PE X a ta) (hb : PE X (.BoolOp .Or (b :: rest) pos) tb) : PE X (.BoolOp .Or (a :: b :: rest) pos) (tOrV ta tb) := by
  intro pins s σ H Q I h
  refine BoolOp_or (thn (ha pins s σ H _ I h) fun v s1 ⟨x, H1, I1, r1, q1⟩ => ?_)
  obtain ⟨c, rfl, q1⟩ := q1
  cases r1
  refine wpAny_truthy_bool ?_
  cases c with
  | false => exact hb pins s1 σ H1 Q I1 q1
  | true => exact ⟨.bl true, H1, I1, rfl, q1⟩
theorem pe_not (ha : PE X a ta) : PE X (.UnaryOp .Not a pos) (tNotV ta) := by
  intro pins s σ H Q I h
  refine UnaryOp_ (thn (ha pins s σ H _ I h) fun v s1 ⟨x, H1, I1, r1, q1⟩ => ?_)
  obtain ⟨c, rfl, q1⟩ := q1
  cases r1
  exact not_of (wpAny_truthy_bool ⟨.bl (!c), H1, I1, rfl, q1⟩)
def tIf (t : TT) (ta tb : TE) : TE := fun σ H Q => t σ H fun c H1 => if c = true then ta σ H1 Q else tb σ H1 Q
theorem pe_ifExp {c : Expr} (hc : PT X c tA) (ha : PE X a ta) (hb : PE X b tb) : PE X (.IfExp c a b pos) (tIf tA ta tb) := by
  intro pins s σ H Q I h
  refine wpAny_IfExp (thn (hc pins s σ H _ I h) fun d s1 ⟨H1, I1, q1⟩ => ?_)
  cases d with
  | true => exact ha pins s1 σ H1 Q I1 q1
  | false => exact hb pins s1 σ H1 Q I1 q1
end
end L2
namespace L2
open PySem PySem.Spec PyProof.Rows
def SqL (K : PySem.W.Frag) (H : Hp) (a : Addr) (xs : List V) : Prop :=
  Rd H a (.lst xs) ∨
    ∃ (o : Obj) (its : Array Value) (n : Nat), K.lookup a = some o ∧ o.cls = .type "list" ∧ o.dict = none ∧ o.data = .seq its n ∧ its.size ≤ sizeLine ∧ Vals xs its.toList
def SqT (K : PySem.W.Frag) (H : Hp) (a : Addr) (xs : List V) : Prop :=
  Rd H a (.tup xs) ∨
    ∃ (o : Obj) (its : Array Value) (n : Nat), K.lookup a = some o ∧ o.cls = .type "tuple" ∧ o.data = .seq its n ∧ its.size ≤ sizeLine ∧ Vals xs its.toList
def absV : Value → Option V
  | .none => some .non
  | .bool b => some (.bl b)
  | .int i _ => some (.int i)
  | .str x _ => some (.str x)
  | .bytes b _ => some (.byt b)
  | .float b _ => some (.flt b)
  | .ref a => some (.ref a)
  | .type n => some (.ty n)
  | _ => none
theorem RelV.abs {x : V} {u : Value} (r : RelV x u) : absV u = some x := by
  cases x with
  | non => cases r; rfl
  | bl _ => cases r; rfl
  | int _ => obtain ⟨t, rfl⟩ := r; rfl
  | str _ => obtain ⟨t, rfl⟩ := r; rfl
  | byt _ => obtain ⟨t, rfl⟩ := r; rfl
  | flt _ => obtain ⟨t, rfl⟩ := r; rfl
  | ref _ => cases r; rfl
  | ty _ => cases r; rfl
theorem RelV.inj {x y : V} {u : Value} (r : RelV x u) (q : RelV y u) : x = y := Option.some.inj (r.abs.symm.trans q.abs)
theorem Vals.inj : ∀ {xs ys : List V} {us : List Value}, Vals xs us → Vals ys us → xs = ys
  | _, _, _, .nil, .nil => rfl
  | _, _, _, .cons r t, .cons r' t' => by rw [r.inj r', Vals.inj t t']
section
variable {X : Cx} {pins : List (Addr × Obj)} {σ : St} {H : Hp} {s : Shared} {a : Addr} {xs ys : List V}
theorem SqL.of {K : PySem.W.Frag} (h : H a = some (.lst xs)) : SqL K H a xs := .inl (.inl h)
theorem SqT.of {K : PySem.W.Frag} (h : H a = some (.tup xs)) : SqT K H a xs := .inl (.inl h)
theorem Inv.list (I : Inv X pins σ H s) (h : SqL X.K H a xs) : ∃ its : List Value, Vals xs its ∧ PlainL s.heap a its.toArray ∧ xs.length ≤ sizeLine := by
  rcases h with h | ⟨o, its, n, hk, hc, hd, hs, hz, r⟩
  · obtain ⟨z, its, n, r, e⟩ := h.ok I.hok
    exact ⟨its, r, ⟨_, n, e, rfl, rfl, rfl⟩, z⟩
  · refine ⟨its.toList, r, ⟨o, n, I.kIn a o hk, hc, hd, by simpa using hs⟩, ?_⟩
    have e := r.length
    simp only [Array.length_toList] at e
    omega
theorem Inv.tuple (I : Inv X pins σ H s) (h : SqT X.K H a xs) : ∃ its : List Value, Vals xs its ∧ IsTup s.heap a its.toArray ∧ xs.length ≤ sizeLine := by
  rcases h with h | ⟨o, its, n, hk, hc, hs, hz, r⟩
  · obtain ⟨z, its, r, p⟩ := h.ok I.hok
    exact ⟨its, r, p.tup, z⟩
  · refine ⟨its.toList, r, ⟨o, I.kIn a o hk, hc, n, by simpa using hs⟩, ?_⟩
    have e := r.length
    simp only [Array.length_toList] at e
    omega
theorem Inv.list_inj (I : Inv X pins σ H s) (h : SqL X.K H a xs) (h' : SqL X.K H a ys) : xs = ys := by
  obtain ⟨its, r, ⟨o, n, e, _, _, d⟩, _⟩ := I.list h
  obtain ⟨its', r', ⟨o', n', e', _, _, d'⟩, _⟩ := I.list h'
  rw [e] at e'; cases e'
  rw [d] at d'
  injection d' with d1 _
  have : its = its' := by simpa using congrArg Array.toList d1
  subst this
  exact r.inj r'
theorem Inv.tuple_inj (I : Inv X pins σ H s) (h : SqT X.K H a xs) (h' : SqT X.K H a ys) : xs = ys := by
  obtain ⟨its, r, ⟨o, e, _, n, d⟩, _⟩ := I.tuple h
  obtain ⟨its', r', ⟨o', e', _, n', d'⟩, _⟩ := I.tuple h'
  rw [e] at e'; cases e'
  rw [d] at d'
  injection d' with d1 _
  have : its = its' := by simpa using congrArg Array.toList d1
  subst this
  exact r.inj r'
end
abbrev Cx.wish (X : Cx) (E : Value → Shared → Prop) : Cx := { X with xe := E }
section
variable {X : Cx} {pins : List (Addr × Obj)} {σ : St} {H : Hp} {s : Shared} {E : Value → Shared → Prop}
end
section
variable {X : Cx} {st : Stmt} {rest : List Stmt} {t u : TS} {e : Expr} {te : TE} {pos : Pos}
def tNext : TS := fun D σ H => D.nx σ H
def tSeq (t u : TS) : TS := fun D σ H => t { D with nx := u D } σ H
theorem pss_nil : PSs X [] tNext := fun _ _ σ H _ I h => wpAny_execs_nil ⟨σ, H, I, h⟩
theorem pss_cons (h1 : PS X st t) (h2 : PSs X rest u) : PSs X (st :: rest) (tSeq t u) := by
  intro pins s σ H D I h
  refine wpAny_execs_cons (thn (h1 pins s σ H { D with nx := u D } I h) fun f s1 q => ?_)
  cases f with
  | next =>
    obtain ⟨σ', H', I', q⟩ := q
    exact h2 pins s1 σ' H' D I' q
  | ret v => exact q
  | brk => exact q
  | cont => exact q
theorem pss_one (h1 : PS X st t) : PSs X [st] t := by
  intro pins s σ H D I h
  refine wpAny_execs_cons (thn (h1 pins s σ H D I h) fun f s1 q => ?_)
  cases f with
  | next => exact wpAny_execs_nil q
  | ret v => exact q
  | brk => exact q
  | cont => exact q
theorem Inv.quiet {pins : List (Addr × Obj)} {σ : St} {H : Hp} {s : Shared} (I : Inv X pins σ H s) : interactive X.env = false := by simp [interactive, I.ok.kind]
def tDrop (te : TE) : TS := fun D σ H => te σ H fun _ H1 => D.nx σ H1
theorem ps_expr (he : PE X e te) (hs : swapsWith e none pos.line X.env = pure false := by rfl) : PS X (.Expr e pos) (tDrop te) := by
  intro pins s σ H D I h
  exact wpAny_Expr_any (thn (he pins s σ H _ I h) fun v s1 ⟨x, H1, I1, r1, q1⟩ => ⟨σ, H1, I1, q1⟩) I.quiet hs
def tRet (te : TE) : TS := fun D σ H => te σ H D.rt
theorem ps_ret (he : PE X e te) : PS X (.Return (some e) pos) (tRet te) := by
  intro pins s σ H D I h
  exact wpAny_Return_some (thn (he pins s σ H _ I h) fun v s1 ⟨x, H1, I1, r1, q1⟩ => ⟨x, σ, H1, I1, r1, q1⟩)
def tIfS (c : TT) (t u : TS) : TS := fun D σ H => c σ H fun b H1 => if b = true then t D σ H1 else u D σ H1
theorem ps_if {c : Expr} {a b : List Stmt} {tc : TT} (hc : PT X c tc) (ha : PSs X a t) (hb : PSs X b u) : PS X (.If c a b pos) (tIfS tc t u) := by
  intro pins s σ H D I h
  refine wpAny_If (thn (hc pins s σ H _ I h) fun d s1 ⟨H1, I1, q1⟩ => ?_)
  cases d with
  | true => exact ha pins s1 σ H1 D I1 q1
  | false => exact hb pins s1 σ H1 D I1 q1
end
abbrev TG := V → St → Hp → (St → Hp → Prop) → Prop
abbrev TGs := List V → St → Hp → (St → Hp → Prop) → Prop
def PG (X : Cx) (target : Expr) (t : TG) : Prop :=
  ∀ (pins : List (Addr × Obj)) (s : Shared) (σ : St) (H : Hp) (v : V) (u : Value) (Q : St → Hp → Prop), Inv X pins σ H s → RelV v u → t v σ H Q →
    wpAny (model X.prog X.w) X.A (assign target X.env u) (fun _ s' => ∃ σ' H', Inv X pins σ' H' s' ∧ Q σ' H') X.xe s
def PGs (X : Cx) (ts : List Expr) (t : TGs) : Prop :=
  ∀ (pins : List (Addr × Obj)) (s : Shared) (σ : St) (H : Hp) (vs : List V) (us : List Value) (Q : St → Hp → Prop), Inv X pins σ H s → Vals vs us → t vs σ H Q →
    wpAny (model X.prog X.w) X.A (assignInOrder ((assignEach ts X.env).map (·.2)) us) (fun _ s' => ∃ σ' H', Inv X pins σ' H' s' ∧ Q σ' H') X.xe s
abbrev TSet := V → V → V → Hp → (Hp → Prop) → Prop
def PSet (X : Cx) (t : TSet) : Prop :=
  ∀ (pins : List (Addr × Obj)) (s : Shared) (σ : St) (H : Hp) (o i v : V) (ov iv u : Value) (Q : Hp → Prop), Inv X pins σ H s → RelV o ov → RelV i iv → RelV v u → t o i v H Q →
    wpAny (model X.prog X.w) X.A (setItem ov iv u) (fun _ s' => ∃ H', Inv X pins σ H' s' ∧ Q H') X.xe s
section
variable {X : Cx} {pos : Pos}
def gName (i : Nat) : TG := fun v σ H Q => Q (σ.set i (some v)) H
theorem pg_name {i : Nat} {x : Str} (hN : X.N.Nodup) (hi : X.N[i]? = some x) (hx : Loc X.env.scope x) (hf : X.fn x = true ∨ X.env.scope.names.lookup x = some .local := by first | exact .inl rfl | exact .inr rfl | assumption) : PG X (.Name x pos) (gName i) := by
  intro pins s σ H v u Q I r h
  exact wpAny_assign_Name (store_ok I hN hi hx r (fun s' I' => ⟨_, H, I', h⟩) hf)
def gNil : TGs := fun vs σ H Q => vs = [] ∧ Q σ H
def gCons (t : TG) (u : TGs) : TGs := fun vs σ H Q => ∃ v r, vs = v :: r ∧ t v σ H fun σ' H' => u r σ' H' Q
theorem pgs_nil : PGs X [] gNil := by
  intro pins s σ H vs us Q I r h
  obtain ⟨e, h⟩ := h
  subst e
  cases r
  exact assignInOrder_nil ⟨σ, H, I, h⟩
theorem pgs_cons {e : Expr} {es : List Expr} {t : TG} {u : TGs} (h1 : PG X e t) (h2 : PGs X es u)
    (hs : (assignEach (e :: es) X.env).map (·.2) = assign e X.env :: (assignEach es X.env).map (·.2) := by rfl) : PGs X (e :: es) (gCons t u) := by
  intro pins s σ H vs us Q I r h
  obtain ⟨v, vr, e1, h⟩ := h
  subst e1
  cases r with
  | cons r rr =>
    rw [hs]
    refine assignInOrder_cons (thn (h1 pins s σ H _ _ _ I r h) fun _ s1 ⟨σ1, H1, I1, q1⟩ => ?_)
    exact h2 pins s1 σ1 H1 _ _ Q I1 rr q1
def gTup (K : PySem.W.Frag) (n : Nat) (t : TGs) : TG := fun v σ H Q => ∃ a xs, v = .ref a ∧ SqT K H a xs ∧ xs.length = n ∧ t xs σ H Q
theorem pg_tup {es : List Expr} {k : Nat} {t : TGs} {n : Nat} (hc : X.calm = true) (h : PGs X es t)
    (hn : (assignEach es X.env).length = n := by rfl) (hst : (assignEach es X.env).findIdx? (·.1) = none := by rfl) : PG X (.Tuple es k pos) (gTup X.K n t) := by
  intro pins s σ H v u Q I r hw
  obtain ⟨a, xs, e1, hq, hl, hw⟩ := hw
  subst e1
  cases r
  obtain ⟨its, rv, ht, hz⟩ := I.tuple hq
  refine assign_Tuple_tuple (I.ok.hd hc) ht (by simp [hn, ← hl, rv.length]) hst fun h' hx => ?_
  have I1 : Inv X pins σ H { s with heap := h' } := I.kept (t' := s.toks) fun b o e => hx b o (Nat.ne_of_lt (Heap.lt_size e)) e
  exact h pins _ σ H xs _ Q I1 (by simpa using rv) hw
def gSub (to ti : TE) (t : TSet) : TG := fun v σ H Q => to σ H fun o H1 => ti σ H1 fun i H2 => t o i v H2 fun H3 => Q σ H3
theorem pg_sub {o i : Expr} {to ti : TE} {t : TSet} (ho : PE X o to) (hi : PE X i ti) (hs : PSet X t)
    (ha : ∀ v, assign (.Subscript o i pos) X.env v = (do
      let ov ← holding [v] (eval o X.env)
      let iv ← holding [v, ov] (eval i X.env)
      standAt pos
      holding [v, ov, iv] (setItem ov iv v)
      release [v, ov, iv] []) := by intro _; rfl) : PG X (.Subscript o i pos) (gSub to ti t) := by
  intro pins s σ H v u Q I r h
  rw [ha]
  refine wpAny_bind (wpAny_holding (thn (ho pins s σ H _ I h) fun ov s1 ⟨x, H1, I1, r1, q1⟩ => ?_))
  refine wpAny_bind (wpAny_holding (thn (hi pins s1 σ H1 _ I1 q1) fun iv s2 ⟨y, H2, I2, r2, q2⟩ => ?_))
  refine wpAny_bind (wpAny_standAt (wpAny_bind (wpAny_holding (thn (hs pins s2 σ H2 x y v ov iv u _ I2 r1 r2 r q2) fun _ s3 ⟨H3, I3, q3⟩ => ?_))))
  exact wpAny_release ⟨σ, H3, I3, q3⟩
def tAsg (te : TE) (g : TG) : TS := fun D σ H => te σ H fun x H1 => g x σ H1 D.nx
theorem ps_asg {tg e : Expr} {te : TE} {g : TG} (he : PE X e te) (hg : PG X tg g) (hs : swapsWithSole [tg] e pos.line X.env = pure false := by rfl) (hw : swappedStores [tg] e X.env = pure none := by rfl)
    (h1 : (assignEach [tg] X.env).map (·.2) = [assign tg X.env] := by rfl) : PS X (.Assign [tg] e pos) (tAsg te g) := by
  intro pins s σ H D I h
  refine wpAny_Assign_stores (thn (he pins s σ H _ I h) fun v s1 ⟨x, H1, I1, r1, q1⟩ => ?_) hs hw
  rw [h1]
  exact thn (hg pins s1 σ H1 x v _ I1 r1 q1) fun _ s2 q => q
theorem ps_set {i : Nat} {x : Str} {e : Expr} {te : TE} {pos' : Pos} (hN : X.N.Nodup) (hi : X.N[i]? = some x) (hx : Loc X.env.scope x) (he : PE X e te) (hs : swapsWith e (some (.Name x pos')) pos.line X.env = pure false := by rfl) (hf : X.fn x = true ∨ X.env.scope.names.lookup x = some .local := by first | exact .inl rfl | exact .inr rfl | assumption) :
    PS X (.Assign [.Name x pos'] e pos) (tAsg te (gName i)) := by
  intro pins s σ H D I h
  refine wpAny_Assign_Name (thn (he pins s σ H _ I h) fun v s1 ⟨y, H1, I1, r1, q1⟩ => ?_) hs
  exact store_ok I1 hN hi hx r1 (fun s2 I2 => ⟨_, H1, I2, q1⟩) hf
end
section
variable {X : Cx} {pos : Pos}
end
structure It where
  go : Nat → Hp → Prop
  yld : Nat → Hp → V → Hp → Prop
  stop : Nat → Hp → Prop
def FpOk (X : Cx) (pins : List (Addr × Obj)) (H : Hp) (b : Addr) : Prop :=
  H b = none ∧ b ≠ X.env.locals ∧ b ∉ X.fs ∧ (b ∈ X.ex ∨ X.s₀.heap.objs.size ≤ b) ∧ (∀ x c, X.env.cells.lookup x = some c → c ≠ b) ∧ ∀ p ∈ X.pn ++ pins, p.1 ≠ b
theorem Inv.fpOk {X : Cx} {pins : List (Addr × Obj)} {σ : St} {H H' : Hp} {s : Shared} {b : Addr} (I : Inv X pins σ H s) (hb : s.heap.objs.size ≤ b) (hn : H' b = none) : FpOk X pins H' b := by
  refine ⟨hn, Nat.ne_of_gt (Nat.lt_of_lt_of_le I.lt hb), I.nofs hb, .inr (Nat.le_trans I.sz hb), fun x c e z => ?_, fun p hp z => ?_⟩
  · obtain ⟨v, q⟩ := I.cell x c e
    exact absurd (Nat.lt_of_lt_of_le q.lt (by rw [z]; exact hb)) (Nat.lt_irrefl _)
  · exact absurd (Nat.lt_of_lt_of_le (Heap.lt_size (I.pin p hp).1) (by rw [z]; exact hb)) (Nat.lt_irrefl _)
structure Turn (P : Program) (w : World) (K : PySem.W.Frag) (tg : Expr) (J : It) (fp : List Addr) (it : Addr) (tn : Nat → Heap → Prop) : Prop where
  mem : it ∈ fp
  obj : ∀ i h, tn i h → ∀ b ∈ fp, ∃ o, h.get? b = some o ∧ ∀ v, o.data ≠ .cell v
  keep : ∀ i h h', tn i h → (∀ b ∈ fp, ∀ o, h.get? b = some o → h'.get? b = some o) → tn i h'
  item : ∀ (X : Cx), X.prog = P → X.w = w → X.K = K → X.calm = true → ∀ (i : Nat) (pins : List (Addr × Obj)) (s : Shared) (σ : St) (H : Hp) (E : Value → Shared → Prop), Inv X pins σ H s → (∀ b ∈ fp, FpOk X pins H b) → tn i s.heap → J.go i H →
    wpAny (model P w) X.A (pyNext (.ref it)) (fun r s1 => ∃ u, r = some u ∧
      wpAny (model P w) X.A (letOwnedTupleGo tg (.ref it) u) (fun _ s2 => ∃ x H', Inv X pins σ H' s2 ∧ RelV x u ∧ J.yld i H x H' ∧ tn (i + 1) s2.heap ∧ ∀ b ∈ fp, H' b = none) E s1) E s
  done : ∀ (X : Cx), X.prog = P → X.w = w → X.K = K → X.calm = true → ∀ (i : Nat) (pins : List (Addr × Obj)) (s : Shared) (σ : St) (H : Hp) (E : Value → Shared → Prop), Inv X pins σ H s → (∀ b ∈ fp, FpOk X pins H b) → tn i s.heap → J.stop i H →
    wpAny (model P w) X.A (pyNext (.ref it)) (fun r s1 => r = none ∧ Inv X pins σ H s1) E s
  self : ∀ (A : Around) (i : Nat) (s : Shared) (Q : Value → Shared → Prop) (E : Value → Shared → Prop), tn i s.heap → Q (.ref it) s → wpAny (model P w) A (pyIter (.ref it)) Q E s
abbrev TI := St → Hp → (It → Hp → Prop) → Prop
def PIE (X : Cx) (pins : List (Addr × Obj)) (σ : St) (tg : Expr) (R : It → Hp → Prop) (itv : Value) (s2 : Shared) : Prop :=
  ∃ (it : Addr) (fp : List Addr) (tn : Nat → Heap → Prop) (J : It) (H' : Hp), itv = .ref it ∧ Inv X pins σ H' s2 ∧ Turn X.prog X.w X.K tg J fp it tn ∧ tn 0 s2.heap ∧ (∀ b ∈ fp, FpOk X pins H' b) ∧ R J H'
def PI (X : Cx) (tg iter : Expr) (wi : TI) : Prop :=
  ∀ (pins : List (Addr × Obj)) (s : Shared) (σ : St) (H : Hp) (R : It → Hp → Prop), Inv X pins σ H s → wi σ H R →
    wpAny (model X.prog X.w) X.A (eval iter X.env) (fun v s1 => wpAny (model X.prog X.w) X.A (pyIter v) (PIE X pins σ tg R) X.xe s1) X.xe s
theorem go_of {M : Model} {A : Around} {E : Value → Shared → Prop} {s : Shared} {tg : Expr} {it : Addr} {u : Value} {o : Obj} {n : String} {vs : Array Value} {Q : Unit → Shared → Prop} (ho : s.heap.get? it = some o) (hc : o.cls = .type n) (hd : o.data = .fields vs)
    (hn : ["enumerate", "zip", "dict_itemiterator", "dict_reverseitemiterator", "odict_iterator", "itertools.zip_longest", "itertools.pairwise"].contains n = false) (hQ : Q () s) : wpAny M A (letOwnedTupleGo tg (.ref it) u) Q E s := by
  unfold letOwnedTupleGo
  cases tg <;> first
    | exact wpAny_pure hQ
    | (cases u <;> first
        | exact wpAny_pure hQ
        | (refine wpAny_bind (wpAny_load ho ?_)
           rw [hc, hd]
           show wpAny M A (if (["enumerate", "zip", "dict_itemiterator", "dict_reverseitemiterator", "odict_iterator", "itertools.zip_longest", "itertools.pairwise"].contains n && vs[0]? == some (rawInt _)) = true then _ else _) Q E s
           rw [if_neg (by intro h; rw [hn, Bool.false_and] at h; cases h)]
           exact wpAny_pure hQ))
def Itl (K : PySem.W.Frag) (a : Addr) : It :=
  ⟨fun i H => ∃ xs x, SqL K H a xs ∧ xs[i]? = some x, fun i H x H' => H' = H ∧ ∀ xs, SqL K H a xs → xs[i]? = some x, fun i H => ∃ xs, SqL K H a xs ∧ xs.length ≤ i⟩
def Itt (K : PySem.W.Frag) (a : Addr) : It :=
  ⟨fun i H => ∃ xs x, SqT K H a xs ∧ xs[i]? = some x, fun i H x H' => H' = H ∧ ∀ xs, SqT K H a xs → xs[i]? = some x, fun i H => ∃ xs, SqT K H a xs ∧ xs.length ≤ i⟩
def Itr (lo : Int) (n : Nat) : It := ⟨fun i _ => i < n, fun i H x H' => H' = H ∧ x = .int (lo + i), fun i _ => n ≤ i⟩
theorem turn_list {P : Program} {w : World} {K : PySem.W.Frag} {tg : Expr} (a it : Addr) : Turn P w K tg (Itl K a) [it] it (fun i h => h.IsListIter it a i) where
  mem := by simp
  obj := fun i h st b hb => by
    have e : b = it := by simpa using hb
    subst e
    obtain ⟨o, e, c, d⟩ := st
    exact ⟨o, e, fun v z => by rw [d] at z; cases z⟩
  keep := fun i h h' st k => st.at fun o e => k it (by simp) o e
  item := by
    intro X hP hw hK hc i pins s σ H E I hf st hg
    subst hP hw hK
    obtain ⟨xs, x, hq, hx⟩ := hg
    obtain ⟨its, rv, p, hz⟩ := I.list hq
    obtain ⟨u, hu, ru⟩ := rv.get hx
    obtain ⟨f0, f1, f2, f3, f4, f5⟩ := hf it (by simp)
    refine wpAny_pyNext_list_item st p.isList (x := u) (by simpa using hu) fun h' st' sb => ?_
    have I1 : Inv X pins σ H { s with heap := h' } := I.turned (t' := s.toks) (fun b o hb e => (sb.2 b hb).trans e) f0 f1 f3 f4 f5
    obtain ⟨o, e, c, d⟩ := id st'
    exact ⟨u, rfl, go_of (s := { s with heap := h' }) e c d (by decide) ⟨x, H, I1, ru, ⟨rfl, fun ys hy => by rw [I.list_inj hy hq]; exact hx⟩, st', fun b hb => (hf b hb).1⟩⟩
  done := by
    intro X hP hw hK hc i pins s σ H E I hf st hg
    subst hP hw hK
    obtain ⟨xs, hq, hx⟩ := hg
    obtain ⟨its, rv, p, hz⟩ := I.list hq
    obtain ⟨f0, f1, f2, f3, f4, f5⟩ := hf it (by simp)
    have hl := rv.length
    exact wpAny_pyNext_list_end (I.ok.hd hc) st p.isList (by simp; omega) fun h' eb => ⟨rfl, I.turned (t' := s.toks) (fun b o hb e => eb b o hb e) f0 f1 f3 f4 f5⟩
  self := fun _ _ _ _ _ st h => wpAny_pyIter_listiter st h
theorem turn_tuple {P : Program} {w : World} {K : PySem.W.Frag} {tg : Expr} (a it : Addr) : Turn P w K tg (Itt K a) [it] it (fun i h => h.IsTupleIter it a i) where
  mem := by simp
  obj := fun i h st b hb => by
    have e : b = it := by simpa using hb
    subst e
    obtain ⟨o, e, c, d⟩ := st
    exact ⟨o, e, fun v z => by rw [d] at z; cases z⟩
  keep := fun i h h' st k => st.at fun o e => k it (by simp) o e
  item := by
    intro X hP hw hK hc i pins s σ H E I hf st hg
    subst hP hw hK
    obtain ⟨xs, x, hq, hx⟩ := hg
    obtain ⟨its, rv, p, hz⟩ := I.tuple hq
    obtain ⟨u, hu, ru⟩ := rv.get hx
    obtain ⟨f0, f1, f2, f3, f4, f5⟩ := hf it (by simp)
    refine wpAny_pyNext_tuple_item st (show s.heap.IsTuple a its.toArray from p) (x := u) (by simpa using hu) fun h' st' sb => ?_
    have I1 : Inv X pins σ H { s with heap := h' } := I.turned (t' := s.toks) (fun b o hb e => (sb.2 b hb).trans e) f0 f1 f3 f4 f5
    obtain ⟨o, e, c, d⟩ := id st'
    exact ⟨u, rfl, go_of (s := { s with heap := h' }) e c d (by decide) ⟨x, H, I1, ru, ⟨rfl, fun ys hy => by rw [I.tuple_inj hy hq]; exact hx⟩, st', fun b hb => (hf b hb).1⟩⟩
  done := by
    intro X hP hw hK hc i pins s σ H E I hf st hg
    subst hP hw hK
    obtain ⟨xs, hq, hx⟩ := hg
    obtain ⟨its, rv, p, hz⟩ := I.tuple hq
    obtain ⟨f0, f1, f2, f3, f4, f5⟩ := hf it (by simp)
    have hl := rv.length
    exact wpAny_pyNext_tuple_end (I.ok.hd hc) st (show s.heap.IsTuple a its.toArray from p) (by simp; omega) fun h' eb => ⟨rfl, I.turned (t' := s.toks) (fun b o hb e => eb b o hb e) f0 f1 f3 f4 f5⟩
  self := fun _ _ _ _ _ st h => wpAny_pyIter_tupleiter st h
theorem turn_range {P : Program} {w : World} {K : PySem.W.Frag} {tg : Expr} (it : Addr) (lo : Int) (n : Nat) : Turn P w K tg (Itr lo n) [it] it (fun i h => IsRangeIter h it (lo + (i : Nat) * 1) ((n : Int) - (i : Nat)) 1) where
  mem := by simp
  obj := fun i h st b hb => by
    have e : b = it := by simpa using hb
    subst e
    exact ⟨_, st, fun v z => by
      have z' : Data.fields _ = Data.cell v := z
      cases z'⟩
  keep := fun i h h' st k => k it (by simp) _ st
  item := by
    intro X hP hw hK hc i pins s σ H E I hf st hg
    subst hP hw hK
    obtain ⟨f0, f1, f2, f3, f4, f5⟩ := hf it (by simp)
    have W := Walks.range (prog := X.prog) (w := X.w) (I.ok.hd hc) it lo 1 n
    refine W.item i s _ _ hg st fun v h' tk hv st' kk => ?_
    obtain ⟨t, rfl⟩ := hv
    have I1 : Inv X pins σ H { s with heap := h', toks := tk } := I.turned (fun b o hb e => kk b o (by simpa using hb) e) f0 f1 f3 f4 f5
    refine ⟨_, rfl, go_of (s := { s with heap := h', toks := tk }) (n := "range_iterator") st' rfl rfl (by decide) ⟨.int (lo + i), H, I1, ⟨t, ?_⟩, ⟨rfl, rfl⟩, st', fun b hb => (hf b hb).1⟩⟩
    rw [Int.mul_one]
  done := by
    intro X hP hw hK hc i pins s σ H E I hf st hg
    subst hP hw hK
    obtain ⟨f0, f1, f2, f3, f4, f5⟩ := hf it (by simp)
    exact wpAny_pyNext_range_end (I.ok.hd hc) st (by have : n ≤ i := hg; omega) fun h' eb => ⟨rfl, I.turned (t' := s.toks) (fun b o hb e => eb b o hb e) f0 f1 f3 f4 f5⟩
  self := fun _ _ _ _ _ st h => wpAny_pyIter_rangeiter st h
end L2
namespace L2
open PySem PySem.Spec PyProof.Rows
section
variable {X : Cx} {tg : Expr}
def iList (K : PySem.W.Frag) (tl : TE) : TI := fun σ H R => tl σ H fun x H1 => ∃ a, x = .ref a ∧ (∃ xs, SqL K H1 a xs) ∧ R (Itl K a) H1
def iTup (K : PySem.W.Frag) (tl : TE) : TI := fun σ H R => tl σ H fun x H1 => ∃ a, x = .ref a ∧ (∃ xs, SqT K H1 a xs) ∧ R (Itt K a) H1
theorem pi_list {l : Expr} {tl : TE} (hl : PE X l tl) : PI X tg l (iList X.K tl) := by
  intro pins s σ H R I h
  refine thn (hl pins s σ H _ I h) fun v s1 ⟨x, H1, I1, r1, q1⟩ => ?_
  obtain ⟨a, e, ⟨xs, hq⟩, q⟩ := q1
  subst e
  cases r1
  obtain ⟨its, rv, p, hz⟩ := I1.list hq
  refine wpAny_pyIter_list p.isList ?_
  refine ⟨s1.heap.objs.size, [s1.heap.objs.size], _, _, H1, rfl, I1.kept (t' := s1.toks) fun b o e => Heap.get?_push_of_some _ e, turn_list a _, ⟨_, Heap.get?_push_size _ rfl, rfl, rfl⟩, fun b hb => ?_, q⟩
  have e : b = s1.heap.objs.size := by simpa using hb
  subst e
  exact I1.fpOk (Nat.le_refl _) (I1.hok.fresh (Nat.le_refl _))
theorem pi_tup {l : Expr} {tl : TE} (hl : PE X l tl) : PI X tg l (iTup X.K tl) := by
  intro pins s σ H R I h
  refine thn (hl pins s σ H _ I h) fun v s1 ⟨x, H1, I1, r1, q1⟩ => ?_
  obtain ⟨a, e, ⟨xs, hq⟩, q⟩ := q1
  subst e
  cases r1
  obtain ⟨its, rv, p, hz⟩ := I1.tuple hq
  refine wpAny_pyIter_tuple (show s1.heap.IsTuple a its.toArray from p) ?_
  refine ⟨s1.heap.objs.size, [s1.heap.objs.size], _, _, H1, rfl, I1.kept (t' := s1.toks) fun b o e => Heap.get?_push_of_some _ e, turn_tuple a _, ⟨_, Heap.get?_push_size _ rfl, rfl, rfl⟩, fun b hb => ?_, q⟩
  have e : b = s1.heap.objs.size := by simpa using hb
  subst e
  exact I1.fpOk (Nat.le_refl _) (I1.hok.fresh (Nat.le_refl _))
theorem range_it {pins : List (Addr × Obj)} {σ : St} {H : Hp} {s : Shared} {R : It → Hp → Prop} {E : Value → Shared → Prop} {lo hi : Int} {t u v : Tok} {tk : Nat} (I : Inv X pins σ H s) (h1 : -(2 ^ 62) ≤ lo) (h2 : lo < 2 ^ 62) (h3 : -(2 ^ 62) ≤ hi) (h4 : hi < 2 ^ 62)
    (q : R (Itr lo (hi - lo).toNat) H) : wpAny (model X.prog X.w) X.A (pyIter (.ref s.heap.objs.size)) (PIE X pins σ tg R) E { s with heap := s.heap.push { cls := .type "range", data := .fields #[.int lo t, .int hi u, .int 1 v] }, toks := tk } := by
  refine wpAny_pyIter_range (IsRange.new ..) (small_one h1 h2 h3 h4) ?_
  have I1 : Inv X pins σ H { s with heap := s.heap.push { cls := .type "range", data := .fields #[.int lo t, .int hi u, .int 1 v] }, toks := tk } := I.kept fun b o e => Heap.get?_push_of_some _ e
  refine ⟨(s.heap.push { cls := .type "range", data := .fields #[.int lo t, .int hi u, .int 1 v] }).objs.size, [(s.heap.push { cls := .type "range", data := .fields #[.int lo t, .int hi u, .int 1 v] }).objs.size], _, _, H, rfl,
    I1.kept (t' := tk) fun b o e => Heap.get?_push_of_some _ e, turn_range _ lo (hi - lo).toNat, ?_, fun b hb => ?_, q⟩
  · have e1 : lo + ((0 : Nat) : Int) * 1 = lo := by simp
    have e2 : (((hi - lo).toNat : Nat) : Int) - ((0 : Nat) : Int) = Builtin.Range.rangeSize lo hi 1 := by rw [rangeSize_one]; split <;> omega
    show IsRangeIter _ _ (lo + ((0 : Nat) : Int) * 1) ((((hi - lo).toNat : Nat) : Int) - ((0 : Nat) : Int)) 1
    rw [e1, e2]
    exact Heap.get?_push_size _ rfl
  · have e : b = (s.heap.push { cls := .type "range", data := .fields #[.int lo t, .int hi u, .int 1 v] }).objs.size := by simpa using hb
    subst e
    exact I1.fpOk (Nat.le_refl _) (I1.hok.fresh (Nat.le_refl _))
def iRng1 (ta : TA) : TI := fun σ H R => ta σ H fun vs H1 => ∃ j : Int, vs = [.int j] ∧ -(2 ^ 62) ≤ j ∧ j < 2 ^ 62 ∧ R (Itr 0 j.toNat) H1
def iRng2 (ta : TA) : TI := fun σ H R => ta σ H fun vs H1 => ∃ i j : Int, vs = [.int i, .int j] ∧ (-(2 ^ 62) ≤ i ∧ i < 2 ^ 62 ∧ -(2 ^ 62) ≤ j ∧ j < 2 ^ 62) ∧ R (Itr i (j - i).toNat) H1
theorem pi_range1 {a : Expr} {ta : TA} {p pos : Pos} (hg : Gl X "range") (hm : X.mg "range" = none) (ha : PA X [a] ta) (hs : starEach [a] X.env = [(false, eval a X.env)] := by rfl) : PI X tg (.Call (.Name "range" p) [a] [] pos) (iRng1 ta) := by
  intro pins s σ H R I h
  refine Call_ (ld_blt I hg hm boot_range (PyProof.Rows.callWith_type1 (thn (ha pos pins s σ H _ I h) fun us s1 ⟨vs, H1, I1, r1, q1⟩ => ?_) hs rfl))
  obtain ⟨j, e, q1, q2, q⟩ := q1
  subst e
  cases r1 with
  | cons r rr =>
    cases rr
    obtain ⟨t, rfl⟩ := r
    exact call_range_1 (range_it I1 (by omega) (by omega) q1 q2 (by simpa using q))
theorem pi_range2 {a b : Expr} {ta : TA} {p pos : Pos} (hg : Gl X "range") (hm : X.mg "range" = none) (ha : PA X [a, b] ta) (hs : starEach [a, b] X.env = [(false, eval a X.env), (false, eval b X.env)] := by rfl) (hs2 : starEach [b] X.env = [(false, eval b X.env)] := by rfl) :
    PI X tg (.Call (.Name "range" p) [a, b] [] pos) (iRng2 ta) := by
  intro pins s σ H R I h
  refine Call_ (ld_blt I hg hm boot_range (PyProof.Rows.callWith_type1 (thn (ha pos pins s σ H _ I h) fun us s1 ⟨vs, H1, I1, r1, q1⟩ => ?_) (by rw [hs, hs2]) (by rw [hs2]; rfl)))
  obtain ⟨i, j, e, ⟨q1, q2, q3, q4⟩, q⟩ := q1
  subst e
  cases r1 with
  | cons r rr =>
    cases rr with
    | cons r' rr =>
      cases rr
      obtain ⟨t, rfl⟩ := r
      obtain ⟨t', rfl⟩ := r'
      exact call_range_2 (range_it I1 q1 q2 q3 q4 q)
def tFor (wi : TI) (g : TG) (tb : TS) : TS := fun D σ H => wi σ H fun J H1 => ∃ W : Nat → Nat → St → Hp → Prop, (∃ m, W 0 m σ H1) ∧ ∀ i m σ H, W i m σ H →
  (J.stop i H ∧ D.nx σ H) ∨ (J.go i H ∧ ∃ N : St → Hp → Prop, (∀ σ' H', N σ' H' → ∃ m', m' < m ∧ W (i + 1) m' σ' H') ∧ ∀ x H', J.yld i H x H' → g x σ H' fun σ2 H2 => tb { D with nx := N, ct := N, bk := D.nx } σ2 H2)
def pinsAt (fp : List Addr) (h : Heap) : List (Addr × Obj) := fp.filterMap fun b => (h.get? b).map fun o => (b, o)
theorem mem_pinsAt {fp : List Addr} {h : Heap} {b : Addr} {o : Obj} (hb : b ∈ fp) (e : h.get? b = some o) : (b, o) ∈ pinsAt fp h := List.mem_filterMap.mpr ⟨b, hb, by rw [e]; rfl⟩
theorem of_pinsAt {fp : List Addr} {h : Heap} {p : Addr × Obj} (hp : p ∈ pinsAt fp h) : p.1 ∈ fp ∧ h.get? p.1 = some p.2 := by
  obtain ⟨b, hb, e⟩ := List.mem_filterMap.mp hp
  cases q : h.get? b with
  | none => rw [q] at e; cases e
  | some o =>
    rw [q] at e
    have e' : (b, o) = p := Option.some.inj e
    subst e'
    exact ⟨hb, q⟩
theorem Inv.pinned {pins : List (Addr × Obj)} {σ : St} {H : Hp} {s : Shared} {fp : List Addr} (I : Inv X pins σ H s) (hf : ∀ b ∈ fp, FpOk X pins H b) (ho : ∀ b ∈ fp, ∃ o, s.heap.get? b = some o ∧ ∀ v, o.data ≠ .cell v) : Inv X (pins ++ pinsAt fp s.heap) σ H s :=
  I.pins_of fun p hp => (List.mem_append.mp hp).elim (fun z => I.pin p (List.mem_append_right _ z)) fun z => by
    obtain ⟨hb, e⟩ := of_pinsAt z
    obtain ⟨f0, f1, f2, _⟩ := hf p.1 hb
    obtain ⟨o, e', d⟩ := ho p.1 hb
    rw [e] at e'; cases e'
    exact ⟨e, f0, f1, f2, d⟩
theorem Inv.unpinned {pins pl : List (Addr × Obj)} {σ : St} {H : Hp} {s : Shared} (I : Inv X (pins ++ pl) σ H s) : Inv X pins σ H s := I.pins_of fun p hp => I.pin p (List.mem_append_right _ (List.mem_append_left _ hp))
theorem ps_for {iter : Expr} {body : List Stmt} {wi : TI} {g : TG} {tb : TS} {pos : Pos} (hp : PassesOwn (model X.prog X.w) X.A X.env X.xe) (hc : X.calm = true) (hi : PI X tg iter wi) (hg : PG X tg g) (hb : PSs X body tb)
    (hs : ∀ x, foldedSetIterable iter X.env x = pure x := by intro _; rfl) : PS X (.For tg iter body [] pos) (tFor wi g tb) := by
  intro pins s σ H D I h
  refine wpAny_For (thn (hi pins s σ H _ I h) fun v s1 h1 => thn h1 fun itv s2 h2 => ?_) hs
  obtain ⟨it, fp, tn, J, H2, e, I2, T, st2, f2, W, ⟨m0, w0⟩, turn⟩ := h2
  subst e
  -- what stays true of the iterator's objects through the loop
  have stat : ∀ {H' : Hp}, (∀ b ∈ fp, H' b = none) → ∀ b ∈ fp, FpOk X pins H' b := fun hn b hb => ⟨hn b hb, (f2 b hb).2⟩
  refine codeAny_forLoop_any (fun n s' => ∃ i σ' H', Inv X pins σ' H' s' ∧ tn i s'.heap ∧ (∀ b ∈ fp, H' b = none) ∧ W i n σ' H') ?_ m0 ⟨0, σ, H2, I2, st2, fun b hb => (f2 b hb).1, w0⟩
  rintro n s3 ⟨i, σ3, H3, I3, st3, fr3, w3⟩
  rcases turn i n σ3 H3 w3 with ⟨stop, qn⟩ | ⟨go, N, hN, step⟩
  · refine wpAny_passesOwn hp (thn (T.done X rfl rfl rfl hc i pins s3 σ3 H3 X.xe I3 (stat fr3) st3 stop) fun r s4 ⟨hr, I4⟩ => ?_)
    subst hr
    exact wpAny_execs_nil ⟨σ3, H3, I4, qn⟩
  · refine wpAny_passesOwn hp (thn (T.item X rfl rfl rfl hc i pins s3 σ3 H3 X.xe I3 (stat fr3) st3 go) fun r s4 ⟨u, hr, h4⟩ => ?_)
    subst hr
    refine wpAny_passesOwn hp (thn h4 fun _ s5 ⟨x, H5, I5, r5, y5, st5, fr5⟩ => ?_)
    have I5' := I5.pinned (stat fr5) (T.obj _ _ st5)
    refine wpAny_passesOwn hp (thn (hg _ s5 σ3 H5 x u _ I5' r5 (step x H5 y5)) fun _ s6 ⟨σ6, H6, I6, q6⟩ => ?_)
    refine wpAny_passesOwn hp (thn (hb _ s6 σ6 H6 _ I6 q6) fun f s7 q7 => ?_)
    have again : ∀ {σ7 : St} {H7 : Hp}, Inv X (pins ++ pinsAt fp s5.heap) σ7 H7 s7 → N σ7 H7 → ∃ m, m < n ∧ ∃ i σ' H', Inv X pins σ' H' s7 ∧ tn i s7.heap ∧ (∀ b ∈ fp, H' b = none) ∧ W i m σ' H' := fun {σ7 H7} I7 n7 => by
      obtain ⟨m', hm, w7⟩ := hN σ7 H7 n7
      refine ⟨m', hm, i + 1, σ7, H7, I7.unpinned, T.keep _ _ _ st5 fun b hb o e => (I7.pin (b, o) (List.mem_append_right _ (List.mem_append_right _ (mem_pinsAt hb e)))).1, fun b hb => ?_, w7⟩
      obtain ⟨o, e, d⟩ := T.obj _ _ st5 b hb
      exact (I7.pin (b, o) (List.mem_append_right _ (List.mem_append_right _ (mem_pinsAt hb e)))).2.1
    cases f with
    | next => obtain ⟨σ7, H7, I7, n7⟩ := q7; exact again I7 n7
    | cont => obtain ⟨σ7, H7, I7, n7⟩ := q7; exact again I7 n7
    | brk => obtain ⟨σ7, H7, I7, q7⟩ := q7; exact ⟨σ7, H7, I7.unpinned, q7⟩
    | ret v => obtain ⟨x7, σ7, H7, I7, r7, q7⟩ := q7; exact ⟨x7, σ7, H7, I7.unpinned, r7, q7⟩
end
end L2
namespace L2
open PySem PySem.Spec PyProof.Rows
abbrev R2 := V → V → Hp → VK → Prop
def OpR (X : Cx) (f : Value → Value → Sem Value) (r : R2) : Prop :=
  ∀ (pins : List (Addr × Obj)) (s : Shared) (σ : St) (H : Hp) (x y : V) (v u : Value) (Q : VK), Inv X pins σ H s → RelV x v → RelV y u → r x y H Q →
    wpAny (model X.prog X.w) X.A (f v u) (EP X pins σ Q) X.xe s
def UnR (X : Cx) (f : Value → Sem Value) (r : V → Hp → VK → Prop) : Prop :=
  ∀ (pins : List (Addr × Obj)) (s : Shared) (σ : St) (H : Hp) (x : V) (v : Value) (Q : VK), Inv X pins σ H s → RelV x v → r x H Q →
    wpAny (model X.prog X.w) X.A (f v) (EP X pins σ Q) X.xe s
def CallR (X : Cx) (f : Value) (r : List V → Hp → VK → Prop) : Prop :=
  ∀ (pins : List (Addr × Obj)) (s : Shared) (σ : St) (H : Hp) (xs : List V) (us : List Value) (Q : VK), Inv X pins σ H s → Vals xs us → r xs H Q →
    wpAny (model X.prog X.w) X.A (call f us) (EP X pins σ Q) X.xe s
def tOp (r : R2) (ta tb : TE) : TE := fun σ H Q => ta σ H fun x H1 => tb σ H1 fun y H2 => r x y H2 Q
def tUn (r : V → Hp → VK → Prop) (ta : TE) : TE := fun σ H Q => ta σ H fun x H1 => r x H1 Q
def rI (C : Int → Int → Prop) (g : Int → Int → V) : R2 := fun x y H Q => ∃ i j, x = .int i ∧ y = .int j ∧ C i j ∧ Q (g i j) H
def rI0 (g : Int → Int → V) : R2 := fun x y H Q => ∃ i j, x = .int i ∧ y = .int j ∧ Q (g i j) H
def rU (g : Int → V) : V → Hp → VK → Prop := fun x H Q => ∃ i, x = .int i ∧ Q (g i) H
section
variable {X : Cx} {a b c : Expr} {ta tb tc : TE} {pos : Pos}
theorem binT (ha : PE X a ta) (hb : PE X b tb) {pins : List (Addr × Obj)} {s : Shared} {σ : St} {H : Hp} {R : V → V → Hp → Prop} (I : Inv X pins σ H s)
    (h : ta σ H fun x H1 => tb σ H1 fun y H2 => R x y H2) {Q : Value → Shared → Prop} {f : Value → Value → Sem Value}
    (hf : ∀ v u s2 x y H2, Inv X pins σ H2 s2 → RelV x v → RelV y u → R x y H2 → wpAny (model X.prog X.w) X.A (f v u) Q X.xe s2) :
    wpAny (model X.prog X.w) X.A (eval a X.env) (fun v s₁ => wpAny (model X.prog X.w) X.A (eval b X.env) (fun u s₂ => wpAny (model X.prog X.w) X.A (f v u) Q X.xe s₂) X.xe s₁) X.xe s := by
  refine thn (ha pins s σ H _ I h) fun v s1 ⟨x, H1, I1, r1, q1⟩ => ?_
  refine thn (hb pins s1 σ H1 _ I1 q1) fun u s2 ⟨y, H2, I2, r2, q2⟩ => ?_
  exact hf v u s2 x y H2 I2 r1 r2 q2
theorem pe_op {op : Operator} {r : R2} (ho : OpR X (binaryOp op) r) (ha : PE X a ta) (hb : PE X b tb) : PE X (.BinOp a op b pos) (tOp r ta tb) := by
  intro pins s σ H Q I h
  exact wpAny_BinOp (binT ha hb I h fun v u s2 x y H2 I2 rx ry q => ho pins s2 σ H2 x y v u Q I2 rx ry q)
theorem pe_un {op : UnaryOp} {r : V → Hp → VK → Prop} (ho : UnR X (unaryOp op) r) (ha : PE X a ta) : PE X (.UnaryOp op a pos) (tUn r ta) := by
  intro pins s σ H Q I h
  exact UnaryOp_ (thn (ha pins s σ H _ I h) fun v s1 ⟨x, H1, I1, r1, q1⟩ => ho pins s1 σ H1 x v Q I1 r1 q1)
theorem opI {f : Value → Value → Sem Value} {C : Int → Int → Prop} {g : Int → Int → Int}
    (rule : ∀ (i j : Int) (t u : Tok) (s : Shared) (Q : Value → Shared → Prop) (E : Value → Shared → Prop), C i j → Q (.int (g i j) s.toks) { s with toks := s.toks + 1 } → wpAny (model X.prog X.w) X.A (f (.int i t) (.int j u)) Q E s) :
    OpR X f (rI C fun i j => .int (g i j)) := by
  intro pins s σ H x y v u Q I rx ry h
  obtain ⟨i, j, rfl, rfl, hc, q⟩ := h
  obtain ⟨t, rfl⟩ := rx
  obtain ⟨t', rfl⟩ := ry
  exact rule i j t t' s _ _ hc ⟨.int (g i j), H, I.tok _, ⟨_, rfl⟩, q⟩
theorem opI0 {f : Value → Value → Sem Value} {g : Int → Int → Int}
    (rule : ∀ (i j : Int) (t u : Tok) (s : Shared) (Q : Value → Shared → Prop) (E : Value → Shared → Prop), Q (.int (g i j) s.toks) { s with toks := s.toks + 1 } → wpAny (model X.prog X.w) X.A (f (.int i t) (.int j u)) Q E s) :
    OpR X f (rI0 fun i j => .int (g i j)) := by
  intro pins s σ H x y v u Q I rx ry h
  obtain ⟨i, j, rfl, rfl, q⟩ := h
  obtain ⟨t, rfl⟩ := rx
  obtain ⟨t', rfl⟩ := ry
  exact rule i j t t' s _ _ ⟨.int (g i j), H, I.tok _, ⟨_, rfl⟩, q⟩
theorem opB0 {f : Value → Value → Sem Value} {g : Int → Int → Bool}
    (rule : ∀ (i j : Int) (t u : Tok) (s : Shared) (Q : Value → Shared → Prop) (E : Value → Shared → Prop), Q (.bool (g i j)) s → wpAny (model X.prog X.w) X.A (f (.int i t) (.int j u)) Q E s) :
    OpR X f (rI0 fun i j => .bl (g i j)) := by
  intro pins s σ H x y v u Q I rx ry h
  obtain ⟨i, j, rfl, rfl, q⟩ := h
  obtain ⟨t, rfl⟩ := rx
  obtain ⟨t', rfl⟩ := ry
  exact rule i j t t' s _ _ ⟨.bl (g i j), H, I, rfl, q⟩
def CPow (i j : Int) : Prop := 0 ≤ j ∧ j ≤ 1000000 ∧ i.natAbs < 2 ^ 64
def CMul (i j : Int) : Prop := (-(2 ^ 64) < i ∧ i < 2 ^ 64) ∨ (-(2 ^ 64) < j ∧ j < 2 ^ 64)
theorem CMul.ok {i j : Int} (h : CMul i j) : IntMulOk i j := by
  rcases h with ⟨h1, h2⟩ | ⟨h1, h2⟩
  · exact .of_left (intBits_le_64 h1 h2)
  · exact .of_right (intBits_le_64 h1 h2)
theorem op_add : OpR X (binaryOp .Add) (rI0 fun i j => .int (i + j)) := opI0 fun _ _ _ _ _ _ _ q => add_int q
theorem op_sub : OpR X (binaryOp .Sub) (rI0 fun i j => .int (i - j)) := opI0 fun _ _ _ _ _ _ _ q => sub_int q
theorem op_mul : OpR X (binaryOp .Mult) (rI CMul fun i j => .int (i * j)) := opI fun _ _ _ _ _ _ _ hc q => mul_int q hc.ok
theorem op_mod : OpR X (binaryOp .Mod) (rI (fun _ j => 0 < j) fun i j => .int (i % j)) := opI fun i j _ _ _ _ _ hc q => by
  have h1 : (0 : Int) < j := hc
  exact mod_int' (by omega) (by rw [Int.fmod_eq_emod_of_nonneg i (by omega)]; exact q)
theorem op_pow : OpR X (binaryOp .Pow) (rI CPow fun i j => .int (i ^ j.toNat)) := opI fun _ _ _ _ _ _ _ hc q => pow_int_small hc.1 hc.2.1 hc.2.2 q
theorem unI {f : Value → Sem Value} {g : Int → Int}
    (rule : ∀ (i : Int) (t : Tok) (s : Shared) (Q : Value → Shared → Prop) (E : Value → Shared → Prop), Q (.int (g i) s.toks) { s with toks := s.toks + 1 } → wpAny (model X.prog X.w) X.A (f (.int i t)) Q E s) :
    UnR X f (rU fun i => .int (g i)) := by
  intro pins s σ H x v Q I rx h
  obtain ⟨i, rfl, q⟩ := h
  obtain ⟨t, rfl⟩ := rx
  exact rule i t s _ _ ⟨.int (g i), H, I.tok _, ⟨_, rfl⟩, q⟩
theorem un_neg : UnR X (unaryOp .USub) (rU fun i => .int (-i)) := unI fun _ _ _ _ _ q => neg_int q
end
def scal : V → V → Bool
  | .non, .non => true | .non, .int _ => true | .int _, .non => true | .non, .bl _ => true | .bl _, .non => true | .non, .str _ => true | .str _, .non => true
  | .int _, .int _ => true | .bl _, .bl _ => true | .str _, .str _ => true | .byt _, .byt _ => true
  | .int _, .str _ => true | .str _, .int _ => true | .bl _, .str _ => true | .str _, .bl _ => true
  | _, _ => false
def rEq : R2 := fun x y H Q => scal x y = true ∧ Q (.bl (decide (x = y))) H
def rNe : R2 := fun x y H Q => scal x y = true ∧ Q (.bl (!decide (x = y))) H
theorem dec_int {i j : Int} : decide (V.int i = V.int j) = (i == j) := by
  rw [Bool.eq_iff_iff]
  simp
theorem dec_bl {i j : Bool} : decide (V.bl i = V.bl j) = (i == j) := by
  rw [Bool.eq_iff_iff]
  simp
theorem dec_str {i j : Str} : decide (V.str i = V.str j) = (i == j) := by
  rw [Bool.eq_iff_iff]
  simp
theorem dec_byt {i j : Array UInt8} : decide (V.byt i = V.byt j) = (i.toList == j.toList) := by
  rw [Bool.eq_iff_iff]
  cases i
  cases j
  simp
section
variable {X : Cx} {a b c : Expr} {ta tb tc : TE} {pos : Pos}
theorem fin_bl {pins : List (Addr × Obj)} {σ : St} {H : Hp} {s : Shared} {Q : VK} {k k' : Bool} (I : Inv X pins σ H s) (q : Q (.bl k) H) (e : k = k') : EP X pins σ Q (.bool k') s := by
  subst e
  exact ⟨.bl k, H, I, rfl, q⟩
theorem op_eq : OpR X (compareOp .Eq) rEq := by
  intro pins s σ H x y v u Q I rx ry h
  obtain ⟨hs, q⟩ := h
  cases x with
  | non =>
    cases rx
    cases y with
    | non => cases ry; exact PySem.EqNone.eq_none_none (fin_bl I q (by simp))
    | bl j => cases ry; exact PySem.EqNone.eq_none_bool (fin_bl I q (by simp))
    | int j => obtain ⟨t', rfl⟩ := ry; exact PySem.EqNone.eq_none_int (fin_bl I q (by simp))
    | str j => obtain ⟨t', rfl⟩ := ry; exact PySem.EqNone.eq_none_str (fin_bl I q (by simp))
    | _ => exact absurd (show false = true from hs) Bool.false_ne_true
  | bl i =>
    cases rx
    cases y with
    | non => cases ry; exact PySem.EqNone.eq_bool_none (fin_bl I q (by simp))
    | bl j => cases ry; exact eq_bool (fin_bl I q dec_bl)
    | str j => obtain ⟨t', rfl⟩ := ry; exact PySem.EqMixed.eq_bool_str (fin_bl I q (by simp))
    | _ => exact absurd (show false = true from hs) Bool.false_ne_true
  | int i =>
    obtain ⟨t, rfl⟩ := rx
    cases y with
    | non => cases ry; exact PySem.EqNone.eq_int_none (fin_bl I q (by simp))
    | int j => obtain ⟨t', rfl⟩ := ry; exact eq_int (fin_bl I q dec_int)
    | str j => obtain ⟨t', rfl⟩ := ry; exact PySem.EqMixed.eq_int_str (fin_bl I q (by simp))
    | _ => exact absurd (show false = true from hs) Bool.false_ne_true
  | str i =>
    obtain ⟨t, rfl⟩ := rx
    cases y with
    | non => cases ry; exact PySem.EqNone.eq_str_none (fin_bl I q (by simp))
    | bl j => cases ry; exact PySem.EqMixed.eq_str_bool (fin_bl I q (by simp))
    | int j => obtain ⟨t', rfl⟩ := ry; exact PySem.EqMixed.eq_str_int (fin_bl I q (by simp))
    | str j => obtain ⟨t', rfl⟩ := ry; exact eq_str (fin_bl I q dec_str)
    | _ => exact absurd (show false = true from hs) Bool.false_ne_true
  | byt i =>
    obtain ⟨t, rfl⟩ := rx
    cases y with
    | byt j => obtain ⟨t', rfl⟩ := ry; exact PySem.W.eq_bytes (fin_bl I q dec_byt)
    | _ => exact absurd (show false = true from hs) Bool.false_ne_true
  | _ => cases y <;> exact absurd (show false = true from hs) Bool.false_ne_true
theorem op_ne : OpR X (compareOp .NotEq) rNe := by
  intro pins s σ H x y v u Q I rx ry h
  obtain ⟨hs, q⟩ := h
  cases x with
  | non =>
    cases rx
    cases y with
    | non => cases ry; exact PySem.EqNone.ne_none_none (fin_bl I q (by simp))
    | bl j => cases ry; exact PySem.EqNone.ne_none_bool (fin_bl I q (by simp))
    | int j => obtain ⟨t', rfl⟩ := ry; exact PySem.EqNone.ne_none_int (fin_bl I q (by simp))
    | str j => obtain ⟨t', rfl⟩ := ry; exact PySem.EqNone.ne_none_str (fin_bl I q (by simp))
    | _ => exact absurd (show false = true from hs) Bool.false_ne_true
  | bl i =>
    cases rx
    cases y with
    | non => cases ry; exact PySem.EqNone.ne_bool_none (fin_bl I q (by simp))
    | bl j => cases ry; exact ne_bool (fin_bl I q (congrArg not dec_bl))
    | str j => obtain ⟨t', rfl⟩ := ry; exact PySem.EqMixed.ne_bool_str (fin_bl I q (by simp))
    | _ => exact absurd (show false = true from hs) Bool.false_ne_true
  | int i =>
    obtain ⟨t, rfl⟩ := rx
    cases y with
    | non => cases ry; exact PySem.EqNone.ne_int_none (fin_bl I q (by simp))
    | int j => obtain ⟨t', rfl⟩ := ry; exact ne_int (fin_bl I q (congrArg not dec_int))
    | str j => obtain ⟨t', rfl⟩ := ry; exact PySem.EqMixed.ne_int_str (fin_bl I q (by simp))
    | _ => exact absurd (show false = true from hs) Bool.false_ne_true
  | str i =>
    obtain ⟨t, rfl⟩ := rx
    cases y with
    | non => cases ry; exact PySem.EqNone.ne_str_none (fin_bl I q (by simp))
    | bl j => cases ry; exact PySem.EqMixed.ne_str_bool (fin_bl I q (by simp))
    | int j => obtain ⟨t', rfl⟩ := ry; exact PySem.EqMixed.ne_str_int (fin_bl I q (by simp))
    | str j => obtain ⟨t', rfl⟩ := ry; exact ne_str (fin_bl I q (congrArg not dec_str))
    | _ => exact absurd (show false = true from hs) Bool.false_ne_true
  | byt i =>
    obtain ⟨t, rfl⟩ := rx
    cases y with
    | byt j => obtain ⟨t', rfl⟩ := ry; exact PySem.W.ne_bytes (fin_bl I q (congrArg not dec_byt))
    | _ => exact absurd (show false = true from hs) Bool.false_ne_true
  | _ => cases y <;> exact absurd (show false = true from hs) Bool.false_ne_true
theorem op_lt : OpR X (compareOp .Lt) (rI0 fun i j => .bl (decide (i < j))) := opB0 fun _ _ _ _ _ _ _ q => lt_int q
theorem op_le : OpR X (compareOp .LtE) (rI0 fun i j => .bl (decide (i ≤ j))) := opB0 fun _ _ _ _ _ _ _ q => le_int q
theorem op_gt : OpR X (compareOp .Gt) (rI0 fun i j => .bl (decide (j < i))) := opB0 fun _ _ _ _ _ _ _ q => gt_int q
theorem op_ge : OpR X (compareOp .GtE) (rI0 fun i j => .bl (decide (j ≤ i))) := opB0 fun _ _ _ _ _ _ _ q => ge_int q
theorem op_lt_str : OpR X (compareOp .Lt) (fun x y H Q => ∃ i j, x = .str i ∧ y = .str j ∧ Q (.bl (decide (i.cps.toList < j.cps.toList))) H) := by
  intro pins s σ H x y v u Q I rx ry h
  obtain ⟨i, j, rfl, rfl, q⟩ := h
  obtain ⟨t, rfl⟩ := rx
  obtain ⟨t', rfl⟩ := ry
  exact lt_str (fin_bl I q rfl)
theorem op_in_str : OpR X (compareOp .In) (fun x y H Q => ∃ i j, x = .str i ∧ y = .str j ∧ Q (.bl (!(Builtin.Str.occurrences j i 0 j.length 1).isEmpty)) H) := by
  intro pins s σ H x y v u Q I rx ry h
  obtain ⟨i, j, rfl, rfl, q⟩ := h
  obtain ⟨t, rfl⟩ := rx
  obtain ⟨t', rfl⟩ := ry
  exact in_str (fin_bl I q rfl)
theorem op_isN : OpR X (compareOp .Is) (fun x y H Q => y = .non ∧ Q (.bl (decide (x = .non))) H) := by
  intro pins s σ H x y v u Q I rx ry h
  obtain ⟨rfl, q⟩ := h
  cases ry
  refine is_none_gen (fin_bl I q ?_)
  cases x <;> first
    | (cases rx; rfl)
    | (obtain ⟨t, rfl⟩ := rx; rfl)
theorem op_notN : OpR X (compareOp .IsNot) (fun x y H Q => y = .non ∧ Q (.bl (!decide (x = .non))) H) := by
  intro pins s σ H x y v u Q I rx ry h
  obtain ⟨rfl, q⟩ := h
  cases ry
  refine isnot_none_gen (fin_bl I q ?_)
  cases x <;> first
    | (cases rx; rfl)
    | (obtain ⟨t, rfl⟩ := rx; rfl)
theorem nomark (b : Expr) {op : CmpOp} (h : op ≠ .In := by decide) (h2 : op ≠ .NotIn := by decide) : behindInMarks op b = false := by
  have e1 : (op == CmpOp.In) = false := by cases op <;> first | rfl | exact absurd rfl h
  have e2 : (op == CmpOp.NotIn) = false := by cases op <;> first | rfl | exact absurd rfl h2
  cases b <;> simp [behindInMarks, e1, e2]
theorem pe_cmpR {op : CmpOp} {r : R2} (ho : OpR X (compareOp op) r) (ha : PE X a ta) (hb : PE X b tb) (hm : behindInMarks op b = false) : PE X (.Compare a [op] [b] pos) (tOp r ta tb) := by
  intro pins s σ H Q I h
  exact wpAny_Compare1 (binT ha hb I h fun v u s2 x y H2 I2 rx ry q => ho pins s2 σ H2 x y v u Q I2 rx ry q) hm
def tTest (t : TE) : TT := fun σ H Q => t σ H fun x H' => ∃ k, x = .bl k ∧ Q k H'
theorem pt_cmpR {op : CmpOp} {r : R2} (ho : OpR X (compareOp op) r) (ha : PE X a ta) (hb : PE X b tb) (hm : behindInMarks op b = false) : PT X (.Compare a [op] [b] pos) (tTest (tOp r ta tb)) := by
  intro pins s σ H Q I h
  refine wpAny_isTrue_Compare1 (thn (ha pins s σ H _ I h) fun v s1 ⟨x, H1, I1, r1, q1⟩ => thn (hb pins s1 σ H1 _ I1 q1) fun u s2 ⟨y, H2, I2, r2, q2⟩ =>
    thn (ho pins s2 σ H2 x y v u _ I2 r1 r2 q2) fun c s3 ⟨z, H3, I3, r3, k, e, q3⟩ => ?_) hm
  subst e
  cases r3
  exact wpAny_truthy_bool ⟨H3, I3, q3⟩
def tChain (r r' : R2) (ta tb tc : TE) : TE := fun σ H Q => ta σ H fun x H1 => tb σ H1 fun y H2 => r x y H2 fun z H3 => ∃ k, z = .bl k ∧
  (if k = true then tc σ H3 fun w' H4 => r' y w' H4 Q else Q (.bl false) H3)
theorem pe_chain {op op' : CmpOp} {r r' : R2} (ho : OpR X (compareOp op) r) (ho' : OpR X (compareOp op') r') (ha : PE X a ta) (hb : PE X b tb) (hc : PE X c tc)
    (hm : lastMarks [op, op'] [b, c] = false := by with_unfolding_all rfl) : PE X (.Compare a [op, op'] [b, c] pos) (tChain r r' ta tb tc) := by
  intro pins s σ H Q I h
  refine Compare_chain (thn (ha pins s σ H _ I h) fun v s1 ⟨x, H1, I1, r1, q1⟩ => chain_link (thn (hb pins s1 σ H1 _ I1 q1) fun u s2 ⟨y, H2, I2, r2, q2⟩ =>
    thn (ho pins s2 σ H2 x y v u _ I2 r1 r2 q2) fun d s3 ⟨z, H3, I3, r3, k, e, q3⟩ => ?_)) hm
  subst e
  cases r3
  refine wpAny_truthy_bool ?_
  cases k with
  | false => exact ite_ff ⟨.bl false, H3, I3, rfl, q3⟩
  | true => exact ite_tt (chain_last (thn (hc pins s3 σ H3 _ I3 q3) fun w' s4 ⟨z', H4, I4, r4, q4⟩ => ho' pins s4 σ H4 y z' u w' Q I4 r2 r4 q4))
theorem pt_chain {op op' : CmpOp} {r r' : R2} (ho : OpR X (compareOp op) r) (ho' : OpR X (compareOp op') r') (ha : PE X a ta) (hb : PE X b tb) (hc : PE X c tc)
    (hm : lastMarks [op, op'] [b, c] = false := by with_unfolding_all rfl) : PT X (.Compare a [op, op'] [b, c] pos) (tTest (tChain r r' ta tb tc)) := by
  intro pins s σ H Q I h
  refine isTrue_chain (thn (ha pins s σ H _ I h) fun v s1 ⟨x, H1, I1, r1, q1⟩ => test_link (thn (hb pins s1 σ H1 _ I1 q1) fun u s2 ⟨y, H2, I2, r2, q2⟩ =>
    thn (ho pins s2 σ H2 x y v u _ I2 r1 r2 q2) fun d s3 ⟨z, H3, I3, r3, k, e, q3⟩ => ?_)) hm
  subst e
  cases r3
  refine wpAny_truthy_bool ?_
  cases k with
  | false =>
    obtain ⟨k', e', q'⟩ := q3
    cases e'
    exact ite_ff ⟨H3, I3, q'⟩
  | true =>
    refine ite_tt (test_last (thn (hc pins s3 σ H3 _ I3 q3) fun w' s4 ⟨z', H4, I4, r4, q4⟩ => thn (ho' pins s4 σ H4 y z' u w' _ I4 r2 r4 q4) fun d' s5 ⟨z2, H5, I5, r5, k2, e2, q5⟩ => ?_))
    subst e2
    cases r5
    exact wpAny_truthy_bool ⟨H5, I5, q5⟩
theorem line63 : (sizeLine : Nat) < 2 ^ 63 := by rw [sizeLine_eq]; decide
theorem op_add_str : OpR X (binaryOp .Add) (fun x y H Q => ∃ i j, x = .str i ∧ y = .str j ∧ i.length + j.length ≤ sizeLine ∧ Q (.str (i ++ j)) H) := by
  intro pins s σ H x y v u Q I rx ry h
  obtain ⟨i, j, rfl, rfl, hz, q⟩ := h
  obtain ⟨t, rfl⟩ := rx
  obtain ⟨t', rfl⟩ := ry
  exact add_str (fun t' tk => ⟨.str (i ++ j), H, I.tok _, ⟨_, rfl⟩, q⟩) hz
theorem vals1 {x : V} {us : List Value} (r : Vals [x] us) : ∃ u, us = [u] ∧ RelV x u := by
  cases r with
  | cons r1 r2 => cases r2; exact ⟨_, rfl, r1⟩
theorem vals2 {x y : V} {us : List Value} (r : Vals [x, y] us) : ∃ u w', us = [u, w'] ∧ RelV x u ∧ RelV y w' := by
  cases r with
  | cons r1 r2 =>
    cases r2 with
    | cons r3 r4 => cases r4; exact ⟨_, _, rfl, r1, r3⟩
theorem call_int1 : CallR X (.type "int") (fun xs H Q => (∃ i, xs = [.int i] ∧ Q (.int i) H) ∨ ∃ k, xs = [.bl k] ∧ Q (.int (if k then 1 else 0)) H) := by
  intro pins s σ H xs us Q I r h
  rcases h with ⟨i, rfl, q⟩ | ⟨k, rfl, q⟩
  · obtain ⟨u, rfl, t, rfl⟩ := vals1 r
    exact call_int_int ⟨.int i, H, I, ⟨_, rfl⟩, q⟩
  · obtain ⟨u, rfl, r1⟩ := vals1 r
    cases r1
    exact call_int_bool ⟨.int (if k then 1 else 0), H, I.tok _, ⟨_, rfl⟩, q⟩
def LenV (K : PySem.W.Frag) (x : V) (H : Hp) (n : Nat) : Prop :=
  match x with
  | .str y => y.length ≤ sizeLine ∧ n = y.length
  | .byt y => y.size ≤ sizeLine ∧ n = y.size
  | .ref p => (∃ xs, SqL K H p xs ∧ n = xs.length) ∨ ∃ xs, SqT K H p xs ∧ n = xs.length
  | _ => False
theorem call_len : CallR X (.builtin "len") (fun xs H Q => ∃ x n, xs = [x] ∧ LenV X.K x H n ∧ Q (.int n) H) := by
  intro pins s σ H xs us Q I r h
  obtain ⟨x, n, rfl, e, q⟩ := h
  obtain ⟨u, rfl, rx⟩ := vals1 r
  have hl := line63
  have hs : sizeLine = 16777216 := sizeLine_eq
  cases x with
  | str y =>
    obtain ⟨t, rfl⟩ := rx
    obtain ⟨hy, e'⟩ : y.length ≤ sizeLine ∧ n = y.length := e
    subst e'
    exact len_str (by omega) ⟨.int _, H, I.tok _, ⟨_, rfl⟩, q⟩
  | byt y =>
    obtain ⟨t, rfl⟩ := rx
    obtain ⟨hy, e'⟩ : y.size ≤ sizeLine ∧ n = y.size := e
    subst e'
    exact PySem.W.len_bytes (by omega) ⟨.int _, H, I.tok _, ⟨_, rfl⟩, q⟩
  | ref p =>
    cases rx
    have e' : (∃ xs, SqL X.K H p xs ∧ n = xs.length) ∨ ∃ xs, SqT X.K H p xs ∧ n = xs.length := e
    rcases e' with ⟨xs, hx, e'⟩ | ⟨xs, hx, e'⟩
    · subst e'
      obtain ⟨its, r', pl, hz⟩ := I.list hx
      have hlen := r'.length
      exact Calls.call_len_list pl.isList (by simp only [List.size_toArray]; omega) ⟨.int xs.length, H, I.tok _, ⟨_, by simp only [List.size_toArray]; rw [hlen]⟩, q⟩
    · subst e'
      obtain ⟨its, r', pl, hz⟩ := I.tuple hx
      have hlen := r'.length
      exact len_tuple pl (by simp only [List.size_toArray]; omega) ⟨.int xs.length, H, I.tok _, ⟨_, by simp only [List.size_toArray]; rw [hlen]⟩, q⟩
  | _ => exact (show False from e).elim
end
end L2
namespace L2
open PySem PySem.Spec PyProof.Rows
structure ObjM (h : Heap) (x dx C : Addr) (mA : Str → Option Value) : Prop where
  obj : h.get? x = some (PySem.W.instObj C dx)
  ns : h.Ns1 dx mA
  ne : dx ≠ x
theorem lookIn_ns {h : Heap} {dx : Addr} {mA : Str → Option Value} (n : h.Ns1 dx mA) : ∃ od, h.get? dx = some od ∧ ∀ name, PySem.W.lookIn name od = some (mA name) := by
  obtain ⟨o, es, ep, ho, hd, hk, _, hm⟩ := n
  refine ⟨o, ho, fun name => ?_⟩
  have e := hm name
  unfold nsFind findBy at e
  rw [← Array.find?_toList] at e
  unfold PySem.W.lookIn
  rw [hd]
  dsimp only
  split
  · rename_i y q
    rw [q] at e
    exact congrArg some e
  · rename_i q
    rw [q] at e
    have a : es.toList.any (·.refKey) = false := by
      rw [List.any_eq_false]
      intro y hy
      obtain ⟨z, t, hkey⟩ := hk y (Array.mem_toList_iff.mp hy)
      simp [DictEntry.refKey, hkey]
    have a' : ¬ es.toList.any (·.refKey) = true := by rw [a]; exact Bool.false_ne_true
    rw [if_neg a']
    exact congrArg some e
theorem ObjM.look {h : Heap} {x dx C : Addr} {mA : Str → Option Value} (I : ObjM h x dx C mA) : ∃ od, PySem.W.InstAt h x (PySem.W.instObj C dx) C (some od) ∧ ∀ name, PySem.W.lookIn name od = some (mA name) :=
  let ⟨od, ho, hl⟩ := lookIn_ns I.ns
  ⟨od, ⟨I.obj, rfl, rfl, ho⟩, hl⟩
section
variable {prog : Program} {w : World} {A : Around} {E : Value → Shared → Prop} {s : Shared} {K : PySem.W.Frag} {x dx C f : Addr} {mA : Str → Option Value} {name : Str} {v : Value}
theorem get_map {expr : Bool} {Q : Value → Shared → Prop} (X : K.In s.heap) (I : ObjM s.heap x dx C mA) (hg : PySem.W.plainGet K C name = true) (hh : PySem.W.hasDictIn K C = true)
    (ha : PySem.W.findIn K (.ref C) name = some none) (hv : mA name = some v) (hv' : PySem.W.handedIn v = true) (h : Q v { s with toks := s.toks + 1 }) :
    wpAny (model prog w) A (getAttr (.ref x) name expr) Q E s := by
  obtain ⟨od, J, hl⟩ := I.look
  exact PySem.W.get_value X J (PySem.W.plainGet_of hg).1 (PySem.W.findObj_own hh ha rfl (by rw [hl, hv])) hv' h
theorem get_meth {pl : Sem Bool} {Q : Value × List Value → Shared → Prop} (X : K.In s.heap) (I : ObjM s.heap x dx C mA) (hg : PySem.W.plainGet K C name = true)
    (hf : PySem.W.findIn K (.ref C) name = some (some (.ref f))) (ht : PySem.W.isFn K (.ref f) = true) (hv : mA name = none) (h : Q (.ref f, [.ref x]) s) :
    wpAny (model prog w) A (getMethod (.ref x) name pl) Q E s := by
  obtain ⟨od, J, hl⟩ := I.look
  exact PySem.W.method_fn X J (PySem.W.plainGet_of hg).1 (PySem.W.plainGet_of hg).2 hf (beq_iff_eq.mp ht) (by show (PySem.W.lookIn name od).map (·.isSome) = some false; rw [hl, hv]; rfl) h
theorem set_map {ns : List Str} {Q : Unit → Shared → Prop} (X : K.In s.heap) (I : ObjM s.heap x dx C mA)
    (hs : PySem.W.findIn K (.ref C) "__setattr__" = some (some (.builtin "object.__setattr__"))) (hp : PySem.W.plainOver K C = true) (ht : PySem.W.takerIn K C name = some none) (hh : PySem.W.hasDictIn K C = true)
    (hw : PySem.Within mA ns) (hsz : ns.length ≤ sizeLine)
    (h : ∀ h', ObjM h' x dx C (fun y => if y = name then some v else mA y) → Heap.SameBut dx s.heap h' → Q () { s with heap := h', toks := s.toks + 2 }) :
    wpAny (model prog w) A (setAttr (.ref x) name v) Q E s := by
  obtain ⟨od, J, hl⟩ := I.look
  refine PySem.W.set_plain X J hs (PySem.W.osa_open (s := { s with toks := s.toks + 1 }) (r := none) X J hp ht fun b => ?_)
  obtain ⟨cd, hc, hd'⟩ := PySem.W.any_some hh
  have hx : s.heap.get? x = some ⟨.ref C, some dx, .plain, #[]⟩ := I.obj
  refine wpAny_bind (wpAny_pure (wpAny_bind (wpAny_bind (wpAny_loadPart hx (wpAny_bind (PySem.W.Looks.here (s := { s with toks := s.toks + 1 }) (PySem.W.looks_clsIn X hc) ?_))))))
  rw [hd']
  refine wpAny_pure (a := some dx) (wpAny_bind (wpAny_pure (wpAny_bind ?_)))
  refine wpAny_nsSet1 (s := { s with toks := s.toks + 1 }) I.ns fun h' hn2 hs2 => ?_
  obtain ⟨oD, esD, epD, hoD, hdD, hcD⟩ := hn2.count (PySem.Within.cons name v hw)
  refine wpAny_bind (wpAny_lookBehind hoD (by rw [hdD]; exact pastItsLine_dict (Nat.le_trans hcD (by rw [List.length_cons]; omega))) ?_)
  exact wpAny_pure (h _ ⟨(hs2.2 _ (Ne.symm I.ne)).trans I.obj, hn2, I.ne⟩ hs2)
theorem make_map {R : Result → Shared → Prop} {vs : List Value} {kw : List (Str × Value)} (X : K.In s.heap) (hm : PySem.W.makesIn K C = true)
    (hi : PySem.W.findIn K (.ref C) "__init__" = some (some (.ref f))) (hf : PySem.W.typeIn K (.ref f) = some (.type "function"))
    (h : codeAny (model prog w) (A.under (.builtin "type.__call__" ⟨.ref C :: vs, kw⟩)) (.call (.ref f) ⟨.ref (s.heap.objs.size + 1) :: vs, kw⟩) (PySem.W.InitBack (s.heap.objs.size + 1) R)
      { s with heap := (s.heap.push PySem.W.emptyDict).push (PySem.W.instObj C s.heap.objs.size) }) :
    codeAny (model prog w) A (.call (.ref C) ⟨vs, kw⟩) R s := by
  obtain ⟨hh, g, d, t, os⟩ := s
  exact PySem.W.make_core (PySem.W.makes_of X hm) (PySem.W.looks_findIn X hi) (fun self => PySem.W.bind_fn X self hf) (.inl rfl) h
end
def putF (f : Str) (v : V) : List (Str × V) → List (Str × V)
  | [] => [(f, v)]
  | (g, x) :: r => if g = f then (g, v) :: r else (g, x) :: putF f v r
theorem lookup_putF (f g : Str) (v : V) : ∀ fs : List (Str × V), (putF f v fs).lookup g = if g = f then some v else fs.lookup g
  | [] => by
    show List.lookup g [(f, v)] = _
    by_cases h : g = f
    · have hb : (g == f) = true := beq_iff_eq.mpr h
      simp only [List.lookup, hb, if_pos h]
    · have hb : (g == f) = false := beq_eq_false_iff_ne.mpr h
      simp only [List.lookup, hb, if_neg h]
  | (k, x) :: r => by
    have ih := lookup_putF f g v r
    rw [show putF f v ((k, x) :: r) = (if k = f then (k, v) :: r else (k, x) :: putF f v r) from rfl]
    by_cases hk : k = f
    · rw [if_pos hk]
      by_cases h : g = k
      · have hb : (g == k) = true := beq_iff_eq.mpr h
        simp only [List.lookup, hb, if_pos (h.trans hk)]
      · have hb : (g == k) = false := beq_eq_false_iff_ne.mpr h
        simp only [List.lookup, hb, if_neg (fun e : g = f => h (e.trans hk.symm))]
    · rw [if_neg hk]
      by_cases h : g = k
      · have hb : (g == k) = true := beq_iff_eq.mpr h
        simp only [List.lookup, hb, if_neg (fun e : g = f => hk (h.symm.trans e))]
      · have hb : (g == k) = false := beq_eq_false_iff_ne.mpr h
        simp only [List.lookup, hb]
        exact ih
theorem keys_putF (f : Str) (v : V) : ∀ fs : List (Str × V), f ∈ (putF f v fs).map (·.1) ∧ ∀ g, g ∈ fs.map (·.1) → g ∈ (putF f v fs).map (·.1)
  | [] => ⟨by simp [putF], fun g h => by simp at h⟩
  | (k, x) :: r => by
    obtain ⟨i1, i2⟩ := keys_putF f v r
    rw [show putF f v ((k, x) :: r) = (if k = f then (k, v) :: r else (k, x) :: putF f v r) from rfl]
    by_cases hk : k = f
    · rw [if_pos hk]
      subst hk
      exact ⟨by simp, fun g h => by simpa using h⟩
    · rw [if_neg hk]
      refine ⟨?_, fun g h => ?_⟩
      · rw [List.map_cons]
        exact List.mem_cons_of_mem _ i1
      · rw [List.map_cons] at h ⊢
        rcases List.mem_cons.mp h with e | e
        · exact List.mem_cons.mpr (.inl e)
        · exact List.mem_cons_of_mem _ (i2 g e)
theorem length_putF (f : Str) (v : V) : ∀ fs : List (Str × V), (putF f v fs).length ≤ fs.length + 1
  | [] => by simp [putF]
  | (k, x) :: r => by
    have ih := length_putF f v r
    rw [show putF f v ((k, x) :: r) = (if k = f then (k, v) :: r else (k, x) :: putF f v r) from rfl]
    by_cases hk : k = f
    · rw [if_pos hk, List.length_cons, List.length_cons]; omega
    · rw [if_neg hk, List.length_cons, List.length_cons]; omega
theorem RelO.some_of {v : V} {o : Option Value} (r : RelO (some v) o) : ∃ u, o = some u ∧ RelV v u := by
  cases o with
  | none => exact (show False from r).elim
  | some u => exact ⟨u, rfl, r⟩
theorem RelO.none_of {o : Option Value} (r : RelO none o) : o = none := by
  cases o with
  | none => rfl
  | some u => exact (show False from r).elim
theorem handed_of {v : V} {u : Value} (r : RelV v u) : PySem.W.handedIn u = true := by
  cases v with
  | non => cases (show u = Value.none from r); rfl
  | bl b => cases (show u = Value.bool b from r); rfl
  | int i => obtain ⟨t, e⟩ := (show ∃ t, u = Value.int i t from r); cases e; rfl
  | str x => obtain ⟨t, e⟩ := (show ∃ t, u = Value.str x t from r); cases e; rfl
  | byt b => obtain ⟨t, e⟩ := (show ∃ t, u = Value.bytes b t from r); cases e; rfl
  | flt b => obtain ⟨t, e⟩ := (show ∃ t, u = Value.float b t from r); cases e; rfl
  | ref a => cases (show u = Value.ref a from r); rfl
  | ty n => cases (show u = Value.type n from r); rfl
section
variable {P : Program} {w : World} {H H' : Hp} {h h' : Heap} {a C dx : Addr} {fs fs' : List (Str × V)}
theorem ins_get (hok : HOk P w H h) (e : H a = some (.ins C dx fs)) : ∃ mA, ObjM h a dx C mA ∧ (∀ f, RelO (fs.lookup f) (mA f)) ∧ PySem.Within mA (fs.map (·.1)) ∧ fs.length ≤ 1000 ∧ H dx = some (.own a) := by
  obtain ⟨d, z, ne, ob, mA, n, r, q⟩ := (show ObjOk P w H h a (.ins C dx fs) from hok a _ e)
  exact ⟨mA, ⟨ob, n, ne⟩, r, q, z, d⟩
end
structure Cls (K : PySem.W.Frag) (C : Addr) : Prop where
  pg : PySem.W.plainGet K C Str.empty = true
  hd : PySem.W.hasDictIn K C = true
  po : PySem.W.plainOver K C = true
  sa : PySem.W.findIn K (.ref C) "__setattr__" = some (some (.builtin "object.__setattr__"))
theorem Cls.get {K : PySem.W.Frag} {C : Addr} (c : Cls K C) (f : Str) : PySem.W.plainGet K C f = true := c.pg
def NoAttr (K : PySem.W.Frag) (C : Addr) (f : Str) : Prop := PySem.W.findIn K (.ref C) f = some none
theorem NoAttr.taker {K : PySem.W.Frag} {C : Addr} {f : Str} (n : NoAttr K C f) : PySem.W.takerIn K C f = some none := by
  unfold PySem.W.takerIn
  rw [show PySem.W.findIn K (.ref C) f = some none from n]
  rfl
structure Con (K : PySem.W.Frag) (C : Addr) (f : Str) (v : V) (u : Value) : Prop where
  at_ : PySem.W.findIn K (.ref C) f = some (some u)
  rel : RelV v u
  get : PySem.W.specialIn K u "__get__" = some none
  cp : PySem.W.copiedNames.contains f = false
structure Meth (K : PySem.W.Frag) (C : Addr) (m : Str) (f : Addr) : Prop where
  at_ : PySem.W.findIn K (.ref C) m = some (some (.ref f))
  fn : PySem.W.isFn K (.ref f) = true
  kp : PySem.W.keepIn K (.ref f) = true
section
variable {X : Cx} {pins : List (Addr × Obj)} {σ : St} {H : Hp} {s : Shared} {a C dx : Addr} {fs : List (Str × V)} {f : Str} {v : V} {A : Around} {E : Value → Shared → Prop}
theorem getattr_ok {b : Bool} {Q : Value → Shared → Prop} (I : Inv X pins σ H s) (e : H a = some (.ins C dx fs)) (c : Cls X.K C) (n : NoAttr X.K C f) (l : fs.lookup f = some v)
    (h : ∀ u s', Inv X pins σ H s' → RelV v u → Q u s') : wpAny (model X.prog X.w) A (getAttr (.ref a) f b) Q E s := by
  obtain ⟨mA, O, r, _, _, _⟩ := ins_get I.hok e
  obtain ⟨u, hu, ru⟩ := RelO.some_of (v := v) (o := mA f) (by rw [← l]; exact r f)
  exact get_map I.kIn O (c.get f) c.hd n hu (handed_of ru) (h u _ (I.tok _) ru)
theorem getmeth_ok {m : Str} {g : Addr} {pl : Sem Bool} {Q : Value × List Value → Shared → Prop} (I : Inv X pins σ H s) (e : H a = some (.ins C dx fs)) (c : Cls X.K C) (k : Meth X.K C m g) (l : fs.lookup m = none)
    (h : Q (.ref g, [.ref a]) s) : wpAny (model X.prog X.w) A (getMethod (.ref a) m pl) Q E s := by
  obtain ⟨mA, O, r, _, _, _⟩ := ins_get I.hok e
  have hn : mA m = none := RelO.none_of (by rw [← l]; exact r m)
  exact get_meth I.kIn O (c.get m) k.at_ k.fn hn h
theorem setattr_ok {y : V} {u : Value} {Q : Unit → Shared → Prop} (I : Inv X pins σ H s) (e : H a = some (.ins C dx fs)) (c : Cls X.K C) (n : NoAttr X.K C f) (hl : fs.length < 1000) (ry : RelV y u)
    (h : ∀ s', Inv X pins σ (upd H a (.ins C dx (putF f y fs))) s' → Q () s') : wpAny (model X.prog X.w) A (setAttr (.ref a) f u) Q E s := by
  obtain ⟨mA, O, r, wi, _, ho⟩ := ins_get I.hok e
  have hz : (fs.map (·.1)).length ≤ sizeLine := by rw [List.length_map, sizeLine_eq]; omega
  refine set_map I.kIn O c.sa c.po n.taker c.hd wi hz fun h' O' sb => h _ ?_
  have hd : ∃ o, h'.get? dx = some o := let ⟨o, _, _, e', _⟩ := O'.ns; ⟨o, e'⟩
  refine I.write (x := a) (e := dx) (by rw [e]; exact True.intro) (.inr ho) (fun b q hb z => (sb.2 b hb).trans z) hd ?_
  refine ⟨by rw [upd_ne O.ne]; exact ho, ?_, O.ne, O'.obj, _, O'.ns, fun g => ?_, fun g hg => ?_⟩
  · have := length_putF f y fs; omega
  · show RelO ((putF f y fs).lookup g) (if g = f then some u else mA g)
    rw [lookup_putF]
    by_cases q : g = f
    · rw [if_pos q, if_pos q]; exact ry
    · rw [if_neg q, if_neg q]; exact r g
  · by_cases q : g = f
    · rw [q]; exact (keys_putF f y fs).1
    · refine (keys_putF f y fs).2 g (wi g fun z => hg ?_)
      show (if g = f then some u else mA g) = none
      rw [if_neg q]; exact z
theorem Inv.made (I : Inv X pins σ H s) : Inv X pins σ (upd (upd H s.heap.objs.size (.own (s.heap.objs.size + 1))) (s.heap.objs.size + 1) (.ins C s.heap.objs.size []))
    { s with heap := (s.heap.push PySem.W.emptyDict).push (PySem.W.instObj C s.heap.objs.size) } := by
  have e1 : (s.heap.push PySem.W.emptyDict).get? s.heap.objs.size = some PySem.W.emptyDict := Heap.get?_push_size s.heap rfl
  have e2 : ((s.heap.push PySem.W.emptyDict).push (PySem.W.instObj C s.heap.objs.size)).get? (s.heap.objs.size + 1) = some (PySem.W.instObj C s.heap.objs.size) := by
    have := Heap.get?_push_size (s.heap.push PySem.W.emptyDict) (o := PySem.W.instObj C s.heap.objs.size) rfl
    rwa [Heap.size_push] at this
  have e3 : (s.heap.push PySem.W.emptyDict).Ns s.heap.objs.size (fun _ => none) := ⟨PySem.W.emptyDict, #[], _, e1, rfl, (fun e he => absurd he (by simp)), fun _ => rfl⟩
  have I1 := I.laid (a := s.heap.objs.size) (o := .own (s.heap.objs.size + 1)) (h' := s.heap.push PySem.W.emptyDict) (t' := s.toks) (fun b u q => Heap.get?_push_of_some _ q) (Nat.le_refl _) ⟨_, e1⟩
  refine I1.laid (a := s.heap.objs.size + 1) (o := .ins C s.heap.objs.size []) (t' := s.toks) (fun b u q => Heap.get?_push_of_some _ q) (Nat.le_of_eq (Heap.size_push _ _)) ?_
  have ne : s.heap.objs.size ≠ s.heap.objs.size + 1 := Nat.ne_of_lt (Nat.lt_succ_self _)
  refine ⟨by rw [upd_ne ne, upd_same], Nat.zero_le _, ne, e2, fun _ => none, (Heap.Ns1.of_empty e3).at fun o q => Heap.get?_push_of_some _ q, fun _ => True.intro, fun y hy => absurd rfl hy⟩
theorem attr_of {prog : Program} {w : World} {env : Env} {e : Expr} {f : Str} {pos : Pos} {s : Shared} {Q : Value → Shared → Prop} (hb : attributeBase e f env (eval e env) = eval e env)
    (h : wpAny (model prog w) A (eval e env) (fun o s₁ => wpAny (model prog w) A (getAttr o f true) Q E s₁) E s) : wpAny (model prog w) A (eval (.Attribute e f pos) env) Q E s :=
  Attribute_any_ h (by rw [arm_eval_Attribute, hb])
end
def tFld (K : PySem.W.Frag) (ta : TE) (f : Str) : TE := fun σ H Q => ta σ H fun x H1 => ∃ a C dx fs v, x = .ref a ∧ H1 a = some (.ins C dx fs) ∧ Cls K C ∧ NoAttr K C f ∧ fs.lookup f = some v ∧ Q v H1
def sFld (K : PySem.W.Frag) (ta tv : TE) (f : Str) : TS := fun D σ H => tv σ H fun y H1 => ta σ H1 fun x H2 => ∃ a C dx fs, x = .ref a ∧ H2 a = some (.ins C dx fs) ∧ Cls K C ∧ NoAttr K C f ∧ fs.length < 1000 ∧
  D.nx σ (upd H2 a (.ins C dx (putF f y fs)))
section
variable {X : Cx} {o e value : Expr} {f : Str} {pos pos' tpos : Pos} {ta tv : TE}
theorem pe_fld (he : PE X e ta) (hb : attributeBase e f X.env (eval e X.env) = eval e X.env) : PE X (.Attribute e f pos) (tFld X.K ta f) := by
  intro pins s σ H Q I h
  refine attr_of hb (thn (he pins s σ H _ I h) fun u s1 ⟨x, H1, I1, rx, a, C, dx, fs, v, ex, ea, c, n, l, q⟩ => ?_)
  subst ex
  obtain rfl : u = Value.ref a := rx
  exact getattr_ok I1 ea c n l fun u' s2 I2 ru => ⟨v, H1, I2, ru, q⟩
theorem ps_fld (ha : PE X o ta) (hv : PE X value tv) (hs : swapsWith value (some (.Attribute o f pos')) pos.line X.env = pure false) : PS X (.Assign [.Attribute o f pos'] value pos) (sFld X.K ta tv f) := by
  intro pins s σ H D I h
  refine plainObj_wpAny_Assign_Attribute (thn (hv pins s σ H _ I h) fun u s1 ⟨y, H1, I1, ry, q⟩ => thn (ha pins s1 σ H1 _ I1 q) fun ov s2 ⟨x, H2, I2, rx, a, C, dx, fs, ex, ea, c, n, l, q2⟩ => ?_) hs
  subst ex
  obtain rfl : ov = Value.ref a := rx
  exact setattr_ok I2 ea c n l ry fun s3 I3 => ⟨σ, _, I3, q2⟩
end
section
variable {X : Cx} {pins : List (Addr × Obj)} {σ : St} {H : Hp} {s : Shared} {A : Around} {E : Value → Shared → Prop} {Q : Value → Shared → Prop} {c : Value} {b : Bool}
inductive TyOf (K : PySem.W.Frag) (H : Hp) : V → Value → Prop where
  | non : TyOf K H .non (.type "NoneType")
  | bl (x : Bool) : TyOf K H (.bl x) (.type "bool")
  | int (i : Int) : TyOf K H (.int i) (.type "int")
  | str (x : Str) : TyOf K H (.str x) (.type "str")
  | flt (x : UInt64) : TyOf K H (.flt x) (.type "float")
  | lst {a : Addr} {xs : List V} (e : H a = some (.lst xs)) : TyOf K H (.ref a) (.type "list")
  | frz {a : Addr} {o : Obj} {xs : List V} (e : H a = some (.frz o (.lst xs))) : TyOf K H (.ref a) (.type "list")
  | tup {a : Addr} {xs : List V} (e : H a = some (.tup xs)) : TyOf K H (.ref a) (.type "tuple")
  | dK {a : Addr} {kvs : List (Key × V)} (e : H a = some (.dK kvs)) : TyOf K H (.ref a) (.type "dict")
  | dT {a : Addr} {kvs : List (List Key × V)} (e : H a = some (.dT kvs)) : TyOf K H (.ref a) (.type "dict")
  | ins {a C dx : Addr} {fs : List (Str × V)} (e : H a = some (.ins C dx fs)) (cl : Cls K C) (ha : PySem.W.findIn K (.ref C) "__class__" = some (some (.builtin "object.__class__")))
      (hn : PySem.W.specialIn K (.builtin "object.__class__") "__get__" = some (some (.builtin "getset_descriptor.__get__"))) (htk : PySem.W.takesIn K (.builtin "object.__class__") = some true)
      (hm : PySem.W.mroIn K C (.type "object") = some true) : TyOf K H (.ref a) (.ref C)
theorem isinst_ok {x : V} {u t : Value} (I : Inv X pins σ H s) (rx : RelV x u) (ty : TyOf X.K H x t) (e : PySem.W.kitOne X.K t c = some b) (h : ∀ tk, Q (.bool b) { s with toks := tk }) :
    wpAny (model X.prog X.w) A (call (.builtin "isinstance") [u, c]) Q E s := by
  cases ty with
  | non => cases (show u = Value.none from rx); exact PySem.W.kia_one PySem.W.kitx_none I.kIn True.intro e (fun z => nomatch z) h
  | bl y => cases (show u = Value.bool y from rx); exact PySem.W.kia_one PySem.W.kitx_bool I.kIn True.intro e (fun z => nomatch z) h
  | int i => obtain ⟨t, q⟩ := (show ∃ t, u = Value.int i t from rx); cases q; exact PySem.W.kia_one PySem.W.kitx_int I.kIn True.intro e (fun z => nomatch z) h
  | str y => obtain ⟨t, q⟩ := (show ∃ t, u = Value.str y t from rx); cases q; exact PySem.W.kia_one PySem.W.kitx_str I.kIn True.intro e (fun z => nomatch z) h
  | flt y => obtain ⟨t, q⟩ := (show ∃ t, u = Value.float y t from rx); cases q; exact PySem.W.kia_one PySem.W.kitx_float I.kIn True.intro e (fun z => nomatch z) h
  | @lst a xs ea =>
    cases (show u = Value.ref a from rx)
    obtain ⟨_, _, n, _, h1⟩ := (show ObjOk X.prog X.w H s.heap a (.lst xs) from I.hok a _ ea)
    exact PySem.W.kia_one PySem.W.kitx_list I.kIn ⟨_, h1, rfl⟩ e (fun z => nomatch z) h
  | @frz a ob xs ea =>
    cases (show u = Value.ref a from rx)
    obtain ⟨_, _, _, n, _, h1⟩ := (show ObjOk X.prog X.w H s.heap a (.frz ob (.lst xs)) from I.hok a _ ea)
    exact PySem.W.kia_one PySem.W.kitx_list I.kIn ⟨_, h1, rfl⟩ e (fun z => nomatch z) h
  | @tup a xs ea =>
    cases (show u = Value.ref a from rx)
    obtain ⟨_, _, _, p⟩ := (show ObjOk X.prog X.w H s.heap a (.tup xs) from I.hok a _ ea)
    obtain ⟨o, h1, h2, _⟩ := p
    exact PySem.W.kia_one PySem.W.kitx_tuple I.kIn ⟨o, h1, h2⟩ e (fun z => nomatch z) h
  | @dK a kvs ea =>
    cases (show u = Value.ref a from rx)
    obtain ⟨_, _, vs, _, p⟩ := (show ObjOk X.prog X.w H s.heap a (.dK kvs) from I.hok a _ ea)
    obtain ⟨o, es, ep, h1, h2, _⟩ := p
    exact PySem.W.kia_one PySem.W.kitx_dict I.kIn ⟨o, h1, h2.1⟩ e (fun z => nomatch z) h
  | @dT a kvs ea => exact False.elim (show ObjOk X.prog X.w H s.heap a (.dT kvs) from I.hok a _ ea)
  | @ins a C dx fs ea cl ha hn htk hm =>
    cases (show u = Value.ref a from rx)
    obtain ⟨mA, O, _⟩ := ins_get I.hok ea
    obtain ⟨od, J, _⟩ := O.look
    exact PySem.W.kia_one (PySem.W.kitx_own (cl.get _) cl.hd ha hn htk hm) I.kIn J e (fun z => nomatch z) h
end
end L2
namespace L2
open PySem PySem.Spec PyProof.Rows
structure Room (k : Nat) (A : Around) : Prop where
  hd : A.handled = none
  dp : A.depth + 3 * k + 5 < recursionLimit
  un : A.units + 16 * k + 200 < cLine
theorem Room.mono {j k : Nat} {A : Around} (r : Room k A) (h : j ≤ k) : Room j A := ⟨r.hd, by have := r.dp; omega, by have := r.un; omega⟩
theorem Room.deeper {k : Nat} {A : Around} (r : Room (k + 1) A) (env : Env) : Room k (A.deeper env) :=
  ⟨r.hd, by have := r.dp; show A.depth + 1 + 3 * k + 5 < _; omega, by have := r.un; show A.units + 3 + 16 * k + 200 < _; omega⟩
theorem make_depth {A : Around} {C : Addr} {us : List Value} {kw : List (Str × Value)} : (A.under (.builtin "type.__call__" ⟨.ref C :: us, kw⟩)).depth = A.depth + 1 := by
  first | rfl | simp [Around.under, Code.weight, Code.isCreation, Code.isGuard, Code.isCaller, Code.frames, Code.isFrame, guardIds]
theorem make_units {A : Around} {C : Addr} {us : List Value} {kw : List (Str × Value)} : (A.under (.builtin "type.__call__" ⟨.ref C :: us, kw⟩)).units = A.units + 1 := by
  first | rfl | simp [Around.under, Code.cUnits, Code.frames, Code.isFrame]
theorem Room.make {k : Nat} {A : Around} (r : Room (k + 1) A) (C : Addr) (us : List Value) (kw : List (Str × Value)) : Room k (A.under (.builtin "type.__call__" ⟨.ref C :: us, kw⟩)) :=
  ⟨r.hd, by have := r.dp; rw [make_depth]; omega, by have := r.un; rw [make_units]; omega⟩
theorem Room.depth {k : Nat} {A : Around} (r : Room k A) : A.depth < recursionLimit := by have := r.dp; omega
theorem Room.units {k : Nat} {A : Around} (r : Room k A) : A.units + 64 < cLine := by have := r.un; omega
def tNil : TA := fun _ H Q => Q [] H
def tCons (ta : TE) (tr : TA) : TA := fun σ H Q => ta σ H fun x H1 => tr σ H1 fun xs H2 => Q (x :: xs) H2
section
variable {X : Cx} {e : Expr} {es : List Expr} {te : TE} {t : TA} {pos : Pos}
theorem pa_nil : PA X [] tNil := fun _ _ _ _ H Q I h => Calls.spliced_nil ⟨[], H, I, .nil, h⟩
theorem pa_cons (ha : PE X e te) (hr : PA X es t) (hs : starEach (e :: es) X.env = (false, eval e X.env) :: starEach es X.env := by rfl) : PA X (e :: es) (tCons te t) := by
  intro pos pins s σ H Q I h
  rw [hs]
  show wpAny _ _ (spliced ((false, eval e X.env) :: backTo pos (starEach es X.env))) _ _ s
  refine Calls.spliced_cons (thn (ha pins s σ H _ I h) fun u s1 ⟨x, H1, I1, r1, q1⟩ => ?_)
  exact thn (hr pos pins s1 σ H1 _ I1 q1) fun us s2 ⟨xs, H2, I2, r2, q2⟩ => ⟨x :: xs, H2, I2, .cons r1 r2, q2⟩
def tTup (t : TA) : TE := fun σ H Q => t σ H fun xs H1 => xs.length ≤ sizeLine ∧ ∀ p, H1 p = none → Q (.ref p) (upd H1 p (.tup xs))
def tLst (t : TA) : TE := fun σ H Q => t σ H fun xs H1 => xs.length ≤ sizeLine ∧ ∀ p, H1 p = none → Q (.ref p) (upd H1 p (.lst xs))
theorem pe_tup {x1} (h : PA X es t) : PE X (.Tuple es x1 pos) (tTup t) := by
  intro pins s σ H Q I hq
  refine wpAny_Tuple_spliced (thn (h pos pins s σ H _ I hq) fun us s1 ⟨xs, H1, I1, r, z, q⟩ => ⟨by rw [← r.length]; exact z, ?_⟩)
  have hf : H1 s1.heap.objs.size = none := I1.hok.fresh (Nat.le_refl _)
  refine ⟨.ref s1.heap.objs.size, upd H1 s1.heap.objs.size (.tup xs), I1.laid (t' := s1.toks) (fun b u e => Heap.get?_push_of_some _ e) (Nat.le_refl _) ?_, rfl, q _ hf⟩
  exact ⟨z, us, r, ⟨_, Heap.get?_push_size _ rfl, rfl, rfl, _, rfl⟩⟩
theorem pe_lst (h : PA X es t) : PE X (.List es pos) (tLst t) := by
  intro pins s σ H Q I hq
  refine wpAny_List_spliced (thn (h pos pins s σ H _ I hq) fun us s1 ⟨xs, H1, I1, r, z, q⟩ => ⟨by rw [← r.length]; exact z, ?_⟩)
  have hf : H1 s1.heap.objs.size = none := I1.hok.fresh (Nat.le_refl _)
  refine ⟨.ref s1.heap.objs.size, upd H1 s1.heap.objs.size (.lst xs), I1.laid (t' := s1.toks) (fun b u e => Heap.get?_push_of_some _ e) (Nat.le_refl _) ?_, rfl, q _ hf⟩
  exact ⟨z, us, 0, r, Heap.get?_push_size _ rfl⟩
end
abbrev Sp := List V → Hp → VK → XK → Prop
abbrev CXT := List Env → Hp → Shared → XK → Value → Shared → Prop
structure Env0 (P : Program) (w : World) (K : PySem.W.Frag) (mg : Str → Option Value) (base : Heap) (A : Around) (outer : List Env) (s : Shared) (H : Hp) : Prop where
  frames : A.frames = some outer
  mod : Mod K mg base
  bs : ∀ b o, base.get? b = some o → s.heap.get? b = some o ∧ H b = none
  bsz : base.objs.size ≤ s.heap.objs.size
  funs : s.heap.FunFrames base outer
  frf : ∀ b ∈ frs outer, H b = none
  hok : HOk P w H s.heap
  bare : AllBare s.gens
def CE (outer : List Env) (P : Program) (w : World) (H : Hp) (s : Shared) (Q : VK) (u : Value) (s' : Shared) : Prop :=
  ∃ v H', s'.os = s.os ∧ AllBare s'.gens ∧ Un (frs outer) [] H H' s.heap s'.heap ∧ HOk P w H' s'.heap ∧ RelV v u ∧ Q v H'
def CR (CX : CXT) (outer : List Env) (P : Program) (w : World) (H : Hp) (s : Shared) (Q : VK) (E : XK) (r : Result) (s' : Shared) : Prop :=
  match r with
  | .ok (.ret u) => CE outer P w H s Q u s'
  | .ok _ => False
  | .error e => CX outer H s E e s'
structure FnOk (P : Program) (w : World) (K : PySem.W.Frag) (mg : Str → Option Value) (base : Heap) (CX : CXT) (k : Nat) (f : Addr) (fd : FuncData) (ps : List Str) (sp : Sp) : Prop where
  len : ∀ vs H Q E, sp vs H Q E → vs.length = ps.length
  run : ∀ (A : Around) (outer : List Env) (s : Shared) (H : Hp) (args : Args) (us : List Value) (vs : List V) (Q : VK) (E : XK), Room k A → Env0 P w K mg base A outer s H → BindsTo s fd args (ps.zip us) → Vals vs us → sp vs H Q E →
    codeAny (model P w) A (.call (.ref f) args) (CR CX outer P w H s Q E) s
theorem FnOk.mono {P : Program} {w : World} {K : PySem.W.Frag} {mg : Str → Option Value} {base : Heap} {CX : CXT} {j k : Nat} {f : Addr} {fd : FuncData} {ps : List Str} {sp : Sp} (F : FnOk P w K mg base CX j f fd ps sp) (h : j ≤ k) :
    FnOk P w K mg base CX k f fd ps sp := ⟨F.len, fun A outer s H args us vs Q E hr => F.run A outer s H args us vs Q E (hr.mono h)⟩
theorem FnOk.imp {P : Program} {w : World} {K : PySem.W.Frag} {mg : Str → Option Value} {base : Heap} {CX : CXT} {k : Nat} {f : Addr} {fd : FuncData} {ps : List Str} {sp sp' : Sp} (F : FnOk P w K mg base CX k f fd ps sp)
    (h : ∀ vs H Q E, sp' vs H Q E → sp vs H Q E) : FnOk P w K mg base CX k f fd ps sp' :=
  ⟨fun vs H Q E q => F.len vs H Q E (h _ _ _ _ q), fun A outer s H args us vs Q E hr he hb hv hs => F.run A outer s H args us vs Q E hr he hb hv (h _ _ _ _ hs)⟩
theorem Env0.make {P : Program} {w : World} {K : PySem.W.Frag} {mg : Str → Option Value} {base : Heap} {A : Around} {outer : List Env} {s : Shared} {H : Hp} (e : Env0 P w K mg base A outer s H) (C : Addr) (us : List Value) (kw : List (Str × Value)) :
    Env0 P w K mg base (A.under (.builtin "type.__call__" ⟨.ref C :: us, kw⟩)) outer s H := ⟨by first | exact e.frames | (simpa [Around.under, Code.envs, Code.isFrame, pushEnvs] using e.frames), e.mod, e.bs, e.bsz, e.funs, e.frf, e.hok, e.bare⟩
section
variable {X : Cx} {pins : List (Addr × Obj)} {σ : St} {H : Hp} {s s' : Shared}
theorem Inv.env0 (I : Inv X pins σ H s) : Env0 X.prog X.w X.K X.mg X.base X.A X.stack s H :=
  ⟨I.ok.frames, I.ok.mod, I.bs, Nat.le_trans I.ok.bsz I.sz, I.stack, I.stkFree, I.hok, I.bare⟩
theorem Inv.after {Q : VK} {u : Value} (I : Inv X pins σ H s) (h : CE X.stack X.prog X.w H s Q u s') : EP X pins σ Q u s' := by
  obtain ⟨v, H', os, bare, un, hok, r, q⟩ := h
  obtain ⟨hh, g, d, t, os'⟩ := s'
  obtain rfl : os' = s.os := os
  exact ⟨v, H', I.call (h' := hh) (g' := g) (d' := d) (t' := t) (ch := []) un hok bare (fun b z => absurd z (by simp)), r, q⟩
end
def Binds (K : PySem.W.Frag) (fd : FuncData) (ps : List Str) (ds : List Value) : Prop :=
  ∀ (s : Shared) (us : List Value), K.In s.heap → (us ++ ds).length = ps.length → BindsTo s fd ⟨us, []⟩ (ps.zip (us ++ ds))
theorem Binds.all {K : PySem.W.Frag} {fd : FuncData} {ps : List Str} (h : ∀ us : List Value, us.length = ps.length → bindArgs fd ⟨us, []⟩ = pure (ps.zip us)) : Binds K fd ps [] := fun s us _ hl => by
  rw [List.append_nil] at hl ⊢
  exact .of_eq (h us hl)
def Passes (CX : CXT) (X : Cx) (E : XK) : Prop := ∀ (pins : List (Addr × Obj)) (σ : St) (H : Hp) (s : Shared) (e : Value) (s' : Shared), Inv X pins σ H s → CX X.stack H s E e s' → X.xe e s'
section
variable {X : Cx} {CX : CXT} {k : Nat} {f C : Addr} {fd : FuncData} {ps : List Str} {sp : Sp} {dvs : List V} {ds : List Value} {E : XK} {x m : Str} {p pos apos : Pos} {e o : Expr} {es : List Expr} {ta : TE} {t : TA}
structure Mk (K : PySem.W.Frag) (C f : Addr) : Prop where
  makes : PySem.W.makesIn K C = true
  init : PySem.W.findIn K (.ref C) "__init__" = some (some (.ref f))
  fn : PySem.W.isFn K (.ref f) = true
  kp : PySem.W.keepIn K (.ref C) = true
end
section
variable {X : Cx} {CX : CXT} {k : Nat} {f C : Addr} {fd : FuncData} {ps ks : List Str} {sp : Sp} {E : XK} {x m : Str} {p pos apos kpos : Pos} {e o : Expr} {es : List Expr} {kws : List Keyword} {te ta : TE} {t tk : TA} {nm : Option Str}
structure KBinds (K : PySem.W.Frag) (fd : FuncData) (ps ks : List Str) (g : List Value → List Value → List Value) (gV : List V → List V → List V) : Prop where
  to : ∀ (s : Shared) (us ws : List Value), K.In s.heap → (g us ws).length = ps.length → BindsTo s fd ⟨us, ks.zip ws⟩ (ps.zip (g us ws))
  rel : ∀ {vs : List V} {us : List Value} {zs : List V} {ws : List Value}, Vals vs us → Vals zs ws → Vals (gV vs zs) (g us ws)
variable {g : List Value → List Value → List Value} {gV : List V → List V → List V}
end
structure FnScope (N P : List Str) (sc : Scope) : Prop where
  kind : sc.kind = .function
  co : sc.isCoroutine = false
  gen : sc.isGenerator = false
  nd : N.Nodup
  pre : N.take P.length = P
  par : ∀ x ∈ P, sc.names.lookup x = some .local ∨ sc.names.lookup x = some .cell
  nofree : ∀ y ∈ sc.names, y.2 ≠ .free
theorem bindL_out {kindOf : Str → Option NameKind} {x : Str} : ∀ {binds : List (Str × Value)} {m : Str → Option Value}, (∀ v, (x, v) ∉ binds) → bindL kindOf binds m x = m x
  | [], _, _ => rfl
  | (n, v) :: r, m, h => by
    unfold bindL
    rw [bindL_out fun w hw => h w (List.mem_cons_of_mem _ hw)]
    split
    · have : x ≠ n := by rintro rfl; exact h v List.mem_cons_self
      simp [this]
    · rfl
theorem bindC_out {kindOf : Str → Option NameKind} {x : Str} : ∀ {binds : List (Str × Value)} {m : Str → Option Value}, (∀ v, (x, v) ∉ binds) → bindC kindOf binds m x = m x
  | [], _, _ => rfl
  | (n, v) :: r, m, h => by
    unfold bindC
    rw [bindC_out fun w hw => h w (List.mem_cons_of_mem _ hw)]
    split
    · rfl
    · have : x ≠ n := by rintro rfl; exact h v List.mem_cons_self
      simp [this]
theorem bindL_get {kindOf : Str → Option NameKind} {x : Str} {v : Value} : ∀ {P : List Str} {vs : List Value} {i : Nat} {m : Str → Option Value}, P.Nodup → P[i]? = some x → vs[i]? = some v → kindOf x = some .local →
    bindL kindOf (P.zip vs) m x = some v
  | [], _, _, _, _, h, _, _ => by simp at h
  | _ :: _, [], _, _, _, _, h, _ => by simp at h
  | p :: P, w :: vs, 0, m, nd, h1, h2, hk => by
    simp at h1 h2; subst h1; subst h2
    show bindL kindOf ((p, w) :: P.zip vs) m p = _
    unfold bindL
    rw [bindL_out fun v hv => (List.nodup_cons.mp nd).1 (List.of_mem_zip hv).1, if_pos hk]
    simp
  | p :: P, w :: vs, i + 1, m, nd, h1, h2, hk => by
    show bindL kindOf ((p, w) :: P.zip vs) m x = _
    unfold bindL
    exact bindL_get (i := i) (List.nodup_cons.mp nd).2 (by simpa using h1) (by simpa using h2) hk
theorem bindC_get {kindOf : Str → Option NameKind} {x : Str} {v : Value} : ∀ {P : List Str} {vs : List Value} {i : Nat} {m : Str → Option Value}, P.Nodup → P[i]? = some x → vs[i]? = some v → kindOf x ≠ some .local →
    bindC kindOf (P.zip vs) m x = some v
  | [], _, _, _, _, h, _, _ => by simp at h
  | _ :: _, [], _, _, _, _, h, _ => by simp at h
  | p :: P, w :: vs, 0, m, nd, h1, h2, hk => by
    simp at h1 h2; subst h1; subst h2
    show bindC kindOf ((p, w) :: P.zip vs) m p = _
    unfold bindC
    rw [bindC_out fun v hv => (List.nodup_cons.mp nd).1 (List.of_mem_zip hv).1, if_neg hk]
    simp
  | p :: P, w :: vs, i + 1, m, nd, h1, h2, hk => by
    show bindC kindOf ((p, w) :: P.zip vs) m x = _
    unfold bindC
    exact bindC_get (i := i) (List.nodup_cons.mp nd).2 (by simpa using h1) (by simpa using h2) hk
def start (N : List Str) (vs : List V) : St := vs.map some ++ List.replicate (N.length - vs.length) none
def cxOf (CX : CXT) (P : Program) (w : World) (K : PySem.W.Frag) (mg : Str → Option Value) (base : Heap) (N : List Str) (qual : Str) (scope : Scope) (f : Addr) (cd : Value) (A : Around) (outer : List Env) (s : Shared) (H : Hp) (E : XK) : Cx where
  prog := P
  w := w
  K := K
  mg := mg
  base := base
  A := A.deeper (envOfC qual scope s.heap.objs.size f cd)
  N := N
  s₀ := s
  H₀ := H
  env := envOfC qual scope s.heap.objs.size f cd
  outer := outer
  stack := envOfC qual scope s.heap.objs.size f cd :: outer
  ex := []
  calm := true
  fn := fun _ => true
  pn := []
  xe := fun e s' => wpAny (model P w) (A.deeper (envOfC qual scope s.heap.objs.size f cd)) (leaving (envOfC qual scope s.heap.objs.size f cd) e) (fun _ s'' => CX outer H s E e s'') (fun e' s'' => CX outer H s E e' s'') s'
theorem cell_has {sc : Scope} {n : Nat} {x : Str} (h : sc.names.lookup x = some .cell) : ∃ c, (cellsFrom n sc.names []).lookup x = some c := by
  have q := PySem.W.cellsFrom_some sc.names n [] (.inl h)
  exact Option.isSome_iff_exists.mp q
theorem inv_start {CX : CXT} {P : Program} {w : World} {K : PySem.W.Frag} {mg : Str → Option Value} {base : Heap} {N ps : List Str} {qual : Str} {scope : Scope} {f : Addr} {cd : Value} {A : Around} {outer : List Env} {s s1 : Shared} {H : Hp} {E : XK} {us : List Value} {vs : List V}
    (S : FnScope N ps scope) (hd : A.handled = none) (e0 : Env0 P w K mg base A outer s H) (hl : vs.length = ps.length) (r : Vals vs us)
    (x : InCallC s s.heap.objs.size (bindL (envOfC qual scope s.heap.objs.size f cd).kindOf (ps.zip us) fun _ => none) (cellsFrom (s.heap.objs.size + 1) scope.names []) (bindC (envOfC qual scope s.heap.objs.size f cd).kindOf (ps.zip us) fun _ => none) s1) :
    Inv (cxOf CX P w K mg base N qual scope f cd A outer s H E) [] (start N vs) H s1 := by
  have hpl : ps.length ≤ N.length := by have := congrArg List.length S.pre; rw [List.length_take] at this; omega
  obtain ⟨h1, tk, rfl, hk⟩ := x.done
  have noA : ∀ b : Addr, b ∉ (cxOf CX P w K mg base N qual scope f cd A outer s H E).ex := fun b z => absurd (show b ∈ ([] : List Addr) from z) (by simp)
  refine ⟨⟨e0.mod, S.kind, rfl, rfl, Nat.le_refl _, fun y z c h1 h2 => ?_, fun y hy => ?_, fun y c _ h => ?_, fun _ => hd, Around.frames_deeper e0.frames, .inr ⟨rfl, rfl⟩, fun b z => absurd z (noA b), e0.bs, e0.bsz, fun b _ _ => noA b, fun b z => absurd z (noA b), e0.funs, e0.frf⟩,
    rfl, e0.bare, Un.kept hk, ⟨_, x.toInCall.ns, fun i y v h1 h2 h3 => ?_⟩, fun y c h => ⟨_, x.cell y c h⟩, e0.hok.fresh (Nat.le_refl _), fun y c h => ?_, fun p hp => absurd (show p ∈ ([] : List (Addr × Obj)) from hp) (by simp), e0.hok.kept hk, ?_⟩
  · exact name_of_addr x.apart (PySem.mem_of_lookup h1) (PySem.mem_of_lookup h2)
  · have hy : scope.names.lookup y = some .cell ∨ scope.names.lookup y = some .free := hy
    rcases hy with hy | hy
    · exact cell_has hy
    · exact absurd rfl (S.nofree _ (PySem.mem_of_lookup hy))
  · exact Nat.le_of_lt (x.above y c (PySem.mem_of_lookup h))
  · have hi : i < vs.length := by
      unfold start at h2
      by_cases hi : i < vs.length
      · exact hi
      · rw [List.getElem?_append_right (by simpa using hi)] at h2
        rw [List.getElem?_replicate] at h2
        split at h2 <;> cases h2
    have ha : vs[i]? = some v := by
      unfold start at h2
      rw [List.getElem?_append_left (by simpa using hi), List.getElem?_map] at h2
      cases e : vs[i]? with
      | none => rw [e] at h2; cases h2
      | some a => rw [e] at h2; cases h2; rfl
    obtain ⟨u, hu, rv⟩ := r.get ha
    have hp : ps[i]? = some y := by
      rw [← S.pre, List.getElem?_take_of_lt (by omega)]; exact h1
    have ndP : ps.Nodup := by rw [← S.pre]; exact S.nd.sublist (List.take_sublist _ _)
    refine ⟨u, rv, ?_⟩
    rcases S.par y (List.mem_of_getElem? hp) with k | k
    · exact .inl ⟨k, bindL_get ndP hp hu k⟩
    · obtain ⟨c, e⟩ := cell_has (n := s.heap.objs.size + 1) k
      refine .inr ⟨.inl k, c, e, ?_⟩
      have q := x.cell y c e
      rw [bindC_get ndP hp hu (by show scope.names.lookup y ≠ _; rw [k]; decide)] at q
      exact q
  · exact e0.hok.fresh (Nat.le_of_lt (x.above y c (PySem.mem_of_lookup h)))
  · unfold start
    show _ = N.length
    rw [List.length_append, List.length_map, List.length_replicate]
    omega
theorem fn_of {CX : CXT} {P : Program} {w : World} {K : PySem.W.Frag} {mg : Str → Option Value} {base : Heap} {k : Nat} {f : Addr} {name qual : Str} {params : Arguments} {body : List Stmt} {scope : Scope} {dV kV doc pm cdv ct oc : Value} {an od : Option Addr}
    {osl : Array (Option Value)} {N ps : List Str} {sp : Sp} (lk : K.lookup f = some ⟨oc, od, .func (PySem.W.fnOf name qual params body scope dV kV doc pm an cdv ct), osl⟩) (hcd : PySem.W.codeIn K cdv qual = true) (S : FnScope N ps scope)
    (len : ∀ vs H Q E, sp vs H Q E → vs.length = ps.length)
    (hbody : ∀ (A : Around) (outer : List Env) (s : Shared) (H : Hp) (vs : List V) (Q : VK) (E : XK), Room k (A.deeper (envOfC qual scope s.heap.objs.size f cdv)) → sp vs H Q E →
      ∃ t, PSs (cxOf CX P w K mg base N qual scope f cdv A outer s H E) body t ∧ t { nx := fun _ H' => Q .non H', rt := Q } (start N vs) H) :
    FnOk P w K mg base CX (k + 1) f (PySem.W.fnOf name qual params body scope dV kV doc pm an cdv ct) ps sp := by
  refine ⟨len, fun A outer s H args us vs Q E hr e0 hb r hsp => ?_⟩
  have hl := len _ _ _ _ hsp
  have KX : K.In s.heap := e0.mod.kin.keeps fun b o e => (e0.bs b o e).1
  have lim : s.heap.NoLimit := e0.mod.nolimit.keeps fun b o e => (e0.bs b o e).1
  have hkind : ∀ y ∈ ps.zip us, scope.names.lookup y.1 = some .local ∨ (scope.names.lookup y.1 = some .cell ∧ ((cellsFrom (s.heap.objs.size + 1) scope.names []).lookup y.1).isSome = true) := fun ⟨n, v⟩ hy => by
    rcases S.par n (List.of_mem_zip hy).1 with q | q
    · exact .inl q
    · exact .inr ⟨q, PySem.W.cellsFrom_some _ _ _ (.inl q)⟩
  refine codeAny_call_function hr.depth (KX _ _ lk) rfl S.co S.gen rfl (PySem.W.codeRec_of KX hcd) (hb _ _ _ _ ?_)
  refine wpAny_newFunctionEnv_cells S.kind hkind fun env he s1 x => ?_
  subst he
  refine ⟨lim.keeps x.toInCall.keep, codeAny_func ?_⟩
  obtain ⟨t, ht, hq⟩ := hbody A outer s H vs Q E (hr.deeper _) hsp
  have I : Inv (cxOf CX P w K mg base N qual scope f cdv A outer s H E) [] (start N vs) H s1 := inv_start S hr.hd e0 hl r x
  refine wpAny_mono (ht [] s1 (start N vs) H _ I hq) (fun fl s' hs => ?_) fun e s' hs => hs
  have fin : ∀ {σ' : St} {H' : Hp} {v : V} {u : Value}, Inv (cxOf CX P w K mg base N qual scope f cdv A outer s H E) [] σ' H' s' → RelV v u → Q v H' → CE outer P w H s Q u s' :=
    fun {σ' H' v u} J rv q => ⟨v, H', J.os, J.bare, J.base, J.hok, rv, q⟩
  cases fl with
  | ret u =>
    obtain ⟨v, σ', H', J, rv, q⟩ := hs
    exact fin J rv q
  | next =>
    obtain ⟨σ', H', J, q⟩ := hs
    exact fin (v := V.non) (u := Value.none) J rfl q
  | brk =>
    obtain ⟨_, _, _, q⟩ := hs
    exact False.elim q
  | cont =>
    obtain ⟨_, _, _, q⟩ := hs
    exact False.elim q
end L2
namespace L2
open PySem PySem.Spec PyProof.Rows
section
variable {X : Cx} {x : Str} {p pos : Pos} {e : Expr} {es : List Expr} {t : TA} {id T : String} {r : List V → Hp → VK → Prop}
def tCB (r : List V → Hp → VK → Prop) (t : TA) : TE := fun σ H Q => t σ H fun vs H1 => r vs H1 Q
theorem pe_callB (hc : CallR X (.builtin id) r) (hg : Gl X x) (hm : X.mg x = none) (hv : bootBuiltins x = some (.builtin id)) (ha : PA X (e :: es) t) (hn : x ≠ "__name__" := by decide) (hdb : (x == ("__debug__" : Str)) = false := by decide)
    (he : starEach (e :: es) X.env = (false, eval e X.env) :: starEach es X.env := by rfl) (hpl : (backTo pos (starEach es X.env)).any (·.1) = false := by rfl) : PE X (.Call (.Name x p) (e :: es) [] pos) (tCB r t) := by
  intro pins s σ H Q I h
  refine wpAny_Call_Name_kw (ld_blt I hg hm hv ?_ hn hdb)
  exact PyProof.Rows.callWith_builtin1 (thn (ha pos pins s σ H _ I h) fun us s1 ⟨vs, H1, I1, r1, q1⟩ => hc pins s1 σ H1 vs us Q I1 r1 q1) he hpl
theorem pe_callTy (hc : CallR X (.type T) r) (hg : Gl X x) (hm : X.mg x = none) (hv : bootBuiltins x = some (.type T)) (ha : PA X (e :: es) t) (hn : x ≠ "__name__" := by decide) (hdb : (x == ("__debug__" : Str)) = false := by decide)
    (he : starEach (e :: es) X.env = (false, eval e X.env) :: starEach es X.env := by rfl) (hpl : (backTo pos (starEach es X.env)).any (·.1) = false := by rfl) : PE X (.Call (.Name x p) (e :: es) [] pos) (tCB r t) := by
  intro pins s σ H Q I h
  refine wpAny_Call_Name_kw (ld_blt I hg hm hv ?_ hn hdb)
  exact PyProof.Rows.callWith_type1 (thn (ha pos pins s σ H _ I h) fun us s1 ⟨vs, H1, I1, r1, q1⟩ => hc pins s1 σ H1 vs us Q I1 r1 q1) he hpl
end
end L2
namespace HT
open PySem PyProof.Rows
section
open PySem.SeqAt
open PySem.AutoSeq1 (wpAny_loadPart')
open PySem.MeetsSeq PySem.MeetsSeq2 PySem.MeetsSeq3
end
section
variable {prog : Program} {w : World} {A : Around} {E : Value → Shared → Prop} {s : Shared}
theorem cat_tup {t b : Addr} {vs ws : List Value} {Q : Value → Shared → Prop} (ht : IsTup s.heap t vs.toArray) (hb : IsTup s.heap b ws.toArray) (hv : vs ≠ [])
    (h1 : ws = [] → Q (.ref t) s) (h2 : ws ≠ [] → Q (.ref s.heap.objs.size) { s with heap := s.heap.push { cls := .type "tuple", data := .seq (vs ++ ws).toArray } })
    (hsz : vs.length + ws.length ≤ sizeLine) : wpAny (model prog w) A (binaryOp .Add (.ref t) (.ref b)) Q E s := by
  obtain ⟨⟨cls, dd, data, sl⟩, ho, hc, n, hd⟩ := id ht
  obtain ⟨⟨cls2, dd2, data2, sl2⟩, ho2, hc2, n2, hd2⟩ := id hb
  simp only at hc hd hc2 hd2
  subst hc hd hc2 hd2
  have e : vs.toArray ++ ws.toArray = (vs ++ ws).toArray := by simp
  by_cases hw : ws = []
  · exact concat_meets ⟨_, ho, rfl⟩ ⟨_, ho2, rfl⟩ noFill_tuple_add seq_tuple_add PySem.F.slot_tuple_add PySem.F.entry_tuple_add (PySem.F.args_tuple_add_2 _ _)
      (tuple_addW1 t b vs.toArray ws.toArray n n2 dd dd2 sl sl2 (by simpa using hv) (by simp [hw])) ⟨ho, ho2, h1 hw⟩
  · refine concat_meets ⟨_, ho, rfl⟩ ⟨_, ho2, rfl⟩ noFill_tuple_add seq_tuple_add PySem.F.slot_tuple_add PySem.F.entry_tuple_add (PySem.F.args_tuple_add_2 _ _)
      (tuple_addW2 t b vs.toArray ws.toArray n n2 dd dd2 sl sl2 (by simpa using hv) (by simpa using hw) (by rw [List.size_toArray, List.size_toArray]; exact hsz)) ⟨ho, ho2, ?_⟩
    rw [e]
    exact h2 hw
def sIx (n d : Nat) : Option Int → Nat
  | none => d
  | some v => if v < 0 then (v + (n : Int)).toNat else min v.toNat n
theorem sIx_le (n d : Nat) (hd : d ≤ n) (o : Option Int) : sIx n d o ≤ n := by
  cases o with
  | none => exact hd
  | some v =>
    show (if v < 0 then (v + (n : Int)).toNat else min v.toNat n) ≤ n
    by_cases hv : v < 0
    · rw [if_pos hv]; omega
    · rw [if_neg hv]; exact Nat.min_le_right _ _
theorem clip_eq (v : Int) (n d : Nat) : (if v < 0 then max (v + (n : Int)) 0 else min v (n : Int)) = ((sIx n d (some v) : Nat) : Int) := by
  show (if v < 0 then max (v + (n : Int)) 0 else min v (n : Int)) = (((if v < 0 then (v + (n : Int)).toNat else min v.toNat n) : Nat) : Int)
  by_cases hv : v < 0
  · simp only [if_pos hv]; omega
  · simp only [if_neg hv]; omega
theorem adjust_gen (lo hi : Option Int) (n : Nat) : Builtin.Slice.sliceAdjust lo hi 1 (n : Int) = (((sIx n 0 lo : Nat) : Int), ((sIx n n hi : Nat) : Int)) := by
  have h1 : ¬ ((1 : Int) < 0) := by omega
  unfold Builtin.Slice.sliceAdjust
  simp only [h1, if_false]
  refine Prod.ext ?_ ?_
  · cases lo with
    | none => rfl
    | some v => exact clip_eq v n 0
  · cases hi with
    | none => rfl
    | some v => exact clip_eq v n n
theorem places_gen (i j : Nat) : Builtin.Slice.slicePlaces (i : Int) (j : Int) 1 = j - i := by
  unfold Builtin.Slice.slicePlaces
  have h1 : (1 : Int) > 0 := by omega
  simp only [h1, if_true, Int.ediv_one]
  split <;> omega
theorem slicePart_ {v : Value} {o : Option Int} {Q : Option Int → Shared → Prop} (p : IsPart v o) (h : Q o s) : wpAny (model prog w) A (Builtin.Slice.slicePartIndex v) Q E s := by
  cases p with
  | none => exact slicePart_none h
  | int i t => exact slicePart_int h
theorem sliceApplied_gen {sl : Addr} {vl vu : Value} {lo hi : Option Int} {n : Nat} {Q : Int × Int × Nat → Shared → Prop} (hs : s.heap.IsSliceOf sl vl vu .none) (pl : IsPart vl lo) (pu : IsPart vu hi)
    (h : Q (((sIx n 0 lo : Nat) : Int), 1, sIx n n hi - sIx n 0 lo) s) : wpAny (model prog w) A (Builtin.Slice.sliceApplied (.ref sl) (pure (n : Int))) Q E s := by
  obtain ⟨os, hos, hcs, hds⟩ := id hs
  unfold Builtin.Slice.sliceApplied Builtin.Slice.sliceFields
  refine wpAny_bind (wpAny_bind (wpAny_field hos hds (x := vl) rfl (wpAny_bind (wpAny_field hos hds (x := vu) rfl (wpAny_bind (wpAny_field hos hds (x := .none) rfl (wpAny_pure ?_)))))))
  refine wpAny_bind (slicePart_none ?_)
  show wpAny _ _ (if ((1 : Int) == 0) = true then _ else _) _ _ s
  rw [if_neg (by decide)]
  refine wpAny_bind (slicePart_ pl (wpAny_bind (slicePart_ pu (wpAny_bind (wpAny_pure ?_)))))
  show wpAny _ _ (match Builtin.Slice.sliceAdjust lo hi 1 (n : Int) with | (lo, hi) => pure (lo, (1 : Int), Builtin.Slice.slicePlaces lo hi 1)) _ _ s
  rw [adjust_gen lo hi n]
  show wpAny _ _ (pure (((sIx n 0 lo : Nat) : Int), (1 : Int), Builtin.Slice.slicePlaces ((sIx n 0 lo : Nat) : Int) ((sIx n n hi : Nat) : Int) 1)) _ _ s
  rw [places_gen]
  exact wpAny_pure h
theorem pick_gen (xs : Array Value) (i k : Nat) : ((List.range k).filterMap fun (m : Nat) => xs[((i : Int) + (m : Int) * 1).toNat]?).toArray = ((xs.toList.drop i).take k).toArray := by
  have e : (fun (m : Nat) => xs[((i : Int) + (m : Int) * 1).toNat]?) = fun m => xs[i + m]? := by
    funext m
    have : ((i : Int) + (m : Int) * 1).toNat = i + m := by omega
    rw [this]
  rw [e]
  have := pick_run xs i k
  rw [List.filterMap_map] at this
  have e2 : ((fun x => xs[x]?) ∘ fun x => i + x) = fun m => xs[i + m]? := rfl
  rw [e2] at this
  rw [this]
theorem getItem_tuple_cut {t sl : Addr} {items : Array Value} {vl vu : Value} {lo hi : Option Int} {Q : Value → Shared → Prop} (ht : IsTup s.heap t items) (hs : s.heap.IsSliceOf sl vl vu .none) (pl : IsPart vl lo) (pu : IsPart vu hi)
    (hw : ¬ (sIx items.size 0 lo = 0 ∧ sIx items.size items.size hi = items.size))
    (h : Q (.ref s.heap.objs.size) { s with heap := s.heap.push { cls := .type "tuple", data := .seq ((items.toList.drop (sIx items.size 0 lo)).take (sIx items.size items.size hi - sIx items.size 0 lo)).toArray } })
    (hsz : items.size ≤ sizeLine) : wpAny (model prog w) A (getItem (.ref t) (.ref sl)) Q E s := by
  have htake : sizeOk (.seq ((items.toList.drop (sIx items.size 0 lo)).take (sIx items.size items.size hi - sIx items.size 0 lo)).toArray) := by
    show ((items.toList.drop (sIx items.size 0 lo)).take (sIx items.size items.size hi - sIx items.size 0 lo)).toArray.size ≤ sizeLine
    rw [List.size_toArray, List.length_take, List.length_drop, Array.length_toList]
    omega
  have hj : sIx items.size items.size hi ≤ items.size := sIx_le _ _ (Nat.le_refl _) hi
  obtain ⟨os, hos, hcs, hds⟩ := id hs
  have hTs : s.TypeIs (.ref sl) "slice" := ⟨os, hos, hcs⟩
  unfold getItem
  try with_reducible refine wpAny_holding ?_
  first | refine wpAny_bind (wpAny_pure ?_) | skip
  refine wpAny_bind (wpAny_sequenceKey ht.typeIs (by decide) ?_)
  refine wpAny_bind (wpAny_callSpecial?_slot (name := Str.ofString "__getitem__") ht.typeIs PyProof.Rows.slot_tuple_getitem
    (wpAny_call_entry PyProof.Rows.slot_tuple_getitem ht.typeIs entry_tuple_getitem ?_ (args_tuple_getitem _ _)))
  show wpAny _ _ (Builtin.Tuple.tupleItemsOf (.ref t) >>= _) _ _ s
  refine wpAny_bind (tupleItemsOf_ ht ?_)
  refine wpAny_bind (wpAny_typeOf hTs ?_)
  rw [if_pos (by decide)]
  refine wpAny_bind (sliceApplied_gen hs pl pu ?_)
  have hno : ¬ ((((sIx items.size 0 lo : Nat) : Int) == 0 && (1 : Int) == 1 && (sIx items.size items.size hi - sIx items.size 0 lo) == items.size) = true) := by
    intro q
    rw [Bool.and_eq_true, Bool.and_eq_true] at q
    have q1 : ((sIx items.size 0 lo : Nat) : Int) = 0 := eq_of_beq q.1.1
    have q2 : sIx items.size items.size hi - sIx items.size 0 lo = items.size := eq_of_beq q.2
    exact hw ⟨by omega, by omega⟩
  show wpAny _ _ (if (((sIx items.size 0 lo : Nat) : Int) == 0 && (1 : Int) == 1 && (sIx items.size items.size hi - sIx items.size 0 lo) == items.size) = true then _ else _) _ _ s
  rw [if_neg hno, pick_gen]
  first
    | exact wpAny_bind (m := Builtin.Tuple.tupleExact _) (wpAny_newObj_type (wpAny_pure ⟨_, rfl, wpAny_pure h⟩) htake)
    | exact wpAny_bind (m := Builtin.Tuple.tupleExact _) (wpAny_newObj_type (wpAny_bind (wpAny_pure (wpAny_pure ⟨_, rfl, wpAny_pure h⟩))) htake)
    | exact wpAny_bind (wpAny_bind (m := Builtin.Tuple.tupleExact _) (wpAny_newObj_type (wpAny_pure (wpAny_pure ⟨_, rfl, wpAny_pure h⟩)) htake))
    | exact wpAny_bind (wpAny_bind (m := Builtin.Tuple.tupleExact _) (wpAny_newObj_type (wpAny_pure ⟨_, rfl, wpAny_pure h⟩) htake))
end
end HT
namespace L2
open PySem PySem.Spec PyProof.Rows
abbrev TO := St → Hp → (Option Int → Hp → Prop) → Prop
def PO (X : Cx) (e : Option Expr) (t : TO) : Prop :=
  ∀ (pins : List (Addr × Obj)) (s : Shared) (σ : St) (H : Hp) (Q : Option Int → Hp → Prop), Inv X pins σ H s → t σ H Q →
    wpAny (model X.prog X.w) X.A (evalPart e X.env) (fun u s' => ∃ o H', Inv X pins σ H' s' ∧ IsPart u o ∧ Q o H') X.xe s
def tPart (t : TE) : TO := fun σ H Q => t σ H fun x H1 => ∃ i, x = .int i ∧ Q (some i) H1
section
variable {X : Cx} {e : Expr} {te : TE} {lo hi : Option Expr} {tl th : TO} {pos p2 : Pos}
theorem po_some (h : PE X e te) : PO X (some e) (tPart te) := by
  intro pins s σ H Q I hw
  rw [evalPart_some]
  refine thn (h pins s σ H _ I hw) fun u s1 ⟨x, H1, I1, r1, q1⟩ => ?_
  obtain ⟨i, rfl, q⟩ := q1
  obtain ⟨t, rfl⟩ := r1
  exact ⟨some i, H1, I1, .int i t, q⟩
def SlR (X : Cx) (r : V → Option Int → Option Int → Hp → VK → Prop) : Prop :=
  ∀ (pins : List (Addr × Obj)) (s : Shared) (σ : St) (H : Hp) (x : V) (v vl vu : Value) (lo hi : Option Int) (sl : Addr) (Q : VK), Inv X pins σ H s → RelV x v → s.heap.IsSliceOf sl vl vu .none → IsPart vl lo → IsPart vu hi → r x lo hi H Q →
    ∃ T id, typeLookup (.type T) "__getitem__" = pure (some (.builtin id)) ∧ s.TypeIs v T ∧ wpAny (model X.prog X.w) X.A (getItem v (.ref sl)) (EP X pins σ Q) X.xe s
def tSl (r : V → Option Int → Option Int → Hp → VK → Prop) (te : TE) (tl th : TO) : TE := fun σ H Q => te σ H fun x H1 => tl σ H1 fun l H2 => th σ H2 fun u H3 => r x l u H3 Q
theorem pe_slice {r : V → Option Int → Option Int → Hp → VK → Prop} (hr : SlR X r) (he : PE X e te) (hl : PO X lo tl) (hu : PO X hi th) : PE X (.Subscript e (.Slice lo hi none p2) pos) (tSl r te tl th) := by
  intro pins s σ H Q I h
  refine Subscript_ (thn (he pins s σ H _ I h) fun v s1 ⟨x, H1, I1, r1, q1⟩ => ?_)
  refine wpAny_Slice (thn (hl pins s1 σ H1 _ I1 q1) fun vl s2 ⟨l, H2, I2, pl, q2⟩ => thn (hu pins s2 σ H2 _ I2 q2) fun vu s3 ⟨u, H3, I3, pu, q3⟩ => ?_)
  rw [evalPart_none]
  refine wpAny_pure ?_
  have I4 : Inv X pins σ H3 { s3 with heap := s3.heap.push { cls := .type "slice", data := .fields #[vl, vu, .none] } } := I3.kept (t' := s3.toks) fun b ob q => Heap.get?_push_of_some _ q
  obtain ⟨T, id, hT, ht, hg⟩ := hr pins { s3 with heap := s3.heap.push { cls := .type "slice", data := .fields #[vl, vu, .none] } } σ H3 x v vl vu l u s3.heap.objs.size Q I4 r1 (Heap.IsSliceOf.new ..) pl pu q3
  show wpAny (model X.prog X.w) X.A (subscriptTail e (.Slice lo hi none p2) v (.ref s3.heap.objs.size)) (EP X pins σ Q) X.xe { s3 with heap := s3.heap.push { cls := .type "slice", data := .fields #[vl, vu, .none] } }
  exact tail_any (ops := [.ref s3.heap.objs.size, v]) ht hT hg (by with_unfolding_all rfl)
def cutV (xs : List V) (lo hi : Option Int) : List V := (xs.drop (HT.sIx xs.length 0 lo)).take (HT.sIx xs.length xs.length hi - HT.sIx xs.length 0 lo)
theorem cutV_length (xs : List V) (lo hi : Option Int) : (cutV xs lo hi).length ≤ xs.length := by
  unfold cutV
  rw [List.length_take, List.length_drop]
  omega
def rSlT (K : PySem.W.Frag) : V → Option Int → Option Int → Hp → VK → Prop := fun x lo hi H Q => ∃ a xs, x = .ref a ∧ SqT K H a xs ∧
  ¬ (HT.sIx xs.length 0 lo = 0 ∧ HT.sIx xs.length xs.length hi = xs.length) ∧ ∀ p, H p = none → Q (.ref p) (upd H p (.tup (cutV xs lo hi)))
theorem sl_tup : SlR X (rSlT X.K) := by
  intro pins s σ H x v vl vu lo hi sl Q I rx hs pl pu h
  obtain ⟨a, xs, rfl, hx, hw, q⟩ := h
  cases rx
  obtain ⟨its, r, ht, hz⟩ := I.tuple hx
  have hlen : its.toArray.size = xs.length := by rw [List.size_toArray]; exact r.length.symm
  refine ⟨"tuple", _, PyProof.Rows.slot_tuple_getitem.lookup, ht.typeIs, ?_⟩
  refine HT.getItem_tuple_cut ht hs pl pu (by rw [hlen]; exact hw) ?_ (by rw [hlen]; exact hz)
  rw [hlen]
  refine ⟨.ref s.heap.objs.size, _, I.laid (t' := s.toks) (o := .tup (cutV xs lo hi)) (fun b ob q => Heap.get?_push_of_some _ q) (Nat.le_refl _) ?_, rfl, q _ (I.hok.fresh (Nat.le_refl _))⟩
  exact ⟨Nat.le_trans (cutV_length xs lo hi) hz, _, (r.drop (HT.sIx xs.length 0 lo)).take (HT.sIx xs.length xs.length hi - HT.sIx xs.length 0 lo), IsTupN.new _ _⟩
def rCatT (K : PySem.W.Frag) : R2 := fun x y H Q => ∃ a b xs ys, x = .ref a ∧ y = .ref b ∧ SqT K H a xs ∧ SqT K H b ys ∧ xs ≠ [] ∧ xs.length + ys.length ≤ sizeLine ∧
  (ys = [] → Q (.ref a) H) ∧ (ys ≠ [] → ∀ p, H p = none → Q (.ref p) (upd H p (.tup (xs ++ ys))))
theorem Vals.nil_iff {xs : List V} {us : List Value} (r : Vals xs us) : us = [] ↔ xs = [] := by
  cases r with
  | nil => simp
  | cons _ _ => simp
theorem op_catT : OpR X (binaryOp .Add) (rCatT X.K) := by
  intro pins s σ H x y v u Q I rx ry h
  obtain ⟨a, b, xs, ys, rfl, rfl, ha, hb, hx, hz, q1, q2⟩ := h
  cases rx
  cases ry
  obtain ⟨its, r1, p1, _⟩ := I.tuple ha
  obtain ⟨its2, r2, p2, _⟩ := I.tuple hb
  refine HT.cat_tup p1 p2 (fun z => hx (r1.nil_iff.mp z)) (fun z => ⟨.ref a, H, I, rfl, q1 (r2.nil_iff.mp z)⟩) (fun z => ?_) (by rw [← r1.length, ← r2.length]; exact hz)
  refine ⟨.ref s.heap.objs.size, _, I.laid (t' := s.toks) (o := .tup (xs ++ ys)) (fun b ob q => Heap.get?_push_of_some _ q) (Nat.le_refl _) ?_, rfl, q2 (fun w => z (r2.nil_iff.mpr w)) _ (I.hok.fresh (Nat.le_refl _))⟩
  exact ⟨by rw [List.length_append]; exact hz, _, r1.append r2, IsTupN.new _ _⟩
end
end L2
namespace L2
open PySem PySem.Spec PyProof.Rows
def ixN (n : Nat) (i : Int) : Option Nat := if 0 ≤ i then (if i < n then some i.toNat else none) else if -(n : Int) ≤ i then some (i + n).toNat else none
def atI {α : Type} (xs : List α) (i : Int) : Option α := (ixN xs.length i).bind fun j => xs[j]?
theorem ixN_seq {n : Nat} {i : Int} {j : Nat} (h : ixN n i = some j) : seqIndex? i n = some j ∧ j < n ∧ -(n : Int) ≤ i ∧ i < n := by
  unfold ixN at h
  by_cases h0 : 0 ≤ i
  · rw [if_pos h0] at h
    by_cases h1 : i < n
    · rw [if_pos h1] at h
      have e : i.toNat = j := Option.some.inj h
      exact ⟨by rw [seqIndex_of h0 h1, e], by omega, by omega, h1⟩
    · rw [if_neg h1] at h; cases h
  · rw [if_neg h0] at h
    by_cases h1 : -(n : Int) ≤ i
    · rw [if_pos h1] at h
      have e : (i + n).toNat = j := Option.some.inj h
      exact ⟨by rw [seqIndex_neg (by omega) h1, e], by omega, h1, by omega⟩
    · rw [if_neg h1] at h; cases h
theorem atI_get {α : Type} {xs : List α} {i : Int} {v : α} (h : atI xs i = some v) : ∃ j, seqIndex? i xs.length = some j ∧ xs[j]? = some v ∧ j < xs.length ∧ -(xs.length : Int) ≤ i ∧ i < xs.length := by
  unfold atI at h
  cases e : ixN xs.length i with
  | none => rw [e] at h; cases h
  | some j =>
    rw [e] at h
    obtain ⟨h1, h2, h3, h4⟩ := ixN_seq e
    exact ⟨j, h1, h, h2, h3, h4⟩
theorem atI_nat {α : Type} {xs : List α} {j : Nat} {v : α} (h : xs[j]? = some v) : atI xs (j : Int) = some v := by
  have hj : j < xs.length := (List.getElem?_eq_some_iff.mp h).1
  have e : ixN xs.length (j : Int) = some j := by
    unfold ixN
    rw [if_pos (by omega), if_pos (by omega)]; simp
  unfold atI; rw [e]; exact h
def PlainIx (b : Expr) : Prop := ∀ o i, subscripted b false o i = operate [o, i] (getItem o i)
def IxR (X : Cx) (r : R2) : Prop :=
  ∀ (value slice : Expr) (pins : List (Addr × Obj)) (s : Shared) (σ : St) (H : Hp) (x y : V) (v u : Value) (Q : VK), Inv X pins σ H s → RelV x v → RelV y u → r x y H Q →
    subscripted slice false v u = operate [v, u] (getItem v u) → wpAny (model X.prog X.w) X.A (subscriptTail value slice v u) (EP X pins σ Q) X.xe s
def MtR (X : Cx) (id : String) (r : V → List V → Hp → VK → Prop) : Prop :=
  ∀ (pins : List (Addr × Obj)) (s : Shared) (σ : St) (H : Hp) (x : V) (xs : List V) (v : Value) (us : List Value) (Q : VK), Inv X pins σ H s → RelV x v → Vals xs us → r x xs H Q →
    wpAny (model X.prog X.w) X.A (call (.builtin id) (v :: us)) (EP X pins σ Q) X.xe s
section
variable {X : Cx} {a b : Expr} {ta tb : TE} {pos : Pos}
theorem pe_ix {r : R2} (hr : IxR X r) (ha : PE X a ta) (hb : PE X b tb) (hs : PlainIx b) : PE X (.Subscript a b pos) (tOp r ta tb) := by
  intro pins s σ H Q I h
  exact Subscript_ (binT ha hb I h fun v u s2 x y H2 I2 rx ry q => hr a b pins s2 σ H2 x y v u Q I2 rx ry q (hs _ _))
def rIxL (K : PySem.W.Frag) : R2 := fun x y H Q => ∃ p xs i v, x = .ref p ∧ y = .int i ∧ SqL K H p xs ∧ atI xs i = some v ∧ Q v H
def rIxT (K : PySem.W.Frag) : R2 := fun x y H Q => ∃ p xs i v, x = .ref p ∧ y = .int i ∧ SqT K H p xs ∧ atI xs i = some v ∧ Q v H
def rIxS : R2 := fun x y H Q => ∃ z i c, x = .str z ∧ y = .int i ∧ z.length ≤ sizeLine ∧ atI z.cps.toList i = some c ∧ Q (.str ⟨#[c]⟩) H
theorem ix_list : IxR X (rIxL X.K) := by
  intro value slice pins s σ H x y v u Q I rx ry h hs
  obtain ⟨p, xs, i, z, rfl, rfl, hq, he, q⟩ := h
  cases rx
  obtain ⟨t, rfl⟩ := ry
  obtain ⟨its, r, pl, hz⟩ := I.list hq
  obtain ⟨j, h1, h2, h3, h4, h5⟩ := atI_get he
  obtain ⟨w, ew, rw'⟩ := r.get h2
  have hl := r.length
  have hn := line63
  have fin : EP X pins σ Q w s := ⟨z, H, I, rw', q⟩
  by_cases h0 : 0 ≤ i
  · have hj : i.toNat = j := by
      rw [seqIndex_of h0 h5] at h1
      exact Option.some.inj h1
    exact item_listR pl.isList h0 (by omega) (by rw [hj]; simpa using ew) fin hs
  · have hj : (i + (its.toArray.size : Int)).toNat = j := by
      rw [seqIndex_neg (by omega) h4] at h1
      rw [List.size_toArray, ← hl]
      exact Option.some.inj h1
    exact subscriptTail_builtinR (x := w) pl.isList.typeIs slot_list_getitem.lookup
      (wpAny_getItem_list_neg (Q := fun r s' => r = w ∧ EP X pins σ Q r s') pl.isList (by omega) (by rw [List.size_toArray] <;> omega) (by omega) (by rw [hj]; simpa using ew) ⟨rfl, fin⟩) hs
theorem ix_tup : IxR X (rIxT X.K) := by
  intro value slice pins s σ H x y v u Q I rx ry h hs
  obtain ⟨p, xs, i, z, rfl, rfl, hq, he, q⟩ := h
  cases rx
  obtain ⟨t, rfl⟩ := ry
  obtain ⟨its, r, pl, hz⟩ := I.tuple hq
  obtain ⟨j, h1, h2, h3, h4, h5⟩ := atI_get he
  obtain ⟨w, ew, rw'⟩ := r.get h2
  have hl := r.length
  have hn := line63
  have fin : EP X pins σ Q w s := ⟨z, H, I, rw', q⟩
  exact subscriptTail_builtinR (x := w) pl.typeIs slot_tuple_getitem.lookup
    (getItem_tuple (j := j) (Q := fun r s' => r = w ∧ EP X pins σ Q r s') pl (by omega) (by omega) (by rw [List.size_toArray, ← hl]; exact h1) (by simpa using ew) ⟨rfl, fin⟩) hs
theorem ix_str : IxR X rIxS := by
  intro value slice pins s σ H x y v u Q I rx ry h hs
  obtain ⟨z, i, c, rfl, rfl, hz, he, q⟩ := h
  obtain ⟨t, rfl⟩ := rx
  obtain ⟨t', rfl⟩ := ry
  obtain ⟨j, h1, h2, h3, h4, h5⟩ := atI_get he
  have hl : z.cps.toList.length = z.length := by simp [Str.length]
  rw [hl] at h1 h4 h5
  have hn := line63
  exact tail_any (typeIs_str s z t) slot_str_getitem.lookup (getItem_str (c := c) (by
    have e1 : decide (i < -(2 ^ 63 : Int)) = false := decide_eq_false (by omega)
    have e2 : decide (i ≥ 2 ^ 63) = false := decide_eq_false (by omega)
    rw [e1, e2, Bool.or_false]) (by rw [h1]; simpa using h2) ⟨.str ⟨#[c]⟩, H, I.tok _, ⟨_, rfl⟩, q⟩) hs
theorem mapSeq_set (its : List Value) (n j : Nat) (u : Value) : Obj.mapSeq (·.setIfInBounds j u) { cls := .type "list", data := .seq its.toArray n } = { cls := .type "list", data := .seq (its.set j u).toArray n } := by
  simp [Obj.mapSeq]
theorem Inv.lst {pins : List (Addr × Obj)} {σ : St} {H : Hp} {s : Shared} {p : Addr} {xs : List V} (I : Inv X pins σ H s) (h : H p = some (.lst xs)) :
    ∃ (its : List Value) (n : Nat), Vals xs its ∧ s.heap.get? p = some { cls := .type "list", data := .seq its.toArray n } ∧ xs.length ≤ sizeLine := by
  obtain ⟨z, its, n, r, e⟩ := I.hok p _ h
  exact ⟨its, n, r, e, z⟩
theorem Inv.lstUpd {pins : List (Addr × Obj)} {σ : St} {H : Hp} {s : Shared} {p : Addr} {xs ys : List V} {its its' : List Value} {n n' : Nat} {f : Obj → Obj} (I : Inv X pins σ H s) (h : H p = some (.lst xs))
    (ho : s.heap.get? p = some { cls := .type "list", data := .seq its.toArray n }) (hf : f { cls := .type "list", data := .seq its.toArray n } = { cls := .type "list", data := .seq its'.toArray n' }) (r : Vals ys its') (hz : ys.length ≤ sizeLine) (t : Nat) :
    Inv X pins σ (upd H p (.lst ys)) { s with heap := s.heap.update p f, toks := t } := by
  have e : (s.heap.update p f).get? p = some { cls := .type "list", data := .seq its'.toArray n' } := by
    rw [Heap.get?_update_self f ho (by rw [hf] <;> rfl), hf]
  refine I.write (x := p) (e := p) (by rw [h]; trivial) (.inl rfl) (fun b u hb q => (Heap.get?_update_other _ _ (Ne.symm hb)).trans q) ⟨_, e⟩ ?_
  exact ⟨hz, its', n', r, e⟩
def rSetL : V → V → V → Hp → (Hp → Prop) → Prop := fun o i v H Q => ∃ p xs k j, o = .ref p ∧ i = .int k ∧ H p = some (.lst xs) ∧ ixN xs.length k = some j ∧ Q (upd H p (.lst (xs.set j v)))
theorem set_list : PSet X rSetL := by
  intro pins s σ H o i v ov iv u Q I ro ri rv h
  obtain ⟨p, xs, k, j, rfl, rfl, hp, hj, q⟩ := h
  cases ro
  obtain ⟨t, rfl⟩ := ri
  obtain ⟨its, n, r, ho, hz⟩ := I.lst hp
  obtain ⟨h1, h2, h3, h4⟩ := ixN_seq hj
  have hl := r.length
  have hn := line63
  have I' : Inv X pins σ (upd H p (.lst (xs.set j v))) { s with heap := s.heap.update p (Obj.mapSeq (·.setIfInBounds j u)) } :=
    I.lstUpd hp ho (mapSeq_set its n j u) (r.set rv j) (by rw [List.length_set]; exact hz) s.toks
  by_cases h0 : 0 ≤ k
  · have hk : k.toNat = j := by
      rw [seqIndex_of h0 h4] at h1
      exact Option.some.inj h1
    exact PySem.W.ki_setAt ho h0 (by omega) (by rw [List.size_toArray, ← hl]; exact h4) (by rw [hk]; exact ⟨_, I', q⟩)
  · have hk : (k + (its.toArray.size : Int)).toNat = j := by
      rw [seqIndex_neg (by omega) h3] at h1
      rw [List.size_toArray, ← hl]
      exact Option.some.inj h1
    exact PySem.W.ki_setBack ho (by omega) (by rw [List.size_toArray, ← hl]; exact h3) (by omega) (by rw [hk]; exact ⟨_, I', q⟩)
theorem slice_bounds (lo hi : Option Int) (n : Nat) : (sliceBounds lo hi none n).1 = ((HT.sIx n 0 lo : Nat) : Int) ∧ (sliceBounds lo hi none n).2.1 = ((HT.sIx n n hi : Nat) : Int) ∧ (sliceBounds lo hi none n).2.2 = 1 := by
  refine ⟨?_, ?_, rfl⟩
  · cases lo with
    | none => simp [sliceBounds, HT.sIx]
    | some i =>
      simp only [sliceBounds, HT.sIx, Option.getD_none, show (1 : Int) > 0 by decide, if_true]
      by_cases h : i < 0
      · simp only [h, if_true] <;> omega
      · simp only [h, if_false] <;> omega
  · cases hi with
    | none => simp [sliceBounds, HT.sIx]
    | some i =>
      simp only [sliceBounds, HT.sIx, Option.getD_none, show (1 : Int) > 0 by decide, if_true]
      by_cases h : i < 0
      · simp only [h, if_true] <;> omega
      · simp only [h, if_false] <;> omega
theorem slicePick_cut (its : List Value) (lo hi : Option Int) : slicePick its.toArray lo hi none = ((its.drop (HT.sIx its.length 0 lo)).take (HT.sIx its.length its.length hi - HT.sIx its.length 0 lo)).toArray := by
  obtain ⟨h1, h2, h3⟩ := slice_bounds lo hi its.toArray.size
  unfold slicePick
  rw [h1, h2, h3]
  simp only [sliceRange_one, pick_run, List.size_toArray] <;> rfl
def rSlL (K : PySem.W.Frag) : V → Option Int → Option Int → Hp → VK → Prop := fun x lo hi H Q => ∃ a xs, x = .ref a ∧ SqL K H a xs ∧ ∀ p, H p = none → Q (.ref p) (upd H p (.lst (cutV xs lo hi)))
theorem sl_list : SlR X (rSlL X.K) := by
  intro pins s σ H x v vl vu lo hi sl Q I rx hs pl pu h
  obtain ⟨a, xs, rfl, hx, q⟩ := h
  cases rx
  obtain ⟨its, r, ht, hz⟩ := I.list hx
  have hlen := r.length
  refine ⟨"list", _, slot_list_getitem.lookup, ht.isList.typeIs, ?_⟩
  refine wpAny_getItem_list_slice ht.isList hs pl pu .none (by simp) ?_ (by rw [List.size_toArray] <;> omega)
  rw [slicePick_cut, ← hlen]
  refine ⟨.ref s.heap.objs.size, _, I.laid (t' := s.toks) (o := .lst (cutV xs lo hi)) (fun b ob q => Heap.get?_push_of_some _ q) (Nat.le_refl _) ?_, rfl, q _ (I.hok.fresh (Nat.le_refl _))⟩
  exact ⟨Nat.le_trans (cutV_length xs lo hi) hz, _, 0, (r.drop (HT.sIx xs.length 0 lo)).take (HT.sIx xs.length xs.length hi - HT.sIx xs.length 0 lo), Heap.get?_push_size _ rfl⟩
def flatV : V → Bool
  | .non => true
  | .bl _ => true
  | .int _ => true
  | .str _ => true
  | _ => false
def eqV : V → V → Bool
  | .non, .non => true
  | .bl a, .bl b => a == b
  | .bl a, .int b => (if a then 1 else 0) == b
  | .int a, .bl b => a == (if b then 1 else 0)
  | .int a, .int b => a == b
  | .str a, .str b => a == b
  | _, _ => false
theorem eqAt_V {A : Around} {s : Shared} {y x : V} {u v : Value} (ry : RelV y u) (rx : RelV x v) (fy : flatV y = true) (fx : flatV x = true) : SeqAt.EqAt A s u v (eqV y x) := by
  cases y with
  | non =>
    cases ry
    cases x with
    | non => cases rx; exact SeqAt.EqAt.same _
    | bl b => cases rx; exact SeqAt.EqAt.none_bool b
    | int b => obtain ⟨t, rfl⟩ := rx; exact SeqAt.EqAt.none_int b t
    | str b => obtain ⟨t, rfl⟩ := rx; exact SeqAt.EqAt.none_str b t
    | _ => exact absurd (show false = true from fx) Bool.false_ne_true
  | bl a =>
    cases ry
    cases x with
    | non => cases rx; exact SeqAt.EqAt.bool_none a
    | bl b => cases rx; exact SeqAt.EqAt.bool_bool a b
    | int b => obtain ⟨t, rfl⟩ := rx; exact SeqAt.EqAt.bool_int a b t
    | str b => obtain ⟨t, rfl⟩ := rx; exact SeqAt.EqAt.bool_str a b t
    | _ => exact absurd (show false = true from fx) Bool.false_ne_true
  | int a =>
    obtain ⟨t', rfl⟩ := ry
    cases x with
    | non => cases rx; exact SeqAt.EqAt.int_none a t'
    | bl b => cases rx; exact SeqAt.EqAt.int_bool a t' b
    | int b => obtain ⟨t, rfl⟩ := rx; exact SeqAt.EqAt.int_int a t' b t
    | str b => obtain ⟨t, rfl⟩ := rx; exact SeqAt.EqAt.int_str a t' b t
    | _ => exact absurd (show false = true from fx) Bool.false_ne_true
  | str a =>
    obtain ⟨t', rfl⟩ := ry
    cases x with
    | non => cases rx; exact SeqAt.EqAt.str_none a t'
    | bl b => cases rx; exact SeqAt.EqAt.str_bool a t' b
    | int b => obtain ⟨t, rfl⟩ := rx; exact SeqAt.EqAt.str_int a t' b t
    | str b => obtain ⟨t, rfl⟩ := rx; exact SeqAt.EqAt.str_str a t' b t
    | _ => exact absurd (show false = true from fx) Bool.false_ne_true
  | _ => exact absurd (show false = true from fy) Bool.false_ne_true
def eqU (x : V) (u : Value) : Bool := match u with
  | .none => eqV .non x
  | .bool b => eqV (.bl b) x
  | .int i _ => eqV (.int i) x
  | .str z _ => eqV (.str z) x
  | _ => false
theorem eqU_of {x y : V} {u : Value} (r : RelV y u) (f : flatV y = true) : eqU x u = eqV y x := by
  cases y with
  | non => cases r; rfl
  | bl b => cases r; rfl
  | int i => obtain ⟨t, rfl⟩ := r; rfl
  | str z => obtain ⟨t, rfl⟩ := r; rfl
  | _ => exact absurd (show false = true from f) Bool.false_ne_true
theorem any_eqU {x : V} : ∀ {xs : List V} {us : List Value}, Vals xs us → xs.all flatV = true → us.any (eqU x) = xs.any fun y => eqV y x
  | _, _, .nil, _ => rfl
  | y :: xs, u :: us, .cons r t, f => by
    rw [List.all_cons, Bool.and_eq_true] at f
    rw [List.any_cons, List.any_cons, eqU_of r f.1, any_eqU t f.2]
theorem mem_eqAt {A : Around} {s : Shared} {x : V} {v : Value} (rx : RelV x v) (fx : flatV x = true) : ∀ {xs : List V} {us : List Value}, Vals xs us → xs.all flatV = true → ∀ u ∈ us, SeqAt.EqAt A s u v (eqU x u)
  | _, _, .nil, _ => fun u hu => by cases hu
  | y :: xs, u :: us, .cons r t, f => fun u' hu => by
    rw [List.all_cons, Bool.and_eq_true] at f
    rcases List.mem_cons.mp hu with rfl | hu
    · rw [eqU_of r f.1]; exact eqAt_V r rx f.1 fx
    · exact mem_eqAt rx fx t f.2 u' hu
def inV (x : V) (xs : List V) : Bool := xs.any fun y => eqV y x
def rIn (K : PySem.W.Frag) (neg : Bool) : R2 := fun x y H Q => ∃ p xs, y = .ref p ∧ (SqL K H p xs ∨ SqT K H p xs) ∧ flatV x = true ∧ xs.all flatV = true ∧ Q (.bl (if neg then !inV x xs else inV x xs)) H
theorem op_in_seq : OpR X (compareOp .In) (rIn X.K false) := by
  intro pins s σ H x y v u Q I rx ry h
  obtain ⟨p, xs, rfl, hq, fx, fs, q⟩ := h
  cases ry
  rcases hq with hq | hq
  · obtain ⟨its, r, pl, hz⟩ := I.list hq
    refine SeqAt.in_listAt (eqU x) pl.isList (fun w hw => mem_eqAt rx fx r fs w (by simpa using hw)) ⟨.bl _, H, I, rfl, ?_⟩
    rw [show its.toArray.any (eqU x) = its.any (eqU x) by simp, any_eqU r fs]
    exact q
  · obtain ⟨its, r, pl, hz⟩ := I.tuple hq
    refine SeqAt.in_tupleAt (eqU x) pl (fun w hw => mem_eqAt rx fx r fs w (by simpa using hw)) ⟨.bl _, H, I, rfl, ?_⟩
    rw [show its.toArray.any (eqU x) = its.any (eqU x) by simp, any_eqU r fs]
    exact q
theorem call_list_of : CallR X (.type "list") (fun xs H Q => ∃ p ys, xs = [.ref p] ∧ (SqL X.K H p ys ∨ SqT X.K H p ys) ∧ ∀ l, H l = none → Q (.ref l) (upd H l (.lst ys))) := by
  intro pins s σ H xs us Q I r h
  obtain ⟨p, ys, rfl, hq, q⟩ := h
  obtain ⟨u, rfl, rx⟩ := vals1 r
  cases rx
  have fin : ∀ (its : List Value), Vals ys its → ys.length ≤ sizeLine → ∀ (h' : Heap) (c' : Nat), (∀ b o', s.heap.get? b = some o' → h'.get? b = some o') →
      h'.get? s.heap.objs.size = some { cls := .type "list", dict := none, data := .seq its.toArray c', slots := #[] } → EP X pins σ Q (.ref s.heap.objs.size) { s with heap := h' } := fun its r' hz h' c' kp e =>
    ⟨.ref s.heap.objs.size, _, I.laid (t' := s.toks) kp (Nat.le_refl _) (show ObjOk X.prog X.w _ h' _ (.lst ys) from ⟨hz, its, c', r', e⟩), rfl, q _ (I.hok.fresh (Nat.le_refl _))⟩
  rcases hq with hq | hq
  · obtain ⟨its, r', pl, hz⟩ := I.list hq
    have hlen := r'.length
    obtain ⟨o, ho, hc, n, hd⟩ := pl.isList
    exact call_list_seq p (.inl rfl) ho hc hd (fun h' c' kp e => fin its r' hz h' c' kp e) (by simp only [List.size_toArray] <;> omega)
  · obtain ⟨its, r', pl, hz⟩ := I.tuple hq
    have hlen := r'.length
    obtain ⟨o, ho, hc, n, hd⟩ := pl
    exact call_list_seq p (.inr rfl) ho hc hd (fun h' c' kp e => fin its r' hz h' c' kp e) (by simp only [List.size_toArray] <;> omega)
theorem call_tuple_of : CallR X (.type "tuple") (fun xs H Q => ∃ p ys, xs = [.ref p] ∧ ((SqL X.K H p ys ∧ ∀ l, H l = none → Q (.ref l) (upd H l (.tup ys))) ∨ (SqT X.K H p ys ∧ Q (.ref p) H))) := by
  intro pins s σ H xs us Q I r h
  obtain ⟨p, ys, rfl, h⟩ := h
  obtain ⟨u, rfl, rx⟩ := vals1 r
  cases rx
  rcases h with ⟨hq, q⟩ | ⟨hq, q⟩
  · obtain ⟨its, r', pl, hz⟩ := I.list hq
    have hlen := r'.length
    refine call_tuple_list pl.isList (fun h' kp => ?_) (by simp only [List.size_toArray] <;> omega)
    have I1 : Inv X pins σ H { s with heap := h' } := I.kept (t' := s.toks) kp
    have I2 : Inv X pins σ (upd H h'.objs.size (.tup ys)) { s with heap := h'.push { cls := .type "tuple", data := .seq its.toArray } } :=
      I1.laid (t' := s.toks) (fun b o e => Heap.get?_push_of_some _ e) (Nat.le_refl _) (show ObjOk X.prog X.w _ _ _ (.tup ys) from ⟨hz, its, r', IsTupN.new _ _⟩)
    exact ⟨.ref h'.objs.size, _, I2, rfl, q _ (I1.hok.fresh (Nat.le_refl _))⟩
  · obtain ⟨its, r', pl, hz⟩ := I.tuple hq
    exact call_tuple_same pl ⟨.ref p, H, I, rfl, q⟩
def tyV (K : PySem.W.Frag) (T : String) (x : V) (H : Hp) : Prop := match x with
  | .str _ => T = "str"
  | .int _ => T = "int"
  | .ref p => (T = "list" ∧ ∃ xs, SqL K H p xs) ∨ (T = "tuple" ∧ ∃ o, K.lookup p = some o ∧ o.cls = .type "tuple" ∧ o.dict = none) ∨
      (T = "dict" ∧ ((∃ kvs, H p = some (.dK kvs)) ∨ ∃ kvs, H p = some (.dT kvs))) ∨ (T = "set" ∧ ∃ S n, H p = some (.set S n))
  | _ => False
theorem tyV_is {pins : List (Addr × Obj)} {σ : St} {H : Hp} {s : Shared} {T : String} {x : V} {v : Value} (I : Inv X pins σ H s) (r : RelV x v) (ty : tyV X.K T x H) :
    s.TypeIs v T ∧ ∀ a, v = .ref a → ∃ ob, s.heap.get? a = some ob ∧ ob.dict = none := by
  cases x with
  | str z =>
    obtain ⟨t, rfl⟩ := r
    cases (show T = "str" from ty)
    exact ⟨typeIs_str s z t, fun _ e => nomatch e⟩
  | int i =>
    obtain ⟨t, rfl⟩ := r
    cases (show T = "int" from ty)
    exact ⟨typeIs_int s i t, fun _ e => nomatch e⟩
  | ref p =>
    cases r
    rcases ty with ⟨rfl, xs, hq⟩ | ⟨rfl, o, hk, hc, hd⟩ | ⟨rfl, hk⟩ | ⟨rfl, S, n, hk⟩
    · obtain ⟨its, _, pl, _⟩ := I.list hq
      refine ⟨pl.isList.typeIs, fun a e => ?_⟩
      cases e
      obtain ⟨o, n, e, c, hd, _⟩ := pl
      exact ⟨o, e, hd⟩
    · refine ⟨⟨o, I.kIn p o hk, hc⟩, fun a e => ?_⟩
      cases e
      exact ⟨o, I.kIn _ o hk, hd⟩
    · have z : ∃ o, s.heap.get? p = some o ∧ o.ExactDict := by
        rcases hk with ⟨kvs, hk⟩ | ⟨kvs, hk⟩
        · obtain ⟨_, _, _, _, o, _, _, e, ex, _⟩ := I.hok p _ hk
          exact ⟨o, e, ex⟩
        · exact False.elim (I.hok p _ hk)
      obtain ⟨o, e, ex⟩ := z
      refine ⟨⟨o, e, ex.1⟩, fun a e2 => ?_⟩
      cases e2
      exact ⟨o, e, ex.2.1⟩
    · obtain ⟨o, _, _, _, e, ex, _⟩ := I.hok p _ hk
      refine ⟨⟨o, e, ex.1⟩, fun a e2 => ?_⟩
      cases e2
      exact ⟨o, e, ex.2.1⟩
  | _ => exact False.elim ty
def tBM0 (K : PySem.W.Frag) (T : String) (r : V → List V → Hp → VK → Prop) (to : TE) : TE := fun σ H Q => to σ H fun x H1 => tyV K T x H1 ∧ r x [] H1 Q
def tBM (K : PySem.W.Frag) (T : String) (r : V → List V → Hp → VK → Prop) (to : TE) (t : TA) : TE := fun σ H Q => to σ H fun x H1 => tyV K T x H1 ∧ t σ H1 fun xs H2 => r x xs H2 Q
variable {o e : Expr} {es : List Expr} {to : TE} {t : TA} {name : Str} {apos cpos : Pos} {T id : String} {r : V → List V → Hp → VK → Prop}
theorem pe_bm0 (pa : PlainAttrs T) (slot : Slot T name id) (hty : typeOf (.builtin id) = pure (.type "method_descriptor")) (hm : MtR X id r) (ho : PE X o to)
    (hbase : attributeBase o name X.env (eval o X.env) = eval o X.env := by rfl) (hline : (apos.endLine == cpos.line) = true := by rfl) : PE X (.Call (.Attribute o name apos) [] [] cpos) (tBM0 X.K T r to) := by
  intro pins s σ H Q I h
  refine wpAny_Call_method0_late hbase hline (thn (ho pins s σ H _ I h) fun v s1 ⟨x, H1, I1, r1, ty, q1⟩ => ?_)
  obtain ⟨h1, h2⟩ := tyV_is I1 r1 ty
  exact ⟨T, id, pa, slot, hty, h1, h2, Calls.callWith_builtin rfl (PySem.evalArgs_none (hm pins s1 σ H1 x [] v [] Q I1 r1 .nil q1))⟩
theorem pe_bm (pa : PlainAttrs T) (slot : Slot T name id) (hty : typeOf (.builtin id) = pure (.type "method_descriptor")) (hm : MtR X id r) (ho : PE X o to) (ha : PA X (e :: es) t)
    (hbase : attributeBase o name X.env (eval o X.env) = eval o X.env := by rfl)
    (hfew : ((backTo cpos (starEach (e :: es) X.env)).all (fun x => !x.1) && (backToKw cpos (keywordEach [] X.env)).all (fun x => x.1.isSome)
      && decide ((e :: es).length + ([] : List Keyword).length + (if ([] : List Keyword).isEmpty then 0 else 1) < 30)) = true := by rfl)
    (hline : (apos.endLine == cpos.line) = true := by rfl) (hs : starEach (e :: es) X.env = (false, eval e X.env) :: starEach es X.env := by rfl) (hplain : (backTo cpos (starEach es X.env)).any (·.1) = false := by rfl) :
    PE X (.Call (.Attribute o name apos) (e :: es) [] cpos) (tBM X.K T r to t) := by
  intro pins s σ H Q I h
  refine wpAny_Call_method_late hbase hfew hline rfl (thn (ho pins s σ H _ I h) fun v s1 ⟨x, H1, I1, r1, ty, q1⟩ => ?_)
  obtain ⟨h1, h2⟩ := tyV_is I1 r1 ty
  refine ⟨T, id, pa, slot, hty, h1, h2, ?_⟩
  have hA := ha cpos pins s1 σ H1 _ I1 q1
  rw [hs] at hA ⊢
  refine Calls.callWith_builtin (by show (false || (backTo cpos (starEach es X.env)).any (·.1)) = false; rw [hplain] <;> rfl) (Calls.evalArgs_plain ?_)
  exact thn hA fun us s2 ⟨vs, H2, I2, r2, q2⟩ => hm pins s2 σ H2 x vs v us Q I2 r1 r2 q2
end
end L2
namespace L2
open PySem PySem.Spec PyProof.Rows
def MtM (X : Cx) (id : String) (r : V → List V → Hp → VK → Prop) : Prop :=
  ∀ (pins : List (Addr × Obj)) (s : Shared) (σ : St) (H : Hp) (x : V) (xs : List V) (v : Value) (us : List Value) (Q : VK), Inv X pins σ H s → RelV x v → Vals xs us → r x xs H Q →
    wpAny (model X.prog X.w) X.A (call (.builtin id) (v :: us)) (EP X pins σ Q) X.xe s
theorem Vals.one : ∀ {x : V} {us : List Value}, Vals [x] us → ∃ u, us = [u] ∧ RelV x u
  | _, _, .cons r .nil => ⟨_, rfl, r⟩
theorem Vals.two : ∀ {x y : V} {us : List Value}, Vals [x, y] us → ∃ u v, us = [u, v] ∧ RelV x u ∧ RelV y v
  | _, _, _, .cons r (.cons q .nil) => ⟨_, _, rfl, r, q⟩
theorem Vals.zero : ∀ {us : List Value}, Vals [] us → us = []
  | _, .nil => rfl
theorem Vals.dropLast {xs : List V} {us : List Value} (h : Vals xs us) : Vals xs.dropLast us.dropLast := by
  induction h with
  | nil => exact .nil
  | cons r t ih =>
    cases t with
    | nil => exact .nil
    | cons q t' => exact .cons r ih
theorem erase_last {α : Type} (l : List α) : l.eraseIdx (l.length - 1) = l.dropLast := by
  induction l with
  | nil => rfl
  | cons a r ih =>
    cases r with
    | nil => rfl
    | cons b r =>
      have e : (a :: b :: r).length - 1 = ((b :: r).length - 1) + 1 := by
        have h1 : (a :: b :: r).length = r.length + 2 := rfl
        have h2 : (b :: r).length = r.length + 1 := rfl
        omega
      rw [e, List.eraseIdx_cons_succ, ih]
      all_goals rfl
section
variable {X : Cx} {pins : List (Addr × Obj)} {σ : St} {H : Hp} {s : Shared} {l b : Addr} {xs ys zs : List V}
theorem Inv.lset {its its' : List Value} {n : Nat} {f : Array Value → Array Value} {t' : Nat} (I : Inv X pins σ H s) (hH : H l = some (.lst xs))
    (e : s.heap.get? l = some { cls := .type "list", data := .seq its.toArray n }) (hf : f its.toArray = its'.toArray) (hv : Vals ys its') (hz : ys.length ≤ sizeLine) :
    Inv X pins σ (upd H l (.lst ys)) { s with heap := s.heap.update l (Obj.mapSeq f), toks := t' } := by
  have q := PySem.IsL.update e f
  rw [hf] at q
  refine I.write (x := l) (e := l) (by rw [hH]; exact trivial) (.inl rfl) (fun b' u hb hu => (Heap.get?_update_other s.heap (Obj.mapSeq f) (Ne.symm hb)).trans hu) ⟨_, q⟩ ?_
  exact ⟨hz, its', _, hv, q⟩
theorem Inv.lnew {its : List Value} {t' : Nat} (I : Inv X pins σ H s) (hv : Vals ys its) (hz : ys.length ≤ sizeLine) :
    Inv X pins σ (upd H s.heap.objs.size (.lst ys)) { s with heap := s.heap.push { cls := .type "list", data := .seq its.toArray }, toks := t' } :=
  I.laid (fun _ _ q => Heap.get?_push_of_some _ q) (Nat.le_refl _) ⟨hz, its, 0, hv, Heap.get?_push_size _ rfl⟩
theorem Inv.fresh (I : Inv X pins σ H s) : H s.heap.objs.size = none := I.hok.fresh (Nat.le_refl _)
theorem Inv.lstM (I : Inv X pins σ H s) (hH : H l = some (.lst xs)) : xs.length ≤ sizeLine ∧ ∃ (its : List Value) (n : Nat), Vals xs its ∧ xs.length = its.length ∧ s.heap.get? l = some { cls := .type "list", data := .seq its.toArray n } := by
  obtain ⟨z, its, n, r, e⟩ := I.hok l _ hH
  exact ⟨z, its, n, r, r.length, e⟩
end
section
variable {X : Cx}
def rAppend : V → List V → Hp → VK → Prop := fun x vs H Q => ∃ l xs y, x = .ref l ∧ vs = [y] ∧ H l = some (.lst xs) ∧ xs.length < sizeLine ∧ Q .non (upd H l (.lst (xs ++ [y])))
theorem mt_append : MtM X "list.append" rAppend := by
  intro pins s σ H x vs v us Q I rx rv h
  obtain ⟨l, xs, y, rfl, rfl, hH, hz, q⟩ := h
  cases rx
  obtain ⟨u, rfl, ru⟩ := rv.one
  obtain ⟨z, its, n, r, hl, e⟩ := I.lstM hH
  refine call_meets F.slot_list_append ⟨_, e, rfl⟩ F.entry_list_append (F.args_list_append_2 _ _) (PySem.list_append l its.toArray n u (by rw [List.size_toArray]; omega)) ⟨e, ?_⟩
  refine ⟨.non, _, I.lset (its' := its ++ [u]) hH e (by simp) (r.append (.cons ru .nil)) ?_, rfl, q⟩
  rw [List.length_append, List.length_singleton]
  omega
def rPop : V → List V → Hp → VK → Prop := fun x vs H Q => ∃ l xs y, x = .ref l ∧ vs = [] ∧ H l = some (.lst xs) ∧ xs[xs.length - 1]? = some y ∧ Q y (upd H l (.lst xs.dropLast))
theorem mt_pop : MtM X "list.pop" rPop := by
  intro pins s σ H x vs v us Q I rx rv h
  obtain ⟨l, xs, y, rfl, rfl, hH, hy, q⟩ := h
  cases rx
  have hus := rv.zero
  subst hus
  obtain ⟨z, its, n, r, hl, e⟩ := I.lstM hH
  obtain ⟨u, hu, ru⟩ := r.get hy
  have hy' : its.toArray[its.toArray.size - 1]? = some u := by
    show its.toArray[its.length - 1]? = some u
    rw [← Array.getElem?_toList, ← hl]
    exact hu
  refine call_meets F.slot_list_pop ⟨_, e, rfl⟩ F.entry_list_pop (F.args_list_pop_1 _) (MeetsSeq.list_pop_last l its.toArray n u hy' (by rw [List.size_toArray]; omega)) ⟨e, ?_⟩
  refine ⟨y, _, I.lset (its' := its.dropLast) hH e ?_ r.dropLast ?_, ru, q⟩
  · show its.toArray.eraseIdxIfInBounds (its.toArray.size - 1) = its.dropLast.toArray
    rw [List.size_toArray, List.eraseIdxIfInBounds_toArray, erase_last]
  · rw [List.length_dropLast]
    omega
def rCat : R2 := fun x y H Q => ∃ l b xs zs, x = .ref l ∧ y = .ref b ∧ H l = some (.lst xs) ∧ H b = some (.lst zs) ∧ xs.length + zs.length ≤ sizeLine ∧ ∀ p, H p = none → Q (.ref p) (upd H p (.lst (xs ++ zs)))
theorem op_cat : OpR X (binaryOp .Add) rCat := by
  intro pins s σ H x y v u Q I rx ry h
  obtain ⟨l, b, xs, zs, rfl, rfl, hH, hB, hz, q⟩ := h
  cases rx
  cases ry
  obtain ⟨z, its, n, r, hl, e⟩ := I.lstM hH
  obtain ⟨z2, its2, n2, r2, hl2, e2⟩ := I.lstM hB
  refine PySem.P.add_list e e2 ?_ (by rw [List.size_toArray, List.size_toArray]; omega)
  have ea : its.toArray ++ its2.toArray = (its ++ its2).toArray := by simp
  rw [ea]
  exact ⟨.ref _, _, I.lnew (t' := s.toks) (r.append r2) (by rw [List.length_append]; omega), rfl, q _ I.fresh⟩
end
section
variable {prog : Program} {w : World} {A : Around} {E : Value → Shared → Prop} {s : Shared}
end
section
variable {X : Cx}
end
end L2
namespace L2
open PySem PySem.Spec PyProof.Rows
section
variable {κ : Type} [DecidableEq κ]
def valV (kvs : List (κ × V)) (k : κ) : Option V := (kvs.find? fun kv => decide (kv.1 = k)).map (·.2)
def putK (kvs : List (κ × V)) (k : κ) (v : V) : List (κ × V) :=
  if (kvs.any fun kv => decide (kv.1 = k)) = true then kvs.map (fun kv => if kv.1 = k then (kv.1, v) else kv) else kvs ++ [(k, v)]
def dropK (kvs : List (κ × V)) (k : κ) : List (κ × V) := kvs.filter fun kv => decide (kv.1 ≠ k)
theorem valV_pos {p : κ × V} {r : List (κ × V)} {k : κ} (e : p.1 = k) : valV (p :: r) k = some p.2 := by simp [valV, List.find?_cons, e]
theorem valV_neg {p : κ × V} {r : List (κ × V)} {k : κ} (e : ¬ p.1 = k) : valV (p :: r) k = valV r k := by simp [valV, List.find?_cons, e]
theorem length_putK (kvs : List (κ × V)) (k : κ) (v : V) : (putK kvs k v).length ≤ kvs.length + 1 := by
  unfold putK
  split
  · rw [List.length_map]; omega
  · rw [List.length_append, List.length_cons, List.length_nil]; omega
theorem RelO.isSome_eq {o : Option V} {u : Option Value} (r : RelO o u) : o.isSome = u.isSome := by
  cases o with
  | none => cases u with
    | none => rfl
    | some _ => exact (show False from r).elim
  | some _ => cases u with
    | none => exact (show False from r).elim
    | some _ => rfl
theorem RelO.getD {o : Option V} {u : Option Value} {d : V} {d' : Value} (r : RelO o u) (rd : RelV d d') : RelV (o.getD d) (u.getD d') := by
  cases o with
  | none => cases u with
    | none => exact rd
    | some _ => exact (show False from r).elim
  | some _ => cases u with
    | none => exact (show False from r).elim
    | some _ => exact r
theorem KV.val {kvs : List (κ × V)} {vs : List (κ × Value)} (r : KV kvs vs) (k : κ) : RelO (valV kvs k) (valueAt vs k) := by
  unfold KV at r
  induction r with
  | nil => exact True.intro
  | @cons p q ps qs h t ih =>
    obtain ⟨h1, h2⟩ := h
    by_cases e : p.1 = k
    · have e' : q.1 = k := h1.symm.trans e
      have b : valueAt (q :: qs) k = some q.2 := by simp [valueAt, List.find?_cons, e']
      rw [valV_pos e, b]; exact h2
    · have e' : ¬ q.1 = k := fun z => e (h1.trans z)
      have b : valueAt (q :: qs) k = valueAt qs k := by simp [valueAt, List.find?_cons, e']
      rw [valV_neg e, b]; exact ih
theorem KV.any {kvs : List (κ × V)} {vs : List (κ × Value)} (r : KV kvs vs) (k : κ) : (kvs.any fun kv => decide (kv.1 = k)) = vs.any fun kv => decide (kv.1 = k) := by
  unfold KV at r
  induction r with
  | nil => rfl
  | cons h t ih => rw [List.any_cons, List.any_cons, ih, h.1]
theorem KV.repl {kvs : List (κ × V)} {vs : List (κ × Value)} (r : KV kvs vs) (k : κ) {y : V} {u : Value} (ry : RelV y u) :
    KV (kvs.map fun kv => if kv.1 = k then (kv.1, y) else kv) (vs.map fun kv => if kv.1 = k then (kv.1, u) else kv) := by
  unfold KV at r ⊢
  induction r with
  | nil => exact .nil
  | @cons p q ps qs h t ih =>
    rw [List.map_cons, List.map_cons]
    refine .cons ?_ ih
    obtain ⟨h1, h2⟩ := h
    by_cases e : p.1 = k
    · rw [if_pos e, if_pos (h1.symm.trans e)]; exact ⟨h1, ry⟩
    · rw [if_neg e, if_neg (fun z => e (h1.trans z))]; exact ⟨h1, h2⟩
theorem KV.put {kvs : List (κ × V)} {vs : List (κ × Value)} (r : KV kvs vs) (k : κ) {y : V} {u : Value} (ry : RelV y u) : KV (putK kvs k y) (stored vs k u) := by
  unfold putK stored
  rw [r.any k]
  by_cases e : (vs.any fun kv => decide (kv.1 = k)) = true
  · rw [if_pos e, if_pos e]; exact r.repl k ry
  · rw [if_neg e, if_neg e]; exact Paired.snoc r ⟨rfl, ry⟩
theorem KV.drop {kvs : List (κ × V)} {vs : List (κ × Value)} (r : KV kvs vs) (k : κ) : KV (dropK kvs k) (without vs k) := by
  unfold KV at r ⊢
  unfold dropK without
  induction r with
  | nil => exact .nil
  | @cons p q ps qs h t ih =>
    obtain ⟨h1, h2⟩ := h
    rw [List.filter_cons, List.filter_cons]
    by_cases e : p.1 = k
    · have a : ¬ decide (p.1 ≠ k) = true := by simp [e]
      have b : ¬ decide (q.1 ≠ k) = true := by simp [h1.symm.trans e]
      rw [if_neg a, if_neg b]; exact ih
    · have e' : ¬ q.1 = k := fun z => e (h1.trans z)
      have a : decide (p.1 ≠ k) = true := by simp [e]
      have b : decide (q.1 ≠ k) = true := by simp [e']
      rw [if_pos a, if_pos b]; exact .cons ⟨h1, h2⟩ ih
theorem KV.length {kvs : List (κ × V)} {vs : List (κ × Value)} (r : KV kvs vs) : kvs.length = vs.length := Paired.length r
theorem dropK_le (kvs : List (κ × V)) (k : κ) : (dropK kvs k).length ≤ kvs.length := List.length_filter_le _ _
end
theorem kV_is {P : Program} {w : World} {k : Key} {u : Value} (r : RelV (kV k) u) : (mixKind P w).is k u = true := by
  cases k with
  | inl i => obtain ⟨t, e⟩ := (show ∃ t, u = Value.int i t from r); subst e; exact mixKind_int P w i t
  | inr x => obtain ⟨t, e⟩ := (show ∃ t, u = Value.str x t from r); subst e; exact mixKind_str P w x t
theorem items_are {P : Program} {w : World} : ∀ {ks : List Key} {us : List Value}, Vals (ks.map kV) us → ItemsAre (mixKind P w) ks us
  | [], _, r => by rw [List.map_nil] at r; cases r; exact .nil
  | k :: ks, _, r => by
    rw [List.map_cons] at r
    cases r with
    | cons h t => exact .cons (kV_is h) (items_are t)
abbrev KT (H : Hp) : List (List Key × V) → List (List Key × Addr × Value) → Prop := Paired fun p q => p.1 = q.1 ∧ H q.2.1 = some (.tup (p.1.map kV)) ∧ RelV p.2 q.2.2
theorem KT.val {H : Hp} {kvs : List (List Key × V)} {xs : List (List Key × Addr × Value)} (r : KT H kvs xs) (k : List Key) : RelO (valV kvs k) ((atKey xs k).map (·.2)) := by
  induction r with
  | nil => exact True.intro
  | @cons p q ps qs h t ih =>
    obtain ⟨h1, _, h2⟩ := h
    by_cases e : p.1 = k
    · have e' : q.1 = k := h1.symm.trans e
      have b : atKey (q :: qs) k = some q.2 := by simp [atKey, List.find?_cons, e']
      rw [valV_pos e, b]; exact h2
    · have e' : ¬ q.1 = k := fun z => e (h1.trans z)
      have b : atKey (q :: qs) k = atKey qs k := by simp [atKey, List.find?_cons, e']
      rw [valV_neg e, b]; exact ih
section
variable {P : Program} {w : World} {H : Hp} {h : Heap} {a : Addr}
theorem rd_of {u : HO} (ok : HOk P w H h) (e : Rd H a u) : ObjOk P w H h a u := e.ok ok
theorem dk_rd {kvs : List (Key × V)} (ok : HOk P w H h) (e : Rd H a (.dK kvs)) : kvs.length ≤ sizeLine ∧ (a == sysModules) = false ∧ ∃ vs, KV kvs vs ∧ h.DictOf (mixKind P w) a vs :=
  show ObjOk P w H h a (.dK kvs) from rd_of ok e
theorem dk_of {kvs : List (Key × V)} (ok : HOk P w H h) (e : H a = some (.dK kvs)) : kvs.length ≤ sizeLine ∧ (a == sysModules) = false ∧ ∃ vs, KV kvs vs ∧ h.DictOf (mixKind P w) a vs := dk_rd ok (.inl e)
theorem key_of {ks : List Key} (ok : HOk P w H h) (e : H a = some (.tup (ks.map kV))) : (tupleKind (mixKind P w)).is h ks a := by
  obtain ⟨_, its, r, o, h1, h2, _, n, h3⟩ := (show ObjOk P w H h a (.tup (ks.map kV)) from ok a _ e)
  exact ⟨o, its.toArray, n, h1, h2, h3, by simpa using items_are r⟩
theorem dt_rd {kvs : List (List Key × V)} (ok : HOk P w H h) (e : Rd H a (.dT kvs)) : kvs.length ≤ sizeLine ∧ (a == sysModules) = false ∧
    ∃ xs, KT H kvs xs ∧ h.DictOfH (tupleKind (mixKind P w)) a xs := by
  exact False.elim (show ObjOk P w H h a (.dT kvs) from rd_of ok e)
end
def DGet (H : Hp) (a : Addr) (y : V) (r : Option V) : Prop :=
  (∃ kvs k, Rd H a (.dK kvs) ∧ y = kV k ∧ r = valV kvs k) ∨ ∃ kvs k b, Rd H a (.dT kvs) ∧ y = .ref b ∧ H b = some (.tup (k.map kV)) ∧ r = valV kvs k
def DPut (H : Hp) (a : Addr) (y v : V) (H' : Hp) : Prop :=
  (∃ kvs k, H a = some (.dK kvs) ∧ y = kV k ∧ kvs.length < sizeLine ∧ H' = upd H a (.dK (putK kvs k v))) ∨
  ∃ kvs k b, H a = some (.dT kvs) ∧ y = .ref b ∧ H b = some (.tup (k.map kV)) ∧ kvs.length < sizeLine ∧ H' = upd H a (.dT (putK kvs k v))
theorem DGet.k {H : Hp} {a : Addr} {kvs : List (Key × V)} {k : Key} (e : H a = some (.dK kvs)) : DGet H a (kV k) (valV kvs k) := .inl ⟨kvs, k, .inl e, rfl, rfl⟩
theorem DPut.k {H : Hp} {a : Addr} {kvs : List (Key × V)} {k : Key} {v : V} (e : H a = some (.dK kvs)) (hl : kvs.length < sizeLine) : DPut H a (kV k) v (upd H a (.dK (putK kvs k v))) := .inl ⟨kvs, k, e, rfl, hl, rfl⟩
section
variable {X : Cx} {pins : List (Addr × Obj)} {σ : St} {H : Hp} {s : Shared} {a : Addr} {y v : V} {u r : Value} {o : Option V} {A : Around} {E : Value → Shared → Prop}
theorem Inv.big (I : Inv X pins σ H s) : sysModules < s.heap.objs.size := by
  have h : mainGlobals < s.heap.objs.size := (I.mod.glob.keeps I.bk).lt
  exact Nat.lt_trans (by decide) h
theorem d_getItem {Q : Value → Shared → Prop} (hu : A.units + 1 < cLine) (I : Inv X pins σ H s) (g : DGet H a y (some v)) (ry : RelV y u) (h : ∀ w' s', Inv X pins σ H s' → RelV v w' → Q w' s') :
    wpAny (model X.prog X.w) A (getItem (.ref a) u) Q E s := by
  rcases g with ⟨kvs, k, e, ey, l⟩ | ⟨kvs, k, b, e, ey, eb, l⟩
  · subst ey
    obtain ⟨z, hd, vs, rel, dd⟩ := dk_rd I.hok e
    obtain ⟨w', hw, rw'⟩ := RelO.some_of (v := v) (o := valueAt vs k) (by rw [l]; exact rel.val k)
    exact wpAny_getItem_of (kV_is ry) dd.mapOf hw (h w' _ (I.tok _) rw')
  · subst ey
    cases (show u = Value.ref b from ry)
    obtain ⟨z, hd, xs, rel, dd⟩ := dt_rd I.hok e
    obtain ⟨w', hw, rw'⟩ := RelO.some_of (v := v) (o := (atKey xs k).map (·.2)) (by rw [l]; exact rel.val k)
    obtain ⟨p, hp, hp2⟩ := Option.map_eq_some_iff.mp hw
    refine wpAny_getItem_heap (tupleKind_room_in1 hu) (key_of I.hok eb) dd hp ?_
    rw [hp2]
    exact h w' _ (I.tok _) rw'
theorem d_in {Q : Value → Shared → Prop} (hu : A.units + 1 < cLine) (I : Inv X pins σ H s) (g : DGet H a y o) (ry : RelV y u) (h : ∀ s', Inv X pins σ H s' → Q (.bool o.isSome) s') :
    wpAny (model X.prog X.w) A (compareOp .In u (.ref a)) Q E s := by
  rcases g with ⟨kvs, k, e, ey, l⟩ | ⟨kvs, k, b, e, ey, eb, l⟩
  · subst ey
    obtain ⟨z, hd, vs, rel, dd⟩ := dk_rd I.hok e
    refine wpAny_in_of (kV_is ry) hd dd.mapOf ?_
    rw [← (rel.val k).isSome_eq, ← l]
    exact h _ (I.tok _)
  · subst ey
    cases (show u = Value.ref b from ry)
    obtain ⟨z, hd, xs, rel, dd⟩ := dt_rd I.hok e
    refine wpAny_in_heap (tupleKind_room_in1 hu) (key_of I.hok eb) hd dd ?_
    have q := (rel.val k).isSome_eq
    rw [Option.isSome_map] at q
    rw [← q, ← l]
    exact h _ (I.tok _)
theorem d_write {h' : Heap} {t' : Nat} {ob : HO} (I : Inv X pins σ H s) (mu : Mut (H a)) (hs : Heap.SameBut a s.heap h') (he : ∃ q, h'.get? a = some q) (new : ObjOk X.prog X.w (upd H a ob) h' a ob) :
    Inv X pins σ (upd H a ob) { s with heap := h', toks := t' } :=
  I.write (x := a) (e := a) mu (.inl rfl) (fun b q hb z => (hs.2 b hb).trans z) he new
theorem dk_new {P : Program} {w : World} {H' : Hp} {h' : Heap} {kvs : List (Key × V)} {vs : List (Key × Value)} (z : kvs.length ≤ sizeLine) (hd : (a == sysModules) = false) (rel : KV kvs vs) (dd : h'.DictOf (mixKind P w) a vs) :
    ObjOk P w H' h' a (.dK kvs) := ⟨z, hd, vs, rel, dd⟩
theorem d_setItem {H' : Hp} {Q : Unit → Shared → Prop} (hu : A.units + 1 < cLine) (I : Inv X pins σ H s) (g : DPut H a y v H') (ry : RelV y u) (rv : RelV v r) (h : ∀ s', Inv X pins σ H' s' → Q () s') :
    wpAny (model X.prog X.w) A (setItem (.ref a) u r) Q E s := by
  rcases g with ⟨kvs, k, e, ey, l, eH⟩ | ⟨kvs, k, b, e, ey, eb, l, eH⟩
  · subst ey eH
    obtain ⟨z, hd, vs, rel, dd⟩ := dk_of I.hok e
    have hz : vs.length ≤ sizeLine := by rw [← rel.length]; exact z
    have hl : (putK kvs k v).length ≤ sizeLine := by have := length_putK kvs k v; omega
    refine wpAny_setItem_pairs (hsz := hz) (kV_is ry) dd fun h' dd' hs => h _ ?_
    have he : ∃ q, h'.get? a = some q := let ⟨q, _, _, hq, _⟩ := dd'; ⟨q, hq⟩
    exact d_write I (by rw [e]; exact True.intro) hs he (dk_new hl hd (rel.put k rv) dd')
  · exact False.elim (I.hok _ _ e)
end
section
variable {X : Cx} {pins : List (Addr × Obj)} {σ : St} {H : Hp} {s : Shared} {a : Addr} {kvs : List (Key × V)} {k : Key} {u : Value} {A : Around} {E : Value → Shared → Prop}
theorem d_pop {v : V} {more : List Value} {Q : Value → Shared → Prop} (I : Inv X pins σ H s) (e : H a = some (.dK kvs)) (ry : RelV (kV k) u) (l : valV kvs k = some v) (hm : more = [] ∨ ∃ x, more = [x])
    (h : ∀ w' s', Inv X pins σ (upd H a (.dK (dropK kvs k))) s' → RelV v w' → Q w' s') : wpAny (model X.prog X.w) A (call (.builtin "dict.pop") (.ref a :: u :: more)) Q E s := by
  obtain ⟨z, hd, vs, rel, dd⟩ := dk_of I.hok e
  obtain ⟨w', hw, rw'⟩ := RelO.some_of (v := v) (o := valueAt vs k) (by rw [← l]; exact rel.val k)
  have hp : (keyPart u).isSome = true := by
    cases k with
    | inl i => obtain ⟨t, q⟩ := (show ∃ t, u = Value.int i t from ry); subst q; rfl
    | inr x => obtain ⟨t, q⟩ := (show ∃ t, u = Value.str x t from ry); subst q; rfl
  have ha : argsOk "dict.pop" ⟨.ref a :: u :: more, []⟩ := by
    rcases hm with q | ⟨x, q⟩
    · subst q; exact PySem.F.args_dict_pop_2 _ _
    · subst q; exact PySem.F.args_dict_pop_3 _ _ _
  refine call_meetsIn PySem.F.slot_dict_pop dd.typeIs PySem.F.entry_dict_pop ha (meets_dict_pop_there (mixKind X.prog X.w) a (kV_is ry) more hm hp)
    ⟨vs, w', dd, by rw [← rel.length]; exact z, hw, fun h' dd' hs => h w' _ ?_ rw'⟩
  have he : ∃ q, h'.get? a = some q := let ⟨q, _, _, hq, _⟩ := dd'; ⟨q, hq⟩
  exact d_write I (by rw [e]; exact True.intro) hs he (dk_new (Nat.le_trans (dropK_le kvs k) z) hd (rel.drop k) dd')
theorem d_len {Q : Value → Shared → Prop} (I : Inv X pins σ H s) (e : Rd H a (.dK kvs)) (h : ∀ t s', Inv X pins σ H s' → Q (.int kvs.length t) s') : wpAny (model X.prog X.w) A (call (.builtin "len") [.ref a]) Q E s := by
  obtain ⟨z, hd, vs, rel, dd⟩ := dk_rd I.hok e
  refine call_len_dict hd dd (by rw [← rel.length]; rw [sizeLine_eq] at z; omega) ?_
  rw [← rel.length]
  exact h _ _ (I.tok _)
end
theorem dict_typeIs {X : Cx} {pins : List (Addr × Obj)} {σ : St} {H : Hp} {s : Shared} {a : Addr} {y : V} {o : Option V} (I : Inv X pins σ H s) (g : DGet H a y o) : s.TypeIs (.ref a) "dict" := by
  rcases g with ⟨kvs, k, e, _, _⟩ | ⟨kvs, k, b, e, _, _, _⟩
  · obtain ⟨_, _, vs, _, dd⟩ := dk_rd I.hok e
    exact dd.typeIs
  · obtain ⟨_, _, xs, _, dd⟩ := dt_rd I.hok e
    exact dd.typeIs
def sDPut (td ty tv : TE) : TS := fun D σ H => tv σ H fun v H1 => td σ H1 fun x H2 => ty σ H2 fun y H3 => ∃ a H4, x = .ref a ∧ DPut H3 a y v H4 ∧ D.nx σ H4
section
variable {X : Cx} {o i e value : Expr} {pos pos' tpos : Pos} {td ty tv : TE}
theorem ps_dput (hu : X.A.units + 1 < cLine) (ho : PE X o td) (hi : PE X i ty) (hv : PE X value tv) (hs : swapsWith value (some (.Subscript o i pos')) pos.line X.env = pure false) :
    PS X (.Assign [.Subscript o i pos'] value pos) (sDPut td ty tv) := by
  intro pins s σ H D I h
  refine wpAny_Assign_Subscript (thn (hv pins s σ H _ I h) fun r s1 ⟨v, H1, I1, rv, q1⟩ => thn (ho pins s1 σ H1 _ I1 q1) fun u s2 ⟨x, H2, I2, rx, q2⟩ => thn (hi pins s2 σ H2 _ I2 q2) fun iv s3 ⟨y, H3, I3, ry, a, H4, ex, g, q3⟩ => ?_) hs
  subst ex
  obtain rfl : u = Value.ref a := rx
  exact d_setItem hu I3 g ry rv fun s4 I4 => ⟨σ, H4, I4, q3⟩
end
theorem dk_empty {P : Program} {w : World} {H : Hp} (h : Heap) (hb : sysModules < h.objs.size) : ObjOk P w H (h.push { cls := .type "dict", data := .dict #[] }) h.objs.size (.dK []) :=
  ⟨Nat.zero_le _, beq_eq_false_iff_ne.mpr (Ne.symm (Nat.ne_of_lt hb)), [], .nil, Heap.DictOf.new h⟩
def tDNewK : TE := fun _ H Q => ∀ p, H p = none → Q (.ref p) (upd H p (.dK []))
section
variable {X : Cx} {pos : Pos}
theorem pe_dnewK : PE X (.Dict [] [] pos) tDNewK := fun pins s σ H Q I h =>
  wpAny_Dict_empty ⟨.ref s.heap.objs.size, _, I.laid (a := s.heap.objs.size) (o := .dK []) (t' := s.toks) (fun _ _ q => Heap.get?_push_of_some _ q) (Nat.le_refl _) (dk_empty s.heap I.big), rfl, h _ (I.hok.fresh (Nat.le_refl _))⟩
end
structure M1 (X : Cx) (o : Expr) (m : Str) (apos : Pos) (e : Expr) (cpos : Pos) : Prop where
  base : attributeBase o m X.env (eval o X.env) = eval o X.env
  few : ((backTo cpos (starEach [e] X.env)).all (fun x => !x.1) && (backToKw cpos (keywordEach [] X.env)).all (fun x => x.1.isSome)
    && decide (([e] : List Expr).length + ([] : List Keyword).length + (if ([] : List Keyword).isEmpty then 0 else 1) < 30)) = true
  line : (apos.endLine == cpos.line) = true
  trees : backTo cpos (starEach [e] X.env) = [(false, eval e X.env)]
structure M2 (X : Cx) (o : Expr) (m : Str) (apos : Pos) (e f : Expr) (cpos : Pos) : Prop where
  base : attributeBase o m X.env (eval o X.env) = eval o X.env
  few : ((backTo cpos (starEach [e, f] X.env)).all (fun x => !x.1) && (backToKw cpos (keywordEach [] X.env)).all (fun x => x.1.isSome)
    && decide (([e, f] : List Expr).length + ([] : List Keyword).length + (if ([] : List Keyword).isEmpty then 0 else 1) < 30)) = true
  line : (apos.endLine == cpos.line) = true
  trees : backTo cpos (starEach [e, f] X.env) = [(false, eval e X.env), (false, eval f X.env)]
def IsD (H : Hp) (a : Addr) : Prop := (∃ kvs, Rd H a (.dK kvs)) ∨ ∃ kvs, Rd H a (.dT kvs)
theorem isD_at {X : Cx} {pins : List (Addr × Obj)} {σ : St} {H : Hp} {s : Shared} {a : Addr} (I : Inv X pins σ H s) (d : IsD H a) :
    s.TypeIs (.ref a) "dict" ∧ (∀ b, Value.ref a = .ref b → ∃ ob, s.heap.get? b = some ob ∧ ob.dict = none) ∧ (a == sysModules) = false := by
  rcases d with ⟨kvs, e⟩ | ⟨kvs, e⟩
  · obtain ⟨_, hd, vs, _, dd⟩ := dk_rd I.hok e
    refine ⟨dd.typeIs, fun b q => ?_, hd⟩
    cases q
    obtain ⟨ob, _, _, h1, h2, _⟩ := dd
    exact ⟨ob, h1, h2.2.1⟩
  · obtain ⟨_, hd, xs, _, dd⟩ := dt_rd I.hok e
    refine ⟨dd.typeIs, fun b q => ?_, hd⟩
    cases q
    obtain ⟨ob, _, _, h1, h2, _⟩ := dd
    exact ⟨ob, h1, h2.2.1⟩
section
variable {X : Cx} {pins : List (Addr × Obj)} {σ : St} {H : Hp} {s : Shared} {a : Addr} {y d : V} {u r : Value} {o : Option V} {A : Around} {E : Value → Shared → Prop}
theorem d_get2 {Q : Value → Shared → Prop} (hu : A.units + 1 < cLine) (I : Inv X pins σ H s) (g : DGet H a y o) (ry : RelV y u) (rd : RelV d r) (h : ∀ w' s', Inv X pins σ H s' → RelV (o.getD d) w' → Q w' s') :
    wpAny (model X.prog X.w) A (call (.builtin "dict.get") [.ref a, u, r]) Q E s := by
  rcases g with ⟨kvs, k, e, ey, l⟩ | ⟨kvs, k, b, e, ey, eb, l⟩
  · subst ey
    obtain ⟨z, hd, vs, rel, dd⟩ := dk_rd I.hok e
    refine call_meetsIn PySem.F.slot_dict_get dd.typeIs PySem.F.entry_dict_get (PySem.F.args_dict_get_3 _ _ _) (meets_dict_get_default (mixKind X.prog X.w) a (kV_is ry) hd r) ⟨_, dd.mapOf, h _ _ (I.tok _) ?_⟩
    rw [l]
    exact (rel.val k).getD rd
  · subst ey
    cases (show u = Value.ref b from ry)
    obtain ⟨z, hd, xs, rel, dd⟩ := dt_rd I.hok e
    refine call_meetsIn PySem.F.slot_dict_get dd.typeIs PySem.F.entry_dict_get (PySem.F.args_dict_get_3 _ _ _) (meetsH_dict_get_default (tupleKind (mixKind X.prog X.w)) a b hd r) ⟨tupleKind_room_in1 hu, k, xs, key_of I.hok eb, dd, h _ _ (I.tok _) ?_⟩
    rw [l]
    exact (rel.val k).getD rd
end
def tDGet2 (td ty tx : TE) : TE := fun σ H Q => td σ H fun x H1 => ∃ a, x = .ref a ∧ IsD H1 a ∧ ty σ H1 fun y H2 => tx σ H2 fun z H3 => ∃ o, DGet H3 a y o ∧ Q (o.getD z) H3
def tDPop1 (td ty : TE) : TE := fun σ H Q => td σ H fun x H1 => ∃ a, x = .ref a ∧ IsD H1 a ∧ ty σ H1 fun y H2 => ∃ kvs k v, H2 a = some (.dK kvs) ∧ y = kV k ∧ valV kvs k = some v ∧ Q v (upd H2 a (.dK (dropK kvs k)))
section
variable {X : Cx} {o e f : Expr} {apos cpos : Pos} {td ty tx : TE}
theorem pe_dget2 (hu : X.A.units + 1 < cLine) (ho : PE X o td) (he : PE X e ty) (hf : PE X f tx) (m : M2 X o "get" apos e f cpos) : PE X (.Call (.Attribute o "get" apos) [e, f] [] cpos) (tDGet2 td ty tx) := by
  intro pins s σ H Q I h
  refine wpAny_Call_method m.base m.few m.line PySem.F.plainAttrs_dict PySem.F.slot_dict_get PySem.F.type_dict_get (thn (ho pins s σ H _ I h) fun u s1 ⟨x, H1, I1, rx, a, ex, d, q1⟩ => ?_)
  subst ex
  obtain rfl : u = Value.ref a := rx
  obtain ⟨t1, t2, _⟩ := isD_at I1 d
  refine ⟨t1, t2, ?_⟩
  rw [m.trees]
  refine Calls.callWith_builtin rfl (Calls.evalArgs_plain (Calls.spliced_cons (thn (he pins s1 σ H1 _ I1 q1) fun iv s2 ⟨y, H2, I2, ry, q2⟩ =>
    Calls.spliced_cons (thn (hf pins s2 σ H2 _ I2 q2) fun fv s3 ⟨z, H3, I3, rz, ov, g, q3⟩ => Calls.spliced_nil ?_))))
  exact d_get2 hu I3 g ry rz fun w' s4 I4 rw' => ⟨_, H3, I4, rw', q3⟩
theorem pe_dpop1 (ho : PE X o td) (he : PE X e ty) (m : M1 X o "pop" apos e cpos) : PE X (.Call (.Attribute o "pop" apos) [e] [] cpos) (tDPop1 td ty) := by
  intro pins s σ H Q I h
  refine wpAny_Call_method m.base m.few m.line PySem.F.plainAttrs_dict PySem.F.slot_dict_pop PySem.F.type_dict_pop (thn (ho pins s σ H _ I h) fun u s1 ⟨x, H1, I1, rx, a, ex, d, q1⟩ => ?_)
  subst ex
  obtain rfl : u = Value.ref a := rx
  obtain ⟨t1, t2, _⟩ := isD_at I1 d
  refine ⟨t1, t2, ?_⟩
  rw [m.trees]
  refine Calls.callWith_builtin rfl (Calls.evalArgs_plain (Calls.spliced_cons (thn (he pins s1 σ H1 _ I1 q1) fun iv s2 ⟨y, H2, I2, ry, kvs, k, v, ea, ey, l, q2⟩ => Calls.spliced_nil ?_)))
  subst ey
  exact d_pop I2 ea ry l (.inl rfl) fun w' s3 I3 rw' => ⟨v, _, I3, rw', q2⟩
end
section
variable {X : Cx} {pins : List (Addr × Obj)} {σ : St} {H : Hp} {s : Shared} {a : Addr} {kvs : List (Key × V)} {A : Around} {E : Value → Shared → Prop}
end
section
variable {X : Cx} {pins : List (Addr × Obj)} {σ : St} {H : Hp} {s : Shared} {a : Addr} {y : V} {u : Value} {A : Around} {E : Value → Shared → Prop}
end
end L2
namespace Att
open PySem PySem.W PySem.Calls PyProof.Rows
theorem ints_of_wellAll {P : Params} {h : Heap} : ∀ (ns : List Int) (vs : List Value), WellAll P h vs (ns.map WData.int) → IntsAre vs ns := by
  intro ns
  induction ns with
  | nil =>
    intro vs w
    rw [List.map_nil] at w
    cases w
    exact .nil
  | cons n ns ih =>
    intro vs w
    rw [List.map_cons] at w
    cases w with
    | cons a b =>
      cases a
      exact .cons _ _ (ih _ b)
theorem script_of {l : OpenLaw} {n : Nat} (hn : l.most = some n) {P : Params} {h : Heap} {args : List WData} {vals : List Value}
    (hpre : l.row.toRowW.claim.pre args = true) (hwl : WellAll P h vals args) :
    ∃ a vs ns, vals = [Value.ref a] ∧ args = [WData.list (ns.map WData.int)] ∧ h.get? a = some { cls := .type "list", data := .seq vs.toArray } ∧ IntsAre vs ns ∧ ns.length ≤ n := by
  have hsh : WShape.hasAll [] args [.list .int] = true := (pre_splitW hpre).1
  have hc : l.pre.holds [] { args := args } = true := (pre_splitW hpre).2
  obtain ⟨d, r, rfl, h1, h2⟩ := hasAllW_cons hsh
  obtain rfl := hasAllW_nil h2
  obtain ⟨xs, rfl, h3⟩ := hasW_list h1
  obtain ⟨ns, rfl⟩ := items_int h3
  have hlen : ns.length ≤ n := by
    unfold OpenLaw.pre at hc
    have h4 : (WTm.not (.lt (.lit (.int (n : Int))) (.len (.arg 0)))).holds [] { args := [.list (ns.map .int)] } = true := by
      have h4 := (holds_andW hc).1
      rw [hn] at h4
      exact h4
    have h5 := condW_of h4 (w_not (w_lt w_lit (w_len_list (w_arg rfl))))
    rw [List.length_map] at h5
    refine Nat.le_of_not_lt fun q => ?_
    have q' : (n : Int) < ((ns.length : Nat) : Int) := by omega
    first
      | (rw [decide_eq_true q'] at h5; exact absurd h5 (by decide))
      | (simp at h5; omega)
  cases hwl with
  | cons w1 w2 =>
    cases w2
    cases w1 with
    | list ho hall => exact ⟨_, _, ns, rfl, rfl, ho, ints_of_wellAll ns _ hall, hlen⟩
theorem post_true (l : OpenLaw) (args : List WData) : l.row.toRowW.claim.post args (.bool true) args = true :=
  postW_of (r := l.row.toRowW) (X := (true == true))
    (show WShape.has [] (.bool true) .bool = true by first | rfl | decide | simp [WShape.has, WShape.arms, WShape.armsAll])
    (show (WTm.eq .res (.lit (.bool true))).value [] { args := args, res := some (.bool true), after := args } = some (.bool (true == true)) from w_eq_bool (w_res rfl) w_lit) rfl
theorem attach_call {l : OpenLaw} {n : Nat} {q : Program} {loose : List Str} {XP : (Str → Option Value) → Heap → Prop} {YP : World → Heap → Prop} {d : DefRec}
    (hn : l.most = some n) (hdf : d.params.defaults = [])
    (call : ∀ (w : World) (s₀ s₁ : Shared) (mg mb : Str → Option Value) (fa : Addr) (o : Obj) (pm cd doc : Value) (a : Addr) (vs : List Value) (ns : List Int),
      Ground q loose [] XP w s₀ mg mb s₁.heap → YP w s₁.heap →
      s₁.heap.get? fa = some o → o.data = .func (docDef d.name d.params d.body d.scope pm cd doc) → s₁.heap.CodeRec cd d.name → mg d.name = some (.ref fa) →
      s₁.heap.get? a = some { cls := .type "list", data := .seq vs.toArray } → IntsAre vs ns → ns.length ≤ n → s₁.gens = #[] →
      codeAny (model l.prog w) callerA (.call (.ref fa) ⟨[.ref a], []⟩) (fun r s' => r = .ok (.ret (.bool true)) ∧ OldK s₁.heap s'.heap ∧ s'.os = s₁.os ∧ AllBare s'.gens) s₁) :
    WalkO q loose XP YP l.row.toRowW d [] (fun f vs => PySem.call f vs) := by
  intro w s₀ s₁ mg mb G Y fa o pm cd doc dV kV ho hd hcd hD hmg hg args vals as hpre hlay hrd hwl hlo
  obtain rfl : dV = .none := Dflts.none hD hdf
  obtain rfl : kV = .none := Dflts.noKw hD
  obtain ⟨a, vs, ns, rfl, rfl, hobj, hints, hlen⟩ := script_of hn hpre hwl
  refine enter_call (codeAny_mono (call w s₀ s₁ mg mb fa o pm cd doc a vs ns G Y ho (fd_plain hd) hcd hmg hobj hints hlen hg) fun r s' hq => ?_)
  obtain ⟨rfl, h2, h3, h4⟩ := hq
  exact ⟨.inl ⟨.bool true, .bool true, [], rfl, fun _ => rfl, .bool true, post_true l _, fun _ => ⟨List.Pairwise.nil, fun _ hm => (nomatch hm)⟩⟩, h2, h3, h4⟩
section
variable {prog : Program} {w : World} {A : Around} {E : Value → Shared → Prop} {s : Shared} {K : Frag}
end
end Att
namespace L2
open PySem PySem.Spec PyProof.Rows
theorem vals_ints : ∀ {vs : List Value} {ns : List Int}, IntsAre vs ns → Vals (ns.map V.int) vs
  | _, _, .nil => .nil
  | _, _, .cons n t h => .cons ⟨t, rfl⟩ (vals_ints h)
def Only (H : Hp) : Prop := ∀ b, H b = none ∨ ∃ o xs, H b = some (.frz o (.lst xs))
theorem law_call {P : Program} {w : World} {K : PySem.W.Frag} {mg mb : Str → Option Value} {CX : CXT} {k : Nat} {fa a : Addr} {fd : FuncData} {x : Str} {sp : Sp} {s₁ : Shared} {vs : List Value} {ns : List Int}
    (KX : K.In s₁.heap) (hns : s₁.heap.Ns mainGlobals mg) (hb : s₁.heap.Ns builtinsNs mb) (hbb : ∀ x : Str, x ≠ "__name__" → mb x = bootBuiltins x) (hlim : s₁.heap.NoLimit) (hg : s₁.gens = #[])
    (ha : s₁.heap.get? a = some { cls := .type "list", data := .seq vs.toArray }) (hi : IntsAre vs ns) (hl : ns.length ≤ sizeLine) (hr : Room k callerA)
    (F : ∀ base : Heap, K.In base → base.Ns mainGlobals mg → FnOk P w K mg base CX k fa fd [x] sp) (hbind : ∀ (s : Shared) (u : Value), BindsTo s fd ⟨[u], []⟩ [(x, u)])
    (hsp : ∀ H : Hp, Only H → SqL K H a (ns.map V.int) → sp [.ref a] H (fun v _ => v = .bl true) fun _ _ _ => False)
    (hCX : ∀ H e s', CX [] H s₁ (fun _ _ _ => False) e s' → False) :
    codeAny (model P w) callerA (.call (.ref fa) ⟨[.ref a], []⟩) (fun r s' => r = .ok (.ret (.bool true)) ∧ OldK s₁.heap s'.heap ∧ s'.os = s₁.os ∧ AllBare s'.gens) s₁ := by
  have rv := vals_ints hi
  have lenV := hi.length
  -- from an abstract heap in which nothing but the script may be tracked
  have core : ∀ H : Hp, Only H → SqL K H a (ns.map V.int) → HOk P w H s₁.heap → (∀ b, H b ≠ none → b = a) → (H a ≠ none → K.lookup a = none) →
      codeAny (model P w) callerA (.call (.ref fa) ⟨[.ref a], []⟩) (fun r s' => r = .ok (.ret (.bool true)) ∧ OldK s₁.heap s'.heap ∧ s'.os = s₁.os ∧ AllBare s'.gens) s₁ := by
    intro H hO hS hok hA hK
    have base_of : ∀ {b : Addr} {o : Obj}, s₁.heap.get? b = some o → H b = none → (hidT s₁.heap H).get? b = some o := fun e n => hidT_get e n
    have noA : ∀ {b : Addr} {o : Obj} {es : Array DictEntry} {ep : Nat}, s₁.heap.get? b = some o → o.data = .dict es ep → H b = none := fun {b o es ep} e d => by
      cases q : H b with
      | none => rfl
      | some u =>
        have e' : b = a := hA b (by rw [q]; simp)
        subst e'
        rw [ha] at e; cases e
        have d' : Data.seq vs.toArray _ = Data.dict es ep := d
        cases d'
    have nsK : ∀ {b : Addr} {m : Str → Option Value}, s₁.heap.Ns b m → (hidT s₁.heap H).Ns b m := fun {b m} ⟨o, es, ep, e, d, r⟩ => ⟨o, es, ep, base_of e (noA e d), d, r⟩
    have hKb : K.In (hidT s₁.heap H) := fun b o e => base_of (KX b o e) (by
      cases q : H b with
      | none => rfl
      | some u =>
        have e' : b = a := hA b (by rw [q]; simp)
        subst e'
        rw [hK (by rw [q]; simp)] at e; cases e)
    have hM : Mod K mg (hidT s₁.heap H) := ⟨hKb, nsK hns, ⟨mb, nsK hb, hbb⟩, let ⟨mc, h1, h2⟩ := hlim; ⟨mc, nsK h1, h2⟩⟩
    have e0 : Env0 P w K mg (hidT s₁.heap H) callerA [] s₁ H := ⟨rfl, hM, fun b o e => of_hidT e, Nat.le_of_eq (hidT_size _ _), trivial, fun b hb => absurd (show b ∈ ([] : List Addr) from hb) (by simp), hok, .of_eq hg⟩
    refine codeAny_mono ((F _ hKb (nsK hns)).run callerA [] s₁ H ⟨[.ref a], []⟩ [.ref a] [.ref a] _ _ hr e0 (hbind s₁ (.ref a)) (.cons rfl .nil) (hsp H hO hS)) fun r s' h => ?_
    cases r with
    | error e => exact (hCX H e s' h).elim
    | ok fl =>
      cases fl with
      | next => exact False.elim h
      | brk => exact False.elim h
      | cont => exact False.elim h
      | ret u =>
        obtain ⟨v, H', os, bare, un, hok', r', q⟩ := h
        have q' : v = .bl true := q
        subst q'
        obtain rfl : u = Value.bool true := r'
        refine ⟨rfl, OldK.of_keep fun b o e => ?_, os, bare⟩
        cases q : H b with
        | none => exact un.keep b o e q (by intro z; exact absurd (show b ∈ ([] : List Addr) from z) (by simp)) (by simp)
        | some u =>
          rcases hO b with z | ⟨ob, xs, z⟩
          · rw [q] at z; cases z
          · have z2 := un.frzs b ob _ z
            obtain ⟨e1, _⟩ := hok b _ z
            obtain ⟨e2, _⟩ := hok' b _ z2
            rw [e] at e1; cases e1
            exact e2
  cases hk : K.lookup a with
  | some o =>
    -- the script is one of the module's own objects
    have e := KX a o hk
    rw [ha] at e
    cases e
    refine core (fun _ => none) (fun _ => .inl rfl) (.inr ⟨_, vs.toArray, _, hk, rfl, rfl, rfl, by rw [List.size_toArray, lenV]; exact hl, by simpa using rv⟩) (fun b u z => by have z' : (none : Option HO) = some u := z; cases z') (fun b z => absurd rfl z) fun z => absurd rfl z
  | none =>
    refine core (fun b => if b = a then some (.frz { cls := .type "list", data := .seq vs.toArray } (.lst (ns.map V.int))) else none) (fun b => ?_) (.inl (.inr ⟨{ cls := .type "list", data := .seq vs.toArray }, if_pos rfl⟩)) (fun b u z => ?_) (fun b z => ?_) fun _ => hk
    · by_cases hb : b = a
      · exact .inr ⟨_, _, if_pos hb⟩
      · exact .inl (if_neg hb)
    · by_cases hb : b = a
      · have z' := (if_pos hb).symm.trans z
        cases z'
        subst hb
        exact ⟨ha, by rw [List.length_map]; exact hl, vs, _, rv, ha⟩
      · have z' := (if_neg hb).symm.trans z
        cases z'
    · by_cases hb : b = a
      · exact hb
      · exact absurd (if_neg hb) z
end L2
namespace L2
open PySem PySem.Spec PyProof.Rows
abbrev KOf {K : PySem.W.Frag} {h : Heap} (_ : K.In h) : PySem.W.Frag := K
theorem walk_of {l : PySem.W.OpenLaw} {n k : Nat} {q : Program} {loose : List Str} {XP : (Str → Option Value) → Heap → Prop} {YP : World → Heap → Prop} {d : DefRec} {K : Params → PySem.W.Frag} {CX : World → CXT} {sp : World → Sp} {x : Str}
    (hn : l.most = some n) (hn2 : n ≤ sizeLine) (hdf : d.params.defaults = []) (hr : Room k callerA)
    (hY : ∀ (w : World) (h : Heap), YP w h → (K w.params).In h)
    (F : ∀ (w : World) (mg : Str → Option Value) (fa : Addr) (h : Heap), (K w.params).In h → h.Ns mainGlobals mg → mg d.name = some (.ref fa) →
      ∃ fd : FuncData, (∀ (s : Shared) (u : Value), BindsTo s fd ⟨[u], []⟩ [(x, u)]) ∧
        ∀ base : Heap, (K w.params).In base → base.Ns mainGlobals mg → FnOk l.prog w (K w.params) mg base (CX w) k fa fd [x] (sp w))
    (hsp : ∀ (w : World) (H : Hp) (a : Addr) (ns : List Int), ns.length ≤ n → Only H → SqL (K w.params) H a (ns.map V.int) → sp w [.ref a] H (fun v _ => v = .bl true) fun _ _ _ => False)
    (hCX : ∀ (w : World) (H : Hp) (s : Shared) (e : Value) (s' : Shared), CX w [] H s (fun _ _ _ => False) e s' → False) :
    PySem.W.WalkO q loose XP YP l.row.toRowW d [] (fun f vs => PySem.call f vs) := by
  refine Att.attach_call hn hdf fun w s₀ s₁ mg mb fa o pm cd doc a vs ns G Y ho hd hcd hmg hobj hints hlen hg => ?_
  have KX := hY w _ Y
  obtain ⟨fd, hb, hF⟩ := F w mg fa _ KX G.T.g hmg
  exact law_call KX G.T.g G.T.b G.T.builtins G.T.nolimit hg hobj hints (Nat.le_trans hlen hn2) hr hF hb (fun H hO hS => hsp w H a ns hlen hO hS) fun H e s' => hCX w H s₁ e s'
theorem walk_ofK {l : PySem.W.OpenLaw} {n k : Nat} {q : Program} {loose : List Str} {XP : (Str → Option Value) → Heap → Prop} {YP : World → Heap → Prop} {d : DefRec} {K : Params → PySem.W.Frag} {CX : CXT} {sp : PySem.W.Frag → Sp} {x : Str}
    (hn : l.most = some n) (hn2 : n ≤ sizeLine) (hdf : d.params.defaults = []) (hr : Room k callerA)
    (hY : ∀ (w : World) (h : Heap), YP w h → (K w.params).In h)
    (F : ∀ (w : World) (mg : Str → Option Value) (fa : Addr) (h : Heap), (K w.params).In h → h.Ns mainGlobals mg → mg d.name = some (.ref fa) →
      ∃ fd : FuncData, (∀ (s : Shared) (u : Value), BindsTo s fd ⟨[u], []⟩ [(x, u)]) ∧
        ∀ base : Heap, (K w.params).In base → base.Ns mainGlobals mg → FnOk l.prog w (K w.params) mg base CX k fa fd [x] (sp (K w.params)))
    (hsp : ∀ (K : PySem.W.Frag) (H : Hp) (a : Addr) (ns : List Int), ns.length ≤ n → Only H → SqL K H a (ns.map V.int) → sp K [.ref a] H (fun v _ => v = .bl true) fun _ _ _ => False)
    (hCX : ∀ (H : Hp) (s : Shared) (e : Value) (s' : Shared), CX [] H s (fun _ _ _ => False) e s' → False) :
    PySem.W.WalkO q loose XP YP l.row.toRowW d [] (fun f vs => PySem.call f vs) :=
  walk_of (K := K) (CX := fun _ => CX) (sp := fun w => sp (K w.params)) hn hn2 hdf hr hY F (fun w H a ns h1 h2 h3 => hsp (K w.params) H a ns h1 h2 h3) fun _ H s e s' => hCX H s e s'
end L2
namespace L2
open PySem PySem.Spec PyProof.Rows
def inClass (s : Stmt) (j : Nat) : Stmt := match s with
  | .ClassDef _ _ _ body _ _ _ _ _ _ _ => body.getD j (.Pass ⟨0, 0, 0, 0⟩)
  | _ => .Pass ⟨0, 0, 0, 0⟩
def defArgs (s : Stmt) : Arguments := match s with
  | .FunctionDef _ a _ _ _ _ _ _ _ _ => a
  | _ => { posonlyargs := [], args := [], vararg := none, kwonlyargs := [], kw_defaults := [], kwarg := none, defaults := [] }
def defBody (s : Stmt) : List Stmt := match s with
  | .FunctionDef _ _ b _ _ _ _ _ _ _ => b
  | _ => []
def defScope (s : Stmt) : Scope := match s with
  | .FunctionDef _ _ _ _ _ _ sc _ _ _ => sc
  | _ => { kind := .function, names := [], isGenerator := false, isCoroutine := false }
abbrev CX0 : CXT := fun _ _ _ _ _ _ => False
abbrev E0 : XK := fun _ _ _ => False
structure Fun (K : PySem.W.Frag) (x qual : Str) (st : Stmt) (f : Addr) (fd : FuncData) : Prop where
  ex : ∃ (oc : Value) (od : Option Addr) (kV doc pm : Value) (an : Option Addr) (cdv ct : Value) (osl : Array (Option Value)),
    fd = PySem.W.fnOf x qual (defArgs st) (defBody st) (defScope st) .none kV doc pm an cdv ct ∧ K.lookup f = some ⟨oc, od, .func fd, osl⟩ ∧ PySem.W.codeIn K cdv qual = true
  kp : PySem.W.keepIn K (.ref f) = true
section
variable {P : Program} {w : World} {K : PySem.W.Frag} {mg : Str → Option Value} {base : Heap}
end
theorem small1000 {n : Nat} (h : n ≤ 1000) : n < sizeLine := Nat.lt_of_le_of_lt h (by decide)
section
variable {X : Cx}
theorem call_lenD : CallR X (.builtin "len") (fun xs H Q => ∃ a kvs, xs = [V.ref a] ∧ H a = some (.dK kvs) ∧ Q (.int kvs.length) H) := by
  intro pins s σ H xs us Q I r h
  obtain ⟨a, kvs, rfl, ha, q⟩ := h
  obtain ⟨u, rfl, ru⟩ := vals1 r
  cases ru
  exact d_len I (.inl ha) fun t s' I' => ⟨.int kvs.length, H, I', ⟨t, rfl⟩, q⟩
end
theorem iteF {A B : Prop} (h : B) : if false = true then A else B := by
  rw [if_neg Bool.false_ne_true]
  exact h
theorem iteT {A B : Prop} (h : A) : if true = true then A else B := by
  rw [if_pos rfl]
  exact h
section
variable {κ : Type} [DecidableEq κ]
theorem nd_snoc : ∀ {l : List κ} {k : κ}, l.Nodup → ¬ k ∈ l → (l ++ [k]).Nodup
  | [], k, _, _ => by simp
  | a :: r, k, h, hk => by
    obtain ⟨h1, h2⟩ := List.nodup_cons.mp h
    show (a :: (r ++ [k])).Nodup
    refine List.nodup_cons.mpr ⟨fun m => ?_, nd_snoc h2 fun m => hk (List.mem_cons.mpr (Or.inr m))⟩
    rcases List.mem_append.mp m with q | q
    · exact h1 q
    · exact hk (List.mem_cons.mpr (Or.inl (List.mem_singleton.mp q).symm))
end
end L2
set_option maxHeartbeats 4000000
namespace L2
open PySem PySem.Spec PyProof.Rows
section
variable {X : Cx}
def sLe (i j : Str) : Bool := !decide (j.cps.toList < i.cps.toList)
def sLt (i j : Str) : Bool := decide (i.cps.toList < j.cps.toList)
def rS2 (g : Str → Str → Bool) : R2 := fun x y H Q => ∃ i j, x = .str i ∧ y = .str j ∧ Q (.bl (g i j)) H
theorem op_le_str : OpR X (compareOp .LtE) (rS2 sLe) := by
  intro pins s σ H x y v u Q I rx ry h
  obtain ⟨i, j, rfl, rfl, q⟩ := h
  obtain ⟨t, rfl⟩ := rx
  obtain ⟨t', rfl⟩ := ry
  exact P.le_str (fin_bl I q rfl)
theorem op_ge_str : OpR X (compareOp .GtE) (rS2 fun i j => sLe j i) := by
  intro pins s σ H x y v u Q I rx ry h
  obtain ⟨i, j, rfl, rfl, q⟩ := h
  obtain ⟨t, rfl⟩ := rx
  obtain ⟨t', rfl⟩ := ry
  exact P.ge_str (fin_bl I q rfl)
theorem op_gt_str : OpR X (compareOp .Gt) (rS2 fun i j => sLt j i) := by
  intro pins s σ H x y v u Q I rx ry h
  obtain ⟨i, j, rfl, rfl, q⟩ := h
  obtain ⟨t, rfl⟩ := rx
  obtain ⟨t', rfl⟩ := ry
  exact P.gt_str (fin_bl I q rfl)
def CDivL (_ j : Int) : Prop := 0 < j ∧ j.natAbs.log2 < 9000
theorem op_fdivL : OpR X (binaryOp .FloorDiv) (rI CDivL fun i j => .int (i / j)) := opI fun i j _ _ _ _ _ hc q => by
  have hj : j ≠ 0 := by have := hc.1; omega
  exact floordiv_int hj (by rw [Int.fdiv_eq_ediv_of_nonneg _ (by have := hc.1; omega)]; exact q) (.inl (PyProof.noPylong_of_log2 hc.2))
end
def Its (x : Str) : It := ⟨fun i _ => i < x.cps.size, fun i H v H' => H' = H ∧ ∃ c, x.cps[i]? = some c ∧ v = .str ⟨#[c]⟩, fun i _ => x.cps.size ≤ i⟩
theorem turn_str {P : Program} {w : World} {K : PySem.W.Frag} {tg : Expr} {T : String} (hT : ["enumerate", "zip", "dict_itemiterator", "dict_reverseitemiterator", "odict_iterator", "itertools.zip_longest", "itertools.pairwise"].contains T = false) (it : Addr) (x : Str) (t : Tok)
    (W : ∀ A' : Around, A'.handled = none → Walks P w A' it [it] [it] x.cps.size (SignAt x) (fun i h => h.IsStrIter it T x t i))
    (hend : ∀ (A : Around) (s : Shared) (E : Value → Shared → Prop) (i : Nat) (Q : Option Value → Shared → Prop), A.handled = none → s.heap.IsStrIter it T x t i → x.cps[i]? = none → (∀ h', Heap.ExtBut it s.heap h' → Q none { s with heap := h' }) → wpAny (model P w) A (pyNext (.ref it)) Q E s)
    (hself : ∀ (A : Around) (s : Shared) (E : Value → Shared → Prop) (i : Nat) (Q : Value → Shared → Prop), s.heap.IsStrIter it T x t i → Q (.ref it) s → wpAny (model P w) A (pyIter (.ref it)) Q E s) :
    Turn P w K tg (Its x) [it] it (fun i h => h.IsStrIter it T x t i) where
  mem := by simp
  obj := fun i h st b hb => by
    have e : b = it := by simpa using hb
    subst e
    obtain ⟨o, e, c, d⟩ := st
    exact ⟨o, e, fun v z => by rw [d] at z; cases z⟩
  keep := fun i h h' st k => by
    obtain ⟨o, e, c, d⟩ := st
    exact ⟨o, k it (by simp) o e, c, d⟩
  item := by
    intro X hP hw hK hc i pins s σ H E I hf st hg
    subst hP hw hK
    obtain ⟨f0, f1, f2, f3, f4, f5⟩ := hf it (by simp)
    refine (W X.A (I.ok.hd hc)).item i s _ _ hg st fun v h' tk hv st' kk => ?_
    obtain ⟨c, u, hcx, rfl⟩ := hv
    have I1 : Inv X pins σ H { s with heap := h', toks := tk } := I.turned (fun b o hb e => kk b o (by simpa using hb) e) f0 f1 f3 f4 f5
    obtain ⟨o, e, c', d⟩ := id st'
    exact ⟨_, rfl, go_of (s := { s with heap := h', toks := tk }) e c' d hT ⟨.str ⟨#[c]⟩, H, I1, ⟨u, rfl⟩, ⟨rfl, c, hcx, rfl⟩, st', fun b hb => (hf b hb).1⟩⟩
  done := by
    intro X hP hw hK hc i pins s σ H E I hf st hg
    subst hP hw hK
    obtain ⟨f0, f1, f2, f3, f4, f5⟩ := hf it (by simp)
    have hg : x.cps.size ≤ i := hg
    exact hend X.A s E i _ (I.ok.hd hc) st (by simp; exact hg) fun h' eb => ⟨rfl, I.turned (t' := s.toks) (fun b o hb e => eb b o hb e) f0 f1 f3 f4 f5⟩
  self := fun A' i s Q E st h => hself A' s E i Q st h
section
variable {X : Cx} {tg : Expr}
def iStr (tl : TE) : TI := fun σ H R => tl σ H fun x H1 => ∃ z, x = .str z ∧ R (Its z) H1
theorem pi_str {l : Expr} {tl : TE} (hl : PE X l tl) : PI X tg l (iStr tl) := by
  intro pins s σ H R I h
  refine thn (hl pins s σ H _ I h) fun v s1 ⟨x, H1, I1, r1, q1⟩ => ?_
  obtain ⟨z, e, q⟩ := q1
  subst e
  obtain ⟨t, rfl⟩ := r1
  have fin : ∀ (T : String) (_ : Turn X.prog X.w X.K tg (Its z) [s1.heap.objs.size] s1.heap.objs.size (fun i h => h.IsStrIter s1.heap.objs.size T z t i)),
      PIE X pins σ tg R (.ref s1.heap.objs.size) { s1 with heap := s1.heap.push { cls := .type T, data := .fields #[.str z t, .int 0 0] } } := fun T tn => by
    refine ⟨s1.heap.objs.size, [s1.heap.objs.size], _, _, H1, rfl, I1.kept (t' := s1.toks) fun b o e => Heap.get?_push_of_some _ e, tn, ⟨_, Heap.get?_push_size _ rfl, rfl, rfl⟩, fun b hb => ?_, q⟩
    have e : b = s1.heap.objs.size := by simpa using hb
    subst e
    exact I1.fpOk (Nat.le_refl _) (I1.hok.fresh (Nat.le_refl _))
  cases ha : z.cps.all (· < 128)
  · exact wpAny_pyIter_wide ha (fin _ (turn_str (by decide) _ z t (fun A' hA => Walks.strWide hA _ z t) (fun A s E i Q hh st hx hQ => wpAny_pyNext_wide_end hh st hx hQ) (fun A s E i Q st hq => wpAny_pyIter_striter_wide st hq)))
  · exact wpAny_pyIter_ascii ha (fin _ (turn_str (by decide) _ z t (fun A' hA => Walks.strAscii hA _ z t) (fun A s E i Q hh st hx hQ => wpAny_pyNext_ascii_end hh st hx hQ) (fun A s E i Q st hq => wpAny_pyIter_striter_ascii st hq)))
end
end L2
namespace L2
open PySem PySem.Spec PyProof.Rows
def clOf (cells : List (Str × Addr)) (names : List (Str × NameKind)) : List (Str × Addr) :=
  names.foldl (fun cs p => if p.2 == .free then match cells.lookup p.1 with | some a => (p.1, a) :: cs | none => cs else cs) []
theorem clOf_sub (cells : List (Str × Addr)) : ∀ (names : List (Str × NameKind)) (cs : List (Str × Addr)), (∀ x c, cs.lookup x = some c → cells.lookup x = some c) →
    ∀ x c, (names.foldl (fun cs p => if p.2 == .free then match cells.lookup p.1 with | some a => (p.1, a) :: cs | none => cs else cs) cs).lookup x = some c → cells.lookup x = some c
  | [], cs, h => h
  | (n, k) :: r, cs, h => by
    rw [List.foldl_cons]
    refine clOf_sub cells r _ fun x c e => ?_
    dsimp only at e
    split at e
    · split at e
      · rename_i a ha
        rw [List.lookup_cons] at e
        split at e
        · rename_i hx
          have := LawfulBEq.eq_of_beq hx
          cases e
          rw [this]
          exact ha
        · exact h x c e
      · exact h x c e
    · exact h x c e
theorem clOf_keep (cells : List (Str × Addr)) : ∀ (names : List (Str × NameKind)) (cs : List (Str × Addr)) (x : Str) (c : Addr), (∀ y c, cs.lookup y = some c → cells.lookup y = some c) → cs.lookup x = some c →
    (names.foldl (fun cs p => if p.2 == .free then match cells.lookup p.1 with | some a => (p.1, a) :: cs | none => cs else cs) cs).lookup x = some c
  | [], cs, x, c, _, h => h
  | (n, k) :: r, cs, x, c, hs, h => by
    rw [List.foldl_cons]
    have hs' : ∀ y c, (if (k == NameKind.free) = true then match cells.lookup n with | some a => (n, a) :: cs | none => cs else cs).lookup y = some c → cells.lookup y = some c := by
      intro y c e
      split at e
      · split at e
        · rename_i a ha
          rw [List.lookup_cons] at e
          split at e
          · rename_i hx
            have := LawfulBEq.eq_of_beq hx
            cases e
            rw [this]
            exact ha
          · exact hs y c e
        · exact hs y c e
      · exact hs y c e
    refine clOf_keep cells r _ x c hs' ?_
    dsimp only
    split
    · split
      · rename_i a ha
        rw [List.lookup_cons]
        split
        · rename_i hx
          have := LawfulBEq.eq_of_beq hx
          rw [this] at h
          have := hs _ _ h
          rw [ha] at this
          exact this
        · exact h
      · exact h
    · exact h
theorem clOf_has (cells : List (Str × Addr)) : ∀ (names : List (Str × NameKind)) (cs : List (Str × Addr)) (x : Str) (c : Addr), (∀ y c, cs.lookup y = some c → cells.lookup y = some c) → (x, NameKind.free) ∈ names → cells.lookup x = some c →
    (names.foldl (fun cs p => if p.2 == .free then match cells.lookup p.1 with | some a => (p.1, a) :: cs | none => cs else cs) cs).lookup x = some c
  | [], cs, x, c, _, h, _ => nomatch h
  | (n, k) :: r, cs, x, c, hs, h, hc => by
    rw [List.foldl_cons]
    have hs' : ∀ y c, (if (k == NameKind.free) = true then match cells.lookup n with | some a => (n, a) :: cs | none => cs else cs).lookup y = some c → cells.lookup y = some c := by
      intro y c e
      split at e
      · split at e
        · rename_i a ha
          rw [List.lookup_cons] at e
          split at e
          · rename_i hx
            have := LawfulBEq.eq_of_beq hx
            cases e
            rw [this]
            exact ha
          · exact hs y c e
        · exact hs y c e
      · exact hs y c e
    rcases List.mem_cons.mp h with e | h
    · cases e
      refine clOf_keep cells r _ _ c hs' ?_
      dsimp only
      rw [if_pos (show (NameKind.free == NameKind.free) = true by decide), hc]
      simp [List.lookup_cons]
    · exact clOf_has cells r _ x c hs' h hc
theorem closureFor_cl {scope : Scope} {env : Env} (h : ∀ x ∈ scope.names, x.2 = .free → ∃ c, env.cells.lookup x.1 = some c) : closureFor scope env = pure (clOf env.cells scope.names) := by
  have go : ∀ (names : List (Str × NameKind)) (cs : List (Str × Addr)), (∀ x ∈ names, x.2 = .free → ∃ c, env.cells.lookup x.1 = some c) →
      (forIn names cs fun x r => match x with | (name, kind) => if (kind == NameKind.free) = true then do let a ← cellOf env name; pure (ForInStep.yield ((name, a) :: r)) else pure (ForInStep.yield r) : Sem (List (Str × Addr))) =
        pure (names.foldl (fun cs p => if p.2 == .free then match env.cells.lookup p.1 with | some a => (p.1, a) :: cs | none => cs else cs) cs) := by
    intro names
    induction names with
    | nil => intro cs _; rfl
    | cons p r ih =>
      intro cs hp
      obtain ⟨n, k⟩ := p
      rw [List.forIn_cons, List.foldl_cons]
      by_cases hk : k = .free
      · subst hk
        obtain ⟨c, hc⟩ := hp _ List.mem_cons_self rfl
        have hc : env.cells.lookup n = some c := hc
        have e1 : cellOf env n = pure c := by unfold cellOf; rw [hc]
        have ef : (NameKind.free == NameKind.free) = true := by decide
        dsimp only
        rw [if_pos ef, if_pos ef, e1, hc]
        exact ih _ fun x hx => hp x (List.mem_cons_of_mem _ hx)
      · have hk' : (k == NameKind.free) = false := by simpa using hk
        dsimp only
        rw [hk', if_neg Bool.false_ne_true, if_neg Bool.false_ne_true]
        exact ih _ fun x hx => hp x (List.mem_cons_of_mem _ hx)
  have e := go scope.names [] h
  have e2 : closureFor scope env = (forIn scope.names [] (fun x r => match x with | (name, kind) => if (kind == NameKind.free) = true then do let a ← cellOf env name; pure (ForInStep.yield ((name, a) :: r)) else pure (ForInStep.yield r)) : Sem (List (Str × Addr))) >>= fun cs => pure cs := rfl
  rw [e2, e]
  rfl
theorem lookup_relabel {env : Env} {names : List (Str × NameKind)} {x : Str} :
    (names.map fun (n, k) => if (k == NameKind.free && env.scope.kind == .function && env.kindOf n == some .cell) then (n, NameKind.cell) else (n, k)).lookup x =
      (names.lookup x).map fun k => if (k == NameKind.free && env.scope.kind == .function && env.kindOf x == some .cell) then NameKind.cell else k := by
  induction names with
  | nil => rfl
  | cons p r ih =>
    obtain ⟨n, k⟩ := p
    rw [List.map_cons, List.lookup_cons]
    by_cases hc : (k == NameKind.free && env.scope.kind == .function && env.kindOf n == some .cell) = true
    · dsimp only
      rw [if_pos hc, List.lookup_cons]
      cases hx : x == n with
      | true =>
        have := LawfulBEq.eq_of_beq hx
        subst this
        dsimp only [Option.map]
        rw [if_pos hc]
      | false => exact ih
    · dsimp only
      rw [if_neg hc, List.lookup_cons]
      cases hx : x == n with
      | true =>
        have := LawfulBEq.eq_of_beq hx
        subst this
        dsimp only [Option.map]
        rw [if_neg hc]
      | false => exact ih
def cxC (X : Cx) (N : List Str) (scope : Scope) (C : Addr) (s : Shared) (H : Hp) (ex : List Addr) (pn : List (Addr × Obj)) : Cx :=
  { X with N := N, s₀ := s, H₀ := H, env := compEnvC scope (clOf X.env.cells scope.names) C X.env, outer := X.stack, ex := ex, fn := fun _ => false, pn := pn, xe := fun _ _ => False }
def pick (σ : St) (src : List (Option Nat)) : St := src.map fun o => match o with | some j => (σ[j]?).join | none => none
structure CompScope (X : Cx) (N : List Str) (src : List (Option Nat)) (scope : Scope) : Prop where
  kind : scope.kind = .function
  nocell : ∀ y ∈ scope.names, y.2 ≠ .cell
  loc : ∀ y ∈ scope.names, y.2 = .local → scope.names.lookup y.1 = some .local
  fre : ∀ y ∈ scope.names, y.2 = .free → X.env.kindOf y.1 = some .cell ∨ X.env.kindOf y.1 = some .free
  len : src.length = N.length
  src : ∀ (i j : Nat) (x : Str), src[i]? = some (some j) → N[i]? = some x → X.N[j]? = some x ∧ scope.names.lookup x = some .free ∧ Vis X.env.scope x
def Ext (σ σ' : St) : Prop := σ'.length = σ.length ∧ ∀ (j : Nat) v, σ[j]? = some (some v) → σ'[j]? = some (some v)
def GExt (g : TG) (src : List (Option Nat)) : Prop := ∀ x σ H Q, g x (pick σ src) H Q → g x (pick σ src) H fun σ' H' => Ext (pick σ src) σ' ∧ Q σ' H'
def tComp (wi : TI) (src : List (Option Nat)) (g : TG) (tc : TT) (te : TE) : TE := fun σ H Q => wi σ H fun J H1 =>
  ∃ W : Nat → Nat → List V → Hp → Prop, (∃ m, W 0 m [] H1) ∧ ∀ i m out H', W i m out H' →
    (J.stop i H' ∧ ∀ D, H' D = none → Q (.ref D) (upd H' D (.lst out))) ∨
    (J.go i H' ∧ out.length < sizeLine ∧ ∀ x H2, J.yld i H' x H2 → g x (pick σ src) H2 fun σ3 H3 => tc σ3 H3 fun b H4 =>
      if b = true then te σ3 H4 fun v H5 => ∃ m', m' < m ∧ W (i + 1) m' (out ++ [v]) H5 else ∃ m', m' < m ∧ W (i + 1) m' out H4)
section
variable {X : Cx} {N : List Str} {src : List (Option Nat)} {scope : Scope} {tg iter elt : Expr} {ifs : List Expr} {pos : Pos} {wi : TI} {g : TG} {tc : TT} {te : TE}
def PIf (X : Cx) (ifs : List Expr) (t : TT) : Prop :=
  ∀ (pins : List (Addr × Obj)) (s : Shared) (σ : St) (H : Hp) (Q : Bool → Hp → Prop), Inv X pins σ H s → t σ H Q →
    wpAny (model X.prog X.w) X.A (forIn ifs true fun c r => if r = true then do let ok ← isTrue c X.env (eval c X.env); pure (ForInStep.yield ok) else pure (ForInStep.yield r)) (TP X pins σ Q) X.xe s
def tTrue : TT := fun _ H Q => Q true H
theorem pif_nil : PIf X [] tTrue := fun pins s σ H Q I h => wpAny_tests_nil ⟨H, I, h⟩
theorem pif_one {c : Expr} {t : TT} (h : PT X c t) : PIf X [c] t := fun pins s σ H Q I hw => wpAny_tests_one (h pins s σ H Q I hw)
theorem codeAny_compLoop_go {prog : Program} {w : World} {A : Around} {R : Result → Shared → Prop} {s : Shared} {elt target iter : Expr} {ifs : List Expr} {scope : Scope} {pos : Pos} {it acc : Value} {env : Env} {EE : Value → Shared → Prop} (hEE : ∀ x s', EE x s' → notedBy (model prog w) A env (fun e s' => R (.error e) s') x s') (I : Nat → Shared → Prop)
    (turn : ∀ n s, I n s → wpAny (model prog w) A (pyNext it) (fun r s₁ => match r with
      | none => R (.ok .next) s₁
      | some v => wpAny (model prog w) A (letOwnedTupleGo target it v) (fun _ s₁' => wpAny (model prog w) A (assign target env v) (fun _ s₂ =>
          wpAny (model prog w) A (forIn ifs true fun c r => if r = true then do let ok ← isTrue c env (eval c env); pure (ForInStep.yield ok) else pure (ForInStep.yield r)) (fun ok s₃ =>
            if ok = true then wpAny (model prog w) A (eval elt env) (fun x s₄ =>
              wpAny (model prog w) A (call (.builtin "list.append") [acc, x]) (fun _ s₅ => ∃ m, m < n ∧ I m s₅) EE s₄) EE s₃
            else ∃ m, m < n ∧ I m s₃) EE s₂) EE s₁') EE s₁) EE s)
    (n : Nat) (h : I n s) :
    codeAny (model prog w) A (.compLoop (.ListComp elt [⟨target, iter, ifs, 0⟩] scope pos) 0 it acc env) R s := by
  refine codeAny_loop rfl I (fun n s hI => ?_) n h
  show wpAny _ A ((compTurn (.ListComp elt [⟨target, iter, ifs, 0⟩] scope pos) 0 it acc env).onRaise (fun x => do noteFrame x env; theTreesLotGoes x)) _ _ s
  refine wpAny_noted ?_
  rw [compTurn_list]
  refine wpAny_bind (wpAny_standAt (wpAny_bind (wpAny_mono (turn n s hI) (fun r s₁ h₁ => ?_) hEE)))
  cases r with
  | none => exact wpAny_pure h₁
  | some v =>
    refine wpAny_bind (wpAny_mono h₁ (fun _ s₁' h₁' => ?_) hEE)
    refine wpAny_bind (wpAny_mono h₁' (fun _ s₂ h₂ => wpAny_bind (wpAny_mono h₂ (fun ok s₃ h₃ => ?_) hEE)) hEE)
    cases ok with
    | false => exact wpAny_pure ⟨rfl, h₃⟩
    | true =>
      exact wpAny_bind (wpAny_bind (wpAny_mono h₃ (fun x s₄ h₄ => wpAny_bind (wpAny_mono h₄ (fun _ s₅ h₅ => wpAny_pure (wpAny_pure ⟨rfl, h₅⟩)) hEE)) hEE))
def CompEnd (X : Cx) (pins : List (Addr × Obj)) (σ : St) (Q : VK) (D C : Addr) (s' : Shared) : Prop :=
  ∃ H' m, Inv X pins σ H' s' ∧ Q (.ref D) H' ∧ s'.heap.Ns C m ∧ H' C = none ∧ C ≠ X.env.locals ∧ X.s₀.heap.objs.size ≤ C ∧ (∀ x c, X.env.cells.lookup x = some c → c ≠ C) ∧ (∀ p ∈ X.pn ++ pins, p.1 ≠ C)
theorem comp_core {pins : List (Addr × Obj)} {s₂ : Shared} {σ : St} {H₂ : Hp} {Q : VK} {it : Addr} {fp : List Addr} {tn : Nat → Heap → Prop} {J : It} {E : Value → Shared → Prop} (S : CompScope X N src scope) (hc : X.calm = true)
    (hg : ∀ C s H ex pn, PG (cxC X N scope C s H ex pn) tg g) (hx : GExt g src) (hi : ∀ C s H ex pn, PIf (cxC X N scope C s H ex pn) ifs tc) (he : ∀ C s H ex pn, PE (cxC X N scope C s H ex pn) elt te)
    (I : Inv X pins σ H₂ s₂) (T : Turn X.prog X.w X.K tg J fp it tn) (st : tn 0 s₂.heap) (ff : ∀ b ∈ fp, FpOk X pins H₂ b)
    (W : Nat → Nat → List V → Hp → Prop) (w0 : ∃ m, W 0 m [] H₂)
    (turn : ∀ i m out H', W i m out H' → (J.stop i H' ∧ ∀ D, H' D = none → Q (.ref D) (upd H' D (.lst out))) ∨
      (J.go i H' ∧ out.length < sizeLine ∧ ∀ x H2, J.yld i H' x H2 → g x (pick σ src) H2 fun σ3 H3 => tc σ3 H3 fun b H4 =>
        if b = true then te σ3 H4 fun v H5 => ∃ m', m' < m ∧ W (i + 1) m' (out ++ [v]) H5 else ∃ m', m' < m ∧ W (i + 1) m' out H4))
    {RR : Value → Addr → Result → Shared → Prop} (hRR : ∀ D C s', CompEnd X pins σ Q D C s' → RR (.ref D) C (.ok .next) s') :
    wpAny (model X.prog X.w) X.A (newList []) (fun acc s₃ => wpAny (model X.prog X.w) X.A (newFunctionEnv scope X.env.globals (clOf X.env.cells scope.names) [] X.env.qual none .none (some X.env)) (fun cenv s₄ =>
      codeAny (model X.prog X.w) X.A (.compStart (.ListComp elt [⟨tg, iter, ifs, 0⟩] scope pos) 0 (.ref it) acc { cenv with scope := relabel scope X.env }) (RR acc cenv.locals) s₄) E s₃) E s₂ := by
  refine wpAny_newObj_type (wpAny_newFunctionEnv S.nocell (by intro y hy; simp at hy) (fun h₁ hns₁ hsb₁ => ?_) S.kind)
  dsimp only at hns₁ hsb₁ ⊢
  generalize hH2 : s₂.heap.push { cls := .type "list", dict := none, data := .seq ([] : List Value).toArray } = G2 at hns₁ hsb₁ ⊢
  have hC : G2.objs.size = s₂.heap.objs.size + 1 := by rw [← hH2, Heap.size_push]
  have hDC : s₂.heap.objs.size ≠ G2.objs.size := by rw [hC]; exact Nat.ne_of_lt (Nat.lt_succ_self _)
  have hCle : s₂.heap.objs.size ≤ G2.objs.size := by rw [hC]; exact Nat.le_succ _
  have old : ∀ b o, s₂.heap.get? b = some o → h₁.get? b = some o := fun b o e =>
    hsb₁.extBut b o (Nat.ne_of_lt (Nat.lt_of_lt_of_le (Heap.lt_size e) hCle)) (Heap.get?_push_of_some _ (hH2 ▸ Heap.get?_push_of_some _ e))
  have hacc : h₁.get? s₂.heap.objs.size = some { cls := .type "list", dict := none, data := .seq ([] : List Value).toArray } := hsb₁.extBut _ _ hDC (Heap.get?_push_of_some _ (hH2 ▸ Heap.get?_push_size _ rfl))
  generalize hCC : G2.objs.size = C at hC hDC hCle hns₁ hsb₁ ⊢
  have hCle' : s₂.heap.objs.size ≤ C := hCle
  generalize hD : s₂.heap.objs.size = D at hC hDC hCle hacc ⊢
  have clsub : ∀ x c, (clOf X.env.cells scope.names).lookup x = some c → X.env.cells.lookup x = some c := clOf_sub X.env.cells scope.names [] (by intro x c h; simp at h)
  have cellLt : ∀ x c, X.env.cells.lookup x = some c → c < s₂.heap.objs.size := fun x c e => by obtain ⟨v, q⟩ := I.cell x c e; exact q.lt
  have ffne : ∀ b ∈ fp, b < s₂.heap.objs.size := fun b hb => by
    obtain ⟨o, e, _⟩ := T.obj _ _ st b hb
    exact Heap.lt_size e
  -- the block's context
  have ok : (cxC X N scope C s₂ H₂ fp (X.pn ++ pins)).Ok := by
    refine ⟨I.ok.mod, S.kind, I.ok.glob, I.ok.blt, hCle', fun x y c h1 h2 => I.ok.inj x y c (clsub _ _ h1) (clsub _ _ h2), fun x hk => ?_, fun x c h => (nomatch h), I.ok.hd, I.ok.frames, .inl rfl, fun b hb => ⟨?_, fun x c h => ?_⟩,
      I.bs, Nat.le_trans I.ok.bsz I.sz, fun b o e hb => ?_, fun b hb hf => ?_, I.stack, I.stkFree⟩
    · -- cells for the names
      have hk : (relabel scope X.env).names.lookup x = some .cell ∨ (relabel scope X.env).names.lookup x = some .free := hk
      unfold relabel at hk
      dsimp only at hk
      rw [lookup_relabel] at hk
      cases hl : scope.names.lookup x with
      | none => rw [hl] at hk; rcases hk with z | z <;> cases z
      | some k =>
        rw [hl] at hk
        have hm := PySem.mem_of_lookup hl
        have hkf : k = .free := by
          by_cases hkf : k = .free
          · exact hkf
          · exfalso
            have e1 : (k == NameKind.free) = false := by simpa using hkf
            simp only [Option.map, e1, Bool.false_and, Bool.false_eq_true, if_false] at hk
            rcases hk with z | z
            · exact S.nocell _ hm (Option.some.inj z)
            · exact hkf (Option.some.inj z)
        subst hkf
        obtain ⟨c, hcx⟩ := I.ok.has x (S.fre _ hm rfl)
        exact ⟨c, clOf_has X.env.cells scope.names [] x c (by intro x c h; simp at h) hm hcx⟩
    · exact Nat.ne_of_lt (Nat.lt_of_lt_of_le (ffne b hb) hCle')
    · exact (ff b hb).2.2.2.2.1 x c (clsub _ _ h)
    · have q : b ∈ X.ex ∨ X.s₀.heap.objs.size ≤ b := (ff b hb).2.2.2.1
      rcases q with q | q
      · exact I.ok.noex b o e q
      · exact absurd (Nat.lt_of_lt_of_le (Heap.lt_size e) (Nat.le_trans I.ok.bsz q)) (Nat.lt_irrefl _)
    · rcases List.mem_cons.mp (I.stkSub b hf) with z | z
      · exact (ff b hb).2.1 z
      · exact (ff b hb).2.2.1 z
  have notin : ∀ p ∈ X.pn ++ pins, p.1 ∉ frs X.stack := fun p hp z => by
    obtain ⟨_, _, ne, nf, _⟩ := I.pin p hp
    rcases List.mem_cons.mp (I.stkSub _ z) with q | q
    · exact ne q
    · exact nf q
  have pinLt : ∀ p ∈ X.pn ++ pins, p.1 < s₂.heap.objs.size := fun p hp => Heap.lt_size (I.pin p hp).1
  have stkLt : ∀ b ∈ frs X.stack, b < s₂.heap.objs.size := fun b hb => by
    rcases List.mem_cons.mp (I.stkSub b hb) with z | z
    · rw [z]; exact I.lt
    · obtain ⟨_, o, ho, _⟩ := I.ok.funs.mem z
      exact Nat.lt_of_lt_of_le (Heap.lt_size ho) I.sz
  have loc0 : ∀ (i : Nat) (x : Str) (v : V), N[i]? = some x → (pick σ src)[i]? = some (some v) → ∃ u c, RelV v u ∧ (clOf X.env.cells scope.names).lookup x = some c ∧ s₂.heap.IsCell c (some u) ∧ scope.names.lookup x = some .free := fun i x v e1 e2 => by
    unfold pick at e2
    rw [List.getElem?_map] at e2
    cases es : src[i]? with
    | none => rw [es] at e2; cases e2
    | some o =>
      rw [es] at e2
      cases o with
      | none => cases e2
      | some j =>
        have e3 : (σ[j]?).join = some v := Option.some.inj e2
        have e4 : σ[j]? = some (some v) := by
          cases q : σ[j]? with
          | none => rw [q] at e3; cases e3
          | some z => rw [q] at e3; exact congrArg some e3
        obtain ⟨a1, a2, a3⟩ := S.src i j x es e1
        obtain ⟨m0, _, hl⟩ := I.loc
        obtain ⟨u, r, l⟩ := hl j x v a1 e4 a3
        have hm := PySem.mem_of_lookup a2
        have hk := S.fre _ hm rfl
        rcases l with ⟨k, _⟩ | ⟨_, c, hcx, z⟩
        · rcases hk with hk | hk <;> (rw [k] at hk; cases hk)
        · exact ⟨u, c, r, clOf_has X.env.cells scope.names [] x c (by intro x c h; simp at h) hm hcx, z, a2⟩
  have kinds : ∀ x, scope.names.lookup x = some .free → (compEnvC scope (clOf X.env.cells scope.names) C X.env).kindOf x = some .cell ∨ (compEnvC scope (clOf X.env.cells scope.names) C X.env).kindOf x = some .free := fun x hx => by
    show (relabel scope X.env).names.lookup x = some .cell ∨ (relabel scope X.env).names.lookup x = some .free
    unfold relabel
    dsimp only
    rw [lookup_relabel, hx]
    dsimp only [Option.map]
    split
    · exact .inl rfl
    · exact .inr rfl
  have Ic : Inv (cxC X N scope C s₂ H₂ fp (X.pn ++ pins)) [] (pick σ src) H₂ { s₂ with heap := h₁, toks := s₂.toks + ([] : List (Str × Value)).length } := by
    refine ⟨ok, rfl, I.bare, Un.kept old, ⟨_, hns₁, fun i x v e1 e2 e3 => ?_⟩, fun x c e => ?_, I.hok.fresh hCle', fun x c e => I.freeC x c (clsub x c e), fun p hp => ?_, I.hok.kept old, ?_⟩
    · obtain ⟨u, c, r, e5, ⟨o, ho, hd⟩, hf⟩ := loc0 i x v e1 e2
      exact ⟨u, r, .inr ⟨kinds x hf, c, e5, ⟨o, old _ _ ho, hd⟩⟩⟩
    · obtain ⟨v, o, ho, hd⟩ := I.cell x c (clsub x c e)
      exact ⟨v, o, old _ _ ho, hd⟩
    · have hp : p ∈ X.pn ++ pins := by simpa [cxC] using hp
      obtain ⟨e, n, _, _, d⟩ := I.pin p hp
      exact ⟨old _ _ e, n, Nat.ne_of_lt (Nat.lt_of_lt_of_le (pinLt p hp) hCle'), notin p hp, d⟩
    · show (pick σ src).length = N.length
      unfold pick
      rw [List.length_map, S.len]
  have hDle : s₂.heap.objs.size ≤ D := Nat.le_of_eq hD
  have DneStk : D ∉ frs X.stack := fun z => absurd (Nat.lt_of_lt_of_le (stkLt D z) hDle) (Nat.lt_irrefl _)
  have Dnefp : D ∉ fp := fun z => absurd (Nat.lt_of_lt_of_le (ffne D z) hDle) (Nat.lt_irrefl _)
  have fpOk : ∀ {pl : List (Addr × Obj)} {H' : Hp}, (∀ b ∈ fp, H' b = none) → (∀ p ∈ pl, p.1 ∉ fp) → ∀ b ∈ fp, FpOk (cxC X N scope C s₂ H₂ fp (X.pn ++ pins)) pl H' b := fun {pl H'} hn hpl b hb => by
    obtain ⟨f0, f1, f2, f3, f4, f5⟩ := ff b hb
    refine ⟨hn b hb, Nat.ne_of_lt (Nat.lt_of_lt_of_le (ffne b hb) hCle'), fun z => ?_, .inl hb, fun x c e => f4 x c (clsub x c e), fun p hp => ?_⟩
    · rcases List.mem_cons.mp (I.stkSub b z) with q | q
      · exact f1 q
      · exact f2 q
    · have hp : p ∈ (X.pn ++ pins) ++ pl := hp
      rcases List.mem_append.mp hp with hp | hp
      · exact f5 p hp
      · exact fun z => hpl p hp (z ▸ hb)
  -- back in the def's own frame
  have back : ∀ {s' : Shared} {H' : Hp} {out : List V} {its : List Value} {nn : Nat} {σ' : St}, Inv (cxC X N scope C s₂ H₂ fp (X.pn ++ pins)) [] σ' H' s' → H' D = none → out.length ≤ sizeLine → Vals out its →
      s'.heap.get? D = some { cls := .type "list", data := .seq its.toArray nn } → (∀ D, H' D = none → Q (.ref D) (upd H' D (.lst out))) → CompEnd X pins σ Q D C s' := fun {s' H' out its nn σ'} I' hn hl hv ho q => by
    obtain ⟨m, hm, _⟩ := I'.loc
    have un : Un (frs X.stack) fp H₂ H' s₂.heap s'.heap := I'.base
    have neD : ∀ b o, s₂.heap.get? b = some o → b ≠ D := fun b o e => Nat.ne_of_lt (Nat.lt_of_lt_of_le (Heap.lt_size e) hDle)
    have fD : H₂ D = none := I.hok.fresh hDle
    refine ⟨upd H' D (.lst out), m, ?_, q D hn, hm, by rw [upd_ne (Ne.symm hDC)]; exact I'.free, Nat.ne_of_gt (Nat.lt_of_lt_of_le I.lt hCle'), Nat.le_trans I.sz hCle', fun x c e => Nat.ne_of_lt (Nat.lt_of_lt_of_le (cellLt x c e) hCle'), fun p hp => Nat.ne_of_lt (Nat.lt_of_lt_of_le (pinLt p hp) hCle')⟩
    refine I.call' (ch := fp) I'.os ⟨un.keep, un.slot, fun b o e n hb => ?_, un.there, fun b xs e => ?_, fun b o u e => ?_, fun b ps e => ?_⟩ (fun b o e => ?_) I'.bare fun b hb => ?_
    · rw [upd_ne (neD b o e)]; exact un.free b o e n hb
    · rw [upd_ne (ne_of_none e fD)]; exact un.tups b xs e
    · rw [upd_ne (ne_of_none e fD)]; exact un.frzs b o u e
    · rw [upd_ne (ne_of_none e fD)]; exact un.tbls b ps e
    · by_cases hb : b = D
      · subst hb
        rw [upd_same] at e
        cases e
        exact ⟨hl, its, nn, hv, ho⟩
      · rw [upd_ne hb] at e
        refine (I'.hok b o e).stay (fun c v _ q => q) (fun c q => ?_) fun c xs q => ?_
        · rw [upd_ne (ne_of_none q hn)]; exact q
        · rw [upd_ne (ne_of_none q hn)]; exact q
    · obtain ⟨f0, f1, f2, f3, f4, f5⟩ := ff b hb
      exact ⟨f3, f1, f4, f5⟩
  obtain ⟨m0, w0⟩ := w0
  have loop : ∀ s₄ : Shared, s₄ = { s₂ with heap := h₁, toks := s₂.toks + ([] : List (Str × Value)).length } →
      codeAny (model X.prog X.w) X.A (.compLoop (.ListComp elt [⟨tg, iter, ifs, 0⟩] scope pos) 0 (.ref it) (.ref D) (compEnvC scope (clOf X.env.cells scope.names) C X.env)) (RR (.ref D) C) s₄ := by
    rintro s₄ rfl
    refine codeAny_compLoop_go (EE := fun _ _ => False) (fun _ _ f => f.elim) (fun n s' => ∃ i out its nn H', Inv (cxC X N scope C s₂ H₂ fp (X.pn ++ pins)) [] (pick σ src) H' s' ∧ H' D = none ∧ out.length ≤ sizeLine ∧ Vals out its ∧
      s'.heap.get? D = some { cls := .type "list", data := .seq its.toArray nn } ∧ tn i s'.heap ∧ (∀ b ∈ fp, H' b = none) ∧ W i n out H') ?_ m0
      ⟨0, [], [], 0, H₂, Ic, I.hok.fresh hDle, Nat.zero_le _, .nil, hacc, T.keep _ _ _ st fun b hb o e => old b o e, fun b hb => (ff b hb).1, w0⟩
    rintro n s3 ⟨i, out, its, nn, H3, I3, hD3, hl3, hv3, ho3, st3, fr3, w3⟩
    have dataNe : ∀ (its : List Value) (nn : Nat) (v : Option Value), ({ cls := .type "list", data := .seq its.toArray nn } : Obj).data ≠ .cell v := fun _ _ _ z => nomatch z
    have I3p : Inv (cxC X N scope C s₂ H₂ fp (X.pn ++ pins)) [(D, { cls := .type "list", data := .seq its.toArray nn })] (pick σ src) H3 s3 := I3.pins_of fun p hp => by
      have e : p = (D, { cls := .type "list", data := .seq its.toArray nn }) := by simpa using hp
      subst e
      exact ⟨ho3, hD3, hDC, DneStk, dataNe its nn⟩
    have nfp : ∀ p ∈ [((D, { cls := .type "list", data := .seq its.toArray nn }) : Addr × Obj)], p.1 ∉ fp := fun p hp => by
      have e : p = (D, { cls := .type "list", data := .seq its.toArray nn }) := by simpa using hp
      subst e
      exact Dnefp
    rcases turn i n out H3 w3 with ⟨stop, qn⟩ | ⟨go, hlt, step⟩
    · refine thn (T.done (cxC X N scope C s₂ H₂ fp (X.pn ++ pins)) rfl rfl rfl hc i _ s3 _ H3 _ I3p (fpOk fr3 nfp) st3 stop) fun r s4 ⟨hr, I4⟩ => ?_
      subst hr
      have p4 := (I4.pin (D, { cls := .type "list", data := .seq its.toArray nn }) (List.mem_append_right _ (by simp))).1
      exact hRR D C s4 (back (I4.pins_of (pins' := []) fun p hp => nomatch hp) hD3 hl3 hv3 p4 qn)
    · refine thn (T.item (cxC X N scope C s₂ H₂ fp (X.pn ++ pins)) rfl rfl rfl hc i _ s3 _ H3 _ I3p (fpOk fr3 nfp) st3 go) fun r s4 ⟨u, hr, h4⟩ => ?_
      subst hr
      refine thn h4 fun _ s5 ⟨x, H5, I5, r5, y5, st5, fr5⟩ => ?_
      have I5' := I5.pinned (fpOk fr5 nfp) (T.obj _ _ st5)
      refine thn (hg _ _ _ _ _ _ s5 _ H5 x u _ I5' r5 (hx x σ H5 _ (step x H5 y5))) fun _ s6 ⟨σ6, H6, I6, e6, q6⟩ => ?_
      have fin : ∀ {s7 : Shared} {H7 : Hp}, Inv (cxC X N scope C s₂ H₂ fp (X.pn ++ pins)) ([(D, { cls := .type "list", data := .seq its.toArray nn })] ++ pinsAt fp s5.heap) σ6 H7 s7 →
          Inv (cxC X N scope C s₂ H₂ fp (X.pn ++ pins)) [] (pick σ src) H7 s7 ∧ H7 D = none ∧ s7.heap.get? D = some { cls := .type "list", data := .seq its.toArray nn } ∧ tn (i + 1) s7.heap ∧ ∀ b ∈ fp, H7 b = none := fun {s7 H7} I7 => by
        have pD := I7.pin (D, { cls := .type "list", data := .seq its.toArray nn }) (List.mem_append_right _ (by simp))
        refine ⟨(I7.pins_of (pins' := []) fun p hp => nomatch hp).weak e6.1.symm e6.2, pD.2.1, pD.1, T.keep _ _ _ st5 fun b hb o e => (I7.pin (b, o) (List.mem_append_right _ (List.mem_append_right _ (mem_pinsAt hb e)))).1, fun b hb => ?_⟩
        obtain ⟨o, e, d⟩ := T.obj _ _ st5 b hb
        exact (I7.pin (b, o) (List.mem_append_right _ (List.mem_append_right _ (mem_pinsAt hb e)))).2.1
      refine thn (hi _ _ _ _ _ _ s6 σ6 H6 _ I6 q6) fun b s7 ⟨H7, I7, q7⟩ => ?_
      cases b with
      | false =>
        rw [if_neg Bool.false_ne_true] at q7 ⊢
        obtain ⟨m', hm, w7⟩ := q7
        obtain ⟨J7, d7, o7, t7, f7⟩ := fin I7
        exact ⟨m', hm, i + 1, out, its, nn, H7, J7, d7, hl3, hv3, o7, t7, f7, w7⟩
      | true =>
        rw [if_pos rfl] at q7 ⊢
        refine thn (he _ _ _ _ _ _ s7 σ6 H7 _ I7 q7) fun v s8 ⟨y, H8, I8, r8, m', hm, w8⟩ => ?_
        obtain ⟨J8, d8, o8, t8, f8⟩ := fin I8
        have hsz : its.toArray.size ≤ sizeLine := by rw [List.size_toArray, ← hv3.length]; exact hl3
        refine wpAny_list_append_plain (items := its.toArray) (hsz := hsz) ⟨nn, o8⟩ fun h9 ⟨n9, e9⟩ sb => ?_
        have J9 : Inv (cxC X N scope C s₂ H₂ fp (X.pn ++ pins)) [] (pick σ src) H8 { s8 with heap := h9 } := J8.turned (t' := s8.toks) (it := D) (fun b o hb e => (sb.2 b hb).trans e) d8 hDC (.inr hDle) (fun x c e => Nat.ne_of_lt (Nat.lt_of_lt_of_le (cellLt x c (clsub x c e)) hDle)) fun p hp => by
          have hp : p ∈ X.pn ++ pins := by simpa [cxC] using hp
          exact Nat.ne_of_lt (Nat.lt_of_lt_of_le (pinLt p hp) hDle)
        refine ⟨m', hm, i + 1, out ++ [y], its ++ [v], n9, H8, J9, d8, ?_, hv3.append (.cons r8 .nil), ?_, T.keep _ _ _ t8 fun b hb o e => (sb.2 b (fun z => Dnefp (z ▸ hb))).trans e, f8, w8⟩
        · rw [List.length_append]; exact hlt
        · rw [e9]; simp
  exact codeAny_compStart_list (loop _ rfl) (T.self _ _ _ _ _ (T.keep _ _ _ st fun b hb o e => old b o e) (loop _ rfl))
theorem pe_comp (S : CompScope X N src scope) (hc : X.calm = true) (hit : PI X tg iter wi)
    (hg : ∀ C s H ex pn, PG (cxC X N scope C s H ex pn) tg g) (hx : GExt g src) (hi : ∀ C s H ex pn, PIf (cxC X N scope C s H ex pn) ifs tc) (he : ∀ C s H ex pn, PE (cxC X N scope C s H ex pn) elt te)
    (hs : ∀ x, foldedSetIterable iter X.env x = pure x := by intro _; rfl) : PE X (.ListComp elt [⟨tg, iter, ifs, 0⟩] scope pos) (tComp wi src g tc te) := by
  intro pins s σ H Q I h
  rw [eval_ListComp]
  have hcl : closureFor scope X.env = pure (clOf X.env.cells scope.names) := closureFor_cl fun y hy hf => I.ok.has y.1 (S.fre y hy hf)
  refine wpAny_comprehension_free (use := none) rfl hs hcl S.kind S.loc (thn (hit pins s σ H _ I h) fun v s1 h1 => thn h1 fun itv s2 h2 => ?_)
  obtain ⟨it, fp, tn, J, H2, e, I2, T, st2, f2, W, w0, turn⟩ := h2
  subst e
  refine comp_core (RR := fun acc C => compPost (model X.prog X.w) X.A X.xe none (EP X pins σ Q) acc C) S hc hg hx hi he I2 T st2 f2 W w0 turn fun D C s' ⟨H', m, I', q, hm, hn, h1, h2, h3, h4⟩ => ?_
  exact ⟨m, hm, fun h' sb => ⟨.ref D, H', I'.turned (t' := s'.toks) (it := C) (fun b o hb e => (sb.2 b hb).trans e) hn h1 (.inr h2) h3 h4, rfl, q⟩⟩
theorem ps_setcomp {i : Nat} {x : Str} {pos' spos : Pos} (hN : X.N.Nodup) (hix : X.N[i]? = some x) (hlx : X.env.scope.names.lookup x = some .local)
    (S : CompScope X N src scope) (hc : X.calm = true) (hit : PI X tg iter wi)
    (hg : ∀ C s H ex pn, PG (cxC X N scope C s H ex pn) tg g) (hx : GExt g src) (hi : ∀ C s H ex pn, PIf (cxC X N scope C s H ex pn) ifs tc) (he : ∀ C s H ex pn, PE (cxC X N scope C s H ex pn) elt te)
    (hsw : swapsWith (.ListComp elt [⟨tg, iter, ifs, 0⟩] scope pos) (some (.Name x pos')) spos.line X.env = pure true := by rfl)
    (hs : ∀ x, foldedSetIterable iter X.env x = pure x := by intro _; rfl) : PS X (.Assign [.Name x pos'] (.ListComp elt [⟨tg, iter, ifs, 0⟩] scope pos) spos) (tAsg (tComp wi src g tc te) (gName i)) := by
  intro pins s σ H D I h
  rw [exec_Assign_Name_used _ _ _ _ hsw]
  refine wpAny_bind (wpAny_standAt (wpAny_bind ?_))
  have hcl : closureFor scope X.env = pure (clOf X.env.cells scope.names) := closureFor_cl fun y hy hf => I.ok.has y.1 (S.fre y hy hf)
  show wpAny _ X.A (do let _ ← comprehension (.ListComp elt [⟨tg, iter, ifs, 0⟩] scope pos) scope X.env _ (newList []) false (eval iter X.env) (some (assign (.Name x pos') X.env))) _ _ s
  refine wpAny_bind (wpAny_mono (wpAny_comprehension_free (use := some (assign (.Name x pos') X.env)) (Q := fun _ s' => ∃ σ' H', Inv X pins σ' H' s' ∧ D.nx σ' H') rfl hs hcl S.kind S.loc (thn (hit pins s σ H _ I h) fun v s1 h1 => thn h1 fun itv s2 h2 => ?_))
    (fun _ s' hq => wpAny_pure (wpAny_pure hq)) fun _ _ e => e)
  obtain ⟨it, fp, tn, J, H2, e, I2, T, st2, f2, W, w0, turn⟩ := h2
  subst e
  refine comp_core (Q := fun v H1 => D.nx (σ.set i (some v)) H1) (RR := fun acc C => compPost (model X.prog X.w) X.A X.xe (some (assign (.Name x pos') X.env)) (fun _ s' => ∃ σ' H', Inv X pins σ' H' s' ∧ D.nx σ' H') acc C) S hc hg hx hi he I2 T st2 f2 W w0 turn fun D' C s' ⟨H', m, I', q, hm, hn, h1, h2, h3, h4⟩ => ?_
  show wpAny _ X.A (assign (.Name x pos') X.env (.ref D')) _ _ _
  refine wpAny_assign_Name (store_ok2 I' hN hix (.inl hlx) (v := .ref D') rfl (fun s'' I'' ⟨a, sb, ha⟩ => ?_) (.inr hlx))
  have hCa : C ≠ a := by
    rcases ha with ha | ha
    · rw [ha]; exact h1
    · exact Ne.symm (h3 _ _ ha)
  refine ⟨m, hm.sameBut sb hCa, fun h'' sb2 => ⟨_, H', I''.turned (t' := s''.toks) (it := C) (fun b o hb e => (sb2.2 b hb).trans e) hn h1 (.inr h2) h3 h4, q⟩⟩
end
theorem pick_none {σ : St} {src : List (Option Nat)} {i : Nat} (h : src[i]? = some none) : (pick σ src)[i]? = some none := by
  unfold pick
  rw [List.getElem?_map, h]
  rfl
theorem Ext.set {σ0 σ : St} {i : Nat} {v : V} (h : σ0[i]? = some none) (e : Ext σ0 σ) : Ext σ0 (σ.set i (some v)) := by
  refine ⟨by rw [List.length_set]; exact e.1, fun j w hj => ?_⟩
  have : i ≠ j := by
    rintro rfl
    rw [h] at hj
    cases hj
  rw [List.getElem?_set_ne this]
  exact e.2 j w hj
theorem Ext.refl (σ : St) : Ext σ σ := ⟨rfl, fun _ _ h => h⟩
theorem gx_name {src : List (Option Nat)} {i : Nat} (h : src[i]? = some none) : GExt (gName i) src := fun x σ H Q q => ⟨(Ext.refl _).set (pick_none h), q⟩
theorem gx_tup2 {K : PySem.W.Frag} {n : Nat} {src : List (Option Nat)} {i j : Nat} (h : src[i]? = some none) (h' : src[j]? = some none) : GExt (gTup K n (gCons (gName i) (gCons (gName j) gNil))) src := fun x σ H Q q => by
  obtain ⟨a, xs, e1, hs, hl, v, r, e2, v2, r2, e3, e4, q⟩ := q
  exact ⟨a, xs, e1, hs, hl, v, r, e2, v2, r2, e3, e4, ((Ext.refl _).set (pick_none h)).set (pick_none h'), q⟩
theorem all_bools {xs : List V} {its : List Value} {bs : List Bool} (hv : Vals xs its) (hb : xs = bs.map V.bl) : ∀ (i : Nat) (v : Value), its.toArray[i]? = some v → v = Value.bool ((bs[i]?).getD false) := by
  subst hb
  intro i v h
  have h' : its[i]? = some v := by simpa using h
  have hl := hv.length
  rw [List.length_map] at hl
  have hi : i < its.length := (List.getElem?_eq_some_iff.mp h').1
  have hb : bs[i]? = some (bs[i]'(by omega)) := by simp
  obtain ⟨u, hu, r⟩ := hv.get (i := i) (x := V.bl (bs[i]'(by omega))) (by rw [List.getElem?_map, hb]; rfl)
  rw [h'] at hu
  cases hu
  rw [hb]
  exact r
theorem range_all {bs : List Bool} : (List.range bs.length).all (fun i => (bs[i]?).getD false) = bs.all id := by
  rw [Bool.eq_iff_iff, List.all_eq_true, List.all_eq_true]
  constructor
  · intro h b hb
    obtain ⟨i, hi, rfl⟩ := List.mem_iff_getElem.mp hb
    have := h i (List.mem_range.mpr hi)
    simpa [hi] using this
  · intro h i hi
    have hi := List.mem_range.mp hi
    simpa [hi] using h _ (List.getElem_mem hi)
section
variable {X : Cx}
theorem call_all_list (hc : X.calm = true) : CallR X (.builtin "all") (fun xs H Q => ∃ (a : Addr) (bs : List Bool), xs = [.ref a] ∧ SqL X.K H a (bs.map V.bl) ∧ Q (.bl (bs.all id)) H) := by
  intro pins s σ H xs us Q I r h
  obtain ⟨a, bs, rfl, hq, q⟩ := h
  obtain ⟨u, rfl, ru⟩ := vals1 r
  cases ru
  obtain ⟨its, rv, p, hz⟩ := I.list hq
  have hl := rv.length
  rw [List.length_map] at hl
  refine call_all_walk (wpAny_pyIter_list p.isList ?_)
  refine ⟨s.heap.objs.size, _, _, _, _, _, fun i => (bs[i]?).getD false, rfl, Walks.list (A := X.A.in1) (I.ok.hd hc) s.heap.objs.size a (Nat.ne_of_lt p.lt) its.toArray, ⟨⟨_, Heap.get?_push_size _ rfl, rfl, rfl⟩, p.isList.at fun o e => Heap.get?_push_of_some _ e⟩, ?_, fun h' tk hk => ?_⟩
  · intro i v s' Q' E' hv hQ
    rw [all_bools rv rfl i v hv]
    exact wpAny_truthy_bool hQ
  · have e : its.toArray.size = bs.length := by rw [List.size_toArray, ← hl]
    rw [e, range_all]
    exact ⟨.bl (bs.all id), H, I.kept (h' := h') (t' := tk) (fun b o e => hk b o (by simpa using Nat.ne_of_lt (Heap.lt_size e)) (Heap.get?_push_of_some _ e)), rfl, q⟩
end
end L2
namespace L2
open PySem PySem.Spec PyProof.Rows
def ownOf : HO → Option Addr
  | .ins _ dx _ => some dx
  | .frz _ u => ownOf u
  | _ => none
structure Fg (H H' G : Hp) : Prop where
  sub : ∀ b o, G b = some o → H' b = some o
  dom : ∀ b o, H b = some o → ∃ o', G b = some o'
  own : ∀ a o dx, G a = some o → ownOf o = some dx → (∃ o', H a = some o' ∧ ownOf o' = some dx) ∨ ∃ o', G dx = some o'
section
variable {X : Cx} {pins : List (Addr × Obj)} {σ σ' : St} {H H' G : Hp} {s s' : Shared}
end
end L2
namespace L2
open PySem PySem.Spec PyProof.Rows
theorem bt_len : bootBuiltins "len" = some (.builtin "len") := PySem.boot_len
theorem bt_all : bootBuiltins "all" = some (.builtin "all") := boot_all
theorem bt_isinstance : bootBuiltins "isinstance" = some (.builtin "isinstance") := boot_isinstance
theorem bt_int : bootBuiltins "int" = some (.type "int") := PyProof.Rows.boot_int
theorem bt_bool : bootBuiltins "bool" = some (.type "bool") := PyProof.Rows.boot_bool
theorem bt_str : bootBuiltins "str" = some (.type "str") := PyProof.Rows.boot_str
theorem bt_tuple : bootBuiltins "tuple" = some (.type "tuple") := PyProof.Rows.boot_tuple
theorem bt_list : bootBuiltins "list" = some (.type "list") := PyProof.Rows.boot_list
theorem bt_set : bootBuiltins "set" = some (.type "set") := PyProof.Rows.boot_set
inductive Kd where
  | non | bl | int | str | lst | tup | dct
  deriving DecidableEq
def Kd.name : Kd → String
  | .non => "NoneType" | .bl => "bool" | .int => "int" | .str => "str" | .lst => "list" | .tup => "tuple" | .dct => "dict"
inductive KdOf (H : Hp) : V → Kd → Prop where
  | non : KdOf H .non .non
  | bl (b : Bool) : KdOf H (.bl b) .bl
  | int (i : Int) : KdOf H (.int i) .int
  | str (x : Str) : KdOf H (.str x) .str
  | lst {a : Addr} {xs : List V} (e : H a = some (.lst xs)) : KdOf H (.ref a) .lst
  | tup {a : Addr} {xs : List V} (e : H a = some (.tup xs)) : KdOf H (.ref a) .tup
  | dct {a : Addr} {kvs : List (Key × V)} (e : H a = some (.dK kvs)) : KdOf H (.ref a) .dct
theorem KdOf.ty {K : PySem.W.Frag} {H : Hp} {x : V} {k : Kd} (h : KdOf H x k) : TyOf K H x (.type k.name) := by
  cases h with
  | non => exact .non
  | bl b => exact .bl b
  | int i => exact .int i
  | str x => exact .str x
  | lst e => exact .lst e
  | tup e => exact .tup e
  | dct e => exact .dK e
def isaT (T : String) : Option (Kd → Bool) :=
  if T = "int" then some fun k => match k with | .int => true | .bl => true | _ => false
  else if T = "bool" then some fun k => match k with | .bl => true | _ => false
  else if T = "str" then some fun k => match k with | .str => true | _ => false
  else if T = "tuple" then some fun k => match k with | .tup => true | _ => false
  else if T = "list" then some fun k => match k with | .lst => true | _ => false
  else if T = "dict" then some fun k => match k with | .dct => true | _ => false
  else none
theorem isaT_kit {K : PySem.W.Frag} {T : String} {g : Kd → Bool} (h : isaT T = some g) (k : Kd) : PySem.W.kitOne K (.type k.name) (.type T) = some (g k) := by
  unfold isaT at h
  split at h
  · rename_i e; subst e; cases h; cases k <;> rfl
  · split at h
    · rename_i e; subst e; cases h; cases k <;> rfl
    · split at h
      · rename_i e; subst e; cases h; cases k <;> rfl
      · split at h
        · rename_i e; subst e; cases h; cases k <;> rfl
        · split at h
          · rename_i e; subst e; cases h; cases k <;> rfl
          · split at h
            · rename_i e; subst e; cases h; cases k <;> rfl
            · cases h
section
variable {X : Cx}
theorem call_isi : CallR X (.builtin "isinstance") (fun xs H Q => ∃ x T k g, xs = [x, .ty T] ∧ isaT T = some g ∧ KdOf H x k ∧ Q (.bl (g k)) H) := by
  intro pins s σ H xs us Q I r h
  obtain ⟨x, T, k, g, rfl, hg, hk, q⟩ := h
  obtain ⟨v, w', rfl, rv, rw'⟩ := vals2 r
  cases rw'
  exact isinst_ok I rv hk.ty (isaT_kit hg k) fun tk => ⟨.bl (g k), H, I.tok tk, rfl, q⟩
end
mutual
def Dt (K : PySem.W.Frag) (H : Hp) : PyData → V → Prop
  | .none, v => v = .non
  | .bool b, v => v = .bl b
  | .int i, v => v = .int i
  | .str z, v => v = .str z
  | .list ds, v => ∃ a xs, v = .ref a ∧ SqL K H a xs ∧ DtAll K H ds xs
  | .tuple ds, v => ∃ a xs, v = .ref a ∧ SqT K H a xs ∧ DtAll K H ds xs
  | .dict _, _ => False
def DtAll (K : PySem.W.Frag) (H : Hp) : List PyData → List V → Prop
  | [], xs => xs = []
  | d :: ds, xs => ∃ y ys, xs = y :: ys ∧ Dt K H d y ∧ DtAll K H ds ys
end
section
variable {X : Cx} {pins : List (Addr × Obj)} {σ : St} {H : Hp} {s : Shared}
mutual
theorem Inv.reads (I : Inv X pins σ H s) : ∀ (d : PyData) {x : V} {u : Value}, Dt X.K H d x → RelV x u → ∃ as, Reads s.heap u d as
  | .none, x, u, h, r => by
    have h : x = .non := by simpa only [Dt] using h
    subst h; cases r; exact ⟨_, .none⟩
  | .bool b, x, u, h, r => by
    have h : x = .bl b := by simpa only [Dt] using h
    subst h; cases r; exact ⟨_, .bool b⟩
  | .int i, x, u, h, r => by
    have h : x = .int i := by simpa only [Dt] using h
    subst h; obtain ⟨t, rfl⟩ := r; exact ⟨_, .int i t⟩
  | .str z, x, u, h, r => by
    have h : x = .str z := by simpa only [Dt] using h
    subst h; obtain ⟨t, rfl⟩ := r; exact ⟨_, .str z t⟩
  | .list ds, x, u, h, r => by
    have h : ∃ a xs, x = .ref a ∧ SqL X.K H a xs ∧ DtAll X.K H ds xs := by simpa only [Dt] using h
    obtain ⟨a, xs, rfl, hq, hd⟩ := h
    cases r
    obtain ⟨its, rv, p, _⟩ := I.list hq
    obtain ⟨as, ra⟩ := Inv.readsAll I ds hd rv
    obtain ⟨o, e, c, n, d⟩ := p.isList
    exact ⟨_, .list e c d (by simpa using ra)⟩
  | .tuple ds, x, u, h, r => by
    have h : ∃ a xs, x = .ref a ∧ SqT X.K H a xs ∧ DtAll X.K H ds xs := by simpa only [Dt] using h
    obtain ⟨a, xs, rfl, hq, hd⟩ := h
    cases r
    obtain ⟨its, rv, p, _⟩ := I.tuple hq
    obtain ⟨as, ra⟩ := Inv.readsAll I ds hd rv
    obtain ⟨o, e, c, n, d⟩ := p
    exact ⟨_, .tuple e c d (by simpa using ra)⟩
  | .dict _, x, u, h, r => by
    have h : False := by simpa only [Dt] using h
    exact h.elim
theorem Inv.readsAll (I : Inv X pins σ H s) : ∀ (ds : List PyData) {xs : List V} {us : List Value}, DtAll X.K H ds xs → Vals xs us → ∃ as, ReadsAll s.heap us ds as
  | [], xs, us, h, r => by
    have h : xs = [] := by simpa only [DtAll] using h
    subst h; cases r; exact ⟨_, .nil⟩
  | d :: ds, xs, us, h, r => by
    have h : ∃ y ys, xs = y :: ys ∧ Dt X.K H d y ∧ DtAll X.K H ds ys := by simpa only [DtAll] using h
    obtain ⟨y, ys, rfl, h1, h2⟩ := h
    cases r with
    | cons r1 r2 =>
      obtain ⟨as, ra⟩ := Inv.reads I d h1 r1
      obtain ⟨bs, rb⟩ := Inv.readsAll I ds h2 r2
      exact ⟨_, .cons ra rb⟩
end
end
def rEqD (K : PySem.W.Frag) (neg : Bool) : R2 := fun x y H Q => ∃ d e, Dt K H d x ∧ Dt K H e y ∧ d.canLay0 = true ∧ e.canLay0 = true ∧ (d.depth ≤ 64 ∨ e.depth ≤ 64) ∧ Q (.bl (if neg then !PyData.eqv d e else PyData.eqv d e)) H
section
variable {X : Cx}
theorem op_eqD (hu : X.A.units + 64 < cLine) : OpR X (compareOp .Eq) (rEqD X.K false) := by
  intro pins s σ H x y v u Q I rx ry h
  obtain ⟨d, e, hd, he, cd, ce, dp, q⟩ := h
  obtain ⟨as, ra⟩ := I.reads d hd rx
  obtain ⟨bs, rb⟩ := I.reads e he ry
  exact SeqAt.compareEq_reads ra rb cd ce (by rcases dp with dp | dp <;> omega) (fin_bl I q rfl)
theorem op_neD (hu : X.A.units + 64 < cLine) : OpR X (compareOp .NotEq) (rEqD X.K true) := by
  intro pins s σ H x y v u Q I rx ry h
  obtain ⟨d, e, hd, he, cd, ce, dp, q⟩ := h
  obtain ⟨as, ra⟩ := I.reads d hd rx
  obtain ⟨bs, rb⟩ := I.reads e he ry
  exact SeqAt.compareNe_reads ra rb cd ce (by rcases dp with dp | dp <;> omega) (fin_bl I q rfl)
end
theorem sLe_one (a b : Nat) : sLe ⟨#[a]⟩ ⟨#[b]⟩ = decide (a ≤ b) := by
  unfold sLe
  have e : ([b] < [a]) ↔ b < a := by
    rw [List.cons_lt_cons_iff]
    constructor
    · rintro (h | ⟨_, h⟩)
      · exact h
      · exact absurd h (List.not_lt_nil _)
    · exact .inl
  rw [Bool.eq_iff_iff]
  show (!decide ([b] < [a])) = true ↔ _
  rw [Bool.not_eq_true', decide_eq_false_iff_not, e, decide_eq_true_iff]
  omega
end L2
namespace L2
open PySem PySem.Spec PyProof.Rows
def chkC (sc : Scope) (N0 N : List Str) (src : List (Option Nat)) (scope : Scope) : Bool :=
  decide (scope.kind = .function) && (scope.names.all (fun y => decide (y.2 ≠ .cell) && (decide (y.2 ≠ .local) || decide (scope.names.lookup y.1 = some .local)) && (decide (y.2 ≠ .free) || (decide (sc.names.lookup y.1 = some .cell) || decide (sc.names.lookup y.1 = some .free)))) &&
    (decide (src.length = N.length) && (List.range src.length).all fun i => match src[i]?, N[i]? with
      | some (some j), some x => decide (N0[j]? = some x) && (decide (scope.names.lookup x = some .free) && (decide (sc.names.lookup x = some .cell) || decide (sc.names.lookup x = some .free)))
      | _, _ => true))
theorem csc {X : Cx} {N : List Str} {src : List (Option Nat)} {scope : Scope} (sc : Scope) (N0 : List Str) (hs : X.env.scope = sc) (hN : X.N = N0) (h : chkC sc N0 N src scope = true) : CompScope X N src scope := by
  unfold chkC at h
  simp only [Bool.and_eq_true, decide_eq_true_eq, List.all_eq_true, Bool.or_eq_true] at h
  obtain ⟨h1, h2, h3, h4⟩ := h
  refine ⟨h1, fun y hy => (h2 y hy).1.1, fun y hy e => ?_, fun y hy e => ?_, h3, fun i j x e1 e2 => ?_⟩
  · rcases (h2 y hy).1.2 with z | z
    · exact absurd e z
    · exact z
  · rcases (h2 y hy).2 with z | z
    · exact absurd e z
    · show X.env.scope.names.lookup y.1 = some .cell ∨ X.env.scope.names.lookup y.1 = some .free
      rw [hs]; exact z
  · have hi : i < src.length := (List.getElem?_eq_some_iff.mp e1).1
    have q := h4 i (List.mem_range.mpr hi)
    rw [e1, e2] at q
    simp only [Bool.and_eq_true, decide_eq_true_eq, Bool.or_eq_true] at q
    refine ⟨by rw [hN]; exact q.1, q.2.1, ?_⟩
    unfold Vis
    rw [hs]
    exact .inr q.2.2
end L2
namespace L2
open PySem PySem.Spec PyProof.Rows
section
variable {X : Cx}
end
theorem atI_mod {α : Type} {l : List α} {i : Int} (h0 : 0 ≤ i) (h1 : i < l.length) : ∃ v, atI l i = some v ∧ l[i.toNat]? = some v := by
  obtain ⟨j, rfl⟩ := Int.eq_ofNat_of_zero_le h0
  have hj : j < l.length := by omega
  exact ⟨l[j], atI_nat (by simp [hj]), by simp [hj]⟩
theorem ifb {c : Bool} {A B : Prop} (h : c = true → A) (h' : c = false → B) : if c = true then A else B := by
  cases c with
  | true => exact h rfl
  | false => exact h' rfl
theorem nt {b : Bool} (h : (!b) = true) : b = false := by cases b <;> simp_all
theorem nf {b : Bool} (h : (!b) = false) : b = true := by cases b <;> simp_all
def isaInt : Kd → Bool | .int => true | .bl => true | _ => false
def isaBool : Kd → Bool | .bl => true | _ => false
def isaStr : Kd → Bool | .str => true | _ => false
def isaTuple : Kd → Bool | .tup => true | _ => false
theorem isa_int : isaT "int" = some isaInt := if_pos rfl
theorem isa_bool : isaT "bool" = some isaBool := (if_neg (by decide)).trans (if_pos rfl)
theorem isa_str : isaT "str" = some isaStr := (if_neg (by decide)).trans ((if_neg (by decide)).trans (if_pos rfl))
theorem isa_tuple : isaT "tuple" = some isaTuple := (if_neg (by decide)).trans ((if_neg (by decide)).trans ((if_neg (by decide)).trans (if_pos rfl)))
theorem len_pos {z : Str} (h : 1 ≤ z.cps.size) : ∃ c r, z.cps.toList = c :: r := by
  cases e : z.cps.toList with
  | nil =>
    have : z.cps.toList.length = 0 := by rw [e]; rfl
    rw [Array.length_toList] at this
    omega
  | cons c r => exact ⟨c, r, rfl⟩
theorem at0 {α : Type} {l : List α} {c : α} {r : List α} (e : l = c :: r) : atI l 0 = some c := by
  have : l[0]? = some c := by rw [e]; rfl
  exact atI_nat (j := 0) this
def isPlain : Expr → Bool
  | .Starred _ _ => false
  | _ => true
theorem star_plain {e : Expr} {es : List Expr} {env : Env} (h : isPlain e = true) : starEach (e :: es) env = (false, eval e env) :: starEach es env := by
  cases e <;> first
    | rfl
    | exact absurd h Bool.false_ne_true
theorem pa2 {X : Cx} {e : Expr} {es : List Expr} {te : TE} {t : TA} (ha : PE X e te) (hr : PA X es t) (hp : isPlain e = true := by rfl) : PA X (e :: es) (tCons te t) := pa_cons ha hr (star_plain hp)
end L2
namespace HT
open PySem PyProof.Rows
open PySem.SeqAt
open PySem.AutoSeq1 (wpAny_loadPart')
open PySem.MeetsSeq PySem.MeetsSeq2 PySem.MeetsSeq3
end HT
namespace L2
open PySem PySem.Spec PyProof.Rows
section
variable {X : Cx}
end
section
variable {X : Cx} {K : PySem.W.Frag}
end
end L2
namespace L2
open PySem PySem.Spec PyProof.Rows
theorem ObjOk.get {P : Program} {w : World} {H : Hp} {h : Heap} {a : Addr} {o : HO} (x : ObjOk P w H h a o) : ∃ u, h.get? a = some u := by
  cases o with
  | lst xs => obtain ⟨_, _, _, _, e⟩ := x; exact ⟨_, e⟩
  | tup xs => obtain ⟨_, _, _, ob, e, _⟩ := x; exact ⟨_, e⟩
  | dK kvs => obtain ⟨_, _, _, _, o, _, _, e, _⟩ := x; exact ⟨_, e⟩
  | dT kvs => exact False.elim x
  | set S n => obtain ⟨o, _, _, _, e, _⟩ := x; exact ⟨_, e⟩
  | ins C dx fs => obtain ⟨_, _, _, e, _⟩ := x; exact ⟨_, e⟩
  | own y => obtain ⟨_, e⟩ := x; exact ⟨_, e⟩
  | xd fs => obtain ⟨_, ⟨_, _, _, e, _⟩, _⟩ := x; exact ⟨_, e⟩
  | rng lo hi => obtain ⟨_, _, _, e⟩ := x; exact ⟨_, e⟩
  | frz ob u => obtain ⟨e, _⟩ := x; exact ⟨_, e⟩
  | tbl ps => exact ⟨_, show h.get? a = some _ from x⟩
  | met f y => exact ⟨_, show h.get? a = some _ from x⟩
  | ext φ => obtain ⟨_, e, _⟩ := x; exact e
structure Fly (P : Program) (w : World) (outer : List Env) (H H' : Hp) (h0 : Heap) (a : Addr) (cls a0 : Value) (B h : Heap) : Prop where
  fl : Heap.FlyingW B outer a cls a0 h
  hok : HOk P w H' B
  keep : ∀ b o, h0.get? b = some o → H b = none → b ∉ frs outer → B.get? b = some o
  there : ∀ b o, h0.get? b = some o → b ∉ frs outer → ∃ o', B.get? b = some o'
  slot : ∀ b o, h0.get? b = some o → b ∈ frs outer → ∃ sl, h.get? b = some { o with slots := sl }
  free : ∀ b o, h0.get? b = some o → H b = none → H' b = none
  tups : ∀ b xs, H b = some (.tup xs) → H' b = some (.tup xs)
  frzs : ∀ b o u, H b = some (.frz o u) → H' b = some (.frz o u)
  tbls : ∀ b ps, H b = some (.tbl ps) → ∃ more, H' b = some (.tbl (ps ++ more))
section
variable {P : Program} {w : World} {outer : List Env} {H H' : Hp} {h0 : Heap} {a : Addr} {cls a0 : Value} {B h h2 : Heap}
end
def CXR (P : Program) (w : World) : CXT := fun outer H s E e s' =>
  ∃ a cls a0 B H', e = .ref a ∧ s'.os = s.os ∧ AllBare s'.gens ∧ Fly P w outer H H' s.heap a cls a0 B s'.heap ∧ E cls none H'
structure Leaves (X : Cx) (E : XK) : Prop where
  ex : X.ex = []
  st : X.stack = X.env :: X.outer
  fr : X.env.frame = some X.env.locals
  xe : ∀ e s', wpAny (model X.prog X.w) X.A (leaving X.env e) (fun _ s'' => CXR X.prog X.w X.outer X.H₀ X.s₀ E e s'') (fun e' s'' => CXR X.prog X.w X.outer X.H₀ X.s₀ E e' s'') s' → X.xe e s'
theorem leaves_of {P : Program} {w : World} {K : PySem.W.Frag} {mg : Str → Option Value} {base : Heap} {N : List Str} {qual : Str} {scope : Scope} {f : Addr} {cd : Value} {A : Around} {outer : List Env} {s : Shared} {H : Hp} {E : XK} :
    Leaves (cxOf (CXR P w) P w K mg base N qual scope f cd A outer s H E) E := ⟨rfl, rfl, rfl, fun _ _ h => h⟩
section
variable {X : Cx} {pins : List (Addr × Obj)} {σ : St} {H H' : Hp} {s : Shared} {E E' : XK}
theorem Leaves.mem (L : Leaves X E) {b : Addr} : b ∈ frs X.stack ↔ b = X.env.locals ∨ b ∈ X.fs := by
  unfold Cx.fs frs
  rw [L.st, List.filterMap_cons, L.fr]
  exact List.mem_cons
theorem Leaves.nofr (L : Leaves X E) (I : Inv X pins σ H s) {b : Addr} {o : Obj} (e : X.s₀.heap.get? b = some o) (h : b ∉ X.fs) : b ∉ frs X.stack := fun z => by
  rcases L.mem.mp z with z | z
  · have := Heap.lt_size e
    have h2 := I.ok.above
    rw [z] at this
    exact absurd (Nat.lt_of_lt_of_le this h2) (Nat.lt_irrefl _)
  · exact h z
theorem Leaves.fly (L : Leaves X E) (I : Inv X pins σ H s) {a : Addr} {cls a0 : Value} {B h h2 : Heap} (F : Fly X.prog X.w X.stack H H' s.heap a cls a0 B h) (f2 : Heap.FlyingW B X.outer a cls a0 h2) (u2 : h.UpToSlots h2) :
    Fly X.prog X.w X.outer X.H₀ H' X.s₀.heap a cls a0 B h2 where
  fl := f2
  hok := F.hok
  keep := fun b o e n hf => F.keep b o (I.base.keep b o e n hf (by rw [L.ex]; simp)) (I.base.free b o e n (by rw [L.ex]; simp)) (L.nofr I e hf)
  there := fun b o e hf => by
    obtain ⟨o', q⟩ := I.base.there b o e (by rw [L.ex]; simp)
    exact F.there b o' q (L.nofr I e hf)
  slot := fun b o e hf => by
    obtain ⟨sl, q⟩ := I.base.slot b o e (I.ok.frf b hf) hf (by rw [L.ex]; simp)
    obtain ⟨sl1, q1⟩ := F.slot b _ q (L.mem.mpr (.inr hf))
    obtain ⟨_, o2, q2, hd⟩ := F.fl.2.2.1.mem (L.mem.mpr (.inr hf))
    obtain ⟨sl2, q3⟩ := u2 b o2 q2 hd
    rw [q1] at q2; cases q2
    exact ⟨sl2, q3⟩
  free := fun b o e n => by
    obtain ⟨o', q⟩ := I.base.there b o e (by rw [L.ex]; simp)
    exact F.free b o' q (I.base.free b o e n (by rw [L.ex]; simp))
  tups := fun b xs e => F.tups b xs (I.base.tups b xs e)
  frzs := fun b o u e => F.frzs b o u (I.base.frzs b o u e)
  tbls := fun b ps e => by
    obtain ⟨m1, q1⟩ := I.base.tbls b ps e
    obtain ⟨m2, q2⟩ := F.tbls b _ q1
    exact ⟨m1 ++ m2, by rw [q2, Array.append_assoc]⟩
theorem passR (L : Leaves X E) (hE : ∀ c d H', E' c d H' → E c d H') : Passes (CXR X.prog X.w) X E' := fun pins σ H s e s' I h => by
  obtain ⟨a, cls, a0, B, H', rfl, os, bare, F, q⟩ := h
  refine L.xe _ _ ?_
  have hfr : X.A.frames = some (X.env :: X.outer) := by rw [I.ok.frames, L.st]
  have fl : Heap.FlyingW B (X.env :: X.outer) a cls a0 s'.heap := by rw [← L.st]; exact F.fl
  exact wpAny_leaves_onW hfr L.fr fl fun h2 f2 u2 => ⟨a, cls, a0, B, H', rfl, os.trans I.os, bare, L.fly I F f2 u2, hE _ _ _ q⟩
theorem hideOk (I : Inv X pins σ H s) : HOk X.prog X.w H (PySem.W.hideAll s.heap (frs X.stack)) := fun a o e =>
  (I.hok a o e).stay (fun b u hb q => PySem.W.hideAll_get _ q fun z => by
    have n := I.stkFree b z
    rcases hb with rfl | hb
    · rw [e] at n; cases n
    · rw [hb] at n; cases n) (fun _ q => q) fun _ _ q => q
theorem made_leaves (L : Leaves X E) (I : Inv X pins σ H s) {h' : Heap} {a : Addr} {cls : Value} {args : List Value} (hx : Heap.MadeExcOf s.heap h' a cls args) (hE : E cls none H) : X.xe (.ref a) { s with heap := h' } := by
  refine L.xe _ _ ?_
  have hfr : X.A.frames = some (X.env :: X.outer) := by rw [I.ok.frames, L.st]
  have hin : ∀ env ∈ X.stack, ∀ b, env.frame = some b → b ∈ frs X.stack := fun env he b hb => List.mem_filterMap.mpr ⟨env, he, hb⟩
  have ff : s.heap.FunFrames (PySem.W.hideAll s.heap (frs X.stack)) (X.env :: X.outer) := by rw [← L.st]; exact PySem.W.funFrames_hide I.stack hin
  refine wpAny_leaves_madeW (base := PySem.W.hideAll s.heap (frs X.stack)) (h := s.heap) hfr L.fr (fun b o q => PySem.W.of_hideAll _ q) ff hx fun h2 t x1 x2 x3 x4 => ?_
  refine ⟨a, cls, .ref t, _, H, rfl, I.os, I.bare, ⟨x1, hideOk I, fun b o e n hf => ?_, fun b o e hf => ?_, fun b o e hf => ?_, fun b o e n => I.base.free b o e n (by rw [L.ex]; simp), I.base.tups, I.base.frzs, I.base.tbls⟩, hE⟩
  · exact PySem.W.hideAll_get _ (I.base.keep b o e n hf (by rw [L.ex]; simp)) (L.nofr I e hf)
  · obtain ⟨o', q⟩ := I.base.there b o e (by rw [L.ex]; simp)
    exact ⟨o', PySem.W.hideAll_get _ q (L.nofr I e hf)⟩
  · obtain ⟨sl, q⟩ := I.base.slot b o e (I.ok.frf b hf) hf (by rw [L.ex]; simp)
    obtain ⟨_, o2, q2, hd⟩ := I.funs.mem hf
    obtain ⟨sl2, q3⟩ := x4 b o2 (hx.keeps _ _ q2) hd
    rw [q] at q2; cases q2
    exact ⟨sl2, q3⟩
end
end L2
namespace L2
open PySem PySem.Spec PyProof.Rows
abbrev vErr : List Value := [.type "ValueError", .type "Exception", .type "BaseException", .type "object"]
structure XC (K : PySem.W.Frag) (C : Addr) : Prop where
  q : PySem.W.excIn K C vErr "ValueError.__new__" = true
def IsXC (h : Heap) (C : Addr) (bm : List Value) : Prop := ∃ N nm q bs hdct sn sub ab col dd k0 k1 k2 k3 k5 mN,
  h.get? C = some (excClassObj nm q C N bs bm hdct sn sub ab col dd k0 k1 k2 k3 k5 "ValueError.__new__") ∧ h.Ns N mN ∧ mN "__init__" = none ∧ OwnTail h vErr bm
theorem XC.at {K : PySem.W.Frag} {C : Addr} {h : Heap} (x : XC K C) (X : K.In h) : ∃ bm, IsXC h C bm := by
  have q := x.q
  unfold PySem.W.excIn at q
  split at q
  · rename_i dd cd sl ho
    split at q
    · rename_i C' bm' k0 k1 k2 k3 n k5 hm hs
      simp only [Bool.and_eq_true, beq_iff_eq, Bool.not_eq_true'] at q
      obtain ⟨⟨⟨⟨⟨q1, q2⟩, hdel⟩, ht⟩, hok⟩, hni⟩ := q
      subst q1; subst q2
      obtain ⟨nm, bs, mro, ns, qn, hd, sn, sub, ab, col, del⟩ := cd
      dsimp only at hm hdel hok hni
      subst hm; subst hdel
      obtain ⟨sl⟩ := sl
      dsimp only at hs
      subst hs
      exact ⟨bm', ns, nm, qn, bs, hd, sn, sub, ab, col, dd, k0, k1, k2, k3, k5, _, X _ _ ho, .of_isNs (PySem.W.isNs_of_in X hok), PySem.W.nsMap_none_of_in X hok hni, PySem.W.tail_of_in X ht⟩
    · cases q
  · cases q
section
variable {X : Cx} {C D : Addr} {bmD : List Value} {x : Str} {np cpos pos : Pos} {e : Expr} {es : List Expr} {t : TA} {E : XK}
end
end L2
namespace L2
open PySem PySem.Spec PyProof.Rows
def excO (a : Addr) (cls : Value) : HO := .ext fun h => ∃ o vs, h.get? a = some o ∧ o.cls = cls ∧ o.data = .fields vs
section
variable {P : Program} {w : World} {outer : List Env} {H H' : Hp} {h0 : Heap} {a : Addr} {cls a0 : Value} {B h : Heap}
end
abbrev TX := (St → XK) → TS
section
variable {X : Cx} {CX : CXT} {k : Nat} {f C : Addr} {fd : FuncData} {ps : List Str} {sp : Sp} {dvs : List V} {ds : List Value} {E : XK} {x m : Str} {p pos apos : Pos} {e o : Expr} {es : List Expr} {ta : TE} {t : TA}
end
section
variable {X : Cx} {e : Expr} {pos : Pos} {te : XK → TE}
end
end L2
namespace L2
open PySem PySem.Spec PyProof.Rows
section
variable {X : Cx} {pins : List (Addr × Obj)} {σ : St} {H : Hp} {s : Shared}
end
section
variable {X : Cx} {i : Nat} {n x : Str} {C0 : Addr} {body suite : List Stmt} {b₀ : Stmt} {np hpos pos : Pos} {tb : TX} {ts : TS}
end
section
variable {P : Program} {w : World} {K : PySem.W.Frag} {mg : Str → Option Value} {base : Heap}
end
end L2
namespace L2
open PySem PySem.Spec PyProof.Rows
structure XA (K : PySem.W.Frag) (C : Addr) : Prop where
  ga : PySem.W.findIn K (.ref C) "__getattribute__" = some (some (.builtin "BaseException.__getattribute__"))
  gh : PySem.W.findIn K (.ref C) "__getattr__" = some none
  cl : PySem.W.findIn K (.ref C) "__class__" = some (some (.builtin "object.__class__"))
section
variable {prog : Program} {w : World} {A : Around} {E : Value → Shared → Prop} {h : Heap} {g : Array GenState} {d : Drawn} {t : Nat} {os : OsState} {a : Addr} {o : Obj} {C : Addr} {bm : List Value} {K : PySem.W.Frag}
end
end L2
namespace L2
open PySem PySem.Spec PyProof.Rows
section
variable {X : Cx}
end
end L2
namespace L2
open PySem PySem.Spec PyProof.Rows
section
variable {X : Cx}
theorem passE {E : XK} (L : Leaves X E) : Passes (CXR X.prog X.w) X E := passR L fun _ _ _ h => h
end
end L2
namespace L2
open PySem PySem.Spec PyProof.Rows
def unl (l : List Str) : List Str := l.foldl (fun c x => if x ∈ c then c else c ++ [x]) []
theorem unl_snoc (l : List Str) (x : Str) : unl (l ++ [x]) = if x ∈ unl l then unl l else unl l ++ [x] := by
  unfold unl
  rw [List.foldl_append]
  rfl
theorem unl_len : ∀ (l : List Str), (unl l).length ≤ l.length := fun l => by
  have all : ∀ (r c : List Str), (r.foldl (fun c x => if x ∈ c then c else c ++ [x]) c).length ≤ c.length + r.length := by
    intro r
    induction r with
    | nil => intro c; simp
    | cons x r ih =>
      intro c
      rw [List.foldl_cons]
      refine Nat.le_trans (ih _) ?_
      split <;> simp <;> try omega
  simpa [unl] using all l []
section
variable {prog : Program} {w : World} {A : Around} {R : Result → Shared → Prop} {I : Addr} {fp wr : List Addr} {G : Array GenState → Array GenState → Prop} {n : Nat} {P : Nat → Value → Prop} {St : Nat → Shared → Prop}
theorem set_loop (W : WalksS prog w A.in1 I fp wr G n P St) (S : Addr) (hSf : S ∉ fp) (xs : List Str) (hx : xs.length = n) (hval : ∀ i v, P i v → ∃ x t, xs[i]? = some x ∧ v = .str x t) (hb : n + 1 < scanBound) :
    ∀ (k i : Nat) (s : Shared), i + k = n → St i s → s.heap.SetOf (strKind prog w) S (fun y => decide (y ∈ unl (xs.take i))) (unl (xs.take i)).length →
      (∀ s', Moved (S :: wr) G s s' → s'.heap.SetOf (strKind prog w) S (fun y => decide (y ∈ unl xs)) (unl xs).length → R (.ok (.ret .none)) s') →
      codeAny (model prog w) A (.builtin "set.update.loop" ⟨[.ref S, .ref I], []⟩) R s := by
  have nw : S ∉ wr := fun h => hSf (W.sub _ h)
  have up : ∀ b ∈ wr, b ∈ S :: wr := fun b hb => List.mem_cons_of_mem _ hb
  have mv : ∀ {i : Nat} {s s' : Shared}, Moved wr G s s' → s.heap.SetOf (strKind prog w) S (fun y => decide (y ∈ unl (xs.take i))) (unl (xs.take i)).length → s'.heap.SetOf (strKind prog w) S (fun y => decide (y ∈ unl (xs.take i))) (unl (xs.take i)).length :=
    fun hm ⟨o, es, ep, tb, ho, rest⟩ => ⟨o, es, ep, tb, hm.heap S _ nw ho, rest⟩
  intro k
  induction k with
  | zero =>
    intro i s hk hst hS hR
    have e : i = n := by omega
    subst e
    refine codeAny_builtin F.entry_set_update_loop ?_ ; rw [Around.under_plainId F.plain_set_update_loop _]
    show wpAny _ A.in1 (pyNext (.ref I) >>= _) _ _ s ; refine wpAny_bind (W.done s _ _ hst fun s' hm => ?_)
    show wpAny _ A.in1 (ret Value.none) _ _ s' ; have q := mv hm hS
    rw [← hx, List.take_length] at q
    exact wpAny_pure (hR s' (hm.mono up) q)
  | succ k ih =>
    intro i s hk hst hS hR
    have lt : i < n := by omega
    refine codeAny_builtin F.entry_set_update_loop ?_ ; rw [Around.under_plainId F.plain_set_update_loop _]
    show wpAny _ A.in1 (pyNext (.ref I) >>= _) _ _ s ; refine wpAny_bind (W.item i s _ _ lt hst fun v s' hP hst' hm => ?_)
    obtain ⟨x, t, ex, rfl⟩ := hval i v hP
    have q := mv hm hS
    show wpAny _ A.in1 (holding [Value.str x t] (setAdd S (.str x t)) >>= _) _ _ s'
    refine wpAny_bind (wpAny_holding ?_) ; unfold setAdd ; refine wpAny_holding ?_
    refine wpAny_bind ((strKind prog w).pyHash (k := x) (strKind_is _ _ _ _) ?_)
    have room : (unl (xs.take i)).length + 1 < scanBound := by have := unl_len (xs.take i); rw [List.length_take] at this; omega
    refine wpAny_setAddHashed_of (knd := strKind prog w) (s := { s' with toks := s'.toks + 1 }) (strKind_is _ _ _ _) rfl q room fun h' hsb q2 => ?_
    have tk : xs.take (i + 1) = xs.take i ++ [x] := by rw [List.take_succ, ex]; rfl
    have qi : h'.SetOf (strKind prog w) S (fun y => decide (y ∈ unl (xs.take (i + 1)))) (unl (xs.take (i + 1))).length := by
      refine SetOf_congr q2 (fun y => ?_) ?_
      · rw [tk, unl_snoc]
        by_cases h : x ∈ unl (xs.take i)
        · rw [if_pos h]
          by_cases hy : y = x
          · subst hy; simp [h]
          · simp [hy]
        · rw [if_neg h]; simp
      · rw [tk, unl_snoc]
        by_cases h : x ∈ unl (xs.take i)
        · rw [if_pos h, if_pos (by simpa using h)]
        · rw [if_neg h, if_neg (by simpa using h)]; simp
    refine wpAny_pure ⟨plainId_quiet F.plain_set_update_loop _, ih (i + 1) _ (by omega) (W.frame _ s' _ _ hst' (Nat.le_succ _) fun b hb o e => ?_) qi fun s'' hm'' q'' => ?_⟩
    · rw [hsb.2 b (fun h : b = S => hSf (by rw [← h]; exact hb))] ; exact e
    · refine hR s'' (Moved.trans W.gtrans ((hm.mono up).then_heap (Nat.le_succ _) fun b o hb e => ?_) hm'') q''
      rw [hsb.2 b (fun h : b = S => hb (by rw [h]; exact List.mem_cons_self))] ; exact e
theorem set_of_list {E : Value → Shared → Prop} {s : Shared} {l : Addr} {items : Array Value} {xs : List Str} {Q : Value → Shared → Prop} (hh : A.handled = none) (hl : s.heap.IsList l items) (hx : xs.length = items.size)
    (hi : ∀ (i : Nat) (v : Value), items[i]? = some v → ∃ x t, xs[i]? = some x ∧ v = .str x t) (hb : items.size + 1 < scanBound)
    (h : ∀ (h' : Heap) (tk : Nat), h'.SetOf (strKind prog w) s.heap.objs.size (fun y => decide (y ∈ unl xs)) (unl xs).length → (∀ b o, b < s.heap.objs.size → s.heap.get? b = some o → h'.get? b = some o) → Q (.ref s.heap.objs.size) { s with heap := h', toks := tk }) :
    wpAny (model prog w) A (call (.type "set") [.ref l]) Q E s := by
  obtain ⟨c, tl, m0⟩ := F.called_set.mro ; have m1 := F.called_set.made ; have m2 := F.called_set.sub
  refine wpAny_call (codeAny_of_tree ?_) ; show wpAny _ _ (callAny (.type "set") _) _ _ _
  refine wpAny_pure ⟨Code.quiet_builtin _ (by decide +kernel), codeAny_builtin F.entry_type_call ?_⟩ ; rw [Around.under_plain (weight_type_call_type "set" [.ref l] []) rfl]
  have m3 := F.called_set.notType ; have m4 := F.called_set.canCreate ; have m5 := F.typeCall_set_1 (.ref l)
  repeat (any_goals (first | assumption | wp_step))
  refine codeAny_mono (code_set_new_1 (.ref l) (E := E) (Q₁ := fun ob s1 => ∃ led : Bool, ob = .ref s.heap.objs.size ∧ s1 = { s with heap := s.heap.push { cls := .type "set", dict := none, data := .set #[] 0 (.fresh 0 0 led) } }) fun led => ⟨led, rfl, rfl⟩) fun r s1 hr => ?_
  cases r with
  | error e => exact hr
  | ok fl =>
    cases fl with
    | ret ob =>
      obtain ⟨led, rfl, rfl⟩ := hr
      generalize hO : ({ cls := .type "set", dict := none, data := .set #[] 0 (.fresh 0 0 led) } : Obj) = O
      have gS : (s.heap.push O).get? s.heap.objs.size = some O := Heap.get?_push_size _ (by rw [← hO]; rfl)
      have tS : Shared.TypeIs { s with heap := s.heap.push O } (.ref s.heap.objs.size) "set" := ⟨_, gS, by rw [← hO]⟩
      have i1 := F.called_set.init.lookup ; have i2 := F.called_set.init.bind (.ref s.heap.objs.size)
      repeat (any_goals (first | assumption | wp_step))
      refine codeAny_mono (codeAny_call_builtin (R := wants (fun r s2 => r = .none ∧ ∃ h' tk, s2 = { s with heap := h', toks := tk } ∧ h'.SetOf (strKind prog w) s.heap.objs.size (fun y => decide (y ∈ unl xs)) (unl xs).length ∧ (∀ b o, b < s.heap.objs.size → s.heap.get? b = some o → h'.get? b = some o)) E)
        F.called_set.init.plain F.entry_set_init (check_set_init_1 tS ?_)) fun r2 s2 hr2 => ?_
      · obtain ⟨ol, gl, cl, nl, dl⟩ := hl
        obtain ⟨ocls, odict, odata, oslots⟩ := ol
        simp only at cl dl ; subst cl ; subst dl
        have gl' : (s.heap.push O).get? l = some { cls := .type "list", dict := odict, data := .seq items nl, slots := oslots } := Heap.get?_push_of_some _ gl
        have j1 := F.sub_list_set ; have j2 := F.sub_list_frozenset
        have j3 : (Value.type "list" == Value.type "dict") = false := by decide
        have il : (s.heap.push O).IsList l items := ⟨_, gl', rfl, nl, rfl⟩
        subst hO
        unfold Builtin.«set.__init__» noKeywords Builtin.Frozenset.updateFrom ; generalize hPI : pyIter = PI
        wp_walk
        subst hPI ; refine wpAny_pyIter_list il ?_ ; refine wpAny_bind (wpAny_runValue ?_)
        have ll : l < s.heap.objs.size := Heap.lt_size gl
        have h3 : A.in1.in1.in1.handled = none := by simp [hh]
        have ne : l ≠ (s.heap.push { cls := .type "set", dict := none, data := .set #[] 0 (.fresh 0 0 led) }).objs.size := by rw [Heap.size_push] ; exact Nat.ne_of_lt (Nat.lt_succ_of_lt ll)
        have nf : s.heap.objs.size ∉ [(s.heap.push { cls := .type "set", dict := none, data := .set #[] 0 (.fresh 0 0 led) }).objs.size, l] := by
          rw [Heap.size_push] ; simp only [List.mem_cons, List.mem_singleton, List.not_mem_nil, or_false, not_or] ; exact ⟨Nat.ne_of_lt (Nat.lt_succ_self _), Nat.ne_of_gt ll⟩
        refine set_loop ((Walks.list h3 _ l ne items).toS) s.heap.objs.size nf xs hx hi hb (items.size - 0) 0 _ (by omega) ⟨⟨_, Heap.get?_push_size _ rfl, rfl, rfl⟩, (il.push _)⟩ ?hS0 ?hR
        case hS0 =>
          have gg := Heap.get?_push_of_some { cls := .type "list_iterator", data := .fields #[.ref l, .int 0 0] } gS
          exact SetOf_congr ((setObjOf_fresh (knd := strKind prog w) led).setOf gg (by unfold scanBound; omega)) (fun _ => rfl) rfl
        case hR =>
          intro s' hm q
          obtain ⟨h', g', d', tk', os'⟩ := s'
          have eg : g' = s.gens := hm.gens ; have ed : d' = s.drawn := hm.drawn ; have eo : os' = s.os := hm.os
          subst eg ; subst ed ; subst eo
          show wpAny _ _ _ _ _ _ ; refine wpAny_pure ?_ ; show wpAny _ _ (ret Value.none) _ _ _
          refine wpAny_pure ⟨rfl, h', tk', rfl, q, fun b o hb e => ?_⟩
          have b2 : b ≠ (s.heap.push { cls := .type "set", dict := none, data := .set #[] 0 (.fresh 0 0 led) }).objs.size := by rw [Heap.size_push] ; exact Nat.ne_of_lt (Nat.lt_succ_of_lt hb)
          refine hm.heap b o ?_ (Heap.get?_push_of_some _ (Heap.get?_push_of_some _ e))
          simp only [List.mem_cons, List.mem_singleton, List.not_mem_nil, or_false, not_or] ; exact ⟨Nat.ne_of_lt hb, b2⟩
      · cases r2 with
        | error e => exact hr2
        | ok f2 =>
          cases f2 with
          | ret r =>
            obtain ⟨rfl, h', tk, rfl, q, k'⟩ := hr2
            repeat (any_goals (first | assumption | wp_step))
            exact h _ _ q k'
          | _ => exact hr2.elim
    | _ => exact hr.elim
end
end L2
namespace L2
open PySem PySem.Spec PyProof.Rows
def setO (P : Program) (w : World) (a : Addr) (xs : List Str) : HO := .ext fun h => h.SetOf (strKind P w) a (fun y => decide (y ∈ unl xs)) (unl xs).length
theorem setO_ok {P : Program} {w : World} {H : Hp} {h : Heap} {a : Addr} {xs : List Str} (q : h.SetOf (strKind P w) a (fun y => decide (y ∈ unl xs)) (unl xs).length) : ObjOk P w H h a (setO P w a xs) := by
  obtain ⟨o, es, ep, t, ho, rest⟩ := id q
  exact ⟨q, ⟨o, ho⟩, fun h1 h2 ⟨o, es, ep, t, ho, rest⟩ k => ⟨o, es, ep, t, k _ ho, rest⟩⟩
theorem vals_str : ∀ {xs : List Str} {its : List Value}, Vals (xs.map V.str) its → ∀ (i : Nat) (v : Value), its[i]? = some v → ∃ x t, xs[i]? = some x ∧ v = .str x t
  | [], _, .nil, i, v, e => by simp at e
  | x :: xs, _, .cons r rs, 0, v, e => by
    obtain ⟨t, q⟩ := r
    simp at e
    exact ⟨x, t, rfl, by rw [← e]; exact q⟩
  | x :: xs, _, .cons r rs, i + 1, v, e => by
    obtain ⟨y, t, e1, e2⟩ := vals_str rs i v (by simpa using e)
    exact ⟨y, t, by simpa using e1, e2⟩
section
variable {X : Cx}
theorem call_setT {P : Program} {w : World} {K : PySem.W.Frag} (hP : X.prog = P) (hw : X.w = w) (hK : X.K = K) (hc : X.calm = true) :
    CallR X (.type "set") (fun vs H Q => ∃ p xs, vs = [.ref p] ∧ SqL K H p (xs.map V.str) ∧ xs.length < 4000 ∧ ∀ l, H l = none → Q (.ref l) (upd H l (setO P w l xs))) := by
  subst hP; subst hw; subst hK
  intro pins s σ H vs us Q I r h
  obtain ⟨p, xs, rfl, hq, hz, q⟩ := h
  obtain ⟨u, rfl, rx⟩ := vals1 r
  cases rx
  obtain ⟨its, r', pl, _⟩ := I.list hq
  have hlen : xs.length = its.toArray.size := by have := r'.length; simpa using this
  refine set_of_list (I.ok.hd hc) pl.isList hlen (fun i v e => vals_str r' i v (by simpa using e)) (by rw [← hlen]; unfold scanBound; omega) fun h' tk qs kp => ?_
  refine ⟨.ref s.heap.objs.size, _, I.laid (t' := tk) (fun b o e => kp b o (Heap.lt_size e) e) (Nat.le_refl _) (setO_ok qs), rfl, q _ (I.hok.fresh (Nat.le_refl _))⟩
theorem call_lenS {P : Program} {w : World} (hP : X.prog = P) (hw : X.w = w) : CallR X (.builtin "len") (fun vs H Q => ∃ a xs, vs = [.ref a] ∧ H a = some (setO P w a xs) ∧ Q (.int (unl xs).length) H) := by
  subst hP; subst hw
  intro pins s σ H vs us Q I r h
  obtain ⟨a, xs, rfl, ha, q⟩ := h
  obtain ⟨u, rfl, rx⟩ := vals1 r
  cases rx
  obtain ⟨⟨o, es, ep, t, ho, hex, hd, hel, hmem, hb, hf, hn⟩, _⟩ := I.hok a _ ha
  refine call_len_set ho hex hd hf (by unfold scanBound at hb; omega) ?_
  exact ⟨.int (unl xs).length, H, I.tok _, ⟨_, by rw [hn]⟩, q⟩
end
theorem unl_nodup (l : List Str) : (unl l).length = l.length ↔ l.Nodup := by
  have all : ∀ (r c : List Str), c.Nodup → ((r.foldl (fun c x => if x ∈ c then c else c ++ [x]) c).length = c.length + r.length ↔ (c ++ r).Nodup) := by
    intro r
    induction r with
    | nil => intro c hc; simpa using hc
    | cons x r ih =>
      intro c hc
      rw [List.foldl_cons]
      by_cases h : x ∈ c
      · rw [if_pos h]
        have le : (r.foldl (fun c x => if x ∈ c then c else c ++ [x]) c).length ≤ c.length + r.length := by
          have all2 : ∀ (r c : List Str), (r.foldl (fun c x => if x ∈ c then c else c ++ [x]) c).length ≤ c.length + r.length := by
            intro r
            induction r with
            | nil => intro c; simp
            | cons x r ih => intro c; rw [List.foldl_cons]; refine Nat.le_trans (ih _) ?_; split <;> simp <;> try omega
          exact all2 r c
        refine ⟨fun e => by simp at e; omega, fun e => ?_⟩
        exact absurd rfl ((List.nodup_append.mp e).2.2 x h x (by simp))
      · rw [if_neg h]
        have hc' : (c ++ [x]).Nodup := nd_snoc hc h
        have := ih (c ++ [x]) hc'
        simp only [List.length_append, List.length_cons, List.length_nil, List.append_assoc, List.singleton_append] at this ⊢
        rw [← this]
        constructor <;> intro e <;> omega
  simpa [unl] using all l [] List.nodup_nil
end L2
namespace L2
open PySem PySem.Spec PyProof.Rows
section
variable {prog : Program} {w : World} {A : Around} {E : Value → Shared → Prop} {s : Shared}
end
section
variable {prog : Program} {w : World} {A : Around} {R : Result → Shared → Prop} {I : Addr} {fp wr : List Addr} {G : Array GenState → Array GenState → Prop} {n : Nat} {P : Nat → Value → Prop} {St : Nat → Shared → Prop}
end
section
variable {X : Cx}
end
end L2
namespace L2
open PySem PySem.Spec PyProof.Rows
section
variable {X : Cx}
def rCatU (K : PySem.W.Frag) : R2 := fun x y H Q => ∃ a b xs ys, x = .ref a ∧ y = .ref b ∧ SqT K H a xs ∧ SqT K H b ys ∧ xs.length + ys.length ≤ sizeLine ∧
  (xs = [] → Q (.ref b) H) ∧ (xs ≠ [] → ys = [] → Q (.ref a) H) ∧ (xs ≠ [] → ys ≠ [] → ∀ p, H p = none → Q (.ref p) (upd H p (.tup (xs ++ ys))))
theorem op_catU : OpR X (binaryOp .Add) (rCatU X.K) := by
  intro pins s σ H x y v u Q I rx ry h
  obtain ⟨a, b, xs, ys, rfl, rfl, ha, hb, hz, q0, q1, q2⟩ := h
  by_cases hx : xs = []
  · cases rx
    cases ry
    obtain ⟨its, r1, p1, _⟩ := I.tuple ha
    obtain ⟨its2, r2, p2, _⟩ := I.tuple hb
    obtain ⟨⟨cls, dd, data, sl⟩, ho, hc, n, hd⟩ := id p1
    obtain ⟨⟨cls2, dd2, data2, sl2⟩, ho2, hc2, n2, hd2⟩ := id p2
    simp only at hc hd hc2 hd2
    subst hc hd hc2 hd2
    have e : its = [] := r1.nil_iff.mpr hx
    exact concat_meets ⟨_, ho, rfl⟩ ⟨_, ho2, rfl⟩ noFill_tuple_add seq_tuple_add PySem.F.slot_tuple_add PySem.F.entry_tuple_add (PySem.F.args_tuple_add_2 _ _)
      (tuple_addW0 a b its.toArray its2.toArray n n2 dd dd2 sl sl2 (by simp [e])) ⟨ho, ho2, .ref b, H, I, rfl, q0 hx⟩
  · exact op_catT pins s σ H _ _ v u Q I rx ry ⟨a, b, xs, ys, rfl, rfl, ha, hb, hx, hz, q1 hx, q2 hx⟩
end
end L2
namespace L2
open PySem PySem.Spec PyProof.Rows
theorem hu1 {n : Nat} (h : n + 64 < cLine) : n + 1 < cLine := by omega
section
variable {H H' : Hp} {K : PySem.W.Frag}
end
end L2
namespace L2
open PySem PySem.Spec PyProof.Rows
section
variable {σ : St} {H : Hp} {te tb : TE} {ta : TA} {d : PyData} {ds : List PyData}
theorem smz {n : Nat} (h : n ≤ 1000) : n ≤ sizeLine := Nat.le_of_lt (small1000 h)
end
end L2
namespace L2
open PySem PySem.Spec PyProof.Rows
abbrev IsTp (h : Heap) (T : Addr) (arr : Array Value) : Prop := h.get? T = some { cls := .type "tuple", data := .seq arr }
theorem it_ext {h h' : Heap} {a b l : Addr} {i : Nat} (hs : Heap.ExtBut b h h') (n : a ≠ b) (x : h.IsTupleIter a l i) : h'.IsTupleIter a l i := x.extBut hs n
theorem it_up {h h' : Heap} {a l : Addr} {i : Nat} (k : ∀ o, h.get? a = some o → h'.get? a = some o) (x : h.IsTupleIter a l i) : h'.IsTupleIter a l i := let ⟨o, e, r⟩ := x; ⟨o, k o e, r⟩
section
variable {prog : Program} {w : World} {A : Around} {E : Value → Shared → Prop} {s : Shared}
theorem sz3 {n : Nat} (h : n ≤ 3) : n ≤ sizeLine := smz (Nat.le_trans h (by decide))
theorem updSeq_tp {T : Addr} {arr : Array Value} {x : Value} {k : Nat} {Q : Unit → Shared → Prop} (hT : IsTp s.heap T arr) (hz : arr.size ≤ 3) (h : ∀ h', IsTp h' T (arr.setIfInBounds k x) → Heap.SameBut T s.heap h' → Q () { s with heap := h' }) : wpAny (model prog w) A (updateSeq T (·.setIfInBounds k x)) Q E s := by
  refine wpAny_updateSeq hT rfl (h _ ?_ (Heap.SameBut.update ..)) (hz := sz3 hz) (_hz' := by have := sz3 hz; simp; omega)
  show Heap.get? _ _ = _
  rw [Heap.get?_update_self _ hT rfl] ; simp [Obj.mapSeq]
theorem nextOf_tup {it l : Addr} {i : Nat} {items : Array Value} {x : Value} {Q : Value → Shared → Prop} (hit : s.heap.IsTupleIter it l i) (hl : s.heap.IsTuple l items) (hx : items[i]? = some x) (hQ : ∀ h', h'.IsTupleIter it l (i + 1) → Heap.SameBut it s.heap h' → Q x { s with heap := h' }) :
    wpAny (model prog w) A (Builtin.SmallTypes.nextOf (.ref it)) Q E s := by
  obtain ⟨o, ho, hc, hd⟩ := id hit ; obtain ⟨ol, hol, _, nl, hdl⟩ := hl
  unfold Builtin.SmallTypes.nextOf
  refine wpAny_bind (wpAny_callSpecial?_slot (name := Str.ofString "__next__") hit.typeIs F.slot_tuple_iterator_next (wpAny_call_entry F.slot_tuple_iterator_next hit.typeIs F.entry_tuple_iterator_next ?_ (F.args_tuple_iterator_next_1 _)))
  show wpAny _ _ (field (.ref it) 0 >>= _) _ _ s ; refine wpAny_bind (wpAny_field ho hd (x := .ref l) rfl ?_)
  show wpAny _ _ (if (Value.ref l == Value.none) = true then _ else _) _ _ s ; rw [if_neg (show ¬ ((Value.ref l == Value.none) = true) from Bool.false_ne_true)]
  show wpAny _ _ (field (.ref it) 1 >>= _) _ _ s ; refine wpAny_bind (wpAny_field ho hd (x := .int i 0) rfl ?_)
  show wpAny _ _ (seqItems? (.ref l) >>= _) _ _ s ; refine wpAny_bind (wpAny_seqItems hol hdl ?_)
  simp only [Int.toNat_natCast, hx]
  refine wpAny_bind (wpAny_setField ho hd (by simp) (wpAny_pure ⟨x, rfl, wpAny_pure (hQ _ ⟨_, Heap.get?_update_self _ ho (Obj.isFreed_of_fields (Obj.data_mapFields hd _)), (Obj.cls_mapFields ..).trans hc, by rw [Obj.data_mapFields hd]; simp [rawInt]⟩ (Heap.SameBut.update ..))⟩))
theorem nextOf_tup_end {it l : Addr} {i : Nat} {items : Array Value} {Q : Value → Shared → Prop} (hh : A.handled = none) (hit : s.heap.IsTupleIter it l i) (hl : s.heap.IsTuple l items) (hx : items[i]? = none)
    (hE : ∀ h' e, Heap.ExtBut it s.heap h' → (∃ o, h'.get? e = some o ∧ o.cls = .type "StopIteration") → E (.ref e) { s with heap := h' }) : wpAny (model prog w) A (Builtin.SmallTypes.nextOf (.ref it)) Q E s := by
  obtain ⟨o, ho, hc, hd⟩ := id hit ; obtain ⟨ol, hol, _, nl, hdl⟩ := hl
  unfold Builtin.SmallTypes.nextOf
  refine wpAny_bind (wpAny_callSpecial?_slot (name := Str.ofString "__next__") hit.typeIs F.slot_tuple_iterator_next (wpAny_call_entry F.slot_tuple_iterator_next hit.typeIs F.entry_tuple_iterator_next ?_ (F.args_tuple_iterator_next_1 _)))
  show wpAny _ _ (field (.ref it) 0 >>= _) _ _ s ; refine wpAny_bind (wpAny_field ho hd (x := .ref l) rfl ?_)
  show wpAny _ _ (if (Value.ref l == Value.none) = true then _ else _) _ _ s ; rw [if_neg (show ¬ ((Value.ref l == Value.none) = true) from Bool.false_ne_true)]
  show wpAny _ _ (field (.ref it) 1 >>= _) _ _ s ; refine wpAny_bind (wpAny_field ho hd (x := .int i 0) rfl ?_)
  show wpAny _ _ (seqItems? (.ref l) >>= _) _ _ s ; refine wpAny_bind (wpAny_seqItems hol hdl ?_)
  simp only [Int.toNat_natCast, hx]
  refine wpAny_bind (wpAny_rule (wpAny_bind (wpAny_setField ho hd (by simp) ?_))) ; show wpAny _ _ (newExc (.type "StopIteration") [] >>= _) _ _ _
  refine wpAny_bind ?_ ; simp only [newExc, newTuple] ; refine wpAny_bind (wpAny_newObj_type ?_ (by size_fits))
  refine wpAny_bind (m := firstArgMember _ _) (wpAny_of_eq (a := Value.none) (by first | rfl | (simp only [firstArgMember]; rfl)) ?_) ; refine wpAny_newObj_type ?_ (by size_fits)
  simp only [raiseNew] ; refine wpAny_bind (wpAny_handled ?_)
  first | rw [show A.in1.handled = none from hh] | rw [hh]
  refine wpAny_bind (wpAny_pure (wpAny_throw (hE _ _ (((Heap.SameBut.update ..).extBut.push _).push _) ⟨_, Heap.get?_push_size _ rfl, rfl⟩)))
end
def ZS2 (n l0 l1 : Nat) (i : Nat) (h : Heap) : Prop := IsZip h (n + 4) (n + 2) (n + 3) .none ∧ IsTp h (n + 2) #[.ref n, .ref (n + 1)] ∧ (∃ arr : Array Value, arr.size = 2 ∧ IsTp h (n + 3) arr) ∧ h.IsTupleIter n l0 i ∧ h.IsTupleIter (n + 1) l1 i
section
variable {prog : Program} {w : World} {A : Around} {E : Value → Shared → Prop} {s : Shared} {n l0 l1 : Nat} {i : Nat} {xs0 xs1 : Array Value}
theorem zip2_item {x0 x1 : Value} {arr : Array Value} (na : arr.size = 2) {Q : Value → Shared → Prop} (b0 : l0 < n) (b1 : l1 < n) (hz : IsZip s.heap (n + 4) (n + 2) (n + 3) .none) (hI : IsTp s.heap (n + 2) #[.ref n, .ref (n + 1)]) (hO : IsTp s.heap (n + 3) arr) (j0 : s.heap.IsTupleIter n l0 i) (j1 : s.heap.IsTupleIter (n + 1) l1 i) (t0 : s.heap.IsTuple l0 xs0) (t1 : s.heap.IsTuple l1 xs1) (e0 : xs0[i]? = some x0) (e1 : xs1[i]? = some x1)
    (hQ : ∀ h', IsZip h' (n + 4) (n + 2) (n + 3) (rawInt s.heap.objs.size) → IsTp h' (n + 3) #[x0, x1] → h'.IsTupleIter n l0 (i + 1) → h'.IsTupleIter (n + 1) l1 (i + 1) → IsTp h' s.heap.objs.size #[x0, x1] → (∀ c o, c ≠ (n + 4) → c ≠ (n + 3) → c ≠ n → c ≠ (n + 1) → s.heap.get? c = some o → h'.get? c = some o) → Q (.ref s.heap.objs.size) { s with heap := h' }) :
    wpAny (model prog w) A (Builtin.«zip.__next__» ⟨[.ref (n + 4)], []⟩) (fun fin s' => ∃ v, fin = .done (.ret v) ∧ Q v s') E s := by
  show wpAny _ _ (field (.ref (n + 4)) 2 >>= _) _ _ _ ; refine wpAny_bind (wpAny_field hz rfl (x := .bool false) rfl ?_)
  show wpAny _ _ (field (.ref (n + 4)) 3 >>= _) _ _ _ ; refine wpAny_bind (wpAny_field hz rfl (x := .ref (n + 2)) rfl ?_)
  refine wpAny_bind (wpAny_seqItems hI rfl ?_) ; show wpAny _ _ (Builtin.SmallTypes.ownedTupleIsFree (.ref (n + 4)) >>= _) _ _ _
  refine wpAny_bind ?_ ; unfold Builtin.SmallTypes.ownedTupleIsFree
  refine wpAny_bind (wpAny_field hz rfl (x := .none) rfl (wpAny_pure ?_)) ; simp only [if_true]
  refine wpAny_bind (wpAny_rule ?_) ; refine wpAny_bind (wpAny_field hz rfl (x := .ref (n + 3)) rfl ?_)
  refine wpAny_bind (wpAny_setField_rec hz (by simp) fun h0 hz0 q0 => ?_) ; replace hz0 : IsZip h0 (n + 4) (n + 2) (n + 3) .ellipsis := hz0
  have k0 : ∀ c o, c ≠ (n + 4) → s.heap.get? c = some o → h0.get? c = some o := fun c o d e => q0.extBut _ _ d e
  have O0 : IsTp h0 (n + 3) arr := k0 _ _ (by show @Ne Nat _ _; omega) hO
  refine wpAny_bind ?_ ; simp only [List.zipIdx_cons, List.zipIdx_nil, List.forIn_cons, List.forIn_nil]
  -- the 0. iterator
  have J0 : Heap.IsTupleIter h0 n l0 i := by obtain ⟨o, a1, a2⟩ := j0; exact ⟨o, k0 _ _ (by show @Ne Nat _ _; omega) a1, a2⟩
  have T0 : Heap.IsTuple h0 l0 xs0 := by obtain ⟨o, a1, a2⟩ := t0; exact ⟨o, k0 _ _ (by show @Ne Nat _ _; omega) a1, a2⟩
  refine wpAny_bind (wpAny_bind (wpAny_onRaise ?_)) ; show wpAny _ _ (Builtin.SmallTypes.nextOf (.ref n) >>= _) _ _ _
  refine wpAny_bind (nextOf_tup (s := { s with heap := h0 }) J0 T0 e0 fun h1 m0 q1 => wpAny_pure ?_)
  have O1 : IsTp h1 (n + 3) arr := q1.extBut _ _ (by show @Ne Nat _ _; omega) O0
  refine wpAny_bind (wpAny_seqItems (s := { s with heap := h1 }) O1 rfl ?_) ; refine wpAny_bind (updSeq_tp (s := { s with heap := h1 }) O1 (by simp [na, sz3]) fun h2 O2 q2 => ?_) ; refine wpAny_bind (wpAny_letGo (wpAny_pure ?_))
  have k2 : ∀ c o, c ≠ (n + 4) → c ≠ (n + 3) → c ≠ n → s.heap.get? c = some o → h2.get? c = some o := fun c o dz dO d0 e => q2.extBut _ _ dO (q1.extBut _ _ d0 (k0 c o dz  e))
  -- the 1. iterator
  have J1 : Heap.IsTupleIter h2 (n + 1) l1 i := by obtain ⟨o, a1, a2⟩ := j1; exact ⟨o, k2 _ _ (by show @Ne Nat _ _; omega) (by show @Ne Nat _ _; omega) (by show @Ne Nat _ _; omega) a1, a2⟩
  have T1 : Heap.IsTuple h2 l1 xs1 := by obtain ⟨o, a1, a2⟩ := t1; exact ⟨o, k2 _ _ (by show @Ne Nat _ _; omega) (by show @Ne Nat _ _; omega) (by show @Ne Nat _ _; omega) a1, a2⟩
  refine wpAny_bind (wpAny_bind (wpAny_onRaise ?_)) ; show wpAny _ _ (Builtin.SmallTypes.nextOf (.ref (n + 1)) >>= _) _ _ _
  refine wpAny_bind (nextOf_tup (s := { s with heap := h2 }) J1 T1 e1 fun h3 m1 q3 => wpAny_pure ?_)
  have O3 : IsTp h3 (n + 3) (arr.setIfInBounds 0 x0) := q3.extBut _ _ (by show @Ne Nat _ _; omega) O2
  refine wpAny_bind (wpAny_seqItems (s := { s with heap := h3 }) O3 rfl ?_) ; refine wpAny_bind (updSeq_tp (s := { s with heap := h3 }) O3 (by simp [na, sz3]) fun h4 O4 q4 => ?_) ; refine wpAny_bind (wpAny_letGo (wpAny_pure ?_))
  have k4 : ∀ c o, c ≠ (n + 4) → c ≠ (n + 3) → c ≠ n → c ≠ (n + 1) → s.heap.get? c = some o → h4.get? c = some o := fun c o dz dO d0 d1 e => q4.extBut _ _ dO (q3.extBut _ _ d1 (k2 c o dz dO d0 e))
  have ea : ((arr.setIfInBounds 0 x0).setIfInBounds 1 x1) = #[x0, x1] := by obtain ⟨l⟩ := arr; match l, na with | [_, _], _ => rfl
  rw [ea] at O4
  have hzL : IsZip h4 (n + 4) (n + 2) (n + 3) .ellipsis := q4.extBut _ _ (by show @Ne Nat _ _; omega) (q3.extBut _ _ (by show @Ne Nat _ _; omega) (q2.extBut _ _ (by show @Ne Nat _ _; omega) (q1.extBut _ _ (by show @Ne Nat _ _; omega) (hz0))))
  have M0 : Heap.IsTupleIter h4 n l0 (i + 1) := it_ext q4.extBut (by show @Ne Nat _ _; omega) (it_ext q3.extBut (by show @Ne Nat _ _; omega) (it_ext q2.extBut (by show @Ne Nat _ _; omega) m0))
  have M1 : Heap.IsTupleIter h4 (n + 1) l1 (i + 1) := it_ext q4.extBut (by show @Ne Nat _ _; omega) m1
  have hsz : h4.objs.size = s.heap.objs.size := by rw [q4.1, q3.1, q2.1, q1.1, q0.1]
  refine wpAny_pure ?_ ; refine wpAny_bind (wpAny_seqItems (s := { s with heap := h4 }) O4 rfl ?_) ; refine wpAny_bind (wpAny_newTuple ?_)
  have lz : (n + 4) < h4.objs.size := Heap.lt_size hzL
  show wpAny _ _ (Builtin.SmallTypes.ownedTupleHandOut (.ref (n + 4)) (.ref h4.objs.size) >>= _) _ _ _ ; refine wpAny_bind ?_ ; unfold Builtin.SmallTypes.ownedTupleHandOut
  have hzM : IsZip (h4.push { cls := .type "tuple", data := .seq #[x0, x1] }) (n + 4) (n + 2) (n + 3) .ellipsis := Heap.get?_push_of_some _ hzL
  refine wpAny_bind (wpAny_setField_rec (s := { s with heap := h4.push { cls := .type "tuple", data := .seq #[x0, x1] } }) hzM (by simp) fun g1 hz1 r1 => ?_) ; replace hz1 : IsZip g1 (n + 4) (n + 2) (n + 3) (rawInt h4.objs.size) := hz1
  refine wpAny_setField_rec (s := { s with heap := g1 }) hz1 (by simp) fun g2 hz2 r2 => ?_ ; replace hz2 : IsZip g2 (n + 4) (n + 2) (n + 3) (rawInt h4.objs.size) := hz2
  have up : ∀ c o, c ≠ (n + 4) → h4.get? c = some o → g2.get? c = some o := fun c o d e => r2.extBut _ _ d (r1.extBut _ _ d (Heap.get?_push_of_some _ e))
  have hT : IsTp g2 h4.objs.size #[x0, x1] := r2.extBut _ _ (Nat.ne_of_gt lz) (r1.extBut _ _ (Nat.ne_of_gt lz) (Heap.get?_push_size _ rfl))
  rw [hsz] at hz2 hT ; refine wpAny_pure ⟨_, rfl, ?_⟩ ; show Q (.ref h4.objs.size) _ ; rw [hsz]
  exact hQ g2 hz2 (up _ _ (by show @Ne Nat _ _; omega) O4) (it_up (fun o e => up _ o (by show @Ne Nat _ _; omega) e) M0) (it_up (fun o e => up _ o (by show @Ne Nat _ _; omega) e) M1) hT fun c o dz dO d0 d1 e => up c o dz (k4 c o dz dO d0 d1 e)
theorem zip2_end {arr : Array Value} {Q : Fin → Shared → Prop} (hh : A.handled = none) (b0 : l0 < n) (b1 : l1 < n) (hz : IsZip s.heap (n + 4) (n + 2) (n + 3) .none) (hI : IsTp s.heap (n + 2) #[.ref n, .ref (n + 1)]) (hO : IsTp s.heap (n + 3) arr) (j0 : s.heap.IsTupleIter n l0 i) (j1 : s.heap.IsTupleIter (n + 1) l1 i) (t0 : s.heap.IsTuple l0 xs0) (t1 : s.heap.IsTuple l1 xs1)
    (e0 : xs0[i]? = none) (hE : ∀ h' e, (∀ c o, c ≠ (n + 4) → c ≠ (n + 3) → c ≠ n → c ≠ (n + 1) → s.heap.get? c = some o → h'.get? c = some o) → (∃ o, h'.get? e = some o ∧ o.cls = .type "StopIteration") → E (.ref e) { s with heap := h' }) :
    wpAny (model prog w) A (Builtin.«zip.__next__» ⟨[.ref (n + 4)], []⟩) Q E s := by
  show wpAny _ _ (field (.ref (n + 4)) 2 >>= _) _ _ _ ; refine wpAny_bind (wpAny_field hz rfl (x := .bool false) rfl ?_)
  show wpAny _ _ (field (.ref (n + 4)) 3 >>= _) _ _ _ ; refine wpAny_bind (wpAny_field hz rfl (x := .ref (n + 2)) rfl ?_)
  refine wpAny_bind (wpAny_seqItems hI rfl ?_) ; show wpAny _ _ (Builtin.SmallTypes.ownedTupleIsFree (.ref (n + 4)) >>= _) _ _ _
  refine wpAny_bind ?_ ; unfold Builtin.SmallTypes.ownedTupleIsFree
  refine wpAny_bind (wpAny_field hz rfl (x := .none) rfl (wpAny_pure ?_)) ; simp only [if_true]
  refine wpAny_bind (wpAny_rule ?_) ; refine wpAny_bind (wpAny_field hz rfl (x := .ref (n + 3)) rfl ?_)
  refine wpAny_bind (wpAny_setField_rec hz (by simp) fun h0 hz0 q0 => ?_) ; replace hz0 : IsZip h0 (n + 4) (n + 2) (n + 3) .ellipsis := hz0
  have J0 : Heap.IsTupleIter h0 n l0 i := by obtain ⟨o, a1, a2⟩ := j0; exact ⟨o, q0.extBut _ _ (by show @Ne Nat _ _; omega) a1, a2⟩
  have T0 : Heap.IsTuple h0 l0 xs0 := by obtain ⟨o, a1, a2⟩ := t0; exact ⟨o, q0.extBut _ _ (by show @Ne Nat _ _; omega) a1, a2⟩
  refine wpAny_bind ?_ ; simp only [List.zipIdx_cons, List.zipIdx_nil, List.forIn_cons, List.forIn_nil]
  refine wpAny_bind (wpAny_bind (wpAny_onRaise ?_)) ; show wpAny _ _ (Builtin.SmallTypes.nextOf (.ref n) >>= _) _ _ _
  refine wpAny_bind (nextOf_tup_end (s := { s with heap := h0 }) hh J0 T0 e0 fun h1 e q1 he => ?_)
  obtain ⟨oe, hoe, hce⟩ := he ; have hz1 : IsZip h1 (n + 4) (n + 2) (n + 3) .ellipsis := q1 _ _ (by show @Ne Nat _ _; omega) hz0
  have ez : e ≠ (n + 4) := fun x => by subst x; rw [hz1] at hoe; cases hoe; simp at hce
  refine wpAny_setField_rec (s := { s with heap := h1 }) hz1 (by simp) fun h2 _ q2 => hE h2 e (fun c o dz _ d0 _ x => q2.extBut _ _ dz (q1 _ _ d0 (q0.extBut _ _ dz x))) ⟨oe, q2.extBut _ _ ez hoe, hce⟩
end
end L2
namespace L2
open PySem PySem.Spec PyProof.Rows
section
variable {X : Cx} {pins : List (Addr × Obj)} {σ : St} {H : Hp} {s : Shared} {h' : Heap}
theorem Inv.turnedL {t' : Nat} (I : Inv X pins σ H s) (wr : List Addr) (hw : ∀ b ∈ wr, FpOk X pins H b) (k : ∀ b o, b ∉ wr → s.heap.get? b = some o → h'.get? b = some o) : Inv X pins σ H { s with heap := h', toks := t' } := by
  refine I.step (g' := s.gens) (d' := s.drawn) (ch := wr) (fun b hb => let ⟨_, a, _, c, d, e⟩ := hw b hb; ⟨c, a, d, e⟩) (fun b o _ _ hc e _ => k b o hc e) (fun b o _ _ hc e _ => ⟨o.slots, k b o hc e⟩) (fun _ _ _ _ n => n)
    (fun b o hc e => ⟨o, k b o hc e⟩) (fun _ _ e => e) (fun _ _ _ e => e) (fun b ps e => ⟨#[], by rw [e]; simp⟩) (fun m hm => ?_) (fun b u e => ?_) I.bare
  · obtain ⟨o, es, ep, ho, r⟩ := hm
    exact ⟨o, es, ep, k _ o (fun z => (hw _ z).2.1 rfl) ho, r⟩
  · refine (I.hok b u e).stay (fun c v hc q => k c v (fun z => ?_) q) (fun _ q => q) fun _ _ q => q
    have n := (hw c z).1
    rcases hc with rfl | hc
    · rw [n] at e; cases e
    · rw [n] at hc; cases hc
theorem Inv.turnedN {t' : Nat} {T : Addr} {o : HO} (I : Inv X pins σ H s) (wr : List Addr) (hw : ∀ b ∈ wr, FpOk X pins H b) (k : ∀ b o, b ∉ wr → s.heap.get? b = some o → h'.get? b = some o) (hT : s.heap.get? T = none) (new : ObjOk X.prog X.w (upd H T o) h' T o) :
    Inv X pins σ (upd H T o) { s with heap := h', toks := t' } := by
  have fr : H T = none := by
    cases q : H T with
    | none => rfl
    | some u => obtain ⟨z, e⟩ := (I.hok T u q).get; rw [hT] at e; cases e
  have ne : ∀ b u, H b = some u → b ≠ T := fun b u e z => by rw [z, fr] at e; cases e
  refine I.step (g' := s.gens) (d' := s.drawn) (ch := wr) (fun b hb => let ⟨_, a, _, c, d, e⟩ := hw b hb; ⟨c, a, d, e⟩) (fun b o _ _ hc e _ => k b o hc e) (fun b o _ _ hc e _ => ⟨o.slots, k b o hc e⟩) (fun b ob _ e n => ?_)
    (fun b o hc e => ⟨o, k b o hc e⟩) (fun b xs e => by rw [upd_ne (ne b _ e)]; exact e) (fun b ob u e => by rw [upd_ne (ne b _ e)]; exact e) (fun b ps e => ⟨#[], by rw [upd_ne (ne b _ e), e]; simp⟩) (fun m hm => ?_) (fun b u e => ?_) I.bare
  · have : b ≠ T := fun z => by rw [z, hT] at e; cases e
    rw [upd_ne this]; exact n
  · obtain ⟨o, es, ep, ho, r⟩ := hm
    exact ⟨o, es, ep, k _ o (fun z => (hw _ z).2.1 rfl) ho, r⟩
  · by_cases hb : b = T
    · subst hb; rw [upd_same] at e; cases e; exact new
    · rw [upd_ne hb] at e
      refine (I.hok b u e).stay (fun c v hc q => k c v (fun z => ?_) q) (fun c q => by rw [upd_ne (ne c _ q)]; exact q) fun c xs q => by rw [upd_ne (ne c _ q)]; exact q
      have n := (hw c z).1
      rcases hc with rfl | hc
      · rw [n] at e; cases e
      · rw [n] at hc; cases hc
end
def Itz2 (K : PySem.W.Frag) (l0 l1 : Addr) : It :=
  ⟨fun i H => ∃ (xs0 xs1 : List V) (x0 x1 : V), SqT K H l0 xs0 ∧ SqT K H l1 xs1 ∧ xs0[i]? = some x0 ∧ xs1[i]? = some x1,
    fun i H x H' => ∃ T, H T = none ∧ x = .ref T ∧ ∀ (xs0 xs1 : List V) (x0 x1 : V), SqT K H l0 xs0 → SqT K H l1 xs1 → xs0[i]? = some x0 → xs1[i]? = some x1 → H' = upd H T (.tup [x0, x1]),
    fun i H => ∃ xs0 xs1, SqT K H l0 xs0 ∧ SqT K H l1 xs1 ∧ xs0.length ≤ i⟩
theorem turn_zip2 {P : Program} {w : World} {K : PySem.W.Frag} {es : List Expr} {kk : Nat} {tp : Pos} {n l0 l1 : Nat} (b0 : l0 < n) (b1 : l1 < n) : Turn P w K (.Tuple es kk tp) (Itz2 K l0 l1) [n, (n + 1), (n + 2), (n + 3), (n + 4)] (n + 4) (ZS2 n l0 l1) where
  mem := by simp
  obj := fun i h st b hb => by
    obtain ⟨hz, hI, ⟨arr, na, hO⟩, j0, j1⟩ := st
    have c : b = n ∨ b = (n + 1) ∨ b = (n + 2) ∨ b = (n + 3) ∨ b = (n + 4) := by simpa using hb
    rcases c with rfl | rfl | rfl | rfl | rfl
    · obtain ⟨o, e, c, d⟩ := j0; exact ⟨o, e, fun v z => by rw [d] at z; cases z⟩
    · obtain ⟨o, e, c, d⟩ := j1; exact ⟨o, e, fun v z => by rw [d] at z; cases z⟩
    · exact ⟨_, hI, fun v z => by cases z⟩
    · exact ⟨_, hO, fun v z => by cases z⟩
    · exact ⟨_, hz, fun v z => by cases z⟩
  keep := fun i h h' st k => by
    obtain ⟨hz, hI, ⟨arr, na, hO⟩, j0, j1⟩ := st
    exact ⟨k _ (by simp) _ hz, k _ (by simp) _ hI, ⟨arr, na, k _ (by simp) _ hO⟩, it_up (fun o e => k _ (by simp) o e) j0, it_up (fun o e => k _ (by simp) o e) j1⟩
  item := by
    intro X hP hw hK hc i pins s σ H E I hf st hg
    subst hP hw hK
    obtain ⟨xs0, xs1, x0, x1, q0, q1, e0, e1⟩ := hg
    obtain ⟨its0, rv0, p0, _⟩ := I.tuple q0 ; obtain ⟨u0, hu0, ru0⟩ := rv0.get e0
    obtain ⟨its1, rv1, p1, _⟩ := I.tuple q1 ; obtain ⟨u1, hu1, ru1⟩ := rv1.get e1
    obtain ⟨hz, hI, ⟨arr, na, hO⟩, j0, j1⟩ := st
    have hT : s.TypeIs (.ref (n + 4)) "zip" := ⟨_, hz, rfl⟩
    unfold pyNext
    refine wpAny_bind (wpAny_attempt (wpAny_callSpecial?_slot (name := Str.ofString "__next__") hT F.slot_zip_next (wpAny_call_entry F.slot_zip_next hT F.entry_zip_next (zip2_item na b0 b1 hz hI hO j0 j1 (show s.heap.IsTuple l0 its0.toArray from p0) (show s.heap.IsTuple l1 its1.toArray from p1) (show its0.toArray[i]? = some u0 by simpa using hu0) (show its1.toArray[i]? = some u1 by simpa using hu1) fun h1 z1 O1 m0 m1 T1 kp => wpAny_pure ⟨_, rfl, ?_⟩) (F.args_zip_next_1 _))))
    refine wpAny_letOwnedTupleGo_zip (s := { s with heap := h1 }) z1 fun h2 z2 r2 => ?_
    have kp2 : ∀ c o, c ∉ ([(n + 4), (n + 3), n, (n + 1)] : List Addr) → s.heap.get? c = some o → h2.get? c = some o := fun c o hc e => by
      simp only [List.mem_cons, List.not_mem_nil, or_false, not_or] at hc
      obtain ⟨dz, dO, d0, d1⟩ := hc
      exact r2.extBut _ _ dz (kp c o dz dO d0 d1 e)
    have lz : (n + 4) < s.heap.objs.size := Heap.lt_size hz
    have T2 : IsTp h2 s.heap.objs.size #[u0, u1] := r2.extBut _ _ (Nat.ne_of_gt lz) T1
    have hf' : ∀ b ∈ ([(n + 4), (n + 3), n, (n + 1)] : List Addr), FpOk X pins H b := fun b hb => hf b (by simp only [List.mem_cons, List.not_mem_nil, or_false] at hb ⊢; rcases hb with h | h | h | h <;> simp [h])
    have I2 : Inv X pins σ (upd H s.heap.objs.size (.tup [x0, x1])) { s with heap := h2 } := I.turnedN (t' := s.toks) [(n + 4), (n + 3), n, (n + 1)] hf' kp2 (Heap.get?_none_of_le (Nat.le_refl _)) ⟨smz (show 2 ≤ 1000 by decide), [u0, u1], .cons ru0 (.cons ru1 (.nil)), ⟨_, T2, rfl, rfl, _, rfl⟩⟩
    refine ⟨.ref s.heap.objs.size, _, I2, rfl, ⟨_, I.hok.fresh (Nat.le_refl _), rfl, fun ys0 ys1 y0 y1 g0 g1 f0 f1 => ?_⟩, ?_, fun b hb => ?_⟩
    · have := I.tuple_inj g0 q0 ; subst this ; have := e0.symm.trans f0 ; cases this
      have := I.tuple_inj g1 q1 ; subst this ; have := e1.symm.trans f1 ; cases this
      rfl
    · refine ⟨z2, r2.extBut _ _ (by show @Ne Nat _ _; omega) (kp _ _ (by show @Ne Nat _ _; omega) (by show @Ne Nat _ _; omega) (by show @Ne Nat _ _; omega) (by show @Ne Nat _ _; omega) hI), ⟨_, rfl, r2.extBut _ _ (by show @Ne Nat _ _; omega) O1⟩, it_ext r2.extBut (by show @Ne Nat _ _; omega) m0, it_ext r2.extBut (by show @Ne Nat _ _; omega) m1⟩
    · have l2 : b < s.heap.objs.size := by
        simp only [List.mem_cons, List.not_mem_nil, or_false] at hb
        have lz : @LT.lt Nat _ (n + 4) s.heap.objs.size := lz
        rcases hb with rfl | rfl | rfl | rfl | rfl <;> (show @LT.lt Nat _ _ s.heap.objs.size; omega)
      rw [upd_ne (Nat.ne_of_lt l2)] ; exact (hf b hb).1
  done := by
    intro X hP hw hK hc i pins s σ H E I hf st hg
    subst hP hw hK
    obtain ⟨xs0, xs1, q0, q1, hx⟩ := hg
    obtain ⟨its0, rv0, p0, _⟩ := I.tuple q0
    obtain ⟨its1, rv1, p1, _⟩ := I.tuple q1
    obtain ⟨hz, hI, ⟨arr, na, hO⟩, j0, j1⟩ := st
    have hT : s.TypeIs (.ref (n + 4)) "zip" := ⟨_, hz, rfl⟩ ; have hl := rv0.length
    unfold pyNext
    refine wpAny_bind (wpAny_attempt (wpAny_callSpecial?_slot (name := Str.ofString "__next__") hT F.slot_zip_next (wpAny_call_entry F.slot_zip_next hT F.entry_zip_next (zip2_end (I.ok.hd hc) b0 b1 hz hI hO j0 j1 (show s.heap.IsTuple l0 its0.toArray from p0) (show s.heap.IsTuple l1 its1.toArray from p1) (by simp; omega) fun h1 e kp he => ?_) (F.args_zip_next_1 _))))
    obtain ⟨o, ho, hco⟩ := he ; refine wpAny_bind (wpAny_isInstance (T := "StopIteration") (b := true) ⟨o, ho, hco⟩ isSubtype_stop (wpAny_pure ⟨rfl, ?_⟩))
    refine I.turnedL (t' := s.toks) [(n + 4), (n + 3), n, (n + 1)] (fun b hb => hf b (by simp only [List.mem_cons, List.not_mem_nil, or_false] at hb ⊢; rcases hb with h | h | h | h <;> simp [h])) fun c o hc e => ?_
    simp only [List.mem_cons, List.not_mem_nil, or_false, not_or] at hc
    obtain ⟨dz, dO, d0, d1⟩ := hc
    exact kp c o dz dO d0 d1 e
  self := fun A' i s Q E st h => wpAny_pyIter_zip st.1 h
abbrev z2H1 (h : Heap) (l0 : Addr) : Heap := (h).push { cls := .type "tuple_iterator", data := .fields #[.ref l0, .int 0 0] }
abbrev z2H2 (h : Heap) (l0 l1 : Addr) : Heap := (z2H1 h l0).push { cls := .type "tuple_iterator", data := .fields #[.ref l1, .int 0 0] }
abbrev z2H3 (h : Heap) (l0 l1 : Addr) : Heap := (z2H2 h l0 l1).push { cls := .type "tuple", data := .seq #[.ref h.objs.size, .ref (z2H1 h l0).objs.size] }
abbrev z2H4 (h : Heap) (l0 l1 : Addr) : Heap := (z2H3 h l0 l1).push { cls := .type "tuple", data := .seq #[.none, .none] }
abbrev z2H5 (h : Heap) (l0 l1 : Addr) : Heap := (z2H4 h l0 l1).push { cls := .type "zip", data := .fields #[.none, .bool false, .bool false, .ref (z2H2 h l0 l1).objs.size, .ref (z2H3 h l0 l1).objs.size] }
theorem meets_zip2 (l0 l1 : Addr) (xs0 xs1 : Array Value) : Meets (Builtin.«zip.__new__» ⟨[.type "zip", .ref l0, .ref l1], []⟩) (fun _ R s => s.heap.IsTuple l0 xs0 ∧ s.heap.IsTuple l1 xs1 ∧ R (.ok (.ret (.ref (z2H4 s.heap l0 l1).objs.size))) { s with heap := z2H5 s.heap l0 l1 }) :=
  .of_wp fun prog w A R s h => by
    obtain ⟨hp, g, d, tk, os⟩ := s; obtain ⟨t0, t1, h⟩ := h
    have hsub := sub_zip
    have L0 : Heap.IsTuple (Shared.heap ⟨hp, g, d, tk, os⟩) l0 xs0 := t0
    have L1 : Heap.IsTuple (Shared.heap ⟨hp.push { cls := .type "tuple_iterator", data := .fields #[.ref l0, .int 0 0] }, g, d, tk, os⟩) l1 xs1 := Heap.IsTuple.push (t1) _
    wp_walk using wpAny_pyIter_tuple L0, wpAny_pyIter_tuple L1
    exact ⟨_, rfl, h⟩
theorem call_zipT2 {prog : Program} {w : World} {A : Around} {E : Value → Shared → Prop} {s : Shared} {l0 l1 : Addr} {xs0 xs1 : Array Value} {Q : Value → Shared → Prop} (t0 : s.heap.IsTuple l0 xs0) (t1 : s.heap.IsTuple l1 xs1)
    (h : ∀ h', ZS2 s.heap.objs.size l0 l1 0 h' → (∀ c o, s.heap.get? c = some o → h'.get? c = some o) → Q (.ref (s.heap.objs.size + 4)) { s with heap := h' }) : wpAny (model prog w) A (call (.type "zip") [.ref l0, .ref l1]) Q E s := by
  refine callType_new F.called_zip (by decide) (F.typeCall_zip_2 _ _) (F.newCall_zip_2 _ _) (fun obj => F.args_object_init_3 obj _ _) F.entry_zip_new (meets_zip2 l0 l1 xs0 xs1) ⟨t0, t1, ?_⟩
  have z1 : (z2H1 s.heap l0).objs.size = s.heap.objs.size + 1 := Heap.size_push ..
  have z2 : (z2H2 s.heap l0 l1).objs.size = s.heap.objs.size + 2 := by rw [Heap.size_push, z1]
  have z3 : (z2H3 s.heap l0 l1).objs.size = s.heap.objs.size + 3 := by rw [Heap.size_push, z2]
  have z4 : (z2H4 s.heap l0 l1).objs.size = s.heap.objs.size + 4 := by rw [Heap.size_push, z3]
  have z5 : (z2H5 s.heap l0 l1).objs.size = s.heap.objs.size + 5 := by rw [Heap.size_push, z4]
  have g0 : (z2H5 s.heap l0 l1).get? (s.heap).objs.size = some _ := Heap.get?_push_of_some _ (Heap.get?_push_of_some _ (Heap.get?_push_of_some _ (Heap.get?_push_of_some _ (Heap.get?_push_size _ rfl))))
  have g1 : (z2H5 s.heap l0 l1).get? (z2H1 s.heap l0).objs.size = some _ := Heap.get?_push_of_some _ (Heap.get?_push_of_some _ (Heap.get?_push_of_some _ (Heap.get?_push_size _ rfl)))
  have g2 : (z2H5 s.heap l0 l1).get? (z2H2 s.heap l0 l1).objs.size = some _ := Heap.get?_push_of_some _ (Heap.get?_push_of_some _ (Heap.get?_push_size _ rfl))
  have g3 : (z2H5 s.heap l0 l1).get? (z2H3 s.heap l0 l1).objs.size = some _ := Heap.get?_push_of_some _ (Heap.get?_push_size _ rfl)
  have g4 : (z2H5 s.heap l0 l1).get? (z2H4 s.heap l0 l1).objs.size = some _ := Heap.get?_push_size _ rfl
  show _ ∧ _
  rw [z2, z3, z4] at g4
  rw [z3] at g3
  rw [z1, z2] at g2
  rw [z1] at g1
  rw [z4]
  exact ⟨⟨_, g4, rfl⟩, h _ ⟨g4, g2, ⟨_, rfl, g3⟩, ⟨_, g0, rfl, rfl⟩, ⟨_, g1, rfl, rfl⟩⟩ fun c o x => Heap.get?_push_of_some _ (Heap.get?_push_of_some _ (Heap.get?_push_of_some _ (Heap.get?_push_of_some _ (Heap.get?_push_of_some _ x))))⟩
end L2
namespace L2
open PySem PySem.Spec PyProof.Rows
def iZip2 (K : PySem.W.Frag) (ta : TA) : TI := fun σ H R => ta σ H fun vs H1 => ∃ l0 l1, vs = [.ref l0, .ref l1] ∧ (∃ xs, SqT K H1 l0 xs) ∧ (∃ xs, SqT K H1 l1 xs) ∧ R (Itz2 K l0 l1) H1
theorem pi_zip2 {X : Cx} {a b : Expr} {ta : TA} {p pos tp : Pos} {es : List Expr} {kk : Nat} (hg : Gl X "zip") (hm : X.mg "zip" = none) (ha : PA X [a, b] ta) (hs : starEach [a, b] X.env = [(false, eval a X.env), (false, eval b X.env)] := by rfl) (hs2 : starEach [b] X.env = [(false, eval b X.env)] := by rfl) :
    PI X (.Tuple es kk tp) (.Call (.Name "zip" p) [a, b] [] pos) (iZip2 X.K ta) := by
  intro pins s σ H R I h
  refine Call_ (ld_blt I hg hm boot_zip (PyProof.Rows.callWith_type1 (thn (ha pos pins s σ H _ I h) fun us s1 ⟨vs, H1, I1, r1, q1⟩ => ?_) (by rw [hs, hs2]) (by rw [hs2]; rfl)))
  obtain ⟨l0, l1, e, ⟨xs0, q0⟩, ⟨xs1, q2⟩, q⟩ := q1
  subst e
  obtain ⟨u, v, rfl, r, r'⟩ := r1.two
  cases r
  cases r'
  obtain ⟨its0, rv0, p0, _⟩ := I1.tuple q0
  obtain ⟨its1, rv1, p1, _⟩ := I1.tuple q2
  refine call_zipT2 (show s1.heap.IsTuple l0 its0.toArray from p0) (show s1.heap.IsTuple l1 its1.toArray from p1) fun h' zs kp => ?_
  refine wpAny_pyIter_zip (s := { s1 with heap := h' }) zs.1 ⟨_, _, _, _, H1, rfl, I1.kept (t' := s1.toks) kp, turn_zip2 p0.lt p1.lt, zs, fun b hb => ?_, q⟩
  have hb' : s1.heap.objs.size ≤ b := by
    simp only [List.mem_cons, List.not_mem_nil, or_false] at hb
    rcases hb with rfl | rfl | rfl | rfl | rfl <;> (show @LE.le Nat _ _ _; omega)
  exact I1.fpOk hb' (I1.hok.fresh hb')
end L2
namespace L2
open PySem PySem.Spec PyProof.Rows
def rMulS : R2 := fun x y H Q => ∃ z n, x = .str z ∧ y = .int n ∧ MulOk z n ∧ Q (.str (PySem.Txt.mul z n)) H
theorem op_mul_str {X : Cx} : OpR X (binaryOp .Mult) rMulS := by
  intro pins s σ H x y v u Q I rx ry h
  obtain ⟨z, n, rfl, rfl, hm, q⟩ := h
  obtain ⟨t, rfl⟩ := rx
  obtain ⟨t', rfl⟩ := ry
  exact SB.mul hm fun t'' k => ⟨.str _, H, I.tok k, ⟨_, rfl⟩, q⟩
section
variable {σ : St} {H : Hp} {te tb : TE} {K : PySem.W.Frag}
end
end L2
namespace L2
open PySem PySem.Spec PyProof.Rows
section
variable {X : Cx} {pins : List (Addr × Obj)} {σ : St} {H : Hp} {s : Shared} {a : Addr} {kvs : List (Str × V)}
end
end L2
namespace L2
open PySem PySem.Spec PyProof.Rows
section
variable {K : PySem.W.Frag} {σ : St} {H : Hp}
end
end L2
namespace L2
open PySem PySem.Spec PyProof.Rows
section
variable {prog : Program} {w : World} {A : Around} {E : Value → Shared → Prop} {s : Shared} {n l0 l1 l2 : Nat} {i : Nat} {xs0 xs1 xs2 : Array Value}
end
end L2
namespace L2
open PySem PySem.Spec PyProof.Rows
end L2
namespace L2
open PySem PySem.Spec PyProof.Rows
section
variable {K : PySem.W.Frag} {σ : St} {H : Hp}
end
end L2
namespace L2
open PySem PySem.Spec PyProof.Rows
section
variable {X : Cx}
def rSlS : V → Option Int → Option Int → Hp → VK → Prop := fun x lo hi H Q => ∃ z, x = .str z ∧ z.length ≤ sizeLine ∧ Q (.str (PySem.Txt.slice z lo hi)) H
theorem sl_str : SlR X rSlS := by
  intro pins s σ H x v vl vu lo hi sl Q I rx hs pl pu h
  obtain ⟨z, rfl, hz, q⟩ := h
  obtain ⟨t, rfl⟩ := rx
  obtain ⟨o, e1, e2, e3⟩ := hs
  refine ⟨"str", _, F.slot_str_getitem.lookup, typeIs_str _ _ _, ?_⟩
  have fin : ∀ k, ∀ t' : Tok, EP X pins σ Q (.str (PySem.Txt.slice z lo hi) t') { s with toks := k } := fun k t' => ⟨.str _, H, I.tok k, ⟨_, rfl⟩, q⟩
  cases pl with
  | none =>
    cases pu with
    | none => exact wpAny_getItem_str_slice (l := none) (u := none) (st := none) ⟨o, e1, e2, e3⟩ rfl (post_val_or_str ⟨Nat.le_trans (Txt.slice_le z _ _) hz, fun t' k => fin k t'⟩)
    | int j uj => exact wpAny_getItem_str_slice (l := none) (u := some (j, uj)) (st := none) ⟨o, e1, e2, e3⟩ rfl (post_val_or_str ⟨Nat.le_trans (Txt.slice_le z _ _) hz, fun t' k => fin k t'⟩)
  | int i ui =>
    cases pu with
    | none => exact wpAny_getItem_str_slice (l := some (i, ui)) (u := none) (st := none) ⟨o, e1, e2, e3⟩ rfl (post_val_or_str ⟨Nat.le_trans (Txt.slice_le z _ _) hz, fun t' k => fin k t'⟩)
    | int j uj => exact wpAny_getItem_str_slice (l := some (i, ui)) (u := some (j, uj)) (st := none) ⟨o, e1, e2, e3⟩ rfl (post_val_or_str ⟨Nat.le_trans (Txt.slice_le z _ _) hz, fun t' k => fin k t'⟩)
end
end L2
namespace L2
open PySem PySem.Spec PyProof.Rows
end L2
namespace L2
open PySem PySem.Spec PyProof.Rows
end L2
namespace L2
open PySem PySem.Spec PyProof.Rows PySem.SeqAt
end L2
namespace L2
open PySem PySem.Spec PyProof.Rows
section
variable {X : Cx} {K : PySem.W.Frag}
end
end L2
namespace L2
open PySem PySem.Spec PyProof.Rows
end L2
namespace L2
open PySem PySem.Spec PyProof.Rows
inductive D where
  | non | bl (b : Bool) | int (i : Int) | str (x : Str) | tup (ds : List D) | rol (ds : List D) | kt (ds : List D) | ref (a : Addr) | ty (n : String)
def KtL (K : PySem.W.Frag) (a : Addr) (xs : List V) : Prop := ∃ (o : Obj) (its : Array Value) (n : Nat), K.lookup a = some o ∧ o.cls = .type "tuple" ∧ o.data = .seq its n ∧ its.size ≤ sizeLine ∧ Vals xs its.toList
def RoL (K : PySem.W.Frag) (H : Hp) (a : Addr) (xs : List V) : Prop :=
  (∃ o, H a = some (.frz o (.lst xs))) ∨ ∃ (o : Obj) (its : Array Value) (n : Nat), K.lookup a = some o ∧ o.cls = .type "list" ∧ o.dict = none ∧ o.data = .seq its n ∧ its.size ≤ sizeLine ∧ Vals xs its.toList
theorem RoL.sq {K : PySem.W.Frag} {H : Hp} {a : Addr} {xs : List V} (h : RoL K H a xs) : SqL K H a xs := by
  rcases h with h | h
  · exact .inl (.inr h)
  · exact .inr h
structure Kp (K : PySem.W.Frag) (H H' : Hp) : Prop where
  t : ∀ a xs, H a = some (.tup xs) → H' a = some (.tup xs)
  r : ∀ a xs, RoL K H a xs → RoL K H' a xs
theorem Kp.refl {K : PySem.W.Frag} (H : Hp) : Kp K H H := ⟨fun _ _ h => h, fun _ _ h => h⟩
theorem Kp.trans {K : PySem.W.Frag} {H H1 H2 : Hp} (a : Kp K H H1) (b : Kp K H1 H2) : Kp K H H2 := ⟨fun p xs h => b.t p xs (a.t p xs h), fun p xs h => b.r p xs (a.r p xs h)⟩
theorem Kp.of {K : PySem.W.Frag} {H H' : Hp} (h : ∀ b o, H b = some o → H' b = some o ∨ (∀ xs, o ≠ .tup xs) ∧ ∀ u v, o ≠ .frz u v) : Kp K H H' where
  t := fun a xs q => (h _ _ q).resolve_right fun z => z.1 _ rfl
  r := fun a xs q => by
    rcases q with ⟨o, q⟩ | q
    · exact .inl ⟨o, (h _ _ q).resolve_right fun z => z.2 _ _ rfl⟩
    · exact .inr q
theorem Kp.new {K : PySem.W.Frag} {H : Hp} {a : Addr} {o : HO} (h : H a = none) : Kp K H (upd H a o) := .of fun b u e => .inl (by rw [upd_ne (ne_of_none e h)]; exact e)
theorem Kp.put {K : PySem.W.Frag} {H : Hp} {a : Addr} {o u : HO} (h : H a = some o) (h1 : ∀ xs, o ≠ .tup xs) (h2 : ∀ u v, o ≠ .frz u v) : Kp K H (upd H a u) := .of fun b v e => by
  by_cases q : b = a
  · subst q; rw [h] at e; cases e; exact .inr ⟨h1, h2⟩
  · exact .inl (by rw [upd_ne q]; exact e)
mutual
def Rv (K : PySem.W.Frag) (H : Hp) : D → V → Prop
  | .non, v => v = .non
  | .bl b, v => v = .bl b
  | .int i, v => v = .int i
  | .str z, v => v = .str z
  | .tup ds, v => ∃ a xs, v = .ref a ∧ H a = some (.tup xs) ∧ RvAll K H ds xs
  | .rol ds, v => ∃ a xs, v = .ref a ∧ RoL K H a xs ∧ RvAll K H ds xs
  | .kt ds, v => ∃ a xs, v = .ref a ∧ KtL K a xs ∧ RvAll K H ds xs
  | .ref a, v => v = .ref a
  | .ty n, v => v = .ty n
def RvAll (K : PySem.W.Frag) (H : Hp) : List D → List V → Prop
  | [], xs => xs = []
  | d :: ds, xs => ∃ y ys, xs = y :: ys ∧ Rv K H d y ∧ RvAll K H ds ys
end
section
variable {K : PySem.W.Frag} {H H' : Hp}
theorem rv_non : Rv K H .non .non := by simp only [Rv]
theorem rv_bl (b : Bool) : Rv K H (.bl b) (.bl b) := by simp only [Rv]
theorem rv_int (i : Int) : Rv K H (.int i) (.int i) := by simp only [Rv]
theorem rv_str (z : Str) : Rv K H (.str z) (.str z) := by simp only [Rv]
theorem rv_ref (a : Addr) : Rv K H (.ref a) (.ref a) := by simp only [Rv]
theorem rv_ty (n : String) : Rv K H (.ty n) (.ty n) := by simp only [Rv]
theorem rv_kt {a : Addr} {xs : List V} {ds : List D} (h : KtL K a xs) (t : RvAll K H ds xs) : Rv K H (.kt ds) (.ref a) := by simp only [Rv]; exact ⟨a, xs, rfl, h, t⟩
theorem rv_tup {a : Addr} {xs : List V} {ds : List D} (h : H a = some (.tup xs)) (t : RvAll K H ds xs) : Rv K H (.tup ds) (.ref a) := by simp only [Rv]; exact ⟨a, xs, rfl, h, t⟩
theorem rv_rol {a : Addr} {xs : List V} {ds : List D} (h : RoL K H a xs) (t : RvAll K H ds xs) : Rv K H (.rol ds) (.ref a) := by simp only [Rv]; exact ⟨a, xs, rfl, h, t⟩
theorem Rv.non {v : V} (h : Rv K H .non v) : v = .non := by simpa only [Rv] using h
theorem Rv.bl {b : Bool} {v : V} (h : Rv K H (.bl b) v) : v = .bl b := by simpa only [Rv] using h
theorem Rv.int {i : Int} {v : V} (h : Rv K H (.int i) v) : v = .int i := by simpa only [Rv] using h
theorem Rv.str {z : Str} {v : V} (h : Rv K H (.str z) v) : v = .str z := by simpa only [Rv] using h
theorem Rv.ref {a : Addr} {v : V} (h : Rv K H (.ref a) v) : v = .ref a := by simpa only [Rv] using h
theorem Rv.ty {n : String} {v : V} (h : Rv K H (.ty n) v) : v = .ty n := by simpa only [Rv] using h
theorem Rv.kt {ds : List D} {v : V} (h : Rv K H (.kt ds) v) : ∃ a xs, v = .ref a ∧ KtL K a xs ∧ RvAll K H ds xs := by simpa only [Rv] using h
theorem Rv.tup {ds : List D} {v : V} (h : Rv K H (.tup ds) v) : ∃ a xs, v = .ref a ∧ H a = some (.tup xs) ∧ RvAll K H ds xs := by simpa only [Rv] using h
theorem Rv.rol {ds : List D} {v : V} (h : Rv K H (.rol ds) v) : ∃ a xs, v = .ref a ∧ RoL K H a xs ∧ RvAll K H ds xs := by simpa only [Rv] using h
theorem ra_nil : RvAll K H [] [] := by simp only [RvAll]
theorem ra_cons {d : D} {ds : List D} {x : V} {xs : List V} (h : Rv K H d x) (t : RvAll K H ds xs) : RvAll K H (d :: ds) (x :: xs) := by simp only [RvAll]; exact ⟨x, xs, rfl, h, t⟩
theorem RvAll.nil {xs : List V} (h : RvAll K H [] xs) : xs = [] := by simpa only [RvAll] using h
theorem RvAll.cons {d : D} {ds : List D} {xs : List V} (h : RvAll K H (d :: ds) xs) : ∃ y ys, xs = y :: ys ∧ Rv K H d y ∧ RvAll K H ds ys := by simpa only [RvAll] using h
mutual
theorem Rv.ts (s : Kp K H H') : ∀ (d : D) {v : V}, Rv K H d v → Rv K H' d v
  | .non, v, h => by simpa only [Rv] using h
  | .bl b, v, h => by simpa only [Rv] using h
  | .int i, v, h => by simpa only [Rv] using h
  | .str z, v, h => by simpa only [Rv] using h
  | .tup ds, v, h => by
    obtain ⟨a, xs, rfl, e, t⟩ := h.tup
    exact rv_tup (s.t _ _ e) (RvAll.ts s ds t)
  | .rol ds, v, h => by
    obtain ⟨a, xs, rfl, e, t⟩ := h.rol
    exact rv_rol (s.r _ _ e) (RvAll.ts s ds t)
  | .kt ds, v, h => by
    obtain ⟨a, xs, rfl, e, t⟩ := h.kt
    exact rv_kt e (RvAll.ts s ds t)
  | .ref a, v, h => by simpa only [Rv] using h
  | .ty n, v, h => by simpa only [Rv] using h
theorem RvAll.ts (s : Kp K H H') : ∀ (ds : List D) {xs : List V}, RvAll K H ds xs → RvAll K H' ds xs
  | [], xs, h => by rw [h.nil]; exact ra_nil
  | d :: ds, xs, h => by
    obtain ⟨y, ys, rfl, h1, h2⟩ := h.cons
    exact ra_cons (Rv.ts s d h1) (RvAll.ts s ds h2)
end
theorem RvAll.len : ∀ {ds : List D} {xs : List V}, RvAll K H ds xs → xs.length = ds.length
  | [], xs, h => by rw [h.nil]; rfl
  | d :: ds, xs, h => by
    obtain ⟨y, ys, rfl, _, h2⟩ := h.cons
    rw [List.length_cons, List.length_cons, h2.len]
theorem RvAll.get : ∀ {ds : List D} {xs : List V} {i : Nat} {d : D}, RvAll K H ds xs → ds[i]? = some d → ∃ v, xs[i]? = some v ∧ Rv K H d v
  | [], xs, i, d, h, e => by simp at e
  | d0 :: ds, xs, 0, d, h, e => by
    obtain ⟨y, ys, rfl, h1, h2⟩ := h.cons
    simp at e; subst e; exact ⟨y, rfl, h1⟩
  | d0 :: ds, xs, i + 1, d, h, e => by
    obtain ⟨y, ys, rfl, h1, h2⟩ := h.cons
    obtain ⟨v, e1, e2⟩ := h2.get (i := i) (by simpa using e)
    exact ⟨v, by simpa using e1, e2⟩
theorem RvAll.app : ∀ {ds es : List D} {xs ys : List V}, RvAll K H ds xs → RvAll K H es ys → RvAll K H (ds ++ es) (xs ++ ys)
  | [], es, xs, ys, h, k => by rw [h.nil]; exact k
  | d :: ds, es, xs, ys, h, k => by
    obtain ⟨y, zs, rfl, h1, h2⟩ := h.cons
    exact ra_cons h1 (h2.app k)
theorem RvAll.take : ∀ {ds : List D} {xs : List V} (n : Nat), RvAll K H ds xs → RvAll K H (ds.take n) (xs.take n)
  | [], xs, n, h => by rw [h.nil]; simp only [List.take_nil]; exact ra_nil
  | d :: ds, xs, 0, h => by simp only [List.take_zero]; exact ra_nil
  | d :: ds, xs, n + 1, h => by
    obtain ⟨y, zs, rfl, h1, h2⟩ := h.cons
    exact ra_cons h1 (h2.take n)
theorem RvAll.drop : ∀ {ds : List D} {xs : List V} (n : Nat), RvAll K H ds xs → RvAll K H (ds.drop n) (xs.drop n)
  | [], xs, n, h => by rw [h.nil]; simp only [List.drop_nil]; exact ra_nil
  | d :: ds, xs, 0, h => h
  | d :: ds, xs, n + 1, h => by
    obtain ⟨y, zs, rfl, h1, h2⟩ := h.cons
    exact h2.drop n
theorem RvAll.set : ∀ {ds : List D} {xs : List V} {d : D} {v : V} (n : Nat), RvAll K H ds xs → Rv K H d v → RvAll K H (ds.set n d) (xs.set n v)
  | [], xs, d, v, n, h, r => by rw [h.nil]; exact ra_nil
  | d0 :: ds, xs, d, v, 0, h, r => by
    obtain ⟨y, zs, rfl, h1, h2⟩ := h.cons
    exact ra_cons r h2
  | d0 :: ds, xs, d, v, n + 1, h, r => by
    obtain ⟨y, zs, rfl, h1, h2⟩ := h.cons
    exact ra_cons h1 (h2.set n r)
theorem RvAll.dropLast : ∀ {ds : List D} {xs : List V}, RvAll K H ds xs → RvAll K H ds.dropLast xs.dropLast
  | [], xs, h => by rw [h.nil]; exact ra_nil
  | [d], xs, h => by
    obtain ⟨y, zs, rfl, h1, h2⟩ := h.cons
    rw [h2.nil]; exact ra_nil
  | d :: e :: ds, xs, h => by
    obtain ⟨y, zs, rfl, h1, h2⟩ := h.cons
    obtain ⟨y2, zs2, rfl, h3, h4⟩ := id h2.cons
    exact ra_cons h1 (RvAll.dropLast h2)
theorem RvAll.bools : ∀ {bs : List Bool} {xs : List V}, RvAll K H (bs.map D.bl) xs → xs = bs.map V.bl
  | [], xs, h => h.nil
  | b :: bs, xs, h => by
    obtain ⟨y, ys, rfl, h1, h2⟩ := h.cons
    rw [h1.bl, h2.bools]; rfl
theorem RvAll.ints : ∀ {bs : List Int} {xs : List V}, RvAll K H (bs.map D.int) xs → xs = bs.map V.int
  | [], xs, h => h.nil
  | b :: bs, xs, h => by
    obtain ⟨y, ys, rfl, h1, h2⟩ := h.cons
    rw [h1.int, h2.ints]; rfl
theorem RvAll.strs : ∀ {bs : List Str} {xs : List V}, RvAll K H (bs.map D.str) xs → xs = bs.map V.str
  | [], xs, h => h.nil
  | b :: bs, xs, h => by
    obtain ⟨y, ys, rfl, h1, h2⟩ := h.cons
    rw [h1.str, h2.strs]; rfl
theorem ra_ints : ∀ (bs : List Int), RvAll K H (bs.map D.int) (bs.map V.int)
  | [] => ra_nil
  | b :: bs => ra_cons (rv_int b) (ra_ints bs)
theorem ra_strs : ∀ (bs : List Str), RvAll K H (bs.map D.str) (bs.map V.str)
  | [] => ra_nil
  | b :: bs => ra_cons (rv_str b) (ra_strs bs)
def RvKs {κ : Type} (K : PySem.W.Frag) (H : Hp) : List (κ × D) → List (κ × V) → Prop := Paired fun p q => p.1 = q.1 ∧ Rv K H p.2 q.2
theorem RvKs.ts {κ : Type} (s : Kp K H H') : ∀ {ks : List (κ × D)} {vs : List (κ × V)}, RvKs K H ks vs → RvKs K H' ks vs
  | _, _, .nil => .nil
  | _, _, .cons r t => .cons ⟨r.1, Rv.ts s _ r.2⟩ (RvKs.ts s t)
theorem RvKs.look {ks : List (Str × D)} {vs : List (Str × V)} (h : RvKs K H ks vs) (f : Str) : (∀ d, ks.lookup f = some d → ∃ v, vs.lookup f = some v ∧ Rv K H d v) ∧ (ks.lookup f = none → vs.lookup f = none) := by
  induction h with
  | nil => exact ⟨fun d e => (by cases e), fun _ => rfl⟩
  | @cons a b l m r t ih =>
    obtain ⟨k, d⟩ := a
    obtain ⟨k', v⟩ := b
    obtain ⟨rfl, r⟩ := r
    simp only [List.lookup_cons]
    cases q : f == k with
    | true => exact ⟨fun d' e => ⟨v, rfl, (by cases e; exact r)⟩, fun e => (by cases e)⟩
    | false => exact ih
end
inductive Ce where
  | lst (ds : List D) | dct (kvs : List (Key × D)) | ins (c : Addr) (fs : List (Str × D)) | well | exc (c : Addr)
abbrev Sto := Addr → Option Ce
def Sto.set (S : Sto) (a : Addr) (c : Ce) : Sto := fun b => if b = a then some c else S b
theorem sset_same {S : Sto} {a : Addr} {c : Ce} : S.set a c a = some c := by unfold Sto.set; rw [if_pos rfl]
theorem sset_ne {S : Sto} {a b : Addr} {c : Ce} (h : b ≠ a) : S.set a c b = S b := by unfold Sto.set; rw [if_neg h]
theorem sset_sset {S : Sto} {a : Addr} {c e : Ce} : (S.set a c).set a e = S.set a e := by
  funext b; unfold Sto.set; split <;> rfl
theorem sne {S : Sto} {a b : Addr} {c : Ce} (h : S a = some c) (h' : S b = none) : a ≠ b := by
  intro e; subst e; rw [h] at h'; cases h'
def Rc (K : PySem.W.Frag) (H : Hp) (a : Addr) : Ce → Prop
  | .lst ds => ∃ xs, H a = some (.lst xs) ∧ RvAll K H ds xs
  | .dct kvs => ∃ vs, H a = some (.dK vs) ∧ RvKs K H kvs vs
  | .ins c fs => ∃ dx vs, H a = some (.ins c dx vs) ∧ RvKs K H fs vs
  | .well => ∃ x y z : Int, H a = some (.lst [.int x, .int y, .int z])
  | .exc c => H a = some (excO a (.ref c))
def Rs (K : PySem.W.Frag) (S : Sto) (H : Hp) : Prop := ∀ a c, S a = some c → Rc K H a c
section
variable {K : PySem.W.Frag} {H H' : Hp} {S : Sto} {a b : Addr} {c : Ce}
theorem Rc.has (h : Rc K H a c) : ∃ o, H a = some o ∧ (∀ xs, o ≠ .tup xs) ∧ ∀ u v, o ≠ .frz u v := by
  cases c with
  | lst ds => obtain ⟨xs, e, _⟩ := h; exact ⟨_, e, fun _ => nofun, fun _ _ => nofun⟩
  | dct ds => obtain ⟨xs, e, _⟩ := h; exact ⟨_, e, fun _ => nofun, fun _ _ => nofun⟩
  | ins c fs => obtain ⟨dx, vs, e, _⟩ := h; exact ⟨_, e, fun _ => nofun, fun _ _ => nofun⟩
  | well => obtain ⟨x, y, z, e⟩ := h; exact ⟨_, e, fun _ => nofun, fun _ _ => nofun⟩
  | exc c => exact ⟨_, h, fun _ => nofun, fun _ _ => nofun⟩
theorem Rc.keep (h : Rc K H a c) (e : ∀ o, H a = some o → H' a = some o) (s : Kp K H H') : Rc K H' a c := by
  cases c with
  | lst ds => obtain ⟨xs, e1, r⟩ := h; exact ⟨xs, e _ e1, RvAll.ts s _ r⟩
  | dct ds => obtain ⟨xs, e1, r⟩ := h; exact ⟨xs, e _ e1, r.ts s⟩
  | ins c fs => obtain ⟨dx, vs, e1, r⟩ := h; exact ⟨dx, vs, e _ e1, r.ts s⟩
  | well => obtain ⟨x, y, z, e1⟩ := h; exact ⟨x, y, z, e _ e1⟩
  | exc c => exact e _ h
theorem Rs.fresh (h : Rs K S H) (e : H a = none) : S a = none := by
  cases q : S a with
  | none => rfl
  | some c => obtain ⟨o, e1, _⟩ := (h a c q).has; rw [e] at e1; cases e1
theorem Rs.new (h : Rs K S H) (e : H a = none) {o : HO} (r : Rc K (upd H a o) a c) : Rs K (S.set a c) (upd H a o) := fun b x hb => by
  by_cases q : b = a
  · subst q; rw [sset_same] at hb; cases hb; exact r
  · rw [sset_ne q] at hb
    exact (h b x hb).keep (fun o e1 => by rw [upd_ne q]; exact e1) (Kp.new e)
theorem Rs.grow (h : Rs K S H) (e : H a = none) {o : HO} : Rs K S (upd H a o) := fun b x hb => by
  obtain ⟨u, e1, _⟩ := (h b x hb).has
  have q : b ≠ a := ne_of_none e1 e
  exact (h b x hb).keep (fun o e1 => by rw [upd_ne q]; exact e1) (Kp.new e)
theorem Rs.ts_put (h : Rs K S H) {e : Ce} (ha : S a = some e) {o : HO} : Kp K H (upd H a o) := by
  obtain ⟨u, e1, n1, n2⟩ := (h a e ha).has
  exact Kp.put e1 n1 n2
theorem Rs.put (h : Rs K S H) {e : Ce} (ha : S a = some e) {o : HO} (r : Rc K (upd H a o) a c) : Rs K (S.set a c) (upd H a o) := fun b x hb => by
  by_cases q : b = a
  · subst q; rw [sset_same] at hb; cases hb; exact r
  · rw [sset_ne q] at hb
    exact (h b x hb).keep (fun o e1 => by rw [upd_ne q]; exact e1) (h.ts_put ha)
theorem Rs.lst {ds : List D} (h : Rs K S H) (e : S a = some (.lst ds)) : ∃ xs, H a = some (.lst xs) ∧ RvAll K H ds xs := h a _ e
theorem Rs.dct {ds : List (Key × D)} (h : Rs K S H) (e : S a = some (.dct ds)) : ∃ xs, H a = some (.dK xs) ∧ RvKs K H ds xs := h a _ e
theorem Rs.ins {c : Addr} {fs : List (Str × D)} (h : Rs K S H) (e : S a = some (.ins c fs)) : ∃ dx vs, H a = some (.ins c dx vs) ∧ RvKs K H fs vs := h a _ e
end
abbrev KD := D → Sto → Prop
abbrev KX := Addr → Sto → Prop
abbrev SD := List (Option D)
def Rst (K : PySem.W.Frag) (H : Hp) : SD → St → Prop := Paired fun (o : Option D) (u : Option V) => ∀ d, o = some d → ∃ v, u = some v ∧ Rv K H d v
section
variable {K : PySem.W.Frag} {H H' : Hp}
theorem Rst.ts (s : Kp K H H') : ∀ {σ : SD} {τ : St}, Rst K H σ τ → Rst K H' σ τ
  | _, _, .nil => .nil
  | _, _, .cons r t => .cons (fun d e => let ⟨v, e1, r1⟩ := r d e; ⟨v, e1, Rv.ts s _ r1⟩) (Rst.ts s t)
theorem Rst.get : ∀ {σ : SD} {τ : St} {i : Nat} {d : D}, Rst K H σ τ → σ[i]? = some (some d) → ∃ v, τ[i]? = some (some v) ∧ Rv K H d v
  | _, _, i, d, .nil, e => by simp at e
  | _, _, 0, d, .cons r t, e => by
    simp at e
    obtain ⟨v, e1, r1⟩ := r d e
    exact ⟨v, by simp [e1], r1⟩
  | _, _, i + 1, d, .cons r t, e => by
    obtain ⟨v, e1, r1⟩ := Rst.get (i := i) t (by simpa using e)
    exact ⟨v, by simpa using e1, r1⟩
theorem Rst.set : ∀ {σ : SD} {τ : St} (i : Nat) {d : D} {v : V}, Rst K H σ τ → Rv K H d v → Rst K H (σ.set i (some d)) (τ.set i (some v))
  | _, _, i, d, v, .nil, r => .nil
  | _, _, 0, d, v, .cons r t, q => .cons (fun d' e => by cases e; exact ⟨v, rfl, q⟩) t
  | _, _, i + 1, d, v, .cons r t, q => .cons r (Rst.set i t q)
theorem rst_none : ∀ (n : Nat) (τ : St), τ.length = n → Rst K H (List.replicate n none) τ
  | 0, [], _ => .nil
  | n + 1, _ :: τ, h => .cons (fun d e => by cases e) (rst_none n τ (by simpa using h))
theorem rst_vals : ∀ {ds : List D} {vs : List V}, RvAll K H ds vs → Rst K H (ds.map some) (vs.map some)
  | [], vs, h => by rw [h.nil]; exact .nil
  | d :: ds, vs, h => by
    obtain ⟨y, ys, rfl, h1, h2⟩ := h.cons
    exact .cons (fun d' e => by cases e; exact ⟨y, rfl, h1⟩) (rst_vals h2)
theorem Rst.app : ∀ {σ σ' : SD} {τ τ' : St}, Rst K H σ τ → Rst K H σ' τ' → Rst K H (σ ++ σ') (τ ++ τ')
  | _, _, _, _, .nil, h => h
  | _, _, _, _, .cons r t, h => .cons r (Rst.app t h)
end
end L2
namespace L2
open PySem PySem.Spec PyProof.Rows
structure Rdy (Y : Cx) (E : St → XK) (b : Bool) : Prop where
  call : ∀ p2 τ H s e s', Inv Y p2 τ H s → CXR Y.prog Y.w Y.stack H s (E τ) e s' → Y.xe e s'
  own : b = true → ∀ p2 τ H s h' a cls args, Inv Y p2 τ H s → Heap.MadeExcOf s.heap h' a cls args → E τ cls none H → Y.xe (.ref a) { s with heap := h' }
  loop : b = true → PassesOwn (model Y.prog Y.w) Y.A Y.env Y.xe
structure Ev (X : Cx) (b : Bool) where
  pn : List (Addr × Obj)
  xe : Value → Shared → Prop
  E : St → XK
  ok : Rdy { X with pn := pn, xe := xe } E b
abbrev Ev.cx {X : Cx} {b : Bool} (y : Ev X b) : Cx := { X with pn := y.pn, xe := y.xe }
def Cn (K : PySem.W.Frag) (H : Hp) (R : KD) (Q : VK) : Prop := ∀ d S v H', R d S → Rv K H' d v → Rs K S H' → Kp K H H' → Q v H'
def CnX (K : PySem.W.Frag) (H : Hp) (Z : KX) (e : XK) : Prop := ∀ C S H', Z C S → Rs K S H' → Kp K H H' → e (.ref C) none H'
theorem Cn.kp {K : PySem.W.Frag} {H H1 : Hp} {R : KD} {Q : VK} (h : Cn K H R Q) (k : Kp K H H1) : Cn K H1 R Q := fun d S v H' r v1 s1 k1 => h d S v H' r v1 s1 (k.trans k1)
theorem CnX.kp {K : PySem.W.Frag} {H H1 : Hp} {Z : KX} {e : XK} (h : CnX K H Z e) (k : Kp K H H1) : CnX K H1 Z e := fun C S H' r s1 k1 => h C S H' r s1 (k.trans k1)
abbrev TD := SD → Sto → KD → KX → Prop
def T (K : PySem.W.Frag) (E : St → XK) (t : TD) : TE := fun τ H Q => ∃ σ S R Z, Rst K H σ τ ∧ Rs K S H ∧ t σ S R Z ∧ Cn K H R Q ∧ CnX K H Z (E τ)
structure DE (K : PySem.W.Frag) (X : Cx) (e : Expr) (t : TD) : Prop where
  of : ∀ {b : Bool} (y : Ev X b), PE y.cx e (T K y.E t)
abbrev TDt := SD → Sto → (Bool → Sto → Prop) → KX → Prop
def CnT (K : PySem.W.Frag) (H : Hp) (R : Bool → Sto → Prop) (Q : Bool → Hp → Prop) : Prop := ∀ b S H', R b S → Rs K S H' → Kp K H H' → Q b H'
theorem CnT.kp {K : PySem.W.Frag} {H H1 : Hp} {R : Bool → Sto → Prop} {Q : Bool → Hp → Prop} (h : CnT K H R Q) (k : Kp K H H1) : CnT K H1 R Q := fun d S H' r s1 k1 => h d S H' r s1 (k.trans k1)
def Tt (K : PySem.W.Frag) (E : St → XK) (t : TDt) : TT := fun τ H Q => ∃ σ S R Z, Rst K H σ τ ∧ Rs K S H ∧ t σ S R Z ∧ CnT K H R Q ∧ CnX K H Z (E τ)
structure DT (K : PySem.W.Frag) (X : Cx) (e : Expr) (t : TDt) : Prop where
  of : ∀ {b : Bool} (y : Ev X b), PT y.cx e (Tt K y.E t)
abbrev TDa := SD → Sto → (List D → Sto → Prop) → KX → Prop
def CnA (K : PySem.W.Frag) (H : Hp) (R : List D → Sto → Prop) (Q : List V → Hp → Prop) : Prop := ∀ ds S vs H', R ds S → RvAll K H' ds vs → Rs K S H' → Kp K H H' → Q vs H'
def Ta (K : PySem.W.Frag) (E : St → XK) (t : TDa) : TA := fun τ H Q => ∃ σ S R Z, Rst K H σ τ ∧ Rs K S H ∧ t σ S R Z ∧ CnA K H R Q ∧ CnX K H Z (E τ)
structure DA (K : PySem.W.Frag) (X : Cx) (es : List Expr) (t : TDa) : Prop where
  of : ∀ {b : Bool} (y : Ev X b), PA y.cx es (Ta K y.E t)
theorem PE.mono {X : Cx} {e : Expr} {t t' : TE} (h : PE X e t) (i : ∀ τ H Q, t' τ H Q → t τ H Q) : PE X e t' := fun pins s τ H Q I q => h pins s τ H Q I (i τ H Q q)
theorem PT.mono {X : Cx} {e : Expr} {t t' : TT} (h : PT X e t) (i : ∀ τ H Q, t' τ H Q → t τ H Q) : PT X e t' := fun pins s τ H Q I q => h pins s τ H Q I (i τ H Q q)
theorem PA.mono {X : Cx} {e : List Expr} {t t' : TA} (h : PA X e t) (i : ∀ τ H Q, t' τ H Q → t τ H Q) : PA X e t' := fun pos pins s τ H Q I q => h pos pins s τ H Q I (i τ H Q q)
section
variable {K : PySem.W.Frag} {X : Cx}
def dVar (i : Nat) : TD := fun σ S R _ => ∃ d, σ[i]? = some (some d) ∧ R d S
def dC (d : D) : TD := fun _ S R _ => R d S
theorem dv (i : Nat) {x : Str} {pos : Pos} (hN : X.N[i]? = some x := by rfl) (hv : Vis X.env.scope x := by first | exact Or.inl rfl | exact Or.inr (Or.inl rfl) | exact Or.inr (Or.inr rfl)) (hd : (x == ("__debug__" : Str)) = false := by decide)
    (hcd : (x == ("__classdict__" : Str)) = false := by decide) : DE K X (.Name x pos) (dVar i) :=
  ⟨fun y => (pe_var (X := y.cx) hN hv hd hcd).mono fun τ H Q ⟨σ, S, R, Z, hσ, hS, ⟨d, e, r⟩, hR, _⟩ => let ⟨v, e1, rv⟩ := hσ.get e; ⟨v, e1, hR d S v H r rv hS (Kp.refl _)⟩⟩
theorem DE.const {e : Expr} {v : V} {d : D} (h : ∀ Y : Cx, Y.env = X.env → Y.mg = X.mg → PE Y e (tC v)) (r : ∀ H, Rv K H d v) : DE K X e (dC d) :=
  ⟨fun y => (h y.cx rfl rfl).mono fun τ H Q ⟨σ, S, R, Z, hσ, hS, q, hR, _⟩ => hR d S v H q (r H) hS (Kp.refl _)⟩
theorem di {i j pos} : DE K X (.Constant (.int i) j pos) (dC (.int i)) := .const (fun _ _ _ => pe_int) fun _ => rv_int i
theorem ds {i j pos} : DE K X (.Constant (.str i) j pos) (dC (.str i)) := .const (fun _ _ _ => pe_str) fun _ => rv_str i
theorem db {i j pos} : DE K X (.Constant (.bool i) j pos) (dC (.bl i)) := .const (fun _ _ _ => pe_bl) fun _ => rv_bl i
theorem dn {j pos} : DE K X (.Constant .none j pos) (dC .non) := .const (fun _ _ _ => pe_non) fun _ => rv_non
theorem dg {x : Str} {v : V} {d : D} {u : Value} {pos : Pos} (hm : X.mg x = some u) (r : RelV v u) (rd : ∀ H, Rv K H d v) (hg : Gl X x := by rfl) (hd : (x == ("__debug__" : Str)) = false := by decide) : DE K X (.Name x pos) (dC d) :=
  .const (fun Y e1 e2 => pe_glob (X := Y) (u := u) (show Y.env.kindOf x = _ by rw [e1]; exact hg) (by rw [e2]; exact hm) r hd) rd
theorem dty {x : Str} {n : String} {pos : Pos} (hm : X.mg x = none) (hv : bootBuiltins x = some (.type n)) (hg : Gl X x := by rfl) (hn : x ≠ "__name__" := by decide) (hd : (x == ("__debug__" : Str)) = false := by decide) : DE K X (.Name x pos) (dC (.ty n)) :=
  .const (fun Y e1 e2 => pe_bltn (X := Y) (v := .ty n) (show Y.env.kindOf x = _ by rw [e1]; exact hg) (by rw [e2]; exact hm) hv rfl hn hd) fun _ => rv_ty n
def aNil : TDa := fun _ S R _ => R [] S
def aCons (t : TD) (u : TDa) : TDa := fun σ S R Z => t σ S (fun d S1 => u σ S1 (fun ds S2 => R (d :: ds) S2) Z) Z
theorem an : DA K X [] aNil := ⟨fun y => (pa_nil (X := y.cx)).mono fun τ H Q ⟨σ, S, R, Z, hσ, hS, q, hR, _⟩ => hR [] S [] H q ra_nil hS (Kp.refl _)⟩
theorem ac {e : Expr} {es : List Expr} {t : TD} {u : TDa} (h : DE K X e t) (hr : DA K X es u) (hp : isPlain e = true := by rfl) : DA K X (e :: es) (aCons t u) :=
  ⟨fun y => (pa2 (h.of y) (hr.of y) hp).mono fun τ H Q ⟨σ, S, R, Z, hσ, hS, q, hR, hZ⟩ =>
    ⟨σ, S, _, Z, hσ, hS, q, fun d S1 x H1 r1 v1 s1 k1 => ⟨σ, S1, _, Z, hσ.ts k1, s1, r1, fun ds S2 xs H2 r2 v2 s2 k2 => hR (d :: ds) S2 (x :: xs) H2 r2 (ra_cons (Rv.ts k2 _ v1) v2) s2 (k1.trans k2), hZ.kp k1⟩, hZ⟩⟩
abbrev RD2 := D → D → Sto → KD → Prop
def Lr (K : PySem.W.Frag) (r : RD2) : R2 := fun x y H Q => ∃ d e S R, Rv K H d x ∧ Rv K H e y ∧ Rs K S H ∧ r d e S R ∧ Cn K H R Q
def OpD (K : PySem.W.Frag) (f : Value → Value → Sem Value) (r : RD2) : Prop := ∀ X : Cx, X.K = K → X.A.units + 64 < cLine → OpR X f (Lr K r)
def dOp (r : RD2) (ta tb : TD) : TD := fun σ S R Z => ta σ S (fun x S1 => tb σ S1 (fun y S2 => r x y S2 R) Z) Z
theorem T.op {E : St → XK} {r : RD2} {ta tb : TD} {τ : St} {H : Hp} {Q : VK} (h : T K E (dOp r ta tb) τ H Q) : tOp (Lr K r) (T K E ta) (T K E tb) τ H Q := by
  obtain ⟨σ, S, R, Z, hσ, hS, q, hR, hZ⟩ := h
  exact ⟨σ, S, _, Z, hσ, hS, q, fun d S1 x H1 r1 v1 s1 k1 => ⟨σ, S1, _, Z, hσ.ts k1, s1, r1, fun e S2 y H2 r2 v2 s2 k2 => ⟨d, e, S2, R, Rv.ts k2 _ v1, v2, s2, r2, hR.kp (k1.trans k2)⟩, hZ.kp k1⟩, hZ⟩
theorem bo {a b : Expr} {ta tb : TD} {op : Operator} {r : RD2} {pos : Pos} (ho : OpD K (binaryOp op) r) (hu : X.A.units + 64 < cLine) (ha : DE K X a ta) (hb : DE K X b tb) (hK : X.K = K := by rfl) : DE K X (.BinOp a op b pos) (dOp r ta tb) :=
  ⟨fun y => (pe_op (ho y.cx hK hu) (ha.of y) (hb.of y)).mono fun _ _ _ h => h.op⟩
theorem cm {a b : Expr} {ta tb : TD} {op : CmpOp} {r : RD2} {pos : Pos} (ho : OpD K (compareOp op) r) (hu : X.A.units + 64 < cLine) (ha : DE K X a ta) (hb : DE K X b tb) (hm : behindInMarks op b = false := by with_unfolding_all rfl) (hK : X.K = K := by rfl) : DE K X (.Compare a [op] [b] pos) (dOp r ta tb) :=
  ⟨fun y => (pe_cmpR (ho y.cx hK hu) (ha.of y) (hb.of y) hm).mono fun _ _ _ h => h.op⟩
def dB (t : TD) : TDt := fun σ S R Z => t σ S (fun x S1 => ∃ b, x = .bl b ∧ R b S1) Z
theorem Tt.b {E : St → XK} {t : TD} {τ : St} {H : Hp} {Q : Bool → Hp → Prop} (h : Tt K E (dB t) τ H Q) : T K E t τ H fun x H' => ∃ k, x = .bl k ∧ Q k H' := by
  obtain ⟨σ, S, R, Z, hσ, hS, q, hR, hZ⟩ := h
  exact ⟨σ, S, _, Z, hσ, hS, q, fun d S1 x H1 ⟨b, e, r1⟩ v1 s1 k1 => by subst e; exact ⟨b, v1.bl, hR b S1 H1 r1 s1 k1⟩, hZ⟩
theorem Tt.bop {E : St → XK} {r : RD2} {ta tb : TD} {τ : St} {H : Hp} {Q : Bool → Hp → Prop} (h : Tt K E (dB (dOp r ta tb)) τ H Q) : tTest (tOp (Lr K r) (T K E ta) (T K E tb)) τ H Q := h.b.op
theorem tcm {a b : Expr} {ta tb : TD} {op : CmpOp} {r : RD2} {pos : Pos} (ho : OpD K (compareOp op) r) (hu : X.A.units + 64 < cLine) (ha : DE K X a ta) (hb : DE K X b tb) (hm : behindInMarks op b = false := by with_unfolding_all rfl) (hK : X.K = K := by rfl) : DT K X (.Compare a [op] [b] pos) (dB (dOp r ta tb)) :=
  ⟨fun y => (pt_cmpR (ho y.cx hK hu) (ha.of y) (hb.of y) hm).mono fun _ _ _ h => h.bop⟩
theorem tv {e : Expr} {t : TD} (h : DE K X e t) (he : ∀ whole, isTrue e X.env whole = (do let v ← whole; standAt e.pos; holding [v] (truthy v)) := by intro _; rfl) : DT K X e (dB t) :=
  ⟨fun y => (pt_val (X := y.cx) (h.of y) he).mono fun _ _ _ h => h.b⟩
def dChain (r r' : RD2) (ta tb tc : TD) : TD := fun σ S R Z => ta σ S (fun x S1 => tb σ S1 (fun y S2 => r x y S2 fun z S3 => ∃ k, z = .bl k ∧ if k = true then tc σ S3 (fun w S4 => r' y w S4 R) Z else R (.bl false) S3) Z) Z
theorem T.chain {E : St → XK} {r r' : RD2} {ta tb tc : TD} {τ : St} {H : Hp} {Q : VK} (h : T K E (dChain r r' ta tb tc) τ H Q) : tChain (Lr K r) (Lr K r') (T K E ta) (T K E tb) (T K E tc) τ H Q := by
  obtain ⟨σ, S, R, Z, hσ, hS, q, hR, hZ⟩ := h
  refine ⟨σ, S, _, Z, hσ, hS, q, fun d S1 x H1 r1 v1 s1 k1 => ⟨σ, S1, _, Z, hσ.ts k1, s1, r1, fun e S2 y H2 r2 v2 s2 k2 => ⟨d, e, S2, _, Rv.ts k2 _ v1, v2, s2, r2, fun z S3 v H3 r3 v3 s3 k3 => ?_⟩, hZ.kp k1⟩, hZ⟩
  obtain ⟨k, rfl, r3⟩ := r3
  refine ⟨k, v3.bl, ?_⟩
  cases k with
  | true =>
    rw [if_pos rfl] at r3 ⊢
    exact ⟨σ, S3, _, Z, ((hσ.ts k1).ts k2).ts k3, s3, r3, fun w S4 wv H4 r4 v4 s4 k4 => ⟨e, w, S4, R, Rv.ts (k3.trans k4) _ v2, v4, s4, r4, hR.kp (((k1.trans k2).trans k3).trans k4)⟩, hZ.kp ((k1.trans k2).trans k3)⟩
  | false =>
    rw [if_neg Bool.false_ne_true] at r3 ⊢
    exact hR _ S3 _ H3 r3 (rv_bl false) s3 ((k1.trans k2).trans k3)
theorem cc {a b c : Expr} {ta tb tc : TD} {op op' : CmpOp} {r r' : RD2} {pos : Pos} (ho : OpD K (compareOp op) r) (ho' : OpD K (compareOp op') r') (hu : X.A.units + 64 < cLine) (ha : DE K X a ta) (hb : DE K X b tb) (hc : DE K X c tc)
    (hm : lastMarks [op, op'] [b, c] = false := by with_unfolding_all rfl) (hK : X.K = K := by rfl) : DE K X (.Compare a [op, op'] [b, c] pos) (dChain r r' ta tb tc) :=
  ⟨fun y => (pe_chain (ho y.cx hK hu) (ho' y.cx hK hu) (ha.of y) (hb.of y) (hc.of y) hm).mono fun _ _ _ h => h.chain⟩
theorem tcc {a b c : Expr} {ta tb tc : TD} {op op' : CmpOp} {r r' : RD2} {pos : Pos} (ho : OpD K (compareOp op) r) (ho' : OpD K (compareOp op') r') (hu : X.A.units + 64 < cLine) (ha : DE K X a ta) (hb : DE K X b tb) (hc : DE K X c tc)
    (hm : lastMarks [op, op'] [b, c] = false := by with_unfolding_all rfl) (hK : X.K = K := by rfl) : DT K X (.Compare a [op, op'] [b, c] pos) (dB (dChain r r' ta tb tc)) :=
  ⟨fun y => (pt_chain (ho y.cx hK hu) (ho' y.cx hK hu) (ha.of y) (hb.of y) (hc.of y) hm).mono fun _ _ _ h => h.b.chain⟩
def dAndV (ta tb : TD) : TD := fun σ S R Z => ta σ S (fun x S1 => ∃ c, x = .bl c ∧ if c = true then tb σ S1 R Z else R (.bl false) S1) Z
def dOrV (ta tb : TD) : TD := fun σ S R Z => ta σ S (fun x S1 => ∃ c, x = .bl c ∧ if c = true then R (.bl true) S1 else tb σ S1 R Z) Z
def dNotV (ta : TD) : TD := fun σ S R Z => ta σ S (fun x S1 => ∃ c, x = .bl c ∧ R (.bl (!c)) S1) Z
theorem ev1 {op} {a : Expr} {t : TD} {pos : Pos} (h : DE K X a t) : DE K X (.BoolOp op [a] pos) t := ⟨fun y => pe_one (h.of y)⟩
theorem eand {a b : Expr} {rest : List Expr} {ta tb : TD} {pos : Pos} (ha : DE K X a ta) (hb : DE K X (.BoolOp .And (b :: rest) pos) tb) : DE K X (.BoolOp .And (a :: b :: rest) pos) (dAndV ta tb) :=
  ⟨fun y => (pe_and (ha.of y) (hb.of y)).mono fun τ H Q ⟨σ, S, R, Z, hσ, hS, q, hR, hZ⟩ =>
    ⟨σ, S, _, Z, hσ, hS, q, fun d S1 x H1 ⟨c, e, r1⟩ v1 s1 k1 => by
      subst e
      refine ⟨c, v1.bl, ?_⟩
      cases c with
      | true => rw [if_pos rfl] at r1 ⊢; exact ⟨σ, S1, R, Z, hσ.ts k1, s1, r1, hR.kp k1, hZ.kp k1⟩
      | false => rw [if_neg Bool.false_ne_true] at r1 ⊢; exact hR _ S1 _ H1 r1 (rv_bl false) s1 k1, hZ⟩⟩
theorem eor {a b : Expr} {rest : List Expr} {ta tb : TD} {pos : Pos} (ha : DE K X a ta) (hb : DE K X (.BoolOp .Or (b :: rest) pos) tb) : DE K X (.BoolOp .Or (a :: b :: rest) pos) (dOrV ta tb) :=
  ⟨fun y => (pe_or (ha.of y) (hb.of y)).mono fun τ H Q ⟨σ, S, R, Z, hσ, hS, q, hR, hZ⟩ =>
    ⟨σ, S, _, Z, hσ, hS, q, fun d S1 x H1 ⟨c, e, r1⟩ v1 s1 k1 => by
      subst e
      refine ⟨c, v1.bl, ?_⟩
      cases c with
      | false => rw [if_neg Bool.false_ne_true] at r1 ⊢; exact ⟨σ, S1, R, Z, hσ.ts k1, s1, r1, hR.kp k1, hZ.kp k1⟩
      | true => rw [if_pos rfl] at r1 ⊢; exact hR _ S1 _ H1 r1 (rv_bl true) s1 k1, hZ⟩⟩
theorem enot {a : Expr} {ta : TD} {pos : Pos} (ha : DE K X a ta) : DE K X (.UnaryOp .Not a pos) (dNotV ta) :=
  ⟨fun y => (pe_not (ha.of y)).mono fun τ H Q ⟨σ, S, R, Z, hσ, hS, q, hR, hZ⟩ =>
    ⟨σ, S, _, Z, hσ, hS, q, fun d S1 x H1 ⟨c, e, r1⟩ v1 s1 k1 => by subst e; exact ⟨c, v1.bl, hR _ S1 _ H1 r1 (rv_bl _) s1 k1⟩, hZ⟩⟩
def dNot (t : TDt) : TDt := fun σ S R Z => t σ S (fun c S1 => R (!c) S1) Z
def dAnd (t u : TDt) : TDt := fun σ S R Z => t σ S (fun c S1 => if c = true then u σ S1 R Z else R false S1) Z
def dOr (t u : TDt) : TDt := fun σ S R Z => t σ S (fun c S1 => if c = true then R true S1 else u σ S1 R Z) Z
theorem tnot {a : Expr} {t : TDt} {pos : Pos} (ha : DT K X a t) : DT K X (.UnaryOp .Not a pos) (dNot t) :=
  ⟨fun y => (pt_not (ha.of y)).mono fun τ H Q ⟨σ, S, R, Z, hσ, hS, q, hR, hZ⟩ => ⟨σ, S, _, Z, hσ, hS, q, fun c S1 H1 r1 s1 k1 => hR _ S1 H1 r1 s1 k1, hZ⟩⟩
structure DW (K : PySem.W.Frag) (X : Cx) (e : Expr) (t : TDt) : Prop where
  of : ∀ {b : Bool} (y : Ev X b), PW y.cx e (Tt K y.E t)
theorem PW.mono {X : Cx} {e : Expr} {t t' : TT} (h : PW X e t) (i : ∀ τ H Q, t' τ H Q → t τ H Q) : PW X e t' := fun wh pins s τ H Q I q => h wh pins s τ H Q I (i τ H Q q)
theorem twd {e : Expr} {t : TDt} (h : DW K X e t) : DT K X e t := ⟨fun y => (h.of y).pt⟩
theorem tw1 {op} {a : Expr} {t : TDt} {pos : Pos} (h : DT K X a t) : DW K X (.BoolOp op [a] pos) t := ⟨fun y => by
  cases op with
  | And => exact pw_and1 (h.of y)
  | Or => exact pw_or1 (h.of y)⟩
theorem twand {a b : Expr} {rest : List Expr} {t u : TDt} {pos : Pos} (ha : DT K X a t) (hb : DW K X (.BoolOp .And (b :: rest) pos) u) : DW K X (.BoolOp .And (a :: b :: rest) pos) (dAnd t u) :=
  ⟨fun y => (pw_and (ha.of y) (hb.of y)).mono fun τ H Q ⟨σ, S, R, Z, hσ, hS, q, hR, hZ⟩ =>
    ⟨σ, S, _, Z, hσ, hS, q, fun c S1 H1 r1 s1 k1 => by
      cases c with
      | true => rw [if_pos rfl] at r1 ⊢; exact ⟨σ, S1, R, Z, hσ.ts k1, s1, r1, hR.kp k1, hZ.kp k1⟩
      | false => rw [if_neg Bool.false_ne_true] at r1 ⊢; exact hR _ S1 H1 r1 s1 k1, hZ⟩⟩
theorem twor {a b : Expr} {rest : List Expr} {t u : TDt} {pos : Pos} (ha : DT K X a t) (hb : DW K X (.BoolOp .Or (b :: rest) pos) u) : DW K X (.BoolOp .Or (a :: b :: rest) pos) (dOr t u) :=
  ⟨fun y => (pw_or (ha.of y) (hb.of y)).mono fun τ H Q ⟨σ, S, R, Z, hσ, hS, q, hR, hZ⟩ =>
    ⟨σ, S, _, Z, hσ, hS, q, fun c S1 H1 r1 s1 k1 => by
      cases c with
      | false => rw [if_neg Bool.false_ne_true] at r1 ⊢; exact ⟨σ, S1, R, Z, hσ.ts k1, s1, r1, hR.kp k1, hZ.kp k1⟩
      | true => rw [if_pos rfl] at r1 ⊢; exact hR _ S1 H1 r1 s1 k1, hZ⟩⟩
def dIfE (t : TDt) (ta tb : TD) : TD := fun σ S R Z => t σ S (fun c S1 => if c = true then ta σ S1 R Z else tb σ S1 R Z) Z
theorem eif {c a b : Expr} {t : TDt} {ta tb : TD} {pos : Pos} (hc : DT K X c t) (ha : DE K X a ta) (hb : DE K X b tb) : DE K X (.IfExp c a b pos) (dIfE t ta tb) :=
  ⟨fun y => (pe_ifExp (hc.of y) (ha.of y) (hb.of y)).mono fun τ H Q ⟨σ, S, R, Z, hσ, hS, q, hR, hZ⟩ =>
    ⟨σ, S, _, Z, hσ, hS, q, fun c S1 H1 r1 s1 k1 => by
      cases c with
      | true => rw [if_pos rfl] at r1 ⊢; exact ⟨σ, S1, R, Z, hσ.ts k1, s1, r1, hR.kp k1, hZ.kp k1⟩
      | false => rw [if_neg Bool.false_ne_true] at r1 ⊢; exact ⟨σ, S1, R, Z, hσ.ts k1, s1, r1, hR.kp k1, hZ.kp k1⟩, hZ⟩⟩
def dLst (t : TDa) : TD := fun σ S R Z => t σ S (fun ds S1 => ds.length ≤ sizeLine ∧ ∀ p, S1 p = none → R (.ref p) (S1.set p (.lst ds))) Z
def dTup (t : TDa) : TD := fun σ S R Z => t σ S (fun ds S1 => ds.length ≤ sizeLine ∧ R (.tup ds) S1) Z
theorem elst {es : List Expr} {t : TDa} {pos : Pos} (h : DA K X es t) : DE K X (.List es pos) (dLst t) :=
  ⟨fun y => (pe_lst (h.of y)).mono fun τ H Q ⟨σ, S, R, Z, hσ, hS, q, hR, hZ⟩ =>
    ⟨σ, S, _, Z, hσ, hS, q, fun ds S1 xs H1 ⟨hl, r1⟩ v1 s1 k1 => ⟨by rw [v1.len]; exact hl, fun p hp => hR _ _ _ _ (r1 p (s1.fresh hp)) (rv_ref p) (s1.new hp ⟨xs, upd_same, RvAll.ts (.new hp) _ v1⟩) (k1.trans (.new hp))⟩, hZ⟩⟩
theorem etup {es : List Expr} {t : TDa} {x1} {pos : Pos} (h : DA K X es t) : DE K X (.Tuple es x1 pos) (dTup t) :=
  ⟨fun y => (pe_tup (h.of y)).mono fun τ H Q ⟨σ, S, R, Z, hσ, hS, q, hR, hZ⟩ =>
    ⟨σ, S, _, Z, hσ, hS, q, fun ds S1 xs H1 ⟨hl, r1⟩ v1 s1 k1 => ⟨by rw [v1.len]; exact hl, fun p hp => hR _ _ _ _ r1 (rv_tup upd_same (RvAll.ts (.new hp) _ v1)) (s1.grow hp) (k1.trans (.new hp))⟩, hZ⟩⟩
def dDct : TD := fun _ S R _ => ∀ p, S p = none → R (.ref p) (S.set p (.dct []))
theorem edct {pos : Pos} : DE K X (.Dict [] [] pos) dDct :=
  ⟨fun y => (pe_dnewK (X := y.cx)).mono fun τ H Q ⟨σ, S, R, Z, hσ, hS, q, hR, hZ⟩ p hp => hR _ _ _ _ (q p (hS.fresh hp)) (rv_ref p) (hS.new hp ⟨[], upd_same, .nil⟩) (.new hp)⟩
def Lc (K : PySem.W.Frag) (r : List D → Sto → KD → Prop) : List V → Hp → VK → Prop := fun xs H Q => ∃ ds S R, RvAll K H ds xs ∧ Rs K S H ∧ r ds S R ∧ Cn K H R Q
def CallD (K : PySem.W.Frag) (f : Value) (r : List D → Sto → KD → Prop) : Prop := ∀ X : Cx, X.K = K → X.calm = true → CallR X f (Lc K r)
def dCB (r : List D → Sto → KD → Prop) (t : TDa) : TD := fun σ S R Z => t σ S (fun ds S1 => r ds S1 R) Z
theorem T.cb {E : St → XK} {r : List D → Sto → KD → Prop} {t : TDa} {τ : St} {H : Hp} {Q : VK} (h : T K E (dCB r t) τ H Q) : tCB (Lc K r) (Ta K E t) τ H Q := by
  obtain ⟨σ, S, R, Z, hσ, hS, q, hR, hZ⟩ := h
  exact ⟨σ, S, _, Z, hσ, hS, q, fun ds S1 xs H1 r1 v1 s1 k1 => ⟨ds, S1, R, v1, s1, r1, hR.kp k1⟩, hZ⟩
theorem cb {x : Str} {id : String} {r : List D → Sto → KD → Prop} {e : Expr} {es : List Expr} {t : TDa} {p pos : Pos} (hc : CallD K (.builtin id) r) (hm : X.mg x = none) (hv : bootBuiltins x = some (.builtin id)) (ha : DA K X (e :: es) t) (hg : Gl X x := by rfl)
    (hn : x ≠ "__name__" := by decide) (hdb : (x == ("__debug__" : Str)) = false := by decide) (he : starEach (e :: es) X.env = (false, eval e X.env) :: starEach es X.env := by rfl) (hpl : (backTo pos (starEach es X.env)).any (·.1) = false := by rfl) (hK : X.K = K := by rfl) (hC : X.calm = true := by rfl) :
    DE K X (.Call (.Name x p) (e :: es) [] pos) (dCB r t) :=
  ⟨fun y => (pe_callB (X := y.cx) (hc _ hK hC) hg hm hv (ha.of y) hn hdb he hpl).mono fun _ _ _ h => h.cb⟩
theorem ct {x : Str} {id : String} {r : List D → Sto → KD → Prop} {e : Expr} {es : List Expr} {t : TDa} {p pos : Pos} (hc : CallD K (.type id) r) (hm : X.mg x = none) (hv : bootBuiltins x = some (.type id)) (ha : DA K X (e :: es) t) (hg : Gl X x := by rfl)
    (hn : x ≠ "__name__" := by decide) (hdb : (x == ("__debug__" : Str)) = false := by decide) (he : starEach (e :: es) X.env = (false, eval e X.env) :: starEach es X.env := by rfl) (hpl : (backTo pos (starEach es X.env)).any (·.1) = false := by rfl) (hK : X.K = K := by rfl) (hC : X.calm = true := by rfl) :
    DE K X (.Call (.Name x p) (e :: es) [] pos) (dCB r t) :=
  ⟨fun y => (pe_callTy (X := y.cx) (hc _ hK hC) hg hm hv (ha.of y) hn hdb he hpl).mono fun _ _ _ h => h.cb⟩
end
end L2
namespace L2
open PySem PySem.Spec PyProof.Rows
section
variable {K : PySem.W.Frag}
theorem Cn.now {H : Hp} {R : KD} {Q : VK} {S : Sto} {d : D} {v : V} (h : Cn K H R Q) (hS : Rs K S H) (r : R d S) (rv : Rv K H d v) : Q v H := h d S v H r rv hS (.refl _)
theorem Cn.new {H : Hp} {R : KD} {Q : VK} {S : Sto} {p : Addr} {ds : List D} {xs : List V} (h : Cn K H R Q) (hS : Rs K S H) (hp : H p = none) (r : S p = none → R (.ref p) (S.set p (.lst ds))) (rv : RvAll K H ds xs) : Q (.ref p) (upd H p (.lst xs)) :=
  h _ _ _ _ (r (hS.fresh hp)) (rv_ref p) (hS.new hp ⟨xs, upd_same, RvAll.ts (.new hp) _ rv⟩) (.new hp)
theorem Cn.newT {H : Hp} {R : KD} {Q : VK} {S : Sto} {p : Addr} {ds : List D} {xs : List V} (h : Cn K H R Q) (hS : Rs K S H) (hp : H p = none) (r : R (.tup ds) S) (rv : RvAll K H ds xs) : Q (.ref p) (upd H p (.tup xs)) :=
  h _ _ _ _ r (rv_tup upd_same (RvAll.ts (.new hp) _ rv)) (hS.grow hp) (.new hp)
theorem Cn.put {H : Hp} {R : KD} {Q : VK} {S : Sto} {p : Addr} {ds es : List D} {xs : List V} {d : D} {v : V} (h : Cn K H R Q) (hS : Rs K S H) (hp : S p = some (.lst es)) (r : R d (S.set p (.lst ds))) (rd : Rv K H d v) (rv : RvAll K H ds xs) : Q v (upd H p (.lst xs)) :=
  h _ _ _ _ r (Rv.ts (hS.ts_put hp) _ rd) (hS.put hp ⟨xs, upd_same, RvAll.ts (hS.ts_put hp) _ rv⟩) (hS.ts_put hp)
def SqD (S : Sto) : D → List D → Prop
  | .ref a, ds => S a = some (.lst ds)
  | .rol es, ds => es = ds
  | _, _ => False
theorem SqD.at {H : Hp} {S : Sto} {d : D} {ds : List D} {v : V} (h : SqD S d ds) (hS : Rs K S H) (r : Rv K H d v) : ∃ a xs, v = .ref a ∧ SqL K H a xs ∧ RvAll K H ds xs := by
  cases d with
  | ref a =>
    obtain ⟨xs, e, q⟩ := hS.lst h
    exact ⟨a, xs, r.ref, .of e, q⟩
  | rol es =>
    have h : es = ds := h
    subst h
    obtain ⟨a, xs, e, q, t⟩ := r.rol
    exact ⟨a, xs, e, q.sq, t⟩
  | _ => exact h.elim
def addD : RD2 := fun x y S R => match x, y with
  | .int i, .int j => R (.int (i + j)) S
  | .str a, .str b => a.length + b.length ≤ sizeLine ∧ R (.str (a ++ b)) S
  | .tup a, .tup b => a.length + b.length ≤ sizeLine ∧ R (.tup (a ++ b)) S
  | .ref a, .ref b => ∃ xs ys, S a = some (.lst xs) ∧ S b = some (.lst ys) ∧ xs.length + ys.length ≤ sizeLine ∧ ∀ p, S p = none → R (.ref p) (S.set p (.lst (xs ++ ys)))
  | _, _ => False
theorem o_add : OpD K (binaryOp .Add) addD := by
  intro X hK hu pins s σ H x y v u Q I rx ry ⟨d, e, S, R, r1, r2, hS, h, hR⟩
  subst hK
  cases d with
  | int i =>
    cases e with
    | int j => exact op_add pins s σ H x y v u Q I rx ry ⟨i, j, r1.int, r2.int, hR.now hS h (rv_int _)⟩
    | _ => exact h.elim
  | str i =>
    cases e with
    | str j => exact op_add_str pins s σ H x y v u Q I rx ry ⟨i, j, r1.str, r2.str, h.1, hR.now hS h.2 (rv_str _)⟩
    | _ => exact h.elim
  | tup i =>
    cases e with
    | tup j =>
      obtain ⟨a, xs, rfl, q1, t1⟩ := r1.tup
      obtain ⟨b, ys, rfl, q2, t2⟩ := r2.tup
      refine op_catU pins s σ H _ _ v u Q I rx ry ⟨a, b, xs, ys, rfl, rfl, .of q1, .of q2, by rw [t1.len, t2.len]; exact h.1, fun e => ?_, fun _ e => ?_, fun _ _ p hp => hR.newT hS hp h.2 (t1.app t2)⟩
      · subst e
        have : i = [] := List.length_eq_zero_iff.mp t1.len.symm
        subst this
        exact hR.now hS h.2 (rv_tup q2 t2)
      · subst e
        have : j = [] := List.length_eq_zero_iff.mp t2.len.symm
        subst this
        exact hR.now hS h.2 (by rw [List.append_nil]; exact rv_tup q1 t1)
    | _ => exact h.elim
  | ref a =>
    cases e with
    | ref b =>
      obtain ⟨xs, ys, e1, e2, hl, q⟩ := h
      obtain ⟨vs, h1, t1⟩ := hS.lst e1
      obtain ⟨ws, h2, t2⟩ := hS.lst e2
      exact op_cat pins s σ H x y v u Q I rx ry ⟨a, b, vs, ws, r1.ref, r2.ref, h1, h2, by rw [t1.len, t2.len]; exact hl, fun p hp => hR.new hS hp (q p) (t1.app t2)⟩
    | _ => exact h.elim
  | _ => exact h.elim
def subD : RD2 := fun x y S R => match x, y with
  | .int i, .int j => R (.int (i - j)) S
  | _, _ => False
theorem o_sub : OpD K (binaryOp .Sub) subD := by
  intro X hK hu pins s σ H x y v u Q I rx ry ⟨d, e, S, R, r1, r2, hS, h, hR⟩
  cases d <;> cases e <;> first | exact False.elim h | exact op_sub pins s σ H x y v u Q I rx ry ⟨_, _, r1.int, r2.int, hR.now hS h (rv_int _)⟩
def mulD : RD2 := fun x y S R => match x, y with
  | .int i, .int j => CMul i j ∧ R (.int (i * j)) S
  | .str z, .int n => MulOk z n ∧ R (.str (PySem.Txt.mul z n)) S
  | _, _ => False
theorem o_mul : OpD K (binaryOp .Mult) mulD := by
  intro X hK hu pins s σ H x y v u Q I rx ry ⟨d, e, S, R, r1, r2, hS, h, hR⟩
  cases d <;> cases e <;> first
    | exact False.elim h
    | exact op_mul pins s σ H x y v u Q I rx ry ⟨_, _, r1.int, r2.int, h.1, hR.now hS h.2 (rv_int _)⟩
    | exact op_mul_str pins s σ H x y v u Q I rx ry ⟨_, _, r1.str, r2.int, h.1, hR.now hS h.2 (rv_str _)⟩
def modD : RD2 := fun x y S R => match x, y with
  | .int i, .int j => 0 < j ∧ R (.int (i % j)) S
  | _, _ => False
theorem o_mod : OpD K (binaryOp .Mod) modD := by
  intro X hK hu pins s σ H x y v u Q I rx ry ⟨d, e, S, R, r1, r2, hS, h, hR⟩
  cases d <;> cases e <;> first | exact False.elim h | exact op_mod pins s σ H x y v u Q I rx ry ⟨_, _, r1.int, r2.int, h.1, hR.now hS h.2 (rv_int _)⟩
def fdivD : RD2 := fun x y S R => match x, y with
  | .int i, .int j => CDivL i j ∧ R (.int (i / j)) S
  | _, _ => False
theorem o_fdiv : OpD K (binaryOp .FloorDiv) fdivD := by
  intro X hK hu pins s σ H x y v u Q I rx ry ⟨d, e, S, R, r1, r2, hS, h, hR⟩
  cases d <;> cases e <;> first | exact False.elim h | exact op_fdivL pins s σ H x y v u Q I rx ry ⟨_, _, r1.int, r2.int, h.1, hR.now hS h.2 (rv_int _)⟩
def powD : RD2 := fun x y S R => match x, y with
  | .int i, .int j => CPow i j ∧ R (.int (i ^ j.toNat)) S
  | _, _ => False
theorem o_pow : OpD K (binaryOp .Pow) powD := by
  intro X hK hu pins s σ H x y v u Q I rx ry ⟨d, e, S, R, r1, r2, hS, h, hR⟩
  cases d <;> cases e <;> first | exact False.elim h | exact op_pow pins s σ H x y v u Q I rx ry ⟨_, _, r1.int, r2.int, h.1, hR.now hS h.2 (rv_int _)⟩
def ordD (f : Int → Int → Bool) (g : Str → Str → Bool) : RD2 := fun x y S R => match x, y with
  | .int i, .int j => R (.bl (f i j)) S
  | .str i, .str j => R (.bl (g i j)) S
  | _, _ => False
theorem o_ord {op : CmpOp} {f : Int → Int → Bool} {g : Str → Str → Bool} (h1 : ∀ X : Cx, OpR X (compareOp op) (rI0 fun i j => .bl (f i j)))
    (h2 : ∀ X : Cx, OpR X (compareOp op) (fun x y H Q => ∃ i j, x = .str i ∧ y = .str j ∧ Q (.bl (g i j)) H)) : OpD K (compareOp op) (ordD f g) := by
  intro X hK hu pins s σ H x y v u Q I rx ry ⟨d, e, S, R, r1, r2, hS, h, hR⟩
  cases d <;> cases e <;> first
    | exact False.elim h
    | exact h1 X pins s σ H x y v u Q I rx ry ⟨_, _, r1.int, r2.int, hR.now hS h (rv_bl _)⟩
    | exact h2 X pins s σ H x y v u Q I rx ry ⟨_, _, r1.str, r2.str, hR.now hS h (rv_bl _)⟩
theorem o_lt : OpD K (compareOp .Lt) (ordD (fun i j => decide (i < j)) fun i j => sLt i j) := o_ord (fun _ => op_lt) fun _ => op_lt_str
theorem o_le : OpD K (compareOp .LtE) (ordD (fun i j => decide (i ≤ j)) fun i j => sLe i j) := o_ord (fun _ => op_le) fun _ => op_le_str
theorem o_gt : OpD K (compareOp .Gt) (ordD (fun i j => decide (j < i)) fun i j => sLt j i) := o_ord (fun _ => op_gt) fun _ => op_gt_str
theorem o_ge : OpD K (compareOp .GtE) (ordD (fun i j => decide (j ≤ i)) fun i j => sLe j i) := o_ord (fun _ => op_ge) fun _ => op_ge_str
def isNonD : D → Bool
  | .non => true
  | _ => false
theorem isNon_of {H : Hp} {d : D} {v : V} (r : Rv K H d v) : decide (v = .non) = isNonD d := by
  cases d with
  | non => rw [r.non]; rfl
  | bl b => rw [r.bl]; rfl
  | int b => rw [r.int]; rfl
  | str b => rw [r.str]; rfl
  | ref b => rw [r.ref]; rfl
  | ty b => rw [r.ty]; rfl
  | tup b => obtain ⟨a, xs, rfl, _⟩ := r.tup; rfl
  | rol b => obtain ⟨a, xs, rfl, _⟩ := r.rol; rfl
  | kt b => obtain ⟨a, xs, rfl, _⟩ := r.kt; rfl
def isD : RD2 := fun x y S R => match y with
  | .non => R (.bl (isNonD x)) S
  | _ => False
def isntD : RD2 := fun x y S R => match y with
  | .non => R (.bl (!isNonD x)) S
  | _ => False
theorem o_is : OpD K (compareOp .Is) isD := by
  intro X hK hu pins s σ H x y v u Q I rx ry ⟨d, e, S, R, r1, r2, hS, h, hR⟩
  cases e <;> first | exact False.elim h | exact op_isN pins s σ H x y v u Q I rx ry ⟨r2.non, by rw [isNon_of r1]; exact hR.now hS h (rv_bl _)⟩
theorem o_isnt : OpD K (compareOp .IsNot) isntD := by
  intro X hK hu pins s σ H x y v u Q I rx ry ⟨d, e, S, R, r1, r2, hS, h, hR⟩
  cases e <;> first | exact False.elim h | exact op_notN pins s σ H x y v u Q I rx ry ⟨r2.non, by rw [isNon_of r1]; exact hR.now hS h (rv_bl _)⟩
mutual
def Dp (S : Sto) : D → PyData → Prop
  | .non, p => p = .none
  | .bl b, p => p = .bool b
  | .int i, p => p = .int i
  | .str z, p => p = .str z
  | .tup ds, p => ∃ ps, p = .tuple ps ∧ DpAll S ds ps
  | .rol ds, p => ∃ ps, p = .list ps ∧ DpAll S ds ps
  | .kt _, _ => False
  | .ref _, _ => False
  | .ty _, _ => False
def DpAll (S : Sto) : List D → List PyData → Prop
  | [], ps => ps = []
  | d :: ds, ps => ∃ q qs, ps = q :: qs ∧ Dp S d q ∧ DpAll S ds qs
end
mutual
theorem Dp.dt {H : Hp} {S : Sto} : ∀ (d : D) {p : PyData} {v : V}, Dp S d p → Rv K H d v → Dt K H p v
  | .non, p, v, h, r => by simp only [Dp] at h; subst h; simp only [Dt]; exact r.non
  | .bl b, p, v, h, r => by simp only [Dp] at h; subst h; simp only [Dt]; exact r.bl
  | .int b, p, v, h, r => by simp only [Dp] at h; subst h; simp only [Dt]; exact r.int
  | .str b, p, v, h, r => by simp only [Dp] at h; subst h; simp only [Dt]; exact r.str
  | .tup ds, p, v, h, r => by
    simp only [Dp] at h
    obtain ⟨ps, rfl, h⟩ := h
    obtain ⟨a, xs, rfl, q, t⟩ := r.tup
    simp only [Dt]
    exact ⟨a, xs, rfl, .of q, DpAll.dt ds h t⟩
  | .rol ds, p, v, h, r => by
    simp only [Dp] at h
    obtain ⟨ps, rfl, h⟩ := h
    obtain ⟨a, xs, rfl, q, t⟩ := r.rol
    simp only [Dt]
    exact ⟨a, xs, rfl, q.sq, DpAll.dt ds h t⟩
  | .kt a, p, v, h, r => by simp only [Dp] at h
  | .ref a, p, v, h, r => by simp only [Dp] at h
  | .ty a, p, v, h, r => by simp only [Dp] at h
theorem DpAll.dt {H : Hp} {S : Sto} : ∀ (ds : List D) {ps : List PyData} {vs : List V}, DpAll S ds ps → RvAll K H ds vs → DtAll K H ps vs
  | [], ps, vs, h, r => by simp only [DpAll] at h; subst h; rw [r.nil]; simp only [DtAll]
  | d :: ds, ps, vs, h, r => by
    simp only [DpAll] at h
    obtain ⟨q, qs, rfl, h1, h2⟩ := h
    obtain ⟨y, ys, rfl, r1, r2⟩ := r.cons
    simp only [DtAll]
    exact ⟨y, ys, rfl, Dp.dt d h1 r1, DpAll.dt ds h2 r2⟩
end
def Dl (S : Sto) : D → PyData → Prop
  | .ref a, p => ∃ ds ps, S a = some (.lst ds) ∧ p = .list ps ∧ DpAll S ds ps
  | d, p => Dp S d p
theorem Dl.dt {H : Hp} {S : Sto} {d : D} {p : PyData} {v : V} (h : Dl S d p) (hS : Rs K S H) (r : Rv K H d v) : Dt K H p v := by
  cases d with
  | ref a =>
    obtain ⟨ds, ps, e, rfl, h⟩ := h
    obtain ⟨xs, e1, t⟩ := hS.lst e
    rw [r.ref]
    simp only [Dt]
    exact ⟨a, xs, rfl, .of e1, DpAll.dt ds h t⟩
  | _ => exact Dp.dt _ h r
def eqD (neg : Bool) : RD2 := fun x y S R => match x, y with
  | .int i, .int j => R (.bl (if neg then !decide (i = j) else decide (i = j))) S
  | .str i, .str j => R (.bl (if neg then !decide (i = j) else decide (i = j))) S
  | x, y => ∃ p q, Dl S x p ∧ Dl S y q ∧ p.canLay0 = true ∧ q.canLay0 = true ∧ (p.depth ≤ 64 ∨ q.depth ≤ 64) ∧ R (.bl (if neg then !PyData.eqv p q else PyData.eqv p q)) S
theorem eqD_go {S : Sto} {R : KD} {neg : Bool} {x y : D} (h : eqD neg x y S R) : (∃ i j, x = .int i ∧ y = .int j ∧ R (.bl (if neg then !decide (i = j) else decide (i = j))) S) ∨ (∃ i j, x = .str i ∧ y = .str j ∧ R (.bl (if neg then !decide (i = j) else decide (i = j))) S) ∨
    ∃ p q, Dl S x p ∧ Dl S y q ∧ p.canLay0 = true ∧ q.canLay0 = true ∧ (p.depth ≤ 64 ∨ q.depth ≤ 64) ∧ R (.bl (if neg then !PyData.eqv p q else PyData.eqv p q)) S := by
  cases x <;> cases y <;> first | exact .inl ⟨_, _, rfl, rfl, h⟩ | exact .inr (.inl ⟨_, _, rfl, rfl, h⟩) | exact .inr (.inr h)
theorem o_eq : OpD K (compareOp .Eq) (eqD false) := by
  intro X hK hu pins s σ H x y v u Q I rx ry ⟨d, e, S, R, r1, r2, hS, h, hR⟩
  subst hK
  rcases eqD_go h with ⟨i, j, rfl, rfl, h⟩ | ⟨i, j, rfl, rfl, h⟩ | ⟨p, q, h1, h2, c1, c2, dp, h⟩
  · cases r1.int; cases r2.int
    refine op_eq pins s σ H _ _ v u Q I rx ry ⟨rfl, ?_⟩
    have e : decide (V.int i = V.int j) = decide (i = j) := by simp
    rw [e]; exact hR.now hS h (rv_bl _)
  · cases r1.str; cases r2.str
    refine op_eq pins s σ H _ _ v u Q I rx ry ⟨rfl, ?_⟩
    have e : decide (V.str i = V.str j) = decide (i = j) := by simp
    rw [e]; exact hR.now hS h (rv_bl _)
  · exact op_eqD hu pins s σ H x y v u Q I rx ry ⟨p, q, h1.dt hS r1, h2.dt hS r2, c1, c2, dp, hR.now hS h (rv_bl _)⟩
theorem o_ne : OpD K (compareOp .NotEq) (eqD true) := by
  intro X hK hu pins s σ H x y v u Q I rx ry ⟨d, e, S, R, r1, r2, hS, h, hR⟩
  subst hK
  rcases eqD_go h with ⟨i, j, rfl, rfl, h⟩ | ⟨i, j, rfl, rfl, h⟩ | ⟨p, q, h1, h2, c1, c2, dp, h⟩
  · cases r1.int; cases r2.int
    refine op_ne pins s σ H _ _ v u Q I rx ry ⟨rfl, ?_⟩
    have e : decide (V.int i = V.int j) = decide (i = j) := by simp
    rw [e]; exact hR.now hS h (rv_bl _)
  · cases r1.str; cases r2.str
    refine op_ne pins s σ H _ _ v u Q I rx ry ⟨rfl, ?_⟩
    have e : decide (V.str i = V.str j) = decide (i = j) := by simp
    rw [e]; exact hR.now hS h (rv_bl _)
  · exact op_neD hu pins s σ H x y v u Q I rx ry ⟨p, q, h1.dt hS r1, h2.dt hS r2, c1, c2, dp, hR.now hS h (rv_bl _)⟩
def dval (kvs : List (Key × D)) (k : Key) : Option D := (kvs.find? fun kv => decide (kv.1 = k)).map (·.2)
def dput (kvs : List (Key × D)) (k : Key) (v : D) : List (Key × D) := if (kvs.any fun kv => decide (kv.1 = k)) = true then kvs.map (fun kv => if kv.1 = k then (kv.1, v) else kv) else kvs ++ [(k, v)]
def ddrop (kvs : List (Key × D)) (k : Key) : List (Key × D) := kvs.filter fun kv => decide (kv.1 ≠ k)
theorem RvKs.val {H : Hp} {ks : List (Key × D)} {vs : List (Key × V)} (h : RvKs K H ks vs) (k : Key) : (∀ d, dval ks k = some d → ∃ v, valV vs k = some v ∧ Rv K H d v) ∧ (dval ks k = none → valV vs k = none) := by
  induction h with
  | nil => exact ⟨fun d e => (by cases e), fun _ => rfl⟩
  | @cons a b l m r t ih =>
    obtain ⟨k', d⟩ := a
    obtain ⟨k'', v⟩ := b
    obtain ⟨e0, r⟩ := r
    dsimp only at e0
    subst e0
    unfold dval valV
    simp only [List.find?_cons]
    by_cases q : k' = k
    · rw [decide_eq_true q]; exact ⟨fun d' e => ⟨v, rfl, (by cases e; exact r)⟩, fun e => (by cases e)⟩
    · rw [decide_eq_false q]; exact ih
theorem RvKs.any {H : Hp} {ks : List (Key × D)} {vs : List (Key × V)} (h : RvKs K H ks vs) (k : Key) : (ks.any fun kv => decide (kv.1 = k)) = (vs.any fun kv => decide (kv.1 = k)) := by
  induction h with
  | nil => rfl
  | cons r t ih => rw [List.any_cons, List.any_cons, ih, r.1]
theorem RvKs.len {κ : Type} {H : Hp} {ks : List (κ × D)} {vs : List (κ × V)} (h : RvKs K H ks vs) : vs.length = ks.length := (Paired.length h).symm
theorem RvKs.app {κ : Type} {H : Hp} : ∀ {ks ls : List (κ × D)} {vs ws : List (κ × V)}, RvKs K H ks vs → RvKs K H ls ws → RvKs K H (ks ++ ls) (vs ++ ws)
  | _, _, _, _, .nil, h => h
  | _, _, _, _, .cons r t, h => .cons r (RvKs.app t h)
theorem RvKs.repl {H : Hp} {ks : List (Key × D)} {vs : List (Key × V)} (h : RvKs K H ks vs) (k : Key) {d : D} {v : V} (rd : Rv K H d v) : RvKs K H (ks.map fun kv => if kv.1 = k then (kv.1, d) else kv) (vs.map fun kv => if kv.1 = k then (kv.1, v) else kv) := by
  induction h with
  | nil => exact .nil
  | @cons a b l m r t ih =>
    refine .cons ?_ ih
    dsimp only
    by_cases q : b.1 = k
    · rw [if_pos q, if_pos (r.1.trans q)]; exact ⟨r.1, rd⟩
    · rw [if_neg q, if_neg fun z => q (r.1.symm.trans z)]; exact r
theorem RvKs.put {H : Hp} {ks : List (Key × D)} {vs : List (Key × V)} (h : RvKs K H ks vs) (k : Key) {d : D} {v : V} (rd : Rv K H d v) : RvKs K H (dput ks k d) (putK vs k v) := by
  unfold dput putK
  rw [h.any k]
  split
  · exact h.repl k rd
  · exact h.app (.cons ⟨rfl, rd⟩ .nil)
theorem RvKs.drop {H : Hp} {ks : List (Key × D)} {vs : List (Key × V)} (h : RvKs K H ks vs) (k : Key) : RvKs K H (ddrop ks k) (dropK vs k) := by
  unfold ddrop dropK
  induction h with
  | nil => exact .nil
  | @cons a b l m r t ih =>
    rw [List.filter_cons, List.filter_cons, r.1]
    by_cases q : b.1 = k
    · rw [if_neg (by simp [q]), if_neg (by simp [q])]; exact ih
    · rw [if_pos (by simp [q]), if_pos (by simp [q])]; exact .cons r ih
def keyD : D → Option Key
  | .int i => some (.inl i)
  | .str z => some (.inr z)
  | _ => none
theorem keyD_v {H : Hp} {d : D} {k : Key} {v : V} (h : keyD d = some k) (r : Rv K H d v) : v = kV k := by
  cases d with
  | int i => cases h; exact r.int
  | str i => cases h; exact r.str
  | _ => cases h
def flatD : D → Bool
  | .non => true | .bl _ => true | .int _ => true | .str _ => true
  | _ => false
def vOf : D → V
  | .non => .non | .bl b => .bl b | .int i => .int i | .str z => .str z | .ref a => .ref a | .ty n => .ty n
  | _ => .non
theorem flat_v {H : Hp} {d : D} {v : V} (h : flatD d = true) (r : Rv K H d v) : v = vOf d ∧ flatV v = true := by
  cases d with
  | non => cases r.non; exact ⟨rfl, rfl⟩
  | bl b => cases r.bl; exact ⟨rfl, rfl⟩
  | int b => cases r.int; exact ⟨rfl, rfl⟩
  | str b => cases r.str; exact ⟨rfl, rfl⟩
  | _ => cases h
theorem flat_vs {H : Hp} : ∀ {ds : List D} {vs : List V}, ds.all flatD = true → RvAll K H ds vs → vs = ds.map vOf ∧ vs.all flatV = true
  | [], vs, _, r => by rw [r.nil]; exact ⟨rfl, rfl⟩
  | d :: ds, vs, h, r => by
    obtain ⟨y, ys, rfl, r1, r2⟩ := r.cons
    rw [List.all_cons, Bool.and_eq_true] at h
    obtain ⟨e1, f1⟩ := flat_v h.1 r1
    obtain ⟨e2, f2⟩ := flat_vs h.2 r2
    refine ⟨by rw [e1, e2]; rfl, ?_⟩
    rw [List.all_cons, f1, f2]; rfl
def inD (neg : Bool) : RD2 := fun x y S R => match y with
  | .str j => ∃ i, x = .str i ∧ R (.bl (if neg then !(!(Builtin.Str.occurrences j i 0 j.length 1).isEmpty) else !(Builtin.Str.occurrences j i 0 j.length 1).isEmpty)) S
  | .kt ds => flatD x = true ∧ ds.all flatD = true ∧ R (.bl (if neg then !inV (vOf x) (ds.map vOf) else inV (vOf x) (ds.map vOf))) S
  | .tup ds => flatD x = true ∧ ds.all flatD = true ∧ R (.bl (if neg then !inV (vOf x) (ds.map vOf) else inV (vOf x) (ds.map vOf))) S
  | .ref a => (∃ ds, S a = some (.lst ds) ∧ flatD x = true ∧ ds.all flatD = true ∧ R (.bl (if neg then !inV (vOf x) (ds.map vOf) else inV (vOf x) (ds.map vOf))) S) ∨
      ∃ kvs k, S a = some (.dct kvs) ∧ keyD x = some k ∧ R (.bl (if neg then !(dval kvs k).isSome else (dval kvs k).isSome)) S
  | _ => False
theorem dget_of {H : Hp} {S : Sto} {a : Addr} {kvs : List (Key × D)} {k : Key} (hS : Rs K S H) (e : S a = some (.dct kvs)) : ∃ o, DGet H a (kV k) o ∧ o.isSome = (dval kvs k).isSome ∧ ∀ d, dval kvs k = some d → ∃ v, o = some v ∧ Rv K H d v := by
  obtain ⟨vs, e1, t⟩ := hS.dct e
  refine ⟨_, DGet.k e1, ?_, fun d h => (t.val k).1 d h⟩
  cases q : dval kvs k with
  | none => rw [(t.val k).2 q]; rfl
  | some d => obtain ⟨v, e2, _⟩ := (t.val k).1 d q; rw [e2]; rfl
theorem o_in : OpD K (compareOp .In) (inD false) := by
  intro X hK hu pins s σ H x y v u Q I rx ry ⟨d, e, S, R, r1, r2, hS, h, hR⟩
  subst hK
  cases e with
  | str j =>
    obtain ⟨i, rfl, h⟩ := h
    exact op_in_str pins s σ H x y v u Q I rx ry ⟨i, j, r1.str, r2.str, hR.now hS h (rv_bl _)⟩
  | tup ds =>
    obtain ⟨f1, f2, h⟩ := h
    obtain ⟨a, xs, rfl, q, t⟩ := r2.tup
    obtain ⟨e1, g1⟩ := flat_v f1 r1
    obtain ⟨e2, g2⟩ := flat_vs f2 t
    subst e1 e2
    exact op_in_seq pins s σ H _ _ v u Q I rx ry ⟨a, _, rfl, .inr (.of q), g1, g2, hR.now hS h (rv_bl _)⟩
  | kt ds =>
    obtain ⟨f1, f2, h⟩ := h
    obtain ⟨a, xs, rfl, q, t⟩ := r2.kt
    obtain ⟨e1, g1⟩ := flat_v f1 r1
    obtain ⟨e2, g2⟩ := flat_vs f2 t
    subst e1 e2
    exact op_in_seq pins s σ H _ _ v u Q I rx ry ⟨a, _, rfl, .inr (.inr q), g1, g2, hR.now hS h (rv_bl _)⟩
  | ref a =>
    cases r2.ref
    rcases h with ⟨ds, e, f1, f2, h⟩ | ⟨kvs, k, e, hk, h⟩
    · obtain ⟨xs, e1, t⟩ := hS.lst e
      obtain ⟨e2, g1⟩ := flat_v f1 r1
      obtain ⟨e3, g2⟩ := flat_vs f2 t
      subst e2 e3
      exact op_in_seq pins s σ H _ _ v u Q I rx ry ⟨a, _, rfl, .inl (.of e1), g1, g2, hR.now hS h (rv_bl _)⟩
    · cases keyD_v hk r1
      cases ry
      obtain ⟨o, g, e1, _⟩ := dget_of (k := k) hS e
      refine d_in (by omega) I g rx fun s' I' => ⟨.bl o.isSome, H, I', rfl, ?_⟩
      rw [e1]; exact hR.now hS h (rv_bl _)
  | _ => exact h.elim
def IxD (K : PySem.W.Frag) (r : RD2) : Prop := ∀ X : Cx, X.K = K → X.A.units + 64 < cLine → IxR X (Lr K r)
def ixD : RD2 := fun x y S R => match x, y with
  | .tup ds, .int i => ∃ d, atI ds i = some d ∧ R d S
  | .kt ds, .int i => ∃ d, atI ds i = some d ∧ R d S
  | .rol ds, .int i => ∃ d, atI ds i = some d ∧ R d S
  | .str z, .int i => ∃ c, z.length ≤ sizeLine ∧ atI z.cps.toList i = some c ∧ R (.str ⟨#[c]⟩) S
  | .ref a, .int i => ∃ ds d, S a = some (.lst ds) ∧ atI ds i = some d ∧ R d S
  | .ref a, .str z => ∃ kvs d, S a = some (.dct kvs) ∧ dval kvs (.inr z) = some d ∧ R d S
  | _, _ => False
theorem RvAll.at {H : Hp} {ds : List D} {xs : List V} {i : Int} {d : D} (h : RvAll K H ds xs) (e : atI ds i = some d) : ∃ v, atI xs i = some v ∧ Rv K H d v := by
  unfold atI at e ⊢
  rw [h.len]
  cases q : ixN ds.length i with
  | none => rw [q] at e; cases e
  | some j =>
    rw [q] at e
    exact h.get e
theorem o_ix : IxD K ixD := by
  intro X hK hu value slice pins s σ H x y v u Q I rx ry ⟨d, e, S, R, r1, r2, hS, h, hR⟩ hs
  subst hK
  cases d with
  | tup ds =>
    cases e with
    | int i =>
      obtain ⟨d, e, h⟩ := h
      obtain ⟨a, xs, rfl, q, t⟩ := r1.tup
      obtain ⟨z, e1, r⟩ := t.at e
      exact ix_tup value slice pins s σ H _ _ v u Q I rx ry ⟨a, xs, i, z, rfl, r2.int, .of q, e1, hR.now hS h r⟩ hs
    | _ => exact h.elim
  | kt ds =>
    cases e with
    | int i =>
      obtain ⟨d, e, h⟩ := h
      obtain ⟨a, xs, rfl, q, t⟩ := r1.kt
      obtain ⟨z, e1, r⟩ := t.at e
      exact ix_tup value slice pins s σ H _ _ v u Q I rx ry ⟨a, xs, i, z, rfl, r2.int, .inr q, e1, hR.now hS h r⟩ hs
    | _ => exact h.elim
  | rol ds =>
    cases e with
    | int i =>
      obtain ⟨d, e, h⟩ := h
      obtain ⟨a, xs, rfl, q, t⟩ := r1.rol
      obtain ⟨z, e1, r⟩ := t.at e
      exact ix_list value slice pins s σ H _ _ v u Q I rx ry ⟨a, xs, i, z, rfl, r2.int, q.sq, e1, hR.now hS h r⟩ hs
    | _ => exact h.elim
  | str w =>
    cases e with
    | int i =>
      obtain ⟨c, e0, e, h⟩ := h
      exact ix_str value slice pins s σ H _ _ v u Q I rx ry ⟨w, i, c, r1.str, r2.int, e0, e, hR.now hS h (rv_str _)⟩ hs
    | _ => exact h.elim
  | ref a =>
    cases e with
    | int i =>
      obtain ⟨ds, d, e, e1, h⟩ := h
      obtain ⟨xs, e2, t⟩ := hS.lst e
      obtain ⟨z, e3, r⟩ := t.at e1
      exact ix_list value slice pins s σ H _ _ v u Q I rx ry ⟨a, xs, i, z, r1.ref, r2.int, .of e2, e3, hR.now hS h r⟩ hs
    | str w =>
      obtain ⟨kvs, d, e, e1, h⟩ := h
      cases r1.ref
      cases r2.str
      cases rx
      obtain ⟨o, g, _, e2⟩ := dget_of (k := .inr w) hS e
      obtain ⟨z, rfl, r⟩ := e2 d e1
      exact tail_any (dict_typeIs I g) PySem.F.slot_dict_getitem.lookup (d_getItem (by omega) I g ry fun w' s' I' rw' => ⟨z, H, I', rw', hR.now hS h r⟩) hs
    | _ => exact h.elim
  | _ => exact h.elim
theorem ix {X : Cx} {a b : Expr} {ta tb : TD} {pos : Pos} (hu : X.A.units + 64 < cLine) (ha : DE K X a ta) (hb : DE K X b tb) (hs : PlainIx b := by exact fun _ _ => rfl) (hK : X.K = K := by rfl) : DE K X (.Subscript a b pos) (dOp ixD ta tb) :=
  ⟨fun y => (pe_ix (o_ix y.cx hK hu) (ha.of y) (hb.of y) hs).mono fun _ _ _ h => h.op⟩
end
end L2
namespace L2
open PySem PySem.Spec PyProof.Rows
section
variable {K : PySem.W.Frag} {X : Cx}
abbrev TDo := SD → Sto → (Option Int → Sto → Prop) → KX → Prop
def To (K : PySem.W.Frag) (E : St → XK) (t : TDo) : TO := fun τ H Q => ∃ σ S R Z, Rst K H σ τ ∧ Rs K S H ∧ t σ S R Z ∧ (∀ o S' H', R o S' → Rs K S' H' → Kp K H H' → Q o H') ∧ CnX K H Z (E τ)
structure DO (K : PySem.W.Frag) (X : Cx) (e : Option Expr) (t : TDo) : Prop where
  of : ∀ {b : Bool} (y : Ev X b), PO y.cx e (To K y.E t)
theorem PO.mono {e : Option Expr} {t t' : TO} (h : PO X e t) (i : ∀ τ H Q, t' τ H Q → t τ H Q) : PO X e t' := fun pins s τ H Q I q => h pins s τ H Q I (i τ H Q q)
def oSome (t : TD) : TDo := fun σ S R Z => t σ S (fun d S1 => ∃ i, d = .int i ∧ R (some i) S1) Z
theorem o1 {e : Expr} {t : TD} (h : DE K X e t) : DO K X (some e) (oSome t) :=
  ⟨fun y => (po_some (h.of y)).mono fun τ H Q ⟨σ, S, R, Z, hσ, hS, q, hR, hZ⟩ => ⟨σ, S, _, Z, hσ, hS, q, fun d S1 x H1 ⟨i, e, r1⟩ v1 s1 k1 => by subst e; exact ⟨i, v1.int, hR _ S1 H1 r1 s1 k1⟩, hZ⟩⟩
def cutL {α : Type} (xs : List α) (lo hi : Option Int) : List α := (xs.drop (HT.sIx xs.length 0 lo)).take (HT.sIx xs.length xs.length hi - HT.sIx xs.length 0 lo)
theorem RvAll.cut {H : Hp} {ds : List D} {xs : List V} (h : RvAll K H ds xs) (lo hi : Option Int) : RvAll K H (cutL ds lo hi) (cutV xs lo hi) := by
  unfold cutL cutV
  rw [h.len]
  exact (h.drop _).take _
def slD : D → Option Int → Option Int → Sto → KD → Prop := fun x lo hi S R => match x with
  | .str z => z.length ≤ sizeLine ∧ R (.str (PySem.Txt.slice z lo hi)) S
  | .tup ds => ¬ (HT.sIx ds.length 0 lo = 0 ∧ HT.sIx ds.length ds.length hi = ds.length) ∧ R (.tup (cutL ds lo hi)) S
  | .ref a => ∃ ds, S a = some (.lst ds) ∧ ∀ p, S p = none → R (.ref p) (S.set p (.lst (cutL ds lo hi)))
  | .rol ds => ∀ p, S p = none → R (.ref p) (S.set p (.lst (cutL ds lo hi)))
  | _ => False
def Lsl (K : PySem.W.Frag) : V → Option Int → Option Int → Hp → VK → Prop := fun x lo hi H Q => ∃ d S R, Rv K H d x ∧ Rs K S H ∧ slD d lo hi S R ∧ Cn K H R Q
theorem o_sl (hK : X.K = K) : SlR X (Lsl K) := by
  intro pins s σ H x v vl vu lo hi sl Q I rx hs pl pu ⟨d, S, R, r1, hS, h, hR⟩
  subst hK
  cases d with
  | str z => exact sl_str pins s σ H x v vl vu lo hi sl Q I rx hs pl pu ⟨z, r1.str, h.1, hR.now hS h.2 (rv_str _)⟩
  | tup ds =>
    obtain ⟨a, xs, rfl, q, t⟩ := r1.tup
    exact sl_tup pins s σ H _ v vl vu lo hi sl Q I rx hs pl pu ⟨a, xs, rfl, .of q, by rw [t.len]; exact h.1, fun p hp => hR.newT hS hp h.2 (t.cut lo hi)⟩
  | ref a =>
    obtain ⟨ds, e, h⟩ := h
    obtain ⟨xs, e1, t⟩ := hS.lst e
    exact sl_list pins s σ H _ v vl vu lo hi sl Q I rx hs pl pu ⟨a, xs, r1.ref, .of e1, fun p hp => hR.new hS hp (h p) (t.cut lo hi)⟩
  | rol ds =>
    obtain ⟨a, xs, rfl, q, t⟩ := r1.rol
    exact sl_list pins s σ H _ v vl vu lo hi sl Q I rx hs pl pu ⟨a, xs, rfl, q.sq, fun p hp => hR.new hS hp (h p) (t.cut lo hi)⟩
  | _ => exact h.elim
def dSl (te : TD) (tl th : TDo) : TD := fun σ S R Z => te σ S (fun x S1 => tl σ S1 (fun l S2 => th σ S2 (fun u S3 => slD x l u S3 R) Z) Z) Z
theorem sl {e : Expr} {lo hi : Option Expr} {te : TD} {tl th : TDo} {p2 pos : Pos} (he : DE K X e te) (hl : DO K X lo tl) (hu : DO K X hi th) (hK : X.K = K := by rfl) : DE K X (.Subscript e (.Slice lo hi none p2) pos) (dSl te tl th) :=
  ⟨fun y => (pe_slice (X := y.cx) (o_sl hK) (he.of y) (hl.of y) (hu.of y)).mono fun τ H Q ⟨σ, S, R, Z, hσ, hS, q, hR, hZ⟩ =>
    ⟨σ, S, _, Z, hσ, hS, q, fun d S1 x H1 r1 v1 s1 k1 => ⟨σ, S1, _, Z, hσ.ts k1, s1, r1, fun l S2 H2 r2 s2 k2 => ⟨σ, S2, _, Z, hσ.ts (k1.trans k2), s2, r2, fun u S3 H3 r3 s3 k3 => ⟨d, S3, R, Rv.ts (k2.trans k3) _ v1, s3, r3, hR.kp ((k1.trans k2).trans k3)⟩, hZ.kp (k1.trans k2)⟩, hZ.kp k1⟩, hZ⟩⟩
def dNeg (te : TD) : TD := fun σ S R Z => te σ S (fun x S1 => ∃ i, x = .int i ∧ R (.int (-i)) S1) Z
theorem eneg {e : Expr} {te : TD} {pos : Pos} (he : DE K X e te) : DE K X (.UnaryOp .USub e pos) (dNeg te) :=
  ⟨fun y => (pe_un un_neg (he.of y)).mono fun τ H Q ⟨σ, S, R, Z, hσ, hS, q, hR, hZ⟩ => ⟨σ, S, _, Z, hσ, hS, q, fun d S1 x H1 ⟨i, e, r1⟩ v1 s1 k1 => by subst e; exact ⟨i, v1.int, hR _ S1 _ H1 r1 (rv_int _) s1 k1⟩, hZ⟩⟩
def tyD (T : String) (S : Sto) : D → Prop
  | .str _ => T = "str"
  | .ref a => T = "list" ∧ ∃ ds, S a = some (.lst ds)
  | .rol _ => T = "list"
  | _ => False
theorem tyD_v {H : Hp} {S : Sto} {T : String} {d : D} {v : V} (h : tyD T S d) (hS : Rs K S H) (r : Rv K H d v) : tyV K T v H := by
  cases d with
  | str z => rw [r.str]; exact h
  | ref a => obtain ⟨e, ds, h⟩ := h; obtain ⟨xs, e1, _⟩ := hS.lst h; rw [r.ref]; exact .inl ⟨e, xs, .of e1⟩
  | rol ds => obtain ⟨a, xs, rfl, q, _⟩ := r.rol; exact .inl ⟨h, xs, q.sq⟩
  | _ => exact h.elim
abbrev RDm := D → List D → Sto → KD → Prop
def Lm (K : PySem.W.Frag) (r : RDm) : V → List V → Hp → VK → Prop := fun x xs H Q => ∃ d ds S R, Rv K H d x ∧ RvAll K H ds xs ∧ Rs K S H ∧ r d ds S R ∧ Cn K H R Q
def MtD (K : PySem.W.Frag) (id : String) (r : RDm) : Prop := ∀ X : Cx, X.K = K → MtR X id (Lm K r)
def dBM (T : String) (r : RDm) (to : TD) (t : TDa) : TD := fun σ S R Z => to σ S (fun x S1 => tyD T S1 x ∧ t σ S1 (fun ds S2 => r x ds S2 R) Z) Z
def dBM0 (T : String) (r : RDm) (to : TD) : TD := fun σ S R Z => to σ S (fun x S1 => tyD T S1 x ∧ r x [] S1 R) Z
theorem bm {o e : Expr} {es : List Expr} {T id : String} {name : Str} {r : RDm} {to : TD} {t : TDa} {apos cpos : Pos} (pa : PlainAttrs T) (slot : Slot T name id) (hty : typeOf (.builtin id) = pure (.type "method_descriptor")) (hm : MtD K id r) (ho : DE K X o to) (ha : DA K X (e :: es) t)
    (hbase : attributeBase o name X.env (eval o X.env) = eval o X.env := by rfl)
    (hfew : ((backTo cpos (starEach (e :: es) X.env)).all (fun x => !x.1) && (backToKw cpos (keywordEach [] X.env)).all (fun x => x.1.isSome)
      && decide ((e :: es).length + ([] : List Keyword).length + (if ([] : List Keyword).isEmpty then 0 else 1) < 30)) = true := by rfl)
    (hline : (apos.endLine == cpos.line) = true := by rfl) (hs : starEach (e :: es) X.env = (false, eval e X.env) :: starEach es X.env := by rfl) (hplain : (backTo cpos (starEach es X.env)).any (·.1) = false := by rfl) (hK : X.K = K := by rfl) :
    DE K X (.Call (.Attribute o name apos) (e :: es) [] cpos) (dBM T r to t) := by
  subst hK
  exact ⟨fun y => (pe_bm (X := y.cx) pa slot hty (hm _ rfl) (ho.of y) (ha.of y) hbase hfew hline hs hplain).mono fun τ H Q ⟨σ, S, R, Z, hσ, hS, q, hR, hZ⟩ =>
    ⟨σ, S, _, Z, hσ, hS, q, fun d S1 x H1 ⟨h1, r1⟩ v1 s1 k1 => ⟨tyD_v h1 s1 v1, σ, S1, _, Z, hσ.ts k1, s1, r1, fun ds S2 xs H2 r2 v2 s2 k2 => ⟨d, ds, S2, R, Rv.ts k2 _ v1, v2, s2, r2, hR.kp (k1.trans k2)⟩, hZ.kp k1⟩, hZ⟩⟩
theorem bm0 {o : Expr} {T id : String} {name : Str} {r : RDm} {to : TD} {apos cpos : Pos} (pa : PlainAttrs T) (slot : Slot T name id) (hty : typeOf (.builtin id) = pure (.type "method_descriptor")) (hm : MtD K id r) (ho : DE K X o to)
    (hbase : attributeBase o name X.env (eval o X.env) = eval o X.env := by rfl) (hline : (apos.endLine == cpos.line) = true := by rfl) (hK : X.K = K := by rfl) :
    DE K X (.Call (.Attribute o name apos) [] [] cpos) (dBM0 T r to) := by
  subst hK
  exact ⟨fun y => (pe_bm0 (X := y.cx) pa slot hty (hm _ rfl) (ho.of y) hbase hline).mono fun τ H Q ⟨σ, S, R, Z, hσ, hS, q, hR, hZ⟩ =>
    ⟨σ, S, _, Z, hσ, hS, q, fun d S1 x H1 ⟨h1, r1⟩ v1 s1 k1 => ⟨tyD_v h1 s1 v1, d, [], S1, R, v1, ra_nil, s1, r1, hR.kp k1⟩, hZ⟩⟩
theorem RvAll.one {H : Hp} {d : D} {xs : List V} (h : RvAll K H [d] xs) : ∃ v, xs = [v] ∧ Rv K H d v := by
  obtain ⟨y, ys, rfl, h1, h2⟩ := h.cons
  rw [h2.nil]; exact ⟨y, rfl, h1⟩
def appendD : RDm := fun x ds S R => ∃ a es d, x = .ref a ∧ ds = [d] ∧ S a = some (.lst es) ∧ es.length < sizeLine ∧ R .non (S.set a (.lst (es ++ [d])))
theorem m_append : MtD K "list.append" appendD := by
  intro X hK pins s σ H x xs v us Q I rx rs ⟨d, ds, S, R, r1, r2, hS, ⟨a, es, y, e1, e2, e3, hl, h⟩, hR⟩
  subst e1 e2
  obtain ⟨w0, rfl, q2⟩ := r2.one
  obtain ⟨zs, e4, t⟩ := hS.lst e3
  exact mt_append pins s σ H x _ v us Q I rx rs ⟨a, zs, w0, r1.ref, rfl, e4, by rw [t.len]; exact hl, hR.put hS e3 h rv_non (t.app (ra_cons q2 ra_nil))⟩
def popD : RDm := fun x ds S R => ∃ a es d, x = .ref a ∧ ds = [] ∧ S a = some (.lst es) ∧ es[es.length - 1]? = some d ∧ R d (S.set a (.lst es.dropLast))
theorem m_pop : MtD K "list.pop" popD := by
  intro X hK pins s σ H x xs v us Q I rx rs ⟨d, ds, S, R, r1, r2, hS, ⟨a, es, y, e1, e2, e3, hl, h⟩, hR⟩
  subst e1 e2
  obtain ⟨zs, e4, t⟩ := hS.lst e3
  obtain ⟨w, e5, r⟩ := t.get hl
  exact mt_pop pins s σ H x _ v us Q I rx rs ⟨a, zs, w, r1.ref, r2.nil, e4, by rw [t.len]; exact e5, hR.put hS e3 h r t.dropLast⟩
def lenD1 (S : Sto) (R : KD) : D → Prop
  | .str z => z.length ≤ sizeLine ∧ R (.int z.length) S
  | .tup es => R (.int es.length) S
  | .kt es => R (.int es.length) S
  | .rol es => R (.int es.length) S
  | .ref a => (∃ es, S a = some (.lst es) ∧ R (.int es.length) S) ∨ ∃ kvs, S a = some (.dct kvs) ∧ R (.int kvs.length) S
  | _ => False
def lenD : List D → Sto → KD → Prop := fun ds S R => ∃ x, ds = [x] ∧ lenD1 S R x
theorem c_len : CallD K (.builtin "len") lenD := by
  intro X hK hc pins s σ H xs us Q I rx ⟨ds, S, R, r, hS, ⟨x, e, h⟩, hR⟩
  subst hK e
  obtain ⟨w, rfl, r'⟩ := r.one
  cases x with
  | str z =>
    cases r'.str
    exact call_len pins s σ H _ us Q I rx ⟨_, _, rfl, ⟨h.1, rfl⟩, hR.now hS h.2 (rv_int _)⟩
  | tup es =>
    obtain ⟨a, xs, rfl, q, t⟩ := r'.tup
    exact call_len pins s σ H _ us Q I rx ⟨_, _, rfl, .inr ⟨xs, .of q, t.len.symm⟩, hR.now hS h (rv_int _)⟩
  | kt es =>
    obtain ⟨a, xs, rfl, q, t⟩ := r'.kt
    exact call_len pins s σ H _ us Q I rx ⟨_, _, rfl, .inr ⟨xs, .inr q, t.len.symm⟩, hR.now hS h (rv_int _)⟩
  | rol es =>
    obtain ⟨a, xs, rfl, q, t⟩ := r'.rol
    exact call_len pins s σ H _ us Q I rx ⟨_, _, rfl, .inl ⟨xs, q.sq, t.len.symm⟩, hR.now hS h (rv_int _)⟩
  | ref a =>
    cases r'.ref
    rcases h with ⟨es, e, h⟩ | ⟨kvs, e, h⟩
    · obtain ⟨xs, e1, t⟩ := hS.lst e
      exact call_len pins s σ H _ us Q I rx ⟨_, _, rfl, .inl ⟨xs, .of e1, t.len.symm⟩, hR.now hS h (rv_int _)⟩
    · obtain ⟨xs, e1, t⟩ := hS.dct e
      exact call_lenD pins s σ H _ us Q I rx ⟨a, xs, rfl, e1, by rw [t.len]; exact hR.now hS h (rv_int _)⟩
  | _ => exact h.elim
def kdV (S : Sto) : D → Kd → Prop
  | .non, k => k = .non
  | .bl _, k => k = .bl
  | .int _, k => k = .int
  | .str _, k => k = .str
  | .ref a, k => (k = .lst ∧ ∃ ds, S a = some (.lst ds)) ∨ (k = .dct ∧ ∃ ds, S a = some (.dct ds))
  | .tup _, k => k = .tup
  | _, _ => False
theorem kdV_v {H : Hp} {S : Sto} {d : D} {k : Kd} {v : V} (h : kdV S d k) (hS : Rs K S H) (r : Rv K H d v) : KdOf H v k := by
  cases d with
  | non => cases h; rw [r.non]; exact .non
  | bl b => cases h; rw [r.bl]; exact .bl b
  | int b => cases h; rw [r.int]; exact .int b
  | str b => cases h; rw [r.str]; exact .str b
  | tup b => cases h; obtain ⟨a, xs, rfl, q, _⟩ := r.tup; exact .tup q
  | ref a =>
    rw [r.ref]
    rcases h with ⟨rfl, ds, h⟩ | ⟨rfl, ds, h⟩
    · obtain ⟨xs, e, _⟩ := hS.lst h; exact .lst e
    · obtain ⟨xs, e, _⟩ := hS.dct h; exact .dct e
  | _ => exact h.elim
def isiD : List D → Sto → KD → Prop := fun ds S R => ∃ x n k g, ds = [x, .ty n] ∧ isaT n = some g ∧ kdV S x k ∧ R (.bl (g k)) S
theorem RvAll.two {H : Hp} {d e : D} {xs : List V} (h : RvAll K H [d, e] xs) : ∃ v u, xs = [v, u] ∧ Rv K H d v ∧ Rv K H e u := by
  obtain ⟨y, ys, rfl, h1, h2⟩ := h.cons
  obtain ⟨u, rfl, h3⟩ := h2.one
  exact ⟨y, u, rfl, h1, h3⟩
theorem c_isi : CallD K (.builtin "isinstance") isiD := by
  intro X hK hc pins s σ H xs us Q I rx ⟨ds, S, R, r, hS, ⟨x, n, k, g, e, h1, h2, h⟩, hR⟩
  subst hK e
  obtain ⟨v, u, rfl, r1, r2⟩ := r.two
  rw [r2.ty] at rx
  exact call_isi pins s σ H _ us Q I rx ⟨v, n, k, g, rfl, h1, kdV_v h2 hS r1, hR.now hS h (rv_bl _)⟩
def allD : List D → Sto → KD → Prop := fun ds S R => ∃ (x : D) (bs : List Bool), ds = [x] ∧ SqD S x (bs.map D.bl) ∧ R (.bl (bs.all id)) S
theorem c_all : CallD K (.builtin "all") allD := by
  intro X hK hc pins s σ H xs us Q I rx ⟨ds, S, R, r, hS, ⟨x, bs, e, h1, h⟩, hR⟩
  subst hK e
  obtain ⟨v, rfl, r1⟩ := r.one
  obtain ⟨a, zs, rfl, q, t⟩ := h1.at hS r1
  rw [t.bools] at q
  exact call_all_list hc pins s σ H _ us Q I rx ⟨a, bs, rfl, q, hR.now hS h (rv_bl _)⟩
def intD : List D → Sto → KD → Prop := fun ds S R => (∃ i, ds = [.int i] ∧ R (.int i) S) ∨ ∃ k, ds = [.bl k] ∧ R (.int (if k then 1 else 0)) S
theorem c_int : CallD K (.type "int") intD := by
  intro X hK hc pins s σ H xs us Q I rx ⟨ds, S, R, r, hS, h, hR⟩
  rcases h with ⟨i, rfl, h⟩ | ⟨k, rfl, h⟩
  · obtain ⟨v, rfl, r1⟩ := r.one
    exact call_int1 pins s σ H _ us Q I rx (.inl ⟨i, by rw [r1.int], hR.now hS h (rv_int _)⟩)
  · obtain ⟨v, rfl, r1⟩ := r.one
    exact call_int1 pins s σ H _ us Q I rx (.inr ⟨k, by rw [r1.bl], hR.now hS h (rv_int _)⟩)
def listD : List D → Sto → KD → Prop := fun ds S R => ∃ x es, ds = [x] ∧ (SqD S x es ∨ x = .tup es) ∧ ∀ p, S p = none → R (.ref p) (S.set p (.lst es))
theorem c_list : CallD K (.type "list") listD := by
  intro X hK hc pins s σ H xs us Q I rx ⟨ds, S, R, r, hS, ⟨x, es, e, h1, h⟩, hR⟩
  subst hK e
  obtain ⟨v, rfl, r1⟩ := r.one
  rcases h1 with h1 | rfl
  · obtain ⟨a, zs, rfl, q, t⟩ := h1.at hS r1
    exact call_list_of pins s σ H _ us Q I rx ⟨a, zs, rfl, .inl q, fun p hp => hR.new hS hp (h p) t⟩
  · obtain ⟨a, zs, rfl, q, t⟩ := r1.tup
    exact call_list_of pins s σ H _ us Q I rx ⟨a, zs, rfl, .inr (.of q), fun p hp => hR.new hS hp (h p) t⟩
def tupleD : List D → Sto → KD → Prop := fun ds S R => ∃ x es, ds = [x] ∧ (SqD S x es ∨ x = .tup es) ∧ R (.tup es) S
theorem c_tuple : CallD K (.type "tuple") tupleD := by
  intro X hK hc pins s σ H xs us Q I rx ⟨ds, S, R, r, hS, ⟨x, es, e, h1, h⟩, hR⟩
  subst hK e
  obtain ⟨v, rfl, r1⟩ := r.one
  rcases h1 with h1 | rfl
  · obtain ⟨a, zs, rfl, q, t⟩ := h1.at hS r1
    exact call_tuple_of pins s σ H _ us Q I rx ⟨a, zs, rfl, .inl ⟨q, fun p hp => hR.newT hS hp h t⟩⟩
  · obtain ⟨a, zs, rfl, q, t⟩ := r1.tup
    exact call_tuple_of pins s σ H _ us Q I rx ⟨a, zs, rfl, .inr ⟨.of q, hR.now hS h (rv_tup q t)⟩⟩
end
end L2
namespace L2
open PySem PySem.Spec PyProof.Rows
abbrev SpD := List D → Sto → KD → KX → Prop
def SpL (K : PySem.W.Frag) (sp : SpD) : Sp := fun vs H Q e => ∃ ds S R Z, RvAll K H ds vs ∧ Rs K S H ∧ sp ds S R Z ∧ Cn K H R Q ∧ CnX K H Z e
section
variable {K : PySem.W.Frag} {X : Cx} {k : Nat} {f C : Addr} {fd : FuncData} {ps : List Str} {sp : Sp} {dvs : List V} {ds : List Value} {x m : Str} {p pos apos : Pos} {e o : Expr} {es : List Expr} {b : Bool} {y : Ev X b}
theorem run_fnA {p2 : List (Addr × Obj)} {σ : St} {H : Hp} {s : Shared} {Q : VK} {us : List Value} {vs : List V} (F : FnOk X.prog X.w X.K X.mg X.base (CXR X.prog X.w) k f fd ps sp) (hr : Room k X.A) (hb : Binds X.K fd ps ds) (hd : Vals dvs ds)
    (I : Inv y.cx p2 σ H s) (r : Vals vs us) (h : sp (vs ++ dvs) H Q (y.E σ)) : wpAny (model X.prog X.w) X.A (call (.ref f) us) (EP y.cx p2 σ Q) y.xe s := by
  have r2 : Vals (vs ++ dvs) (us ++ ds) := r.append hd
  have hl : (us ++ ds).length = ps.length := by rw [← r2.length]; exact F.len _ _ _ _ h
  refine wpAny_call (codeAny_mono (F.run X.A X.stack s H ⟨us, []⟩ (us ++ ds) (vs ++ dvs) Q (y.E σ) hr I.env0 (hb s us I.kIn hl) r2 h) fun res s' hq => ?_)
  cases res with
  | error e => exact y.ok.call p2 σ H s e s' I hq
  | ok fl =>
    cases fl with
    | ret u => exact I.after hq
    | next => exact False.elim hq
    | brk => exact False.elim hq
    | cont => exact False.elim hq
theorem pe_callA {t : TA} (F : FnOk X.prog X.w X.K X.mg X.base (CXR X.prog X.w) k f fd ps sp) (hr : Room k X.A) (hg : Gl X x) (hm : X.mg x = some (.ref f)) (hk : PySem.W.keepIn X.K (.ref f) = true) (hb : Binds X.K fd ps ds) (hd : Vals dvs ds)
    (ha : PA y.cx (e :: es) t) (hdb : (x == ("__debug__" : Str)) = false) (he : starEach (e :: es) X.env = (false, eval e X.env) :: starEach es X.env) (hpl : (backTo pos (starEach es X.env)).any (·.1) = false) :
    PE y.cx (.Call (.Name x p) (e :: es) [] pos) (fun σ H Q => t σ H fun vs H1 => sp (vs ++ dvs) H1 Q (y.E σ)) := by
  intro p2 s σ H Q I h
  refine wpAny_Call_Name_kw (ld_glob I hg hm ?_ hdb)
  refine PySem.W.callWith_K (h₀ := X.base) I.ok.mod.kin hk (thn (ha pos p2 s σ H _ I h) fun us s1 ⟨vs, H1, I1, r, q⟩ => ⟨I1.kIn, ?_⟩) he hpl
  exact run_fnA F hr hb hd I1 r q
theorem pe_methA {pl : Sem Bool} {ta : TE} {t : TA} (he : PE y.cx o ta) (c : Cls X.K C) (hm : Meth X.K C m f) (F : FnOk X.prog X.w X.K X.mg X.base (CXR X.prog X.w) k f fd ps sp) (hr : Room k X.A) (hb : Binds X.K fd ps ds) (hd : Vals dvs ds) (ha : PA y.cx (e :: es) t)
    (hst : starEach (e :: es) X.env = (false, eval e X.env) :: starEach es X.env) (hpl : (backTo pos (starEach es X.env)).any (·.1) = false)
    (ht : eval (.Call (.Attribute o m apos) (e :: es) [] pos) X.env = (do
      let ov ← eval o X.env
      standAt apos.atName
      let (f, first) ← holding [ov] (getMethod ov m pl)
      callWith pos f first (backTo pos (starEach (e :: es) X.env)) (backToKw pos (keywordEach [] X.env)))) :
    PE y.cx (.Call (.Attribute o m apos) (e :: es) [] pos) (fun σ H Q => ta σ H fun x H1 => ∃ a dx fs, x = .ref a ∧ H1 a = some (.ins C dx fs) ∧ fs.lookup m = none ∧ t σ H1 fun vs H2 => sp (x :: (vs ++ dvs)) H2 Q (y.E σ)) := by
  intro p2 s σ H Q I h
  refine PySem.W.methodCall_KW (pl := pl) (thn (he p2 s σ H _ I h) fun u s1 ⟨x, H1, I1, rx, a, dx, fs, ex, ea, l, q⟩ => ?_) ht
  subst ex
  obtain rfl : u = Value.ref a := rx
  refine getmeth_ok I1 ea c hm l ?_
  refine PySem.W.callWith_K (first := [.ref a]) (h₀ := X.base) I.ok.mod.kin hm.kp (thn (ha pos p2 s1 σ H1 _ I1 q) fun us s2 ⟨vs, H2, I2, r, q2⟩ => ⟨I2.kIn, ?_⟩) hst hpl
  exact run_fnA (us := .ref a :: us) (vs := .ref a :: vs) F hr hb hd I2 (.cons rfl r) q2
theorem pe_methA0 {pl : Sem Bool} {ta : TE} (he : PE y.cx o ta) (c : Cls X.K C) (hm : Meth X.K C m f) (F : FnOk X.prog X.w X.K X.mg X.base (CXR X.prog X.w) k f fd ps sp) (hr : Room k X.A) (hb : Binds X.K fd ps ds) (hd : Vals dvs ds)
    (ht : eval (.Call (.Attribute o m apos) [] [] pos) X.env = (do
      let ov ← eval o X.env
      standAt apos.atName
      let (f, first) ← holding [ov] (getMethod ov m pl)
      callWith pos f first (backTo pos (starEach [] X.env)) (backToKw pos (keywordEach [] X.env)))) :
    PE y.cx (.Call (.Attribute o m apos) [] [] pos) (fun σ H Q => ta σ H fun x H1 => ∃ a dx fs, x = .ref a ∧ H1 a = some (.ins C dx fs) ∧ fs.lookup m = none ∧ sp (x :: dvs) H1 Q (y.E σ)) := by
  intro p2 s σ H Q I h
  refine PySem.W.methodCall_KW (pl := pl) (thn (he p2 s σ H _ I h) fun u s1 ⟨x, H1, I1, rx, a, dx, fs, ex, ea, l, q⟩ => ?_) ht
  subst ex
  obtain rfl : u = Value.ref a := rx
  refine getmeth_ok I1 ea c hm l ?_
  exact PySem.W.callWith_K0 (first := [.ref a]) I1.kIn hm.kp (run_fnA (us := [.ref a]) (vs := [.ref a]) F hr hb hd I1 (.cons rfl .nil) q)
theorem run_makeA {p2 : List (Addr × Obj)} {σ : St} {H : Hp} {s : Shared} {Q : VK} {us : List Value} {vs : List V} (M : Mk X.K C f) (F : FnOk X.prog X.w X.K X.mg X.base (CXR X.prog X.w) k f fd ps sp) (hr : Room (k + 1) X.A) (hb : Binds X.K fd ps ds) (hd : Vals dvs ds)
    (I : Inv y.cx p2 σ H s) (r : Vals vs us)
    (h : ∀ x dx, H x = none → H dx = none → dx ≠ x → sp (.ref x :: (vs ++ dvs)) (upd (upd H dx (.own x)) x (.ins C dx [])) (fun v H2 => v = .non ∧ Q (.ref x) H2) (y.E σ)) :
    wpAny (model X.prog X.w) X.A (call (.ref C) us) (EP y.cx p2 σ Q) y.xe s := by
  have hq := h (s.heap.objs.size + 1) s.heap.objs.size (I.hok.fresh (Nat.le_succ _)) (I.hok.fresh (Nat.le_refl _)) (Nat.ne_of_lt (Nat.lt_succ_self _))
  have I2 := Inv.made (C := C) I
  have r2 : Vals (V.ref (s.heap.objs.size + 1) :: (vs ++ dvs)) (Value.ref (s.heap.objs.size + 1) :: (us ++ ds)) := .cons rfl (r.append hd)
  have hl : (Value.ref (s.heap.objs.size + 1) :: us ++ ds).length = ps.length := by
    have e := r2.length
    rw [F.len _ _ _ _ hq] at e
    exact e.symm
  refine wpAny_call (make_map (f := f) I.kIn M.makes M.init (beq_iff_eq.mp M.fn) (codeAny_mono (F.run _ X.stack _ _ ⟨Value.ref (s.heap.objs.size + 1) :: us, []⟩ (Value.ref (s.heap.objs.size + 1) :: (us ++ ds)) _ _ (y.E σ) (hr.make C us [])
    (I2.env0.make C us []) (hb _ (Value.ref (s.heap.objs.size + 1) :: us) I2.kIn hl) r2 hq) fun r s' hq' => ?_))
  cases r with
  | error e => exact y.ok.call p2 σ _ _ e s' I2 hq'
  | ok fl =>
    cases fl with
    | ret u =>
      obtain ⟨v, H', I3, rv, ev, q3⟩ := I2.after hq'
      subst ev
      exact ⟨rv, ⟨V.ref (s.heap.objs.size + 1), H', I3, rfl, q3⟩⟩
    | next => exact False.elim hq'
    | brk => exact False.elim hq'
    | cont => exact False.elim hq'
theorem pe_makeA {t : TA} (M : Mk X.K C f) (F : FnOk X.prog X.w X.K X.mg X.base (CXR X.prog X.w) k f fd ps sp) (hr : Room (k + 1) X.A) (hg : Gl X x) (hm : X.mg x = some (.ref C)) (hb : Binds X.K fd ps ds) (hd : Vals dvs ds)
    (ha : PA y.cx (e :: es) t) (hdb : (x == ("__debug__" : Str)) = false) (he : starEach (e :: es) X.env = (false, eval e X.env) :: starEach es X.env) (hpl : (backTo pos (starEach es X.env)).any (·.1) = false) :
    PE y.cx (.Call (.Name x p) (e :: es) [] pos) (fun σ H Q => t σ H fun vs H1 => ∀ x dx, H1 x = none → H1 dx = none → dx ≠ x →
      sp (.ref x :: (vs ++ dvs)) (upd (upd H1 dx (.own x)) x (.ins C dx [])) (fun v H2 => v = .non ∧ Q (.ref x) H2) (y.E σ)) := by
  intro p2 s σ H Q I h
  refine wpAny_Call_Name_kw (ld_glob I hg hm ?_ hdb)
  refine PySem.W.callWith_K (h₀ := X.base) I.ok.mod.kin M.kp (thn (ha pos p2 s σ H _ I h) fun us s1 ⟨vs, H1, I1, r, q⟩ => ⟨I1.kIn, ?_⟩) he hpl
  exact run_makeA M F hr hb hd I1 r q
end
section
variable {K : PySem.W.Frag} {X : Cx} {k : Nat} {f C : Addr} {fd : FuncData} {ps : List Str} {sp : SpD} {dds : List D} {dvs : List V} {ds : List Value} {x m : Str} {p pos apos : Pos} {e o : Expr} {es : List Expr}
structure Dfl (K : PySem.W.Frag) (dds : List D) (dvs : List V) (ds : List Value) : Prop where
  v : Vals dvs ds
  d : ∀ H, RvAll K H dds dvs
theorem d0 : Dfl K [] [] [] := ⟨.nil, fun _ => ra_nil⟩
theorem d1 : Dfl K [.non] [.non] [.none] := ⟨.cons rfl .nil, fun _ => ra_cons rv_non ra_nil⟩
def dCall (sp : SpD) (dds : List D) (t : TDa) : TD := fun σ S R Z => t σ S (fun ds S1 => sp (ds ++ dds) S1 R Z) Z
theorem cf {t : TDa} (F : FnOk X.prog X.w K X.mg X.base (CXR X.prog X.w) k f fd ps (SpL K sp)) (hr : Room k X.A) (hm : X.mg x = some (.ref f)) (hk : PySem.W.keepIn K (.ref f) = true) (hb : Binds K fd ps ds) (hd : Dfl K dds dvs ds) (ha : DA K X (e :: es) t)
    (hg : Gl X x := by rfl) (hdb : (x == ("__debug__" : Str)) = false := by decide) (he : starEach (e :: es) X.env = (false, eval e X.env) :: starEach es X.env := by rfl) (hpl : (backTo pos (starEach es X.env)).any (·.1) = false := by rfl) (hK : X.K = K := by rfl) :
    DE K X (.Call (.Name x p) (e :: es) [] pos) (dCall sp dds t) := by
  subst hK
  exact ⟨fun y => (pe_callA F hr hg hm hk hb hd.v (ha.of y) hdb he hpl).mono fun τ H Q ⟨σ, S, R, Z, hσ, hS, q, hR, hZ⟩ =>
    ⟨σ, S, _, Z, hσ, hS, q, fun es S1 xs H1 r1 v1 s1 k1 => ⟨es ++ dds, S1, R, Z, v1.app (hd.d _), s1, r1, hR.kp k1, hZ.kp k1⟩, hZ⟩⟩
def dMeth (C : Addr) (m : Str) (sp : SpD) (dds : List D) (ta : TD) (t : TDa) : TD := fun σ S R Z => ta σ S (fun x S1 => ∃ a fs, x = .ref a ∧ S1 a = some (.ins C fs) ∧ fs.lookup m = none ∧ t σ S1 (fun ds S2 => sp (x :: (ds ++ dds)) S2 R Z) Z) Z
theorem cme {pl : Sem Bool} {ta : TD} {t : TDa} (he : DE K X o ta) (c : Cls K C) (hm : Meth K C m f) (F : FnOk X.prog X.w K X.mg X.base (CXR X.prog X.w) k f fd ps (SpL K sp)) (hr : Room k X.A) (hb : Binds K fd ps ds) (hd : Dfl K dds dvs ds) (ha : DA K X (e :: es) t)
    (hst : starEach (e :: es) X.env = (false, eval e X.env) :: starEach es X.env := by rfl) (hpl : (backTo pos (starEach es X.env)).any (·.1) = false := by rfl)
    (ht : eval (.Call (.Attribute o m apos) (e :: es) [] pos) X.env = (do
      let ov ← eval o X.env
      standAt apos.atName
      let (f, first) ← holding [ov] (getMethod ov m pl)
      callWith pos f first (backTo pos (starEach (e :: es) X.env)) (backToKw pos (keywordEach [] X.env))) := by rfl) (hK : X.K = K := by rfl) :
    DE K X (.Call (.Attribute o m apos) (e :: es) [] pos) (dMeth C m sp dds ta t) := by
  subst hK
  exact ⟨fun y => (pe_methA (he.of y) c hm F hr hb hd.v (ha.of y) hst hpl ht).mono fun τ H Q ⟨σ, S, R, Z, hσ, hS, q, hR, hZ⟩ =>
    ⟨σ, S, _, Z, hσ, hS, q, fun d S1 x H1 ⟨a, fs, e1, e2, e3, r1⟩ v1 s1 k1 => by
      subst e1
      obtain ⟨dx, vs, e4, t4⟩ := s1.ins e2
      exact ⟨a, dx, vs, v1.ref, e4, (t4.look m).2 e3, σ, S1, _, Z, hσ.ts k1, s1, r1, fun es S2 xs H2 r2 v2 s2 k2 => ⟨_, S2, R, Z, ra_cons (Rv.ts k2 _ v1) (v2.app (hd.d _)), s2, r2, hR.kp (k1.trans k2), hZ.kp (k1.trans k2)⟩, hZ.kp k1⟩, hZ⟩⟩
theorem cme0 {pl : Sem Bool} {ta : TD} (he : DE K X o ta) (c : Cls K C) (hm : Meth K C m f) (F : FnOk X.prog X.w K X.mg X.base (CXR X.prog X.w) k f fd ps (SpL K sp)) (hr : Room k X.A) (hb : Binds K fd ps ds) (hd : Dfl K dds dvs ds)
    (ht : eval (.Call (.Attribute o m apos) [] [] pos) X.env = (do
      let ov ← eval o X.env
      standAt apos.atName
      let (f, first) ← holding [ov] (getMethod ov m pl)
      callWith pos f first (backTo pos (starEach [] X.env)) (backToKw pos (keywordEach [] X.env))) := by rfl) (hK : X.K = K := by rfl) :
    DE K X (.Call (.Attribute o m apos) [] [] pos) (dMeth C m sp dds ta aNil) := by
  subst hK
  exact ⟨fun y => (pe_methA0 (he.of y) c hm F hr hb hd.v ht).mono fun τ H Q ⟨σ, S, R, Z, hσ, hS, q, hR, hZ⟩ =>
    ⟨σ, S, _, Z, hσ, hS, q, fun d S1 x H1 ⟨a, fs, e1, e2, e3, r1⟩ v1 s1 k1 => by
      subst e1
      obtain ⟨dx, vs, e4, t4⟩ := s1.ins e2
      exact ⟨a, dx, vs, v1.ref, e4, (t4.look m).2 e3, _, S1, R, Z, ra_cons v1 (hd.d _), s1, r1, hR.kp k1, hZ.kp k1⟩, hZ⟩⟩
def dMake (C : Addr) (sp : SpD) (dds : List D) (t : TDa) : TD := fun σ S R Z => t σ S (fun ds S1 => ∀ x, S1 x = none → sp (.ref x :: (ds ++ dds)) (S1.set x (.ins C [])) (fun d S2 => d = .non ∧ R (.ref x) S2) Z) Z
theorem mk {t : TDa} (M : Mk K C f) (F : FnOk X.prog X.w K X.mg X.base (CXR X.prog X.w) k f fd ps (SpL K sp)) (hr : Room (k + 1) X.A) (hm : X.mg x = some (.ref C)) (hb : Binds K fd ps ds) (hd : Dfl K dds dvs ds) (ha : DA K X (e :: es) t)
    (hg : Gl X x := by rfl) (hdb : (x == ("__debug__" : Str)) = false := by decide) (he : starEach (e :: es) X.env = (false, eval e X.env) :: starEach es X.env := by rfl) (hpl : (backTo pos (starEach es X.env)).any (·.1) = false := by rfl) (hK : X.K = K := by rfl) :
    DE K X (.Call (.Name x p) (e :: es) [] pos) (dMake C sp dds t) := by
  subst hK
  exact ⟨fun y => (pe_makeA M F hr hg hm hb hd.v (ha.of y) hdb he hpl).mono fun τ H Q ⟨σ, S, R, Z, hσ, hS, q, hR, hZ⟩ =>
    ⟨σ, S, _, Z, hσ, hS, q, fun es S1 xs H1 r1 v1 s1 k1 x dx hx hdx ne => by
      have hx2 : upd H1 dx (.own x) x = none := by rw [upd_ne ne.symm]; exact hx
      have k2 : Kp X.K H1 (upd (upd H1 dx (.own x)) x (.ins C dx [])) := (Kp.new hdx).trans (Kp.new hx2)
      exact ⟨_, _, _, Z, ra_cons (rv_ref x) (RvAll.ts k2 _ (v1.app (hd.d _))), (s1.grow hdx).new (c := .ins C []) hx2 ⟨dx, [], upd_same, .nil⟩, r1 x (s1.fresh hx), fun d S2 v H2 ⟨e, r2⟩ v2 s2 k3 => by subst e; exact ⟨v2.non, hR _ _ _ _ r2 (rv_ref x) s2 ((k1.trans k2).trans k3)⟩, (hZ.kp k1).kp k2⟩, hZ⟩⟩
def dFld (C : Addr) (f : Str) (ta : TD) : TD := fun σ S R Z => ta σ S (fun x S1 => ∃ a fs d, x = .ref a ∧ S1 a = some (.ins C fs) ∧ fs.lookup f = some d ∧ R d S1) Z
theorem fl {f : Str} {ta : TD} (c : Cls K C) (n : NoAttr K C f) (he : DE K X e ta) (hb : attributeBase e f X.env (eval e X.env) = eval e X.env := by rfl) (hK : X.K = K := by rfl) : DE K X (.Attribute e f pos) (dFld C f ta) := by
  subst hK
  exact ⟨fun y => (pe_fld (X := y.cx) (he.of y) hb).mono fun τ H Q ⟨σ, S, R, Z, hσ, hS, q, hR, hZ⟩ =>
    ⟨σ, S, _, Z, hσ, hS, q, fun d S1 x H1 ⟨a, fs, y, e1, e2, e3, r1⟩ v1 s1 k1 => by
      subst e1
      obtain ⟨dx, vs, e4, t4⟩ := s1.ins e2
      obtain ⟨v, e5, r5⟩ := (t4.look f).1 y e3
      exact ⟨a, C, dx, vs, v, v1.ref, e4, c, n, e5, (hR.kp k1).now s1 r1 r5⟩, hZ⟩⟩
end
end L2
namespace L2
open PySem PySem.Spec PyProof.Rows
structure EndsD where
  nx : SD → Sto → Prop
  rt : KD
  bk : SD → Sto → Prop := fun _ _ => False
  ct : SD → Sto → Prop := fun _ _ => False
abbrev TSD := EndsD → SD → Sto → (SD → KX) → Prop
def CnN (K : PySem.W.Frag) (H : Hp) (R : SD → Sto → Prop) (Q : St → Hp → Prop) : Prop := ∀ σ S τ H', R σ S → Rst K H' σ τ → Rs K S H' → Kp K H H' → Q τ H'
structure CnS (K : PySem.W.Frag) (H : Hp) (De : EndsD) (Dv : Ends) : Prop where
  nx : CnN K H De.nx Dv.nx
  rt : Cn K H De.rt Dv.rt
  bk : CnN K H De.bk Dv.bk
  ct : CnN K H De.ct Dv.ct
def CnXs (K : PySem.W.Frag) (H : Hp) (Z : SD → KX) (E : St → XK) : Prop := ∀ σ τ C S H', Z σ C S → Rst K H' σ τ → Rs K S H' → Kp K H H' → E τ (.ref C) none H'
section
variable {K : PySem.W.Frag} {H H1 : Hp} {De : EndsD} {Dv : Ends} {Z : SD → KX} {E : St → XK} {σ : SD} {τ : St} {S : Sto}
theorem CnN.kp {R : SD → Sto → Prop} {Q : St → Hp → Prop} (h : CnN K H R Q) (k : Kp K H H1) : CnN K H1 R Q := fun σ S τ H' r a b c => h σ S τ H' r a b (k.trans c)
theorem CnS.kp (h : CnS K H De Dv) (k : Kp K H H1) : CnS K H1 De Dv := ⟨h.nx.kp k, h.rt.kp k, h.bk.kp k, h.ct.kp k⟩
theorem CnXs.kp (h : CnXs K H Z E) (k : Kp K H H1) : CnXs K H1 Z E := fun σ τ C S H' r a b c => h σ τ C S H' r a b (k.trans c)
theorem CnXs.at (h : CnXs K H Z E) (r : Rst K H σ τ) : CnX K H (Z σ) (E τ) := fun C S H' z s k => h σ τ C S H' z (r.ts k) s k
theorem CnXs.on (h : CnXs K H Z E) (k : Kp K H H1) (r : Rst K H1 σ τ) : CnX K H1 (Z σ) (E τ) := (h.kp k).at r
end
def Tl (K : PySem.W.Frag) (E : St → XK) (t : TSD) : TS := fun Dv τ H => ∃ σ S De Z, Rst K H σ τ ∧ Rs K S H ∧ t De σ S Z ∧ CnS K H De Dv ∧ CnXs K H Z E
structure DS (K : PySem.W.Frag) (X : Cx) (b : Bool) (st : Stmt) (t : TSD) : Prop where
  of : ∀ y : Ev X b, PS y.cx st (Tl K y.E t)
structure DSs (K : PySem.W.Frag) (X : Cx) (b : Bool) (st : List Stmt) (t : TSD) : Prop where
  of : ∀ y : Ev X b, PSs y.cx st (Tl K y.E t)
theorem PS.mono {X : Cx} {e : Stmt} {t t' : TS} (h : PS X e t) (i : ∀ D τ H, t' D τ H → t D τ H) : PS X e t' := fun pins s τ H D I q => h pins s τ H D I (i D τ H q)
theorem PSs.mono {X : Cx} {e : List Stmt} {t t' : TS} (h : PSs X e t) (i : ∀ D τ H, t' D τ H → t D τ H) : PSs X e t' := fun pins s τ H D I q => h pins s τ H D I (i D τ H q)
section
variable {K : PySem.W.Frag} {X : Cx} {b : Bool} {pos : Pos}
def dNext : TSD := fun De σ S _ => De.nx σ S
def dSeq (t u : TSD) : TSD := fun De σ S Z => t { De with nx := fun σ' S' => u De σ' S' Z } σ S Z
theorem s0 : DSs K X b [] dNext := ⟨fun y => (pss_nil (X := y.cx)).mono fun D τ H ⟨σ, S, De, Z, hσ, hS, q, hD, hZ⟩ => hD.nx _ _ _ _ q hσ hS (.refl _)⟩
theorem sc {st : Stmt} {r : List Stmt} {t u : TSD} (h1 : DS K X b st t) (h2 : DSs K X b r u) : DSs K X b (st :: r) (dSeq t u) :=
  ⟨fun y => (pss_cons (h1.of y) (h2.of y)).mono fun D τ H ⟨σ, S, De, Z, hσ, hS, q, hD, hZ⟩ =>
    ⟨σ, S, _, Z, hσ, hS, q, ⟨fun σ1 S1 τ1 H1 r1 a b c => ⟨σ1, S1, De, Z, a, b, r1, hD.kp c, hZ.kp c⟩, hD.rt, hD.bk, hD.ct⟩, hZ⟩⟩
theorem s1 {st : Stmt} {t : TSD} (h : DS K X b st t) : DSs K X b [st] t := ⟨fun y => pss_one (h.of y)⟩
def dDrop (t : TD) : TSD := fun De σ S Z => t σ S (fun _ S1 => De.nx σ S1) (Z σ)
theorem se {e : Expr} {t : TD} (h : DE K X e t) (hs : swapsWith e none pos.line X.env = pure false := by rfl) : DS K X b (.Expr e pos) (dDrop t) :=
  ⟨fun y => (ps_expr (X := y.cx) (h.of y) hs).mono fun D τ H ⟨σ, S, De, Z, hσ, hS, q, hD, hZ⟩ => ⟨σ, S, _, _, hσ, hS, q, fun d S1 v H1 r1 _ s1 k1 => hD.nx _ _ _ _ r1 (hσ.ts k1) s1 k1, hZ.at hσ⟩⟩
def dRet (t : TD) : TSD := fun De σ S Z => t σ S De.rt (Z σ)
theorem sr {e : Expr} {t : TD} (h : DE K X e t) : DS K X b (.Return (some e) pos) (dRet t) :=
  ⟨fun y => (ps_ret (h.of y)).mono fun D τ H ⟨σ, S, De, Z, hσ, hS, q, hD, hZ⟩ => ⟨σ, S, _, _, hσ, hS, q, hD.rt, hZ.at hσ⟩⟩
def dIf (c : TDt) (t u : TSD) : TSD := fun De σ S Z => c σ S (fun b S1 => if b = true then t De σ S1 Z else u De σ S1 Z) (Z σ)
theorem si {c : Expr} {a a' : List Stmt} {tc : TDt} {t u : TSD} (hc : DT K X c tc) (ha : DSs K X b a t) (hb : DSs K X b a' u) : DS K X b (.If c a a' pos) (dIf tc t u) :=
  ⟨fun y => (ps_if (hc.of y) (ha.of y) (hb.of y)).mono fun D τ H ⟨σ, S, De, Z, hσ, hS, q, hD, hZ⟩ =>
    ⟨σ, S, _, _, hσ, hS, q, fun c S1 H1 r1 s1 k1 => by
      cases c with
      | true => rw [if_pos rfl] at r1 ⊢; exact ⟨σ, S1, De, Z, hσ.ts k1, s1, r1, hD.kp k1, hZ.kp k1⟩
      | false => rw [if_neg Bool.false_ne_true] at r1 ⊢; exact ⟨σ, S1, De, Z, hσ.ts k1, s1, r1, hD.kp k1, hZ.kp k1⟩, hZ.at hσ⟩⟩
abbrev TGd := D → SD → Sto → (SD → Sto → Prop) → Prop
def Tg (K : PySem.W.Frag) (g : TGd) : TG := fun v τ H Q => ∃ d σ S R, Rv K H d v ∧ Rst K H σ τ ∧ Rs K S H ∧ g d σ S R ∧ CnN K H R Q
structure DG (K : PySem.W.Frag) (X : Cx) (e : Expr) (g : TGd) : Prop where
  of : ∀ Y : Cx, Y.K = X.K → Y.N = X.N → Y.env = X.env → Y.fn = X.fn → Y.calm = X.calm → PG Y e (Tg K g)
theorem PG.mono {e : Expr} {t t' : TG} (h : PG X e t) (i : ∀ v τ H Q, t' v τ H Q → t v τ H Q) : PG X e t' := fun pins s τ H v u Q I r q => h pins s τ H v u Q I r (i v τ H Q q)
def gdN (i : Nat) : TGd := fun d σ S R => R (σ.set i (some d)) S
theorem gn {i : Nat} {x : Str} (hN : X.N.Nodup) (hi : X.N[i]? = some x := by rfl) (hx : Loc X.env.scope x := by first | exact Or.inl rfl | exact Or.inr rfl) (hf : X.fn x = true ∨ X.env.scope.names.lookup x = some .local := by first | exact .inl rfl | exact .inr rfl) : DG K X (.Name x pos) (gdN i) :=
  ⟨fun Y _ e2 e3 e4 _ => (pg_name (X := Y) (by rw [e2]; exact hN) (by rw [e2]; exact hi) (by rw [e3]; exact hx) (by rw [e3, e4]; exact hf)).mono fun v τ H Q ⟨d, σ, S, R, rv, hσ, hS, q, hR⟩ => hR _ S _ H q (hσ.set i rv) hS (.refl _)⟩
abbrev TGds := List D → SD → Sto → (SD → Sto → Prop) → Prop
def Tgs (K : PySem.W.Frag) (g : TGds) : TGs := fun vs τ H Q => ∃ ds σ S R, RvAll K H ds vs ∧ Rst K H σ τ ∧ Rs K S H ∧ g ds σ S R ∧ CnN K H R Q
structure DGs (K : PySem.W.Frag) (X : Cx) (es : List Expr) (g : TGds) : Prop where
  of : ∀ Y : Cx, Y.K = X.K → Y.N = X.N → Y.env = X.env → Y.fn = X.fn → Y.calm = X.calm → PGs Y es (Tgs K g)
theorem PGs.mono {e : List Expr} {t t' : TGs} (h : PGs X e t) (i : ∀ v τ H Q, t' v τ H Q → t v τ H Q) : PGs X e t' := fun pins s τ H v u Q I r q => h pins s τ H v u Q I r (i v τ H Q q)
def gdNil : TGds := fun ds σ S R => ds = [] ∧ R σ S
def gdCons (g : TGd) (u : TGds) : TGds := fun ds σ S R => ∃ d r, ds = d :: r ∧ g d σ S fun σ1 S1 => u r σ1 S1 R
theorem g0 : DGs K X [] gdNil := ⟨fun Y _ _ _ _ _ => (pgs_nil (X := Y)).mono fun vs τ H Q ⟨ds, σ, S, R, rv, hσ, hS, ⟨e, q⟩, hR⟩ => by subst e; exact ⟨rv.nil, hR _ _ _ _ q hσ hS (.refl _)⟩⟩
theorem gc {e : Expr} {es : List Expr} {g : TGd} {u : TGds} (h1 : DG K X e g) (h2 : DGs K X es u) (hs : ∀ env : Env, (assignEach (e :: es) env).map (·.2) = assign e env :: (assignEach es env).map (·.2) := by intro _; rfl) : DGs K X (e :: es) (gdCons g u) :=
  ⟨fun Y a b c d f => (pgs_cons (h1.of Y a b c d f) (h2.of Y a b c d f) (hs _)).mono fun vs τ H Q ⟨ds, σ, S, R, rv, hσ, hS, ⟨d, r, e, q⟩, hR⟩ => by
    subst e
    obtain ⟨y, ys, e1, r1, r2⟩ := rv.cons
    exact ⟨y, ys, e1, d, σ, S, _, r1, hσ, hS, q, fun σ1 S1 τ1 H1 q1 a b c => ⟨r, σ1, S1, R, RvAll.ts c _ r2, a, b, q1, hR.kp c⟩⟩⟩
def gdTup (n : Nat) (g : TGds) : TGd := fun d σ S R => ∃ ds, d = .tup ds ∧ ds.length = n ∧ g ds σ S R
theorem gt {es : List Expr} {j : Nat} {g : TGds} {n : Nat} (h : DGs K X es g) (hn : ∀ env : Env, (assignEach es env).length = n := by intro _; rfl) (hst : ∀ env : Env, (assignEach es env).findIdx? (·.1) = none := by intro _; rfl) (hK : X.K = K := by rfl) (hc : X.calm = true := by rfl) : DG K X (.Tuple es j pos) (gdTup n g) :=
  ⟨fun Y a b c d f => (pg_tup (X := Y) (by rw [f]; exact hc) (h.of Y a b c d f) (hn _) (hst _)).mono fun v τ H Q ⟨d, σ, S, R, rv, hσ, hS, ⟨ds, e, hl, q⟩, hR⟩ => by
    subst e
    obtain ⟨p, xs, e1, e2, t⟩ := rv.tup
    exact ⟨p, xs, e1, .of e2, by rw [t.len]; exact hl, ds, σ, S, R, t, hσ, hS, q, hR⟩⟩
def dSet (i : Nat) (t : TD) : TSD := fun De σ S Z => t σ S (fun d S1 => De.nx (σ.set i (some d)) S1) (Z σ)
theorem st_ {i : Nat} {x : Str} {e : Expr} {t : TD} {pos' : Pos} (hN : X.N.Nodup) (h : DE K X e t) (hi : X.N[i]? = some x := by rfl) (hx : Loc X.env.scope x := by first | exact Or.inl rfl | exact Or.inr rfl) (hs : swapsWith e (some (.Name x pos')) pos.line X.env = pure false := by rfl)
    (hf : X.fn x = true ∨ X.env.scope.names.lookup x = some .local := by first | exact .inl rfl | exact .inr rfl) : DS K X b (.Assign [.Name x pos'] e pos) (dSet i t) :=
  ⟨fun y => (ps_set (X := y.cx) (i := i) hN hi hx (h.of y) hs hf).mono fun D τ H ⟨σ, S, De, Z, hσ, hS, q, hD, hZ⟩ => ⟨σ, S, _, _, hσ, hS, q, fun d S1 v H1 r1 v1 s1 k1 => hD.nx _ _ _ _ r1 ((hσ.ts k1).set i v1) s1 k1, hZ.at hσ⟩⟩
def dAsg (t : TD) (g : TGd) : TSD := fun De σ S Z => t σ S (fun d S1 => g d σ S1 De.nx) (Z σ)
theorem sa {tg e : Expr} {t : TD} {g : TGd} (h : DE K X e t) (hg : DG K X tg g) (hs : swapsWithSole [tg] e pos.line X.env = pure false := by rfl) (hw : swappedStores [tg] e X.env = pure none := by rfl) (h1 : (assignEach [tg] X.env).map (·.2) = [assign tg X.env] := by rfl) :
    DS K X b (.Assign [tg] e pos) (dAsg t g) :=
  ⟨fun y => (ps_asg (X := y.cx) (h.of y) (hg.of _ rfl rfl rfl rfl rfl) hs hw h1).mono fun D τ H ⟨σ, S, De, Z, hσ, hS, q, hD, hZ⟩ => ⟨σ, S, _, _, hσ, hS, q, fun d S1 v H1 r1 v1 s1 k1 => ⟨d, σ, S1, _, v1, hσ.ts k1, s1, r1, hD.nx.kp k1⟩, hZ.at hσ⟩⟩
def dPut (td ty tv : TD) : TSD := fun De σ S Z => tv σ S (fun v S1 => td σ S1 (fun x S2 => ty σ S2 (fun y S3 => ∃ a kvs k, x = .ref a ∧ S3 a = some (.dct kvs) ∧ keyD y = some k ∧ kvs.length < sizeLine ∧ De.nx σ (S3.set a (.dct (dput kvs k v)))) (Z σ)) (Z σ)) (Z σ)
theorem sd {o i value : Expr} {td ty tv : TD} {pos' : Pos} (hu : X.A.units + 64 < cLine) (ho : DE K X o td) (hi : DE K X i ty) (hv : DE K X value tv) (hs : swapsWith value (some (.Subscript o i pos')) pos.line X.env = pure false := by rfl) : DS K X b (.Assign [.Subscript o i pos'] value pos) (dPut td ty tv) :=
  ⟨fun y => (ps_dput (X := y.cx) (by show X.A.units + 1 < cLine; omega) (ho.of y) (hi.of y) (hv.of y) hs).mono fun D τ H ⟨σ, S, De, Z, hσ, hS, q, hD, hZ⟩ =>
    ⟨σ, S, _, _, hσ, hS, q, fun v S1 vv H1 r1 v1 s1 k1 => ⟨σ, S1, _, _, hσ.ts k1, s1, r1, fun x S2 xv H2 r2 v2 s2 k2 => ⟨σ, S2, _, _, hσ.ts (k1.trans k2), s2, r2, fun y S3 yv H3 ⟨a, kvs, k, e1, e2, e3, hl, r3⟩ v3 s3 k3 => by
      subst e1
      obtain ⟨vs, e4, t⟩ := s3.dct e2
      have kk := s3.ts_put (o := .dK (putK vs k vv)) e2
      refine ⟨a, _, (Rv.ts k3 _ v2).ref, by rw [keyD_v e3 v3]; exact DPut.k e4 (by rw [t.len]; exact hl), ?_⟩
      exact hD.nx _ _ _ _ r3 (hσ.ts (((k1.trans k2).trans k3).trans kk)) (s3.put (c := .dct _) e2 ⟨_, upd_same, (t.put k (Rv.ts (k2.trans k3) _ v1)).ts kk⟩) (((k1.trans k2).trans k3).trans kk), hZ.on (k1.trans k2) (hσ.ts (k1.trans k2))⟩, hZ.on k1 (hσ.ts k1)⟩, hZ.at hσ⟩⟩
end
end L2
namespace L2
open PySem PySem.Spec PyProof.Rows
section
variable {X : Cx} {pins : List (Addr × Obj)} {σ : St} {H : Hp} {s : Shared} {A : Around} {E : Value → Shared → Prop} {a : Addr} {kvs : List (Key × V)} {k : Key} {u : Value}
theorem d_setd {z : V} {r : Value} {Q : Value → Shared → Prop} (I : Inv X pins σ H s) (e : H a = some (.dK kvs)) (ry : RelV (kV k) u) (rz : RelV z r) (hl : kvs.length < sizeLine)
    (h1 : ∀ v w' s', valV kvs k = some v → Inv X pins σ H s' → RelV v w' → Q w' s') (h2 : valV kvs k = none → ∀ s', Inv X pins σ (upd H a (.dK (putK kvs k z))) s' → Q r s') :
    wpAny (model X.prog X.w) A (call (.builtin "dict.setdefault") [.ref a, u, r]) Q E s := by
  obtain ⟨zz, hd, vs, rel, dd⟩ := dk_of I.hok e
  have hp := length_putK kvs k z
  refine call_meetsIn PySem.F.slot_dict_setdefault dd.typeIs PySem.F.entry_dict_setdefault (PySem.F.args_dict_setdefault_3 _ _ _) (PySem.kt_meets_setdefault (mixKind X.prog X.w) a (kV_is ry) hd r)
    ⟨vs, dd, by rw [← rel.length]; exact zz, fun w' hw => ?_, fun hn h' dd' hs => ?_⟩
  · cases q : valV kvs k with
    | none =>
      have := RelO.none_of (o := valueAt vs k) (by rw [← q]; exact rel.val k)
      rw [this] at hw; cases hw
    | some v =>
      obtain ⟨w2, hw2, rw2⟩ := RelO.some_of (v := v) (o := valueAt vs k) (by rw [← q]; exact rel.val k)
      rw [hw2] at hw; cases hw
      exact h1 v _ _ q (I.tok _) rw2
  · cases q : valV kvs k with
    | some v =>
      obtain ⟨w2, hw2, rw2⟩ := RelO.some_of (v := v) (o := valueAt vs k) (by rw [← q]; exact rel.val k)
      rw [hw2] at hn; cases hn
    | none =>
      have he : ∃ q, h'.get? a = some q := let ⟨q, _, _, hq, _⟩ := dd'; ⟨q, hq⟩
      exact h2 q _ (d_write I (by rw [e]; exact True.intro) hs he (dk_new (by omega) hd (rel.put k rz) dd'))
end
section
variable {X : Cx} {o e f : Expr} {apos cpos : Pos} {td ty tx : TE}
def tDSet (td ty tx : TE) : TE := fun σ H Q => td σ H fun x H1 => ∃ a, x = .ref a ∧ IsD H1 a ∧ ty σ H1 fun y H2 => tx σ H2 fun z H3 => ∃ kvs k, H3 a = some (.dK kvs) ∧ y = kV k ∧ kvs.length < sizeLine ∧
  (∀ v, valV kvs k = some v → Q v H3) ∧ (valV kvs k = none → Q z (upd H3 a (.dK (putK kvs k z))))
theorem pe_dsetd (ho : PE X o td) (he : PE X e ty) (hf : PE X f tx) (m : M2 X o "setdefault" apos e f cpos) : PE X (.Call (.Attribute o "setdefault" apos) [e, f] [] cpos) (tDSet td ty tx) := by
  intro pins s σ H Q I h
  refine wpAny_Call_method m.base m.few m.line PySem.F.plainAttrs_dict PySem.F.slot_dict_setdefault PySem.F.type_dict_setdefault (thn (ho pins s σ H _ I h) fun u s1 ⟨x, H1, I1, rx, a, ex, d, q1⟩ => ?_)
  subst ex
  obtain rfl : u = Value.ref a := rx
  obtain ⟨t1, t2, _⟩ := isD_at I1 d
  refine ⟨t1, t2, ?_⟩
  rw [m.trees]
  refine Calls.callWith_builtin rfl (Calls.evalArgs_plain (Calls.spliced_cons (thn (he pins s1 σ H1 _ I1 q1) fun iv s2 ⟨y, H2, I2, ry, q2⟩ =>
    Calls.spliced_cons (thn (hf pins s2 σ H2 _ I2 q2) fun fv s3 ⟨z, H3, I3, rz, kvs, k, ea, ey, hl, q3, q4⟩ => Calls.spliced_nil ?_))))
  subst ey
  exact d_setd I3 ea ry rz hl (fun v w' s4 l I4 rw' => ⟨v, H3, I4, rw', q3 v l⟩) fun l s4 I4 => ⟨z, _, I4, rz, q4 l⟩
end
section
variable {K : PySem.W.Frag} {X : Cx} {b : Bool} {o e f : Expr} {apos cpos pos : Pos} {td ty tx : TD}
theorem isD_of {H : Hp} {S : Sto} {a : Addr} {kvs : List (Key × D)} (hS : Rs K S H) (e : S a = some (.dct kvs)) : IsD H a := by
  obtain ⟨vs, e1, _⟩ := hS.dct e
  exact .inl ⟨vs, .inl e1⟩
theorem dget_d {H : Hp} {S : Sto} {a : Addr} {kvs : List (Key × D)} {k : Key} {d : D} {v : V} (hS : Rs K S H) (e : S a = some (.dct kvs)) (r : Rv K H d v) : ∃ o, DGet H a (kV k) o ∧ Rv K H ((dval kvs k).getD d) (o.getD v) := by
  obtain ⟨o, g, h1, h2⟩ := dget_of (k := k) hS e
  refine ⟨o, g, ?_⟩
  cases q : dval kvs k with
  | none =>
    rw [q] at h1
    cases o with
    | none => exact r
    | some _ => cases h1
  | some d' =>
    obtain ⟨v', rfl, r'⟩ := h2 d' q
    exact r'
def dGet2 (td ty tx : TD) : TD := fun σ S R Z => td σ S (fun x S1 => ∃ a kvs, x = .ref a ∧ S1 a = some (.dct kvs) ∧ ty σ S1 (fun y S2 => tx σ S2 (fun z S3 => ∃ kvs k, S3 a = some (.dct kvs) ∧ keyD y = some k ∧ R ((dval kvs k).getD z) S3) Z) Z) Z
theorem mg2 (hu : X.A.units + 64 < cLine) (ho : DE K X o td) (he : DE K X e ty) (hf : DE K X f tx) (m : M2 X o "get" apos e f cpos := by exact ⟨rfl, rfl, rfl, rfl⟩) : DE K X (.Call (.Attribute o "get" apos) [e, f] [] cpos) (dGet2 td ty tx) :=
  ⟨fun y => (pe_dget2 (X := y.cx) (by show X.A.units + 1 < cLine; omega) (ho.of y) (he.of y) (hf.of y) ⟨m.base, m.few, m.line, m.trees⟩).mono fun τ H Q ⟨σ, S, R, Z, hσ, hS, q, hR, hZ⟩ =>
    ⟨σ, S, _, Z, hσ, hS, q, fun x S1 xv H1 ⟨a, kvs, e1, e2, r1⟩ v1 s1 k1 => by
      subst e1
      exact ⟨a, v1.ref, isD_of s1 e2, σ, S1, _, Z, hσ.ts k1, s1, r1, fun y S2 yv H2 r2 v2 s2 k2 => ⟨σ, S2, _, Z, hσ.ts (k1.trans k2), s2, r2, fun z S3 zv H3 ⟨kvs, k, e3, e4, r3⟩ v3 s3 k3 => by
        obtain ⟨o, g, r⟩ := dget_d (k := k) s3 e3 v3
        exact ⟨o, by rw [keyD_v e4 v2]; exact g, (hR.kp ((k1.trans k2).trans k3)).now s3 r3 r⟩, hZ.kp (k1.trans k2)⟩, hZ.kp k1⟩, hZ⟩⟩
def dPop1 (td ty : TD) : TD := fun σ S R Z => td σ S (fun x S1 => ∃ a kvs, x = .ref a ∧ S1 a = some (.dct kvs) ∧ ty σ S1 (fun y S2 => ∃ kvs k d, S2 a = some (.dct kvs) ∧ keyD y = some k ∧ dval kvs k = some d ∧ R d (S2.set a (.dct (ddrop kvs k)))) Z) Z
theorem mp1 (ho : DE K X o td) (he : DE K X e ty) (m : M1 X o "pop" apos e cpos := by exact ⟨rfl, rfl, rfl, rfl⟩) : DE K X (.Call (.Attribute o "pop" apos) [e] [] cpos) (dPop1 td ty) :=
  ⟨fun y => (pe_dpop1 (X := y.cx) (ho.of y) (he.of y) ⟨m.base, m.few, m.line, m.trees⟩).mono fun τ H Q ⟨σ, S, R, Z, hσ, hS, q, hR, hZ⟩ =>
    ⟨σ, S, _, Z, hσ, hS, q, fun x S1 xv H1 ⟨a, kvs, e1, e2, r1⟩ v1 s1 k1 => by
      subst e1
      exact ⟨a, v1.ref, isD_of s1 e2, σ, S1, _, Z, hσ.ts k1, s1, r1, fun y S2 yv H2 ⟨kvs, k, d, e3, e4, e5, r2⟩ v2 s2 k2 => by
        obtain ⟨vs, e6, t⟩ := s2.dct e3
        obtain ⟨v, e7, r7⟩ := (t.val k).1 d e5
        have kk := s2.ts_put (o := .dK (dropK vs k)) e3
        exact ⟨vs, k, v, e6, keyD_v e4 v2, e7, hR _ _ _ _ r2 (Rv.ts kk _ r7) (s2.put (c := .dct _) e3 ⟨_, upd_same, (t.drop k).ts kk⟩) ((k1.trans k2).trans kk)⟩, hZ.kp k1⟩, hZ⟩⟩
def dSetd (td ty tx : TD) : TD := fun σ S R Z => td σ S (fun x S1 => ∃ a kvs, x = .ref a ∧ S1 a = some (.dct kvs) ∧ ty σ S1 (fun y S2 => tx σ S2 (fun z S3 => ∃ kvs k, S3 a = some (.dct kvs) ∧ keyD y = some k ∧ kvs.length < sizeLine ∧
  (∀ d, dval kvs k = some d → R d S3) ∧ (dval kvs k = none → R z (S3.set a (.dct (dput kvs k z))))) Z) Z) Z
theorem ms2 (ho : DE K X o td) (he : DE K X e ty) (hf : DE K X f tx) (m : M2 X o "setdefault" apos e f cpos := by exact ⟨rfl, rfl, rfl, rfl⟩) : DE K X (.Call (.Attribute o "setdefault" apos) [e, f] [] cpos) (dSetd td ty tx) :=
  ⟨fun y => (pe_dsetd (X := y.cx) (ho.of y) (he.of y) (hf.of y) ⟨m.base, m.few, m.line, m.trees⟩).mono fun τ H Q ⟨σ, S, R, Z, hσ, hS, q, hR, hZ⟩ =>
    ⟨σ, S, _, Z, hσ, hS, q, fun x S1 xv H1 ⟨a, kvs, e1, e2, r1⟩ v1 s1 k1 => by
      subst e1
      exact ⟨a, v1.ref, isD_of s1 e2, σ, S1, _, Z, hσ.ts k1, s1, r1, fun y S2 yv H2 r2 v2 s2 k2 => ⟨σ, S2, _, Z, hσ.ts (k1.trans k2), s2, r2, fun z S3 zv H3 ⟨kvs, k, e3, e4, hl, r3, r4⟩ v3 s3 k3 => by
        obtain ⟨vs, e6, t⟩ := s3.dct e3
        have kk := s3.ts_put (o := .dK (putK vs k zv)) e3
        have hR3 := hR.kp ((k1.trans k2).trans k3)
        refine ⟨vs, k, e6, keyD_v e4 (Rv.ts k3 _ v2), by rw [t.len]; exact hl, fun v hv => ?_, fun hn => ?_⟩
        · cases q : dval kvs k with
          | none => rw [(t.val k).2 q] at hv; cases hv
          | some d =>
            obtain ⟨v', e7, r7⟩ := (t.val k).1 d q
            rw [e7] at hv; cases hv
            exact hR3.now s3 (r3 d q) r7
        · cases q : dval kvs k with
          | some d => obtain ⟨v', e7, r7⟩ := (t.val k).1 d q; rw [e7] at hn; cases hn
          | none => exact hR3 _ _ _ _ (r4 q) (Rv.ts kk _ v3) (s3.put (c := .dct _) e3 ⟨_, upd_same, (t.put k v3).ts kk⟩) kk, hZ.kp (k1.trans k2)⟩, hZ.kp k1⟩, hZ⟩⟩
def fset (f : Str) (d : D) : List (Str × D) → List (Str × D)
  | [] => [(f, d)]
  | (g, x) :: r => if g = f then (g, d) :: r else (g, x) :: fset f d r
theorem RvKs.fset {H : Hp} {f : Str} {d : D} {v : V} (rd : Rv K H d v) : ∀ {ks : List (Str × D)} {vs : List (Str × V)}, RvKs K H ks vs → RvKs K H (fset f d ks) (putF f v vs)
  | _, _, .nil => .cons ⟨rfl, rd⟩ .nil
  | (g, x) :: r, (g', y) :: r', .cons h t => by
    obtain ⟨e, h⟩ := h
    dsimp only at e
    subst e
    show RvKs K H (if g = f then (g, d) :: r else (g, x) :: L2.fset f d r) (if g = f then (g, v) :: r' else (g, y) :: putF f v r')
    by_cases q : g = f
    · rw [if_pos q, if_pos q]; exact .cons ⟨rfl, rd⟩ t
    · rw [if_neg q, if_neg q]; exact .cons ⟨rfl, h⟩ (RvKs.fset rd t)
def dFset (C : Addr) (f : Str) (ta tv : TD) : TSD := fun De σ S Z => tv σ S (fun y S1 => ta σ S1 (fun x S2 => ∃ a fs, x = .ref a ∧ S2 a = some (.ins C fs) ∧ fs.length < 1000 ∧ De.nx σ (S2.set a (.ins C (fset f y fs)))) (Z σ)) (Z σ)
theorem sf {C : Addr} {f : Str} {value : Expr} {ta tv : TD} {pos' : Pos} (c : Cls K C) (n : NoAttr K C f) (ha : DE K X o ta) (hv : DE K X value tv) (hs : swapsWith value (some (.Attribute o f pos')) pos.line X.env = pure false := by rfl) (hK : X.K = K := by rfl) :
    DS K X b (.Assign [.Attribute o f pos'] value pos) (dFset C f ta tv) := by
  subst hK
  exact ⟨fun y => (ps_fld (X := y.cx) (ha.of y) (hv.of y) hs).mono fun D τ H ⟨σ, S, De, Z, hσ, hS, q, hD, hZ⟩ =>
    ⟨σ, S, _, _, hσ, hS, q, fun y S1 yv H1 r1 v1 s1 k1 => ⟨σ, S1, _, _, hσ.ts k1, s1, r1, fun x S2 xv H2 ⟨a, fs, e1, e2, hl, r2⟩ v2 s2 k2 => by
      subst e1
      obtain ⟨dx, vs, e4, t4⟩ := s2.ins e2
      have kk := s2.ts_put (o := .ins C dx (putF f yv vs)) e2
      exact ⟨a, C, dx, vs, v2.ref, e4, c, n, by rw [t4.len]; exact hl, hD.nx _ _ _ _ r2 (hσ.ts ((k1.trans k2).trans kk)) (s2.put (c := .ins C _) e2 ⟨dx, _, upd_same, (RvKs.fset (Rv.ts k2 _ v1) t4).ts kk⟩) ((k1.trans k2).trans kk)⟩, hZ.on k1 (hσ.ts k1)⟩, hZ.at hσ⟩⟩
def dRaise (C : Addr) (t : TDa) : TSD := fun _ σ S Z => t σ S (fun ds S1 => ds.length ≤ sizeLine ∧ Z σ C S1) (Z σ)
end
end L2
namespace L2
open PySem PySem.Spec PyProof.Rows
section
variable {K : PySem.W.Frag} {X : Cx} {C : Addr} {x : Str} {e : Expr} {es : List Expr} {np cpos pos : Pos}
theorem ps_raiseA {t : TA} {y : Ev X true} (hc : X.calm = true) (c : XC X.K C) (hg : Gl X x) (hm : X.mg x = some (.ref C)) (ha : PA y.cx (e :: es) t) (hdb : (x == ("__debug__" : Str)) = false)
    (he : starEach (e :: es) X.env = (false, eval e X.env) :: starEach es X.env) (hpl : (backTo cpos (starEach es X.env)).any (·.1) = false) :
    PS y.cx (.Raise (some (.Call (.Name x np) (e :: es) [] cpos)) none pos) (fun _ σ H => t σ H fun vs H1 => vs.length ≤ sizeLine ∧ y.E σ (.ref C) none H1) := by
  intro pins s σ H D I h
  obtain ⟨bm, N, nm, q, bs, hdct, sn, sub, ab, col, dd, k0, k1, k2, k3, k5, mN, hC, hN, hni, T⟩ := c.at I.mod.kin
  have hbase : bm.contains (.type "BaseException") = true := T.hasType (by decide)
  refine wpAny_Raise_call_subT (C := C) (nm := nm) (q := q) (N := N) (bs := bs) (bm := bm) (hdct := hdct) (sn := sn) (sub := sub) (ab := ab) (col := col) (dd := dd) (k0 := k0) (k1 := k1) (k2 := k2) (k3 := k3) (k5 := k5) PySem.F.excBase_ValueError (mN := mN)
    hbase (I.ok.hd hc) (by show ((backTo cpos (starEach (e :: es) X.env)).any (·.1)) = false; rw [he]; show (false || (backTo cpos (starEach es X.env)).any (·.1)) = false; rw [hpl]; rfl) hni (ld_glob I hg hm ⟨rfl, ?_⟩ hdb)
  have h1 := ha cpos pins s σ H _ I h
  have he' : starEach (e :: es) y.cx.env = (false, eval e X.env) :: starEach es X.env := he
  rw [he'] at h1 ⊢
  exact Calls.evalArgs_plain (thn h1 fun us s2 ⟨vs, H2, I2, r, z, q2⟩ => ⟨rfl, by show us.length ≤ sizeLine; rw [← r.length]; exact z, I2.bk _ _ hC, hN.keeps I2.bk, T.keeps I2.bk, fun h' a hx => y.ok.own rfl pins σ H2 s2 h' a _ _ I2 hx q2⟩)
theorem sra {t : TDa} (c : XC K C) (hm : X.mg x = some (.ref C)) (ha : DA K X (e :: es) t) (hg : Gl X x := by rfl) (hdb : (x == ("__debug__" : Str)) = false := by decide)
    (he : starEach (e :: es) X.env = (false, eval e X.env) :: starEach es X.env := by rfl) (hpl : (backTo cpos (starEach es X.env)).any (·.1) = false := by rfl) (hc : X.calm = true := by rfl) (hK : X.K = K := by rfl) :
    DS K X true (.Raise (some (.Call (.Name x np) (e :: es) [] cpos)) none pos) (dRaise C t) := by
  subst hK
  exact ⟨fun y => (ps_raiseA (y := y) hc c hg hm (ha.of y) hdb he hpl).mono fun D τ H ⟨σ, S, De, Z, hσ, hS, q, hD, hZ⟩ =>
    ⟨σ, S, _, _, hσ, hS, q, fun ds S1 vs H1 ⟨hl, r1⟩ v1 s1 k1 => ⟨by rw [v1.len]; exact hl, hZ.at hσ C S1 H1 r1 s1 k1⟩, hZ.at hσ⟩⟩
end
structure ItD where
  xs : List D
  ok : Sto → Prop
def ItOk (K : PySem.W.Frag) (H0 : Hp) (J : It) (I : ItD) : Prop := ∀ i S H, Kp K H0 H → Rs K S H → I.ok S → (∀ d, I.xs[i]? = some d → J.go i H ∧ ∀ x H', J.yld i H x H' → Rv K H' d x ∧ Kp K H H' ∧ Rs K S H') ∧ (I.xs.length ≤ i → J.stop i H)
abbrev TDi := SD → Sto → (ItD → Sto → Prop) → KX → Prop
def Ti (K : PySem.W.Frag) (E : St → XK) (t : TDi) : TI := fun τ H R => ∃ σ S RI Z, Rst K H σ τ ∧ Rs K S H ∧ t σ S RI Z ∧ (∀ I S' J H', RI I S' → ItOk K H' J I → Rs K S' H' → Kp K H H' → R J H') ∧ CnX K H Z (E τ)
structure DI (K : PySem.W.Frag) (X : Cx) (tg it : Expr) (t : TDi) : Prop where
  of : ∀ {b : Bool} (y : Ev X b), PI y.cx tg it (Ti K y.E t)
theorem PI.mono {X : Cx} {tg it : Expr} {t t' : TI} (h : PI X tg it t) (i : ∀ τ H R, t' τ H R → t τ H R) : PI X tg it t' := fun pins s τ H R I q => h pins s τ H R I (i τ H R q)
section
variable {K : PySem.W.Frag} {X : Cx} {tg l : Expr}
def iLst (t : TD) : TDi := fun σ S R Z => t σ S (fun x S1 => ∃ ds, SqD S1 x ds ∧ R ⟨ds, fun S => SqD S x ds⟩ S1) Z
theorem il {t : TD} (h : DE K X l t) (hK : X.K = K := by rfl) : DI K X tg l (iLst t) := by
  subst hK
  exact ⟨fun y => (pi_list (X := y.cx) (h.of y)).mono fun τ H R ⟨σ, S, RI, Z, hσ, hS, q, hR, hZ⟩ => ⟨σ, S, _, Z, hσ, hS, q, fun x S1 v H1 ⟨ds, h1, r1⟩ v1 s1 k1 => by
    obtain ⟨a, xs, rfl, hq, t⟩ := h1.at s1 v1
    refine ⟨a, rfl, ⟨xs, hq⟩, hR _ S1 _ H1 r1 (fun i S2 H2 k2 s2 ok2 => ?_) s1 k1⟩
    obtain ⟨a', xs', e', hq', t'⟩ := SqD.at ok2 s2 (Rv.ts k2 _ v1)
    cases e'
    refine ⟨fun d hd => ?_, fun hl => ⟨xs', hq', by rw [t'.len]; exact hl⟩⟩
    obtain ⟨v, e1, r⟩ := t'.get hd
    refine ⟨⟨xs', v, hq', e1⟩, fun x' H' ⟨e2, e3⟩ => ?_⟩
    subst e2
    have := e3 xs' hq'
    rw [e1] at this; cases this
    exact ⟨r, .refl _, s2⟩, hZ⟩⟩
def iTupD (t : TD) : TDi := fun σ S R Z => t σ S (fun x S1 => ∃ ds, (x = .tup ds ∨ x = .kt ds) ∧ R ⟨ds, fun _ => True⟩ S1) Z
theorem tup_at {H : Hp} {x : D} {ds : List D} {v : V} (h : x = .tup ds ∨ x = .kt ds) (r : Rv K H x v) : ∃ a xs, v = .ref a ∧ (∀ H', Kp K H H' → SqT K H' a xs) ∧ RvAll K H ds xs := by
  rcases h with rfl | rfl
  · obtain ⟨a, xs, rfl, q, t⟩ := r.tup
    exact ⟨a, xs, rfl, fun H' k => .of (k.t _ _ q), t⟩
  · obtain ⟨a, xs, rfl, q, t⟩ := r.kt
    exact ⟨a, xs, rfl, fun H' k => .inr q, t⟩
theorem itp {t : TD} (h : DE K X l t) (hK : X.K = K := by rfl) : DI K X tg l (iTupD t) := by
  subst hK
  exact ⟨fun y => (pi_tup (X := y.cx) (h.of y)).mono fun τ H R ⟨σ, S, RI, Z, hσ, hS, q, hR, hZ⟩ => ⟨σ, S, _, Z, hσ, hS, q, fun x S1 v H1 ⟨ds, h1, r1⟩ v1 s1 k1 => by
    obtain ⟨a, xs, rfl, hq, t⟩ := tup_at h1 v1
    refine ⟨a, rfl, ⟨xs, hq _ (.refl _)⟩, hR _ S1 _ H1 r1 (fun i S2 H2 k2 s2 _ => ?_) s1 k1⟩
    have hq2 := hq H2 k2
    refine ⟨fun d hd => ?_, fun hl => ⟨xs, hq2, by rw [t.len]; exact hl⟩⟩
    obtain ⟨v, e1, r⟩ := (RvAll.ts k2 _ t).get hd
    refine ⟨⟨xs, v, hq2, e1⟩, fun x' H' ⟨e2, e3⟩ => ?_⟩
    subst e2
    have := e3 xs hq2
    rw [e1] at this; cases this
    exact ⟨r, .refl _, s2⟩, hZ⟩⟩
def rngD (lo : Int) (n : Nat) : List D := (List.range n).map fun i => D.int (lo + (i : Nat))
theorem rngD_len {lo : Int} {n : Nat} : (rngD lo n).length = n := by unfold rngD; rw [List.length_map, List.length_range]
theorem rngD_get {lo : Int} {n i : Nat} {d : D} (h : (rngD lo n)[i]? = some d) : i < n ∧ d = .int (lo + i) := by
  unfold rngD at h
  rw [List.getElem?_map] at h
  by_cases q : i < n
  · rw [List.getElem?_range q] at h; exact ⟨q, (Option.some.inj h).symm⟩
  · rw [List.getElem?_eq_none (by rw [List.length_range]; omega)] at h; cases h
theorem itr_ok {H0 : Hp} {lo : Int} {n : Nat} : ItOk K H0 (Itr lo n) ⟨rngD lo n, fun _ => True⟩ := fun i S H k s _ => ⟨fun d hd => by
  obtain ⟨h1, rfl⟩ := rngD_get hd
  exact ⟨h1, fun x H' ⟨e1, e2⟩ => by subst e1 e2; exact ⟨rv_int _, .refl _, s⟩⟩, fun hl => by rw [rngD_len] at hl; exact hl⟩
def iRng (t : TDa) : TDi := fun σ S R Z => t σ S (fun ds S1 => ∃ j : Int, ds = [.int j] ∧ -(2 ^ 62) ≤ j ∧ j < 2 ^ 62 ∧ R ⟨rngD 0 j.toNat, fun _ => True⟩ S1) Z
theorem ir1 {a : Expr} {t : TDa} {p pos : Pos} (hm : X.mg "range" = none) (ha : DA K X [a] t) (hg : Gl X "range" := by rfl) (hs : starEach [a] X.env = [(false, eval a X.env)] := by rfl) : DI K X tg (.Call (.Name "range" p) [a] [] pos) (iRng t) :=
  ⟨fun y => (pi_range1 (X := y.cx) hg hm (ha.of y) hs).mono fun τ H R ⟨σ, S, RI, Z, hσ, hS, q, hR, hZ⟩ => ⟨σ, S, _, Z, hσ, hS, q, fun ds S1 vs H1 ⟨j, e, h1, h2, r1⟩ v1 s1 k1 => by
    subst e
    obtain ⟨v, rfl, r⟩ := v1.one
    exact ⟨j, by rw [r.int], h1, h2, hR _ S1 _ H1 r1 itr_ok s1 k1⟩, hZ⟩⟩
def iRngB (t : TDa) : TDi := fun σ S R Z => t σ S (fun ds S1 => ∃ i j : Int, ds = [.int i, .int j] ∧ (-(2 ^ 62) ≤ i ∧ i < 2 ^ 62 ∧ -(2 ^ 62) ≤ j ∧ j < 2 ^ 62) ∧ R ⟨rngD i (j - i).toNat, fun _ => True⟩ S1) Z
theorem ir2 {a c : Expr} {t : TDa} {p pos : Pos} (hm : X.mg "range" = none) (ha : DA K X [a, c] t) (hg : Gl X "range" := by rfl) (hs : starEach [a, c] X.env = [(false, eval a X.env), (false, eval c X.env)] := by rfl) (hs2 : starEach [c] X.env = [(false, eval c X.env)] := by rfl) :
    DI K X tg (.Call (.Name "range" p) [a, c] [] pos) (iRngB t) :=
  ⟨fun y => (pi_range2 (X := y.cx) hg hm (ha.of y) hs hs2).mono fun τ H R ⟨σ, S, RI, Z, hσ, hS, q, hR, hZ⟩ => ⟨σ, S, _, Z, hσ, hS, q, fun ds S1 vs H1 ⟨i, j, e, h1, r1⟩ v1 s1 k1 => by
    subst e
    obtain ⟨v, u, rfl, r, r'⟩ := v1.two
    exact ⟨i, j, by rw [r.int, r'.int], h1, hR _ S1 _ H1 r1 itr_ok s1 k1⟩, hZ⟩⟩
end
section
variable {K : PySem.W.Frag} {X : Cx} {tg iter : Expr} {pos : Pos}
def dFor (ti : TDi) (g : TGd) (tb : TSD) : TSD := fun De σ S Z => ti σ S (fun I S1 => ∃ P : Nat → SD → Sto → Prop, P 0 σ S1 ∧ (∀ i σ S, P i σ S → I.ok S) ∧
  (∀ i d σ S, I.xs[i]? = some d → P i σ S → g d σ S fun σ2 S2 => tb { De with nx := P (i + 1), ct := P (i + 1), bk := De.nx } σ2 S2 Z) ∧ ∀ σ S, P I.xs.length σ S → De.nx σ S) (Z σ)
theorem sfo {body : List Stmt} {ti : TDi} {g : TGd} {tb : TSD} (hi : DI K X tg iter ti) (hg : DG K X tg g) (hb : DSs K X true body tb) (hs : ∀ x, foldedSetIterable iter X.env x = pure x := by intro _; rfl) (hc : X.calm = true := by rfl) : DS K X true (.For tg iter body [] pos) (dFor ti g tb) :=
  ⟨fun y => (ps_for (X := y.cx) (y.ok.loop rfl) hc (hi.of y) (hg.of _ rfl rfl rfl rfl rfl) (hb.of y) hs).mono fun D τ H ⟨σ, S, De, Z, hσ, hS, q, hD, hZ⟩ =>
    ⟨σ, S, _, _, hσ, hS, q, fun I S1 J H1 ⟨P, p0, pok, pst, pend⟩ hJ s1 k1 => by
      refine ⟨fun i m τ H => m = I.xs.length - i ∧ i ≤ I.xs.length ∧ ∃ σ S, Rst K H σ τ ∧ Rs K S H ∧ P i σ S ∧ Kp K H1 H, ⟨_, rfl, Nat.zero_le _, σ, S1, hσ.ts k1, s1, p0, .refl _⟩, ?_⟩
      rintro i m τ2 H2 ⟨rfl, hi2, σ2, S2, a2, s2, p2, k2⟩
      have ok := hJ i S2 H2 k2 s2 (pok _ _ _ p2)
      by_cases hlt : i < I.xs.length
      · obtain ⟨go, yl⟩ := ok.1 _ (List.getElem?_eq_getElem hlt)
        refine .inr ⟨go, fun τ' H' => i + 1 ≤ I.xs.length ∧ ∃ σ S, Rst K H' σ τ' ∧ Rs K S H' ∧ P (i + 1) σ S ∧ Kp K H1 H', fun σ' H' h' => ⟨_, by omega, rfl, h'⟩, fun x H' hy => ?_⟩
        obtain ⟨rx, k3, s3⟩ := yl x H' hy
        refine ⟨_, σ2, S2, _, rx, a2.ts k3, s3, pst i _ σ2 S2 (List.getElem?_eq_getElem hlt) p2, fun σ4 S4 τ4 H4 r4 a4 s4 k4 => ?_⟩
        have kk := (k2.trans k3).trans k4
        exact ⟨σ4, S4, _, Z, a4, s4, r4, ⟨fun σ5 S5 τ5 H5 r5 a5 s5 k5 => ⟨hlt, σ5, S5, a5, s5, r5, kk.trans k5⟩, hD.rt.kp (k1.trans kk), (hD.nx.kp (k1.trans kk)), fun σ5 S5 τ5 H5 r5 a5 s5 k5 => ⟨hlt, σ5, S5, a5, s5, r5, kk.trans k5⟩⟩, hZ.kp (k1.trans kk)⟩
      · have e : i = I.xs.length := by omega
        subst e
        exact .inl ⟨ok.2 (Nat.le_refl _), hD.nx _ _ _ _ (pend _ _ p2) a2 s2 (k1.trans k2)⟩, hZ.at hσ⟩⟩
end
def pickD (σ : SD) (src : List (Option Nat)) : SD := src.map fun o => match o with | some j => (σ[j]?).join | none => none
theorem Rst.pick {K : PySem.W.Frag} {H : Hp} {σ : SD} {τ : St} (h : Rst K H σ τ) : ∀ src : List (Option Nat), Rst K H (pickD σ src) (pick τ src)
  | [] => .nil
  | o :: r => .cons (fun d e => by
    cases o with
    | none => cases e
    | some j =>
      dsimp only at e ⊢
      cases q : σ[j]? with
      | none => rw [q] at e; cases e
      | some o' =>
        rw [q] at e
        obtain rfl : o' = some d := e
        obtain ⟨v, e1, r1⟩ := h.get q
        exact ⟨v, by rw [e1]; rfl, r1⟩) (Rst.pick h r)
def Zf : KX := fun _ _ => False
def CompP (σ : SD) (src : List (Option Nat)) (g : TGd) (tc : TDt) (te : TD) (R : KD) (I : ItD) (S1 : Sto) : Prop := ∃ P : Nat → List D → Sto → Prop, P 0 [] S1 ∧ (∀ i out S, P i out S → I.ok S) ∧
  (∀ i d out S, I.xs[i]? = some d → P i out S → out.length < sizeLine ∧ g d (pickD σ src) S fun σ3 S3 => tc σ3 S3 (fun b S4 => if b = true then te σ3 S4 (fun v S5 => P (i + 1) (out ++ [v]) S5) Zf else P (i + 1) out S4) Zf) ∧
  ∀ out S2, P I.xs.length out S2 → ∀ p, S2 p = none → R (.ref p) (S2.set p (.lst out))
def dComp (ti : TDi) (src : List (Option Nat)) (g : TGd) (tc : TDt) (te : TD) : TD := fun σ S R Z => ti σ S (fun I S1 => CompP σ src g tc te R I S1) Z
theorem CnX.f {K : PySem.W.Frag} {H : Hp} {e : XK} : CnX K H Zf e := fun _ _ _ z => z.elim
theorem T.comp {K : PySem.W.Frag} {E E' : St → XK} {ti : TDi} {src : List (Option Nat)} {g : TG} {gd : TGd} {tc : TDt} {te : TD} {τ : St} {H : Hp} {Q : VK} (hg : ∀ v τ H Q, Tg K gd v τ H Q → g v τ H Q)
    (h : T K E (dComp ti src gd tc te) τ H Q) : tComp (Ti K E ti) src g (Tt K E' tc) (T K E' te) τ H Q := by
  obtain ⟨σ, S, R, Z, hσ, hS, q, hR, hZ⟩ := h
  refine ⟨σ, S, _, Z, hσ, hS, q, fun I S1 J H1 ⟨P, p0, pok, pst, pend⟩ hJ s1 k1 => ?_, hZ⟩
  refine ⟨fun i m out H => m = I.xs.length - i ∧ i ≤ I.xs.length ∧ ∃ ds S, RvAll K H ds out ∧ Rs K S H ∧ P i ds S ∧ Kp K H1 H, ⟨_, rfl, Nat.zero_le _, [], S1, ra_nil, s1, p0, .refl _⟩, ?_⟩
  rintro i m out H2 ⟨rfl, hi2, ds, S2, v2, s2, p2, k2⟩
  have ok := hJ i S2 H2 k2 s2 (pok _ _ _ p2)
  by_cases hlt : i < I.xs.length
  · obtain ⟨go, yl⟩ := ok.1 _ (List.getElem?_eq_getElem hlt)
    obtain ⟨hz, st⟩ := pst i _ ds S2 (List.getElem?_eq_getElem hlt) p2
    refine .inr ⟨go, by rw [v2.len]; exact hz, fun x H' hy => ?_⟩
    obtain ⟨rx, k3, s3⟩ := yl x H' hy
    refine hg _ _ _ _ ⟨_, _, S2, _, rx, (((hσ.ts k1).ts k2).ts k3).pick src, s3, st, fun σ4 S4 τ4 H4 r4 a4 s4 k4 => ?_⟩
    refine ⟨σ4, S4, _, Zf, a4, s4, r4, fun c S5 H5 r5 s5 k5 => ?_, .f⟩
    cases c with
    | true =>
      rw [if_pos rfl] at r5 ⊢
      exact ⟨σ4, S5, _, Zf, a4.ts k5, s5, r5, fun d S6 v H6 r6 v6 s6 k6 => ⟨_, by omega, rfl, hlt, ds ++ [d], S6, (RvAll.ts (((k3.trans k4).trans k5).trans k6) _ v2).app (ra_cons v6 ra_nil), s6, r6, (((k2.trans k3).trans k4).trans k5).trans k6⟩, .f⟩
    | false =>
      rw [if_neg Bool.false_ne_true] at r5 ⊢
      exact ⟨_, by omega, rfl, hlt, ds, S5, RvAll.ts ((k3.trans k4).trans k5) _ v2, s5, r5, ((k2.trans k3).trans k4).trans k5⟩
  · have e : i = I.xs.length := by omega
    subst e
    exact .inl ⟨ok.2 (Nat.le_refl _), fun p hp => (hR.kp (k1.trans k2)).new s2 hp (pend _ _ p2 p) v2⟩
def Ev.none (X : Cx) (h : X.xe = fun _ _ => False) : Ev X false := ⟨X.pn, X.xe, fun _ => E0, ⟨fun p2 τ H s e s' _ ⟨_, _, _, _, _, _, _, _, _, z⟩ => z.elim, fun e => (by cases e), fun e => (by cases e)⟩⟩
section
variable {K : PySem.W.Frag} {X : Cx} {b : Bool} {N : List Str} {src : List (Option Nat)} {scope : Scope} {tg iter elt : Expr} {ifs : List Expr} {pos : Pos} {ti : TDi} {g : TG} {gd : TGd} {tc : TDt} {te : TD}
structure DIf (K : PySem.W.Frag) (X : Cx) (ifs : List Expr) (t : TDt) : Prop where
  of : ∀ {b : Bool} (y : Ev X b), PIf y.cx ifs (Tt K y.E t)
def dTrue : TDt := fun _ S R _ => R true S
theorem if0 : DIf K X [] dTrue := ⟨fun y pins s τ H Q I ⟨σ, S, R, Z, hσ, hS, q, hR, hZ⟩ => pif_nil pins s τ H Q I (hR true S H q hS (.refl _))⟩
theorem if1 {c : Expr} {t : TDt} (h : DT K X c t) : DIf K X [c] t := ⟨fun y => pif_one (h.of y)⟩
theorem eco (S : CompScope X N src scope) (hit : DI K X tg iter ti) (hg : ∀ C s H ex pn, PG (cxC X N scope C s H ex pn) tg g) (hx : GExt g src) (hgd : ∀ v τ H Q, Tg K gd v τ H Q → g v τ H Q)
    (hi : ∀ C s H ex pn, DIf K (cxC X N scope C s H ex pn) ifs tc) (he : ∀ C s H ex pn, DE K (cxC X N scope C s H ex pn) elt te)
    (hs : ∀ x, foldedSetIterable iter X.env x = pure x := by intro _; rfl) (hc : X.calm = true := by rfl) : DE K X (.ListComp elt [⟨tg, iter, ifs, 0⟩] scope pos) (dComp ti src gd tc te) :=
  ⟨fun y => (pe_comp (X := y.cx) (tc := Tt K (fun _ => E0) tc) (te := T K (fun _ => E0) te) ⟨S.kind, S.nocell, S.loc, S.fre, S.len, S.src⟩ hc (hit.of y) hg hx (fun C s H ex pn => (hi C s H ex pn).of (.none _ rfl)) (fun C s H ex pn => (he C s H ex pn).of (.none _ rfl)) hs).mono fun _ _ _ h => h.comp hgd⟩
theorem stc {i : Nat} {x : Str} {pos' spos : Pos} (hN : X.N.Nodup) (S : CompScope X N src scope) (hit : DI K X tg iter ti) (hg : ∀ C s H ex pn, PG (cxC X N scope C s H ex pn) tg g) (hx : GExt g src) (hgd : ∀ v τ H Q, Tg K gd v τ H Q → g v τ H Q)
    (hi : ∀ C s H ex pn, DIf K (cxC X N scope C s H ex pn) ifs tc) (he : ∀ C s H ex pn, DE K (cxC X N scope C s H ex pn) elt te) (hix : X.N[i]? = some x := by rfl) (hlx : X.env.scope.names.lookup x = some .local := by rfl)
    (hsw : swapsWith (.ListComp elt [⟨tg, iter, ifs, 0⟩] scope pos) (some (.Name x pos')) spos.line X.env = pure true := by rfl)
    (hs : ∀ x, foldedSetIterable iter X.env x = pure x := by intro _; rfl) (hc : X.calm = true := by rfl) : DS K X b (.Assign [.Name x pos'] (.ListComp elt [⟨tg, iter, ifs, 0⟩] scope pos) spos) (dSet i (dComp ti src gd tc te)) :=
  ⟨fun y => (ps_setcomp (X := y.cx) (i := i) (tc := Tt K (fun _ => E0) tc) (te := T K (fun _ => E0) te) hN hix hlx ⟨S.kind, S.nocell, S.loc, S.fre, S.len, S.src⟩ hc (hit.of y) hg hx (fun C s H ex pn => (hi C s H ex pn).of (.none _ rfl)) (fun C s H ex pn => (he C s H ex pn).of (.none _ rfl)) hsw hs).mono
    fun D τ H ⟨σ, S, De, Z, hσ, hS, q, hD, hZ⟩ => T.comp hgd ⟨σ, S, _, _, hσ, hS, q, fun d S1 v H1 r1 v1 s1 k1 => hD.nx _ _ _ _ r1 ((hσ.ts k1).set i v1) s1 k1, hZ.at hσ⟩⟩
theorem gd_name {i : Nat} : ∀ v τ H Q, Tg K (gdN i) v τ H Q → gName i v τ H Q := fun v τ H Q ⟨d, σ, S, R, rv, hσ, hS, q, hR⟩ => hR _ S _ H q (hσ.set i rv) hS (.refl _)
end
end L2
namespace L2
open PySem PySem.Spec PyProof.Rows
structure FunV (K : PySem.W.Frag) (x qual : Str) (st : Stmt) (f : Addr) (fd : FuncData) : Prop where
  ex : ∃ (oc : Value) (od : Option Addr) (dV kV doc pm : Value) (an : Option Addr) (cdv ct : Value) (osl : Array (Option Value)),
    fd = PySem.W.fnOf x qual (defArgs st) (defBody st) (defScope st) dV kV doc pm an cdv ct ∧ K.lookup f = some ⟨oc, od, .func fd, osl⟩ ∧ PySem.W.codeIn K cdv qual = true
def startD (N : List Str) (ds : List D) : SD := ds.map some ++ List.replicate (N.length - ds.length) none
section
variable {P : Program} {w : World} {K : PySem.W.Frag} {mg : Str → Option Value} {base : Heap}
theorem FunV.okD {x qual : Str} {st : Stmt} {f : Addr} {fd : FuncData} {N ps : List Str} {k : Nat} {sp : SpD} (F : FunV K x qual st f fd) (S : FnScope N ps (defScope st)) (len : ∀ ds S R Z, sp ds S R Z → ds.length = ps.length)
    (hbody : ∀ (cdv : Value) (A : Around) (outer : List Env) (s : Shared) (H : Hp) (E : XK) (ds : List D) (S : Sto) (R : KD) (Z : KX), Room k (A.deeper (envOfC qual (defScope st) s.heap.objs.size f cdv)) → sp ds S R Z →
      ∃ t, DSs K (cxOf (CXR P w) P w K mg base N qual (defScope st) f cdv A outer s H E) true (defBody st) t ∧ t { nx := fun _ S' => R .non S', rt := R } (startD N ds) S fun _ => Z) : FnOk P w K mg base (CXR P w) (k + 1) f fd ps (SpL K sp) := by
  obtain ⟨oc, od, dV, kV, doc, pm, an, cdv, ct, osl, rfl, lk, hcd⟩ := F.ex
  have hpl : ps.length ≤ N.length := by have := congrArg List.length S.pre; rw [List.length_take] at this; omega
  refine fn_of lk hcd S (fun vs H Q E ⟨ds, S', R, Z, v, _, h, _⟩ => by rw [v.len]; exact len _ _ _ _ h) fun A outer s H vs Q E hr ⟨ds, S', R, Z, v, hS, h, hR, hZ⟩ => ?_
  obtain ⟨t, ht, q⟩ := hbody cdv A outer s H E ds S' R Z hr h
  have L : Leaves (cxOf (CXR P w) P w K mg base N qual (defScope st) f cdv A outer s H E) E := leaves_of
  let y : Ev (cxOf (CXR P w) P w K mg base N qual (defScope st) f cdv A outer s H E) true := ⟨_, (cxOf (CXR P w) P w K mg base N qual (defScope st) f cdv A outer s H E).xe, fun _ => E, ⟨fun p2 τ H1 s1 e s' I h => passE L p2 τ H1 s1 e s' I h, fun _ p2 τ H1 s1 h' a cls args I hx he => made_leaves L I hx he, fun _ => PassesOwn.leaving⟩⟩
  refine ⟨Tl K (fun _ => E) t, ht.of y, startD N ds, S', _, fun _ => Z, ?_, hS, q, ⟨fun σ S1 τ H1 r a b c => hR.kp c |>.now b r rv_non, hR, fun _ _ _ _ z => z.elim, fun _ _ _ _ z => z.elim⟩, fun σ τ C S1 H1 z a b c => hZ C S1 H1 z b c⟩
  unfold startD start
  refine (rst_vals v).app ?_
  rw [v.len]
  exact rst_none _ _ (by rw [List.length_replicate])
theorem FnOk.impD {k : Nat} {f : Addr} {fd : FuncData} {ps : List Str} {sp sp' : SpD} (F : FnOk P w K mg base (CXR P w) k f fd ps (SpL K sp)) (h : ∀ ds S R Z, sp' ds S R Z → sp ds S R Z) : FnOk P w K mg base (CXR P w) k f fd ps (SpL K sp') :=
  F.imp fun vs H Q E ⟨ds, S, R, Z, a, b, c, d⟩ => ⟨ds, S, R, Z, a, b, h _ _ _ _ c, d⟩
theorem FnOk.calm {k : Nat} {f : Addr} {fd : FuncData} {ps : List Str} {sp : Sp} (F : FnOk P w K mg base (CXR P w) k f fd ps sp) : FnOk P w K mg base CX0 k f fd ps fun vs H Q _ => sp vs H Q E0 := by
  refine ⟨fun vs H Q E h => F.len vs H Q E0 h, fun A outer s H args us vs Q E hr e0 hb r h => codeAny_mono (F.run A outer s H args us vs Q E0 hr e0 hb r h) fun res s' q => ?_⟩
  cases res with
  | error e => obtain ⟨_, _, _, _, _, _, _, _, _, z⟩ := q; exact z.elim
  | ok fl => cases fl <;> exact q
end
section
variable {K : PySem.W.Frag} {X : Cx} {b : Bool} {i : Nat} {n x : Str} {C0 : Addr} {body suite : List Stmt} {b₀ : Stmt} {np hpos pos : Pos}
end
section
variable {K : PySem.W.Frag} {X : Cx} {x : Str} {id : String} {e : Expr} {es : List Expr} {p pos : Pos} {t : TDa} {r : List D → Sto → KD → Prop}
end
end L2
namespace L2
open PySem PySem.Spec PyProof.Rows
theorem strs_keys {P : Program} {w : World} : ∀ {ss : List Str} {vs : List Value}, vs.length = ss.length → (∀ (j : Nat) (v : Value), vs[j]? = some v → ∃ x, ss[j]? = some x ∧ keyIs (.inr x) v = true) → StrsAre vs ss
  | [], [], _, _ => .nil
  | [], _ :: _, h, _ => by simp at h
  | _ :: _, [], h, _ => by simp at h
  | x :: ss, v :: vs, h, k => by
    obtain ⟨x', e, q⟩ := k 0 v rfl
    cases e
    rcases keyIs_shape q with ⟨i, t, e, _⟩ | ⟨y, t, e, rfl⟩
    · cases e
    · cases e
      exact .cons x t (strs_keys (P := P) (w := w) (by simpa using h) fun j v e => k (j + 1) v (by simpa using e))
theorem strs_vals : ∀ {vs : List Value} {ss : List Str}, StrsAre vs ss → Vals (ss.map V.str) vs
  | _, _, .nil => .nil
  | _, _, .cons y t h => .cons ⟨t, rfl⟩ (strs_vals h)
theorem KV.keyz {κ : Type} {kvs : List (κ × V)} {vs : List (κ × Value)} (h : KV kvs vs) : vs.map (·.1) = kvs.map (·.1) := by
  unfold KV at h
  induction h with
  | nil => rfl
  | cons r t ih => rw [List.map_cons, List.map_cons, ih, r.1]
theorem collectD {prog : Program} {w : World} {A : Around} {E : Value → Shared → Prop} {s : Shared} {T : String} {r d : Addr} {n : Nat} {P : Nat → Value → Prop} {OK : Heap → Prop} {R : List Value → Shared → Prop} (K : PySem.W.KdlSrc prog w T r d n P OK) (hh : A.handled = none) (hok : OK s.heap) (hn : n ≤ sizeLine)
    (h : ∀ (h' : Heap) (tk : Nat) (acc : Array Value), (∀ b o, s.heap.get? b = some o → h'.get? b = some o) → s.heap.objs.size ≤ h'.objs.size → ItemsOf P acc n → R acc.toList { s with heap := h', toks := tk }) :
    wpAny (model prog w) A (collect (.ref r)) R E s := by
  have hlt := K.there _ hok
  unfold collect
  refine wpAny_bind (wpAny_runValue (codeAny_builtin entry_proto_collect' ?_))
  rw [Around.under_plainId PySem.F.plain_proto_collect _]
  show wpAny _ A.in1 (newList [] >>= fun l => again (.builtin "list.__iadd__" ⟨[l, .ref r], []⟩)) _ _ s
  refine wpAny_bind (wpAny_newObj_type ?_)
  refine wpAny_pure ⟨plainId_quiet PySem.F.plain_list_iadd _, codeAny_builtin entry_list_iadd' ?_⟩
  rw [Around.under_plainId PySem.F.plain_list_iadd _]
  have hS₁ : (s.heap.push { cls := .type "list", data := .seq ([] : List Value).toArray }).get? s.heap.objs.size = some { cls := .type "list", data := .seq #[] } := Heap.get?_push_size _ rfl
  show wpAny _ A.in1 (Builtin.List.listExtendWith (.ref s.heap.objs.size) (.ref r) (.ref s.heap.objs.size)) _ _ _
  have key := PySem.W.kdl_extend (A := A) (s := { s with heap := s.heap.push { cls := .type "list", data := .seq ([] : List Value).toArray } })
    (R := fun (q : Result) (s' : Shared) => ∃ (h' : Heap) (tk : Nat) (acc' : Array Value) (c' : Nat), q = .ok (.ret (.ref s.heap.objs.size)) ∧ s' = { s with heap := h', toks := tk } ∧
      (∀ b o, s.heap.get? b = some o → h'.get? b = some o) ∧ h'.get? s.heap.objs.size = some { cls := .type "list", dict := none, data := .seq acc' c', slots := #[] } ∧ ItemsOf P acc' n)
    K hh (K.keep _ _ hok fun b _ o e => Heap.get?_push_of_some _ e) s.heap.objs.size (Nat.ne_of_gt hlt.1) (Nat.ne_of_gt hlt.2) (.ref s.heap.objs.size) 0 hS₁
    (fun h' tk acc' c' hk hS' hacc => ⟨h', tk, acc', c', rfl, rfl, fun b o e => hk b o (Nat.ne_of_lt (Heap.lt_size e)) (Heap.get?_push_of_some _ e), hS', hacc⟩) hn
  refine wpAny_mono key (fun fin s' x => ?_) fun e s' x => ?_
  · cases fin with
    | done f =>
      obtain ⟨h', tk, acc', c', e, rfl, hk, hS', hacc⟩ := x
      cases e
      show wpAny _ A (load s.heap.objs.size >>= _) _ _ _
      exact wpAny_bind (wpAny_load hS' (wpAny_pure (h h' tk acc' hk (Nat.le_of_lt (Heap.lt_size hS')) hacc)))
    | again c₁ =>
      refine ⟨x.1, codeAny_mono x.2 fun q s₂ y => ?_⟩
      obtain ⟨h', tk, acc', c', rfl, rfl, hk, hS', hacc⟩ := y
      show wpAny _ A (load s.heap.objs.size >>= _) _ _ _
      exact wpAny_bind (wpAny_load hS' (wpAny_pure (h h' tk acc' hk (Nat.le_of_lt (Heap.lt_size hS')) hacc)))
  · obtain ⟨_, _, _, _, e', _⟩ := x
    cases e'
theorem call_sortedD {X : Cx} (hc : X.calm = true) : CallR X (.builtin "sorted") (fun xs H Q => ∃ (a : Addr) (kvs : List (Key × V)) (ss : List Str), xs = [.ref a] ∧ H a = some (.dK kvs) ∧ kvs.map (·.1) = ss.map Sum.inr ∧ kvs.length < 64 ∧
    ∀ ss', ss'.Perm ss → sortedS ss' = true → ∀ l, H l = none → Q (.ref l) (upd H l (.lst (ss'.map V.str)))) := by
  intro pins s σ H xs us Q I r h
  obtain ⟨a, kvs, ss, rfl, e, hk, hl, q⟩ := h
  obtain ⟨u, rfl, ru⟩ := vals1 r
  cases ru
  obtain ⟨z, hd, vs, rel, dd⟩ := dk_of I.hok e
  obtain ⟨ep, hat⟩ := dd.dictAt
  have hlen : vs.length < 64 := by rw [← rel.length]; exact hl
  have hh := I.ok.hd hc
  refine PySem.Calls.call_function_entry kind_sorted plain_sorted entry_sorted (args_sorted1 _) ?_
  unfold Builtin.«sorted»
  refine wpAny_bind (m := checkCount "sorted" 1 1 _) (wpAny_pure ?_)
  refine wpAny_bind (collectD (A := X.A.in1) (PySem.W.kdl_dict (knd := mixKind X.prog X.w) (kvs := vs) (ep := ep) hd) hh hat (by rw [sizeLine_eq]; omega) fun h' tk acc hkp hB hacc => ?_)
  have hl2 : acc.toList.length = vs.length := by rw [Array.length_toList]; exact hacc.1
  refine wpAny_bind (wpAny_newList ?_ (by rw [hl2, sizeLine_eq]; omega))
  have hS : StrsAre acc.toList ss := by
    have hkv := rel.keyz
    refine strs_keys (P := X.prog) (w := X.w) (by rw [hl2, ← rel.length]; have := congrArg List.length hk; simpa using this) fun j v ev => ?_
    obtain ⟨k, x, e1, e2⟩ := hacc.2 j v (by rw [← Array.getElem?_toList]; exact ev)
    have e3 : (vs.map (·.1))[j]? = some k := by rw [List.getElem?_map, e1]; rfl
    rw [hkv, hk, List.getElem?_map] at e3
    cases q2 : ss[j]? with
    | none => rw [q2] at e3; cases e3
    | some y => rw [q2] at e3; cases e3; exact ⟨y, rfl, e2⟩
  have hoL : (h'.push (seqObj "list" acc.toList.toArray 0)).get? h'.objs.size = some (seqObj "list" acc.toList.toArray 0) := Heap.get?_push_size _ rfl
  show wpAny _ _ _ _ _ { s with heap := h'.push (seqObj "list" acc.toList.toArray 0), toks := tk }
  refine wpAny_bind (wpAny_holding (wpAny_call_entry slot_list_sort ⟨_, hoL, rfl⟩ entry_list_sort (list_sort_treeK (s := { s with heap := h'.push (seqObj "list" acc.toList.toArray 0), toks := tk }) strKind_oneLt hoL hS.keysOf (fun v₁ v₂ rest e => keyKind_strs (by rw [← e]; exact hS)) (by rw [hl2]; exact hlen) fun st' hp hs => ⟨_, rfl, ?_⟩) (args_list_sort _)))
  refine wpAny_pure ⟨_, rfl, ?_⟩
  obtain ⟨ss', h1, h2, h3⟩ := sorted_out_str hS hp hs
  obtain ⟨e1, he1⟩ := sortedHeap_at (vs := acc.toList) (n := 0) (out := (arrOf st').map (·.2)) hoL
  have hln : ss'.length ≤ sizeLine := by rw [h2.length_eq, sizeLine_eq]; have := congrArg List.length hk; rw [List.length_map, List.length_map] at this; omega
  refine ⟨.ref h'.objs.size, _, I.laid (a := h'.objs.size) (o := .lst (ss'.map V.str)) (fun b u hb => ?_) hB ⟨by rw [List.length_map]; exact hln, _, e1, strs_vals h1, he1⟩, rfl, q ss' h2 h3 _ (I.hok.fresh hB)⟩
  have hlt := Heap.lt_size (hkp b u hb)
  rw [sortedHeap_old (Nat.ne_of_lt hlt) (by rw [Heap.size_push]; exact Nat.lt_succ_of_lt hlt), Heap.get?_push_of_some _ (hkp b u hb)]
end L2
namespace L2
open PySem PySem.Spec PyProof.Rows
section
variable {K : PySem.W.Frag}
def sortedD : List D → Sto → KD → Prop := fun ds S R => ∃ (a : Addr) (kvs : List (Key × D)) (ss : List Str), ds = [.ref a] ∧ S a = some (.dct kvs) ∧ kvs.map (·.1) = ss.map Sum.inr ∧ kvs.length < 64 ∧
  ∀ ss', ss'.Perm ss → sortedS ss' = true → ∀ p, S p = none → R (.ref p) (S.set p (.lst (ss'.map D.str)))
theorem RvKs.keys {κ : Type} {H : Hp} {ks : List (κ × D)} {vs : List (κ × V)} (h : RvKs K H ks vs) : vs.map (·.1) = ks.map (·.1) := by
  unfold RvKs at h
  induction h with
  | nil => rfl
  | cons r t ih => rw [List.map_cons, List.map_cons, ih, r.1]
theorem c_sorted : CallD K (.builtin "sorted") sortedD := by
  intro X hK hc pins s σ H xs us Q I rx ⟨ds, S, R, r, hS, ⟨a, kvs, ss, e, e1, hk, hl, h⟩, hR⟩
  subst e
  obtain ⟨v, rfl, r1⟩ := r.one
  obtain ⟨vs, e2, t⟩ := hS.dct e1
  exact call_sortedD hc pins s σ H _ us Q I rx ⟨a, vs, ss, by rw [r1.ref], e2, by rw [t.keys]; exact hk, by rw [t.len]; exact hl, fun ss' p1 p2 l hl => hR.new hS hl (h ss' p1 p2 l) (ra_strs ss')⟩
end
def Itrev (K : PySem.W.Frag) (a : Addr) (n : Nat) : It :=
  ⟨fun i H => ∃ xs x, SqL K H a xs ∧ xs.length = n ∧ i < n ∧ xs[n - 1 - i]? = some x, fun i H x H' => H' = H ∧ ∀ xs, SqL K H a xs → xs.length = n → xs[n - 1 - i]? = some x, fun i _ => n ≤ i⟩
theorem turn_rev {P : Program} {w : World} {K : PySem.W.Frag} {tg : Expr} (a it : Addr) (n : Nat) : Turn P w K tg (Itrev K a n) [it] it (fun i h => i ≤ n ∧ h.IsRevIter it a ((n : Int) - 1 - (i : Int))) where
  mem := by simp
  obj := fun i h st b hb => by
    have e : b = it := by simpa using hb
    subst e
    obtain ⟨_, o, e, c, d⟩ := st
    exact ⟨o, e, fun v z => by rw [d] at z; cases z⟩
  keep := fun i h h' st k => ⟨st.1, st.2.at fun o e => k it (by simp) o e⟩
  item := by
    intro X hP hw hK hc i pins s σ H E I hf st hg
    subst hP hw hK
    obtain ⟨xs, x, hq, hn, hi, hx⟩ := hg
    obtain ⟨its, rv, p, hz⟩ := I.list hq
    obtain ⟨u, hu, ru⟩ := rv.get hx
    obtain ⟨f0, f1, f2, f3, f4, f5⟩ := hf it (by simp)
    have e : (n : Int) - 1 - (i : Int) = ((n - 1 - i : Nat) : Int) := by omega
    have hit := st.2
    rw [e] at hit
    refine wpAny_pyNext_rev_item hit p.isList (x := u) (by simpa using hu) fun h' st' sb => ?_
    have I1 : Inv X pins σ H { s with heap := h' } := I.turned (t' := s.toks) (fun b o hb e => (sb.2 b hb).trans e) f0 f1 f3 f4 f5
    obtain ⟨o, e1, c, d⟩ := id st'
    refine ⟨u, rfl, go_of (s := { s with heap := h' }) e1 c d (by decide) ⟨x, H, I1, ru, ⟨rfl, fun ys hy _ => by rw [I.list_inj hy hq]; exact hx⟩, ⟨hi, ?_⟩, fun b hb => (hf b hb).1⟩⟩
    have e2 : (n : Int) - 1 - ((i + 1 : Nat) : Int) = ((n - 1 - i : Nat) : Int) - 1 := by omega
    rw [e2]; exact st'
  done := by
    intro X hP hw hK hc i pins s σ H E I hf st hg
    subst hP hw hK
    obtain ⟨f0, f1, f2, f3, f4, f5⟩ := hf it (by simp)
    have hg : n ≤ i := hg
    have e : (n : Int) - 1 - (i : Int) = -1 := by have := st.1; omega
    have hit := st.2
    rw [e] at hit
    exact wpAny_pyNext_rev_end (I.ok.hd hc) hit fun h' eb => ⟨rfl, I.turned (t' := s.toks) (fun b o hb e => eb b o hb e) f0 f1 f3 f4 f5⟩
  self := fun _ _ _ _ _ st h => wpAny_pyIter_revIter st.2 h
def iRev (K : PySem.W.Frag) (ta : TA) : TI := fun σ H R => ta σ H fun vs H1 => ∃ a xs, vs = [.ref a] ∧ SqL K H1 a xs ∧ R (Itrev K a xs.length) H1
theorem pi_rev {X : Cx} {tg a : Expr} {ta : TA} {p pos : Pos} (hg : Gl X "reversed") (hm : X.mg "reversed" = none) (ha : PA X [a] ta) (hs : starEach [a] X.env = [(false, eval a X.env)]) : PI X tg (.Call (.Name "reversed" p) [a] [] pos) (iRev X.K ta) := by
  intro pins s σ H R I h
  refine Call_ (ld_blt I hg hm boot_reversed (PyProof.Rows.callWith_type1 (thn (ha pos pins s σ H _ I h) fun us s1 ⟨vs, H1, I1, r1, q1⟩ => ?_) hs rfl))
  obtain ⟨l, xs, e, q, hR⟩ := q1
  subst e
  obtain ⟨u, rfl, ru⟩ := vals1 r1
  cases ru
  obtain ⟨its, rv, pl, hz⟩ := I1.list q
  have hn : its.toArray.size = xs.length := by rw [List.size_toArray, rv.length]
  refine call_reversed_list pl.isList ?_
  rw [hn]
  have st : (s1.heap.push (revObj l ((xs.length : Int) - 1))).IsRevIter s1.heap.objs.size l ((xs.length : Int) - 1 - ((0 : Nat) : Int)) := ⟨_, Heap.get?_push_size _ rfl, rfl, by show Data.fields _ = Data.fields _; simp⟩
  have I2 : Inv X pins σ H1 { s1 with heap := s1.heap.push (revObj l ((xs.length : Int) - 1)) } := I1.kept (t' := s1.toks) fun b o e => Heap.get?_push_of_some _ e
  refine wpAny_pyIter_revIter st ⟨_, _, _, _, H1, rfl, I2, turn_rev l s1.heap.objs.size xs.length, ⟨Nat.zero_le _, st⟩, fun b hb => ?_, hR⟩
  have hb : b = s1.heap.objs.size := by simpa using hb
  subst hb
  exact I1.fpOk (Nat.le_refl _) (I1.hok.fresh (Nat.le_refl _))
section
variable {K : PySem.W.Frag} {X : Cx} {tg : Expr}
def iRevD (t : TDa) : TDi := fun σ S R Z => t σ S (fun ds S1 => ∃ x es, ds = [x] ∧ SqD S1 x es ∧ R ⟨es.reverse, fun S => SqD S x es⟩ S1) Z
theorem irv {a : Expr} {t : TDa} {p pos : Pos} (hm : X.mg "reversed" = none) (ha : DA K X [a] t) (hg : Gl X "reversed" := by rfl) (hs : starEach [a] X.env = [(false, eval a X.env)] := by rfl) (hK : X.K = K := by rfl) : DI K X tg (.Call (.Name "reversed" p) [a] [] pos) (iRevD t) := by
  subst hK
  exact ⟨fun y => (pi_rev (X := y.cx) hg hm (ha.of y) hs).mono fun τ H R ⟨σ, S, RI, Z, hσ, hS, q, hR, hZ⟩ => ⟨σ, S, _, Z, hσ, hS, q, fun ds S1 vs H1 ⟨x, es, e, h1, r1⟩ v1 s1 k1 => by
    subst e
    obtain ⟨v, rfl, r⟩ := v1.one
    obtain ⟨a, xs, rfl, hq, t⟩ := h1.at s1 r
    refine ⟨a, xs, rfl, hq, hR _ S1 _ H1 r1 (fun i S2 H2 k2 s2 ok2 => ?_) s1 k1⟩
    obtain ⟨a', xs', e', hq', t'⟩ := SqD.at ok2 s2 (Rv.ts k2 _ r)
    cases e'
    have hl : xs.length = es.length := t.len
    have hl' : xs'.length = es.length := t'.len
    refine ⟨fun d hd => ?_, fun h => by rw [List.length_reverse] at h; show xs.length ≤ i; omega⟩
    have hi : i < es.length := by have := (List.getElem?_eq_some_iff.mp hd).1; rwa [List.length_reverse] at this
    rw [List.getElem?_reverse hi] at hd
    obtain ⟨v, e1, r⟩ := t'.get hd
    rw [← hl] at e1
    refine ⟨⟨xs', v, hq', by omega, by omega, e1⟩, fun x' H' ⟨e2, e3⟩ => ?_⟩
    subst e2
    have := e3 xs' hq' (by omega)
    rw [e1] at this; cases this
    exact ⟨r, .refl _, s2⟩, hZ⟩⟩
def pairsD (xs ys : List D) : List D := List.zipWith (fun a b => D.tup [a, b]) xs ys
def iZipD (t : TDa) : TDi := fun σ S R Z => t σ S (fun ds S1 => ∃ xs ys, ds = [.tup xs, .tup ys] ∧ xs.length = ys.length ∧ R ⟨pairsD xs ys, fun _ => True⟩ S1) Z
theorem izp {a c : Expr} {t : TDa} {p pos tp : Pos} {es : List Expr} {kk : Nat} (hm : X.mg "zip" = none) (ha : DA K X [a, c] t) (hg : Gl X "zip" := by rfl) (hs : starEach [a, c] X.env = [(false, eval a X.env), (false, eval c X.env)] := by rfl) (hs2 : starEach [c] X.env = [(false, eval c X.env)] := by rfl) (hK : X.K = K := by rfl) :
    DI K X (.Tuple es kk tp) (.Call (.Name "zip" p) [a, c] [] pos) (iZipD t) := by
  subst hK
  exact ⟨fun y => (pi_zip2 (X := y.cx) hg hm (ha.of y) hs hs2).mono fun τ H R ⟨σ, S, RI, Z, hσ, hS, q, hR, hZ⟩ => ⟨σ, S, _, Z, hσ, hS, q, fun ds S1 vs H1 ⟨xs, ys, e, hl, r1⟩ v1 s1 k1 => by
    subst e
    obtain ⟨v, u, rfl, ra, rb⟩ := v1.two
    obtain ⟨a, va, rfl, qa, ta⟩ := ra.tup
    obtain ⟨b, vb, rfl, qb, tb⟩ := rb.tup
    refine ⟨a, b, rfl, ⟨va, .of qa⟩, ⟨vb, .of qb⟩, hR _ S1 _ H1 r1 (fun i S2 H2 k2 s2 _ => ?_) s1 k1⟩
    have qa2 : SqT X.K H2 a va := .of (k2.t _ _ qa)
    have qb2 : SqT X.K H2 b vb := .of (k2.t _ _ qb)
    have la : va.length = xs.length := ta.len
    have lb : vb.length = ys.length := tb.len
    refine ⟨fun d hd => ?_, fun h => ⟨va, vb, qa2, qb2, by unfold pairsD at h; rw [List.length_zipWith] at h; omega⟩⟩
    unfold pairsD at hd
    obtain ⟨x, y', e1, e2, e3⟩ := List.getElem?_zipWith_eq_some.mp hd
    subst e3
    obtain ⟨vx, f1, g1⟩ := (RvAll.ts k2 _ ta).get e1
    obtain ⟨vy, f2, g2⟩ := (RvAll.ts k2 _ tb).get e2
    refine ⟨⟨va, vb, vx, vy, qa2, qb2, f1, f2⟩, fun x' H' ⟨T, hT, e4, e5⟩ => ?_⟩
    have := e5 va vb vx vy qa2 qb2 f1 f2
    subst this e4
    have kk : Kp X.K H2 (upd H2 T (.tup [vx, vy])) := .new hT
    exact ⟨rv_tup upd_same (RvAll.ts kk _ (ra_cons g1 (ra_cons g2 ra_nil))), kk, s2.grow hT⟩, hZ⟩⟩
theorem gd_tup2 {i j : Nat} : ∀ v τ H Q, Tg K (gdTup 2 (gdCons (gdN i) (gdCons (gdN j) gdNil))) v τ H Q → gTup K 2 (gCons (gName i) (gCons (gName j) gNil)) v τ H Q := fun v τ H Q ⟨d, σ, S, R, rv, hσ, hS, ⟨ds, e, hl, a, r, e1, b, r', e2, e3, q⟩, hR⟩ => by
  subst e e1 e2 e3
  obtain ⟨p, xs, rfl, hp, t⟩ := rv.tup
  obtain ⟨v1, v2, rfl, r1, r2⟩ := t.two
  exact ⟨p, _, rfl, .of hp, rfl, v1, [v2], rfl, v2, [], rfl, rfl, hR _ S _ H q ((hσ.set i r1).set j r2) hS (.refl _)⟩
end
end L2
namespace L2
open PySem PySem.Spec PyProof.Rows
section
variable {K : PySem.W.Frag} {X : Cx} {b : Bool} {pos : Pos}
def dLput (tl ti tv : TD) : TSD := fun De σ S Z => tv σ S (fun v S1 => tl σ S1 (fun x S2 => ti σ S2 (fun y S3 => ∃ a es i j, x = .ref a ∧ y = .int i ∧ S3 a = some (.lst es) ∧ ixN es.length i = some j ∧ De.nx σ (S3.set a (.lst (es.set j v)))) (Z σ)) (Z σ)) (Z σ)
theorem sls {o i value : Expr} {tl ti tv : TD} {pos' : Pos} (ho : DE K X o tl) (hi : DE K X i ti) (hv : DE K X value tv)
    (ha : ∀ v, assign (.Subscript o i pos') X.env v = (do
      let ov ← holding [v] (eval o X.env)
      let iv ← holding [v, ov] (eval i X.env)
      standAt pos'
      holding [v, ov, iv] (setItem ov iv v)
      release [v, ov, iv] []) := by intro _; rfl)
    (hs : swapsWithSole [.Subscript o i pos'] value pos.line X.env = pure false := by rfl) (hw : swappedStores [.Subscript o i pos'] value X.env = pure none := by rfl) (h1 : (assignEach [.Subscript o i pos'] X.env).map (·.2) = [assign (.Subscript o i pos') X.env] := by rfl) :
    DS K X b (.Assign [.Subscript o i pos'] value pos) (dLput tl ti tv) :=
  ⟨fun y => (ps_asg (X := y.cx) (hv.of y) (pg_sub (ho.of y) (hi.of y) set_list ha) hs hw h1).mono fun D τ H ⟨σ, S, De, Z, hσ, hS, q, hD, hZ⟩ =>
    ⟨σ, S, _, _, hσ, hS, q, fun v S1 vv H1 r1 v1 s1 k1 => ⟨σ, S1, _, _, hσ.ts k1, s1, r1, fun x S2 xv H2 r2 v2 s2 k2 => ⟨σ, S2, _, _, hσ.ts (k1.trans k2), s2, r2, fun y S3 yv H3 ⟨a, es, i, j, e1, e2, e3, e4, r3⟩ v3 s3 k3 => by
      subst e1 e2
      obtain ⟨xs, e5, t⟩ := s3.lst e3
      have kk := s3.ts_put (o := .lst (xs.set j vv)) e3
      refine ⟨a, xs, i, j, (Rv.ts k3 _ v2).ref, v3.int, e5, by rw [t.len]; exact e4, ?_⟩
      exact hD.nx _ _ _ _ r3 (hσ.ts (((k1.trans k2).trans k3).trans kk)) (s3.put (c := .lst _) e3 ⟨_, upd_same, RvAll.ts kk _ (t.set j (Rv.ts (k2.trans k3) _ v1))⟩) (((k1.trans k2).trans k3).trans kk), hZ.on (k1.trans k2) (hσ.ts (k1.trans k2))⟩, hZ.on k1 (hσ.ts k1)⟩, hZ.at hσ⟩⟩
def signsD (z : Str) : List D := z.cps.toList.map fun c => D.str ⟨#[c]⟩
def iStrD (t : TD) : TDi := fun σ S R Z => t σ S (fun x S1 => ∃ z, x = .str z ∧ R ⟨signsD z, fun _ => True⟩ S1) Z
theorem istr {tg l : Expr} {t : TD} (h : DE K X l t) : DI K X tg l (iStrD t) :=
  ⟨fun y => (pi_str (X := y.cx) (h.of y)).mono fun τ H R ⟨σ, S, RI, Z, hσ, hS, q, hR, hZ⟩ => ⟨σ, S, _, Z, hσ, hS, q, fun x S1 v H1 ⟨z, e, r1⟩ v1 s1 k1 => by
    subst e
    refine ⟨z, v1.str, hR _ S1 _ H1 r1 (fun i S2 H2 k2 s2 _ => ⟨fun d hd => ?_, fun hl => ?_⟩) s1 k1⟩
    · unfold signsD at hd
      rw [List.getElem?_map, Array.getElem?_toList] at hd
      cases q : z.cps[i]? with
      | none => rw [q] at hd; cases hd
      | some c =>
        rw [q] at hd; cases hd
        refine ⟨(Array.getElem?_eq_some_iff.mp q).1, fun x' H' ⟨e1, c', e2, e3⟩ => ?_⟩
        rw [q] at e2; cases e2
        subst e1 e3
        exact ⟨rv_str _, .refl _, s2⟩
    · unfold signsD at hl; rw [List.length_map, Array.length_toList] at hl; exact hl, hZ⟩⟩
def dLenSet (t : TD) : TD := fun σ S R Z => t σ S (fun x S1 => ∃ ss : List Str, SqD S1 x (ss.map D.str) ∧ ss.length < 4000 ∧ R (.int (unl ss).length) S1) Z
theorem lse {e : Expr} {t : TD} {p p' pos' : Pos} (h : DE K X e t) (hm : X.mg "len" = none) (hm' : X.mg "set" = none) (hp : isPlain e = true := by rfl) (hg : Gl X "len" := by rfl) (hg' : Gl X "set" := by rfl) (he : starEach [e] X.env = [(false, eval e X.env)] := by rfl)
    (he2 : starEach [Expr.Call (.Name "set" p') [e] [] pos'] X.env = [(false, eval (.Call (.Name "set" p') [e] [] pos') X.env)] := by rfl) (hK : X.K = K := by rfl) (hc : X.calm = true := by rfl) :
    DE K X (.Call (.Name "len" p) [.Call (.Name "set" p') [e] [] pos'] [] pos) (dLenSet t) := by
  subst hK
  refine ⟨fun y => (pe_callB (X := y.cx) (call_lenS (X := y.cx) rfl rfl) hg hm bt_len (pa2 (pe_callTy (X := y.cx) (call_setT (X := y.cx) rfl rfl rfl hc) hg' hm' bt_set (pa2 (h.of y) pa_nil hp) (by decide) (by decide) he rfl) pa_nil rfl) (by decide) (by decide) he2 rfl).mono fun τ H Q ⟨σ, S, R, Z, hσ, hS, q, hR, hZ⟩ => ?_⟩
  refine ⟨σ, S, _, Z, hσ, hS, q, fun x S1 v H1 ⟨ss, h1, hl, r1⟩ v1 s1 k1 => ?_, hZ⟩
  obtain ⟨a, xs, rfl, hq, t⟩ := h1.at s1 v1
  rw [t.strs] at hq
  exact ⟨a, ss, rfl, hq, hl, fun l hl => ⟨l, ss, rfl, upd_same, hR _ _ _ _ r1 (rv_int _) (s1.grow hl) (k1.trans (.new hl))⟩⟩
end
theorem well_open {K : PySem.W.Frag} {S : Sto} {H : Hp} {l : Addr} (hS : Rs K S H) (h : S l = some .well) : ∃ x y z : Int, Rs K (S.set l (.lst [.int x, .int y, .int z])) H := by
  obtain ⟨x, y, z, e⟩ : ∃ x y z : Int, H l = some (.lst [.int x, .int y, .int z]) := hS l _ h
  refine ⟨x, y, z, fun b c hb => ?_⟩
  by_cases q : b = l
  · subst q; rw [sset_same] at hb; cases hb
    exact ⟨_, e, ra_cons (rv_int x) (ra_cons (rv_int y) (ra_cons (rv_int z) ra_nil))⟩
  · rw [sset_ne q] at hb; exact hS b c hb
theorem well_shut {K : PySem.W.Frag} {S : Sto} {H : Hp} {l : Addr} {x y z : Int} (h : S l = some .well) (hS : Rs K (S.set l (.lst [.int x, .int y, .int z])) H) : Rs K S H := fun b c hb => by
  by_cases q : b = l
  · subst q; rw [h] at hb; cases hb
    obtain ⟨xs, e, t⟩ := hS.lst (a := b) sset_same
    rw [t.ints (bs := [x, y, z])] at e
    exact ⟨x, y, z, e⟩
  · exact hS b c (by rw [sset_ne q]; exact hb)
def spWith (pre : List D → Addr → Prop) (post : List D → D → Prop) : SpD := fun ds S R _ => ∃ l x y z, pre ds l ∧ S l = some (.lst [.int x, .int y, .int z]) ∧ ∀ d x' y' z', post ds d → R d (S.set l (.lst [.int x', .int y', .int z']))
def spWell (pre : List D → Addr → Prop) (post : List D → D → Prop) : SpD := fun ds S R _ => ∃ l, pre ds l ∧ S l = some .well ∧ ∀ d, post ds d → R d S
theorem spWell_of {P : Program} {w : World} {K : PySem.W.Frag} {mg : Str → Option Value} {base : Heap} {k : Nat} {f : Addr} {fd : FuncData} {ps : List Str} {pre : List D → Addr → Prop} {post : List D → D → Prop}
    (F : FnOk P w K mg base (CXR P w) k f fd ps (SpL K (spWith pre post))) : FnOk P w K mg base (CXR P w) k f fd ps (SpL K (spWell pre post)) := by
  refine F.imp fun vs H Q E ⟨ds, S, R, Z, v, hS, ⟨l, hp, hw, h⟩, hR, hZ⟩ => ?_
  obtain ⟨x, y, z, hS'⟩ := well_open hS hw
  refine ⟨ds, _, fun d S2 => ∃ x' y' z', post ds d ∧ S2 = S.set l (.lst [.int x', .int y', .int z']), fun _ _ => False, v, hS', ⟨l, x, y, z, hp, sset_same, fun d x' y' z' hd => ⟨x', y', z', hd, sset_sset⟩⟩, fun d S2 u H' ⟨x', y', z', hd, e⟩ rv hs kp => ?_, fun _ _ _ q => q.elim⟩
  subst e
  exact hR d S u H' (h d hd) rv (well_shut hw hs) kp
end L2
namespace L2
open PySem PySem.Spec PyProof.Rows
theorem bt_sorted : bootBuiltins "sorted" = some (.builtin "sorted") := by decide +kernel
def Sub (S S' : Sto) : Prop := ∀ b c, S b = some c → S' b = some c
theorem Sub.refl (S : Sto) : Sub S S := fun _ _ h => h
theorem Sub.trans {S S1 S2 : Sto} (a : Sub S S1) (b : Sub S1 S2) : Sub S S2 := fun p c h => b p c (a p c h)
theorem Sub.new {S : Sto} {p : Addr} {c : Ce} (h : S p = none) : Sub S (S.set p c) := fun b c' hb => by rw [sset_ne (sne hb h)]; exact hb
theorem Rs.sub {K : PySem.W.Frag} {S S' : Sto} {H : Hp} (h : Rs K S' H) (s : Sub S S') : Rs K S H := fun a c e => h a c (s a c e)
def Fo (S' : Sto) (p : Sto → Prop) : Prop := ∃ S, Sub S S' ∧ p S
theorem fo {S : Sto} {p : Sto → Prop} (h : p S) : Fo S p := ⟨S, .refl S, h⟩
section
variable {P : Program} {w : World} {K : PySem.W.Frag} {mg : Str → Option Value} {base : Heap}
theorem FunV.ok {x qual : Str} {st : Stmt} {f : Addr} {fd : FuncData} {N ps : List Str} {k : Nat} {sp : SpD} (F : FunV K x qual st f fd) (S : FnScope N ps (defScope st)) (len : ∀ ds S R Z, sp ds S R Z → ds.length = ps.length)
    (hbody : ∀ (cdv : Value) (A : Around) (outer : List Env) (s : Shared) (H : Hp) (E : XK) (ds : List D) (S : Sto) (R : KD) (Z : KX), Room k (A.deeper (envOfC qual (defScope st) s.heap.objs.size f cdv)) → sp ds S R Z →
      ∃ t, DSs K (cxOf (CXR P w) P w K mg base N qual (defScope st) f cdv A outer s H E) true (defBody st) t ∧ t { nx := fun _ S' => Fo S' (R .non), rt := fun d S' => Fo S' (R d) } (startD N ds) S fun _ C S' => Fo S' (Z C)) : FnOk P w K mg base (CXR P w) (k + 1) f fd ps (SpL K sp) := by
  have F2 : FnOk P w K mg base (CXR P w) (k + 1) f fd ps (SpL K fun ds S R' Z' => ∃ R Z, sp ds S R Z ∧ R' = (fun d S' => Fo S' (R d)) ∧ Z' = fun C S' => Fo S' (Z C)) := by
    refine F.okD S (fun ds S R Z ⟨R0, Z0, h, _⟩ => len _ _ _ _ h) fun cdv A outer s H E ds S R Z hr ⟨R0, Z0, h, e1, e2⟩ => ?_
    subst e1 e2
    exact hbody cdv A outer s H E ds S R0 Z0 hr h
  refine F2.imp fun vs H Q E ⟨ds, S, R, Z, v, hS, h, hR, hZ⟩ => ⟨ds, S, _, _, v, hS, ⟨R, Z, h, rfl, rfl⟩, fun d S' u H' ⟨S2, sb, r⟩ rv rs kp => hR d S2 u H' r rv (rs.sub sb) kp, fun C S' H' ⟨S2, sb, r⟩ rs kp => hZ C S2 H' r (rs.sub sb) kp⟩
end
section
variable {K : PySem.W.Frag} {X : Cx} {b : Bool}
def dCutF (t : TSD) : TSD := fun De σ S Z => ∃ P : SD → Sto → Prop, t { De with nx := fun σ' S' => Fo S' (P σ') } σ S Z ∧ ∀ σ' S', P σ' S' → De.nx σ' S'
theorem scf {st : Stmt} {t : TSD} (h : DS K X b st t) : DS K X b st (dCutF t) :=
  ⟨fun y => (h.of y).mono fun D τ H ⟨σ, S, De, Z, hσ, hS, ⟨P, q, hP⟩, hD, hZ⟩ => ⟨σ, S, _, Z, hσ, hS, q, ⟨fun σ1 S1 τ1 H1 ⟨S2, sb, r1⟩ a b c => hD.nx _ _ _ _ (hP _ _ r1) a (b.sub sb) c, hD.rt, hD.bk, hD.ct⟩, hZ⟩⟩
def dFo (t : TD) : TD := fun σ S R Z => t σ S (fun d S' => Fo S' (R d)) Z
theorem efo {e : Expr} {t : TD} (h : DE K X e t) : DE K X e (dFo t) :=
  ⟨fun y => (h.of y).mono fun τ H Q ⟨σ, S, R, Z, hσ, hS, q, hR, hZ⟩ => ⟨σ, S, _, Z, hσ, hS, q, fun d S' v H' ⟨S2, sb, r⟩ rv rs kp => hR d S2 v H' r rv (rs.sub sb) kp, hZ⟩⟩
theorem cg1 {N : List Str} {scope : Scope} {a : Str} {p : Pos} (nd : N.Nodup) (h0 : N[0]? = some a := by rfl) (hx : ∀ C s H ex pn, Loc (cxC X N scope C s H ex pn).env.scope a ∧ (cxC X N scope C s H ex pn).env.scope.names.lookup a = some .local := by intro _ _ _ _ _; exact ⟨Or.inl rfl, rfl⟩) :
    ∀ C s H ex pn, PG (cxC X N scope C s H ex pn) (.Name a p) (gName 0) := fun C s H ex pn => pg_name (i := 0) nd h0 (hx C s H ex pn).1 (.inr (hx C s H ex pn).2)
theorem cg2 {N : List Str} {scope : Scope} {a c : Str} {p p' p2 : Pos} {j : Nat} (nd : N.Nodup) (h0 : N[0]? = some a := by rfl) (h1 : N[1]? = some c := by rfl)
    (hx : ∀ C s H ex pn, Loc (cxC X N scope C s H ex pn).env.scope a ∧ (cxC X N scope C s H ex pn).env.scope.names.lookup a = some .local := by intro _ _ _ _ _; exact ⟨Or.inl rfl, rfl⟩)
    (hy : ∀ C s H ex pn, Loc (cxC X N scope C s H ex pn).env.scope c ∧ (cxC X N scope C s H ex pn).env.scope.names.lookup c = some .local := by intro _ _ _ _ _; exact ⟨Or.inl rfl, rfl⟩)
    (hl : ∀ env : Env, (assignEach [.Name a p, .Name c p'] env).length = 2 ∧ (assignEach [.Name a p, .Name c p'] env).findIdx? (·.1) = none ∧ (assignEach [.Name a p, .Name c p'] env).map (·.2) = assign (.Name a p) env :: (assignEach [.Name c p'] env).map (·.2) ∧ (assignEach [.Name c p'] env).map (·.2) = assign (.Name c p') env :: (assignEach [] env).map (·.2) := by intro _; exact ⟨rfl, rfl, rfl, rfl⟩) (hK : X.K = K := by rfl) (hc : X.calm = true := by rfl) :
    ∀ C s H ex pn, PG (cxC X N scope C s H ex pn) (.Tuple [.Name a p, .Name c p'] j p2) (gTup K 2 (gCons (gName 0) (gCons (gName 1) gNil))) := fun C s H ex pn => by
  subst hK
  have e := hl (cxC X N scope C s H ex pn).env
  exact pg_tup (X := cxC X N scope C s H ex pn) hc (pgs_cons (pg_name (i := 0) nd h0 (hx C s H ex pn).1 (.inr (hx C s H ex pn).2)) (pgs_cons (pg_name (i := 1) nd h1 (hy C s H ex pn).1 (.inr (hy C s H ex pn).2)) pgs_nil e.2.2.2) e.2.2.1) e.1 e.2.1
end
end L2
namespace L2
open PySem PySem.Spec PyProof.Rows
theorem vals_strsA : ∀ {ss : List Str} {its : List Value}, Vals (ss.map V.str) its → StrsAre its ss
  | [], _, .nil => .nil
  | z :: ss, _, .cons r t => by
    obtain ⟨tk, rfl⟩ := r
    exact .cons z tk (vals_strsA t)
theorem call_sortedL {X : Cx} : CallR X (.builtin "sorted") (fun xs H Q => ∃ (a : Addr) (ss : List Str), xs = [.ref a] ∧ SqL X.K H a (ss.map V.str) ∧ ss.length < 64 ∧
    ∀ ss', ss'.Perm ss → sortedS ss' = true → ∀ l, H l = none → Q (.ref l) (upd H l (.lst (ss'.map V.str)))) := by
  intro pins s σ H xs us Q I r h
  obtain ⟨a, ss, rfl, e, hl, q⟩ := h
  obtain ⟨u, rfl, ru⟩ := vals1 r
  cases ru
  obtain ⟨its, rv, p, _⟩ := I.list e
  have hS := vals_strsA rv
  have hlen : its.length < 64 := by have := rv.length; rw [List.length_map] at this; omega
  refine sorted_strs p.isList hS hlen fun out ss' a1 a2 a3 => ?_
  obtain ⟨e1, he1⟩ := sortedAll_at s.heap its out
  have hln : ss'.length ≤ sizeLine := by rw [a2.length_eq, sizeLine_eq]; omega
  exact ⟨.ref (s.heap.objs.size + 1), _, I.laid (a := s.heap.objs.size + 1) (o := .lst (ss'.map V.str)) (fun b u hb => sortedAll_old hb) (Nat.le_succ _) ⟨by rw [List.length_map]; exact hln, _, e1, strs_vals a1, he1⟩, rfl, q ss' a2 a3 _ (I.hok.fresh (Nat.le_succ _))⟩
def sortedLD : List D → Sto → KD → Prop := fun ds S R => ∃ (x : D) (ss : List Str), ds = [x] ∧ SqD S x (ss.map D.str) ∧ ss.length < 64 ∧ ∀ ss', ss'.Perm ss → sortedS ss' = true → ∀ p, S p = none → R (.ref p) (S.set p (.lst (ss'.map D.str)))
section
variable {K : PySem.W.Frag}
theorem c_sortedL : CallD K (.builtin "sorted") sortedLD := by
  intro X hK hc pins s σ H xs us Q I rx ⟨ds, S, R, r, hS, ⟨x, ss, e, e1, hl, h⟩, hR⟩
  subst hK e
  obtain ⟨v, rfl, r1⟩ := r.one
  obtain ⟨a, ys, rfl, q, t⟩ := e1.at hS r1
  have et := t.strs
  subst et
  exact call_sortedL pins s σ H _ us Q I rx ⟨a, ss, rfl, q, hl, fun ss' p1 p2 l hl => hR.new hS hl (h ss' p1 p2 l) (ra_strs ss')⟩
end
end L2
namespace HT
open PySem PySem.Spec PyProof.Rows
section
variable {prog : Program} {w : World} {A : Around} {E : Value → Shared → Prop} {s : Shared}
end
end HT
namespace L2
open PySem PySem.Spec PyProof.Rows
section
variable {K : PySem.W.Frag} {X : Cx}
end
end L2
namespace L2
open PySem PySem.Spec PyProof.Rows
inductive DlAll (S : Sto) : List D → List PyData → Prop where
  | nil : DlAll S [] []
  | cons {d : D} {p : PyData} {ds : List D} {ps : List PyData} : Dl S d p → DlAll S ds ps → DlAll S (d :: ds) (p :: ps)
def Dl2 (S : Sto) (d : D) (p : PyData) : Prop := ∃ a ds ps, d = .ref a ∧ S a = some (.lst ds) ∧ p = .list ps ∧ DlAll S ds ps
section
variable {K : PySem.W.Frag}
theorem DlAll.dt {H : Hp} {S : Sto} (hS : Rs K S H) : ∀ {ds : List D} {ps : List PyData} {xs : List V}, DlAll S ds ps → RvAll K H ds xs → DtAll K H ps xs
  | [], _, xs, .nil, r => by rw [r.nil]; simp only [DtAll]
  | d :: ds, _, xs, .cons h t, r => by
    obtain ⟨y, ys, rfl, r1, r2⟩ := r.cons
    simp only [DtAll]
    exact ⟨y, ys, rfl, h.dt hS r1, DlAll.dt hS t r2⟩
theorem Dl2.dt {H : Hp} {S : Sto} {d : D} {p : PyData} {v : V} (h : Dl2 S d p) (hS : Rs K S H) (r : Rv K H d v) : Dt K H p v := by
  obtain ⟨a, ds, ps, rfl, e, rfl, h⟩ := h
  obtain ⟨xs, e1, t⟩ := hS.lst e
  rw [r.ref]
  simp only [Dt]
  exact ⟨a, xs, rfl, .of e1, h.dt hS t⟩
def eqD2 (neg : Bool) : RD2 := fun x y S R => ∃ p q, Dl2 S x p ∧ Dl2 S y q ∧ p.canLay0 = true ∧ q.canLay0 = true ∧ (p.depth ≤ 64 ∨ q.depth ≤ 64) ∧ R (.bl (if neg then !PyData.eqv p q else PyData.eqv p q)) S
theorem o_ne2 : OpD K (compareOp .NotEq) (eqD2 true) := by
  intro X hK hu pins s σ H x y v u Q I rx ry ⟨d, e, S, R, r1, r2, hS, ⟨p, q, h1, h2, c1, c2, dp, h⟩, hR⟩
  subst hK
  exact op_neD hu pins s σ H x y v u Q I rx ry ⟨p, q, h1.dt hS r1, h2.dt hS r2, c1, c2, dp, hR.now hS h (rv_bl _)⟩
end
end L2
namespace My
open PySem L2
def top (i : Nat) : Stmt := PySem.Challenge.pw_pageturns_k19_whole_told_moment_by_momen.main.body.getD i (.Pass ⟨0, 0, 0, 0⟩)
abbrev s_is_whole : Stmt := top 13
abbrev s_is_letter : Stmt := top 14
abbrev s_is_figure : Stmt := top 15
abbrev s_is_name : Stmt := top 16
abbrev s_is_key : Stmt := top 17
abbrev s_is_word : Stmt := top 18
abbrev s_is_kind : Stmt := top 19
abbrev s_is_value : Stmt := top 20
abbrev s_check_columns : Stmt := top 23
abbrev s_is_column : Stmt := top 24
abbrev s_names_of : Stmt := top 25
abbrev s_check_row : Stmt := top 26
abbrev s_are_worths : Stmt := top 27
abbrev s_worths_then : Stmt := top 30
abbrev s_l_cell_at : Stmt := top 32
abbrev s_l_well : Stmt := top 33
abbrev s_l_draw : Stmt := top 34
abbrev s_l_columns : Stmt := top 35
abbrev s_l_value : Stmt := top 36
abbrev s_l_worths : Stmt := top 37
abbrev s_l_key : Stmt := top 38
abbrev s_l_deed : Stmt := top 39
abbrev s_l_known : Stmt := top 40
abbrev s_l_does : Stmt := top 41
abbrev s_l_all : Stmt := top 42
abbrev s_l_by_standings : Stmt := top 43
abbrev s_l_again : Stmt := top 44
abbrev s_law : Stmt := top 45
abbrev s_Shelf : Stmt := top 29
structure Adr where
  f_is_whole : Addr
  d_is_whole : FuncData
  f_is_letter : Addr
  d_is_letter : FuncData
  f_is_figure : Addr
  d_is_figure : FuncData
  f_is_name : Addr
  d_is_name : FuncData
  f_is_key : Addr
  d_is_key : FuncData
  f_is_word : Addr
  d_is_word : FuncData
  f_is_kind : Addr
  d_is_kind : FuncData
  f_is_value : Addr
  d_is_value : FuncData
  f_check_columns : Addr
  d_check_columns : FuncData
  f_is_column : Addr
  d_is_column : FuncData
  f_names_of : Addr
  d_names_of : FuncData
  f_check_row : Addr
  d_check_row : FuncData
  f_are_worths : Addr
  d_are_worths : FuncData
  f_worths_then : Addr
  d_worths_then : FuncData
  f_l_cell_at : Addr
  d_l_cell_at : FuncData
  f_l_well : Addr
  d_l_well : FuncData
  f_l_draw : Addr
  d_l_draw : FuncData
  f_l_columns : Addr
  d_l_columns : FuncData
  f_l_value : Addr
  d_l_value : FuncData
  f_l_worths : Addr
  d_l_worths : FuncData
  f_l_key : Addr
  d_l_key : FuncData
  f_l_deed : Addr
  d_l_deed : FuncData
  f_l_known : Addr
  d_l_known : FuncData
  f_l_does : Addr
  d_l_does : FuncData
  f_l_all : Addr
  d_l_all : FuncData
  f_l_by_standings : Addr
  d_l_by_standings : FuncData
  f_l_again : Addr
  d_l_again : FuncData
  f_law : Addr
  d_law : FuncData
  f_Shelf___init__ : Addr
  d_Shelf___init__ : FuncData
  f_Shelf_put : Addr
  d_Shelf_put : FuncData
  f_Shelf_change : Addr
  d_Shelf_change : FuncData
  f_Shelf_take : Addr
  d_Shelf_take : FuncData
  f_Shelf_check_stands : Addr
  d_Shelf_check_stands : FuncData
  f_Shelf_begin_standing : Addr
  d_Shelf_begin_standing : FuncData
  f_Shelf_end_standing : Addr
  d_Shelf_end_standing : FuncData
  f_Shelf_now : Addr
  d_Shelf_now : FuncData
  f_Shelf_worths_at : Addr
  d_Shelf_worths_at : FuncData
  f_Shelf_all_at : Addr
  d_Shelf_all_at : FuncData
  f_Shelf_standings_of : Addr
  d_Shelf_standings_of : FuncData
  f_Shelf_history : Addr
  d_Shelf_history : FuncData
  f_Shelf_moment_meant : Addr
  d_Shelf_moment_meant : FuncData
  t_MOST_NAME_SIGNS : Tok
  t_MOST_KEY_SIGNS : Tok
  t_MOST_WORD_SIGNS : Tok
  t_MOST_COLUMNS : Tok
  a_KINDS : Addr
  c_PageError : Addr
  c_BadColumns : Addr
  c_BadRow : Addr
  c_HasKey : Addr
  c_NoKey : Addr
  c_NoMoment : Addr
  c_Shelf : Addr
structure Txt (K : PySem.W.Frag) (mg : Str → Option Value) (t : Adr) : Prop where
  F_is_whole : FunV K "is_whole" "is_whole" s_is_whole t.f_is_whole t.d_is_whole
  b_is_whole : Binds K t.d_is_whole ["thing"] []
  k_is_whole : PySem.W.keepIn K (.ref t.f_is_whole) = true
  mg_is_whole : mg "is_whole" = some (.ref t.f_is_whole)
  F_is_letter : FunV K "is_letter" "is_letter" s_is_letter t.f_is_letter t.d_is_letter
  b_is_letter : Binds K t.d_is_letter ["sign"] []
  k_is_letter : PySem.W.keepIn K (.ref t.f_is_letter) = true
  mg_is_letter : mg "is_letter" = some (.ref t.f_is_letter)
  F_is_figure : FunV K "is_figure" "is_figure" s_is_figure t.f_is_figure t.d_is_figure
  b_is_figure : Binds K t.d_is_figure ["sign"] []
  k_is_figure : PySem.W.keepIn K (.ref t.f_is_figure) = true
  mg_is_figure : mg "is_figure" = some (.ref t.f_is_figure)
  F_is_name : FunV K "is_name" "is_name" s_is_name t.f_is_name t.d_is_name
  b_is_name : Binds K t.d_is_name ["thing"] []
  k_is_name : PySem.W.keepIn K (.ref t.f_is_name) = true
  mg_is_name : mg "is_name" = some (.ref t.f_is_name)
  F_is_key : FunV K "is_key" "is_key" s_is_key t.f_is_key t.d_is_key
  b_is_key : Binds K t.d_is_key ["thing"] []
  k_is_key : PySem.W.keepIn K (.ref t.f_is_key) = true
  mg_is_key : mg "is_key" = some (.ref t.f_is_key)
  F_is_word : FunV K "is_word" "is_word" s_is_word t.f_is_word t.d_is_word
  b_is_word : Binds K t.d_is_word ["thing"] []
  k_is_word : PySem.W.keepIn K (.ref t.f_is_word) = true
  mg_is_word : mg "is_word" = some (.ref t.f_is_word)
  F_is_kind : FunV K "is_kind" "is_kind" s_is_kind t.f_is_kind t.d_is_kind
  b_is_kind : Binds K t.d_is_kind ["thing"] []
  k_is_kind : PySem.W.keepIn K (.ref t.f_is_kind) = true
  mg_is_kind : mg "is_kind" = some (.ref t.f_is_kind)
  F_is_value : FunV K "is_value" "is_value" s_is_value t.f_is_value t.d_is_value
  b_is_value : Binds K t.d_is_value ["kind", "thing"] []
  k_is_value : PySem.W.keepIn K (.ref t.f_is_value) = true
  mg_is_value : mg "is_value" = some (.ref t.f_is_value)
  F_check_columns : FunV K "check_columns" "check_columns" s_check_columns t.f_check_columns t.d_check_columns
  b_check_columns : Binds K t.d_check_columns ["columns"] []
  k_check_columns : PySem.W.keepIn K (.ref t.f_check_columns) = true
  mg_check_columns : mg "check_columns" = some (.ref t.f_check_columns)
  F_is_column : FunV K "is_column" "is_column" s_is_column t.f_is_column t.d_is_column
  b_is_column : Binds K t.d_is_column ["thing"] []
  k_is_column : PySem.W.keepIn K (.ref t.f_is_column) = true
  mg_is_column : mg "is_column" = some (.ref t.f_is_column)
  F_names_of : FunV K "names_of" "names_of" s_names_of t.f_names_of t.d_names_of
  b_names_of : Binds K t.d_names_of ["columns"] []
  k_names_of : PySem.W.keepIn K (.ref t.f_names_of) = true
  mg_names_of : mg "names_of" = some (.ref t.f_names_of)
  F_check_row : FunV K "check_row" "check_row" s_check_row t.f_check_row t.d_check_row
  b_check_row : Binds K t.d_check_row ["columns", "row"] []
  k_check_row : PySem.W.keepIn K (.ref t.f_check_row) = true
  mg_check_row : mg "check_row" = some (.ref t.f_check_row)
  F_are_worths : FunV K "are_worths" "are_worths" s_are_worths t.f_are_worths t.d_are_worths
  b_are_worths : Binds K t.d_are_worths ["columns", "thing"] []
  k_are_worths : PySem.W.keepIn K (.ref t.f_are_worths) = true
  mg_are_worths : mg "are_worths" = some (.ref t.f_are_worths)
  F_worths_then : FunV K "worths_then" "worths_then" s_worths_then t.f_worths_then t.d_worths_then
  b_worths_then : Binds K t.d_worths_then ["standings", "moment"] []
  k_worths_then : PySem.W.keepIn K (.ref t.f_worths_then) = true
  mg_worths_then : mg "worths_then" = some (.ref t.f_worths_then)
  F_l_cell_at : FunV K "_law_cell_at" "_law_cell_at" s_l_cell_at t.f_l_cell_at t.d_l_cell_at
  b_l_cell_at : Binds K t.d_l_cell_at ["_law_script", "_law_k"] []
  k_l_cell_at : PySem.W.keepIn K (.ref t.f_l_cell_at) = true
  mg_l_cell_at : mg "_law_cell_at" = some (.ref t.f_l_cell_at)
  F_l_well : FunV K "_law_well" "_law_well" s_l_well t.f_l_well t.d_l_well
  b_l_well : Binds K t.d_l_well ["_law_cell"] []
  k_l_well : PySem.W.keepIn K (.ref t.f_l_well) = true
  mg_l_well : mg "_law_well" = some (.ref t.f_l_well)
  F_l_draw : FunV K "_law_draw" "_law_draw" s_l_draw t.f_l_draw t.d_l_draw
  b_l_draw : Binds K t.d_l_draw ["_law_well_here", "_law_most"] []
  k_l_draw : PySem.W.keepIn K (.ref t.f_l_draw) = true
  mg_l_draw : mg "_law_draw" = some (.ref t.f_l_draw)
  F_l_columns : FunV K "_law_columns" "_law_columns" s_l_columns t.f_l_columns t.d_l_columns
  b_l_columns : Binds K t.d_l_columns ["_law_well_here"] []
  k_l_columns : PySem.W.keepIn K (.ref t.f_l_columns) = true
  mg_l_columns : mg "_law_columns" = some (.ref t.f_l_columns)
  F_l_value : FunV K "_law_value" "_law_value" s_l_value t.f_l_value t.d_l_value
  b_l_value : Binds K t.d_l_value ["_law_well_here", "_law_kind"] []
  k_l_value : PySem.W.keepIn K (.ref t.f_l_value) = true
  mg_l_value : mg "_law_value" = some (.ref t.f_l_value)
  F_l_worths : FunV K "_law_worths" "_law_worths" s_l_worths t.f_l_worths t.d_l_worths
  b_l_worths : Binds K t.d_l_worths ["_law_well_here", "_law_columns_here"] []
  k_l_worths : PySem.W.keepIn K (.ref t.f_l_worths) = true
  mg_l_worths : mg "_law_worths" = some (.ref t.f_l_worths)
  F_l_key : FunV K "_law_key" "_law_key" s_l_key t.f_l_key t.d_l_key
  b_l_key : Binds K t.d_l_key ["_law_well_here"] []
  k_l_key : PySem.W.keepIn K (.ref t.f_l_key) = true
  mg_l_key : mg "_law_key" = some (.ref t.f_l_key)
  F_l_deed : FunV K "_law_deed" "_law_deed" s_l_deed t.f_l_deed t.d_l_deed
  b_l_deed : Binds K t.d_l_deed ["_law_well_here", "_law_columns_here", "_law_known_here"] []
  k_l_deed : PySem.W.keepIn K (.ref t.f_l_deed) = true
  mg_l_deed : mg "_law_deed" = some (.ref t.f_l_deed)
  F_l_known : FunV K "_law_known" "_law_known" s_l_known t.f_l_known t.d_l_known
  b_l_known : Binds K t.d_l_known ["_law_known_here", "_law_deed_here"] []
  k_l_known : PySem.W.keepIn K (.ref t.f_l_known) = true
  mg_l_known : mg "_law_known" = some (.ref t.f_l_known)
  F_l_does : FunV K "_law_does" "_law_does" s_l_does t.f_l_does t.d_l_does
  b_l_does : Binds K t.d_l_does ["_law_shelf", "_law_deed_here"] []
  k_l_does : PySem.W.keepIn K (.ref t.f_l_does) = true
  mg_l_does : mg "_law_does" = some (.ref t.f_l_does)
  F_l_all : FunV K "_law_all" "_law_all" s_l_all t.f_l_all t.d_l_all
  b_l_all : Binds K t.d_l_all ["_law_shelf"] []
  k_l_all : PySem.W.keepIn K (.ref t.f_l_all) = true
  mg_l_all : mg "_law_all" = some (.ref t.f_l_all)
  F_l_by_standings : FunV K "_law_by_standings" "_law_by_standings" s_l_by_standings t.f_l_by_standings t.d_l_by_standings
  b_l_by_standings : Binds K t.d_l_by_standings ["_law_shelf", "_law_keys"] []
  k_l_by_standings : PySem.W.keepIn K (.ref t.f_l_by_standings) = true
  mg_l_by_standings : mg "_law_by_standings" = some (.ref t.f_l_by_standings)
  F_l_again : FunV K "_law_again" "_law_again" s_l_again t.f_l_again t.d_l_again
  b_l_again : Binds K t.d_l_again ["_law_shelf", "_law_columns_here"] []
  k_l_again : PySem.W.keepIn K (.ref t.f_l_again) = true
  mg_l_again : mg "_law_again" = some (.ref t.f_l_again)
  F_law : FunV K "law" "law" s_law t.f_law t.d_law
  b_law : Binds K t.d_law ["_law_script"] []
  k_law : PySem.W.keepIn K (.ref t.f_law) = true
  mg_law : mg "law" = some (.ref t.f_law)
  F_Shelf___init__ : FunV K "__init__" "Shelf.__init__" (inClass s_Shelf 0) t.f_Shelf___init__ t.d_Shelf___init__
  b_Shelf___init__ : Binds K t.d_Shelf___init__ ["self", "columns"] []
  me_Shelf___init__ : Meth K t.c_Shelf "__init__" t.f_Shelf___init__
  F_Shelf_put : FunV K "put" "Shelf.put" (inClass s_Shelf 1) t.f_Shelf_put t.d_Shelf_put
  b_Shelf_put : Binds K t.d_Shelf_put ["self", "key", "worths"] []
  me_Shelf_put : Meth K t.c_Shelf "put" t.f_Shelf_put
  F_Shelf_change : FunV K "change" "Shelf.change" (inClass s_Shelf 2) t.f_Shelf_change t.d_Shelf_change
  b_Shelf_change : Binds K t.d_Shelf_change ["self", "key", "worths"] []
  me_Shelf_change : Meth K t.c_Shelf "change" t.f_Shelf_change
  F_Shelf_take : FunV K "take" "Shelf.take" (inClass s_Shelf 3) t.f_Shelf_take t.d_Shelf_take
  b_Shelf_take : Binds K t.d_Shelf_take ["self", "key"] []
  me_Shelf_take : Meth K t.c_Shelf "take" t.f_Shelf_take
  F_Shelf_check_stands : FunV K "check_stands" "Shelf.check_stands" (inClass s_Shelf 4) t.f_Shelf_check_stands t.d_Shelf_check_stands
  b_Shelf_check_stands : Binds K t.d_Shelf_check_stands ["self", "key"] []
  me_Shelf_check_stands : Meth K t.c_Shelf "check_stands" t.f_Shelf_check_stands
  F_Shelf_begin_standing : FunV K "begin_standing" "Shelf.begin_standing" (inClass s_Shelf 5) t.f_Shelf_begin_standing t.d_Shelf_begin_standing
  b_Shelf_begin_standing : Binds K t.d_Shelf_begin_standing ["self", "key", "worths"] []
  me_Shelf_begin_standing : Meth K t.c_Shelf "begin_standing" t.f_Shelf_begin_standing
  F_Shelf_end_standing : FunV K "end_standing" "Shelf.end_standing" (inClass s_Shelf 6) t.f_Shelf_end_standing t.d_Shelf_end_standing
  b_Shelf_end_standing : Binds K t.d_Shelf_end_standing ["self", "key"] []
  me_Shelf_end_standing : Meth K t.c_Shelf "end_standing" t.f_Shelf_end_standing
  F_Shelf_now : FunV K "now" "Shelf.now" (inClass s_Shelf 8) t.f_Shelf_now t.d_Shelf_now
  b_Shelf_now : Binds K t.d_Shelf_now ["self"] []
  me_Shelf_now : Meth K t.c_Shelf "now" t.f_Shelf_now
  F_Shelf_worths_at : FunV K "worths_at" "Shelf.worths_at" (inClass s_Shelf 9) t.f_Shelf_worths_at t.d_Shelf_worths_at
  b_Shelf_worths_at : Binds K t.d_Shelf_worths_at ["self", "key", "moment"] []
  b_Shelf_worths_at_1 : Binds K t.d_Shelf_worths_at ["self", "key", "moment"] [.none]
  me_Shelf_worths_at : Meth K t.c_Shelf "worths_at" t.f_Shelf_worths_at
  F_Shelf_all_at : FunV K "all_at" "Shelf.all_at" (inClass s_Shelf 10) t.f_Shelf_all_at t.d_Shelf_all_at
  b_Shelf_all_at : Binds K t.d_Shelf_all_at ["self", "moment"] []
  b_Shelf_all_at_1 : Binds K t.d_Shelf_all_at ["self", "moment"] [.none]
  me_Shelf_all_at : Meth K t.c_Shelf "all_at" t.f_Shelf_all_at
  F_Shelf_standings_of : FunV K "standings_of" "Shelf.standings_of" (inClass s_Shelf 11) t.f_Shelf_standings_of t.d_Shelf_standings_of
  b_Shelf_standings_of : Binds K t.d_Shelf_standings_of ["self", "key"] []
  me_Shelf_standings_of : Meth K t.c_Shelf "standings_of" t.f_Shelf_standings_of
  F_Shelf_history : FunV K "history" "Shelf.history" (inClass s_Shelf 12) t.f_Shelf_history t.d_Shelf_history
  b_Shelf_history : Binds K t.d_Shelf_history ["self"] []
  me_Shelf_history : Meth K t.c_Shelf "history" t.f_Shelf_history
  F_Shelf_moment_meant : FunV K "moment_meant" "Shelf.moment_meant" (inClass s_Shelf 13) t.f_Shelf_moment_meant t.d_Shelf_moment_meant
  b_Shelf_moment_meant : Binds K t.d_Shelf_moment_meant ["self", "moment"] []
  me_Shelf_moment_meant : Meth K t.c_Shelf "moment_meant" t.f_Shelf_moment_meant
  mg_MOST_NAME_SIGNS : mg "MOST_NAME_SIGNS" = some (.int 8 t.t_MOST_NAME_SIGNS)
  mg_MOST_KEY_SIGNS : mg "MOST_KEY_SIGNS" = some (.int 12 t.t_MOST_KEY_SIGNS)
  mg_MOST_WORD_SIGNS : mg "MOST_WORD_SIGNS" = some (.int 40 t.t_MOST_WORD_SIGNS)
  mg_MOST_COLUMNS : mg "MOST_COLUMNS" = some (.int 8 t.t_MOST_COLUMNS)
  mg_KINDS : mg "KINDS" = some (.ref t.a_KINDS)
  kt_KINDS : ∀ H, Rv K H (.kt [.str "number", .str "word"]) (.ref t.a_KINDS)
  n_len : mg "len" = none
  n_all : mg "all" = none
  n_isinstance : mg "isinstance" = none
  n_range : mg "range" = none
  n_int : mg "int" = none
  n_str : mg "str" = none
  n_bool : mg "bool" = none
  n_tuple : mg "tuple" = none
  n_list : mg "list" = none
  n_set : mg "set" = none
  n_zip : mg "zip" = none
  n_sorted : mg "sorted" = none
  n_reversed : mg "reversed" = none
  n_ValueError : mg "ValueError" = none
  mg_PageError : mg "PageError" = some (.ref t.c_PageError)
  mg_BadColumns : mg "BadColumns" = some (.ref t.c_BadColumns)
  mg_BadRow : mg "BadRow" = some (.ref t.c_BadRow)
  mg_HasKey : mg "HasKey" = some (.ref t.c_HasKey)
  mg_NoKey : mg "NoKey" = some (.ref t.c_NoKey)
  mg_NoMoment : mg "NoMoment" = some (.ref t.c_NoMoment)
  mg_Shelf : mg "Shelf" = some (.ref t.c_Shelf)
  cl_Shelf : Cls K t.c_Shelf
  mk_Shelf : Mk K t.c_Shelf t.f_Shelf___init__
  x_PageError : PySem.W.excIn K t.c_PageError L2.vErr "ValueError.__new__" = true
  x_BadColumns : PySem.W.excIn K t.c_BadColumns L2.vErr "ValueError.__new__" = true
  x_BadRow : PySem.W.excIn K t.c_BadRow L2.vErr "ValueError.__new__" = true
  x_HasKey : PySem.W.excIn K t.c_HasKey L2.vErr "ValueError.__new__" = true
  x_NoKey : PySem.W.excIn K t.c_NoKey L2.vErr "ValueError.__new__" = true
  x_NoMoment : PySem.W.excIn K t.c_NoMoment L2.vErr "ValueError.__new__" = true
  ga_BadColumns : PySem.W.findIn K (.ref t.c_BadColumns) "__getattribute__" = some (some (.builtin "BaseException.__getattribute__"))
  gh_BadColumns : PySem.W.findIn K (.ref t.c_BadColumns) "__getattr__" = some none
  gc_BadColumns : PySem.W.findIn K (.ref t.c_BadColumns) "__class__" = some (some (.builtin "object.__class__"))
  ga_BadRow : PySem.W.findIn K (.ref t.c_BadRow) "__getattribute__" = some (some (.builtin "BaseException.__getattribute__"))
  gh_BadRow : PySem.W.findIn K (.ref t.c_BadRow) "__getattr__" = some none
  gc_BadRow : PySem.W.findIn K (.ref t.c_BadRow) "__class__" = some (some (.builtin "object.__class__"))
  ga_HasKey : PySem.W.findIn K (.ref t.c_HasKey) "__getattribute__" = some (some (.builtin "BaseException.__getattribute__"))
  gh_HasKey : PySem.W.findIn K (.ref t.c_HasKey) "__getattr__" = some none
  gc_HasKey : PySem.W.findIn K (.ref t.c_HasKey) "__class__" = some (some (.builtin "object.__class__"))
  ga_NoKey : PySem.W.findIn K (.ref t.c_NoKey) "__getattribute__" = some (some (.builtin "BaseException.__getattribute__"))
  gh_NoKey : PySem.W.findIn K (.ref t.c_NoKey) "__getattr__" = some none
  gc_NoKey : PySem.W.findIn K (.ref t.c_NoKey) "__class__" = some (some (.builtin "object.__class__"))
  ga_NoMoment : PySem.W.findIn K (.ref t.c_NoMoment) "__getattribute__" = some (some (.builtin "BaseException.__getattribute__"))
  gh_NoMoment : PySem.W.findIn K (.ref t.c_NoMoment) "__getattr__" = some none
  gc_NoMoment : PySem.W.findIn K (.ref t.c_NoMoment) "__class__" = some (some (.builtin "object.__class__"))
  na_Shelf_columns : PySem.W.findIn K (.ref t.c_Shelf) "columns" = some none
  na_Shelf_deeds : PySem.W.findIn K (.ref t.c_Shelf) "deeds" = some none
  na_Shelf_runs : PySem.W.findIn K (.ref t.c_Shelf) "runs" = some none
  bl : ∀ (s : Shared) (u : Value), BindsTo s t.d_law ⟨[u], []⟩ [("_law_script", u)]
theorem sc_is_whole : FnScope ["thing"] ["thing"] (defScope s_is_whole) := ⟨rfl, rfl, rfl, by decide +kernel, rfl, by decide +kernel, by decide +kernel⟩
theorem sc_is_letter : FnScope ["sign"] ["sign"] (defScope s_is_letter) := ⟨rfl, rfl, rfl, by decide +kernel, rfl, by decide +kernel, by decide +kernel⟩
theorem sc_is_figure : FnScope ["sign"] ["sign"] (defScope s_is_figure) := ⟨rfl, rfl, rfl, by decide +kernel, rfl, by decide +kernel, by decide +kernel⟩
theorem sc_is_name : FnScope ["thing"] ["thing"] (defScope s_is_name) := ⟨rfl, rfl, rfl, by decide +kernel, rfl, by decide +kernel, by decide +kernel⟩
theorem sc_is_key : FnScope ["thing"] ["thing"] (defScope s_is_key) := ⟨rfl, rfl, rfl, by decide +kernel, rfl, by decide +kernel, by decide +kernel⟩
theorem sc_is_word : FnScope ["thing"] ["thing"] (defScope s_is_word) := ⟨rfl, rfl, rfl, by decide +kernel, rfl, by decide +kernel, by decide +kernel⟩
theorem sc_is_kind : FnScope ["thing"] ["thing"] (defScope s_is_kind) := ⟨rfl, rfl, rfl, by decide +kernel, rfl, by decide +kernel, by decide +kernel⟩
theorem sc_is_value : FnScope ["kind", "thing"] ["kind", "thing"] (defScope s_is_value) := ⟨rfl, rfl, rfl, by decide +kernel, rfl, by decide +kernel, by decide +kernel⟩
theorem sc_check_columns : FnScope ["columns"] ["columns"] (defScope s_check_columns) := ⟨rfl, rfl, rfl, by decide +kernel, rfl, by decide +kernel, by decide +kernel⟩
theorem sc_is_column : FnScope ["thing"] ["thing"] (defScope s_is_column) := ⟨rfl, rfl, rfl, by decide +kernel, rfl, by decide +kernel, by decide +kernel⟩
theorem sc_names_of : FnScope ["columns"] ["columns"] (defScope s_names_of) := ⟨rfl, rfl, rfl, by decide +kernel, rfl, by decide +kernel, by decide +kernel⟩
theorem sc_check_row : FnScope ["columns", "row"] ["columns", "row"] (defScope s_check_row) := ⟨rfl, rfl, rfl, by decide +kernel, rfl, by decide +kernel, by decide +kernel⟩
theorem sc_are_worths : FnScope ["columns", "thing"] ["columns", "thing"] (defScope s_are_worths) := ⟨rfl, rfl, rfl, by decide +kernel, rfl, by decide +kernel, by decide +kernel⟩
theorem sc_worths_then : FnScope ["standings", "moment", "standing"] ["standings", "moment"] (defScope s_worths_then) := ⟨rfl, rfl, rfl, by decide +kernel, rfl, by decide +kernel, by decide +kernel⟩
theorem sc_l_cell_at : FnScope ["_law_script", "_law_k"] ["_law_script", "_law_k"] (defScope s_l_cell_at) := ⟨rfl, rfl, rfl, by decide +kernel, rfl, by decide +kernel, by decide +kernel⟩
theorem sc_l_well : FnScope ["_law_cell"] ["_law_cell"] (defScope s_l_well) := ⟨rfl, rfl, rfl, by decide +kernel, rfl, by decide +kernel, by decide +kernel⟩
theorem sc_l_draw : FnScope ["_law_well_here", "_law_most", "_law_found", "_law_turn", "_law_number"] ["_law_well_here", "_law_most"] (defScope s_l_draw) := ⟨rfl, rfl, rfl, by decide +kernel, rfl, by decide +kernel, by decide +kernel⟩
theorem sc_l_columns : FnScope ["_law_well_here", "_law_names", "_law_turn", "_law_found", "_law_k"] ["_law_well_here"] (defScope s_l_columns) := ⟨rfl, rfl, rfl, by decide +kernel, rfl, by decide +kernel, by decide +kernel⟩
theorem sc_l_value : FnScope ["_law_well_here", "_law_kind", "_law_stem"] ["_law_well_here", "_law_kind"] (defScope s_l_value) := ⟨rfl, rfl, rfl, by decide +kernel, rfl, by decide +kernel, by decide +kernel⟩
theorem sc_l_worths : FnScope ["_law_well_here", "_law_columns_here"] ["_law_well_here", "_law_columns_here"] (defScope s_l_worths) := ⟨rfl, rfl, rfl, by decide +kernel, rfl, by decide +kernel, by decide +kernel⟩
theorem sc_l_key : FnScope ["_law_well_here"] ["_law_well_here"] (defScope s_l_key) := ⟨rfl, rfl, rfl, by decide +kernel, rfl, by decide +kernel, by decide +kernel⟩
theorem sc_l_deed : FnScope ["_law_well_here", "_law_columns_here", "_law_known_here", "_law_way", "_law_keys", "_law_key_here"] ["_law_well_here", "_law_columns_here", "_law_known_here"] (defScope s_l_deed) := ⟨rfl, rfl, rfl, by decide +kernel, rfl, by decide +kernel, by decide +kernel⟩
theorem sc_l_known : FnScope ["_law_known_here", "_law_deed_here"] ["_law_known_here", "_law_deed_here"] (defScope s_l_known) := ⟨rfl, rfl, rfl, by decide +kernel, rfl, by decide +kernel, by decide +kernel⟩
theorem sc_l_does : FnScope ["_law_shelf", "_law_deed_here"] ["_law_shelf", "_law_deed_here"] (defScope s_l_does) := ⟨rfl, rfl, rfl, by decide +kernel, rfl, by decide +kernel, by decide +kernel⟩
theorem sc_l_all : FnScope ["_law_shelf"] ["_law_shelf"] (defScope s_l_all) := ⟨rfl, rfl, rfl, by decide +kernel, rfl, by decide +kernel, by decide +kernel⟩
theorem sc_l_by_standings : FnScope ["_law_shelf", "_law_keys", "_law_found", "_law_key_here", "_law_behind", "_law_begin", "_law_end", "_law_worths_here", "_law_moment"] ["_law_shelf", "_law_keys"] (defScope s_l_by_standings) := ⟨rfl, rfl, rfl, by decide +kernel, rfl, by decide +kernel, by decide +kernel⟩
theorem sc_l_again : FnScope ["_law_shelf", "_law_columns_here", "_law_other", "_law_deed_here"] ["_law_shelf", "_law_columns_here"] (defScope s_l_again) := ⟨rfl, rfl, rfl, by decide +kernel, rfl, by decide +kernel, by decide +kernel⟩
theorem sc_law : FnScope ["_law_script", "_law_columns_here", "_law_shelves", "_law_known_here", "_law_keys", "_law_told", "_law_cells", "_law_k", "_law_at", "_law_deed_here", "_law_moment", "_law_rows", "_law_shelf", "_law_other"] ["_law_script"] (defScope s_law) := ⟨rfl, rfl, rfl, by decide +kernel, rfl, by decide +kernel, by decide +kernel⟩
theorem sc_Shelf___init__ : FnScope ["self", "columns"] ["self", "columns"] (defScope (inClass s_Shelf 0)) := ⟨rfl, rfl, rfl, by decide +kernel, rfl, by decide +kernel, by decide +kernel⟩
theorem sc_Shelf_put : FnScope ["self", "key", "worths"] ["self", "key", "worths"] (defScope (inClass s_Shelf 1)) := ⟨rfl, rfl, rfl, by decide +kernel, rfl, by decide +kernel, by decide +kernel⟩
theorem sc_Shelf_change : FnScope ["self", "key", "worths"] ["self", "key", "worths"] (defScope (inClass s_Shelf 2)) := ⟨rfl, rfl, rfl, by decide +kernel, rfl, by decide +kernel, by decide +kernel⟩
theorem sc_Shelf_take : FnScope ["self", "key"] ["self", "key"] (defScope (inClass s_Shelf 3)) := ⟨rfl, rfl, rfl, by decide +kernel, rfl, by decide +kernel, by decide +kernel⟩
theorem sc_Shelf_check_stands : FnScope ["self", "key"] ["self", "key"] (defScope (inClass s_Shelf 4)) := ⟨rfl, rfl, rfl, by decide +kernel, rfl, by decide +kernel, by decide +kernel⟩
theorem sc_Shelf_begin_standing : FnScope ["self", "key", "worths"] ["self", "key", "worths"] (defScope (inClass s_Shelf 5)) := ⟨rfl, rfl, rfl, by decide +kernel, rfl, by decide +kernel, by decide +kernel⟩
theorem sc_Shelf_end_standing : FnScope ["self", "key", "standing"] ["self", "key"] (defScope (inClass s_Shelf 6)) := ⟨rfl, rfl, rfl, by decide +kernel, rfl, by decide +kernel, by decide +kernel⟩
theorem sc_Shelf_now : FnScope ["self"] ["self"] (defScope (inClass s_Shelf 8)) := ⟨rfl, rfl, rfl, by decide +kernel, rfl, by decide +kernel, by decide +kernel⟩
theorem sc_Shelf_worths_at : FnScope ["self", "key", "moment", "then"] ["self", "key", "moment"] (defScope (inClass s_Shelf 9)) := ⟨rfl, rfl, rfl, by decide +kernel, rfl, by decide +kernel, by decide +kernel⟩
theorem sc_Shelf_all_at : FnScope ["self", "moment", "then", "rows"] ["self", "moment"] (defScope (inClass s_Shelf 10)) := ⟨rfl, rfl, rfl, by decide +kernel, rfl, by decide +kernel, by decide +kernel⟩
theorem sc_Shelf_standings_of : FnScope ["self", "key"] ["self", "key"] (defScope (inClass s_Shelf 11)) := ⟨rfl, rfl, rfl, by decide +kernel, rfl, by decide +kernel, by decide +kernel⟩
theorem sc_Shelf_history : FnScope ["self"] ["self"] (defScope (inClass s_Shelf 12)) := ⟨rfl, rfl, rfl, by decide +kernel, rfl, by decide +kernel, by decide +kernel⟩
theorem sc_Shelf_moment_meant : FnScope ["self", "moment"] ["self", "moment"] (defScope (inClass s_Shelf 13)) := ⟨rfl, rfl, rfl, by decide +kernel, rfl, by decide +kernel, by decide +kernel⟩
end My
namespace My
open PySem L2
theorem sm {n : Nat} (h : n ≤ 1000) : n ≤ sizeLine := Nat.le_of_lt (small1000 h)
abbrev FnD (P : Program) (w : World) (K : PySem.W.Frag) (mg : Str → Option Value) (base : Heap) (k : Nat) (f : Addr) (fd : FuncData) (ps : List Str) (sp : SpD) : Prop := FnOk P w K mg base (CXR P w) k f fd ps (SpL K sp)
def Gt (S : Sto) (d : D) : Prop := (∃ k, kdV S d k) ∧ ∀ z, d = .str z → z.cps.size ≤ 1000
def isLet (c : Nat) : Bool := decide (97 ≤ c) && decide (c ≤ 122)
def isFig (c : Nat) : Bool := decide (48 ≤ c) && decide (c ≤ 57)
def isWrd (c : Nat) : Bool := decide (32 ≤ c) && decide (c ≤ 126)
def nameZ (z : Str) : Bool := decide (1 ≤ z.cps.size) && decide (z.cps.size ≤ 8) && z.cps.toList.all isLet
def keyZ (z : Str) : Bool := decide (1 ≤ z.cps.size) && decide (z.cps.size ≤ 12) && (z.cps.toList.head?.any isLet) && z.cps.toList.all fun c => isLet c || isFig c
def wordZ (z : Str) : Bool := decide (z.cps.size ≤ 40) && z.cps.toList.all isWrd
def ofStr (f : Str → Bool) : D → Bool
  | .str z => f z
  | _ => false
def wholeD : D → Bool
  | .int _ => true
  | _ => false
def valB (kind : Str) (d : D) : Bool := isNonD d || if kind = "number" then wholeD d else ofStr wordZ d
def spOf (f : D → Bool) : SpD := fun ds S R _ => ∃ d, ds = [d] ∧ Gt S d ∧ R (.bl (f d)) S
def spSign (f : Nat → Bool) : SpD := fun ds S R _ => ∃ c, ds = [.str ⟨#[c]⟩] ∧ R (.bl (f c)) S
theorem paired_snoc {rel : D → D → Prop} : ∀ {xs ys : List D} {a b : D}, Paired rel xs ys → rel a b → Paired rel (xs ++ [a]) (ys ++ [b])
  | _, _, _, _, .nil, r => .cons r .nil
  | _, _, _, _, .cons q t, r => .cons q (paired_snoc t r)
theorem take_snoc {α : Type} {l : List α} {i : Nat} {d : α} (h : l[i]? = some d) : l.take (i + 1) = l.take i ++ [d] := by
  rw [List.take_add_one, h]; rfl
theorem comp_rel {I : ItD} {S1 : Sto} {g : TGd} {te : TD} {σ : SD} {src : List (Option Nat)} {R : KD} (rel : D → D → Prop) (hok : I.ok S1) (hz : I.xs.length ≤ 1000)
    (step : ∀ d, d ∈ I.xs → ∀ Q : KD, (∀ v, rel d v → Q v S1) → g d (pickD σ src) S1 fun σ3 S3 => te σ3 S3 Q Zf) (fin : ∀ out, Paired rel I.xs out → ∀ p, S1 p = none → R (.ref p) (S1.set p (.lst out))) :
    CompP σ src g dTrue te R I S1 := by
  refine ⟨fun i out S => S = S1 ∧ Paired rel (I.xs.take i) out, ⟨rfl, .nil⟩, fun i out S h => by rw [h.1]; exact hok, ?_, ?_⟩
  · rintro i d out S hd ⟨rfl, hp⟩
    have hlen := Paired.length hp
    rw [List.length_take] at hlen
    refine ⟨small1000 (by omega), ?_⟩
    have e : (fun (σ3 : SD) (S3 : Sto) => dTrue σ3 S3 (fun b S4 => if b = true then te σ3 S4 (fun v S5 => S5 = S ∧ Paired rel (I.xs.take (i + 1)) (out ++ [v])) Zf else S4 = S ∧ Paired rel (I.xs.take (i + 1)) out) Zf) = fun σ3 S3 => te σ3 S3 (fun v S5 => S5 = S ∧ Paired rel (I.xs.take (i + 1)) (out ++ [v])) Zf := by
      funext σ3 S3
      simp [dTrue]
    rw [e]
    exact step d (List.mem_of_getElem? hd) _ fun v hv => ⟨rfl, by rw [take_snoc hd]; exact paired_snoc hp hv⟩
  · rintro out S2 ⟨rfl, hp⟩
    rw [List.take_length] at hp
    exact fin out hp
theorem paired_map {f : D → D} : ∀ {xs out : List D}, Paired (fun d v => v = f d) xs out → out = xs.map f
  | _, _, .nil => rfl
  | _, _, .cons r t => by rw [r, paired_map t]; rfl
theorem comp_map {I : ItD} {S1 : Sto} {g : TGd} {te : TD} {σ : SD} {src : List (Option Nat)} {R : KD} (f : D → D) (hok : I.ok S1) (hz : I.xs.length ≤ 1000)
    (step : ∀ d, d ∈ I.xs → ∀ Q : KD, Q (f d) S1 → g d (pickD σ src) S1 fun σ3 S3 => te σ3 S3 Q Zf) (fin : ∀ p, S1 p = none → R (.ref p) (S1.set p (.lst (I.xs.map f)))) :
    CompP σ src g dTrue te R I S1 :=
  comp_rel (fun d v => v = f d) hok hz (fun d hd Q h => step d hd Q (h _ rfl)) fun out hp p hp' => by rw [paired_map hp]; exact fin p hp'
theorem comp_filt {I : ItD} {S1 : Sto} {g : TGd} {tc : TDt} {te : TD} {σ : SD} {src : List (Option Nat)} {R : KD} (keep : D → Bool) (f : D → D) (hok : I.ok S1) (hz : I.xs.length ≤ 1000)
    (step : ∀ d, d ∈ I.xs → ∀ (Q : KD) (Q' : Sto → Prop), (keep d = true → Q (f d) S1) → (keep d = false → Q' S1) → g d (pickD σ src) S1 fun σ3 S3 => tc σ3 S3 (fun b S4 => if b = true then te σ3 S4 Q Zf else Q' S4) Zf)
    (fin : ∀ p, S1 p = none → R (.ref p) (S1.set p (.lst ((I.xs.filter keep).map f)))) :
    CompP σ src g tc te R I S1 := by
  refine ⟨fun i out S => S = S1 ∧ out = ((I.xs.take i).filter keep).map f, ⟨rfl, rfl⟩, fun i out S h => by rw [h.1]; exact hok, ?_, ?_⟩
  · rintro i d out S hd ⟨rfl, rfl⟩
    have hlen : ((I.xs.take i).filter keep).length ≤ (I.xs.take i).length := List.length_filter_le _ _
    rw [List.length_take] at hlen
    refine ⟨by rw [List.length_map]; exact small1000 (by omega), ?_⟩
    refine step d (List.mem_of_getElem? hd) _ (fun S4 => S4 = S ∧ _ = _) (fun hk => ⟨rfl, ?_⟩) fun hk => ⟨rfl, ?_⟩
    · rw [take_snoc hd, List.filter_append, List.map_append, List.filter_cons, if_pos hk]; rfl
    · rw [take_snoc hd, List.filter_append, List.filter_cons, if_neg (by rw [hk]; exact Bool.false_ne_true)]; simp
  · rintro out S2 ⟨rfl, rfl⟩
    rw [List.take_length]
    exact fin
section
variable {P : Program} {w : World} {K : PySem.W.Frag} {mg : Str → Option Value} {base : Heap} {t : Adr}
theorem ok_is_whole (T : Txt K mg t) : FnD P w K mg base 1 t.f_is_whole t.d_is_whole ["thing"] (spOf wholeD) := by
  refine T.F_is_whole.ok sc_is_whole (fun ds S R Z ⟨d, e, _⟩ => by rw [e]; rfl) (fun cdv A outer s H E ds S R Z hr ⟨d, e, ⟨⟨k, hk⟩, hz⟩, q⟩ => ?_)
  subst e
  refine ⟨_, (s1 (sr (eand (cb c_isi T.n_isinstance bt_isinstance (ac (dv 0) (ac (dty T.n_int bt_int) an))) (ev1 (enot (cb c_isi T.n_isinstance bt_isinstance (ac (dv 0) (ac (dty T.n_bool bt_bool) an)))))))), ?_⟩
  refine ⟨_, rfl, _, _, _, _, rfl, isa_int, hk, _, rfl, ?_⟩
  have : (isaInt k = true ∧ ((wholeD d = true ∧ isaBool k = false) ∨ (wholeD d = false ∧ isaBool k = true))) ∨ (isaInt k = false ∧ wholeD d = false) := by
    cases d with
    | non => cases hk; exact .inr ⟨rfl, rfl⟩
    | bl b => cases hk; exact .inl ⟨rfl, .inr ⟨rfl, rfl⟩⟩
    | int b => cases hk; exact .inl ⟨rfl, .inl ⟨rfl, rfl⟩⟩
    | str b => cases hk; exact .inr ⟨rfl, rfl⟩
    | tup b => cases hk; exact .inr ⟨rfl, rfl⟩
    | ref a => rcases hk with ⟨rfl, _⟩ | ⟨rfl, _⟩ <;> exact .inr ⟨rfl, rfl⟩
    | _ => exact hk.elim
  rcases this with ⟨h1, h2⟩ | ⟨h1, h2⟩
  · rw [h1]
    refine iteT ⟨_, rfl, _, _, _, _, rfl, isa_bool, hk, _, rfl, ?_⟩
    rcases h2 with ⟨h2, h3⟩ | ⟨h2, h3⟩ <;> (rw [h3]; rw [h2] at q; exact fo q)
  · rw [h1]
    rw [h2] at q
    exact iteF (fo q)
theorem ok_is_letter (T : Txt K mg t) : FnD P w K mg base 1 t.f_is_letter t.d_is_letter ["sign"] (spSign isLet) := by
  refine T.F_is_letter.ok sc_is_letter (fun ds S R Z ⟨d, e, _⟩ => by rw [e]; rfl) (fun cdv A outer s H E ds S R Z hr ⟨c, e, q⟩ => ?_)
  subst e
  refine ⟨_, (s1 (sr (cc o_le o_le hr.units ds (dv 0) ds))), ?_⟩
  refine ⟨_, rfl, _, rfl, ?_⟩
  have e1 : sLe "a" ⟨#[c]⟩ = decide (97 ≤ c) := sLe_one 97 c
  have e2 : sLe ⟨#[c]⟩ "z" = decide (c ≤ 122) := sLe_one c 122
  unfold isLet at q
  refine ifb (fun h => ?_) (fun h => ?_)
  · rw [e1.symm.trans h, Bool.true_and, ← e2] at q
    exact fo q
  · rw [e1.symm.trans h, Bool.false_and] at q
    exact fo q
theorem ok_is_figure (T : Txt K mg t) : FnD P w K mg base 1 t.f_is_figure t.d_is_figure ["sign"] (spSign isFig) := by
  refine T.F_is_figure.ok sc_is_figure (fun ds S R Z ⟨d, e, _⟩ => by rw [e]; rfl) (fun cdv A outer s H E ds S R Z hr ⟨c, e, q⟩ => ?_)
  subst e
  refine ⟨_, (s1 (sr (cc o_le o_le hr.units ds (dv 0) ds))), ?_⟩
  refine ⟨_, rfl, _, rfl, ?_⟩
  have e1 : sLe "0" ⟨#[c]⟩ = decide (48 ≤ c) := sLe_one 48 c
  have e2 : sLe ⟨#[c]⟩ "9" = decide (c ≤ 57) := sLe_one c 57
  unfold isFig at q
  refine ifb (fun h => ?_) (fun h => ?_)
  · rw [e1.symm.trans h, Bool.true_and, ← e2] at q
    exact fo q
  · rw [e1.symm.trans h, Bool.false_and] at q
    exact fo q
end
end My
namespace My
open PySem L2
theorem signs_mem {z : Str} {d : D} (h : d ∈ signsD z) : ∃ c, c ∈ z.cps.toList ∧ d = .str ⟨#[c]⟩ := by
  unfold signsD at h
  obtain ⟨c, hc, e⟩ := List.mem_map.mp h
  exact ⟨c, hc, e.symm⟩
def signF (f : Nat → Bool) : D → D
  | .str z => .bl (z.cps.toList.head?.any f)
  | _ => .non
theorem signs_map {z : Str} {f : Nat → Bool} : (signsD z).map (signF f) = (z.cps.toList.map f).map D.bl := by
  unfold signsD
  rw [List.map_map, List.map_map]
  rfl
theorem all_map {α : Type} {l : List α} {f : α → Bool} : (l.map f).all id = l.all f := by
  rw [List.all_map]; rfl
theorem all_signs {z : Str} {f : Nat → Bool} {g : TGd} {te : TD} {σ : SD} {src : List (Option Nat)} {S : Sto} {R : KD} {Z : KX} {i : Nat} (hv : σ[i]? = some (some (.str z))) (hz : z.cps.size ≤ 1000)
    (step : ∀ c, c ∈ z.cps.toList → ∀ Q : KD, Q (.bl (f c)) S → g (.str ⟨#[c]⟩) (pickD σ src) S fun σ3 S3 => te σ3 S3 Q Zf) (q : R (.bl (z.cps.toList.all f)) S) :
    dCB allD (aCons (dComp (iStrD (dVar i)) src g dTrue te) aNil) σ S (fun d S' => Fo S' (R d)) Z := by
  refine ⟨_, hv, z, rfl, ?_⟩
  refine My.comp_map (I := ⟨signsD z, fun _ => True⟩) (signF f) trivial (by show (signsD z).length ≤ 1000; unfold signsD; rw [List.length_map, Array.length_toList]; exact hz) (fun d hd Q hQ => ?_) fun p hp => ?_
  · obtain ⟨c, hc, rfl⟩ := signs_mem hd
    exact step c hc Q (by simpa [signF] using hQ)
  · refine ⟨.ref p, z.cps.toList.map f, rfl, ?_, S, .new hp, ?_⟩
    · show (S.set p (.lst ((signsD z).map (signF f)))) p = _
      rw [sset_same, signs_map]
    · rw [all_map]; exact q
section
variable {P : Program} {w : World} {K : PySem.W.Frag} {mg : Str → Option Value} {base : Heap} {t : Adr}
theorem kd_str {S : Sto} {d : D} {k : Kd} (hk : kdV S d k) : (∃ z, d = .str z ∧ isaStr k = true) ∨ (isaStr k = false ∧ ∀ f, ofStr f d = false) := by
  cases d with
  | str b => cases hk; exact .inl ⟨b, rfl, rfl⟩
  | non => cases hk; exact .inr ⟨rfl, fun _ => rfl⟩
  | bl b => cases hk; exact .inr ⟨rfl, fun _ => rfl⟩
  | int b => cases hk; exact .inr ⟨rfl, fun _ => rfl⟩
  | tup b => cases hk; exact .inr ⟨rfl, fun _ => rfl⟩
  | ref a => rcases hk with ⟨rfl, _⟩ | ⟨rfl, _⟩ <;> exact .inr ⟨rfl, fun _ => rfl⟩
  | _ => exact hk.elim
theorem kd_tup {S : Sto} {d : D} {k : Kd} (hk : kdV S d k) : (∃ ds, d = .tup ds ∧ isaTuple k = true) ∨ (isaTuple k = false ∧ ∀ ds, d ≠ .tup ds) := by
  cases d with
  | tup b => cases hk; exact .inl ⟨b, rfl, rfl⟩
  | non => cases hk; exact .inr ⟨rfl, fun _ => nofun⟩
  | bl b => cases hk; exact .inr ⟨rfl, fun _ => nofun⟩
  | int b => cases hk; exact .inr ⟨rfl, fun _ => nofun⟩
  | str b => cases hk; exact .inr ⟨rfl, fun _ => nofun⟩
  | ref a => rcases hk with ⟨rfl, _⟩ | ⟨rfl, _⟩ <;> exact .inr ⟨rfl, fun _ => nofun⟩
  | _ => exact hk.elim
theorem ok_is_name (T : Txt K mg t) : FnD P w K mg base 2 t.f_is_name t.d_is_name ["thing"] (spOf (ofStr nameZ)) := by
  have G_is_letter : FnD P w K mg base 1 t.f_is_letter t.d_is_letter ["sign"] (spSign isLet) := ok_is_letter T
  refine T.F_is_name.ok sc_is_name (fun ds S R Z ⟨d, e, _⟩ => by rw [e]; rfl) (fun cdv A outer s H E ds S R Z hr ⟨d, e, ⟨⟨k, hk⟩, hz⟩, q⟩ => ?_)
  subst e
  refine ⟨_, (sc (si (twd (twor (tnot (tv (cb c_isi T.n_isinstance bt_isinstance (ac (dv 0) (ac (dty T.n_str bt_str) an))))) (tw1 (tnot (tcc o_le o_le hr.units di (cb c_len T.n_len bt_len (ac (dv 0) an)) (dg (v := .int 8) T.mg_MOST_NAME_SIGNS ⟨_, rfl⟩ fun _ => rv_int _)))))) (s1 (sr db)) s0) (s1 (sr (cb c_all T.n_all bt_all (ac (eco (N := ["sign"]) (src := [none]) (csc (defScope s_is_name) ["thing"] rfl rfl (by decide +kernel)) (istr (dv 0)) (cg1 (show (["sign"] : List Str).Nodup by decide +kernel)) (gx_name rfl) gd_name (fun _ _ _ _ _ => if0) (fun _ _ _ _ _ => (cf (G_is_letter.mono (by decide)) hr T.mg_is_letter T.k_is_letter T.b_is_letter d0 (ac (dv 0) an)))) an))))), ?_⟩
  refine ⟨_, rfl, _, _, _, _, rfl, isa_str, hk, _, rfl, ?_⟩
  rcases kd_str hk with ⟨z, rfl, h0⟩ | ⟨h0, h1⟩
  · have hz := hz z rfl
    rw [h0]
    refine iteF ?_
    refine ⟨_, rfl, _, rfl, ⟨sm hz, ?_⟩⟩
    refine ⟨_, rfl, ?_⟩
    have e1 : decide ((1 : Int) ≤ (z.length : Nat)) = decide (1 ≤ z.cps.size) := by rw [decide_eq_decide]; show (1 : Int) ≤ ((z.cps.size : Nat) : Int) ↔ _; omega
    have e2 : decide (((z.length : Nat) : Int) ≤ 8) = decide (z.cps.size ≤ 8) := by rw [decide_eq_decide]; show ((z.cps.size : Nat) : Int) ≤ 8 ↔ _; omega
    unfold ofStr nameZ at q
    dsimp only at q
    refine ifb (fun h2 => ?_) (fun h2 => ?_)
    · rw [e1.symm.trans h2, Bool.true_and] at q
      refine ⟨_, rfl, ?_⟩
      refine ifb (fun h3 => ?_) (fun h3 => ?_)
      · rw [e2.symm.trans (nt h3), Bool.false_and] at q
        exact fo q
      · rw [e2.symm.trans (nf h3), Bool.true_and] at q
        exact all_signs rfl hz (fun c hc Q hQ => ⟨_, rfl, c, rfl, hQ⟩) q
    · rw [e1.symm.trans h2, Bool.false_and, Bool.false_and] at q
      refine ⟨_, rfl, ?_⟩
      exact iteT (fo q)
  · rw [h0]
    rw [h1] at q
    exact iteT (iteT (fo q))
end
end My
namespace My
open PySem L2
def colD (c : Str × Str) : D := .tup [.str c.1, .str c.2]
def Gd (cs : List (Str × Str)) : Prop := cs.length ≤ 8 ∧ (cs.map Prod.fst).Nodup ∧ ∀ c ∈ cs, nameZ c.1 = true ∧ (c.2 = "number" ∨ c.2 = "word")
def worthsB (cs : List (Str × Str)) : D → Bool
  | .tup ws => decide (ws.length = cs.length) && (List.zipWith (fun c v => valB c.2 v) cs ws).all id
  | _ => false
def rowB (cs : List (Str × Str)) (k v : D) : Bool := ofStr keyZ k && worthsB cs v
def Gts (S : Sto) (d : D) : Prop := Gt S d ∧ ∀ ws, d = .tup ws → ws.length ≤ 1000 ∧ ∀ v ∈ ws, Gt S v
section
variable {P : Program} {w : World} {K : PySem.W.Frag} {mg : Str → Option Value} {base : Heap} {t : Adr}
theorem ok_is_key (T : Txt K mg t) : FnD P w K mg base 2 t.f_is_key t.d_is_key ["thing"] (spOf (ofStr keyZ)) := by
  have G_is_letter : FnD P w K mg base 1 t.f_is_letter t.d_is_letter ["sign"] (spSign isLet) := ok_is_letter T
  have G_is_figure : FnD P w K mg base 1 t.f_is_figure t.d_is_figure ["sign"] (spSign isFig) := ok_is_figure T
  refine T.F_is_key.ok sc_is_key (fun ds S R Z ⟨d, e, _⟩ => by rw [e]; rfl) (fun cdv A outer s H E ds S R Z hr ⟨d, e, ⟨⟨k, hk⟩, hz⟩, q⟩ => ?_)
  subst e
  refine ⟨_, (sc (si (twd (twor (tnot (tv (cb c_isi T.n_isinstance bt_isinstance (ac (dv 0) (ac (dty T.n_str bt_str) an))))) (tw1 (tnot (tcc o_le o_le hr.units di (cb c_len T.n_len bt_len (ac (dv 0) an)) (dg (v := .int 12) T.mg_MOST_KEY_SIGNS ⟨_, rfl⟩ fun _ => rv_int _)))))) (s1 (sr db)) s0) (sc (si (tnot (tv (cf (G_is_letter.mono (by decide)) hr T.mg_is_letter T.k_is_letter T.b_is_letter d0 (ac (ix hr.units (dv 0) di) an)))) (s1 (sr db)) s0) (s1 (sr (cb c_all T.n_all bt_all (ac (eco (N := ["sign"]) (src := [none]) (csc (defScope s_is_key) ["thing"] rfl rfl (by decide +kernel)) (istr (dv 0)) (cg1 (show (["sign"] : List Str).Nodup by decide +kernel)) (gx_name rfl) gd_name (fun _ _ _ _ _ => if0) (fun _ _ _ _ _ => (eor (cf (G_is_letter.mono (by decide)) hr T.mg_is_letter T.k_is_letter T.b_is_letter d0 (ac (dv 0) an)) (ev1 (cf (G_is_figure.mono (by decide)) hr T.mg_is_figure T.k_is_figure T.b_is_figure d0 (ac (dv 0) an)))))) an)))))), ?_⟩
  refine ⟨_, rfl, _, _, _, _, rfl, isa_str, hk, _, rfl, ?_⟩
  rcases kd_str hk with ⟨z, rfl, h0⟩ | ⟨h0, h1⟩
  · have hz := hz z rfl
    rw [h0]
    refine iteF ?_
    refine ⟨_, rfl, _, rfl, ⟨sm hz, ?_⟩⟩
    refine ⟨_, rfl, ?_⟩
    have e1 : decide ((1 : Int) ≤ (z.length : Nat)) = decide (1 ≤ z.cps.size) := by rw [decide_eq_decide]; show (1 : Int) ≤ ((z.cps.size : Nat) : Int) ↔ _; omega
    have e2 : decide (((z.length : Nat) : Int) ≤ 12) = decide (z.cps.size ≤ 12) := by rw [decide_eq_decide]; show ((z.cps.size : Nat) : Int) ≤ 12 ↔ _; omega
    unfold ofStr keyZ at q
    dsimp only at q
    refine ifb (fun h2 => ?_) (fun h2 => ?_)
    · have h2' := e1.symm.trans h2
      rw [h2', Bool.true_and] at q
      refine ⟨_, rfl, ?_⟩
      refine ifb (fun h3 => ?_) (fun h3 => ?_)
      · rw [e2.symm.trans (nt h3), Bool.false_and, Bool.false_and] at q
        exact fo q
      · rw [e2.symm.trans (nf h3), Bool.true_and] at q
        obtain ⟨c, r, ec⟩ := len_pos (z := z) (of_decide_eq_true h2')
        have eh : z.cps.toList.head?.any isLet = isLet c := by rw [ec]; rfl
        rw [eh] at q
        refine ⟨_, rfl, c, sm hz, at0 ec, c, rfl, _, rfl, ?_⟩
        refine ifb (fun h4 => ?_) (fun h4 => ?_)
        · rw [nt h4, Bool.false_and] at q
          exact fo q
        · rw [nf h4, Bool.true_and] at q
          refine all_signs (f := fun c => isLet c || isFig c) rfl hz (fun c hc Q hQ => ?_) q
          refine ⟨_, rfl, c, rfl, _, rfl, ?_⟩
          refine ifb (fun h5 => ?_) (fun h5 => ?_)
          · rw [h5, Bool.true_or] at hQ
            exact hQ
          · rw [h5, Bool.false_or] at hQ
            exact ⟨_, rfl, c, rfl, hQ⟩
    · rw [e1.symm.trans h2, Bool.false_and, Bool.false_and, Bool.false_and] at q
      refine ⟨_, rfl, ?_⟩
      exact iteT (fo q)
  · rw [h0]
    rw [h1] at q
    exact iteT (iteT (fo q))
theorem ok_is_word (T : Txt K mg t) : FnD P w K mg base 2 t.f_is_word t.d_is_word ["thing"] (spOf (ofStr wordZ)) := by
  refine T.F_is_word.ok sc_is_word (fun ds S R Z ⟨d, e, _⟩ => by rw [e]; rfl) (fun cdv A outer s H E ds S R Z hr ⟨d, e, ⟨⟨k, hk⟩, hz⟩, q⟩ => ?_)
  subst e
  refine ⟨_, (sc (si (twd (twor (tnot (tv (cb c_isi T.n_isinstance bt_isinstance (ac (dv 0) (ac (dty T.n_str bt_str) an))))) (tw1 (tcm o_gt hr.units (cb c_len T.n_len bt_len (ac (dv 0) an)) (dg (v := .int 40) T.mg_MOST_WORD_SIGNS ⟨_, rfl⟩ fun _ => rv_int _))))) (s1 (sr db)) s0) (s1 (sr (cb c_all T.n_all bt_all (ac (eco (N := ["sign"]) (src := [none]) (csc (defScope s_is_word) ["thing"] rfl rfl (by decide +kernel)) (istr (dv 0)) (cg1 (show (["sign"] : List Str).Nodup by decide +kernel)) (gx_name rfl) gd_name (fun _ _ _ _ _ => if0) (fun _ _ _ _ _ => (cc o_le o_le hr.units ds (dv 0) ds))) an))))), ?_⟩
  refine ⟨_, rfl, _, _, _, _, rfl, isa_str, hk, _, rfl, ?_⟩
  rcases kd_str hk with ⟨z, rfl, h0⟩ | ⟨h0, h1⟩
  · have hz := hz z rfl
    rw [h0]
    refine iteF ?_
    refine ⟨_, rfl, _, rfl, ⟨sm hz, ?_⟩⟩
    refine ⟨_, rfl, ?_⟩
    have e2 : decide ((40 : Int) < ((z.length : Nat) : Int)) = !decide (z.cps.size ≤ 40) := by
      rw [Bool.eq_iff_iff]; simp only [decide_eq_true_iff, Bool.not_eq_true', decide_eq_false_iff_not]; show (40 : Int) < ((z.cps.size : Nat) : Int) ↔ _; omega
    unfold ofStr wordZ at q
    dsimp only at q
    refine ifb (fun h3 => ?_) (fun h3 => ?_)
    · rw [nt (e2.symm.trans h3), Bool.false_and] at q
      exact fo q
    · rw [nf (e2.symm.trans h3), Bool.true_and] at q
      refine all_signs (f := isWrd) rfl hz (fun c hc Q hQ => ?_) q
      refine ⟨_, rfl, _, rfl, ?_⟩
      have e3 : sLe " " ⟨#[c]⟩ = decide (32 ≤ c) := sLe_one 32 c
      have e4 : sLe ⟨#[c]⟩ "~" = decide (c ≤ 126) := sLe_one c 126
      unfold isWrd at hQ
      refine ifb (fun h => ?_) (fun h => ?_)
      · rw [e3.symm.trans h, Bool.true_and, ← e4] at hQ
        exact hQ
      · rw [e3.symm.trans h, Bool.false_and] at hQ
        exact hQ
  · rw [h0]
    rw [h1] at q
    exact iteT (iteT (fo q))
theorem ok_is_value (T : Txt K mg t) : FnD P w K mg base 3 t.f_is_value t.d_is_value ["kind", "thing"] (fun ds S R _ => ∃ kind d, ds = [.str kind, d] ∧ Gt S d ∧ R (.bl (valB kind d)) S) := by
  have G_is_whole : FnD P w K mg base 1 t.f_is_whole t.d_is_whole ["thing"] (spOf wholeD) := ok_is_whole T
  have G_is_word : FnD P w K mg base 2 t.f_is_word t.d_is_word ["thing"] (spOf (ofStr wordZ)) := ok_is_word T
  refine T.F_is_value.ok sc_is_value (fun ds S R Z ⟨d, d', e, _⟩ => by rw [e]; rfl) (fun cdv A outer s H E ds S R Z hr ⟨kind, d, e, hd, q⟩ => ?_)
  subst e
  refine ⟨_, (sc (si (tcm o_is hr.units (dv 1) dn) (s1 (sr db)) s0) (sc (si (tcm o_eq hr.units (dv 0) ds) (s1 (sr (cf (G_is_whole.mono (by decide)) hr T.mg_is_whole T.k_is_whole T.b_is_whole d0 (ac (dv 1) an)))) s0) (s1 (sr (cf (G_is_word.mono (by decide)) hr T.mg_is_word T.k_is_word T.b_is_word d0 (ac (dv 1) an)))))), ?_⟩
  refine ⟨_, rfl, _, rfl, ?_⟩
  unfold valB at q
  refine ifb (fun h => ?_) (fun h => ?_)
  · rw [h, Bool.true_or] at q
    exact fo q
  · rw [h, Bool.false_or] at q
    refine ⟨_, rfl, _, rfl, ?_⟩
    refine ifb (fun h => ?_) (fun h => ?_)
    · rw [if_pos (of_decide_eq_true h)] at q
      exact ⟨_, rfl, d, rfl, hd, fo q⟩
    · rw [if_neg (of_decide_eq_false h)] at q
      exact ⟨_, rfl, d, rfl, hd, fo q⟩
end
end My
namespace My
open PySem L2
theorem gt_str {S : Sto} {z : Str} (h : z.cps.size ≤ 1000) : Gt S (.str z) := ⟨⟨.str, rfl⟩, fun y e => by cases e; exact h⟩
theorem name_size {z : Str} (h : nameZ z = true) : z.cps.size ≤ 1000 := by
  unfold nameZ at h
  simp only [Bool.and_eq_true, decide_eq_true_eq] at h
  omega
theorem zip_pairs {cs : List (Str × Str)} {ws : List D} {f : D → D} (h : ∀ c v, f (.tup [colD c, v]) = .bl (valB c.2 v)) : (pairsD (cs.map colD) ws).map f = (List.zipWith (fun c v => valB c.2 v) cs ws).map D.bl := by
  unfold pairsD
  induction cs generalizing ws with
  | nil => cases ws <;> rfl
  | cons c cs ih =>
    cases ws with
    | nil => rfl
    | cons v ws =>
      show f (.tup [colD c, v]) :: (List.zipWith _ (cs.map colD) ws).map f = .bl (valB c.2 v) :: _
      rw [h, ih]
def pairF : D → D
  | .tup [.tup [_, .str k], v] => .bl (valB k v)
  | _ => .non
section
variable {P : Program} {w : World} {K : PySem.W.Frag} {mg : Str → Option Value} {base : Heap} {t : Adr}
theorem ok_is_kind (T : Txt K mg t) : FnD P w K mg base 1 t.f_is_kind t.d_is_kind ["thing"] (fun ds S R _ => ∃ z, ds = [.str z] ∧ (z = "number" ∨ z = "word") ∧ R (.bl true) S) := by
  refine T.F_is_kind.ok sc_is_kind (fun ds S R Z ⟨d, e, _⟩ => by rw [e]; rfl) (fun cdv A outer s H E ds S R Z hr ⟨z, e, hz, q⟩ => ?_)
  subst e
  refine ⟨_, (s1 (sr (eand (cb c_isi T.n_isinstance bt_isinstance (ac (dv 0) (ac (dty T.n_str bt_str) an))) (ev1 (cm o_in hr.units (dv 0) (dg (v := .ref t.a_KINDS) T.mg_KINDS rfl T.kt_KINDS)))))), ?_⟩
  refine ⟨_, rfl, _, _, _, _, rfl, isa_str, rfl, _, rfl, iteT ⟨_, rfl, rfl, rfl, ?_⟩⟩
  have e : inV (vOf (.str z)) ([D.str "number", D.str "word"].map vOf) = true := by rcases hz with rfl | rfl <;> decide +kernel
  show Fo S (R (.bl (if false = true then _ else inV (vOf (.str z)) ([D.str "number", D.str "word"].map vOf))))
  rw [if_neg Bool.false_ne_true, e]
  exact fo q
theorem ok_is_column (T : Txt K mg t) : FnD P w K mg base 3 t.f_is_column t.d_is_column ["thing"] (fun ds S R _ => ∃ c, ds = [colD c] ∧ nameZ c.1 = true ∧ (c.2 = "number" ∨ c.2 = "word") ∧ R (.bl true) S) := by
  have G_is_name : FnD P w K mg base 2 t.f_is_name t.d_is_name ["thing"] (spOf (ofStr nameZ)) := ok_is_name T
  have G_is_kind : FnD P w K mg base 1 t.f_is_kind t.d_is_kind ["thing"] (fun ds S R _ => ∃ z, ds = [.str z] ∧ (z = "number" ∨ z = "word") ∧ R (.bl true) S) := ok_is_kind T
  refine T.F_is_column.ok sc_is_column (fun ds S R Z ⟨d, e, _⟩ => by rw [e]; rfl) (fun cdv A outer s H E ds S R Z hr ⟨c, e, h1, h2, q⟩ => ?_)
  subst e
  refine ⟨_, (sc (si (twd (twor (tnot (tv (cb c_isi T.n_isinstance bt_isinstance (ac (dv 0) (ac (dty T.n_tuple bt_tuple) an))))) (tw1 (tcm o_ne hr.units (cb c_len T.n_len bt_len (ac (dv 0) an)) di)))) (s1 (sr db)) s0) (s1 (sr (eand (cf (G_is_name.mono (by decide)) hr T.mg_is_name T.k_is_name T.b_is_name d0 (ac (ix hr.units (dv 0) di) an)) (ev1 (cf (G_is_kind.mono (by decide)) hr T.mg_is_kind T.k_is_kind T.b_is_kind d0 (ac (ix hr.units (dv 0) di) an))))))), ?_⟩
  refine ⟨_, rfl, _, _, _, _, rfl, isa_tuple, rfl, _, rfl, ?_⟩
  refine iteF ⟨_, rfl, _, rfl, _, rfl, iteF ?_⟩
  refine ⟨_, rfl, _, rfl, _, rfl, gt_str (name_size h1), _, rfl, ?_⟩
  show if nameZ c.1 = true then _ else _
  rw [h1]
  exact iteT ⟨_, rfl, _, rfl, _, rfl, h2, fo q⟩
theorem ok_names_of (T : Txt K mg t) : FnD P w K mg base 1 t.f_names_of t.d_names_of ["columns"] (fun ds S R _ => ∃ cs : List (Str × Str), ds = [.tup (cs.map colD)] ∧ cs.length ≤ 8 ∧ ∀ p, S p = none → R (.ref p) (S.set p (.lst ((cs.map Prod.fst).map D.str)))) := by
  refine T.F_names_of.ok sc_names_of (fun ds S R Z ⟨d, e, _⟩ => by rw [e]; rfl) (fun cdv A outer s H E ds S R Z hr ⟨cs, e, hl, q⟩ => ?_)
  subst e
  refine ⟨_, (s1 (sr (eco (N := ["name", "kind"]) (src := [none, none]) (csc (defScope s_names_of) ["columns"] rfl rfl (by decide +kernel)) (itp (dv 0)) (cg2 (show (["name", "kind"] : List Str).Nodup by decide +kernel)) (gx_tup2 rfl rfl) gd_tup2 (fun _ _ _ _ _ => if0) (fun _ _ _ _ _ => (dv 0))))), ?_⟩
  refine ⟨_, rfl, _, .inl rfl, ?_⟩
  refine comp_map (fun d => match d with | .tup (x :: _) => x | _ => .non) trivial (by show (cs.map colD).length ≤ 1000; rw [List.length_map]; omega) (fun d hd Q hQ => ?_) fun p hp => ?_
  · obtain ⟨c, hc, rfl⟩ := List.mem_map.mp hd
    exact ⟨_, rfl, rfl, _, _, rfl, _, _, rfl, rfl, _, rfl, hQ⟩
  · have e : (cs.map colD).map (fun d => match d with | .tup (x :: _) => x | _ => .non) = (cs.map Prod.fst).map D.str := by
      rw [List.map_map, List.map_map]; rfl
    show Fo (S.set p (.lst ((cs.map colD).map _))) (R (.ref p))
    rw [e]
    exact fo (q p hp)
theorem ok_check_columns (T : Txt K mg t) : FnD P w K mg base 4 t.f_check_columns t.d_check_columns ["columns"] (fun ds S R _ => ∃ cs, ds = [.tup (cs.map colD)] ∧ Gd cs ∧ R .non S) := by
  have G_is_column : FnD P w K mg base 3 t.f_is_column t.d_is_column ["thing"] _ := ok_is_column T
  have G_names_of : FnD P w K mg base 1 t.f_names_of t.d_names_of ["columns"] _ := ok_names_of T
  refine T.F_check_columns.ok sc_check_columns (fun ds S R Z ⟨d, e, _⟩ => by rw [e]; rfl) (fun cdv A outer s H E ds S R Z hr ⟨cs, e, ⟨hl, hn, hg⟩, q⟩ => ?_)
  subst e
  refine ⟨_, (sc (si (twd (twor (tnot (tv (cb c_isi T.n_isinstance bt_isinstance (ac (dv 0) (ac (dty T.n_tuple bt_tuple) an))))) (tw1 (tcm o_gt hr.units (cb c_len T.n_len bt_len (ac (dv 0) an)) (dg (v := .int 8) T.mg_MOST_COLUMNS ⟨_, rfl⟩ fun _ => rv_int _))))) (s1 (sra ⟨T.x_BadColumns⟩ T.mg_BadColumns (ac ds an))) s0) (sc (si (tnot (tv (cb c_all T.n_all bt_all (ac (eco (N := ["column"]) (src := [none]) (csc (defScope s_check_columns) ["columns"] rfl rfl (by decide +kernel)) (itp (dv 0)) (cg1 (show (["column"] : List Str).Nodup by decide +kernel)) (gx_name rfl) gd_name (fun _ _ _ _ _ => if0) (fun _ _ _ _ _ => (cf (G_is_column.mono (by decide)) hr T.mg_is_column T.k_is_column T.b_is_column d0 (ac (dv 0) an)))) an)))) (s1 (sra ⟨T.x_BadColumns⟩ T.mg_BadColumns (ac ds an))) s0) (s1 (si (tcm o_ne hr.units (lse (cf (G_names_of.mono (by decide)) hr T.mg_names_of T.k_names_of T.b_names_of d0 (ac (dv 0) an)) T.n_len T.n_set) (cb c_len T.n_len bt_len (ac (dv 0) an))) (s1 (sra ⟨T.x_BadColumns⟩ T.mg_BadColumns (ac ds an))) s0)))), ?_⟩
  refine ⟨_, rfl, _, _, _, _, rfl, isa_tuple, rfl, _, rfl, ?_⟩
  have e1 : decide ((8 : Int) < ((cs.map colD).length : Nat)) = false := decide_eq_false (by rw [List.length_map]; omega)
  refine iteF ⟨_, rfl, _, rfl, _, rfl, ?_⟩
  show if decide ((8 : Int) < ((cs.map colD).length : Nat)) = true then _ else _
  rw [e1]
  refine iteF ?_
  refine ⟨_, rfl, _, .inl rfl, ?_⟩
  refine comp_map (fun _ => .bl true) trivial (by show (cs.map colD).length ≤ 1000; rw [List.length_map]; omega) (fun d hd Q hQ => ?_) fun p hp => ?_
  · obtain ⟨c, hc, rfl⟩ := List.mem_map.mp hd
    exact ⟨_, rfl, c, rfl, (hg c hc).1, (hg c hc).2, hQ⟩
  · have e2 : (cs.map colD).map (fun _ => D.bl true) = (cs.map fun _ => true).map D.bl := by rw [List.map_map, List.map_map]; rfl
    have e3 : (cs.map fun _ => true).all id = true := by rw [all_map]; exact List.all_eq_true.mpr fun _ _ => rfl
    refine ⟨.ref p, cs.map fun _ => true, rfl, ?_, _, rfl, ?_⟩
    · show (S.set p (.lst ((cs.map colD).map _))) p = _
      rw [sset_same, e2]
    rw [e3]
    refine iteF ?_
    refine ⟨_, rfl, cs, rfl, hl, fun p2 hp2 => ?_⟩
    refine ⟨cs.map Prod.fst, sset_same, by rw [List.length_map]; omega, _, rfl, _, rfl, _, rfl, ?_⟩
    have e4 : decide ((((unl (cs.map Prod.fst)).length : Nat) : Int) = (((cs.map colD).length : Nat) : Int)) = true := decide_eq_true (by rw [(unl_nodup _).mpr hn, List.length_map, List.length_map])
    show if (if true = true then !decide ((((unl (cs.map Prod.fst)).length : Nat) : Int) = (((cs.map colD).length : Nat) : Int)) else _) = true then _ else _
    rw [if_pos rfl, e4]
    exact iteF ⟨S, (Sub.new hp).trans (.new hp2), q⟩
theorem ok_are_worths (T : Txt K mg t) : FnD P w K mg base 4 t.f_are_worths t.d_are_worths ["columns", "thing"] (fun ds S R _ => ∃ cs d, ds = [.tup (cs.map colD), d] ∧ cs.length ≤ 8 ∧ Gts S d ∧ R (.bl (worthsB cs d)) S) := by
  have G_is_value : FnD P w K mg base 3 t.f_is_value t.d_is_value ["kind", "thing"] _ := ok_is_value T
  refine T.F_are_worths.ok sc_are_worths (fun ds S R Z ⟨d, d', e, _⟩ => by rw [e]; rfl) (fun cdv A outer s H E ds S R Z hr ⟨cs, d, e, hl, ⟨⟨⟨k, hk⟩, hz⟩, hw⟩, q⟩ => ?_)
  subst e
  refine ⟨_, (sc (si (twd (twor (tnot (tv (cb c_isi T.n_isinstance bt_isinstance (ac (dv 1) (ac (dty T.n_tuple bt_tuple) an))))) (tw1 (tcm o_ne hr.units (cb c_len T.n_len bt_len (ac (dv 1) an)) (cb c_len T.n_len bt_len (ac (dv 0) an)))))) (s1 (sr db)) s0) (s1 (sr (cb c_all T.n_all bt_all (ac (eco (N := ["column", "value"]) (src := [none, none]) (csc (defScope s_are_worths) ["columns", "thing"] rfl rfl (by decide +kernel)) (izp T.n_zip (ac (dv 0) (ac (dv 1) an))) (cg2 (show (["column", "value"] : List Str).Nodup by decide +kernel)) (gx_tup2 rfl rfl) gd_tup2 (fun _ _ _ _ _ => if0) (fun _ _ _ _ _ => (cf (G_is_value.mono (by decide)) hr T.mg_is_value T.k_is_value T.b_is_value d0 (ac (ix hr.units (dv 0) di) (ac (dv 1) an))))) an))))), ?_⟩
  refine ⟨_, rfl, _, _, _, _, rfl, isa_tuple, hk, _, rfl, ?_⟩
  rcases kd_tup hk with ⟨ws, rfl, h0⟩ | ⟨h0, h1⟩
  · obtain ⟨hw1, hw2⟩ := hw ws rfl
    rw [h0]
    refine iteF ⟨_, rfl, _, rfl, _, rfl, _, rfl, _, rfl, ?_⟩
    have e1 : decide (((ws.length : Nat) : Int) = (((cs.map colD).length : Nat) : Int)) = decide (ws.length = cs.length) := by rw [decide_eq_decide, List.length_map]; omega
    unfold worthsB at q
    dsimp only at q
    show if (if true = true then !decide (((ws.length : Nat) : Int) = (((cs.map colD).length : Nat) : Int)) else _) = true then _ else _
    rw [if_pos rfl, e1]
    refine ifb (fun h => ?_) (fun h => ?_)
    · rw [nt h, Bool.false_and] at q
      exact fo q
    · have h := nf h
      rw [h, Bool.true_and] at q
      have h := of_decide_eq_true h
      refine ⟨_, rfl, _, rfl, cs.map colD, ws, rfl, by rw [List.length_map]; exact h.symm, ?_⟩
      refine comp_map pairF trivial (by show (pairsD (cs.map colD) ws).length ≤ 1000; unfold pairsD; rw [List.length_zipWith, List.length_map]; omega) (fun d hd Q hQ => ?_) fun p hp => ?_
      · unfold pairsD at hd
        obtain ⟨i, ei⟩ := List.getElem?_of_mem hd
        obtain ⟨x, y, e2, e3, e4⟩ := List.getElem?_zipWith_eq_some.mp ei
        subst e4
        rw [List.getElem?_map] at e2
        cases e5 : cs[i]? with
        | none => rw [e5] at e2; cases e2
        | some c =>
          rw [e5] at e2; cases e2
          exact ⟨_, rfl, rfl, _, _, rfl, _, _, rfl, rfl, _, rfl, _, rfl, _, rfl, c.2, y, rfl, hw2 y (List.mem_of_getElem? e3), hQ⟩
      · refine ⟨.ref p, List.zipWith (fun c v => valB c.2 v) cs ws, rfl, ?_, S, .new hp, q⟩
        show (S.set p (.lst ((pairsD (cs.map colD) ws).map pairF))) p = _
        rw [sset_same, zip_pairs fun _ _ => rfl]
  · rw [h0]
    have e : worthsB cs d = false := by
      cases d with
      | tup ws => exact absurd rfl (h1 ws)
      | _ => rfl
    rw [e] at q
    exact iteT (iteT (fo q))
theorem ok_check_row (T : Txt K mg t) : FnD P w K mg base 5 t.f_check_row t.d_check_row ["columns", "row"] (fun ds S R Z => ∃ cs k v, ds = [.tup (cs.map colD), .tup [k, v]] ∧ cs.length ≤ 8 ∧ Gt S k ∧ Gts S v ∧ (rowB cs k v = true → R .non S) ∧ (rowB cs k v = false → Z t.c_BadRow S)) := by
  have G_is_key : FnD P w K mg base 2 t.f_is_key t.d_is_key ["thing"] (spOf (ofStr keyZ)) := ok_is_key T
  have G_are_worths : FnD P w K mg base 4 t.f_are_worths t.d_are_worths ["columns", "thing"] _ := ok_are_worths T
  refine T.F_check_row.ok sc_check_row (fun ds S R Z ⟨d, d', d'', e, _⟩ => by rw [e]; rfl) (fun cdv A outer s H E ds S R Z hr ⟨cs, k, v, e, hl, hk, hv, q1, q2⟩ => ?_)
  subst e
  refine ⟨_, (sc (si (twd (twor (tnot (tv (cb c_isi T.n_isinstance bt_isinstance (ac (dv 1) (ac (dty T.n_tuple bt_tuple) an))))) (tw1 (tcm o_ne hr.units (cb c_len T.n_len bt_len (ac (dv 1) an)) di)))) (s1 (sra ⟨T.x_BadRow⟩ T.mg_BadRow (ac ds an))) s0) (sc (si (tnot (tv (cf (G_is_key.mono (by decide)) hr T.mg_is_key T.k_is_key T.b_is_key d0 (ac (ix hr.units (dv 1) di) an)))) (s1 (sra ⟨T.x_BadRow⟩ T.mg_BadRow (ac ds an))) s0) (s1 (si (tnot (tv (cf (G_are_worths.mono (by decide)) hr T.mg_are_worths T.k_are_worths T.b_are_worths d0 (ac (dv 0) (ac (ix hr.units (dv 1) di) an))))) (s1 (sra ⟨T.x_BadRow⟩ T.mg_BadRow (ac ds an))) s0)))), ?_⟩
  refine ⟨_, rfl, _, _, _, _, rfl, isa_tuple, rfl, _, rfl, ?_⟩
  refine iteF ⟨_, rfl, _, rfl, _, rfl, iteF ?_⟩
  refine ⟨_, rfl, _, rfl, k, rfl, hk, _, rfl, ?_⟩
  unfold rowB at q1 q2
  refine ifb (fun h => ?_) (fun h => ?_)
  · rw [nt h, Bool.false_and] at q2
    exact ⟨sm (by decide), fo (q2 rfl)⟩
  · rw [nf h, Bool.true_and] at q1 q2
    refine ⟨_, rfl, _, rfl, _, rfl, cs, v, rfl, hl, hv, _, rfl, ?_⟩
    refine ifb (fun h => ?_) (fun h => ?_)
    · exact ⟨sm (by decide), fo (q2 (nt h))⟩
    · exact fo (q1 (nf h))
end
end My
namespace My
open PySem L2
theorem bg {n : Nat} (h : n ≤ 100000) : n < sizeLine := by rw [sizeLine_eq]; omega
structure Std where
  b : Nat
  e : Option Nat
  ws : List D
def eD : Option Nat → D
  | none => .non
  | some n => .int (n : Nat)
def stdD (s : Std) : D := .tup [.int (s.b : Nat), eD s.e, .tup s.ws]
def wtR : List Std → Int → D
  | [], _ => .non
  | s :: r, m => if (s.b : Int) ≤ m then (match s.e with | none => .tup s.ws | some n => if m ≤ (n : Int) then .tup s.ws else .non) else wtR r m
def wt (l : List Std) (m : Int) : D := wtR l.reverse m
abbrev Ra := List (Str × Addr × List Std)
abbrev Rs' := List (Str × List Std)
def rsOf (ra : Ra) : Rs' := ra.map fun r => (r.1, r.2.2)
def kvOf (ra : Ra) : List (Key × D) := ra.map fun r => (Sum.inr r.1, D.ref r.2.1)
def lu (rs : Rs') (k : Str) : Option (List Std) := (rs.find? fun r => decide (r.1 = k)).map (·.2)
def luk (ra : Ra) (k : Str) : Option (Addr × List Std) := (ra.find? fun r => decide (r.1 = k)).map (·.2)
def upA (ra : Ra) (k : Str) (s : List Std) : Ra := ra.map fun r => if r.1 = k then (r.1, r.2.1, s) else r
def upR (rs : Rs') (k : Str) (s : List Std) : Rs' := if (lu rs k).isSome then rs.map fun r => if r.1 = k then (r.1, s) else r else rs ++ [(k, s)]
theorem lu_luk (ra : Ra) (k : Str) : lu (rsOf ra) k = (luk ra k).map (·.2) := by
  unfold lu luk rsOf
  induction ra with
  | nil => rfl
  | cons r ra ih =>
    rw [List.map_cons, List.find?_cons, List.find?_cons]
    by_cases h : r.1 = k
    · rw [decide_eq_true h]; rfl
    · rw [decide_eq_false h]; exact ih
theorem dval_luk (ra : Ra) (k : Str) : dval (kvOf ra) (.inr k) = (luk ra k).map fun p => D.ref p.1 := by
  unfold dval luk kvOf
  induction ra with
  | nil => rfl
  | cons r ra ih =>
    rw [List.map_cons, List.find?_cons, List.find?_cons]
    by_cases h : r.1 = k
    · rw [decide_eq_true h]
      have : decide ((Sum.inr r.1 : Key) = .inr k) = true := decide_eq_true (by rw [h])
      dsimp only
      rw [this]; rfl
    · rw [decide_eq_false h]
      have : decide ((Sum.inr r.1 : Key) = .inr k) = false := decide_eq_false fun e => h (Sum.inr.inj e)
      dsimp only
      rw [this]; exact ih
theorem luk_mem {ra : Ra} {k : Str} {l : Addr} {s : List Std} (h : luk ra k = some (l, s)) : (k, l, s) ∈ ra := by
  unfold luk at h
  cases q : ra.find? fun r => decide (r.1 = k) with
  | none => rw [q] at h; cases h
  | some r =>
    rw [q] at h
    have h1 := List.find?_some q
    have h2 := List.mem_of_find?_eq_some q
    obtain ⟨k', l', s'⟩ := r
    have e : k' = k := of_decide_eq_true h1
    cases h
    rw [← e]; exact h2
theorem luk_none {ra : Ra} {k : Str} (h : luk ra k = none) : ∀ r ∈ ra, r.1 ≠ k := by
  unfold luk at h
  intro r hr e
  have := List.find?_eq_none.mp (Option.map_eq_none_iff.mp h) r hr
  simp [e] at this
theorem inj_map {α β : Type} {f : α → β} : ∀ {l : List α} {x y : α}, (l.map f).Nodup → x ∈ l → y ∈ l → f x = f y → x = y
  | z :: l, x, y, nd, hx, hy, e => by
    rw [List.map_cons] at nd
    obtain ⟨n1, n2⟩ := List.nodup_cons.mp nd
    rcases List.mem_cons.mp hx with ex | hx'
    · rcases List.mem_cons.mp hy with ey | hy'
      · rw [ex, ey]
      · exact absurd (List.mem_map.mpr ⟨y, hy', by rw [← e, ex]⟩) n1
    · rcases List.mem_cons.mp hy with ey | hy'
      · exact absurd (List.mem_map.mpr ⟨x, hx', by rw [e, ey]⟩) n1
      · exact inj_map n2 hx' hy' e
structure ShR (C : Addr) (S : Sto) (a ld lr : Addr) (cs : List (Str × Str)) (dl : List D) (ra : Ra) : Prop where
  ins : S a = some (.ins C [("columns", .tup (cs.map colD)), ("deeds", .ref ld), ("runs", .ref lr)])
  dee : S ld = some (.lst dl)
  run : S lr = some (.dct (kvOf ra))
  cell : ∀ r ∈ ra, S r.2.1 = some (.lst (r.2.2.map stdD))
  kn : (ra.map (·.1)).Nodup
  an : (ld :: ra.map (·.2.1)).Nodup
  sz : ∀ r ∈ ra, r.2.2.length ≤ dl.length
def fp (a ld lr : Addr) (ra : Ra) : List Addr := a :: ld :: lr :: ra.map (·.2.1)
def ShAt (C : Addr) (S : Sto) (a : Addr) (F : List Addr) (cs : List (Str × Str)) (dl : List D) (rs : Rs') : Prop := ∃ ld lr ra, ShR C S a ld lr cs dl ra ∧ F = fp a ld lr ra ∧ rs = rsOf ra
def Kps (F F' : List Addr) (S S' : Sto) : Prop := ∀ b c, b ∉ F → S b = some c → b ∉ F' ∧ S' b = some c
theorem Kps.trans {F F1 F2 : List Addr} {S S1 S2 : Sto} (a : Kps F F1 S S1) (b : Kps F1 F2 S1 S2) : Kps F F2 S S2 := fun p c h e => let ⟨h1, e1⟩ := a p c h e; b p c h1 e1
section
variable {C a ld lr : Addr} {S : Sto} {cs : List (Str × Str)} {dl : List D} {ra : Ra}
theorem ShR.ne_lst (h : ShR C S a ld lr cs dl ra) {l : Addr} {ds : List D} (e : S l = some (.lst ds)) : l ≠ a ∧ l ≠ lr := by
  constructor
  · rintro rfl; rw [h.ins] at e; cases e
  · rintro rfl; rw [h.run] at e; cases e
theorem ShR.put (h : ShR C S a ld lr cs dl ra) {k : Str} {l : Addr} {s s' : List Std} (hk : luk ra k = some (l, s)) (hs : s'.length ≤ dl.length) : ShR C (S.set l (.lst (s'.map stdD))) a ld lr cs dl (upA ra k s') := by
  have hm := luk_mem hk
  have hl := h.cell _ hm
  obtain ⟨n1, n2⟩ := h.ne_lst hl
  obtain ⟨nd1, nd2⟩ := List.nodup_cons.mp h.an
  have n3 : l ≠ ld := fun e => nd1 (by rw [← e]; exact List.mem_map.mpr ⟨_, hm, rfl⟩)
  have e1 : (upA ra k s').map (·.1) = ra.map (·.1) := by
    unfold upA; rw [List.map_map]; exact List.map_congr_left fun r _ => by dsimp only [Function.comp]; split <;> rfl
  have e2 : (upA ra k s').map (·.2.1) = ra.map (·.2.1) := by
    unfold upA; rw [List.map_map]; exact List.map_congr_left fun r _ => by dsimp only [Function.comp]; split <;> rfl
  have e3 : kvOf (upA ra k s') = kvOf ra := by
    unfold kvOf upA; rw [List.map_map]; exact List.map_congr_left fun r _ => by dsimp only [Function.comp]; split <;> rfl
  refine ⟨by rw [sset_ne n1.symm]; exact h.ins, by rw [sset_ne n3.symm]; exact h.dee, by rw [sset_ne n2.symm, e3]; exact h.run, fun r hr => ?_, by rw [e1]; exact h.kn, by rw [e2]; exact h.an, fun r hr => ?_⟩
  · unfold upA at hr
    obtain ⟨r0, hr0, e⟩ := List.mem_map.mp hr
    by_cases q : r0.1 = k
    · rw [if_pos q] at e
      have er : r0 = (k, l, s) := inj_map h.kn hr0 hm q
      subst er e
      rw [sset_same]
    · rw [if_neg q] at e
      subst e
      have : r0.2.1 ≠ l := fun e => q (by
        have := inj_map nd2 hr0 hm e
        rw [this])
      rw [sset_ne this]; exact h.cell _ hr0
  · unfold upA at hr
    obtain ⟨r0, hr0, e⟩ := List.mem_map.mp hr
    by_cases q : r0.1 = k
    · rw [if_pos q] at e; subst e; exact hs
    · rw [if_neg q] at e; subst e; exact h.sz _ hr0
theorem ShR.add (h : ShR C S a ld lr cs dl ra) {k : Str} {l : Addr} {s : List Std} (hk : luk ra k = none) (hl : S l = none) (hs : s.length ≤ dl.length) {S' : Sto} (e1 : S' l = some (.lst (s.map stdD))) (e2 : S' lr = some (.dct (kvOf (ra ++ [(k, l, s)])))) (e3 : ∀ b, b ≠ l → b ≠ lr → S' b = S b) : ShR C S' a ld lr cs dl (ra ++ [(k, l, s)]) := by
  have n1 : a ≠ l := sne h.ins hl
  have n2 : ld ≠ l := sne h.dee hl
  have n3 : a ≠ lr := by rintro rfl; have := h.run; rw [h.ins] at this; cases this
  have n4 : ld ≠ lr := by rintro rfl; have := h.run; rw [h.dee] at this; cases this
  refine ⟨by rw [e3 _ n1 n3]; exact h.ins, by rw [e3 _ n2 n4]; exact h.dee, e2, fun r hr => ?_, ?_, ?_, fun r hr => ?_⟩
  · rcases List.mem_append.mp hr with hr | hr
    · have hc := h.cell r hr
      rw [e3 _ (sne hc hl) (h.ne_lst hc).2]; exact hc
    · rw [List.mem_singleton.mp hr]; exact e1
  · rw [List.map_append]
    exact nd_snoc h.kn fun m => by
      obtain ⟨r, hr, e⟩ := List.mem_map.mp m
      exact luk_none hk r hr e
  · rw [List.map_append, ← List.cons_append]
    refine nd_snoc h.an fun m => ?_
    rcases List.mem_cons.mp m with e | m
    · exact n2 e.symm
    · obtain ⟨r, hr, e⟩ := List.mem_map.mp m
      exact sne (h.cell r hr) hl e
  · rcases List.mem_append.mp hr with hr | hr
    · exact h.sz r hr
    · rw [List.mem_singleton.mp hr]; exact hs
theorem ShR.deed (h : ShR C S a ld lr cs dl ra) (d : D) : ShR C (S.set ld (.lst (dl ++ [d]))) a ld lr cs (dl ++ [d]) ra := by
  obtain ⟨n1, n2⟩ := h.ne_lst h.dee
  obtain ⟨nd1, nd2⟩ := List.nodup_cons.mp h.an
  refine ⟨by rw [sset_ne n1.symm]; exact h.ins, sset_same, by rw [sset_ne n2.symm]; exact h.run, fun r hr => ?_, h.kn, h.an, fun r hr => by rw [List.length_append]; exact Nat.le_trans (h.sz r hr) (Nat.le_add_right _ _)⟩
  rw [sset_ne fun e => nd1 (by rw [← e]; exact List.mem_map.mpr ⟨r, hr, rfl⟩)]
  exact h.cell r hr
end
section
variable {P : Program} {w : World} {K : PySem.W.Frag} {mg : Str → Option Value} {base : Heap} {t : Adr}
def spNow (C : Addr) : SpD := fun ds S R _ => ∃ a F cs dl rs, ds = [.ref a] ∧ ShAt C S a F cs dl rs ∧ R (.int (dl.length : Nat)) S
theorem ok_now (T : Txt K mg t) : FnD P w K mg base 1 t.f_Shelf_now t.d_Shelf_now ["self"] (spNow t.c_Shelf) := by
  refine T.F_Shelf_now.ok sc_Shelf_now (fun ds S R Z ⟨_, _, _, _, _, e, _⟩ => by rw [e]; rfl) (fun cdv A outer s H E ds S R Z hr ⟨a, F, cs, dl, rs, e, ⟨ld, lr, ra, h, _⟩, q⟩ => ?_)
  subst e
  refine ⟨_, (s1 (sr (cb c_len T.n_len bt_len (ac (fl T.cl_Shelf T.na_Shelf_deeds (dv 0)) an)))), ?_⟩
  exact ⟨_, rfl, a, _, _, rfl, h.ins, rfl, _, rfl, .inl ⟨dl, h.dee, fo q⟩⟩
def momD (n : Nat) : D → Option Int
  | .non => some n
  | .int i => if 0 ≤ i ∧ i ≤ (n : Int) then some i else none
  | _ => none
def spMeant (C N : Addr) : SpD := fun ds S R Z => ∃ a F cs dl rs m, ds = [.ref a, m] ∧ ShAt C S a F cs dl rs ∧ Gt S m ∧ (∀ i, momD dl.length m = some i → R (.int i) S) ∧ (momD dl.length m = none → Z N S)
theorem ok_moment_meant (T : Txt K mg t) : FnD P w K mg base 2 t.f_Shelf_moment_meant t.d_Shelf_moment_meant ["self", "moment"] (spMeant t.c_Shelf t.c_NoMoment) := by
  have G_Shelf_now : FnD P w K mg base 1 t.f_Shelf_now t.d_Shelf_now ["self"] (spNow t.c_Shelf) := ok_now T
  have G_is_whole : FnD P w K mg base 1 t.f_is_whole t.d_is_whole ["thing"] (spOf wholeD) := ok_is_whole T
  refine T.F_Shelf_moment_meant.ok sc_Shelf_moment_meant (fun ds S R Z ⟨_, _, _, _, _, _, e, _⟩ => by rw [e]; rfl) (fun cdv A outer s H E ds S R Z hr ⟨a, F, cs, dl, rs, m, e, hS, hm, q1, q2⟩ => ?_)
  subst e
  obtain ⟨ld, lr, ra, h, hF, hrs⟩ := id hS
  refine ⟨_, (sc (si (tcm o_is hr.units (dv 1) dn) (s1 (sr (cme0 (dv 0) T.cl_Shelf T.me_Shelf_now (G_Shelf_now.mono (by decide)) hr T.b_Shelf_now d0))) s0) (sc (si (twd (twor (tnot (tv (cf (G_is_whole.mono (by decide)) hr T.mg_is_whole T.k_is_whole T.b_is_whole d0 (ac (dv 1) an)))) (tw1 (tnot (tcc o_le o_le hr.units di (dv 1) (cme0 (dv 0) T.cl_Shelf T.me_Shelf_now (G_Shelf_now.mono (by decide)) hr T.b_Shelf_now d0)))))) (s1 (sra ⟨T.x_NoMoment⟩ T.mg_NoMoment (ac ds an))) s0) (s1 (sr (dv 1))))), ?_⟩
  refine ⟨_, rfl, _, rfl, ?_⟩
  refine ifb (fun h1 => ?_) (fun h1 => ?_)
  · have e : m = .non := by cases m <;> first | rfl | cases h1
    subst e
    exact ⟨_, rfl, a, _, rfl, h.ins, rfl, a, F, cs, dl, rs, rfl, hS, fo (q1 _ rfl)⟩
  · refine ⟨_, rfl, m, rfl, hm, _, rfl, ?_⟩
    refine ifb (fun h2 => ?_) (fun h2 => ?_)
    · have h2 := nt h2
      have e : momD dl.length m = none := by
        cases m with
        | non => cases h1
        | int i => cases h2
        | _ => rfl
      exact iteT ⟨sm (by decide), fo (q2 e)⟩
    · have h2 := nf h2
      obtain ⟨i, rfl⟩ : ∃ i, m = .int i := by cases m <;> first | exact ⟨_, rfl⟩ | cases h2
      refine ⟨_, rfl, _, rfl, ?_⟩
      refine ifb (fun h3 => ?_) (fun h3 => ?_)
      · have h3 : 0 ≤ i := of_decide_eq_true h3
        refine ⟨_, rfl, a, _, rfl, h.ins, rfl, a, F, cs, dl, rs, rfl, hS, _, rfl, ?_⟩
        refine ifb (fun h4 => ?_) (fun h4 => ?_)
        · have h4 : ¬ i ≤ ((dl.length : Nat) : Int) := of_decide_eq_false (nt h4)
          exact ⟨sm (by decide), fo (q2 (if_neg fun z => h4 z.2))⟩
        · have h4 : i ≤ ((dl.length : Nat) : Int) := of_decide_eq_true (nf h4)
          exact ⟨_, rfl, fo (q1 i (if_pos ⟨h3, h4⟩))⟩
      · have h3 : ¬ 0 ≤ i := of_decide_eq_false h3
        exact ⟨_, rfl, iteT ⟨sm (by decide), fo (q2 (if_neg fun z => h3 z.1))⟩⟩
end
end My
namespace My
open PySem L2
section
variable {P : Program} {w : World} {K : PySem.W.Frag} {mg : Str → Option Value} {base : Heap} {t : Adr}
theorem ok_worths_then (T : Txt K mg t) : FnD P w K mg base 1 t.f_worths_then t.d_worths_then ["standings", "moment"] (fun ds S R _ => ∃ l sts m, ds = [.ref l, .int m] ∧ S l = some (.lst (sts.map stdD)) ∧ R (wt sts m) S) := by
  refine T.F_worths_then.ok sc_worths_then (fun ds S R Z ⟨_, _, _, e, _⟩ => by rw [e]; rfl) (fun cdv A outer s H E ds S R Z hr ⟨l, sts, m, e, hl, q⟩ => ?_)
  subst e
  refine ⟨_, (sc (scf (sfo (irv T.n_reversed (ac (dv 0) an)) (gn (i := 2) sc_worths_then.nd) (s1 (si (tcm o_le hr.units (ix hr.units (dv 2) di) (dv 1)) (s1 (sr (eif (twd (twor (tcm o_is hr.units (ix hr.units (dv 2) di) dn) (tw1 (tcm o_le hr.units (dv 1) (ix hr.units (dv 2) di))))) (ix hr.units (dv 2) di) dn))) s0)))) (s1 (sr dn))), ?_⟩
  refine ⟨fun σ' S' => S' = S ∧ wt sts m = .non, ?_, ?_⟩
  · refine ⟨_, rfl, _, _, rfl, hl, ?_⟩
    refine ⟨fun i σ' S' => (∃ o, σ' = [some (.ref l), some (.int m), o]) ∧ S' = S ∧ wt sts m = wtR (sts.reverse.drop i) m, ⟨⟨none, rfl⟩, rfl, by rw [List.drop_zero]; rfl⟩, fun i σ' S' h => by rw [h.2.1]; exact hl, ?_, ?_⟩
    · rintro i d σ' S' hd ⟨⟨o, rfl⟩, rfl, hw⟩
      rw [← List.map_reverse, List.getElem?_map] at hd
      cases e1 : sts.reverse[i]? with
      | none => rw [e1] at hd; cases hd
      | some sd =>
        rw [e1] at hd; cases hd
        have e2 : sts.reverse.drop i = sd :: sts.reverse.drop (i + 1) := by
          obtain ⟨hi, e⟩ := List.getElem?_eq_some_iff.mp e1
          rw [List.drop_eq_getElem_cons hi, e]
        obtain ⟨sb, se, sw⟩ := sd
        rw [e2] at hw
        refine ⟨_, rfl, _, rfl, _, rfl, _, rfl, ?_⟩
        unfold wtR at hw
        refine ifb (fun h => ?_) (fun h => ?_)
        · rw [if_pos (of_decide_eq_true h)] at hw
          refine ⟨_, rfl, _, rfl, _, rfl, ?_⟩
          cases se with
          | none =>
            refine iteT (iteT ⟨_, rfl, _, rfl, ?_⟩)
            rw [hw] at q
            exact fo q
          | some n =>
            refine iteF ⟨_, rfl, _, rfl, _, rfl, _, rfl, ?_⟩
            dsimp only at hw
            refine ifb (fun h => ?_) (fun h => ?_)
            · rw [if_pos (of_decide_eq_true h)] at hw
              rw [hw] at q
              exact ⟨_, rfl, _, rfl, fo q⟩
            · rw [if_neg (of_decide_eq_false h)] at hw
              rw [hw] at q
              exact fo q
        · rw [if_neg (of_decide_eq_false h)] at hw
          exact ⟨⟨_, rfl⟩, rfl, hw⟩
    · rintro σ' S' ⟨_, rfl, hw⟩
      refine fo ⟨rfl, ?_⟩
      rw [hw, List.length_reverse, List.length_map, List.drop_eq_nil_of_le (by rw [List.length_reverse]; exact Nat.le_refl _)]
      rfl
  · rintro σ' S' ⟨rfl, hw⟩
    rw [hw] at q
    exact fo q
def wAt (rs : Rs') (k : D) (i : Int) : D := match k with
  | .str z => if keyZ z = true then wt ((lu rs z).getD []) i else .non
  | _ => .non
def spWAt (C N : Addr) : SpD := fun ds S R Z => ∃ a F cs dl rs k m, ds = [.ref a, k, m] ∧ ShAt C S a F cs dl rs ∧ Gt S k ∧ Gt S m ∧ (∀ i, momD dl.length m = some i → R (wAt rs k i) S) ∧ (momD dl.length m = none → Z N S)
theorem ok_worths_at (T : Txt K mg t) : FnD P w K mg base 3 t.f_Shelf_worths_at t.d_Shelf_worths_at ["self", "key", "moment"] (spWAt t.c_Shelf t.c_NoMoment) := by
  have G_Shelf_moment_meant : FnD P w K mg base 2 t.f_Shelf_moment_meant t.d_Shelf_moment_meant ["self", "moment"] _ := ok_moment_meant T
  have G_is_key : FnD P w K mg base 2 t.f_is_key t.d_is_key ["thing"] (spOf (ofStr keyZ)) := ok_is_key T
  have G_worths_then : FnD P w K mg base 1 t.f_worths_then t.d_worths_then ["standings", "moment"] _ := ok_worths_then T
  refine T.F_Shelf_worths_at.ok sc_Shelf_worths_at (fun ds S R Z ⟨_, _, _, _, _, _, _, e, _⟩ => by rw [e]; rfl) (fun cdv A outer s H E ds S R Z hr ⟨a, F, cs, dl, rs, k, m, e, hS, hk, hm, q1, q2⟩ => ?_)
  subst e
  obtain ⟨ld, lr, ra, h, hF, hrs⟩ := id hS
  refine ⟨_, (sc (st_ (i := 3) sc_Shelf_worths_at.nd (cme (dv 0) T.cl_Shelf T.me_Shelf_moment_meant (G_Shelf_moment_meant.mono (by decide)) hr T.b_Shelf_moment_meant d0 (ac (dv 2) an))) (sc (si (tnot (tv (cf (G_is_key.mono (by decide)) hr T.mg_is_key T.k_is_key T.b_is_key d0 (ac (dv 1) an)))) (s1 (sr dn)) s0) (s1 (sr (cf (G_worths_then.mono (by decide)) hr T.mg_worths_then T.k_worths_then T.b_worths_then d0 (ac (mg2 hr.units (fl T.cl_Shelf T.na_Shelf_runs (dv 0)) (dv 1) (elst an)) (ac (dv 3) an))))))), ?_⟩
  refine ⟨_, rfl, a, _, rfl, h.ins, rfl, _, rfl, a, F, cs, dl, rs, m, rfl, hS, hm, fun i hi => ?_, fun hn => fo (q2 hn)⟩
  have q := q1 i hi
  refine ⟨_, rfl, k, rfl, hk, _, rfl, ?_⟩
  refine ifb (fun h1 => ?_) (fun h1 => ?_)
  · have e : wAt rs k i = .non := by
      cases k with
      | str z => exact if_neg (by rw [show keyZ z = false from nt h1]; exact Bool.false_ne_true)
      | _ => rfl
    rw [e] at q
    exact fo q
  · have h1 := nf h1
    obtain ⟨z, rfl⟩ : ∃ z, k = .str z := by
      cases k with
      | str z => exact ⟨z, rfl⟩
      | _ => cases h1
    have e : wAt rs (.str z) i = wt ((lu rs z).getD []) i := if_pos h1
    rw [e] at q
    refine ⟨_, rfl, a, _, _, rfl, h.ins, rfl, lr, _, rfl, h.run, _, rfl, sm (by decide), fun p hp => ⟨kvOf ra, .inr z, ?_, rfl, ?_⟩⟩
    · rw [sset_ne (sne h.run hp)]; exact h.run
    · rw [dval_luk]
      refine ⟨_, rfl, ?_⟩
      cases e1 : luk ra z with
      | none =>
        have e2 : lu rs z = none := by rw [hrs, lu_luk, e1]; rfl
        rw [e2] at q
        exact ⟨p, [], i, rfl, sset_same, S, .new hp, q⟩
      | some ls =>
        obtain ⟨l, sts⟩ := ls
        have e2 : lu rs z = some sts := by rw [hrs, lu_luk, e1]; rfl
        rw [e2] at q
        have hc := h.cell _ (luk_mem e1)
        exact ⟨l, sts, i, rfl, by rw [sset_ne (sne hc hp)]; exact hc, S, .new hp, q⟩
end
end My
namespace My
open PySem L2
theorem rs_up {ra : Ra} {k : Str} {l : Addr} {s s' : List Std} (h : luk ra k = some (l, s)) : upR (rsOf ra) k s' = rsOf (upA ra k s') := by
  unfold upR
  rw [lu_luk, h, if_pos (show (Option.map (fun x : Addr × List Std => x.2) (some (l, s))).isSome = true from rfl)]
  unfold rsOf upA
  rw [List.map_map, List.map_map]
  exact List.map_congr_left fun r _ => by dsimp only [Function.comp]; split <;> rfl
theorem rs_add {ra : Ra} {k : Str} {l : Addr} {s : List Std} (h : luk ra k = none) : upR (rsOf ra) k s = rsOf (ra ++ [(k, l, s)]) := by
  unfold upR
  rw [lu_luk, h, if_neg (show ¬ (Option.map (fun x : Addr × List Std => x.2) none).isSome = true from Bool.false_ne_true)]
  unfold rsOf
  rw [List.map_append]; rfl
theorem kv_add {ra : Ra} {k : Str} {l : Addr} {s : List Std} (h : luk ra k = none) : dput (kvOf ra) (.inr k) (.ref l) = kvOf (ra ++ [(k, l, s)]) := by
  unfold dput
  have e : ((kvOf ra).any fun kv => decide (kv.1 = .inr k)) = false := by
    rw [List.any_eq_false]
    intro x hx
    unfold kvOf at hx
    obtain ⟨r, hr, rfl⟩ := List.mem_map.mp hx
    simp only [decide_eq_true_eq]
    exact fun e => luk_none h r hr (Sum.inr.inj e)
  rw [e, if_neg Bool.false_ne_true]
  unfold kvOf
  rw [List.map_append]; rfl
theorem fp_up {a ld lr : Addr} {ra : Ra} {k : Str} {s : List Std} : fp a ld lr (upA ra k s) = fp a ld lr ra := by
  unfold fp upA
  rw [List.map_map]
  congr 3
  exact List.map_congr_left fun r _ => by dsimp only [Function.comp]; split <;> rfl
theorem kps_in {F : List Addr} {S : Sto} {l : Addr} {c : Ce} (h : l ∈ F) : Kps F F S (S.set l c) := fun b x hb e => ⟨hb, by rw [sset_ne (show b ≠ l from fun z => hb (by rw [z]; exact h))]; exact e⟩
theorem mem_fp {a ld lr : Addr} {ra : Ra} {r : Str × Addr × List Std} (h : r ∈ ra) : r.2.1 ∈ fp a ld lr ra := List.mem_cons_of_mem _ (List.mem_cons_of_mem _ (List.mem_cons_of_mem _ (List.mem_map.mpr ⟨r, h, rfl⟩)))
section
variable {P : Program} {w : World} {K : PySem.W.Frag} {mg : Str → Option Value} {base : Heap} {t : Adr}
def spBegin (C : Addr) : SpD := fun ds S R _ => ∃ a F cs dl rs z ws, ds = [.ref a, .str z, .tup ws] ∧ ShAt C S a F cs dl rs ∧ ((lu rs z).getD []).length < dl.length ∧ dl.length ≤ 9000 ∧ rs.length ≤ 9000 ∧
  ∀ S' F', ShAt C S' a F' cs dl (upR rs z ((lu rs z).getD [] ++ [Std.mk dl.length none ws])) → Kps F F' S S' → R .non S'
theorem ok_begin (T : Txt K mg t) : FnD P w K mg base 2 t.f_Shelf_begin_standing t.d_Shelf_begin_standing ["self", "key", "worths"] (spBegin t.c_Shelf) := by
  have G_Shelf_now : FnD P w K mg base 1 t.f_Shelf_now t.d_Shelf_now ["self"] (spNow t.c_Shelf) := ok_now T
  refine T.F_Shelf_begin_standing.ok sc_Shelf_begin_standing (fun ds S R Z ⟨_, _, _, _, _, _, _, e, _⟩ => by rw [e]; rfl) (fun cdv A outer s H E ds S R Z hr ⟨a, F, cs, dl, rs, z, ws, e, ⟨ld, lr, ra, h, hF, hrs⟩, hl, hd, hn, q⟩ => ?_)
  subst e hF hrs
  have hn' : (kvOf ra).length ≤ 9000 := by unfold rsOf at hn; unfold kvOf; rw [List.length_map] at hn ⊢; exact hn
  refine ⟨_, (s1 (se (bm PySem.F.plainAttrs_list PySem.F.slot_list_append PySem.F.type_list_append m_append (ms2 (fl T.cl_Shelf T.na_Shelf_runs (dv 0)) (dv 1) (elst an)) (ac (etup (ac (cme0 (dv 0) T.cl_Shelf T.me_Shelf_now (G_Shelf_now.mono (by decide)) hr T.b_Shelf_now d0) (ac dn (ac (dv 2) an)))) an)))), ?_⟩
  refine ⟨_, rfl, a, _, _, rfl, h.ins, rfl, lr, kvOf ra, rfl, h.run, _, rfl, sm (by decide), fun p hp => ⟨kvOf ra, .inr z, ?_, rfl, bg (by omega), fun d hd' => ?_, fun hn => ?_⟩⟩
  · rw [sset_ne (sne h.run hp)]; exact h.run
  · rw [dval_luk] at hd'
    cases e1 : luk ra z with
    | none => rw [e1] at hd'; cases hd'
    | some ls =>
      obtain ⟨l, sts⟩ := ls
      rw [e1] at hd'; cases hd'
      have e2 : lu (rsOf ra) z = some sts := by rw [lu_luk, e1]; rfl
      rw [e2] at q hl
      have hc := h.cell _ (luk_mem e1)
      have hc' : (S.set p (.lst [])) l = some (.lst (sts.map stdD)) := by rw [sset_ne (sne hc hp)]; exact hc
      have hi' : (S.set p (.lst [])) a = some (.ins t.c_Shelf [("columns", .tup (cs.map colD)), ("deeds", .ref ld), ("runs", .ref lr)]) := by rw [sset_ne (sne h.ins hp)]; exact h.ins
      have hS' : ShR t.c_Shelf (S.set p (.lst [])) a ld lr cs dl ra := ⟨hi', by rw [sset_ne (sne h.dee hp)]; exact h.dee, by rw [sset_ne (sne h.run hp)]; exact h.run, fun r hr => by rw [sset_ne (sne (h.cell r hr) hp)]; exact h.cell r hr, h.kn, h.an, h.sz⟩
      refine ⟨⟨rfl, _, hc'⟩, _, rfl, a, _, rfl, hi', rfl, a, _, cs, dl, _, rfl, ⟨ld, lr, ra, hS', rfl, rfl⟩, _, rfl, sm (show 3 ≤ 1000 by decide), ?_⟩
      have hle : sts.length < dl.length := hl
      refine ⟨l, sts.map stdD, _, rfl, rfl, hc', bg (by rw [List.length_map]; omega), S.set l (.lst ((sts ++ [Std.mk dl.length none ws]).map stdD)), fun b c hb => ?_, q _ _ ⟨ld, lr, _, h.put e1 (by rw [List.length_append]; show sts.length + 1 ≤ _; omega), rfl, rs_up e1⟩ ?_⟩
      · by_cases hbl : b = l
        · subst hbl; rw [sset_same] at hb ⊢; rw [List.map_append] at hb; exact hb
        · rw [sset_ne hbl] at hb
          rw [sset_ne hbl, sset_ne (sne hb hp)]; exact hb
      · rw [fp_up]; exact kps_in (mem_fp (luk_mem e1))
  · rw [dval_luk] at hn
    cases e1 : luk ra z with
    | some ls => rw [e1] at hn; cases hn
    | none =>
      have e2 : lu (rsOf ra) z = none := by rw [lu_luk, e1]; rfl
      rw [e2] at q hl
      have npr : p ≠ lr := (sne h.run hp).symm
      generalize hS1 : (S.set p (.lst [])).set lr _ = S1
      have s1p : S1 p = some (.lst []) := by rw [← hS1, sset_ne npr, sset_same]
      have s1r : S1 lr = some (.dct (kvOf (ra ++ [(z, p, [])]))) := by rw [← hS1, sset_same, kv_add e1]
      have s1o : ∀ b, b ≠ p → b ≠ lr → S1 b = S b := fun b h1 h2 => by rw [← hS1, sset_ne h2, sset_ne h1]
      have hS' : ShR t.c_Shelf S1 a ld lr cs dl (ra ++ [(z, p, [])]) := h.add e1 hp (Nat.zero_le _) s1p s1r s1o
      refine ⟨⟨rfl, _, s1p⟩, _, rfl, a, _, rfl, hS'.ins, rfl, a, _, cs, dl, _, rfl, ⟨ld, lr, _, hS', rfl, rfl⟩, _, rfl, sm (show 3 ≤ 1000 by decide), ?_⟩
      refine ⟨p, [], _, rfl, rfl, s1p, bg (by show 0 ≤ _; omega), S1.set p (.lst ([Std.mk dl.length none ws].map stdD)), .refl _, q _ _ ⟨ld, lr, ra ++ [(z, p, [Std.mk dl.length none ws])], h.add e1 hp (by show 1 ≤ _; have : 0 < dl.length := hl; omega) sset_same ?_ (fun b h1 h2 => by rw [sset_ne h1]; exact s1o b h1 h2), rfl, rs_add e1⟩ ?_⟩
      · rw [sset_ne npr.symm, s1r]; unfold kvOf; rw [List.map_append, List.map_append]; rfl
      · intro b c hb e
        have h1 : b ≠ p := sne e hp
        have h2 : b ≠ lr := fun z => hb (by rw [z]; exact List.mem_cons_of_mem _ (List.mem_cons_of_mem _ List.mem_cons_self))
        refine ⟨fun m => ?_, by rw [sset_ne h1, s1o b h1 h2]; exact e⟩
        unfold fp at m hb
        rw [List.map_append] at m
        rcases List.mem_cons.mp m with m | m
        · exact hb (m ▸ List.mem_cons_self)
        · rcases List.mem_cons.mp m with m | m
          · exact hb (m ▸ List.mem_cons_of_mem _ List.mem_cons_self)
          · rcases List.mem_cons.mp m with m | m
            · exact h2 m
            · rcases List.mem_append.mp m with m | m
              · exact hb (List.mem_cons_of_mem _ (List.mem_cons_of_mem _ (List.mem_cons_of_mem _ m)))
              · exact h1 (List.mem_singleton.mp m)
end
end My
namespace My
open PySem L2
def closeL (n : Nat) (l : List Std) : List Std := l.dropLast ++ (l.getLast?.map fun s => Std.mk s.b (some n) s.ws).toList
def endR (rs : Rs') (z : Str) (n : Nat) : Rs' := upR rs z (closeL n ((lu rs z).getD []))
def begR (rs : Rs') (z : Str) (n : Nat) (ws : List D) : Rs' := upR rs z ((lu rs z).getD [] ++ [Std.mk n none ws])
theorem lu_len {C a : Addr} {S : Sto} {F : List Addr} {cs : List (Str × Str)} {dl : List D} {rs : Rs'} (h : ShAt C S a F cs dl rs) (z : Str) : ((lu rs z).getD []).length ≤ dl.length := by
  obtain ⟨ld, lr, ra, h, _, rfl⟩ := h
  rw [lu_luk]
  cases e : luk ra z with
  | none => exact Nat.zero_le _
  | some ls => exact h.sz _ (luk_mem (l := ls.1) (s := ls.2) e)
theorem upR_len (rs : Rs') (z : Str) (s : List Std) : (upR rs z s).length ≤ rs.length + 1 := by
  unfold upR
  split
  · rw [List.length_map]; omega
  · rw [List.length_append]; exact Nat.le_refl _
theorem lu_cons {r : Str × List Std} {rs : Rs'} {k : Str} : lu (r :: rs) k = if r.1 = k then some r.2 else lu rs k := by
  unfold lu
  rw [List.find?_cons]
  by_cases h : r.1 = k
  · rw [decide_eq_true h, if_pos h]; rfl
  · rw [decide_eq_false h, if_neg h]
theorem lu_upR {rs : Rs'} {z k : Str} {s : List Std} : lu (upR rs z s) k = if k = z then some s else lu rs k := by
  unfold upR
  by_cases hs : (lu rs z).isSome = true
  · rw [if_pos hs]
    by_cases hk : k = z
    · subst hk
      rw [if_pos rfl]
      induction rs with
      | nil => cases hs
      | cons r rs ih =>
        rw [List.map_cons, lu_cons]
        by_cases h : r.1 = k
        · rw [if_pos h, if_pos h]
        · rw [if_neg h, if_neg h]
          rw [lu_cons, if_neg h] at hs
          exact ih hs
    · rw [if_neg hk]
      clear hs
      induction rs with
      | nil => rfl
      | cons r rs ih =>
        rw [List.map_cons, lu_cons, lu_cons, ih]
        by_cases h : r.1 = z
        · rw [if_pos h, if_neg (show ¬ r.1 = k from fun e => hk (e.symm.trans h)), if_neg (show ¬ r.1 = k from fun e => hk (e.symm.trans h))]
        · rw [if_neg h]
  · rw [if_neg hs]
    have hn : lu rs z = none := by cases e : lu rs z <;> simp_all
    clear hs
    induction rs with
    | nil =>
      rw [List.nil_append, lu_cons]
      by_cases hk : k = z
      · rw [if_pos hk, if_pos hk.symm]
      · rw [if_neg hk, if_neg fun e => hk e.symm]
    | cons r rs ih =>
      rw [lu_cons] at hn
      by_cases h : r.1 = z
      · rw [if_pos h] at hn; cases hn
      · rw [if_neg h] at hn
        rw [List.cons_append, lu_cons, lu_cons, ih hn]
        by_cases h2 : r.1 = k
        · rw [if_pos h2, if_pos h2, if_neg (show ¬ k = z from fun e => h (h2.trans e))]
        · rw [if_neg h2, if_neg h2]
section
variable {P : Program} {w : World} {K : PySem.W.Frag} {mg : Str → Option Value} {base : Heap} {t : Adr}
def spEnd (C : Addr) : SpD := fun ds S R _ => ∃ a F cs dl rs z, ds = [.ref a, .str z] ∧ ShAt C S a F cs dl rs ∧ (∃ s, lu rs z = some s ∧ s ≠ []) ∧ dl.length ≤ 9000 ∧
  ∀ S', ShAt C S' a F cs dl (endR rs z dl.length) → Kps F F S S' → R .non S'
theorem last_of {l : List Std} (h : l ≠ []) : ∃ r s, l = r ++ [s] := ⟨l.dropLast, l.getLast h, (List.dropLast_concat_getLast h).symm⟩
theorem closeL_snoc (n : Nat) (r : List Std) (s : Std) : closeL n (r ++ [s]) = r ++ [Std.mk s.b (some n) s.ws] := by
  unfold closeL
  rw [List.dropLast_concat, List.getLast?_concat]; rfl
theorem ok_end (T : Txt K mg t) : FnD P w K mg base 2 t.f_Shelf_end_standing t.d_Shelf_end_standing ["self", "key"] (spEnd t.c_Shelf) := by
  have G_Shelf_now : FnD P w K mg base 1 t.f_Shelf_now t.d_Shelf_now ["self"] (spNow t.c_Shelf) := ok_now T
  refine T.F_Shelf_end_standing.ok sc_Shelf_end_standing (fun ds S R Z ⟨_, _, _, _, _, _, e, _⟩ => by rw [e]; rfl) (fun cdv A outer s H E ds S R Z hr ⟨a, F, cs, dl, rs, z, e, ⟨ld, lr, ra, h, hF, hrs⟩, ⟨s0, hs0, hne⟩, hd, q⟩ => ?_)
  subst e hF hrs
  rw [lu_luk] at hs0
  cases e1 : luk ra z with
  | none => rw [e1] at hs0; cases hs0
  | some ls =>
    obtain ⟨l, sts⟩ := ls
    rw [e1] at hs0; cases hs0
    obtain ⟨r, sd, rfl⟩ := last_of hne
    have hlen := h.sz _ (luk_mem e1)
    dsimp only at hlen
    rw [List.length_append] at hlen
    have hlen : r.length + 1 ≤ dl.length := hlen
    have hc := h.cell _ (luk_mem e1)
    dsimp only at hc
    have ed : dval (kvOf ra) (.inr z) = some (.ref l) := by rw [dval_luk, e1]; rfl
    refine ⟨_, (sc (st_ (i := 2) sc_Shelf_end_standing.nd (bm0 PySem.F.plainAttrs_list PySem.F.slot_list_pop PySem.F.type_list_pop m_pop (ix hr.units (fl T.cl_Shelf T.na_Shelf_runs (dv 0)) (dv 1)))) (s1 (se (bm PySem.F.plainAttrs_list PySem.F.slot_list_append PySem.F.type_list_append m_append (ix hr.units (fl T.cl_Shelf T.na_Shelf_runs (dv 0)) (dv 1)) (ac (etup (ac (ix hr.units (dv 2) di) (ac (cme0 (dv 0) T.cl_Shelf T.me_Shelf_now (G_Shelf_now.mono (by decide)) hr T.b_Shelf_now d0) (ac (ix hr.units (dv 2) di) an)))) an))))), ?_⟩
    refine ⟨_, rfl, a, _, _, rfl, h.ins, rfl, _, rfl, kvOf ra, _, h.run, ed, ⟨rfl, _, hc⟩, l, _, stdD sd, rfl, rfl, hc, ?_, ?_⟩
    · rw [List.map_append, List.length_append]; show (r.map stdD ++ [stdD sd])[(r.map stdD).length + 1 - 1]? = _; simp
    have e2 : ((r ++ [sd]).map stdD).dropLast = r.map stdD := by rw [List.map_append]; exact List.dropLast_concat
    rw [e2]
    have h1 : ShR t.c_Shelf (S.set l (.lst (r.map stdD))) a ld lr cs dl (upA ra z r) := h.put e1 (by omega)
    generalize hS1 : S.set l _ = S1 at h1
    have e1' : luk (upA ra z r) z = some (l, r) := by
      have hm : (z, l, r) ∈ upA ra z r := by unfold upA; exact List.mem_map.mpr ⟨_, luk_mem e1, if_pos rfl⟩
      cases e3 : luk (upA ra z r) z with
      | none => exact absurd rfl (luk_none e3 _ hm)
      | some x => exact congrArg some (congrArg Prod.snd (inj_map (f := fun r : Str × Addr × List Std => r.1) h1.kn (luk_mem (l := x.1) (s := x.2) e3) hm rfl))
    have ed' : dval (kvOf (upA ra z r)) (.inr z) = some (.ref l) := by rw [dval_luk, e1']; rfl
    have hc1 := h1.cell _ (luk_mem e1')
    refine ⟨_, rfl, a, _, _, rfl, h1.ins, rfl, _, rfl, _, _, h1.run, ed', ⟨rfl, _, hc1⟩, _, rfl, _, rfl, _, rfl, a, _, rfl, h1.ins, rfl, a, _, cs, dl, _, rfl, ⟨ld, lr, _, h1, rfl, rfl⟩, _, rfl, _, rfl, sm (show 3 ≤ 1000 by decide), l, _, _, rfl, rfl, hc1, bg (by rw [List.length_map]; show r.length ≤ _; omega), ?_⟩
    have h2 := h1.put (s' := r ++ [Std.mk sd.b (some dl.length) sd.ws]) e1' (by rw [List.length_append]; exact hlen)
    have e4 : endR (rsOf ra) z dl.length = rsOf (upA (upA ra z r) z (r ++ [Std.mk sd.b (some dl.length) sd.ws])) := by
      unfold endR
      rw [lu_luk, e1]
      show upR (rsOf ra) z (closeL dl.length (r ++ [sd])) = _
      rw [closeL_snoc, rs_up e1]
      unfold rsOf upA
      rw [List.map_map, List.map_map, List.map_map]
      exact List.map_congr_left fun x _ => by dsimp only [Function.comp]; by_cases hx : x.1 = z <;> simp [hx]
    refine ⟨_, ?_, q _ ⟨ld, lr, _, h2, by rw [fp_up, fp_up], e4⟩ ?_⟩
    · show Sub (S1.set l (.lst ((r ++ [_]).map stdD))) (S1.set l (.lst (r.map stdD ++ [_])))
      rw [List.map_append]; exact .refl _
    · rw [← hS1, sset_sset]; exact kps_in (mem_fp (luk_mem e1))
end
end My
namespace My
open PySem L2
theorem key_str {d : D} (h : ofStr keyZ d = true) : ∃ z, d = .str z ∧ keyZ z = true := by
  cases d with
  | str z => exact ⟨z, rfl, h⟩
  | _ => cases h
theorem row_tup {cs : List (Str × Str)} {k v : D} (h : rowB cs k v = true) : ∃ z ws, k = .str z ∧ v = .tup ws ∧ keyZ z = true := by
  unfold rowB at h
  rw [Bool.and_eq_true] at h
  obtain ⟨z, rfl, hz⟩ := key_str h.1
  cases v with
  | tup ws => exact ⟨z, ws, rfl, rfl, hz⟩
  | _ => exact absurd h.2 Bool.false_ne_true
theorem gt_non {S : Sto} : Gt S .non := ⟨⟨.non, rfl⟩, fun _ => nofun⟩
theorem wt_ne {l : List Std} {m : Int} (h : isNonD (wt l m) = false) : l ≠ [] := by
  rintro rfl
  cases h
theorem wAt_str {rs : Rs'} {z : Str} (hz : keyZ z = true) (i : Int) : wAt rs (.str z) i = wt ((lu rs z).getD []) i := if_pos hz
section
variable {P : Program} {w : World} {K : PySem.W.Frag} {mg : Str → Option Value} {base : Heap} {t : Adr}
theorem ok_check_stands (T : Txt K mg t) : FnD P w K mg base 4 t.f_Shelf_check_stands t.d_Shelf_check_stands ["self", "key"] (fun ds S R Z => ∃ a F cs dl rs k, ds = [.ref a, k] ∧ ShAt t.c_Shelf S a F cs dl rs ∧ Gt S k ∧
    (isNonD (wAt rs k dl.length) = false → R .non S) ∧ (isNonD (wAt rs k dl.length) = true → Z t.c_NoKey S)) := by
  have G_Shelf_worths_at : FnD P w K mg base 3 t.f_Shelf_worths_at t.d_Shelf_worths_at ["self", "key", "moment"] _ := ok_worths_at T
  refine T.F_Shelf_check_stands.ok sc_Shelf_check_stands (fun ds S R Z ⟨_, _, _, _, _, _, e, _⟩ => by rw [e]; rfl) (fun cdv A outer s H E ds S R Z hr ⟨a, F, cs, dl, rs, k, e, hS, hk, q1, q2⟩ => ?_)
  subst e
  obtain ⟨ld, lr, ra, h, _⟩ := id hS
  refine ⟨_, (s1 (si (tcm o_is hr.units (cme (dv 0) T.cl_Shelf T.me_Shelf_worths_at (G_Shelf_worths_at.mono (by decide)) hr T.b_Shelf_worths_at_1 d1 (ac (dv 1) an)) dn) (s1 (sra ⟨T.x_NoKey⟩ T.mg_NoKey (ac ds an))) s0)), ?_⟩
  refine ⟨_, rfl, a, _, rfl, h.ins, rfl, _, rfl, a, F, cs, dl, rs, k, .non, rfl, hS, hk, gt_non, fun i hi => ?_, fun hn => by cases hn⟩
  cases hi
  refine ⟨_, rfl, ?_⟩
  refine ifb (fun h1 => ?_) (fun h1 => ?_)
  · exact ⟨sm (show 1 ≤ 1000 by decide), fo (q2 h1)⟩
  · exact fo (q1 h1)
theorem ok_put (T : Txt K mg t) : FnD P w K mg base 6 t.f_Shelf_put t.d_Shelf_put ["self", "key", "worths"] (fun ds S R Z => ∃ a F cs dl rs k v, ds = [.ref a, k, v] ∧ ShAt t.c_Shelf S a F cs dl rs ∧ cs.length ≤ 8 ∧ Gt S k ∧ Gts S v ∧ dl.length ≤ 8000 ∧ rs.length ≤ 8000 ∧
    (rowB cs k v = false → Z t.c_BadRow S) ∧ (rowB cs k v = true → isNonD (wAt rs k dl.length) = false → Z t.c_HasKey S) ∧
    (∀ z ws, k = .str z → v = .tup ws → rowB cs k v = true → isNonD (wAt rs k dl.length) = true → ∀ S' F', ShAt t.c_Shelf S' a F' cs (dl ++ [.tup [.str "put", k, v]]) (begR rs z (dl.length + 1) ws) → Kps F F' S S' → R .non S')) := by
  have G_Shelf_worths_at : FnD P w K mg base 3 t.f_Shelf_worths_at t.d_Shelf_worths_at ["self", "key", "moment"] _ := ok_worths_at T
  have G_check_row : FnD P w K mg base 5 t.f_check_row t.d_check_row ["columns", "row"] _ := ok_check_row T
  have G_Shelf_begin_standing : FnD P w K mg base 2 t.f_Shelf_begin_standing t.d_Shelf_begin_standing ["self", "key", "worths"] _ := ok_begin T
  refine T.F_Shelf_put.ok sc_Shelf_put (fun ds S R Z ⟨_, _, _, _, _, _, _, e, _⟩ => by rw [e]; rfl) (fun cdv A outer s H E ds S R Z hr ⟨a, F, cs, dl, rs, k, v, e, hS, hc, hk, hv, hd, hn, q1, q2, q3⟩ => ?_)
  subst e
  obtain ⟨ld, lr, ra, h, hF, hrs⟩ := id hS
  refine ⟨_, (sc (se (cf (G_check_row.mono (by decide)) hr T.mg_check_row T.k_check_row T.b_check_row d0 (ac (fl T.cl_Shelf T.na_Shelf_columns (dv 0)) (ac (etup (ac (dv 1) (ac (dv 2) an))) an)))) (sc (si (tcm o_isnt hr.units (cme (dv 0) T.cl_Shelf T.me_Shelf_worths_at (G_Shelf_worths_at.mono (by decide)) hr T.b_Shelf_worths_at_1 d1 (ac (dv 1) an)) dn) (s1 (sra ⟨T.x_HasKey⟩ T.mg_HasKey (ac ds an))) s0) (sc (se (bm PySem.F.plainAttrs_list PySem.F.slot_list_append PySem.F.type_list_append m_append (fl T.cl_Shelf T.na_Shelf_deeds (dv 0)) (ac (etup (ac ds (ac (dv 1) (ac (dv 2) an)))) an))) (s1 (se (cme (dv 0) T.cl_Shelf T.me_Shelf_begin_standing (G_Shelf_begin_standing.mono (by decide)) hr T.b_Shelf_begin_standing d0 (ac (dv 1) (ac (dv 2) an)))))))), ?_⟩
  refine ⟨_, rfl, a, _, _, rfl, h.ins, rfl, _, rfl, _, rfl, sm (show 2 ≤ 1000 by decide), cs, k, v, rfl, hc, hk, hv, fun hr1 => ?_, fun hr0 => fo (q1 hr0)⟩
  refine ⟨_, rfl, a, _, rfl, h.ins, rfl, _, rfl, a, F, cs, dl, rs, k, .non, rfl, hS, hk, gt_non, fun i hi => ?_, fun hn => by cases hn⟩
  cases hi
  refine ⟨_, rfl, ?_⟩
  refine ifb (fun h1 => ?_) (fun h1 => ?_)
  · exact ⟨sm (show 1 ≤ 1000 by decide), fo (q2 hr1 (nt h1))⟩
  · obtain ⟨z, ws, rfl, rfl, hz⟩ := row_tup hr1
    refine ⟨_, rfl, a, _, _, rfl, h.ins, rfl, ⟨rfl, _, h.dee⟩, _, rfl, _, rfl, sm (show 3 ≤ 1000 by decide), ld, dl, _, rfl, rfl, h.dee, bg (by omega), ?_⟩
    have h1' := h.deed (.tup [.str "put", .str z, .tup ws])
    have hS1 : ShAt t.c_Shelf (S.set ld (.lst (dl ++ [.tup [.str "put", .str z, .tup ws]]))) a F cs (dl ++ [.tup [.str "put", .str z, .tup ws]]) rs := ⟨ld, lr, ra, h1', hF, hrs⟩
    have hl := lu_len hS z
    refine ⟨_, rfl, a, _, rfl, h1'.ins, rfl, _, rfl, _, rfl, a, F, cs, _, rs, z, ws, rfl, hS1, by rw [List.length_append]; exact Nat.lt_succ_of_le hl, by rw [List.length_append]; show dl.length + 1 ≤ _; omega, by omega, fun S' F' hS' hK => fo (q3 z ws rfl rfl hr1 (nf h1) S' F' ?_ ?_)⟩
    · have : (dl ++ [D.tup [.str "put", .str z, .tup ws]]).length = dl.length + 1 := List.length_append
      rw [this] at hS'; exact hS'
    · refine Kps.trans (kps_in ?_) hK
      rw [hF]; exact List.mem_cons_of_mem _ List.mem_cons_self
theorem ok_change (T : Txt K mg t) : FnD P w K mg base 6 t.f_Shelf_change t.d_Shelf_change ["self", "key", "worths"] (fun ds S R Z => ∃ a F cs dl rs k v, ds = [.ref a, k, v] ∧ ShAt t.c_Shelf S a F cs dl rs ∧ cs.length ≤ 8 ∧ Gt S k ∧ Gts S v ∧ dl.length ≤ 8000 ∧ rs.length ≤ 8000 ∧
    (rowB cs k v = false → Z t.c_BadRow S) ∧ (rowB cs k v = true → isNonD (wAt rs k dl.length) = true → Z t.c_NoKey S) ∧
    (∀ z ws, k = .str z → v = .tup ws → rowB cs k v = true → isNonD (wAt rs k dl.length) = false → ∀ S' F', ShAt t.c_Shelf S' a F' cs (dl ++ [.tup [.str "change", k, v]]) (begR (endR rs z dl.length) z (dl.length + 1) ws) → Kps F F' S S' → R .non S')) := by
  have G_Shelf_check_stands : FnD P w K mg base 4 t.f_Shelf_check_stands t.d_Shelf_check_stands ["self", "key"] _ := ok_check_stands T
  have G_check_row : FnD P w K mg base 5 t.f_check_row t.d_check_row ["columns", "row"] _ := ok_check_row T
  have G_Shelf_begin_standing : FnD P w K mg base 2 t.f_Shelf_begin_standing t.d_Shelf_begin_standing ["self", "key", "worths"] _ := ok_begin T
  have G_Shelf_end_standing : FnD P w K mg base 2 t.f_Shelf_end_standing t.d_Shelf_end_standing ["self", "key"] _ := ok_end T
  refine T.F_Shelf_change.ok sc_Shelf_change (fun ds S R Z ⟨_, _, _, _, _, _, _, e, _⟩ => by rw [e]; rfl) (fun cdv A outer s H E ds S R Z hr ⟨a, F, cs, dl, rs, k, v, e, hS, hc, hk, hv, hd, hn, q1, q2, q3⟩ => ?_)
  subst e
  obtain ⟨ld, lr, ra, h, hF, hrs⟩ := id hS
  refine ⟨_, (sc (se (cf (G_check_row.mono (by decide)) hr T.mg_check_row T.k_check_row T.b_check_row d0 (ac (fl T.cl_Shelf T.na_Shelf_columns (dv 0)) (ac (etup (ac (dv 1) (ac (dv 2) an))) an)))) (sc (se (cme (dv 0) T.cl_Shelf T.me_Shelf_check_stands (G_Shelf_check_stands.mono (by decide)) hr T.b_Shelf_check_stands d0 (ac (dv 1) an))) (sc (se (cme (dv 0) T.cl_Shelf T.me_Shelf_end_standing (G_Shelf_end_standing.mono (by decide)) hr T.b_Shelf_end_standing d0 (ac (dv 1) an))) (sc (se (bm PySem.F.plainAttrs_list PySem.F.slot_list_append PySem.F.type_list_append m_append (fl T.cl_Shelf T.na_Shelf_deeds (dv 0)) (ac (etup (ac ds (ac (dv 1) (ac (dv 2) an)))) an))) (s1 (se (cme (dv 0) T.cl_Shelf T.me_Shelf_begin_standing (G_Shelf_begin_standing.mono (by decide)) hr T.b_Shelf_begin_standing d0 (ac (dv 1) (ac (dv 2) an))))))))), ?_⟩
  refine ⟨_, rfl, a, _, _, rfl, h.ins, rfl, _, rfl, _, rfl, sm (show 2 ≤ 1000 by decide), cs, k, v, rfl, hc, hk, hv, fun hr1 => ?_, fun hr0 => fo (q1 hr0)⟩
  refine ⟨_, rfl, a, _, rfl, h.ins, rfl, _, rfl, a, F, cs, dl, rs, k, rfl, hS, hk, fun h1 => ?_, fun h1 => fo (q2 hr1 h1)⟩
  obtain ⟨z, ws, rfl, rfl, hz⟩ := row_tup hr1
  have hne : ∃ s, lu rs z = some s ∧ s ≠ [] := by
    rw [wAt_str hz] at h1
    have := wt_ne h1
    cases e : lu rs z with
    | none => rw [e] at this; exact absurd rfl this
    | some s => rw [e] at this; exact ⟨s, rfl, this⟩
  refine ⟨_, rfl, a, _, rfl, h.ins, rfl, _, rfl, a, F, cs, dl, rs, z, rfl, hS, hne, by omega, fun S1 hS1 hK1 => ?_⟩
  obtain ⟨ld1, lr1, ra1, h1', hF1, hrs1⟩ := id hS1
  refine ⟨_, rfl, a, _, _, rfl, h1'.ins, rfl, ⟨rfl, _, h1'.dee⟩, _, rfl, _, rfl, sm (show 3 ≤ 1000 by decide), ld1, dl, _, rfl, rfl, h1'.dee, bg (by omega), ?_⟩
  have h2 := h1'.deed (.tup [.str "change", .str z, .tup ws])
  have hS2 : ShAt t.c_Shelf (S1.set ld1 (.lst (dl ++ [.tup [.str "change", .str z, .tup ws]]))) a F cs (dl ++ [.tup [.str "change", .str z, .tup ws]]) (endR rs z dl.length) := ⟨ld1, lr1, ra1, h2, hF1, hrs1⟩
  have hl := lu_len hS1 z
  have hlr : (endR rs z dl.length).length ≤ rs.length + 1 := upR_len _ _ _
  refine ⟨_, rfl, a, _, rfl, h2.ins, rfl, _, rfl, _, rfl, a, F, cs, _, _, z, ws, rfl, hS2, by rw [List.length_append]; exact Nat.lt_succ_of_le hl, by rw [List.length_append]; show dl.length + 1 ≤ _; omega, by omega, fun S' F' hS' hK => fo (q3 z ws rfl rfl hr1 h1 S' F' ?_ ?_)⟩
  · have : (dl ++ [D.tup [.str "change", .str z, .tup ws]]).length = dl.length + 1 := List.length_append
    rw [this] at hS'; exact hS'
  · refine hK1.trans (Kps.trans (kps_in ?_) hK)
    rw [hF1]; exact List.mem_cons_of_mem _ List.mem_cons_self
theorem ok_take (T : Txt K mg t) : FnD P w K mg base 6 t.f_Shelf_take t.d_Shelf_take ["self", "key"] (fun ds S R Z => ∃ a F cs dl rs k, ds = [.ref a, k] ∧ ShAt t.c_Shelf S a F cs dl rs ∧ Gt S k ∧ dl.length ≤ 8000 ∧
    (ofStr keyZ k = false → Z t.c_BadRow S) ∧ (ofStr keyZ k = true → isNonD (wAt rs k dl.length) = true → Z t.c_NoKey S) ∧
    (∀ z, k = .str z → keyZ z = true → isNonD (wAt rs k dl.length) = false → ∀ S', ShAt t.c_Shelf S' a F cs (dl ++ [.tup [.str "take", k]]) (endR rs z dl.length) → Kps F F S S' → R .non S')) := by
  have G_Shelf_check_stands : FnD P w K mg base 4 t.f_Shelf_check_stands t.d_Shelf_check_stands ["self", "key"] _ := ok_check_stands T
  have G_is_key : FnD P w K mg base 2 t.f_is_key t.d_is_key ["thing"] (spOf (ofStr keyZ)) := ok_is_key T
  have G_Shelf_end_standing : FnD P w K mg base 2 t.f_Shelf_end_standing t.d_Shelf_end_standing ["self", "key"] _ := ok_end T
  refine T.F_Shelf_take.ok sc_Shelf_take (fun ds S R Z ⟨_, _, _, _, _, _, e, _⟩ => by rw [e]; rfl) (fun cdv A outer s H E ds S R Z hr ⟨a, F, cs, dl, rs, k, e, hS, hk, hd, q1, q2, q3⟩ => ?_)
  subst e
  obtain ⟨ld, lr, ra, h, hF, hrs⟩ := id hS
  refine ⟨_, (sc (si (tnot (tv (cf (G_is_key.mono (by decide)) hr T.mg_is_key T.k_is_key T.b_is_key d0 (ac (dv 1) an)))) (s1 (sra ⟨T.x_BadRow⟩ T.mg_BadRow (ac ds an))) s0) (sc (se (cme (dv 0) T.cl_Shelf T.me_Shelf_check_stands (G_Shelf_check_stands.mono (by decide)) hr T.b_Shelf_check_stands d0 (ac (dv 1) an))) (sc (se (cme (dv 0) T.cl_Shelf T.me_Shelf_end_standing (G_Shelf_end_standing.mono (by decide)) hr T.b_Shelf_end_standing d0 (ac (dv 1) an))) (s1 (se (bm PySem.F.plainAttrs_list PySem.F.slot_list_append PySem.F.type_list_append m_append (fl T.cl_Shelf T.na_Shelf_deeds (dv 0)) (ac (etup (ac ds (ac (dv 1) an))) an))))))), ?_⟩
  refine ⟨_, rfl, k, rfl, hk, _, rfl, ?_⟩
  refine ifb (fun h0 => ?_) (fun h0 => ?_)
  · exact ⟨sm (show 1 ≤ 1000 by decide), fo (q1 (nt h0))⟩
  · have h0 := nf h0
    refine ⟨_, rfl, a, _, rfl, h.ins, rfl, _, rfl, a, F, cs, dl, rs, k, rfl, hS, hk, fun h1 => ?_, fun h1 => fo (q2 h0 h1)⟩
    obtain ⟨z, rfl, hz⟩ := key_str h0
    have hne : ∃ s, lu rs z = some s ∧ s ≠ [] := by
      rw [wAt_str hz] at h1
      have := wt_ne h1
      cases e : lu rs z with
      | none => rw [e] at this; exact absurd rfl this
      | some s => rw [e] at this; exact ⟨s, rfl, this⟩
    refine ⟨_, rfl, a, _, rfl, h.ins, rfl, _, rfl, a, F, cs, dl, rs, z, rfl, hS, hne, by omega, fun S1 hS1 hK1 => ?_⟩
    obtain ⟨ld1, lr1, ra1, h1', hF1, hrs1⟩ := id hS1
    refine ⟨_, rfl, a, _, _, rfl, h1'.ins, rfl, ⟨rfl, _, h1'.dee⟩, _, rfl, sm (show 2 ≤ 1000 by decide), ld1, dl, _, rfl, rfl, h1'.dee, bg (by omega), ?_⟩
    refine fo (q3 z rfl hz h1 _ ⟨ld1, lr1, ra1, h1'.deed _, hF1, hrs1⟩ (hK1.trans (kps_in ?_)))
    rw [hF1]; exact List.mem_cons_of_mem _ List.mem_cons_self
theorem ok_init (T : Txt K mg t) : FnD P w K mg base 5 t.f_Shelf___init__ t.d_Shelf___init__ ["self", "columns"] (fun ds S R _ => ∃ a cs, ds = [.ref a, .tup (cs.map colD)] ∧ Gd cs ∧ S a = some (.ins t.c_Shelf []) ∧ ∀ S' F, ShAt t.c_Shelf S' a F cs [] [] → Kps [a] F S S' → R .non S') := by
  have G_check_columns : FnD P w K mg base 4 t.f_check_columns t.d_check_columns ["columns"] _ := ok_check_columns T
  refine T.F_Shelf___init__.ok sc_Shelf___init__ (fun ds S R Z ⟨_, _, e, _⟩ => by rw [e]; rfl) (fun cdv A outer s H E ds S R Z hr ⟨a, cs, e, hg, ha, q⟩ => ?_)
  subst e
  refine ⟨_, (sc (se (cf (G_check_columns.mono (by decide)) hr T.mg_check_columns T.k_check_columns T.b_check_columns d0 (ac (dv 1) an))) (sc (sf T.cl_Shelf T.na_Shelf_columns (dv 0) (dv 1)) (sc (sf T.cl_Shelf T.na_Shelf_deeds (dv 0) (elst an)) (s1 (sf T.cl_Shelf T.na_Shelf_runs (dv 0) edct))))), ?_⟩
  refine ⟨_, rfl, cs, rfl, hg, _, rfl, _, rfl, a, [], rfl, ha, (show 0 < 1000 by decide), ?_⟩
  refine ⟨sm (show 0 ≤ 1000 by decide), fun ld hld => ⟨_, rfl, a, [("columns", .tup (cs.map colD))], rfl, ?_, (show 1 < 1000 by decide), fun lr hlr => ⟨_, rfl, a, [("columns", .tup (cs.map colD)), ("deeds", .ref ld)], rfl, ?_, (show 2 < 1000 by decide), ?_⟩⟩⟩
  · have nl : a ≠ ld := by rintro rfl; rw [sset_same] at hld; cases hld
    rw [sset_ne nl, sset_same]; rfl
  · have nl : a ≠ lr := by rintro rfl; rw [sset_same] at hlr; cases hlr
    rw [sset_ne nl, sset_same]; rfl
  have n1 : a ≠ ld := by rintro rfl; rw [sset_same] at hld; cases hld
  have n2 : a ≠ lr := by rintro rfl; rw [sset_same] at hlr; cases hlr
  have n3 : ld ≠ lr := by rintro rfl; rw [sset_ne n1.symm, sset_same] at hlr; cases hlr
  rw [sset_ne n1.symm] at hld
  rw [sset_ne n2.symm, sset_ne n3.symm, sset_ne n2.symm] at hlr
  refine fo (q _ (fp a ld lr []) ⟨ld, lr, [], ⟨sset_same, ?_, ?_, fun r hr => (nomatch hr), List.nodup_nil, (by simp), fun r hr => (nomatch hr)⟩, rfl, rfl⟩ fun b c hb e => ?_)
  · rw [sset_ne n1.symm, sset_ne n3, sset_ne n1.symm, sset_same]
  · rw [sset_ne n2.symm, sset_same]; rfl
  · have b1 : b ≠ a := fun z => hb (by rw [z]; exact List.mem_cons_self)
    have b2 : b ≠ ld := sne e hld
    have b3 : b ≠ lr := sne e hlr
    refine ⟨fun m => ?_, by rw [sset_ne b1, sset_ne b3, sset_ne b1, sset_ne b2, sset_ne b1]; exact e⟩
    unfold fp at m
    simp only [List.map_nil, List.mem_cons, List.not_mem_nil, or_false] at m
    rcases m with m | m | m
    · exact b1 m
    · exact b2 m
    · exact b3 m
end
end My
namespace My
open PySem L2
def rowD (rs : Rs') (i : Int) (z : Str) : D := .tup [.str z, wt ((lu rs z).getD []) i]
def rowsAt (rs : Rs') (i : Int) (ss : List Str) : List D := (ss.filter fun z => !isNonD (wt ((lu rs z).getD []) i)).map (rowD rs i)
def keepRow : D → Bool
  | .tup [_, x] => !isNonD x
  | _ => false
theorem filter_rows {rs : Rs'} {i : Int} (ss : List Str) : ((ss.map (rowD rs i)).filter keepRow).map id = rowsAt rs i ss := by
  unfold rowsAt
  rw [List.map_id, List.filter_map]
  rfl
section
variable {P : Program} {w : World} {K : PySem.W.Frag} {mg : Str → Option Value} {base : Heap} {t : Adr}
def spAll (C N : Addr) : SpD := fun ds S R Z => ∃ a F cs dl rs m, ds = [.ref a, m] ∧ ShAt C S a F cs dl rs ∧ rs.length < 64 ∧ Gt S m ∧
  (∀ i ss, momD dl.length m = some i → ss.Perm (rs.map (·.1)) → PyProof.Rows.sortedS ss = true → ∀ p, S p = none → R (.ref p) (S.set p (.lst (rowsAt rs i ss)))) ∧ (momD dl.length m = none → Z N S)
theorem ok_all_at (T : Txt K mg t) : FnD P w K mg base 3 t.f_Shelf_all_at t.d_Shelf_all_at ["self", "moment"] (spAll t.c_Shelf t.c_NoMoment) := by
  have G_Shelf_moment_meant : FnD P w K mg base 2 t.f_Shelf_moment_meant t.d_Shelf_moment_meant ["self", "moment"] _ := ok_moment_meant T
  have G_worths_then : FnD P w K mg base 1 t.f_worths_then t.d_worths_then ["standings", "moment"] _ := ok_worths_then T
  refine T.F_Shelf_all_at.ok sc_Shelf_all_at (fun ds S R Z ⟨_, _, _, _, _, _, e, _⟩ => by rw [e]; rfl) (fun cdv A outer s H E ds S R Z hr ⟨a, F, cs, dl, rs, m, e, hS, hn, hm, q1, q2⟩ => ?_)
  subst e
  obtain ⟨ld, lr, ra, h, hF, hrs⟩ := id hS
  have ek : (kvOf ra).map (·.1) = (rs.map (·.1)).map Sum.inr := by
    rw [hrs]; unfold kvOf rsOf; rw [List.map_map, List.map_map, List.map_map]; rfl
  have el : (kvOf ra).length < 64 := by rw [hrs] at hn; unfold rsOf at hn; unfold kvOf; rw [List.length_map] at hn ⊢; exact hn
  refine ⟨_, (sc (st_ (i := 2) sc_Shelf_all_at.nd (cme (dv 0) T.cl_Shelf T.me_Shelf_moment_meant (G_Shelf_moment_meant.mono (by decide)) hr T.b_Shelf_moment_meant d0 (ac (dv 1) an))) (sc (stc (i := 3) (N := ["key", "then", "self"]) (src := [none, some 2, some 0]) sc_Shelf_all_at.nd (csc (defScope (inClass s_Shelf 10)) ["self", "moment", "then", "rows"] rfl rfl (by decide +kernel)) (il (cb c_sorted T.n_sorted bt_sorted (ac (fl T.cl_Shelf T.na_Shelf_runs (dv 0)) an))) (cg1 (show (["key", "then", "self"] : List Str).Nodup by decide +kernel)) (gx_name rfl) gd_name (fun _ _ _ _ _ => if0) (fun _ _ _ _ _ => (etup (ac (dv 0) (ac (cf (G_worths_then.mono (by decide)) hr T.mg_worths_then T.k_worths_then T.b_worths_then d0 (ac (ix hr.units (fl T.cl_Shelf T.na_Shelf_runs (dv 2)) (dv 0)) (ac (dv 1) an))) an))))) (s1 (sr (eco (N := ["row"]) (src := [none]) (csc (defScope (inClass s_Shelf 10)) ["self", "moment", "then", "rows"] rfl rfl (by decide +kernel)) (il (dv 3)) (cg1 (show (["row"] : List Str).Nodup by decide +kernel)) (gx_name rfl) gd_name (fun _ _ _ _ _ => (if1 (tcm o_isnt hr.units (ix hr.units (dv 0) di) dn))) (fun _ _ _ _ _ => (dv 0))))))), ?_⟩
  refine ⟨_, rfl, a, _, rfl, h.ins, rfl, _, rfl, a, F, cs, dl, rs, m, rfl, hS, hm, fun i hi => ?_, fun hn => fo (q2 hn)⟩
  refine ⟨_, rfl, a, _, _, rfl, h.ins, rfl, lr, kvOf ra, rs.map (·.1), rfl, h.run, ek, el, fun ss hp hs p hpn => ?_⟩
  have hlen : ss.length < 64 := by rw [hp.length_eq, List.length_map]; exact hn
  refine ⟨_, sset_same, ?_⟩
  refine comp_map (fun d => match d with | .str z => rowD rs i z | _ => .non) sset_same (by show (ss.map D.str).length ≤ 1000; rw [List.length_map]; omega) (fun d hd Q hQ => ?_) fun p2 hp2 => ?_
  · obtain ⟨z, hz, rfl⟩ := List.mem_map.mp hd
    have hz' : z ∈ rs.map (·.1) := hp.mem_iff.mp hz
    obtain ⟨r, hr', e⟩ := List.mem_map.mp hz'
    rw [hrs] at hr'
    unfold rsOf at hr'
    obtain ⟨r0, hr0, rfl⟩ := List.mem_map.mp hr'
    have e1 : luk ra z = some r0.2 := by
      cases e3 : luk ra z with
      | none => exact absurd e (luk_none e3 _ hr0)
      | some x => exact congrArg some (congrArg Prod.snd (inj_map (f := fun r : Str × Addr × List Std => r.1) h.kn (luk_mem (l := x.1) (s := x.2) e3) hr0 e.symm))
    have ed : dval (kvOf ra) (.inr z) = some (.ref r0.2.1) := by rw [dval_luk, e1]; rfl
    have hc := h.cell _ hr0
    have eq : (lu rs z).getD [] = r0.2.2 := by rw [hrs, lu_luk, e1]; rfl
    have hQ : Q (.tup [.str z, wt ((lu rs z).getD []) i]) (S.set p (.lst (ss.map D.str))) := hQ
    rw [eq] at hQ
    have hi1 : (S.set p (.lst (ss.map D.str))) a = _ := (sset_ne (sne h.ins hpn)).trans h.ins
    have hr1 : (S.set p (.lst (ss.map D.str))) lr = _ := (sset_ne (sne h.run hpn)).trans h.run
    have hc1 : (S.set p (.lst (ss.map D.str))) r0.2.1 = _ := (sset_ne (sne hc hpn)).trans hc
    exact ⟨_, rfl, _, rfl, a, _, _, rfl, hi1, rfl, _, rfl, kvOf ra, _, hr1, ed, _, rfl, _, _, i, rfl, hc1, sm (show 2 ≤ 1000 by decide), hQ⟩
  · have em : (ss.map D.str).map (fun d => match d with | .str z => rowD rs i z | _ => .non) = ss.map (rowD rs i) := by rw [List.map_map]; rfl
    refine ⟨_, rfl, ss.map (rowD rs i), by show ((S.set p _).set p2 (.lst ((ss.map D.str).map _))) p2 = _; rw [sset_same, em], ?_⟩
    refine comp_filt keepRow id (by show ((S.set p _).set p2 (.lst ((ss.map D.str).map _))) p2 = _; rw [sset_same, em]) (by show (ss.map (rowD rs i)).length ≤ 1000; rw [List.length_map]; omega) (fun d hd Q Q' hQ hQ' => ?_) fun p3 hp3 => ?_
    · obtain ⟨z, hz, rfl⟩ := List.mem_map.mp hd
      refine ⟨_, rfl, _, rfl, _, rfl, ?_⟩
      exact ifb (fun h => ⟨_, rfl, hQ h⟩) fun h => hQ' h
    · have hp3' : S p3 = none := by
        cases e : S p3 with
        | none => rfl
        | some c => exact absurd hp3 (by
            rw [sset_ne (sne e (by
              have : (S.set p (.lst (ss.map D.str))) p2 = none := hp2
              cases e' : S p2 with
              | none => rfl
              | some c' => rw [sset_ne (sne e' hpn), e'] at this; cases this)), sset_ne (sne e hpn), e]; exact nofun)
      refine ⟨S.set p3 (.lst (rowsAt rs i ss)), fun b c hb => ?_, q1 i ss hi hp hs p3 hp3'⟩
      show ((((S.set p (.lst (ss.map D.str))).set p2 _).set p3 (.lst (((ss.map (rowD rs i)).filter keepRow).map id)))) b = some c
      rw [filter_rows]
      by_cases hb3 : b = p3
      · subst hb3; rw [sset_same] at hb ⊢; exact hb
      · rw [sset_ne hb3] at hb
        have hp2' : S p2 = none := by
          cases e' : S p2 with
          | none => rfl
          | some c' => have : (S.set p (.lst (ss.map D.str))) p2 = none := hp2; rw [sset_ne (sne e' hpn), e'] at this; cases this
        rw [sset_ne hb3, sset_ne (sne hb hp2'), sset_ne (sne hb hpn)]; exact hb
end
end My
namespace My
open PySem L2
theorem newWell {P : Program} {w : World} {K : PySem.W.Frag} {mg : Str → Option Value} {base : Heap} {k : Nat} {f : Addr} {fd : FuncData} {ps : List Str} {pre : List D → Prop}
    (F : FnD P w K mg base k f fd ps (fun ds S R _ => pre ds ∧ ∀ l x y z, S l = none → R (.ref l) (S.set l (.lst [.int x, .int y, .int z])))) : FnD P w K mg base k f fd ps (fun ds S R _ => pre ds ∧ ∀ l, S l = none → R (.ref l) (S.set l .well)) := by
  refine F.imp fun vs H Q E ⟨ds, S, R, Z, v, hS, ⟨hp, h⟩, hR, hZ⟩ => ⟨ds, S, fun d S2 => ∃ l x y z, S l = none ∧ d = .ref l ∧ S2 = S.set l (.lst [.int x, .int y, .int z]), fun _ _ => False, v, hS, ⟨hp, fun l x y z hl => ⟨l, x, y, z, hl, rfl, rfl⟩⟩, fun d S2 u H' ⟨l, x, y, z, hl, e1, e2⟩ rv hs kp => ?_, fun _ _ _ q => q.elim⟩
  subst e1 e2
  refine hR _ _ u H' (h l hl) rv ?_ kp
  refine well_shut (x := x) (y := y) (z := z) sset_same ?_
  rw [sset_sset]; exact hs
def preD (ds : List D) (l : Addr) : Prop := ∃ m : Int, ds = [.ref l, .int m] ∧ 0 < m ∧ m.natAbs.log2 < 9000
def postD (ds : List D) (d : D) : Prop := ∃ (l : Addr) (m n : Int), ds = [.ref l, .int m] ∧ d = .int n ∧ 0 ≤ n ∧ n < m
section
variable {P : Program} {w : World} {K : PySem.W.Frag} {mg : Str → Option Value} {base : Heap} {t : Adr}
theorem ok_cell_at (T : Txt K mg t) : FnD P w K mg base 1 t.f_l_cell_at t.d_l_cell_at ["_law_script", "_law_k"] (fun ds S R _ => ∃ (ns : List Int) (k : Nat), ds = [.rol (ns.map D.int), .int k] ∧ ∀ c : Int, R (.int c) S) := by
  refine T.F_l_cell_at.ok sc_l_cell_at (fun ds S R Z ⟨_, _, e, _⟩ => by rw [e]; rfl) (fun cdv A outer s H E ds S R Z hr ⟨ns, k, e, q⟩ => ?_)
  subst e
  refine ⟨_, (sc (si (tcm o_lt hr.units (dv 1) (cb c_len T.n_len bt_len (ac (dv 0) an))) (s1 (sr (ix hr.units (dv 0) (dv 1)))) s0) (s1 (sr di))), ?_⟩
  refine ⟨_, rfl, _, rfl, _, rfl, _, rfl, ?_⟩
  refine ifb (fun h => ?_) (fun h => ?_)
  · have h : (k : Int) < (((ns.map D.int).length : Nat) : Int) := of_decide_eq_true h
    have hk : k < ns.length := by rw [List.length_map] at h; omega
    exact ⟨_, rfl, _, rfl, .int ns[k], atI_nat (by rw [List.getElem?_map]; simp [hk]), fo (q _)⟩
  · exact fo (q 0)
theorem ok_well (T : Txt K mg t) : FnD P w K mg base 1 t.f_l_well t.d_l_well ["_law_cell"] (fun ds S R _ => (∃ c : Int, ds = [.int c]) ∧ ∀ l, S l = none → R (.ref l) (S.set l .well)) := by
  refine newWell ?_
  refine T.F_l_well.ok sc_l_well (fun ds S R Z ⟨⟨_, e⟩, _⟩ => by rw [e]; rfl) (fun cdv A outer s H E ds S R Z hr ⟨⟨c, e⟩, q⟩ => ?_)
  subst e
  refine ⟨_, (s1 (sr (elst (ac (bo o_mul hr.units (dv 0) (ct c_int T.n_int bt_int (ac (cm o_ge hr.units (dv 0) (bo o_pow hr.units di di)) an))) (ac (bo o_mod hr.units (dv 0) di) (ac di an)))))), ?_⟩
  refine ⟨_, rfl, _, rfl, ⟨by decide, by decide, by decide⟩, .inr ⟨_, rfl, ?_⟩⟩
  refine ⟨.inr ⟨by split <;> decide, by split <;> decide⟩, _, rfl, by decide, sm (show 3 ≤ 1000 by decide), fun l hl => fo (q l _ _ _ hl)⟩
theorem ok_draw (T : Txt K mg t) : FnD P w K mg base 1 t.f_l_draw t.d_l_draw ["_law_well_here", "_law_most"] (spWell preD postD) := by
  refine spWell_of ?_
  refine T.F_l_draw.ok sc_l_draw (fun ds S R Z ⟨_, _, _, _, ⟨_, e, _⟩, _⟩ => by rw [e]; rfl) (fun cdv A outer s H E ds S R Z hr ⟨l, x, y, z, ⟨m, e, hm, hlg⟩, hl, q⟩ => ?_)
  subst e
  refine ⟨_, (sc (si (tcm o_gt hr.units (ix hr.units (dv 0) di) di) (sc (st_ (i := 2) sc_l_draw.nd (bo o_mod hr.units (ix hr.units (dv 0) di) (dv 1))) (sc (sls (dv 0) di (bo o_fdiv hr.units (ix hr.units (dv 0) di) (dv 1))) (s1 (sr (dv 2))))) s0) (sc (st_ (i := 2) sc_l_draw.nd di) (sc (scf (sfo (ir1 T.n_range (ac (bo o_add hr.units di (bo o_mul hr.units di (ct c_int T.n_int bt_int (ac (cm o_gt hr.units (dv 1) (bo o_pow hr.units di di)) an)))) an)) (gn (i := 3) sc_l_draw.nd) (sc (sls (dv 0) di (bo o_add hr.units (ix hr.units (dv 0) di) di)) (sc (st_ (i := 4) sc_l_draw.nd (bo o_mod hr.units (bo o_mul hr.units (bo o_add hr.units (bo o_add hr.units (ix hr.units (dv 0) di) (bo o_mul hr.units di (ix hr.units (dv 0) di))) di) di) di)) (sc (st_ (i := 4) sc_l_draw.nd (bo o_mod hr.units (bo o_mul hr.units (dv 4) (bo o_add hr.units (bo o_fdiv hr.units (dv 4) di) di)) di)) (s1 (st_ (i := 2) sc_l_draw.nd (bo o_add hr.units (bo o_mul hr.units (dv 2) di) (bo o_mod hr.units (bo o_mul hr.units (dv 4) (bo o_add hr.units (bo o_fdiv hr.units (dv 4) di) di)) di))))))))) (s1 (sr (bo o_mod hr.units (dv 2) (dv 1))))))), ?_⟩
  refine ⟨_, rfl, _, _, hl, rfl, _, rfl, ?_⟩
  refine ifb (fun h => ?_) (fun h => ?_)
  · refine ⟨_, rfl, _, _, hl, rfl, _, rfl, hm, ?_⟩
    refine ⟨_, rfl, _, _, hl, rfl, _, rfl, ⟨hm, hlg⟩, _, rfl, l, _, 0, 0, rfl, rfl, hl, rfl, ?_⟩
    exact ⟨_, rfl, fo (q _ _ _ _ ⟨l, m, _, rfl, rfl, Int.emod_nonneg _ (by omega), Int.emod_lt_of_pos _ hm⟩)⟩
  · refine ⟨fun σ' S' => ∃ (f : Int) (o1 o2 : Option D) (x y z : Int), σ' = [some (.ref l), some (.int m), some (.int f), o1, o2] ∧ S' = S.set l (.lst [.int x, .int y, .int z]), ?_, ?_⟩
    · refine ⟨_, rfl, ⟨by decide, by decide, by decide⟩, .inr ⟨_, rfl, .inl ⟨by decide, by decide⟩, _, rfl, ?_, ?_, ?_⟩⟩
      · split <;> decide
      · split <;> decide
      refine ⟨fun i σ' S' => ∃ (f : Int) (o1 o2 : Option D) (x y z : Int), σ' = [some (.ref l), some (.int m), some (.int f), o1, o2] ∧ S' = S.set l (.lst [.int x, .int y, .int z]), ⟨0, none, none, x, y, z, rfl, ?_⟩, fun _ _ _ _ => trivial, ?_, fun σ' S' h => fo h⟩
      · funext b; unfold Sto.set; split
        · rename_i h; rw [h]; exact hl
        · rfl
      rintro i d σ' S' hd ⟨f, o1, o2, x, y, z, rfl, rfl⟩
      have hl1 : (S.set l (.lst [.int x, .int y, .int z])) l = some (.lst [.int x, .int y, .int z]) := sset_same
      refine ⟨_, rfl, _, _, hl1, rfl, _, rfl, l, _, 2, 2, rfl, rfl, hl1, rfl, ?_⟩
      rw [sset_sset, show ([D.int x, D.int y, D.int z].set 2 (D.int (z + 1))) = [D.int x, D.int y, D.int (z + 1)] from rfl]
      have hl2 : (S.set l (.lst [.int x, .int y, .int (z + 1)])) l = some (.lst [.int x, .int y, .int (z + 1)]) := sset_same
      refine ⟨_, rfl, _, _, hl2, rfl, _, rfl, _, _, hl2, rfl, .inl ⟨by decide, by decide⟩, .inr ⟨by decide, by decide⟩, (show (0 : Int) < 2147483647 by decide), ?_⟩
      have nb : ∀ z : Int, 0 ≤ z % 2147483647 ∧ z % 2147483647 < 2147483647 := fun z => ⟨Int.emod_nonneg z (by decide), Int.emod_lt_of_pos z (by decide)⟩
      have n1 := nb ((y + 7919 * (z + 1) + 1) * 48271)
      generalize (y + 7919 * (z + 1) + 1) * 48271 % 2147483647 = u at *
      refine ⟨_, rfl, _, rfl, ⟨by decide, by decide +kernel⟩, .inl ⟨by omega, by omega⟩, (show (0 : Int) < 2147483647 by decide), ?_⟩
      have n2 := nb (u * (u / 1009 + 69621))
      generalize u * (u / 1009 + 69621) % 2147483647 = v at *
      exact ⟨_, rfl, .inr ⟨by decide, by decide⟩, _, rfl, _, rfl, ⟨by decide, by decide +kernel⟩, .inl ⟨by omega, by omega⟩, (show (0 : Int) < 2147483399 by decide), _, _, _, _, _, _, rfl, rfl⟩
    · rintro σ' S' ⟨f, o1, o2, x, y, z, rfl, rfl⟩
      exact ⟨_, rfl, _, rfl, hm, fo (q _ _ _ _ ⟨l, m, _, rfl, rfl, Int.emod_nonneg _ (by omega), Int.emod_lt_of_pos _ hm⟩)⟩
end
end My
namespace My
open PySem L2
def spDraw : SpD := fun ds S R _ => ∃ (l : Addr) (m : Int), ds = [.ref l, .int m] ∧ 0 < m ∧ m.natAbs.log2 < 9000 ∧ S l = some .well ∧ ∀ n : Int, 0 ≤ n → n < m → R (.int n) S
theorem ok_dr {P : Program} {w : World} {K : PySem.W.Frag} {mg : Str → Option Value} {base : Heap} {t : Adr} (T : Txt K mg t) : FnD P w K mg base 1 t.f_l_draw t.d_l_draw ["_law_well_here", "_law_most"] spDraw :=
  (ok_draw T).impD fun ds S R Z ⟨l, m, e, h0, h1, hw, q⟩ => ⟨l, ⟨m, e, h0, h1⟩, hw, fun d ⟨l', m', n, e1, e2, a, b⟩ => by rw [e] at e1; cases e1; subst e2; exact q n a b⟩
theorem wl {S : Sto} {l p : Addr} {c : Ce} (hw : S l = some .well) (hp : S p = none) : (S.set p c) l = some .well := (sset_ne (sne hw hp)).trans hw
theorem pick_go {L : List D} {S : Sto} {p : Addr} {n : Int} {R : KD} (h0 : 0 ≤ n) (h1 : n < (L.length : Int)) (hp : S p = none) (q : ∀ d, d ∈ L → R d S) : ∃ ds d, (S.set p (.lst L)) p = some (.lst ds) ∧ atI ds n = some d ∧ Fo (S.set p (.lst L)) (R d) := by
  obtain ⟨v, e1, e2⟩ := atI_mod (l := L) h0 h1
  exact ⟨L, v, sset_same, e1, S, .new hp, q v (List.mem_of_getElem? e2)⟩
theorem log_le {m : Int} (h0 : 0 < m) (h1 : m ≤ 8000) : m.natAbs.log2 < 9000 := by
  have h2 : m.natAbs ≤ 8000 := by omega
  have h3 : m.natAbs.log2 ≤ m.natAbs := Nat.log2_le_self _
  omega
abbrev KS : List Str := ["a", "ab", "b", "abc", "a1", "key", "z", "ba", "b2", "abcdefghijkl"]
theorem KS_key : ∀ z ∈ KS, keyZ z = true ∧ z.cps.size ≤ 12 ∧ PyData.strOk z = true := by decide +kernel
abbrev NMS : List Str := ["key", "up", "a", "at", "ab", "mark", "every", "now"]
theorem NMS_ok : ∀ z ∈ NMS, nameZ z = true ∧ PyData.strOk z = true := by decide +kernel
def plainV : D → Bool
  | .non => true
  | .int _ => true
  | .str z => decide (z.cps.size ≤ 40) && PyData.strOk z
  | _ => false
def Vg (kind : Str) (d : D) : Prop := valB kind d = true ∧ plainV d = true
abbrev STS : List Str := ["", "a", "ab", "b", "A b", "#"]
abbrev SUF : List Str := ["", "a", "\""]
theorem words_ok : ∀ a ∈ ("~~~~~~~~~~~~~~~~~~~~~~~~~~~~~~~~~~~~~~~" : Str) :: STS, ∀ b ∈ SUF, wordZ (a ++ b) = true ∧ (a ++ b).cps.size ≤ 40 ∧ PyData.strOk (a ++ b) = true ∧ a.length + b.length ≤ 1000 := by decide +kernel
theorem tilde1 : PySem.Txt.mul "~" 39 = "~~~~~~~~~~~~~~~~~~~~~~~~~~~~~~~~~~~~~~~" := by decide +kernel
theorem tilde2 : MulOk "~" 39 := ⟨by decide, by decide, by decide +kernel⟩
def spW0 (pre : List D → Prop) (post : List D → D → Prop) : SpD := fun ds S R _ => ∃ l r, ds = .ref l :: r ∧ pre r ∧ S l = some .well ∧ ∀ d, post r d → R d S
section
variable {P : Program} {w : World} {K : PySem.W.Frag} {mg : Str → Option Value} {base : Heap} {t : Adr}
theorem ok_key (T : Txt K mg t) : FnD P w K mg base 2 t.f_l_key t.d_l_key ["_law_well_here"] (spW0 (· = []) fun _ d => ∃ z ∈ KS, d = .str z) := by
  have G_l_draw : FnD P w K mg base 1 t.f_l_draw t.d_l_draw ["_law_well_here", "_law_most"] spDraw := ok_dr T
  refine T.F_l_key.ok sc_l_key (fun ds S R Z ⟨_, _, e, e2, _⟩ => by rw [e, e2]; rfl) (fun cdv A outer s H E ds S R Z hr ⟨l, r, e, e2, hw, q⟩ => ?_)
  subst e e2
  refine ⟨_, (s1 (sr (efo (ix hr.units (elst (ac ds (ac ds (ac ds (ac ds (ac ds (ac ds (ac ds (ac ds (ac ds (ac ds an))))))))))) (cf (G_l_draw.mono (by decide)) hr T.mg_l_draw T.k_l_draw T.b_l_draw d0 (ac (dv 0) (ac di an))))))), ?_⟩
  refine ⟨sm (show 10 ≤ 1000 by decide), fun p hp => ⟨_, rfl, l, _, rfl, (by decide), (by decide), wl hw hp, fun n h0 h1 => pick_go h0 h1 hp fun d hd => ?_⟩⟩
  have hd : d ∈ KS.map D.str := hd
  obtain ⟨z, hz, rfl⟩ := List.mem_map.mp hd
  exact fo (q _ ⟨z, hz, rfl⟩)
theorem ok_value (T : Txt K mg t) : FnD P w K mg base 2 t.f_l_value t.d_l_value ["_law_well_here", "_law_kind"] (spW0 (fun r => r = [.str "number"] ∨ r = [.str "word"]) fun r d => ∃ k, r = [.str k] ∧ Vg k d) := by
  have G_l_draw : FnD P w K mg base 1 t.f_l_draw t.d_l_draw ["_law_well_here", "_law_most"] spDraw := ok_dr T
  refine T.F_l_value.ok sc_l_value (fun ds S R Z ⟨_, _, e, e2, _⟩ => by rw [e]; rcases e2 with e2 | e2 <;> rw [e2] <;> rfl) (fun cdv A outer s H E ds S R Z hr ⟨l, r, e, e2, hw, q⟩ => ?_)
  subst e
  obtain ⟨k, rfl, hk⟩ : ∃ k, r = [.str k] ∧ (k = "number" ∨ k = "word") := by
    rcases e2 with e | e
    · exact ⟨_, e, .inl rfl⟩
    · exact ⟨_, e, .inr rfl⟩
  have q : ∀ d, Vg k d → R d S := fun d hd => q d ⟨k, rfl, hd⟩
  have hint : k = "number" → ∀ i : Int, R (.int i) S := fun e i => q _ ⟨by rw [e]; rfl, rfl⟩
  refine ⟨_, (sc (si (tcm o_eq hr.units (cf (G_l_draw.mono (by decide)) hr T.mg_l_draw T.k_l_draw T.b_l_draw d0 (ac (dv 0) (ac di an))) di) (s1 (sr dn)) s0) (sc (si (twd (twand (tcm o_eq hr.units (dv 1) ds) (tw1 (tcm o_eq hr.units (cf (G_l_draw.mono (by decide)) hr T.mg_l_draw T.k_l_draw T.b_l_draw d0 (ac (dv 0) (ac di an))) di)))) (s1 (sr (bo o_sub hr.units (cf (G_l_draw.mono (by decide)) hr T.mg_l_draw T.k_l_draw T.b_l_draw d0 (ac (dv 0) (ac (bo o_mul hr.units di (bo o_pow hr.units di di)) an))) (bo o_pow hr.units di di)))) s0) (sc (si (tcm o_eq hr.units (dv 1) ds) (s1 (sr (bo o_sub hr.units (cf (G_l_draw.mono (by decide)) hr T.mg_l_draw T.k_l_draw T.b_l_draw d0 (ac (dv 0) (ac di an))) di))) s0) (sc (st_ (i := 2) sc_l_value.nd (efo (ix hr.units (elst (ac ds (ac ds (ac ds (ac ds (ac ds (ac ds (ac (bo o_mul hr.units ds di) an)))))))) (cf (G_l_draw.mono (by decide)) hr T.mg_l_draw T.k_l_draw T.b_l_draw d0 (ac (dv 0) (ac di an)))))) (s1 (sr (bo o_add hr.units (dv 2) (efo (ix hr.units (elst (ac ds (ac ds (ac ds (ac ds an))))) (cf (G_l_draw.mono (by decide)) hr T.mg_l_draw T.k_l_draw T.b_l_draw d0 (ac (dv 0) (ac di an)))))))))))), ?_⟩
  refine ⟨_, rfl, l, _, rfl, (by decide), (by decide), hw, fun n h0 h1 => ⟨_, rfl, ?_⟩⟩
  refine ifb (fun h => ?_) (fun h => ?_)
  · exact fo (q .non ⟨rfl, rfl⟩)
  refine ⟨_, rfl, _, rfl, ?_⟩
  refine ifb (fun h2 => ?_) (fun h2 => ?_)
  · have ek : k = "number" := of_decide_eq_true h2
    refine ⟨_, rfl, l, _, rfl, (by decide), (by decide), hw, fun n1 h01 h11 => ⟨_, rfl, ?_⟩⟩
    refine ifb (fun h3 => ?_) (fun h3 => ?_)
    · refine ⟨_, rfl, ⟨by decide, by decide, by decide⟩, .inl ⟨by decide, by decide⟩, l, _, rfl, (by decide +kernel), (by decide +kernel), hw, fun n2 h02 h12 => ⟨⟨by decide, by decide, by decide⟩, fo (hint ek _)⟩⟩
    · refine ⟨_, rfl, _, rfl, ?_⟩
      show if decide (k = "number") = true then _ else _
      rw [decide_eq_true ek]
      exact iteT ⟨_, rfl, l, _, rfl, (by decide), (by decide), hw, fun n2 h02 h12 => fo (hint ek _)⟩
  · have ek : ¬ k = "number" := of_decide_eq_false h2
    have ek' : k = "word" := hk.resolve_left ek
    refine ⟨_, rfl, _, rfl, ?_⟩
    show if decide (k = "number") = true then _ else _
    rw [decide_eq_false ek]
    refine iteF ?_
    refine ⟨tilde2, sm (show 7 ≤ 1000 by decide), fun p hp => ⟨_, rfl, l, _, rfl, (by decide), (by decide), wl hw hp, fun n1 h01 h11 => pick_go h01 h11 hp fun d hd => ?_⟩⟩
    rw [tilde1] at hd
    have hd : d ∈ [D.str "", .str "a", .str "ab", .str "b", .str "A b", .str "#", .str "~~~~~~~~~~~~~~~~~~~~~~~~~~~~~~~~~~~~~~~"] := hd
    obtain ⟨a, ha, rfl⟩ : ∃ a ∈ ("~~~~~~~~~~~~~~~~~~~~~~~~~~~~~~~~~~~~~~~" : Str) :: STS, d = .str a := by
      simp only [List.mem_cons, List.not_mem_nil, or_false] at hd
      rcases hd with h | h | h | h | h | h | h <;> exact ⟨_, by simp, h⟩
    refine ⟨_, rfl, sm (show 4 ≤ 1000 by decide), fun p2 hp2 => ⟨_, rfl, l, _, rfl, (by decide), (by decide), wl hw hp2, fun n2 h02 h12 => pick_go h02 h12 hp2 fun d hd => ?_⟩⟩
    have hd : d ∈ [D.str "", .str "", .str "a", .str "\""] := hd
    obtain ⟨b, hb, rfl⟩ : ∃ b ∈ SUF, d = .str b := by
      simp only [List.mem_cons, List.not_mem_nil, or_false] at hd
      rcases hd with h | h | h | h <;> exact ⟨_, by simp, h⟩
    obtain ⟨w1, w2, w3, w4⟩ := words_ok a ha b hb
    refine ⟨sm w4, fo (q _ ⟨?_, ?_⟩)⟩
    · rw [ek']; show (false || if ("word" : Str) = "number" then _ else wordZ (a ++ b)) = true
      rw [if_neg (by decide), w1]; rfl
    · show (decide ((a ++ b).cps.size ≤ 40) && PyData.strOk (a ++ b)) = true
      rw [decide_eq_true w2, w3]; rfl
end
end My
namespace My
open PySem L2
def Wg (cs : List (Str × Str)) (ws : List D) : Prop := Paired (fun (c : Str × Str) v => Vg c.2 v) cs ws
theorem paired_col {rel : (Str × Str) → D → Prop} : ∀ {cs : List (Str × Str)} {out : List D}, Paired (fun d v => ∃ c, d = colD c ∧ rel c v) (cs.map colD) out → Paired (fun c v => rel c v) cs out
  | [], _, .nil => .nil
  | c :: cs, _, .cons ⟨c', e, r⟩ t => by
    have : c = c' := by
      unfold colD at e
      injection e with e
      injection e with e1 e2
      injection e1 with e1
      injection e2 with e2 _
      injection e2 with e2
      exact Prod.ext e1 e2
    subst this
    exact .cons r (paired_col t)
def nmAt (tr j : Nat) : Str := NMS.getD ((j + tr) % 8) ""
theorem nm_nodup : ∀ tr < 8, ∀ i < 9, ((List.range i).map (nmAt tr)).Nodup := by decide +kernel
theorem nm_mem (tr j : Nat) : nmAt tr j ∈ NMS := by
  have : (j + tr) % 8 < 8 := Nat.mod_lt _ (by decide)
  unfold nmAt
  rw [List.getD_eq_getElem?_getD, List.getElem?_eq_getElem (show (j + tr) % 8 < NMS.length from this)]
  exact List.getElem_mem _
section
variable {P : Program} {w : World} {K : PySem.W.Frag} {mg : Str → Option Value} {base : Heap} {t : Adr}
theorem ok_worths (T : Txt K mg t) : FnD P w K mg base 3 t.f_l_worths t.d_l_worths ["_law_well_here", "_law_columns_here"] (fun ds S R _ => ∃ l cs, ds = [.ref l, .tup (cs.map colD)] ∧ Gd cs ∧ S l = some .well ∧ ∀ ws, Wg cs ws → R (.tup ws) S) := by
  have G_l_value : FnD P w K mg base 2 t.f_l_value t.d_l_value ["_law_well_here", "_law_kind"] _ := ok_value T
  refine T.F_l_worths.ok sc_l_worths (fun ds S R Z ⟨_, _, e, _⟩ => by rw [e]; rfl) (fun cdv A outer s H E ds S R Z hr ⟨l, cs, e, hg, hw, q⟩ => ?_)
  subst e
  refine ⟨_, (s1 (sr (ct c_tuple T.n_tuple bt_tuple (ac (eco (N := ["_law_column", "_law_well_here"]) (src := [none, some 0]) (csc (defScope s_l_worths) ["_law_well_here", "_law_columns_here"] rfl rfl (by decide +kernel)) (itp (dv 1)) (cg1 (show (["_law_column", "_law_well_here"] : List Str).Nodup by decide +kernel)) (gx_name rfl) gd_name (fun _ _ _ _ _ => if0) (fun _ _ _ _ _ => (cf (G_l_value.mono (by decide)) hr T.mg_l_value T.k_l_value T.b_l_value d0 (ac (dv 1) (ac (ix hr.units (dv 0) di) an))))) an)))), ?_⟩
  refine ⟨_, rfl, _, .inl rfl, ?_⟩
  refine comp_rel (fun d v => ∃ c : Str × Str, d = colD c ∧ Vg c.2 v) trivial (by show (cs.map colD).length ≤ 1000; rw [List.length_map]; have := hg.1; omega) (fun d hd Q hQ => ?_) fun out hp p hpn => ?_
  · obtain ⟨c, hc, rfl⟩ := List.mem_map.mp hd
    refine ⟨_, rfl, _, rfl, .str c.2, rfl, l, _, rfl, ?_, hw, fun v ⟨k, e, hv⟩ => hQ v ⟨c, rfl, ?_⟩⟩
    · rcases (hg.2.2 c hc).2 with e | e <;> rw [e]
      · exact .inl rfl
      · exact .inr rfl
    · cases e; exact hv
  · exact ⟨_, out, rfl, .inl sset_same, S, .new hpn, q out (paired_col hp)⟩
theorem ok_columns (T : Txt K mg t) : FnD P w K mg base 2 t.f_l_columns t.d_l_columns ["_law_well_here"] (fun ds S R _ => ∃ l, ds = [.ref l] ∧ S l = some .well ∧ ∀ cs, Gd cs → (∀ c ∈ cs, c.1 ∈ NMS) → R (.tup (cs.map colD)) S) := by
  have G_l_draw : FnD P w K mg base 1 t.f_l_draw t.d_l_draw ["_law_well_here", "_law_most"] spDraw := ok_dr T
  refine T.F_l_columns.ok sc_l_columns (fun ds S R Z ⟨_, e, _⟩ => by rw [e]; rfl) (fun cdv A outer s H E ds S R Z hr ⟨l, e, hw, q⟩ => ?_)
  subst e
  refine ⟨_, (sc (st_ (i := 1) sc_l_columns.nd (elst (ac ds (ac ds (ac ds (ac ds (ac ds (ac ds (ac ds (ac ds an)))))))))) (sc (st_ (i := 2) sc_l_columns.nd (cf (G_l_draw.mono (by decide)) hr T.mg_l_draw T.k_l_draw T.b_l_draw d0 (ac (dv 0) (ac di an)))) (sc (st_ (i := 3) sc_l_columns.nd (elst an)) (sc (scf (sfo (ir1 T.n_range (ac (efo (ix hr.units (elst (ac di (ac di (ac di (ac (cf (G_l_draw.mono (by decide)) hr T.mg_l_draw T.k_l_draw T.b_l_draw d0 (ac (dv 0) (ac di an))) an))))) (cf (G_l_draw.mono (by decide)) hr T.mg_l_draw T.k_l_draw T.b_l_draw d0 (ac (dv 0) (ac di an))))) an)) (gn (i := 4) sc_l_columns.nd) (s1 (se (bm PySem.F.plainAttrs_list PySem.F.slot_list_append PySem.F.type_list_append m_append (dv 3) (ac (etup (ac (ix hr.units (dv 1) (bo o_mod hr.units (bo o_add hr.units (dv 4) (dv 2)) di)) (ac (efo (ix hr.units (elst (ac ds (ac ds an))) (cf (G_l_draw.mono (by decide)) hr T.mg_l_draw T.k_l_draw T.b_l_draw d0 (ac (dv 0) (ac di an))))) an))) an)))))) (s1 (sr (ct c_tuple T.n_tuple bt_tuple (ac (dv 3) an)))))))), ?_⟩
  refine ⟨sm (show 8 ≤ 1000 by decide), fun ln hln => ⟨_, rfl, l, _, rfl, (by decide), (by decide), wl hw hln, fun tr ht0 ht1 => ⟨sm (show 0 ≤ 1000 by decide), fun lf hlf => ?_⟩⟩⟩
  obtain ⟨tn, rfl⟩ : ∃ n : Nat, tr = (n : Int) := ⟨tr.toNat, by omega⟩
  have htn : tn < 8 := by omega
  have nfl : lf ≠ ln := by rintro rfl; rw [sset_same] at hlf; cases hlf
  have hlf0 : S lf = none := by rw [sset_ne nfl] at hlf; exact hlf
  refine ⟨fun σ' S' => ∃ (o : Option D) (cs : List (Str × Str)), σ' = [some (.ref l), some (.ref ln), some (.int tn), some (.ref lf), o] ∧ Gd cs ∧ (∀ c ∈ cs, c.1 ∈ NMS) ∧ S' = S.set lf (.lst (cs.map colD)), ?_, ?_⟩
  · have hw2 := wl (c := .lst []) (wl (c := .lst [.str "key", .str "up", .str "a", .str "at", .str "ab", .str "mark", .str "every", .str "now"]) hw hln) hlf
    refine ⟨_, rfl, l, _, rfl, (by decide), (by decide), hw2, fun n9 h90 h91 => ⟨sm (show 4 ≤ 1000 by decide), fun p hp => ⟨_, rfl, l, _, rfl, (by decide), (by decide), wl hw2 hp, fun n4 h40 h41 => pick_go h40 h41 hp fun d hd => ?_⟩⟩⟩
    obtain ⟨m, rfl, hm⟩ : ∃ m : Nat, d = .int m ∧ m ≤ 8 := by
      have hd : d ∈ [D.int 1, .int 2, .int 3, .int n9] := hd
      simp only [List.mem_cons, List.not_mem_nil, or_false] at hd
      rcases hd with h | h | h | h
      · exact ⟨1, h, by decide⟩
      · exact ⟨2, h, by decide⟩
      · exact ⟨3, h, by decide⟩
      · exact ⟨n9.toNat, by rw [h]; congr 1; omega, by omega⟩
    refine ⟨m, rfl, by omega, by omega, ?_⟩
    refine ⟨fun i σ' S' => ∃ (o : Option D) (cs : List (Str × Str)), σ' = [some (.ref l), some (.ref ln), some (.int tn), some (.ref lf), o] ∧ cs.map Prod.fst = (List.range i).map (nmAt tn) ∧ (∀ c ∈ cs, c.2 = "number" ∨ c.2 = "word") ∧ S' = (S.set ln (.lst (NMS.map D.str))).set lf (.lst (cs.map colD)), ⟨none, [], rfl, rfl, fun _ h => (nomatch h), rfl⟩, fun _ _ _ _ => trivial, ?_, ?_⟩
    · rintro i d σ' S' hd ⟨o, cs, rfl, hn, hk, rfl⟩
      obtain ⟨hi, rfl⟩ := rngD_get hd
      have hi : i < m := by simpa using hi
      have hcl : cs.length = i := by have := congrArg List.length hn; simpa using this
      generalize hS2 : (S.set ln (.lst (NMS.map D.str))).set lf (.lst (cs.map colD)) = S2
      have ef : S2 lf = some (.lst (cs.map colD)) := by rw [← hS2, sset_same]
      have en : S2 ln = some (.lst (NMS.map D.str)) := by rw [← hS2, sset_ne nfl.symm, sset_same]
      have ew : S2 l = some .well := by rw [← hS2, sset_ne (sne hw hlf0), sset_ne (sne hw hln)]; exact hw
      have enm : atI (NMS.map D.str) (((0 : Int) + (i : Nat) + (tn : Nat)) % 8) = some (.str (nmAt tn i)) := by
        have e : ((0 : Int) + (i : Nat) + (tn : Nat)) % 8 = (((i + tn) % 8 : Nat) : Int) := by omega
        have hlt : (i + tn) % 8 < 8 := Nat.mod_lt _ (by decide)
        rw [e]
        refine atI_nat ?_
        rw [List.getElem?_map]
        unfold nmAt
        rw [List.getD_eq_getElem?_getD, List.getElem?_eq_getElem (show (i + tn) % 8 < NMS.length from hlt)]
        rfl
      refine ⟨_, rfl, ⟨rfl, _, ef⟩, _, rfl, _, rfl, _, rfl, (show (0 : Int) < 8 by decide), _, _, en, enm, sm (show 2 ≤ 1000 by decide), fun p hp => ⟨_, rfl, l, _, rfl, (by decide), (by decide), wl ew hp, fun n2 h20 h21 => pick_go h20 h21 hp fun d hd => ?_⟩⟩
      obtain ⟨kd, rfl, hkd⟩ : ∃ kd : Str, d = .str kd ∧ (kd = "number" ∨ kd = "word") := by
        have hd : d ∈ [D.str "number", .str "word"] := hd
        simp only [List.mem_cons, List.not_mem_nil, or_false] at hd
        rcases hd with h | h
        · exact ⟨_, h, .inl rfl⟩
        · exact ⟨_, h, .inr rfl⟩
      refine ⟨sm (show 2 ≤ 1000 by decide), lf, _, _, rfl, rfl, ef, bg (by rw [List.length_map]; omega), _, cs ++ [(nmAt tn i, kd)], rfl, ?_, ?_, ?_⟩
      · rw [List.map_append, hn, List.range_succ, List.map_append]; rfl
      · intro c hc
        rcases List.mem_append.mp hc with h | h
        · exact hk c h
        · rw [List.mem_singleton.mp h]; exact hkd
      · rw [← hS2, sset_sset, List.map_append]; rfl
    · rintro σ' S' ⟨o, cs, rfl, hn, hk, rfl⟩
      rw [rngD_len] at hn
      have hn : cs.map Prod.fst = (List.range m).map (nmAt tn) := by simpa using hn
      have hcl : cs.length = m := by have := congrArg List.length hn; simpa using this
      have hin : ∀ c ∈ cs, c.1 ∈ NMS := fun c hc => by
        have : c.1 ∈ cs.map Prod.fst := List.mem_map.mpr ⟨c, hc, rfl⟩
        rw [hn] at this
        obtain ⟨j, _, e⟩ := List.mem_map.mp this
        rw [← e]; exact nm_mem tn j
      refine ⟨S.set lf (.lst (cs.map colD)), fun b c hb => ?_, o, cs, rfl, ⟨by omega, by rw [hn]; exact nm_nodup tn htn m (by omega), fun c hc => ⟨(NMS_ok _ (hin c hc)).1, hk c hc⟩⟩, hin, rfl⟩
      by_cases hbf : b = lf
      · subst hbf; rw [sset_same] at hb ⊢; exact hb
      · rw [sset_ne hbf] at hb
        rw [sset_ne hbf, sset_ne (sne hb hln)]; exact hb
  · rintro σ' S' ⟨o, cs, rfl, hg, hin, rfl⟩
    exact ⟨_, rfl, _, cs.map colD, rfl, .inl sset_same, S, .new hlf0, q cs hg hin⟩
end
end My
namespace My
open PySem L2
abbrev Kn := List (Str × List D)
def kvK (kn : Kn) : List (Key × D) := kn.map fun r => (Sum.inr r.1, D.tup r.2)
def luK (kn : Kn) (z : Str) : Option (List D) := (kn.find? fun r => decide (r.1 = z)).map (·.2)
structure KI (cs : List (Str × Str)) (kn : Kn) : Prop where
  nd : (kn.map (·.1)).Nodup
  ok : ∀ r ∈ kn, r.1 ∈ KS ∧ Wg cs r.2
theorem luK_cons {r : Str × List D} {kn : Kn} {k : Str} : luK (r :: kn) k = if r.1 = k then some r.2 else luK kn k := by
  unfold luK
  rw [List.find?_cons]
  by_cases h : r.1 = k
  · rw [decide_eq_true h, if_pos h]; rfl
  · rw [decide_eq_false h, if_neg h]
theorem dval_luK (kn : Kn) (k : Str) : dval (kvK kn) (.inr k) = (luK kn k).map D.tup := by
  induction kn with
  | nil => rfl
  | cons r kn ih =>
    rw [luK_cons]
    unfold dval kvK at *
    rw [List.map_cons, List.find?_cons]
    by_cases h : r.1 = k
    · have : decide ((Sum.inr r.1 : Key) = .inr k) = true := decide_eq_true (by rw [h])
      dsimp only
      rw [this, if_pos h]; rfl
    · have : decide ((Sum.inr r.1 : Key) = .inr k) = false := decide_eq_false fun e => h (Sum.inr.inj e)
      dsimp only
      rw [this, if_neg h]; exact ih
theorem luK_mem {kn : Kn} {k : Str} {ws : List D} (h : luK kn k = some ws) : (k, ws) ∈ kn := by
  induction kn with
  | nil => cases h
  | cons r kn ih =>
    rw [luK_cons] at h
    by_cases hk : r.1 = k
    · rw [if_pos hk] at h; cases h; rw [← hk]; exact List.mem_cons_self
    · rw [if_neg hk] at h; exact List.mem_cons_of_mem _ (ih h)
theorem luK_in {kn : Kn} {k : Str} (h : k ∈ kn.map (·.1)) : ∃ ws, luK kn k = some ws := by
  induction kn with
  | nil => cases h
  | cons r kn ih =>
    rw [luK_cons]
    by_cases hk : r.1 = k
    · exact ⟨r.2, if_pos hk⟩
    · rw [if_neg hk]
      rw [List.map_cons] at h
      rcases List.mem_cons.mp h with e | h
      · exact absurd e.symm hk
      · exact ih h
theorem sub_len {α : Type} [DecidableEq α] : ∀ {l m : List α}, l.Nodup → (∀ x ∈ l, x ∈ m) → l.length ≤ m.length
  | [], m, _, _ => Nat.zero_le _
  | a :: l, m, nd, h => by
    obtain ⟨n1, n2⟩ := List.nodup_cons.mp nd
    have h1 := sub_len (m := m.erase a) n2 fun x hx => (List.mem_erase_of_ne (fun e => n1 (by rw [← e]; exact hx))).mpr (h x (List.mem_cons_of_mem _ hx))
    have h2 := List.length_erase_of_mem (h a List.mem_cons_self)
    have h3 : 0 < m.length := List.length_pos_of_mem (h a List.mem_cons_self)
    rw [List.length_cons]; omega
theorem KI.len {cs : List (Str × Str)} {kn : Kn} (h : KI cs kn) : kn.length ≤ 10 := by
  have := sub_len h.nd (m := KS) fun x hx => by
    obtain ⟨r, hr, rfl⟩ := List.mem_map.mp hx
    exact (h.ok r hr).1
  rw [List.length_map] at this
  exact this
def kput (kn : Kn) (z : Str) (ws : List D) : Kn := if (luK kn z).isSome then kn.map fun r => if r.1 = z then (r.1, ws) else r else kn ++ [(z, ws)]
def kdel (kn : Kn) (z : Str) : Kn := kn.filter fun r => decide (r.1 ≠ z)
theorem kv_put (kn : Kn) (z : Str) (ws : List D) : dput (kvK kn) (.inr z) (.tup ws) = kvK (kput kn z ws) := by
  unfold dput kput
  have e : ((kvK kn).any fun kv => decide (kv.1 = .inr z)) = (luK kn z).isSome := by
    induction kn with
    | nil => rfl
    | cons r kn ih =>
      unfold kvK at *
      rw [List.map_cons, List.any_cons, ih, luK_cons]
      by_cases h : r.1 = z
      · rw [if_pos h, decide_eq_true (by rw [h]), Bool.true_or]; rfl
      · rw [if_neg h, decide_eq_false fun e => h (Sum.inr.inj e), Bool.false_or]
  rw [e]
  split
  · unfold kvK
    rw [List.map_map, List.map_map]
    refine List.map_congr_left fun r _ => ?_
    dsimp only [Function.comp]
    by_cases h : r.1 = z
    · rw [if_pos h, if_pos (by rw [h])]
    · rw [if_neg h, if_neg fun e => h (Sum.inr.inj e)]
  · unfold kvK
    rw [List.map_append]; rfl
theorem kv_del (kn : Kn) (z : Str) : ddrop (kvK kn) (.inr z) = kvK (kdel kn z) := by
  unfold ddrop kdel kvK
  rw [List.filter_map]
  congr 1
  refine List.filter_congr fun r _ => ?_
  dsimp only [Function.comp]
  rw [decide_eq_decide]
  exact ⟨fun h e => h (by rw [e]), fun h e => h (Sum.inr.inj e)⟩
theorem luK_put {kn : Kn} {z k : Str} {ws : List D} : luK (kput kn z ws) k = if k = z then some ws else luK kn k := by
  unfold kput
  by_cases hs : (luK kn z).isSome = true
  · rw [if_pos hs]
    by_cases hk : k = z
    · subst hk
      rw [if_pos rfl]
      induction kn with
      | nil => cases hs
      | cons r rs ih =>
        rw [List.map_cons, luK_cons]
        by_cases h : r.1 = k
        · rw [if_pos h, if_pos h]
        · rw [if_neg h, if_neg h]
          rw [luK_cons, if_neg h] at hs
          exact ih hs
    · rw [if_neg hk]
      clear hs
      induction kn with
      | nil => rfl
      | cons r rs ih =>
        rw [List.map_cons, luK_cons, luK_cons, ih]
        by_cases h : r.1 = z
        · rw [if_pos h, if_neg (show ¬ r.1 = k from fun e => hk (e.symm.trans h)), if_neg (show ¬ r.1 = k from fun e => hk (e.symm.trans h))]
        · rw [if_neg h]
  · rw [if_neg hs]
    have hn : luK kn z = none := by cases e : luK kn z <;> simp_all
    clear hs
    induction kn with
    | nil =>
      rw [List.nil_append, luK_cons]
      by_cases hk : k = z
      · rw [if_pos hk, if_pos hk.symm]
      · rw [if_neg hk, if_neg fun e => hk e.symm]
    | cons r rs ih =>
      rw [luK_cons] at hn
      by_cases h : r.1 = z
      · rw [if_pos h] at hn; cases hn
      · rw [if_neg h] at hn
        rw [List.cons_append, luK_cons, luK_cons, ih hn]
        by_cases h2 : r.1 = k
        · rw [if_pos h2, if_pos h2, if_neg (show ¬ k = z from fun e => h (h2.trans e))]
        · rw [if_neg h2, if_neg h2]
theorem luK_del {kn : Kn} {z k : Str} : luK (kdel kn z) k = if k = z then none else luK kn k := by
  unfold kdel
  induction kn with
  | nil => split <;> rfl
  | cons r kn ih =>
    rw [List.filter_cons, luK_cons]
    by_cases h : r.1 = z
    · rw [if_neg (by simp [h]), ih]
      by_cases hk : k = z
      · rw [if_pos hk, if_pos hk]
      · rw [if_neg hk, if_neg hk, if_neg (show ¬ r.1 = k from fun e => hk (e.symm.trans h))]
    · rw [if_pos (by simp [h]), luK_cons, ih]
      by_cases hk : k = z
      · rw [if_pos hk, if_pos hk, if_neg (show ¬ r.1 = k from fun e => h (e.trans hk))]
      · rw [if_neg hk, if_neg hk]
theorem KI.put {cs : List (Str × Str)} {kn : Kn} (h : KI cs kn) {z : Str} {ws : List D} (hz : z ∈ KS) (hw : Wg cs ws) : KI cs (kput kn z ws) := by
  unfold kput
  split
  · refine ⟨?_, fun r hr => ?_⟩
    · have : (kn.map fun r => if r.1 = z then (r.1, ws) else r).map (·.1) = kn.map (·.1) := by
        rw [List.map_map]; exact List.map_congr_left fun r _ => by dsimp only [Function.comp]; split <;> rfl
      rw [this]; exact h.nd
    · obtain ⟨r0, hr0, e⟩ := List.mem_map.mp hr
      by_cases q : r0.1 = z
      · rw [if_pos q] at e; subst e; exact ⟨(h.ok r0 hr0).1, hw⟩
      · rw [if_neg q] at e; subst e; exact h.ok r0 hr0
  · rename_i hs
    refine ⟨?_, fun r hr => ?_⟩
    · rw [List.map_append]
      refine nd_snoc h.nd fun m => hs ?_
      obtain ⟨ws', e⟩ := luK_in m
      show (luK kn z).isSome = true
      rw [show luK kn z = some ws' from e]; rfl
    · rcases List.mem_append.mp hr with hr | hr
      · exact h.ok r hr
      · rw [List.mem_singleton.mp hr]; exact ⟨hz, hw⟩
theorem KI.del {cs : List (Str × Str)} {kn : Kn} (h : KI cs kn) (z : Str) : KI cs (kdel kn z) :=
  ⟨(List.Sublist.map _ List.filter_sublist).nodup h.nd, fun r hr => h.ok r (List.mem_filter.mp hr).1⟩
def GD (cs : List (Str × Str)) (kn : Kn) (d : D) : Prop :=
  (∃ z ws, z ∈ KS ∧ Wg cs ws ∧ luK kn z = none ∧ d = .tup [.str "put", .str z, .tup ws]) ∨ (∃ z ws, z ∈ KS ∧ Wg cs ws ∧ (luK kn z).isSome = true ∧ d = .tup [.str "change", .str z, .tup ws]) ∨ ∃ z, z ∈ KS ∧ (luK kn z).isSome = true ∧ d = .tup [.str "take", .str z]
end My
namespace My
open PySem L2
def Ly (S : Sto) (n : Nat) (d : D) : Prop := ∃ p, Dp S d p ∧ p.canLay0 = true ∧ p.depth ≤ n
theorem Ly.all {S : Sto} {n : Nat} : ∀ {ds : List D}, (∀ d ∈ ds, Ly S n d) → ∃ ps : List PyData, DpAll S ds ps ∧ PyData.canLayAll0 ps = true ∧ PyData.depthAll ps ≤ n ∧ ps.length = ds.length
  | [], _ => ⟨[], by simp only [DpAll], rfl, Nat.zero_le _, rfl⟩
  | d :: ds, h => by
    obtain ⟨p, h1, h2, h3⟩ := h d List.mem_cons_self
    obtain ⟨ps, k1, k2, k3, k4⟩ := Ly.all fun x hx => h x (List.mem_cons_of_mem _ hx)
    refine ⟨p :: ps, by simp only [DpAll]; exact ⟨p, ps, rfl, h1, k1⟩, by simp only [PyData.canLayAll0, h2, k2, Bool.and_self], by simp only [PyData.depthAll]; omega, by rw [List.length_cons, List.length_cons, k4]⟩
theorem Ly.tup {S : Sto} {n : Nat} {ds : List D} (h : ∀ d ∈ ds, Ly S n d) : Ly S (n + 1) (.tup ds) := by
  obtain ⟨ps, k1, k2, k3, _⟩ := Ly.all h
  exact ⟨.tuple ps, by simp only [Dp]; exact ⟨ps, rfl, k1⟩, by simp only [PyData.canLay0]; exact k2, by simp only [PyData.depth]; omega⟩
theorem Ly.str {S : Sto} {z : Str} (h : PyData.strOk z = true) : Ly S 0 (.str z) := ⟨.str z, by simp only [Dp], by simp only [PyData.canLay0]; exact h, by simp only [PyData.depth]; omega⟩
theorem Ly.le {S : Sto} {n m : Nat} {d : D} (h : Ly S n d) (l : n ≤ m) : Ly S m d := let ⟨p, a, b, c⟩ := h; ⟨p, a, b, Nat.le_trans c l⟩
theorem Ly.non {S : Sto} : Ly S 0 .non := ⟨.none, by simp only [Dp], by simp only [PyData.canLay0], by simp only [PyData.depth]; omega⟩
theorem Ly.plain {S : Sto} {d : D} (h : plainV d = true) : Ly S 0 d := by
  cases d with
  | non => exact Ly.non
  | int i => exact ⟨.int i, by simp only [Dp], by simp only [PyData.canLay0], by simp only [PyData.depth]; omega⟩
  | str z =>
    have h : (decide (z.cps.size ≤ 40) && PyData.strOk z) = true := h
    rw [Bool.and_eq_true] at h
    exact Ly.str h.2
  | _ => cases h
theorem Ly.lst {S : Sto} {n : Nat} {a : Addr} {ds : List D} (e : S a = some (.lst ds)) (h : ∀ d ∈ ds, Ly S n d) : ∃ p, Dl S (.ref a) p ∧ p.canLay0 = true ∧ p.depth ≤ n + 1 ∧ ∀ b, S b = some (.lst ds) → Dl S (.ref b) p := by
  obtain ⟨ps, k1, k2, k3, _⟩ := Ly.all h
  exact ⟨.list ps, ⟨ds, ps, e, rfl, k1⟩, by simp only [PyData.canLay0]; exact k2, by simp only [PyData.depth]; omega, fun b hb => ⟨ds, ps, hb, rfl, k1⟩⟩
theorem eq_lists {S : Sto} {a b : Addr} {ds : List D} {R : KD} {neg : Bool} (e1 : S a = some (.lst ds)) (e2 : S b = some (.lst ds)) (h : ∀ d ∈ ds, Ly S 60 d) (q : R (.bl (!neg)) S) : eqD neg (.ref a) (.ref b) S R := by
  obtain ⟨p, k1, k2, k3, k4⟩ := Ly.lst e1 h
  have e : (if neg then !PyData.eqv p p else PyData.eqv p p) = !neg := by rw [SeqAt.eqv_refl p k2]; cases neg <;> rfl
  exact ⟨p, p, k1, k4 b e2, k2, k2, .inl (by omega), by rw [e]; exact q⟩
theorem eqv_nilL (ps : List PyData) : PyData.eqv (.list ps) (.list []) = ps.isEmpty := by cases ps <;> simp [PyData.eqv, PyData.eqvAll]
theorem eq_nil {S : Sto} {a b : Addr} {ds : List D} {R : KD} (e1 : S a = some (.lst ds)) (e2 : S b = some (.lst [])) (h : ∀ d ∈ ds, Ly S 60 d) (q : R (.bl ds.isEmpty) S) : eqD false (.ref a) (.ref b) S R := by
  obtain ⟨ps, k1, k2, k3, k4⟩ := Ly.all h
  refine ⟨.list ps, .list [], ⟨ds, ps, e1, rfl, k1⟩, ⟨[], [], e2, rfl, by simp only [DpAll]⟩, by simp only [PyData.canLay0]; exact k2, by simp only [PyData.canLay0, PyData.canLayAll0], .inl (by simp only [PyData.depth]; omega), ?_⟩
  rw [if_neg Bool.false_ne_true, eqv_nilL, show ps.isEmpty = ds.isEmpty by cases ps <;> cases ds <;> first | rfl | cases k4]; exact q
theorem Wg.all {cs : List (Str × Str)} {ws : List D} (h : Wg cs ws) : ∀ d ∈ ws, plainV d = true := by
  unfold Wg at h
  induction h with
  | nil => exact fun _ h => (nomatch h)
  | cons r t ih =>
    intro d hd
    rcases List.mem_cons.mp hd with e | hd
    · rw [e]; exact r.2
    · exact ih d hd
section
variable {P : Program} {w : World} {K : PySem.W.Frag} {mg : Str → Option Value} {base : Heap} {t : Adr}
theorem KI.ly {cs : List (Str × Str)} {kn : Kn} (hI : KI cs kn) {ss : List Str} (hp : ss.Perm (kn.map (·.1))) {S : Sto} : ∀ d ∈ ss.map D.str, Ly S 60 d := fun d hd => by
  obtain ⟨z, hz, rfl⟩ := List.mem_map.mp hd
  obtain ⟨r, hr, e⟩ := List.mem_map.mp (hp.mem_iff.mp hz)
  rw [← e]
  exact (Ly.str (KS_key _ (hI.ok r hr).1).2.2).le (Nat.zero_le _)
def spDeed : SpD := fun ds S R _ => ∃ l cs lk kn, ds = [.ref l, .tup (cs.map colD), .ref lk] ∧ Gd cs ∧ S l = some .well ∧ S lk = some (.dct (kvK kn)) ∧ KI cs kn ∧ ∀ d, GD cs kn d → R d S
theorem ok_deed (T : Txt K mg t) : FnD P w K mg base 4 t.f_l_deed t.d_l_deed ["_law_well_here", "_law_columns_here", "_law_known_here"] spDeed := by
  have G_l_draw : FnD P w K mg base 1 t.f_l_draw t.d_l_draw ["_law_well_here", "_law_most"] spDraw := ok_dr T
  have G_l_key : FnD P w K mg base 2 t.f_l_key t.d_l_key ["_law_well_here"] _ := ok_key T
  have G_l_worths : FnD P w K mg base 3 t.f_l_worths t.d_l_worths ["_law_well_here", "_law_columns_here"] _ := ok_worths T
  refine T.F_l_deed.ok sc_l_deed (fun ds S R Z ⟨_, _, _, _, e, _⟩ => by rw [e]; rfl) (fun cdv A outer s H E ds S R Z hr ⟨l, cs, lk, kn, e, hg, hw, hk, hI, q⟩ => ?_)
  subst e
  have hlen := hI.len
  refine ⟨_, (sc (st_ (i := 3) sc_l_deed.nd (cf (G_l_draw.mono (by decide)) hr T.mg_l_draw T.k_l_draw T.b_l_draw d0 (ac (dv 0) (ac di an)))) (sc (st_ (i := 4) sc_l_deed.nd (cb c_sorted T.n_sorted bt_sorted (ac (dv 2) an))) (sc (si (twd (twor (tcm o_eq hr.units (dv 4) (elst an)) (tw1 (tcm o_lt hr.units (dv 3) di)))) (sc (st_ (i := 5) sc_l_deed.nd (cf (G_l_key.mono (by decide)) hr T.mg_l_key T.k_l_key T.b_l_key d0 (ac (dv 0) an))) (sc (si (tcm o_in hr.units (dv 5) (dv 2)) (s1 (sr (etup (ac ds (ac (dv 5) (ac (cf (G_l_worths.mono (by decide)) hr T.mg_l_worths T.k_l_worths T.b_l_worths d0 (ac (dv 0) (ac (dv 1) an))) an)))))) s0) (s1 (sr (etup (ac ds (ac (dv 5) (ac (cf (G_l_worths.mono (by decide)) hr T.mg_l_worths T.k_l_worths T.b_l_worths d0 (ac (dv 0) (ac (dv 1) an))) an)))))))) s0) (sc (st_ (i := 5) sc_l_deed.nd (ix hr.units (dv 4) (cf (G_l_draw.mono (by decide)) hr T.mg_l_draw T.k_l_draw T.b_l_draw d0 (ac (dv 0) (ac (cb c_len T.n_len bt_len (ac (dv 4) an)) an))))) (sc (si (tcm o_eq hr.units (dv 3) di) (s1 (sr (etup (ac ds (ac (dv 5) an))))) s0) (sc (si (tcm o_eq hr.units (dv 3) di) (s1 (sr (etup (ac ds (ac (dv 5) (ac (ix hr.units (dv 2) (dv 5)) an)))))) s0) (s1 (sr (etup (ac ds (ac (dv 5) (ac (cf (G_l_worths.mono (by decide)) hr T.mg_l_worths T.k_l_worths T.b_l_worths d0 (ac (dv 0) (ac (dv 1) an))) an)))))))))))), ?_⟩
  have ek : (kvK kn).map (·.1) = (kn.map (·.1)).map Sum.inr := by unfold kvK; rw [List.map_map, List.map_map]; rfl
  have el : (kvK kn).length < 64 := by unfold kvK; rw [List.length_map]; omega
  refine ⟨_, rfl, l, _, rfl, (by decide), (by decide), hw, fun way h0 h1 => ⟨_, rfl, lk, kvK kn, kn.map (·.1), rfl, hk, ek, el, fun ss hp hs p hpn => ?_⟩⟩
  refine ⟨_, rfl, sm (show 0 ≤ 1000 by decide), fun p2 hp2 => ?_⟩
  generalize hS2 : (S.set p (.lst (ss.map D.str))).set p2 (.lst []) = S2
  have sub : Sub S S2 := by rw [← hS2]; exact (Sub.new hpn).trans (.new hp2)
  have hw2 := sub _ _ hw
  have hk2 := sub _ _ hk
  have hp1 : S2 p = some (.lst (ss.map D.str)) := by
    rw [← hS2, sset_ne (show p ≠ p2 by rintro rfl; rw [sset_same] at hp2; cases hp2), sset_same]
  have hp22 : S2 p2 = some (.lst []) := by rw [← hS2, sset_same]
  have fin : ∀ d, GD cs kn d → Fo S2 (R d) := fun d hd => ⟨S, sub, q d hd⟩
  have ed : ∀ z, dval (kvK kn) (.inr z) = (luK kn z).map D.tup := dval_luK kn
  have isS : ∀ z, (dval (kvK kn) (.inr z)).isSome = (luK kn z).isSome := fun z => by rw [ed]; cases luK kn z <;> rfl
  refine eq_nil hp1 hp22 (hI.ly hp) ⟨_, rfl, ?_⟩
  refine ifb (fun h => ?_) (fun h => ⟨_, rfl, _, rfl, ifb (fun h3 => ?_) (fun h3 => ?_)⟩)
  · refine ⟨_, rfl, l, [], rfl, rfl, hw2, fun d ⟨z, hz, e⟩ => ?_⟩
    subst e
    refine ⟨_, rfl, _, rfl, .inr ⟨kvK kn, .inr z, hk2, rfl, _, rfl, ?_⟩⟩
    refine ifb (fun h5 => ?_) (fun h5 => ?_)
    · exact ⟨_, rfl, _, rfl, _, rfl, l, cs, rfl, hg, hw2, fun ws hws => ⟨sm (show 3 ≤ 1000 by decide), fin _ (.inr (.inl ⟨z, ws, hz, hws, (isS z).symm.trans h5, rfl⟩))⟩⟩
    · have h6 : luK kn z = none := by have := (isS z).symm.trans h5; cases e : luK kn z with | none => rfl | some _ => rw [e] at this; cases this
      exact ⟨_, rfl, _, rfl, _, rfl, l, cs, rfl, hg, hw2, fun ws hws => ⟨sm (show 3 ≤ 1000 by decide), fin _ (.inl ⟨z, ws, hz, hws, h6, rfl⟩)⟩⟩
  · refine ⟨_, rfl, l, [], rfl, rfl, hw2, fun d ⟨z, hz, e⟩ => ?_⟩
    subst e
    refine ⟨_, rfl, _, rfl, .inr ⟨kvK kn, .inr z, hk2, rfl, _, rfl, ?_⟩⟩
    refine ifb (fun h5 => ?_) (fun h5 => ?_)
    · exact ⟨_, rfl, _, rfl, _, rfl, l, cs, rfl, hg, hw2, fun ws hws => ⟨sm (show 3 ≤ 1000 by decide), fin _ (.inr (.inl ⟨z, ws, hz, hws, (isS z).symm.trans h5, rfl⟩))⟩⟩
    · have h6 : luK kn z = none := by have := (isS z).symm.trans h5; cases e : luK kn z with | none => rfl | some _ => rw [e] at this; cases this
      exact ⟨_, rfl, _, rfl, _, rfl, l, cs, rfl, hg, hw2, fun ws hws => ⟨sm (show 3 ≤ 1000 by decide), fin _ (.inl ⟨z, ws, hz, hws, h6, rfl⟩)⟩⟩
  · have hpos : 0 < (ss.map D.str).length := by
      have h : (ss.map D.str).isEmpty = false := h
      cases ss with
      | nil => cases h
      | cons a ss => exact Nat.succ_pos _
    have hle : (ss.map D.str).length ≤ 10 := by rw [List.length_map, hp.length_eq, List.length_map]; exact hlen
    refine ⟨_, rfl, _, rfl, _, rfl, _, rfl, .inl ⟨_, hp1, l, _, rfl, (by omega), log_le (by omega) (by omega), hw2, fun n hn0 hn1 => ?_⟩⟩
    obtain ⟨v, a1, a2⟩ := atI_mod (l := ss.map D.str) hn0 hn1
    obtain ⟨z, hz, rfl⟩ := List.mem_map.mp (List.mem_of_getElem? a2)
    obtain ⟨ws, hws⟩ := luK_in (hp.mem_iff.mp hz)
    obtain ⟨hzK, hwg⟩ := hI.ok _ (luK_mem hws)
    have hso : (luK kn z).isSome = true := by rw [hws]; rfl
    refine ⟨_, _, hp1, a1, _, rfl, _, rfl, ?_⟩
    refine ifb (fun h4 => ?_) (fun h4 => ?_)
    · exact ⟨_, rfl, sm (show 2 ≤ 1000 by decide), fin _ (.inr (.inr ⟨z, hzK, hso, rfl⟩))⟩
    refine ⟨_, rfl, _, rfl, ?_⟩
    refine ifb (fun h4 => ?_) (fun h4 => ?_)
    · exact ⟨_, rfl, _, rfl, _, rfl, kvK kn, .tup ws, hk2, by rw [ed, hws]; rfl, sm (show 3 ≤ 1000 by decide), fin _ (.inr (.inl ⟨z, ws, hzK, hwg, hso, rfl⟩))⟩
    · exact ⟨_, rfl, _, rfl, _, rfl, l, cs, rfl, hg, hw2, fun ws' hws' => ⟨sm (show 3 ≤ 1000 by decide), fin _ (.inr (.inl ⟨z, ws', hzK, hws', hso, rfl⟩))⟩⟩
end
end My
namespace My
open PySem L2
def Mo (sp : SpD) : SpD := fun ds S R Z => ∃ R0 Z0, sp ds S R0 Z0 ∧ (∀ d S', R0 d S' → R d S') ∧ ∀ C S', Z0 C S' → Z C S'
theorem FnMo {P : Program} {w : World} {K : PySem.W.Frag} {mg : Str → Option Value} {base : Heap} {k : Nat} {f : Addr} {fd : FuncData} {ps : List Str} {sp : SpD} (F : FnOk P w K mg base (CXR P w) k f fd ps (SpL K sp)) : FnOk P w K mg base (CXR P w) k f fd ps (SpL K (Mo sp)) :=
  F.imp fun vs H Q E ⟨ds, S, R, Z, v, hS, ⟨R0, Z0, h, h1, h2⟩, hR, hZ⟩ => ⟨ds, S, R0, Z0, v, hS, h, fun d S' u H' r => hR d S' u H' (h1 _ _ r), fun C S' H' z => hZ C S' H' (h2 _ _ z)⟩
def spPut (t : Adr) : SpD := fun ds S R Z => ∃ a F cs dl rs k v, ds = [.ref a, k, v] ∧ ShAt t.c_Shelf S a F cs dl rs ∧ cs.length ≤ 8 ∧ Gt S k ∧ Gts S v ∧ dl.length ≤ 8000 ∧ rs.length ≤ 8000 ∧
    (rowB cs k v = false → Z t.c_BadRow S) ∧ (rowB cs k v = true → isNonD (wAt rs k dl.length) = false → Z t.c_HasKey S) ∧
    (∀ z ws, k = .str z → v = .tup ws → rowB cs k v = true → isNonD (wAt rs k dl.length) = true → ∀ S' F', ShAt t.c_Shelf S' a F' cs (dl ++ [.tup [.str "put", k, v]]) (begR rs z (dl.length + 1) ws) → Kps F F' S S' → R .non S')
def spChange (t : Adr) : SpD := fun ds S R Z => ∃ a F cs dl rs k v, ds = [.ref a, k, v] ∧ ShAt t.c_Shelf S a F cs dl rs ∧ cs.length ≤ 8 ∧ Gt S k ∧ Gts S v ∧ dl.length ≤ 8000 ∧ rs.length ≤ 8000 ∧
    (rowB cs k v = false → Z t.c_BadRow S) ∧ (rowB cs k v = true → isNonD (wAt rs k dl.length) = true → Z t.c_NoKey S) ∧
    (∀ z ws, k = .str z → v = .tup ws → rowB cs k v = true → isNonD (wAt rs k dl.length) = false → ∀ S' F', ShAt t.c_Shelf S' a F' cs (dl ++ [.tup [.str "change", k, v]]) (begR (endR rs z dl.length) z (dl.length + 1) ws) → Kps F F' S S' → R .non S')
def spTake (t : Adr) : SpD := fun ds S R Z => ∃ a F cs dl rs k, ds = [.ref a, k] ∧ ShAt t.c_Shelf S a F cs dl rs ∧ Gt S k ∧ dl.length ≤ 8000 ∧
    (ofStr keyZ k = false → Z t.c_BadRow S) ∧ (ofStr keyZ k = true → isNonD (wAt rs k dl.length) = true → Z t.c_NoKey S) ∧
    (∀ z, k = .str z → keyZ z = true → isNonD (wAt rs k dl.length) = false → ∀ S', ShAt t.c_Shelf S' a F cs (dl ++ [.tup [.str "take", k]]) (endR rs z dl.length) → Kps F F S S' → R .non S')
def KnD (kn : Kn) (d : D) (kn' : Kn) : Prop := (∃ (n : Str) (z : Str) (ws : List D), (n = "put" ∨ n = "change") ∧ d = .tup [.str n, .str z, .tup ws] ∧ kn' = kput kn z ws) ∨ ∃ z, (luK kn z).isSome = true ∧ d = .tup [.str "take", .str z] ∧ kn' = kdel kn z
def spDoes (t : Adr) : SpD := fun ds S R Z => ∃ a fs, S a = some (.ins t.c_Shelf fs) ∧ fs.map Prod.fst = (["columns", "deeds", "runs"] : List Str) ∧
  ((∃ k v, ds = [.ref a, .tup [.str "put", k, v]] ∧ spPut t [.ref a, k, v] S R Z) ∨ (∃ k v, ds = [.ref a, .tup [.str "change", k, v]] ∧ spChange t [.ref a, k, v] S R Z) ∨ ∃ k, ds = [.ref a, .tup [.str "take", k]] ∧ spTake t [.ref a, k] S R Z)
theorem lk0 {m : Str} : ∀ {fs : List (Str × D)}, m ∉ fs.map Prod.fst → fs.lookup m = none
  | [], _ => rfl
  | (a, b) :: fs, h => by
    rw [List.map_cons, List.mem_cons] at h
    rw [List.lookup_cons, show (m == a) = false from beq_false_of_ne fun e => h (.inl e)]
    exact lk0 fun q => h (.inr q)
theorem lk3 {fs : List (Str × D)} (h : fs.map Prod.fst = (["columns", "deeds", "runs"] : List Str)) {m : Str} (hm : m ∉ (["columns", "deeds", "runs"] : List Str)) : fs.lookup m = none := lk0 (by rw [h]; exact hm)
section
variable {P : Program} {w : World} {K : PySem.W.Frag} {mg : Str → Option Value} {base : Heap} {t : Adr}
theorem ok_known (T : Txt K mg t) : FnD P w K mg base 1 t.f_l_known t.d_l_known ["_law_known_here", "_law_deed_here"] (fun ds S R _ => ∃ lk kn d kn', ds = [.ref lk, d] ∧ S lk = some (.dct (kvK kn)) ∧ kn.length ≤ 100 ∧ KnD kn d kn' ∧ R .non (S.set lk (.dct (kvK kn')))) := by
  refine T.F_l_known.ok sc_l_known (fun ds S R Z ⟨_, _, _, _, e, _⟩ => by rw [e]; rfl) (fun cdv A outer s H E ds S R Z hr ⟨lk, kn, d, kn', e, hk, hn, hd, q⟩ => ?_)
  subst e
  refine ⟨_, (s1 (si (tcm o_eq hr.units (ix hr.units (dv 1) di) ds) (s1 (se (mp1 (dv 0) (ix hr.units (dv 1) di)))) (s1 (sd hr.units (dv 0) (ix hr.units (dv 1) di) (ix hr.units (dv 1) di))))), ?_⟩
  have hl : (kvK kn).length < sizeLine := bg (by unfold kvK; rw [List.length_map]; omega)
  rcases hd with ⟨n, z, ws, hn', rfl, rfl⟩ | ⟨z, hz, rfl, rfl⟩
  · refine ⟨_, rfl, _, rfl, _, rfl, ?_⟩
    refine ifb (fun h => ?_) (fun h => ?_)
    · have h : n = "take" := of_decide_eq_true h
      rcases hn' with e | e <;> rw [e] at h <;> exact absurd h (by decide)
    · refine ⟨_, rfl, _, rfl, _, rfl, _, rfl, _, rfl, lk, kvK kn, .inr z, rfl, hk, rfl, hl, ?_⟩
      rw [kv_put]
      exact fo q
  · refine ⟨_, rfl, _, rfl, _, rfl, ?_⟩
    refine ifb (fun h => ?_) (fun h => absurd h (by decide))
    obtain ⟨ws, hws⟩ := Option.isSome_iff_exists.mp hz
    refine ⟨_, rfl, lk, kvK kn, rfl, hk, _, rfl, _, rfl, kvK kn, .inr z, .tup ws, hk, rfl, by rw [dval_luK, hws]; rfl, ?_⟩
    rw [kv_del]
    exact fo q
theorem ok_does (T : Txt K mg t) : FnD P w K mg base 7 t.f_l_does t.d_l_does ["_law_shelf", "_law_deed_here"] (spDoes t) := by
  have G_Shelf_put : FnD P w K mg base 6 t.f_Shelf_put t.d_Shelf_put ["self", "key", "worths"] (Mo (spPut t)) := FnMo (ok_put T)
  have G_Shelf_change : FnD P w K mg base 6 t.f_Shelf_change t.d_Shelf_change ["self", "key", "worths"] (Mo (spChange t)) := FnMo (ok_change T)
  have G_Shelf_take : FnD P w K mg base 6 t.f_Shelf_take t.d_Shelf_take ["self", "key"] (Mo (spTake t)) := FnMo (ok_take T)
  refine T.F_l_does.ok sc_l_does (fun ds S R Z ⟨_, _, _, _, h⟩ => by rcases h with ⟨_, _, e, _⟩ | ⟨_, _, e, _⟩ | ⟨_, e, _⟩ <;> rw [e] <;> rfl) (fun cdv A outer s H E ds S R Z hr ⟨a, fs, ha, hf, h⟩ => ?_)
  rcases h with ⟨k, v, e, h⟩ | ⟨k, v, e, h⟩ | ⟨k, e, h⟩
  · subst e
    refine ⟨_, (sc (si (tcm o_eq hr.units (ix hr.units (dv 1) di) ds) (s1 (sr (cme (dv 0) T.cl_Shelf T.me_Shelf_put (G_Shelf_put.mono (by decide)) hr T.b_Shelf_put d0 (ac (ix hr.units (dv 1) di) (ac (ix hr.units (dv 1) di) an))))) s0) (sc (si (tcm o_eq hr.units (ix hr.units (dv 1) di) ds) (s1 (sr (cme (dv 0) T.cl_Shelf T.me_Shelf_change (G_Shelf_change.mono (by decide)) hr T.b_Shelf_change d0 (ac (ix hr.units (dv 1) di) (ac (ix hr.units (dv 1) di) an))))) s0) (s1 (sr (cme (dv 0) T.cl_Shelf T.me_Shelf_take (G_Shelf_take.mono (by decide)) hr T.b_Shelf_take d0 (ac (ix hr.units (dv 1) di) an)))))), ?_⟩
    refine ⟨_, rfl, _, rfl, _, rfl, ?_⟩
    refine ifb (fun _ => ?_) (fun h => absurd h (by decide))
    exact ⟨_, rfl, a, _, rfl, ha, lk3 hf (by decide), _, rfl, _, rfl, _, rfl, _, rfl, R, Z, h, fun d S' r => fo r, fun C S' z => fo z⟩
  · subst e
    refine ⟨_, (sc (si (tcm o_eq hr.units (ix hr.units (dv 1) di) ds) (s1 (sr (cme (dv 0) T.cl_Shelf T.me_Shelf_put (G_Shelf_put.mono (by decide)) hr T.b_Shelf_put d0 (ac (ix hr.units (dv 1) di) (ac (ix hr.units (dv 1) di) an))))) s0) (sc (si (tcm o_eq hr.units (ix hr.units (dv 1) di) ds) (s1 (sr (cme (dv 0) T.cl_Shelf T.me_Shelf_change (G_Shelf_change.mono (by decide)) hr T.b_Shelf_change d0 (ac (ix hr.units (dv 1) di) (ac (ix hr.units (dv 1) di) an))))) s0) (s1 (sr (cme (dv 0) T.cl_Shelf T.me_Shelf_take (G_Shelf_take.mono (by decide)) hr T.b_Shelf_take d0 (ac (ix hr.units (dv 1) di) an)))))), ?_⟩
    refine ⟨_, rfl, _, rfl, _, rfl, ?_⟩
    refine ifb (fun h => absurd h (by decide)) (fun _ => ?_)
    refine ⟨_, rfl, _, rfl, _, rfl, ?_⟩
    refine ifb (fun _ => ?_) (fun h => absurd h (by decide))
    exact ⟨_, rfl, a, _, rfl, ha, lk3 hf (by decide), _, rfl, _, rfl, _, rfl, _, rfl, R, Z, h, fun d S' r => fo r, fun C S' z => fo z⟩
  · subst e
    refine ⟨_, (sc (si (tcm o_eq hr.units (ix hr.units (dv 1) di) ds) (s1 (sr (cme (dv 0) T.cl_Shelf T.me_Shelf_put (G_Shelf_put.mono (by decide)) hr T.b_Shelf_put d0 (ac (ix hr.units (dv 1) di) (ac (ix hr.units (dv 1) di) an))))) s0) (sc (si (tcm o_eq hr.units (ix hr.units (dv 1) di) ds) (s1 (sr (cme (dv 0) T.cl_Shelf T.me_Shelf_change (G_Shelf_change.mono (by decide)) hr T.b_Shelf_change d0 (ac (ix hr.units (dv 1) di) (ac (ix hr.units (dv 1) di) an))))) s0) (s1 (sr (cme (dv 0) T.cl_Shelf T.me_Shelf_take (G_Shelf_take.mono (by decide)) hr T.b_Shelf_take d0 (ac (ix hr.units (dv 1) di) an)))))), ?_⟩
    refine ⟨_, rfl, _, rfl, _, rfl, ?_⟩
    refine ifb (fun h => absurd h (by decide)) (fun _ => ?_)
    refine ⟨_, rfl, _, rfl, _, rfl, ?_⟩
    refine ifb (fun h => absurd h (by decide)) (fun _ => ?_)
    exact ⟨_, rfl, a, _, rfl, ha, lk3 hf (by decide), _, rfl, _, rfl, R, Z, h, fun d S' r => fo r, fun C S' z => fo z⟩
end
end My
namespace My
open PySem L2
theorem gt_tup {S : Sto} {ws : List D} : Gt S (.tup ws) := ⟨⟨.tup, rfl⟩, fun _ => nofun⟩
theorem gts_tup {S : Sto} {ws : List D} (h : ws.length ≤ 1000) (g : ∀ v ∈ ws, Gt S v) : Gts S (.tup ws) := ⟨gt_tup, fun ws' e => by cases e; exact ⟨h, g⟩⟩
theorem gt_int {S : Sto} {i : Int} : Gt S (.int i) := ⟨⟨.int, rfl⟩, fun _ => nofun⟩
theorem gt_strg {S : Sto} {z : Str} (h : z.cps.size ≤ 1000) : Gt S (.str z) := ⟨⟨.str, rfl⟩, fun z' e => by cases e; exact h⟩
theorem gt_plain {S : Sto} {d : D} (h : plainV d = true) : Gt S d := by
  cases d with
  | non => exact gt_non
  | int i => exact gt_int
  | str z =>
    have h : (decide (z.cps.size ≤ 40) && PyData.strOk z) = true := h
    rw [Bool.and_eq_true] at h
    have := of_decide_eq_true h.1
    exact gt_strg (by omega)
  | _ => cases h
theorem paired_len {rel : (Str × Str) → D → Prop} : ∀ {cs : List (Str × Str)} {ws : List D}, Paired rel cs ws → ws.length = cs.length
  | _, _, .nil => rfl
  | _, _, .cons _ t => by rw [List.length_cons, List.length_cons, paired_len t]
theorem Wg.len {cs : List (Str × Str)} {ws : List D} (h : Wg cs ws) : ws.length = cs.length := paired_len h
theorem Wg.worths {cs : List (Str × Str)} {ws : List D} (h : Wg cs ws) : worthsB cs (.tup ws) = true := by
  show (decide (ws.length = cs.length) && (List.zipWith (fun c v => valB c.2 v) cs ws).all id) = true
  rw [decide_eq_true h.len, Bool.true_and]
  unfold Wg at h
  induction h with
  | nil => rfl
  | cons r t ih =>
    rw [List.zipWith_cons_cons, List.all_cons, ih]
    show (id (valB _ _) && true) = true
    rw [show id (valB _ _) = true from r.1]; rfl
theorem Wg.gts {cs : List (Str × Str)} {ws : List D} (h : Wg cs ws) (hc : cs.length ≤ 8) {S : Sto} : Gts S (.tup ws) := gts_tup (by rw [h.len]; omega) fun v hv => gt_plain (h.all v hv)
theorem worths_at {cs : List (Str × Str)} : ∀ {cs : List (Str × Str)} {ws : List D} {i : Nat} {c : Str × Str} {v : D}, (List.zipWith (fun c v => valB c.2 v) cs ws).all id = true → cs[i]? = some c → ws[i]? = some v → valB c.2 v = true
  | [], _, _, _, _, _, h, _ => by cases h
  | _ :: _, [], _, _, _, _, _, h => by cases h
  | c :: cs, v :: ws, 0, _, _, h, e1, e2 => by
    cases e1; cases e2
    rw [List.zipWith_cons_cons, List.all_cons, Bool.and_eq_true] at h
    exact h.1
  | c :: cs, v :: ws, i + 1, _, _, h, e1, e2 => by
    rw [List.zipWith_cons_cons, List.all_cons, Bool.and_eq_true] at h
    exact worths_at (cs := cs) h.2 e1 e2
end My
namespace My
open PySem L2
theorem rise_le : ∀ {l : List Str} {p : Str}, PyProof.Rows.risingS p l = true → (p :: l).Pairwise fun a b => a.cps.toList ≤ b.cps.toList
  | [], p, _ => List.pairwise_singleton _ _
  | x :: r, p, h => by
    have h : (!PySem.Spec.ltCps x.cps.toList p.cps.toList && PyProof.Rows.risingS x r) = true := h
    rw [Bool.and_eq_true, PyProof.Rows.ltCps_eq, Bool.not_eq_true', decide_eq_false_iff_not] at h
    have ih := rise_le h.2
    have hpx : p.cps.toList ≤ x.cps.toList := List.not_lt.mp h.1
    refine List.pairwise_cons.mpr ⟨fun y hy => ?_, ih⟩
    rcases List.mem_cons.mp hy with e | hy
    · rw [e]; exact hpx
    · exact List.le_trans hpx ((List.pairwise_cons.mp ih).1 y hy)
theorem sorted_le {l : List Str} (h : PyProof.Rows.sortedS l = true) : l.Pairwise fun a b => a.cps.toList ≤ b.cps.toList := by
  cases l with
  | nil => exact List.Pairwise.nil
  | cons x r => exact rise_le h
theorem str_ext {a b : Str} (h : a.cps.toList = b.cps.toList) : a = b := by
  obtain ⟨⟨x⟩⟩ := a
  obtain ⟨⟨y⟩⟩ := b
  cases h; rfl
theorem sorted_eq {l m : List Str} (hl : l.Pairwise fun a b => a.cps.toList ≤ b.cps.toList) (hm : m.Pairwise fun a b => a.cps.toList ≤ b.cps.toList) (nl : l.Nodup) (nm : m.Nodup) (h : ∀ z, z ∈ l ↔ z ∈ m) : l = m :=
  List.Perm.eq_of_pairwise (fun a b _ _ h1 h2 => str_ext (List.le_antisymm h1 h2)) hl hm ((List.perm_ext_iff_of_nodup nl nm).mpr h)
def TI (l : List Std) (n : Nat) : Prop := ∀ s ∈ l, s.b ≤ n ∧ ∀ m, s.e = some m → m < n
def endE (s : Std) : D := match s.e with
  | none => .tup s.ws
  | some _ => .non
def cur (l : List Std) : D := match l.getLast? with
  | none => .non
  | some s => endE s
theorem cur_snoc (r : List Std) (s : Std) : cur (r ++ [s]) = endE s := by unfold cur; rw [List.getLast?_concat]
theorem wt_cur {l : List Std} {n : Nat} (h : TI l n) : wt l n = cur l := by
  by_cases e : l = []
  · subst e; rfl
  · obtain ⟨r, s, rfl⟩ := last_of e
    rw [cur_snoc]
    unfold wt
    rw [List.reverse_append]
    obtain ⟨h1, h2⟩ := h s (List.mem_append_right _ (List.mem_singleton.mpr rfl))
    show wtR (s :: r.reverse) (n : Int) = _
    unfold wtR endE
    rw [if_pos (show (s.b : Int) ≤ (n : Int) by omega)]
    cases q : s.e with
    | none => rfl
    | some m =>
      have := h2 m q
      exact if_neg (show ¬ (n : Int) ≤ (m : Int) by omega)
theorem TI.up {l : List Std} {n : Nat} (h : TI l n) : TI l (n + 1) := fun s hs => ⟨Nat.le_succ_of_le (h s hs).1, fun m e => Nat.lt_succ_of_lt ((h s hs).2 m e)⟩
theorem TI.close {l : List Std} {n : Nat} (h : TI l n) : TI (closeL n l) (n + 1) := by
  by_cases e : l = []
  · subst e; exact fun s hs => (nomatch hs)
  · obtain ⟨r, s, rfl⟩ := last_of e
    rw [closeL_snoc]
    intro x hx
    rcases List.mem_append.mp hx with hx | hx
    · exact h.up x (List.mem_append_left _ hx)
    · rw [List.mem_singleton.mp hx]
      exact ⟨Nat.le_succ_of_le (h s (List.mem_append_right _ (List.mem_singleton.mpr rfl))).1, fun m e => by cases e; exact Nat.lt_succ_self _⟩
theorem TI.beg {l : List Std} {n : Nat} {ws : List D} (h : TI l (n + 1)) : TI (l ++ [Std.mk (n + 1) none ws]) (n + 1) := fun s hs => by
  rcases List.mem_append.mp hs with hs | hs
  · exact h s hs
  · rw [List.mem_singleton.mp hs]; exact ⟨Nat.le_refl _, fun m e => (by cases e)⟩
theorem cur_close {l : List Std} {n : Nat} : cur (closeL n l) = .non := by
  by_cases e : l = []
  · subst e; rfl
  · obtain ⟨r, s, rfl⟩ := last_of e
    rw [closeL_snoc, cur_snoc]; rfl
def knD (kn : Kn) (z : Str) : D := match luK kn z with
  | none => .non
  | some ws => .tup ws
structure RI (rs : Rs') (n : Nat) (kn : Kn) : Prop where
  ti : ∀ z, TI ((lu rs z).getD []) n
  eq : ∀ z, cur ((lu rs z).getD []) = knD kn z
  ks : ∀ r ∈ rs, r.1 ∈ KS
theorem mem_upR {rs : Rs'} {z : Str} {s : List Std} {r : Str × List Std} (h : r ∈ upR rs z s) : r.1 = z ∨ ∃ r' ∈ rs, r'.1 = r.1 := by
  unfold upR at h
  split at h
  · obtain ⟨r0, hr0, e⟩ := List.mem_map.mp h
    refine .inr ⟨r0, hr0, ?_⟩
    subst e
    split <;> rfl
  · rcases List.mem_append.mp h with h | h
    · exact .inr ⟨r, h, rfl⟩
    · rw [List.mem_singleton.mp h]; exact .inl rfl
theorem ks_up {rs : Rs'} {z : Str} {s : List Std} (h : ∀ r ∈ rs, r.1 ∈ KS) (hz : z ∈ KS) : ∀ r ∈ upR rs z s, r.1 ∈ KS := fun r hr => by
  rcases mem_upR hr with e | ⟨r', hr', e⟩
  · rw [e]; exact hz
  · rw [← e]; exact h r' hr'
theorem knD_put {kn : Kn} {z k : Str} {ws : List D} : knD (kput kn z ws) k = if k = z then .tup ws else knD kn k := by
  unfold knD; rw [luK_put]
  by_cases h : k = z
  · rw [if_pos h, if_pos h]
  · rw [if_neg h, if_neg h]
theorem knD_del {kn : Kn} {z k : Str} : knD (kdel kn z) k = if k = z then .non else knD kn k := by
  unfold knD; rw [luK_del]
  by_cases h : k = z
  · rw [if_pos h, if_pos h]
  · rw [if_neg h, if_neg h]
theorem RI.nil : RI [] 0 [] := ⟨fun z s hs => (nomatch hs), fun z => rfl, fun r hr => (nomatch hr)⟩
theorem RI.put {rs : Rs'} {n : Nat} {kn : Kn} (h : RI rs n kn) {z : Str} {ws : List D} (hz : z ∈ KS) : RI (begR rs z (n + 1) ws) (n + 1) (kput kn z ws) := by
  refine ⟨fun k => ?_, fun k => ?_, ks_up h.ks hz⟩
  · unfold begR; rw [lu_upR]
    by_cases e : k = z
    · rw [if_pos e]; exact (h.ti z).up.beg
    · rw [if_neg e]; exact (h.ti k).up
  · unfold begR; rw [lu_upR, knD_put]
    by_cases e : k = z
    · rw [if_pos e, if_pos e]; exact cur_snoc _ _
    · rw [if_neg e, if_neg e]; exact h.eq k
theorem RI.del {rs : Rs'} {n : Nat} {kn : Kn} (h : RI rs n kn) {z : Str} (hz : z ∈ KS) : RI (endR rs z n) (n + 1) (kdel kn z) := by
  refine ⟨fun k => ?_, fun k => ?_, ks_up h.ks hz⟩
  · unfold endR; rw [lu_upR]
    by_cases e : k = z
    · rw [if_pos e]; exact (h.ti z).close
    · rw [if_neg e]; exact (h.ti k).up
  · unfold endR; rw [lu_upR, knD_del]
    by_cases e : k = z
    · rw [if_pos e, if_pos e]; exact cur_close
    · rw [if_neg e, if_neg e]; exact h.eq k
theorem RI.change {rs : Rs'} {n : Nat} {kn : Kn} (h : RI rs n kn) {z : Str} {ws : List D} (hz : z ∈ KS) : RI (begR (endR rs z n) z (n + 1) ws) (n + 1) (kput kn z ws) := by
  have h1 := h.del hz
  refine ⟨fun k => ?_, fun k => ?_, ks_up h1.ks hz⟩
  · unfold begR; rw [lu_upR]
    by_cases e : k = z
    · rw [if_pos e]; exact (h1.ti z).beg
    · rw [if_neg e]; exact h1.ti k
  · unfold begR; rw [lu_upR, knD_put]
    by_cases e : k = z
    · rw [if_pos e, if_pos e]; exact cur_snoc _ _
    · rw [if_neg e, if_neg e, h1.eq k, knD_del, if_neg e]
theorem RI.wt {rs : Rs'} {n : Nat} {kn : Kn} (h : RI rs n kn) (z : Str) : wt ((lu rs z).getD []) n = knD kn z := by rw [wt_cur (h.ti z), h.eq]
theorem RI.wAt {rs : Rs'} {n : Nat} {kn : Kn} (h : RI rs n kn) {z : Str} (hz : z ∈ KS) : wAt rs (.str z) n = knD kn z := by rw [wAt_str (KS_key z hz).1, h.wt]
theorem isNon_knD (kn : Kn) (z : Str) : isNonD (knD kn z) = !(luK kn z).isSome := by unfold knD; cases luK kn z <;> rfl
theorem rs_nd {C a : Addr} {S : Sto} {F : List Addr} {cs : List (Str × Str)} {dl : List D} {rs : Rs'} (h : ShAt C S a F cs dl rs) : (rs.map (·.1)).Nodup := by
  obtain ⟨ld, lr, ra, h, _, rfl⟩ := h
  unfold rsOf
  rw [List.map_map]
  exact h.kn
theorem RI.len {C a : Addr} {S : Sto} {F : List Addr} {cs : List (Str × Str)} {dl : List D} {rs : Rs'} {n : Nat} {kn : Kn} (h : RI rs n kn) (hs : ShAt C S a F cs dl rs) : rs.length ≤ 10 := by
  have := sub_len (rs_nd hs) (m := KS) fun x hx => by
    obtain ⟨r, hr, rfl⟩ := List.mem_map.mp hx
    exact h.ks r hr
  rw [List.length_map] at this
  exact this
theorem lu_in {rs : Rs'} {k : Str} {s : List Std} (h : lu rs k = some s) : k ∈ rs.map (·.1) := by
  induction rs with
  | nil => cases h
  | cons r rs ih =>
    rw [lu_cons] at h
    rw [List.map_cons]
    by_cases e : r.1 = k
    · exact List.mem_cons.mpr (.inl e.symm)
    · rw [if_neg e] at h; exact List.mem_cons_of_mem _ (ih h)
end My
namespace My
open PySem L2
theorem ShAt.sub {C a : Addr} {S S' : Sto} {F : List Addr} {cs : List (Str × Str)} {dl : List D} {rs : Rs'} (b : Sub S S') (h : ShAt C S a F cs dl rs) : ShAt C S' a F cs dl rs := by
  obtain ⟨ld, lr, ra, h, e1, e2⟩ := h
  exact ⟨ld, lr, ra, ⟨b _ _ h.ins, b _ _ h.dee, b _ _ h.run, fun r hr => b _ _ (h.cell r hr), h.kn, h.an, h.sz⟩, e1, e2⟩
end My
namespace My
open PySem L2
inductive Dd where
  | go (n z : Str) (ws : List D)
  | tk (z : Str)
def ddD : Dd → D
  | .go n z ws => .tup [.str n, .str z, .tup ws]
  | .tk z => .tup [.str "take", .str z]
def Dd.key : Dd → Str
  | .go _ z _ => z
  | .tk z => z
def Dd.ok : Dd → Prop
  | .go n _ _ => n ≠ "take"
  | .tk _ => True
def closeO (k : Nat) (l : List Std) : List Std := match l.getLast? with
  | none => l
  | some s => match s.e with
    | none => closeL k l
    | some _ => l
def stp (z : Str) (k : Nat) (l : List Std) (d : Dd) : List Std :=
  if d.key = z then (match d with | .go _ _ ws => closeO k l ++ [Std.mk (k + 1) none ws] | .tk _ => closeO k l) else l
def stsF (z : Str) : Nat → List Std → List Dd → List Std
  | _, l, [] => l
  | k, l, d :: r => stsF z (k + 1) (stp z k l d) r
theorem stsF_snoc (z : Str) (d : Dd) : ∀ (ds : List Dd) (k : Nat) (l : List Std), stsF z k l (ds ++ [d]) = stp z (k + ds.length) (stsF z k l ds) d
  | [], k, l => rfl
  | e :: ds, k, l => by
    show stsF z (k + 1) (stp z k l e) (ds ++ [d]) = stp z (k + (ds.length + 1)) (stsF z (k + 1) (stp z k l e) ds) d
    rw [stsF_snoc z d ds (k + 1) (stp z k l e), show k + 1 + ds.length = k + (ds.length + 1) by omega]
def sts (ds : List Dd) (z : Str) : List Std := stsF z 0 [] ds
theorem sts_snoc (ds : List Dd) (d : Dd) (z : Str) : sts (ds ++ [d]) z = stp z ds.length (sts ds z) d := by
  unfold sts; rw [stsF_snoc, Nat.zero_add]
def thnS (z : Str) (acc : D) (d : Dd) : D := if d.key = z then (match d with | .go _ _ ws => .tup ws | .tk _ => .non) else acc
def thn (z : Str) (ds : List Dd) : D := ds.foldl (thnS z) .non
theorem thn_snoc (z : Str) (ds : List Dd) (d : Dd) : thn z (ds ++ [d]) = thnS z (thn z ds) d := by unfold thn; rw [List.foldl_append]; rfl
theorem closeO_open {k : Nat} {r : List Std} {s : Std} (h : s.e = none) : closeO k (r ++ [s]) = r ++ [Std.mk s.b (some k) s.ws] := by
  unfold closeO; rw [List.getLast?_concat]; dsimp only; rw [h]; exact closeL_snoc _ _ _
theorem closeO_shut {k : Nat} {r : List Std} {s : Std} {n : Nat} (h : s.e = some n) : closeO k (r ++ [s]) = r ++ [s] := by
  unfold closeO; rw [List.getLast?_concat]; dsimp only; rw [h]
theorem TI.closeO {l : List Std} {n : Nat} (h : TI l n) : TI (closeO n l) (n + 1) := by
  by_cases e : l = []
  · subst e; exact fun s hs => (nomatch hs)
  · obtain ⟨r, s, rfl⟩ := last_of e
    cases q : s.e with
    | none => rw [closeO_open q, ← closeL_snoc]; exact h.close
    | some m => rw [closeO_shut q]; exact h.up
theorem cur_closeO {l : List Std} {n : Nat} : cur (closeO n l) = .non := by
  by_cases e : l = []
  · subst e; rfl
  · obtain ⟨r, s, rfl⟩ := last_of e
    cases q : s.e with
    | none => rw [closeO_open q, cur_snoc]; rfl
    | some m => rw [closeO_shut q, cur_snoc]; unfold endE; rw [q]
theorem sts_ti : ∀ (m : Nat) (ds : List Dd) (z : Str), ds.length = m → TI (sts ds z) m := by
  intro m
  induction m with
  | zero => intro ds z h; rw [List.length_eq_zero_iff.mp h]; exact fun s hs => (nomatch hs)
  | succ m ih =>
    intro ds z h
    have hne : ds ≠ [] := by rintro rfl; cases h
    obtain ⟨r, d, rfl⟩ : ∃ r d, ds = r ++ [d] := ⟨ds.dropLast, ds.getLast hne, (List.dropLast_concat_getLast hne).symm⟩
    have hr : r.length = m := by rw [List.length_append] at h; exact Nat.succ.inj h
    rw [sts_snoc, hr]
    have t := ih r z hr
    unfold stp
    by_cases hk : d.key = z
    · rw [if_pos hk]
      cases d with
      | go n y ws => exact t.closeO.beg
      | tk y => exact t.closeO
    · rw [if_neg hk]; exact t.up
theorem wtR_old {s : Std} {r : List Std} {m : Nat} (h : m < s.b) : wtR (s :: r) m = wtR r m := by
  show (if (s.b : Int) ≤ (m : Int) then _ else wtR r m) = _
  rw [if_neg (by omega)]
theorem wt_closeO {l : List Std} {n m : Nat} (hm : m ≤ n) : wt (closeO n l) m = wt l m := by
  by_cases e : l = []
  · subst e; rfl
  · obtain ⟨r, s, rfl⟩ := last_of e
    cases q : s.e with
    | some k => rw [closeO_shut q]
    | none =>
      rw [closeO_open q]
      unfold wt
      rw [List.reverse_append, List.reverse_append]
      show (if (s.b : Int) ≤ (m : Int) then (if (m : Int) ≤ (n : Int) then D.tup s.ws else .non) else wtR r.reverse m) = (if (s.b : Int) ≤ (m : Int) then (match s.e with | none => .tup s.ws | some n => if (m : Int) ≤ (n : Int) then .tup s.ws else .non) else wtR r.reverse m)
      rw [q, if_pos (show (m : Int) ≤ (n : Int) by omega)]
theorem wt_stp {l : List Std} {n m : Nat} {z : Str} {d : Dd} (hm : m ≤ n) : wt (stp z n l d) m = wt l m := by
  unfold stp
  by_cases hk : d.key = z
  · rw [if_pos hk]
    cases d with
    | go nm y ws =>
      show wt (closeO n l ++ [Std.mk (n + 1) none ws]) m = _
      unfold wt
      rw [List.reverse_append]
      show wtR (Std.mk (n + 1) none ws :: (closeO n l).reverse) m = _
      rw [wtR_old (show m < n + 1 by omega)]
      exact wt_closeO hm
    | tk y => exact wt_closeO hm
  · rw [if_neg hk]
theorem wt_thn : ∀ (k : Nat) (ds : List Dd) (z : Str) (m : Nat), ds.length = k → m ≤ k → wt (sts ds z) m = thn z (ds.take m) := by
  intro k
  induction k with
  | zero =>
    intro ds z m h hm
    rw [List.length_eq_zero_iff.mp h, List.take_nil]
    rfl
  | succ k ih =>
    intro ds z m h hm
    have hne : ds ≠ [] := by rintro rfl; cases h
    obtain ⟨r, d, rfl⟩ : ∃ r d, ds = r ++ [d] := ⟨ds.dropLast, ds.getLast hne, (List.dropLast_concat_getLast hne).symm⟩
    have hr : r.length = k := by rw [List.length_append] at h; exact Nat.succ.inj h
    by_cases hmk : m ≤ k
    · rw [sts_snoc, wt_stp (by omega), ih r z m hr hmk, List.take_append_of_le_length (by omega)]
    · obtain rfl : m = k + 1 := by omega
      rw [List.take_of_length_le (by rw [h]; exact Nat.le_refl _), thn_snoc, wt_cur (sts_ti (k + 1) _ z h), sts_snoc]
      unfold stp thnS
      by_cases hk : d.key = z
      · rw [if_pos hk, if_pos hk]
        cases d with
        | go nm y ws => exact cur_snoc _ _
        | tk y => exact cur_closeO
      · rw [if_neg hk, if_neg hk]
        have := ih r z k hr (Nat.le_refl _)
        rw [List.take_of_length_le (by omega), wt_cur (sts_ti k r z hr)] at this
        exact this
section
variable {P : Program} {w : World} {K : PySem.W.Frag} {mg : Str → Option Value} {base : Heap} {t : Adr}
def stAt (rs : Rs') (k : D) : List Std := match k with
  | .str z => if keyZ z = true then (lu rs z).getD [] else []
  | _ => []
def spStand (C : Addr) : SpD := fun ds S R _ => ∃ a F cs dl rs k, ds = [.ref a, k] ∧ ShAt C S a F cs dl rs ∧ Gt S k ∧ ∀ p, S p = none → R (.ref p) (S.set p (.lst ((stAt rs k).map stdD)))
theorem ok_standings_of (T : Txt K mg t) : FnD P w K mg base 3 t.f_Shelf_standings_of t.d_Shelf_standings_of ["self", "key"] (spStand t.c_Shelf) := by
  have G_is_key : FnD P w K mg base 2 t.f_is_key t.d_is_key ["thing"] (spOf (ofStr keyZ)) := ok_is_key T
  refine T.F_Shelf_standings_of.ok sc_Shelf_standings_of (fun ds S R Z ⟨_, _, _, _, _, _, e, _⟩ => by rw [e]; rfl) (fun cdv A outer s H E ds S R Z hr ⟨a, F, cs, dl, rs, k, e, hS, hk, q⟩ => ?_)
  subst e
  obtain ⟨ld, lr, ra, h, hF, hrs⟩ := id hS
  refine ⟨_, (sc (si (tnot (tv (cf (G_is_key.mono (by decide)) hr T.mg_is_key T.k_is_key T.b_is_key d0 (ac (dv 1) an)))) (s1 (sr (elst an))) s0) (s1 (sr (ct c_list T.n_list bt_list (ac (mg2 hr.units (fl T.cl_Shelf T.na_Shelf_runs (dv 0)) (dv 1) (elst an)) an))))), ?_⟩
  refine ⟨_, rfl, k, rfl, hk, _, rfl, ?_⟩
  refine ifb (fun h1 => ?_) (fun h1 => ?_)
  · have e : stAt rs k = [] := by
      cases k with
      | str z => exact if_neg (by rw [show keyZ z = false from nt h1]; exact Bool.false_ne_true)
      | _ => rfl
    rw [e] at q
    exact ⟨sm (show 0 ≤ 1000 by decide), fun p hp => fo (q p hp)⟩
  · have h1 := nf h1
    obtain ⟨z, rfl⟩ : ∃ z, k = .str z := by
      cases k with
      | str z => exact ⟨z, rfl⟩
      | _ => cases h1
    have e : stAt rs (.str z) = (lu rs z).getD [] := if_pos h1
    rw [e] at q
    refine ⟨_, rfl, a, _, _, rfl, h.ins, rfl, lr, _, rfl, h.run, _, rfl, sm (by decide), fun p hp => ⟨kvOf ra, .inr z, (Sub.new hp) _ _ h.run, rfl, ?_⟩⟩
    rw [dval_luk]
    have back : ∀ (p2 : Addr) (L : List D), (S.set p (.lst [])) p2 = none → (∀ p, S p = none → R (.ref p) (S.set p (.lst L))) → Fo ((S.set p (.lst [])).set p2 (.lst L)) (R (.ref p2)) := fun p2 L h2 hq => by
      have hn : S p2 = none := by
        cases e : S p2 with
        | none => rfl
        | some c => have := (Sub.new (c := .lst []) hp) _ _ e; rw [h2] at this; cases this
      refine ⟨S.set p2 (.lst L), fun b c hb => ?_, hq p2 hn⟩
      by_cases hb2 : b = p2
      · subst hb2; rw [sset_same] at hb ⊢; exact hb
      · rw [sset_ne hb2] at hb ⊢; exact (Sub.new hp) _ _ hb
    cases e1 : luk ra z with
    | none =>
      have e2 : lu rs z = none := by rw [hrs, lu_luk, e1]; rfl
      rw [e2] at q
      exact ⟨_, [], rfl, .inl sset_same, fun p2 hp2 => back p2 _ hp2 q⟩
    | some ls =>
      obtain ⟨l, sts⟩ := ls
      have e2 : lu rs z = some sts := by rw [hrs, lu_luk, e1]; rfl
      rw [e2] at q
      have hc := h.cell _ (luk_mem e1)
      exact ⟨_, _, rfl, .inl ((Sub.new hp) _ _ hc), fun p2 hp2 => back p2 _ hp2 q⟩
theorem ok_history (T : Txt K mg t) : FnD P w K mg base 1 t.f_Shelf_history t.d_Shelf_history ["self"] (fun ds S R _ => ∃ a F cs dl rs, ds = [.ref a] ∧ ShAt t.c_Shelf S a F cs dl rs ∧ ∀ p, S p = none → R (.ref p) (S.set p (.lst dl))) := by
  refine T.F_Shelf_history.ok sc_Shelf_history (fun ds S R Z ⟨_, _, _, _, _, e, _⟩ => by rw [e]; rfl) (fun cdv A outer s H E ds S R Z hr ⟨a, F, cs, dl, rs, e, ⟨ld, lr, ra, h, _⟩, q⟩ => ?_)
  subst e
  refine ⟨_, (s1 (sr (ct c_list T.n_list bt_list (ac (fl T.cl_Shelf T.na_Shelf_deeds (dv 0)) an)))), ?_⟩
  exact ⟨_, rfl, a, _, _, rfl, h.ins, rfl, _, dl, rfl, .inl h.dee, fun p hp => fo (q p hp)⟩
end
end My
namespace My
open PySem L2
def Dd.good : Dd → Prop
  | .go n z ws => n ≠ "take" ∧ z ∈ KS ∧ PyData.strOk n = true ∧ ∀ d ∈ ws, plainV d = true
  | .tk z => z ∈ KS
theorem sts_plain : ∀ (m : Nat) (ds : List Dd) (z : Str), ds.length = m → (∀ d ∈ ds, d.good) → ∀ s ∈ sts ds z, ∀ d ∈ s.ws, plainV d = true := by
  intro m
  induction m with
  | zero => intro ds z h _ s hs; rw [List.length_eq_zero_iff.mp h] at hs; cases hs
  | succ m ih =>
    intro ds z h hg
    have hne : ds ≠ [] := by rintro rfl; cases h
    obtain ⟨r, d, rfl⟩ : ∃ r d, ds = r ++ [d] := ⟨ds.dropLast, ds.getLast hne, (List.dropLast_concat_getLast hne).symm⟩
    have hr : r.length = m := by rw [List.length_append] at h; exact Nat.succ.inj h
    have t := ih r z hr fun x hx => hg x (List.mem_append_left _ hx)
    have hd := hg d (List.mem_append_right _ (List.mem_singleton.mpr rfl))
    have hc : ∀ s ∈ closeO r.length (sts r z), ∀ d ∈ s.ws, plainV d = true := by
      by_cases e : sts r z = []
      · rw [e]; exact fun s hs => (nomatch hs)
      · obtain ⟨q, s, e⟩ := last_of e
        rw [e] at t ⊢
        cases qe : s.e with
        | some k => rw [closeO_shut qe]; exact t
        | none =>
          rw [closeO_open qe]
          intro x hx
          rcases List.mem_append.mp hx with hx | hx
          · exact t x (List.mem_append_left _ hx)
          · rw [List.mem_singleton.mp hx]; exact t s (List.mem_append_right _ (List.mem_singleton.mpr rfl))
    rw [sts_snoc]
    unfold stp
    by_cases hk : d.key = z
    · rw [if_pos hk]
      cases d with
      | go n y ws =>
        intro s hs
        rcases List.mem_append.mp hs with hs | hs
        · exact hc s hs
        · rw [List.mem_singleton.mp hs]; exact hd.2.2.2
      | tk y => exact hc
    · rw [if_neg hk]; exact t
theorem std_ly {s : Std} (h : ∀ d ∈ s.ws, plainV d = true) {S : Sto} : Ly S 60 (stdD s) := by
  refine (Ly.tup (n := 1) fun x hx => ?_).le (by decide)
  simp only [List.mem_cons, List.not_mem_nil, or_false] at hx
  rcases hx with rfl | rfl | rfl
  · exact (Ly.plain (d := .int _) rfl).le (by decide)
  · cases s.e with
    | none => exact Ly.non.le (by decide)
    | some n => exact (Ly.plain (d := .int _) rfl).le (by decide)
  · exact Ly.tup fun d hd => Ly.plain (h d hd)
theorem sts_ly {ds : List Dd} {z : Str} (hg : ∀ d ∈ ds, d.good) {S : Sto} : ∀ d ∈ (sts ds z).map stdD, Ly S 60 d := fun d hd => by
  obtain ⟨s, hs, rfl⟩ := List.mem_map.mp hd
  exact std_ly (sts_plain _ ds z rfl hg s hs)
section
variable {P : Program} {w : World} {K : PySem.W.Frag} {mg : Str → Option Value} {base : Heap} {t : Adr}
theorem sts_len : ∀ (m : Nat) (ds : List Dd) (z : Str), ds.length = m → (sts ds z).length ≤ m := by
  intro m
  induction m with
  | zero => intro ds z h; rw [List.length_eq_zero_iff.mp h]; exact Nat.le_refl _
  | succ m ih =>
    intro ds z h
    have hne : ds ≠ [] := by rintro rfl; cases h
    obtain ⟨r, d, rfl⟩ : ∃ r d, ds = r ++ [d] := ⟨ds.dropLast, ds.getLast hne, (List.dropLast_concat_getLast hne).symm⟩
    have hr : r.length = m := by rw [List.length_append] at h; exact Nat.succ.inj h
    have t := ih r z hr
    have hc : (closeO r.length (sts r z)).length = (sts r z).length := by
      by_cases e : sts r z = []
      · rw [e]; rfl
      · obtain ⟨q, s, e⟩ := last_of e
        rw [e]
        cases qe : s.e with
        | some k => rw [closeO_shut qe]
        | none => rw [closeO_open qe, List.length_append, List.length_append]; rfl
    rw [sts_snoc]
    unfold stp
    by_cases hk : d.key = z
    · rw [if_pos hk]
      cases d with
      | go n y ws => show (closeO r.length (sts r z) ++ [_]).length ≤ _; rw [List.length_append, hc]; exact Nat.succ_le_succ t
      | tk y => show (closeO r.length (sts r z)).length ≤ _; omega
    · rw [if_neg hk]; omega
end
end My
namespace My
open PySem L2
def rws (dd : List Dd) (m : Nat) (l : List Str) : List D := (l.filter fun z => !isNonD (thn z (dd.take m))).map fun z => .tup [.str z, thn z (dd.take m)]
theorem rws_snoc (dd : List Dd) (m : Nat) (l : List Str) (z : Str) : rws dd m (l ++ [z]) = rws dd m l ++ (if isNonD (thn z (dd.take m)) = true then [] else [.tup [.str z, thn z (dd.take m)]]) := by
  unfold rws
  rw [List.filter_append, List.map_append]
  congr 1
  rw [List.filter_cons]
  cases isNonD (thn z (dd.take m)) <;> rfl
theorem rws_len (dd : List Dd) (m : Nat) (l : List Str) : (rws dd m l).length ≤ l.length := by
  unfold rws; rw [List.length_map]; exact List.length_filter_le _ _
structure RJ (rs : Rs') (dd : List Dd) : Prop where
  eq : ∀ z, (lu rs z).getD [] = sts dd z
  ks : ∀ r ∈ rs, r.1 ∈ KS
theorem RJ.len {C a : Addr} {S : Sto} {F : List Addr} {cs : List (Str × Str)} {dl : List D} {rs : Rs'} {dd : List Dd} (h : RJ rs dd) (hs : ShAt C S a F cs dl rs) : rs.length ≤ 10 := by
  have := sub_len (rs_nd hs) (m := KS) fun x hx => by
    obtain ⟨r, hr, rfl⟩ := List.mem_map.mp hx
    exact h.ks r hr
  rw [List.length_map] at this
  exact this
theorem KS_nodup : KS.Nodup := by decide +kernel
theorem rows17 {C a : Addr} {S : Sto} {F : List Addr} {cs : List (Str × Str)} {dl : List D} {rs : Rs'} {dd : List Dd} {m : Nat} (h : RJ rs dd) (hs : ShAt C S a F cs dl rs) (hm : m ≤ dd.length) {ss s2 : List Str}
    (p1 : ss.Perm (rs.map (·.1))) (o1 : PyProof.Rows.sortedS ss = true) (p2 : s2.Perm KS) (o2 : PyProof.Rows.sortedS s2 = true) : rowsAt rs m ss = rws dd m s2 := by
  have ew : ∀ z, wt ((lu rs z).getD []) m = thn z (dd.take m) := fun z => by rw [h.eq, wt_thn _ dd z m rfl hm]
  have e : ss.filter (fun z => !isNonD (wt ((lu rs z).getD []) m)) = s2.filter fun z => !isNonD (thn z (dd.take m)) := by
    refine sorted_eq ((sorted_le o1).filter _) ((sorted_le o2).filter _) ?_ ?_ fun z => ?_
    · exact List.filter_sublist.nodup (p1.nodup_iff.mpr (rs_nd hs))
    · exact List.filter_sublist.nodup (p2.nodup_iff.mpr KS_nodup)
    · rw [List.mem_filter, List.mem_filter, ew, p1.mem_iff, p2.mem_iff]
      constructor
      · rintro ⟨hz, hn⟩
        obtain ⟨r, hr, rfl⟩ := List.mem_map.mp hz
        exact ⟨h.ks r hr, hn⟩
      · rintro ⟨_, hn⟩
        refine ⟨?_, hn⟩
        cases q : lu rs z with
        | none =>
          have := ew z
          rw [q] at this
          rw [← this] at hn
          cases hn
        | some s => exact lu_in q
  unfold rowsAt rws
  rw [e]
  refine List.map_congr_left fun z _ => ?_
  unfold rowD
  rw [ew]
theorem rws_ly {dd : List Dd} (hg : ∀ d ∈ dd, d.good) {m : Nat} {l : List Str} (hl : ∀ z ∈ l, z ∈ KS) {S : Sto} : ∀ d ∈ rws dd m l, Ly S 60 d := fun d hd => by
  obtain ⟨z, hz, rfl⟩ := List.mem_map.mp hd
  have hzl := (List.mem_filter.mp hz).1
  have ht : Ly S 1 (thn z (dd.take m)) := by
    have hgm : ∀ d ∈ dd.take m, d.good := fun d h => hg d (List.mem_of_mem_take h)
    generalize dd.take m = dt at hgm
    revert hgm
    generalize hk : dt.length = k
    induction k generalizing dt with
    | zero => intro _; rw [List.length_eq_zero_iff.mp hk]; exact Ly.non.le (by decide)
    | succ k ih =>
      intro hg
      have hne : dt ≠ [] := by rintro rfl; cases hk
      obtain ⟨r, d, rfl⟩ : ∃ r d, dt = r ++ [d] := ⟨dt.dropLast, dt.getLast hne, (List.dropLast_concat_getLast hne).symm⟩
      have hr : r.length = k := by rw [List.length_append] at hk; exact Nat.succ.inj hk
      have hd := hg d (List.mem_append_right _ (List.mem_singleton.mpr rfl))
      rw [thn_snoc]
      unfold thnS
      by_cases hk : d.key = z
      · rw [if_pos hk]
        cases d with
        | go n y ws => exact Ly.tup (n := 0) fun x hx => Ly.plain (hd.2.2.2 x hx)
        | tk y => exact Ly.non.le (by decide)
      · rw [if_neg hk]; exact ih r hr fun x hx => hg x (List.mem_append_left _ hx)
  refine (Ly.tup (n := 1) fun x hx => ?_).le (by decide)
  simp only [List.mem_cons, List.not_mem_nil, or_false] at hx
  rcases hx with rfl | rfl
  · exact (Ly.str (KS_key z (hl z hzl)).2.2).le (by decide)
  · exact ht
end My
namespace My
open PySem L2
section
variable {P : Program} {w : World} {K : PySem.W.Frag} {mg : Str → Option Value} {base : Heap} {t : Adr}
theorem gt_KS {S : Sto} {z : Str} (hz : z ∈ KS) : Gt S (.str z) := gt_strg (by have := (KS_key z hz).2.1; omega)
theorem stAt_KS {rs : Rs'} {dd : List Dd} (h : RJ rs dd) {z : Str} (hz : z ∈ KS) : stAt rs (.str z) = sts dd z := by
  show (if keyZ z = true then (lu rs z).getD [] else []) = _
  rw [if_pos (KS_key z hz).1, h.eq]
theorem mom_int {n m : Nat} (h : m ≤ n) {i : Int} (e : momD n (.int (m : Nat)) = some i) : i = m := by
  have e : (if (0 : Int) ≤ (m : Int) ∧ (m : Int) ≤ (n : Int) then some (m : Int) else none) = some i := e
  rw [if_pos ⟨by omega, by omega⟩] at e
  exact (Option.some.inj e).symm
theorem mom_some {n m : Nat} (h : m ≤ n) (e : momD n (.int (m : Nat)) = none) : False := by
  have e : (if (0 : Int) ≤ (m : Int) ∧ (m : Int) ≤ (n : Int) then some (m : Int) else none) = none := e
  rw [if_pos ⟨by omega, by omega⟩] at e
  cases e
end
end My
namespace My
open PySem L2
section
variable {t : Adr} {S : Sto} {a : Addr} {F : List Addr} {cs : List (Str × Str)} {dl : List D} {rs : Rs'} {kn : Kn} {d : D} {R : KD} {Z : KX} {dd : List Dd}
theorem row_ok {z : Str} {ws : List D} (hz : z ∈ KS) (h : Wg cs ws) : rowB cs (.str z) (.tup ws) = true := by
  unfold rowB
  rw [h.worths, show ofStr keyZ (.str z) = true from (KS_key z hz).1]; rfl
theorem stands (hR : RI rs dl.length kn) {z : Str} (hz : z ∈ KS) : isNonD (wAt rs (.str z) dl.length) = !(luK kn z).isSome := by rw [hR.wAt hz, isNon_knD]
theorem no_lu {z : Str} (h : luK kn z = none) : (!(luK kn z).isSome) = true := by rw [h]; rfl
theorem has_lu {z : Str} (h : (luK kn z).isSome = true) : (!(luK kn z).isSome) = false := by rw [h]; rfl
theorem tf {b : Bool} (h1 : b = true) (h2 : b = false) {p : Prop} : p := by rw [h1] at h2; cases h2
theorem closeO_non {l : List Std} {n : Nat} (h : cur l = .non) : closeO n l = l := by
  by_cases e : l = []
  · subst e; rfl
  · obtain ⟨r, s, rfl⟩ := last_of e
    rw [cur_snoc] at h
    cases q : s.e with
    | none => unfold endE at h; rw [q] at h; cases h
    | some m => exact closeO_shut q
theorem closeO_yes {l : List Std} {n : Nat} (h : cur l ≠ .non) : closeO n l = closeL n l := by
  by_cases e : l = []
  · subst e; rfl
  · obtain ⟨r, s, rfl⟩ := last_of e
    rw [cur_snoc] at h
    cases q : s.e with
    | none => rw [closeO_open q, closeL_snoc]
    | some m => unfold endE at h; rw [q] at h; exact absurd rfl h
theorem RJ.put (h : RJ rs dd) (hR : RI rs dd.length kn) {z n : Str} {ws : List D} (hz : z ∈ KS) (hn : luK kn z = none) : RJ (begR rs z (dd.length + 1) ws) (dd ++ [.go n z ws]) := by
  refine ⟨fun k => ?_, ks_up h.ks hz⟩
  unfold begR
  rw [lu_upR, sts_snoc]
  unfold stp
  show _ = if z = k then _ else _
  by_cases e : k = z
  · rw [if_pos e, if_pos e.symm, e]
    show (lu rs z).getD [] ++ _ = closeO _ _ ++ _
    have := hR.eq z
    rw [h.eq] at this
    rw [h.eq, closeO_non (by rw [this]; unfold knD; rw [hn])]
  · rw [if_neg e, if_neg fun q => e q.symm]; exact h.eq k
theorem RJ.cur (h : RJ rs dd) (hR : RI rs dd.length kn) {z : Str} (hn : (luK kn z).isSome = true) : cur (sts dd z) ≠ .non := by
  have := hR.eq z
  rw [h.eq] at this
  rw [this]
  obtain ⟨ws, hws⟩ := Option.isSome_iff_exists.mp hn
  unfold knD; rw [hws]; exact nofun
theorem RJ.take (h : RJ rs dd) (hR : RI rs dd.length kn) {z : Str} (hz : z ∈ KS) (hn : (luK kn z).isSome = true) : RJ (endR rs z dd.length) (dd ++ [.tk z]) := by
  refine ⟨fun k => ?_, ks_up h.ks hz⟩
  unfold endR
  rw [lu_upR, sts_snoc]
  unfold stp
  show _ = if z = k then _ else _
  by_cases e : k = z
  · rw [if_pos e, if_pos e.symm, e]
    show closeL _ ((lu rs z).getD []) = closeO _ _
    rw [h.eq, closeO_yes (h.cur hR hn)]
  · rw [if_neg e, if_neg fun q => e q.symm]; exact h.eq k
theorem RJ.change (h : RJ rs dd) (hR : RI rs dd.length kn) {z n : Str} {ws : List D} (hz : z ∈ KS) (hn : (luK kn z).isSome = true) : RJ (begR (endR rs z dd.length) z (dd.length + 1) ws) (dd ++ [.go n z ws]) := by
  refine ⟨fun k => ?_, ks_up (ks_up h.ks hz) hz⟩
  unfold begR
  rw [lu_upR, sts_snoc]
  unfold stp
  show _ = if z = k then _ else _
  by_cases e : k = z
  · rw [if_pos e, if_pos e.symm, e]
    show (lu (endR rs z dd.length) z).getD [] ++ _ = closeO _ _ ++ _
    unfold endR
    rw [lu_upR, if_pos rfl]
    show closeL _ ((lu rs z).getD []) ++ _ = _
    rw [h.eq, closeO_yes (h.cur hR hn)]
  · rw [if_neg e, if_neg fun q => e q.symm]
    unfold endR
    rw [lu_upR, if_neg e]
    exact h.eq k
structure Dos (t : Adr) (ds : List D) (S : Sto) (R : KD) (Z : KX) : Prop where
  of : spDoes t ds S R Z
theorem GD.asDd (hd : GD cs kn d) (hI : KI cs kn) : ∃ e kn', d = ddD e ∧ e.good ∧ KnD kn d kn' ∧ KI cs kn' := by
  rcases hd with ⟨z, ws, hz, hw, hn, rfl⟩ | ⟨z, ws, hz, hw, hn, rfl⟩ | ⟨z, hz, hn, rfl⟩
  · exact ⟨.go "put" z ws, _, rfl, ⟨by decide, hz, by decide +kernel, hw.all⟩, .inl ⟨_, z, ws, .inl rfl, rfl, rfl⟩, hI.put hz hw⟩
  · exact ⟨.go "change" z ws, _, rfl, ⟨by decide, hz, by decide +kernel, hw.all⟩, .inl ⟨_, z, ws, .inr rfl, rfl, rfl⟩, hI.put hz hw⟩
  · exact ⟨.tk z, _, rfl, hz, .inr ⟨z, hn, rfl, rfl⟩, hI.del z⟩
theorem does_good (hS : ShAt t.c_Shelf S a F cs (dd.map ddD) rs) (hg : Gd cs) (hI : KI cs kn) (hR : RI rs dd.length kn) (hJ : RJ rs dd) (hl : dd.length ≤ 100) (hd : GD cs kn d) {e : Dd} {kn' : Kn} (he : d = ddD e) (hkn : KnD kn d kn')
    (q : ∀ S' F' rs', ShAt t.c_Shelf S' a F' cs ((dd ++ [e]).map ddD) rs' → Kps F F' S S' → RI rs' (dd.length + 1) kn' → RJ rs' (dd ++ [e]) → R .non S') : Dos t [.ref a, d] S R Z := by
  have hdl : (dd.map ddD).length = dd.length := List.length_map _
  rw [← hdl] at hR
  have hrl := hR.len hS
  have hc8 := hg.1
  obtain ⟨ld, lr, ra, h, _, _⟩ := id hS
  have em : (dd ++ [e]).map ddD = dd.map ddD ++ [d] := by rw [List.map_append, he]; rfl
  refine ⟨a, _, h.ins, rfl, ?_⟩
  rcases hd with ⟨z, ws, hz, hw, hn, rfl⟩ | ⟨z, ws, hz, hw, hn, rfl⟩ | ⟨z, hz, hn, rfl⟩
  · have ro := row_ok hz hw
    have st := (stands hR hz).trans (no_lu hn)
    refine .inl ⟨_, _, rfl, a, F, cs, _, rs, _, _, rfl, hS, hc8, gt_KS hz, hw.gts hc8, by omega, by omega, fun e => tf ro e, fun _ e => tf st e, fun z' ws' e1 e2 _ _ S' F' hS' hK => ?_⟩
    cases e1; cases e2
    have eq : e = .go "put" z ws := by cases e with | go n y vs => cases he; rfl | tk y => cases he
    have ekn : kn' = kput kn z ws := by rcases hkn with ⟨n, y, vs, _, e1, e2⟩ | ⟨y, _, e1, _⟩ <;> cases e1; exact e2
    subst ekn
    rw [hdl] at hS' hR
    exact q S' F' _ (by rw [em]; exact hS') hK (hR.put hz) (by rw [eq]; exact hJ.put hR hz hn)
  · have ro := row_ok hz hw
    have st := (stands hR hz).trans (has_lu hn)
    refine .inr (.inl ⟨_, _, rfl, a, F, cs, _, rs, _, _, rfl, hS, hc8, gt_KS hz, hw.gts hc8, by omega, by omega, fun e => tf ro e, fun _ e => tf e st, fun z' ws' e1 e2 _ _ S' F' hS' hK => ?_⟩)
    cases e1; cases e2
    have eq : e = .go "change" z ws := by cases e with | go n y vs => cases he; rfl | tk y => cases he
    have ekn : kn' = kput kn z ws := by rcases hkn with ⟨n, y, vs, _, e1, e2⟩ | ⟨y, _, e1, _⟩ <;> cases e1; exact e2
    subst ekn
    rw [hdl] at hS' hR
    exact q S' F' _ (by rw [em]; exact hS') hK (hR.change hz) (by rw [eq]; exact hJ.change hR hz hn)
  · have st := (stands hR hz).trans (has_lu hn)
    refine .inr (.inr ⟨_, rfl, a, F, cs, _, rs, _, rfl, hS, gt_KS hz, by omega, fun e => tf (KS_key z hz).1 e, fun _ e => tf e st, fun z' e1 _ _ S' hS' hK => ?_⟩)
    cases e1
    have eq : e = .tk z := by cases e with | go n y vs => cases he | tk y => cases he; rfl
    have ekn : kn' = kdel kn z := by rcases hkn with ⟨n, y, vs, _, e1, e2⟩ | ⟨y, _, e1, e2⟩ <;> cases e1; exact e2
    subst ekn
    rw [hdl] at hS' hR
    exact q S' F _ (by rw [em]; exact hS') hK (hR.del hz) (by rw [eq]; exact hJ.take hR hz hn)
theorem ShAt.out {C : Addr} (hS : ShAt C S a F cs dl rs) {b : Addr} (hb : S b = none) : b ∉ F := fun m => by
  obtain ⟨ld, lr, ra, h, rfl, _⟩ := hS
  unfold fp at m
  simp only [List.mem_cons, List.mem_map] at m
  rcases m with e | e | e | ⟨r, hr, e⟩
  · have := h.ins; rw [← e, hb] at this; cases this
  · have := h.dee; rw [← e, hb] at this; cases this
  · have := h.run; rw [← e, hb] at this; cases this
  · have := h.cell r hr; rw [e, hb] at this; cases this
theorem ShAt.off {C : Addr} (hS : ShAt C S a F cs dl rs) {p : Addr} (hp : p ∉ F) {c : Ce} : ShAt C (S.set p c) a F cs dl rs := by
  obtain ⟨ld, lr, ra, hh, rfl, e2⟩ := hS
  unfold fp at hp
  simp only [List.mem_cons, not_or] at hp
  obtain ⟨n1, n2, n3, n4⟩ := hp
  exact ⟨ld, lr, ra, ⟨(sset_ne (Ne.symm n1)).trans hh.ins, (sset_ne (Ne.symm n2)).trans hh.dee, (sset_ne (Ne.symm n3)).trans hh.run, fun r hr => (sset_ne fun e => n4 (by rw [← e]; exact List.mem_map.mpr ⟨r, hr, rfl⟩)).trans (hh.cell r hr), hh.kn, hh.an, hh.sz⟩, rfl, e2⟩
end
theorem dd_ly {dd : List Dd} (hg : ∀ d ∈ dd, d.good) {S : Sto} : ∀ d ∈ dd.map ddD, Ly S 60 d := fun d hd => by
  obtain ⟨e, he, rfl⟩ := List.mem_map.mp hd
  have hge := hg e he
  cases e with
  | go n z ws =>
    refine Ly.le (n := 2) (Ly.tup (n := 1) fun x hx => ?_) (by decide)
    simp only [List.mem_cons, List.not_mem_nil, or_false] at hx
    rcases hx with rfl | rfl | rfl
    · exact (Ly.str hge.2.2.1).le (by decide)
    · exact (Ly.str (KS_key z hge.2.1).2.2).le (by decide)
    · exact Ly.tup fun d hd => Ly.plain (hge.2.2.2 d hd)
  | tk z =>
    refine Ly.le (n := 1) (Ly.tup (n := 0) fun x hx => ?_) (by decide)
    simp only [List.mem_cons, List.not_mem_nil, or_false] at hx
    rcases hx with rfl | rfl
    · exact Ly.str (by decide +kernel)
    · exact Ly.str (KS_key z hge).2.2
end My
namespace My
open PySem L2
theorem sub_non {S S' : Sto} (h : Sub S S') {p : Addr} (hp : S' p = none) : S p = none := by
  cases e : S p with
  | none => rfl
  | some c => have := h _ _ e; rw [hp] at this; cases this
structure LL (S : Sto) (ls : List Addr) (rows : List (List D)) : Prop where
  len : ls.length = rows.length
  at_ : ∀ (i : Nat) (l : Addr) (r : List D), ls[i]? = some l → rows[i]? = some r → S l = some (.lst r)
theorem LL.sub {S S' : Sto} {ls : List Addr} {rows : List (List D)} (h : LL S ls rows) (b : Sub S S') : LL S' ls rows := ⟨h.len, fun i l r a c => b _ _ (h.at_ i l r a c)⟩
theorem LL.mem {S : Sto} {ls : List Addr} {rows : List (List D)} (h : LL S ls rows) {l : Addr} (hl : l ∈ ls) : ∃ r, S l = some (.lst r) := by
  obtain ⟨i, hi⟩ := List.getElem?_of_mem hl
  have hlt := (List.getElem?_eq_some_iff.mp hi).1
  rw [h.len] at hlt
  exact ⟨_, h.at_ i l _ hi (List.getElem?_eq_getElem hlt)⟩
theorem LL.nil {S : Sto} : LL S [] [] := ⟨rfl, fun i l r a => (by cases i <;> cases a)⟩
theorem LL.snoc {S : Sto} {ls : List Addr} {rows : List (List D)} (h : LL S ls rows) {p : Addr} {r : List D} (hp : S p = some (.lst r)) : LL S (ls ++ [p]) (rows ++ [r]) := by
  refine ⟨by rw [List.length_append, List.length_append, h.len]; rfl, fun i l r' a b => ?_⟩
  by_cases hi : i < ls.length
  · rw [List.getElem?_append_left hi] at a
    rw [List.getElem?_append_left (by rw [← h.len]; exact hi)] at b
    exact h.at_ i l r' a b
  · have hl := (List.getElem?_eq_some_iff.mp a).1
    rw [List.length_append] at hl
    have e : i = ls.length := by have : ls.length + 1 > i := hl; omega
    subst e
    rw [List.getElem?_append_right (Nat.le_refl _), Nat.sub_self] at a
    rw [List.getElem?_append_right (by rw [h.len]; exact Nat.le_refl _), h.len, Nat.sub_self] at b
    cases a; cases b; exact hp
theorem LL.tl {S : Sto} {l : Addr} {ls : List Addr} {r : List D} {rows : List (List D)} (h : LL S (l :: ls) (r :: rows)) : LL S ls rows := ⟨Nat.succ.inj h.len, fun i x y a b => h.at_ (i + 1) x y a b⟩
theorem LL.dl {S : Sto} : ∀ {rows : List (List D)} {ls : List Addr}, LL S ls rows → (∀ r ∈ rows, ∀ d ∈ r, Ly S 60 d) → ∃ ps : List PyData, PyData.canLayAll0 ps = true ∧ PyData.depthAll ps ≤ 61 ∧ ∀ ls', LL S ls' rows → DlAll S (ls'.map D.ref) ps
  | [], ls, h, _ => ⟨[], rfl, Nat.zero_le _, fun ls' h' => by
      rw [List.length_eq_zero_iff.mp h'.len]; exact .nil⟩
  | r :: rows, ls, h, hl => by
    cases ls with
    | nil => cases h.len
    | cons l ls =>
      obtain ⟨ps, k1, k2, k3⟩ := LL.dl h.tl fun x hx => hl x (List.mem_cons_of_mem _ hx)
      obtain ⟨p, q1, q2, q3, q4⟩ := Ly.lst (h.at_ 0 l r rfl rfl) (hl r List.mem_cons_self)
      refine ⟨p :: ps, by simp only [PyData.canLayAll0, q2, k1, Bool.and_self], by simp only [PyData.depthAll]; omega, fun ls' h' => ?_⟩
      cases ls' with
      | nil => cases h'.len
      | cons l' ls' => exact .cons (q4 l' (h'.at_ 0 l' r rfl rfl)) (k3 ls' h'.tl)
theorem eq_lists2 {S : Sto} {a b : Addr} {la lb : List Addr} {rows : List (List D)} {R : KD} {neg : Bool} (e1 : S a = some (.lst (la.map D.ref))) (e2 : S b = some (.lst (lb.map D.ref))) (h1 : LL S la rows) (h2 : LL S lb rows) (h : ∀ r ∈ rows, ∀ d ∈ r, Ly S 60 d) (q : R (.bl (!neg)) S) : eqD2 neg (.ref a) (.ref b) S R := by
  obtain ⟨ps, k1, k2, k3⟩ := h1.dl h
  have kk : (PyData.list ps).canLay0 = true := by simp only [PyData.canLay0]; exact k1
  have e : (if neg then !PyData.eqv (.list ps) (.list ps) else PyData.eqv (.list ps) (.list ps)) = !neg := by rw [SeqAt.eqv_refl _ kk]; cases neg <;> rfl
  exact ⟨.list ps, .list ps, ⟨a, _, ps, rfl, e1, rfl, k3 la h1⟩, ⟨b, _, ps, rfl, e2, rfl, k3 lb h2⟩, kk, kk, .inl (by simp only [PyData.depth]; omega), by rw [e]; exact q⟩
theorem comp_lists {I : ItD} {S1 : Sto} {g : TGd} {te : TD} {σ : SD} {src : List (Option Nat)} {R : KD} (f : D → List D) (hok : ∀ S', Sub S1 S' → I.ok S') (hz : I.xs.length ≤ 1000)
    (step : ∀ d, d ∈ I.xs → ∀ S', Sub S1 S' → ∀ Q : KD, (∀ p S2, S' p = none → Sub S' S2 → S2 p = some (.lst (f d)) → Q (.ref p) S2) → g d (pickD σ src) S' fun σ3 S3 => te σ3 S3 Q Zf)
    (fin : ∀ ls S2, Sub S1 S2 → LL S2 ls (I.xs.map f) → ls.Nodup → (∀ l ∈ ls, S1 l = none) → ∀ p, S2 p = none → R (.ref p) (S2.set p (.lst (ls.map D.ref)))) :
    CompP σ src g dTrue te R I S1 := by
  refine ⟨fun i out S => ∃ ls : List Addr, out = ls.map D.ref ∧ Sub S1 S ∧ LL S ls ((I.xs.take i).map f) ∧ ls.Nodup ∧ ∀ l ∈ ls, S1 l = none, ⟨[], rfl, .refl _, LL.nil, List.nodup_nil, fun _ h => (nomatch h)⟩, fun i out S ⟨_, _, h, _⟩ => hok S h, ?_, ?_⟩
  · rintro i d out S hd ⟨ls, rfl, hs, hL, hn, hf⟩
    have hlen := hL.len
    rw [List.length_map, List.length_take] at hlen
    refine ⟨small1000 (by rw [List.length_map]; omega), ?_⟩
    have e : (fun (σ3 : SD) (S3 : Sto) => dTrue σ3 S3 (fun b S4 => if b = true then te σ3 S4 (fun v S5 => ∃ ls' : List Addr, ls.map D.ref ++ [v] = ls'.map D.ref ∧ Sub S1 S5 ∧ LL S5 ls' ((I.xs.take (i + 1)).map f) ∧ ls'.Nodup ∧ ∀ l ∈ ls', S1 l = none) Zf else ∃ ls' : List Addr, ls.map D.ref = ls'.map D.ref ∧ Sub S1 S4 ∧ LL S4 ls' ((I.xs.take (i + 1)).map f) ∧ ls'.Nodup ∧ ∀ l ∈ ls', S1 l = none) Zf)
        = fun σ3 S3 => te σ3 S3 (fun v S5 => ∃ ls' : List Addr, ls.map D.ref ++ [v] = ls'.map D.ref ∧ Sub S1 S5 ∧ LL S5 ls' ((I.xs.take (i + 1)).map f) ∧ ls'.Nodup ∧ ∀ l ∈ ls', S1 l = none) Zf := by
      funext σ3 S3
      simp [dTrue]
    rw [e]
    refine step d (List.mem_of_getElem? hd) S hs _ fun p S2 hp hs2 hp2 => ⟨ls ++ [p], by rw [List.map_append]; rfl, hs.trans hs2, ?_, ?_, ?_⟩
    · rw [take_snoc hd, List.map_append]; exact (hL.sub hs2).snoc hp2
    · refine nd_snoc hn fun m => ?_
      obtain ⟨r, hr⟩ := hL.mem m
      rw [hp] at hr; cases hr
    · intro l hl
      rcases List.mem_append.mp hl with hl | hl
      · exact hf l hl
      · rw [List.mem_singleton.mp hl]; exact sub_non hs hp
  · rintro out S2 ⟨ls, rfl, hs, hL, hn, hf⟩
    rw [List.take_length] at hL
    exact fin ls S2 hs hL hn hf
def rowsF (n : Nat) (g : Nat → List D) : List (List D) := (List.range (n + 1)).map g
theorem rowsF_len (n : Nat) (g : Nat → List D) : (rowsF n g).length = n + 1 := by unfold rowsF; rw [List.length_map, List.length_range]
theorem rowsF_get {n : Nat} {g : Nat → List D} {i : Nat} {r : List D} (h : (rowsF n g)[i]? = some r) : i < n + 1 ∧ r = g i := by
  unfold rowsF at h
  rw [List.getElem?_map] at h
  by_cases q : i < n + 1
  · rw [List.getElem?_range q] at h; exact ⟨q, (Option.some.inj h).symm⟩
  · rw [List.getElem?_eq_none (by rw [List.length_range]; omega)] at h; cases h
theorem rng_rows (n : Nat) (f : D → List D) : (rngD 0 (n + 1)).map f = rowsF n fun m => f (.int (m : Nat)) := by
  unfold rngD rowsF
  rw [List.map_map]
  refine List.map_congr_left fun m _ => ?_
  show f (.int (0 + (m : Int))) = _
  rw [Int.zero_add]
section
variable {P : Program} {w : World} {K : PySem.W.Frag} {mg : Str → Option Value} {base : Heap} {t : Adr}
def spAl (t : Adr) : SpD := fun ds S R _ => ∃ (a : Addr) (F : List Addr) (cs : List (Str × Str)) (rs : Rs') (dd : List Dd) (s2 : List Str), ds = [.ref a] ∧ ShAt t.c_Shelf S a F cs (dd.map ddD) rs ∧ RJ rs dd ∧ dd.length ≤ 100 ∧ s2.Perm KS ∧ PyProof.Rows.sortedS s2 = true ∧
  ∀ ls p S2, Sub S S2 → S2 p = some (.lst (ls.map D.ref)) → LL S2 ls (rowsF dd.length fun m => rws dd m s2) → R (.ref p) S2
theorem ok_al (T : Txt K mg t) : FnD P w K mg base 4 t.f_l_all t.d_l_all ["_law_shelf"] (spAl t) := by
  have G_Shelf_now : FnD P w K mg base 1 t.f_Shelf_now t.d_Shelf_now ["self"] (spNow t.c_Shelf) := ok_now T
  have G_Shelf_all_at : FnD P w K mg base 3 t.f_Shelf_all_at t.d_Shelf_all_at ["self", "moment"] (spAll t.c_Shelf t.c_NoMoment) := ok_all_at T
  refine T.F_l_all.ok sc_l_all (fun ds S R Z ⟨_, _, _, _, _, _, e, _⟩ => by rw [e]; rfl) (fun cdv A outer s H E ds S R Z hr ⟨a, F, cs, rs, dd, s2, e, hS, hJ, hl, hp, ho, q⟩ => ?_)
  subst e
  obtain ⟨ld, lr, ra, h, hF, hrs⟩ := id hS
  have hlt : rs.length < 64 := by have := hJ.len hS; omega
  have hdl : (dd.map ddD).length = dd.length := List.length_map _
  have e1 : (((dd.map ddD).length : Nat) : Int) + 1 = ((dd.length + 1 : Nat) : Int) := by rw [hdl]; omega
  have e2 : ((((dd.map ddD).length : Nat) : Int) + 1).toNat = dd.length + 1 := by rw [e1]; rfl
  refine ⟨_, (s1 (sr (eco (N := ["_law_moment", "_law_shelf"]) (src := [none, some 0]) (csc (defScope s_l_all) ["_law_shelf"] rfl rfl (by decide +kernel)) (ir1 T.n_range (ac (bo o_add hr.units (cme0 (dv 0) T.cl_Shelf T.me_Shelf_now (G_Shelf_now.mono (by decide)) hr T.b_Shelf_now d0) di) an)) (cg1 (show (["_law_moment", "_law_shelf"] : List Str).Nodup by decide +kernel)) (gx_name rfl) gd_name (fun _ _ _ _ _ => if0) (fun _ _ _ _ _ => (cme (dv 1) T.cl_Shelf T.me_Shelf_all_at (G_Shelf_all_at.mono (by decide)) hr T.b_Shelf_all_at d0 (ac (dv 0) an)))))), ?_⟩
  refine ⟨_, rfl, a, _, rfl, h.ins, rfl, a, F, cs, _, rs, rfl, hS, _, rfl, ?_, ?_, ?_⟩
  · rw [e1]; omega
  · rw [e1]; omega
  rw [e2]
  refine comp_lists (fun d => match d with | .int i => rws dd i.toNat s2 | _ => []) (fun _ _ => trivial) (by show (rngD 0 (dd.length + 1)).length ≤ 1000; rw [rngD_len]; omega) (fun d hd S' hs Q hQ => ?_) fun ls S2 hs hL hn hf p hpn => ?_
  · obtain ⟨i, hi⟩ := List.getElem?_of_mem hd
    obtain ⟨hi1, rfl⟩ := rngD_get hi
    have hi2 : (0 : Int) + (i : Nat) = ((i : Nat) : Int) := Int.zero_add _
    have him : i ≤ (dd.map ddD).length := by rw [hdl]; omega
    refine ⟨_, rfl, a, _, rfl, hs _ _ h.ins, rfl, _, rfl, a, F, cs, _, rs, .int (0 + (i : Nat)), rfl, hS.sub hs, hlt, gt_int, fun j ss hj p1 o1 p hpn => ?_, fun hn => ?_⟩
    · rw [hi2] at hj
      obtain rfl := mom_int him hj
      rw [rows17 hJ hS (by omega) p1 o1 hp ho]
      refine hQ p _ hpn (.new hpn) ?_
      show (S'.set p _) p = some (.lst (rws dd ((0 : Int) + (i : Nat)).toNat s2))
      rw [hi2]
      exact sset_same
    · rw [hi2] at hn; exact (mom_some him hn).elim
  · have hL : LL S2 ls ((rngD 0 (dd.length + 1)).map _) := hL
    rw [rng_rows] at hL
    exact fo (q ls p _ (hs.trans (.new hpn)) sset_same (hL.sub (.new hpn)))
end
end My
namespace My
open PySem L2
def inS (n m : Nat) (s : Std) : Bool := decide (s.b ≤ m) && decide (m ≤ s.e.getD n)
structure OJ (n : Nat) (l : List Std) : Prop where
  pw : l.Pairwise fun s u => s.e.getD n < u.b
  ok : ∀ s ∈ l, s.b ≤ s.e.getD n ∧ s.e.getD n ≤ n
theorem getD_le {n : Nat} {e : Option Nat} (h : e.getD n ≤ n) : e.getD (n + 1) ≤ n + 1 ∧ e.getD n ≤ e.getD (n + 1) := by
  cases e with
  | none => exact ⟨Nat.le_refl _, Nat.le_succ _⟩
  | some m => exact ⟨Nat.le_succ_of_le h, Nat.le_refl _⟩
theorem OJ.up {n : Nat} {l : List Std} (h : OJ n l) : OJ (n + 1) l := by
  refine ⟨List.Pairwise.imp_of_mem (fun {a b} ha hb r => ?_) h.pw, fun s hs => ?_⟩
  · have h1 := h.ok b hb
    cases q : a.e with
    | none => rw [q] at r; have r : n < b.b := r; omega
    | some m => rw [q] at r; exact r
  · have h1 := h.ok s hs
    have h2 := getD_le h1.2
    omega
theorem OJ.shut {n : Nat} {l : List Std} (h : OJ n l) : OJ (n + 1) (closeO n l) ∧ ∀ s ∈ closeO n l, ∃ m, s.e = some m ∧ m ≤ n := by
  by_cases e : l = []
  · subst e; exact ⟨h.up, fun s hs => (nomatch hs)⟩
  · obtain ⟨r, s, rfl⟩ := last_of e
    obtain ⟨p1, p2, p3⟩ := List.pairwise_append.mp h.pw
    have hs := h.ok s (List.mem_append_right _ (List.mem_singleton.mpr rfl))
    have hr : ∀ x ∈ r, ∃ m, x.e = some m ∧ m ≤ n ∧ m < s.b := fun x hx => by
      have h1 := p3 x hx s (List.mem_singleton.mpr rfl)
      have h2 := h.ok x (List.mem_append_left _ hx)
      cases q : x.e with
      | none => rw [q] at h1; have h1 : n < s.b := h1; omega
      | some m => rw [q] at h1 h2; exact ⟨m, rfl, h2.2, h1⟩
    cases q : s.e with
    | some k =>
      rw [closeO_shut q]
      refine ⟨h.up, fun x hx => ?_⟩
      rcases List.mem_append.mp hx with hx | hx
      · obtain ⟨m, a, b, _⟩ := hr x hx; exact ⟨m, a, b⟩
      · rw [List.mem_singleton.mp hx]; rw [q] at hs; exact ⟨k, q, hs.2⟩
    | none =>
      rw [closeO_open q]
      rw [q] at hs
      have hs1 : s.b ≤ n := hs.1
      refine ⟨⟨List.pairwise_append.mpr ⟨(List.pairwise_append.mp h.up.pw).1, List.pairwise_singleton _ _, fun x hx y hy => ?_⟩, fun x hx => ?_⟩, fun x hx => ?_⟩
      · obtain ⟨m, a, b, c⟩ := hr x hx
        rw [List.mem_singleton.mp hy, a]; exact c
      · rcases List.mem_append.mp hx with hx | hx
        · exact h.up.ok x (List.mem_append_left _ hx)
        · rw [List.mem_singleton.mp hx]; exact ⟨hs1, Nat.le_succ _⟩
      · rcases List.mem_append.mp hx with hx | hx
        · obtain ⟨m, a, b, _⟩ := hr x hx; exact ⟨m, a, b⟩
        · rw [List.mem_singleton.mp hx]; exact ⟨n, rfl, Nat.le_refl _⟩
theorem sts_oj : ∀ (m : Nat) (ds : List Dd) (z : Str), ds.length = m → OJ m (sts ds z) := by
  intro m
  induction m with
  | zero => intro ds z h; rw [List.length_eq_zero_iff.mp h]; exact ⟨List.Pairwise.nil, fun s hs => (nomatch hs)⟩
  | succ m ih =>
    intro ds z h
    have hne : ds ≠ [] := by rintro rfl; cases h
    obtain ⟨r, d, rfl⟩ : ∃ r d, ds = r ++ [d] := ⟨ds.dropLast, ds.getLast hne, (List.dropLast_concat_getLast hne).symm⟩
    have hr : r.length = m := by rw [List.length_append] at h; exact Nat.succ.inj h
    rw [sts_snoc, hr]
    have t := ih r z hr
    obtain ⟨c1, c2⟩ := t.shut
    unfold stp
    by_cases hk : d.key = z
    · rw [if_pos hk]
      cases d with
      | go n y ws =>
        refine ⟨List.pairwise_append.mpr ⟨c1.pw, List.pairwise_singleton _ _, fun x hx y hy => ?_⟩, fun x hx => ?_⟩
        · obtain ⟨k, a, b⟩ := c2 x hx
          rw [List.mem_singleton.mp hy, a]; show k < m + 1; omega
        · rcases List.mem_append.mp hx with hx | hx
          · exact c1.ok x hx
          · rw [List.mem_singleton.mp hx]; exact ⟨Nat.le_refl _, Nat.le_refl _⟩
      | tk y => exact c1
    · rw [if_neg hk]; exact t.up
theorem filt1 {α : Type} (p : α → Bool) (s : α) : [s].filter p = if p s = true then [s] else [] := by rw [List.filter_cons]; rfl
def nonL (d : D) : List D := if isNonD d = true then [] else [d]
theorem part_eq {n m : Nat} (hm : m ≤ n) : ∀ (k : Nat) (l : List Std), l.length = k → OJ n l → (l.filter (inS n m)).map (fun s => D.tup s.ws) = nonL (wt l m) := by
  intro k
  induction k with
  | zero => intro l h _; rw [List.length_eq_zero_iff.mp h]; rfl
  | succ k ih =>
    intro l h hO
    have hne : l ≠ [] := by rintro rfl; cases h
    obtain ⟨r, s, rfl⟩ := last_of hne
    have hr : r.length = k := by rw [List.length_append] at h; exact Nat.succ.inj h
    obtain ⟨p1, p2, p3⟩ := List.pairwise_append.mp hO.pw
    have hw : wt (r ++ [s]) m = if (s.b : Int) ≤ (m : Int) then (match s.e with | none => .tup s.ws | some j => if (m : Int) ≤ (j : Int) then .tup s.ws else .non) else wt r m := by
      unfold wt; rw [List.reverse_append]; rfl
    rw [List.filter_append, List.map_append, hw]
    by_cases hb : s.b ≤ m
    · rw [if_pos (show (s.b : Int) ≤ (m : Int) by omega)]
      have e0 : r.filter (inS n m) = [] := by
        rw [List.filter_eq_nil_iff]
        intro x hx q
        have h1 := p3 x hx s (List.mem_singleton.mpr rfl)
        unfold inS at q
        rw [Bool.and_eq_true] at q
        have h2 := of_decide_eq_true q.2
        omega
      rw [e0, List.map_nil, List.nil_append, filt1]
      unfold inS
      rw [decide_eq_true hb, Bool.true_and]
      cases q : s.e with
      | none =>
        rw [show decide (m ≤ (none : Option Nat).getD n) = true from decide_eq_true hm]; rfl
      | some j =>
        dsimp only
        by_cases hj : m ≤ j
        · rw [show decide (m ≤ (some j).getD n) = true from decide_eq_true hj, if_pos (show (m : Int) ≤ (j : Int) by omega)]; rfl
        · rw [show decide (m ≤ (some j).getD n) = false from decide_eq_false hj, if_neg (show ¬ (m : Int) ≤ (j : Int) by omega)]; rfl
    · rw [if_neg (show ¬ (s.b : Int) ≤ (m : Int) by omega)]
      have e1 : [s].filter (inS n m) = [] := by
        rw [filt1]
        unfold inS
        rw [decide_eq_false hb, Bool.false_and]; rfl
      rw [e1, List.map_nil, List.append_nil]
      exact ih r hr ⟨p1, fun x hx => hO.ok x (List.mem_append_left _ hx)⟩
def part (n : Nat) (z : Str) (l : List Std) (m : Nat) : List D := (l.filter (inS n m)).map fun s => D.tup [.str z, .tup s.ws]
theorem rws_part (dd : List Dd) (m : Nat) (hm : m ≤ dd.length) (l : List Str) (z : Str) : rws dd m (l ++ [z]) = rws dd m l ++ part dd.length z (sts dd z) m := by
  rw [rws_snoc]
  congr 1
  have h := part_eq hm _ (sts dd z) rfl (sts_oj _ dd z rfl)
  rw [wt_thn _ dd z m rfl hm] at h
  have e : part dd.length z (sts dd z) m = (((sts dd z).filter (inS dd.length m)).map fun s => D.tup s.ws).map fun d => D.tup [.str z, d] := by
    unfold part; rw [List.map_map]; rfl
  rw [e, h]
  unfold nonL
  cases isNonD (thn z (dd.take m)) <;> rfl
theorem part_snoc (n : Nat) (z : Str) (l : List Std) (s : Std) (m : Nat) : part n z (l ++ [s]) m = part n z l m ++ if s.b ≤ m ∧ m ≤ s.e.getD n then [.tup [.str z, .tup s.ws]] else [] := by
  unfold part
  rw [List.filter_append, List.map_append]
  congr 1
  rw [filt1]
  unfold inS
  by_cases h : s.b ≤ m ∧ m ≤ s.e.getD n
  · rw [if_pos h, decide_eq_true h.1, decide_eq_true h.2]; rfl
  · rw [if_neg h]
    by_cases h1 : s.b ≤ m
    · rw [decide_eq_true h1, decide_eq_false fun q => h ⟨h1, q⟩]; rfl
    · rw [decide_eq_false h1]; rfl
theorem part_len (n : Nat) (z : Str) (l : List Std) (m : Nat) : (part n z l m).length ≤ l.length := by
  unfold part; rw [List.length_map]; exact List.length_filter_le _ _
def bhd (n : Nat) (l : List Std) (j : Nat) : Int := match (l.take j).getLast? with
  | none => -1
  | some s => (s.e.getD n : Nat)
theorem bhd_snoc {n : Nat} {l : List Std} {j : Nat} {s : Std} (h : l[j]? = some s) : bhd n l (j + 1) = (s.e.getD n : Nat) := by
  unfold bhd; rw [take_snoc h, List.getLast?_concat]
theorem bhd_lt {n : Nat} {l : List Std} (hO : OJ n l) {j : Nat} {s : Std} (h : l[j]? = some s) : bhd n l j < (s.b : Nat) := by
  unfold bhd
  cases q : (l.take j).getLast? with
  | none => show (-1 : Int) < _; omega
  | some u =>
    have hp : (l.take (j + 1)).Pairwise _ := hO.pw.sublist (List.take_sublist _ _)
    rw [take_snoc h] at hp
    have := (List.pairwise_append.mp hp).2.2 u (List.mem_of_getLast? q) s (List.mem_singleton.mpr rfl)
    show ((u.e.getD n : Nat) : Int) < _
    omega
def Kl (ls : List Addr) (S S' : Sto) : Prop := ∀ b c, S b = some c → b ∉ ls → S' b = some c
theorem Kl.refl (ls : List Addr) (S : Sto) : Kl ls S S := fun b c h _ => h
theorem Kl.trans {ls : List Addr} {S S1 S2 : Sto} (a : Kl ls S S1) (b : Kl ls S1 S2) : Kl ls S S2 := fun p c h n => b p c (a p c h n) n
theorem sub_kl {ls : List Addr} {S S' : Sto} (h : Sub S S') : Kl ls S S' := fun b c e _ => h b c e
theorem Kl.set {ls : List Addr} {S : Sto} {l : Addr} {c : Ce} (hl : l ∈ ls) : Kl ls S (S.set l c) := fun b c' e n => by
  rw [sset_ne (show b ≠ l by rintro rfl; exact n hl)]; exact e
theorem nd_get {ls : List Addr} (nd : ls.Nodup) {i j : Nat} {l : Addr} (h1 : ls[i]? = some l) (h2 : ls[j]? = some l) : i = j :=
  (List.getElem?_inj (List.getElem?_eq_some_iff.mp h1).1 nd).mp (h1.trans h2.symm)
theorem LL.app {S : Sto} {ls : List Addr} {n : Nat} {g g' : Nat → List D} (h : LL S ls (rowsF n g)) (nd : ls.Nodup) {m0 : Nat} {l : Addr} {x : D} (hl : ls[m0]? = some l) (hg : ∀ m, m < n + 1 → g' m = if m = m0 then g m0 ++ [x] else g m) : LL (S.set l (.lst (g m0 ++ [x]))) ls (rowsF n g') := by
  refine ⟨by rw [h.len, rowsF_len, rowsF_len], fun i l' r a b => ?_⟩
  obtain ⟨hi, rfl⟩ := rowsF_get b
  rw [hg i hi]
  by_cases e : i = m0
  · subst e
    rw [hl] at a
    cases a
    rw [if_pos rfl]; exact sset_same
  · rw [if_neg e, sset_ne (show l' ≠ l by rintro rfl; exact e (nd_get nd a hl))]
    refine h.at_ i l' _ a ?_
    unfold rowsF
    rw [List.getElem?_map, List.getElem?_range hi]; rfl
theorem atI_nat {α : Type} {xs : List α} {i : Nat} (h : i < xs.length) : atI xs ((i : Nat) : Int) = xs[i]? := by
  unfold atI ixN
  rw [if_pos (by omega), if_pos (by omega)]; rfl
theorem rowsF_congr {n : Nat} {g g' : Nat → List D} (h : ∀ m, m < n + 1 → g m = g' m) : rowsF n g = rowsF n g' := by
  unfold rowsF
  exact List.map_congr_left fun m hm => h m (List.mem_range.mp hm)
end My
namespace My
open PySem L2
section
variable {P : Program} {w : World} {K : PySem.W.Frag} {mg : Str → Option Value} {base : Heap} {t : Adr}
theorem sorted_one {l m : List Str} (p1 : l.Perm KS) (o1 : PyProof.Rows.sortedS l = true) (p2 : m.Perm KS) (o2 : PyProof.Rows.sortedS m = true) : l = m :=
  sorted_eq (sorted_le o1) (sorted_le o2) (p1.nodup_iff.mpr KS_nodup) (p2.nodup_iff.mpr KS_nodup) fun z => by rw [p1.mem_iff, p2.mem_iff]
def spBy (t : Adr) : SpD := fun ds S R _ => ∃ (a : Addr) (F : List Addr) (cs : List (Str × Str)) (rs : Rs') (dd : List Dd) (s2 : List Str) (ky : Addr), ds = [.ref a, .ref ky] ∧ ShAt t.c_Shelf S a F cs (dd.map ddD) rs ∧ S ky = some (.lst (KS.map D.str)) ∧ RJ rs dd ∧ dd.length ≤ 100 ∧ s2.Perm KS ∧ PyProof.Rows.sortedS s2 = true ∧
  ∀ ls p S2, Sub S S2 → S2 p = some (.lst (ls.map D.ref)) → LL S2 ls (rowsF dd.length fun m => rws dd m s2) → R (.ref p) S2
theorem ok_by (T : Txt K mg t) : FnD P w K mg base 4 t.f_l_by_standings t.d_l_by_standings ["_law_shelf", "_law_keys"] (spBy t) := by
  have G_Shelf_now : FnD P w K mg base 1 t.f_Shelf_now t.d_Shelf_now ["self"] (spNow t.c_Shelf) := ok_now T
  have G_Shelf_standings_of : FnD P w K mg base 3 t.f_Shelf_standings_of t.d_Shelf_standings_of ["self", "key"] (spStand t.c_Shelf) := ok_standings_of T
  refine T.F_l_by_standings.ok sc_l_by_standings (fun ds S R Z ⟨_, _, _, _, _, _, _, e, _⟩ => by rw [e]; rfl) (fun cdv A outer s H E ds S R Z hr ⟨a, F, cs, rs, dd, s2, ky, e, hS, hky, hJ, hl, hp, ho, q⟩ => ?_)
  subst e
  obtain ⟨ld, lr, ra, h, hF, hrs⟩ := id hS
  have hdl : (dd.map ddD).length = dd.length := List.length_map _
  have e1 : (((dd.map ddD).length : Nat) : Int) + 1 = ((dd.length + 1 : Nat) : Int) := by rw [hdl]; omega
  have e2 : ((((dd.map ddD).length : Nat) : Int) + 1).toNat = dd.length + 1 := by rw [e1]; rfl
  have hs2l : s2.length = 10 := by rw [hp.length_eq]; rfl
  refine ⟨_, (sc (stc (i := 2) (N := ["_law_moment"]) (src := [none]) sc_l_by_standings.nd (csc (defScope s_l_by_standings) ["_law_shelf", "_law_keys", "_law_found", "_law_key_here", "_law_behind", "_law_begin", "_law_end", "_law_worths_here", "_law_moment"] rfl rfl (by decide +kernel)) (ir1 T.n_range (ac (bo o_add hr.units (cme0 (dv 0) T.cl_Shelf T.me_Shelf_now (G_Shelf_now.mono (by decide)) hr T.b_Shelf_now d0) di) an)) (cg1 (show (["_law_moment"] : List Str).Nodup by decide +kernel)) (gx_name rfl) gd_name (fun _ _ _ _ _ => if0) (fun _ _ _ _ _ => (elst an))) (sc (scf (sfo (il (cb c_sortedL T.n_sorted bt_sorted (ac (dv 1) an))) (gn (i := 3) sc_l_by_standings.nd) (sc (st_ (i := 4) sc_l_by_standings.nd (eneg di)) (s1 (sfo (il (cme (dv 0) T.cl_Shelf T.me_Shelf_standings_of (G_Shelf_standings_of.mono (by decide)) hr T.b_Shelf_standings_of d0 (ac (dv 3) an))) (gt (n := 3) (gc (gn (i := 5) sc_l_by_standings.nd) (gc (gn (i := 6) sc_l_by_standings.nd) (gc (gn (i := 7) sc_l_by_standings.nd) g0)))) (sc (si (twd (twor (tcm o_le hr.units (dv 5) (dv 4)) (tw1 (twd (twand (tcm o_isnt hr.units (dv 6) dn) (tw1 (tcm o_lt hr.units (dv 6) (dv 5)))))))) (s1 (sr dn)) s0) (sc (st_ (i := 4) sc_l_by_standings.nd (efo (ix hr.units (elst (ac (dv 6) (ac (cme0 (dv 0) T.cl_Shelf T.me_Shelf_now (G_Shelf_now.mono (by decide)) hr T.b_Shelf_now d0) an))) (ct c_int T.n_int bt_int (ac (cm o_is hr.units (dv 6) dn) an))))) (s1 (sfo (ir2 T.n_range (ac (dv 5) (ac (bo o_add hr.units (dv 4) di) an))) (gn (i := 8) sc_l_by_standings.nd) (s1 (se (bm PySem.F.plainAttrs_list PySem.F.slot_list_append PySem.F.type_list_append m_append (ix hr.units (dv 2) (dv 8)) (ac (etup (ac (dv 3) (ac (dv 7) an))) an))))))))))))) (s1 (sr (dv 2))))), ?_⟩
  refine ⟨_, rfl, a, _, rfl, h.ins, rfl, a, F, cs, _, rs, rfl, hS, _, rfl, ?_, ?_, ?_⟩
  · rw [e1]; omega
  · rw [e1]; omega
  rw [e2]
  refine comp_lists (fun _ => []) (fun _ _ => trivial) (by show (rngD 0 (dd.length + 1)).length ≤ 1000; rw [rngD_len]; omega) (fun d hd S' hs Q hQ => ⟨sm (show 0 ≤ 1000 by decide), fun p hp => hQ p _ hp (.new hp) sset_same⟩) fun ls S1 hs1 hL0 hn hfr lf hlf => ?_
  have hL0 : LL S1 ls ((rngD 0 (dd.length + 1)).map _) := hL0
  rw [rng_rows] at hL0
  have hlfl : lf ∉ ls := fun m => by obtain ⟨r, hr⟩ := hL0.mem m; rw [hlf] at hr; cases hr
  have hL1 := hL0.sub (.new (c := .lst (ls.map D.ref)) hlf)
  have hlf1 : (S1.set lf (.lst (ls.map D.ref))) lf = some (.lst (ls.map D.ref)) := sset_same
  have hs1 : Sub S (S1.set lf (.lst (ls.map D.ref))) := hs1.trans (.new hlf)
  generalize S1.set lf (.lst (ls.map D.ref)) = S2 at hL1 hlf1 hs1 ⊢
  have hll : ls.length = dd.length + 1 := by rw [hL1.len, rowsF_len]
  have hsub : ∀ {S'}, Kl ls S2 S' → Sub S S' := fun hK b c hb => hK b c (hs1 b c hb) fun m => by have := hfr b m; rw [hb] at this; cases this
  refine ⟨fun σ' S' => ∃ o3 o4 o5 o6 o7 o8, σ' = [some (.ref a), some (.ref ky), some (.ref lf), o3, o4, o5, o6, o7, o8] ∧ Sub S S' ∧ S' lf = some (.lst (ls.map D.ref)) ∧ LL S' ls (rowsF dd.length fun m => rws dd m s2), ?_, ?_⟩
  · refine ⟨_, rfl, _, KS, rfl, hs1 _ _ hky, (by decide), fun ss hp' ho' pk hpk => ⟨_, sset_same, ?_⟩⟩
    obtain rfl : ss = s2 := sorted_one hp' ho' hp ho
    have hpkl : pk ∉ ls := fun m => by obtain ⟨r, hr⟩ := hL1.mem m; rw [hpk] at hr; cases hr
    have hL3 := hL1.sub (.new (c := .lst (ss.map D.str)) hpk)
    have hs3 : Sub S2 (S2.set pk (.lst (ss.map D.str))) := .new hpk
    have hpk3 : (S2.set pk (.lst (ss.map D.str))) pk = some (.lst (ss.map D.str)) := sset_same
    generalize S2.set pk (.lst (ss.map D.str)) = S3 at hL3 hs3 hpk3 ⊢
    refine ⟨fun i σ' S' => ∃ o3 o4 o5 o6 o7 o8, σ' = [some (.ref a), some (.ref ky), some (.ref lf), o3, o4, o5, o6, o7, o8] ∧ Kl ls S3 S' ∧ LL S' ls (rowsF dd.length fun m => rws dd m (ss.take i)), ?_, ?_, ?_, ?_⟩
    · exact ⟨none, none, none, none, none, none, rfl, .refl _ _, hL3⟩
    · rintro i σ' S' ⟨_, _, _, _, _, _, _, hK, _⟩
      exact hK _ _ hpk3 hpkl
    · rintro i d σ' S' hd ⟨o3, o4, o5, o6, o7, o8, rfl, hK, hL⟩
      have hd : (ss.map D.str)[i]? = some d := hd
      rw [List.getElem?_map] at hd
      obtain ⟨z, hz0, rfl⟩ := Option.map_eq_some_iff.mp hd
      have hz : z ∈ KS := hp.mem_iff.mp (List.mem_of_getElem? hz0)
      have hi : i < ss.length := (List.getElem?_eq_some_iff.mp hz0).1
      have hsS := hsub ((sub_kl hs3).trans hK)
      refine ⟨_, rfl, _, rfl, a, _, rfl, hsS _ _ h.ins, rfl, _, rfl, a, F, cs, _, rs, .str z, rfl, hS.sub hsS, gt_KS hz, fun pt hpt => ⟨_, sset_same, ?_⟩⟩
      rw [stAt_KS hJ hz]
      have hO := sts_oj _ dd z rfl
      have hsl := sts_len _ dd z rfl
      have hnx : ∀ m, m ≤ dd.length → rws dd m (ss.take (i + 1)) = rws dd m (ss.take i) ++ part dd.length z (sts dd z) m := fun m hm => by rw [take_snoc hz0, rws_part dd m hm]
      generalize sts dd z = l at hO hsl hnx ⊢
      have hptl : pt ∉ ls := fun m => by obtain ⟨r, hr⟩ := hL.mem m; rw [hpt] at hr; cases hr
      have hL4 := hL.sub (.new (c := .lst (l.map stdD)) hpt)
      have hK4 : Kl ls S3 (S'.set pt (.lst (l.map stdD))) := hK.trans (sub_kl (.new hpt))
      have hpt4 : (S'.set pt (.lst (l.map stdD))) pt = some (.lst (l.map stdD)) := sset_same
      generalize S'.set pt (.lst (l.map stdD)) = S4 at hL4 hK4 hpt4 ⊢
      refine ⟨fun j σ' S' => ∃ o5 o6 o7 o8, σ' = [some (.ref a), some (.ref ky), some (.ref lf), some (.str z), some (.int (bhd dd.length l j)), o5, o6, o7, o8] ∧ Kl ls S4 S' ∧ LL S' ls (rowsF dd.length fun m => rws dd m (ss.take i) ++ part dd.length z (l.take j) m), ?_, ?_, ?_, ?_⟩
      · exact ⟨o5, o6, o7, o8, rfl, .refl _ _, by show LL S4 ls (rowsF dd.length fun m => rws dd m (ss.take i) ++ []); simp only [List.append_nil]; exact hL4⟩
      · rintro j σ' S'' ⟨_, _, _, _, _, hK5, _⟩
        exact hK5 _ _ hpt4 hptl
      · rintro j d σ' S'' hd ⟨o5, o6, o7, o8, rfl, hK5, hL5⟩
        have hd : (l.map stdD)[j]? = some d := hd
        rw [List.getElem?_map] at hd
        obtain ⟨sd, hs0, rfl⟩ := Option.map_eq_some_iff.mp hd
        have hb1 := bhd_lt hO hs0
        obtain ⟨hb2, hb3⟩ := hO.ok sd (List.mem_of_getElem? hs0)
        have hbn := bhd_snoc (n := dd.length) hs0
        have hnxj : ∀ m, part dd.length z (l.take (j + 1)) m = part dd.length z (l.take j) m ++ if sd.b ≤ m ∧ m ≤ sd.e.getD dd.length then [.tup [.str z, .tup sd.ws]] else [] := fun m => by rw [take_snoc hs0, part_snoc]
        have hpl : ∀ m, (rws dd m (ss.take i) ++ part dd.length z (l.take j) m).length ≤ 200 := fun m => by
          rw [List.length_append]
          have h1 := rws_len dd m (ss.take i)
          have h2 := part_len dd.length z (l.take j) m
          rw [List.length_take] at h1 h2
          omega
        have hK6 := (hK4.trans hK5)
        have hsS5 := hsub ((sub_kl hs3).trans hK6)
        have hlf5 : S'' lf = some (.lst (ls.map D.ref)) := hK6 _ _ (hs3 _ _ hlf1) hlfl
        have hml : (l.map stdD).length = l.length := List.length_map _
        -- the moments of one standing
        refine ⟨_, rfl, rfl, _, _, rfl, _, _, rfl, _, _, rfl, rfl, ?_⟩
        refine ⟨_, rfl, _, rfl, _, rfl, ?_⟩
        refine ifb (fun hx => ?_) (fun _ => ?_)
        · have hx : ((sd.b : Nat) : Int) ≤ bhd dd.length l j := of_decide_eq_true hx
          omega
        refine ⟨_, rfl, _, rfl, ?_⟩
        cases qe : sd.e with
        | none =>
          refine iteF ?_
          refine ⟨_, rfl, _, rfl, a, _, rfl, hsS5 _ _ h.ins, rfl, a, F, cs, _, rs, rfl, hS.sub hsS5, sm (show 2 ≤ 1000 by decide), fun pb hpb => ⟨_, rfl, .inr ⟨_, rfl, _, _, sset_same, rfl, S'', .new hpb, ?_⟩⟩⟩
          have hE : (dd.map ddD).length = sd.e.getD dd.length := by rw [qe, hdl]; rfl
          refine ⟨_, rfl, _, rfl, ((sd.b : Nat) : Int), (((dd.map ddD).length : Nat) : Int) + 1, rfl, ⟨by omega, by omega, by omega, by omega⟩, ?_⟩
          refine ⟨fun k σ' S' => ∃ o8, σ' = [some (.ref a), some (.ref ky), some (.ref lf), some (.str z), some (.int ((dd.map ddD).length : Nat)), some (.int (sd.b : Nat)), some (eD none), some (.tup sd.ws), o8] ∧ Kl ls S4 S' ∧ LL S' ls (rowsF dd.length fun m => (rws dd m (ss.take i) ++ part dd.length z (l.take j) m) ++ if sd.b ≤ m ∧ m < sd.b + k then [.tup [.str z, .tup sd.ws]] else []), ?_, fun _ _ _ _ => trivial, ?_, ?_⟩
          · refine ⟨o8, rfl, hK5, ?_⟩
            rw [rowsF_congr (g' := fun m => rws dd m (ss.take i) ++ part dd.length z (l.take j) m) fun m _ => by rw [if_neg (by omega), List.append_nil]]
            exact hL5
          · rintro k d σ' S7 hd ⟨o8', rfl, hK7, hL7⟩
            have hd : (rngD ((sd.b : Nat) : Int) ((((dd.map ddD).length : Nat) : Int) + 1 - ((sd.b : Nat) : Int)).toNat)[k]? = some d := hd
            obtain ⟨hk, rfl⟩ := rngD_get hd
            have hk2 : sd.b + k ≤ (dd.map ddD).length := by omega
            have hcast : ((sd.b : Nat) : Int) + (k : Nat) = ((sd.b + k : Nat) : Int) := by omega
            have hlt : sd.b + k < ls.length := by omega
            have hlm : ls[sd.b + k]? = some (ls[sd.b + k]'hlt) := List.getElem?_eq_getElem hlt
            generalize ls[sd.b + k]'hlt = lm at hlm
            have hat : atI (ls.map D.ref) (((sd.b : Nat) : Int) + (k : Nat)) = some (.ref lm) := by rw [hcast, atI_nat (by rw [List.length_map]; omega), List.getElem?_map, hlm]; rfl
            have hcell : S7 lm = some (.lst ((rws dd (sd.b + k) (ss.take i) ++ part dd.length z (l.take j) (sd.b + k)) ++ if sd.b ≤ sd.b + k ∧ sd.b + k < sd.b + k then [.tup [.str z, .tup sd.ws]] else [])) := hL7.at_ (sd.b + k) lm _ hlm (by unfold rowsF; rw [List.getElem?_map, List.getElem?_range (by omega)]; rfl)
            have hlf7 : S7 lf = some (.lst (ls.map D.ref)) := (hK4.trans hK7) _ _ (hs3 _ _ hlf1) hlfl
            refine ⟨_, rfl, _, rfl, _, _, hlf7, hat, ⟨rfl, _, hcell⟩, _, rfl, _, rfl, sm (show 2 ≤ 1000 by decide), lm, _, _, rfl, rfl, hcell, bg ?_, _, rfl, hK7.trans (Kl.set (List.mem_of_getElem? hlm)), ?_⟩
            · have := hpl (sd.b + k)
              rw [List.length_append]
              have h2 : (if sd.b ≤ sd.b + k ∧ sd.b + k < sd.b + k then [D.tup [.str z, .tup sd.ws]] else []).length ≤ 1 := by split <;> simp
              omega
            · refine hL7.app hn hlm fun m hm => ?_
              by_cases hm0 : m = sd.b + k
              · rw [if_pos hm0, hm0, if_pos (by omega), if_neg (by omega), List.append_nil]
              · rw [if_neg hm0]
                by_cases hm1 : sd.b ≤ m ∧ m < sd.b + k
                · rw [if_pos (by omega), if_pos hm1]
                · rw [if_neg (by omega), if_neg hm1]
          · rintro σ' S7 ⟨o8', rfl, hK7, hL7⟩
            refine ⟨_, _, _, _, by rw [hbn, ← hE], hK7, ?_⟩
            rw [rowsF_congr (g' := fun m => (rws dd m (ss.take i) ++ part dd.length z (l.take j) m) ++ if sd.b ≤ m ∧ m < sd.b + ((((dd.map ddD).length : Nat) : Int) + 1 - ((sd.b : Nat) : Int)).toNat then [.tup [.str z, .tup sd.ws]] else []) fun m hm => ?_]
            · rw [show (⟨rngD ((sd.b : Nat) : Int) ((((dd.map ddD).length : Nat) : Int) + 1 - ((sd.b : Nat) : Int)).toNat, fun _ => True⟩ : ItD).xs.length = _ from rngD_len] at hL7
              exact hL7
            · rw [hnxj, List.append_assoc]
              congr 2
              by_cases hm1 : sd.b ≤ m ∧ m ≤ sd.e.getD dd.length
              · rw [if_pos hm1, if_pos (by omega)]
              · rw [if_neg hm1, if_neg (by omega)]
        | some ke =>
          refine iteT ⟨_, rfl, _, rfl, _, rfl, ?_⟩
          have hke : ke = sd.e.getD dd.length := by rw [qe]; rfl
          refine ifb (fun hx => ?_) (fun _ => ?_)
          · have hx : ((ke : Nat) : Int) < ((sd.b : Nat) : Int) := of_decide_eq_true hx
            omega
          refine ⟨_, rfl, _, rfl, a, _, rfl, hsS5 _ _ h.ins, rfl, a, F, cs, _, rs, rfl, hS.sub hsS5, sm (show 2 ≤ 1000 by decide), fun pb hpb => ⟨_, rfl, .inr ⟨_, rfl, _, _, sset_same, rfl, S'', .new hpb, ?_⟩⟩⟩
          have hE : ke = sd.e.getD dd.length := hke
          refine ⟨_, rfl, _, rfl, ((sd.b : Nat) : Int), ((ke : Nat) : Int) + 1, rfl, ⟨by omega, by omega, by omega, by omega⟩, ?_⟩
          refine ⟨fun k σ' S' => ∃ o8, σ' = [some (.ref a), some (.ref ky), some (.ref lf), some (.str z), some (.int (ke : Nat)), some (.int (sd.b : Nat)), some (eD (some ke)), some (.tup sd.ws), o8] ∧ Kl ls S4 S' ∧ LL S' ls (rowsF dd.length fun m => (rws dd m (ss.take i) ++ part dd.length z (l.take j) m) ++ if sd.b ≤ m ∧ m < sd.b + k then [.tup [.str z, .tup sd.ws]] else []), ?_, fun _ _ _ _ => trivial, ?_, ?_⟩
          · refine ⟨o8, rfl, hK5, ?_⟩
            rw [rowsF_congr (g' := fun m => rws dd m (ss.take i) ++ part dd.length z (l.take j) m) fun m _ => by rw [if_neg (by omega), List.append_nil]]
            exact hL5
          · rintro k d σ' S7 hd ⟨o8', rfl, hK7, hL7⟩
            have hd : (rngD ((sd.b : Nat) : Int) (((ke : Nat) : Int) + 1 - ((sd.b : Nat) : Int)).toNat)[k]? = some d := hd
            obtain ⟨hk, rfl⟩ := rngD_get hd
            have hk2 : sd.b + k ≤ ke := by omega
            have hcast : ((sd.b : Nat) : Int) + (k : Nat) = ((sd.b + k : Nat) : Int) := by omega
            have hlt : sd.b + k < ls.length := by omega
            have hlm : ls[sd.b + k]? = some (ls[sd.b + k]'hlt) := List.getElem?_eq_getElem hlt
            generalize ls[sd.b + k]'hlt = lm at hlm
            have hat : atI (ls.map D.ref) (((sd.b : Nat) : Int) + (k : Nat)) = some (.ref lm) := by rw [hcast, atI_nat (by rw [List.length_map]; omega), List.getElem?_map, hlm]; rfl
            have hcell : S7 lm = some (.lst ((rws dd (sd.b + k) (ss.take i) ++ part dd.length z (l.take j) (sd.b + k)) ++ if sd.b ≤ sd.b + k ∧ sd.b + k < sd.b + k then [.tup [.str z, .tup sd.ws]] else [])) := hL7.at_ (sd.b + k) lm _ hlm (by unfold rowsF; rw [List.getElem?_map, List.getElem?_range (by omega)]; rfl)
            have hlf7 : S7 lf = some (.lst (ls.map D.ref)) := (hK4.trans hK7) _ _ (hs3 _ _ hlf1) hlfl
            refine ⟨_, rfl, _, rfl, _, _, hlf7, hat, ⟨rfl, _, hcell⟩, _, rfl, _, rfl, sm (show 2 ≤ 1000 by decide), lm, _, _, rfl, rfl, hcell, bg ?_, _, rfl, hK7.trans (Kl.set (List.mem_of_getElem? hlm)), ?_⟩
            · have := hpl (sd.b + k)
              rw [List.length_append]
              have h2 : (if sd.b ≤ sd.b + k ∧ sd.b + k < sd.b + k then [D.tup [.str z, .tup sd.ws]] else []).length ≤ 1 := by split <;> simp
              omega
            · refine hL7.app hn hlm fun m hm => ?_
              by_cases hm0 : m = sd.b + k
              · rw [if_pos hm0, hm0, if_pos (by omega), if_neg (by omega), List.append_nil]
              · rw [if_neg hm0]
                by_cases hm1 : sd.b ≤ m ∧ m < sd.b + k
                · rw [if_pos (by omega), if_pos hm1]
                · rw [if_neg (by omega), if_neg hm1]
          · rintro σ' S7 ⟨o8', rfl, hK7, hL7⟩
            refine ⟨_, _, _, _, by rw [hbn, ← hE], hK7, ?_⟩
            rw [rowsF_congr (g' := fun m => (rws dd m (ss.take i) ++ part dd.length z (l.take j) m) ++ if sd.b ≤ m ∧ m < sd.b + (((ke : Nat) : Int) + 1 - ((sd.b : Nat) : Int)).toNat then [.tup [.str z, .tup sd.ws]] else []) fun m hm => ?_]
            · rw [show (⟨rngD ((sd.b : Nat) : Int) (((ke : Nat) : Int) + 1 - ((sd.b : Nat) : Int)).toNat, fun _ => True⟩ : ItD).xs.length = _ from rngD_len] at hL7
              exact hL7
            · rw [hnxj, List.append_assoc]
              congr 2
              by_cases hm1 : sd.b ≤ m ∧ m ≤ sd.e.getD dd.length
              · rw [if_pos hm1, if_pos (by omega)]
              · rw [if_neg hm1, if_neg (by omega)]
      · rintro σ' S'' ⟨o5', o6', o7', o8', rfl, hK5, hL5⟩
        refine ⟨_, _, _, _, _, _, rfl, hK4.trans hK5, ?_⟩
        rw [show (⟨l.map stdD, fun S => SqD S (.ref pt) (l.map stdD)⟩ : ItD).xs.length = l.length from List.length_map _, List.take_length] at hL5
        rw [rowsF_congr (g' := fun m => rws dd m (ss.take i) ++ part dd.length z l m) fun m hm => hnx m (by omega)]
        exact hL5
    · rintro σ' S' ⟨o3, o4, o5, o6, o7, o8, rfl, hK, hL⟩
      rw [show (⟨ss.map D.str, fun S => SqD S (.ref pk) (ss.map D.str)⟩ : ItD).xs.length = ss.length from List.length_map _, List.take_length] at hL
      exact fo ⟨_, _, _, _, _, _, rfl, hsub ((sub_kl hs3).trans hK), hK _ _ (hs3 _ _ hlf1) hlfl, hL⟩
  · rintro σ' S' ⟨o3, o4, o5, o6, o7, o8, rfl, hs', hlf', hL'⟩
    exact ⟨_, rfl, fo (q ls lf S' hs' hlf' hL')⟩
end
end My
namespace My
open PySem L2
def kstep (kn : Kn) : Dd → Kn
  | .go _ z ws => kput kn z ws
  | .tk z => kdel kn z
def knF (dd : List Dd) : Kn := dd.foldl kstep []
theorem knF_snoc (dd : List Dd) (e : Dd) : knF (dd ++ [e]) = kstep (knF dd) e := by unfold knF; rw [List.foldl_append]; rfl
theorem KnD.step {kn kn' : Kn} {e : Dd} (h : KnD kn (ddD e) kn') : kn' = kstep kn e := by
  cases e with
  | go n z ws => rcases h with ⟨n', y, vs, _, e1, e2⟩ | ⟨y, _, e1, _⟩ <;> cases e1; exact e2
  | tk z => rcases h with ⟨n', y, vs, _, e1, e2⟩ | ⟨y, _, e1, e2⟩ <;> cases e1; exact e2
def Rn (cs : List (Str × Str)) (dd : List Dd) : Prop := ∀ (i : Nat) (e : Dd), dd[i]? = some e → GD cs (knF (dd.take i)) (ddD e)
theorem Rn.nil (cs : List (Str × Str)) : Rn cs [] := fun i e h => (by cases h)
theorem Rn.snoc {cs : List (Str × Str)} {dd : List Dd} {e : Dd} (h : Rn cs dd) (g : GD cs (knF dd) (ddD e)) : Rn cs (dd ++ [e]) := fun i x hx => by
  by_cases hi : i < dd.length
  · rw [List.getElem?_append_left hi] at hx
    rw [List.take_append_of_le_length (by omega)]
    exact h i x hx
  · have hl := (List.getElem?_eq_some_iff.mp hx).1
    rw [List.length_append] at hl
    have e : i = dd.length := by have : dd.length + 1 > i := hl; omega
    subst e
    rw [List.getElem?_append_right (Nat.le_refl _), Nat.sub_self] at hx
    cases hx
    rw [List.take_left]
    exact g
theorem ddD_inj {e e' : Dd} (h : ddD e = ddD e') : e = e' := by
  cases e <;> cases e' <;> cases h <;> rfl
def Far (S : Sto) (F : List Addr) (S' : Sto) : Prop := ∀ b c, S b = some c → b ∉ F ∧ S' b = some c
theorem Far.sub {S S' : Sto} {F : List Addr} (h : Far S F S') : Sub S S' := fun b c e => (h b c e).2
theorem Far.go {S S1 S2 : Sto} {F F' : List Addr} (h : Far S F S1) (k : Kps F F' S1 S2) : Far S F' S2 := fun b c e => k b c (h b c e).1 (h b c e).2
theorem KI.nil (cs : List (Str × Str)) : KI cs [] := ⟨List.nodup_nil, fun _ h => (nomatch h)⟩
theorem RJ.nil : RJ [] [] := ⟨fun z => rfl, fun r hr => (nomatch hr)⟩
section
variable {P : Program} {w : World} {K : PySem.W.Frag} {mg : Str → Option Value} {base : Heap} {t : Adr}
def spAgain (t : Adr) : SpD := fun ds S R _ => ∃ (a : Addr) (F : List Addr) (cs : List (Str × Str)) (rs : Rs') (dd : List Dd), ds = [.ref a, .tup (cs.map colD)] ∧ ShAt t.c_Shelf S a F cs (dd.map ddD) rs ∧ Gd cs ∧ Rn cs dd ∧ dd.length ≤ 100 ∧
  ∀ a' F' rs' S2, ShAt t.c_Shelf S2 a' F' cs (dd.map ddD) rs' → RJ rs' dd → Sub S S2 → R (.ref a') S2
theorem ok_again (T : Txt K mg t) : FnD P w K mg base 8 t.f_l_again t.d_l_again ["_law_shelf", "_law_columns_here"] (spAgain t) := by
  have G_Shelf___init__ : FnD P w K mg base 5 t.f_Shelf___init__ t.d_Shelf___init__ ["self", "columns"] _ := ok_init T
  have G_Shelf_history : FnD P w K mg base 1 t.f_Shelf_history t.d_Shelf_history ["self"] _ := ok_history T
  have G_l_does : FnD P w K mg base 7 t.f_l_does t.d_l_does ["_law_shelf", "_law_deed_here"] (Dos t) := (ok_does T).impD fun ds S R Z h => h.of
  refine T.F_l_again.ok sc_l_again (fun ds S R Z ⟨_, _, _, _, _, e, _⟩ => by rw [e]; rfl) (fun cdv A outer s H E ds S R Z hr ⟨a, F, cs, rs, dd, e, hS, hg, hRn, hl, q⟩ => ?_)
  subst e
  obtain ⟨ld, lr, ra, h, hF, hrs⟩ := id hS
  refine ⟨_, (sc (st_ (i := 2) sc_l_again.nd (mk T.mk_Shelf G_Shelf___init__ (hr.mono (by decide)) T.mg_Shelf T.b_Shelf___init__ d0 (ac (dv 1) an))) (sc (scf (sfo (il (cme0 (dv 0) T.cl_Shelf T.me_Shelf_history (G_Shelf_history.mono (by decide)) hr T.b_Shelf_history d0)) (gn (i := 3) sc_l_again.nd) (s1 (se (cf (G_l_does.mono (by decide)) hr T.mg_l_does T.k_l_does T.b_l_does d0 (ac (dv 2) (ac (dv 3) an))))))) (s1 (sr (dv 2))))), ?_⟩
  refine ⟨_, rfl, fun a' ha' => ⟨a', cs, rfl, hg, sset_same, fun S1 F1 hS1 hK1 => ⟨rfl, ?_⟩⟩⟩
  have far1 : Far S F1 S1 := fun b c hb => by
    have h2 : b ≠ a' := sne hb ha'
    exact hK1 b c (fun m => h2 (List.mem_singleton.mp m)) ((sset_ne h2).trans hb)
  refine ⟨fun σ' S' => ∃ o3 F' rs', σ' = [some (.ref a), some (.tup (cs.map colD)), some (.ref a'), o3] ∧ ShAt t.c_Shelf S' a' F' cs (dd.map ddD) rs' ∧ RJ rs' dd ∧ Sub S S', ?_, ?_⟩
  · refine ⟨_, rfl, a, _, rfl, far1.sub _ _ h.ins, rfl, a, F, cs, _, rs, rfl, hS.sub far1.sub, fun p hp => ⟨_, sset_same, ?_⟩⟩
    refine ⟨fun i σ' S' => ∃ o3 F' rs', σ' = [some (.ref a), some (.tup (cs.map colD)), some (.ref a'), o3] ∧ ShAt t.c_Shelf S' a' F' cs ((dd.take i).map ddD) rs' ∧ RJ rs' (dd.take i) ∧ RI rs' (dd.take i).length (knF (dd.take i)) ∧ KI cs (knF (dd.take i)) ∧ Far S F' S' ∧ p ∉ F' ∧ S' p = some (.lst (dd.map ddD)), ?_, ?_, ?_, ?_⟩
    · exact ⟨none, F1, [], rfl, hS1.sub (.new hp), RJ.nil, RI.nil, KI.nil cs, fun b c hb => ⟨(far1 b c hb).1, (Sub.new hp) _ _ (far1 b c hb).2⟩, hS1.out hp, sset_same⟩
    · rintro i σ' S' ⟨_, _, _, _, _, _, _, _, _, _, hp'⟩
      exact hp'
    · rintro i d σ' S' hd ⟨o3, F', rs', rfl, hS', hJ', hR', hI', hF', hpF, hp'⟩
      have hd : (dd.map ddD)[i]? = some d := hd
      rw [List.getElem?_map] at hd
      obtain ⟨e, he, rfl⟩ := Option.map_eq_some_iff.mp hd
      have hi : i < dd.length := (List.getElem?_eq_some_iff.mp he).1
      have hG := hRn i e he
      obtain ⟨e', kn', ee, hge, hkd, hI2⟩ := hG.asDd hI'
      obtain rfl := ddD_inj ee
      have hkn : kn' = knF (dd.take (i + 1)) := by rw [take_snoc he, knF_snoc]; exact hkd.step
      refine ⟨_, rfl, _, rfl, does_good hS' hg hI' hR' hJ' (by rw [List.length_take]; omega) hG rfl hkd fun S4 F4 rs4 hS4 hK4 hR4 hJ4 => ?_⟩
      obtain ⟨f1, f2⟩ := hK4 _ _ hpF hp'
      rw [← take_snoc he] at hS4 hJ4
      rw [hkn] at hR4 hI2
      refine ⟨_, F4, rs4, rfl, hS4, hJ4, ?_, hI2, hF'.go hK4, f1, f2⟩
      rw [take_snoc he, List.length_append, ← take_snoc he]; exact hR4
    · rintro σ' S' ⟨o3, F', rs', rfl, hS', hJ', _, _, hF', _, _⟩
      rw [show (⟨dd.map ddD, fun S => SqD S (.ref p) (dd.map ddD)⟩ : ItD).xs.length = dd.length from List.length_map _, List.take_length] at hS' hJ'
      exact fo ⟨o3, F', rs', rfl, hS', hJ', hF'.sub⟩
  · rintro σ' S' ⟨o3, F', rs', rfl, hS', hJ', hs'⟩
    exact ⟨_, rfl, fo (q a' F' rs' S' hS' hJ' hs')⟩
end
end My
namespace My
open PySem L2
structure Hf where
  F : List Addr
  dd : List Dd
  rs : Rs'
structure HOk (t : Adr) (cs : List (Str × Str)) (S : Sto) (a lk : Addr) (h : Hf) : Prop where
  sh : ShAt t.c_Shelf S a h.F cs (h.dd.map ddD) h.rs
  k : S lk = some (.dct (kvK (knF h.dd)))
  ki : KI cs (knF h.dd)
  ri : RI h.rs h.dd.length (knF h.dd)
  rj : RJ h.rs h.dd
  rn : Rn cs h.dd
  gd : ∀ d ∈ h.dd, d.good
def bi (j : Bool) : Int := if j then 1 else 0
def two (a : Bool → Addr) : List D := [.ref (a false), .ref (a true)]
theorem at_two (a : Bool → Addr) (j : Bool) : atI (two a) (bi j) = some (.ref (a j)) := by cases j <;> rfl
def upH (hs : Bool → Hf) (j : Bool) (x : Hf) : Bool → Hf := fun i => if i = j then x else hs i
theorem upH_same {hs : Bool → Hf} {j : Bool} {x : Hf} : upH hs j x j = x := if_pos rfl
theorem upH_ne {hs : Bool → Hf} {i j : Bool} {x : Hf} (h : i ≠ j) : upH hs j x i = hs i := if_neg h
theorem b_other {i j : Bool} (h : i ≠ j) : i = !j := by cases i <;> cases j <;> first | rfl | exact absurd rfl h
theorem b_not (j : Bool) : (!j) ≠ j := by cases j <;> exact nofun
structure St2 (S0 : Sto) (t : Adr) (cs : List (Str × Str)) (s2 : List Str) (a lk : Bool → Addr) (lt : Addr) (fx : List (Addr × List D)) (told : List D) (hs : Bool → Hf) (S : Sto) : Prop where
  ok : ∀ j, HOk t cs S (a j) (lk j) (hs j)
  ap : ∀ j, ∀ b ∈ (hs j).F, b ∉ (hs (!j)).F
  kf : ∀ i j, lk i ∉ (hs j).F
  kn : ∀ i j, i ≠ j → lk i ≠ lk j
  fd : ∀ x ∈ fx, S x.1 = some (.lst x.2) ∧ (∀ j, x.1 ∉ (hs j).F) ∧ x.1 ≠ lt
  t : S lt = some (.lst told)
  tf : ∀ j, lt ∉ (hs j).F
  tl : ∀ d ∈ told, ∃ (j : Bool) (m : Nat) (l : Addr), d = .tup [.int (bi j), .int (m : Nat), .ref l] ∧ m ≤ (hs j).dd.length ∧ (l, rws (hs j).dd m s2) ∈ fx
  far : ∀ b c, S0 b = some c → S b = some c ∧ (∀ j, b ∉ (hs j).F ∧ b ≠ lk j) ∧ b ≠ lt
section
variable {t : Adr} {cs : List (Str × Str)} {s2 : List Str} {a lk : Bool → Addr} {lt : Addr} {fx : List (Addr × List D)} {told : List D} {hs : Bool → Hf} {S0 S S' : Sto}
theorem HOk.sub {a lk : Addr} {h : Hf} (o : HOk t cs S a lk h) (b : Sub S S') : HOk t cs S' a lk h := ⟨o.sh.sub b, b _ _ o.k, o.ki, o.ri, o.rj, o.rn, o.gd⟩
theorem St2.sub (h : St2 S0 t cs s2 a lk lt fx told hs S) (b : Sub S S') : St2 S0 t cs s2 a lk lt fx told hs S' :=
  ⟨fun j => (h.ok j).sub b, h.ap, h.kf, h.kn, fun x hx => ⟨b _ _ (h.fd x hx).1, (h.fd x hx).2⟩, b _ _ h.t, h.tf, h.tl, fun p c e => ⟨b _ _ (h.far p c e).1, (h.far p c e).2⟩⟩
theorem ShAt.keep {C x : Addr} {F : List Addr} {dl : List D} {rs : Rs'} (h : ShAt C S x F cs dl rs) (k : ∀ b ∈ F, ∀ c, S b = some c → S' b = some c) : ShAt C S' x F cs dl rs := by
  obtain ⟨ld, lr, ra, h, e1, e2⟩ := h
  subst e1
  unfold fp at k
  exact ⟨ld, lr, ra, ⟨k _ (by simp) _ h.ins, k _ (by simp) _ h.dee, k _ (by simp) _ h.run, fun r hr => k _ (List.mem_cons_of_mem _ (List.mem_cons_of_mem _ (List.mem_cons_of_mem _ (List.mem_map.mpr ⟨r, hr, rfl⟩)))) _ (h.cell r hr), h.kn, h.an, h.sz⟩, rfl, e2⟩
theorem ShAt.inn {C x : Addr} {F : List Addr} {dl : List D} {rs : Rs'} (h : ShAt C S x F cs dl rs) {b : Addr} (hb : b ∈ F) : ∃ c, S b = some c := by
  obtain ⟨ld, lr, ra, h, e1, e2⟩ := h
  subst e1
  unfold fp at hb
  simp only [List.mem_cons, List.mem_map] at hb
  rcases hb with rfl | rfl | rfl | ⟨r, hr, rfl⟩
  · exact ⟨_, h.ins⟩
  · exact ⟨_, h.dee⟩
  · exact ⟨_, h.run⟩
  · exact ⟨_, h.cell r hr⟩
theorem rws_more (dd : List Dd) (e : Dd) {m : Nat} (h : m ≤ dd.length) (l : List Str) : rws (dd ++ [e]) m l = rws dd m l := by
  unfold rws; rw [List.take_append_of_le_length h]
theorem St2.step (h : St2 S0 t cs s2 a lk lt fx told hs S) (j : Bool) {e : Dd} {F4 : List Addr} {rs4 : Rs'} {S4 : Sto} (hge : e.good) (hG : GD cs (knF (hs j).dd) (ddD e)) (hI : KI cs (knF ((hs j).dd ++ [e])))
    (hS4 : ShAt t.c_Shelf S4 (a j) F4 cs (((hs j).dd ++ [e]).map ddD) rs4) (hK4 : Kps (hs j).F F4 (S.set (lk j) (.dct (kvK (knF ((hs j).dd ++ [e]))))) S4) (hR4 : RI rs4 ((hs j).dd.length + 1) (knF ((hs j).dd ++ [e]))) (hJ4 : RJ rs4 ((hs j).dd ++ [e])) :
    St2 S0 t cs s2 a lk lt fx told (upH hs j ⟨F4, (hs j).dd ++ [e], rs4⟩) S4 := by
  have k3 : ∀ b c, b ≠ lk j → b ∉ (hs j).F → S b = some c → b ∉ F4 ∧ S4 b = some c := fun b c n1 n2 e => hK4 b c n2 ((sset_ne n1).trans e)
  have kl : ∀ b L, S b = some (.lst L) → b ∉ (hs j).F → b ∉ F4 ∧ S4 b = some (.lst L) := fun b L e n => k3 b _ (by rintro rfl; rw [(h.ok j).k] at e; cases e) n e
  have ko : ∀ b ∈ (hs (!j)).F, b ∉ F4 ∧ ∀ c, S b = some c → S4 b = some c := fun b hb => by
    have n1 : b ≠ lk j := by rintro rfl; exact h.kf j (!j) hb
    have n2 : b ∉ (hs j).F := by have := h.ap (!j) b hb; rw [Bool.not_not] at this; exact this
    obtain ⟨c, hc⟩ := (h.ok (!j)).sh.inn hb
    refine ⟨(k3 b c n1 n2 hc).1, fun c' hc' => (k3 b c' n1 n2 hc').2⟩
  have ke : ∀ i, lk i ∉ F4 := fun i => by
    by_cases hi : i = j
    · subst hi; exact (hK4 _ _ (h.kf i i) sset_same).1
    · exact (k3 _ _ (h.kn i j hi) (h.kf i j) (h.ok i).k).1
  refine ⟨fun i => ?_, fun i b hb => ?_, fun i i' => ?_, h.kn, fun x hx => ?_, (kl _ _ h.t (h.tf j)).2, fun i => ?_, fun d hd => ?_, fun b c hb => ?_⟩
  · by_cases hi : i = j
    · subst hi
      rw [upH_same]
      refine ⟨hS4, (hK4 _ _ (h.kf i i) sset_same).2, hI, ?_, hJ4, (h.ok i).rn.snoc hG, fun x hx => ?_⟩
      · show RI rs4 ((hs i).dd ++ [e]).length _
        rw [List.length_append]; exact hR4
      · rcases List.mem_append.mp hx with hx | hx
        · exact (h.ok i).gd x hx
        · rw [List.mem_singleton.mp hx]; exact hge
    · rw [upH_ne hi]
      have o := h.ok i
      have ei := b_other hi
      refine ⟨o.sh.keep fun b hb c hc => (ko b (by rw [← ei]; exact hb)).2 c hc, (k3 _ _ (h.kn i j hi) (h.kf i j) o.k).2, o.ki, o.ri, o.rj, o.rn, o.gd⟩
  · by_cases hi : i = j
    · subst hi
      rw [upH_same] at hb
      rw [upH_ne (b_not i)]
      exact fun m => (ko b m).1 hb
    · have ei := b_other hi
      rw [upH_ne hi] at hb
      subst ei
      rw [Bool.not_not, upH_same]
      exact (ko b hb).1
  · by_cases hi : i' = j
    · subst hi; rw [upH_same]; exact ke i
    · rw [upH_ne hi]; exact h.kf i i'
  · obtain ⟨x1, x2, x3⟩ := h.fd x hx
    have hh := kl _ _ x1 (x2 j)
    refine ⟨hh.2, fun i => ?_, x3⟩
    by_cases hi : i = j
    · subst hi; rw [upH_same]; exact hh.1
    · rw [upH_ne hi]; exact x2 i
  · by_cases hi : i = j
    · subst hi; rw [upH_same]; exact (kl _ _ h.t (h.tf i)).1
    · rw [upH_ne hi]; exact h.tf i
  · obtain ⟨i, m, l, e1, e2, e3⟩ := h.tl d hd
    refine ⟨i, m, l, e1, ?_⟩
    by_cases hi : i = j
    · subst hi
      rw [upH_same]
      refine ⟨by show m ≤ ((hs i).dd ++ [e]).length; rw [List.length_append]; omega, ?_⟩
      show (l, rws ((hs i).dd ++ [e]) m s2) ∈ fx
      rw [rws_more _ _ e2]; exact e3
    · rw [upH_ne hi]; exact ⟨e2, e3⟩
  · obtain ⟨x1, x2, x3⟩ := h.far b c hb
    have hh := k3 b c (x2 j).2 (x2 j).1 x1
    refine ⟨hh.2, fun i => ⟨?_, (x2 i).2⟩, x3⟩
    by_cases hi : i = j
    · subst hi; rw [upH_same]; exact hh.1
    · rw [upH_ne hi]; exact (x2 i).1
theorem St2.tell (h : St2 S0 t cs s2 a lk lt fx told hs S) (j : Bool) {p : Addr} (hp : S p = none) :
    St2 S0 t cs s2 a lk lt ((p, rws (hs j).dd (hs j).dd.length s2) :: fx) (told ++ [.tup [.int (bi j), .int ((hs j).dd.length : Nat), .ref p]]) hs ((S.set p (.lst (rws (hs j).dd (hs j).dd.length s2))).set lt (.lst (told ++ [.tup [.int (bi j), .int ((hs j).dd.length : Nat), .ref p]]))) := by
  have b : Sub S (S.set p (.lst (rws (hs j).dd (hs j).dd.length s2))) := .new hp
  have h1 := h.sub b
  have npt : p ≠ lt := fun e => by have := h.t; rw [← e, hp] at this; cases this
  have hpF : ∀ i, p ∉ (hs i).F := fun i => (h.ok i).sh.out hp
  have hp1 : (S.set p (.lst (rws (hs j).dd (hs j).dd.length s2))) p = some (.lst (rws (hs j).dd (hs j).dd.length s2)) := sset_same
  generalize S.set p (.lst (rws (hs j).dd (hs j).dd.length s2)) = S1 at h1 hp1
  refine ⟨fun i => ?_, h.ap, h.kf, h.kn, fun x hx => ?_, sset_same, h.tf, fun d hd => ?_, fun b c hb => ?_⟩
  · have o := h1.ok i
    have nk : lk i ≠ lt := fun e => by have := h1.t; rw [← e, o.k] at this; cases this
    exact ⟨o.sh.off (h.tf i), (sset_ne nk).trans o.k, o.ki, o.ri, o.rj, o.rn, o.gd⟩
  · rcases List.mem_cons.mp hx with rfl | hx
    · exact ⟨(sset_ne npt).trans hp1, hpF, npt⟩
    · obtain ⟨x1, x2, x3⟩ := h1.fd x hx
      exact ⟨(sset_ne x3).trans x1, x2, x3⟩
  · rcases List.mem_append.mp hd with hd | hd
    · obtain ⟨i, m, l, e1, e2, e3⟩ := h.tl d hd
      exact ⟨i, m, l, e1, e2, List.mem_cons_of_mem _ e3⟩
    · rw [List.mem_singleton.mp hd]
      exact ⟨j, _, p, rfl, Nat.le_refl _, List.mem_cons_self⟩
  · obtain ⟨x1, x2, x3⟩ := h1.far b c hb
    exact ⟨(sset_ne x3).trans x1, x2, x3⟩
end
end My
namespace My
open PySem L2
theorem cut_ints (ns : List Int) (lo hi : Option Int) : cutL (ns.map D.int) lo hi = (cutL ns lo hi).map D.int := by
  unfold cutL
  rw [List.length_map, List.map_take, List.map_drop]
theorem cut_len (ns : List Int) (lo hi : Option Int) : (cutL ns lo hi).length ≤ ns.length := by
  unfold cutL
  rw [List.length_take, List.length_drop]; omega
theorem bi_of (c k : Int) : ∃ j, atI [D.int 0, D.int (k % 2)] (c % 2) = some (.int (bi j)) := by
  have hc : c % 2 = 0 ∨ c % 2 = 1 := by omega
  have hk : k % 2 = 0 ∨ k % 2 = 1 := by omega
  rcases hc with h | h
  · rw [h]; exact ⟨false, rfl⟩
  · rw [h]
    rcases hk with h | h
    · rw [h]; exact ⟨false, rfl⟩
    · rw [h]; exact ⟨true, rfl⟩
theorem sorted_ex : ∃ s2 : List Str, s2.Perm KS ∧ PyProof.Rows.sortedS s2 = true := ⟨["a", "a1", "ab", "abc", "abcdefghijkl", "b", "b2", "ba", "key", "z"], by decide +kernel, by decide +kernel⟩
def fx0 (a lk : Bool → Addr) (sh kk ky lc : Addr) (ls : List Int) : List (Addr × List D) := [(sh, two a), (kk, two lk), (ky, KS.map D.str), (lc, ls.map D.int)]
def stR (dd : List Dd) : D → List D
  | .str z => (sts dd z).map stdD
  | _ => []
section
variable {P : Program} {w : World} {K : PySem.W.Frag} {mg : Str → Option Value} {base : Heap} {t : Adr}
def spLaw : SpD := fun ds S R _ => ∃ ns : List Int, ds = [.rol (ns.map D.int)] ∧ ns.length ≤ 63 ∧ R (.bl true) S
theorem ok_lawD (T : Txt K mg t) : FnD P w K mg base 20 t.f_law t.d_law ["_law_script"] spLaw := by
  have G_l_cell_at : FnD P w K mg base 1 t.f_l_cell_at t.d_l_cell_at ["_law_script", "_law_k"] _ := ok_cell_at T
  have G_l_well : FnD P w K mg base 1 t.f_l_well t.d_l_well ["_law_cell"] _ := ok_well T
  have G_l_columns : FnD P w K mg base 2 t.f_l_columns t.d_l_columns ["_law_well_here"] _ := ok_columns T
  have G_Shelf___init__ : FnD P w K mg base 5 t.f_Shelf___init__ t.d_Shelf___init__ ["self", "columns"] _ := ok_init T
  have G_l_deed : FnD P w K mg base 4 t.f_l_deed t.d_l_deed ["_law_well_here", "_law_columns_here", "_law_known_here"] spDeed := ok_deed T
  have G_l_does : FnD P w K mg base 7 t.f_l_does t.d_l_does ["_law_shelf", "_law_deed_here"] (Dos t) := (ok_does T).impD fun ds S R Z h => h.of
  have G_l_known : FnD P w K mg base 1 t.f_l_known t.d_l_known ["_law_known_here", "_law_deed_here"] _ := ok_known T
  have G_Shelf_now : FnD P w K mg base 1 t.f_Shelf_now t.d_Shelf_now ["self"] (spNow t.c_Shelf) := ok_now T
  have G_Shelf_standings_of : FnD P w K mg base 3 t.f_Shelf_standings_of t.d_Shelf_standings_of ["self", "key"] (spStand t.c_Shelf) := ok_standings_of T
  have G_Shelf_all_at : FnD P w K mg base 3 t.f_Shelf_all_at t.d_Shelf_all_at ["self", "moment"] (spAll t.c_Shelf t.c_NoMoment) := ok_all_at T
  have G_Shelf_history : FnD P w K mg base 1 t.f_Shelf_history t.d_Shelf_history ["self"] _ := ok_history T
  have G_l_all : FnD P w K mg base 4 t.f_l_all t.d_l_all ["_law_shelf"] (spAl t) := ok_al T
  have G_l_by_standings : FnD P w K mg base 4 t.f_l_by_standings t.d_l_by_standings ["_law_shelf", "_law_keys"] (spBy t) := ok_by T
  have G_l_again : FnD P w K mg base 8 t.f_l_again t.d_l_again ["_law_shelf", "_law_columns_here"] (spAgain t) := ok_again T
  refine T.F_law.ok sc_law (fun ds S R Z ⟨_, e, _⟩ => by rw [e]; rfl) (fun cdv A outer s H E ds S R Z hr ⟨ns, e, hns, q⟩ => ?_)
  subst e
  obtain ⟨s2, hsp, hso⟩ := sorted_ex
  refine ⟨_, (sc (st_ (i := 1) sc_law.nd (cf (G_l_columns.mono (by decide)) hr T.mg_l_columns T.k_l_columns T.b_l_columns d0 (ac (cf (G_l_well.mono (by decide)) hr T.mg_l_well T.k_l_well T.b_l_well d0 (ac (cf (G_l_cell_at.mono (by decide)) hr T.mg_l_cell_at T.k_l_cell_at T.b_l_cell_at d0 (ac (dv 0) (ac di an))) an)) an))) (sc (st_ (i := 2) sc_law.nd (elst (ac (mk T.mk_Shelf G_Shelf___init__ (hr.mono (by decide)) T.mg_Shelf T.b_Shelf___init__ d0 (ac (dv 1) an)) (ac (mk T.mk_Shelf G_Shelf___init__ (hr.mono (by decide)) T.mg_Shelf T.b_Shelf___init__ d0 (ac (dv 1) an)) an)))) (sc (st_ (i := 3) sc_law.nd (elst (ac edct (ac edct an)))) (sc (st_ (i := 4) sc_law.nd (elst (ac ds (ac ds (ac ds (ac ds (ac ds (ac ds (ac ds (ac ds (ac ds (ac ds an)))))))))))) (sc (st_ (i := 5) sc_law.nd (elst an)) (sc (st_ (i := 6) sc_law.nd (bo o_add hr.units (elst (ac (cf (G_l_cell_at.mono (by decide)) hr T.mg_l_cell_at T.k_l_cell_at T.b_l_cell_at d0 (ac (dv 0) (ac di an))) an)) (sl (dv 0) (o1 di) (o1 di)))) (sc (scf (sfo (ir1 T.n_range (ac (cb c_len T.n_len bt_len (ac (dv 6) an)) an)) (gn (i := 7) sc_law.nd) (sc (st_ (i := 8) sc_law.nd (efo (ix hr.units (elst (ac di (ac (bo o_mod hr.units (dv 7) di) an))) (bo o_mod hr.units (cf (G_l_cell_at.mono (by decide)) hr T.mg_l_cell_at T.k_l_cell_at T.b_l_cell_at d0 (ac (dv 0) (ac di an))) di)))) (sc (st_ (i := 9) sc_law.nd (cf (G_l_deed.mono (by decide)) hr T.mg_l_deed T.k_l_deed T.b_l_deed d0 (ac (cf (G_l_well.mono (by decide)) hr T.mg_l_well T.k_l_well T.b_l_well d0 (ac (ix hr.units (dv 6) (dv 7)) an)) (ac (dv 1) (ac (ix hr.units (dv 3) (dv 8)) an))))) (sc (se (cf (G_l_known.mono (by decide)) hr T.mg_l_known T.k_l_known T.b_l_known d0 (ac (ix hr.units (dv 3) (dv 8)) (ac (dv 9) an)))) (sc (se (cf (G_l_does.mono (by decide)) hr T.mg_l_does T.k_l_does T.b_l_does d0 (ac (ix hr.units (dv 2) (dv 8)) (ac (dv 9) an)))) (s1 (se (bm PySem.F.plainAttrs_list PySem.F.slot_list_append PySem.F.type_list_append m_append (dv 5) (ac (etup (ac (dv 8) (ac (cme0 (ix hr.units (dv 2) (dv 8)) T.cl_Shelf T.me_Shelf_now (G_Shelf_now.mono (by decide)) hr T.b_Shelf_now d0) (ac (cme0 (ix hr.units (dv 2) (dv 8)) T.cl_Shelf T.me_Shelf_all_at (G_Shelf_all_at.mono (by decide)) hr T.b_Shelf_all_at_1 d1) an)))) an)))))))))) (sc (scf (sfo (il (dv 5)) (gt (n := 3) (gc (gn (i := 8) sc_law.nd) (gc (gn (i := 10) sc_law.nd) (gc (gn (i := 11) sc_law.nd) g0)))) (s1 (si (tcm o_ne hr.units (cme (ix hr.units (dv 2) (dv 8)) T.cl_Shelf T.me_Shelf_all_at (G_Shelf_all_at.mono (by decide)) hr T.b_Shelf_all_at d0 (ac (dv 10) an)) (dv 11)) (s1 (sr db)) s0)))) (sc (scf (sfo (il (dv 2)) (gn (i := 12) sc_law.nd) (sc (st_ (i := 13) sc_law.nd (cf (G_l_again.mono (by decide)) hr T.mg_l_again T.k_l_again T.b_l_again d0 (ac (dv 12) (ac (dv 1) an)))) (sc (si (twd (twor (tcm o_ne2 hr.units (cf (G_l_all.mono (by decide)) hr T.mg_l_all T.k_l_all T.b_l_all d0 (ac (dv 13) an)) (cf (G_l_all.mono (by decide)) hr T.mg_l_all T.k_l_all T.b_l_all d0 (ac (dv 12) an))) (tw1 (tcm o_ne2 hr.units (cf (G_l_by_standings.mono (by decide)) hr T.mg_l_by_standings T.k_l_by_standings T.b_l_by_standings d0 (ac (dv 12) (ac (dv 4) an))) (cf (G_l_all.mono (by decide)) hr T.mg_l_all T.k_l_all T.b_l_all d0 (ac (dv 12) an)))))) (s1 (sr db)) s0) (sc (si (tcm o_ne2 hr.units (eco (N := ["_law_key_here", "_law_other"]) (src := [none, some 13]) (csc (defScope s_law) ["_law_script", "_law_columns_here", "_law_shelves", "_law_known_here", "_law_keys", "_law_told", "_law_cells", "_law_k", "_law_at", "_law_deed_here", "_law_moment", "_law_rows", "_law_shelf", "_law_other"] rfl rfl (by decide +kernel)) (il (dv 4)) (cg1 (show (["_law_key_here", "_law_other"] : List Str).Nodup by decide +kernel)) (gx_name rfl) gd_name (fun _ _ _ _ _ => if0) (fun _ _ _ _ _ => (cme (dv 1) T.cl_Shelf T.me_Shelf_standings_of (G_Shelf_standings_of.mono (by decide)) hr T.b_Shelf_standings_of d0 (ac (dv 0) an)))) (eco (N := ["_law_key_here", "_law_shelf"]) (src := [none, some 12]) (csc (defScope s_law) ["_law_script", "_law_columns_here", "_law_shelves", "_law_known_here", "_law_keys", "_law_told", "_law_cells", "_law_k", "_law_at", "_law_deed_here", "_law_moment", "_law_rows", "_law_shelf", "_law_other"] rfl rfl (by decide +kernel)) (il (dv 4)) (cg1 (show (["_law_key_here", "_law_shelf"] : List Str).Nodup by decide +kernel)) (gx_name rfl) gd_name (fun _ _ _ _ _ => if0) (fun _ _ _ _ _ => (cme (dv 1) T.cl_Shelf T.me_Shelf_standings_of (G_Shelf_standings_of.mono (by decide)) hr T.b_Shelf_standings_of d0 (ac (dv 0) an))))) (s1 (sr db)) s0) (s1 (si (twd (twor (tcm o_ne hr.units (cme0 (dv 13) T.cl_Shelf T.me_Shelf_history (G_Shelf_history.mono (by decide)) hr T.b_Shelf_history d0) (cme0 (dv 12) T.cl_Shelf T.me_Shelf_history (G_Shelf_history.mono (by decide)) hr T.b_Shelf_history d0)) (tw1 (tcm o_ne hr.units (cme0 (dv 13) T.cl_Shelf T.me_Shelf_now (G_Shelf_now.mono (by decide)) hr T.b_Shelf_now d0) (cme0 (dv 12) T.cl_Shelf T.me_Shelf_now (G_Shelf_now.mono (by decide)) hr T.b_Shelf_now d0))))) (s1 (sr db)) s0))))))) (s1 (sr (cm o_eq hr.units (bo o_add hr.units (cme0 (ix hr.units (dv 2) di) T.cl_Shelf T.me_Shelf_now (G_Shelf_now.mono (by decide)) hr T.b_Shelf_now d0) (cme0 (ix hr.units (dv 2) di) T.cl_Shelf T.me_Shelf_now (G_Shelf_now.mono (by decide)) hr T.b_Shelf_now d0)) (cb c_len T.n_len bt_len (ac (dv 6) an)))))))))))))), ?_⟩
  refine ⟨_, rfl, ns, 0, rfl, fun c0 => ⟨⟨c0, rfl⟩, fun l0 hl0 => ⟨l0, rfl, sset_same, fun cs hg hN => ?_⟩⟩⟩
  refine ⟨_, rfl, fun a0 ha0 => ⟨a0, cs, rfl, hg, sset_same, fun S1 F0 hS1 hK1 => ⟨rfl, ?_⟩⟩⟩
  refine ⟨_, rfl, fun a1 ha1 => ⟨a1, cs, rfl, hg, sset_same, fun S2 F1 hS2 hK2 => ⟨rfl, ?_⟩⟩⟩
  have far1 : Far S F0 S1 := fun b c hb => by
    have h1 : (S.set l0 .well) b = some c := (Sub.new hl0) _ _ hb
    have h2 : b ≠ a0 := sne h1 ha0
    exact hK1 b c (fun m => h2 (List.mem_singleton.mp m)) ((sset_ne h2).trans h1)
  have far2 : Far S1 F1 S2 := fun b c hb => by
    have h2 : b ≠ a1 := sne hb ha1
    exact hK2 b c (fun m => h2 (List.mem_singleton.mp m)) ((sset_ne h2).trans hb)
  have hS12 := hS1.sub far2.sub
  have apart : ∀ b ∈ F0, b ∉ F1 := fun b hb => by
    obtain ⟨c, hc⟩ := hS1.inn hb
    exact (far2 b c hc).1
  refine ⟨sm (show 2 ≤ 1000 by decide), fun sh hsh => ?_⟩
  generalize hS3 : S2.set sh _ = S3
  have b3 : Sub S2 S3 := by rw [← hS3]; exact .new hsh
  have v3 : S3 sh = some (.lst [.ref a0, .ref a1]) := by rw [← hS3]; exact sset_same
  refine fun k0 hk0 => fun k1 hk1 => ⟨sm (show 2 ≤ 1000 by decide), fun kk hkk => ?_⟩
  have nkk : k0 ≠ k1 := sne (sset_same (S := S3)) hk1
  generalize hS4 : S3.set k0 (.dct []) = S4 at hk1 hkk
  have b4 : Sub S3 S4 := by rw [← hS4]; exact .new hk0
  have v4 : S4 k0 = some (.dct []) := by rw [← hS4]; exact sset_same
  generalize hS5 : S4.set k1 (.dct []) = S5 at hkk
  have b5 : Sub S4 S5 := by rw [← hS5]; exact .new hk1
  have v5 : S5 k1 = some (.dct []) := by rw [← hS5]; exact sset_same
  generalize hS6 : S5.set kk _ = S6
  have b6 : Sub S5 S6 := by rw [← hS6]; exact .new hkk
  have v6 : S6 kk = some (.lst [.ref k0, .ref k1]) := by rw [← hS6]; exact sset_same
  refine ⟨sm (show 10 ≤ 1000 by decide), fun ky hky => ?_⟩
  generalize hS7 : S6.set ky _ = S7
  have b7 : Sub S6 S7 := by rw [← hS7]; exact .new hky
  have v7 : S7 ky = some (.lst (KS.map D.str)) := by rw [← hS7]; exact sset_same
  refine ⟨sm (show 0 ≤ 1000 by decide), fun lt hlt => ?_⟩
  generalize hS8 : S7.set lt _ = S8
  have b8 : Sub S7 S8 := by rw [← hS8]; exact .new hlt
  have v8 : S8 lt = some (.lst []) := by rw [← hS8]; exact sset_same
  refine ⟨_, rfl, ns, 1, rfl, fun c1 => ⟨sm (show 1 ≤ 1000 by decide), fun p1 hp1 => ⟨_, rfl, _, rfl, _, rfl, fun p2 hp2 => ⟨_, _, (Sub.new hp2) _ _ sset_same, sset_same, ?_, fun lc hlc => ?_⟩⟩⟩⟩
  · rw [cut_ints, List.length_map]
    have := cut_len ns (some 2) (some 31)
    exact sm (by show 1 + _ ≤ _; omega)
  rw [cut_ints] at hlc ⊢
  have eL : ([D.int c1] ++ (cutL ns (some 2) (some 31)).map D.int) = (c1 :: cutL ns (some 2) (some 31)).map D.int := rfl
  have hLl : (c1 :: cutL ns (some 2) (some 31)).length ≤ 64 := by have := cut_len ns (some 2) (some 31); rw [List.length_cons]; omega
  rw [eL]
  have b9 : Sub S8 ((S8.set p1 (.lst [.int c1])).set p2 (.lst ((cutL ns (some 2) (some 31)).map D.int))) := (Sub.new hp1).trans (.new hp2)
  generalize (S8.set p1 (.lst [.int c1])).set p2 (.lst ((cutL ns (some 2) (some 31)).map D.int)) = S9 at hlc b9 ⊢
  generalize (c1 :: cutL ns (some 2) (some 31)) = ls at hLl ⊢
  generalize hSA : S9.set lc _ = SA
  have bA : Sub S9 SA := by rw [← hSA]; exact .new hlc
  have vA : SA lc = some (.lst (ls.map D.int)) := by rw [← hSA]; exact sset_same
  obtain ⟨a, ea0, ea1⟩ : ∃ a : Bool → Addr, a0 = a false ∧ a1 = a true := ⟨fun j => if j then a1 else a0, rfl, rfl⟩
  obtain ⟨lk, ek0, ek1⟩ : ∃ lk : Bool → Addr, k0 = lk false ∧ k1 = lk true := ⟨fun j => if j then k1 else k0, rfl, rfl⟩
  obtain ⟨hs0, eh0, eh1⟩ : ∃ hs0 : Bool → Hf, hs0 false = ⟨F0, [], []⟩ ∧ hs0 true = ⟨F1, [], []⟩ := ⟨fun j => if j then ⟨F1, [], []⟩ else ⟨F0, [], []⟩, rfl, rfl⟩
  have b29 : Sub S2 S9 := ((((((b3.trans b4).trans b5).trans b6).trans b7).trans b8).trans b9)
  have st0 : St2 S t cs s2 a lk lt (fx0 a lk sh kk ky lc ls) [] hs0 SA := by
    have out : ∀ b, S2 b = none → ∀ j, b ∉ (hs0 j).F := fun b hb j => by
      cases j with
      | false => rw [eh0]; exact hS12.out hb
      | true => rw [eh1]; exact hS2.out hb
    have n0 : S2 k0 = none := sub_non b3 hk0
    have n1 : S2 k1 = none := sub_non (b3.trans b4) hk1
    have nkk' : S2 kk = none := sub_non ((b3.trans b4).trans b5) hkk
    have nky : S2 ky = none := sub_non (((b3.trans b4).trans b5).trans b6) hky
    have nlt : S2 lt = none := sub_non ((((b3.trans b4).trans b5).trans b6).trans b7) hlt
    have nlc : S2 lc = none := sub_non b29 hlc
    have up4 : Sub S4 SA := ((((b5.trans b6).trans b7).trans b8).trans b9).trans bA
    refine ⟨fun j => ?_, fun j b hb => ?_, fun i j => ?_, fun i j hij => ?_, fun x hx => ?_, bA _ _ (b9 _ _ v8), out lt nlt, fun d hd => (nomatch hd), fun b c hb => ?_⟩
    · cases j with
      | false => rw [eh0, ← ea0, ← ek0]; exact ⟨hS12.sub (b29.trans bA), up4 _ _ v4, KI.nil cs, RI.nil, RJ.nil, Rn.nil cs, fun _ h => (nomatch h)⟩
      | true => rw [eh1, ← ea1, ← ek1]; exact ⟨hS2.sub (b29.trans bA), (((b6.trans b7).trans b8).trans b9).trans bA _ _ v5, KI.nil cs, RI.nil, RJ.nil, Rn.nil cs, fun _ h => (nomatch h)⟩
    · cases j with
      | false =>
        rw [eh0] at hb
        show b ∉ (hs0 true).F
        rw [eh1]; exact apart b hb
      | true =>
        rw [eh1] at hb
        show b ∉ (hs0 false).F
        rw [eh0]; exact fun m => apart b m hb
    · cases i with
      | false => rw [← ek0]; exact out _ n0 j
      | true => rw [← ek1]; exact out _ n1 j
    · cases i <;> cases j
      · exact absurd rfl hij
      · rw [← ek0, ← ek1]; exact nkk
      · rw [← ek0, ← ek1]; exact nkk.symm
      · exact absurd rfl hij
    · unfold fx0 at hx
      simp only [List.mem_cons, List.not_mem_nil, or_false] at hx
      rcases hx with rfl | rfl | rfl | rfl
      · refine ⟨?_, out _ hsh, ?_⟩
        · have := (b29.trans bA) ; exact (((((b4.trans b5).trans b6).trans b7).trans b8).trans b9).trans bA _ _ (by rw [v3, ea0, ea1]; rfl)
        · exact sne ((((b4.trans b5).trans b6).trans b7) _ _ v3) hlt
      · refine ⟨?_, out _ nkk', ?_⟩
        · exact ((b7.trans b8).trans b9).trans bA _ _ (by rw [v6, ek0, ek1]; rfl)
        · exact sne (b7 _ _ v6) hlt
      · exact ⟨(b8.trans b9).trans bA _ _ v7, out _ nky, sne v7 hlt⟩
      · exact ⟨vA, out _ nlc, fun e => (sne (b9 _ _ v8) hlc) e.symm⟩
    · have h1 := far1 b c hb
      have h2 := far2 b c h1.2
      refine ⟨(b29.trans bA) _ _ h2.2, fun j => ?_, sne h2.2 nlt⟩
      cases j with
      | false => rw [eh0, ← ek0]; exact ⟨h1.1, sne h2.2 n0⟩
      | true => rw [eh1, ← ek1]; exact ⟨h2.1, sne h2.2 n1⟩
  have hl0 : (hs0 false).dd.length + (hs0 true).dd.length = 0 := by rw [eh0, eh1]; rfl
  clear eh0 eh1
  have hmS : ∀ {fx told hs S'}, (∀ x ∈ fx0 a lk sh kk ky lc ls, x ∈ fx) → St2 S t cs s2 a lk lt fx told hs S' → S' sh = some (.lst (two a)) ∧ S' kk = some (.lst (two lk)) ∧ S' ky = some (.lst (KS.map D.str)) ∧ S' lc = some (.lst (ls.map D.int)) := fun hx h =>
    ⟨(h.fd _ (hx (sh, two a) (by simp [fx0]))).1, (h.fd _ (hx (kk, two lk) (by simp [fx0]))).1, (h.fd _ (hx (ky, KS.map D.str) (by simp [fx0]))).1, (h.fd _ (hx (lc, ls.map D.int) (by simp [fx0]))).1⟩
  clear v3 v4 v5 v6 v7 v8 vA hS3 hS4 hS5 hS6 hS7 hS8 hSA b3 b4 b5 b6 b7 b8 b9 bA b29
  refine ⟨fun σ' S' => ∃ o7 o8 o9 fx told hs, σ' = [some (.rol (ns.map D.int)), some (.tup (cs.map colD)), some (.ref sh), some (.ref kk), some (.ref ky), some (.ref lt), some (.ref lc), o7, o8, o9, none, none, none, none] ∧ (∀ x ∈ fx0 a lk sh kk ky lc ls, x ∈ fx) ∧ St2 S t cs s2 a lk lt fx told hs S' ∧ (hs false).dd.length + (hs true).dd.length = ls.length, ?_, ?_⟩
  · refine ⟨_, rfl, _, rfl, .inl ⟨_, (hmS (fun x hx => hx) st0).2.2.2, _, rfl, by omega, by rw [List.length_map]; omega, ?_⟩⟩
    refine ⟨fun i σ' S' => ∃ o7 o8 o9 fx told hs, σ' = [some (.rol (ns.map D.int)), some (.tup (cs.map colD)), some (.ref sh), some (.ref kk), some (.ref ky), some (.ref lt), some (.ref lc), o7, o8, o9, none, none, none, none] ∧ (∀ x ∈ fx0 a lk sh kk ky lc ls, x ∈ fx) ∧ St2 S t cs s2 a lk lt fx told hs S' ∧ (hs false).dd.length + (hs true).dd.length = i ∧ told.length = i, ?_, fun _ _ _ _ => trivial, ?_, ?_⟩
    · exact ⟨none, none, none, _, [], hs0, rfl, fun x hx => hx, st0, hl0, rfl⟩
    · rintro i d σ' S' hd ⟨o7, o8, o9, fx, told, hs, rfl, hfx, h, hlen, htl⟩
      have hd : (rngD 0 (((ls.map D.int).length : Nat) : Int).toNat)[i]? = some d := hd
      obtain ⟨hi, rfl⟩ := rngD_get hd
      have hi : i < ls.length := by rw [List.length_map] at hi; exact hi
      refine ⟨_, rfl, (show (0 : Int) < 2 by decide), sm (show 2 ≤ 1000 by decide), fun pq hpq => ⟨_, rfl, ns, 0, rfl, fun c0' => ⟨(show (0 : Int) < 2 by decide), ?_⟩⟩⟩
      obtain ⟨j, hj⟩ := bi_of c0' ((0 : Int) + (i : Nat))
      refine ⟨_, _, sset_same, hj, S', .new hpq, ?_⟩
      obtain ⟨hsh', hkk', hky', hlc'⟩ := hmS hfx h
      have hci : atI (ls.map D.int) ((0 : Int) + (i : Nat)) = some (.int (ls[i]'hi)) := by rw [Int.zero_add, atI_nat (by rw [List.length_map]; exact hi), List.getElem?_map, List.getElem?_eq_getElem hi]; rfl
      refine ⟨_, rfl, _, rfl, _, _, hlc', hci, ⟨_, rfl⟩, fun l hl => ?_⟩
      have h1 := h.sub (.new (c := .well) hl)
      have hw1 : (S'.set l .well) l = some .well := sset_same
      clear hsh' hkk' hky' hlc'
      generalize S'.set l .well = S1' at h1 hw1
      obtain ⟨hsh', hkk', hky', hlc'⟩ := hmS hfx h1
      have o := h1.ok j
      have hkl := o.ki.len
      have hjl : (hs j).dd.length ≤ 100 := by cases j <;> omega
      refine ⟨_, rfl, _, rfl, _, rfl, _, _, hkk', at_two lk j, l, cs, lk j, _, rfl, hg, hw1, o.k, o.ki, fun de hde => ?_⟩
      obtain ⟨e, kn', he, hge, hkd, hI'⟩ := hde.asDd o.ki
      subst he
      obtain rfl : kn' = knF ((hs j).dd ++ [e]) := by rw [knF_snoc]; exact hkd.step
      refine ⟨_, rfl, _, rfl, _, _, hkk', at_two lk j, _, rfl, lk j, _, _, _, rfl, o.k, by omega, hkd, ?_⟩
      generalize hS3 : S1'.set (lk j) (.dct (kvK (knF ((hs j).dd ++ [e])))) = S3
      have hS3s : ShAt t.c_Shelf S3 (a j) (hs j).F cs ((hs j).dd.map ddD) (hs j).rs := by rw [← hS3]; exact o.sh.off (h1.kf j j)
      have hsh3 : S3 sh = some (.lst (two a)) := by
        rw [← hS3, sset_ne (by rintro rfl; rw [o.k] at hsh'; cases hsh')]; exact hsh'
      refine ⟨_, rfl, _, rfl, _, _, hsh3, at_two a j, _, rfl, does_good hS3s hg o.ki o.ri o.rj hjl hde rfl hkd fun S4 F4 rs4 hS4 hK4 hR4 hJ4 => ?_⟩
      rw [← hS3] at hK4
      have h4 := h1.step j hge hde hI' hS4 hK4 hR4 hJ4
      obtain ⟨hsh4, _, _, _⟩ := hmS hfx h4
      obtain ⟨ld4, lr4, ra4, hh4, _, _⟩ := id hS4
      have el4 : (((hs j).dd ++ [e]).map ddD).length = ((hs j).dd ++ [e]).length := List.length_map _
      have hlt4 : rs4.length < 64 := by have := hJ4.len hS4; omega
      have ins4 := hh4.ins
      clear hh4
      refine ⟨_, rfl, ⟨rfl, _, h4.t⟩, _, rfl, _, rfl, _, rfl, _, _, hsh4, at_two a j, a j, _, rfl, ins4, rfl, a j, F4, cs, _, rs4, rfl, hS4, ?_⟩
      refine ⟨_, rfl, _, rfl, _, _, hsh4, at_two a j, a j, _, rfl, ins4, rfl, a j, F4, cs, _, rs4, .non, rfl, hS4, hlt4, gt_non, fun i' s1 hi' p1 o1 p hp => ?_, fun hn => by cases hn⟩
      cases hi'
      rw [el4, rows17 hJ4 hS4 (Nat.le_refl _) p1 o1 hsp hso]
      have h5 := h4.tell j hp
      rw [upH_same] at h5
      refine ⟨sm (show 3 ≤ 1000 by decide), lt, _, _, rfl, rfl, (Sub.new hp) _ _ h4.t, bg (by omega), ?_⟩
      refine ⟨_, _, _, _, _, _, rfl, fun x hx => List.mem_cons_of_mem _ (hfx x hx), h5, ?_, by rw [List.length_append, htl]; rfl⟩
      cases j with
      | false =>
        rw [upH_same, upH_ne (by decide)]
        show ((hs false).dd ++ [e]).length + _ = _
        rw [List.length_append]; show _ + 1 + _ = _; omega
      | true =>
        rw [upH_same, upH_ne (by decide)]
        show _ + ((hs true).dd ++ [e]).length = _
        rw [List.length_append]; show _ + (_ + 1) = _; omega
    · rintro σ' S' ⟨o7, o8, o9, fx, told, hs, rfl, hfx, h, hlen, htl⟩
      rw [show (⟨rngD 0 (((ls.map D.int).length : Nat) : Int).toNat, fun _ => True⟩ : ItD).xs.length = ls.length from rngD_len.trans (List.length_map _)] at hlen
      exact fo ⟨o7, o8, o9, fx, told, hs, rfl, hfx, h, hlen⟩
  · rintro σ' S' ⟨o7, o8, o9, fx, told, hs, rfl, hfx, h, hlen⟩
    have hjl : ∀ j, (hs j).dd.length ≤ 100 := fun j => by cases j <;> omega
    have hs2K : ∀ z ∈ s2, z ∈ KS := fun z hz => hsp.mem_iff.mp hz
    have hly : ∀ (j : Bool) (m : Nat) (S1 : Sto), ∀ d ∈ rws (hs j).dd m s2, Ly S1 60 d := fun j m S1 => rws_ly (h.ok j).gd hs2K
    refine ⟨fun σ' S1 => ∃ o8 o10 o11, σ' = [some (.rol (ns.map D.int)), some (.tup (cs.map colD)), some (.ref sh), some (.ref kk), some (.ref ky), some (.ref lt), some (.ref lc), o7, o8, o9, o10, o11, none, none] ∧ Sub S' S1, ?_, ?_⟩
    · refine ⟨_, rfl, _, h.t, ?_⟩
      refine ⟨fun i σ' S1 => ∃ o8 o10 o11, σ' = [some (.rol (ns.map D.int)), some (.tup (cs.map colD)), some (.ref sh), some (.ref kk), some (.ref ky), some (.ref lt), some (.ref lc), o7, o8, o9, o10, o11, none, none] ∧ Sub S' S1, ⟨o8, none, none, rfl, .refl _⟩, fun i σ' S1 ⟨_, _, _, _, hs1⟩ => hs1 _ _ h.t, ?_, fun σ' S1 hh => fo hh⟩
      rintro i d σ' S1 hd ⟨o8, o10, o11, rfl, hs1⟩
      obtain ⟨j, m, l, rfl, hm, hfl⟩ := h.tl d (List.mem_of_getElem? hd)
      have h1 := h.sub hs1
      obtain ⟨hsh1, _, _, _⟩ := hmS hfx h1
      have o := h1.ok j
      obtain ⟨ld4, lr4, ra4, hh4, _, _⟩ := id o.sh
      have ins4 := hh4.ins
      clear hh4
      have hm' : m ≤ ((hs j).dd.map ddD).length := by rw [List.length_map]; exact hm
      have hlr := o.rj.len o.sh
      refine ⟨_, rfl, rfl, _, _, rfl, _, _, rfl, _, _, rfl, rfl, ?_⟩
      refine ⟨_, rfl, _, rfl, _, _, hsh1, at_two a j, a j, _, rfl, ins4, rfl, _, rfl, a j, (hs j).F, cs, _, (hs j).rs, .int (m : Nat), rfl, o.sh, (by omega), gt_int, fun i' s1 hi' p1 o1 p hp => ?_, fun hn => (mom_some hm' hn).elim⟩
      obtain rfl := mom_int hm' hi'
      rw [rows17 o.rj o.sh hm p1 o1 hsp hso]
      exact ⟨_, rfl, eq_lists sset_same ((Sub.new hp) _ _ (h1.fd _ hfl).1) (hly j m _) ⟨_, rfl, iteF ⟨_, _, _, rfl, hs1.trans (.new hp)⟩⟩⟩
    · rintro σ' S1 ⟨o8, o10, o11, rfl, hs1⟩
      have h1 := h.sub hs1
      obtain ⟨hsh1, _, _, hlc1⟩ := hmS hfx h1
      refine ⟨fun σ' S2 => ∃ o12 o13, σ' = [some (.rol (ns.map D.int)), some (.tup (cs.map colD)), some (.ref sh), some (.ref kk), some (.ref ky), some (.ref lt), some (.ref lc), o7, o8, o9, o10, o11, o12, o13] ∧ Sub S1 S2, ?_, ?_⟩
      · refine ⟨_, rfl, _, hsh1, ?_⟩
        refine ⟨fun i σ' S2 => ∃ o12 o13, σ' = [some (.rol (ns.map D.int)), some (.tup (cs.map colD)), some (.ref sh), some (.ref kk), some (.ref ky), some (.ref lt), some (.ref lc), o7, o8, o9, o10, o11, o12, o13] ∧ Sub S1 S2, ⟨none, none, rfl, .refl _⟩, fun i σ' S2 ⟨_, _, _, hb⟩ => hb _ _ hsh1, ?_, fun σ' S2 hh => fo hh⟩
        rintro i d σ' S2 hd ⟨o12, o13, rfl, hb⟩
        obtain ⟨j, rfl⟩ : ∃ j, d = .ref (a j) := by
          have := List.mem_of_getElem? hd
          have : d ∈ [D.ref (a false), D.ref (a true)] := this
          simp only [List.mem_cons, List.not_mem_nil, or_false] at this
          rcases this with e | e
          · exact ⟨false, e⟩
          · exact ⟨true, e⟩
        have h2 := h1.sub hb
        have o := h2.ok j
        refine ⟨_, rfl, _, rfl, a j, (hs j).F, cs, (hs j).rs, (hs j).dd, rfl, o.sh, hg, o.rn, hjl j, fun a' F' rs' S3 hS3 hJ3 b3 => ?_⟩
        have h3 := h2.sub b3
        clear hsh1
        obtain ⟨hsh3, _, hky3, hlc3⟩ := hmS hfx h3
        have o3 := h3.ok j
        have hgd := o3.gd
        have hlyR : ∀ S4, ∀ r ∈ rowsF (hs j).dd.length fun m => rws (hs j).dd m s2, ∀ d ∈ r, Ly S4 60 d := fun S4 r hr => by
          unfold rowsF at hr
          obtain ⟨m, _, rfl⟩ := List.mem_map.mp hr
          exact hly j m S4
        have base3 : Sub S1 S3 := hb.trans b3
        have stKS : ∀ {rs : Rs'} {z : Str}, RJ rs (hs j).dd → z ∈ KS → stAt rs (.str z) = sts (hs j).dd z := fun hr hz => stAt_KS hr hz
        have hlyS : ∀ S4, ∀ r ∈ (KS.map D.str).map (stR (hs j).dd), ∀ d ∈ r, Ly S4 60 d := fun S4 r hr => by
          obtain ⟨x, hx, rfl⟩ := List.mem_map.mp hr
          obtain ⟨z, hz, rfl⟩ := List.mem_map.mp hx
          exact sts_ly hgd
        obtain ⟨la, ra, rA, hhA, _, _⟩ := id hS3
        obtain ⟨lb, rb, rB, hhB, _, _⟩ := id o3.sh
        have insA := hhA.ins
        have insB := hhB.ins
        clear hhA hhB
        refine ⟨_, rfl, a', F', cs, rs', (hs j).dd, s2, rfl, hS3, hJ3, hjl j, hsp, hso, fun l1 p1 S4 b4 e4 L4 => ?_⟩
        refine ⟨_, rfl, a j, (hs j).F, cs, (hs j).rs, (hs j).dd, s2, rfl, o3.sh.sub b4, o3.rj, hjl j, hsp, hso, fun l2 p2 S5 b5 e5 L5 => ?_⟩
        refine eq_lists2 (b5 _ _ e4) e5 (L4.sub b5) L5 (hlyR _) ⟨_, rfl, iteF ?_⟩
        have b35 := b4.trans b5
        refine ⟨_, rfl, _, rfl, a j, (hs j).F, cs, (hs j).rs, (hs j).dd, s2, ky, rfl, o3.sh.sub b35, b35 _ _ hky3, o3.rj, hjl j, hsp, hso, fun l3 p3 S6 b6 e6 L6 => ?_⟩
        have b36 := b35.trans b6
        refine ⟨_, rfl, a j, (hs j).F, cs, (hs j).rs, (hs j).dd, s2, rfl, o3.sh.sub b36, o3.rj, hjl j, hsp, hso, fun l4 p4 S7 b7 e7 L7 => ?_⟩
        refine eq_lists2 (b7 _ _ e6) e7 (L6.sub b7) L7 (hlyR _) ⟨_, rfl, iteF ?_⟩
        have b37 := b36.trans b7
        refine ⟨_, rfl, _, b37 _ _ hky3, ?_⟩
        refine comp_lists (stR (hs j).dd) (fun S8 hs8 => hs8 _ _ (b37 _ _ hky3)) (show (KS.map D.str).length ≤ 1000 by decide) (fun d hd S8 hs8 Q hQ => ?_) fun l5 S8 b8 L8 _ _ p5 hp5 => ?_
        · obtain ⟨z, hz, rfl⟩ := List.mem_map.mp hd
          refine ⟨_, rfl, a', _, rfl, (b37.trans hs8) _ _ insA, rfl, _, rfl, a', F', cs, _, rs', .str z, rfl, hS3.sub (b37.trans hs8), gt_KS hz, fun p hp => ?_⟩
          rw [stKS hJ3 hz]
          exact hQ p _ hp (.new hp) sset_same
        have b38 := b37.trans b8
        have b39 : Sub S3 (S8.set p5 (.lst (l5.map D.ref))) := b38.trans (.new hp5)
        have e9 : (S8.set p5 (.lst (l5.map D.ref))) p5 = some (.lst (l5.map D.ref)) := sset_same
        have L9 := L8.sub (.new (c := .lst (l5.map D.ref)) hp5)
        generalize S8.set p5 (.lst (l5.map D.ref)) = S9 at b39 e9 L9 ⊢
        refine ⟨_, rfl, _, b39 _ _ hky3, ?_⟩
        refine comp_lists (stR (hs j).dd) (fun S8 hs8 => hs8 _ _ (b39 _ _ hky3)) (show (KS.map D.str).length ≤ 1000 by decide) (fun d hd S8 hs8 Q hQ => ?_) fun l6 S10 b10 L10 _ _ p6 hp6 => ?_
        · obtain ⟨z, hz, rfl⟩ := List.mem_map.mp hd
          refine ⟨_, rfl, a j, _, rfl, (b39.trans hs8) _ _ insB, rfl, _, rfl, a j, (hs j).F, cs, _, (hs j).rs, .str z, rfl, o3.sh.sub (b39.trans hs8), gt_KS hz, fun p hp => ?_⟩
          rw [stKS o3.rj hz]
          exact hQ p _ hp (.new hp) sset_same
        have b311 : Sub S3 (S10.set p6 (.lst (l6.map D.ref))) := (b39.trans b10).trans (.new hp6)
        refine eq_lists2 ((Sub.new hp6) _ _ (b10 _ _ e9)) sset_same ((L9.sub b10).sub (.new hp6)) (L10.sub (.new hp6)) (hlyS _) ⟨_, rfl, iteF ?_⟩
        generalize S10.set p6 (.lst (l6.map D.ref)) = S11 at b311 ⊢
        refine ⟨_, rfl, a', _, rfl, b311 _ _ insA, rfl, a', F', cs, _, rs', rfl, hS3.sub b311, fun p7 hp7 => ?_⟩
        have b312 := b311.trans (.new (c := .lst ((hs j).dd.map ddD)) hp7)
        refine ⟨_, rfl, a j, _, rfl, b312 _ _ insB, rfl, a j, (hs j).F, cs, _, (hs j).rs, rfl, o3.sh.sub b312, fun p8 hp8 => ?_⟩
        have b313 := b312.trans (.new (c := .lst ((hs j).dd.map ddD)) hp8)
        refine eq_lists ((Sub.new hp8) _ _ sset_same) sset_same (dd_ly hgd) ⟨_, rfl, iteF ?_⟩
        refine ⟨_, rfl, a', _, rfl, b313 _ _ insA, rfl, a', F', cs, _, rs', rfl, hS3.sub b313, ?_⟩
        refine ⟨_, rfl, a j, _, rfl, b313 _ _ insB, rfl, a j, (hs j).F, cs, _, (hs j).rs, rfl, o3.sh.sub b313, _, rfl, ?_⟩
        refine ifb (fun hx => ?_) (fun _ => ⟨_, _, rfl, base3.trans b313⟩)
        have hx : (!decide (((((hs j).dd.map ddD).length : Nat) : Int) = ((((hs j).dd.map ddD).length : Nat) : Int))) = true := hx
        rw [decide_eq_true rfl] at hx
        cases hx
      · rintro σ' S2 ⟨o12, o13, rfl, hb⟩
        have h2 := h1.sub hb
        obtain ⟨hsh2, _, _, hlc2⟩ := hmS hfx h2
        obtain ⟨ld4, lr4, ra4, hh4, _, _⟩ := id (h2.ok false).sh
        obtain ⟨ld5, lr5, ra5, hh5, _, _⟩ := id (h2.ok true).sh
        refine ⟨_, rfl, _, _, hsh2, at_two a false, a false, _, rfl, hh4.ins, rfl, a false, _, cs, _, _, rfl, (h2.ok false).sh, ?_⟩
        refine ⟨_, rfl, _, _, hsh2, at_two a true, a true, _, rfl, hh5.ins, rfl, a true, _, cs, _, _, rfl, (h2.ok true).sh, ?_⟩
        refine ⟨_, rfl, _, rfl, .inl ⟨_, hlc2, ?_⟩⟩
        have e : decide (((((hs false).dd.map ddD).length : Nat) : Int) + ((((hs true).dd.map ddD).length : Nat) : Int) = (((ls.map D.int).length : Nat) : Int)) = true := decide_eq_true (by rw [List.length_map, List.length_map, List.length_map]; omega)
        have hq : R (.bl (decide (((((hs false).dd.map ddD).length : Nat) : Int) + ((((hs true).dd.map ddD).length : Nat) : Int) = (((ls.map D.int).length : Nat) : Int)))) S := by rw [e]; exact q
        exact ⟨S, fun b c hb' => (h2.far b c hb').1, hq⟩
def sp_law (K : PySem.W.Frag) : Sp := fun vs H Q _ => SpL K spLaw vs H Q E0
theorem ok_law (T : Txt K mg t) : FnOk P w K mg base CX0 20 t.f_law t.d_law ["_law_script"] (sp_law K) := FnOk.calm (ok_lawD T)
end
theorem sp_start {K : PySem.W.Frag} {H : Hp} {a : Addr} {ns : List Int} (hl : ns.length ≤ 63) (hO : Only H) (hS : SqL K H a (ns.map V.int)) : sp_law K [.ref a] H (fun v _ => v = .bl true) fun _ _ _ => False := by
  have hR : RoL K H a (ns.map V.int) := by
    rcases hS with (h | h) | h
    · rcases hO a with q | ⟨o, xs, q⟩
      · rw [q] at h; cases h
      · rw [q] at h; cases h
    · exact .inl h
    · exact .inr h
  exact ⟨[.rol (ns.map D.int)], fun _ => none, fun d _ => d = .bl true, fun _ _ => False, ra_cons (rv_rol hR (ra_ints ns)) ra_nil, fun _ _ e => (by cases e), ⟨ns, rfl, hl, rfl⟩, fun d S v H' e r _ _ => by subst e; exact r.bl, fun _ _ _ z => z.elim⟩
end My
namespace My
open PySem L2
theorem txt_mk {K : PySem.W.Frag} {h : Heap} {mg : Str → Option Value} (X : K.In h) (G : h.Ns mainGlobals mg)
    {f0 : Addr} {od0 an0 : Option Addr} {sl0 : Array (Option Value)} {oc0 kV0 dc0 pm0 cd0 ct0 : Value}
    {f1 : Addr} {od1 an1 : Option Addr} {sl1 : Array (Option Value)} {oc1 kV1 dc1 pm1 cd1 ct1 : Value}
    {f2 : Addr} {od2 an2 : Option Addr} {sl2 : Array (Option Value)} {oc2 kV2 dc2 pm2 cd2 ct2 : Value}
    {f3 : Addr} {od3 an3 : Option Addr} {sl3 : Array (Option Value)} {oc3 kV3 dc3 pm3 cd3 ct3 : Value}
    {f4 : Addr} {od4 an4 : Option Addr} {sl4 : Array (Option Value)} {oc4 kV4 dc4 pm4 cd4 ct4 : Value}
    {f5 : Addr} {od5 an5 : Option Addr} {sl5 : Array (Option Value)} {oc5 kV5 dc5 pm5 cd5 ct5 : Value}
    {f6 : Addr} {od6 an6 : Option Addr} {sl6 : Array (Option Value)} {oc6 kV6 dc6 pm6 cd6 ct6 : Value}
    {f7 : Addr} {od7 an7 : Option Addr} {sl7 : Array (Option Value)} {oc7 kV7 dc7 pm7 cd7 ct7 : Value}
    {f8 : Addr} {od8 an8 : Option Addr} {sl8 : Array (Option Value)} {oc8 kV8 dc8 pm8 cd8 ct8 : Value}
    {f9 : Addr} {od9 an9 : Option Addr} {sl9 : Array (Option Value)} {oc9 kV9 dc9 pm9 cd9 ct9 : Value}
    {f10 : Addr} {od10 an10 : Option Addr} {sl10 : Array (Option Value)} {oc10 kV10 dc10 pm10 cd10 ct10 : Value}
    {f11 : Addr} {od11 an11 : Option Addr} {sl11 : Array (Option Value)} {oc11 kV11 dc11 pm11 cd11 ct11 : Value}
    {f12 : Addr} {od12 an12 : Option Addr} {sl12 : Array (Option Value)} {oc12 kV12 dc12 pm12 cd12 ct12 : Value}
    {f13 : Addr} {od13 an13 : Option Addr} {sl13 : Array (Option Value)} {oc13 kV13 dc13 pm13 cd13 ct13 : Value}
    {f14 : Addr} {od14 an14 : Option Addr} {sl14 : Array (Option Value)} {oc14 kV14 dc14 pm14 cd14 ct14 : Value}
    {f15 : Addr} {od15 an15 : Option Addr} {sl15 : Array (Option Value)} {oc15 kV15 dc15 pm15 cd15 ct15 : Value}
    {f16 : Addr} {od16 an16 : Option Addr} {sl16 : Array (Option Value)} {oc16 kV16 dc16 pm16 cd16 ct16 : Value}
    {f17 : Addr} {od17 an17 : Option Addr} {sl17 : Array (Option Value)} {oc17 kV17 dc17 pm17 cd17 ct17 : Value}
    {f18 : Addr} {od18 an18 : Option Addr} {sl18 : Array (Option Value)} {oc18 kV18 dc18 pm18 cd18 ct18 : Value}
    {f19 : Addr} {od19 an19 : Option Addr} {sl19 : Array (Option Value)} {oc19 kV19 dc19 pm19 cd19 ct19 : Value}
    {f20 : Addr} {od20 an20 : Option Addr} {sl20 : Array (Option Value)} {oc20 kV20 dc20 pm20 cd20 ct20 : Value}
    {f21 : Addr} {od21 an21 : Option Addr} {sl21 : Array (Option Value)} {oc21 kV21 dc21 pm21 cd21 ct21 : Value}
    {f22 : Addr} {od22 an22 : Option Addr} {sl22 : Array (Option Value)} {oc22 kV22 dc22 pm22 cd22 ct22 : Value}
    {f23 : Addr} {od23 an23 : Option Addr} {sl23 : Array (Option Value)} {oc23 kV23 dc23 pm23 cd23 ct23 : Value}
    {f24 : Addr} {od24 an24 : Option Addr} {sl24 : Array (Option Value)} {oc24 kV24 dc24 pm24 cd24 ct24 : Value}
    {f25 : Addr} {od25 an25 : Option Addr} {sl25 : Array (Option Value)} {oc25 kV25 dc25 pm25 cd25 ct25 : Value}
    {f26 : Addr} {od26 an26 : Option Addr} {sl26 : Array (Option Value)} {oc26 kV26 dc26 pm26 cd26 ct26 : Value}
    {f27 : Addr} {od27 an27 : Option Addr} {sl27 : Array (Option Value)} {oc27 kV27 dc27 pm27 cd27 ct27 : Value}
    {f28 : Addr} {od28 an28 : Option Addr} {sl28 : Array (Option Value)} {oc28 kV28 dc28 pm28 cd28 ct28 : Value}
    {f29 : Addr} {od29 an29 : Option Addr} {sl29 : Array (Option Value)} {oc29 kV29 dc29 pm29 cd29 ct29 : Value}
    {f30 : Addr} {od30 an30 : Option Addr} {sl30 : Array (Option Value)} {oc30 kV30 dc30 pm30 cd30 ct30 : Value}
    {f31 : Addr} {od31 an31 : Option Addr} {sl31 : Array (Option Value)} {oc31 kV31 dc31 pm31 cd31 ct31 : Value}
    {f32 : Addr} {od32 an32 : Option Addr} {sl32 : Array (Option Value)} {oc32 kV32 dc32 pm32 cd32 ct32 : Value}
    {f33 : Addr} {od33 an33 : Option Addr} {sl33 : Array (Option Value)} {oc33 kV33 dc33 pm33 cd33 ct33 : Value}
    {f34 : Addr} {od34 an34 : Option Addr} {sl34 : Array (Option Value)} {oc34 kV34 dc34 pm34 cd34 ct34 : Value}
    {f35 : Addr} {od35 an35 : Option Addr} {sl35 : Array (Option Value)} {oc35 kV35 dc35 pm35 cd35 ct35 : Value}
    {f36 : Addr} {od36 an36 : Option Addr} {sl36 : Array (Option Value)} {oc36 kV36 dc36 pm36 cd36 ct36 : Value}
    {da36 : Addr} {dod36 : Option Addr} {dn36 : Nat} {dsl36 : Array (Option Value)}
    {f37 : Addr} {od37 an37 : Option Addr} {sl37 : Array (Option Value)} {oc37 kV37 dc37 pm37 cd37 ct37 : Value}
    {da37 : Addr} {dod37 : Option Addr} {dn37 : Nat} {dsl37 : Array (Option Value)}
    {f38 : Addr} {od38 an38 : Option Addr} {sl38 : Array (Option Value)} {oc38 kV38 dc38 pm38 cd38 ct38 : Value}
    {f39 : Addr} {od39 an39 : Option Addr} {sl39 : Array (Option Value)} {oc39 kV39 dc39 pm39 cd39 ct39 : Value}
    {f40 : Addr} {od40 an40 : Option Addr} {sl40 : Array (Option Value)} {oc40 kV40 dc40 pm40 cd40 ct40 : Value}
    {tk_MOST_NAME_SIGNS : Tok}
    {tk_MOST_KEY_SIGNS : Tok}
    {tk_MOST_WORD_SIGNS : Tok}
    {tk_MOST_COLUMNS : Tok}
    {a_KINDS : Addr} {od_KINDS : Option Addr} {n_KINDS : Nat} {sl_KINDS : Array (Option Value)} {u0_KINDS u1_KINDS : Tok}
    {c_PageError : Addr}
    {c_BadColumns : Addr}
    {c_BadRow : Addr}
    {c_HasKey : Addr}
    {c_NoKey : Addr}
    {c_NoMoment : Addr}
    {c_Shelf : Addr}
    (g_PageError : PySem.W.nsIn K mainGlobals "PageError" = some (some (.ref c_PageError)))
    (g_BadColumns : PySem.W.nsIn K mainGlobals "BadColumns" = some (some (.ref c_BadColumns)))
    (g_BadRow : PySem.W.nsIn K mainGlobals "BadRow" = some (some (.ref c_BadRow)))
    (g_HasKey : PySem.W.nsIn K mainGlobals "HasKey" = some (some (.ref c_HasKey)))
    (g_NoKey : PySem.W.nsIn K mainGlobals "NoKey" = some (some (.ref c_NoKey)))
    (g_NoMoment : PySem.W.nsIn K mainGlobals "NoMoment" = some (some (.ref c_NoMoment)))
    (g_Shelf : PySem.W.nsIn K mainGlobals "Shelf" = some (some (.ref c_Shelf)))
    (a0 : PySem.W.nsIn K mainGlobals "is_whole" = some (some (.ref f0)))
    (l0 : K.lookup f0 = some ⟨oc0, od0, .func (PySem.W.fnOf "is_whole" "is_whole" (defArgs s_is_whole) (defBody s_is_whole) (defScope s_is_whole) (.none) kV0 dc0 pm0 an0 cd0 ct0), sl0⟩)
    (c0 : PySem.W.codeIn K cd0 "is_whole" = true)
    (k0 : PySem.W.keepIn K (.ref f0) = true)
    (a1 : PySem.W.nsIn K mainGlobals "is_letter" = some (some (.ref f1)))
    (l1 : K.lookup f1 = some ⟨oc1, od1, .func (PySem.W.fnOf "is_letter" "is_letter" (defArgs s_is_letter) (defBody s_is_letter) (defScope s_is_letter) (.none) kV1 dc1 pm1 an1 cd1 ct1), sl1⟩)
    (c1 : PySem.W.codeIn K cd1 "is_letter" = true)
    (k1 : PySem.W.keepIn K (.ref f1) = true)
    (a2 : PySem.W.nsIn K mainGlobals "is_figure" = some (some (.ref f2)))
    (l2 : K.lookup f2 = some ⟨oc2, od2, .func (PySem.W.fnOf "is_figure" "is_figure" (defArgs s_is_figure) (defBody s_is_figure) (defScope s_is_figure) (.none) kV2 dc2 pm2 an2 cd2 ct2), sl2⟩)
    (c2 : PySem.W.codeIn K cd2 "is_figure" = true)
    (k2 : PySem.W.keepIn K (.ref f2) = true)
    (a3 : PySem.W.nsIn K mainGlobals "is_name" = some (some (.ref f3)))
    (l3 : K.lookup f3 = some ⟨oc3, od3, .func (PySem.W.fnOf "is_name" "is_name" (defArgs s_is_name) (defBody s_is_name) (defScope s_is_name) (.none) kV3 dc3 pm3 an3 cd3 ct3), sl3⟩)
    (c3 : PySem.W.codeIn K cd3 "is_name" = true)
    (k3 : PySem.W.keepIn K (.ref f3) = true)
    (a4 : PySem.W.nsIn K mainGlobals "is_key" = some (some (.ref f4)))
    (l4 : K.lookup f4 = some ⟨oc4, od4, .func (PySem.W.fnOf "is_key" "is_key" (defArgs s_is_key) (defBody s_is_key) (defScope s_is_key) (.none) kV4 dc4 pm4 an4 cd4 ct4), sl4⟩)
    (c4 : PySem.W.codeIn K cd4 "is_key" = true)
    (k4 : PySem.W.keepIn K (.ref f4) = true)
    (a5 : PySem.W.nsIn K mainGlobals "is_word" = some (some (.ref f5)))
    (l5 : K.lookup f5 = some ⟨oc5, od5, .func (PySem.W.fnOf "is_word" "is_word" (defArgs s_is_word) (defBody s_is_word) (defScope s_is_word) (.none) kV5 dc5 pm5 an5 cd5 ct5), sl5⟩)
    (c5 : PySem.W.codeIn K cd5 "is_word" = true)
    (k5 : PySem.W.keepIn K (.ref f5) = true)
    (a6 : PySem.W.nsIn K mainGlobals "is_kind" = some (some (.ref f6)))
    (l6 : K.lookup f6 = some ⟨oc6, od6, .func (PySem.W.fnOf "is_kind" "is_kind" (defArgs s_is_kind) (defBody s_is_kind) (defScope s_is_kind) (.none) kV6 dc6 pm6 an6 cd6 ct6), sl6⟩)
    (c6 : PySem.W.codeIn K cd6 "is_kind" = true)
    (k6 : PySem.W.keepIn K (.ref f6) = true)
    (a7 : PySem.W.nsIn K mainGlobals "is_value" = some (some (.ref f7)))
    (l7 : K.lookup f7 = some ⟨oc7, od7, .func (PySem.W.fnOf "is_value" "is_value" (defArgs s_is_value) (defBody s_is_value) (defScope s_is_value) (.none) kV7 dc7 pm7 an7 cd7 ct7), sl7⟩)
    (c7 : PySem.W.codeIn K cd7 "is_value" = true)
    (k7 : PySem.W.keepIn K (.ref f7) = true)
    (a8 : PySem.W.nsIn K mainGlobals "check_columns" = some (some (.ref f8)))
    (l8 : K.lookup f8 = some ⟨oc8, od8, .func (PySem.W.fnOf "check_columns" "check_columns" (defArgs s_check_columns) (defBody s_check_columns) (defScope s_check_columns) (.none) kV8 dc8 pm8 an8 cd8 ct8), sl8⟩)
    (c8 : PySem.W.codeIn K cd8 "check_columns" = true)
    (k8 : PySem.W.keepIn K (.ref f8) = true)
    (a9 : PySem.W.nsIn K mainGlobals "is_column" = some (some (.ref f9)))
    (l9 : K.lookup f9 = some ⟨oc9, od9, .func (PySem.W.fnOf "is_column" "is_column" (defArgs s_is_column) (defBody s_is_column) (defScope s_is_column) (.none) kV9 dc9 pm9 an9 cd9 ct9), sl9⟩)
    (c9 : PySem.W.codeIn K cd9 "is_column" = true)
    (k9 : PySem.W.keepIn K (.ref f9) = true)
    (a10 : PySem.W.nsIn K mainGlobals "names_of" = some (some (.ref f10)))
    (l10 : K.lookup f10 = some ⟨oc10, od10, .func (PySem.W.fnOf "names_of" "names_of" (defArgs s_names_of) (defBody s_names_of) (defScope s_names_of) (.none) kV10 dc10 pm10 an10 cd10 ct10), sl10⟩)
    (c10 : PySem.W.codeIn K cd10 "names_of" = true)
    (k10 : PySem.W.keepIn K (.ref f10) = true)
    (a11 : PySem.W.nsIn K mainGlobals "check_row" = some (some (.ref f11)))
    (l11 : K.lookup f11 = some ⟨oc11, od11, .func (PySem.W.fnOf "check_row" "check_row" (defArgs s_check_row) (defBody s_check_row) (defScope s_check_row) (.none) kV11 dc11 pm11 an11 cd11 ct11), sl11⟩)
    (c11 : PySem.W.codeIn K cd11 "check_row" = true)
    (k11 : PySem.W.keepIn K (.ref f11) = true)
    (a12 : PySem.W.nsIn K mainGlobals "are_worths" = some (some (.ref f12)))
    (l12 : K.lookup f12 = some ⟨oc12, od12, .func (PySem.W.fnOf "are_worths" "are_worths" (defArgs s_are_worths) (defBody s_are_worths) (defScope s_are_worths) (.none) kV12 dc12 pm12 an12 cd12 ct12), sl12⟩)
    (c12 : PySem.W.codeIn K cd12 "are_worths" = true)
    (k12 : PySem.W.keepIn K (.ref f12) = true)
    (a13 : PySem.W.nsIn K mainGlobals "worths_then" = some (some (.ref f13)))
    (l13 : K.lookup f13 = some ⟨oc13, od13, .func (PySem.W.fnOf "worths_then" "worths_then" (defArgs s_worths_then) (defBody s_worths_then) (defScope s_worths_then) (.none) kV13 dc13 pm13 an13 cd13 ct13), sl13⟩)
    (c13 : PySem.W.codeIn K cd13 "worths_then" = true)
    (k13 : PySem.W.keepIn K (.ref f13) = true)
    (a14 : PySem.W.nsIn K mainGlobals "_law_cell_at" = some (some (.ref f14)))
    (l14 : K.lookup f14 = some ⟨oc14, od14, .func (PySem.W.fnOf "_law_cell_at" "_law_cell_at" (defArgs s_l_cell_at) (defBody s_l_cell_at) (defScope s_l_cell_at) (.none) kV14 dc14 pm14 an14 cd14 ct14), sl14⟩)
    (c14 : PySem.W.codeIn K cd14 "_law_cell_at" = true)
    (k14 : PySem.W.keepIn K (.ref f14) = true)
    (a15 : PySem.W.nsIn K mainGlobals "_law_well" = some (some (.ref f15)))
    (l15 : K.lookup f15 = some ⟨oc15, od15, .func (PySem.W.fnOf "_law_well" "_law_well" (defArgs s_l_well) (defBody s_l_well) (defScope s_l_well) (.none) kV15 dc15 pm15 an15 cd15 ct15), sl15⟩)
    (c15 : PySem.W.codeIn K cd15 "_law_well" = true)
    (k15 : PySem.W.keepIn K (.ref f15) = true)
    (a16 : PySem.W.nsIn K mainGlobals "_law_draw" = some (some (.ref f16)))
    (l16 : K.lookup f16 = some ⟨oc16, od16, .func (PySem.W.fnOf "_law_draw" "_law_draw" (defArgs s_l_draw) (defBody s_l_draw) (defScope s_l_draw) (.none) kV16 dc16 pm16 an16 cd16 ct16), sl16⟩)
    (c16 : PySem.W.codeIn K cd16 "_law_draw" = true)
    (k16 : PySem.W.keepIn K (.ref f16) = true)
    (a17 : PySem.W.nsIn K mainGlobals "_law_columns" = some (some (.ref f17)))
    (l17 : K.lookup f17 = some ⟨oc17, od17, .func (PySem.W.fnOf "_law_columns" "_law_columns" (defArgs s_l_columns) (defBody s_l_columns) (defScope s_l_columns) (.none) kV17 dc17 pm17 an17 cd17 ct17), sl17⟩)
    (c17 : PySem.W.codeIn K cd17 "_law_columns" = true)
    (k17 : PySem.W.keepIn K (.ref f17) = true)
    (a18 : PySem.W.nsIn K mainGlobals "_law_value" = some (some (.ref f18)))
    (l18 : K.lookup f18 = some ⟨oc18, od18, .func (PySem.W.fnOf "_law_value" "_law_value" (defArgs s_l_value) (defBody s_l_value) (defScope s_l_value) (.none) kV18 dc18 pm18 an18 cd18 ct18), sl18⟩)
    (c18 : PySem.W.codeIn K cd18 "_law_value" = true)
    (k18 : PySem.W.keepIn K (.ref f18) = true)
    (a19 : PySem.W.nsIn K mainGlobals "_law_worths" = some (some (.ref f19)))
    (l19 : K.lookup f19 = some ⟨oc19, od19, .func (PySem.W.fnOf "_law_worths" "_law_worths" (defArgs s_l_worths) (defBody s_l_worths) (defScope s_l_worths) (.none) kV19 dc19 pm19 an19 cd19 ct19), sl19⟩)
    (c19 : PySem.W.codeIn K cd19 "_law_worths" = true)
    (k19 : PySem.W.keepIn K (.ref f19) = true)
    (a20 : PySem.W.nsIn K mainGlobals "_law_key" = some (some (.ref f20)))
    (l20 : K.lookup f20 = some ⟨oc20, od20, .func (PySem.W.fnOf "_law_key" "_law_key" (defArgs s_l_key) (defBody s_l_key) (defScope s_l_key) (.none) kV20 dc20 pm20 an20 cd20 ct20), sl20⟩)
    (c20 : PySem.W.codeIn K cd20 "_law_key" = true)
    (k20 : PySem.W.keepIn K (.ref f20) = true)
    (a21 : PySem.W.nsIn K mainGlobals "_law_deed" = some (some (.ref f21)))
    (l21 : K.lookup f21 = some ⟨oc21, od21, .func (PySem.W.fnOf "_law_deed" "_law_deed" (defArgs s_l_deed) (defBody s_l_deed) (defScope s_l_deed) (.none) kV21 dc21 pm21 an21 cd21 ct21), sl21⟩)
    (c21 : PySem.W.codeIn K cd21 "_law_deed" = true)
    (k21 : PySem.W.keepIn K (.ref f21) = true)
    (a22 : PySem.W.nsIn K mainGlobals "_law_known" = some (some (.ref f22)))
    (l22 : K.lookup f22 = some ⟨oc22, od22, .func (PySem.W.fnOf "_law_known" "_law_known" (defArgs s_l_known) (defBody s_l_known) (defScope s_l_known) (.none) kV22 dc22 pm22 an22 cd22 ct22), sl22⟩)
    (c22 : PySem.W.codeIn K cd22 "_law_known" = true)
    (k22 : PySem.W.keepIn K (.ref f22) = true)
    (a23 : PySem.W.nsIn K mainGlobals "_law_does" = some (some (.ref f23)))
    (l23 : K.lookup f23 = some ⟨oc23, od23, .func (PySem.W.fnOf "_law_does" "_law_does" (defArgs s_l_does) (defBody s_l_does) (defScope s_l_does) (.none) kV23 dc23 pm23 an23 cd23 ct23), sl23⟩)
    (c23 : PySem.W.codeIn K cd23 "_law_does" = true)
    (k23 : PySem.W.keepIn K (.ref f23) = true)
    (a24 : PySem.W.nsIn K mainGlobals "_law_all" = some (some (.ref f24)))
    (l24 : K.lookup f24 = some ⟨oc24, od24, .func (PySem.W.fnOf "_law_all" "_law_all" (defArgs s_l_all) (defBody s_l_all) (defScope s_l_all) (.none) kV24 dc24 pm24 an24 cd24 ct24), sl24⟩)
    (c24 : PySem.W.codeIn K cd24 "_law_all" = true)
    (k24 : PySem.W.keepIn K (.ref f24) = true)
    (a25 : PySem.W.nsIn K mainGlobals "_law_by_standings" = some (some (.ref f25)))
    (l25 : K.lookup f25 = some ⟨oc25, od25, .func (PySem.W.fnOf "_law_by_standings" "_law_by_standings" (defArgs s_l_by_standings) (defBody s_l_by_standings) (defScope s_l_by_standings) (.none) kV25 dc25 pm25 an25 cd25 ct25), sl25⟩)
    (c25 : PySem.W.codeIn K cd25 "_law_by_standings" = true)
    (k25 : PySem.W.keepIn K (.ref f25) = true)
    (a26 : PySem.W.nsIn K mainGlobals "_law_again" = some (some (.ref f26)))
    (l26 : K.lookup f26 = some ⟨oc26, od26, .func (PySem.W.fnOf "_law_again" "_law_again" (defArgs s_l_again) (defBody s_l_again) (defScope s_l_again) (.none) kV26 dc26 pm26 an26 cd26 ct26), sl26⟩)
    (c26 : PySem.W.codeIn K cd26 "_law_again" = true)
    (k26 : PySem.W.keepIn K (.ref f26) = true)
    (a27 : PySem.W.nsIn K mainGlobals "law" = some (some (.ref f27)))
    (l27 : K.lookup f27 = some ⟨oc27, od27, .func (PySem.W.fnOf "law" "law" (defArgs s_law) (defBody s_law) (defScope s_law) (.none) kV27 dc27 pm27 an27 cd27 ct27), sl27⟩)
    (c27 : PySem.W.codeIn K cd27 "law" = true)
    (k27 : PySem.W.keepIn K (.ref f27) = true)
    (a28 : PySem.W.findIn K (.ref c_Shelf) "__init__" = some (some (.ref f28)))
    (i28 : PySem.W.isFn K (.ref f28) = true)
    (l28 : K.lookup f28 = some ⟨oc28, od28, .func (PySem.W.fnOf "__init__" "Shelf.__init__" (defArgs (inClass s_Shelf 0)) (defBody (inClass s_Shelf 0)) (defScope (inClass s_Shelf 0)) (.none) kV28 dc28 pm28 an28 cd28 ct28), sl28⟩)
    (c28 : PySem.W.codeIn K cd28 "Shelf.__init__" = true)
    (k28 : PySem.W.keepIn K (.ref f28) = true)
    (a29 : PySem.W.findIn K (.ref c_Shelf) "put" = some (some (.ref f29)))
    (i29 : PySem.W.isFn K (.ref f29) = true)
    (l29 : K.lookup f29 = some ⟨oc29, od29, .func (PySem.W.fnOf "put" "Shelf.put" (defArgs (inClass s_Shelf 1)) (defBody (inClass s_Shelf 1)) (defScope (inClass s_Shelf 1)) (.none) kV29 dc29 pm29 an29 cd29 ct29), sl29⟩)
    (c29 : PySem.W.codeIn K cd29 "Shelf.put" = true)
    (k29 : PySem.W.keepIn K (.ref f29) = true)
    (a30 : PySem.W.findIn K (.ref c_Shelf) "change" = some (some (.ref f30)))
    (i30 : PySem.W.isFn K (.ref f30) = true)
    (l30 : K.lookup f30 = some ⟨oc30, od30, .func (PySem.W.fnOf "change" "Shelf.change" (defArgs (inClass s_Shelf 2)) (defBody (inClass s_Shelf 2)) (defScope (inClass s_Shelf 2)) (.none) kV30 dc30 pm30 an30 cd30 ct30), sl30⟩)
    (c30 : PySem.W.codeIn K cd30 "Shelf.change" = true)
    (k30 : PySem.W.keepIn K (.ref f30) = true)
    (a31 : PySem.W.findIn K (.ref c_Shelf) "take" = some (some (.ref f31)))
    (i31 : PySem.W.isFn K (.ref f31) = true)
    (l31 : K.lookup f31 = some ⟨oc31, od31, .func (PySem.W.fnOf "take" "Shelf.take" (defArgs (inClass s_Shelf 3)) (defBody (inClass s_Shelf 3)) (defScope (inClass s_Shelf 3)) (.none) kV31 dc31 pm31 an31 cd31 ct31), sl31⟩)
    (c31 : PySem.W.codeIn K cd31 "Shelf.take" = true)
    (k31 : PySem.W.keepIn K (.ref f31) = true)
    (a32 : PySem.W.findIn K (.ref c_Shelf) "check_stands" = some (some (.ref f32)))
    (i32 : PySem.W.isFn K (.ref f32) = true)
    (l32 : K.lookup f32 = some ⟨oc32, od32, .func (PySem.W.fnOf "check_stands" "Shelf.check_stands" (defArgs (inClass s_Shelf 4)) (defBody (inClass s_Shelf 4)) (defScope (inClass s_Shelf 4)) (.none) kV32 dc32 pm32 an32 cd32 ct32), sl32⟩)
    (c32 : PySem.W.codeIn K cd32 "Shelf.check_stands" = true)
    (k32 : PySem.W.keepIn K (.ref f32) = true)
    (a33 : PySem.W.findIn K (.ref c_Shelf) "begin_standing" = some (some (.ref f33)))
    (i33 : PySem.W.isFn K (.ref f33) = true)
    (l33 : K.lookup f33 = some ⟨oc33, od33, .func (PySem.W.fnOf "begin_standing" "Shelf.begin_standing" (defArgs (inClass s_Shelf 5)) (defBody (inClass s_Shelf 5)) (defScope (inClass s_Shelf 5)) (.none) kV33 dc33 pm33 an33 cd33 ct33), sl33⟩)
    (c33 : PySem.W.codeIn K cd33 "Shelf.begin_standing" = true)
    (k33 : PySem.W.keepIn K (.ref f33) = true)
    (a34 : PySem.W.findIn K (.ref c_Shelf) "end_standing" = some (some (.ref f34)))
    (i34 : PySem.W.isFn K (.ref f34) = true)
    (l34 : K.lookup f34 = some ⟨oc34, od34, .func (PySem.W.fnOf "end_standing" "Shelf.end_standing" (defArgs (inClass s_Shelf 6)) (defBody (inClass s_Shelf 6)) (defScope (inClass s_Shelf 6)) (.none) kV34 dc34 pm34 an34 cd34 ct34), sl34⟩)
    (c34 : PySem.W.codeIn K cd34 "Shelf.end_standing" = true)
    (k34 : PySem.W.keepIn K (.ref f34) = true)
    (a35 : PySem.W.findIn K (.ref c_Shelf) "now" = some (some (.ref f35)))
    (i35 : PySem.W.isFn K (.ref f35) = true)
    (l35 : K.lookup f35 = some ⟨oc35, od35, .func (PySem.W.fnOf "now" "Shelf.now" (defArgs (inClass s_Shelf 8)) (defBody (inClass s_Shelf 8)) (defScope (inClass s_Shelf 8)) (.none) kV35 dc35 pm35 an35 cd35 ct35), sl35⟩)
    (c35 : PySem.W.codeIn K cd35 "Shelf.now" = true)
    (k35 : PySem.W.keepIn K (.ref f35) = true)
    (a36 : PySem.W.findIn K (.ref c_Shelf) "worths_at" = some (some (.ref f36)))
    (i36 : PySem.W.isFn K (.ref f36) = true)
    (l36 : K.lookup f36 = some ⟨oc36, od36, .func (PySem.W.fnOf "worths_at" "Shelf.worths_at" (defArgs (inClass s_Shelf 9)) (defBody (inClass s_Shelf 9)) (defScope (inClass s_Shelf 9)) (.ref da36) kV36 dc36 pm36 an36 cd36 ct36), sl36⟩)
    (dl36 : K.lookup da36 = some ⟨.type "tuple", dod36, .seq #[.none] dn36, dsl36⟩)
    (c36 : PySem.W.codeIn K cd36 "Shelf.worths_at" = true)
    (k36 : PySem.W.keepIn K (.ref f36) = true)
    (a37 : PySem.W.findIn K (.ref c_Shelf) "all_at" = some (some (.ref f37)))
    (i37 : PySem.W.isFn K (.ref f37) = true)
    (l37 : K.lookup f37 = some ⟨oc37, od37, .func (PySem.W.fnOf "all_at" "Shelf.all_at" (defArgs (inClass s_Shelf 10)) (defBody (inClass s_Shelf 10)) (defScope (inClass s_Shelf 10)) (.ref da37) kV37 dc37 pm37 an37 cd37 ct37), sl37⟩)
    (dl37 : K.lookup da37 = some ⟨.type "tuple", dod37, .seq #[.none] dn37, dsl37⟩)
    (c37 : PySem.W.codeIn K cd37 "Shelf.all_at" = true)
    (k37 : PySem.W.keepIn K (.ref f37) = true)
    (a38 : PySem.W.findIn K (.ref c_Shelf) "standings_of" = some (some (.ref f38)))
    (i38 : PySem.W.isFn K (.ref f38) = true)
    (l38 : K.lookup f38 = some ⟨oc38, od38, .func (PySem.W.fnOf "standings_of" "Shelf.standings_of" (defArgs (inClass s_Shelf 11)) (defBody (inClass s_Shelf 11)) (defScope (inClass s_Shelf 11)) (.none) kV38 dc38 pm38 an38 cd38 ct38), sl38⟩)
    (c38 : PySem.W.codeIn K cd38 "Shelf.standings_of" = true)
    (k38 : PySem.W.keepIn K (.ref f38) = true)
    (a39 : PySem.W.findIn K (.ref c_Shelf) "history" = some (some (.ref f39)))
    (i39 : PySem.W.isFn K (.ref f39) = true)
    (l39 : K.lookup f39 = some ⟨oc39, od39, .func (PySem.W.fnOf "history" "Shelf.history" (defArgs (inClass s_Shelf 12)) (defBody (inClass s_Shelf 12)) (defScope (inClass s_Shelf 12)) (.none) kV39 dc39 pm39 an39 cd39 ct39), sl39⟩)
    (c39 : PySem.W.codeIn K cd39 "Shelf.history" = true)
    (k39 : PySem.W.keepIn K (.ref f39) = true)
    (a40 : PySem.W.findIn K (.ref c_Shelf) "moment_meant" = some (some (.ref f40)))
    (i40 : PySem.W.isFn K (.ref f40) = true)
    (l40 : K.lookup f40 = some ⟨oc40, od40, .func (PySem.W.fnOf "moment_meant" "Shelf.moment_meant" (defArgs (inClass s_Shelf 13)) (defBody (inClass s_Shelf 13)) (defScope (inClass s_Shelf 13)) (.none) kV40 dc40 pm40 an40 cd40 ct40), sl40⟩)
    (c40 : PySem.W.codeIn K cd40 "Shelf.moment_meant" = true)
    (k40 : PySem.W.keepIn K (.ref f40) = true)
    (v_MOST_NAME_SIGNS : PySem.W.nsIn K mainGlobals "MOST_NAME_SIGNS" = some (some (.int 8 tk_MOST_NAME_SIGNS)))
    (v_MOST_KEY_SIGNS : PySem.W.nsIn K mainGlobals "MOST_KEY_SIGNS" = some (some (.int 12 tk_MOST_KEY_SIGNS)))
    (v_MOST_WORD_SIGNS : PySem.W.nsIn K mainGlobals "MOST_WORD_SIGNS" = some (some (.int 40 tk_MOST_WORD_SIGNS)))
    (v_MOST_COLUMNS : PySem.W.nsIn K mainGlobals "MOST_COLUMNS" = some (some (.int 8 tk_MOST_COLUMNS)))
    (v_KINDS : PySem.W.nsIn K mainGlobals "KINDS" = some (some (.ref a_KINDS)))
    (w_KINDS : K.lookup a_KINDS = some ⟨.type "tuple", od_KINDS, .seq #[.str "number" u0_KINDS, .str "word" u1_KINDS] n_KINDS, sl_KINDS⟩)
    (z_len : PySem.W.nsIn K mainGlobals "len" = some none)
    (z_all : PySem.W.nsIn K mainGlobals "all" = some none)
    (z_isinstance : PySem.W.nsIn K mainGlobals "isinstance" = some none)
    (z_range : PySem.W.nsIn K mainGlobals "range" = some none)
    (z_int : PySem.W.nsIn K mainGlobals "int" = some none)
    (z_str : PySem.W.nsIn K mainGlobals "str" = some none)
    (z_bool : PySem.W.nsIn K mainGlobals "bool" = some none)
    (z_tuple : PySem.W.nsIn K mainGlobals "tuple" = some none)
    (z_list : PySem.W.nsIn K mainGlobals "list" = some none)
    (z_set : PySem.W.nsIn K mainGlobals "set" = some none)
    (z_zip : PySem.W.nsIn K mainGlobals "zip" = some none)
    (z_sorted : PySem.W.nsIn K mainGlobals "sorted" = some none)
    (z_reversed : PySem.W.nsIn K mainGlobals "reversed" = some none)
    (z_ValueError : PySem.W.nsIn K mainGlobals "ValueError" = some none)
    (x_PageError : PySem.W.excIn K c_PageError L2.vErr "ValueError.__new__" = true)
    (x_BadColumns : PySem.W.excIn K c_BadColumns L2.vErr "ValueError.__new__" = true)
    (x_BadRow : PySem.W.excIn K c_BadRow L2.vErr "ValueError.__new__" = true)
    (x_HasKey : PySem.W.excIn K c_HasKey L2.vErr "ValueError.__new__" = true)
    (x_NoKey : PySem.W.excIn K c_NoKey L2.vErr "ValueError.__new__" = true)
    (x_NoMoment : PySem.W.excIn K c_NoMoment L2.vErr "ValueError.__new__" = true)
    (ga_BadColumns : PySem.W.findIn K (.ref c_BadColumns) "__getattribute__" = some (some (.builtin "BaseException.__getattribute__")))
    (gh_BadColumns : PySem.W.findIn K (.ref c_BadColumns) "__getattr__" = some none)
    (gc_BadColumns : PySem.W.findIn K (.ref c_BadColumns) "__class__" = some (some (.builtin "object.__class__")))
    (ga_BadRow : PySem.W.findIn K (.ref c_BadRow) "__getattribute__" = some (some (.builtin "BaseException.__getattribute__")))
    (gh_BadRow : PySem.W.findIn K (.ref c_BadRow) "__getattr__" = some none)
    (gc_BadRow : PySem.W.findIn K (.ref c_BadRow) "__class__" = some (some (.builtin "object.__class__")))
    (ga_HasKey : PySem.W.findIn K (.ref c_HasKey) "__getattribute__" = some (some (.builtin "BaseException.__getattribute__")))
    (gh_HasKey : PySem.W.findIn K (.ref c_HasKey) "__getattr__" = some none)
    (gc_HasKey : PySem.W.findIn K (.ref c_HasKey) "__class__" = some (some (.builtin "object.__class__")))
    (ga_NoKey : PySem.W.findIn K (.ref c_NoKey) "__getattribute__" = some (some (.builtin "BaseException.__getattribute__")))
    (gh_NoKey : PySem.W.findIn K (.ref c_NoKey) "__getattr__" = some none)
    (gc_NoKey : PySem.W.findIn K (.ref c_NoKey) "__class__" = some (some (.builtin "object.__class__")))
    (ga_NoMoment : PySem.W.findIn K (.ref c_NoMoment) "__getattribute__" = some (some (.builtin "BaseException.__getattribute__")))
    (gh_NoMoment : PySem.W.findIn K (.ref c_NoMoment) "__getattr__" = some none)
    (gc_NoMoment : PySem.W.findIn K (.ref c_NoMoment) "__class__" = some (some (.builtin "object.__class__")))
    (pg_Shelf : PySem.W.plainGet K c_Shelf Str.empty = true)
    (hd_Shelf : PySem.W.hasDictIn K c_Shelf = true)
    (po_Shelf : PySem.W.plainOver K c_Shelf = true)
    (sa_Shelf : PySem.W.findIn K (.ref c_Shelf) "__setattr__" = some (some (.builtin "object.__setattr__")))
    (ms_Shelf : PySem.W.makesIn K c_Shelf = true)
    (kc_Shelf : PySem.W.keepIn K (.ref c_Shelf) = true)
    (na_Shelf_columns : PySem.W.findIn K (.ref c_Shelf) "columns" = some none)
    (na_Shelf_deeds : PySem.W.findIn K (.ref c_Shelf) "deeds" = some none)
    (na_Shelf_runs : PySem.W.findIn K (.ref c_Shelf) "runs" = some none)
    : ∃ t : Adr, Txt K mg t := by
  have F0 : FunV K "is_whole" "is_whole" s_is_whole f0 _ := ⟨_, _, _, _, _, _, _, _, _, _, rfl, l0, c0⟩
  have b0 : Binds K (PySem.W.fnOf "is_whole" "is_whole" (defArgs s_is_whole) (defBody s_is_whole) (defScope s_is_whole) .none kV0 dc0 pm0 an0 cd0 ct0) ["thing"] [] := .all fun us hl => match us, hl with | [_], _ => rfl
  have F1 : FunV K "is_letter" "is_letter" s_is_letter f1 _ := ⟨_, _, _, _, _, _, _, _, _, _, rfl, l1, c1⟩
  have b1 : Binds K (PySem.W.fnOf "is_letter" "is_letter" (defArgs s_is_letter) (defBody s_is_letter) (defScope s_is_letter) .none kV1 dc1 pm1 an1 cd1 ct1) ["sign"] [] := .all fun us hl => match us, hl with | [_], _ => rfl
  have F2 : FunV K "is_figure" "is_figure" s_is_figure f2 _ := ⟨_, _, _, _, _, _, _, _, _, _, rfl, l2, c2⟩
  have b2 : Binds K (PySem.W.fnOf "is_figure" "is_figure" (defArgs s_is_figure) (defBody s_is_figure) (defScope s_is_figure) .none kV2 dc2 pm2 an2 cd2 ct2) ["sign"] [] := .all fun us hl => match us, hl with | [_], _ => rfl
  have F3 : FunV K "is_name" "is_name" s_is_name f3 _ := ⟨_, _, _, _, _, _, _, _, _, _, rfl, l3, c3⟩
  have b3 : Binds K (PySem.W.fnOf "is_name" "is_name" (defArgs s_is_name) (defBody s_is_name) (defScope s_is_name) .none kV3 dc3 pm3 an3 cd3 ct3) ["thing"] [] := .all fun us hl => match us, hl with | [_], _ => rfl
  have F4 : FunV K "is_key" "is_key" s_is_key f4 _ := ⟨_, _, _, _, _, _, _, _, _, _, rfl, l4, c4⟩
  have b4 : Binds K (PySem.W.fnOf "is_key" "is_key" (defArgs s_is_key) (defBody s_is_key) (defScope s_is_key) .none kV4 dc4 pm4 an4 cd4 ct4) ["thing"] [] := .all fun us hl => match us, hl with | [_], _ => rfl
  have F5 : FunV K "is_word" "is_word" s_is_word f5 _ := ⟨_, _, _, _, _, _, _, _, _, _, rfl, l5, c5⟩
  have b5 : Binds K (PySem.W.fnOf "is_word" "is_word" (defArgs s_is_word) (defBody s_is_word) (defScope s_is_word) .none kV5 dc5 pm5 an5 cd5 ct5) ["thing"] [] := .all fun us hl => match us, hl with | [_], _ => rfl
  have F6 : FunV K "is_kind" "is_kind" s_is_kind f6 _ := ⟨_, _, _, _, _, _, _, _, _, _, rfl, l6, c6⟩
  have b6 : Binds K (PySem.W.fnOf "is_kind" "is_kind" (defArgs s_is_kind) (defBody s_is_kind) (defScope s_is_kind) .none kV6 dc6 pm6 an6 cd6 ct6) ["thing"] [] := .all fun us hl => match us, hl with | [_], _ => rfl
  have F7 : FunV K "is_value" "is_value" s_is_value f7 _ := ⟨_, _, _, _, _, _, _, _, _, _, rfl, l7, c7⟩
  have b7 : Binds K (PySem.W.fnOf "is_value" "is_value" (defArgs s_is_value) (defBody s_is_value) (defScope s_is_value) .none kV7 dc7 pm7 an7 cd7 ct7) ["kind", "thing"] [] := .all fun us hl => match us, hl with | [_, _], _ => rfl
  have F8 : FunV K "check_columns" "check_columns" s_check_columns f8 _ := ⟨_, _, _, _, _, _, _, _, _, _, rfl, l8, c8⟩
  have b8 : Binds K (PySem.W.fnOf "check_columns" "check_columns" (defArgs s_check_columns) (defBody s_check_columns) (defScope s_check_columns) .none kV8 dc8 pm8 an8 cd8 ct8) ["columns"] [] := .all fun us hl => match us, hl with | [_], _ => rfl
  have F9 : FunV K "is_column" "is_column" s_is_column f9 _ := ⟨_, _, _, _, _, _, _, _, _, _, rfl, l9, c9⟩
  have b9 : Binds K (PySem.W.fnOf "is_column" "is_column" (defArgs s_is_column) (defBody s_is_column) (defScope s_is_column) .none kV9 dc9 pm9 an9 cd9 ct9) ["thing"] [] := .all fun us hl => match us, hl with | [_], _ => rfl
  have F10 : FunV K "names_of" "names_of" s_names_of f10 _ := ⟨_, _, _, _, _, _, _, _, _, _, rfl, l10, c10⟩
  have b10 : Binds K (PySem.W.fnOf "names_of" "names_of" (defArgs s_names_of) (defBody s_names_of) (defScope s_names_of) .none kV10 dc10 pm10 an10 cd10 ct10) ["columns"] [] := .all fun us hl => match us, hl with | [_], _ => rfl
  have F11 : FunV K "check_row" "check_row" s_check_row f11 _ := ⟨_, _, _, _, _, _, _, _, _, _, rfl, l11, c11⟩
  have b11 : Binds K (PySem.W.fnOf "check_row" "check_row" (defArgs s_check_row) (defBody s_check_row) (defScope s_check_row) .none kV11 dc11 pm11 an11 cd11 ct11) ["columns", "row"] [] := .all fun us hl => match us, hl with | [_, _], _ => rfl
  have F12 : FunV K "are_worths" "are_worths" s_are_worths f12 _ := ⟨_, _, _, _, _, _, _, _, _, _, rfl, l12, c12⟩
  have b12 : Binds K (PySem.W.fnOf "are_worths" "are_worths" (defArgs s_are_worths) (defBody s_are_worths) (defScope s_are_worths) .none kV12 dc12 pm12 an12 cd12 ct12) ["columns", "thing"] [] := .all fun us hl => match us, hl with | [_, _], _ => rfl
  have F13 : FunV K "worths_then" "worths_then" s_worths_then f13 _ := ⟨_, _, _, _, _, _, _, _, _, _, rfl, l13, c13⟩
  have b13 : Binds K (PySem.W.fnOf "worths_then" "worths_then" (defArgs s_worths_then) (defBody s_worths_then) (defScope s_worths_then) .none kV13 dc13 pm13 an13 cd13 ct13) ["standings", "moment"] [] := .all fun us hl => match us, hl with | [_, _], _ => rfl
  have F14 : FunV K "_law_cell_at" "_law_cell_at" s_l_cell_at f14 _ := ⟨_, _, _, _, _, _, _, _, _, _, rfl, l14, c14⟩
  have b14 : Binds K (PySem.W.fnOf "_law_cell_at" "_law_cell_at" (defArgs s_l_cell_at) (defBody s_l_cell_at) (defScope s_l_cell_at) .none kV14 dc14 pm14 an14 cd14 ct14) ["_law_script", "_law_k"] [] := .all fun us hl => match us, hl with | [_, _], _ => rfl
  have F15 : FunV K "_law_well" "_law_well" s_l_well f15 _ := ⟨_, _, _, _, _, _, _, _, _, _, rfl, l15, c15⟩
  have b15 : Binds K (PySem.W.fnOf "_law_well" "_law_well" (defArgs s_l_well) (defBody s_l_well) (defScope s_l_well) .none kV15 dc15 pm15 an15 cd15 ct15) ["_law_cell"] [] := .all fun us hl => match us, hl with | [_], _ => rfl
  have F16 : FunV K "_law_draw" "_law_draw" s_l_draw f16 _ := ⟨_, _, _, _, _, _, _, _, _, _, rfl, l16, c16⟩
  have b16 : Binds K (PySem.W.fnOf "_law_draw" "_law_draw" (defArgs s_l_draw) (defBody s_l_draw) (defScope s_l_draw) .none kV16 dc16 pm16 an16 cd16 ct16) ["_law_well_here", "_law_most"] [] := .all fun us hl => match us, hl with | [_, _], _ => rfl
  have F17 : FunV K "_law_columns" "_law_columns" s_l_columns f17 _ := ⟨_, _, _, _, _, _, _, _, _, _, rfl, l17, c17⟩
  have b17 : Binds K (PySem.W.fnOf "_law_columns" "_law_columns" (defArgs s_l_columns) (defBody s_l_columns) (defScope s_l_columns) .none kV17 dc17 pm17 an17 cd17 ct17) ["_law_well_here"] [] := .all fun us hl => match us, hl with | [_], _ => rfl
  have F18 : FunV K "_law_value" "_law_value" s_l_value f18 _ := ⟨_, _, _, _, _, _, _, _, _, _, rfl, l18, c18⟩
  have b18 : Binds K (PySem.W.fnOf "_law_value" "_law_value" (defArgs s_l_value) (defBody s_l_value) (defScope s_l_value) .none kV18 dc18 pm18 an18 cd18 ct18) ["_law_well_here", "_law_kind"] [] := .all fun us hl => match us, hl with | [_, _], _ => rfl
  have F19 : FunV K "_law_worths" "_law_worths" s_l_worths f19 _ := ⟨_, _, _, _, _, _, _, _, _, _, rfl, l19, c19⟩
  have b19 : Binds K (PySem.W.fnOf "_law_worths" "_law_worths" (defArgs s_l_worths) (defBody s_l_worths) (defScope s_l_worths) .none kV19 dc19 pm19 an19 cd19 ct19) ["_law_well_here", "_law_columns_here"] [] := .all fun us hl => match us, hl with | [_, _], _ => rfl
  have F20 : FunV K "_law_key" "_law_key" s_l_key f20 _ := ⟨_, _, _, _, _, _, _, _, _, _, rfl, l20, c20⟩
  have b20 : Binds K (PySem.W.fnOf "_law_key" "_law_key" (defArgs s_l_key) (defBody s_l_key) (defScope s_l_key) .none kV20 dc20 pm20 an20 cd20 ct20) ["_law_well_here"] [] := .all fun us hl => match us, hl with | [_], _ => rfl
  have F21 : FunV K "_law_deed" "_law_deed" s_l_deed f21 _ := ⟨_, _, _, _, _, _, _, _, _, _, rfl, l21, c21⟩
  have b21 : Binds K (PySem.W.fnOf "_law_deed" "_law_deed" (defArgs s_l_deed) (defBody s_l_deed) (defScope s_l_deed) .none kV21 dc21 pm21 an21 cd21 ct21) ["_law_well_here", "_law_columns_here", "_law_known_here"] [] := .all fun us hl => match us, hl with | [_, _, _], _ => rfl
  have F22 : FunV K "_law_known" "_law_known" s_l_known f22 _ := ⟨_, _, _, _, _, _, _, _, _, _, rfl, l22, c22⟩
  have b22 : Binds K (PySem.W.fnOf "_law_known" "_law_known" (defArgs s_l_known) (defBody s_l_known) (defScope s_l_known) .none kV22 dc22 pm22 an22 cd22 ct22) ["_law_known_here", "_law_deed_here"] [] := .all fun us hl => match us, hl with | [_, _], _ => rfl
  have F23 : FunV K "_law_does" "_law_does" s_l_does f23 _ := ⟨_, _, _, _, _, _, _, _, _, _, rfl, l23, c23⟩
  have b23 : Binds K (PySem.W.fnOf "_law_does" "_law_does" (defArgs s_l_does) (defBody s_l_does) (defScope s_l_does) .none kV23 dc23 pm23 an23 cd23 ct23) ["_law_shelf", "_law_deed_here"] [] := .all fun us hl => match us, hl with | [_, _], _ => rfl
  have F24 : FunV K "_law_all" "_law_all" s_l_all f24 _ := ⟨_, _, _, _, _, _, _, _, _, _, rfl, l24, c24⟩
  have b24 : Binds K (PySem.W.fnOf "_law_all" "_law_all" (defArgs s_l_all) (defBody s_l_all) (defScope s_l_all) .none kV24 dc24 pm24 an24 cd24 ct24) ["_law_shelf"] [] := .all fun us hl => match us, hl with | [_], _ => rfl
  have F25 : FunV K "_law_by_standings" "_law_by_standings" s_l_by_standings f25 _ := ⟨_, _, _, _, _, _, _, _, _, _, rfl, l25, c25⟩
  have b25 : Binds K (PySem.W.fnOf "_law_by_standings" "_law_by_standings" (defArgs s_l_by_standings) (defBody s_l_by_standings) (defScope s_l_by_standings) .none kV25 dc25 pm25 an25 cd25 ct25) ["_law_shelf", "_law_keys"] [] := .all fun us hl => match us, hl with | [_, _], _ => rfl
  have F26 : FunV K "_law_again" "_law_again" s_l_again f26 _ := ⟨_, _, _, _, _, _, _, _, _, _, rfl, l26, c26⟩
  have b26 : Binds K (PySem.W.fnOf "_law_again" "_law_again" (defArgs s_l_again) (defBody s_l_again) (defScope s_l_again) .none kV26 dc26 pm26 an26 cd26 ct26) ["_law_shelf", "_law_columns_here"] [] := .all fun us hl => match us, hl with | [_, _], _ => rfl
  have F27 : FunV K "law" "law" s_law f27 _ := ⟨_, _, _, _, _, _, _, _, _, _, rfl, l27, c27⟩
  have b27 : Binds K (PySem.W.fnOf "law" "law" (defArgs s_law) (defBody s_law) (defScope s_law) .none kV27 dc27 pm27 an27 cd27 ct27) ["_law_script"] [] := .all fun us hl => match us, hl with | [_], _ => rfl
  have F28 : FunV K "__init__" "Shelf.__init__" (inClass s_Shelf 0) f28 _ := ⟨_, _, _, _, _, _, _, _, _, _, rfl, l28, c28⟩
  have b28 : Binds K (PySem.W.fnOf "__init__" "Shelf.__init__" (defArgs (inClass s_Shelf 0)) (defBody (inClass s_Shelf 0)) (defScope (inClass s_Shelf 0)) .none kV28 dc28 pm28 an28 cd28 ct28) ["self", "columns"] [] := .all fun us hl => match us, hl with | [_, _], _ => rfl
  have F29 : FunV K "put" "Shelf.put" (inClass s_Shelf 1) f29 _ := ⟨_, _, _, _, _, _, _, _, _, _, rfl, l29, c29⟩
  have b29 : Binds K (PySem.W.fnOf "put" "Shelf.put" (defArgs (inClass s_Shelf 1)) (defBody (inClass s_Shelf 1)) (defScope (inClass s_Shelf 1)) .none kV29 dc29 pm29 an29 cd29 ct29) ["self", "key", "worths"] [] := .all fun us hl => match us, hl with | [_, _, _], _ => rfl
  have F30 : FunV K "change" "Shelf.change" (inClass s_Shelf 2) f30 _ := ⟨_, _, _, _, _, _, _, _, _, _, rfl, l30, c30⟩
  have b30 : Binds K (PySem.W.fnOf "change" "Shelf.change" (defArgs (inClass s_Shelf 2)) (defBody (inClass s_Shelf 2)) (defScope (inClass s_Shelf 2)) .none kV30 dc30 pm30 an30 cd30 ct30) ["self", "key", "worths"] [] := .all fun us hl => match us, hl with | [_, _, _], _ => rfl
  have F31 : FunV K "take" "Shelf.take" (inClass s_Shelf 3) f31 _ := ⟨_, _, _, _, _, _, _, _, _, _, rfl, l31, c31⟩
  have b31 : Binds K (PySem.W.fnOf "take" "Shelf.take" (defArgs (inClass s_Shelf 3)) (defBody (inClass s_Shelf 3)) (defScope (inClass s_Shelf 3)) .none kV31 dc31 pm31 an31 cd31 ct31) ["self", "key"] [] := .all fun us hl => match us, hl with | [_, _], _ => rfl
  have F32 : FunV K "check_stands" "Shelf.check_stands" (inClass s_Shelf 4) f32 _ := ⟨_, _, _, _, _, _, _, _, _, _, rfl, l32, c32⟩
  have b32 : Binds K (PySem.W.fnOf "check_stands" "Shelf.check_stands" (defArgs (inClass s_Shelf 4)) (defBody (inClass s_Shelf 4)) (defScope (inClass s_Shelf 4)) .none kV32 dc32 pm32 an32 cd32 ct32) ["self", "key"] [] := .all fun us hl => match us, hl with | [_, _], _ => rfl
  have F33 : FunV K "begin_standing" "Shelf.begin_standing" (inClass s_Shelf 5) f33 _ := ⟨_, _, _, _, _, _, _, _, _, _, rfl, l33, c33⟩
  have b33 : Binds K (PySem.W.fnOf "begin_standing" "Shelf.begin_standing" (defArgs (inClass s_Shelf 5)) (defBody (inClass s_Shelf 5)) (defScope (inClass s_Shelf 5)) .none kV33 dc33 pm33 an33 cd33 ct33) ["self", "key", "worths"] [] := .all fun us hl => match us, hl with | [_, _, _], _ => rfl
  have F34 : FunV K "end_standing" "Shelf.end_standing" (inClass s_Shelf 6) f34 _ := ⟨_, _, _, _, _, _, _, _, _, _, rfl, l34, c34⟩
  have b34 : Binds K (PySem.W.fnOf "end_standing" "Shelf.end_standing" (defArgs (inClass s_Shelf 6)) (defBody (inClass s_Shelf 6)) (defScope (inClass s_Shelf 6)) .none kV34 dc34 pm34 an34 cd34 ct34) ["self", "key"] [] := .all fun us hl => match us, hl with | [_, _], _ => rfl
  have F35 : FunV K "now" "Shelf.now" (inClass s_Shelf 8) f35 _ := ⟨_, _, _, _, _, _, _, _, _, _, rfl, l35, c35⟩
  have b35 : Binds K (PySem.W.fnOf "now" "Shelf.now" (defArgs (inClass s_Shelf 8)) (defBody (inClass s_Shelf 8)) (defScope (inClass s_Shelf 8)) .none kV35 dc35 pm35 an35 cd35 ct35) ["self"] [] := .all fun us hl => match us, hl with | [_], _ => rfl
  have F36 : FunV K "worths_at" "Shelf.worths_at" (inClass s_Shelf 9) f36 _ := ⟨_, _, _, _, _, _, _, _, _, _, rfl, l36, c36⟩
  have b36_0 : Binds K (PySem.W.fnOf "worths_at" "Shelf.worths_at" (defArgs (inClass s_Shelf 9)) (defBody (inClass s_Shelf 9)) (defScope (inClass s_Shelf 9)) (.ref da36) kV36 dc36 pm36 an36 cd36 ct36) ["self", "key", "moment"] [] := fun s us hK hl => by
    have hl' : us.length = 3 := by simpa using hl
    match us, hl' with
    | [_, _, _], _ => exact BindsTo.of_defaults (T := da36) rfl (hK _ _ dl36) rfl rfl rfl
  have b36_1 : Binds K (PySem.W.fnOf "worths_at" "Shelf.worths_at" (defArgs (inClass s_Shelf 9)) (defBody (inClass s_Shelf 9)) (defScope (inClass s_Shelf 9)) (.ref da36) kV36 dc36 pm36 an36 cd36 ct36) ["self", "key", "moment"] [.none] := fun s us hK hl => by
    have hl' : us.length = 2 := by simpa using hl
    match us, hl' with
    | [_, _], _ => exact BindsTo.of_defaults (T := da36) rfl (hK _ _ dl36) rfl rfl rfl
  have F37 : FunV K "all_at" "Shelf.all_at" (inClass s_Shelf 10) f37 _ := ⟨_, _, _, _, _, _, _, _, _, _, rfl, l37, c37⟩
  have b37_0 : Binds K (PySem.W.fnOf "all_at" "Shelf.all_at" (defArgs (inClass s_Shelf 10)) (defBody (inClass s_Shelf 10)) (defScope (inClass s_Shelf 10)) (.ref da37) kV37 dc37 pm37 an37 cd37 ct37) ["self", "moment"] [] := fun s us hK hl => by
    have hl' : us.length = 2 := by simpa using hl
    match us, hl' with
    | [_, _], _ => exact BindsTo.of_defaults (T := da37) rfl (hK _ _ dl37) rfl rfl rfl
  have b37_1 : Binds K (PySem.W.fnOf "all_at" "Shelf.all_at" (defArgs (inClass s_Shelf 10)) (defBody (inClass s_Shelf 10)) (defScope (inClass s_Shelf 10)) (.ref da37) kV37 dc37 pm37 an37 cd37 ct37) ["self", "moment"] [.none] := fun s us hK hl => by
    have hl' : us.length = 1 := by simpa using hl
    match us, hl' with
    | [_], _ => exact BindsTo.of_defaults (T := da37) rfl (hK _ _ dl37) rfl rfl rfl
  have F38 : FunV K "standings_of" "Shelf.standings_of" (inClass s_Shelf 11) f38 _ := ⟨_, _, _, _, _, _, _, _, _, _, rfl, l38, c38⟩
  have b38 : Binds K (PySem.W.fnOf "standings_of" "Shelf.standings_of" (defArgs (inClass s_Shelf 11)) (defBody (inClass s_Shelf 11)) (defScope (inClass s_Shelf 11)) .none kV38 dc38 pm38 an38 cd38 ct38) ["self", "key"] [] := .all fun us hl => match us, hl with | [_, _], _ => rfl
  have F39 : FunV K "history" "Shelf.history" (inClass s_Shelf 12) f39 _ := ⟨_, _, _, _, _, _, _, _, _, _, rfl, l39, c39⟩
  have b39 : Binds K (PySem.W.fnOf "history" "Shelf.history" (defArgs (inClass s_Shelf 12)) (defBody (inClass s_Shelf 12)) (defScope (inClass s_Shelf 12)) .none kV39 dc39 pm39 an39 cd39 ct39) ["self"] [] := .all fun us hl => match us, hl with | [_], _ => rfl
  have F40 : FunV K "moment_meant" "Shelf.moment_meant" (inClass s_Shelf 13) f40 _ := ⟨_, _, _, _, _, _, _, _, _, _, rfl, l40, c40⟩
  have b40 : Binds K (PySem.W.fnOf "moment_meant" "Shelf.moment_meant" (defArgs (inClass s_Shelf 13)) (defBody (inClass s_Shelf 13)) (defScope (inClass s_Shelf 13)) .none kV40 dc40 pm40 an40 cd40 ct40) ["self", "moment"] [] := .all fun us hl => match us, hl with | [_, _], _ => rfl
  exact ⟨⟨f0, _, f1, _, f2, _, f3, _, f4, _, f5, _, f6, _, f7, _, f8, _, f9, _, f10, _, f11, _, f12, _, f13, _, f14, _, f15, _, f16, _, f17, _, f18, _, f19, _, f20, _, f21, _, f22, _, f23, _, f24, _, f25, _, f26, _, f27, _, f28, _, f29, _, f30, _, f31, _, f32, _, f33, _, f34, _, f35, _, f36, _, f37, _, f38, _, f39, _, f40, _, tk_MOST_NAME_SIGNS, tk_MOST_KEY_SIGNS, tk_MOST_WORD_SIGNS, tk_MOST_COLUMNS, a_KINDS, c_PageError, c_BadColumns, c_BadRow, c_HasKey, c_NoKey, c_NoMoment, c_Shelf⟩, ⟨F0, b0, k0, PySem.W.mg_of X G a0, F1, b1, k1, PySem.W.mg_of X G a1, F2, b2, k2, PySem.W.mg_of X G a2, F3, b3, k3, PySem.W.mg_of X G a3, F4, b4, k4, PySem.W.mg_of X G a4, F5, b5, k5, PySem.W.mg_of X G a5, F6, b6, k6, PySem.W.mg_of X G a6, F7, b7, k7, PySem.W.mg_of X G a7, F8, b8, k8, PySem.W.mg_of X G a8, F9, b9, k9, PySem.W.mg_of X G a9, F10, b10, k10, PySem.W.mg_of X G a10, F11, b11, k11, PySem.W.mg_of X G a11, F12, b12, k12, PySem.W.mg_of X G a12, F13, b13, k13, PySem.W.mg_of X G a13, F14, b14, k14, PySem.W.mg_of X G a14, F15, b15, k15, PySem.W.mg_of X G a15, F16, b16, k16, PySem.W.mg_of X G a16, F17, b17, k17, PySem.W.mg_of X G a17, F18, b18, k18, PySem.W.mg_of X G a18, F19, b19, k19, PySem.W.mg_of X G a19, F20, b20, k20, PySem.W.mg_of X G a20, F21, b21, k21, PySem.W.mg_of X G a21, F22, b22, k22, PySem.W.mg_of X G a22, F23, b23, k23, PySem.W.mg_of X G a23, F24, b24, k24, PySem.W.mg_of X G a24, F25, b25, k25, PySem.W.mg_of X G a25, F26, b26, k26, PySem.W.mg_of X G a26, F27, b27, k27, PySem.W.mg_of X G a27, F28, b28, ⟨a28, i28, k28⟩, F29, b29, ⟨a29, i29, k29⟩, F30, b30, ⟨a30, i30, k30⟩, F31, b31, ⟨a31, i31, k31⟩, F32, b32, ⟨a32, i32, k32⟩, F33, b33, ⟨a33, i33, k33⟩, F34, b34, ⟨a34, i34, k34⟩, F35, b35, ⟨a35, i35, k35⟩, F36, b36_0, b36_1, ⟨a36, i36, k36⟩, F37, b37_0, b37_1, ⟨a37, i37, k37⟩, F38, b38, ⟨a38, i38, k38⟩, F39, b39, ⟨a39, i39, k39⟩, F40, b40, ⟨a40, i40, k40⟩, PySem.W.mg_of X G v_MOST_NAME_SIGNS, PySem.W.mg_of X G v_MOST_KEY_SIGNS, PySem.W.mg_of X G v_MOST_WORD_SIGNS, PySem.W.mg_of X G v_MOST_COLUMNS, PySem.W.mg_of X G v_KINDS, fun H => rv_kt (xs := [.str "number", .str "word"]) ⟨_, _, _, w_KINDS, rfl, rfl, (by rw [sizeLine_eq]; show 2 ≤ 16777216; decide), .cons ⟨_, rfl⟩ (.cons ⟨_, rfl⟩ (.nil))⟩ (ra_strs ["number", "word"]), PySem.W.mg_none_of X G z_len, PySem.W.mg_none_of X G z_all, PySem.W.mg_none_of X G z_isinstance, PySem.W.mg_none_of X G z_range, PySem.W.mg_none_of X G z_int, PySem.W.mg_none_of X G z_str, PySem.W.mg_none_of X G z_bool, PySem.W.mg_none_of X G z_tuple, PySem.W.mg_none_of X G z_list, PySem.W.mg_none_of X G z_set, PySem.W.mg_none_of X G z_zip, PySem.W.mg_none_of X G z_sorted, PySem.W.mg_none_of X G z_reversed, PySem.W.mg_none_of X G z_ValueError, PySem.W.mg_of X G g_PageError, PySem.W.mg_of X G g_BadColumns, PySem.W.mg_of X G g_BadRow, PySem.W.mg_of X G g_HasKey, PySem.W.mg_of X G g_NoKey, PySem.W.mg_of X G g_NoMoment, PySem.W.mg_of X G g_Shelf, ⟨pg_Shelf, hd_Shelf, po_Shelf, sa_Shelf⟩, ⟨ms_Shelf, a28, i28, kc_Shelf⟩, x_PageError, x_BadColumns, x_BadRow, x_HasKey, x_NoKey, x_NoMoment, ga_BadColumns, gh_BadColumns, gc_BadColumns, ga_BadRow, gh_BadRow, gc_BadRow, ga_HasKey, gh_HasKey, gc_HasKey, ga_NoKey, gh_NoKey, gc_NoKey, ga_NoMoment, gh_NoMoment, gc_NoMoment, na_Shelf_columns, na_Shelf_deeds, na_Shelf_runs, fun s v => .of_eq rfl⟩⟩
end My
namespace PySem.W.Fast
def tw13050000696477693256 := 0
def tw15075602750840931193 := 0
def tw5536348755263036233 := 0
def tw8604112739365990729 := 0
def tw3890843337416907332 := 0
def tw15087734005731065683 := 0
def tw11312454005380990647 := 0
def tw1767939256632562433 := 0
def tw14507081788874288992 := 0
def tw9255154376871671227 := 0
def tw6670189579897895069 := 0
def tw9072202033779627733 := 0
def tw6122543227732818487 := 0
def tw14567591832277236483 := 0
def tw8005818733607930520 := 0
def tw11141175649642553273 := 0
def tw8144512365504190784 := 0
def tw10348758169682704874 := 0
def tw12605619917861124261 := 0
def tw10099278527573722562 := 0
def tw9411366116618716745 := 0
def tw15987883747972862674 := 0
def tw5089557727640860874 := 0
def tw15498345636483466885 := 0
def tw330186972210344583 := 0
def tw17501016649165661798 := 0
def tw12399871997988064851 := 0
def tw5704991627540490102 := 0
def tw757802470177755724 := 0
def tw766913707369123098 := 0
def tw9051424132224718261 := 0
def tw6060225727108075603 := 0
def tw8960727219319115991 := 0
def tw8750015323760908500 := 0
def tw7379954798486673070 := 0
def tw5328585742431918382 := 0
def tw3461234622884767750 := 0
def tw50778877049625120 := 0
def tw15124101281405149167 := 0
def tw7324711285175574029 := 0
def tw5535739869185344610 := 0
def tw16908221615661266060 := 0
def tw9391043491853922162 := 0
def tw13188437113601891564 := 0
def tw18263894638614039903 := 0
def tw8544592997851389388 := 0
def tw9075375734320128160 := 0
def tw11949192785531947320 := 0
def tw17121944754164161925 := 0
def tw5344227283741346381 := 0
def tw14110428705762387439 := 0
def tw422292890732014261 := 0
def tw1409868422804556121 := 0
def tw9103237584627013891 := 0
def tw14484044447862206774 := 0
def tw14970527776269446669 := 0
def tw15209562172237471025 := 0
def tw384373443510854532 := 0
def tw5088471954299072501 := 0
def tw16418567832086978263 := 0
def tw15798247100354084380 := 0
def tw13985055576926678680 := 0
def tw16748743679169399498 := 0
def tw17213671420992596529 := 0
def tw17484273260574900362 := 0
def tw17716933828764917058 := 0
def tw16724345386651379465 := 0
def tw7084608723341174010 := 0
def tw5764069908317752623 := 0
def tw7147567753329285575 := 0
def tw17580946632368994313 := 0
def tw17416036961689661472 := 0
def tw1384081120719048803 := 0
def tw10090792259166633516 := 0
def tw870780105748570798 := 0
def tw5314230351968863797 := 0
def tw18269717502438287686 := 0
def tw13598665783538998267 := 0
def tw7946688751697295655 := 0
def tw8242099282853320772 := 0
def tw13735945088307632162 := 0
def tw10945892327685178021 := 0
def tw8064360536501996358 := 0
def tw5430579943835325832 := 0
def tw557720212347153919 := 0
def tw9797706191664899275 := 0
def tw17590129007561537810 := 0
def tw6852669370223023576 := 0
def tw15809989324383508028 := 0
def tw7302445972702380551 := 0
def tw11078271699513391600 := 0
def tw7222885895111136341 := 0
def tw1796998774036368688 := 0
def tw14301634581839129502 := 0
def tw6574905631533894569 := 0
def tw5744034151362036915 := 0
def tw13895769433509570567 := 0
def tw17887556468022496076 := 0
def tw3526838535383535713 := 0
def tw17363803897250923571 := 0
def tw10683484742194989881 := 0
def tw15067634934789333716 := 0
def tw14325816970474162306 := 0
def tw12515447385266907707 := 0
def tw2874576234856673373 := 0
def tw3295943916806371102 := 0
def tw5782298541769638893 := 0
def tw6229990461403986863 := 0
def tw15173180817597093495 := 0
def tw16937601017439156984 := 0
def tw14480276866687890180 := 0
def tw2358764561444574950 := 0
def tw15466138848406462801 := 0
def tw7568994501030514968 := 0
def tw14287163410714289662 := 0
def tw6766953648546712951 := 0
def tw14478918851773407314 := 0
def tw3553016047801426877 := 0
def tw16241443256877852904 := 0
def tw12421227744276040542 := 0
def tw18205996562821092134 := 0
def tw11608852818481864781 := 0
def tw2049072485940232087 := 0
def tw11656504437331251981 := 0
def tw14297225267742483330 := 0
def tw4864792742268565217 := 0
def tw2131621159510846472 := 0
def tw5443730108926674026 := 0
def tw12406804143011086874 := 0
def tw8186615222202191484 := 0
def tw12472753925755842897 := 0
def tw16357359001430638508 := 0
def tw1362962949386762573 := 0
def tw9097937473945566413 := 0
def tw17745489837681421439 := 0
def tw12175645458282776694 := 0
def tw7163311878783253112 := 0
def tw7125621520079020669 := 0
def tw4330113937150646282 := 0
def tw9129835759906755867 := 0
def tw8515322955142920859 := 0
def tw8374402529124118367 := 0
def tw13162611722091810849 := 0
def tw15246719917261441452 := 0
def tw127911781073045147 := 0
def tw13152723583449298859 := 0
def tw10810195011915706804 := 0
def tw2443665963687291653 := 0
def tw8617186771617118843 := 0
def tw8663979649639128742 := 0
def tw1487248072358048781 := 0
def tw11746713654873467892 := 0
def tw1983483963524534658 := 0
def tw4891850337957502660 := 0
def tw285667890931344109 := 0
def tw3298912364278548205 := 0
def tw13700516321720015334 := 0
def tw16348597772034454464 := 0
def tw17382586653230363220 := 0
def tw10187341654287741350 := 0
def tw15856704798182039929 := 0
def tw12497230873975951055 := 0
def tw11883625005879462291 := 0
def tw17303192914487757976 := 0
def tw15266211903075915841 := 0
def tw2060431335271559226 := 0
def tw7246685721332604173 := 0
def tw15121928027685286981 := 0
def tw7591205555105064985 := 0
def tw14129064505461024778 := 0
def tw670418319512480916 := 0
def tw5185895135392249433 := 0
def tw11077966117472212589 := 0
def tw16873310597259396839 := 0
def tw13258940104053783067 := 0
def tw18075537275855942176 := 0
def tw14397887072774576521 := 0
def tw17337059631472497048 := 0
def tw12456815618636320556 := 0
def tw12524158295550760156 := 0
def tw10976457498727192058 := 0
def tw12285047108109005089 := 0
def tw6085103462731974634 := 0
def tw16232076818830173064 := 0
def tw1405289150800655507 := 0
def tw6916999383823005902 := 0
def tw2000998371986543973 := 0
def tw8994228445532463787 := 0
def tw11934360784981829988 := 0
def tw13174644435863385932 := 0
def tw4040305804631962 := 0
def tw16936366837292914180 := 0
def tw16339350784226878636 := 0
def tw7743340035733251799 := 0
def tw12481327209269886422 := 0
def tw5832543275797163101 := 0
def tw18344025986470127577 := 0
def tw4279560553786196466 := 0
def tw13140201886208386530 := 0
def tw11384216764251793553 := 0
def tw9084180433367404189 := 0
def tw2744266734562568902 := 0
def tw17729392317046098228 := 0
def tw1161323937188691565 := 0
def tw17013163979873207650 := 0
def tw11291064404488683698 := 0
def tw15006392945585824923 := 0
def tw144176224626023997 := 0
def tw3646474023865457694 := 0
def tw16660126681448396530 := 0
def tw4555192002457139442 := 0
def tw12766489419615366847 := 0
def tw7403997476338682032 := 0
def tw8334152989908968673 := 0
def tw15990097769468352985 := 0
def tw8401883629947559233 := 0
def tw2786027288344702400 := 0
def tw9857441431530296015 := 0
def tw2171326451970458318 := 0
def tw12371575043772606516 := 0
def tw11240633633701073431 := 0
def tw14817343187497560724 := 0
def tw16181810650673240145 := 0
def tw11038966103916436508 := 0
def tw6471483714726186173 := 0
def tw10729694804198567429 := 0
def tw8966622916955413857 := 0
def tw3063509128021092549 := 0
def tw9814744142676898573 := 0
def tw10216684016905995067 := 0
def tw17768973287745000564 := 0
def tw12252645981926190968 := 0
def tw13973232834689820273 := 0
def tw1235963698743079729 := 0
def tw444554306328274379 := 0
def tw1788148202983582978 := 0
def tw6440016493897603327 := 0
def tw1165059070331229671 := 0
def tw488725292900093576 := 0
def tw2515089671864354902 := 0
def tw2411949762549378003 := 0
def tw10014595729448615740 := 0
def tw14613805467292932286 := 0
def tw521041171489052220 := 0
def tw2046506017258267928 := 0
def tw9785399706291377314 := 0
def tw8911481161784585551 := 0
def tw12332513194726225144 := 0
def tw13882297595255752501 := 0
def tw12859415712970525221 := 0
def tw14003256366375014230 := 0
def tw4062812845934577154 := 0
def tw12125020830365129662 := 0
def tw16172101635356704056 := 0
def tw16859114785479879182 := 0
def tw18234386810416976884 := 0
def tw11486225037175288383 := 0
def tw5438671640358845155 := 0
def tw17015939269455530971 := 0
def tw10307197476939897652 := 0
def tw7854809850328382382 := 0
def tw11619364607512598429 := 0
def tw17821418287463955820 := 0
def tw17782158682154268245 := 0
def tw7700201763097319502 := 0
def tw13079091658642258787 := 0
def tw6112494801426482679 := 0
def tw3742245594148524994 := 0
def tw10855723136890031337 := 0
def tw8266521969263177096 := 0
def tw201417092193300249 := 0
def tw936102872720713010 := 0
def tw14878623135221554404 := 0
def tw1873888026656694936 := 0
def tw4436370412579855143 := 0
def tw18042114968581976116 := 0
def tw4632108686403769809 := 0
def tw1599432565654933957 := 0
def tw13461273638939499303 := 0
def tw5490538653115283891 := 0
def tw6756457060852253789 := 0
def tw5821576207199065802 := 0
def tw12713012594400908414 := 0
def tw7574925619280738901 := 0
def tw8920014013319987538 := 0
def tw830654689620832692 := 0
def tw15673491245892203122 := 0
def tw4859842855628280253 := 0
def tw10363253291272149461 := 0
def tw6471988746626702986 := 0
def tw5813569741683488915 := 0
def tw6087362915622067335 := 0
def tw14276792475985380265 := 0
def tw1470406913348097379 := 0
def tw18248298590164397884 := 0
def tw18246072277916177452 := 0
def tw3243922490981974902 := 0
def tw18205964934163925245 := 0
def tw14554049366029933746 := 0
def tw10263230612576012172 := 0
def tw3639605681890226630 := 0
def tw12895668720374637400 := 0
def tw15363706133759561555 := 0
def tw901099356840813485 := 0
def tw216882199517284716 := 0
def tw5206065988110555669 := 0
def tw17498252688779892698 := 0
def tw16508291093723637281 := 0
def tw3589048203635255977 := 0
def tw16733242834396221169 := 0
def tw16720335487100735881 := 0
def tw5910732728111408113 := 0
def tw10617425273265785941 := 0
def tw11070003951385277874 := 0
def tw14467240277868369828 := 0
def tw3718221041319300140 := 0
def tw11708178163891354903 := 0
def tw4657100983518254896 := 0
def tw16758196145298338139 := 0
def tw549560349096717464 := 0
def tw307806373253789490 := 0
def tw1197121248410841312 := 0
def tw14067386973539778825 := 0
def tw1492841515418307485 := 0
def tw2248621205409026734 := 0
def tw9768296135750318057 := 0
def tw9170481428824659518 := 0
def tw7579027582741443754 := 0
def tw13026835513381622275 := 0
def tw13623856936306815463 := 0
def tw12550370748408461305 := 0
def tw15889802746455801202 := 0
def tw2311233403231985445 := 0
def tw16343630753742900592 := 0
def tw1240086323978472612 := 0
def tw10082960460621290042 := 0
def tw504533315988106270 := 0
def tw11427956007896749423 := 0
def tw5722783145648588958 := 0
def tw10490089759342360612 := 0
def tw4100134324461730401 := 0
def tw9747944940131298161 := 0
def tw17494120068129678258 := 0
def tw261100651768689241 := 0
def tw9361934881504976956 := 0
def tw1095227098052249979 := 0
def tw6818424185508935991 := 0
def tw57053834254869587 := 0
def tw17852026122245911836 := 0
def tw11264813437798542115 := 0
def tw1621799009166482764 := 0
def tw830199484866677477 := 0
def tw3486598245364231876 := 0
def tw10815017358773924914 := 0
def tw14637651484873146284 := 0
def tw6114644027571950140 := 0
def tw16850026962931684576 := 0
def tw8376647890916877260 := 0
def tw7122983546428857203 := 0
def tw9930735028515513116 := 0
def tw9142811506362344703 := 0
def tw10689737920714974954 := 0
def tw5865937319294909387 := 0
def tw8934484337825223468 := 0
def tw9016503871116008970 := 0
def tw15989529141761126322 := 0
def tw11994008211501652857 := 0
def tw7567982062797755049 := 0
def tw11940929502675827067 := 0
def tw7574489394265113793 := 0
def tw5040839910751873237 := 0
def tw7051902472751343677 := 0
def tw2691625554210306712 := 0
def tw1569048080749055668 := 0
def tw13277611443904534721 := 0
def tw3600958677799999700 := 0
def tw9266538073444532798 := 0
def tw12276787010119448581 := 0
def tw8066208896889159297 := 0
def tw14881855578405123549 := 0
def tw9756316217790334359 := 0
def tw11884145147918594801 := 0
def tw9519280021008798860 := 0
def tw10728410794333157892 := 0
def tw3205367148689067107 := 0
def tw9430586571744692559 := 0
def tw11165605129221396033 := 0
def tw9571704500481613822 := 0
def tw14576261535764236127 := 0
def tw15644550505325987100 := 0
def tw6149238111024863261 := 0
def tw17479216527294271229 := 0
def tw8039465014814825740 := 0
def tw5974524424653420078 := 0
def tw187184178101005245 := 0
def tw11381476121577843411 := 0
def tw12381334364936031233 := 0
def tw15329519351143879184 := 0
def tw182930430589592956 := 0
def tw6164378474165591377 := 0
def tw15541032654265851089 := 0
def tw2854835200812476097 := 0
def tw511127835716648726 := 0
def tw7981139418928675079 := 0
def tw6672206542956179340 := 0
def tw10108597128769792139 := 0
def tw2177369471322618986 := 0
def tw17082491762328159124 := 0
def tw14855698947013106797 := 0
def tw3356095354798478300 := 0
def tw12870483945689299848 := 0
def tw3871288857845949562 := 0
def tw3420882567389575991 := 0
def tw16240700597492570467 := 0
def tw15494167144899075731 := 0
def tw17865188574391459115 := 0
def tw1450538338527020705 := 0
def tw11562508726693559318 := 0
def tw8773980398551315748 := 0
def tw13470817851488983437 := 0
def tw6602095464354016483 := 0
def tw11667836203286614615 := 0
def tw12687670209651237330 := 0
def tw5770348000055209764 := 0
def tw163938984986898653 := 0
def tw4731313073136312915 := 0
def tw6210176500450092293 := 0
def tw17439268091177973585 := 0
def tw10104212913236246544 := 0
def tw6939696850199138823 := 0
def tw862347478607900034 := 0
def tw11213028627216757374 := 0
def tw2289318970789933403 := 0
def tw61827403496613690 := 0
def tw1271939468671631737 := 0
def tw12178171870027869531 := 0
def tw669861076803119191 := 0
def tw1955489289836936535 := 0
end PySem.W.Fast
open PySem PySem.W PyProof.Rows
set_option maxRecDepth 100000 in
set_option maxHeartbeats 0 in
theorem PySem.Challenge.cw_pageturns_k19_whole_told_moment_by_momen_holds : PySem.Challenge.rw_pageturns_k19_whole_told_moment_by_momen.Holds := by
  w_on; o_law; k_head; (case hw => w_witness2)
  k_fill
  refine L2.walk_ofK (l := PySem.Challenge.rw_pageturns_k19_whole_told_moment_by_momen) (n := 63) (k := 20) (x := "_law_script") (CX := L2.CX0) (sp := My.sp_law) rfl (by decide) rfl ⟨rfl, by decide, by decide⟩ (fun w h Y => PySem.W.kIn_of Y) ?F ?S ?C
  case F =>
    intro w mg fa h KX G hmg
    have T : ∃ t, My.Txt (L2.KOf KX) mg t := by
      dsimp only [L2.KOf]
      refine' My.txt_mk KX G ?g_PageError ?g_BadColumns ?g_BadRow ?g_HasKey ?g_NoKey ?g_NoMoment ?g_Shelf ?a0 ?l0 ?c0 ?k0 ?a1 ?l1 ?c1 ?k1 ?a2 ?l2 ?c2 ?k2 ?a3 ?l3 ?c3 ?k3 ?a4 ?l4 ?c4 ?k4 ?a5 ?l5 ?c5 ?k5 ?a6 ?l6 ?c6 ?k6 ?a7 ?l7 ?c7 ?k7 ?a8 ?l8 ?c8 ?k8 ?a9 ?l9 ?c9 ?k9 ?a10 ?l10 ?c10 ?k10 ?a11 ?l11 ?c11 ?k11 ?a12 ?l12 ?c12 ?k12 ?a13 ?l13 ?c13 ?k13 ?a14 ?l14 ?c14 ?k14 ?a15 ?l15 ?c15 ?k15 ?a16 ?l16 ?c16 ?k16 ?a17 ?l17 ?c17 ?k17 ?a18 ?l18 ?c18 ?k18 ?a19 ?l19 ?c19 ?k19 ?a20 ?l20 ?c20 ?k20 ?a21 ?l21 ?c21 ?k21 ?a22 ?l22 ?c22 ?k22 ?a23 ?l23 ?c23 ?k23 ?a24 ?l24 ?c24 ?k24 ?a25 ?l25 ?c25 ?k25 ?a26 ?l26 ?c26 ?k26 ?a27 ?l27 ?c27 ?k27 ?a28 ?i28 ?l28 ?c28 ?k28 ?a29 ?i29 ?l29 ?c29 ?k29 ?a30 ?i30 ?l30 ?c30 ?k30 ?a31 ?i31 ?l31 ?c31 ?k31 ?a32 ?i32 ?l32 ?c32 ?k32 ?a33 ?i33 ?l33 ?c33 ?k33 ?a34 ?i34 ?l34 ?c34 ?k34 ?a35 ?i35 ?l35 ?c35 ?k35 ?a36 ?i36 ?l36 ?dl36 ?c36 ?k36 ?a37 ?i37 ?l37 ?dl37 ?c37 ?k37 ?a38 ?i38 ?l38 ?c38 ?k38 ?a39 ?i39 ?l39 ?c39 ?k39 ?a40 ?i40 ?l40 ?c40 ?k40 ?v_MOST_NAME_SIGNS ?v_MOST_KEY_SIGNS ?v_MOST_WORD_SIGNS ?v_MOST_COLUMNS ?v_KINDS ?w_KINDS ?z_len ?z_all ?z_isinstance ?z_range ?z_int ?z_str ?z_bool ?z_tuple ?z_list ?z_set ?z_zip ?z_sorted ?z_reversed ?z_ValueError ?x_PageError ?x_BadColumns ?x_BadRow ?x_HasKey ?x_NoKey ?x_NoMoment ?ga_BadColumns ?gh_BadColumns ?gc_BadColumns ?ga_BadRow ?gh_BadRow ?gc_BadRow ?ga_HasKey ?gh_HasKey ?gc_HasKey ?ga_NoKey ?gh_NoKey ?gc_NoKey ?ga_NoMoment ?gh_NoMoment ?gc_NoMoment ?pg_Shelf ?hd_Shelf ?po_Shelf ?sa_Shelf ?ms_Shelf ?kc_Shelf ?na_Shelf_columns ?na_Shelf_deeds ?na_Shelf_runs
      (case g_PageError => k_is)
      (case g_BadColumns => k_is)
      (case g_BadRow => k_is)
      (case g_HasKey => k_is)
      (case g_NoKey => k_is)
      (case g_NoMoment => k_is)
      (case g_Shelf => k_is)
      (case a0 => k_is)
      (case l0 => k_is)
      (case c0 => k_is)
      (case k0 => k_is)
      (case a1 => k_is)
      (case l1 => k_is)
      (case c1 => k_is)
      (case k1 => k_is)
      (case a2 => k_is)
      (case l2 => k_is)
      (case c2 => k_is)
      (case k2 => k_is)
      (case a3 => k_is)
      (case l3 => k_is)
      (case c3 => k_is)
      (case k3 => k_is)
      (case a4 => k_is)
      (case l4 => k_is)
      (case c4 => k_is)
      (case k4 => k_is)
      (case a5 => k_is)
      (case l5 => k_is)
      (case c5 => k_is)
      (case k5 => k_is)
      (case a6 => k_is)
      (case l6 => k_is)
      (case c6 => k_is)
      (case k6 => k_is)
      (case a7 => k_is)
      (case l7 => k_is)
      (case c7 => k_is)
      (case k7 => k_is)
      (case a8 => k_is)
      (case l8 => k_is)
      (case c8 => k_is)
      (case k8 => k_is)
      (case a9 => k_is)
      (case l9 => k_is)
      (case c9 => k_is)
      (case k9 => k_is)
      (case a10 => k_is)
      (case l10 => k_is)
      (case c10 => k_is)
      (case k10 => k_is)
      (case a11 => k_is)
      (case l11 => k_is)
      (case c11 => k_is)
      (case k11 => k_is)
      (case a12 => k_is)
      (case l12 => k_is)
      (case c12 => k_is)
      (case k12 => k_is)
      (case a13 => k_is)
      (case l13 => k_is)
      (case c13 => k_is)
      (case k13 => k_is)
      (case a14 => k_is)
      (case l14 => k_is)
      (case c14 => k_is)
      (case k14 => k_is)
      (case a15 => k_is)
      (case l15 => k_is)
      (case c15 => k_is)
      (case k15 => k_is)
      (case a16 => k_is)
      (case l16 => k_is)
      (case c16 => k_is)
      (case k16 => k_is)
      (case a17 => k_is)
      (case l17 => k_is)
      (case c17 => k_is)
      (case k17 => k_is)
      (case a18 => k_is)
      (case l18 => k_is)
      (case c18 => k_is)
      (case k18 => k_is)
      (case a19 => k_is)
      (case l19 => k_is)
      (case c19 => k_is)
      (case k19 => k_is)
      (case a20 => k_is)
      (case l20 => k_is)
      (case c20 => k_is)
      (case k20 => k_is)
      (case a21 => k_is)
      (case l21 => k_is)
      (case c21 => k_is)
      (case k21 => k_is)
      (case a22 => k_is)
      (case l22 => k_is)
      (case c22 => k_is)
      (case k22 => k_is)
      (case a23 => k_is)
      (case l23 => k_is)
      (case c23 => k_is)
      (case k23 => k_is)
      (case a24 => k_is)
      (case l24 => k_is)
      (case c24 => k_is)
      (case k24 => k_is)
      (case a25 => k_is)
      (case l25 => k_is)
      (case c25 => k_is)
      (case k25 => k_is)
      (case a26 => k_is)
      (case l26 => k_is)
      (case c26 => k_is)
      (case k26 => k_is)
      (case a27 => k_is)
      (case l27 => k_is)
      (case c27 => k_is)
      (case k27 => k_is)
      (case a28 => k_is)
      (case i28 => k_is)
      (case l28 => k_is)
      (case c28 => k_is)
      (case k28 => k_is)
      (case a29 => k_is)
      (case i29 => k_is)
      (case l29 => k_is)
      (case c29 => k_is)
      (case k29 => k_is)
      (case a30 => k_is)
      (case i30 => k_is)
      (case l30 => k_is)
      (case c30 => k_is)
      (case k30 => k_is)
      (case a31 => k_is)
      (case i31 => k_is)
      (case l31 => k_is)
      (case c31 => k_is)
      (case k31 => k_is)
      (case a32 => k_is)
      (case i32 => k_is)
      (case l32 => k_is)
      (case c32 => k_is)
      (case k32 => k_is)
      (case a33 => k_is)
      (case i33 => k_is)
      (case l33 => k_is)
      (case c33 => k_is)
      (case k33 => k_is)
      (case a34 => k_is)
      (case i34 => k_is)
      (case l34 => k_is)
      (case c34 => k_is)
      (case k34 => k_is)
      (case a35 => k_is)
      (case i35 => k_is)
      (case l35 => k_is)
      (case c35 => k_is)
      (case k35 => k_is)
      (case a36 => k_is)
      (case i36 => k_is)
      (case l36 => k_is)
      (case dl36 => k_is)
      (case c36 => k_is)
      (case k36 => k_is)
      (case a37 => k_is)
      (case i37 => k_is)
      (case l37 => k_is)
      (case dl37 => k_is)
      (case c37 => k_is)
      (case k37 => k_is)
      (case a38 => k_is)
      (case i38 => k_is)
      (case l38 => k_is)
      (case c38 => k_is)
      (case k38 => k_is)
      (case a39 => k_is)
      (case i39 => k_is)
      (case l39 => k_is)
      (case c39 => k_is)
      (case k39 => k_is)
      (case a40 => k_is)
      (case i40 => k_is)
      (case l40 => k_is)
      (case c40 => k_is)
      (case k40 => k_is)
      (case v_MOST_NAME_SIGNS => k_is)
      (case v_MOST_KEY_SIGNS => k_is)
      (case v_MOST_WORD_SIGNS => k_is)
      (case v_MOST_COLUMNS => k_is)
      (case v_KINDS => k_is)
      (case w_KINDS => k_is)
      (case z_len => k_is)
      (case z_all => k_is)
      (case z_isinstance => k_is)
      (case z_range => k_is)
      (case z_int => k_is)
      (case z_str => k_is)
      (case z_bool => k_is)
      (case z_tuple => k_is)
      (case z_list => k_is)
      (case z_set => k_is)
      (case z_zip => k_is)
      (case z_sorted => k_is)
      (case z_reversed => k_is)
      (case z_ValueError => k_is)
      (case x_PageError => k_exc)
      (case x_BadColumns => k_exc)
      (case x_BadRow => k_exc)
      (case x_HasKey => k_exc)
      (case x_NoKey => k_exc)
      (case x_NoMoment => k_exc)
      (case ga_BadColumns => k_is)
      (case gh_BadColumns => k_is)
      (case gc_BadColumns => k_is)
      (case ga_BadRow => k_is)
      (case gh_BadRow => k_is)
      (case gc_BadRow => k_is)
      (case ga_HasKey => k_is)
      (case gh_HasKey => k_is)
      (case gc_HasKey => k_is)
      (case ga_NoKey => k_is)
      (case gh_NoKey => k_is)
      (case gc_NoKey => k_is)
      (case ga_NoMoment => k_is)
      (case gh_NoMoment => k_is)
      (case gc_NoMoment => k_is)
      (case pg_Shelf => k_is)
      (case hd_Shelf => k_is)
      (case po_Shelf => k_is)
      (case sa_Shelf => k_is)
      (case ms_Shelf => k_is)
      (case kc_Shelf => k_is)
      (case na_Shelf_columns => k_is)
      (case na_Shelf_deeds => k_is)
      (case na_Shelf_runs => k_is)
    obtain ⟨t, T⟩ := T
    have e0 := hmg.symm.trans T.mg_law
    cases e0
    exact ⟨_, T.bl, fun base kb nb => My.ok_law T⟩
  case S => exact fun K H a ns hl hO hS => My.sp_start hl hO hS
  case C => exact fun _ _ _ _ z => z
