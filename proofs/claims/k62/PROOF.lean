import PyProof.Rows.All
import Wide.All
import OpenK.AllK
import Wide.FinOn
import Lean
import PyProof.EqAt
import PyProof.EqKinds
import PyProof.TupleCall
import PyProof.NsDelKeeps
import KE.KIsBytes
import PyProof.Rows.SetFrom
import KE.KDictOf
import PyProof.AttrMissSeq
import PyProof.WalksMore
import PyProof.ZipIter
import PyProof.StrBlock2
import PyProof.StrBlockI
import PyProof.Rows.StrJoin2
import PyProof.Rows.CountFlat
import PyProof.Rows.Range3
import PyProof.SumWalkG
import PyProof.Rows.ListMulArg
import PyProof.FactsAll.tuple
import PyProof.EnumFor
import PyProof.EnumMake
import KE.KDictLaws
import KE.KDictSum
import KE.KRevIter
import PyProof.Rows.SortStr
import PyProof.Rows.SortWalk
import PyProof.AutoListH
import PyProof.StrLawsReplace
import PySem.Challenge.RW_pageturns_k62_texts_of_no_row
set_option Elab.async false
set_option linter.all false
set_option maxRecDepth 100000
namespace L2
open PySem PySem.Spec PyProof.Rows
abbrev Key := Sum Int Str
def keyIs : Key → Value → Bool
  | .inl k, v => Value.isInt k v
  | .inr x, v => Value.isStrOf x v
def keyH (w : World) : Key → Int
  | .inl k => hashInt k
  | .inr x => hashStr w x
theorem keyIs_shape : ∀ {k : Key} {v : Value}, keyIs k v = true → (∃ i t, k = Sum.inl i ∧ v = Value.int i t) ∨ (∃ x t, k = Sum.inr x ∧ v = Value.str x t)
  | .inl i, v, h => by
    obtain ⟨t, e⟩ := Value.isInt_shape (k := i) (v := v) h
    exact .inl ⟨i, t, rfl, e⟩
  | .inr x, v, h => by
    obtain ⟨t, e⟩ := Value.isStrOf_shape (x := x) (v := v) h
    exact .inr ⟨x, t, rfl, e⟩
theorem keyIs_int (i : Int) (t : Tok) : keyIs (.inl i) (.int i t) = true := by simp [keyIs, Value.isInt]
theorem keyIs_str (x : Str) (t : Tok) : keyIs (.inr x) (.str x t) = true := by simp [keyIs, Value.isStrOf]
theorem key_ll (a b : Int) : decide ((Sum.inl a : Key) = Sum.inl b) = (a == b) := by
  by_cases e : a = b
  · subst e; simp
  · have h : ¬ (Sum.inl a : Key) = Sum.inl b := fun q => e (Sum.inl.inj q)
    rw [decide_eq_false h]
    exact (beq_eq_false_iff_ne.mpr e).symm
theorem key_rr (a b : Str) : decide ((Sum.inr a : Key) = Sum.inr b) = decide (a = b) := by
  by_cases e : a = b
  · subst e; simp
  · have h : ¬ (Sum.inr a : Key) = Sum.inr b := fun q => e (Sum.inr.inj q)
    rw [decide_eq_false h, decide_eq_false e]
theorem key_lr (a : Int) (b : Str) : decide ((Sum.inl a : Key) = Sum.inr b) = false := decide_eq_false (fun q => nomatch q)
theorem key_rl (a : Str) (b : Int) : decide ((Sum.inr a : Key) = Sum.inl b) = false := decide_eq_false (fun q => nomatch q)
def mixKind (prog : Program) (w : World) : PySem.KeyKind prog w Key where
  is := keyIs
  hash := keyH w
  inj := fun v a b ha hb => by
    rcases keyIs_shape ha with ⟨i, t, rfl, rfl⟩ | ⟨x, t, rfl, rfl⟩
    · rcases keyIs_shape hb with ⟨j, u, rfl, e⟩ | ⟨y, u, rfl, e⟩
      · injection e with e1 _; rw [e1]
      · exact nomatch e
    · rcases keyIs_shape hb with ⟨j, u, rfl, e⟩ | ⟨y, u, rfl, e⟩
      · exact nomatch e
      · injection e with e1 _; rw [e1]
  byValue := fun k v h => by
    rcases keyIs_shape h with ⟨i, t, rfl, rfl⟩ | ⟨x, t, rfl, rfl⟩ <;> rfl
  pyHash := fun hv h => by
    rcases keyIs_shape hv with ⟨i, t, rfl, rfl⟩ | ⟨x, t, rfl, rfl⟩
    · exact wpAny_pyHash_int h
    · exact wpAny_pyHash_str h
  eqBool := fun hu hv h => by
    rcases keyIs_shape hu with ⟨i, t, rfl, rfl⟩ | ⟨x, t, rfl, rfl⟩
    · rcases keyIs_shape hv with ⟨j, u, rfl, rfl⟩ | ⟨y, u, rfl, rfl⟩
      · rw [key_ll] at h; exact wpAny_eqBool_int h
      · rw [key_lr] at h; exact SeqAt.EqAt.int_str i t y u _ _ _ _ h
    · rcases keyIs_shape hv with ⟨j, u, rfl, rfl⟩ | ⟨y, u, rfl, rfl⟩
      · rw [key_rl] at h; exact SeqAt.EqAt.str_int x t j u _ _ _ _ h
      · rw [key_rr] at h; exact wpAny_eqBool_str h
  «strs» := fun k x t v h => by
    rcases keyIs_shape h with ⟨i, u, rfl, e⟩ | ⟨y, u, rfl, e⟩
    · exact nomatch e
    · injection e with e1 _
      subst e1
      cases v <;> rfl
theorem mixKind_int (prog : Program) (w : World) (i : Int) (t : Tok) : (mixKind prog w).is (.inl i) (.int i t) = true := keyIs_int i t
theorem mixKind_str (prog : Program) (w : World) (x : Str) (t : Tok) : (mixKind prog w).is (.inr x) (.str x t) = true := keyIs_str x t
end L2
namespace L2
open PySem PySem.Spec PyProof.Rows
inductive V where
  | non | bl (b : Bool) | int (i : Int) | str (x : Str) | byt (b : Array UInt8) | flt (b : UInt64) | ref (a : Addr) | ty (n : String)
  deriving DecidableEq
def RelV : V → Value → Prop
  | .non, u => u = Value.none
  | .bl b, u => u = Value.bool b
  | .int i, u => ∃ t, u = Value.int i t
  | .str x, u => ∃ t, u = Value.str x t
  | .byt b, u => ∃ t, u = Value.bytes b t
  | .flt b, u => ∃ t, u = Value.float b t
  | .ref a, u => u = Value.ref a
  | .ty n, u => u = Value.type n
abbrev Vals : List V → List Value → Prop := Paired RelV
theorem Vals.length {xs : List V} {us : List Value} (r : Vals xs us) : xs.length = us.length := Paired.length r
theorem Vals.get : ∀ {xs : List V} {us : List Value} {i : Nat} {x : V}, Vals xs us → xs[i]? = some x → ∃ u, us[i]? = some u ∧ RelV x u
  | _, _, _, _, .nil, e => by simp at e
  | _, _, 0, _, .cons r _, e => by simp at e; subst e; exact ⟨_, rfl, r⟩
  | _, _, i + 1, x, .cons _ t, e => by
    obtain ⟨u, h1, h2⟩ := Vals.get (i := i) (x := x) t (by simpa using e)
    exact ⟨u, by simpa using h1, h2⟩
theorem Vals.set {x : V} {u : Value} (r : RelV x u) : ∀ {xs : List V} {us : List Value} (i : Nat), Vals xs us → Vals (xs.set i x) (us.set i u)
  | _, _, _, .nil => .nil
  | _, _, 0, .cons _ t => .cons r t
  | _, _, i + 1, .cons q t => .cons q (Vals.set r i t)
theorem Vals.append : ∀ {xs ys : List V} {us ws : List Value}, Vals xs us → Vals ys ws → Vals (xs ++ ys) (us ++ ws)
  | _, _, _, _, .nil, s => s
  | _, _, _, _, .cons r t, s => .cons r (Vals.append t s)
theorem Vals.take : ∀ {xs : List V} {us : List Value} (n : Nat), Vals xs us → Vals (xs.take n) (us.take n)
  | _, _, 0, _ => .nil
  | _, _, _ + 1, .nil => .nil
  | _, _, n + 1, .cons r t => .cons r (Vals.take n t)
theorem Vals.drop : ∀ {xs : List V} {us : List Value} (n : Nat), Vals xs us → Vals (xs.drop n) (us.drop n)
  | _, _, 0, r => r
  | _, _, _ + 1, .nil => .nil
  | _, _, n + 1, .cons _ t => Vals.drop n t
def RelO : Option V → Option Value → Prop
  | some v, some u => RelV v u
  | none, none => True
  | _, _ => False
def KV {κ : Type} : List (κ × V) → List (κ × Value) → Prop := Paired fun (p : κ × V) (q : κ × Value) => p.1 = q.1 ∧ RelV p.2 q.2
def kV : Key → V
  | .inl i => .int i
  | .inr x => .str x
inductive HO where
    | lst (xs : List V)
    | tup (xs : List V)
    | dK (kvs : List (Key × V)) | dT (kvs : List (List Key × V))
    | set (S : Int → Bool) (n : Nat)
    | ins (C dx : Addr) (fs : List (Str × V))
    | own (x : Addr)
    | xd (fs : List (Str × V))
    | met (f x : Addr)
    | rng (lo hi : Int)
    | frz (o : Obj) (u : HO)
    | tbl (ps : Array Value)
    | ext (φ : Heap → Prop)
abbrev Hp := Addr → Option HO
def upd (H : Hp) (a : Addr) (o : HO) : Hp := fun b => if b = a then some o else H b
theorem upd_same {H : Hp} {a : Addr} {o : HO} : upd H a o a = some o := by unfold upd; rw [if_pos rfl]
theorem upd_ne {H : Hp} {a b : Addr} {o : HO} (h : b ≠ a) : upd H a o b = H b := by unfold upd; rw [if_neg h]
theorem ne_of_none {H : Hp} {a b : Addr} {o : HO} (h : H a = some o) (h' : H b = none) : a ≠ b := by
  intro e; subst e; rw [h] at h'; cases h'
def IsTupN (h : Heap) (a : Addr) (items : Array Value) : Prop := ∃ o, h.get? a = some o ∧ o.cls = .type "tuple" ∧ o.dict = none ∧ ∃ n, o.data = .seq items n
theorem IsTupN.tup {h : Heap} {a : Addr} {items : Array Value} (x : IsTupN h a items) : IsTup h a items := let ⟨o, e, c, _, n, d⟩ := x; ⟨o, e, c, n, d⟩
theorem IsTupN.lt {h : Heap} {a : Addr} {items : Array Value} (x : IsTupN h a items) : a < h.objs.size := x.tup.lt
theorem IsTupN.new (h : Heap) (items : Array Value) : IsTupN (h.push { cls := .type "tuple", data := .seq items }) h.objs.size items := ⟨_, Heap.get?_push_size _ rfl, rfl, rfl, _, rfl⟩
section
variable (P : Program) (w : World)
def ObjOk (H : Hp) (h : Heap) (a : Addr) : HO → Prop
  | .lst xs => xs.length ≤ sizeLine ∧ ∃ (its : List Value) (n : Nat), Vals xs its ∧ h.get? a = some { cls := .type "list", data := .seq its.toArray n }
  | .tup xs => xs.length ≤ sizeLine ∧ ∃ its : List Value, Vals xs its ∧ IsTupN h a its.toArray
  | .dK kvs => kvs.length ≤ sizeLine ∧ (a == sysModules) = false ∧ ∃ vs, KV kvs vs ∧ h.DictOf (mixKind P w) a vs
  | .dT _ => False
  | .set S n => h.SetOf (intKind P w) a S n
  | .ins C dx fs => H dx = some (.own a) ∧ fs.length ≤ 1000 ∧ dx ≠ a ∧ h.get? a = some (PySem.W.instObj C dx) ∧
      ∃ mA, h.Ns1 dx mA ∧ (∀ f, RelO (fs.lookup f) (mA f)) ∧ PySem.Within mA (fs.map (·.1))
  | .own _ => ∃ o, h.get? a = some o
  | .xd fs => ∃ mA, h.Ns1 a mA ∧ ∀ f, RelO (fs.lookup f) (mA f)
  | .rng lo hi => ∃ t u v, h.get? a = some { cls := .type "range", data := .fields #[.int lo t, .int hi u, .int 1 v] }
  | .frz o u => h.get? a = some o ∧ ObjOk H h a u
  | .tbl ps => h.get? a = some { cls := .none, data := .fields ps }
  | .met f x => h.get? a = some (PySem.W.methodObj (.ref f) (.ref x))
  | .ext φ => φ h ∧ (∃ o, h.get? a = some o) ∧ ∀ h1 h2 : Heap, φ h1 → (∀ o, h1.get? a = some o → h2.get? a = some o) → φ h2
def HOk (H : Hp) (h : Heap) : Prop := ∀ a o, H a = some o → ObjOk P w H h a o
end
section
variable {P : Program} {w : World} {H H' : Hp} {h h' : Heap} {a : Addr} {o : HO}
theorem ObjOk.lt (x : ObjOk P w H h a o) : a < h.objs.size := by
  cases o with
  | lst xs => obtain ⟨_, _, _, _, e⟩ := x; exact Heap.lt_size e
  | tup xs => obtain ⟨_, _, _, p⟩ := x; exact p.lt
  | dK kvs => obtain ⟨_, _, _, _, o, _, _, e, _⟩ := x; exact Heap.lt_size e
  | dT kvs => exact False.elim x
  | set S n => obtain ⟨o, _, _, _, e, _⟩ := x; exact Heap.lt_size e
  | ins C dx fs => obtain ⟨_, _, _, e, _⟩ := x; exact Heap.lt_size e
  | own y => obtain ⟨_, e⟩ := x; exact Heap.lt_size e
  | xd fs => obtain ⟨_, ⟨_, _, _, e, _⟩, _⟩ := x; exact Heap.lt_size e
  | rng lo hi => obtain ⟨_, _, _, e⟩ := x; exact Heap.lt_size e
  | frz ob u => obtain ⟨e, _⟩ := x; exact Heap.lt_size e
  | tbl ps => exact Heap.lt_size (show h.get? a = some _ from x)
  | met f y => exact Heap.lt_size (show h.get? a = some _ from x)
  | ext φ => obtain ⟨_, ⟨_, e⟩, _⟩ := x; exact Heap.lt_size e
theorem ObjOk.stay (x : ObjOk P w H h a o) (k : ∀ b u, (b = a ∨ H b = some (.own a)) → h.get? b = some u → h'.get? b = some u)
    (ho : ∀ b, H b = some (.own a) → H' b = some (.own a)) (ht : ∀ b xs, H b = some (.tup xs) → H' b = some (.tup xs)) : ObjOk P w H' h' a o := by
  induction o with
  | lst xs => obtain ⟨z, its, n, r, e⟩ := x; exact ⟨z, its, n, r, k _ _ (.inl rfl) e⟩
  | tup xs => obtain ⟨z, its, r, ob, e, c⟩ := x; exact ⟨z, its, r, ob, k _ _ (.inl rfl) e, c⟩
  | dK kvs => obtain ⟨z, y, vs, r, ob, es, ep, e, c⟩ := x; exact ⟨z, y, vs, r, ob, es, ep, k _ _ (.inl rfl) e, c⟩
  | dT kvs => exact False.elim x
  | set S n => obtain ⟨ob, es, ep, t, e, c⟩ := x; exact ⟨ob, es, ep, t, k _ _ (.inl rfl) e, c⟩
  | ins C dx fs =>
    obtain ⟨d, z, ne, e, mA, ⟨od, es, ep, e2, c⟩, r⟩ := x
    exact ⟨ho _ d, z, ne, k _ _ (.inl rfl) e, mA, ⟨od, es, ep, k _ _ (.inr d) e2, c⟩, r⟩
  | own y => obtain ⟨ob, e⟩ := x; exact ⟨ob, k _ _ (.inl rfl) e⟩
  | xd fs => obtain ⟨mA, ⟨od, es, ep, e, c⟩, r⟩ := x; exact ⟨mA, ⟨od, es, ep, k _ _ (.inl rfl) e, c⟩, r⟩
  | rng lo hi => obtain ⟨t, u, v, e⟩ := x; exact ⟨t, u, v, k _ _ (.inl rfl) e⟩
  | frz ob u ih => obtain ⟨e, q⟩ := x; exact ⟨k _ _ (.inl rfl) e, ih q⟩
  | tbl ps =>
    have e : h.get? a = some { cls := .none, data := .fields ps } := x
    show h'.get? a = some { cls := .none, data := .fields ps }
    exact k a _ (.inl rfl) e
  | met f y =>
    have e : h.get? a = some (PySem.W.methodObj (.ref f) (.ref y)) := x
    show h'.get? a = some (PySem.W.methodObj (.ref f) (.ref y))
    exact k a _ (.inl rfl) e
  | ext φ => obtain ⟨p, ⟨o, e⟩, st⟩ := x; exact ⟨st _ _ p fun o q => k _ _ (.inl rfl) q, ⟨o, k _ _ (.inl rfl) e⟩, st⟩
theorem HOk.lt (x : HOk P w H h) (e : H a = some o) : a < h.objs.size := (x a o e).lt
theorem HOk.fresh (x : HOk P w H h) (e : h.objs.size ≤ a) : H a = none := by
  cases q : H a with
  | none => rfl
  | some u => exact absurd (Nat.lt_of_lt_of_le (x.lt q) e) (Nat.lt_irrefl _)
theorem HOk.kept (x : HOk P w H h) (k : ∀ b u, h.get? b = some u → h'.get? b = some u) : HOk P w H h' := fun a o e =>
  (x a o e).stay (fun b u _ q => k b u q) (fun _ q => q) fun _ _ q => q
theorem HOk.laid (x : HOk P w H h) (k : ∀ b u, h.get? b = some u → h'.get? b = some u) (hp : h.objs.size ≤ a) (new : ObjOk P w (upd H a o) h' a o) : HOk P w (upd H a o) h' := fun b u e => by
  have hn := x.fresh hp
  by_cases hb : b = a
  · subst hb; rw [upd_same] at e; cases e; exact new
  · rw [upd_ne hb] at e
    exact (x b u e).stay (fun c v _ q => k c v q) (fun c q => by rw [upd_ne (ne_of_none q hn)]; exact q) fun c xs q => by rw [upd_ne (ne_of_none q hn)]; exact q
end
def Rd (H : Hp) (a : Addr) (u : HO) : Prop := H a = some u ∨ ∃ o, H a = some (.frz o u)
theorem Rd.ok {P : Program} {w : World} {H : Hp} {h : Heap} {a : Addr} {u : HO} (r : Rd H a u) (x : HOk P w H h) : ObjOk P w H h a u := by
  rcases r with r | ⟨o, r⟩
  · exact x a u r
  · obtain ⟨_, q⟩ := x a _ r
    exact q
def Mut : Option HO → Prop
  | some (.lst _) => True
  | some (.dK _) => True
  | some (.dT _) => True
  | some (.set _ _) => True
  | some (.ins _ _ _) => True
  | some (.ext _) => True
  | _ => False
section
variable {P : Program} {w : World} {H : Hp} {h h' : Heap} {x e : Addr} {o' : HO}
theorem HOk.write (ok : HOk P w H h) (mu : Mut (H x)) (he : e = x ∨ H e = some (.own x)) (k : ∀ b u, b ≠ e → h.get? b = some u → h'.get? b = some u) (heo : ∃ u, h'.get? e = some u)
    (new : ObjOk P w (upd H x o') h' x o') : HOk P w (upd H x o') h' := fun b u q => by
  have nown : ∀ c y, H c = some (.own y) → c ≠ x := fun c y r z => by subst z; rw [r] at mu; exact mu
  have ntup : ∀ c xs, H c = some (.tup xs) → c ≠ x := fun c xs r z => by subst z; rw [r] at mu; exact mu
  by_cases hb : b = x
  · subst hb; rw [upd_same] at q; cases q; exact new
  · rw [upd_ne hb] at q
    by_cases hbe : b = e
    · have q' : H b = some (.own x) := by
        rcases he with z | z
        · exact absurd (hbe.trans z) hb
        · rw [hbe]; exact z
      rw [q] at q'; cases q'
      obtain ⟨v, hv⟩ := heo
      exact ⟨v, by rw [hbe]; exact hv⟩
    · refine (ok b u q).stay (fun c v hc r => k c v ?_ r) (fun c r => by rw [upd_ne (nown c b r)]; exact r) fun c xs r => by rw [upd_ne (ntup c xs r)]; exact r
      rcases hc with rfl | hc
      · exact hbe
      · rintro rfl
        rcases he with z | z
        · exact nown c b hc z
        · rw [hc] at z; cases z; exact hb rfl
end
structure Un (fs ex : List Addr) (H H' : Hp) (h h' : Heap) : Prop where
  keep : ∀ b o, h.get? b = some o → H b = none → b ∉ fs → b ∉ ex → h'.get? b = some o
  slot : ∀ b o, h.get? b = some o → H b = none → b ∈ fs → b ∉ ex → ∃ sl, h'.get? b = some { o with slots := sl }
  free : ∀ b o, h.get? b = some o → H b = none → b ∉ ex → H' b = none
  there : ∀ b o, h.get? b = some o → b ∉ ex → ∃ o', h'.get? b = some o'
  tups : ∀ b xs, H b = some (.tup xs) → H' b = some (.tup xs)
  frzs : ∀ b o u, H b = some (.frz o u) → H' b = some (.frz o u)
  tbls : ∀ b ps, H b = some (.tbl ps) → ∃ more, H' b = some (.tbl (ps ++ more))
section
variable {fs fs' ex ex' : List Addr} {H H1 H2 : Hp} {h h1 h2 h' : Heap} {a x e : Addr} {o : HO}
theorem Un.any (u : Un fs ex H H1 h h1) {b : Addr} {ob : Obj} (q : h.get? b = some ob) (n : H b = none) (hx : b ∉ ex) : ∃ sl, h1.get? b = some { ob with slots := sl } := by
  by_cases hb : b ∈ fs
  · exact u.slot b ob q n hb hx
  · exact ⟨ob.slots, u.keep b ob q n hb hx⟩
theorem Un.kept (k : ∀ b u, h.get? b = some u → h'.get? b = some u) : Un fs ex H H h h' :=
  ⟨fun b ob q _ _ _ => k b ob q, fun b ob q _ _ _ => ⟨ob.slots, k b ob q⟩, fun _ _ _ n _ => n, fun b ob q _ => ⟨ob, k b ob q⟩, fun _ _ q => q, fun _ _ _ q => q, fun _ ps q => ⟨#[], by rw [q]; simp⟩⟩
theorem Un.refl : Un fs ex H H h h := Un.kept fun _ _ q => q
theorem Un.laid (k : ∀ b u, h.get? b = some u → h'.get? b = some u) (hp : h.objs.size ≤ a) (hn : H a = none) : Un fs ex H (upd H a o) h h' where
  keep := fun b u q _ _ _ => k b u q
  slot := fun b u q _ _ _ => ⟨u.slots, k b u q⟩
  free := fun b u q n _ => by rw [upd_ne (Nat.ne_of_lt (Nat.lt_of_lt_of_le (Heap.lt_size q) hp))]; exact n
  there := fun b u q _ => ⟨u, k b u q⟩
  tups := fun b xs q => by rw [upd_ne (ne_of_none q hn)]; exact q
  frzs := fun b u xs q => by rw [upd_ne (ne_of_none q hn)]; exact q
  tbls := fun b ps q => ⟨#[], by rw [upd_ne (ne_of_none q hn), q]; simp⟩
theorem Un.write (mu : Mut (H x)) (he : e = x ∨ H e = some (.own x)) (k : ∀ b u, b ≠ e → h.get? b = some u → h'.get? b = some u) (heo : ∃ u, h'.get? e = some u) : Un fs ex H (upd H x o) h h' := by
  have hx : ∀ b, H b = none → b ≠ x := fun b n z => by subst z; rw [n] at mu; exact mu
  have hb : ∀ b, H b = none → b ≠ e := fun b n z => by
    subst z
    rcases he with r | r
    · exact hx b n r
    · rw [n] at r; cases r
  have hm : ∀ b u, H b = some u → ¬ Mut (some u) → b ≠ x := fun b u q nm z => by subst z; rw [q] at mu; exact nm mu
  refine ⟨fun b u q n _ _ => k b u (hb b n) q, fun b u q n _ _ => ⟨u.slots, k b u (hb b n) q⟩, fun b u q n _ => by rw [upd_ne (hx b n)]; exact n, fun b u q _ => ?_,
    fun b xs q => by rw [upd_ne (hm b _ q fun z => z)]; exact q, fun b u xs q => by rw [upd_ne (hm b _ q fun z => z)]; exact q, fun b ps q => ⟨#[], by rw [upd_ne (hm b _ q fun z => z), q]; simp⟩⟩
  by_cases hbe : b = e
  · subst hbe; exact heo
  · exact ⟨u, k b u hbe q⟩
end
def trk (h : Heap) (H : Hp) : List Addr := (List.range h.objs.size).filter fun a => (H a).isSome
def hidT (h : Heap) (H : Hp) : Heap := PySem.W.hideAll h (trk h H)
theorem hidT_size (h : Heap) (H : Hp) : (hidT h H).objs.size = h.objs.size := PySem.W.hideAll_size _ _
theorem hidT_get {h : Heap} {H : Hp} {b : Addr} {o : Obj} (e : h.get? b = some o) (n : H b = none) : (hidT h H).get? b = some o :=
  PySem.W.hideAll_get _ e fun hm => by
    have q : (H b).isSome = true := (List.mem_filter.mp hm).2
    rw [n] at q; simp at q
theorem of_hidT {h : Heap} {H : Hp} {b : Addr} {o : Obj} (e : (hidT h H).get? b = some o) : h.get? b = some o ∧ H b = none := by
  have e' : h.get? b = some o := PySem.W.of_hideAll (trk h H) e
  refine ⟨e', ?_⟩
  cases q : H b with
  | none => rfl
  | some x =>
    have hm : b ∈ trk h H := List.mem_filter.mpr ⟨List.mem_range.mpr (Heap.lt_size e'), by simp [q]⟩
    have z : (hidT h H).get? b = none := PySem.W.hideAll_none (trk h H) hm
    rw [z] at e; cases e
def allNews (g h : Heap) (L : Addr) : List (Addr × Obj) := (List.range h.objs.size).filterMap fun a => if a = L ∨ (g.get? a).isSome = true then none else (h.get? a).map fun o => (a, o)
def rest (g h : Heap) (L d : Addr) : List (Addr × Obj) := (allNews g h L).filter fun p => decide (p.1 ≠ d)
end L2
namespace L2
open PySem PySem.Spec PyProof.Rows
structure Mod (K : PySem.W.Frag) (mg : Str → Option Value) (base : Heap) : Prop where
  kin : K.In base
  glob : base.Ns mainGlobals mg
  blt : ∃ mb, base.Ns builtinsNs mb ∧ ∀ x : Str, x ≠ "__name__" → mb x = bootBuiltins x
  nolimit : base.NoLimit
structure Cx where
  prog : Program
  w : World
  K : PySem.W.Frag
  mg : Str → Option Value
  base : Heap
  A : Around
  N : List Str
  s₀ : Shared
  H₀ : Hp
  env : Env
  outer : List Env
  stack : List Env
  ex : List Addr
  fn : Str → Bool
  calm : Bool
  pn : List (Addr × Obj)
  xe : Value → Shared → Prop
def frs (l : List Env) : List Addr := l.filterMap (·.frame)
abbrev Cx.fs (X : Cx) : List Addr := frs X.outer
def Vis (sc : Scope) (x : Str) : Prop := sc.names.lookup x = some .local ∨ sc.names.lookup x = some .cell ∨ sc.names.lookup x = some .free
def Loc (sc : Scope) (x : Str) : Prop := sc.names.lookup x = some .local ∨ sc.names.lookup x = some .cell
def Look (env : Env) (h : Heap) (m : Str → Option Value) (x : Str) (u : Value) : Prop :=
  (env.kindOf x = some .local ∧ m x = some u) ∨ ((env.kindOf x = some .cell ∨ env.kindOf x = some .free) ∧ ∃ c, env.cells.lookup x = some c ∧ h.IsCell c (some u))
structure Cx.Ok (X : Cx) : Prop where
  mod : Mod X.K X.mg X.base
  kind : X.env.scope.kind = .function
  glob : X.env.globals = mainGlobals
  blt : X.env.builtins = builtinsNs
  above : X.s₀.heap.objs.size ≤ X.env.locals
  inj : ∀ x y c, X.env.cells.lookup x = some c → X.env.cells.lookup y = some c → x = y
  has : ∀ x, (X.env.kindOf x = some .cell ∨ X.env.kindOf x = some .free) → ∃ c, X.env.cells.lookup x = some c
  cab : ∀ x c, X.fn x = true → X.env.cells.lookup x = some c → X.s₀.heap.objs.size ≤ c
  hd : X.calm = true → X.A.handled = none
  frames : X.A.frames = some X.stack
  stk : X.stack = X.outer ∨ (X.stack = X.env :: X.outer ∧ X.env.frame = some X.env.locals)
  exf : ∀ b ∈ X.ex, b ≠ X.env.locals ∧ ∀ x c, X.env.cells.lookup x = some c → c ≠ b
  bs : ∀ b o, X.base.get? b = some o → X.s₀.heap.get? b = some o ∧ X.H₀ b = none
  bsz : X.base.objs.size ≤ X.s₀.heap.objs.size
  noex : ∀ b o, X.base.get? b = some o → b ∉ X.ex
  exfs : ∀ b ∈ X.ex, b ∉ X.fs
  funs : X.s₀.heap.FunFrames X.base X.outer
  frf : ∀ b ∈ X.fs, X.H₀ b = none
structure Inv (X : Cx) (pins : List (Addr × Obj)) (σ : List (Option V)) (H : Hp) (s : Shared) : Prop where
  ok : X.Ok
  os : s.os = X.s₀.os
  bare : AllBare s.gens
  base : Un X.fs X.ex X.H₀ H X.s₀.heap s.heap
  loc : ∃ m, s.heap.Ns X.env.locals m ∧ ∀ (i : Nat) (x : Str) (v : V), X.N[i]? = some x → σ[i]? = some (some v) → Vis X.env.scope x → ∃ u, RelV v u ∧ Look X.env s.heap m x u
  cell : ∀ x c, X.env.cells.lookup x = some c → ∃ v, s.heap.IsCell c v
  free : H X.env.locals = none
  freeC : ∀ x c, X.env.cells.lookup x = some c → H c = none
  pin : ∀ p ∈ X.pn ++ pins, s.heap.get? p.1 = some p.2 ∧ H p.1 = none ∧ p.1 ≠ X.env.locals ∧ p.1 ∉ X.fs ∧ ∀ v, p.2.data ≠ .cell v
  hok : HOk X.prog X.w H s.heap
  len : σ.length = X.N.length
section
variable {X : Cx} {pins : List (Addr × Obj)} {σ : List (Option V)} {H H' : Hp} {s : Shared} {h' : Heap}
theorem Cx.Ok.nofr (ok : X.Ok) {b : Addr} {o : Obj} (e : X.base.get? b = some o) : b ∉ X.fs := fun hb => by
  have := (ok.funs.mem hb).1
  rw [e] at this; cases this
theorem Inv.bs (I : Inv X pins σ H s) : ∀ b o, X.base.get? b = some o → s.heap.get? b = some o ∧ H b = none := fun b o e =>
  ⟨I.base.keep b o (I.ok.bs b o e).1 (I.ok.bs b o e).2 (I.ok.nofr e) (I.ok.noex b o e), I.base.free b o (I.ok.bs b o e).1 (I.ok.bs b o e).2 (I.ok.noex b o e)⟩
theorem Inv.bk (I : Inv X pins σ H s) : ∀ b o, X.base.get? b = some o → s.heap.get? b = some o := fun b o e => (I.bs b o e).1
theorem Inv.mod (I : Inv X pins σ H s) : Mod X.K X.mg X.base := I.ok.mod
theorem Inv.kIn (I : Inv X pins σ H s) : X.K.In s.heap := I.ok.mod.kin.keeps I.bk
theorem Inv.fr (I : Inv X pins σ H s) : ∃ m, Fr X.base X.env.locals s.heap m :=
  let ⟨m, hn, _⟩ := I.loc
  ⟨m, hn, I.bk, Nat.le_trans I.ok.bsz I.ok.above⟩
theorem Inv.lt (I : Inv X pins σ H s) : X.env.locals < s.heap.objs.size := let ⟨_, hn, _⟩ := I.loc; hn.lt
theorem Inv.sz (I : Inv X pins σ H s) : X.s₀.heap.objs.size ≤ s.heap.objs.size := Nat.le_trans I.ok.above (Nat.le_of_lt I.lt)
theorem Inv.nofs (I : Inv X pins σ H s) {a : Addr} (h : s.heap.objs.size ≤ a) : a ∉ X.fs := fun hb => by
  obtain ⟨_, o, ho, _⟩ := I.ok.funs.mem hb
  exact absurd (Nat.lt_of_lt_of_le (Heap.lt_size ho) (Nat.le_trans I.sz h)) (Nat.lt_irrefl _)
theorem Inv.cne (I : Inv X pins σ H s) : ∀ x c, X.env.cells.lookup x = some c → c ≠ X.env.locals := fun x c e z => by
  obtain ⟨v, o, ho, hd⟩ := I.cell x c e
  obtain ⟨m, ⟨o', es, ep, ho', hd', _⟩, _⟩ := I.loc
  rw [z, ho'] at ho; cases ho; rw [hd'] at hd; cases hd
theorem Inv.funs (I : Inv X pins σ H s) : s.heap.FunFrames X.base X.outer := by
  have all : ∀ (l : List Env), (∀ b ∈ frs l, b ∈ X.fs) → X.s₀.heap.FunFrames X.base l → s.heap.FunFrames X.base l := by
    intro l
    induction l with
    | nil => intro _ _; trivial
    | cons env r ih =>
      intro hs hl
      obtain ⟨hk, ⟨L, o, hf, hn, ho, hd⟩, hr⟩ := hl
      have hL : L ∈ X.fs := hs L (by unfold frs; rw [List.filterMap_cons, hf]; exact List.mem_cons_self)
      obtain ⟨sl, e⟩ := I.base.slot L o ho (I.ok.frf L hL) hL fun z => I.ok.exfs L z hL
      exact ⟨hk, ⟨L, _, hf, hn, e, hd⟩, ih (fun b hb => hs b (by unfold frs; rw [List.filterMap_cons, hf]; exact List.mem_cons_of_mem _ hb)) hr⟩
  exact all X.outer (fun _ hb => hb) I.ok.funs
theorem Inv.stack (I : Inv X pins σ H s) : s.heap.FunFrames X.base X.stack := by
  rcases I.ok.stk with e | ⟨e, hf⟩
  · rw [e]; exact I.funs
  · rw [e]
    obtain ⟨m, hn, _⟩ := I.loc
    refine .cons (by rw [I.ok.kind]; decide) hf hn ?_ I.funs
    exact Heap.get?_none_of_le (Nat.le_trans I.ok.bsz I.ok.above)
theorem Inv.stkSub (I : Inv X pins σ H s) : ∀ b ∈ frs X.stack, b ∈ X.env.locals :: X.fs := fun b hb => by
  rcases I.ok.stk with e | ⟨e, hf⟩
  · rw [e] at hb; exact List.mem_cons_of_mem _ hb
  · rw [e] at hb
    unfold frs at hb
    rw [List.filterMap_cons, hf] at hb
    exact hb
theorem Inv.stkFree (I : Inv X pins σ H s) : ∀ b ∈ frs X.stack, H b = none := fun b hb => by
  rcases List.mem_cons.mp (I.stkSub b hb) with e | hb
  · rw [e]; exact I.free
  · obtain ⟨_, o, ho, _⟩ := I.ok.funs.mem hb
    exact I.base.free b o ho (I.ok.frf b hb) fun z => I.ok.exfs b z hb
theorem Inv.step {g' : Array GenState} {t' : Nat} {d' : Drawn} {ch : List Addr} (I : Inv X pins σ H s)
    (hch : ∀ b ∈ ch, (b ∈ X.ex ∨ X.s₀.heap.objs.size ≤ b) ∧ b ≠ X.env.locals ∧ (∀ x c, X.env.cells.lookup x = some c → c ≠ b) ∧ ∀ p ∈ X.pn ++ pins, p.1 ≠ b)
    (keep : ∀ b o, b ≠ X.env.locals → b ∉ X.fs → b ∉ ch → s.heap.get? b = some o → H b = none → h'.get? b = some o)
    (slot : ∀ b o, b ≠ X.env.locals → b ∈ X.fs → b ∉ ch → s.heap.get? b = some o → H b = none → ∃ sl, h'.get? b = some { o with slots := sl }) (free : ∀ b o, b ∉ ch → s.heap.get? b = some o → H b = none → H' b = none)
    (there : ∀ b o, b ∉ ch → s.heap.get? b = some o → ∃ o', h'.get? b = some o')
    (tups : ∀ b xs, H b = some (.tup xs) → H' b = some (.tup xs)) (frzs : ∀ b o u, H b = some (.frz o u) → H' b = some (.frz o u)) (tbls : ∀ b ps, H b = some (.tbl ps) → ∃ more, H' b = some (.tbl (ps ++ more)))
    (ns : ∀ m, s.heap.Ns X.env.locals m → h'.Ns X.env.locals m) (hok : HOk X.prog X.w H' h') (hg : AllBare g') :
    Inv X pins σ H' { s with heap := h', gens := g', drawn := d', toks := t' } := by
  have neL : ∀ b o, X.s₀.heap.get? b = some o → b ≠ X.env.locals := fun b o e => Nat.ne_of_lt (Nat.lt_of_lt_of_le (Heap.lt_size e) I.ok.above)
  have neC : ∀ b o, X.s₀.heap.get? b = some o → b ∉ X.ex → b ∉ ch := fun b o e hx hb => by
    rcases (hch b hb).1 with z | z
    · exact hx z
    · exact absurd (Nat.lt_of_lt_of_le (Heap.lt_size e) z) (Nat.lt_irrefl _)
  have cellK : ∀ x c, X.env.cells.lookup x = some c → ∀ v, s.heap.IsCell c v → h'.IsCell c v := fun x c e v ⟨o, ho, hd⟩ => by
    have nch : c ∉ ch := fun z => (hch c z).2.2.1 x c e rfl
    by_cases hc : c ∈ X.fs
    · obtain ⟨sl, q⟩ := slot c o (I.cne x c e) hc nch ho (I.freeC x c e)
      exact ⟨_, q, hd⟩
    · exact ⟨o, keep c o (I.cne x c e) hc nch ho (I.freeC x c e), hd⟩
  refine ⟨I.ok, I.os, hg, ⟨fun b o e n hb hx => ?_, fun b o e n hb hx => ?_, fun b o e n hx => ?_, fun b o e hx => ?_, fun b xs e => tups b xs (I.base.tups b xs e), fun b o xs e => frzs b o xs (I.base.frzs b o xs e), fun b ps e => ?_⟩, ?_, fun x c e => ?_, ?_, fun x c e => ?_, fun p hp => ?_, hok, I.len⟩
  · exact keep b o (neL b o e) hb (neC b o e hx) (I.base.keep b o e n hb hx) (I.base.free b o e n hx)
  · obtain ⟨sl, e1⟩ := I.base.slot b o e n hb hx
    obtain ⟨sl', e2⟩ := slot b _ (neL b o e) hb (neC b o e hx) e1 (I.base.free b o e n hx)
    exact ⟨sl', e2⟩
  · obtain ⟨o', e1⟩ := I.base.there b o e hx
    exact free b o' (neC b o e hx) e1 (I.base.free b o e n hx)
  · obtain ⟨o', e1⟩ := I.base.there b o e hx
    exact there b o' (neC b o e hx) e1
  · obtain ⟨m1, e1⟩ := I.base.tbls b ps e
    obtain ⟨m2, e2⟩ := tbls b _ e1
    exact ⟨m1 ++ m2, by rw [e2, Array.append_assoc]⟩
  · obtain ⟨m, hn, hl⟩ := I.loc
    refine ⟨m, ns m hn, fun i x v e1 e2 e3 => ?_⟩
    obtain ⟨u, r, l⟩ := hl i x v e1 e2 e3
    refine ⟨u, r, ?_⟩
    rcases l with l | ⟨k, c, e, z⟩
    · exact .inl l
    · exact .inr ⟨k, c, e, cellK x c e _ z⟩
  · obtain ⟨v, z⟩ := I.cell x c e
    exact ⟨v, cellK x c e v z⟩
  · obtain ⟨m, ⟨o, _, _, ho, _⟩, _⟩ := I.loc
    exact free _ o (fun z => (hch _ z).2.1 rfl) ho I.free
  · obtain ⟨v, o, ho, hd⟩ := I.cell x c e
    exact free c o (fun z => (hch c z).2.2.1 x c e rfl) ho (I.freeC x c e)
  · obtain ⟨e, n, ne, nf, d⟩ := I.pin p hp
    have nch : p.1 ∉ ch := fun z => (hch p.1 z).2.2.2 p hp rfl
    exact ⟨keep p.1 p.2 ne nf nch e n, free p.1 p.2 nch e n, ne, nf, d⟩
theorem Inv.un {t' : Nat} (I : Inv X pins σ H s) (u : Un X.fs [] H H' s.heap h') (hok : HOk X.prog X.w H' h') : Inv X pins σ H' { s with heap := h', toks := t' } := by
  obtain ⟨m, ⟨o, es, ep, ho, r⟩, _⟩ := id I.loc
  obtain ⟨sl, hL⟩ := u.any ho I.free (by simp)
  exact I.step (g' := s.gens) (d' := s.drawn) (ch := []) (fun _ z => nomatch z) (fun b o _ hb _ e n => u.keep b o e n hb (by simp)) (fun b o _ hb _ e n => u.slot b o e n hb (by simp)) (fun b o _ e n => u.free b o e n (by simp)) (fun b o _ e => u.there b o e (by simp)) u.tups u.frzs u.tbls (fun m' hm => by
    obtain ⟨o', es', ep', ho', r'⟩ := hm
    rw [ho] at ho'; cases ho'
    exact ⟨_, es', ep', hL, r'⟩) hok I.bare
theorem Inv.call {g' : Array GenState} {t' : Nat} {d' : Drawn} {ch : List Addr} (I : Inv X pins σ H s) (u : Un (frs X.stack) ch H H' s.heap h') (hok : HOk X.prog X.w H' h') (hg : AllBare g')
    (hch : ∀ b ∈ ch, (b ∈ X.ex ∨ X.s₀.heap.objs.size ≤ b) ∧ b ≠ X.env.locals ∧ (∀ x c, X.env.cells.lookup x = some c → c ≠ b) ∧ ∀ p ∈ X.pn ++ pins, p.1 ≠ b) :
    Inv X pins σ H' { s with heap := h', gens := g', drawn := d', toks := t' } := by
  obtain ⟨m, ⟨o, es, ep, ho, r⟩, _⟩ := id I.loc
  obtain ⟨sl, hL⟩ := u.any ho I.free fun z => (hch _ z).2.1 rfl
  exact I.step (ch := ch) hch (fun b o hL hb hc e n => u.keep b o e n (fun z => (List.mem_cons.mp (I.stkSub b z)).elim hL hb) hc) (fun b o _ _ hc e n => u.any e n hc) (fun b o hc e n => u.free b o e n hc) (fun b o hc e => u.there b o e hc) u.tups u.frzs u.tbls (fun m' hm => by
    obtain ⟨o', es', ep', ho', r'⟩ := hm
    rw [ho] at ho'; cases ho'
    exact ⟨_, es', ep', hL, r'⟩) hok hg
theorem Inv.turned {t' : Nat} {it : Addr} (I : Inv X pins σ H s) (k : ∀ b o, b ≠ it → s.heap.get? b = some o → h'.get? b = some o) (hn : H it = none) (hL : it ≠ X.env.locals)
    (h1 : it ∈ X.ex ∨ X.s₀.heap.objs.size ≤ it) (h2 : ∀ x c, X.env.cells.lookup x = some c → c ≠ it) (h3 : ∀ p ∈ X.pn ++ pins, p.1 ≠ it) : Inv X pins σ H { s with heap := h', toks := t' } := by
  have nit : ∀ b u, H b = some u → b ≠ it := fun b u e z => by rw [z, hn] at e; cases e
  refine I.step (g' := s.gens) (d' := s.drawn) (ch := [it]) (fun b hb => ?_) (fun b o _ _ hc e _ => k b o (fun z => hc (by simp [z])) e) (fun b o _ _ hc e _ => ⟨o.slots, k b o (fun z => hc (by simp [z])) e⟩) (fun _ _ _ _ n => n)
    (fun b o hc e => ⟨o, k b o (fun z => hc (by simp [z])) e⟩) (fun _ _ e => e) (fun _ _ _ e => e) (fun b ps e => ⟨#[], by rw [e]; simp⟩) (fun m hm => ?_) (fun b u e => ?_) I.bare
  · have e : b = it := by simpa using hb
    subst e
    exact ⟨h1, hL, h2, h3⟩
  · obtain ⟨o, es, ep, ho, r⟩ := hm
    exact ⟨o, es, ep, k _ o (Ne.symm hL) ho, r⟩
  · refine (I.hok b u e).stay (fun c v hc q => k c v ?_ q) (fun _ q => q) fun _ _ q => q
    rcases hc with z | z
    · rw [z]; exact nit b u e
    · exact nit c _ z
theorem Inv.tok (I : Inv X pins σ H s) (t : Nat) : Inv X pins σ H { s with toks := t } := I.un (h' := s.heap) (t' := t) Un.refl I.hok
theorem Inv.kept {t' : Nat} (I : Inv X pins σ H s) (k : ∀ b u, s.heap.get? b = some u → h'.get? b = some u) : Inv X pins σ H { s with heap := h', toks := t' } := I.un (Un.kept k) (I.hok.kept k)
theorem Inv.laid {a : Addr} {o : HO} {t' : Nat} (I : Inv X pins σ H s) (k : ∀ b u, s.heap.get? b = some u → h'.get? b = some u) (hp : s.heap.objs.size ≤ a) (new : ObjOk X.prog X.w (upd H a o) h' a o) :
    Inv X pins σ (upd H a o) { s with heap := h', toks := t' } := I.un (Un.laid k hp (I.hok.fresh hp)) (I.hok.laid k hp new)
theorem Inv.write {x e : Addr} {o : HO} {t' : Nat} (I : Inv X pins σ H s) (mu : Mut (H x)) (he : e = x ∨ H e = some (.own x)) (k : ∀ b u, b ≠ e → s.heap.get? b = some u → h'.get? b = some u) (heo : ∃ u, h'.get? e = some u)
    (new : ObjOk X.prog X.w (upd H x o) h' x o) : Inv X pins σ (upd H x o) { s with heap := h', toks := t' } := I.un (Un.write mu he k heo) (I.hok.write mu he k heo new)
theorem Inv.weak {σ' : List (Option V)} (I : Inv X pins σ H s) (hl : σ'.length = σ.length) (w : ∀ (i : Nat) v, σ'[i]? = some (some v) → σ[i]? = some (some v)) : Inv X pins σ' H s :=
  ⟨I.ok, I.os, I.bare, I.base, let ⟨m, hn, hl'⟩ := I.loc; ⟨m, hn, fun i x v e1 e2 e3 => hl' i x v e1 (w i v e2) e3⟩, I.cell, I.free, I.freeC, I.pin, I.hok, hl.trans I.len⟩
theorem Inv.pins_of {pins' : List (Addr × Obj)} (I : Inv X pins σ H s) (h : ∀ p ∈ pins', s.heap.get? p.1 = some p.2 ∧ H p.1 = none ∧ p.1 ≠ X.env.locals ∧ p.1 ∉ X.fs ∧ ∀ v, p.2.data ≠ .cell v) : Inv X pins' σ H s :=
  ⟨I.ok, I.os, I.bare, I.base, I.loc, I.cell, I.free, I.freeC, fun p hp => (List.mem_append.mp hp).elim (fun z => I.pin p (List.mem_append_left _ z)) (h p), I.hok, I.len⟩
theorem nodup_ix {N : List Str} (hN : N.Nodup) {i j : Nat} {x : Str} (a : N[i]? = some x) (b : N[j]? = some x) : i = j := by
  obtain ⟨h1, e1⟩ := List.getElem?_eq_some_iff.mp a
  obtain ⟨h2, e2⟩ := List.getElem?_eq_some_iff.mp b
  exact (List.getElem_inj hN).mp (e1.trans e2.symm)
theorem store_ok2 {M : Model} {A : Around} {E : Value → Shared → Prop} {i : Nat} {x : Str} {v : V} {u : Value} {Q : Unit → Shared → Prop} (I : Inv X pins σ H s) (hN : X.N.Nodup) (hi : X.N[i]? = some x) (hx : Loc X.env.scope x) (r : RelV v u)
    (h : ∀ s', Inv X pins (σ.set i (some v)) H s' → (∃ a, Heap.SameBut a s.heap s'.heap ∧ (a = X.env.locals ∨ X.env.cells.lookup x = some a)) → Q () s') (hf : X.fn x = true ∨ X.env.scope.names.lookup x = some .local := by first | exact .inl rfl | exact .inr rfl | assumption) : wpAny M A (storeName X.env x u) Q E s := by
  obtain ⟨m, hn, hl⟩ := id I.loc
  have hcls : (X.env.scope.kind == .class || (X.env.scope.kind == .module && X.env.locals != X.env.globals)) = false := by rw [I.ok.kind]; rfl
  have hiσ : i < σ.length := by rw [I.len]; exact (List.getElem?_eq_some_iff.mp hi).1
  have cne := I.cne
  have tracked : ∀ {a : Addr} {h' : Heap}, (∃ o, s.heap.get? a = some o ∧ H a = none) → Heap.SameBut a s.heap h' → HOk X.prog X.w H h' := fun {a h'} ha hs b ob e => by
    obtain ⟨_, _, hfree⟩ := ha
    refine (I.hok b ob e).stay (fun c w' hc q => (hs.2 c ?_).trans q) (fun _ q => q) fun _ _ q => q
    rintro rfl
    rcases hc with rfl | hc
    · rw [hfree] at e; cases e
    · rw [hfree] at hc; cases hc
  rcases hx with hk | hk
  · refine wpAny_storeName_local hk hn (fun h' hn' hs => ?_) hcls
    obtain ⟨oL, _, _, hoL, _⟩ := id hn
    refine h _ ⟨I.ok, I.os, I.bare, ⟨fun b o e n hb hx => ?_, fun b o e n hb hx => ?_, I.base.free, fun b o e hx => ?_, I.base.tups, I.base.frzs, I.base.tbls⟩, ⟨_, hn', fun j y v' e1 e2 e3 => ?_⟩, fun y c e => ?_, I.free, I.freeC, fun p hp => ?_, tracked ⟨oL, hoL, I.free⟩ hs, by simpa using I.len⟩ ⟨_, hs, .inl rfl⟩
    · exact (hs.2 b (Nat.ne_of_lt (Nat.lt_of_lt_of_le (Heap.lt_size e) I.ok.above))).trans (I.base.keep b o e n hb hx)
    · obtain ⟨sl, e1⟩ := I.base.slot b o e n hb hx
      exact ⟨sl, (hs.2 b (Nat.ne_of_lt (Nat.lt_of_lt_of_le (Heap.lt_size e) I.ok.above))).trans e1⟩
    · obtain ⟨o', e1⟩ := I.base.there b o e hx
      exact ⟨o', (hs.2 b (Nat.ne_of_lt (Nat.lt_of_lt_of_le (Heap.lt_size e) I.ok.above))).trans e1⟩
    · by_cases hj : j = i
      · subst hj
        rw [hi] at e1; cases e1
        rw [List.getElem?_set_self hiσ] at e2
        cases e2
        exact ⟨u, r, .inl ⟨hk, by simp⟩⟩
      · rw [List.getElem?_set_ne (Ne.symm hj)] at e2
        obtain ⟨u', r', q⟩ := hl j y v' e1 e2 e3
        refine ⟨u', r', ?_⟩
        rcases q with ⟨k, e⟩ | ⟨k, c, e, z⟩
        · refine .inl ⟨k, ?_⟩
          have : y ≠ x := fun e => hj (nodup_ix hN e1 (e ▸ hi))
          simp [this, e]
        · exact .inr ⟨k, c, e, z.sameBut hs (cne y c e)⟩
    · obtain ⟨w', z⟩ := I.cell y c e
      exact ⟨w', z.sameBut hs (cne y c e)⟩
    · obtain ⟨e, n, ne, nf, d⟩ := I.pin p hp
      exact ⟨(hs.2 p.1 ne).trans e, n, ne, nf, d⟩
  · have hfn : X.fn x = true := by
      rcases hf with z | z
      · exact z
      · rw [z] at hk; cases hk
    obtain ⟨c, hc⟩ := I.ok.has x (.inl hk)
    obtain ⟨w', z⟩ := I.cell x c hc
    refine wpAny_storeName_cell I.ok.kind hk hc z (fun h' hc' hs => ?_)
    obtain ⟨oc, hoc, hocd⟩ := id z
    refine h { s with heap := h' } ⟨I.ok, I.os, I.bare, ⟨fun b o e n hb hx => ?_, fun b o e n hb hx => ?_, I.base.free, fun b o e hx => ?_, I.base.tups, I.base.frzs, I.base.tbls⟩, ⟨m, hn.sameBut hs (Ne.symm (cne x c hc)), fun j y v' e1 e2 e3 => ?_⟩, fun y c' e => ?_, I.free, I.freeC, fun p hp => ?_, tracked ⟨oc, hoc, I.freeC x c hc⟩ hs, by simpa using I.len⟩ ⟨c, hs, .inr hc⟩
    · exact (hs.2 b (Nat.ne_of_lt (Nat.lt_of_lt_of_le (Heap.lt_size e) (I.ok.cab x c hfn hc)))).trans (I.base.keep b o e n hb hx)
    · obtain ⟨sl, e1⟩ := I.base.slot b o e n hb hx
      exact ⟨sl, (hs.2 b (Nat.ne_of_lt (Nat.lt_of_lt_of_le (Heap.lt_size e) (I.ok.cab x c hfn hc)))).trans e1⟩
    · obtain ⟨o', e1⟩ := I.base.there b o e hx
      exact ⟨o', (hs.2 b (Nat.ne_of_lt (Nat.lt_of_lt_of_le (Heap.lt_size e) (I.ok.cab x c hfn hc)))).trans e1⟩
    · by_cases hj : j = i
      · subst hj
        rw [hi] at e1; cases e1
        rw [List.getElem?_set_self hiσ] at e2
        cases e2
        exact ⟨u, r, .inr ⟨.inl hk, c, hc, hc'⟩⟩
      · rw [List.getElem?_set_ne (Ne.symm hj)] at e2
        obtain ⟨u', r', q⟩ := hl j y v' e1 e2 e3
        refine ⟨u', r', ?_⟩
        rcases q with q | ⟨k, c', e, z'⟩
        · exact .inl q
        · refine .inr ⟨k, c', e, z'.sameBut hs ?_⟩
          rintro rfl
          exact hj (nodup_ix hN e1 (I.ok.inj _ _ _ e hc ▸ hi))
    · by_cases hcc : c' = c
      · subst hcc; exact ⟨_, hc'⟩
      · obtain ⟨w2, z2⟩ := I.cell y c' e
        exact ⟨w2, z2.sameBut hs hcc⟩
    · obtain ⟨e, n, ne, nf, d⟩ := I.pin p hp
      refine ⟨(hs.2 p.1 ?_).trans e, n, ne, nf, d⟩
      intro q
      rw [q, hoc] at e
      have q' : oc = p.2 := Option.some.inj e
      exact d w' (by rw [← q']; exact hocd)
theorem store_ok {M : Model} {A : Around} {E : Value → Shared → Prop} {i : Nat} {x : Str} {v : V} {u : Value} {Q : Unit → Shared → Prop} (I : Inv X pins σ H s) (hN : X.N.Nodup) (hi : X.N[i]? = some x) (hx : Loc X.env.scope x) (r : RelV v u)
    (h : ∀ s', Inv X pins (σ.set i (some v)) H s' → Q () s') (hf : X.fn x = true ∨ X.env.scope.names.lookup x = some .local := by first | exact .inl rfl | exact .inr rfl | assumption) : wpAny M A (storeName X.env x u) Q E s :=
  store_ok2 I hN hi hx r (fun s' I' _ => h s' I') hf
theorem Inv.call' {s' : Shared} {ch : List Addr} (I : Inv X pins σ H s) (ho : s'.os = s.os) (u : Un (frs X.stack) ch H H' s.heap s'.heap) (hok : HOk X.prog X.w H' s'.heap) (hg : AllBare s'.gens)
    (hch : ∀ b ∈ ch, (b ∈ X.ex ∨ X.s₀.heap.objs.size ≤ b) ∧ b ≠ X.env.locals ∧ (∀ x c, X.env.cells.lookup x = some c → c ≠ b) ∧ ∀ p ∈ X.pn ++ pins, p.1 ≠ b) : Inv X pins σ H' s' := by
  obtain ⟨h', g', d', t', o'⟩ := s'
  have e : o' = s.os := ho
  subst e
  exact I.call (g' := g') (t' := t') (d' := d') u hok hg hch
end
abbrev XK := Value → Option Addr → Hp → Prop
abbrev St := List (Option V)
abbrev VK := V → Hp → Prop
abbrev TE := St → Hp → VK → Prop
abbrev TT := St → Hp → (Bool → Hp → Prop) → Prop
abbrev TA := St → Hp → (List V → Hp → Prop) → Prop
structure Ends where
  nx : St → Hp → Prop
  rt : VK
  bk : St → Hp → Prop := fun _ _ => False
  ct : St → Hp → Prop := fun _ _ => False
abbrev TS := Ends → St → Hp → Prop
def EP (X : Cx) (pins : List (Addr × Obj)) (σ : St) (Q : VK) (u : Value) (s' : Shared) : Prop := ∃ v H', Inv X pins σ H' s' ∧ RelV v u ∧ Q v H'
def TP (X : Cx) (pins : List (Addr × Obj)) (σ : St) (Q : Bool → Hp → Prop) (b : Bool) (s' : Shared) : Prop := ∃ H', Inv X pins σ H' s' ∧ Q b H'
def AP (X : Cx) (pins : List (Addr × Obj)) (σ : St) (Q : List V → Hp → Prop) (us : List Value) (s' : Shared) : Prop := ∃ vs H', Inv X pins σ H' s' ∧ Vals vs us ∧ Q vs H'
def SP (X : Cx) (pins : List (Addr × Obj)) (D : Ends) (f : Flow) (s' : Shared) : Prop :=
  match f with
  | .next => ∃ σ' H', Inv X pins σ' H' s' ∧ D.nx σ' H'
  | .brk => ∃ σ' H', Inv X pins σ' H' s' ∧ D.bk σ' H'
  | .cont => ∃ σ' H', Inv X pins σ' H' s' ∧ D.ct σ' H'
  | .ret u => ∃ v σ' H', Inv X pins σ' H' s' ∧ RelV v u ∧ D.rt v H'
def PE (X : Cx) (e : Expr) (t : TE) : Prop :=
  ∀ (pins : List (Addr × Obj)) (s : Shared) (σ : St) (H : Hp) (Q : VK), Inv X pins σ H s → t σ H Q → wpAny (model X.prog X.w) X.A (eval e X.env) (EP X pins σ Q) X.xe s
def PT (X : Cx) (e : Expr) (t : TT) : Prop :=
  ∀ (pins : List (Addr × Obj)) (s : Shared) (σ : St) (H : Hp) (Q : Bool → Hp → Prop), Inv X pins σ H s → t σ H Q → wpAny (model X.prog X.w) X.A (isTrue e X.env (eval e X.env)) (TP X pins σ Q) X.xe s
def PW (X : Cx) (e : Expr) (t : TT) : Prop :=
  ∀ (whole : Sem Value) (pins : List (Addr × Obj)) (s : Shared) (σ : St) (H : Hp) (Q : Bool → Hp → Prop), Inv X pins σ H s → t σ H Q → wpAny (model X.prog X.w) X.A (isTrue e X.env whole) (TP X pins σ Q) X.xe s
theorem PW.pt {X : Cx} {e : Expr} {t : TT} (h : PW X e t) : PT X e t := h _
def PA (X : Cx) (es : List Expr) (t : TA) : Prop :=
  ∀ (pos : Pos) (pins : List (Addr × Obj)) (s : Shared) (σ : St) (H : Hp) (Q : List V → Hp → Prop), Inv X pins σ H s → t σ H Q → wpAny (model X.prog X.w) X.A (spliced (backTo pos (starEach es X.env))) (AP X pins σ Q) X.xe s
def PS (X : Cx) (st : Stmt) (t : TS) : Prop :=
  ∀ (pins : List (Addr × Obj)) (s : Shared) (σ : St) (H : Hp) (D : Ends), Inv X pins σ H s → t D σ H → wpAny (model X.prog X.w) X.A (exec st X.env) (SP X pins D) X.xe s
def PSs (X : Cx) (st : List Stmt) (t : TS) : Prop :=
  ∀ (pins : List (Addr × Obj)) (s : Shared) (σ : St) (H : Hp) (D : Ends), Inv X pins σ H s → t D σ H → wpAny (model X.prog X.w) X.A (execs st X.env) (SP X pins D) X.xe s
theorem thn {α : Type} {t : Sem α} {Q Q' : α → Shared → Prop} {M : Model} {A : Around} {E : Value → Shared → Prop} {s : Shared} (h : wpAny M A t Q E s) (hQ : ∀ a s, Q a s → Q' a s) : wpAny M A t Q' E s := wpAny_mono h hQ fun _ _ x => x
end L2
namespace L2
open PySem PySem.Spec PyProof.Rows
section
variable {X : Cx}
def tVar (i : Nat) : TE := fun σ H Q => ∃ v, σ[i]? = some (some v) ∧ Q v H
def tC (v : V) : TE := fun _ H Q => Q v H
theorem pe_var {i : Nat} {x : Str} {pos : Pos} (hN : X.N[i]? = some x) (hv : Vis X.env.scope x) (hd : (x == ("__debug__" : Str)) = false := by decide) (hcd : (x == ("__classdict__" : Str)) = false := by decide) : PE X (.Name x pos) (tVar i) := by
  intro pins s σ H Q I h
  obtain ⟨v, e, h⟩ := h
  obtain ⟨m, hn, hl⟩ := I.loc
  obtain ⟨u, r, l⟩ := hl i x v hN e hv
  have fin : EP X pins σ Q u s := ⟨v, H, I, r, h⟩
  rcases l with ⟨hk, hm⟩ | ⟨hk, c, hc, hcell⟩
  · exact wpAny_Name (wpAny_loadName_local I.ok.kind hk hn hm fin) hd
  · rcases hk with hk | hk
    · exact wpAny_Name (wpAny_loadName_cell I.ok.kind hk hc hcell fin) hd
    · exact wpAny_Name (wpAny_loadName_free I.ok.kind hk hc hcell fin hcd) hd
theorem pe_int {i j pos} : PE X (.Constant (.int i) j pos) (tC (.int i)) := fun _ _ _ H _ I h => wpAny_Constant_int ⟨.int i, H, I.tok _, ⟨_, rfl⟩, h⟩
theorem pe_bl {b j pos} : PE X (.Constant (.bool b) j pos) (tC (.bl b)) := fun _ _ _ H _ I h => Constant_bool ⟨.bl b, H, I, rfl, h⟩
theorem pe_non {j pos} : PE X (.Constant .none j pos) (tC .non) := fun _ _ _ H _ I h => Constant_none ⟨.non, H, I, rfl, h⟩
theorem pe_str {x j pos} : PE X (.Constant (.str x) j pos) (tC (.str x)) := fun _ _ _ H _ I h => Calls.Constant_str ⟨.str x, H, I.tok _, ⟨_, rfl⟩, h⟩
def Gl (X : Cx) (x : Str) : Prop := X.env.kindOf x = some .globalImplicit
theorem ld_glob {E : Value → Shared → Prop} {pins : List (Addr × Obj)} {s : Shared} {σ : St} {H : Hp} {x : Str} {u : Value} {pos : Pos} {Q : Value → Shared → Prop} (I : Inv X pins σ H s) (hg : Gl X x) (hm : X.mg x = some u) (h : Q u s)
    (hd : (x == ("__debug__" : Str)) = false := by decide) : wpAny (model X.prog X.w) X.A (eval (.Name x pos) X.env) Q E s :=
  Calls.Name_function_global I.ok.kind hg (Calls.loadGlobal_global (by rw [I.ok.glob]; exact I.mod.glob.keeps I.bk) hm h) hd
theorem ld_blt {E : Value → Shared → Prop} {pins : List (Addr × Obj)} {s : Shared} {σ : St} {H : Hp} {x : Str} {u : Value} {pos : Pos} {Q : Value → Shared → Prop} (I : Inv X pins σ H s) (hg : Gl X x) (hm : X.mg x = none) (hv : bootBuiltins x = some u) (h : Q u s)
    (hn : x ≠ "__name__" := by decide) (hd : (x == ("__debug__" : Str)) = false := by decide) : wpAny (model X.prog X.w) X.A (eval (.Name x pos) X.env) Q E s := by
  obtain ⟨mb, h1, h2⟩ := I.mod.blt
  exact Calls.Name_function_global I.ok.kind hg (Calls.loadGlobal_builtin (by rw [I.ok.glob]; exact I.mod.glob.keeps I.bk) hm (by rw [I.ok.blt]; exact h1.keeps I.bk) ((h2 x hn).trans hv) h) hd
theorem pe_glob {x : Str} {v : V} {u : Value} {pos : Pos} (hg : Gl X x) (hm : X.mg x = some u) (r : RelV v u) (hd : (x == ("__debug__" : Str)) = false := by decide) : PE X (.Name x pos) (tC v) :=
  fun _ _ _ H _ I h => ld_glob I hg hm ⟨v, H, I, r, h⟩ hd
theorem pe_bltn {x : Str} {v : V} {u : Value} {pos : Pos} (hg : Gl X x) (hm : X.mg x = none) (hv : bootBuiltins x = some u) (r : RelV v u) (hn : x ≠ "__name__" := by decide) (hd : (x == ("__debug__" : Str)) = false := by decide) : PE X (.Name x pos) (tC v) :=
  fun _ _ _ H _ I h => ld_blt I hg hm hv ⟨v, H, I, r, h⟩ hn hd
variable {a b : Expr} {ta tb : TE} {pos : Pos}
def tB (t : TE) : TT := fun σ H Q => t σ H fun x H1 => ∃ c, x = .bl c ∧ Q c H1
theorem pt_val {e : Expr} {t : TE} (h : PE X e t) (he : ∀ whole, isTrue e X.env whole = (do let v ← whole; standAt e.pos; holding [v] (truthy v)) := by intro _; rfl) : PT X e (tB t) := by
  intro pins s σ H Q I hw
  refine isTrue_plain (thn (h pins s σ H _ I hw) fun v s1 ⟨x, H1, I1, r1, q1⟩ => ?_) (he _)
  obtain ⟨d, rfl, q⟩ := q1
  cases r1
  exact wpAny_truthy_bool ⟨H1, I1, q⟩
variable {tA tB' : TT} {rest : List Expr}
def tOr (t u : TT) : TT := fun σ H Q => t σ H fun c H1 => if c = true then Q true H1 else u σ H1 Q
def tNot (t : TT) : TT := fun σ H Q => t σ H fun c H1 => Q (!c) H1
theorem pw_and1 (ha : PT X a tA) : PW X (.BoolOp .And [a] pos) tA := by
  intro wh pins s σ H Q I h
  refine isTrue_and (thn (ha pins s σ H Q I h) fun c s1 e => ?_)
  cases c with
  | true => exact isTrue_and_nil e
  | false => exact e
theorem pw_or1 (ha : PT X a tA) : PW X (.BoolOp .Or [a] pos) tA := by
  intro wh pins s σ H Q I h
  refine isTrue_or (thn (ha pins s σ H Q I h) fun c s1 e => ?_)
  cases c with
  | false => exact isTrue_or_nil e
  | true => exact e
theorem pw_or (ha : PT X a tA) (hb : PW X (.BoolOp .Or (b :: rest) pos) tB') : PW X (.BoolOp .Or (a :: b :: rest) pos) (tOr tA tB') := by
  intro wh pins s σ H Q I h
  refine isTrue_or (thn (ha pins s σ H _ I h) fun c s1 ⟨H1, I1, q1⟩ => ?_)
  cases c with
  | true => exact ⟨H1, I1, q1⟩
  | false => exact hb wh pins s1 σ H1 Q I1 q1
theorem pt_not (ha : PT X a tA) : PT X (.UnaryOp .Not a pos) (tNot tA) := by
  intro pins s σ H Q I h
  exact isTrue_not (ha pins s σ H (fun c H1 => Q (!c) H1) I h)
def tAndV (ta tb : TE) : TE := fun σ H Q => ta σ H fun x H1 => ∃ c, x = .bl c ∧ if c = true then tb σ H1 Q else Q (.bl false) H1
def tOrV (ta tb : TE) : TE := fun σ H Q => ta σ H fun x H1 => ∃ c, x = .bl c ∧ if c = true then Q (.bl true) H1 else tb σ H1 Q
def tNotV (ta : TE) : TE := fun σ H Q => ta σ H fun x H1 => ∃ c, x = .bl c ∧ Q (.bl (!c)) H1
theorem pe_one {op} {t : TE} (h : PE X a t) : PE X (.BoolOp op [a] pos) t := fun pins s σ H Q I hw => BoolOp_one (h pins s σ H Q I hw)
theorem pe_and (ha : PE X a ta) (hb : PE X (.BoolOp .And (b :: rest) pos) tb) : PE X (.BoolOp .And (a :: b :: rest) pos) (tAndV ta tb) := by
  intro pins s σ H Q I h
  refine BoolOp_and (thn (ha pins s σ H _ I h) fun v s1 ⟨x, H1, I1, r1, q1⟩ => ?_)
  obtain ⟨c, rfl, q1⟩ := q1
  cases r1
  refine wpAny_truthy_bool ?_
  cases c with
  | true => exact hb pins s1 σ H1 Q I1 q1
  | false => exact ⟨.bl false, H1, I1, rfl, q1⟩
theorem pe_or (ha : PE X a ta) (hb : PE X (.BoolOp .Or (b :: rest) pos) tb) : PE X (.BoolOp .Or (a :: b :: rest) pos) (tOrV ta tb) := by
  intro pins s σ H Q I h
  refine BoolOp_or (thn (ha pins s σ H _ I h) fun v s1 ⟨x, H1, I1, r1, q1⟩ => ?_)
  obtain ⟨c, rfl, q1⟩ := q1
  cases r1
  refine wpAny_truthy_bool ?_
  cases c with
  | false => exact hb pins s1 σ H1 Q I1 q1
  | true => exact ⟨.bl true, H1, I1, rfl, q1⟩
theorem pe_not (ha : PE X a ta) : PE X (.UnaryOp .Not a pos) (tNotV ta) := by
  intro pins s σ H Q I h
  refine UnaryOp_ (thn (ha pins s σ H _ I h) fun v s1 ⟨x, H1, I1, r1, q1⟩ => ?_)
  obtain ⟨c, rfl, q1⟩ := q1
  cases r1
  exact not_of (wpAny_truthy_bool ⟨.bl (!c), H1, I1, rfl, q1⟩)
def tIf (t : TT) (ta tb : TE) : TE := fun σ H Q => t σ H fun c H1 => if c = true then ta σ H1 Q else tb σ H1 Q
theorem pe_ifExp {c : Expr} (hc : PT X c tA) (ha : PE X a ta) (hb : PE X b tb) : PE X (.IfExp c a b pos) (tIf tA ta tb) := by
  intro pins s σ H Q I h
  refine wpAny_IfExp (thn (hc pins s σ H _ I h) fun d s1 ⟨H1, I1, q1⟩ => ?_)
  cases d with
  | true => exact ha pins s1 σ H1 Q I1 q1
  | false => exact hb pins s1 σ H1 Q I1 q1
end
end L2
namespace L2
open PySem PySem.Spec PyProof.Rows
def SqL (K : PySem.W.Frag) (H : Hp) (a : Addr) (xs : List V) : Prop :=
  Rd H a (.lst xs) ∨
    ∃ (o : Obj) (its : Array Value) (n : Nat), K.lookup a = some o ∧ o.cls = .type "list" ∧ o.dict = none ∧ o.data = .seq its n ∧ its.size ≤ sizeLine ∧ Vals xs its.toList
def SqT (K : PySem.W.Frag) (H : Hp) (a : Addr) (xs : List V) : Prop :=
  Rd H a (.tup xs) ∨
    ∃ (o : Obj) (its : Array Value) (n : Nat), K.lookup a = some o ∧ o.cls = .type "tuple" ∧ o.data = .seq its n ∧ its.size ≤ sizeLine ∧ Vals xs its.toList
def absV : Value → Option V
  | .none => some .non
  | .bool b => some (.bl b)
  | .int i _ => some (.int i)
  | .str x _ => some (.str x)
  | .bytes b _ => some (.byt b)
  | .float b _ => some (.flt b)
  | .ref a => some (.ref a)
  | .type n => some (.ty n)
  | _ => none
theorem RelV.abs {x : V} {u : Value} (r : RelV x u) : absV u = some x := by
  cases x with
  | non => cases r; rfl
  | bl _ => cases r; rfl
  | int _ => obtain ⟨t, rfl⟩ := r; rfl
  | str _ => obtain ⟨t, rfl⟩ := r; rfl
  | byt _ => obtain ⟨t, rfl⟩ := r; rfl
  | flt _ => obtain ⟨t, rfl⟩ := r; rfl
  | ref _ => cases r; rfl
  | ty _ => cases r; rfl
theorem RelV.inj {x y : V} {u : Value} (r : RelV x u) (q : RelV y u) : x = y := Option.some.inj (r.abs.symm.trans q.abs)
theorem Vals.inj : ∀ {xs ys : List V} {us : List Value}, Vals xs us → Vals ys us → xs = ys
  | _, _, _, .nil, .nil => rfl
  | _, _, _, .cons r t, .cons r' t' => by rw [r.inj r', Vals.inj t t']
section
variable {X : Cx} {pins : List (Addr × Obj)} {σ : St} {H : Hp} {s : Shared} {a : Addr} {xs ys : List V}
theorem SqL.of {K : PySem.W.Frag} (h : H a = some (.lst xs)) : SqL K H a xs := .inl (.inl h)
theorem SqT.of {K : PySem.W.Frag} (h : H a = some (.tup xs)) : SqT K H a xs := .inl (.inl h)
theorem Inv.list (I : Inv X pins σ H s) (h : SqL X.K H a xs) : ∃ its : List Value, Vals xs its ∧ PlainL s.heap a its.toArray ∧ xs.length ≤ sizeLine := by
  rcases h with h | ⟨o, its, n, hk, hc, hd, hs, hz, r⟩
  · obtain ⟨z, its, n, r, e⟩ := h.ok I.hok
    exact ⟨its, r, ⟨_, n, e, rfl, rfl, rfl⟩, z⟩
  · refine ⟨its.toList, r, ⟨o, n, I.kIn a o hk, hc, hd, by simpa using hs⟩, ?_⟩
    have e := r.length
    simp only [Array.length_toList] at e
    omega
theorem Inv.tuple (I : Inv X pins σ H s) (h : SqT X.K H a xs) : ∃ its : List Value, Vals xs its ∧ IsTup s.heap a its.toArray ∧ xs.length ≤ sizeLine := by
  rcases h with h | ⟨o, its, n, hk, hc, hs, hz, r⟩
  · obtain ⟨z, its, r, p⟩ := h.ok I.hok
    exact ⟨its, r, p.tup, z⟩
  · refine ⟨its.toList, r, ⟨o, I.kIn a o hk, hc, n, by simpa using hs⟩, ?_⟩
    have e := r.length
    simp only [Array.length_toList] at e
    omega
theorem Inv.list_inj (I : Inv X pins σ H s) (h : SqL X.K H a xs) (h' : SqL X.K H a ys) : xs = ys := by
  obtain ⟨its, r, ⟨o, n, e, _, _, d⟩, _⟩ := I.list h
  obtain ⟨its', r', ⟨o', n', e', _, _, d'⟩, _⟩ := I.list h'
  rw [e] at e'; cases e'
  rw [d] at d'
  injection d' with d1 _
  have : its = its' := by simpa using congrArg Array.toList d1
  subst this
  exact r.inj r'
theorem Inv.tuple_inj (I : Inv X pins σ H s) (h : SqT X.K H a xs) (h' : SqT X.K H a ys) : xs = ys := by
  obtain ⟨its, r, ⟨o, e, _, n, d⟩, _⟩ := I.tuple h
  obtain ⟨its', r', ⟨o', e', _, n', d'⟩, _⟩ := I.tuple h'
  rw [e] at e'; cases e'
  rw [d] at d'
  injection d' with d1 _
  have : its = its' := by simpa using congrArg Array.toList d1
  subst this
  exact r.inj r'
end
abbrev Cx.wish (X : Cx) (E : Value → Shared → Prop) : Cx := { X with xe := E }
theorem Cx.Ok.wish {X : Cx} (ok : X.Ok) (E : Value → Shared → Prop) : (X.wish E).Ok :=
  ⟨ok.mod, ok.kind, ok.glob, ok.blt, ok.above, ok.inj, ok.has, ok.cab, ok.hd, ok.frames, ok.stk, ok.exf, ok.bs, ok.bsz, ok.noex, ok.exfs, ok.funs, ok.frf⟩
theorem Cx.Ok.unwish {X : Cx} {E : Value → Shared → Prop} (ok : (X.wish E).Ok) : X.Ok :=
  ⟨ok.mod, ok.kind, ok.glob, ok.blt, ok.above, ok.inj, ok.has, ok.cab, ok.hd, ok.frames, ok.stk, ok.exf, ok.bs, ok.bsz, ok.noex, ok.exfs, ok.funs, ok.frf⟩
section
variable {X : Cx} {pins : List (Addr × Obj)} {σ : St} {H : Hp} {s : Shared} {E : Value → Shared → Prop}
theorem Inv.wish (I : Inv X pins σ H s) (E : Value → Shared → Prop) : Inv (X.wish E) pins σ H s := ⟨I.ok.wish E, I.os, I.bare, I.base, I.loc, I.cell, I.free, I.freeC, I.pin, I.hok, I.len⟩
theorem Inv.unwish (I : Inv (X.wish E) pins σ H s) : Inv X pins σ H s := ⟨I.ok.unwish, I.os, I.bare, I.base, I.loc, I.cell, I.free, I.freeC, I.pin, I.hok, I.len⟩
end
section
variable {X : Cx} {st : Stmt} {rest : List Stmt} {t u : TS} {e : Expr} {te : TE} {pos : Pos}
def tNext : TS := fun D σ H => D.nx σ H
def tSeq (t u : TS) : TS := fun D σ H => t { D with nx := u D } σ H
theorem pss_nil : PSs X [] tNext := fun _ _ σ H _ I h => wpAny_execs_nil ⟨σ, H, I, h⟩
theorem pss_cons (h1 : PS X st t) (h2 : PSs X rest u) : PSs X (st :: rest) (tSeq t u) := by
  intro pins s σ H D I h
  refine wpAny_execs_cons (thn (h1 pins s σ H { D with nx := u D } I h) fun f s1 q => ?_)
  cases f with
  | next =>
    obtain ⟨σ', H', I', q⟩ := q
    exact h2 pins s1 σ' H' D I' q
  | ret v => exact q
  | brk => exact q
  | cont => exact q
theorem pss_one (h1 : PS X st t) : PSs X [st] t := by
  intro pins s σ H D I h
  refine wpAny_execs_cons (thn (h1 pins s σ H D I h) fun f s1 q => ?_)
  cases f with
  | next => exact wpAny_execs_nil q
  | ret v => exact q
  | brk => exact q
  | cont => exact q
theorem Inv.quiet {pins : List (Addr × Obj)} {σ : St} {H : Hp} {s : Shared} (I : Inv X pins σ H s) : interactive X.env = false := by simp [interactive, I.ok.kind]
def tDrop (te : TE) : TS := fun D σ H => te σ H fun _ H1 => D.nx σ H1
theorem ps_expr (he : PE X e te) (hs : swapsWith e none pos.line X.env = pure false := by rfl) : PS X (.Expr e pos) (tDrop te) := by
  intro pins s σ H D I h
  exact wpAny_Expr_any (thn (he pins s σ H _ I h) fun v s1 ⟨x, H1, I1, r1, q1⟩ => ⟨σ, H1, I1, q1⟩) I.quiet hs
def tRet (te : TE) : TS := fun D σ H => te σ H D.rt
theorem ps_ret (he : PE X e te) : PS X (.Return (some e) pos) (tRet te) := by
  intro pins s σ H D I h
  exact wpAny_Return_some (thn (he pins s σ H _ I h) fun v s1 ⟨x, H1, I1, r1, q1⟩ => ⟨x, σ, H1, I1, r1, q1⟩)
def tIfS (c : TT) (t u : TS) : TS := fun D σ H => c σ H fun b H1 => if b = true then t D σ H1 else u D σ H1
theorem ps_if {c : Expr} {a b : List Stmt} {tc : TT} (hc : PT X c tc) (ha : PSs X a t) (hb : PSs X b u) : PS X (.If c a b pos) (tIfS tc t u) := by
  intro pins s σ H D I h
  refine wpAny_If (thn (hc pins s σ H _ I h) fun d s1 ⟨H1, I1, q1⟩ => ?_)
  cases d with
  | true => exact ha pins s1 σ H1 D I1 q1
  | false => exact hb pins s1 σ H1 D I1 q1
end
abbrev TG := V → St → Hp → (St → Hp → Prop) → Prop
abbrev TGs := List V → St → Hp → (St → Hp → Prop) → Prop
def PG (X : Cx) (target : Expr) (t : TG) : Prop :=
  ∀ (pins : List (Addr × Obj)) (s : Shared) (σ : St) (H : Hp) (v : V) (u : Value) (Q : St → Hp → Prop), Inv X pins σ H s → RelV v u → t v σ H Q →
    wpAny (model X.prog X.w) X.A (assign target X.env u) (fun _ s' => ∃ σ' H', Inv X pins σ' H' s' ∧ Q σ' H') X.xe s
def PGs (X : Cx) (ts : List Expr) (t : TGs) : Prop :=
  ∀ (pins : List (Addr × Obj)) (s : Shared) (σ : St) (H : Hp) (vs : List V) (us : List Value) (Q : St → Hp → Prop), Inv X pins σ H s → Vals vs us → t vs σ H Q →
    wpAny (model X.prog X.w) X.A (assignInOrder ((assignEach ts X.env).map (·.2)) us) (fun _ s' => ∃ σ' H', Inv X pins σ' H' s' ∧ Q σ' H') X.xe s
abbrev TSet := V → V → V → Hp → (Hp → Prop) → Prop
def PSet (X : Cx) (t : TSet) : Prop :=
  ∀ (pins : List (Addr × Obj)) (s : Shared) (σ : St) (H : Hp) (o i v : V) (ov iv u : Value) (Q : Hp → Prop), Inv X pins σ H s → RelV o ov → RelV i iv → RelV v u → t o i v H Q →
    wpAny (model X.prog X.w) X.A (setItem ov iv u) (fun _ s' => ∃ H', Inv X pins σ H' s' ∧ Q H') X.xe s
section
variable {X : Cx} {pos : Pos}
def gName (i : Nat) : TG := fun v σ H Q => Q (σ.set i (some v)) H
theorem pg_name {i : Nat} {x : Str} (hN : X.N.Nodup) (hi : X.N[i]? = some x) (hx : Loc X.env.scope x) (hf : X.fn x = true ∨ X.env.scope.names.lookup x = some .local := by first | exact .inl rfl | exact .inr rfl | assumption) : PG X (.Name x pos) (gName i) := by
  intro pins s σ H v u Q I r h
  exact wpAny_assign_Name (store_ok I hN hi hx r (fun s' I' => ⟨_, H, I', h⟩) hf)
def gNil : TGs := fun vs σ H Q => vs = [] ∧ Q σ H
def gCons (t : TG) (u : TGs) : TGs := fun vs σ H Q => ∃ v r, vs = v :: r ∧ t v σ H fun σ' H' => u r σ' H' Q
theorem pgs_nil : PGs X [] gNil := by
  intro pins s σ H vs us Q I r h
  obtain ⟨e, h⟩ := h
  subst e
  cases r
  exact assignInOrder_nil ⟨σ, H, I, h⟩
theorem pgs_cons {e : Expr} {es : List Expr} {t : TG} {u : TGs} (h1 : PG X e t) (h2 : PGs X es u)
    (hs : (assignEach (e :: es) X.env).map (·.2) = assign e X.env :: (assignEach es X.env).map (·.2) := by rfl) : PGs X (e :: es) (gCons t u) := by
  intro pins s σ H vs us Q I r h
  obtain ⟨v, vr, e1, h⟩ := h
  subst e1
  cases r with
  | cons r rr =>
    rw [hs]
    refine assignInOrder_cons (thn (h1 pins s σ H _ _ _ I r h) fun _ s1 ⟨σ1, H1, I1, q1⟩ => ?_)
    exact h2 pins s1 σ1 H1 _ _ Q I1 rr q1
def gTup (K : PySem.W.Frag) (n : Nat) (t : TGs) : TG := fun v σ H Q => ∃ a xs, v = .ref a ∧ SqT K H a xs ∧ xs.length = n ∧ t xs σ H Q
theorem pg_tup {es : List Expr} {k : Nat} {t : TGs} {n : Nat} (hc : X.calm = true) (h : PGs X es t)
    (hn : (assignEach es X.env).length = n := by rfl) (hst : (assignEach es X.env).findIdx? (·.1) = none := by rfl) : PG X (.Tuple es k pos) (gTup X.K n t) := by
  intro pins s σ H v u Q I r hw
  obtain ⟨a, xs, e1, hq, hl, hw⟩ := hw
  subst e1
  cases r
  obtain ⟨its, rv, ht, hz⟩ := I.tuple hq
  refine assign_Tuple_tuple (I.ok.hd hc) ht (by simp [hn, ← hl, rv.length]) hst fun h' hx => ?_
  have I1 : Inv X pins σ H { s with heap := h' } := I.kept (t' := s.toks) fun b o e => hx b o (Nat.ne_of_lt (Heap.lt_size e)) e
  exact h pins _ σ H xs _ Q I1 (by simpa using rv) hw
def gSub (to ti : TE) (t : TSet) : TG := fun v σ H Q => to σ H fun o H1 => ti σ H1 fun i H2 => t o i v H2 fun H3 => Q σ H3
theorem pg_sub {o i : Expr} {to ti : TE} {t : TSet} (ho : PE X o to) (hi : PE X i ti) (hs : PSet X t)
    (ha : ∀ v, assign (.Subscript o i pos) X.env v = (do
      let ov ← holding [v] (eval o X.env)
      let iv ← holding [v, ov] (eval i X.env)
      standAt pos
      holding [v, ov, iv] (setItem ov iv v)
      release [v, ov, iv] []) := by intro _; rfl) : PG X (.Subscript o i pos) (gSub to ti t) := by
  intro pins s σ H v u Q I r h
  rw [ha]
  refine wpAny_bind (wpAny_holding (thn (ho pins s σ H _ I h) fun ov s1 ⟨x, H1, I1, r1, q1⟩ => ?_))
  refine wpAny_bind (wpAny_holding (thn (hi pins s1 σ H1 _ I1 q1) fun iv s2 ⟨y, H2, I2, r2, q2⟩ => ?_))
  refine wpAny_bind (wpAny_standAt (wpAny_bind (wpAny_holding (thn (hs pins s2 σ H2 x y v ov iv u _ I2 r1 r2 r q2) fun _ s3 ⟨H3, I3, q3⟩ => ?_))))
  exact wpAny_release ⟨σ, H3, I3, q3⟩
def tAsg (te : TE) (g : TG) : TS := fun D σ H => te σ H fun x H1 => g x σ H1 D.nx
theorem ps_asg {tg e : Expr} {te : TE} {g : TG} (he : PE X e te) (hg : PG X tg g) (hs : swapsWithSole [tg] e pos.line X.env = pure false := by rfl) (hw : swappedStores [tg] e X.env = pure none := by rfl)
    (h1 : (assignEach [tg] X.env).map (·.2) = [assign tg X.env] := by rfl) : PS X (.Assign [tg] e pos) (tAsg te g) := by
  intro pins s σ H D I h
  refine wpAny_Assign_stores (thn (he pins s σ H _ I h) fun v s1 ⟨x, H1, I1, r1, q1⟩ => ?_) hs hw
  rw [h1]
  exact thn (hg pins s1 σ H1 x v _ I1 r1 q1) fun _ s2 q => q
theorem ps_set {i : Nat} {x : Str} {e : Expr} {te : TE} {pos' : Pos} (hN : X.N.Nodup) (hi : X.N[i]? = some x) (hx : Loc X.env.scope x) (he : PE X e te) (hs : swapsWith e (some (.Name x pos')) pos.line X.env = pure false := by rfl) (hf : X.fn x = true ∨ X.env.scope.names.lookup x = some .local := by first | exact .inl rfl | exact .inr rfl | assumption) :
    PS X (.Assign [.Name x pos'] e pos) (tAsg te (gName i)) := by
  intro pins s σ H D I h
  refine wpAny_Assign_Name (thn (he pins s σ H _ I h) fun v s1 ⟨y, H1, I1, r1, q1⟩ => ?_) hs
  exact store_ok I1 hN hi hx r1 (fun s2 I2 => ⟨_, H1, I2, q1⟩) hf
end
section
variable {X : Cx} {pos : Pos}
end
structure It where
  go : Nat → Hp → Prop
  yld : Nat → Hp → V → Hp → Prop
  stop : Nat → Hp → Prop
def FpOk (X : Cx) (pins : List (Addr × Obj)) (H : Hp) (b : Addr) : Prop :=
  H b = none ∧ b ≠ X.env.locals ∧ b ∉ X.fs ∧ (b ∈ X.ex ∨ X.s₀.heap.objs.size ≤ b) ∧ (∀ x c, X.env.cells.lookup x = some c → c ≠ b) ∧ ∀ p ∈ X.pn ++ pins, p.1 ≠ b
theorem Inv.fpOk {X : Cx} {pins : List (Addr × Obj)} {σ : St} {H H' : Hp} {s : Shared} {b : Addr} (I : Inv X pins σ H s) (hb : s.heap.objs.size ≤ b) (hn : H' b = none) : FpOk X pins H' b := by
  refine ⟨hn, Nat.ne_of_gt (Nat.lt_of_lt_of_le I.lt hb), I.nofs hb, .inr (Nat.le_trans I.sz hb), fun x c e z => ?_, fun p hp z => ?_⟩
  · obtain ⟨v, q⟩ := I.cell x c e
    exact absurd (Nat.lt_of_lt_of_le q.lt (by rw [z]; exact hb)) (Nat.lt_irrefl _)
  · exact absurd (Nat.lt_of_lt_of_le (Heap.lt_size (I.pin p hp).1) (by rw [z]; exact hb)) (Nat.lt_irrefl _)
structure Turn (P : Program) (w : World) (K : PySem.W.Frag) (tg : Expr) (J : It) (fp : List Addr) (it : Addr) (tn : Nat → Heap → Prop) : Prop where
  mem : it ∈ fp
  obj : ∀ i h, tn i h → ∀ b ∈ fp, ∃ o, h.get? b = some o ∧ ∀ v, o.data ≠ .cell v
  keep : ∀ i h h', tn i h → (∀ b ∈ fp, ∀ o, h.get? b = some o → h'.get? b = some o) → tn i h'
  item : ∀ (X : Cx), X.prog = P → X.w = w → X.K = K → X.calm = true → ∀ (i : Nat) (pins : List (Addr × Obj)) (s : Shared) (σ : St) (H : Hp) (E : Value → Shared → Prop), Inv X pins σ H s → (∀ b ∈ fp, FpOk X pins H b) → tn i s.heap → J.go i H →
    wpAny (model P w) X.A (pyNext (.ref it)) (fun r s1 => ∃ u, r = some u ∧
      wpAny (model P w) X.A (letOwnedTupleGo tg (.ref it) u) (fun _ s2 => ∃ x H', Inv X pins σ H' s2 ∧ RelV x u ∧ J.yld i H x H' ∧ tn (i + 1) s2.heap ∧ ∀ b ∈ fp, H' b = none) E s1) E s
  done : ∀ (X : Cx), X.prog = P → X.w = w → X.K = K → X.calm = true → ∀ (i : Nat) (pins : List (Addr × Obj)) (s : Shared) (σ : St) (H : Hp) (E : Value → Shared → Prop), Inv X pins σ H s → (∀ b ∈ fp, FpOk X pins H b) → tn i s.heap → J.stop i H →
    wpAny (model P w) X.A (pyNext (.ref it)) (fun r s1 => r = none ∧ Inv X pins σ H s1) E s
  self : ∀ (A : Around) (i : Nat) (s : Shared) (Q : Value → Shared → Prop) (E : Value → Shared → Prop), tn i s.heap → Q (.ref it) s → wpAny (model P w) A (pyIter (.ref it)) Q E s
abbrev TI := St → Hp → (It → Hp → Prop) → Prop
def PIE (X : Cx) (pins : List (Addr × Obj)) (σ : St) (tg : Expr) (R : It → Hp → Prop) (itv : Value) (s2 : Shared) : Prop :=
  ∃ (it : Addr) (fp : List Addr) (tn : Nat → Heap → Prop) (J : It) (H' : Hp), itv = .ref it ∧ Inv X pins σ H' s2 ∧ Turn X.prog X.w X.K tg J fp it tn ∧ tn 0 s2.heap ∧ (∀ b ∈ fp, FpOk X pins H' b) ∧ R J H'
def PI (X : Cx) (tg iter : Expr) (wi : TI) : Prop :=
  ∀ (pins : List (Addr × Obj)) (s : Shared) (σ : St) (H : Hp) (R : It → Hp → Prop), Inv X pins σ H s → wi σ H R →
    wpAny (model X.prog X.w) X.A (eval iter X.env) (fun v s1 => wpAny (model X.prog X.w) X.A (pyIter v) (PIE X pins σ tg R) X.xe s1) X.xe s
theorem go_of {M : Model} {A : Around} {E : Value → Shared → Prop} {s : Shared} {tg : Expr} {it : Addr} {u : Value} {o : Obj} {n : String} {vs : Array Value} {Q : Unit → Shared → Prop} (ho : s.heap.get? it = some o) (hc : o.cls = .type n) (hd : o.data = .fields vs)
    (hn : ["enumerate", "zip", "dict_itemiterator", "dict_reverseitemiterator", "odict_iterator", "itertools.zip_longest", "itertools.pairwise"].contains n = false) (hQ : Q () s) : wpAny M A (letOwnedTupleGo tg (.ref it) u) Q E s := by
  unfold letOwnedTupleGo
  cases tg <;> first
    | exact wpAny_pure hQ
    | (cases u <;> first
        | exact wpAny_pure hQ
        | (refine wpAny_bind (wpAny_load ho ?_)
           rw [hc, hd]
           show wpAny M A (if (["enumerate", "zip", "dict_itemiterator", "dict_reverseitemiterator", "odict_iterator", "itertools.zip_longest", "itertools.pairwise"].contains n && vs[0]? == some (rawInt _)) = true then _ else _) Q E s
           rw [if_neg (by intro h; rw [hn, Bool.false_and] at h; cases h)]
           exact wpAny_pure hQ))
def Itl (K : PySem.W.Frag) (a : Addr) : It :=
  ⟨fun i H => ∃ xs x, SqL K H a xs ∧ xs[i]? = some x, fun i H x H' => H' = H ∧ ∀ xs, SqL K H a xs → xs[i]? = some x, fun i H => ∃ xs, SqL K H a xs ∧ xs.length ≤ i⟩
def Itt (K : PySem.W.Frag) (a : Addr) : It :=
  ⟨fun i H => ∃ xs x, SqT K H a xs ∧ xs[i]? = some x, fun i H x H' => H' = H ∧ ∀ xs, SqT K H a xs → xs[i]? = some x, fun i H => ∃ xs, SqT K H a xs ∧ xs.length ≤ i⟩
def Itr (lo : Int) (n : Nat) : It := ⟨fun i _ => i < n, fun i H x H' => H' = H ∧ x = .int (lo + i), fun i _ => n ≤ i⟩
theorem turn_list {P : Program} {w : World} {K : PySem.W.Frag} {tg : Expr} (a it : Addr) : Turn P w K tg (Itl K a) [it] it (fun i h => h.IsListIter it a i) where
  mem := by simp
  obj := fun i h st b hb => by
    have e : b = it := by simpa using hb
    subst e
    obtain ⟨o, e, c, d⟩ := st
    exact ⟨o, e, fun v z => by rw [d] at z; cases z⟩
  keep := fun i h h' st k => st.at fun o e => k it (by simp) o e
  item := by
    intro X hP hw hK hc i pins s σ H E I hf st hg
    subst hP hw hK
    obtain ⟨xs, x, hq, hx⟩ := hg
    obtain ⟨its, rv, p, hz⟩ := I.list hq
    obtain ⟨u, hu, ru⟩ := rv.get hx
    obtain ⟨f0, f1, f2, f3, f4, f5⟩ := hf it (by simp)
    refine wpAny_pyNext_list_item st p.isList (x := u) (by simpa using hu) fun h' st' sb => ?_
    have I1 : Inv X pins σ H { s with heap := h' } := I.turned (t' := s.toks) (fun b o hb e => (sb.2 b hb).trans e) f0 f1 f3 f4 f5
    obtain ⟨o, e, c, d⟩ := id st'
    exact ⟨u, rfl, go_of (s := { s with heap := h' }) e c d (by decide) ⟨x, H, I1, ru, ⟨rfl, fun ys hy => by rw [I.list_inj hy hq]; exact hx⟩, st', fun b hb => (hf b hb).1⟩⟩
  done := by
    intro X hP hw hK hc i pins s σ H E I hf st hg
    subst hP hw hK
    obtain ⟨xs, hq, hx⟩ := hg
    obtain ⟨its, rv, p, hz⟩ := I.list hq
    obtain ⟨f0, f1, f2, f3, f4, f5⟩ := hf it (by simp)
    have hl := rv.length
    exact wpAny_pyNext_list_end (I.ok.hd hc) st p.isList (by simp; omega) fun h' eb => ⟨rfl, I.turned (t' := s.toks) (fun b o hb e => eb b o hb e) f0 f1 f3 f4 f5⟩
  self := fun _ _ _ _ _ st h => wpAny_pyIter_listiter st h
theorem turn_tuple {P : Program} {w : World} {K : PySem.W.Frag} {tg : Expr} (a it : Addr) : Turn P w K tg (Itt K a) [it] it (fun i h => h.IsTupleIter it a i) where
  mem := by simp
  obj := fun i h st b hb => by
    have e : b = it := by simpa using hb
    subst e
    obtain ⟨o, e, c, d⟩ := st
    exact ⟨o, e, fun v z => by rw [d] at z; cases z⟩
  keep := fun i h h' st k => st.at fun o e => k it (by simp) o e
  item := by
    intro X hP hw hK hc i pins s σ H E I hf st hg
    subst hP hw hK
    obtain ⟨xs, x, hq, hx⟩ := hg
    obtain ⟨its, rv, p, hz⟩ := I.tuple hq
    obtain ⟨u, hu, ru⟩ := rv.get hx
    obtain ⟨f0, f1, f2, f3, f4, f5⟩ := hf it (by simp)
    refine wpAny_pyNext_tuple_item st (show s.heap.IsTuple a its.toArray from p) (x := u) (by simpa using hu) fun h' st' sb => ?_
    have I1 : Inv X pins σ H { s with heap := h' } := I.turned (t' := s.toks) (fun b o hb e => (sb.2 b hb).trans e) f0 f1 f3 f4 f5
    obtain ⟨o, e, c, d⟩ := id st'
    exact ⟨u, rfl, go_of (s := { s with heap := h' }) e c d (by decide) ⟨x, H, I1, ru, ⟨rfl, fun ys hy => by rw [I.tuple_inj hy hq]; exact hx⟩, st', fun b hb => (hf b hb).1⟩⟩
  done := by
    intro X hP hw hK hc i pins s σ H E I hf st hg
    subst hP hw hK
    obtain ⟨xs, hq, hx⟩ := hg
    obtain ⟨its, rv, p, hz⟩ := I.tuple hq
    obtain ⟨f0, f1, f2, f3, f4, f5⟩ := hf it (by simp)
    have hl := rv.length
    exact wpAny_pyNext_tuple_end (I.ok.hd hc) st (show s.heap.IsTuple a its.toArray from p) (by simp; omega) fun h' eb => ⟨rfl, I.turned (t' := s.toks) (fun b o hb e => eb b o hb e) f0 f1 f3 f4 f5⟩
  self := fun _ _ _ _ _ st h => wpAny_pyIter_tupleiter st h
theorem turn_range {P : Program} {w : World} {K : PySem.W.Frag} {tg : Expr} (it : Addr) (lo : Int) (n : Nat) : Turn P w K tg (Itr lo n) [it] it (fun i h => IsRangeIter h it (lo + (i : Nat) * 1) ((n : Int) - (i : Nat)) 1) where
  mem := by simp
  obj := fun i h st b hb => by
    have e : b = it := by simpa using hb
    subst e
    exact ⟨_, st, fun v z => by
      have z' : Data.fields _ = Data.cell v := z
      cases z'⟩
  keep := fun i h h' st k => k it (by simp) _ st
  item := by
    intro X hP hw hK hc i pins s σ H E I hf st hg
    subst hP hw hK
    obtain ⟨f0, f1, f2, f3, f4, f5⟩ := hf it (by simp)
    have W := Walks.range (prog := X.prog) (w := X.w) (I.ok.hd hc) it lo 1 n
    refine W.item i s _ _ hg st fun v h' tk hv st' kk => ?_
    obtain ⟨t, rfl⟩ := hv
    have I1 : Inv X pins σ H { s with heap := h', toks := tk } := I.turned (fun b o hb e => kk b o (by simpa using hb) e) f0 f1 f3 f4 f5
    refine ⟨_, rfl, go_of (s := { s with heap := h', toks := tk }) (n := "range_iterator") st' rfl rfl (by decide) ⟨.int (lo + i), H, I1, ⟨t, ?_⟩, ⟨rfl, rfl⟩, st', fun b hb => (hf b hb).1⟩⟩
    rw [Int.mul_one]
  done := by
    intro X hP hw hK hc i pins s σ H E I hf st hg
    subst hP hw hK
    obtain ⟨f0, f1, f2, f3, f4, f5⟩ := hf it (by simp)
    exact wpAny_pyNext_range_end (I.ok.hd hc) st (by have : n ≤ i := hg; omega) fun h' eb => ⟨rfl, I.turned (t' := s.toks) (fun b o hb e => eb b o hb e) f0 f1 f3 f4 f5⟩
  self := fun _ _ _ _ _ st h => wpAny_pyIter_rangeiter st h
end L2
namespace L2
open PySem PySem.Spec PyProof.Rows
section
variable {X : Cx} {tg : Expr}
def iList (K : PySem.W.Frag) (tl : TE) : TI := fun σ H R => tl σ H fun x H1 => ∃ a, x = .ref a ∧ (∃ xs, SqL K H1 a xs) ∧ R (Itl K a) H1
def iTup (K : PySem.W.Frag) (tl : TE) : TI := fun σ H R => tl σ H fun x H1 => ∃ a, x = .ref a ∧ (∃ xs, SqT K H1 a xs) ∧ R (Itt K a) H1
theorem pi_list {l : Expr} {tl : TE} (hl : PE X l tl) : PI X tg l (iList X.K tl) := by
  intro pins s σ H R I h
  refine thn (hl pins s σ H _ I h) fun v s1 ⟨x, H1, I1, r1, q1⟩ => ?_
  obtain ⟨a, e, ⟨xs, hq⟩, q⟩ := q1
  subst e
  cases r1
  obtain ⟨its, rv, p, hz⟩ := I1.list hq
  refine wpAny_pyIter_list p.isList ?_
  refine ⟨s1.heap.objs.size, [s1.heap.objs.size], _, _, H1, rfl, I1.kept (t' := s1.toks) fun b o e => Heap.get?_push_of_some _ e, turn_list a _, ⟨_, Heap.get?_push_size _ rfl, rfl, rfl⟩, fun b hb => ?_, q⟩
  have e : b = s1.heap.objs.size := by simpa using hb
  subst e
  exact I1.fpOk (Nat.le_refl _) (I1.hok.fresh (Nat.le_refl _))
theorem pi_tup {l : Expr} {tl : TE} (hl : PE X l tl) : PI X tg l (iTup X.K tl) := by
  intro pins s σ H R I h
  refine thn (hl pins s σ H _ I h) fun v s1 ⟨x, H1, I1, r1, q1⟩ => ?_
  obtain ⟨a, e, ⟨xs, hq⟩, q⟩ := q1
  subst e
  cases r1
  obtain ⟨its, rv, p, hz⟩ := I1.tuple hq
  refine wpAny_pyIter_tuple (show s1.heap.IsTuple a its.toArray from p) ?_
  refine ⟨s1.heap.objs.size, [s1.heap.objs.size], _, _, H1, rfl, I1.kept (t' := s1.toks) fun b o e => Heap.get?_push_of_some _ e, turn_tuple a _, ⟨_, Heap.get?_push_size _ rfl, rfl, rfl⟩, fun b hb => ?_, q⟩
  have e : b = s1.heap.objs.size := by simpa using hb
  subst e
  exact I1.fpOk (Nat.le_refl _) (I1.hok.fresh (Nat.le_refl _))
theorem range_it {pins : List (Addr × Obj)} {σ : St} {H : Hp} {s : Shared} {R : It → Hp → Prop} {E : Value → Shared → Prop} {lo hi : Int} {t u v : Tok} {tk : Nat} (I : Inv X pins σ H s) (h1 : -(2 ^ 62) ≤ lo) (h2 : lo < 2 ^ 62) (h3 : -(2 ^ 62) ≤ hi) (h4 : hi < 2 ^ 62)
    (q : R (Itr lo (hi - lo).toNat) H) : wpAny (model X.prog X.w) X.A (pyIter (.ref s.heap.objs.size)) (PIE X pins σ tg R) E { s with heap := s.heap.push { cls := .type "range", data := .fields #[.int lo t, .int hi u, .int 1 v] }, toks := tk } := by
  refine wpAny_pyIter_range (IsRange.new ..) (small_one h1 h2 h3 h4) ?_
  have I1 : Inv X pins σ H { s with heap := s.heap.push { cls := .type "range", data := .fields #[.int lo t, .int hi u, .int 1 v] }, toks := tk } := I.kept fun b o e => Heap.get?_push_of_some _ e
  refine ⟨(s.heap.push { cls := .type "range", data := .fields #[.int lo t, .int hi u, .int 1 v] }).objs.size, [(s.heap.push { cls := .type "range", data := .fields #[.int lo t, .int hi u, .int 1 v] }).objs.size], _, _, H, rfl,
    I1.kept (t' := tk) fun b o e => Heap.get?_push_of_some _ e, turn_range _ lo (hi - lo).toNat, ?_, fun b hb => ?_, q⟩
  · have e1 : lo + ((0 : Nat) : Int) * 1 = lo := by simp
    have e2 : (((hi - lo).toNat : Nat) : Int) - ((0 : Nat) : Int) = Builtin.Range.rangeSize lo hi 1 := by rw [rangeSize_one]; split <;> omega
    show IsRangeIter _ _ (lo + ((0 : Nat) : Int) * 1) ((((hi - lo).toNat : Nat) : Int) - ((0 : Nat) : Int)) 1
    rw [e1, e2]
    exact Heap.get?_push_size _ rfl
  · have e : b = (s.heap.push { cls := .type "range", data := .fields #[.int lo t, .int hi u, .int 1 v] }).objs.size := by simpa using hb
    subst e
    exact I1.fpOk (Nat.le_refl _) (I1.hok.fresh (Nat.le_refl _))
def iRng1 (ta : TA) : TI := fun σ H R => ta σ H fun vs H1 => ∃ j : Int, vs = [.int j] ∧ -(2 ^ 62) ≤ j ∧ j < 2 ^ 62 ∧ R (Itr 0 j.toNat) H1
def iRng2 (ta : TA) : TI := fun σ H R => ta σ H fun vs H1 => ∃ i j : Int, vs = [.int i, .int j] ∧ (-(2 ^ 62) ≤ i ∧ i < 2 ^ 62 ∧ -(2 ^ 62) ≤ j ∧ j < 2 ^ 62) ∧ R (Itr i (j - i).toNat) H1
theorem pi_range1 {a : Expr} {ta : TA} {p pos : Pos} (hg : Gl X "range") (hm : X.mg "range" = none) (ha : PA X [a] ta) (hs : starEach [a] X.env = [(false, eval a X.env)] := by rfl) : PI X tg (.Call (.Name "range" p) [a] [] pos) (iRng1 ta) := by
  intro pins s σ H R I h
  refine Call_ (ld_blt I hg hm boot_range (PyProof.Rows.callWith_type1 (thn (ha pos pins s σ H _ I h) fun us s1 ⟨vs, H1, I1, r1, q1⟩ => ?_) hs rfl))
  obtain ⟨j, e, q1, q2, q⟩ := q1
  subst e
  cases r1 with
  | cons r rr =>
    cases rr
    obtain ⟨t, rfl⟩ := r
    exact call_range_1 (range_it I1 (by omega) (by omega) q1 q2 (by simpa using q))
theorem pi_range2 {a b : Expr} {ta : TA} {p pos : Pos} (hg : Gl X "range") (hm : X.mg "range" = none) (ha : PA X [a, b] ta) (hs : starEach [a, b] X.env = [(false, eval a X.env), (false, eval b X.env)] := by rfl) (hs2 : starEach [b] X.env = [(false, eval b X.env)] := by rfl) :
    PI X tg (.Call (.Name "range" p) [a, b] [] pos) (iRng2 ta) := by
  intro pins s σ H R I h
  refine Call_ (ld_blt I hg hm boot_range (PyProof.Rows.callWith_type1 (thn (ha pos pins s σ H _ I h) fun us s1 ⟨vs, H1, I1, r1, q1⟩ => ?_) (by rw [hs, hs2]) (by rw [hs2]; rfl)))
  obtain ⟨i, j, e, ⟨q1, q2, q3, q4⟩, q⟩ := q1
  subst e
  cases r1 with
  | cons r rr =>
    cases rr with
    | cons r' rr =>
      cases rr
      obtain ⟨t, rfl⟩ := r
      obtain ⟨t', rfl⟩ := r'
      exact call_range_2 (range_it I1 q1 q2 q3 q4 q)
def tFor (wi : TI) (g : TG) (tb : TS) : TS := fun D σ H => wi σ H fun J H1 => ∃ W : Nat → Nat → St → Hp → Prop, (∃ m, W 0 m σ H1) ∧ ∀ i m σ H, W i m σ H →
  (J.stop i H ∧ D.nx σ H) ∨ (J.go i H ∧ ∃ N : St → Hp → Prop, (∀ σ' H', N σ' H' → ∃ m', m' < m ∧ W (i + 1) m' σ' H') ∧ ∀ x H', J.yld i H x H' → g x σ H' fun σ2 H2 => tb { D with nx := N, ct := N, bk := D.nx } σ2 H2)
def pinsAt (fp : List Addr) (h : Heap) : List (Addr × Obj) := fp.filterMap fun b => (h.get? b).map fun o => (b, o)
theorem mem_pinsAt {fp : List Addr} {h : Heap} {b : Addr} {o : Obj} (hb : b ∈ fp) (e : h.get? b = some o) : (b, o) ∈ pinsAt fp h := List.mem_filterMap.mpr ⟨b, hb, by rw [e]; rfl⟩
theorem of_pinsAt {fp : List Addr} {h : Heap} {p : Addr × Obj} (hp : p ∈ pinsAt fp h) : p.1 ∈ fp ∧ h.get? p.1 = some p.2 := by
  obtain ⟨b, hb, e⟩ := List.mem_filterMap.mp hp
  cases q : h.get? b with
  | none => rw [q] at e; cases e
  | some o =>
    rw [q] at e
    have e' : (b, o) = p := Option.some.inj e
    subst e'
    exact ⟨hb, q⟩
theorem Inv.pinned {pins : List (Addr × Obj)} {σ : St} {H : Hp} {s : Shared} {fp : List Addr} (I : Inv X pins σ H s) (hf : ∀ b ∈ fp, FpOk X pins H b) (ho : ∀ b ∈ fp, ∃ o, s.heap.get? b = some o ∧ ∀ v, o.data ≠ .cell v) : Inv X (pins ++ pinsAt fp s.heap) σ H s :=
  I.pins_of fun p hp => (List.mem_append.mp hp).elim (fun z => I.pin p (List.mem_append_right _ z)) fun z => by
    obtain ⟨hb, e⟩ := of_pinsAt z
    obtain ⟨f0, f1, f2, _⟩ := hf p.1 hb
    obtain ⟨o, e', d⟩ := ho p.1 hb
    rw [e] at e'; cases e'
    exact ⟨e, f0, f1, f2, d⟩
theorem Inv.unpinned {pins pl : List (Addr × Obj)} {σ : St} {H : Hp} {s : Shared} (I : Inv X (pins ++ pl) σ H s) : Inv X pins σ H s := I.pins_of fun p hp => I.pin p (List.mem_append_right _ (List.mem_append_left _ hp))
theorem ps_for {iter : Expr} {body : List Stmt} {wi : TI} {g : TG} {tb : TS} {pos : Pos} (hp : PassesOwn (model X.prog X.w) X.A X.env X.xe) (hc : X.calm = true) (hi : PI X tg iter wi) (hg : PG X tg g) (hb : PSs X body tb)
    (hs : ∀ x, foldedSetIterable iter X.env x = pure x := by intro _; rfl) : PS X (.For tg iter body [] pos) (tFor wi g tb) := by
  intro pins s σ H D I h
  refine wpAny_For (thn (hi pins s σ H _ I h) fun v s1 h1 => thn h1 fun itv s2 h2 => ?_) hs
  obtain ⟨it, fp, tn, J, H2, e, I2, T, st2, f2, W, ⟨m0, w0⟩, turn⟩ := h2
  subst e
  -- what stays true of the iterator's objects through the loop
  have stat : ∀ {H' : Hp}, (∀ b ∈ fp, H' b = none) → ∀ b ∈ fp, FpOk X pins H' b := fun hn b hb => ⟨hn b hb, (f2 b hb).2⟩
  refine codeAny_forLoop_any (fun n s' => ∃ i σ' H', Inv X pins σ' H' s' ∧ tn i s'.heap ∧ (∀ b ∈ fp, H' b = none) ∧ W i n σ' H') ?_ m0 ⟨0, σ, H2, I2, st2, fun b hb => (f2 b hb).1, w0⟩
  rintro n s3 ⟨i, σ3, H3, I3, st3, fr3, w3⟩
  rcases turn i n σ3 H3 w3 with ⟨stop, qn⟩ | ⟨go, N, hN, step⟩
  · refine wpAny_passesOwn hp (thn (T.done X rfl rfl rfl hc i pins s3 σ3 H3 X.xe I3 (stat fr3) st3 stop) fun r s4 ⟨hr, I4⟩ => ?_)
    subst hr
    exact wpAny_execs_nil ⟨σ3, H3, I4, qn⟩
  · refine wpAny_passesOwn hp (thn (T.item X rfl rfl rfl hc i pins s3 σ3 H3 X.xe I3 (stat fr3) st3 go) fun r s4 ⟨u, hr, h4⟩ => ?_)
    subst hr
    refine wpAny_passesOwn hp (thn h4 fun _ s5 ⟨x, H5, I5, r5, y5, st5, fr5⟩ => ?_)
    have I5' := I5.pinned (stat fr5) (T.obj _ _ st5)
    refine wpAny_passesOwn hp (thn (hg _ s5 σ3 H5 x u _ I5' r5 (step x H5 y5)) fun _ s6 ⟨σ6, H6, I6, q6⟩ => ?_)
    refine wpAny_passesOwn hp (thn (hb _ s6 σ6 H6 _ I6 q6) fun f s7 q7 => ?_)
    have again : ∀ {σ7 : St} {H7 : Hp}, Inv X (pins ++ pinsAt fp s5.heap) σ7 H7 s7 → N σ7 H7 → ∃ m, m < n ∧ ∃ i σ' H', Inv X pins σ' H' s7 ∧ tn i s7.heap ∧ (∀ b ∈ fp, H' b = none) ∧ W i m σ' H' := fun {σ7 H7} I7 n7 => by
      obtain ⟨m', hm, w7⟩ := hN σ7 H7 n7
      refine ⟨m', hm, i + 1, σ7, H7, I7.unpinned, T.keep _ _ _ st5 fun b hb o e => (I7.pin (b, o) (List.mem_append_right _ (List.mem_append_right _ (mem_pinsAt hb e)))).1, fun b hb => ?_, w7⟩
      obtain ⟨o, e, d⟩ := T.obj _ _ st5 b hb
      exact (I7.pin (b, o) (List.mem_append_right _ (List.mem_append_right _ (mem_pinsAt hb e)))).2.1
    cases f with
    | next => obtain ⟨σ7, H7, I7, n7⟩ := q7; exact again I7 n7
    | cont => obtain ⟨σ7, H7, I7, n7⟩ := q7; exact again I7 n7
    | brk => obtain ⟨σ7, H7, I7, q7⟩ := q7; exact ⟨σ7, H7, I7.unpinned, q7⟩
    | ret v => obtain ⟨x7, σ7, H7, I7, r7, q7⟩ := q7; exact ⟨x7, σ7, H7, I7.unpinned, r7, q7⟩
end
end L2
namespace L2
open PySem PySem.Spec PyProof.Rows
abbrev R2 := V → V → Hp → VK → Prop
def OpR (X : Cx) (f : Value → Value → Sem Value) (r : R2) : Prop :=
  ∀ (pins : List (Addr × Obj)) (s : Shared) (σ : St) (H : Hp) (x y : V) (v u : Value) (Q : VK), Inv X pins σ H s → RelV x v → RelV y u → r x y H Q →
    wpAny (model X.prog X.w) X.A (f v u) (EP X pins σ Q) X.xe s
def CallR (X : Cx) (f : Value) (r : List V → Hp → VK → Prop) : Prop :=
  ∀ (pins : List (Addr × Obj)) (s : Shared) (σ : St) (H : Hp) (xs : List V) (us : List Value) (Q : VK), Inv X pins σ H s → Vals xs us → r xs H Q →
    wpAny (model X.prog X.w) X.A (call f us) (EP X pins σ Q) X.xe s
def tOp (r : R2) (ta tb : TE) : TE := fun σ H Q => ta σ H fun x H1 => tb σ H1 fun y H2 => r x y H2 Q
def rI (C : Int → Int → Prop) (g : Int → Int → V) : R2 := fun x y H Q => ∃ i j, x = .int i ∧ y = .int j ∧ C i j ∧ Q (g i j) H
def rI0 (g : Int → Int → V) : R2 := fun x y H Q => ∃ i j, x = .int i ∧ y = .int j ∧ Q (g i j) H
section
variable {X : Cx} {a b c : Expr} {ta tb tc : TE} {pos : Pos}
theorem binT (ha : PE X a ta) (hb : PE X b tb) {pins : List (Addr × Obj)} {s : Shared} {σ : St} {H : Hp} {R : V → V → Hp → Prop} (I : Inv X pins σ H s)
    (h : ta σ H fun x H1 => tb σ H1 fun y H2 => R x y H2) {Q : Value → Shared → Prop} {f : Value → Value → Sem Value}
    (hf : ∀ v u s2 x y H2, Inv X pins σ H2 s2 → RelV x v → RelV y u → R x y H2 → wpAny (model X.prog X.w) X.A (f v u) Q X.xe s2) :
    wpAny (model X.prog X.w) X.A (eval a X.env) (fun v s₁ => wpAny (model X.prog X.w) X.A (eval b X.env) (fun u s₂ => wpAny (model X.prog X.w) X.A (f v u) Q X.xe s₂) X.xe s₁) X.xe s := by
  refine thn (ha pins s σ H _ I h) fun v s1 ⟨x, H1, I1, r1, q1⟩ => ?_
  refine thn (hb pins s1 σ H1 _ I1 q1) fun u s2 ⟨y, H2, I2, r2, q2⟩ => ?_
  exact hf v u s2 x y H2 I2 r1 r2 q2
theorem pe_op {op : Operator} {r : R2} (ho : OpR X (binaryOp op) r) (ha : PE X a ta) (hb : PE X b tb) : PE X (.BinOp a op b pos) (tOp r ta tb) := by
  intro pins s σ H Q I h
  exact wpAny_BinOp (binT ha hb I h fun v u s2 x y H2 I2 rx ry q => ho pins s2 σ H2 x y v u Q I2 rx ry q)
theorem opI {f : Value → Value → Sem Value} {C : Int → Int → Prop} {g : Int → Int → Int}
    (rule : ∀ (i j : Int) (t u : Tok) (s : Shared) (Q : Value → Shared → Prop) (E : Value → Shared → Prop), C i j → Q (.int (g i j) s.toks) { s with toks := s.toks + 1 } → wpAny (model X.prog X.w) X.A (f (.int i t) (.int j u)) Q E s) :
    OpR X f (rI C fun i j => .int (g i j)) := by
  intro pins s σ H x y v u Q I rx ry h
  obtain ⟨i, j, rfl, rfl, hc, q⟩ := h
  obtain ⟨t, rfl⟩ := rx
  obtain ⟨t', rfl⟩ := ry
  exact rule i j t t' s _ _ hc ⟨.int (g i j), H, I.tok _, ⟨_, rfl⟩, q⟩
theorem opI0 {f : Value → Value → Sem Value} {g : Int → Int → Int}
    (rule : ∀ (i j : Int) (t u : Tok) (s : Shared) (Q : Value → Shared → Prop) (E : Value → Shared → Prop), Q (.int (g i j) s.toks) { s with toks := s.toks + 1 } → wpAny (model X.prog X.w) X.A (f (.int i t) (.int j u)) Q E s) :
    OpR X f (rI0 fun i j => .int (g i j)) := by
  intro pins s σ H x y v u Q I rx ry h
  obtain ⟨i, j, rfl, rfl, q⟩ := h
  obtain ⟨t, rfl⟩ := rx
  obtain ⟨t', rfl⟩ := ry
  exact rule i j t t' s _ _ ⟨.int (g i j), H, I.tok _, ⟨_, rfl⟩, q⟩
theorem opB0 {f : Value → Value → Sem Value} {g : Int → Int → Bool}
    (rule : ∀ (i j : Int) (t u : Tok) (s : Shared) (Q : Value → Shared → Prop) (E : Value → Shared → Prop), Q (.bool (g i j)) s → wpAny (model X.prog X.w) X.A (f (.int i t) (.int j u)) Q E s) :
    OpR X f (rI0 fun i j => .bl (g i j)) := by
  intro pins s σ H x y v u Q I rx ry h
  obtain ⟨i, j, rfl, rfl, q⟩ := h
  obtain ⟨t, rfl⟩ := rx
  obtain ⟨t', rfl⟩ := ry
  exact rule i j t t' s _ _ ⟨.bl (g i j), H, I, rfl, q⟩
def CPow (i j : Int) : Prop := 0 ≤ j ∧ j ≤ 1000000 ∧ i.natAbs < 2 ^ 64
def CMul (i j : Int) : Prop := (-(2 ^ 64) < i ∧ i < 2 ^ 64) ∨ (-(2 ^ 64) < j ∧ j < 2 ^ 64)
theorem CMul.ok {i j : Int} (h : CMul i j) : IntMulOk i j := by
  rcases h with ⟨h1, h2⟩ | ⟨h1, h2⟩
  · exact .of_left (intBits_le_64 h1 h2)
  · exact .of_right (intBits_le_64 h1 h2)
theorem op_add : OpR X (binaryOp .Add) (rI0 fun i j => .int (i + j)) := opI0 fun _ _ _ _ _ _ _ q => add_int q
theorem op_sub : OpR X (binaryOp .Sub) (rI0 fun i j => .int (i - j)) := opI0 fun _ _ _ _ _ _ _ q => sub_int q
theorem op_mul : OpR X (binaryOp .Mult) (rI CMul fun i j => .int (i * j)) := opI fun _ _ _ _ _ _ _ hc q => mul_int q hc.ok
theorem op_mod : OpR X (binaryOp .Mod) (rI (fun _ j => 0 < j) fun i j => .int (i % j)) := opI fun i j _ _ _ _ _ hc q => by
  have h1 : (0 : Int) < j := hc
  exact mod_int' (by omega) (by rw [Int.fmod_eq_emod_of_nonneg i (by omega)]; exact q)
theorem op_pow : OpR X (binaryOp .Pow) (rI CPow fun i j => .int (i ^ j.toNat)) := opI fun _ _ _ _ _ _ _ hc q => pow_int_small hc.1 hc.2.1 hc.2.2 q
end
def scal : V → V → Bool
  | .non, .non => true | .non, .int _ => true | .int _, .non => true | .non, .bl _ => true | .bl _, .non => true | .non, .str _ => true | .str _, .non => true
  | .int _, .int _ => true | .bl _, .bl _ => true | .str _, .str _ => true | .byt _, .byt _ => true
  | .int _, .str _ => true | .str _, .int _ => true | .bl _, .str _ => true | .str _, .bl _ => true
  | _, _ => false
def rEq : R2 := fun x y H Q => scal x y = true ∧ Q (.bl (decide (x = y))) H
def rNe : R2 := fun x y H Q => scal x y = true ∧ Q (.bl (!decide (x = y))) H
theorem dec_int {i j : Int} : decide (V.int i = V.int j) = (i == j) := by
  rw [Bool.eq_iff_iff]
  simp
theorem dec_bl {i j : Bool} : decide (V.bl i = V.bl j) = (i == j) := by
  rw [Bool.eq_iff_iff]
  simp
theorem dec_str {i j : Str} : decide (V.str i = V.str j) = (i == j) := by
  rw [Bool.eq_iff_iff]
  simp
theorem dec_byt {i j : Array UInt8} : decide (V.byt i = V.byt j) = (i.toList == j.toList) := by
  rw [Bool.eq_iff_iff]
  cases i
  cases j
  simp
section
variable {X : Cx} {a b c : Expr} {ta tb tc : TE} {pos : Pos}
theorem fin_bl {pins : List (Addr × Obj)} {σ : St} {H : Hp} {s : Shared} {Q : VK} {k k' : Bool} (I : Inv X pins σ H s) (q : Q (.bl k) H) (e : k = k') : EP X pins σ Q (.bool k') s := by
  subst e
  exact ⟨.bl k, H, I, rfl, q⟩
theorem op_eq : OpR X (compareOp .Eq) rEq := by
  intro pins s σ H x y v u Q I rx ry h
  obtain ⟨hs, q⟩ := h
  cases x with
  | non =>
    cases rx
    cases y with
    | non => cases ry; exact PySem.EqNone.eq_none_none (fin_bl I q (by simp))
    | bl j => cases ry; exact PySem.EqNone.eq_none_bool (fin_bl I q (by simp))
    | int j => obtain ⟨t', rfl⟩ := ry; exact PySem.EqNone.eq_none_int (fin_bl I q (by simp))
    | str j => obtain ⟨t', rfl⟩ := ry; exact PySem.EqNone.eq_none_str (fin_bl I q (by simp))
    | _ => exact absurd (show false = true from hs) Bool.false_ne_true
  | bl i =>
    cases rx
    cases y with
    | non => cases ry; exact PySem.EqNone.eq_bool_none (fin_bl I q (by simp))
    | bl j => cases ry; exact eq_bool (fin_bl I q dec_bl)
    | str j => obtain ⟨t', rfl⟩ := ry; exact PySem.EqMixed.eq_bool_str (fin_bl I q (by simp))
    | _ => exact absurd (show false = true from hs) Bool.false_ne_true
  | int i =>
    obtain ⟨t, rfl⟩ := rx
    cases y with
    | non => cases ry; exact PySem.EqNone.eq_int_none (fin_bl I q (by simp))
    | int j => obtain ⟨t', rfl⟩ := ry; exact eq_int (fin_bl I q dec_int)
    | str j => obtain ⟨t', rfl⟩ := ry; exact PySem.EqMixed.eq_int_str (fin_bl I q (by simp))
    | _ => exact absurd (show false = true from hs) Bool.false_ne_true
  | str i =>
    obtain ⟨t, rfl⟩ := rx
    cases y with
    | non => cases ry; exact PySem.EqNone.eq_str_none (fin_bl I q (by simp))
    | bl j => cases ry; exact PySem.EqMixed.eq_str_bool (fin_bl I q (by simp))
    | int j => obtain ⟨t', rfl⟩ := ry; exact PySem.EqMixed.eq_str_int (fin_bl I q (by simp))
    | str j => obtain ⟨t', rfl⟩ := ry; exact eq_str (fin_bl I q dec_str)
    | _ => exact absurd (show false = true from hs) Bool.false_ne_true
  | byt i =>
    obtain ⟨t, rfl⟩ := rx
    cases y with
    | byt j => obtain ⟨t', rfl⟩ := ry; exact PySem.W.eq_bytes (fin_bl I q dec_byt)
    | _ => exact absurd (show false = true from hs) Bool.false_ne_true
  | _ => cases y <;> exact absurd (show false = true from hs) Bool.false_ne_true
theorem op_ne : OpR X (compareOp .NotEq) rNe := by
  intro pins s σ H x y v u Q I rx ry h
  obtain ⟨hs, q⟩ := h
  cases x with
  | non =>
    cases rx
    cases y with
    | non => cases ry; exact PySem.EqNone.ne_none_none (fin_bl I q (by simp))
    | bl j => cases ry; exact PySem.EqNone.ne_none_bool (fin_bl I q (by simp))
    | int j => obtain ⟨t', rfl⟩ := ry; exact PySem.EqNone.ne_none_int (fin_bl I q (by simp))
    | str j => obtain ⟨t', rfl⟩ := ry; exact PySem.EqNone.ne_none_str (fin_bl I q (by simp))
    | _ => exact absurd (show false = true from hs) Bool.false_ne_true
  | bl i =>
    cases rx
    cases y with
    | non => cases ry; exact PySem.EqNone.ne_bool_none (fin_bl I q (by simp))
    | bl j => cases ry; exact ne_bool (fin_bl I q (congrArg not dec_bl))
    | str j => obtain ⟨t', rfl⟩ := ry; exact PySem.EqMixed.ne_bool_str (fin_bl I q (by simp))
    | _ => exact absurd (show false = true from hs) Bool.false_ne_true
  | int i =>
    obtain ⟨t, rfl⟩ := rx
    cases y with
    | non => cases ry; exact PySem.EqNone.ne_int_none (fin_bl I q (by simp))
    | int j => obtain ⟨t', rfl⟩ := ry; exact ne_int (fin_bl I q (congrArg not dec_int))
    | str j => obtain ⟨t', rfl⟩ := ry; exact PySem.EqMixed.ne_int_str (fin_bl I q (by simp))
    | _ => exact absurd (show false = true from hs) Bool.false_ne_true
  | str i =>
    obtain ⟨t, rfl⟩ := rx
    cases y with
    | non => cases ry; exact PySem.EqNone.ne_str_none (fin_bl I q (by simp))
    | bl j => cases ry; exact PySem.EqMixed.ne_str_bool (fin_bl I q (by simp))
    | int j => obtain ⟨t', rfl⟩ := ry; exact PySem.EqMixed.ne_str_int (fin_bl I q (by simp))
    | str j => obtain ⟨t', rfl⟩ := ry; exact ne_str (fin_bl I q (congrArg not dec_str))
    | _ => exact absurd (show false = true from hs) Bool.false_ne_true
  | byt i =>
    obtain ⟨t, rfl⟩ := rx
    cases y with
    | byt j => obtain ⟨t', rfl⟩ := ry; exact PySem.W.ne_bytes (fin_bl I q (congrArg not dec_byt))
    | _ => exact absurd (show false = true from hs) Bool.false_ne_true
  | _ => cases y <;> exact absurd (show false = true from hs) Bool.false_ne_true
theorem op_lt : OpR X (compareOp .Lt) (rI0 fun i j => .bl (decide (i < j))) := opB0 fun _ _ _ _ _ _ _ q => lt_int q
theorem op_le : OpR X (compareOp .LtE) (rI0 fun i j => .bl (decide (i ≤ j))) := opB0 fun _ _ _ _ _ _ _ q => le_int q
theorem op_gt : OpR X (compareOp .Gt) (rI0 fun i j => .bl (decide (j < i))) := opB0 fun _ _ _ _ _ _ _ q => gt_int q
theorem op_ge : OpR X (compareOp .GtE) (rI0 fun i j => .bl (decide (j ≤ i))) := opB0 fun _ _ _ _ _ _ _ q => ge_int q
theorem op_lt_str : OpR X (compareOp .Lt) (fun x y H Q => ∃ i j, x = .str i ∧ y = .str j ∧ Q (.bl (decide (i.cps.toList < j.cps.toList))) H) := by
  intro pins s σ H x y v u Q I rx ry h
  obtain ⟨i, j, rfl, rfl, q⟩ := h
  obtain ⟨t, rfl⟩ := rx
  obtain ⟨t', rfl⟩ := ry
  exact lt_str (fin_bl I q rfl)
theorem op_in_str : OpR X (compareOp .In) (fun x y H Q => ∃ i j, x = .str i ∧ y = .str j ∧ Q (.bl (!(Builtin.Str.occurrences j i 0 j.length 1).isEmpty)) H) := by
  intro pins s σ H x y v u Q I rx ry h
  obtain ⟨i, j, rfl, rfl, q⟩ := h
  obtain ⟨t, rfl⟩ := rx
  obtain ⟨t', rfl⟩ := ry
  exact in_str (fin_bl I q rfl)
theorem op_isN : OpR X (compareOp .Is) (fun x y H Q => y = .non ∧ Q (.bl (decide (x = .non))) H) := by
  intro pins s σ H x y v u Q I rx ry h
  obtain ⟨rfl, q⟩ := h
  cases ry
  refine is_none_gen (fin_bl I q ?_)
  cases x <;> first
    | (cases rx; rfl)
    | (obtain ⟨t, rfl⟩ := rx; rfl)
theorem nomark (b : Expr) {op : CmpOp} (h : op ≠ .In := by decide) (h2 : op ≠ .NotIn := by decide) : behindInMarks op b = false := by
  have e1 : (op == CmpOp.In) = false := by cases op <;> first | rfl | exact absurd rfl h
  have e2 : (op == CmpOp.NotIn) = false := by cases op <;> first | rfl | exact absurd rfl h2
  cases b <;> simp [behindInMarks, e1, e2]
theorem pe_cmpR {op : CmpOp} {r : R2} (ho : OpR X (compareOp op) r) (ha : PE X a ta) (hb : PE X b tb) (hm : behindInMarks op b = false) : PE X (.Compare a [op] [b] pos) (tOp r ta tb) := by
  intro pins s σ H Q I h
  exact wpAny_Compare1 (binT ha hb I h fun v u s2 x y H2 I2 rx ry q => ho pins s2 σ H2 x y v u Q I2 rx ry q) hm
def tTest (t : TE) : TT := fun σ H Q => t σ H fun x H' => ∃ k, x = .bl k ∧ Q k H'
theorem pt_cmpR {op : CmpOp} {r : R2} (ho : OpR X (compareOp op) r) (ha : PE X a ta) (hb : PE X b tb) (hm : behindInMarks op b = false) : PT X (.Compare a [op] [b] pos) (tTest (tOp r ta tb)) := by
  intro pins s σ H Q I h
  refine wpAny_isTrue_Compare1 (thn (ha pins s σ H _ I h) fun v s1 ⟨x, H1, I1, r1, q1⟩ => thn (hb pins s1 σ H1 _ I1 q1) fun u s2 ⟨y, H2, I2, r2, q2⟩ =>
    thn (ho pins s2 σ H2 x y v u _ I2 r1 r2 q2) fun c s3 ⟨z, H3, I3, r3, k, e, q3⟩ => ?_) hm
  subst e
  cases r3
  exact wpAny_truthy_bool ⟨H3, I3, q3⟩
def tChain (r r' : R2) (ta tb tc : TE) : TE := fun σ H Q => ta σ H fun x H1 => tb σ H1 fun y H2 => r x y H2 fun z H3 => ∃ k, z = .bl k ∧
  (if k = true then tc σ H3 fun w' H4 => r' y w' H4 Q else Q (.bl false) H3)
theorem pe_chain {op op' : CmpOp} {r r' : R2} (ho : OpR X (compareOp op) r) (ho' : OpR X (compareOp op') r') (ha : PE X a ta) (hb : PE X b tb) (hc : PE X c tc)
    (hm : lastMarks [op, op'] [b, c] = false := by with_unfolding_all rfl) : PE X (.Compare a [op, op'] [b, c] pos) (tChain r r' ta tb tc) := by
  intro pins s σ H Q I h
  refine Compare_chain (thn (ha pins s σ H _ I h) fun v s1 ⟨x, H1, I1, r1, q1⟩ => chain_link (thn (hb pins s1 σ H1 _ I1 q1) fun u s2 ⟨y, H2, I2, r2, q2⟩ =>
    thn (ho pins s2 σ H2 x y v u _ I2 r1 r2 q2) fun d s3 ⟨z, H3, I3, r3, k, e, q3⟩ => ?_)) hm
  subst e
  cases r3
  refine wpAny_truthy_bool ?_
  cases k with
  | false => exact ite_ff ⟨.bl false, H3, I3, rfl, q3⟩
  | true => exact ite_tt (chain_last (thn (hc pins s3 σ H3 _ I3 q3) fun w' s4 ⟨z', H4, I4, r4, q4⟩ => ho' pins s4 σ H4 y z' u w' Q I4 r2 r4 q4))
theorem pt_chain {op op' : CmpOp} {r r' : R2} (ho : OpR X (compareOp op) r) (ho' : OpR X (compareOp op') r') (ha : PE X a ta) (hb : PE X b tb) (hc : PE X c tc)
    (hm : lastMarks [op, op'] [b, c] = false := by with_unfolding_all rfl) : PT X (.Compare a [op, op'] [b, c] pos) (tTest (tChain r r' ta tb tc)) := by
  intro pins s σ H Q I h
  refine isTrue_chain (thn (ha pins s σ H _ I h) fun v s1 ⟨x, H1, I1, r1, q1⟩ => test_link (thn (hb pins s1 σ H1 _ I1 q1) fun u s2 ⟨y, H2, I2, r2, q2⟩ =>
    thn (ho pins s2 σ H2 x y v u _ I2 r1 r2 q2) fun d s3 ⟨z, H3, I3, r3, k, e, q3⟩ => ?_)) hm
  subst e
  cases r3
  refine wpAny_truthy_bool ?_
  cases k with
  | false =>
    obtain ⟨k', e', q'⟩ := q3
    cases e'
    exact ite_ff ⟨H3, I3, q'⟩
  | true =>
    refine ite_tt (test_last (thn (hc pins s3 σ H3 _ I3 q3) fun w' s4 ⟨z', H4, I4, r4, q4⟩ => thn (ho' pins s4 σ H4 y z' u w' _ I4 r2 r4 q4) fun d' s5 ⟨z2, H5, I5, r5, k2, e2, q5⟩ => ?_))
    subst e2
    cases r5
    exact wpAny_truthy_bool ⟨H5, I5, q5⟩
theorem line63 : (sizeLine : Nat) < 2 ^ 63 := by rw [sizeLine_eq]; decide
theorem op_add_str : OpR X (binaryOp .Add) (fun x y H Q => ∃ i j, x = .str i ∧ y = .str j ∧ i.length + j.length ≤ sizeLine ∧ Q (.str (i ++ j)) H) := by
  intro pins s σ H x y v u Q I rx ry h
  obtain ⟨i, j, rfl, rfl, hz, q⟩ := h
  obtain ⟨t, rfl⟩ := rx
  obtain ⟨t', rfl⟩ := ry
  exact add_str (fun t' tk => ⟨.str (i ++ j), H, I.tok _, ⟨_, rfl⟩, q⟩) hz
theorem vals1 {x : V} {us : List Value} (r : Vals [x] us) : ∃ u, us = [u] ∧ RelV x u := by
  cases r with
  | cons r1 r2 => cases r2; exact ⟨_, rfl, r1⟩
theorem vals2 {x y : V} {us : List Value} (r : Vals [x, y] us) : ∃ u w', us = [u, w'] ∧ RelV x u ∧ RelV y w' := by
  cases r with
  | cons r1 r2 =>
    cases r2 with
    | cons r3 r4 => cases r4; exact ⟨_, _, rfl, r1, r3⟩
theorem call_int1 : CallR X (.type "int") (fun xs H Q => (∃ i, xs = [.int i] ∧ Q (.int i) H) ∨ ∃ k, xs = [.bl k] ∧ Q (.int (if k then 1 else 0)) H) := by
  intro pins s σ H xs us Q I r h
  rcases h with ⟨i, rfl, q⟩ | ⟨k, rfl, q⟩
  · obtain ⟨u, rfl, t, rfl⟩ := vals1 r
    exact call_int_int ⟨.int i, H, I, ⟨_, rfl⟩, q⟩
  · obtain ⟨u, rfl, r1⟩ := vals1 r
    cases r1
    exact call_int_bool ⟨.int (if k then 1 else 0), H, I.tok _, ⟨_, rfl⟩, q⟩
def LenV (K : PySem.W.Frag) (x : V) (H : Hp) (n : Nat) : Prop :=
  match x with
  | .str y => y.length ≤ sizeLine ∧ n = y.length
  | .byt y => y.size ≤ sizeLine ∧ n = y.size
  | .ref p => (∃ xs, SqL K H p xs ∧ n = xs.length) ∨ ∃ xs, SqT K H p xs ∧ n = xs.length
  | _ => False
theorem call_len : CallR X (.builtin "len") (fun xs H Q => ∃ x n, xs = [x] ∧ LenV X.K x H n ∧ Q (.int n) H) := by
  intro pins s σ H xs us Q I r h
  obtain ⟨x, n, rfl, e, q⟩ := h
  obtain ⟨u, rfl, rx⟩ := vals1 r
  have hl := line63
  have hs : sizeLine = 16777216 := sizeLine_eq
  cases x with
  | str y =>
    obtain ⟨t, rfl⟩ := rx
    obtain ⟨hy, e'⟩ : y.length ≤ sizeLine ∧ n = y.length := e
    subst e'
    exact len_str (by omega) ⟨.int _, H, I.tok _, ⟨_, rfl⟩, q⟩
  | byt y =>
    obtain ⟨t, rfl⟩ := rx
    obtain ⟨hy, e'⟩ : y.size ≤ sizeLine ∧ n = y.size := e
    subst e'
    exact PySem.W.len_bytes (by omega) ⟨.int _, H, I.tok _, ⟨_, rfl⟩, q⟩
  | ref p =>
    cases rx
    have e' : (∃ xs, SqL X.K H p xs ∧ n = xs.length) ∨ ∃ xs, SqT X.K H p xs ∧ n = xs.length := e
    rcases e' with ⟨xs, hx, e'⟩ | ⟨xs, hx, e'⟩
    · subst e'
      obtain ⟨its, r', pl, hz⟩ := I.list hx
      have hlen := r'.length
      exact Calls.call_len_list pl.isList (by simp only [List.size_toArray]; omega) ⟨.int xs.length, H, I.tok _, ⟨_, by simp only [List.size_toArray]; rw [hlen]⟩, q⟩
    · subst e'
      obtain ⟨its, r', pl, hz⟩ := I.tuple hx
      have hlen := r'.length
      exact len_tuple pl (by simp only [List.size_toArray]; omega) ⟨.int xs.length, H, I.tok _, ⟨_, by simp only [List.size_toArray]; rw [hlen]⟩, q⟩
  | _ => exact (show False from e).elim
end
end L2
namespace L2
open PySem PySem.Spec PyProof.Rows
structure ObjM (h : Heap) (x dx C : Addr) (mA : Str → Option Value) : Prop where
  obj : h.get? x = some (PySem.W.instObj C dx)
  ns : h.Ns1 dx mA
  ne : dx ≠ x
theorem lookIn_ns {h : Heap} {dx : Addr} {mA : Str → Option Value} (n : h.Ns1 dx mA) : ∃ od, h.get? dx = some od ∧ ∀ name, PySem.W.lookIn name od = some (mA name) := by
  obtain ⟨o, es, ep, ho, hd, hk, _, hm⟩ := n
  refine ⟨o, ho, fun name => ?_⟩
  have e := hm name
  unfold nsFind findBy at e
  rw [← Array.find?_toList] at e
  unfold PySem.W.lookIn
  rw [hd]
  dsimp only
  split
  · rename_i y q
    rw [q] at e
    exact congrArg some e
  · rename_i q
    rw [q] at e
    have a : es.toList.any (·.refKey) = false := by
      rw [List.any_eq_false]
      intro y hy
      obtain ⟨z, t, hkey⟩ := hk y (Array.mem_toList_iff.mp hy)
      simp [DictEntry.refKey, hkey]
    have a' : ¬ es.toList.any (·.refKey) = true := by rw [a]; exact Bool.false_ne_true
    rw [if_neg a']
    exact congrArg some e
theorem ObjM.look {h : Heap} {x dx C : Addr} {mA : Str → Option Value} (I : ObjM h x dx C mA) : ∃ od, PySem.W.InstAt h x (PySem.W.instObj C dx) C (some od) ∧ ∀ name, PySem.W.lookIn name od = some (mA name) :=
  let ⟨od, ho, hl⟩ := lookIn_ns I.ns
  ⟨od, ⟨I.obj, rfl, rfl, ho⟩, hl⟩
section
variable {prog : Program} {w : World} {A : Around} {E : Value → Shared → Prop} {s : Shared} {K : PySem.W.Frag} {x dx C f : Addr} {mA : Str → Option Value} {name : Str} {v : Value}
end
theorem RelO.some_of {v : V} {o : Option Value} (r : RelO (some v) o) : ∃ u, o = some u ∧ RelV v u := by
  cases o with
  | none => exact (show False from r).elim
  | some u => exact ⟨u, rfl, r⟩
section
variable {P : Program} {w : World} {H H' : Hp} {h h' : Heap} {a C dx : Addr} {fs fs' : List (Str × V)}
theorem ins_get (hok : HOk P w H h) (e : H a = some (.ins C dx fs)) : ∃ mA, ObjM h a dx C mA ∧ (∀ f, RelO (fs.lookup f) (mA f)) ∧ PySem.Within mA (fs.map (·.1)) ∧ fs.length ≤ 1000 ∧ H dx = some (.own a) := by
  obtain ⟨d, z, ne, ob, mA, n, r, q⟩ := (show ObjOk P w H h a (.ins C dx fs) from hok a _ e)
  exact ⟨mA, ⟨ob, n, ne⟩, r, q, z, d⟩
end
structure Cls (K : PySem.W.Frag) (C : Addr) : Prop where
  pg : PySem.W.plainGet K C Str.empty = true
  hd : PySem.W.hasDictIn K C = true
  po : PySem.W.plainOver K C = true
  sa : PySem.W.findIn K (.ref C) "__setattr__" = some (some (.builtin "object.__setattr__"))
theorem Cls.get {K : PySem.W.Frag} {C : Addr} (c : Cls K C) (f : Str) : PySem.W.plainGet K C f = true := c.pg
structure Con (K : PySem.W.Frag) (C : Addr) (f : Str) (v : V) (u : Value) : Prop where
  at_ : PySem.W.findIn K (.ref C) f = some (some u)
  rel : RelV v u
  get : PySem.W.specialIn K u "__get__" = some none
  cp : PySem.W.copiedNames.contains f = false
structure Meth (K : PySem.W.Frag) (C : Addr) (m : Str) (f : Addr) : Prop where
  at_ : PySem.W.findIn K (.ref C) m = some (some (.ref f))
  fn : PySem.W.isFn K (.ref f) = true
  kp : PySem.W.keepIn K (.ref f) = true
section
variable {X : Cx} {pins : List (Addr × Obj)} {σ : St} {H : Hp} {s : Shared} {a C dx : Addr} {fs : List (Str × V)} {f : Str} {v : V} {A : Around} {E : Value → Shared → Prop}
end
section
variable {X : Cx} {o e value : Expr} {f : Str} {pos pos' tpos : Pos} {ta tv : TE}
end
section
variable {X : Cx} {pins : List (Addr × Obj)} {σ : St} {H : Hp} {s : Shared} {A : Around} {E : Value → Shared → Prop} {Q : Value → Shared → Prop} {c : Value} {b : Bool}
inductive TyOf (K : PySem.W.Frag) (H : Hp) : V → Value → Prop where
  | non : TyOf K H .non (.type "NoneType")
  | bl (x : Bool) : TyOf K H (.bl x) (.type "bool")
  | int (i : Int) : TyOf K H (.int i) (.type "int")
  | str (x : Str) : TyOf K H (.str x) (.type "str")
  | flt (x : UInt64) : TyOf K H (.flt x) (.type "float")
  | lst {a : Addr} {xs : List V} (e : H a = some (.lst xs)) : TyOf K H (.ref a) (.type "list")
  | frz {a : Addr} {o : Obj} {xs : List V} (e : H a = some (.frz o (.lst xs))) : TyOf K H (.ref a) (.type "list")
  | tup {a : Addr} {xs : List V} (e : H a = some (.tup xs)) : TyOf K H (.ref a) (.type "tuple")
  | dK {a : Addr} {kvs : List (Key × V)} (e : H a = some (.dK kvs)) : TyOf K H (.ref a) (.type "dict")
  | dT {a : Addr} {kvs : List (List Key × V)} (e : H a = some (.dT kvs)) : TyOf K H (.ref a) (.type "dict")
  | ins {a C dx : Addr} {fs : List (Str × V)} (e : H a = some (.ins C dx fs)) (cl : Cls K C) (ha : PySem.W.findIn K (.ref C) "__class__" = some (some (.builtin "object.__class__")))
      (hn : PySem.W.specialIn K (.builtin "object.__class__") "__get__" = some (some (.builtin "getset_descriptor.__get__"))) (htk : PySem.W.takesIn K (.builtin "object.__class__") = some true)
      (hm : PySem.W.mroIn K C (.type "object") = some true) : TyOf K H (.ref a) (.ref C)
theorem isinst_ok {x : V} {u t : Value} (I : Inv X pins σ H s) (rx : RelV x u) (ty : TyOf X.K H x t) (e : PySem.W.kitOne X.K t c = some b) (h : ∀ tk, Q (.bool b) { s with toks := tk }) :
    wpAny (model X.prog X.w) A (call (.builtin "isinstance") [u, c]) Q E s := by
  cases ty with
  | non => cases (show u = Value.none from rx); exact PySem.W.kia_one PySem.W.kitx_none I.kIn True.intro e (fun z => nomatch z) h
  | bl y => cases (show u = Value.bool y from rx); exact PySem.W.kia_one PySem.W.kitx_bool I.kIn True.intro e (fun z => nomatch z) h
  | int i => obtain ⟨t, q⟩ := (show ∃ t, u = Value.int i t from rx); cases q; exact PySem.W.kia_one PySem.W.kitx_int I.kIn True.intro e (fun z => nomatch z) h
  | str y => obtain ⟨t, q⟩ := (show ∃ t, u = Value.str y t from rx); cases q; exact PySem.W.kia_one PySem.W.kitx_str I.kIn True.intro e (fun z => nomatch z) h
  | flt y => obtain ⟨t, q⟩ := (show ∃ t, u = Value.float y t from rx); cases q; exact PySem.W.kia_one PySem.W.kitx_float I.kIn True.intro e (fun z => nomatch z) h
  | @lst a xs ea =>
    cases (show u = Value.ref a from rx)
    obtain ⟨_, _, n, _, h1⟩ := (show ObjOk X.prog X.w H s.heap a (.lst xs) from I.hok a _ ea)
    exact PySem.W.kia_one PySem.W.kitx_list I.kIn ⟨_, h1, rfl⟩ e (fun z => nomatch z) h
  | @frz a ob xs ea =>
    cases (show u = Value.ref a from rx)
    obtain ⟨_, _, _, n, _, h1⟩ := (show ObjOk X.prog X.w H s.heap a (.frz ob (.lst xs)) from I.hok a _ ea)
    exact PySem.W.kia_one PySem.W.kitx_list I.kIn ⟨_, h1, rfl⟩ e (fun z => nomatch z) h
  | @tup a xs ea =>
    cases (show u = Value.ref a from rx)
    obtain ⟨_, _, _, p⟩ := (show ObjOk X.prog X.w H s.heap a (.tup xs) from I.hok a _ ea)
    obtain ⟨o, h1, h2, _⟩ := p
    exact PySem.W.kia_one PySem.W.kitx_tuple I.kIn ⟨o, h1, h2⟩ e (fun z => nomatch z) h
  | @dK a kvs ea =>
    cases (show u = Value.ref a from rx)
    obtain ⟨_, _, vs, _, p⟩ := (show ObjOk X.prog X.w H s.heap a (.dK kvs) from I.hok a _ ea)
    obtain ⟨o, es, ep, h1, h2, _⟩ := p
    exact PySem.W.kia_one PySem.W.kitx_dict I.kIn ⟨o, h1, h2.1⟩ e (fun z => nomatch z) h
  | @dT a kvs ea => exact False.elim (show ObjOk X.prog X.w H s.heap a (.dT kvs) from I.hok a _ ea)
  | @ins a C dx fs ea cl ha hn htk hm =>
    cases (show u = Value.ref a from rx)
    obtain ⟨mA, O, _⟩ := ins_get I.hok ea
    obtain ⟨od, J, _⟩ := O.look
    exact PySem.W.kia_one (PySem.W.kitx_own (cl.get _) cl.hd ha hn htk hm) I.kIn J e (fun z => nomatch z) h
end
end L2
namespace L2
open PySem PySem.Spec PyProof.Rows
structure Room (k : Nat) (A : Around) : Prop where
  hd : A.handled = none
  dp : A.depth + 3 * k + 5 < recursionLimit
  un : A.units + 16 * k + 200 < cLine
theorem Room.mono {j k : Nat} {A : Around} (r : Room k A) (h : j ≤ k) : Room j A := ⟨r.hd, by have := r.dp; omega, by have := r.un; omega⟩
theorem Room.deeper {k : Nat} {A : Around} (r : Room (k + 1) A) (env : Env) : Room k (A.deeper env) :=
  ⟨r.hd, by have := r.dp; show A.depth + 1 + 3 * k + 5 < _; omega, by have := r.un; show A.units + 3 + 16 * k + 200 < _; omega⟩
theorem Room.depth {k : Nat} {A : Around} (r : Room k A) : A.depth < recursionLimit := by have := r.dp; omega
theorem Room.units {k : Nat} {A : Around} (r : Room k A) : A.units + 64 < cLine := by have := r.un; omega
def tNil : TA := fun _ H Q => Q [] H
def tCons (ta : TE) (tr : TA) : TA := fun σ H Q => ta σ H fun x H1 => tr σ H1 fun xs H2 => Q (x :: xs) H2
section
variable {X : Cx} {e : Expr} {es : List Expr} {te : TE} {t : TA} {pos : Pos}
theorem pa_nil : PA X [] tNil := fun _ _ _ _ H Q I h => Calls.spliced_nil ⟨[], H, I, .nil, h⟩
theorem pa_cons (ha : PE X e te) (hr : PA X es t) (hs : starEach (e :: es) X.env = (false, eval e X.env) :: starEach es X.env := by rfl) : PA X (e :: es) (tCons te t) := by
  intro pos pins s σ H Q I h
  rw [hs]
  show wpAny _ _ (spliced ((false, eval e X.env) :: backTo pos (starEach es X.env))) _ _ s
  refine Calls.spliced_cons (thn (ha pins s σ H _ I h) fun u s1 ⟨x, H1, I1, r1, q1⟩ => ?_)
  exact thn (hr pos pins s1 σ H1 _ I1 q1) fun us s2 ⟨xs, H2, I2, r2, q2⟩ => ⟨x :: xs, H2, I2, .cons r1 r2, q2⟩
def tTup (t : TA) : TE := fun σ H Q => t σ H fun xs H1 => xs.length ≤ sizeLine ∧ ∀ p, H1 p = none → Q (.ref p) (upd H1 p (.tup xs))
def tLst (t : TA) : TE := fun σ H Q => t σ H fun xs H1 => xs.length ≤ sizeLine ∧ ∀ p, H1 p = none → Q (.ref p) (upd H1 p (.lst xs))
theorem pe_tup {x1} (h : PA X es t) : PE X (.Tuple es x1 pos) (tTup t) := by
  intro pins s σ H Q I hq
  refine wpAny_Tuple_spliced (thn (h pos pins s σ H _ I hq) fun us s1 ⟨xs, H1, I1, r, z, q⟩ => ⟨by rw [← r.length]; exact z, ?_⟩)
  have hf : H1 s1.heap.objs.size = none := I1.hok.fresh (Nat.le_refl _)
  refine ⟨.ref s1.heap.objs.size, upd H1 s1.heap.objs.size (.tup xs), I1.laid (t' := s1.toks) (fun b u e => Heap.get?_push_of_some _ e) (Nat.le_refl _) ?_, rfl, q _ hf⟩
  exact ⟨z, us, r, ⟨_, Heap.get?_push_size _ rfl, rfl, rfl, _, rfl⟩⟩
theorem pe_lst (h : PA X es t) : PE X (.List es pos) (tLst t) := by
  intro pins s σ H Q I hq
  refine wpAny_List_spliced (thn (h pos pins s σ H _ I hq) fun us s1 ⟨xs, H1, I1, r, z, q⟩ => ⟨by rw [← r.length]; exact z, ?_⟩)
  have hf : H1 s1.heap.objs.size = none := I1.hok.fresh (Nat.le_refl _)
  refine ⟨.ref s1.heap.objs.size, upd H1 s1.heap.objs.size (.lst xs), I1.laid (t' := s1.toks) (fun b u e => Heap.get?_push_of_some _ e) (Nat.le_refl _) ?_, rfl, q _ hf⟩
  exact ⟨z, us, 0, r, Heap.get?_push_size _ rfl⟩
end
abbrev Sp := List V → Hp → VK → XK → Prop
abbrev CXT := List Env → Hp → Shared → XK → Value → Shared → Prop
structure Env0 (P : Program) (w : World) (K : PySem.W.Frag) (mg : Str → Option Value) (base : Heap) (A : Around) (outer : List Env) (s : Shared) (H : Hp) : Prop where
  frames : A.frames = some outer
  mod : Mod K mg base
  bs : ∀ b o, base.get? b = some o → s.heap.get? b = some o ∧ H b = none
  bsz : base.objs.size ≤ s.heap.objs.size
  funs : s.heap.FunFrames base outer
  frf : ∀ b ∈ frs outer, H b = none
  hok : HOk P w H s.heap
  bare : AllBare s.gens
def CE (outer : List Env) (P : Program) (w : World) (H : Hp) (s : Shared) (Q : VK) (u : Value) (s' : Shared) : Prop :=
  ∃ v H', s'.os = s.os ∧ AllBare s'.gens ∧ Un (frs outer) [] H H' s.heap s'.heap ∧ HOk P w H' s'.heap ∧ RelV v u ∧ Q v H'
def CR (CX : CXT) (outer : List Env) (P : Program) (w : World) (H : Hp) (s : Shared) (Q : VK) (E : XK) (r : Result) (s' : Shared) : Prop :=
  match r with
  | .ok (.ret u) => CE outer P w H s Q u s'
  | .ok _ => False
  | .error e => CX outer H s E e s'
structure FnOk (P : Program) (w : World) (K : PySem.W.Frag) (mg : Str → Option Value) (base : Heap) (CX : CXT) (k : Nat) (f : Addr) (fd : FuncData) (ps : List Str) (sp : Sp) : Prop where
  len : ∀ vs H Q E, sp vs H Q E → vs.length = ps.length
  run : ∀ (A : Around) (outer : List Env) (s : Shared) (H : Hp) (args : Args) (us : List Value) (vs : List V) (Q : VK) (E : XK), Room k A → Env0 P w K mg base A outer s H → BindsTo s fd args (ps.zip us) → Vals vs us → sp vs H Q E →
    codeAny (model P w) A (.call (.ref f) args) (CR CX outer P w H s Q E) s
theorem FnOk.mono {P : Program} {w : World} {K : PySem.W.Frag} {mg : Str → Option Value} {base : Heap} {CX : CXT} {j k : Nat} {f : Addr} {fd : FuncData} {ps : List Str} {sp : Sp} (F : FnOk P w K mg base CX j f fd ps sp) (h : j ≤ k) :
    FnOk P w K mg base CX k f fd ps sp := ⟨F.len, fun A outer s H args us vs Q E hr => F.run A outer s H args us vs Q E (hr.mono h)⟩
theorem FnOk.imp {P : Program} {w : World} {K : PySem.W.Frag} {mg : Str → Option Value} {base : Heap} {CX : CXT} {k : Nat} {f : Addr} {fd : FuncData} {ps : List Str} {sp sp' : Sp} (F : FnOk P w K mg base CX k f fd ps sp)
    (h : ∀ vs H Q E, sp' vs H Q E → sp vs H Q E) : FnOk P w K mg base CX k f fd ps sp' :=
  ⟨fun vs H Q E q => F.len vs H Q E (h _ _ _ _ q), fun A outer s H args us vs Q E hr he hb hv hs => F.run A outer s H args us vs Q E hr he hb hv (h _ _ _ _ hs)⟩
section
variable {X : Cx} {pins : List (Addr × Obj)} {σ : St} {H : Hp} {s s' : Shared}
theorem Inv.env0 (I : Inv X pins σ H s) : Env0 X.prog X.w X.K X.mg X.base X.A X.stack s H :=
  ⟨I.ok.frames, I.ok.mod, I.bs, Nat.le_trans I.ok.bsz I.sz, I.stack, I.stkFree, I.hok, I.bare⟩
theorem Inv.after {Q : VK} {u : Value} (I : Inv X pins σ H s) (h : CE X.stack X.prog X.w H s Q u s') : EP X pins σ Q u s' := by
  obtain ⟨v, H', os, bare, un, hok, r, q⟩ := h
  obtain ⟨hh, g, d, t, os'⟩ := s'
  obtain rfl : os' = s.os := os
  exact ⟨v, H', I.call (h' := hh) (g' := g) (d' := d) (t' := t) (ch := []) un hok bare (fun b z => absurd z (by simp)), r, q⟩
end
def Binds (K : PySem.W.Frag) (fd : FuncData) (ps : List Str) (ds : List Value) : Prop :=
  ∀ (s : Shared) (us : List Value), K.In s.heap → (us ++ ds).length = ps.length → BindsTo s fd ⟨us, []⟩ (ps.zip (us ++ ds))
theorem Binds.all {K : PySem.W.Frag} {fd : FuncData} {ps : List Str} (h : ∀ us : List Value, us.length = ps.length → bindArgs fd ⟨us, []⟩ = pure (ps.zip us)) : Binds K fd ps [] := fun s us _ hl => by
  rw [List.append_nil] at hl ⊢
  exact .of_eq (h us hl)
def Passes (CX : CXT) (X : Cx) (E : XK) : Prop := ∀ (pins : List (Addr × Obj)) (σ : St) (H : Hp) (s : Shared) (e : Value) (s' : Shared), Inv X pins σ H s → CX X.stack H s E e s' → X.xe e s'
section
variable {X : Cx} {CX : CXT} {k : Nat} {f C : Addr} {fd : FuncData} {ps : List Str} {sp : Sp} {dvs : List V} {ds : List Value} {E : XK} {x m : Str} {p pos apos : Pos} {e o : Expr} {es : List Expr} {ta : TE} {t : TA}
structure Mk (K : PySem.W.Frag) (C f : Addr) : Prop where
  makes : PySem.W.makesIn K C = true
  init : PySem.W.findIn K (.ref C) "__init__" = some (some (.ref f))
  fn : PySem.W.isFn K (.ref f) = true
  kp : PySem.W.keepIn K (.ref C) = true
end
section
variable {X : Cx} {CX : CXT} {k : Nat} {f C : Addr} {fd : FuncData} {ps ks : List Str} {sp : Sp} {E : XK} {x m : Str} {p pos apos kpos : Pos} {e o : Expr} {es : List Expr} {kws : List Keyword} {te ta : TE} {t tk : TA} {nm : Option Str}
structure KBinds (K : PySem.W.Frag) (fd : FuncData) (ps ks : List Str) (g : List Value → List Value → List Value) (gV : List V → List V → List V) : Prop where
  to : ∀ (s : Shared) (us ws : List Value), K.In s.heap → (g us ws).length = ps.length → BindsTo s fd ⟨us, ks.zip ws⟩ (ps.zip (g us ws))
  rel : ∀ {vs : List V} {us : List Value} {zs : List V} {ws : List Value}, Vals vs us → Vals zs ws → Vals (gV vs zs) (g us ws)
variable {g : List Value → List Value → List Value} {gV : List V → List V → List V}
end
structure FnScope (N P : List Str) (sc : Scope) : Prop where
  kind : sc.kind = .function
  co : sc.isCoroutine = false
  gen : sc.isGenerator = false
  nd : N.Nodup
  pre : N.take P.length = P
  par : ∀ x ∈ P, sc.names.lookup x = some .local ∨ sc.names.lookup x = some .cell
  nofree : ∀ y ∈ sc.names, y.2 ≠ .free
theorem bindL_out {kindOf : Str → Option NameKind} {x : Str} : ∀ {binds : List (Str × Value)} {m : Str → Option Value}, (∀ v, (x, v) ∉ binds) → bindL kindOf binds m x = m x
  | [], _, _ => rfl
  | (n, v) :: r, m, h => by
    unfold bindL
    rw [bindL_out fun w hw => h w (List.mem_cons_of_mem _ hw)]
    split
    · have : x ≠ n := by rintro rfl; exact h v List.mem_cons_self
      simp [this]
    · rfl
theorem bindC_out {kindOf : Str → Option NameKind} {x : Str} : ∀ {binds : List (Str × Value)} {m : Str → Option Value}, (∀ v, (x, v) ∉ binds) → bindC kindOf binds m x = m x
  | [], _, _ => rfl
  | (n, v) :: r, m, h => by
    unfold bindC
    rw [bindC_out fun w hw => h w (List.mem_cons_of_mem _ hw)]
    split
    · rfl
    · have : x ≠ n := by rintro rfl; exact h v List.mem_cons_self
      simp [this]
theorem bindL_get {kindOf : Str → Option NameKind} {x : Str} {v : Value} : ∀ {P : List Str} {vs : List Value} {i : Nat} {m : Str → Option Value}, P.Nodup → P[i]? = some x → vs[i]? = some v → kindOf x = some .local →
    bindL kindOf (P.zip vs) m x = some v
  | [], _, _, _, _, h, _, _ => by simp at h
  | _ :: _, [], _, _, _, _, h, _ => by simp at h
  | p :: P, w :: vs, 0, m, nd, h1, h2, hk => by
    simp at h1 h2; subst h1; subst h2
    show bindL kindOf ((p, w) :: P.zip vs) m p = _
    unfold bindL
    rw [bindL_out fun v hv => (List.nodup_cons.mp nd).1 (List.of_mem_zip hv).1, if_pos hk]
    simp
  | p :: P, w :: vs, i + 1, m, nd, h1, h2, hk => by
    show bindL kindOf ((p, w) :: P.zip vs) m x = _
    unfold bindL
    exact bindL_get (i := i) (List.nodup_cons.mp nd).2 (by simpa using h1) (by simpa using h2) hk
theorem bindC_get {kindOf : Str → Option NameKind} {x : Str} {v : Value} : ∀ {P : List Str} {vs : List Value} {i : Nat} {m : Str → Option Value}, P.Nodup → P[i]? = some x → vs[i]? = some v → kindOf x ≠ some .local →
    bindC kindOf (P.zip vs) m x = some v
  | [], _, _, _, _, h, _, _ => by simp at h
  | _ :: _, [], _, _, _, _, h, _ => by simp at h
  | p :: P, w :: vs, 0, m, nd, h1, h2, hk => by
    simp at h1 h2; subst h1; subst h2
    show bindC kindOf ((p, w) :: P.zip vs) m p = _
    unfold bindC
    rw [bindC_out fun v hv => (List.nodup_cons.mp nd).1 (List.of_mem_zip hv).1, if_neg hk]
    simp
  | p :: P, w :: vs, i + 1, m, nd, h1, h2, hk => by
    show bindC kindOf ((p, w) :: P.zip vs) m x = _
    unfold bindC
    exact bindC_get (i := i) (List.nodup_cons.mp nd).2 (by simpa using h1) (by simpa using h2) hk
def start (N : List Str) (vs : List V) : St := vs.map some ++ List.replicate (N.length - vs.length) none
def cxOf (CX : CXT) (P : Program) (w : World) (K : PySem.W.Frag) (mg : Str → Option Value) (base : Heap) (N : List Str) (qual : Str) (scope : Scope) (f : Addr) (cd : Value) (A : Around) (outer : List Env) (s : Shared) (H : Hp) (E : XK) : Cx where
  prog := P
  w := w
  K := K
  mg := mg
  base := base
  A := A.deeper (envOfC qual scope s.heap.objs.size f cd)
  N := N
  s₀ := s
  H₀ := H
  env := envOfC qual scope s.heap.objs.size f cd
  outer := outer
  stack := envOfC qual scope s.heap.objs.size f cd :: outer
  ex := []
  calm := true
  fn := fun _ => true
  pn := []
  xe := fun e s' => wpAny (model P w) (A.deeper (envOfC qual scope s.heap.objs.size f cd)) (leaving (envOfC qual scope s.heap.objs.size f cd) e) (fun _ s'' => CX outer H s E e s'') (fun e' s'' => CX outer H s E e' s'') s'
theorem cell_has {sc : Scope} {n : Nat} {x : Str} (h : sc.names.lookup x = some .cell) : ∃ c, (cellsFrom n sc.names []).lookup x = some c := by
  have q := PySem.W.cellsFrom_some sc.names n [] (.inl h)
  exact Option.isSome_iff_exists.mp q
theorem inv_start {CX : CXT} {P : Program} {w : World} {K : PySem.W.Frag} {mg : Str → Option Value} {base : Heap} {N ps : List Str} {qual : Str} {scope : Scope} {f : Addr} {cd : Value} {A : Around} {outer : List Env} {s s1 : Shared} {H : Hp} {E : XK} {us : List Value} {vs : List V}
    (S : FnScope N ps scope) (hd : A.handled = none) (e0 : Env0 P w K mg base A outer s H) (hl : vs.length = ps.length) (r : Vals vs us)
    (x : InCallC s s.heap.objs.size (bindL (envOfC qual scope s.heap.objs.size f cd).kindOf (ps.zip us) fun _ => none) (cellsFrom (s.heap.objs.size + 1) scope.names []) (bindC (envOfC qual scope s.heap.objs.size f cd).kindOf (ps.zip us) fun _ => none) s1) :
    Inv (cxOf CX P w K mg base N qual scope f cd A outer s H E) [] (start N vs) H s1 := by
  have hpl : ps.length ≤ N.length := by have := congrArg List.length S.pre; rw [List.length_take] at this; omega
  obtain ⟨h1, tk, rfl, hk⟩ := x.done
  have noA : ∀ b : Addr, b ∉ (cxOf CX P w K mg base N qual scope f cd A outer s H E).ex := fun b z => absurd (show b ∈ ([] : List Addr) from z) (by simp)
  refine ⟨⟨e0.mod, S.kind, rfl, rfl, Nat.le_refl _, fun y z c h1 h2 => ?_, fun y hy => ?_, fun y c _ h => ?_, fun _ => hd, Around.frames_deeper e0.frames, .inr ⟨rfl, rfl⟩, fun b z => absurd z (noA b), e0.bs, e0.bsz, fun b _ _ => noA b, fun b z => absurd z (noA b), e0.funs, e0.frf⟩,
    rfl, e0.bare, Un.kept hk, ⟨_, x.toInCall.ns, fun i y v h1 h2 h3 => ?_⟩, fun y c h => ⟨_, x.cell y c h⟩, e0.hok.fresh (Nat.le_refl _), fun y c h => ?_, fun p hp => absurd (show p ∈ ([] : List (Addr × Obj)) from hp) (by simp), e0.hok.kept hk, ?_⟩
  · exact name_of_addr x.apart (PySem.mem_of_lookup h1) (PySem.mem_of_lookup h2)
  · have hy : scope.names.lookup y = some .cell ∨ scope.names.lookup y = some .free := hy
    rcases hy with hy | hy
    · exact cell_has hy
    · exact absurd rfl (S.nofree _ (PySem.mem_of_lookup hy))
  · exact Nat.le_of_lt (x.above y c (PySem.mem_of_lookup h))
  · have hi : i < vs.length := by
      unfold start at h2
      by_cases hi : i < vs.length
      · exact hi
      · rw [List.getElem?_append_right (by simpa using hi)] at h2
        rw [List.getElem?_replicate] at h2
        split at h2 <;> cases h2
    have ha : vs[i]? = some v := by
      unfold start at h2
      rw [List.getElem?_append_left (by simpa using hi), List.getElem?_map] at h2
      cases e : vs[i]? with
      | none => rw [e] at h2; cases h2
      | some a => rw [e] at h2; cases h2; rfl
    obtain ⟨u, hu, rv⟩ := r.get ha
    have hp : ps[i]? = some y := by
      rw [← S.pre, List.getElem?_take_of_lt (by omega)]; exact h1
    have ndP : ps.Nodup := by rw [← S.pre]; exact S.nd.sublist (List.take_sublist _ _)
    refine ⟨u, rv, ?_⟩
    rcases S.par y (List.mem_of_getElem? hp) with k | k
    · exact .inl ⟨k, bindL_get ndP hp hu k⟩
    · obtain ⟨c, e⟩ := cell_has (n := s.heap.objs.size + 1) k
      refine .inr ⟨.inl k, c, e, ?_⟩
      have q := x.cell y c e
      rw [bindC_get ndP hp hu (by show scope.names.lookup y ≠ _; rw [k]; decide)] at q
      exact q
  · exact e0.hok.fresh (Nat.le_of_lt (x.above y c (PySem.mem_of_lookup h)))
  · unfold start
    show _ = N.length
    rw [List.length_append, List.length_map, List.length_replicate]
    omega
theorem fn_of {CX : CXT} {P : Program} {w : World} {K : PySem.W.Frag} {mg : Str → Option Value} {base : Heap} {k : Nat} {f : Addr} {name qual : Str} {params : Arguments} {body : List Stmt} {scope : Scope} {dV kV doc pm cdv ct oc : Value} {an od : Option Addr}
    {osl : Array (Option Value)} {N ps : List Str} {sp : Sp} (lk : K.lookup f = some ⟨oc, od, .func (PySem.W.fnOf name qual params body scope dV kV doc pm an cdv ct), osl⟩) (hcd : PySem.W.codeIn K cdv qual = true) (S : FnScope N ps scope)
    (len : ∀ vs H Q E, sp vs H Q E → vs.length = ps.length)
    (hbody : ∀ (A : Around) (outer : List Env) (s : Shared) (H : Hp) (vs : List V) (Q : VK) (E : XK), Room k (A.deeper (envOfC qual scope s.heap.objs.size f cdv)) → sp vs H Q E →
      ∃ t, PSs (cxOf CX P w K mg base N qual scope f cdv A outer s H E) body t ∧ t { nx := fun _ H' => Q .non H', rt := Q } (start N vs) H) :
    FnOk P w K mg base CX (k + 1) f (PySem.W.fnOf name qual params body scope dV kV doc pm an cdv ct) ps sp := by
  refine ⟨len, fun A outer s H args us vs Q E hr e0 hb r hsp => ?_⟩
  have hl := len _ _ _ _ hsp
  have KX : K.In s.heap := e0.mod.kin.keeps fun b o e => (e0.bs b o e).1
  have lim : s.heap.NoLimit := e0.mod.nolimit.keeps fun b o e => (e0.bs b o e).1
  have hkind : ∀ y ∈ ps.zip us, scope.names.lookup y.1 = some .local ∨ (scope.names.lookup y.1 = some .cell ∧ ((cellsFrom (s.heap.objs.size + 1) scope.names []).lookup y.1).isSome = true) := fun ⟨n, v⟩ hy => by
    rcases S.par n (List.of_mem_zip hy).1 with q | q
    · exact .inl q
    · exact .inr ⟨q, PySem.W.cellsFrom_some _ _ _ (.inl q)⟩
  refine codeAny_call_function hr.depth (KX _ _ lk) rfl S.co S.gen rfl (PySem.W.codeRec_of KX hcd) (hb _ _ _ _ ?_)
  refine wpAny_newFunctionEnv_cells S.kind hkind fun env he s1 x => ?_
  subst he
  refine ⟨lim.keeps x.toInCall.keep, codeAny_func ?_⟩
  obtain ⟨t, ht, hq⟩ := hbody A outer s H vs Q E (hr.deeper _) hsp
  have I : Inv (cxOf CX P w K mg base N qual scope f cdv A outer s H E) [] (start N vs) H s1 := inv_start S hr.hd e0 hl r x
  refine wpAny_mono (ht [] s1 (start N vs) H _ I hq) (fun fl s' hs => ?_) fun e s' hs => hs
  have fin : ∀ {σ' : St} {H' : Hp} {v : V} {u : Value}, Inv (cxOf CX P w K mg base N qual scope f cdv A outer s H E) [] σ' H' s' → RelV v u → Q v H' → CE outer P w H s Q u s' :=
    fun {σ' H' v u} J rv q => ⟨v, H', J.os, J.bare, J.base, J.hok, rv, q⟩
  cases fl with
  | ret u =>
    obtain ⟨v, σ', H', J, rv, q⟩ := hs
    exact fin J rv q
  | next =>
    obtain ⟨σ', H', J, q⟩ := hs
    exact fin (v := V.non) (u := Value.none) J rfl q
  | brk =>
    obtain ⟨_, _, _, q⟩ := hs
    exact False.elim q
  | cont =>
    obtain ⟨_, _, _, q⟩ := hs
    exact False.elim q
end L2
namespace L2
open PySem PySem.Spec PyProof.Rows
section
variable {X : Cx} {x : Str} {p pos : Pos} {e : Expr} {es : List Expr} {t : TA} {id T : String} {r : List V → Hp → VK → Prop}
def tCB (r : List V → Hp → VK → Prop) (t : TA) : TE := fun σ H Q => t σ H fun vs H1 => r vs H1 Q
theorem pe_callB (hc : CallR X (.builtin id) r) (hg : Gl X x) (hm : X.mg x = none) (hv : bootBuiltins x = some (.builtin id)) (ha : PA X (e :: es) t) (hn : x ≠ "__name__" := by decide) (hdb : (x == ("__debug__" : Str)) = false := by decide)
    (he : starEach (e :: es) X.env = (false, eval e X.env) :: starEach es X.env := by rfl) (hpl : (backTo pos (starEach es X.env)).any (·.1) = false := by rfl) : PE X (.Call (.Name x p) (e :: es) [] pos) (tCB r t) := by
  intro pins s σ H Q I h
  refine wpAny_Call_Name_kw (ld_blt I hg hm hv ?_ hn hdb)
  exact PyProof.Rows.callWith_builtin1 (thn (ha pos pins s σ H _ I h) fun us s1 ⟨vs, H1, I1, r1, q1⟩ => hc pins s1 σ H1 vs us Q I1 r1 q1) he hpl
theorem pe_callTy (hc : CallR X (.type T) r) (hg : Gl X x) (hm : X.mg x = none) (hv : bootBuiltins x = some (.type T)) (ha : PA X (e :: es) t) (hn : x ≠ "__name__" := by decide) (hdb : (x == ("__debug__" : Str)) = false := by decide)
    (he : starEach (e :: es) X.env = (false, eval e X.env) :: starEach es X.env := by rfl) (hpl : (backTo pos (starEach es X.env)).any (·.1) = false := by rfl) : PE X (.Call (.Name x p) (e :: es) [] pos) (tCB r t) := by
  intro pins s σ H Q I h
  refine wpAny_Call_Name_kw (ld_blt I hg hm hv ?_ hn hdb)
  exact PyProof.Rows.callWith_type1 (thn (ha pos pins s σ H _ I h) fun us s1 ⟨vs, H1, I1, r1, q1⟩ => hc pins s1 σ H1 vs us Q I1 r1 q1) he hpl
end
end L2
namespace HT
open PySem PyProof.Rows
section
open PySem.SeqAt
open PySem.AutoSeq1 (wpAny_loadPart')
open PySem.MeetsSeq PySem.MeetsSeq2 PySem.MeetsSeq3
end
section
variable {prog : Program} {w : World} {A : Around} {E : Value → Shared → Prop} {s : Shared}
theorem cat_tup {t b : Addr} {vs ws : List Value} {Q : Value → Shared → Prop} (ht : IsTup s.heap t vs.toArray) (hb : IsTup s.heap b ws.toArray) (hv : vs ≠ [])
    (h1 : ws = [] → Q (.ref t) s) (h2 : ws ≠ [] → Q (.ref s.heap.objs.size) { s with heap := s.heap.push { cls := .type "tuple", data := .seq (vs ++ ws).toArray } })
    (hsz : vs.length + ws.length ≤ sizeLine) : wpAny (model prog w) A (binaryOp .Add (.ref t) (.ref b)) Q E s := by
  obtain ⟨⟨cls, dd, data, sl⟩, ho, hc, n, hd⟩ := id ht
  obtain ⟨⟨cls2, dd2, data2, sl2⟩, ho2, hc2, n2, hd2⟩ := id hb
  simp only at hc hd hc2 hd2
  subst hc hd hc2 hd2
  have e : vs.toArray ++ ws.toArray = (vs ++ ws).toArray := by simp
  by_cases hw : ws = []
  · exact concat_meets ⟨_, ho, rfl⟩ ⟨_, ho2, rfl⟩ noFill_tuple_add seq_tuple_add PySem.F.slot_tuple_add PySem.F.entry_tuple_add (PySem.F.args_tuple_add_2 _ _)
      (tuple_addW1 t b vs.toArray ws.toArray n n2 dd dd2 sl sl2 (by simpa using hv) (by simp [hw])) ⟨ho, ho2, h1 hw⟩
  · refine concat_meets ⟨_, ho, rfl⟩ ⟨_, ho2, rfl⟩ noFill_tuple_add seq_tuple_add PySem.F.slot_tuple_add PySem.F.entry_tuple_add (PySem.F.args_tuple_add_2 _ _)
      (tuple_addW2 t b vs.toArray ws.toArray n n2 dd dd2 sl sl2 (by simpa using hv) (by simpa using hw) (by rw [List.size_toArray, List.size_toArray]; exact hsz)) ⟨ho, ho2, ?_⟩
    rw [e]
    exact h2 hw
def sIx (n d : Nat) : Option Int → Nat
  | none => d
  | some v => if v < 0 then (v + (n : Int)).toNat else min v.toNat n
theorem sIx_none (n d : Nat) : sIx n d none = d := rfl
theorem sIx_nat (n d k : Nat) : sIx n d (some (k : Int)) = min k n := by
  show (if (k : Int) < 0 then ((k : Int) + (n : Int)).toNat else min (k : Int).toNat n) = min k n
  rw [if_neg (by omega), Int.toNat_natCast]
theorem sIx_le (n d : Nat) (hd : d ≤ n) (o : Option Int) : sIx n d o ≤ n := by
  cases o with
  | none => exact hd
  | some v =>
    show (if v < 0 then (v + (n : Int)).toNat else min v.toNat n) ≤ n
    by_cases hv : v < 0
    · rw [if_pos hv]; omega
    · rw [if_neg hv]; exact Nat.min_le_right _ _
theorem clip_eq (v : Int) (n d : Nat) : (if v < 0 then max (v + (n : Int)) 0 else min v (n : Int)) = ((sIx n d (some v) : Nat) : Int) := by
  show (if v < 0 then max (v + (n : Int)) 0 else min v (n : Int)) = (((if v < 0 then (v + (n : Int)).toNat else min v.toNat n) : Nat) : Int)
  by_cases hv : v < 0
  · simp only [if_pos hv]; omega
  · simp only [if_neg hv]; omega
theorem adjust_gen (lo hi : Option Int) (n : Nat) : Builtin.Slice.sliceAdjust lo hi 1 (n : Int) = (((sIx n 0 lo : Nat) : Int), ((sIx n n hi : Nat) : Int)) := by
  have h1 : ¬ ((1 : Int) < 0) := by omega
  unfold Builtin.Slice.sliceAdjust
  simp only [h1, if_false]
  refine Prod.ext ?_ ?_
  · cases lo with
    | none => rfl
    | some v => exact clip_eq v n 0
  · cases hi with
    | none => rfl
    | some v => exact clip_eq v n n
theorem places_gen (i j : Nat) : Builtin.Slice.slicePlaces (i : Int) (j : Int) 1 = j - i := by
  unfold Builtin.Slice.slicePlaces
  have h1 : (1 : Int) > 0 := by omega
  simp only [h1, if_true, Int.ediv_one]
  split <;> omega
theorem slicePart_ {v : Value} {o : Option Int} {Q : Option Int → Shared → Prop} (p : IsPart v o) (h : Q o s) : wpAny (model prog w) A (Builtin.Slice.slicePartIndex v) Q E s := by
  cases p with
  | none => exact slicePart_none h
  | int i t => exact slicePart_int h
theorem sliceApplied_gen {sl : Addr} {vl vu : Value} {lo hi : Option Int} {n : Nat} {Q : Int × Int × Nat → Shared → Prop} (hs : s.heap.IsSliceOf sl vl vu .none) (pl : IsPart vl lo) (pu : IsPart vu hi)
    (h : Q (((sIx n 0 lo : Nat) : Int), 1, sIx n n hi - sIx n 0 lo) s) : wpAny (model prog w) A (Builtin.Slice.sliceApplied (.ref sl) (pure (n : Int))) Q E s := by
  obtain ⟨os, hos, hcs, hds⟩ := id hs
  unfold Builtin.Slice.sliceApplied Builtin.Slice.sliceFields
  refine wpAny_bind (wpAny_bind (wpAny_field hos hds (x := vl) rfl (wpAny_bind (wpAny_field hos hds (x := vu) rfl (wpAny_bind (wpAny_field hos hds (x := .none) rfl (wpAny_pure ?_)))))))
  refine wpAny_bind (slicePart_none ?_)
  show wpAny _ _ (if ((1 : Int) == 0) = true then _ else _) _ _ s
  rw [if_neg (by decide)]
  refine wpAny_bind (slicePart_ pl (wpAny_bind (slicePart_ pu (wpAny_bind (wpAny_pure ?_)))))
  show wpAny _ _ (match Builtin.Slice.sliceAdjust lo hi 1 (n : Int) with | (lo, hi) => pure (lo, (1 : Int), Builtin.Slice.slicePlaces lo hi 1)) _ _ s
  rw [adjust_gen lo hi n]
  show wpAny _ _ (pure (((sIx n 0 lo : Nat) : Int), (1 : Int), Builtin.Slice.slicePlaces ((sIx n 0 lo : Nat) : Int) ((sIx n n hi : Nat) : Int) 1)) _ _ s
  rw [places_gen]
  exact wpAny_pure h
theorem pick_gen (xs : Array Value) (i k : Nat) : ((List.range k).filterMap fun (m : Nat) => xs[((i : Int) + (m : Int) * 1).toNat]?).toArray = ((xs.toList.drop i).take k).toArray := by
  have e : (fun (m : Nat) => xs[((i : Int) + (m : Int) * 1).toNat]?) = fun m => xs[i + m]? := by
    funext m
    have : ((i : Int) + (m : Int) * 1).toNat = i + m := by omega
    rw [this]
  rw [e]
  have := pick_run xs i k
  rw [List.filterMap_map] at this
  have e2 : ((fun x => xs[x]?) ∘ fun x => i + x) = fun m => xs[i + m]? := rfl
  rw [e2] at this
  rw [this]
theorem getItem_tuple_cut {t sl : Addr} {items : Array Value} {vl vu : Value} {lo hi : Option Int} {Q : Value → Shared → Prop} (ht : IsTup s.heap t items) (hs : s.heap.IsSliceOf sl vl vu .none) (pl : IsPart vl lo) (pu : IsPart vu hi)
    (hw : ¬ (sIx items.size 0 lo = 0 ∧ sIx items.size items.size hi = items.size))
    (h : Q (.ref s.heap.objs.size) { s with heap := s.heap.push { cls := .type "tuple", data := .seq ((items.toList.drop (sIx items.size 0 lo)).take (sIx items.size items.size hi - sIx items.size 0 lo)).toArray } })
    (hsz : items.size ≤ sizeLine) : wpAny (model prog w) A (getItem (.ref t) (.ref sl)) Q E s := by
  have htake : sizeOk (.seq ((items.toList.drop (sIx items.size 0 lo)).take (sIx items.size items.size hi - sIx items.size 0 lo)).toArray) := by
    show ((items.toList.drop (sIx items.size 0 lo)).take (sIx items.size items.size hi - sIx items.size 0 lo)).toArray.size ≤ sizeLine
    rw [List.size_toArray, List.length_take, List.length_drop, Array.length_toList]
    omega
  have hj : sIx items.size items.size hi ≤ items.size := sIx_le _ _ (Nat.le_refl _) hi
  obtain ⟨os, hos, hcs, hds⟩ := id hs
  have hTs : s.TypeIs (.ref sl) "slice" := ⟨os, hos, hcs⟩
  unfold getItem
  try with_reducible refine wpAny_holding ?_
  first | refine wpAny_bind (wpAny_pure ?_) | skip
  refine wpAny_bind (wpAny_sequenceKey ht.typeIs (by decide) ?_)
  refine wpAny_bind (wpAny_callSpecial?_slot (name := Str.ofString "__getitem__") ht.typeIs PyProof.Rows.slot_tuple_getitem
    (wpAny_call_entry PyProof.Rows.slot_tuple_getitem ht.typeIs entry_tuple_getitem ?_ (args_tuple_getitem _ _)))
  show wpAny _ _ (Builtin.Tuple.tupleItemsOf (.ref t) >>= _) _ _ s
  refine wpAny_bind (tupleItemsOf_ ht ?_)
  refine wpAny_bind (wpAny_typeOf hTs ?_)
  rw [if_pos (by decide)]
  refine wpAny_bind (sliceApplied_gen hs pl pu ?_)
  have hno : ¬ ((((sIx items.size 0 lo : Nat) : Int) == 0 && (1 : Int) == 1 && (sIx items.size items.size hi - sIx items.size 0 lo) == items.size) = true) := by
    intro q
    rw [Bool.and_eq_true, Bool.and_eq_true] at q
    have q1 : ((sIx items.size 0 lo : Nat) : Int) = 0 := eq_of_beq q.1.1
    have q2 : sIx items.size items.size hi - sIx items.size 0 lo = items.size := eq_of_beq q.2
    exact hw ⟨by omega, by omega⟩
  show wpAny _ _ (if (((sIx items.size 0 lo : Nat) : Int) == 0 && (1 : Int) == 1 && (sIx items.size items.size hi - sIx items.size 0 lo) == items.size) = true then _ else _) _ _ s
  rw [if_neg hno, pick_gen]
  first
    | exact wpAny_bind (m := Builtin.Tuple.tupleExact _) (wpAny_newObj_type (wpAny_pure ⟨_, rfl, wpAny_pure h⟩) htake)
    | exact wpAny_bind (m := Builtin.Tuple.tupleExact _) (wpAny_newObj_type (wpAny_bind (wpAny_pure (wpAny_pure ⟨_, rfl, wpAny_pure h⟩))) htake)
    | exact wpAny_bind (wpAny_bind (m := Builtin.Tuple.tupleExact _) (wpAny_newObj_type (wpAny_pure (wpAny_pure ⟨_, rfl, wpAny_pure h⟩)) htake))
    | exact wpAny_bind (wpAny_bind (m := Builtin.Tuple.tupleExact _) (wpAny_newObj_type (wpAny_pure ⟨_, rfl, wpAny_pure h⟩) htake))
end
end HT
namespace L2
open PySem PySem.Spec PyProof.Rows
abbrev TO := St → Hp → (Option Int → Hp → Prop) → Prop
def PO (X : Cx) (e : Option Expr) (t : TO) : Prop :=
  ∀ (pins : List (Addr × Obj)) (s : Shared) (σ : St) (H : Hp) (Q : Option Int → Hp → Prop), Inv X pins σ H s → t σ H Q →
    wpAny (model X.prog X.w) X.A (evalPart e X.env) (fun u s' => ∃ o H', Inv X pins σ H' s' ∧ IsPart u o ∧ Q o H') X.xe s
def tNoPart : TO := fun _ H Q => Q none H
def tPart (t : TE) : TO := fun σ H Q => t σ H fun x H1 => ∃ i, x = .int i ∧ Q (some i) H1
section
variable {X : Cx} {e : Expr} {te : TE} {lo hi : Option Expr} {tl th : TO} {pos p2 : Pos}
theorem po_none : PO X none tNoPart := by
  intro pins s σ H Q I h
  rw [evalPart_none]
  exact wpAny_pure ⟨none, H, I, .none, h⟩
theorem po_some (h : PE X e te) : PO X (some e) (tPart te) := by
  intro pins s σ H Q I hw
  rw [evalPart_some]
  refine thn (h pins s σ H _ I hw) fun u s1 ⟨x, H1, I1, r1, q1⟩ => ?_
  obtain ⟨i, rfl, q⟩ := q1
  obtain ⟨t, rfl⟩ := r1
  exact ⟨some i, H1, I1, .int i t, q⟩
def SlR (X : Cx) (r : V → Option Int → Option Int → Hp → VK → Prop) : Prop :=
  ∀ (pins : List (Addr × Obj)) (s : Shared) (σ : St) (H : Hp) (x : V) (v vl vu : Value) (lo hi : Option Int) (sl : Addr) (Q : VK), Inv X pins σ H s → RelV x v → s.heap.IsSliceOf sl vl vu .none → IsPart vl lo → IsPart vu hi → r x lo hi H Q →
    ∃ T id, typeLookup (.type T) "__getitem__" = pure (some (.builtin id)) ∧ s.TypeIs v T ∧ wpAny (model X.prog X.w) X.A (getItem v (.ref sl)) (EP X pins σ Q) X.xe s
def tSl (r : V → Option Int → Option Int → Hp → VK → Prop) (te : TE) (tl th : TO) : TE := fun σ H Q => te σ H fun x H1 => tl σ H1 fun l H2 => th σ H2 fun u H3 => r x l u H3 Q
theorem pe_slice {r : V → Option Int → Option Int → Hp → VK → Prop} (hr : SlR X r) (he : PE X e te) (hl : PO X lo tl) (hu : PO X hi th) : PE X (.Subscript e (.Slice lo hi none p2) pos) (tSl r te tl th) := by
  intro pins s σ H Q I h
  refine Subscript_ (thn (he pins s σ H _ I h) fun v s1 ⟨x, H1, I1, r1, q1⟩ => ?_)
  refine wpAny_Slice (thn (hl pins s1 σ H1 _ I1 q1) fun vl s2 ⟨l, H2, I2, pl, q2⟩ => thn (hu pins s2 σ H2 _ I2 q2) fun vu s3 ⟨u, H3, I3, pu, q3⟩ => ?_)
  rw [evalPart_none]
  refine wpAny_pure ?_
  have I4 : Inv X pins σ H3 { s3 with heap := s3.heap.push { cls := .type "slice", data := .fields #[vl, vu, .none] } } := I3.kept (t' := s3.toks) fun b ob q => Heap.get?_push_of_some _ q
  obtain ⟨T, id, hT, ht, hg⟩ := hr pins { s3 with heap := s3.heap.push { cls := .type "slice", data := .fields #[vl, vu, .none] } } σ H3 x v vl vu l u s3.heap.objs.size Q I4 r1 (Heap.IsSliceOf.new ..) pl pu q3
  show wpAny (model X.prog X.w) X.A (subscriptTail e (.Slice lo hi none p2) v (.ref s3.heap.objs.size)) (EP X pins σ Q) X.xe { s3 with heap := s3.heap.push { cls := .type "slice", data := .fields #[vl, vu, .none] } }
  exact tail_any (ops := [.ref s3.heap.objs.size, v]) ht hT hg (by with_unfolding_all rfl)
def cutV (xs : List V) (lo hi : Option Int) : List V := (xs.drop (HT.sIx xs.length 0 lo)).take (HT.sIx xs.length xs.length hi - HT.sIx xs.length 0 lo)
theorem cutV_length (xs : List V) (lo hi : Option Int) : (cutV xs lo hi).length ≤ xs.length := by
  unfold cutV
  rw [List.length_take, List.length_drop]
  omega
def rSlT (K : PySem.W.Frag) : V → Option Int → Option Int → Hp → VK → Prop := fun x lo hi H Q => ∃ a xs, x = .ref a ∧ SqT K H a xs ∧
  ¬ (HT.sIx xs.length 0 lo = 0 ∧ HT.sIx xs.length xs.length hi = xs.length) ∧ ∀ p, H p = none → Q (.ref p) (upd H p (.tup (cutV xs lo hi)))
theorem sl_tup : SlR X (rSlT X.K) := by
  intro pins s σ H x v vl vu lo hi sl Q I rx hs pl pu h
  obtain ⟨a, xs, rfl, hx, hw, q⟩ := h
  cases rx
  obtain ⟨its, r, ht, hz⟩ := I.tuple hx
  have hlen : its.toArray.size = xs.length := by rw [List.size_toArray]; exact r.length.symm
  refine ⟨"tuple", _, PyProof.Rows.slot_tuple_getitem.lookup, ht.typeIs, ?_⟩
  refine HT.getItem_tuple_cut ht hs pl pu (by rw [hlen]; exact hw) ?_ (by rw [hlen]; exact hz)
  rw [hlen]
  refine ⟨.ref s.heap.objs.size, _, I.laid (t' := s.toks) (o := .tup (cutV xs lo hi)) (fun b ob q => Heap.get?_push_of_some _ q) (Nat.le_refl _) ?_, rfl, q _ (I.hok.fresh (Nat.le_refl _))⟩
  exact ⟨Nat.le_trans (cutV_length xs lo hi) hz, _, (r.drop (HT.sIx xs.length 0 lo)).take (HT.sIx xs.length xs.length hi - HT.sIx xs.length 0 lo), IsTupN.new _ _⟩
def rCatT (K : PySem.W.Frag) : R2 := fun x y H Q => ∃ a b xs ys, x = .ref a ∧ y = .ref b ∧ SqT K H a xs ∧ SqT K H b ys ∧ xs ≠ [] ∧ xs.length + ys.length ≤ sizeLine ∧
  (ys = [] → Q (.ref a) H) ∧ (ys ≠ [] → ∀ p, H p = none → Q (.ref p) (upd H p (.tup (xs ++ ys))))
theorem Vals.nil_iff {xs : List V} {us : List Value} (r : Vals xs us) : us = [] ↔ xs = [] := by
  cases r with
  | nil => simp
  | cons _ _ => simp
theorem op_catT : OpR X (binaryOp .Add) (rCatT X.K) := by
  intro pins s σ H x y v u Q I rx ry h
  obtain ⟨a, b, xs, ys, rfl, rfl, ha, hb, hx, hz, q1, q2⟩ := h
  cases rx
  cases ry
  obtain ⟨its, r1, p1, _⟩ := I.tuple ha
  obtain ⟨its2, r2, p2, _⟩ := I.tuple hb
  refine HT.cat_tup p1 p2 (fun z => hx (r1.nil_iff.mp z)) (fun z => ⟨.ref a, H, I, rfl, q1 (r2.nil_iff.mp z)⟩) (fun z => ?_) (by rw [← r1.length, ← r2.length]; exact hz)
  refine ⟨.ref s.heap.objs.size, _, I.laid (t' := s.toks) (o := .tup (xs ++ ys)) (fun b ob q => Heap.get?_push_of_some _ q) (Nat.le_refl _) ?_, rfl, q2 (fun w => z (r2.nil_iff.mpr w)) _ (I.hok.fresh (Nat.le_refl _))⟩
  exact ⟨by rw [List.length_append]; exact hz, _, r1.append r2, IsTupN.new _ _⟩
end
end L2
namespace L2
open PySem PySem.Spec PyProof.Rows
def ixN (n : Nat) (i : Int) : Option Nat := if 0 ≤ i then (if i < n then some i.toNat else none) else if -(n : Int) ≤ i then some (i + n).toNat else none
def atI {α : Type} (xs : List α) (i : Int) : Option α := (ixN xs.length i).bind fun j => xs[j]?
theorem ixN_seq {n : Nat} {i : Int} {j : Nat} (h : ixN n i = some j) : seqIndex? i n = some j ∧ j < n ∧ -(n : Int) ≤ i ∧ i < n := by
  unfold ixN at h
  by_cases h0 : 0 ≤ i
  · rw [if_pos h0] at h
    by_cases h1 : i < n
    · rw [if_pos h1] at h
      have e : i.toNat = j := Option.some.inj h
      exact ⟨by rw [seqIndex_of h0 h1, e], by omega, by omega, h1⟩
    · rw [if_neg h1] at h; cases h
  · rw [if_neg h0] at h
    by_cases h1 : -(n : Int) ≤ i
    · rw [if_pos h1] at h
      have e : (i + n).toNat = j := Option.some.inj h
      exact ⟨by rw [seqIndex_neg (by omega) h1, e], by omega, h1, by omega⟩
    · rw [if_neg h1] at h; cases h
theorem atI_get {α : Type} {xs : List α} {i : Int} {v : α} (h : atI xs i = some v) : ∃ j, seqIndex? i xs.length = some j ∧ xs[j]? = some v ∧ j < xs.length ∧ -(xs.length : Int) ≤ i ∧ i < xs.length := by
  unfold atI at h
  cases e : ixN xs.length i with
  | none => rw [e] at h; cases h
  | some j =>
    rw [e] at h
    obtain ⟨h1, h2, h3, h4⟩ := ixN_seq e
    exact ⟨j, h1, h, h2, h3, h4⟩
theorem atI_nat {α : Type} {xs : List α} {j : Nat} {v : α} (h : xs[j]? = some v) : atI xs (j : Int) = some v := by
  have hj : j < xs.length := (List.getElem?_eq_some_iff.mp h).1
  have e : ixN xs.length (j : Int) = some j := by
    unfold ixN
    rw [if_pos (by omega), if_pos (by omega)]; simp
  unfold atI; rw [e]; exact h
def PlainIx (b : Expr) : Prop := ∀ o i, subscripted b false o i = operate [o, i] (getItem o i)
def IxR (X : Cx) (r : R2) : Prop :=
  ∀ (value slice : Expr) (pins : List (Addr × Obj)) (s : Shared) (σ : St) (H : Hp) (x y : V) (v u : Value) (Q : VK), Inv X pins σ H s → RelV x v → RelV y u → r x y H Q →
    subscripted slice false v u = operate [v, u] (getItem v u) → wpAny (model X.prog X.w) X.A (subscriptTail value slice v u) (EP X pins σ Q) X.xe s
def MtR (X : Cx) (id : String) (r : V → List V → Hp → VK → Prop) : Prop :=
  ∀ (pins : List (Addr × Obj)) (s : Shared) (σ : St) (H : Hp) (x : V) (xs : List V) (v : Value) (us : List Value) (Q : VK), Inv X pins σ H s → RelV x v → Vals xs us → r x xs H Q →
    wpAny (model X.prog X.w) X.A (call (.builtin id) (v :: us)) (EP X pins σ Q) X.xe s
section
variable {X : Cx} {a b : Expr} {ta tb : TE} {pos : Pos}
theorem pe_ix {r : R2} (hr : IxR X r) (ha : PE X a ta) (hb : PE X b tb) (hs : PlainIx b) : PE X (.Subscript a b pos) (tOp r ta tb) := by
  intro pins s σ H Q I h
  exact Subscript_ (binT ha hb I h fun v u s2 x y H2 I2 rx ry q => hr a b pins s2 σ H2 x y v u Q I2 rx ry q (hs _ _))
def rIxL (K : PySem.W.Frag) : R2 := fun x y H Q => ∃ p xs i v, x = .ref p ∧ y = .int i ∧ SqL K H p xs ∧ atI xs i = some v ∧ Q v H
def rIxT (K : PySem.W.Frag) : R2 := fun x y H Q => ∃ p xs i v, x = .ref p ∧ y = .int i ∧ SqT K H p xs ∧ atI xs i = some v ∧ Q v H
def rIxS : R2 := fun x y H Q => ∃ z i c, x = .str z ∧ y = .int i ∧ z.length ≤ sizeLine ∧ atI z.cps.toList i = some c ∧ Q (.str ⟨#[c]⟩) H
theorem ix_list : IxR X (rIxL X.K) := by
  intro value slice pins s σ H x y v u Q I rx ry h hs
  obtain ⟨p, xs, i, z, rfl, rfl, hq, he, q⟩ := h
  cases rx
  obtain ⟨t, rfl⟩ := ry
  obtain ⟨its, r, pl, hz⟩ := I.list hq
  obtain ⟨j, h1, h2, h3, h4, h5⟩ := atI_get he
  obtain ⟨w, ew, rw'⟩ := r.get h2
  have hl := r.length
  have hn := line63
  have fin : EP X pins σ Q w s := ⟨z, H, I, rw', q⟩
  by_cases h0 : 0 ≤ i
  · have hj : i.toNat = j := by
      rw [seqIndex_of h0 h5] at h1
      exact Option.some.inj h1
    exact item_listR pl.isList h0 (by omega) (by rw [hj]; simpa using ew) fin hs
  · have hj : (i + (its.toArray.size : Int)).toNat = j := by
      rw [seqIndex_neg (by omega) h4] at h1
      rw [List.size_toArray, ← hl]
      exact Option.some.inj h1
    exact subscriptTail_builtinR (x := w) pl.isList.typeIs slot_list_getitem.lookup
      (wpAny_getItem_list_neg (Q := fun r s' => r = w ∧ EP X pins σ Q r s') pl.isList (by omega) (by rw [List.size_toArray] <;> omega) (by omega) (by rw [hj]; simpa using ew) ⟨rfl, fin⟩) hs
theorem ix_tup : IxR X (rIxT X.K) := by
  intro value slice pins s σ H x y v u Q I rx ry h hs
  obtain ⟨p, xs, i, z, rfl, rfl, hq, he, q⟩ := h
  cases rx
  obtain ⟨t, rfl⟩ := ry
  obtain ⟨its, r, pl, hz⟩ := I.tuple hq
  obtain ⟨j, h1, h2, h3, h4, h5⟩ := atI_get he
  obtain ⟨w, ew, rw'⟩ := r.get h2
  have hl := r.length
  have hn := line63
  have fin : EP X pins σ Q w s := ⟨z, H, I, rw', q⟩
  exact subscriptTail_builtinR (x := w) pl.typeIs slot_tuple_getitem.lookup
    (getItem_tuple (j := j) (Q := fun r s' => r = w ∧ EP X pins σ Q r s') pl (by omega) (by omega) (by rw [List.size_toArray, ← hl]; exact h1) (by simpa using ew) ⟨rfl, fin⟩) hs
theorem ix_str : IxR X rIxS := by
  intro value slice pins s σ H x y v u Q I rx ry h hs
  obtain ⟨z, i, c, rfl, rfl, hz, he, q⟩ := h
  obtain ⟨t, rfl⟩ := rx
  obtain ⟨t', rfl⟩ := ry
  obtain ⟨j, h1, h2, h3, h4, h5⟩ := atI_get he
  have hl : z.cps.toList.length = z.length := by simp [Str.length]
  rw [hl] at h1 h4 h5
  have hn := line63
  exact tail_any (typeIs_str s z t) slot_str_getitem.lookup (getItem_str (c := c) (by
    have e1 : decide (i < -(2 ^ 63 : Int)) = false := decide_eq_false (by omega)
    have e2 : decide (i ≥ 2 ^ 63) = false := decide_eq_false (by omega)
    rw [e1, e2, Bool.or_false]) (by rw [h1]; simpa using h2) ⟨.str ⟨#[c]⟩, H, I.tok _, ⟨_, rfl⟩, q⟩) hs
theorem mapSeq_set (its : List Value) (n j : Nat) (u : Value) : Obj.mapSeq (·.setIfInBounds j u) { cls := .type "list", data := .seq its.toArray n } = { cls := .type "list", data := .seq (its.set j u).toArray n } := by
  simp [Obj.mapSeq]
theorem Inv.lst {pins : List (Addr × Obj)} {σ : St} {H : Hp} {s : Shared} {p : Addr} {xs : List V} (I : Inv X pins σ H s) (h : H p = some (.lst xs)) :
    ∃ (its : List Value) (n : Nat), Vals xs its ∧ s.heap.get? p = some { cls := .type "list", data := .seq its.toArray n } ∧ xs.length ≤ sizeLine := by
  obtain ⟨z, its, n, r, e⟩ := I.hok p _ h
  exact ⟨its, n, r, e, z⟩
theorem Inv.lstUpd {pins : List (Addr × Obj)} {σ : St} {H : Hp} {s : Shared} {p : Addr} {xs ys : List V} {its its' : List Value} {n n' : Nat} {f : Obj → Obj} (I : Inv X pins σ H s) (h : H p = some (.lst xs))
    (ho : s.heap.get? p = some { cls := .type "list", data := .seq its.toArray n }) (hf : f { cls := .type "list", data := .seq its.toArray n } = { cls := .type "list", data := .seq its'.toArray n' }) (r : Vals ys its') (hz : ys.length ≤ sizeLine) (t : Nat) :
    Inv X pins σ (upd H p (.lst ys)) { s with heap := s.heap.update p f, toks := t } := by
  have e : (s.heap.update p f).get? p = some { cls := .type "list", data := .seq its'.toArray n' } := by
    rw [Heap.get?_update_self f ho (by rw [hf] <;> rfl), hf]
  refine I.write (x := p) (e := p) (by rw [h]; trivial) (.inl rfl) (fun b u hb q => (Heap.get?_update_other _ _ (Ne.symm hb)).trans q) ⟨_, e⟩ ?_
  exact ⟨hz, its', n', r, e⟩
def rSetL : V → V → V → Hp → (Hp → Prop) → Prop := fun o i v H Q => ∃ p xs k j, o = .ref p ∧ i = .int k ∧ H p = some (.lst xs) ∧ ixN xs.length k = some j ∧ Q (upd H p (.lst (xs.set j v)))
theorem set_list : PSet X rSetL := by
  intro pins s σ H o i v ov iv u Q I ro ri rv h
  obtain ⟨p, xs, k, j, rfl, rfl, hp, hj, q⟩ := h
  cases ro
  obtain ⟨t, rfl⟩ := ri
  obtain ⟨its, n, r, ho, hz⟩ := I.lst hp
  obtain ⟨h1, h2, h3, h4⟩ := ixN_seq hj
  have hl := r.length
  have hn := line63
  have I' : Inv X pins σ (upd H p (.lst (xs.set j v))) { s with heap := s.heap.update p (Obj.mapSeq (·.setIfInBounds j u)) } :=
    I.lstUpd hp ho (mapSeq_set its n j u) (r.set rv j) (by rw [List.length_set]; exact hz) s.toks
  by_cases h0 : 0 ≤ k
  · have hk : k.toNat = j := by
      rw [seqIndex_of h0 h4] at h1
      exact Option.some.inj h1
    exact PySem.W.ki_setAt ho h0 (by omega) (by rw [List.size_toArray, ← hl]; exact h4) (by rw [hk]; exact ⟨_, I', q⟩)
  · have hk : (k + (its.toArray.size : Int)).toNat = j := by
      rw [seqIndex_neg (by omega) h3] at h1
      rw [List.size_toArray, ← hl]
      exact Option.some.inj h1
    exact PySem.W.ki_setBack ho (by omega) (by rw [List.size_toArray, ← hl]; exact h3) (by omega) (by rw [hk]; exact ⟨_, I', q⟩)
theorem slice_bounds (lo hi : Option Int) (n : Nat) : (sliceBounds lo hi none n).1 = ((HT.sIx n 0 lo : Nat) : Int) ∧ (sliceBounds lo hi none n).2.1 = ((HT.sIx n n hi : Nat) : Int) ∧ (sliceBounds lo hi none n).2.2 = 1 := by
  refine ⟨?_, ?_, rfl⟩
  · cases lo with
    | none => simp [sliceBounds, HT.sIx]
    | some i =>
      simp only [sliceBounds, HT.sIx, Option.getD_none, show (1 : Int) > 0 by decide, if_true]
      by_cases h : i < 0
      · simp only [h, if_true] <;> omega
      · simp only [h, if_false] <;> omega
  · cases hi with
    | none => simp [sliceBounds, HT.sIx]
    | some i =>
      simp only [sliceBounds, HT.sIx, Option.getD_none, show (1 : Int) > 0 by decide, if_true]
      by_cases h : i < 0
      · simp only [h, if_true] <;> omega
      · simp only [h, if_false] <;> omega
theorem slicePick_cut (its : List Value) (lo hi : Option Int) : slicePick its.toArray lo hi none = ((its.drop (HT.sIx its.length 0 lo)).take (HT.sIx its.length its.length hi - HT.sIx its.length 0 lo)).toArray := by
  obtain ⟨h1, h2, h3⟩ := slice_bounds lo hi its.toArray.size
  unfold slicePick
  rw [h1, h2, h3]
  simp only [sliceRange_one, pick_run, List.size_toArray] <;> rfl
def rSlL (K : PySem.W.Frag) : V → Option Int → Option Int → Hp → VK → Prop := fun x lo hi H Q => ∃ a xs, x = .ref a ∧ SqL K H a xs ∧ ∀ p, H p = none → Q (.ref p) (upd H p (.lst (cutV xs lo hi)))
theorem sl_list : SlR X (rSlL X.K) := by
  intro pins s σ H x v vl vu lo hi sl Q I rx hs pl pu h
  obtain ⟨a, xs, rfl, hx, q⟩ := h
  cases rx
  obtain ⟨its, r, ht, hz⟩ := I.list hx
  have hlen := r.length
  refine ⟨"list", _, slot_list_getitem.lookup, ht.isList.typeIs, ?_⟩
  refine wpAny_getItem_list_slice ht.isList hs pl pu .none (by simp) ?_ (by rw [List.size_toArray] <;> omega)
  rw [slicePick_cut, ← hlen]
  refine ⟨.ref s.heap.objs.size, _, I.laid (t' := s.toks) (o := .lst (cutV xs lo hi)) (fun b ob q => Heap.get?_push_of_some _ q) (Nat.le_refl _) ?_, rfl, q _ (I.hok.fresh (Nat.le_refl _))⟩
  exact ⟨Nat.le_trans (cutV_length xs lo hi) hz, _, 0, (r.drop (HT.sIx xs.length 0 lo)).take (HT.sIx xs.length xs.length hi - HT.sIx xs.length 0 lo), Heap.get?_push_size _ rfl⟩
def flatV : V → Bool
  | .non => true
  | .bl _ => true
  | .int _ => true
  | .str _ => true
  | _ => false
def eqV : V → V → Bool
  | .non, .non => true
  | .bl a, .bl b => a == b
  | .bl a, .int b => (if a then 1 else 0) == b
  | .int a, .bl b => a == (if b then 1 else 0)
  | .int a, .int b => a == b
  | .str a, .str b => a == b
  | _, _ => false
theorem eqAt_V {A : Around} {s : Shared} {y x : V} {u v : Value} (ry : RelV y u) (rx : RelV x v) (fy : flatV y = true) (fx : flatV x = true) : SeqAt.EqAt A s u v (eqV y x) := by
  cases y with
  | non =>
    cases ry
    cases x with
    | non => cases rx; exact SeqAt.EqAt.same _
    | bl b => cases rx; exact SeqAt.EqAt.none_bool b
    | int b => obtain ⟨t, rfl⟩ := rx; exact SeqAt.EqAt.none_int b t
    | str b => obtain ⟨t, rfl⟩ := rx; exact SeqAt.EqAt.none_str b t
    | _ => exact absurd (show false = true from fx) Bool.false_ne_true
  | bl a =>
    cases ry
    cases x with
    | non => cases rx; exact SeqAt.EqAt.bool_none a
    | bl b => cases rx; exact SeqAt.EqAt.bool_bool a b
    | int b => obtain ⟨t, rfl⟩ := rx; exact SeqAt.EqAt.bool_int a b t
    | str b => obtain ⟨t, rfl⟩ := rx; exact SeqAt.EqAt.bool_str a b t
    | _ => exact absurd (show false = true from fx) Bool.false_ne_true
  | int a =>
    obtain ⟨t', rfl⟩ := ry
    cases x with
    | non => cases rx; exact SeqAt.EqAt.int_none a t'
    | bl b => cases rx; exact SeqAt.EqAt.int_bool a t' b
    | int b => obtain ⟨t, rfl⟩ := rx; exact SeqAt.EqAt.int_int a t' b t
    | str b => obtain ⟨t, rfl⟩ := rx; exact SeqAt.EqAt.int_str a t' b t
    | _ => exact absurd (show false = true from fx) Bool.false_ne_true
  | str a =>
    obtain ⟨t', rfl⟩ := ry
    cases x with
    | non => cases rx; exact SeqAt.EqAt.str_none a t'
    | bl b => cases rx; exact SeqAt.EqAt.str_bool a t' b
    | int b => obtain ⟨t, rfl⟩ := rx; exact SeqAt.EqAt.str_int a t' b t
    | str b => obtain ⟨t, rfl⟩ := rx; exact SeqAt.EqAt.str_str a t' b t
    | _ => exact absurd (show false = true from fx) Bool.false_ne_true
  | _ => exact absurd (show false = true from fy) Bool.false_ne_true
def eqU (x : V) (u : Value) : Bool := match u with
  | .none => eqV .non x
  | .bool b => eqV (.bl b) x
  | .int i _ => eqV (.int i) x
  | .str z _ => eqV (.str z) x
  | _ => false
theorem eqU_of {x y : V} {u : Value} (r : RelV y u) (f : flatV y = true) : eqU x u = eqV y x := by
  cases y with
  | non => cases r; rfl
  | bl b => cases r; rfl
  | int i => obtain ⟨t, rfl⟩ := r; rfl
  | str z => obtain ⟨t, rfl⟩ := r; rfl
  | _ => exact absurd (show false = true from f) Bool.false_ne_true
theorem any_eqU {x : V} : ∀ {xs : List V} {us : List Value}, Vals xs us → xs.all flatV = true → us.any (eqU x) = xs.any fun y => eqV y x
  | _, _, .nil, _ => rfl
  | y :: xs, u :: us, .cons r t, f => by
    rw [List.all_cons, Bool.and_eq_true] at f
    rw [List.any_cons, List.any_cons, eqU_of r f.1, any_eqU t f.2]
theorem mem_eqAt {A : Around} {s : Shared} {x : V} {v : Value} (rx : RelV x v) (fx : flatV x = true) : ∀ {xs : List V} {us : List Value}, Vals xs us → xs.all flatV = true → ∀ u ∈ us, SeqAt.EqAt A s u v (eqU x u)
  | _, _, .nil, _ => fun u hu => by cases hu
  | y :: xs, u :: us, .cons r t, f => fun u' hu => by
    rw [List.all_cons, Bool.and_eq_true] at f
    rcases List.mem_cons.mp hu with rfl | hu
    · rw [eqU_of r f.1]; exact eqAt_V r rx f.1 fx
    · exact mem_eqAt rx fx t f.2 u' hu
def inV (x : V) (xs : List V) : Bool := xs.any fun y => eqV y x
def rIn (K : PySem.W.Frag) (neg : Bool) : R2 := fun x y H Q => ∃ p xs, y = .ref p ∧ (SqL K H p xs ∨ SqT K H p xs) ∧ flatV x = true ∧ xs.all flatV = true ∧ Q (.bl (if neg then !inV x xs else inV x xs)) H
theorem op_in_seq : OpR X (compareOp .In) (rIn X.K false) := by
  intro pins s σ H x y v u Q I rx ry h
  obtain ⟨p, xs, rfl, hq, fx, fs, q⟩ := h
  cases ry
  rcases hq with hq | hq
  · obtain ⟨its, r, pl, hz⟩ := I.list hq
    refine SeqAt.in_listAt (eqU x) pl.isList (fun w hw => mem_eqAt rx fx r fs w (by simpa using hw)) ⟨.bl _, H, I, rfl, ?_⟩
    rw [show its.toArray.any (eqU x) = its.any (eqU x) by simp, any_eqU r fs]
    exact q
  · obtain ⟨its, r, pl, hz⟩ := I.tuple hq
    refine SeqAt.in_tupleAt (eqU x) pl (fun w hw => mem_eqAt rx fx r fs w (by simpa using hw)) ⟨.bl _, H, I, rfl, ?_⟩
    rw [show its.toArray.any (eqU x) = its.any (eqU x) by simp, any_eqU r fs]
    exact q
theorem call_tuple_of : CallR X (.type "tuple") (fun xs H Q => ∃ p ys, xs = [.ref p] ∧ ((SqL X.K H p ys ∧ ∀ l, H l = none → Q (.ref l) (upd H l (.tup ys))) ∨ (SqT X.K H p ys ∧ Q (.ref p) H))) := by
  intro pins s σ H xs us Q I r h
  obtain ⟨p, ys, rfl, h⟩ := h
  obtain ⟨u, rfl, rx⟩ := vals1 r
  cases rx
  rcases h with ⟨hq, q⟩ | ⟨hq, q⟩
  · obtain ⟨its, r', pl, hz⟩ := I.list hq
    have hlen := r'.length
    refine call_tuple_list pl.isList (fun h' kp => ?_) (by simp only [List.size_toArray] <;> omega)
    have I1 : Inv X pins σ H { s with heap := h' } := I.kept (t' := s.toks) kp
    have I2 : Inv X pins σ (upd H h'.objs.size (.tup ys)) { s with heap := h'.push { cls := .type "tuple", data := .seq its.toArray } } :=
      I1.laid (t' := s.toks) (fun b o e => Heap.get?_push_of_some _ e) (Nat.le_refl _) (show ObjOk X.prog X.w _ _ _ (.tup ys) from ⟨hz, its, r', IsTupN.new _ _⟩)
    exact ⟨.ref h'.objs.size, _, I2, rfl, q _ (I1.hok.fresh (Nat.le_refl _))⟩
  · obtain ⟨its, r', pl, hz⟩ := I.tuple hq
    exact call_tuple_same pl ⟨.ref p, H, I, rfl, q⟩
def tyV (K : PySem.W.Frag) (T : String) (x : V) (H : Hp) : Prop := match x with
  | .str _ => T = "str"
  | .int _ => T = "int"
  | .ref p => (T = "list" ∧ ∃ xs, SqL K H p xs) ∨ (T = "tuple" ∧ ∃ o, K.lookup p = some o ∧ o.cls = .type "tuple" ∧ o.dict = none) ∨
      (T = "dict" ∧ ((∃ kvs, H p = some (.dK kvs)) ∨ ∃ kvs, H p = some (.dT kvs))) ∨ (T = "set" ∧ ∃ S n, H p = some (.set S n))
  | _ => False
theorem tyV_is {pins : List (Addr × Obj)} {σ : St} {H : Hp} {s : Shared} {T : String} {x : V} {v : Value} (I : Inv X pins σ H s) (r : RelV x v) (ty : tyV X.K T x H) :
    s.TypeIs v T ∧ ∀ a, v = .ref a → ∃ ob, s.heap.get? a = some ob ∧ ob.dict = none := by
  cases x with
  | str z =>
    obtain ⟨t, rfl⟩ := r
    cases (show T = "str" from ty)
    exact ⟨typeIs_str s z t, fun _ e => nomatch e⟩
  | int i =>
    obtain ⟨t, rfl⟩ := r
    cases (show T = "int" from ty)
    exact ⟨typeIs_int s i t, fun _ e => nomatch e⟩
  | ref p =>
    cases r
    rcases ty with ⟨rfl, xs, hq⟩ | ⟨rfl, o, hk, hc, hd⟩ | ⟨rfl, hk⟩ | ⟨rfl, S, n, hk⟩
    · obtain ⟨its, _, pl, _⟩ := I.list hq
      refine ⟨pl.isList.typeIs, fun a e => ?_⟩
      cases e
      obtain ⟨o, n, e, c, hd, _⟩ := pl
      exact ⟨o, e, hd⟩
    · refine ⟨⟨o, I.kIn p o hk, hc⟩, fun a e => ?_⟩
      cases e
      exact ⟨o, I.kIn _ o hk, hd⟩
    · have z : ∃ o, s.heap.get? p = some o ∧ o.ExactDict := by
        rcases hk with ⟨kvs, hk⟩ | ⟨kvs, hk⟩
        · obtain ⟨_, _, _, _, o, _, _, e, ex, _⟩ := I.hok p _ hk
          exact ⟨o, e, ex⟩
        · exact False.elim (I.hok p _ hk)
      obtain ⟨o, e, ex⟩ := z
      refine ⟨⟨o, e, ex.1⟩, fun a e2 => ?_⟩
      cases e2
      exact ⟨o, e, ex.2.1⟩
    · obtain ⟨o, _, _, _, e, ex, _⟩ := I.hok p _ hk
      refine ⟨⟨o, e, ex.1⟩, fun a e2 => ?_⟩
      cases e2
      exact ⟨o, e, ex.2.1⟩
  | _ => exact False.elim ty
def tBM (K : PySem.W.Frag) (T : String) (r : V → List V → Hp → VK → Prop) (to : TE) (t : TA) : TE := fun σ H Q => to σ H fun x H1 => tyV K T x H1 ∧ t σ H1 fun xs H2 => r x xs H2 Q
variable {o e : Expr} {es : List Expr} {to : TE} {t : TA} {name : Str} {apos cpos : Pos} {T id : String} {r : V → List V → Hp → VK → Prop}
theorem pe_bm (pa : PlainAttrs T) (slot : Slot T name id) (hty : typeOf (.builtin id) = pure (.type "method_descriptor")) (hm : MtR X id r) (ho : PE X o to) (ha : PA X (e :: es) t)
    (hbase : attributeBase o name X.env (eval o X.env) = eval o X.env := by rfl)
    (hfew : ((backTo cpos (starEach (e :: es) X.env)).all (fun x => !x.1) && (backToKw cpos (keywordEach [] X.env)).all (fun x => x.1.isSome)
      && decide ((e :: es).length + ([] : List Keyword).length + (if ([] : List Keyword).isEmpty then 0 else 1) < 30)) = true := by rfl)
    (hline : (apos.endLine == cpos.line) = true := by rfl) (hs : starEach (e :: es) X.env = (false, eval e X.env) :: starEach es X.env := by rfl) (hplain : (backTo cpos (starEach es X.env)).any (·.1) = false := by rfl) :
    PE X (.Call (.Attribute o name apos) (e :: es) [] cpos) (tBM X.K T r to t) := by
  intro pins s σ H Q I h
  refine wpAny_Call_method_late hbase hfew hline rfl (thn (ho pins s σ H _ I h) fun v s1 ⟨x, H1, I1, r1, ty, q1⟩ => ?_)
  obtain ⟨h1, h2⟩ := tyV_is I1 r1 ty
  refine ⟨T, id, pa, slot, hty, h1, h2, ?_⟩
  have hA := ha cpos pins s1 σ H1 _ I1 q1
  rw [hs] at hA ⊢
  refine Calls.callWith_builtin (by show (false || (backTo cpos (starEach es X.env)).any (·.1)) = false; rw [hplain] <;> rfl) (Calls.evalArgs_plain ?_)
  exact thn hA fun us s2 ⟨vs, H2, I2, r2, q2⟩ => hm pins s2 σ H2 x vs v us Q I2 r1 r2 q2
end
end L2
namespace L2
open PySem PySem.Spec PyProof.Rows
def MtM (X : Cx) (id : String) (r : V → List V → Hp → VK → Prop) : Prop :=
  ∀ (pins : List (Addr × Obj)) (s : Shared) (σ : St) (H : Hp) (x : V) (xs : List V) (v : Value) (us : List Value) (Q : VK), Inv X pins σ H s → RelV x v → Vals xs us → r x xs H Q →
    wpAny (model X.prog X.w) X.A (call (.builtin id) (v :: us)) (EP X pins σ Q) X.xe s
theorem Vals.one : ∀ {x : V} {us : List Value}, Vals [x] us → ∃ u, us = [u] ∧ RelV x u
  | _, _, .cons r .nil => ⟨_, rfl, r⟩
theorem Vals.two : ∀ {x y : V} {us : List Value}, Vals [x, y] us → ∃ u v, us = [u, v] ∧ RelV x u ∧ RelV y v
  | _, _, _, .cons r (.cons q .nil) => ⟨_, _, rfl, r, q⟩
theorem Vals.eraseIdx : ∀ {xs : List V} {us : List Value} (i : Nat), Vals xs us → Vals (xs.eraseIdx i) (us.eraseIdx i)
  | _, _, _, .nil => .nil
  | _, _, 0, .cons _ t => t
  | _, _, i + 1, .cons r t => .cons r (Vals.eraseIdx i t)
theorem len_erase {α : Type} : ∀ (l : List α) (i : Nat), (l.eraseIdx i).length ≤ l.length
  | [], _ => Nat.le_refl _
  | _ :: _, 0 => Nat.le_succ _
  | _ :: r, i + 1 => Nat.succ_le_succ (len_erase r i)
section
variable {X : Cx} {pins : List (Addr × Obj)} {σ : St} {H : Hp} {s : Shared} {l b : Addr} {xs ys zs : List V}
theorem Inv.lset {its its' : List Value} {n : Nat} {f : Array Value → Array Value} {t' : Nat} (I : Inv X pins σ H s) (hH : H l = some (.lst xs))
    (e : s.heap.get? l = some { cls := .type "list", data := .seq its.toArray n }) (hf : f its.toArray = its'.toArray) (hv : Vals ys its') (hz : ys.length ≤ sizeLine) :
    Inv X pins σ (upd H l (.lst ys)) { s with heap := s.heap.update l (Obj.mapSeq f), toks := t' } := by
  have q := PySem.IsL.update e f
  rw [hf] at q
  refine I.write (x := l) (e := l) (by rw [hH]; exact trivial) (.inl rfl) (fun b' u hb hu => (Heap.get?_update_other s.heap (Obj.mapSeq f) (Ne.symm hb)).trans hu) ⟨_, q⟩ ?_
  exact ⟨hz, its', _, hv, q⟩
theorem Inv.lnew {its : List Value} {t' : Nat} (I : Inv X pins σ H s) (hv : Vals ys its) (hz : ys.length ≤ sizeLine) :
    Inv X pins σ (upd H s.heap.objs.size (.lst ys)) { s with heap := s.heap.push { cls := .type "list", data := .seq its.toArray }, toks := t' } :=
  I.laid (fun _ _ q => Heap.get?_push_of_some _ q) (Nat.le_refl _) ⟨hz, its, 0, hv, Heap.get?_push_size _ rfl⟩
theorem Inv.fresh (I : Inv X pins σ H s) : H s.heap.objs.size = none := I.hok.fresh (Nat.le_refl _)
theorem Inv.lstM (I : Inv X pins σ H s) (hH : H l = some (.lst xs)) : xs.length ≤ sizeLine ∧ ∃ (its : List Value) (n : Nat), Vals xs its ∧ xs.length = its.length ∧ s.heap.get? l = some { cls := .type "list", data := .seq its.toArray n } := by
  obtain ⟨z, its, n, r, e⟩ := I.hok l _ hH
  exact ⟨z, its, n, r, r.length, e⟩
end
section
variable {X : Cx}
def rAppend : V → List V → Hp → VK → Prop := fun x vs H Q => ∃ l xs y, x = .ref l ∧ vs = [y] ∧ H l = some (.lst xs) ∧ xs.length < sizeLine ∧ Q .non (upd H l (.lst (xs ++ [y])))
theorem mt_append : MtM X "list.append" rAppend := by
  intro pins s σ H x vs v us Q I rx rv h
  obtain ⟨l, xs, y, rfl, rfl, hH, hz, q⟩ := h
  cases rx
  obtain ⟨u, rfl, ru⟩ := rv.one
  obtain ⟨z, its, n, r, hl, e⟩ := I.lstM hH
  refine call_meets F.slot_list_append ⟨_, e, rfl⟩ F.entry_list_append (F.args_list_append_2 _ _) (PySem.list_append l its.toArray n u (by rw [List.size_toArray]; omega)) ⟨e, ?_⟩
  refine ⟨.non, _, I.lset (its' := its ++ [u]) hH e (by simp) (r.append (.cons ru .nil)) ?_, rfl, q⟩
  rw [List.length_append, List.length_singleton]
  omega
def rPopAt : V → List V → Hp → VK → Prop := fun x vs H Q => ∃ l xs i k y, x = .ref l ∧ vs = [.int i] ∧ H l = some (.lst xs) ∧ -(2 ^ 63) ≤ i ∧ i < 2 ^ 63 ∧ seqIndex? i xs.length = some k ∧ xs[k]? = some y ∧ Q y (upd H l (.lst (xs.eraseIdx k)))
theorem mt_popAt : MtM X "list.pop" rPopAt := by
  intro pins s σ H x vs v us Q I rx rv h
  obtain ⟨l, xs, i, k, y, rfl, rfl, hH, h1, h2, hk, hy, q⟩ := h
  cases rx
  obtain ⟨u, rfl, ru⟩ := rv.one
  obtain ⟨t, rfl⟩ := ru
  obtain ⟨z, its, n, r, hl, e⟩ := I.lstM hH
  obtain ⟨w, hw, rw'⟩ := r.get hy
  refine call_meets F.slot_list_pop ⟨_, e, rfl⟩ F.entry_list_pop (F.args_list_pop_2 _ _)
    (MeetsSeq.list_pop_at l its.toArray n i t k w (fitsIndex_both h1 h2) (by rw [List.size_toArray, ← hl]; exact hk) (by rw [← Array.getElem?_toList]; exact hw) (by rw [List.size_toArray]; omega)) ⟨e, ?_⟩
  refine ⟨y, _, I.lset (its' := its.eraseIdx k) hH e ?_ (r.eraseIdx k) ?_, rw', q⟩
  · show its.toArray.eraseIdxIfInBounds k = (its.eraseIdx k).toArray
    rw [List.eraseIdxIfInBounds_toArray]
  · have := len_erase xs k
    omega
def rCat : R2 := fun x y H Q => ∃ l b xs zs, x = .ref l ∧ y = .ref b ∧ H l = some (.lst xs) ∧ H b = some (.lst zs) ∧ xs.length + zs.length ≤ sizeLine ∧ ∀ p, H p = none → Q (.ref p) (upd H p (.lst (xs ++ zs)))
theorem op_cat : OpR X (binaryOp .Add) rCat := by
  intro pins s σ H x y v u Q I rx ry h
  obtain ⟨l, b, xs, zs, rfl, rfl, hH, hB, hz, q⟩ := h
  cases rx
  cases ry
  obtain ⟨z, its, n, r, hl, e⟩ := I.lstM hH
  obtain ⟨z2, its2, n2, r2, hl2, e2⟩ := I.lstM hB
  refine PySem.P.add_list e e2 ?_ (by rw [List.size_toArray, List.size_toArray]; omega)
  have ea : its.toArray ++ its2.toArray = (its ++ its2).toArray := by simp
  rw [ea]
  exact ⟨.ref _, _, I.lnew (t' := s.toks) (r.append r2) (by rw [List.length_append]; omega), rfl, q _ I.fresh⟩
end
section
variable {prog : Program} {w : World} {A : Around} {E : Value → Shared → Prop} {s : Shared}
end
section
variable {X : Cx}
end
end L2
namespace L2
open PySem PySem.Spec PyProof.Rows
section
variable {κ : Type} [DecidableEq κ]
def valV (kvs : List (κ × V)) (k : κ) : Option V := (kvs.find? fun kv => decide (kv.1 = k)).map (·.2)
theorem valV_pos {p : κ × V} {r : List (κ × V)} {k : κ} (e : p.1 = k) : valV (p :: r) k = some p.2 := by simp [valV, List.find?_cons, e]
theorem valV_neg {p : κ × V} {r : List (κ × V)} {k : κ} (e : ¬ p.1 = k) : valV (p :: r) k = valV r k := by simp [valV, List.find?_cons, e]
theorem RelO.isSome_eq {o : Option V} {u : Option Value} (r : RelO o u) : o.isSome = u.isSome := by
  cases o with
  | none => cases u with
    | none => rfl
    | some _ => exact (show False from r).elim
  | some _ => cases u with
    | none => exact (show False from r).elim
    | some _ => rfl
theorem KV.val {kvs : List (κ × V)} {vs : List (κ × Value)} (r : KV kvs vs) (k : κ) : RelO (valV kvs k) (valueAt vs k) := by
  unfold KV at r
  induction r with
  | nil => exact True.intro
  | @cons p q ps qs h t ih =>
    obtain ⟨h1, h2⟩ := h
    by_cases e : p.1 = k
    · have e' : q.1 = k := h1.symm.trans e
      have b : valueAt (q :: qs) k = some q.2 := by simp [valueAt, List.find?_cons, e']
      rw [valV_pos e, b]; exact h2
    · have e' : ¬ q.1 = k := fun z => e (h1.trans z)
      have b : valueAt (q :: qs) k = valueAt qs k := by simp [valueAt, List.find?_cons, e']
      rw [valV_neg e, b]; exact ih
theorem KV.length {kvs : List (κ × V)} {vs : List (κ × Value)} (r : KV kvs vs) : kvs.length = vs.length := Paired.length r
end
theorem kV_is {P : Program} {w : World} {k : Key} {u : Value} (r : RelV (kV k) u) : (mixKind P w).is k u = true := by
  cases k with
  | inl i => obtain ⟨t, e⟩ := (show ∃ t, u = Value.int i t from r); subst e; exact mixKind_int P w i t
  | inr x => obtain ⟨t, e⟩ := (show ∃ t, u = Value.str x t from r); subst e; exact mixKind_str P w x t
theorem items_are {P : Program} {w : World} : ∀ {ks : List Key} {us : List Value}, Vals (ks.map kV) us → ItemsAre (mixKind P w) ks us
  | [], _, r => by rw [List.map_nil] at r; cases r; exact .nil
  | k :: ks, _, r => by
    rw [List.map_cons] at r
    cases r with
    | cons h t => exact .cons (kV_is h) (items_are t)
abbrev KT (H : Hp) : List (List Key × V) → List (List Key × Addr × Value) → Prop := Paired fun p q => p.1 = q.1 ∧ H q.2.1 = some (.tup (p.1.map kV)) ∧ RelV p.2 q.2.2
theorem KT.val {H : Hp} {kvs : List (List Key × V)} {xs : List (List Key × Addr × Value)} (r : KT H kvs xs) (k : List Key) : RelO (valV kvs k) ((atKey xs k).map (·.2)) := by
  induction r with
  | nil => exact True.intro
  | @cons p q ps qs h t ih =>
    obtain ⟨h1, _, h2⟩ := h
    by_cases e : p.1 = k
    · have e' : q.1 = k := h1.symm.trans e
      have b : atKey (q :: qs) k = some q.2 := by simp [atKey, List.find?_cons, e']
      rw [valV_pos e, b]; exact h2
    · have e' : ¬ q.1 = k := fun z => e (h1.trans z)
      have b : atKey (q :: qs) k = atKey qs k := by simp [atKey, List.find?_cons, e']
      rw [valV_neg e, b]; exact ih
section
variable {P : Program} {w : World} {H : Hp} {h : Heap} {a : Addr}
theorem rd_of {u : HO} (ok : HOk P w H h) (e : Rd H a u) : ObjOk P w H h a u := e.ok ok
theorem dk_rd {kvs : List (Key × V)} (ok : HOk P w H h) (e : Rd H a (.dK kvs)) : kvs.length ≤ sizeLine ∧ (a == sysModules) = false ∧ ∃ vs, KV kvs vs ∧ h.DictOf (mixKind P w) a vs :=
  show ObjOk P w H h a (.dK kvs) from rd_of ok e
theorem key_of {ks : List Key} (ok : HOk P w H h) (e : H a = some (.tup (ks.map kV))) : (tupleKind (mixKind P w)).is h ks a := by
  obtain ⟨_, its, r, o, h1, h2, _, n, h3⟩ := (show ObjOk P w H h a (.tup (ks.map kV)) from ok a _ e)
  exact ⟨o, its.toArray, n, h1, h2, h3, by simpa using items_are r⟩
theorem dt_rd {kvs : List (List Key × V)} (ok : HOk P w H h) (e : Rd H a (.dT kvs)) : kvs.length ≤ sizeLine ∧ (a == sysModules) = false ∧
    ∃ xs, KT H kvs xs ∧ h.DictOfH (tupleKind (mixKind P w)) a xs := by
  exact False.elim (show ObjOk P w H h a (.dT kvs) from rd_of ok e)
end
def DGet (H : Hp) (a : Addr) (y : V) (r : Option V) : Prop :=
  (∃ kvs k, Rd H a (.dK kvs) ∧ y = kV k ∧ r = valV kvs k) ∨ ∃ kvs k b, Rd H a (.dT kvs) ∧ y = .ref b ∧ H b = some (.tup (k.map kV)) ∧ r = valV kvs k
theorem DGet.k {H : Hp} {a : Addr} {kvs : List (Key × V)} {k : Key} (e : H a = some (.dK kvs)) : DGet H a (kV k) (valV kvs k) := .inl ⟨kvs, k, .inl e, rfl, rfl⟩
section
variable {X : Cx} {pins : List (Addr × Obj)} {σ : St} {H : Hp} {s : Shared} {a : Addr} {y v : V} {u r : Value} {o : Option V} {A : Around} {E : Value → Shared → Prop}
theorem d_getItem {Q : Value → Shared → Prop} (hu : A.units + 1 < cLine) (I : Inv X pins σ H s) (g : DGet H a y (some v)) (ry : RelV y u) (h : ∀ w' s', Inv X pins σ H s' → RelV v w' → Q w' s') :
    wpAny (model X.prog X.w) A (getItem (.ref a) u) Q E s := by
  rcases g with ⟨kvs, k, e, ey, l⟩ | ⟨kvs, k, b, e, ey, eb, l⟩
  · subst ey
    obtain ⟨z, hd, vs, rel, dd⟩ := dk_rd I.hok e
    obtain ⟨w', hw, rw'⟩ := RelO.some_of (v := v) (o := valueAt vs k) (by rw [l]; exact rel.val k)
    exact wpAny_getItem_of (kV_is ry) dd.mapOf hw (h w' _ (I.tok _) rw')
  · subst ey
    cases (show u = Value.ref b from ry)
    obtain ⟨z, hd, xs, rel, dd⟩ := dt_rd I.hok e
    obtain ⟨w', hw, rw'⟩ := RelO.some_of (v := v) (o := (atKey xs k).map (·.2)) (by rw [l]; exact rel.val k)
    obtain ⟨p, hp, hp2⟩ := Option.map_eq_some_iff.mp hw
    refine wpAny_getItem_heap (tupleKind_room_in1 hu) (key_of I.hok eb) dd hp ?_
    rw [hp2]
    exact h w' _ (I.tok _) rw'
theorem d_in {Q : Value → Shared → Prop} (hu : A.units + 1 < cLine) (I : Inv X pins σ H s) (g : DGet H a y o) (ry : RelV y u) (h : ∀ s', Inv X pins σ H s' → Q (.bool o.isSome) s') :
    wpAny (model X.prog X.w) A (compareOp .In u (.ref a)) Q E s := by
  rcases g with ⟨kvs, k, e, ey, l⟩ | ⟨kvs, k, b, e, ey, eb, l⟩
  · subst ey
    obtain ⟨z, hd, vs, rel, dd⟩ := dk_rd I.hok e
    refine wpAny_in_of (kV_is ry) hd dd.mapOf ?_
    rw [← (rel.val k).isSome_eq, ← l]
    exact h _ (I.tok _)
  · subst ey
    cases (show u = Value.ref b from ry)
    obtain ⟨z, hd, xs, rel, dd⟩ := dt_rd I.hok e
    refine wpAny_in_heap (tupleKind_room_in1 hu) (key_of I.hok eb) hd dd ?_
    have q := (rel.val k).isSome_eq
    rw [Option.isSome_map] at q
    rw [← q, ← l]
    exact h _ (I.tok _)
end
section
variable {X : Cx} {pins : List (Addr × Obj)} {σ : St} {H : Hp} {s : Shared} {a : Addr} {kvs : List (Key × V)} {k : Key} {u : Value} {A : Around} {E : Value → Shared → Prop}
theorem d_len {Q : Value → Shared → Prop} (I : Inv X pins σ H s) (e : Rd H a (.dK kvs)) (h : ∀ t s', Inv X pins σ H s' → Q (.int kvs.length t) s') : wpAny (model X.prog X.w) A (call (.builtin "len") [.ref a]) Q E s := by
  obtain ⟨z, hd, vs, rel, dd⟩ := dk_rd I.hok e
  refine call_len_dict hd dd (by rw [← rel.length]; rw [sizeLine_eq] at z; omega) ?_
  rw [← rel.length]
  exact h _ _ (I.tok _)
end
theorem dict_typeIs {X : Cx} {pins : List (Addr × Obj)} {σ : St} {H : Hp} {s : Shared} {a : Addr} {y : V} {o : Option V} (I : Inv X pins σ H s) (g : DGet H a y o) : s.TypeIs (.ref a) "dict" := by
  rcases g with ⟨kvs, k, e, _, _⟩ | ⟨kvs, k, b, e, _, _, _⟩
  · obtain ⟨_, _, vs, _, dd⟩ := dk_rd I.hok e
    exact dd.typeIs
  · obtain ⟨_, _, xs, _, dd⟩ := dt_rd I.hok e
    exact dd.typeIs
section
variable {X : Cx} {o i e value : Expr} {pos pos' tpos : Pos} {td ty tv : TE}
end
section
variable {X : Cx} {pos : Pos}
end
structure M1 (X : Cx) (o : Expr) (m : Str) (apos : Pos) (e : Expr) (cpos : Pos) : Prop where
  base : attributeBase o m X.env (eval o X.env) = eval o X.env
  few : ((backTo cpos (starEach [e] X.env)).all (fun x => !x.1) && (backToKw cpos (keywordEach [] X.env)).all (fun x => x.1.isSome)
    && decide (([e] : List Expr).length + ([] : List Keyword).length + (if ([] : List Keyword).isEmpty then 0 else 1) < 30)) = true
  line : (apos.endLine == cpos.line) = true
  trees : backTo cpos (starEach [e] X.env) = [(false, eval e X.env)]
structure M2 (X : Cx) (o : Expr) (m : Str) (apos : Pos) (e f : Expr) (cpos : Pos) : Prop where
  base : attributeBase o m X.env (eval o X.env) = eval o X.env
  few : ((backTo cpos (starEach [e, f] X.env)).all (fun x => !x.1) && (backToKw cpos (keywordEach [] X.env)).all (fun x => x.1.isSome)
    && decide (([e, f] : List Expr).length + ([] : List Keyword).length + (if ([] : List Keyword).isEmpty then 0 else 1) < 30)) = true
  line : (apos.endLine == cpos.line) = true
  trees : backTo cpos (starEach [e, f] X.env) = [(false, eval e X.env), (false, eval f X.env)]
section
variable {X : Cx} {pins : List (Addr × Obj)} {σ : St} {H : Hp} {s : Shared} {a : Addr} {y d : V} {u r : Value} {o : Option V} {A : Around} {E : Value → Shared → Prop}
end
section
variable {X : Cx} {o e f : Expr} {apos cpos : Pos} {td ty tx : TE}
end
section
variable {X : Cx} {pins : List (Addr × Obj)} {σ : St} {H : Hp} {s : Shared} {a : Addr} {kvs : List (Key × V)} {A : Around} {E : Value → Shared → Prop}
end
section
variable {X : Cx} {pins : List (Addr × Obj)} {σ : St} {H : Hp} {s : Shared} {a : Addr} {y : V} {u : Value} {A : Around} {E : Value → Shared → Prop}
end
end L2
namespace Att
open PySem PySem.W PySem.Calls PyProof.Rows
theorem ints_of_wellAll {P : Params} {h : Heap} : ∀ (ns : List Int) (vs : List Value), WellAll P h vs (ns.map WData.int) → IntsAre vs ns := by
  intro ns
  induction ns with
  | nil =>
    intro vs w
    rw [List.map_nil] at w
    cases w
    exact .nil
  | cons n ns ih =>
    intro vs w
    rw [List.map_cons] at w
    cases w with
    | cons a b =>
      cases a
      exact .cons _ _ (ih _ b)
theorem script_of {l : OpenLaw} {n : Nat} (hn : l.most = some n) {P : Params} {h : Heap} {args : List WData} {vals : List Value}
    (hpre : l.row.toRowW.claim.pre args = true) (hwl : WellAll P h vals args) :
    ∃ a vs ns, vals = [Value.ref a] ∧ args = [WData.list (ns.map WData.int)] ∧ h.get? a = some { cls := .type "list", data := .seq vs.toArray } ∧ IntsAre vs ns ∧ ns.length ≤ n := by
  have hsh : WShape.hasAll [] args [.list .int] = true := (pre_splitW hpre).1
  have hc : l.pre.holds [] { args := args } = true := (pre_splitW hpre).2
  obtain ⟨d, r, rfl, h1, h2⟩ := hasAllW_cons hsh
  obtain rfl := hasAllW_nil h2
  obtain ⟨xs, rfl, h3⟩ := hasW_list h1
  obtain ⟨ns, rfl⟩ := items_int h3
  have hlen : ns.length ≤ n := by
    unfold OpenLaw.pre at hc
    have h4 : (WTm.not (.lt (.lit (.int (n : Int))) (.len (.arg 0)))).holds [] { args := [.list (ns.map .int)] } = true := by
      have h4 := (holds_andW hc).1
      rw [hn] at h4
      exact h4
    have h5 := condW_of h4 (w_not (w_lt w_lit (w_len_list (w_arg rfl))))
    rw [List.length_map] at h5
    refine Nat.le_of_not_lt fun q => ?_
    have q' : (n : Int) < ((ns.length : Nat) : Int) := by omega
    first
      | (rw [decide_eq_true q'] at h5; exact absurd h5 (by decide))
      | (simp at h5; omega)
  cases hwl with
  | cons w1 w2 =>
    cases w2
    cases w1 with
    | list ho hall => exact ⟨_, _, ns, rfl, rfl, ho, ints_of_wellAll ns _ hall, hlen⟩
theorem post_true (l : OpenLaw) (args : List WData) : l.row.toRowW.claim.post args (.bool true) args = true :=
  postW_of (r := l.row.toRowW) (X := (true == true))
    (show WShape.has [] (.bool true) .bool = true by first | rfl | decide | simp [WShape.has, WShape.arms, WShape.armsAll])
    (show (WTm.eq .res (.lit (.bool true))).value [] { args := args, res := some (.bool true), after := args } = some (.bool (true == true)) from w_eq_bool (w_res rfl) w_lit) rfl
theorem attach_call {l : OpenLaw} {n : Nat} {q : Program} {loose : List Str} {XP : (Str → Option Value) → Heap → Prop} {YP : World → Heap → Prop} {d : DefRec}
    (hn : l.most = some n) (hdf : d.params.defaults = [])
    (call : ∀ (w : World) (s₀ s₁ : Shared) (mg mb : Str → Option Value) (fa : Addr) (o : Obj) (pm cd doc : Value) (a : Addr) (vs : List Value) (ns : List Int),
      Ground q loose [] XP w s₀ mg mb s₁.heap → YP w s₁.heap →
      s₁.heap.get? fa = some o → o.data = .func (docDef d.name d.params d.body d.scope pm cd doc) → s₁.heap.CodeRec cd d.name → mg d.name = some (.ref fa) →
      s₁.heap.get? a = some { cls := .type "list", data := .seq vs.toArray } → IntsAre vs ns → ns.length ≤ n → s₁.gens = #[] →
      codeAny (model l.prog w) callerA (.call (.ref fa) ⟨[.ref a], []⟩) (fun r s' => r = .ok (.ret (.bool true)) ∧ OldK s₁.heap s'.heap ∧ s'.os = s₁.os ∧ AllBare s'.gens) s₁) :
    WalkO q loose XP YP l.row.toRowW d [] (fun f vs => PySem.call f vs) := by
  intro w s₀ s₁ mg mb G Y fa o pm cd doc dV kV ho hd hcd hD hmg hg args vals as hpre hlay hrd hwl hlo
  obtain rfl : dV = .none := Dflts.none hD hdf
  obtain rfl : kV = .none := Dflts.noKw hD
  obtain ⟨a, vs, ns, rfl, rfl, hobj, hints, hlen⟩ := script_of hn hpre hwl
  refine enter_call (codeAny_mono (call w s₀ s₁ mg mb fa o pm cd doc a vs ns G Y ho (fd_plain hd) hcd hmg hobj hints hlen hg) fun r s' hq => ?_)
  obtain ⟨rfl, h2, h3, h4⟩ := hq
  exact ⟨.inl ⟨.bool true, .bool true, [], rfl, fun _ => rfl, .bool true, post_true l _, fun _ => ⟨List.Pairwise.nil, fun _ hm => (nomatch hm)⟩⟩, h2, h3, h4⟩
section
variable {prog : Program} {w : World} {A : Around} {E : Value → Shared → Prop} {s : Shared} {K : Frag}
end
end Att
namespace L2
open PySem PySem.Spec PyProof.Rows
theorem vals_ints : ∀ {vs : List Value} {ns : List Int}, IntsAre vs ns → Vals (ns.map V.int) vs
  | _, _, .nil => .nil
  | _, _, .cons n t h => .cons ⟨t, rfl⟩ (vals_ints h)
def Only (H : Hp) : Prop := ∀ b, H b = none ∨ ∃ o xs, H b = some (.frz o (.lst xs))
theorem law_call {P : Program} {w : World} {K : PySem.W.Frag} {mg mb : Str → Option Value} {CX : CXT} {k : Nat} {fa a : Addr} {fd : FuncData} {x : Str} {sp : Sp} {s₁ : Shared} {vs : List Value} {ns : List Int}
    (KX : K.In s₁.heap) (hns : s₁.heap.Ns mainGlobals mg) (hb : s₁.heap.Ns builtinsNs mb) (hbb : ∀ x : Str, x ≠ "__name__" → mb x = bootBuiltins x) (hlim : s₁.heap.NoLimit) (hg : s₁.gens = #[])
    (ha : s₁.heap.get? a = some { cls := .type "list", data := .seq vs.toArray }) (hi : IntsAre vs ns) (hl : ns.length ≤ sizeLine) (hr : Room k callerA)
    (F : ∀ base : Heap, K.In base → base.Ns mainGlobals mg → FnOk P w K mg base CX k fa fd [x] sp) (hbind : ∀ (s : Shared) (u : Value), BindsTo s fd ⟨[u], []⟩ [(x, u)])
    (hsp : ∀ H : Hp, Only H → SqL K H a (ns.map V.int) → sp [.ref a] H (fun v _ => v = .bl true) fun _ _ _ => False)
    (hCX : ∀ H e s', CX [] H s₁ (fun _ _ _ => False) e s' → False) :
    codeAny (model P w) callerA (.call (.ref fa) ⟨[.ref a], []⟩) (fun r s' => r = .ok (.ret (.bool true)) ∧ OldK s₁.heap s'.heap ∧ s'.os = s₁.os ∧ AllBare s'.gens) s₁ := by
  have rv := vals_ints hi
  have lenV := hi.length
  -- from an abstract heap in which nothing but the script may be tracked
  have core : ∀ H : Hp, Only H → SqL K H a (ns.map V.int) → HOk P w H s₁.heap → (∀ b, H b ≠ none → b = a) → (H a ≠ none → K.lookup a = none) →
      codeAny (model P w) callerA (.call (.ref fa) ⟨[.ref a], []⟩) (fun r s' => r = .ok (.ret (.bool true)) ∧ OldK s₁.heap s'.heap ∧ s'.os = s₁.os ∧ AllBare s'.gens) s₁ := by
    intro H hO hS hok hA hK
    have base_of : ∀ {b : Addr} {o : Obj}, s₁.heap.get? b = some o → H b = none → (hidT s₁.heap H).get? b = some o := fun e n => hidT_get e n
    have noA : ∀ {b : Addr} {o : Obj} {es : Array DictEntry} {ep : Nat}, s₁.heap.get? b = some o → o.data = .dict es ep → H b = none := fun {b o es ep} e d => by
      cases q : H b with
      | none => rfl
      | some u =>
        have e' : b = a := hA b (by rw [q]; simp)
        subst e'
        rw [ha] at e; cases e
        have d' : Data.seq vs.toArray _ = Data.dict es ep := d
        cases d'
    have nsK : ∀ {b : Addr} {m : Str → Option Value}, s₁.heap.Ns b m → (hidT s₁.heap H).Ns b m := fun {b m} ⟨o, es, ep, e, d, r⟩ => ⟨o, es, ep, base_of e (noA e d), d, r⟩
    have hKb : K.In (hidT s₁.heap H) := fun b o e => base_of (KX b o e) (by
      cases q : H b with
      | none => rfl
      | some u =>
        have e' : b = a := hA b (by rw [q]; simp)
        subst e'
        rw [hK (by rw [q]; simp)] at e; cases e)
    have hM : Mod K mg (hidT s₁.heap H) := ⟨hKb, nsK hns, ⟨mb, nsK hb, hbb⟩, let ⟨mc, h1, h2⟩ := hlim; ⟨mc, nsK h1, h2⟩⟩
    have e0 : Env0 P w K mg (hidT s₁.heap H) callerA [] s₁ H := ⟨rfl, hM, fun b o e => of_hidT e, Nat.le_of_eq (hidT_size _ _), trivial, fun b hb => absurd (show b ∈ ([] : List Addr) from hb) (by simp), hok, .of_eq hg⟩
    refine codeAny_mono ((F _ hKb (nsK hns)).run callerA [] s₁ H ⟨[.ref a], []⟩ [.ref a] [.ref a] _ _ hr e0 (hbind s₁ (.ref a)) (.cons rfl .nil) (hsp H hO hS)) fun r s' h => ?_
    cases r with
    | error e => exact (hCX H e s' h).elim
    | ok fl =>
      cases fl with
      | next => exact False.elim h
      | brk => exact False.elim h
      | cont => exact False.elim h
      | ret u =>
        obtain ⟨v, H', os, bare, un, hok', r', q⟩ := h
        have q' : v = .bl true := q
        subst q'
        obtain rfl : u = Value.bool true := r'
        refine ⟨rfl, OldK.of_keep fun b o e => ?_, os, bare⟩
        cases q : H b with
        | none => exact un.keep b o e q (by intro z; exact absurd (show b ∈ ([] : List Addr) from z) (by simp)) (by simp)
        | some u =>
          rcases hO b with z | ⟨ob, xs, z⟩
          · rw [q] at z; cases z
          · have z2 := un.frzs b ob _ z
            obtain ⟨e1, _⟩ := hok b _ z
            obtain ⟨e2, _⟩ := hok' b _ z2
            rw [e] at e1; cases e1
            exact e2
  cases hk : K.lookup a with
  | some o =>
    -- the script is one of the module's own objects
    have e := KX a o hk
    rw [ha] at e
    cases e
    refine core (fun _ => none) (fun _ => .inl rfl) (.inr ⟨_, vs.toArray, _, hk, rfl, rfl, rfl, by rw [List.size_toArray, lenV]; exact hl, by simpa using rv⟩) (fun b u z => by have z' : (none : Option HO) = some u := z; cases z') (fun b z => absurd rfl z) fun z => absurd rfl z
  | none =>
    refine core (fun b => if b = a then some (.frz { cls := .type "list", data := .seq vs.toArray } (.lst (ns.map V.int))) else none) (fun b => ?_) (.inl (.inr ⟨{ cls := .type "list", data := .seq vs.toArray }, if_pos rfl⟩)) (fun b u z => ?_) (fun b z => ?_) fun _ => hk
    · by_cases hb : b = a
      · exact .inr ⟨_, _, if_pos hb⟩
      · exact .inl (if_neg hb)
    · by_cases hb : b = a
      · have z' := (if_pos hb).symm.trans z
        cases z'
        subst hb
        exact ⟨ha, by rw [List.length_map]; exact hl, vs, _, rv, ha⟩
      · have z' := (if_neg hb).symm.trans z
        cases z'
    · by_cases hb : b = a
      · exact hb
      · exact absurd (if_neg hb) z
end L2
namespace L2
open PySem PySem.Spec PyProof.Rows
abbrev KOf {K : PySem.W.Frag} {h : Heap} (_ : K.In h) : PySem.W.Frag := K
theorem walk_of {l : PySem.W.OpenLaw} {n k : Nat} {q : Program} {loose : List Str} {XP : (Str → Option Value) → Heap → Prop} {YP : World → Heap → Prop} {d : DefRec} {K : Params → PySem.W.Frag} {CX : World → CXT} {sp : World → Sp} {x : Str}
    (hn : l.most = some n) (hn2 : n ≤ sizeLine) (hdf : d.params.defaults = []) (hr : Room k callerA)
    (hY : ∀ (w : World) (h : Heap), YP w h → (K w.params).In h)
    (F : ∀ (w : World) (mg : Str → Option Value) (fa : Addr) (h : Heap), (K w.params).In h → h.Ns mainGlobals mg → mg d.name = some (.ref fa) →
      ∃ fd : FuncData, (∀ (s : Shared) (u : Value), BindsTo s fd ⟨[u], []⟩ [(x, u)]) ∧
        ∀ base : Heap, (K w.params).In base → base.Ns mainGlobals mg → FnOk l.prog w (K w.params) mg base (CX w) k fa fd [x] (sp w))
    (hsp : ∀ (w : World) (H : Hp) (a : Addr) (ns : List Int), ns.length ≤ n → Only H → SqL (K w.params) H a (ns.map V.int) → sp w [.ref a] H (fun v _ => v = .bl true) fun _ _ _ => False)
    (hCX : ∀ (w : World) (H : Hp) (s : Shared) (e : Value) (s' : Shared), CX w [] H s (fun _ _ _ => False) e s' → False) :
    PySem.W.WalkO q loose XP YP l.row.toRowW d [] (fun f vs => PySem.call f vs) := by
  refine Att.attach_call hn hdf fun w s₀ s₁ mg mb fa o pm cd doc a vs ns G Y ho hd hcd hmg hobj hints hlen hg => ?_
  have KX := hY w _ Y
  obtain ⟨fd, hb, hF⟩ := F w mg fa _ KX G.T.g hmg
  exact law_call KX G.T.g G.T.b G.T.builtins G.T.nolimit hg hobj hints (Nat.le_trans hlen hn2) hr hF hb (fun H hO hS => hsp w H a ns hlen hO hS) fun H e s' => hCX w H s₁ e s'
theorem walk_ofK {l : PySem.W.OpenLaw} {n k : Nat} {q : Program} {loose : List Str} {XP : (Str → Option Value) → Heap → Prop} {YP : World → Heap → Prop} {d : DefRec} {K : Params → PySem.W.Frag} {CX : CXT} {sp : PySem.W.Frag → Sp} {x : Str}
    (hn : l.most = some n) (hn2 : n ≤ sizeLine) (hdf : d.params.defaults = []) (hr : Room k callerA)
    (hY : ∀ (w : World) (h : Heap), YP w h → (K w.params).In h)
    (F : ∀ (w : World) (mg : Str → Option Value) (fa : Addr) (h : Heap), (K w.params).In h → h.Ns mainGlobals mg → mg d.name = some (.ref fa) →
      ∃ fd : FuncData, (∀ (s : Shared) (u : Value), BindsTo s fd ⟨[u], []⟩ [(x, u)]) ∧
        ∀ base : Heap, (K w.params).In base → base.Ns mainGlobals mg → FnOk l.prog w (K w.params) mg base CX k fa fd [x] (sp (K w.params)))
    (hsp : ∀ (K : PySem.W.Frag) (H : Hp) (a : Addr) (ns : List Int), ns.length ≤ n → Only H → SqL K H a (ns.map V.int) → sp K [.ref a] H (fun v _ => v = .bl true) fun _ _ _ => False)
    (hCX : ∀ (H : Hp) (s : Shared) (e : Value) (s' : Shared), CX [] H s (fun _ _ _ => False) e s' → False) :
    PySem.W.WalkO q loose XP YP l.row.toRowW d [] (fun f vs => PySem.call f vs) :=
  walk_of (K := K) (CX := fun _ => CX) (sp := fun w => sp (K w.params)) hn hn2 hdf hr hY F (fun w H a ns h1 h2 h3 => hsp (K w.params) H a ns h1 h2 h3) fun _ H s e s' => hCX H s e s'
end L2
namespace L2
open PySem PySem.Spec PyProof.Rows
def defArgs (s : Stmt) : Arguments := match s with
  | .FunctionDef _ a _ _ _ _ _ _ _ _ => a
  | _ => { posonlyargs := [], args := [], vararg := none, kwonlyargs := [], kw_defaults := [], kwarg := none, defaults := [] }
def defBody (s : Stmt) : List Stmt := match s with
  | .FunctionDef _ _ b _ _ _ _ _ _ _ => b
  | _ => []
def defScope (s : Stmt) : Scope := match s with
  | .FunctionDef _ _ _ _ _ _ sc _ _ _ => sc
  | _ => { kind := .function, names := [], isGenerator := false, isCoroutine := false }
abbrev CX0 : CXT := fun _ _ _ _ _ _ => False
abbrev E0 : XK := fun _ _ _ => False
structure Fun (K : PySem.W.Frag) (x qual : Str) (st : Stmt) (f : Addr) (fd : FuncData) : Prop where
  ex : ∃ (oc : Value) (od : Option Addr) (kV doc pm : Value) (an : Option Addr) (cdv ct : Value) (osl : Array (Option Value)),
    fd = PySem.W.fnOf x qual (defArgs st) (defBody st) (defScope st) .none kV doc pm an cdv ct ∧ K.lookup f = some ⟨oc, od, .func fd, osl⟩ ∧ PySem.W.codeIn K cdv qual = true
  kp : PySem.W.keepIn K (.ref f) = true
section
variable {P : Program} {w : World} {K : PySem.W.Frag} {mg : Str → Option Value} {base : Heap}
end
theorem small1000 {n : Nat} (h : n ≤ 1000) : n < sizeLine := Nat.lt_of_le_of_lt h (by decide)
section
variable {X : Cx}
theorem call_lenD : CallR X (.builtin "len") (fun xs H Q => ∃ a kvs, xs = [V.ref a] ∧ H a = some (.dK kvs) ∧ Q (.int kvs.length) H) := by
  intro pins s σ H xs us Q I r h
  obtain ⟨a, kvs, rfl, ha, q⟩ := h
  obtain ⟨u, rfl, ru⟩ := vals1 r
  cases ru
  exact d_len I (.inl ha) fun t s' I' => ⟨.int kvs.length, H, I', ⟨t, rfl⟩, q⟩
end
theorem iteF {A B : Prop} (h : B) : if false = true then A else B := by
  rw [if_neg Bool.false_ne_true]
  exact h
theorem iteT {A B : Prop} (h : A) : if true = true then A else B := by
  rw [if_pos rfl]
  exact h
section
variable {κ : Type} [DecidableEq κ]
end
end L2
set_option maxHeartbeats 4000000
namespace L2
open PySem PySem.Spec PyProof.Rows
section
variable {X : Cx}
def sLe (i j : Str) : Bool := !decide (j.cps.toList < i.cps.toList)
def sLt (i j : Str) : Bool := decide (i.cps.toList < j.cps.toList)
def rS2 (g : Str → Str → Bool) : R2 := fun x y H Q => ∃ i j, x = .str i ∧ y = .str j ∧ Q (.bl (g i j)) H
theorem op_le_str : OpR X (compareOp .LtE) (rS2 sLe) := by
  intro pins s σ H x y v u Q I rx ry h
  obtain ⟨i, j, rfl, rfl, q⟩ := h
  obtain ⟨t, rfl⟩ := rx
  obtain ⟨t', rfl⟩ := ry
  exact P.le_str (fin_bl I q rfl)
theorem op_ge_str : OpR X (compareOp .GtE) (rS2 fun i j => sLe j i) := by
  intro pins s σ H x y v u Q I rx ry h
  obtain ⟨i, j, rfl, rfl, q⟩ := h
  obtain ⟨t, rfl⟩ := rx
  obtain ⟨t', rfl⟩ := ry
  exact P.ge_str (fin_bl I q rfl)
theorem op_gt_str : OpR X (compareOp .Gt) (rS2 fun i j => sLt j i) := by
  intro pins s σ H x y v u Q I rx ry h
  obtain ⟨i, j, rfl, rfl, q⟩ := h
  obtain ⟨t, rfl⟩ := rx
  obtain ⟨t', rfl⟩ := ry
  exact P.gt_str (fin_bl I q rfl)
def CDivL (_ j : Int) : Prop := 0 < j ∧ j.natAbs.log2 < 9000
theorem op_fdivL : OpR X (binaryOp .FloorDiv) (rI CDivL fun i j => .int (i / j)) := opI fun i j _ _ _ _ _ hc q => by
  have hj : j ≠ 0 := by have := hc.1; omega
  exact floordiv_int hj (by rw [Int.fdiv_eq_ediv_of_nonneg _ (by have := hc.1; omega)]; exact q) (.inl (PyProof.noPylong_of_log2 hc.2))
end
def Its (x : Str) : It := ⟨fun i _ => i < x.cps.size, fun i H v H' => H' = H ∧ ∃ c, x.cps[i]? = some c ∧ v = .str ⟨#[c]⟩, fun i _ => x.cps.size ≤ i⟩
theorem turn_str {P : Program} {w : World} {K : PySem.W.Frag} {tg : Expr} {T : String} (hT : ["enumerate", "zip", "dict_itemiterator", "dict_reverseitemiterator", "odict_iterator", "itertools.zip_longest", "itertools.pairwise"].contains T = false) (it : Addr) (x : Str) (t : Tok)
    (W : ∀ A' : Around, A'.handled = none → Walks P w A' it [it] [it] x.cps.size (SignAt x) (fun i h => h.IsStrIter it T x t i))
    (hend : ∀ (A : Around) (s : Shared) (E : Value → Shared → Prop) (i : Nat) (Q : Option Value → Shared → Prop), A.handled = none → s.heap.IsStrIter it T x t i → x.cps[i]? = none → (∀ h', Heap.ExtBut it s.heap h' → Q none { s with heap := h' }) → wpAny (model P w) A (pyNext (.ref it)) Q E s)
    (hself : ∀ (A : Around) (s : Shared) (E : Value → Shared → Prop) (i : Nat) (Q : Value → Shared → Prop), s.heap.IsStrIter it T x t i → Q (.ref it) s → wpAny (model P w) A (pyIter (.ref it)) Q E s) :
    Turn P w K tg (Its x) [it] it (fun i h => h.IsStrIter it T x t i) where
  mem := by simp
  obj := fun i h st b hb => by
    have e : b = it := by simpa using hb
    subst e
    obtain ⟨o, e, c, d⟩ := st
    exact ⟨o, e, fun v z => by rw [d] at z; cases z⟩
  keep := fun i h h' st k => by
    obtain ⟨o, e, c, d⟩ := st
    exact ⟨o, k it (by simp) o e, c, d⟩
  item := by
    intro X hP hw hK hc i pins s σ H E I hf st hg
    subst hP hw hK
    obtain ⟨f0, f1, f2, f3, f4, f5⟩ := hf it (by simp)
    refine (W X.A (I.ok.hd hc)).item i s _ _ hg st fun v h' tk hv st' kk => ?_
    obtain ⟨c, u, hcx, rfl⟩ := hv
    have I1 : Inv X pins σ H { s with heap := h', toks := tk } := I.turned (fun b o hb e => kk b o (by simpa using hb) e) f0 f1 f3 f4 f5
    obtain ⟨o, e, c', d⟩ := id st'
    exact ⟨_, rfl, go_of (s := { s with heap := h', toks := tk }) e c' d hT ⟨.str ⟨#[c]⟩, H, I1, ⟨u, rfl⟩, ⟨rfl, c, hcx, rfl⟩, st', fun b hb => (hf b hb).1⟩⟩
  done := by
    intro X hP hw hK hc i pins s σ H E I hf st hg
    subst hP hw hK
    obtain ⟨f0, f1, f2, f3, f4, f5⟩ := hf it (by simp)
    have hg : x.cps.size ≤ i := hg
    exact hend X.A s E i _ (I.ok.hd hc) st (by simp; exact hg) fun h' eb => ⟨rfl, I.turned (t' := s.toks) (fun b o hb e => eb b o hb e) f0 f1 f3 f4 f5⟩
  self := fun A' i s Q E st h => hself A' s E i Q st h
section
variable {X : Cx} {tg : Expr}
def iStr (tl : TE) : TI := fun σ H R => tl σ H fun x H1 => ∃ z, x = .str z ∧ R (Its z) H1
theorem pi_str {l : Expr} {tl : TE} (hl : PE X l tl) : PI X tg l (iStr tl) := by
  intro pins s σ H R I h
  refine thn (hl pins s σ H _ I h) fun v s1 ⟨x, H1, I1, r1, q1⟩ => ?_
  obtain ⟨z, e, q⟩ := q1
  subst e
  obtain ⟨t, rfl⟩ := r1
  have fin : ∀ (T : String) (_ : Turn X.prog X.w X.K tg (Its z) [s1.heap.objs.size] s1.heap.objs.size (fun i h => h.IsStrIter s1.heap.objs.size T z t i)),
      PIE X pins σ tg R (.ref s1.heap.objs.size) { s1 with heap := s1.heap.push { cls := .type T, data := .fields #[.str z t, .int 0 0] } } := fun T tn => by
    refine ⟨s1.heap.objs.size, [s1.heap.objs.size], _, _, H1, rfl, I1.kept (t' := s1.toks) fun b o e => Heap.get?_push_of_some _ e, tn, ⟨_, Heap.get?_push_size _ rfl, rfl, rfl⟩, fun b hb => ?_, q⟩
    have e : b = s1.heap.objs.size := by simpa using hb
    subst e
    exact I1.fpOk (Nat.le_refl _) (I1.hok.fresh (Nat.le_refl _))
  cases ha : z.cps.all (· < 128)
  · exact wpAny_pyIter_wide ha (fin _ (turn_str (by decide) _ z t (fun A' hA => Walks.strWide hA _ z t) (fun A s E i Q hh st hx hQ => wpAny_pyNext_wide_end hh st hx hQ) (fun A s E i Q st hq => wpAny_pyIter_striter_wide st hq)))
  · exact wpAny_pyIter_ascii ha (fin _ (turn_str (by decide) _ z t (fun A' hA => Walks.strAscii hA _ z t) (fun A s E i Q hh st hx hQ => wpAny_pyNext_ascii_end hh st hx hQ) (fun A s E i Q st hq => wpAny_pyIter_striter_ascii st hq)))
end
end L2
namespace L2
open PySem PySem.Spec PyProof.Rows
def clOf (cells : List (Str × Addr)) (names : List (Str × NameKind)) : List (Str × Addr) :=
  names.foldl (fun cs p => if p.2 == .free then match cells.lookup p.1 with | some a => (p.1, a) :: cs | none => cs else cs) []
theorem clOf_sub (cells : List (Str × Addr)) : ∀ (names : List (Str × NameKind)) (cs : List (Str × Addr)), (∀ x c, cs.lookup x = some c → cells.lookup x = some c) →
    ∀ x c, (names.foldl (fun cs p => if p.2 == .free then match cells.lookup p.1 with | some a => (p.1, a) :: cs | none => cs else cs) cs).lookup x = some c → cells.lookup x = some c
  | [], cs, h => h
  | (n, k) :: r, cs, h => by
    rw [List.foldl_cons]
    refine clOf_sub cells r _ fun x c e => ?_
    dsimp only at e
    split at e
    · split at e
      · rename_i a ha
        rw [List.lookup_cons] at e
        split at e
        · rename_i hx
          have := LawfulBEq.eq_of_beq hx
          cases e
          rw [this]
          exact ha
        · exact h x c e
      · exact h x c e
    · exact h x c e
theorem clOf_keep (cells : List (Str × Addr)) : ∀ (names : List (Str × NameKind)) (cs : List (Str × Addr)) (x : Str) (c : Addr), (∀ y c, cs.lookup y = some c → cells.lookup y = some c) → cs.lookup x = some c →
    (names.foldl (fun cs p => if p.2 == .free then match cells.lookup p.1 with | some a => (p.1, a) :: cs | none => cs else cs) cs).lookup x = some c
  | [], cs, x, c, _, h => h
  | (n, k) :: r, cs, x, c, hs, h => by
    rw [List.foldl_cons]
    have hs' : ∀ y c, (if (k == NameKind.free) = true then match cells.lookup n with | some a => (n, a) :: cs | none => cs else cs).lookup y = some c → cells.lookup y = some c := by
      intro y c e
      split at e
      · split at e
        · rename_i a ha
          rw [List.lookup_cons] at e
          split at e
          · rename_i hx
            have := LawfulBEq.eq_of_beq hx
            cases e
            rw [this]
            exact ha
          · exact hs y c e
        · exact hs y c e
      · exact hs y c e
    refine clOf_keep cells r _ x c hs' ?_
    dsimp only
    split
    · split
      · rename_i a ha
        rw [List.lookup_cons]
        split
        · rename_i hx
          have := LawfulBEq.eq_of_beq hx
          rw [this] at h
          have := hs _ _ h
          rw [ha] at this
          exact this
        · exact h
      · exact h
    · exact h
theorem clOf_has (cells : List (Str × Addr)) : ∀ (names : List (Str × NameKind)) (cs : List (Str × Addr)) (x : Str) (c : Addr), (∀ y c, cs.lookup y = some c → cells.lookup y = some c) → (x, NameKind.free) ∈ names → cells.lookup x = some c →
    (names.foldl (fun cs p => if p.2 == .free then match cells.lookup p.1 with | some a => (p.1, a) :: cs | none => cs else cs) cs).lookup x = some c
  | [], cs, x, c, _, h, _ => nomatch h
  | (n, k) :: r, cs, x, c, hs, h, hc => by
    rw [List.foldl_cons]
    have hs' : ∀ y c, (if (k == NameKind.free) = true then match cells.lookup n with | some a => (n, a) :: cs | none => cs else cs).lookup y = some c → cells.lookup y = some c := by
      intro y c e
      split at e
      · split at e
        · rename_i a ha
          rw [List.lookup_cons] at e
          split at e
          · rename_i hx
            have := LawfulBEq.eq_of_beq hx
            cases e
            rw [this]
            exact ha
          · exact hs y c e
        · exact hs y c e
      · exact hs y c e
    rcases List.mem_cons.mp h with e | h
    · cases e
      refine clOf_keep cells r _ _ c hs' ?_
      dsimp only
      rw [if_pos (show (NameKind.free == NameKind.free) = true by decide), hc]
      simp [List.lookup_cons]
    · exact clOf_has cells r _ x c hs' h hc
theorem closureFor_cl {scope : Scope} {env : Env} (h : ∀ x ∈ scope.names, x.2 = .free → ∃ c, env.cells.lookup x.1 = some c) : closureFor scope env = pure (clOf env.cells scope.names) := by
  have go : ∀ (names : List (Str × NameKind)) (cs : List (Str × Addr)), (∀ x ∈ names, x.2 = .free → ∃ c, env.cells.lookup x.1 = some c) →
      (forIn names cs fun x r => match x with | (name, kind) => if (kind == NameKind.free) = true then do let a ← cellOf env name; pure (ForInStep.yield ((name, a) :: r)) else pure (ForInStep.yield r) : Sem (List (Str × Addr))) =
        pure (names.foldl (fun cs p => if p.2 == .free then match env.cells.lookup p.1 with | some a => (p.1, a) :: cs | none => cs else cs) cs) := by
    intro names
    induction names with
    | nil => intro cs _; rfl
    | cons p r ih =>
      intro cs hp
      obtain ⟨n, k⟩ := p
      rw [List.forIn_cons, List.foldl_cons]
      by_cases hk : k = .free
      · subst hk
        obtain ⟨c, hc⟩ := hp _ List.mem_cons_self rfl
        have hc : env.cells.lookup n = some c := hc
        have e1 : cellOf env n = pure c := by unfold cellOf; rw [hc]
        have ef : (NameKind.free == NameKind.free) = true := by decide
        dsimp only
        rw [if_pos ef, if_pos ef, e1, hc]
        exact ih _ fun x hx => hp x (List.mem_cons_of_mem _ hx)
      · have hk' : (k == NameKind.free) = false := by simpa using hk
        dsimp only
        rw [hk', if_neg Bool.false_ne_true, if_neg Bool.false_ne_true]
        exact ih _ fun x hx => hp x (List.mem_cons_of_mem _ hx)
  have e := go scope.names [] h
  have e2 : closureFor scope env = (forIn scope.names [] (fun x r => match x with | (name, kind) => if (kind == NameKind.free) = true then do let a ← cellOf env name; pure (ForInStep.yield ((name, a) :: r)) else pure (ForInStep.yield r)) : Sem (List (Str × Addr))) >>= fun cs => pure cs := rfl
  rw [e2, e]
  rfl
theorem lookup_relabel {env : Env} {names : List (Str × NameKind)} {x : Str} :
    (names.map fun (n, k) => if (k == NameKind.free && env.scope.kind == .function && env.kindOf n == some .cell) then (n, NameKind.cell) else (n, k)).lookup x =
      (names.lookup x).map fun k => if (k == NameKind.free && env.scope.kind == .function && env.kindOf x == some .cell) then NameKind.cell else k := by
  induction names with
  | nil => rfl
  | cons p r ih =>
    obtain ⟨n, k⟩ := p
    rw [List.map_cons, List.lookup_cons]
    by_cases hc : (k == NameKind.free && env.scope.kind == .function && env.kindOf n == some .cell) = true
    · dsimp only
      rw [if_pos hc, List.lookup_cons]
      cases hx : x == n with
      | true =>
        have := LawfulBEq.eq_of_beq hx
        subst this
        dsimp only [Option.map]
        rw [if_pos hc]
      | false => exact ih
    · dsimp only
      rw [if_neg hc, List.lookup_cons]
      cases hx : x == n with
      | true =>
        have := LawfulBEq.eq_of_beq hx
        subst this
        dsimp only [Option.map]
        rw [if_neg hc]
      | false => exact ih
def cxC (X : Cx) (N : List Str) (scope : Scope) (C : Addr) (s : Shared) (H : Hp) (ex : List Addr) (pn : List (Addr × Obj)) : Cx :=
  { X with N := N, s₀ := s, H₀ := H, env := compEnvC scope (clOf X.env.cells scope.names) C X.env, outer := X.stack, ex := ex, fn := fun _ => false, pn := pn, xe := fun _ _ => False }
def pick (σ : St) (src : List (Option Nat)) : St := src.map fun o => match o with | some j => (σ[j]?).join | none => none
structure CompScope (X : Cx) (N : List Str) (src : List (Option Nat)) (scope : Scope) : Prop where
  kind : scope.kind = .function
  nocell : ∀ y ∈ scope.names, y.2 ≠ .cell
  loc : ∀ y ∈ scope.names, y.2 = .local → scope.names.lookup y.1 = some .local
  fre : ∀ y ∈ scope.names, y.2 = .free → X.env.kindOf y.1 = some .cell ∨ X.env.kindOf y.1 = some .free
  len : src.length = N.length
  src : ∀ (i j : Nat) (x : Str), src[i]? = some (some j) → N[i]? = some x → X.N[j]? = some x ∧ scope.names.lookup x = some .free ∧ Vis X.env.scope x
def Ext (σ σ' : St) : Prop := σ'.length = σ.length ∧ ∀ (j : Nat) v, σ[j]? = some (some v) → σ'[j]? = some (some v)
def GExt (g : TG) (src : List (Option Nat)) : Prop := ∀ x σ H Q, g x (pick σ src) H Q → g x (pick σ src) H fun σ' H' => Ext (pick σ src) σ' ∧ Q σ' H'
def tComp (wi : TI) (src : List (Option Nat)) (g : TG) (tc : TT) (te : TE) : TE := fun σ H Q => wi σ H fun J H1 =>
  ∃ W : Nat → Nat → List V → Hp → Prop, (∃ m, W 0 m [] H1) ∧ ∀ i m out H', W i m out H' →
    (J.stop i H' ∧ ∀ D, H' D = none → Q (.ref D) (upd H' D (.lst out))) ∨
    (J.go i H' ∧ out.length < sizeLine ∧ ∀ x H2, J.yld i H' x H2 → g x (pick σ src) H2 fun σ3 H3 => tc σ3 H3 fun b H4 =>
      if b = true then te σ3 H4 fun v H5 => ∃ m', m' < m ∧ W (i + 1) m' (out ++ [v]) H5 else ∃ m', m' < m ∧ W (i + 1) m' out H4)
section
variable {X : Cx} {N : List Str} {src : List (Option Nat)} {scope : Scope} {tg iter elt : Expr} {ifs : List Expr} {pos : Pos} {wi : TI} {g : TG} {tc : TT} {te : TE}
def PIf (X : Cx) (ifs : List Expr) (t : TT) : Prop :=
  ∀ (pins : List (Addr × Obj)) (s : Shared) (σ : St) (H : Hp) (Q : Bool → Hp → Prop), Inv X pins σ H s → t σ H Q →
    wpAny (model X.prog X.w) X.A (forIn ifs true fun c r => if r = true then do let ok ← isTrue c X.env (eval c X.env); pure (ForInStep.yield ok) else pure (ForInStep.yield r)) (TP X pins σ Q) X.xe s
def tTrue : TT := fun _ H Q => Q true H
theorem pif_nil : PIf X [] tTrue := fun pins s σ H Q I h => wpAny_tests_nil ⟨H, I, h⟩
theorem codeAny_compLoop_go {prog : Program} {w : World} {A : Around} {R : Result → Shared → Prop} {s : Shared} {elt target iter : Expr} {ifs : List Expr} {scope : Scope} {pos : Pos} {it acc : Value} {env : Env} {EE : Value → Shared → Prop} (hEE : ∀ x s', EE x s' → notedBy (model prog w) A env (fun e s' => R (.error e) s') x s') (I : Nat → Shared → Prop)
    (turn : ∀ n s, I n s → wpAny (model prog w) A (pyNext it) (fun r s₁ => match r with
      | none => R (.ok .next) s₁
      | some v => wpAny (model prog w) A (letOwnedTupleGo target it v) (fun _ s₁' => wpAny (model prog w) A (assign target env v) (fun _ s₂ =>
          wpAny (model prog w) A (forIn ifs true fun c r => if r = true then do let ok ← isTrue c env (eval c env); pure (ForInStep.yield ok) else pure (ForInStep.yield r)) (fun ok s₃ =>
            if ok = true then wpAny (model prog w) A (eval elt env) (fun x s₄ =>
              wpAny (model prog w) A (call (.builtin "list.append") [acc, x]) (fun _ s₅ => ∃ m, m < n ∧ I m s₅) EE s₄) EE s₃
            else ∃ m, m < n ∧ I m s₃) EE s₂) EE s₁') EE s₁) EE s)
    (n : Nat) (h : I n s) :
    codeAny (model prog w) A (.compLoop (.ListComp elt [⟨target, iter, ifs, 0⟩] scope pos) 0 it acc env) R s := by
  refine codeAny_loop rfl I (fun n s hI => ?_) n h
  show wpAny _ A ((compTurn (.ListComp elt [⟨target, iter, ifs, 0⟩] scope pos) 0 it acc env).onRaise (fun x => do noteFrame x env; theTreesLotGoes x)) _ _ s
  refine wpAny_noted ?_
  rw [compTurn_list]
  refine wpAny_bind (wpAny_standAt (wpAny_bind (wpAny_mono (turn n s hI) (fun r s₁ h₁ => ?_) hEE)))
  cases r with
  | none => exact wpAny_pure h₁
  | some v =>
    refine wpAny_bind (wpAny_mono h₁ (fun _ s₁' h₁' => ?_) hEE)
    refine wpAny_bind (wpAny_mono h₁' (fun _ s₂ h₂ => wpAny_bind (wpAny_mono h₂ (fun ok s₃ h₃ => ?_) hEE)) hEE)
    cases ok with
    | false => exact wpAny_pure ⟨rfl, h₃⟩
    | true =>
      exact wpAny_bind (wpAny_bind (wpAny_mono h₃ (fun x s₄ h₄ => wpAny_bind (wpAny_mono h₄ (fun _ s₅ h₅ => wpAny_pure (wpAny_pure ⟨rfl, h₅⟩)) hEE)) hEE))
def CompEnd (X : Cx) (pins : List (Addr × Obj)) (σ : St) (Q : VK) (D C : Addr) (s' : Shared) : Prop :=
  ∃ H' m, Inv X pins σ H' s' ∧ Q (.ref D) H' ∧ s'.heap.Ns C m ∧ H' C = none ∧ C ≠ X.env.locals ∧ X.s₀.heap.objs.size ≤ C ∧ (∀ x c, X.env.cells.lookup x = some c → c ≠ C) ∧ (∀ p ∈ X.pn ++ pins, p.1 ≠ C)
theorem comp_core {pins : List (Addr × Obj)} {s₂ : Shared} {σ : St} {H₂ : Hp} {Q : VK} {it : Addr} {fp : List Addr} {tn : Nat → Heap → Prop} {J : It} {E : Value → Shared → Prop} (S : CompScope X N src scope) (hc : X.calm = true)
    (hg : ∀ C s H ex pn, PG (cxC X N scope C s H ex pn) tg g) (hx : GExt g src) (hi : ∀ C s H ex pn, PIf (cxC X N scope C s H ex pn) ifs tc) (he : ∀ C s H ex pn, PE (cxC X N scope C s H ex pn) elt te)
    (I : Inv X pins σ H₂ s₂) (T : Turn X.prog X.w X.K tg J fp it tn) (st : tn 0 s₂.heap) (ff : ∀ b ∈ fp, FpOk X pins H₂ b)
    (W : Nat → Nat → List V → Hp → Prop) (w0 : ∃ m, W 0 m [] H₂)
    (turn : ∀ i m out H', W i m out H' → (J.stop i H' ∧ ∀ D, H' D = none → Q (.ref D) (upd H' D (.lst out))) ∨
      (J.go i H' ∧ out.length < sizeLine ∧ ∀ x H2, J.yld i H' x H2 → g x (pick σ src) H2 fun σ3 H3 => tc σ3 H3 fun b H4 =>
        if b = true then te σ3 H4 fun v H5 => ∃ m', m' < m ∧ W (i + 1) m' (out ++ [v]) H5 else ∃ m', m' < m ∧ W (i + 1) m' out H4))
    {RR : Value → Addr → Result → Shared → Prop} (hRR : ∀ D C s', CompEnd X pins σ Q D C s' → RR (.ref D) C (.ok .next) s') :
    wpAny (model X.prog X.w) X.A (newList []) (fun acc s₃ => wpAny (model X.prog X.w) X.A (newFunctionEnv scope X.env.globals (clOf X.env.cells scope.names) [] X.env.qual none .none (some X.env)) (fun cenv s₄ =>
      codeAny (model X.prog X.w) X.A (.compStart (.ListComp elt [⟨tg, iter, ifs, 0⟩] scope pos) 0 (.ref it) acc { cenv with scope := relabel scope X.env }) (RR acc cenv.locals) s₄) E s₃) E s₂ := by
  refine wpAny_newObj_type (wpAny_newFunctionEnv S.nocell (by intro y hy; simp at hy) (fun h₁ hns₁ hsb₁ => ?_) S.kind)
  dsimp only at hns₁ hsb₁ ⊢
  generalize hH2 : s₂.heap.push { cls := .type "list", dict := none, data := .seq ([] : List Value).toArray } = G2 at hns₁ hsb₁ ⊢
  have hC : G2.objs.size = s₂.heap.objs.size + 1 := by rw [← hH2, Heap.size_push]
  have hDC : s₂.heap.objs.size ≠ G2.objs.size := by rw [hC]; exact Nat.ne_of_lt (Nat.lt_succ_self _)
  have hCle : s₂.heap.objs.size ≤ G2.objs.size := by rw [hC]; exact Nat.le_succ _
  have old : ∀ b o, s₂.heap.get? b = some o → h₁.get? b = some o := fun b o e =>
    hsb₁.extBut b o (Nat.ne_of_lt (Nat.lt_of_lt_of_le (Heap.lt_size e) hCle)) (Heap.get?_push_of_some _ (hH2 ▸ Heap.get?_push_of_some _ e))
  have hacc : h₁.get? s₂.heap.objs.size = some { cls := .type "list", dict := none, data := .seq ([] : List Value).toArray } := hsb₁.extBut _ _ hDC (Heap.get?_push_of_some _ (hH2 ▸ Heap.get?_push_size _ rfl))
  generalize hCC : G2.objs.size = C at hC hDC hCle hns₁ hsb₁ ⊢
  have hCle' : s₂.heap.objs.size ≤ C := hCle
  generalize hD : s₂.heap.objs.size = D at hC hDC hCle hacc ⊢
  have clsub : ∀ x c, (clOf X.env.cells scope.names).lookup x = some c → X.env.cells.lookup x = some c := clOf_sub X.env.cells scope.names [] (by intro x c h; simp at h)
  have cellLt : ∀ x c, X.env.cells.lookup x = some c → c < s₂.heap.objs.size := fun x c e => by obtain ⟨v, q⟩ := I.cell x c e; exact q.lt
  have ffne : ∀ b ∈ fp, b < s₂.heap.objs.size := fun b hb => by
    obtain ⟨o, e, _⟩ := T.obj _ _ st b hb
    exact Heap.lt_size e
  -- the block's context
  have ok : (cxC X N scope C s₂ H₂ fp (X.pn ++ pins)).Ok := by
    refine ⟨I.ok.mod, S.kind, I.ok.glob, I.ok.blt, hCle', fun x y c h1 h2 => I.ok.inj x y c (clsub _ _ h1) (clsub _ _ h2), fun x hk => ?_, fun x c h => (nomatch h), I.ok.hd, I.ok.frames, .inl rfl, fun b hb => ⟨?_, fun x c h => ?_⟩,
      I.bs, Nat.le_trans I.ok.bsz I.sz, fun b o e hb => ?_, fun b hb hf => ?_, I.stack, I.stkFree⟩
    · -- cells for the names
      have hk : (relabel scope X.env).names.lookup x = some .cell ∨ (relabel scope X.env).names.lookup x = some .free := hk
      unfold relabel at hk
      dsimp only at hk
      rw [lookup_relabel] at hk
      cases hl : scope.names.lookup x with
      | none => rw [hl] at hk; rcases hk with z | z <;> cases z
      | some k =>
        rw [hl] at hk
        have hm := PySem.mem_of_lookup hl
        have hkf : k = .free := by
          by_cases hkf : k = .free
          · exact hkf
          · exfalso
            have e1 : (k == NameKind.free) = false := by simpa using hkf
            simp only [Option.map, e1, Bool.false_and, Bool.false_eq_true, if_false] at hk
            rcases hk with z | z
            · exact S.nocell _ hm (Option.some.inj z)
            · exact hkf (Option.some.inj z)
        subst hkf
        obtain ⟨c, hcx⟩ := I.ok.has x (S.fre _ hm rfl)
        exact ⟨c, clOf_has X.env.cells scope.names [] x c (by intro x c h; simp at h) hm hcx⟩
    · exact Nat.ne_of_lt (Nat.lt_of_lt_of_le (ffne b hb) hCle')
    · exact (ff b hb).2.2.2.2.1 x c (clsub _ _ h)
    · have q : b ∈ X.ex ∨ X.s₀.heap.objs.size ≤ b := (ff b hb).2.2.2.1
      rcases q with q | q
      · exact I.ok.noex b o e q
      · exact absurd (Nat.lt_of_lt_of_le (Heap.lt_size e) (Nat.le_trans I.ok.bsz q)) (Nat.lt_irrefl _)
    · rcases List.mem_cons.mp (I.stkSub b hf) with z | z
      · exact (ff b hb).2.1 z
      · exact (ff b hb).2.2.1 z
  have notin : ∀ p ∈ X.pn ++ pins, p.1 ∉ frs X.stack := fun p hp z => by
    obtain ⟨_, _, ne, nf, _⟩ := I.pin p hp
    rcases List.mem_cons.mp (I.stkSub _ z) with q | q
    · exact ne q
    · exact nf q
  have pinLt : ∀ p ∈ X.pn ++ pins, p.1 < s₂.heap.objs.size := fun p hp => Heap.lt_size (I.pin p hp).1
  have stkLt : ∀ b ∈ frs X.stack, b < s₂.heap.objs.size := fun b hb => by
    rcases List.mem_cons.mp (I.stkSub b hb) with z | z
    · rw [z]; exact I.lt
    · obtain ⟨_, o, ho, _⟩ := I.ok.funs.mem z
      exact Nat.lt_of_lt_of_le (Heap.lt_size ho) I.sz
  have loc0 : ∀ (i : Nat) (x : Str) (v : V), N[i]? = some x → (pick σ src)[i]? = some (some v) → ∃ u c, RelV v u ∧ (clOf X.env.cells scope.names).lookup x = some c ∧ s₂.heap.IsCell c (some u) ∧ scope.names.lookup x = some .free := fun i x v e1 e2 => by
    unfold pick at e2
    rw [List.getElem?_map] at e2
    cases es : src[i]? with
    | none => rw [es] at e2; cases e2
    | some o =>
      rw [es] at e2
      cases o with
      | none => cases e2
      | some j =>
        have e3 : (σ[j]?).join = some v := Option.some.inj e2
        have e4 : σ[j]? = some (some v) := by
          cases q : σ[j]? with
          | none => rw [q] at e3; cases e3
          | some z => rw [q] at e3; exact congrArg some e3
        obtain ⟨a1, a2, a3⟩ := S.src i j x es e1
        obtain ⟨m0, _, hl⟩ := I.loc
        obtain ⟨u, r, l⟩ := hl j x v a1 e4 a3
        have hm := PySem.mem_of_lookup a2
        have hk := S.fre _ hm rfl
        rcases l with ⟨k, _⟩ | ⟨_, c, hcx, z⟩
        · rcases hk with hk | hk <;> (rw [k] at hk; cases hk)
        · exact ⟨u, c, r, clOf_has X.env.cells scope.names [] x c (by intro x c h; simp at h) hm hcx, z, a2⟩
  have kinds : ∀ x, scope.names.lookup x = some .free → (compEnvC scope (clOf X.env.cells scope.names) C X.env).kindOf x = some .cell ∨ (compEnvC scope (clOf X.env.cells scope.names) C X.env).kindOf x = some .free := fun x hx => by
    show (relabel scope X.env).names.lookup x = some .cell ∨ (relabel scope X.env).names.lookup x = some .free
    unfold relabel
    dsimp only
    rw [lookup_relabel, hx]
    dsimp only [Option.map]
    split
    · exact .inl rfl
    · exact .inr rfl
  have Ic : Inv (cxC X N scope C s₂ H₂ fp (X.pn ++ pins)) [] (pick σ src) H₂ { s₂ with heap := h₁, toks := s₂.toks + ([] : List (Str × Value)).length } := by
    refine ⟨ok, rfl, I.bare, Un.kept old, ⟨_, hns₁, fun i x v e1 e2 e3 => ?_⟩, fun x c e => ?_, I.hok.fresh hCle', fun x c e => I.freeC x c (clsub x c e), fun p hp => ?_, I.hok.kept old, ?_⟩
    · obtain ⟨u, c, r, e5, ⟨o, ho, hd⟩, hf⟩ := loc0 i x v e1 e2
      exact ⟨u, r, .inr ⟨kinds x hf, c, e5, ⟨o, old _ _ ho, hd⟩⟩⟩
    · obtain ⟨v, o, ho, hd⟩ := I.cell x c (clsub x c e)
      exact ⟨v, o, old _ _ ho, hd⟩
    · have hp : p ∈ X.pn ++ pins := by simpa [cxC] using hp
      obtain ⟨e, n, _, _, d⟩ := I.pin p hp
      exact ⟨old _ _ e, n, Nat.ne_of_lt (Nat.lt_of_lt_of_le (pinLt p hp) hCle'), notin p hp, d⟩
    · show (pick σ src).length = N.length
      unfold pick
      rw [List.length_map, S.len]
  have hDle : s₂.heap.objs.size ≤ D := Nat.le_of_eq hD
  have DneStk : D ∉ frs X.stack := fun z => absurd (Nat.lt_of_lt_of_le (stkLt D z) hDle) (Nat.lt_irrefl _)
  have Dnefp : D ∉ fp := fun z => absurd (Nat.lt_of_lt_of_le (ffne D z) hDle) (Nat.lt_irrefl _)
  have fpOk : ∀ {pl : List (Addr × Obj)} {H' : Hp}, (∀ b ∈ fp, H' b = none) → (∀ p ∈ pl, p.1 ∉ fp) → ∀ b ∈ fp, FpOk (cxC X N scope C s₂ H₂ fp (X.pn ++ pins)) pl H' b := fun {pl H'} hn hpl b hb => by
    obtain ⟨f0, f1, f2, f3, f4, f5⟩ := ff b hb
    refine ⟨hn b hb, Nat.ne_of_lt (Nat.lt_of_lt_of_le (ffne b hb) hCle'), fun z => ?_, .inl hb, fun x c e => f4 x c (clsub x c e), fun p hp => ?_⟩
    · rcases List.mem_cons.mp (I.stkSub b z) with q | q
      · exact f1 q
      · exact f2 q
    · have hp : p ∈ (X.pn ++ pins) ++ pl := hp
      rcases List.mem_append.mp hp with hp | hp
      · exact f5 p hp
      · exact fun z => hpl p hp (z ▸ hb)
  -- back in the def's own frame
  have back : ∀ {s' : Shared} {H' : Hp} {out : List V} {its : List Value} {nn : Nat} {σ' : St}, Inv (cxC X N scope C s₂ H₂ fp (X.pn ++ pins)) [] σ' H' s' → H' D = none → out.length ≤ sizeLine → Vals out its →
      s'.heap.get? D = some { cls := .type "list", data := .seq its.toArray nn } → (∀ D, H' D = none → Q (.ref D) (upd H' D (.lst out))) → CompEnd X pins σ Q D C s' := fun {s' H' out its nn σ'} I' hn hl hv ho q => by
    obtain ⟨m, hm, _⟩ := I'.loc
    have un : Un (frs X.stack) fp H₂ H' s₂.heap s'.heap := I'.base
    have neD : ∀ b o, s₂.heap.get? b = some o → b ≠ D := fun b o e => Nat.ne_of_lt (Nat.lt_of_lt_of_le (Heap.lt_size e) hDle)
    have fD : H₂ D = none := I.hok.fresh hDle
    refine ⟨upd H' D (.lst out), m, ?_, q D hn, hm, by rw [upd_ne (Ne.symm hDC)]; exact I'.free, Nat.ne_of_gt (Nat.lt_of_lt_of_le I.lt hCle'), Nat.le_trans I.sz hCle', fun x c e => Nat.ne_of_lt (Nat.lt_of_lt_of_le (cellLt x c e) hCle'), fun p hp => Nat.ne_of_lt (Nat.lt_of_lt_of_le (pinLt p hp) hCle')⟩
    refine I.call' (ch := fp) I'.os ⟨un.keep, un.slot, fun b o e n hb => ?_, un.there, fun b xs e => ?_, fun b o u e => ?_, fun b ps e => ?_⟩ (fun b o e => ?_) I'.bare fun b hb => ?_
    · rw [upd_ne (neD b o e)]; exact un.free b o e n hb
    · rw [upd_ne (ne_of_none e fD)]; exact un.tups b xs e
    · rw [upd_ne (ne_of_none e fD)]; exact un.frzs b o u e
    · rw [upd_ne (ne_of_none e fD)]; exact un.tbls b ps e
    · by_cases hb : b = D
      · subst hb
        rw [upd_same] at e
        cases e
        exact ⟨hl, its, nn, hv, ho⟩
      · rw [upd_ne hb] at e
        refine (I'.hok b o e).stay (fun c v _ q => q) (fun c q => ?_) fun c xs q => ?_
        · rw [upd_ne (ne_of_none q hn)]; exact q
        · rw [upd_ne (ne_of_none q hn)]; exact q
    · obtain ⟨f0, f1, f2, f3, f4, f5⟩ := ff b hb
      exact ⟨f3, f1, f4, f5⟩
  obtain ⟨m0, w0⟩ := w0
  have loop : ∀ s₄ : Shared, s₄ = { s₂ with heap := h₁, toks := s₂.toks + ([] : List (Str × Value)).length } →
      codeAny (model X.prog X.w) X.A (.compLoop (.ListComp elt [⟨tg, iter, ifs, 0⟩] scope pos) 0 (.ref it) (.ref D) (compEnvC scope (clOf X.env.cells scope.names) C X.env)) (RR (.ref D) C) s₄ := by
    rintro s₄ rfl
    refine codeAny_compLoop_go (EE := fun _ _ => False) (fun _ _ f => f.elim) (fun n s' => ∃ i out its nn H', Inv (cxC X N scope C s₂ H₂ fp (X.pn ++ pins)) [] (pick σ src) H' s' ∧ H' D = none ∧ out.length ≤ sizeLine ∧ Vals out its ∧
      s'.heap.get? D = some { cls := .type "list", data := .seq its.toArray nn } ∧ tn i s'.heap ∧ (∀ b ∈ fp, H' b = none) ∧ W i n out H') ?_ m0
      ⟨0, [], [], 0, H₂, Ic, I.hok.fresh hDle, Nat.zero_le _, .nil, hacc, T.keep _ _ _ st fun b hb o e => old b o e, fun b hb => (ff b hb).1, w0⟩
    rintro n s3 ⟨i, out, its, nn, H3, I3, hD3, hl3, hv3, ho3, st3, fr3, w3⟩
    have dataNe : ∀ (its : List Value) (nn : Nat) (v : Option Value), ({ cls := .type "list", data := .seq its.toArray nn } : Obj).data ≠ .cell v := fun _ _ _ z => nomatch z
    have I3p : Inv (cxC X N scope C s₂ H₂ fp (X.pn ++ pins)) [(D, { cls := .type "list", data := .seq its.toArray nn })] (pick σ src) H3 s3 := I3.pins_of fun p hp => by
      have e : p = (D, { cls := .type "list", data := .seq its.toArray nn }) := by simpa using hp
      subst e
      exact ⟨ho3, hD3, hDC, DneStk, dataNe its nn⟩
    have nfp : ∀ p ∈ [((D, { cls := .type "list", data := .seq its.toArray nn }) : Addr × Obj)], p.1 ∉ fp := fun p hp => by
      have e : p = (D, { cls := .type "list", data := .seq its.toArray nn }) := by simpa using hp
      subst e
      exact Dnefp
    rcases turn i n out H3 w3 with ⟨stop, qn⟩ | ⟨go, hlt, step⟩
    · refine thn (T.done (cxC X N scope C s₂ H₂ fp (X.pn ++ pins)) rfl rfl rfl hc i _ s3 _ H3 _ I3p (fpOk fr3 nfp) st3 stop) fun r s4 ⟨hr, I4⟩ => ?_
      subst hr
      have p4 := (I4.pin (D, { cls := .type "list", data := .seq its.toArray nn }) (List.mem_append_right _ (by simp))).1
      exact hRR D C s4 (back (I4.pins_of (pins' := []) fun p hp => nomatch hp) hD3 hl3 hv3 p4 qn)
    · refine thn (T.item (cxC X N scope C s₂ H₂ fp (X.pn ++ pins)) rfl rfl rfl hc i _ s3 _ H3 _ I3p (fpOk fr3 nfp) st3 go) fun r s4 ⟨u, hr, h4⟩ => ?_
      subst hr
      refine thn h4 fun _ s5 ⟨x, H5, I5, r5, y5, st5, fr5⟩ => ?_
      have I5' := I5.pinned (fpOk fr5 nfp) (T.obj _ _ st5)
      refine thn (hg _ _ _ _ _ _ s5 _ H5 x u _ I5' r5 (hx x σ H5 _ (step x H5 y5))) fun _ s6 ⟨σ6, H6, I6, e6, q6⟩ => ?_
      have fin : ∀ {s7 : Shared} {H7 : Hp}, Inv (cxC X N scope C s₂ H₂ fp (X.pn ++ pins)) ([(D, { cls := .type "list", data := .seq its.toArray nn })] ++ pinsAt fp s5.heap) σ6 H7 s7 →
          Inv (cxC X N scope C s₂ H₂ fp (X.pn ++ pins)) [] (pick σ src) H7 s7 ∧ H7 D = none ∧ s7.heap.get? D = some { cls := .type "list", data := .seq its.toArray nn } ∧ tn (i + 1) s7.heap ∧ ∀ b ∈ fp, H7 b = none := fun {s7 H7} I7 => by
        have pD := I7.pin (D, { cls := .type "list", data := .seq its.toArray nn }) (List.mem_append_right _ (by simp))
        refine ⟨(I7.pins_of (pins' := []) fun p hp => nomatch hp).weak e6.1.symm e6.2, pD.2.1, pD.1, T.keep _ _ _ st5 fun b hb o e => (I7.pin (b, o) (List.mem_append_right _ (List.mem_append_right _ (mem_pinsAt hb e)))).1, fun b hb => ?_⟩
        obtain ⟨o, e, d⟩ := T.obj _ _ st5 b hb
        exact (I7.pin (b, o) (List.mem_append_right _ (List.mem_append_right _ (mem_pinsAt hb e)))).2.1
      refine thn (hi _ _ _ _ _ _ s6 σ6 H6 _ I6 q6) fun b s7 ⟨H7, I7, q7⟩ => ?_
      cases b with
      | false =>
        rw [if_neg Bool.false_ne_true] at q7 ⊢
        obtain ⟨m', hm, w7⟩ := q7
        obtain ⟨J7, d7, o7, t7, f7⟩ := fin I7
        exact ⟨m', hm, i + 1, out, its, nn, H7, J7, d7, hl3, hv3, o7, t7, f7, w7⟩
      | true =>
        rw [if_pos rfl] at q7 ⊢
        refine thn (he _ _ _ _ _ _ s7 σ6 H7 _ I7 q7) fun v s8 ⟨y, H8, I8, r8, m', hm, w8⟩ => ?_
        obtain ⟨J8, d8, o8, t8, f8⟩ := fin I8
        have hsz : its.toArray.size ≤ sizeLine := by rw [List.size_toArray, ← hv3.length]; exact hl3
        refine wpAny_list_append_plain (items := its.toArray) (hsz := hsz) ⟨nn, o8⟩ fun h9 ⟨n9, e9⟩ sb => ?_
        have J9 : Inv (cxC X N scope C s₂ H₂ fp (X.pn ++ pins)) [] (pick σ src) H8 { s8 with heap := h9 } := J8.turned (t' := s8.toks) (it := D) (fun b o hb e => (sb.2 b hb).trans e) d8 hDC (.inr hDle) (fun x c e => Nat.ne_of_lt (Nat.lt_of_lt_of_le (cellLt x c (clsub x c e)) hDle)) fun p hp => by
          have hp : p ∈ X.pn ++ pins := by simpa [cxC] using hp
          exact Nat.ne_of_lt (Nat.lt_of_lt_of_le (pinLt p hp) hDle)
        refine ⟨m', hm, i + 1, out ++ [y], its ++ [v], n9, H8, J9, d8, ?_, hv3.append (.cons r8 .nil), ?_, T.keep _ _ _ t8 fun b hb o e => (sb.2 b (fun z => Dnefp (z ▸ hb))).trans e, f8, w8⟩
        · rw [List.length_append]; exact hlt
        · rw [e9]; simp
  exact codeAny_compStart_list (loop _ rfl) (T.self _ _ _ _ _ (T.keep _ _ _ st fun b hb o e => old b o e) (loop _ rfl))
theorem pe_comp (S : CompScope X N src scope) (hc : X.calm = true) (hit : PI X tg iter wi)
    (hg : ∀ C s H ex pn, PG (cxC X N scope C s H ex pn) tg g) (hx : GExt g src) (hi : ∀ C s H ex pn, PIf (cxC X N scope C s H ex pn) ifs tc) (he : ∀ C s H ex pn, PE (cxC X N scope C s H ex pn) elt te)
    (hs : ∀ x, foldedSetIterable iter X.env x = pure x := by intro _; rfl) : PE X (.ListComp elt [⟨tg, iter, ifs, 0⟩] scope pos) (tComp wi src g tc te) := by
  intro pins s σ H Q I h
  rw [eval_ListComp]
  have hcl : closureFor scope X.env = pure (clOf X.env.cells scope.names) := closureFor_cl fun y hy hf => I.ok.has y.1 (S.fre y hy hf)
  refine wpAny_comprehension_free (use := none) rfl hs hcl S.kind S.loc (thn (hit pins s σ H _ I h) fun v s1 h1 => thn h1 fun itv s2 h2 => ?_)
  obtain ⟨it, fp, tn, J, H2, e, I2, T, st2, f2, W, w0, turn⟩ := h2
  subst e
  refine comp_core (RR := fun acc C => compPost (model X.prog X.w) X.A X.xe none (EP X pins σ Q) acc C) S hc hg hx hi he I2 T st2 f2 W w0 turn fun D C s' ⟨H', m, I', q, hm, hn, h1, h2, h3, h4⟩ => ?_
  exact ⟨m, hm, fun h' sb => ⟨.ref D, H', I'.turned (t' := s'.toks) (it := C) (fun b o hb e => (sb.2 b hb).trans e) hn h1 (.inr h2) h3 h4, rfl, q⟩⟩
end
theorem pick_none {σ : St} {src : List (Option Nat)} {i : Nat} (h : src[i]? = some none) : (pick σ src)[i]? = some none := by
  unfold pick
  rw [List.getElem?_map, h]
  rfl
theorem Ext.set {σ0 σ : St} {i : Nat} {v : V} (h : σ0[i]? = some none) (e : Ext σ0 σ) : Ext σ0 (σ.set i (some v)) := by
  refine ⟨by rw [List.length_set]; exact e.1, fun j w hj => ?_⟩
  have : i ≠ j := by
    rintro rfl
    rw [h] at hj
    cases hj
  rw [List.getElem?_set_ne this]
  exact e.2 j w hj
theorem Ext.refl (σ : St) : Ext σ σ := ⟨rfl, fun _ _ h => h⟩
theorem gx_name {src : List (Option Nat)} {i : Nat} (h : src[i]? = some none) : GExt (gName i) src := fun x σ H Q q => ⟨(Ext.refl _).set (pick_none h), q⟩
theorem gx_tup2 {K : PySem.W.Frag} {n : Nat} {src : List (Option Nat)} {i j : Nat} (h : src[i]? = some none) (h' : src[j]? = some none) : GExt (gTup K n (gCons (gName i) (gCons (gName j) gNil))) src := fun x σ H Q q => by
  obtain ⟨a, xs, e1, hs, hl, v, r, e2, v2, r2, e3, e4, q⟩ := q
  exact ⟨a, xs, e1, hs, hl, v, r, e2, v2, r2, e3, e4, ((Ext.refl _).set (pick_none h)).set (pick_none h'), q⟩
theorem all_bools {xs : List V} {its : List Value} {bs : List Bool} (hv : Vals xs its) (hb : xs = bs.map V.bl) : ∀ (i : Nat) (v : Value), its.toArray[i]? = some v → v = Value.bool ((bs[i]?).getD false) := by
  subst hb
  intro i v h
  have h' : its[i]? = some v := by simpa using h
  have hl := hv.length
  rw [List.length_map] at hl
  have hi : i < its.length := (List.getElem?_eq_some_iff.mp h').1
  have hb : bs[i]? = some (bs[i]'(by omega)) := by simp
  obtain ⟨u, hu, r⟩ := hv.get (i := i) (x := V.bl (bs[i]'(by omega))) (by rw [List.getElem?_map, hb]; rfl)
  rw [h'] at hu
  cases hu
  rw [hb]
  exact r
theorem range_all {bs : List Bool} : (List.range bs.length).all (fun i => (bs[i]?).getD false) = bs.all id := by
  rw [Bool.eq_iff_iff, List.all_eq_true, List.all_eq_true]
  constructor
  · intro h b hb
    obtain ⟨i, hi, rfl⟩ := List.mem_iff_getElem.mp hb
    have := h i (List.mem_range.mpr hi)
    simpa [hi] using this
  · intro h i hi
    have hi := List.mem_range.mp hi
    simpa [hi] using h _ (List.getElem_mem hi)
section
variable {X : Cx}
theorem call_all_list (hc : X.calm = true) : CallR X (.builtin "all") (fun xs H Q => ∃ (a : Addr) (bs : List Bool), xs = [.ref a] ∧ SqL X.K H a (bs.map V.bl) ∧ Q (.bl (bs.all id)) H) := by
  intro pins s σ H xs us Q I r h
  obtain ⟨a, bs, rfl, hq, q⟩ := h
  obtain ⟨u, rfl, ru⟩ := vals1 r
  cases ru
  obtain ⟨its, rv, p, hz⟩ := I.list hq
  have hl := rv.length
  rw [List.length_map] at hl
  refine call_all_walk (wpAny_pyIter_list p.isList ?_)
  refine ⟨s.heap.objs.size, _, _, _, _, _, fun i => (bs[i]?).getD false, rfl, Walks.list (A := X.A.in1) (I.ok.hd hc) s.heap.objs.size a (Nat.ne_of_lt p.lt) its.toArray, ⟨⟨_, Heap.get?_push_size _ rfl, rfl, rfl⟩, p.isList.at fun o e => Heap.get?_push_of_some _ e⟩, ?_, fun h' tk hk => ?_⟩
  · intro i v s' Q' E' hv hQ
    rw [all_bools rv rfl i v hv]
    exact wpAny_truthy_bool hQ
  · have e : its.toArray.size = bs.length := by rw [List.size_toArray, ← hl]
    rw [e, range_all]
    exact ⟨.bl (bs.all id), H, I.kept (h' := h') (t' := tk) (fun b o e => hk b o (by simpa using Nat.ne_of_lt (Heap.lt_size e)) (Heap.get?_push_of_some _ e)), rfl, q⟩
end
end L2
namespace L2
open PySem PySem.Spec PyProof.Rows
def ownOf : HO → Option Addr
  | .ins _ dx _ => some dx
  | .frz _ u => ownOf u
  | _ => none
structure Fg (H H' G : Hp) : Prop where
  sub : ∀ b o, G b = some o → H' b = some o
  dom : ∀ b o, H b = some o → ∃ o', G b = some o'
  own : ∀ a o dx, G a = some o → ownOf o = some dx → (∃ o', H a = some o' ∧ ownOf o' = some dx) ∨ ∃ o', G dx = some o'
section
variable {X : Cx} {pins : List (Addr × Obj)} {σ σ' : St} {H H' G : Hp} {s s' : Shared}
end
end L2
namespace L2
open PySem PySem.Spec PyProof.Rows
theorem bt_len : bootBuiltins "len" = some (.builtin "len") := PySem.boot_len
theorem bt_all : bootBuiltins "all" = some (.builtin "all") := boot_all
theorem bt_isinstance : bootBuiltins "isinstance" = some (.builtin "isinstance") := boot_isinstance
theorem bt_int : bootBuiltins "int" = some (.type "int") := PyProof.Rows.boot_int
theorem bt_bool : bootBuiltins "bool" = some (.type "bool") := PyProof.Rows.boot_bool
theorem bt_str : bootBuiltins "str" = some (.type "str") := PyProof.Rows.boot_str
theorem bt_tuple : bootBuiltins "tuple" = some (.type "tuple") := PyProof.Rows.boot_tuple
inductive Kd where
  | non | bl | int | str | lst | tup | dct
  deriving DecidableEq
def Kd.name : Kd → String
  | .non => "NoneType" | .bl => "bool" | .int => "int" | .str => "str" | .lst => "list" | .tup => "tuple" | .dct => "dict"
inductive KdOf (H : Hp) : V → Kd → Prop where
  | non : KdOf H .non .non
  | bl (b : Bool) : KdOf H (.bl b) .bl
  | int (i : Int) : KdOf H (.int i) .int
  | str (x : Str) : KdOf H (.str x) .str
  | lst {a : Addr} {xs : List V} (e : H a = some (.lst xs)) : KdOf H (.ref a) .lst
  | tup {a : Addr} {xs : List V} (e : H a = some (.tup xs)) : KdOf H (.ref a) .tup
  | dct {a : Addr} {kvs : List (Key × V)} (e : H a = some (.dK kvs)) : KdOf H (.ref a) .dct
theorem KdOf.ty {K : PySem.W.Frag} {H : Hp} {x : V} {k : Kd} (h : KdOf H x k) : TyOf K H x (.type k.name) := by
  cases h with
  | non => exact .non
  | bl b => exact .bl b
  | int i => exact .int i
  | str x => exact .str x
  | lst e => exact .lst e
  | tup e => exact .tup e
  | dct e => exact .dK e
def isaT (T : String) : Option (Kd → Bool) :=
  if T = "int" then some fun k => match k with | .int => true | .bl => true | _ => false
  else if T = "bool" then some fun k => match k with | .bl => true | _ => false
  else if T = "str" then some fun k => match k with | .str => true | _ => false
  else if T = "tuple" then some fun k => match k with | .tup => true | _ => false
  else if T = "list" then some fun k => match k with | .lst => true | _ => false
  else if T = "dict" then some fun k => match k with | .dct => true | _ => false
  else none
theorem isaT_kit {K : PySem.W.Frag} {T : String} {g : Kd → Bool} (h : isaT T = some g) (k : Kd) : PySem.W.kitOne K (.type k.name) (.type T) = some (g k) := by
  unfold isaT at h
  split at h
  · rename_i e; subst e; cases h; cases k <;> rfl
  · split at h
    · rename_i e; subst e; cases h; cases k <;> rfl
    · split at h
      · rename_i e; subst e; cases h; cases k <;> rfl
      · split at h
        · rename_i e; subst e; cases h; cases k <;> rfl
        · split at h
          · rename_i e; subst e; cases h; cases k <;> rfl
          · split at h
            · rename_i e; subst e; cases h; cases k <;> rfl
            · cases h
section
variable {X : Cx}
theorem call_isi : CallR X (.builtin "isinstance") (fun xs H Q => ∃ x T k g, xs = [x, .ty T] ∧ isaT T = some g ∧ KdOf H x k ∧ Q (.bl (g k)) H) := by
  intro pins s σ H xs us Q I r h
  obtain ⟨x, T, k, g, rfl, hg, hk, q⟩ := h
  obtain ⟨v, w', rfl, rv, rw'⟩ := vals2 r
  cases rw'
  exact isinst_ok I rv hk.ty (isaT_kit hg k) fun tk => ⟨.bl (g k), H, I.tok tk, rfl, q⟩
end
mutual
def Dt (K : PySem.W.Frag) (H : Hp) : PyData → V → Prop
  | .none, v => v = .non
  | .bool b, v => v = .bl b
  | .int i, v => v = .int i
  | .str z, v => v = .str z
  | .list ds, v => ∃ a xs, v = .ref a ∧ SqL K H a xs ∧ DtAll K H ds xs
  | .tuple ds, v => ∃ a xs, v = .ref a ∧ SqT K H a xs ∧ DtAll K H ds xs
  | .dict _, _ => False
def DtAll (K : PySem.W.Frag) (H : Hp) : List PyData → List V → Prop
  | [], xs => xs = []
  | d :: ds, xs => ∃ y ys, xs = y :: ys ∧ Dt K H d y ∧ DtAll K H ds ys
end
section
variable {X : Cx} {pins : List (Addr × Obj)} {σ : St} {H : Hp} {s : Shared}
mutual
theorem Inv.reads (I : Inv X pins σ H s) : ∀ (d : PyData) {x : V} {u : Value}, Dt X.K H d x → RelV x u → ∃ as, Reads s.heap u d as
  | .none, x, u, h, r => by
    have h : x = .non := by simpa only [Dt] using h
    subst h; cases r; exact ⟨_, .none⟩
  | .bool b, x, u, h, r => by
    have h : x = .bl b := by simpa only [Dt] using h
    subst h; cases r; exact ⟨_, .bool b⟩
  | .int i, x, u, h, r => by
    have h : x = .int i := by simpa only [Dt] using h
    subst h; obtain ⟨t, rfl⟩ := r; exact ⟨_, .int i t⟩
  | .str z, x, u, h, r => by
    have h : x = .str z := by simpa only [Dt] using h
    subst h; obtain ⟨t, rfl⟩ := r; exact ⟨_, .str z t⟩
  | .list ds, x, u, h, r => by
    have h : ∃ a xs, x = .ref a ∧ SqL X.K H a xs ∧ DtAll X.K H ds xs := by simpa only [Dt] using h
    obtain ⟨a, xs, rfl, hq, hd⟩ := h
    cases r
    obtain ⟨its, rv, p, _⟩ := I.list hq
    obtain ⟨as, ra⟩ := Inv.readsAll I ds hd rv
    obtain ⟨o, e, c, n, d⟩ := p.isList
    exact ⟨_, .list e c d (by simpa using ra)⟩
  | .tuple ds, x, u, h, r => by
    have h : ∃ a xs, x = .ref a ∧ SqT X.K H a xs ∧ DtAll X.K H ds xs := by simpa only [Dt] using h
    obtain ⟨a, xs, rfl, hq, hd⟩ := h
    cases r
    obtain ⟨its, rv, p, _⟩ := I.tuple hq
    obtain ⟨as, ra⟩ := Inv.readsAll I ds hd rv
    obtain ⟨o, e, c, n, d⟩ := p
    exact ⟨_, .tuple e c d (by simpa using ra)⟩
  | .dict _, x, u, h, r => by
    have h : False := by simpa only [Dt] using h
    exact h.elim
theorem Inv.readsAll (I : Inv X pins σ H s) : ∀ (ds : List PyData) {xs : List V} {us : List Value}, DtAll X.K H ds xs → Vals xs us → ∃ as, ReadsAll s.heap us ds as
  | [], xs, us, h, r => by
    have h : xs = [] := by simpa only [DtAll] using h
    subst h; cases r; exact ⟨_, .nil⟩
  | d :: ds, xs, us, h, r => by
    have h : ∃ y ys, xs = y :: ys ∧ Dt X.K H d y ∧ DtAll X.K H ds ys := by simpa only [DtAll] using h
    obtain ⟨y, ys, rfl, h1, h2⟩ := h
    cases r with
    | cons r1 r2 =>
      obtain ⟨as, ra⟩ := Inv.reads I d h1 r1
      obtain ⟨bs, rb⟩ := Inv.readsAll I ds h2 r2
      exact ⟨_, .cons ra rb⟩
end
end
def rEqD (K : PySem.W.Frag) (neg : Bool) : R2 := fun x y H Q => ∃ d e, Dt K H d x ∧ Dt K H e y ∧ d.canLay0 = true ∧ e.canLay0 = true ∧ (d.depth ≤ 64 ∨ e.depth ≤ 64) ∧ Q (.bl (if neg then !PyData.eqv d e else PyData.eqv d e)) H
section
variable {X : Cx}
theorem op_eqD (hu : X.A.units + 64 < cLine) : OpR X (compareOp .Eq) (rEqD X.K false) := by
  intro pins s σ H x y v u Q I rx ry h
  obtain ⟨d, e, hd, he, cd, ce, dp, q⟩ := h
  obtain ⟨as, ra⟩ := I.reads d hd rx
  obtain ⟨bs, rb⟩ := I.reads e he ry
  exact SeqAt.compareEq_reads ra rb cd ce (by rcases dp with dp | dp <;> omega) (fin_bl I q rfl)
theorem op_neD (hu : X.A.units + 64 < cLine) : OpR X (compareOp .NotEq) (rEqD X.K true) := by
  intro pins s σ H x y v u Q I rx ry h
  obtain ⟨d, e, hd, he, cd, ce, dp, q⟩ := h
  obtain ⟨as, ra⟩ := I.reads d hd rx
  obtain ⟨bs, rb⟩ := I.reads e he ry
  exact SeqAt.compareNe_reads ra rb cd ce (by rcases dp with dp | dp <;> omega) (fin_bl I q rfl)
end
theorem sLe_one (a b : Nat) : sLe ⟨#[a]⟩ ⟨#[b]⟩ = decide (a ≤ b) := by
  unfold sLe
  have e : ([b] < [a]) ↔ b < a := by
    rw [List.cons_lt_cons_iff]
    constructor
    · rintro (h | ⟨_, h⟩)
      · exact h
      · exact absurd h (List.not_lt_nil _)
    · exact .inl
  rw [Bool.eq_iff_iff]
  show (!decide ([b] < [a])) = true ↔ _
  rw [Bool.not_eq_true', decide_eq_false_iff_not, e, decide_eq_true_iff]
  omega
end L2
namespace L2
open PySem PySem.Spec PyProof.Rows
def chkC (sc : Scope) (N0 N : List Str) (src : List (Option Nat)) (scope : Scope) : Bool :=
  decide (scope.kind = .function) && (scope.names.all (fun y => decide (y.2 ≠ .cell) && (decide (y.2 ≠ .local) || decide (scope.names.lookup y.1 = some .local)) && (decide (y.2 ≠ .free) || (decide (sc.names.lookup y.1 = some .cell) || decide (sc.names.lookup y.1 = some .free)))) &&
    (decide (src.length = N.length) && (List.range src.length).all fun i => match src[i]?, N[i]? with
      | some (some j), some x => decide (N0[j]? = some x) && (decide (scope.names.lookup x = some .free) && (decide (sc.names.lookup x = some .cell) || decide (sc.names.lookup x = some .free)))
      | _, _ => true))
theorem csc {X : Cx} {N : List Str} {src : List (Option Nat)} {scope : Scope} (sc : Scope) (N0 : List Str) (hs : X.env.scope = sc) (hN : X.N = N0) (h : chkC sc N0 N src scope = true) : CompScope X N src scope := by
  unfold chkC at h
  simp only [Bool.and_eq_true, decide_eq_true_eq, List.all_eq_true, Bool.or_eq_true] at h
  obtain ⟨h1, h2, h3, h4⟩ := h
  refine ⟨h1, fun y hy => (h2 y hy).1.1, fun y hy e => ?_, fun y hy e => ?_, h3, fun i j x e1 e2 => ?_⟩
  · rcases (h2 y hy).1.2 with z | z
    · exact absurd e z
    · exact z
  · rcases (h2 y hy).2 with z | z
    · exact absurd e z
    · show X.env.scope.names.lookup y.1 = some .cell ∨ X.env.scope.names.lookup y.1 = some .free
      rw [hs]; exact z
  · have hi : i < src.length := (List.getElem?_eq_some_iff.mp e1).1
    have q := h4 i (List.mem_range.mpr hi)
    rw [e1, e2] at q
    simp only [Bool.and_eq_true, decide_eq_true_eq, Bool.or_eq_true] at q
    refine ⟨by rw [hN]; exact q.1, q.2.1, ?_⟩
    unfold Vis
    rw [hs]
    exact .inr q.2.2
end L2
namespace L2
open PySem PySem.Spec PyProof.Rows
section
variable {X : Cx}
end
theorem atI_mod {α : Type} {l : List α} {i : Int} (h0 : 0 ≤ i) (h1 : i < l.length) : ∃ v, atI l i = some v ∧ l[i.toNat]? = some v := by
  obtain ⟨j, rfl⟩ := Int.eq_ofNat_of_zero_le h0
  have hj : j < l.length := by omega
  exact ⟨l[j], atI_nat (by simp [hj]), by simp [hj]⟩
theorem ifb {c : Bool} {A B : Prop} (h : c = true → A) (h' : c = false → B) : if c = true then A else B := by
  cases c with
  | true => exact h rfl
  | false => exact h' rfl
theorem nt {b : Bool} (h : (!b) = true) : b = false := by cases b <;> simp_all
theorem nf {b : Bool} (h : (!b) = false) : b = true := by cases b <;> simp_all
def isaInt : Kd → Bool | .int => true | .bl => true | _ => false
def isaBool : Kd → Bool | .bl => true | _ => false
def isaStr : Kd → Bool | .str => true | _ => false
def isaTuple : Kd → Bool | .tup => true | _ => false
theorem isa_int : isaT "int" = some isaInt := if_pos rfl
theorem isa_bool : isaT "bool" = some isaBool := (if_neg (by decide)).trans (if_pos rfl)
theorem isa_str : isaT "str" = some isaStr := (if_neg (by decide)).trans ((if_neg (by decide)).trans (if_pos rfl))
theorem isa_tuple : isaT "tuple" = some isaTuple := (if_neg (by decide)).trans ((if_neg (by decide)).trans ((if_neg (by decide)).trans (if_pos rfl)))
theorem len_pos {z : Str} (h : 1 ≤ z.cps.size) : ∃ c r, z.cps.toList = c :: r := by
  cases e : z.cps.toList with
  | nil =>
    have : z.cps.toList.length = 0 := by rw [e]; rfl
    rw [Array.length_toList] at this
    omega
  | cons c r => exact ⟨c, r, rfl⟩
theorem at0 {α : Type} {l : List α} {c : α} {r : List α} (e : l = c :: r) : atI l 0 = some c := by
  have : l[0]? = some c := by rw [e]; rfl
  exact atI_nat (j := 0) this
def isPlain : Expr → Bool
  | .Starred _ _ => false
  | _ => true
theorem star_plain {e : Expr} {es : List Expr} {env : Env} (h : isPlain e = true) : starEach (e :: es) env = (false, eval e env) :: starEach es env := by
  cases e <;> first
    | rfl
    | exact absurd h Bool.false_ne_true
theorem pa2 {X : Cx} {e : Expr} {es : List Expr} {te : TE} {t : TA} (ha : PE X e te) (hr : PA X es t) (hp : isPlain e = true := by rfl) : PA X (e :: es) (tCons te t) := pa_cons ha hr (star_plain hp)
end L2
namespace HT
open PySem PyProof.Rows
open PySem.SeqAt
open PySem.AutoSeq1 (wpAny_loadPart')
open PySem.MeetsSeq PySem.MeetsSeq2 PySem.MeetsSeq3
end HT
namespace L2
open PySem PySem.Spec PyProof.Rows
section
variable {X : Cx}
end
section
variable {X : Cx} {K : PySem.W.Frag}
end
end L2
namespace L2
open PySem PySem.Spec PyProof.Rows
theorem ObjOk.get {P : Program} {w : World} {H : Hp} {h : Heap} {a : Addr} {o : HO} (x : ObjOk P w H h a o) : ∃ u, h.get? a = some u := by
  cases o with
  | lst xs => obtain ⟨_, _, _, _, e⟩ := x; exact ⟨_, e⟩
  | tup xs => obtain ⟨_, _, _, ob, e, _⟩ := x; exact ⟨_, e⟩
  | dK kvs => obtain ⟨_, _, _, _, o, _, _, e, _⟩ := x; exact ⟨_, e⟩
  | dT kvs => exact False.elim x
  | set S n => obtain ⟨o, _, _, _, e, _⟩ := x; exact ⟨_, e⟩
  | ins C dx fs => obtain ⟨_, _, _, e, _⟩ := x; exact ⟨_, e⟩
  | own y => obtain ⟨_, e⟩ := x; exact ⟨_, e⟩
  | xd fs => obtain ⟨_, ⟨_, _, _, e, _⟩, _⟩ := x; exact ⟨_, e⟩
  | rng lo hi => obtain ⟨_, _, _, e⟩ := x; exact ⟨_, e⟩
  | frz ob u => obtain ⟨e, _⟩ := x; exact ⟨_, e⟩
  | tbl ps => exact ⟨_, show h.get? a = some _ from x⟩
  | met f y => exact ⟨_, show h.get? a = some _ from x⟩
  | ext φ => obtain ⟨_, e, _⟩ := x; exact e
structure Fly (P : Program) (w : World) (outer : List Env) (H H' : Hp) (h0 : Heap) (a : Addr) (cls a0 : Value) (B h : Heap) : Prop where
  fl : Heap.FlyingW B outer a cls a0 h
  hok : HOk P w H' B
  keep : ∀ b o, h0.get? b = some o → H b = none → b ∉ frs outer → B.get? b = some o
  there : ∀ b o, h0.get? b = some o → b ∉ frs outer → ∃ o', B.get? b = some o'
  slot : ∀ b o, h0.get? b = some o → b ∈ frs outer → ∃ sl, h.get? b = some { o with slots := sl }
  free : ∀ b o, h0.get? b = some o → H b = none → H' b = none
  tups : ∀ b xs, H b = some (.tup xs) → H' b = some (.tup xs)
  frzs : ∀ b o u, H b = some (.frz o u) → H' b = some (.frz o u)
  tbls : ∀ b ps, H b = some (.tbl ps) → ∃ more, H' b = some (.tbl (ps ++ more))
section
variable {P : Program} {w : World} {outer : List Env} {H H' : Hp} {h0 : Heap} {a : Addr} {cls a0 : Value} {B h h2 : Heap}
theorem Fly.un (F : Fly P w outer H H' h0 a cls a0 B h) : Un (frs outer) [] H H' h0 h where
  keep := fun b o e n hf _ => F.fl.1 b o (F.keep b o e n hf)
  slot := fun b o e _ hf _ => F.slot b o e hf
  free := fun b o e n _ => F.free b o e n
  there := fun b o e _ => by
    by_cases hf : b ∈ frs outer
    · obtain ⟨sl, q⟩ := F.slot b o e hf; exact ⟨_, q⟩
    · obtain ⟨o', q⟩ := F.there b o e hf; exact ⟨o', F.fl.1 b o' q⟩
  tups := F.tups
  frzs := F.frzs
  tbls := F.tbls
theorem Fly.hokh (F : Fly P w outer H H' h0 a cls a0 B h) : HOk P w H' h := F.hok.kept F.fl.1
theorem Fly.hn (F : Fly P w outer H H' h0 a cls a0 B h) : H' a = none := by
  cases q : H' a with
  | none => rfl
  | some o =>
    obtain ⟨u, e⟩ := (F.hok a o q).get
    rw [F.fl.2.1] at e; cases e
theorem Fly.on (F : Fly P w outer H H' h0 a cls a0 B h) (f2 : Heap.FlyingW B outer a cls a0 h2) (u2 : h.UpToSlots h2) : Fly P w outer H H' h0 a cls a0 B h2 where
  fl := f2
  hok := F.hok
  keep := F.keep
  there := F.there
  slot := fun b o e hf => by
    obtain ⟨sl, q⟩ := F.slot b o e hf
    obtain ⟨_, o1, q1, hd⟩ := F.fl.2.2.1.mem hf
    obtain ⟨sl2, q2⟩ := u2 b o1 q1 hd
    rw [q] at q1; cases q1
    exact ⟨sl2, q2⟩
  free := F.free
  tups := F.tups
  frzs := F.frzs
  tbls := F.tbls
end
def CXR (P : Program) (w : World) : CXT := fun outer H s E e s' =>
  ∃ a cls a0 B H', e = .ref a ∧ s'.os = s.os ∧ AllBare s'.gens ∧ Fly P w outer H H' s.heap a cls a0 B s'.heap ∧ E cls none H'
structure Leaves (X : Cx) (E : XK) : Prop where
  ex : X.ex = []
  st : X.stack = X.env :: X.outer
  fr : X.env.frame = some X.env.locals
  xe : ∀ e s', wpAny (model X.prog X.w) X.A (leaving X.env e) (fun _ s'' => CXR X.prog X.w X.outer X.H₀ X.s₀ E e s'') (fun e' s'' => CXR X.prog X.w X.outer X.H₀ X.s₀ E e' s'') s' → X.xe e s'
theorem leaves_of {P : Program} {w : World} {K : PySem.W.Frag} {mg : Str → Option Value} {base : Heap} {N : List Str} {qual : Str} {scope : Scope} {f : Addr} {cd : Value} {A : Around} {outer : List Env} {s : Shared} {H : Hp} {E : XK} :
    Leaves (cxOf (CXR P w) P w K mg base N qual scope f cd A outer s H E) E := ⟨rfl, rfl, rfl, fun _ _ h => h⟩
section
variable {X : Cx} {pins : List (Addr × Obj)} {σ : St} {H H' : Hp} {s : Shared} {E E' : XK}
theorem Leaves.mem (L : Leaves X E) {b : Addr} : b ∈ frs X.stack ↔ b = X.env.locals ∨ b ∈ X.fs := by
  unfold Cx.fs frs
  rw [L.st, List.filterMap_cons, L.fr]
  exact List.mem_cons
theorem Leaves.nofr (L : Leaves X E) (I : Inv X pins σ H s) {b : Addr} {o : Obj} (e : X.s₀.heap.get? b = some o) (h : b ∉ X.fs) : b ∉ frs X.stack := fun z => by
  rcases L.mem.mp z with z | z
  · have := Heap.lt_size e
    have h2 := I.ok.above
    rw [z] at this
    exact absurd (Nat.lt_of_lt_of_le this h2) (Nat.lt_irrefl _)
  · exact h z
theorem Leaves.fly (L : Leaves X E) (I : Inv X pins σ H s) {a : Addr} {cls a0 : Value} {B h h2 : Heap} (F : Fly X.prog X.w X.stack H H' s.heap a cls a0 B h) (f2 : Heap.FlyingW B X.outer a cls a0 h2) (u2 : h.UpToSlots h2) :
    Fly X.prog X.w X.outer X.H₀ H' X.s₀.heap a cls a0 B h2 where
  fl := f2
  hok := F.hok
  keep := fun b o e n hf => F.keep b o (I.base.keep b o e n hf (by rw [L.ex]; simp)) (I.base.free b o e n (by rw [L.ex]; simp)) (L.nofr I e hf)
  there := fun b o e hf => by
    obtain ⟨o', q⟩ := I.base.there b o e (by rw [L.ex]; simp)
    exact F.there b o' q (L.nofr I e hf)
  slot := fun b o e hf => by
    obtain ⟨sl, q⟩ := I.base.slot b o e (I.ok.frf b hf) hf (by rw [L.ex]; simp)
    obtain ⟨sl1, q1⟩ := F.slot b _ q (L.mem.mpr (.inr hf))
    obtain ⟨_, o2, q2, hd⟩ := F.fl.2.2.1.mem (L.mem.mpr (.inr hf))
    obtain ⟨sl2, q3⟩ := u2 b o2 q2 hd
    rw [q1] at q2; cases q2
    exact ⟨sl2, q3⟩
  free := fun b o e n => by
    obtain ⟨o', q⟩ := I.base.there b o e (by rw [L.ex]; simp)
    exact F.free b o' q (I.base.free b o e n (by rw [L.ex]; simp))
  tups := fun b xs e => F.tups b xs (I.base.tups b xs e)
  frzs := fun b o u e => F.frzs b o u (I.base.frzs b o u e)
  tbls := fun b ps e => by
    obtain ⟨m1, q1⟩ := I.base.tbls b ps e
    obtain ⟨m2, q2⟩ := F.tbls b _ q1
    exact ⟨m1 ++ m2, by rw [q2, Array.append_assoc]⟩
theorem passR (L : Leaves X E) (hE : ∀ c d H', E' c d H' → E c d H') : Passes (CXR X.prog X.w) X E' := fun pins σ H s e s' I h => by
  obtain ⟨a, cls, a0, B, H', rfl, os, bare, F, q⟩ := h
  refine L.xe _ _ ?_
  have hfr : X.A.frames = some (X.env :: X.outer) := by rw [I.ok.frames, L.st]
  have fl : Heap.FlyingW B (X.env :: X.outer) a cls a0 s'.heap := by rw [← L.st]; exact F.fl
  exact wpAny_leaves_onW hfr L.fr fl fun h2 f2 u2 => ⟨a, cls, a0, B, H', rfl, os.trans I.os, bare, L.fly I F f2 u2, hE _ _ _ q⟩
theorem hideOk (I : Inv X pins σ H s) : HOk X.prog X.w H (PySem.W.hideAll s.heap (frs X.stack)) := fun a o e =>
  (I.hok a o e).stay (fun b u hb q => PySem.W.hideAll_get _ q fun z => by
    have n := I.stkFree b z
    rcases hb with rfl | hb
    · rw [e] at n; cases n
    · rw [hb] at n; cases n) (fun _ q => q) fun _ _ q => q
theorem made_leaves (L : Leaves X E) (I : Inv X pins σ H s) {h' : Heap} {a : Addr} {cls : Value} {args : List Value} (hx : Heap.MadeExcOf s.heap h' a cls args) (hE : E cls none H) : X.xe (.ref a) { s with heap := h' } := by
  refine L.xe _ _ ?_
  have hfr : X.A.frames = some (X.env :: X.outer) := by rw [I.ok.frames, L.st]
  have hin : ∀ env ∈ X.stack, ∀ b, env.frame = some b → b ∈ frs X.stack := fun env he b hb => List.mem_filterMap.mpr ⟨env, he, hb⟩
  have ff : s.heap.FunFrames (PySem.W.hideAll s.heap (frs X.stack)) (X.env :: X.outer) := by rw [← L.st]; exact PySem.W.funFrames_hide I.stack hin
  refine wpAny_leaves_madeW (base := PySem.W.hideAll s.heap (frs X.stack)) (h := s.heap) hfr L.fr (fun b o q => PySem.W.of_hideAll _ q) ff hx fun h2 t x1 x2 x3 x4 => ?_
  refine ⟨a, cls, .ref t, _, H, rfl, I.os, I.bare, ⟨x1, hideOk I, fun b o e n hf => ?_, fun b o e hf => ?_, fun b o e hf => ?_, fun b o e n => I.base.free b o e n (by rw [L.ex]; simp), I.base.tups, I.base.frzs, I.base.tbls⟩, hE⟩
  · exact PySem.W.hideAll_get _ (I.base.keep b o e n hf (by rw [L.ex]; simp)) (L.nofr I e hf)
  · obtain ⟨o', q⟩ := I.base.there b o e (by rw [L.ex]; simp)
    exact ⟨o', PySem.W.hideAll_get _ q (L.nofr I e hf)⟩
  · obtain ⟨sl, q⟩ := I.base.slot b o e (I.ok.frf b hf) hf (by rw [L.ex]; simp)
    obtain ⟨_, o2, q2, hd⟩ := I.funs.mem hf
    obtain ⟨sl2, q3⟩ := x4 b o2 (hx.keeps _ _ q2) hd
    rw [q] at q2; cases q2
    exact ⟨sl2, q3⟩
end
end L2
namespace L2
open PySem PySem.Spec PyProof.Rows
abbrev vErr : List Value := [.type "ValueError", .type "Exception", .type "BaseException", .type "object"]
structure XC (K : PySem.W.Frag) (C : Addr) : Prop where
  q : PySem.W.excIn K C vErr "ValueError.__new__" = true
def IsXC (h : Heap) (C : Addr) (bm : List Value) : Prop := ∃ N nm q bs hdct sn sub ab col dd k0 k1 k2 k3 k5 mN,
  h.get? C = some (excClassObj nm q C N bs bm hdct sn sub ab col dd k0 k1 k2 k3 k5 "ValueError.__new__") ∧ h.Ns N mN ∧ mN "__init__" = none ∧ OwnTail h vErr bm
theorem XC.at {K : PySem.W.Frag} {C : Addr} {h : Heap} (x : XC K C) (X : K.In h) : ∃ bm, IsXC h C bm := by
  have q := x.q
  unfold PySem.W.excIn at q
  split at q
  · rename_i dd cd sl ho
    split at q
    · rename_i C' bm' k0 k1 k2 k3 n k5 hm hs
      simp only [Bool.and_eq_true, beq_iff_eq, Bool.not_eq_true'] at q
      obtain ⟨⟨⟨⟨⟨q1, q2⟩, hdel⟩, ht⟩, hok⟩, hni⟩ := q
      subst q1; subst q2
      obtain ⟨nm, bs, mro, ns, qn, hd, sn, sub, ab, col, del⟩ := cd
      dsimp only at hm hdel hok hni
      subst hm; subst hdel
      obtain ⟨sl⟩ := sl
      dsimp only at hs
      subst hs
      exact ⟨bm', ns, nm, qn, bs, hd, sn, sub, ab, col, dd, k0, k1, k2, k3, k5, _, X _ _ ho, .of_isNs (PySem.W.isNs_of_in X hok), PySem.W.nsMap_none_of_in X hok hni, PySem.W.tail_of_in X ht⟩
    · cases q
  · cases q
theorem IsXC.base {h : Heap} {C : Addr} {bm : List Value} (x : IsXC h C bm) : bm.contains (.type "BaseException") = true := by
  obtain ⟨_, _, _, _, _, _, _, _, _, _, _, _, _, _, _, _, _, _, _, T⟩ := x
  exact T.hasType (by decide)
section
variable {X : Cx} {C D : Addr} {bmD : List Value} {x : Str} {np cpos pos : Pos} {e : Expr} {es : List Expr} {t : TA} {E : XK}
theorem exc_matches {M : Model} {A : Around} {E : Value → Shared → Prop} {h : Heap} {g : Array GenState} {d : Drawn} {tk : Nat} {os : OsState} {a : Addr} {oe : Obj} {b : Bool} {Q : Bool → Shared → Prop} (L : PySem.W.Looks M h (isSubtype (.ref C) (.ref D)) b) (cD : IsXC h D bmD)
    (he : h.get? a = some oe) (hcls : oe.cls = .ref C) (hq : Q b ⟨h, g, d, tk, os⟩) : wpAny M A (excMatches (.ref a) (.ref D)) Q E ⟨h, g, d, tk, os⟩ := by
  have hbD := cD.base
  obtain ⟨N', nm', q', bs', hdct', sn', sub', ab', col', dd', k0', k1', k2', k3', k5', mN', hD, _, _, _⟩ := cD
  have hcB : (Value.ref D :: bmD).contains (.type "BaseException") = true := by rw [List.contains_cons, hbD, Bool.or_true]
  have f := tc_notTuple
  unfold excMatches
  repeat (first | (with_reducible refine wpAny_loadPart_at he ?_; rw [hcls]) | with_reducible refine wpAny_loadPart_at hD ?_ | with_reducible refine L.at ?_ | (with_reducible refine wpAny_isSubtype_exc hD ?_; rw [hcB]) | wp_step)
  cases b <;> (wp_walk; exact hq)
end
end L2
namespace L2
open PySem PySem.Spec PyProof.Rows
def excO (a : Addr) (cls : Value) : HO := .ext fun h => ∃ o vs, h.get? a = some o ∧ o.cls = cls ∧ o.data = .fields vs
section
variable {P : Program} {w : World} {outer : List Env} {H H' : Hp} {h0 : Heap} {a : Addr} {cls a0 : Value} {B h : Heap}
theorem Fly.fresh (F : Fly P w outer H H' h0 a cls a0 B h) {b : Addr} {o : Obj} (e : h0.get? b = some o) : b ≠ a := by
  rintro rfl
  by_cases hf : b ∈ frs outer
  · obtain ⟨_, o1, q1, hd⟩ := F.fl.2.2.1.mem hf
    obtain ⟨oe, vs, he, _, hdd, _⟩ := F.fl.first
    rw [q1] at he; cases he
    exact hd vs hdd
  · obtain ⟨o', q⟩ := F.there b o e hf
    rw [F.fl.2.1] at q; cases q
theorem Fly.unT (F : Fly P w outer H H' h0 a cls a0 B h) {u : HO} : Un (frs outer) [] H (upd H' a u) h0 h where
  keep := F.un.keep
  slot := F.un.slot
  free := fun b o e n x => by rw [upd_ne (F.fresh e)]; exact F.un.free b o e n x
  there := F.un.there
  tups := fun b xs e => by
    have q := F.tups b xs e
    rw [upd_ne (ne_of_none q F.hn)]; exact q
  frzs := fun b o xs e => by
    have q := F.frzs b o xs e
    rw [upd_ne (ne_of_none q F.hn)]; exact q
  tbls := fun b ps e => by
    obtain ⟨m, q⟩ := F.tbls b ps e
    exact ⟨m, by rw [upd_ne (ne_of_none q F.hn)]; exact q⟩
theorem Fly.hokT (F : Fly P w outer H H' h0 a cls a0 B h) : HOk P w (upd H' a (excO a cls)) h := fun b u e => by
  by_cases hb : b = a
  · subst hb
    rw [upd_same] at e; cases e
    obtain ⟨oe, vs, he, hc, hd, _⟩ := F.fl.first
    exact ⟨⟨oe, vs, he, hc, hd⟩, ⟨oe, he⟩, fun h1 h2 ⟨o, vs, q, r⟩ k => ⟨o, vs, k o q, r⟩⟩
  · rw [upd_ne hb] at e
    exact (F.hokh b u e).stay (fun _ _ _ q => q) (fun c q => by rw [upd_ne (ne_of_none q F.hn)]; exact q) fun c xs q => by rw [upd_ne (ne_of_none q F.hn)]; exact q
end
def XE (X : Cx) (pins : List (Addr × Obj)) (E : St → XK) (e : Value) (s' : Shared) : Prop := ∃ σ' H1 s1, Inv X pins σ' H1 s1 ∧ CXR X.prog X.w X.stack H1 s1 (E σ') e s'
abbrev TX := (St → XK) → TS
def PSXs (X : Cx) (st : List Stmt) (t : TX) : Prop :=
  ∀ (pins : List (Addr × Obj)) (s : Shared) (σ : St) (H : Hp) (D : Ends) (E : St → XK), Inv X pins σ H s → t E D σ H → wpAny (model X.prog X.w) X.A (execs st X.env) (SP X pins D) (XE X pins E) s
section
variable {X : Cx} {CX : CXT} {k : Nat} {f C : Addr} {fd : FuncData} {ps : List Str} {sp : Sp} {dvs : List V} {ds : List Value} {E : XK} {x m : Str} {p pos apos : Pos} {e o : Expr} {es : List Expr} {ta : TE} {t : TA}
end
section
variable {X : Cx} {e : Expr} {pos : Pos} {te : XK → TE}
end
end L2
namespace L2
open PySem PySem.Spec PyProof.Rows
abbrev Cx.inExc (X : Cx) (a : Addr) : Cx := { X with A := X.A.mark (some (.ref a)), calm := false, xe := fun _ _ => False }
section
variable {X : Cx} {pins : List (Addr × Obj)} {σ : St} {H : Hp} {s : Shared}
theorem Cx.Ok.inExc (ok : X.Ok) (a : Addr) : (X.inExc a).Ok :=
  ⟨ok.mod, ok.kind, ok.glob, ok.blt, ok.above, ok.inj, ok.has, ok.cab, fun z => (nomatch (show false = true from z)), ok.frames, ok.stk, ok.exf, ok.bs, ok.bsz, ok.noex, ok.exfs, ok.funs, ok.frf⟩
theorem Inv.inExc (I : Inv X pins σ H s) (a : Addr) : Inv (X.inExc a) pins σ H s := ⟨I.ok.inExc a, I.os, I.bare, I.base, I.loc, I.cell, I.free, I.freeC, I.pin, I.hok, I.len⟩
theorem Inv.outExc {a : Addr} (I : Inv (X.inExc a) pins σ H s) (ok : X.Ok) : Inv X pins σ H s := ⟨ok, I.os, I.bare, I.base, I.loc, I.cell, I.free, I.freeC, I.pin, I.hok, I.len⟩
theorem name_goes {M : Model} {A : Around} {E : Value → Shared → Prop} {Q : Unit → Shared → Prop} {i : Nat} {n : Str} {pos : Pos} (I : Inv X pins σ H s) (hN : X.N.Nodup) (hi : X.N[i]? = some n) (hx : X.env.scope.names.lookup n = some .local)
    (h : ∀ s', Inv X pins (σ.set i none) H s' → Q () s') : wpAny M A (do bindName X.env n .none; unbindBehindTheSuite X.env n pos) Q E s := by
  obtain ⟨m, hn, hl⟩ := id I.loc
  have hcls : (X.env.scope.kind == .class || (X.env.scope.kind == .module && X.env.locals != X.env.globals)) = false := by rw [I.ok.kind]; rfl
  have hiσ : i < σ.length := by rw [I.len]; exact (List.getElem?_eq_some_iff.mp hi).1
  have old : ∀ b o, X.s₀.heap.get? b = some o → b ≠ X.env.locals := fun b o e => Nat.ne_of_lt (Nat.lt_of_lt_of_le (Heap.lt_size e) I.ok.above)
  refine wpAny_nameGoes_keeps hx hn hcls fun h' v hn' hs => h _ ?_
  refine ⟨I.ok, I.os, I.bare, ⟨fun b o e n hb hx => (hs.2 b (old b o e)).trans (I.base.keep b o e n hb hx), fun b o e n hb hx => ?_, I.base.free, fun b o e hx => ?_, I.base.tups, I.base.frzs, I.base.tbls⟩, ⟨_, hn', fun j y v' e1 e2 e3 => ?_⟩, fun y c e => ?_, I.free, I.freeC, fun p hp => ?_, fun b ob e => ?_, by simpa using I.len⟩
  · obtain ⟨sl, e1⟩ := I.base.slot b o e n hb hx
    exact ⟨sl, (hs.2 b (old b o e)).trans e1⟩
  · obtain ⟨o', e1⟩ := I.base.there b o e hx
    exact ⟨o', (hs.2 b (old b o e)).trans e1⟩
  · have hj : j ≠ i := by
      rintro rfl
      rw [List.getElem?_set_self hiσ] at e2
      cases e2
    rw [List.getElem?_set_ne (Ne.symm hj)] at e2
    obtain ⟨u', r', q⟩ := hl j y v' e1 e2 e3
    refine ⟨u', r', ?_⟩
    have hy : y ≠ n := fun e => hj (nodup_ix hN e1 (e ▸ hi))
    rcases q with ⟨k, e⟩ | ⟨k, c, e, z⟩
    · exact .inl ⟨k, by show (if y = n then v else m y) = some u'; rw [if_neg hy]; exact e⟩
    · exact .inr ⟨k, c, e, z.sameBut hs (I.cne y c e)⟩
  · obtain ⟨w', z⟩ := I.cell y c e
    exact ⟨w', z.sameBut hs (I.cne y c e)⟩
  · obtain ⟨e, n, ne, nf, d⟩ := I.pin p hp
    exact ⟨(hs.2 p.1 ne).trans e, n, ne, nf, d⟩
  · refine (I.hok b ob e).stay (fun c w' hc q => (hs.2 c ?_).trans q) (fun _ q => q) fun _ _ q => q
    rintro rfl
    rcases hc with z | z
    · rw [← z, I.free] at e; cases e
    · rw [I.free] at z; cases z
end
def Ends.less (D : Ends) (i : Nat) : Ends := { nx := fun σ H => D.nx (σ.set i none) H, rt := D.rt, bk := fun σ H => D.bk (σ.set i none) H, ct := fun σ H => D.ct (σ.set i none) H }
def tTry (K : PySem.W.Frag) (i : Nat) (C0 : Addr) (tb : TX) (ts : TS) : TS := fun D σ H =>
  tb (fun σ' cls _ H' => ∃ C, cls = .ref C ∧ PySem.W.mroIn K C (.ref C0) = some true ∧ ∀ a, H' a = none → ts (D.less i) (σ'.set i (some (.ref a))) (upd H' a (excO a (.ref C)))) D σ H
section
variable {X : Cx} {i : Nat} {n x : Str} {C0 : Addr} {body suite : List Stmt} {b₀ : Stmt} {np hpos pos : Pos} {tb : TX} {ts : TS}
theorem ps_try (hst : X.stack = X.env :: X.outer) (fr : X.env.frame = some X.env.locals) (hN : X.N.Nodup) (hi : X.N[i]? = some n) (hx : X.env.scope.names.lookup n = some .local) (hgx : Gl X x) (hm : X.mg x = some (.ref C0)) (c0 : XC X.K C0)
    (hb : PSXs X body tb) (hs : ∀ a, PSs (X.inExc a) (b₀ :: suite) ts) (hdb : (x == ("__debug__" : Str)) = false := by decide) :
    PS X (.Try body [.ExceptHandler (some (.Name x np)) (some n) (b₀ :: suite) hpos] [] [] pos) (tTry X.K i C0 tb ts) := by
  intro pins s σ H D I h
  refine wpAny_Try_except (wpAny_mono (hb pins s σ H D _ I h) (fun f s1 q => ?_) fun e s1 q => ?_)
  · cases f with
    | next =>
      obtain ⟨σ', H', I', q⟩ := q
      exact pss_nil pins s1 σ' H' D I' q
    | ret v => exact q
    | brk => exact q
    | cont => exact q
  · obtain ⟨σ', H1, s2, I2, a, cls, a0, B, H', rfl, os, bare, F, C, rfl, hsub, hq⟩ := q
    have hfr : X.A.frames = some (X.env :: X.outer) := by rw [I.ok.frames, hst]
    have fl : Heap.FlyingW B (X.env :: X.outer) a (.ref C) a0 s1.heap := by rw [← hst]; exact F.fl
    refine wpAny_looks_onW hfr fr fl fun h4 held4 u4 => ?_
    refine wpAny_landsW held4 fun h5 f5 u5 => ?_
    have F5 : Fly X.prog X.w X.stack H1 H' s2.heap a (.ref C) a0 B h5 := F.on (by rw [hst]; exact f5) (u4.trans u5)
    have I5 : Inv X pins σ' (upd H' a (excO a (.ref C))) { s1 with heap := h5 } := I2.call' (ch := []) os F5.unT F5.hokT bare fun b z => absurd z (by simp)
    refine wpAny_handleBy_cons (codeAny_handlers_test (ld_glob (I5.inExc a) hgx hm ?_ hdb)) (by intro q; cases q)
    obtain ⟨oe, vs, he, hc, hd, _⟩ := F5.fl.first
    obtain ⟨bm0, c0'⟩ := c0.at I5.kIn
    refine exc_matches (PySem.W.looks_mroIn I5.kIn hsub) c0' he hc ?_
    refine codeAny_handlers_suite_as ?_
    refine lands_againW f5 fun h6 f6 u6 => ?_
    have F6 : Fly X.prog X.w X.stack H1 H' s2.heap a (.ref C) a0 B h6 := F5.on (by rw [hst]; exact f6) u6
    have I6 : Inv X pins σ' (upd H' a (excO a (.ref C))) { s1 with heap := h6 } := I2.call' (ch := []) os F6.unT F6.hokT bare fun b z => absurd z (by simp)
    refine store_ok (X := X.inExc a) (I6.inExc a) hN hi (.inl hx) (v := .ref a) rfl (fun s7 I7 => ?_) (.inr hx)
    refine wpAny_mono (hs a pins s7 _ _ _ I7 (hq a F.hn)) (fun f s8 q8 => ?_) fun _ _ z => False.elim z
    cases f with
    | next =>
      obtain ⟨σ8, H8, I8, q8⟩ := q8
      exact name_goes (I8.outExc I.ok) hN hi hx fun s9 I9 => ⟨_, H8, I9, q8⟩
    | brk =>
      obtain ⟨σ8, H8, I8, q8⟩ := q8
      exact name_goes (I8.outExc I.ok) hN hi hx fun s9 I9 => ⟨_, H8, I9, q8⟩
    | cont =>
      obtain ⟨σ8, H8, I8, q8⟩ := q8
      exact name_goes (I8.outExc I.ok) hN hi hx fun s9 I9 => ⟨_, H8, I9, q8⟩
    | ret u =>
      obtain ⟨v, σ8, H8, I8, r8, q8⟩ := q8
      exact name_goes (I8.outExc I.ok) hN hi hx fun s9 I9 => ⟨v, _, H8, I9, r8, q8⟩
end
section
variable {P : Program} {w : World} {K : PySem.W.Frag} {mg : Str → Option Value} {base : Heap}
end
end L2
namespace L2
open PySem PySem.Spec PyProof.Rows
structure XA (K : PySem.W.Frag) (C : Addr) : Prop where
  ga : PySem.W.findIn K (.ref C) "__getattribute__" = some (some (.builtin "BaseException.__getattribute__"))
  gh : PySem.W.findIn K (.ref C) "__getattr__" = some none
  cl : PySem.W.findIn K (.ref C) "__class__" = some (some (.builtin "object.__class__"))
section
variable {prog : Program} {w : World} {A : Around} {E : Value → Shared → Prop} {h : Heap} {g : Array GenState} {d : Drawn} {t : Nat} {os : OsState} {a : Addr} {o : Obj} {C : Addr} {bm : List Value} {K : PySem.W.Frag}
theorem xc_get {R : Result → Shared → Prop} (c : IsXC h C bm) (hob : bm.contains (.type "object") = true) (hx : h.get? a = some o) (hc : o.cls = .ref C) (hq : R (.ok (.ret (.ref C))) ⟨h, g, d, t, os⟩) :
    codeAny (model prog w) A (.call (.builtin "getset_descriptor.__get__") ⟨[.builtin "object.__class__", .ref a, .ref C], []⟩) R ⟨h, g, d, t, os⟩ := by
  obtain ⟨N, nm, q, bs, hdct, sn, sub, ab, col, dd, k0, k1, k2, k3, k5, mN, hC, _, _, _⟩ := c
  have hT5 : (⟨h, g, d, t, os⟩ : Shared).TypeIs (.builtin "object.__class__") "getset_descriptor" := F.typeOf_object_class
  have ow : ".".intercalate ("object.__class__".cutAt '.').dropLast = "object" := by decide +kernel
  have hcB : (Value.ref C :: bm).contains (.type (".".intercalate ("object.__class__".cutAt '.').dropLast)) = true := by rw [ow, List.contains_cons, hob, Bool.or_true]
  refine codeAny_call_builtin F.slot_gs_get.plain F.entry_gs_get (F.slot_gs_get.check _ _ _ _ _ _ _ _ hT5 (F.args_gs_get _ _ _) ?_)
  repeat (any_goals (first | assumption | (with_reducible refine wpAny_loadPart_at hx ?_; rw [hc]) | (with_reducible refine wpAny_isSubtype_exc hC ?_; rw [hcB]) | wp_step))
  refine ⟨Code.quiet_builtin _ (by decide +kernel), codeAny_builtin F.entry_object_class ?_⟩
  repeat (any_goals (first | assumption | (with_reducible refine wpAny_loadPart_at hx ?_; rw [hc]) | wp_step))
theorem xc_check {M : Model} {nameV : Value} {Q : Unit → Shared → Prop} (c : IsXC h C bm) (hx : h.get? a = some o) (hc : o.cls = .ref C) (hq : Q () ⟨h, g, d, t, os⟩) : wpAny M A (checkBuiltinCall "BaseException.__getattribute__" ⟨[.ref a, nameV], []⟩) Q E ⟨h, g, d, t, os⟩ := by
  have hb := c.base
  obtain ⟨N, nm, q, bs, hdct, sn, sub, ab, col, dd, k0, k1, k2, k3, k5, mN, hC, _, _, _⟩ := c
  have k1 : builtinKind "BaseException.__getattribute__" = some .slot := by decide +kernel
  have k2 : splitId "BaseException.__getattribute__" = some ("BaseException", "__getattribute__") := by decide +kernel
  have hB : (Value.ref C :: bm).contains (.type "BaseException") = true := by rw [List.contains_cons, hb, Bool.or_true]
  have ha := F.args_bexc_ga (.ref a) nameV
  simp only [checkBuiltinCall, k1, k2]
  refine wpAny_bind ?_
  unfold isInstance
  repeat (first | (with_reducible refine wpAny_loadPart_at hx ?_; rw [hc]) | (with_reducible refine wpAny_isSubtype_exc hC ?_; rw [hB]) | wp_step)
  exact hq
theorem xc_entry {tk : Tok} {Q : Fin → Shared → Prop} (X : K.In h) (xa : XA K C) (c : IsXC h C bm) (hob : bm.contains (.type "object") = true) (hx : h.get? a = some o) (hc : o.cls = .ref C) (hq : Q (.done (.ret (.ref C))) ⟨h, g, d, t, os⟩) :
    wpAny (model prog w) A (Builtin.«object.__getattribute__» ⟨[.ref a, .str "__class__" tk], []⟩) Q E ⟨h, g, d, t, os⟩ := by
  have hT5 : (⟨h, g, d, t, os⟩ : Shared).TypeIs (.builtin "object.__class__") "getset_descriptor" := F.typeOf_object_class
  have L1 := PySem.W.looks_findIn (M := model prog w) X xa.cl
  have f5 := F.typeOf_object_class
  have f6 := F.slot_gs_get.lookup
  have f7 := F.slot_gs_set.lookup
  repeat (any_goals (first | assumption | (with_reducible refine wpAny_loadPart_at hx ?_; rw [hc]) | with_reducible refine L1.at ?_ | wp_step))
  refine xc_get c hob hx hc ?_
  repeat (any_goals (first | assumption | wp_step))
theorem xc_by {tk : Tok} {Q : Value → Shared → Prop} (X : K.In h) (xa : XA K C) (c : IsXC h C bm) (hob : bm.contains (.type "object") = true) (hx : h.get? a = some o) (hc : o.cls = .ref C) (hq : Q (.ref C) ⟨h, g, d, t, os⟩) :
    wpAny (model prog w) A (getAttrBy (.ref a) (.str "__class__" tk) false) Q E ⟨h, g, d, t, os⟩ := by
  have FB := F.attrBase_ValueError
  have f3 := FB.ga.bind (.ref a)
  have L1 := PySem.W.looks_findIn (M := model prog w) X xa.ga
  have L2 := PySem.W.looks_findIn (M := model prog w) X xa.gh
  have hx2 : (Value.builtin "BaseException.__getattribute__" == Value.builtin "object.__getattribute__") = false := by decide +kernel
  have hx0 : (false && onTheHeap (Value.builtin "BaseException.__getattribute__")) = false := rfl
  have hx1 : (onTheHeap (Value.ref C) && Value.builtin "BaseException.__getattribute__" == Value.builtin "object.__getattribute__") = false := by rw [hx2]; rfl
  repeat (any_goals (first | assumption | (with_reducible refine wpAny_loadPart_at hx ?_; rw [hc]) | with_reducible refine L1.at ?_ | with_reducible refine L2.at ?_ | wp_step))
  refine codeAny_call_builtin FB.ga.plain F.entry_bexc_ga (xc_check c hx hc (xc_entry X xa c hob hx hc ?_))
  repeat (any_goals (first | assumption | wp_step))
theorem xc_class {Q : Option Value → Shared → Prop} (X : K.In h) (xa : XA K C) (c : IsXC h C bm) (hob : bm.contains (.type "object") = true) (hx : h.get? a = some o) (hc : o.cls = .ref C) (hq : Q (some (.ref C)) ⟨h, g, d, t + 1, os⟩) :
    wpAny (model prog w) A (getAttr? (.ref a) "__class__") Q E ⟨h, g, d, t, os⟩ := by
  unfold getAttr? getAttrBy?
  repeat (any_goals (first | assumption | with_reducible apply xc_by X xa c hob hx hc | wp_step))
end
end L2
namespace L2
open PySem PySem.Spec PyProof.Rows
theorem IsXC.obj {h : Heap} {C : Addr} {bm : List Value} (x : IsXC h C bm) : bm.contains (.type "object") = true := by
  obtain ⟨_, _, _, _, _, _, _, _, _, _, _, _, _, _, _, _, _, _, _, T⟩ := x
  exact T.hasType (by decide)
theorem kitx_exc {K : PySem.W.Frag} {a C : Addr} (c : XC K C) (xa : XA K C) : PySem.W.KitX K (.ref a) (.ref C) (fun h => ∃ o vs, h.get? a = some o ∧ o.cls = .ref C ∧ o.data = .fields vs) where
  ty := fun M h X ⟨o, vs, hx, hc, _⟩ => by
    exact hc ▸ (PySem.W.Looks.ld hx).andThen .now
  it := fun M h X _ => by
    obtain ⟨bm, N, nm, q, bs, hdct, sn, sub, ab, col, dd, k0, k1, k2, k3, k5, mN, hC, _, _, _⟩ := c.at X
    intro A Q E s k q
    unfold isType loadHead
    exact wpAny_bind (wpAny_loadPart (k _ _ hC) (wpAny_pure q))
  ne := fun h tp dd its n sl X htp => by
    obtain ⟨bm, N, nm, q, bs, hdct, sn, sub, ab, col, dd', k0, k1, k2, k3, k5, mN, hC, _, _, _⟩ := c.at X
    refine Bool.eq_false_iff.mpr fun z => ?_
    have e : C = tp := Value.ref.inj (beq_iff_eq.mp z)
    subst e
    have q := congrArg (fun x => x.map (·.cls)) (hC.symm.trans htp)
    have q : some (Value.type "type") = some (Value.type "tuple") := q
    exact absurd q (by decide)
  ca := fun {prog w A E Q s} X ⟨o, vs, hx, hc, _⟩ k => by
    obtain ⟨h, g, d, t, os⟩ := s
    obtain ⟨bm, c'⟩ := c.at X
    exact xc_class X xa c' c'.obj hx hc k
section
variable {X : Cx}
theorem call_isinstX : CallR X (.builtin "isinstance") (fun xs H Q => ∃ a C c u b, xs = [.ref a, c] ∧ H a = some (excO a (.ref C)) ∧ XC X.K C ∧ XA X.K C ∧ RelV c u ∧ (∀ u', RelV c u' → u' = u) ∧ PySem.W.kitOne X.K (.ref C) u = some b ∧ Q (.bl b) H) := by
  intro pins s σ H xs us Q I r h
  obtain ⟨a, C, c, u, b, rfl, ha, cC, xa, rc, uc, e, q⟩ := h
  obtain ⟨v, w', rfl, rv, rw'⟩ := vals2 r
  have := uc w' rw'
  subst this
  cases (show v = Value.ref a from rv)
  obtain ⟨p, _⟩ := I.hok a _ ha
  exact PySem.W.kia_one (kitx_exc cC xa) I.kIn p e (fun z => nomatch z) fun tk => ⟨.bl b, H, I.tok tk, rfl, q⟩
end
end L2
namespace L2
open PySem PySem.Spec PyProof.Rows
section
variable {X : Cx}
theorem passE {E : XK} (L : Leaves X E) : Passes (CXR X.prog X.w) X E := passR L fun _ _ _ h => h
end
theorem call_isinstXK {X : Cx} {K : PySem.W.Frag} (hK : X.K = K) : CallR X (.builtin "isinstance") (fun xs H Q => ∃ a C c u b, xs = [.ref a, c] ∧ H a = some (excO a (.ref C)) ∧ XC K C ∧ XA K C ∧ RelV c u ∧ (∀ u', RelV c u' → u' = u) ∧ PySem.W.kitOne K (.ref C) u = some b ∧ Q (.bl b) H) := by
  subst hK
  exact call_isinstX
theorem bt_ValueError : bootBuiltins "ValueError" = some (.type "ValueError") := PyProof.Rows.Boot.«ValueError»
end L2
namespace L2
open PySem PySem.Spec PyProof.Rows
section
variable {prog : Program} {w : World} {A : Around} {R : Result → Shared → Prop} {I : Addr} {fp wr : List Addr} {G : Array GenState → Array GenState → Prop} {n : Nat} {P : Nat → Value → Prop} {St : Nat → Shared → Prop}
end
end L2
namespace L2
open PySem PySem.Spec PyProof.Rows
section
variable {X : Cx}
end
end L2
namespace L2
open PySem PySem.Spec PyProof.Rows
section
variable {prog : Program} {w : World} {A : Around} {E : Value → Shared → Prop} {s : Shared}
end
section
variable {prog : Program} {w : World} {A : Around} {R : Result → Shared → Prop} {I : Addr} {fp wr : List Addr} {G : Array GenState → Array GenState → Prop} {n : Nat} {P : Nat → Value → Prop} {St : Nat → Shared → Prop}
end
section
variable {X : Cx}
end
end L2
namespace L2
open PySem PySem.Spec PyProof.Rows
section
variable {X : Cx}
def rCatU (K : PySem.W.Frag) : R2 := fun x y H Q => ∃ a b xs ys, x = .ref a ∧ y = .ref b ∧ SqT K H a xs ∧ SqT K H b ys ∧ xs.length + ys.length ≤ sizeLine ∧
  (xs = [] → Q (.ref b) H) ∧ (xs ≠ [] → ys = [] → Q (.ref a) H) ∧ (xs ≠ [] → ys ≠ [] → ∀ p, H p = none → Q (.ref p) (upd H p (.tup (xs ++ ys))))
theorem op_catU : OpR X (binaryOp .Add) (rCatU X.K) := by
  intro pins s σ H x y v u Q I rx ry h
  obtain ⟨a, b, xs, ys, rfl, rfl, ha, hb, hz, q0, q1, q2⟩ := h
  by_cases hx : xs = []
  · cases rx
    cases ry
    obtain ⟨its, r1, p1, _⟩ := I.tuple ha
    obtain ⟨its2, r2, p2, _⟩ := I.tuple hb
    obtain ⟨⟨cls, dd, data, sl⟩, ho, hc, n, hd⟩ := id p1
    obtain ⟨⟨cls2, dd2, data2, sl2⟩, ho2, hc2, n2, hd2⟩ := id p2
    simp only at hc hd hc2 hd2
    subst hc hd hc2 hd2
    have e : its = [] := r1.nil_iff.mpr hx
    exact concat_meets ⟨_, ho, rfl⟩ ⟨_, ho2, rfl⟩ noFill_tuple_add seq_tuple_add PySem.F.slot_tuple_add PySem.F.entry_tuple_add (PySem.F.args_tuple_add_2 _ _)
      (tuple_addW0 a b its.toArray its2.toArray n n2 dd dd2 sl sl2 (by simp [e])) ⟨ho, ho2, .ref b, H, I, rfl, q0 hx⟩
  · exact op_catT pins s σ H _ _ v u Q I rx ry ⟨a, b, xs, ys, rfl, rfl, ha, hb, hx, hz, q1 hx, q2 hx⟩
end
end L2
namespace L2
open PySem PySem.Spec PyProof.Rows
section
variable {H H' : Hp} {K : PySem.W.Frag}
end
end L2
namespace L2
open PySem PySem.Spec PyProof.Rows
section
variable {σ : St} {H : Hp} {te tb : TE} {ta : TA} {d : PyData} {ds : List PyData}
theorem smz {n : Nat} (h : n ≤ 1000) : n ≤ sizeLine := Nat.le_of_lt (small1000 h)
end
end L2
namespace L2
open PySem PySem.Spec PyProof.Rows
abbrev IsTp (h : Heap) (T : Addr) (arr : Array Value) : Prop := h.get? T = some { cls := .type "tuple", data := .seq arr }
theorem it_ext {h h' : Heap} {a b l : Addr} {i : Nat} (hs : Heap.ExtBut b h h') (n : a ≠ b) (x : h.IsTupleIter a l i) : h'.IsTupleIter a l i := x.extBut hs n
theorem it_up {h h' : Heap} {a l : Addr} {i : Nat} (k : ∀ o, h.get? a = some o → h'.get? a = some o) (x : h.IsTupleIter a l i) : h'.IsTupleIter a l i := let ⟨o, e, r⟩ := x; ⟨o, k o e, r⟩
section
variable {prog : Program} {w : World} {A : Around} {E : Value → Shared → Prop} {s : Shared}
theorem sz3 {n : Nat} (h : n ≤ 3) : n ≤ sizeLine := smz (Nat.le_trans h (by decide))
theorem updSeq_tp {T : Addr} {arr : Array Value} {x : Value} {k : Nat} {Q : Unit → Shared → Prop} (hT : IsTp s.heap T arr) (hz : arr.size ≤ 3) (h : ∀ h', IsTp h' T (arr.setIfInBounds k x) → Heap.SameBut T s.heap h' → Q () { s with heap := h' }) : wpAny (model prog w) A (updateSeq T (·.setIfInBounds k x)) Q E s := by
  refine wpAny_updateSeq hT rfl (h _ ?_ (Heap.SameBut.update ..)) (hz := sz3 hz) (_hz' := by have := sz3 hz; simp; omega)
  show Heap.get? _ _ = _
  rw [Heap.get?_update_self _ hT rfl] ; simp [Obj.mapSeq]
theorem nextOf_tup {it l : Addr} {i : Nat} {items : Array Value} {x : Value} {Q : Value → Shared → Prop} (hit : s.heap.IsTupleIter it l i) (hl : s.heap.IsTuple l items) (hx : items[i]? = some x) (hQ : ∀ h', h'.IsTupleIter it l (i + 1) → Heap.SameBut it s.heap h' → Q x { s with heap := h' }) :
    wpAny (model prog w) A (Builtin.SmallTypes.nextOf (.ref it)) Q E s := by
  obtain ⟨o, ho, hc, hd⟩ := id hit ; obtain ⟨ol, hol, _, nl, hdl⟩ := hl
  unfold Builtin.SmallTypes.nextOf
  refine wpAny_bind (wpAny_callSpecial?_slot (name := Str.ofString "__next__") hit.typeIs F.slot_tuple_iterator_next (wpAny_call_entry F.slot_tuple_iterator_next hit.typeIs F.entry_tuple_iterator_next ?_ (F.args_tuple_iterator_next_1 _)))
  show wpAny _ _ (field (.ref it) 0 >>= _) _ _ s ; refine wpAny_bind (wpAny_field ho hd (x := .ref l) rfl ?_)
  show wpAny _ _ (if (Value.ref l == Value.none) = true then _ else _) _ _ s ; rw [if_neg (show ¬ ((Value.ref l == Value.none) = true) from Bool.false_ne_true)]
  show wpAny _ _ (field (.ref it) 1 >>= _) _ _ s ; refine wpAny_bind (wpAny_field ho hd (x := .int i 0) rfl ?_)
  show wpAny _ _ (seqItems? (.ref l) >>= _) _ _ s ; refine wpAny_bind (wpAny_seqItems hol hdl ?_)
  simp only [Int.toNat_natCast, hx]
  refine wpAny_bind (wpAny_setField ho hd (by simp) (wpAny_pure ⟨x, rfl, wpAny_pure (hQ _ ⟨_, Heap.get?_update_self _ ho (Obj.isFreed_of_fields (Obj.data_mapFields hd _)), (Obj.cls_mapFields ..).trans hc, by rw [Obj.data_mapFields hd]; simp [rawInt]⟩ (Heap.SameBut.update ..))⟩))
theorem nextOf_tup_end {it l : Addr} {i : Nat} {items : Array Value} {Q : Value → Shared → Prop} (hh : A.handled = none) (hit : s.heap.IsTupleIter it l i) (hl : s.heap.IsTuple l items) (hx : items[i]? = none)
    (hE : ∀ h' e, Heap.ExtBut it s.heap h' → (∃ o, h'.get? e = some o ∧ o.cls = .type "StopIteration") → E (.ref e) { s with heap := h' }) : wpAny (model prog w) A (Builtin.SmallTypes.nextOf (.ref it)) Q E s := by
  obtain ⟨o, ho, hc, hd⟩ := id hit ; obtain ⟨ol, hol, _, nl, hdl⟩ := hl
  unfold Builtin.SmallTypes.nextOf
  refine wpAny_bind (wpAny_callSpecial?_slot (name := Str.ofString "__next__") hit.typeIs F.slot_tuple_iterator_next (wpAny_call_entry F.slot_tuple_iterator_next hit.typeIs F.entry_tuple_iterator_next ?_ (F.args_tuple_iterator_next_1 _)))
  show wpAny _ _ (field (.ref it) 0 >>= _) _ _ s ; refine wpAny_bind (wpAny_field ho hd (x := .ref l) rfl ?_)
  show wpAny _ _ (if (Value.ref l == Value.none) = true then _ else _) _ _ s ; rw [if_neg (show ¬ ((Value.ref l == Value.none) = true) from Bool.false_ne_true)]
  show wpAny _ _ (field (.ref it) 1 >>= _) _ _ s ; refine wpAny_bind (wpAny_field ho hd (x := .int i 0) rfl ?_)
  show wpAny _ _ (seqItems? (.ref l) >>= _) _ _ s ; refine wpAny_bind (wpAny_seqItems hol hdl ?_)
  simp only [Int.toNat_natCast, hx]
  refine wpAny_bind (wpAny_rule (wpAny_bind (wpAny_setField ho hd (by simp) ?_))) ; show wpAny _ _ (newExc (.type "StopIteration") [] >>= _) _ _ _
  refine wpAny_bind ?_ ; simp only [newExc, newTuple] ; refine wpAny_bind (wpAny_newObj_type ?_ (by size_fits))
  refine wpAny_bind (m := firstArgMember _ _) (wpAny_of_eq (a := Value.none) (by first | rfl | (simp only [firstArgMember]; rfl)) ?_) ; refine wpAny_newObj_type ?_ (by size_fits)
  simp only [raiseNew] ; refine wpAny_bind (wpAny_handled ?_)
  first | rw [show A.in1.handled = none from hh] | rw [hh]
  refine wpAny_bind (wpAny_pure (wpAny_throw (hE _ _ (((Heap.SameBut.update ..).extBut.push _).push _) ⟨_, Heap.get?_push_size _ rfl, rfl⟩)))
end
def ZS2 (n l0 l1 : Nat) (i : Nat) (h : Heap) : Prop := IsZip h (n + 4) (n + 2) (n + 3) .none ∧ IsTp h (n + 2) #[.ref n, .ref (n + 1)] ∧ (∃ arr : Array Value, arr.size = 2 ∧ IsTp h (n + 3) arr) ∧ h.IsTupleIter n l0 i ∧ h.IsTupleIter (n + 1) l1 i
section
variable {prog : Program} {w : World} {A : Around} {E : Value → Shared → Prop} {s : Shared} {n l0 l1 : Nat} {i : Nat} {xs0 xs1 : Array Value}
theorem zip2_item {x0 x1 : Value} {arr : Array Value} (na : arr.size = 2) {Q : Value → Shared → Prop} (b0 : l0 < n) (b1 : l1 < n) (hz : IsZip s.heap (n + 4) (n + 2) (n + 3) .none) (hI : IsTp s.heap (n + 2) #[.ref n, .ref (n + 1)]) (hO : IsTp s.heap (n + 3) arr) (j0 : s.heap.IsTupleIter n l0 i) (j1 : s.heap.IsTupleIter (n + 1) l1 i) (t0 : s.heap.IsTuple l0 xs0) (t1 : s.heap.IsTuple l1 xs1) (e0 : xs0[i]? = some x0) (e1 : xs1[i]? = some x1)
    (hQ : ∀ h', IsZip h' (n + 4) (n + 2) (n + 3) (rawInt s.heap.objs.size) → IsTp h' (n + 3) #[x0, x1] → h'.IsTupleIter n l0 (i + 1) → h'.IsTupleIter (n + 1) l1 (i + 1) → IsTp h' s.heap.objs.size #[x0, x1] → (∀ c o, c ≠ (n + 4) → c ≠ (n + 3) → c ≠ n → c ≠ (n + 1) → s.heap.get? c = some o → h'.get? c = some o) → Q (.ref s.heap.objs.size) { s with heap := h' }) :
    wpAny (model prog w) A (Builtin.«zip.__next__» ⟨[.ref (n + 4)], []⟩) (fun fin s' => ∃ v, fin = .done (.ret v) ∧ Q v s') E s := by
  show wpAny _ _ (field (.ref (n + 4)) 2 >>= _) _ _ _ ; refine wpAny_bind (wpAny_field hz rfl (x := .bool false) rfl ?_)
  show wpAny _ _ (field (.ref (n + 4)) 3 >>= _) _ _ _ ; refine wpAny_bind (wpAny_field hz rfl (x := .ref (n + 2)) rfl ?_)
  refine wpAny_bind (wpAny_seqItems hI rfl ?_) ; show wpAny _ _ (Builtin.SmallTypes.ownedTupleIsFree (.ref (n + 4)) >>= _) _ _ _
  refine wpAny_bind ?_ ; unfold Builtin.SmallTypes.ownedTupleIsFree
  refine wpAny_bind (wpAny_field hz rfl (x := .none) rfl (wpAny_pure ?_)) ; simp only [if_true]
  refine wpAny_bind (wpAny_rule ?_) ; refine wpAny_bind (wpAny_field hz rfl (x := .ref (n + 3)) rfl ?_)
  refine wpAny_bind (wpAny_setField_rec hz (by simp) fun h0 hz0 q0 => ?_) ; replace hz0 : IsZip h0 (n + 4) (n + 2) (n + 3) .ellipsis := hz0
  have k0 : ∀ c o, c ≠ (n + 4) → s.heap.get? c = some o → h0.get? c = some o := fun c o d e => q0.extBut _ _ d e
  have O0 : IsTp h0 (n + 3) arr := k0 _ _ (by show @Ne Nat _ _; omega) hO
  refine wpAny_bind ?_ ; simp only [List.zipIdx_cons, List.zipIdx_nil, List.forIn_cons, List.forIn_nil]
  -- the 0. iterator
  have J0 : Heap.IsTupleIter h0 n l0 i := by obtain ⟨o, a1, a2⟩ := j0; exact ⟨o, k0 _ _ (by show @Ne Nat _ _; omega) a1, a2⟩
  have T0 : Heap.IsTuple h0 l0 xs0 := by obtain ⟨o, a1, a2⟩ := t0; exact ⟨o, k0 _ _ (by show @Ne Nat _ _; omega) a1, a2⟩
  refine wpAny_bind (wpAny_bind (wpAny_onRaise ?_)) ; show wpAny _ _ (Builtin.SmallTypes.nextOf (.ref n) >>= _) _ _ _
  refine wpAny_bind (nextOf_tup (s := { s with heap := h0 }) J0 T0 e0 fun h1 m0 q1 => wpAny_pure ?_)
  have O1 : IsTp h1 (n + 3) arr := q1.extBut _ _ (by show @Ne Nat _ _; omega) O0
  refine wpAny_bind (wpAny_seqItems (s := { s with heap := h1 }) O1 rfl ?_) ; refine wpAny_bind (updSeq_tp (s := { s with heap := h1 }) O1 (by simp [na, sz3]) fun h2 O2 q2 => ?_) ; refine wpAny_bind (wpAny_letGo (wpAny_pure ?_))
  have k2 : ∀ c o, c ≠ (n + 4) → c ≠ (n + 3) → c ≠ n → s.heap.get? c = some o → h2.get? c = some o := fun c o dz dO d0 e => q2.extBut _ _ dO (q1.extBut _ _ d0 (k0 c o dz  e))
  -- the 1. iterator
  have J1 : Heap.IsTupleIter h2 (n + 1) l1 i := by obtain ⟨o, a1, a2⟩ := j1; exact ⟨o, k2 _ _ (by show @Ne Nat _ _; omega) (by show @Ne Nat _ _; omega) (by show @Ne Nat _ _; omega) a1, a2⟩
  have T1 : Heap.IsTuple h2 l1 xs1 := by obtain ⟨o, a1, a2⟩ := t1; exact ⟨o, k2 _ _ (by show @Ne Nat _ _; omega) (by show @Ne Nat _ _; omega) (by show @Ne Nat _ _; omega) a1, a2⟩
  refine wpAny_bind (wpAny_bind (wpAny_onRaise ?_)) ; show wpAny _ _ (Builtin.SmallTypes.nextOf (.ref (n + 1)) >>= _) _ _ _
  refine wpAny_bind (nextOf_tup (s := { s with heap := h2 }) J1 T1 e1 fun h3 m1 q3 => wpAny_pure ?_)
  have O3 : IsTp h3 (n + 3) (arr.setIfInBounds 0 x0) := q3.extBut _ _ (by show @Ne Nat _ _; omega) O2
  refine wpAny_bind (wpAny_seqItems (s := { s with heap := h3 }) O3 rfl ?_) ; refine wpAny_bind (updSeq_tp (s := { s with heap := h3 }) O3 (by simp [na, sz3]) fun h4 O4 q4 => ?_) ; refine wpAny_bind (wpAny_letGo (wpAny_pure ?_))
  have k4 : ∀ c o, c ≠ (n + 4) → c ≠ (n + 3) → c ≠ n → c ≠ (n + 1) → s.heap.get? c = some o → h4.get? c = some o := fun c o dz dO d0 d1 e => q4.extBut _ _ dO (q3.extBut _ _ d1 (k2 c o dz dO d0 e))
  have ea : ((arr.setIfInBounds 0 x0).setIfInBounds 1 x1) = #[x0, x1] := by obtain ⟨l⟩ := arr; match l, na with | [_, _], _ => rfl
  rw [ea] at O4
  have hzL : IsZip h4 (n + 4) (n + 2) (n + 3) .ellipsis := q4.extBut _ _ (by show @Ne Nat _ _; omega) (q3.extBut _ _ (by show @Ne Nat _ _; omega) (q2.extBut _ _ (by show @Ne Nat _ _; omega) (q1.extBut _ _ (by show @Ne Nat _ _; omega) (hz0))))
  have M0 : Heap.IsTupleIter h4 n l0 (i + 1) := it_ext q4.extBut (by show @Ne Nat _ _; omega) (it_ext q3.extBut (by show @Ne Nat _ _; omega) (it_ext q2.extBut (by show @Ne Nat _ _; omega) m0))
  have M1 : Heap.IsTupleIter h4 (n + 1) l1 (i + 1) := it_ext q4.extBut (by show @Ne Nat _ _; omega) m1
  have hsz : h4.objs.size = s.heap.objs.size := by rw [q4.1, q3.1, q2.1, q1.1, q0.1]
  refine wpAny_pure ?_ ; refine wpAny_bind (wpAny_seqItems (s := { s with heap := h4 }) O4 rfl ?_) ; refine wpAny_bind (wpAny_newTuple ?_)
  have lz : (n + 4) < h4.objs.size := Heap.lt_size hzL
  show wpAny _ _ (Builtin.SmallTypes.ownedTupleHandOut (.ref (n + 4)) (.ref h4.objs.size) >>= _) _ _ _ ; refine wpAny_bind ?_ ; unfold Builtin.SmallTypes.ownedTupleHandOut
  have hzM : IsZip (h4.push { cls := .type "tuple", data := .seq #[x0, x1] }) (n + 4) (n + 2) (n + 3) .ellipsis := Heap.get?_push_of_some _ hzL
  refine wpAny_bind (wpAny_setField_rec (s := { s with heap := h4.push { cls := .type "tuple", data := .seq #[x0, x1] } }) hzM (by simp) fun g1 hz1 r1 => ?_) ; replace hz1 : IsZip g1 (n + 4) (n + 2) (n + 3) (rawInt h4.objs.size) := hz1
  refine wpAny_setField_rec (s := { s with heap := g1 }) hz1 (by simp) fun g2 hz2 r2 => ?_ ; replace hz2 : IsZip g2 (n + 4) (n + 2) (n + 3) (rawInt h4.objs.size) := hz2
  have up : ∀ c o, c ≠ (n + 4) → h4.get? c = some o → g2.get? c = some o := fun c o d e => r2.extBut _ _ d (r1.extBut _ _ d (Heap.get?_push_of_some _ e))
  have hT : IsTp g2 h4.objs.size #[x0, x1] := r2.extBut _ _ (Nat.ne_of_gt lz) (r1.extBut _ _ (Nat.ne_of_gt lz) (Heap.get?_push_size _ rfl))
  rw [hsz] at hz2 hT ; refine wpAny_pure ⟨_, rfl, ?_⟩ ; show Q (.ref h4.objs.size) _ ; rw [hsz]
  exact hQ g2 hz2 (up _ _ (by show @Ne Nat _ _; omega) O4) (it_up (fun o e => up _ o (by show @Ne Nat _ _; omega) e) M0) (it_up (fun o e => up _ o (by show @Ne Nat _ _; omega) e) M1) hT fun c o dz dO d0 d1 e => up c o dz (k4 c o dz dO d0 d1 e)
theorem zip2_end {arr : Array Value} {Q : Fin → Shared → Prop} (hh : A.handled = none) (b0 : l0 < n) (b1 : l1 < n) (hz : IsZip s.heap (n + 4) (n + 2) (n + 3) .none) (hI : IsTp s.heap (n + 2) #[.ref n, .ref (n + 1)]) (hO : IsTp s.heap (n + 3) arr) (j0 : s.heap.IsTupleIter n l0 i) (j1 : s.heap.IsTupleIter (n + 1) l1 i) (t0 : s.heap.IsTuple l0 xs0) (t1 : s.heap.IsTuple l1 xs1)
    (e0 : xs0[i]? = none) (hE : ∀ h' e, (∀ c o, c ≠ (n + 4) → c ≠ (n + 3) → c ≠ n → c ≠ (n + 1) → s.heap.get? c = some o → h'.get? c = some o) → (∃ o, h'.get? e = some o ∧ o.cls = .type "StopIteration") → E (.ref e) { s with heap := h' }) :
    wpAny (model prog w) A (Builtin.«zip.__next__» ⟨[.ref (n + 4)], []⟩) Q E s := by
  show wpAny _ _ (field (.ref (n + 4)) 2 >>= _) _ _ _ ; refine wpAny_bind (wpAny_field hz rfl (x := .bool false) rfl ?_)
  show wpAny _ _ (field (.ref (n + 4)) 3 >>= _) _ _ _ ; refine wpAny_bind (wpAny_field hz rfl (x := .ref (n + 2)) rfl ?_)
  refine wpAny_bind (wpAny_seqItems hI rfl ?_) ; show wpAny _ _ (Builtin.SmallTypes.ownedTupleIsFree (.ref (n + 4)) >>= _) _ _ _
  refine wpAny_bind ?_ ; unfold Builtin.SmallTypes.ownedTupleIsFree
  refine wpAny_bind (wpAny_field hz rfl (x := .none) rfl (wpAny_pure ?_)) ; simp only [if_true]
  refine wpAny_bind (wpAny_rule ?_) ; refine wpAny_bind (wpAny_field hz rfl (x := .ref (n + 3)) rfl ?_)
  refine wpAny_bind (wpAny_setField_rec hz (by simp) fun h0 hz0 q0 => ?_) ; replace hz0 : IsZip h0 (n + 4) (n + 2) (n + 3) .ellipsis := hz0
  have J0 : Heap.IsTupleIter h0 n l0 i := by obtain ⟨o, a1, a2⟩ := j0; exact ⟨o, q0.extBut _ _ (by show @Ne Nat _ _; omega) a1, a2⟩
  have T0 : Heap.IsTuple h0 l0 xs0 := by obtain ⟨o, a1, a2⟩ := t0; exact ⟨o, q0.extBut _ _ (by show @Ne Nat _ _; omega) a1, a2⟩
  refine wpAny_bind ?_ ; simp only [List.zipIdx_cons, List.zipIdx_nil, List.forIn_cons, List.forIn_nil]
  refine wpAny_bind (wpAny_bind (wpAny_onRaise ?_)) ; show wpAny _ _ (Builtin.SmallTypes.nextOf (.ref n) >>= _) _ _ _
  refine wpAny_bind (nextOf_tup_end (s := { s with heap := h0 }) hh J0 T0 e0 fun h1 e q1 he => ?_)
  obtain ⟨oe, hoe, hce⟩ := he ; have hz1 : IsZip h1 (n + 4) (n + 2) (n + 3) .ellipsis := q1 _ _ (by show @Ne Nat _ _; omega) hz0
  have ez : e ≠ (n + 4) := fun x => by subst x; rw [hz1] at hoe; cases hoe; simp at hce
  refine wpAny_setField_rec (s := { s with heap := h1 }) hz1 (by simp) fun h2 _ q2 => hE h2 e (fun c o dz _ d0 _ x => q2.extBut _ _ dz (q1 _ _ d0 (q0.extBut _ _ dz x))) ⟨oe, q2.extBut _ _ ez hoe, hce⟩
end
end L2
namespace L2
open PySem PySem.Spec PyProof.Rows
section
variable {X : Cx} {pins : List (Addr × Obj)} {σ : St} {H : Hp} {s : Shared} {h' : Heap}
theorem Inv.turnedL {t' : Nat} (I : Inv X pins σ H s) (wr : List Addr) (hw : ∀ b ∈ wr, FpOk X pins H b) (k : ∀ b o, b ∉ wr → s.heap.get? b = some o → h'.get? b = some o) : Inv X pins σ H { s with heap := h', toks := t' } := by
  refine I.step (g' := s.gens) (d' := s.drawn) (ch := wr) (fun b hb => let ⟨_, a, _, c, d, e⟩ := hw b hb; ⟨c, a, d, e⟩) (fun b o _ _ hc e _ => k b o hc e) (fun b o _ _ hc e _ => ⟨o.slots, k b o hc e⟩) (fun _ _ _ _ n => n)
    (fun b o hc e => ⟨o, k b o hc e⟩) (fun _ _ e => e) (fun _ _ _ e => e) (fun b ps e => ⟨#[], by rw [e]; simp⟩) (fun m hm => ?_) (fun b u e => ?_) I.bare
  · obtain ⟨o, es, ep, ho, r⟩ := hm
    exact ⟨o, es, ep, k _ o (fun z => (hw _ z).2.1 rfl) ho, r⟩
  · refine (I.hok b u e).stay (fun c v hc q => k c v (fun z => ?_) q) (fun _ q => q) fun _ _ q => q
    have n := (hw c z).1
    rcases hc with rfl | hc
    · rw [n] at e; cases e
    · rw [n] at hc; cases hc
theorem Inv.turnedN {t' : Nat} {T : Addr} {o : HO} (I : Inv X pins σ H s) (wr : List Addr) (hw : ∀ b ∈ wr, FpOk X pins H b) (k : ∀ b o, b ∉ wr → s.heap.get? b = some o → h'.get? b = some o) (hT : s.heap.get? T = none) (new : ObjOk X.prog X.w (upd H T o) h' T o) :
    Inv X pins σ (upd H T o) { s with heap := h', toks := t' } := by
  have fr : H T = none := by
    cases q : H T with
    | none => rfl
    | some u => obtain ⟨z, e⟩ := (I.hok T u q).get; rw [hT] at e; cases e
  have ne : ∀ b u, H b = some u → b ≠ T := fun b u e z => by rw [z, fr] at e; cases e
  refine I.step (g' := s.gens) (d' := s.drawn) (ch := wr) (fun b hb => let ⟨_, a, _, c, d, e⟩ := hw b hb; ⟨c, a, d, e⟩) (fun b o _ _ hc e _ => k b o hc e) (fun b o _ _ hc e _ => ⟨o.slots, k b o hc e⟩) (fun b ob _ e n => ?_)
    (fun b o hc e => ⟨o, k b o hc e⟩) (fun b xs e => by rw [upd_ne (ne b _ e)]; exact e) (fun b ob u e => by rw [upd_ne (ne b _ e)]; exact e) (fun b ps e => ⟨#[], by rw [upd_ne (ne b _ e), e]; simp⟩) (fun m hm => ?_) (fun b u e => ?_) I.bare
  · have : b ≠ T := fun z => by rw [z, hT] at e; cases e
    rw [upd_ne this]; exact n
  · obtain ⟨o, es, ep, ho, r⟩ := hm
    exact ⟨o, es, ep, k _ o (fun z => (hw _ z).2.1 rfl) ho, r⟩
  · by_cases hb : b = T
    · subst hb; rw [upd_same] at e; cases e; exact new
    · rw [upd_ne hb] at e
      refine (I.hok b u e).stay (fun c v hc q => k c v (fun z => ?_) q) (fun c q => by rw [upd_ne (ne c _ q)]; exact q) fun c xs q => by rw [upd_ne (ne c _ q)]; exact q
      have n := (hw c z).1
      rcases hc with rfl | hc
      · rw [n] at e; cases e
      · rw [n] at hc; cases hc
end
def Itz2 (K : PySem.W.Frag) (l0 l1 : Addr) : It :=
  ⟨fun i H => ∃ (xs0 xs1 : List V) (x0 x1 : V), SqT K H l0 xs0 ∧ SqT K H l1 xs1 ∧ xs0[i]? = some x0 ∧ xs1[i]? = some x1,
    fun i H x H' => ∃ T, H T = none ∧ x = .ref T ∧ ∀ (xs0 xs1 : List V) (x0 x1 : V), SqT K H l0 xs0 → SqT K H l1 xs1 → xs0[i]? = some x0 → xs1[i]? = some x1 → H' = upd H T (.tup [x0, x1]),
    fun i H => ∃ xs0 xs1, SqT K H l0 xs0 ∧ SqT K H l1 xs1 ∧ xs0.length ≤ i⟩
theorem turn_zip2 {P : Program} {w : World} {K : PySem.W.Frag} {es : List Expr} {kk : Nat} {tp : Pos} {n l0 l1 : Nat} (b0 : l0 < n) (b1 : l1 < n) : Turn P w K (.Tuple es kk tp) (Itz2 K l0 l1) [n, (n + 1), (n + 2), (n + 3), (n + 4)] (n + 4) (ZS2 n l0 l1) where
  mem := by simp
  obj := fun i h st b hb => by
    obtain ⟨hz, hI, ⟨arr, na, hO⟩, j0, j1⟩ := st
    have c : b = n ∨ b = (n + 1) ∨ b = (n + 2) ∨ b = (n + 3) ∨ b = (n + 4) := by simpa using hb
    rcases c with rfl | rfl | rfl | rfl | rfl
    · obtain ⟨o, e, c, d⟩ := j0; exact ⟨o, e, fun v z => by rw [d] at z; cases z⟩
    · obtain ⟨o, e, c, d⟩ := j1; exact ⟨o, e, fun v z => by rw [d] at z; cases z⟩
    · exact ⟨_, hI, fun v z => by cases z⟩
    · exact ⟨_, hO, fun v z => by cases z⟩
    · exact ⟨_, hz, fun v z => by cases z⟩
  keep := fun i h h' st k => by
    obtain ⟨hz, hI, ⟨arr, na, hO⟩, j0, j1⟩ := st
    exact ⟨k _ (by simp) _ hz, k _ (by simp) _ hI, ⟨arr, na, k _ (by simp) _ hO⟩, it_up (fun o e => k _ (by simp) o e) j0, it_up (fun o e => k _ (by simp) o e) j1⟩
  item := by
    intro X hP hw hK hc i pins s σ H E I hf st hg
    subst hP hw hK
    obtain ⟨xs0, xs1, x0, x1, q0, q1, e0, e1⟩ := hg
    obtain ⟨its0, rv0, p0, _⟩ := I.tuple q0 ; obtain ⟨u0, hu0, ru0⟩ := rv0.get e0
    obtain ⟨its1, rv1, p1, _⟩ := I.tuple q1 ; obtain ⟨u1, hu1, ru1⟩ := rv1.get e1
    obtain ⟨hz, hI, ⟨arr, na, hO⟩, j0, j1⟩ := st
    have hT : s.TypeIs (.ref (n + 4)) "zip" := ⟨_, hz, rfl⟩
    unfold pyNext
    refine wpAny_bind (wpAny_attempt (wpAny_callSpecial?_slot (name := Str.ofString "__next__") hT F.slot_zip_next (wpAny_call_entry F.slot_zip_next hT F.entry_zip_next (zip2_item na b0 b1 hz hI hO j0 j1 (show s.heap.IsTuple l0 its0.toArray from p0) (show s.heap.IsTuple l1 its1.toArray from p1) (show its0.toArray[i]? = some u0 by simpa using hu0) (show its1.toArray[i]? = some u1 by simpa using hu1) fun h1 z1 O1 m0 m1 T1 kp => wpAny_pure ⟨_, rfl, ?_⟩) (F.args_zip_next_1 _))))
    refine wpAny_letOwnedTupleGo_zip (s := { s with heap := h1 }) z1 fun h2 z2 r2 => ?_
    have kp2 : ∀ c o, c ∉ ([(n + 4), (n + 3), n, (n + 1)] : List Addr) → s.heap.get? c = some o → h2.get? c = some o := fun c o hc e => by
      simp only [List.mem_cons, List.not_mem_nil, or_false, not_or] at hc
      obtain ⟨dz, dO, d0, d1⟩ := hc
      exact r2.extBut _ _ dz (kp c o dz dO d0 d1 e)
    have lz : (n + 4) < s.heap.objs.size := Heap.lt_size hz
    have T2 : IsTp h2 s.heap.objs.size #[u0, u1] := r2.extBut _ _ (Nat.ne_of_gt lz) T1
    have hf' : ∀ b ∈ ([(n + 4), (n + 3), n, (n + 1)] : List Addr), FpOk X pins H b := fun b hb => hf b (by simp only [List.mem_cons, List.not_mem_nil, or_false] at hb ⊢; rcases hb with h | h | h | h <;> simp [h])
    have I2 : Inv X pins σ (upd H s.heap.objs.size (.tup [x0, x1])) { s with heap := h2 } := I.turnedN (t' := s.toks) [(n + 4), (n + 3), n, (n + 1)] hf' kp2 (Heap.get?_none_of_le (Nat.le_refl _)) ⟨smz (show 2 ≤ 1000 by decide), [u0, u1], .cons ru0 (.cons ru1 (.nil)), ⟨_, T2, rfl, rfl, _, rfl⟩⟩
    refine ⟨.ref s.heap.objs.size, _, I2, rfl, ⟨_, I.hok.fresh (Nat.le_refl _), rfl, fun ys0 ys1 y0 y1 g0 g1 f0 f1 => ?_⟩, ?_, fun b hb => ?_⟩
    · have := I.tuple_inj g0 q0 ; subst this ; have := e0.symm.trans f0 ; cases this
      have := I.tuple_inj g1 q1 ; subst this ; have := e1.symm.trans f1 ; cases this
      rfl
    · refine ⟨z2, r2.extBut _ _ (by show @Ne Nat _ _; omega) (kp _ _ (by show @Ne Nat _ _; omega) (by show @Ne Nat _ _; omega) (by show @Ne Nat _ _; omega) (by show @Ne Nat _ _; omega) hI), ⟨_, rfl, r2.extBut _ _ (by show @Ne Nat _ _; omega) O1⟩, it_ext r2.extBut (by show @Ne Nat _ _; omega) m0, it_ext r2.extBut (by show @Ne Nat _ _; omega) m1⟩
    · have l2 : b < s.heap.objs.size := by
        simp only [List.mem_cons, List.not_mem_nil, or_false] at hb
        have lz : @LT.lt Nat _ (n + 4) s.heap.objs.size := lz
        rcases hb with rfl | rfl | rfl | rfl | rfl <;> (show @LT.lt Nat _ _ s.heap.objs.size; omega)
      rw [upd_ne (Nat.ne_of_lt l2)] ; exact (hf b hb).1
  done := by
    intro X hP hw hK hc i pins s σ H E I hf st hg
    subst hP hw hK
    obtain ⟨xs0, xs1, q0, q1, hx⟩ := hg
    obtain ⟨its0, rv0, p0, _⟩ := I.tuple q0
    obtain ⟨its1, rv1, p1, _⟩ := I.tuple q1
    obtain ⟨hz, hI, ⟨arr, na, hO⟩, j0, j1⟩ := st
    have hT : s.TypeIs (.ref (n + 4)) "zip" := ⟨_, hz, rfl⟩ ; have hl := rv0.length
    unfold pyNext
    refine wpAny_bind (wpAny_attempt (wpAny_callSpecial?_slot (name := Str.ofString "__next__") hT F.slot_zip_next (wpAny_call_entry F.slot_zip_next hT F.entry_zip_next (zip2_end (I.ok.hd hc) b0 b1 hz hI hO j0 j1 (show s.heap.IsTuple l0 its0.toArray from p0) (show s.heap.IsTuple l1 its1.toArray from p1) (by simp; omega) fun h1 e kp he => ?_) (F.args_zip_next_1 _))))
    obtain ⟨o, ho, hco⟩ := he ; refine wpAny_bind (wpAny_isInstance (T := "StopIteration") (b := true) ⟨o, ho, hco⟩ isSubtype_stop (wpAny_pure ⟨rfl, ?_⟩))
    refine I.turnedL (t' := s.toks) [(n + 4), (n + 3), n, (n + 1)] (fun b hb => hf b (by simp only [List.mem_cons, List.not_mem_nil, or_false] at hb ⊢; rcases hb with h | h | h | h <;> simp [h])) fun c o hc e => ?_
    simp only [List.mem_cons, List.not_mem_nil, or_false, not_or] at hc
    obtain ⟨dz, dO, d0, d1⟩ := hc
    exact kp c o dz dO d0 d1 e
  self := fun A' i s Q E st h => wpAny_pyIter_zip st.1 h
abbrev z2H1 (h : Heap) (l0 : Addr) : Heap := (h).push { cls := .type "tuple_iterator", data := .fields #[.ref l0, .int 0 0] }
abbrev z2H2 (h : Heap) (l0 l1 : Addr) : Heap := (z2H1 h l0).push { cls := .type "tuple_iterator", data := .fields #[.ref l1, .int 0 0] }
abbrev z2H3 (h : Heap) (l0 l1 : Addr) : Heap := (z2H2 h l0 l1).push { cls := .type "tuple", data := .seq #[.ref h.objs.size, .ref (z2H1 h l0).objs.size] }
abbrev z2H4 (h : Heap) (l0 l1 : Addr) : Heap := (z2H3 h l0 l1).push { cls := .type "tuple", data := .seq #[.none, .none] }
abbrev z2H5 (h : Heap) (l0 l1 : Addr) : Heap := (z2H4 h l0 l1).push { cls := .type "zip", data := .fields #[.none, .bool false, .bool false, .ref (z2H2 h l0 l1).objs.size, .ref (z2H3 h l0 l1).objs.size] }
theorem meets_zip2 (l0 l1 : Addr) (xs0 xs1 : Array Value) : Meets (Builtin.«zip.__new__» ⟨[.type "zip", .ref l0, .ref l1], []⟩) (fun _ R s => s.heap.IsTuple l0 xs0 ∧ s.heap.IsTuple l1 xs1 ∧ R (.ok (.ret (.ref (z2H4 s.heap l0 l1).objs.size))) { s with heap := z2H5 s.heap l0 l1 }) :=
  .of_wp fun prog w A R s h => by
    obtain ⟨hp, g, d, tk, os⟩ := s; obtain ⟨t0, t1, h⟩ := h
    have hsub := sub_zip
    have L0 : Heap.IsTuple (Shared.heap ⟨hp, g, d, tk, os⟩) l0 xs0 := t0
    have L1 : Heap.IsTuple (Shared.heap ⟨hp.push { cls := .type "tuple_iterator", data := .fields #[.ref l0, .int 0 0] }, g, d, tk, os⟩) l1 xs1 := Heap.IsTuple.push (t1) _
    wp_walk using wpAny_pyIter_tuple L0, wpAny_pyIter_tuple L1
    exact ⟨_, rfl, h⟩
theorem call_zipT2 {prog : Program} {w : World} {A : Around} {E : Value → Shared → Prop} {s : Shared} {l0 l1 : Addr} {xs0 xs1 : Array Value} {Q : Value → Shared → Prop} (t0 : s.heap.IsTuple l0 xs0) (t1 : s.heap.IsTuple l1 xs1)
    (h : ∀ h', ZS2 s.heap.objs.size l0 l1 0 h' → (∀ c o, s.heap.get? c = some o → h'.get? c = some o) → Q (.ref (s.heap.objs.size + 4)) { s with heap := h' }) : wpAny (model prog w) A (call (.type "zip") [.ref l0, .ref l1]) Q E s := by
  refine callType_new F.called_zip (by decide) (F.typeCall_zip_2 _ _) (F.newCall_zip_2 _ _) (fun obj => F.args_object_init_3 obj _ _) F.entry_zip_new (meets_zip2 l0 l1 xs0 xs1) ⟨t0, t1, ?_⟩
  have z1 : (z2H1 s.heap l0).objs.size = s.heap.objs.size + 1 := Heap.size_push ..
  have z2 : (z2H2 s.heap l0 l1).objs.size = s.heap.objs.size + 2 := by rw [Heap.size_push, z1]
  have z3 : (z2H3 s.heap l0 l1).objs.size = s.heap.objs.size + 3 := by rw [Heap.size_push, z2]
  have z4 : (z2H4 s.heap l0 l1).objs.size = s.heap.objs.size + 4 := by rw [Heap.size_push, z3]
  have z5 : (z2H5 s.heap l0 l1).objs.size = s.heap.objs.size + 5 := by rw [Heap.size_push, z4]
  have g0 : (z2H5 s.heap l0 l1).get? (s.heap).objs.size = some _ := Heap.get?_push_of_some _ (Heap.get?_push_of_some _ (Heap.get?_push_of_some _ (Heap.get?_push_of_some _ (Heap.get?_push_size _ rfl))))
  have g1 : (z2H5 s.heap l0 l1).get? (z2H1 s.heap l0).objs.size = some _ := Heap.get?_push_of_some _ (Heap.get?_push_of_some _ (Heap.get?_push_of_some _ (Heap.get?_push_size _ rfl)))
  have g2 : (z2H5 s.heap l0 l1).get? (z2H2 s.heap l0 l1).objs.size = some _ := Heap.get?_push_of_some _ (Heap.get?_push_of_some _ (Heap.get?_push_size _ rfl))
  have g3 : (z2H5 s.heap l0 l1).get? (z2H3 s.heap l0 l1).objs.size = some _ := Heap.get?_push_of_some _ (Heap.get?_push_size _ rfl)
  have g4 : (z2H5 s.heap l0 l1).get? (z2H4 s.heap l0 l1).objs.size = some _ := Heap.get?_push_size _ rfl
  show _ ∧ _
  rw [z2, z3, z4] at g4
  rw [z3] at g3
  rw [z1, z2] at g2
  rw [z1] at g1
  rw [z4]
  exact ⟨⟨_, g4, rfl⟩, h _ ⟨g4, g2, ⟨_, rfl, g3⟩, ⟨_, g0, rfl, rfl⟩, ⟨_, g1, rfl, rfl⟩⟩ fun c o x => Heap.get?_push_of_some _ (Heap.get?_push_of_some _ (Heap.get?_push_of_some _ (Heap.get?_push_of_some _ (Heap.get?_push_of_some _ x))))⟩
end L2
namespace L2
open PySem PySem.Spec PyProof.Rows
def iZip2 (K : PySem.W.Frag) (ta : TA) : TI := fun σ H R => ta σ H fun vs H1 => ∃ l0 l1, vs = [.ref l0, .ref l1] ∧ (∃ xs, SqT K H1 l0 xs) ∧ (∃ xs, SqT K H1 l1 xs) ∧ R (Itz2 K l0 l1) H1
theorem pi_zip2 {X : Cx} {a b : Expr} {ta : TA} {p pos tp : Pos} {es : List Expr} {kk : Nat} (hg : Gl X "zip") (hm : X.mg "zip" = none) (ha : PA X [a, b] ta) (hs : starEach [a, b] X.env = [(false, eval a X.env), (false, eval b X.env)] := by rfl) (hs2 : starEach [b] X.env = [(false, eval b X.env)] := by rfl) :
    PI X (.Tuple es kk tp) (.Call (.Name "zip" p) [a, b] [] pos) (iZip2 X.K ta) := by
  intro pins s σ H R I h
  refine Call_ (ld_blt I hg hm boot_zip (PyProof.Rows.callWith_type1 (thn (ha pos pins s σ H _ I h) fun us s1 ⟨vs, H1, I1, r1, q1⟩ => ?_) (by rw [hs, hs2]) (by rw [hs2]; rfl)))
  obtain ⟨l0, l1, e, ⟨xs0, q0⟩, ⟨xs1, q2⟩, q⟩ := q1
  subst e
  obtain ⟨u, v, rfl, r, r'⟩ := r1.two
  cases r
  cases r'
  obtain ⟨its0, rv0, p0, _⟩ := I1.tuple q0
  obtain ⟨its1, rv1, p1, _⟩ := I1.tuple q2
  refine call_zipT2 (show s1.heap.IsTuple l0 its0.toArray from p0) (show s1.heap.IsTuple l1 its1.toArray from p1) fun h' zs kp => ?_
  refine wpAny_pyIter_zip (s := { s1 with heap := h' }) zs.1 ⟨_, _, _, _, H1, rfl, I1.kept (t' := s1.toks) kp, turn_zip2 p0.lt p1.lt, zs, fun b hb => ?_, q⟩
  have hb' : s1.heap.objs.size ≤ b := by
    simp only [List.mem_cons, List.not_mem_nil, or_false] at hb
    rcases hb with rfl | rfl | rfl | rfl | rfl <;> (show @LE.le Nat _ _ _; omega)
  exact I1.fpOk hb' (I1.hok.fresh hb')
def rLIndex (K : PySem.W.Frag) : V → List V → Hp → VK → Prop := fun x vs H Q => ∃ (a : Addr) (xs : List V) (y z : V) (j : Nat), x = .ref a ∧ vs = [y] ∧ SqL K H a xs ∧ flatV y = true ∧ xs.all flatV = true ∧ xs[j]? = some z ∧ eqV z y = true ∧ (∀ m u, m < j → xs[m]? = some u → eqV u y = false) ∧ Q (.int j) H
theorem mt_lindex {X : Cx} : MtR X "list.index" (rLIndex X.K) := by
  intro pins s σ H x vs v us Q I rx rv h
  obtain ⟨a, xs, y, z, j, rfl, rfl, hq, fy, fx, hj, hit, hno, q⟩ := h
  cases rx
  obtain ⟨u, rfl, ru⟩ := rv.one
  obtain ⟨its, r, p, hz⟩ := I.list hq
  obtain ⟨⟨cls, dd, data, sl⟩, ho, hc, n, hd⟩ := p.isList
  simp only at hc hd
  subst hc hd
  have hl := r.length
  have hlt : j < xs.length := (List.getElem?_eq_some_iff.mp hj).1
  have fl : ∀ (m : Nat) (w : V), xs[m]? = some w → flatV w = true := fun m w e => List.all_eq_true.mp fx w (List.mem_of_getElem? e)
  have at' : ∀ (m : Nat) (hm : m < its.toArray.size) (w : V), xs[m]? = some w → eqU y its.toArray[m] = eqV w y := fun m hm w e => by
    obtain ⟨u', e', ru'⟩ := r.get e
    have : its.toArray[m] = u' := by
      have := List.getElem?_eq_some_iff.mp e'
      simpa using this.2
    rw [this]
    exact eqU_of ru' (fl m w e)
  have hs : sizeLine = 16777216 := sizeLine_eq
  refine call_meets PySem.F.slot_list_index ⟨_, ho, rfl⟩ PySem.F.entry_list_index (PySem.F.args_list_index_2 _ _) (SeqAt.list_indexAt a its.toArray n dd sl u (eqU y) j (by simp; omega) (by omega) ?_ ?_) ⟨ho, fun w hw => mem_eqAt ru fy r fx w (by simpa using hw), ⟨.int j, H, I.tok _, ⟨_, rfl⟩, q⟩⟩
  · rw [at' j _ z hj]; exact hit
  · intro m hm hmj
    have hmx : m < xs.length := by omega
    rw [at' m hm _ (List.getElem?_eq_getElem hmx)]
    exact hno m _ hmj (List.getElem?_eq_getElem hmx)
end L2
namespace L2
open PySem PySem.Spec PyProof.Rows
def rMulS : R2 := fun x y H Q => ∃ z n, x = .str z ∧ y = .int n ∧ MulOk z n ∧ Q (.str (PySem.Txt.mul z n)) H
theorem op_mul_str {X : Cx} : OpR X (binaryOp .Mult) rMulS := by
  intro pins s σ H x y v u Q I rx ry h
  obtain ⟨z, n, rfl, rfl, hm, q⟩ := h
  obtain ⟨t, rfl⟩ := rx
  obtain ⟨t', rfl⟩ := ry
  exact SB.mul hm fun t'' k => ⟨.str _, H, I.tok k, ⟨_, rfl⟩, q⟩
section
variable {σ : St} {H : Hp} {te tb : TE} {K : PySem.W.Frag}
end
end L2
namespace L2
open PySem PySem.Spec PyProof.Rows
section
variable {X : Cx} {pins : List (Addr × Obj)} {σ : St} {H : Hp} {s : Shared} {a : Addr} {kvs : List (Str × V)}
end
end L2
namespace L2
open PySem PySem.Spec PyProof.Rows
section
variable {K : PySem.W.Frag} {σ : St} {H : Hp}
end
end L2
namespace L2
open PySem PySem.Spec PyProof.Rows
section
variable {prog : Program} {w : World} {A : Around} {E : Value → Shared → Prop} {s : Shared} {n l0 l1 l2 : Nat} {i : Nat} {xs0 xs1 xs2 : Array Value}
end
end L2
namespace L2
open PySem PySem.Spec PyProof.Rows
end L2
namespace L2
open PySem PySem.Spec PyProof.Rows
section
variable {K : PySem.W.Frag} {σ : St} {H : Hp}
end
end L2
namespace L2
open PySem PySem.Spec PyProof.Rows
section
variable {X : Cx}
def rStarts : V → List V → Hp → VK → Prop := fun x vs H Q => ∃ z y, x = .str z ∧ vs = [.str y] ∧ Q (.bl (PySem.Txt.startswith z y)) H
theorem mt_startswith : MtR X "str.startswith" rStarts := by
  intro pins s σ H x vs v us Q I rx rv h
  obtain ⟨z, y, rfl, rfl, q⟩ := h
  obtain ⟨t, rfl⟩ := rx
  obtain ⟨u, rfl, ru⟩ := rv.one
  obtain ⟨t', rfl⟩ := ru
  exact PySem.SC.startswith ⟨.bl _, H, I, rfl, q⟩
theorem vals_strs : ∀ {texts : List Str} {us : List Value}, Vals (texts.map V.str) us → ∃ l, us = strValues l ∧ l.map (·.1) = texts
  | [], _, .nil => ⟨[], rfl, rfl⟩
  | z :: zs, _, .cons r q => by
    obtain ⟨t, rfl⟩ := r
    obtain ⟨l, rfl, e⟩ := vals_strs q
    exact ⟨(z, t) :: l, rfl, by rw [List.map_cons, e]⟩
def rJoin (K : PySem.W.Frag) : V → List V → Hp → VK → Prop := fun x vs H Q => ∃ z l texts, x = .str z ∧ vs = [.ref l] ∧ SqL K H l (texts.map V.str) ∧ JoinOk z texts = true ∧ Q (.str (PySem.Txt.join z texts)) H
theorem mt_join : MtR X "str.join" (rJoin X.K) := by
  intro pins s σ H x vs v us Q I rx rv h
  obtain ⟨z, l, texts, rfl, rfl, hl, hok, q⟩ := h
  obtain ⟨t, rfl⟩ := rx
  obtain ⟨u, rfl, ru⟩ := rv.one
  cases ru
  obtain ⟨its, r1, p1, _⟩ := I.list hl
  obtain ⟨ll, rfl, e⟩ := vals_strs r1
  exact PySem.SC.join p1.isList e hok fun t' k => ⟨.str _, H, I.tok k, ⟨_, rfl⟩, q⟩
def rSlS : V → Option Int → Option Int → Hp → VK → Prop := fun x lo hi H Q => ∃ z, x = .str z ∧ z.length ≤ sizeLine ∧ Q (.str (PySem.Txt.slice z lo hi)) H
theorem sl_str : SlR X rSlS := by
  intro pins s σ H x v vl vu lo hi sl Q I rx hs pl pu h
  obtain ⟨z, rfl, hz, q⟩ := h
  obtain ⟨t, rfl⟩ := rx
  obtain ⟨o, e1, e2, e3⟩ := hs
  refine ⟨"str", _, F.slot_str_getitem.lookup, typeIs_str _ _ _, ?_⟩
  have fin : ∀ k, ∀ t' : Tok, EP X pins σ Q (.str (PySem.Txt.slice z lo hi) t') { s with toks := k } := fun k t' => ⟨.str _, H, I.tok k, ⟨_, rfl⟩, q⟩
  cases pl with
  | none =>
    cases pu with
    | none => exact wpAny_getItem_str_slice (l := none) (u := none) (st := none) ⟨o, e1, e2, e3⟩ rfl (post_val_or_str ⟨Nat.le_trans (Txt.slice_le z _ _) hz, fun t' k => fin k t'⟩)
    | int j uj => exact wpAny_getItem_str_slice (l := none) (u := some (j, uj)) (st := none) ⟨o, e1, e2, e3⟩ rfl (post_val_or_str ⟨Nat.le_trans (Txt.slice_le z _ _) hz, fun t' k => fin k t'⟩)
  | int i ui =>
    cases pu with
    | none => exact wpAny_getItem_str_slice (l := some (i, ui)) (u := none) (st := none) ⟨o, e1, e2, e3⟩ rfl (post_val_or_str ⟨Nat.le_trans (Txt.slice_le z _ _) hz, fun t' k => fin k t'⟩)
    | int j uj => exact wpAny_getItem_str_slice (l := some (i, ui)) (u := some (j, uj)) (st := none) ⟨o, e1, e2, e3⟩ rfl (post_val_or_str ⟨Nat.le_trans (Txt.slice_le z _ _) hz, fun t' k => fin k t'⟩)
end
end L2
namespace L2
open PySem PySem.Spec PyProof.Rows
end L2
namespace L2
open PySem PySem.Spec PyProof.Rows
theorem gx_nest {K : PySem.W.Frag} {n m : Nat} {src : List (Option Nat)} {i j k : Nat} (h : src[i]? = some none) (h' : src[j]? = some none) (h'' : src[k]? = some none) : GExt (gTup K n (gCons (gTup K m (gCons (gName i) (gCons (gName j) gNil))) (gCons (gName k) gNil))) src := fun x σ H Q q => by
  obtain ⟨a, xs, e1, hs, hl, v, r, e2, b, ys, e3, hs2, hl2, v2, r2, e4, v3, r3, e5, e6, v4, r4, e7, e8, q⟩ := q
  exact ⟨a, xs, e1, hs, hl, v, r, e2, b, ys, e3, hs2, hl2, v2, r2, e4, v3, r3, e5, e6, v4, r4, e7, e8, (((Ext.refl _).set (pick_none h)).set (pick_none h')).set (pick_none h''), q⟩
end L2
namespace L2
open PySem PySem.Spec PyProof.Rows PySem.SeqAt
theorem vals_bools : ∀ {bs : List Bool} {us : List Value}, Vals (bs.map V.bl) us → us = bs.map Value.bool
  | [], _, .nil => rfl
  | b :: bs, _, .cons r q => by
    cases r
    rw [vals_bools q]
    rfl
def rCountB (K : PySem.W.Frag) : V → List V → Hp → VK → Prop := fun x vs H Q => ∃ (a : Addr) (bs : List Bool) (k : Bool), x = .ref a ∧ vs = [.bl k] ∧ SqL K H a (bs.map V.bl) ∧ Q (.int (bs.count k : Nat)) H
theorem mt_countB {X : Cx} : MtR X "list.count" (rCountB X.K) := by
  intro pins s σ H x vs v us Q I rx rv h
  obtain ⟨a, bs, k, rfl, rfl, hq, q⟩ := h
  cases rx
  obtain ⟨u, rfl, ru⟩ := rv.one
  cases ru
  obtain ⟨its, r, p, hz⟩ := I.list hq
  have e := vals_bools r
  subst e
  obtain ⟨⟨cls, dd, data, sl⟩, ho, hc, n, hd⟩ := p.isList
  simp only at hc hd
  subst hc hd
  refine call_meets PySem.F.slot_list_count ⟨_, ho, rfl⟩ PySem.F.entry_list_count (PySem.F.args_list_count_2 _ _) (list_countAt a (bs.map Value.bool).toArray n dd sl (.bool k) (isBoolOf k)) ⟨ho, fun y hy => ?_, ?_⟩
  · have hy : y ∈ bs.map Value.bool := by simpa using hy
    obtain ⟨b, _, rfl⟩ := List.mem_map.mp hy
    exact EqAt.bool_bool b k
  · have ec : ((bs.map Value.bool).countP (isBoolOf k) : Nat) = bs.count k := by
      rw [List.countP_map]
      rfl
    rw [show (bs.map Value.bool).toArray.toList = bs.map Value.bool from rfl, ec]
    exact ⟨.int _, H, I.tok _, ⟨_, rfl⟩, q⟩
end L2
namespace L2
open PySem PySem.Spec PyProof.Rows
section
variable {X : Cx} {K : PySem.W.Frag}
theorem call_isinstXT (hK : X.K = K) : CallR X (.builtin "isinstance") (fun xs H Q => ∃ a C b cs r, xs = [.ref a, .ref b] ∧ H a = some (excO a (.ref C)) ∧ XC K C ∧ XA K C ∧ H b = some (.tup cs) ∧ (∀ its, Vals cs its → PySem.W.kitAny K (.ref C) its = some r) ∧ Q (.bl r) H) := by
  subst hK
  intro pins s σ H xs us Q I r h
  obtain ⟨a, C, b, cs, r', rfl, ha, cC, xa, hb, e, q⟩ := h
  obtain ⟨v, w', rfl, rv, rw'⟩ := vals2 r
  cases (show v = Value.ref a from rv)
  cases (show w' = Value.ref b from rw')
  obtain ⟨p, _⟩ := I.hok a _ ha
  obtain ⟨z2, its2, r2, ⟨c2, d2, dt2, sl2⟩, e2, ec, ed, n2, en⟩ := (show ObjOk X.prog X.w H s.heap b (.tup cs) from I.hok b _ hb)
  dsimp only at ec ed en
  subst ec ed en
  exact PySem.W.kia_tup (kitx_exc cC xa) I.kIn p e2 (e _ r2) (fun z => nomatch z) fun tk => ⟨.bl r', H, I.tok tk, rfl, q⟩
end
end L2
namespace L2
open PySem PySem.Spec PyProof.Rows
end L2
namespace L2
open PySem PySem.Spec PyProof.Rows
inductive D where
  | non | bl (b : Bool) | int (i : Int) | str (x : Str) | tup (ds : List D) | rol (ds : List D) | kt (ds : List D) | ref (a : Addr) | ty (n : String)
def KtL (K : PySem.W.Frag) (a : Addr) (xs : List V) : Prop := ∃ (o : Obj) (its : Array Value) (n : Nat), K.lookup a = some o ∧ o.cls = .type "tuple" ∧ o.data = .seq its n ∧ its.size ≤ sizeLine ∧ Vals xs its.toList
def RoL (K : PySem.W.Frag) (H : Hp) (a : Addr) (xs : List V) : Prop :=
  (∃ o, H a = some (.frz o (.lst xs))) ∨ ∃ (o : Obj) (its : Array Value) (n : Nat), K.lookup a = some o ∧ o.cls = .type "list" ∧ o.dict = none ∧ o.data = .seq its n ∧ its.size ≤ sizeLine ∧ Vals xs its.toList
theorem RoL.sq {K : PySem.W.Frag} {H : Hp} {a : Addr} {xs : List V} (h : RoL K H a xs) : SqL K H a xs := by
  rcases h with h | h
  · exact .inl (.inr h)
  · exact .inr h
structure Kp (K : PySem.W.Frag) (H H' : Hp) : Prop where
  t : ∀ a xs, H a = some (.tup xs) → H' a = some (.tup xs)
  r : ∀ a xs, RoL K H a xs → RoL K H' a xs
theorem Kp.refl {K : PySem.W.Frag} (H : Hp) : Kp K H H := ⟨fun _ _ h => h, fun _ _ h => h⟩
theorem Kp.trans {K : PySem.W.Frag} {H H1 H2 : Hp} (a : Kp K H H1) (b : Kp K H1 H2) : Kp K H H2 := ⟨fun p xs h => b.t p xs (a.t p xs h), fun p xs h => b.r p xs (a.r p xs h)⟩
theorem Kp.of {K : PySem.W.Frag} {H H' : Hp} (h : ∀ b o, H b = some o → H' b = some o ∨ (∀ xs, o ≠ .tup xs) ∧ ∀ u v, o ≠ .frz u v) : Kp K H H' where
  t := fun a xs q => (h _ _ q).resolve_right fun z => z.1 _ rfl
  r := fun a xs q => by
    rcases q with ⟨o, q⟩ | q
    · exact .inl ⟨o, (h _ _ q).resolve_right fun z => z.2 _ _ rfl⟩
    · exact .inr q
theorem Kp.new {K : PySem.W.Frag} {H : Hp} {a : Addr} {o : HO} (h : H a = none) : Kp K H (upd H a o) := .of fun b u e => .inl (by rw [upd_ne (ne_of_none e h)]; exact e)
theorem Kp.put {K : PySem.W.Frag} {H : Hp} {a : Addr} {o u : HO} (h : H a = some o) (h1 : ∀ xs, o ≠ .tup xs) (h2 : ∀ u v, o ≠ .frz u v) : Kp K H (upd H a u) := .of fun b v e => by
  by_cases q : b = a
  · subst q; rw [h] at e; cases e; exact .inr ⟨h1, h2⟩
  · exact .inl (by rw [upd_ne q]; exact e)
mutual
def Rv (K : PySem.W.Frag) (H : Hp) : D → V → Prop
  | .non, v => v = .non
  | .bl b, v => v = .bl b
  | .int i, v => v = .int i
  | .str z, v => v = .str z
  | .tup ds, v => ∃ a xs, v = .ref a ∧ H a = some (.tup xs) ∧ RvAll K H ds xs
  | .rol ds, v => ∃ a xs, v = .ref a ∧ RoL K H a xs ∧ RvAll K H ds xs
  | .kt ds, v => ∃ a xs, v = .ref a ∧ KtL K a xs ∧ RvAll K H ds xs
  | .ref a, v => v = .ref a
  | .ty n, v => v = .ty n
def RvAll (K : PySem.W.Frag) (H : Hp) : List D → List V → Prop
  | [], xs => xs = []
  | d :: ds, xs => ∃ y ys, xs = y :: ys ∧ Rv K H d y ∧ RvAll K H ds ys
end
section
variable {K : PySem.W.Frag} {H H' : Hp}
theorem rv_non : Rv K H .non .non := by simp only [Rv]
theorem rv_bl (b : Bool) : Rv K H (.bl b) (.bl b) := by simp only [Rv]
theorem rv_int (i : Int) : Rv K H (.int i) (.int i) := by simp only [Rv]
theorem rv_str (z : Str) : Rv K H (.str z) (.str z) := by simp only [Rv]
theorem rv_ref (a : Addr) : Rv K H (.ref a) (.ref a) := by simp only [Rv]
theorem rv_ty (n : String) : Rv K H (.ty n) (.ty n) := by simp only [Rv]
theorem rv_kt {a : Addr} {xs : List V} {ds : List D} (h : KtL K a xs) (t : RvAll K H ds xs) : Rv K H (.kt ds) (.ref a) := by simp only [Rv]; exact ⟨a, xs, rfl, h, t⟩
theorem rv_tup {a : Addr} {xs : List V} {ds : List D} (h : H a = some (.tup xs)) (t : RvAll K H ds xs) : Rv K H (.tup ds) (.ref a) := by simp only [Rv]; exact ⟨a, xs, rfl, h, t⟩
theorem rv_rol {a : Addr} {xs : List V} {ds : List D} (h : RoL K H a xs) (t : RvAll K H ds xs) : Rv K H (.rol ds) (.ref a) := by simp only [Rv]; exact ⟨a, xs, rfl, h, t⟩
theorem Rv.non {v : V} (h : Rv K H .non v) : v = .non := by simpa only [Rv] using h
theorem Rv.bl {b : Bool} {v : V} (h : Rv K H (.bl b) v) : v = .bl b := by simpa only [Rv] using h
theorem Rv.int {i : Int} {v : V} (h : Rv K H (.int i) v) : v = .int i := by simpa only [Rv] using h
theorem Rv.str {z : Str} {v : V} (h : Rv K H (.str z) v) : v = .str z := by simpa only [Rv] using h
theorem Rv.ref {a : Addr} {v : V} (h : Rv K H (.ref a) v) : v = .ref a := by simpa only [Rv] using h
theorem Rv.ty {n : String} {v : V} (h : Rv K H (.ty n) v) : v = .ty n := by simpa only [Rv] using h
theorem Rv.kt {ds : List D} {v : V} (h : Rv K H (.kt ds) v) : ∃ a xs, v = .ref a ∧ KtL K a xs ∧ RvAll K H ds xs := by simpa only [Rv] using h
theorem Rv.tup {ds : List D} {v : V} (h : Rv K H (.tup ds) v) : ∃ a xs, v = .ref a ∧ H a = some (.tup xs) ∧ RvAll K H ds xs := by simpa only [Rv] using h
theorem Rv.rol {ds : List D} {v : V} (h : Rv K H (.rol ds) v) : ∃ a xs, v = .ref a ∧ RoL K H a xs ∧ RvAll K H ds xs := by simpa only [Rv] using h
theorem ra_nil : RvAll K H [] [] := by simp only [RvAll]
theorem ra_cons {d : D} {ds : List D} {x : V} {xs : List V} (h : Rv K H d x) (t : RvAll K H ds xs) : RvAll K H (d :: ds) (x :: xs) := by simp only [RvAll]; exact ⟨x, xs, rfl, h, t⟩
theorem RvAll.nil {xs : List V} (h : RvAll K H [] xs) : xs = [] := by simpa only [RvAll] using h
theorem RvAll.cons {d : D} {ds : List D} {xs : List V} (h : RvAll K H (d :: ds) xs) : ∃ y ys, xs = y :: ys ∧ Rv K H d y ∧ RvAll K H ds ys := by simpa only [RvAll] using h
mutual
theorem Rv.ts (s : Kp K H H') : ∀ (d : D) {v : V}, Rv K H d v → Rv K H' d v
  | .non, v, h => by simpa only [Rv] using h
  | .bl b, v, h => by simpa only [Rv] using h
  | .int i, v, h => by simpa only [Rv] using h
  | .str z, v, h => by simpa only [Rv] using h
  | .tup ds, v, h => by
    obtain ⟨a, xs, rfl, e, t⟩ := h.tup
    exact rv_tup (s.t _ _ e) (RvAll.ts s ds t)
  | .rol ds, v, h => by
    obtain ⟨a, xs, rfl, e, t⟩ := h.rol
    exact rv_rol (s.r _ _ e) (RvAll.ts s ds t)
  | .kt ds, v, h => by
    obtain ⟨a, xs, rfl, e, t⟩ := h.kt
    exact rv_kt e (RvAll.ts s ds t)
  | .ref a, v, h => by simpa only [Rv] using h
  | .ty n, v, h => by simpa only [Rv] using h
theorem RvAll.ts (s : Kp K H H') : ∀ (ds : List D) {xs : List V}, RvAll K H ds xs → RvAll K H' ds xs
  | [], xs, h => by rw [h.nil]; exact ra_nil
  | d :: ds, xs, h => by
    obtain ⟨y, ys, rfl, h1, h2⟩ := h.cons
    exact ra_cons (Rv.ts s d h1) (RvAll.ts s ds h2)
end
theorem RvAll.len : ∀ {ds : List D} {xs : List V}, RvAll K H ds xs → xs.length = ds.length
  | [], xs, h => by rw [h.nil]; rfl
  | d :: ds, xs, h => by
    obtain ⟨y, ys, rfl, _, h2⟩ := h.cons
    rw [List.length_cons, List.length_cons, h2.len]
theorem RvAll.get : ∀ {ds : List D} {xs : List V} {i : Nat} {d : D}, RvAll K H ds xs → ds[i]? = some d → ∃ v, xs[i]? = some v ∧ Rv K H d v
  | [], xs, i, d, h, e => by simp at e
  | d0 :: ds, xs, 0, d, h, e => by
    obtain ⟨y, ys, rfl, h1, h2⟩ := h.cons
    simp at e; subst e; exact ⟨y, rfl, h1⟩
  | d0 :: ds, xs, i + 1, d, h, e => by
    obtain ⟨y, ys, rfl, h1, h2⟩ := h.cons
    obtain ⟨v, e1, e2⟩ := h2.get (i := i) (by simpa using e)
    exact ⟨v, by simpa using e1, e2⟩
theorem RvAll.app : ∀ {ds es : List D} {xs ys : List V}, RvAll K H ds xs → RvAll K H es ys → RvAll K H (ds ++ es) (xs ++ ys)
  | [], es, xs, ys, h, k => by rw [h.nil]; exact k
  | d :: ds, es, xs, ys, h, k => by
    obtain ⟨y, zs, rfl, h1, h2⟩ := h.cons
    exact ra_cons h1 (h2.app k)
theorem RvAll.take : ∀ {ds : List D} {xs : List V} (n : Nat), RvAll K H ds xs → RvAll K H (ds.take n) (xs.take n)
  | [], xs, n, h => by rw [h.nil]; simp only [List.take_nil]; exact ra_nil
  | d :: ds, xs, 0, h => by simp only [List.take_zero]; exact ra_nil
  | d :: ds, xs, n + 1, h => by
    obtain ⟨y, zs, rfl, h1, h2⟩ := h.cons
    exact ra_cons h1 (h2.take n)
theorem RvAll.drop : ∀ {ds : List D} {xs : List V} (n : Nat), RvAll K H ds xs → RvAll K H (ds.drop n) (xs.drop n)
  | [], xs, n, h => by rw [h.nil]; simp only [List.drop_nil]; exact ra_nil
  | d :: ds, xs, 0, h => h
  | d :: ds, xs, n + 1, h => by
    obtain ⟨y, zs, rfl, h1, h2⟩ := h.cons
    exact h2.drop n
theorem RvAll.set : ∀ {ds : List D} {xs : List V} {d : D} {v : V} (n : Nat), RvAll K H ds xs → Rv K H d v → RvAll K H (ds.set n d) (xs.set n v)
  | [], xs, d, v, n, h, r => by rw [h.nil]; exact ra_nil
  | d0 :: ds, xs, d, v, 0, h, r => by
    obtain ⟨y, zs, rfl, h1, h2⟩ := h.cons
    exact ra_cons r h2
  | d0 :: ds, xs, d, v, n + 1, h, r => by
    obtain ⟨y, zs, rfl, h1, h2⟩ := h.cons
    exact ra_cons h1 (h2.set n r)
theorem RvAll.erase : ∀ {ds : List D} {xs : List V} (n : Nat), RvAll K H ds xs → RvAll K H (ds.eraseIdx n) (xs.eraseIdx n)
  | [], xs, n, h => by rw [h.nil]; exact ra_nil
  | d :: ds, xs, 0, h => by
    obtain ⟨y, zs, rfl, h1, h2⟩ := h.cons
    exact h2
  | d :: ds, xs, n + 1, h => by
    obtain ⟨y, zs, rfl, h1, h2⟩ := h.cons
    exact ra_cons h1 (h2.erase n)
theorem RvAll.bools : ∀ {bs : List Bool} {xs : List V}, RvAll K H (bs.map D.bl) xs → xs = bs.map V.bl
  | [], xs, h => h.nil
  | b :: bs, xs, h => by
    obtain ⟨y, ys, rfl, h1, h2⟩ := h.cons
    rw [h1.bl, h2.bools]; rfl
theorem RvAll.ints : ∀ {bs : List Int} {xs : List V}, RvAll K H (bs.map D.int) xs → xs = bs.map V.int
  | [], xs, h => h.nil
  | b :: bs, xs, h => by
    obtain ⟨y, ys, rfl, h1, h2⟩ := h.cons
    rw [h1.int, h2.ints]; rfl
theorem RvAll.strs : ∀ {bs : List Str} {xs : List V}, RvAll K H (bs.map D.str) xs → xs = bs.map V.str
  | [], xs, h => h.nil
  | b :: bs, xs, h => by
    obtain ⟨y, ys, rfl, h1, h2⟩ := h.cons
    rw [h1.str, h2.strs]; rfl
theorem ra_ints : ∀ (bs : List Int), RvAll K H (bs.map D.int) (bs.map V.int)
  | [] => ra_nil
  | b :: bs => ra_cons (rv_int b) (ra_ints bs)
theorem ra_strs : ∀ (bs : List Str), RvAll K H (bs.map D.str) (bs.map V.str)
  | [] => ra_nil
  | b :: bs => ra_cons (rv_str b) (ra_strs bs)
def RvKs {κ : Type} (K : PySem.W.Frag) (H : Hp) : List (κ × D) → List (κ × V) → Prop := Paired fun p q => p.1 = q.1 ∧ Rv K H p.2 q.2
theorem RvKs.ts {κ : Type} (s : Kp K H H') : ∀ {ks : List (κ × D)} {vs : List (κ × V)}, RvKs K H ks vs → RvKs K H' ks vs
  | _, _, .nil => .nil
  | _, _, .cons r t => .cons ⟨r.1, Rv.ts s _ r.2⟩ (RvKs.ts s t)
end
inductive Ce where
  | lst (ds : List D) | dct (kvs : List (Key × D)) | ins (c : Addr) (fs : List (Str × D)) | well | exc (c : Addr)
abbrev Sto := Addr → Option Ce
def Sto.set (S : Sto) (a : Addr) (c : Ce) : Sto := fun b => if b = a then some c else S b
theorem sset_same {S : Sto} {a : Addr} {c : Ce} : S.set a c a = some c := by unfold Sto.set; rw [if_pos rfl]
theorem sset_ne {S : Sto} {a b : Addr} {c : Ce} (h : b ≠ a) : S.set a c b = S b := by unfold Sto.set; rw [if_neg h]
theorem sset_sset {S : Sto} {a : Addr} {c e : Ce} : (S.set a c).set a e = S.set a e := by
  funext b; unfold Sto.set; split <;> rfl
theorem sne {S : Sto} {a b : Addr} {c : Ce} (h : S a = some c) (h' : S b = none) : a ≠ b := by
  intro e; subst e; rw [h] at h'; cases h'
def Rc (K : PySem.W.Frag) (H : Hp) (a : Addr) : Ce → Prop
  | .lst ds => ∃ xs, H a = some (.lst xs) ∧ RvAll K H ds xs
  | .dct kvs => ∃ vs, H a = some (.dK vs) ∧ RvKs K H kvs vs
  | .ins c fs => ∃ dx vs, H a = some (.ins c dx vs) ∧ RvKs K H fs vs
  | .well => ∃ x y z : Int, H a = some (.lst [.int x, .int y, .int z])
  | .exc c => H a = some (excO a (.ref c))
def Rs (K : PySem.W.Frag) (S : Sto) (H : Hp) : Prop := ∀ a c, S a = some c → Rc K H a c
section
variable {K : PySem.W.Frag} {H H' : Hp} {S : Sto} {a b : Addr} {c : Ce}
theorem Rc.has (h : Rc K H a c) : ∃ o, H a = some o ∧ (∀ xs, o ≠ .tup xs) ∧ ∀ u v, o ≠ .frz u v := by
  cases c with
  | lst ds => obtain ⟨xs, e, _⟩ := h; exact ⟨_, e, fun _ => nofun, fun _ _ => nofun⟩
  | dct ds => obtain ⟨xs, e, _⟩ := h; exact ⟨_, e, fun _ => nofun, fun _ _ => nofun⟩
  | ins c fs => obtain ⟨dx, vs, e, _⟩ := h; exact ⟨_, e, fun _ => nofun, fun _ _ => nofun⟩
  | well => obtain ⟨x, y, z, e⟩ := h; exact ⟨_, e, fun _ => nofun, fun _ _ => nofun⟩
  | exc c => exact ⟨_, h, fun _ => nofun, fun _ _ => nofun⟩
theorem Rc.keep (h : Rc K H a c) (e : ∀ o, H a = some o → H' a = some o) (s : Kp K H H') : Rc K H' a c := by
  cases c with
  | lst ds => obtain ⟨xs, e1, r⟩ := h; exact ⟨xs, e _ e1, RvAll.ts s _ r⟩
  | dct ds => obtain ⟨xs, e1, r⟩ := h; exact ⟨xs, e _ e1, r.ts s⟩
  | ins c fs => obtain ⟨dx, vs, e1, r⟩ := h; exact ⟨dx, vs, e _ e1, r.ts s⟩
  | well => obtain ⟨x, y, z, e1⟩ := h; exact ⟨x, y, z, e _ e1⟩
  | exc c => exact e _ h
theorem Rs.fresh (h : Rs K S H) (e : H a = none) : S a = none := by
  cases q : S a with
  | none => rfl
  | some c => obtain ⟨o, e1, _⟩ := (h a c q).has; rw [e] at e1; cases e1
theorem Rs.new (h : Rs K S H) (e : H a = none) {o : HO} (r : Rc K (upd H a o) a c) : Rs K (S.set a c) (upd H a o) := fun b x hb => by
  by_cases q : b = a
  · subst q; rw [sset_same] at hb; cases hb; exact r
  · rw [sset_ne q] at hb
    exact (h b x hb).keep (fun o e1 => by rw [upd_ne q]; exact e1) (Kp.new e)
theorem Rs.grow (h : Rs K S H) (e : H a = none) {o : HO} : Rs K S (upd H a o) := fun b x hb => by
  obtain ⟨u, e1, _⟩ := (h b x hb).has
  have q : b ≠ a := ne_of_none e1 e
  exact (h b x hb).keep (fun o e1 => by rw [upd_ne q]; exact e1) (Kp.new e)
theorem Rs.ts_put (h : Rs K S H) {e : Ce} (ha : S a = some e) {o : HO} : Kp K H (upd H a o) := by
  obtain ⟨u, e1, n1, n2⟩ := (h a e ha).has
  exact Kp.put e1 n1 n2
theorem Rs.put (h : Rs K S H) {e : Ce} (ha : S a = some e) {o : HO} (r : Rc K (upd H a o) a c) : Rs K (S.set a c) (upd H a o) := fun b x hb => by
  by_cases q : b = a
  · subst q; rw [sset_same] at hb; cases hb; exact r
  · rw [sset_ne q] at hb
    exact (h b x hb).keep (fun o e1 => by rw [upd_ne q]; exact e1) (h.ts_put ha)
theorem Rs.lst {ds : List D} (h : Rs K S H) (e : S a = some (.lst ds)) : ∃ xs, H a = some (.lst xs) ∧ RvAll K H ds xs := h a _ e
theorem Rs.dct {ds : List (Key × D)} (h : Rs K S H) (e : S a = some (.dct ds)) : ∃ xs, H a = some (.dK xs) ∧ RvKs K H ds xs := h a _ e
end
abbrev KD := D → Sto → Prop
abbrev KX := Addr → Sto → Prop
abbrev SD := List (Option D)
def Rst (K : PySem.W.Frag) (H : Hp) : SD → St → Prop := Paired fun (o : Option D) (u : Option V) => ∀ d, o = some d → ∃ v, u = some v ∧ Rv K H d v
section
variable {K : PySem.W.Frag} {H H' : Hp}
theorem Rst.ts (s : Kp K H H') : ∀ {σ : SD} {τ : St}, Rst K H σ τ → Rst K H' σ τ
  | _, _, .nil => .nil
  | _, _, .cons r t => .cons (fun d e => let ⟨v, e1, r1⟩ := r d e; ⟨v, e1, Rv.ts s _ r1⟩) (Rst.ts s t)
theorem Rst.get : ∀ {σ : SD} {τ : St} {i : Nat} {d : D}, Rst K H σ τ → σ[i]? = some (some d) → ∃ v, τ[i]? = some (some v) ∧ Rv K H d v
  | _, _, i, d, .nil, e => by simp at e
  | _, _, 0, d, .cons r t, e => by
    simp at e
    obtain ⟨v, e1, r1⟩ := r d e
    exact ⟨v, by simp [e1], r1⟩
  | _, _, i + 1, d, .cons r t, e => by
    obtain ⟨v, e1, r1⟩ := Rst.get (i := i) t (by simpa using e)
    exact ⟨v, by simpa using e1, r1⟩
theorem Rst.set : ∀ {σ : SD} {τ : St} (i : Nat) {d : D} {v : V}, Rst K H σ τ → Rv K H d v → Rst K H (σ.set i (some d)) (τ.set i (some v))
  | _, _, i, d, v, .nil, r => .nil
  | _, _, 0, d, v, .cons r t, q => .cons (fun d' e => by cases e; exact ⟨v, rfl, q⟩) t
  | _, _, i + 1, d, v, .cons r t, q => .cons r (Rst.set i t q)
theorem Rst.unset : ∀ {σ : SD} {τ : St} (i : Nat) (o : Option V), Rst K H σ τ → Rst K H (σ.set i none) (τ.set i o)
  | _, _, i, o, .nil => .nil
  | _, _, 0, o, .cons r t => .cons (fun d' e => by cases e) t
  | _, _, i + 1, o, .cons r t => .cons r (Rst.unset i o t)
theorem rst_none : ∀ (n : Nat) (τ : St), τ.length = n → Rst K H (List.replicate n none) τ
  | 0, [], _ => .nil
  | n + 1, _ :: τ, h => .cons (fun d e => by cases e) (rst_none n τ (by simpa using h))
theorem rst_vals : ∀ {ds : List D} {vs : List V}, RvAll K H ds vs → Rst K H (ds.map some) (vs.map some)
  | [], vs, h => by rw [h.nil]; exact .nil
  | d :: ds, vs, h => by
    obtain ⟨y, ys, rfl, h1, h2⟩ := h.cons
    exact .cons (fun d' e => by cases e; exact ⟨y, rfl, h1⟩) (rst_vals h2)
theorem Rst.app : ∀ {σ σ' : SD} {τ τ' : St}, Rst K H σ τ → Rst K H σ' τ' → Rst K H (σ ++ σ') (τ ++ τ')
  | _, _, _, _, .nil, h => h
  | _, _, _, _, .cons r t, h => .cons r (Rst.app t h)
end
end L2
namespace L2
open PySem PySem.Spec PyProof.Rows
structure Rdy (Y : Cx) (E : St → XK) (b : Bool) : Prop where
  call : ∀ p2 τ H s e s', Inv Y p2 τ H s → CXR Y.prog Y.w Y.stack H s (E τ) e s' → Y.xe e s'
  own : b = true → ∀ p2 τ H s h' a cls args, Inv Y p2 τ H s → Heap.MadeExcOf s.heap h' a cls args → E τ cls none H → Y.xe (.ref a) { s with heap := h' }
  loop : b = true → PassesOwn (model Y.prog Y.w) Y.A Y.env Y.xe
structure Ev (X : Cx) (b : Bool) where
  pn : List (Addr × Obj)
  xe : Value → Shared → Prop
  E : St → XK
  ok : Rdy { X with pn := pn, xe := xe } E b
abbrev Ev.cx {X : Cx} {b : Bool} (y : Ev X b) : Cx := { X with pn := y.pn, xe := y.xe }
def Cn (K : PySem.W.Frag) (H : Hp) (R : KD) (Q : VK) : Prop := ∀ d S v H', R d S → Rv K H' d v → Rs K S H' → Kp K H H' → Q v H'
def CnX (K : PySem.W.Frag) (H : Hp) (Z : KX) (e : XK) : Prop := ∀ C S H', Z C S → Rs K S H' → Kp K H H' → e (.ref C) none H'
theorem Cn.kp {K : PySem.W.Frag} {H H1 : Hp} {R : KD} {Q : VK} (h : Cn K H R Q) (k : Kp K H H1) : Cn K H1 R Q := fun d S v H' r v1 s1 k1 => h d S v H' r v1 s1 (k.trans k1)
theorem CnX.kp {K : PySem.W.Frag} {H H1 : Hp} {Z : KX} {e : XK} (h : CnX K H Z e) (k : Kp K H H1) : CnX K H1 Z e := fun C S H' r s1 k1 => h C S H' r s1 (k.trans k1)
abbrev TD := SD → Sto → KD → KX → Prop
def T (K : PySem.W.Frag) (E : St → XK) (t : TD) : TE := fun τ H Q => ∃ σ S R Z, Rst K H σ τ ∧ Rs K S H ∧ t σ S R Z ∧ Cn K H R Q ∧ CnX K H Z (E τ)
structure DE (K : PySem.W.Frag) (X : Cx) (e : Expr) (t : TD) : Prop where
  of : ∀ {b : Bool} (y : Ev X b), PE y.cx e (T K y.E t)
abbrev TDt := SD → Sto → (Bool → Sto → Prop) → KX → Prop
def CnT (K : PySem.W.Frag) (H : Hp) (R : Bool → Sto → Prop) (Q : Bool → Hp → Prop) : Prop := ∀ b S H', R b S → Rs K S H' → Kp K H H' → Q b H'
theorem CnT.kp {K : PySem.W.Frag} {H H1 : Hp} {R : Bool → Sto → Prop} {Q : Bool → Hp → Prop} (h : CnT K H R Q) (k : Kp K H H1) : CnT K H1 R Q := fun d S H' r s1 k1 => h d S H' r s1 (k.trans k1)
def Tt (K : PySem.W.Frag) (E : St → XK) (t : TDt) : TT := fun τ H Q => ∃ σ S R Z, Rst K H σ τ ∧ Rs K S H ∧ t σ S R Z ∧ CnT K H R Q ∧ CnX K H Z (E τ)
structure DT (K : PySem.W.Frag) (X : Cx) (e : Expr) (t : TDt) : Prop where
  of : ∀ {b : Bool} (y : Ev X b), PT y.cx e (Tt K y.E t)
abbrev TDa := SD → Sto → (List D → Sto → Prop) → KX → Prop
def CnA (K : PySem.W.Frag) (H : Hp) (R : List D → Sto → Prop) (Q : List V → Hp → Prop) : Prop := ∀ ds S vs H', R ds S → RvAll K H' ds vs → Rs K S H' → Kp K H H' → Q vs H'
def Ta (K : PySem.W.Frag) (E : St → XK) (t : TDa) : TA := fun τ H Q => ∃ σ S R Z, Rst K H σ τ ∧ Rs K S H ∧ t σ S R Z ∧ CnA K H R Q ∧ CnX K H Z (E τ)
structure DA (K : PySem.W.Frag) (X : Cx) (es : List Expr) (t : TDa) : Prop where
  of : ∀ {b : Bool} (y : Ev X b), PA y.cx es (Ta K y.E t)
theorem PE.mono {X : Cx} {e : Expr} {t t' : TE} (h : PE X e t) (i : ∀ τ H Q, t' τ H Q → t τ H Q) : PE X e t' := fun pins s τ H Q I q => h pins s τ H Q I (i τ H Q q)
theorem PT.mono {X : Cx} {e : Expr} {t t' : TT} (h : PT X e t) (i : ∀ τ H Q, t' τ H Q → t τ H Q) : PT X e t' := fun pins s τ H Q I q => h pins s τ H Q I (i τ H Q q)
theorem PA.mono {X : Cx} {e : List Expr} {t t' : TA} (h : PA X e t) (i : ∀ τ H Q, t' τ H Q → t τ H Q) : PA X e t' := fun pos pins s τ H Q I q => h pos pins s τ H Q I (i τ H Q q)
section
variable {K : PySem.W.Frag} {X : Cx}
def dVar (i : Nat) : TD := fun σ S R _ => ∃ d, σ[i]? = some (some d) ∧ R d S
def dC (d : D) : TD := fun _ S R _ => R d S
theorem dv (i : Nat) {x : Str} {pos : Pos} (hN : X.N[i]? = some x := by rfl) (hv : Vis X.env.scope x := by first | exact Or.inl rfl | exact Or.inr (Or.inl rfl) | exact Or.inr (Or.inr rfl)) (hd : (x == ("__debug__" : Str)) = false := by decide)
    (hcd : (x == ("__classdict__" : Str)) = false := by decide) : DE K X (.Name x pos) (dVar i) :=
  ⟨fun y => (pe_var (X := y.cx) hN hv hd hcd).mono fun τ H Q ⟨σ, S, R, Z, hσ, hS, ⟨d, e, r⟩, hR, _⟩ => let ⟨v, e1, rv⟩ := hσ.get e; ⟨v, e1, hR d S v H r rv hS (Kp.refl _)⟩⟩
theorem DE.const {e : Expr} {v : V} {d : D} (h : ∀ Y : Cx, Y.env = X.env → Y.mg = X.mg → PE Y e (tC v)) (r : ∀ H, Rv K H d v) : DE K X e (dC d) :=
  ⟨fun y => (h y.cx rfl rfl).mono fun τ H Q ⟨σ, S, R, Z, hσ, hS, q, hR, _⟩ => hR d S v H q (r H) hS (Kp.refl _)⟩
theorem di {i j pos} : DE K X (.Constant (.int i) j pos) (dC (.int i)) := .const (fun _ _ _ => pe_int) fun _ => rv_int i
theorem ds {i j pos} : DE K X (.Constant (.str i) j pos) (dC (.str i)) := .const (fun _ _ _ => pe_str) fun _ => rv_str i
theorem db {i j pos} : DE K X (.Constant (.bool i) j pos) (dC (.bl i)) := .const (fun _ _ _ => pe_bl) fun _ => rv_bl i
theorem dn {j pos} : DE K X (.Constant .none j pos) (dC .non) := .const (fun _ _ _ => pe_non) fun _ => rv_non
theorem dg {x : Str} {v : V} {d : D} {u : Value} {pos : Pos} (hm : X.mg x = some u) (r : RelV v u) (rd : ∀ H, Rv K H d v) (hg : Gl X x := by rfl) (hd : (x == ("__debug__" : Str)) = false := by decide) : DE K X (.Name x pos) (dC d) :=
  .const (fun Y e1 e2 => pe_glob (X := Y) (u := u) (show Y.env.kindOf x = _ by rw [e1]; exact hg) (by rw [e2]; exact hm) r hd) rd
theorem dty {x : Str} {n : String} {pos : Pos} (hm : X.mg x = none) (hv : bootBuiltins x = some (.type n)) (hg : Gl X x := by rfl) (hn : x ≠ "__name__" := by decide) (hd : (x == ("__debug__" : Str)) = false := by decide) : DE K X (.Name x pos) (dC (.ty n)) :=
  .const (fun Y e1 e2 => pe_bltn (X := Y) (v := .ty n) (show Y.env.kindOf x = _ by rw [e1]; exact hg) (by rw [e2]; exact hm) hv rfl hn hd) fun _ => rv_ty n
def aNil : TDa := fun _ S R _ => R [] S
def aCons (t : TD) (u : TDa) : TDa := fun σ S R Z => t σ S (fun d S1 => u σ S1 (fun ds S2 => R (d :: ds) S2) Z) Z
theorem an : DA K X [] aNil := ⟨fun y => (pa_nil (X := y.cx)).mono fun τ H Q ⟨σ, S, R, Z, hσ, hS, q, hR, _⟩ => hR [] S [] H q ra_nil hS (Kp.refl _)⟩
theorem ac {e : Expr} {es : List Expr} {t : TD} {u : TDa} (h : DE K X e t) (hr : DA K X es u) (hp : isPlain e = true := by rfl) : DA K X (e :: es) (aCons t u) :=
  ⟨fun y => (pa2 (h.of y) (hr.of y) hp).mono fun τ H Q ⟨σ, S, R, Z, hσ, hS, q, hR, hZ⟩ =>
    ⟨σ, S, _, Z, hσ, hS, q, fun d S1 x H1 r1 v1 s1 k1 => ⟨σ, S1, _, Z, hσ.ts k1, s1, r1, fun ds S2 xs H2 r2 v2 s2 k2 => hR (d :: ds) S2 (x :: xs) H2 r2 (ra_cons (Rv.ts k2 _ v1) v2) s2 (k1.trans k2), hZ.kp k1⟩, hZ⟩⟩
abbrev RD2 := D → D → Sto → KD → Prop
def Lr (K : PySem.W.Frag) (r : RD2) : R2 := fun x y H Q => ∃ d e S R, Rv K H d x ∧ Rv K H e y ∧ Rs K S H ∧ r d e S R ∧ Cn K H R Q
def OpD (K : PySem.W.Frag) (f : Value → Value → Sem Value) (r : RD2) : Prop := ∀ X : Cx, X.K = K → X.A.units + 64 < cLine → OpR X f (Lr K r)
def dOp (r : RD2) (ta tb : TD) : TD := fun σ S R Z => ta σ S (fun x S1 => tb σ S1 (fun y S2 => r x y S2 R) Z) Z
theorem T.op {E : St → XK} {r : RD2} {ta tb : TD} {τ : St} {H : Hp} {Q : VK} (h : T K E (dOp r ta tb) τ H Q) : tOp (Lr K r) (T K E ta) (T K E tb) τ H Q := by
  obtain ⟨σ, S, R, Z, hσ, hS, q, hR, hZ⟩ := h
  exact ⟨σ, S, _, Z, hσ, hS, q, fun d S1 x H1 r1 v1 s1 k1 => ⟨σ, S1, _, Z, hσ.ts k1, s1, r1, fun e S2 y H2 r2 v2 s2 k2 => ⟨d, e, S2, R, Rv.ts k2 _ v1, v2, s2, r2, hR.kp (k1.trans k2)⟩, hZ.kp k1⟩, hZ⟩
theorem bo {a b : Expr} {ta tb : TD} {op : Operator} {r : RD2} {pos : Pos} (ho : OpD K (binaryOp op) r) (hu : X.A.units + 64 < cLine) (ha : DE K X a ta) (hb : DE K X b tb) (hK : X.K = K := by rfl) : DE K X (.BinOp a op b pos) (dOp r ta tb) :=
  ⟨fun y => (pe_op (ho y.cx hK hu) (ha.of y) (hb.of y)).mono fun _ _ _ h => h.op⟩
theorem cm {a b : Expr} {ta tb : TD} {op : CmpOp} {r : RD2} {pos : Pos} (ho : OpD K (compareOp op) r) (hu : X.A.units + 64 < cLine) (ha : DE K X a ta) (hb : DE K X b tb) (hm : behindInMarks op b = false := by with_unfolding_all rfl) (hK : X.K = K := by rfl) : DE K X (.Compare a [op] [b] pos) (dOp r ta tb) :=
  ⟨fun y => (pe_cmpR (ho y.cx hK hu) (ha.of y) (hb.of y) hm).mono fun _ _ _ h => h.op⟩
def dB (t : TD) : TDt := fun σ S R Z => t σ S (fun x S1 => ∃ b, x = .bl b ∧ R b S1) Z
theorem Tt.b {E : St → XK} {t : TD} {τ : St} {H : Hp} {Q : Bool → Hp → Prop} (h : Tt K E (dB t) τ H Q) : T K E t τ H fun x H' => ∃ k, x = .bl k ∧ Q k H' := by
  obtain ⟨σ, S, R, Z, hσ, hS, q, hR, hZ⟩ := h
  exact ⟨σ, S, _, Z, hσ, hS, q, fun d S1 x H1 ⟨b, e, r1⟩ v1 s1 k1 => by subst e; exact ⟨b, v1.bl, hR b S1 H1 r1 s1 k1⟩, hZ⟩
theorem Tt.bop {E : St → XK} {r : RD2} {ta tb : TD} {τ : St} {H : Hp} {Q : Bool → Hp → Prop} (h : Tt K E (dB (dOp r ta tb)) τ H Q) : tTest (tOp (Lr K r) (T K E ta) (T K E tb)) τ H Q := h.b.op
theorem tcm {a b : Expr} {ta tb : TD} {op : CmpOp} {r : RD2} {pos : Pos} (ho : OpD K (compareOp op) r) (hu : X.A.units + 64 < cLine) (ha : DE K X a ta) (hb : DE K X b tb) (hm : behindInMarks op b = false := by with_unfolding_all rfl) (hK : X.K = K := by rfl) : DT K X (.Compare a [op] [b] pos) (dB (dOp r ta tb)) :=
  ⟨fun y => (pt_cmpR (ho y.cx hK hu) (ha.of y) (hb.of y) hm).mono fun _ _ _ h => h.bop⟩
theorem tv {e : Expr} {t : TD} (h : DE K X e t) (he : ∀ whole, isTrue e X.env whole = (do let v ← whole; standAt e.pos; holding [v] (truthy v)) := by intro _; rfl) : DT K X e (dB t) :=
  ⟨fun y => (pt_val (X := y.cx) (h.of y) he).mono fun _ _ _ h => h.b⟩
def dChain (r r' : RD2) (ta tb tc : TD) : TD := fun σ S R Z => ta σ S (fun x S1 => tb σ S1 (fun y S2 => r x y S2 fun z S3 => ∃ k, z = .bl k ∧ if k = true then tc σ S3 (fun w S4 => r' y w S4 R) Z else R (.bl false) S3) Z) Z
theorem T.chain {E : St → XK} {r r' : RD2} {ta tb tc : TD} {τ : St} {H : Hp} {Q : VK} (h : T K E (dChain r r' ta tb tc) τ H Q) : tChain (Lr K r) (Lr K r') (T K E ta) (T K E tb) (T K E tc) τ H Q := by
  obtain ⟨σ, S, R, Z, hσ, hS, q, hR, hZ⟩ := h
  refine ⟨σ, S, _, Z, hσ, hS, q, fun d S1 x H1 r1 v1 s1 k1 => ⟨σ, S1, _, Z, hσ.ts k1, s1, r1, fun e S2 y H2 r2 v2 s2 k2 => ⟨d, e, S2, _, Rv.ts k2 _ v1, v2, s2, r2, fun z S3 v H3 r3 v3 s3 k3 => ?_⟩, hZ.kp k1⟩, hZ⟩
  obtain ⟨k, rfl, r3⟩ := r3
  refine ⟨k, v3.bl, ?_⟩
  cases k with
  | true =>
    rw [if_pos rfl] at r3 ⊢
    exact ⟨σ, S3, _, Z, ((hσ.ts k1).ts k2).ts k3, s3, r3, fun w S4 wv H4 r4 v4 s4 k4 => ⟨e, w, S4, R, Rv.ts (k3.trans k4) _ v2, v4, s4, r4, hR.kp (((k1.trans k2).trans k3).trans k4)⟩, hZ.kp ((k1.trans k2).trans k3)⟩
  | false =>
    rw [if_neg Bool.false_ne_true] at r3 ⊢
    exact hR _ S3 _ H3 r3 (rv_bl false) s3 ((k1.trans k2).trans k3)
theorem cc {a b c : Expr} {ta tb tc : TD} {op op' : CmpOp} {r r' : RD2} {pos : Pos} (ho : OpD K (compareOp op) r) (ho' : OpD K (compareOp op') r') (hu : X.A.units + 64 < cLine) (ha : DE K X a ta) (hb : DE K X b tb) (hc : DE K X c tc)
    (hm : lastMarks [op, op'] [b, c] = false := by with_unfolding_all rfl) (hK : X.K = K := by rfl) : DE K X (.Compare a [op, op'] [b, c] pos) (dChain r r' ta tb tc) :=
  ⟨fun y => (pe_chain (ho y.cx hK hu) (ho' y.cx hK hu) (ha.of y) (hb.of y) (hc.of y) hm).mono fun _ _ _ h => h.chain⟩
theorem tcc {a b c : Expr} {ta tb tc : TD} {op op' : CmpOp} {r r' : RD2} {pos : Pos} (ho : OpD K (compareOp op) r) (ho' : OpD K (compareOp op') r') (hu : X.A.units + 64 < cLine) (ha : DE K X a ta) (hb : DE K X b tb) (hc : DE K X c tc)
    (hm : lastMarks [op, op'] [b, c] = false := by with_unfolding_all rfl) (hK : X.K = K := by rfl) : DT K X (.Compare a [op, op'] [b, c] pos) (dB (dChain r r' ta tb tc)) :=
  ⟨fun y => (pt_chain (ho y.cx hK hu) (ho' y.cx hK hu) (ha.of y) (hb.of y) (hc.of y) hm).mono fun _ _ _ h => h.b.chain⟩
def dAndV (ta tb : TD) : TD := fun σ S R Z => ta σ S (fun x S1 => ∃ c, x = .bl c ∧ if c = true then tb σ S1 R Z else R (.bl false) S1) Z
def dOrV (ta tb : TD) : TD := fun σ S R Z => ta σ S (fun x S1 => ∃ c, x = .bl c ∧ if c = true then R (.bl true) S1 else tb σ S1 R Z) Z
def dNotV (ta : TD) : TD := fun σ S R Z => ta σ S (fun x S1 => ∃ c, x = .bl c ∧ R (.bl (!c)) S1) Z
theorem ev1 {op} {a : Expr} {t : TD} {pos : Pos} (h : DE K X a t) : DE K X (.BoolOp op [a] pos) t := ⟨fun y => pe_one (h.of y)⟩
theorem eand {a b : Expr} {rest : List Expr} {ta tb : TD} {pos : Pos} (ha : DE K X a ta) (hb : DE K X (.BoolOp .And (b :: rest) pos) tb) : DE K X (.BoolOp .And (a :: b :: rest) pos) (dAndV ta tb) :=
  ⟨fun y => (pe_and (ha.of y) (hb.of y)).mono fun τ H Q ⟨σ, S, R, Z, hσ, hS, q, hR, hZ⟩ =>
    ⟨σ, S, _, Z, hσ, hS, q, fun d S1 x H1 ⟨c, e, r1⟩ v1 s1 k1 => by
      subst e
      refine ⟨c, v1.bl, ?_⟩
      cases c with
      | true => rw [if_pos rfl] at r1 ⊢; exact ⟨σ, S1, R, Z, hσ.ts k1, s1, r1, hR.kp k1, hZ.kp k1⟩
      | false => rw [if_neg Bool.false_ne_true] at r1 ⊢; exact hR _ S1 _ H1 r1 (rv_bl false) s1 k1, hZ⟩⟩
theorem eor {a b : Expr} {rest : List Expr} {ta tb : TD} {pos : Pos} (ha : DE K X a ta) (hb : DE K X (.BoolOp .Or (b :: rest) pos) tb) : DE K X (.BoolOp .Or (a :: b :: rest) pos) (dOrV ta tb) :=
  ⟨fun y => (pe_or (ha.of y) (hb.of y)).mono fun τ H Q ⟨σ, S, R, Z, hσ, hS, q, hR, hZ⟩ =>
    ⟨σ, S, _, Z, hσ, hS, q, fun d S1 x H1 ⟨c, e, r1⟩ v1 s1 k1 => by
      subst e
      refine ⟨c, v1.bl, ?_⟩
      cases c with
      | false => rw [if_neg Bool.false_ne_true] at r1 ⊢; exact ⟨σ, S1, R, Z, hσ.ts k1, s1, r1, hR.kp k1, hZ.kp k1⟩
      | true => rw [if_pos rfl] at r1 ⊢; exact hR _ S1 _ H1 r1 (rv_bl true) s1 k1, hZ⟩⟩
theorem enot {a : Expr} {ta : TD} {pos : Pos} (ha : DE K X a ta) : DE K X (.UnaryOp .Not a pos) (dNotV ta) :=
  ⟨fun y => (pe_not (ha.of y)).mono fun τ H Q ⟨σ, S, R, Z, hσ, hS, q, hR, hZ⟩ =>
    ⟨σ, S, _, Z, hσ, hS, q, fun d S1 x H1 ⟨c, e, r1⟩ v1 s1 k1 => by subst e; exact ⟨c, v1.bl, hR _ S1 _ H1 r1 (rv_bl _) s1 k1⟩, hZ⟩⟩
def dNot (t : TDt) : TDt := fun σ S R Z => t σ S (fun c S1 => R (!c) S1) Z
def dOr (t u : TDt) : TDt := fun σ S R Z => t σ S (fun c S1 => if c = true then R true S1 else u σ S1 R Z) Z
theorem tnot {a : Expr} {t : TDt} {pos : Pos} (ha : DT K X a t) : DT K X (.UnaryOp .Not a pos) (dNot t) :=
  ⟨fun y => (pt_not (ha.of y)).mono fun τ H Q ⟨σ, S, R, Z, hσ, hS, q, hR, hZ⟩ => ⟨σ, S, _, Z, hσ, hS, q, fun c S1 H1 r1 s1 k1 => hR _ S1 H1 r1 s1 k1, hZ⟩⟩
structure DW (K : PySem.W.Frag) (X : Cx) (e : Expr) (t : TDt) : Prop where
  of : ∀ {b : Bool} (y : Ev X b), PW y.cx e (Tt K y.E t)
theorem PW.mono {X : Cx} {e : Expr} {t t' : TT} (h : PW X e t) (i : ∀ τ H Q, t' τ H Q → t τ H Q) : PW X e t' := fun wh pins s τ H Q I q => h wh pins s τ H Q I (i τ H Q q)
theorem twd {e : Expr} {t : TDt} (h : DW K X e t) : DT K X e t := ⟨fun y => (h.of y).pt⟩
theorem tw1 {op} {a : Expr} {t : TDt} {pos : Pos} (h : DT K X a t) : DW K X (.BoolOp op [a] pos) t := ⟨fun y => by
  cases op with
  | And => exact pw_and1 (h.of y)
  | Or => exact pw_or1 (h.of y)⟩
theorem twor {a b : Expr} {rest : List Expr} {t u : TDt} {pos : Pos} (ha : DT K X a t) (hb : DW K X (.BoolOp .Or (b :: rest) pos) u) : DW K X (.BoolOp .Or (a :: b :: rest) pos) (dOr t u) :=
  ⟨fun y => (pw_or (ha.of y) (hb.of y)).mono fun τ H Q ⟨σ, S, R, Z, hσ, hS, q, hR, hZ⟩ =>
    ⟨σ, S, _, Z, hσ, hS, q, fun c S1 H1 r1 s1 k1 => by
      cases c with
      | false => rw [if_neg Bool.false_ne_true] at r1 ⊢; exact ⟨σ, S1, R, Z, hσ.ts k1, s1, r1, hR.kp k1, hZ.kp k1⟩
      | true => rw [if_pos rfl] at r1 ⊢; exact hR _ S1 H1 r1 s1 k1, hZ⟩⟩
def dIfE (t : TDt) (ta tb : TD) : TD := fun σ S R Z => t σ S (fun c S1 => if c = true then ta σ S1 R Z else tb σ S1 R Z) Z
theorem eif {c a b : Expr} {t : TDt} {ta tb : TD} {pos : Pos} (hc : DT K X c t) (ha : DE K X a ta) (hb : DE K X b tb) : DE K X (.IfExp c a b pos) (dIfE t ta tb) :=
  ⟨fun y => (pe_ifExp (hc.of y) (ha.of y) (hb.of y)).mono fun τ H Q ⟨σ, S, R, Z, hσ, hS, q, hR, hZ⟩ =>
    ⟨σ, S, _, Z, hσ, hS, q, fun c S1 H1 r1 s1 k1 => by
      cases c with
      | true => rw [if_pos rfl] at r1 ⊢; exact ⟨σ, S1, R, Z, hσ.ts k1, s1, r1, hR.kp k1, hZ.kp k1⟩
      | false => rw [if_neg Bool.false_ne_true] at r1 ⊢; exact ⟨σ, S1, R, Z, hσ.ts k1, s1, r1, hR.kp k1, hZ.kp k1⟩, hZ⟩⟩
def dLst (t : TDa) : TD := fun σ S R Z => t σ S (fun ds S1 => ds.length ≤ sizeLine ∧ ∀ p, S1 p = none → R (.ref p) (S1.set p (.lst ds))) Z
def dTup (t : TDa) : TD := fun σ S R Z => t σ S (fun ds S1 => ds.length ≤ sizeLine ∧ R (.tup ds) S1) Z
theorem elst {es : List Expr} {t : TDa} {pos : Pos} (h : DA K X es t) : DE K X (.List es pos) (dLst t) :=
  ⟨fun y => (pe_lst (h.of y)).mono fun τ H Q ⟨σ, S, R, Z, hσ, hS, q, hR, hZ⟩ =>
    ⟨σ, S, _, Z, hσ, hS, q, fun ds S1 xs H1 ⟨hl, r1⟩ v1 s1 k1 => ⟨by rw [v1.len]; exact hl, fun p hp => hR _ _ _ _ (r1 p (s1.fresh hp)) (rv_ref p) (s1.new hp ⟨xs, upd_same, RvAll.ts (.new hp) _ v1⟩) (k1.trans (.new hp))⟩, hZ⟩⟩
theorem etup {es : List Expr} {t : TDa} {x1} {pos : Pos} (h : DA K X es t) : DE K X (.Tuple es x1 pos) (dTup t) :=
  ⟨fun y => (pe_tup (h.of y)).mono fun τ H Q ⟨σ, S, R, Z, hσ, hS, q, hR, hZ⟩ =>
    ⟨σ, S, _, Z, hσ, hS, q, fun ds S1 xs H1 ⟨hl, r1⟩ v1 s1 k1 => ⟨by rw [v1.len]; exact hl, fun p hp => hR _ _ _ _ r1 (rv_tup upd_same (RvAll.ts (.new hp) _ v1)) (s1.grow hp) (k1.trans (.new hp))⟩, hZ⟩⟩
def Lc (K : PySem.W.Frag) (r : List D → Sto → KD → Prop) : List V → Hp → VK → Prop := fun xs H Q => ∃ ds S R, RvAll K H ds xs ∧ Rs K S H ∧ r ds S R ∧ Cn K H R Q
def CallD (K : PySem.W.Frag) (f : Value) (r : List D → Sto → KD → Prop) : Prop := ∀ X : Cx, X.K = K → X.calm = true → CallR X f (Lc K r)
def dCB (r : List D → Sto → KD → Prop) (t : TDa) : TD := fun σ S R Z => t σ S (fun ds S1 => r ds S1 R) Z
theorem T.cb {E : St → XK} {r : List D → Sto → KD → Prop} {t : TDa} {τ : St} {H : Hp} {Q : VK} (h : T K E (dCB r t) τ H Q) : tCB (Lc K r) (Ta K E t) τ H Q := by
  obtain ⟨σ, S, R, Z, hσ, hS, q, hR, hZ⟩ := h
  exact ⟨σ, S, _, Z, hσ, hS, q, fun ds S1 xs H1 r1 v1 s1 k1 => ⟨ds, S1, R, v1, s1, r1, hR.kp k1⟩, hZ⟩
theorem cb {x : Str} {id : String} {r : List D → Sto → KD → Prop} {e : Expr} {es : List Expr} {t : TDa} {p pos : Pos} (hc : CallD K (.builtin id) r) (hm : X.mg x = none) (hv : bootBuiltins x = some (.builtin id)) (ha : DA K X (e :: es) t) (hg : Gl X x := by rfl)
    (hn : x ≠ "__name__" := by decide) (hdb : (x == ("__debug__" : Str)) = false := by decide) (he : starEach (e :: es) X.env = (false, eval e X.env) :: starEach es X.env := by rfl) (hpl : (backTo pos (starEach es X.env)).any (·.1) = false := by rfl) (hK : X.K = K := by rfl) (hC : X.calm = true := by rfl) :
    DE K X (.Call (.Name x p) (e :: es) [] pos) (dCB r t) :=
  ⟨fun y => (pe_callB (X := y.cx) (hc _ hK hC) hg hm hv (ha.of y) hn hdb he hpl).mono fun _ _ _ h => h.cb⟩
theorem ct {x : Str} {id : String} {r : List D → Sto → KD → Prop} {e : Expr} {es : List Expr} {t : TDa} {p pos : Pos} (hc : CallD K (.type id) r) (hm : X.mg x = none) (hv : bootBuiltins x = some (.type id)) (ha : DA K X (e :: es) t) (hg : Gl X x := by rfl)
    (hn : x ≠ "__name__" := by decide) (hdb : (x == ("__debug__" : Str)) = false := by decide) (he : starEach (e :: es) X.env = (false, eval e X.env) :: starEach es X.env := by rfl) (hpl : (backTo pos (starEach es X.env)).any (·.1) = false := by rfl) (hK : X.K = K := by rfl) (hC : X.calm = true := by rfl) :
    DE K X (.Call (.Name x p) (e :: es) [] pos) (dCB r t) :=
  ⟨fun y => (pe_callTy (X := y.cx) (hc _ hK hC) hg hm hv (ha.of y) hn hdb he hpl).mono fun _ _ _ h => h.cb⟩
end
end L2
namespace L2
open PySem PySem.Spec PyProof.Rows
section
variable {K : PySem.W.Frag}
theorem Cn.now {H : Hp} {R : KD} {Q : VK} {S : Sto} {d : D} {v : V} (h : Cn K H R Q) (hS : Rs K S H) (r : R d S) (rv : Rv K H d v) : Q v H := h d S v H r rv hS (.refl _)
theorem Cn.new {H : Hp} {R : KD} {Q : VK} {S : Sto} {p : Addr} {ds : List D} {xs : List V} (h : Cn K H R Q) (hS : Rs K S H) (hp : H p = none) (r : S p = none → R (.ref p) (S.set p (.lst ds))) (rv : RvAll K H ds xs) : Q (.ref p) (upd H p (.lst xs)) :=
  h _ _ _ _ (r (hS.fresh hp)) (rv_ref p) (hS.new hp ⟨xs, upd_same, RvAll.ts (.new hp) _ rv⟩) (.new hp)
theorem Cn.newT {H : Hp} {R : KD} {Q : VK} {S : Sto} {p : Addr} {ds : List D} {xs : List V} (h : Cn K H R Q) (hS : Rs K S H) (hp : H p = none) (r : R (.tup ds) S) (rv : RvAll K H ds xs) : Q (.ref p) (upd H p (.tup xs)) :=
  h _ _ _ _ r (rv_tup upd_same (RvAll.ts (.new hp) _ rv)) (hS.grow hp) (.new hp)
theorem Cn.put {H : Hp} {R : KD} {Q : VK} {S : Sto} {p : Addr} {ds es : List D} {xs : List V} {d : D} {v : V} (h : Cn K H R Q) (hS : Rs K S H) (hp : S p = some (.lst es)) (r : R d (S.set p (.lst ds))) (rd : Rv K H d v) (rv : RvAll K H ds xs) : Q v (upd H p (.lst xs)) :=
  h _ _ _ _ r (Rv.ts (hS.ts_put hp) _ rd) (hS.put hp ⟨xs, upd_same, RvAll.ts (hS.ts_put hp) _ rv⟩) (hS.ts_put hp)
def SqD (S : Sto) : D → List D → Prop
  | .ref a, ds => S a = some (.lst ds)
  | .rol es, ds => es = ds
  | _, _ => False
theorem SqD.at {H : Hp} {S : Sto} {d : D} {ds : List D} {v : V} (h : SqD S d ds) (hS : Rs K S H) (r : Rv K H d v) : ∃ a xs, v = .ref a ∧ SqL K H a xs ∧ RvAll K H ds xs := by
  cases d with
  | ref a =>
    obtain ⟨xs, e, q⟩ := hS.lst h
    exact ⟨a, xs, r.ref, .of e, q⟩
  | rol es =>
    have h : es = ds := h
    subst h
    obtain ⟨a, xs, e, q, t⟩ := r.rol
    exact ⟨a, xs, e, q.sq, t⟩
  | _ => exact h.elim
def addD : RD2 := fun x y S R => match x, y with
  | .int i, .int j => R (.int (i + j)) S
  | .str a, .str b => a.length + b.length ≤ sizeLine ∧ R (.str (a ++ b)) S
  | .tup a, .tup b => a.length + b.length ≤ sizeLine ∧ R (.tup (a ++ b)) S
  | .ref a, .ref b => ∃ xs ys, S a = some (.lst xs) ∧ S b = some (.lst ys) ∧ xs.length + ys.length ≤ sizeLine ∧ ∀ p, S p = none → R (.ref p) (S.set p (.lst (xs ++ ys)))
  | _, _ => False
theorem o_add : OpD K (binaryOp .Add) addD := by
  intro X hK hu pins s σ H x y v u Q I rx ry ⟨d, e, S, R, r1, r2, hS, h, hR⟩
  subst hK
  cases d with
  | int i =>
    cases e with
    | int j => exact op_add pins s σ H x y v u Q I rx ry ⟨i, j, r1.int, r2.int, hR.now hS h (rv_int _)⟩
    | _ => exact h.elim
  | str i =>
    cases e with
    | str j => exact op_add_str pins s σ H x y v u Q I rx ry ⟨i, j, r1.str, r2.str, h.1, hR.now hS h.2 (rv_str _)⟩
    | _ => exact h.elim
  | tup i =>
    cases e with
    | tup j =>
      obtain ⟨a, xs, rfl, q1, t1⟩ := r1.tup
      obtain ⟨b, ys, rfl, q2, t2⟩ := r2.tup
      refine op_catU pins s σ H _ _ v u Q I rx ry ⟨a, b, xs, ys, rfl, rfl, .of q1, .of q2, by rw [t1.len, t2.len]; exact h.1, fun e => ?_, fun _ e => ?_, fun _ _ p hp => hR.newT hS hp h.2 (t1.app t2)⟩
      · subst e
        have : i = [] := List.length_eq_zero_iff.mp t1.len.symm
        subst this
        exact hR.now hS h.2 (rv_tup q2 t2)
      · subst e
        have : j = [] := List.length_eq_zero_iff.mp t2.len.symm
        subst this
        exact hR.now hS h.2 (by rw [List.append_nil]; exact rv_tup q1 t1)
    | _ => exact h.elim
  | ref a =>
    cases e with
    | ref b =>
      obtain ⟨xs, ys, e1, e2, hl, q⟩ := h
      obtain ⟨vs, h1, t1⟩ := hS.lst e1
      obtain ⟨ws, h2, t2⟩ := hS.lst e2
      exact op_cat pins s σ H x y v u Q I rx ry ⟨a, b, vs, ws, r1.ref, r2.ref, h1, h2, by rw [t1.len, t2.len]; exact hl, fun p hp => hR.new hS hp (q p) (t1.app t2)⟩
    | _ => exact h.elim
  | _ => exact h.elim
def subD : RD2 := fun x y S R => match x, y with
  | .int i, .int j => R (.int (i - j)) S
  | _, _ => False
theorem o_sub : OpD K (binaryOp .Sub) subD := by
  intro X hK hu pins s σ H x y v u Q I rx ry ⟨d, e, S, R, r1, r2, hS, h, hR⟩
  cases d <;> cases e <;> first | exact False.elim h | exact op_sub pins s σ H x y v u Q I rx ry ⟨_, _, r1.int, r2.int, hR.now hS h (rv_int _)⟩
def mulD : RD2 := fun x y S R => match x, y with
  | .int i, .int j => CMul i j ∧ R (.int (i * j)) S
  | .str z, .int n => MulOk z n ∧ R (.str (PySem.Txt.mul z n)) S
  | _, _ => False
theorem o_mul : OpD K (binaryOp .Mult) mulD := by
  intro X hK hu pins s σ H x y v u Q I rx ry ⟨d, e, S, R, r1, r2, hS, h, hR⟩
  cases d <;> cases e <;> first
    | exact False.elim h
    | exact op_mul pins s σ H x y v u Q I rx ry ⟨_, _, r1.int, r2.int, h.1, hR.now hS h.2 (rv_int _)⟩
    | exact op_mul_str pins s σ H x y v u Q I rx ry ⟨_, _, r1.str, r2.int, h.1, hR.now hS h.2 (rv_str _)⟩
def modD : RD2 := fun x y S R => match x, y with
  | .int i, .int j => 0 < j ∧ R (.int (i % j)) S
  | _, _ => False
theorem o_mod : OpD K (binaryOp .Mod) modD := by
  intro X hK hu pins s σ H x y v u Q I rx ry ⟨d, e, S, R, r1, r2, hS, h, hR⟩
  cases d <;> cases e <;> first | exact False.elim h | exact op_mod pins s σ H x y v u Q I rx ry ⟨_, _, r1.int, r2.int, h.1, hR.now hS h.2 (rv_int _)⟩
def fdivD : RD2 := fun x y S R => match x, y with
  | .int i, .int j => CDivL i j ∧ R (.int (i / j)) S
  | _, _ => False
theorem o_fdiv : OpD K (binaryOp .FloorDiv) fdivD := by
  intro X hK hu pins s σ H x y v u Q I rx ry ⟨d, e, S, R, r1, r2, hS, h, hR⟩
  cases d <;> cases e <;> first | exact False.elim h | exact op_fdivL pins s σ H x y v u Q I rx ry ⟨_, _, r1.int, r2.int, h.1, hR.now hS h.2 (rv_int _)⟩
def powD : RD2 := fun x y S R => match x, y with
  | .int i, .int j => CPow i j ∧ R (.int (i ^ j.toNat)) S
  | _, _ => False
theorem o_pow : OpD K (binaryOp .Pow) powD := by
  intro X hK hu pins s σ H x y v u Q I rx ry ⟨d, e, S, R, r1, r2, hS, h, hR⟩
  cases d <;> cases e <;> first | exact False.elim h | exact op_pow pins s σ H x y v u Q I rx ry ⟨_, _, r1.int, r2.int, h.1, hR.now hS h.2 (rv_int _)⟩
def ordD (f : Int → Int → Bool) (g : Str → Str → Bool) : RD2 := fun x y S R => match x, y with
  | .int i, .int j => R (.bl (f i j)) S
  | .str i, .str j => R (.bl (g i j)) S
  | _, _ => False
theorem o_ord {op : CmpOp} {f : Int → Int → Bool} {g : Str → Str → Bool} (h1 : ∀ X : Cx, OpR X (compareOp op) (rI0 fun i j => .bl (f i j)))
    (h2 : ∀ X : Cx, OpR X (compareOp op) (fun x y H Q => ∃ i j, x = .str i ∧ y = .str j ∧ Q (.bl (g i j)) H)) : OpD K (compareOp op) (ordD f g) := by
  intro X hK hu pins s σ H x y v u Q I rx ry ⟨d, e, S, R, r1, r2, hS, h, hR⟩
  cases d <;> cases e <;> first
    | exact False.elim h
    | exact h1 X pins s σ H x y v u Q I rx ry ⟨_, _, r1.int, r2.int, hR.now hS h (rv_bl _)⟩
    | exact h2 X pins s σ H x y v u Q I rx ry ⟨_, _, r1.str, r2.str, hR.now hS h (rv_bl _)⟩
theorem o_lt : OpD K (compareOp .Lt) (ordD (fun i j => decide (i < j)) fun i j => sLt i j) := o_ord (fun _ => op_lt) fun _ => op_lt_str
theorem o_le : OpD K (compareOp .LtE) (ordD (fun i j => decide (i ≤ j)) fun i j => sLe i j) := o_ord (fun _ => op_le) fun _ => op_le_str
theorem o_gt : OpD K (compareOp .Gt) (ordD (fun i j => decide (j < i)) fun i j => sLt j i) := o_ord (fun _ => op_gt) fun _ => op_gt_str
theorem o_ge : OpD K (compareOp .GtE) (ordD (fun i j => decide (j ≤ i)) fun i j => sLe j i) := o_ord (fun _ => op_ge) fun _ => op_ge_str
def isNonD : D → Bool
  | .non => true
  | _ => false
theorem isNon_of {H : Hp} {d : D} {v : V} (r : Rv K H d v) : decide (v = .non) = isNonD d := by
  cases d with
  | non => rw [r.non]; rfl
  | bl b => rw [r.bl]; rfl
  | int b => rw [r.int]; rfl
  | str b => rw [r.str]; rfl
  | ref b => rw [r.ref]; rfl
  | ty b => rw [r.ty]; rfl
  | tup b => obtain ⟨a, xs, rfl, _⟩ := r.tup; rfl
  | rol b => obtain ⟨a, xs, rfl, _⟩ := r.rol; rfl
  | kt b => obtain ⟨a, xs, rfl, _⟩ := r.kt; rfl
def isD : RD2 := fun x y S R => match y with
  | .non => R (.bl (isNonD x)) S
  | _ => False
theorem o_is : OpD K (compareOp .Is) isD := by
  intro X hK hu pins s σ H x y v u Q I rx ry ⟨d, e, S, R, r1, r2, hS, h, hR⟩
  cases e <;> first | exact False.elim h | exact op_isN pins s σ H x y v u Q I rx ry ⟨r2.non, by rw [isNon_of r1]; exact hR.now hS h (rv_bl _)⟩
mutual
def Dp (S : Sto) : D → PyData → Prop
  | .non, p => p = .none
  | .bl b, p => p = .bool b
  | .int i, p => p = .int i
  | .str z, p => p = .str z
  | .tup ds, p => ∃ ps, p = .tuple ps ∧ DpAll S ds ps
  | .rol ds, p => ∃ ps, p = .list ps ∧ DpAll S ds ps
  | .kt _, _ => False
  | .ref _, _ => False
  | .ty _, _ => False
def DpAll (S : Sto) : List D → List PyData → Prop
  | [], ps => ps = []
  | d :: ds, ps => ∃ q qs, ps = q :: qs ∧ Dp S d q ∧ DpAll S ds qs
end
mutual
theorem Dp.dt {H : Hp} {S : Sto} : ∀ (d : D) {p : PyData} {v : V}, Dp S d p → Rv K H d v → Dt K H p v
  | .non, p, v, h, r => by simp only [Dp] at h; subst h; simp only [Dt]; exact r.non
  | .bl b, p, v, h, r => by simp only [Dp] at h; subst h; simp only [Dt]; exact r.bl
  | .int b, p, v, h, r => by simp only [Dp] at h; subst h; simp only [Dt]; exact r.int
  | .str b, p, v, h, r => by simp only [Dp] at h; subst h; simp only [Dt]; exact r.str
  | .tup ds, p, v, h, r => by
    simp only [Dp] at h
    obtain ⟨ps, rfl, h⟩ := h
    obtain ⟨a, xs, rfl, q, t⟩ := r.tup
    simp only [Dt]
    exact ⟨a, xs, rfl, .of q, DpAll.dt ds h t⟩
  | .rol ds, p, v, h, r => by
    simp only [Dp] at h
    obtain ⟨ps, rfl, h⟩ := h
    obtain ⟨a, xs, rfl, q, t⟩ := r.rol
    simp only [Dt]
    exact ⟨a, xs, rfl, q.sq, DpAll.dt ds h t⟩
  | .kt a, p, v, h, r => by simp only [Dp] at h
  | .ref a, p, v, h, r => by simp only [Dp] at h
  | .ty a, p, v, h, r => by simp only [Dp] at h
theorem DpAll.dt {H : Hp} {S : Sto} : ∀ (ds : List D) {ps : List PyData} {vs : List V}, DpAll S ds ps → RvAll K H ds vs → DtAll K H ps vs
  | [], ps, vs, h, r => by simp only [DpAll] at h; subst h; rw [r.nil]; simp only [DtAll]
  | d :: ds, ps, vs, h, r => by
    simp only [DpAll] at h
    obtain ⟨q, qs, rfl, h1, h2⟩ := h
    obtain ⟨y, ys, rfl, r1, r2⟩ := r.cons
    simp only [DtAll]
    exact ⟨y, ys, rfl, Dp.dt d h1 r1, DpAll.dt ds h2 r2⟩
end
def Dl (S : Sto) : D → PyData → Prop
  | .ref a, p => ∃ ds ps, S a = some (.lst ds) ∧ p = .list ps ∧ DpAll S ds ps
  | d, p => Dp S d p
theorem Dl.dt {H : Hp} {S : Sto} {d : D} {p : PyData} {v : V} (h : Dl S d p) (hS : Rs K S H) (r : Rv K H d v) : Dt K H p v := by
  cases d with
  | ref a =>
    obtain ⟨ds, ps, e, rfl, h⟩ := h
    obtain ⟨xs, e1, t⟩ := hS.lst e
    rw [r.ref]
    simp only [Dt]
    exact ⟨a, xs, rfl, .of e1, DpAll.dt ds h t⟩
  | _ => exact Dp.dt _ h r
def eqD (neg : Bool) : RD2 := fun x y S R => match x, y with
  | .int i, .int j => R (.bl (if neg then !decide (i = j) else decide (i = j))) S
  | .str i, .str j => R (.bl (if neg then !decide (i = j) else decide (i = j))) S
  | x, y => ∃ p q, Dl S x p ∧ Dl S y q ∧ p.canLay0 = true ∧ q.canLay0 = true ∧ (p.depth ≤ 64 ∨ q.depth ≤ 64) ∧ R (.bl (if neg then !PyData.eqv p q else PyData.eqv p q)) S
theorem eqD_go {S : Sto} {R : KD} {neg : Bool} {x y : D} (h : eqD neg x y S R) : (∃ i j, x = .int i ∧ y = .int j ∧ R (.bl (if neg then !decide (i = j) else decide (i = j))) S) ∨ (∃ i j, x = .str i ∧ y = .str j ∧ R (.bl (if neg then !decide (i = j) else decide (i = j))) S) ∨
    ∃ p q, Dl S x p ∧ Dl S y q ∧ p.canLay0 = true ∧ q.canLay0 = true ∧ (p.depth ≤ 64 ∨ q.depth ≤ 64) ∧ R (.bl (if neg then !PyData.eqv p q else PyData.eqv p q)) S := by
  cases x <;> cases y <;> first | exact .inl ⟨_, _, rfl, rfl, h⟩ | exact .inr (.inl ⟨_, _, rfl, rfl, h⟩) | exact .inr (.inr h)
theorem o_eq : OpD K (compareOp .Eq) (eqD false) := by
  intro X hK hu pins s σ H x y v u Q I rx ry ⟨d, e, S, R, r1, r2, hS, h, hR⟩
  subst hK
  rcases eqD_go h with ⟨i, j, rfl, rfl, h⟩ | ⟨i, j, rfl, rfl, h⟩ | ⟨p, q, h1, h2, c1, c2, dp, h⟩
  · cases r1.int; cases r2.int
    refine op_eq pins s σ H _ _ v u Q I rx ry ⟨rfl, ?_⟩
    have e : decide (V.int i = V.int j) = decide (i = j) := by simp
    rw [e]; exact hR.now hS h (rv_bl _)
  · cases r1.str; cases r2.str
    refine op_eq pins s σ H _ _ v u Q I rx ry ⟨rfl, ?_⟩
    have e : decide (V.str i = V.str j) = decide (i = j) := by simp
    rw [e]; exact hR.now hS h (rv_bl _)
  · exact op_eqD hu pins s σ H x y v u Q I rx ry ⟨p, q, h1.dt hS r1, h2.dt hS r2, c1, c2, dp, hR.now hS h (rv_bl _)⟩
theorem o_ne : OpD K (compareOp .NotEq) (eqD true) := by
  intro X hK hu pins s σ H x y v u Q I rx ry ⟨d, e, S, R, r1, r2, hS, h, hR⟩
  subst hK
  rcases eqD_go h with ⟨i, j, rfl, rfl, h⟩ | ⟨i, j, rfl, rfl, h⟩ | ⟨p, q, h1, h2, c1, c2, dp, h⟩
  · cases r1.int; cases r2.int
    refine op_ne pins s σ H _ _ v u Q I rx ry ⟨rfl, ?_⟩
    have e : decide (V.int i = V.int j) = decide (i = j) := by simp
    rw [e]; exact hR.now hS h (rv_bl _)
  · cases r1.str; cases r2.str
    refine op_ne pins s σ H _ _ v u Q I rx ry ⟨rfl, ?_⟩
    have e : decide (V.str i = V.str j) = decide (i = j) := by simp
    rw [e]; exact hR.now hS h (rv_bl _)
  · exact op_neD hu pins s σ H x y v u Q I rx ry ⟨p, q, h1.dt hS r1, h2.dt hS r2, c1, c2, dp, hR.now hS h (rv_bl _)⟩
def dval (kvs : List (Key × D)) (k : Key) : Option D := (kvs.find? fun kv => decide (kv.1 = k)).map (·.2)
theorem RvKs.val {H : Hp} {ks : List (Key × D)} {vs : List (Key × V)} (h : RvKs K H ks vs) (k : Key) : (∀ d, dval ks k = some d → ∃ v, valV vs k = some v ∧ Rv K H d v) ∧ (dval ks k = none → valV vs k = none) := by
  induction h with
  | nil => exact ⟨fun d e => (by cases e), fun _ => rfl⟩
  | @cons a b l m r t ih =>
    obtain ⟨k', d⟩ := a
    obtain ⟨k'', v⟩ := b
    obtain ⟨e0, r⟩ := r
    dsimp only at e0
    subst e0
    unfold dval valV
    simp only [List.find?_cons]
    by_cases q : k' = k
    · rw [decide_eq_true q]; exact ⟨fun d' e => ⟨v, rfl, (by cases e; exact r)⟩, fun e => (by cases e)⟩
    · rw [decide_eq_false q]; exact ih
theorem RvKs.len {κ : Type} {H : Hp} {ks : List (κ × D)} {vs : List (κ × V)} (h : RvKs K H ks vs) : vs.length = ks.length := (Paired.length h).symm
def keyD : D → Option Key
  | .int i => some (.inl i)
  | .str z => some (.inr z)
  | _ => none
theorem keyD_v {H : Hp} {d : D} {k : Key} {v : V} (h : keyD d = some k) (r : Rv K H d v) : v = kV k := by
  cases d with
  | int i => cases h; exact r.int
  | str i => cases h; exact r.str
  | _ => cases h
def flatD : D → Bool
  | .non => true | .bl _ => true | .int _ => true | .str _ => true
  | _ => false
def vOf : D → V
  | .non => .non | .bl b => .bl b | .int i => .int i | .str z => .str z | .ref a => .ref a | .ty n => .ty n
  | _ => .non
theorem flat_v {H : Hp} {d : D} {v : V} (h : flatD d = true) (r : Rv K H d v) : v = vOf d ∧ flatV v = true := by
  cases d with
  | non => cases r.non; exact ⟨rfl, rfl⟩
  | bl b => cases r.bl; exact ⟨rfl, rfl⟩
  | int b => cases r.int; exact ⟨rfl, rfl⟩
  | str b => cases r.str; exact ⟨rfl, rfl⟩
  | _ => cases h
theorem flat_vs {H : Hp} : ∀ {ds : List D} {vs : List V}, ds.all flatD = true → RvAll K H ds vs → vs = ds.map vOf ∧ vs.all flatV = true
  | [], vs, _, r => by rw [r.nil]; exact ⟨rfl, rfl⟩
  | d :: ds, vs, h, r => by
    obtain ⟨y, ys, rfl, r1, r2⟩ := r.cons
    rw [List.all_cons, Bool.and_eq_true] at h
    obtain ⟨e1, f1⟩ := flat_v h.1 r1
    obtain ⟨e2, f2⟩ := flat_vs h.2 r2
    refine ⟨by rw [e1, e2]; rfl, ?_⟩
    rw [List.all_cons, f1, f2]; rfl
def inD (neg : Bool) : RD2 := fun x y S R => match y with
  | .str j => ∃ i, x = .str i ∧ R (.bl (if neg then !(!(Builtin.Str.occurrences j i 0 j.length 1).isEmpty) else !(Builtin.Str.occurrences j i 0 j.length 1).isEmpty)) S
  | .kt ds => flatD x = true ∧ ds.all flatD = true ∧ R (.bl (if neg then !inV (vOf x) (ds.map vOf) else inV (vOf x) (ds.map vOf))) S
  | .tup ds => flatD x = true ∧ ds.all flatD = true ∧ R (.bl (if neg then !inV (vOf x) (ds.map vOf) else inV (vOf x) (ds.map vOf))) S
  | .ref a => (∃ ds, S a = some (.lst ds) ∧ flatD x = true ∧ ds.all flatD = true ∧ R (.bl (if neg then !inV (vOf x) (ds.map vOf) else inV (vOf x) (ds.map vOf))) S) ∨
      ∃ kvs k, S a = some (.dct kvs) ∧ keyD x = some k ∧ R (.bl (if neg then !(dval kvs k).isSome else (dval kvs k).isSome)) S
  | _ => False
theorem dget_of {H : Hp} {S : Sto} {a : Addr} {kvs : List (Key × D)} {k : Key} (hS : Rs K S H) (e : S a = some (.dct kvs)) : ∃ o, DGet H a (kV k) o ∧ o.isSome = (dval kvs k).isSome ∧ ∀ d, dval kvs k = some d → ∃ v, o = some v ∧ Rv K H d v := by
  obtain ⟨vs, e1, t⟩ := hS.dct e
  refine ⟨_, DGet.k e1, ?_, fun d h => (t.val k).1 d h⟩
  cases q : dval kvs k with
  | none => rw [(t.val k).2 q]; rfl
  | some d => obtain ⟨v, e2, _⟩ := (t.val k).1 d q; rw [e2]; rfl
theorem o_in : OpD K (compareOp .In) (inD false) := by
  intro X hK hu pins s σ H x y v u Q I rx ry ⟨d, e, S, R, r1, r2, hS, h, hR⟩
  subst hK
  cases e with
  | str j =>
    obtain ⟨i, rfl, h⟩ := h
    exact op_in_str pins s σ H x y v u Q I rx ry ⟨i, j, r1.str, r2.str, hR.now hS h (rv_bl _)⟩
  | tup ds =>
    obtain ⟨f1, f2, h⟩ := h
    obtain ⟨a, xs, rfl, q, t⟩ := r2.tup
    obtain ⟨e1, g1⟩ := flat_v f1 r1
    obtain ⟨e2, g2⟩ := flat_vs f2 t
    subst e1 e2
    exact op_in_seq pins s σ H _ _ v u Q I rx ry ⟨a, _, rfl, .inr (.of q), g1, g2, hR.now hS h (rv_bl _)⟩
  | kt ds =>
    obtain ⟨f1, f2, h⟩ := h
    obtain ⟨a, xs, rfl, q, t⟩ := r2.kt
    obtain ⟨e1, g1⟩ := flat_v f1 r1
    obtain ⟨e2, g2⟩ := flat_vs f2 t
    subst e1 e2
    exact op_in_seq pins s σ H _ _ v u Q I rx ry ⟨a, _, rfl, .inr (.inr q), g1, g2, hR.now hS h (rv_bl _)⟩
  | ref a =>
    cases r2.ref
    rcases h with ⟨ds, e, f1, f2, h⟩ | ⟨kvs, k, e, hk, h⟩
    · obtain ⟨xs, e1, t⟩ := hS.lst e
      obtain ⟨e2, g1⟩ := flat_v f1 r1
      obtain ⟨e3, g2⟩ := flat_vs f2 t
      subst e2 e3
      exact op_in_seq pins s σ H _ _ v u Q I rx ry ⟨a, _, rfl, .inl (.of e1), g1, g2, hR.now hS h (rv_bl _)⟩
    · cases keyD_v hk r1
      cases ry
      obtain ⟨o, g, e1, _⟩ := dget_of (k := k) hS e
      refine d_in (by omega) I g rx fun s' I' => ⟨.bl o.isSome, H, I', rfl, ?_⟩
      rw [e1]; exact hR.now hS h (rv_bl _)
  | _ => exact h.elim
def IxD (K : PySem.W.Frag) (r : RD2) : Prop := ∀ X : Cx, X.K = K → X.A.units + 64 < cLine → IxR X (Lr K r)
def ixD : RD2 := fun x y S R => match x, y with
  | .tup ds, .int i => ∃ d, atI ds i = some d ∧ R d S
  | .kt ds, .int i => ∃ d, atI ds i = some d ∧ R d S
  | .rol ds, .int i => ∃ d, atI ds i = some d ∧ R d S
  | .str z, .int i => ∃ c, z.length ≤ sizeLine ∧ atI z.cps.toList i = some c ∧ R (.str ⟨#[c]⟩) S
  | .ref a, .int i => ∃ ds d, S a = some (.lst ds) ∧ atI ds i = some d ∧ R d S
  | .ref a, .str z => ∃ kvs d, S a = some (.dct kvs) ∧ dval kvs (.inr z) = some d ∧ R d S
  | _, _ => False
theorem RvAll.at {H : Hp} {ds : List D} {xs : List V} {i : Int} {d : D} (h : RvAll K H ds xs) (e : atI ds i = some d) : ∃ v, atI xs i = some v ∧ Rv K H d v := by
  unfold atI at e ⊢
  rw [h.len]
  cases q : ixN ds.length i with
  | none => rw [q] at e; cases e
  | some j =>
    rw [q] at e
    exact h.get e
theorem o_ix : IxD K ixD := by
  intro X hK hu value slice pins s σ H x y v u Q I rx ry ⟨d, e, S, R, r1, r2, hS, h, hR⟩ hs
  subst hK
  cases d with
  | tup ds =>
    cases e with
    | int i =>
      obtain ⟨d, e, h⟩ := h
      obtain ⟨a, xs, rfl, q, t⟩ := r1.tup
      obtain ⟨z, e1, r⟩ := t.at e
      exact ix_tup value slice pins s σ H _ _ v u Q I rx ry ⟨a, xs, i, z, rfl, r2.int, .of q, e1, hR.now hS h r⟩ hs
    | _ => exact h.elim
  | kt ds =>
    cases e with
    | int i =>
      obtain ⟨d, e, h⟩ := h
      obtain ⟨a, xs, rfl, q, t⟩ := r1.kt
      obtain ⟨z, e1, r⟩ := t.at e
      exact ix_tup value slice pins s σ H _ _ v u Q I rx ry ⟨a, xs, i, z, rfl, r2.int, .inr q, e1, hR.now hS h r⟩ hs
    | _ => exact h.elim
  | rol ds =>
    cases e with
    | int i =>
      obtain ⟨d, e, h⟩ := h
      obtain ⟨a, xs, rfl, q, t⟩ := r1.rol
      obtain ⟨z, e1, r⟩ := t.at e
      exact ix_list value slice pins s σ H _ _ v u Q I rx ry ⟨a, xs, i, z, rfl, r2.int, q.sq, e1, hR.now hS h r⟩ hs
    | _ => exact h.elim
  | str w =>
    cases e with
    | int i =>
      obtain ⟨c, e0, e, h⟩ := h
      exact ix_str value slice pins s σ H _ _ v u Q I rx ry ⟨w, i, c, r1.str, r2.int, e0, e, hR.now hS h (rv_str _)⟩ hs
    | _ => exact h.elim
  | ref a =>
    cases e with
    | int i =>
      obtain ⟨ds, d, e, e1, h⟩ := h
      obtain ⟨xs, e2, t⟩ := hS.lst e
      obtain ⟨z, e3, r⟩ := t.at e1
      exact ix_list value slice pins s σ H _ _ v u Q I rx ry ⟨a, xs, i, z, r1.ref, r2.int, .of e2, e3, hR.now hS h r⟩ hs
    | str w =>
      obtain ⟨kvs, d, e, e1, h⟩ := h
      cases r1.ref
      cases r2.str
      cases rx
      obtain ⟨o, g, _, e2⟩ := dget_of (k := .inr w) hS e
      obtain ⟨z, rfl, r⟩ := e2 d e1
      exact tail_any (dict_typeIs I g) PySem.F.slot_dict_getitem.lookup (d_getItem (by omega) I g ry fun w' s' I' rw' => ⟨z, H, I', rw', hR.now hS h r⟩) hs
    | _ => exact h.elim
  | _ => exact h.elim
theorem ix {X : Cx} {a b : Expr} {ta tb : TD} {pos : Pos} (hu : X.A.units + 64 < cLine) (ha : DE K X a ta) (hb : DE K X b tb) (hs : PlainIx b := by exact fun _ _ => rfl) (hK : X.K = K := by rfl) : DE K X (.Subscript a b pos) (dOp ixD ta tb) :=
  ⟨fun y => (pe_ix (o_ix y.cx hK hu) (ha.of y) (hb.of y) hs).mono fun _ _ _ h => h.op⟩
end
end L2
namespace L2
open PySem PySem.Spec PyProof.Rows
section
variable {K : PySem.W.Frag} {X : Cx}
abbrev TDo := SD → Sto → (Option Int → Sto → Prop) → KX → Prop
def To (K : PySem.W.Frag) (E : St → XK) (t : TDo) : TO := fun τ H Q => ∃ σ S R Z, Rst K H σ τ ∧ Rs K S H ∧ t σ S R Z ∧ (∀ o S' H', R o S' → Rs K S' H' → Kp K H H' → Q o H') ∧ CnX K H Z (E τ)
structure DO (K : PySem.W.Frag) (X : Cx) (e : Option Expr) (t : TDo) : Prop where
  of : ∀ {b : Bool} (y : Ev X b), PO y.cx e (To K y.E t)
theorem PO.mono {e : Option Expr} {t t' : TO} (h : PO X e t) (i : ∀ τ H Q, t' τ H Q → t τ H Q) : PO X e t' := fun pins s τ H Q I q => h pins s τ H Q I (i τ H Q q)
def oNone : TDo := fun _ S R _ => R none S
def oSome (t : TD) : TDo := fun σ S R Z => t σ S (fun d S1 => ∃ i, d = .int i ∧ R (some i) S1) Z
theorem o0 : DO K X none oNone := ⟨fun y => (po_none (X := y.cx)).mono fun τ H Q ⟨σ, S, R, Z, hσ, hS, q, hR, hZ⟩ => hR _ S H q hS (.refl _)⟩
theorem o1 {e : Expr} {t : TD} (h : DE K X e t) : DO K X (some e) (oSome t) :=
  ⟨fun y => (po_some (h.of y)).mono fun τ H Q ⟨σ, S, R, Z, hσ, hS, q, hR, hZ⟩ => ⟨σ, S, _, Z, hσ, hS, q, fun d S1 x H1 ⟨i, e, r1⟩ v1 s1 k1 => by subst e; exact ⟨i, v1.int, hR _ S1 H1 r1 s1 k1⟩, hZ⟩⟩
def cutL {α : Type} (xs : List α) (lo hi : Option Int) : List α := (xs.drop (HT.sIx xs.length 0 lo)).take (HT.sIx xs.length xs.length hi - HT.sIx xs.length 0 lo)
theorem RvAll.cut {H : Hp} {ds : List D} {xs : List V} (h : RvAll K H ds xs) (lo hi : Option Int) : RvAll K H (cutL ds lo hi) (cutV xs lo hi) := by
  unfold cutL cutV
  rw [h.len]
  exact (h.drop _).take _
def slD : D → Option Int → Option Int → Sto → KD → Prop := fun x lo hi S R => match x with
  | .str z => z.length ≤ sizeLine ∧ R (.str (PySem.Txt.slice z lo hi)) S
  | .tup ds => ¬ (HT.sIx ds.length 0 lo = 0 ∧ HT.sIx ds.length ds.length hi = ds.length) ∧ R (.tup (cutL ds lo hi)) S
  | .ref a => ∃ ds, S a = some (.lst ds) ∧ ∀ p, S p = none → R (.ref p) (S.set p (.lst (cutL ds lo hi)))
  | .rol ds => ∀ p, S p = none → R (.ref p) (S.set p (.lst (cutL ds lo hi)))
  | _ => False
def Lsl (K : PySem.W.Frag) : V → Option Int → Option Int → Hp → VK → Prop := fun x lo hi H Q => ∃ d S R, Rv K H d x ∧ Rs K S H ∧ slD d lo hi S R ∧ Cn K H R Q
theorem o_sl (hK : X.K = K) : SlR X (Lsl K) := by
  intro pins s σ H x v vl vu lo hi sl Q I rx hs pl pu ⟨d, S, R, r1, hS, h, hR⟩
  subst hK
  cases d with
  | str z => exact sl_str pins s σ H x v vl vu lo hi sl Q I rx hs pl pu ⟨z, r1.str, h.1, hR.now hS h.2 (rv_str _)⟩
  | tup ds =>
    obtain ⟨a, xs, rfl, q, t⟩ := r1.tup
    exact sl_tup pins s σ H _ v vl vu lo hi sl Q I rx hs pl pu ⟨a, xs, rfl, .of q, by rw [t.len]; exact h.1, fun p hp => hR.newT hS hp h.2 (t.cut lo hi)⟩
  | ref a =>
    obtain ⟨ds, e, h⟩ := h
    obtain ⟨xs, e1, t⟩ := hS.lst e
    exact sl_list pins s σ H _ v vl vu lo hi sl Q I rx hs pl pu ⟨a, xs, r1.ref, .of e1, fun p hp => hR.new hS hp (h p) (t.cut lo hi)⟩
  | rol ds =>
    obtain ⟨a, xs, rfl, q, t⟩ := r1.rol
    exact sl_list pins s σ H _ v vl vu lo hi sl Q I rx hs pl pu ⟨a, xs, rfl, q.sq, fun p hp => hR.new hS hp (h p) (t.cut lo hi)⟩
  | _ => exact h.elim
def dSl (te : TD) (tl th : TDo) : TD := fun σ S R Z => te σ S (fun x S1 => tl σ S1 (fun l S2 => th σ S2 (fun u S3 => slD x l u S3 R) Z) Z) Z
theorem sl {e : Expr} {lo hi : Option Expr} {te : TD} {tl th : TDo} {p2 pos : Pos} (he : DE K X e te) (hl : DO K X lo tl) (hu : DO K X hi th) (hK : X.K = K := by rfl) : DE K X (.Subscript e (.Slice lo hi none p2) pos) (dSl te tl th) :=
  ⟨fun y => (pe_slice (X := y.cx) (o_sl hK) (he.of y) (hl.of y) (hu.of y)).mono fun τ H Q ⟨σ, S, R, Z, hσ, hS, q, hR, hZ⟩ =>
    ⟨σ, S, _, Z, hσ, hS, q, fun d S1 x H1 r1 v1 s1 k1 => ⟨σ, S1, _, Z, hσ.ts k1, s1, r1, fun l S2 H2 r2 s2 k2 => ⟨σ, S2, _, Z, hσ.ts (k1.trans k2), s2, r2, fun u S3 H3 r3 s3 k3 => ⟨d, S3, R, Rv.ts (k2.trans k3) _ v1, s3, r3, hR.kp ((k1.trans k2).trans k3)⟩, hZ.kp (k1.trans k2)⟩, hZ.kp k1⟩, hZ⟩⟩
def tyD (T : String) (S : Sto) : D → Prop
  | .str _ => T = "str"
  | .ref a => T = "list" ∧ ∃ ds, S a = some (.lst ds)
  | .rol _ => T = "list"
  | _ => False
theorem tyD_v {H : Hp} {S : Sto} {T : String} {d : D} {v : V} (h : tyD T S d) (hS : Rs K S H) (r : Rv K H d v) : tyV K T v H := by
  cases d with
  | str z => rw [r.str]; exact h
  | ref a => obtain ⟨e, ds, h⟩ := h; obtain ⟨xs, e1, _⟩ := hS.lst h; rw [r.ref]; exact .inl ⟨e, xs, .of e1⟩
  | rol ds => obtain ⟨a, xs, rfl, q, _⟩ := r.rol; exact .inl ⟨h, xs, q.sq⟩
  | _ => exact h.elim
abbrev RDm := D → List D → Sto → KD → Prop
def Lm (K : PySem.W.Frag) (r : RDm) : V → List V → Hp → VK → Prop := fun x xs H Q => ∃ d ds S R, Rv K H d x ∧ RvAll K H ds xs ∧ Rs K S H ∧ r d ds S R ∧ Cn K H R Q
def MtD (K : PySem.W.Frag) (id : String) (r : RDm) : Prop := ∀ X : Cx, X.K = K → MtR X id (Lm K r)
def dBM (T : String) (r : RDm) (to : TD) (t : TDa) : TD := fun σ S R Z => to σ S (fun x S1 => tyD T S1 x ∧ t σ S1 (fun ds S2 => r x ds S2 R) Z) Z
theorem bm {o e : Expr} {es : List Expr} {T id : String} {name : Str} {r : RDm} {to : TD} {t : TDa} {apos cpos : Pos} (pa : PlainAttrs T) (slot : Slot T name id) (hty : typeOf (.builtin id) = pure (.type "method_descriptor")) (hm : MtD K id r) (ho : DE K X o to) (ha : DA K X (e :: es) t)
    (hbase : attributeBase o name X.env (eval o X.env) = eval o X.env := by rfl)
    (hfew : ((backTo cpos (starEach (e :: es) X.env)).all (fun x => !x.1) && (backToKw cpos (keywordEach [] X.env)).all (fun x => x.1.isSome)
      && decide ((e :: es).length + ([] : List Keyword).length + (if ([] : List Keyword).isEmpty then 0 else 1) < 30)) = true := by rfl)
    (hline : (apos.endLine == cpos.line) = true := by rfl) (hs : starEach (e :: es) X.env = (false, eval e X.env) :: starEach es X.env := by rfl) (hplain : (backTo cpos (starEach es X.env)).any (·.1) = false := by rfl) (hK : X.K = K := by rfl) :
    DE K X (.Call (.Attribute o name apos) (e :: es) [] cpos) (dBM T r to t) := by
  subst hK
  exact ⟨fun y => (pe_bm (X := y.cx) pa slot hty (hm _ rfl) (ho.of y) (ha.of y) hbase hfew hline hs hplain).mono fun τ H Q ⟨σ, S, R, Z, hσ, hS, q, hR, hZ⟩ =>
    ⟨σ, S, _, Z, hσ, hS, q, fun d S1 x H1 ⟨h1, r1⟩ v1 s1 k1 => ⟨tyD_v h1 s1 v1, σ, S1, _, Z, hσ.ts k1, s1, r1, fun ds S2 xs H2 r2 v2 s2 k2 => ⟨d, ds, S2, R, Rv.ts k2 _ v1, v2, s2, r2, hR.kp (k1.trans k2)⟩, hZ.kp k1⟩, hZ⟩⟩
theorem RvAll.one {H : Hp} {d : D} {xs : List V} (h : RvAll K H [d] xs) : ∃ v, xs = [v] ∧ Rv K H d v := by
  obtain ⟨y, ys, rfl, h1, h2⟩ := h.cons
  rw [h2.nil]; exact ⟨y, rfl, h1⟩
def appendD : RDm := fun x ds S R => ∃ a es d, x = .ref a ∧ ds = [d] ∧ S a = some (.lst es) ∧ es.length < sizeLine ∧ R .non (S.set a (.lst (es ++ [d])))
theorem m_append : MtD K "list.append" appendD := by
  intro X hK pins s σ H x xs v us Q I rx rs ⟨d, ds, S, R, r1, r2, hS, ⟨a, es, y, e1, e2, e3, hl, h⟩, hR⟩
  subst e1 e2
  obtain ⟨w0, rfl, q2⟩ := r2.one
  obtain ⟨zs, e4, t⟩ := hS.lst e3
  exact mt_append pins s σ H x _ v us Q I rx rs ⟨a, zs, w0, r1.ref, rfl, e4, by rw [t.len]; exact hl, hR.put hS e3 h rv_non (t.app (ra_cons q2 ra_nil))⟩
def popAtD : RDm := fun x ds S R => ∃ a es i k d, x = .ref a ∧ ds = [.int i] ∧ S a = some (.lst es) ∧ -(2 ^ 63) ≤ i ∧ i < 2 ^ 63 ∧ seqIndex? i es.length = some k ∧ es[k]? = some d ∧ R d (S.set a (.lst (es.eraseIdx k)))
theorem m_popAt : MtD K "list.pop" popAtD := by
  intro X hK pins s σ H x xs v us Q I rx rs ⟨d, ds, S, R, r1, r2, hS, ⟨a, es, i, k, y, e1, e2, e3, h1, h2, h3, h4, h⟩, hR⟩
  subst e1 e2
  obtain ⟨w0, rfl, q2⟩ := r2.one
  obtain ⟨zs, e4, t⟩ := hS.lst e3
  obtain ⟨w, e5, r⟩ := t.get h4
  exact mt_popAt pins s σ H x _ v us Q I rx rs ⟨a, zs, i, k, w, r1.ref, by rw [q2.int], e4, h1, h2, by rw [t.len]; exact h3, e5, hR.put hS e3 h r (t.erase k)⟩
def countBD : RDm := fun x ds S R => ∃ (bs : List Bool) (k : Bool), ds = [.bl k] ∧ SqD S x (bs.map D.bl) ∧ R (.int (bs.count k : Nat)) S
theorem m_count : MtD K "list.count" countBD := by
  intro X hK pins s σ H x xs v us Q I rx rs ⟨d, ds, S, R, r1, r2, hS, ⟨bs, k, e2, e3, h⟩, hR⟩
  subst hK e2
  obtain ⟨w0, rfl, q2⟩ := r2.one
  obtain ⟨a, zs, rfl, q, t⟩ := e3.at hS r1
  rw [t.bools] at q
  exact mt_countB pins s σ H _ _ v us Q I rx rs ⟨a, bs, k, rfl, by rw [q2.bl], q, hR.now hS h (rv_int _)⟩
def lindexD : RDm := fun x ds S R => ∃ (es : List D) (d : D) (j : Nat), ds = [d] ∧ SqD S x es ∧ flatD d = true ∧ es.all flatD = true ∧ (∃ z, es[j]? = some z ∧ eqV (vOf z) (vOf d) = true) ∧ (∀ m u, m < j → es[m]? = some u → eqV (vOf u) (vOf d) = false) ∧ R (.int j) S
theorem m_lindex : MtD K "list.index" lindexD := by
  intro X hK pins s σ H x xs v us Q I rx rs ⟨d, ds, S, R, r1, r2, hS, ⟨es, y, j, e2, e3, f1, f2, ⟨z, e4, e5⟩, h4, h⟩, hR⟩
  subst hK e2
  obtain ⟨w0, rfl, q2⟩ := r2.one
  obtain ⟨a, zs, rfl, q, t⟩ := e3.at hS r1
  obtain ⟨g1, g2⟩ := flat_v f1 q2
  obtain ⟨g3, g4⟩ := flat_vs f2 t
  subst g1 g3
  refine mt_lindex pins s σ H _ _ v us Q I rx rs ⟨a, _, _, vOf z, j, rfl, rfl, q, g2, g4, by rw [List.getElem?_map, e4]; rfl, e5, fun m u hm e => ?_, hR.now hS h (rv_int _)⟩
  rw [List.getElem?_map] at e
  cases q2 : es[m]? with
  | none => rw [q2] at e; cases e
  | some u' => rw [q2] at e; cases e; exact h4 m u' hm q2
def startsD : RDm := fun x ds S R => ∃ z y, x = .str z ∧ ds = [.str y] ∧ R (.bl (PySem.Txt.startswith z y)) S
theorem m_starts : MtD K "str.startswith" startsD := by
  intro X hK pins s σ H x xs v us Q I rx rs ⟨d, ds, S, R, r1, r2, hS, ⟨z, y, e1, e2, h⟩, hR⟩
  subst e1 e2
  obtain ⟨w0, rfl, q2⟩ := r2.one
  exact mt_startswith pins s σ H _ _ v us Q I rx rs ⟨z, y, r1.str, by rw [q2.str], hR.now hS h (rv_bl _)⟩
def lenD1 (S : Sto) (R : KD) : D → Prop
  | .str z => z.length ≤ sizeLine ∧ R (.int z.length) S
  | .tup es => R (.int es.length) S
  | .kt es => R (.int es.length) S
  | .rol es => R (.int es.length) S
  | .ref a => (∃ es, S a = some (.lst es) ∧ R (.int es.length) S) ∨ ∃ kvs, S a = some (.dct kvs) ∧ R (.int kvs.length) S
  | _ => False
def lenD : List D → Sto → KD → Prop := fun ds S R => ∃ x, ds = [x] ∧ lenD1 S R x
theorem c_len : CallD K (.builtin "len") lenD := by
  intro X hK hc pins s σ H xs us Q I rx ⟨ds, S, R, r, hS, ⟨x, e, h⟩, hR⟩
  subst hK e
  obtain ⟨w, rfl, r'⟩ := r.one
  cases x with
  | str z =>
    cases r'.str
    exact call_len pins s σ H _ us Q I rx ⟨_, _, rfl, ⟨h.1, rfl⟩, hR.now hS h.2 (rv_int _)⟩
  | tup es =>
    obtain ⟨a, xs, rfl, q, t⟩ := r'.tup
    exact call_len pins s σ H _ us Q I rx ⟨_, _, rfl, .inr ⟨xs, .of q, t.len.symm⟩, hR.now hS h (rv_int _)⟩
  | kt es =>
    obtain ⟨a, xs, rfl, q, t⟩ := r'.kt
    exact call_len pins s σ H _ us Q I rx ⟨_, _, rfl, .inr ⟨xs, .inr q, t.len.symm⟩, hR.now hS h (rv_int _)⟩
  | rol es =>
    obtain ⟨a, xs, rfl, q, t⟩ := r'.rol
    exact call_len pins s σ H _ us Q I rx ⟨_, _, rfl, .inl ⟨xs, q.sq, t.len.symm⟩, hR.now hS h (rv_int _)⟩
  | ref a =>
    cases r'.ref
    rcases h with ⟨es, e, h⟩ | ⟨kvs, e, h⟩
    · obtain ⟨xs, e1, t⟩ := hS.lst e
      exact call_len pins s σ H _ us Q I rx ⟨_, _, rfl, .inl ⟨xs, .of e1, t.len.symm⟩, hR.now hS h (rv_int _)⟩
    · obtain ⟨xs, e1, t⟩ := hS.dct e
      exact call_lenD pins s σ H _ us Q I rx ⟨a, xs, rfl, e1, by rw [t.len]; exact hR.now hS h (rv_int _)⟩
  | _ => exact h.elim
def kdV (S : Sto) : D → Kd → Prop
  | .non, k => k = .non
  | .bl _, k => k = .bl
  | .int _, k => k = .int
  | .str _, k => k = .str
  | .ref a, k => (k = .lst ∧ ∃ ds, S a = some (.lst ds)) ∨ (k = .dct ∧ ∃ ds, S a = some (.dct ds))
  | .tup _, k => k = .tup
  | _, _ => False
theorem kdV_v {H : Hp} {S : Sto} {d : D} {k : Kd} {v : V} (h : kdV S d k) (hS : Rs K S H) (r : Rv K H d v) : KdOf H v k := by
  cases d with
  | non => cases h; rw [r.non]; exact .non
  | bl b => cases h; rw [r.bl]; exact .bl b
  | int b => cases h; rw [r.int]; exact .int b
  | str b => cases h; rw [r.str]; exact .str b
  | tup b => cases h; obtain ⟨a, xs, rfl, q, _⟩ := r.tup; exact .tup q
  | ref a =>
    rw [r.ref]
    rcases h with ⟨rfl, ds, h⟩ | ⟨rfl, ds, h⟩
    · obtain ⟨xs, e, _⟩ := hS.lst h; exact .lst e
    · obtain ⟨xs, e, _⟩ := hS.dct h; exact .dct e
  | _ => exact h.elim
def isiD : List D → Sto → KD → Prop := fun ds S R => ∃ x n k g, ds = [x, .ty n] ∧ isaT n = some g ∧ kdV S x k ∧ R (.bl (g k)) S
theorem RvAll.two {H : Hp} {d e : D} {xs : List V} (h : RvAll K H [d, e] xs) : ∃ v u, xs = [v, u] ∧ Rv K H d v ∧ Rv K H e u := by
  obtain ⟨y, ys, rfl, h1, h2⟩ := h.cons
  obtain ⟨u, rfl, h3⟩ := h2.one
  exact ⟨y, u, rfl, h1, h3⟩
theorem c_isi : CallD K (.builtin "isinstance") isiD := by
  intro X hK hc pins s σ H xs us Q I rx ⟨ds, S, R, r, hS, ⟨x, n, k, g, e, h1, h2, h⟩, hR⟩
  subst hK e
  obtain ⟨v, u, rfl, r1, r2⟩ := r.two
  rw [r2.ty] at rx
  exact call_isi pins s σ H _ us Q I rx ⟨v, n, k, g, rfl, h1, kdV_v h2 hS r1, hR.now hS h (rv_bl _)⟩
def allD : List D → Sto → KD → Prop := fun ds S R => ∃ (x : D) (bs : List Bool), ds = [x] ∧ SqD S x (bs.map D.bl) ∧ R (.bl (bs.all id)) S
theorem c_all : CallD K (.builtin "all") allD := by
  intro X hK hc pins s σ H xs us Q I rx ⟨ds, S, R, r, hS, ⟨x, bs, e, h1, h⟩, hR⟩
  subst hK e
  obtain ⟨v, rfl, r1⟩ := r.one
  obtain ⟨a, zs, rfl, q, t⟩ := h1.at hS r1
  rw [t.bools] at q
  exact call_all_list hc pins s σ H _ us Q I rx ⟨a, bs, rfl, q, hR.now hS h (rv_bl _)⟩
def intD : List D → Sto → KD → Prop := fun ds S R => (∃ i, ds = [.int i] ∧ R (.int i) S) ∨ ∃ k, ds = [.bl k] ∧ R (.int (if k then 1 else 0)) S
theorem c_int : CallD K (.type "int") intD := by
  intro X hK hc pins s σ H xs us Q I rx ⟨ds, S, R, r, hS, h, hR⟩
  rcases h with ⟨i, rfl, h⟩ | ⟨k, rfl, h⟩
  · obtain ⟨v, rfl, r1⟩ := r.one
    exact call_int1 pins s σ H _ us Q I rx (.inl ⟨i, by rw [r1.int], hR.now hS h (rv_int _)⟩)
  · obtain ⟨v, rfl, r1⟩ := r.one
    exact call_int1 pins s σ H _ us Q I rx (.inr ⟨k, by rw [r1.bl], hR.now hS h (rv_int _)⟩)
def tupleD : List D → Sto → KD → Prop := fun ds S R => ∃ x es, ds = [x] ∧ (SqD S x es ∨ x = .tup es) ∧ R (.tup es) S
theorem c_tuple : CallD K (.type "tuple") tupleD := by
  intro X hK hc pins s σ H xs us Q I rx ⟨ds, S, R, r, hS, ⟨x, es, e, h1, h⟩, hR⟩
  subst hK e
  obtain ⟨v, rfl, r1⟩ := r.one
  rcases h1 with h1 | rfl
  · obtain ⟨a, zs, rfl, q, t⟩ := h1.at hS r1
    exact call_tuple_of pins s σ H _ us Q I rx ⟨a, zs, rfl, .inl ⟨q, fun p hp => hR.newT hS hp h t⟩⟩
  · obtain ⟨a, zs, rfl, q, t⟩ := r1.tup
    exact call_tuple_of pins s σ H _ us Q I rx ⟨a, zs, rfl, .inr ⟨.of q, hR.now hS h (rv_tup q t)⟩⟩
end
end L2
namespace L2
open PySem PySem.Spec PyProof.Rows
abbrev SpD := List D → Sto → KD → KX → Prop
def SpL (K : PySem.W.Frag) (sp : SpD) : Sp := fun vs H Q e => ∃ ds S R Z, RvAll K H ds vs ∧ Rs K S H ∧ sp ds S R Z ∧ Cn K H R Q ∧ CnX K H Z e
section
variable {K : PySem.W.Frag} {X : Cx} {k : Nat} {f C : Addr} {fd : FuncData} {ps : List Str} {sp : Sp} {dvs : List V} {ds : List Value} {x m : Str} {p pos apos : Pos} {e o : Expr} {es : List Expr} {b : Bool} {y : Ev X b}
theorem run_fnA {p2 : List (Addr × Obj)} {σ : St} {H : Hp} {s : Shared} {Q : VK} {us : List Value} {vs : List V} (F : FnOk X.prog X.w X.K X.mg X.base (CXR X.prog X.w) k f fd ps sp) (hr : Room k X.A) (hb : Binds X.K fd ps ds) (hd : Vals dvs ds)
    (I : Inv y.cx p2 σ H s) (r : Vals vs us) (h : sp (vs ++ dvs) H Q (y.E σ)) : wpAny (model X.prog X.w) X.A (call (.ref f) us) (EP y.cx p2 σ Q) y.xe s := by
  have r2 : Vals (vs ++ dvs) (us ++ ds) := r.append hd
  have hl : (us ++ ds).length = ps.length := by rw [← r2.length]; exact F.len _ _ _ _ h
  refine wpAny_call (codeAny_mono (F.run X.A X.stack s H ⟨us, []⟩ (us ++ ds) (vs ++ dvs) Q (y.E σ) hr I.env0 (hb s us I.kIn hl) r2 h) fun res s' hq => ?_)
  cases res with
  | error e => exact y.ok.call p2 σ H s e s' I hq
  | ok fl =>
    cases fl with
    | ret u => exact I.after hq
    | next => exact False.elim hq
    | brk => exact False.elim hq
    | cont => exact False.elim hq
theorem pe_callA {t : TA} (F : FnOk X.prog X.w X.K X.mg X.base (CXR X.prog X.w) k f fd ps sp) (hr : Room k X.A) (hg : Gl X x) (hm : X.mg x = some (.ref f)) (hk : PySem.W.keepIn X.K (.ref f) = true) (hb : Binds X.K fd ps ds) (hd : Vals dvs ds)
    (ha : PA y.cx (e :: es) t) (hdb : (x == ("__debug__" : Str)) = false) (he : starEach (e :: es) X.env = (false, eval e X.env) :: starEach es X.env) (hpl : (backTo pos (starEach es X.env)).any (·.1) = false) :
    PE y.cx (.Call (.Name x p) (e :: es) [] pos) (fun σ H Q => t σ H fun vs H1 => sp (vs ++ dvs) H1 Q (y.E σ)) := by
  intro p2 s σ H Q I h
  refine wpAny_Call_Name_kw (ld_glob I hg hm ?_ hdb)
  refine PySem.W.callWith_K (h₀ := X.base) I.ok.mod.kin hk (thn (ha pos p2 s σ H _ I h) fun us s1 ⟨vs, H1, I1, r, q⟩ => ⟨I1.kIn, ?_⟩) he hpl
  exact run_fnA F hr hb hd I1 r q
end
section
variable {K : PySem.W.Frag} {X : Cx} {k : Nat} {f C : Addr} {fd : FuncData} {ps : List Str} {sp : SpD} {dds : List D} {dvs : List V} {ds : List Value} {x m : Str} {p pos apos : Pos} {e o : Expr} {es : List Expr}
structure Dfl (K : PySem.W.Frag) (dds : List D) (dvs : List V) (ds : List Value) : Prop where
  v : Vals dvs ds
  d : ∀ H, RvAll K H dds dvs
theorem d0 : Dfl K [] [] [] := ⟨.nil, fun _ => ra_nil⟩
def dCall (sp : SpD) (dds : List D) (t : TDa) : TD := fun σ S R Z => t σ S (fun ds S1 => sp (ds ++ dds) S1 R Z) Z
theorem cf {t : TDa} (F : FnOk X.prog X.w K X.mg X.base (CXR X.prog X.w) k f fd ps (SpL K sp)) (hr : Room k X.A) (hm : X.mg x = some (.ref f)) (hk : PySem.W.keepIn K (.ref f) = true) (hb : Binds K fd ps ds) (hd : Dfl K dds dvs ds) (ha : DA K X (e :: es) t)
    (hg : Gl X x := by rfl) (hdb : (x == ("__debug__" : Str)) = false := by decide) (he : starEach (e :: es) X.env = (false, eval e X.env) :: starEach es X.env := by rfl) (hpl : (backTo pos (starEach es X.env)).any (·.1) = false := by rfl) (hK : X.K = K := by rfl) :
    DE K X (.Call (.Name x p) (e :: es) [] pos) (dCall sp dds t) := by
  subst hK
  exact ⟨fun y => (pe_callA F hr hg hm hk hb hd.v (ha.of y) hdb he hpl).mono fun τ H Q ⟨σ, S, R, Z, hσ, hS, q, hR, hZ⟩ =>
    ⟨σ, S, _, Z, hσ, hS, q, fun es S1 xs H1 r1 v1 s1 k1 => ⟨es ++ dds, S1, R, Z, v1.app (hd.d _), s1, r1, hR.kp k1, hZ.kp k1⟩, hZ⟩⟩
end
end L2
namespace L2
open PySem PySem.Spec PyProof.Rows
structure EndsD where
  nx : SD → Sto → Prop
  rt : KD
  bk : SD → Sto → Prop := fun _ _ => False
  ct : SD → Sto → Prop := fun _ _ => False
abbrev TSD := EndsD → SD → Sto → (SD → KX) → Prop
def CnN (K : PySem.W.Frag) (H : Hp) (R : SD → Sto → Prop) (Q : St → Hp → Prop) : Prop := ∀ σ S τ H', R σ S → Rst K H' σ τ → Rs K S H' → Kp K H H' → Q τ H'
structure CnS (K : PySem.W.Frag) (H : Hp) (De : EndsD) (Dv : Ends) : Prop where
  nx : CnN K H De.nx Dv.nx
  rt : Cn K H De.rt Dv.rt
  bk : CnN K H De.bk Dv.bk
  ct : CnN K H De.ct Dv.ct
def CnXs (K : PySem.W.Frag) (H : Hp) (Z : SD → KX) (E : St → XK) : Prop := ∀ σ τ C S H', Z σ C S → Rst K H' σ τ → Rs K S H' → Kp K H H' → E τ (.ref C) none H'
section
variable {K : PySem.W.Frag} {H H1 : Hp} {De : EndsD} {Dv : Ends} {Z : SD → KX} {E : St → XK} {σ : SD} {τ : St} {S : Sto}
theorem CnN.kp {R : SD → Sto → Prop} {Q : St → Hp → Prop} (h : CnN K H R Q) (k : Kp K H H1) : CnN K H1 R Q := fun σ S τ H' r a b c => h σ S τ H' r a b (k.trans c)
theorem CnS.kp (h : CnS K H De Dv) (k : Kp K H H1) : CnS K H1 De Dv := ⟨h.nx.kp k, h.rt.kp k, h.bk.kp k, h.ct.kp k⟩
theorem CnXs.kp (h : CnXs K H Z E) (k : Kp K H H1) : CnXs K H1 Z E := fun σ τ C S H' r a b c => h σ τ C S H' r a b (k.trans c)
theorem CnXs.at (h : CnXs K H Z E) (r : Rst K H σ τ) : CnX K H (Z σ) (E τ) := fun C S H' z s k => h σ τ C S H' z (r.ts k) s k
theorem CnXs.on (h : CnXs K H Z E) (k : Kp K H H1) (r : Rst K H1 σ τ) : CnX K H1 (Z σ) (E τ) := (h.kp k).at r
end
def Tl (K : PySem.W.Frag) (E : St → XK) (t : TSD) : TS := fun Dv τ H => ∃ σ S De Z, Rst K H σ τ ∧ Rs K S H ∧ t De σ S Z ∧ CnS K H De Dv ∧ CnXs K H Z E
structure DS (K : PySem.W.Frag) (X : Cx) (b : Bool) (st : Stmt) (t : TSD) : Prop where
  of : ∀ y : Ev X b, PS y.cx st (Tl K y.E t)
structure DSs (K : PySem.W.Frag) (X : Cx) (b : Bool) (st : List Stmt) (t : TSD) : Prop where
  of : ∀ y : Ev X b, PSs y.cx st (Tl K y.E t)
theorem PS.mono {X : Cx} {e : Stmt} {t t' : TS} (h : PS X e t) (i : ∀ D τ H, t' D τ H → t D τ H) : PS X e t' := fun pins s τ H D I q => h pins s τ H D I (i D τ H q)
theorem PSs.mono {X : Cx} {e : List Stmt} {t t' : TS} (h : PSs X e t) (i : ∀ D τ H, t' D τ H → t D τ H) : PSs X e t' := fun pins s τ H D I q => h pins s τ H D I (i D τ H q)
section
variable {K : PySem.W.Frag} {X : Cx} {b : Bool} {pos : Pos}
def dNext : TSD := fun De σ S _ => De.nx σ S
def dSeq (t u : TSD) : TSD := fun De σ S Z => t { De with nx := fun σ' S' => u De σ' S' Z } σ S Z
theorem s0 : DSs K X b [] dNext := ⟨fun y => (pss_nil (X := y.cx)).mono fun D τ H ⟨σ, S, De, Z, hσ, hS, q, hD, hZ⟩ => hD.nx _ _ _ _ q hσ hS (.refl _)⟩
theorem sc {st : Stmt} {r : List Stmt} {t u : TSD} (h1 : DS K X b st t) (h2 : DSs K X b r u) : DSs K X b (st :: r) (dSeq t u) :=
  ⟨fun y => (pss_cons (h1.of y) (h2.of y)).mono fun D τ H ⟨σ, S, De, Z, hσ, hS, q, hD, hZ⟩ =>
    ⟨σ, S, _, Z, hσ, hS, q, ⟨fun σ1 S1 τ1 H1 r1 a b c => ⟨σ1, S1, De, Z, a, b, r1, hD.kp c, hZ.kp c⟩, hD.rt, hD.bk, hD.ct⟩, hZ⟩⟩
theorem s1 {st : Stmt} {t : TSD} (h : DS K X b st t) : DSs K X b [st] t := ⟨fun y => pss_one (h.of y)⟩
def dDrop (t : TD) : TSD := fun De σ S Z => t σ S (fun _ S1 => De.nx σ S1) (Z σ)
theorem se {e : Expr} {t : TD} (h : DE K X e t) (hs : swapsWith e none pos.line X.env = pure false := by rfl) : DS K X b (.Expr e pos) (dDrop t) :=
  ⟨fun y => (ps_expr (X := y.cx) (h.of y) hs).mono fun D τ H ⟨σ, S, De, Z, hσ, hS, q, hD, hZ⟩ => ⟨σ, S, _, _, hσ, hS, q, fun d S1 v H1 r1 _ s1 k1 => hD.nx _ _ _ _ r1 (hσ.ts k1) s1 k1, hZ.at hσ⟩⟩
def dRet (t : TD) : TSD := fun De σ S Z => t σ S De.rt (Z σ)
theorem sr {e : Expr} {t : TD} (h : DE K X e t) : DS K X b (.Return (some e) pos) (dRet t) :=
  ⟨fun y => (ps_ret (h.of y)).mono fun D τ H ⟨σ, S, De, Z, hσ, hS, q, hD, hZ⟩ => ⟨σ, S, _, _, hσ, hS, q, hD.rt, hZ.at hσ⟩⟩
def dIf (c : TDt) (t u : TSD) : TSD := fun De σ S Z => c σ S (fun b S1 => if b = true then t De σ S1 Z else u De σ S1 Z) (Z σ)
theorem si {c : Expr} {a a' : List Stmt} {tc : TDt} {t u : TSD} (hc : DT K X c tc) (ha : DSs K X b a t) (hb : DSs K X b a' u) : DS K X b (.If c a a' pos) (dIf tc t u) :=
  ⟨fun y => (ps_if (hc.of y) (ha.of y) (hb.of y)).mono fun D τ H ⟨σ, S, De, Z, hσ, hS, q, hD, hZ⟩ =>
    ⟨σ, S, _, _, hσ, hS, q, fun c S1 H1 r1 s1 k1 => by
      cases c with
      | true => rw [if_pos rfl] at r1 ⊢; exact ⟨σ, S1, De, Z, hσ.ts k1, s1, r1, hD.kp k1, hZ.kp k1⟩
      | false => rw [if_neg Bool.false_ne_true] at r1 ⊢; exact ⟨σ, S1, De, Z, hσ.ts k1, s1, r1, hD.kp k1, hZ.kp k1⟩, hZ.at hσ⟩⟩
abbrev TGd := D → SD → Sto → (SD → Sto → Prop) → Prop
def Tg (K : PySem.W.Frag) (g : TGd) : TG := fun v τ H Q => ∃ d σ S R, Rv K H d v ∧ Rst K H σ τ ∧ Rs K S H ∧ g d σ S R ∧ CnN K H R Q
structure DG (K : PySem.W.Frag) (X : Cx) (e : Expr) (g : TGd) : Prop where
  of : ∀ Y : Cx, Y.K = X.K → Y.N = X.N → Y.env = X.env → Y.fn = X.fn → Y.calm = X.calm → PG Y e (Tg K g)
theorem PG.mono {e : Expr} {t t' : TG} (h : PG X e t) (i : ∀ v τ H Q, t' v τ H Q → t v τ H Q) : PG X e t' := fun pins s τ H v u Q I r q => h pins s τ H v u Q I r (i v τ H Q q)
def gdN (i : Nat) : TGd := fun d σ S R => R (σ.set i (some d)) S
theorem gn {i : Nat} {x : Str} (hN : X.N.Nodup) (hi : X.N[i]? = some x := by rfl) (hx : Loc X.env.scope x := by first | exact Or.inl rfl | exact Or.inr rfl) (hf : X.fn x = true ∨ X.env.scope.names.lookup x = some .local := by first | exact .inl rfl | exact .inr rfl) : DG K X (.Name x pos) (gdN i) :=
  ⟨fun Y _ e2 e3 e4 _ => (pg_name (X := Y) (by rw [e2]; exact hN) (by rw [e2]; exact hi) (by rw [e3]; exact hx) (by rw [e3, e4]; exact hf)).mono fun v τ H Q ⟨d, σ, S, R, rv, hσ, hS, q, hR⟩ => hR _ S _ H q (hσ.set i rv) hS (.refl _)⟩
abbrev TGds := List D → SD → Sto → (SD → Sto → Prop) → Prop
def Tgs (K : PySem.W.Frag) (g : TGds) : TGs := fun vs τ H Q => ∃ ds σ S R, RvAll K H ds vs ∧ Rst K H σ τ ∧ Rs K S H ∧ g ds σ S R ∧ CnN K H R Q
structure DGs (K : PySem.W.Frag) (X : Cx) (es : List Expr) (g : TGds) : Prop where
  of : ∀ Y : Cx, Y.K = X.K → Y.N = X.N → Y.env = X.env → Y.fn = X.fn → Y.calm = X.calm → PGs Y es (Tgs K g)
def gdNil : TGds := fun ds σ S R => ds = [] ∧ R σ S
def gdCons (g : TGd) (u : TGds) : TGds := fun ds σ S R => ∃ d r, ds = d :: r ∧ g d σ S fun σ1 S1 => u r σ1 S1 R
def gdTup (n : Nat) (g : TGds) : TGd := fun d σ S R => ∃ ds, d = .tup ds ∧ ds.length = n ∧ g ds σ S R
def dSet (i : Nat) (t : TD) : TSD := fun De σ S Z => t σ S (fun d S1 => De.nx (σ.set i (some d)) S1) (Z σ)
theorem st_ {i : Nat} {x : Str} {e : Expr} {t : TD} {pos' : Pos} (hN : X.N.Nodup) (h : DE K X e t) (hi : X.N[i]? = some x := by rfl) (hx : Loc X.env.scope x := by first | exact Or.inl rfl | exact Or.inr rfl) (hs : swapsWith e (some (.Name x pos')) pos.line X.env = pure false := by rfl)
    (hf : X.fn x = true ∨ X.env.scope.names.lookup x = some .local := by first | exact .inl rfl | exact .inr rfl) : DS K X b (.Assign [.Name x pos'] e pos) (dSet i t) :=
  ⟨fun y => (ps_set (X := y.cx) (i := i) hN hi hx (h.of y) hs hf).mono fun D τ H ⟨σ, S, De, Z, hσ, hS, q, hD, hZ⟩ => ⟨σ, S, _, _, hσ, hS, q, fun d S1 v H1 r1 v1 s1 k1 => hD.nx _ _ _ _ r1 ((hσ.ts k1).set i v1) s1 k1, hZ.at hσ⟩⟩
end
end L2
namespace L2
open PySem PySem.Spec PyProof.Rows
section
variable {X : Cx} {pins : List (Addr × Obj)} {σ : St} {H : Hp} {s : Shared} {A : Around} {E : Value → Shared → Prop} {a : Addr} {kvs : List (Key × V)} {k : Key} {u : Value}
end
section
variable {X : Cx} {o e f : Expr} {apos cpos : Pos} {td ty tx : TE}
end
section
variable {K : PySem.W.Frag} {X : Cx} {b : Bool} {o e f : Expr} {apos cpos pos : Pos} {td ty tx : TD}
def dRaise (C : Addr) (t : TDa) : TSD := fun _ σ S Z => t σ S (fun ds S1 => ds.length ≤ sizeLine ∧ Z σ C S1) (Z σ)
end
end L2
namespace L2
open PySem PySem.Spec PyProof.Rows
section
variable {K : PySem.W.Frag} {X : Cx} {C : Addr} {x : Str} {e : Expr} {es : List Expr} {np cpos pos : Pos}
theorem ps_raiseA {t : TA} {y : Ev X true} (hc : X.calm = true) (c : XC X.K C) (hg : Gl X x) (hm : X.mg x = some (.ref C)) (ha : PA y.cx (e :: es) t) (hdb : (x == ("__debug__" : Str)) = false)
    (he : starEach (e :: es) X.env = (false, eval e X.env) :: starEach es X.env) (hpl : (backTo cpos (starEach es X.env)).any (·.1) = false) :
    PS y.cx (.Raise (some (.Call (.Name x np) (e :: es) [] cpos)) none pos) (fun _ σ H => t σ H fun vs H1 => vs.length ≤ sizeLine ∧ y.E σ (.ref C) none H1) := by
  intro pins s σ H D I h
  obtain ⟨bm, N, nm, q, bs, hdct, sn, sub, ab, col, dd, k0, k1, k2, k3, k5, mN, hC, hN, hni, T⟩ := c.at I.mod.kin
  have hbase : bm.contains (.type "BaseException") = true := T.hasType (by decide)
  refine wpAny_Raise_call_subT (C := C) (nm := nm) (q := q) (N := N) (bs := bs) (bm := bm) (hdct := hdct) (sn := sn) (sub := sub) (ab := ab) (col := col) (dd := dd) (k0 := k0) (k1 := k1) (k2 := k2) (k3 := k3) (k5 := k5) PySem.F.excBase_ValueError (mN := mN)
    hbase (I.ok.hd hc) (by show ((backTo cpos (starEach (e :: es) X.env)).any (·.1)) = false; rw [he]; show (false || (backTo cpos (starEach es X.env)).any (·.1)) = false; rw [hpl]; rfl) hni (ld_glob I hg hm ⟨rfl, ?_⟩ hdb)
  have h1 := ha cpos pins s σ H _ I h
  have he' : starEach (e :: es) y.cx.env = (false, eval e X.env) :: starEach es X.env := he
  rw [he'] at h1 ⊢
  exact Calls.evalArgs_plain (thn h1 fun us s2 ⟨vs, H2, I2, r, z, q2⟩ => ⟨rfl, by show us.length ≤ sizeLine; rw [← r.length]; exact z, I2.bk _ _ hC, hN.keeps I2.bk, T.keeps I2.bk, fun h' a hx => y.ok.own rfl pins σ H2 s2 h' a _ _ I2 hx q2⟩)
theorem sra {t : TDa} (c : XC K C) (hm : X.mg x = some (.ref C)) (ha : DA K X (e :: es) t) (hg : Gl X x := by rfl) (hdb : (x == ("__debug__" : Str)) = false := by decide)
    (he : starEach (e :: es) X.env = (false, eval e X.env) :: starEach es X.env := by rfl) (hpl : (backTo cpos (starEach es X.env)).any (·.1) = false := by rfl) (hc : X.calm = true := by rfl) (hK : X.K = K := by rfl) :
    DS K X true (.Raise (some (.Call (.Name x np) (e :: es) [] cpos)) none pos) (dRaise C t) := by
  subst hK
  exact ⟨fun y => (ps_raiseA (y := y) hc c hg hm (ha.of y) hdb he hpl).mono fun D τ H ⟨σ, S, De, Z, hσ, hS, q, hD, hZ⟩ =>
    ⟨σ, S, _, _, hσ, hS, q, fun ds S1 vs H1 ⟨hl, r1⟩ v1 s1 k1 => ⟨by rw [v1.len]; exact hl, hZ.at hσ C S1 H1 r1 s1 k1⟩, hZ.at hσ⟩⟩
end
structure ItD where
  xs : List D
  ok : Sto → Prop
def ItOk (K : PySem.W.Frag) (H0 : Hp) (J : It) (I : ItD) : Prop := ∀ i S H, Kp K H0 H → Rs K S H → I.ok S → (∀ d, I.xs[i]? = some d → J.go i H ∧ ∀ x H', J.yld i H x H' → Rv K H' d x ∧ Kp K H H' ∧ Rs K S H') ∧ (I.xs.length ≤ i → J.stop i H)
abbrev TDi := SD → Sto → (ItD → Sto → Prop) → KX → Prop
def Ti (K : PySem.W.Frag) (E : St → XK) (t : TDi) : TI := fun τ H R => ∃ σ S RI Z, Rst K H σ τ ∧ Rs K S H ∧ t σ S RI Z ∧ (∀ I S' J H', RI I S' → ItOk K H' J I → Rs K S' H' → Kp K H H' → R J H') ∧ CnX K H Z (E τ)
structure DI (K : PySem.W.Frag) (X : Cx) (tg it : Expr) (t : TDi) : Prop where
  of : ∀ {b : Bool} (y : Ev X b), PI y.cx tg it (Ti K y.E t)
theorem PI.mono {X : Cx} {tg it : Expr} {t t' : TI} (h : PI X tg it t) (i : ∀ τ H R, t' τ H R → t τ H R) : PI X tg it t' := fun pins s τ H R I q => h pins s τ H R I (i τ H R q)
section
variable {K : PySem.W.Frag} {X : Cx} {tg l : Expr}
def iLst (t : TD) : TDi := fun σ S R Z => t σ S (fun x S1 => ∃ ds, SqD S1 x ds ∧ R ⟨ds, fun S => SqD S x ds⟩ S1) Z
theorem il {t : TD} (h : DE K X l t) (hK : X.K = K := by rfl) : DI K X tg l (iLst t) := by
  subst hK
  exact ⟨fun y => (pi_list (X := y.cx) (h.of y)).mono fun τ H R ⟨σ, S, RI, Z, hσ, hS, q, hR, hZ⟩ => ⟨σ, S, _, Z, hσ, hS, q, fun x S1 v H1 ⟨ds, h1, r1⟩ v1 s1 k1 => by
    obtain ⟨a, xs, rfl, hq, t⟩ := h1.at s1 v1
    refine ⟨a, rfl, ⟨xs, hq⟩, hR _ S1 _ H1 r1 (fun i S2 H2 k2 s2 ok2 => ?_) s1 k1⟩
    obtain ⟨a', xs', e', hq', t'⟩ := SqD.at ok2 s2 (Rv.ts k2 _ v1)
    cases e'
    refine ⟨fun d hd => ?_, fun hl => ⟨xs', hq', by rw [t'.len]; exact hl⟩⟩
    obtain ⟨v, e1, r⟩ := t'.get hd
    refine ⟨⟨xs', v, hq', e1⟩, fun x' H' ⟨e2, e3⟩ => ?_⟩
    subst e2
    have := e3 xs' hq'
    rw [e1] at this; cases this
    exact ⟨r, .refl _, s2⟩, hZ⟩⟩
def iTupD (t : TD) : TDi := fun σ S R Z => t σ S (fun x S1 => ∃ ds, (x = .tup ds ∨ x = .kt ds) ∧ R ⟨ds, fun _ => True⟩ S1) Z
theorem tup_at {H : Hp} {x : D} {ds : List D} {v : V} (h : x = .tup ds ∨ x = .kt ds) (r : Rv K H x v) : ∃ a xs, v = .ref a ∧ (∀ H', Kp K H H' → SqT K H' a xs) ∧ RvAll K H ds xs := by
  rcases h with rfl | rfl
  · obtain ⟨a, xs, rfl, q, t⟩ := r.tup
    exact ⟨a, xs, rfl, fun H' k => .of (k.t _ _ q), t⟩
  · obtain ⟨a, xs, rfl, q, t⟩ := r.kt
    exact ⟨a, xs, rfl, fun H' k => .inr q, t⟩
theorem itp {t : TD} (h : DE K X l t) (hK : X.K = K := by rfl) : DI K X tg l (iTupD t) := by
  subst hK
  exact ⟨fun y => (pi_tup (X := y.cx) (h.of y)).mono fun τ H R ⟨σ, S, RI, Z, hσ, hS, q, hR, hZ⟩ => ⟨σ, S, _, Z, hσ, hS, q, fun x S1 v H1 ⟨ds, h1, r1⟩ v1 s1 k1 => by
    obtain ⟨a, xs, rfl, hq, t⟩ := tup_at h1 v1
    refine ⟨a, rfl, ⟨xs, hq _ (.refl _)⟩, hR _ S1 _ H1 r1 (fun i S2 H2 k2 s2 _ => ?_) s1 k1⟩
    have hq2 := hq H2 k2
    refine ⟨fun d hd => ?_, fun hl => ⟨xs, hq2, by rw [t.len]; exact hl⟩⟩
    obtain ⟨v, e1, r⟩ := (RvAll.ts k2 _ t).get hd
    refine ⟨⟨xs, v, hq2, e1⟩, fun x' H' ⟨e2, e3⟩ => ?_⟩
    subst e2
    have := e3 xs hq2
    rw [e1] at this; cases this
    exact ⟨r, .refl _, s2⟩, hZ⟩⟩
def rngD (lo : Int) (n : Nat) : List D := (List.range n).map fun i => D.int (lo + (i : Nat))
theorem rngD_len {lo : Int} {n : Nat} : (rngD lo n).length = n := by unfold rngD; rw [List.length_map, List.length_range]
theorem rngD_get {lo : Int} {n i : Nat} {d : D} (h : (rngD lo n)[i]? = some d) : i < n ∧ d = .int (lo + i) := by
  unfold rngD at h
  rw [List.getElem?_map] at h
  by_cases q : i < n
  · rw [List.getElem?_range q] at h; exact ⟨q, (Option.some.inj h).symm⟩
  · rw [List.getElem?_eq_none (by rw [List.length_range]; omega)] at h; cases h
theorem itr_ok {H0 : Hp} {lo : Int} {n : Nat} : ItOk K H0 (Itr lo n) ⟨rngD lo n, fun _ => True⟩ := fun i S H k s _ => ⟨fun d hd => by
  obtain ⟨h1, rfl⟩ := rngD_get hd
  exact ⟨h1, fun x H' ⟨e1, e2⟩ => by subst e1 e2; exact ⟨rv_int _, .refl _, s⟩⟩, fun hl => by rw [rngD_len] at hl; exact hl⟩
def iRng (t : TDa) : TDi := fun σ S R Z => t σ S (fun ds S1 => ∃ j : Int, ds = [.int j] ∧ -(2 ^ 62) ≤ j ∧ j < 2 ^ 62 ∧ R ⟨rngD 0 j.toNat, fun _ => True⟩ S1) Z
theorem ir1 {a : Expr} {t : TDa} {p pos : Pos} (hm : X.mg "range" = none) (ha : DA K X [a] t) (hg : Gl X "range" := by rfl) (hs : starEach [a] X.env = [(false, eval a X.env)] := by rfl) : DI K X tg (.Call (.Name "range" p) [a] [] pos) (iRng t) :=
  ⟨fun y => (pi_range1 (X := y.cx) hg hm (ha.of y) hs).mono fun τ H R ⟨σ, S, RI, Z, hσ, hS, q, hR, hZ⟩ => ⟨σ, S, _, Z, hσ, hS, q, fun ds S1 vs H1 ⟨j, e, h1, h2, r1⟩ v1 s1 k1 => by
    subst e
    obtain ⟨v, rfl, r⟩ := v1.one
    exact ⟨j, by rw [r.int], h1, h2, hR _ S1 _ H1 r1 itr_ok s1 k1⟩, hZ⟩⟩
def iRngB (t : TDa) : TDi := fun σ S R Z => t σ S (fun ds S1 => ∃ i j : Int, ds = [.int i, .int j] ∧ (-(2 ^ 62) ≤ i ∧ i < 2 ^ 62 ∧ -(2 ^ 62) ≤ j ∧ j < 2 ^ 62) ∧ R ⟨rngD i (j - i).toNat, fun _ => True⟩ S1) Z
theorem ir2 {a c : Expr} {t : TDa} {p pos : Pos} (hm : X.mg "range" = none) (ha : DA K X [a, c] t) (hg : Gl X "range" := by rfl) (hs : starEach [a, c] X.env = [(false, eval a X.env), (false, eval c X.env)] := by rfl) (hs2 : starEach [c] X.env = [(false, eval c X.env)] := by rfl) :
    DI K X tg (.Call (.Name "range" p) [a, c] [] pos) (iRngB t) :=
  ⟨fun y => (pi_range2 (X := y.cx) hg hm (ha.of y) hs hs2).mono fun τ H R ⟨σ, S, RI, Z, hσ, hS, q, hR, hZ⟩ => ⟨σ, S, _, Z, hσ, hS, q, fun ds S1 vs H1 ⟨i, j, e, h1, r1⟩ v1 s1 k1 => by
    subst e
    obtain ⟨v, u, rfl, r, r'⟩ := v1.two
    exact ⟨i, j, by rw [r.int, r'.int], h1, hR _ S1 _ H1 r1 itr_ok s1 k1⟩, hZ⟩⟩
end
section
variable {K : PySem.W.Frag} {X : Cx} {tg iter : Expr} {pos : Pos}
def dFor (ti : TDi) (g : TGd) (tb : TSD) : TSD := fun De σ S Z => ti σ S (fun I S1 => ∃ P : Nat → SD → Sto → Prop, P 0 σ S1 ∧ (∀ i σ S, P i σ S → I.ok S) ∧
  (∀ i d σ S, I.xs[i]? = some d → P i σ S → g d σ S fun σ2 S2 => tb { De with nx := P (i + 1), ct := P (i + 1), bk := De.nx } σ2 S2 Z) ∧ ∀ σ S, P I.xs.length σ S → De.nx σ S) (Z σ)
theorem sfo {body : List Stmt} {ti : TDi} {g : TGd} {tb : TSD} (hi : DI K X tg iter ti) (hg : DG K X tg g) (hb : DSs K X true body tb) (hs : ∀ x, foldedSetIterable iter X.env x = pure x := by intro _; rfl) (hc : X.calm = true := by rfl) : DS K X true (.For tg iter body [] pos) (dFor ti g tb) :=
  ⟨fun y => (ps_for (X := y.cx) (y.ok.loop rfl) hc (hi.of y) (hg.of _ rfl rfl rfl rfl rfl) (hb.of y) hs).mono fun D τ H ⟨σ, S, De, Z, hσ, hS, q, hD, hZ⟩ =>
    ⟨σ, S, _, _, hσ, hS, q, fun I S1 J H1 ⟨P, p0, pok, pst, pend⟩ hJ s1 k1 => by
      refine ⟨fun i m τ H => m = I.xs.length - i ∧ i ≤ I.xs.length ∧ ∃ σ S, Rst K H σ τ ∧ Rs K S H ∧ P i σ S ∧ Kp K H1 H, ⟨_, rfl, Nat.zero_le _, σ, S1, hσ.ts k1, s1, p0, .refl _⟩, ?_⟩
      rintro i m τ2 H2 ⟨rfl, hi2, σ2, S2, a2, s2, p2, k2⟩
      have ok := hJ i S2 H2 k2 s2 (pok _ _ _ p2)
      by_cases hlt : i < I.xs.length
      · obtain ⟨go, yl⟩ := ok.1 _ (List.getElem?_eq_getElem hlt)
        refine .inr ⟨go, fun τ' H' => i + 1 ≤ I.xs.length ∧ ∃ σ S, Rst K H' σ τ' ∧ Rs K S H' ∧ P (i + 1) σ S ∧ Kp K H1 H', fun σ' H' h' => ⟨_, by omega, rfl, h'⟩, fun x H' hy => ?_⟩
        obtain ⟨rx, k3, s3⟩ := yl x H' hy
        refine ⟨_, σ2, S2, _, rx, a2.ts k3, s3, pst i _ σ2 S2 (List.getElem?_eq_getElem hlt) p2, fun σ4 S4 τ4 H4 r4 a4 s4 k4 => ?_⟩
        have kk := (k2.trans k3).trans k4
        exact ⟨σ4, S4, _, Z, a4, s4, r4, ⟨fun σ5 S5 τ5 H5 r5 a5 s5 k5 => ⟨hlt, σ5, S5, a5, s5, r5, kk.trans k5⟩, hD.rt.kp (k1.trans kk), (hD.nx.kp (k1.trans kk)), fun σ5 S5 τ5 H5 r5 a5 s5 k5 => ⟨hlt, σ5, S5, a5, s5, r5, kk.trans k5⟩⟩, hZ.kp (k1.trans kk)⟩
      · have e : i = I.xs.length := by omega
        subst e
        exact .inl ⟨ok.2 (Nat.le_refl _), hD.nx _ _ _ _ (pend _ _ p2) a2 s2 (k1.trans k2)⟩, hZ.at hσ⟩⟩
end
def pickD (σ : SD) (src : List (Option Nat)) : SD := src.map fun o => match o with | some j => (σ[j]?).join | none => none
theorem Rst.pick {K : PySem.W.Frag} {H : Hp} {σ : SD} {τ : St} (h : Rst K H σ τ) : ∀ src : List (Option Nat), Rst K H (pickD σ src) (pick τ src)
  | [] => .nil
  | o :: r => .cons (fun d e => by
    cases o with
    | none => cases e
    | some j =>
      dsimp only at e ⊢
      cases q : σ[j]? with
      | none => rw [q] at e; cases e
      | some o' =>
        rw [q] at e
        obtain rfl : o' = some d := e
        obtain ⟨v, e1, r1⟩ := h.get q
        exact ⟨v, by rw [e1]; rfl, r1⟩) (Rst.pick h r)
def Zf : KX := fun _ _ => False
def CompP (σ : SD) (src : List (Option Nat)) (g : TGd) (tc : TDt) (te : TD) (R : KD) (I : ItD) (S1 : Sto) : Prop := ∃ P : Nat → List D → Sto → Prop, P 0 [] S1 ∧ (∀ i out S, P i out S → I.ok S) ∧
  (∀ i d out S, I.xs[i]? = some d → P i out S → out.length < sizeLine ∧ g d (pickD σ src) S fun σ3 S3 => tc σ3 S3 (fun b S4 => if b = true then te σ3 S4 (fun v S5 => P (i + 1) (out ++ [v]) S5) Zf else P (i + 1) out S4) Zf) ∧
  ∀ out S2, P I.xs.length out S2 → ∀ p, S2 p = none → R (.ref p) (S2.set p (.lst out))
def dComp (ti : TDi) (src : List (Option Nat)) (g : TGd) (tc : TDt) (te : TD) : TD := fun σ S R Z => ti σ S (fun I S1 => CompP σ src g tc te R I S1) Z
theorem CnX.f {K : PySem.W.Frag} {H : Hp} {e : XK} : CnX K H Zf e := fun _ _ _ z => z.elim
theorem T.comp {K : PySem.W.Frag} {E E' : St → XK} {ti : TDi} {src : List (Option Nat)} {g : TG} {gd : TGd} {tc : TDt} {te : TD} {τ : St} {H : Hp} {Q : VK} (hg : ∀ v τ H Q, Tg K gd v τ H Q → g v τ H Q)
    (h : T K E (dComp ti src gd tc te) τ H Q) : tComp (Ti K E ti) src g (Tt K E' tc) (T K E' te) τ H Q := by
  obtain ⟨σ, S, R, Z, hσ, hS, q, hR, hZ⟩ := h
  refine ⟨σ, S, _, Z, hσ, hS, q, fun I S1 J H1 ⟨P, p0, pok, pst, pend⟩ hJ s1 k1 => ?_, hZ⟩
  refine ⟨fun i m out H => m = I.xs.length - i ∧ i ≤ I.xs.length ∧ ∃ ds S, RvAll K H ds out ∧ Rs K S H ∧ P i ds S ∧ Kp K H1 H, ⟨_, rfl, Nat.zero_le _, [], S1, ra_nil, s1, p0, .refl _⟩, ?_⟩
  rintro i m out H2 ⟨rfl, hi2, ds, S2, v2, s2, p2, k2⟩
  have ok := hJ i S2 H2 k2 s2 (pok _ _ _ p2)
  by_cases hlt : i < I.xs.length
  · obtain ⟨go, yl⟩ := ok.1 _ (List.getElem?_eq_getElem hlt)
    obtain ⟨hz, st⟩ := pst i _ ds S2 (List.getElem?_eq_getElem hlt) p2
    refine .inr ⟨go, by rw [v2.len]; exact hz, fun x H' hy => ?_⟩
    obtain ⟨rx, k3, s3⟩ := yl x H' hy
    refine hg _ _ _ _ ⟨_, _, S2, _, rx, (((hσ.ts k1).ts k2).ts k3).pick src, s3, st, fun σ4 S4 τ4 H4 r4 a4 s4 k4 => ?_⟩
    refine ⟨σ4, S4, _, Zf, a4, s4, r4, fun c S5 H5 r5 s5 k5 => ?_, .f⟩
    cases c with
    | true =>
      rw [if_pos rfl] at r5 ⊢
      exact ⟨σ4, S5, _, Zf, a4.ts k5, s5, r5, fun d S6 v H6 r6 v6 s6 k6 => ⟨_, by omega, rfl, hlt, ds ++ [d], S6, (RvAll.ts (((k3.trans k4).trans k5).trans k6) _ v2).app (ra_cons v6 ra_nil), s6, r6, (((k2.trans k3).trans k4).trans k5).trans k6⟩, .f⟩
    | false =>
      rw [if_neg Bool.false_ne_true] at r5 ⊢
      exact ⟨_, by omega, rfl, hlt, ds, S5, RvAll.ts ((k3.trans k4).trans k5) _ v2, s5, r5, ((k2.trans k3).trans k4).trans k5⟩
  · have e : i = I.xs.length := by omega
    subst e
    exact .inl ⟨ok.2 (Nat.le_refl _), fun p hp => (hR.kp (k1.trans k2)).new s2 hp (pend _ _ p2 p) v2⟩
def Ev.none (X : Cx) (h : X.xe = fun _ _ => False) : Ev X false := ⟨X.pn, X.xe, fun _ => E0, ⟨fun p2 τ H s e s' _ ⟨_, _, _, _, _, _, _, _, _, z⟩ => z.elim, fun e => (by cases e), fun e => (by cases e)⟩⟩
section
variable {K : PySem.W.Frag} {X : Cx} {b : Bool} {N : List Str} {src : List (Option Nat)} {scope : Scope} {tg iter elt : Expr} {ifs : List Expr} {pos : Pos} {ti : TDi} {g : TG} {gd : TGd} {tc : TDt} {te : TD}
structure DIf (K : PySem.W.Frag) (X : Cx) (ifs : List Expr) (t : TDt) : Prop where
  of : ∀ {b : Bool} (y : Ev X b), PIf y.cx ifs (Tt K y.E t)
def dTrue : TDt := fun _ S R _ => R true S
theorem if0 : DIf K X [] dTrue := ⟨fun y pins s τ H Q I ⟨σ, S, R, Z, hσ, hS, q, hR, hZ⟩ => pif_nil pins s τ H Q I (hR true S H q hS (.refl _))⟩
theorem eco (S : CompScope X N src scope) (hit : DI K X tg iter ti) (hg : ∀ C s H ex pn, PG (cxC X N scope C s H ex pn) tg g) (hx : GExt g src) (hgd : ∀ v τ H Q, Tg K gd v τ H Q → g v τ H Q)
    (hi : ∀ C s H ex pn, DIf K (cxC X N scope C s H ex pn) ifs tc) (he : ∀ C s H ex pn, DE K (cxC X N scope C s H ex pn) elt te)
    (hs : ∀ x, foldedSetIterable iter X.env x = pure x := by intro _; rfl) (hc : X.calm = true := by rfl) : DE K X (.ListComp elt [⟨tg, iter, ifs, 0⟩] scope pos) (dComp ti src gd tc te) :=
  ⟨fun y => (pe_comp (X := y.cx) (tc := Tt K (fun _ => E0) tc) (te := T K (fun _ => E0) te) ⟨S.kind, S.nocell, S.loc, S.fre, S.len, S.src⟩ hc (hit.of y) hg hx (fun C s H ex pn => (hi C s H ex pn).of (.none _ rfl)) (fun C s H ex pn => (he C s H ex pn).of (.none _ rfl)) hs).mono fun _ _ _ h => h.comp hgd⟩
theorem gd_name {i : Nat} : ∀ v τ H Q, Tg K (gdN i) v τ H Q → gName i v τ H Q := fun v τ H Q ⟨d, σ, S, R, rv, hσ, hS, q, hR⟩ => hR _ S _ H q (hσ.set i rv) hS (.refl _)
end
end L2
namespace L2
open PySem PySem.Spec PyProof.Rows
structure FunV (K : PySem.W.Frag) (x qual : Str) (st : Stmt) (f : Addr) (fd : FuncData) : Prop where
  ex : ∃ (oc : Value) (od : Option Addr) (dV kV doc pm : Value) (an : Option Addr) (cdv ct : Value) (osl : Array (Option Value)),
    fd = PySem.W.fnOf x qual (defArgs st) (defBody st) (defScope st) dV kV doc pm an cdv ct ∧ K.lookup f = some ⟨oc, od, .func fd, osl⟩ ∧ PySem.W.codeIn K cdv qual = true
def startD (N : List Str) (ds : List D) : SD := ds.map some ++ List.replicate (N.length - ds.length) none
section
variable {P : Program} {w : World} {K : PySem.W.Frag} {mg : Str → Option Value} {base : Heap}
theorem FunV.okD {x qual : Str} {st : Stmt} {f : Addr} {fd : FuncData} {N ps : List Str} {k : Nat} {sp : SpD} (F : FunV K x qual st f fd) (S : FnScope N ps (defScope st)) (len : ∀ ds S R Z, sp ds S R Z → ds.length = ps.length)
    (hbody : ∀ (cdv : Value) (A : Around) (outer : List Env) (s : Shared) (H : Hp) (E : XK) (ds : List D) (S : Sto) (R : KD) (Z : KX), Room k (A.deeper (envOfC qual (defScope st) s.heap.objs.size f cdv)) → sp ds S R Z →
      ∃ t, DSs K (cxOf (CXR P w) P w K mg base N qual (defScope st) f cdv A outer s H E) true (defBody st) t ∧ t { nx := fun _ S' => R .non S', rt := R } (startD N ds) S fun _ => Z) : FnOk P w K mg base (CXR P w) (k + 1) f fd ps (SpL K sp) := by
  obtain ⟨oc, od, dV, kV, doc, pm, an, cdv, ct, osl, rfl, lk, hcd⟩ := F.ex
  have hpl : ps.length ≤ N.length := by have := congrArg List.length S.pre; rw [List.length_take] at this; omega
  refine fn_of lk hcd S (fun vs H Q E ⟨ds, S', R, Z, v, _, h, _⟩ => by rw [v.len]; exact len _ _ _ _ h) fun A outer s H vs Q E hr ⟨ds, S', R, Z, v, hS, h, hR, hZ⟩ => ?_
  obtain ⟨t, ht, q⟩ := hbody cdv A outer s H E ds S' R Z hr h
  have L : Leaves (cxOf (CXR P w) P w K mg base N qual (defScope st) f cdv A outer s H E) E := leaves_of
  let y : Ev (cxOf (CXR P w) P w K mg base N qual (defScope st) f cdv A outer s H E) true := ⟨_, (cxOf (CXR P w) P w K mg base N qual (defScope st) f cdv A outer s H E).xe, fun _ => E, ⟨fun p2 τ H1 s1 e s' I h => passE L p2 τ H1 s1 e s' I h, fun _ p2 τ H1 s1 h' a cls args I hx he => made_leaves L I hx he, fun _ => PassesOwn.leaving⟩⟩
  refine ⟨Tl K (fun _ => E) t, ht.of y, startD N ds, S', _, fun _ => Z, ?_, hS, q, ⟨fun σ S1 τ H1 r a b c => hR.kp c |>.now b r rv_non, hR, fun _ _ _ _ z => z.elim, fun _ _ _ _ z => z.elim⟩, fun σ τ C S1 H1 z a b c => hZ C S1 H1 z b c⟩
  unfold startD start
  refine (rst_vals v).app ?_
  rw [v.len]
  exact rst_none _ _ (by rw [List.length_replicate])
theorem FnOk.impD {k : Nat} {f : Addr} {fd : FuncData} {ps : List Str} {sp sp' : SpD} (F : FnOk P w K mg base (CXR P w) k f fd ps (SpL K sp)) (h : ∀ ds S R Z, sp' ds S R Z → sp ds S R Z) : FnOk P w K mg base (CXR P w) k f fd ps (SpL K sp') :=
  F.imp fun vs H Q E ⟨ds, S, R, Z, a, b, c, d⟩ => ⟨ds, S, R, Z, a, b, h _ _ _ _ c, d⟩
theorem FnOk.calm {k : Nat} {f : Addr} {fd : FuncData} {ps : List Str} {sp : Sp} (F : FnOk P w K mg base (CXR P w) k f fd ps sp) : FnOk P w K mg base CX0 k f fd ps fun vs H Q _ => sp vs H Q E0 := by
  refine ⟨fun vs H Q E h => F.len vs H Q E0 h, fun A outer s H args us vs Q E hr e0 hb r h => codeAny_mono (F.run A outer s H args us vs Q E0 hr e0 hb r h) fun res s' q => ?_⟩
  cases res with
  | error e => obtain ⟨_, _, _, _, _, _, _, _, _, z⟩ := q; exact z.elim
  | ok fl => cases fl <;> exact q
end
section
variable {K : PySem.W.Frag} {X : Cx} {b : Bool} {i : Nat} {n x : Str} {C0 : Addr} {body suite : List Stmt} {b₀ : Stmt} {np hpos pos : Pos}
theorem psx_of {t : TSD} (h : DSs K X false body t) : PSXs X body (fun E => Tl K E t) := by
  intro pins s σ H D E I q
  let y : Ev X false := ⟨X.pn ++ pins, XE X pins E, E, ⟨fun p2 τ H1 s1 e s' I1 hq => ⟨τ, H1, s1, ⟨⟨I1.ok.mod, I1.ok.kind, I1.ok.glob, I1.ok.blt, I1.ok.above, I1.ok.inj, I1.ok.has, I1.ok.cab, I1.ok.hd, I1.ok.frames, I1.ok.stk, I1.ok.exf, I1.ok.bs, I1.ok.bsz, I1.ok.noex, I1.ok.exfs, I1.ok.funs, I1.ok.frf⟩,
    I1.os, I1.bare, I1.base, I1.loc, I1.cell, I1.free, I1.freeC, fun p hp => I1.pin p (List.mem_append_left _ hp), I1.hok, I1.len⟩, hq⟩, fun e => (by cases e), fun e => (by cases e)⟩⟩
  have back : ∀ {σ' : St} {H' : Hp} {s' : Shared}, Inv y.cx [] σ' H' s' → Inv X pins σ' H' s' := fun I1 => ⟨⟨I1.ok.mod, I1.ok.kind, I1.ok.glob, I1.ok.blt, I1.ok.above, I1.ok.inj, I1.ok.has, I1.ok.cab, I1.ok.hd, I1.ok.frames, I1.ok.stk, I1.ok.exf, I1.ok.bs, I1.ok.bsz, I1.ok.noex, I1.ok.exfs, I1.ok.funs, I1.ok.frf⟩,
    I1.os, I1.bare, I1.base, I1.loc, I1.cell, I1.free, I1.freeC, fun p hp => I1.pin p (List.mem_append_left _ hp), I1.hok, I1.len⟩
  have I0 : Inv y.cx [] σ H s := ⟨⟨I.ok.mod, I.ok.kind, I.ok.glob, I.ok.blt, I.ok.above, I.ok.inj, I.ok.has, I.ok.cab, I.ok.hd, I.ok.frames, I.ok.stk, I.ok.exf, I.ok.bs, I.ok.bsz, I.ok.noex, I.ok.exfs, I.ok.funs, I.ok.frf⟩,
    I.os, I.bare, I.base, I.loc, I.cell, I.free, I.freeC, fun p hp => I.pin p (by rw [List.append_nil] at hp; exact hp), I.hok, I.len⟩
  refine wpAny_mono (h.of y [] s σ H D I0 q) (fun f s' r => ?_) fun _ _ r => r
  cases f with
  | next => obtain ⟨σ', H', I', q⟩ := r; exact ⟨σ', H', back I', q⟩
  | brk => obtain ⟨σ', H', I', q⟩ := r; exact ⟨σ', H', back I', q⟩
  | cont => obtain ⟨σ', H', I', q⟩ := r; exact ⟨σ', H', back I', q⟩
  | ret u => obtain ⟨v, σ', H', I', r1, q⟩ := r; exact ⟨v, σ', H', back I', r1, q⟩
def EndsD.less (De : EndsD) (i : Nat) : EndsD := { nx := fun σ S => De.nx (σ.set i none) S, rt := De.rt, bk := fun σ S => De.bk (σ.set i none) S, ct := fun σ S => De.ct (σ.set i none) S }
def dTry (K : PySem.W.Frag) (i : Nat) (C0 : Addr) (tb ts : TSD) : TSD := fun De σ S _ =>
  tb De σ S fun σ' C S' => PySem.W.mroIn K C (.ref C0) = some true ∧ ∀ a, S' a = none → ts (De.less i) (σ'.set i (some (.ref a))) (S'.set a (.exc C)) fun _ => Zf
theorem stry {tb ts : TSD} (hN : X.N.Nodup) (hm : X.mg x = some (.ref C0)) (c0 : XC K C0) (hb : DSs K X false body tb) (hs : ∀ a, DSs K (X.inExc a) false (b₀ :: suite) ts)
    (hi : X.N[i]? = some n := by rfl) (hx : X.env.scope.names.lookup n = some .local := by rfl) (hgx : Gl X x := by rfl) (hdb : (x == ("__debug__" : Str)) = false := by decide) (hst : X.stack = X.env :: X.outer := by rfl) (fr : X.env.frame = some X.env.locals := by rfl) (hK : X.K = K := by rfl) :
    DS K X b (.Try body [.ExceptHandler (some (.Name x np)) (some n) (b₀ :: suite) hpos] [] [] pos) (dTry K i C0 tb ts) := by
  subst hK
  refine ⟨fun y => (ps_try (X := y.cx) (ts := Tl X.K (fun _ => E0) ts) hst fr hN hi hx hgx hm c0 (psx_of (X := y.cx) (K := X.K) (t := tb) ⟨fun z => hb.of ⟨z.pn, z.xe, z.E, z.ok⟩⟩) (fun a => (hs a).of ⟨y.pn, fun _ _ => False, fun _ => E0, ⟨fun p2 τ H s e s' _ ⟨_, _, _, _, _, _, _, _, _, z⟩ => z.elim, fun e => (by cases e), fun e => (by cases e)⟩⟩) hdb).mono fun D τ H ⟨σ, S, De, Z, hσ, hS, q, hD, hZ⟩ => ?_⟩
  refine ⟨σ, S, De, _, hσ, hS, q, hD, fun σ1 τ1 C S1 H1 ⟨m1, r1⟩ a1 s1 k1 => ⟨C, rfl, m1, fun a ha => ?_⟩⟩
  have kn : Kp X.K H1 (upd H1 a (excO a (.ref C))) := .new ha
  have kk := k1.trans kn
  have un : ∀ {σ8 : SD} {τ8 : St} {H8 : Hp}, Rst X.K H8 σ8 τ8 → Rst X.K H8 (σ8.set i none) (τ8.set i none) := fun r => r.unset i none
  exact ⟨_, _, De.less i, fun _ => Zf, (a1.ts kn).set i (rv_ref a), s1.new (c := .exc C) ha upd_same, r1 a (s1.fresh ha), ⟨fun σ8 S8 τ8 H8 r8 a8 s8 k8 => hD.nx _ _ _ _ r8 (un a8) s8 (kk.trans k8), hD.rt.kp kk, fun σ8 S8 τ8 H8 r8 a8 s8 k8 => hD.bk _ _ _ _ r8 (un a8) s8 (kk.trans k8), fun σ8 S8 τ8 H8 r8 a8 s8 k8 => hD.ct _ _ _ _ r8 (un a8) s8 (kk.trans k8)⟩, fun _ _ _ _ _ z => z.elim⟩
end
section
variable {K : PySem.W.Frag} {X : Cx} {x : Str} {id : String} {e : Expr} {es : List Expr} {p pos : Pos} {t : TDa} {r : List D → Sto → KD → Prop}
def CallN (K : PySem.W.Frag) (f : Value) (r : List D → Sto → KD → Prop) : Prop := ∀ X : Cx, X.K = K → CallR X f (Lc K r)
theorem cbn (hc : CallN K (.builtin id) r) (hm : X.mg x = none) (hv : bootBuiltins x = some (.builtin id)) (ha : DA K X (e :: es) t) (hg : Gl X x := by rfl)
    (hn : x ≠ "__name__" := by decide) (hdb : (x == ("__debug__" : Str)) = false := by decide) (he : starEach (e :: es) X.env = (false, eval e X.env) :: starEach es X.env := by rfl) (hpl : (backTo pos (starEach es X.env)).any (·.1) = false := by rfl) (hK : X.K = K := by rfl) :
    DE K X (.Call (.Name x p) (e :: es) [] pos) (dCB r t) :=
  ⟨fun y => (pe_callB (X := y.cx) (hc _ hK) hg hm hv (ha.of y) hn hdb he hpl).mono fun _ _ _ h => h.cb⟩
def isxD (K : PySem.W.Frag) : List D → Sto → KD → Prop := fun ds S R => ∃ a C c b, ds = [.ref a, c] ∧ S a = some (.exc C) ∧ XC K C ∧ XA K C ∧
  ((∃ Cd, c = .ref Cd ∧ PySem.W.kitOne K (.ref C) (.ref Cd) = some b) ∨ (∃ n, c = .ty n ∧ PySem.W.kitOne K (.ref C) (.type n) = some b) ∨
    ∃ as : List Addr, c = .tup (as.map D.ref) ∧ PySem.W.kitAny K (.ref C) (as.map Value.ref) = some b) ∧ R (.bl b) S
theorem RvAll.refs {H : Hp} : ∀ {as : List Addr} {xs : List V}, RvAll K H (as.map D.ref) xs → xs = as.map V.ref
  | [], xs, h => h.nil
  | b :: bs, xs, h => by
    obtain ⟨y, ys, rfl, h1, h2⟩ := h.cons
    rw [h1.ref, h2.refs]; rfl
theorem vals_refs : ∀ {as : List Addr} {its : List Value}, Vals (as.map V.ref) its → its = as.map Value.ref
  | [], _, .nil => rfl
  | _ :: _, _, .cons r t => by rw [vals_refs t]; cases r; rfl
theorem c_isx : CallN K (.builtin "isinstance") (isxD K) := by
  intro X hK pins s σ H xs us Q I rx ⟨ds, S, R, r, hS, ⟨a, C, c, b, e, h1, h2, h3, h4, h⟩, hR⟩
  subst hK e
  obtain ⟨v, u, rfl, r1, r2⟩ := r.two
  have ha : H a = some (excO a (.ref C)) := hS a _ h1
  rcases h4 with ⟨Cd, rfl, h4⟩ | ⟨n, rfl, h4⟩ | ⟨as, rfl, h4⟩
  · exact call_isinstXK rfl pins s σ H _ us Q I rx ⟨a, C, .ref Cd, .ref Cd, b, by rw [r1.ref, r2.ref], ha, h2, h3, rfl, fun u' e => e, h4, hR.now hS h (rv_bl _)⟩
  · exact call_isinstXK rfl pins s σ H _ us Q I rx ⟨a, C, .ty n, .type n, b, by rw [r1.ref, r2.ty], ha, h2, h3, rfl, fun u' e => e, h4, hR.now hS h (rv_bl _)⟩
  · obtain ⟨p, zs, rfl, q, t⟩ := r2.tup
    rw [t.refs] at q
    exact call_isinstXT rfl pins s σ H _ us Q I rx ⟨a, C, p, _, b, by rw [r1.ref], ha, h2, h3, q, fun its hv => by rw [vals_refs hv]; exact h4, hR.now hS h (rv_bl _)⟩
end
end L2
namespace L2
open PySem PySem.Spec PyProof.Rows
end L2
namespace L2
open PySem PySem.Spec PyProof.Rows
section
variable {K : PySem.W.Frag}
end
section
variable {K : PySem.W.Frag} {X : Cx} {tg : Expr}
def pairsD (xs ys : List D) : List D := List.zipWith (fun a b => D.tup [a, b]) xs ys
def iZipD (t : TDa) : TDi := fun σ S R Z => t σ S (fun ds S1 => ∃ xs ys, ds = [.tup xs, .tup ys] ∧ xs.length = ys.length ∧ R ⟨pairsD xs ys, fun _ => True⟩ S1) Z
theorem izp {a c : Expr} {t : TDa} {p pos tp : Pos} {es : List Expr} {kk : Nat} (hm : X.mg "zip" = none) (ha : DA K X [a, c] t) (hg : Gl X "zip" := by rfl) (hs : starEach [a, c] X.env = [(false, eval a X.env), (false, eval c X.env)] := by rfl) (hs2 : starEach [c] X.env = [(false, eval c X.env)] := by rfl) (hK : X.K = K := by rfl) :
    DI K X (.Tuple es kk tp) (.Call (.Name "zip" p) [a, c] [] pos) (iZipD t) := by
  subst hK
  exact ⟨fun y => (pi_zip2 (X := y.cx) hg hm (ha.of y) hs hs2).mono fun τ H R ⟨σ, S, RI, Z, hσ, hS, q, hR, hZ⟩ => ⟨σ, S, _, Z, hσ, hS, q, fun ds S1 vs H1 ⟨xs, ys, e, hl, r1⟩ v1 s1 k1 => by
    subst e
    obtain ⟨v, u, rfl, ra, rb⟩ := v1.two
    obtain ⟨a, va, rfl, qa, ta⟩ := ra.tup
    obtain ⟨b, vb, rfl, qb, tb⟩ := rb.tup
    refine ⟨a, b, rfl, ⟨va, .of qa⟩, ⟨vb, .of qb⟩, hR _ S1 _ H1 r1 (fun i S2 H2 k2 s2 _ => ?_) s1 k1⟩
    have qa2 : SqT X.K H2 a va := .of (k2.t _ _ qa)
    have qb2 : SqT X.K H2 b vb := .of (k2.t _ _ qb)
    have la : va.length = xs.length := ta.len
    have lb : vb.length = ys.length := tb.len
    refine ⟨fun d hd => ?_, fun h => ⟨va, vb, qa2, qb2, by unfold pairsD at h; rw [List.length_zipWith] at h; omega⟩⟩
    unfold pairsD at hd
    obtain ⟨x, y', e1, e2, e3⟩ := List.getElem?_zipWith_eq_some.mp hd
    subst e3
    obtain ⟨vx, f1, g1⟩ := (RvAll.ts k2 _ ta).get e1
    obtain ⟨vy, f2, g2⟩ := (RvAll.ts k2 _ tb).get e2
    refine ⟨⟨va, vb, vx, vy, qa2, qb2, f1, f2⟩, fun x' H' ⟨T, hT, e4, e5⟩ => ?_⟩
    have := e5 va vb vx vy qa2 qb2 f1 f2
    subst this e4
    have kk : Kp X.K H2 (upd H2 T (.tup [vx, vy])) := .new hT
    exact ⟨rv_tup upd_same (RvAll.ts kk _ (ra_cons g1 (ra_cons g2 ra_nil))), kk, s2.grow hT⟩, hZ⟩⟩
theorem gd_tup2 {i j : Nat} : ∀ v τ H Q, Tg K (gdTup 2 (gdCons (gdN i) (gdCons (gdN j) gdNil))) v τ H Q → gTup K 2 (gCons (gName i) (gCons (gName j) gNil)) v τ H Q := fun v τ H Q ⟨d, σ, S, R, rv, hσ, hS, ⟨ds, e, hl, a, r, e1, b, r', e2, e3, q⟩, hR⟩ => by
  subst e e1 e2 e3
  obtain ⟨p, xs, rfl, hp, t⟩ := rv.tup
  obtain ⟨v1, v2, rfl, r1, r2⟩ := t.two
  exact ⟨p, _, rfl, .of hp, rfl, v1, [v2], rfl, v2, [], rfl, rfl, hR _ S _ H q ((hσ.set i r1).set j r2) hS (.refl _)⟩
end
end L2
namespace L2
open PySem PySem.Spec PyProof.Rows
section
variable {K : PySem.W.Frag} {X : Cx} {b : Bool} {pos : Pos}
def dLput (tl ti tv : TD) : TSD := fun De σ S Z => tv σ S (fun v S1 => tl σ S1 (fun x S2 => ti σ S2 (fun y S3 => ∃ a es i j, x = .ref a ∧ y = .int i ∧ S3 a = some (.lst es) ∧ ixN es.length i = some j ∧ De.nx σ (S3.set a (.lst (es.set j v)))) (Z σ)) (Z σ)) (Z σ)
theorem sls {o i value : Expr} {tl ti tv : TD} {pos' : Pos} (ho : DE K X o tl) (hi : DE K X i ti) (hv : DE K X value tv)
    (ha : ∀ v, assign (.Subscript o i pos') X.env v = (do
      let ov ← holding [v] (eval o X.env)
      let iv ← holding [v, ov] (eval i X.env)
      standAt pos'
      holding [v, ov, iv] (setItem ov iv v)
      release [v, ov, iv] []) := by intro _; rfl)
    (hs : swapsWithSole [.Subscript o i pos'] value pos.line X.env = pure false := by rfl) (hw : swappedStores [.Subscript o i pos'] value X.env = pure none := by rfl) (h1 : (assignEach [.Subscript o i pos'] X.env).map (·.2) = [assign (.Subscript o i pos') X.env] := by rfl) :
    DS K X b (.Assign [.Subscript o i pos'] value pos) (dLput tl ti tv) :=
  ⟨fun y => (ps_asg (X := y.cx) (hv.of y) (pg_sub (ho.of y) (hi.of y) set_list ha) hs hw h1).mono fun D τ H ⟨σ, S, De, Z, hσ, hS, q, hD, hZ⟩ =>
    ⟨σ, S, _, _, hσ, hS, q, fun v S1 vv H1 r1 v1 s1 k1 => ⟨σ, S1, _, _, hσ.ts k1, s1, r1, fun x S2 xv H2 r2 v2 s2 k2 => ⟨σ, S2, _, _, hσ.ts (k1.trans k2), s2, r2, fun y S3 yv H3 ⟨a, es, i, j, e1, e2, e3, e4, r3⟩ v3 s3 k3 => by
      subst e1 e2
      obtain ⟨xs, e5, t⟩ := s3.lst e3
      have kk := s3.ts_put (o := .lst (xs.set j vv)) e3
      refine ⟨a, xs, i, j, (Rv.ts k3 _ v2).ref, v3.int, e5, by rw [t.len]; exact e4, ?_⟩
      exact hD.nx _ _ _ _ r3 (hσ.ts (((k1.trans k2).trans k3).trans kk)) (s3.put (c := .lst _) e3 ⟨_, upd_same, RvAll.ts kk _ (t.set j (Rv.ts (k2.trans k3) _ v1))⟩) (((k1.trans k2).trans k3).trans kk), hZ.on (k1.trans k2) (hσ.ts (k1.trans k2))⟩, hZ.on k1 (hσ.ts k1)⟩, hZ.at hσ⟩⟩
def signsD (z : Str) : List D := z.cps.toList.map fun c => D.str ⟨#[c]⟩
def iStrD (t : TD) : TDi := fun σ S R Z => t σ S (fun x S1 => ∃ z, x = .str z ∧ R ⟨signsD z, fun _ => True⟩ S1) Z
theorem istr {tg l : Expr} {t : TD} (h : DE K X l t) : DI K X tg l (iStrD t) :=
  ⟨fun y => (pi_str (X := y.cx) (h.of y)).mono fun τ H R ⟨σ, S, RI, Z, hσ, hS, q, hR, hZ⟩ => ⟨σ, S, _, Z, hσ, hS, q, fun x S1 v H1 ⟨z, e, r1⟩ v1 s1 k1 => by
    subst e
    refine ⟨z, v1.str, hR _ S1 _ H1 r1 (fun i S2 H2 k2 s2 _ => ⟨fun d hd => ?_, fun hl => ?_⟩) s1 k1⟩
    · unfold signsD at hd
      rw [List.getElem?_map, Array.getElem?_toList] at hd
      cases q : z.cps[i]? with
      | none => rw [q] at hd; cases hd
      | some c =>
        rw [q] at hd; cases hd
        refine ⟨(Array.getElem?_eq_some_iff.mp q).1, fun x' H' ⟨e1, c', e2, e3⟩ => ?_⟩
        rw [q] at e2; cases e2
        subst e1 e3
        exact ⟨rv_str _, .refl _, s2⟩
    · unfold signsD at hl; rw [List.length_map, Array.length_toList] at hl; exact hl, hZ⟩⟩
end
theorem well_open {K : PySem.W.Frag} {S : Sto} {H : Hp} {l : Addr} (hS : Rs K S H) (h : S l = some .well) : ∃ x y z : Int, Rs K (S.set l (.lst [.int x, .int y, .int z])) H := by
  obtain ⟨x, y, z, e⟩ : ∃ x y z : Int, H l = some (.lst [.int x, .int y, .int z]) := hS l _ h
  refine ⟨x, y, z, fun b c hb => ?_⟩
  by_cases q : b = l
  · subst q; rw [sset_same] at hb; cases hb
    exact ⟨_, e, ra_cons (rv_int x) (ra_cons (rv_int y) (ra_cons (rv_int z) ra_nil))⟩
  · rw [sset_ne q] at hb; exact hS b c hb
theorem well_shut {K : PySem.W.Frag} {S : Sto} {H : Hp} {l : Addr} {x y z : Int} (h : S l = some .well) (hS : Rs K (S.set l (.lst [.int x, .int y, .int z])) H) : Rs K S H := fun b c hb => by
  by_cases q : b = l
  · subst q; rw [h] at hb; cases hb
    obtain ⟨xs, e, t⟩ := hS.lst (a := b) sset_same
    rw [t.ints (bs := [x, y, z])] at e
    exact ⟨x, y, z, e⟩
  · exact hS b c (by rw [sset_ne q]; exact hb)
def spWith (pre : List D → Addr → Prop) (post : List D → D → Prop) : SpD := fun ds S R _ => ∃ l x y z, pre ds l ∧ S l = some (.lst [.int x, .int y, .int z]) ∧ ∀ d x' y' z', post ds d → R d (S.set l (.lst [.int x', .int y', .int z']))
def spWell (pre : List D → Addr → Prop) (post : List D → D → Prop) : SpD := fun ds S R _ => ∃ l, pre ds l ∧ S l = some .well ∧ ∀ d, post ds d → R d S
theorem spWell_of {P : Program} {w : World} {K : PySem.W.Frag} {mg : Str → Option Value} {base : Heap} {k : Nat} {f : Addr} {fd : FuncData} {ps : List Str} {pre : List D → Addr → Prop} {post : List D → D → Prop}
    (F : FnOk P w K mg base (CXR P w) k f fd ps (SpL K (spWith pre post))) : FnOk P w K mg base (CXR P w) k f fd ps (SpL K (spWell pre post)) := by
  refine F.imp fun vs H Q E ⟨ds, S, R, Z, v, hS, ⟨l, hp, hw, h⟩, hR, hZ⟩ => ?_
  obtain ⟨x, y, z, hS'⟩ := well_open hS hw
  refine ⟨ds, _, fun d S2 => ∃ x' y' z', post ds d ∧ S2 = S.set l (.lst [.int x', .int y', .int z']), fun _ _ => False, v, hS', ⟨l, x, y, z, hp, sset_same, fun d x' y' z' hd => ⟨x', y', z', hd, sset_sset⟩⟩, fun d S2 u H' ⟨x', y', z', hd, e⟩ rv hs kp => ?_, fun _ _ _ q => q.elim⟩
  subst e
  exact hR d S u H' (h d hd) rv (well_shut hw hs) kp
end L2
namespace L2
open PySem PySem.Spec PyProof.Rows
def Sub (S S' : Sto) : Prop := ∀ b c, S b = some c → S' b = some c
theorem Sub.refl (S : Sto) : Sub S S := fun _ _ h => h
theorem Sub.trans {S S1 S2 : Sto} (a : Sub S S1) (b : Sub S1 S2) : Sub S S2 := fun p c h => b p c (a p c h)
theorem Sub.new {S : Sto} {p : Addr} {c : Ce} (h : S p = none) : Sub S (S.set p c) := fun b c' hb => by rw [sset_ne (sne hb h)]; exact hb
theorem Rs.sub {K : PySem.W.Frag} {S S' : Sto} {H : Hp} (h : Rs K S' H) (s : Sub S S') : Rs K S H := fun a c e => h a c (s a c e)
def Fo (S' : Sto) (p : Sto → Prop) : Prop := ∃ S, Sub S S' ∧ p S
theorem fo {S : Sto} {p : Sto → Prop} (h : p S) : Fo S p := ⟨S, .refl S, h⟩
section
variable {P : Program} {w : World} {K : PySem.W.Frag} {mg : Str → Option Value} {base : Heap}
theorem FunV.ok {x qual : Str} {st : Stmt} {f : Addr} {fd : FuncData} {N ps : List Str} {k : Nat} {sp : SpD} (F : FunV K x qual st f fd) (S : FnScope N ps (defScope st)) (len : ∀ ds S R Z, sp ds S R Z → ds.length = ps.length)
    (hbody : ∀ (cdv : Value) (A : Around) (outer : List Env) (s : Shared) (H : Hp) (E : XK) (ds : List D) (S : Sto) (R : KD) (Z : KX), Room k (A.deeper (envOfC qual (defScope st) s.heap.objs.size f cdv)) → sp ds S R Z →
      ∃ t, DSs K (cxOf (CXR P w) P w K mg base N qual (defScope st) f cdv A outer s H E) true (defBody st) t ∧ t { nx := fun _ S' => Fo S' (R .non), rt := fun d S' => Fo S' (R d) } (startD N ds) S fun _ C S' => Fo S' (Z C)) : FnOk P w K mg base (CXR P w) (k + 1) f fd ps (SpL K sp) := by
  have F2 : FnOk P w K mg base (CXR P w) (k + 1) f fd ps (SpL K fun ds S R' Z' => ∃ R Z, sp ds S R Z ∧ R' = (fun d S' => Fo S' (R d)) ∧ Z' = fun C S' => Fo S' (Z C)) := by
    refine F.okD S (fun ds S R Z ⟨R0, Z0, h, _⟩ => len _ _ _ _ h) fun cdv A outer s H E ds S R Z hr ⟨R0, Z0, h, e1, e2⟩ => ?_
    subst e1 e2
    exact hbody cdv A outer s H E ds S R0 Z0 hr h
  refine F2.imp fun vs H Q E ⟨ds, S, R, Z, v, hS, h, hR, hZ⟩ => ⟨ds, S, _, _, v, hS, ⟨R, Z, h, rfl, rfl⟩, fun d S' u H' ⟨S2, sb, r⟩ rv rs kp => hR d S2 u H' r rv (rs.sub sb) kp, fun C S' H' ⟨S2, sb, r⟩ rs kp => hZ C S2 H' r (rs.sub sb) kp⟩
end
section
variable {K : PySem.W.Frag} {X : Cx} {b : Bool}
def dCutF (t : TSD) : TSD := fun De σ S Z => ∃ P : SD → Sto → Prop, t { De with nx := fun σ' S' => Fo S' (P σ') } σ S Z ∧ ∀ σ' S', P σ' S' → De.nx σ' S'
theorem scf {st : Stmt} {t : TSD} (h : DS K X b st t) : DS K X b st (dCutF t) :=
  ⟨fun y => (h.of y).mono fun D τ H ⟨σ, S, De, Z, hσ, hS, ⟨P, q, hP⟩, hD, hZ⟩ => ⟨σ, S, _, Z, hσ, hS, q, ⟨fun σ1 S1 τ1 H1 ⟨S2, sb, r1⟩ a b c => hD.nx _ _ _ _ (hP _ _ r1) a (b.sub sb) c, hD.rt, hD.bk, hD.ct⟩, hZ⟩⟩
def dFo (t : TD) : TD := fun σ S R Z => t σ S (fun d S' => Fo S' (R d)) Z
theorem efo {e : Expr} {t : TD} (h : DE K X e t) : DE K X e (dFo t) :=
  ⟨fun y => (h.of y).mono fun τ H Q ⟨σ, S, R, Z, hσ, hS, q, hR, hZ⟩ => ⟨σ, S, _, Z, hσ, hS, q, fun d S' v H' ⟨S2, sb, r⟩ rv rs kp => hR d S2 v H' r rv (rs.sub sb) kp, hZ⟩⟩
theorem cg1 {N : List Str} {scope : Scope} {a : Str} {p : Pos} (nd : N.Nodup) (h0 : N[0]? = some a := by rfl) (hx : ∀ C s H ex pn, Loc (cxC X N scope C s H ex pn).env.scope a ∧ (cxC X N scope C s H ex pn).env.scope.names.lookup a = some .local := by intro _ _ _ _ _; exact ⟨Or.inl rfl, rfl⟩) :
    ∀ C s H ex pn, PG (cxC X N scope C s H ex pn) (.Name a p) (gName 0) := fun C s H ex pn => pg_name (i := 0) nd h0 (hx C s H ex pn).1 (.inr (hx C s H ex pn).2)
theorem cg2 {N : List Str} {scope : Scope} {a c : Str} {p p' p2 : Pos} {j : Nat} (nd : N.Nodup) (h0 : N[0]? = some a := by rfl) (h1 : N[1]? = some c := by rfl)
    (hx : ∀ C s H ex pn, Loc (cxC X N scope C s H ex pn).env.scope a ∧ (cxC X N scope C s H ex pn).env.scope.names.lookup a = some .local := by intro _ _ _ _ _; exact ⟨Or.inl rfl, rfl⟩)
    (hy : ∀ C s H ex pn, Loc (cxC X N scope C s H ex pn).env.scope c ∧ (cxC X N scope C s H ex pn).env.scope.names.lookup c = some .local := by intro _ _ _ _ _; exact ⟨Or.inl rfl, rfl⟩)
    (hl : ∀ env : Env, (assignEach [.Name a p, .Name c p'] env).length = 2 ∧ (assignEach [.Name a p, .Name c p'] env).findIdx? (·.1) = none ∧ (assignEach [.Name a p, .Name c p'] env).map (·.2) = assign (.Name a p) env :: (assignEach [.Name c p'] env).map (·.2) ∧ (assignEach [.Name c p'] env).map (·.2) = assign (.Name c p') env :: (assignEach [] env).map (·.2) := by intro _; exact ⟨rfl, rfl, rfl, rfl⟩) (hK : X.K = K := by rfl) (hc : X.calm = true := by rfl) :
    ∀ C s H ex pn, PG (cxC X N scope C s H ex pn) (.Tuple [.Name a p, .Name c p'] j p2) (gTup K 2 (gCons (gName 0) (gCons (gName 1) gNil))) := fun C s H ex pn => by
  subst hK
  have e := hl (cxC X N scope C s H ex pn).env
  exact pg_tup (X := cxC X N scope C s H ex pn) hc (pgs_cons (pg_name (i := 0) nd h0 (hx C s H ex pn).1 (.inr (hx C s H ex pn).2)) (pgs_cons (pg_name (i := 1) nd h1 (hy C s H ex pn).1 (.inr (hy C s H ex pn).2)) pgs_nil e.2.2.2) e.2.2.1) e.1 e.2.1
end
end L2
namespace L2
open PySem PySem.Spec PyProof.Rows
section
variable {K : PySem.W.Frag}
end
end L2
namespace HT
open PySem PySem.Spec PyProof.Rows
section
variable {prog : Program} {w : World} {A : Around} {E : Value → Shared → Prop} {s : Shared}
theorem getItem_tuple_whole {t sl : Addr} {items : Array Value} {vl vu : Value} {lo hi : Option Int} {Q : Value → Shared → Prop} (ht : IsTup s.heap t items) (hs : s.heap.IsSliceOf sl vl vu .none) (pl : IsPart vl lo) (pu : IsPart vu hi)
    (hw : sIx items.size 0 lo = 0 ∧ sIx items.size items.size hi = items.size) (h : Q (.ref t) s) : wpAny (model prog w) A (getItem (.ref t) (.ref sl)) Q E s := by
  obtain ⟨os, hos, hcs, hds⟩ := id hs
  have hTs : s.TypeIs (.ref sl) "slice" := ⟨os, hos, hcs⟩
  unfold getItem
  try with_reducible refine wpAny_holding ?_
  first | refine wpAny_bind (wpAny_pure ?_) | skip
  refine wpAny_bind (wpAny_sequenceKey ht.typeIs (by decide) ?_)
  refine wpAny_bind (wpAny_callSpecial?_slot (name := Str.ofString "__getitem__") ht.typeIs PyProof.Rows.slot_tuple_getitem
    (wpAny_call_entry PyProof.Rows.slot_tuple_getitem ht.typeIs entry_tuple_getitem ?_ (args_tuple_getitem _ _)))
  show wpAny _ _ (Builtin.Tuple.tupleItemsOf (.ref t) >>= _) _ _ s
  refine wpAny_bind (tupleItemsOf_ ht ?_)
  refine wpAny_bind (wpAny_typeOf hTs ?_)
  rw [if_pos (by decide)]
  refine wpAny_bind (sliceApplied_gen hs pl pu ?_)
  have hyes : ((((sIx items.size 0 lo : Nat) : Int) == 0 && (1 : Int) == 1 && (sIx items.size items.size hi - sIx items.size 0 lo) == items.size) = true) := by
    rw [hw.1, hw.2]; simp
  show wpAny _ _ (if (((sIx items.size 0 lo : Nat) : Int) == 0 && (1 : Int) == 1 && (sIx items.size items.size hi - sIx items.size 0 lo) == items.size) = true then _ else _) _ _ s
  rw [if_pos hyes]
  refine wpAny_bind ?_
  unfold Builtin.Tuple.tupleIsExact
  refine wpAny_bind (wpAny_typeOf ht.typeIs (wpAny_pure ?_))
  rw [if_pos (by decide)]
  refine wpAny_bind (wpAny_rule ?_)
  first
    | exact wpAny_pure ⟨_, rfl, wpAny_pure h⟩
    | exact wpAny_bind (wpAny_pure (wpAny_pure ⟨_, rfl, wpAny_pure h⟩))
    | (trace_state; exact wpAny_bind (wpAny_pure ⟨_, rfl, wpAny_pure h⟩))
end
end HT
namespace L2
open PySem PySem.Spec PyProof.Rows
def rSlTW (K : PySem.W.Frag) : V → Option Int → Option Int → Hp → VK → Prop := fun x lo hi H Q => ∃ a xs, x = .ref a ∧ SqT K H a xs ∧ (HT.sIx xs.length 0 lo = 0 ∧ HT.sIx xs.length xs.length hi = xs.length) ∧ Q (.ref a) H
theorem sl_tupW {X : Cx} : SlR X (rSlTW X.K) := by
  intro pins s σ H x v vl vu lo hi sl Q I rx hs pl pu h
  obtain ⟨a, xs, rfl, hx, hw, q⟩ := h
  cases rx
  obtain ⟨its, r, ht, hz⟩ := I.tuple hx
  have hlen : its.toArray.size = xs.length := by rw [List.size_toArray]; exact r.length.symm
  refine ⟨"tuple", _, PyProof.Rows.slot_tuple_getitem.lookup, ht.typeIs, ?_⟩
  exact HT.getItem_tuple_whole ht hs pl pu (by rw [hlen]; exact hw) ⟨.ref a, _, I, rfl, q⟩
def slWD : D → Option Int → Option Int → Sto → KD → Prop := fun x lo hi S R => ∃ ds, x = .tup ds ∧ R (.tup (cutL ds lo hi)) S
section
variable {K : PySem.W.Frag} {X : Cx}
theorem o_slw (hK : X.K = K) : SlR X (fun x lo hi H Q => ∃ d S R, Rv K H d x ∧ Rs K S H ∧ slWD d lo hi S R ∧ Cn K H R Q) := by
  intro pins s σ H x v vl vu lo hi sl Q I rx hs pl pu ⟨d, S, R, r1, hS, ⟨ds, e, h⟩, hR⟩
  subst hK e
  obtain ⟨a, xs, rfl, q, t⟩ := r1.tup
  by_cases hw : HT.sIx xs.length 0 lo = 0 ∧ HT.sIx xs.length xs.length hi = xs.length
  · refine sl_tupW pins s σ H _ v vl vu lo hi sl Q I rx hs pl pu ⟨a, xs, rfl, .of q, hw, ?_⟩
    have e : cutL ds lo hi = ds := by
      unfold cutL
      rw [← t.len, hw.1, hw.2, List.drop_zero, Nat.sub_zero, t.len, List.take_length]
    rw [e] at h
    exact hR.now hS h (rv_tup q t)
  · exact sl_tup pins s σ H _ v vl vu lo hi sl Q I rx hs pl pu ⟨a, xs, rfl, .of q, hw, fun p hp => hR.newT hS hp h (t.cut lo hi)⟩
def dSlW (te : TD) (tl th : TDo) : TD := fun σ S R Z => te σ S (fun x S1 => tl σ S1 (fun l S2 => th σ S2 (fun u S3 => slWD x l u S3 R) Z) Z) Z
theorem slw {e : Expr} {lo hi : Option Expr} {te : TD} {tl th : TDo} {p2 pos : Pos} (he : DE K X e te) (hl : DO K X lo tl) (hu : DO K X hi th) (hK : X.K = K := by rfl) : DE K X (.Subscript e (.Slice lo hi none p2) pos) (dSlW te tl th) :=
  ⟨fun y => (pe_slice (X := y.cx) (o_slw hK) (he.of y) (hl.of y) (hu.of y)).mono fun τ H Q ⟨σ, S, R, Z, hσ, hS, q, hR, hZ⟩ =>
    ⟨σ, S, _, Z, hσ, hS, q, fun d S1 x H1 r1 v1 s1 k1 => ⟨σ, S1, _, Z, hσ.ts k1, s1, r1, fun l S2 H2 r2 s2 k2 => ⟨σ, S2, _, Z, hσ.ts (k1.trans k2), s2, r2, fun u S3 H3 r3 s3 k3 => ⟨d, S3, R, Rv.ts (k2.trans k3) _ v1, s3, r3, hR.kp ((k1.trans k2).trans k3)⟩, hZ.kp (k1.trans k2)⟩, hZ.kp k1⟩, hZ⟩⟩
end
end L2
namespace L2
open PySem PySem.Spec PyProof.Rows
inductive DlAll (S : Sto) : List D → List PyData → Prop where
  | nil : DlAll S [] []
  | cons {d : D} {p : PyData} {ds : List D} {ps : List PyData} : Dl S d p → DlAll S ds ps → DlAll S (d :: ds) (p :: ps)
section
variable {K : PySem.W.Frag}
end
end L2
namespace L2
open PySem PySem.Spec PyProof.Rows
theorem vals_strsFrom : ∀ (k : Nat) (l : List Str), Vals (l.map V.str) (strsFrom k l)
  | _, [] => .nil
  | k, z :: l => .cons ⟨_, rfl⟩ (vals_strsFrom _ l)
def rSplit : V → List V → Hp → VK → Prop := fun x vs H Q => ∃ z y, x = .str z ∧ vs = [.str y] ∧ (y.length == 0) = false ∧ z.length + 2 ≤ sizeLine ∧ ∀ l, H l = none → Q (.ref l) (upd H l (.lst ((Txt.split z y).map V.str)))
theorem mt_split {X : Cx} : MtR X "str.split" rSplit := by
  intro pins s σ H x vs v us Q I rx rv h
  obtain ⟨z, y, rfl, rfl, hy, hz, q⟩ := h
  obtain ⟨t, rfl⟩ := rx
  obtain ⟨u, rfl, ru⟩ := rv.one
  obtain ⟨t', rfl⟩ := ru
  have one : 1 ≤ sizeLine := by omega
  have self : ∀ k, (∀ l, H l = none → Q (.ref l) (upd H l (.lst [V.str z]))) → EP X pins σ Q (.ref s.heap.objs.size) { s with heap := s.heap.push { cls := .type "list", data := .seq #[.str z t] }, toks := k } := fun k q =>
    ⟨.ref s.heap.objs.size, _, I.laid (t' := k) (o := .lst [V.str z]) (fun b ob q => Heap.get?_push_of_some _ q) (Nat.le_refl _) ⟨one, [.str z t], 0, .cons ⟨t, rfl⟩ .nil, Heap.get?_push_size _ rfl⟩, rfl, q _ (I.hok.fresh (Nat.le_refl _))⟩
  by_cases h1 : (decide (z.length < y.length) || decide (Builtin.Str.strKind z < Builtin.Str.strKind y)) = true
  · have e : Txt.split z y = [z] := by unfold Txt.split; rw [if_pos h1]
    rw [e] at q
    exact call_meets F.slot_str_split (typeIs_str _ _ _) F.entry_str_split (F.args_str_split_2 _ _) (meets_str_split_cannot_occur z y t t' h1) (self s.toks q)
  · by_cases h2 : (Builtin.Str.occurrences z y 0 z.length (z.length + 1)).isEmpty = true
    · have e : Txt.split z y = [z] := by unfold Txt.split; rw [if_neg h1, if_pos h2]
      rw [e] at q
      exact call_meets F.slot_str_split (typeIs_str _ _ _) F.entry_str_split (F.args_str_split_2 _ _) (meets_str_split_not_found z y t t' (Bool.eq_false_iff.mpr h1) hy h2) (self s.toks q)
    · have e : Txt.split z y = Builtin.Str.partsBetween z (Builtin.Str.occurrences z y 0 z.length (z.length + 1)) y.length := by unfold Txt.split; rw [if_neg h1, if_neg h2]
      have hyl : 1 ≤ y.length := by
        have : ¬ y.length = 0 := fun q => by rw [q] at hy; cases hy
        omega
      have hw := split_weight z y hyl
      have hl : (Txt.split z y).length ≤ sizeLine := by omega
      rw [e] at q hl
      refine call_meets F.slot_str_split (typeIs_str _ _ _) F.entry_str_split (F.args_str_split_2 _ _) (meets_str_split_sep z y t t' (Bool.eq_false_iff.mpr h1) hy (Bool.eq_false_iff.mpr h2) (by omega) hl) ?_
      exact ⟨.ref s.heap.objs.size, _, I.laid (o := .lst (_ : List V)) (fun b ob q => Heap.get?_push_of_some _ q) (Nat.le_refl _) ⟨by rw [List.length_map]; exact hl, _, 0, vals_strsFrom s.toks _, Heap.get?_push_size _ rfl⟩, rfl, q _ (I.hok.fresh (Nat.le_refl _))⟩
section
variable {K : PySem.W.Frag}
def splitD : RDm := fun x ds S R => ∃ z y, x = .str z ∧ ds = [.str y] ∧ (y.length == 0) = false ∧ z.length + 2 ≤ sizeLine ∧ ∀ p, S p = none → R (.ref p) (S.set p (.lst ((Txt.split z y).map D.str)))
theorem m_split : MtD K "str.split" splitD := by
  intro X hK pins s σ H x xs v us Q I rx rs ⟨d, ds, S, R, r1, r2, hS, ⟨z, y, e1, e2, hy, hz, h⟩, hR⟩
  subst e1 e2
  obtain ⟨w0, rfl, q2⟩ := r2.one
  exact mt_split pins s σ H _ _ v us Q I rx rs ⟨z, y, r1.str, by rw [q2.str], hy, hz, fun l hl => hR.new hS hl (h l) (ra_strs _)⟩
def joinD : RDm := fun x ds S R => ∃ z texts d, x = .str z ∧ ds = [d] ∧ SqD S d (texts.map D.str) ∧ JoinOk z texts = true ∧ R (.str (Txt.join z texts)) S
theorem m_join : MtD K "str.join" joinD := by
  intro X hK pins s σ H x xs v us Q I rx rs ⟨d, ds, S, R, r1, r2, hS, ⟨z, texts, d', e1, e2, e3, hj, h⟩, hR⟩
  subst hK e1 e2
  obtain ⟨w0, rfl, q2⟩ := r2.one
  obtain ⟨a, ys, rfl, q, t⟩ := e3.at hS q2
  have et := t.strs
  subst et
  exact mt_join pins s σ H _ _ v us Q I rx rs ⟨z, a, texts, r1.str, rfl, q, hj, hR.now hS h (rv_str _)⟩
theorem map_erIdx {α β : Type} (f : α → β) : ∀ (l : List α) (j : Nat), (l.eraseIdx j).map f = (l.map f).eraseIdx j
  | [], _ => rfl
  | _ :: _, 0 => rfl
  | x :: l, j + 1 => by rw [List.eraseIdx_cons_succ, List.map_cons, List.map_cons, List.eraseIdx_cons_succ, map_erIdx f l j]
end
end L2
namespace L2
open PySem PySem.Spec PyProof.Rows
section
variable {K : PySem.W.Frag}
end
structure RoomH (k : Nat) (A : Around) : Prop where
  dp : A.depth + 3 * k + 5 < recursionLimit
  un : A.units + 16 * k + 200 < cLine
structure FnH (P : Program) (w : World) (K : PySem.W.Frag) (mg : Str → Option Value) (base : Heap) (k : Nat) (f : Addr) (fd : FuncData) (ps : List Str) (sp : SpD) : Prop where
  len : ∀ ds S R Z, sp ds S R Z → ds.length = ps.length
  run : ∀ (A : Around) (outer : List Env) (s : Shared) (H : Hp) (args : Args) (us : List Value) (vs : List V) (Q : VK), RoomH k A → Env0 P w K mg base A outer s H → BindsTo s fd args (ps.zip us) → Vals vs us → SpL K sp vs H Q E0 →
    codeAny (model P w) A (.call (.ref f) args) (CR (CXR P w) outer P w H s Q E0) s
section
variable {P : Program} {w : World} {K : PySem.W.Frag} {mg : Str → Option Value} {base : Heap}
end
section
variable {K : PySem.W.Frag} {X : Cx} {k : Nat} {f : Addr} {fd : FuncData} {ps : List Str} {x : Str} {p pos : Pos} {e : Expr} {es : List Expr} {sp : SpD}
end
end L2
namespace L2
open PySem PySem.Spec PyProof.Rows
section
variable {K : PySem.W.Frag}
def intSD : List D → Sto → KD → Prop := fun ds S R => ∃ z n, ds = [.str z] ∧ intText? z = some n ∧ z.length ≤ 640 ∧ R (.int n) S
theorem c_intS : CallD K (.type "int") intSD := by
  intro X hK hc pins s σ H xs us Q I rx ⟨ds, S, R, r, hS, ⟨z, n, e, h1, h2, h⟩, hR⟩
  subst hK e
  obtain ⟨v, rfl, r1⟩ := r.one
  have ev := r1.str
  subst ev
  obtain ⟨u, rfl, ru⟩ := vals1 rx
  obtain ⟨t, rfl⟩ := ru
  exact PySem.W.KIN.call_text h1 h2 ⟨.int n, H, I.tok _, ⟨_, rfl⟩, hR.now hS h (rv_int _)⟩
def strD : List D → Sto → KD → Prop := fun ds S R => ∃ n, ds = [.int n] ∧ n.natAbs.log2 < 1920 ∧ R (.str (Str.ofString (toString n))) S
theorem c_str : CallD K (.type "str") strD := by
  intro X hK hc pins s σ H xs us Q I rx ⟨ds, S, R, r, hS, ⟨n, e, h1, h⟩, hR⟩
  subst hK e
  obtain ⟨v, rfl, r1⟩ := r.one
  have ev := r1.int
  subst ev
  obtain ⟨u, rfl, ru⟩ := vals1 rx
  obtain ⟨t, rfl⟩ := ru
  exact PySem.P.str_of_int h1 ⟨.str _, H, I.tok _, ⟨_, rfl⟩, hR.now hS h (rv_str _)⟩
end
def PEg (pre : Nat) (X : Cx) (e : Expr) (t : TE) : Prop := ∀ (pins : List (Addr × Obj)) (s : Shared) (σ : St) (H : Hp) (Q : VK), Inv X pins σ H s → pre ≤ s.toks → t σ H Q → wpAny (model X.prog X.w) X.A (eval e X.env) (fun u s' => EP X pins σ Q u s' ∧ 1 ≤ s'.toks) X.xe s
section
variable {X : Cx} {e o : Expr} {t : TE}
theorem PE.g (h : PE X e t) : PEg 1 X e t := fun pins s σ H Q I hs q => wpAny_mono (wpAny_toks_of hs (h pins s σ H Q I q)) (fun _ _ q => ⟨q.2, q.1⟩) fun _ _ q => q.2
theorem PEg.pe (h : PEg 0 X e t) : PE X e t := fun pins s σ H Q I q => wpAny_mono (h pins s σ H Q I (Nat.zero_le _) q) (fun _ _ q => q.1) fun _ _ q => q
def tRep (y z : Str) (t : TE) : TE := fun σ H Q => t σ H fun x H1 => ∃ u, x = .str u ∧ u.length + (u.length + 1) * z.length ≤ 16777216 ∧ Q (.str (Txt.replace u y z)) H1
theorem pe_rep {pre : Nat} {y z : Str} {j k : Nat} {p1 p2 apos cpos : Pos} (ho : PEg pre X o t) (hyz : (y == z) = false) (m : M2 X o "replace" apos (.Constant (.str y) j p1) (.Constant (.str z) k p2) cpos) : PEg pre X (.Call (.Attribute o "replace" apos) [.Constant (.str y) j p1, .Constant (.str z) k p2] [] cpos) (tRep y z t) := by
  intro pins s σ H Q I hs h
  refine wpAny_Call_method m.base m.few m.line PySem.F.plainAttrs_str PySem.F.slot_str_replace PySem.F.type_str_replace (thn (ho pins s σ H _ I hs h) fun u s1 ⟨⟨x, H1, I1, rx, z', ex, hz, q⟩, ht⟩ => ?_)
  subst ex
  obtain ⟨tk, rfl⟩ := rx
  refine ⟨typeIs_str _ _ _, fun b q => (by cases q), ?_⟩
  rw [m.trees]
  refine Calls.callWith_builtin rfl (Calls.evalArgs_plain (Calls.spliced_cons (Calls.Constant_str (Calls.spliced_cons (Calls.Constant_str (Calls.spliced_nil ?_))))))
  refine wpAny_with_toks (n := 1) (by show 1 ≤ s1.toks + 1 + 1; omega) (PySem.SC.replace (u := s1.toks) (v := s1.toks + 1) ?_ ?_ ?_ hyz hz fun t' k hk => ⟨⟨.str _, H1, ?_, ⟨_, rfl⟩, q⟩, hk⟩)
  · exact Nat.ne_of_gt ht
  · exact Nat.succ_ne_zero _
  · exact (Nat.succ_ne_self _).symm
  · exact I1.tok k
theorem pe_sliceG {te : TE} {i : Int} {j : Nat} {p2 p3 pos : Pos} {r : V → Option Int → Option Int → Hp → VK → Prop} (hr : SlR X r) (he : PE X e te) : PEg 0 X (.Subscript e (.Slice (some (.Constant (.int i) j p3)) none none p2) pos) (fun σ H Q => te σ H fun x H1 => r x (some i) none H1 Q) := by
  intro pins s σ H Q I _ h
  refine Subscript_ (thn (he pins s σ H _ I h) fun v s1 ⟨x, H1, I1, r1, q1⟩ => ?_)
  refine wpAny_Slice ?_
  rw [evalPart_some]
  refine wpAny_Constant_int ?_
  rw [evalPart_none]
  refine wpAny_pure ?_
  refine wpAny_pure ?_
  have I2 : Inv X pins σ H1 { s1 with toks := s1.toks + 1 } := I1.tok _
  generalize hs3 : ({ s1 with toks := s1.toks + 1 } : Shared) = s3 at I2
  have ht3 : 1 ≤ s3.toks := by rw [← hs3]; exact Nat.le_add_left _ _
  have I4 : Inv X pins σ H1 { s3 with heap := s3.heap.push { cls := .type "slice", data := .fields #[.int i s1.toks, .none, .none] } } := I2.kept (t' := s3.toks) fun b ob q => Heap.get?_push_of_some _ q
  obtain ⟨T, id, hT, ht, hg⟩ := hr pins { s3 with heap := s3.heap.push { cls := .type "slice", data := .fields #[.int i s1.toks, .none, .none] } } σ H1 x v (.int i s1.toks) .none (some i) none s3.heap.objs.size Q I4 r1 (Heap.IsSliceOf.new ..) (.int i s1.toks) .none q1
  show wpAny (model X.prog X.w) X.A (subscriptTail e (.Slice (some (.Constant (.int i) j p3)) none none p2) v (.ref s3.heap.objs.size)) _ X.xe { s3 with heap := s3.heap.push { cls := .type "slice", data := .fields #[.int i s1.toks, .none, .none] } }
  have hx : wpAny (model X.prog X.w) X.A (subscriptTail e (.Slice (some (.Constant (.int i) j p3)) none none p2) v (.ref s3.heap.objs.size)) (EP X pins σ Q) X.xe { s3 with heap := s3.heap.push { cls := .type "slice", data := .fields #[.int i s1.toks, .none, .none] } } := tail_any (ops := [.ref s3.heap.objs.size, v]) ht hT hg (by with_unfolding_all rfl)
  exact wpAny_mono (wpAny_toks_of (n := 1) ht3 hx) (fun _ _ q => ⟨q.2, q.1⟩) fun _ _ q => q.2
theorem pe_addG {tb : TE} {c : Str} {j : Nat} {p1 pos : Pos} {r : R2} (ho : OpR X (binaryOp .Add) r) (hb : PEg 1 X e tb) : PE X (.BinOp (.Constant (.str c) j p1) .Add e pos) (fun σ H Q => tb σ H fun y H1 => r (.str c) y H1 Q) := by
  intro pins s σ H Q I h
  refine wpAny_BinOp (Calls.Constant_str ?_)
  refine thn (hb pins { s with toks := s.toks + 1 } σ H _ (I.tok _) (Nat.le_add_left _ _) h) fun u s2 ⟨⟨y, H2, I2, r2, q2⟩, _⟩ => ?_
  exact ho pins s2 σ H2 (.str c) y (.str c s.toks) u Q I2 ⟨_, rfl⟩ r2 q2
end
structure DEg (pre : Nat) (K : PySem.W.Frag) (X : Cx) (e : Expr) (t : TD) : Prop where
  of : ∀ {b : Bool} (y : Ev X b), PEg pre y.cx e (T K y.E t)
section
variable {K : PySem.W.Frag} {X : Cx} {e o : Expr}
theorem PEg.mono {pre : Nat} {X : Cx} {e : Expr} {t t' : TE} (h : PEg pre X e t) (i : ∀ τ H Q, t' τ H Q → t τ H Q) : PEg pre X e t' := fun pins s τ H Q I hs q => h pins s τ H Q I hs (i τ H Q q)
theorem g1 {t : TD} (h : DE K X e t) : DEg 1 K X e t := ⟨fun y => (h.of y).g⟩
theorem gd {t : TD} (h : DEg 0 K X e t) : DE K X e t := ⟨fun y => (h.of y).pe⟩
def dRep (y z : Str) (to : TD) : TD := fun σ S R Z => to σ S (fun x S1 => ∃ u, x = .str u ∧ u.length + (u.length + 1) * z.length ≤ 16777216 ∧ R (.str (Txt.replace u y z)) S1) Z
theorem gr {pre : Nat} {to : TD} {y z : Str} {j k : Nat} {p1 p2 apos cpos : Pos} (ho : DEg pre K X o to) (hyz : (y == z) = false := by decide) (m : M2 X o "replace" apos (.Constant (.str y) j p1) (.Constant (.str z) k p2) cpos := by exact ⟨rfl, rfl, rfl, rfl⟩) :
    DEg pre K X (.Call (.Attribute o "replace" apos) [.Constant (.str y) j p1, .Constant (.str z) k p2] [] cpos) (dRep y z to) :=
  ⟨fun q => (pe_rep (X := q.cx) (ho.of q) hyz ⟨m.base, m.few, m.line, m.trees⟩).mono fun τ H Q ⟨σ, S, R, Z, hσ, hS, h, hR, hZ⟩ =>
    ⟨σ, S, _, Z, hσ, hS, h, fun d S1 x H1 ⟨u, e1, h1, r1⟩ v1 s1 k1 => by subst e1; exact ⟨u, v1.str, h1, (hR.kp k1).now s1 r1 (rv_str _)⟩, hZ⟩⟩
def dSlG (i : Int) (te : TD) : TD := fun σ S R Z => te σ S (fun x S1 => slD x (some i) none S1 R) Z
theorem gs {te : TD} {i : Int} {j : Nat} {p2 p3 pos : Pos} (he : DE K X e te) (hK : X.K = K := by rfl) : DEg 0 K X (.Subscript e (.Slice (some (.Constant (.int i) j p3)) none none p2) pos) (dSlG i te) :=
  ⟨fun y => (pe_sliceG (X := y.cx) (o_sl hK) (he.of y)).mono fun τ H Q ⟨σ, S, R, Z, hσ, hS, q, hR, hZ⟩ =>
    ⟨σ, S, _, Z, hσ, hS, q, fun d S1 x H1 r1 v1 s1 k1 => ⟨d, S1, R, v1, s1, r1, hR.kp k1⟩, hZ⟩⟩
def dAddG (c : Str) (te : TD) : TD := fun σ S R Z => te σ S (fun x S1 => addD (.str c) x S1 R) Z
theorem ga {te : TD} {c : Str} {j : Nat} {p1 pos : Pos} (he : DEg 1 K X e te) (hu : X.A.units + 64 < cLine) (hK : X.K = K := by rfl) : DE K X (.BinOp (.Constant (.str c) j p1) .Add e pos) (dAddG c te) :=
  ⟨fun y => (pe_addG (X := y.cx) (o_add y.cx hK hu) (he.of y)).mono fun τ H Q ⟨σ, S, R, Z, hσ, hS, q, hR, hZ⟩ =>
    ⟨σ, S, _, Z, hσ, hS, q, fun d S1 x H1 r1 v1 s1 k1 => ⟨.str c, d, S1, R, rv_str c, v1, s1, r1, hR.kp k1⟩, hZ⟩⟩
end
end L2
namespace L2
open PySem PySem.Spec PyProof.Rows
theorem sapp (a b : Str) : (a ++ b).cps.toList = a.cps.toList ++ b.cps.toList := by
  show (a.cps ++ b.cps).toList = _
  rw [Array.toList_append]
theorem sext {a b : Str} (h : a.cps.toList = b.cps.toList) : a = b := by
  obtain ⟨⟨x⟩⟩ := a
  obtain ⟨⟨y⟩⟩ := b
  cases h; rfl
def sub1 (c : Nat) (z : List Nat) (l : List Nat) : List Nat := l.flatMap fun d => if d = c then z else [d]
theorem sub1_app (c : Nat) (z a b : List Nat) : sub1 c z (a ++ b) = sub1 c z a ++ sub1 c z b := by unfold sub1; rw [List.flatMap_append]
theorem sub1_cons (c : Nat) (z : List Nat) (d : Nat) (l : List Nat) : sub1 c z (d :: l) = (if d = c then z else [d]) ++ sub1 c z l := by unfold sub1; rw [List.flatMap_cons]
theorem sub1_free {c : Nat} {z : List Nat} : ∀ {l : List Nat}, c ∉ l → sub1 c z l = l
  | [], _ => rfl
  | d :: l, h => by
    rw [sub1_cons, if_neg fun e => h (by rw [e]; exact List.mem_cons_self), sub1_free fun m => h (List.mem_cons_of_mem _ m)]; rfl
theorem join_sub1 (c : Nat) (z : Str) : ∀ (ps : List Str), (∀ p ∈ ps, c ∉ p.cps.toList) → sub1 c z.cps.toList ((⟨#[c]⟩ : Str).join ps).cps.toList = (z.join ps).cps.toList
  | [], _ => by rw [join_nil, join_nil]; rfl
  | [p], h => by rw [join_one, join_one]; exact sub1_free (h p List.mem_cons_self)
  | p :: q :: r, h => by
    rw [join_cons_cons, join_cons_cons, sapp, sapp, sapp, sapp, sub1_app, sub1_app, join_sub1 c z (q :: r) fun x hx => h x (List.mem_cons_of_mem _ hx), sub1_free (h p List.mem_cons_self)]
    congr 2
    show sub1 c z.cps.toList [c] = _
    rw [sub1_cons, if_pos rfl]; exact List.append_nil _
theorem rep1 (x z : Str) (c : Nat) : (Txt.replace x ⟨#[c]⟩ z).cps.toList = sub1 c z.cps.toList x.cps.toList := by
  rw [PySem.StrLaws.replace_one, ← join_sub1 c z _ fun p hp => PySem.StrLaws.split_free x c p hp, PySem.StrLaws.join_split]
def rep2 (a b : Nat) (z : List Nat) : List Nat → List Nat
  | x :: y :: t => if x = a ∧ y = b then z ++ rep2 a b z t else x :: rep2 a b z (y :: t)
  | l => l
theorem rep2_ne {a b x : Nat} {z t : List Nat} (h : x ≠ a) : rep2 a b z (x :: t) = x :: rep2 a b z t := by
  cases t with
  | nil => rfl
  | cons y t => rw [rep2, if_neg fun q => h q.1]
theorem rep2_ne2 {a b x y : Nat} {z t : List Nat} (h : y ≠ b) : rep2 a b z (x :: y :: t) = x :: rep2 a b z (y :: t) := by rw [rep2, if_neg fun q => h q.2]
theorem rep2_eq {a b : Nat} {z t : List Nat} : rep2 a b z (a :: b :: t) = z ++ rep2 a b z t := by rw [rep2, if_pos ⟨rfl, rfl⟩]
theorem at2 {x : Str} {a b i : Nat} : PySem.StrLaws.At x ⟨#[a, b]⟩ x.length i ↔ ∃ t, x.cps.toList.drop i = a :: b :: t := by
  unfold PySem.StrLaws.At
  rw [PySem.StrLaws.subAt_eq]
  have hl : x.length = x.cps.toList.length := Array.length_toList.symm
  show i + 2 ≤ _ ∧ (List.take 2 (List.drop i x.cps.toList) == [a, b]) = true ↔ _
  constructor
  · rintro ⟨h1, h2⟩
    have h2 : List.take 2 (List.drop i x.cps.toList) = [a, b] := eq_of_beq h2
    match e : List.drop i x.cps.toList, h2 with
    | p :: q :: t, h2 => cases h2; exact ⟨t, rfl⟩
    | [p], h2 => cases h2
    | [], h2 => cases h2
  · rintro ⟨t, h⟩
    have h3 : (List.drop i x.cps.toList).length = t.length + 2 := by rw [h]; rfl
    rw [List.length_drop] at h3
    refine ⟨by omega, ?_⟩
    rw [h]; simp
theorem rep2_skip {a b : Nat} {z : List Nat} (l : List Nat) : ∀ (n i : Nat), (∀ k, i ≤ k → k < i + n → ¬ ∃ t, l.drop k = a :: b :: t) → rep2 a b z (l.drop i) = (l.drop i).take n ++ rep2 a b z (l.drop (i + n))
  | 0, i, _ => rfl
  | n + 1, i, h => by
    have h0 := h i (Nat.le_refl _) (by omega)
    have ih := rep2_skip (z := z) l n (i + 1) fun k h1 h2 => h k (by omega) (by omega)
    rw [show i + (n + 1) = i + 1 + n by omega]
    cases e : l.drop i with
    | nil =>
      have e1 : l.drop (i + 1 + n) = [] := List.drop_eq_nil_of_le (by have := List.drop_eq_nil_iff.mp e; omega)
      rw [e1]; rfl
    | cons x t =>
      have e1 : l.drop (i + 1) = t := by rw [show l.drop (i + 1) = (l.drop i).drop 1 from (List.drop_drop ..).symm, e]; rfl
      rw [e1] at ih
      rw [List.take_succ_cons, List.cons_append, ← ih]
      cases t with
      | nil => rfl
      | cons y t =>
        rw [rep2, if_neg]
        rintro ⟨rfl, rfl⟩
        exact h0 ⟨t, e⟩
theorem rep2_none {a b : Nat} {z : List Nat} (l : List Nat) (i : Nat) (h : ∀ k, i ≤ k → ¬ ∃ t, l.drop k = a :: b :: t) : rep2 a b z (l.drop i) = l.drop i := by
  rw [rep2_skip l l.length i fun k h1 _ => h k h1, List.drop_eq_nil_of_le (show l.length ≤ i + l.length by omega), List.take_of_length_le (by rw [List.length_drop]; omega)]
  exact List.append_nil _
theorem ssub (x : Str) (i j : Nat) : (Builtin.Str.strSub x i j).cps.toList = (x.cps.toList.drop i).take (j - i) := PySem.StrLaws.strSub_toList x i j
theorem parts_rep2 {x z : Str} {a b : Nat} : ∀ (cuts : List Nat) (i f : Nat), PySem.StrLaws.ChainG x ⟨#[a, b]⟩ x.length i cuts f → (∀ k, f ≤ k → ¬ PySem.StrLaws.At x ⟨#[a, b]⟩ x.length k) → (z.join (PySem.StrLaws.partsFrom x 2 i cuts)).cps.toList = rep2 a b z.cps.toList (x.cps.toList.drop i)
  | [], i, f, hc, hf => by
    have hc : f = i := hc
    subst hc
    have hl : x.length = x.cps.toList.length := Array.length_toList.symm
    show (z.join [Builtin.Str.strSub x f x.length]).cps.toList = _
    rw [join_one, ssub, rep2_none _ _ fun k hk q => hf k hk (at2.mpr q), List.take_of_length_le (by rw [List.length_drop]; omega)]
  | c :: r, i, f, hc, hf => by
    obtain ⟨h1, h2, h3, h4⟩ := (show i ≤ c ∧ PySem.StrLaws.At x ⟨#[a, b]⟩ x.length c ∧ (∀ k, i ≤ k → k < c → ¬ PySem.StrLaws.At x ⟨#[a, b]⟩ x.length k) ∧ PySem.StrLaws.ChainG x ⟨#[a, b]⟩ x.length (c + 2) r f from hc)
    have ih := parts_rep2 (z := z) r (c + 2) f h4 hf
    obtain ⟨t, ht⟩ := at2.mp h2
    have e2 : x.cps.toList.drop (c + 2) = t := by rw [show x.cps.toList.drop (c + 2) = (x.cps.toList.drop c).drop 2 from (List.drop_drop ..).symm, ht]; rfl
    have e3 := rep2_skip (a := a) (b := b) (z := z.cps.toList) x.cps.toList (c - i) i fun k g1 g2 q => h3 k g1 (by omega) (at2.mpr q)
    rw [show i + (c - i) = c by omega, ht, rep2_eq, ← e2, ← ih] at e3
    rw [e3]
    show (z.join (Builtin.Str.strSub x i c :: PySem.StrLaws.partsFrom x 2 (c + 2) r)).cps.toList = _
    have hne : ∃ p q, PySem.StrLaws.partsFrom x 2 (c + 2) r = p :: q := by
      cases r with
      | nil => exact ⟨_, _, rfl⟩
      | cons d r => exact ⟨_, _, rfl⟩
    obtain ⟨p, q, hpq⟩ := hne
    rw [hpq, join_cons_cons, sapp, sapp, ssub, List.append_assoc]
theorem rep2_str (x z : Str) (a b : Nat) : (Txt.replace x ⟨#[a, b]⟩ z).cps.toList = rep2 a b z.cps.toList x.cps.toList := by
  obtain ⟨f, h1, h2⟩ := PySem.StrLaws.occ_tight x ⟨#[a, b]⟩ (by show 1 ≤ 2; decide)
  have h3 := parts_rep2 (z := z) _ 0 f h1 h2
  rw [List.drop_zero] at h3
  unfold Txt.replace
  by_cases h : ((Builtin.Str.occurrences x ⟨#[a, b]⟩ 0 x.length (x.length + 1)).isEmpty || (⟨#[a, b]⟩ : Str).length == 0 && z.length == 0) = true
  · rw [if_pos h]
    have h : (Builtin.Str.occurrences x ⟨#[a, b]⟩ 0 x.length (x.length + 1)).isEmpty = true := by
      rw [show ((⟨#[a, b]⟩ : Str).length == 0) = false from rfl, Bool.false_and, Bool.or_false] at h; exact h
    rw [List.isEmpty_iff.mp h] at h3
    rw [← h3]
    show _ = (z.join [Builtin.Str.strSub x 0 x.length]).cps.toList
    rw [join_one, ssub, List.drop_zero, List.take_of_length_le (by rw [Array.length_toList]; exact Nat.le_refl _)]
  · rw [if_neg h, PySem.StrLaws.glued_eq_join, PySem.StrLaws.partsBetween_eq]
    exact h3
def escS (v : Str) : Str := Txt.replace (Txt.replace v "=" "=e") " " "=b"
def unS (v : Str) : Str := Txt.replace (Txt.replace v "=b" " ") "=e" "="
theorem esc_list (v : Str) : (escS v).cps.toList = sub1 32 [61, 98] (sub1 61 [61, 101] v.cps.toList) := by
  unfold escS
  rw [show (" " : Str) = ⟨#[32]⟩ by decide +kernel, rep1, show ("=" : Str) = ⟨#[61]⟩ by decide +kernel, rep1]
  rw [show ("=b" : Str).cps.toList = [61, 98] by decide +kernel, show ("=e" : Str).cps.toList = [61, 101] by decide +kernel]
theorem un_list (v : Str) : (unS v).cps.toList = rep2 61 101 [61] (rep2 61 98 [32] v.cps.toList) := by
  unfold unS
  rw [show ("=e" : Str) = ⟨#[61, 101]⟩ by decide +kernel, rep2_str, show ("=b" : Str) = ⟨#[61, 98]⟩ by decide +kernel, rep2_str]
  rw [show ("=" : Str).cps.toList = [61] by decide +kernel, show (" " : Str).cps.toList = [32] by decide +kernel]
theorem un_esc1 : ∀ l : List Nat, rep2 61 98 [32] (sub1 32 [61, 98] (sub1 61 [61, 101] l)) = sub1 61 [61, 101] l
  | [] => rfl
  | c :: l => by
    have ih := un_esc1 l
    rw [sub1_cons 61]
    by_cases h : c = 61
    · subst h
      rw [if_pos rfl, sub1_app, show sub1 32 [61, 98] [61, 101] = [61, 101] from rfl]
      show rep2 61 98 [32] (61 :: 101 :: sub1 32 [61, 98] (sub1 61 [61, 101] l)) = _
      rw [rep2_ne2 (by decide), rep2_ne (by decide), ih]; rfl
    · rw [if_neg h, sub1_app]
      by_cases h2 : c = 32
      · subst h2
        show rep2 61 98 [32] (61 :: 98 :: sub1 32 [61, 98] (sub1 61 [61, 101] l)) = _
        rw [rep2_eq, ih]
      · rw [show sub1 32 [61, 98] [c] = [c] by rw [sub1_cons, if_neg h2]; rfl]
        show rep2 61 98 [32] (c :: sub1 32 [61, 98] (sub1 61 [61, 101] l)) = _
        rw [rep2_ne h, ih]; rfl
theorem un_esc2 : ∀ l : List Nat, rep2 61 101 [61] (sub1 61 [61, 101] l) = l
  | [] => rfl
  | c :: l => by
    have ih := un_esc2 l
    rw [sub1_cons]
    by_cases h : c = 61
    · subst h
      rw [if_pos rfl]
      show rep2 61 101 [61] (61 :: 101 :: sub1 61 [61, 101] l) = _
      rw [rep2_eq, ih]; rfl
    · rw [if_neg h]
      show rep2 61 101 [61] (c :: sub1 61 [61, 101] l) = _
      rw [rep2_ne h, ih]
end L2
namespace L2
open PySem PySem.Spec PyProof.Rows
def dgs (n : Nat) : List Nat := (Nat.toDigits 10 n).map Char.toNat
theorem dc_nat {d : Nat} (h : d < 10) : d.digitChar.toNat = 48 + d := by
  match d, h with
  | 0, _ => rfl
  | 1, _ => rfl
  | 2, _ => rfl
  | 3, _ => rfl
  | 4, _ => rfl
  | 5, _ => rfl
  | 6, _ => rfl
  | 7, _ => rfl
  | 8, _ => rfl
  | 9, _ => rfl
theorem dgs_small {n : Nat} (h : n < 10) : dgs n = [48 + n] := by unfold dgs; rw [Nat.toDigits_of_lt_base h]; show [n.digitChar.toNat] = _; rw [dc_nat h]
theorem dgs_big {n : Nat} (h : 10 ≤ n) : dgs n = dgs (n / 10) ++ [48 + n % 10] := by
  unfold dgs; rw [Nat.toDigits_of_base_le (by decide) h, List.map_append]
  show _ ++ [(n % 10).digitChar.toNat] = _
  rw [dc_nat (Nat.mod_lt _ (by decide))]
theorem dgs_ok : ∀ n : Nat, NumText.AllDigits (dgs n) ∧ dgs n ≠ [] ∧ NumText.digitsVal (dgs n) = n := by
  intro n
  induction n using Nat.strongRecOn with
  | ind n ih =>
    by_cases h : n < 10
    · rw [dgs_small h]
      refine ⟨fun c hc => ?_, nofun, ?_⟩
      · rw [List.mem_singleton.mp hc]; omega
      · show 0 * 10 + (48 + n - 48) = n; omega
    · obtain ⟨h1, h2, h3⟩ := ih (n / 10) (by omega)
      rw [dgs_big (by omega)]
      refine ⟨fun c hc => ?_, by simp, ?_⟩
      · rcases List.mem_append.mp hc with hc | hc
        · exact h1 c hc
        · rw [List.mem_singleton.mp hc]; omega
      · rw [NumText.digitsVal_snoc, h3]; omega
theorem dgs_len {n k : Nat} (hk : 1 ≤ k) (h : n < 10 ^ k) : (dgs n).length ≤ k := by
  unfold dgs; rw [List.length_map]; exact toDigits_len_pow (by decide) hk h
def numS (n : Int) : Str := Str.ofString (toString n)
theorem ofString_list (s : String) : (Str.ofString s).cps.toList = s.toList.map Char.toNat := by
  rw [Str.ofString_eq_toList]
  try simp
theorem num_nat (n : Nat) : (numS (n : Int)).cps.toList = dgs n := by
  unfold numS
  rw [ofString_list]
  show (Nat.repr n).toList.map Char.toNat = _
  rw [Nat.repr_eq_ofList_toDigits, String.toList_ofList]; rfl
theorem num_neg (n : Nat) : (numS (-((n + 1 : Nat) : Int))).cps.toList = 45 :: dgs (n + 1) := by
  unfold numS
  rw [ofString_list]
  show (("-" ++ Nat.repr (n + 1)).toList.map Char.toNat) = _
  rw [String.toList_append, List.map_append, Nat.repr_eq_ofList_toDigits]
  show 45 :: ((String.ofList (Nat.toDigits 10 (n + 1))).toList.map Char.toNat) = _
  rw [String.toList_ofList]; rfl
theorem num_int (n : Int) : (∃ m : Nat, n = m ∧ (numS n).cps.toList = dgs m) ∨ ∃ m : Nat, n = -((m + 1 : Nat) : Int) ∧ (numS n).cps.toList = 45 :: dgs (m + 1) := by
  cases n with
  | ofNat m => exact .inl ⟨m, rfl, num_nat m⟩
  | negSucc m => exact .inr ⟨m, rfl, num_neg m⟩
theorem size_list (z : Str) : z.cps.size = z.cps.toList.length := Array.length_toList.symm
theorem num_size {n : Int} (h : n.natAbs < 10 ^ 60) : (numS n).cps.size ≤ 61 := by
  rw [size_list]
  rcases num_int n with ⟨m, rfl, e⟩ | ⟨m, rfl, e⟩
  · rw [e]; have := dgs_len (k := 60) (by decide) (show m < 10 ^ 60 from h); omega
  · rw [e, List.length_cons]
    have := dgs_len (k := 60) (by decide) (show m + 1 < 10 ^ 60 from h)
    omega
theorem num_signs (n : Int) : ∀ c ∈ (numS n).cps.toList, c = 45 ∨ (48 ≤ c ∧ c ≤ 57) := by
  rcases num_int n with ⟨m, rfl, e⟩ | ⟨m, rfl, e⟩
  · rw [e]; exact fun c hc => .inr ((dgs_ok m).1 c hc)
  · rw [e]
    intro c hc
    rcases List.mem_cons.mp hc with h | h
    · exact .inl h
    · exact .inr ((dgs_ok (m + 1)).1 c h)
theorem log_of {n : Int} (h : n.natAbs < 10 ^ 60) : n.natAbs.log2 < 1920 := by
  by_cases h0 : n.natAbs = 0
  · rw [h0]; decide
  · rw [Nat.log2_lt h0]
    exact Nat.lt_of_lt_of_le h (by decide +kernel)
theorem sl1 {z : Str} (h : 1 ≤ z.cps.size) : (Txt.slice z (some 1) none).cps.toList = z.cps.toList.drop 1 := by
  rw [size_list] at h
  have := PySem.StrLaws.sliceText_from (x := z) (i := 1) ⟨by decide, by omega⟩
  have e : Txt.slice z (some 1) none = PySem.StrLaws.sliceText z (some 1) none := rfl
  rw [e, this]
  show List.take (((z.cps.toList.length : Nat) : Int) - 1).toNat (List.drop 1 z.cps.toList) = _
  rw [List.take_of_length_le (by rw [List.length_drop]; omega)]
theorem starts1 (z : Str) (c : Nat) : Txt.startswith z ⟨#[c]⟩ = decide (z.cps.toList.head? = some c) := by
  unfold Txt.startswith
  rw [PySem.StrLaws.subAt_eq]
  show (decide (0 + 1 ≤ z.cps.size) && (List.take 1 (List.drop 0 z.cps.toList) == [c])) = _
  rw [size_list, List.drop_zero]
  cases z.cps.toList with
  | nil => rfl
  | cons a l =>
    rw [List.take_succ_cons, List.take_zero, List.head?_cons]
    by_cases h : a = c <;> simp [h]
theorem free_app {c : Nat} : ∀ {a b r r' : List Nat}, c ∉ a → c ∉ b → a ++ c :: r = b ++ c :: r' → a = b ∧ r = r'
  | [], [], r, r', _, _, h => by cases h; exact ⟨rfl, rfl⟩
  | [], y :: b, r, r', _, hb, h => by cases h; exact absurd List.mem_cons_self hb
  | x :: a, [], r, r', ha, _, h => by cases h; exact absurd List.mem_cons_self ha
  | x :: a, y :: b, r, r', ha, hb, h => by
    injection h with h1 h2
    obtain ⟨e1, e2⟩ := free_app (fun m => ha (List.mem_cons_of_mem _ m)) (fun m => hb (List.mem_cons_of_mem _ m)) h2
    exact ⟨by rw [h1, e1], e2⟩
theorem free_no {c : Nat} : ∀ {a b r : List Nat}, c ∉ b → a ++ c :: r ≠ b
  | [], b, r, hb, h => hb (by rw [← h]; exact List.mem_cons_self)
  | x :: a, [], r, _, h => by cases h
  | x :: a, y :: b, r, hb, h => by
    injection h with _ h2
    exact free_no (fun m => hb (List.mem_cons_of_mem _ m)) h2
theorem join_inj {c : Nat} : ∀ {ps qs : List Str}, ps ≠ [] → qs ≠ [] → (∀ p ∈ ps, c ∉ p.cps.toList) → (∀ p ∈ qs, c ∉ p.cps.toList) → (⟨#[c]⟩ : Str).join ps = (⟨#[c]⟩ : Str).join qs → ps = qs
  | [], _, h, _, _, _, _ => absurd rfl h
  | _, [], _, h, _, _, _ => absurd rfl h
  | [p], [q], _, _, _, _, h => by rw [join_one, join_one] at h; rw [h]
  | [p], q :: q' :: r, _, _, hp, _, h => by
    rw [join_one, join_cons_cons] at h
    have h := congrArg (fun s : Str => s.cps.toList) h
    rw [sapp, sapp, List.append_assoc] at h
    exact absurd h.symm (free_no (hp p List.mem_cons_self))
  | p :: p' :: r, [q], _, _, _, hq, h => by
    rw [join_one, join_cons_cons] at h
    have h := congrArg (fun s : Str => s.cps.toList) h
    rw [sapp, sapp, List.append_assoc] at h
    exact absurd h (free_no (hq q List.mem_cons_self))
  | p :: p' :: r, q :: q' :: r', _, _, hp, hq, h => by
    rw [join_cons_cons, join_cons_cons] at h
    have h := congrArg (fun s : Str => s.cps.toList) h
    rw [sapp, sapp, sapp, sapp, List.append_assoc, List.append_assoc] at h
    obtain ⟨e1, e2⟩ := free_app (hp p List.mem_cons_self) (hq q List.mem_cons_self) h
    rw [sext e1, join_inj (c := c) (ps := p' :: r) (qs := q' :: r') nofun nofun (fun x hx => hp x (List.mem_cons_of_mem _ hx)) (fun x hx => hq x (List.mem_cons_of_mem _ hx)) (sext e2)]
end L2
namespace HT
open PySem PySem.Spec PyProof.Rows
section
variable {prog : Program} {w : World} {A : Around} {E : Value → Shared → Prop} {s : Shared}
end
end HT
namespace L2
open PySem PySem.Spec PyProof.Rows
section
variable {K : PySem.W.Frag} {X : Cx}
end
end L2
namespace L2
open PySem PySem.Spec PyProof.Rows
theorem canon : ∀ (n : Nat) (l : List Nat), l.length = n → NumText.AllDigits l → l ≠ [] → (dgs (NumText.digitsVal l) = l ↔ (l = [48] ∨ l.head? ≠ some 48)) := by
  intro n
  induction n with
  | zero => intro l hl _ h0; exact absurd (List.eq_nil_of_length_eq_zero hl) h0
  | succ n ih =>
    intro l hl hd h0
    obtain ⟨l', c, rfl⟩ : ∃ l' c, l = l' ++ [c] := ⟨l.dropLast, l.getLast h0, (List.dropLast_concat_getLast h0).symm⟩
    have hc := hd c (List.mem_append_right _ (List.mem_singleton.mpr rfl))
    have hd' : NumText.AllDigits l' := fun x hx => hd x (List.mem_append_left _ hx)
    rw [NumText.digitsVal_snoc]
    cases l' with
    | nil =>
      rw [show NumText.digitsVal [] * 10 + (c - 48) = c - 48 by show 0 * 10 + _ = _; omega, dgs_small (by omega), show 48 + (c - 48) = c by omega]
      refine ⟨fun _ => ?_, fun _ => rfl⟩
      by_cases h : c = 48
      · rw [h]; exact .inl rfl
      · exact .inr fun e => h (by injection e)
    | cons a r =>
      have hl' : (a :: r).length = n := by rw [List.length_append] at hl; exact Nat.succ.inj hl
      have ih := ih (a :: r) hl' hd' nofun
      have hne : (a :: r) ++ [c] ≠ [48] := fun e => by
        have := congrArg List.length e
        rw [List.length_append] at this
        exact absurd this (by simp)
      have hh : ((a :: r) ++ [c]).head? = some a := rfl
      have ha := hd a (List.mem_append_left _ List.mem_cons_self)
      by_cases hz : NumText.digitsVal (a :: r) = 0
      · rw [hz, show 0 * 10 + (c - 48) = c - 48 by omega, dgs_small (by omega)]
        rw [hz, dgs_small (by decide)] at ih
        constructor
        · intro e
          have := congrArg List.length e
          rw [List.length_append] at this
          exact absurd this (by simp)
        · rintro (e | e)
          · exact absurd e hne
          · rw [hh] at e
            have h2 := ih.mpr (.inr fun q => e q)
            injection h2 with h2 _
            exact absurd (by rw [← h2]) e
      · rw [dgs_big (by omega), show (NumText.digitsVal (a :: r) * 10 + (c - 48)) / 10 = NumText.digitsVal (a :: r) by omega, show 48 + (NumText.digitsVal (a :: r) * 10 + (c - 48)) % 10 = c by omega]
        constructor
        · intro e
          have e1 := List.append_cancel_right e
          rcases ih.mp e1 with h | h
          · rw [h] at hz; exact absurd rfl hz
          · exact .inr h
        · rintro (e | e)
          · exact absurd e hne
          · rw [ih.mpr (.inr e)]
def figL (l : List Nat) (most : Nat) : Bool := decide (1 ≤ l.length) && (decide (l.length ≤ most) && (l.all (fun c => decide (48 ≤ c) && decide (c ≤ 57)) && (decide (l = [48]) || !decide (l.head? = some 48))))
def digL (l : List Nat) (most : Nat) : Bool := decide (1 ≤ l.length) && (decide (l.length ≤ most) && l.all (fun c => decide (48 ≤ c) && decide (c ≤ 57)))
theorem figL_eq (l : List Nat) (most : Nat) : figL l most = (digL l most && (decide (l = [48]) || !decide (l.head? = some 48))) := by
  unfold figL digL
  rw [Bool.and_assoc, Bool.and_assoc]
theorem digL_ok {l : List Nat} {most : Nat} (h : digL l most = true) : 1 ≤ l.length ∧ l.length ≤ most ∧ NumText.AllDigits l ∧ l ≠ [] := by
  unfold digL at h
  simp only [Bool.and_eq_true, decide_eq_true_eq, List.all_eq_true] at h
  refine ⟨h.1, h.2.1, fun c hc => h.2.2 c hc, ?_⟩
  intro e
  rw [e] at h
  exact absurd h.1 (by decide)
theorem dgs_bound {l : List Nat} {most : Nat} (h : NumText.AllDigits l) (hl : l.length ≤ most) : NumText.digitsVal l < 10 ^ most := by
  refine Nat.lt_of_lt_of_le ?_ (Nat.pow_le_pow_right (by decide) hl)
  clear hl
  have : ∀ (n : Nat) (l : List Nat), l.length = n → NumText.AllDigits l → NumText.digitsVal l < 10 ^ l.length := by
    intro n
    induction n with
    | zero => intro l hl _; rw [List.eq_nil_of_length_eq_zero hl]; exact Nat.one_pos
    | succ n ih =>
      intro l hl hd
      have h0 : l ≠ [] := fun e => by rw [e] at hl; cases hl
      obtain ⟨l', c, rfl⟩ : ∃ l' c, l = l' ++ [c] := ⟨l.dropLast, l.getLast h0, (List.dropLast_concat_getLast h0).symm⟩
      have hc := hd c (List.mem_append_right _ (List.mem_singleton.mpr rfl))
      have := ih l' (by rw [List.length_append] at hl; exact Nat.succ.inj hl) fun x hx => hd x (List.mem_append_left _ hx)
      rw [NumText.digitsVal_snoc, List.length_append, show [c].length = 1 from rfl, Nat.pow_succ]
      omega
  exact this _ l rfl h
theorem fig_plus {z : Str} {most : Nat} (hm : most ≤ 60) (h : digL z.cps.toList most = true) : ∃ n : Int, intText? z = some n ∧ n.natAbs < 10 ^ 60 ∧ (decide (numS n = z) = (decide (z.cps.toList = [48]) || !decide (z.cps.toList.head? = some 48))) := by
  obtain ⟨h1, h2, h3, h4⟩ := digL_ok h
  refine ⟨(NumText.digitsVal z.cps.toList : Nat), intText_digits h3 h4 (by show z.cps.size ≤ 4300; rw [size_list]; omega), ?_, ?_⟩
  · exact Nat.lt_of_lt_of_le (dgs_bound h3 h2) (Nat.pow_le_pow_right (by decide) hm)
  · have hc := canon _ _ rfl h3 h4
    have hn : numS ((NumText.digitsVal z.cps.toList : Nat) : Int) = z ↔ dgs (NumText.digitsVal z.cps.toList) = z.cps.toList := by
      rw [← num_nat]
      exact ⟨fun e => by rw [e], fun e => sext e⟩
    rw [Bool.eq_iff_iff]
    simp only [decide_eq_true_eq, Bool.or_eq_true, Bool.not_eq_true', decide_eq_false_iff_not]
    rw [hn, hc]
theorem fig_minus {z : Str} {l : List Nat} {most : Nat} (e : z.cps.toList = 45 :: l) (hm : most ≤ 60) (h : digL l most = true) : ∃ n : Int, intText? z = some n ∧ n.natAbs < 10 ^ 60 ∧ (decide (numS n = z) = (!decide (l = [48]) && (decide (l = [48]) || !decide (l.head? = some 48)))) := by
  obtain ⟨h1, h2, h3, h4⟩ := digL_ok h
  have hsz : z.length ≤ 4300 := by show z.cps.size ≤ 4300; rw [size_list, e, List.length_cons]; omega
  have hb := Nat.lt_of_lt_of_le (dgs_bound h3 h2) (Nat.pow_le_pow_right (n := 10) (by decide) hm)
  have hc := canon _ _ rfl h3 h4
  refine ⟨-((NumText.digitsVal l : Nat) : Int), intText_neg e h3 h4 hsz, by omega, ?_⟩
  rw [Bool.eq_iff_iff]
  simp only [decide_eq_true_eq, Bool.or_eq_true, Bool.and_eq_true, Bool.not_eq_true', decide_eq_false_iff_not]
  rw [← hc]
  cases hv : NumText.digitsVal l with
  | zero =>
    constructor
    · intro q
      have q := congrArg (fun s : Str => s.cps.toList) q
      have q : (numS _).cps.toList = z.cps.toList := q
      rw [show -((0 : Nat) : Int) = ((0 : Nat) : Int) from rfl, num_nat, e, dgs_small (by decide)] at q
      injection q with q _
      exact absurd q (by decide)
    · rintro ⟨q1, q2⟩
      rw [dgs_small (by decide)] at q2
      exact absurd q2.symm q1
  | succ k =>
    constructor
    · intro q
      have q := congrArg (fun s : Str => s.cps.toList) q
      have q : (numS _).cps.toList = z.cps.toList := q
      rw [num_neg, e] at q
      injection q with _ q
      refine ⟨fun q1 => ?_, q⟩
      rw [q1] at hv
      cases hv
    · rintro ⟨_, q2⟩
      refine sext ?_
      rw [num_neg, e, q2]
end L2
namespace L2
open PySem PySem.Spec PyProof.Rows
def escL (l : List Nat) : List Nat := sub1 32 [61, 98] (sub1 61 [61, 101] l)
def unL (l : List Nat) : List Nat := rep2 61 101 [61] (rep2 61 98 [32] l)
theorem escL_cons (c : Nat) (l : List Nat) : escL (c :: l) = (if c = 61 then [61, 101] else if c = 32 then [61, 98] else [c]) ++ escL l := by
  unfold escL
  rw [sub1_cons 61, sub1_app]
  congr 1
  by_cases h : c = 61
  · rw [if_pos h, if_pos h]; rfl
  · rw [if_neg h, if_neg h, sub1_cons]
    by_cases h2 : c = 32
    · rw [if_pos h2]; rfl
    · rw [if_neg h2]; rfl
theorem unL_escL (l : List Nat) : unL (escL l) = l := by unfold unL escL; rw [un_esc1, un_esc2]
def dec : List Nat → Option (List Nat)
  | [] => some []
  | [c] => if c = 61 then none else if c = 32 then none else some [c]
  | c :: x :: r => if c = 61 then (if x = 98 then (dec r).map (32 :: ·) else if x = 101 then (dec r).map (61 :: ·) else none) else if c = 32 then none else (dec (x :: r)).map (c :: ·)
theorem dec_cons {c : Nat} (h1 : c ≠ 61) (h2 : c ≠ 32) (r : List Nat) : dec (c :: r) = (dec r).map (c :: ·) := by
  cases r with
  | nil => show (if c = 61 then none else if c = 32 then none else some [c]) = _; rw [if_neg h1, if_neg h2]; rfl
  | cons x r => show (if c = 61 then _ else if c = 32 then none else (dec (x :: r)).map (c :: ·)) = _; rw [if_neg h1, if_neg h2]
theorem dec_b (r : List Nat) : dec (61 :: 98 :: r) = (dec r).map (32 :: ·) := by show (if 61 = 61 then _ else _) = _; rw [if_pos rfl, if_pos rfl]
theorem dec_e (r : List Nat) : dec (61 :: 101 :: r) = (dec r).map (61 :: ·) := by show (if 61 = 61 then _ else _) = _; rw [if_pos rfl, if_neg (by decide), if_pos rfl]
theorem dec_no (x : Nat) (r : List Nat) (h1 : x ≠ 98) (h2 : x ≠ 101) : dec (61 :: x :: r) = none := by show (if 61 = 61 then _ else _) = _; rw [if_pos rfl, if_neg h1, if_neg h2]
theorem dec_32 (r : List Nat) : dec (32 :: r) = none := by
  cases r with
  | nil => rfl
  | cons x r => show (if 32 = 61 then _ else if 32 = 32 then none else _) = _; rw [if_neg (by decide), if_pos rfl]
theorem dec_esc : ∀ v : List Nat, dec (escL v) = some v
  | [] => rfl
  | c :: v => by
    have ih := dec_esc v
    rw [escL_cons]
    by_cases h : c = 61
    · rw [if_pos h, h]; show dec (61 :: 101 :: escL v) = _; rw [dec_e, ih]; rfl
    · rw [if_neg h]
      by_cases h2 : c = 32
      · rw [if_pos h2, h2]; show dec (61 :: 98 :: escL v) = _; rw [dec_b, ih]; rfl
      · rw [if_neg h2]; show dec (c :: escL v) = _; rw [dec_cons h h2, ih]; rfl
theorem esc_dec : ∀ (u v : List Nat), dec u = some v → u = escL v
  | [], v, h => by cases h; rfl
  | [c], v, h => by
    have h : (if c = 61 then none else if c = 32 then none else some [c]) = some v := h
    by_cases h1 : c = 61
    · rw [if_pos h1] at h; cases h
    · rw [if_neg h1] at h
      by_cases h2 : c = 32
      · rw [if_pos h2] at h; cases h
      · rw [if_neg h2] at h; cases h
        rw [escL_cons, if_neg h1, if_neg h2]; rfl
  | c :: x :: r, v, h => by
    by_cases h1 : c = 61
    · subst h1
      by_cases h2 : x = 98
      · subst h2
        rw [dec_b] at h
        cases e : dec r with
        | none => rw [e] at h; cases h
        | some v' =>
          rw [e] at h; cases h
          rw [escL_cons, if_neg (by decide), if_pos rfl, esc_dec r v' e]; rfl
      · by_cases h3 : x = 101
        · subst h3
          rw [dec_e] at h
          cases e : dec r with
          | none => rw [e] at h; cases h
          | some v' =>
            rw [e] at h; cases h
            rw [escL_cons, if_pos rfl, esc_dec r v' e]; rfl
        · rw [dec_no x r h2 h3] at h; cases h
    · by_cases h2 : c = 32
      · rw [h2, dec_32] at h; cases h
      · rw [dec_cons h1 h2] at h
        cases e : dec (x :: r) with
        | none => rw [e] at h; cases h
        | some v' =>
          rw [e] at h; cases h
          rw [escL_cons, if_neg h1, if_neg h2, ← esc_dec (x :: r) v' e]; rfl
theorem dec_iff (u : List Nat) : escL (unL u) = u ↔ dec u = some (unL u) :=
  ⟨fun h => by have := dec_esc (unL u); rw [h] at this; exact this, fun h => (esc_dec _ _ h).symm⟩
theorem dec_un {u v : List Nat} (h : dec u = some v) : unL u = v := by rw [esc_dec u v h, unL_escL]
def spL : List Nat → List (List Nat)
  | [] => [[]]
  | c :: r => if c = 61 then [] :: spL r else match spL r with
    | [] => [[c]]
    | p :: ps => (c :: p) :: ps
theorem spL_some : ∀ u : List Nat, ∃ p ps, spL u = p :: ps
  | [] => ⟨_, _, rfl⟩
  | c :: r => by
    obtain ⟨p, ps, e⟩ := spL_some r
    unfold spL
    by_cases h : c = 61
    · rw [if_pos h]; exact ⟨_, _, rfl⟩
    · rw [if_neg h, e]; exact ⟨_, _, rfl⟩
theorem spL_eq (r : List Nat) : spL (61 :: r) = [] :: spL r := by rw [spL, if_pos rfl]
theorem spL_ne {c : Nat} (h : c ≠ 61) {r p : List Nat} {ps : List (List Nat)} (e : spL r = p :: ps) : spL (c :: r) = (c :: p) :: ps := by rw [spL, if_neg h, e]
theorem spL_free : ∀ (u p : List Nat), p ∈ spL u → 61 ∉ p
  | [], p, h => by rw [List.mem_singleton.mp h]; exact nofun
  | c :: r, p, h => by
    obtain ⟨q, qs, e⟩ := spL_some r
    by_cases hc : c = 61
    · rw [hc, spL_eq] at h
      rcases List.mem_cons.mp h with h | h
      · rw [h]; exact nofun
      · exact spL_free r p h
    · rw [spL_ne hc e] at h
      rcases List.mem_cons.mp h with h | h
      · rw [h]
        intro m
        rcases List.mem_cons.mp m with m | m
        · exact hc m.symm
        · exact spL_free r q (by rw [e]; exact List.mem_cons_self) m
      · exact spL_free r p (by rw [e]; exact List.mem_cons_of_mem _ h)
def ofL (l : List Nat) : Str := ⟨l.toArray⟩
theorem ofL_list (l : List Nat) : (ofL l).cps.toList = l := rfl
theorem join_spL : ∀ u : List Nat, ((⟨#[61]⟩ : Str).join ((spL u).map ofL)).cps.toList = u
  | [] => rfl
  | c :: r => by
    have ih := join_spL r
    obtain ⟨q, qs, e⟩ := spL_some r
    rw [e] at ih
    by_cases hc : c = 61
    · rw [hc, spL_eq, e, List.map_cons, List.map_cons, join_cons_cons, sapp, sapp]
      rw [List.map_cons] at ih
      rw [ih]; rfl
    · rw [spL_ne hc e]
      cases qs with
      | nil =>
        rw [List.map_cons, List.map_nil, join_one] at ih ⊢
        rw [ofL_list] at ih ⊢
        rw [ih]
      | cons q' qs =>
        rw [List.map_cons, List.map_cons, join_cons_cons, sapp, sapp, ofL_list] at ih ⊢
        rw [← ih]; rfl
theorem split_eq (z : Str) : Txt.split z "=" = (spL z.cps.toList).map ofL := by
  have hb : ("=" : Str) = ⟨#[61]⟩ := by decide +kernel
  rw [hb]
  obtain ⟨q, qs, e⟩ := spL_some z.cps.toList
  refine join_inj (c := 61) ?_ (by rw [e]; exact nofun) (fun p hp => PySem.StrLaws.split_free _ 61 p hp) (fun p hp => ?_) ((PySem.StrLaws.join_split _ _).trans (sext (join_spL _)).symm)
  · intro e
    have := split_pos z ⟨#[61]⟩
    rw [e] at this
    exact absurd this (by decide)
  · obtain ⟨l, hl, rfl⟩ := List.mem_map.mp hp
    exact spL_free _ l hl
def hdB (p : List Nat) : Bool := decide (p.head? = some 98) || decide (p.head? = some 101)
def bareL (u : List Nat) : List Nat := (spL u).headD [] ++ (spL u).tail.flatMap (List.drop 1)
theorem dec_law : ∀ u : List Nat, ((∃ v, dec u = some v) ↔ ((spL u).tail.all hdB = true ∧ 32 ∉ bareL u)) ∧ ∀ v, dec u = some v → (bareL u).length + (spL u).tail.length = v.length ∧ (∀ c ∈ bareL u, c ∈ v) ∧ ∀ c ∈ v, c = 32 ∨ c = 61 ∨ c ∈ bareL u
  | [] => ⟨⟨fun _ => ⟨rfl, nofun⟩, fun _ => ⟨[], rfl⟩⟩, fun v h => by cases h; exact ⟨rfl, nofun, nofun⟩⟩
  | c :: r => by
    by_cases h1 : c = 61
    · subst h1
      match r with
      | [] =>
        refine ⟨⟨fun ⟨v, h⟩ => (by cases h), fun ⟨h, _⟩ => ?_⟩, fun v h => by cases h⟩
        exact absurd h (by decide)
      | x :: r =>
        obtain ⟨p, ps, e⟩ := spL_some r
        by_cases hx : x = 98 ∨ x = 101
        · have hx61 : x ≠ 61 := by rcases hx with rfl | rfl <;> decide
          have es : spL (61 :: x :: r) = [] :: (x :: p) :: ps := by rw [spL_eq, spL_ne hx61 e]
          have eb : bareL (61 :: x :: r) = bareL r := by
            unfold bareL; rw [es, e]; show [] ++ ((x :: p) :: ps).flatMap (List.drop 1) = _
            rw [List.nil_append, List.flatMap_cons]; rfl
          have et : (spL (61 :: x :: r)).tail.all hdB = (spL r).tail.all hdB := by
            rw [es, e]; show (((x :: p) :: ps).all hdB) = ps.all hdB
            rw [List.all_cons]
            have : hdB (x :: p) = true := by rcases hx with rfl | rfl <;> rfl
            rw [this, Bool.true_and]
          have el : (spL (61 :: x :: r)).tail.length = (spL r).tail.length + 1 := by rw [es, e]; rfl
          obtain ⟨i1, i2⟩ := dec_law r
          rw [eb, et, el, ← i1]
          obtain ⟨y, hy, ed⟩ : ∃ y, (y = 32 ∨ y = 61) ∧ dec (61 :: x :: r) = (dec r).map (y :: ·) := by
            rcases hx with rfl | rfl
            · exact ⟨32, .inl rfl, dec_b r⟩
            · exact ⟨61, .inr rfl, dec_e r⟩
          rw [ed]
          constructor
          · constructor
            · rintro ⟨v, h⟩
              cases q : dec r with
              | none => rw [q] at h; cases h
              | some v' => exact ⟨v', rfl⟩
            · rintro ⟨v, h⟩; rw [h]; exact ⟨_, rfl⟩
          · intro v h
            cases q : dec r with
            | none => rw [q] at h; cases h
            | some v' =>
              rw [q] at h; cases h
              obtain ⟨a, b, d⟩ := i2 v' q
              refine ⟨by rw [List.length_cons]; omega, fun c hc => List.mem_cons_of_mem _ (b c hc), fun c hc => ?_⟩
              rcases List.mem_cons.mp hc with hc | hc
              · rcases hy with hy | hy
                · exact .inl (hc.trans hy)
                · exact .inr (.inl (hc.trans hy))
              · exact d c hc
        · have hx1 : x ≠ 98 := fun h => hx (.inl h)
          have hx2 : x ≠ 101 := fun h => hx (.inr h)
          have hno : (spL (61 :: x :: r)).tail.all hdB = false := by
            rw [spL_eq]
            show (spL (x :: r)).all hdB = false
            by_cases h61 : x = 61
            · rw [h61, spL_eq, List.all_cons]; rfl
            · rw [spL_ne h61 e, List.all_cons]
              have : hdB (x :: p) = false := by
                unfold hdB; rw [List.head?_cons]
                rw [decide_eq_false (fun q => hx1 (by injection q)), decide_eq_false (fun q => hx2 (by injection q))]; rfl
              rw [this, Bool.false_and]
          rw [dec_no x r hx1 hx2, hno]
          exact ⟨⟨fun ⟨v, h⟩ => (by cases h), fun ⟨h, _⟩ => (by cases h)⟩, fun v h => by cases h⟩
    · obtain ⟨p, ps, e⟩ := spL_some r
      have es := spL_ne h1 e
      have eb : bareL (c :: r) = c :: bareL r := by unfold bareL; rw [es, e]; rfl
      have et : (spL (c :: r)).tail = (spL r).tail := by rw [es, e]; rfl
      obtain ⟨i1, i2⟩ := dec_law r
      rw [eb, et]
      by_cases h2 : c = 32
      · rw [h2, dec_32]
        exact ⟨⟨fun ⟨v, h⟩ => (by cases h), fun ⟨_, h⟩ => absurd List.mem_cons_self h⟩, fun v h => by cases h⟩
      · rw [dec_cons h1 h2]
        constructor
        · constructor
          · rintro ⟨v, h⟩
            cases q : dec r with
            | none => rw [q] at h; cases h
            | some v' =>
              obtain ⟨a, b⟩ := i1.mp ⟨v', q⟩
              refine ⟨a, fun m => ?_⟩
              rcases List.mem_cons.mp m with m | m
              · exact h2 m.symm
              · exact b m
          · rintro ⟨a, b⟩
            obtain ⟨v, h⟩ := i1.mpr ⟨a, fun m => b (List.mem_cons_of_mem _ m)⟩
            rw [h]; exact ⟨_, rfl⟩
        · intro v h
          cases q : dec r with
          | none => rw [q] at h; cases h
          | some v' =>
            rw [q] at h; cases h
            obtain ⟨a, b, d⟩ := i2 v' q
            refine ⟨by rw [List.length_cons, List.length_cons]; omega, fun x hx => ?_, fun x hx => ?_⟩
            · rcases List.mem_cons.mp hx with hx | hx
              · rw [hx]; exact List.mem_cons_self
              · exact List.mem_cons_of_mem _ (b x hx)
            · rcases List.mem_cons.mp hx with hx | hx
              · exact .inr (.inr (by rw [hx]; exact List.mem_cons_self))
              · rcases d x hx with h | h | h
                · exact .inl h
                · exact .inr (.inl h)
                · exact .inr (.inr (List.mem_cons_of_mem _ h))
def wrdL (u : List Nat) : Bool := decide (escL (unL u) = u) && (decide ((unL u).length ≤ 40) && (unL u).all fun c => decide (32 ≤ c) && decide (c ≤ 126))
def lawL (u : List Nat) : Bool := (spL u).tail.all hdB && (decide ((bareL u).length + (spL u).tail.length ≤ 40) && (bareL u).all fun c => decide (33 ≤ c) && decide (c ≤ 126))
theorem wrd_law (u : List Nat) : wrdL u = lawL u := by
  obtain ⟨h1, h2⟩ := dec_law u
  unfold wrdL lawL
  rw [Bool.eq_iff_iff]
  simp only [Bool.and_eq_true, decide_eq_true_eq, List.all_eq_true, dec_iff]
  constructor
  · rintro ⟨a, b, c⟩
    obtain ⟨k1, k2, k3⟩ := h2 _ a
    obtain ⟨j1, j2⟩ := h1.mp ⟨_, a⟩
    refine ⟨List.all_eq_true.mp j1, by omega, fun x hx => ?_⟩
    have := c x (k2 x hx)
    have : x ≠ 32 := fun e => j2 (by rw [← e]; exact hx)
    omega
  · rintro ⟨a, b, c⟩
    obtain ⟨v, hv⟩ := h1.mpr ⟨List.all_eq_true.mpr a, fun m => by have := c 32 m; omega⟩
    have e := dec_un hv
    obtain ⟨k1, k2, k3⟩ := h2 _ hv
    rw [e]
    refine ⟨hv, by omega, fun x hx => ?_⟩
    rcases k3 x hx with h | h | h
    · omega
    · omega
    · have := c x h; omega
end L2
namespace L2
open PySem PySem.Spec PyProof.Rows
theorem slice_to (z : Str) (k : Nat) : (Txt.slice z none (some (k : Int))).cps.toList = z.cps.toList.take k := by
  have e0 : ∀ o, Txt.slice z none o = PySem.StrLaws.sliceText z none o := fun _ => rfl
  by_cases h : k ≤ z.cps.toList.length
  · rw [e0, PySem.StrLaws.sliceText_to ⟨by omega, by omega⟩, List.drop_zero]
    show List.take (((k : Nat) : Int) - 0).toNat z.cps.toList = _
    congr 1
  · have e : Txt.slice z none (some (k : Int)) = Txt.slice z none (some (z.cps.toList.length : Int)) := by
      unfold Txt.slice
      have hl : z.length = z.cps.toList.length := by show z.cps.size = _; exact size_list z
      have ei : Builtin.Str.strSliceIndices none (some (k : Int)) 1 z.length = Builtin.Str.strSliceIndices none (some (z.cps.toList.length : Int)) 1 z.length := by
        rw [hl]
        unfold Builtin.Str.strSliceIndices
        have a1 : ¬ ((k : Int) < 0) := by omega
        have a2 : ¬ (((z.cps.toList.length : Nat) : Int) < 0) := by omega
        simp only [if_neg a1, if_neg a2]
        have m1 : min (k : Int) ((z.cps.toList.length : Nat) : Int) = min ((z.cps.toList.length : Nat) : Int) ((z.cps.toList.length : Nat) : Int) := by omega
        rw [m1]
        rfl
      rw [ei]
    rw [e, e0, PySem.StrLaws.sliceText_to ⟨by omega, by omega⟩, List.drop_zero]
    show List.take (((z.cps.toList.length : Nat) : Int) - 0).toNat z.cps.toList = _
    rw [List.take_of_length_le (by omega), List.take_of_length_le (by omega)]
theorem slice_from (z : Str) (k : Nat) : (Txt.slice z (some (k : Int)) none).cps.toList = z.cps.toList.drop k := by
  have e0 : ∀ o, Txt.slice z o none = PySem.StrLaws.sliceText z o none := fun _ => rfl
  by_cases h : k ≤ z.cps.toList.length
  · rw [e0, PySem.StrLaws.sliceText_from ⟨by omega, by omega⟩]
    show List.take (((z.cps.toList.length : Nat) : Int) - ((k : Nat) : Int)).toNat (List.drop ((k : Nat) : Int).toNat z.cps.toList) = _
    rw [Int.toNat_natCast, List.take_of_length_le (by rw [List.length_drop]; omega)]
  · have e : Txt.slice z (some (k : Int)) none = Txt.slice z (some (z.cps.toList.length : Int)) none := by
      unfold Txt.slice
      have hl : z.length = z.cps.toList.length := by show z.cps.size = _; exact size_list z
      have ei : Builtin.Str.strSliceIndices (some (k : Int)) none 1 z.length = Builtin.Str.strSliceIndices (some (z.cps.toList.length : Int)) none 1 z.length := by
        rw [hl]
        unfold Builtin.Str.strSliceIndices
        have a1 : ¬ ((k : Int) < 0) := by omega
        have a2 : ¬ (((z.cps.toList.length : Nat) : Int) < 0) := by omega
        simp only [if_neg a1, if_neg a2]
        have m1 : min (k : Int) ((z.cps.toList.length : Nat) : Int) = min ((z.cps.toList.length : Nat) : Int) ((z.cps.toList.length : Nat) : Int) := by omega
        rw [m1]
        rfl
      rw [ei]
    rw [e, e0, PySem.StrLaws.sliceText_from ⟨by omega, by omega⟩]
    show List.take (((z.cps.toList.length : Nat) : Int) - ((z.cps.toList.length : Nat) : Int)).toNat (List.drop ((z.cps.toList.length : Nat) : Int).toNat z.cps.toList) = _
    rw [Int.toNat_natCast, List.drop_length, List.take_nil, List.drop_eq_nil_of_le (by omega)]
end L2
namespace L2
open PySem PySem.Spec PyProof.Rows
theorem leaving_any {M : Model} {A : Around} {E : Value → Shared → Prop} {s : Shared} {base : Heap} {env : Env} {outer : List Env} {L e : Addr} {cls a0 fl : Value} {Q : Unit → Shared → Prop}
    (hfr : A.frames = some (env :: outer)) (hf : env.frame = some L) (hkb : base.StaysIn s.heap) (hen : base.get? e = none) (hl : s.heap.FunFrames base (env :: outer)) (ht : s.heap.TracedAtW base e cls a0 fl)
    (hQ : ∀ h', Heap.FlyingW base outer e cls a0 h' → s.heap.UpToSlots h' → Q () { s with heap := h' }) : wpAny M A (leaving env (.ref e)) Q E s := by
  by_cases hfl : fl = rawInt L
  · subst hfl
    unfold leaving
    refine wpAny_bind (wpAny_noteFrame_againW hf ht ?_)
    exact wpAny_landsW (l := env :: outer) (L := L) ⟨hkb, hen, hl, ht⟩ fun h' ⟨k1, k2, ⟨_, _, k3⟩, k4⟩ hup => hQ h' ⟨k1, k2, k3, k4⟩ hup
  · obtain ⟨oe, vs, T, oT, ts, he, ⟨hcls, h0⟩, hd, h1, hnT, hTe, hT, hdT, h3⟩ := ht
    subst hcls
    unfold leaving noteFrame
    simp only [hf]
    refine wpAny_bind (wpAny_bind (wpAny_field he hd h1 ?_))
    rw [if_pos (show (Value.ref T != Value.none) = true from by simp)]
    refine wpAny_bind (wpAny_field hT hdT h3 ?_)
    rw [if_neg (show ¬ ((fl == rawInt L) = true) from by simpa using hfl)]
    refine wpAny_bind (wpAny_setField hT hdT (Array.getElem?_eq_some_iff.mp h3).1 ?_)
    have other : ∀ b, b ≠ T → (s.heap.update T (Obj.mapFields (·.setIfInBounds 3 Value.none))).get? b = s.heap.get? b := fun b hb => Heap.get?_update_other _ _ (Ne.symm hb)
    have noRecord : ∀ b o, s.heap.get? b = some o → (∀ vs, o.data ≠ .fields vs) → b ≠ T := fun b o hb hnf q => by
      rw [q, hT] at hb; injection hb with hb; subst hb; exact hnf ts hdT
    refine wpAny_newEntryW hfr (hl.of_keeps fun b o hb hnf => ⟨o, (other b (noRecord b o hb hnf)).trans hb, rfl⟩) hf ((other e (Ne.symm hTe)).trans he)
      (fun b o hbo => (other b fun q => by rw [q, hnT] at hbo; cases hbo).trans (hkb b o hbo)) hen hd (Array.getElem?_eq_some_iff.mp h1).1 h0
      fun h' ⟨x1, ⟨_, _, x2⟩, x3, x4⟩ => hQ h' ⟨x1, hen, x2, x3⟩ fun b o hb hnf => x4 b o ((other b (noRecord b o hb hnf)).trans hb) hnf
theorem FunFrames_base {h base base' : Heap} (k : ∀ b, base.get? b = none → base'.get? b = none) : ∀ {l : List Env}, h.FunFrames base l → h.FunFrames base' l
  | [], _ => trivial
  | _ :: _, ⟨a, ⟨L, o, b, c, d⟩, r⟩ => ⟨a, ⟨L, o, b, k L c, d⟩, FunFrames_base k r⟩
theorem FunFrames_on {h h' base : Heap} : ∀ {l : List Env}, (∀ b ∈ frs l, ∀ o, h.get? b = some o → (∀ vs, o.data ≠ .fields vs) → ∃ o', h'.get? b = some o' ∧ o'.data = o.data) → h.FunFrames base l → h'.FunFrames base l
  | [], _, _ => trivial
  | env :: l, k, ⟨a, ⟨L, o, b, c, d, e⟩, r⟩ => by
    obtain ⟨o', d', e'⟩ := k L (List.mem_filterMap.mpr ⟨env, List.mem_cons_self, b⟩) o d e
    refine ⟨a, ⟨L, o', b, c, d', fun vs => by rw [e']; exact e vs⟩, FunFrames_on (fun x hx => k x ?_) r⟩
    obtain ⟨y, hy, hb⟩ := List.mem_filterMap.mp hx
    exact List.mem_filterMap.mpr ⟨y, List.mem_cons_of_mem _ hy, hb⟩
theorem held_out {X : Cx} {pins pn p2 : List (Addr × Obj)} {σ τ : St} {H₂ H : Hp} {s₂ s s' : Shared} {E : XK} {C : Addr} {fp : List Addr} {N : List Str} {scope : Scope} {x : Value} {Q' : Value → Shared → Prop} {acc : Value}
    (L : Leaves X E) (I₂ : Inv X pins σ H₂ s₂) (hfp : ∀ b ∈ fp, X.s₀.heap.objs.size ≤ b) (hC : X.s₀.heap.objs.size ≤ C) (I : Inv (cxC X N scope C s₂ H₂ fp pn) p2 τ H s)
    (hCs : C ∉ frs X.stack) (h : CXR X.prog X.w X.stack H s E x s') :
    notedBy (model X.prog X.w) X.A (compEnvC scope (clOf X.env.cells scope.names) C X.env) (fun e s'' => compPost (model X.prog X.w) X.A X.xe none Q' acc C (.error e) s'') x s' := by
  obtain ⟨a, cls, a0, B, H', rfl, os, bare, F, q⟩ := h
  have hfr : X.A.frames = some (X.env :: X.outer) := by rw [I₂.ok.frames, L.st]
  have fl : Heap.FlyingW B (X.env :: X.outer) a cls a0 s'.heap := by rw [← L.st]; exact F.fl
  have un : Un (frs X.stack) fp H₂ H s₂.heap s.heap := I.base
  obtain ⟨m, ⟨oC, es, ep, hoC, hdC, rC⟩, _⟩ := I.loc
  have hoC : s.heap.get? C = some oC := hoC
  have hHC : H C = none := I.free
  have hBC : B.get? C = some oC := F.keep C oC hoC hHC hCs
  have hH'C : H' C = none := F.free C oC hoC hHC
  show wpAny _ X.A (noteFrame (.ref a) X.env) _ _ s'
  refine wpAny_looks_onW hfr L.fr fl fun h2 ⟨k1, k2, k3, k4⟩ up => ?_
  refine ⟨m, ⟨oC, es, ep, k1 C oC hBC, hdC, rC⟩, fun h3 sb cenv hcl => ?_⟩
  have ltC : ∀ b o, X.s₀.heap.get? b = some o → b ≠ C := fun b o e z => absurd (Nat.lt_of_lt_of_le (Heap.lt_size e) (z ▸ hC)) (Nat.lt_irrefl _)
  have nfp : ∀ b o, X.s₀.heap.get? b = some o → b ∉ fp := fun b o e z => absurd (Nat.lt_of_lt_of_le (Heap.lt_size e) (hfp b z)) (Nat.lt_irrefl _)
  obtain ⟨oe, vs, T, oT, ts, he, ⟨hcls, h0⟩, hd, h1, hnT, hTe, hT, hdT, h3'⟩ := k4
  have haC : a ≠ C := fun z => by rw [z, hBC] at k2; cases k2
  have hTC : T ≠ C := fun z => by rw [z, hBC] at hnT; cases hnT
  have he3 : h3.get? a = some oe := (sb.2 a haC).trans he
  have hT3 : h3.get? T = some oT := (sb.2 T hTC).trans hT
  have hsz3 : 3 < ts.size := (Array.getElem?_eq_some_iff.mp h3').1
  unfold PySem.passOn
  refine wpAny_bind (wpAny_field he3 hd h1 ?_)
  rw [if_neg (show ¬ ((Value.ref T == Value.none) = true) from by simp)]
  show wpAny _ X.A (setFlight (.ref a) cenv.frame >>= fun _ => throw (Value.ref a)) _ _ _
  unfold setFlight
  refine wpAny_bind (wpAny_bind (wpAny_field he3 hd h1 ?_))
  rw [if_pos (show (Value.ref T != Value.none) = true from by simp)]
  refine wpAny_setField hT3 hdT hsz3 (wpAny_throw (L.xe _ _ ?_))
  generalize hfv : cenv.frame.elim Value.none (fun f => rawInt f) = fv
  have other : ∀ b, b ≠ T → (h3.update T (Obj.mapFields (·.setIfInBounds 3 fv))).get? b = h3.get? b := fun b hb => Heap.get?_update_other _ _ (Ne.symm hb)
  have hT4 := Heap.get?_update_self (Obj.mapFields (·.setIfInBounds 3 fv)) hT3 (Obj.isFreed_of_fields (Obj.data_mapFields hdT _))
  have noT : ∀ b o, B.get? b = some o → b ≠ T := fun b o e z => by rw [z, hnT] at e; cases e
  -- the base, without the block's names
  have hB' : ∀ b o, (PySem.W.hideAll B [C]).get? b = some o → b ≠ C ∧ B.get? b = some o := fun b o e => ⟨fun z => (by rw [z, PySem.W.hideAll_none [C] (List.mem_singleton.mpr rfl)] at e; cases e), PySem.W.of_hideAll _ e⟩
  have toB' : ∀ b o, B.get? b = some o → b ≠ C → (PySem.W.hideAll B [C]).get? b = some o := fun b o e n => PySem.W.hideAll_get _ e fun z => n (List.mem_singleton.mp z)
  have noB' : ∀ b, B.get? b = none → (PySem.W.hideAll B [C]).get? b = none := fun b e => by
    cases z : (PySem.W.hideAll B [C]).get? b with
    | none => rfl
    | some o => rw [(hB' b o z).2] at e; cases e
  have frN : ∀ b o, h2.get? b = some o → (∀ vs, o.data ≠ .fields vs) → b ≠ T := fun b o hb hnf z => by
    rw [z, hT] at hb; injection hb with hb; subst hb; exact hnf ts hdT
  have frC : C ∉ frs (X.env :: X.outer) := by rw [← L.st]; exact hCs
  refine leaving_any (base := PySem.W.hideAll B [C]) (cls := cls) (a0 := a0) (fl := fv) hfr L.fr (fun b o e => ?_) (noB' a k2) ?_ ?_ fun h5 f5 u5 => ?_
  · obtain ⟨n1, e1⟩ := hB' b o e
    exact (other b (noT b o e1)).trans ((sb.2 b n1).trans (k1 b o e1))
  · refine FunFrames_base noB' (FunFrames_on (fun b hb o e hnf => ⟨o, ?_, rfl⟩) k3)
    exact (other b (frN b o e hnf)).trans ((sb.2 b fun z => frC (z ▸ hb)).trans e)
  · exact ⟨oe, vs, T, _, _, (other a (Ne.symm hTe)).trans he3, ⟨hcls, h0⟩, hd, h1, noB' T hnT, hTe, hT4, Obj.data_mapFields hdT _, by simp [hsz3]⟩
  · refine ⟨a, cls, a0, _, H', rfl, (os.trans I.os).trans I₂.os, bare, ⟨f5, ?_, ?_, ?_, ?_, ?_, ?_, ?_, ?_⟩, q⟩
    · exact fun b o e => (F.hok b o e).stay (fun c u hc z => toB' c u z fun n => by
        subst n
        rcases hc with rfl | hc
        · rw [hH'C] at e; cases e
        · rw [hH'C] at hc; cases hc) (fun _ z => z) fun _ _ z => z
    · intro b o e n hf
      have e1 := I₂.base.keep b o e n hf (by rw [L.ex]; simp)
      have n1 := I₂.base.free b o e n (by rw [L.ex]; simp)
      have hs := L.nofr I₂ e hf
      have e2 := un.keep b o e1 n1 hs (nfp b o e)
      have n2 := un.free b o e1 n1 (nfp b o e)
      exact toB' b o (F.keep b o e2 n2 hs) (ltC b o e)
    · intro b o e hf
      obtain ⟨o1, e1⟩ := I₂.base.there b o e (by rw [L.ex]; simp)
      obtain ⟨o2, e2⟩ := un.there b o1 e1 (nfp b o e)
      obtain ⟨o3, e3⟩ := F.there b o2 e2 (L.nofr I₂ e hf)
      exact ⟨o3, toB' b o3 e3 (ltC b o e)⟩
    · intro b o e hf
      have hst : b ∈ frs X.stack := L.mem.mpr (.inr hf)
      obtain ⟨sl1, e1⟩ := I₂.base.slot b o e (I₂.ok.frf b hf) hf (by rw [L.ex]; simp)
      have n1 := I₂.base.free b o e (I₂.ok.frf b hf) (by rw [L.ex]; simp)
      obtain ⟨sl2, e2⟩ := un.slot b _ e1 n1 hst (nfp b o e)
      obtain ⟨sl3, e3⟩ := F.slot b _ e2 hst
      obtain ⟨_, o3, e3', hd3⟩ := F.fl.2.2.1.mem hst
      rw [e3] at e3'; cases e3'
      obtain ⟨sl4, e4⟩ := up b _ e3 hd3
      have e5 := (other b (frN b _ e4 hd3)).trans ((sb.2 b (ltC b o e)).trans e4)
      obtain ⟨sl5, e6⟩ := u5 b _ e5 hd3
      exact ⟨sl5, e6⟩
    · intro b o e n
      obtain ⟨o1, e1⟩ := I₂.base.there b o e (by rw [L.ex]; simp)
      have n1 := I₂.base.free b o e n (by rw [L.ex]; simp)
      obtain ⟨o2, e2⟩ := un.there b o1 e1 (nfp b o e)
      exact F.free b o2 e2 (un.free b o1 e1 n1 (nfp b o e))
    · exact fun b xs e => F.tups b xs (un.tups b xs (I₂.base.tups b xs e))
    · exact fun b o u e => F.frzs b o u (un.frzs b o u (I₂.base.frzs b o u e))
    · intro b ps e
      obtain ⟨m1, q1⟩ := I₂.base.tbls b ps e
      obtain ⟨m2, q2⟩ := un.tbls b _ q1
      obtain ⟨m3, q3⟩ := F.tbls b _ q2
      exact ⟨m1 ++ (m2 ++ m3), by rw [q3, Array.append_assoc, Array.append_assoc]⟩
end L2
namespace L2
open PySem PySem.Spec PyProof.Rows
theorem thnF {α : Type} {t : Sem α} {Q Q' : α → Shared → Prop} {M : Model} {A : Around} {E : Value → Shared → Prop} {s : Shared} (h : wpAny M A t Q (fun _ _ => False) s) (hQ : ∀ a s, Q a s → Q' a s) : wpAny M A t Q' E s := wpAny_mono h hQ fun _ _ x => x.elim
def EEx (X : Cx) (N : List Str) (scope : Scope) (EX : XK) (C : Addr) (s : Shared) (H : Hp) (ex : List Addr) (pn : List (Addr × Obj)) : Value → Shared → Prop := fun x s' => ∃ p2 τ H1 s1, Inv (cxC X N scope C s H ex pn) p2 τ H1 s1 ∧ CXR X.prog X.w X.stack H1 s1 EX x s'
section
variable {X : Cx} {N : List Str} {src : List (Option Nat)} {scope : Scope} {tg iter elt : Expr} {ifs : List Expr} {pos : Pos} {wi : TI} {g : TG} {tc : TT} {te : TE}
theorem comp_coreX {pins : List (Addr × Obj)} {s₂ : Shared} {σ : St} {H₂ : Hp} {Q : VK} {it : Addr} {fp : List Addr} {tn : Nat → Heap → Prop} {J : It} {E : Value → Shared → Prop} {EX : XK} (S : CompScope X N src scope) (hc : X.calm = true)
    (hg : ∀ C s H ex pn, PG (cxC X N scope C s H ex pn) tg g) (hx : GExt g src) (hi : ∀ C s H ex pn, PIf (cxC X N scope C s H ex pn) ifs tc) (he : ∀ C s H ex pn, PE ((cxC X N scope C s H ex pn).wish (EEx X N scope EX C s H ex pn)) elt te)
    (I : Inv X pins σ H₂ s₂) (T : Turn X.prog X.w X.K tg J fp it tn) (st : tn 0 s₂.heap) (ff : ∀ b ∈ fp, FpOk X pins H₂ b)
    (W : Nat → Nat → List V → Hp → Prop) (w0 : ∃ m, W 0 m [] H₂)
    (turn : ∀ i m out H', W i m out H' → (J.stop i H' ∧ ∀ D, H' D = none → Q (.ref D) (upd H' D (.lst out))) ∨
      (J.go i H' ∧ out.length < sizeLine ∧ ∀ x H2, J.yld i H' x H2 → g x (pick σ src) H2 fun σ3 H3 => tc σ3 H3 fun b H4 =>
        if b = true then te σ3 H4 fun v H5 => ∃ m', m' < m ∧ W (i + 1) m' (out ++ [v]) H5 else ∃ m', m' < m ∧ W (i + 1) m' out H4))
    {RR : Value → Addr → Result → Shared → Prop} (hRR : ∀ D C s', CompEnd X pins σ Q D C s' → RR (.ref D) C (.ok .next) s')
    (hRX : ∀ D C, X.s₀.heap.objs.size ≤ C → C ∉ frs X.stack → ∀ x s' p2 τ H s, Inv (cxC X N scope C s₂ H₂ fp (X.pn ++ pins)) p2 τ H s → CXR X.prog X.w X.stack H s EX x s' → notedBy (model X.prog X.w) X.A (compEnvC scope (clOf X.env.cells scope.names) C X.env) (fun e s'' => RR (.ref D) C (.error e) s'') x s') :
    wpAny (model X.prog X.w) X.A (newList []) (fun acc s₃ => wpAny (model X.prog X.w) X.A (newFunctionEnv scope X.env.globals (clOf X.env.cells scope.names) [] X.env.qual none .none (some X.env)) (fun cenv s₄ =>
      codeAny (model X.prog X.w) X.A (.compStart (.ListComp elt [⟨tg, iter, ifs, 0⟩] scope pos) 0 (.ref it) acc { cenv with scope := relabel scope X.env }) (RR acc cenv.locals) s₄) E s₃) E s₂ := by
  refine wpAny_newObj_type (wpAny_newFunctionEnv S.nocell (by intro y hy; simp at hy) (fun h₁ hns₁ hsb₁ => ?_) S.kind)
  dsimp only at hns₁ hsb₁ ⊢
  generalize hH2 : s₂.heap.push { cls := .type "list", dict := none, data := .seq ([] : List Value).toArray } = G2 at hns₁ hsb₁ ⊢
  have hC : G2.objs.size = s₂.heap.objs.size + 1 := by rw [← hH2, Heap.size_push]
  have hDC : s₂.heap.objs.size ≠ G2.objs.size := by rw [hC]; exact Nat.ne_of_lt (Nat.lt_succ_self _)
  have hCle : s₂.heap.objs.size ≤ G2.objs.size := by rw [hC]; exact Nat.le_succ _
  have old : ∀ b o, s₂.heap.get? b = some o → h₁.get? b = some o := fun b o e =>
    hsb₁.extBut b o (Nat.ne_of_lt (Nat.lt_of_lt_of_le (Heap.lt_size e) hCle)) (Heap.get?_push_of_some _ (hH2 ▸ Heap.get?_push_of_some _ e))
  have hacc : h₁.get? s₂.heap.objs.size = some { cls := .type "list", dict := none, data := .seq ([] : List Value).toArray } := hsb₁.extBut _ _ hDC (Heap.get?_push_of_some _ (hH2 ▸ Heap.get?_push_size _ rfl))
  generalize hCC : G2.objs.size = C at hC hDC hCle hns₁ hsb₁ ⊢
  have hCle' : s₂.heap.objs.size ≤ C := hCle
  generalize hD : s₂.heap.objs.size = D at hC hDC hCle hacc ⊢
  have clsub : ∀ x c, (clOf X.env.cells scope.names).lookup x = some c → X.env.cells.lookup x = some c := clOf_sub X.env.cells scope.names [] (by intro x c h; simp at h)
  have cellLt : ∀ x c, X.env.cells.lookup x = some c → c < s₂.heap.objs.size := fun x c e => by obtain ⟨v, q⟩ := I.cell x c e; exact q.lt
  have ffne : ∀ b ∈ fp, b < s₂.heap.objs.size := fun b hb => by
    obtain ⟨o, e, _⟩ := T.obj _ _ st b hb
    exact Heap.lt_size e
  -- the block's context
  have ok : (cxC X N scope C s₂ H₂ fp (X.pn ++ pins)).Ok := by
    refine ⟨I.ok.mod, S.kind, I.ok.glob, I.ok.blt, hCle', fun x y c h1 h2 => I.ok.inj x y c (clsub _ _ h1) (clsub _ _ h2), fun x hk => ?_, fun x c h => (nomatch h), I.ok.hd, I.ok.frames, .inl rfl, fun b hb => ⟨?_, fun x c h => ?_⟩,
      I.bs, Nat.le_trans I.ok.bsz I.sz, fun b o e hb => ?_, fun b hb hf => ?_, I.stack, I.stkFree⟩
    · -- cells for the names
      have hk : (relabel scope X.env).names.lookup x = some .cell ∨ (relabel scope X.env).names.lookup x = some .free := hk
      unfold relabel at hk
      dsimp only at hk
      rw [lookup_relabel] at hk
      cases hl : scope.names.lookup x with
      | none => rw [hl] at hk; rcases hk with z | z <;> cases z
      | some k =>
        rw [hl] at hk
        have hm := PySem.mem_of_lookup hl
        have hkf : k = .free := by
          by_cases hkf : k = .free
          · exact hkf
          · exfalso
            have e1 : (k == NameKind.free) = false := by simpa using hkf
            simp only [Option.map, e1, Bool.false_and, Bool.false_eq_true, if_false] at hk
            rcases hk with z | z
            · exact S.nocell _ hm (Option.some.inj z)
            · exact hkf (Option.some.inj z)
        subst hkf
        obtain ⟨c, hcx⟩ := I.ok.has x (S.fre _ hm rfl)
        exact ⟨c, clOf_has X.env.cells scope.names [] x c (by intro x c h; simp at h) hm hcx⟩
    · exact Nat.ne_of_lt (Nat.lt_of_lt_of_le (ffne b hb) hCle')
    · exact (ff b hb).2.2.2.2.1 x c (clsub _ _ h)
    · have q : b ∈ X.ex ∨ X.s₀.heap.objs.size ≤ b := (ff b hb).2.2.2.1
      rcases q with q | q
      · exact I.ok.noex b o e q
      · exact absurd (Nat.lt_of_lt_of_le (Heap.lt_size e) (Nat.le_trans I.ok.bsz q)) (Nat.lt_irrefl _)
    · rcases List.mem_cons.mp (I.stkSub b hf) with z | z
      · exact (ff b hb).2.1 z
      · exact (ff b hb).2.2.1 z
  have notin : ∀ p ∈ X.pn ++ pins, p.1 ∉ frs X.stack := fun p hp z => by
    obtain ⟨_, _, ne, nf, _⟩ := I.pin p hp
    rcases List.mem_cons.mp (I.stkSub _ z) with q | q
    · exact ne q
    · exact nf q
  have pinLt : ∀ p ∈ X.pn ++ pins, p.1 < s₂.heap.objs.size := fun p hp => Heap.lt_size (I.pin p hp).1
  have stkLt : ∀ b ∈ frs X.stack, b < s₂.heap.objs.size := fun b hb => by
    rcases List.mem_cons.mp (I.stkSub b hb) with z | z
    · rw [z]; exact I.lt
    · obtain ⟨_, o, ho, _⟩ := I.ok.funs.mem z
      exact Nat.lt_of_lt_of_le (Heap.lt_size ho) I.sz
  have loc0 : ∀ (i : Nat) (x : Str) (v : V), N[i]? = some x → (pick σ src)[i]? = some (some v) → ∃ u c, RelV v u ∧ (clOf X.env.cells scope.names).lookup x = some c ∧ s₂.heap.IsCell c (some u) ∧ scope.names.lookup x = some .free := fun i x v e1 e2 => by
    unfold pick at e2
    rw [List.getElem?_map] at e2
    cases es : src[i]? with
    | none => rw [es] at e2; cases e2
    | some o =>
      rw [es] at e2
      cases o with
      | none => cases e2
      | some j =>
        have e3 : (σ[j]?).join = some v := Option.some.inj e2
        have e4 : σ[j]? = some (some v) := by
          cases q : σ[j]? with
          | none => rw [q] at e3; cases e3
          | some z => rw [q] at e3; exact congrArg some e3
        obtain ⟨a1, a2, a3⟩ := S.src i j x es e1
        obtain ⟨m0, _, hl⟩ := I.loc
        obtain ⟨u, r, l⟩ := hl j x v a1 e4 a3
        have hm := PySem.mem_of_lookup a2
        have hk := S.fre _ hm rfl
        rcases l with ⟨k, _⟩ | ⟨_, c, hcx, z⟩
        · rcases hk with hk | hk <;> (rw [k] at hk; cases hk)
        · exact ⟨u, c, r, clOf_has X.env.cells scope.names [] x c (by intro x c h; simp at h) hm hcx, z, a2⟩
  have kinds : ∀ x, scope.names.lookup x = some .free → (compEnvC scope (clOf X.env.cells scope.names) C X.env).kindOf x = some .cell ∨ (compEnvC scope (clOf X.env.cells scope.names) C X.env).kindOf x = some .free := fun x hx => by
    show (relabel scope X.env).names.lookup x = some .cell ∨ (relabel scope X.env).names.lookup x = some .free
    unfold relabel
    dsimp only
    rw [lookup_relabel, hx]
    dsimp only [Option.map]
    split
    · exact .inl rfl
    · exact .inr rfl
  have Ic : Inv (cxC X N scope C s₂ H₂ fp (X.pn ++ pins)) [] (pick σ src) H₂ { s₂ with heap := h₁, toks := s₂.toks + ([] : List (Str × Value)).length } := by
    refine ⟨ok, rfl, I.bare, Un.kept old, ⟨_, hns₁, fun i x v e1 e2 e3 => ?_⟩, fun x c e => ?_, I.hok.fresh hCle', fun x c e => I.freeC x c (clsub x c e), fun p hp => ?_, I.hok.kept old, ?_⟩
    · obtain ⟨u, c, r, e5, ⟨o, ho, hd⟩, hf⟩ := loc0 i x v e1 e2
      exact ⟨u, r, .inr ⟨kinds x hf, c, e5, ⟨o, old _ _ ho, hd⟩⟩⟩
    · obtain ⟨v, o, ho, hd⟩ := I.cell x c (clsub x c e)
      exact ⟨v, o, old _ _ ho, hd⟩
    · have hp : p ∈ X.pn ++ pins := by simpa [cxC] using hp
      obtain ⟨e, n, _, _, d⟩ := I.pin p hp
      exact ⟨old _ _ e, n, Nat.ne_of_lt (Nat.lt_of_lt_of_le (pinLt p hp) hCle'), notin p hp, d⟩
    · show (pick σ src).length = N.length
      unfold pick
      rw [List.length_map, S.len]
  have hDle : s₂.heap.objs.size ≤ D := Nat.le_of_eq hD
  have DneStk : D ∉ frs X.stack := fun z => absurd (Nat.lt_of_lt_of_le (stkLt D z) hDle) (Nat.lt_irrefl _)
  have Dnefp : D ∉ fp := fun z => absurd (Nat.lt_of_lt_of_le (ffne D z) hDle) (Nat.lt_irrefl _)
  have fpOk : ∀ {pl : List (Addr × Obj)} {H' : Hp}, (∀ b ∈ fp, H' b = none) → (∀ p ∈ pl, p.1 ∉ fp) → ∀ b ∈ fp, FpOk (cxC X N scope C s₂ H₂ fp (X.pn ++ pins)) pl H' b := fun {pl H'} hn hpl b hb => by
    obtain ⟨f0, f1, f2, f3, f4, f5⟩ := ff b hb
    refine ⟨hn b hb, Nat.ne_of_lt (Nat.lt_of_lt_of_le (ffne b hb) hCle'), fun z => ?_, .inl hb, fun x c e => f4 x c (clsub x c e), fun p hp => ?_⟩
    · rcases List.mem_cons.mp (I.stkSub b z) with q | q
      · exact f1 q
      · exact f2 q
    · have hp : p ∈ (X.pn ++ pins) ++ pl := hp
      rcases List.mem_append.mp hp with hp | hp
      · exact f5 p hp
      · exact fun z => hpl p hp (z ▸ hb)
  -- back in the def's own frame
  have back : ∀ {s' : Shared} {H' : Hp} {out : List V} {its : List Value} {nn : Nat} {σ' : St}, Inv (cxC X N scope C s₂ H₂ fp (X.pn ++ pins)) [] σ' H' s' → H' D = none → out.length ≤ sizeLine → Vals out its →
      s'.heap.get? D = some { cls := .type "list", data := .seq its.toArray nn } → (∀ D, H' D = none → Q (.ref D) (upd H' D (.lst out))) → CompEnd X pins σ Q D C s' := fun {s' H' out its nn σ'} I' hn hl hv ho q => by
    obtain ⟨m, hm, _⟩ := I'.loc
    have un : Un (frs X.stack) fp H₂ H' s₂.heap s'.heap := I'.base
    have neD : ∀ b o, s₂.heap.get? b = some o → b ≠ D := fun b o e => Nat.ne_of_lt (Nat.lt_of_lt_of_le (Heap.lt_size e) hDle)
    have fD : H₂ D = none := I.hok.fresh hDle
    refine ⟨upd H' D (.lst out), m, ?_, q D hn, hm, by rw [upd_ne (Ne.symm hDC)]; exact I'.free, Nat.ne_of_gt (Nat.lt_of_lt_of_le I.lt hCle'), Nat.le_trans I.sz hCle', fun x c e => Nat.ne_of_lt (Nat.lt_of_lt_of_le (cellLt x c e) hCle'), fun p hp => Nat.ne_of_lt (Nat.lt_of_lt_of_le (pinLt p hp) hCle')⟩
    refine I.call' (ch := fp) I'.os ⟨un.keep, un.slot, fun b o e n hb => ?_, un.there, fun b xs e => ?_, fun b o u e => ?_, fun b ps e => ?_⟩ (fun b o e => ?_) I'.bare fun b hb => ?_
    · rw [upd_ne (neD b o e)]; exact un.free b o e n hb
    · rw [upd_ne (ne_of_none e fD)]; exact un.tups b xs e
    · rw [upd_ne (ne_of_none e fD)]; exact un.frzs b o u e
    · rw [upd_ne (ne_of_none e fD)]; exact un.tbls b ps e
    · by_cases hb : b = D
      · subst hb
        rw [upd_same] at e
        cases e
        exact ⟨hl, its, nn, hv, ho⟩
      · rw [upd_ne hb] at e
        refine (I'.hok b o e).stay (fun c v _ q => q) (fun c q => ?_) fun c xs q => ?_
        · rw [upd_ne (ne_of_none q hn)]; exact q
        · rw [upd_ne (ne_of_none q hn)]; exact q
    · obtain ⟨f0, f1, f2, f3, f4, f5⟩ := ff b hb
      exact ⟨f3, f1, f4, f5⟩
  obtain ⟨m0, w0⟩ := w0
  have loop : ∀ s₄ : Shared, s₄ = { s₂ with heap := h₁, toks := s₂.toks + ([] : List (Str × Value)).length } →
      codeAny (model X.prog X.w) X.A (.compLoop (.ListComp elt [⟨tg, iter, ifs, 0⟩] scope pos) 0 (.ref it) (.ref D) (compEnvC scope (clOf X.env.cells scope.names) C X.env)) (RR (.ref D) C) s₄ := by
    rintro s₄ rfl
    refine codeAny_compLoop_go (EE := EEx X N scope EX C s₂ H₂ fp (X.pn ++ pins)) (fun x s' ⟨p2, τ, H1, s1, I1, h1⟩ => hRX D C (Nat.le_trans I.sz hCle') (fun z => absurd (Nat.lt_of_lt_of_le (stkLt C z) hCle') (Nat.lt_irrefl _)) x s' p2 τ H1 s1 I1 h1) (fun n s' => ∃ i out its nn H', Inv (cxC X N scope C s₂ H₂ fp (X.pn ++ pins)) [] (pick σ src) H' s' ∧ H' D = none ∧ out.length ≤ sizeLine ∧ Vals out its ∧
      s'.heap.get? D = some { cls := .type "list", data := .seq its.toArray nn } ∧ tn i s'.heap ∧ (∀ b ∈ fp, H' b = none) ∧ W i n out H') ?_ m0
      ⟨0, [], [], 0, H₂, Ic, I.hok.fresh hDle, Nat.zero_le _, .nil, hacc, T.keep _ _ _ st fun b hb o e => old b o e, fun b hb => (ff b hb).1, w0⟩
    rintro n s3 ⟨i, out, its, nn, H3, I3, hD3, hl3, hv3, ho3, st3, fr3, w3⟩
    have dataNe : ∀ (its : List Value) (nn : Nat) (v : Option Value), ({ cls := .type "list", data := .seq its.toArray nn } : Obj).data ≠ .cell v := fun _ _ _ z => nomatch z
    have I3p : Inv (cxC X N scope C s₂ H₂ fp (X.pn ++ pins)) [(D, { cls := .type "list", data := .seq its.toArray nn })] (pick σ src) H3 s3 := I3.pins_of fun p hp => by
      have e : p = (D, { cls := .type "list", data := .seq its.toArray nn }) := by simpa using hp
      subst e
      exact ⟨ho3, hD3, hDC, DneStk, dataNe its nn⟩
    have nfp : ∀ p ∈ [((D, { cls := .type "list", data := .seq its.toArray nn }) : Addr × Obj)], p.1 ∉ fp := fun p hp => by
      have e : p = (D, { cls := .type "list", data := .seq its.toArray nn }) := by simpa using hp
      subst e
      exact Dnefp
    rcases turn i n out H3 w3 with ⟨stop, qn⟩ | ⟨go, hlt, step⟩
    · refine thnF (T.done (cxC X N scope C s₂ H₂ fp (X.pn ++ pins)) rfl rfl rfl hc i _ s3 _ H3 _ I3p (fpOk fr3 nfp) st3 stop) fun r s4 ⟨hr, I4⟩ => ?_
      subst hr
      have p4 := (I4.pin (D, { cls := .type "list", data := .seq its.toArray nn }) (List.mem_append_right _ (by simp))).1
      exact hRR D C s4 (back (I4.pins_of (pins' := []) fun p hp => nomatch hp) hD3 hl3 hv3 p4 qn)
    · refine thnF (T.item (cxC X N scope C s₂ H₂ fp (X.pn ++ pins)) rfl rfl rfl hc i _ s3 _ H3 _ I3p (fpOk fr3 nfp) st3 go) fun r s4 ⟨u, hr, h4⟩ => ?_
      subst hr
      refine thnF h4 fun _ s5 ⟨x, H5, I5, r5, y5, st5, fr5⟩ => ?_
      have I5' := I5.pinned (fpOk fr5 nfp) (T.obj _ _ st5)
      refine thnF (hg _ _ _ _ _ _ s5 _ H5 x u _ I5' r5 (hx x σ H5 _ (step x H5 y5))) fun _ s6 ⟨σ6, H6, I6, e6, q6⟩ => ?_
      have fin : ∀ {s7 : Shared} {H7 : Hp}, Inv (cxC X N scope C s₂ H₂ fp (X.pn ++ pins)) ([(D, { cls := .type "list", data := .seq its.toArray nn })] ++ pinsAt fp s5.heap) σ6 H7 s7 →
          Inv (cxC X N scope C s₂ H₂ fp (X.pn ++ pins)) [] (pick σ src) H7 s7 ∧ H7 D = none ∧ s7.heap.get? D = some { cls := .type "list", data := .seq its.toArray nn } ∧ tn (i + 1) s7.heap ∧ ∀ b ∈ fp, H7 b = none := fun {s7 H7} I7 => by
        have pD := I7.pin (D, { cls := .type "list", data := .seq its.toArray nn }) (List.mem_append_right _ (by simp))
        refine ⟨(I7.pins_of (pins' := []) fun p hp => nomatch hp).weak e6.1.symm e6.2, pD.2.1, pD.1, T.keep _ _ _ st5 fun b hb o e => (I7.pin (b, o) (List.mem_append_right _ (List.mem_append_right _ (mem_pinsAt hb e)))).1, fun b hb => ?_⟩
        obtain ⟨o, e, d⟩ := T.obj _ _ st5 b hb
        exact (I7.pin (b, o) (List.mem_append_right _ (List.mem_append_right _ (mem_pinsAt hb e)))).2.1
      refine thnF (hi _ _ _ _ _ _ s6 σ6 H6 _ I6 q6) fun b s7 ⟨H7, I7, q7⟩ => ?_
      cases b with
      | false =>
        rw [if_neg Bool.false_ne_true] at q7 ⊢
        obtain ⟨m', hm, w7⟩ := q7
        obtain ⟨J7, d7, o7, t7, f7⟩ := fin I7
        exact ⟨m', hm, i + 1, out, its, nn, H7, J7, d7, hl3, hv3, o7, t7, f7, w7⟩
      | true =>
        rw [if_pos rfl] at q7 ⊢
        refine thn (he _ _ _ _ _ _ s7 σ6 H7 _ (I7.wish _) q7) fun v s8 ⟨y, H8, I8w, r8, m', hm, w8⟩ => ?_
        have I8 := I8w.unwish
        obtain ⟨J8, d8, o8, t8, f8⟩ := fin I8
        have hsz : its.toArray.size ≤ sizeLine := by rw [List.size_toArray, ← hv3.length]; exact hl3
        refine wpAny_list_append_plain (items := its.toArray) (hsz := hsz) ⟨nn, o8⟩ fun h9 ⟨n9, e9⟩ sb => ?_
        have J9 : Inv (cxC X N scope C s₂ H₂ fp (X.pn ++ pins)) [] (pick σ src) H8 { s8 with heap := h9 } := J8.turned (t' := s8.toks) (it := D) (fun b o hb e => (sb.2 b hb).trans e) d8 hDC (.inr hDle) (fun x c e => Nat.ne_of_lt (Nat.lt_of_lt_of_le (cellLt x c (clsub x c e)) hDle)) fun p hp => by
          have hp : p ∈ X.pn ++ pins := by simpa [cxC] using hp
          exact Nat.ne_of_lt (Nat.lt_of_lt_of_le (pinLt p hp) hDle)
        refine ⟨m', hm, i + 1, out ++ [y], its ++ [v], n9, H8, J9, d8, ?_, hv3.append (.cons r8 .nil), ?_, T.keep _ _ _ t8 fun b hb o e => (sb.2 b (fun z => Dnefp (z ▸ hb))).trans e, f8, w8⟩
        · rw [List.length_append]; exact hlt
        · rw [e9]; simp
  exact codeAny_compStart_list (loop _ rfl) (T.self _ _ _ _ _ (T.keep _ _ _ st fun b hb o e => old b o e) (loop _ rfl))
theorem pe_compX {EX : XK} (L : Leaves X EX) (S : CompScope X N src scope) (hc : X.calm = true) (hit : PI X tg iter wi)
    (hg : ∀ C s H ex pn, PG (cxC X N scope C s H ex pn) tg g) (hx : GExt g src) (hi : ∀ C s H ex pn, PIf (cxC X N scope C s H ex pn) ifs tc) (he : ∀ C s H ex pn, PE ((cxC X N scope C s H ex pn).wish (EEx X N scope EX C s H ex pn)) elt te)
    (hs : ∀ x, foldedSetIterable iter X.env x = pure x := by intro _; rfl) : PE X (.ListComp elt [⟨tg, iter, ifs, 0⟩] scope pos) (tComp wi src g tc te) := by
  intro pins s σ H Q I h
  rw [eval_ListComp]
  have hcl : closureFor scope X.env = pure (clOf X.env.cells scope.names) := closureFor_cl fun y hy hf => I.ok.has y.1 (S.fre y hy hf)
  refine wpAny_comprehension_free (use := none) rfl hs hcl S.kind S.loc (thn (hit pins s σ H _ I h) fun v s1 h1 => thn h1 fun itv s2 h2 => ?_)
  obtain ⟨it, fp, tn, J, H2, e, I2, T, st2, f2, W, w0, turn⟩ := h2
  subst e
  refine comp_coreX (EX := EX) (RR := fun acc C => compPost (model X.prog X.w) X.A X.xe none (EP X pins σ Q) acc C) S hc hg hx hi he I2 T st2 f2 W w0 turn (fun D C s' ⟨H', m, I', q, hm, hn, h1, h2, h3, h4⟩ => ?_) fun D C hC hCs x s' p2 τ H1 s1 I1 h1 => ?_
  · exact ⟨m, hm, fun h' sb => ⟨.ref D, H', I'.turned (t' := s'.toks) (it := C) (fun b o hb e => (sb.2 b hb).trans e) hn h1 (.inr h2) h3 h4, rfl, q⟩⟩
  · exact held_out L I2 (fun b hb => by
      rcases (f2 b hb).2.2.2.1 with z | z
      · rw [L.ex] at z; cases z
      · exact z) hC I1 hCs h1
end
end L2
namespace L2
open PySem PySem.Spec PyProof.Rows
def CompPX (σ : SD) (src : List (Option Nat)) (g : TGd) (tc : TDt) (te : TD) (R : KD) (Z : KX) (I : ItD) (S1 : Sto) : Prop := ∃ P : Nat → List D → Sto → Prop, P 0 [] S1 ∧ (∀ i out S, P i out S → I.ok S) ∧
  (∀ i d out S, I.xs[i]? = some d → P i out S → out.length < sizeLine ∧ g d (pickD σ src) S fun σ3 S3 => tc σ3 S3 (fun b S4 => if b = true then te σ3 S4 (fun v S5 => P (i + 1) (out ++ [v]) S5) Z else P (i + 1) out S4) Zf) ∧
  ∀ out S2, P I.xs.length out S2 → ∀ p, S2 p = none → R (.ref p) (S2.set p (.lst out))
def dCompX (ti : TDi) (src : List (Option Nat)) (g : TGd) (tc : TDt) (te : TD) : TD := fun σ S R Z => ti σ S (fun I S1 => CompPX σ src g tc te R Z I S1) Z
theorem T.compX {K : PySem.W.Frag} {E : XK} {E' : St → XK} {ti : TDi} {src : List (Option Nat)} {g : TG} {gd : TGd} {tc : TDt} {te : TD} {τ : St} {H : Hp} {Q : VK} (hg : ∀ v τ H Q, Tg K gd v τ H Q → g v τ H Q)
    (h : T K (fun _ => E) (dCompX ti src gd tc te) τ H Q) : tComp (Ti K (fun _ => E) ti) src g (Tt K E' tc) (T K (fun _ => E) te) τ H Q := by
  obtain ⟨σ, S, R, Z, hσ, hS, q, hR, hZ⟩ := h
  refine ⟨σ, S, _, Z, hσ, hS, q, fun I S1 J H1 ⟨P, p0, pok, pst, pend⟩ hJ s1 k1 => ?_, hZ⟩
  refine ⟨fun i m out H => m = I.xs.length - i ∧ i ≤ I.xs.length ∧ ∃ ds S, RvAll K H ds out ∧ Rs K S H ∧ P i ds S ∧ Kp K H1 H, ⟨_, rfl, Nat.zero_le _, [], S1, ra_nil, s1, p0, .refl _⟩, ?_⟩
  rintro i m out H2 ⟨rfl, hi2, ds, S2, v2, s2, p2, k2⟩
  have ok := hJ i S2 H2 k2 s2 (pok _ _ _ p2)
  by_cases hlt : i < I.xs.length
  · obtain ⟨go, yl⟩ := ok.1 _ (List.getElem?_eq_getElem hlt)
    obtain ⟨hz, st⟩ := pst i _ ds S2 (List.getElem?_eq_getElem hlt) p2
    refine .inr ⟨go, by rw [v2.len]; exact hz, fun x H' hy => ?_⟩
    obtain ⟨rx, k3, s3⟩ := yl x H' hy
    refine hg _ _ _ _ ⟨_, _, S2, _, rx, (((hσ.ts k1).ts k2).ts k3).pick src, s3, st, fun σ4 S4 τ4 H4 r4 a4 s4 k4 => ?_⟩
    refine ⟨σ4, S4, _, Zf, a4, s4, r4, fun c S5 H5 r5 s5 k5 => ?_, .f⟩
    cases c with
    | true =>
      rw [if_pos rfl] at r5 ⊢
      exact ⟨σ4, S5, _, Z, a4.ts k5, s5, r5, fun d S6 v H6 r6 v6 s6 k6 => ⟨_, by omega, rfl, hlt, ds ++ [d], S6, (RvAll.ts (((k3.trans k4).trans k5).trans k6) _ v2).app (ra_cons v6 ra_nil), s6, r6, (((k2.trans k3).trans k4).trans k5).trans k6⟩, hZ.kp ((((k1.trans k2).trans k3).trans k4).trans k5)⟩
    | false =>
      rw [if_neg Bool.false_ne_true] at r5 ⊢
      exact ⟨_, by omega, rfl, hlt, ds, S5, RvAll.ts ((k3.trans k4).trans k5) _ v2, s5, r5, ((k2.trans k3).trans k4).trans k5⟩
  · have e : i = I.xs.length := by omega
    subst e
    exact .inl ⟨ok.2 (Nat.le_refl _), fun p hp => (hR.kp (k1.trans k2)).new s2 hp (pend _ _ p2 p) v2⟩
section
variable {K : PySem.W.Frag} {X : Cx} {E : XK} {pos : Pos}
structure DEx (K : PySem.W.Frag) (X : Cx) (E : XK) (e : Expr) (t : TD) : Prop where
  of : ∀ (y : Ev X true), y.E = (fun _ => E) → Leaves y.cx E → PE y.cx e (T K y.E t)
structure DAx (K : PySem.W.Frag) (X : Cx) (E : XK) (es : List Expr) (t : TDa) : Prop where
  of : ∀ (y : Ev X true), y.E = (fun _ => E) → Leaves y.cx E → PA y.cx es (Ta K y.E t)
structure DSx (K : PySem.W.Frag) (X : Cx) (E : XK) (b : List Stmt) (t : TSD) : Prop where
  of : ∀ (y : Ev X true), y.E = (fun _ => E) → Leaves y.cx E → PSs y.cx b (Tl K y.E t)
theorem acx {e : Expr} {es : List Expr} {t : TD} {u : TDa} (h : DE K X e t) (hr : DAx K X E es u) (hp : isPlain e = true := by rfl) : DAx K X E (e :: es) (aCons t u) :=
  ⟨fun y hE hL => (pa2 (h.of y) (hr.of y hE hL) hp).mono fun τ H Q ⟨σ, S, R, Z, hσ, hS, q, hR, hZ⟩ =>
    ⟨σ, S, _, Z, hσ, hS, q, fun d S1 x H1 r1 v1 s1 k1 => ⟨σ, S1, _, Z, hσ.ts k1, s1, r1, fun ds S2 xs H2 r2 v2 s2 k2 => hR (d :: ds) S2 (x :: xs) H2 r2 (ra_cons (Rv.ts k2 _ v1) v2) s2 (k1.trans k2), hZ.kp k1⟩, hZ⟩⟩
theorem acy {e : Expr} {es : List Expr} {t : TD} {u : TDa} (h : DEx K X E e t) (hr : DA K X es u) (hp : isPlain e = true := by rfl) : DAx K X E (e :: es) (aCons t u) :=
  ⟨fun y hE hL => (pa2 (h.of y hE hL) (hr.of y) hp).mono fun τ H Q ⟨σ, S, R, Z, hσ, hS, q, hR, hZ⟩ =>
    ⟨σ, S, _, Z, hσ, hS, q, fun d S1 x H1 r1 v1 s1 k1 => ⟨σ, S1, _, Z, hσ.ts k1, s1, r1, fun ds S2 xs H2 r2 v2 s2 k2 => hR (d :: ds) S2 (x :: xs) H2 r2 (ra_cons (Rv.ts k2 _ v1) v2) s2 (k1.trans k2), hZ.kp k1⟩, hZ⟩⟩
theorem etupx {es : List Expr} {t : TDa} {x1} (h : DAx K X E es t) : DEx K X E (.Tuple es x1 pos) (dTup t) :=
  ⟨fun y hE hL => (pe_tup (h.of y hE hL)).mono fun τ H Q ⟨σ, S, R, Z, hσ, hS, q, hR, hZ⟩ =>
    ⟨σ, S, _, Z, hσ, hS, q, fun ds S1 xs H1 ⟨hl, r1⟩ v1 s1 k1 => ⟨by rw [v1.len]; exact hl, fun p hp => hR _ _ _ _ r1 (rv_tup upd_same (RvAll.ts (.new hp) _ v1)) (s1.grow hp) (k1.trans (.new hp))⟩, hZ⟩⟩
theorem ctx {x : Str} {id : String} {r : List D → Sto → KD → Prop} {e : Expr} {es : List Expr} {t : TDa} {p : Pos} (hc : CallD K (.type id) r) (hm : X.mg x = none) (hv : bootBuiltins x = some (.type id)) (ha : DAx K X E (e :: es) t) (hg : Gl X x := by rfl)
    (hn : x ≠ "__name__" := by decide) (hdb : (x == ("__debug__" : Str)) = false := by decide) (he : starEach (e :: es) X.env = (false, eval e X.env) :: starEach es X.env := by rfl) (hpl : (backTo pos (starEach es X.env)).any (·.1) = false := by rfl) (hK : X.K = K := by rfl) (hC : X.calm = true := by rfl) :
    DEx K X E (.Call (.Name x p) (e :: es) [] pos) (dCB r t) :=
  ⟨fun y hE hL => (pe_callTy (X := y.cx) (hc _ hK hC) hg hm hv (ha.of y hE hL) hn hdb he hpl).mono fun _ _ _ h => h.cb⟩
theorem srx {e : Expr} {t : TD} (h : DEx K X E e t) : DSx K X E [.Return (some e) pos] (dRet t) :=
  ⟨fun y hE hL => pss_one ((ps_ret (h.of y hE hL)).mono fun D τ H ⟨σ, S, De, Z, hσ, hS, q, hD, hZ⟩ => ⟨σ, S, _, _, hσ, hS, q, hD.rt, hZ.at hσ⟩)⟩
theorem scx {st : Stmt} {r : List Stmt} {t u : TSD} (h1 : DS K X true st t) (h2 : DSx K X E r u) : DSx K X E (st :: r) (dSeq t u) :=
  ⟨fun y hE hL => (pss_cons (h1.of y) (h2.of y hE hL)).mono fun D τ H ⟨σ, S, De, Z, hσ, hS, q, hD, hZ⟩ =>
    ⟨σ, S, _, Z, hσ, hS, q, ⟨fun σ1 S1 τ1 H1 r1 a b c => ⟨σ1, S1, De, Z, a, b, r1, hD.kp c, hZ.kp c⟩, hD.rt, hD.bk, hD.ct⟩, hZ⟩⟩
variable {N : List Str} {src : List (Option Nat)} {scope : Scope} {tg iter elt : Expr} {ifs : List Expr} {ti : TDi} {g : TG} {gd : TGd} {tc : TDt} {te : TD}
theorem ecox (S : CompScope X N src scope) (hit : DI K X tg iter ti) (hg : ∀ C s H ex pn, PG (cxC X N scope C s H ex pn) tg g) (hx : GExt g src) (hgd : ∀ v τ H Q, Tg K gd v τ H Q → g v τ H Q)
    (hi : ∀ C s H ex pn, DIf K (cxC X N scope C s H ex pn) ifs tc) (he : ∀ C s H ex pn, DE K (cxC X N scope C s H ex pn) elt te)
    (hs : ∀ x, foldedSetIterable iter X.env x = pure x := by intro _; rfl) (hc : X.calm = true := by rfl) : DEx K X E (.ListComp elt [⟨tg, iter, ifs, 0⟩] scope pos) (dCompX ti src gd tc te) :=
  ⟨fun y hE hL => by
    have hp := pe_compX (X := y.cx) (pos := pos) (tc := Tt K (fun _ => E0) tc) (te := T K (fun _ => E) te) hL ⟨S.kind, S.nocell, S.loc, S.fre, S.len, S.src⟩ hc (hit.of y) hg hx (fun C s H ex pn => (hi C s H ex pn).of (.none _ rfl))
      (fun C s H ex pn => (he C s H ex pn).of (b := false) ⟨pn, EEx y.cx N scope E C s H ex pn, fun _ => E, ⟨fun p2 τ H1 s1 e s' I h => ⟨p2, τ, H1, s1, I.unwish, h⟩, fun e => (by cases e), fun e => (by cases e)⟩⟩) hs
    rw [hE] at hp ⊢
    exact hp.mono fun _ _ _ h => h.compX hgd⟩
end
section
variable {P : Program} {w : World} {K : PySem.W.Frag} {mg : Str → Option Value} {base : Heap}
theorem FunV.okDX {x qual : Str} {st : Stmt} {f : Addr} {fd : FuncData} {N ps : List Str} {k : Nat} {sp : SpD} (F : FunV K x qual st f fd) (S : FnScope N ps (defScope st)) (len : ∀ ds S R Z, sp ds S R Z → ds.length = ps.length)
    (hbody : ∀ (cdv : Value) (A : Around) (outer : List Env) (s : Shared) (H : Hp) (E : XK) (ds : List D) (S : Sto) (R : KD) (Z : KX), Room k (A.deeper (envOfC qual (defScope st) s.heap.objs.size f cdv)) → sp ds S R Z →
      ∃ t, DSx K (cxOf (CXR P w) P w K mg base N qual (defScope st) f cdv A outer s H E) E (defBody st) t ∧ t { nx := fun _ S' => R .non S', rt := R } (startD N ds) S fun _ => Z) : FnOk P w K mg base (CXR P w) (k + 1) f fd ps (SpL K sp) := by
  obtain ⟨oc, od, dV, kV, doc, pm, an, cdv, ct, osl, rfl, lk, hcd⟩ := F.ex
  have hpl : ps.length ≤ N.length := by have := congrArg List.length S.pre; rw [List.length_take] at this; omega
  refine fn_of lk hcd S (fun vs H Q E ⟨ds, S', R, Z, v, _, h, _⟩ => by rw [v.len]; exact len _ _ _ _ h) fun A outer s H vs Q E hr ⟨ds, S', R, Z, v, hS, h, hR, hZ⟩ => ?_
  obtain ⟨t, ht, q⟩ := hbody cdv A outer s H E ds S' R Z hr h
  have L : Leaves (cxOf (CXR P w) P w K mg base N qual (defScope st) f cdv A outer s H E) E := leaves_of
  let y : Ev (cxOf (CXR P w) P w K mg base N qual (defScope st) f cdv A outer s H E) true := ⟨_, (cxOf (CXR P w) P w K mg base N qual (defScope st) f cdv A outer s H E).xe, fun _ => E, ⟨fun p2 τ H1 s1 e s' I h => passE L p2 τ H1 s1 e s' I h, fun _ p2 τ H1 s1 h' a cls args I hx he => made_leaves L I hx he, fun _ => PassesOwn.leaving⟩⟩
  refine ⟨Tl K (fun _ => E) t, ht.of y rfl L, startD N ds, S', _, fun _ => Z, ?_, hS, q, ⟨fun σ S1 τ H1 r a b c => hR.kp c |>.now b r rv_non, hR, fun _ _ _ _ z => z.elim, fun _ _ _ _ z => z.elim⟩, fun σ τ C S1 H1 z a b c => hZ C S1 H1 z b c⟩
  unfold startD start
  refine (rst_vals v).app ?_
  rw [v.len]
  exact rst_none _ _ (by rw [List.length_replicate])
theorem FunV.okX {x qual : Str} {st : Stmt} {f : Addr} {fd : FuncData} {N ps : List Str} {k : Nat} {sp : SpD} (F : FunV K x qual st f fd) (S : FnScope N ps (defScope st)) (len : ∀ ds S R Z, sp ds S R Z → ds.length = ps.length)
    (hbody : ∀ (cdv : Value) (A : Around) (outer : List Env) (s : Shared) (H : Hp) (E : XK) (ds : List D) (S : Sto) (R : KD) (Z : KX), Room k (A.deeper (envOfC qual (defScope st) s.heap.objs.size f cdv)) → sp ds S R Z →
      ∃ t, DSx K (cxOf (CXR P w) P w K mg base N qual (defScope st) f cdv A outer s H E) E (defBody st) t ∧ t { nx := fun _ S' => Fo S' (R .non), rt := fun d S' => Fo S' (R d) } (startD N ds) S fun _ C S' => Fo S' (Z C)) : FnOk P w K mg base (CXR P w) (k + 1) f fd ps (SpL K sp) := by
  have F2 : FnOk P w K mg base (CXR P w) (k + 1) f fd ps (SpL K fun ds S R' Z' => ∃ R Z, sp ds S R Z ∧ R' = (fun d S' => Fo S' (R d)) ∧ Z' = fun C S' => Fo S' (Z C)) := by
    refine F.okDX S (fun ds S R Z ⟨R0, Z0, h, _⟩ => len _ _ _ _ h) fun cdv A outer s H E ds S R Z hr ⟨R0, Z0, h, e1, e2⟩ => ?_
    subst e1 e2
    exact hbody cdv A outer s H E ds S R0 Z0 hr h
  refine F2.imp fun vs H Q E ⟨ds, S, R, Z, v, hS, h, hR, hZ⟩ => ⟨ds, S, _, _, v, hS, ⟨R, Z, h, rfl, rfl⟩, fun d S' u H' ⟨S2, sb, r⟩ rv rs kp => hR d S2 u H' r rv (rs.sub sb) kp, fun C S' H' ⟨S2, sb, r⟩ rs kp => hZ C S2 H' r (rs.sub sb) kp⟩
end
end L2
namespace L2
open PySem PySem.Spec PyProof.Rows
theorem il_ext {h h' : Heap} {a b l : Addr} {i : Nat} (hs : Heap.ExtBut b h h') (n : a ≠ b) (x : h.IsListIter a l i) : h'.IsListIter a l i := x.extBut hs n
theorem il_up {h h' : Heap} {a l : Addr} {i : Nat} (k : ∀ o, h.get? a = some o → h'.get? a = some o) (x : h.IsListIter a l i) : h'.IsListIter a l i := let ⟨o, e, r⟩ := x; ⟨o, k o e, r⟩
theorem plainL_is {h : Heap} {a : Addr} {its : Array Value} (x : PlainL h a its) : h.IsList a its := let ⟨o, n, e, c, _, d⟩ := x; ⟨o, e, c, n, d⟩
theorem plainL_lt {h : Heap} {a : Addr} {its : Array Value} (x : PlainL h a its) : a < h.objs.size := let ⟨_, _, e, _⟩ := x; Heap.lt_size e
def ZSl (n l0 l1 : Nat) (i : Nat) (h : Heap) : Prop := IsZip h (n + 4) (n + 2) (n + 3) .none ∧ IsTp h (n + 2) #[.ref n, .ref (n + 1)] ∧ (∃ arr : Array Value, arr.size = 2 ∧ IsTp h (n + 3) arr) ∧ h.IsTupleIter n l0 i ∧ h.IsListIter (n + 1) l1 i
section
variable {prog : Program} {w : World} {A : Around} {E : Value → Shared → Prop} {s : Shared} {n l0 l1 : Nat} {i : Nat} {xs0 xs1 : Array Value}
theorem zipl_item {x0 x1 : Value} {arr : Array Value} (na : arr.size = 2) {Q : Value → Shared → Prop} (b0 : l0 < n) (b1 : l1 < n) (hz : IsZip s.heap (n + 4) (n + 2) (n + 3) .none) (hI : IsTp s.heap (n + 2) #[.ref n, .ref (n + 1)]) (hO : IsTp s.heap (n + 3) arr) (j0 : s.heap.IsTupleIter n l0 i) (j1 : s.heap.IsListIter (n + 1) l1 i) (t0 : s.heap.IsTuple l0 xs0) (t1 : s.heap.IsList l1 xs1) (e0 : xs0[i]? = some x0) (e1 : xs1[i]? = some x1)
    (hQ : ∀ h', IsZip h' (n + 4) (n + 2) (n + 3) (rawInt s.heap.objs.size) → IsTp h' (n + 3) #[x0, x1] → h'.IsTupleIter n l0 (i + 1) → h'.IsListIter (n + 1) l1 (i + 1) → IsTp h' s.heap.objs.size #[x0, x1] → (∀ c o, c ≠ (n + 4) → c ≠ (n + 3) → c ≠ n → c ≠ (n + 1) → s.heap.get? c = some o → h'.get? c = some o) → Q (.ref s.heap.objs.size) { s with heap := h' }) :
    wpAny (model prog w) A (Builtin.«zip.__next__» ⟨[.ref (n + 4)], []⟩) (fun fin s' => ∃ v, fin = .done (.ret v) ∧ Q v s') E s := by
  show wpAny _ _ (field (.ref (n + 4)) 2 >>= _) _ _ _ ; refine wpAny_bind (wpAny_field hz rfl (x := .bool false) rfl ?_)
  show wpAny _ _ (field (.ref (n + 4)) 3 >>= _) _ _ _ ; refine wpAny_bind (wpAny_field hz rfl (x := .ref (n + 2)) rfl ?_)
  refine wpAny_bind (wpAny_seqItems hI rfl ?_) ; show wpAny _ _ (Builtin.SmallTypes.ownedTupleIsFree (.ref (n + 4)) >>= _) _ _ _
  refine wpAny_bind ?_ ; unfold Builtin.SmallTypes.ownedTupleIsFree
  refine wpAny_bind (wpAny_field hz rfl (x := .none) rfl (wpAny_pure ?_)) ; simp only [if_true]
  refine wpAny_bind (wpAny_rule ?_) ; refine wpAny_bind (wpAny_field hz rfl (x := .ref (n + 3)) rfl ?_)
  refine wpAny_bind (wpAny_setField_rec hz (by simp) fun h0 hz0 q0 => ?_) ; replace hz0 : IsZip h0 (n + 4) (n + 2) (n + 3) .ellipsis := hz0
  have k0 : ∀ c o, c ≠ (n + 4) → s.heap.get? c = some o → h0.get? c = some o := fun c o d e => q0.extBut _ _ d e
  have O0 : IsTp h0 (n + 3) arr := k0 _ _ (by show @Ne Nat _ _; omega) hO
  refine wpAny_bind ?_ ; simp only [List.zipIdx_cons, List.zipIdx_nil, List.forIn_cons, List.forIn_nil]
  -- the 0. iterator
  have J0 : Heap.IsTupleIter h0 n l0 i := by obtain ⟨o, a1, a2⟩ := j0; exact ⟨o, k0 _ _ (by show @Ne Nat _ _; omega) a1, a2⟩
  have T0 : Heap.IsTuple h0 l0 xs0 := by obtain ⟨o, a1, a2⟩ := t0; exact ⟨o, k0 _ _ (by show @Ne Nat _ _; omega) a1, a2⟩
  refine wpAny_bind (wpAny_bind (wpAny_onRaise ?_)) ; show wpAny _ _ (Builtin.SmallTypes.nextOf (.ref n) >>= _) _ _ _
  refine wpAny_bind (nextOf_tup (s := { s with heap := h0 }) J0 T0 e0 fun h1 m0 q1 => wpAny_pure ?_)
  have O1 : IsTp h1 (n + 3) arr := q1.extBut _ _ (by show @Ne Nat _ _; omega) O0
  refine wpAny_bind (wpAny_seqItems (s := { s with heap := h1 }) O1 rfl ?_) ; refine wpAny_bind (updSeq_tp (s := { s with heap := h1 }) O1 (by simp [na, sz3]) fun h2 O2 q2 => ?_) ; refine wpAny_bind (wpAny_letGo (wpAny_pure ?_))
  have k2 : ∀ c o, c ≠ (n + 4) → c ≠ (n + 3) → c ≠ n → s.heap.get? c = some o → h2.get? c = some o := fun c o dz dO d0 e => q2.extBut _ _ dO (q1.extBut _ _ d0 (k0 c o dz  e))
  -- the 1. iterator
  have J1 : Heap.IsListIter h2 (n + 1) l1 i := by obtain ⟨o, a1, a2⟩ := j1; exact ⟨o, k2 _ _ (by show @Ne Nat _ _; omega) (by show @Ne Nat _ _; omega) (by show @Ne Nat _ _; omega) a1, a2⟩
  have T1 : Heap.IsList h2 l1 xs1 := by obtain ⟨o, a1, a2⟩ := t1; exact ⟨o, k2 _ _ (by show @Ne Nat _ _; omega) (by show @Ne Nat _ _; omega) (by show @Ne Nat _ _; omega) a1, a2⟩
  refine wpAny_bind (wpAny_bind (wpAny_onRaise ?_)) ; show wpAny _ _ (Builtin.SmallTypes.nextOf (.ref (n + 1)) >>= _) _ _ _
  refine wpAny_bind (wpAny_nextOf_list_item (s := { s with heap := h2 }) J1 T1 e1 fun h3 m1 q3 => wpAny_pure ?_)
  have O3 : IsTp h3 (n + 3) (arr.setIfInBounds 0 x0) := q3.extBut _ _ (by show @Ne Nat _ _; omega) O2
  refine wpAny_bind (wpAny_seqItems (s := { s with heap := h3 }) O3 rfl ?_) ; refine wpAny_bind (updSeq_tp (s := { s with heap := h3 }) O3 (by simp [na, sz3]) fun h4 O4 q4 => ?_) ; refine wpAny_bind (wpAny_letGo (wpAny_pure ?_))
  have k4 : ∀ c o, c ≠ (n + 4) → c ≠ (n + 3) → c ≠ n → c ≠ (n + 1) → s.heap.get? c = some o → h4.get? c = some o := fun c o dz dO d0 d1 e => q4.extBut _ _ dO (q3.extBut _ _ d1 (k2 c o dz dO d0 e))
  have ea : ((arr.setIfInBounds 0 x0).setIfInBounds 1 x1) = #[x0, x1] := by obtain ⟨l⟩ := arr; match l, na with | [_, _], _ => rfl
  rw [ea] at O4
  have hzL : IsZip h4 (n + 4) (n + 2) (n + 3) .ellipsis := q4.extBut _ _ (by show @Ne Nat _ _; omega) (q3.extBut _ _ (by show @Ne Nat _ _; omega) (q2.extBut _ _ (by show @Ne Nat _ _; omega) (q1.extBut _ _ (by show @Ne Nat _ _; omega) (hz0))))
  have M0 : Heap.IsTupleIter h4 n l0 (i + 1) := it_ext q4.extBut (by show @Ne Nat _ _; omega) (it_ext q3.extBut (by show @Ne Nat _ _; omega) (it_ext q2.extBut (by show @Ne Nat _ _; omega) m0))
  have M1 : Heap.IsListIter h4 (n + 1) l1 (i + 1) := il_ext q4.extBut (by show @Ne Nat _ _; omega) m1
  have hsz : h4.objs.size = s.heap.objs.size := by rw [q4.1, q3.1, q2.1, q1.1, q0.1]
  refine wpAny_pure ?_ ; refine wpAny_bind (wpAny_seqItems (s := { s with heap := h4 }) O4 rfl ?_) ; refine wpAny_bind (wpAny_newTuple ?_)
  have lz : (n + 4) < h4.objs.size := Heap.lt_size hzL
  show wpAny _ _ (Builtin.SmallTypes.ownedTupleHandOut (.ref (n + 4)) (.ref h4.objs.size) >>= _) _ _ _ ; refine wpAny_bind ?_ ; unfold Builtin.SmallTypes.ownedTupleHandOut
  have hzM : IsZip (h4.push { cls := .type "tuple", data := .seq #[x0, x1] }) (n + 4) (n + 2) (n + 3) .ellipsis := Heap.get?_push_of_some _ hzL
  refine wpAny_bind (wpAny_setField_rec (s := { s with heap := h4.push { cls := .type "tuple", data := .seq #[x0, x1] } }) hzM (by simp) fun g1 hz1 r1 => ?_) ; replace hz1 : IsZip g1 (n + 4) (n + 2) (n + 3) (rawInt h4.objs.size) := hz1
  refine wpAny_setField_rec (s := { s with heap := g1 }) hz1 (by simp) fun g2 hz2 r2 => ?_ ; replace hz2 : IsZip g2 (n + 4) (n + 2) (n + 3) (rawInt h4.objs.size) := hz2
  have up : ∀ c o, c ≠ (n + 4) → h4.get? c = some o → g2.get? c = some o := fun c o d e => r2.extBut _ _ d (r1.extBut _ _ d (Heap.get?_push_of_some _ e))
  have hT : IsTp g2 h4.objs.size #[x0, x1] := r2.extBut _ _ (Nat.ne_of_gt lz) (r1.extBut _ _ (Nat.ne_of_gt lz) (Heap.get?_push_size _ rfl))
  rw [hsz] at hz2 hT ; refine wpAny_pure ⟨_, rfl, ?_⟩ ; show Q (.ref h4.objs.size) _ ; rw [hsz]
  exact hQ g2 hz2 (up _ _ (by show @Ne Nat _ _; omega) O4) (it_up (fun o e => up _ o (by show @Ne Nat _ _; omega) e) M0) (il_up (fun o e => up _ o (by show @Ne Nat _ _; omega) e) M1) hT fun c o dz dO d0 d1 e => up c o dz (k4 c o dz dO d0 d1 e)
theorem zipl_end {arr : Array Value} {Q : Fin → Shared → Prop} (hh : A.handled = none) (b0 : l0 < n) (b1 : l1 < n) (hz : IsZip s.heap (n + 4) (n + 2) (n + 3) .none) (hI : IsTp s.heap (n + 2) #[.ref n, .ref (n + 1)]) (hO : IsTp s.heap (n + 3) arr) (j0 : s.heap.IsTupleIter n l0 i) (j1 : s.heap.IsListIter (n + 1) l1 i) (t0 : s.heap.IsTuple l0 xs0) (t1 : s.heap.IsList l1 xs1)
    (e0 : xs0[i]? = none) (hE : ∀ h' e, (∀ c o, c ≠ (n + 4) → c ≠ (n + 3) → c ≠ n → c ≠ (n + 1) → s.heap.get? c = some o → h'.get? c = some o) → (∃ o, h'.get? e = some o ∧ o.cls = .type "StopIteration") → E (.ref e) { s with heap := h' }) :
    wpAny (model prog w) A (Builtin.«zip.__next__» ⟨[.ref (n + 4)], []⟩) Q E s := by
  show wpAny _ _ (field (.ref (n + 4)) 2 >>= _) _ _ _ ; refine wpAny_bind (wpAny_field hz rfl (x := .bool false) rfl ?_)
  show wpAny _ _ (field (.ref (n + 4)) 3 >>= _) _ _ _ ; refine wpAny_bind (wpAny_field hz rfl (x := .ref (n + 2)) rfl ?_)
  refine wpAny_bind (wpAny_seqItems hI rfl ?_) ; show wpAny _ _ (Builtin.SmallTypes.ownedTupleIsFree (.ref (n + 4)) >>= _) _ _ _
  refine wpAny_bind ?_ ; unfold Builtin.SmallTypes.ownedTupleIsFree
  refine wpAny_bind (wpAny_field hz rfl (x := .none) rfl (wpAny_pure ?_)) ; simp only [if_true]
  refine wpAny_bind (wpAny_rule ?_) ; refine wpAny_bind (wpAny_field hz rfl (x := .ref (n + 3)) rfl ?_)
  refine wpAny_bind (wpAny_setField_rec hz (by simp) fun h0 hz0 q0 => ?_) ; replace hz0 : IsZip h0 (n + 4) (n + 2) (n + 3) .ellipsis := hz0
  have J0 : Heap.IsTupleIter h0 n l0 i := by obtain ⟨o, a1, a2⟩ := j0; exact ⟨o, q0.extBut _ _ (by show @Ne Nat _ _; omega) a1, a2⟩
  have T0 : Heap.IsTuple h0 l0 xs0 := by obtain ⟨o, a1, a2⟩ := t0; exact ⟨o, q0.extBut _ _ (by show @Ne Nat _ _; omega) a1, a2⟩
  refine wpAny_bind ?_ ; simp only [List.zipIdx_cons, List.zipIdx_nil, List.forIn_cons, List.forIn_nil]
  refine wpAny_bind (wpAny_bind (wpAny_onRaise ?_)) ; show wpAny _ _ (Builtin.SmallTypes.nextOf (.ref n) >>= _) _ _ _
  refine wpAny_bind (nextOf_tup_end (s := { s with heap := h0 }) hh J0 T0 e0 fun h1 e q1 he => ?_)
  obtain ⟨oe, hoe, hce⟩ := he ; have hz1 : IsZip h1 (n + 4) (n + 2) (n + 3) .ellipsis := q1 _ _ (by show @Ne Nat _ _; omega) hz0
  have ez : e ≠ (n + 4) := fun x => by subst x; rw [hz1] at hoe; cases hoe; simp at hce
  refine wpAny_setField_rec (s := { s with heap := h1 }) hz1 (by simp) fun h2 _ q2 => hE h2 e (fun c o dz _ d0 _ x => q2.extBut _ _ dz (q1 _ _ d0 (q0.extBut _ _ dz x))) ⟨oe, q2.extBut _ _ ez hoe, hce⟩
end
def Itzl (K : PySem.W.Frag) (l0 l1 : Addr) : It :=
  ⟨fun i H => ∃ (xs0 xs1 : List V) (x0 x1 : V), SqT K H l0 xs0 ∧ SqL K H l1 xs1 ∧ xs0[i]? = some x0 ∧ xs1[i]? = some x1,
    fun i H x H' => ∃ T, H T = none ∧ x = .ref T ∧ ∀ (xs0 xs1 : List V) (x0 x1 : V), SqT K H l0 xs0 → SqL K H l1 xs1 → xs0[i]? = some x0 → xs1[i]? = some x1 → H' = upd H T (.tup [x0, x1]),
    fun i H => ∃ xs0 xs1, SqT K H l0 xs0 ∧ SqL K H l1 xs1 ∧ xs0.length ≤ i⟩
theorem turn_zipl {P : Program} {w : World} {K : PySem.W.Frag} {es : List Expr} {kk : Nat} {tp : Pos} {n l0 l1 : Nat} (b0 : l0 < n) (b1 : l1 < n) : Turn P w K (.Tuple es kk tp) (Itzl K l0 l1) [n, (n + 1), (n + 2), (n + 3), (n + 4)] (n + 4) (ZSl n l0 l1) where
  mem := by simp
  obj := fun i h st b hb => by
    obtain ⟨hz, hI, ⟨arr, na, hO⟩, j0, j1⟩ := st
    have c : b = n ∨ b = (n + 1) ∨ b = (n + 2) ∨ b = (n + 3) ∨ b = (n + 4) := by simpa using hb
    rcases c with rfl | rfl | rfl | rfl | rfl
    · obtain ⟨o, e, c, d⟩ := j0; exact ⟨o, e, fun v z => by rw [d] at z; cases z⟩
    · obtain ⟨o, e, c, d⟩ := j1; exact ⟨o, e, fun v z => by rw [d] at z; cases z⟩
    · exact ⟨_, hI, fun v z => by cases z⟩
    · exact ⟨_, hO, fun v z => by cases z⟩
    · exact ⟨_, hz, fun v z => by cases z⟩
  keep := fun i h h' st k => by
    obtain ⟨hz, hI, ⟨arr, na, hO⟩, j0, j1⟩ := st
    exact ⟨k _ (by simp) _ hz, k _ (by simp) _ hI, ⟨arr, na, k _ (by simp) _ hO⟩, it_up (fun o e => k _ (by simp) o e) j0, il_up (fun o e => k _ (by simp) o e) j1⟩
  item := by
    intro X hP hw hK hc i pins s σ H E I hf st hg
    subst hP hw hK
    obtain ⟨xs0, xs1, x0, x1, q0, q1, e0, e1⟩ := hg
    obtain ⟨its0, rv0, p0, _⟩ := I.tuple q0 ; obtain ⟨u0, hu0, ru0⟩ := rv0.get e0
    obtain ⟨its1, rv1, p1, _⟩ := I.list q1 ; obtain ⟨u1, hu1, ru1⟩ := rv1.get e1
    obtain ⟨hz, hI, ⟨arr, na, hO⟩, j0, j1⟩ := st
    have hT : s.TypeIs (.ref (n + 4)) "zip" := ⟨_, hz, rfl⟩
    unfold pyNext
    refine wpAny_bind (wpAny_attempt (wpAny_callSpecial?_slot (name := Str.ofString "__next__") hT F.slot_zip_next (wpAny_call_entry F.slot_zip_next hT F.entry_zip_next (zipl_item na b0 b1 hz hI hO j0 j1 (show s.heap.IsTuple l0 its0.toArray from p0) (plainL_is p1) (show its0.toArray[i]? = some u0 by simpa using hu0) (show its1.toArray[i]? = some u1 by simpa using hu1) fun h1 z1 O1 m0 m1 T1 kp => wpAny_pure ⟨_, rfl, ?_⟩) (F.args_zip_next_1 _))))
    refine wpAny_letOwnedTupleGo_zip (s := { s with heap := h1 }) z1 fun h2 z2 r2 => ?_
    have kp2 : ∀ c o, c ∉ ([(n + 4), (n + 3), n, (n + 1)] : List Addr) → s.heap.get? c = some o → h2.get? c = some o := fun c o hc e => by
      simp only [List.mem_cons, List.not_mem_nil, or_false, not_or] at hc
      obtain ⟨dz, dO, d0, d1⟩ := hc
      exact r2.extBut _ _ dz (kp c o dz dO d0 d1 e)
    have lz : (n + 4) < s.heap.objs.size := Heap.lt_size hz
    have T2 : IsTp h2 s.heap.objs.size #[u0, u1] := r2.extBut _ _ (Nat.ne_of_gt lz) T1
    have hf' : ∀ b ∈ ([(n + 4), (n + 3), n, (n + 1)] : List Addr), FpOk X pins H b := fun b hb => hf b (by simp only [List.mem_cons, List.not_mem_nil, or_false] at hb ⊢; rcases hb with h | h | h | h <;> simp [h])
    have I2 : Inv X pins σ (upd H s.heap.objs.size (.tup [x0, x1])) { s with heap := h2 } := I.turnedN (t' := s.toks) [(n + 4), (n + 3), n, (n + 1)] hf' kp2 (Heap.get?_none_of_le (Nat.le_refl _)) ⟨smz (show 2 ≤ 1000 by decide), [u0, u1], .cons ru0 (.cons ru1 (.nil)), ⟨_, T2, rfl, rfl, _, rfl⟩⟩
    refine ⟨.ref s.heap.objs.size, _, I2, rfl, ⟨_, I.hok.fresh (Nat.le_refl _), rfl, fun ys0 ys1 y0 y1 g0 g1 f0 f1 => ?_⟩, ?_, fun b hb => ?_⟩
    · have := I.tuple_inj g0 q0 ; subst this ; have := e0.symm.trans f0 ; cases this
      have := I.list_inj g1 q1 ; subst this ; have := e1.symm.trans f1 ; cases this
      rfl
    · refine ⟨z2, r2.extBut _ _ (by show @Ne Nat _ _; omega) (kp _ _ (by show @Ne Nat _ _; omega) (by show @Ne Nat _ _; omega) (by show @Ne Nat _ _; omega) (by show @Ne Nat _ _; omega) hI), ⟨_, rfl, r2.extBut _ _ (by show @Ne Nat _ _; omega) O1⟩, it_ext r2.extBut (by show @Ne Nat _ _; omega) m0, il_ext r2.extBut (by show @Ne Nat _ _; omega) m1⟩
    · have l2 : b < s.heap.objs.size := by
        simp only [List.mem_cons, List.not_mem_nil, or_false] at hb
        have lz : @LT.lt Nat _ (n + 4) s.heap.objs.size := lz
        rcases hb with rfl | rfl | rfl | rfl | rfl <;> (show @LT.lt Nat _ _ s.heap.objs.size; omega)
      rw [upd_ne (Nat.ne_of_lt l2)] ; exact (hf b hb).1
  done := by
    intro X hP hw hK hc i pins s σ H E I hf st hg
    subst hP hw hK
    obtain ⟨xs0, xs1, q0, q1, hx⟩ := hg
    obtain ⟨its0, rv0, p0, _⟩ := I.tuple q0
    obtain ⟨its1, rv1, p1, _⟩ := I.list q1
    obtain ⟨hz, hI, ⟨arr, na, hO⟩, j0, j1⟩ := st
    have hT : s.TypeIs (.ref (n + 4)) "zip" := ⟨_, hz, rfl⟩ ; have hl := rv0.length
    unfold pyNext
    refine wpAny_bind (wpAny_attempt (wpAny_callSpecial?_slot (name := Str.ofString "__next__") hT F.slot_zip_next (wpAny_call_entry F.slot_zip_next hT F.entry_zip_next (zipl_end (I.ok.hd hc) b0 b1 hz hI hO j0 j1 (show s.heap.IsTuple l0 its0.toArray from p0) (plainL_is p1) (by simp; omega) fun h1 e kp he => ?_) (F.args_zip_next_1 _))))
    obtain ⟨o, ho, hco⟩ := he ; refine wpAny_bind (wpAny_isInstance (T := "StopIteration") (b := true) ⟨o, ho, hco⟩ isSubtype_stop (wpAny_pure ⟨rfl, ?_⟩))
    refine I.turnedL (t' := s.toks) [(n + 4), (n + 3), n, (n + 1)] (fun b hb => hf b (by simp only [List.mem_cons, List.not_mem_nil, or_false] at hb ⊢; rcases hb with h | h | h | h <;> simp [h])) fun c o hc e => ?_
    simp only [List.mem_cons, List.not_mem_nil, or_false, not_or] at hc
    obtain ⟨dz, dO, d0, d1⟩ := hc
    exact kp c o dz dO d0 d1 e
  self := fun A' i s Q E st h => wpAny_pyIter_zip st.1 h
abbrev zlH1 (h : Heap) (l0 : Addr) : Heap := (h).push { cls := .type "tuple_iterator", data := .fields #[.ref l0, .int 0 0] }
abbrev zlH2 (h : Heap) (l0 l1 : Addr) : Heap := (zlH1 h l0).push { cls := .type "list_iterator", data := .fields #[.ref l1, .int 0 0] }
abbrev zlH3 (h : Heap) (l0 l1 : Addr) : Heap := (zlH2 h l0 l1).push { cls := .type "tuple", data := .seq #[.ref h.objs.size, .ref (zlH1 h l0).objs.size] }
abbrev zlH4 (h : Heap) (l0 l1 : Addr) : Heap := (zlH3 h l0 l1).push { cls := .type "tuple", data := .seq #[.none, .none] }
abbrev zlH5 (h : Heap) (l0 l1 : Addr) : Heap := (zlH4 h l0 l1).push { cls := .type "zip", data := .fields #[.none, .bool false, .bool false, .ref (zlH2 h l0 l1).objs.size, .ref (zlH3 h l0 l1).objs.size] }
theorem meets_zipl (l0 l1 : Addr) (xs0 xs1 : Array Value) : Meets (Builtin.«zip.__new__» ⟨[.type "zip", .ref l0, .ref l1], []⟩) (fun _ R s => s.heap.IsTuple l0 xs0 ∧ s.heap.IsList l1 xs1 ∧ R (.ok (.ret (.ref (zlH4 s.heap l0 l1).objs.size))) { s with heap := zlH5 s.heap l0 l1 }) :=
  .of_wp fun prog w A R s h => by
    obtain ⟨hp, g, d, tk, os⟩ := s; obtain ⟨t0, t1, h⟩ := h
    have hsub := sub_zip
    have L0 : Heap.IsTuple (Shared.heap ⟨hp, g, d, tk, os⟩) l0 xs0 := t0
    have L1 : Heap.IsList (Shared.heap ⟨hp.push { cls := .type "tuple_iterator", data := .fields #[.ref l0, .int 0 0] }, g, d, tk, os⟩) l1 xs1 := Heap.IsList.push (t1) _
    wp_walk using wpAny_pyIter_tuple L0, wpAny_pyIter_list L1
    exact ⟨_, rfl, h⟩
theorem call_zipTL {prog : Program} {w : World} {A : Around} {E : Value → Shared → Prop} {s : Shared} {l0 l1 : Addr} {xs0 xs1 : Array Value} {Q : Value → Shared → Prop} (t0 : s.heap.IsTuple l0 xs0) (t1 : s.heap.IsList l1 xs1)
    (h : ∀ h', ZSl s.heap.objs.size l0 l1 0 h' → (∀ c o, s.heap.get? c = some o → h'.get? c = some o) → Q (.ref (s.heap.objs.size + 4)) { s with heap := h' }) : wpAny (model prog w) A (call (.type "zip") [.ref l0, .ref l1]) Q E s := by
  refine callType_new F.called_zip (by decide) (F.typeCall_zip_2 _ _) (F.newCall_zip_2 _ _) (fun obj => F.args_object_init_3 obj _ _) F.entry_zip_new (meets_zipl l0 l1 xs0 xs1) ⟨t0, t1, ?_⟩
  have z1 : (zlH1 s.heap l0).objs.size = s.heap.objs.size + 1 := Heap.size_push ..
  have z2 : (zlH2 s.heap l0 l1).objs.size = s.heap.objs.size + 2 := by rw [Heap.size_push, z1]
  have z3 : (zlH3 s.heap l0 l1).objs.size = s.heap.objs.size + 3 := by rw [Heap.size_push, z2]
  have z4 : (zlH4 s.heap l0 l1).objs.size = s.heap.objs.size + 4 := by rw [Heap.size_push, z3]
  have z5 : (zlH5 s.heap l0 l1).objs.size = s.heap.objs.size + 5 := by rw [Heap.size_push, z4]
  have g0 : (zlH5 s.heap l0 l1).get? (s.heap).objs.size = some _ := Heap.get?_push_of_some _ (Heap.get?_push_of_some _ (Heap.get?_push_of_some _ (Heap.get?_push_of_some _ (Heap.get?_push_size _ rfl))))
  have g1 : (zlH5 s.heap l0 l1).get? (zlH1 s.heap l0).objs.size = some _ := Heap.get?_push_of_some _ (Heap.get?_push_of_some _ (Heap.get?_push_of_some _ (Heap.get?_push_size _ rfl)))
  have g2 : (zlH5 s.heap l0 l1).get? (zlH2 s.heap l0 l1).objs.size = some _ := Heap.get?_push_of_some _ (Heap.get?_push_of_some _ (Heap.get?_push_size _ rfl))
  have g3 : (zlH5 s.heap l0 l1).get? (zlH3 s.heap l0 l1).objs.size = some _ := Heap.get?_push_of_some _ (Heap.get?_push_size _ rfl)
  have g4 : (zlH5 s.heap l0 l1).get? (zlH4 s.heap l0 l1).objs.size = some _ := Heap.get?_push_size _ rfl
  show _ ∧ _
  rw [z2, z3, z4] at g4
  rw [z3] at g3
  rw [z1, z2] at g2
  rw [z1] at g1
  rw [z4]
  exact ⟨⟨_, g4, rfl⟩, h _ ⟨g4, g2, ⟨_, rfl, g3⟩, ⟨_, g0, rfl, rfl⟩, ⟨_, g1, rfl, rfl⟩⟩ fun c o x => Heap.get?_push_of_some _ (Heap.get?_push_of_some _ (Heap.get?_push_of_some _ (Heap.get?_push_of_some _ (Heap.get?_push_of_some _ x))))⟩
def iZipl (K : PySem.W.Frag) (ta : TA) : TI := fun σ H R => ta σ H fun vs H1 => ∃ l0 l1, vs = [.ref l0, .ref l1] ∧ (∃ xs, SqT K H1 l0 xs) ∧ (∃ xs, SqL K H1 l1 xs) ∧ R (Itzl K l0 l1) H1
theorem pi_zipl {X : Cx} {a b : Expr} {ta : TA} {p pos tp : Pos} {es : List Expr} {kk : Nat} (hg : Gl X "zip") (hm : X.mg "zip" = none) (ha : PA X [a, b] ta) (hs : starEach [a, b] X.env = [(false, eval a X.env), (false, eval b X.env)] := by rfl) (hs2 : starEach [b] X.env = [(false, eval b X.env)] := by rfl) :
    PI X (.Tuple es kk tp) (.Call (.Name "zip" p) [a, b] [] pos) (iZipl X.K ta) := by
  intro pins s σ H R I h
  refine Call_ (ld_blt I hg hm boot_zip (PyProof.Rows.callWith_type1 (thn (ha pos pins s σ H _ I h) fun us s1 ⟨vs, H1, I1, r1, q1⟩ => ?_) (by rw [hs, hs2]) (by rw [hs2]; rfl)))
  obtain ⟨l0, l1, e, ⟨xs0, q0⟩, ⟨xs1, q2⟩, q⟩ := q1
  subst e
  obtain ⟨u, v, rfl, r, r'⟩ := r1.two
  cases r
  cases r'
  obtain ⟨its0, rv0, p0, _⟩ := I1.tuple q0
  obtain ⟨its1, rv1, p1, _⟩ := I1.list q2
  refine call_zipTL (show s1.heap.IsTuple l0 its0.toArray from p0) (plainL_is p1) fun h' zs kp => ?_
  refine wpAny_pyIter_zip (s := { s1 with heap := h' }) zs.1 ⟨_, _, _, _, H1, rfl, I1.kept (t' := s1.toks) kp, turn_zipl p0.lt (plainL_lt p1), zs, fun b hb => ?_, q⟩
  have hb' : s1.heap.objs.size ≤ b := by
    simp only [List.mem_cons, List.not_mem_nil, or_false] at hb
    rcases hb with rfl | rfl | rfl | rfl | rfl <;> (show @LE.le Nat _ _ _; omega)
  exact I1.fpOk hb' (I1.hok.fresh hb')
end L2
namespace L2
open PySem PySem.Spec PyProof.Rows
section
variable {K : PySem.W.Frag} {X : Cx}
def iZipLD (t : TDa) : TDi := fun σ S R Z => t σ S (fun ds S1 => ∃ xs b ys, ds = [.tup xs, .ref b] ∧ S1 b = some (.lst ys) ∧ xs.length = ys.length ∧ R ⟨pairsD xs ys, fun S => SqD S (.ref b) ys⟩ S1) Z
theorem izl {a c : Expr} {t : TDa} {p pos tp : Pos} {es : List Expr} {kk : Nat} (hm : X.mg "zip" = none) (ha : DA K X [a, c] t) (hg : Gl X "zip" := by rfl) (hs : starEach [a, c] X.env = [(false, eval a X.env), (false, eval c X.env)] := by rfl) (hs2 : starEach [c] X.env = [(false, eval c X.env)] := by rfl) (hK : X.K = K := by rfl) :
    DI K X (.Tuple es kk tp) (.Call (.Name "zip" p) [a, c] [] pos) (iZipLD t) := by
  subst hK
  exact ⟨fun y => (pi_zipl (X := y.cx) hg hm (ha.of y) hs hs2).mono fun τ H R ⟨σ, S, RI, Z, hσ, hS, q, hR, hZ⟩ => ⟨σ, S, _, Z, hσ, hS, q, fun ds S1 vs H1 ⟨xs, bb, ys, e, hb, hl, r1⟩ v1 s1 k1 => by
    subst e
    obtain ⟨v, u, rfl, ra, rb⟩ := v1.two
    obtain ⟨a, va, rfl, qa, ta⟩ := ra.tup
    obtain ⟨b, vb, rfl, qb, tb⟩ := SqD.at (show SqD S1 (.ref bb) ys from hb) s1 rb
    refine ⟨a, b, rfl, ⟨va, .of qa⟩, ⟨vb, qb⟩, hR _ S1 _ H1 r1 (fun i S2 H2 k2 s2 ok2 => ?_) s1 k1⟩
    have qa2 : SqT X.K H2 a va := .of (k2.t _ _ qa)
    obtain ⟨b2, vb2, e2, qb2, tb2⟩ := SqD.at ok2 s2 (Rv.ts k2 _ rb)
    cases e2
    have la : va.length = xs.length := ta.len
    have lb : vb2.length = ys.length := tb2.len
    refine ⟨fun d hd => ?_, fun h => ⟨va, vb2, qa2, qb2, by unfold pairsD at h; rw [List.length_zipWith] at h; omega⟩⟩
    unfold pairsD at hd
    obtain ⟨x, y', e1, e2, e3⟩ := List.getElem?_zipWith_eq_some.mp hd
    subst e3
    obtain ⟨vx, f1, g1⟩ := (RvAll.ts k2 _ ta).get e1
    obtain ⟨vy, f2, g2⟩ := tb2.get e2
    refine ⟨⟨va, vb2, vx, vy, qa2, qb2, f1, f2⟩, fun x' H' ⟨T, hT, e4, e5⟩ => ?_⟩
    have := e5 va vb2 vx vy qa2 qb2 f1 f2
    subst this e4
    have kk : Kp X.K H2 (upd H2 T (.tup [vx, vy])) := .new hT
    exact ⟨rv_tup upd_same (RvAll.ts kk _ (ra_cons g1 (ra_cons g2 ra_nil))), kk, s2.grow hT⟩, hZ⟩⟩
theorem cgn {N : List Str} {scope : Scope} {a b c : Str} {p p' p2 p3 p4 : Pos} {j j' : Nat} (nd : N.Nodup) (h0 : N[0]? = some a := by rfl) (h1 : N[1]? = some b := by rfl) (h2 : N[2]? = some c := by rfl)
    (hx : ∀ C s H ex pn, Loc (cxC X N scope C s H ex pn).env.scope a ∧ (cxC X N scope C s H ex pn).env.scope.names.lookup a = some .local := by intro _ _ _ _ _; exact ⟨Or.inl rfl, rfl⟩)
    (hy : ∀ C s H ex pn, Loc (cxC X N scope C s H ex pn).env.scope b ∧ (cxC X N scope C s H ex pn).env.scope.names.lookup b = some .local := by intro _ _ _ _ _; exact ⟨Or.inl rfl, rfl⟩)
    (hz : ∀ C s H ex pn, Loc (cxC X N scope C s H ex pn).env.scope c ∧ (cxC X N scope C s H ex pn).env.scope.names.lookup c = some .local := by intro _ _ _ _ _; exact ⟨Or.inl rfl, rfl⟩)
    (hl : ∀ env : Env, (assignEach [.Name a p, .Name b p'] env).length = 2 ∧ (assignEach [.Name a p, .Name b p'] env).findIdx? (·.1) = none ∧ (assignEach [.Name a p, .Name b p'] env).map (·.2) = assign (.Name a p) env :: (assignEach [.Name b p'] env).map (·.2) ∧ (assignEach [.Name b p'] env).map (·.2) = assign (.Name b p') env :: (assignEach [] env).map (·.2) := by intro _; exact ⟨rfl, rfl, rfl, rfl⟩)
    (hl2 : ∀ env : Env, (assignEach [.Tuple [.Name a p, .Name b p'] j p2, .Name c p3] env).length = 2 ∧ (assignEach [.Tuple [.Name a p, .Name b p'] j p2, .Name c p3] env).findIdx? (·.1) = none ∧ (assignEach [.Tuple [.Name a p, .Name b p'] j p2, .Name c p3] env).map (·.2) = assign (.Tuple [.Name a p, .Name b p'] j p2) env :: (assignEach [.Name c p3] env).map (·.2) ∧ (assignEach [.Name c p3] env).map (·.2) = assign (.Name c p3) env :: (assignEach [] env).map (·.2) := by intro _; exact ⟨rfl, rfl, rfl, rfl⟩)
    (hK : X.K = K := by rfl) (hc : X.calm = true := by rfl) :
    ∀ C s H ex pn, PG (cxC X N scope C s H ex pn) (.Tuple [.Tuple [.Name a p, .Name b p'] j p2, .Name c p3] j' p4) (gTup K 2 (gCons (gTup K 2 (gCons (gName 0) (gCons (gName 1) gNil))) (gCons (gName 2) gNil))) := fun C s H ex pn => by
  subst hK
  have e := hl (cxC X N scope C s H ex pn).env
  have e2 := hl2 (cxC X N scope C s H ex pn).env
  exact pg_tup (X := cxC X N scope C s H ex pn) hc (pgs_cons (pg_tup (X := cxC X N scope C s H ex pn) hc (pgs_cons (pg_name (i := 0) nd h0 (hx C s H ex pn).1 (.inr (hx C s H ex pn).2)) (pgs_cons (pg_name (i := 1) nd h1 (hy C s H ex pn).1 (.inr (hy C s H ex pn).2)) pgs_nil e.2.2.2) e.2.2.1) e.1 e.2.1) (pgs_cons (pg_name (i := 2) nd h2 (hz C s H ex pn).1 (.inr (hz C s H ex pn).2)) pgs_nil e2.2.2.2) e2.2.2.1) e2.1 e2.2.1
theorem gd_nest {i j k : Nat} : ∀ v τ H Q, Tg K (gdTup 2 (gdCons (gdTup 2 (gdCons (gdN i) (gdCons (gdN j) gdNil))) (gdCons (gdN k) gdNil))) v τ H Q → gTup K 2 (gCons (gTup K 2 (gCons (gName i) (gCons (gName j) gNil))) (gCons (gName k) gNil)) v τ H Q := fun v τ H Q ⟨d, σ, S, R, rv, hσ, hS, ⟨ds, e, hl, d1, r, e1, ⟨ds2, f, hl2, a, r2, f1, b, r3, f2, f3, c, r4, e2, e3, q⟩⟩, hR⟩ => by
  subst e e1 f f1 f2 f3 e2 e3
  obtain ⟨p, xs, rfl, hp, t⟩ := rv.tup
  obtain ⟨v1, v2, rfl, r1, r2⟩ := t.two
  obtain ⟨p', xs', rfl, hp', t'⟩ := r1.tup
  obtain ⟨u1, u2, rfl, s1, s2⟩ := t'.two
  exact ⟨p, _, rfl, .of hp, rfl, .ref p', [v2], rfl, p', _, rfl, .of hp', rfl, u1, [u2], rfl, u2, [], rfl, rfl, v2, [], rfl, rfl, hR _ S _ H q (((hσ.set i s1).set j s2).set k r2) hS (.refl _)⟩
end
end L2
namespace L2
open PySem PySem.Spec PyProof.Rows
open PySem.Builtin PySem.Builtin.Str
def repOne (x y z : Str) : Str :=
  if ((occurrences x y 0 x.length 1).isEmpty || (y.length == 0 && z.length == 0)) = true then x
  else glued z (partsBetween x (occurrences x y 0 x.length 1) y.length)
theorem gives_replace1 (x y z : Str) (t u v k : Tok)
    (hf : ((occurrences x y 0 x.length 1).isEmpty || (y.length == 0 && z.length == 0)) = false → (u == 0 || v == 0) = false ∧ (u == v) = false ∧ (y == z) = false ∧ tooLong (x.length + (occurrences x y 0 x.length 1).length * z.length) = false) :
    Gives («str.replace» ⟨[.str x t, .str y u, .str z v, .int 1 k], []⟩) (if ((occurrences x y 0 x.length 1).isEmpty || (y.length == 0 && z.length == 0)) = true then .val (.str x t) else .str (glued z (partsBetween x (occurrences x y 0 x.length 1) y.length))) := by
  have hcl : countLimit "str.replace" (some (.int 1 k)) (x.length + 1) = pure 1 := countLimit_int "str.replace" 1 k (x.length + 1) (by decide)
  show Gives (countLimit "str.replace" (some (.int 1 k)) (x.length + 1) >>= fun limit => if ((occurrences x y 0 x.length limit).isEmpty || (y.length == 0 && z.length == 0)) = true then (do rule "str.replace.nothing"; ret (.str x t)) else
          (do let same ← isSame (.str y u) (.str z v)
              if same = true then (do rule "str.replace.old-is-new"; ret (.str x t)) else
              if tooLong (x.length + (occurrences x y 0 x.length limit).length * z.length) = true then unsupported "str.replace:memory" else
              retStr (glued z (partsBetween x (occurrences x y 0 x.length limit) y.length)))) _
  rw [hcl]
  show Gives (if ((occurrences x y 0 x.length 1).isEmpty || (y.length == 0 && z.length == 0)) = true then (do rule "str.replace.nothing"; ret (.str x t)) else
          (do let same ← isSame (.str y u) (.str z v)
              if same = true then (do rule "str.replace.old-is-new"; ret (.str x t)) else
              if tooLong (x.length + (occurrences x y 0 x.length 1).length * z.length) = true then unsupported "str.replace:memory" else
              retStr (glued z (partsBetween x (occurrences x y 0 x.length 1) y.length)))) _
  cases hc : ((occurrences x y 0 x.length 1).isEmpty || (y.length == 0 && z.length == 0))
  · obtain ⟨h0, huv, hyz, hl⟩ := hf hc
    rw [isSame_str_other y z u v h0 huv hyz, hl]
    exact .of_eq rfl
  · exact .rule (.of_eq rfl)
theorem fits1 {x z : Str} (y : Str) : (glued z (partsBetween x (occurrences x y 0 x.length 1) y.length)).length ≤ x.length + z.length := by
  have h1 := StrLaws.occ_length_le x y 0 x.length 1
  have hy : (glued y (partsBetween x (occurrences x y 0 x.length 1) y.length)).length = x.length := by rw [StrLaws.glued_between_self]
  rw [size_glued, length_partsBetween, Nat.add_sub_cancel] at hy
  rw [size_glued, length_partsBetween, Nat.add_sub_cancel]
  have h2 : (occurrences x y 0 x.length 1).length * z.length ≤ 1 * z.length := Nat.mul_le_mul_right _ h1
  omega
theorem repOne_len (x y z : Str) : (repOne x y z).length ≤ x.length + z.length := by
  unfold repOne
  split
  · omega
  · exact fits1 y
theorem repOne_mem (x y z : Str) : ∀ c ∈ (repOne x y z).cps.toList, c ∈ x.cps.toList ∨ c ∈ z.cps.toList := by
  unfold repOne
  split
  · exact fun c h => .inl h
  · intro c h
    rw [StrLaws.glued_eq_join, mem_join] at h
    rcases h with ⟨p, hp, hc⟩ | ⟨_, hc⟩
    · left
      have e := StrLaws.glued_between_self x y 1
      rw [StrLaws.glued_eq_join] at e
      rw [← e, mem_join]
      exact .inl ⟨p, hp, hc⟩
    · exact .inr hc
theorem call_replace1 {prog : Program} {w : World} {A : Around} {E : Value → Shared → Prop} {s : Shared} {x y z : Str} {t u v k : Tok} {Q : Value → Shared → Prop} (hu : u ≠ 0) (hv : v ≠ 0) (huv : u ≠ v) (hyz : (y == z) = false) (hb : x.length + z.length ≤ 1000000)
    (hq : ∀ t' k, Q (.str (repOne x y z) t') { s with toks := k }) : wpAny (model prog w) A (call (.builtin "str.replace") [.str x t, .str y u, .str z v, .int 1 k]) Q E s := by
  have h1 := StrLaws.occ_length_le x y 0 x.length 1
  have h2 : (occurrences x y 0 x.length 1).length * z.length ≤ 1 * z.length := Nat.mul_le_mul_right _ h1
  have hl : tooLong (x.length + (occurrences x y 0 x.length 1).length * z.length) = false := by
    unfold tooLong
    exact decide_eq_false (by rw [sizeLine_eq]; omega)
  refine call_gives F.slot_str_replace (typeIs_str _ _ _) F.entry_str_replace (F.args_str_replace_4 _ _ _ _)
    (gives_replace1 x y z t u v k fun _ => ⟨by simp [hu, hv], by simp [huv], hyz, hl⟩) ?_
  have hq' := hq
  unfold repOne at hq'
  cases hc : ((occurrences x y 0 x.length 1).isEmpty || (y.length == 0 && z.length == 0))
  · rw [hc] at hq'
    simp only [Bool.false_eq_true, if_false] at hq' ⊢
    exact ⟨Nat.le_trans (fits1 y) (by rw [sizeLine_eq]; omega), hq' _ _⟩
  · rw [hc] at hq'
    simp only [if_true] at hq' ⊢
    exact hq' t s.toks
structure M3 (X : Cx) (o : Expr) (m : Str) (apos : Pos) (e f g : Expr) (cpos : Pos) : Prop where
  base : attributeBase o m X.env (eval o X.env) = eval o X.env
  few : ((backTo cpos (starEach [e, f, g] X.env)).all (fun x => !x.1) && (backToKw cpos (keywordEach [] X.env)).all (fun x => x.1.isSome)
    && decide (([e, f, g] : List Expr).length + ([] : List Keyword).length + (if ([] : List Keyword).isEmpty then 0 else 1) < 30)) = true
  line : (apos.endLine == cpos.line) = true
  trees : backTo cpos (starEach [e, f, g] X.env) = [(false, eval e X.env), (false, eval f X.env), (false, eval g X.env)]
section
variable {X : Cx} {e o : Expr} {t : TE}
def tRep1 (y z : Str) (t : TE) : TE := fun σ H Q => t σ H fun x H1 => ∃ u, x = .str u ∧ u.length + z.length ≤ 1000000 ∧ Q (.str (repOne u y z)) H1
theorem pe_rep1 {pre : Nat} {y z : Str} {j k l : Nat} {p1 p2 p3 apos cpos : Pos} (ho : PEg pre X o t) (hyz : (y == z) = false) (m : M3 X o "replace" apos (.Constant (.str y) j p1) (.Constant (.str z) k p2) (.Constant (.int 1) l p3) cpos) : PEg pre X (.Call (.Attribute o "replace" apos) [.Constant (.str y) j p1, .Constant (.str z) k p2, .Constant (.int 1) l p3] [] cpos) (tRep1 y z t) := by
  intro pins s σ H Q I hs h
  refine wpAny_Call_method m.base m.few m.line PySem.F.plainAttrs_str PySem.F.slot_str_replace PySem.F.type_str_replace (thn (ho pins s σ H _ I hs h) fun u s1 ⟨⟨x, H1, I1, rx, z', ex, hz, q⟩, ht⟩ => ?_)
  subst ex
  obtain ⟨tk, rfl⟩ := rx
  refine ⟨typeIs_str _ _ _, fun b q => (by cases q), ?_⟩
  rw [m.trees]
  refine Calls.callWith_builtin rfl (Calls.evalArgs_plain (Calls.spliced_cons (Calls.Constant_str (Calls.spliced_cons (Calls.Constant_str (Calls.spliced_cons (wpAny_Constant_int (Calls.spliced_nil ?_))))))))
  refine wpAny_with_toks (n := 1) (by show 1 ≤ s1.toks + 1 + 1 + 1; omega) (call_replace1 (u := s1.toks) (v := s1.toks + 1) ?_ ?_ ?_ hyz hz fun t' k hk => ⟨⟨.str _, H1, ?_, ⟨_, rfl⟩, q⟩, hk⟩)
  · exact Nat.ne_of_gt ht
  · exact Nat.succ_ne_zero _
  · exact (Nat.succ_ne_self _).symm
  · exact I1.tok k
theorem pe_addP {tb : TE} {c : Str} {j : Nat} {p1 pos : Pos} {r : R2} (ho : OpR X (binaryOp .Add) r) (hb : PE X e tb) : PEg 0 X (.BinOp (.Constant (.str c) j p1) .Add e pos) (fun σ H Q => tb σ H fun y H1 => r (.str c) y H1 Q) := by
  intro pins s σ H Q I _ h
  refine wpAny_BinOp (Calls.Constant_str ?_)
  have h1 := wpAny_toks_of (n := 1) (show 1 ≤ ({ s with toks := s.toks + 1 } : Shared).toks by show 1 ≤ s.toks + 1; omega) (hb pins { s with toks := s.toks + 1 } σ H _ (I.tok _) h)
  refine wpAny_mono h1 (fun u s2 ⟨ht, y, H2, I2, r2, q2⟩ => ?_) fun _ _ q => q.2
  exact wpAny_mono (wpAny_toks_of ht (ho pins s2 σ H2 (.str c) y (.str c s.toks) u Q I2 ⟨_, rfl⟩ r2 q2)) (fun _ _ q => ⟨q.2, q.1⟩) fun _ _ q => q.2
def PAg (pre : Nat) (X : Cx) (es : List Expr) (t : TA) : Prop :=
  ∀ (pos : Pos) (pins : List (Addr × Obj)) (s : Shared) (σ : St) (H : Hp) (Q : List V → Hp → Prop), Inv X pins σ H s → pre ≤ s.toks → t σ H Q → wpAny (model X.prog X.w) X.A (spliced (backTo pos (starEach es X.env))) (AP X pins σ Q) X.xe s
theorem pag_of {pre : Nat} {es : List Expr} {ta : TA} (h : PA X es ta) : PAg pre X es ta := fun pos pins s σ H Q I _ q => h pos pins s σ H Q I q
theorem pag_cons {pre : Nat} {es : List Expr} {te : TE} {ta : TA} (ha : PEg pre X e te) (hr : PAg 1 X es ta) (hp : isPlain e = true := by rfl) : PAg pre X (e :: es) (tCons te ta) := by
  intro pos pins s σ H Q I hn h
  rw [star_plain hp]
  show wpAny _ _ (spliced ((false, eval e X.env) :: backTo pos (starEach es X.env))) _ _ s
  refine Calls.spliced_cons (thn (ha pins s σ H _ I hn h) fun u s1 ⟨⟨x, H1, I1, r1, q1⟩, ht⟩ => ?_)
  exact thn (hr pos pins s1 σ H1 _ I1 ht q1) fun us s2 ⟨xs, H2, I2, r2, q2⟩ => ⟨x :: xs, H2, I2, .cons r1 r2, q2⟩
theorem pag_pa {es : List Expr} {ta : TA} (h : PAg 0 X es ta) : PA X es ta := fun pos pins s σ H Q I q => h pos pins s σ H Q I (Nat.zero_le _) q
end
section
variable {K : PySem.W.Frag} {X : Cx} {e o : Expr}
structure DAg (pre : Nat) (K : PySem.W.Frag) (X : Cx) (es : List Expr) (t : TDa) : Prop where
  of : ∀ {b : Bool} (y : Ev X b), PAg pre y.cx es (Ta K y.E t)
theorem gp {te : TD} {c : Str} {j : Nat} {p1 pos : Pos} (he : DE K X e te) (hu : X.A.units + 64 < cLine) (hK : X.K = K := by rfl) : DEg 0 K X (.BinOp (.Constant (.str c) j p1) .Add e pos) (dAddG c te) :=
  ⟨fun y => (pe_addP (X := y.cx) (o_add y.cx hK hu) (he.of y)).mono fun τ H Q ⟨σ, S, R, Z, hσ, hS, q, hR, hZ⟩ =>
    ⟨σ, S, _, Z, hσ, hS, q, fun d S1 x H1 r1 v1 s1 k1 => ⟨.str c, d, S1, R, rv_str c, v1, s1, r1, hR.kp k1⟩, hZ⟩⟩
def dRep1 (y z : Str) (to : TD) : TD := fun σ S R Z => to σ S (fun x S1 => ∃ u, x = .str u ∧ u.length + z.length ≤ 1000000 ∧ R (.str (repOne u y z)) S1) Z
theorem gr1 {pre : Nat} {to : TD} {y z : Str} {j k l : Nat} {p1 p2 p3 apos cpos : Pos} (ho : DEg pre K X o to) (hyz : (y == z) = false := by decide) (m : M3 X o "replace" apos (.Constant (.str y) j p1) (.Constant (.str z) k p2) (.Constant (.int 1) l p3) cpos := by exact ⟨rfl, rfl, rfl, rfl⟩) :
    DEg pre K X (.Call (.Attribute o "replace" apos) [.Constant (.str y) j p1, .Constant (.str z) k p2, .Constant (.int 1) l p3] [] cpos) (dRep1 y z to) :=
  ⟨fun q => (pe_rep1 (X := q.cx) (ho.of q) hyz ⟨m.base, m.few, m.line, m.trees⟩).mono fun τ H Q ⟨σ, S, R, Z, hσ, hS, h, hR, hZ⟩ =>
    ⟨σ, S, _, Z, hσ, hS, h, fun d S1 x H1 ⟨u, e1, h1, r1⟩ v1 s1 k1 => by subst e1; exact ⟨u, v1.str, h1, (hR.kp k1).now s1 r1 (rv_str _)⟩, hZ⟩⟩
theorem agc {pre : Nat} {es : List Expr} {t : TD} {u : TDa} (h : DEg pre K X e t) (hr : DAg 1 K X es u) (hp : isPlain e = true := by rfl) : DAg pre K X (e :: es) (aCons t u) :=
  ⟨fun y pos pins s τ H Q I hn ⟨σ, S, R, Z, hσ, hS, q, hR, hZ⟩ => pag_cons (h.of y) (hr.of y) hp pos pins s τ H Q I hn
    ⟨σ, S, _, Z, hσ, hS, q, fun d S1 x H1 r1 v1 s1 k1 => ⟨σ, S1, _, Z, hσ.ts k1, s1, r1, fun ds S2 xs H2 r2 v2 s2 k2 => hR (d :: ds) S2 (x :: xs) H2 r2 (ra_cons (Rv.ts k2 _ v1) v2) s2 (k1.trans k2), hZ.kp k1⟩, hZ⟩⟩
theorem ago {pre : Nat} {es : List Expr} {u : TDa} (h : DA K X es u) : DAg pre K X es u := ⟨fun y => pag_of (h.of y)⟩
theorem agd {es : List Expr} {u : TDa} (h : DAg 0 K X es u) : DA K X es u := ⟨fun y => pag_pa (h.of y)⟩
end
end L2
namespace My
open PySem L2
def top (i : Nat) : Stmt := PySem.Challenge.pw_pageturns_k62_texts_of_no_row.main.body.getD i (.Pass ⟨0, 0, 0, 0⟩)
abbrev s_is_whole : Stmt := top 11
abbrev s_is_letter : Stmt := top 12
abbrev s_is_figure : Stmt := top 13
abbrev s_is_key : Stmt := top 14
abbrev s_is_word : Stmt := top 15
abbrev s_is_value : Stmt := top 16
abbrev s_check_row : Stmt := top 18
abbrev s_are_worths : Stmt := top 19
abbrev s_value_text : Stmt := top 22
abbrev s_is_value_text : Stmt := top 23
abbrev s_value_of_text : Stmt := top 24
abbrev s_is_number_text : Stmt := top 25
abbrev s_read_row : Stmt := top 27
abbrev s_row_in : Stmt := top 28
abbrev s_words_of : Stmt := top 29
abbrev s_check_names : Stmt := top 30
abbrev s_value_in_word : Stmt := top 31
abbrev s_l_well : Stmt := top 33
abbrev s_l_draw : Stmt := top 34
abbrev s_l_columns : Stmt := top 35
abbrev s_l_number : Stmt := top 36
abbrev s_l_word : Stmt := top 37
abbrev s_l_value : Stmt := top 38
abbrev s_l_key : Stmt := top 39
abbrev s_l_value_text : Stmt := top 40
abbrev s_l_are_figures : Stmt := top 41
abbrev s_l_fits : Stmt := top 42
abbrev s_l_told : Stmt := top 43
abbrev s_l_is_value_text : Stmt := top 44
abbrev s_l_is_key : Stmt := top 45
abbrev s_l_menu : Stmt := top 46
abbrev s_l_spoiled : Stmt := top 47
abbrev s_l_due : Stmt := top 48
abbrev s_l_found : Stmt := top 49
abbrev s_law : Stmt := top 50
structure Adr where
  f_is_whole : Addr
  d_is_whole : FuncData
  f_is_letter : Addr
  d_is_letter : FuncData
  f_is_figure : Addr
  d_is_figure : FuncData
  f_is_key : Addr
  d_is_key : FuncData
  f_is_word : Addr
  d_is_word : FuncData
  f_is_value : Addr
  d_is_value : FuncData
  f_check_row : Addr
  d_check_row : FuncData
  f_are_worths : Addr
  d_are_worths : FuncData
  f_value_text : Addr
  d_value_text : FuncData
  f_is_value_text : Addr
  d_is_value_text : FuncData
  f_value_of_text : Addr
  d_value_of_text : FuncData
  f_is_number_text : Addr
  d_is_number_text : FuncData
  f_read_row : Addr
  d_read_row : FuncData
  f_row_in : Addr
  d_row_in : FuncData
  f_words_of : Addr
  d_words_of : FuncData
  f_check_names : Addr
  d_check_names : FuncData
  f_value_in_word : Addr
  d_value_in_word : FuncData
  f_l_well : Addr
  d_l_well : FuncData
  f_l_draw : Addr
  d_l_draw : FuncData
  f_l_columns : Addr
  d_l_columns : FuncData
  f_l_number : Addr
  d_l_number : FuncData
  f_l_word : Addr
  d_l_word : FuncData
  f_l_value : Addr
  d_l_value : FuncData
  f_l_key : Addr
  d_l_key : FuncData
  f_l_value_text : Addr
  d_l_value_text : FuncData
  f_l_are_figures : Addr
  d_l_are_figures : FuncData
  f_l_fits : Addr
  d_l_fits : FuncData
  f_l_told : Addr
  d_l_told : FuncData
  f_l_is_value_text : Addr
  d_l_is_value_text : FuncData
  f_l_is_key : Addr
  d_l_is_key : FuncData
  f_l_menu : Addr
  d_l_menu : FuncData
  f_l_spoiled : Addr
  d_l_spoiled : FuncData
  f_l_due : Addr
  d_l_due : FuncData
  f_l_found : Addr
  d_l_found : FuncData
  f_law : Addr
  d_law : FuncData
  t_MOST_KEY_SIGNS : Tok
  t_MOST_WORD_SIGNS : Tok
  t_MOST_NUMBER_FIGURES : Tok
  c_PageError : Addr
  c_BadColumns : Addr
  c_BadRow : Addr
  c_BadOrder : Addr
  c_BadSieve : Addr
  c_NoMark : Addr
  c_NoText : Addr
structure Txt (K : PySem.W.Frag) (mg : Str → Option Value) (t : Adr) : Prop where
  F_is_whole : FunV K "is_whole" "is_whole" s_is_whole t.f_is_whole t.d_is_whole
  b_is_whole : Binds K t.d_is_whole ["thing"] []
  k_is_whole : PySem.W.keepIn K (.ref t.f_is_whole) = true
  mg_is_whole : mg "is_whole" = some (.ref t.f_is_whole)
  F_is_letter : FunV K "is_letter" "is_letter" s_is_letter t.f_is_letter t.d_is_letter
  b_is_letter : Binds K t.d_is_letter ["sign"] []
  k_is_letter : PySem.W.keepIn K (.ref t.f_is_letter) = true
  mg_is_letter : mg "is_letter" = some (.ref t.f_is_letter)
  F_is_figure : FunV K "is_figure" "is_figure" s_is_figure t.f_is_figure t.d_is_figure
  b_is_figure : Binds K t.d_is_figure ["sign"] []
  k_is_figure : PySem.W.keepIn K (.ref t.f_is_figure) = true
  mg_is_figure : mg "is_figure" = some (.ref t.f_is_figure)
  F_is_key : FunV K "is_key" "is_key" s_is_key t.f_is_key t.d_is_key
  b_is_key : Binds K t.d_is_key ["thing"] []
  k_is_key : PySem.W.keepIn K (.ref t.f_is_key) = true
  mg_is_key : mg "is_key" = some (.ref t.f_is_key)
  F_is_word : FunV K "is_word" "is_word" s_is_word t.f_is_word t.d_is_word
  b_is_word : Binds K t.d_is_word ["thing"] []
  k_is_word : PySem.W.keepIn K (.ref t.f_is_word) = true
  mg_is_word : mg "is_word" = some (.ref t.f_is_word)
  F_is_value : FunV K "is_value" "is_value" s_is_value t.f_is_value t.d_is_value
  b_is_value : Binds K t.d_is_value ["kind", "thing"] []
  k_is_value : PySem.W.keepIn K (.ref t.f_is_value) = true
  mg_is_value : mg "is_value" = some (.ref t.f_is_value)
  F_check_row : FunV K "check_row" "check_row" s_check_row t.f_check_row t.d_check_row
  b_check_row : Binds K t.d_check_row ["columns", "row"] []
  k_check_row : PySem.W.keepIn K (.ref t.f_check_row) = true
  mg_check_row : mg "check_row" = some (.ref t.f_check_row)
  F_are_worths : FunV K "are_worths" "are_worths" s_are_worths t.f_are_worths t.d_are_worths
  b_are_worths : Binds K t.d_are_worths ["columns", "thing"] []
  k_are_worths : PySem.W.keepIn K (.ref t.f_are_worths) = true
  mg_are_worths : mg "are_worths" = some (.ref t.f_are_worths)
  F_value_text : FunV K "value_text" "value_text" s_value_text t.f_value_text t.d_value_text
  b_value_text : Binds K t.d_value_text ["value"] []
  k_value_text : PySem.W.keepIn K (.ref t.f_value_text) = true
  mg_value_text : mg "value_text" = some (.ref t.f_value_text)
  F_is_value_text : FunV K "is_value_text" "is_value_text" s_is_value_text t.f_is_value_text t.d_is_value_text
  b_is_value_text : Binds K t.d_is_value_text ["text"] []
  k_is_value_text : PySem.W.keepIn K (.ref t.f_is_value_text) = true
  mg_is_value_text : mg "is_value_text" = some (.ref t.f_is_value_text)
  F_value_of_text : FunV K "value_of_text" "value_of_text" s_value_of_text t.f_value_of_text t.d_value_of_text
  b_value_of_text : Binds K t.d_value_of_text ["text"] []
  k_value_of_text : PySem.W.keepIn K (.ref t.f_value_of_text) = true
  mg_value_of_text : mg "value_of_text" = some (.ref t.f_value_of_text)
  F_is_number_text : FunV K "is_number_text" "is_number_text" s_is_number_text t.f_is_number_text t.d_is_number_text
  b_is_number_text : Binds K t.d_is_number_text ["text", "most"] []
  k_is_number_text : PySem.W.keepIn K (.ref t.f_is_number_text) = true
  mg_is_number_text : mg "is_number_text" = some (.ref t.f_is_number_text)
  F_read_row : FunV K "read_row" "read_row" s_read_row t.f_read_row t.d_read_row
  b_read_row : Binds K t.d_read_row ["columns", "text"] []
  k_read_row : PySem.W.keepIn K (.ref t.f_read_row) = true
  mg_read_row : mg "read_row" = some (.ref t.f_read_row)
  F_row_in : FunV K "row_in" "row_in" s_row_in t.f_row_in t.d_row_in
  b_row_in : Binds K t.d_row_in ["text"] []
  k_row_in : PySem.W.keepIn K (.ref t.f_row_in) = true
  mg_row_in : mg "row_in" = some (.ref t.f_row_in)
  F_words_of : FunV K "words_of" "words_of" s_words_of t.f_words_of t.d_words_of
  b_words_of : Binds K t.d_words_of ["text"] []
  k_words_of : PySem.W.keepIn K (.ref t.f_words_of) = true
  mg_words_of : mg "words_of" = some (.ref t.f_words_of)
  F_check_names : FunV K "check_names" "check_names" s_check_names t.f_check_names t.d_check_names
  b_check_names : Binds K t.d_check_names ["words"] []
  k_check_names : PySem.W.keepIn K (.ref t.f_check_names) = true
  mg_check_names : mg "check_names" = some (.ref t.f_check_names)
  F_value_in_word : FunV K "value_in_word" "value_in_word" s_value_in_word t.f_value_in_word t.d_value_in_word
  b_value_in_word : Binds K t.d_value_in_word ["word"] []
  k_value_in_word : PySem.W.keepIn K (.ref t.f_value_in_word) = true
  mg_value_in_word : mg "value_in_word" = some (.ref t.f_value_in_word)
  F_l_well : FunV K "_law_well" "_law_well" s_l_well t.f_l_well t.d_l_well
  b_l_well : Binds K t.d_l_well ["_law_script", "_law_k"] []
  k_l_well : PySem.W.keepIn K (.ref t.f_l_well) = true
  mg_l_well : mg "_law_well" = some (.ref t.f_l_well)
  F_l_draw : FunV K "_law_draw" "_law_draw" s_l_draw t.f_l_draw t.d_l_draw
  b_l_draw : Binds K t.d_l_draw ["_law_well_here", "_law_most"] []
  k_l_draw : PySem.W.keepIn K (.ref t.f_l_draw) = true
  mg_l_draw : mg "_law_draw" = some (.ref t.f_l_draw)
  F_l_columns : FunV K "_law_columns" "_law_columns" s_l_columns t.f_l_columns t.d_l_columns
  b_l_columns : Binds K t.d_l_columns ["_law_well_here"] []
  k_l_columns : PySem.W.keepIn K (.ref t.f_l_columns) = true
  mg_l_columns : mg "_law_columns" = some (.ref t.f_l_columns)
  F_l_number : FunV K "_law_number" "_law_number" s_l_number t.f_l_number t.d_l_number
  b_l_number : Binds K t.d_l_number ["_law_well_here"] []
  k_l_number : PySem.W.keepIn K (.ref t.f_l_number) = true
  mg_l_number : mg "_law_number" = some (.ref t.f_l_number)
  F_l_word : FunV K "_law_word" "_law_word" s_l_word t.f_l_word t.d_l_word
  b_l_word : Binds K t.d_l_word ["_law_well_here"] []
  k_l_word : PySem.W.keepIn K (.ref t.f_l_word) = true
  mg_l_word : mg "_law_word" = some (.ref t.f_l_word)
  F_l_value : FunV K "_law_value" "_law_value" s_l_value t.f_l_value t.d_l_value
  b_l_value : Binds K t.d_l_value ["_law_well_here", "_law_kind"] []
  k_l_value : PySem.W.keepIn K (.ref t.f_l_value) = true
  mg_l_value : mg "_law_value" = some (.ref t.f_l_value)
  F_l_key : FunV K "_law_key" "_law_key" s_l_key t.f_l_key t.d_l_key
  b_l_key : Binds K t.d_l_key ["_law_well_here"] []
  k_l_key : PySem.W.keepIn K (.ref t.f_l_key) = true
  mg_l_key : mg "_law_key" = some (.ref t.f_l_key)
  F_l_value_text : FunV K "_law_value_text" "_law_value_text" s_l_value_text t.f_l_value_text t.d_l_value_text
  b_l_value_text : Binds K t.d_l_value_text ["_law_value_here"] []
  k_l_value_text : PySem.W.keepIn K (.ref t.f_l_value_text) = true
  mg_l_value_text : mg "_law_value_text" = some (.ref t.f_l_value_text)
  F_l_are_figures : FunV K "_law_are_figures" "_law_are_figures" s_l_are_figures t.f_l_are_figures t.d_l_are_figures
  b_l_are_figures : Binds K t.d_l_are_figures ["_law_text", "_law_most"] []
  k_l_are_figures : PySem.W.keepIn K (.ref t.f_l_are_figures) = true
  mg_l_are_figures : mg "_law_are_figures" = some (.ref t.f_l_are_figures)
  F_l_fits : FunV K "_law_fits" "_law_fits" s_l_fits t.f_l_fits t.d_l_fits
  b_l_fits : Binds K t.d_l_fits ["_law_kind", "_law_text"] []
  k_l_fits : PySem.W.keepIn K (.ref t.f_l_fits) = true
  mg_l_fits : mg "_law_fits" = some (.ref t.f_l_fits)
  F_l_told : FunV K "_law_told" "_law_told" s_l_told t.f_l_told t.d_l_told
  b_l_told : Binds K t.d_l_told ["_law_text"] []
  k_l_told : PySem.W.keepIn K (.ref t.f_l_told) = true
  mg_l_told : mg "_law_told" = some (.ref t.f_l_told)
  F_l_is_value_text : FunV K "_law_is_value_text" "_law_is_value_text" s_l_is_value_text t.f_l_is_value_text t.d_l_is_value_text
  b_l_is_value_text : Binds K t.d_l_is_value_text ["_law_text"] []
  k_l_is_value_text : PySem.W.keepIn K (.ref t.f_l_is_value_text) = true
  mg_l_is_value_text : mg "_law_is_value_text" = some (.ref t.f_l_is_value_text)
  F_l_is_key : FunV K "_law_is_key" "_law_is_key" s_l_is_key t.f_l_is_key t.d_l_is_key
  b_l_is_key : Binds K t.d_l_is_key ["_law_text"] []
  k_l_is_key : PySem.W.keepIn K (.ref t.f_l_is_key) = true
  mg_l_is_key : mg "_law_is_key" = some (.ref t.f_l_is_key)
  F_l_menu : FunV K "_law_menu" "_law_menu" s_l_menu t.f_l_menu t.d_l_menu
  b_l_menu : Binds K t.d_l_menu ["_law_well_here", "_law_columns_here"] []
  k_l_menu : PySem.W.keepIn K (.ref t.f_l_menu) = true
  mg_l_menu : mg "_law_menu" = some (.ref t.f_l_menu)
  F_l_spoiled : FunV K "_law_spoiled" "_law_spoiled" s_l_spoiled t.f_l_spoiled t.d_l_spoiled
  b_l_spoiled : Binds K t.d_l_spoiled ["_law_well_here", "_law_columns_here", "_law_text"] []
  k_l_spoiled : PySem.W.keepIn K (.ref t.f_l_spoiled) = true
  mg_l_spoiled : mg "_law_spoiled" = some (.ref t.f_l_spoiled)
  F_l_due : FunV K "_law_due" "_law_due" s_l_due t.f_l_due t.d_l_due
  b_l_due : Binds K t.d_l_due ["_law_columns_here", "_law_text"] []
  k_l_due : PySem.W.keepIn K (.ref t.f_l_due) = true
  mg_l_due : mg "_law_due" = some (.ref t.f_l_due)
  F_l_found : FunV K "_law_found" "_law_found" s_l_found t.f_l_found t.d_l_found
  b_l_found : Binds K t.d_l_found ["_law_columns_here", "_law_text"] []
  k_l_found : PySem.W.keepIn K (.ref t.f_l_found) = true
  mg_l_found : mg "_law_found" = some (.ref t.f_l_found)
  F_law : FunV K "law" "law" s_law t.f_law t.d_law
  b_law : Binds K t.d_law ["_law_script"] []
  k_law : PySem.W.keepIn K (.ref t.f_law) = true
  mg_law : mg "law" = some (.ref t.f_law)
  mg_MOST_KEY_SIGNS : mg "MOST_KEY_SIGNS" = some (.int 12 t.t_MOST_KEY_SIGNS)
  mg_MOST_WORD_SIGNS : mg "MOST_WORD_SIGNS" = some (.int 40 t.t_MOST_WORD_SIGNS)
  mg_MOST_NUMBER_FIGURES : mg "MOST_NUMBER_FIGURES" = some (.int 60 t.t_MOST_NUMBER_FIGURES)
  n_len : mg "len" = none
  n_all : mg "all" = none
  n_isinstance : mg "isinstance" = none
  n_range : mg "range" = none
  n_int : mg "int" = none
  n_str : mg "str" = none
  n_bool : mg "bool" = none
  n_tuple : mg "tuple" = none
  n_zip : mg "zip" = none
  n_ValueError : mg "ValueError" = none
  mg_PageError : mg "PageError" = some (.ref t.c_PageError)
  mg_BadColumns : mg "BadColumns" = some (.ref t.c_BadColumns)
  mg_BadRow : mg "BadRow" = some (.ref t.c_BadRow)
  mg_BadOrder : mg "BadOrder" = some (.ref t.c_BadOrder)
  mg_BadSieve : mg "BadSieve" = some (.ref t.c_BadSieve)
  mg_NoMark : mg "NoMark" = some (.ref t.c_NoMark)
  mg_NoText : mg "NoText" = some (.ref t.c_NoText)
  x_PageError : PySem.W.excIn K t.c_PageError L2.vErr "ValueError.__new__" = true
  x_BadColumns : PySem.W.excIn K t.c_BadColumns L2.vErr "ValueError.__new__" = true
  x_BadRow : PySem.W.excIn K t.c_BadRow L2.vErr "ValueError.__new__" = true
  x_BadOrder : PySem.W.excIn K t.c_BadOrder L2.vErr "ValueError.__new__" = true
  x_BadSieve : PySem.W.excIn K t.c_BadSieve L2.vErr "ValueError.__new__" = true
  x_NoMark : PySem.W.excIn K t.c_NoMark L2.vErr "ValueError.__new__" = true
  x_NoText : PySem.W.excIn K t.c_NoText L2.vErr "ValueError.__new__" = true
  ga_BadRow : PySem.W.findIn K (.ref t.c_BadRow) "__getattribute__" = some (some (.builtin "BaseException.__getattribute__"))
  gh_BadRow : PySem.W.findIn K (.ref t.c_BadRow) "__getattr__" = some none
  gc_BadRow : PySem.W.findIn K (.ref t.c_BadRow) "__class__" = some (some (.builtin "object.__class__"))
  m_BadRow_PageError : PySem.W.mroIn K t.c_BadRow (.ref t.c_PageError) = some true
  k_BadRow_NoText : PySem.W.kitOne K (.ref t.c_BadRow) (.ref t.c_NoText) = some false
  k_BadRow_BadRow : PySem.W.kitOne K (.ref t.c_BadRow) (.ref t.c_BadRow) = some true
  k_BadRow_BadOrder : PySem.W.kitOne K (.ref t.c_BadRow) (.ref t.c_BadOrder) = some false
  k_BadRow_BadSieve : PySem.W.kitOne K (.ref t.c_BadRow) (.ref t.c_BadSieve) = some false
  k_BadRow_BadColumns : PySem.W.kitOne K (.ref t.c_BadRow) (.ref t.c_BadColumns) = some false
  k_BadRow_NoMark : PySem.W.kitOne K (.ref t.c_BadRow) (.ref t.c_NoMark) = some false
  k_BadRow_ValueError : PySem.W.kitOne K (.ref t.c_BadRow) (.type "ValueError") = some true
  ga_NoText : PySem.W.findIn K (.ref t.c_NoText) "__getattribute__" = some (some (.builtin "BaseException.__getattribute__"))
  gh_NoText : PySem.W.findIn K (.ref t.c_NoText) "__getattr__" = some none
  gc_NoText : PySem.W.findIn K (.ref t.c_NoText) "__class__" = some (some (.builtin "object.__class__"))
  m_NoText_PageError : PySem.W.mroIn K t.c_NoText (.ref t.c_PageError) = some true
  k_NoText_NoText : PySem.W.kitOne K (.ref t.c_NoText) (.ref t.c_NoText) = some true
  k_NoText_BadRow : PySem.W.kitOne K (.ref t.c_NoText) (.ref t.c_BadRow) = some false
  k_NoText_BadOrder : PySem.W.kitOne K (.ref t.c_NoText) (.ref t.c_BadOrder) = some false
  k_NoText_BadSieve : PySem.W.kitOne K (.ref t.c_NoText) (.ref t.c_BadSieve) = some false
  k_NoText_BadColumns : PySem.W.kitOne K (.ref t.c_NoText) (.ref t.c_BadColumns) = some false
  k_NoText_NoMark : PySem.W.kitOne K (.ref t.c_NoText) (.ref t.c_NoMark) = some false
  k_NoText_ValueError : PySem.W.kitOne K (.ref t.c_NoText) (.type "ValueError") = some true
  bl : ∀ (s : Shared) (u : Value), BindsTo s t.d_law ⟨[u], []⟩ [("_law_script", u)]
theorem sc_is_whole : FnScope ["thing"] ["thing"] (defScope s_is_whole) := ⟨rfl, rfl, rfl, by decide +kernel, rfl, by decide +kernel, by decide +kernel⟩
theorem sc_is_letter : FnScope ["sign"] ["sign"] (defScope s_is_letter) := ⟨rfl, rfl, rfl, by decide +kernel, rfl, by decide +kernel, by decide +kernel⟩
theorem sc_is_figure : FnScope ["sign"] ["sign"] (defScope s_is_figure) := ⟨rfl, rfl, rfl, by decide +kernel, rfl, by decide +kernel, by decide +kernel⟩
theorem sc_is_key : FnScope ["thing"] ["thing"] (defScope s_is_key) := ⟨rfl, rfl, rfl, by decide +kernel, rfl, by decide +kernel, by decide +kernel⟩
theorem sc_is_word : FnScope ["thing"] ["thing"] (defScope s_is_word) := ⟨rfl, rfl, rfl, by decide +kernel, rfl, by decide +kernel, by decide +kernel⟩
theorem sc_is_value : FnScope ["kind", "thing"] ["kind", "thing"] (defScope s_is_value) := ⟨rfl, rfl, rfl, by decide +kernel, rfl, by decide +kernel, by decide +kernel⟩
theorem sc_check_row : FnScope ["columns", "row"] ["columns", "row"] (defScope s_check_row) := ⟨rfl, rfl, rfl, by decide +kernel, rfl, by decide +kernel, by decide +kernel⟩
theorem sc_are_worths : FnScope ["columns", "thing"] ["columns", "thing"] (defScope s_are_worths) := ⟨rfl, rfl, rfl, by decide +kernel, rfl, by decide +kernel, by decide +kernel⟩
theorem sc_value_text : FnScope ["value"] ["value"] (defScope s_value_text) := ⟨rfl, rfl, rfl, by decide +kernel, rfl, by decide +kernel, by decide +kernel⟩
theorem sc_is_value_text : FnScope ["text"] ["text"] (defScope s_is_value_text) := ⟨rfl, rfl, rfl, by decide +kernel, rfl, by decide +kernel, by decide +kernel⟩
theorem sc_value_of_text : FnScope ["text"] ["text"] (defScope s_value_of_text) := ⟨rfl, rfl, rfl, by decide +kernel, rfl, by decide +kernel, by decide +kernel⟩
theorem sc_is_number_text : FnScope ["text", "most", "figures"] ["text", "most"] (defScope s_is_number_text) := ⟨rfl, rfl, rfl, by decide +kernel, rfl, by decide +kernel, by decide +kernel⟩
theorem sc_read_row : FnScope ["columns", "text", "row"] ["columns", "text"] (defScope s_read_row) := ⟨rfl, rfl, rfl, by decide +kernel, rfl, by decide +kernel, by decide +kernel⟩
theorem sc_row_in : FnScope ["text", "words"] ["text"] (defScope s_row_in) := ⟨rfl, rfl, rfl, by decide +kernel, rfl, by decide +kernel, by decide +kernel⟩
theorem sc_words_of : FnScope ["text"] ["text"] (defScope s_words_of) := ⟨rfl, rfl, rfl, by decide +kernel, rfl, by decide +kernel, by decide +kernel⟩
theorem sc_check_names : FnScope ["words"] ["words"] (defScope s_check_names) := ⟨rfl, rfl, rfl, by decide +kernel, rfl, by decide +kernel, by decide +kernel⟩
theorem sc_value_in_word : FnScope ["word"] ["word"] (defScope s_value_in_word) := ⟨rfl, rfl, rfl, by decide +kernel, rfl, by decide +kernel, by decide +kernel⟩
theorem sc_l_well : FnScope ["_law_script", "_law_k", "_law_cell"] ["_law_script", "_law_k"] (defScope s_l_well) := ⟨rfl, rfl, rfl, by decide +kernel, rfl, by decide +kernel, by decide +kernel⟩
theorem sc_l_draw : FnScope ["_law_well_here", "_law_most", "_law_number_here"] ["_law_well_here", "_law_most"] (defScope s_l_draw) := ⟨rfl, rfl, rfl, by decide +kernel, rfl, by decide +kernel, by decide +kernel⟩
theorem sc_l_columns : FnScope ["_law_well_here", "_law_names", "_law_found_here", "_law_k", "_law_name"] ["_law_well_here"] (defScope s_l_columns) := ⟨rfl, rfl, rfl, by decide +kernel, rfl, by decide +kernel, by decide +kernel⟩
theorem sc_l_number : FnScope ["_law_well_here", "_law_way"] ["_law_well_here"] (defScope s_l_number) := ⟨rfl, rfl, rfl, by decide +kernel, rfl, by decide +kernel, by decide +kernel⟩
theorem sc_l_word : FnScope ["_law_well_here", "_law_way", "_law_signs"] ["_law_well_here"] (defScope s_l_word) := ⟨rfl, rfl, rfl, by decide +kernel, rfl, by decide +kernel, by decide +kernel⟩
theorem sc_l_value : FnScope ["_law_well_here", "_law_kind"] ["_law_well_here", "_law_kind"] (defScope s_l_value) := ⟨rfl, rfl, rfl, by decide +kernel, rfl, by decide +kernel, by decide +kernel⟩
theorem sc_l_key : FnScope ["_law_well_here", "_law_some"] ["_law_well_here"] (defScope s_l_key) := ⟨rfl, rfl, rfl, by decide +kernel, rfl, by decide +kernel, by decide +kernel⟩
theorem sc_l_value_text : FnScope ["_law_value_here"] ["_law_value_here"] (defScope s_l_value_text) := ⟨rfl, rfl, rfl, by decide +kernel, rfl, by decide +kernel, by decide +kernel⟩
theorem sc_l_are_figures : FnScope ["_law_text", "_law_most"] ["_law_text", "_law_most"] (defScope s_l_are_figures) := ⟨rfl, rfl, rfl, by decide +kernel, rfl, by decide +kernel, by decide +kernel⟩
theorem sc_l_fits : FnScope ["_law_kind", "_law_text", "_law_parts", "_law_bare"] ["_law_kind", "_law_text"] (defScope s_l_fits) := ⟨rfl, rfl, rfl, by decide +kernel, rfl, by decide +kernel, by decide +kernel⟩
theorem sc_l_told : FnScope ["_law_text"] ["_law_text"] (defScope s_l_told) := ⟨rfl, rfl, rfl, by decide +kernel, rfl, by decide +kernel, by decide +kernel⟩
theorem sc_l_is_value_text : FnScope ["_law_text"] ["_law_text"] (defScope s_l_is_value_text) := ⟨rfl, rfl, rfl, by decide +kernel, rfl, by decide +kernel, by decide +kernel⟩
theorem sc_l_is_key : FnScope ["_law_text"] ["_law_text"] (defScope s_l_is_key) := ⟨rfl, rfl, rfl, by decide +kernel, rfl, by decide +kernel, by decide +kernel⟩
theorem sc_l_menu : FnScope ["_law_well_here", "_law_columns_here", "_law_some"] ["_law_well_here", "_law_columns_here"] (defScope s_l_menu) := ⟨rfl, rfl, rfl, by decide +kernel, rfl, by decide +kernel, by decide +kernel⟩
theorem sc_l_spoiled : FnScope ["_law_well_here", "_law_columns_here", "_law_text", "_law_words", "_law_at", "_law_way", "_law_other"] ["_law_well_here", "_law_columns_here", "_law_text"] (defScope s_l_spoiled) := ⟨rfl, rfl, rfl, by decide +kernel, rfl, by decide +kernel, by decide +kernel⟩
theorem sc_l_due : FnScope ["_law_columns_here", "_law_text", "_law_words"] ["_law_columns_here", "_law_text"] (defScope s_l_due) := ⟨rfl, rfl, rfl, by decide +kernel, rfl, by decide +kernel, by decide +kernel⟩
theorem sc_l_found : FnScope ["_law_columns_here", "_law_text", "e", "_law_row", "_law_some"] ["_law_columns_here", "_law_text"] (defScope s_l_found) := ⟨rfl, rfl, rfl, by decide +kernel, rfl, by decide +kernel, by decide +kernel⟩
theorem sc_law : FnScope ["_law_script", "_law_well_here", "_law_columns_here", "_law_k", "_law_words", "_law_text", "_law_turn", "_law_others", "_law_some", "_law_one"] ["_law_script"] (defScope s_law) := ⟨rfl, rfl, rfl, by decide +kernel, rfl, by decide +kernel, by decide +kernel⟩
end My
namespace My
open PySem L2
theorem smallB {n : Nat} (h : n ≤ 100000) : n < sizeLine := by rw [sizeLine_eq]; omega
theorem sm {n : Nat} (h : n ≤ 100000) : n ≤ sizeLine := Nat.le_of_lt (smallB h)
abbrev FnD (P : Program) (w : World) (K : PySem.W.Frag) (mg : Str → Option Value) (base : Heap) (k : Nat) (f : Addr) (fd : FuncData) (ps : List Str) (sp : SpD) : Prop := FnOk P w K mg base (CXR P w) k f fd ps (SpL K sp)
def Gt (S : Sto) (d : D) : Prop := (∃ k, kdV S d k) ∧ ∀ z, d = .str z → z.cps.size ≤ 100000
def isLet (c : Nat) : Bool := decide (97 ≤ c) && decide (c ≤ 122)
def isFig (c : Nat) : Bool := decide (48 ≤ c) && decide (c ≤ 57)
def isWrd (c : Nat) : Bool := decide (32 ≤ c) && decide (c ≤ 126)
def nameZ (z : Str) : Bool := decide (1 ≤ z.cps.size) && decide (z.cps.size ≤ 8) && z.cps.toList.all isLet
def keyZ (z : Str) : Bool := decide (1 ≤ z.cps.size) && decide (z.cps.size ≤ 12) && (z.cps.toList.head?.any isLet) && z.cps.toList.all fun c => isLet c || isFig c
def wordZ (z : Str) : Bool := decide (z.cps.size ≤ 40) && z.cps.toList.all isWrd
def ofStr (f : Str → Bool) : D → Bool
  | .str z => f z
  | _ => false
def wholeD : D → Bool
  | .int _ => true
  | _ => false
def valB (kind : Str) (d : D) : Bool := isNonD d || if kind = "number" then wholeD d else ofStr wordZ d
def spOf (f : D → Bool) : SpD := fun ds S R _ => ∃ d, ds = [d] ∧ Gt S d ∧ R (.bl (f d)) S
def spSign (f : Nat → Bool) : SpD := fun ds S R _ => ∃ c, ds = [.str ⟨#[c]⟩] ∧ R (.bl (f c)) S
theorem paired_snoc {rel : D → D → Prop} : ∀ {xs ys : List D} {a b : D}, Paired rel xs ys → rel a b → Paired rel (xs ++ [a]) (ys ++ [b])
  | _, _, _, _, .nil, r => .cons r .nil
  | _, _, _, _, .cons q t, r => .cons q (paired_snoc t r)
theorem take_snoc {α : Type} {l : List α} {i : Nat} {d : α} (h : l[i]? = some d) : l.take (i + 1) = l.take i ++ [d] := by
  rw [List.take_add_one, h]; rfl
theorem comp_rel {I : ItD} {S1 : Sto} {g : TGd} {te : TD} {σ : SD} {src : List (Option Nat)} {R : KD} (rel : D → D → Prop) (hok : I.ok S1) (hz : I.xs.length ≤ 100000)
    (step : ∀ d, d ∈ I.xs → ∀ Q : KD, (∀ v, rel d v → Q v S1) → g d (pickD σ src) S1 fun σ3 S3 => te σ3 S3 Q Zf) (fin : ∀ out, Paired rel I.xs out → ∀ p, S1 p = none → R (.ref p) (S1.set p (.lst out))) :
    CompP σ src g dTrue te R I S1 := by
  refine ⟨fun i out S => S = S1 ∧ Paired rel (I.xs.take i) out, ⟨rfl, .nil⟩, fun i out S h => by rw [h.1]; exact hok, ?_, ?_⟩
  · rintro i d out S hd ⟨rfl, hp⟩
    have hlen := Paired.length hp
    rw [List.length_take] at hlen
    refine ⟨smallB (by omega), ?_⟩
    have e : (fun (σ3 : SD) (S3 : Sto) => dTrue σ3 S3 (fun b S4 => if b = true then te σ3 S4 (fun v S5 => S5 = S ∧ Paired rel (I.xs.take (i + 1)) (out ++ [v])) Zf else S4 = S ∧ Paired rel (I.xs.take (i + 1)) out) Zf) = fun σ3 S3 => te σ3 S3 (fun v S5 => S5 = S ∧ Paired rel (I.xs.take (i + 1)) (out ++ [v])) Zf := by
      funext σ3 S3
      simp [dTrue]
    rw [e]
    exact step d (List.mem_of_getElem? hd) _ fun v hv => ⟨rfl, by rw [take_snoc hd]; exact paired_snoc hp hv⟩
  · rintro out S2 ⟨rfl, hp⟩
    rw [List.take_length] at hp
    exact fin out hp
theorem paired_map {f : D → D} : ∀ {xs out : List D}, Paired (fun d v => v = f d) xs out → out = xs.map f
  | _, _, .nil => rfl
  | _, _, .cons r t => by rw [r, paired_map t]; rfl
theorem comp_map {I : ItD} {S1 : Sto} {g : TGd} {te : TD} {σ : SD} {src : List (Option Nat)} {R : KD} (f : D → D) (hok : I.ok S1) (hz : I.xs.length ≤ 100000)
    (step : ∀ d, d ∈ I.xs → ∀ Q : KD, Q (f d) S1 → g d (pickD σ src) S1 fun σ3 S3 => te σ3 S3 Q Zf) (fin : ∀ p, S1 p = none → R (.ref p) (S1.set p (.lst (I.xs.map f)))) :
    CompP σ src g dTrue te R I S1 :=
  comp_rel (fun d v => v = f d) hok hz (fun d hd Q h => step d hd Q (h _ rfl)) fun out hp p hp' => by rw [paired_map hp]; exact fin p hp'
section
variable {P : Program} {w : World} {K : PySem.W.Frag} {mg : Str → Option Value} {base : Heap} {t : Adr}
theorem ok_is_whole (T : Txt K mg t) : FnD P w K mg base 1 t.f_is_whole t.d_is_whole ["thing"] (spOf wholeD) := by
  refine T.F_is_whole.ok sc_is_whole (fun ds S R Z ⟨d, e, _⟩ => by rw [e]; rfl) (fun cdv A outer s H E ds S R Z hr ⟨d, e, ⟨⟨k, hk⟩, hz⟩, q⟩ => ?_)
  subst e
  refine ⟨_, (s1 (sr (eand (cb c_isi T.n_isinstance bt_isinstance (ac (dv 0) (ac (dty T.n_int bt_int) an))) (ev1 (enot (cb c_isi T.n_isinstance bt_isinstance (ac (dv 0) (ac (dty T.n_bool bt_bool) an)))))))), ?_⟩
  refine ⟨_, rfl, _, _, _, _, rfl, isa_int, hk, _, rfl, ?_⟩
  have : (isaInt k = true ∧ ((wholeD d = true ∧ isaBool k = false) ∨ (wholeD d = false ∧ isaBool k = true))) ∨ (isaInt k = false ∧ wholeD d = false) := by
    cases d with
    | non => cases hk; exact .inr ⟨rfl, rfl⟩
    | bl b => cases hk; exact .inl ⟨rfl, .inr ⟨rfl, rfl⟩⟩
    | int b => cases hk; exact .inl ⟨rfl, .inl ⟨rfl, rfl⟩⟩
    | str b => cases hk; exact .inr ⟨rfl, rfl⟩
    | tup b => cases hk; exact .inr ⟨rfl, rfl⟩
    | ref a => rcases hk with ⟨rfl, _⟩ | ⟨rfl, _⟩ <;> exact .inr ⟨rfl, rfl⟩
    | _ => exact hk.elim
  rcases this with ⟨h1, h2⟩ | ⟨h1, h2⟩
  · rw [h1]
    refine iteT ⟨_, rfl, _, _, _, _, rfl, isa_bool, hk, _, rfl, ?_⟩
    rcases h2 with ⟨h2, h3⟩ | ⟨h2, h3⟩ <;> (rw [h3]; rw [h2] at q; exact fo q)
  · rw [h1]
    rw [h2] at q
    exact iteF (fo q)
theorem ok_is_letter (T : Txt K mg t) : FnD P w K mg base 1 t.f_is_letter t.d_is_letter ["sign"] (spSign isLet) := by
  refine T.F_is_letter.ok sc_is_letter (fun ds S R Z ⟨d, e, _⟩ => by rw [e]; rfl) (fun cdv A outer s H E ds S R Z hr ⟨c, e, q⟩ => ?_)
  subst e
  refine ⟨_, (s1 (sr (cc o_le o_le hr.units ds (dv 0) ds))), ?_⟩
  refine ⟨_, rfl, _, rfl, ?_⟩
  have e1 : sLe "a" ⟨#[c]⟩ = decide (97 ≤ c) := sLe_one 97 c
  have e2 : sLe ⟨#[c]⟩ "z" = decide (c ≤ 122) := sLe_one c 122
  unfold isLet at q
  refine ifb (fun h => ?_) (fun h => ?_)
  · rw [e1.symm.trans h, Bool.true_and, ← e2] at q
    exact fo q
  · rw [e1.symm.trans h, Bool.false_and] at q
    exact fo q
theorem ok_is_figure (T : Txt K mg t) : FnD P w K mg base 1 t.f_is_figure t.d_is_figure ["sign"] (spSign isFig) := by
  refine T.F_is_figure.ok sc_is_figure (fun ds S R Z ⟨d, e, _⟩ => by rw [e]; rfl) (fun cdv A outer s H E ds S R Z hr ⟨c, e, q⟩ => ?_)
  subst e
  refine ⟨_, (s1 (sr (cc o_le o_le hr.units ds (dv 0) ds))), ?_⟩
  refine ⟨_, rfl, _, rfl, ?_⟩
  have e1 : sLe "0" ⟨#[c]⟩ = decide (48 ≤ c) := sLe_one 48 c
  have e2 : sLe ⟨#[c]⟩ "9" = decide (c ≤ 57) := sLe_one c 57
  unfold isFig at q
  refine ifb (fun h => ?_) (fun h => ?_)
  · rw [e1.symm.trans h, Bool.true_and, ← e2] at q
    exact fo q
  · rw [e1.symm.trans h, Bool.false_and] at q
    exact fo q
end
end My
namespace My
open PySem L2
theorem signs_mem {z : Str} {d : D} (h : d ∈ signsD z) : ∃ c, c ∈ z.cps.toList ∧ d = .str ⟨#[c]⟩ := by
  unfold signsD at h
  obtain ⟨c, hc, e⟩ := List.mem_map.mp h
  exact ⟨c, hc, e.symm⟩
def signF (f : Nat → Bool) : D → D
  | .str z => .bl (z.cps.toList.head?.any f)
  | _ => .non
theorem signs_map {z : Str} {f : Nat → Bool} : (signsD z).map (signF f) = (z.cps.toList.map f).map D.bl := by
  unfold signsD
  rw [List.map_map, List.map_map]
  rfl
theorem all_map {α : Type} {l : List α} {f : α → Bool} : (l.map f).all id = l.all f := by
  rw [List.all_map]; rfl
theorem all_signs {z : Str} {f : Nat → Bool} {g : TGd} {te : TD} {σ : SD} {src : List (Option Nat)} {S : Sto} {R : KD} {Z : KX} {i : Nat} (hv : σ[i]? = some (some (.str z))) (hz : z.cps.size ≤ 100000)
    (step : ∀ c, c ∈ z.cps.toList → ∀ Q : KD, Q (.bl (f c)) S → g (.str ⟨#[c]⟩) (pickD σ src) S fun σ3 S3 => te σ3 S3 Q Zf) (q : R (.bl (z.cps.toList.all f)) S) :
    dCB allD (aCons (dComp (iStrD (dVar i)) src g dTrue te) aNil) σ S (fun d S' => Fo S' (R d)) Z := by
  refine ⟨_, hv, z, rfl, ?_⟩
  refine My.comp_map (I := ⟨signsD z, fun _ => True⟩) (signF f) trivial (by show (signsD z).length ≤ 100000; unfold signsD; rw [List.length_map, Array.length_toList]; exact hz) (fun d hd Q hQ => ?_) fun p hp => ?_
  · obtain ⟨c, hc, rfl⟩ := signs_mem hd
    exact step c hc Q (by simpa [signF] using hQ)
  · refine ⟨.ref p, z.cps.toList.map f, rfl, ?_, S, .new hp, ?_⟩
    · show (S.set p (.lst ((signsD z).map (signF f)))) p = _
      rw [sset_same, signs_map]
    · rw [all_map]; exact q
section
variable {P : Program} {w : World} {K : PySem.W.Frag} {mg : Str → Option Value} {base : Heap} {t : Adr}
theorem kd_str {S : Sto} {d : D} {k : Kd} (hk : kdV S d k) : (∃ z, d = .str z ∧ isaStr k = true) ∨ (isaStr k = false ∧ ∀ f, ofStr f d = false) := by
  cases d with
  | str b => cases hk; exact .inl ⟨b, rfl, rfl⟩
  | non => cases hk; exact .inr ⟨rfl, fun _ => rfl⟩
  | bl b => cases hk; exact .inr ⟨rfl, fun _ => rfl⟩
  | int b => cases hk; exact .inr ⟨rfl, fun _ => rfl⟩
  | tup b => cases hk; exact .inr ⟨rfl, fun _ => rfl⟩
  | ref a => rcases hk with ⟨rfl, _⟩ | ⟨rfl, _⟩ <;> exact .inr ⟨rfl, fun _ => rfl⟩
  | _ => exact hk.elim
theorem kd_tup {S : Sto} {d : D} {k : Kd} (hk : kdV S d k) : (∃ ds, d = .tup ds ∧ isaTuple k = true) ∨ (isaTuple k = false ∧ ∀ ds, d ≠ .tup ds) := by
  cases d with
  | tup b => cases hk; exact .inl ⟨b, rfl, rfl⟩
  | non => cases hk; exact .inr ⟨rfl, fun _ => nofun⟩
  | bl b => cases hk; exact .inr ⟨rfl, fun _ => nofun⟩
  | int b => cases hk; exact .inr ⟨rfl, fun _ => nofun⟩
  | str b => cases hk; exact .inr ⟨rfl, fun _ => nofun⟩
  | ref a => rcases hk with ⟨rfl, _⟩ | ⟨rfl, _⟩ <;> exact .inr ⟨rfl, fun _ => nofun⟩
  | _ => exact hk.elim
end
end My
namespace My
open PySem L2
def colD (c : Str × Str) : D := .tup [.str c.1, .str c.2]
def Gd (cs : List (Str × Str)) : Prop := cs.length ≤ 8 ∧ (cs.map Prod.fst).Nodup ∧ ∀ c ∈ cs, nameZ c.1 = true ∧ (c.2 = "number" ∨ c.2 = "word")
def worthsB (cs : List (Str × Str)) : D → Bool
  | .tup ws => decide (ws.length = cs.length) && (List.zipWith (fun c v => valB c.2 v) cs ws).all id
  | _ => false
def rowB (cs : List (Str × Str)) (k v : D) : Bool := ofStr keyZ k && worthsB cs v
def Gts (S : Sto) (d : D) : Prop := Gt S d ∧ ∀ ws, d = .tup ws → ws.length ≤ 100000 ∧ ∀ v ∈ ws, Gt S v
section
variable {P : Program} {w : World} {K : PySem.W.Frag} {mg : Str → Option Value} {base : Heap} {t : Adr}
theorem ok_is_key (T : Txt K mg t) : FnD P w K mg base 2 t.f_is_key t.d_is_key ["thing"] (spOf (ofStr keyZ)) := by
  have G_is_letter : FnD P w K mg base 1 t.f_is_letter t.d_is_letter ["sign"] (spSign isLet) := ok_is_letter T
  have G_is_figure : FnD P w K mg base 1 t.f_is_figure t.d_is_figure ["sign"] (spSign isFig) := ok_is_figure T
  refine T.F_is_key.ok sc_is_key (fun ds S R Z ⟨d, e, _⟩ => by rw [e]; rfl) (fun cdv A outer s H E ds S R Z hr ⟨d, e, ⟨⟨k, hk⟩, hz⟩, q⟩ => ?_)
  subst e
  refine ⟨_, (sc (si (twd (twor (tnot (tv (cb c_isi T.n_isinstance bt_isinstance (ac (dv 0) (ac (dty T.n_str bt_str) an))))) (tw1 (tnot (tcc o_le o_le hr.units di (cb c_len T.n_len bt_len (ac (dv 0) an)) (dg (v := .int 12) T.mg_MOST_KEY_SIGNS ⟨_, rfl⟩ fun _ => rv_int _)))))) (s1 (sr db)) s0) (sc (si (tnot (tv (cf (G_is_letter.mono (by decide)) hr T.mg_is_letter T.k_is_letter T.b_is_letter d0 (ac (ix hr.units (dv 0) di) an)))) (s1 (sr db)) s0) (s1 (sr (cb c_all T.n_all bt_all (ac (eco (N := ["sign"]) (src := [none]) (csc (defScope s_is_key) ["thing"] rfl rfl (by decide +kernel)) (istr (dv 0)) (cg1 (show (["sign"] : List Str).Nodup by decide +kernel)) (gx_name rfl) gd_name (fun _ _ _ _ _ => if0) (fun _ _ _ _ _ => (eor (cf (G_is_letter.mono (by decide)) hr T.mg_is_letter T.k_is_letter T.b_is_letter d0 (ac (dv 0) an)) (ev1 (cf (G_is_figure.mono (by decide)) hr T.mg_is_figure T.k_is_figure T.b_is_figure d0 (ac (dv 0) an)))))) an)))))), ?_⟩
  refine ⟨_, rfl, _, _, _, _, rfl, isa_str, hk, _, rfl, ?_⟩
  rcases kd_str hk with ⟨z, rfl, h0⟩ | ⟨h0, h1⟩
  · have hz := hz z rfl
    rw [h0]
    refine iteF ?_
    refine ⟨_, rfl, _, rfl, ⟨sm hz, ?_⟩⟩
    refine ⟨_, rfl, ?_⟩
    have e1 : decide ((1 : Int) ≤ (z.length : Nat)) = decide (1 ≤ z.cps.size) := by rw [decide_eq_decide]; show (1 : Int) ≤ ((z.cps.size : Nat) : Int) ↔ _; omega
    have e2 : decide (((z.length : Nat) : Int) ≤ 12) = decide (z.cps.size ≤ 12) := by rw [decide_eq_decide]; show ((z.cps.size : Nat) : Int) ≤ 12 ↔ _; omega
    unfold ofStr keyZ at q
    dsimp only at q
    refine ifb (fun h2 => ?_) (fun h2 => ?_)
    · have h2' := e1.symm.trans h2
      rw [h2', Bool.true_and] at q
      refine ⟨_, rfl, ?_⟩
      refine ifb (fun h3 => ?_) (fun h3 => ?_)
      · rw [e2.symm.trans (nt h3), Bool.false_and, Bool.false_and] at q
        exact fo q
      · rw [e2.symm.trans (nf h3), Bool.true_and] at q
        obtain ⟨c, r, ec⟩ := len_pos (z := z) (of_decide_eq_true h2')
        have eh : z.cps.toList.head?.any isLet = isLet c := by rw [ec]; rfl
        rw [eh] at q
        refine ⟨_, rfl, c, sm hz, at0 ec, c, rfl, _, rfl, ?_⟩
        refine ifb (fun h4 => ?_) (fun h4 => ?_)
        · rw [nt h4, Bool.false_and] at q
          exact fo q
        · rw [nf h4, Bool.true_and] at q
          refine all_signs (f := fun c => isLet c || isFig c) rfl hz (fun c hc Q hQ => ?_) q
          refine ⟨_, rfl, c, rfl, _, rfl, ?_⟩
          refine ifb (fun h5 => ?_) (fun h5 => ?_)
          · rw [h5, Bool.true_or] at hQ
            exact hQ
          · rw [h5, Bool.false_or] at hQ
            exact ⟨_, rfl, c, rfl, hQ⟩
    · rw [e1.symm.trans h2, Bool.false_and, Bool.false_and, Bool.false_and] at q
      refine ⟨_, rfl, ?_⟩
      exact iteT (fo q)
  · rw [h0]
    rw [h1] at q
    exact iteT (iteT (fo q))
theorem ok_is_word (T : Txt K mg t) : FnD P w K mg base 2 t.f_is_word t.d_is_word ["thing"] (spOf (ofStr wordZ)) := by
  refine T.F_is_word.ok sc_is_word (fun ds S R Z ⟨d, e, _⟩ => by rw [e]; rfl) (fun cdv A outer s H E ds S R Z hr ⟨d, e, ⟨⟨k, hk⟩, hz⟩, q⟩ => ?_)
  subst e
  refine ⟨_, (sc (si (twd (twor (tnot (tv (cb c_isi T.n_isinstance bt_isinstance (ac (dv 0) (ac (dty T.n_str bt_str) an))))) (tw1 (tcm o_gt hr.units (cb c_len T.n_len bt_len (ac (dv 0) an)) (dg (v := .int 40) T.mg_MOST_WORD_SIGNS ⟨_, rfl⟩ fun _ => rv_int _))))) (s1 (sr db)) s0) (s1 (sr (cb c_all T.n_all bt_all (ac (eco (N := ["sign"]) (src := [none]) (csc (defScope s_is_word) ["thing"] rfl rfl (by decide +kernel)) (istr (dv 0)) (cg1 (show (["sign"] : List Str).Nodup by decide +kernel)) (gx_name rfl) gd_name (fun _ _ _ _ _ => if0) (fun _ _ _ _ _ => (cc o_le o_le hr.units ds (dv 0) ds))) an))))), ?_⟩
  refine ⟨_, rfl, _, _, _, _, rfl, isa_str, hk, _, rfl, ?_⟩
  rcases kd_str hk with ⟨z, rfl, h0⟩ | ⟨h0, h1⟩
  · have hz := hz z rfl
    rw [h0]
    refine iteF ?_
    refine ⟨_, rfl, _, rfl, ⟨sm hz, ?_⟩⟩
    refine ⟨_, rfl, ?_⟩
    have e2 : decide ((40 : Int) < ((z.length : Nat) : Int)) = !decide (z.cps.size ≤ 40) := by
      rw [Bool.eq_iff_iff]; simp only [decide_eq_true_iff, Bool.not_eq_true', decide_eq_false_iff_not]; show (40 : Int) < ((z.cps.size : Nat) : Int) ↔ _; omega
    unfold ofStr wordZ at q
    dsimp only at q
    refine ifb (fun h3 => ?_) (fun h3 => ?_)
    · rw [nt (e2.symm.trans h3), Bool.false_and] at q
      exact fo q
    · rw [nf (e2.symm.trans h3), Bool.true_and] at q
      refine all_signs (f := isWrd) rfl hz (fun c hc Q hQ => ?_) q
      refine ⟨_, rfl, _, rfl, ?_⟩
      have e3 : sLe " " ⟨#[c]⟩ = decide (32 ≤ c) := sLe_one 32 c
      have e4 : sLe ⟨#[c]⟩ "~" = decide (c ≤ 126) := sLe_one c 126
      unfold isWrd at hQ
      refine ifb (fun h => ?_) (fun h => ?_)
      · rw [e3.symm.trans h, Bool.true_and, ← e4] at hQ
        exact hQ
      · rw [e3.symm.trans h, Bool.false_and] at hQ
        exact hQ
  · rw [h0]
    rw [h1] at q
    exact iteT (iteT (fo q))
theorem ok_is_value (T : Txt K mg t) : FnD P w K mg base 3 t.f_is_value t.d_is_value ["kind", "thing"] (fun ds S R _ => ∃ kind d, ds = [.str kind, d] ∧ Gt S d ∧ R (.bl (valB kind d)) S) := by
  have G_is_whole : FnD P w K mg base 1 t.f_is_whole t.d_is_whole ["thing"] (spOf wholeD) := ok_is_whole T
  have G_is_word : FnD P w K mg base 2 t.f_is_word t.d_is_word ["thing"] (spOf (ofStr wordZ)) := ok_is_word T
  refine T.F_is_value.ok sc_is_value (fun ds S R Z ⟨d, d', e, _⟩ => by rw [e]; rfl) (fun cdv A outer s H E ds S R Z hr ⟨kind, d, e, hd, q⟩ => ?_)
  subst e
  refine ⟨_, (sc (si (tcm o_is hr.units (dv 1) dn) (s1 (sr db)) s0) (sc (si (tcm o_eq hr.units (dv 0) ds) (s1 (sr (cf (G_is_whole.mono (by decide)) hr T.mg_is_whole T.k_is_whole T.b_is_whole d0 (ac (dv 1) an)))) s0) (s1 (sr (cf (G_is_word.mono (by decide)) hr T.mg_is_word T.k_is_word T.b_is_word d0 (ac (dv 1) an)))))), ?_⟩
  refine ⟨_, rfl, _, rfl, ?_⟩
  unfold valB at q
  refine ifb (fun h => ?_) (fun h => ?_)
  · rw [h, Bool.true_or] at q
    exact fo q
  · rw [h, Bool.false_or] at q
    refine ⟨_, rfl, _, rfl, ?_⟩
    refine ifb (fun h => ?_) (fun h => ?_)
    · rw [if_pos (of_decide_eq_true h)] at q
      exact ⟨_, rfl, d, rfl, hd, fo q⟩
    · rw [if_neg (of_decide_eq_false h)] at q
      exact ⟨_, rfl, d, rfl, hd, fo q⟩
end
end My
namespace My
open PySem L2
theorem gt_str {S : Sto} {z : Str} (h : z.cps.size ≤ 100000) : Gt S (.str z) := ⟨⟨.str, rfl⟩, fun y e => by cases e; exact h⟩
def Ly (S : Sto) (n : Nat) (d : D) : Prop := ∃ p, Dp S d p ∧ p.canLay0 = true ∧ p.depth ≤ n
theorem Ly.all {S : Sto} {n : Nat} : ∀ {ds : List D}, (∀ d ∈ ds, Ly S n d) → ∃ ps : List PyData, DpAll S ds ps ∧ PyData.canLayAll0 ps = true ∧ PyData.depthAll ps ≤ n ∧ ps.length = ds.length
  | [], _ => ⟨[], by simp only [DpAll], rfl, Nat.zero_le _, rfl⟩
  | d :: ds, h => by
    obtain ⟨p, h1, h2, h3⟩ := h d List.mem_cons_self
    obtain ⟨ps, k1, k2, k3, k4⟩ := Ly.all fun x hx => h x (List.mem_cons_of_mem _ hx)
    refine ⟨p :: ps, by simp only [DpAll]; exact ⟨p, ps, rfl, h1, k1⟩, by simp only [PyData.canLayAll0, h2, k2, Bool.and_self], by simp only [PyData.depthAll]; omega, by rw [List.length_cons, List.length_cons, k4]⟩
theorem Ly.tup {S : Sto} {n : Nat} {ds : List D} (h : ∀ d ∈ ds, Ly S n d) : Ly S (n + 1) (.tup ds) := by
  obtain ⟨ps, k1, k2, k3, _⟩ := Ly.all h
  exact ⟨.tuple ps, by simp only [Dp]; exact ⟨ps, rfl, k1⟩, by simp only [PyData.canLay0]; exact k2, by simp only [PyData.depth]; omega⟩
theorem Ly.str {S : Sto} {z : Str} (h : PyData.strOk z = true) : Ly S 0 (.str z) := ⟨.str z, by simp only [Dp], by simp only [PyData.canLay0]; exact h, by simp only [PyData.depth]; omega⟩
theorem Ly.le {S : Sto} {n m : Nat} {d : D} (h : Ly S n d) (l : n ≤ m) : Ly S m d := let ⟨p, a, b, c⟩ := h; ⟨p, a, b, Nat.le_trans c l⟩
theorem Ly.non {S : Sto} : Ly S 0 .non := ⟨.none, by simp only [Dp], by simp only [PyData.canLay0], by simp only [PyData.depth]; omega⟩
theorem Ly.dl {S : Sto} {n : Nat} {d : D} (h : Ly S n d) : ∃ p, Dl S d p ∧ p.canLay0 = true ∧ p.depth ≤ n := by
  obtain ⟨p, a, b, c⟩ := h
  refine ⟨p, ?_, b, c⟩
  cases d with
  | ref x => simp only [Dp] at a
  | _ => exact a
theorem eq_self {S : Sto} {d : D} {R : KD} {neg : Bool} (h : Ly S 64 d) (q : R (.bl (!neg)) S) : eqD neg d d S R := by
  obtain ⟨p, a, b, c⟩ := h.dl
  have e : (if neg then !PyData.eqv p p else PyData.eqv p p) = !neg := by rw [SeqAt.eqv_refl p b]; cases neg <;> rfl
  have third : ∃ p q, Dl S d p ∧ Dl S d q ∧ p.canLay0 = true ∧ q.canLay0 = true ∧ (p.depth ≤ 64 ∨ q.depth ≤ 64) ∧ R (.bl (if neg then !PyData.eqv p q else PyData.eqv p q)) S := ⟨p, p, a, a, b, b, .inl c, by rw [e]; exact q⟩
  cases d with
  | int i => show R (.bl (if neg then !decide (i = i) else decide (i = i))) S; rw [decide_eq_true rfl]; cases neg <;> exact q
  | str i => show R (.bl (if neg then !decide (i = i) else decide (i = i))) S; rw [decide_eq_true rfl]; cases neg <;> exact q
  | _ => exact third
theorem eqv_nilT (ps : List PyData) : PyData.eqv (.tuple ps) (.tuple []) = ps.isEmpty := by cases ps <;> simp [PyData.eqv, PyData.eqvAll]
theorem ok_iff {z : Str} : PyData.strOk z = true ↔ ∀ c ∈ z.cps.toList, c < 1114112 := by
  unfold PyData.strOk
  rw [Array.all_eq_true']
  constructor
  · intro h c hc; exact of_decide_eq_true (h c (Array.mem_toList_iff.mp hc))
  · intro h c hc; exact decide_eq_true (h c (Array.mem_toList_iff.mpr hc))
def spl (z : Str) : List Str := Txt.split z " "
theorem txt_join (a : Str) : ∀ l : List Str, Txt.join a l = a.join l
  | [] => by rw [PyProof.Rows.join_nil]; rfl
  | x :: r => PySem.StrLaws.glued_cons a r x
theorem spl_weight (z : Str) : ((spl z).map (·.length)).sum + (spl z).length ≤ z.length + 1 := PyProof.Rows.split_weight z " " (by decide)
theorem sum_mem {l : List Nat} {x : Nat} (h : x ∈ l) : x ≤ l.sum := by
  induction l with
  | nil => cases h
  | cons a l ih =>
    rw [List.sum_cons]
    rcases List.mem_cons.mp h with e | h
    · omega
    · have := ih h; omega
theorem spl_len (z : Str) : (spl z).length ≤ z.length + 1 := by have := spl_weight z; omega
theorem spl_pos (z : Str) : 1 ≤ (spl z).length := PyProof.Rows.split_pos z " "
theorem spl_mem {z p : Str} (h : p ∈ spl z) : p.length ≤ z.length := by
  have h1 := sum_mem (List.mem_map.mpr ⟨p, h, rfl⟩ : p.length ∈ (spl z).map (·.length))
  have h2 := spl_weight z
  have h3 : 1 ≤ (spl z).length := spl_pos z
  omega
theorem spl_join (z : Str) : (" " : Str).join (spl z) = z := PySem.StrLaws.join_split z " "
theorem spl_ok {z p : Str} (h : p ∈ spl z) (hz : PyData.strOk z = true) : PyData.strOk p = true := by
  rw [ok_iff] at hz ⊢
  intro c hc
  refine hz c ?_
  rw [← spl_join z, PyProof.Rows.mem_join]
  exact .inl ⟨p, h, hc⟩
theorem join_ok {a : Str} {l : List Str} (ha : PyData.strOk a = true) (h : ∀ p ∈ l, PyData.strOk p = true) : PyData.strOk (Txt.join a l) = true := by
  rw [txt_join, ok_iff]
  intro c hc
  rw [PyProof.Rows.mem_join] at hc
  rcases hc with ⟨p, hp, hc⟩ | ⟨_, hc⟩
  · exact ok_iff.mp (h p hp) c hc
  · exact ok_iff.mp ha c hc
theorem join_len (a : Str) (l : List Str) : (Txt.join a l).length ≤ (l.map (·.length)).sum + l.length * a.length := by
  rw [txt_join]; exact PySem.StrLaws.join_length_le a l
theorem sum_le {l : List Str} {n : Nat} (h : ∀ p ∈ l, p.length ≤ n) : (l.map (·.length)).sum ≤ l.length * n := by
  induction l with
  | nil => exact Nat.zero_le _
  | cons a l ih =>
    rw [List.map_cons, List.sum_cons, List.length_cons, Nat.succ_mul]
    have h1 := h a List.mem_cons_self
    have h2 := ih fun p hp => h p (List.mem_cons_of_mem _ hp)
    omega
theorem eqV_str (a b : Str) : eqV (.str a) (.str b) = decide (a = b) := by show (a == b) = _; by_cases h : a = b <;> simp [h]
theorem in_strs (z : Str) : ∀ ws : List Str, inV (vOf (.str z)) ((ws.map D.str).map vOf) = decide (z ∈ ws)
  | [] => rfl
  | w :: ws => by
    show (eqV (.str w) (.str z) || inV (vOf (.str z)) ((ws.map D.str).map vOf)) = _
    rw [in_strs z ws, eqV_str]
    by_cases h : w = z
    · rw [decide_eq_true h, Bool.true_or, decide_eq_true (List.mem_cons.mpr (.inl h.symm))]
    · rw [decide_eq_false h, Bool.false_or, decide_eq_decide]
      exact ⟨fun q => List.mem_cons_of_mem _ q, fun q => (List.mem_cons.mp q).resolve_left fun e => h e.symm⟩
theorem flat_strs (ws : List Str) : (ws.map D.str).all flatD = true := by
  rw [List.all_map]; exact List.all_eq_true.mpr fun _ _ => rfl
def brk (ws : List Str) : Bool := decide (("(" : Str) ∈ ws) || decide ((")" : Str) ∈ ws)
theorem atI_nat {α : Type} {xs : List α} {i : Nat} (h : i < xs.length) : atI xs ((i : Nat) : Int) = xs[i]? := by
  unfold atI ixN
  rw [if_pos (by omega), if_pos (by omega)]; rfl
theorem wd_get {ws : List Str} {i : Nat} (h : i < ws.length) : (ws.map D.str)[i]? = some (.str (ws.getD i "")) := by
  rw [List.getElem?_map, List.getD_eq_getElem?_getD, List.getElem?_eq_getElem h]; rfl
end My
namespace My
open PySem L2
def Vok (d : D) : Prop := d = .non ∨ (∃ n : Int, d = .int n ∧ n.natAbs < 10 ^ 60) ∨ ∃ z : Str, d = .str z ∧ wordZ z = true
def valS : D → Str
  | .int n => "#" ++ numS n
  | .str z => "\"" ++ escS z
  | _ => "-"
theorem str1 (c : Nat) (z s : Str) (h : s = ⟨#[c]⟩) : (s ++ z).cps.toList = c :: z.cps.toList := by rw [sapp, h]; rfl
theorem hash_list (n : Int) : (valS (.int n)).cps.toList = 35 :: (numS n).cps.toList := str1 35 _ _ (by decide +kernel)
theorem quote_list (z : Str) : (valS (.str z)).cps.toList = 34 :: (escS z).cps.toList := str1 34 _ _ (by decide +kernel)
theorem hash1 : ("#" : Str) = ⟨#[35]⟩ := by decide +kernel
theorem quote1 : ("\"" : Str) = ⟨#[34]⟩ := by decide +kernel
theorem dash1 : ("-" : Str) = ⟨#[45]⟩ := by decide +kernel
theorem esc_len (l : List Nat) : (sub1 32 [61, 98] (sub1 61 [61, 101] l)).length ≤ 2 * l.length := by
  induction l with
  | nil => exact Nat.le_refl _
  | cons c l ih =>
    rw [sub1_cons 61]
    by_cases h : c = 61
    · rw [if_pos h, sub1_app, List.length_append, show (sub1 32 [61, 98] [61, 101]).length = 2 from rfl, List.length_cons]; omega
    · rw [if_neg h, sub1_app, List.length_append, List.length_cons]
      have : (sub1 32 [61, 98] [c]).length ≤ 2 := by
        rw [sub1_cons]
        by_cases h2 : c = 32
        · rw [if_pos h2]; exact Nat.le_refl _
        · rw [if_neg h2]; show 1 ≤ 2; decide
      omega
theorem esc_mem (l : List Nat) : ∀ c ∈ sub1 32 [61, 98] (sub1 61 [61, 101] l), c ≠ 32 ∧ (c = 61 ∨ c = 98 ∨ c = 101 ∨ c ∈ l) := by
  induction l with
  | nil => exact fun _ h => (nomatch h)
  | cons d l ih =>
    intro c hc
    rw [sub1_cons 61] at hc
    have tl : c ∈ sub1 32 [61, 98] (sub1 61 [61, 101] l) → c ≠ 32 ∧ (c = 61 ∨ c = 98 ∨ c = 101 ∨ c ∈ d :: l) := fun h => by
      obtain ⟨a, b⟩ := ih c h
      refine ⟨a, ?_⟩
      rcases b with b | b | b | b
      · exact .inl b
      · exact .inr (.inl b)
      · exact .inr (.inr (.inl b))
      · exact .inr (.inr (.inr (List.mem_cons_of_mem _ b)))
    by_cases h : d = 61
    · rw [if_pos h, sub1_app, show sub1 32 [61, 98] [61, 101] = [61, 101] from rfl] at hc
      rcases List.mem_append.mp hc with hc | hc
      · simp only [List.mem_cons, List.not_mem_nil, or_false] at hc
        rcases hc with rfl | rfl
        · exact ⟨by decide, .inl rfl⟩
        · exact ⟨by decide, .inr (.inr (.inl rfl))⟩
      · exact tl hc
    · rw [if_neg h, sub1_app] at hc
      rcases List.mem_append.mp hc with hc | hc
      · rw [sub1_cons] at hc
        by_cases h2 : d = 32
        · rw [if_pos h2] at hc
          have hc : c ∈ [61, 98] := by simpa [sub1] using hc
          simp only [List.mem_cons, List.not_mem_nil, or_false] at hc
          rcases hc with rfl | rfl
          · exact ⟨by decide, .inl rfl⟩
          · exact ⟨by decide, .inr (.inl rfl)⟩
        · rw [if_neg h2] at hc
          have hc : c = d := by simpa [sub1] using hc
          subst hc
          exact ⟨h2, .inr (.inr (.inr List.mem_cons_self))⟩
      · exact tl hc
theorem esc_size (z : Str) : (escS z).cps.size ≤ 2 * z.cps.size := by rw [size_list, size_list, esc_list]; exact esc_len _
theorem word_signs {z : Str} (h : wordZ z = true) : z.cps.size ≤ 40 ∧ ∀ c ∈ z.cps.toList, 32 ≤ c ∧ c ≤ 126 := by
  unfold wordZ at h
  rw [Bool.and_eq_true, decide_eq_true_eq, List.all_eq_true] at h
  refine ⟨h.1, fun c hc => ?_⟩
  have := h.2 c hc
  unfold isWrd at this
  rw [Bool.and_eq_true, decide_eq_true_eq, decide_eq_true_eq] at this
  exact this
theorem val_ok {d : D} (h : Vok d) : (valS d).cps.size ≤ 90 ∧ PyData.strOk (valS d) = true ∧ 32 ∉ (valS d).cps.toList := by
  rcases h with rfl | ⟨n, rfl, hn⟩ | ⟨z, rfl, hz⟩
  · exact ⟨by decide +kernel, by decide +kernel, by decide +kernel⟩
  · have hs := num_size hn
    have hc := num_signs n
    refine ⟨?_, ok_iff.mpr ?_, ?_⟩
    · rw [size_list, hash_list, List.length_cons, ← size_list]; omega
    · rw [hash_list]
      intro c h
      rcases List.mem_cons.mp h with rfl | h
      · decide
      · have := hc c h; omega
    · rw [hash_list]
      intro h
      rcases List.mem_cons.mp h with h | h
      · exact absurd h (by decide)
      · have := hc 32 h; omega
  · obtain ⟨h1, h2⟩ := word_signs hz
    have hs := esc_size z
    have hm := esc_mem z.cps.toList
    rw [← esc_list] at hm
    refine ⟨?_, ok_iff.mpr ?_, ?_⟩
    · rw [size_list, quote_list, List.length_cons, ← size_list]; omega
    · rw [quote_list]
      intro c h
      rcases List.mem_cons.mp h with rfl | h
      · decide
      · rcases (hm c h).2 with rfl | rfl | rfl | h
        · decide
        · decide
        · decide
        · have := h2 c h; omega
    · rw [quote_list]
      intro h
      rcases List.mem_cons.mp h with h | h
      · exact absurd h (by decide)
      · exact (hm 32 h).1 rfl
def headB (l : List Nat) : Bool := decide (l = [48]) || !decide (l.head? = some 48)
def numB (l : List Nat) (most : Nat) : Bool := if l.head? = some 45 then digL (l.drop 1) most && (!decide (l.drop 1 = [48]) && headB (l.drop 1)) else digL l most && headB l
def valT (l : List Nat) : Bool := if l.head? = some 35 then numB (l.drop 1) 60 else if l.head? = some 34 then wrdL (l.drop 1) else decide (l = [45])
def Told (z : Str) (d : D) : Prop := (z = "-" ∧ d = .non) ∨ (z.cps.toList.head? = some 35 ∧ ∃ n : Int, n.natAbs < 10 ^ 60 ∧ intText? (Txt.slice z (some 1) none) = some n ∧ (Txt.slice z (some 1) none).cps.size ≤ 61 ∧ d = .int n) ∨ (z.cps.toList.head? = some 34 ∧ d = .str (unS (Txt.slice z (some 1) none)))
theorem drop_size {z : Str} {c : Nat} (h : z.cps.toList.head? = some c) : 1 ≤ z.cps.size := by
  rw [size_list]
  cases e : z.cps.toList with
  | nil => rw [e] at h; cases h
  | cons a l => exact Nat.le_add_left _ _
theorem head_drop {l : List Nat} {c : Nat} (h : l.head? = some c) : l = c :: l.drop 1 := by
  cases l with
  | nil => cases h
  | cons a l => cases h; rfl
theorem num_text {z : Str} {most : Nat} (hm : most ≤ 60) (h : numB z.cps.toList most = true) : ∃ n : Int, intText? z = some n ∧ n.natAbs < 10 ^ 60 ∧ z.cps.size ≤ 61 := by
  unfold numB at h
  by_cases hh : z.cps.toList.head? = some 45
  · rw [if_pos hh, Bool.and_eq_true] at h
    obtain ⟨n, h1, h2, _⟩ := fig_minus (head_drop hh) hm h.1
    have := (digL_ok h.1).2.1
    exact ⟨n, h1, h2, by rw [size_list, head_drop hh, List.length_cons]; omega⟩
  · rw [if_neg hh, Bool.and_eq_true] at h
    obtain ⟨n, h1, h2, _⟩ := fig_plus hm h.1
    have := (digL_ok h.1).2.1
    exact ⟨n, h1, h2, by rw [size_list]; omega⟩
theorem valT_told {z : Str} (h : valT z.cps.toList = true) : ∃ d, Told z d ∧ Vok d := by
  unfold valT at h
  by_cases h1 : z.cps.toList.head? = some 35
  · rw [if_pos h1, ← sl1 (drop_size h1)] at h
    obtain ⟨n, a, b, c⟩ := num_text (by decide) h
    exact ⟨.int n, .inr (.inl ⟨h1, n, b, a, c, rfl⟩), .inr (.inl ⟨n, rfl, b⟩)⟩
  · rw [if_neg h1] at h
    by_cases h2 : z.cps.toList.head? = some 34
    · rw [if_pos h2, ← sl1 (drop_size h2)] at h
      refine ⟨_, .inr (.inr ⟨h2, rfl⟩), .inr (.inr ⟨_, rfl, ?_⟩)⟩
      unfold wrdL at h
      simp only [Bool.and_eq_true, decide_eq_true_eq] at h
      unfold wordZ isWrd
      rw [Bool.and_eq_true, decide_eq_true_eq, size_list, un_list]
      exact ⟨h.2.1, h.2.2⟩
    · rw [if_neg h2, decide_eq_true_eq] at h
      exact ⟨.non, .inl ⟨sext (by rw [h, dash1]), rfl⟩, .inl rfl⟩
section
variable {P : Program} {w : World} {K : PySem.W.Frag} {mg : Str → Option Value} {base : Heap} {t : Adr}
theorem ok_value_text (T : Txt K mg t) : FnD P w K mg base 1 t.f_value_text t.d_value_text ["value"] (fun ds S R _ => ∃ d, ds = [d] ∧ Vok d ∧ R (.str (valS d)) S) := by
  refine T.F_value_text.ok sc_value_text (fun ds S R Z ⟨_, e, _⟩ => by rw [e]; rfl) (fun cdv A outer s H E ds S R Z hr ⟨d, e, hd, q⟩ => ?_)
  subst e
  refine ⟨_, (sc (si (tcm o_is hr.units (dv 0) dn) (s1 (sr ds)) s0) (sc (si (tv (cb c_isi T.n_isinstance bt_isinstance (ac (dv 0) (ac (dty T.n_str bt_str) an)))) (s1 (sr (ga (gr (gr (g1 (dv 0)))) hr.units))) s0) (s1 (sr (bo o_add hr.units ds (ct c_str T.n_str bt_str (ac (dv 0) an))))))), ?_⟩
  rcases hd with rfl | ⟨n, rfl, hn⟩ | ⟨z, rfl, hz⟩
  · exact ⟨_, rfl, _, rfl, iteT (fo q)⟩
  · refine ⟨_, rfl, _, rfl, iteF ⟨_, rfl, _, _, _, _, rfl, isa_str, rfl, _, rfl, iteF ⟨_, rfl, n, rfl, log_of hn, sm ?_, fo q⟩⟩⟩
    have := num_size hn
    show 1 + (numS n).cps.size ≤ _
    omega
  · obtain ⟨h1, _⟩ := word_signs hz
    refine ⟨_, rfl, _, rfl, iteF ⟨_, rfl, _, _, _, _, rfl, isa_str, rfl, _, rfl, iteT ⟨_, rfl, z, rfl, ?_, _, rfl, ?_, sm ?_, fo q⟩⟩⟩
    · show z.cps.size + (z.cps.size + 1) * 2 ≤ _; omega
    · have : (Txt.replace z "=" "=e").cps.size ≤ 2 * z.cps.size := by
        rw [size_list, size_list, show ("=" : Str) = ⟨#[61]⟩ by decide +kernel, rep1]
        generalize z.cps.toList = l
        rw [show ("=e" : Str).cps.toList = [61, 101] by decide +kernel]
        induction l with
        | nil => exact Nat.le_refl _
        | cons c l ih =>
          rw [sub1_cons, List.length_append, List.length_cons]
          by_cases h : c = 61
          · rw [if_pos h]; show 2 + _ ≤ _; omega
          · rw [if_neg h]; show 1 + _ ≤ _; omega
      show (Txt.replace z "=" "=e").cps.size + ((Txt.replace z "=" "=e").cps.size + 1) * 2 ≤ _
      omega
    · have := esc_size z
      show 1 + (escS z).cps.size ≤ _
      omega
theorem rep_two {z : Str} {a b : Nat} {y : Str} (hy : y.cps.toList.length ≤ 2) : (Txt.replace z ⟨#[a, b]⟩ y).cps.size ≤ 2 * z.cps.size := by
  rw [size_list, size_list, rep2_str]
  have : ∀ (n : Nat) (l : List Nat), l.length ≤ n → (rep2 a b y.cps.toList l).length ≤ 2 * l.length := by
    intro n
    induction n with
    | zero => intro l hl; rw [List.eq_nil_of_length_eq_zero (Nat.le_zero.mp hl)]; exact Nat.le_refl _
    | succ n ih =>
      intro l hl
      match l with
      | [] => exact Nat.le_refl _
      | [x] =>
        rw [rep2]
        · simp
        · intro _ _ _ h; cases h
      | x :: u :: r =>
        by_cases h : x = a ∧ u = b
        · rw [h.1, h.2, rep2_eq, List.length_append]
          have := ih r (by simp at hl; omega)
          simp only [List.length_cons] at *; omega
        · rw [rep2, if_neg h]
          have := ih (u :: r) (by simp at hl ⊢; omega)
          simp only [List.length_cons] at *; omega
  exact this _ _ (Nat.le_refl _)
theorem ok_value_of_text (T : Txt K mg t) : FnD P w K mg base 1 t.f_value_of_text t.d_value_of_text ["text"] (fun ds S R _ => ∃ z d, ds = [.str z] ∧ z.cps.size ≤ 90000 ∧ Told z d ∧ R d S) := by
  refine T.F_value_of_text.ok sc_value_of_text (fun ds S R Z ⟨_, _, e, _⟩ => by rw [e]; rfl) (fun cdv A outer s H E ds S R Z hr ⟨z, d, e, hz, ht, q⟩ => ?_)
  subst e
  refine ⟨_, (sc (si (tcm o_eq hr.units (dv 0) ds) (s1 (sr dn)) s0) (sc (si (tv (bm PySem.F.plainAttrs_str PySem.F.slot_str_startswith PySem.F.type_str_startswith m_starts (dv 0) (ac ds an))) (s1 (sr (ct c_intS T.n_int bt_int (ac (sl (dv 0) (o1 di) o0) an)))) s0) (s1 (sr (gd (gr (gr (gs (dv 0))))))))), ?_⟩
  have hsl : z.length ≤ sizeLine := sm (by show z.cps.size ≤ _; omega)
  rcases ht with ⟨rfl, rfl⟩ | ⟨h1, n, hn, hr2, hs6, rfl⟩ | ⟨h1, rfl⟩
  · exact ⟨_, rfl, _, rfl, ifb (fun _ => fo q) (fun h => by
      have h : decide (("-" : Str) = "-") = false := h
      exact absurd rfl (of_decide_eq_false h))⟩
  · refine ⟨_, rfl, _, rfl, ifb (fun h => ?_) (fun _ => ?_)⟩
    · have h : z = "-" := of_decide_eq_true h
      rw [h, dash1] at h1; cases h1
    refine ⟨_, rfl, rfl, _, _, rfl, rfl, _, rfl, ?_⟩
    rw [show Txt.startswith z "#" = true by rw [hash1, starts1, decide_eq_true h1]]
    exact iteT ⟨_, rfl, _, rfl, hsl, _, n, rfl, hr2, Nat.le_trans hs6 (by decide), fo q⟩
  · refine ⟨_, rfl, _, rfl, ifb (fun h => ?_) (fun _ => ?_)⟩
    · have h : z = "-" := of_decide_eq_true h
      rw [h, dash1] at h1; cases h1
    refine ⟨_, rfl, rfl, _, _, rfl, rfl, _, rfl, ?_⟩
    rw [show Txt.startswith z "#" = false by rw [hash1, starts1, h1]; rfl]
    have hs1 : (Txt.slice z (some 1) none).cps.size ≤ 90000 := by rw [size_list, sl1 (drop_size h1), List.length_drop, ← size_list]; omega
    have hs2 : (Txt.replace (Txt.slice z (some 1) none) "=b" " ").cps.size ≤ 180000 := by
      rw [show ("=b" : Str) = ⟨#[61, 98]⟩ by decide +kernel]
      exact Nat.le_trans (rep_two (by decide +kernel)) (by omega)
    refine iteF ⟨_, rfl, hsl, _, rfl, ?_, _, rfl, ?_, fo q⟩
    · show (Txt.slice z (some 1) none).cps.size + ((Txt.slice z (some 1) none).cps.size + 1) * 1 ≤ _; omega
    · show (Txt.replace (Txt.slice z (some 1) none) "=b" " ").cps.size + ((Txt.replace (Txt.slice z (some 1) none) "=b" " ").cps.size + 1) * 1 ≤ _
      omega
theorem ok_is_number_text (T : Txt K mg t) : FnD P w K mg base 2 t.f_is_number_text t.d_is_number_text ["text", "most"] (fun ds S R _ => ∃ (z : Str) (m : Nat), ds = [.str z, .int (m : Nat)] ∧ z.cps.size ≤ 90000 ∧ m ≤ 60 ∧ R (.bl (numB z.cps.toList m)) S) := by
  have G_is_figure : FnD P w K mg base 1 t.f_is_figure t.d_is_figure ["sign"] (spSign isFig) := ok_is_figure T
  refine T.F_is_number_text.ok sc_is_number_text (fun ds S R Z ⟨_, _, e, _⟩ => by rw [e]; rfl) (fun cdv A outer s H E ds S R Z hr ⟨z, m, e, hz, hm, q⟩ => ?_)
  subst e
  have hsl : z.length ≤ sizeLine := sm (by show z.cps.size ≤ _; omega)
  refine ⟨_, (sc (st_ (i := 2) sc_is_number_text.nd (eif (tv (bm PySem.F.plainAttrs_str PySem.F.slot_str_startswith PySem.F.type_str_startswith m_starts (dv 0) (ac ds an))) (sl (dv 0) (o1 di) o0) (dv 0))) (sc (si (twd (twor (tnot (tcc o_le o_le hr.units di (cb c_len T.n_len bt_len (ac (dv 2) an)) (dv 1))) (tw1 (tnot (tv (cb c_all T.n_all bt_all (ac (eco (N := ["sign"]) (src := [none]) (csc (defScope s_is_number_text) ["text", "most", "figures"] rfl rfl (by decide +kernel)) (istr (dv 2)) (cg1 (show (["sign"] : List Str).Nodup by decide +kernel)) (gx_name rfl) gd_name (fun _ _ _ _ _ => if0) (fun _ _ _ _ _ => (cf (G_is_figure.mono (by decide)) hr T.mg_is_figure T.k_is_figure T.b_is_figure d0 (ac (dv 0) an)))) an))))))) (s1 (sr db)) s0) (s1 (sr (cm o_eq hr.units (ct c_str T.n_str bt_str (ac (ct c_intS T.n_int bt_int (ac (dv 0) an)) an)) (dv 0)))))), ?_⟩
  refine ⟨_, rfl, rfl, _, _, rfl, rfl, _, rfl, ?_⟩
  unfold numB at q
  by_cases hh : z.cps.toList.head? = some 45
  · rw [if_pos hh, ← sl1 (drop_size hh)] at q
    rw [show Txt.startswith z "-" = true by rw [dash1, starts1, decide_eq_true hh]]
    refine iteT ⟨_, rfl, _, rfl, hsl, ?_⟩
    have hfs : (Txt.slice z (some 1) none).cps.size ≤ 90000 := by rw [size_list, sl1 (drop_size hh), List.length_drop, ← size_list]; omega
    have hint : digL (Txt.slice z (some 1) none).cps.toList m = true → ∃ n : Int, intText? z = some n ∧ n.natAbs < 10 ^ 60 ∧ z.length ≤ 640 ∧ decide (numS n = z) = (!decide ((Txt.slice z (some 1) none).cps.toList = [48]) && headB (Txt.slice z (some 1) none).cps.toList) := fun hd => by
      have e := head_drop hh
      rw [← sl1 (drop_size hh)] at e
      obtain ⟨n, a, b, c⟩ := fig_minus e hm hd
      have hl := (digL_ok hd).2.1
      exact ⟨n, a, b, by show z.cps.size ≤ _; rw [size_list, e, List.length_cons]; omega, c⟩
    generalize Txt.slice z (some 1) none = f at q hfs hint ⊢
    refine ⟨_, rfl, _, rfl, sm (by show f.cps.size ≤ _; omega), _, rfl, ?_⟩
    have e1 : decide ((1 : Int) ≤ ((f.length : Nat) : Int)) = decide (1 ≤ f.cps.toList.length) := by rw [decide_eq_decide, ← size_list]; show (1 : Int) ≤ ((f.cps.size : Nat) : Int) ↔ _; omega
    have e2 : decide (((f.length : Nat) : Int) ≤ ((m : Nat) : Int)) = decide (f.cps.toList.length ≤ m) := by rw [decide_eq_decide, ← size_list]; show ((f.cps.size : Nat) : Int) ≤ _ ↔ _; omega
    refine ifb (fun h2 => ?_) (fun h2 => ?_)
    · have h2' := e1.symm.trans h2
      refine ⟨_, rfl, _, rfl, ?_⟩
      refine ifb (fun h3 => ?_) (fun h3 => ?_)
      · have hd : digL f.cps.toList m = false := by unfold digL; rw [h2', e2.symm.trans (nt h3)]; rfl
        rw [hd, Bool.false_and] at q
        exact fo q
      · have h3' := e2.symm.trans (nf h3)
        refine ⟨_, rfl, f, rfl, ?_⟩
        refine comp_map (I := ⟨signsD f, fun _ => True⟩) (signF isFig) trivial (by show (signsD f).length ≤ _; unfold signsD; rw [List.length_map, Array.length_toList]; omega) (fun d hd Q hQ => ?_) fun p hp => ?_
        · obtain ⟨c, hc, rfl⟩ := signs_mem hd
          exact ⟨_, rfl, c, rfl, by simpa [signF] using hQ⟩
        refine ⟨.ref p, f.cps.toList.map isFig, rfl, (show (S.set p (.lst ((signsD f).map (signF isFig)))) p = _ by rw [sset_same, signs_map]), _, rfl, ?_⟩
        have ed : digL f.cps.toList m = (f.cps.toList.map isFig).all id := by
          unfold digL
          rw [h2', h3', Bool.true_and, Bool.true_and, all_map]; rfl
        rw [← ed]
        cases hd : digL f.cps.toList m with
        | false =>
          rw [hd, Bool.false_and] at q
          exact iteT ⟨S, .new hp, q⟩
        | true =>
          rw [hd, Bool.true_and] at q
          obtain ⟨n, a, b, c, d⟩ := hint hd
          rw [← d] at q
          exact iteF ⟨_, rfl, _, n, rfl, a, c, n, rfl, log_of b, _, rfl, S, .new hp, q⟩
    · have hd : digL f.cps.toList m = false := by unfold digL; rw [e1.symm.trans h2]; rfl
      rw [hd, Bool.false_and] at q
      refine ⟨_, rfl, ?_⟩
      exact iteT (fo q)
  · rw [if_neg hh] at q
    rw [show Txt.startswith z "-" = false by rw [dash1, starts1, decide_eq_false hh]]
    refine iteF ⟨_, rfl, ?_⟩
    have hint : digL z.cps.toList m = true → ∃ n : Int, intText? z = some n ∧ n.natAbs < 10 ^ 60 ∧ z.length ≤ 640 ∧ decide (numS n = z) = headB z.cps.toList := fun hd => by
      obtain ⟨n, a, b, c⟩ := fig_plus hm hd
      have hl := (digL_ok hd).2.1
      exact ⟨n, a, b, by show z.cps.size ≤ _; rw [size_list]; omega, c⟩
    obtain ⟨f, hf⟩ : ∃ f, f = z := ⟨z, rfl⟩
    have hfs : f.cps.size ≤ 90000 := by rw [hf]; exact hz
    rw [← hf] at q
    have hint : digL f.cps.toList m = true → ∃ n : Int, intText? z = some n ∧ n.natAbs < 10 ^ 60 ∧ z.length ≤ 640 ∧ decide (numS n = z) = headB f.cps.toList := by rw [hf]; exact hint
    subst hf
    refine ⟨_, rfl, _, rfl, sm (by show f.cps.size ≤ _; omega), _, rfl, ?_⟩
    have e1 : decide ((1 : Int) ≤ ((f.length : Nat) : Int)) = decide (1 ≤ f.cps.toList.length) := by rw [decide_eq_decide, ← size_list]; show (1 : Int) ≤ ((f.cps.size : Nat) : Int) ↔ _; omega
    have e2 : decide (((f.length : Nat) : Int) ≤ ((m : Nat) : Int)) = decide (f.cps.toList.length ≤ m) := by rw [decide_eq_decide, ← size_list]; show ((f.cps.size : Nat) : Int) ≤ _ ↔ _; omega
    refine ifb (fun h2 => ?_) (fun h2 => ?_)
    · have h2' := e1.symm.trans h2
      refine ⟨_, rfl, _, rfl, ?_⟩
      refine ifb (fun h3 => ?_) (fun h3 => ?_)
      · have hd : digL f.cps.toList m = false := by unfold digL; rw [h2', e2.symm.trans (nt h3)]; rfl
        rw [hd, Bool.false_and] at q
        exact fo q
      · have h3' := e2.symm.trans (nf h3)
        refine ⟨_, rfl, f, rfl, ?_⟩
        refine comp_map (I := ⟨signsD f, fun _ => True⟩) (signF isFig) trivial (by show (signsD f).length ≤ _; unfold signsD; rw [List.length_map, Array.length_toList]; omega) (fun d hd Q hQ => ?_) fun p hp => ?_
        · obtain ⟨c, hc, rfl⟩ := signs_mem hd
          exact ⟨_, rfl, c, rfl, by simpa [signF] using hQ⟩
        refine ⟨.ref p, f.cps.toList.map isFig, rfl, (show (S.set p (.lst ((signsD f).map (signF isFig)))) p = _ by rw [sset_same, signs_map]), _, rfl, ?_⟩
        have ed : digL f.cps.toList m = (f.cps.toList.map isFig).all id := by
          unfold digL
          rw [h2', h3', Bool.true_and, Bool.true_and, all_map]; rfl
        rw [← ed]
        cases hd : digL f.cps.toList m with
        | false =>
          rw [hd, Bool.false_and] at q
          exact iteT ⟨S, .new hp, q⟩
        | true =>
          rw [hd, Bool.true_and] at q
          obtain ⟨n, a, b, c, d⟩ := hint hd
          rw [← d] at q
          exact iteF ⟨_, rfl, _, n, rfl, a, c, n, rfl, log_of b, _, rfl, S, .new hp, q⟩
    · have hd : digL f.cps.toList m = false := by unfold digL; rw [e1.symm.trans h2]; rfl
      rw [hd, Bool.false_and] at q
      refine ⟨_, rfl, ?_⟩
      exact iteT (fo q)
end
end My
namespace My
open PySem L2
theorem rep_one {a b : Nat} {y : List Nat} (hy : y.length ≤ 2) : ∀ (n : Nat) (l : List Nat), l.length ≤ n → (rep2 a b y l).length ≤ l.length := by
  intro n
  induction n with
  | zero => intro l hl; rw [List.eq_nil_of_length_eq_zero (Nat.le_zero.mp hl)]; exact Nat.le_refl _
  | succ n ih =>
    intro l hl
    match l with
    | [] => exact Nat.le_refl _
    | [x] =>
      rw [rep2]
      · exact Nat.le_refl _
      · intro _ _ _ h; cases h
    | x :: u :: r =>
      by_cases h : x = a ∧ u = b
      · rw [h.1, h.2, rep2_eq, List.length_append]
        have := ih r (by simp at hl; omega)
        simp only [List.length_cons] at *; omega
      · rw [rep2, if_neg h]
        have := ih (u :: r) (by simp at hl ⊢; omega)
        simp only [List.length_cons] at *; omega
theorem un_size (z : Str) : (unS z).cps.size ≤ z.cps.size := by
  rw [size_list, size_list, un_list]
  exact Nat.le_trans (rep_one (by decide) _ _ (Nat.le_refl _)) (rep_one (by decide) _ _ (Nat.le_refl _))
theorem dash_iff (z : Str) : decide (z = "-") = decide (z.cps.toList = [45]) := by
  rw [decide_eq_decide, dash1]
  exact ⟨fun h => by rw [h], fun h => sext h⟩
theorem wrd_eq (z : Str) (h : z.cps.toList.head? = some 34) : wrdL (z.cps.toList.drop 1) = (wordZ (unS (Txt.slice z (some 1) none)) && decide (valS (.str (unS (Txt.slice z (some 1) none))) = z)) := by
  have hs := sl1 (drop_size h)
  have e : decide (valS (.str (unS (Txt.slice z (some 1) none))) = z) = decide (escL (unL (z.cps.toList.drop 1)) = z.cps.toList.drop 1) := by
    rw [decide_eq_decide]
    have hl : (valS (.str (unS (Txt.slice z (some 1) none)))).cps.toList = 34 :: escL (unL (z.cps.toList.drop 1)) := by
      rw [quote_list, esc_list, un_list, hs]; rfl
    constructor
    · intro q
      rw [q, head_drop h] at hl
      injection hl with _ hl
      exact hl.symm
    · intro q
      refine sext ?_
      rw [hl, q, ← head_drop h]
  have e2 : wordZ (unS (Txt.slice z (some 1) none)) = (decide ((unL (z.cps.toList.drop 1)).length ≤ 40) && (unL (z.cps.toList.drop 1)).all fun c => decide (32 ≤ c) && decide (c ≤ 126)) := by
    unfold wordZ isWrd
    rw [size_list, un_list, hs]; rfl
  rw [e, e2, Bool.and_comm]
  rfl
section
variable {P : Program} {w : World} {K : PySem.W.Frag} {mg : Str → Option Value} {base : Heap} {t : Adr}
theorem ok_is_value_text (T : Txt K mg t) : FnD P w K mg base 3 t.f_is_value_text t.d_is_value_text ["text"] (fun ds S R _ => ∃ z, ds = [.str z] ∧ z.cps.size ≤ 90000 ∧ R (.bl (valT z.cps.toList)) S) := by
  have G_is_number_text : FnD P w K mg base 2 t.f_is_number_text t.d_is_number_text ["text", "most"] _ := ok_is_number_text T
  have G_is_word : FnD P w K mg base 2 t.f_is_word t.d_is_word ["thing"] (spOf (ofStr wordZ)) := ok_is_word T
  have G_value_of_text : FnD P w K mg base 1 t.f_value_of_text t.d_value_of_text ["text"] _ := ok_value_of_text T
  have G_value_text : FnD P w K mg base 1 t.f_value_text t.d_value_text ["value"] _ := ok_value_text T
  refine T.F_is_value_text.ok sc_is_value_text (fun ds S R Z ⟨_, e, _⟩ => by rw [e]; rfl) (fun cdv A outer s H E ds S R Z hr ⟨z, e, hz, q⟩ => ?_)
  subst e
  have hsl : z.length ≤ sizeLine := sm (by show z.cps.size ≤ _; omega)
  refine ⟨_, (sc (si (tv (bm PySem.F.plainAttrs_str PySem.F.slot_str_startswith PySem.F.type_str_startswith m_starts (dv 0) (ac ds an))) (s1 (sr (cf (G_is_number_text.mono (by decide)) hr T.mg_is_number_text T.k_is_number_text T.b_is_number_text d0 (ac (sl (dv 0) (o1 di) o0) (ac (dg (v := .int 60) T.mg_MOST_NUMBER_FIGURES ⟨_, rfl⟩ fun _ => rv_int _) an))))) s0) (sc (si (tv (bm PySem.F.plainAttrs_str PySem.F.slot_str_startswith PySem.F.type_str_startswith m_starts (dv 0) (ac ds an))) (s1 (sr (eand (cf (G_is_word.mono (by decide)) hr T.mg_is_word T.k_is_word T.b_is_word d0 (ac (cf (G_value_of_text.mono (by decide)) hr T.mg_value_of_text T.k_value_of_text T.b_value_of_text d0 (ac (dv 0) an)) an)) (ev1 (cm o_eq hr.units (cf (G_value_text.mono (by decide)) hr T.mg_value_text T.k_value_text T.b_value_text d0 (ac (cf (G_value_of_text.mono (by decide)) hr T.mg_value_of_text T.k_value_of_text T.b_value_of_text d0 (ac (dv 0) an)) an)) (dv 0)))))) s0) (s1 (sr (cm o_eq hr.units (dv 0) ds))))), ?_⟩
  refine ⟨_, rfl, rfl, _, _, rfl, rfl, _, rfl, ?_⟩
  unfold valT at q
  by_cases h1 : z.cps.toList.head? = some 35
  · rw [if_pos h1, ← sl1 (drop_size h1)] at q
    rw [show Txt.startswith z "#" = true by rw [hash1, starts1, decide_eq_true h1]]
    exact iteT ⟨_, rfl, _, rfl, hsl, _, 60, rfl, by rw [size_list, sl1 (drop_size h1), List.length_drop, ← size_list]; omega, by decide, fo q⟩
  rw [if_neg h1] at q
  rw [show Txt.startswith z "#" = false by rw [hash1, starts1, decide_eq_false h1]]
  refine iteF ⟨_, rfl, rfl, _, _, rfl, rfl, _, rfl, ?_⟩
  by_cases h2 : z.cps.toList.head? = some 34
  · rw [if_pos h2, wrd_eq z h2] at q
    rw [show Txt.startswith z "\"" = true by rw [quote1, starts1, decide_eq_true h2]]
    have ht : Told z (.str (unS (Txt.slice z (some 1) none))) := .inr (.inr ⟨h2, rfl⟩)
    have hs1 : (Txt.slice z (some 1) none).cps.size ≤ 90000 := by rw [size_list, sl1 (drop_size h2), List.length_drop, ← size_list]; omega
    have hus := un_size (Txt.slice z (some 1) none)
    refine iteT ⟨_, rfl, z, _, rfl, hz, ht, _, rfl, gt_str (by omega), _, rfl, ?_⟩
    show if ofStr wordZ (.str (unS (Txt.slice z (some 1) none))) = true then _ else _
    refine ifb (fun h => ?_) (fun h => ?_)
    · have h : wordZ (unS (Txt.slice z (some 1) none)) = true := h
      rw [h, Bool.true_and] at q
      exact ⟨_, rfl, z, _, rfl, hz, ht, _, rfl, .inr (.inr ⟨_, rfl, h⟩), _, rfl, fo q⟩
    · have h : wordZ (unS (Txt.slice z (some 1) none)) = false := h
      rw [h, Bool.false_and] at q
      exact fo q
  · rw [if_neg h2, ← dash_iff] at q
    rw [show Txt.startswith z "\"" = false by rw [quote1, starts1, decide_eq_false h2]]
    exact iteF ⟨_, rfl, fo q⟩
theorem ok_value_in_word (T : Txt K mg t) : FnD P w K mg base 4 t.f_value_in_word t.d_value_in_word ["word"] (fun ds S R Z => ∃ z, ds = [.str z] ∧ z.cps.size ≤ 90000 ∧ (valT z.cps.toList = true → ∀ d, Told z d → Vok d → R d S) ∧ (valT z.cps.toList = false → Z t.c_NoText S)) := by
  have G_is_value_text : FnD P w K mg base 3 t.f_is_value_text t.d_is_value_text ["text"] _ := ok_is_value_text T
  have G_value_of_text : FnD P w K mg base 1 t.f_value_of_text t.d_value_of_text ["text"] _ := ok_value_of_text T
  refine T.F_value_in_word.ok sc_value_in_word (fun ds S R Z ⟨_, e, _⟩ => by rw [e]; rfl) (fun cdv A outer s H E ds S R Z hr ⟨z, e, hz, q1, q2⟩ => ?_)
  subst e
  refine ⟨_, (sc (si (tnot (tv (cf (G_is_value_text.mono (by decide)) hr T.mg_is_value_text T.k_is_value_text T.b_is_value_text d0 (ac (dv 0) an)))) (s1 (sra ⟨T.x_NoText⟩ T.mg_NoText (ac ds an))) s0) (s1 (sr (cf (G_value_of_text.mono (by decide)) hr T.mg_value_of_text T.k_value_of_text T.b_value_of_text d0 (ac (dv 0) an))))), ?_⟩
  refine ⟨_, rfl, z, rfl, hz, _, rfl, ?_⟩
  refine ifb (fun h => ?_) (fun h => ?_)
  · exact ⟨sm (show 1 ≤ 100000 by decide), fo (q2 (nt h))⟩
  · obtain ⟨d, h1, h2⟩ := valT_told (nf h)
    exact ⟨_, rfl, z, d, rfl, hz, h1, fo (q1 (nf h) d h1 h2)⟩
theorem ok_l_value_text (T : Txt K mg t) : FnD P w K mg base 1 t.f_l_value_text t.d_l_value_text ["_law_value_here"] (fun ds S R _ => ∃ d, ds = [d] ∧ Vok d ∧ R (.str (valS d)) S) := by
  refine T.F_l_value_text.ok sc_l_value_text (fun ds S R Z ⟨_, e, _⟩ => by rw [e]; rfl) (fun cdv A outer s H E ds S R Z hr ⟨d, e, hd, q⟩ => ?_)
  subst e
  refine ⟨_, (sc (si (tcm o_is hr.units (dv 0) dn) (s1 (sr ds)) s0) (sc (si (tv (cb c_isi T.n_isinstance bt_isinstance (ac (dv 0) (ac (dty T.n_str bt_str) an)))) (s1 (sr (ga (gr (gr (g1 (dv 0)))) hr.units))) s0) (s1 (sr (bo o_add hr.units ds (ct c_str T.n_str bt_str (ac (dv 0) an))))))), ?_⟩
  rcases hd with rfl | ⟨n, rfl, hn⟩ | ⟨z, rfl, hz⟩
  · exact ⟨_, rfl, _, rfl, iteT (fo q)⟩
  · refine ⟨_, rfl, _, rfl, iteF ⟨_, rfl, _, _, _, _, rfl, isa_str, rfl, _, rfl, iteF ⟨_, rfl, n, rfl, log_of hn, sm ?_, fo q⟩⟩⟩
    have := num_size hn
    show 1 + (numS n).cps.size ≤ _
    omega
  · obtain ⟨h1, _⟩ := word_signs hz
    refine ⟨_, rfl, _, rfl, iteF ⟨_, rfl, _, _, _, _, rfl, isa_str, rfl, _, rfl, iteT ⟨_, rfl, z, rfl, ?_, _, rfl, ?_, sm ?_, fo q⟩⟩⟩
    · show z.cps.size + (z.cps.size + 1) * 2 ≤ _; omega
    · have : (Txt.replace z "=" "=e").cps.size ≤ 2 * z.cps.size := by
        rw [size_list, size_list, show ("=" : Str) = ⟨#[61]⟩ by decide +kernel, rep1]
        generalize z.cps.toList = l
        rw [show ("=e" : Str).cps.toList = [61, 101] by decide +kernel]
        induction l with
        | nil => exact Nat.le_refl _
        | cons c l ih =>
          rw [sub1_cons, List.length_append, List.length_cons]
          by_cases h : c = 61
          · rw [if_pos h]; show 2 + _ ≤ _; omega
          · rw [if_neg h]; show 1 + _ ≤ _; omega
      show (Txt.replace z "=" "=e").cps.size + ((Txt.replace z "=" "=e").cps.size + 1) * 2 ≤ _
      omega
    · have := esc_size z
      show 1 + (escS z).cps.size ≤ _
      omega
end
end My
namespace My
open PySem L2
def fitB (k : Str) (l : List Nat) : Bool := if l = [45] then true else if k = "number" then (if l.take 2 = [35, 45] then (!decide (l = [35, 45, 48]) && figL (l.drop 2) 60) else decide (l.take 1 = [35]) && figL (l.drop 1) 60) else if l.take 1 = [34] then lawL (l.drop 1) else false
theorem str_iff {z y : Str} {l : List Nat} (h : y.cps.toList = l) : decide (z = y) = decide (z.cps.toList = l) := by
  rw [decide_eq_decide]
  exact ⟨fun e => by rw [e, h], fun e => sext (e.trans h.symm)⟩
theorem cut_one {α : Type} (l : List α) : cutL l (some 1) none = l.drop 1 := by
  unfold cutL
  have e : HT.sIx l.length 0 (some 1) = min 1 l.length := HT.sIx_nat l.length 0 1
  rw [e, HT.sIx_none]
  cases l with
  | nil => rfl
  | cons a l =>
    rw [show min 1 (a :: l).length = 1 by rw [List.length_cons]; omega]
    exact List.take_of_length_le (by rw [List.length_drop]; omega)
theorem join0 : ∀ ws : List Str, (Txt.join "" ws).cps.toList = ws.flatMap fun w => w.cps.toList := by
  intro ws
  rw [txt_join]
  induction ws with
  | nil => rfl
  | cons a r ih =>
    cases r with
    | nil => rw [PyProof.Rows.join_one, List.flatMap_cons, List.flatMap_nil, List.append_nil]
    | cons b r =>
      rw [PyProof.Rows.join_cons_cons, sapp, sapp, ih]
      show a.cps.toList ++ [] ++ _ = _
      rw [List.append_nil]; rfl
theorem hd_in (p : List Nat) : inV (vOf (.str (Txt.slice (ofL p) none (some 1)))) ([D.str "b", D.str "e"].map vOf) = hdB p := by
  have e := slice_to (ofL p) 1
  show (eqV (.str "b") (.str (Txt.slice (ofL p) none (some 1))) || (eqV (.str "e") (.str (Txt.slice (ofL p) none (some 1))) || false)) = _
  rw [Bool.or_false, eqV_str, eqV_str]
  have hb : ("b" : Str).cps.toList = [98] := by decide +kernel
  have he : ("e" : Str).cps.toList = [101] := by decide +kernel
  unfold hdB
  have key : ∀ (y : Str) (c : Nat), y.cps.toList = [c] → decide (y = Txt.slice (ofL p) none (some 1)) = decide (p.head? = some c) := fun y c hy => by
    rw [decide_eq_decide]
    have e' : (Txt.slice (ofL p) none (some 1)).cps.toList = p.take 1 := e
    constructor
    · intro q
      rw [← q, hy] at e'
      cases p with
      | nil => cases e'
      | cons a p => rw [List.take_succ_cons, List.take_zero] at e'; injection e' with e' _; rw [e']; rfl
    · intro q
      refine sext ?_
      rw [hy, e']
      cases p with
      | nil => cases q
      | cons a p => cases q; rfl
  rw [key _ 98 hb, key _ 101 he]
theorem fits_or (l : List Nat) : (fitB "number" l || fitB "word" l) = valT l := by
  unfold fitB valT
  by_cases h0 : l = [45]
  · rw [if_pos h0, h0]; rfl
  have nw : ¬ (("word" : Str) = "number") := by decide +kernel
  rw [if_neg h0, if_neg h0, if_pos rfl, if_neg nw]
  by_cases h1 : l.head? = some 35
  · obtain ⟨r, rfl⟩ : ∃ r, l = 35 :: r := ⟨_, head_drop h1⟩
    rw [if_pos h1]
    have e34 : ¬ ((35 :: r).take 1 = [34]) := by rw [List.take_succ_cons, List.take_zero]; decide
    rw [if_neg e34, Bool.or_false]
    show _ = numB r 60
    unfold numB headB
    rw [← figL_eq]
    by_cases h2 : r.head? = some 45
    · obtain ⟨r', rfl⟩ : ∃ r', r = 45 :: r' := ⟨_, head_drop h2⟩
      rw [if_pos h2, if_pos (show (35 :: 45 :: r').take 2 = [35, 45] from rfl)]
      show (!decide (35 :: 45 :: r' = [35, 45, 48]) && figL r' 60) = (digL r' 60 && (!decide (r' = [48]) && (decide (r' = [48]) || !decide (r'.head? = some 48))))
      rw [figL_eq, show decide (35 :: 45 :: r' = [35, 45, 48]) = decide (r' = [48]) by rw [decide_eq_decide]; simp]
      cases digL r' 60 <;> cases decide (r' = [48]) <;> simp
    · have e2 : ¬ ((35 :: r).take 2 = [35, 45]) := fun q => h2 (by
        cases r with
        | nil => cases q
        | cons a r => rw [List.take_succ_cons, List.take_succ_cons, List.take_zero] at q; injection q with _ q; injection q with q _; rw [q]; rfl)
      rw [if_neg h2, if_neg e2, decide_eq_true (show (35 :: r).take 1 = [35] from rfl), Bool.true_and]; rfl
  · rw [if_neg h1]
    have e1 : ¬ (l.take 1 = [35]) := fun q => h1 (by cases l with | nil => cases q | cons a l => rw [List.take_succ_cons, List.take_zero] at q; injection q with q _; rw [q]; rfl)
    have e2 : ¬ (l.take 2 = [35, 45]) := fun q => h1 (by
      match l with
      | [] => cases q
      | [a] => cases q
      | a :: b :: l => rw [List.take_succ_cons] at q; injection q with q _; rw [q]; rfl)
    rw [if_neg e2, decide_eq_false e1, Bool.false_and, Bool.false_or]
    by_cases h3 : l.head? = some 34
    · obtain ⟨r, rfl⟩ : ∃ r, l = 34 :: r := ⟨_, head_drop h3⟩
      rw [if_pos h3, if_pos (show (34 :: r).take 1 = [34] from rfl), wrd_law]
    · have e3 : ¬ (l.take 1 = [34]) := fun q => h3 (by cases l with | nil => cases q | cons a l => rw [List.take_succ_cons, List.take_zero] at q; injection q with q _; rw [q]; rfl)
      rw [if_neg h3, if_neg e3, decide_eq_false h0]
theorem fits_val {z : Str} {d : D} {k : Str} (hk : k = "number" ∨ k = "word") (hv : valT z.cps.toList = true) (ht : Told z d) (hd : Vok d) : fitB k z.cps.toList = valB k d := by
  have ho := fits_or z.cps.toList
  rw [hv, Bool.or_eq_true] at ho
  have nw : ¬ (("word" : Str) = "number") := by decide +kernel
  rcases ht with ⟨rfl, rfl⟩ | ⟨h1, n, hn, _, _, rfl⟩ | ⟨h1, rfl⟩
  · have e : ("-" : Str).cps.toList = [45] := by decide +kernel
    unfold fitB; rw [e, if_pos rfl]; rfl
  · have hw : fitB "word" z.cps.toList = false := by
      rw [head_drop h1]
      unfold fitB
      rw [if_neg (by intro q; injection q with q _; exact absurd q (by decide)), if_neg nw, if_neg (by rw [List.take_succ_cons, List.take_zero]; decide)]
    rcases hk with rfl | rfl
    · rw [hw] at ho
      rw [ho.resolve_right Bool.false_ne_true]; rfl
    · rw [hw]; unfold valB; rw [if_neg nw]; rfl
  · have hw : fitB "number" z.cps.toList = false := by
      rw [head_drop h1]
      unfold fitB
      rw [if_neg (by intro q; injection q with q _; exact absurd q (by decide)), if_pos rfl, if_neg (by intro q; rw [List.take_succ_cons] at q; injection q with q _; exact absurd q (by decide)), decide_eq_false (by rw [List.take_succ_cons, List.take_zero]; decide)]; rfl
    rcases hk with rfl | rfl
    · rw [hw]; rfl
    · rw [hw] at ho
      rw [ho.resolve_left Bool.false_ne_true]
      rcases hd with h | ⟨_, h, _⟩ | ⟨y, h, hy⟩
      · cases h
      · cases h
      · unfold valB; rw [if_neg nw, h]; exact hy.symm
end My
namespace My
open PySem L2
theorem spL_weight (l : List Nat) : ((spL l).map List.length).sum + (spL l).length ≤ l.length + 1 := by
  have h := PyProof.Rows.split_weight (ofL l) "=" (by decide)
  rw [split_eq, ofL_list, List.map_map, List.length_map] at h
  have e : (Str.length ∘ ofL) = List.length := by
    funext p
    show (ofL p).cps.size = _
    rw [size_list, ofL_list]
  rw [show (fun x : Str => x.length) ∘ ofL = List.length from e] at h
  have : (ofL l).length = l.length := by show (ofL l).cps.size = _; rw [size_list, ofL_list]
  rw [this] at h
  exact h
theorem fj_list (ps : List (List Nat)) : (Txt.join "" (ps.map fun l => Txt.slice (ofL l) (some 1) none)).cps.toList = ps.flatMap (List.drop 1) := by
  rw [join0]
  induction ps with
  | nil => rfl
  | cons a ps ih =>
    rw [List.map_cons, List.flatMap_cons, List.flatMap_cons, ih]
    congr 1
    exact slice_from (ofL a) 1
theorem fj_flat (ps : List (List Nat)) : (ps.flatMap (List.drop 1)).length ≤ (ps.map List.length).sum := by
  induction ps with
  | nil => exact Nat.le_refl _
  | cons a ps ih =>
    rw [List.flatMap_cons, List.length_append, List.map_cons, List.sum_cons, List.length_drop]
    omega
theorem fj_sum (ps : List (List Nat)) : ((ps.map fun l => Txt.slice (ofL l) (some 1) none).map (·.length)).sum ≤ (ps.map List.length).sum := by
  induction ps with
  | nil => exact Nat.le_refl _
  | cons a ps ih =>
    rw [List.map_cons, List.map_cons, List.sum_cons, List.map_cons, List.sum_cons]
    have : (Txt.slice (ofL a) (some 1) none).length ≤ a.length := by
      show (Txt.slice (ofL a) (some 1) none).cps.size ≤ _
      rw [size_list, show (Txt.slice (ofL a) (some 1) none).cps.toList = (ofL a).cps.toList.drop 1 from slice_from (ofL a) 1, ofL_list, List.length_drop]; omega
    omega
section
variable {P : Program} {w : World} {K : PySem.W.Frag} {mg : Str → Option Value} {base : Heap} {t : Adr}
theorem ok_are_figures (T : Txt K mg t) : FnD P w K mg base 1 t.f_l_are_figures t.d_l_are_figures ["_law_text", "_law_most"] (fun ds S R _ => ∃ (z : Str) (m : Nat), ds = [.str z, .int (m : Nat)] ∧ z.cps.size ≤ 90000 ∧ R (.bl (figL z.cps.toList m)) S) := by
  refine T.F_l_are_figures.ok sc_l_are_figures (fun ds S R Z ⟨_, _, e, _⟩ => by rw [e]; rfl) (fun cdv A outer s H E ds S R Z hr ⟨z, m, e, hz, q⟩ => ?_)
  subst e
  refine ⟨_, (sc (si (twd (twor (tnot (tcc o_le o_le hr.units di (cb c_len T.n_len bt_len (ac (dv 0) an)) (dv 1))) (tw1 (tnot (tv (cb c_all T.n_all bt_all (ac (eco (N := ["_law_sign"]) (src := [none]) (csc (defScope s_l_are_figures) ["_law_text", "_law_most"] rfl rfl (by decide +kernel)) (istr (dv 0)) (cg1 (show (["_law_sign"] : List Str).Nodup by decide +kernel)) (gx_name rfl) gd_name (fun _ _ _ _ _ => if0) (fun _ _ _ _ _ => (cc o_le o_le hr.units ds (dv 0) ds))) an))))))) (s1 (sr db)) s0) (s1 (sr (eor (cm o_eq hr.units (dv 0) ds) (ev1 (cm o_ne hr.units (ix hr.units (dv 0) di) ds)))))), ?_⟩
  rw [figL_eq] at q
  refine ⟨_, rfl, _, rfl, sm (by show z.cps.size ≤ _; omega), _, rfl, ?_⟩
  have e1 : decide ((1 : Int) ≤ ((z.length : Nat) : Int)) = decide (1 ≤ z.cps.toList.length) := by rw [decide_eq_decide, ← size_list]; show (1 : Int) ≤ ((z.cps.size : Nat) : Int) ↔ _; omega
  have e2 : decide (((z.length : Nat) : Int) ≤ ((m : Nat) : Int)) = decide (z.cps.toList.length ≤ m) := by rw [decide_eq_decide, ← size_list]; show ((z.cps.size : Nat) : Int) ≤ _ ↔ _; omega
  refine ifb (fun h2 => ?_) (fun h2 => ?_)
  · have h2' := e1.symm.trans h2
    refine ⟨_, rfl, _, rfl, ?_⟩
    refine ifb (fun h3 => ?_) (fun h3 => ?_)
    · have hd : digL z.cps.toList m = false := by unfold digL; rw [h2', e2.symm.trans (nt h3)]; rfl
      rw [hd, Bool.false_and] at q
      exact fo q
    · have h3' := e2.symm.trans (nf h3)
      refine ⟨_, rfl, z, rfl, ?_⟩
      refine comp_map (I := ⟨signsD z, fun _ => True⟩) (signF isFig) trivial (by show (signsD z).length ≤ _; unfold signsD; rw [List.length_map, Array.length_toList]; omega) (fun d hd Q hQ => ?_) fun p hp => ?_
      · obtain ⟨c, hc, rfl⟩ := signs_mem hd
        have hQ : Q (.bl (isFig c)) S := by simpa [signF] using hQ
        refine ⟨_, rfl, _, rfl, ?_⟩
        have e3 : sLe "0" ⟨#[c]⟩ = decide (48 ≤ c) := sLe_one 48 c
        have e4 : sLe ⟨#[c]⟩ "9" = decide (c ≤ 57) := sLe_one c 57
        unfold isFig at hQ
        refine ifb (fun h => ?_) (fun h => ?_)
        · rw [e3.symm.trans h, Bool.true_and, ← e4] at hQ
          exact hQ
        · rw [e3.symm.trans h, Bool.false_and] at hQ
          exact hQ
      refine ⟨.ref p, z.cps.toList.map isFig, rfl, (show (S.set p (.lst ((signsD z).map (signF isFig)))) p = _ by rw [sset_same, signs_map]), _, rfl, ?_⟩
      have ed : digL z.cps.toList m = (z.cps.toList.map isFig).all id := by
        unfold digL
        rw [h2', h3', Bool.true_and, Bool.true_and, all_map]; rfl
      rw [← ed]
      cases hd : digL z.cps.toList m with
      | false =>
        rw [hd, Bool.false_and] at q
        exact iteT ⟨S, .new hp, q⟩
      | true =>
        rw [hd, Bool.true_and] at q
        obtain ⟨c, r, ec⟩ := len_pos (z := z) (by rw [size_list]; exact (digL_ok hd).1)
        refine iteF ⟨_, rfl, _, rfl, ?_⟩
        have ez : decide (z = "0") = decide (z.cps.toList = [48]) := str_iff (by decide +kernel)
        refine ifb (fun h => ?_) (fun h => ?_)
        · rw [ez.symm.trans h, Bool.true_or] at q
          exact ⟨S, .new hp, q⟩
        · rw [ez.symm.trans h, Bool.false_or, ec] at q
          refine ⟨_, rfl, c, sm (by show z.cps.size ≤ _; omega), at0 ec, S, .new hp, ?_⟩
          show R (.bl (!decide ((⟨#[c]⟩ : Str) = "0"))) S
          rw [show decide ((⟨#[c]⟩ : Str) = "0") = decide ((c :: r).head? = some 48) by
            rw [str_iff (l := [48]) (by decide +kernel), decide_eq_decide, List.head?_cons]
            show [c] = [48] ↔ _
            simp]
          exact q
  · have hd : digL z.cps.toList m = false := by unfold digL; rw [e1.symm.trans h2]; rfl
    rw [hd, Bool.false_and] at q
    refine ⟨_, rfl, ?_⟩
    exact iteT (fo q)
theorem ok_fits (T : Txt K mg t) : FnD P w K mg base 2 t.f_l_fits t.d_l_fits ["_law_kind", "_law_text"] (fun ds S R _ => ∃ k z, ds = [.str k, .str z] ∧ z.cps.size ≤ 90000 ∧ R (.bl (fitB k z.cps.toList)) S) := by
  have G_l_are_figures : FnD P w K mg base 1 t.f_l_are_figures t.d_l_are_figures ["_law_text", "_law_most"] _ := ok_are_figures T
  refine T.F_l_fits.ok sc_l_fits (fun ds S R Z ⟨_, _, e, _⟩ => by rw [e]; rfl) (fun cdv A outer s H E ds S R Z hr ⟨k, z, e, hz, q⟩ => ?_)
  subst e
  have hsl : z.length ≤ sizeLine := sm (by show z.cps.size ≤ _; omega)
  have hs2 : (Txt.slice z (some 2) none).cps.toList = z.cps.toList.drop 2 := slice_from z 2
  have hs1 : (Txt.slice z (some 1) none).cps.toList = z.cps.toList.drop 1 := slice_from z 1
  have ht2 : (Txt.slice z none (some 2)).cps.toList = z.cps.toList.take 2 := slice_to z 2
  have ht1 : (Txt.slice z none (some 1)).cps.toList = z.cps.toList.take 1 := slice_to z 1
  have hsz : ∀ n, (z.cps.toList.drop n).length ≤ 90000 := fun n => by rw [List.length_drop, ← size_list]; omega
  refine ⟨_, (sc (si (tcm o_eq hr.units (dv 1) ds) (s1 (sr db)) s0) (sc (si (tcm o_eq hr.units (dv 0) ds) (sc (si (tcm o_eq hr.units (sl (dv 1) o0 (o1 di)) ds) (s1 (sr (eand (cm o_ne hr.units (dv 1) ds) (ev1 (cf (G_l_are_figures.mono (by decide)) hr T.mg_l_are_figures T.k_l_are_figures T.b_l_are_figures d0 (ac (sl (dv 1) (o1 di) o0) (ac di an))))))) s0) (s1 (sr (eand (cm o_eq hr.units (sl (dv 1) o0 (o1 di)) ds) (ev1 (cf (G_l_are_figures.mono (by decide)) hr T.mg_l_are_figures T.k_l_are_figures T.b_l_are_figures d0 (ac (sl (dv 1) (o1 di) o0) (ac di an)))))))) s0) (sc (si (tcm o_ne hr.units (sl (dv 1) o0 (o1 di)) ds) (s1 (sr db)) s0) (sc (st_ (i := 2) sc_l_fits.nd (bm PySem.F.plainAttrs_str PySem.F.slot_str_split PySem.F.type_str_split m_split (sl (dv 1) (o1 di) o0) (ac ds an))) (sc (si (twd (twor (tnot (tv (cb c_all T.n_all bt_all (ac (eco (N := ["_law_part"]) (src := [none]) (csc (defScope s_l_fits) ["_law_kind", "_law_text", "_law_parts", "_law_bare"] rfl rfl (by decide +kernel)) (il (sl (dv 2) (o1 di) o0)) (cg1 (show (["_law_part"] : List Str).Nodup by decide +kernel)) (gx_name rfl) gd_name (fun _ _ _ _ _ => if0) (fun _ _ _ _ _ => (cm o_in hr.units (sl (dv 0) o0 (o1 di)) (etup (ac ds (ac ds an)))))) an)))) (tw1 (tcm o_in hr.units ds (sl (dv 2) (o1 di) o0))))) (s1 (sr db)) s0) (sc (st_ (i := 3) sc_l_fits.nd (bo o_add hr.units (ix hr.units (dv 2) di) (bm PySem.F.plainAttrs_str PySem.F.slot_str_join PySem.F.type_str_join m_join ds (ac (eco (N := ["_law_part"]) (src := [none]) (csc (defScope s_l_fits) ["_law_kind", "_law_text", "_law_parts", "_law_bare"] rfl rfl (by decide +kernel)) (il (sl (dv 2) (o1 di) o0)) (cg1 (show (["_law_part"] : List Str).Nodup by decide +kernel)) (gx_name rfl) gd_name (fun _ _ _ _ _ => if0) (fun _ _ _ _ _ => (sl (dv 0) (o1 di) o0))) an)))) (s1 (sr (eand (cm o_le hr.units (bo o_sub hr.units (bo o_add hr.units (cb c_len T.n_len bt_len (ac (dv 3) an)) (cb c_len T.n_len bt_len (ac (dv 2) an))) di) di) (ev1 (cb c_all T.n_all bt_all (ac (eco (N := ["_law_sign"]) (src := [none]) (csc (defScope s_l_fits) ["_law_kind", "_law_text", "_law_parts", "_law_bare"] rfl rfl (by decide +kernel)) (istr (dv 3)) (cg1 (show (["_law_sign"] : List Str).Nodup by decide +kernel)) (gx_name rfl) gd_name (fun _ _ _ _ _ => if0) (fun _ _ _ _ _ => (cc o_le o_le hr.units ds (dv 0) ds))) an)))))))))))), ?_⟩
  unfold fitB at q
  refine ⟨_, rfl, _, rfl, ?_⟩
  refine ifb (fun h => ?_) (fun h => ?_)
  · have h : z.cps.toList = [45] := of_decide_eq_true ((dash_iff z).symm.trans h)
    rw [if_pos h] at q
    exact fo q
  have h : ¬ z.cps.toList = [45] := of_decide_eq_false ((dash_iff z).symm.trans h)
  rw [if_neg h] at q
  refine ⟨_, rfl, _, rfl, ?_⟩
  refine ifb (fun hk => ?_) (fun hk => ?_)
  · rw [if_pos (of_decide_eq_true hk)] at q
    refine ⟨_, rfl, _, rfl, hsl, _, rfl, ?_⟩
    have ea : decide (Txt.slice z none (some 2) = "#-") = decide (z.cps.toList.take 2 = [35, 45]) := by rw [← ht2]; exact str_iff (by decide +kernel)
    refine ifb (fun h2 => ?_) (fun h2 => ?_)
    · rw [if_pos (of_decide_eq_true (ea.symm.trans h2))] at q
      refine ⟨_, rfl, _, rfl, ?_⟩
      have eb : decide (z = "#-0") = decide (z.cps.toList = [35, 45, 48]) := str_iff (by decide +kernel)
      refine ifb (fun h3 => ?_) (fun h3 => ?_)
      · have h3 : (!decide (z = "#-0")) = true := h3
        rw [← eb, h3, Bool.true_and, ← hs2] at q
        exact ⟨_, rfl, _, rfl, hsl, _, 60, rfl, by rw [size_list, hs2]; exact hsz 2, fo q⟩
      · have h3 : (!decide (z = "#-0")) = false := h3
        rw [← eb, h3, Bool.false_and] at q
        exact fo q
    · rw [if_neg (of_decide_eq_false (ea.symm.trans h2))] at q
      refine ⟨_, rfl, _, rfl, hsl, _, rfl, ?_⟩
      have eb : decide (Txt.slice z none (some 1) = "#") = decide (z.cps.toList.take 1 = [35]) := by rw [← ht1]; exact str_iff (by decide +kernel)
      refine ifb (fun h3 => ?_) (fun h3 => ?_)
      · rw [eb.symm.trans h3, Bool.true_and, ← hs1] at q
        exact ⟨_, rfl, _, rfl, hsl, _, 60, rfl, by rw [size_list, hs1]; exact hsz 1, fo q⟩
      · rw [eb.symm.trans h3, Bool.false_and] at q
        exact fo q
  rw [if_neg (of_decide_eq_false hk)] at q
  refine ⟨_, rfl, _, rfl, hsl, _, rfl, ?_⟩
  have ea : decide (Txt.slice z none (some 1) = "\"") = decide (z.cps.toList.take 1 = [34]) := by rw [← ht1]; exact str_iff (by decide +kernel)
  refine ifb (fun h2 => ?_) (fun h2 => ?_)
  · have h2 : (!decide (Txt.slice z none (some 1) = "\"")) = true := h2
    rw [ea] at h2
    rw [if_neg (of_decide_eq_false (nt h2))] at q
    exact fo q
  have h2 : (!decide (Txt.slice z none (some 1) = "\"")) = false := h2
  rw [ea] at h2
  rw [if_pos (of_decide_eq_true (nf h2)), ← hs1] at q
  have hu : (Txt.slice z (some 1) none).cps.size ≤ 90000 := by rw [size_list, hs1]; exact hsz 1
  refine ⟨_, rfl, _, rfl, hsl, rfl, _, "=", rfl, rfl, by decide +kernel, sm (by show (Txt.slice z (some 1) none).cps.size + 2 ≤ _; omega), fun p hp => ?_⟩
  generalize Txt.slice z (some 1) none = u at q hu ⊢
  rw [split_eq]
  obtain ⟨p0, ps, es⟩ := spL_some u.cps.toList
  have hwt := spL_weight u.cps.toList
  have hq0 : lawL u.cps.toList = (ps.all hdB && (decide ((p0 ++ ps.flatMap (List.drop 1)).length + ps.length ≤ 40) && (p0 ++ ps.flatMap (List.drop 1)).all fun c => decide (33 ≤ c) && decide (c ≤ 126))) := by
    unfold lawL bareL; rw [es]; rfl
  rw [hq0] at q
  rw [es] at hwt
  rw [List.map_cons, List.sum_cons, List.length_cons, ← size_list] at hwt
  have hlen : p0.length + (ps.map List.length).sum + ps.length ≤ 90000 := by omega
  have eL : cutL (((spL u.cps.toList).map ofL).map D.str) (some 1) none = (ps.map ofL).map D.str := by rw [cut_one, es]; rfl
  have hS : (S.set p (.lst (((spL u.cps.toList).map ofL).map D.str))) p = some (.lst (((spL u.cps.toList).map ofL).map D.str)) := sset_same
  have g0 : Sub S (S.set p (.lst (((spL u.cps.toList).map ofL).map D.str))) := .new hp
  have eat : atI (((spL u.cps.toList).map ofL).map D.str) 0 = some (.str (ofL p0)) := by rw [es]; exact (atI_nat (i := 0) (by rw [List.length_map, List.length_map, List.length_cons]; omega)).trans rfl
  have ell : (((spL u.cps.toList).map ofL).map D.str).length = ps.length + 1 := by rw [List.length_map, List.length_map, es]; rfl
  generalize S.set p (.lst (((spL u.cps.toList).map ofL).map D.str)) = S1 at hS g0 ⊢
  generalize ((spL u.cps.toList).map ofL).map D.str = L at hS eL eat ell
  have hpl : ((ps.map ofL).map D.str).length = ps.length := by rw [List.length_map, List.length_map]
  have hmem : ∀ l ∈ ps, l.length ≤ 90000 := fun l hl => by
    have := sum_mem (List.mem_map.mpr ⟨l, hl, rfl⟩ : l.length ∈ ps.map List.length)
    omega
  have hofs : ∀ l ∈ ps, (ofL l).length ≤ sizeLine := fun l hl => sm (by show (ofL l).cps.size ≤ _; rw [size_list, ofL_list]; have := hmem l hl; omega)
  refine ⟨_, rfl, _, rfl, _, hS, fun p2 hp2 => ⟨_, sset_same, ?_⟩⟩
  rw [eL]
  refine comp_map (fun d => match d with | .str y => .bl (hdB y.cps.toList) | _ => .non) sset_same (by show ((ps.map ofL).map D.str).length ≤ _; omega) (fun d hd Q hQ => ?_) fun p3 hp3 => ?_
  · obtain ⟨y, hy, rfl⟩ := List.mem_map.mp hd
    obtain ⟨l, hl, rfl⟩ := List.mem_map.mp hy
    refine ⟨_, rfl, _, rfl, hofs l hl, sm (show 2 ≤ 100000 by decide), rfl, rfl, ?_⟩
    rw [if_neg Bool.false_ne_true, hd_in]
    exact hQ
  have g2 := g0.trans (Sub.new (c := .lst ((ps.map ofL).map D.str)) hp2)
  have h2 := (Sub.new (c := .lst ((ps.map ofL).map D.str)) hp2) _ _ hS
  rw [show (⟨(ps.map ofL).map D.str, fun S => SqD S (.ref p2) ((ps.map ofL).map D.str)⟩ : ItD).xs = (ps.map ofL).map D.str from rfl, show (((ps.map ofL).map D.str).map fun d => match d with | .str y => D.bl (hdB y.cps.toList) | _ => .non) = (ps.map hdB).map D.bl by rw [List.map_map, List.map_map, List.map_map]; rfl]
  have g3 := g2.trans (Sub.new (c := .lst ((ps.map hdB).map D.bl)) hp3)
  have h3 := (Sub.new (c := .lst ((ps.map hdB).map D.bl)) hp3) _ _ h2
  refine ⟨.ref p3, ps.map hdB, rfl, sset_same, _, rfl, ?_⟩
  generalize (S1.set p2 (.lst ((ps.map ofL).map D.str))).set p3 (.lst ((ps.map hdB).map D.bl)) = S3 at g3 h3 ⊢
  rw [all_map]
  refine ifb (fun ha => ?_) (fun ha => ?_)
  · rw [nt ha, Bool.false_and] at q
    exact ⟨S, g3, q⟩
  have ha := nf ha
  rw [ha, Bool.true_and] at q
  refine ⟨_, rfl, _, rfl, _, h3, fun p4 hp4 => .inl ⟨_, sset_same, rfl, ?_, _, rfl, ?_⟩⟩
  · rw [eL]; exact flat_strs _
  rw [eL]
  have hno : decide (("" : Str) ∈ ps.map ofL) = false := decide_eq_false fun m => by
    obtain ⟨l, hl, e⟩ := List.mem_map.mp m
    have := List.all_eq_true.mp ha l hl
    have e : (ofL l).cps.toList = [] := by rw [e]; rfl
    rw [ofL_list] at e
    rw [e] at this; cases this
  rw [if_neg Bool.false_ne_true, in_strs, hno]
  have g4 := g3.trans (Sub.new (c := .lst ((ps.map ofL).map D.str)) hp4)
  have h4 := (Sub.new (c := .lst ((ps.map ofL).map D.str)) hp4) _ _ h3
  generalize S3.set p4 (.lst ((ps.map ofL).map D.str)) = S4 at g4 h4 ⊢
  refine iteF ⟨_, rfl, _, _, h4, eat, rfl, _, rfl, _, rfl, _, h4, fun p5 hp5 => ⟨_, sset_same, ?_⟩⟩
  rw [eL]
  refine comp_map (fun d => match d with | .str y => .str (Txt.slice y (some 1) none) | _ => .non) sset_same (by show ((ps.map ofL).map D.str).length ≤ _; omega) (fun d hd Q hQ => ?_) fun p6 hp6 => ?_
  · obtain ⟨y, hy, rfl⟩ := List.mem_map.mp hd
    obtain ⟨l, hl, rfl⟩ := List.mem_map.mp hy
    exact ⟨_, rfl, _, rfl, hofs l hl, hQ⟩
  have g5 := g4.trans (Sub.new (c := .lst ((ps.map ofL).map D.str)) hp5)
  have h5 := (Sub.new (c := .lst ((ps.map ofL).map D.str)) hp5) _ _ h4
  rw [show (⟨(ps.map ofL).map D.str, fun S => SqD S (.ref p5) ((ps.map ofL).map D.str)⟩ : ItD).xs = (ps.map ofL).map D.str from rfl, show (((ps.map ofL).map D.str).map fun d => match d with | .str y => D.str (Txt.slice y (some 1) none) | _ => .non) = (ps.map fun l => Txt.slice (ofL l) (some 1) none).map D.str by rw [List.map_map, List.map_map, List.map_map]; rfl]
  have g6 := g5.trans (Sub.new (c := .lst ((ps.map fun l => Txt.slice (ofL l) (some 1) none).map D.str)) hp6)
  have h6 := (Sub.new (c := .lst ((ps.map fun l => Txt.slice (ofL l) (some 1) none).map D.str)) hp6) _ _ h5
  have hj := fj_list ps
  have hfl := fj_flat ps
  have hjs : (Txt.join "" (ps.map fun l => Txt.slice (ofL l) (some 1) none)).cps.size ≤ (ps.map List.length).sum := by rw [size_list, hj]; exact hfl
  have hjok : JoinOk "" (ps.map fun l => Txt.slice (ofL l) (some 1) none) = true := by
    refine PyProof.Rows.joinOk_of ?_
    have h0 : ("" : Str).length = 0 := rfl
    have hsum := fj_sum ps
    rw [h0, Nat.mul_zero]
    omega
  have hp0 : (ofL p0).cps.size = p0.length := by rw [size_list, ofL_list]
  refine ⟨"", ps.map fun l => Txt.slice (ofL l) (some 1) none, _, rfl, rfl, sset_same, hjok, sm (by show (ofL p0).cps.size + (Txt.join "" _).cps.size ≤ _; omega), ?_⟩
  generalize (S4.set p5 (.lst ((ps.map ofL).map D.str))).set p6 (.lst ((ps.map fun l => Txt.slice (ofL l) (some 1) none).map D.str)) = S6 at g6 h6 ⊢
  have hb : (ofL p0 ++ Txt.join "" (ps.map fun l => Txt.slice (ofL l) (some 1) none)).cps.toList = p0 ++ ps.flatMap (List.drop 1) := by rw [sapp, hj, ofL_list]
  generalize ofL p0 ++ Txt.join "" (ps.map fun l => Txt.slice (ofL l) (some 1) none) = bare at hb ⊢
  rw [← hb] at q
  have hbs : bare.cps.size ≤ 90000 := by rw [size_list, hb, List.length_append]; omega
  refine ⟨_, rfl, _, rfl, sm (by show bare.cps.size ≤ _; omega), _, rfl, _, rfl, .inl ⟨_, h6, ?_⟩⟩
  rw [ell]
  refine ⟨_, rfl, ?_⟩
  have ec : decide ((((bare.length : Nat) : Int) + ((ps.length + 1 : Nat) : Int)) - 1 ≤ 40) = decide (bare.cps.toList.length + ps.length ≤ 40) := by
    rw [decide_eq_decide, ← size_list]
    show (((bare.cps.size : Nat) : Int) + ((ps.length + 1 : Nat) : Int)) - 1 ≤ 40 ↔ _
    omega
  refine ifb (fun h7 => ?_) (fun h7 => ?_)
  · rw [ec.symm.trans h7, Bool.true_and] at q
    refine ⟨_, rfl, bare, rfl, ?_⟩
    refine comp_map (I := ⟨signsD bare, fun _ => True⟩) (signF fun c => decide (33 ≤ c) && decide (c ≤ 126)) trivial (by show (signsD bare).length ≤ _; unfold signsD; rw [List.length_map, Array.length_toList]; omega) (fun d hd Q hQ => ?_) fun p7 hp7 => ?_
    · obtain ⟨c, hc, rfl⟩ := signs_mem hd
      have hQ : Q (.bl (decide (33 ≤ c) && decide (c ≤ 126))) S6 := by simpa [signF] using hQ
      refine ⟨_, rfl, _, rfl, ?_⟩
      have e3 : sLe "!" ⟨#[c]⟩ = decide (33 ≤ c) := sLe_one 33 c
      have e4 : sLe ⟨#[c]⟩ "~" = decide (c ≤ 126) := sLe_one c 126
      refine ifb (fun h => ?_) (fun h => ?_)
      · rw [e3.symm.trans h, Bool.true_and, ← e4] at hQ
        exact hQ
      · rw [e3.symm.trans h, Bool.false_and] at hQ
        exact hQ
    refine ⟨.ref p7, bare.cps.toList.map fun c => decide (33 ≤ c) && decide (c ≤ 126), rfl, (show (S6.set p7 (.lst ((signsD bare).map (signF fun c => decide (33 ≤ c) && decide (c ≤ 126))))) p7 = _ by rw [sset_same, signs_map]), S, g6.trans (.new hp7), ?_⟩
    rw [all_map]
    exact q
  · rw [ec.symm.trans h7, Bool.false_and] at q
    exact ⟨S, g6, q⟩
theorem ok_told (T : Txt K mg t) : FnD P w K mg base 1 t.f_l_told t.d_l_told ["_law_text"] (fun ds S R _ => ∃ z d, ds = [.str z] ∧ z.cps.size ≤ 90000 ∧ Told z d ∧ R d S) := by
  refine T.F_l_told.ok sc_l_told (fun ds S R Z ⟨_, _, e, _⟩ => by rw [e]; rfl) (fun cdv A outer s H E ds S R Z hr ⟨z, d, e, hz, ht, q⟩ => ?_)
  subst e
  refine ⟨_, (sc (si (tcm o_eq hr.units (dv 0) ds) (s1 (sr dn)) s0) (sc (si (tcm o_eq hr.units (ix hr.units (dv 0) di) ds) (s1 (sr (ct c_intS T.n_int bt_int (ac (sl (dv 0) (o1 di) o0) an)))) s0) (s1 (sr (gd (gr (gr (gs (dv 0))))))))), ?_⟩
  have hsl : z.length ≤ sizeLine := sm (by show z.cps.size ≤ _; omega)
  rcases ht with ⟨rfl, rfl⟩ | ⟨h1, n, hn, hr2, hs6, rfl⟩ | ⟨h1, rfl⟩
  · exact ⟨_, rfl, _, rfl, ifb (fun _ => fo q) (fun h => by
      have h : decide (("-" : Str) = "-") = false := h
      exact absurd rfl (of_decide_eq_false h))⟩
  · refine ⟨_, rfl, _, rfl, ifb (fun h => ?_) (fun _ => ?_)⟩
    · have h : z = "-" := of_decide_eq_true h
      rw [h, dash1] at h1; cases h1
    refine ⟨_, rfl, 35, hsl, at0 (head_drop h1), _, rfl, ?_⟩
    refine ifb (fun _ => ?_) (fun h => ?_)
    · exact ⟨_, rfl, _, rfl, hsl, _, n, rfl, hr2, Nat.le_trans hs6 (by decide), fo q⟩
    · have h : decide ((⟨#[35]⟩ : Str) = "#") = false := h
      rw [hash1, decide_eq_true rfl] at h; cases h
  · refine ⟨_, rfl, _, rfl, ifb (fun h => ?_) (fun _ => ?_)⟩
    · have h : z = "-" := of_decide_eq_true h
      rw [h, dash1] at h1; cases h1
    have hs1 : (Txt.slice z (some 1) none).cps.size ≤ 90000 := by rw [size_list, sl1 (drop_size h1), List.length_drop, ← size_list]; omega
    have hs2 : (Txt.replace (Txt.slice z (some 1) none) "=b" " ").cps.size ≤ 180000 := by
      rw [show ("=b" : Str) = ⟨#[61, 98]⟩ by decide +kernel]
      exact Nat.le_trans (rep_two (by decide +kernel)) (by omega)
    refine ⟨_, rfl, 34, hsl, at0 (head_drop h1), _, rfl, ?_⟩
    refine ifb (fun h => ?_) (fun _ => ?_)
    · have h : (⟨#[34]⟩ : Str) = "#" := of_decide_eq_true h
      rw [hash1] at h; exact absurd h (by decide)
    refine ⟨_, rfl, hsl, _, rfl, ?_, _, rfl, ?_, fo q⟩
    · show (Txt.slice z (some 1) none).cps.size + ((Txt.slice z (some 1) none).cps.size + 1) * 1 ≤ _; omega
    · show (Txt.replace (Txt.slice z (some 1) none) "=b" " ").cps.size + ((Txt.replace (Txt.slice z (some 1) none) "=b" " ").cps.size + 1) * 1 ≤ _
      omega
theorem ok_l_is_value_text (T : Txt K mg t) : FnD P w K mg base 3 t.f_l_is_value_text t.d_l_is_value_text ["_law_text"] (fun ds S R _ => ∃ z, ds = [.str z] ∧ z.cps.size ≤ 90000 ∧ R (.bl (valT z.cps.toList)) S) := by
  have G_l_fits : FnD P w K mg base 2 t.f_l_fits t.d_l_fits ["_law_kind", "_law_text"] _ := ok_fits T
  refine T.F_l_is_value_text.ok sc_l_is_value_text (fun ds S R Z ⟨_, e, _⟩ => by rw [e]; rfl) (fun cdv A outer s H E ds S R Z hr ⟨z, e, hz, q⟩ => ?_)
  subst e
  rw [← fits_or] at q
  refine ⟨_, (s1 (sr (eor (cf (G_l_fits.mono (by decide)) hr T.mg_l_fits T.k_l_fits T.b_l_fits d0 (ac ds (ac (dv 0) an))) (ev1 (cf (G_l_fits.mono (by decide)) hr T.mg_l_fits T.k_l_fits T.b_l_fits d0 (ac ds (ac (dv 0) an))))))), ?_⟩
  refine ⟨_, rfl, "number", z, rfl, hz, _, rfl, ?_⟩
  refine ifb (fun h => ?_) (fun h => ?_)
  · rw [h, Bool.true_or] at q
    exact fo q
  · rw [h, Bool.false_or] at q
    exact ⟨_, rfl, "word", z, rfl, hz, fo q⟩
end
end My
namespace My
open PySem L2
theorem zip_pairs {cs : List (Str × Str)} {ws : List D} {f : D → D} (h : ∀ c v, f (.tup [colD c, v]) = .bl (valB c.2 v)) : (pairsD (cs.map colD) ws).map f = (List.zipWith (fun c v => valB c.2 v) cs ws).map D.bl := by
  unfold pairsD
  induction cs generalizing ws with
  | nil => cases ws <;> rfl
  | cons c cs ih =>
    cases ws with
    | nil => rfl
    | cons v ws =>
      show f (.tup [colD c, v]) :: (List.zipWith _ (cs.map colD) ws).map f = .bl (valB c.2 v) :: _
      rw [h, ih]
def pairF : D → D
  | .tup [.tup [_, .str k], v] => .bl (valB k v)
  | _ => .non
def Rd (S : Sto) (d : D) : Prop := (∃ k, kdV S d k) ∧ ∀ z, d = .str z → z.cps.size ≤ 90000 ∧ PyData.strOk z = true
section
variable {P : Program} {w : World} {K : PySem.W.Frag} {mg : Str → Option Value} {base : Heap} {t : Adr}
theorem ok_are_worths (T : Txt K mg t) : FnD P w K mg base 4 t.f_are_worths t.d_are_worths ["columns", "thing"] (fun ds S R _ => ∃ cs d, ds = [.tup (cs.map colD), d] ∧ cs.length ≤ 8 ∧ Gts S d ∧ R (.bl (worthsB cs d)) S) := by
  have G_is_value : FnD P w K mg base 3 t.f_is_value t.d_is_value ["kind", "thing"] _ := ok_is_value T
  refine T.F_are_worths.ok sc_are_worths (fun ds S R Z ⟨d, d', e, _⟩ => by rw [e]; rfl) (fun cdv A outer s H E ds S R Z hr ⟨cs, d, e, hl, ⟨⟨⟨k, hk⟩, hz⟩, hw⟩, q⟩ => ?_)
  subst e
  refine ⟨_, (sc (si (twd (twor (tnot (tv (cb c_isi T.n_isinstance bt_isinstance (ac (dv 1) (ac (dty T.n_tuple bt_tuple) an))))) (tw1 (tcm o_ne hr.units (cb c_len T.n_len bt_len (ac (dv 1) an)) (cb c_len T.n_len bt_len (ac (dv 0) an)))))) (s1 (sr db)) s0) (s1 (sr (cb c_all T.n_all bt_all (ac (eco (N := ["column", "value"]) (src := [none, none]) (csc (defScope s_are_worths) ["columns", "thing"] rfl rfl (by decide +kernel)) (izp T.n_zip (ac (dv 0) (ac (dv 1) an))) (cg2 (show (["column", "value"] : List Str).Nodup by decide +kernel)) (gx_tup2 rfl rfl) gd_tup2 (fun _ _ _ _ _ => if0) (fun _ _ _ _ _ => (cf (G_is_value.mono (by decide)) hr T.mg_is_value T.k_is_value T.b_is_value d0 (ac (ix hr.units (dv 0) di) (ac (dv 1) an))))) an))))), ?_⟩
  refine ⟨_, rfl, _, _, _, _, rfl, isa_tuple, hk, _, rfl, ?_⟩
  rcases kd_tup hk with ⟨ws, rfl, h0⟩ | ⟨h0, h1⟩
  · obtain ⟨hw1, hw2⟩ := hw ws rfl
    rw [h0]
    refine iteF ⟨_, rfl, _, rfl, _, rfl, _, rfl, _, rfl, ?_⟩
    have e1 : decide (((ws.length : Nat) : Int) = (((cs.map colD).length : Nat) : Int)) = decide (ws.length = cs.length) := by rw [decide_eq_decide, List.length_map]; omega
    unfold worthsB at q
    dsimp only at q
    show if (if true = true then !decide (((ws.length : Nat) : Int) = (((cs.map colD).length : Nat) : Int)) else _) = true then _ else _
    rw [if_pos rfl, e1]
    refine ifb (fun h => ?_) (fun h => ?_)
    · rw [nt h, Bool.false_and] at q
      exact fo q
    · have h := nf h
      rw [h, Bool.true_and] at q
      have h := of_decide_eq_true h
      refine ⟨_, rfl, _, rfl, cs.map colD, ws, rfl, by rw [List.length_map]; exact h.symm, ?_⟩
      refine comp_map pairF trivial (by show (pairsD (cs.map colD) ws).length ≤ 100000; unfold pairsD; rw [List.length_zipWith, List.length_map]; omega) (fun d hd Q hQ => ?_) fun p hp => ?_
      · unfold pairsD at hd
        obtain ⟨i, ei⟩ := List.getElem?_of_mem hd
        obtain ⟨x, y, e2, e3, e4⟩ := List.getElem?_zipWith_eq_some.mp ei
        subst e4
        rw [List.getElem?_map] at e2
        cases e5 : cs[i]? with
        | none => rw [e5] at e2; cases e2
        | some c =>
          rw [e5] at e2; cases e2
          exact ⟨_, rfl, rfl, _, _, rfl, _, _, rfl, rfl, _, rfl, _, rfl, _, rfl, c.2, y, rfl, hw2 y (List.mem_of_getElem? e3), hQ⟩
      · refine ⟨.ref p, List.zipWith (fun c v => valB c.2 v) cs ws, rfl, ?_, S, .new hp, q⟩
        show (S.set p (.lst ((pairsD (cs.map colD) ws).map pairF))) p = _
        rw [sset_same, zip_pairs fun _ _ => rfl]
  · rw [h0]
    have e : worthsB cs d = false := by
      cases d with
      | tup ws => exact absurd rfl (h1 ws)
      | _ => rfl
    rw [e] at q
    exact iteT (iteT (fo q))
theorem ok_check_row (T : Txt K mg t) : FnD P w K mg base 5 t.f_check_row t.d_check_row ["columns", "row"] (fun ds S R Z => ∃ cs k v, ds = [.tup (cs.map colD), .tup [k, v]] ∧ cs.length ≤ 8 ∧ Gt S k ∧ Gts S v ∧ (rowB cs k v = true → R .non S) ∧ (rowB cs k v = false → Z t.c_BadRow S)) := by
  have G_is_key : FnD P w K mg base 2 t.f_is_key t.d_is_key ["thing"] (spOf (ofStr keyZ)) := ok_is_key T
  have G_are_worths : FnD P w K mg base 4 t.f_are_worths t.d_are_worths ["columns", "thing"] _ := ok_are_worths T
  refine T.F_check_row.ok sc_check_row (fun ds S R Z ⟨d, d', d'', e, _⟩ => by rw [e]; rfl) (fun cdv A outer s H E ds S R Z hr ⟨cs, k, v, e, hl, hk, hv, q1, q2⟩ => ?_)
  subst e
  refine ⟨_, (sc (si (twd (twor (tnot (tv (cb c_isi T.n_isinstance bt_isinstance (ac (dv 1) (ac (dty T.n_tuple bt_tuple) an))))) (tw1 (tcm o_ne hr.units (cb c_len T.n_len bt_len (ac (dv 1) an)) di)))) (s1 (sra ⟨T.x_BadRow⟩ T.mg_BadRow (ac ds an))) s0) (sc (si (tnot (tv (cf (G_is_key.mono (by decide)) hr T.mg_is_key T.k_is_key T.b_is_key d0 (ac (ix hr.units (dv 1) di) an)))) (s1 (sra ⟨T.x_BadRow⟩ T.mg_BadRow (ac ds an))) s0) (s1 (si (tnot (tv (cf (G_are_worths.mono (by decide)) hr T.mg_are_worths T.k_are_worths T.b_are_worths d0 (ac (dv 0) (ac (ix hr.units (dv 1) di) an))))) (s1 (sra ⟨T.x_BadRow⟩ T.mg_BadRow (ac ds an))) s0)))), ?_⟩
  refine ⟨_, rfl, _, _, _, _, rfl, isa_tuple, rfl, _, rfl, ?_⟩
  refine iteF ⟨_, rfl, _, rfl, _, rfl, iteF ?_⟩
  refine ⟨_, rfl, _, rfl, k, rfl, hk, _, rfl, ?_⟩
  unfold rowB at q1 q2
  refine ifb (fun h => ?_) (fun h => ?_)
  · rw [nt h, Bool.false_and] at q2
    exact ⟨sm (show 1 ≤ 100000 by decide), fo (q2 rfl)⟩
  · rw [nf h, Bool.true_and] at q1 q2
    refine ⟨_, rfl, _, rfl, _, rfl, cs, v, rfl, hl, hv, _, rfl, ?_⟩
    refine ifb (fun h => ?_) (fun h => ?_)
    · exact ⟨sm (show 1 ≤ 100000 by decide), fo (q2 (nt h))⟩
    · exact fo (q1 (nf h))
theorem ok_words_of (T : Txt K mg t) : FnD P w K mg base 1 t.f_words_of t.d_words_of ["text"] (fun ds S R Z => ∃ d, ds = [d] ∧ Rd S d ∧ (∀ z, d = .str z → ∀ p, S p = none → R (.ref p) (S.set p (.lst ((spl z).map D.str)))) ∧ ((∀ z, d ≠ .str z) → Z t.c_NoText S)) := by
  refine T.F_words_of.ok sc_words_of (fun ds S R Z ⟨d, e, _⟩ => by rw [e]; rfl) (fun cdv A outer s H E ds S R Z hr ⟨d, e, ⟨⟨k, hk⟩, hz⟩, q1, q2⟩ => ?_)
  subst e
  refine ⟨_, (sc (si (tnot (tv (cb c_isi T.n_isinstance bt_isinstance (ac (dv 0) (ac (dty T.n_str bt_str) an))))) (s1 (sra ⟨T.x_NoText⟩ T.mg_NoText (ac ds an))) s0) (s1 (sr (bm PySem.F.plainAttrs_str PySem.F.slot_str_split PySem.F.type_str_split m_split (dv 0) (ac ds an))))), ?_⟩
  refine ⟨_, rfl, _, _, _, _, rfl, isa_str, hk, _, rfl, ?_⟩
  rcases kd_str hk with ⟨z, rfl, h0⟩ | ⟨h0, h1⟩
  · rw [h0]
    refine iteF ⟨_, rfl, rfl, z, " ", rfl, rfl, rfl, ?_, fun p hp => fo (q1 z rfl p hp)⟩
    have := (hz z rfl).1
    rw [sizeLine_eq]
    show z.cps.size + 2 ≤ _
    omega
  · rw [h0]
    refine iteT ⟨sm (show 1 ≤ 100000 by decide), fo (q2 fun z e => ?_)⟩
    have := h1 fun _ => true
    rw [e] at this
    cases this
theorem ok_check_names (T : Txt K mg t) : FnD P w K mg base 1 t.f_check_names t.d_check_names ["words"] (fun ds S R Z => ∃ a ws, ds = [.ref a] ∧ S a = some (.lst (ws.map D.str)) ∧ (brk ws = false → R .non S) ∧ (brk ws = true → Z t.c_NoText S)) := by
  refine T.F_check_names.ok sc_check_names (fun ds S R Z ⟨_, _, e, _⟩ => by rw [e]; rfl) (fun cdv A outer s H E ds S R Z hr ⟨a, ws, e, hS, q1, q2⟩ => ?_)
  subst e
  have e1 := in_strs "(" ws
  have e2 := in_strs ")" ws
  refine ⟨_, (s1 (si (twd (twor (tcm o_in hr.units ds (dv 0)) (tw1 (tcm o_in hr.units ds (dv 0))))) (s1 (sra ⟨T.x_NoText⟩ T.mg_NoText (ac ds an))) s0)), ?_⟩
  refine ⟨_, rfl, .inl ⟨_, hS, rfl, flat_strs ws, _, rfl, ?_⟩⟩
  refine ifb (fun h => ?_) (fun h => ?_)
  · have h : decide (("(" : Str) ∈ ws) = true := e1.symm.trans h
    exact ⟨sm (show 1 ≤ 100000 by decide), fo (q2 (by unfold brk; rw [h]; rfl))⟩
  · have h : decide (("(" : Str) ∈ ws) = false := e1.symm.trans h
    refine ⟨_, rfl, .inl ⟨_, hS, rfl, flat_strs ws, _, rfl, ?_⟩⟩
    refine ifb (fun h2 => ?_) (fun h2 => ?_)
    · have h2 : decide ((")" : Str) ∈ ws) = true := e2.symm.trans h2
      exact ⟨sm (show 1 ≤ 100000 by decide), fo (q2 (by unfold brk; rw [h, h2]; rfl))⟩
    · have h2 : decide ((")" : Str) ∈ ws) = false := e2.symm.trans h2
      exact fo (q1 (by unfold brk; rw [h, h2]; rfl))
end
end My
namespace My
open PySem L2
theorem newWell {P : Program} {w : World} {K : PySem.W.Frag} {mg : Str → Option Value} {base : Heap} {k : Nat} {f : Addr} {fd : FuncData} {ps : List Str} {pre : List D → Prop}
    (F : FnD P w K mg base k f fd ps (fun ds S R _ => pre ds ∧ ∀ l x y z, S l = none → R (.ref l) (S.set l (.lst [.int x, .int y, .int z])))) : FnD P w K mg base k f fd ps (fun ds S R _ => pre ds ∧ ∀ l, S l = none → R (.ref l) (S.set l .well)) := by
  refine F.imp fun vs H Q E ⟨ds, S, R, Z, v, hS, ⟨hp, h⟩, hR, hZ⟩ => ⟨ds, S, fun d S2 => ∃ l x y z, S l = none ∧ d = .ref l ∧ S2 = S.set l (.lst [.int x, .int y, .int z]), fun _ _ => False, v, hS, ⟨hp, fun l x y z hl => ⟨l, x, y, z, hl, rfl, rfl⟩⟩, fun d S2 u H' ⟨l, x, y, z, hl, e1, e2⟩ rv hs kp => ?_, fun _ _ _ q => q.elim⟩
  subst e1 e2
  refine hR _ _ u H' (h l hl) rv ?_ kp
  refine well_shut (x := x) (y := y) (z := z) sset_same ?_
  rw [sset_sset]; exact hs
def preD (ds : List D) (l : Addr) : Prop := ∃ m : Int, ds = [.ref l, .int m] ∧ 0 < m ∧ m.natAbs.log2 < 9000
def postD (ds : List D) (d : D) : Prop := ∃ (l : Addr) (m n : Int), ds = [.ref l, .int m] ∧ d = .int n ∧ 0 ≤ n ∧ n < m
def spDraw : SpD := fun ds S R _ => ∃ (l : Addr) (m : Int), ds = [.ref l, .int m] ∧ 0 < m ∧ m.natAbs.log2 < 9000 ∧ S l = some .well ∧ ∀ n : Int, 0 ≤ n → n < m → R (.int n) S
theorem wl {S : Sto} {l p : Addr} {c : Ce} (hw : S l = some .well) (hp : S p = none) : (S.set p c) l = some .well := (sset_ne (sne hw hp)).trans hw
theorem pick_go {L : List D} {S : Sto} {p : Addr} {n : Int} {R : KD} (h0 : 0 ≤ n) (h1 : n < (L.length : Int)) (hp : S p = none) (q : ∀ d, d ∈ L → R d S) : ∃ ds d, (S.set p (.lst L)) p = some (.lst ds) ∧ atI ds n = some d ∧ Fo (S.set p (.lst L)) (R d) := by
  obtain ⟨v, e1, e2⟩ := atI_mod (l := L) h0 h1
  exact ⟨L, v, sset_same, e1, S, .new hp, q v (List.mem_of_getElem? e2)⟩
theorem log_le {m : Int} (h0 : 0 < m) (h1 : m ≤ 8000) : m.natAbs.log2 < 9000 := by
  have h2 : m.natAbs ≤ 8000 := by omega
  have h3 : m.natAbs.log2 ≤ m.natAbs := Nat.log2_le_self _
  omega
theorem perm_erIdx {α : Type} : ∀ {l : List α} {k : Nat} {x : α}, l[k]? = some x → (x :: l.eraseIdx k).Perm l
  | a :: l, 0, x, h => by cases h; exact .refl _
  | a :: l, k + 1, x, h => by
    have ih := perm_erIdx (l := l) (k := k) h
    rw [List.eraseIdx_cons_succ]
    exact (List.Perm.swap a x _).trans (ih.cons a)
theorem seq_nat {k n : Nat} (h : k < n) : seqIndex? ((k : Nat) : Int) n = some k := by
  have e : (if ((k : Nat) : Int) < 0 then ((k : Nat) : Int) + (n : Int) else ((k : Nat) : Int)) = ((k : Nat) : Int) := if_neg (by omega)
  unfold seqIndex?
  dsimp only
  rw [e, if_pos (by simp; omega)]; rfl
abbrev NMS : List Str := ["a", "ab", "b", "abc", "key", "up", "at", "mark", "every", "is", "zzzzzzzz", "price"]
theorem NMS_ok : ∀ z ∈ NMS, nameZ z = true ∧ PyData.strOk z = true ∧ z ≠ "other" := by decide +kernel
theorem NMS_nodup : NMS.Nodup := by decide +kernel
def Cg (cs : List (Str × Str)) : Prop := Gd cs ∧ ∀ c ∈ cs, c.1 ∈ NMS
theorem cols_ly {cs : List (Str × Str)} (h : Cg cs) {S : Sto} : ∀ d ∈ cs.map colD, Ly S 60 d := fun d hd => by
  obtain ⟨c, hc, rfl⟩ := List.mem_map.mp hd
  refine Ly.le (n := 1) (Ly.tup (n := 0) fun d hd => ?_) (by decide)
  simp only [List.mem_cons, List.not_mem_nil, or_false] at hd
  rcases hd with rfl | rfl
  · exact Ly.str (NMS_ok _ (h.2 c hc)).2.1
  · rcases (h.1.2.2 c hc).2 with e | e <;> rw [e] <;> exact Ly.str (by decide +kernel)
section
variable {P : Program} {w : World} {K : PySem.W.Frag} {mg : Str → Option Value} {base : Heap} {t : Adr}
theorem ok_well (T : Txt K mg t) : FnD P w K mg base 1 t.f_l_well t.d_l_well ["_law_script", "_law_k"] (fun ds S R _ => (∃ (ns : List Int) (k : Nat), ds = [.rol (ns.map D.int), .int (k : Nat)] ∧ k ≤ 1000) ∧ ∀ l, S l = none → R (.ref l) (S.set l .well)) := by
  refine newWell ?_
  refine T.F_l_well.ok sc_l_well (fun ds S R Z ⟨⟨_, _, e, _⟩, _⟩ => by rw [e]; rfl) (fun cdv A outer s H E ds S R Z hr ⟨⟨ns, k, e, hk⟩, q⟩ => ?_)
  subst e
  refine ⟨_, (sc (st_ (i := 2) sc_l_well.nd di) (sc (scf (si (tcm o_lt hr.units (dv 1) (cb c_len T.n_len bt_len (ac (dv 0) an))) (s1 (st_ (i := 2) sc_l_well.nd (ix hr.units (dv 0) (dv 1)))) s0)) (s1 (sr (elst (ac (bo o_add hr.units (bo o_mod hr.units (dv 2) di) (bo o_mul hr.units di (dv 1))) (ac (efo (ix hr.units (elst (ac di (ac (dv 2) an))) (ct c_int T.n_int bt_int (ac (cm o_ge hr.units (dv 2) (bo o_pow hr.units di di)) an)))) (ac di an)))))))), ?_⟩
  refine ⟨fun σ' S' => ∃ c : Int, σ' = [some (.rol (ns.map D.int)), some (.int (k : Nat)), some (.int c)] ∧ S' = S, ?_, ?_⟩
  · refine ⟨_, rfl, _, rfl, _, rfl, _, rfl, ?_⟩
    refine ifb (fun h => ?_) (fun h => ?_)
    · have h : (k : Int) < (((ns.map D.int).length : Nat) : Int) := of_decide_eq_true h
      have hk2 : k < ns.length := by rw [List.length_map] at h; omega
      exact ⟨_, rfl, _, rfl, .int ns[k], by rw [atI_nat (by rw [List.length_map]; exact hk2), List.getElem?_map]; simp [hk2], fo ⟨_, rfl, rfl⟩⟩
    · exact fo ⟨0, rfl, rfl⟩
  · rintro σ' S' ⟨c, rfl, rfl⟩
    refine ⟨_, rfl, (show (0 : Int) < 2147483647 by decide), _, rfl, .inl ⟨by decide, by decide⟩, ?_⟩
    refine ⟨_, rfl, sm (show 2 ≤ 100000 by decide), fun pq hpq => ⟨_, rfl, ⟨by decide, by decide, by decide⟩, .inr ⟨_, rfl, ?_⟩⟩⟩
    have hat : ∃ j : Int, atI [D.int 0, D.int c] (if decide ((10 : Int) ^ (18 : Int).toNat ≤ c) = true then 1 else 0) = some (.int j) := by
      by_cases h : decide ((10 : Int) ^ (18 : Int).toNat ≤ c) = true
      · rw [if_pos h]; exact ⟨c, rfl⟩
      · rw [if_neg h]; exact ⟨0, rfl⟩
    obtain ⟨j, hj⟩ := hat
    exact ⟨_, _, sset_same, hj, S', .new hpq, sm (show 3 ≤ 100000 by decide), fun l hl => fo (q l _ _ _ hl)⟩
theorem ok_draw (T : Txt K mg t) : FnD P w K mg base 1 t.f_l_draw t.d_l_draw ["_law_well_here", "_law_most"] (spWell preD postD) := by
  refine spWell_of ?_
  refine T.F_l_draw.ok sc_l_draw (fun ds S R Z ⟨_, _, _, _, ⟨_, e, _⟩, _⟩ => by rw [e]; rfl) (fun cdv A outer s H E ds S R Z hr ⟨l, x, y, z, ⟨m, e, hm, hlg⟩, hl, q⟩ => ?_)
  subst e
  refine ⟨_, (sc (si (tcm o_gt hr.units (ix hr.units (dv 0) di) di) (sc (st_ (i := 2) sc_l_draw.nd (bo o_mod hr.units (ix hr.units (dv 0) di) (dv 1))) (sc (sls (dv 0) di (bo o_fdiv hr.units (ix hr.units (dv 0) di) (dv 1))) (s1 (sr (dv 2))))) s0) (sc (sls (dv 0) di (bo o_add hr.units (ix hr.units (dv 0) di) di)) (sc (st_ (i := 2) sc_l_draw.nd (bo o_mod hr.units (bo o_mul hr.units (bo o_add hr.units (bo o_add hr.units (ix hr.units (dv 0) di) (bo o_mul hr.units di (ix hr.units (dv 0) di))) di) di) di)) (sc (st_ (i := 2) sc_l_draw.nd (bo o_mod hr.units (bo o_mul hr.units (dv 2) (bo o_add hr.units (bo o_fdiv hr.units (dv 2) di) di)) di)) (s1 (sr (bo o_mod hr.units (bo o_mod hr.units (bo o_mul hr.units (dv 2) (bo o_add hr.units (bo o_fdiv hr.units (dv 2) di) di)) di) (dv 1)))))))), ?_⟩
  refine ⟨_, rfl, _, _, hl, rfl, _, rfl, ?_⟩
  refine ifb (fun h => ?_) (fun h => ?_)
  · refine ⟨_, rfl, _, _, hl, rfl, _, rfl, hm, ?_⟩
    refine ⟨_, rfl, _, _, hl, rfl, _, rfl, ⟨hm, hlg⟩, _, rfl, l, _, 1, 1, rfl, rfl, hl, rfl, ?_⟩
    exact ⟨_, rfl, fo (q _ _ _ _ ⟨l, m, _, rfl, rfl, Int.emod_nonneg _ (by omega), Int.emod_lt_of_pos _ hm⟩)⟩
  · refine ⟨_, rfl, _, _, hl, rfl, _, rfl, l, _, 2, 2, rfl, rfl, hl, rfl, ?_⟩
    rw [show ([D.int x, D.int y, D.int z].set 2 (D.int (z + 1))) = [D.int x, D.int y, D.int (z + 1)] from rfl]
    have hl2 : (S.set l (.lst [.int x, .int y, .int (z + 1)])) l = some (.lst [.int x, .int y, .int (z + 1)]) := sset_same
    refine ⟨_, rfl, _, _, hl2, rfl, _, rfl, _, _, hl2, rfl, .inl ⟨by decide, by decide⟩, .inr ⟨by decide, by decide⟩, (show (0 : Int) < 2147483647 by decide), ?_⟩
    have nb : ∀ z : Int, 0 ≤ z % 2147483647 ∧ z % 2147483647 < 2147483647 := fun z => ⟨Int.emod_nonneg z (by decide), Int.emod_lt_of_pos z (by decide)⟩
    have n1 := nb ((x + 7919 * (z + 1) + 1) * 48271)
    generalize (x + 7919 * (z + 1) + 1) * 48271 % 2147483647 = u at *
    refine ⟨_, rfl, _, rfl, ⟨by decide, by decide +kernel⟩, .inl ⟨by omega, by omega⟩, (show (0 : Int) < 2147483647 by decide), ?_⟩
    have n2 := nb (u * (u / 1009 + 69621))
    generalize u * (u / 1009 + 69621) % 2147483647 = v at *
    exact ⟨_, rfl, _, rfl, ⟨by decide, by decide +kernel⟩, .inl ⟨by omega, by omega⟩, (show (0 : Int) < 2147483399 by decide), _, rfl, hm, fo (q _ _ _ _ ⟨l, m, _, rfl, rfl, Int.emod_nonneg _ (by omega), Int.emod_lt_of_pos _ hm⟩)⟩
end
theorem ok_dr {P : Program} {w : World} {K : PySem.W.Frag} {mg : Str → Option Value} {base : Heap} {t : Adr} (T : Txt K mg t) : FnD P w K mg base 1 t.f_l_draw t.d_l_draw ["_law_well_here", "_law_most"] spDraw :=
  (ok_draw T).impD fun ds S R Z ⟨l, m, e, h0, h1, hw, q⟩ => ⟨l, ⟨m, e, h0, h1⟩, hw, fun d ⟨l', m', n, e1, e2, a, b⟩ => by rw [e] at e1; cases e1; subst e2; exact q n a b⟩
section
variable {P : Program} {w : World} {K : PySem.W.Frag} {mg : Str → Option Value} {base : Heap} {t : Adr}
theorem ok_columns (T : Txt K mg t) : FnD P w K mg base 2 t.f_l_columns t.d_l_columns ["_law_well_here"] (fun ds S R _ => ∃ l, ds = [.ref l] ∧ S l = some .well ∧ ∀ cs, Cg cs → R (.tup (cs.map colD)) S) := by
  have G_l_draw : FnD P w K mg base 1 t.f_l_draw t.d_l_draw ["_law_well_here", "_law_most"] spDraw := ok_dr T
  refine T.F_l_columns.ok sc_l_columns (fun ds S R Z ⟨_, e, _⟩ => by rw [e]; rfl) (fun cdv A outer s H E ds S R Z hr ⟨l, e, hw, q⟩ => ?_)
  subst e
  refine ⟨_, (sc (st_ (i := 1) sc_l_columns.nd (elst (ac ds (ac ds (ac ds (ac ds (ac ds (ac ds (ac ds (ac ds (ac ds (ac ds (ac ds (ac ds an)))))))))))))) (sc (st_ (i := 2) sc_l_columns.nd (elst an)) (sc (scf (sfo (ir1 T.n_range (ac (cf (G_l_draw.mono (by decide)) hr T.mg_l_draw T.k_l_draw T.b_l_draw d0 (ac (dv 0) (ac (efo (ix hr.units (elst (ac di (ac di (ac di (ac di an))))) (cf (G_l_draw.mono (by decide)) hr T.mg_l_draw T.k_l_draw T.b_l_draw d0 (ac (dv 0) (ac di an))))) an))) an)) (gn (i := 3) sc_l_columns.nd) (sc (st_ (i := 4) sc_l_columns.nd (bm PySem.F.plainAttrs_list PySem.F.slot_list_pop PySem.F.type_list_pop m_popAt (dv 1) (ac (cf (G_l_draw.mono (by decide)) hr T.mg_l_draw T.k_l_draw T.b_l_draw d0 (ac (dv 0) (ac (cb c_len T.n_len bt_len (ac (dv 1) an)) an))) an))) (s1 (se (bm PySem.F.plainAttrs_list PySem.F.slot_list_append PySem.F.type_list_append m_append (dv 2) (ac (etup (ac (dv 4) (ac (efo (ix hr.units (elst (ac ds (ac ds an))) (cf (G_l_draw.mono (by decide)) hr T.mg_l_draw T.k_l_draw T.b_l_draw d0 (ac (dv 0) (ac di an))))) an))) an))))))) (s1 (sr (ct c_tuple T.n_tuple bt_tuple (ac (dv 2) an))))))), ?_⟩
  refine ⟨sm (show 12 ≤ 100000 by decide), fun ln hln => ⟨sm (show 0 ≤ 100000 by decide), fun lf hlf => ?_⟩⟩
  have nfl : ln ≠ lf := sne (sset_same (S := S)) hlf
  have hlf0 : S lf = none := by rw [sset_ne nfl.symm] at hlf; exact hlf
  have hnl : l ≠ ln := sne hw hln
  have hnf : l ≠ lf := sne hw hlf0
  have hw2 : ((S.set ln (.lst (NMS.map D.str))).set lf (.lst [])) l = some .well := wl (wl hw hln) hlf
  have hn2 : ((S.set ln (.lst (NMS.map D.str))).set lf (.lst [])) ln = some (.lst (NMS.map D.str)) := (sset_ne nfl).trans sset_same
  have hf2 : ((S.set ln (.lst (NMS.map D.str))).set lf (.lst [])) lf = some (.lst []) := sset_same
  have sb2 : Sub S ((S.set ln (.lst (NMS.map D.str))).set lf (.lst [])) := (Sub.new hln).trans (.new hlf)
  refine ⟨fun σ' S' => ∃ o3 o4 cs, σ' = [some (.ref l), some (.ref ln), some (.ref lf), o3, o4] ∧ Cg cs ∧ S' lf = some (.lst (cs.map colD)) ∧ Sub S S', ?_, ?_⟩
  · show dFor _ _ _ _ _ ((S.set ln (.lst (NMS.map D.str))).set lf (.lst [])) _
    generalize (S.set ln (.lst (NMS.map D.str))).set lf (.lst []) = S2 at hw2 hn2 hf2 sb2 ⊢
    refine ⟨_, rfl, sm (show 4 ≤ 100000 by decide), fun p hp => ⟨_, rfl, l, _, rfl, (by decide), (by decide), wl hw2 hp, fun n4 h40 h41 => pick_go h40 h41 hp fun d hd => ?_⟩⟩
    obtain ⟨m, rfl, hm0, hm⟩ : ∃ m : Nat, d = .int m ∧ 1 ≤ m ∧ m ≤ 9 := by
      have hd : d ∈ [D.int 5, .int 5, .int 5, .int 9] := hd
      simp only [List.mem_cons, List.not_mem_nil, or_false] at hd
      rcases hd with h | h | h | h
      · exact ⟨5, h, by decide, by decide⟩
      · exact ⟨5, h, by decide, by decide⟩
      · exact ⟨5, h, by decide, by decide⟩
      · exact ⟨9, h, by decide, by decide⟩
    refine ⟨l, _, rfl, (by omega), log_le (by omega) (by omega), hw2, fun n h0 h1 => ⟨n, rfl, by omega, by omega, ?_⟩⟩
    refine ⟨fun i σ' S' => ∃ (o3 o4 : Option D) (cs : List (Str × Str)) (M : List Str), σ' = [some (.ref l), some (.ref ln), some (.ref lf), o3, o4] ∧ (cs.map Prod.fst ++ M).Perm NMS ∧ (∀ c ∈ cs, c.2 = "number" ∨ c.2 = "word") ∧ cs.length = i ∧ S' ln = some (.lst (M.map D.str)) ∧ S' lf = some (.lst (cs.map colD)) ∧ S' l = some .well ∧ Sub S S', ⟨none, none, [], NMS, rfl, .refl _, fun _ h => (nomatch h), rfl, hn2, hf2, hw2, sb2⟩, fun _ _ _ _ => trivial, ?_, ?_⟩
    · rintro i d σ' S' hd ⟨o3, o4, cs, M, rfl, hpm, hk, hcl, hM, hF, hW, hs⟩
      have hd : (rngD 0 n.toNat)[i]? = some d := hd
      obtain ⟨hi, rfl⟩ := rngD_get hd
      have hMl : M.length = 12 - i := by
        have := hpm.length_eq
        rw [List.length_append, List.length_map, hcl] at this
        have h12 : NMS.length = 12 := rfl
        omega
      have hml : (M.map D.str).length = M.length := List.length_map _
      refine ⟨_, rfl, ⟨rfl, _, hM⟩, _, rfl, _, rfl, _, rfl, .inl ⟨_, hM, l, _, rfl, by omega, log_le (by omega) (by omega), hW, fun j hj0 hj1 => ?_⟩⟩
      obtain ⟨jn, rfl⟩ : ∃ jn : Nat, j = (jn : Int) := ⟨j.toNat, by omega⟩
      have hjn : jn < M.length := by omega
      have hz : M[jn]? = some (M[jn]'hjn) := List.getElem?_eq_getElem hjn
      generalize M[jn]'hjn = z at hz
      refine ⟨ln, _, _, jn, .str z, rfl, rfl, hM, by omega, by omega, seq_nat (by omega), by rw [List.getElem?_map, hz]; rfl, ?_⟩
      rw [← map_erIdx]
      have hF3 : (S'.set ln (.lst ((M.eraseIdx jn).map D.str))) lf = some (.lst (cs.map colD)) := (sset_ne nfl.symm).trans hF
      have hW3 : (S'.set ln (.lst ((M.eraseIdx jn).map D.str))) l = some .well := (sset_ne hnl).trans hW
      have hM3 : (S'.set ln (.lst ((M.eraseIdx jn).map D.str))) ln = some (.lst ((M.eraseIdx jn).map D.str)) := sset_same
      have hs3 : Sub S (S'.set ln (.lst ((M.eraseIdx jn).map D.str))) := fun b c hb => (sset_ne (sne hb hln)).trans (hs b c hb)
      generalize S'.set ln (.lst ((M.eraseIdx jn).map D.str)) = S3 at hF3 hW3 hM3 hs3 ⊢
      refine ⟨_, rfl, ⟨rfl, _, hF3⟩, _, rfl, sm (show 2 ≤ 100000 by decide), fun p hp => ⟨_, rfl, l, _, rfl, (by decide), (by decide), wl hW3 hp, fun n2 h20 h21 => pick_go h20 h21 hp fun d hd => ?_⟩⟩
      obtain ⟨kd, rfl, hkd⟩ : ∃ kd : Str, d = .str kd ∧ (kd = "number" ∨ kd = "word") := by
        have hd : d ∈ [D.str "number", .str "word"] := hd
        simp only [List.mem_cons, List.not_mem_nil, or_false] at hd
        rcases hd with h | h
        · exact ⟨_, h, .inl rfl⟩
        · exact ⟨_, h, .inr rfl⟩
      refine ⟨sm (show 2 ≤ 100000 by decide), lf, _, _, rfl, rfl, hF3, smallB (by rw [List.length_map]; omega), ?_⟩
      refine ⟨_, _, cs ++ [(z, kd)], M.eraseIdx jn, rfl, ?_, fun c hc => ?_, by rw [List.length_append, hcl]; rfl, (sset_ne nfl).trans hM3, by rw [sset_same, List.map_append]; rfl, (sset_ne hnf).trans hW3, fun b c hb => (sset_ne (sne hb hlf0)).trans (hs3 b c hb)⟩
      · rw [List.map_append, List.append_assoc]
        exact ((perm_erIdx hz).append_left _).trans hpm
      · rcases List.mem_append.mp hc with hc | hc
        · exact hk c hc
        · rw [List.mem_singleton.mp hc]; exact hkd
    · rintro σ' S' ⟨o3, o4, cs, M, rfl, hpm, hk, hcl, hM, hF, hW, hs⟩
      rw [show (⟨rngD 0 n.toNat, fun _ => True⟩ : ItD).xs.length = n.toNat from rngD_len] at hcl
      have hnd := hpm.nodup_iff.mpr NMS_nodup
      have hin : ∀ c ∈ cs, c.1 ∈ NMS := fun c hc => hpm.mem_iff.mp (List.mem_append_left _ (List.mem_map.mpr ⟨c, hc, rfl⟩))
      exact fo ⟨o3, o4, cs, rfl, ⟨⟨by omega, (List.nodup_append.mp hnd).1, fun c hc => ⟨(NMS_ok _ (hin c hc)).1, hk c hc⟩⟩, hin⟩, hF, hs⟩
  · rintro σ' S' ⟨o3, o4, cs, rfl, hc, hF, hs⟩
    exact ⟨_, rfl, _, _, rfl, .inl hF, S, hs, q cs hc⟩
end
end My
namespace My
open PySem L2
abbrev KEYS : List Str := ["a", "ab", "b", "abc", "a1", "a10", "a2", "key", "z", "zzzzzzzzzzzz", "m", "c"]
abbrev FOUR : Str := "ab~ "
abbrev SIGNS : Str := "ab= ~#-\"()|Z9_&"
abbrev WORDS : List Str := ["", "a", "ab", "abc", "b", "B", " ", "a b"]
theorem WORDS_facts : ∀ z ∈ WORDS, wordZ z = true := by decide +kernel
theorem KEYS_facts : ∀ z ∈ KEYS, keyZ z = true := by decide +kernel
theorem four_mul : ∀ c ∈ FOUR.cps.toList, ∀ n < 41, wordZ (PySem.Txt.mul ⟨#[c]⟩ ((n : Nat) : Int)) = true := by decide +kernel
theorem mul_ok (c : Nat) (n : Nat) (h : n < 41) : MulOk ⟨#[c]⟩ (n : Int) := by
  have e : (⟨#[c]⟩ : Str).length = 1 := rfl
  refine ⟨by simp; omega, fun h1 _ => ?_, fun h1 _ => ?_⟩
  · rw [e]
    have h2 : (1 : Int) ≤ (2 ^ 63 - 1) / (n : Int) := by
      rw [Int.le_ediv_iff_mul_le (by omega)]
      omega
    show ¬ ((1 : Nat) : Int) > _
    omega
  · rw [e, Nat.one_mul, Int.toNat_natCast]
    have := sm (n := n) (by omega)
    unfold PySem.Builtin.Str.tooLong
    exact decide_eq_false (by omega)
theorem join_signs : ∀ cs : List Nat, (Str.join "" (cs.map fun c => (⟨#[c]⟩ : Str))).cps.toList = cs
  | [] => rfl
  | [c] => rfl
  | c :: d :: r => by
    have ih := join_signs (d :: r)
    rw [List.map_cons, List.map_cons]
    show ((⟨#[c]⟩ : Str) ++ ("" : Str) ++ Str.join "" ((⟨#[d]⟩ : Str) :: r.map fun c => (⟨#[c]⟩ : Str))).cps.toList = c :: d :: r
    rw [List.map_cons] at ih
    show ((#[c] ++ (("" : Str)).cps) ++ (Str.join "" ((⟨#[d]⟩ : Str) :: r.map fun c => (⟨#[c]⟩ : Str))).cps).toList = c :: d :: r
    rw [Array.toList_append, ih]
    rfl
theorem signs_wrd : ∀ c ∈ SIGNS.cps.toList, isWrd c = true := by decide +kernel
theorem join_few (cs : List Nat) (h : cs.length ≤ 5) : JoinOk "" (cs.map fun c => (⟨#[c]⟩ : Str)) = true := by
  refine PyProof.Rows.joinOk_of ?_
  have e : ((cs.map fun c => (⟨#[c]⟩ : Str)).map (·.length)).sum = cs.length := by
    rw [List.map_map]
    clear h
    induction cs with
    | nil => rfl
    | cons c r ih => rw [List.map_cons, List.sum_cons, ih, List.length_cons]; show 1 + _ = _; omega
  rw [e, List.length_map]
  have : ("" : Str).length = 0 := rfl
  rw [this]
  omega
theorem paired_signs : ∀ {xs out : List D}, Paired (fun _ v => ∃ c ∈ SIGNS.cps.toList, v = .str ⟨#[c]⟩) xs out → ∃ cs : List Nat, out = (cs.map fun c => (⟨#[c]⟩ : Str)).map D.str ∧ cs.length = xs.length ∧ ∀ c ∈ cs, c ∈ SIGNS.cps.toList
  | _, _, .nil => ⟨[], rfl, rfl, fun _ h => (nomatch h)⟩
  | _, _, .cons ⟨c, hc, e⟩ r => by
    obtain ⟨cs, e1, e2, e3⟩ := paired_signs r
    refine ⟨c :: cs, by rw [e, e1]; rfl, by rw [List.length_cons, List.length_cons, e2], fun x hx => ?_⟩
    rcases List.mem_cons.mp hx with e | hx
    · rw [e]; exact hc
    · exact e3 x hx
section
variable {P : Program} {w : World} {K : PySem.W.Frag} {mg : Str → Option Value} {base : Heap} {t : Adr}
theorem ok_number (T : Txt K mg t) : FnD P w K mg base 2 t.f_l_number t.d_l_number ["_law_well_here"] (fun ds S R _ => ∃ l, ds = [.ref l] ∧ S l = some .well ∧ ∀ n : Int, n.natAbs < 10 ^ 60 → R (.int n) S) := by
  have G_l_draw : FnD P w K mg base 1 t.f_l_draw t.d_l_draw ["_law_well_here", "_law_most"] spDraw := ok_dr T
  refine T.F_l_number.ok sc_l_number (fun ds S R Z ⟨_, e, _⟩ => by rw [e]; rfl) (fun cdv A outer s H E ds S R Z hr ⟨l, e, hw, q⟩ => ?_)
  subst e
  refine ⟨_, (sc (st_ (i := 1) sc_l_number.nd (cf (G_l_draw.mono (by decide)) hr T.mg_l_draw T.k_l_draw T.b_l_draw d0 (ac (dv 0) (ac di an)))) (sc (si (tcm o_eq hr.units (dv 1) di) (s1 (sr (bo o_mul hr.units (bo o_sub hr.units di (bo o_mul hr.units di (cf (G_l_draw.mono (by decide)) hr T.mg_l_draw T.k_l_draw T.b_l_draw d0 (ac (dv 0) (ac di an))))) (bo o_sub hr.units (bo o_sub hr.units (bo o_pow hr.units di di) di) (cf (G_l_draw.mono (by decide)) hr T.mg_l_draw T.k_l_draw T.b_l_draw d0 (ac (dv 0) (ac di an))))))) s0) (sc (si (tcm o_eq hr.units (dv 1) di) (s1 (sr (bo o_sub hr.units (cf (G_l_draw.mono (by decide)) hr T.mg_l_draw T.k_l_draw T.b_l_draw d0 (ac (dv 0) (ac di an))) di))) s0) (s1 (sr (bo o_sub hr.units (cf (G_l_draw.mono (by decide)) hr T.mg_l_draw T.k_l_draw T.b_l_draw d0 (ac (dv 0) (ac di an))) di)))))), ?_⟩
  refine ⟨_, rfl, l, _, rfl, (by decide), (by decide), hw, fun n n0 n1 => ?_⟩
  refine ⟨_, rfl, _, rfl, ?_⟩
  refine ifb (fun _ => ?_) (fun _ => ?_)
  · refine ⟨_, rfl, l, _, rfl, (by decide), (by decide), hw, fun m m0 m1 => ?_⟩
    refine ⟨.inl ⟨by decide, by decide⟩, ⟨by decide, by decide, by decide⟩, _, rfl, l, _, rfl, (by decide), (by decide), hw, fun k k0 k1 => ?_⟩
    refine ⟨.inl ⟨by omega, by omega⟩, fo (q _ ?_)⟩
    have e10 : ((10 : Int) ^ (60 : Int).toNat) = 1000000000000000000000000000000000000000000000000000000000000 := by decide +kernel
    have e10' : ((10 : Nat) ^ 60) = 1000000000000000000000000000000000000000000000000000000000000 := by decide +kernel
    rw [e10, e10']
    rcases (show m = 0 ∨ m = 1 by omega) with rfl | rfl
    · omega
    · omega
  · refine ⟨_, rfl, _, rfl, ?_⟩
    have e10' : ((10 : Nat) ^ 60) = 1000000000000000000000000000000000000000000000000000000000000 := by decide +kernel
    refine ifb (fun _ => ?_) (fun _ => ?_)
    · exact ⟨_, rfl, l, _, rfl, (by decide), (by decide), hw, fun m m0 m1 => fo (q _ (by rw [e10']; omega))⟩
    · exact ⟨_, rfl, l, _, rfl, (by decide), (by decide), hw, fun m m0 m1 => fo (q _ (by rw [e10']; omega))⟩
theorem ok_word (T : Txt K mg t) : FnD P w K mg base 2 t.f_l_word t.d_l_word ["_law_well_here"] (fun ds S R _ => ∃ l, ds = [.ref l] ∧ S l = some .well ∧ ∀ z : Str, wordZ z = true → R (.str z) S) := by
  have G_l_draw : FnD P w K mg base 1 t.f_l_draw t.d_l_draw ["_law_well_here", "_law_most"] spDraw := ok_dr T
  refine T.F_l_word.ok sc_l_word (fun ds S R Z ⟨_, e, _⟩ => by rw [e]; rfl) (fun cdv A outer s H E ds S R Z hr ⟨l, e, hw, q⟩ => ?_)
  subst e
  refine ⟨_, (sc (st_ (i := 1) sc_l_word.nd (cf (G_l_draw.mono (by decide)) hr T.mg_l_draw T.k_l_draw T.b_l_draw d0 (ac (dv 0) (ac di an)))) (sc (si (tcm o_eq hr.units (dv 1) di) (s1 (sr (bo o_mul hr.units (ix hr.units ds (cf (G_l_draw.mono (by decide)) hr T.mg_l_draw T.k_l_draw T.b_l_draw d0 (ac (dv 0) (ac di an)))) (cf (G_l_draw.mono (by decide)) hr T.mg_l_draw T.k_l_draw T.b_l_draw d0 (ac (dv 0) (ac di an)))))) s0) (sc (si (tcm o_eq hr.units (dv 1) di) (sc (st_ (i := 2) sc_l_word.nd ds) (s1 (sr (bm PySem.F.plainAttrs_str PySem.F.slot_str_join PySem.F.type_str_join m_join ds (ac (eco (N := ["_law_k", "_law_signs", "_law_well_here"]) (src := [none, some 2, some 0]) (csc (defScope s_l_word) ["_law_well_here", "_law_way", "_law_signs"] rfl rfl (by decide +kernel)) (ir1 T.n_range (ac (cf (G_l_draw.mono (by decide)) hr T.mg_l_draw T.k_l_draw T.b_l_draw d0 (ac (dv 0) (ac di an))) an)) (cg1 (show (["_law_k", "_law_signs", "_law_well_here"] : List Str).Nodup by decide +kernel)) (gx_name rfl) gd_name (fun _ _ _ _ _ => if0) (fun _ _ _ _ _ => (ix hr.units (dv 1) (cf (G_l_draw.mono (by decide)) hr T.mg_l_draw T.k_l_draw T.b_l_draw d0 (ac (dv 2) (ac di an)))))) an))))) s0) (s1 (sr (efo (ix hr.units (elst (ac ds (ac ds (ac ds (ac ds (ac ds (ac ds (ac ds (ac ds an))))))))) (cf (G_l_draw.mono (by decide)) hr T.mg_l_draw T.k_l_draw T.b_l_draw d0 (ac (dv 0) (ac di an)))))))))), ?_⟩
  refine ⟨_, rfl, l, _, rfl, (by decide), (by decide), hw, fun n n0 n1 => ?_⟩
  refine ⟨_, rfl, _, rfl, ?_⟩
  refine ifb (fun _ => ?_) (fun _ => ?_)
  · refine ⟨_, rfl, l, _, rfl, (by decide), (by decide), hw, fun m m0 m1 => ?_⟩
    obtain ⟨c, ac, hc⟩ := atI_mod (l := FOUR.cps.toList) m0 (show m < 4 from m1)
    refine ⟨c, sm (show 4 ≤ 100000 by decide), ac, _, rfl, l, _, rfl, (by decide), (by decide), hw, fun k k0 k1 => ?_⟩
    obtain ⟨k', rfl⟩ : ∃ k' : Nat, k = (k' : Int) := ⟨k.toNat, by omega⟩
    exact ⟨mul_ok c k' (by omega), fo (q _ (four_mul c (List.mem_of_getElem? hc) k' (by omega)))⟩
  · refine ⟨_, rfl, _, rfl, ?_⟩
    refine ifb (fun _ => ?_) (fun _ => ?_)
    · refine ⟨rfl, _, rfl, l, _, rfl, (by decide), (by decide), hw, fun m m0 m1 => ⟨m, rfl, by omega, by omega, ?_⟩⟩
      refine comp_rel (fun _ v => ∃ c ∈ SIGNS.cps.toList, v = .str ⟨#[c]⟩) trivial (by show (rngD 0 m.toNat).length ≤ _; rw [rngD_len]; omega) (fun d hd Q hQ => ?_) fun out ho p hp => ?_
      · refine ⟨_, rfl, _, rfl, l, _, rfl, (by decide), (by decide), hw, fun j j0 j1 => ?_⟩
        obtain ⟨c, ac, hc⟩ := atI_mod (l := SIGNS.cps.toList) j0 (show j < 15 from j1)
        exact ⟨c, sm (show 15 ≤ 100000 by decide), ac, hQ _ ⟨c, List.mem_of_getElem? hc, rfl⟩⟩
      · obtain ⟨cs, rfl, hl, hcs⟩ := paired_signs ho
        have hl : cs.length = m.toNat := hl.trans rngD_len
        refine ⟨"", cs.map fun c => (⟨#[c]⟩ : Str), _, rfl, rfl, sset_same, join_few cs (by omega), S, .new hp, q _ ?_⟩
        have hj : (PySem.Txt.join "" (cs.map fun c => (⟨#[c]⟩ : Str))).cps.toList = cs := by
          rw [txt_join]; exact join_signs cs
        unfold wordZ
        rw [hj, decide_eq_true (show (PySem.Txt.join "" (cs.map fun c => (⟨#[c]⟩ : Str))).cps.size ≤ 40 by rw [size_list, hj]; omega), Bool.true_and, List.all_eq_true]
        exact fun c hc => signs_wrd c (hcs c hc)
    · refine ⟨sm (show 8 ≤ 100000 by decide), fun p hp => ⟨_, rfl, l, _, rfl, (by decide), (by decide), wl hw hp, fun n h0 h1 => pick_go h0 h1 hp fun d hd => ?_⟩⟩
      have hd : d ∈ WORDS.map D.str := hd
      obtain ⟨z, hz, rfl⟩ := List.mem_map.mp hd
      exact fo (q z (WORDS_facts z hz))
theorem ok_value (T : Txt K mg t) : FnD P w K mg base 3 t.f_l_value t.d_l_value ["_law_well_here", "_law_kind"] (fun ds S R _ => ∃ l k, ds = [.ref l, .str k] ∧ S l = some .well ∧ ∀ v, Vok v → valB k v = true → R v S) := by
  have G_l_draw : FnD P w K mg base 1 t.f_l_draw t.d_l_draw ["_law_well_here", "_law_most"] spDraw := ok_dr T
  have G_l_number : FnD P w K mg base 2 t.f_l_number t.d_l_number ["_law_well_here"] _ := ok_number T
  have G_l_word : FnD P w K mg base 2 t.f_l_word t.d_l_word ["_law_well_here"] _ := ok_word T
  refine T.F_l_value.ok sc_l_value (fun ds S R Z ⟨_, _, e, _⟩ => by rw [e]; rfl) (fun cdv A outer s H E ds S R Z hr ⟨l, k, e, hw, q⟩ => ?_)
  subst e
  refine ⟨_, (sc (si (tcm o_eq hr.units (cf (G_l_draw.mono (by decide)) hr T.mg_l_draw T.k_l_draw T.b_l_draw d0 (ac (dv 0) (ac di an))) di) (s1 (sr dn)) s0) (sc (si (tcm o_eq hr.units (dv 1) ds) (s1 (sr (cf (G_l_number.mono (by decide)) hr T.mg_l_number T.k_l_number T.b_l_number d0 (ac (dv 0) an)))) s0) (s1 (sr (cf (G_l_word.mono (by decide)) hr T.mg_l_word T.k_l_word T.b_l_word d0 (ac (dv 0) an)))))), ?_⟩
  refine ⟨_, rfl, l, _, rfl, (by decide), (by decide), hw, fun n n0 n1 => ⟨_, rfl, ?_⟩⟩
  refine ifb (fun _ => ?_) (fun _ => ?_)
  · exact fo (q .non (.inl rfl) rfl)
  refine ⟨_, rfl, _, rfl, ?_⟩
  refine ifb (fun h => ?_) (fun h => ?_)
  · have h : k = "number" := of_decide_eq_true h
    exact ⟨_, rfl, l, rfl, hw, fun i hi => fo (q _ (.inr (.inl ⟨i, rfl, hi⟩)) (by unfold valB; rw [if_pos h]; rfl))⟩
  · have h : ¬ k = "number" := of_decide_eq_false h
    exact ⟨_, rfl, l, rfl, hw, fun z hz => fo (q _ (.inr (.inr ⟨z, rfl, hz⟩)) (by unfold valB; rw [if_neg h]; exact hz))⟩
theorem ok_key (T : Txt K mg t) : FnD P w K mg base 2 t.f_l_key t.d_l_key ["_law_well_here"] (fun ds S R _ => ∃ l, ds = [.ref l] ∧ S l = some .well ∧ ∀ z, keyZ z = true → R (.str z) S) := by
  have G_l_draw : FnD P w K mg base 1 t.f_l_draw t.d_l_draw ["_law_well_here", "_law_most"] spDraw := ok_dr T
  refine T.F_l_key.ok sc_l_key (fun ds S R Z ⟨_, e, _⟩ => by rw [e]; rfl) (fun cdv A outer s H E ds S R Z hr ⟨l, e, hw, q⟩ => ?_)
  subst e
  refine ⟨_, (sc (st_ (i := 1) sc_l_key.nd (elst (ac ds (ac ds (ac ds (ac ds (ac ds (ac ds (ac ds (ac ds (ac ds (ac ds (ac ds (ac ds an)))))))))))))) (s1 (sr (ix hr.units (dv 1) (cf (G_l_draw.mono (by decide)) hr T.mg_l_draw T.k_l_draw T.b_l_draw d0 (ac (dv 0) (ac di an))))))), ?_⟩
  refine ⟨sm (show 12 ≤ 100000 by decide), fun p hp => ⟨_, rfl, _, rfl, l, _, rfl, (by decide), (by decide), wl hw hp, fun n h0 h1 => ?_⟩⟩
  obtain ⟨v, e1, e2⟩ := atI_mod (l := KEYS.map D.str) h0 (show n < 12 from h1)
  obtain ⟨z, hz, rfl⟩ := List.mem_map.mp (List.mem_of_getElem? e2)
  exact ⟨KEYS.map D.str, _, sset_same, e1, S, .new hp, q z (KEYS_facts z hz)⟩
end
end My
namespace My
open PySem L2
def Tx (n : Nat) (z : Str) : Prop := z.cps.size ≤ n ∧ PyData.strOk z = true
theorem Tx.le {n m : Nat} {z : Str} (h : Tx n z) (l : n ≤ m) : Tx m z := ⟨Nat.le_trans h.1 l, h.2⟩
theorem app_size (a b : Str) : (a ++ b).cps.size = a.cps.size + b.cps.size := by
  show (a.cps ++ b.cps).size = _
  rw [Array.size_append]
theorem app_ok {a b : Str} (ha : PyData.strOk a = true) (hb : PyData.strOk b = true) : PyData.strOk (a ++ b) = true := by
  rw [ok_iff] at *
  intro c hc
  have hc : c ∈ (a.cps ++ b.cps).toList := hc
  rw [Array.toList_append, List.mem_append] at hc
  rcases hc with hc | hc
  · exact ha c hc
  · exact hb c hc
theorem Tx.app {n m : Nat} {a b : Str} (h : Tx n a) (h2 : Tx m b) : Tx (n + m) (a ++ b) := ⟨by rw [app_size]; have := h.1; have := h2.1; omega, app_ok h.2 h2.2⟩
theorem Tx.rd {S : Sto} {z : Str} (h : Tx 90000 z) : Rd S (.str z) := ⟨⟨.str, rfl⟩, fun y e => by cases e; exact h⟩
theorem Cg.tx {cs : List (Str × Str)} (h : Cg cs) : ∀ c ∈ cs, Tx 8 c.1 ∧ Tx 8 c.2 := fun c hc => by
  obtain ⟨h1, h2⟩ := h.1.2.2 c hc
  have h3 : c.1.cps.size ≤ 8 := by
    unfold nameZ at h1
    simp only [Bool.and_eq_true, decide_eq_true_eq] at h1
    exact h1.1.2
  refine ⟨⟨h3, (NMS_ok _ (h.2 c hc)).2.1⟩, ?_⟩
  rcases h2 with e | e <;> rw [e] <;> exact ⟨by decide +kernel, by decide +kernel⟩
theorem wd_at {ws : List Str} {i : Nat} (h : i < ws.length) {j : Int} (e : j = ((i : Nat) : Int)) : atI (ws.map D.str) j = some (.str (ws.getD i "")) := by
  rw [e, atI_nat (by rw [List.length_map]; exact h), wd_get h]
theorem eq_nilTN {S : Sto} {ds : List D} {R : KD} (h : ∀ d ∈ ds, Ly S 60 d) (q : R (.bl (!ds.isEmpty)) S) : eqD true (.tup ds) (.tup []) S R := by
  obtain ⟨ps, k1, k2, k3, k4⟩ := Ly.all h
  refine ⟨.tuple ps, .tuple [], by simp only [Dl, Dp]; exact ⟨ps, rfl, k1⟩, by simp only [Dl, Dp]; exact ⟨[], rfl, by simp only [DpAll]⟩, by simp only [PyData.canLay0]; exact k2, by simp only [PyData.canLay0, PyData.canLayAll0], .inl (by simp only [PyData.depth]; omega), ?_⟩
  rw [if_pos rfl, eqv_nilT, show ps.isEmpty = ds.isEmpty by cases ps <;> cases ds <;> first | rfl | cases k4]; exact q
abbrev U1 : List Str := ["", "-", "#", "#0", "#00", "#-0", "#-1", "#1a", "#" ++ PySem.Txt.mul "9" 60, "#" ++ PySem.Txt.mul "9" 61, "\"", "\"a", "\"=", "\"=b"]
abbrev U2 : List Str := ["\"=e", "\"=B", "\"a=", "\"" ++ PySem.Txt.mul "a" 40, "\"" ++ PySem.Txt.mul "a" 41, "\"=eb", "\"a\n", "\"\"", "'a", "a", "ab", "a1"]
abbrev U3 : List Str := ["1a", "A", "zzzzzzzzzzzzz", "zzzzzzzzz", "up", "down", "first", "last", "key", "at", "Up", "number"]
abbrev U4 : List Str := ["word", "Word", "(", ")", "((", "()", "every", "is", "below", "above", "begins", "not", "and", "or"]
abbrev U5 : List Str := ["xor", "0", "|", "\n"]
theorem U_ok : ∀ z ∈ (((U1 ++ U2) ++ U3) ++ U4) ++ U5, z.cps.size ≤ 62 ∧ PyData.strOk z = true := by decide +kernel
def wt' (l : List Str) : Nat := (l.map (·.length)).sum + l.length
theorem wt_app (a b : List Str) : wt' (a ++ b) = wt' a + wt' b := by
  unfold wt'; rw [List.map_append, List.sum_append, List.length_append]; omega
theorem wt_sub {a b : List Str} (h : a.Sublist b) : wt' a ≤ wt' b := by
  unfold wt'
  induction h with
  | slnil => exact Nat.le_refl _
  | cons x _ ih => rw [List.map_cons, List.sum_cons, List.length_cons]; omega
  | cons_cons x _ ih => rw [List.map_cons, List.map_cons, List.sum_cons, List.sum_cons, List.length_cons, List.length_cons]; omega
theorem wt_one (z : Str) : wt' [z] = z.length + 1 := by unfold wt'; simp
theorem cut_sub {α : Type} (l : List α) (lo hi : Option Int) : (cutL l lo hi).Sublist l := by
  unfold cutL
  exact (List.take_sublist _ _).trans (List.drop_sublist _ _)
theorem cut_strs (ws : List Str) (lo hi : Option Int) : cutL (ws.map D.str) lo hi = (cutL ws lo hi).map D.str := by
  unfold cutL
  rw [List.length_map, List.map_take, List.map_drop]
theorem join_go {us : List Str} {B : Nat} (h : ∀ u ∈ us, PyData.strOk u = true) (hw : wt' us ≤ B) (hB : B ≤ 100000) : JoinOk " " us = true ∧ Tx B (Txt.join " " us) := by
  have h1 : (" " : Str).length = 1 := by decide +kernel
  unfold wt' at hw
  refine ⟨PyProof.Rows.joinOk_of (by rw [h1]; omega), ?_, join_ok (by decide +kernel) h⟩
  have := join_len " " us
  rw [h1] at this
  show (Txt.join " " us).length ≤ B
  omega
section
variable {P : Program} {w : World} {K : PySem.W.Frag} {mg : Str → Option Value} {base : Heap} {t : Adr}
theorem ok_menu (T : Txt K mg t) : FnD P w K mg base 2 t.f_l_menu t.d_l_menu ["_law_well_here", "_law_columns_here"] (fun ds S R _ => ∃ l cs, ds = [.ref l, .tup (cs.map colD)] ∧ Cg cs ∧ S l = some .well ∧ ∀ u, Tx 62 u → R (.str u) S) := by
  have G_l_draw : FnD P w K mg base 1 t.f_l_draw t.d_l_draw ["_law_well_here", "_law_most"] spDraw := ok_dr T
  refine T.F_l_menu.ok sc_l_menu (fun ds S R Z ⟨_, _, e, _⟩ => by rw [e]; rfl) (fun cdv A outer s H E ds S R Z hr ⟨l, cs, e, hg, hw, q⟩ => ?_)
  subst e
  have hctx := hg.tx
  have h8 := hg.1.1
  have sz : ∀ a b : Str, a.length + b.length ≤ 100000 → a.length + b.length ≤ sizeLine := fun a b h => sm h
  refine ⟨_, (sc (st_ (i := 2) sc_l_menu.nd (elst (ac ds (ac ds (ac ds (ac ds (ac ds (ac ds (ac ds (ac ds (ac (bo o_add hr.units ds (bo o_mul hr.units ds di)) (ac (bo o_add hr.units ds (bo o_mul hr.units ds di)) (ac ds (ac ds (ac ds (ac ds an)))))))))))))))) (sc (st_ (i := 2) sc_l_menu.nd (bo o_add hr.units (dv 2) (elst (ac ds (ac ds (ac ds (ac (bo o_add hr.units ds (bo o_mul hr.units ds di)) (ac (bo o_add hr.units ds (bo o_mul hr.units ds di)) (ac ds (ac ds (ac ds (ac ds (ac ds (ac ds (ac ds an))))))))))))))) (sc (st_ (i := 2) sc_l_menu.nd (bo o_add hr.units (dv 2) (elst (ac ds (ac ds (ac ds (ac ds (ac ds (ac ds (ac ds (ac ds (ac ds (ac ds (ac ds (ac ds an))))))))))))))) (sc (st_ (i := 2) sc_l_menu.nd (bo o_add hr.units (dv 2) (elst (ac ds (ac ds (ac ds (ac ds (ac ds (ac ds (ac ds (ac ds (ac ds (ac ds (ac ds (ac ds (ac ds (ac ds an))))))))))))))))) (sc (st_ (i := 2) sc_l_menu.nd (bo o_add hr.units (dv 2) (elst (ac ds (ac ds (ac ds (ac ds an))))))) (sc (scf (si (tcm o_ne hr.units (dv 1) (etup an)) (s1 (st_ (i := 2) sc_l_menu.nd (bo o_add hr.units (dv 2) (eco (N := ["_law_column"]) (src := [none]) (csc (defScope s_l_menu) ["_law_well_here", "_law_columns_here", "_law_some"] rfl rfl (by decide +kernel)) (itp (dv 1)) (cg1 (show (["_law_column"] : List Str).Nodup by decide +kernel)) (gx_name rfl) gd_name (fun _ _ _ _ _ => if0) (fun _ _ _ _ _ => (ix hr.units (dv 0) di)))))) s0)) (s1 (sr (ix hr.units (dv 2) (cf (G_l_draw.mono (by decide)) hr T.mg_l_draw T.k_l_draw T.b_l_draw d0 (ac (dv 0) (ac (cb c_len T.n_len bt_len (ac (dv 2) an)) an)))))))))))), ?_⟩
  refine ⟨⟨by decide, by decide, by decide +kernel⟩, sz _ _ (by decide +kernel), ⟨by decide, by decide, by decide +kernel⟩, sz _ _ (by decide +kernel), sm (show 14 ≤ 100000 by decide), fun p1 hp1 => ?_⟩
  generalize hS1 : S.set p1 _ = S1
  have b1 : Sub S S1 := by rw [← hS1]; exact .new hp1
  have v1 : S1 p1 = some (.lst (U1.map D.str)) := by rw [← hS1]; exact sset_same
  refine ⟨_, rfl, ⟨by decide, by decide, by decide +kernel⟩, sz _ _ (by decide +kernel), ⟨by decide, by decide, by decide +kernel⟩, sz _ _ (by decide +kernel), sm (show 12 ≤ 100000 by decide), fun p2 hp2 => ⟨_, _, (Sub.new hp2) _ _ v1, sset_same, sm (show 26 ≤ 100000 by decide), fun p3 hp3 => ?_⟩⟩
  generalize hS2 : S1.set p2 _ = S2 at hp3
  have b2 : Sub S S2 := by rw [← hS2]; exact b1.trans (.new hp2)
  generalize hS3 : S2.set p3 _ = S3
  have b3 : Sub S S3 := by rw [← hS3]; exact b2.trans (.new hp3)
  have v3 : S3 p3 = some (.lst ((U1 ++ U2).map D.str)) := by rw [← hS3]; exact sset_same
  refine ⟨_, rfl, sm (show 12 ≤ 100000 by decide), fun p4 hp4 => ⟨_, _, (Sub.new hp4) _ _ v3, sset_same, sm (show 38 ≤ 100000 by decide), fun p5 hp5 => ?_⟩⟩
  generalize hS4 : S3.set p4 _ = S4 at hp5
  have b4 : Sub S S4 := by rw [← hS4]; exact b3.trans (.new hp4)
  generalize hS5 : S4.set p5 _ = S5
  have b5 : Sub S S5 := by rw [← hS5]; exact b4.trans (.new hp5)
  have v5 : S5 p5 = some (.lst (((U1 ++ U2) ++ U3).map D.str)) := by rw [← hS5]; exact sset_same
  refine ⟨_, rfl, sm (show 14 ≤ 100000 by decide), fun p6 hp6 => ⟨_, _, (Sub.new hp6) _ _ v5, sset_same, sm (show 52 ≤ 100000 by decide), fun p7 hp7 => ?_⟩⟩
  generalize hS6 : S5.set p6 _ = S6 at hp7
  have b6 : Sub S S6 := by rw [← hS6]; exact b5.trans (.new hp6)
  generalize hS7 : S6.set p7 _ = S7
  have b7 : Sub S S7 := by rw [← hS7]; exact b6.trans (.new hp7)
  have v7 : S7 p7 = some (.lst ((((U1 ++ U2) ++ U3) ++ U4).map D.str)) := by rw [← hS7]; exact sset_same
  refine ⟨_, rfl, sm (show 4 ≤ 100000 by decide), fun p8 hp8 => ⟨_, _, (Sub.new hp8) _ _ v7, sset_same, sm (show 56 ≤ 100000 by decide), fun p9 hp9 => ?_⟩⟩
  generalize hS8 : S7.set p8 _ = S8 at hp9
  have b8 : Sub S S8 := by rw [← hS8]; exact b7.trans (.new hp8)
  generalize hS9 : S8.set p9 _ = S9
  have b9 : Sub S S9 := by rw [← hS9]; exact b8.trans (.new hp9)
  have v9 : S9 p9 = some (.lst (((((U1 ++ U2) ++ U3) ++ U4) ++ U5).map D.str)) := by rw [← hS9]; exact sset_same
  have hU : ∀ z ∈ (((U1 ++ U2) ++ U3) ++ U4) ++ U5, Tx 62 z := U_ok
  have hUl : ((((U1 ++ U2) ++ U3) ++ U4) ++ U5).length = 56 := rfl
  generalize (((U1 ++ U2) ++ U3) ++ U4) ++ U5 = us at v9 hU hUl
  clear hS1 hS2 hS3 hS4 hS5 hS6 hS7 hS8 hS9 v1 v3 v5 v7
  refine ⟨fun σ' S' => ∃ (pm : Addr) (us : List Str), σ' = [some (.ref l), some (.tup (cs.map colD)), some (.ref pm)] ∧ S' pm = some (.lst (us.map D.str)) ∧ 1 ≤ us.length ∧ us.length ≤ 100 ∧ (∀ u ∈ us, Tx 62 u) ∧ Sub S S', ?_, ?_⟩
  · refine ⟨_, rfl, sm (show 0 ≤ 100000 by decide), eq_nilTN (cols_ly hg) ⟨_, rfl, ?_⟩⟩
    refine ifb (fun _ => ?_) (fun _ => ?_)
    · refine ⟨_, rfl, _, rfl, _, .inl rfl, ?_⟩
      refine comp_map (fun d => match d with | .tup (x :: _) => x | _ => .non) trivial (by show (cs.map colD).length ≤ _; rw [List.length_map]; omega) (fun d hd Q hQ => ?_) fun pn hpn => ?_
      · obtain ⟨c, hc, rfl⟩ := List.mem_map.mp hd
        exact ⟨_, rfl, _, rfl, hQ⟩
      have e5 : (cs.map colD).map (fun d => match d with | .tup (x :: _) => x | _ => .non) = (cs.map Prod.fst).map D.str := by rw [List.map_map, List.map_map]; rfl
      rw [show (⟨cs.map colD, fun _ => True⟩ : ItD).xs = cs.map colD from rfl, e5]
      refine ⟨_, _, (Sub.new hpn) _ _ v9, sset_same, sm (by rw [List.length_map, List.length_map, List.length_map]; omega), fun pm hpm => fo ⟨pm, us ++ cs.map Prod.fst, rfl, ?_, ?_, ?_, fun u hu => ?_, (b9.trans (.new hpn)).trans (.new hpm)⟩⟩
      · rw [sset_same, List.map_append]
      · rw [List.length_append]; omega
      · rw [List.length_append, List.length_map]; omega
      · rcases List.mem_append.mp hu with hu | hu
        · exact hU u hu
        · obtain ⟨c, hc, rfl⟩ := List.mem_map.mp hu
          exact (hctx c hc).1.le (by decide)
    · exact fo ⟨p9, us, rfl, v9, by omega, by omega, hU, b9⟩
  · rintro σ' S' ⟨pm, us, rfl, hm, h1, h100, hu, hs⟩
    have hml : (us.map D.str).length = us.length := List.length_map _
    refine ⟨_, rfl, _, rfl, _, rfl, _, rfl, .inl ⟨_, hm, l, _, rfl, by omega, log_le (by omega) (by omega), hs _ _ hw, fun j hj0 hj1 => ?_⟩⟩
    obtain ⟨jn, rfl⟩ : ∃ jn : Nat, j = (jn : Int) := ⟨j.toNat, by omega⟩
    have hjn : jn < us.length := by omega
    refine ⟨_, _, hm, wd_at hjn rfl, S, hs, q _ (hu _ ?_)⟩
    rw [List.getD_eq_getElem?_getD, List.getElem?_eq_getElem hjn]
    exact List.getElem_mem hjn
theorem ok_spoiled (T : Txt K mg t) : FnD P w K mg base 3 t.f_l_spoiled t.d_l_spoiled ["_law_well_here", "_law_columns_here", "_law_text"] (fun ds S R _ => ∃ (l : Addr) (cs : List (Str × Str)) (z : Str) (n : Nat), ds = [.ref l, .tup (cs.map colD), .str z] ∧ Cg cs ∧ S l = some .well ∧ Tx n z ∧ n ≤ 7000 ∧ ∀ u, Tx (3 * n + 100) u → R (.str u) S) := by
  have G_l_draw : FnD P w K mg base 1 t.f_l_draw t.d_l_draw ["_law_well_here", "_law_most"] spDraw := ok_dr T
  have G_l_menu : FnD P w K mg base 2 t.f_l_menu t.d_l_menu ["_law_well_here", "_law_columns_here"] _ := ok_menu T
  refine T.F_l_spoiled.ok sc_l_spoiled (fun ds S R Z ⟨_, _, _, _, e, _⟩ => by rw [e]; rfl) (fun cdv A outer s H E ds S R Z hr ⟨l, cs, z, n, e, hg, hw, hz, hn, q⟩ => ?_)
  subst e
  have hwt : wt' (spl z) ≤ n + 1 := by have := spl_weight z; have := hz.1; unfold wt'; have e : z.length = z.cps.size := rfl; omega
  have hso : ∀ u ∈ spl z, PyData.strOk u = true := fun u hu => spl_ok hu hz.2
  have hsp := spl_pos z
  have hsl := spl_len z
  have hzl : z.length = z.cps.size := rfl
  have hz1 := hz.1
  refine ⟨_, (sc (st_ (i := 3) sc_l_spoiled.nd (bm PySem.F.plainAttrs_str PySem.F.slot_str_split PySem.F.type_str_split m_split (dv 2) (ac ds an))) (sc (st_ (i := 4) sc_l_spoiled.nd (cf (G_l_draw.mono (by decide)) hr T.mg_l_draw T.k_l_draw T.b_l_draw d0 (ac (dv 0) (ac (cb c_len T.n_len bt_len (ac (dv 3) an)) an)))) (sc (st_ (i := 5) sc_l_spoiled.nd (cf (G_l_draw.mono (by decide)) hr T.mg_l_draw T.k_l_draw T.b_l_draw d0 (ac (dv 0) (ac di an)))) (sc (si (tcm o_eq hr.units (dv 5) di) (s1 (sr (bm PySem.F.plainAttrs_str PySem.F.slot_str_join PySem.F.type_str_join m_join ds (ac (bo o_add hr.units (sl (dv 3) o0 (o1 (dv 4))) (sl (dv 3) (o1 (bo o_add hr.units (dv 4) di)) o0)) an)))) s0) (sc (si (tcm o_eq hr.units (dv 5) di) (s1 (sr (bm PySem.F.plainAttrs_str PySem.F.slot_str_join PySem.F.type_str_join m_join ds (ac (bo o_add hr.units (sl (dv 3) o0 (o1 (bo o_add hr.units (dv 4) di))) (sl (dv 3) (o1 (dv 4)) o0)) an)))) s0) (sc (si (tcm o_eq hr.units (dv 5) di) (s1 (sr (bm PySem.F.plainAttrs_str PySem.F.slot_str_join PySem.F.type_str_join m_join ds (ac (bo o_add hr.units (bo o_add hr.units (sl (dv 3) o0 (o1 (dv 4))) (elst (ac (cf (G_l_menu.mono (by decide)) hr T.mg_l_menu T.k_l_menu T.b_l_menu d0 (ac (dv 0) (ac (dv 1) an))) an))) (sl (dv 3) (o1 (dv 4)) o0)) an)))) s0) (sc (si (tcm o_eq hr.units (dv 5) di) (sc (st_ (i := 6) sc_l_spoiled.nd (cf (G_l_draw.mono (by decide)) hr T.mg_l_draw T.k_l_draw T.b_l_draw d0 (ac (dv 0) (ac (cb c_len T.n_len bt_len (ac (dv 3) an)) an)))) (s1 (sr (bm PySem.F.plainAttrs_str PySem.F.slot_str_join PySem.F.type_str_join m_join ds (ac (bo o_add hr.units (bo o_add hr.units (sl (dv 3) o0 (o1 (dv 4))) (elst (ac (ix hr.units (dv 3) (dv 6)) an))) (sl (dv 3) (o1 (bo o_add hr.units (dv 4) di)) o0)) an))))) s0) (s1 (sr (bm PySem.F.plainAttrs_str PySem.F.slot_str_join PySem.F.type_str_join m_join ds (ac (bo o_add hr.units (bo o_add hr.units (sl (dv 3) o0 (o1 (dv 4))) (elst (ac (cf (G_l_menu.mono (by decide)) hr T.mg_l_menu T.k_l_menu T.b_l_menu d0 (ac (dv 0) (ac (dv 1) an))) an))) (sl (dv 3) (o1 (bo o_add hr.units (dv 4) di)) o0)) an))))))))))), ?_⟩
  refine ⟨_, rfl, rfl, z, " ", rfl, rfl, rfl, by rw [sizeLine_eq]; omega, fun p hp => ?_⟩
  rw [show Txt.split z " " = spl z from rfl]
  generalize spl z = ws at *
  have hml : (ws.map D.str).length = ws.length := List.length_map _
  have hS1 : (S.set p (.lst (ws.map D.str))) p = some (.lst (ws.map D.str)) := sset_same
  have sb : Sub S (S.set p (.lst (ws.map D.str))) := .new hp
  generalize S.set p (.lst (ws.map D.str)) = S1 at hS1 sb ⊢
  have hW := sb _ _ hw
  have fin : ∀ (us : List Str) (S' : Sto), Sub S S' → (∀ u ∈ us, PyData.strOk u = true) → wt' us ≤ 3 * n + 100 → JoinOk " " us = true ∧ Fo S' (R (.str (Txt.join " " us))) := fun us S' hs h1 h2 => ⟨(join_go h1 h2 (by omega)).1, S, hs, q _ (join_go h1 h2 (by omega)).2⟩
  have cw : ∀ lo hi, wt' (cutL ws lo hi) ≤ n + 1 := fun lo hi => Nat.le_trans (wt_sub (cut_sub ws lo hi)) hwt
  have cl : ∀ lo hi, (cutL ws lo hi).length ≤ n + 1 := fun lo hi => by have := (cut_sub ws lo hi).length_le; omega
  have co : ∀ lo hi, ∀ u ∈ cutL ws lo hi, PyData.strOk u = true := fun lo hi u hu => hso u ((cut_sub ws lo hi).subset hu)
  have two : ∀ (lo hi lo' hi' : Option Int) (S' : Sto), Sub S S' → JoinOk " " (cutL ws lo hi ++ cutL ws lo' hi') = true ∧ Fo S' (R (.str (Txt.join " " (cutL ws lo hi ++ cutL ws lo' hi')))) := fun lo hi lo' hi' S' hs =>
    fin _ S' hs (fun u hu => (List.mem_append.mp hu).elim (co _ _ u) (co _ _ u)) (by rw [wt_app]; have := cw lo hi; have := cw lo' hi'; omega)
  have three : ∀ (lo hi lo' hi' : Option Int) (x : Str) (S' : Sto), PyData.strOk x = true → wt' [x] ≤ n + 64 → Sub S S' → JoinOk " " ((cutL ws lo hi ++ [x]) ++ cutL ws lo' hi') = true ∧ Fo S' (R (.str (Txt.join " " ((cutL ws lo hi ++ [x]) ++ cutL ws lo' hi')))) := fun lo hi lo' hi' x S' hx hxw hs =>
    fin _ S' hs (fun u hu => by
      rcases List.mem_append.mp hu with hu | hu
      · rcases List.mem_append.mp hu with hu | hu
        · exact co _ _ u hu
        · rw [List.mem_singleton.mp hu]; exact hx
      · exact co _ _ u hu) (by rw [wt_app, wt_app]; have := cw lo hi; have := cw lo' hi'; omega)
  refine ⟨_, rfl, _, rfl, _, rfl, .inl ⟨_, hS1, l, _, rfl, by omega, log_le (by omega) (by omega), hW, fun at_ ha0 ha1 => ?_⟩⟩
  refine ⟨_, rfl, l, _, rfl, (by decide), (by decide), hW, fun way hw0 hw1 => ?_⟩
  refine ⟨_, rfl, _, rfl, ifb (fun _ => ?_) (fun _ => ?_)⟩
  · refine ⟨rfl, _, rfl, _, rfl, _, rfl, _, hS1, fun p2 hp2 => ?_⟩
    rw [cut_strs]
    refine ⟨_, rfl, _, rfl, _, rfl, _, (Sub.new hp2) _ _ hS1, fun p3 hp3 => ?_⟩
    rw [cut_strs]
    refine ⟨_, _, (Sub.new hp3) _ _ sset_same, sset_same, sm (by rw [List.length_map, List.length_map]; have := cl none (some at_); have := cl (some (at_ + 1)) none; omega), fun p4 hp4 => ?_⟩
    obtain ⟨j1, j2⟩ := two none (some at_) (some (at_ + 1)) none _ (((sb.trans (.new (c := .lst ((cutL ws none (some at_)).map D.str)) hp2)).trans (.new (c := .lst ((cutL ws (some (at_ + 1)) none).map D.str)) hp3)).trans (.new (c := .lst ((cutL ws none (some at_)).map D.str ++ (cutL ws (some (at_ + 1)) none).map D.str)) hp4))
    exact ⟨" ", cutL ws none (some at_) ++ cutL ws (some (at_ + 1)) none, _, rfl, rfl, (by show _ = _; rw [sset_same]; simp only [List.map_append]), j1, j2⟩
  refine ⟨_, rfl, _, rfl, ifb (fun _ => ?_) (fun _ => ?_)⟩
  · refine ⟨rfl, _, rfl, _, rfl, _, rfl, _, hS1, fun p2 hp2 => ?_⟩
    rw [cut_strs]
    refine ⟨_, rfl, _, rfl, _, rfl, _, (Sub.new hp2) _ _ hS1, fun p3 hp3 => ?_⟩
    rw [cut_strs]
    refine ⟨_, _, (Sub.new hp3) _ _ sset_same, sset_same, sm (by rw [List.length_map, List.length_map]; have := cl none (some (at_ + 1)); have := cl (some at_) none; omega), fun p4 hp4 => ?_⟩
    obtain ⟨j1, j2⟩ := two none (some (at_ + 1)) (some at_) none _ (((sb.trans (.new (c := .lst ((cutL ws none (some (at_ + 1))).map D.str)) hp2)).trans (.new (c := .lst ((cutL ws (some at_) none).map D.str)) hp3)).trans (.new (c := .lst ((cutL ws none (some (at_ + 1))).map D.str ++ (cutL ws (some at_) none).map D.str)) hp4))
    exact ⟨" ", cutL ws none (some (at_ + 1)) ++ cutL ws (some at_) none, _, rfl, rfl, (by show _ = _; rw [sset_same]; simp only [List.map_append]), j1, j2⟩
  refine ⟨_, rfl, _, rfl, ifb (fun _ => ?_) (fun _ => ?_)⟩
  · skip
    refine ⟨rfl, _, rfl, _, rfl, _, rfl, _, hS1, fun p2 hp2 => ?_⟩
    rw [cut_strs]
    have v2 : (S1.set p2 (.lst ((cutL ws none (some at_)).map D.str))) p2 = some (.lst ((cutL ws none (some at_)).map D.str)) := sset_same
    have s2 := sb.trans (.new (c := .lst ((cutL ws none (some at_)).map D.str)) hp2)
    have w2 := (Sub.new (c := .lst ((cutL ws none (some at_)).map D.str)) hp2) _ _ hS1
    generalize S1.set p2 (.lst ((cutL ws none (some at_)).map D.str)) = S2 at v2 s2 w2 ⊢
    refine ⟨_, rfl, _, rfl, l, cs, rfl, hg, s2 _ _ hw, fun x hx => ⟨sm (show 1 ≤ 100000 by decide), fun p3 hp3 => ⟨_, _, (Sub.new hp3) _ _ v2, sset_same, sm (by rw [List.length_map]; have := cl none (some at_); show _ + 1 ≤ _; omega), fun p4 hp4 => ?_⟩⟩⟩
    have hxo := hx.2
    have hxw : wt' [x] ≤ n + 64 := by rw [wt_one]; have := hx.1; have e : x.length = x.cps.size := rfl; omega
    generalize hS3 : S2.set p3 _ = S3 at hp4
    have s3 : Sub S S3 := by rw [← hS3]; exact s2.trans (.new hp3)
    have w3 : S3 p = some (.lst (ws.map D.str)) := by rw [← hS3]; exact (Sub.new hp3) _ _ w2
    generalize hS4 : S3.set p4 _ = S4
    have s4 : Sub S S4 := by rw [← hS4]; exact s3.trans (.new hp4)
    have w4 : S4 p = some (.lst (ws.map D.str)) := by rw [← hS4]; exact (Sub.new hp4) _ _ w3
    have v4 : S4 p4 = some (.lst ((cutL ws none (some at_) ++ [x]).map D.str)) := by rw [← hS4, sset_same, List.map_append]; rfl
    refine ⟨_, rfl, _, rfl, _, rfl, _, w4, fun p5 hp5 => ?_⟩
    rw [cut_strs]
    refine ⟨_, _, (Sub.new hp5) _ _ v4, sset_same, sm (by rw [List.length_map, List.length_map, List.length_append]; have := cl none (some at_); have := cl (some at_) none; show _ + 1 + _ ≤ _; omega), fun p6 hp6 => ?_⟩
    obtain ⟨j1, j2⟩ := three none (some at_) (some at_) none x _ hxo hxw ((s4.trans (.new (c := .lst ((cutL ws (some at_) none).map D.str)) hp5)).trans (.new (c := .lst ((cutL ws none (some at_) ++ [x]).map D.str ++ (cutL ws (some at_) none).map D.str)) hp6))
    exact ⟨" ", (cutL ws none (some at_) ++ [x]) ++ cutL ws (some at_) none, _, rfl, rfl, (by show _ = _; rw [sset_same]; simp only [List.map_append]), j1, j2⟩
  refine ⟨_, rfl, _, rfl, ifb (fun _ => ?_) (fun _ => ?_)⟩
  · refine ⟨_, rfl, _, rfl, _, rfl, .inl ⟨_, hS1, l, _, rfl, by omega, log_le (by omega) (by omega), hW, fun ot ho0 ho1 => ?_⟩⟩
    refine ⟨rfl, _, rfl, _, rfl, _, rfl, _, hS1, fun p2 hp2 => ?_⟩
    rw [cut_strs]
    have v2 : (S1.set p2 (.lst ((cutL ws none (some at_)).map D.str))) p2 = some (.lst ((cutL ws none (some at_)).map D.str)) := sset_same
    have s2 := sb.trans (.new (c := .lst ((cutL ws none (some at_)).map D.str)) hp2)
    have w2 := (Sub.new (c := .lst ((cutL ws none (some at_)).map D.str)) hp2) _ _ hS1
    generalize S1.set p2 (.lst ((cutL ws none (some at_)).map D.str)) = S2 at v2 s2 w2 ⊢
    have hotn : ot.toNat < ws.length := by omega
    obtain ⟨x, hx⟩ : ∃ x, x = ws.getD ot.toNat "" := ⟨_, rfl⟩
    have hxm : x ∈ ws := by rw [hx, List.getD_eq_getElem?_getD, List.getElem?_eq_getElem hotn]; exact List.getElem_mem hotn
    refine ⟨_, rfl, _, rfl, _, _, w2, wd_at hotn (by omega), sm (show 1 ≤ 100000 by decide), fun p3 hp3 => ⟨_, _, (Sub.new hp3) _ _ v2, sset_same, sm (by rw [List.length_map]; have := cl none (some at_); show _ + 1 ≤ _; omega), fun p4 hp4 => ?_⟩⟩
    rw [← hx] at hp4 ⊢
    have hxo := hso x hxm
    have hxw : wt' [x] ≤ n + 64 := by
      have := wt_sub (List.singleton_sublist.mpr hxm)
      omega
    generalize hS3 : S2.set p3 _ = S3 at hp4
    have s3 : Sub S S3 := by rw [← hS3]; exact s2.trans (.new hp3)
    have w3 : S3 p = some (.lst (ws.map D.str)) := by rw [← hS3]; exact (Sub.new hp3) _ _ w2
    generalize hS4 : S3.set p4 _ = S4
    have s4 : Sub S S4 := by rw [← hS4]; exact s3.trans (.new hp4)
    have w4 : S4 p = some (.lst (ws.map D.str)) := by rw [← hS4]; exact (Sub.new hp4) _ _ w3
    have v4 : S4 p4 = some (.lst ((cutL ws none (some at_) ++ [x]).map D.str)) := by rw [← hS4, sset_same, List.map_append]; rfl
    refine ⟨_, rfl, _, rfl, _, rfl, _, w4, fun p5 hp5 => ?_⟩
    rw [cut_strs]
    refine ⟨_, _, (Sub.new hp5) _ _ v4, sset_same, sm (by rw [List.length_map, List.length_map, List.length_append]; have := cl none (some at_); have := cl (some (at_ + 1)) none; show _ + 1 + _ ≤ _; omega), fun p6 hp6 => ?_⟩
    obtain ⟨j1, j2⟩ := three none (some at_) (some (at_ + 1)) none x _ hxo hxw ((s4.trans (.new (c := .lst ((cutL ws (some (at_ + 1)) none).map D.str)) hp5)).trans (.new (c := .lst ((cutL ws none (some at_) ++ [x]).map D.str ++ (cutL ws (some (at_ + 1)) none).map D.str)) hp6))
    exact ⟨" ", (cutL ws none (some at_) ++ [x]) ++ cutL ws (some (at_ + 1)) none, _, rfl, rfl, (by show _ = _; rw [sset_same]; simp only [List.map_append]), j1, j2⟩
  · skip
    refine ⟨rfl, _, rfl, _, rfl, _, rfl, _, hS1, fun p2 hp2 => ?_⟩
    rw [cut_strs]
    have v2 : (S1.set p2 (.lst ((cutL ws none (some at_)).map D.str))) p2 = some (.lst ((cutL ws none (some at_)).map D.str)) := sset_same
    have s2 := sb.trans (.new (c := .lst ((cutL ws none (some at_)).map D.str)) hp2)
    have w2 := (Sub.new (c := .lst ((cutL ws none (some at_)).map D.str)) hp2) _ _ hS1
    generalize S1.set p2 (.lst ((cutL ws none (some at_)).map D.str)) = S2 at v2 s2 w2 ⊢
    refine ⟨_, rfl, _, rfl, l, cs, rfl, hg, s2 _ _ hw, fun x hx => ⟨sm (show 1 ≤ 100000 by decide), fun p3 hp3 => ⟨_, _, (Sub.new hp3) _ _ v2, sset_same, sm (by rw [List.length_map]; have := cl none (some at_); show _ + 1 ≤ _; omega), fun p4 hp4 => ?_⟩⟩⟩
    have hxo := hx.2
    have hxw : wt' [x] ≤ n + 64 := by rw [wt_one]; have := hx.1; have e : x.length = x.cps.size := rfl; omega
    generalize hS3 : S2.set p3 _ = S3 at hp4
    have s3 : Sub S S3 := by rw [← hS3]; exact s2.trans (.new hp3)
    have w3 : S3 p = some (.lst (ws.map D.str)) := by rw [← hS3]; exact (Sub.new hp3) _ _ w2
    generalize hS4 : S3.set p4 _ = S4
    have s4 : Sub S S4 := by rw [← hS4]; exact s3.trans (.new hp4)
    have w4 : S4 p = some (.lst (ws.map D.str)) := by rw [← hS4]; exact (Sub.new hp4) _ _ w3
    have v4 : S4 p4 = some (.lst ((cutL ws none (some at_) ++ [x]).map D.str)) := by rw [← hS4, sset_same, List.map_append]; rfl
    refine ⟨_, rfl, _, rfl, _, rfl, _, w4, fun p5 hp5 => ?_⟩
    rw [cut_strs]
    refine ⟨_, _, (Sub.new hp5) _ _ v4, sset_same, sm (by rw [List.length_map, List.length_map, List.length_append]; have := cl none (some at_); have := cl (some (at_ + 1)) none; show _ + 1 + _ ≤ _; omega), fun p6 hp6 => ?_⟩
    obtain ⟨j1, j2⟩ := three none (some at_) (some (at_ + 1)) none x _ hxo hxw ((s4.trans (.new (c := .lst ((cutL ws (some (at_ + 1)) none).map D.str)) hp5)).trans (.new (c := .lst ((cutL ws none (some at_) ++ [x]).map D.str ++ (cutL ws (some (at_ + 1)) none).map D.str)) hp6))
    exact ⟨" ", (cutL ws none (some at_) ++ [x]) ++ cutL ws (some (at_ + 1)) none, _, rfl, rfl, (by show _ = _; rw [sset_same]; simp only [List.map_append]), j1, j2⟩
end
end My
namespace My
open PySem L2
def toldD (z : Str) : D := if z = "-" then .non else if z.cps.toList.head? = some 35 then .int ((intText? (Txt.slice z (some 1) none)).getD 0) else .str (unS (Txt.slice z (some 1) none))
theorem told_eq {z : Str} {d : D} (h : Told z d) : d = toldD z := by
  unfold toldD
  rcases h with ⟨rfl, rfl⟩ | ⟨h1, n, hn, hr, _, rfl⟩ | ⟨h1, rfl⟩
  · rw [if_pos rfl]
  · rw [if_neg (fun e => by rw [e, dash1] at h1; cases h1), if_pos h1, hr]; rfl
  · rw [if_neg (fun e => by rw [e, dash1] at h1; cases h1), if_neg (by rw [h1]; decide)]
theorem comp_mapX {I : ItD} {S1 : Sto} {g : TGd} {te : TD} {σ : SD} {src : List (Option Nat)} {R : KD} {Z : KX} (good : D → Bool) (f : D → D) (hok : I.ok S1) (hz : I.xs.length ≤ 100000)
    (step : ∀ d, d ∈ I.xs → ∀ Q : KD, (good d = true → Q (f d) S1) → g d (pickD σ src) S1 fun σ3 S3 => te σ3 S3 Q Z) (fin : (∀ d ∈ I.xs, good d = true) → ∀ p, S1 p = none → R (.ref p) (S1.set p (.lst (I.xs.map f)))) :
    CompPX σ src g dTrue te R Z I S1 := by
  refine ⟨fun i out S => S = S1 ∧ out = (I.xs.take i).map f ∧ ∀ d ∈ I.xs.take i, good d = true, ⟨rfl, rfl, fun _ h => (nomatch h)⟩, fun i out S h => by rw [h.1]; exact hok, ?_, ?_⟩
  · rintro i d out S hd ⟨rfl, rfl, hg⟩
    refine ⟨smallB (by rw [List.length_map, List.length_take]; omega), ?_⟩
    have e : (fun (σ3 : SD) (S3 : Sto) => dTrue σ3 S3 (fun b S4 => if b = true then te σ3 S4 (fun v S5 => S5 = S ∧ (I.xs.take i).map f ++ [v] = (I.xs.take (i + 1)).map f ∧ ∀ d ∈ I.xs.take (i + 1), good d = true) Z else S4 = S ∧ (I.xs.take i).map f = (I.xs.take (i + 1)).map f ∧ ∀ d ∈ I.xs.take (i + 1), good d = true) Zf) = fun σ3 S3 => te σ3 S3 (fun v S5 => S5 = S ∧ (I.xs.take i).map f ++ [v] = (I.xs.take (i + 1)).map f ∧ ∀ d ∈ I.xs.take (i + 1), good d = true) Z := by
      funext σ3 S3
      simp [dTrue]
    rw [e]
    refine step d (List.mem_of_getElem? hd) _ fun hgd => ⟨rfl, by rw [take_snoc hd, List.map_append]; rfl, fun x hx => ?_⟩
    rw [take_snoc hd] at hx
    rcases List.mem_append.mp hx with hx | hx
    · exact hg x hx
    · rw [List.mem_singleton.mp hx]; exact hgd
  · rintro out S2 ⟨rfl, rfl, hg⟩
    rw [List.take_length] at hg ⊢
    exact fin hg
def goodS : D → Bool
  | .str z => valT z.cps.toList
  | _ => false
def tellS : D → D
  | .str z => toldD z
  | _ => .non
def rI : D → Option (Str × List D)
  | .str z => if brk ((spl z).take 1) || !(((spl z).drop 1).all fun u => valT u.cps.toList) then none else some ((spl z).getD 0 "", ((spl z).drop 1).map toldD)
  | _ => none
section
variable {P : Program} {w : World} {K : PySem.W.Frag} {mg : Str → Option Value} {base : Heap} {t : Adr}
theorem ok_row_in (T : Txt K mg t) : FnD P w K mg base 5 t.f_row_in t.d_row_in ["text"] (fun ds S R Z => ∃ d, ds = [d] ∧ Rd S d ∧ (∀ r, rI d = some r → R (.tup [.str r.1, .tup r.2]) S) ∧ (rI d = none → Z t.c_NoText S)) := by
  have G_words_of : FnD P w K mg base 1 t.f_words_of t.d_words_of ["text"] _ := ok_words_of T
  have G_check_names : FnD P w K mg base 1 t.f_check_names t.d_check_names ["words"] _ := ok_check_names T
  have G_value_in_word : FnD P w K mg base 4 t.f_value_in_word t.d_value_in_word ["word"] _ := ok_value_in_word T
  refine T.F_row_in.okX sc_row_in (fun ds S R Z ⟨_, e, _⟩ => by rw [e]; rfl) (fun cdv A outer s H E ds S R Z hr ⟨d, e, hd, q1, q2⟩ => ?_)
  subst e
  refine ⟨_, (scx (st_ (i := 1) sc_row_in.nd (cf (G_words_of.mono (by decide)) hr T.mg_words_of T.k_words_of T.b_words_of d0 (ac (dv 0) an))) (scx (se (cf (G_check_names.mono (by decide)) hr T.mg_check_names T.k_check_names T.b_check_names d0 (ac (sl (dv 1) o0 (o1 di)) an))) (srx (etupx (acx (ix hr.units (dv 1) di) (acy (ctx c_tuple T.n_tuple bt_tuple (acy (ecox (N := ["word"]) (src := [none]) (csc (defScope s_row_in) ["text", "words"] rfl rfl (by decide +kernel)) (il (sl (dv 1) (o1 di) o0)) (cg1 (show (["word"] : List Str).Nodup by decide +kernel)) (gx_name rfl) gd_name (fun _ _ _ _ _ => if0) (fun _ _ _ _ _ => (cf (G_value_in_word.mono (by decide)) hr T.mg_value_in_word T.k_value_in_word T.b_value_in_word d0 (ac (dv 0) an)))) an)) an)))))), ?_⟩
  refine ⟨_, rfl, d, rfl, hd, fun z ez p hp => ?_, fun hn => fo (q2 ?_)⟩
  · subst ez
    have hz := hd.2 z rfl
    have hsp := spl_pos z
    have hsl := spl_len z
    have hzl : z.length = z.cps.size := rfl
    have hmem : ∀ u ∈ spl z, u.cps.size ≤ 90000 := fun u hu => Nat.le_trans (spl_mem hu) hz.1
    have er : rI (.str z) = if brk ((spl z).take 1) || !(((spl z).drop 1).all fun u => valT u.cps.toList) then none else some ((spl z).getD 0 "", ((spl z).drop 1).map toldD) := rfl
    generalize spl z = ws at *
    have hS : (S.set p (.lst (ws.map D.str))) p = some (.lst (ws.map D.str)) := sset_same
    have g0 : Sub S (S.set p (.lst (ws.map D.str))) := .new hp
    generalize S.set p (.lst (ws.map D.str)) = S1 at hS g0 ⊢
    have e1 : cutL (ws.map D.str) none (some 1) = (ws.take 1).map D.str := by
      unfold cutL
      rw [HT.sIx_none, show HT.sIx (ws.map D.str).length (ws.map D.str).length (some 1) = min 1 (ws.map D.str).length from HT.sIx_nat _ _ 1, List.drop_zero, Nat.sub_zero, List.length_map, Nat.min_eq_left hsp, List.map_take]
    refine ⟨_, rfl, _, rfl, _, hS, fun p1 hp1 => ?_⟩
    rw [e1]
    have g1 := g0.trans (Sub.new (c := .lst ((ws.take 1).map D.str)) hp1)
    have h1 := (Sub.new (c := .lst ((ws.take 1).map D.str)) hp1) _ _ hS
    refine ⟨p1, ws.take 1, rfl, sset_same, fun hb => ?_, fun hb => ⟨S, g1, q2 (by rw [er, hb]; rfl)⟩⟩
    generalize S1.set p1 (.lst ((ws.take 1).map D.str)) = S2 at g1 h1 ⊢
    rw [hb, Bool.false_or] at er
    refine ⟨_, rfl, _, _, h1, wd_at (i := 0) (by omega) rfl, _, rfl, _, rfl, _, h1, fun p2 hp2 => ⟨_, sset_same, ?_⟩⟩
    rw [cut_one]
    have g2 := g1.trans (Sub.new (c := .lst ((ws.map D.str).drop 1)) hp2)
    refine comp_mapX goodS tellS sset_same (by show ((ws.map D.str).drop 1).length ≤ _; rw [List.length_drop, List.length_map]; omega) (fun d hdm Q hQ => ?_) fun hall p3 hp3 => ?_
    · obtain ⟨u, hu, rfl⟩ := List.mem_map.mp (List.mem_of_mem_drop hdm)
      refine ⟨_, rfl, u, rfl, hmem u hu, fun hv d ht _ => ?_, fun hv => ⟨S, g2, q2 ?_⟩⟩
      · rw [told_eq ht]; exact hQ hv
      · rw [er]
        have : (ws.drop 1).all (fun u => valT u.cps.toList) = false := by
          cases z : (ws.drop 1).all (fun u => valT u.cps.toList) with
          | false => rfl
          | true =>
            rw [← List.map_drop] at hdm
            obtain ⟨u', hu', e⟩ := List.mem_map.mp hdm
            injection e with e
            rw [← e] at hv
            rw [List.all_eq_true.mp z u' hu'] at hv; cases hv
        rw [this]; rfl
    · have hall : (ws.drop 1).all (fun u => valT u.cps.toList) = true := List.all_eq_true.mpr fun u hu => hall (.str u) (by
        show D.str u ∈ (ws.map D.str).drop 1
        rw [← List.map_drop]; exact List.mem_map.mpr ⟨u, hu, rfl⟩)
      rw [hall] at er
      refine ⟨_, _, rfl, .inl sset_same, sm (show 2 ≤ 100000 by decide), S, g2.trans (.new hp3), ?_⟩
      have em : ((ws.map D.str).drop 1).map tellS = (ws.drop 1).map toldD := by rw [← List.map_drop, List.map_map]; rfl
      show R (.tup [.str (ws.getD 0 ""), .tup (((ws.map D.str).drop 1).map tellS)]) S
      rw [em]
      exact q1 _ er
  · cases d with
    | str z => exact absurd rfl (hn z)
    | _ => rfl
theorem ok_read_row (T : Txt K mg t) : FnD P w K mg base 6 t.f_read_row t.d_read_row ["columns", "text"] (fun ds S R Z => ∃ cs d, ds = [.tup (cs.map colD), d] ∧ cs.length ≤ 8 ∧ Rd S d ∧ (∀ r, rI d = some r → rowB cs (.str r.1) (.tup r.2) = true → R (.tup [.str r.1, .tup r.2]) S) ∧ (∀ r, rI d = some r → rowB cs (.str r.1) (.tup r.2) = false → Z t.c_BadRow S) ∧ (rI d = none → Z t.c_NoText S)) := by
  have G_row_in : FnD P w K mg base 5 t.f_row_in t.d_row_in ["text"] _ := ok_row_in T
  have G_check_row : FnD P w K mg base 5 t.f_check_row t.d_check_row ["columns", "row"] _ := ok_check_row T
  refine T.F_read_row.ok sc_read_row (fun ds S R Z ⟨_, _, e, _⟩ => by rw [e]; rfl) (fun cdv A outer s H E ds S R Z hr ⟨cs, d, e, hl, hd, q1, q2, q3⟩ => ?_)
  subst e
  refine ⟨_, (sc (st_ (i := 2) sc_read_row.nd (cf (G_row_in.mono (by decide)) hr T.mg_row_in T.k_row_in T.b_row_in d0 (ac (dv 1) an))) (sc (se (cf (G_check_row.mono (by decide)) hr T.mg_check_row T.k_check_row T.b_check_row d0 (ac (dv 0) (ac (dv 2) an)))) (s1 (sr (dv 2))))), ?_⟩
  refine ⟨_, rfl, d, rfl, hd, fun r hri => ?_, fun hn => fo (q3 hn)⟩
  have hgt : Gt S (.str r.1) ∧ Gts S (.tup r.2) := by
    cases d with
    | str z =>
      have hz := hd.2 z rfl
      have hri : (if brk ((spl z).take 1) || !(((spl z).drop 1).all fun u => valT u.cps.toList) then none else some ((spl z).getD 0 "", ((spl z).drop 1).map toldD)) = some r := hri
      split at hri
      · cases hri
      · rename_i hb
        cases hri
        have hall : ((spl z).drop 1).all (fun u => valT u.cps.toList) = true := by
          cases q : ((spl z).drop 1).all (fun u => valT u.cps.toList) with
          | true => rfl
          | false => exact absurd (by rw [q, Bool.not_false, Bool.or_true]) hb
        have hsl := spl_len z
        have hzl : z.length = z.cps.size := rfl
        refine ⟨gt_str ?_, ⟨⟨.tup, rfl⟩, fun _ e => (by cases e)⟩, fun vs e => ?_⟩
        · have hm : (spl z).getD 0 "" ∈ spl z := by
            rw [List.getD_eq_getElem?_getD, List.getElem?_eq_getElem (spl_pos z)]
            exact List.getElem_mem _
          have h1 := spl_mem hm
          show ((spl z).getD 0 "").length ≤ _
          omega
        · cases e
          refine ⟨by rw [List.length_map, List.length_drop]; omega, fun v hv => ?_⟩
          obtain ⟨u, hu, rfl⟩ := List.mem_map.mp hv
          obtain ⟨d, h1, h2⟩ := valT_told (List.all_eq_true.mp hall u hu)
          rw [← told_eq h1]
          rcases h2 with rfl | ⟨n, rfl, _⟩ | ⟨y, rfl, hy⟩
          · exact ⟨⟨.non, rfl⟩, fun _ e => (by cases e)⟩
          · exact ⟨⟨.int, rfl⟩, fun _ e => (by cases e)⟩
          · exact gt_str (Nat.le_trans (word_signs hy).1 (by decide))
    | _ => cases hri
  refine ⟨_, rfl, _, rfl, cs, .str r.1, .tup r.2, rfl, hl, hgt.1, hgt.2, fun hb => ?_, fun hb => fo (q2 r hri hb)⟩
  exact ⟨_, rfl, fo (q1 r hri hb)⟩
end
end My
namespace My
open PySem L2
def rF (cs : List (Str × Str)) (d : D) : D := match rI d with
  | none => .str "text"
  | some r => if rowB cs (.str r.1) (.tup r.2) = true then .tup [.str r.1, .tup r.2] else .str "row"
structure XM (K : PySem.W.Frag) (t : Adr) (C : Addr) (b1 b2 : Bool) : Prop where
  xc : XC K C
  xa : XA K C
  m : PySem.W.mroIn K C (.ref t.c_PageError) = some true
  k1 : PySem.W.kitOne K (.ref C) (.ref t.c_NoText) = some b1
  k2 : PySem.W.kitOne K (.ref C) (.ref t.c_BadRow) = some b2
  k3 : PySem.W.kitOne K (.ref C) (.ref t.c_BadOrder) = some false
  k4 : PySem.W.kitOne K (.ref C) (.ref t.c_BadSieve) = some false
  k5 : PySem.W.kitOne K (.ref C) (.ref t.c_BadColumns) = some false
  k6 : PySem.W.kitOne K (.ref C) (.ref t.c_NoMark) = some false
  v : PySem.W.kitOne K (.ref C) (.type "ValueError") = some true
section
variable {P : Program} {w : World} {K : PySem.W.Frag} {mg : Str → Option Value} {base : Heap} {t : Adr}
theorem xm_NoText (T : Txt K mg t) : XM K t t.c_NoText true false := ⟨⟨T.x_NoText⟩, ⟨T.ga_NoText, T.gh_NoText, T.gc_NoText⟩, T.m_NoText_PageError, T.k_NoText_NoText, T.k_NoText_BadRow, T.k_NoText_BadOrder, T.k_NoText_BadSieve, T.k_NoText_BadColumns, T.k_NoText_NoMark, T.k_NoText_ValueError⟩
theorem xm_BadRow (T : Txt K mg t) : XM K t t.c_BadRow false true := ⟨⟨T.x_BadRow⟩, ⟨T.ga_BadRow, T.gh_BadRow, T.gc_BadRow⟩, T.m_BadRow_PageError, T.k_BadRow_NoText, T.k_BadRow_BadRow, T.k_BadRow_BadOrder, T.k_BadRow_BadSieve, T.k_BadRow_BadColumns, T.k_BadRow_NoMark, T.k_BadRow_ValueError⟩
theorem ok_found (T : Txt K mg t) : FnD P w K mg base 7 t.f_l_found t.d_l_found ["_law_columns_here", "_law_text"] (fun ds S R _ => ∃ cs d, ds = [.tup (cs.map colD), d] ∧ cs.length ≤ 8 ∧ Rd S d ∧ R (rF cs d) S) := by
  have G_read_row : FnD P w K mg base 6 t.f_read_row t.d_read_row ["columns", "text"] _ := ok_read_row T
  refine T.F_l_found.ok sc_l_found (fun ds S R Z ⟨_, _, e, _⟩ => by rw [e]; rfl) (fun cdv A outer s H E ds S R Z hr ⟨cs, d, e, hl, hd, q⟩ => ?_)
  subst e
  refine ⟨_, (sc (scf (stry (i := 2) sc_l_found.nd T.mg_PageError ⟨T.x_PageError⟩ (s1 (st_ (i := 3) sc_l_found.nd (cf (G_read_row.mono (by decide)) hr T.mg_read_row T.k_read_row T.b_read_row d0 (ac (dv 0) (ac (dv 1) an))))) (fun _ => (sc (st_ (i := 4) sc_l_found.nd (elst (ac (cbn c_isx T.n_isinstance bt_isinstance (ac (dv 2) (ac (dg (v := .ref t.c_NoText) T.mg_NoText rfl fun _ => rv_ref _) an))) (ac (cbn c_isx T.n_isinstance bt_isinstance (ac (dv 2) (ac (dg (v := .ref t.c_BadRow) T.mg_BadRow rfl fun _ => rv_ref _) an))) (ac (cbn c_isx T.n_isinstance bt_isinstance (ac (dv 2) (ac (dg (v := .ref t.c_BadOrder) T.mg_BadOrder rfl fun _ => rv_ref _) an))) (ac (cbn c_isx T.n_isinstance bt_isinstance (ac (dv 2) (ac (dg (v := .ref t.c_BadSieve) T.mg_BadSieve rfl fun _ => rv_ref _) an))) an)))))) (sc (st_ (i := 4) sc_l_found.nd (bo o_add hr.units (dv 4) (elst (ac (cbn c_isx T.n_isinstance bt_isinstance (ac (dv 2) (ac (dg (v := .ref t.c_BadColumns) T.mg_BadColumns rfl fun _ => rv_ref _) an))) (ac (cbn c_isx T.n_isinstance bt_isinstance (ac (dv 2) (ac (dg (v := .ref t.c_NoMark) T.mg_NoMark rfl fun _ => rv_ref _) an))) an))))) (sc (si (twd (twor (tcm o_ne hr.units (bm PySem.F.plainAttrs_list PySem.F.slot_list_count PySem.F.type_list_count m_count (dv 4) (ac db an)) di) (tw1 (tnot (tv (cbn c_isx T.n_isinstance bt_isinstance (ac (dv 2) (ac (dty T.n_ValueError bt_ValueError) an)))))))) (s1 (sr ds)) s0) (s1 (sr (efo (ix hr.units (elst (ac ds (ac ds (ac ds (ac ds (ac ds (ac ds an))))))) (bm PySem.F.plainAttrs_list PySem.F.slot_list_index PySem.F.type_list_index m_lindex (dv 4) (ac db an)))))))))))) (s1 (sr (dv 3)))), ?_⟩
  have no1 : ∀ (m : Nat) (u : D), m < 1 → (([false, true, false, false, false, false] : List Bool).map D.bl)[m]? = some u → eqV (vOf u) (vOf (.bl true)) = false := fun m u hm hu => by
    obtain rfl : m = 0 := by omega
    cases hu; rfl
  refine ⟨fun σ' S' => σ' = [some (.tup (cs.map colD)), some d, none, some (rF cs d), none] ∧ S' = S, ?_, ?_⟩
  · refine ⟨_, rfl, _, rfl, cs, d, rfl, hl, hd, fun r hr ho => fo ⟨?_, rfl⟩, fun r hr ho => ?_, fun hn => ?_⟩
    · have e : rF cs d = .tup [.str r.1, .tup r.2] := by unfold rF; rw [hr]; dsimp only; rw [if_pos ho]
      rw [e]; rfl
    · have e : rF cs d = .str "row" := by unfold rF; rw [hr]; dsimp only; rw [ho]; rfl
      rw [e] at q
      have X := xm_BadRow T
      refine ⟨X.m, fun x hx => ?_⟩
      have he : (S.set x (.exc t.c_BadRow)) x = some (.exc t.c_BadRow) := sset_same
      have b0 : Sub S (S.set x (.exc t.c_BadRow)) := .new hx
      generalize S.set x (.exc t.c_BadRow) = S0 at he b0 ⊢
      refine ⟨_, rfl, x, _, _, false, rfl, he, X.xc, X.xa, .inl ⟨_, rfl, X.k1⟩, _, rfl, x, _, _, true, rfl, he, X.xc, X.xa, .inl ⟨_, rfl, X.k2⟩, _, rfl, x, _, _, false, rfl, he, X.xc, X.xa, .inl ⟨_, rfl, X.k3⟩, _, rfl, x, _, _, false, rfl, he, X.xc, X.xa, .inl ⟨_, rfl, X.k4⟩, sm (show 4 ≤ 100000 by decide), fun p1 hp1 => ?_⟩
      generalize hS1 : S0.set p1 _ = S1
      have b1 : Sub S0 S1 := by rw [← hS1]; exact .new hp1
      have v1 : S1 p1 = some (.lst [.bl false, .bl true, .bl false, .bl false]) := by rw [← hS1]; exact sset_same
      refine ⟨_, rfl, _, rfl, x, _, _, false, rfl, b1 _ _ he, X.xc, X.xa, .inl ⟨_, rfl, X.k5⟩, _, rfl, x, _, _, false, rfl, b1 _ _ he, X.xc, X.xa, .inl ⟨_, rfl, X.k6⟩, sm (show 2 ≤ 100000 by decide), fun p2 hp2 => ⟨_, _, (Sub.new hp2) _ _ v1, sset_same, sm (show 6 ≤ 100000 by decide), fun p3 hp3 => ?_⟩⟩
      have b3 := b1.trans (.new (c := .lst [.bl false, .bl false]) hp2)
      generalize hS2 : S1.set p2 _ = S2 at hp3
      have b2 : Sub S0 S2 := by rw [← hS2]; exact b3
      generalize hS3 : S2.set p3 _ = S3
      have b4 : Sub S0 S3 := by rw [← hS3]; exact b2.trans (.new hp3)
      have v3 : S3 p3 = some (.lst (([false, true, false, false, false, false] : List Bool).map D.bl)) := by rw [← hS3]; exact sset_same
      refine ⟨_, rfl, ⟨rfl, _, v3⟩, [false, true, false, false, false, false], true, rfl, v3, _, rfl, iteF ⟨_, rfl, x, _, _, true, rfl, b4 _ _ he, X.xc, X.xa, .inr (.inl ⟨_, rfl, X.v⟩), _, rfl, iteF ?_⟩⟩
      exact ⟨sm (show 6 ≤ 100000 by decide), fun p4 hp4 => ⟨_, rfl, ⟨rfl, _, (Sub.new hp4) _ _ v3⟩, ([false, true, false, false, false, false] : List Bool).map D.bl, .bl true, 1, rfl, (Sub.new hp4) _ _ v3, rfl, rfl, ⟨_, rfl, rfl⟩, no1, _, _, sset_same, rfl, S3, .new hp4, S, b0.trans b4, q⟩⟩
    · have e : rF cs d = .str "text" := by unfold rF; rw [hn]
      rw [e] at q
      have X := xm_NoText T
      refine ⟨X.m, fun x hx => ?_⟩
      have he : (S.set x (.exc t.c_NoText)) x = some (.exc t.c_NoText) := sset_same
      have b0 : Sub S (S.set x (.exc t.c_NoText)) := .new hx
      generalize S.set x (.exc t.c_NoText) = S0 at he b0 ⊢
      refine ⟨_, rfl, x, _, _, true, rfl, he, X.xc, X.xa, .inl ⟨_, rfl, X.k1⟩, _, rfl, x, _, _, false, rfl, he, X.xc, X.xa, .inl ⟨_, rfl, X.k2⟩, _, rfl, x, _, _, false, rfl, he, X.xc, X.xa, .inl ⟨_, rfl, X.k3⟩, _, rfl, x, _, _, false, rfl, he, X.xc, X.xa, .inl ⟨_, rfl, X.k4⟩, sm (show 4 ≤ 100000 by decide), fun p1 hp1 => ?_⟩
      generalize hS1 : S0.set p1 _ = S1
      have b1 : Sub S0 S1 := by rw [← hS1]; exact .new hp1
      have v1 : S1 p1 = some (.lst [.bl true, .bl false, .bl false, .bl false]) := by rw [← hS1]; exact sset_same
      refine ⟨_, rfl, _, rfl, x, _, _, false, rfl, b1 _ _ he, X.xc, X.xa, .inl ⟨_, rfl, X.k5⟩, _, rfl, x, _, _, false, rfl, b1 _ _ he, X.xc, X.xa, .inl ⟨_, rfl, X.k6⟩, sm (show 2 ≤ 100000 by decide), fun p2 hp2 => ⟨_, _, (Sub.new hp2) _ _ v1, sset_same, sm (show 6 ≤ 100000 by decide), fun p3 hp3 => ?_⟩⟩
      have b3 := b1.trans (.new (c := .lst [.bl false, .bl false]) hp2)
      generalize hS2 : S1.set p2 _ = S2 at hp3
      have b2 : Sub S0 S2 := by rw [← hS2]; exact b3
      generalize hS3 : S2.set p3 _ = S3
      have b4 : Sub S0 S3 := by rw [← hS3]; exact b2.trans (.new hp3)
      have v3 : S3 p3 = some (.lst (([true, false, false, false, false, false] : List Bool).map D.bl)) := by rw [← hS3]; exact sset_same
      refine ⟨_, rfl, ⟨rfl, _, v3⟩, [true, false, false, false, false, false], true, rfl, v3, _, rfl, iteF ⟨_, rfl, x, _, _, true, rfl, b4 _ _ he, X.xc, X.xa, .inr (.inl ⟨_, rfl, X.v⟩), _, rfl, iteF ?_⟩⟩
      exact ⟨sm (show 6 ≤ 100000 by decide), fun p4 hp4 => ⟨_, rfl, ⟨rfl, _, (Sub.new hp4) _ _ v3⟩, ([true, false, false, false, false, false] : List Bool).map D.bl, .bl true, 0, rfl, (Sub.new hp4) _ _ v3, rfl, rfl, ⟨_, rfl, rfl⟩, fun m u hm => absurd hm (Nat.not_lt_zero _), _, _, sset_same, rfl, S3, .new hp4, S, b0.trans b4, q⟩⟩
  · rintro σ' S' ⟨rfl, rfl⟩
    exact ⟨_, rfl, fo q⟩
end
end My
namespace My
open PySem L2
theorem bracket_in (z : Str) : inV (vOf (.str z)) ([D.str "(", D.str ")"].map vOf) = brk [z] := by
  have h := in_strs z ["(", ")"]
  rw [show ([D.str "(", D.str ")"] : List D) = (["(", ")"] : List Str).map D.str from rfl, h]
  unfold brk
  rw [Bool.eq_iff_iff]
  simp only [decide_eq_true_eq, Bool.or_eq_true, List.mem_cons, List.not_mem_nil, or_false]
  constructor
  · rintro (h | h)
    · exact .inl h.symm
    · exact .inr h.symm
  · rintro (h | h)
    · exact .inl h.symm
    · exact .inr h.symm
theorem take_one {ws : List Str} (h : 1 ≤ ws.length) : ws.take 1 = [ws.getD 0 ""] := by
  cases ws with
  | nil => exact absurd h (by decide)
  | cons a r => rfl
def fitF : D → D
  | .tup [.tup [_, .str k], .str u] => .bl (fitB k u.cps.toList)
  | _ => .non
theorem fit_pairs {cs : List (Str × Str)} : ∀ {us : List Str}, (pairsD (cs.map colD) (us.map D.str)).map fitF = (List.zipWith (fun (c : Str × Str) (u : Str) => fitB c.2 u.cps.toList) cs us).map D.bl := by
  unfold pairsD
  induction cs with
  | nil => intro us; cases us <;> rfl
  | cons c cs ih =>
    intro us
    cases us with
    | nil => rfl
    | cons u us =>
      show fitF (.tup [colD c, .str u]) :: (List.zipWith _ (cs.map colD) (us.map D.str)).map fitF = .bl _ :: _
      rw [ih]; rfl
theorem fit_all {cs : List (Str × Str)} (hk : ∀ c ∈ cs, c.2 = "number" ∨ c.2 = "word") : ∀ {us : List Str}, (∀ u ∈ us, valT u.cps.toList = true) → List.zipWith (fun (c : Str × Str) (u : Str) => fitB c.2 u.cps.toList) cs us = List.zipWith (fun (c : Str × Str) v => valB c.2 v) cs (us.map toldD) := by
  induction cs with
  | nil => intro us _; cases us <;> rfl
  | cons c cs ih =>
    intro us hu
    cases us with
    | nil => rfl
    | cons u us =>
      obtain ⟨d, h1, h2⟩ := valT_told (hu u List.mem_cons_self)
      rw [List.map_cons, List.zipWith_cons_cons, List.zipWith_cons_cons, ih (fun c hc => hk c (List.mem_cons_of_mem _ hc)) fun v hv => hu v (List.mem_cons_of_mem _ hv), ← told_eq h1, fits_val (hk c List.mem_cons_self) (hu u List.mem_cons_self) h1 h2]
section
variable {P : Program} {w : World} {K : PySem.W.Frag} {mg : Str → Option Value} {base : Heap} {t : Adr}
theorem ok_l_is_key (T : Txt K mg t) : FnD P w K mg base 1 t.f_l_is_key t.d_l_is_key ["_law_text"] (fun ds S R _ => ∃ z, ds = [.str z] ∧ z.cps.size ≤ 90000 ∧ R (.bl (keyZ z)) S) := by
  refine T.F_l_is_key.ok sc_l_is_key (fun ds S R Z ⟨_, e, _⟩ => by rw [e]; rfl) (fun cdv A outer s H E ds S R Z hr ⟨z, e, hz, q⟩ => ?_)
  subst e
  refine ⟨_, (sc (si (twd (twor (tnot (tcc o_le o_le hr.units di (cb c_len T.n_len bt_len (ac (dv 0) an)) di)) (tw1 (tnot (tcc o_le o_le hr.units ds (ix hr.units (dv 0) di) ds))))) (s1 (sr db)) s0) (s1 (sr (cb c_all T.n_all bt_all (ac (eco (N := ["_law_sign"]) (src := [none]) (csc (defScope s_l_is_key) ["_law_text"] rfl rfl (by decide +kernel)) (istr (dv 0)) (cg1 (show (["_law_sign"] : List Str).Nodup by decide +kernel)) (gx_name rfl) gd_name (fun _ _ _ _ _ => if0) (fun _ _ _ _ _ => (eor (cc o_le o_le hr.units ds (dv 0) ds) (ev1 (cc o_le o_le hr.units ds (dv 0) ds))))) an))))), ?_⟩
  have e1 : decide ((1 : Int) ≤ (z.length : Nat)) = decide (1 ≤ z.cps.size) := by rw [decide_eq_decide]; show (1 : Int) ≤ ((z.cps.size : Nat) : Int) ↔ _; omega
  have e2 : decide (((z.length : Nat) : Int) ≤ 12) = decide (z.cps.size ≤ 12) := by rw [decide_eq_decide]; show ((z.cps.size : Nat) : Int) ≤ 12 ↔ _; omega
  unfold keyZ at q
  refine ⟨_, rfl, _, rfl, ⟨sm (by show z.cps.size ≤ _; omega), ?_⟩⟩
  refine ⟨_, rfl, ?_⟩
  refine ifb (fun h2 => ?_) (fun h2 => ?_)
  · have h2' := e1.symm.trans h2
    rw [h2', Bool.true_and] at q
    refine ⟨_, rfl, ?_⟩
    refine ifb (fun h3 => ?_) (fun h3 => ?_)
    · rw [e2.symm.trans (nt h3), Bool.false_and, Bool.false_and] at q
      exact fo q
    · rw [e2.symm.trans (nf h3), Bool.true_and] at q
      obtain ⟨c, r, ec⟩ := len_pos (z := z) (of_decide_eq_true h2')
      have eh : z.cps.toList.head?.any isLet = isLet c := by rw [ec]; rfl
      rw [eh] at q
      refine ⟨_, rfl, c, sm (by show z.cps.size ≤ _; omega), at0 ec, _, rfl, ?_⟩
      have e3 : sLe "a" ⟨#[c]⟩ = decide (97 ≤ c) := sLe_one 97 c
      have e4 : sLe ⟨#[c]⟩ "z" = decide (c ≤ 122) := sLe_one c 122
      have elet : isLet c = (decide (97 ≤ c) && decide (c ≤ 122)) := rfl
      rw [elet] at q
      refine ifb (fun h4 => ?_) (fun h4 => ?_)
      · rw [e3.symm.trans h4, Bool.true_and] at q
        refine ⟨_, rfl, ?_⟩
        refine ifb (fun h5 => ?_) (fun h5 => ?_)
        · rw [e4.symm.trans (nt h5), Bool.false_and] at q
          exact fo q
        · rw [e4.symm.trans (nf h5), Bool.true_and] at q
          refine all_signs (f := fun c => isLet c || isFig c) rfl (by omega) (fun c hc Q hQ => ?_) q
          refine ⟨_, rfl, _, rfl, ?_⟩
          have e5 : sLe "a" ⟨#[c]⟩ = decide (97 ≤ c) := sLe_one 97 c
          have e6 : sLe ⟨#[c]⟩ "z" = decide (c ≤ 122) := sLe_one c 122
          have e7 : sLe "0" ⟨#[c]⟩ = decide (48 ≤ c) := sLe_one 48 c
          have e8 : sLe ⟨#[c]⟩ "9" = decide (c ≤ 57) := sLe_one c 57
          unfold isLet isFig at hQ
          refine ifb (fun h6 => ?_) (fun h6 => ?_)
          · rw [e5.symm.trans h6, Bool.true_and] at hQ
            refine ⟨_, rfl, ?_⟩
            refine ifb (fun h7 => ?_) (fun h7 => ?_)
            · rw [e6.symm.trans h7, Bool.true_or] at hQ
              exact hQ
            · rw [e6.symm.trans h7, Bool.false_or] at hQ
              refine ⟨_, rfl, _, rfl, ?_⟩
              refine ifb (fun h8 => ?_) (fun h8 => ?_)
              · rw [e7.symm.trans h8, Bool.true_and, ← e8] at hQ
                exact hQ
              · rw [e7.symm.trans h8, Bool.false_and] at hQ
                exact hQ
          · rw [e5.symm.trans h6, Bool.false_and, Bool.false_or] at hQ
            refine ⟨_, rfl, iteF ?_⟩
            refine ⟨_, rfl, _, rfl, ?_⟩
            refine ifb (fun h8 => ?_) (fun h8 => ?_)
            · rw [e7.symm.trans h8, Bool.true_and, ← e8] at hQ
              exact hQ
            · rw [e7.symm.trans h8, Bool.false_and] at hQ
              exact hQ
      · rw [e3.symm.trans h4, Bool.false_and, Bool.false_and] at q
        refine ⟨_, rfl, ?_⟩
        exact iteT (fo q)
  · rw [e1.symm.trans h2, Bool.false_and, Bool.false_and, Bool.false_and] at q
    refine ⟨_, rfl, ?_⟩
    exact iteT (fo q)
theorem ok_due (T : Txt K mg t) : FnD P w K mg base 4 t.f_l_due t.d_l_due ["_law_columns_here", "_law_text"] (fun ds S R _ => ∃ (cs : List (Str × Str)) (z : Str), ds = [.tup (cs.map colD), .str z] ∧ cs.length ≤ 8 ∧ (∀ c ∈ cs, c.2 = "number" ∨ c.2 = "word") ∧ z.cps.size ≤ 90000 ∧ R (rF cs (.str z)) S) := by
  have G_l_is_value_text : FnD P w K mg base 3 t.f_l_is_value_text t.d_l_is_value_text ["_law_text"] _ := ok_l_is_value_text T
  have G_l_is_key : FnD P w K mg base 1 t.f_l_is_key t.d_l_is_key ["_law_text"] _ := ok_l_is_key T
  have G_l_fits : FnD P w K mg base 2 t.f_l_fits t.d_l_fits ["_law_kind", "_law_text"] _ := ok_fits T
  have G_l_told : FnD P w K mg base 1 t.f_l_told t.d_l_told ["_law_text"] _ := ok_told T
  refine T.F_l_due.ok sc_l_due (fun ds S R Z ⟨_, _, e, _⟩ => by rw [e]; rfl) (fun cdv A outer s H E ds S R Z hr ⟨cs, z, e, h8, hk, hz, q⟩ => ?_)
  subst e
  refine ⟨_, (sc (st_ (i := 2) sc_l_due.nd (bm PySem.F.plainAttrs_str PySem.F.slot_str_split PySem.F.type_str_split m_split (dv 1) (ac ds an))) (sc (si (twd (twor (tcm o_in hr.units (ix hr.units (dv 2) di) (etup (ac ds (ac ds an)))) (tw1 (tnot (tv (cb c_all T.n_all bt_all (ac (eco (N := ["_law_word_here"]) (src := [none]) (csc (defScope s_l_due) ["_law_columns_here", "_law_text", "_law_words"] rfl rfl (by decide +kernel)) (il (sl (dv 2) (o1 di) o0)) (cg1 (show (["_law_word_here"] : List Str).Nodup by decide +kernel)) (gx_name rfl) gd_name (fun _ _ _ _ _ => if0) (fun _ _ _ _ _ => (cf (G_l_is_value_text.mono (by decide)) hr T.mg_l_is_value_text T.k_l_is_value_text T.b_l_is_value_text d0 (ac (dv 0) an)))) an))))))) (s1 (sr ds)) s0) (sc (si (twd (twor (tnot (tv (cf (G_l_is_key.mono (by decide)) hr T.mg_l_is_key T.k_l_is_key T.b_l_is_key d0 (ac (ix hr.units (dv 2) di) an)))) (tw1 (tcm o_ne hr.units (cb c_len T.n_len bt_len (ac (dv 2) an)) (bo o_add hr.units di (cb c_len T.n_len bt_len (ac (dv 0) an))))))) (s1 (sr ds)) s0) (sc (si (tnot (tv (cb c_all T.n_all bt_all (ac (eco (N := ["_law_name", "_law_kind", "_law_word_here"]) (src := [none, none, none]) (csc (defScope s_l_due) ["_law_columns_here", "_law_text", "_law_words"] rfl rfl (by decide +kernel)) (izl T.n_zip (ac (dv 0) (ac (sl (dv 2) (o1 di) o0) an))) (cgn (show (["_law_name", "_law_kind", "_law_word_here"] : List Str).Nodup by decide +kernel)) (gx_nest rfl rfl rfl) gd_nest (fun _ _ _ _ _ => if0) (fun _ _ _ _ _ => (cf (G_l_fits.mono (by decide)) hr T.mg_l_fits T.k_l_fits T.b_l_fits d0 (ac (dv 1) (ac (dv 2) an))))) an)))) (s1 (sr ds)) s0) (s1 (sr (etup (ac (ix hr.units (dv 2) di) (ac (ct c_tuple T.n_tuple bt_tuple (ac (eco (N := ["_law_word_here"]) (src := [none]) (csc (defScope s_l_due) ["_law_columns_here", "_law_text", "_law_words"] rfl rfl (by decide +kernel)) (il (sl (dv 2) (o1 di) o0)) (cg1 (show (["_law_word_here"] : List Str).Nodup by decide +kernel)) (gx_name rfl) gd_name (fun _ _ _ _ _ => if0) (fun _ _ _ _ _ => (cf (G_l_told.mono (by decide)) hr T.mg_l_told T.k_l_told T.b_l_told d0 (ac (dv 0) an)))) an)) an))))))))), ?_⟩
  have hsp := spl_pos z
  have hsl := spl_len z
  have hzl : z.length = z.cps.size := rfl
  have hmem : ∀ u ∈ spl z, u.cps.size ≤ 90000 := fun u hu => Nat.le_trans (spl_mem hu) hz
  have er : rI (.str z) = if brk ((spl z).take 1) || !(((spl z).drop 1).all fun u => valT u.cps.toList) then none else some ((spl z).getD 0 "", ((spl z).drop 1).map toldD) := rfl
  have eF : rF cs (.str z) = match rI (.str z) with
    | none => .str "text"
    | some r => if rowB cs (.str r.1) (.tup r.2) = true then .tup [.str r.1, .tup r.2] else .str "row" := rfl
  rw [eF, er] at q
  refine ⟨_, rfl, rfl, z, " ", rfl, rfl, by decide +kernel, sm (by show z.cps.size + 2 ≤ _; omega), fun p hp => ?_⟩
  rw [show Txt.split z " " = spl z from rfl]
  generalize spl z = ws at *
  have hwl : (ws.map D.str).length = ws.length := List.length_map _
  have hS : (S.set p (.lst (ws.map D.str))) p = some (.lst (ws.map D.str)) := sset_same
  have g0 : Sub S (S.set p (.lst (ws.map D.str))) := .new hp
  generalize S.set p (.lst (ws.map D.str)) = S1 at hS g0 ⊢
  rw [take_one hsp] at q
  refine ⟨_, rfl, _, _, hS, wd_at (i := 0) (by omega) rfl, sm (show 2 ≤ 100000 by decide), rfl, rfl, _, rfl, ?_⟩
  rw [if_neg Bool.false_ne_true, bracket_in]
  refine ifb (fun hb => ?_) (fun hb => ?_)
  · rw [hb, Bool.true_or, if_pos rfl] at q
    exact ⟨S, g0, q⟩
  rw [hb, Bool.false_or] at q
  refine ⟨_, rfl, _, rfl, _, hS, fun p1 hp1 => ⟨_, sset_same, ?_⟩⟩
  rw [cut_one, ← List.map_drop]
  have hdl : ((ws.drop 1).map D.str).length ≤ 90001 := by rw [List.length_map, List.length_drop]; omega
  have hdm : ∀ u ∈ ws.drop 1, u.cps.size ≤ 90000 := fun u hu => hmem u (List.mem_of_mem_drop hu)
  have g1 := g0.trans (Sub.new (c := .lst ((ws.drop 1).map D.str)) hp1)
  have h1 := (Sub.new (c := .lst ((ws.drop 1).map D.str)) hp1) _ _ hS
  refine comp_map (fun d => match d with | .str y => .bl (valT y.cps.toList) | _ => .non) sset_same (by show ((ws.drop 1).map D.str).length ≤ _; omega) (fun d hd Q hQ => ?_) fun p2 hp2 => ?_
  · obtain ⟨u, hu, rfl⟩ := List.mem_map.mp hd
    exact ⟨_, rfl, u, rfl, hdm u hu, hQ⟩
  rw [show (⟨(ws.drop 1).map D.str, fun S => SqD S (.ref p1) ((ws.drop 1).map D.str)⟩ : ItD).xs = (ws.drop 1).map D.str from rfl, show (((ws.drop 1).map D.str).map fun d => match d with | .str y => D.bl (valT y.cps.toList) | _ => .non) = ((ws.drop 1).map fun u => valT u.cps.toList).map D.bl by rw [List.map_map, List.map_map]; rfl]
  have g2 := g1.trans (Sub.new (c := .lst (((ws.drop 1).map fun u => valT u.cps.toList).map D.bl)) hp2)
  have h2 := (Sub.new (c := .lst (((ws.drop 1).map fun u => valT u.cps.toList).map D.bl)) hp2) _ _ h1
  refine ⟨.ref p2, (ws.drop 1).map (fun (u : Str) => valT u.cps.toList), rfl, sset_same, _, rfl, ?_⟩
  generalize (S1.set p1 (.lst ((ws.drop 1).map D.str))).set p2 (.lst (((ws.drop 1).map fun u => valT u.cps.toList).map D.bl)) = S2 at g2 h2 ⊢
  rw [all_map]
  refine ifb (fun ha => ?_) (fun ha => ?_)
  · rw [nt ha, Bool.not_false, if_pos rfl] at q
    exact ⟨S, g2, q⟩
  have ha := nf ha
  rw [ha, Bool.not_true, if_neg Bool.false_ne_true] at q
  dsimp only at q
  have hall : ∀ u ∈ ws.drop 1, valT u.cps.toList = true := List.all_eq_true.mp ha
  have hm0 : ws.getD 0 "" ∈ ws := by
    rw [List.getD_eq_getElem?_getD, List.getElem?_eq_getElem (by omega)]; exact List.getElem_mem _
  have eR : rowB cs (.str (ws.getD 0 "")) (.tup ((ws.drop 1).map toldD)) = (keyZ (ws.getD 0 "") && (decide (((ws.drop 1).map toldD).length = cs.length) && (List.zipWith (fun (c : Str × Str) v => valB c.2 v) cs ((ws.drop 1).map toldD)).all id)) := rfl
  rw [eR] at q
  refine ⟨_, rfl, _, _, h2, wd_at (i := 0) (by omega) rfl, _, rfl, hmem _ hm0, _, rfl, ?_⟩
  refine ifb (fun hkz => ?_) (fun hkz => ?_)
  · rw [nt hkz, Bool.false_and, if_neg Bool.false_ne_true] at q
    exact ⟨S, g2, q⟩
  rw [nf hkz, Bool.true_and] at q
  refine ⟨_, rfl, _, rfl, .inl ⟨_, h2, _, rfl, _, rfl, _, rfl, ?_⟩⟩
  have el : decide ((((ws.map D.str).length : Nat) : Int) = 1 + (((cs.map colD).length : Nat) : Int)) = decide (((ws.drop 1).map toldD).length = cs.length) := by
    rw [decide_eq_decide, List.length_map, List.length_map, List.length_map, List.length_drop]; omega
  refine ifb (fun hn => ?_) (fun hn => ?_)
  · have hn : (!decide ((((ws.map D.str).length : Nat) : Int) = 1 + (((cs.map colD).length : Nat) : Int))) = true := hn
    rw [el] at hn
    rw [nt hn, Bool.false_and, if_neg Bool.false_ne_true] at q
    exact ⟨S, g2, q⟩
  have hn : (!decide ((((ws.map D.str).length : Nat) : Int) = 1 + (((cs.map colD).length : Nat) : Int))) = false := hn
  rw [el] at hn
  have hlen := of_decide_eq_true (nf hn)
  rw [nf hn, Bool.true_and] at q
  refine ⟨_, rfl, _, rfl, _, rfl, _, h2, fun p3 hp3 => ?_⟩
  rw [cut_one, ← List.map_drop]
  have g3 := g2.trans (Sub.new (c := .lst ((ws.drop 1).map D.str)) hp3)
  have h3 := (Sub.new (c := .lst ((ws.drop 1).map D.str)) hp3) _ _ h2
  refine ⟨cs.map colD, p3, (ws.drop 1).map D.str, rfl, sset_same, by rw [List.length_map, List.length_map]; rw [List.length_map] at hlen; omega, ?_⟩
  refine comp_map fitF sset_same (by show (pairsD (cs.map colD) ((ws.drop 1).map D.str)).length ≤ _; unfold pairsD; rw [List.length_zipWith, List.length_map]; omega) (fun d hd Q hQ => ?_) fun p4 hp4 => ?_
  · unfold pairsD at hd
    obtain ⟨i, ei⟩ := List.getElem?_of_mem hd
    obtain ⟨x, y, e2, e3, e4⟩ := List.getElem?_zipWith_eq_some.mp ei
    subst e4
    rw [List.getElem?_map] at e2 e3
    cases e5 : cs[i]? with
    | none => rw [e5] at e2; cases e2
    | some c =>
      rw [e5] at e2; cases e2
      cases e6 : (ws.drop 1)[i]? with
      | none => rw [e6] at e3; cases e3
      | some u =>
        rw [e6] at e3; cases e3
        exact ⟨_, rfl, rfl, _, _, rfl, _, rfl, rfl, _, _, rfl, _, _, rfl, rfl, _, _, rfl, rfl, _, rfl, _, rfl, c.2, u, rfl, hdm u (List.mem_of_getElem? e6), hQ⟩
  rw [show (⟨pairsD (cs.map colD) ((ws.drop 1).map D.str), fun S => SqD S (.ref p3) ((ws.drop 1).map D.str)⟩ : ItD).xs = pairsD (cs.map colD) ((ws.drop 1).map D.str) from rfl, fit_pairs]
  refine ⟨.ref p4, _, rfl, sset_same, _, rfl, ?_⟩
  have g4 := g3.trans (Sub.new (c := .lst ((List.zipWith (fun (c : Str × Str) (u : Str) => fitB c.2 u.cps.toList) cs (ws.drop 1)).map D.bl)) hp4)
  have h4 := (Sub.new (c := .lst ((List.zipWith (fun (c : Str × Str) (u : Str) => fitB c.2 u.cps.toList) cs (ws.drop 1)).map D.bl)) hp4) _ _ h3
  generalize (S2.set p3 (.lst ((ws.drop 1).map D.str))).set p4 (.lst ((List.zipWith (fun (c : Str × Str) (u : Str) => fitB c.2 u.cps.toList) cs (ws.drop 1)).map D.bl)) = S4 at g4 h4 ⊢
  rw [fit_all hk hall]
  refine ifb (fun hf => ?_) (fun hf => ?_)
  · rw [nt hf, if_neg Bool.false_ne_true] at q
    exact ⟨S, g4, q⟩
  rw [nf hf, if_pos rfl] at q
  refine ⟨_, rfl, _, _, h4, wd_at (i := 0) (by omega) rfl, _, rfl, _, rfl, _, h4, fun p5 hp5 => ⟨_, sset_same, ?_⟩⟩
  rw [cut_one, ← List.map_drop]
  have g5 := g4.trans (Sub.new (c := .lst ((ws.drop 1).map D.str)) hp5)
  refine comp_map tellS sset_same (by show ((ws.drop 1).map D.str).length ≤ _; omega) (fun d hd Q hQ => ?_) fun p6 hp6 => ?_
  · obtain ⟨u, hu, rfl⟩ := List.mem_map.mp hd
    obtain ⟨d, t1, t2⟩ := valT_told (hall u hu)
    have e : d = tellS (.str u) := told_eq t1
    exact ⟨_, rfl, u, d, rfl, hdm u hu, t1, by rw [e]; exact hQ⟩
  refine ⟨_, _, rfl, .inl sset_same, sm (show 2 ≤ 100000 by decide), S, g5.trans (.new hp6), ?_⟩
  show R (.tup [.str (ws.getD 0 ""), .tup (((ws.drop 1).map D.str).map tellS)]) S
  rw [show ((ws.drop 1).map D.str).map tellS = (ws.drop 1).map toldD by rw [List.map_map]; rfl]
  exact q
end
end My
namespace My
open PySem L2
def bnd : Nat → Nat
  | 0 => 700
  | 1 => 2200
  | 2 => 6700
  | _ => 20200
theorem bnd_step {i : Nat} (h : i < 3) : bnd i ≤ 7000 ∧ 3 * bnd i + 100 = bnd (i + 1) := by
  match i, h with
  | 0, _ => exact ⟨by decide, by decide⟩
  | 1, _ => exact ⟨by decide, by decide⟩
  | 2, _ => exact ⟨by decide, by decide⟩
theorem bnd_le (i : Nat) : bnd i ≤ 20200 := by
  match i with
  | 0 => decide
  | 1 => decide
  | 2 => decide
  | _ + 3 => exact Nat.le_refl _
theorem val_tx {d : D} (h : Vok d) : Tx 81 (valS d) := by
  refine ⟨?_, (val_ok h).2.1⟩
  rcases h with rfl | ⟨n, rfl, hn⟩ | ⟨z, rfl, hz⟩
  · decide +kernel
  · have := num_size hn
    rw [size_list, hash_list, List.length_cons, ← size_list]; omega
  · have := esc_size z
    have := (word_signs hz).1
    rw [size_list, quote_list, List.length_cons, ← size_list]; omega
theorem key_tx {z : Str} (h : keyZ z = true) : Tx 12 z := by
  unfold keyZ at h
  simp only [Bool.and_eq_true, decide_eq_true_eq, List.all_eq_true] at h
  refine ⟨by omega, ok_iff.mpr fun c hc => ?_⟩
  have := h.2 c hc
  unfold isLet isFig at this
  simp only [Bool.or_eq_true, Bool.and_eq_true, decide_eq_true_eq] at this
  omega
theorem wt_le {us : List Str} {m : Nat} (h : ∀ u ∈ us, Tx m u) : wt' us ≤ us.length * (m + 1) := by
  have := sum_le (l := us) (n := m) fun u hu => (h u hu).1
  unfold wt'
  rw [Nat.mul_add]; omega
theorem vals_of {xs out : List D} (h : Paired (fun _ u => ∃ v, u = .str (valS v) ∧ Vok v) xs out) : ∃ us : List Str, out = us.map D.str ∧ us.length = xs.length ∧ ∀ u ∈ us, Tx 81 u := by
  induction h with
  | nil => exact ⟨[], rfl, rfl, fun _ h => (nomatch h)⟩
  | cons r _ ih =>
    obtain ⟨v, e, hv⟩ := r
    obtain ⟨us, e1, e2, e3⟩ := ih
    refine ⟨valS v :: us, by rw [e, e1]; rfl, by rw [List.length_cons, List.length_cons, e2], fun u hu => ?_⟩
    rcases List.mem_cons.mp hu with e | hu
    · rw [e]; exact val_tx hv
    · exact e3 u hu
theorem cols_out {xs out : List D} (h : Paired (fun _ u => ∃ c : Str × Str, u = colD c ∧ (c.2 = "number" ∨ c.2 = "word")) xs out) : ∃ os : List (Str × Str), out = os.map colD ∧ os.length = xs.length ∧ ∀ c ∈ os, c.2 = "number" ∨ c.2 = "word" := by
  induction h with
  | nil => exact ⟨[], rfl, rfl, fun _ h => (nomatch h)⟩
  | cons r _ ih =>
    obtain ⟨c, e, hc⟩ := r
    obtain ⟨os, e1, e2, e3⟩ := ih
    refine ⟨c :: os, by rw [e, e1]; rfl, by rw [List.length_cons, List.length_cons, e2], fun u hu => ?_⟩
    rcases List.mem_cons.mp hu with e | hu
    · rw [e]; exact hc
    · exact e3 u hu
theorem rF_ly {cs : List (Str × Str)} {z : Str} (h : PyData.strOk z = true) {S : Sto} : Ly S 64 (rF cs (.str z)) := by
  have er : rI (.str z) = if brk ((spl z).take 1) || !(((spl z).drop 1).all fun u => valT u.cps.toList) then none else some ((spl z).getD 0 "", ((spl z).drop 1).map toldD) := rfl
  unfold rF
  rw [er]
  split
  · exact (Ly.str (by decide +kernel)).le (by decide)
  · rename_i r hr
    split at hr
    · cases hr
    · rename_i hb
      cases hr
      dsimp only
      split
      · have hall : ((spl z).drop 1).all (fun u => valT u.cps.toList) = true := by
          cases q : ((spl z).drop 1).all (fun u => valT u.cps.toList) with
          | true => rfl
          | false => exact absurd (by rw [q, Bool.not_false, Bool.or_true]) hb
        refine Ly.le (n := 2) (Ly.tup (n := 1) fun d hd => ?_) (by decide)
        simp only [List.mem_cons, List.not_mem_nil, or_false] at hd
        rcases hd with rfl | rfl
        · refine (Ly.str ?_).le (by decide)
          have hm : (spl z).getD 0 "" ∈ spl z := by
            rw [List.getD_eq_getElem?_getD, List.getElem?_eq_getElem (spl_pos z)]
            exact List.getElem_mem _
          exact spl_ok hm h
        · refine Ly.tup (n := 0) fun d hd => ?_
          obtain ⟨u, hu, rfl⟩ := List.mem_map.mp hd
          obtain ⟨d, h1, h2⟩ := valT_told (List.all_eq_true.mp hall u hu)
          rw [← told_eq h1]
          rcases h2 with rfl | ⟨n, rfl, _⟩ | ⟨y, rfl, hy⟩
          · exact Ly.non
          · exact ⟨.int n, by simp only [Dp], by simp only [PyData.canLay0], by simp only [PyData.depth]; omega⟩
          · refine Ly.str (ok_iff.mpr fun c hc => ?_)
            have := (word_signs hy).2 c hc
            omega
      · exact (Ly.str (by decide +kernel)).le (by decide)
theorem rF_no (cs : List (Str × Str)) {d : D} (h : ∀ z, d ≠ .str z) : rF cs d = .str "text" := by
  unfold rF
  have : rI d = none := by
    cases d with
    | str z => exact absurd rfl (h z)
    | _ => rfl
  rw [this]
theorem rep_tx {n : Nat} {z : Str} (h : Tx n z) : Tx (n + 2) (repOne z " " "  ") := by
  have h1 := repOne_len z " " "  "
  have e2 : ("  " : Str).length = 2 := by decide +kernel
  have e3 : z.length = z.cps.size := rfl
  refine ⟨by show (repOne z " " "  ").length ≤ _; have := h.1; omega, ok_iff.mpr fun c hc => ?_⟩
  rcases repOne_mem z " " "  " c hc with m | m
  · exact ok_iff.mp h.2 c m
  · exact ok_iff.mp (show PyData.strOk "  " = true by decide +kernel) c m
section
variable {P : Program} {w : World} {K : PySem.W.Frag} {mg : Str → Option Value} {base : Heap} {t : Adr}
def spLaw : SpD := fun ds S R _ => ∃ ns : List Int, ds = [.rol (ns.map D.int)] ∧ ns.length ≤ 63 ∧ R (.bl true) S
theorem ok_lawD (T : Txt K mg t) : FnD P w K mg base 20 t.f_law t.d_law ["_law_script"] spLaw := by
  have G_l_well : FnD P w K mg base 1 t.f_l_well t.d_l_well ["_law_script", "_law_k"] _ := ok_well T
  have G_l_draw : FnD P w K mg base 1 t.f_l_draw t.d_l_draw ["_law_well_here", "_law_most"] spDraw := ok_dr T
  have G_l_columns : FnD P w K mg base 2 t.f_l_columns t.d_l_columns ["_law_well_here"] _ := ok_columns T
  have G_l_key : FnD P w K mg base 2 t.f_l_key t.d_l_key ["_law_well_here"] _ := ok_key T
  have G_l_value : FnD P w K mg base 3 t.f_l_value t.d_l_value ["_law_well_here", "_law_kind"] _ := ok_value T
  have G_l_value_text : FnD P w K mg base 1 t.f_l_value_text t.d_l_value_text ["_law_value_here"] _ := ok_l_value_text T
  have G_l_spoiled : FnD P w K mg base 3 t.f_l_spoiled t.d_l_spoiled ["_law_well_here", "_law_columns_here", "_law_text"] _ := ok_spoiled T
  have G_l_found : FnD P w K mg base 7 t.f_l_found t.d_l_found ["_law_columns_here", "_law_text"] _ := ok_found T
  have G_l_due : FnD P w K mg base 4 t.f_l_due t.d_l_due ["_law_columns_here", "_law_text"] _ := ok_due T
  refine T.F_law.ok sc_law (fun ds S R Z ⟨_, e, _⟩ => by rw [e]; rfl) (fun cdv A outer s H E ds S R Z hr ⟨ns, e, hns, q⟩ => ?_)
  subst e
  refine ⟨_, (sc (st_ (i := 1) sc_law.nd (cf (G_l_well.mono (by decide)) hr T.mg_l_well T.k_l_well T.b_l_well d0 (ac (dv 0) (ac di an)))) (sc (st_ (i := 2) sc_law.nd (cf (G_l_columns.mono (by decide)) hr T.mg_l_columns T.k_l_columns T.b_l_columns d0 (ac (dv 1) an))) (sc (scf (sfo (ir2 T.n_range (ac di (ac di an))) (gn (i := 3) sc_law.nd) (sc (st_ (i := 1) sc_law.nd (cf (G_l_well.mono (by decide)) hr T.mg_l_well T.k_l_well T.b_l_well d0 (ac (dv 0) (ac (dv 3) an)))) (sc (st_ (i := 4) sc_law.nd (bo o_add hr.units (elst (ac (cf (G_l_key.mono (by decide)) hr T.mg_l_key T.k_l_key T.b_l_key d0 (ac (dv 1) an)) an)) (eco (N := ["_law_name", "_law_kind", "_law_well_here"]) (src := [none, none, some 1]) (csc (defScope s_law) ["_law_script", "_law_well_here", "_law_columns_here", "_law_k", "_law_words", "_law_text", "_law_turn", "_law_others", "_law_some", "_law_one"] rfl rfl (by decide +kernel)) (itp (dv 2)) (cg2 (show (["_law_name", "_law_kind", "_law_well_here"] : List Str).Nodup by decide +kernel)) (gx_tup2 rfl rfl) gd_tup2 (fun _ _ _ _ _ => if0) (fun _ _ _ _ _ => (cf (G_l_value_text.mono (by decide)) hr T.mg_l_value_text T.k_l_value_text T.b_l_value_text d0 (ac (cf (G_l_value.mono (by decide)) hr T.mg_l_value T.k_l_value T.b_l_value d0 (ac (dv 2) (ac (dv 1) an))) an)))))) (sc (st_ (i := 5) sc_law.nd (bm PySem.F.plainAttrs_str PySem.F.slot_str_join PySem.F.type_str_join m_join ds (ac (dv 4) an))) (sc (scf (sfo (ir1 T.n_range (ac (cf (G_l_draw.mono (by decide)) hr T.mg_l_draw T.k_l_draw T.b_l_draw d0 (ac (dv 1) (ac di an))) an)) (gn (i := 6) sc_law.nd) (s1 (st_ (i := 5) sc_law.nd (cf (G_l_spoiled.mono (by decide)) hr T.mg_l_spoiled T.k_l_spoiled T.b_l_spoiled d0 (ac (dv 1) (ac (dv 2) (ac (dv 5) an)))))))) (sc (st_ (i := 7) sc_law.nd (ct c_tuple T.n_tuple bt_tuple (ac (eco (N := ["_law_name", "_law_kind", "_law_well_here"]) (src := [none, none, some 1]) (csc (defScope s_law) ["_law_script", "_law_well_here", "_law_columns_here", "_law_k", "_law_words", "_law_text", "_law_turn", "_law_others", "_law_some", "_law_one"] rfl rfl (by decide +kernel)) (itp (dv 2)) (cg2 (show (["_law_name", "_law_kind", "_law_well_here"] : List Str).Nodup by decide +kernel)) (gx_tup2 rfl rfl) gd_tup2 (fun _ _ _ _ _ => if0) (fun _ _ _ _ _ => (etup (ac (dv 0) (ac (efo (ix hr.units (elst (ac ds (ac ds an))) (cf (G_l_draw.mono (by decide)) hr T.mg_l_draw T.k_l_draw T.b_l_draw d0 (ac (dv 2) (ac di an))))) an))))) an))) (sc (scf (sfo (il (elst (ac (dv 2) (ac (dv 7) (ac (slw (dv 2) (o1 di) o0) an))))) (gn (i := 8) sc_law.nd) (s1 (si (tcm o_ne hr.units (cf (G_l_found.mono (by decide)) hr T.mg_l_found T.k_l_found T.b_l_found d0 (ac (dv 8) (ac (dv 5) an))) (cf (G_l_due.mono (by decide)) hr T.mg_l_due T.k_l_due T.b_l_due d0 (ac (dv 8) (ac (dv 5) an)))) (s1 (sr db)) s0)))) (sc (scf (sfo (il (elst (agd (agc (gp (dv 5) hr.units) (agc (g1 (bo o_add hr.units (dv 5) ds)) (agc (gr1 (g1 (dv 5))) (ago (ac (bo o_add hr.units (dv 5) ds) (ac ds an))))))))) (gn (i := 9) sc_law.nd) (s1 (si (tcm o_ne hr.units (cf (G_l_found.mono (by decide)) hr T.mg_l_found T.k_l_found T.b_l_found d0 (ac (dv 2) (ac (dv 9) an))) (cf (G_l_due.mono (by decide)) hr T.mg_l_due T.k_l_due T.b_l_due d0 (ac (dv 2) (ac (dv 9) an)))) (s1 (sr db)) s0)))) (s1 (si (tcm o_ne hr.units (cf (G_l_found.mono (by decide)) hr T.mg_l_found T.k_l_found T.b_l_found d0 (ac (dv 2) (ac (efo (ix hr.units (elst (ac dn (ac di (ac db (ac (dv 4) (ac (etup (ac ds (ac (etup an) an))) an)))))) (cf (G_l_draw.mono (by decide)) hr T.mg_l_draw T.k_l_draw T.b_l_draw d0 (ac (dv 1) (ac di an))))) an))) ds) (s1 (sr db)) s0))))))))))) (s1 (sr db))))), ?_⟩
  refine ⟨_, rfl, ⟨ns, 0, rfl, by decide⟩, fun l0 hl0 => ⟨_, rfl, l0, rfl, sset_same, fun cs hg => ?_⟩⟩
  have b0 : Sub S (S.set l0 .well) := .new hl0
  generalize S.set l0 .well = S0 at b0 ⊢
  have h8 := hg.1.1
  have hkd : ∀ c ∈ cs, c.2 = "number" ∨ c.2 = "word" := fun c hc => (hg.1.2.2 c hc).2
  refine ⟨fun σ' S' => Sub S S', ?_, fun σ' S' hs => ⟨S, hs, q⟩⟩
  refine ⟨1, 21, rfl, ⟨by decide, by decide, by decide, by decide⟩, ?_⟩
  refine ⟨fun i σ' S' => ∃ o1 o3 o4 o5 o6 o7 o8 o9, σ' = [some (.rol (ns.map D.int)), o1, some (.tup (cs.map colD)), o3, o4, o5, o6, o7, o8, o9] ∧ Sub S S', ⟨_, none, none, none, none, none, none, none, rfl, b0⟩, fun _ _ _ _ => trivial, ?_, fun σ' S' ⟨_, _, _, _, _, _, _, _, _, h⟩ => fo h⟩
  rintro i d σ' S' hd ⟨o1, o3, o4, o5, o6, o7, o8, o9, rfl, hs⟩
  have hd : (rngD 1 20)[i]? = some d := hd
  obtain ⟨hi, rfl⟩ := rngD_get hd
  refine ⟨_, rfl, _, rfl, ⟨ns, 1 + i, by rw [show ((1 + i : Nat) : Int) = 1 + ((i : Nat) : Int) by omega]; rfl, by omega⟩, fun l hl => ?_⟩
  have bl : Sub S (S'.set l .well) := hs.trans (.new hl)
  have hW : (S'.set l .well) l = some .well := sset_same
  generalize S'.set l .well = S2 at bl hW ⊢
  refine ⟨_, rfl, l, rfl, hW, fun ky hky => ⟨sm (show 1 ≤ 100000 by decide), fun p1 hp1 => ?_⟩⟩
  have v1 : (S2.set p1 (.lst [.str ky])) p1 = some (.lst [.str ky]) := sset_same
  have b1 := bl.trans (.new (c := .lst [.str ky]) hp1)
  have w1 := wl (c := .lst [.str ky]) hW hp1
  generalize S2.set p1 (.lst [.str ky]) = S3 at v1 b1 w1 ⊢
  refine ⟨_, rfl, _, .inl rfl, ?_⟩
  refine comp_rel (fun _ u => ∃ v, u = .str (valS v) ∧ Vok v) trivial (by show (cs.map colD).length ≤ _; rw [List.length_map]; omega) (fun d hd Q hQ => ?_) fun out ho p2 hp2 => ?_
  · obtain ⟨c, hc, rfl⟩ := List.mem_map.mp hd
    exact ⟨_, rfl, rfl, _, _, rfl, _, _, rfl, rfl, _, rfl, _, rfl, l, c.2, rfl, w1, fun v hv _ => ⟨v, rfl, hv, hQ _ ⟨v, rfl, hv⟩⟩⟩
  obtain ⟨us, rfl, hul, hus⟩ := vals_of ho
  have hul : us.length = cs.length := hul.trans (List.length_map _)
  refine ⟨_, _, (Sub.new hp2) _ _ v1, sset_same, sm (by rw [List.length_map]; show 1 + _ ≤ _; omega), fun p3 hp3 => ?_⟩
  have b3 := (b1.trans (.new (c := .lst (us.map D.str)) hp2)).trans (.new (c := .lst ([D.str ky] ++ us.map D.str)) hp3)
  have w3 := wl (c := .lst ([D.str ky] ++ us.map D.str)) (wl (c := .lst (us.map D.str)) w1 hp2) hp3
  have v3 : ((S3.set p2 (.lst (us.map D.str))).set p3 (.lst ([D.str ky] ++ us.map D.str))) p3 = some (.lst ((ky :: us).map D.str)) := sset_same
  generalize (S3.set p2 (.lst (us.map D.str))).set p3 (.lst ([D.str ky] ++ us.map D.str)) = S4 at b3 w3 v3 ⊢
  have hws : ∀ u ∈ ky :: us, Tx 81 u := fun u hu => by
    rcases List.mem_cons.mp hu with e | hu
    · rw [e]; exact (key_tx hky).le (by decide)
    · exact hus u hu
  have hwt : wt' (ky :: us) ≤ 700 := by
    have e := wt_app [ky] us
    have h1 := wt_one ky
    have h2 := (key_tx hky).1
    have h3 : ky.length = ky.cps.size := rfl
    have h4 := wt_le hus
    rw [hul] at h4
    show wt' ([ky] ++ us) ≤ 700
    omega
  obtain ⟨j1, j2⟩ := join_go (us := ky :: us) (B := 700) (fun u hu => (hws u hu).2) hwt (by decide)
  refine ⟨rfl, _, rfl, " ", ky :: us, _, rfl, rfl, v3, j1, ?_⟩
  generalize Txt.join " " (ky :: us) = text at j2
  -- spoiled
  refine ⟨fun σ' S' => ∃ text o6, σ' = [some (.rol (ns.map D.int)), some (.ref l), some (.tup (cs.map colD)), some (.int (1 + ((i : Nat) : Int))), some (.ref p3), some (.str text), o6, o7, o8, o9] ∧ Tx 20200 text ∧ S' l = some .well ∧ S' p3 = some (.lst ((ky :: us).map D.str)) ∧ Sub S S', ?_, ?_⟩
  · refine ⟨_, rfl, l, _, rfl, (by decide), (by decide), w3, fun n4 h40 h41 => ⟨_, rfl, by omega, by omega, ?_⟩⟩
    refine ⟨fun j σ' S' => ∃ text o6, σ' = [some (.rol (ns.map D.int)), some (.ref l), some (.tup (cs.map colD)), some (.int (1 + ((i : Nat) : Int))), some (.ref p3), some (.str text), o6, o7, o8, o9] ∧ Tx (bnd j) text ∧ S' l = some .well ∧ S' p3 = some (.lst ((ky :: us).map D.str)) ∧ Sub S S', ⟨text, o6, rfl, j2, w3, v3, b3⟩, fun _ _ _ _ => trivial, ?_, ?_⟩
    · rintro j d σ' S6 hd ⟨text, o6, rfl, ht, hW6, hv6, hs6⟩
      have hd : (rngD 0 n4.toNat)[j]? = some d := hd
      obtain ⟨hj, rfl⟩ := rngD_get hd
      obtain ⟨g1, g2⟩ := bnd_step (i := j) (by omega)
      refine ⟨_, rfl, _, rfl, _, rfl, l, cs, text, bnd j, rfl, hg, hW6, ht, g1, fun u hu => ?_⟩
      rw [g2] at hu
      exact ⟨u, _, rfl, hu, hW6, hv6, hs6⟩
    · rintro σ' S6 ⟨text, o6, rfl, ht, hW6, hv6, hs6⟩
      exact fo ⟨text, o6, rfl, ht.le (bnd_le _), hW6, hv6, hs6⟩
  rintro σ' S6 ⟨text, o6', rfl, ht, hW6, hv6, hs6⟩
  have ht9 : Tx 90000 text := ht.le (by decide)
  -- the others
  refine ⟨_, rfl, _, .inl rfl, ?_⟩
  refine comp_rel (fun _ u => ∃ c : Str × Str, u = colD c ∧ (c.2 = "number" ∨ c.2 = "word")) trivial (by show (cs.map colD).length ≤ _; rw [List.length_map]; omega) (fun d hd Q hQ => ?_) fun out2 ho2 p4 hp4 => ?_
  · obtain ⟨c, hc, rfl⟩ := List.mem_map.mp hd
    refine ⟨_, rfl, rfl, _, _, rfl, _, _, rfl, rfl, _, rfl, sm (show 2 ≤ 100000 by decide), fun p hp => ⟨_, rfl, l, _, rfl, (by decide), (by decide), wl hW6 hp, fun n2 h20 h21 => pick_go h20 h21 hp fun d hd => ?_⟩⟩
    obtain ⟨kd, rfl, hkd'⟩ : ∃ kd : Str, d = .str kd ∧ (kd = "number" ∨ kd = "word") := by
      have hd : d ∈ [D.str "number", .str "word"] := hd
      simp only [List.mem_cons, List.not_mem_nil, or_false] at hd
      rcases hd with h | h
      · exact ⟨_, h, .inl rfl⟩
      · exact ⟨_, h, .inr rfl⟩
    exact ⟨sm (show 2 ≤ 100000 by decide), hQ _ ⟨(c.1, kd), rfl, hkd'⟩⟩
  obtain ⟨os, rfl, hol, hok⟩ := cols_out ho2
  have hol : os.length = cs.length := hol.trans (List.length_map _)
  refine ⟨_, _, rfl, .inl sset_same, ?_⟩
  have b7 := hs6.trans (.new (c := .lst (os.map colD)) hp4)
  have w7 := wl (c := .lst (os.map colD)) hW6 hp4
  have v7 := (Sub.new (c := .lst (os.map colD)) hp4) _ _ hv6
  generalize S6.set p4 (.lst (os.map colD)) = S7 at b7 w7 v7 ⊢
  have e1 : cutL (cs.map colD) (some 1) none = (cs.drop 1).map colD := by rw [cut_one, List.map_drop]
  refine ⟨fun σ' S' => ∃ o8, σ' = [some (.rol (ns.map D.int)), some (.ref l), some (.tup (cs.map colD)), some (.int (1 + ((i : Nat) : Int))), some (.ref p3), some (.str text), o6', some (.tup (os.map colD)), o8, o9] ∧ S' l = some .well ∧ S' p3 = some (.lst ((ky :: us).map D.str)) ∧ Sub S S', ?_, ?_⟩
  · refine ⟨_, rfl, _, rfl, _, rfl, _, rfl, _, rfl, sm (show 3 ≤ 100000 by decide), fun pl hpl => ⟨_, sset_same, ?_⟩⟩
    refine ⟨fun _ σ' S' => (∃ o8, σ' = [some (.rol (ns.map D.int)), some (.ref l), some (.tup (cs.map colD)), some (.int (1 + ((i : Nat) : Int))), some (.ref p3), some (.str text), o6', some (.tup (os.map colD)), o8, o9]) ∧ S' l = some .well ∧ S' p3 = some (.lst ((ky :: us).map D.str)) ∧ Sub S S' ∧ S' pl = some (.lst [.tup (cs.map colD), .tup (os.map colD), .tup (cutL (cs.map colD) (some 1) none)]), ⟨⟨o8, rfl⟩, wl w7 hpl, (Sub.new hpl) _ _ v7, b7.trans (.new hpl), sset_same⟩, fun _ _ _ h => h.2.2.2.2, ?_, fun σ' S' ⟨⟨o, h⟩, h2, h3, h4, _⟩ => fo ⟨o, h, h2, h3, h4⟩⟩
    rintro j d σ' S8 hd ⟨⟨o8', rfl⟩, w8, v8, b8, p8⟩
    obtain ⟨xs, rfl, hx8, hxk⟩ : ∃ xs : List (Str × Str), d = .tup (xs.map colD) ∧ xs.length ≤ 8 ∧ ∀ c ∈ xs, c.2 = "number" ∨ c.2 = "word" := by
      have hd : d ∈ [D.tup (cs.map colD), .tup (os.map colD), .tup (cutL (cs.map colD) (some 1) none)] := List.mem_of_getElem? hd
      rw [e1] at hd
      simp only [List.mem_cons, List.not_mem_nil, or_false] at hd
      rcases hd with e | e | e
      · exact ⟨cs, e, h8, hkd⟩
      · exact ⟨os, e, by omega, hok⟩
      · exact ⟨cs.drop 1, e, by rw [List.length_drop]; omega, fun c hc => hkd c (List.mem_of_mem_drop hc)⟩
    exact ⟨_, rfl, _, rfl, xs, .str text, rfl, hx8, ht9.rd, _, rfl, _, rfl, xs, text, rfl, hx8, hxk, ht9.1, eq_self (rF_ly ht9.2) ⟨_, rfl, iteF ⟨⟨_, rfl⟩, w8, v8, b8, p8⟩⟩⟩
  rintro σ' S8 ⟨o8', rfl, w8, v8, b8⟩
  have hts : text.length ≤ 20200 := ht.1
  have sz1 : text.length + (" " : Str).length ≤ sizeLine := sm (by show _ + 1 ≤ _; omega)
  have sz2 : (" " : Str).length + text.length ≤ sizeLine := sm (by show 1 + _ ≤ _; omega)
  have sz3 : text.length + ("
" : Str).length ≤ sizeLine := sm (by show _ + 1 ≤ _; omega)
  have sp1 : Tx 1 (" " : Str) := ⟨by decide +kernel, by decide +kernel⟩
  have nl1 : Tx 1 ("
" : Str) := ⟨by decide +kernel, by decide +kernel⟩
  have all5 : ∀ u ∈ ([" " ++ text, text ++ " ", repOne text " " "  ", text ++ "
", ""] : List Str), Tx 90000 u := fun u hu => by
    simp only [List.mem_cons, List.not_mem_nil, or_false] at hu
    rcases hu with rfl | rfl | rfl | rfl | rfl
    · exact (sp1.app ht).le (by decide)
    · exact (ht.app sp1).le (by decide)
    · exact (rep_tx ht).le (by decide)
    · exact (ht.app nl1).le (by decide)
    · exact ⟨by decide +kernel, by decide +kernel⟩
  refine ⟨fun σ' S' => ∃ o9, σ' = [some (.rol (ns.map D.int)), some (.ref l), some (.tup (cs.map colD)), some (.int (1 + ((i : Nat) : Int))), some (.ref p3), some (.str text), o6', some (.tup (os.map colD)), o8', o9] ∧ S' l = some .well ∧ S' p3 = some (.lst ((ky :: us).map D.str)) ∧ Sub S S', ?_, ?_⟩
  · refine ⟨_, rfl, sz2, _, rfl, sz1, _, rfl, text, rfl, (by show _ + 2 ≤ _; omega), _, rfl, sz3, sm (show 5 ≤ 100000 by decide), fun pl hpl => ⟨_, sset_same, ?_⟩⟩
    refine ⟨fun _ σ' S' => (∃ o9, σ' = [some (.rol (ns.map D.int)), some (.ref l), some (.tup (cs.map colD)), some (.int (1 + ((i : Nat) : Int))), some (.ref p3), some (.str text), o6', some (.tup (os.map colD)), o8', o9]) ∧ S' l = some .well ∧ S' p3 = some (.lst ((ky :: us).map D.str)) ∧ Sub S S' ∧ S' pl = some (.lst (([" " ++ text, text ++ " ", repOne text " " "  ", text ++ "
", ""] : List Str).map D.str)), ⟨⟨o9, rfl⟩, wl w8 hpl, (Sub.new hpl) _ _ v8, b8.trans (.new hpl), sset_same⟩, fun _ _ _ h => h.2.2.2.2, ?_, fun σ' S' ⟨⟨o, h⟩, h2, h3, h4, _⟩ => fo ⟨o, h, h2, h3, h4⟩⟩
    rintro j d σ' S9 hd ⟨⟨o9', rfl⟩, w9, v9, b9, p9⟩
    have hd : d ∈ ([" " ++ text, text ++ " ", repOne text " " "  ", text ++ "
", ""] : List Str).map D.str := List.mem_of_getElem? hd
    obtain ⟨u, hu, rfl⟩ := List.mem_map.mp hd
    have hu9 := all5 u hu
    exact ⟨_, rfl, _, rfl, cs, .str u, rfl, h8, hu9.rd, _, rfl, _, rfl, cs, u, rfl, h8, hkd, hu9.1, eq_self (rF_ly hu9.2) ⟨_, rfl, iteF ⟨⟨_, rfl⟩, w9, v9, b9, p9⟩⟩⟩
  rintro σ' S9 ⟨o9', rfl, w9, v9, b9⟩
  refine ⟨_, rfl, _, rfl, sm (show 0 ≤ 100000 by decide), sm (show 2 ≤ 100000 by decide), sm (show 5 ≤ 100000 by decide), fun p hp => ⟨_, rfl, l, _, rfl, (by decide), (by decide), wl w9 hp, fun n5 h50 h51 => pick_go h50 h51 hp fun d hd => ?_⟩⟩
  obtain ⟨hk, hno⟩ : (∃ k, kdV S9 d k) ∧ ∀ z, d ≠ .str z := by
    have hd : d ∈ [D.non, .int 7, .bl true, .ref p3, .tup [.str "a", .tup []]] := hd
    simp only [List.mem_cons, List.not_mem_nil, or_false] at hd
    rcases hd with rfl | rfl | rfl | rfl | rfl
    · exact ⟨⟨.non, rfl⟩, fun _ => nofun⟩
    · exact ⟨⟨.int, rfl⟩, fun _ => nofun⟩
    · exact ⟨⟨.bl, rfl⟩, fun _ => nofun⟩
    · exact ⟨⟨.lst, .inl ⟨rfl, _, v9⟩⟩, fun _ => nofun⟩
    · exact ⟨⟨.tup, rfl⟩, fun _ => nofun⟩
  refine ⟨cs, d, rfl, h8, ⟨hk, fun z e => absurd e (hno z)⟩, ?_⟩
  rw [rF_no cs hno]
  exact ⟨_, rfl, iteF ⟨_, _, _, _, _, _, _, _, rfl, b9⟩⟩
def sp_law (K : PySem.W.Frag) : Sp := fun vs H Q _ => SpL K spLaw vs H Q E0
theorem ok_law (T : Txt K mg t) : FnOk P w K mg base CX0 20 t.f_law t.d_law ["_law_script"] (sp_law K) := FnOk.calm (ok_lawD T)
end
theorem sp_start {K : PySem.W.Frag} {H : Hp} {a : Addr} {ns : List Int} (hl : ns.length ≤ 63) (hO : Only H) (hS : SqL K H a (ns.map V.int)) : sp_law K [.ref a] H (fun v _ => v = .bl true) fun _ _ _ => False := by
  have hR : RoL K H a (ns.map V.int) := by
    rcases hS with (h | h) | h
    · rcases hO a with q | ⟨o, xs, q⟩
      · rw [q] at h; cases h
      · rw [q] at h; cases h
    · exact .inl h
    · exact .inr h
  exact ⟨[.rol (ns.map D.int)], fun _ => none, fun d _ => d = .bl true, fun _ _ => False, ra_cons (rv_rol hR (ra_ints ns)) ra_nil, fun _ _ e => (by cases e), ⟨ns, rfl, hl, rfl⟩, fun d S v H' e r _ _ => by subst e; exact r.bl, fun _ _ _ z => z.elim⟩
end My
namespace My
open PySem L2
theorem txt_mk {K : PySem.W.Frag} {h : Heap} {mg : Str → Option Value} (X : K.In h) (G : h.Ns mainGlobals mg)
    {f0 : Addr} {od0 an0 : Option Addr} {sl0 : Array (Option Value)} {oc0 kV0 dc0 pm0 cd0 ct0 : Value}
    {f1 : Addr} {od1 an1 : Option Addr} {sl1 : Array (Option Value)} {oc1 kV1 dc1 pm1 cd1 ct1 : Value}
    {f2 : Addr} {od2 an2 : Option Addr} {sl2 : Array (Option Value)} {oc2 kV2 dc2 pm2 cd2 ct2 : Value}
    {f3 : Addr} {od3 an3 : Option Addr} {sl3 : Array (Option Value)} {oc3 kV3 dc3 pm3 cd3 ct3 : Value}
    {f4 : Addr} {od4 an4 : Option Addr} {sl4 : Array (Option Value)} {oc4 kV4 dc4 pm4 cd4 ct4 : Value}
    {f5 : Addr} {od5 an5 : Option Addr} {sl5 : Array (Option Value)} {oc5 kV5 dc5 pm5 cd5 ct5 : Value}
    {f6 : Addr} {od6 an6 : Option Addr} {sl6 : Array (Option Value)} {oc6 kV6 dc6 pm6 cd6 ct6 : Value}
    {f7 : Addr} {od7 an7 : Option Addr} {sl7 : Array (Option Value)} {oc7 kV7 dc7 pm7 cd7 ct7 : Value}
    {f8 : Addr} {od8 an8 : Option Addr} {sl8 : Array (Option Value)} {oc8 kV8 dc8 pm8 cd8 ct8 : Value}
    {f9 : Addr} {od9 an9 : Option Addr} {sl9 : Array (Option Value)} {oc9 kV9 dc9 pm9 cd9 ct9 : Value}
    {f10 : Addr} {od10 an10 : Option Addr} {sl10 : Array (Option Value)} {oc10 kV10 dc10 pm10 cd10 ct10 : Value}
    {f11 : Addr} {od11 an11 : Option Addr} {sl11 : Array (Option Value)} {oc11 kV11 dc11 pm11 cd11 ct11 : Value}
    {f12 : Addr} {od12 an12 : Option Addr} {sl12 : Array (Option Value)} {oc12 kV12 dc12 pm12 cd12 ct12 : Value}
    {f13 : Addr} {od13 an13 : Option Addr} {sl13 : Array (Option Value)} {oc13 kV13 dc13 pm13 cd13 ct13 : Value}
    {f14 : Addr} {od14 an14 : Option Addr} {sl14 : Array (Option Value)} {oc14 kV14 dc14 pm14 cd14 ct14 : Value}
    {f15 : Addr} {od15 an15 : Option Addr} {sl15 : Array (Option Value)} {oc15 kV15 dc15 pm15 cd15 ct15 : Value}
    {f16 : Addr} {od16 an16 : Option Addr} {sl16 : Array (Option Value)} {oc16 kV16 dc16 pm16 cd16 ct16 : Value}
    {f17 : Addr} {od17 an17 : Option Addr} {sl17 : Array (Option Value)} {oc17 kV17 dc17 pm17 cd17 ct17 : Value}
    {f18 : Addr} {od18 an18 : Option Addr} {sl18 : Array (Option Value)} {oc18 kV18 dc18 pm18 cd18 ct18 : Value}
    {f19 : Addr} {od19 an19 : Option Addr} {sl19 : Array (Option Value)} {oc19 kV19 dc19 pm19 cd19 ct19 : Value}
    {f20 : Addr} {od20 an20 : Option Addr} {sl20 : Array (Option Value)} {oc20 kV20 dc20 pm20 cd20 ct20 : Value}
    {f21 : Addr} {od21 an21 : Option Addr} {sl21 : Array (Option Value)} {oc21 kV21 dc21 pm21 cd21 ct21 : Value}
    {f22 : Addr} {od22 an22 : Option Addr} {sl22 : Array (Option Value)} {oc22 kV22 dc22 pm22 cd22 ct22 : Value}
    {f23 : Addr} {od23 an23 : Option Addr} {sl23 : Array (Option Value)} {oc23 kV23 dc23 pm23 cd23 ct23 : Value}
    {f24 : Addr} {od24 an24 : Option Addr} {sl24 : Array (Option Value)} {oc24 kV24 dc24 pm24 cd24 ct24 : Value}
    {f25 : Addr} {od25 an25 : Option Addr} {sl25 : Array (Option Value)} {oc25 kV25 dc25 pm25 cd25 ct25 : Value}
    {f26 : Addr} {od26 an26 : Option Addr} {sl26 : Array (Option Value)} {oc26 kV26 dc26 pm26 cd26 ct26 : Value}
    {f27 : Addr} {od27 an27 : Option Addr} {sl27 : Array (Option Value)} {oc27 kV27 dc27 pm27 cd27 ct27 : Value}
    {f28 : Addr} {od28 an28 : Option Addr} {sl28 : Array (Option Value)} {oc28 kV28 dc28 pm28 cd28 ct28 : Value}
    {f29 : Addr} {od29 an29 : Option Addr} {sl29 : Array (Option Value)} {oc29 kV29 dc29 pm29 cd29 ct29 : Value}
    {f30 : Addr} {od30 an30 : Option Addr} {sl30 : Array (Option Value)} {oc30 kV30 dc30 pm30 cd30 ct30 : Value}
    {f31 : Addr} {od31 an31 : Option Addr} {sl31 : Array (Option Value)} {oc31 kV31 dc31 pm31 cd31 ct31 : Value}
    {f32 : Addr} {od32 an32 : Option Addr} {sl32 : Array (Option Value)} {oc32 kV32 dc32 pm32 cd32 ct32 : Value}
    {f33 : Addr} {od33 an33 : Option Addr} {sl33 : Array (Option Value)} {oc33 kV33 dc33 pm33 cd33 ct33 : Value}
    {f34 : Addr} {od34 an34 : Option Addr} {sl34 : Array (Option Value)} {oc34 kV34 dc34 pm34 cd34 ct34 : Value}
    {tk_MOST_KEY_SIGNS : Tok}
    {tk_MOST_WORD_SIGNS : Tok}
    {tk_MOST_NUMBER_FIGURES : Tok}
    {c_PageError : Addr}
    {c_BadColumns : Addr}
    {c_BadRow : Addr}
    {c_BadOrder : Addr}
    {c_BadSieve : Addr}
    {c_NoMark : Addr}
    {c_NoText : Addr}
    (g_PageError : PySem.W.nsIn K mainGlobals "PageError" = some (some (.ref c_PageError)))
    (g_BadColumns : PySem.W.nsIn K mainGlobals "BadColumns" = some (some (.ref c_BadColumns)))
    (g_BadRow : PySem.W.nsIn K mainGlobals "BadRow" = some (some (.ref c_BadRow)))
    (g_BadOrder : PySem.W.nsIn K mainGlobals "BadOrder" = some (some (.ref c_BadOrder)))
    (g_BadSieve : PySem.W.nsIn K mainGlobals "BadSieve" = some (some (.ref c_BadSieve)))
    (g_NoMark : PySem.W.nsIn K mainGlobals "NoMark" = some (some (.ref c_NoMark)))
    (g_NoText : PySem.W.nsIn K mainGlobals "NoText" = some (some (.ref c_NoText)))
    (a0 : PySem.W.nsIn K mainGlobals "is_whole" = some (some (.ref f0)))
    (l0 : K.lookup f0 = some ⟨oc0, od0, .func (PySem.W.fnOf "is_whole" "is_whole" (defArgs s_is_whole) (defBody s_is_whole) (defScope s_is_whole) (.none) kV0 dc0 pm0 an0 cd0 ct0), sl0⟩)
    (c0 : PySem.W.codeIn K cd0 "is_whole" = true)
    (k0 : PySem.W.keepIn K (.ref f0) = true)
    (a1 : PySem.W.nsIn K mainGlobals "is_letter" = some (some (.ref f1)))
    (l1 : K.lookup f1 = some ⟨oc1, od1, .func (PySem.W.fnOf "is_letter" "is_letter" (defArgs s_is_letter) (defBody s_is_letter) (defScope s_is_letter) (.none) kV1 dc1 pm1 an1 cd1 ct1), sl1⟩)
    (c1 : PySem.W.codeIn K cd1 "is_letter" = true)
    (k1 : PySem.W.keepIn K (.ref f1) = true)
    (a2 : PySem.W.nsIn K mainGlobals "is_figure" = some (some (.ref f2)))
    (l2 : K.lookup f2 = some ⟨oc2, od2, .func (PySem.W.fnOf "is_figure" "is_figure" (defArgs s_is_figure) (defBody s_is_figure) (defScope s_is_figure) (.none) kV2 dc2 pm2 an2 cd2 ct2), sl2⟩)
    (c2 : PySem.W.codeIn K cd2 "is_figure" = true)
    (k2 : PySem.W.keepIn K (.ref f2) = true)
    (a3 : PySem.W.nsIn K mainGlobals "is_key" = some (some (.ref f3)))
    (l3 : K.lookup f3 = some ⟨oc3, od3, .func (PySem.W.fnOf "is_key" "is_key" (defArgs s_is_key) (defBody s_is_key) (defScope s_is_key) (.none) kV3 dc3 pm3 an3 cd3 ct3), sl3⟩)
    (c3 : PySem.W.codeIn K cd3 "is_key" = true)
    (k3 : PySem.W.keepIn K (.ref f3) = true)
    (a4 : PySem.W.nsIn K mainGlobals "is_word" = some (some (.ref f4)))
    (l4 : K.lookup f4 = some ⟨oc4, od4, .func (PySem.W.fnOf "is_word" "is_word" (defArgs s_is_word) (defBody s_is_word) (defScope s_is_word) (.none) kV4 dc4 pm4 an4 cd4 ct4), sl4⟩)
    (c4 : PySem.W.codeIn K cd4 "is_word" = true)
    (k4 : PySem.W.keepIn K (.ref f4) = true)
    (a5 : PySem.W.nsIn K mainGlobals "is_value" = some (some (.ref f5)))
    (l5 : K.lookup f5 = some ⟨oc5, od5, .func (PySem.W.fnOf "is_value" "is_value" (defArgs s_is_value) (defBody s_is_value) (defScope s_is_value) (.none) kV5 dc5 pm5 an5 cd5 ct5), sl5⟩)
    (c5 : PySem.W.codeIn K cd5 "is_value" = true)
    (k5 : PySem.W.keepIn K (.ref f5) = true)
    (a6 : PySem.W.nsIn K mainGlobals "check_row" = some (some (.ref f6)))
    (l6 : K.lookup f6 = some ⟨oc6, od6, .func (PySem.W.fnOf "check_row" "check_row" (defArgs s_check_row) (defBody s_check_row) (defScope s_check_row) (.none) kV6 dc6 pm6 an6 cd6 ct6), sl6⟩)
    (c6 : PySem.W.codeIn K cd6 "check_row" = true)
    (k6 : PySem.W.keepIn K (.ref f6) = true)
    (a7 : PySem.W.nsIn K mainGlobals "are_worths" = some (some (.ref f7)))
    (l7 : K.lookup f7 = some ⟨oc7, od7, .func (PySem.W.fnOf "are_worths" "are_worths" (defArgs s_are_worths) (defBody s_are_worths) (defScope s_are_worths) (.none) kV7 dc7 pm7 an7 cd7 ct7), sl7⟩)
    (c7 : PySem.W.codeIn K cd7 "are_worths" = true)
    (k7 : PySem.W.keepIn K (.ref f7) = true)
    (a8 : PySem.W.nsIn K mainGlobals "value_text" = some (some (.ref f8)))
    (l8 : K.lookup f8 = some ⟨oc8, od8, .func (PySem.W.fnOf "value_text" "value_text" (defArgs s_value_text) (defBody s_value_text) (defScope s_value_text) (.none) kV8 dc8 pm8 an8 cd8 ct8), sl8⟩)
    (c8 : PySem.W.codeIn K cd8 "value_text" = true)
    (k8 : PySem.W.keepIn K (.ref f8) = true)
    (a9 : PySem.W.nsIn K mainGlobals "is_value_text" = some (some (.ref f9)))
    (l9 : K.lookup f9 = some ⟨oc9, od9, .func (PySem.W.fnOf "is_value_text" "is_value_text" (defArgs s_is_value_text) (defBody s_is_value_text) (defScope s_is_value_text) (.none) kV9 dc9 pm9 an9 cd9 ct9), sl9⟩)
    (c9 : PySem.W.codeIn K cd9 "is_value_text" = true)
    (k9 : PySem.W.keepIn K (.ref f9) = true)
    (a10 : PySem.W.nsIn K mainGlobals "value_of_text" = some (some (.ref f10)))
    (l10 : K.lookup f10 = some ⟨oc10, od10, .func (PySem.W.fnOf "value_of_text" "value_of_text" (defArgs s_value_of_text) (defBody s_value_of_text) (defScope s_value_of_text) (.none) kV10 dc10 pm10 an10 cd10 ct10), sl10⟩)
    (c10 : PySem.W.codeIn K cd10 "value_of_text" = true)
    (k10 : PySem.W.keepIn K (.ref f10) = true)
    (a11 : PySem.W.nsIn K mainGlobals "is_number_text" = some (some (.ref f11)))
    (l11 : K.lookup f11 = some ⟨oc11, od11, .func (PySem.W.fnOf "is_number_text" "is_number_text" (defArgs s_is_number_text) (defBody s_is_number_text) (defScope s_is_number_text) (.none) kV11 dc11 pm11 an11 cd11 ct11), sl11⟩)
    (c11 : PySem.W.codeIn K cd11 "is_number_text" = true)
    (k11 : PySem.W.keepIn K (.ref f11) = true)
    (a12 : PySem.W.nsIn K mainGlobals "read_row" = some (some (.ref f12)))
    (l12 : K.lookup f12 = some ⟨oc12, od12, .func (PySem.W.fnOf "read_row" "read_row" (defArgs s_read_row) (defBody s_read_row) (defScope s_read_row) (.none) kV12 dc12 pm12 an12 cd12 ct12), sl12⟩)
    (c12 : PySem.W.codeIn K cd12 "read_row" = true)
    (k12 : PySem.W.keepIn K (.ref f12) = true)
    (a13 : PySem.W.nsIn K mainGlobals "row_in" = some (some (.ref f13)))
    (l13 : K.lookup f13 = some ⟨oc13, od13, .func (PySem.W.fnOf "row_in" "row_in" (defArgs s_row_in) (defBody s_row_in) (defScope s_row_in) (.none) kV13 dc13 pm13 an13 cd13 ct13), sl13⟩)
    (c13 : PySem.W.codeIn K cd13 "row_in" = true)
    (k13 : PySem.W.keepIn K (.ref f13) = true)
    (a14 : PySem.W.nsIn K mainGlobals "words_of" = some (some (.ref f14)))
    (l14 : K.lookup f14 = some ⟨oc14, od14, .func (PySem.W.fnOf "words_of" "words_of" (defArgs s_words_of) (defBody s_words_of) (defScope s_words_of) (.none) kV14 dc14 pm14 an14 cd14 ct14), sl14⟩)
    (c14 : PySem.W.codeIn K cd14 "words_of" = true)
    (k14 : PySem.W.keepIn K (.ref f14) = true)
    (a15 : PySem.W.nsIn K mainGlobals "check_names" = some (some (.ref f15)))
    (l15 : K.lookup f15 = some ⟨oc15, od15, .func (PySem.W.fnOf "check_names" "check_names" (defArgs s_check_names) (defBody s_check_names) (defScope s_check_names) (.none) kV15 dc15 pm15 an15 cd15 ct15), sl15⟩)
    (c15 : PySem.W.codeIn K cd15 "check_names" = true)
    (k15 : PySem.W.keepIn K (.ref f15) = true)
    (a16 : PySem.W.nsIn K mainGlobals "value_in_word" = some (some (.ref f16)))
    (l16 : K.lookup f16 = some ⟨oc16, od16, .func (PySem.W.fnOf "value_in_word" "value_in_word" (defArgs s_value_in_word) (defBody s_value_in_word) (defScope s_value_in_word) (.none) kV16 dc16 pm16 an16 cd16 ct16), sl16⟩)
    (c16 : PySem.W.codeIn K cd16 "value_in_word" = true)
    (k16 : PySem.W.keepIn K (.ref f16) = true)
    (a17 : PySem.W.nsIn K mainGlobals "_law_well" = some (some (.ref f17)))
    (l17 : K.lookup f17 = some ⟨oc17, od17, .func (PySem.W.fnOf "_law_well" "_law_well" (defArgs s_l_well) (defBody s_l_well) (defScope s_l_well) (.none) kV17 dc17 pm17 an17 cd17 ct17), sl17⟩)
    (c17 : PySem.W.codeIn K cd17 "_law_well" = true)
    (k17 : PySem.W.keepIn K (.ref f17) = true)
    (a18 : PySem.W.nsIn K mainGlobals "_law_draw" = some (some (.ref f18)))
    (l18 : K.lookup f18 = some ⟨oc18, od18, .func (PySem.W.fnOf "_law_draw" "_law_draw" (defArgs s_l_draw) (defBody s_l_draw) (defScope s_l_draw) (.none) kV18 dc18 pm18 an18 cd18 ct18), sl18⟩)
    (c18 : PySem.W.codeIn K cd18 "_law_draw" = true)
    (k18 : PySem.W.keepIn K (.ref f18) = true)
    (a19 : PySem.W.nsIn K mainGlobals "_law_columns" = some (some (.ref f19)))
    (l19 : K.lookup f19 = some ⟨oc19, od19, .func (PySem.W.fnOf "_law_columns" "_law_columns" (defArgs s_l_columns) (defBody s_l_columns) (defScope s_l_columns) (.none) kV19 dc19 pm19 an19 cd19 ct19), sl19⟩)
    (c19 : PySem.W.codeIn K cd19 "_law_columns" = true)
    (k19 : PySem.W.keepIn K (.ref f19) = true)
    (a20 : PySem.W.nsIn K mainGlobals "_law_number" = some (some (.ref f20)))
    (l20 : K.lookup f20 = some ⟨oc20, od20, .func (PySem.W.fnOf "_law_number" "_law_number" (defArgs s_l_number) (defBody s_l_number) (defScope s_l_number) (.none) kV20 dc20 pm20 an20 cd20 ct20), sl20⟩)
    (c20 : PySem.W.codeIn K cd20 "_law_number" = true)
    (k20 : PySem.W.keepIn K (.ref f20) = true)
    (a21 : PySem.W.nsIn K mainGlobals "_law_word" = some (some (.ref f21)))
    (l21 : K.lookup f21 = some ⟨oc21, od21, .func (PySem.W.fnOf "_law_word" "_law_word" (defArgs s_l_word) (defBody s_l_word) (defScope s_l_word) (.none) kV21 dc21 pm21 an21 cd21 ct21), sl21⟩)
    (c21 : PySem.W.codeIn K cd21 "_law_word" = true)
    (k21 : PySem.W.keepIn K (.ref f21) = true)
    (a22 : PySem.W.nsIn K mainGlobals "_law_value" = some (some (.ref f22)))
    (l22 : K.lookup f22 = some ⟨oc22, od22, .func (PySem.W.fnOf "_law_value" "_law_value" (defArgs s_l_value) (defBody s_l_value) (defScope s_l_value) (.none) kV22 dc22 pm22 an22 cd22 ct22), sl22⟩)
    (c22 : PySem.W.codeIn K cd22 "_law_value" = true)
    (k22 : PySem.W.keepIn K (.ref f22) = true)
    (a23 : PySem.W.nsIn K mainGlobals "_law_key" = some (some (.ref f23)))
    (l23 : K.lookup f23 = some ⟨oc23, od23, .func (PySem.W.fnOf "_law_key" "_law_key" (defArgs s_l_key) (defBody s_l_key) (defScope s_l_key) (.none) kV23 dc23 pm23 an23 cd23 ct23), sl23⟩)
    (c23 : PySem.W.codeIn K cd23 "_law_key" = true)
    (k23 : PySem.W.keepIn K (.ref f23) = true)
    (a24 : PySem.W.nsIn K mainGlobals "_law_value_text" = some (some (.ref f24)))
    (l24 : K.lookup f24 = some ⟨oc24, od24, .func (PySem.W.fnOf "_law_value_text" "_law_value_text" (defArgs s_l_value_text) (defBody s_l_value_text) (defScope s_l_value_text) (.none) kV24 dc24 pm24 an24 cd24 ct24), sl24⟩)
    (c24 : PySem.W.codeIn K cd24 "_law_value_text" = true)
    (k24 : PySem.W.keepIn K (.ref f24) = true)
    (a25 : PySem.W.nsIn K mainGlobals "_law_are_figures" = some (some (.ref f25)))
    (l25 : K.lookup f25 = some ⟨oc25, od25, .func (PySem.W.fnOf "_law_are_figures" "_law_are_figures" (defArgs s_l_are_figures) (defBody s_l_are_figures) (defScope s_l_are_figures) (.none) kV25 dc25 pm25 an25 cd25 ct25), sl25⟩)
    (c25 : PySem.W.codeIn K cd25 "_law_are_figures" = true)
    (k25 : PySem.W.keepIn K (.ref f25) = true)
    (a26 : PySem.W.nsIn K mainGlobals "_law_fits" = some (some (.ref f26)))
    (l26 : K.lookup f26 = some ⟨oc26, od26, .func (PySem.W.fnOf "_law_fits" "_law_fits" (defArgs s_l_fits) (defBody s_l_fits) (defScope s_l_fits) (.none) kV26 dc26 pm26 an26 cd26 ct26), sl26⟩)
    (c26 : PySem.W.codeIn K cd26 "_law_fits" = true)
    (k26 : PySem.W.keepIn K (.ref f26) = true)
    (a27 : PySem.W.nsIn K mainGlobals "_law_told" = some (some (.ref f27)))
    (l27 : K.lookup f27 = some ⟨oc27, od27, .func (PySem.W.fnOf "_law_told" "_law_told" (defArgs s_l_told) (defBody s_l_told) (defScope s_l_told) (.none) kV27 dc27 pm27 an27 cd27 ct27), sl27⟩)
    (c27 : PySem.W.codeIn K cd27 "_law_told" = true)
    (k27 : PySem.W.keepIn K (.ref f27) = true)
    (a28 : PySem.W.nsIn K mainGlobals "_law_is_value_text" = some (some (.ref f28)))
    (l28 : K.lookup f28 = some ⟨oc28, od28, .func (PySem.W.fnOf "_law_is_value_text" "_law_is_value_text" (defArgs s_l_is_value_text) (defBody s_l_is_value_text) (defScope s_l_is_value_text) (.none) kV28 dc28 pm28 an28 cd28 ct28), sl28⟩)
    (c28 : PySem.W.codeIn K cd28 "_law_is_value_text" = true)
    (k28 : PySem.W.keepIn K (.ref f28) = true)
    (a29 : PySem.W.nsIn K mainGlobals "_law_is_key" = some (some (.ref f29)))
    (l29 : K.lookup f29 = some ⟨oc29, od29, .func (PySem.W.fnOf "_law_is_key" "_law_is_key" (defArgs s_l_is_key) (defBody s_l_is_key) (defScope s_l_is_key) (.none) kV29 dc29 pm29 an29 cd29 ct29), sl29⟩)
    (c29 : PySem.W.codeIn K cd29 "_law_is_key" = true)
    (k29 : PySem.W.keepIn K (.ref f29) = true)
    (a30 : PySem.W.nsIn K mainGlobals "_law_menu" = some (some (.ref f30)))
    (l30 : K.lookup f30 = some ⟨oc30, od30, .func (PySem.W.fnOf "_law_menu" "_law_menu" (defArgs s_l_menu) (defBody s_l_menu) (defScope s_l_menu) (.none) kV30 dc30 pm30 an30 cd30 ct30), sl30⟩)
    (c30 : PySem.W.codeIn K cd30 "_law_menu" = true)
    (k30 : PySem.W.keepIn K (.ref f30) = true)
    (a31 : PySem.W.nsIn K mainGlobals "_law_spoiled" = some (some (.ref f31)))
    (l31 : K.lookup f31 = some ⟨oc31, od31, .func (PySem.W.fnOf "_law_spoiled" "_law_spoiled" (defArgs s_l_spoiled) (defBody s_l_spoiled) (defScope s_l_spoiled) (.none) kV31 dc31 pm31 an31 cd31 ct31), sl31⟩)
    (c31 : PySem.W.codeIn K cd31 "_law_spoiled" = true)
    (k31 : PySem.W.keepIn K (.ref f31) = true)
    (a32 : PySem.W.nsIn K mainGlobals "_law_due" = some (some (.ref f32)))
    (l32 : K.lookup f32 = some ⟨oc32, od32, .func (PySem.W.fnOf "_law_due" "_law_due" (defArgs s_l_due) (defBody s_l_due) (defScope s_l_due) (.none) kV32 dc32 pm32 an32 cd32 ct32), sl32⟩)
    (c32 : PySem.W.codeIn K cd32 "_law_due" = true)
    (k32 : PySem.W.keepIn K (.ref f32) = true)
    (a33 : PySem.W.nsIn K mainGlobals "_law_found" = some (some (.ref f33)))
    (l33 : K.lookup f33 = some ⟨oc33, od33, .func (PySem.W.fnOf "_law_found" "_law_found" (defArgs s_l_found) (defBody s_l_found) (defScope s_l_found) (.none) kV33 dc33 pm33 an33 cd33 ct33), sl33⟩)
    (c33 : PySem.W.codeIn K cd33 "_law_found" = true)
    (k33 : PySem.W.keepIn K (.ref f33) = true)
    (a34 : PySem.W.nsIn K mainGlobals "law" = some (some (.ref f34)))
    (l34 : K.lookup f34 = some ⟨oc34, od34, .func (PySem.W.fnOf "law" "law" (defArgs s_law) (defBody s_law) (defScope s_law) (.none) kV34 dc34 pm34 an34 cd34 ct34), sl34⟩)
    (c34 : PySem.W.codeIn K cd34 "law" = true)
    (k34 : PySem.W.keepIn K (.ref f34) = true)
    (v_MOST_KEY_SIGNS : PySem.W.nsIn K mainGlobals "MOST_KEY_SIGNS" = some (some (.int 12 tk_MOST_KEY_SIGNS)))
    (v_MOST_WORD_SIGNS : PySem.W.nsIn K mainGlobals "MOST_WORD_SIGNS" = some (some (.int 40 tk_MOST_WORD_SIGNS)))
    (v_MOST_NUMBER_FIGURES : PySem.W.nsIn K mainGlobals "MOST_NUMBER_FIGURES" = some (some (.int 60 tk_MOST_NUMBER_FIGURES)))
    (z_len : PySem.W.nsIn K mainGlobals "len" = some none)
    (z_all : PySem.W.nsIn K mainGlobals "all" = some none)
    (z_isinstance : PySem.W.nsIn K mainGlobals "isinstance" = some none)
    (z_range : PySem.W.nsIn K mainGlobals "range" = some none)
    (z_int : PySem.W.nsIn K mainGlobals "int" = some none)
    (z_str : PySem.W.nsIn K mainGlobals "str" = some none)
    (z_bool : PySem.W.nsIn K mainGlobals "bool" = some none)
    (z_tuple : PySem.W.nsIn K mainGlobals "tuple" = some none)
    (z_zip : PySem.W.nsIn K mainGlobals "zip" = some none)
    (z_ValueError : PySem.W.nsIn K mainGlobals "ValueError" = some none)
    (x_PageError : PySem.W.excIn K c_PageError L2.vErr "ValueError.__new__" = true)
    (x_BadColumns : PySem.W.excIn K c_BadColumns L2.vErr "ValueError.__new__" = true)
    (x_BadRow : PySem.W.excIn K c_BadRow L2.vErr "ValueError.__new__" = true)
    (x_BadOrder : PySem.W.excIn K c_BadOrder L2.vErr "ValueError.__new__" = true)
    (x_BadSieve : PySem.W.excIn K c_BadSieve L2.vErr "ValueError.__new__" = true)
    (x_NoMark : PySem.W.excIn K c_NoMark L2.vErr "ValueError.__new__" = true)
    (x_NoText : PySem.W.excIn K c_NoText L2.vErr "ValueError.__new__" = true)
    (ga_BadRow : PySem.W.findIn K (.ref c_BadRow) "__getattribute__" = some (some (.builtin "BaseException.__getattribute__")))
    (gh_BadRow : PySem.W.findIn K (.ref c_BadRow) "__getattr__" = some none)
    (gc_BadRow : PySem.W.findIn K (.ref c_BadRow) "__class__" = some (some (.builtin "object.__class__")))
    (m_BadRow_PageError : PySem.W.mroIn K c_BadRow (.ref c_PageError) = some true)
    (k_BadRow_NoText : PySem.W.kitOne K (.ref c_BadRow) (.ref c_NoText) = some false)
    (k_BadRow_BadRow : PySem.W.kitOne K (.ref c_BadRow) (.ref c_BadRow) = some true)
    (k_BadRow_BadOrder : PySem.W.kitOne K (.ref c_BadRow) (.ref c_BadOrder) = some false)
    (k_BadRow_BadSieve : PySem.W.kitOne K (.ref c_BadRow) (.ref c_BadSieve) = some false)
    (k_BadRow_BadColumns : PySem.W.kitOne K (.ref c_BadRow) (.ref c_BadColumns) = some false)
    (k_BadRow_NoMark : PySem.W.kitOne K (.ref c_BadRow) (.ref c_NoMark) = some false)
    (k_BadRow_ValueError : PySem.W.kitOne K (.ref c_BadRow) (.type "ValueError") = some true)
    (ga_NoText : PySem.W.findIn K (.ref c_NoText) "__getattribute__" = some (some (.builtin "BaseException.__getattribute__")))
    (gh_NoText : PySem.W.findIn K (.ref c_NoText) "__getattr__" = some none)
    (gc_NoText : PySem.W.findIn K (.ref c_NoText) "__class__" = some (some (.builtin "object.__class__")))
    (m_NoText_PageError : PySem.W.mroIn K c_NoText (.ref c_PageError) = some true)
    (k_NoText_NoText : PySem.W.kitOne K (.ref c_NoText) (.ref c_NoText) = some true)
    (k_NoText_BadRow : PySem.W.kitOne K (.ref c_NoText) (.ref c_BadRow) = some false)
    (k_NoText_BadOrder : PySem.W.kitOne K (.ref c_NoText) (.ref c_BadOrder) = some false)
    (k_NoText_BadSieve : PySem.W.kitOne K (.ref c_NoText) (.ref c_BadSieve) = some false)
    (k_NoText_BadColumns : PySem.W.kitOne K (.ref c_NoText) (.ref c_BadColumns) = some false)
    (k_NoText_NoMark : PySem.W.kitOne K (.ref c_NoText) (.ref c_NoMark) = some false)
    (k_NoText_ValueError : PySem.W.kitOne K (.ref c_NoText) (.type "ValueError") = some true)
    : ∃ t : Adr, Txt K mg t := by
  have F0 : FunV K "is_whole" "is_whole" s_is_whole f0 _ := ⟨_, _, _, _, _, _, _, _, _, _, rfl, l0, c0⟩
  have b0 : Binds K (PySem.W.fnOf "is_whole" "is_whole" (defArgs s_is_whole) (defBody s_is_whole) (defScope s_is_whole) .none kV0 dc0 pm0 an0 cd0 ct0) ["thing"] [] := .all fun us hl => match us, hl with | [_], _ => rfl
  have F1 : FunV K "is_letter" "is_letter" s_is_letter f1 _ := ⟨_, _, _, _, _, _, _, _, _, _, rfl, l1, c1⟩
  have b1 : Binds K (PySem.W.fnOf "is_letter" "is_letter" (defArgs s_is_letter) (defBody s_is_letter) (defScope s_is_letter) .none kV1 dc1 pm1 an1 cd1 ct1) ["sign"] [] := .all fun us hl => match us, hl with | [_], _ => rfl
  have F2 : FunV K "is_figure" "is_figure" s_is_figure f2 _ := ⟨_, _, _, _, _, _, _, _, _, _, rfl, l2, c2⟩
  have b2 : Binds K (PySem.W.fnOf "is_figure" "is_figure" (defArgs s_is_figure) (defBody s_is_figure) (defScope s_is_figure) .none kV2 dc2 pm2 an2 cd2 ct2) ["sign"] [] := .all fun us hl => match us, hl with | [_], _ => rfl
  have F3 : FunV K "is_key" "is_key" s_is_key f3 _ := ⟨_, _, _, _, _, _, _, _, _, _, rfl, l3, c3⟩
  have b3 : Binds K (PySem.W.fnOf "is_key" "is_key" (defArgs s_is_key) (defBody s_is_key) (defScope s_is_key) .none kV3 dc3 pm3 an3 cd3 ct3) ["thing"] [] := .all fun us hl => match us, hl with | [_], _ => rfl
  have F4 : FunV K "is_word" "is_word" s_is_word f4 _ := ⟨_, _, _, _, _, _, _, _, _, _, rfl, l4, c4⟩
  have b4 : Binds K (PySem.W.fnOf "is_word" "is_word" (defArgs s_is_word) (defBody s_is_word) (defScope s_is_word) .none kV4 dc4 pm4 an4 cd4 ct4) ["thing"] [] := .all fun us hl => match us, hl with | [_], _ => rfl
  have F5 : FunV K "is_value" "is_value" s_is_value f5 _ := ⟨_, _, _, _, _, _, _, _, _, _, rfl, l5, c5⟩
  have b5 : Binds K (PySem.W.fnOf "is_value" "is_value" (defArgs s_is_value) (defBody s_is_value) (defScope s_is_value) .none kV5 dc5 pm5 an5 cd5 ct5) ["kind", "thing"] [] := .all fun us hl => match us, hl with | [_, _], _ => rfl
  have F6 : FunV K "check_row" "check_row" s_check_row f6 _ := ⟨_, _, _, _, _, _, _, _, _, _, rfl, l6, c6⟩
  have b6 : Binds K (PySem.W.fnOf "check_row" "check_row" (defArgs s_check_row) (defBody s_check_row) (defScope s_check_row) .none kV6 dc6 pm6 an6 cd6 ct6) ["columns", "row"] [] := .all fun us hl => match us, hl with | [_, _], _ => rfl
  have F7 : FunV K "are_worths" "are_worths" s_are_worths f7 _ := ⟨_, _, _, _, _, _, _, _, _, _, rfl, l7, c7⟩
  have b7 : Binds K (PySem.W.fnOf "are_worths" "are_worths" (defArgs s_are_worths) (defBody s_are_worths) (defScope s_are_worths) .none kV7 dc7 pm7 an7 cd7 ct7) ["columns", "thing"] [] := .all fun us hl => match us, hl with | [_, _], _ => rfl
  have F8 : FunV K "value_text" "value_text" s_value_text f8 _ := ⟨_, _, _, _, _, _, _, _, _, _, rfl, l8, c8⟩
  have b8 : Binds K (PySem.W.fnOf "value_text" "value_text" (defArgs s_value_text) (defBody s_value_text) (defScope s_value_text) .none kV8 dc8 pm8 an8 cd8 ct8) ["value"] [] := .all fun us hl => match us, hl with | [_], _ => rfl
  have F9 : FunV K "is_value_text" "is_value_text" s_is_value_text f9 _ := ⟨_, _, _, _, _, _, _, _, _, _, rfl, l9, c9⟩
  have b9 : Binds K (PySem.W.fnOf "is_value_text" "is_value_text" (defArgs s_is_value_text) (defBody s_is_value_text) (defScope s_is_value_text) .none kV9 dc9 pm9 an9 cd9 ct9) ["text"] [] := .all fun us hl => match us, hl with | [_], _ => rfl
  have F10 : FunV K "value_of_text" "value_of_text" s_value_of_text f10 _ := ⟨_, _, _, _, _, _, _, _, _, _, rfl, l10, c10⟩
  have b10 : Binds K (PySem.W.fnOf "value_of_text" "value_of_text" (defArgs s_value_of_text) (defBody s_value_of_text) (defScope s_value_of_text) .none kV10 dc10 pm10 an10 cd10 ct10) ["text"] [] := .all fun us hl => match us, hl with | [_], _ => rfl
  have F11 : FunV K "is_number_text" "is_number_text" s_is_number_text f11 _ := ⟨_, _, _, _, _, _, _, _, _, _, rfl, l11, c11⟩
  have b11 : Binds K (PySem.W.fnOf "is_number_text" "is_number_text" (defArgs s_is_number_text) (defBody s_is_number_text) (defScope s_is_number_text) .none kV11 dc11 pm11 an11 cd11 ct11) ["text", "most"] [] := .all fun us hl => match us, hl with | [_, _], _ => rfl
  have F12 : FunV K "read_row" "read_row" s_read_row f12 _ := ⟨_, _, _, _, _, _, _, _, _, _, rfl, l12, c12⟩
  have b12 : Binds K (PySem.W.fnOf "read_row" "read_row" (defArgs s_read_row) (defBody s_read_row) (defScope s_read_row) .none kV12 dc12 pm12 an12 cd12 ct12) ["columns", "text"] [] := .all fun us hl => match us, hl with | [_, _], _ => rfl
  have F13 : FunV K "row_in" "row_in" s_row_in f13 _ := ⟨_, _, _, _, _, _, _, _, _, _, rfl, l13, c13⟩
  have b13 : Binds K (PySem.W.fnOf "row_in" "row_in" (defArgs s_row_in) (defBody s_row_in) (defScope s_row_in) .none kV13 dc13 pm13 an13 cd13 ct13) ["text"] [] := .all fun us hl => match us, hl with | [_], _ => rfl
  have F14 : FunV K "words_of" "words_of" s_words_of f14 _ := ⟨_, _, _, _, _, _, _, _, _, _, rfl, l14, c14⟩
  have b14 : Binds K (PySem.W.fnOf "words_of" "words_of" (defArgs s_words_of) (defBody s_words_of) (defScope s_words_of) .none kV14 dc14 pm14 an14 cd14 ct14) ["text"] [] := .all fun us hl => match us, hl with | [_], _ => rfl
  have F15 : FunV K "check_names" "check_names" s_check_names f15 _ := ⟨_, _, _, _, _, _, _, _, _, _, rfl, l15, c15⟩
  have b15 : Binds K (PySem.W.fnOf "check_names" "check_names" (defArgs s_check_names) (defBody s_check_names) (defScope s_check_names) .none kV15 dc15 pm15 an15 cd15 ct15) ["words"] [] := .all fun us hl => match us, hl with | [_], _ => rfl
  have F16 : FunV K "value_in_word" "value_in_word" s_value_in_word f16 _ := ⟨_, _, _, _, _, _, _, _, _, _, rfl, l16, c16⟩
  have b16 : Binds K (PySem.W.fnOf "value_in_word" "value_in_word" (defArgs s_value_in_word) (defBody s_value_in_word) (defScope s_value_in_word) .none kV16 dc16 pm16 an16 cd16 ct16) ["word"] [] := .all fun us hl => match us, hl with | [_], _ => rfl
  have F17 : FunV K "_law_well" "_law_well" s_l_well f17 _ := ⟨_, _, _, _, _, _, _, _, _, _, rfl, l17, c17⟩
  have b17 : Binds K (PySem.W.fnOf "_law_well" "_law_well" (defArgs s_l_well) (defBody s_l_well) (defScope s_l_well) .none kV17 dc17 pm17 an17 cd17 ct17) ["_law_script", "_law_k"] [] := .all fun us hl => match us, hl with | [_, _], _ => rfl
  have F18 : FunV K "_law_draw" "_law_draw" s_l_draw f18 _ := ⟨_, _, _, _, _, _, _, _, _, _, rfl, l18, c18⟩
  have b18 : Binds K (PySem.W.fnOf "_law_draw" "_law_draw" (defArgs s_l_draw) (defBody s_l_draw) (defScope s_l_draw) .none kV18 dc18 pm18 an18 cd18 ct18) ["_law_well_here", "_law_most"] [] := .all fun us hl => match us, hl with | [_, _], _ => rfl
  have F19 : FunV K "_law_columns" "_law_columns" s_l_columns f19 _ := ⟨_, _, _, _, _, _, _, _, _, _, rfl, l19, c19⟩
  have b19 : Binds K (PySem.W.fnOf "_law_columns" "_law_columns" (defArgs s_l_columns) (defBody s_l_columns) (defScope s_l_columns) .none kV19 dc19 pm19 an19 cd19 ct19) ["_law_well_here"] [] := .all fun us hl => match us, hl with | [_], _ => rfl
  have F20 : FunV K "_law_number" "_law_number" s_l_number f20 _ := ⟨_, _, _, _, _, _, _, _, _, _, rfl, l20, c20⟩
  have b20 : Binds K (PySem.W.fnOf "_law_number" "_law_number" (defArgs s_l_number) (defBody s_l_number) (defScope s_l_number) .none kV20 dc20 pm20 an20 cd20 ct20) ["_law_well_here"] [] := .all fun us hl => match us, hl with | [_], _ => rfl
  have F21 : FunV K "_law_word" "_law_word" s_l_word f21 _ := ⟨_, _, _, _, _, _, _, _, _, _, rfl, l21, c21⟩
  have b21 : Binds K (PySem.W.fnOf "_law_word" "_law_word" (defArgs s_l_word) (defBody s_l_word) (defScope s_l_word) .none kV21 dc21 pm21 an21 cd21 ct21) ["_law_well_here"] [] := .all fun us hl => match us, hl with | [_], _ => rfl
  have F22 : FunV K "_law_value" "_law_value" s_l_value f22 _ := ⟨_, _, _, _, _, _, _, _, _, _, rfl, l22, c22⟩
  have b22 : Binds K (PySem.W.fnOf "_law_value" "_law_value" (defArgs s_l_value) (defBody s_l_value) (defScope s_l_value) .none kV22 dc22 pm22 an22 cd22 ct22) ["_law_well_here", "_law_kind"] [] := .all fun us hl => match us, hl with | [_, _], _ => rfl
  have F23 : FunV K "_law_key" "_law_key" s_l_key f23 _ := ⟨_, _, _, _, _, _, _, _, _, _, rfl, l23, c23⟩
  have b23 : Binds K (PySem.W.fnOf "_law_key" "_law_key" (defArgs s_l_key) (defBody s_l_key) (defScope s_l_key) .none kV23 dc23 pm23 an23 cd23 ct23) ["_law_well_here"] [] := .all fun us hl => match us, hl with | [_], _ => rfl
  have F24 : FunV K "_law_value_text" "_law_value_text" s_l_value_text f24 _ := ⟨_, _, _, _, _, _, _, _, _, _, rfl, l24, c24⟩
  have b24 : Binds K (PySem.W.fnOf "_law_value_text" "_law_value_text" (defArgs s_l_value_text) (defBody s_l_value_text) (defScope s_l_value_text) .none kV24 dc24 pm24 an24 cd24 ct24) ["_law_value_here"] [] := .all fun us hl => match us, hl with | [_], _ => rfl
  have F25 : FunV K "_law_are_figures" "_law_are_figures" s_l_are_figures f25 _ := ⟨_, _, _, _, _, _, _, _, _, _, rfl, l25, c25⟩
  have b25 : Binds K (PySem.W.fnOf "_law_are_figures" "_law_are_figures" (defArgs s_l_are_figures) (defBody s_l_are_figures) (defScope s_l_are_figures) .none kV25 dc25 pm25 an25 cd25 ct25) ["_law_text", "_law_most"] [] := .all fun us hl => match us, hl with | [_, _], _ => rfl
  have F26 : FunV K "_law_fits" "_law_fits" s_l_fits f26 _ := ⟨_, _, _, _, _, _, _, _, _, _, rfl, l26, c26⟩
  have b26 : Binds K (PySem.W.fnOf "_law_fits" "_law_fits" (defArgs s_l_fits) (defBody s_l_fits) (defScope s_l_fits) .none kV26 dc26 pm26 an26 cd26 ct26) ["_law_kind", "_law_text"] [] := .all fun us hl => match us, hl with | [_, _], _ => rfl
  have F27 : FunV K "_law_told" "_law_told" s_l_told f27 _ := ⟨_, _, _, _, _, _, _, _, _, _, rfl, l27, c27⟩
  have b27 : Binds K (PySem.W.fnOf "_law_told" "_law_told" (defArgs s_l_told) (defBody s_l_told) (defScope s_l_told) .none kV27 dc27 pm27 an27 cd27 ct27) ["_law_text"] [] := .all fun us hl => match us, hl with | [_], _ => rfl
  have F28 : FunV K "_law_is_value_text" "_law_is_value_text" s_l_is_value_text f28 _ := ⟨_, _, _, _, _, _, _, _, _, _, rfl, l28, c28⟩
  have b28 : Binds K (PySem.W.fnOf "_law_is_value_text" "_law_is_value_text" (defArgs s_l_is_value_text) (defBody s_l_is_value_text) (defScope s_l_is_value_text) .none kV28 dc28 pm28 an28 cd28 ct28) ["_law_text"] [] := .all fun us hl => match us, hl with | [_], _ => rfl
  have F29 : FunV K "_law_is_key" "_law_is_key" s_l_is_key f29 _ := ⟨_, _, _, _, _, _, _, _, _, _, rfl, l29, c29⟩
  have b29 : Binds K (PySem.W.fnOf "_law_is_key" "_law_is_key" (defArgs s_l_is_key) (defBody s_l_is_key) (defScope s_l_is_key) .none kV29 dc29 pm29 an29 cd29 ct29) ["_law_text"] [] := .all fun us hl => match us, hl with | [_], _ => rfl
  have F30 : FunV K "_law_menu" "_law_menu" s_l_menu f30 _ := ⟨_, _, _, _, _, _, _, _, _, _, rfl, l30, c30⟩
  have b30 : Binds K (PySem.W.fnOf "_law_menu" "_law_menu" (defArgs s_l_menu) (defBody s_l_menu) (defScope s_l_menu) .none kV30 dc30 pm30 an30 cd30 ct30) ["_law_well_here", "_law_columns_here"] [] := .all fun us hl => match us, hl with | [_, _], _ => rfl
  have F31 : FunV K "_law_spoiled" "_law_spoiled" s_l_spoiled f31 _ := ⟨_, _, _, _, _, _, _, _, _, _, rfl, l31, c31⟩
  have b31 : Binds K (PySem.W.fnOf "_law_spoiled" "_law_spoiled" (defArgs s_l_spoiled) (defBody s_l_spoiled) (defScope s_l_spoiled) .none kV31 dc31 pm31 an31 cd31 ct31) ["_law_well_here", "_law_columns_here", "_law_text"] [] := .all fun us hl => match us, hl with | [_, _, _], _ => rfl
  have F32 : FunV K "_law_due" "_law_due" s_l_due f32 _ := ⟨_, _, _, _, _, _, _, _, _, _, rfl, l32, c32⟩
  have b32 : Binds K (PySem.W.fnOf "_law_due" "_law_due" (defArgs s_l_due) (defBody s_l_due) (defScope s_l_due) .none kV32 dc32 pm32 an32 cd32 ct32) ["_law_columns_here", "_law_text"] [] := .all fun us hl => match us, hl with | [_, _], _ => rfl
  have F33 : FunV K "_law_found" "_law_found" s_l_found f33 _ := ⟨_, _, _, _, _, _, _, _, _, _, rfl, l33, c33⟩
  have b33 : Binds K (PySem.W.fnOf "_law_found" "_law_found" (defArgs s_l_found) (defBody s_l_found) (defScope s_l_found) .none kV33 dc33 pm33 an33 cd33 ct33) ["_law_columns_here", "_law_text"] [] := .all fun us hl => match us, hl with | [_, _], _ => rfl
  have F34 : FunV K "law" "law" s_law f34 _ := ⟨_, _, _, _, _, _, _, _, _, _, rfl, l34, c34⟩
  have b34 : Binds K (PySem.W.fnOf "law" "law" (defArgs s_law) (defBody s_law) (defScope s_law) .none kV34 dc34 pm34 an34 cd34 ct34) ["_law_script"] [] := .all fun us hl => match us, hl with | [_], _ => rfl
  exact ⟨⟨f0, _, f1, _, f2, _, f3, _, f4, _, f5, _, f6, _, f7, _, f8, _, f9, _, f10, _, f11, _, f12, _, f13, _, f14, _, f15, _, f16, _, f17, _, f18, _, f19, _, f20, _, f21, _, f22, _, f23, _, f24, _, f25, _, f26, _, f27, _, f28, _, f29, _, f30, _, f31, _, f32, _, f33, _, f34, _, tk_MOST_KEY_SIGNS, tk_MOST_WORD_SIGNS, tk_MOST_NUMBER_FIGURES, c_PageError, c_BadColumns, c_BadRow, c_BadOrder, c_BadSieve, c_NoMark, c_NoText⟩, ⟨F0, b0, k0, PySem.W.mg_of X G a0, F1, b1, k1, PySem.W.mg_of X G a1, F2, b2, k2, PySem.W.mg_of X G a2, F3, b3, k3, PySem.W.mg_of X G a3, F4, b4, k4, PySem.W.mg_of X G a4, F5, b5, k5, PySem.W.mg_of X G a5, F6, b6, k6, PySem.W.mg_of X G a6, F7, b7, k7, PySem.W.mg_of X G a7, F8, b8, k8, PySem.W.mg_of X G a8, F9, b9, k9, PySem.W.mg_of X G a9, F10, b10, k10, PySem.W.mg_of X G a10, F11, b11, k11, PySem.W.mg_of X G a11, F12, b12, k12, PySem.W.mg_of X G a12, F13, b13, k13, PySem.W.mg_of X G a13, F14, b14, k14, PySem.W.mg_of X G a14, F15, b15, k15, PySem.W.mg_of X G a15, F16, b16, k16, PySem.W.mg_of X G a16, F17, b17, k17, PySem.W.mg_of X G a17, F18, b18, k18, PySem.W.mg_of X G a18, F19, b19, k19, PySem.W.mg_of X G a19, F20, b20, k20, PySem.W.mg_of X G a20, F21, b21, k21, PySem.W.mg_of X G a21, F22, b22, k22, PySem.W.mg_of X G a22, F23, b23, k23, PySem.W.mg_of X G a23, F24, b24, k24, PySem.W.mg_of X G a24, F25, b25, k25, PySem.W.mg_of X G a25, F26, b26, k26, PySem.W.mg_of X G a26, F27, b27, k27, PySem.W.mg_of X G a27, F28, b28, k28, PySem.W.mg_of X G a28, F29, b29, k29, PySem.W.mg_of X G a29, F30, b30, k30, PySem.W.mg_of X G a30, F31, b31, k31, PySem.W.mg_of X G a31, F32, b32, k32, PySem.W.mg_of X G a32, F33, b33, k33, PySem.W.mg_of X G a33, F34, b34, k34, PySem.W.mg_of X G a34, PySem.W.mg_of X G v_MOST_KEY_SIGNS, PySem.W.mg_of X G v_MOST_WORD_SIGNS, PySem.W.mg_of X G v_MOST_NUMBER_FIGURES, PySem.W.mg_none_of X G z_len, PySem.W.mg_none_of X G z_all, PySem.W.mg_none_of X G z_isinstance, PySem.W.mg_none_of X G z_range, PySem.W.mg_none_of X G z_int, PySem.W.mg_none_of X G z_str, PySem.W.mg_none_of X G z_bool, PySem.W.mg_none_of X G z_tuple, PySem.W.mg_none_of X G z_zip, PySem.W.mg_none_of X G z_ValueError, PySem.W.mg_of X G g_PageError, PySem.W.mg_of X G g_BadColumns, PySem.W.mg_of X G g_BadRow, PySem.W.mg_of X G g_BadOrder, PySem.W.mg_of X G g_BadSieve, PySem.W.mg_of X G g_NoMark, PySem.W.mg_of X G g_NoText, x_PageError, x_BadColumns, x_BadRow, x_BadOrder, x_BadSieve, x_NoMark, x_NoText, ga_BadRow, gh_BadRow, gc_BadRow, m_BadRow_PageError, k_BadRow_NoText, k_BadRow_BadRow, k_BadRow_BadOrder, k_BadRow_BadSieve, k_BadRow_BadColumns, k_BadRow_NoMark, k_BadRow_ValueError, ga_NoText, gh_NoText, gc_NoText, m_NoText_PageError, k_NoText_NoText, k_NoText_BadRow, k_NoText_BadOrder, k_NoText_BadSieve, k_NoText_BadColumns, k_NoText_NoMark, k_NoText_ValueError, fun s v => .of_eq rfl⟩⟩
end My
namespace PySem.W.Fast
def tw3261731992399942142 := 0
def tw5598498174180078515 := 0
def tw631865186451427794 := 0
def tw18254213541823905861 := 0
def tw9228982637491868645 := 0
def tw145220539566027173 := 0
def tw8352522509226239774 := 0
def tw9441965155147764194 := 0
def tw14936942044336488412 := 0
def tw14355899190038431998 := 0
def tw1772645052894194191 := 0
def tw15584080932938877073 := 0
def tw11186669323384085249 := 0
def tw12271475405586304404 := 0
def tw6313752085262818379 := 0
def tw9498363215716972687 := 0
def tw17546446408481715920 := 0
def tw745477119063068163 := 0
def tw11348211030407435072 := 0
def tw9023059394637204419 := 0
def tw2773717750448894399 := 0
def tw1683769517509950494 := 0
def tw5032303503054600582 := 0
def tw5631752876936009889 := 0
def tw12361338014306923937 := 0
def tw16824437265362602199 := 0
def tw17924381920755667123 := 0
def tw14220691920222714857 := 0
def tw14984320064365944540 := 0
def tw11958001409986414396 := 0
def tw11990256585957082611 := 0
def tw17283036111969937126 := 0
def tw3132999560095555752 := 0
def tw10017003251346063342 := 0
def tw4995142510876337414 := 0
def tw13162745657633189759 := 0
def tw1179319571907786932 := 0
def tw16574521400120636219 := 0
def tw11596132934684779818 := 0
def tw15744730352442300027 := 0
def tw12982873928799089865 := 0
def tw2629703055258590670 := 0
def tw7257758751592952914 := 0
def tw18213254717422220404 := 0
def tw16995689618163546559 := 0
def tw6319609378871416051 := 0
def tw9823470382738592677 := 0
def tw8833115844776123127 := 0
def tw15962128595709398485 := 0
def tw8436498519392664895 := 0
def tw16844461987557939758 := 0
def tw6958988320567113922 := 0
def tw5506588764042317171 := 0
def tw12548500820122579796 := 0
def tw9415017391216632051 := 0
def tw16523503872770095626 := 0
def tw7825159603390578329 := 0
def tw11833829560035915 := 0
def tw511782924578854886 := 0
def tw3779430206907080995 := 0
def tw12199265831881414218 := 0
def tw11108004897917608160 := 0
def tw9909071839631551809 := 0
def tw8184119301321158671 := 0
def tw15254578466112373494 := 0
def tw7570855021329909248 := 0
def tw4915227278700309331 := 0
def tw6015934098453025326 := 0
def tw6020906887102155619 := 0
def tw1309708116200970347 := 0
def tw10875517965068274112 := 0
def tw8940765290374713922 := 0
def tw13205995451219004798 := 0
def tw5129247724938493254 := 0
def tw16031534985946095992 := 0
def tw18380833805449592442 := 0
def tw9598086236599164636 := 0
def tw7872837767486892926 := 0
def tw5449796423092591711 := 0
def tw8841336129200029006 := 0
def tw16326766366633730235 := 0
def tw8875849585559617806 := 0
def tw16966163594810745037 := 0
def tw1590875162226796970 := 0
def tw17274010508684934305 := 0
def tw11872146644444064100 := 0
def tw17269635134059112645 := 0
def tw3925038208897930308 := 0
def tw11337659674920209268 := 0
def tw1770259861152937454 := 0
def tw15305261642089076217 := 0
def tw9704667244944176236 := 0
def tw8834441554567539026 := 0
def tw11090397609211756826 := 0
def tw4821290517173027265 := 0
def tw10882243491701017893 := 0
def tw1208685356054096398 := 0
def tw254816889861175697 := 0
def tw4053795337335668744 := 0
def tw6875584287074573680 := 0
def tw2880631938383059364 := 0
def tw16431149806018717053 := 0
def tw13890517372369973490 := 0
def tw12648909890865832035 := 0
def tw7714770506975258355 := 0
def tw6142202025669714209 := 0
def tw14608143175448034307 := 0
def tw4308654840599506376 := 0
def tw12269685603199928595 := 0
def tw332411400271435883 := 0
def tw8996609781080811944 := 0
def tw2224244437264133538 := 0
def tw2183440282759224204 := 0
def tw13611572420938109419 := 0
def tw865269569877102218 := 0
def tw11589027542108825620 := 0
def tw6218259728323982752 := 0
def tw11059938741041445939 := 0
def tw16442856201304736767 := 0
def tw11778440639462520740 := 0
def tw6852697444475150010 := 0
def tw17432333087807958930 := 0
def tw9428517473984595680 := 0
def tw6273946510232095229 := 0
def tw4561765037565423434 := 0
def tw6492279516172295525 := 0
def tw1898778109547155962 := 0
def tw3301843778755037242 := 0
def tw14434180997194852967 := 0
def tw16387509386652004882 := 0
def tw14050388886148056833 := 0
def tw18304989851614835295 := 0
def tw3028212991704965442 := 0
def tw3696901536219816467 := 0
def tw13522375607737177440 := 0
def tw16831635585403071261 := 0
def tw677518857380955957 := 0
def tw14686962926443755405 := 0
def tw343437795426122618 := 0
def tw7843903040607181041 := 0
def tw16804817281722913216 := 0
def tw11087654837204858870 := 0
def tw7850727170427924681 := 0
def tw13881126192484761269 := 0
def tw3086351948987709243 := 0
def tw14832327521681852421 := 0
def tw3801644029039090709 := 0
def tw8015842350789113002 := 0
def tw16589421209304155513 := 0
def tw12294568650952714495 := 0
def tw3989283191427601417 := 0
def tw11017944964274324173 := 0
def tw12944261022006153591 := 0
def tw13086858842014068290 := 0
def tw15017573186136402845 := 0
def tw13037353579613988447 := 0
def tw8964293669159451391 := 0
def tw8494481850661707374 := 0
def tw2542097674498265354 := 0
def tw4779292483352448162 := 0
def tw3360132661122841920 := 0
def tw12526416002699763743 := 0
def tw9323631084530115867 := 0
def tw1322927395223327176 := 0
def tw15189262778904977072 := 0
def tw786986135960161846 := 0
def tw3561922058053561127 := 0
def tw16532401456362319258 := 0
def tw9209838919284469058 := 0
def tw12407436487566801902 := 0
def tw6814155752030679295 := 0
def tw4187739616628364201 := 0
def tw17677652078039746097 := 0
def tw16122842928994291821 := 0
def tw16078113723776084421 := 0
def tw727684908856235947 := 0
def tw6334142051445122969 := 0
def tw2569793578976042509 := 0
def tw11250896362424659090 := 0
def tw1622639727075247170 := 0
def tw10668614571138612542 := 0
def tw15991411447305436845 := 0
def tw16192724269446061031 := 0
def tw4291055344895307793 := 0
def tw9930280158953848363 := 0
def tw1087654897209119969 := 0
def tw12849166604738433043 := 0
def tw1683927811124097006 := 0
def tw5989602697928212491 := 0
def tw7250868419608536973 := 0
def tw15535004868371462831 := 0
def tw5526556453769118149 := 0
def tw6150048517232682619 := 0
def tw2813053711103012454 := 0
def tw10154353169625000805 := 0
def tw4954135729940680106 := 0
def tw11112353650195396665 := 0
def tw5492322377371505587 := 0
def tw5215697163451148303 := 0
def tw12410145347589405219 := 0
def tw13299542023471734410 := 0
def tw10811170645304949696 := 0
def tw17289627171933732699 := 0
def tw8300702104395826088 := 0
def tw4572880983350609538 := 0
def tw2475630198134713846 := 0
def tw7296806744760137541 := 0
def tw17161197054221734464 := 0
def tw17872112560479355897 := 0
def tw10155403598511513613 := 0
def tw5193642180898714840 := 0
def tw17371949541841000742 := 0
def tw3845950420279548307 := 0
def tw5248759431153432976 := 0
def tw13143847387142736280 := 0
def tw2016818095186636413 := 0
def tw4798430529490963139 := 0
def tw13212514530768063636 := 0
def tw10378918742932025060 := 0
def tw6160700442406113740 := 0
def tw1233184689677761207 := 0
def tw14660600210726007299 := 0
def tw16418364669826790538 := 0
def tw16656563572961543184 := 0
def tw10243637051030329014 := 0
def tw1309633920241813873 := 0
def tw12625870847160669081 := 0
def tw3008719305183457328 := 0
def tw507684234576286995 := 0
def tw3418230852344540703 := 0
def tw191829058228131127 := 0
def tw7512796935416388526 := 0
def tw12873681396988419637 := 0
def tw350899574647742763 := 0
def tw15883334739933170065 := 0
def tw2099693986824507564 := 0
def tw8745586523907003168 := 0
def tw11183284392946866704 := 0
def tw7744089314754102543 := 0
def tw1661005093129563076 := 0
def tw6017147436018548275 := 0
def tw14933786532332419477 := 0
def tw9318669407429965941 := 0
def tw8820977744159857512 := 0
def tw7055909642423071916 := 0
def tw15893055414562459442 := 0
def tw1483573064764950020 := 0
def tw5435219528590964274 := 0
def tw15650765281229348095 := 0
def tw15191851271355115206 := 0
def tw16033298514699732453 := 0
def tw14818929650281631269 := 0
def tw9802400389509473066 := 0
def tw11990978361098442530 := 0
def tw3463766045377038390 := 0
def tw10496986607349492418 := 0
def tw16102034965651326155 := 0
def tw18165333586014652848 := 0
def tw17907663948166880250 := 0
def tw13038328566148378860 := 0
def tw7794986675715107914 := 0
def tw7964112478407509702 := 0
def tw16785003182222655488 := 0
def tw14319930419371852043 := 0
def tw2959485548369776424 := 0
def tw6823054911159800530 := 0
def tw15676649690218013303 := 0
def tw5088476587495715400 := 0
def tw17921376500044536681 := 0
def tw6594610888881914109 := 0
def tw894398319651471867 := 0
def tw4350414210440967595 := 0
def tw5851424321020883394 := 0
def tw14386583168546534802 := 0
def tw9669283611134727008 := 0
def tw9000295754325020222 := 0
def tw4318064616493501501 := 0
def tw14265786459592767236 := 0
def tw17383205735594517099 := 0
def tw13357651827692326677 := 0
def tw17320388085316715675 := 0
def tw16723904735624362842 := 0
def tw14625665096574384418 := 0
def tw15084032263467418504 := 0
def tw3871318251995956474 := 0
def tw3826175109997169302 := 0
def tw13851012219989429491 := 0
def tw9151954852818799682 := 0
def tw16209186039209344492 := 0
def tw12189304964667501450 := 0
def tw10654656469186146337 := 0
def tw11463805822560156332 := 0
def tw11514237244402457997 := 0
def tw2127446744193976636 := 0
def tw4979091848859260415 := 0
def tw14669228314173002993 := 0
def tw16021398487209807447 := 0
def tw8312499936004362296 := 0
def tw15505434881368545726 := 0
def tw11880056032017580993 := 0
def tw15315550169067711277 := 0
def tw9563188075724837534 := 0
def tw11008267738880820627 := 0
def tw11788669395282546938 := 0
def tw14965101569549387674 := 0
def tw15600493441315732195 := 0
def tw9505433162397994907 := 0
def tw17766040540367220280 := 0
def tw12530186360143549006 := 0
def tw629729500013994021 := 0
def tw1391752352224396389 := 0
end PySem.W.Fast
open PySem PySem.W PyProof.Rows
set_option maxRecDepth 100000 in
set_option maxHeartbeats 0 in
theorem PySem.Challenge.cw_pageturns_k62_texts_of_no_row_holds : PySem.Challenge.rw_pageturns_k62_texts_of_no_row.Holds := by
  w_on; o_law; k_head; (case hw => w_witness2)
  k_fill
  refine L2.walk_ofK (l := PySem.Challenge.rw_pageturns_k62_texts_of_no_row) (n := 63) (k := 20) (x := "_law_script") (CX := L2.CX0) (sp := My.sp_law) rfl (by decide) rfl ⟨rfl, by decide, by decide⟩ (fun w h Y => PySem.W.kIn_of Y) ?F ?S ?C
  case F =>
    intro w mg fa h KX G hmg
    have T : ∃ t, My.Txt (L2.KOf KX) mg t := by
      dsimp only [L2.KOf]
      refine' My.txt_mk KX G ?g_PageError ?g_BadColumns ?g_BadRow ?g_BadOrder ?g_BadSieve ?g_NoMark ?g_NoText ?a0 ?l0 ?c0 ?k0 ?a1 ?l1 ?c1 ?k1 ?a2 ?l2 ?c2 ?k2 ?a3 ?l3 ?c3 ?k3 ?a4 ?l4 ?c4 ?k4 ?a5 ?l5 ?c5 ?k5 ?a6 ?l6 ?c6 ?k6 ?a7 ?l7 ?c7 ?k7 ?a8 ?l8 ?c8 ?k8 ?a9 ?l9 ?c9 ?k9 ?a10 ?l10 ?c10 ?k10 ?a11 ?l11 ?c11 ?k11 ?a12 ?l12 ?c12 ?k12 ?a13 ?l13 ?c13 ?k13 ?a14 ?l14 ?c14 ?k14 ?a15 ?l15 ?c15 ?k15 ?a16 ?l16 ?c16 ?k16 ?a17 ?l17 ?c17 ?k17 ?a18 ?l18 ?c18 ?k18 ?a19 ?l19 ?c19 ?k19 ?a20 ?l20 ?c20 ?k20 ?a21 ?l21 ?c21 ?k21 ?a22 ?l22 ?c22 ?k22 ?a23 ?l23 ?c23 ?k23 ?a24 ?l24 ?c24 ?k24 ?a25 ?l25 ?c25 ?k25 ?a26 ?l26 ?c26 ?k26 ?a27 ?l27 ?c27 ?k27 ?a28 ?l28 ?c28 ?k28 ?a29 ?l29 ?c29 ?k29 ?a30 ?l30 ?c30 ?k30 ?a31 ?l31 ?c31 ?k31 ?a32 ?l32 ?c32 ?k32 ?a33 ?l33 ?c33 ?k33 ?a34 ?l34 ?c34 ?k34 ?v_MOST_KEY_SIGNS ?v_MOST_WORD_SIGNS ?v_MOST_NUMBER_FIGURES ?z_len ?z_all ?z_isinstance ?z_range ?z_int ?z_str ?z_bool ?z_tuple ?z_zip ?z_ValueError ?x_PageError ?x_BadColumns ?x_BadRow ?x_BadOrder ?x_BadSieve ?x_NoMark ?x_NoText ?ga_BadRow ?gh_BadRow ?gc_BadRow ?m_BadRow_PageError ?k_BadRow_NoText ?k_BadRow_BadRow ?k_BadRow_BadOrder ?k_BadRow_BadSieve ?k_BadRow_BadColumns ?k_BadRow_NoMark ?k_BadRow_ValueError ?ga_NoText ?gh_NoText ?gc_NoText ?m_NoText_PageError ?k_NoText_NoText ?k_NoText_BadRow ?k_NoText_BadOrder ?k_NoText_BadSieve ?k_NoText_BadColumns ?k_NoText_NoMark ?k_NoText_ValueError
      (case g_PageError => k_is)
      (case g_BadColumns => k_is)
      (case g_BadRow => k_is)
      (case g_BadOrder => k_is)
      (case g_BadSieve => k_is)
      (case g_NoMark => k_is)
      (case g_NoText => k_is)
      (case a0 => k_is)
      (case l0 => k_is)
      (case c0 => k_is)
      (case k0 => k_is)
      (case a1 => k_is)
      (case l1 => k_is)
      (case c1 => k_is)
      (case k1 => k_is)
      (case a2 => k_is)
      (case l2 => k_is)
      (case c2 => k_is)
      (case k2 => k_is)
      (case a3 => k_is)
      (case l3 => k_is)
      (case c3 => k_is)
      (case k3 => k_is)
      (case a4 => k_is)
      (case l4 => k_is)
      (case c4 => k_is)
      (case k4 => k_is)
      (case a5 => k_is)
      (case l5 => k_is)
      (case c5 => k_is)
      (case k5 => k_is)
      (case a6 => k_is)
      (case l6 => k_is)
      (case c6 => k_is)
      (case k6 => k_is)
      (case a7 => k_is)
      (case l7 => k_is)
      (case c7 => k_is)
      (case k7 => k_is)
      (case a8 => k_is)
      (case l8 => k_is)
      (case c8 => k_is)
      (case k8 => k_is)
      (case a9 => k_is)
      (case l9 => k_is)
      (case c9 => k_is)
      (case k9 => k_is)
      (case a10 => k_is)
      (case l10 => k_is)
      (case c10 => k_is)
      (case k10 => k_is)
      (case a11 => k_is)
      (case l11 => k_is)
      (case c11 => k_is)
      (case k11 => k_is)
      (case a12 => k_is)
      (case l12 => k_is)
      (case c12 => k_is)
      (case k12 => k_is)
      (case a13 => k_is)
      (case l13 => k_is)
      (case c13 => k_is)
      (case k13 => k_is)
      (case a14 => k_is)
      (case l14 => k_is)
      (case c14 => k_is)
      (case k14 => k_is)
      (case a15 => k_is)
      (case l15 => k_is)
      (case c15 => k_is)
      (case k15 => k_is)
      (case a16 => k_is)
      (case l16 => k_is)
      (case c16 => k_is)
      (case k16 => k_is)
      (case a17 => k_is)
      (case l17 => k_is)
      (case c17 => k_is)
      (case k17 => k_is)
      (case a18 => k_is)
      (case l18 => k_is)
      (case c18 => k_is)
      (case k18 => k_is)
      (case a19 => k_is)
      (case l19 => k_is)
      (case c19 => k_is)
      (case k19 => k_is)
      (case a20 => k_is)
      (case l20 => k_is)
      (case c20 => k_is)
      (case k20 => k_is)
      (case a21 => k_is)
      (case l21 => k_is)
      (case c21 => k_is)
      (case k21 => k_is)
      (case a22 => k_is)
      (case l22 => k_is)
      (case c22 => k_is)
      (case k22 => k_is)
      (case a23 => k_is)
      (case l23 => k_is)
      (case c23 => k_is)
      (case k23 => k_is)
      (case a24 => k_is)
      (case l24 => k_is)
      (case c24 => k_is)
      (case k24 => k_is)
      (case a25 => k_is)
      (case l25 => k_is)
      (case c25 => k_is)
      (case k25 => k_is)
      (case a26 => k_is)
      (case l26 => k_is)
      (case c26 => k_is)
      (case k26 => k_is)
      (case a27 => k_is)
      (case l27 => k_is)
      (case c27 => k_is)
      (case k27 => k_is)
      (case a28 => k_is)
      (case l28 => k_is)
      (case c28 => k_is)
      (case k28 => k_is)
      (case a29 => k_is)
      (case l29 => k_is)
      (case c29 => k_is)
      (case k29 => k_is)
      (case a30 => k_is)
      (case l30 => k_is)
      (case c30 => k_is)
      (case k30 => k_is)
      (case a31 => k_is)
      (case l31 => k_is)
      (case c31 => k_is)
      (case k31 => k_is)
      (case a32 => k_is)
      (case l32 => k_is)
      (case c32 => k_is)
      (case k32 => k_is)
      (case a33 => k_is)
      (case l33 => k_is)
      (case c33 => k_is)
      (case k33 => k_is)
      (case a34 => k_is)
      (case l34 => k_is)
      (case c34 => k_is)
      (case k34 => k_is)
      (case v_MOST_KEY_SIGNS => k_is)
      (case v_MOST_WORD_SIGNS => k_is)
      (case v_MOST_NUMBER_FIGURES => k_is)
      (case z_len => k_is)
      (case z_all => k_is)
      (case z_isinstance => k_is)
      (case z_range => k_is)
      (case z_int => k_is)
      (case z_str => k_is)
      (case z_bool => k_is)
      (case z_tuple => k_is)
      (case z_zip => k_is)
      (case z_ValueError => k_is)
      (case x_PageError => k_exc)
      (case x_BadColumns => k_exc)
      (case x_BadRow => k_exc)
      (case x_BadOrder => k_exc)
      (case x_BadSieve => k_exc)
      (case x_NoMark => k_exc)
      (case x_NoText => k_exc)
      (case ga_BadRow => k_is)
      (case gh_BadRow => k_is)
      (case gc_BadRow => k_is)
      (case m_BadRow_PageError => k_is)
      (case k_BadRow_NoText => kit_is)
      (case k_BadRow_BadRow => kit_is)
      (case k_BadRow_BadOrder => kit_is)
      (case k_BadRow_BadSieve => kit_is)
      (case k_BadRow_BadColumns => kit_is)
      (case k_BadRow_NoMark => kit_is)
      (case k_BadRow_ValueError => kit_is)
      (case ga_NoText => k_is)
      (case gh_NoText => k_is)
      (case gc_NoText => k_is)
      (case m_NoText_PageError => k_is)
      (case k_NoText_NoText => kit_is)
      (case k_NoText_BadRow => kit_is)
      (case k_NoText_BadOrder => kit_is)
      (case k_NoText_BadSieve => kit_is)
      (case k_NoText_BadColumns => kit_is)
      (case k_NoText_NoMark => kit_is)
      (case k_NoText_ValueError => kit_is)
    obtain ⟨t, T⟩ := T
    have e0 := hmg.symm.trans T.mg_law
    cases e0
    exact ⟨_, T.bl, fun base kb nb => My.ok_law T⟩
  case S => exact fun K H a ns hl hO hS => My.sp_start hl hO hS
  case C => exact fun _ _ _ _ z => z
