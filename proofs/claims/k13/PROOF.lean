import PyProof.Rows.All
import Wide.All
import OpenK.AllK
import Wide.FinOn
import Lean
import PyProof.EqAt
import PyProof.EqKinds
import PyProof.TupleCall
import PyProof.NsDelKeeps
import KE.KIsBytes
import PyProof.Rows.SetFrom
import KE.KDictOf
import PyProof.AttrMissSeq
import PyProof.WalksMore
import PyProof.ZipIter
import PyProof.StrBlock2
import PyProof.StrBlockI
import PyProof.Rows.StrJoin2
import PyProof.Rows.CountFlat
import PySem.Challenge.RW_pageturns_k13_just_one_of
set_option Elab.async false
set_option linter.all false
set_option maxRecDepth 100000
namespace L2
open PySem PySem.Spec PyProof.Rows
/-- a key: an int or a str -/
abbrev Key := Sum Int Str
def keyIs : Key → Value → Bool
  | .inl k, v => Value.isInt k v
  | .inr x, v => Value.isStrOf x v
def keyH (w : World) : Key → Int
  | .inl k => hashInt k
  | .inr x => hashStr w x
theorem keyIs_shape : ∀ {k : Key} {v : Value}, keyIs k v = true → (∃ i t, k = Sum.inl i ∧ v = Value.int i t) ∨ (∃ x t, k = Sum.inr x ∧ v = Value.str x t)
  | .inl i, v, h => by
    obtain ⟨t, e⟩ := Value.isInt_shape (k := i) (v := v) h
    exact .inl ⟨i, t, rfl, e⟩
  | .inr x, v, h => by
    obtain ⟨t, e⟩ := Value.isStrOf_shape (x := x) (v := v) h
    exact .inr ⟨x, t, rfl, e⟩
theorem key_ll (a b : Int) : decide ((Sum.inl a : Key) = Sum.inl b) = (a == b) := by
  by_cases e : a = b
  · subst e; simp
  · have h : ¬ (Sum.inl a : Key) = Sum.inl b := fun q => e (Sum.inl.inj q)
    rw [decide_eq_false h]
    exact (beq_eq_false_iff_ne.mpr e).symm
theorem key_rr (a b : Str) : decide ((Sum.inr a : Key) = Sum.inr b) = decide (a = b) := by
  by_cases e : a = b
  · subst e; simp
  · have h : ¬ (Sum.inr a : Key) = Sum.inr b := fun q => e (Sum.inr.inj q)
    rw [decide_eq_false h, decide_eq_false e]
theorem key_lr (a : Int) (b : Str) : decide ((Sum.inl a : Key) = Sum.inr b) = false := decide_eq_false (fun q => nomatch q)
theorem key_rl (a : Str) (b : Int) : decide ((Sum.inr a : Key) = Sum.inl b) = false := decide_eq_false (fun q => nomatch q)
def mixKind (prog : Program) (w : World) : PySem.KeyKind prog w Key where
  is := keyIs
  hash := keyH w
  inj := fun v a b ha hb => by
    rcases keyIs_shape ha with ⟨i, t, rfl, rfl⟩ | ⟨x, t, rfl, rfl⟩
    · rcases keyIs_shape hb with ⟨j, u, rfl, e⟩ | ⟨y, u, rfl, e⟩
      · injection e with e1 _; rw [e1]
      · exact nomatch e
    · rcases keyIs_shape hb with ⟨j, u, rfl, e⟩ | ⟨y, u, rfl, e⟩
      · exact nomatch e
      · injection e with e1 _; rw [e1]
  byValue := fun k v h => by
    rcases keyIs_shape h with ⟨i, t, rfl, rfl⟩ | ⟨x, t, rfl, rfl⟩ <;> rfl
  pyHash := fun hv h => by
    rcases keyIs_shape hv with ⟨i, t, rfl, rfl⟩ | ⟨x, t, rfl, rfl⟩
    · exact wpAny_pyHash_int h
    · exact wpAny_pyHash_str h
  eqBool := fun hu hv h => by
    rcases keyIs_shape hu with ⟨i, t, rfl, rfl⟩ | ⟨x, t, rfl, rfl⟩
    · rcases keyIs_shape hv with ⟨j, u, rfl, rfl⟩ | ⟨y, u, rfl, rfl⟩
      · rw [key_ll] at h; exact wpAny_eqBool_int h
      · rw [key_lr] at h; exact SeqAt.EqAt.int_str i t y u _ _ _ _ h
    · rcases keyIs_shape hv with ⟨j, u, rfl, rfl⟩ | ⟨y, u, rfl, rfl⟩
      · rw [key_rl] at h; exact SeqAt.EqAt.str_int x t j u _ _ _ _ h
      · rw [key_rr] at h; exact wpAny_eqBool_str h
  «strs» := fun k x t v h => by
    rcases keyIs_shape h with ⟨i, u, rfl, e⟩ | ⟨y, u, rfl, e⟩
    · exact nomatch e
    · injection e with e1 _
      subst e1
      cases v <;> rfl
end L2
namespace L2
open PySem PySem.Spec PyProof.Rows
/-- a value, without the heap -/
inductive V where
  | non | bl (b : Bool) | int (i : Int) | str (x : Str) | byt (b : Array UInt8) | flt (b : UInt64) | ref (a : Addr) | ty (n : String)
  deriving DecidableEq
def RelV : V → Value → Prop
  | .non, u => u = Value.none
  | .bl b, u => u = Value.bool b
  | .int i, u => ∃ t, u = Value.int i t
  | .str x, u => ∃ t, u = Value.str x t
  | .byt b, u => ∃ t, u = Value.bytes b t
  | .flt b, u => ∃ t, u = Value.float b t
  | .ref a, u => u = Value.ref a
  | .ty n, u => u = Value.type n
abbrev Vals : List V → List Value → Prop := Paired RelV
theorem Vals.length {xs : List V} {us : List Value} (r : Vals xs us) : xs.length = us.length := Paired.length r
theorem Vals.get : ∀ {xs : List V} {us : List Value} {i : Nat} {x : V}, Vals xs us → xs[i]? = some x → ∃ u, us[i]? = some u ∧ RelV x u
  | _, _, _, _, .nil, e => by simp at e
  | _, _, 0, _, .cons r _, e => by simp at e; subst e; exact ⟨_, rfl, r⟩
  | _, _, i + 1, x, .cons _ t, e => by
    obtain ⟨u, h1, h2⟩ := Vals.get (i := i) (x := x) t (by simpa using e)
    exact ⟨u, by simpa using h1, h2⟩
theorem Vals.set {x : V} {u : Value} (r : RelV x u) : ∀ {xs : List V} {us : List Value} (i : Nat), Vals xs us → Vals (xs.set i x) (us.set i u)
  | _, _, _, .nil => .nil
  | _, _, 0, .cons _ t => .cons r t
  | _, _, i + 1, .cons q t => .cons q (Vals.set r i t)
theorem Vals.append : ∀ {xs ys : List V} {us ws : List Value}, Vals xs us → Vals ys ws → Vals (xs ++ ys) (us ++ ws)
  | _, _, _, _, .nil, s => s
  | _, _, _, _, .cons r t, s => .cons r (Vals.append t s)
theorem Vals.take : ∀ {xs : List V} {us : List Value} (n : Nat), Vals xs us → Vals (xs.take n) (us.take n)
  | _, _, 0, _ => .nil
  | _, _, _ + 1, .nil => .nil
  | _, _, n + 1, .cons r t => .cons r (Vals.take n t)
theorem Vals.drop : ∀ {xs : List V} {us : List Value} (n : Nat), Vals xs us → Vals (xs.drop n) (us.drop n)
  | _, _, 0, r => r
  | _, _, _ + 1, .nil => .nil
  | _, _, n + 1, .cons _ t => Vals.drop n t
def RelO : Option V → Option Value → Prop
  | some v, some u => RelV v u
  | none, none => True
  | _, _ => False
def KV {κ : Type} : List (κ × V) → List (κ × Value) → Prop := Paired fun (p : κ × V) (q : κ × Value) => p.1 = q.1 ∧ RelV p.2 q.2
/-- a key of a dict (00_mix): an int or a text -/
def kV : Key → V
  | .inl i => .int i
  | .inr x => .str x
/-- what stands at a tracked address -/
inductive HO where
  /-- a list -/
  | lst (xs : List V)
  /-- a tuple (never changes) -/
  | tup (xs : List V)
  /-- a dict whose keys are ints and texts; one whose keys are tuples of ints and texts (the empty one is both) -/
  | dK (kvs : List (Key × V)) | dT (kvs : List (List Key × V))
  /-- a set of ints: its members, its size -/
  | set (S : Int → Bool) (n : Nat)
  /-- an instance of the class at C, its dict at dx, its attributes -/
  | ins (C dx : Addr) (fs : List (Str × V))
  /-- the dict of the instance at x -/
  | own (x : Addr)
  /-- the dict of an exception -/
  | xd (fs : List (Str × V))
  /-- a bound method, f of x -/
  | met (f x : Addr)
  /-- a range object lo, lo + 1, .. below hi -/
  | rng (lo hi : Int)
  /-- a thing that is known to the object (the script; a dict while a loop walks it): read, never written while it is so -/
  | frz (o : Obj) (u : HO)
  /-- a code object's table -/
  | tbl (ps : Array Value)
  /-- any other thing, by what is true of its one object (a def of one's own: SetO a S n := HO.ext fun h => ..) -/
  | ext (φ : Heap → Prop)
abbrev Hp := Addr → Option HO
def upd (H : Hp) (a : Addr) (o : HO) : Hp := fun b => if b = a then some o else H b
theorem upd_same {H : Hp} {a : Addr} {o : HO} : upd H a o a = some o := by unfold upd; rw [if_pos rfl]
theorem upd_ne {H : Hp} {a b : Addr} {o : HO} (h : b ≠ a) : upd H a o b = H b := by unfold upd; rw [if_neg h]
/-- two objects of different content stand apart -/
theorem ne_of {H : Hp} {a b : Addr} {o u : HO} (h : H a = some o) (h' : H b = some u) (d : o ≠ u) : a ≠ b := by
  intro e; subst e; rw [h] at h'; exact d (Option.some.inj h')
theorem ne_of_none {H : Hp} {a b : Addr} {o : HO} (h : H a = some o) (h' : H b = none) : a ≠ b := by
  intro e; subst e; rw [h] at h'; cases h'
def IsTupN (h : Heap) (a : Addr) (items : Array Value) : Prop := ∃ o, h.get? a = some o ∧ o.cls = .type "tuple" ∧ o.dict = none ∧ ∃ n, o.data = .seq items n
theorem IsTupN.tup {h : Heap} {a : Addr} {items : Array Value} (x : IsTupN h a items) : IsTup h a items := let ⟨o, e, c, _, n, d⟩ := x; ⟨o, e, c, n, d⟩
theorem IsTupN.lt {h : Heap} {a : Addr} {items : Array Value} (x : IsTupN h a items) : a < h.objs.size := x.tup.lt
theorem IsTupN.new (h : Heap) (items : Array Value) : IsTupN (h.push { cls := .type "tuple", data := .seq items }) h.objs.size items := ⟨_, Heap.get?_push_size _ rfl, rfl, rfl, _, rfl⟩
section
variable (P : Program) (w : World)
def ObjOk (H : Hp) (h : Heap) (a : Addr) : HO → Prop
  | .lst xs => xs.length ≤ sizeLine ∧ ∃ (its : List Value) (n : Nat), Vals xs its ∧ h.get? a = some { cls := .type "list", data := .seq its.toArray n }
  | .tup xs => xs.length ≤ sizeLine ∧ ∃ its : List Value, Vals xs its ∧ IsTupN h a its.toArray
  | .dK kvs => kvs.length ≤ sizeLine ∧ (a == sysModules) = false ∧ ∃ vs, KV kvs vs ∧ h.DictOf (mixKind P w) a vs
  | .dT _ => False
  | .set S n => h.SetOf (intKind P w) a S n
  | .ins C dx fs => H dx = some (.own a) ∧ fs.length ≤ 1000 ∧ dx ≠ a ∧ h.get? a = some (PySem.W.instObj C dx) ∧
      ∃ mA, h.Ns1 dx mA ∧ (∀ f, RelO (fs.lookup f) (mA f)) ∧ PySem.Within mA (fs.map (·.1))
  | .own _ => ∃ o, h.get? a = some o
  | .xd fs => ∃ mA, h.Ns1 a mA ∧ ∀ f, RelO (fs.lookup f) (mA f)
  | .rng lo hi => ∃ t u v, h.get? a = some { cls := .type "range", data := .fields #[.int lo t, .int hi u, .int 1 v] }
  | .frz o u => h.get? a = some o ∧ ObjOk H h a u
  | .tbl ps => h.get? a = some { cls := .none, data := .fields ps }
  | .met f x => h.get? a = some (PySem.W.methodObj (.ref f) (.ref x))
  | .ext φ => φ h ∧ (∃ o, h.get? a = some o) ∧ ∀ h1 h2 : Heap, φ h1 → (∀ o, h1.get? a = some o → h2.get? a = some o) → φ h2
/-- the abstract heap is held -/
def HOk (H : Hp) (h : Heap) : Prop := ∀ a o, H a = some o → ObjOk P w H h a o
end
section
variable {P : Program} {w : World} {H H' : Hp} {h h' : Heap} {a : Addr} {o : HO}
theorem ObjOk.lt (x : ObjOk P w H h a o) : a < h.objs.size := by
  cases o with
  | lst xs => obtain ⟨_, _, _, _, e⟩ := x; exact Heap.lt_size e
  | tup xs => obtain ⟨_, _, _, p⟩ := x; exact p.lt
  | dK kvs => obtain ⟨_, _, _, _, o, _, _, e, _⟩ := x; exact Heap.lt_size e
  | dT kvs => exact False.elim x
  | set S n => obtain ⟨o, _, _, _, e, _⟩ := x; exact Heap.lt_size e
  | ins C dx fs => obtain ⟨_, _, _, e, _⟩ := x; exact Heap.lt_size e
  | own y => obtain ⟨_, e⟩ := x; exact Heap.lt_size e
  | xd fs => obtain ⟨_, ⟨_, _, _, e, _⟩, _⟩ := x; exact Heap.lt_size e
  | rng lo hi => obtain ⟨_, _, _, e⟩ := x; exact Heap.lt_size e
  | frz ob u => obtain ⟨e, _⟩ := x; exact Heap.lt_size e
  | tbl ps => exact Heap.lt_size (show h.get? a = some _ from x)
  | met f y => exact Heap.lt_size (show h.get? a = some _ from x)
  | ext φ => obtain ⟨_, ⟨_, e⟩, _⟩ := x; exact Heap.lt_size e
theorem Paired.mapP {α β : Type} {F G : α → β → Prop} : ∀ {l₁ : List α} {l₂ : List β}, Paired F l₁ l₂ → (∀ a b, F a b → G a b) → Paired G l₁ l₂
  | _, _, .nil, _ => .nil
  | _, _, .cons r t, f => .cons (f _ _ r) (Paired.mapP t f)
/-- what an object's description leans on: its own object, its own dict, the tuples -/
theorem ObjOk.stay (x : ObjOk P w H h a o) (k : ∀ b u, (b = a ∨ H b = some (.own a)) → h.get? b = some u → h'.get? b = some u)
    (ho : ∀ b, H b = some (.own a) → H' b = some (.own a)) (ht : ∀ b xs, H b = some (.tup xs) → H' b = some (.tup xs)) : ObjOk P w H' h' a o := by
  induction o with
  | lst xs => obtain ⟨z, its, n, r, e⟩ := x; exact ⟨z, its, n, r, k _ _ (.inl rfl) e⟩
  | tup xs => obtain ⟨z, its, r, ob, e, c⟩ := x; exact ⟨z, its, r, ob, k _ _ (.inl rfl) e, c⟩
  | dK kvs => obtain ⟨z, y, vs, r, ob, es, ep, e, c⟩ := x; exact ⟨z, y, vs, r, ob, es, ep, k _ _ (.inl rfl) e, c⟩
  | dT kvs => exact False.elim x
  | set S n => obtain ⟨ob, es, ep, t, e, c⟩ := x; exact ⟨ob, es, ep, t, k _ _ (.inl rfl) e, c⟩
  | ins C dx fs =>
    obtain ⟨d, z, ne, e, mA, ⟨od, es, ep, e2, c⟩, r⟩ := x
    exact ⟨ho _ d, z, ne, k _ _ (.inl rfl) e, mA, ⟨od, es, ep, k _ _ (.inr d) e2, c⟩, r⟩
  | own y => obtain ⟨ob, e⟩ := x; exact ⟨ob, k _ _ (.inl rfl) e⟩
  | xd fs => obtain ⟨mA, ⟨od, es, ep, e, c⟩, r⟩ := x; exact ⟨mA, ⟨od, es, ep, k _ _ (.inl rfl) e, c⟩, r⟩
  | rng lo hi => obtain ⟨t, u, v, e⟩ := x; exact ⟨t, u, v, k _ _ (.inl rfl) e⟩
  | frz ob u ih => obtain ⟨e, q⟩ := x; exact ⟨k _ _ (.inl rfl) e, ih q⟩
  | tbl ps =>
    have e : h.get? a = some { cls := .none, data := .fields ps } := x
    show h'.get? a = some { cls := .none, data := .fields ps }
    exact k a _ (.inl rfl) e
  | met f y =>
    have e : h.get? a = some (PySem.W.methodObj (.ref f) (.ref y)) := x
    show h'.get? a = some (PySem.W.methodObj (.ref f) (.ref y))
    exact k a _ (.inl rfl) e
  | ext φ => obtain ⟨p, ⟨o, e⟩, st⟩ := x; exact ⟨st _ _ p fun o q => k _ _ (.inl rfl) q, ⟨o, k _ _ (.inl rfl) e⟩, st⟩
theorem HOk.lt (x : HOk P w H h) (e : H a = some o) : a < h.objs.size := (x a o e).lt
theorem HOk.fresh (x : HOk P w H h) (e : h.objs.size ≤ a) : H a = none := by
  cases q : H a with
  | none => rfl
  | some u => exact absurd (Nat.lt_of_lt_of_le (x.lt q) e) (Nat.lt_irrefl _)
/-- every object of the heap is kept -/
theorem HOk.kept (x : HOk P w H h) (k : ∀ b u, h.get? b = some u → h'.get? b = some u) : HOk P w H h' := fun a o e =>
  (x a o e).stay (fun b u _ q => k b u q) (fun _ q => q) fun _ _ q => q
/-- a new object is laid and tracked -/
theorem HOk.laid (x : HOk P w H h) (k : ∀ b u, h.get? b = some u → h'.get? b = some u) (hp : h.objs.size ≤ a) (new : ObjOk P w (upd H a o) h' a o) : HOk P w (upd H a o) h' := fun b u e => by
  have hn := x.fresh hp
  by_cases hb : b = a
  · subst hb; rw [upd_same] at e; cases e; exact new
  · rw [upd_ne hb] at e
    exact (x b u e).stay (fun c v _ q => k c v q) (fun c q => by rw [upd_ne (ne_of_none q hn)]; exact q) fun c xs q => by rw [upd_ne (ne_of_none q hn)]; exact q
end
/-- what may be read as u: it is u, or a known u -/
def Rd (H : Hp) (a : Addr) (u : HO) : Prop := H a = some u ∨ ∃ o, H a = some (.frz o u)
theorem Rd.of {H : Hp} {a : Addr} {u : HO} (h : H a = some u) : Rd H a u := .inl h
theorem Rd.ok {P : Program} {w : World} {H : Hp} {h : Heap} {a : Addr} {u : HO} (r : Rd H a u) (x : HOk P w H h) : ObjOk P w H h a u := by
  rcases r with r | ⟨o, r⟩
  · exact x a u r
  · obtain ⟨_, q⟩ := x a _ r
    exact q
/-- what may be written -/
def Mut : Option HO → Prop
  | some (.lst _) => True
  | some (.dK _) => True
  | some (.dT _) => True
  | some (.set _ _) => True
  | some (.ins _ _ _) => True
  | some (.ext _) => True
  | _ => False
section
variable {P : Program} {w : World} {H : Hp} {h h' : Heap} {x e : Addr} {o' : HO}
/-- the object at e is changed: x itself, or the dict of the instance x -/
theorem HOk.write (ok : HOk P w H h) (mu : Mut (H x)) (he : e = x ∨ H e = some (.own x)) (k : ∀ b u, b ≠ e → h.get? b = some u → h'.get? b = some u) (heo : ∃ u, h'.get? e = some u)
    (new : ObjOk P w (upd H x o') h' x o') : HOk P w (upd H x o') h' := fun b u q => by
  have nown : ∀ c y, H c = some (.own y) → c ≠ x := fun c y r z => by subst z; rw [r] at mu; exact mu
  have ntup : ∀ c xs, H c = some (.tup xs) → c ≠ x := fun c xs r z => by subst z; rw [r] at mu; exact mu
  by_cases hb : b = x
  · subst hb; rw [upd_same] at q; cases q; exact new
  · rw [upd_ne hb] at q
    by_cases hbe : b = e
    · have q' : H b = some (.own x) := by
        rcases he with z | z
        · exact absurd (hbe.trans z) hb
        · rw [hbe]; exact z
      rw [q] at q'; cases q'
      obtain ⟨v, hv⟩ := heo
      exact ⟨v, by rw [hbe]; exact hv⟩
    · refine (ok b u q).stay (fun c v hc r => k c v ?_ r) (fun c r => by rw [upd_ne (nown c b r)]; exact r) fun c xs r => by rw [upd_ne (ntup c xs r)]; exact r
      rcases hc with rfl | hc
      · exact hbe
      · rintro rfl
        rcases he with z | z
        · exact nown c b hc z
        · rw [hc] at z; cases z; exact hb rfl
end
structure Un (fs ex : List Addr) (H H' : Hp) (h h' : Heap) : Prop where
  keep : ∀ b o, h.get? b = some o → H b = none → b ∉ fs → b ∉ ex → h'.get? b = some o
  slot : ∀ b o, h.get? b = some o → H b = none → b ∈ fs → b ∉ ex → ∃ sl, h'.get? b = some { o with slots := sl }
  free : ∀ b o, h.get? b = some o → H b = none → b ∉ ex → H' b = none
  there : ∀ b o, h.get? b = some o → b ∉ ex → ∃ o', h'.get? b = some o'
  tups : ∀ b xs, H b = some (.tup xs) → H' b = some (.tup xs)
  frzs : ∀ b o u, H b = some (.frz o u) → H' b = some (.frz o u)
  tbls : ∀ b ps, H b = some (.tbl ps) → ∃ more, H' b = some (.tbl (ps ++ more))
section
variable {fs fs' ex ex' : List Addr} {H H1 H2 : Hp} {h h1 h2 h' : Heap} {a x e : Addr} {o : HO}
theorem Un.any (u : Un fs ex H H1 h h1) {b : Addr} {ob : Obj} (q : h.get? b = some ob) (n : H b = none) (hx : b ∉ ex) : ∃ sl, h1.get? b = some { ob with slots := sl } := by
  by_cases hb : b ∈ fs
  · exact u.slot b ob q n hb hx
  · exact ⟨ob.slots, u.keep b ob q n hb hx⟩
theorem Un.trans (a : Un fs ex H H1 h h1) (b : Un fs ex H1 H2 h1 h2) : Un fs ex H H2 h h2 where
  keep := fun c ob q n hc hx => b.keep c ob (a.keep c ob q n hc hx) (a.free c ob q n hx) hc hx
  slot := fun c ob q n hc hx => by
    obtain ⟨sl, e1⟩ := a.slot c ob q n hc hx
    obtain ⟨sl', e2⟩ := b.slot c _ e1 (a.free c ob q n hx) hc hx
    exact ⟨sl', e2⟩
  free := fun c ob q n hx => by
    obtain ⟨o', e1⟩ := a.there c ob q hx
    exact b.free c o' e1 (a.free c ob q n hx) hx
  there := fun c ob q hx => by
    obtain ⟨o', e1⟩ := a.there c ob q hx
    exact b.there c o' e1 hx
  tups := fun c xs q => b.tups c xs (a.tups c xs q)
  frzs := fun c ob xs q => b.frzs c ob xs (a.frzs c ob xs q)
  tbls := fun c ps q => by
    obtain ⟨m1, e1⟩ := a.tbls c ps q
    obtain ⟨m2, e2⟩ := b.tbls c _ e1
    exact ⟨m1 ++ m2, by rw [e2, Array.append_assoc]⟩
theorem Un.kept (k : ∀ b u, h.get? b = some u → h'.get? b = some u) : Un fs ex H H h h' :=
  ⟨fun b ob q _ _ _ => k b ob q, fun b ob q _ _ _ => ⟨ob.slots, k b ob q⟩, fun _ _ _ n _ => n, fun b ob q _ => ⟨ob, k b ob q⟩, fun _ _ q => q, fun _ _ _ q => q, fun _ ps q => ⟨#[], by rw [q]; simp⟩⟩
theorem Un.refl : Un fs ex H H h h := Un.kept fun _ _ q => q
theorem Un.laid (k : ∀ b u, h.get? b = some u → h'.get? b = some u) (hp : h.objs.size ≤ a) (hn : H a = none) : Un fs ex H (upd H a o) h h' where
  keep := fun b u q _ _ _ => k b u q
  slot := fun b u q _ _ _ => ⟨u.slots, k b u q⟩
  free := fun b u q n _ => by rw [upd_ne (Nat.ne_of_lt (Nat.lt_of_lt_of_le (Heap.lt_size q) hp))]; exact n
  there := fun b u q _ => ⟨u, k b u q⟩
  tups := fun b xs q => by rw [upd_ne (ne_of_none q hn)]; exact q
  frzs := fun b u xs q => by rw [upd_ne (ne_of_none q hn)]; exact q
  tbls := fun b ps q => ⟨#[], by rw [upd_ne (ne_of_none q hn), q]; simp⟩
theorem Un.write (mu : Mut (H x)) (he : e = x ∨ H e = some (.own x)) (k : ∀ b u, b ≠ e → h.get? b = some u → h'.get? b = some u) (heo : ∃ u, h'.get? e = some u) : Un fs ex H (upd H x o) h h' := by
  have hx : ∀ b, H b = none → b ≠ x := fun b n z => by subst z; rw [n] at mu; exact mu
  have hb : ∀ b, H b = none → b ≠ e := fun b n z => by
    subst z
    rcases he with r | r
    · exact hx b n r
    · rw [n] at r; cases r
  have hm : ∀ b u, H b = some u → ¬ Mut (some u) → b ≠ x := fun b u q nm z => by subst z; rw [q] at mu; exact nm mu
  refine ⟨fun b u q n _ _ => k b u (hb b n) q, fun b u q n _ _ => ⟨u.slots, k b u (hb b n) q⟩, fun b u q n _ => by rw [upd_ne (hx b n)]; exact n, fun b u q _ => ?_,
    fun b xs q => by rw [upd_ne (hm b _ q fun z => z)]; exact q, fun b u xs q => by rw [upd_ne (hm b _ q fun z => z)]; exact q, fun b ps q => ⟨#[], by rw [upd_ne (hm b _ q fun z => z), q]; simp⟩⟩
  by_cases hbe : b = e
  · subst hbe; exact heo
  · exact ⟨u, k b u hbe q⟩
theorem Un.mono (u : Un fs ex H H1 h h1) (hs : ∀ b ∈ fs, b ∈ fs') (hx : ∀ b ∈ ex, b ∈ ex') : Un fs' ex' H H1 h h1 :=
  ⟨fun b ob q n hb he => u.keep b ob q n (fun z => hb (hs b z)) fun z => he (hx b z), fun _ _ q n _ he => u.any q n fun z => he (hx _ z), fun b ob q n he => u.free b ob q n fun z => he (hx b z), fun b ob q he => u.there b ob q fun z => he (hx b z), u.tups, u.frzs, u.tbls⟩
end
def trk (h : Heap) (H : Hp) : List Addr := (List.range h.objs.size).filter fun a => (H a).isSome
def hidT (h : Heap) (H : Hp) : Heap := PySem.W.hideAll h (trk h H)
theorem hidT_size (h : Heap) (H : Hp) : (hidT h H).objs.size = h.objs.size := PySem.W.hideAll_size _ _
theorem hidT_get {h : Heap} {H : Hp} {b : Addr} {o : Obj} (e : h.get? b = some o) (n : H b = none) : (hidT h H).get? b = some o :=
  PySem.W.hideAll_get _ e fun hm => by
    have q : (H b).isSome = true := (List.mem_filter.mp hm).2
    rw [n] at q; simp at q
theorem of_hidT {h : Heap} {H : Hp} {b : Addr} {o : Obj} (e : (hidT h H).get? b = some o) : h.get? b = some o ∧ H b = none := by
  have e' : h.get? b = some o := PySem.W.of_hideAll (trk h H) e
  refine ⟨e', ?_⟩
  cases q : H b with
  | none => rfl
  | some x =>
    have hm : b ∈ trk h H := List.mem_filter.mpr ⟨List.mem_range.mpr (Heap.lt_size e'), by simp [q]⟩
    have z : (hidT h H).get? b = none := PySem.W.hideAll_none (trk h H) hm
    rw [z] at e; cases e
def allNews (g h : Heap) (L : Addr) : List (Addr × Obj) := (List.range h.objs.size).filterMap fun a => if a = L ∨ (g.get? a).isSome = true then none else (h.get? a).map fun o => (a, o)
def rest (g h : Heap) (L d : Addr) : List (Addr × Obj) := (allNews g h L).filter fun p => decide (p.1 ≠ d)
end L2
namespace L2
open PySem PySem.Spec PyProof.Rows
/-- the module's facts, over the base: the heap at the law's entry without what is tracked there -/
structure Mod (K : PySem.W.Frag) (mg : Str → Option Value) (base : Heap) : Prop where
  kin : K.In base
  glob : base.Ns mainGlobals mg
  blt : ∃ mb, base.Ns builtinsNs mb ∧ ∀ x : Str, x ≠ "__name__" → mb x = bootBuiltins x
  nolimit : base.NoLimit
/-- the context: a def's body (or a comprehension's block) running. base: fixed through the whole law; s₀, H₀: the entry; outer: the frames whose slots others may change (a def's callers); stack: all frames that run;
   ex: iterators that were made ahead of the entry and are walked here (a comprehension's); fn: the names whose cells were made at the entry (a def: all; a comprehension's block: its own); calm: not within an except suite; pn: pins that every state bears; xe: what is wanted of an exception that leaves the code -/
structure Cx where
  prog : Program
  w : World
  K : PySem.W.Frag
  mg : Str → Option Value
  base : Heap
  A : Around
  N : List Str
  s₀ : Shared
  H₀ : Hp
  env : Env
  outer : List Env
  stack : List Env
  ex : List Addr
  fn : Str → Bool
  calm : Bool
  pn : List (Addr × Obj)
  xe : Value → Shared → Prop
/-- the callers' frames -/
def frs (l : List Env) : List Addr := l.filterMap (·.frame)
abbrev Cx.fs (X : Cx) : List Addr := frs X.outer
def Vis (sc : Scope) (x : Str) : Prop := sc.names.lookup x = some .local ∨ sc.names.lookup x = some .cell ∨ sc.names.lookup x = some .free
def Loc (sc : Scope) (x : Str) : Prop := sc.names.lookup x = some .local ∨ sc.names.lookup x = some .cell
def Look (env : Env) (h : Heap) (m : Str → Option Value) (x : Str) (u : Value) : Prop :=
  (env.kindOf x = some .local ∧ m x = some u) ∨ ((env.kindOf x = some .cell ∨ env.kindOf x = some .free) ∧ ∃ c, env.cells.lookup x = some c ∧ h.IsCell c (some u))
structure Cx.Ok (X : Cx) : Prop where
  mod : Mod X.K X.mg X.base
  kind : X.env.scope.kind = .function
  glob : X.env.globals = mainGlobals
  blt : X.env.builtins = builtinsNs
  above : X.s₀.heap.objs.size ≤ X.env.locals
  inj : ∀ x y c, X.env.cells.lookup x = some c → X.env.cells.lookup y = some c → x = y
  has : ∀ x, (X.env.kindOf x = some .cell ∨ X.env.kindOf x = some .free) → ∃ c, X.env.cells.lookup x = some c
  cab : ∀ x c, X.fn x = true → X.env.cells.lookup x = some c → X.s₀.heap.objs.size ≤ c
  hd : X.calm = true → X.A.handled = none
  frames : X.A.frames = some X.stack
  stk : X.stack = X.outer ∨ (X.stack = X.env :: X.outer ∧ X.env.frame = some X.env.locals)
  exf : ∀ b ∈ X.ex, b ≠ X.env.locals ∧ ∀ x c, X.env.cells.lookup x = some c → c ≠ b
  bs : ∀ b o, X.base.get? b = some o → X.s₀.heap.get? b = some o ∧ X.H₀ b = none
  bsz : X.base.objs.size ≤ X.s₀.heap.objs.size
  noex : ∀ b o, X.base.get? b = some o → b ∉ X.ex
  exfs : ∀ b ∈ X.ex, b ∉ X.fs
  funs : X.s₀.heap.FunFrames X.base X.outer
  frf : ∀ b ∈ X.fs, X.H₀ b = none
structure Inv (X : Cx) (pins : List (Addr × Obj)) (σ : List (Option V)) (H : Hp) (s : Shared) : Prop where
  ok : X.Ok
  os : s.os = X.s₀.os
  bare : AllBare s.gens
  base : Un X.fs X.ex X.H₀ H X.s₀.heap s.heap
  loc : ∃ m, s.heap.Ns X.env.locals m ∧ ∀ (i : Nat) (x : Str) (v : V), X.N[i]? = some x → σ[i]? = some (some v) → Vis X.env.scope x → ∃ u, RelV v u ∧ Look X.env s.heap m x u
  cell : ∀ x c, X.env.cells.lookup x = some c → ∃ v, s.heap.IsCell c v
  free : H X.env.locals = none
  freeC : ∀ x c, X.env.cells.lookup x = some c → H c = none
  pin : ∀ p ∈ X.pn ++ pins, s.heap.get? p.1 = some p.2 ∧ H p.1 = none ∧ p.1 ≠ X.env.locals ∧ p.1 ∉ X.fs ∧ ∀ v, p.2.data ≠ .cell v
  hok : HOk X.prog X.w H s.heap
  len : σ.length = X.N.length
section
variable {X : Cx} {pins : List (Addr × Obj)} {σ : List (Option V)} {H H' : Hp} {s : Shared} {h' : Heap}
theorem Cx.Ok.nofr (ok : X.Ok) {b : Addr} {o : Obj} (e : X.base.get? b = some o) : b ∉ X.fs := fun hb => by
  have := (ok.funs.mem hb).1
  rw [e] at this; cases this
theorem Inv.bs (I : Inv X pins σ H s) : ∀ b o, X.base.get? b = some o → s.heap.get? b = some o ∧ H b = none := fun b o e =>
  ⟨I.base.keep b o (I.ok.bs b o e).1 (I.ok.bs b o e).2 (I.ok.nofr e) (I.ok.noex b o e), I.base.free b o (I.ok.bs b o e).1 (I.ok.bs b o e).2 (I.ok.noex b o e)⟩
theorem Inv.bk (I : Inv X pins σ H s) : ∀ b o, X.base.get? b = some o → s.heap.get? b = some o := fun b o e => (I.bs b o e).1
theorem Inv.mod (I : Inv X pins σ H s) : Mod X.K X.mg X.base := I.ok.mod
theorem Inv.kIn (I : Inv X pins σ H s) : X.K.In s.heap := I.ok.mod.kin.keeps I.bk
theorem Inv.nolimit (I : Inv X pins σ H s) : s.heap.NoLimit := I.ok.mod.nolimit.keeps I.bk
/-- the frame over the base: for OpenK's rules (K.In X.base is I.mod.kin) -/
theorem Inv.fr (I : Inv X pins σ H s) : ∃ m, Fr X.base X.env.locals s.heap m :=
  let ⟨m, hn, _⟩ := I.loc
  ⟨m, hn, I.bk, Nat.le_trans I.ok.bsz I.ok.above⟩
theorem Inv.lt (I : Inv X pins σ H s) : X.env.locals < s.heap.objs.size := let ⟨_, hn, _⟩ := I.loc; hn.lt
theorem Inv.sz (I : Inv X pins σ H s) : X.s₀.heap.objs.size ≤ s.heap.objs.size := Nat.le_trans I.ok.above (Nat.le_of_lt I.lt)
theorem Inv.nofs (I : Inv X pins σ H s) {a : Addr} (h : s.heap.objs.size ≤ a) : a ∉ X.fs := fun hb => by
  obtain ⟨_, o, ho, _⟩ := I.ok.funs.mem hb
  exact absurd (Nat.lt_of_lt_of_le (Heap.lt_size ho) (Nat.le_trans I.sz h)) (Nat.lt_irrefl _)
theorem Inv.cne (I : Inv X pins σ H s) : ∀ x c, X.env.cells.lookup x = some c → c ≠ X.env.locals := fun x c e z => by
  obtain ⟨v, o, ho, hd⟩ := I.cell x c e
  obtain ⟨m, ⟨o', es, ep, ho', hd', _⟩, _⟩ := I.loc
  rw [z, ho'] at ho; cases ho; rw [hd'] at hd; cases hd
theorem Inv.funs (I : Inv X pins σ H s) : s.heap.FunFrames X.base X.outer := by
  have all : ∀ (l : List Env), (∀ b ∈ frs l, b ∈ X.fs) → X.s₀.heap.FunFrames X.base l → s.heap.FunFrames X.base l := by
    intro l
    induction l with
    | nil => intro _ _; trivial
    | cons env r ih =>
      intro hs hl
      obtain ⟨hk, ⟨L, o, hf, hn, ho, hd⟩, hr⟩ := hl
      have hL : L ∈ X.fs := hs L (by unfold frs; rw [List.filterMap_cons, hf]; exact List.mem_cons_self)
      obtain ⟨sl, e⟩ := I.base.slot L o ho (I.ok.frf L hL) hL fun z => I.ok.exfs L z hL
      exact ⟨hk, ⟨L, _, hf, hn, e, hd⟩, ih (fun b hb => hs b (by unfold frs; rw [List.filterMap_cons, hf]; exact List.mem_cons_of_mem _ hb)) hr⟩
  exact all X.outer (fun _ hb => hb) I.ok.funs
/-- the frames that run, for a call -/
theorem Inv.stack (I : Inv X pins σ H s) : s.heap.FunFrames X.base X.stack := by
  rcases I.ok.stk with e | ⟨e, hf⟩
  · rw [e]; exact I.funs
  · rw [e]
    obtain ⟨m, hn, _⟩ := I.loc
    refine .cons (by rw [I.ok.kind]; decide) hf hn ?_ I.funs
    exact Heap.get?_none_of_le (Nat.le_trans I.ok.bsz I.ok.above)
theorem Inv.stkSub (I : Inv X pins σ H s) : ∀ b ∈ frs X.stack, b ∈ X.env.locals :: X.fs := fun b hb => by
  rcases I.ok.stk with e | ⟨e, hf⟩
  · rw [e] at hb; exact List.mem_cons_of_mem _ hb
  · rw [e] at hb
    unfold frs at hb
    rw [List.filterMap_cons, hf] at hb
    exact hb
theorem Inv.stkFree (I : Inv X pins σ H s) : ∀ b ∈ frs X.stack, H b = none := fun b hb => by
  rcases List.mem_cons.mp (I.stkSub b hb) with e | hb
  · rw [e]; exact I.free
  · obtain ⟨_, o, ho, _⟩ := I.ok.funs.mem hb
    exact I.base.free b o ho (I.ok.frf b hb) fun z => I.ok.exfs b z hb
/-- THE STEP: the untracked objects but the frame and the records at ch are kept (the callers' frames up to slots), the frame's map is kept, the new abstract heap is held -/
theorem Inv.step {g' : Array GenState} {t' : Nat} {d' : Drawn} {ch : List Addr} (I : Inv X pins σ H s)
    (hch : ∀ b ∈ ch, (b ∈ X.ex ∨ X.s₀.heap.objs.size ≤ b) ∧ b ≠ X.env.locals ∧ (∀ x c, X.env.cells.lookup x = some c → c ≠ b) ∧ ∀ p ∈ X.pn ++ pins, p.1 ≠ b)
    (keep : ∀ b o, b ≠ X.env.locals → b ∉ X.fs → b ∉ ch → s.heap.get? b = some o → H b = none → h'.get? b = some o)
    (slot : ∀ b o, b ≠ X.env.locals → b ∈ X.fs → b ∉ ch → s.heap.get? b = some o → H b = none → ∃ sl, h'.get? b = some { o with slots := sl }) (free : ∀ b o, b ∉ ch → s.heap.get? b = some o → H b = none → H' b = none)
    (there : ∀ b o, b ∉ ch → s.heap.get? b = some o → ∃ o', h'.get? b = some o')
    (tups : ∀ b xs, H b = some (.tup xs) → H' b = some (.tup xs)) (frzs : ∀ b o u, H b = some (.frz o u) → H' b = some (.frz o u)) (tbls : ∀ b ps, H b = some (.tbl ps) → ∃ more, H' b = some (.tbl (ps ++ more)))
    (ns : ∀ m, s.heap.Ns X.env.locals m → h'.Ns X.env.locals m) (hok : HOk X.prog X.w H' h') (hg : AllBare g') :
    Inv X pins σ H' { s with heap := h', gens := g', drawn := d', toks := t' } := by
  have neL : ∀ b o, X.s₀.heap.get? b = some o → b ≠ X.env.locals := fun b o e => Nat.ne_of_lt (Nat.lt_of_lt_of_le (Heap.lt_size e) I.ok.above)
  have neC : ∀ b o, X.s₀.heap.get? b = some o → b ∉ X.ex → b ∉ ch := fun b o e hx hb => by
    rcases (hch b hb).1 with z | z
    · exact hx z
    · exact absurd (Nat.lt_of_lt_of_le (Heap.lt_size e) z) (Nat.lt_irrefl _)
  have cellK : ∀ x c, X.env.cells.lookup x = some c → ∀ v, s.heap.IsCell c v → h'.IsCell c v := fun x c e v ⟨o, ho, hd⟩ => by
    have nch : c ∉ ch := fun z => (hch c z).2.2.1 x c e rfl
    by_cases hc : c ∈ X.fs
    · obtain ⟨sl, q⟩ := slot c o (I.cne x c e) hc nch ho (I.freeC x c e)
      exact ⟨_, q, hd⟩
    · exact ⟨o, keep c o (I.cne x c e) hc nch ho (I.freeC x c e), hd⟩
  refine ⟨I.ok, I.os, hg, ⟨fun b o e n hb hx => ?_, fun b o e n hb hx => ?_, fun b o e n hx => ?_, fun b o e hx => ?_, fun b xs e => tups b xs (I.base.tups b xs e), fun b o xs e => frzs b o xs (I.base.frzs b o xs e), fun b ps e => ?_⟩, ?_, fun x c e => ?_, ?_, fun x c e => ?_, fun p hp => ?_, hok, I.len⟩
  · exact keep b o (neL b o e) hb (neC b o e hx) (I.base.keep b o e n hb hx) (I.base.free b o e n hx)
  · obtain ⟨sl, e1⟩ := I.base.slot b o e n hb hx
    obtain ⟨sl', e2⟩ := slot b _ (neL b o e) hb (neC b o e hx) e1 (I.base.free b o e n hx)
    exact ⟨sl', e2⟩
  · obtain ⟨o', e1⟩ := I.base.there b o e hx
    exact free b o' (neC b o e hx) e1 (I.base.free b o e n hx)
  · obtain ⟨o', e1⟩ := I.base.there b o e hx
    exact there b o' (neC b o e hx) e1
  · obtain ⟨m1, e1⟩ := I.base.tbls b ps e
    obtain ⟨m2, e2⟩ := tbls b _ e1
    exact ⟨m1 ++ m2, by rw [e2, Array.append_assoc]⟩
  · obtain ⟨m, hn, hl⟩ := I.loc
    refine ⟨m, ns m hn, fun i x v e1 e2 e3 => ?_⟩
    obtain ⟨u, r, l⟩ := hl i x v e1 e2 e3
    refine ⟨u, r, ?_⟩
    rcases l with l | ⟨k, c, e, z⟩
    · exact .inl l
    · exact .inr ⟨k, c, e, cellK x c e _ z⟩
  · obtain ⟨v, z⟩ := I.cell x c e
    exact ⟨v, cellK x c e v z⟩
  · obtain ⟨m, ⟨o, _, _, ho, _⟩, _⟩ := I.loc
    exact free _ o (fun z => (hch _ z).2.1 rfl) ho I.free
  · obtain ⟨v, o, ho, hd⟩ := I.cell x c e
    exact free c o (fun z => (hch c z).2.2.1 x c e rfl) ho (I.freeC x c e)
  · obtain ⟨e, n, ne, nf, d⟩ := I.pin p hp
    have nch : p.1 ∉ ch := fun z => (hch p.1 z).2.2.2 p hp rfl
    exact ⟨keep p.1 p.2 ne nf nch e n, free p.1 p.2 nch e n, ne, nf, d⟩
/-- .. where the frame's own object is kept too -/
theorem Inv.un {t' : Nat} (I : Inv X pins σ H s) (u : Un X.fs [] H H' s.heap h') (hok : HOk X.prog X.w H' h') : Inv X pins σ H' { s with heap := h', toks := t' } := by
  obtain ⟨m, ⟨o, es, ep, ho, r⟩, _⟩ := id I.loc
  obtain ⟨sl, hL⟩ := u.any ho I.free (by simp)
  exact I.step (g' := s.gens) (d' := s.drawn) (ch := []) (fun _ z => nomatch z) (fun b o _ hb _ e n => u.keep b o e n hb (by simp)) (fun b o _ hb _ e n => u.slot b o e n hb (by simp)) (fun b o _ e n => u.free b o e n (by simp)) (fun b o _ e => u.there b o e (by simp)) u.tups u.frzs u.tbls (fun m' hm => by
    obtain ⟨o', es', ep', ho', r'⟩ := hm
    rw [ho] at ho'; cases ho'
    exact ⟨_, es', ep', hL, r'⟩) hok I.bare
/-- behind a call (or a comprehension's block): the slots of this frame may have changed too, the records at ch may have turned -/
theorem Inv.call {g' : Array GenState} {t' : Nat} {d' : Drawn} {ch : List Addr} (I : Inv X pins σ H s) (u : Un (frs X.stack) ch H H' s.heap h') (hok : HOk X.prog X.w H' h') (hg : AllBare g')
    (hch : ∀ b ∈ ch, (b ∈ X.ex ∨ X.s₀.heap.objs.size ≤ b) ∧ b ≠ X.env.locals ∧ (∀ x c, X.env.cells.lookup x = some c → c ≠ b) ∧ ∀ p ∈ X.pn ++ pins, p.1 ≠ b) :
    Inv X pins σ H' { s with heap := h', gens := g', drawn := d', toks := t' } := by
  obtain ⟨m, ⟨o, es, ep, ho, r⟩, _⟩ := id I.loc
  obtain ⟨sl, hL⟩ := u.any ho I.free fun z => (hch _ z).2.1 rfl
  exact I.step (ch := ch) hch (fun b o hL hb hc e n => u.keep b o e n (fun z => (List.mem_cons.mp (I.stkSub b z)).elim hL hb) hc) (fun b o _ _ hc e n => u.any e n hc) (fun b o hc e n => u.free b o e n hc) (fun b o hc e => u.there b o e hc) u.tups u.frzs u.tbls (fun m' hm => by
    obtain ⟨o', es', ep', ho', r'⟩ := hm
    rw [ho] at ho'; cases ho'
    exact ⟨_, es', ep', hL, r'⟩) hok hg
/-- an untracked record of ours (an iterator) has turned -/
theorem Inv.turned {t' : Nat} {it : Addr} (I : Inv X pins σ H s) (k : ∀ b o, b ≠ it → s.heap.get? b = some o → h'.get? b = some o) (hn : H it = none) (hL : it ≠ X.env.locals)
    (h1 : it ∈ X.ex ∨ X.s₀.heap.objs.size ≤ it) (h2 : ∀ x c, X.env.cells.lookup x = some c → c ≠ it) (h3 : ∀ p ∈ X.pn ++ pins, p.1 ≠ it) : Inv X pins σ H { s with heap := h', toks := t' } := by
  have nit : ∀ b u, H b = some u → b ≠ it := fun b u e z => by rw [z, hn] at e; cases e
  refine I.step (g' := s.gens) (d' := s.drawn) (ch := [it]) (fun b hb => ?_) (fun b o _ _ hc e _ => k b o (fun z => hc (by simp [z])) e) (fun b o _ _ hc e _ => ⟨o.slots, k b o (fun z => hc (by simp [z])) e⟩) (fun _ _ _ _ n => n)
    (fun b o hc e => ⟨o, k b o (fun z => hc (by simp [z])) e⟩) (fun _ _ e => e) (fun _ _ _ e => e) (fun b ps e => ⟨#[], by rw [e]; simp⟩) (fun m hm => ?_) (fun b u e => ?_) I.bare
  · have e : b = it := by simpa using hb
    subst e
    exact ⟨h1, hL, h2, h3⟩
  · obtain ⟨o, es, ep, ho, r⟩ := hm
    exact ⟨o, es, ep, k _ o (Ne.symm hL) ho, r⟩
  · refine (I.hok b u e).stay (fun c v hc q => k c v ?_ q) (fun _ q => q) fun _ _ q => q
    rcases hc with z | z
    · rw [z]; exact nit b u e
    · exact nit c _ z
theorem Inv.tok (I : Inv X pins σ H s) (t : Nat) : Inv X pins σ H { s with toks := t } := I.un (h' := s.heap) (t' := t) Un.refl I.hok
/-- all objects kept -/
theorem Inv.kept {t' : Nat} (I : Inv X pins σ H s) (k : ∀ b u, s.heap.get? b = some u → h'.get? b = some u) : Inv X pins σ H { s with heap := h', toks := t' } := I.un (Un.kept k) (I.hok.kept k)
/-- a new object laid and tracked -/
theorem Inv.laid {a : Addr} {o : HO} {t' : Nat} (I : Inv X pins σ H s) (k : ∀ b u, s.heap.get? b = some u → h'.get? b = some u) (hp : s.heap.objs.size ≤ a) (new : ObjOk X.prog X.w (upd H a o) h' a o) :
    Inv X pins σ (upd H a o) { s with heap := h', toks := t' } := I.un (Un.laid k hp (I.hok.fresh hp)) (I.hok.laid k hp new)
/-- an object written -/
theorem Inv.write {x e : Addr} {o : HO} {t' : Nat} (I : Inv X pins σ H s) (mu : Mut (H x)) (he : e = x ∨ H e = some (.own x)) (k : ∀ b u, b ≠ e → s.heap.get? b = some u → h'.get? b = some u) (heo : ∃ u, h'.get? e = some u)
    (new : ObjOk X.prog X.w (upd H x o) h' x o) : Inv X pins σ (upd H x o) { s with heap := h', toks := t' } := I.un (Un.write mu he k heo) (I.hok.write mu he k heo new)
/-- forgetting slots, pins -/
theorem Inv.weak {σ' : List (Option V)} (I : Inv X pins σ H s) (hl : σ'.length = σ.length) (w : ∀ (i : Nat) v, σ'[i]? = some (some v) → σ[i]? = some (some v)) : Inv X pins σ' H s :=
  ⟨I.ok, I.os, I.bare, I.base, let ⟨m, hn, hl'⟩ := I.loc; ⟨m, hn, fun i x v e1 e2 e3 => hl' i x v e1 (w i v e2) e3⟩, I.cell, I.free, I.freeC, I.pin, I.hok, hl.trans I.len⟩
theorem Inv.pins_of {pins' : List (Addr × Obj)} (I : Inv X pins σ H s) (h : ∀ p ∈ pins', s.heap.get? p.1 = some p.2 ∧ H p.1 = none ∧ p.1 ≠ X.env.locals ∧ p.1 ∉ X.fs ∧ ∀ v, p.2.data ≠ .cell v) : Inv X pins' σ H s :=
  ⟨I.ok, I.os, I.bare, I.base, I.loc, I.cell, I.free, I.freeC, fun p hp => (List.mem_append.mp hp).elim (fun z => I.pin p (List.mem_append_left _ z)) (h p), I.hok, I.len⟩
theorem nodup_ix {N : List Str} (hN : N.Nodup) {i j : Nat} {x : Str} (a : N[i]? = some x) (b : N[j]? = some x) : i = j := by
  obtain ⟨h1, e1⟩ := List.getElem?_eq_some_iff.mp a
  obtain ⟨h2, e2⟩ := List.getElem?_eq_some_iff.mp b
  exact (List.getElem_inj hN).mp (e1.trans e2.symm)
/-- a name is stored; what changed -/
theorem store_ok2 {M : Model} {A : Around} {E : Value → Shared → Prop} {i : Nat} {x : Str} {v : V} {u : Value} {Q : Unit → Shared → Prop} (I : Inv X pins σ H s) (hN : X.N.Nodup) (hi : X.N[i]? = some x) (hx : Loc X.env.scope x) (r : RelV v u)
    (h : ∀ s', Inv X pins (σ.set i (some v)) H s' → (∃ a, Heap.SameBut a s.heap s'.heap ∧ (a = X.env.locals ∨ X.env.cells.lookup x = some a)) → Q () s') (hf : X.fn x = true ∨ X.env.scope.names.lookup x = some .local := by first | exact .inl rfl | exact .inr rfl | assumption) : wpAny M A (storeName X.env x u) Q E s := by
  obtain ⟨m, hn, hl⟩ := id I.loc
  have hcls : (X.env.scope.kind == .class || (X.env.scope.kind == .module && X.env.locals != X.env.globals)) = false := by rw [I.ok.kind]; rfl
  have hiσ : i < σ.length := by rw [I.len]; exact (List.getElem?_eq_some_iff.mp hi).1
  have cne := I.cne
  have tracked : ∀ {a : Addr} {h' : Heap}, (∃ o, s.heap.get? a = some o ∧ H a = none) → Heap.SameBut a s.heap h' → HOk X.prog X.w H h' := fun {a h'} ha hs b ob e => by
    obtain ⟨_, _, hfree⟩ := ha
    refine (I.hok b ob e).stay (fun c w' hc q => (hs.2 c ?_).trans q) (fun _ q => q) fun _ _ q => q
    rintro rfl
    rcases hc with rfl | hc
    · rw [hfree] at e; cases e
    · rw [hfree] at hc; cases hc
  rcases hx with hk | hk
  · refine wpAny_storeName_local hk hn (fun h' hn' hs => ?_) hcls
    obtain ⟨oL, _, _, hoL, _⟩ := id hn
    refine h _ ⟨I.ok, I.os, I.bare, ⟨fun b o e n hb hx => ?_, fun b o e n hb hx => ?_, I.base.free, fun b o e hx => ?_, I.base.tups, I.base.frzs, I.base.tbls⟩, ⟨_, hn', fun j y v' e1 e2 e3 => ?_⟩, fun y c e => ?_, I.free, I.freeC, fun p hp => ?_, tracked ⟨oL, hoL, I.free⟩ hs, by simpa using I.len⟩ ⟨_, hs, .inl rfl⟩
    · exact (hs.2 b (Nat.ne_of_lt (Nat.lt_of_lt_of_le (Heap.lt_size e) I.ok.above))).trans (I.base.keep b o e n hb hx)
    · obtain ⟨sl, e1⟩ := I.base.slot b o e n hb hx
      exact ⟨sl, (hs.2 b (Nat.ne_of_lt (Nat.lt_of_lt_of_le (Heap.lt_size e) I.ok.above))).trans e1⟩
    · obtain ⟨o', e1⟩ := I.base.there b o e hx
      exact ⟨o', (hs.2 b (Nat.ne_of_lt (Nat.lt_of_lt_of_le (Heap.lt_size e) I.ok.above))).trans e1⟩
    · by_cases hj : j = i
      · subst hj
        rw [hi] at e1; cases e1
        rw [List.getElem?_set_self hiσ] at e2
        cases e2
        exact ⟨u, r, .inl ⟨hk, by simp⟩⟩
      · rw [List.getElem?_set_ne (Ne.symm hj)] at e2
        obtain ⟨u', r', q⟩ := hl j y v' e1 e2 e3
        refine ⟨u', r', ?_⟩
        rcases q with ⟨k, e⟩ | ⟨k, c, e, z⟩
        · refine .inl ⟨k, ?_⟩
          have : y ≠ x := fun e => hj (nodup_ix hN e1 (e ▸ hi))
          simp [this, e]
        · exact .inr ⟨k, c, e, z.sameBut hs (cne y c e)⟩
    · obtain ⟨w', z⟩ := I.cell y c e
      exact ⟨w', z.sameBut hs (cne y c e)⟩
    · obtain ⟨e, n, ne, nf, d⟩ := I.pin p hp
      exact ⟨(hs.2 p.1 ne).trans e, n, ne, nf, d⟩
  · have hfn : X.fn x = true := by
      rcases hf with z | z
      · exact z
      · rw [z] at hk; cases hk
    obtain ⟨c, hc⟩ := I.ok.has x (.inl hk)
    obtain ⟨w', z⟩ := I.cell x c hc
    refine wpAny_storeName_cell I.ok.kind hk hc z (fun h' hc' hs => ?_)
    obtain ⟨oc, hoc, hocd⟩ := id z
    refine h { s with heap := h' } ⟨I.ok, I.os, I.bare, ⟨fun b o e n hb hx => ?_, fun b o e n hb hx => ?_, I.base.free, fun b o e hx => ?_, I.base.tups, I.base.frzs, I.base.tbls⟩, ⟨m, hn.sameBut hs (Ne.symm (cne x c hc)), fun j y v' e1 e2 e3 => ?_⟩, fun y c' e => ?_, I.free, I.freeC, fun p hp => ?_, tracked ⟨oc, hoc, I.freeC x c hc⟩ hs, by simpa using I.len⟩ ⟨c, hs, .inr hc⟩
    · exact (hs.2 b (Nat.ne_of_lt (Nat.lt_of_lt_of_le (Heap.lt_size e) (I.ok.cab x c hfn hc)))).trans (I.base.keep b o e n hb hx)
    · obtain ⟨sl, e1⟩ := I.base.slot b o e n hb hx
      exact ⟨sl, (hs.2 b (Nat.ne_of_lt (Nat.lt_of_lt_of_le (Heap.lt_size e) (I.ok.cab x c hfn hc)))).trans e1⟩
    · obtain ⟨o', e1⟩ := I.base.there b o e hx
      exact ⟨o', (hs.2 b (Nat.ne_of_lt (Nat.lt_of_lt_of_le (Heap.lt_size e) (I.ok.cab x c hfn hc)))).trans e1⟩
    · by_cases hj : j = i
      · subst hj
        rw [hi] at e1; cases e1
        rw [List.getElem?_set_self hiσ] at e2
        cases e2
        exact ⟨u, r, .inr ⟨.inl hk, c, hc, hc'⟩⟩
      · rw [List.getElem?_set_ne (Ne.symm hj)] at e2
        obtain ⟨u', r', q⟩ := hl j y v' e1 e2 e3
        refine ⟨u', r', ?_⟩
        rcases q with q | ⟨k, c', e, z'⟩
        · exact .inl q
        · refine .inr ⟨k, c', e, z'.sameBut hs ?_⟩
          rintro rfl
          exact hj (nodup_ix hN e1 (I.ok.inj _ _ _ e hc ▸ hi))
    · by_cases hcc : c' = c
      · subst hcc; exact ⟨_, hc'⟩
      · obtain ⟨w2, z2⟩ := I.cell y c' e
        exact ⟨w2, z2.sameBut hs hcc⟩
    · obtain ⟨e, n, ne, nf, d⟩ := I.pin p hp
      refine ⟨(hs.2 p.1 ?_).trans e, n, ne, nf, d⟩
      intro q
      rw [q, hoc] at e
      have q' : oc = p.2 := Option.some.inj e
      exact d w' (by rw [← q']; exact hocd)
theorem store_ok {M : Model} {A : Around} {E : Value → Shared → Prop} {i : Nat} {x : Str} {v : V} {u : Value} {Q : Unit → Shared → Prop} (I : Inv X pins σ H s) (hN : X.N.Nodup) (hi : X.N[i]? = some x) (hx : Loc X.env.scope x) (r : RelV v u)
    (h : ∀ s', Inv X pins (σ.set i (some v)) H s' → Q () s') (hf : X.fn x = true ∨ X.env.scope.names.lookup x = some .local := by first | exact .inl rfl | exact .inr rfl | assumption) : wpAny M A (storeName X.env x u) Q E s :=
  store_ok2 I hN hi hx r (fun s' I' _ => h s' I') hf
/-- behind a call or a block, the state as it is -/
theorem Inv.call' {s' : Shared} {ch : List Addr} (I : Inv X pins σ H s) (ho : s'.os = s.os) (u : Un (frs X.stack) ch H H' s.heap s'.heap) (hok : HOk X.prog X.w H' s'.heap) (hg : AllBare s'.gens)
    (hch : ∀ b ∈ ch, (b ∈ X.ex ∨ X.s₀.heap.objs.size ≤ b) ∧ b ≠ X.env.locals ∧ (∀ x c, X.env.cells.lookup x = some c → c ≠ b) ∧ ∀ p ∈ X.pn ++ pins, p.1 ≠ b) : Inv X pins σ H' s' := by
  obtain ⟨h', g', d', t', o'⟩ := s'
  have e : o' = s.os := ho
  subst e
  exact I.call (g' := g') (t' := t') (d' := d') u hok hg hch
end
/-- an exception: its class, its own dict's address (where it has one), the abstract heap behind it -/
abbrev XK := Value → Option Addr → Hp → Prop
abbrev St := List (Option V)
abbrev VK := V → Hp → Prop
/-- an expression's reading; a test's; an argument list's -/
abbrev TE := St → Hp → VK → Prop
abbrev TT := St → Hp → (Bool → Hp → Prop) → Prop
abbrev TA := St → Hp → (List V → Hp → Prop) → Prop
/-- what is wanted behind a statement -/
structure Ends where
  nx : St → Hp → Prop
  rt : VK
  bk : St → Hp → Prop := fun _ _ => False
  ct : St → Hp → Prop := fun _ _ => False
abbrev TS := Ends → St → Hp → Prop
def EP (X : Cx) (pins : List (Addr × Obj)) (σ : St) (Q : VK) (u : Value) (s' : Shared) : Prop := ∃ v H', Inv X pins σ H' s' ∧ RelV v u ∧ Q v H'
def TP (X : Cx) (pins : List (Addr × Obj)) (σ : St) (Q : Bool → Hp → Prop) (b : Bool) (s' : Shared) : Prop := ∃ H', Inv X pins σ H' s' ∧ Q b H'
def AP (X : Cx) (pins : List (Addr × Obj)) (σ : St) (Q : List V → Hp → Prop) (us : List Value) (s' : Shared) : Prop := ∃ vs H', Inv X pins σ H' s' ∧ Vals vs us ∧ Q vs H'
def SP (X : Cx) (pins : List (Addr × Obj)) (D : Ends) (f : Flow) (s' : Shared) : Prop :=
  match f with
  | .next => ∃ σ' H', Inv X pins σ' H' s' ∧ D.nx σ' H'
  | .brk => ∃ σ' H', Inv X pins σ' H' s' ∧ D.bk σ' H'
  | .cont => ∃ σ' H', Inv X pins σ' H' s' ∧ D.ct σ' H'
  | .ret u => ∃ v σ' H', Inv X pins σ' H' s' ∧ RelV v u ∧ D.rt v H'
def PE (X : Cx) (e : Expr) (t : TE) : Prop :=
  ∀ (pins : List (Addr × Obj)) (s : Shared) (σ : St) (H : Hp) (Q : VK), Inv X pins σ H s → t σ H Q → wpAny (model X.prog X.w) X.A (eval e X.env) (EP X pins σ Q) X.xe s
def PT (X : Cx) (e : Expr) (t : TT) : Prop :=
  ∀ (pins : List (Addr × Obj)) (s : Shared) (σ : St) (H : Hp) (Q : Bool → Hp → Prop), Inv X pins σ H s → t σ H Q → wpAny (model X.prog X.w) X.A (isTrue e X.env (eval e X.env)) (TP X pins σ Q) X.xe s
/-- a test whatever its 'whole' is (and, or) -/
def PW (X : Cx) (e : Expr) (t : TT) : Prop :=
  ∀ (whole : Sem Value) (pins : List (Addr × Obj)) (s : Shared) (σ : St) (H : Hp) (Q : Bool → Hp → Prop), Inv X pins σ H s → t σ H Q → wpAny (model X.prog X.w) X.A (isTrue e X.env whole) (TP X pins σ Q) X.xe s
theorem PW.pt {X : Cx} {e : Expr} {t : TT} (h : PW X e t) : PT X e t := h _
/-- an argument list (no star), from the left -/
def PA (X : Cx) (es : List Expr) (t : TA) : Prop :=
  ∀ (pos : Pos) (pins : List (Addr × Obj)) (s : Shared) (σ : St) (H : Hp) (Q : List V → Hp → Prop), Inv X pins σ H s → t σ H Q → wpAny (model X.prog X.w) X.A (spliced (backTo pos (starEach es X.env))) (AP X pins σ Q) X.xe s
def PS (X : Cx) (st : Stmt) (t : TS) : Prop :=
  ∀ (pins : List (Addr × Obj)) (s : Shared) (σ : St) (H : Hp) (D : Ends), Inv X pins σ H s → t D σ H → wpAny (model X.prog X.w) X.A (exec st X.env) (SP X pins D) X.xe s
def PSs (X : Cx) (st : List Stmt) (t : TS) : Prop :=
  ∀ (pins : List (Addr × Obj)) (s : Shared) (σ : St) (H : Hp) (D : Ends), Inv X pins σ H s → t D σ H → wpAny (model X.prog X.w) X.A (execs st X.env) (SP X pins D) X.xe s
/-- weaken the end -/
theorem thn {α : Type} {t : Sem α} {Q Q' : α → Shared → Prop} {M : Model} {A : Around} {E : Value → Shared → Prop} {s : Shared} (h : wpAny M A t Q E s) (hQ : ∀ a s, Q a s → Q' a s) : wpAny M A t Q' E s := wpAny_mono h hQ fun _ _ x => x
end L2
namespace L2
open PySem PySem.Spec PyProof.Rows
section
variable {X : Cx}
def tVar (i : Nat) : TE := fun σ H Q => ∃ v, σ[i]? = some (some v) ∧ Q v H
def tC (v : V) : TE := fun _ H Q => Q v H
theorem pe_var {i : Nat} {x : Str} {pos : Pos} (hN : X.N[i]? = some x) (hv : Vis X.env.scope x) (hd : (x == ("__debug__" : Str)) = false := by decide) (hcd : (x == ("__classdict__" : Str)) = false := by decide) : PE X (.Name x pos) (tVar i) := by
  intro pins s σ H Q I h
  obtain ⟨v, e, h⟩ := h
  obtain ⟨m, hn, hl⟩ := I.loc
  obtain ⟨u, r, l⟩ := hl i x v hN e hv
  have fin : EP X pins σ Q u s := ⟨v, H, I, r, h⟩
  rcases l with ⟨hk, hm⟩ | ⟨hk, c, hc, hcell⟩
  · exact wpAny_Name (wpAny_loadName_local I.ok.kind hk hn hm fin) hd
  · rcases hk with hk | hk
    · exact wpAny_Name (wpAny_loadName_cell I.ok.kind hk hc hcell fin) hd
    · exact wpAny_Name (wpAny_loadName_free I.ok.kind hk hc hcell fin hcd) hd
theorem pe_int {i j pos} : PE X (.Constant (.int i) j pos) (tC (.int i)) := fun _ _ _ H _ I h => wpAny_Constant_int ⟨.int i, H, I.tok _, ⟨_, rfl⟩, h⟩
theorem pe_bl {b j pos} : PE X (.Constant (.bool b) j pos) (tC (.bl b)) := fun _ _ _ H _ I h => Constant_bool ⟨.bl b, H, I, rfl, h⟩
theorem pe_non {j pos} : PE X (.Constant .none j pos) (tC .non) := fun _ _ _ H _ I h => Constant_none ⟨.non, H, I, rfl, h⟩
theorem pe_str {x j pos} : PE X (.Constant (.str x) j pos) (tC (.str x)) := fun _ _ _ H _ I h => Calls.Constant_str ⟨.str x, H, I.tok _, ⟨_, rfl⟩, h⟩
/-- a global name of the def -/
def Gl (X : Cx) (x : Str) : Prop := X.env.kindOf x = some .globalImplicit
theorem ld_glob {E : Value → Shared → Prop} {pins : List (Addr × Obj)} {s : Shared} {σ : St} {H : Hp} {x : Str} {u : Value} {pos : Pos} {Q : Value → Shared → Prop} (I : Inv X pins σ H s) (hg : Gl X x) (hm : X.mg x = some u) (h : Q u s)
    (hd : (x == ("__debug__" : Str)) = false := by decide) : wpAny (model X.prog X.w) X.A (eval (.Name x pos) X.env) Q E s :=
  Calls.Name_function_global I.ok.kind hg (Calls.loadGlobal_global (by rw [I.ok.glob]; exact I.mod.glob.keeps I.bk) hm h) hd
theorem ld_blt {E : Value → Shared → Prop} {pins : List (Addr × Obj)} {s : Shared} {σ : St} {H : Hp} {x : Str} {u : Value} {pos : Pos} {Q : Value → Shared → Prop} (I : Inv X pins σ H s) (hg : Gl X x) (hm : X.mg x = none) (hv : bootBuiltins x = some u) (h : Q u s)
    (hn : x ≠ "__name__" := by decide) (hd : (x == ("__debug__" : Str)) = false := by decide) : wpAny (model X.prog X.w) X.A (eval (.Name x pos) X.env) Q E s := by
  obtain ⟨mb, h1, h2⟩ := I.mod.blt
  exact Calls.Name_function_global I.ok.kind hg (Calls.loadGlobal_builtin (by rw [I.ok.glob]; exact I.mod.glob.keeps I.bk) hm (by rw [I.ok.blt]; exact h1.keeps I.bk) ((h2 x hn).trans hv) h) hd
variable {a b : Expr} {ta tb : TE} {pos : Pos}
/-- a comparison as a value, as a test -/
def tB (t : TE) : TT := fun σ H Q => t σ H fun x H1 => ∃ c, x = .bl c ∧ Q c H1
/-- an expression whose value is a bool, as a test -/
theorem pt_val {e : Expr} {t : TE} (h : PE X e t) (he : ∀ whole, isTrue e X.env whole = (do let v ← whole; standAt e.pos; holding [v] (truthy v)) := by intro _; rfl) : PT X e (tB t) := by
  intro pins s σ H Q I hw
  refine isTrue_plain (thn (h pins s σ H _ I hw) fun v s1 ⟨x, H1, I1, r1, q1⟩ => ?_) (he _)
  obtain ⟨d, rfl, q⟩ := q1
  cases r1
  exact wpAny_truthy_bool ⟨H1, I1, q⟩
variable {tA tB' : TT} {rest : List Expr}
def tAnd (t u : TT) : TT := fun σ H Q => t σ H fun c H1 => if c = true then u σ H1 Q else Q false H1
def tOr (t u : TT) : TT := fun σ H Q => t σ H fun c H1 => if c = true then Q true H1 else u σ H1 Q
def tNot (t : TT) : TT := fun σ H Q => t σ H fun c H1 => Q (!c) H1
theorem pw_and1 (ha : PT X a tA) : PW X (.BoolOp .And [a] pos) tA := by
  intro wh pins s σ H Q I h
  refine isTrue_and (thn (ha pins s σ H Q I h) fun c s1 e => ?_)
  cases c with
  | true => exact isTrue_and_nil e
  | false => exact e
theorem pw_or1 (ha : PT X a tA) : PW X (.BoolOp .Or [a] pos) tA := by
  intro wh pins s σ H Q I h
  refine isTrue_or (thn (ha pins s σ H Q I h) fun c s1 e => ?_)
  cases c with
  | false => exact isTrue_or_nil e
  | true => exact e
theorem pw_and (ha : PT X a tA) (hb : PW X (.BoolOp .And (b :: rest) pos) tB') : PW X (.BoolOp .And (a :: b :: rest) pos) (tAnd tA tB') := by
  intro wh pins s σ H Q I h
  refine isTrue_and (thn (ha pins s σ H _ I h) fun c s1 ⟨H1, I1, q1⟩ => ?_)
  cases c with
  | true => exact hb wh pins s1 σ H1 Q I1 q1
  | false => exact ⟨H1, I1, q1⟩
theorem pw_or (ha : PT X a tA) (hb : PW X (.BoolOp .Or (b :: rest) pos) tB') : PW X (.BoolOp .Or (a :: b :: rest) pos) (tOr tA tB') := by
  intro wh pins s σ H Q I h
  refine isTrue_or (thn (ha pins s σ H _ I h) fun c s1 ⟨H1, I1, q1⟩ => ?_)
  cases c with
  | true => exact ⟨H1, I1, q1⟩
  | false => exact hb wh pins s1 σ H1 Q I1 q1
theorem pt_not (ha : PT X a tA) : PT X (.UnaryOp .Not a pos) (tNot tA) := by
  intro pins s σ H Q I h
  exact isTrue_not (ha pins s σ H (fun c H1 => Q (!c) H1) I h)
def tNotV (ta : TE) : TE := fun σ H Q => ta σ H fun x H1 => ∃ c, x = .bl c ∧ Q (.bl (!c)) H1
theorem pe_not (ha : PE X a ta) : PE X (.UnaryOp .Not a pos) (tNotV ta) := by
  intro pins s σ H Q I h
  refine UnaryOp_ (thn (ha pins s σ H _ I h) fun v s1 ⟨x, H1, I1, r1, q1⟩ => ?_)
  obtain ⟨c, rfl, q1⟩ := q1
  cases r1
  exact not_of (wpAny_truthy_bool ⟨.bl (!c), H1, I1, rfl, q1⟩)
end
end L2
namespace L2
open PySem PySem.Spec PyProof.Rows
def SqL (K : PySem.W.Frag) (H : Hp) (a : Addr) (xs : List V) : Prop :=
  Rd H a (.lst xs) ∨
    ∃ (o : Obj) (its : Array Value) (n : Nat), K.lookup a = some o ∧ o.cls = .type "list" ∧ o.dict = none ∧ o.data = .seq its n ∧ its.size ≤ sizeLine ∧ Vals xs its.toList
def SqT (K : PySem.W.Frag) (H : Hp) (a : Addr) (xs : List V) : Prop :=
  Rd H a (.tup xs) ∨
    ∃ (o : Obj) (its : Array Value) (n : Nat), K.lookup a = some o ∧ o.cls = .type "tuple" ∧ o.data = .seq its n ∧ its.size ≤ sizeLine ∧ Vals xs its.toList
def absV : Value → Option V
  | .none => some .non
  | .bool b => some (.bl b)
  | .int i _ => some (.int i)
  | .str x _ => some (.str x)
  | .bytes b _ => some (.byt b)
  | .float b _ => some (.flt b)
  | .ref a => some (.ref a)
  | .type n => some (.ty n)
  | _ => none
theorem RelV.abs {x : V} {u : Value} (r : RelV x u) : absV u = some x := by
  cases x with
  | non => cases r; rfl
  | bl _ => cases r; rfl
  | int _ => obtain ⟨t, rfl⟩ := r; rfl
  | str _ => obtain ⟨t, rfl⟩ := r; rfl
  | byt _ => obtain ⟨t, rfl⟩ := r; rfl
  | flt _ => obtain ⟨t, rfl⟩ := r; rfl
  | ref _ => cases r; rfl
  | ty _ => cases r; rfl
theorem RelV.inj {x y : V} {u : Value} (r : RelV x u) (q : RelV y u) : x = y := Option.some.inj (r.abs.symm.trans q.abs)
theorem Vals.inj : ∀ {xs ys : List V} {us : List Value}, Vals xs us → Vals ys us → xs = ys
  | _, _, _, .nil, .nil => rfl
  | _, _, _, .cons r t, .cons r' t' => by rw [r.inj r', Vals.inj t t']
section
variable {X : Cx} {pins : List (Addr × Obj)} {σ : St} {H : Hp} {s : Shared} {a : Addr} {xs ys : List V}
theorem SqL.of {K : PySem.W.Frag} (h : H a = some (.lst xs)) : SqL K H a xs := .inl (.inl h)
theorem SqT.of {K : PySem.W.Frag} (h : H a = some (.tup xs)) : SqT K H a xs := .inl (.inl h)
theorem Inv.list (I : Inv X pins σ H s) (h : SqL X.K H a xs) : ∃ its : List Value, Vals xs its ∧ PlainL s.heap a its.toArray ∧ xs.length ≤ sizeLine := by
  rcases h with h | ⟨o, its, n, hk, hc, hd, hs, hz, r⟩
  · obtain ⟨z, its, n, r, e⟩ := h.ok I.hok
    exact ⟨its, r, ⟨_, n, e, rfl, rfl, rfl⟩, z⟩
  · refine ⟨its.toList, r, ⟨o, n, I.kIn a o hk, hc, hd, by simpa using hs⟩, ?_⟩
    have e := r.length
    simp only [Array.length_toList] at e
    omega
theorem Inv.tuple (I : Inv X pins σ H s) (h : SqT X.K H a xs) : ∃ its : List Value, Vals xs its ∧ IsTup s.heap a its.toArray ∧ xs.length ≤ sizeLine := by
  rcases h with h | ⟨o, its, n, hk, hc, hs, hz, r⟩
  · obtain ⟨z, its, r, p⟩ := h.ok I.hok
    exact ⟨its, r, p.tup, z⟩
  · refine ⟨its.toList, r, ⟨o, I.kIn a o hk, hc, n, by simpa using hs⟩, ?_⟩
    have e := r.length
    simp only [Array.length_toList] at e
    omega
theorem Inv.list_inj (I : Inv X pins σ H s) (h : SqL X.K H a xs) (h' : SqL X.K H a ys) : xs = ys := by
  obtain ⟨its, r, ⟨o, n, e, _, _, d⟩, _⟩ := I.list h
  obtain ⟨its', r', ⟨o', n', e', _, _, d'⟩, _⟩ := I.list h'
  rw [e] at e'; cases e'
  rw [d] at d'
  injection d' with d1 _
  have : its = its' := by simpa using congrArg Array.toList d1
  subst this
  exact r.inj r'
theorem Inv.tuple_inj (I : Inv X pins σ H s) (h : SqT X.K H a xs) (h' : SqT X.K H a ys) : xs = ys := by
  obtain ⟨its, r, ⟨o, e, _, n, d⟩, _⟩ := I.tuple h
  obtain ⟨its', r', ⟨o', e', _, n', d'⟩, _⟩ := I.tuple h'
  rw [e] at e'; cases e'
  rw [d] at d'
  injection d' with d1 _
  have : its = its' := by simpa using congrArg Array.toList d1
  subst this
  exact r.inj r'
end
abbrev Cx.wish (X : Cx) (E : Value → Shared → Prop) : Cx := { X with xe := E }
/-- no exception leaves -/
abbrev Cx.nox (X : Cx) : Cx := X.wish fun _ _ => False
theorem Cx.Ok.wish {X : Cx} (ok : X.Ok) (E : Value → Shared → Prop) : (X.wish E).Ok :=
  ⟨ok.mod, ok.kind, ok.glob, ok.blt, ok.above, ok.inj, ok.has, ok.cab, ok.hd, ok.frames, ok.stk, ok.exf, ok.bs, ok.bsz, ok.noex, ok.exfs, ok.funs, ok.frf⟩
theorem Cx.Ok.unwish {X : Cx} {E : Value → Shared → Prop} (ok : (X.wish E).Ok) : X.Ok :=
  ⟨ok.mod, ok.kind, ok.glob, ok.blt, ok.above, ok.inj, ok.has, ok.cab, ok.hd, ok.frames, ok.stk, ok.exf, ok.bs, ok.bsz, ok.noex, ok.exfs, ok.funs, ok.frf⟩
section
variable {X : Cx} {pins : List (Addr × Obj)} {σ : St} {H : Hp} {s : Shared} {E : Value → Shared → Prop}
theorem Inv.wish (I : Inv X pins σ H s) (E : Value → Shared → Prop) : Inv (X.wish E) pins σ H s := ⟨I.ok.wish E, I.os, I.bare, I.base, I.loc, I.cell, I.free, I.freeC, I.pin, I.hok, I.len⟩
theorem Inv.unwish (I : Inv (X.wish E) pins σ H s) : Inv X pins σ H s := ⟨I.ok.unwish, I.os, I.bare, I.base, I.loc, I.cell, I.free, I.freeC, I.pin, I.hok, I.len⟩
theorem SP.unwish {D : Ends} {f : Flow} {s' : Shared} (h : SP (X.wish E) pins D f s') : SP X pins D f s' := by
  cases f with
  | next => obtain ⟨σ', H', I, q⟩ := h; exact ⟨σ', H', I.unwish, q⟩
  | brk => obtain ⟨σ', H', I, q⟩ := h; exact ⟨σ', H', I.unwish, q⟩
  | cont => obtain ⟨σ', H', I, q⟩ := h; exact ⟨σ', H', I.unwish, q⟩
  | ret u => obtain ⟨v, σ', H', I, r, q⟩ := h; exact ⟨v, σ', H', I.unwish, r, q⟩
theorem PE.nox {e : Expr} {t : TE} (h : PE X.nox e t) : PE X e t := fun pins s σ H Q I hw =>
  wpAny_mono (h pins s σ H Q (I.wish _) hw) (fun _ _ ⟨v, H', I', r, q⟩ => ⟨v, H', I'.unwish, r, q⟩) fun _ _ z => False.elim z
theorem PT.nox {e : Expr} {t : TT} (h : PT X.nox e t) : PT X e t := fun pins s σ H Q I hw =>
  wpAny_mono (h pins s σ H Q (I.wish _) hw) (fun _ _ ⟨H', I', q⟩ => ⟨H', I'.unwish, q⟩) fun _ _ z => False.elim z
theorem PSs.nox {st : List Stmt} {t : TS} (h : PSs X.nox st t) : PSs X st t := fun pins s σ H D I hw =>
  wpAny_mono (h pins s σ H D (I.wish _) hw) (fun _ _ q => q.unwish) fun _ _ z => False.elim z
end
section
variable {X : Cx} {st : Stmt} {rest : List Stmt} {t u : TS} {e : Expr} {te : TE} {pos : Pos}
def tNext : TS := fun D σ H => D.nx σ H
def tSeq (t u : TS) : TS := fun D σ H => t { D with nx := u D } σ H
theorem pss_nil : PSs X [] tNext := fun _ _ σ H _ I h => wpAny_execs_nil ⟨σ, H, I, h⟩
theorem pss_cons (h1 : PS X st t) (h2 : PSs X rest u) : PSs X (st :: rest) (tSeq t u) := by
  intro pins s σ H D I h
  refine wpAny_execs_cons (thn (h1 pins s σ H { D with nx := u D } I h) fun f s1 q => ?_)
  cases f with
  | next =>
    obtain ⟨σ', H', I', q⟩ := q
    exact h2 pins s1 σ' H' D I' q
  | ret v => exact q
  | brk => exact q
  | cont => exact q
theorem pss_one (h1 : PS X st t) : PSs X [st] t := by
  intro pins s σ H D I h
  refine wpAny_execs_cons (thn (h1 pins s σ H D I h) fun f s1 q => ?_)
  cases f with
  | next => exact wpAny_execs_nil q
  | ret v => exact q
  | brk => exact q
  | cont => exact q
/-- in a def's body nothing is shown -/
theorem Inv.quiet {pins : List (Addr × Obj)} {σ : St} {H : Hp} {s : Shared} (I : Inv X pins σ H s) : interactive X.env = false := by simp [interactive, I.ok.kind]
/-- an expression whose value is dropped -/
def tDrop (te : TE) : TS := fun D σ H => te σ H fun _ H1 => D.nx σ H1
theorem ps_expr (he : PE X e te) (hs : swapsWith e none pos.line X.env = pure false := by rfl) : PS X (.Expr e pos) (tDrop te) := by
  intro pins s σ H D I h
  exact wpAny_Expr_any (thn (he pins s σ H _ I h) fun v s1 ⟨x, H1, I1, r1, q1⟩ => ⟨σ, H1, I1, q1⟩) I.quiet hs
def tRet (te : TE) : TS := fun D σ H => te σ H D.rt
theorem ps_ret (he : PE X e te) : PS X (.Return (some e) pos) (tRet te) := by
  intro pins s σ H D I h
  exact wpAny_Return_some (thn (he pins s σ H _ I h) fun v s1 ⟨x, H1, I1, r1, q1⟩ => ⟨x, σ, H1, I1, r1, q1⟩)
def tIfS (c : TT) (t u : TS) : TS := fun D σ H => c σ H fun b H1 => if b = true then t D σ H1 else u D σ H1
theorem ps_if {c : Expr} {a b : List Stmt} {tc : TT} (hc : PT X c tc) (ha : PSs X a t) (hb : PSs X b u) : PS X (.If c a b pos) (tIfS tc t u) := by
  intro pins s σ H D I h
  refine wpAny_If (thn (hc pins s σ H _ I h) fun d s1 ⟨H1, I1, q1⟩ => ?_)
  cases d with
  | true => exact ha pins s1 σ H1 D I1 q1
  | false => exact hb pins s1 σ H1 D I1 q1
end
abbrev TG := V → St → Hp → (St → Hp → Prop) → Prop
abbrev TGs := List V → St → Hp → (St → Hp → Prop) → Prop
def PG (X : Cx) (target : Expr) (t : TG) : Prop :=
  ∀ (pins : List (Addr × Obj)) (s : Shared) (σ : St) (H : Hp) (v : V) (u : Value) (Q : St → Hp → Prop), Inv X pins σ H s → RelV v u → t v σ H Q →
    wpAny (model X.prog X.w) X.A (assign target X.env u) (fun _ s' => ∃ σ' H', Inv X pins σ' H' s' ∧ Q σ' H') X.xe s
/-- several targets, one after another -/
def PGs (X : Cx) (ts : List Expr) (t : TGs) : Prop :=
  ∀ (pins : List (Addr × Obj)) (s : Shared) (σ : St) (H : Hp) (vs : List V) (us : List Value) (Q : St → Hp → Prop), Inv X pins σ H s → Vals vs us → t vs σ H Q →
    wpAny (model X.prog X.w) X.A (assignInOrder ((assignEach ts X.env).map (·.2)) us) (fun _ s' => ∃ σ' H', Inv X pins σ' H' s' ∧ Q σ' H') X.xe s
/-- o[i] = v, by values -/
abbrev TSet := V → V → V → Hp → (Hp → Prop) → Prop
def PSet (X : Cx) (t : TSet) : Prop :=
  ∀ (pins : List (Addr × Obj)) (s : Shared) (σ : St) (H : Hp) (o i v : V) (ov iv u : Value) (Q : Hp → Prop), Inv X pins σ H s → RelV o ov → RelV i iv → RelV v u → t o i v H Q →
    wpAny (model X.prog X.w) X.A (setItem ov iv u) (fun _ s' => ∃ H', Inv X pins σ H' s' ∧ Q H') X.xe s
section
variable {X : Cx} {pos : Pos}
def gName (i : Nat) : TG := fun v σ H Q => Q (σ.set i (some v)) H
theorem pg_name {i : Nat} {x : Str} (hN : X.N.Nodup) (hi : X.N[i]? = some x) (hx : Loc X.env.scope x) (hf : X.fn x = true ∨ X.env.scope.names.lookup x = some .local := by first | exact .inl rfl | exact .inr rfl | assumption) : PG X (.Name x pos) (gName i) := by
  intro pins s σ H v u Q I r h
  exact wpAny_assign_Name (store_ok I hN hi hx r (fun s' I' => ⟨_, H, I', h⟩) hf)
def gNil : TGs := fun vs σ H Q => vs = [] ∧ Q σ H
def gCons (t : TG) (u : TGs) : TGs := fun vs σ H Q => ∃ v r, vs = v :: r ∧ t v σ H fun σ' H' => u r σ' H' Q
theorem pgs_nil : PGs X [] gNil := by
  intro pins s σ H vs us Q I r h
  obtain ⟨e, h⟩ := h
  subst e
  cases r
  exact assignInOrder_nil ⟨σ, H, I, h⟩
theorem pgs_cons {e : Expr} {es : List Expr} {t : TG} {u : TGs} (h1 : PG X e t) (h2 : PGs X es u)
    (hs : (assignEach (e :: es) X.env).map (·.2) = assign e X.env :: (assignEach es X.env).map (·.2) := by rfl) : PGs X (e :: es) (gCons t u) := by
  intro pins s σ H vs us Q I r h
  obtain ⟨v, vr, e1, h⟩ := h
  subst e1
  cases r with
  | cons r rr =>
    rw [hs]
    refine assignInOrder_cons (thn (h1 pins s σ H _ _ _ I r h) fun _ s1 ⟨σ1, H1, I1, q1⟩ => ?_)
    exact h2 pins s1 σ1 H1 _ _ Q I1 rr q1
/-- (a, b, ..) = a tuple of that length -/
def gTup (K : PySem.W.Frag) (n : Nat) (t : TGs) : TG := fun v σ H Q => ∃ a xs, v = .ref a ∧ SqT K H a xs ∧ xs.length = n ∧ t xs σ H Q
theorem pg_tup {es : List Expr} {k : Nat} {t : TGs} {n : Nat} (hc : X.calm = true) (h : PGs X es t)
    (hn : (assignEach es X.env).length = n := by rfl) (hst : (assignEach es X.env).findIdx? (·.1) = none := by rfl) : PG X (.Tuple es k pos) (gTup X.K n t) := by
  intro pins s σ H v u Q I r hw
  obtain ⟨a, xs, e1, hq, hl, hw⟩ := hw
  subst e1
  cases r
  obtain ⟨its, rv, ht, hz⟩ := I.tuple hq
  refine assign_Tuple_tuple (I.ok.hd hc) ht (by simp [hn, ← hl, rv.length]) hst fun h' hx => ?_
  have I1 : Inv X pins σ H { s with heap := h' } := I.kept (t' := s.toks) fun b o e => hx b o (Nat.ne_of_lt (Heap.lt_size e)) e
  exact h pins _ σ H xs _ Q I1 (by simpa using rv) hw
/-- o[i] = .. -/
def gSub (to ti : TE) (t : TSet) : TG := fun v σ H Q => to σ H fun o H1 => ti σ H1 fun i H2 => t o i v H2 fun H3 => Q σ H3
theorem pg_sub {o i : Expr} {to ti : TE} {t : TSet} (ho : PE X o to) (hi : PE X i ti) (hs : PSet X t)
    (ha : ∀ v, assign (.Subscript o i pos) X.env v = (do
      let ov ← holding [v] (eval o X.env)
      let iv ← holding [v, ov] (eval i X.env)
      standAt pos
      holding [v, ov, iv] (setItem ov iv v)
      release [v, ov, iv] []) := by intro _; rfl) : PG X (.Subscript o i pos) (gSub to ti t) := by
  intro pins s σ H v u Q I r h
  rw [ha]
  refine wpAny_bind (wpAny_holding (thn (ho pins s σ H _ I h) fun ov s1 ⟨x, H1, I1, r1, q1⟩ => ?_))
  refine wpAny_bind (wpAny_holding (thn (hi pins s1 σ H1 _ I1 q1) fun iv s2 ⟨y, H2, I2, r2, q2⟩ => ?_))
  refine wpAny_bind (wpAny_standAt (wpAny_bind (wpAny_holding (thn (hs pins s2 σ H2 x y v ov iv u _ I2 r1 r2 r q2) fun _ s3 ⟨H3, I3, q3⟩ => ?_))))
  exact wpAny_release ⟨σ, H3, I3, q3⟩
/-- target = value -/
def tAsg (te : TE) (g : TG) : TS := fun D σ H => te σ H fun x H1 => g x σ H1 D.nx
theorem ps_asg {tg e : Expr} {te : TE} {g : TG} (he : PE X e te) (hg : PG X tg g) (hs : swapsWithSole [tg] e pos.line X.env = pure false := by rfl) (hw : swappedStores [tg] e X.env = pure none := by rfl)
    (h1 : (assignEach [tg] X.env).map (·.2) = [assign tg X.env] := by rfl) : PS X (.Assign [tg] e pos) (tAsg te g) := by
  intro pins s σ H D I h
  refine wpAny_Assign_stores (thn (he pins s σ H _ I h) fun v s1 ⟨x, H1, I1, r1, q1⟩ => ?_) hs hw
  rw [h1]
  exact thn (hg pins s1 σ H1 x v _ I1 r1 q1) fun _ s2 q => q
/-- name = value -/
theorem ps_set {i : Nat} {x : Str} {e : Expr} {te : TE} {pos' : Pos} (hN : X.N.Nodup) (hi : X.N[i]? = some x) (hx : Loc X.env.scope x) (he : PE X e te) (hs : swapsWith e (some (.Name x pos')) pos.line X.env = pure false := by rfl) (hf : X.fn x = true ∨ X.env.scope.names.lookup x = some .local := by first | exact .inl rfl | exact .inr rfl | assumption) :
    PS X (.Assign [.Name x pos'] e pos) (tAsg te (gName i)) := by
  intro pins s σ H D I h
  refine wpAny_Assign_Name (thn (he pins s σ H _ I h) fun v s1 ⟨y, H1, I1, r1, q1⟩ => ?_) hs
  exact store_ok I1 hN hi hx r1 (fun s2 I2 => ⟨_, H1, I2, q1⟩) hf
end
section
variable {X : Cx} {pos : Pos}
end
/-- at turn i: it yields x (the heap may grow), or it stops -/
structure It where
  go : Nat → Hp → Prop
  yld : Nat → Hp → V → Hp → Prop
  stop : Nat → Hp → Prop
/-- the iterator's own objects may turn: they are not the frame's, not pinned, younger than the entry (or a comprehension's own) -/
def FpOk (X : Cx) (pins : List (Addr × Obj)) (H : Hp) (b : Addr) : Prop :=
  H b = none ∧ b ≠ X.env.locals ∧ b ∉ X.fs ∧ (b ∈ X.ex ∨ X.s₀.heap.objs.size ≤ b) ∧ (∀ x c, X.env.cells.lookup x = some c → c ≠ b) ∧ ∀ p ∈ X.pn ++ pins, p.1 ≠ b
theorem Inv.fpOk {X : Cx} {pins : List (Addr × Obj)} {σ : St} {H H' : Hp} {s : Shared} {b : Addr} (I : Inv X pins σ H s) (hb : s.heap.objs.size ≤ b) (hn : H' b = none) : FpOk X pins H' b := by
  refine ⟨hn, Nat.ne_of_gt (Nat.lt_of_lt_of_le I.lt hb), I.nofs hb, .inr (Nat.le_trans I.sz hb), fun x c e z => ?_, fun p hp z => ?_⟩
  · obtain ⟨v, q⟩ := I.cell x c e
    exact absurd (Nat.lt_of_lt_of_le q.lt (by rw [z]; exact hb)) (Nat.lt_irrefl _)
  · exact absurd (Nat.lt_of_lt_of_le (Heap.lt_size (I.pin p hp).1) (by rw [z]; exact hb)) (Nat.lt_irrefl _)
structure Turn (P : Program) (w : World) (K : PySem.W.Frag) (tg : Expr) (J : It) (fp : List Addr) (it : Addr) (tn : Nat → Heap → Prop) : Prop where
  mem : it ∈ fp
  obj : ∀ i h, tn i h → ∀ b ∈ fp, ∃ o, h.get? b = some o ∧ ∀ v, o.data ≠ .cell v
  keep : ∀ i h h', tn i h → (∀ b ∈ fp, ∀ o, h.get? b = some o → h'.get? b = some o) → tn i h'
  item : ∀ (X : Cx), X.prog = P → X.w = w → X.K = K → X.calm = true → ∀ (i : Nat) (pins : List (Addr × Obj)) (s : Shared) (σ : St) (H : Hp) (E : Value → Shared → Prop), Inv X pins σ H s → (∀ b ∈ fp, FpOk X pins H b) → tn i s.heap → J.go i H →
    wpAny (model P w) X.A (pyNext (.ref it)) (fun r s1 => ∃ u, r = some u ∧
      wpAny (model P w) X.A (letOwnedTupleGo tg (.ref it) u) (fun _ s2 => ∃ x H', Inv X pins σ H' s2 ∧ RelV x u ∧ J.yld i H x H' ∧ tn (i + 1) s2.heap ∧ ∀ b ∈ fp, H' b = none) E s1) E s
  done : ∀ (X : Cx), X.prog = P → X.w = w → X.K = K → X.calm = true → ∀ (i : Nat) (pins : List (Addr × Obj)) (s : Shared) (σ : St) (H : Hp) (E : Value → Shared → Prop), Inv X pins σ H s → (∀ b ∈ fp, FpOk X pins H b) → tn i s.heap → J.stop i H →
    wpAny (model P w) X.A (pyNext (.ref it)) (fun r s1 => r = none ∧ Inv X pins σ H s1) E s
  self : ∀ (A : Around) (i : Nat) (s : Shared) (Q : Value → Shared → Prop) (E : Value → Shared → Prop), tn i s.heap → Q (.ref it) s → wpAny (model P w) A (pyIter (.ref it)) Q E s
abbrev TI := St → Hp → (It → Hp → Prop) → Prop
/-- an iterator has come -/
def PIE (X : Cx) (pins : List (Addr × Obj)) (σ : St) (tg : Expr) (R : It → Hp → Prop) (itv : Value) (s2 : Shared) : Prop :=
  ∃ (it : Addr) (fp : List Addr) (tn : Nat → Heap → Prop) (J : It) (H' : Hp), itv = .ref it ∧ Inv X pins σ H' s2 ∧ Turn X.prog X.w X.K tg J fp it tn ∧ tn 0 s2.heap ∧ (∀ b ∈ fp, FpOk X pins H' b) ∧ R J H'
def PI (X : Cx) (tg iter : Expr) (wi : TI) : Prop :=
  ∀ (pins : List (Addr × Obj)) (s : Shared) (σ : St) (H : Hp) (R : It → Hp → Prop), Inv X pins σ H s → wi σ H R →
    wpAny (model X.prog X.w) X.A (eval iter X.env) (fun v s1 => wpAny (model X.prog X.w) X.A (pyIter v) (PIE X pins σ tg R) X.xe s1) X.xe s
/-- the step ahead of the store is nothing for an iterator that keeps no tuple -/
theorem go_of {M : Model} {A : Around} {E : Value → Shared → Prop} {s : Shared} {tg : Expr} {it : Addr} {u : Value} {o : Obj} {n : String} {vs : Array Value} {Q : Unit → Shared → Prop} (ho : s.heap.get? it = some o) (hc : o.cls = .type n) (hd : o.data = .fields vs)
    (hn : ["enumerate", "zip", "dict_itemiterator", "dict_reverseitemiterator", "odict_iterator", "itertools.zip_longest", "itertools.pairwise"].contains n = false) (hQ : Q () s) : wpAny M A (letOwnedTupleGo tg (.ref it) u) Q E s := by
  unfold letOwnedTupleGo
  cases tg <;> first
    | exact wpAny_pure hQ
    | (cases u <;> first
        | exact wpAny_pure hQ
        | (refine wpAny_bind (wpAny_load ho ?_)
           rw [hc, hd]
           show wpAny M A (if (["enumerate", "zip", "dict_itemiterator", "dict_reverseitemiterator", "odict_iterator", "itertools.zip_longest", "itertools.pairwise"].contains n && vs[0]? == some (rawInt _)) = true then _ else _) Q E s
           rw [if_neg (by intro h; rw [hn, Bool.false_and] at h; cases h)]
           exact wpAny_pure hQ))
/-- the list at a, as it stands at each turn (a loop may append to it) -/
def Itl (K : PySem.W.Frag) (a : Addr) : It :=
  ⟨fun i H => ∃ xs x, SqL K H a xs ∧ xs[i]? = some x, fun i H x H' => H' = H ∧ ∀ xs, SqL K H a xs → xs[i]? = some x, fun i H => ∃ xs, SqL K H a xs ∧ xs.length ≤ i⟩
def Itt (K : PySem.W.Frag) (a : Addr) : It :=
  ⟨fun i H => ∃ xs x, SqT K H a xs ∧ xs[i]? = some x, fun i H x H' => H' = H ∧ ∀ xs, SqT K H a xs → xs[i]? = some x, fun i H => ∃ xs, SqT K H a xs ∧ xs.length ≤ i⟩
/-- lo, lo + 1, .. (n of them) -/
def Itr (lo : Int) (n : Nat) : It := ⟨fun i _ => i < n, fun i H x H' => H' = H ∧ x = .int (lo + i), fun i _ => n ≤ i⟩
theorem turn_list {P : Program} {w : World} {K : PySem.W.Frag} {tg : Expr} (a it : Addr) : Turn P w K tg (Itl K a) [it] it (fun i h => h.IsListIter it a i) where
  mem := by simp
  obj := fun i h st b hb => by
    have e : b = it := by simpa using hb
    subst e
    obtain ⟨o, e, c, d⟩ := st
    exact ⟨o, e, fun v z => by rw [d] at z; cases z⟩
  keep := fun i h h' st k => st.at fun o e => k it (by simp) o e
  item := by
    intro X hP hw hK hc i pins s σ H E I hf st hg
    subst hP hw hK
    obtain ⟨xs, x, hq, hx⟩ := hg
    obtain ⟨its, rv, p, hz⟩ := I.list hq
    obtain ⟨u, hu, ru⟩ := rv.get hx
    obtain ⟨f0, f1, f2, f3, f4, f5⟩ := hf it (by simp)
    refine wpAny_pyNext_list_item st p.isList (x := u) (by simpa using hu) fun h' st' sb => ?_
    have I1 : Inv X pins σ H { s with heap := h' } := I.turned (t' := s.toks) (fun b o hb e => (sb.2 b hb).trans e) f0 f1 f3 f4 f5
    obtain ⟨o, e, c, d⟩ := id st'
    exact ⟨u, rfl, go_of (s := { s with heap := h' }) e c d (by decide) ⟨x, H, I1, ru, ⟨rfl, fun ys hy => by rw [I.list_inj hy hq]; exact hx⟩, st', fun b hb => (hf b hb).1⟩⟩
  done := by
    intro X hP hw hK hc i pins s σ H E I hf st hg
    subst hP hw hK
    obtain ⟨xs, hq, hx⟩ := hg
    obtain ⟨its, rv, p, hz⟩ := I.list hq
    obtain ⟨f0, f1, f2, f3, f4, f5⟩ := hf it (by simp)
    have hl := rv.length
    exact wpAny_pyNext_list_end (I.ok.hd hc) st p.isList (by simp; omega) fun h' eb => ⟨rfl, I.turned (t' := s.toks) (fun b o hb e => eb b o hb e) f0 f1 f3 f4 f5⟩
  self := fun _ _ _ _ _ st h => wpAny_pyIter_listiter st h
theorem turn_tuple {P : Program} {w : World} {K : PySem.W.Frag} {tg : Expr} (a it : Addr) : Turn P w K tg (Itt K a) [it] it (fun i h => h.IsTupleIter it a i) where
  mem := by simp
  obj := fun i h st b hb => by
    have e : b = it := by simpa using hb
    subst e
    obtain ⟨o, e, c, d⟩ := st
    exact ⟨o, e, fun v z => by rw [d] at z; cases z⟩
  keep := fun i h h' st k => st.at fun o e => k it (by simp) o e
  item := by
    intro X hP hw hK hc i pins s σ H E I hf st hg
    subst hP hw hK
    obtain ⟨xs, x, hq, hx⟩ := hg
    obtain ⟨its, rv, p, hz⟩ := I.tuple hq
    obtain ⟨u, hu, ru⟩ := rv.get hx
    obtain ⟨f0, f1, f2, f3, f4, f5⟩ := hf it (by simp)
    refine wpAny_pyNext_tuple_item st (show s.heap.IsTuple a its.toArray from p) (x := u) (by simpa using hu) fun h' st' sb => ?_
    have I1 : Inv X pins σ H { s with heap := h' } := I.turned (t' := s.toks) (fun b o hb e => (sb.2 b hb).trans e) f0 f1 f3 f4 f5
    obtain ⟨o, e, c, d⟩ := id st'
    exact ⟨u, rfl, go_of (s := { s with heap := h' }) e c d (by decide) ⟨x, H, I1, ru, ⟨rfl, fun ys hy => by rw [I.tuple_inj hy hq]; exact hx⟩, st', fun b hb => (hf b hb).1⟩⟩
  done := by
    intro X hP hw hK hc i pins s σ H E I hf st hg
    subst hP hw hK
    obtain ⟨xs, hq, hx⟩ := hg
    obtain ⟨its, rv, p, hz⟩ := I.tuple hq
    obtain ⟨f0, f1, f2, f3, f4, f5⟩ := hf it (by simp)
    have hl := rv.length
    exact wpAny_pyNext_tuple_end (I.ok.hd hc) st (show s.heap.IsTuple a its.toArray from p) (by simp; omega) fun h' eb => ⟨rfl, I.turned (t' := s.toks) (fun b o hb e => eb b o hb e) f0 f1 f3 f4 f5⟩
  self := fun _ _ _ _ _ st h => wpAny_pyIter_tupleiter st h
theorem turn_range {P : Program} {w : World} {K : PySem.W.Frag} {tg : Expr} (it : Addr) (lo : Int) (n : Nat) : Turn P w K tg (Itr lo n) [it] it (fun i h => IsRangeIter h it (lo + (i : Nat) * 1) ((n : Int) - (i : Nat)) 1) where
  mem := by simp
  obj := fun i h st b hb => by
    have e : b = it := by simpa using hb
    subst e
    exact ⟨_, st, fun v z => by
      have z' : Data.fields _ = Data.cell v := z
      cases z'⟩
  keep := fun i h h' st k => k it (by simp) _ st
  item := by
    intro X hP hw hK hc i pins s σ H E I hf st hg
    subst hP hw hK
    obtain ⟨f0, f1, f2, f3, f4, f5⟩ := hf it (by simp)
    have W := Walks.range (prog := X.prog) (w := X.w) (I.ok.hd hc) it lo 1 n
    refine W.item i s _ _ hg st fun v h' tk hv st' kk => ?_
    obtain ⟨t, rfl⟩ := hv
    have I1 : Inv X pins σ H { s with heap := h', toks := tk } := I.turned (fun b o hb e => kk b o (by simpa using hb) e) f0 f1 f3 f4 f5
    refine ⟨_, rfl, go_of (s := { s with heap := h', toks := tk }) (n := "range_iterator") st' rfl rfl (by decide) ⟨.int (lo + i), H, I1, ⟨t, ?_⟩, ⟨rfl, rfl⟩, st', fun b hb => (hf b hb).1⟩⟩
    rw [Int.mul_one]
  done := by
    intro X hP hw hK hc i pins s σ H E I hf st hg
    subst hP hw hK
    obtain ⟨f0, f1, f2, f3, f4, f5⟩ := hf it (by simp)
    exact wpAny_pyNext_range_end (I.ok.hd hc) st (by have : n ≤ i := hg; omega) fun h' eb => ⟨rfl, I.turned (t' := s.toks) (fun b o hb e => eb b o hb e) f0 f1 f3 f4 f5⟩
  self := fun _ _ _ _ _ st h => wpAny_pyIter_rangeiter st h
end L2
namespace L2
open PySem PySem.Spec PyProof.Rows
section
variable {X : Cx} {tg : Expr}
def iList (K : PySem.W.Frag) (tl : TE) : TI := fun σ H R => tl σ H fun x H1 => ∃ a, x = .ref a ∧ (∃ xs, SqL K H1 a xs) ∧ R (Itl K a) H1
def iTup (K : PySem.W.Frag) (tl : TE) : TI := fun σ H R => tl σ H fun x H1 => ∃ a, x = .ref a ∧ (∃ xs, SqT K H1 a xs) ∧ R (Itt K a) H1
theorem pi_list {l : Expr} {tl : TE} (hl : PE X l tl) : PI X tg l (iList X.K tl) := by
  intro pins s σ H R I h
  refine thn (hl pins s σ H _ I h) fun v s1 ⟨x, H1, I1, r1, q1⟩ => ?_
  obtain ⟨a, e, ⟨xs, hq⟩, q⟩ := q1
  subst e
  cases r1
  obtain ⟨its, rv, p, hz⟩ := I1.list hq
  refine wpAny_pyIter_list p.isList ?_
  refine ⟨s1.heap.objs.size, [s1.heap.objs.size], _, _, H1, rfl, I1.kept (t' := s1.toks) fun b o e => Heap.get?_push_of_some _ e, turn_list a _, ⟨_, Heap.get?_push_size _ rfl, rfl, rfl⟩, fun b hb => ?_, q⟩
  have e : b = s1.heap.objs.size := by simpa using hb
  subst e
  exact I1.fpOk (Nat.le_refl _) (I1.hok.fresh (Nat.le_refl _))
theorem pi_tup {l : Expr} {tl : TE} (hl : PE X l tl) : PI X tg l (iTup X.K tl) := by
  intro pins s σ H R I h
  refine thn (hl pins s σ H _ I h) fun v s1 ⟨x, H1, I1, r1, q1⟩ => ?_
  obtain ⟨a, e, ⟨xs, hq⟩, q⟩ := q1
  subst e
  cases r1
  obtain ⟨its, rv, p, hz⟩ := I1.tuple hq
  refine wpAny_pyIter_tuple (show s1.heap.IsTuple a its.toArray from p) ?_
  refine ⟨s1.heap.objs.size, [s1.heap.objs.size], _, _, H1, rfl, I1.kept (t' := s1.toks) fun b o e => Heap.get?_push_of_some _ e, turn_tuple a _, ⟨_, Heap.get?_push_size _ rfl, rfl, rfl⟩, fun b hb => ?_, q⟩
  have e : b = s1.heap.objs.size := by simpa using hb
  subst e
  exact I1.fpOk (Nat.le_refl _) (I1.hok.fresh (Nat.le_refl _))
/-- a range object just made, walked -/
theorem range_it {pins : List (Addr × Obj)} {σ : St} {H : Hp} {s : Shared} {R : It → Hp → Prop} {E : Value → Shared → Prop} {lo hi : Int} {t u v : Tok} {tk : Nat} (I : Inv X pins σ H s) (h1 : -(2 ^ 62) ≤ lo) (h2 : lo < 2 ^ 62) (h3 : -(2 ^ 62) ≤ hi) (h4 : hi < 2 ^ 62)
    (q : R (Itr lo (hi - lo).toNat) H) : wpAny (model X.prog X.w) X.A (pyIter (.ref s.heap.objs.size)) (PIE X pins σ tg R) E { s with heap := s.heap.push { cls := .type "range", data := .fields #[.int lo t, .int hi u, .int 1 v] }, toks := tk } := by
  refine wpAny_pyIter_range (IsRange.new ..) (small_one h1 h2 h3 h4) ?_
  have I1 : Inv X pins σ H { s with heap := s.heap.push { cls := .type "range", data := .fields #[.int lo t, .int hi u, .int 1 v] }, toks := tk } := I.kept fun b o e => Heap.get?_push_of_some _ e
  refine ⟨(s.heap.push { cls := .type "range", data := .fields #[.int lo t, .int hi u, .int 1 v] }).objs.size, [(s.heap.push { cls := .type "range", data := .fields #[.int lo t, .int hi u, .int 1 v] }).objs.size], _, _, H, rfl,
    I1.kept (t' := tk) fun b o e => Heap.get?_push_of_some _ e, turn_range _ lo (hi - lo).toNat, ?_, fun b hb => ?_, q⟩
  · have e1 : lo + ((0 : Nat) : Int) * 1 = lo := by simp
    have e2 : (((hi - lo).toNat : Nat) : Int) - ((0 : Nat) : Int) = Builtin.Range.rangeSize lo hi 1 := by rw [rangeSize_one]; split <;> omega
    show IsRangeIter _ _ (lo + ((0 : Nat) : Int) * 1) ((((hi - lo).toNat : Nat) : Int) - ((0 : Nat) : Int)) 1
    rw [e1, e2]
    exact Heap.get?_push_size _ rfl
  · have e : b = (s.heap.push { cls := .type "range", data := .fields #[.int lo t, .int hi u, .int 1 v] }).objs.size := by simpa using hb
    subst e
    exact I1.fpOk (Nat.le_refl _) (I1.hok.fresh (Nat.le_refl _))
def iRng1 (ta : TA) : TI := fun σ H R => ta σ H fun vs H1 => ∃ j : Int, vs = [.int j] ∧ -(2 ^ 62) ≤ j ∧ j < 2 ^ 62 ∧ R (Itr 0 j.toNat) H1
def iRng2 (ta : TA) : TI := fun σ H R => ta σ H fun vs H1 => ∃ i j : Int, vs = [.int i, .int j] ∧ (-(2 ^ 62) ≤ i ∧ i < 2 ^ 62 ∧ -(2 ^ 62) ≤ j ∧ j < 2 ^ 62) ∧ R (Itr i (j - i).toNat) H1
theorem pi_range1 {a : Expr} {ta : TA} {p pos : Pos} (hg : Gl X "range") (hm : X.mg "range" = none) (ha : PA X [a] ta) (hs : starEach [a] X.env = [(false, eval a X.env)] := by rfl) : PI X tg (.Call (.Name "range" p) [a] [] pos) (iRng1 ta) := by
  intro pins s σ H R I h
  refine Call_ (ld_blt I hg hm boot_range (PyProof.Rows.callWith_type1 (thn (ha pos pins s σ H _ I h) fun us s1 ⟨vs, H1, I1, r1, q1⟩ => ?_) hs rfl))
  obtain ⟨j, e, q1, q2, q⟩ := q1
  subst e
  cases r1 with
  | cons r rr =>
    cases rr
    obtain ⟨t, rfl⟩ := r
    exact call_range_1 (range_it I1 (by omega) (by omega) q1 q2 (by simpa using q))
theorem pi_range2 {a b : Expr} {ta : TA} {p pos : Pos} (hg : Gl X "range") (hm : X.mg "range" = none) (ha : PA X [a, b] ta) (hs : starEach [a, b] X.env = [(false, eval a X.env), (false, eval b X.env)] := by rfl) (hs2 : starEach [b] X.env = [(false, eval b X.env)] := by rfl) :
    PI X tg (.Call (.Name "range" p) [a, b] [] pos) (iRng2 ta) := by
  intro pins s σ H R I h
  refine Call_ (ld_blt I hg hm boot_range (PyProof.Rows.callWith_type1 (thn (ha pos pins s σ H _ I h) fun us s1 ⟨vs, H1, I1, r1, q1⟩ => ?_) (by rw [hs, hs2]) (by rw [hs2]; rfl)))
  obtain ⟨i, j, e, ⟨q1, q2, q3, q4⟩, q⟩ := q1
  subst e
  cases r1 with
  | cons r rr =>
    cases rr with
    | cons r' rr =>
      cases rr
      obtain ⟨t, rfl⟩ := r
      obtain ⟨t', rfl⟩ := r'
      exact call_range_2 (range_it I1 q1 q2 q3 q4 q)
/-- W: the invariant by the turn and a measure; N: what the body is to reach -/
def tFor (wi : TI) (g : TG) (tb : TS) : TS := fun D σ H => wi σ H fun J H1 => ∃ W : Nat → Nat → St → Hp → Prop, (∃ m, W 0 m σ H1) ∧ ∀ i m σ H, W i m σ H →
  (J.stop i H ∧ D.nx σ H) ∨ (J.go i H ∧ ∃ N : St → Hp → Prop, (∀ σ' H', N σ' H' → ∃ m', m' < m ∧ W (i + 1) m' σ' H') ∧ ∀ x H', J.yld i H x H' → g x σ H' fun σ2 H2 => tb { D with nx := N, ct := N, bk := D.nx } σ2 H2)
/-- the records at fp as they stand -/
def pinsAt (fp : List Addr) (h : Heap) : List (Addr × Obj) := fp.filterMap fun b => (h.get? b).map fun o => (b, o)
theorem mem_pinsAt {fp : List Addr} {h : Heap} {b : Addr} {o : Obj} (hb : b ∈ fp) (e : h.get? b = some o) : (b, o) ∈ pinsAt fp h := List.mem_filterMap.mpr ⟨b, hb, by rw [e]; rfl⟩
theorem of_pinsAt {fp : List Addr} {h : Heap} {p : Addr × Obj} (hp : p ∈ pinsAt fp h) : p.1 ∈ fp ∧ h.get? p.1 = some p.2 := by
  obtain ⟨b, hb, e⟩ := List.mem_filterMap.mp hp
  cases q : h.get? b with
  | none => rw [q] at e; cases e
  | some o =>
    rw [q] at e
    have e' : (b, o) = p := Option.some.inj e
    subst e'
    exact ⟨hb, q⟩
theorem Inv.pinned {pins : List (Addr × Obj)} {σ : St} {H : Hp} {s : Shared} {fp : List Addr} (I : Inv X pins σ H s) (hf : ∀ b ∈ fp, FpOk X pins H b) (ho : ∀ b ∈ fp, ∃ o, s.heap.get? b = some o ∧ ∀ v, o.data ≠ .cell v) : Inv X (pins ++ pinsAt fp s.heap) σ H s :=
  I.pins_of fun p hp => (List.mem_append.mp hp).elim (fun z => I.pin p (List.mem_append_right _ z)) fun z => by
    obtain ⟨hb, e⟩ := of_pinsAt z
    obtain ⟨f0, f1, f2, _⟩ := hf p.1 hb
    obtain ⟨o, e', d⟩ := ho p.1 hb
    rw [e] at e'; cases e'
    exact ⟨e, f0, f1, f2, d⟩
theorem Inv.unpinned {pins pl : List (Addr × Obj)} {σ : St} {H : Hp} {s : Shared} (I : Inv X (pins ++ pl) σ H s) : Inv X pins σ H s := I.pins_of fun p hp => I.pin p (List.mem_append_right _ (List.mem_append_left _ hp))
theorem ps_for {iter : Expr} {body : List Stmt} {wi : TI} {g : TG} {tb : TS} {pos : Pos} (hp : PassesOwn (model X.prog X.w) X.A X.env X.xe) (hc : X.calm = true) (hi : PI X tg iter wi) (hg : PG X tg g) (hb : PSs X body tb)
    (hs : ∀ x, foldedSetIterable iter X.env x = pure x := by intro _; rfl) : PS X (.For tg iter body [] pos) (tFor wi g tb) := by
  intro pins s σ H D I h
  refine wpAny_For (thn (hi pins s σ H _ I h) fun v s1 h1 => thn h1 fun itv s2 h2 => ?_) hs
  obtain ⟨it, fp, tn, J, H2, e, I2, T, st2, f2, W, ⟨m0, w0⟩, turn⟩ := h2
  subst e
  -- what stays true of the iterator's objects through the loop
  have stat : ∀ {H' : Hp}, (∀ b ∈ fp, H' b = none) → ∀ b ∈ fp, FpOk X pins H' b := fun hn b hb => ⟨hn b hb, (f2 b hb).2⟩
  refine codeAny_forLoop_any (fun n s' => ∃ i σ' H', Inv X pins σ' H' s' ∧ tn i s'.heap ∧ (∀ b ∈ fp, H' b = none) ∧ W i n σ' H') ?_ m0 ⟨0, σ, H2, I2, st2, fun b hb => (f2 b hb).1, w0⟩
  rintro n s3 ⟨i, σ3, H3, I3, st3, fr3, w3⟩
  rcases turn i n σ3 H3 w3 with ⟨stop, qn⟩ | ⟨go, N, hN, step⟩
  · refine wpAny_passesOwn hp (thn (T.done X rfl rfl rfl hc i pins s3 σ3 H3 X.xe I3 (stat fr3) st3 stop) fun r s4 ⟨hr, I4⟩ => ?_)
    subst hr
    exact wpAny_execs_nil ⟨σ3, H3, I4, qn⟩
  · refine wpAny_passesOwn hp (thn (T.item X rfl rfl rfl hc i pins s3 σ3 H3 X.xe I3 (stat fr3) st3 go) fun r s4 ⟨u, hr, h4⟩ => ?_)
    subst hr
    refine wpAny_passesOwn hp (thn h4 fun _ s5 ⟨x, H5, I5, r5, y5, st5, fr5⟩ => ?_)
    have I5' := I5.pinned (stat fr5) (T.obj _ _ st5)
    refine wpAny_passesOwn hp (thn (hg _ s5 σ3 H5 x u _ I5' r5 (step x H5 y5)) fun _ s6 ⟨σ6, H6, I6, q6⟩ => ?_)
    refine wpAny_passesOwn hp (thn (hb _ s6 σ6 H6 _ I6 q6) fun f s7 q7 => ?_)
    have again : ∀ {σ7 : St} {H7 : Hp}, Inv X (pins ++ pinsAt fp s5.heap) σ7 H7 s7 → N σ7 H7 → ∃ m, m < n ∧ ∃ i σ' H', Inv X pins σ' H' s7 ∧ tn i s7.heap ∧ (∀ b ∈ fp, H' b = none) ∧ W i m σ' H' := fun {σ7 H7} I7 n7 => by
      obtain ⟨m', hm, w7⟩ := hN σ7 H7 n7
      refine ⟨m', hm, i + 1, σ7, H7, I7.unpinned, T.keep _ _ _ st5 fun b hb o e => (I7.pin (b, o) (List.mem_append_right _ (List.mem_append_right _ (mem_pinsAt hb e)))).1, fun b hb => ?_, w7⟩
      obtain ⟨o, e, d⟩ := T.obj _ _ st5 b hb
      exact (I7.pin (b, o) (List.mem_append_right _ (List.mem_append_right _ (mem_pinsAt hb e)))).2.1
    cases f with
    | next => obtain ⟨σ7, H7, I7, n7⟩ := q7; exact again I7 n7
    | cont => obtain ⟨σ7, H7, I7, n7⟩ := q7; exact again I7 n7
    | brk => obtain ⟨σ7, H7, I7, q7⟩ := q7; exact ⟨σ7, H7, I7.unpinned, q7⟩
    | ret v => obtain ⟨x7, σ7, H7, I7, r7, q7⟩ := q7; exact ⟨x7, σ7, H7, I7.unpinned, r7, q7⟩
end
/-- over a list that the body leaves as it is -/
theorem for_list {K : PySem.W.Frag} {a : Addr} {xs : List V} {g : TG} {tb : TS} {D : Ends} {σ : St} {H : Hp} (Pv : Nat → St → Hp → Prop) (h0 : Pv 0 σ H) (hl : ∀ i σ H, i ≤ xs.length → Pv i σ H → SqL K H a xs)
    (hs : ∀ i x σ H, xs[i]? = some x → Pv i σ H → g x σ H fun σ2 H2 => tb { D with nx := Pv (i + 1), ct := Pv (i + 1), bk := D.nx } σ2 H2) (hd : ∀ σ H, Pv xs.length σ H → D.nx σ H) :
    ∃ W : Nat → Nat → St → Hp → Prop, (∃ m, W 0 m σ H) ∧ ∀ i m σ H, W i m σ H →
      ((Itl K a).stop i H ∧ D.nx σ H) ∨ ((Itl K a).go i H ∧ ∃ N : St → Hp → Prop, (∀ σ' H', N σ' H' → ∃ m', m' < m ∧ W (i + 1) m' σ' H') ∧ ∀ x H', (Itl K a).yld i H x H' → g x σ H' fun σ2 H2 => tb { D with nx := N, ct := N, bk := D.nx } σ2 H2) := by
  refine ⟨fun i m σ H => m = xs.length - i ∧ i ≤ xs.length ∧ Pv i σ H, ⟨xs.length, by simp, Nat.zero_le _, h0⟩, ?_⟩
  rintro i m σ H ⟨rfl, hi, p⟩
  have q := hl i σ H hi p
  by_cases hlt : i < xs.length
  · refine .inr ⟨⟨xs, xs[i], q, by simp [hlt]⟩, Pv (i + 1), fun σ' H' p' => ⟨xs.length - (i + 1), by omega, rfl, hlt, p'⟩, fun x H' y => ?_⟩
    obtain ⟨e, y⟩ := y
    subst e
    exact hs i x σ _ (y xs q) p
  · have e : i = xs.length := by omega
    subst e
    exact .inl ⟨⟨xs, q, Nat.le_refl _⟩, hd σ H p⟩
theorem for_range {lo : Int} {n : Nat} {g : TG} {tb : TS} {D : Ends} {σ : St} {H : Hp} (Pv : Nat → St → Hp → Prop) (h0 : Pv 0 σ H)
    (hs : ∀ i σ H, i < n → Pv i σ H → g (.int (lo + i)) σ H fun σ2 H2 => tb { D with nx := Pv (i + 1), ct := Pv (i + 1), bk := D.nx } σ2 H2) (hd : ∀ σ H, Pv n σ H → D.nx σ H) :
    ∃ W : Nat → Nat → St → Hp → Prop, (∃ m, W 0 m σ H) ∧ ∀ i m σ H, W i m σ H →
      ((Itr lo n).stop i H ∧ D.nx σ H) ∨ ((Itr lo n).go i H ∧ ∃ N : St → Hp → Prop, (∀ σ' H', N σ' H' → ∃ m', m' < m ∧ W (i + 1) m' σ' H') ∧ ∀ x H', (Itr lo n).yld i H x H' → g x σ H' fun σ2 H2 => tb { D with nx := N, ct := N, bk := D.nx } σ2 H2) := by
  refine ⟨fun i m σ H => m = n - i ∧ i ≤ n ∧ Pv i σ H, ⟨n, by simp, Nat.zero_le _, h0⟩, ?_⟩
  rintro i m σ H ⟨rfl, hi, p⟩
  by_cases hlt : i < n
  · refine .inr ⟨hlt, Pv (i + 1), fun σ' H' p' => ⟨n - (i + 1), by omega, rfl, hlt, p'⟩, fun x H' y => ?_⟩
    obtain ⟨e, y⟩ := y
    subst e y
    exact hs i σ _ hlt p
  · have e : i = n := by omega
    subst e
    exact .inl ⟨Nat.le_refl _, hd σ H p⟩
end L2
namespace L2
open PySem PySem.Spec PyProof.Rows
abbrev R2 := V → V → Hp → VK → Prop
/-- a two-place operation on values: f is binaryOp op, inplaceOp op or compareOp op -/
def OpR (X : Cx) (f : Value → Value → Sem Value) (r : R2) : Prop :=
  ∀ (pins : List (Addr × Obj)) (s : Shared) (σ : St) (H : Hp) (x y : V) (v u : Value) (Q : VK), Inv X pins σ H s → RelV x v → RelV y u → r x y H Q →
    wpAny (model X.prog X.w) X.A (f v u) (EP X pins σ Q) X.xe s
/-- a one-place operation -/
def UnR (X : Cx) (f : Value → Sem Value) (r : V → Hp → VK → Prop) : Prop :=
  ∀ (pins : List (Addr × Obj)) (s : Shared) (σ : St) (H : Hp) (x : V) (v : Value) (Q : VK), Inv X pins σ H s → RelV x v → r x H Q →
    wpAny (model X.prog X.w) X.A (f v) (EP X pins σ Q) X.xe s
/-- a call of a value that is known (a builtin, a type) with values -/
def CallR (X : Cx) (f : Value) (r : List V → Hp → VK → Prop) : Prop :=
  ∀ (pins : List (Addr × Obj)) (s : Shared) (σ : St) (H : Hp) (xs : List V) (us : List Value) (Q : VK), Inv X pins σ H s → Vals xs us → r xs H Q →
    wpAny (model X.prog X.w) X.A (call f us) (EP X pins σ Q) X.xe s
def tOp (r : R2) (ta tb : TE) : TE := fun σ H Q => ta σ H fun x H1 => tb σ H1 fun y H2 => r x y H2 Q
def tUn (r : V → Hp → VK → Prop) (ta : TE) : TE := fun σ H Q => ta σ H fun x H1 => r x H1 Q
/-- ints in, under C, and a value out -/
def rI (C : Int → Int → Prop) (g : Int → Int → V) : R2 := fun x y H Q => ∃ i j, x = .int i ∧ y = .int j ∧ C i j ∧ Q (g i j) H
def rI0 (g : Int → Int → V) : R2 := fun x y H Q => ∃ i j, x = .int i ∧ y = .int j ∧ Q (g i j) H
def rU (g : Int → V) : V → Hp → VK → Prop := fun x H Q => ∃ i, x = .int i ∧ Q (g i) H
section
variable {X : Cx} {a b c : Expr} {ta tb tc : TE} {pos : Pos}
theorem binT (ha : PE X a ta) (hb : PE X b tb) {pins : List (Addr × Obj)} {s : Shared} {σ : St} {H : Hp} {R : V → V → Hp → Prop} (I : Inv X pins σ H s)
    (h : ta σ H fun x H1 => tb σ H1 fun y H2 => R x y H2) {Q : Value → Shared → Prop} {f : Value → Value → Sem Value}
    (hf : ∀ v u s2 x y H2, Inv X pins σ H2 s2 → RelV x v → RelV y u → R x y H2 → wpAny (model X.prog X.w) X.A (f v u) Q X.xe s2) :
    wpAny (model X.prog X.w) X.A (eval a X.env) (fun v s₁ => wpAny (model X.prog X.w) X.A (eval b X.env) (fun u s₂ => wpAny (model X.prog X.w) X.A (f v u) Q X.xe s₂) X.xe s₁) X.xe s := by
  refine thn (ha pins s σ H _ I h) fun v s1 ⟨x, H1, I1, r1, q1⟩ => ?_
  refine thn (hb pins s1 σ H1 _ I1 q1) fun u s2 ⟨y, H2, I2, r2, q2⟩ => ?_
  exact hf v u s2 x y H2 I2 r1 r2 q2
theorem pe_op {op : Operator} {r : R2} (ho : OpR X (binaryOp op) r) (ha : PE X a ta) (hb : PE X b tb) : PE X (.BinOp a op b pos) (tOp r ta tb) := by
  intro pins s σ H Q I h
  exact wpAny_BinOp (binT ha hb I h fun v u s2 x y H2 I2 rx ry q => ho pins s2 σ H2 x y v u Q I2 rx ry q)
theorem pe_un {op : UnaryOp} {r : V → Hp → VK → Prop} (ho : UnR X (unaryOp op) r) (ha : PE X a ta) : PE X (.UnaryOp op a pos) (tUn r ta) := by
  intro pins s σ H Q I h
  exact UnaryOp_ (thn (ha pins s σ H _ I h) fun v s1 ⟨x, H1, I1, r1, q1⟩ => ho pins s1 σ H1 x v Q I1 r1 q1)
theorem opI {f : Value → Value → Sem Value} {C : Int → Int → Prop} {g : Int → Int → Int}
    (rule : ∀ (i j : Int) (t u : Tok) (s : Shared) (Q : Value → Shared → Prop) (E : Value → Shared → Prop), C i j → Q (.int (g i j) s.toks) { s with toks := s.toks + 1 } → wpAny (model X.prog X.w) X.A (f (.int i t) (.int j u)) Q E s) :
    OpR X f (rI C fun i j => .int (g i j)) := by
  intro pins s σ H x y v u Q I rx ry h
  obtain ⟨i, j, rfl, rfl, hc, q⟩ := h
  obtain ⟨t, rfl⟩ := rx
  obtain ⟨t', rfl⟩ := ry
  exact rule i j t t' s _ _ hc ⟨.int (g i j), H, I.tok _, ⟨_, rfl⟩, q⟩
theorem opI0 {f : Value → Value → Sem Value} {g : Int → Int → Int}
    (rule : ∀ (i j : Int) (t u : Tok) (s : Shared) (Q : Value → Shared → Prop) (E : Value → Shared → Prop), Q (.int (g i j) s.toks) { s with toks := s.toks + 1 } → wpAny (model X.prog X.w) X.A (f (.int i t) (.int j u)) Q E s) :
    OpR X f (rI0 fun i j => .int (g i j)) := by
  intro pins s σ H x y v u Q I rx ry h
  obtain ⟨i, j, rfl, rfl, q⟩ := h
  obtain ⟨t, rfl⟩ := rx
  obtain ⟨t', rfl⟩ := ry
  exact rule i j t t' s _ _ ⟨.int (g i j), H, I.tok _, ⟨_, rfl⟩, q⟩
theorem opB0 {f : Value → Value → Sem Value} {g : Int → Int → Bool}
    (rule : ∀ (i j : Int) (t u : Tok) (s : Shared) (Q : Value → Shared → Prop) (E : Value → Shared → Prop), Q (.bool (g i j)) s → wpAny (model X.prog X.w) X.A (f (.int i t) (.int j u)) Q E s) :
    OpR X f (rI0 fun i j => .bl (g i j)) := by
  intro pins s σ H x y v u Q I rx ry h
  obtain ⟨i, j, rfl, rfl, q⟩ := h
  obtain ⟨t, rfl⟩ := rx
  obtain ⟨t', rfl⟩ := ry
  exact rule i j t t' s _ _ ⟨.bl (g i j), H, I, rfl, q⟩
def CPow (i j : Int) : Prop := 0 ≤ j ∧ j ≤ 1000000 ∧ i.natAbs < 2 ^ 64
def CMul (i j : Int) : Prop := (-(2 ^ 64) < i ∧ i < 2 ^ 64) ∨ (-(2 ^ 64) < j ∧ j < 2 ^ 64)
theorem CMul.ok {i j : Int} (h : CMul i j) : IntMulOk i j := by
  rcases h with ⟨h1, h2⟩ | ⟨h1, h2⟩
  · exact .of_left (intBits_le_64 h1 h2)
  · exact .of_right (intBits_le_64 h1 h2)
theorem op_add : OpR X (binaryOp .Add) (rI0 fun i j => .int (i + j)) := opI0 fun _ _ _ _ _ _ _ q => add_int q
theorem op_sub : OpR X (binaryOp .Sub) (rI0 fun i j => .int (i - j)) := opI0 fun _ _ _ _ _ _ _ q => sub_int q
theorem op_mul : OpR X (binaryOp .Mult) (rI CMul fun i j => .int (i * j)) := opI fun _ _ _ _ _ _ _ hc q => mul_int q hc.ok
/-- % by a positive divisor of any size -/
theorem op_mod : OpR X (binaryOp .Mod) (rI (fun _ j => 0 < j) fun i j => .int (i % j)) := opI fun i j _ _ _ _ _ hc q => by
  have h1 : (0 : Int) < j := hc
  exact mod_int' (by omega) (by rw [Int.fmod_eq_emod_of_nonneg i (by omega)]; exact q)
theorem op_pow : OpR X (binaryOp .Pow) (rI CPow fun i j => .int (i ^ j.toNat)) := opI fun _ _ _ _ _ _ _ hc q => pow_int_small hc.1 hc.2.1 hc.2.2 q
theorem unI {f : Value → Sem Value} {g : Int → Int}
    (rule : ∀ (i : Int) (t : Tok) (s : Shared) (Q : Value → Shared → Prop) (E : Value → Shared → Prop), Q (.int (g i) s.toks) { s with toks := s.toks + 1 } → wpAny (model X.prog X.w) X.A (f (.int i t)) Q E s) :
    UnR X f (rU fun i => .int (g i)) := by
  intro pins s σ H x v Q I rx h
  obtain ⟨i, rfl, q⟩ := h
  obtain ⟨t, rfl⟩ := rx
  exact rule i t s _ _ ⟨.int (g i), H, I.tok _, ⟨_, rfl⟩, q⟩
theorem un_neg : UnR X (unaryOp .USub) (rU fun i => .int (-i)) := unI fun _ _ _ _ _ q => neg_int q
end
/-- the scalars that == tells apart as data does -/
def scal : V → V → Bool
  | .non, .non => true | .non, .int _ => true | .int _, .non => true | .non, .bl _ => true | .bl _, .non => true | .non, .str _ => true | .str _, .non => true
  | .int _, .int _ => true | .bl _, .bl _ => true | .str _, .str _ => true | .byt _, .byt _ => true
  | .int _, .str _ => true | .str _, .int _ => true | .bl _, .str _ => true | .str _, .bl _ => true
  | _, _ => false
def rEq : R2 := fun x y H Q => scal x y = true ∧ Q (.bl (decide (x = y))) H
def rNe : R2 := fun x y H Q => scal x y = true ∧ Q (.bl (!decide (x = y))) H
theorem dec_int {i j : Int} : decide (V.int i = V.int j) = (i == j) := by
  rw [Bool.eq_iff_iff]
  simp
theorem dec_bl {i j : Bool} : decide (V.bl i = V.bl j) = (i == j) := by
  rw [Bool.eq_iff_iff]
  simp
theorem dec_str {i j : Str} : decide (V.str i = V.str j) = (i == j) := by
  rw [Bool.eq_iff_iff]
  simp
theorem dec_byt {i j : Array UInt8} : decide (V.byt i = V.byt j) = (i.toList == j.toList) := by
  rw [Bool.eq_iff_iff]
  cases i
  cases j
  simp
section
variable {X : Cx} {a b c : Expr} {ta tb tc : TE} {pos : Pos}
theorem fin_bl {pins : List (Addr × Obj)} {σ : St} {H : Hp} {s : Shared} {Q : VK} {k k' : Bool} (I : Inv X pins σ H s) (q : Q (.bl k) H) (e : k = k') : EP X pins σ Q (.bool k') s := by
  subst e
  exact ⟨.bl k, H, I, rfl, q⟩
theorem op_eq : OpR X (compareOp .Eq) rEq := by
  intro pins s σ H x y v u Q I rx ry h
  obtain ⟨hs, q⟩ := h
  cases x with
  | non =>
    cases rx
    cases y with
    | non => cases ry; exact PySem.EqNone.eq_none_none (fin_bl I q (by simp))
    | bl j => cases ry; exact PySem.EqNone.eq_none_bool (fin_bl I q (by simp))
    | int j => obtain ⟨t', rfl⟩ := ry; exact PySem.EqNone.eq_none_int (fin_bl I q (by simp))
    | str j => obtain ⟨t', rfl⟩ := ry; exact PySem.EqNone.eq_none_str (fin_bl I q (by simp))
    | _ => exact absurd (show false = true from hs) Bool.false_ne_true
  | bl i =>
    cases rx
    cases y with
    | non => cases ry; exact PySem.EqNone.eq_bool_none (fin_bl I q (by simp))
    | bl j => cases ry; exact eq_bool (fin_bl I q dec_bl)
    | str j => obtain ⟨t', rfl⟩ := ry; exact PySem.EqMixed.eq_bool_str (fin_bl I q (by simp))
    | _ => exact absurd (show false = true from hs) Bool.false_ne_true
  | int i =>
    obtain ⟨t, rfl⟩ := rx
    cases y with
    | non => cases ry; exact PySem.EqNone.eq_int_none (fin_bl I q (by simp))
    | int j => obtain ⟨t', rfl⟩ := ry; exact eq_int (fin_bl I q dec_int)
    | str j => obtain ⟨t', rfl⟩ := ry; exact PySem.EqMixed.eq_int_str (fin_bl I q (by simp))
    | _ => exact absurd (show false = true from hs) Bool.false_ne_true
  | str i =>
    obtain ⟨t, rfl⟩ := rx
    cases y with
    | non => cases ry; exact PySem.EqNone.eq_str_none (fin_bl I q (by simp))
    | bl j => cases ry; exact PySem.EqMixed.eq_str_bool (fin_bl I q (by simp))
    | int j => obtain ⟨t', rfl⟩ := ry; exact PySem.EqMixed.eq_str_int (fin_bl I q (by simp))
    | str j => obtain ⟨t', rfl⟩ := ry; exact eq_str (fin_bl I q dec_str)
    | _ => exact absurd (show false = true from hs) Bool.false_ne_true
  | byt i =>
    obtain ⟨t, rfl⟩ := rx
    cases y with
    | byt j => obtain ⟨t', rfl⟩ := ry; exact PySem.W.eq_bytes (fin_bl I q dec_byt)
    | _ => exact absurd (show false = true from hs) Bool.false_ne_true
  | _ => cases y <;> exact absurd (show false = true from hs) Bool.false_ne_true
theorem op_ne : OpR X (compareOp .NotEq) rNe := by
  intro pins s σ H x y v u Q I rx ry h
  obtain ⟨hs, q⟩ := h
  cases x with
  | non =>
    cases rx
    cases y with
    | non => cases ry; exact PySem.EqNone.ne_none_none (fin_bl I q (by simp))
    | bl j => cases ry; exact PySem.EqNone.ne_none_bool (fin_bl I q (by simp))
    | int j => obtain ⟨t', rfl⟩ := ry; exact PySem.EqNone.ne_none_int (fin_bl I q (by simp))
    | str j => obtain ⟨t', rfl⟩ := ry; exact PySem.EqNone.ne_none_str (fin_bl I q (by simp))
    | _ => exact absurd (show false = true from hs) Bool.false_ne_true
  | bl i =>
    cases rx
    cases y with
    | non => cases ry; exact PySem.EqNone.ne_bool_none (fin_bl I q (by simp))
    | bl j => cases ry; exact ne_bool (fin_bl I q (congrArg not dec_bl))
    | str j => obtain ⟨t', rfl⟩ := ry; exact PySem.EqMixed.ne_bool_str (fin_bl I q (by simp))
    | _ => exact absurd (show false = true from hs) Bool.false_ne_true
  | int i =>
    obtain ⟨t, rfl⟩ := rx
    cases y with
    | non => cases ry; exact PySem.EqNone.ne_int_none (fin_bl I q (by simp))
    | int j => obtain ⟨t', rfl⟩ := ry; exact ne_int (fin_bl I q (congrArg not dec_int))
    | str j => obtain ⟨t', rfl⟩ := ry; exact PySem.EqMixed.ne_int_str (fin_bl I q (by simp))
    | _ => exact absurd (show false = true from hs) Bool.false_ne_true
  | str i =>
    obtain ⟨t, rfl⟩ := rx
    cases y with
    | non => cases ry; exact PySem.EqNone.ne_str_none (fin_bl I q (by simp))
    | bl j => cases ry; exact PySem.EqMixed.ne_str_bool (fin_bl I q (by simp))
    | int j => obtain ⟨t', rfl⟩ := ry; exact PySem.EqMixed.ne_str_int (fin_bl I q (by simp))
    | str j => obtain ⟨t', rfl⟩ := ry; exact ne_str (fin_bl I q (congrArg not dec_str))
    | _ => exact absurd (show false = true from hs) Bool.false_ne_true
  | byt i =>
    obtain ⟨t, rfl⟩ := rx
    cases y with
    | byt j => obtain ⟨t', rfl⟩ := ry; exact PySem.W.ne_bytes (fin_bl I q (congrArg not dec_byt))
    | _ => exact absurd (show false = true from hs) Bool.false_ne_true
  | _ => cases y <;> exact absurd (show false = true from hs) Bool.false_ne_true
theorem op_lt : OpR X (compareOp .Lt) (rI0 fun i j => .bl (decide (i < j))) := opB0 fun _ _ _ _ _ _ _ q => lt_int q
theorem op_gt : OpR X (compareOp .Gt) (rI0 fun i j => .bl (decide (j < i))) := opB0 fun _ _ _ _ _ _ _ q => gt_int q
theorem op_ge : OpR X (compareOp .GtE) (rI0 fun i j => .bl (decide (j ≤ i))) := opB0 fun _ _ _ _ _ _ _ q => ge_int q
theorem op_lt_str : OpR X (compareOp .Lt) (fun x y H Q => ∃ i j, x = .str i ∧ y = .str j ∧ Q (.bl (decide (i.cps.toList < j.cps.toList))) H) := by
  intro pins s σ H x y v u Q I rx ry h
  obtain ⟨i, j, rfl, rfl, q⟩ := h
  obtain ⟨t, rfl⟩ := rx
  obtain ⟨t', rfl⟩ := ry
  exact lt_str (fin_bl I q rfl)
/-- is None, is not None: the right side a value none -/
theorem op_isN : OpR X (compareOp .Is) (fun x y H Q => y = .non ∧ Q (.bl (decide (x = .non))) H) := by
  intro pins s σ H x y v u Q I rx ry h
  obtain ⟨rfl, q⟩ := h
  cases ry
  refine is_none_gen (fin_bl I q ?_)
  cases x <;> first
    | (cases rx; rfl)
    | (obtain ⟨t, rfl⟩ := rx; rfl)
theorem op_notN : OpR X (compareOp .IsNot) (fun x y H Q => y = .non ∧ Q (.bl (!decide (x = .non))) H) := by
  intro pins s σ H x y v u Q I rx ry h
  obtain ⟨rfl, q⟩ := h
  cases ry
  refine isnot_none_gen (fin_bl I q ?_)
  cases x <;> first
    | (cases rx; rfl)
    | (obtain ⟨t, rfl⟩ := rx; rfl)
/-- two rules for one operation: by cases -/
theorem OpR.or {f : Value → Value → Sem Value} {r r' : R2} (h : OpR X f r) (h' : OpR X f r') : OpR X f (fun x y H Q => r x y H Q ∨ r' x y H Q) := by
  intro pins s σ H x y v u Q I rx ry q
  rcases q with q | q
  · exact h pins s σ H x y v u Q I rx ry q
  · exact h' pins s σ H x y v u Q I rx ry q
theorem nomark (b : Expr) {op : CmpOp} (h : op ≠ .In := by decide) (h2 : op ≠ .NotIn := by decide) : behindInMarks op b = false := by
  have e1 : (op == CmpOp.In) = false := by cases op <;> first | rfl | exact absurd rfl h
  have e2 : (op == CmpOp.NotIn) = false := by cases op <;> first | rfl | exact absurd rfl h2
  cases b <;> simp [behindInMarks, e1, e2]
/-- a comparison as a value; hm: nomark b, or (for in, not in) by with_unfolding_all rfl -/
theorem pe_cmpR {op : CmpOp} {r : R2} (ho : OpR X (compareOp op) r) (ha : PE X a ta) (hb : PE X b tb) (hm : behindInMarks op b = false) : PE X (.Compare a [op] [b] pos) (tOp r ta tb) := by
  intro pins s σ H Q I h
  exact wpAny_Compare1 (binT ha hb I h fun v u s2 x y H2 I2 rx ry q => ho pins s2 σ H2 x y v u Q I2 rx ry q) hm
/-- a reading of a value as a test -/
def tTest (t : TE) : TT := fun σ H Q => t σ H fun x H' => ∃ k, x = .bl k ∧ Q k H'
theorem pt_cmpR {op : CmpOp} {r : R2} (ho : OpR X (compareOp op) r) (ha : PE X a ta) (hb : PE X b tb) (hm : behindInMarks op b = false) : PT X (.Compare a [op] [b] pos) (tTest (tOp r ta tb)) := by
  intro pins s σ H Q I h
  refine wpAny_isTrue_Compare1 (thn (ha pins s σ H _ I h) fun v s1 ⟨x, H1, I1, r1, q1⟩ => thn (hb pins s1 σ H1 _ I1 q1) fun u s2 ⟨y, H2, I2, r2, q2⟩ =>
    thn (ho pins s2 σ H2 x y v u _ I2 r1 r2 q2) fun c s3 ⟨z, H3, I3, r3, k, e, q3⟩ => ?_) hm
  subst e
  cases r3
  exact wpAny_truthy_bool ⟨H3, I3, q3⟩
theorem line63 : (sizeLine : Nat) < 2 ^ 63 := by rw [sizeLine_eq]; decide
theorem vals1 {x : V} {us : List Value} (r : Vals [x] us) : ∃ u, us = [u] ∧ RelV x u := by
  cases r with
  | cons r1 r2 => cases r2; exact ⟨_, rfl, r1⟩
theorem call_int1 : CallR X (.type "int") (fun xs H Q => (∃ i, xs = [.int i] ∧ Q (.int i) H) ∨ ∃ k, xs = [.bl k] ∧ Q (.int (if k then 1 else 0)) H) := by
  intro pins s σ H xs us Q I r h
  rcases h with ⟨i, rfl, q⟩ | ⟨k, rfl, q⟩
  · obtain ⟨u, rfl, t, rfl⟩ := vals1 r
    exact call_int_int ⟨.int i, H, I, ⟨_, rfl⟩, q⟩
  · obtain ⟨u, rfl, r1⟩ := vals1 r
    cases r1
    exact call_int_bool ⟨.int (if k then 1 else 0), H, I.tok _, ⟨_, rfl⟩, q⟩
/-- len of a str, a bytes, a list, a tuple -/
def LenV (K : PySem.W.Frag) (x : V) (H : Hp) (n : Nat) : Prop :=
  match x with
  | .str y => y.length ≤ sizeLine ∧ n = y.length
  | .byt y => y.size ≤ sizeLine ∧ n = y.size
  | .ref p => (∃ xs, SqL K H p xs ∧ n = xs.length) ∨ ∃ xs, SqT K H p xs ∧ n = xs.length
  | _ => False
theorem call_len : CallR X (.builtin "len") (fun xs H Q => ∃ x n, xs = [x] ∧ LenV X.K x H n ∧ Q (.int n) H) := by
  intro pins s σ H xs us Q I r h
  obtain ⟨x, n, rfl, e, q⟩ := h
  obtain ⟨u, rfl, rx⟩ := vals1 r
  have hl := line63
  have hs : sizeLine = 16777216 := sizeLine_eq
  cases x with
  | str y =>
    obtain ⟨t, rfl⟩ := rx
    obtain ⟨hy, e'⟩ : y.length ≤ sizeLine ∧ n = y.length := e
    subst e'
    exact len_str (by omega) ⟨.int _, H, I.tok _, ⟨_, rfl⟩, q⟩
  | byt y =>
    obtain ⟨t, rfl⟩ := rx
    obtain ⟨hy, e'⟩ : y.size ≤ sizeLine ∧ n = y.size := e
    subst e'
    exact PySem.W.len_bytes (by omega) ⟨.int _, H, I.tok _, ⟨_, rfl⟩, q⟩
  | ref p =>
    cases rx
    have e' : (∃ xs, SqL X.K H p xs ∧ n = xs.length) ∨ ∃ xs, SqT X.K H p xs ∧ n = xs.length := e
    rcases e' with ⟨xs, hx, e'⟩ | ⟨xs, hx, e'⟩
    · subst e'
      obtain ⟨its, r', pl, hz⟩ := I.list hx
      have hlen := r'.length
      exact Calls.call_len_list pl.isList (by simp only [List.size_toArray]; omega) ⟨.int xs.length, H, I.tok _, ⟨_, by simp only [List.size_toArray]; rw [hlen]⟩, q⟩
    · subst e'
      obtain ⟨its, r', pl, hz⟩ := I.tuple hx
      have hlen := r'.length
      exact len_tuple pl (by simp only [List.size_toArray]; omega) ⟨.int xs.length, H, I.tok _, ⟨_, by simp only [List.size_toArray]; rw [hlen]⟩, q⟩
  | _ => exact (show False from e).elim
end
end L2
namespace L2
open PySem PySem.Spec PyProof.Rows
structure ObjM (h : Heap) (x dx C : Addr) (mA : Str → Option Value) : Prop where
  obj : h.get? x = some (PySem.W.instObj C dx)
  ns : h.Ns1 dx mA
  ne : dx ≠ x
section
variable {prog : Program} {w : World} {A : Around} {E : Value → Shared → Prop} {s : Shared} {K : PySem.W.Frag} {x dx C f : Addr} {mA : Str → Option Value} {name : Str} {v : Value}
end
section
variable {P : Program} {w : World} {H H' : Hp} {h h' : Heap} {a C dx : Addr} {fs fs' : List (Str × V)}
end
structure Cls (K : PySem.W.Frag) (C : Addr) : Prop where
  pg : PySem.W.plainGet K C Str.empty = true
  hd : PySem.W.hasDictIn K C = true
  po : PySem.W.plainOver K C = true
  sa : PySem.W.findIn K (.ref C) "__setattr__" = some (some (.builtin "object.__setattr__"))
theorem Cls.get {K : PySem.W.Frag} {C : Addr} (c : Cls K C) (f : Str) : PySem.W.plainGet K C f = true := c.pg
/-- a constant of the class -/
structure Con (K : PySem.W.Frag) (C : Addr) (f : Str) (v : V) (u : Value) : Prop where
  at_ : PySem.W.findIn K (.ref C) f = some (some u)
  rel : RelV v u
  get : PySem.W.specialIn K u "__get__" = some none
  cp : PySem.W.copiedNames.contains f = false
/-- a method: a plain def of the class or of one above it -/
structure Meth (K : PySem.W.Frag) (C : Addr) (m : Str) (f : Addr) : Prop where
  at_ : PySem.W.findIn K (.ref C) m = some (some (.ref f))
  fn : PySem.W.isFn K (.ref f) = true
  kp : PySem.W.keepIn K (.ref f) = true
section
variable {X : Cx} {pins : List (Addr × Obj)} {σ : St} {H : Hp} {s : Shared} {a C dx : Addr} {fs : List (Str × V)} {f : Str} {v : V} {A : Around} {E : Value → Shared → Prop}
/-- a new instance, tracked, without attributes -/
theorem Inv.made (I : Inv X pins σ H s) : Inv X pins σ (upd (upd H s.heap.objs.size (.own (s.heap.objs.size + 1))) (s.heap.objs.size + 1) (.ins C s.heap.objs.size []))
    { s with heap := (s.heap.push PySem.W.emptyDict).push (PySem.W.instObj C s.heap.objs.size) } := by
  have e1 : (s.heap.push PySem.W.emptyDict).get? s.heap.objs.size = some PySem.W.emptyDict := Heap.get?_push_size s.heap rfl
  have e2 : ((s.heap.push PySem.W.emptyDict).push (PySem.W.instObj C s.heap.objs.size)).get? (s.heap.objs.size + 1) = some (PySem.W.instObj C s.heap.objs.size) := by
    have := Heap.get?_push_size (s.heap.push PySem.W.emptyDict) (o := PySem.W.instObj C s.heap.objs.size) rfl
    rwa [Heap.size_push] at this
  have e3 : (s.heap.push PySem.W.emptyDict).Ns s.heap.objs.size (fun _ => none) := ⟨PySem.W.emptyDict, #[], _, e1, rfl, (fun e he => absurd he (by simp)), fun _ => rfl⟩
  have I1 := I.laid (a := s.heap.objs.size) (o := .own (s.heap.objs.size + 1)) (h' := s.heap.push PySem.W.emptyDict) (t' := s.toks) (fun b u q => Heap.get?_push_of_some _ q) (Nat.le_refl _) ⟨_, e1⟩
  refine I1.laid (a := s.heap.objs.size + 1) (o := .ins C s.heap.objs.size []) (t' := s.toks) (fun b u q => Heap.get?_push_of_some _ q) (Nat.le_of_eq (Heap.size_push _ _)) ?_
  have ne : s.heap.objs.size ≠ s.heap.objs.size + 1 := Nat.ne_of_lt (Nat.lt_succ_self _)
  refine ⟨by rw [upd_ne ne, upd_same], Nat.zero_le _, ne, e2, fun _ => none, (Heap.Ns1.of_empty e3).at fun o q => Heap.get?_push_of_some _ q, fun _ => True.intro, fun y hy => absurd rfl hy⟩
end
section
variable {X : Cx} {o e value : Expr} {f : Str} {pos pos' tpos : Pos} {ta tv : TE}
end
section
variable {X : Cx} {pins : List (Addr × Obj)} {σ : St} {H : Hp} {s : Shared} {A : Around} {E : Value → Shared → Prop} {Q : Value → Shared → Prop} {c : Value} {b : Bool}
/-- the type of a value, as the fragment's deciders take it; for an instance its class -/
inductive TyOf (K : PySem.W.Frag) (H : Hp) : V → Value → Prop where
  | non : TyOf K H .non (.type "NoneType")
  | bl (x : Bool) : TyOf K H (.bl x) (.type "bool")
  | int (i : Int) : TyOf K H (.int i) (.type "int")
  | str (x : Str) : TyOf K H (.str x) (.type "str")
  | flt (x : UInt64) : TyOf K H (.flt x) (.type "float")
  | lst {a : Addr} {xs : List V} (e : H a = some (.lst xs)) : TyOf K H (.ref a) (.type "list")
  | frz {a : Addr} {o : Obj} {xs : List V} (e : H a = some (.frz o (.lst xs))) : TyOf K H (.ref a) (.type "list")
  | tup {a : Addr} {xs : List V} (e : H a = some (.tup xs)) : TyOf K H (.ref a) (.type "tuple")
  | dK {a : Addr} {kvs : List (Key × V)} (e : H a = some (.dK kvs)) : TyOf K H (.ref a) (.type "dict")
  | dT {a : Addr} {kvs : List (List Key × V)} (e : H a = some (.dT kvs)) : TyOf K H (.ref a) (.type "dict")
  | ins {a C dx : Addr} {fs : List (Str × V)} (e : H a = some (.ins C dx fs)) (cl : Cls K C) (ha : PySem.W.findIn K (.ref C) "__class__" = some (some (.builtin "object.__class__")))
      (hn : PySem.W.specialIn K (.builtin "object.__class__") "__get__" = some (some (.builtin "getset_descriptor.__get__"))) (htk : PySem.W.takesIn K (.builtin "object.__class__") = some true)
      (hm : PySem.W.mroIn K C (.type "object") = some true) : TyOf K H (.ref a) (.ref C)
end
end L2
namespace L2
open PySem PySem.Spec PyProof.Rows
structure Room (k : Nat) (A : Around) : Prop where
  hd : A.handled = none
  dp : A.depth + 3 * k + 5 < recursionLimit
  un : A.units + 16 * k + 200 < cLine
theorem Room.mono {j k : Nat} {A : Around} (r : Room k A) (h : j ≤ k) : Room j A := ⟨r.hd, by have := r.dp; omega, by have := r.un; omega⟩
theorem Room.deeper {k : Nat} {A : Around} (r : Room (k + 1) A) (env : Env) : Room k (A.deeper env) :=
  ⟨r.hd, by have := r.dp; show A.depth + 1 + 3 * k + 5 < _; omega, by have := r.un; show A.units + 3 + 16 * k + 200 < _; omega⟩
theorem Room.in1 {k : Nat} {A : Around} (r : Room (k + 1) A) : Room k A.in1 :=
  ⟨r.hd, by have := r.dp; show A.depth + 3 * k + 5 < _; omega, by have := r.un; show A.units + 1 + 16 * k + 200 < _; omega⟩
theorem Room.depth {k : Nat} {A : Around} (r : Room k A) : A.depth < recursionLimit := by have := r.dp; omega
theorem Room.units {k : Nat} {A : Around} (r : Room k A) : A.units + 64 < cLine := by have := r.un; omega
def tNil : TA := fun _ H Q => Q [] H
def tCons (ta : TE) (tr : TA) : TA := fun σ H Q => ta σ H fun x H1 => tr σ H1 fun xs H2 => Q (x :: xs) H2
section
variable {X : Cx} {e : Expr} {es : List Expr} {te : TE} {t : TA} {pos : Pos}
theorem pa_nil : PA X [] tNil := fun _ _ _ _ H Q I h => Calls.spliced_nil ⟨[], H, I, .nil, h⟩
theorem pa_cons (ha : PE X e te) (hr : PA X es t) (hs : starEach (e :: es) X.env = (false, eval e X.env) :: starEach es X.env := by rfl) : PA X (e :: es) (tCons te t) := by
  intro pos pins s σ H Q I h
  rw [hs]
  show wpAny _ _ (spliced ((false, eval e X.env) :: backTo pos (starEach es X.env))) _ _ s
  refine Calls.spliced_cons (thn (ha pins s σ H _ I h) fun u s1 ⟨x, H1, I1, r1, q1⟩ => ?_)
  exact thn (hr pos pins s1 σ H1 _ I1 q1) fun us s2 ⟨xs, H2, I2, r2, q2⟩ => ⟨x :: xs, H2, I2, .cons r1 r2, q2⟩
/-- a tuple, a list of written items -/
def tTup (t : TA) : TE := fun σ H Q => t σ H fun xs H1 => xs.length ≤ sizeLine ∧ ∀ p, H1 p = none → Q (.ref p) (upd H1 p (.tup xs))
def tLst (t : TA) : TE := fun σ H Q => t σ H fun xs H1 => xs.length ≤ sizeLine ∧ ∀ p, H1 p = none → Q (.ref p) (upd H1 p (.lst xs))
theorem pe_tup {x1} (h : PA X es t) : PE X (.Tuple es x1 pos) (tTup t) := by
  intro pins s σ H Q I hq
  refine wpAny_Tuple_spliced (thn (h pos pins s σ H _ I hq) fun us s1 ⟨xs, H1, I1, r, z, q⟩ => ⟨by rw [← r.length]; exact z, ?_⟩)
  have hf : H1 s1.heap.objs.size = none := I1.hok.fresh (Nat.le_refl _)
  refine ⟨.ref s1.heap.objs.size, upd H1 s1.heap.objs.size (.tup xs), I1.laid (t' := s1.toks) (fun b u e => Heap.get?_push_of_some _ e) (Nat.le_refl _) ?_, rfl, q _ hf⟩
  exact ⟨z, us, r, ⟨_, Heap.get?_push_size _ rfl, rfl, rfl, _, rfl⟩⟩
theorem pe_lst (h : PA X es t) : PE X (.List es pos) (tLst t) := by
  intro pins s σ H Q I hq
  refine wpAny_List_spliced (thn (h pos pins s σ H _ I hq) fun us s1 ⟨xs, H1, I1, r, z, q⟩ => ⟨by rw [← r.length]; exact z, ?_⟩)
  have hf : H1 s1.heap.objs.size = none := I1.hok.fresh (Nat.le_refl _)
  refine ⟨.ref s1.heap.objs.size, upd H1 s1.heap.objs.size (.lst xs), I1.laid (t' := s1.toks) (fun b u e => Heap.get?_push_of_some _ e) (Nat.le_refl _) ?_, rfl, q _ hf⟩
  exact ⟨z, us, 0, r, Heap.get?_push_size _ rfl⟩
end
/-- a def's promise: the bound arguments in the parameters' order, the heap, the wanted end, the wanted exception -/
abbrev Sp := List V → Hp → VK → XK → Prop
/-- how an exception lies behind a call (file 08 gives it): the callers' frames, abstract heap and state ahead of the call, the wish, the exception, the state -/
abbrev CXT := List Env → Hp → Shared → XK → Value → Shared → Prop
/-- the state at a call -/
structure Env0 (P : Program) (w : World) (K : PySem.W.Frag) (mg : Str → Option Value) (base : Heap) (A : Around) (outer : List Env) (s : Shared) (H : Hp) : Prop where
  frames : A.frames = some outer
  mod : Mod K mg base
  bs : ∀ b o, base.get? b = some o → s.heap.get? b = some o ∧ H b = none
  bsz : base.objs.size ≤ s.heap.objs.size
  funs : s.heap.FunFrames base outer
  frf : ∀ b ∈ frs outer, H b = none
  hok : HOk P w H s.heap
  bare : AllBare s.gens
/-- a call's end -/
def CE (outer : List Env) (P : Program) (w : World) (H : Hp) (s : Shared) (Q : VK) (u : Value) (s' : Shared) : Prop :=
  ∃ v H', s'.os = s.os ∧ AllBare s'.gens ∧ Un (frs outer) [] H H' s.heap s'.heap ∧ HOk P w H' s'.heap ∧ RelV v u ∧ Q v H'
def CR (CX : CXT) (outer : List Env) (P : Program) (w : World) (H : Hp) (s : Shared) (Q : VK) (E : XK) (r : Result) (s' : Shared) : Prop :=
  match r with
  | .ok (.ret u) => CE outer P w H s Q u s'
  | .ok _ => False
  | .error e => CX outer H s E e s'
structure FnOk (P : Program) (w : World) (K : PySem.W.Frag) (mg : Str → Option Value) (base : Heap) (CX : CXT) (k : Nat) (f : Addr) (fd : FuncData) (ps : List Str) (sp : Sp) : Prop where
  len : ∀ vs H Q E, sp vs H Q E → vs.length = ps.length
  run : ∀ (A : Around) (outer : List Env) (s : Shared) (H : Hp) (args : Args) (us : List Value) (vs : List V) (Q : VK) (E : XK), Room k A → Env0 P w K mg base A outer s H → BindsTo s fd args (ps.zip us) → Vals vs us → sp vs H Q E →
    codeAny (model P w) A (.call (.ref f) args) (CR CX outer P w H s Q E) s
theorem FnOk.mono {P : Program} {w : World} {K : PySem.W.Frag} {mg : Str → Option Value} {base : Heap} {CX : CXT} {j k : Nat} {f : Addr} {fd : FuncData} {ps : List Str} {sp : Sp} (F : FnOk P w K mg base CX j f fd ps sp) (h : j ≤ k) :
    FnOk P w K mg base CX k f fd ps sp := ⟨F.len, fun A outer s H args us vs Q E hr => F.run A outer s H args us vs Q E (hr.mono h)⟩
theorem Env0.in1 {P : Program} {w : World} {K : PySem.W.Frag} {mg : Str → Option Value} {base : Heap} {A : Around} {outer : List Env} {s : Shared} {H : Hp} (e : Env0 P w K mg base A outer s H) :
    Env0 P w K mg base A.in1 outer s H := ⟨e.frames, e.mod, e.bs, e.bsz, e.funs, e.frf, e.hok, e.bare⟩
section
variable {X : Cx} {pins : List (Addr × Obj)} {σ : St} {H : Hp} {s s' : Shared}
/-- from a body: what a callee wants -/
theorem Inv.env0 (I : Inv X pins σ H s) : Env0 X.prog X.w X.K X.mg X.base X.A X.stack s H :=
  ⟨I.ok.frames, I.ok.mod, I.bs, Nat.le_trans I.ok.bsz I.sz, I.stack, I.stkFree, I.hok, I.bare⟩
/-- behind a call -/
theorem Inv.after {Q : VK} {u : Value} (I : Inv X pins σ H s) (h : CE X.stack X.prog X.w H s Q u s') : EP X pins σ Q u s' := by
  obtain ⟨v, H', os, bare, un, hok, r, q⟩ := h
  obtain ⟨hh, g, d, t, os'⟩ := s'
  obtain rfl : os' = s.os := os
  exact ⟨v, H', I.call (h' := hh) (g' := g) (d' := d) (t' := t) (ch := []) un hok bare (fun b z => absurd z (by simp)), r, q⟩
end
/-- f(..): the written arguments, then the defaults dvs; E: what is wanted of an exception -/
def tCall (sp : Sp) (dvs : List V) (E : XK) (t : TA) : TE := fun σ H Q => t σ H fun vs H1 => sp (vs ++ dvs) H1 Q E
/-- how the parameters are bound: us the positional arguments, kw the keywords' values by name, ds the defaults that fill up -/
def Binds (K : PySem.W.Frag) (fd : FuncData) (ps : List Str) (ds : List Value) : Prop :=
  ∀ (s : Shared) (us : List Value), K.In s.heap → (us ++ ds).length = ps.length → BindsTo s fd ⟨us, []⟩ (ps.zip (us ++ ds))
/-- every parameter is given -/
theorem Binds.all {K : PySem.W.Frag} {fd : FuncData} {ps : List Str} (h : ∀ us : List Value, us.length = ps.length → bindArgs fd ⟨us, []⟩ = pure (ps.zip us)) : Binds K fd ps [] := fun s us _ hl => by
  rw [List.append_nil] at hl ⊢
  exact .of_eq (h us hl)
/-- an exception of a callee reaches what this body wants of exceptions -/
def Passes (CX : CXT) (X : Cx) (E : XK) : Prop := ∀ (pins : List (Addr × Obj)) (σ : St) (H : Hp) (s : Shared) (e : Value) (s' : Shared), Inv X pins σ H s → CX X.stack H s E e s' → X.xe e s'
section
variable {X : Cx} {CX : CXT} {k : Nat} {f C : Addr} {fd : FuncData} {ps : List Str} {sp : Sp} {dvs : List V} {ds : List Value} {E : XK} {x m : Str} {p pos apos : Pos} {e o : Expr} {es : List Expr} {ta : TE} {t : TA}
/-- the callee runs -/
theorem run_fn {pins : List (Addr × Obj)} {σ : St} {H : Hp} {s : Shared} {Q : VK} {us : List Value} {vs : List V} (F : FnOk X.prog X.w X.K X.mg X.base CX k f fd ps sp) (hr : Room k X.A) (hb : Binds X.K fd ps ds) (hd : Vals dvs ds) (hx : Passes CX X E)
    (I : Inv X pins σ H s) (r : Vals vs us) (h : sp (vs ++ dvs) H Q E) : wpAny (model X.prog X.w) X.A (call (.ref f) us) (EP X pins σ Q) X.xe s := by
  have r2 : Vals (vs ++ dvs) (us ++ ds) := r.append hd
  have hl : (us ++ ds).length = ps.length := by rw [← r2.length]; exact F.len _ _ _ _ h
  refine wpAny_call (codeAny_mono (F.run X.A X.stack s H ⟨us, []⟩ (us ++ ds) (vs ++ dvs) Q E hr I.env0 (hb s us I.kIn hl) r2 h) fun r s' hq => ?_)
  cases r with
  | error e => exact hx pins σ H s e s' I hq
  | ok fl =>
    cases fl with
    | ret u => exact I.after hq
    | next => exact False.elim hq
    | brk => exact False.elim hq
    | cont => exact False.elim hq
theorem pe_call (F : FnOk X.prog X.w X.K X.mg X.base CX k f fd ps sp) (hr : Room k X.A) (hg : Gl X x) (hm : X.mg x = some (.ref f)) (hk : PySem.W.keepIn X.K (.ref f) = true) (hb : Binds X.K fd ps ds) (hd : Vals dvs ds) (hx : Passes CX X E)
    (ha : PA X (e :: es) t) (hdb : (x == ("__debug__" : Str)) = false := by decide) (he : starEach (e :: es) X.env = (false, eval e X.env) :: starEach es X.env := by rfl) (hpl : (backTo pos (starEach es X.env)).any (·.1) = false := by rfl) :
    PE X (.Call (.Name x p) (e :: es) [] pos) (tCall sp dvs E t) := by
  intro pins s σ H Q I h
  refine wpAny_Call_Name_kw (ld_glob I hg hm ?_ hdb)
  refine PySem.W.callWith_K (h₀ := X.base) I.ok.mod.kin hk (thn (ha pos pins s σ H _ I h) fun us s1 ⟨vs, H1, I1, r, q⟩ => ⟨I1.kIn, ?_⟩) he hpl
  exact run_fn F hr hb hd hx I1 r q
/-- what a class must have to be made -/
structure Mk (K : PySem.W.Frag) (C f : Addr) : Prop where
  makes : PySem.W.makesIn K C = true
  init : PySem.W.findIn K (.ref C) "__init__" = some (some (.ref f))
  fn : PySem.W.isFn K (.ref f) = true
  kp : PySem.W.keepIn K (.ref C) = true
end
section
variable {X : Cx} {CX : CXT} {k : Nat} {f C : Addr} {fd : FuncData} {ps ks : List Str} {sp : Sp} {E : XK} {x m : Str} {p pos apos kpos : Pos} {e o : Expr} {es : List Expr} {kws : List Keyword} {te ta : TE} {t tk : TA} {nm : Option Str}
/-- how a call with keywords binds: g puts the positional values us and the keywords' values ws (names ks) in the parameters' order, defaults among them -/
structure KBinds (K : PySem.W.Frag) (fd : FuncData) (ps ks : List Str) (g : List Value → List Value → List Value) (gV : List V → List V → List V) : Prop where
  to : ∀ (s : Shared) (us ws : List Value), K.In s.heap → (g us ws).length = ps.length → BindsTo s fd ⟨us, ks.zip ws⟩ (ps.zip (g us ws))
  rel : ∀ {vs : List V} {us : List Value} {zs : List V} {ws : List Value}, Vals vs us → Vals zs ws → Vals (gV vs zs) (g us ws)
variable {g : List Value → List Value → List Value} {gV : List V → List V → List V}
end
/-- names: the parameters first -/
structure FnScope (N P : List Str) (sc : Scope) : Prop where
  kind : sc.kind = .function
  co : sc.isCoroutine = false
  gen : sc.isGenerator = false
  nd : N.Nodup
  pre : N.take P.length = P
  par : ∀ x ∈ P, sc.names.lookup x = some .local ∨ sc.names.lookup x = some .cell
  nofree : ∀ y ∈ sc.names, y.2 ≠ .free
theorem bindL_out {kindOf : Str → Option NameKind} {x : Str} : ∀ {binds : List (Str × Value)} {m : Str → Option Value}, (∀ v, (x, v) ∉ binds) → bindL kindOf binds m x = m x
  | [], _, _ => rfl
  | (n, v) :: r, m, h => by
    unfold bindL
    rw [bindL_out fun w hw => h w (List.mem_cons_of_mem _ hw)]
    split
    · have : x ≠ n := by rintro rfl; exact h v List.mem_cons_self
      simp [this]
    · rfl
theorem bindC_out {kindOf : Str → Option NameKind} {x : Str} : ∀ {binds : List (Str × Value)} {m : Str → Option Value}, (∀ v, (x, v) ∉ binds) → bindC kindOf binds m x = m x
  | [], _, _ => rfl
  | (n, v) :: r, m, h => by
    unfold bindC
    rw [bindC_out fun w hw => h w (List.mem_cons_of_mem _ hw)]
    split
    · rfl
    · have : x ≠ n := by rintro rfl; exact h v List.mem_cons_self
      simp [this]
theorem bindL_get {kindOf : Str → Option NameKind} {x : Str} {v : Value} : ∀ {P : List Str} {vs : List Value} {i : Nat} {m : Str → Option Value}, P.Nodup → P[i]? = some x → vs[i]? = some v → kindOf x = some .local →
    bindL kindOf (P.zip vs) m x = some v
  | [], _, _, _, _, h, _, _ => by simp at h
  | _ :: _, [], _, _, _, _, h, _ => by simp at h
  | p :: P, w :: vs, 0, m, nd, h1, h2, hk => by
    simp at h1 h2; subst h1; subst h2
    show bindL kindOf ((p, w) :: P.zip vs) m p = _
    unfold bindL
    rw [bindL_out fun v hv => (List.nodup_cons.mp nd).1 (List.of_mem_zip hv).1, if_pos hk]
    simp
  | p :: P, w :: vs, i + 1, m, nd, h1, h2, hk => by
    show bindL kindOf ((p, w) :: P.zip vs) m x = _
    unfold bindL
    exact bindL_get (i := i) (List.nodup_cons.mp nd).2 (by simpa using h1) (by simpa using h2) hk
theorem bindC_get {kindOf : Str → Option NameKind} {x : Str} {v : Value} : ∀ {P : List Str} {vs : List Value} {i : Nat} {m : Str → Option Value}, P.Nodup → P[i]? = some x → vs[i]? = some v → kindOf x ≠ some .local →
    bindC kindOf (P.zip vs) m x = some v
  | [], _, _, _, _, h, _, _ => by simp at h
  | _ :: _, [], _, _, _, _, h, _ => by simp at h
  | p :: P, w :: vs, 0, m, nd, h1, h2, hk => by
    simp at h1 h2; subst h1; subst h2
    show bindC kindOf ((p, w) :: P.zip vs) m p = _
    unfold bindC
    rw [bindC_out fun v hv => (List.nodup_cons.mp nd).1 (List.of_mem_zip hv).1, if_neg hk]
    simp
  | p :: P, w :: vs, i + 1, m, nd, h1, h2, hk => by
    show bindC kindOf ((p, w) :: P.zip vs) m x = _
    unfold bindC
    exact bindC_get (i := i) (List.nodup_cons.mp nd).2 (by simpa using h1) (by simpa using h2) hk
/-- the names' values at the entry -/
def start (N : List Str) (vs : List V) : St := vs.map some ++ List.replicate (N.length - vs.length) none
/-- the context of a def's body, at its entry; an exception leaves the frame, then lies as CX says -/
def cxOf (CX : CXT) (P : Program) (w : World) (K : PySem.W.Frag) (mg : Str → Option Value) (base : Heap) (N : List Str) (qual : Str) (scope : Scope) (f : Addr) (cd : Value) (A : Around) (outer : List Env) (s : Shared) (H : Hp) (E : XK) : Cx where
  prog := P
  w := w
  K := K
  mg := mg
  base := base
  A := A.deeper (envOfC qual scope s.heap.objs.size f cd)
  N := N
  s₀ := s
  H₀ := H
  env := envOfC qual scope s.heap.objs.size f cd
  outer := outer
  stack := envOfC qual scope s.heap.objs.size f cd :: outer
  ex := []
  calm := true
  fn := fun _ => true
  pn := []
  xe := fun e s' => wpAny (model P w) (A.deeper (envOfC qual scope s.heap.objs.size f cd)) (leaving (envOfC qual scope s.heap.objs.size f cd) e) (fun _ s'' => CX outer H s E e s'') (fun e' s'' => CX outer H s E e' s'') s'
theorem cell_has {sc : Scope} {n : Nat} {x : Str} (h : sc.names.lookup x = some .cell) : ∃ c, (cellsFrom n sc.names []).lookup x = some c := by
  have q := PySem.W.cellsFrom_some sc.names n [] (.inl h)
  exact Option.isSome_iff_exists.mp q
theorem inv_start {CX : CXT} {P : Program} {w : World} {K : PySem.W.Frag} {mg : Str → Option Value} {base : Heap} {N ps : List Str} {qual : Str} {scope : Scope} {f : Addr} {cd : Value} {A : Around} {outer : List Env} {s s1 : Shared} {H : Hp} {E : XK} {us : List Value} {vs : List V}
    (S : FnScope N ps scope) (hd : A.handled = none) (e0 : Env0 P w K mg base A outer s H) (hl : vs.length = ps.length) (r : Vals vs us)
    (x : InCallC s s.heap.objs.size (bindL (envOfC qual scope s.heap.objs.size f cd).kindOf (ps.zip us) fun _ => none) (cellsFrom (s.heap.objs.size + 1) scope.names []) (bindC (envOfC qual scope s.heap.objs.size f cd).kindOf (ps.zip us) fun _ => none) s1) :
    Inv (cxOf CX P w K mg base N qual scope f cd A outer s H E) [] (start N vs) H s1 := by
  have hpl : ps.length ≤ N.length := by have := congrArg List.length S.pre; rw [List.length_take] at this; omega
  obtain ⟨h1, tk, rfl, hk⟩ := x.done
  have noA : ∀ b : Addr, b ∉ (cxOf CX P w K mg base N qual scope f cd A outer s H E).ex := fun b z => absurd (show b ∈ ([] : List Addr) from z) (by simp)
  refine ⟨⟨e0.mod, S.kind, rfl, rfl, Nat.le_refl _, fun y z c h1 h2 => ?_, fun y hy => ?_, fun y c _ h => ?_, fun _ => hd, Around.frames_deeper e0.frames, .inr ⟨rfl, rfl⟩, fun b z => absurd z (noA b), e0.bs, e0.bsz, fun b _ _ => noA b, fun b z => absurd z (noA b), e0.funs, e0.frf⟩,
    rfl, e0.bare, Un.kept hk, ⟨_, x.toInCall.ns, fun i y v h1 h2 h3 => ?_⟩, fun y c h => ⟨_, x.cell y c h⟩, e0.hok.fresh (Nat.le_refl _), fun y c h => ?_, fun p hp => absurd (show p ∈ ([] : List (Addr × Obj)) from hp) (by simp), e0.hok.kept hk, ?_⟩
  · exact name_of_addr x.apart (PySem.mem_of_lookup h1) (PySem.mem_of_lookup h2)
  · have hy : scope.names.lookup y = some .cell ∨ scope.names.lookup y = some .free := hy
    rcases hy with hy | hy
    · exact cell_has hy
    · exact absurd rfl (S.nofree _ (PySem.mem_of_lookup hy))
  · exact Nat.le_of_lt (x.above y c (PySem.mem_of_lookup h))
  · have hi : i < vs.length := by
      unfold start at h2
      by_cases hi : i < vs.length
      · exact hi
      · rw [List.getElem?_append_right (by simpa using hi)] at h2
        rw [List.getElem?_replicate] at h2
        split at h2 <;> cases h2
    have ha : vs[i]? = some v := by
      unfold start at h2
      rw [List.getElem?_append_left (by simpa using hi), List.getElem?_map] at h2
      cases e : vs[i]? with
      | none => rw [e] at h2; cases h2
      | some a => rw [e] at h2; cases h2; rfl
    obtain ⟨u, hu, rv⟩ := r.get ha
    have hp : ps[i]? = some y := by
      rw [← S.pre, List.getElem?_take_of_lt (by omega)]; exact h1
    have ndP : ps.Nodup := by rw [← S.pre]; exact S.nd.sublist (List.take_sublist _ _)
    refine ⟨u, rv, ?_⟩
    rcases S.par y (List.mem_of_getElem? hp) with k | k
    · exact .inl ⟨k, bindL_get ndP hp hu k⟩
    · obtain ⟨c, e⟩ := cell_has (n := s.heap.objs.size + 1) k
      refine .inr ⟨.inl k, c, e, ?_⟩
      have q := x.cell y c e
      rw [bindC_get ndP hp hu (by show scope.names.lookup y ≠ _; rw [k]; decide)] at q
      exact q
  · exact e0.hok.fresh (Nat.le_of_lt (x.above y c (PySem.mem_of_lookup h)))
  · unfold start
    show _ = N.length
    rw [List.length_append, List.length_map, List.length_replicate]
    omega
/-- THE RULE: a def (or a method) of the text, by its body. The body's reading t is chosen for each entry; it is run at the parameters' values -/
theorem fn_of {CX : CXT} {P : Program} {w : World} {K : PySem.W.Frag} {mg : Str → Option Value} {base : Heap} {k : Nat} {f : Addr} {name qual : Str} {params : Arguments} {body : List Stmt} {scope : Scope} {dV kV doc pm cdv ct oc : Value} {an od : Option Addr}
    {osl : Array (Option Value)} {N ps : List Str} {sp : Sp} (lk : K.lookup f = some ⟨oc, od, .func (PySem.W.fnOf name qual params body scope dV kV doc pm an cdv ct), osl⟩) (hcd : PySem.W.codeIn K cdv qual = true) (S : FnScope N ps scope)
    (len : ∀ vs H Q E, sp vs H Q E → vs.length = ps.length)
    (hbody : ∀ (A : Around) (outer : List Env) (s : Shared) (H : Hp) (vs : List V) (Q : VK) (E : XK), Room k (A.deeper (envOfC qual scope s.heap.objs.size f cdv)) → sp vs H Q E →
      ∃ t, PSs (cxOf CX P w K mg base N qual scope f cdv A outer s H E) body t ∧ t { nx := fun _ H' => Q .non H', rt := Q } (start N vs) H) :
    FnOk P w K mg base CX (k + 1) f (PySem.W.fnOf name qual params body scope dV kV doc pm an cdv ct) ps sp := by
  refine ⟨len, fun A outer s H args us vs Q E hr e0 hb r hsp => ?_⟩
  have hl := len _ _ _ _ hsp
  have KX : K.In s.heap := e0.mod.kin.keeps fun b o e => (e0.bs b o e).1
  have lim : s.heap.NoLimit := e0.mod.nolimit.keeps fun b o e => (e0.bs b o e).1
  have hkind : ∀ y ∈ ps.zip us, scope.names.lookup y.1 = some .local ∨ (scope.names.lookup y.1 = some .cell ∧ ((cellsFrom (s.heap.objs.size + 1) scope.names []).lookup y.1).isSome = true) := fun ⟨n, v⟩ hy => by
    rcases S.par n (List.of_mem_zip hy).1 with q | q
    · exact .inl q
    · exact .inr ⟨q, PySem.W.cellsFrom_some _ _ _ (.inl q)⟩
  refine codeAny_call_function hr.depth (KX _ _ lk) rfl S.co S.gen rfl (PySem.W.codeRec_of KX hcd) (hb _ _ _ _ ?_)
  refine wpAny_newFunctionEnv_cells S.kind hkind fun env he s1 x => ?_
  subst he
  refine ⟨lim.keeps x.toInCall.keep, codeAny_func ?_⟩
  obtain ⟨t, ht, hq⟩ := hbody A outer s H vs Q E (hr.deeper _) hsp
  have I : Inv (cxOf CX P w K mg base N qual scope f cdv A outer s H E) [] (start N vs) H s1 := inv_start S hr.hd e0 hl r x
  refine wpAny_mono (ht [] s1 (start N vs) H _ I hq) (fun fl s' hs => ?_) fun e s' hs => hs
  have fin : ∀ {σ' : St} {H' : Hp} {v : V} {u : Value}, Inv (cxOf CX P w K mg base N qual scope f cdv A outer s H E) [] σ' H' s' → RelV v u → Q v H' → CE outer P w H s Q u s' :=
    fun {σ' H' v u} J rv q => ⟨v, H', J.os, J.bare, J.base, J.hok, rv, q⟩
  cases fl with
  | ret u =>
    obtain ⟨v, σ', H', J, rv, q⟩ := hs
    exact fin J rv q
  | next =>
    obtain ⟨σ', H', J, q⟩ := hs
    exact fin (v := V.non) (u := Value.none) J rfl q
  | brk =>
    obtain ⟨_, _, _, q⟩ := hs
    exact False.elim q
  | cont =>
    obtain ⟨_, _, _, q⟩ := hs
    exact False.elim q
end L2
namespace L2
open PySem PySem.Spec PyProof.Rows
section
variable {X : Cx} {x : Str} {p pos : Pos} {e : Expr} {es : List Expr} {t : TA} {id T : String} {r : List V → Hp → VK → Prop}
def tCB (r : List V → Hp → VK → Prop) (t : TA) : TE := fun σ H Q => t σ H fun vs H1 => r vs H1 Q
/-- f(e, ..), f a built-in function -/
theorem pe_callB (hc : CallR X (.builtin id) r) (hg : Gl X x) (hm : X.mg x = none) (hv : bootBuiltins x = some (.builtin id)) (ha : PA X (e :: es) t) (hn : x ≠ "__name__" := by decide) (hdb : (x == ("__debug__" : Str)) = false := by decide)
    (he : starEach (e :: es) X.env = (false, eval e X.env) :: starEach es X.env := by rfl) (hpl : (backTo pos (starEach es X.env)).any (·.1) = false := by rfl) : PE X (.Call (.Name x p) (e :: es) [] pos) (tCB r t) := by
  intro pins s σ H Q I h
  refine wpAny_Call_Name_kw (ld_blt I hg hm hv ?_ hn hdb)
  exact PyProof.Rows.callWith_builtin1 (thn (ha pos pins s σ H _ I h) fun us s1 ⟨vs, H1, I1, r1, q1⟩ => hc pins s1 σ H1 vs us Q I1 r1 q1) he hpl
/-- T(e, ..), T a built-in type -/
theorem pe_callTy (hc : CallR X (.type T) r) (hg : Gl X x) (hm : X.mg x = none) (hv : bootBuiltins x = some (.type T)) (ha : PA X (e :: es) t) (hn : x ≠ "__name__" := by decide) (hdb : (x == ("__debug__" : Str)) = false := by decide)
    (he : starEach (e :: es) X.env = (false, eval e X.env) :: starEach es X.env := by rfl) (hpl : (backTo pos (starEach es X.env)).any (·.1) = false := by rfl) : PE X (.Call (.Name x p) (e :: es) [] pos) (tCB r t) := by
  intro pins s σ H Q I h
  refine wpAny_Call_Name_kw (ld_blt I hg hm hv ?_ hn hdb)
  exact PyProof.Rows.callWith_type1 (thn (ha pos pins s σ H _ I h) fun us s1 ⟨vs, H1, I1, r1, q1⟩ => hc pins s1 σ H1 vs us Q I1 r1 q1) he hpl
end
end L2
namespace HT
open PySem PyProof.Rows
section
open PySem.SeqAt
open PySem.AutoSeq1 (wpAny_loadPart')
open PySem.MeetsSeq PySem.MeetsSeq2 PySem.MeetsSeq3
end
section
variable {prog : Program} {w : World} {A : Around} {E : Value → Shared → Prop} {s : Shared}
end
end HT
namespace L2
open PySem PySem.Spec PyProof.Rows
abbrev TO := St → Hp → (Option Int → Hp → Prop) → Prop
/-- a slice's part (left out, or an int) -/
def PO (X : Cx) (e : Option Expr) (t : TO) : Prop :=
  ∀ (pins : List (Addr × Obj)) (s : Shared) (σ : St) (H : Hp) (Q : Option Int → Hp → Prop), Inv X pins σ H s → t σ H Q →
    wpAny (model X.prog X.w) X.A (evalPart e X.env) (fun u s' => ∃ o H', Inv X pins σ H' s' ∧ IsPart u o ∧ Q o H') X.xe s
def tNoPart : TO := fun _ H Q => Q none H
def tPart (t : TE) : TO := fun σ H Q => t σ H fun x H1 => ∃ i, x = .int i ∧ Q (some i) H1
section
variable {X : Cx} {e : Expr} {te : TE} {lo hi : Option Expr} {tl th : TO} {pos p2 : Pos}
theorem po_none : PO X none tNoPart := by
  intro pins s σ H Q I h
  rw [evalPart_none]
  exact wpAny_pure ⟨none, H, I, .none, h⟩
theorem po_some (h : PE X e te) : PO X (some e) (tPart te) := by
  intro pins s σ H Q I hw
  rw [evalPart_some]
  refine thn (h pins s σ H _ I hw) fun u s1 ⟨x, H1, I1, r1, q1⟩ => ?_
  obtain ⟨i, rfl, q⟩ := q1
  obtain ⟨t, rfl⟩ := r1
  exact ⟨some i, H1, I1, .int i t, q⟩
/-- what a slice of a value is, by values: the slice object stands at sl -/
def SlR (X : Cx) (r : V → Option Int → Option Int → Hp → VK → Prop) : Prop :=
  ∀ (pins : List (Addr × Obj)) (s : Shared) (σ : St) (H : Hp) (x : V) (v vl vu : Value) (lo hi : Option Int) (sl : Addr) (Q : VK), Inv X pins σ H s → RelV x v → s.heap.IsSliceOf sl vl vu .none → IsPart vl lo → IsPart vu hi → r x lo hi H Q →
    ∃ T id, typeLookup (.type T) "__getitem__" = pure (some (.builtin id)) ∧ s.TypeIs v T ∧ wpAny (model X.prog X.w) X.A (getItem v (.ref sl)) (EP X pins σ Q) X.xe s
theorem SlR.or {r r' : V → Option Int → Option Int → Hp → VK → Prop} (h : SlR X r) (h' : SlR X r') : SlR X (fun x lo hi H Q => r x lo hi H Q ∨ r' x lo hi H Q) := by
  intro pins s σ H x v vl vu lo hi sl Q I rx hs pl pu q
  rcases q with q | q
  · exact h pins s σ H x v vl vu lo hi sl Q I rx hs pl pu q
  · exact h' pins s σ H x v vl vu lo hi sl Q I rx hs pl pu q
def tSl (r : V → Option Int → Option Int → Hp → VK → Prop) (te : TE) (tl th : TO) : TE := fun σ H Q => te σ H fun x H1 => tl σ H1 fun l H2 => th σ H2 fun u H3 => r x l u H3 Q
/-- a[lo:hi], any a -/
theorem pe_slice {r : V → Option Int → Option Int → Hp → VK → Prop} (hr : SlR X r) (he : PE X e te) (hl : PO X lo tl) (hu : PO X hi th) : PE X (.Subscript e (.Slice lo hi none p2) pos) (tSl r te tl th) := by
  intro pins s σ H Q I h
  refine Subscript_ (thn (he pins s σ H _ I h) fun v s1 ⟨x, H1, I1, r1, q1⟩ => ?_)
  refine wpAny_Slice (thn (hl pins s1 σ H1 _ I1 q1) fun vl s2 ⟨l, H2, I2, pl, q2⟩ => thn (hu pins s2 σ H2 _ I2 q2) fun vu s3 ⟨u, H3, I3, pu, q3⟩ => ?_)
  rw [evalPart_none]
  refine wpAny_pure ?_
  have I4 : Inv X pins σ H3 { s3 with heap := s3.heap.push { cls := .type "slice", data := .fields #[vl, vu, .none] } } := I3.kept (t' := s3.toks) fun b ob q => Heap.get?_push_of_some _ q
  obtain ⟨T, id, hT, ht, hg⟩ := hr pins { s3 with heap := s3.heap.push { cls := .type "slice", data := .fields #[vl, vu, .none] } } σ H3 x v vl vu l u s3.heap.objs.size Q I4 r1 (Heap.IsSliceOf.new ..) pl pu q3
  show wpAny (model X.prog X.w) X.A (subscriptTail e (.Slice lo hi none p2) v (.ref s3.heap.objs.size)) (EP X pins σ Q) X.xe { s3 with heap := s3.heap.push { cls := .type "slice", data := .fields #[vl, vu, .none] } }
  exact tail_any (ops := [.ref s3.heap.objs.size, v]) ht hT hg (by with_unfolding_all rfl)
end
end L2
namespace L2
open PySem PySem.Spec PyProof.Rows
/-- the place that an index of any sign means -/
def ixN (n : Nat) (i : Int) : Option Nat := if 0 ≤ i then (if i < n then some i.toNat else none) else if -(n : Int) ≤ i then some (i + n).toNat else none
def atI {α : Type} (xs : List α) (i : Int) : Option α := (ixN xs.length i).bind fun j => xs[j]?
theorem ixN_seq {n : Nat} {i : Int} {j : Nat} (h : ixN n i = some j) : seqIndex? i n = some j ∧ j < n ∧ -(n : Int) ≤ i ∧ i < n := by
  unfold ixN at h
  by_cases h0 : 0 ≤ i
  · rw [if_pos h0] at h
    by_cases h1 : i < n
    · rw [if_pos h1] at h
      have e : i.toNat = j := Option.some.inj h
      exact ⟨by rw [seqIndex_of h0 h1, e], by omega, by omega, h1⟩
    · rw [if_neg h1] at h; cases h
  · rw [if_neg h0] at h
    by_cases h1 : -(n : Int) ≤ i
    · rw [if_pos h1] at h
      have e : (i + n).toNat = j := Option.some.inj h
      exact ⟨by rw [seqIndex_neg (by omega) h1, e], by omega, h1, by omega⟩
    · rw [if_neg h1] at h; cases h
theorem atI_get {α : Type} {xs : List α} {i : Int} {v : α} (h : atI xs i = some v) : ∃ j, seqIndex? i xs.length = some j ∧ xs[j]? = some v ∧ j < xs.length ∧ -(xs.length : Int) ≤ i ∧ i < xs.length := by
  unfold atI at h
  cases e : ixN xs.length i with
  | none => rw [e] at h; cases h
  | some j =>
    rw [e] at h
    obtain ⟨h1, h2, h3, h4⟩ := ixN_seq e
    exact ⟨j, h1, h, h2, h3, h4⟩
theorem atI_nat {α : Type} {xs : List α} {j : Nat} {v : α} (h : xs[j]? = some v) : atI xs (j : Int) = some v := by
  have hj : j < xs.length := (List.getElem?_eq_some_iff.mp h).1
  have e : ixN xs.length (j : Int) = some j := by
    unfold ixN
    rw [if_pos (by omega), if_pos (by omega)]; simp
  unfold atI; rw [e]; exact h
/-- what stands as an index of a plain subscript -/
def PlainIx (b : Expr) : Prop := ∀ o i, subscripted b false o i = operate [o, i] (getItem o i)
/-- a subscript by values -/
def IxR (X : Cx) (r : R2) : Prop :=
  ∀ (value slice : Expr) (pins : List (Addr × Obj)) (s : Shared) (σ : St) (H : Hp) (x y : V) (v u : Value) (Q : VK), Inv X pins σ H s → RelV x v → RelV y u → r x y H Q →
    subscripted slice false v u = operate [v, u] (getItem v u) → wpAny (model X.prog X.w) X.A (subscriptTail value slice v u) (EP X pins σ Q) X.xe s
/-- a call of a builtin's method by values: the receiver, the arguments -/
def MtR (X : Cx) (id : String) (r : V → List V → Hp → VK → Prop) : Prop :=
  ∀ (pins : List (Addr × Obj)) (s : Shared) (σ : St) (H : Hp) (x : V) (xs : List V) (v : Value) (us : List Value) (Q : VK), Inv X pins σ H s → RelV x v → Vals xs us → r x xs H Q →
    wpAny (model X.prog X.w) X.A (call (.builtin id) (v :: us)) (EP X pins σ Q) X.xe s
section
variable {X : Cx} {a b : Expr} {ta tb : TE} {pos : Pos}
theorem IxR.or {r r' : R2} (h : IxR X r) (h' : IxR X r') : IxR X (fun x y H Q => r x y H Q ∨ r' x y H Q) := by
  intro value slice pins s σ H x y v u Q I rx ry q hs
  rcases q with q | q
  · exact h value slice pins s σ H x y v u Q I rx ry q hs
  · exact h' value slice pins s σ H x y v u Q I rx ry q hs
theorem MtR.or {id : String} {r r' : V → List V → Hp → VK → Prop} (h : MtR X id r) (h' : MtR X id r') : MtR X id (fun x xs H Q => r x xs H Q ∨ r' x xs H Q) := by
  intro pins s σ H x xs v us Q I rx rs q
  rcases q with q | q
  · exact h pins s σ H x xs v us Q I rx rs q
  · exact h' pins s σ H x xs v us Q I rx rs q
/-- a[b] -/
theorem pe_ix {r : R2} (hr : IxR X r) (ha : PE X a ta) (hb : PE X b tb) (hs : PlainIx b) : PE X (.Subscript a b pos) (tOp r ta tb) := by
  intro pins s σ H Q I h
  exact Subscript_ (binT ha hb I h fun v u s2 x y H2 I2 rx ry q => hr a b pins s2 σ H2 x y v u Q I2 rx ry q (hs _ _))
def rIxL (K : PySem.W.Frag) : R2 := fun x y H Q => ∃ p xs i v, x = .ref p ∧ y = .int i ∧ SqL K H p xs ∧ atI xs i = some v ∧ Q v H
def rIxT (K : PySem.W.Frag) : R2 := fun x y H Q => ∃ p xs i v, x = .ref p ∧ y = .int i ∧ SqT K H p xs ∧ atI xs i = some v ∧ Q v H
def rIxS : R2 := fun x y H Q => ∃ z i c, x = .str z ∧ y = .int i ∧ z.length ≤ sizeLine ∧ atI z.cps.toList i = some c ∧ Q (.str ⟨#[c]⟩) H
theorem ix_list : IxR X (rIxL X.K) := by
  intro value slice pins s σ H x y v u Q I rx ry h hs
  obtain ⟨p, xs, i, z, rfl, rfl, hq, he, q⟩ := h
  cases rx
  obtain ⟨t, rfl⟩ := ry
  obtain ⟨its, r, pl, hz⟩ := I.list hq
  obtain ⟨j, h1, h2, h3, h4, h5⟩ := atI_get he
  obtain ⟨w, ew, rw'⟩ := r.get h2
  have hl := r.length
  have hn := line63
  have fin : EP X pins σ Q w s := ⟨z, H, I, rw', q⟩
  by_cases h0 : 0 ≤ i
  · have hj : i.toNat = j := by
      rw [seqIndex_of h0 h5] at h1
      exact Option.some.inj h1
    exact item_listR pl.isList h0 (by omega) (by rw [hj]; simpa using ew) fin hs
  · have hj : (i + (its.toArray.size : Int)).toNat = j := by
      rw [seqIndex_neg (by omega) h4] at h1
      rw [List.size_toArray, ← hl]
      exact Option.some.inj h1
    exact subscriptTail_builtinR (x := w) pl.isList.typeIs slot_list_getitem.lookup
      (wpAny_getItem_list_neg (Q := fun r s' => r = w ∧ EP X pins σ Q r s') pl.isList (by omega) (by rw [List.size_toArray] <;> omega) (by omega) (by rw [hj]; simpa using ew) ⟨rfl, fin⟩) hs
theorem ix_tup : IxR X (rIxT X.K) := by
  intro value slice pins s σ H x y v u Q I rx ry h hs
  obtain ⟨p, xs, i, z, rfl, rfl, hq, he, q⟩ := h
  cases rx
  obtain ⟨t, rfl⟩ := ry
  obtain ⟨its, r, pl, hz⟩ := I.tuple hq
  obtain ⟨j, h1, h2, h3, h4, h5⟩ := atI_get he
  obtain ⟨w, ew, rw'⟩ := r.get h2
  have hl := r.length
  have hn := line63
  have fin : EP X pins σ Q w s := ⟨z, H, I, rw', q⟩
  exact subscriptTail_builtinR (x := w) pl.typeIs slot_tuple_getitem.lookup
    (getItem_tuple (j := j) (Q := fun r s' => r = w ∧ EP X pins σ Q r s') pl (by omega) (by omega) (by rw [List.size_toArray, ← hl]; exact h1) (by simpa using ew) ⟨rfl, fin⟩) hs
theorem ix_str : IxR X rIxS := by
  intro value slice pins s σ H x y v u Q I rx ry h hs
  obtain ⟨z, i, c, rfl, rfl, hz, he, q⟩ := h
  obtain ⟨t, rfl⟩ := rx
  obtain ⟨t', rfl⟩ := ry
  obtain ⟨j, h1, h2, h3, h4, h5⟩ := atI_get he
  have hl : z.cps.toList.length = z.length := by simp [Str.length]
  rw [hl] at h1 h4 h5
  have hn := line63
  exact tail_any (typeIs_str s z t) slot_str_getitem.lookup (getItem_str (c := c) (by
    have e1 : decide (i < -(2 ^ 63 : Int)) = false := decide_eq_false (by omega)
    have e2 : decide (i ≥ 2 ^ 63) = false := decide_eq_false (by omega)
    rw [e1, e2, Bool.or_false]) (by rw [h1]; simpa using h2) ⟨.str ⟨#[c]⟩, H, I.tok _, ⟨_, rfl⟩, q⟩) hs
/-- the list's object behind a store -/
theorem mapSeq_set (its : List Value) (n j : Nat) (u : Value) : Obj.mapSeq (·.setIfInBounds j u) { cls := .type "list", data := .seq its.toArray n } = { cls := .type "list", data := .seq (its.set j u).toArray n } := by
  simp [Obj.mapSeq]
theorem Inv.lst {pins : List (Addr × Obj)} {σ : St} {H : Hp} {s : Shared} {p : Addr} {xs : List V} (I : Inv X pins σ H s) (h : H p = some (.lst xs)) :
    ∃ (its : List Value) (n : Nat), Vals xs its ∧ s.heap.get? p = some { cls := .type "list", data := .seq its.toArray n } ∧ xs.length ≤ sizeLine := by
  obtain ⟨z, its, n, r, e⟩ := I.hok p _ h
  exact ⟨its, n, r, e, z⟩
/-- the list at p is written by an update of its object -/
theorem Inv.lstUpd {pins : List (Addr × Obj)} {σ : St} {H : Hp} {s : Shared} {p : Addr} {xs ys : List V} {its its' : List Value} {n n' : Nat} {f : Obj → Obj} (I : Inv X pins σ H s) (h : H p = some (.lst xs))
    (ho : s.heap.get? p = some { cls := .type "list", data := .seq its.toArray n }) (hf : f { cls := .type "list", data := .seq its.toArray n } = { cls := .type "list", data := .seq its'.toArray n' }) (r : Vals ys its') (hz : ys.length ≤ sizeLine) (t : Nat) :
    Inv X pins σ (upd H p (.lst ys)) { s with heap := s.heap.update p f, toks := t } := by
  have e : (s.heap.update p f).get? p = some { cls := .type "list", data := .seq its'.toArray n' } := by
    rw [Heap.get?_update_self f ho (by rw [hf] <;> rfl), hf]
  refine I.write (x := p) (e := p) (by rw [h]; trivial) (.inl rfl) (fun b u hb q => (Heap.get?_update_other _ _ (Ne.symm hb)).trans q) ⟨_, e⟩ ?_
  exact ⟨hz, its', n', r, e⟩
def rSetL : V → V → V → Hp → (Hp → Prop) → Prop := fun o i v H Q => ∃ p xs k j, o = .ref p ∧ i = .int k ∧ H p = some (.lst xs) ∧ ixN xs.length k = some j ∧ Q (upd H p (.lst (xs.set j v)))
theorem set_list : PSet X rSetL := by
  intro pins s σ H o i v ov iv u Q I ro ri rv h
  obtain ⟨p, xs, k, j, rfl, rfl, hp, hj, q⟩ := h
  cases ro
  obtain ⟨t, rfl⟩ := ri
  obtain ⟨its, n, r, ho, hz⟩ := I.lst hp
  obtain ⟨h1, h2, h3, h4⟩ := ixN_seq hj
  have hl := r.length
  have hn := line63
  have I' : Inv X pins σ (upd H p (.lst (xs.set j v))) { s with heap := s.heap.update p (Obj.mapSeq (·.setIfInBounds j u)) } :=
    I.lstUpd hp ho (mapSeq_set its n j u) (r.set rv j) (by rw [List.length_set]; exact hz) s.toks
  by_cases h0 : 0 ≤ k
  · have hk : k.toNat = j := by
      rw [seqIndex_of h0 h4] at h1
      exact Option.some.inj h1
    exact PySem.W.ki_setAt ho h0 (by omega) (by rw [List.size_toArray, ← hl]; exact h4) (by rw [hk]; exact ⟨_, I', q⟩)
  · have hk : (k + (its.toArray.size : Int)).toNat = j := by
      rw [seqIndex_neg (by omega) h3] at h1
      rw [List.size_toArray, ← hl]
      exact Option.some.inj h1
    exact PySem.W.ki_setBack ho (by omega) (by rw [List.size_toArray, ← hl]; exact h3) (by omega) (by rw [hk]; exact ⟨_, I', q⟩)
def flatV : V → Bool
  | .non => true
  | .bl _ => true
  | .int _ => true
  | .str _ => true
  | _ => false
/-- == of flat values -/
def eqV : V → V → Bool
  | .non, .non => true
  | .bl a, .bl b => a == b
  | .bl a, .int b => (if a then 1 else 0) == b
  | .int a, .bl b => a == (if b then 1 else 0)
  | .int a, .int b => a == b
  | .str a, .str b => a == b
  | _, _ => false
theorem eqAt_V {A : Around} {s : Shared} {y x : V} {u v : Value} (ry : RelV y u) (rx : RelV x v) (fy : flatV y = true) (fx : flatV x = true) : SeqAt.EqAt A s u v (eqV y x) := by
  cases y with
  | non =>
    cases ry
    cases x with
    | non => cases rx; exact SeqAt.EqAt.same _
    | bl b => cases rx; exact SeqAt.EqAt.none_bool b
    | int b => obtain ⟨t, rfl⟩ := rx; exact SeqAt.EqAt.none_int b t
    | str b => obtain ⟨t, rfl⟩ := rx; exact SeqAt.EqAt.none_str b t
    | _ => exact absurd (show false = true from fx) Bool.false_ne_true
  | bl a =>
    cases ry
    cases x with
    | non => cases rx; exact SeqAt.EqAt.bool_none a
    | bl b => cases rx; exact SeqAt.EqAt.bool_bool a b
    | int b => obtain ⟨t, rfl⟩ := rx; exact SeqAt.EqAt.bool_int a b t
    | str b => obtain ⟨t, rfl⟩ := rx; exact SeqAt.EqAt.bool_str a b t
    | _ => exact absurd (show false = true from fx) Bool.false_ne_true
  | int a =>
    obtain ⟨t', rfl⟩ := ry
    cases x with
    | non => cases rx; exact SeqAt.EqAt.int_none a t'
    | bl b => cases rx; exact SeqAt.EqAt.int_bool a t' b
    | int b => obtain ⟨t, rfl⟩ := rx; exact SeqAt.EqAt.int_int a t' b t
    | str b => obtain ⟨t, rfl⟩ := rx; exact SeqAt.EqAt.int_str a t' b t
    | _ => exact absurd (show false = true from fx) Bool.false_ne_true
  | str a =>
    obtain ⟨t', rfl⟩ := ry
    cases x with
    | non => cases rx; exact SeqAt.EqAt.str_none a t'
    | bl b => cases rx; exact SeqAt.EqAt.str_bool a t' b
    | int b => obtain ⟨t, rfl⟩ := rx; exact SeqAt.EqAt.str_int a t' b t
    | str b => obtain ⟨t, rfl⟩ := rx; exact SeqAt.EqAt.str_str a t' b t
    | _ => exact absurd (show false = true from fx) Bool.false_ne_true
  | _ => exact absurd (show false = true from fy) Bool.false_ne_true
/-- the items' answers, read off the values (a value's own answer does not lean on its token) -/
def eqU (x : V) (u : Value) : Bool := match u with
  | .none => eqV .non x
  | .bool b => eqV (.bl b) x
  | .int i _ => eqV (.int i) x
  | .str z _ => eqV (.str z) x
  | _ => false
theorem eqU_of {x y : V} {u : Value} (r : RelV y u) (f : flatV y = true) : eqU x u = eqV y x := by
  cases y with
  | non => cases r; rfl
  | bl b => cases r; rfl
  | int i => obtain ⟨t, rfl⟩ := r; rfl
  | str z => obtain ⟨t, rfl⟩ := r; rfl
  | _ => exact absurd (show false = true from f) Bool.false_ne_true
theorem any_eqU {x : V} : ∀ {xs : List V} {us : List Value}, Vals xs us → xs.all flatV = true → us.any (eqU x) = xs.any fun y => eqV y x
  | _, _, .nil, _ => rfl
  | y :: xs, u :: us, .cons r t, f => by
    rw [List.all_cons, Bool.and_eq_true] at f
    rw [List.any_cons, List.any_cons, eqU_of r f.1, any_eqU t f.2]
theorem mem_eqAt {A : Around} {s : Shared} {x : V} {v : Value} (rx : RelV x v) (fx : flatV x = true) : ∀ {xs : List V} {us : List Value}, Vals xs us → xs.all flatV = true → ∀ u ∈ us, SeqAt.EqAt A s u v (eqU x u)
  | _, _, .nil, _ => fun u hu => by cases hu
  | y :: xs, u :: us, .cons r t, f => fun u' hu => by
    rw [List.all_cons, Bool.and_eq_true] at f
    rcases List.mem_cons.mp hu with rfl | hu
    · rw [eqU_of r f.1]; exact eqAt_V r rx f.1 fx
    · exact mem_eqAt rx fx t f.2 u' hu
def inV (x : V) (xs : List V) : Bool := xs.any fun y => eqV y x
/-- x in a list or tuple of flat items -/
def rIn (K : PySem.W.Frag) (neg : Bool) : R2 := fun x y H Q => ∃ p xs, y = .ref p ∧ (SqL K H p xs ∨ SqT K H p xs) ∧ flatV x = true ∧ xs.all flatV = true ∧ Q (.bl (if neg then !inV x xs else inV x xs)) H
theorem op_in_seq : OpR X (compareOp .In) (rIn X.K false) := by
  intro pins s σ H x y v u Q I rx ry h
  obtain ⟨p, xs, rfl, hq, fx, fs, q⟩ := h
  cases ry
  rcases hq with hq | hq
  · obtain ⟨its, r, pl, hz⟩ := I.list hq
    refine SeqAt.in_listAt (eqU x) pl.isList (fun w hw => mem_eqAt rx fx r fs w (by simpa using hw)) ⟨.bl _, H, I, rfl, ?_⟩
    rw [show its.toArray.any (eqU x) = its.any (eqU x) by simp, any_eqU r fs]
    exact q
  · obtain ⟨its, r, pl, hz⟩ := I.tuple hq
    refine SeqAt.in_tupleAt (eqU x) pl (fun w hw => mem_eqAt rx fx r fs w (by simpa using hw)) ⟨.bl _, H, I, rfl, ?_⟩
    rw [show its.toArray.any (eqU x) = its.any (eqU x) by simp, any_eqU r fs]
    exact q
theorem op_notIn_seq : OpR X (compareOp .NotIn) (rIn X.K true) := by
  intro pins s σ H x y v u Q I rx ry h
  obtain ⟨p, xs, rfl, hq, fx, fs, q⟩ := h
  cases ry
  rcases hq with hq | hq
  · obtain ⟨its, r, pl, hz⟩ := I.list hq
    refine SeqAt.notIn_listAt (eqU x) pl.isList (fun w hw => mem_eqAt rx fx r fs w (by simpa using hw)) ⟨.bl _, H, I, rfl, ?_⟩
    rw [show its.toArray.any (eqU x) = its.any (eqU x) by simp, any_eqU r fs]
    exact q
  · obtain ⟨its, r, pl, hz⟩ := I.tuple hq
    refine SeqAt.notIn_tupleAt (eqU x) pl (fun w hw => mem_eqAt rx fx r fs w (by simpa using hw)) ⟨.bl _, H, I, rfl, ?_⟩
    rw [show its.toArray.any (eqU x) = its.any (eqU x) by simp, any_eqU r fs]
    exact q
theorem CallR.or {f : Value} {r r' : List V → Hp → VK → Prop} (h : CallR X f r) (h' : CallR X f r') : CallR X f (fun xs H Q => r xs H Q ∨ r' xs H Q) := by
  intro pins s σ H xs us Q I rs q
  rcases q with q | q
  · exact h pins s σ H xs us Q I rs q
  · exact h' pins s σ H xs us Q I rs q
theorem call_tuple_of : CallR X (.type "tuple") (fun xs H Q => ∃ p ys, xs = [.ref p] ∧ ((SqL X.K H p ys ∧ ∀ l, H l = none → Q (.ref l) (upd H l (.tup ys))) ∨ (SqT X.K H p ys ∧ Q (.ref p) H))) := by
  intro pins s σ H xs us Q I r h
  obtain ⟨p, ys, rfl, h⟩ := h
  obtain ⟨u, rfl, rx⟩ := vals1 r
  cases rx
  rcases h with ⟨hq, q⟩ | ⟨hq, q⟩
  · obtain ⟨its, r', pl, hz⟩ := I.list hq
    have hlen := r'.length
    refine call_tuple_list pl.isList (fun h' kp => ?_) (by simp only [List.size_toArray] <;> omega)
    have I1 : Inv X pins σ H { s with heap := h' } := I.kept (t' := s.toks) kp
    have I2 : Inv X pins σ (upd H h'.objs.size (.tup ys)) { s with heap := h'.push { cls := .type "tuple", data := .seq its.toArray } } :=
      I1.laid (t' := s.toks) (fun b o e => Heap.get?_push_of_some _ e) (Nat.le_refl _) (show ObjOk X.prog X.w _ _ _ (.tup ys) from ⟨hz, its, r', IsTupN.new _ _⟩)
    exact ⟨.ref h'.objs.size, _, I2, rfl, q _ (I1.hok.fresh (Nat.le_refl _))⟩
  · obtain ⟨its, r', pl, hz⟩ := I.tuple hq
    exact call_tuple_same pl ⟨.ref p, H, I, rfl, q⟩
/-- the value is of that builtin type -/
def tyV (K : PySem.W.Frag) (T : String) (x : V) (H : Hp) : Prop := match x with
  | .str _ => T = "str"
  | .int _ => T = "int"
  | .ref p => (T = "list" ∧ ∃ xs, SqL K H p xs) ∨ (T = "tuple" ∧ ∃ o, K.lookup p = some o ∧ o.cls = .type "tuple" ∧ o.dict = none) ∨
      (T = "dict" ∧ ((∃ kvs, H p = some (.dK kvs)) ∨ ∃ kvs, H p = some (.dT kvs))) ∨ (T = "set" ∧ ∃ S n, H p = some (.set S n))
  | _ => False
theorem tyV_is {pins : List (Addr × Obj)} {σ : St} {H : Hp} {s : Shared} {T : String} {x : V} {v : Value} (I : Inv X pins σ H s) (r : RelV x v) (ty : tyV X.K T x H) :
    s.TypeIs v T ∧ ∀ a, v = .ref a → ∃ ob, s.heap.get? a = some ob ∧ ob.dict = none := by
  cases x with
  | str z =>
    obtain ⟨t, rfl⟩ := r
    cases (show T = "str" from ty)
    exact ⟨typeIs_str s z t, fun _ e => nomatch e⟩
  | int i =>
    obtain ⟨t, rfl⟩ := r
    cases (show T = "int" from ty)
    exact ⟨typeIs_int s i t, fun _ e => nomatch e⟩
  | ref p =>
    cases r
    rcases ty with ⟨rfl, xs, hq⟩ | ⟨rfl, o, hk, hc, hd⟩ | ⟨rfl, hk⟩ | ⟨rfl, S, n, hk⟩
    · obtain ⟨its, _, pl, _⟩ := I.list hq
      refine ⟨pl.isList.typeIs, fun a e => ?_⟩
      cases e
      obtain ⟨o, n, e, c, hd, _⟩ := pl
      exact ⟨o, e, hd⟩
    · refine ⟨⟨o, I.kIn p o hk, hc⟩, fun a e => ?_⟩
      cases e
      exact ⟨o, I.kIn _ o hk, hd⟩
    · have z : ∃ o, s.heap.get? p = some o ∧ o.ExactDict := by
        rcases hk with ⟨kvs, hk⟩ | ⟨kvs, hk⟩
        · obtain ⟨_, _, _, _, o, _, _, e, ex, _⟩ := I.hok p _ hk
          exact ⟨o, e, ex⟩
        · exact False.elim (I.hok p _ hk)
      obtain ⟨o, e, ex⟩ := z
      refine ⟨⟨o, e, ex.1⟩, fun a e2 => ?_⟩
      cases e2
      exact ⟨o, e, ex.2.1⟩
    · obtain ⟨o, _, _, _, e, ex, _⟩ := I.hok p _ hk
      refine ⟨⟨o, e, ex.1⟩, fun a e2 => ?_⟩
      cases e2
      exact ⟨o, e, ex.2.1⟩
  | _ => exact False.elim ty
def tBM (K : PySem.W.Frag) (T : String) (r : V → List V → Hp → VK → Prop) (to : TE) (t : TA) : TE := fun σ H Q => to σ H fun x H1 => tyV K T x H1 ∧ t σ H1 fun xs H2 => r x xs H2 Q
variable {o e : Expr} {es : List Expr} {to : TE} {t : TA} {name : Str} {apos cpos : Pos} {T id : String} {r : V → List V → Hp → VK → Prop}
theorem pe_bm (pa : PlainAttrs T) (slot : Slot T name id) (hty : typeOf (.builtin id) = pure (.type "method_descriptor")) (hm : MtR X id r) (ho : PE X o to) (ha : PA X (e :: es) t)
    (hbase : attributeBase o name X.env (eval o X.env) = eval o X.env := by rfl)
    (hfew : ((backTo cpos (starEach (e :: es) X.env)).all (fun x => !x.1) && (backToKw cpos (keywordEach [] X.env)).all (fun x => x.1.isSome)
      && decide ((e :: es).length + ([] : List Keyword).length + (if ([] : List Keyword).isEmpty then 0 else 1) < 30)) = true := by rfl)
    (hline : (apos.endLine == cpos.line) = true := by rfl) (hs : starEach (e :: es) X.env = (false, eval e X.env) :: starEach es X.env := by rfl) (hplain : (backTo cpos (starEach es X.env)).any (·.1) = false := by rfl) :
    PE X (.Call (.Attribute o name apos) (e :: es) [] cpos) (tBM X.K T r to t) := by
  intro pins s σ H Q I h
  refine wpAny_Call_method_late hbase hfew hline rfl (thn (ho pins s σ H _ I h) fun v s1 ⟨x, H1, I1, r1, ty, q1⟩ => ?_)
  obtain ⟨h1, h2⟩ := tyV_is I1 r1 ty
  refine ⟨T, id, pa, slot, hty, h1, h2, ?_⟩
  have hA := ha cpos pins s1 σ H1 _ I1 q1
  rw [hs] at hA ⊢
  refine Calls.callWith_builtin (by show (false || (backTo cpos (starEach es X.env)).any (·.1)) = false; rw [hplain] <;> rfl) (Calls.evalArgs_plain ?_)
  exact thn hA fun us s2 ⟨vs, H2, I2, r2, q2⟩ => hm pins s2 σ H2 x vs v us Q I2 r1 r2 q2
end
end L2
namespace L2
open PySem PySem.Spec PyProof.Rows
def MtM (X : Cx) (id : String) (r : V → List V → Hp → VK → Prop) : Prop :=
  ∀ (pins : List (Addr × Obj)) (s : Shared) (σ : St) (H : Hp) (x : V) (xs : List V) (v : Value) (us : List Value) (Q : VK), Inv X pins σ H s → RelV x v → Vals xs us → r x xs H Q →
    wpAny (model X.prog X.w) X.A (call (.builtin id) (v :: us)) (EP X pins σ Q) X.xe s
theorem Vals.one : ∀ {x : V} {us : List Value}, Vals [x] us → ∃ u, us = [u] ∧ RelV x u
  | _, _, .cons r .nil => ⟨_, rfl, r⟩
theorem Vals.two : ∀ {x y : V} {us : List Value}, Vals [x, y] us → ∃ u v, us = [u, v] ∧ RelV x u ∧ RelV y v
  | _, _, _, .cons r (.cons q .nil) => ⟨_, _, rfl, r, q⟩
theorem Vals.zero : ∀ {us : List Value}, Vals [] us → us = []
  | _, .nil => rfl
theorem Vals.eraseIdx : ∀ {xs : List V} {us : List Value} (i : Nat), Vals xs us → Vals (xs.eraseIdx i) (us.eraseIdx i)
  | _, _, _, .nil => .nil
  | _, _, 0, .cons _ t => t
  | _, _, i + 1, .cons r t => .cons r (Vals.eraseIdx i t)
theorem Vals.reverse {xs : List V} {us : List Value} (h : Vals xs us) : Vals xs.reverse us.reverse := by
  induction h with
  | nil => exact .nil
  | cons r t ih => rw [List.reverse_cons, List.reverse_cons]; exact Vals.append ih (.cons r .nil)
theorem len_erase {α : Type} : ∀ (l : List α) (i : Nat), (l.eraseIdx i).length ≤ l.length
  | [], _ => Nat.le_refl _
  | _ :: _, 0 => Nat.le_succ _
  | _ :: r, i + 1 => Nat.succ_le_succ (len_erase r i)
section
variable {X : Cx} {pins : List (Addr × Obj)} {σ : St} {H : Hp} {s : Shared} {l b : Addr} {xs ys zs : List V}
theorem Inv.lset {its its' : List Value} {n : Nat} {f : Array Value → Array Value} {t' : Nat} (I : Inv X pins σ H s) (hH : H l = some (.lst xs))
    (e : s.heap.get? l = some { cls := .type "list", data := .seq its.toArray n }) (hf : f its.toArray = its'.toArray) (hv : Vals ys its') (hz : ys.length ≤ sizeLine) :
    Inv X pins σ (upd H l (.lst ys)) { s with heap := s.heap.update l (Obj.mapSeq f), toks := t' } := by
  have q := PySem.IsL.update e f
  rw [hf] at q
  refine I.write (x := l) (e := l) (by rw [hH]; exact trivial) (.inl rfl) (fun b' u hb hu => (Heap.get?_update_other s.heap (Obj.mapSeq f) (Ne.symm hb)).trans hu) ⟨_, q⟩ ?_
  exact ⟨hz, its', _, hv, q⟩
theorem Inv.fresh (I : Inv X pins σ H s) : H s.heap.objs.size = none := I.hok.fresh (Nat.le_refl _)
theorem Inv.lstM (I : Inv X pins σ H s) (hH : H l = some (.lst xs)) : xs.length ≤ sizeLine ∧ ∃ (its : List Value) (n : Nat), Vals xs its ∧ xs.length = its.length ∧ s.heap.get? l = some { cls := .type "list", data := .seq its.toArray n } := by
  obtain ⟨z, its, n, r, e⟩ := I.hok l _ hH
  exact ⟨z, its, n, r, r.length, e⟩
end
section
variable {X : Cx}
def rAppend : V → List V → Hp → VK → Prop := fun x vs H Q => ∃ l xs y, x = .ref l ∧ vs = [y] ∧ H l = some (.lst xs) ∧ xs.length < sizeLine ∧ Q .non (upd H l (.lst (xs ++ [y])))
theorem mt_append : MtM X "list.append" rAppend := by
  intro pins s σ H x vs v us Q I rx rv h
  obtain ⟨l, xs, y, rfl, rfl, hH, hz, q⟩ := h
  cases rx
  obtain ⟨u, rfl, ru⟩ := rv.one
  obtain ⟨z, its, n, r, hl, e⟩ := I.lstM hH
  refine call_meets F.slot_list_append ⟨_, e, rfl⟩ F.entry_list_append (F.args_list_append_2 _ _) (PySem.list_append l its.toArray n u (by rw [List.size_toArray]; omega)) ⟨e, ?_⟩
  refine ⟨.non, _, I.lset (its' := its ++ [u]) hH e (by simp) (r.append (.cons ru .nil)) ?_, rfl, q⟩
  rw [List.length_append, List.length_singleton]
  omega
def rPopAt : V → List V → Hp → VK → Prop := fun x vs H Q => ∃ l xs i k y, x = .ref l ∧ vs = [.int i] ∧ H l = some (.lst xs) ∧ -(2 ^ 63) ≤ i ∧ i < 2 ^ 63 ∧ seqIndex? i xs.length = some k ∧ xs[k]? = some y ∧ Q y (upd H l (.lst (xs.eraseIdx k)))
theorem mt_popAt : MtM X "list.pop" rPopAt := by
  intro pins s σ H x vs v us Q I rx rv h
  obtain ⟨l, xs, i, k, y, rfl, rfl, hH, h1, h2, hk, hy, q⟩ := h
  cases rx
  obtain ⟨u, rfl, ru⟩ := rv.one
  obtain ⟨t, rfl⟩ := ru
  obtain ⟨z, its, n, r, hl, e⟩ := I.lstM hH
  obtain ⟨w, hw, rw'⟩ := r.get hy
  refine call_meets F.slot_list_pop ⟨_, e, rfl⟩ F.entry_list_pop (F.args_list_pop_2 _ _)
    (MeetsSeq.list_pop_at l its.toArray n i t k w (fitsIndex_both h1 h2) (by rw [List.size_toArray, ← hl]; exact hk) (by rw [← Array.getElem?_toList]; exact hw) (by rw [List.size_toArray]; omega)) ⟨e, ?_⟩
  refine ⟨y, _, I.lset (its' := its.eraseIdx k) hH e ?_ (r.eraseIdx k) ?_, rw', q⟩
  · show its.toArray.eraseIdxIfInBounds k = (its.eraseIdx k).toArray
    rw [List.eraseIdxIfInBounds_toArray]
  · have := len_erase xs k
    omega
end
section
variable {prog : Program} {w : World} {A : Around} {E : Value → Shared → Prop} {s : Shared}
end
section
variable {X : Cx}
end
end L2
namespace L2
open PySem PySem.Spec PyProof.Rows
section
variable {κ : Type} [DecidableEq κ]
def valV (kvs : List (κ × V)) (k : κ) : Option V := (kvs.find? fun kv => decide (kv.1 = k)).map (·.2)
/-- in its place, or at the end -/
def putK (kvs : List (κ × V)) (k : κ) (v : V) : List (κ × V) :=
  if (kvs.any fun kv => decide (kv.1 = k)) = true then kvs.map (fun kv => if kv.1 = k then (kv.1, v) else kv) else kvs ++ [(k, v)]
def dropK (kvs : List (κ × V)) (k : κ) : List (κ × V) := kvs.filter fun kv => decide (kv.1 ≠ k)
theorem RelO.getD {o : Option V} {u : Option Value} {d : V} {d' : Value} (r : RelO o u) (rd : RelV d d') : RelV (o.getD d) (u.getD d') := by
  cases o with
  | none => cases u with
    | none => exact rd
    | some _ => exact (show False from r).elim
  | some _ => cases u with
    | none => exact (show False from r).elim
    | some _ => exact r
theorem KV.any {kvs : List (κ × V)} {vs : List (κ × Value)} (r : KV kvs vs) (k : κ) : (kvs.any fun kv => decide (kv.1 = k)) = vs.any fun kv => decide (kv.1 = k) := by
  unfold KV at r
  induction r with
  | nil => rfl
  | cons h t ih => rw [List.any_cons, List.any_cons, ih, h.1]
theorem KV.drop {kvs : List (κ × V)} {vs : List (κ × Value)} (r : KV kvs vs) (k : κ) : KV (dropK kvs k) (without vs k) := by
  unfold KV at r ⊢
  unfold dropK without
  induction r with
  | nil => exact .nil
  | @cons p q ps qs h t ih =>
    obtain ⟨h1, h2⟩ := h
    rw [List.filter_cons, List.filter_cons]
    by_cases e : p.1 = k
    · have a : ¬ decide (p.1 ≠ k) = true := by simp [e]
      have b : ¬ decide (q.1 ≠ k) = true := by simp [h1.symm.trans e]
      rw [if_neg a, if_neg b]; exact ih
    · have e' : ¬ q.1 = k := fun z => e (h1.trans z)
      have a : decide (p.1 ≠ k) = true := by simp [e]
      have b : decide (q.1 ≠ k) = true := by simp [e']
      rw [if_pos a, if_pos b]; exact .cons ⟨h1, h2⟩ ih
theorem KV.keys {kvs : List (κ × V)} {vs : List (κ × Value)} (r : KV kvs vs) : kvs.map (·.1) = vs.map (·.1) := by
  unfold KV at r
  induction r with
  | nil => rfl
  | cons h t ih => rw [List.map_cons, List.map_cons, ih, h.1]
theorem KV.length {kvs : List (κ × V)} {vs : List (κ × Value)} (r : KV kvs vs) : kvs.length = vs.length := Paired.length r
end
/-- raw entries of a dict with tuple keys -/
abbrev KT (H : Hp) : List (List Key × V) → List (List Key × Addr × Value) → Prop := Paired fun p q => p.1 = q.1 ∧ H q.2.1 = some (.tup (p.1.map kV)) ∧ RelV p.2 q.2.2
theorem KT.keeps {H H' : Hp} {kvs : List (List Key × V)} {xs : List (List Key × Addr × Value)} (r : KT H kvs xs) (ht : ∀ b ys, H b = some (.tup ys) → H' b = some (.tup ys)) : KT H' kvs xs :=
  Paired.mapP r fun _ _ z => ⟨z.1, ht _ _ z.2.1, z.2.2⟩
section
variable {P : Program} {w : World} {H : Hp} {h : Heap} {a : Addr}
end
/-- what the dict at a holds at the key y -/
def DGet (H : Hp) (a : Addr) (y : V) (r : Option V) : Prop :=
  (∃ kvs k, Rd H a (.dK kvs) ∧ y = kV k ∧ r = valV kvs k) ∨ ∃ kvs k b, Rd H a (.dT kvs) ∧ y = .ref b ∧ H b = some (.tup (k.map kV)) ∧ r = valV kvs k
/-- the heap behind a[y] = v -/
def DPut (H : Hp) (a : Addr) (y v : V) (H' : Hp) : Prop :=
  (∃ kvs k, H a = some (.dK kvs) ∧ y = kV k ∧ kvs.length < sizeLine ∧ H' = upd H a (.dK (putK kvs k v))) ∨
  ∃ kvs k b, H a = some (.dT kvs) ∧ y = .ref b ∧ H b = some (.tup (k.map kV)) ∧ kvs.length < sizeLine ∧ H' = upd H a (.dT (putK kvs k v))
theorem DGet.k {H : Hp} {a : Addr} {kvs : List (Key × V)} {k : Key} (e : H a = some (.dK kvs)) : DGet H a (kV k) (valV kvs k) := .inl ⟨kvs, k, .inl e, rfl, rfl⟩
theorem DGet.t {H : Hp} {a b : Addr} {kvs : List (List Key × V)} {k : List Key} (e : H a = some (.dT kvs)) (eb : H b = some (.tup (k.map kV))) : DGet H a (.ref b) (valV kvs k) := .inr ⟨kvs, k, b, .inl e, rfl, eb, rfl⟩
theorem DPut.k {H : Hp} {a : Addr} {kvs : List (Key × V)} {k : Key} {v : V} (e : H a = some (.dK kvs)) (hl : kvs.length < sizeLine) : DPut H a (kV k) v (upd H a (.dK (putK kvs k v))) := .inl ⟨kvs, k, e, rfl, hl, rfl⟩
theorem DPut.t {H : Hp} {a b : Addr} {kvs : List (List Key × V)} {k : List Key} {v : V} (e : H a = some (.dT kvs)) (eb : H b = some (.tup (k.map kV))) (hl : kvs.length < sizeLine) :
    DPut H a (.ref b) v (upd H a (.dT (putK kvs k v))) := .inr ⟨kvs, k, b, e, rfl, eb, hl, rfl⟩
section
variable {X : Cx} {pins : List (Addr × Obj)} {σ : St} {H : Hp} {s : Shared} {a : Addr} {y v : V} {u r : Value} {o : Option V} {A : Around} {E : Value → Shared → Prop}
end
section
variable {X : Cx} {pins : List (Addr × Obj)} {σ : St} {H : Hp} {s : Shared} {a : Addr} {kvs : List (Key × V)} {k : Key} {u : Value} {A : Around} {E : Value → Shared → Prop}
end
section
variable {X : Cx} {o i e value : Expr} {pos pos' tpos : Pos} {td ty tv : TE}
end
section
variable {X : Cx} {pos : Pos}
end
/-- a method call o.m(e) of a built-in, with one argument: what must be seen of the text -/
structure M1 (X : Cx) (o : Expr) (m : Str) (apos : Pos) (e : Expr) (cpos : Pos) : Prop where
  base : attributeBase o m X.env (eval o X.env) = eval o X.env
  few : ((backTo cpos (starEach [e] X.env)).all (fun x => !x.1) && (backToKw cpos (keywordEach [] X.env)).all (fun x => x.1.isSome)
    && decide (([e] : List Expr).length + ([] : List Keyword).length + (if ([] : List Keyword).isEmpty then 0 else 1) < 30)) = true
  line : (apos.endLine == cpos.line) = true
  trees : backTo cpos (starEach [e] X.env) = [(false, eval e X.env)]
structure M2 (X : Cx) (o : Expr) (m : Str) (apos : Pos) (e f : Expr) (cpos : Pos) : Prop where
  base : attributeBase o m X.env (eval o X.env) = eval o X.env
  few : ((backTo cpos (starEach [e, f] X.env)).all (fun x => !x.1) && (backToKw cpos (keywordEach [] X.env)).all (fun x => x.1.isSome)
    && decide (([e, f] : List Expr).length + ([] : List Keyword).length + (if ([] : List Keyword).isEmpty then 0 else 1) < 30)) = true
  line : (apos.endLine == cpos.line) = true
  trees : backTo cpos (starEach [e, f] X.env) = [(false, eval e X.env), (false, eval f X.env)]
section
variable {X : Cx} {pins : List (Addr × Obj)} {σ : St} {H : Hp} {s : Shared} {a : Addr} {y d : V} {u r : Value} {o : Option V} {A : Around} {E : Value → Shared → Prop}
end
section
variable {X : Cx} {o e f : Expr} {apos cpos : Pos} {td ty tx : TE}
end
section
variable {X : Cx} {pins : List (Addr × Obj)} {σ : St} {H : Hp} {s : Shared} {a : Addr} {kvs : List (Key × V)} {A : Around} {E : Value → Shared → Prop}
end
section
variable {X : Cx} {pins : List (Addr × Obj)} {σ : St} {H : Hp} {s : Shared} {a : Addr} {y : V} {u : Value} {A : Around} {E : Value → Shared → Prop}
end
end L2
namespace Att
open PySem PySem.W PySem.Calls PyProof.Rows
theorem ints_of_wellAll {P : Params} {h : Heap} : ∀ (ns : List Int) (vs : List Value), WellAll P h vs (ns.map WData.int) → IntsAre vs ns := by
  intro ns
  induction ns with
  | nil =>
    intro vs w
    rw [List.map_nil] at w
    cases w
    exact .nil
  | cons n ns ih =>
    intro vs w
    rw [List.map_cons] at w
    cases w with
    | cons a b =>
      cases a
      exact .cons _ _ (ih _ b)
theorem script_of {l : OpenLaw} {n : Nat} (hn : l.most = some n) {P : Params} {h : Heap} {args : List WData} {vals : List Value}
    (hpre : l.row.toRowW.claim.pre args = true) (hwl : WellAll P h vals args) :
    ∃ a vs ns, vals = [Value.ref a] ∧ args = [WData.list (ns.map WData.int)] ∧ h.get? a = some { cls := .type "list", data := .seq vs.toArray } ∧ IntsAre vs ns ∧ ns.length ≤ n := by
  have hsh : WShape.hasAll [] args [.list .int] = true := (pre_splitW hpre).1
  have hc : l.pre.holds [] { args := args } = true := (pre_splitW hpre).2
  obtain ⟨d, r, rfl, h1, h2⟩ := hasAllW_cons hsh
  obtain rfl := hasAllW_nil h2
  obtain ⟨xs, rfl, h3⟩ := hasW_list h1
  obtain ⟨ns, rfl⟩ := items_int h3
  have hlen : ns.length ≤ n := by
    unfold OpenLaw.pre at hc
    have h4 : (WTm.not (.lt (.lit (.int (n : Int))) (.len (.arg 0)))).holds [] { args := [.list (ns.map .int)] } = true := by
      have h4 := (holds_andW hc).1
      rw [hn] at h4
      exact h4
    have h5 := condW_of h4 (w_not (w_lt w_lit (w_len_list (w_arg rfl))))
    rw [List.length_map] at h5
    refine Nat.le_of_not_lt fun q => ?_
    have q' : (n : Int) < ((ns.length : Nat) : Int) := by omega
    first
      | (rw [decide_eq_true q'] at h5; exact absurd h5 (by decide))
      | (simp at h5; omega)
  cases hwl with
  | cons w1 w2 =>
    cases w2
    cases w1 with
    | list ho hall => exact ⟨_, _, ns, rfl, rfl, ho, ints_of_wellAll ns _ hall, hlen⟩
theorem post_true (l : OpenLaw) (args : List WData) : l.row.toRowW.claim.post args (.bool true) args = true :=
  postW_of (r := l.row.toRowW) (X := (true == true))
    (show WShape.has [] (.bool true) .bool = true by first | rfl | decide | simp [WShape.has, WShape.arms, WShape.armsAll])
    (show (WTm.eq .res (.lit (.bool true))).value [] { args := args, res := some (.bool true), after := args } = some (.bool (true == true)) from w_eq_bool (w_res rfl) w_lit) rfl
/-- the same from a codeAny of the CALL (for a layer whose function contracts speak of calls) -/
theorem attach_call {l : OpenLaw} {n : Nat} {q : Program} {loose : List Str} {XP : (Str → Option Value) → Heap → Prop} {YP : World → Heap → Prop} {d : DefRec}
    (hn : l.most = some n) (hdf : d.params.defaults = [])
    (call : ∀ (w : World) (s₀ s₁ : Shared) (mg mb : Str → Option Value) (fa : Addr) (o : Obj) (pm cd doc : Value) (a : Addr) (vs : List Value) (ns : List Int),
      Ground q loose [] XP w s₀ mg mb s₁.heap → YP w s₁.heap →
      s₁.heap.get? fa = some o → o.data = .func (docDef d.name d.params d.body d.scope pm cd doc) → s₁.heap.CodeRec cd d.name → mg d.name = some (.ref fa) →
      s₁.heap.get? a = some { cls := .type "list", data := .seq vs.toArray } → IntsAre vs ns → ns.length ≤ n → s₁.gens = #[] →
      codeAny (model l.prog w) callerA (.call (.ref fa) ⟨[.ref a], []⟩) (fun r s' => r = .ok (.ret (.bool true)) ∧ OldK s₁.heap s'.heap ∧ s'.os = s₁.os ∧ AllBare s'.gens) s₁) :
    WalkO q loose XP YP l.row.toRowW d [] (fun f vs => PySem.call f vs) := by
  intro w s₀ s₁ mg mb G Y fa o pm cd doc dV kV ho hd hcd hD hmg hg args vals as hpre hlay hrd hwl hlo
  obtain rfl : dV = .none := Dflts.none hD hdf
  obtain rfl : kV = .none := Dflts.noKw hD
  obtain ⟨a, vs, ns, rfl, rfl, hobj, hints, hlen⟩ := script_of hn hpre hwl
  refine enter_call (codeAny_mono (call w s₀ s₁ mg mb fa o pm cd doc a vs ns G Y ho (fd_plain hd) hcd hmg hobj hints hlen hg) fun r s' hq => ?_)
  obtain ⟨rfl, h2, h3, h4⟩ := hq
  exact ⟨.inl ⟨.bool true, .bool true, [], rfl, fun _ => rfl, .bool true, post_true l _, fun _ => ⟨List.Pairwise.nil, fun _ hm => (nomatch hm)⟩⟩, h2, h3, h4⟩
section
variable {prog : Program} {w : World} {A : Around} {E : Value → Shared → Prop} {s : Shared} {K : Frag}
end
end Att
namespace L2
open PySem PySem.Spec PyProof.Rows
theorem vals_ints : ∀ {vs : List Value} {ns : List Int}, IntsAre vs ns → Vals (ns.map V.int) vs
  | _, _, .nil => .nil
  | _, _, .cons n t h => .cons ⟨t, rfl⟩ (vals_ints h)
/-- nothing is tracked but the script, known to the object (or it is an object of the module) -/
def Only (H : Hp) : Prop := ∀ b, H b = none ∨ ∃ o xs, H b = some (.frz o (.lst xs))
/-- THE HEAD: the law's promise, at the heap behind the top. F, the promise of the law's def, may use that base is part of the heap (so K.In base, base.Ns mainGlobals mg stand in Mod) -/
theorem law_call {P : Program} {w : World} {K : PySem.W.Frag} {mg mb : Str → Option Value} {CX : CXT} {k : Nat} {fa a : Addr} {fd : FuncData} {x : Str} {sp : Sp} {s₁ : Shared} {vs : List Value} {ns : List Int}
    (KX : K.In s₁.heap) (hns : s₁.heap.Ns mainGlobals mg) (hb : s₁.heap.Ns builtinsNs mb) (hbb : ∀ x : Str, x ≠ "__name__" → mb x = bootBuiltins x) (hlim : s₁.heap.NoLimit) (hg : s₁.gens = #[])
    (ha : s₁.heap.get? a = some { cls := .type "list", data := .seq vs.toArray }) (hi : IntsAre vs ns) (hl : ns.length ≤ sizeLine) (hr : Room k callerA)
    (F : ∀ base : Heap, K.In base → base.Ns mainGlobals mg → FnOk P w K mg base CX k fa fd [x] sp) (hbind : ∀ (s : Shared) (u : Value), BindsTo s fd ⟨[u], []⟩ [(x, u)])
    (hsp : ∀ H : Hp, Only H → SqL K H a (ns.map V.int) → sp [.ref a] H (fun v _ => v = .bl true) fun _ _ _ => False)
    (hCX : ∀ H e s', CX [] H s₁ (fun _ _ _ => False) e s' → False) :
    codeAny (model P w) callerA (.call (.ref fa) ⟨[.ref a], []⟩) (fun r s' => r = .ok (.ret (.bool true)) ∧ OldK s₁.heap s'.heap ∧ s'.os = s₁.os ∧ AllBare s'.gens) s₁ := by
  have rv := vals_ints hi
  have lenV := hi.length
  -- from an abstract heap in which nothing but the script may be tracked
  have core : ∀ H : Hp, Only H → SqL K H a (ns.map V.int) → HOk P w H s₁.heap → (∀ b, H b ≠ none → b = a) → (H a ≠ none → K.lookup a = none) →
      codeAny (model P w) callerA (.call (.ref fa) ⟨[.ref a], []⟩) (fun r s' => r = .ok (.ret (.bool true)) ∧ OldK s₁.heap s'.heap ∧ s'.os = s₁.os ∧ AllBare s'.gens) s₁ := by
    intro H hO hS hok hA hK
    have base_of : ∀ {b : Addr} {o : Obj}, s₁.heap.get? b = some o → H b = none → (hidT s₁.heap H).get? b = some o := fun e n => hidT_get e n
    have noA : ∀ {b : Addr} {o : Obj} {es : Array DictEntry} {ep : Nat}, s₁.heap.get? b = some o → o.data = .dict es ep → H b = none := fun {b o es ep} e d => by
      cases q : H b with
      | none => rfl
      | some u =>
        have e' : b = a := hA b (by rw [q]; simp)
        subst e'
        rw [ha] at e; cases e
        have d' : Data.seq vs.toArray _ = Data.dict es ep := d
        cases d'
    have nsK : ∀ {b : Addr} {m : Str → Option Value}, s₁.heap.Ns b m → (hidT s₁.heap H).Ns b m := fun {b m} ⟨o, es, ep, e, d, r⟩ => ⟨o, es, ep, base_of e (noA e d), d, r⟩
    have hKb : K.In (hidT s₁.heap H) := fun b o e => base_of (KX b o e) (by
      cases q : H b with
      | none => rfl
      | some u =>
        have e' : b = a := hA b (by rw [q]; simp)
        subst e'
        rw [hK (by rw [q]; simp)] at e; cases e)
    have hM : Mod K mg (hidT s₁.heap H) := ⟨hKb, nsK hns, ⟨mb, nsK hb, hbb⟩, let ⟨mc, h1, h2⟩ := hlim; ⟨mc, nsK h1, h2⟩⟩
    have e0 : Env0 P w K mg (hidT s₁.heap H) callerA [] s₁ H := ⟨rfl, hM, fun b o e => of_hidT e, Nat.le_of_eq (hidT_size _ _), trivial, fun b hb => absurd (show b ∈ ([] : List Addr) from hb) (by simp), hok, .of_eq hg⟩
    refine codeAny_mono ((F _ hKb (nsK hns)).run callerA [] s₁ H ⟨[.ref a], []⟩ [.ref a] [.ref a] _ _ hr e0 (hbind s₁ (.ref a)) (.cons rfl .nil) (hsp H hO hS)) fun r s' h => ?_
    cases r with
    | error e => exact (hCX H e s' h).elim
    | ok fl =>
      cases fl with
      | next => exact False.elim h
      | brk => exact False.elim h
      | cont => exact False.elim h
      | ret u =>
        obtain ⟨v, H', os, bare, un, hok', r', q⟩ := h
        have q' : v = .bl true := q
        subst q'
        obtain rfl : u = Value.bool true := r'
        refine ⟨rfl, OldK.of_keep fun b o e => ?_, os, bare⟩
        cases q : H b with
        | none => exact un.keep b o e q (by intro z; exact absurd (show b ∈ ([] : List Addr) from z) (by simp)) (by simp)
        | some u =>
          rcases hO b with z | ⟨ob, xs, z⟩
          · rw [q] at z; cases z
          · have z2 := un.frzs b ob _ z
            obtain ⟨e1, _⟩ := hok b _ z
            obtain ⟨e2, _⟩ := hok' b _ z2
            rw [e] at e1; cases e1
            exact e2
  cases hk : K.lookup a with
  | some o =>
    -- the script is one of the module's own objects
    have e := KX a o hk
    rw [ha] at e
    cases e
    refine core (fun _ => none) (fun _ => .inl rfl) (.inr ⟨_, vs.toArray, _, hk, rfl, rfl, rfl, by rw [List.size_toArray, lenV]; exact hl, by simpa using rv⟩) (fun b u z => by have z' : (none : Option HO) = some u := z; cases z') (fun b z => absurd rfl z) fun z => absurd rfl z
  | none =>
    refine core (fun b => if b = a then some (.frz { cls := .type "list", data := .seq vs.toArray } (.lst (ns.map V.int))) else none) (fun b => ?_) (.inl (.inr ⟨{ cls := .type "list", data := .seq vs.toArray }, if_pos rfl⟩)) (fun b u z => ?_) (fun b z => ?_) fun _ => hk
    · by_cases hb : b = a
      · exact .inr ⟨_, _, if_pos hb⟩
      · exact .inl (if_neg hb)
    · by_cases hb : b = a
      · have z' := (if_pos hb).symm.trans z
        cases z'
        subst hb
        exact ⟨ha, by rw [List.length_map]; exact hl, vs, _, rv, ha⟩
      · have z' := (if_neg hb).symm.trans z
        cases z'
    · by_cases hb : b = a
      · exact hb
      · exact absurd (if_neg hb) z
end L2
namespace L2
open PySem PySem.Spec PyProof.Rows
abbrev KOf {K : PySem.W.Frag} {h : Heap} (_ : K.In h) : PySem.W.Frag := K
/-- the goal that k_head leaves (case hc), from the law's promise. F gives the function object fd (K's own) once, then the promise over every base -/
theorem walk_of {l : PySem.W.OpenLaw} {n k : Nat} {q : Program} {loose : List Str} {XP : (Str → Option Value) → Heap → Prop} {YP : World → Heap → Prop} {d : DefRec} {K : Params → PySem.W.Frag} {CX : World → CXT} {sp : World → Sp} {x : Str}
    (hn : l.most = some n) (hn2 : n ≤ sizeLine) (hdf : d.params.defaults = []) (hr : Room k callerA)
    (hY : ∀ (w : World) (h : Heap), YP w h → (K w.params).In h)
    (F : ∀ (w : World) (mg : Str → Option Value) (fa : Addr) (h : Heap), (K w.params).In h → h.Ns mainGlobals mg → mg d.name = some (.ref fa) →
      ∃ fd : FuncData, (∀ (s : Shared) (u : Value), BindsTo s fd ⟨[u], []⟩ [(x, u)]) ∧
        ∀ base : Heap, (K w.params).In base → base.Ns mainGlobals mg → FnOk l.prog w (K w.params) mg base (CX w) k fa fd [x] (sp w))
    (hsp : ∀ (w : World) (H : Hp) (a : Addr) (ns : List Int), ns.length ≤ n → Only H → SqL (K w.params) H a (ns.map V.int) → sp w [.ref a] H (fun v _ => v = .bl true) fun _ _ _ => False)
    (hCX : ∀ (w : World) (H : Hp) (s : Shared) (e : Value) (s' : Shared), CX w [] H s (fun _ _ _ => False) e s' → False) :
    PySem.W.WalkO q loose XP YP l.row.toRowW d [] (fun f vs => PySem.call f vs) := by
  refine Att.attach_call hn hdf fun w s₀ s₁ mg mb fa o pm cd doc a vs ns G Y ho hd hcd hmg hobj hints hlen hg => ?_
  have KX := hY w _ Y
  obtain ⟨fd, hb, hF⟩ := F w mg fa _ KX G.T.g hmg
  exact law_call KX G.T.g G.T.b G.T.builtins G.T.nolimit hg hobj hints (Nat.le_trans hlen hn2) hr hF hb (fun H hO hS => hsp w H a ns hlen hO hS) fun H e s' => hCX w H s₁ e s'
/-- the same where the promise hangs on the written part alone: (sp := My.sp_law), no hole under a binder -/
theorem walk_ofK {l : PySem.W.OpenLaw} {n k : Nat} {q : Program} {loose : List Str} {XP : (Str → Option Value) → Heap → Prop} {YP : World → Heap → Prop} {d : DefRec} {K : Params → PySem.W.Frag} {CX : CXT} {sp : PySem.W.Frag → Sp} {x : Str}
    (hn : l.most = some n) (hn2 : n ≤ sizeLine) (hdf : d.params.defaults = []) (hr : Room k callerA)
    (hY : ∀ (w : World) (h : Heap), YP w h → (K w.params).In h)
    (F : ∀ (w : World) (mg : Str → Option Value) (fa : Addr) (h : Heap), (K w.params).In h → h.Ns mainGlobals mg → mg d.name = some (.ref fa) →
      ∃ fd : FuncData, (∀ (s : Shared) (u : Value), BindsTo s fd ⟨[u], []⟩ [(x, u)]) ∧
        ∀ base : Heap, (K w.params).In base → base.Ns mainGlobals mg → FnOk l.prog w (K w.params) mg base CX k fa fd [x] (sp (K w.params)))
    (hsp : ∀ (K : PySem.W.Frag) (H : Hp) (a : Addr) (ns : List Int), ns.length ≤ n → Only H → SqL K H a (ns.map V.int) → sp K [.ref a] H (fun v _ => v = .bl true) fun _ _ _ => False)
    (hCX : ∀ (H : Hp) (s : Shared) (e : Value) (s' : Shared), CX [] H s (fun _ _ _ => False) e s' → False) :
    PySem.W.WalkO q loose XP YP l.row.toRowW d [] (fun f vs => PySem.call f vs) :=
  walk_of (K := K) (CX := fun _ => CX) (sp := fun w => sp (K w.params)) hn hn2 hdf hr hY F (fun w H a ns h1 h2 h3 => hsp (K w.params) H a ns h1 h2 h3) fun _ H s e s' => hCX H s e s'
end L2
namespace L2
open PySem PySem.Spec PyProof.Rows
def defArgs (s : Stmt) : Arguments := match s with
  | .FunctionDef _ a _ _ _ _ _ _ _ _ => a
  | _ => { posonlyargs := [], args := [], vararg := none, kwonlyargs := [], kw_defaults := [], kwarg := none, defaults := [] }
def defBody (s : Stmt) : List Stmt := match s with
  | .FunctionDef _ _ b _ _ _ _ _ _ _ => b
  | _ => []
def defScope (s : Stmt) : Scope := match s with
  | .FunctionDef _ _ _ _ _ _ sc _ _ _ => sc
  | _ => { kind := .function, names := [], isGenerator := false, isCoroutine := false }
abbrev CX0 : CXT := fun _ _ _ _ _ _ => False
abbrev E0 : XK := fun _ _ _ => False
theorem pass0 {X : Cx} : Passes CX0 X E0 := fun _ _ _ _ _ _ _ h => h.elim
structure Fun (K : PySem.W.Frag) (x qual : Str) (st : Stmt) (f : Addr) (fd : FuncData) : Prop where
  ex : ∃ (oc : Value) (od : Option Addr) (kV doc pm : Value) (an : Option Addr) (cdv ct : Value) (osl : Array (Option Value)),
    fd = PySem.W.fnOf x qual (defArgs st) (defBody st) (defScope st) .none kV doc pm an cdv ct ∧ K.lookup f = some ⟨oc, od, .func fd, osl⟩ ∧ PySem.W.codeIn K cdv qual = true
  kp : PySem.W.keepIn K (.ref f) = true
section
variable {P : Program} {w : World} {K : PySem.W.Frag} {mg : Str → Option Value} {base : Heap}
/-- THE RULE for a def: its body as a term of rules, and the reading of that term -/
theorem Fun.ok {x qual : Str} {st : Stmt} {f : Addr} {fd : FuncData} {N ps : List Str} {k : Nat} {sp : Sp} (F : Fun K x qual st f fd) (S : FnScope N ps (defScope st)) (len : ∀ vs H Q E, sp vs H Q E → vs.length = ps.length)
    (hbody : ∀ (cdv : Value) (A : Around) (outer : List Env) (s : Shared) (H : Hp) (vs : List V) (Q : VK) (E : XK), Room k (A.deeper (envOfC qual (defScope st) s.heap.objs.size f cdv)) → sp vs H Q E →
      ∃ t, PSs (cxOf CX0 P w K mg base N qual (defScope st) f cdv A outer s H E).nox (defBody st) t ∧ t { nx := fun _ H' => Q .non H', rt := Q } (start N vs) H) : FnOk P w K mg base CX0 (k + 1) f fd ps sp := by
  obtain ⟨oc, od, kV, doc, pm, an, cdv, ct, osl, rfl, lk, hcd⟩ := F.ex
  refine fn_of lk hcd S len fun A outer s H vs Q E hr hsp => ?_
  obtain ⟨t, h, q⟩ := hbody cdv A outer s H vs Q E hr hsp
  exact ⟨t, h.nox, q⟩
/-- how its arguments bind (no defaults): h is «fun _ _ _ _ _ _ us hl => match us, hl with | [_, _], _ => rfl», one _ a parameter -/
theorem Fun.binds {x qual : Str} {st : Stmt} {f : Addr} {fd : FuncData} {ps : List Str} (F : Fun K x qual st f fd)
    (h : ∀ (kV doc pm : Value) (an : Option Addr) (cdv ct : Value) (us : List Value), us.length = ps.length → bindArgs (PySem.W.fnOf x qual (defArgs st) (defBody st) (defScope st) .none kV doc pm an cdv ct) ⟨us, []⟩ = pure (ps.zip us)) : Binds K fd ps [] := by
  obtain ⟨oc, od, kV, doc, pm, an, cdv, ct, osl, rfl, lk, hcd⟩ := F.ex
  exact .all (h kV doc pm an cdv ct)
theorem fun_mk {x qual : Str} {st : Stmt} {f : Addr} {oc : Value} {od an : Option Addr} {osl : Array (Option Value)} {kV doc pm cdv ct : Value} (l : K.lookup f = some ⟨oc, od, .func (PySem.W.fnOf x qual (defArgs st) (defBody st) (defScope st) .none kV doc pm an cdv ct), osl⟩)
    (c : PySem.W.codeIn K cdv qual = true) (k : PySem.W.keepIn K (.ref f) = true) : Fun K x qual st f (PySem.W.fnOf x qual (defArgs st) (defBody st) (defScope st) .none kV doc pm an cdv ct) := ⟨⟨oc, od, kV, doc, pm, an, cdv, ct, osl, rfl, l, c⟩, k⟩
end
theorem small1000 {n : Nat} (h : n ≤ 1000) : n < sizeLine := Nat.lt_of_le_of_lt h (by decide)
section
variable {X : Cx}
theorem pv (i : Nat) {x : Str} {pos : Pos} (hN : X.N[i]? = some x := by rfl) (hv : Vis X.env.scope x := by first | exact Or.inl rfl | exact Or.inr (Or.inl rfl) | exact Or.inr (Or.inr rfl)) (hd : (x == ("__debug__" : Str)) = false := by decide)
    (hcd : (x == ("__classdict__" : Str)) = false := by decide) : PE X (.Name x pos) (tVar i) := pe_var hN hv hd hcd
end
theorem iteF {A B : Prop} (h : B) : if false = true then A else B := by
  rw [if_neg Bool.false_ne_true]
  exact h
theorem iteT {A B : Prop} (h : A) : if true = true then A else B := by
  rw [if_pos rfl]
  exact h
/-- all that was tracked is as it was -/
def Same (H H' : Hp) : Prop := ∀ b o, H b = some o → H' b = some o
theorem Same.refl (H : Hp) : Same H H := fun _ _ h => h
theorem Same.trans {H H1 H2 : Hp} (a : Same H H1) (b : Same H1 H2) : Same H H2 := fun c o h => b c o (a c o h)
theorem Same.free {H H' : Hp} (e : Same H H') {l : Addr} (h : H' l = Option.none) : H l = Option.none := by
  cases q : H l with
  | none => rfl
  | some o =>
    rw [e l o q] at h
    cases h
theorem Same.seq {K : PySem.W.Frag} {H H' : Hp} {a : Addr} {xs : List V} (e : Same H H') (h : SqL K H a xs) : SqL K H' a xs := by
  rcases h with (h | ⟨o, h⟩) | h
  · exact .inl (.inl (e _ _ h))
  · exact .inl (.inr ⟨o, e _ _ h⟩)
  · exact .inr h
section
variable {κ : Type} [DecidableEq κ]
end
end L2
set_option Elab.async false
set_option linter.all false
set_option maxRecDepth 100000
set_option maxHeartbeats 4000000
namespace L2
open PySem PySem.Spec PyProof.Rows
section
variable {X : Cx}
def sLt (i j : Str) : Bool := decide (i.cps.toList < j.cps.toList)
def rS2 (g : Str → Str → Bool) : R2 := fun x y H Q => ∃ i j, x = .str i ∧ y = .str j ∧ Q (.bl (g i j)) H
theorem op_gt_str : OpR X (compareOp .Gt) (rS2 fun i j => sLt j i) := by
  intro pins s σ H x y v u Q I rx ry h
  obtain ⟨i, j, rfl, rfl, q⟩ := h
  obtain ⟨t, rfl⟩ := rx
  obtain ⟨t', rfl⟩ := ry
  exact P.gt_str (fin_bl I q rfl)
/-- // by a written number, however large -/
def CDivL (_ j : Int) : Prop := 0 < j ∧ j.natAbs.log2 < 9000
theorem op_fdivL : OpR X (binaryOp .FloorDiv) (rI CDivL fun i j => .int (i / j)) := opI fun i j _ _ _ _ _ hc q => by
  have hj : j ≠ 0 := by have := hc.1; omega
  exact floordiv_int hj (by rw [Int.fdiv_eq_ediv_of_nonneg _ (by have := hc.1; omega)]; exact q) (.inl (PyProof.noPylong_of_log2 hc.2))
end
section
variable {X : Cx} {tg : Expr}
end
end L2
set_option Elab.async false
set_option linter.all false
set_option maxRecDepth 100000
set_option maxHeartbeats 4000000
namespace L2
open PySem PySem.Spec PyProof.Rows
/-- the cells that a comprehension's block sees -/
def clOf (cells : List (Str × Addr)) (names : List (Str × NameKind)) : List (Str × Addr) :=
  names.foldl (fun cs p => if p.2 == .free then match cells.lookup p.1 with | some a => (p.1, a) :: cs | none => cs else cs) []
theorem clOf_sub (cells : List (Str × Addr)) : ∀ (names : List (Str × NameKind)) (cs : List (Str × Addr)), (∀ x c, cs.lookup x = some c → cells.lookup x = some c) →
    ∀ x c, (names.foldl (fun cs p => if p.2 == .free then match cells.lookup p.1 with | some a => (p.1, a) :: cs | none => cs else cs) cs).lookup x = some c → cells.lookup x = some c
  | [], cs, h => h
  | (n, k) :: r, cs, h => by
    rw [List.foldl_cons]
    refine clOf_sub cells r _ fun x c e => ?_
    dsimp only at e
    split at e
    · split at e
      · rename_i a ha
        rw [List.lookup_cons] at e
        split at e
        · rename_i hx
          have := LawfulBEq.eq_of_beq hx
          cases e
          rw [this]
          exact ha
        · exact h x c e
      · exact h x c e
    · exact h x c e
theorem clOf_keep (cells : List (Str × Addr)) : ∀ (names : List (Str × NameKind)) (cs : List (Str × Addr)) (x : Str) (c : Addr), (∀ y c, cs.lookup y = some c → cells.lookup y = some c) → cs.lookup x = some c →
    (names.foldl (fun cs p => if p.2 == .free then match cells.lookup p.1 with | some a => (p.1, a) :: cs | none => cs else cs) cs).lookup x = some c
  | [], cs, x, c, _, h => h
  | (n, k) :: r, cs, x, c, hs, h => by
    rw [List.foldl_cons]
    have hs' : ∀ y c, (if (k == NameKind.free) = true then match cells.lookup n with | some a => (n, a) :: cs | none => cs else cs).lookup y = some c → cells.lookup y = some c := by
      intro y c e
      split at e
      · split at e
        · rename_i a ha
          rw [List.lookup_cons] at e
          split at e
          · rename_i hx
            have := LawfulBEq.eq_of_beq hx
            cases e
            rw [this]
            exact ha
          · exact hs y c e
        · exact hs y c e
      · exact hs y c e
    refine clOf_keep cells r _ x c hs' ?_
    dsimp only
    split
    · split
      · rename_i a ha
        rw [List.lookup_cons]
        split
        · rename_i hx
          have := LawfulBEq.eq_of_beq hx
          rw [this] at h
          have := hs _ _ h
          rw [ha] at this
          exact this
        · exact h
      · exact h
    · exact h
theorem clOf_has (cells : List (Str × Addr)) : ∀ (names : List (Str × NameKind)) (cs : List (Str × Addr)) (x : Str) (c : Addr), (∀ y c, cs.lookup y = some c → cells.lookup y = some c) → (x, NameKind.free) ∈ names → cells.lookup x = some c →
    (names.foldl (fun cs p => if p.2 == .free then match cells.lookup p.1 with | some a => (p.1, a) :: cs | none => cs else cs) cs).lookup x = some c
  | [], cs, x, c, _, h, _ => nomatch h
  | (n, k) :: r, cs, x, c, hs, h, hc => by
    rw [List.foldl_cons]
    have hs' : ∀ y c, (if (k == NameKind.free) = true then match cells.lookup n with | some a => (n, a) :: cs | none => cs else cs).lookup y = some c → cells.lookup y = some c := by
      intro y c e
      split at e
      · split at e
        · rename_i a ha
          rw [List.lookup_cons] at e
          split at e
          · rename_i hx
            have := LawfulBEq.eq_of_beq hx
            cases e
            rw [this]
            exact ha
          · exact hs y c e
        · exact hs y c e
      · exact hs y c e
    rcases List.mem_cons.mp h with e | h
    · cases e
      refine clOf_keep cells r _ _ c hs' ?_
      dsimp only
      rw [if_pos (show (NameKind.free == NameKind.free) = true by decide), hc]
      simp [List.lookup_cons]
    · exact clOf_has cells r _ x c hs' h hc
theorem closureFor_cl {scope : Scope} {env : Env} (h : ∀ x ∈ scope.names, x.2 = .free → ∃ c, env.cells.lookup x.1 = some c) : closureFor scope env = pure (clOf env.cells scope.names) := by
  have go : ∀ (names : List (Str × NameKind)) (cs : List (Str × Addr)), (∀ x ∈ names, x.2 = .free → ∃ c, env.cells.lookup x.1 = some c) →
      (forIn names cs fun x r => match x with | (name, kind) => if (kind == NameKind.free) = true then do let a ← cellOf env name; pure (ForInStep.yield ((name, a) :: r)) else pure (ForInStep.yield r) : Sem (List (Str × Addr))) =
        pure (names.foldl (fun cs p => if p.2 == .free then match env.cells.lookup p.1 with | some a => (p.1, a) :: cs | none => cs else cs) cs) := by
    intro names
    induction names with
    | nil => intro cs _; rfl
    | cons p r ih =>
      intro cs hp
      obtain ⟨n, k⟩ := p
      rw [List.forIn_cons, List.foldl_cons]
      by_cases hk : k = .free
      · subst hk
        obtain ⟨c, hc⟩ := hp _ List.mem_cons_self rfl
        have hc : env.cells.lookup n = some c := hc
        have e1 : cellOf env n = pure c := by unfold cellOf; rw [hc]
        have ef : (NameKind.free == NameKind.free) = true := by decide
        dsimp only
        rw [if_pos ef, if_pos ef, e1, hc]
        exact ih _ fun x hx => hp x (List.mem_cons_of_mem _ hx)
      · have hk' : (k == NameKind.free) = false := by simpa using hk
        dsimp only
        rw [hk', if_neg Bool.false_ne_true, if_neg Bool.false_ne_true]
        exact ih _ fun x hx => hp x (List.mem_cons_of_mem _ hx)
  have e := go scope.names [] h
  have e2 : closureFor scope env = (forIn scope.names [] (fun x r => match x with | (name, kind) => if (kind == NameKind.free) = true then do let a ← cellOf env name; pure (ForInStep.yield ((name, a) :: r)) else pure (ForInStep.yield r)) : Sem (List (Str × Addr))) >>= fun cs => pure cs := rfl
  rw [e2, e]
  rfl
theorem lookup_relabel {env : Env} {names : List (Str × NameKind)} {x : Str} :
    (names.map fun (n, k) => if (k == NameKind.free && env.scope.kind == .function && env.kindOf n == some .cell) then (n, NameKind.cell) else (n, k)).lookup x =
      (names.lookup x).map fun k => if (k == NameKind.free && env.scope.kind == .function && env.kindOf x == some .cell) then NameKind.cell else k := by
  induction names with
  | nil => rfl
  | cons p r ih =>
    obtain ⟨n, k⟩ := p
    rw [List.map_cons, List.lookup_cons]
    by_cases hc : (k == NameKind.free && env.scope.kind == .function && env.kindOf n == some .cell) = true
    · dsimp only
      rw [if_pos hc, List.lookup_cons]
      cases hx : x == n with
      | true =>
        have := LawfulBEq.eq_of_beq hx
        subst this
        dsimp only [Option.map]
        rw [if_pos hc]
      | false => exact ih
    · dsimp only
      rw [if_neg hc, List.lookup_cons]
      cases hx : x == n with
      | true =>
        have := LawfulBEq.eq_of_beq hx
        subst this
        dsimp only [Option.map]
        rw [if_neg hc]
      | false => exact ih
/-- the context of a comprehension's block -/
def cxC (X : Cx) (N : List Str) (scope : Scope) (C : Addr) (s : Shared) (H : Hp) (ex : List Addr) (pn : List (Addr × Obj)) : Cx :=
  { X with N := N, s₀ := s, H₀ := H, env := compEnvC scope (clOf X.env.cells scope.names) C X.env, outer := X.stack, ex := ex, fn := fun _ => false, pn := pn, xe := fun _ _ => False }
/-- the block's names at its start: the free ones as they are outside -/
def pick (σ : St) (src : List (Option Nat)) : St := src.map fun o => match o with | some j => (σ[j]?).join | none => none
structure CompScope (X : Cx) (N : List Str) (src : List (Option Nat)) (scope : Scope) : Prop where
  kind : scope.kind = .function
  nocell : ∀ y ∈ scope.names, y.2 ≠ .cell
  loc : ∀ y ∈ scope.names, y.2 = .local → scope.names.lookup y.1 = some .local
  fre : ∀ y ∈ scope.names, y.2 = .free → X.env.kindOf y.1 = some .cell ∨ X.env.kindOf y.1 = some .free
  len : src.length = N.length
  src : ∀ (i j : Nat) (x : Str), src[i]? = some (some j) → N[i]? = some x → X.N[j]? = some x ∧ scope.names.lookup x = some .free ∧ Vis X.env.scope x
def Ext (σ σ' : St) : Prop := σ'.length = σ.length ∧ ∀ (j : Nat) v, σ[j]? = some (some v) → σ'[j]? = some (some v)
/-- a target that leaves the free names as they are -/
def GExt (g : TG) (src : List (Option Nat)) : Prop := ∀ x σ H Q, g x (pick σ src) H Q → g x (pick σ src) H fun σ' H' => Ext (pick σ src) σ' ∧ Q σ' H'
def tComp (wi : TI) (src : List (Option Nat)) (g : TG) (tc : TT) (te : TE) : TE := fun σ H Q => wi σ H fun J H1 =>
  ∃ W : Nat → Nat → List V → Hp → Prop, (∃ m, W 0 m [] H1) ∧ ∀ i m out H', W i m out H' →
    (J.stop i H' ∧ ∀ D, H' D = none → Q (.ref D) (upd H' D (.lst out))) ∨
    (J.go i H' ∧ out.length < sizeLine ∧ ∀ x H2, J.yld i H' x H2 → g x (pick σ src) H2 fun σ3 H3 => tc σ3 H3 fun b H4 =>
      if b = true then te σ3 H4 fun v H5 => ∃ m', m' < m ∧ W (i + 1) m' (out ++ [v]) H5 else ∃ m', m' < m ∧ W (i + 1) m' out H4)
section
variable {X : Cx} {N : List Str} {src : List (Option Nat)} {scope : Scope} {tg iter elt : Expr} {ifs : List Expr} {pos : Pos} {wi : TI} {g : TG} {tc : TT} {te : TE}
/-- the tests of a clause -/
def PIf (X : Cx) (ifs : List Expr) (t : TT) : Prop :=
  ∀ (pins : List (Addr × Obj)) (s : Shared) (σ : St) (H : Hp) (Q : Bool → Hp → Prop), Inv X pins σ H s → t σ H Q →
    wpAny (model X.prog X.w) X.A (forIn ifs true fun c r => if r = true then do let ok ← isTrue c X.env (eval c X.env); pure (ForInStep.yield ok) else pure (ForInStep.yield r)) (TP X pins σ Q) X.xe s
def tTrue : TT := fun _ H Q => Q true H
theorem pif_nil : PIf X [] tTrue := fun pins s σ H Q I h => wpAny_tests_nil ⟨H, I, h⟩
theorem codeAny_compLoop_go {prog : Program} {w : World} {A : Around} {R : Result → Shared → Prop} {s : Shared} {elt target iter : Expr} {ifs : List Expr} {scope : Scope} {pos : Pos} {it acc : Value} {env : Env} {EE : Value → Shared → Prop} (hEE : ∀ x s', EE x s' → notedBy (model prog w) A env (fun e s' => R (.error e) s') x s') (I : Nat → Shared → Prop)
    (turn : ∀ n s, I n s → wpAny (model prog w) A (pyNext it) (fun r s₁ => match r with
      | none => R (.ok .next) s₁
      | some v => wpAny (model prog w) A (letOwnedTupleGo target it v) (fun _ s₁' => wpAny (model prog w) A (assign target env v) (fun _ s₂ =>
          wpAny (model prog w) A (forIn ifs true fun c r => if r = true then do let ok ← isTrue c env (eval c env); pure (ForInStep.yield ok) else pure (ForInStep.yield r)) (fun ok s₃ =>
            if ok = true then wpAny (model prog w) A (eval elt env) (fun x s₄ =>
              wpAny (model prog w) A (call (.builtin "list.append") [acc, x]) (fun _ s₅ => ∃ m, m < n ∧ I m s₅) EE s₄) EE s₃
            else ∃ m, m < n ∧ I m s₃) EE s₂) EE s₁') EE s₁) EE s)
    (n : Nat) (h : I n s) :
    codeAny (model prog w) A (.compLoop (.ListComp elt [⟨target, iter, ifs, 0⟩] scope pos) 0 it acc env) R s := by
  refine codeAny_loop rfl I (fun n s hI => ?_) n h
  show wpAny _ A ((compTurn (.ListComp elt [⟨target, iter, ifs, 0⟩] scope pos) 0 it acc env).onRaise (fun x => do noteFrame x env; theTreesLotGoes x)) _ _ s
  refine wpAny_noted ?_
  rw [compTurn_list]
  refine wpAny_bind (wpAny_standAt (wpAny_bind (wpAny_mono (turn n s hI) (fun r s₁ h₁ => ?_) hEE)))
  cases r with
  | none => exact wpAny_pure h₁
  | some v =>
    refine wpAny_bind (wpAny_mono h₁ (fun _ s₁' h₁' => ?_) hEE)
    refine wpAny_bind (wpAny_mono h₁' (fun _ s₂ h₂ => wpAny_bind (wpAny_mono h₂ (fun ok s₃ h₃ => ?_) hEE)) hEE)
    cases ok with
    | false => exact wpAny_pure ⟨rfl, h₃⟩
    | true =>
      exact wpAny_bind (wpAny_bind (wpAny_mono h₃ (fun x s₄ h₄ => wpAny_bind (wpAny_mono h₄ (fun _ s₅ h₅ => wpAny_pure (wpAny_pure ⟨rfl, h₅⟩)) hEE)) hEE))
/-- what stands when the block is through -/
def CompEnd (X : Cx) (pins : List (Addr × Obj)) (σ : St) (Q : VK) (D C : Addr) (s' : Shared) : Prop :=
  ∃ H' m, Inv X pins σ H' s' ∧ Q (.ref D) H' ∧ s'.heap.Ns C m ∧ H' C = none ∧ C ≠ X.env.locals ∧ X.s₀.heap.objs.size ≤ C ∧ (∀ x c, X.env.cells.lookup x = some c → c ≠ C) ∧ (∀ p ∈ X.pn ++ pins, p.1 ≠ C)
theorem comp_core {pins : List (Addr × Obj)} {s₂ : Shared} {σ : St} {H₂ : Hp} {Q : VK} {it : Addr} {fp : List Addr} {tn : Nat → Heap → Prop} {J : It} {E : Value → Shared → Prop} (S : CompScope X N src scope) (hc : X.calm = true)
    (hg : ∀ C s H ex pn, PG (cxC X N scope C s H ex pn) tg g) (hx : GExt g src) (hi : ∀ C s H ex pn, PIf (cxC X N scope C s H ex pn) ifs tc) (he : ∀ C s H ex pn, PE (cxC X N scope C s H ex pn) elt te)
    (I : Inv X pins σ H₂ s₂) (T : Turn X.prog X.w X.K tg J fp it tn) (st : tn 0 s₂.heap) (ff : ∀ b ∈ fp, FpOk X pins H₂ b)
    (W : Nat → Nat → List V → Hp → Prop) (w0 : ∃ m, W 0 m [] H₂)
    (turn : ∀ i m out H', W i m out H' → (J.stop i H' ∧ ∀ D, H' D = none → Q (.ref D) (upd H' D (.lst out))) ∨
      (J.go i H' ∧ out.length < sizeLine ∧ ∀ x H2, J.yld i H' x H2 → g x (pick σ src) H2 fun σ3 H3 => tc σ3 H3 fun b H4 =>
        if b = true then te σ3 H4 fun v H5 => ∃ m', m' < m ∧ W (i + 1) m' (out ++ [v]) H5 else ∃ m', m' < m ∧ W (i + 1) m' out H4))
    {RR : Value → Addr → Result → Shared → Prop} (hRR : ∀ D C s', CompEnd X pins σ Q D C s' → RR (.ref D) C (.ok .next) s') :
    wpAny (model X.prog X.w) X.A (newList []) (fun acc s₃ => wpAny (model X.prog X.w) X.A (newFunctionEnv scope X.env.globals (clOf X.env.cells scope.names) [] X.env.qual none .none (some X.env)) (fun cenv s₄ =>
      codeAny (model X.prog X.w) X.A (.compStart (.ListComp elt [⟨tg, iter, ifs, 0⟩] scope pos) 0 (.ref it) acc { cenv with scope := relabel scope X.env }) (RR acc cenv.locals) s₄) E s₃) E s₂ := by
  refine wpAny_newObj_type (wpAny_newFunctionEnv S.nocell (by intro y hy; simp at hy) (fun h₁ hns₁ hsb₁ => ?_) S.kind)
  dsimp only at hns₁ hsb₁ ⊢
  generalize hH2 : s₂.heap.push { cls := .type "list", dict := none, data := .seq ([] : List Value).toArray } = G2 at hns₁ hsb₁ ⊢
  have hC : G2.objs.size = s₂.heap.objs.size + 1 := by rw [← hH2, Heap.size_push]
  have hDC : s₂.heap.objs.size ≠ G2.objs.size := by rw [hC]; exact Nat.ne_of_lt (Nat.lt_succ_self _)
  have hCle : s₂.heap.objs.size ≤ G2.objs.size := by rw [hC]; exact Nat.le_succ _
  have old : ∀ b o, s₂.heap.get? b = some o → h₁.get? b = some o := fun b o e =>
    hsb₁.extBut b o (Nat.ne_of_lt (Nat.lt_of_lt_of_le (Heap.lt_size e) hCle)) (Heap.get?_push_of_some _ (hH2 ▸ Heap.get?_push_of_some _ e))
  have hacc : h₁.get? s₂.heap.objs.size = some { cls := .type "list", dict := none, data := .seq ([] : List Value).toArray } := hsb₁.extBut _ _ hDC (Heap.get?_push_of_some _ (hH2 ▸ Heap.get?_push_size _ rfl))
  generalize hCC : G2.objs.size = C at hC hDC hCle hns₁ hsb₁ ⊢
  have hCle' : s₂.heap.objs.size ≤ C := hCle
  generalize hD : s₂.heap.objs.size = D at hC hDC hCle hacc ⊢
  have clsub : ∀ x c, (clOf X.env.cells scope.names).lookup x = some c → X.env.cells.lookup x = some c := clOf_sub X.env.cells scope.names [] (by intro x c h; simp at h)
  have cellLt : ∀ x c, X.env.cells.lookup x = some c → c < s₂.heap.objs.size := fun x c e => by obtain ⟨v, q⟩ := I.cell x c e; exact q.lt
  have ffne : ∀ b ∈ fp, b < s₂.heap.objs.size := fun b hb => by
    obtain ⟨o, e, _⟩ := T.obj _ _ st b hb
    exact Heap.lt_size e
  -- the block's context
  have ok : (cxC X N scope C s₂ H₂ fp (X.pn ++ pins)).Ok := by
    refine ⟨I.ok.mod, S.kind, I.ok.glob, I.ok.blt, hCle', fun x y c h1 h2 => I.ok.inj x y c (clsub _ _ h1) (clsub _ _ h2), fun x hk => ?_, fun x c h => (nomatch h), I.ok.hd, I.ok.frames, .inl rfl, fun b hb => ⟨?_, fun x c h => ?_⟩,
      I.bs, Nat.le_trans I.ok.bsz I.sz, fun b o e hb => ?_, fun b hb hf => ?_, I.stack, I.stkFree⟩
    · -- cells for the names
      have hk : (relabel scope X.env).names.lookup x = some .cell ∨ (relabel scope X.env).names.lookup x = some .free := hk
      unfold relabel at hk
      dsimp only at hk
      rw [lookup_relabel] at hk
      cases hl : scope.names.lookup x with
      | none => rw [hl] at hk; rcases hk with z | z <;> cases z
      | some k =>
        rw [hl] at hk
        have hm := PySem.mem_of_lookup hl
        have hkf : k = .free := by
          by_cases hkf : k = .free
          · exact hkf
          · exfalso
            have e1 : (k == NameKind.free) = false := by simpa using hkf
            simp only [Option.map, e1, Bool.false_and, Bool.false_eq_true, if_false] at hk
            rcases hk with z | z
            · exact S.nocell _ hm (Option.some.inj z)
            · exact hkf (Option.some.inj z)
        subst hkf
        obtain ⟨c, hcx⟩ := I.ok.has x (S.fre _ hm rfl)
        exact ⟨c, clOf_has X.env.cells scope.names [] x c (by intro x c h; simp at h) hm hcx⟩
    · exact Nat.ne_of_lt (Nat.lt_of_lt_of_le (ffne b hb) hCle')
    · exact (ff b hb).2.2.2.2.1 x c (clsub _ _ h)
    · have q : b ∈ X.ex ∨ X.s₀.heap.objs.size ≤ b := (ff b hb).2.2.2.1
      rcases q with q | q
      · exact I.ok.noex b o e q
      · exact absurd (Nat.lt_of_lt_of_le (Heap.lt_size e) (Nat.le_trans I.ok.bsz q)) (Nat.lt_irrefl _)
    · rcases List.mem_cons.mp (I.stkSub b hf) with z | z
      · exact (ff b hb).2.1 z
      · exact (ff b hb).2.2.1 z
  have notin : ∀ p ∈ X.pn ++ pins, p.1 ∉ frs X.stack := fun p hp z => by
    obtain ⟨_, _, ne, nf, _⟩ := I.pin p hp
    rcases List.mem_cons.mp (I.stkSub _ z) with q | q
    · exact ne q
    · exact nf q
  have pinLt : ∀ p ∈ X.pn ++ pins, p.1 < s₂.heap.objs.size := fun p hp => Heap.lt_size (I.pin p hp).1
  have stkLt : ∀ b ∈ frs X.stack, b < s₂.heap.objs.size := fun b hb => by
    rcases List.mem_cons.mp (I.stkSub b hb) with z | z
    · rw [z]; exact I.lt
    · obtain ⟨_, o, ho, _⟩ := I.ok.funs.mem z
      exact Nat.lt_of_lt_of_le (Heap.lt_size ho) I.sz
  have loc0 : ∀ (i : Nat) (x : Str) (v : V), N[i]? = some x → (pick σ src)[i]? = some (some v) → ∃ u c, RelV v u ∧ (clOf X.env.cells scope.names).lookup x = some c ∧ s₂.heap.IsCell c (some u) ∧ scope.names.lookup x = some .free := fun i x v e1 e2 => by
    unfold pick at e2
    rw [List.getElem?_map] at e2
    cases es : src[i]? with
    | none => rw [es] at e2; cases e2
    | some o =>
      rw [es] at e2
      cases o with
      | none => cases e2
      | some j =>
        have e3 : (σ[j]?).join = some v := Option.some.inj e2
        have e4 : σ[j]? = some (some v) := by
          cases q : σ[j]? with
          | none => rw [q] at e3; cases e3
          | some z => rw [q] at e3; exact congrArg some e3
        obtain ⟨a1, a2, a3⟩ := S.src i j x es e1
        obtain ⟨m0, _, hl⟩ := I.loc
        obtain ⟨u, r, l⟩ := hl j x v a1 e4 a3
        have hm := PySem.mem_of_lookup a2
        have hk := S.fre _ hm rfl
        rcases l with ⟨k, _⟩ | ⟨_, c, hcx, z⟩
        · rcases hk with hk | hk <;> (rw [k] at hk; cases hk)
        · exact ⟨u, c, r, clOf_has X.env.cells scope.names [] x c (by intro x c h; simp at h) hm hcx, z, a2⟩
  have kinds : ∀ x, scope.names.lookup x = some .free → (compEnvC scope (clOf X.env.cells scope.names) C X.env).kindOf x = some .cell ∨ (compEnvC scope (clOf X.env.cells scope.names) C X.env).kindOf x = some .free := fun x hx => by
    show (relabel scope X.env).names.lookup x = some .cell ∨ (relabel scope X.env).names.lookup x = some .free
    unfold relabel
    dsimp only
    rw [lookup_relabel, hx]
    dsimp only [Option.map]
    split
    · exact .inl rfl
    · exact .inr rfl
  have Ic : Inv (cxC X N scope C s₂ H₂ fp (X.pn ++ pins)) [] (pick σ src) H₂ { s₂ with heap := h₁, toks := s₂.toks + ([] : List (Str × Value)).length } := by
    refine ⟨ok, rfl, I.bare, Un.kept old, ⟨_, hns₁, fun i x v e1 e2 e3 => ?_⟩, fun x c e => ?_, I.hok.fresh hCle', fun x c e => I.freeC x c (clsub x c e), fun p hp => ?_, I.hok.kept old, ?_⟩
    · obtain ⟨u, c, r, e5, ⟨o, ho, hd⟩, hf⟩ := loc0 i x v e1 e2
      exact ⟨u, r, .inr ⟨kinds x hf, c, e5, ⟨o, old _ _ ho, hd⟩⟩⟩
    · obtain ⟨v, o, ho, hd⟩ := I.cell x c (clsub x c e)
      exact ⟨v, o, old _ _ ho, hd⟩
    · have hp : p ∈ X.pn ++ pins := by simpa [cxC] using hp
      obtain ⟨e, n, _, _, d⟩ := I.pin p hp
      exact ⟨old _ _ e, n, Nat.ne_of_lt (Nat.lt_of_lt_of_le (pinLt p hp) hCle'), notin p hp, d⟩
    · show (pick σ src).length = N.length
      unfold pick
      rw [List.length_map, S.len]
  have hDle : s₂.heap.objs.size ≤ D := Nat.le_of_eq hD
  have DneStk : D ∉ frs X.stack := fun z => absurd (Nat.lt_of_lt_of_le (stkLt D z) hDle) (Nat.lt_irrefl _)
  have Dnefp : D ∉ fp := fun z => absurd (Nat.lt_of_lt_of_le (ffne D z) hDle) (Nat.lt_irrefl _)
  have fpOk : ∀ {pl : List (Addr × Obj)} {H' : Hp}, (∀ b ∈ fp, H' b = none) → (∀ p ∈ pl, p.1 ∉ fp) → ∀ b ∈ fp, FpOk (cxC X N scope C s₂ H₂ fp (X.pn ++ pins)) pl H' b := fun {pl H'} hn hpl b hb => by
    obtain ⟨f0, f1, f2, f3, f4, f5⟩ := ff b hb
    refine ⟨hn b hb, Nat.ne_of_lt (Nat.lt_of_lt_of_le (ffne b hb) hCle'), fun z => ?_, .inl hb, fun x c e => f4 x c (clsub x c e), fun p hp => ?_⟩
    · rcases List.mem_cons.mp (I.stkSub b z) with q | q
      · exact f1 q
      · exact f2 q
    · have hp : p ∈ (X.pn ++ pins) ++ pl := hp
      rcases List.mem_append.mp hp with hp | hp
      · exact f5 p hp
      · exact fun z => hpl p hp (z ▸ hb)
  -- back in the def's own frame
  have back : ∀ {s' : Shared} {H' : Hp} {out : List V} {its : List Value} {nn : Nat} {σ' : St}, Inv (cxC X N scope C s₂ H₂ fp (X.pn ++ pins)) [] σ' H' s' → H' D = none → out.length ≤ sizeLine → Vals out its →
      s'.heap.get? D = some { cls := .type "list", data := .seq its.toArray nn } → (∀ D, H' D = none → Q (.ref D) (upd H' D (.lst out))) → CompEnd X pins σ Q D C s' := fun {s' H' out its nn σ'} I' hn hl hv ho q => by
    obtain ⟨m, hm, _⟩ := I'.loc
    have un : Un (frs X.stack) fp H₂ H' s₂.heap s'.heap := I'.base
    have neD : ∀ b o, s₂.heap.get? b = some o → b ≠ D := fun b o e => Nat.ne_of_lt (Nat.lt_of_lt_of_le (Heap.lt_size e) hDle)
    have fD : H₂ D = none := I.hok.fresh hDle
    refine ⟨upd H' D (.lst out), m, ?_, q D hn, hm, by rw [upd_ne (Ne.symm hDC)]; exact I'.free, Nat.ne_of_gt (Nat.lt_of_lt_of_le I.lt hCle'), Nat.le_trans I.sz hCle', fun x c e => Nat.ne_of_lt (Nat.lt_of_lt_of_le (cellLt x c e) hCle'), fun p hp => Nat.ne_of_lt (Nat.lt_of_lt_of_le (pinLt p hp) hCle')⟩
    refine I.call' (ch := fp) I'.os ⟨un.keep, un.slot, fun b o e n hb => ?_, un.there, fun b xs e => ?_, fun b o u e => ?_, fun b ps e => ?_⟩ (fun b o e => ?_) I'.bare fun b hb => ?_
    · rw [upd_ne (neD b o e)]; exact un.free b o e n hb
    · rw [upd_ne (ne_of_none e fD)]; exact un.tups b xs e
    · rw [upd_ne (ne_of_none e fD)]; exact un.frzs b o u e
    · rw [upd_ne (ne_of_none e fD)]; exact un.tbls b ps e
    · by_cases hb : b = D
      · subst hb
        rw [upd_same] at e
        cases e
        exact ⟨hl, its, nn, hv, ho⟩
      · rw [upd_ne hb] at e
        refine (I'.hok b o e).stay (fun c v _ q => q) (fun c q => ?_) fun c xs q => ?_
        · rw [upd_ne (ne_of_none q hn)]; exact q
        · rw [upd_ne (ne_of_none q hn)]; exact q
    · obtain ⟨f0, f1, f2, f3, f4, f5⟩ := ff b hb
      exact ⟨f3, f1, f4, f5⟩
  obtain ⟨m0, w0⟩ := w0
  have loop : ∀ s₄ : Shared, s₄ = { s₂ with heap := h₁, toks := s₂.toks + ([] : List (Str × Value)).length } →
      codeAny (model X.prog X.w) X.A (.compLoop (.ListComp elt [⟨tg, iter, ifs, 0⟩] scope pos) 0 (.ref it) (.ref D) (compEnvC scope (clOf X.env.cells scope.names) C X.env)) (RR (.ref D) C) s₄ := by
    rintro s₄ rfl
    refine codeAny_compLoop_go (EE := fun _ _ => False) (fun _ _ f => f.elim) (fun n s' => ∃ i out its nn H', Inv (cxC X N scope C s₂ H₂ fp (X.pn ++ pins)) [] (pick σ src) H' s' ∧ H' D = none ∧ out.length ≤ sizeLine ∧ Vals out its ∧
      s'.heap.get? D = some { cls := .type "list", data := .seq its.toArray nn } ∧ tn i s'.heap ∧ (∀ b ∈ fp, H' b = none) ∧ W i n out H') ?_ m0
      ⟨0, [], [], 0, H₂, Ic, I.hok.fresh hDle, Nat.zero_le _, .nil, hacc, T.keep _ _ _ st fun b hb o e => old b o e, fun b hb => (ff b hb).1, w0⟩
    rintro n s3 ⟨i, out, its, nn, H3, I3, hD3, hl3, hv3, ho3, st3, fr3, w3⟩
    have dataNe : ∀ (its : List Value) (nn : Nat) (v : Option Value), ({ cls := .type "list", data := .seq its.toArray nn } : Obj).data ≠ .cell v := fun _ _ _ z => nomatch z
    have I3p : Inv (cxC X N scope C s₂ H₂ fp (X.pn ++ pins)) [(D, { cls := .type "list", data := .seq its.toArray nn })] (pick σ src) H3 s3 := I3.pins_of fun p hp => by
      have e : p = (D, { cls := .type "list", data := .seq its.toArray nn }) := by simpa using hp
      subst e
      exact ⟨ho3, hD3, hDC, DneStk, dataNe its nn⟩
    have nfp : ∀ p ∈ [((D, { cls := .type "list", data := .seq its.toArray nn }) : Addr × Obj)], p.1 ∉ fp := fun p hp => by
      have e : p = (D, { cls := .type "list", data := .seq its.toArray nn }) := by simpa using hp
      subst e
      exact Dnefp
    rcases turn i n out H3 w3 with ⟨stop, qn⟩ | ⟨go, hlt, step⟩
    · refine thn (T.done (cxC X N scope C s₂ H₂ fp (X.pn ++ pins)) rfl rfl rfl hc i _ s3 _ H3 _ I3p (fpOk fr3 nfp) st3 stop) fun r s4 ⟨hr, I4⟩ => ?_
      subst hr
      have p4 := (I4.pin (D, { cls := .type "list", data := .seq its.toArray nn }) (List.mem_append_right _ (by simp))).1
      exact hRR D C s4 (back (I4.pins_of (pins' := []) fun p hp => nomatch hp) hD3 hl3 hv3 p4 qn)
    · refine thn (T.item (cxC X N scope C s₂ H₂ fp (X.pn ++ pins)) rfl rfl rfl hc i _ s3 _ H3 _ I3p (fpOk fr3 nfp) st3 go) fun r s4 ⟨u, hr, h4⟩ => ?_
      subst hr
      refine thn h4 fun _ s5 ⟨x, H5, I5, r5, y5, st5, fr5⟩ => ?_
      have I5' := I5.pinned (fpOk fr5 nfp) (T.obj _ _ st5)
      refine thn (hg _ _ _ _ _ _ s5 _ H5 x u _ I5' r5 (hx x σ H5 _ (step x H5 y5))) fun _ s6 ⟨σ6, H6, I6, e6, q6⟩ => ?_
      have fin : ∀ {s7 : Shared} {H7 : Hp}, Inv (cxC X N scope C s₂ H₂ fp (X.pn ++ pins)) ([(D, { cls := .type "list", data := .seq its.toArray nn })] ++ pinsAt fp s5.heap) σ6 H7 s7 →
          Inv (cxC X N scope C s₂ H₂ fp (X.pn ++ pins)) [] (pick σ src) H7 s7 ∧ H7 D = none ∧ s7.heap.get? D = some { cls := .type "list", data := .seq its.toArray nn } ∧ tn (i + 1) s7.heap ∧ ∀ b ∈ fp, H7 b = none := fun {s7 H7} I7 => by
        have pD := I7.pin (D, { cls := .type "list", data := .seq its.toArray nn }) (List.mem_append_right _ (by simp))
        refine ⟨(I7.pins_of (pins' := []) fun p hp => nomatch hp).weak e6.1.symm e6.2, pD.2.1, pD.1, T.keep _ _ _ st5 fun b hb o e => (I7.pin (b, o) (List.mem_append_right _ (List.mem_append_right _ (mem_pinsAt hb e)))).1, fun b hb => ?_⟩
        obtain ⟨o, e, d⟩ := T.obj _ _ st5 b hb
        exact (I7.pin (b, o) (List.mem_append_right _ (List.mem_append_right _ (mem_pinsAt hb e)))).2.1
      refine thn (hi _ _ _ _ _ _ s6 σ6 H6 _ I6 q6) fun b s7 ⟨H7, I7, q7⟩ => ?_
      cases b with
      | false =>
        rw [if_neg Bool.false_ne_true] at q7 ⊢
        obtain ⟨m', hm, w7⟩ := q7
        obtain ⟨J7, d7, o7, t7, f7⟩ := fin I7
        exact ⟨m', hm, i + 1, out, its, nn, H7, J7, d7, hl3, hv3, o7, t7, f7, w7⟩
      | true =>
        rw [if_pos rfl] at q7 ⊢
        refine thn (he _ _ _ _ _ _ s7 σ6 H7 _ I7 q7) fun v s8 ⟨y, H8, I8, r8, m', hm, w8⟩ => ?_
        obtain ⟨J8, d8, o8, t8, f8⟩ := fin I8
        have hsz : its.toArray.size ≤ sizeLine := by rw [List.size_toArray, ← hv3.length]; exact hl3
        refine wpAny_list_append_plain (items := its.toArray) (hsz := hsz) ⟨nn, o8⟩ fun h9 ⟨n9, e9⟩ sb => ?_
        have J9 : Inv (cxC X N scope C s₂ H₂ fp (X.pn ++ pins)) [] (pick σ src) H8 { s8 with heap := h9 } := J8.turned (t' := s8.toks) (it := D) (fun b o hb e => (sb.2 b hb).trans e) d8 hDC (.inr hDle) (fun x c e => Nat.ne_of_lt (Nat.lt_of_lt_of_le (cellLt x c (clsub x c e)) hDle)) fun p hp => by
          have hp : p ∈ X.pn ++ pins := by simpa [cxC] using hp
          exact Nat.ne_of_lt (Nat.lt_of_lt_of_le (pinLt p hp) hDle)
        refine ⟨m', hm, i + 1, out ++ [y], its ++ [v], n9, H8, J9, d8, ?_, hv3.append (.cons r8 .nil), ?_, T.keep _ _ _ t8 fun b hb o e => (sb.2 b (fun z => Dnefp (z ▸ hb))).trans e, f8, w8⟩
        · rw [List.length_append]; exact hlt
        · rw [e9]; simp
  exact codeAny_compStart_list (loop _ rfl) (T.self _ _ _ _ _ (T.keep _ _ _ st fun b hb o e => old b o e) (loop _ rfl))
theorem pe_comp (S : CompScope X N src scope) (hc : X.calm = true) (hit : PI X tg iter wi)
    (hg : ∀ C s H ex pn, PG (cxC X N scope C s H ex pn) tg g) (hx : GExt g src) (hi : ∀ C s H ex pn, PIf (cxC X N scope C s H ex pn) ifs tc) (he : ∀ C s H ex pn, PE (cxC X N scope C s H ex pn) elt te)
    (hs : ∀ x, foldedSetIterable iter X.env x = pure x := by intro _; rfl) : PE X (.ListComp elt [⟨tg, iter, ifs, 0⟩] scope pos) (tComp wi src g tc te) := by
  intro pins s σ H Q I h
  rw [eval_ListComp]
  have hcl : closureFor scope X.env = pure (clOf X.env.cells scope.names) := closureFor_cl fun y hy hf => I.ok.has y.1 (S.fre y hy hf)
  refine wpAny_comprehension_free (use := none) rfl hs hcl S.kind S.loc (thn (hit pins s σ H _ I h) fun v s1 h1 => thn h1 fun itv s2 h2 => ?_)
  obtain ⟨it, fp, tn, J, H2, e, I2, T, st2, f2, W, w0, turn⟩ := h2
  subst e
  refine comp_core (RR := fun acc C => compPost (model X.prog X.w) X.A X.xe none (EP X pins σ Q) acc C) S hc hg hx hi he I2 T st2 f2 W w0 turn fun D C s' ⟨H', m, I', q, hm, hn, h1, h2, h3, h4⟩ => ?_
  exact ⟨m, hm, fun h' sb => ⟨.ref D, H', I'.turned (t' := s'.toks) (it := C) (fun b o hb e => (sb.2 b hb).trans e) hn h1 (.inr h2) h3 h4, rfl, q⟩⟩
/-- x = [..] -/
theorem ps_setcomp {i : Nat} {x : Str} {pos' spos : Pos} (hN : X.N.Nodup) (hix : X.N[i]? = some x) (hlx : X.env.scope.names.lookup x = some .local)
    (S : CompScope X N src scope) (hc : X.calm = true) (hit : PI X tg iter wi)
    (hg : ∀ C s H ex pn, PG (cxC X N scope C s H ex pn) tg g) (hx : GExt g src) (hi : ∀ C s H ex pn, PIf (cxC X N scope C s H ex pn) ifs tc) (he : ∀ C s H ex pn, PE (cxC X N scope C s H ex pn) elt te)
    (hsw : swapsWith (.ListComp elt [⟨tg, iter, ifs, 0⟩] scope pos) (some (.Name x pos')) spos.line X.env = pure true := by rfl)
    (hs : ∀ x, foldedSetIterable iter X.env x = pure x := by intro _; rfl) : PS X (.Assign [.Name x pos'] (.ListComp elt [⟨tg, iter, ifs, 0⟩] scope pos) spos) (tAsg (tComp wi src g tc te) (gName i)) := by
  intro pins s σ H D I h
  rw [exec_Assign_Name_used _ _ _ _ hsw]
  refine wpAny_bind (wpAny_standAt (wpAny_bind ?_))
  have hcl : closureFor scope X.env = pure (clOf X.env.cells scope.names) := closureFor_cl fun y hy hf => I.ok.has y.1 (S.fre y hy hf)
  show wpAny _ X.A (do let _ ← comprehension (.ListComp elt [⟨tg, iter, ifs, 0⟩] scope pos) scope X.env _ (newList []) false (eval iter X.env) (some (assign (.Name x pos') X.env))) _ _ s
  refine wpAny_bind (wpAny_mono (wpAny_comprehension_free (use := some (assign (.Name x pos') X.env)) (Q := fun _ s' => ∃ σ' H', Inv X pins σ' H' s' ∧ D.nx σ' H') rfl hs hcl S.kind S.loc (thn (hit pins s σ H _ I h) fun v s1 h1 => thn h1 fun itv s2 h2 => ?_))
    (fun _ s' hq => wpAny_pure (wpAny_pure hq)) fun _ _ e => e)
  obtain ⟨it, fp, tn, J, H2, e, I2, T, st2, f2, W, w0, turn⟩ := h2
  subst e
  refine comp_core (Q := fun v H1 => D.nx (σ.set i (some v)) H1) (RR := fun acc C => compPost (model X.prog X.w) X.A X.xe (some (assign (.Name x pos') X.env)) (fun _ s' => ∃ σ' H', Inv X pins σ' H' s' ∧ D.nx σ' H') acc C) S hc hg hx hi he I2 T st2 f2 W w0 turn fun D' C s' ⟨H', m, I', q, hm, hn, h1, h2, h3, h4⟩ => ?_
  show wpAny _ X.A (assign (.Name x pos') X.env (.ref D')) _ _ _
  refine wpAny_assign_Name (store_ok2 I' hN hix (.inl hlx) (v := .ref D') rfl (fun s'' I'' ⟨a, sb, ha⟩ => ?_) (.inr hlx))
  have hCa : C ≠ a := by
    rcases ha with ha | ha
    · rw [ha]; exact h1
    · exact Ne.symm (h3 _ _ ha)
  refine ⟨m, hm.sameBut sb hCa, fun h'' sb2 => ⟨_, H', I''.turned (t' := s''.toks) (it := C) (fun b o hb e => (sb2.2 b hb).trans e) hn h1 (.inr h2) h3 h4, q⟩⟩
end
theorem pick_none {σ : St} {src : List (Option Nat)} {i : Nat} (h : src[i]? = some none) : (pick σ src)[i]? = some none := by
  unfold pick
  rw [List.getElem?_map, h]
  rfl
theorem Ext.set {σ0 σ : St} {i : Nat} {v : V} (h : σ0[i]? = some none) (e : Ext σ0 σ) : Ext σ0 (σ.set i (some v)) := by
  refine ⟨by rw [List.length_set]; exact e.1, fun j w hj => ?_⟩
  have : i ≠ j := by
    rintro rfl
    rw [h] at hj
    cases hj
  rw [List.getElem?_set_ne this]
  exact e.2 j w hj
theorem Ext.refl (σ : St) : Ext σ σ := ⟨rfl, fun _ _ h => h⟩
theorem gx_name {src : List (Option Nat)} {i : Nat} (h : src[i]? = some none) : GExt (gName i) src := fun x σ H Q q => ⟨(Ext.refl _).set (pick_none h), q⟩
theorem gx_tup2 {K : PySem.W.Frag} {n : Nat} {src : List (Option Nat)} {i j : Nat} (h : src[i]? = some none) (h' : src[j]? = some none) : GExt (gTup K n (gCons (gName i) (gCons (gName j) gNil))) src := fun x σ H Q q => by
  obtain ⟨a, xs, e1, hs, hl, v, r, e2, v2, r2, e3, e4, q⟩ := q
  exact ⟨a, xs, e1, hs, hl, v, r, e2, v2, r2, e3, e4, ((Ext.refl _).set (pick_none h)).set (pick_none h'), q⟩
theorem all_bools {xs : List V} {its : List Value} {bs : List Bool} (hv : Vals xs its) (hb : xs = bs.map V.bl) : ∀ (i : Nat) (v : Value), its.toArray[i]? = some v → v = Value.bool ((bs[i]?).getD false) := by
  subst hb
  intro i v h
  have h' : its[i]? = some v := by simpa using h
  have hl := hv.length
  rw [List.length_map] at hl
  have hi : i < its.length := (List.getElem?_eq_some_iff.mp h').1
  have hb : bs[i]? = some (bs[i]'(by omega)) := by simp
  obtain ⟨u, hu, r⟩ := hv.get (i := i) (x := V.bl (bs[i]'(by omega))) (by rw [List.getElem?_map, hb]; rfl)
  rw [h'] at hu
  cases hu
  rw [hb]
  exact r
theorem range_all {bs : List Bool} : (List.range bs.length).all (fun i => (bs[i]?).getD false) = bs.all id := by
  rw [Bool.eq_iff_iff, List.all_eq_true, List.all_eq_true]
  constructor
  · intro h b hb
    obtain ⟨i, hi, rfl⟩ := List.mem_iff_getElem.mp hb
    have := h i (List.mem_range.mpr hi)
    simpa [hi] using this
  · intro h i hi
    have hi := List.mem_range.mp hi
    simpa [hi] using h _ (List.getElem_mem hi)
theorem range_any {bs : List Bool} : (List.range bs.length).any (fun i => (bs[i]?).getD false) = bs.any id := by
  rw [Bool.eq_iff_iff, List.any_eq_true, List.any_eq_true]
  constructor
  · rintro ⟨i, hi, h⟩
    have hi := List.mem_range.mp hi
    exact ⟨bs[i], List.getElem_mem hi, by simpa [hi] using h⟩
  · rintro ⟨b, hb, h⟩
    obtain ⟨i, hi, rfl⟩ := List.mem_iff_getElem.mp hb
    exact ⟨i, List.mem_range.mpr hi, by simpa [hi] using h⟩
section
variable {X : Cx}
theorem call_all_list (hc : X.calm = true) : CallR X (.builtin "all") (fun xs H Q => ∃ (a : Addr) (bs : List Bool), xs = [.ref a] ∧ SqL X.K H a (bs.map V.bl) ∧ Q (.bl (bs.all id)) H) := by
  intro pins s σ H xs us Q I r h
  obtain ⟨a, bs, rfl, hq, q⟩ := h
  obtain ⟨u, rfl, ru⟩ := vals1 r
  cases ru
  obtain ⟨its, rv, p, hz⟩ := I.list hq
  have hl := rv.length
  rw [List.length_map] at hl
  refine call_all_walk (wpAny_pyIter_list p.isList ?_)
  refine ⟨s.heap.objs.size, _, _, _, _, _, fun i => (bs[i]?).getD false, rfl, Walks.list (A := X.A.in1) (I.ok.hd hc) s.heap.objs.size a (Nat.ne_of_lt p.lt) its.toArray, ⟨⟨_, Heap.get?_push_size _ rfl, rfl, rfl⟩, p.isList.at fun o e => Heap.get?_push_of_some _ e⟩, ?_, fun h' tk hk => ?_⟩
  · intro i v s' Q' E' hv hQ
    rw [all_bools rv rfl i v hv]
    exact wpAny_truthy_bool hQ
  · have e : its.toArray.size = bs.length := by rw [List.size_toArray, ← hl]
    rw [e, range_all]
    exact ⟨.bl (bs.all id), H, I.kept (h' := h') (t' := tk) (fun b o e => hk b o (by simpa using Nat.ne_of_lt (Heap.lt_size e)) (Heap.get?_push_of_some _ e)), rfl, q⟩
theorem call_any_list (hc : X.calm = true) : CallR X (.builtin "any") (fun xs H Q => ∃ (a : Addr) (bs : List Bool), xs = [.ref a] ∧ SqL X.K H a (bs.map V.bl) ∧ Q (.bl (bs.any id)) H) := by
  intro pins s σ H xs us Q I r h
  obtain ⟨a, bs, rfl, hq, q⟩ := h
  obtain ⟨u, rfl, ru⟩ := vals1 r
  cases ru
  obtain ⟨its, rv, p, hz⟩ := I.list hq
  have hl := rv.length
  rw [List.length_map] at hl
  refine call_any_walk (wpAny_pyIter_list p.isList ?_)
  refine ⟨s.heap.objs.size, _, _, _, _, _, fun i => (bs[i]?).getD false, rfl, Walks.list (A := X.A.in1) (I.ok.hd hc) s.heap.objs.size a (Nat.ne_of_lt p.lt) its.toArray, ⟨⟨_, Heap.get?_push_size _ rfl, rfl, rfl⟩, p.isList.at fun o e => Heap.get?_push_of_some _ e⟩, ?_, fun h' tk hk => ?_⟩
  · intro i v s' Q' E' hv hQ
    rw [all_bools rv rfl i v hv]
    exact wpAny_truthy_bool hQ
  · have e : its.toArray.size = bs.length := by rw [List.size_toArray, ← hl]
    rw [e, range_any]
    exact ⟨.bl (bs.any id), H, I.kept (h' := h') (t' := tk) (fun b o e => hk b o (by simpa using Nat.ne_of_lt (Heap.lt_size e)) (Heap.get?_push_of_some _ e)), rfl, q⟩
end
end L2
set_option Elab.async false
set_option linter.all false
set_option maxRecDepth 100000
set_option maxHeartbeats 4000000
namespace L2
open PySem PySem.Spec PyProof.Rows
def ownOf : HO → Option Addr
  | .ins _ dx _ => some dx
  | .frz _ u => ownOf u
  | _ => none
/-- G is H' without some of what was laid since H -/
structure Fg (H H' G : Hp) : Prop where
  sub : ∀ b o, G b = some o → H' b = some o
  dom : ∀ b o, H b = some o → ∃ o', G b = some o'
  own : ∀ a o dx, G a = some o → ownOf o = some dx → (∃ o', H a = some o' ∧ ownOf o' = some dx) ∨ ∃ o', G dx = some o'
theorem Fg.refl {H H' : Hp} (d : ∀ b o, H b = some o → ∃ o', H' b = some o') (c : ∀ a o dx, H' a = some o → ownOf o = some dx → ∃ o', H' dx = some o') : Fg H H' H' := ⟨fun _ _ e => e, d, fun a o dx e1 e2 => .inr (c a o dx e1 e2)⟩
theorem Fg.all {H H' : Hp} (s : Same H H') : Fg H H' H := ⟨s, fun _ o e => ⟨o, e⟩, fun _ o _ e1 e2 => .inl ⟨o, e1, e2⟩⟩
theorem Fg.upd {H H' G : Hp} {a : Addr} {o : HO} (f : Fg H H' G) (e : H' a = some o) (n : ownOf o = none) : Fg H H' (upd G a o) := by
  refine ⟨fun b u q => ?_, fun b u q => ?_, fun b u dx q r => ?_⟩
  · by_cases hb : b = a
    · subst hb; rw [upd_same] at q; cases q; exact e
    · rw [upd_ne hb] at q; exact f.sub b u q
  · by_cases hb : b = a
    · subst hb; exact ⟨o, upd_same⟩
    · rw [upd_ne hb]; exact f.dom b u q
  · by_cases hb : b = a
    · subst hb; rw [upd_same] at q; cases q; rw [n] at r; cases r
    · rw [upd_ne hb] at q
      rcases f.own b u dx q r with z | ⟨o', z⟩
      · exact .inl z
      · by_cases hd : dx = a
        · subst hd; exact .inr ⟨o, upd_same⟩
        · exact .inr ⟨o', by rw [upd_ne hd]; exact z⟩
theorem ObjOk.fg {P : Program} {w : World} {H' G : Hp} {h : Heap} {a : Addr} : ∀ {o : HO}, ObjOk P w H' h a o → (∀ dx, ownOf o = some dx → H' dx = some (.own a) → G dx = some (.own a)) → ObjOk P w G h a o
  | .lst _, x, _ => x
  | .tup _, x, _ => x
  | .dK _, x, _ => x
  | .dT _, x, _ => x
  | .set _ _, x, _ => x
  | .ins C dx fs, x, k => ⟨k dx rfl x.1, x.2⟩
  | .own _, x, _ => x
  | .xd _, x, _ => x
  | .rng _ _, x, _ => x
  | .frz _ u, x, k => ⟨x.1, ObjOk.fg x.2 k⟩
  | .tbl _, x, _ => x
  | .met _ _, x, _ => x
  | .ext _, x, _ => x
theorem ObjOk.owns {P : Program} {w : World} {H : Hp} {h : Heap} {a dx : Addr} : ∀ {o : HO}, ObjOk P w H h a o → ownOf o = some dx → H dx = some (.own a)
  | .ins C d fs, x, e => by cases e; exact x.1
  | .frz _ u, x, e => ObjOk.owns x.2 e
  | .lst _, _, e => nomatch e
  | .tup _, _, e => nomatch e
  | .dK _, _, e => nomatch e
  | .dT _, _, e => nomatch e
  | .set _ _, _, e => nomatch e
  | .own _, _, e => nomatch e
  | .xd _, _, e => nomatch e
  | .rng _ _, _, e => nomatch e
  | .tbl _, _, e => nomatch e
  | .met _ _, _, e => nomatch e
  | .ext _, _, e => nomatch e
theorem HOk.fg {P : Program} {w : World} {H H' G : Hp} {h h' : Heap} (k : HOk P w H h) (k' : HOk P w H' h') (f : Fg H H' G) : HOk P w G h' := fun a o e => by
  refine (k' a o (f.sub a o e)).fg fun dx hd ho => ?_
  have : ∃ o', G dx = some o' := by
    rcases f.own a o dx e hd with ⟨o', e', hd'⟩ | z
    · exact f.dom dx _ ((k a o' e').owns hd')
    · exact z
  obtain ⟨o', z⟩ := this
  have := f.sub dx o' z
  rw [ho] at this
  cases this
  exact z
theorem Un.fg {fs ex : List Addr} {H0 H H' G : Hp} {h0 h h' : Heap} (u : Un fs ex H0 H h0 h) (u' : Un fs ex H0 H' h0 h') (f : Fg H H' G) : Un fs ex H0 G h0 h' := by
  have back : ∀ b o o', H b = some o → H' b = some o' → G b = some o' := fun b o o' e e' => by
    obtain ⟨o2, z⟩ := f.dom b o e
    have := f.sub b o2 z
    rw [e'] at this
    cases this
    exact z
  refine ⟨u'.keep, u'.slot, fun b o e n hx => ?_, u'.there, fun b xs e => back b _ _ (u.tups b xs e) (u'.tups b xs e), fun b o x e => back b _ _ (u.frzs b o x e) (u'.frzs b o x e), fun b ps e => ?_⟩
  · have q := u'.free b o e n hx
    cases z : G b with
    | none => rfl
    | some o' => have := f.sub b o' z; rw [q] at this; cases this
  · obtain ⟨m1, e1⟩ := u.tbls b ps e
    obtain ⟨m2, e2⟩ := u'.tbls b ps e
    exact ⟨m2, back b _ _ e1 e2⟩
theorem Fg.none {H H' G : Hp} (f : Fg H H' G) {b : Addr} (e : H' b = none) : G b = none := by
  cases z : G b with
  | none => rfl
  | some o' => have := f.sub b o' z; rw [e] at this; cases this
section
variable {X : Cx} {pins : List (Addr × Obj)} {σ σ' : St} {H H' G : Hp} {s s' : Shared}
theorem Inv.fg (I : Inv X pins σ H s) (I' : Inv X pins σ' H' s') (f : Fg H H' G) : Inv X pins σ' G s' :=
  ⟨I'.ok, I'.os, I'.bare, I.base.fg I'.base f, I'.loc, I'.cell, f.none I'.free, fun x c e => f.none (I'.freeC x c e), fun p hp => let ⟨a, b, c⟩ := I'.pin p hp; ⟨a, f.none b, c⟩, I.hok.fg I'.hok f, I'.len⟩
end
/-- a def whose promise forgets -/
theorem FnOk.forget {P : Program} {w : World} {K : PySem.W.Frag} {mg : Str → Option Value} {base : Heap} {CX : CXT} {k : Nat} {f : Addr} {fd : FuncData} {ps : List Str} {sp sp' : Sp} (F : FnOk P w K mg base CX k f fd ps sp)
    (h : ∀ vs H Q E, sp' vs H Q E → sp vs H (fun v H' => ∃ G, Fg H H' G ∧ Q v G) E) : FnOk P w K mg base CX k f fd ps sp' :=
  ⟨fun vs H Q E q => F.len vs H _ E (h _ _ _ _ q), fun A outer s H args us vs Q E hr he hb hv hs => codeAny_mono (F.run A outer s H args us vs _ E hr he hb hv (h _ _ _ _ hs)) fun r s' q => by
    cases r with
    | error e => exact q
    | ok fl =>
      cases fl with
      | ret u =>
        obtain ⟨v, H', os, bare, un, hok, r, G, f, q⟩ := q
        exact ⟨v, G, os, bare, (Un.refl : Un _ _ H H s.heap s.heap).fg un f, he.hok.fg hok f, r, q⟩
      | next => exact q
      | brk => exact q
      | cont => exact q⟩
end L2
set_option Elab.async false
set_option linter.all false
set_option maxRecDepth 100000
set_option maxHeartbeats 4000000
namespace L2
open PySem PySem.Spec PyProof.Rows
theorem bt_len : bootBuiltins "len" = some (.builtin "len") := PySem.boot_len
theorem bt_all : bootBuiltins "all" = some (.builtin "all") := boot_all
theorem bt_any : bootBuiltins "any" = some (.builtin "any") := boot_any
theorem bt_int : bootBuiltins "int" = some (.type "int") := PyProof.Rows.boot_int
theorem bt_tuple : bootBuiltins "tuple" = some (.type "tuple") := PyProof.Rows.boot_tuple
inductive Kd where
  | non | bl | int | str | lst | tup | dct
  deriving DecidableEq
def Kd.name : Kd → String
  | .non => "NoneType" | .bl => "bool" | .int => "int" | .str => "str" | .lst => "list" | .tup => "tuple" | .dct => "dict"
inductive KdOf (H : Hp) : V → Kd → Prop where
  | non : KdOf H .non .non
  | bl (b : Bool) : KdOf H (.bl b) .bl
  | int (i : Int) : KdOf H (.int i) .int
  | str (x : Str) : KdOf H (.str x) .str
  | lst {a : Addr} {xs : List V} (e : H a = some (.lst xs)) : KdOf H (.ref a) .lst
  | tup {a : Addr} {xs : List V} (e : H a = some (.tup xs)) : KdOf H (.ref a) .tup
  | dct {a : Addr} {kvs : List (Key × V)} (e : H a = some (.dK kvs)) : KdOf H (.ref a) .dct
theorem KdOf.ty {K : PySem.W.Frag} {H : Hp} {x : V} {k : Kd} (h : KdOf H x k) : TyOf K H x (.type k.name) := by
  cases h with
  | non => exact .non
  | bl b => exact .bl b
  | int i => exact .int i
  | str x => exact .str x
  | lst e => exact .lst e
  | tup e => exact .tup e
  | dct e => exact .dK e
theorem KdOf.same {H H' : Hp} (s : Same H H') {x : V} {k : Kd} (h : KdOf H x k) : KdOf H' x k := by
  cases h with
  | non => exact .non
  | bl b => exact .bl b
  | int i => exact .int i
  | str x => exact .str x
  | lst e => exact .lst (s _ _ e)
  | tup e => exact .tup (s _ _ e)
  | dct e => exact .dct (s _ _ e)
section
variable {X : Cx}
end
mutual
def Dt (K : PySem.W.Frag) (H : Hp) : PyData → V → Prop
  | .none, v => v = .non
  | .bool b, v => v = .bl b
  | .int i, v => v = .int i
  | .str z, v => v = .str z
  | .list ds, v => ∃ a xs, v = .ref a ∧ SqL K H a xs ∧ DtAll K H ds xs
  | .tuple ds, v => ∃ a xs, v = .ref a ∧ SqT K H a xs ∧ DtAll K H ds xs
  | .dict _, _ => False
def DtAll (K : PySem.W.Frag) (H : Hp) : List PyData → List V → Prop
  | [], xs => xs = []
  | d :: ds, xs => ∃ y ys, xs = y :: ys ∧ Dt K H d y ∧ DtAll K H ds ys
end
section
variable {X : Cx} {pins : List (Addr × Obj)} {σ : St} {H : Hp} {s : Shared}
mutual
theorem Inv.reads (I : Inv X pins σ H s) : ∀ (d : PyData) {x : V} {u : Value}, Dt X.K H d x → RelV x u → ∃ as, Reads s.heap u d as
  | .none, x, u, h, r => by
    have h : x = .non := by simpa only [Dt] using h
    subst h; cases r; exact ⟨_, .none⟩
  | .bool b, x, u, h, r => by
    have h : x = .bl b := by simpa only [Dt] using h
    subst h; cases r; exact ⟨_, .bool b⟩
  | .int i, x, u, h, r => by
    have h : x = .int i := by simpa only [Dt] using h
    subst h; obtain ⟨t, rfl⟩ := r; exact ⟨_, .int i t⟩
  | .str z, x, u, h, r => by
    have h : x = .str z := by simpa only [Dt] using h
    subst h; obtain ⟨t, rfl⟩ := r; exact ⟨_, .str z t⟩
  | .list ds, x, u, h, r => by
    have h : ∃ a xs, x = .ref a ∧ SqL X.K H a xs ∧ DtAll X.K H ds xs := by simpa only [Dt] using h
    obtain ⟨a, xs, rfl, hq, hd⟩ := h
    cases r
    obtain ⟨its, rv, p, _⟩ := I.list hq
    obtain ⟨as, ra⟩ := Inv.readsAll I ds hd rv
    obtain ⟨o, e, c, n, d⟩ := p.isList
    exact ⟨_, .list e c d (by simpa using ra)⟩
  | .tuple ds, x, u, h, r => by
    have h : ∃ a xs, x = .ref a ∧ SqT X.K H a xs ∧ DtAll X.K H ds xs := by simpa only [Dt] using h
    obtain ⟨a, xs, rfl, hq, hd⟩ := h
    cases r
    obtain ⟨its, rv, p, _⟩ := I.tuple hq
    obtain ⟨as, ra⟩ := Inv.readsAll I ds hd rv
    obtain ⟨o, e, c, n, d⟩ := p
    exact ⟨_, .tuple e c d (by simpa using ra)⟩
  | .dict _, x, u, h, r => by
    have h : False := by simpa only [Dt] using h
    exact h.elim
theorem Inv.readsAll (I : Inv X pins σ H s) : ∀ (ds : List PyData) {xs : List V} {us : List Value}, DtAll X.K H ds xs → Vals xs us → ∃ as, ReadsAll s.heap us ds as
  | [], xs, us, h, r => by
    have h : xs = [] := by simpa only [DtAll] using h
    subst h; cases r; exact ⟨_, .nil⟩
  | d :: ds, xs, us, h, r => by
    have h : ∃ y ys, xs = y :: ys ∧ Dt X.K H d y ∧ DtAll X.K H ds ys := by simpa only [DtAll] using h
    obtain ⟨y, ys, rfl, h1, h2⟩ := h
    cases r with
    | cons r1 r2 =>
      obtain ⟨as, ra⟩ := Inv.reads I d h1 r1
      obtain ⟨bs, rb⟩ := Inv.readsAll I ds h2 r2
      exact ⟨_, .cons ra rb⟩
end
end
def rEqD (K : PySem.W.Frag) (neg : Bool) : R2 := fun x y H Q => ∃ d e, Dt K H d x ∧ Dt K H e y ∧ d.canLay0 = true ∧ e.canLay0 = true ∧ (d.depth ≤ 64 ∨ e.depth ≤ 64) ∧ Q (.bl (if neg then !PyData.eqv d e else PyData.eqv d e)) H
section
variable {X : Cx}
theorem op_eqD (hu : X.A.units + 64 < cLine) : OpR X (compareOp .Eq) (rEqD X.K false) := by
  intro pins s σ H x y v u Q I rx ry h
  obtain ⟨d, e, hd, he, cd, ce, dp, q⟩ := h
  obtain ⟨as, ra⟩ := I.reads d hd rx
  obtain ⟨bs, rb⟩ := I.reads e he ry
  exact SeqAt.compareEq_reads ra rb cd ce (by rcases dp with dp | dp <;> omega) (fin_bl I q rfl)
theorem op_neD (hu : X.A.units + 64 < cLine) : OpR X (compareOp .NotEq) (rEqD X.K true) := by
  intro pins s σ H x y v u Q I rx ry h
  obtain ⟨d, e, hd, he, cd, ce, dp, q⟩ := h
  obtain ⟨as, ra⟩ := I.reads d hd rx
  obtain ⟨bs, rb⟩ := I.reads e he ry
  exact SeqAt.compareNe_reads ra rb cd ce (by rcases dp with dp | dp <;> omega) (fin_bl I q rfl)
end
end L2
set_option Elab.async false
set_option linter.all false
set_option maxRecDepth 100000
set_option maxHeartbeats 4000000
namespace L2
open PySem PySem.Spec PyProof.Rows
def chkC (sc : Scope) (N0 N : List Str) (src : List (Option Nat)) (scope : Scope) : Bool :=
  decide (scope.kind = .function) && (scope.names.all (fun y => decide (y.2 ≠ .cell) && (decide (y.2 ≠ .local) || decide (scope.names.lookup y.1 = some .local)) && (decide (y.2 ≠ .free) || (decide (sc.names.lookup y.1 = some .cell) || decide (sc.names.lookup y.1 = some .free)))) &&
    (decide (src.length = N.length) && (List.range src.length).all fun i => match src[i]?, N[i]? with
      | some (some j), some x => decide (N0[j]? = some x) && (decide (scope.names.lookup x = some .free) && (decide (sc.names.lookup x = some .cell) || decide (sc.names.lookup x = some .free)))
      | _, _ => true))
theorem csc {X : Cx} {N : List Str} {src : List (Option Nat)} {scope : Scope} (sc : Scope) (N0 : List Str) (hs : X.env.scope = sc) (hN : X.N = N0) (h : chkC sc N0 N src scope = true) : CompScope X N src scope := by
  unfold chkC at h
  simp only [Bool.and_eq_true, decide_eq_true_eq, List.all_eq_true, Bool.or_eq_true] at h
  obtain ⟨h1, h2, h3, h4⟩ := h
  refine ⟨h1, fun y hy => (h2 y hy).1.1, fun y hy e => ?_, fun y hy e => ?_, h3, fun i j x e1 e2 => ?_⟩
  · rcases (h2 y hy).1.2 with z | z
    · exact absurd e z
    · exact z
  · rcases (h2 y hy).2 with z | z
    · exact absurd e z
    · show X.env.scope.names.lookup y.1 = some .cell ∨ X.env.scope.names.lookup y.1 = some .free
      rw [hs]; exact z
  · have hi : i < src.length := (List.getElem?_eq_some_iff.mp e1).1
    have q := h4 i (List.mem_range.mpr hi)
    rw [e1, e2] at q
    simp only [Bool.and_eq_true, decide_eq_true_eq, Bool.or_eq_true] at q
    refine ⟨by rw [hN]; exact q.1, q.2.1, ?_⟩
    unfold Vis
    rw [hs]
    exact .inr q.2.2
end L2
set_option Elab.async false
set_option linter.all false
set_option maxRecDepth 100000
set_option maxHeartbeats 4000000
namespace L2
open PySem PySem.Spec PyProof.Rows
def tCut (t : TS) : TS := fun D σ H => ∃ P : St → Hp → Prop, t { D with nx := P } σ H ∧ ∀ σ' H', P σ' H' → D.nx σ' H'
section
variable {X : Cx}
theorem ps_cut {st : Stmt} {t : TS} (h : PS X st t) : PS X st (tCut t) := fun pins s σ H D I ⟨P, hw, hP⟩ =>
  thn (h pins s σ H _ I hw) fun f s' q => by
    cases f with
    | next => obtain ⟨σ', H', I', q⟩ := q; exact ⟨σ', H', I', hP _ _ q⟩
    | brk => exact q
    | cont => exact q
    | ret u => exact q
end
theorem atI_mod {α : Type} {l : List α} {i : Int} (h0 : 0 ≤ i) (h1 : i < l.length) : ∃ v, atI l i = some v ∧ l[i.toNat]? = some v := by
  obtain ⟨j, rfl⟩ := Int.eq_ofNat_of_zero_le h0
  have hj : j < l.length := by omega
  exact ⟨l[j], atI_nat (by simp [hj]), by simp [hj]⟩
theorem same_new {H : Hp} {D : Addr} {o : HO} (h : H D = none) : Same H (upd H D o) := fun b u e => by
  rw [upd_ne (ne_of_none e h)]; exact e
theorem ifb {c : Bool} {A B : Prop} (h : c = true → A) (h' : c = false → B) : if c = true then A else B := by
  cases c with
  | true => exact h rfl
  | false => exact h' rfl
theorem nf {b : Bool} (h : (!b) = false) : b = true := by cases b <;> simp_all
def isPlain : Expr → Bool
  | .Starred _ _ => false
  | _ => true
theorem star_plain {e : Expr} {es : List Expr} {env : Env} (h : isPlain e = true) : starEach (e :: es) env = (false, eval e env) :: starEach es env := by
  cases e <;> first
    | rfl
    | exact absurd h Bool.false_ne_true
theorem pa2 {X : Cx} {e : Expr} {es : List Expr} {te : TE} {t : TA} (ha : PE X e te) (hr : PA X es t) (hp : isPlain e = true := by rfl) : PA X (e :: es) (tCons te t) := pa_cons ha hr (star_plain hp)
end L2
set_option Elab.async false
set_option linter.all false
set_option maxRecDepth 100000
set_option maxHeartbeats 4000000
namespace HT
open PySem PyProof.Rows
open PySem.SeqAt
open PySem.AutoSeq1 (wpAny_loadPart')
open PySem.MeetsSeq PySem.MeetsSeq2 PySem.MeetsSeq3
end HT
set_option Elab.async false
set_option linter.all false
set_option maxRecDepth 100000
set_option maxHeartbeats 4000000
namespace L2
open PySem PySem.Spec PyProof.Rows
section
variable {X : Cx}
end
section
variable {X : Cx} {K : PySem.W.Frag}
theorem pg_tupK {pos : Pos} {es : List Expr} {k : Nat} {t : TGs} {n : Nat} (hK : X.K = K) (hc : X.calm = true) (h : PGs X es t)
    (hn : (assignEach es X.env).length = n) (hst : (assignEach es X.env).findIdx? (·.1) = none) : PG X (.Tuple es k pos) (gTup K n t) := hK ▸ pg_tup hc h hn hst
theorem pe_bmK {o e : Expr} {es : List Expr} {to : TE} {t : TA} {name : Str} {apos cpos : Pos} {T id : String} {r : V → List V → Hp → VK → Prop} (hK : X.K = K) (pa : PlainAttrs T) (slot : Slot T name id) (hty : typeOf (.builtin id) = pure (.type "method_descriptor")) (hm : MtR X id r) (ho : PE X o to) (ha : PA X (e :: es) t)
    (hbase : attributeBase o name X.env (eval o X.env) = eval o X.env)
    (hfew : ((backTo cpos (starEach (e :: es) X.env)).all (fun x => !x.1) && (backToKw cpos (keywordEach [] X.env)).all (fun x => x.1.isSome)
      && decide ((e :: es).length + ([] : List Keyword).length + (if ([] : List Keyword).isEmpty then 0 else 1) < 30)) = true)
    (hline : (apos.endLine == cpos.line) = true) (hs : starEach (e :: es) X.env = (false, eval e X.env) :: starEach es X.env) (hplain : (backTo cpos (starEach es X.env)).any (·.1) = false) :
    PE X (.Call (.Attribute o name apos) (e :: es) [] cpos) (tBM K T r to t) := hK ▸ pe_bm pa slot hty hm ho ha hbase hfew hline hs hplain
end
end L2
set_option Elab.async false
set_option linter.all false
set_option maxRecDepth 100000
set_option maxHeartbeats 4000000
namespace L2
open PySem PySem.Spec PyProof.Rows
theorem ObjOk.get {P : Program} {w : World} {H : Hp} {h : Heap} {a : Addr} {o : HO} (x : ObjOk P w H h a o) : ∃ u, h.get? a = some u := by
  cases o with
  | lst xs => obtain ⟨_, _, _, _, e⟩ := x; exact ⟨_, e⟩
  | tup xs => obtain ⟨_, _, _, ob, e, _⟩ := x; exact ⟨_, e⟩
  | dK kvs => obtain ⟨_, _, _, _, o, _, _, e, _⟩ := x; exact ⟨_, e⟩
  | dT kvs => exact False.elim x
  | set S n => obtain ⟨o, _, _, _, e, _⟩ := x; exact ⟨_, e⟩
  | ins C dx fs => obtain ⟨_, _, _, e, _⟩ := x; exact ⟨_, e⟩
  | own y => obtain ⟨_, e⟩ := x; exact ⟨_, e⟩
  | xd fs => obtain ⟨_, ⟨_, _, _, e, _⟩, _⟩ := x; exact ⟨_, e⟩
  | rng lo hi => obtain ⟨_, _, _, e⟩ := x; exact ⟨_, e⟩
  | frz ob u => obtain ⟨e, _⟩ := x; exact ⟨_, e⟩
  | tbl ps => exact ⟨_, show h.get? a = some _ from x⟩
  | met f y => exact ⟨_, show h.get? a = some _ from x⟩
  | ext φ => obtain ⟨_, e, _⟩ := x; exact e
/-- the exception at a, of the class cls, flies over B: B holds all objects but the frames of outer and what the exception brought -/
structure Fly (P : Program) (w : World) (outer : List Env) (H H' : Hp) (h0 : Heap) (a : Addr) (cls a0 : Value) (B h : Heap) : Prop where
  fl : Heap.FlyingW B outer a cls a0 h
  hok : HOk P w H' B
  keep : ∀ b o, h0.get? b = some o → H b = none → b ∉ frs outer → B.get? b = some o
  there : ∀ b o, h0.get? b = some o → b ∉ frs outer → ∃ o', B.get? b = some o'
  slot : ∀ b o, h0.get? b = some o → b ∈ frs outer → ∃ sl, h.get? b = some { o with slots := sl }
  free : ∀ b o, h0.get? b = some o → H b = none → H' b = none
  tups : ∀ b xs, H b = some (.tup xs) → H' b = some (.tup xs)
  frzs : ∀ b o u, H b = some (.frz o u) → H' b = some (.frz o u)
  tbls : ∀ b ps, H b = some (.tbl ps) → ∃ more, H' b = some (.tbl (ps ++ more))
section
variable {P : Program} {w : World} {outer : List Env} {H H' : Hp} {h0 : Heap} {a : Addr} {cls a0 : Value} {B h h2 : Heap}
theorem Fly.un (F : Fly P w outer H H' h0 a cls a0 B h) : Un (frs outer) [] H H' h0 h where
  keep := fun b o e n hf _ => F.fl.1 b o (F.keep b o e n hf)
  slot := fun b o e _ hf _ => F.slot b o e hf
  free := fun b o e n _ => F.free b o e n
  there := fun b o e _ => by
    by_cases hf : b ∈ frs outer
    · obtain ⟨sl, q⟩ := F.slot b o e hf; exact ⟨_, q⟩
    · obtain ⟨o', q⟩ := F.there b o e hf; exact ⟨o', F.fl.1 b o' q⟩
  tups := F.tups
  frzs := F.frzs
  tbls := F.tbls
theorem Fly.hn (F : Fly P w outer H H' h0 a cls a0 B h) : H' a = none := by
  cases q : H' a with
  | none => rfl
  | some o =>
    obtain ⟨u, e⟩ := (F.hok a o q).get
    rw [F.fl.2.1] at e; cases e
theorem Fly.on (F : Fly P w outer H H' h0 a cls a0 B h) (f2 : Heap.FlyingW B outer a cls a0 h2) (u2 : h.UpToSlots h2) : Fly P w outer H H' h0 a cls a0 B h2 where
  fl := f2
  hok := F.hok
  keep := F.keep
  there := F.there
  slot := fun b o e hf => by
    obtain ⟨sl, q⟩ := F.slot b o e hf
    obtain ⟨_, o1, q1, hd⟩ := F.fl.2.2.1.mem hf
    obtain ⟨sl2, q2⟩ := u2 b o1 q1 hd
    rw [q] at q1; cases q1
    exact ⟨sl2, q2⟩
  free := F.free
  tups := F.tups
  frzs := F.frzs
  tbls := F.tbls
end
def CXR (P : Program) (w : World) : CXT := fun outer H s E e s' =>
  ∃ a cls a0 B H', e = .ref a ∧ s'.os = s.os ∧ AllBare s'.gens ∧ Fly P w outer H H' s.heap a cls a0 B s'.heap ∧ E cls none H'
/-- an exception that leaves the code leaves the def -/
structure Leaves (X : Cx) (E : XK) : Prop where
  ex : X.ex = []
  st : X.stack = X.env :: X.outer
  fr : X.env.frame = some X.env.locals
  xe : ∀ e s', wpAny (model X.prog X.w) X.A (leaving X.env e) (fun _ s'' => CXR X.prog X.w X.outer X.H₀ X.s₀ E e s'') (fun e' s'' => CXR X.prog X.w X.outer X.H₀ X.s₀ E e' s'') s' → X.xe e s'
section
variable {X : Cx} {pins : List (Addr × Obj)} {σ : St} {H H' : Hp} {s : Shared} {E E' : XK}
theorem Leaves.mem (L : Leaves X E) {b : Addr} : b ∈ frs X.stack ↔ b = X.env.locals ∨ b ∈ X.fs := by
  unfold Cx.fs frs
  rw [L.st, List.filterMap_cons, L.fr]
  exact List.mem_cons
theorem Leaves.nofr (L : Leaves X E) (I : Inv X pins σ H s) {b : Addr} {o : Obj} (e : X.s₀.heap.get? b = some o) (h : b ∉ X.fs) : b ∉ frs X.stack := fun z => by
  rcases L.mem.mp z with z | z
  · have := Heap.lt_size e
    have h2 := I.ok.above
    rw [z] at this
    exact absurd (Nat.lt_of_lt_of_le this h2) (Nat.lt_irrefl _)
  · exact h z
end
end L2
set_option Elab.async false
set_option linter.all false
set_option maxRecDepth 100000
set_option maxHeartbeats 4000000
namespace L2
open PySem PySem.Spec PyProof.Rows
abbrev vErr : List Value := [.type "ValueError", .type "Exception", .type "BaseException", .type "object"]
/-- C is an own class of exceptions below ValueError -/
structure XC (K : PySem.W.Frag) (C : Addr) : Prop where
  q : PySem.W.excIn K C vErr "ValueError.__new__" = true
def IsXC (h : Heap) (C : Addr) (bm : List Value) : Prop := ∃ N nm q bs hdct sn sub ab col dd k0 k1 k2 k3 k5 mN,
  h.get? C = some (excClassObj nm q C N bs bm hdct sn sub ab col dd k0 k1 k2 k3 k5 "ValueError.__new__") ∧ h.Ns N mN ∧ mN "__init__" = none ∧ OwnTail h vErr bm
theorem XC.at {K : PySem.W.Frag} {C : Addr} {h : Heap} (x : XC K C) (X : K.In h) : ∃ bm, IsXC h C bm := by
  have q := x.q
  unfold PySem.W.excIn at q
  split at q
  · rename_i dd cd sl ho
    split at q
    · rename_i C' bm' k0 k1 k2 k3 n k5 hm hs
      simp only [Bool.and_eq_true, beq_iff_eq, Bool.not_eq_true'] at q
      obtain ⟨⟨⟨⟨⟨q1, q2⟩, hdel⟩, ht⟩, hok⟩, hni⟩ := q
      subst q1; subst q2
      obtain ⟨nm, bs, mro, ns, qn, hd, sn, sub, ab, col, del⟩ := cd
      dsimp only at hm hdel hok hni
      subst hm; subst hdel
      obtain ⟨sl⟩ := sl
      dsimp only at hs
      subst hs
      exact ⟨bm', ns, nm, qn, bs, hd, sn, sub, ab, col, dd, k0, k1, k2, k3, k5, _, X _ _ ho, .of_isNs (PySem.W.isNs_of_in X hok), PySem.W.nsMap_none_of_in X hok hni, PySem.W.tail_of_in X ht⟩
    · cases q
  · cases q
theorem IsXC.base {h : Heap} {C : Addr} {bm : List Value} (x : IsXC h C bm) : bm.contains (.type "BaseException") = true := by
  obtain ⟨_, _, _, _, _, _, _, _, _, _, _, _, _, _, _, _, _, _, _, T⟩ := x
  exact T.hasType (by decide)
section
variable {X : Cx} {C D : Addr} {bmD : List Value} {x : Str} {np cpos pos : Pos} {e : Expr} {es : List Expr} {t : TA} {E : XK}
end
end L2
set_option Elab.async false
set_option linter.all false
set_option maxRecDepth 100000
set_option maxHeartbeats 4000000
namespace L2
open PySem PySem.Spec PyProof.Rows
section
variable {P : Program} {w : World} {outer : List Env} {H H' : Hp} {h0 : Heap} {a : Addr} {cls a0 : Value} {B h : Heap}
theorem Fly.fresh (F : Fly P w outer H H' h0 a cls a0 B h) {b : Addr} {o : Obj} (e : h0.get? b = some o) : b ≠ a := by
  rintro rfl
  by_cases hf : b ∈ frs outer
  · obtain ⟨_, o1, q1, hd⟩ := F.fl.2.2.1.mem hf
    obtain ⟨oe, vs, he, _, hdd, _⟩ := F.fl.first
    rw [q1] at he; cases he
    exact hd vs hdd
  · obtain ⟨o', q⟩ := F.there b o e hf
    rw [F.fl.2.1] at q; cases q
end
abbrev TX := (St → XK) → TS
section
variable {X : Cx} {CX : CXT} {k : Nat} {f C : Addr} {fd : FuncData} {ps : List Str} {sp : Sp} {dvs : List V} {ds : List Value} {E : XK} {x m : Str} {p pos apos : Pos} {e o : Expr} {es : List Expr} {ta : TE} {t : TA}
end
section
variable {X : Cx} {e : Expr} {pos : Pos} {te : XK → TE}
end
end L2
set_option Elab.async false
set_option linter.all false
set_option maxRecDepth 100000
set_option maxHeartbeats 4000000
namespace L2
open PySem PySem.Spec PyProof.Rows
section
variable {X : Cx} {pins : List (Addr × Obj)} {σ : St} {H : Hp} {s : Shared}
end
def Ends.less (D : Ends) (i : Nat) : Ends := { nx := fun σ H => D.nx (σ.set i none) H, rt := D.rt, bk := fun σ H => D.bk (σ.set i none) H, ct := fun σ H => D.ct (σ.set i none) H }
section
variable {X : Cx} {i : Nat} {n x : Str} {C0 : Addr} {body suite : List Stmt} {b₀ : Stmt} {np hpos pos : Pos} {tb : TX} {ts : TS}
end
section
variable {P : Program} {w : World} {K : PySem.W.Frag} {mg : Str → Option Value} {base : Heap}
end
end L2
set_option Elab.async false
set_option linter.all false
set_option maxRecDepth 100000
set_option maxHeartbeats 4000000
namespace L2
open PySem PySem.Spec PyProof.Rows
structure XA (K : PySem.W.Frag) (C : Addr) : Prop where
  ga : PySem.W.findIn K (.ref C) "__getattribute__" = some (some (.builtin "BaseException.__getattribute__"))
  gh : PySem.W.findIn K (.ref C) "__getattr__" = some none
  cl : PySem.W.findIn K (.ref C) "__class__" = some (some (.builtin "object.__class__"))
section
variable {prog : Program} {w : World} {A : Around} {E : Value → Shared → Prop} {h : Heap} {g : Array GenState} {d : Drawn} {t : Nat} {os : OsState} {a : Addr} {o : Obj} {C : Addr} {bm : List Value} {K : PySem.W.Frag}
end
end L2
set_option Elab.async false
set_option linter.all false
set_option maxRecDepth 100000
set_option maxHeartbeats 4000000
namespace L2
open PySem PySem.Spec PyProof.Rows
theorem IsXC.obj {h : Heap} {C : Addr} {bm : List Value} (x : IsXC h C bm) : bm.contains (.type "object") = true := by
  obtain ⟨_, _, _, _, _, _, _, _, _, _, _, _, _, _, _, _, _, _, _, T⟩ := x
  exact T.hasType (by decide)
section
variable {X : Cx}
end
end L2
set_option Elab.async false
set_option linter.all false
set_option maxRecDepth 100000
set_option maxHeartbeats 4000000
namespace L2
open PySem PySem.Spec PyProof.Rows
section
variable {X : Cx}
/-- a statement that raises nothing, in a def that may raise -/
theorem PS.nox {st : Stmt} {t : TS} (h : PS X.nox st t) : PS X st t := fun pins s σ H D I hw =>
  wpAny_mono (h pins s σ H D (I.wish _) hw) (fun _ _ q => q.unwish) fun _ _ z => False.elim z
end
end L2
set_option Elab.async false
set_option linter.all false
set_option maxRecDepth 100000
set_option maxHeartbeats 4000000
namespace L2
open PySem PySem.Spec PyProof.Rows
section
variable {prog : Program} {w : World} {A : Around} {R : Result → Shared → Prop} {I : Addr} {fp wr : List Addr} {G : Array GenState → Array GenState → Prop} {n : Nat} {P : Nat → Value → Prop} {St : Nat → Shared → Prop}
end
end L2
set_option Elab.async false
set_option linter.all false
set_option maxRecDepth 100000
set_option maxHeartbeats 4000000
namespace L2
open PySem PySem.Spec PyProof.Rows
section
variable {X : Cx}
end
end L2
set_option Elab.async false
set_option linter.all false
set_option maxRecDepth 100000
set_option maxHeartbeats 4000000
namespace L2
open PySem PySem.Spec PyProof.Rows
section
variable {prog : Program} {w : World} {A : Around} {E : Value → Shared → Prop} {s : Shared}
end
section
variable {prog : Program} {w : World} {A : Around} {R : Result → Shared → Prop} {I : Addr} {fp wr : List Addr} {G : Array GenState → Array GenState → Prop} {n : Nat} {P : Nat → Value → Prop} {St : Nat → Shared → Prop}
end
/-- the pairs of texts and things that stand in a tuple -/
def Prs (H : Hp) (ps : List V) (kvs : List (Str × V)) : Prop := kvs.length = ps.length ∧ ∀ (i : Nat) (x : V) (p : Str × V), ps[i]? = some x → kvs[i]? = some p → ∃ b, x = .ref b ∧ H b = some (.tup [.str p.1, p.2])
section
variable {X : Cx}
end
end L2
set_option Elab.async false
set_option linter.all false
set_option maxRecDepth 100000
set_option maxHeartbeats 4000000
namespace L2
open PySem PySem.Spec PyProof.Rows
theorem comp_tupF {α : Type} {K : PySem.W.Frag} {a : Addr} {xs : List V} {src : List (Option Nat)} {g : TG} {tc : TT} {te : TE} {σ : St} {H : Hp} {Q : VK} (ds : List α) (p : α → Bool) (f : α → V) (hq : SqT K H a xs) (hl : ds.length = xs.length) (hz : xs.length ≤ sizeLine)
    (hs : ∀ (i : Nat) (x : V) (d : α), xs[i]? = some x → ds[i]? = some d → ∀ (R : VK) (N : Hp → Prop), (p d = true → R (f d) H) → (p d = false → N H) → g x (pick σ src) H fun σ3 H3 => tc σ3 H3 fun b H4 => if b = true then te σ3 H4 R else N H4)
    (q : ∀ D, H D = none → Q (.ref D) (upd H D (.lst ((ds.filter p).map f)))) :
    ∃ W : Nat → Nat → List V → Hp → Prop, (∃ m, W 0 m [] H) ∧ ∀ i m out H', W i m out H' →
      ((Itt K a).stop i H' ∧ ∀ D, H' D = none → Q (.ref D) (upd H' D (.lst out))) ∨
      ((Itt K a).go i H' ∧ out.length < sizeLine ∧ ∀ x H2, (Itt K a).yld i H' x H2 → g x (pick σ src) H2 fun σ3 H3 => tc σ3 H3 fun b H4 =>
        if b = true then te σ3 H4 fun v H5 => ∃ m', m' < m ∧ W (i + 1) m' (out ++ [v]) H5 else ∃ m', m' < m ∧ W (i + 1) m' out H4) := by
  refine ⟨fun i m out H' => H' = H ∧ i ≤ xs.length ∧ m = xs.length - i ∧ out = ((ds.take i).filter p).map f, ⟨_, rfl, Nat.zero_le _, rfl, rfl⟩, ?_⟩
  rintro i m out H' ⟨rfl, hi', rfl, rfl⟩
  by_cases hlt : i < xs.length
  · have hld : (((ds.take i).filter p).map f).length ≤ i := by
      rw [List.length_map]
      refine Nat.le_trans (List.length_filter_le _ _) ?_
      rw [List.length_take]; omega
    refine .inr ⟨⟨xs, xs[i], hq, by simp [hlt]⟩, by omega, fun x H2 y => ?_⟩
    obtain ⟨e, y⟩ := y
    subst e
    have hx := y xs hq
    have hd : ds[i]? = some ds[i] := List.getElem?_eq_getElem _
    refine hs i x _ hx hd (fun v H5 => ∃ m', m' < xs.length - i ∧ H5 = H2 ∧ i + 1 ≤ xs.length ∧ m' = xs.length - (i + 1) ∧ ((ds.take i).filter p).map f ++ [v] = ((ds.take (i + 1)).filter p).map f) (fun H5 => ∃ m', m' < xs.length - i ∧ H5 = H2 ∧ i + 1 ≤ xs.length ∧ m' = xs.length - (i + 1) ∧ ((ds.take i).filter p).map f = ((ds.take (i + 1)).filter p).map f) (fun hp => ?_) (fun hp => ?_)
    · refine ⟨_, ?_, rfl, hlt, rfl, ?_⟩
      · omega
      · rw [List.take_add_one, hd, List.filter_append, List.map_append]
        simp [hp]
    · refine ⟨_, ?_, rfl, hlt, rfl, ?_⟩
      · omega
      · rw [List.take_add_one, hd, List.filter_append, List.map_append]
        simp [hp]
  · have e : i = xs.length := by omega
    refine .inl ⟨⟨xs, hq, by omega⟩, fun D hD => ?_⟩
    have e2 : ds.take i = ds := List.take_of_length_le (by omega)
    rw [e2]
    exact q D hD
theorem rd_comp_tup {α : Type} {K : PySem.W.Frag} {a : Addr} {xs : List V} {src : List (Option Nat)} {g : TG} {te t0 : TE} {σ : St} {H : Hp} {Q : VK} (ds : List α) (f : α → V) (hq : SqT K H a xs) (hl : ds.length = xs.length) (hz : xs.length ≤ sizeLine) (h0 : ∀ R : VK, R (.ref a) H → t0 σ H R)
    (hs : ∀ (i : Nat) (x : V) (d : α), xs[i]? = some x → ds[i]? = some d → ∀ R : VK, R (f d) H → g x (pick σ src) H fun σ3 H3 => te σ3 H3 R) (q : ∀ D, H D = none → Q (.ref D) (upd H D (.lst (ds.map f)))) :
    tComp (iTup K t0) src g tTrue te σ H Q := h0 _ ⟨a, rfl, ⟨_, hq⟩, comp_tupF (Q := Q) ds (fun _ => true) f hq hl hz (fun i x d h1 h2 R N hR _ => hs i x d h1 h2 R (hR rfl)) (by rw [List.filter_eq_self.mpr (fun _ _ => rfl)]; exact q)⟩
theorem all_tup {α : Type} {K : PySem.W.Frag} {a : Addr} {xs : List V} {src : List (Option Nat)} {g : TG} {te t0 : TE} {σ : St} {H : Hp} {Q : VK} (ds : List α) (f : α → Bool) (hq : SqT K H a xs) (hl : ds.length = xs.length) (hz : xs.length ≤ sizeLine) (h0 : ∀ R : VK, R (.ref a) H → t0 σ H R)
    (hs : ∀ (i : Nat) (x : V) (d : α), xs[i]? = some x → ds[i]? = some d → ∀ R : VK, R (.bl (f d)) H → g x (pick σ src) H fun σ3 H3 => te σ3 H3 R) (q : ∀ H', Same H H' → Q (.bl (ds.all f)) H') :
    tCB (fun xs H Q => ∃ (a : Addr) (bs : List Bool), xs = [.ref a] ∧ SqL K H a (bs.map V.bl) ∧ Q (.bl (bs.all id)) H) (tCons (tComp (iTup K t0) src g tTrue te) tNil) σ H Q := by
  dsimp only [tCB, tCons, tNil]
  refine rd_comp_tup ds (fun d => .bl (f d)) hq hl hz h0 hs fun D hD => ?_
  refine ⟨D, ds.map f, rfl, SqL.of ?_, ?_⟩
  · rw [upd_same, List.map_map]; rfl
  · rw [List.all_map]
    exact q _ (same_new hD)
section
variable {X : Cx}
end
end L2
set_option Elab.async false
set_option linter.all false
set_option maxRecDepth 100000
set_option maxHeartbeats 4000000
namespace L2
open PySem PySem.Spec PyProof.Rows
theorem hu1 {n : Nat} (h : n + 64 < cLine) : n + 1 < cLine := by omega
mutual
def Sx (H : Hp) : PyData → V → Prop
  | .none, v => v = .non
  | .bool b, v => v = .bl b
  | .int i, v => v = .int i
  | .str z, v => v = .str z ∧ z.cps.size ≤ sizeLine
  | .list ds, v => ∃ a xs, v = .ref a ∧ H a = some (.lst xs) ∧ SxAll H ds xs
  | .tuple ds, v => ∃ a xs, v = .ref a ∧ H a = some (.tup xs) ∧ SxAll H ds xs
  | .dict _, v => ∃ a kvs, v = .ref a ∧ H a = some (.dK kvs)
def SxAll (H : Hp) : List PyData → List V → Prop
  | [], xs => xs = []
  | d :: ds, xs => ∃ y ys, xs = y :: ys ∧ Sx H d y ∧ SxAll H ds ys
end
def kdD : PyData → Kd
  | .none => .non | .bool _ => .bl | .int _ => .int | .str _ => .str | .list _ => .lst | .tuple _ => .tup | .dict _ => .dct
section
variable {H H' : Hp} {K : PySem.W.Frag}
theorem sx_non : Sx H .none .non := by simp only [Sx]
theorem sx_bl (b : Bool) : Sx H (.bool b) (.bl b) := by simp only [Sx]
theorem sx_int (i : Int) : Sx H (.int i) (.int i) := by simp only [Sx]
theorem sx_str {z : Str} (h : z.cps.size ≤ sizeLine) : Sx H (.str z) (.str z) := by simp only [Sx]; exact ⟨trivial, h⟩
theorem sx_lst {a : Addr} {xs : List V} {ds : List PyData} (e : H a = some (.lst xs)) (h : SxAll H ds xs) : Sx H (.list ds) (.ref a) := by simp only [Sx]; exact ⟨a, xs, rfl, e, h⟩
theorem sx_tup {a : Addr} {xs : List V} {ds : List PyData} (e : H a = some (.tup xs)) (h : SxAll H ds xs) : Sx H (.tuple ds) (.ref a) := by simp only [Sx]; exact ⟨a, xs, rfl, e, h⟩
theorem sx_dct {a : Addr} {kvs : List (Key × V)} {l : List (PyData × PyData)} (e : H a = some (.dK kvs)) : Sx H (.dict l) (.ref a) := by simp only [Sx]; exact ⟨a, kvs, rfl, e⟩
theorem sx_nil : SxAll H [] [] := by simp only [SxAll]
theorem sx_cons {d : PyData} {ds : List PyData} {x : V} {xs : List V} (h : Sx H d x) (t : SxAll H ds xs) : SxAll H (d :: ds) (x :: xs) := by simp only [SxAll]; exact ⟨x, xs, rfl, h, t⟩
theorem Sx.tup {ds : List PyData} {v : V} (h : Sx H (.tuple ds) v) : ∃ a xs, v = .ref a ∧ H a = some (.tup xs) ∧ SxAll H ds xs := by simpa only [Sx] using h
theorem Sx.str {z : Str} {v : V} (h : Sx H (.str z) v) : v = .str z ∧ z.cps.size ≤ sizeLine := by simpa only [Sx] using h
theorem SxAll.nil {xs : List V} (h : SxAll H [] xs) : xs = [] := by simpa only [SxAll] using h
theorem SxAll.cons {d : PyData} {ds : List PyData} {xs : List V} (h : SxAll H (d :: ds) xs) : ∃ y ys, xs = y :: ys ∧ Sx H d y ∧ SxAll H ds ys := by simpa only [SxAll] using h
mutual
theorem Sx.same (s : Same H H') : ∀ (d : PyData) {v : V}, Sx H d v → Sx H' d v
  | .none, v, h => by simpa only [Sx] using h
  | .bool b, v, h => by simpa only [Sx] using h
  | .int i, v, h => by simpa only [Sx] using h
  | .str z, v, h => by simpa only [Sx] using h
  | .list ds, v, h => by
    have h : ∃ a xs, v = .ref a ∧ H a = some (.lst xs) ∧ SxAll H ds xs := by simpa only [Sx] using h
    obtain ⟨a, xs, rfl, e, t⟩ := h
    exact sx_lst (s _ _ e) (SxAll.same s ds t)
  | .tuple ds, v, h => by
    obtain ⟨a, xs, rfl, e, t⟩ := h.tup
    exact sx_tup (s _ _ e) (SxAll.same s ds t)
  | .dict l, v, h => by
    have h : ∃ a kvs, v = .ref a ∧ H a = some (.dK kvs) := by simpa only [Sx] using h
    obtain ⟨a, kvs, rfl, e⟩ := h
    exact sx_dct (s _ _ e)
theorem SxAll.same (s : Same H H') : ∀ (ds : List PyData) {xs : List V}, SxAll H ds xs → SxAll H' ds xs
  | [], xs, h => by rw [h.nil]; exact sx_nil
  | d :: ds, xs, h => by
    obtain ⟨y, ys, rfl, h1, h2⟩ := h.cons
    exact sx_cons (Sx.same s d h1) (SxAll.same s ds h2)
end
mutual
theorem Sx.dt : ∀ (d : PyData) {v : V}, d.canLay0 = true → Sx H d v → Dt K H d v
  | .none, v, _, h => by simp only [Sx] at h; simp only [Dt]; exact h
  | .bool b, v, _, h => by simp only [Sx] at h; simp only [Dt]; exact h
  | .int i, v, _, h => by simp only [Sx] at h; simp only [Dt]; exact h
  | .str z, v, _, h => by simp only [Sx] at h; simp only [Dt]; exact h.1
  | .list ds, v, c, h => by
    have h : ∃ a xs, v = .ref a ∧ H a = some (.lst xs) ∧ SxAll H ds xs := by simpa only [Sx] using h
    obtain ⟨a, xs, rfl, e, t⟩ := h
    simp only [Dt]
    exact ⟨a, xs, rfl, SqL.of e, SxAll.dt ds (by simpa only [PyData.canLay0] using c) t⟩
  | .tuple ds, v, c, h => by
    obtain ⟨a, xs, rfl, e, t⟩ := h.tup
    simp only [Dt]
    exact ⟨a, xs, rfl, SqT.of e, SxAll.dt ds (by simpa only [PyData.canLay0] using c) t⟩
  | .dict l, v, c, h => by simp only [PyData.canLay0] at c; exact absurd c Bool.false_ne_true
theorem SxAll.dt : ∀ (ds : List PyData) {xs : List V}, PyData.canLayAll0 ds = true → SxAll H ds xs → DtAll K H ds xs
  | [], xs, _, h => by simp only [DtAll]; exact h.nil
  | d :: ds, xs, c, h => by
    obtain ⟨y, ys, rfl, h1, h2⟩ := h.cons
    simp only [PyData.canLayAll0, Bool.and_eq_true] at c
    simp only [DtAll]
    exact ⟨y, ys, rfl, Sx.dt d c.1 h1, SxAll.dt ds c.2 h2⟩
end
theorem Sx.kd : ∀ {d : PyData} {v : V}, Sx H d v → KdOf H v (kdD d)
  | .none, v, h => by simp only [Sx] at h; subst h; exact .non
  | .bool b, v, h => by simp only [Sx] at h; subst h; exact .bl b
  | .int i, v, h => by simp only [Sx] at h; subst h; exact .int i
  | .str z, v, h => by simp only [Sx] at h; obtain ⟨rfl, _⟩ := h; exact .str z
  | .list ds, v, h => by simp only [Sx] at h; obtain ⟨a, xs, rfl, e, _⟩ := h; exact .lst e
  | .tuple ds, v, h => by simp only [Sx] at h; obtain ⟨a, xs, rfl, e, _⟩ := h; exact .tup e
  | .dict l, v, h => by simp only [Sx] at h; obtain ⟨a, kvs, rfl, e⟩ := h; exact .dct e
theorem SxAll.len : ∀ {ds : List PyData} {xs : List V}, SxAll H ds xs → ds.length = xs.length
  | [], xs, h => by rw [h.nil]; rfl
  | d :: ds, xs, h => by
    obtain ⟨y, ys, rfl, _, h2⟩ := h.cons
    rw [List.length_cons, List.length_cons, SxAll.len h2]
theorem SxAll.get : ∀ {ds : List PyData} {xs : List V} (i : Nat) {x : V} {d : PyData}, SxAll H ds xs → xs[i]? = some x → ds[i]? = some d → Sx H d x
  | [], xs, i, x, d, h, e1, e2 => by simp at e2
  | d0 :: ds, xs, i, x, d, h, e1, e2 => by
    obtain ⟨y, ys, rfl, h1, h2⟩ := h.cons
    cases i with
    | zero => simp at e1 e2; subst e1 e2; exact h1
    | succ i => exact SxAll.get i h2 (by simpa using e1) (by simpa using e2)
theorem SxAll.app : ∀ {ds es : List PyData} {xs ys : List V}, SxAll H ds xs → SxAll H es ys → SxAll H (ds ++ es) (xs ++ ys)
  | [], es, xs, ys, h, k => by rw [h.nil]; exact k
  | d :: ds, es, xs, ys, h, k => by
    obtain ⟨y, zs, rfl, h1, h2⟩ := h.cons
    exact sx_cons h1 (SxAll.app h2 k)
theorem SxAll.take : ∀ {ds : List PyData} {xs : List V} (n : Nat), SxAll H ds xs → SxAll H (ds.take n) (xs.take n)
  | [], xs, n, h => by rw [h.nil]; simp only [List.take_nil]; exact sx_nil
  | d :: ds, xs, 0, h => by simp only [List.take_zero]; exact sx_nil
  | d :: ds, xs, n + 1, h => by
    obtain ⟨y, zs, rfl, h1, h2⟩ := h.cons
    exact sx_cons h1 (SxAll.take n h2)
theorem SxAll.drop : ∀ {ds : List PyData} {xs : List V} (n : Nat), SxAll H ds xs → SxAll H (ds.drop n) (xs.drop n)
  | [], xs, n, h => by rw [h.nil]; simp only [List.drop_nil]; exact sx_nil
  | d :: ds, xs, 0, h => h
  | d :: ds, xs, n + 1, h => by
    obtain ⟨y, zs, rfl, h1, h2⟩ := h.cons
    exact SxAll.drop n h2
theorem SxAll.snoc {ds : List PyData} {xs : List V} {d : PyData} {x : V} (h : SxAll H ds xs) (k : Sx H d x) : SxAll H (ds ++ [d]) (xs ++ [x]) := h.app (sx_cons k sx_nil)
end
end L2
set_option Elab.async false
set_option linter.all false
set_option maxRecDepth 100000
set_option maxHeartbeats 4000000
namespace L2
open PySem PySem.Spec PyProof.Rows
def Md (te : TE) (σ : St) (H : Hp) (d : PyData) : Prop := ∀ H1, Same H H1 → ∀ R : VK, (∀ v H2, Same H1 H2 → Sx H2 d v → R v H2) → te σ H1 R
def MdA (ta : TA) (σ : St) (H : Hp) (ds : List PyData) : Prop := ∀ H1, Same H H1 → ∀ R : List V → Hp → Prop, (∀ vs H2, Same H1 H2 → SxAll H2 ds vs → R vs H2) → ta σ H1 R
section
variable {σ : St} {H : Hp} {te tb : TE} {ta : TA} {d : PyData} {ds : List PyData}
theorem smz {n : Nat} (h : n ≤ 1000) : n ≤ sizeLine := Nat.le_of_lt (small1000 h)
theorem mk_non : Md (tC .non) σ H .none := fun H1 _ R q => q _ H1 (Same.refl _) sx_non
theorem mk_str {z : Str} (h : z.cps.size ≤ 1000) : Md (tC (.str z)) σ H (.str z) := fun H1 _ R q => q _ H1 (Same.refl _) (sx_str (smz h))
theorem mk_var {i : Nat} {v : V} (e : σ[i]? = some (some v)) (h : Sx H d v) : Md (tVar i) σ H d := fun H1 s R q => ⟨v, e, q v H1 (Same.refl _) (Sx.same s d h)⟩
theorem mkA_nil : MdA tNil σ H [] := fun H1 _ R q => q _ H1 (Same.refl _) sx_nil
theorem mkA_cons (h : Md te σ H d) (k : MdA ta σ H ds) : MdA (tCons te ta) σ H (d :: ds) := fun H1 s1 R q =>
  h H1 s1 _ fun v H2 s2 hv => k H2 (s1.trans s2) _ fun vs H3 s3 hvs => q (v :: vs) H3 (s2.trans s3) (sx_cons (Sx.same s3 d hv) hvs)
theorem mk_tup (k : MdA ta σ H ds) (hz : ds.length ≤ 1000) : Md (tTup ta) σ H (.tuple ds) := fun H1 s1 R q =>
  k H1 s1 _ fun vs H2 s2 hvs => ⟨by rw [← hvs.len]; exact smz hz, fun p hp => q _ _ (s2.trans (same_new hp)) (sx_tup upd_same (SxAll.same (same_new hp) _ hvs))⟩
theorem mk_lst (k : MdA ta σ H ds) (hz : ds.length ≤ 1000) : Md (tLst ta) σ H (.list ds) := fun H1 s1 R q =>
  k H1 s1 _ fun vs H2 s2 hvs => ⟨by rw [← hvs.len]; exact smz hz, fun p hp => q _ _ (s2.trans (same_new hp)) (sx_lst upd_same (SxAll.same (same_new hp) _ hvs))⟩
/-- a display of data, item by item -/
theorem Sx.lst {v : V} (h : Sx H (.list ds) v) : ∃ a xs, v = .ref a ∧ H a = some (.lst xs) ∧ SxAll H ds xs := by simpa only [Sx] using h
/-- tuples stay where only lists change -/
def TSame (H H' : Hp) : Prop := ∀ b xs, H b = some (.tup xs) → H' b = some (.tup xs)
theorem Same.t {H H' : Hp} (s : Same H H') : TSame H H' := fun b xs e => s _ _ e
theorem tsame_lst {H : Hp} {a : Addr} {xs ys : List V} (e : H a = some (.lst xs)) : TSame H (upd H a (.lst ys)) := fun b zs eb => by
  rw [upd_ne (ne_of eb e (by simp))]; exact eb
theorem TSame.trans {H H1 H2 : Hp} (a : TSame H H1) (b : TSame H1 H2) : TSame H H2 := fun c xs e => b _ _ (a _ _ e)
end
mutual
/-- data of texts and tuples alone -/
def flatT : PyData → Bool
  | .list _ => false
  | .dict _ => false
  | .tuple ds => flatTs ds
  | .none | .bool _ | .int _ | .str _ => true
def flatTs : List PyData → Bool
  | [] => true
  | d :: ds => flatT d && flatTs ds
end
mutual
theorem Sx.tsame {H H' : Hp} (s : TSame H H') : ∀ (d : PyData) {v : V}, flatT d = true → Sx H d v → Sx H' d v
  | .none, v, _, h => by simpa only [Sx] using h
  | .bool b, v, _, h => by simpa only [Sx] using h
  | .int i, v, _, h => by simpa only [Sx] using h
  | .str z, v, _, h => by simpa only [Sx] using h
  | .list ds, v, f, h => by simp only [flatT] at f; exact absurd f Bool.false_ne_true
  | .tuple ds, v, f, h => by
    obtain ⟨a, xs, rfl, e, t⟩ := h.tup
    exact sx_tup (s _ _ e) (SxAll.tsame s ds (by simpa only [flatT] using f) t)
  | .dict l, v, f, h => by simp only [flatT] at f; exact absurd f Bool.false_ne_true
theorem SxAll.tsame {H H' : Hp} (s : TSame H H') : ∀ (ds : List PyData) {xs : List V}, flatTs ds = true → SxAll H ds xs → SxAll H' ds xs
  | [], xs, _, h => by rw [h.nil]; exact sx_nil
  | d :: ds, xs, f, h => by
    obtain ⟨y, ys, rfl, h1, h2⟩ := h.cons
    simp only [flatTs, Bool.and_eq_true] at f
    exact sx_cons (Sx.tsame s d f.1 h1) (SxAll.tsame s ds f.2 h2)
end
/-- over a written list of data; the heap only grows, of the names I is true -/
theorem for_data {K : PySem.W.Frag} {te : TE} {g : TG} {tb : TS} {D : Ends} {σ : St} {H : Hp} {ds : List PyData} (I : St → Prop) (hm : Md te σ H (.list ds)) (h0 : I σ)
    (hs : ∀ (i : Nat) (d : PyData) (y : V) (σ' : St) (H' : Hp), ds[i]? = some d → Same H H' → Sx H' d y → I σ' → ∀ N : St → Hp → Prop, (∀ σ2 H2, Same H' H2 → I σ2 → N σ2 H2) → g y σ' H' fun σ2 H2 => tb { D with nx := N, ct := N, bk := D.nx } σ2 H2)
    (hd : ∀ σ' H', Same H H' → I σ' → D.nx σ' H') : tFor (iList K te) g tb D σ H := by
  refine hm H (Same.refl H) _ fun v H1 s1 hv => ?_
  obtain ⟨a, xs, rfl, e, hx⟩ := Sx.lst hv
  refine ⟨a, rfl, ⟨_, SqL.of e⟩, ?_⟩
  refine for_list (D := D) (K := K) (a := a) (xs := xs) (fun i σ' H' => Same H1 H' ∧ I σ') ⟨Same.refl _, h0⟩ (fun i σ' H' _ h => SqL.of (h.1 _ _ e)) (fun i y σ' H' hi h => ?_) (fun σ' H' h => hd σ' H' (s1.trans h.1) h.2)
  have hi' : i < ds.length := by rw [hx.len]; exact (List.getElem?_eq_some_iff.mp hi).1
  exact hs i _ y σ' H' (List.getElem?_eq_getElem hi') (s1.trans h.1) (Sx.same h.1 _ (SxAll.get i hx hi (List.getElem?_eq_getElem hi'))) h.2 _ fun σ2 H2 s i2 => ⟨h.1.trans s, i2⟩
end L2
set_option Elab.async false
set_option linter.all false
set_option maxRecDepth 100000
set_option maxHeartbeats 4000000
namespace L2
open PySem PySem.Spec PyProof.Rows
abbrev IsTp (h : Heap) (T : Addr) (arr : Array Value) : Prop := h.get? T = some { cls := .type "tuple", data := .seq arr }
theorem it_ext {h h' : Heap} {a b l : Addr} {i : Nat} (hs : Heap.ExtBut b h h') (n : a ≠ b) (x : h.IsTupleIter a l i) : h'.IsTupleIter a l i := x.extBut hs n
theorem it_up {h h' : Heap} {a l : Addr} {i : Nat} (k : ∀ o, h.get? a = some o → h'.get? a = some o) (x : h.IsTupleIter a l i) : h'.IsTupleIter a l i := let ⟨o, e, r⟩ := x; ⟨o, k o e, r⟩
section
variable {prog : Program} {w : World} {A : Around} {E : Value → Shared → Prop} {s : Shared}
theorem sz3 {n : Nat} (h : n ≤ 3) : n ≤ sizeLine := smz (Nat.le_trans h (by decide))
theorem updSeq_tp {T : Addr} {arr : Array Value} {x : Value} {k : Nat} {Q : Unit → Shared → Prop} (hT : IsTp s.heap T arr) (hz : arr.size ≤ 3) (h : ∀ h', IsTp h' T (arr.setIfInBounds k x) → Heap.SameBut T s.heap h' → Q () { s with heap := h' }) : wpAny (model prog w) A (updateSeq T (·.setIfInBounds k x)) Q E s := by
  refine wpAny_updateSeq hT rfl (h _ ?_ (Heap.SameBut.update ..)) (hz := sz3 hz) (_hz' := by have := sz3 hz; simp; omega)
  show Heap.get? _ _ = _
  rw [Heap.get?_update_self _ hT rfl] ; simp [Obj.mapSeq]
theorem nextOf_tup {it l : Addr} {i : Nat} {items : Array Value} {x : Value} {Q : Value → Shared → Prop} (hit : s.heap.IsTupleIter it l i) (hl : s.heap.IsTuple l items) (hx : items[i]? = some x) (hQ : ∀ h', h'.IsTupleIter it l (i + 1) → Heap.SameBut it s.heap h' → Q x { s with heap := h' }) :
    wpAny (model prog w) A (Builtin.SmallTypes.nextOf (.ref it)) Q E s := by
  obtain ⟨o, ho, hc, hd⟩ := id hit ; obtain ⟨ol, hol, _, nl, hdl⟩ := hl
  unfold Builtin.SmallTypes.nextOf
  refine wpAny_bind (wpAny_callSpecial?_slot (name := Str.ofString "__next__") hit.typeIs F.slot_tuple_iterator_next (wpAny_call_entry F.slot_tuple_iterator_next hit.typeIs F.entry_tuple_iterator_next ?_ (F.args_tuple_iterator_next_1 _)))
  show wpAny _ _ (field (.ref it) 0 >>= _) _ _ s ; refine wpAny_bind (wpAny_field ho hd (x := .ref l) rfl ?_)
  show wpAny _ _ (if (Value.ref l == Value.none) = true then _ else _) _ _ s ; rw [if_neg (show ¬ ((Value.ref l == Value.none) = true) from Bool.false_ne_true)]
  show wpAny _ _ (field (.ref it) 1 >>= _) _ _ s ; refine wpAny_bind (wpAny_field ho hd (x := .int i 0) rfl ?_)
  show wpAny _ _ (seqItems? (.ref l) >>= _) _ _ s ; refine wpAny_bind (wpAny_seqItems hol hdl ?_)
  simp only [Int.toNat_natCast, hx]
  refine wpAny_bind (wpAny_setField ho hd (by simp) (wpAny_pure ⟨x, rfl, wpAny_pure (hQ _ ⟨_, Heap.get?_update_self _ ho (Obj.isFreed_of_fields (Obj.data_mapFields hd _)), (Obj.cls_mapFields ..).trans hc, by rw [Obj.data_mapFields hd]; simp [rawInt]⟩ (Heap.SameBut.update ..))⟩))
theorem nextOf_tup_end {it l : Addr} {i : Nat} {items : Array Value} {Q : Value → Shared → Prop} (hh : A.handled = none) (hit : s.heap.IsTupleIter it l i) (hl : s.heap.IsTuple l items) (hx : items[i]? = none)
    (hE : ∀ h' e, Heap.ExtBut it s.heap h' → (∃ o, h'.get? e = some o ∧ o.cls = .type "StopIteration") → E (.ref e) { s with heap := h' }) : wpAny (model prog w) A (Builtin.SmallTypes.nextOf (.ref it)) Q E s := by
  obtain ⟨o, ho, hc, hd⟩ := id hit ; obtain ⟨ol, hol, _, nl, hdl⟩ := hl
  unfold Builtin.SmallTypes.nextOf
  refine wpAny_bind (wpAny_callSpecial?_slot (name := Str.ofString "__next__") hit.typeIs F.slot_tuple_iterator_next (wpAny_call_entry F.slot_tuple_iterator_next hit.typeIs F.entry_tuple_iterator_next ?_ (F.args_tuple_iterator_next_1 _)))
  show wpAny _ _ (field (.ref it) 0 >>= _) _ _ s ; refine wpAny_bind (wpAny_field ho hd (x := .ref l) rfl ?_)
  show wpAny _ _ (if (Value.ref l == Value.none) = true then _ else _) _ _ s ; rw [if_neg (show ¬ ((Value.ref l == Value.none) = true) from Bool.false_ne_true)]
  show wpAny _ _ (field (.ref it) 1 >>= _) _ _ s ; refine wpAny_bind (wpAny_field ho hd (x := .int i 0) rfl ?_)
  show wpAny _ _ (seqItems? (.ref l) >>= _) _ _ s ; refine wpAny_bind (wpAny_seqItems hol hdl ?_)
  simp only [Int.toNat_natCast, hx]
  refine wpAny_bind (wpAny_rule (wpAny_bind (wpAny_setField ho hd (by simp) ?_))) ; show wpAny _ _ (newExc (.type "StopIteration") [] >>= _) _ _ _
  refine wpAny_bind ?_ ; simp only [newExc, newTuple] ; refine wpAny_bind (wpAny_newObj_type ?_ (by size_fits))
  refine wpAny_bind (m := firstArgMember _ _) (wpAny_of_eq (a := Value.none) (by first | rfl | (simp only [firstArgMember]; rfl)) ?_) ; refine wpAny_newObj_type ?_ (by size_fits)
  simp only [raiseNew] ; refine wpAny_bind (wpAny_handled ?_)
  first | rw [show A.in1.handled = none from hh] | rw [hh]
  refine wpAny_bind (wpAny_pure (wpAny_throw (hE _ _ (((Heap.SameBut.update ..).extBut.push _).push _) ⟨_, Heap.get?_push_size _ rfl, rfl⟩)))
end
/-- a zip of 2 tuples behind i turns, free to hand out -/
def ZS2 (n l0 l1 : Nat) (i : Nat) (h : Heap) : Prop := IsZip h (n + 4) (n + 2) (n + 3) .none ∧ IsTp h (n + 2) #[.ref n, .ref (n + 1)] ∧ (∃ arr : Array Value, arr.size = 2 ∧ IsTp h (n + 3) arr) ∧ h.IsTupleIter n l0 i ∧ h.IsTupleIter (n + 1) l1 i
section
variable {prog : Program} {w : World} {A : Around} {E : Value → Shared → Prop} {s : Shared} {n l0 l1 : Nat} {i : Nat} {xs0 xs1 : Array Value}
theorem zip2_item {x0 x1 : Value} {arr : Array Value} (na : arr.size = 2) {Q : Value → Shared → Prop} (b0 : l0 < n) (b1 : l1 < n) (hz : IsZip s.heap (n + 4) (n + 2) (n + 3) .none) (hI : IsTp s.heap (n + 2) #[.ref n, .ref (n + 1)]) (hO : IsTp s.heap (n + 3) arr) (j0 : s.heap.IsTupleIter n l0 i) (j1 : s.heap.IsTupleIter (n + 1) l1 i) (t0 : s.heap.IsTuple l0 xs0) (t1 : s.heap.IsTuple l1 xs1) (e0 : xs0[i]? = some x0) (e1 : xs1[i]? = some x1)
    (hQ : ∀ h', IsZip h' (n + 4) (n + 2) (n + 3) (rawInt s.heap.objs.size) → IsTp h' (n + 3) #[x0, x1] → h'.IsTupleIter n l0 (i + 1) → h'.IsTupleIter (n + 1) l1 (i + 1) → IsTp h' s.heap.objs.size #[x0, x1] → (∀ c o, c ≠ (n + 4) → c ≠ (n + 3) → c ≠ n → c ≠ (n + 1) → s.heap.get? c = some o → h'.get? c = some o) → Q (.ref s.heap.objs.size) { s with heap := h' }) :
    wpAny (model prog w) A (Builtin.«zip.__next__» ⟨[.ref (n + 4)], []⟩) (fun fin s' => ∃ v, fin = .done (.ret v) ∧ Q v s') E s := by
  show wpAny _ _ (field (.ref (n + 4)) 2 >>= _) _ _ _ ; refine wpAny_bind (wpAny_field hz rfl (x := .bool false) rfl ?_)
  show wpAny _ _ (field (.ref (n + 4)) 3 >>= _) _ _ _ ; refine wpAny_bind (wpAny_field hz rfl (x := .ref (n + 2)) rfl ?_)
  refine wpAny_bind (wpAny_seqItems hI rfl ?_) ; show wpAny _ _ (Builtin.SmallTypes.ownedTupleIsFree (.ref (n + 4)) >>= _) _ _ _
  refine wpAny_bind ?_ ; unfold Builtin.SmallTypes.ownedTupleIsFree
  refine wpAny_bind (wpAny_field hz rfl (x := .none) rfl (wpAny_pure ?_)) ; simp only [if_true]
  refine wpAny_bind (wpAny_rule ?_) ; refine wpAny_bind (wpAny_field hz rfl (x := .ref (n + 3)) rfl ?_)
  refine wpAny_bind (wpAny_setField_rec hz (by simp) fun h0 hz0 q0 => ?_) ; replace hz0 : IsZip h0 (n + 4) (n + 2) (n + 3) .ellipsis := hz0
  have k0 : ∀ c o, c ≠ (n + 4) → s.heap.get? c = some o → h0.get? c = some o := fun c o d e => q0.extBut _ _ d e
  have O0 : IsTp h0 (n + 3) arr := k0 _ _ (by show @Ne Nat _ _; omega) hO
  refine wpAny_bind ?_ ; simp only [List.zipIdx_cons, List.zipIdx_nil, List.forIn_cons, List.forIn_nil]
  -- the 0. iterator
  have J0 : Heap.IsTupleIter h0 n l0 i := by obtain ⟨o, a1, a2⟩ := j0; exact ⟨o, k0 _ _ (by show @Ne Nat _ _; omega) a1, a2⟩
  have T0 : Heap.IsTuple h0 l0 xs0 := by obtain ⟨o, a1, a2⟩ := t0; exact ⟨o, k0 _ _ (by show @Ne Nat _ _; omega) a1, a2⟩
  refine wpAny_bind (wpAny_bind (wpAny_onRaise ?_)) ; show wpAny _ _ (Builtin.SmallTypes.nextOf (.ref n) >>= _) _ _ _
  refine wpAny_bind (nextOf_tup (s := { s with heap := h0 }) J0 T0 e0 fun h1 m0 q1 => wpAny_pure ?_)
  have O1 : IsTp h1 (n + 3) arr := q1.extBut _ _ (by show @Ne Nat _ _; omega) O0
  refine wpAny_bind (wpAny_seqItems (s := { s with heap := h1 }) O1 rfl ?_) ; refine wpAny_bind (updSeq_tp (s := { s with heap := h1 }) O1 (by simp [na, sz3]) fun h2 O2 q2 => ?_) ; refine wpAny_bind (wpAny_letGo (wpAny_pure ?_))
  have k2 : ∀ c o, c ≠ (n + 4) → c ≠ (n + 3) → c ≠ n → s.heap.get? c = some o → h2.get? c = some o := fun c o dz dO d0 e => q2.extBut _ _ dO (q1.extBut _ _ d0 (k0 c o dz  e))
  -- the 1. iterator
  have J1 : Heap.IsTupleIter h2 (n + 1) l1 i := by obtain ⟨o, a1, a2⟩ := j1; exact ⟨o, k2 _ _ (by show @Ne Nat _ _; omega) (by show @Ne Nat _ _; omega) (by show @Ne Nat _ _; omega) a1, a2⟩
  have T1 : Heap.IsTuple h2 l1 xs1 := by obtain ⟨o, a1, a2⟩ := t1; exact ⟨o, k2 _ _ (by show @Ne Nat _ _; omega) (by show @Ne Nat _ _; omega) (by show @Ne Nat _ _; omega) a1, a2⟩
  refine wpAny_bind (wpAny_bind (wpAny_onRaise ?_)) ; show wpAny _ _ (Builtin.SmallTypes.nextOf (.ref (n + 1)) >>= _) _ _ _
  refine wpAny_bind (nextOf_tup (s := { s with heap := h2 }) J1 T1 e1 fun h3 m1 q3 => wpAny_pure ?_)
  have O3 : IsTp h3 (n + 3) (arr.setIfInBounds 0 x0) := q3.extBut _ _ (by show @Ne Nat _ _; omega) O2
  refine wpAny_bind (wpAny_seqItems (s := { s with heap := h3 }) O3 rfl ?_) ; refine wpAny_bind (updSeq_tp (s := { s with heap := h3 }) O3 (by simp [na, sz3]) fun h4 O4 q4 => ?_) ; refine wpAny_bind (wpAny_letGo (wpAny_pure ?_))
  have k4 : ∀ c o, c ≠ (n + 4) → c ≠ (n + 3) → c ≠ n → c ≠ (n + 1) → s.heap.get? c = some o → h4.get? c = some o := fun c o dz dO d0 d1 e => q4.extBut _ _ dO (q3.extBut _ _ d1 (k2 c o dz dO d0 e))
  have ea : ((arr.setIfInBounds 0 x0).setIfInBounds 1 x1) = #[x0, x1] := by obtain ⟨l⟩ := arr; match l, na with | [_, _], _ => rfl
  rw [ea] at O4
  have hzL : IsZip h4 (n + 4) (n + 2) (n + 3) .ellipsis := q4.extBut _ _ (by show @Ne Nat _ _; omega) (q3.extBut _ _ (by show @Ne Nat _ _; omega) (q2.extBut _ _ (by show @Ne Nat _ _; omega) (q1.extBut _ _ (by show @Ne Nat _ _; omega) (hz0))))
  have M0 : Heap.IsTupleIter h4 n l0 (i + 1) := it_ext q4.extBut (by show @Ne Nat _ _; omega) (it_ext q3.extBut (by show @Ne Nat _ _; omega) (it_ext q2.extBut (by show @Ne Nat _ _; omega) m0))
  have M1 : Heap.IsTupleIter h4 (n + 1) l1 (i + 1) := it_ext q4.extBut (by show @Ne Nat _ _; omega) m1
  have hsz : h4.objs.size = s.heap.objs.size := by rw [q4.1, q3.1, q2.1, q1.1, q0.1]
  refine wpAny_pure ?_ ; refine wpAny_bind (wpAny_seqItems (s := { s with heap := h4 }) O4 rfl ?_) ; refine wpAny_bind (wpAny_newTuple ?_)
  have lz : (n + 4) < h4.objs.size := Heap.lt_size hzL
  show wpAny _ _ (Builtin.SmallTypes.ownedTupleHandOut (.ref (n + 4)) (.ref h4.objs.size) >>= _) _ _ _ ; refine wpAny_bind ?_ ; unfold Builtin.SmallTypes.ownedTupleHandOut
  have hzM : IsZip (h4.push { cls := .type "tuple", data := .seq #[x0, x1] }) (n + 4) (n + 2) (n + 3) .ellipsis := Heap.get?_push_of_some _ hzL
  refine wpAny_bind (wpAny_setField_rec (s := { s with heap := h4.push { cls := .type "tuple", data := .seq #[x0, x1] } }) hzM (by simp) fun g1 hz1 r1 => ?_) ; replace hz1 : IsZip g1 (n + 4) (n + 2) (n + 3) (rawInt h4.objs.size) := hz1
  refine wpAny_setField_rec (s := { s with heap := g1 }) hz1 (by simp) fun g2 hz2 r2 => ?_ ; replace hz2 : IsZip g2 (n + 4) (n + 2) (n + 3) (rawInt h4.objs.size) := hz2
  have up : ∀ c o, c ≠ (n + 4) → h4.get? c = some o → g2.get? c = some o := fun c o d e => r2.extBut _ _ d (r1.extBut _ _ d (Heap.get?_push_of_some _ e))
  have hT : IsTp g2 h4.objs.size #[x0, x1] := r2.extBut _ _ (Nat.ne_of_gt lz) (r1.extBut _ _ (Nat.ne_of_gt lz) (Heap.get?_push_size _ rfl))
  rw [hsz] at hz2 hT ; refine wpAny_pure ⟨_, rfl, ?_⟩ ; show Q (.ref h4.objs.size) _ ; rw [hsz]
  exact hQ g2 hz2 (up _ _ (by show @Ne Nat _ _; omega) O4) (it_up (fun o e => up _ o (by show @Ne Nat _ _; omega) e) M0) (it_up (fun o e => up _ o (by show @Ne Nat _ _; omega) e) M1) hT fun c o dz dO d0 d1 e => up c o dz (k4 c o dz dO d0 d1 e)
theorem zip2_end {arr : Array Value} {Q : Fin → Shared → Prop} (hh : A.handled = none) (b0 : l0 < n) (b1 : l1 < n) (hz : IsZip s.heap (n + 4) (n + 2) (n + 3) .none) (hI : IsTp s.heap (n + 2) #[.ref n, .ref (n + 1)]) (hO : IsTp s.heap (n + 3) arr) (j0 : s.heap.IsTupleIter n l0 i) (j1 : s.heap.IsTupleIter (n + 1) l1 i) (t0 : s.heap.IsTuple l0 xs0) (t1 : s.heap.IsTuple l1 xs1)
    (e0 : xs0[i]? = none) (hE : ∀ h' e, (∀ c o, c ≠ (n + 4) → c ≠ (n + 3) → c ≠ n → c ≠ (n + 1) → s.heap.get? c = some o → h'.get? c = some o) → (∃ o, h'.get? e = some o ∧ o.cls = .type "StopIteration") → E (.ref e) { s with heap := h' }) :
    wpAny (model prog w) A (Builtin.«zip.__next__» ⟨[.ref (n + 4)], []⟩) Q E s := by
  show wpAny _ _ (field (.ref (n + 4)) 2 >>= _) _ _ _ ; refine wpAny_bind (wpAny_field hz rfl (x := .bool false) rfl ?_)
  show wpAny _ _ (field (.ref (n + 4)) 3 >>= _) _ _ _ ; refine wpAny_bind (wpAny_field hz rfl (x := .ref (n + 2)) rfl ?_)
  refine wpAny_bind (wpAny_seqItems hI rfl ?_) ; show wpAny _ _ (Builtin.SmallTypes.ownedTupleIsFree (.ref (n + 4)) >>= _) _ _ _
  refine wpAny_bind ?_ ; unfold Builtin.SmallTypes.ownedTupleIsFree
  refine wpAny_bind (wpAny_field hz rfl (x := .none) rfl (wpAny_pure ?_)) ; simp only [if_true]
  refine wpAny_bind (wpAny_rule ?_) ; refine wpAny_bind (wpAny_field hz rfl (x := .ref (n + 3)) rfl ?_)
  refine wpAny_bind (wpAny_setField_rec hz (by simp) fun h0 hz0 q0 => ?_) ; replace hz0 : IsZip h0 (n + 4) (n + 2) (n + 3) .ellipsis := hz0
  have J0 : Heap.IsTupleIter h0 n l0 i := by obtain ⟨o, a1, a2⟩ := j0; exact ⟨o, q0.extBut _ _ (by show @Ne Nat _ _; omega) a1, a2⟩
  have T0 : Heap.IsTuple h0 l0 xs0 := by obtain ⟨o, a1, a2⟩ := t0; exact ⟨o, q0.extBut _ _ (by show @Ne Nat _ _; omega) a1, a2⟩
  refine wpAny_bind ?_ ; simp only [List.zipIdx_cons, List.zipIdx_nil, List.forIn_cons, List.forIn_nil]
  refine wpAny_bind (wpAny_bind (wpAny_onRaise ?_)) ; show wpAny _ _ (Builtin.SmallTypes.nextOf (.ref n) >>= _) _ _ _
  refine wpAny_bind (nextOf_tup_end (s := { s with heap := h0 }) hh J0 T0 e0 fun h1 e q1 he => ?_)
  obtain ⟨oe, hoe, hce⟩ := he ; have hz1 : IsZip h1 (n + 4) (n + 2) (n + 3) .ellipsis := q1 _ _ (by show @Ne Nat _ _; omega) hz0
  have ez : e ≠ (n + 4) := fun x => by subst x; rw [hz1] at hoe; cases hoe; simp at hce
  refine wpAny_setField_rec (s := { s with heap := h1 }) hz1 (by simp) fun h2 _ q2 => hE h2 e (fun c o dz _ d0 _ x => q2.extBut _ _ dz (q1 _ _ d0 (q0.extBut _ _ dz x))) ⟨oe, q2.extBut _ _ ez hoe, hce⟩
end
end L2
set_option Elab.async false
set_option linter.all false
set_option maxRecDepth 100000
set_option maxHeartbeats 4000000
namespace L2
open PySem PySem.Spec PyProof.Rows
section
variable {X : Cx} {pins : List (Addr × Obj)} {σ : St} {H : Hp} {s : Shared} {h' : Heap}
/-- several records of ours have turned -/
theorem Inv.turnedL {t' : Nat} (I : Inv X pins σ H s) (wr : List Addr) (hw : ∀ b ∈ wr, FpOk X pins H b) (k : ∀ b o, b ∉ wr → s.heap.get? b = some o → h'.get? b = some o) : Inv X pins σ H { s with heap := h', toks := t' } := by
  refine I.step (g' := s.gens) (d' := s.drawn) (ch := wr) (fun b hb => let ⟨_, a, _, c, d, e⟩ := hw b hb; ⟨c, a, d, e⟩) (fun b o _ _ hc e _ => k b o hc e) (fun b o _ _ hc e _ => ⟨o.slots, k b o hc e⟩) (fun _ _ _ _ n => n)
    (fun b o hc e => ⟨o, k b o hc e⟩) (fun _ _ e => e) (fun _ _ _ e => e) (fun b ps e => ⟨#[], by rw [e]; simp⟩) (fun m hm => ?_) (fun b u e => ?_) I.bare
  · obtain ⟨o, es, ep, ho, r⟩ := hm
    exact ⟨o, es, ep, k _ o (fun z => (hw _ z).2.1 rfl) ho, r⟩
  · refine (I.hok b u e).stay (fun c v hc q => k c v (fun z => ?_) q) (fun _ q => q) fun _ _ q => q
    have n := (hw c z).1
    rcases hc with rfl | hc
    · rw [n] at e; cases e
    · rw [n] at hc; cases hc
/-- .. and a new object was laid -/
theorem Inv.turnedN {t' : Nat} {T : Addr} {o : HO} (I : Inv X pins σ H s) (wr : List Addr) (hw : ∀ b ∈ wr, FpOk X pins H b) (k : ∀ b o, b ∉ wr → s.heap.get? b = some o → h'.get? b = some o) (hT : s.heap.get? T = none) (new : ObjOk X.prog X.w (upd H T o) h' T o) :
    Inv X pins σ (upd H T o) { s with heap := h', toks := t' } := by
  have fr : H T = none := by
    cases q : H T with
    | none => rfl
    | some u => obtain ⟨z, e⟩ := (I.hok T u q).get; rw [hT] at e; cases e
  have ne : ∀ b u, H b = some u → b ≠ T := fun b u e z => by rw [z, fr] at e; cases e
  refine I.step (g' := s.gens) (d' := s.drawn) (ch := wr) (fun b hb => let ⟨_, a, _, c, d, e⟩ := hw b hb; ⟨c, a, d, e⟩) (fun b o _ _ hc e _ => k b o hc e) (fun b o _ _ hc e _ => ⟨o.slots, k b o hc e⟩) (fun b ob _ e n => ?_)
    (fun b o hc e => ⟨o, k b o hc e⟩) (fun b xs e => by rw [upd_ne (ne b _ e)]; exact e) (fun b ob u e => by rw [upd_ne (ne b _ e)]; exact e) (fun b ps e => ⟨#[], by rw [upd_ne (ne b _ e), e]; simp⟩) (fun m hm => ?_) (fun b u e => ?_) I.bare
  · have : b ≠ T := fun z => by rw [z, hT] at e; cases e
    rw [upd_ne this]; exact n
  · obtain ⟨o, es, ep, ho, r⟩ := hm
    exact ⟨o, es, ep, k _ o (fun z => (hw _ z).2.1 rfl) ho, r⟩
  · by_cases hb : b = T
    · subst hb; rw [upd_same] at e; cases e; exact new
    · rw [upd_ne hb] at e
      refine (I.hok b u e).stay (fun c v hc q => k c v (fun z => ?_) q) (fun c q => by rw [upd_ne (ne c _ q)]; exact q) fun c xs q => by rw [upd_ne (ne c _ q)]; exact q
      have n := (hw c z).1
      rcases hc with rfl | hc
      · rw [n] at e; cases e
      · rw [n] at hc; cases hc
end
def Itz2 (K : PySem.W.Frag) (l0 l1 : Addr) : It :=
  ⟨fun i H => ∃ (xs0 xs1 : List V) (x0 x1 : V), SqT K H l0 xs0 ∧ SqT K H l1 xs1 ∧ xs0[i]? = some x0 ∧ xs1[i]? = some x1,
    fun i H x H' => ∃ T, H T = none ∧ x = .ref T ∧ ∀ (xs0 xs1 : List V) (x0 x1 : V), SqT K H l0 xs0 → SqT K H l1 xs1 → xs0[i]? = some x0 → xs1[i]? = some x1 → H' = upd H T (.tup [x0, x1]),
    fun i H => ∃ xs0 xs1, SqT K H l0 xs0 ∧ SqT K H l1 xs1 ∧ xs0.length ≤ i⟩
theorem turn_zip2 {P : Program} {w : World} {K : PySem.W.Frag} {es : List Expr} {kk : Nat} {tp : Pos} {n l0 l1 : Nat} (b0 : l0 < n) (b1 : l1 < n) : Turn P w K (.Tuple es kk tp) (Itz2 K l0 l1) [n, (n + 1), (n + 2), (n + 3), (n + 4)] (n + 4) (ZS2 n l0 l1) where
  mem := by simp
  obj := fun i h st b hb => by
    obtain ⟨hz, hI, ⟨arr, na, hO⟩, j0, j1⟩ := st
    have c : b = n ∨ b = (n + 1) ∨ b = (n + 2) ∨ b = (n + 3) ∨ b = (n + 4) := by simpa using hb
    rcases c with rfl | rfl | rfl | rfl | rfl
    · obtain ⟨o, e, c, d⟩ := j0; exact ⟨o, e, fun v z => by rw [d] at z; cases z⟩
    · obtain ⟨o, e, c, d⟩ := j1; exact ⟨o, e, fun v z => by rw [d] at z; cases z⟩
    · exact ⟨_, hI, fun v z => by cases z⟩
    · exact ⟨_, hO, fun v z => by cases z⟩
    · exact ⟨_, hz, fun v z => by cases z⟩
  keep := fun i h h' st k => by
    obtain ⟨hz, hI, ⟨arr, na, hO⟩, j0, j1⟩ := st
    exact ⟨k _ (by simp) _ hz, k _ (by simp) _ hI, ⟨arr, na, k _ (by simp) _ hO⟩, it_up (fun o e => k _ (by simp) o e) j0, it_up (fun o e => k _ (by simp) o e) j1⟩
  item := by
    intro X hP hw hK hc i pins s σ H E I hf st hg
    subst hP hw hK
    obtain ⟨xs0, xs1, x0, x1, q0, q1, e0, e1⟩ := hg
    obtain ⟨its0, rv0, p0, _⟩ := I.tuple q0 ; obtain ⟨u0, hu0, ru0⟩ := rv0.get e0
    obtain ⟨its1, rv1, p1, _⟩ := I.tuple q1 ; obtain ⟨u1, hu1, ru1⟩ := rv1.get e1
    obtain ⟨hz, hI, ⟨arr, na, hO⟩, j0, j1⟩ := st
    have hT : s.TypeIs (.ref (n + 4)) "zip" := ⟨_, hz, rfl⟩
    unfold pyNext
    refine wpAny_bind (wpAny_attempt (wpAny_callSpecial?_slot (name := Str.ofString "__next__") hT F.slot_zip_next (wpAny_call_entry F.slot_zip_next hT F.entry_zip_next (zip2_item na b0 b1 hz hI hO j0 j1 (show s.heap.IsTuple l0 its0.toArray from p0) (show s.heap.IsTuple l1 its1.toArray from p1) (show its0.toArray[i]? = some u0 by simpa using hu0) (show its1.toArray[i]? = some u1 by simpa using hu1) fun h1 z1 O1 m0 m1 T1 kp => wpAny_pure ⟨_, rfl, ?_⟩) (F.args_zip_next_1 _))))
    refine wpAny_letOwnedTupleGo_zip (s := { s with heap := h1 }) z1 fun h2 z2 r2 => ?_
    have kp2 : ∀ c o, c ∉ ([(n + 4), (n + 3), n, (n + 1)] : List Addr) → s.heap.get? c = some o → h2.get? c = some o := fun c o hc e => by
      simp only [List.mem_cons, List.not_mem_nil, or_false, not_or] at hc
      obtain ⟨dz, dO, d0, d1⟩ := hc
      exact r2.extBut _ _ dz (kp c o dz dO d0 d1 e)
    have lz : (n + 4) < s.heap.objs.size := Heap.lt_size hz
    have T2 : IsTp h2 s.heap.objs.size #[u0, u1] := r2.extBut _ _ (Nat.ne_of_gt lz) T1
    have hf' : ∀ b ∈ ([(n + 4), (n + 3), n, (n + 1)] : List Addr), FpOk X pins H b := fun b hb => hf b (by simp only [List.mem_cons, List.not_mem_nil, or_false] at hb ⊢; rcases hb with h | h | h | h <;> simp [h])
    have I2 : Inv X pins σ (upd H s.heap.objs.size (.tup [x0, x1])) { s with heap := h2 } := I.turnedN (t' := s.toks) [(n + 4), (n + 3), n, (n + 1)] hf' kp2 (Heap.get?_none_of_le (Nat.le_refl _)) ⟨smz (show 2 ≤ 1000 by decide), [u0, u1], .cons ru0 (.cons ru1 (.nil)), ⟨_, T2, rfl, rfl, _, rfl⟩⟩
    refine ⟨.ref s.heap.objs.size, _, I2, rfl, ⟨_, I.hok.fresh (Nat.le_refl _), rfl, fun ys0 ys1 y0 y1 g0 g1 f0 f1 => ?_⟩, ?_, fun b hb => ?_⟩
    · have := I.tuple_inj g0 q0 ; subst this ; have := e0.symm.trans f0 ; cases this
      have := I.tuple_inj g1 q1 ; subst this ; have := e1.symm.trans f1 ; cases this
      rfl
    · refine ⟨z2, r2.extBut _ _ (by show @Ne Nat _ _; omega) (kp _ _ (by show @Ne Nat _ _; omega) (by show @Ne Nat _ _; omega) (by show @Ne Nat _ _; omega) (by show @Ne Nat _ _; omega) hI), ⟨_, rfl, r2.extBut _ _ (by show @Ne Nat _ _; omega) O1⟩, it_ext r2.extBut (by show @Ne Nat _ _; omega) m0, it_ext r2.extBut (by show @Ne Nat _ _; omega) m1⟩
    · have l2 : b < s.heap.objs.size := by
        simp only [List.mem_cons, List.not_mem_nil, or_false] at hb
        have lz : @LT.lt Nat _ (n + 4) s.heap.objs.size := lz
        rcases hb with rfl | rfl | rfl | rfl | rfl <;> (show @LT.lt Nat _ _ s.heap.objs.size; omega)
      rw [upd_ne (Nat.ne_of_lt l2)] ; exact (hf b hb).1
  done := by
    intro X hP hw hK hc i pins s σ H E I hf st hg
    subst hP hw hK
    obtain ⟨xs0, xs1, q0, q1, hx⟩ := hg
    obtain ⟨its0, rv0, p0, _⟩ := I.tuple q0
    obtain ⟨its1, rv1, p1, _⟩ := I.tuple q1
    obtain ⟨hz, hI, ⟨arr, na, hO⟩, j0, j1⟩ := st
    have hT : s.TypeIs (.ref (n + 4)) "zip" := ⟨_, hz, rfl⟩ ; have hl := rv0.length
    unfold pyNext
    refine wpAny_bind (wpAny_attempt (wpAny_callSpecial?_slot (name := Str.ofString "__next__") hT F.slot_zip_next (wpAny_call_entry F.slot_zip_next hT F.entry_zip_next (zip2_end (I.ok.hd hc) b0 b1 hz hI hO j0 j1 (show s.heap.IsTuple l0 its0.toArray from p0) (show s.heap.IsTuple l1 its1.toArray from p1) (by simp; omega) fun h1 e kp he => ?_) (F.args_zip_next_1 _))))
    obtain ⟨o, ho, hco⟩ := he ; refine wpAny_bind (wpAny_isInstance (T := "StopIteration") (b := true) ⟨o, ho, hco⟩ isSubtype_stop (wpAny_pure ⟨rfl, ?_⟩))
    refine I.turnedL (t' := s.toks) [(n + 4), (n + 3), n, (n + 1)] (fun b hb => hf b (by simp only [List.mem_cons, List.not_mem_nil, or_false] at hb ⊢; rcases hb with h | h | h | h <;> simp [h])) fun c o hc e => ?_
    simp only [List.mem_cons, List.not_mem_nil, or_false, not_or] at hc
    obtain ⟨dz, dO, d0, d1⟩ := hc
    exact kp c o dz dO d0 d1 e
  self := fun A' i s Q E st h => wpAny_pyIter_zip st.1 h
abbrev z2H1 (h : Heap) (l0 : Addr) : Heap := (h).push { cls := .type "tuple_iterator", data := .fields #[.ref l0, .int 0 0] }
abbrev z2H2 (h : Heap) (l0 l1 : Addr) : Heap := (z2H1 h l0).push { cls := .type "tuple_iterator", data := .fields #[.ref l1, .int 0 0] }
abbrev z2H3 (h : Heap) (l0 l1 : Addr) : Heap := (z2H2 h l0 l1).push { cls := .type "tuple", data := .seq #[.ref h.objs.size, .ref (z2H1 h l0).objs.size] }
abbrev z2H4 (h : Heap) (l0 l1 : Addr) : Heap := (z2H3 h l0 l1).push { cls := .type "tuple", data := .seq #[.none, .none] }
abbrev z2H5 (h : Heap) (l0 l1 : Addr) : Heap := (z2H4 h l0 l1).push { cls := .type "zip", data := .fields #[.none, .bool false, .bool false, .ref (z2H2 h l0 l1).objs.size, .ref (z2H3 h l0 l1).objs.size] }
theorem meets_zip2 (l0 l1 : Addr) (xs0 xs1 : Array Value) : Meets (Builtin.«zip.__new__» ⟨[.type "zip", .ref l0, .ref l1], []⟩) (fun _ R s => s.heap.IsTuple l0 xs0 ∧ s.heap.IsTuple l1 xs1 ∧ R (.ok (.ret (.ref (z2H4 s.heap l0 l1).objs.size))) { s with heap := z2H5 s.heap l0 l1 }) :=
  .of_wp fun prog w A R s h => by
    obtain ⟨hp, g, d, tk, os⟩ := s; obtain ⟨t0, t1, h⟩ := h
    have hsub := sub_zip
    have L0 : Heap.IsTuple (Shared.heap ⟨hp, g, d, tk, os⟩) l0 xs0 := t0
    have L1 : Heap.IsTuple (Shared.heap ⟨hp.push { cls := .type "tuple_iterator", data := .fields #[.ref l0, .int 0 0] }, g, d, tk, os⟩) l1 xs1 := Heap.IsTuple.push (t1) _
    wp_walk using wpAny_pyIter_tuple L0, wpAny_pyIter_tuple L1
    exact ⟨_, rfl, h⟩
theorem call_zipT2 {prog : Program} {w : World} {A : Around} {E : Value → Shared → Prop} {s : Shared} {l0 l1 : Addr} {xs0 xs1 : Array Value} {Q : Value → Shared → Prop} (t0 : s.heap.IsTuple l0 xs0) (t1 : s.heap.IsTuple l1 xs1)
    (h : ∀ h', ZS2 s.heap.objs.size l0 l1 0 h' → (∀ c o, s.heap.get? c = some o → h'.get? c = some o) → Q (.ref (s.heap.objs.size + 4)) { s with heap := h' }) : wpAny (model prog w) A (call (.type "zip") [.ref l0, .ref l1]) Q E s := by
  refine callType_new F.called_zip (by decide) (F.typeCall_zip_2 _ _) (F.newCall_zip_2 _ _) (fun obj => F.args_object_init_3 obj _ _) F.entry_zip_new (meets_zip2 l0 l1 xs0 xs1) ⟨t0, t1, ?_⟩
  have z1 : (z2H1 s.heap l0).objs.size = s.heap.objs.size + 1 := Heap.size_push ..
  have z2 : (z2H2 s.heap l0 l1).objs.size = s.heap.objs.size + 2 := by rw [Heap.size_push, z1]
  have z3 : (z2H3 s.heap l0 l1).objs.size = s.heap.objs.size + 3 := by rw [Heap.size_push, z2]
  have z4 : (z2H4 s.heap l0 l1).objs.size = s.heap.objs.size + 4 := by rw [Heap.size_push, z3]
  have z5 : (z2H5 s.heap l0 l1).objs.size = s.heap.objs.size + 5 := by rw [Heap.size_push, z4]
  have g0 : (z2H5 s.heap l0 l1).get? (s.heap).objs.size = some _ := Heap.get?_push_of_some _ (Heap.get?_push_of_some _ (Heap.get?_push_of_some _ (Heap.get?_push_of_some _ (Heap.get?_push_size _ rfl))))
  have g1 : (z2H5 s.heap l0 l1).get? (z2H1 s.heap l0).objs.size = some _ := Heap.get?_push_of_some _ (Heap.get?_push_of_some _ (Heap.get?_push_of_some _ (Heap.get?_push_size _ rfl)))
  have g2 : (z2H5 s.heap l0 l1).get? (z2H2 s.heap l0 l1).objs.size = some _ := Heap.get?_push_of_some _ (Heap.get?_push_of_some _ (Heap.get?_push_size _ rfl))
  have g3 : (z2H5 s.heap l0 l1).get? (z2H3 s.heap l0 l1).objs.size = some _ := Heap.get?_push_of_some _ (Heap.get?_push_size _ rfl)
  have g4 : (z2H5 s.heap l0 l1).get? (z2H4 s.heap l0 l1).objs.size = some _ := Heap.get?_push_size _ rfl
  show _ ∧ _
  rw [z2, z3, z4] at g4
  rw [z3] at g3
  rw [z1, z2] at g2
  rw [z1] at g1
  rw [z4]
  exact ⟨⟨_, g4, rfl⟩, h _ ⟨g4, g2, ⟨_, rfl, g3⟩, ⟨_, g0, rfl, rfl⟩, ⟨_, g1, rfl, rfl⟩⟩ fun c o x => Heap.get?_push_of_some _ (Heap.get?_push_of_some _ (Heap.get?_push_of_some _ (Heap.get?_push_of_some _ (Heap.get?_push_of_some _ x))))⟩
end L2
set_option Elab.async false
set_option linter.all false
set_option maxRecDepth 100000
set_option maxHeartbeats 4000000
namespace L2
open PySem PySem.Spec PyProof.Rows
theorem SqT.same {K : PySem.W.Frag} {H H' : Hp} {a : Addr} {xs : List V} (s : Same H H') (h : SqT K H a xs) : SqT K H' a xs := by
  rcases h with (h | ⟨o, h⟩) | h
  · exact .inl (.inl (s _ _ h))
  · exact .inl (.inr ⟨o, s _ _ h⟩)
  · exact .inr h
theorem SqL.same {K : PySem.W.Frag} {H H' : Hp} {a : Addr} {xs : List V} (s : Same H H') (h : SqL K H a xs) : SqL K H' a xs := by
  rcases h with (h | ⟨o, h⟩) | h
  · exact .inl (.inl (s _ _ h))
  · exact .inl (.inr ⟨o, s _ _ h⟩)
  · exact .inr h
def iZip2 (K : PySem.W.Frag) (ta : TA) : TI := fun σ H R => ta σ H fun vs H1 => ∃ l0 l1, vs = [.ref l0, .ref l1] ∧ (∃ xs, SqT K H1 l0 xs) ∧ (∃ xs, SqT K H1 l1 xs) ∧ R (Itz2 K l0 l1) H1
theorem pi_zip2 {X : Cx} {a b : Expr} {ta : TA} {p pos tp : Pos} {es : List Expr} {kk : Nat} (hg : Gl X "zip") (hm : X.mg "zip" = none) (ha : PA X [a, b] ta) (hs : starEach [a, b] X.env = [(false, eval a X.env), (false, eval b X.env)] := by rfl) (hs2 : starEach [b] X.env = [(false, eval b X.env)] := by rfl) :
    PI X (.Tuple es kk tp) (.Call (.Name "zip" p) [a, b] [] pos) (iZip2 X.K ta) := by
  intro pins s σ H R I h
  refine Call_ (ld_blt I hg hm boot_zip (PyProof.Rows.callWith_type1 (thn (ha pos pins s σ H _ I h) fun us s1 ⟨vs, H1, I1, r1, q1⟩ => ?_) (by rw [hs, hs2]) (by rw [hs2]; rfl)))
  obtain ⟨l0, l1, e, ⟨xs0, q0⟩, ⟨xs1, q2⟩, q⟩ := q1
  subst e
  obtain ⟨u, v, rfl, r, r'⟩ := r1.two
  cases r
  cases r'
  obtain ⟨its0, rv0, p0, _⟩ := I1.tuple q0
  obtain ⟨its1, rv1, p1, _⟩ := I1.tuple q2
  refine call_zipT2 (show s1.heap.IsTuple l0 its0.toArray from p0) (show s1.heap.IsTuple l1 its1.toArray from p1) fun h' zs kp => ?_
  refine wpAny_pyIter_zip (s := { s1 with heap := h' }) zs.1 ⟨_, _, _, _, H1, rfl, I1.kept (t' := s1.toks) kp, turn_zip2 p0.lt p1.lt, zs, fun b hb => ?_, q⟩
  have hb' : s1.heap.objs.size ≤ b := by
    simp only [List.mem_cons, List.not_mem_nil, or_false] at hb
    rcases hb with rfl | rfl | rfl | rfl | rfl <;> (show @LE.le Nat _ _ _; omega)
  exact I1.fpOk hb' (I1.hok.fresh hb')
def rLIndex (K : PySem.W.Frag) : V → List V → Hp → VK → Prop := fun x vs H Q => ∃ (a : Addr) (xs : List V) (y z : V) (j : Nat), x = .ref a ∧ vs = [y] ∧ SqL K H a xs ∧ flatV y = true ∧ xs.all flatV = true ∧ xs[j]? = some z ∧ eqV z y = true ∧ (∀ m u, m < j → xs[m]? = some u → eqV u y = false) ∧ Q (.int j) H
theorem mt_lindex {X : Cx} : MtR X "list.index" (rLIndex X.K) := by
  intro pins s σ H x vs v us Q I rx rv h
  obtain ⟨a, xs, y, z, j, rfl, rfl, hq, fy, fx, hj, hit, hno, q⟩ := h
  cases rx
  obtain ⟨u, rfl, ru⟩ := rv.one
  obtain ⟨its, r, p, hz⟩ := I.list hq
  obtain ⟨⟨cls, dd, data, sl⟩, ho, hc, n, hd⟩ := p.isList
  simp only at hc hd
  subst hc hd
  have hl := r.length
  have hlt : j < xs.length := (List.getElem?_eq_some_iff.mp hj).1
  have fl : ∀ (m : Nat) (w : V), xs[m]? = some w → flatV w = true := fun m w e => List.all_eq_true.mp fx w (List.mem_of_getElem? e)
  have at' : ∀ (m : Nat) (hm : m < its.toArray.size) (w : V), xs[m]? = some w → eqU y its.toArray[m] = eqV w y := fun m hm w e => by
    obtain ⟨u', e', ru'⟩ := r.get e
    have : its.toArray[m] = u' := by
      have := List.getElem?_eq_some_iff.mp e'
      simpa using this.2
    rw [this]
    exact eqU_of ru' (fl m w e)
  have hs : sizeLine = 16777216 := sizeLine_eq
  refine call_meets PySem.F.slot_list_index ⟨_, ho, rfl⟩ PySem.F.entry_list_index (PySem.F.args_list_index_2 _ _) (SeqAt.list_indexAt a its.toArray n dd sl u (eqU y) j (by simp; omega) (by omega) ?_ ?_) ⟨ho, fun w hw => mem_eqAt ru fy r fx w (by simpa using hw), ⟨.int j, H, I.tok _, ⟨_, rfl⟩, q⟩⟩
  · rw [at' j _ z hj]; exact hit
  · intro m hm hmj
    have hmx : m < xs.length := by omega
    rw [at' m hm _ (List.getElem?_eq_getElem hmx)]
    exact hno m _ hmj (List.getElem?_eq_getElem hmx)
end L2
set_option Elab.async false
set_option linter.all false
set_option maxRecDepth 100000
set_option maxHeartbeats 4000000
namespace L2
open PySem PySem.Spec PyProof.Rows
def rMulS : R2 := fun x y H Q => ∃ z n, x = .str z ∧ y = .int n ∧ MulOk z n ∧ Q (.str (PySem.Txt.mul z n)) H
theorem op_mul_str {X : Cx} : OpR X (binaryOp .Mult) rMulS := by
  intro pins s σ H x y v u Q I rx ry h
  obtain ⟨z, n, rfl, rfl, hm, q⟩ := h
  obtain ⟨t, rfl⟩ := rx
  obtain ⟨t', rfl⟩ := ry
  exact SB.mul hm fun t'' k => ⟨.str _, H, I.tok k, ⟨_, rfl⟩, q⟩
section
variable {σ : St} {H : Hp} {te tb : TE} {K : PySem.W.Frag}
end
end L2
set_option Elab.async false
set_option linter.all false
set_option maxRecDepth 100000
set_option maxHeartbeats 4000000
namespace L2
open PySem PySem.Spec PyProof.Rows
section
variable {X : Cx} {pins : List (Addr × Obj)} {σ : St} {H : Hp} {s : Shared} {a : Addr} {kvs : List (Str × V)}
end
end L2
set_option Elab.async false
set_option linter.all false
set_option maxRecDepth 100000
set_option maxHeartbeats 4000000
namespace L2
open PySem PySem.Spec PyProof.Rows
section
variable {K : PySem.W.Frag} {σ : St} {H : Hp}
/-- [.. for x in l], l a list of data, each part data again -/
theorem mk_compL {src : List (Option Nat)} {g : TG} {te t0 : TE} {ds : List PyData} (f : PyData → PyData) (hz : ds.length ≤ 1000) (h0 : Md t0 σ H (.list ds))
    (hs : ∀ (d : PyData) (x : V) (H1 : Hp), d ∈ ds → Same H H1 → Sx H1 d x → ∀ R : VK, (∀ v H2, Same H1 H2 → Sx H2 (f d) v → R v H2) → g x (pick σ src) H1 fun σ3 H3 => te σ3 H3 R) :
    Md (tComp (iList K t0) src g tTrue te) σ H (.list (ds.map f)) := fun H1 s1 R q =>
  h0 H1 s1 _ fun v H2 s2 hv => by
    obtain ⟨a, xs, rfl, e, hx⟩ := Sx.lst hv
    have hl := hx.len
    refine ⟨a, rfl, ⟨_, SqL.of e⟩, ?_⟩
    refine ⟨fun i m out H' => Same H2 H' ∧ i ≤ xs.length ∧ m = xs.length - i ∧ SxAll H' ((ds.take i).map f) out, ⟨_, Same.refl _, Nat.zero_le _, rfl, sx_nil⟩, ?_⟩
    rintro i m out H' ⟨s3, hi, rfl, ho⟩
    by_cases hlt : i < xs.length
    · have hol := ho.len
      rw [List.length_map, List.length_take] at hol
      refine .inr ⟨⟨xs, xs[i], SqL.of (s3 _ _ e), by simp [hlt]⟩, Nat.lt_of_lt_of_le (by omega) (smz hz), fun x H4 y => ?_⟩
      obtain ⟨e4, y⟩ := y
      subst e4
      have hxi := y xs (SqL.of (s3 _ _ e))
      have hd : ds[i]? = some (ds[i]'(by omega)) := List.getElem?_eq_getElem _
      refine hs _ x H4 (List.mem_of_getElem? hd) ((s1.trans s2).trans s3) (Sx.same s3 _ (SxAll.get i hx hxi hd)) (fun v H5 => ∃ m', m' < xs.length - i ∧ Same H2 H5 ∧ i + 1 ≤ xs.length ∧ m' = xs.length - (i + 1) ∧ SxAll H5 ((ds.take (i + 1)).map f) (out ++ [v])) fun v H5 s5 hv5 => ?_
      refine ⟨xs.length - (i + 1), by omega, s3.trans s5, hlt, rfl, ?_⟩
      rw [List.take_add_one, hd, List.map_append]
      exact (SxAll.same s5 _ ho).snoc hv5
    · refine .inl ⟨⟨xs, SqL.of (s3 _ _ e), by omega⟩, fun D hD => ?_⟩
      have s4 := same_new (o := .lst out) hD
      rw [List.take_of_length_le (by omega)] at ho
      exact q _ _ ((s2.trans s3).trans s4) (sx_lst upd_same (SxAll.same s4 _ ho))
end
end L2
set_option Elab.async false
set_option linter.all false
set_option maxRecDepth 100000
set_option maxHeartbeats 4000000
namespace L2
open PySem PySem.Spec PyProof.Rows
section
variable {prog : Program} {w : World} {A : Around} {E : Value → Shared → Prop} {s : Shared} {n l0 l1 l2 : Nat} {i : Nat} {xs0 xs1 xs2 : Array Value}
end
end L2
set_option Elab.async false
set_option linter.all false
set_option maxRecDepth 100000
set_option maxHeartbeats 4000000
namespace L2
open PySem PySem.Spec PyProof.Rows
end L2
set_option Elab.async false
set_option linter.all false
set_option maxRecDepth 100000
set_option maxHeartbeats 4000000
namespace L2
open PySem PySem.Spec PyProof.Rows
section
variable {K : PySem.W.Frag} {σ : St} {H : Hp}
theorem Md.run {te : TE} {d : PyData} {R : VK} (h : Md te σ H d) (hR : ∀ v H2, Same H H2 → Sx H2 d v → R v H2) : te σ H R := h H (Same.refl H) R hR
/-- [.. for x in t], t a tuple of data, each part data again -/
theorem mk_compT {src : List (Option Nat)} {g : TG} {te t0 : TE} {ds : List PyData} (f : PyData → PyData) (hz : ds.length ≤ 1000) (h0 : Md t0 σ H (.tuple ds))
    (hs : ∀ (d : PyData) (x : V) (H1 : Hp), d ∈ ds → Same H H1 → Sx H1 d x → ∀ R : VK, (∀ v H2, Same H1 H2 → Sx H2 (f d) v → R v H2) → g x (pick σ src) H1 fun σ3 H3 => te σ3 H3 R) :
    Md (tComp (iTup K t0) src g tTrue te) σ H (.list (ds.map f)) := fun H1 s1 R q =>
  h0 H1 s1 _ fun v H2 s2 hv => by
    obtain ⟨a, xs, rfl, e, hx⟩ := Sx.tup hv
    have hl := hx.len
    refine ⟨a, rfl, ⟨_, SqT.of e⟩, ?_⟩
    refine ⟨fun i m out H' => Same H2 H' ∧ i ≤ xs.length ∧ m = xs.length - i ∧ SxAll H' ((ds.take i).map f) out, ⟨_, Same.refl _, Nat.zero_le _, rfl, sx_nil⟩, ?_⟩
    rintro i m out H' ⟨s3, hi, rfl, ho⟩
    by_cases hlt : i < xs.length
    · have hol := ho.len
      rw [List.length_map, List.length_take] at hol
      refine .inr ⟨⟨xs, xs[i], SqT.of (s3 _ _ e), by simp [hlt]⟩, Nat.lt_of_lt_of_le (by omega) (smz hz), fun x H4 y => ?_⟩
      obtain ⟨e4, y⟩ := y
      subst e4
      have hxi := y xs (SqT.of (s3 _ _ e))
      have hd : ds[i]? = some (ds[i]'(by omega)) := List.getElem?_eq_getElem _
      refine hs _ x H4 (List.mem_of_getElem? hd) ((s1.trans s2).trans s3) (Sx.same s3 _ (SxAll.get i hx hxi hd)) (fun v H5 => ∃ m', m' < xs.length - i ∧ Same H2 H5 ∧ i + 1 ≤ xs.length ∧ m' = xs.length - (i + 1) ∧ SxAll H5 ((ds.take (i + 1)).map f) (out ++ [v])) fun v H5 s5 hv5 => ?_
      refine ⟨xs.length - (i + 1), by omega, s3.trans s5, hlt, rfl, ?_⟩
      rw [List.take_add_one, hd, List.map_append]
      exact (SxAll.same s5 _ ho).snoc hv5
    · refine .inl ⟨⟨xs, SqT.of (s3 _ _ e), by omega⟩, fun D hD => ?_⟩
      have s4 := same_new (o := .lst out) hD
      rw [List.take_of_length_le (by omega)] at ho
      exact q _ _ ((s2.trans s3).trans s4) (sx_lst upd_same (SxAll.same s4 _ ho))
/-- tuple(l), l a list of data -/
theorem mk_tupof {te : TE} {ds : List PyData} (h : Md te σ H (.list ds)) : Md (tCB (fun xs H Q => ∃ p ys, xs = [.ref p] ∧ ((SqL K H p ys ∧ ∀ l, H l = none → Q (.ref l) (upd H l (.tup ys))) ∨ (SqT K H p ys ∧ Q (.ref p) H))) (tCons te tNil)) σ H (.tuple ds) := fun H1 s1 R q =>
  h H1 s1 _ fun v H2 s2 hv => by
    obtain ⟨a, xs, rfl, ea, ha⟩ := Sx.lst hv
    exact ⟨a, xs, rfl, .inl ⟨SqL.of ea, fun l hl => q _ _ (s2.trans (same_new hl)) (sx_tup upd_same (SxAll.same (same_new hl) _ ha))⟩⟩
end
end L2
set_option Elab.async false
set_option linter.all false
set_option maxRecDepth 100000
set_option maxHeartbeats 4000000
namespace L2
open PySem PySem.Spec PyProof.Rows
section
variable {X : Cx}
def rStarts : V → List V → Hp → VK → Prop := fun x vs H Q => ∃ z y, x = .str z ∧ vs = [.str y] ∧ Q (.bl (PySem.Txt.startswith z y)) H
theorem mt_startswith : MtR X "str.startswith" rStarts := by
  intro pins s σ H x vs v us Q I rx rv h
  obtain ⟨z, y, rfl, rfl, q⟩ := h
  obtain ⟨t, rfl⟩ := rx
  obtain ⟨u, rfl, ru⟩ := rv.one
  obtain ⟨t', rfl⟩ := ru
  exact PySem.SC.startswith ⟨.bl _, H, I, rfl, q⟩
theorem vals_strs : ∀ {texts : List Str} {us : List Value}, Vals (texts.map V.str) us → ∃ l, us = strValues l ∧ l.map (·.1) = texts
  | [], _, .nil => ⟨[], rfl, rfl⟩
  | z :: zs, _, .cons r q => by
    obtain ⟨t, rfl⟩ := r
    obtain ⟨l, rfl, e⟩ := vals_strs q
    exact ⟨(z, t) :: l, rfl, by rw [List.map_cons, e]⟩
def rJoin (K : PySem.W.Frag) : V → List V → Hp → VK → Prop := fun x vs H Q => ∃ z l texts, x = .str z ∧ vs = [.ref l] ∧ SqL K H l (texts.map V.str) ∧ JoinOk z texts = true ∧ Q (.str (PySem.Txt.join z texts)) H
theorem mt_join : MtR X "str.join" (rJoin X.K) := by
  intro pins s σ H x vs v us Q I rx rv h
  obtain ⟨z, l, texts, rfl, rfl, hl, hok, q⟩ := h
  obtain ⟨t, rfl⟩ := rx
  obtain ⟨u, rfl, ru⟩ := rv.one
  cases ru
  obtain ⟨its, r1, p1, _⟩ := I.list hl
  obtain ⟨ll, rfl, e⟩ := vals_strs r1
  exact PySem.SC.join p1.isList e hok fun t' k => ⟨.str _, H, I.tok k, ⟨_, rfl⟩, q⟩
def rSlS : V → Option Int → Option Int → Hp → VK → Prop := fun x lo hi H Q => ∃ z, x = .str z ∧ z.length ≤ sizeLine ∧ Q (.str (PySem.Txt.slice z lo hi)) H
theorem sl_str : SlR X rSlS := by
  intro pins s σ H x v vl vu lo hi sl Q I rx hs pl pu h
  obtain ⟨z, rfl, hz, q⟩ := h
  obtain ⟨t, rfl⟩ := rx
  obtain ⟨o, e1, e2, e3⟩ := hs
  refine ⟨"str", _, F.slot_str_getitem.lookup, typeIs_str _ _ _, ?_⟩
  have fin : ∀ k, ∀ t' : Tok, EP X pins σ Q (.str (PySem.Txt.slice z lo hi) t') { s with toks := k } := fun k t' => ⟨.str _, H, I.tok k, ⟨_, rfl⟩, q⟩
  cases pl with
  | none =>
    cases pu with
    | none => exact wpAny_getItem_str_slice (l := none) (u := none) (st := none) ⟨o, e1, e2, e3⟩ rfl (post_val_or_str ⟨Nat.le_trans (Txt.slice_le z _ _) hz, fun t' k => fin k t'⟩)
    | int j uj => exact wpAny_getItem_str_slice (l := none) (u := some (j, uj)) (st := none) ⟨o, e1, e2, e3⟩ rfl (post_val_or_str ⟨Nat.le_trans (Txt.slice_le z _ _) hz, fun t' k => fin k t'⟩)
  | int i ui =>
    cases pu with
    | none => exact wpAny_getItem_str_slice (l := some (i, ui)) (u := none) (st := none) ⟨o, e1, e2, e3⟩ rfl (post_val_or_str ⟨Nat.le_trans (Txt.slice_le z _ _) hz, fun t' k => fin k t'⟩)
    | int j uj => exact wpAny_getItem_str_slice (l := some (i, ui)) (u := some (j, uj)) (st := none) ⟨o, e1, e2, e3⟩ rfl (post_val_or_str ⟨Nat.le_trans (Txt.slice_le z _ _) hz, fun t' k => fin k t'⟩)
end
/-- all but what stands at ls is as it was -/
def But (ls : List Addr) (H H' : Hp) : Prop := ∀ b o, H b = some o → b ∉ ls → H' b = some o
theorem But.refl {ls : List Addr} {H : Hp} : But ls H H := fun _ _ e _ => e
theorem But.trans {ls : List Addr} {H H1 H2 : Hp} (a : But ls H H1) (b : But ls H1 H2) : But ls H H2 := fun c o e n => b c o (a c o e n) n
theorem Same.but {ls : List Addr} {H H' : Hp} (s : Same H H') : But ls H H' := fun b o e _ => s b o e
theorem But.more {ls ms : List Addr} {H H' : Hp} (a : But ls H H') (h : ∀ l ∈ ls, l ∈ ms) : But ms H H' := fun b o e n => a b o e fun z => n (h b z)
theorem but_upd {ls : List Addr} {H : Hp} {l : Addr} {o : HO} (h : l ∈ ls) : But ls H (upd H l o) := fun b u e n => by
  have hb : b ≠ l := fun z => n (by rw [z]; exact h)
  rw [upd_ne hb]; exact e
/-- where only lists change tuples stay -/
theorem But.t {ls : List Addr} {H H' : Hp} (a : But ls H H') (h : ∀ l ∈ ls, ∃ xs, H l = some (.lst xs)) : TSame H H' := fun b xs e => a b _ e fun z => by
  obtain ⟨ys, e'⟩ := h b z
  rw [e] at e'
  cases e'
/-- what was new ahead may change -/
theorem But.less {ls : List Addr} {l : Addr} {H H' : Hp} (a : But (l :: ls) H H') (n : H l = none) : But ls H H' := fun b o e m => a b o e fun z => by
  rcases List.mem_cons.mp z with z | z
  · subst z; rw [n] at e; cases e
  · exact m z
end L2
set_option Elab.async false
set_option linter.all false
set_option maxRecDepth 100000
set_option maxHeartbeats 4000000
namespace L2
open PySem PySem.Spec PyProof.Rows
theorem mt_joinK {X : Cx} {K : PySem.W.Frag} (h : X.K = K) : MtR X "str.join" (rJoin K) := h ▸ mt_join
/-- over a range, whatever changes meanwhile -/
theorem comp_rngW {src : List (Option Nat)} {g : TG} {te : TE} {σ : St} {H : Hp} {Q : VK} {n : Nat} (Iv : Nat → List V → Hp → Prop) (hz : n ≤ 1000) (h0 : Iv 0 [] H)
    (hs : ∀ i out H1, i < n → out.length = i → Iv i out H1 → ∀ R : VK, (∀ v H5, Iv (i + 1) (out ++ [v]) H5 → R v H5) → g (.int i) (pick σ src) H1 fun σ3 H3 => te σ3 H3 R)
    (q : ∀ D out H', out.length = n → Iv n out H' → H' D = none → Q (.ref D) (upd H' D (.lst out))) :
    ∃ W : Nat → Nat → List V → Hp → Prop, (∃ m, W 0 m [] H) ∧ ∀ i m out H', W i m out H' →
      ((Itr 0 n).stop i H' ∧ ∀ D, H' D = none → Q (.ref D) (upd H' D (.lst out))) ∨
      ((Itr 0 n).go i H' ∧ out.length < sizeLine ∧ ∀ x H2, (Itr 0 n).yld i H' x H2 → g x (pick σ src) H2 fun σ3 H3 => tTrue σ3 H3 fun b H4 =>
        if b = true then te σ3 H4 fun v H5 => ∃ m', m' < m ∧ W (i + 1) m' (out ++ [v]) H5 else ∃ m', m' < m ∧ W (i + 1) m' out H4) := by
  refine ⟨fun i m out H' => m = n - i ∧ i ≤ n ∧ out.length = i ∧ Iv i out H', ⟨_, rfl, Nat.zero_le _, rfl, h0⟩, ?_⟩
  rintro i m out H' ⟨rfl, hi, hl, p⟩
  by_cases hlt : i < n
  · refine .inr ⟨hlt, Nat.lt_of_lt_of_le (by omega) (smz hz), fun x H2 y => ?_⟩
    obtain ⟨e, y⟩ := y
    subst e y
    rw [Int.zero_add]
    exact hs i out _ hlt hl p (fun v H5 => ∃ m', m' < n - i ∧ m' = n - (i + 1) ∧ i + 1 ≤ n ∧ (out ++ [v]).length = i + 1 ∧ Iv (i + 1) (out ++ [v]) H5) fun v H5 h5 => ⟨n - (i + 1), by omega, rfl, hlt, by rw [List.length_append, hl]; rfl, h5⟩
  · have e : i = n := by omega
    subst e
    exact .inl ⟨Nat.le_refl _, fun D hD => q D out H' hl p hD⟩
theorem rd_comp_rngW {src : List (Option Nat)} {g : TG} {te : TE} {ta : TA} {σ : St} {H : Hp} {Q : VK} (Iv : Nat → List V → Hp → Prop) (N : Nat) (hN : N ≤ 1000) (h0 : ∀ R : List V → Hp → Prop, (∀ (n : Nat) H1, n ≤ N → Iv 0 [] H1 → R [.int n] H1) → ta σ H R)
    (hs : ∀ i out H1, i < N → out.length = i → Iv i out H1 → ∀ R : VK, (∀ v H5, Iv (i + 1) (out ++ [v]) H5 → R v H5) → g (.int i) (pick σ src) H1 fun σ3 H3 => te σ3 H3 R)
    (q : ∀ D out H', out.length ≤ N → Iv out.length out H' → H' D = none → Q (.ref D) (upd H' D (.lst out))) : tComp (iRng1 ta) src g tTrue te σ H Q :=
  h0 _ fun n H1 hn hI => ⟨(n : Int), rfl, by omega, by omega, by
    rw [Int.toNat_natCast]
    exact comp_rngW (Q := Q) Iv (by omega) hI (fun i out H1 hi => hs i out H1 (by omega)) fun D out H' hl hI' hD => q D out H' (by omega) (hl ▸ hI') hD⟩
theorem rd_andB {ta tb : TT} {σ : St} {H : Hp} {Q : Bool → Hp → Prop} {b : Bool} {Pc : Bool → Prop} (ha : ∀ R : Bool → Hp → Prop, R b H → ta σ H R) (hb : b = true → ∀ R : Bool → Hp → Prop, (∀ c H1, Same H H1 → Pc c → R c H1) → tb σ H R) (ht : b = false → Pc false) (q : ∀ c H1, Same H H1 → Pc c → Q c H1) : tAnd ta tb σ H Q := by
  refine ha _ ?_
  cases b with
  | false => exact q false H (Same.refl H) (ht rfl)
  | true => exact hb rfl Q q
theorem rd_orB {ta tb : TT} {σ : St} {H : Hp} {Q : Bool → Hp → Prop} {b : Bool} {Pc : Bool → Prop} (ha : ∀ R : Bool → Hp → Prop, R b H → ta σ H R) (hb : b = false → ∀ R : Bool → Hp → Prop, (∀ c H1, Same H H1 → Pc c → R c H1) → tb σ H R) (ht : b = true → Pc true) (q : ∀ c H1, Same H H1 → Pc c → Q c H1) : tOr ta tb σ H Q := by
  refine ha _ ?_
  cases b with
  | true => exact q true H (Same.refl H) (ht rfl)
  | false => exact hb rfl Q q
end L2
set_option Elab.async false
set_option linter.all false
set_option maxRecDepth 100000
set_option maxHeartbeats 4000000
namespace L2
open PySem PySem.Spec PyProof.Rows
theorem range_pick {α : Type} : ∀ l : List α, (List.range l.length).filterMap (fun k => l[k]?) = l := by
  intro l
  have h : ∀ n, n ≤ l.length → (List.range n).filterMap (fun k => l[k]?) = l.take n := by
    intro n
    induction n with
    | zero => intro _; rfl
    | succ n ih =>
      intro hn
      have hlt : n < l.length := by omega
      rw [List.range_succ, List.filterMap_append, ih (by omega), List.take_add_one, List.getElem?_eq_getElem hlt]
      simp [hlt]
  rw [h _ (Nat.le_refl _), List.take_length]
theorem fm_congr {α β : Type} {f g : α → Option β} : ∀ {l : List α}, (∀ x ∈ l, f x = g x) → l.filterMap f = l.filterMap g
  | [], _ => rfl
  | a :: l, h => by
    rw [List.filterMap_cons, List.filterMap_cons, h a List.mem_cons_self, fm_congr fun x hx => h x (List.mem_cons_of_mem _ hx)]
theorem slicePick_rev (its : List Value) : slicePick its.toArray none none (some (-1)) = its.reverse.toArray := by
  unfold slicePick sliceBounds sliceRange
  have e0 : ((some (-1 : Int)).getD 1) = -1 := rfl
  simp only [e0, List.size_toArray, show ¬ ((-1 : Int) > 0) by decide, if_false]
  have ec : (if ((its.length : Int) - 1) > -1 then (((its.length : Int) - 1) - -1 - -1 - 1) / (- -1) else 0).toNat = its.length := by
    split
    · first | (simp; done) | (simp; omega)
    · omega
  rw [ec]
  congr 1
  rw [List.filterMap_map]
  have e2 := range_pick its.reverse
  rw [List.length_reverse] at e2
  conv => rhs; rw [← e2]
  refine fm_congr fun k hk => ?_
  have hk : k < its.length := List.mem_range.mp hk
  show its.toArray[((its.length : Int) - 1 + -1 * (k : Int)).toNat]? = its.reverse[k]?
  have e3 : ((its.length : Int) - 1 + -1 * (k : Int)).toNat = its.length - 1 - k := by omega
  rw [e3, List.getElem?_reverse hk]
  simp
def rRev (K : PySem.W.Frag) : V → Hp → VK → Prop := fun x H Q => ∃ a xs, x = .ref a ∧ SqL K H a xs ∧ ∀ p, H p = none → Q (.ref p) (upd H p (.lst xs.reverse))
/-- a[::-1] of a list: a new list -/
theorem pe_rev {X : Cx} {K : PySem.W.Frag} {e st : Expr} {te : TE} {p2 pos : Pos} (hK : X.K = K) (he : PE X e te) {tst : TO} (hst : PO X (some st) tst) (hv : ∀ σ H (R : Option Int → Hp → Prop), R (some (-1)) H → tst σ H R) : PE X (.Subscript e (.Slice none none (some st) p2) pos) (fun σ H Q => te σ H fun x H1 => rRev K x H1 Q) := by
  subst hK
  intro pins s σ H Q I h
  refine Subscript_ (thn (he pins s σ H _ I h) fun v s1 ⟨x, H1, I1, r1, q1⟩ => ?_)
  refine wpAny_Slice ?_
  rw [evalPart_none]
  refine wpAny_pure ?_
  refine wpAny_pure ?_
  refine thn (hst pins s1 σ H1 (fun o H2 => o = some (-1) ∧ H2 = H1) I1 (hv _ _ _ ⟨rfl, rfl⟩)) fun vs s3 ⟨o, H3, I3, ps, eo, eH⟩ => ?_
  subst eo eH
  obtain ⟨a, xs, rfl, hx, q⟩ := q1
  cases r1
  have I4 : Inv X pins σ H3 { s3 with heap := s3.heap.push { cls := .type "slice", data := .fields #[.none, .none, vs] } } := I3.kept (t' := s3.toks) fun b ob q => Heap.get?_push_of_some _ q
  obtain ⟨its, r, ht, hz⟩ := I4.list hx
  have hlen := r.length
  have hg : wpAny (model X.prog X.w) X.A (getItem (.ref a) (.ref s3.heap.objs.size)) (EP X pins σ Q) X.xe { s3 with heap := s3.heap.push { cls := .type "slice", data := .fields #[.none, .none, vs] } } := by
    refine wpAny_getItem_list_slice ht.isList (Heap.IsSliceOf.new ..) .none .none ps (by simp) ?_ (by rw [List.size_toArray] <;> omega)
    rw [slicePick_rev]
    refine ⟨.ref _, _, I4.laid (t' := s3.toks) (o := .lst xs.reverse) (fun b ob q => Heap.get?_push_of_some _ q) (Nat.le_refl _) ?_, rfl, q _ (I4.hok.fresh (Nat.le_refl _))⟩
    exact ⟨by rw [List.length_reverse]; exact hz, _, 0, r.reverse, Heap.get?_push_size _ rfl⟩
  exact tail_any (ops := [.ref a, .ref s3.heap.objs.size]) ht.isList.typeIs slot_list_getitem.lookup hg (by with_unfolding_all rfl)
end L2
set_option Elab.async false
set_option linter.all false
set_option maxRecDepth 100000
set_option maxHeartbeats 4000000
namespace L2
open PySem PySem.Spec PyProof.Rows PySem.SeqAt
theorem vals_bools : ∀ {bs : List Bool} {us : List Value}, Vals (bs.map V.bl) us → us = bs.map Value.bool
  | [], _, .nil => rfl
  | b :: bs, _, .cons r q => by
    cases r
    rw [vals_bools q]
    rfl
def rCountB (K : PySem.W.Frag) : V → List V → Hp → VK → Prop := fun x vs H Q => ∃ (a : Addr) (bs : List Bool) (k : Bool), x = .ref a ∧ vs = [.bl k] ∧ SqL K H a (bs.map V.bl) ∧ Q (.int (bs.count k : Nat)) H
theorem mt_countB {X : Cx} : MtR X "list.count" (rCountB X.K) := by
  intro pins s σ H x vs v us Q I rx rv h
  obtain ⟨a, bs, k, rfl, rfl, hq, q⟩ := h
  cases rx
  obtain ⟨u, rfl, ru⟩ := rv.one
  cases ru
  obtain ⟨its, r, p, hz⟩ := I.list hq
  have e := vals_bools r
  subst e
  obtain ⟨⟨cls, dd, data, sl⟩, ho, hc, n, hd⟩ := p.isList
  simp only at hc hd
  subst hc hd
  refine call_meets PySem.F.slot_list_count ⟨_, ho, rfl⟩ PySem.F.entry_list_count (PySem.F.args_list_count_2 _ _) (list_countAt a (bs.map Value.bool).toArray n dd sl (.bool k) (isBoolOf k)) ⟨ho, fun y hy => ?_, ?_⟩
  · have hy : y ∈ bs.map Value.bool := by simpa using hy
    obtain ⟨b, _, rfl⟩ := List.mem_map.mp hy
    exact EqAt.bool_bool b k
  · have ec : ((bs.map Value.bool).countP (isBoolOf k) : Nat) = bs.count k := by
      rw [List.countP_map]
      rfl
    rw [show (bs.map Value.bool).toArray.toList = bs.map Value.bool from rfl, ec]
    exact ⟨.int _, H, I.tok _, ⟨_, rfl⟩, q⟩
theorem mt_countBK {X : Cx} {K : PySem.W.Frag} (h : X.K = K) : MtR X "list.count" (rCountB K) := h ▸ mt_countB
/-- a loop over a zip of two tuples of one length, whatever else changes -/
theorem for_zip2W {K : PySem.W.Frag} {l0 l1 : Addr} {xs0 xs1 : List V} {g : TG} {tb : TS} {ta : TA} {D : Ends} {σ : St} {H : Hp} (Pv : Nat → St → Hp → Prop) (n1 : xs1.length = xs0.length)
    (ha : ∀ R : List V → Hp → Prop, R [.ref l0, .ref l1] H → ta σ H R) (h0 : Pv 0 σ H) (hq : ∀ i σ' H', Pv i σ' H' → SqT K H' l0 xs0 ∧ SqT K H' l1 xs1)
    (hs : ∀ (i : Nat) (x y : V) (σ' : St) (T : Addr) (H1 : Hp), xs0[i]? = some x → xs1[i]? = some y → H1 T = none → Pv i σ' H1 → g (.ref T) σ' (upd H1 T (.tup [x, y])) fun σ2 H2 => tb { D with nx := Pv (i + 1), ct := Pv (i + 1), bk := D.nx } σ2 H2)
    (hd : ∀ σ' H', Pv xs0.length σ' H' → D.nx σ' H') : tFor (iZip2 K ta) g tb D σ H := by
  obtain ⟨q0, q1⟩ := hq 0 σ H h0
  refine ha _ ⟨l0, l1, rfl, ⟨_, q0⟩, ⟨_, q1⟩, ?_⟩
  refine ⟨fun i m σ' H' => m = xs0.length - i ∧ i ≤ xs0.length ∧ Pv i σ' H', ⟨xs0.length, by simp, Nat.zero_le _, h0⟩, ?_⟩
  rintro i m σ' H' ⟨rfl, hi, hI⟩
  obtain ⟨q0, q1⟩ := hq i σ' H' hI
  by_cases hlt : i < xs0.length
  · have e0 : xs0[i]? = some xs0[i] := List.getElem?_eq_getElem hlt
    have e1 : xs1[i]? = some (xs1[i]'(by omega)) := List.getElem?_eq_getElem _
    refine .inr ⟨⟨xs0, xs1, _, _, q0, q1, e0, e1⟩, Pv (i + 1), fun σ2 H2 hp => ⟨xs0.length - (i + 1), by omega, rfl, hlt, hp⟩, fun x H2 y => ?_⟩
    obtain ⟨T, hT, rfl, y⟩ := y
    have y := y xs0 xs1 _ _ q0 q1 e0 e1
    subst y
    exact hs i _ _ σ' T H' e0 e1 hT hI
  · have e : i = xs0.length := by omega
    subst e
    exact .inl ⟨⟨xs0, xs1, q0, q1, Nat.le_refl _⟩, hd σ' H' hI⟩
end L2
set_option Elab.async false
set_option linter.all false
set_option maxRecDepth 100000
set_option maxHeartbeats 4000000
namespace My
open PySem L2
def top (i : Nat) : Stmt := PySem.Challenge.pw_pageturns_k13_just_one_of.main.body.getD i (.Pass ⟨0, 0, 0, 0⟩)
abbrev s_names_of : Stmt := top 1
abbrev s_value_in : Stmt := top 2
abbrev s_passes : Stmt := top 4
abbrev s_value_passes : Stmt := top 5
abbrev s_l_well : Stmt := top 7
abbrev s_l_draw : Stmt := top 8
abbrev s_l_columns : Stmt := top 9
abbrev s_l_number : Stmt := top 10
abbrev s_l_word : Stmt := top 11
abbrev s_l_value : Stmt := top 12
abbrev s_l_key : Stmt := top 13
abbrev s_l_leaf : Stmt := top 14
abbrev s_l_sieve : Stmt := top 15
abbrev s_l_split : Stmt := top 16
abbrev s_l_values_right : Stmt := top 17
abbrev s_l_words_right : Stmt := top 18
abbrev s_law : Stmt := top 19
structure Adr where
  f_names_of : Addr
  d_names_of : FuncData
  f_value_in : Addr
  d_value_in : FuncData
  f_passes : Addr
  d_passes : FuncData
  f_value_passes : Addr
  d_value_passes : FuncData
  f_l_well : Addr
  d_l_well : FuncData
  f_l_draw : Addr
  d_l_draw : FuncData
  f_l_columns : Addr
  d_l_columns : FuncData
  f_l_number : Addr
  d_l_number : FuncData
  f_l_word : Addr
  d_l_word : FuncData
  f_l_value : Addr
  d_l_value : FuncData
  f_l_key : Addr
  d_l_key : FuncData
  f_l_leaf : Addr
  d_l_leaf : FuncData
  f_l_sieve : Addr
  d_l_sieve : FuncData
  f_l_split : Addr
  d_l_split : FuncData
  f_l_values_right : Addr
  d_l_values_right : FuncData
  f_l_words_right : Addr
  d_l_words_right : FuncData
  f_law : Addr
  d_law : FuncData
structure Txt (K : PySem.W.Frag) (mg : Str → Option Value) (t : Adr) : Prop where
  F_names_of : Fun K "names_of" "names_of" s_names_of t.f_names_of t.d_names_of
  b_names_of : Binds K t.d_names_of ["columns"] []
  mg_names_of : mg "names_of" = some (.ref t.f_names_of)
  F_value_in : Fun K "value_in" "value_in" s_value_in t.f_value_in t.d_value_in
  b_value_in : Binds K t.d_value_in ["columns", "row", "name"] []
  mg_value_in : mg "value_in" = some (.ref t.f_value_in)
  F_passes : Fun K "passes" "passes" s_passes t.f_passes t.d_passes
  b_passes : Binds K t.d_passes ["columns", "sieve", "row"] []
  mg_passes : mg "passes" = some (.ref t.f_passes)
  F_value_passes : Fun K "value_passes" "value_passes" s_value_passes t.f_value_passes t.d_value_passes
  b_value_passes : Binds K t.d_value_passes ["word", "value", "told"] []
  mg_value_passes : mg "value_passes" = some (.ref t.f_value_passes)
  F_l_well : Fun K "_law_well" "_law_well" s_l_well t.f_l_well t.d_l_well
  b_l_well : Binds K t.d_l_well ["_law_script", "_law_k"] []
  mg_l_well : mg "_law_well" = some (.ref t.f_l_well)
  F_l_draw : Fun K "_law_draw" "_law_draw" s_l_draw t.f_l_draw t.d_l_draw
  b_l_draw : Binds K t.d_l_draw ["_law_well_here", "_law_most"] []
  mg_l_draw : mg "_law_draw" = some (.ref t.f_l_draw)
  F_l_columns : Fun K "_law_columns" "_law_columns" s_l_columns t.f_l_columns t.d_l_columns
  b_l_columns : Binds K t.d_l_columns ["_law_well_here"] []
  mg_l_columns : mg "_law_columns" = some (.ref t.f_l_columns)
  F_l_number : Fun K "_law_number" "_law_number" s_l_number t.f_l_number t.d_l_number
  b_l_number : Binds K t.d_l_number ["_law_well_here"] []
  mg_l_number : mg "_law_number" = some (.ref t.f_l_number)
  F_l_word : Fun K "_law_word" "_law_word" s_l_word t.f_l_word t.d_l_word
  b_l_word : Binds K t.d_l_word ["_law_well_here"] []
  mg_l_word : mg "_law_word" = some (.ref t.f_l_word)
  F_l_value : Fun K "_law_value" "_law_value" s_l_value t.f_l_value t.d_l_value
  b_l_value : Binds K t.d_l_value ["_law_well_here", "_law_kind"] []
  mg_l_value : mg "_law_value" = some (.ref t.f_l_value)
  F_l_key : Fun K "_law_key" "_law_key" s_l_key t.f_l_key t.d_l_key
  b_l_key : Binds K t.d_l_key ["_law_well_here"] []
  mg_l_key : mg "_law_key" = some (.ref t.f_l_key)
  F_l_leaf : Fun K "_law_leaf" "_law_leaf" s_l_leaf t.f_l_leaf t.d_l_leaf
  b_l_leaf : Binds K t.d_l_leaf ["_law_well_here", "_law_columns_here"] []
  mg_l_leaf : mg "_law_leaf" = some (.ref t.f_l_leaf)
  F_l_sieve : Fun K "_law_sieve" "_law_sieve" s_l_sieve t.f_l_sieve t.d_l_sieve
  b_l_sieve : Binds K t.d_l_sieve ["_law_well_here", "_law_columns_here", "_law_deep", "_law_room"] []
  mg_l_sieve : mg "_law_sieve" = some (.ref t.f_l_sieve)
  F_l_split : Fun K "_law_split" "_law_split" s_l_split t.f_l_split t.d_l_split
  b_l_split : Binds K t.d_l_split ["_law_columns_here", "_law_row", "_law_name", "_law_value_here"] []
  mg_l_split : mg "_law_split" = some (.ref t.f_l_split)
  F_l_values_right : Fun K "_law_values_right" "_law_values_right" s_l_values_right t.f_l_values_right t.d_l_values_right
  b_l_values_right : Binds K t.d_l_values_right ["_law_columns_here", "_law_row", "_law_well_here"] []
  mg_l_values_right : mg "_law_values_right" = some (.ref t.f_l_values_right)
  F_l_words_right : Fun K "_law_words_right" "_law_words_right" s_l_words_right t.f_l_words_right t.d_l_words_right
  b_l_words_right : Binds K t.d_l_words_right ["_law_columns_here", "_law_row", "_law_sieves"] []
  mg_l_words_right : mg "_law_words_right" = some (.ref t.f_l_words_right)
  F_law : Fun K "law" "law" s_law t.f_law t.d_law
  b_law : Binds K t.d_law ["_law_script"] []
  mg_law : mg "law" = some (.ref t.f_law)
  n_all : mg "all" = none
  n_any : mg "any" = none
  n_len : mg "len" = none
  n_int : mg "int" = none
  n_range : mg "range" = none
  n_tuple : mg "tuple" = none
  n_zip : mg "zip" = none
  bl : ∀ (s : Shared) (u : Value), BindsTo s t.d_law ⟨[u], []⟩ [("_law_script", u)]
theorem sc_names_of : FnScope ["columns"] ["columns"] (defScope s_names_of) := ⟨rfl, rfl, rfl, by decide +kernel, rfl, by decide +kernel, by decide +kernel⟩
theorem sc_value_in : FnScope ["columns", "row", "name"] ["columns", "row", "name"] (defScope s_value_in) := ⟨rfl, rfl, rfl, by decide +kernel, rfl, by decide +kernel, by decide +kernel⟩
theorem sc_passes : FnScope ["columns", "sieve", "row"] ["columns", "sieve", "row"] (defScope s_passes) := ⟨rfl, rfl, rfl, by decide +kernel, rfl, by decide +kernel, by decide +kernel⟩
theorem sc_value_passes : FnScope ["word", "value", "told"] ["word", "value", "told"] (defScope s_value_passes) := ⟨rfl, rfl, rfl, by decide +kernel, rfl, by decide +kernel, by decide +kernel⟩
theorem sc_l_well : FnScope ["_law_script", "_law_k", "_law_cell"] ["_law_script", "_law_k"] (defScope s_l_well) := ⟨rfl, rfl, rfl, by decide +kernel, rfl, by decide +kernel, by decide +kernel⟩
theorem sc_l_draw : FnScope ["_law_well_here", "_law_most", "_law_number_here"] ["_law_well_here", "_law_most"] (defScope s_l_draw) := ⟨rfl, rfl, rfl, by decide +kernel, rfl, by decide +kernel, by decide +kernel⟩
theorem sc_l_columns : FnScope ["_law_well_here", "_law_names", "_law_found", "_law_k", "_law_name"] ["_law_well_here"] (defScope s_l_columns) := ⟨rfl, rfl, rfl, by decide +kernel, rfl, by decide +kernel, by decide +kernel⟩
theorem sc_l_number : FnScope ["_law_well_here", "_law_way"] ["_law_well_here"] (defScope s_l_number) := ⟨rfl, rfl, rfl, by decide +kernel, rfl, by decide +kernel, by decide +kernel⟩
theorem sc_l_word : FnScope ["_law_well_here", "_law_way", "_law_signs"] ["_law_well_here"] (defScope s_l_word) := ⟨rfl, rfl, rfl, by decide +kernel, rfl, by decide +kernel, by decide +kernel⟩
theorem sc_l_value : FnScope ["_law_well_here", "_law_kind"] ["_law_well_here", "_law_kind"] (defScope s_l_value) := ⟨rfl, rfl, rfl, by decide +kernel, rfl, by decide +kernel, by decide +kernel⟩
theorem sc_l_key : FnScope ["_law_well_here", "_law_some"] ["_law_well_here"] (defScope s_l_key) := ⟨rfl, rfl, rfl, by decide +kernel, rfl, by decide +kernel, by decide +kernel⟩
theorem sc_l_leaf : FnScope ["_law_well_here", "_law_columns_here", "_law_way", "_law_name", "_law_kind", "_law_value_here"] ["_law_well_here", "_law_columns_here"] (defScope s_l_leaf) := ⟨rfl, rfl, rfl, by decide +kernel, rfl, by decide +kernel, by decide +kernel⟩
theorem sc_l_sieve : FnScope ["_law_well_here", "_law_columns_here", "_law_deep", "_law_room", "_law_way", "_law_inner", "_law_k"] ["_law_well_here", "_law_columns_here", "_law_deep", "_law_room"] (defScope s_l_sieve) := ⟨rfl, rfl, rfl, by decide +kernel, rfl, by decide +kernel, by decide +kernel⟩
theorem sc_l_split : FnScope ["_law_columns_here", "_law_row", "_law_name", "_law_value_here", "_law_some"] ["_law_columns_here", "_law_row", "_law_name", "_law_value_here"] (defScope s_l_split) := ⟨rfl, rfl, rfl, by decide +kernel, rfl, by decide +kernel, by decide +kernel⟩
theorem sc_l_values_right : FnScope ["_law_columns_here", "_law_row", "_law_well_here", "_law_own", "_law_value_here", "_law_name", "_law_kind", "_law_begun", "_law_at"] ["_law_columns_here", "_law_row", "_law_well_here"] (defScope s_l_values_right) := ⟨rfl, rfl, rfl, by decide +kernel, rfl, by decide +kernel, by decide +kernel⟩
theorem sc_l_words_right : FnScope ["_law_columns_here", "_law_row", "_law_sieves", "_law_told", "_law_nots", "_law_some"] ["_law_columns_here", "_law_row", "_law_sieves"] (defScope s_l_words_right) := ⟨rfl, rfl, rfl, by decide +kernel, rfl, by decide +kernel, by decide +kernel⟩
theorem sc_law : FnScope ["_law_script", "_law_well_here", "_law_columns_here", "_law_rows", "_law_k", "_law_row", "_law_sieves", "_law_keys", "_law_key_here", "_law_worths"] ["_law_script"] (defScope s_law) := ⟨rfl, rfl, rfl, by decide +kernel, rfl, by decide +kernel, by decide +kernel⟩
end My
set_option Elab.async false
set_option linter.all false
set_option maxRecDepth 100000
set_option maxHeartbeats 4000000
namespace My
open PySem L2
theorem sm {n : Nat} (h : n ≤ 1000) : n ≤ sizeLine := Nat.le_of_lt (small1000 h)
theorem same_none {H H1 : Hp} {l : Addr} (s : Same H H1) (h : H1 l = none) : H l = none := by
  cases e : H l with
  | none => rfl
  | some o => rw [s _ _ e] at h; cases h
def WellAt (H : Hp) (l : Addr) : Prop := ∃ a b c : Int, H l = some (.lst [.int a, .int b, .int c])
def spWell (K : PySem.W.Frag) : Sp := fun vs H Q _ => ∃ (a : Addr) (ns : List Int) (k : Nat), vs = [.ref a, .int k] ∧ SqL K H a (ns.map V.int) ∧ ns.length ≤ 63 ∧ ∀ l H', Same H H' → H l = none → WellAt H' l → Q (.ref l) H'
def spDraw : Sp := fun vs H Q _ => ∃ (l : Addr) (m : Int), vs = [.ref l, .int m] ∧ 0 < m ∧ m ≤ 3000 ∧ WellAt H l ∧ ∀ (n : Int) (H' : Hp), 0 ≤ n → n < m → But [l] H H' → WellAt H' l → Q (.int n) H'
theorem log_small {m : Int} (h0 : 0 < m) (h1 : m ≤ 3000) : m.natAbs.log2 < 9000 := by
  have h2 : m.natAbs ≤ 3000 := by omega
  have h3 : m.natAbs.log2 ≤ m.natAbs := Nat.log2_le_self _
  omega
section
variable {P : Program} {w : World} {K : PySem.W.Frag} {mg : Str → Option Value} {base : Heap} {t : Adr}
theorem ok_well (T : Txt K mg t) : FnOk P w K mg base CX0 1 t.f_l_well t.d_l_well ["_law_script", "_law_k"] (spWell K) := by
  refine T.F_l_well.ok sc_l_well (fun vs H Q E h => ?_) (fun cdv A outer s H vs Q E hr h => ?_)
  · obtain ⟨a, ns, k, rfl, _⟩ := h
    rfl
  · obtain ⟨a, ns, k, rfl, hS, hlen, q⟩ := h
    refine ⟨_, (@pss_cons _ _ _ _ _ (@ps_set _ _ (2) _ _ _ _ sc_l_well.nd (by rfl) (by first | exact Or.inl rfl | exact Or.inr rfl) pe_int (by rfl) (by first | exact .inl rfl | exact .inr rfl | assumption)) (@pss_cons _ _ _ _ _ (@ps_cut _ _ _ (@ps_if _ _ _ _ _ _ _ _ (@pt_cmpR _ _ _ _ _ _ _ _ op_lt (@pv _ 1 _ _ (by rfl) (by first | exact Or.inl rfl | exact Or.inr (Or.inl rfl) | exact Or.inr (Or.inr rfl)) (by decide) (by decide)) (@pe_callB _ _ _ _ _ _ _ _ _ call_len (by rfl) T.n_len bt_len (@pa2 _ _ _ _ _ (@pv _ 0 _ _ (by rfl) (by first | exact Or.inl rfl | exact Or.inr (Or.inl rfl) | exact Or.inr (Or.inr rfl)) (by decide) (by decide)) pa_nil (by rfl)) (by decide) (by decide) (by rfl) (by rfl)) (nomark _)) (@pss_one _ _ _ (@ps_set _ _ (2) _ _ _ _ sc_l_well.nd (by rfl) (by first | exact Or.inl rfl | exact Or.inr rfl) (@pe_ix _ _ _ _ _ _ _ ix_list (@pv _ 0 _ _ (by rfl) (by first | exact Or.inl rfl | exact Or.inr (Or.inl rfl) | exact Or.inr (Or.inr rfl)) (by decide) (by decide)) (@pv _ 1 _ _ (by rfl) (by first | exact Or.inl rfl | exact Or.inr (Or.inl rfl) | exact Or.inr (Or.inr rfl)) (by decide) (by decide)) (fun _ _ => rfl)) (by rfl) (by first | exact .inl rfl | exact .inr rfl | assumption))) pss_nil)) (@pss_one _ _ _ (@ps_ret _ _ _ _ (@pe_lst _ _ _ _ (@pa2 _ _ _ _ _ (@pe_op _ _ _ _ _ _ _ _ op_add (@pe_op _ _ _ _ _ _ _ _ op_mod (@pv _ 2 _ _ (by rfl) (by first | exact Or.inl rfl | exact Or.inr (Or.inl rfl) | exact Or.inr (Or.inr rfl)) (by decide) (by decide)) pe_int) (@pe_op _ _ _ _ _ _ _ _ op_mul pe_int (@pv _ 1 _ _ (by rfl) (by first | exact Or.inl rfl | exact Or.inr (Or.inl rfl) | exact Or.inr (Or.inr rfl)) (by decide) (by decide)))) (@pa2 _ _ _ _ _ (@pe_ix _ _ _ _ _ _ _ ix_list (@pe_lst _ _ _ _ (@pa2 _ _ _ _ _ pe_int (@pa2 _ _ _ _ _ (@pv _ 2 _ _ (by rfl) (by first | exact Or.inl rfl | exact Or.inr (Or.inl rfl) | exact Or.inr (Or.inr rfl)) (by decide) (by decide)) pa_nil (by rfl)) (by rfl))) (@pe_callTy _ _ _ _ _ _ _ _ _ call_int1 (by rfl) T.n_int bt_int (@pa2 _ _ _ _ _ (@pe_cmpR _ _ _ _ _ _ _ _ op_ge (@pv _ 2 _ _ (by rfl) (by first | exact Or.inl rfl | exact Or.inr (Or.inl rfl) | exact Or.inr (Or.inr rfl)) (by decide) (by decide)) (@pe_op _ _ _ _ _ _ _ _ op_pow pe_int pe_int) (nomark _)) pa_nil (by rfl)) (by decide) (by decide) (by rfl) (by rfl)) (fun _ _ => rfl)) (@pa2 _ _ _ _ _ pe_int pa_nil (by rfl)) (by rfl)) (by rfl))))))), ?_⟩
    refine ⟨fun σ' H' => ∃ c : Int, σ' = [some (.ref a), some (.int k), some (.int c)] ∧ H' = H, ?_, ?_⟩
    · have lenF : LenV K (.ref a) H ns.length := .inl ⟨_, hS, (List.length_map _).symm⟩
      refine ⟨_, rfl, _, rfl, _, _, rfl, lenF, _, _, rfl, rfl, _, rfl, ?_⟩
      refine ifb (fun h1 => ?_) (fun h1 => ?_)
      · have h1 : (k : Int) < ((ns.length : Nat) : Int) := of_decide_eq_true h1
        have hk : k < ns.length := by omega
        exact ⟨_, rfl, _, rfl, a, _, _, .int ns[k], rfl, rfl, hS, atI_nat (by rw [List.getElem?_map]; simp [hk]), _, rfl, rfl⟩
      · exact ⟨_, rfl, rfl⟩
    · rintro σ' H' ⟨c, rfl, rfl⟩
      refine ⟨_, rfl, _, _, rfl, rfl, (show (0 : Int) < 2147483647 by decide), _, rfl, _, _, rfl, rfl, .inl ⟨by decide, by decide⟩, _, _, rfl, rfl, ?_⟩
      refine ⟨_, rfl, sm (show 2 ≤ 1000 by decide), fun l0 hl0 => ?_⟩
      generalize hH1 : upd H' l0 _ = H1
      have s1 : Same H' H1 := hH1 ▸ same_new hl0
      have e0 : H1 l0 = some (.lst [.int 0, .int c]) := hH1 ▸ upd_same
      have pickc : ∀ b : Bool, ∃ x : Int, atI [V.int 0, .int c] (if b = true then 1 else 0) = some (.int x) := fun b => by cases b; exact ⟨0, rfl⟩; exact ⟨c, rfl⟩
      obtain ⟨x, ax⟩ := pickc (decide (10 ^ (18 : Int).toNat ≤ c))
      refine ⟨_, rfl, _, _, rfl, rfl, ⟨by decide, by decide, by decide⟩, _, _, rfl, rfl, .inr ⟨_, rfl, l0, _, _, .int x, rfl, rfl, SqL.of e0, ax, sm (show 3 ≤ 1000 by decide), fun l hl => ?_⟩⟩
      have s2 : Same H1 (upd H1 l (.lst [.int (c % 2147483647 + 48271 * k), .int x, .int 0])) := same_new hl
      exact q l _ (s1.trans s2) (same_none s1 hl) ⟨_, _, _, upd_same⟩
theorem ok_draw (T : Txt K mg t) : FnOk P w K mg base CX0 1 t.f_l_draw t.d_l_draw ["_law_well_here", "_law_most"] spDraw := by
  refine T.F_l_draw.ok sc_l_draw (fun vs H Q E h => ?_) (fun cdv A outer s H vs Q E hr h => ?_)
  · obtain ⟨l, m, rfl, _⟩ := h
    rfl
  · obtain ⟨l, m, rfl, h0, h1, ⟨a, b, c, e⟩, q⟩ := h
    refine ⟨_, (@pss_cons _ _ _ _ _ (@ps_if _ _ _ _ _ _ _ _ (@pt_cmpR _ _ _ _ _ _ _ _ op_gt (@pe_ix _ _ _ _ _ _ _ ix_list (@pv _ 0 _ _ (by rfl) (by first | exact Or.inl rfl | exact Or.inr (Or.inl rfl) | exact Or.inr (Or.inr rfl)) (by decide) (by decide)) pe_int (fun _ _ => rfl)) pe_int (nomark _)) (@pss_cons _ _ _ _ _ (@ps_set _ _ (2) _ _ _ _ sc_l_draw.nd (by rfl) (by first | exact Or.inl rfl | exact Or.inr rfl) (@pe_op _ _ _ _ _ _ _ _ op_mod (@pe_ix _ _ _ _ _ _ _ ix_list (@pv _ 0 _ _ (by rfl) (by first | exact Or.inl rfl | exact Or.inr (Or.inl rfl) | exact Or.inr (Or.inr rfl)) (by decide) (by decide)) pe_int (fun _ _ => rfl)) (@pv _ 1 _ _ (by rfl) (by first | exact Or.inl rfl | exact Or.inr (Or.inl rfl) | exact Or.inr (Or.inr rfl)) (by decide) (by decide))) (by rfl) (by first | exact .inl rfl | exact .inr rfl | assumption)) (@pss_cons _ _ _ _ _ (@ps_asg _ _ _ _ _ _ (@pe_op _ _ _ _ _ _ _ _ op_fdivL (@pe_ix _ _ _ _ _ _ _ ix_list (@pv _ 0 _ _ (by rfl) (by first | exact Or.inl rfl | exact Or.inr (Or.inl rfl) | exact Or.inr (Or.inr rfl)) (by decide) (by decide)) pe_int (fun _ _ => rfl)) (@pv _ 1 _ _ (by rfl) (by first | exact Or.inl rfl | exact Or.inr (Or.inl rfl) | exact Or.inr (Or.inr rfl)) (by decide) (by decide))) (@pg_sub _ _ _ _ _ _ _ (@pv _ 0 _ _ (by rfl) (by first | exact Or.inl rfl | exact Or.inr (Or.inl rfl) | exact Or.inr (Or.inr rfl)) (by decide) (by decide)) pe_int set_list (by intro _; rfl)) (by rfl) (by rfl) (by rfl)) (@pss_one _ _ _ (@ps_ret _ _ _ _ (@pv _ 2 _ _ (by rfl) (by first | exact Or.inl rfl | exact Or.inr (Or.inl rfl) | exact Or.inr (Or.inr rfl)) (by decide) (by decide)))))) pss_nil) (@pss_cons _ _ _ _ _ (@ps_asg _ _ _ _ _ _ (@pe_op _ _ _ _ _ _ _ _ op_add (@pe_ix _ _ _ _ _ _ _ ix_list (@pv _ 0 _ _ (by rfl) (by first | exact Or.inl rfl | exact Or.inr (Or.inl rfl) | exact Or.inr (Or.inr rfl)) (by decide) (by decide)) pe_int (fun _ _ => rfl)) pe_int) (@pg_sub _ _ _ _ _ _ _ (@pv _ 0 _ _ (by rfl) (by first | exact Or.inl rfl | exact Or.inr (Or.inl rfl) | exact Or.inr (Or.inr rfl)) (by decide) (by decide)) pe_int set_list (by intro _; rfl)) (by rfl) (by rfl) (by rfl)) (@pss_cons _ _ _ _ _ (@ps_set _ _ (2) _ _ _ _ sc_l_draw.nd (by rfl) (by first | exact Or.inl rfl | exact Or.inr rfl) (@pe_op _ _ _ _ _ _ _ _ op_mod (@pe_op _ _ _ _ _ _ _ _ op_mul (@pe_op _ _ _ _ _ _ _ _ op_add (@pe_op _ _ _ _ _ _ _ _ op_add (@pe_ix _ _ _ _ _ _ _ ix_list (@pv _ 0 _ _ (by rfl) (by first | exact Or.inl rfl | exact Or.inr (Or.inl rfl) | exact Or.inr (Or.inr rfl)) (by decide) (by decide)) pe_int (fun _ _ => rfl)) (@pe_op _ _ _ _ _ _ _ _ op_mul pe_int (@pe_ix _ _ _ _ _ _ _ ix_list (@pv _ 0 _ _ (by rfl) (by first | exact Or.inl rfl | exact Or.inr (Or.inl rfl) | exact Or.inr (Or.inr rfl)) (by decide) (by decide)) pe_int (fun _ _ => rfl)))) pe_int) pe_int) pe_int) (by rfl) (by first | exact .inl rfl | exact .inr rfl | assumption)) (@pss_cons _ _ _ _ _ (@ps_set _ _ (2) _ _ _ _ sc_l_draw.nd (by rfl) (by first | exact Or.inl rfl | exact Or.inr rfl) (@pe_op _ _ _ _ _ _ _ _ op_mod (@pe_op _ _ _ _ _ _ _ _ op_mul (@pv _ 2 _ _ (by rfl) (by first | exact Or.inl rfl | exact Or.inr (Or.inl rfl) | exact Or.inr (Or.inr rfl)) (by decide) (by decide)) (@pe_op _ _ _ _ _ _ _ _ op_add (@pe_op _ _ _ _ _ _ _ _ op_fdivL (@pv _ 2 _ _ (by rfl) (by first | exact Or.inl rfl | exact Or.inr (Or.inl rfl) | exact Or.inr (Or.inr rfl)) (by decide) (by decide)) pe_int) pe_int)) pe_int) (by rfl) (by first | exact .inl rfl | exact .inr rfl | assumption)) (@pss_one _ _ _ (@ps_ret _ _ _ _ (@pe_op _ _ _ _ _ _ _ _ op_mod (@pe_op _ _ _ _ _ _ _ _ op_mod (@pe_op _ _ _ _ _ _ _ _ op_mul (@pv _ 2 _ _ (by rfl) (by first | exact Or.inl rfl | exact Or.inr (Or.inl rfl) | exact Or.inr (Or.inr rfl)) (by decide) (by decide)) (@pe_op _ _ _ _ _ _ _ _ op_add (@pe_op _ _ _ _ _ _ _ _ op_fdivL (@pv _ 2 _ _ (by rfl) (by first | exact Or.inl rfl | exact Or.inr (Or.inl rfl) | exact Or.inr (Or.inr rfl)) (by decide) (by decide)) pe_int) pe_int)) pe_int) (@pv _ 1 _ _ (by rfl) (by first | exact Or.inl rfl | exact Or.inr (Or.inl rfl) | exact Or.inr (Or.inr rfl)) (by decide) (by decide))))))))), ?_⟩
    refine ⟨_, rfl, l, _, _, .int b, rfl, rfl, SqL.of e, rfl, _, _, rfl, rfl, _, rfl, ?_⟩
    refine ifb (fun _ => ?_) (fun _ => ?_)
    · refine ⟨_, rfl, l, _, _, .int b, rfl, rfl, SqL.of e, rfl, _, rfl, _, _, rfl, rfl, h0, ?_⟩
      refine ⟨_, rfl, l, _, _, .int b, rfl, rfl, SqL.of e, rfl, _, rfl, _, _, rfl, rfl, ⟨h0, log_small h0 h1⟩, _, rfl, l, _, _, 1, rfl, rfl, e, rfl, ?_⟩
      exact ⟨_, rfl, q _ _ (Int.emod_nonneg _ (by omega)) (Int.emod_lt_of_pos _ h0) (but_upd (by simp)) ⟨_, _, _, upd_same⟩⟩
    · refine ⟨_, rfl, l, _, _, .int c, rfl, rfl, SqL.of e, rfl, _, _, rfl, rfl, _, rfl, l, _, _, 2, rfl, rfl, e, rfl, ?_⟩
      generalize hH1 : upd H l _ = H1
      have e1 : H1 l = some (.lst [.int a, .int b, .int (c + 1)]) := by rw [← hH1, upd_same]; rfl
      have b1 : But [l] H H1 := hH1 ▸ but_upd (by simp)
      refine ⟨_, rfl, l, _, _, .int a, rfl, rfl, SqL.of e1, rfl, _, rfl, l, _, _, .int (c + 1), rfl, rfl, SqL.of e1, rfl, _, _, rfl, rfl, .inl ⟨by decide, by decide⟩, _, _, rfl, rfl, _, _, rfl, rfl, _, _, rfl, rfl, .inr ⟨by decide, by decide⟩, _, _, rfl, rfl, (show (0 : Int) < 2147483647 by decide), ?_⟩
      dsimp only
      have nb : ∀ z : Int, 0 ≤ z % 2147483647 ∧ z % 2147483647 < 2147483647 := fun z => ⟨Int.emod_nonneg z (by decide), Int.emod_lt_of_pos z (by decide)⟩
      have n1 := nb ((a + 7919 * (c + 1) + 1) * 48271)
      generalize (a + 7919 * (c + 1) + 1) * 48271 % 2147483647 = x at *
      refine ⟨_, rfl, _, rfl, _, _, rfl, rfl, ⟨by decide, by decide +kernel⟩, _, _, rfl, rfl, _, _, rfl, rfl, .inl ⟨by omega, by omega⟩, _, _, rfl, rfl, (show (0 : Int) < 2147483647 by decide), ?_⟩
      dsimp only
      have n2 := nb (x * (x / 1009 + 69621))
      generalize x * (x / 1009 + 69621) % 2147483647 = y at *
      exact ⟨_, rfl, _, rfl, _, _, rfl, rfl, ⟨by decide, by decide +kernel⟩, _, _, rfl, rfl, _, _, rfl, rfl, .inl ⟨by omega, by omega⟩, _, _, rfl, rfl, (show (0 : Int) < 2147483399 by decide), _, rfl, _, _, rfl, rfl, h0, q _ _ (Int.emod_nonneg _ (by omega)) (Int.emod_lt_of_pos _ h0) b1 ⟨_, _, _, e1⟩⟩
end
end My
set_option Elab.async false
set_option linter.all false
set_option maxRecDepth 100000
set_option maxHeartbeats 4000000
namespace My
open PySem L2
def cD (c : Str × Str) : PyData := .tuple [.str c.1, .str c.2]
abbrev NM : List Str := ["a", "ab", "b", "abc", "key", "up", "at", "mark", "every", "is", "zzzzzzzz", "price"]
theorem NM_facts : ∀ z ∈ NM, z.cps.size ≤ 8 ∧ PySem.PyData.strOk z = true := by decide +kernel
theorem NM_nodup : NM.Nodup := by decide +kernel
/-- columns that the law draws -/
def Gd (cs : List (Str × Str)) : Prop := cs.length ≤ 8 ∧ (cs.map Prod.fst).Nodup ∧ ∀ c ∈ cs, c.1 ∈ NM ∧ (c.2 = "number" ∨ c.2 = "word")
def spCols : Sp := fun vs H Q _ => ∃ l : Addr, vs = [.ref l] ∧ WellAt H l ∧ ∀ v cs H', But [l] H H' → WellAt H' l → Gd cs → Sx H' (.tuple (cs.map cD)) v → Q v H'
theorem flat_cs : ∀ cs : List (Str × Str), flatTs (cs.map cD) = true
  | [] => rfl
  | c :: cs => by
    rw [List.map_cons]
    unfold flatTs
    rw [flat_cs cs]
    rfl
theorem two {a b : Str} (n : Int) (h0 : 0 ≤ n) (h1 : n < 2) : ∃ z : Str, (z = a ∨ z = b) ∧ atI [V.str a, .str b] n = some (.str z) := by
  have : n = 0 ∨ n = 1 := by omega
  rcases this with rfl | rfl
  · exact ⟨a, .inl rfl, rfl⟩
  · exact ⟨b, .inr rfl, rfl⟩
theorem at_of {α : Type} {l : List α} {n : Int} (h0 : 0 ≤ n) (h1 : n < (l.length : Int)) : ∃ v, v ∈ l ∧ atI l n = some v ∧ ∃ k : Nat, n = (k : Int) ∧ l[k]? = some v := by
  obtain ⟨v, e1, e2⟩ := atI_mod (l := l) h0 h1
  exact ⟨v, List.mem_of_getElem? e2, e1, n.toNat, by omega, e2⟩
theorem seqIx {n : Int} {k m : Nat} (h : n = (k : Int)) (hk : k < m) : PySem.seqIndex? n m = some k := by
  subst h
  unfold PySem.seqIndex?
  simp only
  split
  · omega
  · simp
    omega
theorem erase_map {α β : Type} {f : α → β} : ∀ {l : List α} {j : Nat}, (l.map f).eraseIdx j = (l.eraseIdx j).map f
  | [], _ => rfl
  | a :: l, 0 => rfl
  | a :: l, j + 1 => by
    rw [List.map_cons, List.eraseIdx_cons_succ, List.eraseIdx_cons_succ, List.map_cons, erase_map]
theorem erase_perm {α : Type} : ∀ {l : List α} {j : Nat} {x : α}, l[j]? = some x → (x :: l.eraseIdx j).Perm l
  | a :: l, 0, x, h => by simp at h; subst h; exact List.Perm.refl _
  | a :: l, j + 1, x, h => by
    have h1 := erase_perm (l := l) (j := j) (by simpa using h)
    rw [List.eraseIdx_cons_succ]
    exact (List.Perm.swap a x _).trans (h1.cons a)
section
variable {P : Program} {w : World} {K : PySem.W.Frag} {mg : Str → Option Value} {base : Heap} {t : Adr}
theorem ok_columns (T : Txt K mg t) : FnOk P w K mg base CX0 2 t.f_l_columns t.d_l_columns ["_law_well_here"] spCols := by
  have G_l_draw : FnOk P w K mg base CX0 1 t.f_l_draw t.d_l_draw ["_law_well_here", "_law_most"] spDraw := ok_draw T
  refine T.F_l_columns.ok sc_l_columns (fun vs H Q E h => ?_) (fun cdv A outer s H vs Q E hr h => ?_)
  · obtain ⟨l, rfl, _⟩ := h
    rfl
  · obtain ⟨l, rfl, hw, q⟩ := h
    refine ⟨_, (@pss_cons _ _ _ _ _ (@ps_set _ _ (1) _ _ _ _ sc_l_columns.nd (by rfl) (by first | exact Or.inl rfl | exact Or.inr rfl) (@pe_lst _ _ _ _ (@pa2 _ _ _ _ _ pe_str (@pa2 _ _ _ _ _ pe_str (@pa2 _ _ _ _ _ pe_str (@pa2 _ _ _ _ _ pe_str (@pa2 _ _ _ _ _ pe_str (@pa2 _ _ _ _ _ pe_str (@pa2 _ _ _ _ _ pe_str (@pa2 _ _ _ _ _ pe_str (@pa2 _ _ _ _ _ pe_str (@pa2 _ _ _ _ _ pe_str (@pa2 _ _ _ _ _ pe_str (@pa2 _ _ _ _ _ pe_str pa_nil (by rfl)) (by rfl)) (by rfl)) (by rfl)) (by rfl)) (by rfl)) (by rfl)) (by rfl)) (by rfl)) (by rfl)) (by rfl)) (by rfl))) (by rfl) (by first | exact .inl rfl | exact .inr rfl | assumption)) (@pss_cons _ _ _ _ _ (@ps_set _ _ (2) _ _ _ _ sc_l_columns.nd (by rfl) (by first | exact Or.inl rfl | exact Or.inr rfl) (@pe_lst _ _ _ _ pa_nil) (by rfl) (by first | exact .inl rfl | exact .inr rfl | assumption)) (@pss_cons _ _ _ _ _ (@ps_cut _ _ _ (@ps_for _ _ _ _ _ _ _ _ PassesOwn.never rfl (@pi_range1 _ _ _ _ _ _ (by rfl) T.n_range (@pa2 _ _ _ _ _ (@pe_call _ _ _ _ _ _ _ _ _ _ _ _ _ _ _ _ (G_l_draw.mono (by decide)) hr (by rfl) T.mg_l_draw T.F_l_draw.kp T.b_l_draw .nil pass0 (@pa2 _ _ _ _ _ (@pv _ 0 _ _ (by rfl) (by first | exact Or.inl rfl | exact Or.inr (Or.inl rfl) | exact Or.inr (Or.inr rfl)) (by decide) (by decide)) (@pa2 _ _ _ _ _ (@pe_ix _ _ _ _ _ _ _ ix_list (@pe_lst _ _ _ _ (@pa2 _ _ _ _ _ pe_int (@pa2 _ _ _ _ _ pe_int (@pa2 _ _ _ _ _ pe_int (@pa2 _ _ _ _ _ pe_int pa_nil (by rfl)) (by rfl)) (by rfl)) (by rfl))) (@pe_call _ _ _ _ _ _ _ _ _ _ _ _ _ _ _ _ (G_l_draw.mono (by decide)) hr (by rfl) T.mg_l_draw T.F_l_draw.kp T.b_l_draw .nil pass0 (@pa2 _ _ _ _ _ (@pv _ 0 _ _ (by rfl) (by first | exact Or.inl rfl | exact Or.inr (Or.inl rfl) | exact Or.inr (Or.inr rfl)) (by decide) (by decide)) (@pa2 _ _ _ _ _ pe_int pa_nil (by rfl)) (by rfl)) (by decide) (by rfl) (by rfl)) (fun _ _ => rfl)) pa_nil (by rfl)) (by rfl)) (by decide) (by rfl) (by rfl)) pa_nil (by rfl)) (by rfl)) (@pg_name _ _ (3) _ sc_l_columns.nd (by rfl) (by first | exact Or.inl rfl | exact Or.inr rfl) (by first | exact .inl rfl | exact .inr rfl | assumption)) (@pss_cons _ _ _ _ _ (@ps_set _ _ (4) _ _ _ _ sc_l_columns.nd (by rfl) (by first | exact Or.inl rfl | exact Or.inr rfl) (@pe_bm _ _ _ _ _ _ _ _ _ _ _ _ PySem.F.plainAttrs_list PySem.F.slot_list_pop PySem.F.type_list_pop mt_popAt (@pv _ 1 _ _ (by rfl) (by first | exact Or.inl rfl | exact Or.inr (Or.inl rfl) | exact Or.inr (Or.inr rfl)) (by decide) (by decide)) (@pa2 _ _ _ _ _ (@pe_call _ _ _ _ _ _ _ _ _ _ _ _ _ _ _ _ (G_l_draw.mono (by decide)) hr (by rfl) T.mg_l_draw T.F_l_draw.kp T.b_l_draw .nil pass0 (@pa2 _ _ _ _ _ (@pv _ 0 _ _ (by rfl) (by first | exact Or.inl rfl | exact Or.inr (Or.inl rfl) | exact Or.inr (Or.inr rfl)) (by decide) (by decide)) (@pa2 _ _ _ _ _ (@pe_callB _ _ _ _ _ _ _ _ _ call_len (by rfl) T.n_len bt_len (@pa2 _ _ _ _ _ (@pv _ 1 _ _ (by rfl) (by first | exact Or.inl rfl | exact Or.inr (Or.inl rfl) | exact Or.inr (Or.inr rfl)) (by decide) (by decide)) pa_nil (by rfl)) (by decide) (by decide) (by rfl) (by rfl)) pa_nil (by rfl)) (by rfl)) (by decide) (by rfl) (by rfl)) pa_nil (by rfl)) (by rfl) (by rfl) (by rfl) (by rfl) (by rfl)) (by rfl) (by first | exact .inl rfl | exact .inr rfl | assumption)) (@pss_one _ _ _ (@ps_expr _ _ _ _ (@pe_bm _ _ _ _ _ _ _ _ _ _ _ _ PySem.F.plainAttrs_list PySem.F.slot_list_append PySem.F.type_list_append mt_append (@pv _ 2 _ _ (by rfl) (by first | exact Or.inl rfl | exact Or.inr (Or.inl rfl) | exact Or.inr (Or.inr rfl)) (by decide) (by decide)) (@pa2 _ _ _ _ _ (@pe_tup _ _ _ _ _ (@pa2 _ _ _ _ _ (@pv _ 4 _ _ (by rfl) (by first | exact Or.inl rfl | exact Or.inr (Or.inl rfl) | exact Or.inr (Or.inr rfl)) (by decide) (by decide)) (@pa2 _ _ _ _ _ (@pe_ix _ _ _ _ _ _ _ ix_list (@pe_lst _ _ _ _ (@pa2 _ _ _ _ _ pe_str (@pa2 _ _ _ _ _ pe_str pa_nil (by rfl)) (by rfl))) (@pe_call _ _ _ _ _ _ _ _ _ _ _ _ _ _ _ _ (G_l_draw.mono (by decide)) hr (by rfl) T.mg_l_draw T.F_l_draw.kp T.b_l_draw .nil pass0 (@pa2 _ _ _ _ _ (@pv _ 0 _ _ (by rfl) (by first | exact Or.inl rfl | exact Or.inr (Or.inl rfl) | exact Or.inr (Or.inr rfl)) (by decide) (by decide)) (@pa2 _ _ _ _ _ pe_int pa_nil (by rfl)) (by rfl)) (by decide) (by rfl) (by rfl)) (fun _ _ => rfl)) pa_nil (by rfl)) (by rfl))) pa_nil (by rfl)) (by rfl) (by rfl) (by rfl) (by rfl) (by rfl)) (by rfl)))) (by intro _; rfl))) (@pss_one _ _ _ (@ps_ret _ _ _ _ (@pe_callTy _ _ _ _ _ _ _ _ _ call_tuple_of (by rfl) T.n_tuple bt_tuple (@pa2 _ _ _ _ _ (@pv _ 2 _ _ (by rfl) (by first | exact Or.inl rfl | exact Or.inr (Or.inl rfl) | exact Or.inr (Or.inr rfl)) (by decide) (by decide)) pa_nil (by rfl)) (by decide) (by decide) (by rfl) (by rfl))))))), ?_⟩
    refine ⟨sm (show 12 ≤ 1000 by decide), fun ln hln => ?_⟩
    generalize hH1 : upd H ln _ = H1
    have s1 : Same H H1 := hH1 ▸ same_new hln
    have en : H1 ln = some (.lst (NM.map V.str)) := hH1 ▸ upd_same
    refine ⟨sm (show 0 ≤ 1000 by decide), fun lf hlf => ?_⟩
    generalize hH2 : upd H1 lf _ = H2
    have s2 : Same H1 H2 := hH2 ▸ same_new hlf
    have ef : H2 lf = some (.lst []) := hH2 ▸ upd_same
    have hlf0 : H lf = none := same_none s1 hlf
    have nfn : lf ≠ ln := (ne_of_none en hlf).symm
    obtain ⟨wa, wb, wc, ew⟩ := id hw
    have nln : ln ≠ l := (ne_of_none ew hln).symm
    have nlf : lf ≠ l := (ne_of_none ew hlf0).symm
    have w2 : WellAt H2 l := ⟨wa, wb, wc, s2 _ _ (s1 _ _ ew)⟩
    -- how many
    dsimp only [tSeq]
    refine ⟨fun σ' H' => ∃ (v3 v4 : Option V) (cs : List (Str × Str)) (fv : List V), σ' = [some (.ref l), some (.ref ln), some (.ref lf), v3, v4] ∧ But [l] H H' ∧ WellAt H' l ∧ H' lf = some (.lst fv) ∧ SxAll H' (cs.map cD) fv ∧ Gd cs, ?_, ?_⟩
    · refine ⟨_, rfl, sm (show 4 ≤ 1000 by decide), fun l4 hl4 => ?_⟩
      generalize hH3 : upd H2 l4 _ = H3
      have s3 : Same H2 H3 := hH3 ▸ same_new hl4
      have e4 : H3 l4 = some (.lst [.int 5, .int 5, .int 5, .int 9]) := hH3 ▸ upd_same
      obtain ⟨wa2, wb2, wc2, ew2⟩ := id w2
      have nl4 : l4 ≠ l := (ne_of_none ew2 hl4).symm
      refine ⟨_, rfl, l, 4, rfl, by decide, by decide, ⟨_, _, _, s3 _ _ ew2⟩, fun n1 H4 n10 n11 b4 w4 => ?_⟩
      obtain ⟨mv, hmv, am, _⟩ := at_of (l := [V.int 5, .int 5, .int 5, .int 9]) n10 n11
      obtain ⟨m, rfl, hm⟩ : ∃ m : Int, mv = .int m ∧ (m = 5 ∨ m = 9) := by
        simp only [List.mem_cons, List.not_mem_nil, or_false] at hmv
        rcases hmv with rfl | rfl | rfl | rfl
        · exact ⟨5, rfl, .inl rfl⟩
        · exact ⟨5, rfl, .inl rfl⟩
        · exact ⟨5, rfl, .inl rfl⟩
        · exact ⟨9, rfl, .inr rfl⟩
      refine ⟨l4, _, _, .int m, rfl, rfl, SqL.of (b4 _ _ e4 (by simp [nl4])), am, l, m, rfl, by omega, by omega, w4, fun n2 H5 n20 n21 b5 w5 => ?_⟩
      have b25 : But [l] H2 H5 := (s3.but.trans b4).trans b5
      obtain ⟨k, rfl⟩ : ∃ k : Nat, n2 = (k : Int) := ⟨n2.toNat, by omega⟩
      have hk8 : k ≤ 8 := by omega
      refine ⟨(k : Int), rfl, by omega, by omega, ?_⟩
      rw [Int.toNat_natCast]
      refine for_range (fun i σ' H' => ∃ (v3 v4 : Option V) (cs : List (Str × Str)) (fv : List V) (rest : List Str), σ' = [some (.ref l), some (.ref ln), some (.ref lf), v3, v4] ∧ But [l] H H' ∧ WellAt H' l ∧ H' lf = some (.lst fv) ∧ H' ln = some (.lst (rest.map V.str)) ∧ SxAll H' (cs.map cD) fv ∧ cs.length = i ∧ rest.length = 12 - i ∧ (cs.map Prod.fst ++ rest).Nodup ∧ (∀ z ∈ rest, z ∈ NM) ∧ ∀ c ∈ cs, c.1 ∈ NM ∧ (c.2 = "number" ∨ c.2 = "word"))
        ⟨none, none, [], [], NM, rfl, (s1.but.trans s2.but).trans b25, w5, b25 _ _ ef (by simp [nlf]), b25 _ _ (s2 _ _ en) (by simp [nln]), sx_nil, rfl, rfl, NM_nodup, fun z hz => hz, by simp⟩ ?_ ?_
      · rintro i σ' H' hi ⟨v3, v4, cs, fv, rest, rfl, bA, wA, ef', en', hS, hci, hri, hnd, hrm, hcm⟩
        have hfl : fv.length = i := by rw [← hS.len, List.length_map]; exact hci
        have hr0 : 0 < rest.length := by omega
        -- name = names.pop(draw(well, len(names)))
        refine ⟨_, rfl, .inl ⟨rfl, _, SqL.of en'⟩, _, rfl, _, rfl, _, rest.length, rfl, .inl ⟨_, SqL.of en', by rw [List.length_map]⟩, l, (rest.length : Int), rfl, by omega, by omega, wA, fun n3 H6 n30 n31 b6 w6 => ?_⟩
        obtain ⟨nm, hnm, _, j, ej, ejr⟩ := at_of (l := rest) n30 n31
        have hj : j < rest.length := (List.getElem?_eq_some_iff.mp ejr).1
        have en6 := b6 _ _ en' (by simp [nln])
        refine ⟨ln, _, n3, j, .str nm, rfl, rfl, en6, by omega, by omega, seqIx ej (by rw [List.length_map]; exact hj), by rw [List.getElem?_map, ejr]; rfl, ?_⟩
        generalize hH7 : upd H6 ln _ = H7
        have en7 : H7 ln = some (.lst ((rest.eraseIdx j).map V.str)) := by rw [← hH7, upd_same, erase_map]
        have t7 : TSame H6 H7 := hH7 ▸ tsame_lst en6
        obtain ⟨wa6, wb6, wc6, ew6⟩ := id w6
        have ew7 : H7 l = some (.lst [.int wa6, .int wb6, .int wc6]) := by rw [← hH7, upd_ne nln.symm]; exact ew6
        have ef7 : H7 lf = some (.lst fv) := by rw [← hH7, upd_ne nfn]; exact b6 _ _ ef' (by simp [nlf])
        -- found.append((name, kind))
        refine ⟨_, rfl, .inl ⟨rfl, _, SqL.of ef7⟩, _, rfl, sm (show 2 ≤ 1000 by decide), fun l2 hl2 => ?_⟩
        generalize hH8 : upd H7 l2 _ = H8
        have s8 : Same H7 H8 := hH8 ▸ same_new hl2
        have e2 : H8 l2 = some (.lst [.str "number", .str "word"]) := hH8 ▸ upd_same
        have nl2 : l2 ≠ l := (ne_of_none ew7 hl2).symm
        refine ⟨_, rfl, l, 2, rfl, by decide, by decide, ⟨_, _, _, s8 _ _ ew7⟩, fun n4 H9 n40 n41 b9 w9 => ?_⟩
        obtain ⟨kd, hkd, akd⟩ := two (a := "number") (b := "word") n4 n40 n41
        refine ⟨l2, _, _, .str kd, rfl, rfl, SqL.of (b9 _ _ e2 (by simp [nl2])), akd, sm (show 2 ≤ 1000 by decide), fun p hp => ?_⟩
        generalize hH10 : upd H9 p _ = H10
        have s10 : Same H9 H10 := hH10 ▸ same_new hp
        have ep : H10 p = some (.tup [.str nm, .str kd]) := hH10 ▸ upd_same
        have ef10 : H10 lf = some (.lst fv) := s10 _ _ (b9 _ _ (s8 _ _ ef7) (by simp [nlf]))
        refine ⟨lf, fv, .ref p, rfl, rfl, ef10, small1000 (by omega), ?_⟩
        generalize hH11 : upd H10 lf _ = H11
        have t11 : TSame H10 H11 := hH11 ▸ tsame_lst ef10
        have tw : TSame H' H6 := b6.t (by
          intro x hx
          rw [List.mem_singleton.mp hx]
          obtain ⟨a, b, c, e⟩ := wA
          exact ⟨_, e⟩)
        have t9 : TSame H8 H9 := b9.t (by
          intro x hx
          rw [List.mem_singleton.mp hx]
          exact ⟨_, s8 _ _ ew7⟩)
        have tA : TSame H' H11 := (((tw.trans t7).trans s8.t).trans t9).trans (s10.t.trans t11)
        have ew10 : WellAt H11 l := by
          obtain ⟨a, b, c, e⟩ := w9
          exact ⟨a, b, c, by rw [← hH11, upd_ne nlf.symm]; exact s10 _ _ e⟩
        have bF : But [l] H H11 := by
          intro b o e nb
          have nb' : b ≠ l := by simpa using nb
          have n1 : b ≠ ln := ne_of_none e hln
          have n2 : b ≠ lf := ne_of_none e hlf0
          rw [← hH11, upd_ne n2]
          refine s10 _ _ (b9 _ _ (s8 _ _ ?_) nb)
          rw [← hH7, upd_ne n1]
          exact b6 _ _ (bA _ _ e nb) nb
        have hnmN : nm ∈ NM := hrm nm (List.mem_of_getElem? ejr)
        have zn := (NM_facts nm hnmN).1
        have zk : kd.cps.size ≤ sizeLine := by rcases hkd with h | h <;> (rw [h]; exact sm (by decide))
        have en11 : H11 ln = some (.lst ((rest.eraseIdx j).map V.str)) := by
          rw [← hH11, upd_ne nfn.symm]
          exact s10 _ _ (b9 _ _ (s8 _ _ en7) (by simp [nln]))
        refine ⟨_, _, cs ++ [(nm, kd)], fv ++ [.ref p], rest.eraseIdx j, rfl, bF, ew10, ?_, en11, ?_, ?_, ?_, ?_, ?_, ?_⟩
        · rw [← hH11, upd_same]
        · rw [List.map_append]
          refine SxAll.snoc (SxAll.tsame tA _ (flat_cs cs) hS) ?_
          exact sx_tup (t11 _ _ ep) (sx_cons (sx_str (sm (Nat.le_trans zn (by decide)))) (sx_cons (sx_str zk) sx_nil))
        · rw [List.length_append, hci]; rfl
        · rw [List.length_eraseIdx_of_lt hj]; omega
        · have hp1 : (nm :: rest.eraseIdx j).Perm rest := by
            exact erase_perm ejr
          rw [List.map_append, List.append_assoc]
          exact ((hp1.append_left _).nodup_iff).mpr hnd
        · exact fun z hz => hrm z (List.mem_of_mem_eraseIdx hz)
        · intro c hc
          rcases List.mem_append.mp hc with h | h
          · exact hcm c h
          · rw [List.mem_singleton.mp h]; exact ⟨hnmN, hkd⟩
      · rintro σ' H' ⟨v3, v4, cs, fv, rest, rfl, bA, wA, ef', en', hS, hci, hri, hnd, hrm, hcm⟩
        exact ⟨v3, v4, cs, fv, rfl, bA, wA, ef', hS, by omega, (List.nodup_append.mp hnd).1, hcm⟩
    · rintro σ' H' ⟨v3, v4, cs, fv, rfl, bA, wA, ef', hS, hg⟩
      refine ⟨_, rfl, lf, fv, rfl, .inl ⟨SqL.of ef', fun p hp => ?_⟩⟩
      have s5 : Same H' (upd H' p (.tup fv)) := same_new hp
      obtain ⟨a, b, c, e⟩ := wA
      exact q _ cs _ (bA.trans s5.but) ⟨a, b, c, s5 _ _ e⟩ hg (sx_tup upd_same (SxAll.same s5 _ hS))
end
end My
set_option Elab.async false
set_option linter.all false
set_option maxRecDepth 100000
set_option maxHeartbeats 4000000
namespace My
open PySem L2
def isWrdC (c : Nat) : Bool := decide (32 ≤ c) && decide (c ≤ 126)
def wordV : V → Bool
  | .str z => decide (z.cps.size ≤ 40) && z.cps.toList.all isWrdC
  | _ => false
def valD (k : Str) : PyData → Bool
  | .none => true
  | .int _ => decide (k = "number")
  | .str z => if k = "number" then false else wordV (.str z)
  | _ => false
def plainD : PyData → Bool
  | .none => true | .int _ => true | .str _ => true | _ => false
def spNum : Sp := fun vs H Q _ => ∃ l : Addr, vs = [.ref l] ∧ WellAt H l ∧ ∀ (i : Int) H', But [l] H H' → WellAt H' l → Q (.int i) H'
def spWord : Sp := fun vs H Q _ => ∃ l : Addr, vs = [.ref l] ∧ WellAt H l ∧ ∀ (z : Str) H', But [l] H H' → WellAt H' l → wordV (.str z) = true → Q (.str z) H'
def spVal : Sp := fun vs H Q _ => ∃ (l : Addr) (k : Str), vs = [.ref l, .str k] ∧ WellAt H l ∧ ∀ v d H', But [l] H H' → WellAt H' l → valD k d = true → plainD d = true → Sx H' d v → Q v H'
abbrev KEYS : List Str := ["a", "ab", "b", "abc", "a1", "a10", "a2", "key", "z", "zzzzzzzzzzzz", "m", "c"]
def spKey : Sp := fun vs H Q _ => ∃ l : Addr, vs = [.ref l] ∧ WellAt H l ∧ ∀ (z : Str) H', But [l] H H' → WellAt H' l → z ∈ KEYS → Q (.str z) H'
abbrev FOUR : Str := "ab~ "
abbrev SIGNS : Str := "ab= ~#-\"()|Z9_&"
abbrev WORDS : List Str := ["", "a", "ab", "abc", "b", "B", " ", "a b"]
theorem WORDS_facts : ∀ z ∈ WORDS, wordV (.str z) = true := by decide +kernel
theorem KEYS_facts : ∀ z ∈ KEYS, z.cps.size ≤ 12 ∧ PySem.PyData.strOk z = true := by decide +kernel
theorem four_mul : ∀ c ∈ FOUR.cps.toList, ∀ n < 41, wordV (.str (PySem.Txt.mul ⟨#[c]⟩ ((n : Nat) : Int))) = true := by decide +kernel
theorem mul_ok (c : Nat) (n : Nat) (h : n < 41) : MulOk ⟨#[c]⟩ (n : Int) := by
  have e : (⟨#[c]⟩ : Str).length = 1 := rfl
  refine ⟨by simp; omega, fun h1 _ => ?_, fun h1 _ => ?_⟩
  · rw [e]
    have h2 : (1 : Int) ≤ (2 ^ 63 - 1) / (n : Int) := by
      rw [Int.le_ediv_iff_mul_le (by omega)]
      omega
    show ¬ ((1 : Nat) : Int) > _
    omega
  · rw [e, Nat.one_mul, Int.toNat_natCast]
    have := sm (n := n) (by omega)
    unfold PySem.Builtin.Str.tooLong
    exact decide_eq_false (by omega)
/-- single signs, glued -/
theorem join_signs : ∀ cs : List Nat, (Str.join "" (cs.map fun c => (⟨#[c]⟩ : Str))).cps.toList = cs
  | [] => rfl
  | [c] => rfl
  | c :: d :: r => by
    have ih := join_signs (d :: r)
    rw [List.map_cons, List.map_cons]
    show ((⟨#[c]⟩ : Str) ++ ("" : Str) ++ Str.join "" ((⟨#[d]⟩ : Str) :: r.map fun c => (⟨#[c]⟩ : Str))).cps.toList = c :: d :: r
    rw [List.map_cons] at ih
    show ((#[c] ++ (("" : Str)).cps) ++ (Str.join "" ((⟨#[d]⟩ : Str) :: r.map fun c => (⟨#[c]⟩ : Str))).cps).toList = c :: d :: r
    rw [Array.toList_append, ih]
    rfl
theorem signs_wrd : ∀ c ∈ SIGNS.cps.toList, isWrdC c = true := by decide +kernel
theorem join_ok (cs : List Nat) (h : cs.length ≤ 5) : JoinOk "" (cs.map fun c => (⟨#[c]⟩ : Str)) = true := by
  refine PyProof.Rows.joinOk_of ?_
  have e : ((cs.map fun c => (⟨#[c]⟩ : Str)).map (·.length)).sum = cs.length := by
    rw [List.map_map]
    clear h
    induction cs with
    | nil => rfl
    | cons c r ih => rw [List.map_cons, List.sum_cons, ih, List.length_cons]; show 1 + _ = _; omega
  rw [e, List.length_map]
  have : ("" : Str).length = 0 := rfl
  rw [this]
  omega
section
variable {P : Program} {w : World} {K : PySem.W.Frag} {mg : Str → Option Value} {base : Heap} {t : Adr}
theorem ok_number (T : Txt K mg t) : FnOk P w K mg base CX0 2 t.f_l_number t.d_l_number ["_law_well_here"] spNum := by
  have G_l_draw : FnOk P w K mg base CX0 1 t.f_l_draw t.d_l_draw ["_law_well_here", "_law_most"] spDraw := ok_draw T
  refine T.F_l_number.ok sc_l_number (fun vs H Q E h => ?_) (fun cdv A outer s H vs Q E hr h => ?_)
  · obtain ⟨l, rfl, _⟩ := h
    rfl
  · obtain ⟨l, rfl, hw, q⟩ := h
    refine ⟨_, (@pss_cons _ _ _ _ _ (@ps_set _ _ (1) _ _ _ _ sc_l_number.nd (by rfl) (by first | exact Or.inl rfl | exact Or.inr rfl) (@pe_call _ _ _ _ _ _ _ _ _ _ _ _ _ _ _ _ (G_l_draw.mono (by decide)) hr (by rfl) T.mg_l_draw T.F_l_draw.kp T.b_l_draw .nil pass0 (@pa2 _ _ _ _ _ (@pv _ 0 _ _ (by rfl) (by first | exact Or.inl rfl | exact Or.inr (Or.inl rfl) | exact Or.inr (Or.inr rfl)) (by decide) (by decide)) (@pa2 _ _ _ _ _ pe_int pa_nil (by rfl)) (by rfl)) (by decide) (by rfl) (by rfl)) (by rfl) (by first | exact .inl rfl | exact .inr rfl | assumption)) (@pss_cons _ _ _ _ _ (@ps_if _ _ _ _ _ _ _ _ (@pt_cmpR _ _ _ _ _ _ _ _ op_eq (@pv _ 1 _ _ (by rfl) (by first | exact Or.inl rfl | exact Or.inr (Or.inl rfl) | exact Or.inr (Or.inr rfl)) (by decide) (by decide)) pe_int (nomark _)) (@pss_one _ _ _ (@ps_ret _ _ _ _ (@pe_op _ _ _ _ _ _ _ _ op_mul (@pe_op _ _ _ _ _ _ _ _ op_sub pe_int (@pe_op _ _ _ _ _ _ _ _ op_mul pe_int (@pe_call _ _ _ _ _ _ _ _ _ _ _ _ _ _ _ _ (G_l_draw.mono (by decide)) hr (by rfl) T.mg_l_draw T.F_l_draw.kp T.b_l_draw .nil pass0 (@pa2 _ _ _ _ _ (@pv _ 0 _ _ (by rfl) (by first | exact Or.inl rfl | exact Or.inr (Or.inl rfl) | exact Or.inr (Or.inr rfl)) (by decide) (by decide)) (@pa2 _ _ _ _ _ pe_int pa_nil (by rfl)) (by rfl)) (by decide) (by rfl) (by rfl)))) (@pe_op _ _ _ _ _ _ _ _ op_sub (@pe_op _ _ _ _ _ _ _ _ op_sub (@pe_op _ _ _ _ _ _ _ _ op_pow pe_int pe_int) pe_int) (@pe_call _ _ _ _ _ _ _ _ _ _ _ _ _ _ _ _ (G_l_draw.mono (by decide)) hr (by rfl) T.mg_l_draw T.F_l_draw.kp T.b_l_draw .nil pass0 (@pa2 _ _ _ _ _ (@pv _ 0 _ _ (by rfl) (by first | exact Or.inl rfl | exact Or.inr (Or.inl rfl) | exact Or.inr (Or.inr rfl)) (by decide) (by decide)) (@pa2 _ _ _ _ _ pe_int pa_nil (by rfl)) (by rfl)) (by decide) (by rfl) (by rfl)))))) pss_nil) (@pss_cons _ _ _ _ _ (@ps_if _ _ _ _ _ _ _ _ (@pt_cmpR _ _ _ _ _ _ _ _ op_eq (@pv _ 1 _ _ (by rfl) (by first | exact Or.inl rfl | exact Or.inr (Or.inl rfl) | exact Or.inr (Or.inr rfl)) (by decide) (by decide)) pe_int (nomark _)) (@pss_one _ _ _ (@ps_ret _ _ _ _ (@pe_op _ _ _ _ _ _ _ _ op_sub (@pe_call _ _ _ _ _ _ _ _ _ _ _ _ _ _ _ _ (G_l_draw.mono (by decide)) hr (by rfl) T.mg_l_draw T.F_l_draw.kp T.b_l_draw .nil pass0 (@pa2 _ _ _ _ _ (@pv _ 0 _ _ (by rfl) (by first | exact Or.inl rfl | exact Or.inr (Or.inl rfl) | exact Or.inr (Or.inr rfl)) (by decide) (by decide)) (@pa2 _ _ _ _ _ pe_int pa_nil (by rfl)) (by rfl)) (by decide) (by rfl) (by rfl)) pe_int))) pss_nil) (@pss_one _ _ _ (@ps_ret _ _ _ _ (@pe_op _ _ _ _ _ _ _ _ op_sub (@pe_call _ _ _ _ _ _ _ _ _ _ _ _ _ _ _ _ (G_l_draw.mono (by decide)) hr (by rfl) T.mg_l_draw T.F_l_draw.kp T.b_l_draw .nil pass0 (@pa2 _ _ _ _ _ (@pv _ 0 _ _ (by rfl) (by first | exact Or.inl rfl | exact Or.inr (Or.inl rfl) | exact Or.inr (Or.inr rfl)) (by decide) (by decide)) (@pa2 _ _ _ _ _ pe_int pa_nil (by rfl)) (by rfl)) (by decide) (by rfl) (by rfl)) pe_int)))))), ?_⟩
    refine ⟨_, rfl, l, 6, rfl, by decide, by decide, hw, fun n H1 n0 n1 b1 w1 => ?_⟩
    refine ⟨_, rfl, rfl, _, rfl, ?_⟩
    refine ifb (fun _ => ?_) (fun _ => ?_)
    · refine ⟨_, rfl, l, 2, rfl, by decide, by decide, w1, fun m H2 m0 m1 b2 w2 => ?_⟩
      refine ⟨_, _, rfl, rfl, .inl ⟨by decide, by decide⟩, _, _, rfl, rfl, _, _, rfl, rfl, ⟨by decide, by decide, by decide⟩, _, _, rfl, rfl, ?_⟩
      refine ⟨_, rfl, l, 9, rfl, by decide, by decide, w2, fun k H3 k0 k1 b3 w3 => ?_⟩
      exact ⟨_, _, rfl, rfl, _, _, rfl, rfl, .inl ⟨by omega, by omega⟩, q _ H3 ((b1.trans b2).trans b3) w3⟩
    · refine ⟨_, rfl, rfl, _, rfl, ?_⟩
      refine ifb (fun _ => ?_) (fun _ => ?_)
      · exact ⟨_, rfl, l, 2001, rfl, by decide, by decide, w1, fun m H2 m0 m1 b2 w2 => ⟨_, _, rfl, rfl, q _ H2 (b1.trans b2) w2⟩⟩
      · exact ⟨_, rfl, l, 5, rfl, by decide, by decide, w1, fun m H2 m0 m1 b2 w2 => ⟨_, _, rfl, rfl, q _ H2 (b1.trans b2) w2⟩⟩
theorem ok_word (T : Txt K mg t) : FnOk P w K mg base CX0 2 t.f_l_word t.d_l_word ["_law_well_here"] spWord := by
  have G_l_draw : FnOk P w K mg base CX0 1 t.f_l_draw t.d_l_draw ["_law_well_here", "_law_most"] spDraw := ok_draw T
  refine T.F_l_word.ok sc_l_word (fun vs H Q E h => ?_) (fun cdv A outer s H vs Q E hr h => ?_)
  · obtain ⟨l, rfl, _⟩ := h
    rfl
  · obtain ⟨l, rfl, hw, q⟩ := h
    refine ⟨_, (@pss_cons _ _ _ _ _ (@ps_set _ _ (1) _ _ _ _ sc_l_word.nd (by rfl) (by first | exact Or.inl rfl | exact Or.inr rfl) (@pe_call _ _ _ _ _ _ _ _ _ _ _ _ _ _ _ _ (G_l_draw.mono (by decide)) hr (by rfl) T.mg_l_draw T.F_l_draw.kp T.b_l_draw .nil pass0 (@pa2 _ _ _ _ _ (@pv _ 0 _ _ (by rfl) (by first | exact Or.inl rfl | exact Or.inr (Or.inl rfl) | exact Or.inr (Or.inr rfl)) (by decide) (by decide)) (@pa2 _ _ _ _ _ pe_int pa_nil (by rfl)) (by rfl)) (by decide) (by rfl) (by rfl)) (by rfl) (by first | exact .inl rfl | exact .inr rfl | assumption)) (@pss_cons _ _ _ _ _ (@ps_if _ _ _ _ _ _ _ _ (@pt_cmpR _ _ _ _ _ _ _ _ op_eq (@pv _ 1 _ _ (by rfl) (by first | exact Or.inl rfl | exact Or.inr (Or.inl rfl) | exact Or.inr (Or.inr rfl)) (by decide) (by decide)) pe_int (nomark _)) (@pss_one _ _ _ (@ps_ret _ _ _ _ (@pe_op _ _ _ _ _ _ _ _ op_mul_str (@pe_ix _ _ _ _ _ _ _ ix_str pe_str (@pe_call _ _ _ _ _ _ _ _ _ _ _ _ _ _ _ _ (G_l_draw.mono (by decide)) hr (by rfl) T.mg_l_draw T.F_l_draw.kp T.b_l_draw .nil pass0 (@pa2 _ _ _ _ _ (@pv _ 0 _ _ (by rfl) (by first | exact Or.inl rfl | exact Or.inr (Or.inl rfl) | exact Or.inr (Or.inr rfl)) (by decide) (by decide)) (@pa2 _ _ _ _ _ pe_int pa_nil (by rfl)) (by rfl)) (by decide) (by rfl) (by rfl)) (fun _ _ => rfl)) (@pe_call _ _ _ _ _ _ _ _ _ _ _ _ _ _ _ _ (G_l_draw.mono (by decide)) hr (by rfl) T.mg_l_draw T.F_l_draw.kp T.b_l_draw .nil pass0 (@pa2 _ _ _ _ _ (@pv _ 0 _ _ (by rfl) (by first | exact Or.inl rfl | exact Or.inr (Or.inl rfl) | exact Or.inr (Or.inr rfl)) (by decide) (by decide)) (@pa2 _ _ _ _ _ pe_int pa_nil (by rfl)) (by rfl)) (by decide) (by rfl) (by rfl))))) pss_nil) (@pss_cons _ _ _ _ _ (@ps_if _ _ _ _ _ _ _ _ (@pt_cmpR _ _ _ _ _ _ _ _ op_eq (@pv _ 1 _ _ (by rfl) (by first | exact Or.inl rfl | exact Or.inr (Or.inl rfl) | exact Or.inr (Or.inr rfl)) (by decide) (by decide)) pe_int (nomark _)) (@pss_cons _ _ _ _ _ (@ps_set _ _ (2) _ _ _ _ sc_l_word.nd (by rfl) (by first | exact Or.inl rfl | exact Or.inr rfl) pe_str (by rfl) (by first | exact .inl rfl | exact .inr rfl | assumption)) (@pss_one _ _ _ (@ps_ret _ _ _ _ (@pe_bmK _ (K) _ _ _ _ _ _ _ _ _ _ _ rfl PySem.F.plainAttrs_str PySem.F.slot_str_join PySem.F.type_str_join (mt_joinK (K := K) rfl) pe_str (@pa2 _ _ _ _ _ (@pe_comp _ (["_law_k", "_law_signs", "_law_well_here"]) ([none, some 2, some 0]) _ _ _ _ _ _ _ _ _ _ (csc (defScope s_l_word) ["_law_well_here", "_law_way", "_law_signs"] rfl rfl (by decide +kernel)) rfl (@pi_range1 _ _ _ _ _ _ (by rfl) T.n_range (@pa2 _ _ _ _ _ (@pe_call _ _ _ _ _ _ _ _ _ _ _ _ _ _ _ _ (G_l_draw.mono (by decide)) hr (by rfl) T.mg_l_draw T.F_l_draw.kp T.b_l_draw .nil pass0 (@pa2 _ _ _ _ _ (@pv _ 0 _ _ (by rfl) (by first | exact Or.inl rfl | exact Or.inr (Or.inl rfl) | exact Or.inr (Or.inr rfl)) (by decide) (by decide)) (@pa2 _ _ _ _ _ pe_int pa_nil (by rfl)) (by rfl)) (by decide) (by rfl) (by rfl)) pa_nil (by rfl)) (by rfl)) (fun _ _ _ _ _ => (@pg_name _ _ (0) _ (show (["_law_k", "_law_signs", "_law_well_here"] : List Str).Nodup by decide +kernel) (by rfl) (by first | exact Or.inl rfl | exact Or.inr rfl) (by first | exact .inl rfl | exact .inr rfl | assumption))) (gx_name rfl) (fun _ _ _ _ _ => pif_nil) (fun _ _ _ _ _ => (@pe_ix _ _ _ _ _ _ _ ix_str (@pv _ 1 _ _ (by rfl) (by first | exact Or.inl rfl | exact Or.inr (Or.inl rfl) | exact Or.inr (Or.inr rfl)) (by decide) (by decide)) (@pe_call _ _ _ _ _ _ _ _ _ _ _ _ _ _ _ _ (G_l_draw.mono (by decide)) hr (by rfl) T.mg_l_draw T.F_l_draw.kp T.b_l_draw .nil pass0 (@pa2 _ _ _ _ _ (@pv _ 2 _ _ (by rfl) (by first | exact Or.inl rfl | exact Or.inr (Or.inl rfl) | exact Or.inr (Or.inr rfl)) (by decide) (by decide)) (@pa2 _ _ _ _ _ pe_int pa_nil (by rfl)) (by rfl)) (by decide) (by rfl) (by rfl)) (fun _ _ => rfl))) (by intro _; rfl)) pa_nil (by rfl)) (by rfl) (by rfl) (by rfl) (by rfl) (by rfl))))) pss_nil) (@pss_one _ _ _ (@ps_ret _ _ _ _ (@pe_ix _ _ _ _ _ _ _ ix_list (@pe_lst _ _ _ _ (@pa2 _ _ _ _ _ pe_str (@pa2 _ _ _ _ _ pe_str (@pa2 _ _ _ _ _ pe_str (@pa2 _ _ _ _ _ pe_str (@pa2 _ _ _ _ _ pe_str (@pa2 _ _ _ _ _ pe_str (@pa2 _ _ _ _ _ pe_str (@pa2 _ _ _ _ _ pe_str pa_nil (by rfl)) (by rfl)) (by rfl)) (by rfl)) (by rfl)) (by rfl)) (by rfl)) (by rfl))) (@pe_call _ _ _ _ _ _ _ _ _ _ _ _ _ _ _ _ (G_l_draw.mono (by decide)) hr (by rfl) T.mg_l_draw T.F_l_draw.kp T.b_l_draw .nil pass0 (@pa2 _ _ _ _ _ (@pv _ 0 _ _ (by rfl) (by first | exact Or.inl rfl | exact Or.inr (Or.inl rfl) | exact Or.inr (Or.inr rfl)) (by decide) (by decide)) (@pa2 _ _ _ _ _ pe_int pa_nil (by rfl)) (by rfl)) (by decide) (by rfl) (by rfl)) (fun _ _ => rfl))))))), ?_⟩
    refine ⟨_, rfl, l, 6, rfl, by decide, by decide, hw, fun n H1 n0 n1 b1 w1 => ?_⟩
    refine ⟨_, rfl, rfl, _, rfl, ?_⟩
    refine ifb (fun _ => ?_) (fun _ => ?_)
    · refine ⟨_, rfl, l, 4, rfl, by decide, by decide, w1, fun m H2 m0 m1 b2 w2 => ?_⟩
      obtain ⟨c, hc, ac, _⟩ := at_of (l := FOUR.cps.toList) m0 (show m < 4 from m1)
      refine ⟨FOUR, m, c, rfl, rfl, sm (show 4 ≤ 1000 by decide), ac, ?_⟩
      refine ⟨_, rfl, l, 41, rfl, by decide, by decide, w2, fun k H3 k0 k1 b3 w3 => ?_⟩
      obtain ⟨k', rfl⟩ : ∃ k' : Nat, k = (k' : Int) := ⟨k.toNat, by omega⟩
      exact ⟨_, _, rfl, rfl, mul_ok c k' (by omega), q _ H3 ((b1.trans b2).trans b3) w3 (four_mul c hc k' (by omega))⟩
    · refine ⟨_, rfl, rfl, _, rfl, ?_⟩
      refine ifb (fun _ => ?_) (fun _ => ?_)
      · dsimp only [tSeq, tAsg, gName, tRet, tBM, tC]
        refine ⟨rfl, ?_⟩
        refine ⟨_, rfl, l, 6, rfl, by decide, by decide, w1, fun m H2 m0 m1 b2 w2 => ?_⟩
        obtain ⟨k, rfl⟩ : ∃ k : Nat, m = (k : Int) := ⟨m.toNat, by omega⟩
        refine ⟨(k : Int), rfl, by omega, by omega, ?_⟩
        rw [Int.toNat_natCast]
        refine comp_rngW (Q := fun v H' => rJoin K (.str "") [v] H' Q) (n := k) (fun i out H' => But [l] H H' ∧ WellAt H' l ∧ ∃ cs : List Nat, out = cs.map (fun c => V.str ⟨#[c]⟩) ∧ ∀ c ∈ cs, c ∈ SIGNS.cps.toList) (by omega) ⟨b1.trans b2, w2, [], rfl, by simp⟩ (fun i out H3 hi hl hI R hR => ?_) (fun D out H3 hl hI hD => ?_)
        · obtain ⟨b3, w3, cs, rfl, hcs⟩ := hI
          refine ⟨_, rfl, _, rfl, l, 15, rfl, by decide, by decide, w3, fun j H4 j0 j1 b4 w4 => ?_⟩
          obtain ⟨c, hc, ac, _⟩ := at_of (l := SIGNS.cps.toList) j0 (show j < 15 from j1)
          refine ⟨SIGNS, j, c, rfl, rfl, sm (show 15 ≤ 1000 by decide), ac, hR _ H4 ⟨b3.trans b4, w4, cs ++ [c], by rw [List.map_append]; rfl, fun c' hc' => ?_⟩⟩
          rcases List.mem_append.mp hc' with h | h
          · exact hcs c' h
          · rw [List.mem_singleton.mp h]; exact hc
        · obtain ⟨b3, w3, cs, rfl, hcs⟩ := hI
          have hcl : cs.length = k := by rw [List.length_map] at hl; exact hl
          have s4 : Same H3 (upd H3 D (.lst (cs.map fun c => V.str ⟨#[c]⟩))) := same_new hD
          refine ⟨"", D, cs.map fun c => (⟨#[c]⟩ : Str), rfl, rfl, SqL.of (by rw [upd_same, List.map_map]; rfl), join_ok cs (by omega), ?_⟩
          obtain ⟨a, b, c, e⟩ := w3
          refine q _ _ (b3.trans s4.but) ⟨a, b, c, s4 _ _ e⟩ ?_
          have hj : (PySem.Txt.join "" (cs.map fun c => (⟨#[c]⟩ : Str))).cps.toList = cs := by
            unfold PySem.Txt.join
            rw [StrLaws.glued_eq_join]
            exact join_signs cs
          unfold wordV
          dsimp only
          have hsz : (PySem.Txt.join "" (cs.map fun c => (⟨#[c]⟩ : Str))).cps.size ≤ 40 := by
            rw [← Array.length_toList, hj]; omega
          rw [hj, decide_eq_true hsz, Bool.true_and, List.all_eq_true]
          exact fun c hc => signs_wrd c (hcs c hc)
      · refine ⟨sm (show 8 ≤ 1000 by decide), fun lw hlw => ?_⟩
        generalize hH2 : upd H1 lw _ = H2
        have s2 : Same H1 H2 := hH2 ▸ same_new hlw
        have e2 : H2 lw = some (.lst (WORDS.map V.str)) := hH2 ▸ upd_same
        obtain ⟨a, b, c, e⟩ := id w1
        have nlw : lw ≠ l := (ne_of_none e hlw).symm
        refine ⟨_, rfl, l, 8, rfl, by decide, by decide, ⟨a, b, c, s2 _ _ e⟩, fun m H3 m0 m1 b3 w3 => ?_⟩
        obtain ⟨v, hv, av, _⟩ := at_of (l := WORDS.map V.str) m0 (show m < 8 from m1)
        obtain ⟨z, hz, rfl⟩ := List.mem_map.mp hv
        exact ⟨lw, _, _, .str z, rfl, rfl, SqL.of (b3 _ _ e2 (by simp [nlw])), av, q z H3 ((b1.trans s2.but).trans b3) w3 (WORDS_facts z hz)⟩
theorem ok_value (T : Txt K mg t) : FnOk P w K mg base CX0 3 t.f_l_value t.d_l_value ["_law_well_here", "_law_kind"] spVal := by
  have G_l_draw : FnOk P w K mg base CX0 1 t.f_l_draw t.d_l_draw ["_law_well_here", "_law_most"] spDraw := ok_draw T
  have G_l_number : FnOk P w K mg base CX0 2 t.f_l_number t.d_l_number ["_law_well_here"] spNum := ok_number T
  have G_l_word : FnOk P w K mg base CX0 2 t.f_l_word t.d_l_word ["_law_well_here"] spWord := ok_word T
  refine T.F_l_value.ok sc_l_value (fun vs H Q E h => ?_) (fun cdv A outer s H vs Q E hr h => ?_)
  · obtain ⟨l, k, rfl, _⟩ := h
    rfl
  · obtain ⟨l, k, rfl, hw, q⟩ := h
    refine ⟨_, (@pss_cons _ _ _ _ _ (@ps_if _ _ _ _ _ _ _ _ (@pt_cmpR _ _ _ _ _ _ _ _ op_eq (@pe_call _ _ _ _ _ _ _ _ _ _ _ _ _ _ _ _ (G_l_draw.mono (by decide)) hr (by rfl) T.mg_l_draw T.F_l_draw.kp T.b_l_draw .nil pass0 (@pa2 _ _ _ _ _ (@pv _ 0 _ _ (by rfl) (by first | exact Or.inl rfl | exact Or.inr (Or.inl rfl) | exact Or.inr (Or.inr rfl)) (by decide) (by decide)) (@pa2 _ _ _ _ _ pe_int pa_nil (by rfl)) (by rfl)) (by decide) (by rfl) (by rfl)) pe_int (nomark _)) (@pss_one _ _ _ (@ps_ret _ _ _ _ pe_non)) pss_nil) (@pss_cons _ _ _ _ _ (@ps_if _ _ _ _ _ _ _ _ (@pt_cmpR _ _ _ _ _ _ _ _ op_eq (@pv _ 1 _ _ (by rfl) (by first | exact Or.inl rfl | exact Or.inr (Or.inl rfl) | exact Or.inr (Or.inr rfl)) (by decide) (by decide)) pe_str (nomark _)) (@pss_one _ _ _ (@ps_ret _ _ _ _ (@pe_call _ _ _ _ _ _ _ _ _ _ _ _ _ _ _ _ (G_l_number.mono (by decide)) hr (by rfl) T.mg_l_number T.F_l_number.kp T.b_l_number .nil pass0 (@pa2 _ _ _ _ _ (@pv _ 0 _ _ (by rfl) (by first | exact Or.inl rfl | exact Or.inr (Or.inl rfl) | exact Or.inr (Or.inr rfl)) (by decide) (by decide)) pa_nil (by rfl)) (by decide) (by rfl) (by rfl)))) pss_nil) (@pss_one _ _ _ (@ps_ret _ _ _ _ (@pe_call _ _ _ _ _ _ _ _ _ _ _ _ _ _ _ _ (G_l_word.mono (by decide)) hr (by rfl) T.mg_l_word T.F_l_word.kp T.b_l_word .nil pass0 (@pa2 _ _ _ _ _ (@pv _ 0 _ _ (by rfl) (by first | exact Or.inl rfl | exact Or.inr (Or.inl rfl) | exact Or.inr (Or.inr rfl)) (by decide) (by decide)) pa_nil (by rfl)) (by decide) (by rfl) (by rfl)))))), ?_⟩
    refine ⟨_, rfl, l, 6, rfl, by decide, by decide, hw, fun n H1 n0 n1 b1 w1 => ?_⟩
    refine ⟨rfl, _, rfl, ?_⟩
    refine ifb (fun _ => ?_) (fun _ => ?_)
    · exact q _ .none H1 b1 w1 rfl rfl sx_non
    · refine ⟨_, rfl, rfl, _, rfl, ?_⟩
      refine ifb (fun h => ?_) (fun h => ?_)
      · have h : k = "number" := V.str.inj (of_decide_eq_true h)
        exact ⟨_, rfl, l, rfl, w1, fun i H2 b2 w2 => q _ (.int i) H2 (b1.trans b2) w2 (decide_eq_true h) rfl (sx_int i)⟩
      · have h : ¬ k = "number" := fun z => (of_decide_eq_false h) (congrArg V.str z)
        refine ⟨_, rfl, l, rfl, w1, fun z H2 b2 w2 hz => q _ (.str z) H2 (b1.trans b2) w2 ?_ rfl (sx_str ?_)⟩
        · unfold valD
          dsimp only
          rw [if_neg h]
          exact hz
        · unfold wordV at hz
          dsimp only at hz
          rw [Bool.and_eq_true] at hz
          exact sm (Nat.le_trans (of_decide_eq_true hz.1) (by decide))
theorem ok_key (T : Txt K mg t) : FnOk P w K mg base CX0 2 t.f_l_key t.d_l_key ["_law_well_here"] spKey := by
  have G_l_draw : FnOk P w K mg base CX0 1 t.f_l_draw t.d_l_draw ["_law_well_here", "_law_most"] spDraw := ok_draw T
  refine T.F_l_key.ok sc_l_key (fun vs H Q E h => ?_) (fun cdv A outer s H vs Q E hr h => ?_)
  · obtain ⟨l, rfl, _⟩ := h
    rfl
  · obtain ⟨l, rfl, hw, q⟩ := h
    refine ⟨_, (@pss_cons _ _ _ _ _ (@ps_set _ _ (1) _ _ _ _ sc_l_key.nd (by rfl) (by first | exact Or.inl rfl | exact Or.inr rfl) (@pe_lst _ _ _ _ (@pa2 _ _ _ _ _ pe_str (@pa2 _ _ _ _ _ pe_str (@pa2 _ _ _ _ _ pe_str (@pa2 _ _ _ _ _ pe_str (@pa2 _ _ _ _ _ pe_str (@pa2 _ _ _ _ _ pe_str (@pa2 _ _ _ _ _ pe_str (@pa2 _ _ _ _ _ pe_str (@pa2 _ _ _ _ _ pe_str (@pa2 _ _ _ _ _ pe_str (@pa2 _ _ _ _ _ pe_str (@pa2 _ _ _ _ _ pe_str pa_nil (by rfl)) (by rfl)) (by rfl)) (by rfl)) (by rfl)) (by rfl)) (by rfl)) (by rfl)) (by rfl)) (by rfl)) (by rfl)) (by rfl))) (by rfl) (by first | exact .inl rfl | exact .inr rfl | assumption)) (@pss_one _ _ _ (@ps_ret _ _ _ _ (@pe_ix _ _ _ _ _ _ _ ix_list (@pv _ 1 _ _ (by rfl) (by first | exact Or.inl rfl | exact Or.inr (Or.inl rfl) | exact Or.inr (Or.inr rfl)) (by decide) (by decide)) (@pe_call _ _ _ _ _ _ _ _ _ _ _ _ _ _ _ _ (G_l_draw.mono (by decide)) hr (by rfl) T.mg_l_draw T.F_l_draw.kp T.b_l_draw .nil pass0 (@pa2 _ _ _ _ _ (@pv _ 0 _ _ (by rfl) (by first | exact Or.inl rfl | exact Or.inr (Or.inl rfl) | exact Or.inr (Or.inr rfl)) (by decide) (by decide)) (@pa2 _ _ _ _ _ pe_int pa_nil (by rfl)) (by rfl)) (by decide) (by rfl) (by rfl)) (fun _ _ => rfl))))), ?_⟩
    refine ⟨sm (show 12 ≤ 1000 by decide), fun lw hlw => ?_⟩
    generalize hH2 : upd H lw _ = H2
    have s2 : Same H H2 := hH2 ▸ same_new hlw
    have e2 : H2 lw = some (.lst (KEYS.map V.str)) := hH2 ▸ upd_same
    obtain ⟨a, b, c, e⟩ := id hw
    have nlw : lw ≠ l := (ne_of_none e hlw).symm
    refine ⟨_, rfl, _, rfl, l, 12, rfl, by decide, by decide, ⟨a, b, c, s2 _ _ e⟩, fun m H3 m0 m1 b3 w3 => ?_⟩
    obtain ⟨v, hv, av, _⟩ := at_of (l := KEYS.map V.str) m0 (show m < 12 from m1)
    obtain ⟨z, hz, rfl⟩ := List.mem_map.mp hv
    exact ⟨lw, _, _, .str z, rfl, rfl, SqL.of (b3 _ _ e2 (by simp [nlw])), av, q z H3 (s2.but.trans b3) w3 hz⟩
end
end My
set_option Elab.async false
set_option linter.all false
set_option maxRecDepth 100000
set_option maxHeartbeats 4000000
namespace My
open PySem L2
def LeafD (cs : List (Str × Str)) (d : PyData) : Prop :=
  d = .tuple [.str "every"] ∨ (∃ ks : List Str, d = .tuple [.str "key", .tuple (ks.map .str)] ∧ ks.length ≤ 8 ∧ ∀ k ∈ ks, k ∈ KEYS) ∨
  ∃ c v, c ∈ cs ∧ plainD v = true ∧ valD c.2 v = true ∧ (d = .tuple [.str "is", .str c.1, v] ∨ (v ≠ .none ∧ (d = .tuple [.str "below", .str c.1, v] ∨ d = .tuple [.str "above", .str c.1, v] ∨ (c.2 = "word" ∧ d = .tuple [.str "begins", .str c.1, v]))))
def GsD (cs : List (Str × Str)) : Nat → PyData → Prop
  | 0, _ => False
  | n + 1, d => LeafD cs d ∨ (∃ e, d = .tuple [.str "not", e] ∧ GsD cs n e) ∨ ∃ (o : Str) (ds : List PyData), (o = "and" ∨ o = "or") ∧ d = .tuple [.str o, .tuple ds] ∧ ds.length ≤ 8 ∧ ∀ e ∈ ds, GsD cs n e
theorem flat_plain {d : PyData} (h : plainD d = true) : flatT d = true := by
  cases d with
  | none => simp only [flatT]
  | int i => simp only [flatT]
  | str z => simp only [flatT]
  | _ => exact absurd h Bool.false_ne_true
theorem flat_all {ds : List PyData} (h : ∀ d ∈ ds, flatT d = true) : flatTs ds = true := by
  induction ds with
  | nil => simp only [flatTs]
  | cons d ds ih =>
    simp only [flatTs, Bool.and_eq_true]
    exact ⟨h d List.mem_cons_self, ih fun e he => h e (List.mem_cons_of_mem _ he)⟩
theorem flat_leaf {cs : List (Str × Str)} {d : PyData} (h : LeafD cs d) : flatT d = true := by
  rcases h with rfl | ⟨ks, rfl, _⟩ | ⟨c, v, _, hp, _, h⟩
  · simp [flatT, flatTs]
  · have e : flatTs (ks.map PyData.str) = true := flat_all fun d hd => by
      obtain ⟨k, _, rfl⟩ := List.mem_map.mp hd
      simp only [flatT]
    simp [flatT, flatTs, e]
  · have e := flat_plain hp
    rcases h with rfl | ⟨_, rfl | rfl | ⟨_, rfl⟩⟩ <;> simp [flatT, flatTs, e]
theorem flat_gs {cs : List (Str × Str)} : ∀ {n : Nat} {d : PyData}, GsD cs n d → flatT d = true
  | 0, _, h => False.elim h
  | n + 1, d, h => by
    rcases h with h | ⟨e, rfl, h⟩ | ⟨o, ds, _, rfl, _, h⟩
    · exact flat_leaf h
    · simp [flatT, flatTs, flat_gs h]
    · have e : flatTs ds = true := flat_all fun d hd => flat_gs (h d hd)
      simp [flatT, flatTs, e]
theorem well_t {l : Addr} {H H' : Hp} (b : But [l] H H') (w : WellAt H l) : TSame H H' := b.t fun x hx => by
  rw [List.mem_singleton.mp hx]
  obtain ⟨p, q, r, e⟩ := w
  exact ⟨_, e⟩
theorem WellAt.same {l : Addr} {H H' : Hp} (w : WellAt H l) (s : Same H H') : WellAt H' l := by
  obtain ⟨p, q, r, e⟩ := w
  exact ⟨p, q, r, s _ _ e⟩
theorem WellAt.ne {l a : Addr} {H : Hp} (w : WellAt H l) (h : H a = none) : a ≠ l := by
  obtain ⟨p, q, r, e⟩ := w
  exact (ne_of_none e h).symm
def spLeaf : Sp := fun vs H Q _ => ∃ (l : Addr) (cx : V) (cs : List (Str × Str)), vs = [.ref l, cx] ∧ WellAt H l ∧ Sx H (.tuple (cs.map cD)) cx ∧ Gd cs ∧ ∀ v d H', But [l] H H' → WellAt H' l → LeafD cs d → Sx H' d v → Q v H'
theorem cols_at {H : Hp} {cs : List (Str × Str)} {v : V} (h : Sx H (.tuple (cs.map cD)) v) : ∃ a xs, v = .ref a ∧ H a = some (.tup xs) ∧ xs.length = cs.length ∧ SxAll H (cs.map cD) xs ∧ Prs H xs (cs.map fun c => (c.1, .str c.2)) := by
  obtain ⟨a, xs, rfl, e, hall⟩ := h.tup
  have hl := hall.len
  rw [List.length_map] at hl
  refine ⟨a, xs, rfl, e, hl.symm, hall, by rw [List.length_map]; exact hl, fun i x p e1 e2 => ?_⟩
  rw [List.getElem?_map] at e2
  cases ec : cs[i]? with
  | none => rw [ec] at e2; cases e2
  | some c =>
    rw [ec] at e2
    cases e2
    have := SxAll.get i hall e1 (d := cD c) (by rw [List.getElem?_map, ec]; rfl)
    obtain ⟨b, ys, rfl, eb, hb⟩ := Sx.tup this
    obtain ⟨y, r, rfl, h1, h2⟩ := hb.cons
    obtain ⟨y2, r2, rfl, h3, h4⟩ := h2.cons
    have := h4.nil
    subst this
    obtain ⟨rfl, _⟩ := h1.str
    obtain ⟨rfl, _⟩ := h3.str
    exact ⟨b, rfl, eb⟩
theorem lay_cs {cs : List (Str × Str)} (hg : Gd cs) : PyData.canLay0 (.tuple (cs.map cD)) = true := by
  have all : ∀ l : List (Str × Str), (∀ c ∈ l, c ∈ cs) → PyData.canLayAll0 (l.map cD) = true := by
    intro l
    induction l with
    | nil => intro _; rfl
    | cons c r ih =>
      intro h
      have h1 := hg.2.2 c (h c (by simp))
      have e1 := (NM_facts _ h1.1).2
      have e2 : PySem.PyData.strOk c.2 = true := by rcases h1.2 with e | e <;> (rw [e]; decide +kernel)
      rw [List.map_cons]
      simp only [PyData.canLayAll0, cD, PyData.canLay0, Bool.and_eq_true]
      exact ⟨⟨e1, e2, trivial⟩, ih fun c hc => h c (List.mem_cons_of_mem _ hc)⟩
  simp only [PyData.canLay0]
  exact all cs fun _ h => h
theorem keys_sx {H : Hp} : ∀ {ks : List Str}, (∀ k ∈ ks, k ∈ KEYS) → SxAll H (ks.map PyData.str) (ks.map V.str)
  | [], _ => sx_nil
  | k :: ks, h => sx_cons (sx_str (sm (Nat.le_trans (KEYS_facts k (h k List.mem_cons_self)).1 (by decide)))) (keys_sx fun x hx => h x (List.mem_cons_of_mem _ hx))
section
variable {P : Program} {w : World} {K : PySem.W.Frag} {mg : Str → Option Value} {base : Heap} {t : Adr}
theorem ok_leaf (T : Txt K mg t) : FnOk P w K mg base CX0 4 t.f_l_leaf t.d_l_leaf ["_law_well_here", "_law_columns_here"] spLeaf := by
  have G_l_draw : FnOk P w K mg base CX0 1 t.f_l_draw t.d_l_draw ["_law_well_here", "_law_most"] spDraw := ok_draw T
  have G_l_key : FnOk P w K mg base CX0 2 t.f_l_key t.d_l_key ["_law_well_here"] spKey := ok_key T
  have G_l_value : FnOk P w K mg base CX0 3 t.f_l_value t.d_l_value ["_law_well_here", "_law_kind"] spVal := ok_value T
  refine T.F_l_leaf.ok sc_l_leaf (fun vs H Q E h => ?_) (fun cdv A outer s H vs Q E hr h => ?_)
  · obtain ⟨l, cx, cs, rfl, _⟩ := h
    rfl
  · obtain ⟨l, cx, cs, rfl, hw, hc, hg, q⟩ := h
    obtain ⟨ca, xs, rfl, ec, hl, hall, hp⟩ := cols_at hc
    refine ⟨_, (@pss_cons _ _ _ _ _ (@ps_set _ _ (2) _ _ _ _ sc_l_leaf.nd (by rfl) (by first | exact Or.inl rfl | exact Or.inr rfl) (@pe_call _ _ _ _ _ _ _ _ _ _ _ _ _ _ _ _ (G_l_draw.mono (by decide)) hr (by rfl) T.mg_l_draw T.F_l_draw.kp T.b_l_draw .nil pass0 (@pa2 _ _ _ _ _ (@pv _ 0 _ _ (by rfl) (by first | exact Or.inl rfl | exact Or.inr (Or.inl rfl) | exact Or.inr (Or.inr rfl)) (by decide) (by decide)) (@pa2 _ _ _ _ _ pe_int pa_nil (by rfl)) (by rfl)) (by decide) (by rfl) (by rfl)) (by rfl) (by first | exact .inl rfl | exact .inr rfl | assumption)) (@pss_cons _ _ _ _ _ (@ps_if _ _ _ _ _ _ _ _ (@PW.pt _ _ _ (@pw_or _ _ _ _ _ _ _ (@pt_cmpR _ _ _ _ _ _ _ _ op_eq (@pv _ 2 _ _ (by rfl) (by first | exact Or.inl rfl | exact Or.inr (Or.inl rfl) | exact Or.inr (Or.inr rfl)) (by decide) (by decide)) pe_int (nomark _)) (@pw_or1 _ _ _ _ (@PW.pt _ _ _ (@pw_and _ _ _ _ _ _ _ (@pt_cmpR _ _ _ _ _ _ _ _ op_gt (@pv _ 2 _ _ (by rfl) (by first | exact Or.inl rfl | exact Or.inr (Or.inl rfl) | exact Or.inr (Or.inr rfl)) (by decide) (by decide)) pe_int (nomark _)) (@pw_and1 _ _ _ _ (@pt_cmpR _ _ _ _ _ _ _ _ (op_eqD hr.units) (@pv _ 1 _ _ (by rfl) (by first | exact Or.inl rfl | exact Or.inr (Or.inl rfl) | exact Or.inr (Or.inr rfl)) (by decide) (by decide)) (@pe_tup _ _ _ _ _ pa_nil) (nomark _)))))))) (@pss_one _ _ _ (@ps_ret _ _ _ _ (@pe_tup _ _ _ _ _ (@pa2 _ _ _ _ _ pe_str pa_nil (by rfl))))) pss_nil) (@pss_cons _ _ _ _ _ (@ps_if _ _ _ _ _ _ _ _ (@pt_cmpR _ _ _ _ _ _ _ _ op_eq (@pv _ 2 _ _ (by rfl) (by first | exact Or.inl rfl | exact Or.inr (Or.inl rfl) | exact Or.inr (Or.inr rfl)) (by decide) (by decide)) pe_int (nomark _)) (@pss_one _ _ _ (@ps_ret _ _ _ _ (@pe_tup _ _ _ _ _ (@pa2 _ _ _ _ _ pe_str (@pa2 _ _ _ _ _ (@pe_callTy _ _ _ _ _ _ _ _ _ call_tuple_of (by rfl) T.n_tuple bt_tuple (@pa2 _ _ _ _ _ (@pe_comp _ (["_law_k", "_law_well_here"]) ([none, some 0]) _ _ _ _ _ _ _ _ _ _ (csc (defScope s_l_leaf) ["_law_well_here", "_law_columns_here", "_law_way", "_law_name", "_law_kind", "_law_value_here"] rfl rfl (by decide +kernel)) rfl (@pi_range1 _ _ _ _ _ _ (by rfl) T.n_range (@pa2 _ _ _ _ _ (@pe_call _ _ _ _ _ _ _ _ _ _ _ _ _ _ _ _ (G_l_draw.mono (by decide)) hr (by rfl) T.mg_l_draw T.F_l_draw.kp T.b_l_draw .nil pass0 (@pa2 _ _ _ _ _ (@pv _ 0 _ _ (by rfl) (by first | exact Or.inl rfl | exact Or.inr (Or.inl rfl) | exact Or.inr (Or.inr rfl)) (by decide) (by decide)) (@pa2 _ _ _ _ _ (@pe_ix _ _ _ _ _ _ _ ix_list (@pe_lst _ _ _ _ (@pa2 _ _ _ _ _ pe_int (@pa2 _ _ _ _ _ pe_int pa_nil (by rfl)) (by rfl))) (@pe_call _ _ _ _ _ _ _ _ _ _ _ _ _ _ _ _ (G_l_draw.mono (by decide)) hr (by rfl) T.mg_l_draw T.F_l_draw.kp T.b_l_draw .nil pass0 (@pa2 _ _ _ _ _ (@pv _ 0 _ _ (by rfl) (by first | exact Or.inl rfl | exact Or.inr (Or.inl rfl) | exact Or.inr (Or.inr rfl)) (by decide) (by decide)) (@pa2 _ _ _ _ _ pe_int pa_nil (by rfl)) (by rfl)) (by decide) (by rfl) (by rfl)) (fun _ _ => rfl)) pa_nil (by rfl)) (by rfl)) (by decide) (by rfl) (by rfl)) pa_nil (by rfl)) (by rfl)) (fun _ _ _ _ _ => (@pg_name _ _ (0) _ (show (["_law_k", "_law_well_here"] : List Str).Nodup by decide +kernel) (by rfl) (by first | exact Or.inl rfl | exact Or.inr rfl) (by first | exact .inl rfl | exact .inr rfl | assumption))) (gx_name rfl) (fun _ _ _ _ _ => pif_nil) (fun _ _ _ _ _ => (@pe_call _ _ _ _ _ _ _ _ _ _ _ _ _ _ _ _ (G_l_key.mono (by decide)) hr (by rfl) T.mg_l_key T.F_l_key.kp T.b_l_key .nil pass0 (@pa2 _ _ _ _ _ (@pv _ 1 _ _ (by rfl) (by first | exact Or.inl rfl | exact Or.inr (Or.inl rfl) | exact Or.inr (Or.inr rfl)) (by decide) (by decide)) pa_nil (by rfl)) (by decide) (by rfl) (by rfl))) (by intro _; rfl)) pa_nil (by rfl)) (by decide) (by decide) (by rfl) (by rfl)) pa_nil (by rfl)) (by rfl))))) pss_nil) (@pss_cons _ _ _ _ _ (@ps_asg _ _ _ _ _ _ (@pe_ix _ _ _ _ _ _ _ ix_tup (@pv _ 1 _ _ (by rfl) (by first | exact Or.inl rfl | exact Or.inr (Or.inl rfl) | exact Or.inr (Or.inr rfl)) (by decide) (by decide)) (@pe_call _ _ _ _ _ _ _ _ _ _ _ _ _ _ _ _ (G_l_draw.mono (by decide)) hr (by rfl) T.mg_l_draw T.F_l_draw.kp T.b_l_draw .nil pass0 (@pa2 _ _ _ _ _ (@pv _ 0 _ _ (by rfl) (by first | exact Or.inl rfl | exact Or.inr (Or.inl rfl) | exact Or.inr (Or.inr rfl)) (by decide) (by decide)) (@pa2 _ _ _ _ _ (@pe_callB _ _ _ _ _ _ _ _ _ call_len (by rfl) T.n_len bt_len (@pa2 _ _ _ _ _ (@pv _ 1 _ _ (by rfl) (by first | exact Or.inl rfl | exact Or.inr (Or.inl rfl) | exact Or.inr (Or.inr rfl)) (by decide) (by decide)) pa_nil (by rfl)) (by decide) (by decide) (by rfl) (by rfl)) pa_nil (by rfl)) (by rfl)) (by decide) (by rfl) (by rfl)) (fun _ _ => rfl)) (@pg_tup _ _ _ _ _ (2) rfl (@pgs_cons _ _ _ _ _ (@pg_name _ _ (3) _ sc_l_leaf.nd (by rfl) (by first | exact Or.inl rfl | exact Or.inr rfl) (by first | exact .inl rfl | exact .inr rfl | assumption)) (@pgs_cons _ _ _ _ _ (@pg_name _ _ (4) _ sc_l_leaf.nd (by rfl) (by first | exact Or.inl rfl | exact Or.inr rfl) (by first | exact .inl rfl | exact .inr rfl | assumption)) pgs_nil (by rfl)) (by rfl)) (by rfl) (by rfl)) (by rfl) (by rfl) (by rfl)) (@pss_cons _ _ _ _ _ (@ps_set _ _ (5) _ _ _ _ sc_l_leaf.nd (by rfl) (by first | exact Or.inl rfl | exact Or.inr rfl) (@pe_call _ _ _ _ _ _ _ _ _ _ _ _ _ _ _ _ (G_l_value.mono (by decide)) hr (by rfl) T.mg_l_value T.F_l_value.kp T.b_l_value .nil pass0 (@pa2 _ _ _ _ _ (@pv _ 0 _ _ (by rfl) (by first | exact Or.inl rfl | exact Or.inr (Or.inl rfl) | exact Or.inr (Or.inr rfl)) (by decide) (by decide)) (@pa2 _ _ _ _ _ (@pv _ 4 _ _ (by rfl) (by first | exact Or.inl rfl | exact Or.inr (Or.inl rfl) | exact Or.inr (Or.inr rfl)) (by decide) (by decide)) pa_nil (by rfl)) (by rfl)) (by decide) (by rfl) (by rfl)) (by rfl) (by first | exact .inl rfl | exact .inr rfl | assumption)) (@pss_cons _ _ _ _ _ (@ps_if _ _ _ _ _ _ _ _ (@PW.pt _ _ _ (@pw_or _ _ _ _ _ _ _ (@pt_cmpR _ _ _ _ _ _ _ _ op_lt (@pv _ 2 _ _ (by rfl) (by first | exact Or.inl rfl | exact Or.inr (Or.inl rfl) | exact Or.inr (Or.inr rfl)) (by decide) (by decide)) pe_int (nomark _)) (@pw_or1 _ _ _ _ (@pt_cmpR _ _ _ _ _ _ _ _ op_isN (@pv _ 5 _ _ (by rfl) (by first | exact Or.inl rfl | exact Or.inr (Or.inl rfl) | exact Or.inr (Or.inr rfl)) (by decide) (by decide)) pe_non (nomark _))))) (@pss_one _ _ _ (@ps_ret _ _ _ _ (@pe_tup _ _ _ _ _ (@pa2 _ _ _ _ _ pe_str (@pa2 _ _ _ _ _ (@pv _ 3 _ _ (by rfl) (by first | exact Or.inl rfl | exact Or.inr (Or.inl rfl) | exact Or.inr (Or.inr rfl)) (by decide) (by decide)) (@pa2 _ _ _ _ _ (@pv _ 5 _ _ (by rfl) (by first | exact Or.inl rfl | exact Or.inr (Or.inl rfl) | exact Or.inr (Or.inr rfl)) (by decide) (by decide)) pa_nil (by rfl)) (by rfl)) (by rfl))))) pss_nil) (@pss_cons _ _ _ _ _ (@ps_if _ _ _ _ _ _ _ _ (@PW.pt _ _ _ (@pw_and _ _ _ _ _ _ _ (@pt_cmpR _ _ _ _ _ _ _ _ op_eq (@pv _ 2 _ _ (by rfl) (by first | exact Or.inl rfl | exact Or.inr (Or.inl rfl) | exact Or.inr (Or.inr rfl)) (by decide) (by decide)) pe_int (nomark _)) (@pw_and1 _ _ _ _ (@pt_cmpR _ _ _ _ _ _ _ _ op_eq (@pv _ 4 _ _ (by rfl) (by first | exact Or.inl rfl | exact Or.inr (Or.inl rfl) | exact Or.inr (Or.inr rfl)) (by decide) (by decide)) pe_str (nomark _))))) (@pss_one _ _ _ (@ps_ret _ _ _ _ (@pe_tup _ _ _ _ _ (@pa2 _ _ _ _ _ pe_str (@pa2 _ _ _ _ _ (@pv _ 3 _ _ (by rfl) (by first | exact Or.inl rfl | exact Or.inr (Or.inl rfl) | exact Or.inr (Or.inr rfl)) (by decide) (by decide)) (@pa2 _ _ _ _ _ (@pv _ 5 _ _ (by rfl) (by first | exact Or.inl rfl | exact Or.inr (Or.inl rfl) | exact Or.inr (Or.inr rfl)) (by decide) (by decide)) pa_nil (by rfl)) (by rfl)) (by rfl))))) pss_nil) (@pss_one _ _ _ (@ps_ret _ _ _ _ (@pe_tup _ _ _ _ _ (@pa2 _ _ _ _ _ (@pe_ix _ _ _ _ _ _ _ ix_list (@pe_lst _ _ _ _ (@pa2 _ _ _ _ _ pe_str (@pa2 _ _ _ _ _ pe_str pa_nil (by rfl)) (by rfl))) (@pe_op _ _ _ _ _ _ _ _ op_mod (@pv _ 2 _ _ (by rfl) (by first | exact Or.inl rfl | exact Or.inr (Or.inl rfl) | exact Or.inr (Or.inr rfl)) (by decide) (by decide)) pe_int) (fun _ _ => rfl)) (@pa2 _ _ _ _ _ (@pv _ 3 _ _ (by rfl) (by first | exact Or.inl rfl | exact Or.inr (Or.inl rfl) | exact Or.inr (Or.inr rfl)) (by decide) (by decide)) (@pa2 _ _ _ _ _ (@pv _ 5 _ _ (by rfl) (by first | exact Or.inl rfl | exact Or.inr (Or.inl rfl) | exact Or.inr (Or.inr rfl)) (by decide) (by decide)) pa_nil (by rfl)) (by rfl)) (by rfl)))))))))))), ?_⟩
    refine ⟨_, rfl, l, 8, rfl, by decide, by decide, hw, fun n H1 n0 n1 b1 w1 => ?_⟩
    have t1 := well_t b1 hw
    have hc1 := Sx.tsame t1 _ (by simp only [flatT]; exact flat_cs cs) hc
    dsimp only [tSeq, tIfS]
    refine rd_orB (b := decide (V.int n = .int 0)) (Pc := fun c => c = false → n ≠ 0 ∧ (1 < n → cs ≠ [])) (fun R hR => ⟨_, rfl, rfl, _, rfl, hR⟩) (fun hn0 R hR => ?_) (fun _ h => by cases h) (fun c H2 s2 hcs => ?_)
    · have hn0 : n ≠ 0 := fun z => (of_decide_eq_false hn0) (congrArg V.int z)
      refine rd_andB (b := decide (1 < n)) (Pc := fun c => c = false → n ≠ 0 ∧ (1 < n → cs ≠ [])) (fun R hR => ⟨_, rfl, _, _, rfl, rfl, _, rfl, hR⟩) (fun _ R hR => ?_) (fun h _ => ⟨hn0, fun h' => absurd h' (of_decide_eq_false h)⟩) hR
      refine ⟨_, rfl, sm (show 0 ≤ 1000 by decide), fun p0 hp0 => ?_⟩
      generalize hH2 : upd H1 p0 _ = H2
      have s2 : Same H1 H2 := hH2 ▸ same_new hp0
      have e0 : H2 p0 = some (.tup []) := hH2 ▸ upd_same
      refine ⟨.tuple (cs.map cD), .tuple [], Sx.dt _ (lay_cs hg) (Sx.same s2 _ hc1), Sx.dt _ rfl (sx_tup e0 sx_nil), lay_cs hg, rfl, .inr (by decide), _, rfl, hR _ H2 s2 fun h => ⟨hn0, fun _ e => ?_⟩⟩
      subst e
      cases h
    have b2 : But [l] H H2 := b1.trans s2.but
    have w2 := w1.same s2
    have ec2 := s2 _ _ (t1 _ _ ec)
    have fin : ∀ (d : PyData) (v : V) (H' : Hp), But [l] H2 H' → WellAt H' l → LeafD cs d → Sx H' d v → Q v H' := fun d v H' b' w' hd hv => q v d H' (b2.trans b') w' hd hv
    refine ifb (fun _ => ?_) (fun hf => ?_)
    · exact Md.run ((mk_tup (mkA_cons (mk_str (by decide)) mkA_nil) (Nat.le_of_ble_eq_true rfl)) : Md _ _ H2 (.tuple [.str "every"])) fun v H3 s3 hv => fin _ v H3 s3.but (w2.same s3) (.inl rfl) hv
    · have hcs := hcs hf
      refine ⟨_, rfl, rfl, _, rfl, ?_⟩
      refine ifb (fun _ => ?_) (fun hn1 => ?_)
      · -- keys
        dsimp only [tRet, tTup, tCons, tCB, tC]
        refine rd_comp_rngW (fun i out H' => But [l] H2 H' ∧ WellAt H' l ∧ ∃ ks : List Str, out = ks.map V.str ∧ ∀ k ∈ ks, k ∈ KEYS) 8 (by decide) (fun R hR => ?_) (fun i out H3 hi hol hI R hR => ?_) (fun D out H3 hol hI hD => ?_)
        · refine ⟨_, rfl, sm (show 2 ≤ 1000 by decide), fun l2 hl2 => ?_⟩
          generalize hH3 : upd H2 l2 _ = H3
          have s3 : Same H2 H3 := hH3 ▸ same_new hl2
          have e2 : H3 l2 = some (.lst [.int 4, .int 9]) := hH3 ▸ upd_same
          have nl2 := w2.ne hl2
          refine ⟨_, rfl, l, 2, rfl, by decide, by decide, w2.same s3, fun m H4 m0 m1 b4 w4 => ?_⟩
          obtain ⟨mv, hmv, am, _⟩ := at_of (l := [V.int 4, .int 9]) m0 m1
          obtain ⟨m', rfl, hm'⟩ : ∃ m' : Int, mv = .int m' ∧ (m' = 4 ∨ m' = 9) := by
            simp only [List.mem_cons, List.not_mem_nil, or_false] at hmv
            rcases hmv with rfl | rfl
            · exact ⟨4, rfl, .inl rfl⟩
            · exact ⟨9, rfl, .inr rfl⟩
          refine ⟨l2, _, _, .int m', rfl, rfl, SqL.of (b4 _ _ e2 (by simp [nl2])), am, l, m', rfl, by omega, by omega, w4, fun k H5 k0 k1 b5 w5 => ?_⟩
          obtain ⟨k', rfl⟩ : ∃ k' : Nat, k = (k' : Int) := ⟨k.toNat, by omega⟩
          exact hR k' H5 (by omega) ⟨(s3.but.trans b4).trans b5, w5, [], rfl, by simp⟩
        · obtain ⟨b3, w3, ks, rfl, hks⟩ := hI
          refine ⟨_, rfl, l, rfl, w3, fun z H4 b4 w4 hz => hR _ H4 ⟨b3.trans b4, w4, ks ++ [z], by rw [List.map_append]; rfl, fun k hk => ?_⟩⟩
          rcases List.mem_append.mp hk with h | h
          · exact hks k h
          · rw [List.mem_singleton.mp h]; exact hz
        · obtain ⟨b3, w3, ks, rfl, hks⟩ := hI
          generalize hH4 : upd H3 D _ = H4
          have s4 : Same H3 H4 := hH4 ▸ same_new hD
          have eD : H4 D = some (.lst (ks.map V.str)) := hH4 ▸ upd_same
          refine ⟨D, _, rfl, .inl ⟨SqL.of eD, fun p hp => ?_⟩⟩
          generalize hH5 : upd H4 p _ = H5
          have s5 : Same H4 H5 := hH5 ▸ same_new hp
          have e5 : H5 p = some (.tup (ks.map V.str)) := hH5 ▸ upd_same
          refine ⟨sm (show 2 ≤ 1000 by decide), fun p6 hp6 => ?_⟩
          have s6 : Same H5 (upd H5 p6 (.tup [.str "key", .ref p])) := same_new hp6
          refine fin (.tuple [.str "key", .tuple (ks.map .str)]) _ _ (b3.trans ((s4.trans s5).trans s6).but) (w3.same ((s4.trans s5).trans s6)) (.inr (.inl ⟨ks, rfl, by rw [List.length_map] at hol; exact hol, hks⟩)) ?_
          exact sx_tup upd_same (sx_cons (sx_str (sm (by decide))) (sx_cons (sx_tup (s6 _ _ e5) (keys_sx hks)) sx_nil))
      · -- a column and a value
        have hn1 : 1 < n := by
          have h1 : n ≠ 1 := fun z => (of_decide_eq_false hn1) (congrArg V.int z)
          have h0 := hcs.1
          omega
        have hne := hcs.2 hn1
        have hx0 : 0 < xs.length := by rw [hl]; exact List.length_pos_iff.mpr hne
        have hx8 : xs.length ≤ 8 := by rw [hl]; exact hg.1
        refine ⟨_, rfl, _, rfl, _, rfl, _, xs.length, rfl, .inr ⟨xs, SqT.of ec2, rfl⟩, l, (xs.length : Int), rfl, by omega, by omega, w2, fun m H3 m0 m1 b3 w3 => ?_⟩
        obtain ⟨x, hx, ax, i, ei, exi⟩ := at_of (l := xs) m0 m1
        have hi : i < xs.length := (List.getElem?_eq_some_iff.mp exi).1
        have ecs : cs[i]? = some (cs[i]'(by omega)) := List.getElem?_eq_getElem _
        generalize (cs[i]'(by omega)) = c' at ecs
        have hcm := List.mem_of_getElem? ecs
        obtain ⟨b, rfl, eb⟩ := hp.2 i x (c'.1, .str c'.2) exi (by rw [List.getElem?_map, ecs]; rfl)
        have t3 := well_t b3 w2
        have eb3 := t3 _ _ (s2 _ _ (t1 _ _ eb))
        have zn : c'.1.cps.size ≤ sizeLine := sm (Nat.le_trans (NM_facts _ (hg.2.2 c' hcm).1).1 (by decide))
        refine ⟨ca, xs, m, .ref b, rfl, rfl, SqT.of (t3 _ _ ec2), ax, b, _, rfl, SqT.of eb3, rfl, _, _, rfl, _, _, rfl, rfl, ?_⟩
        refine ⟨_, rfl, _, rfl, l, c'.2, rfl, w3, fun v d H4 b4 w4 hv hpl hsx => ?_⟩
        have b24 : But [l] H2 H4 := b3.trans b4
        dsimp only [tSeq, tIfS]
        refine rd_orB (b := decide (n < 4)) (Pc := fun c => c = false → v ≠ .non) (fun R hR => ⟨_, rfl, _, _, rfl, rfl, _, rfl, hR⟩) (fun _ R hR => ⟨_, rfl, rfl, _, rfl, hR _ H4 (Same.refl H4) fun h => of_decide_eq_false h⟩) (fun _ h => by cases h) (fun c5 H5 s5 hnn => ?_)
        have hsx5 := Sx.same s5 _ hsx
        have b25 := b24.trans s5.but
        have w5 := w4.same s5
        refine ifb (fun _ => ?_) (fun hf5 => ?_)
        · exact Md.run ((mk_tup (mkA_cons (mk_str (by decide)) (mkA_cons (mk_var (i := 3) rfl (sx_str zn)) (mkA_cons (mk_var (i := 5) rfl hsx5) mkA_nil))) (Nat.le_of_ble_eq_true rfl)) : Md _ _ H5 (.tuple [.str "is", .str c'.1, d])) fun v' H6 s6 hv' => fin _ v' H6 (b25.trans s6.but) (w5.same s6) (.inr (.inr ⟨c', d, hcm, hpl, hv, .inl rfl⟩)) hv'
        · have hdn : d ≠ .none := fun z => by
            subst z
            simp only [Sx] at hsx
            exact hnn hf5 hsx
          dsimp only [tNext, tSeq, tIfS]
          refine rd_andB (b := decide (V.int n = .int 7)) (Pc := fun c => c = true → c'.2 = "word") (fun R hR => ⟨_, rfl, rfl, _, rfl, hR⟩) (fun _ R hR => ⟨_, rfl, rfl, _, rfl, hR _ H5 (Same.refl H5) fun h => V.str.inj (of_decide_eq_true h)⟩) (fun _ h => by cases h) (fun c6 H6 s6 hwd => ?_)
          have hsx6 := Sx.same s6 _ hsx5
          have b26 := b25.trans s6.but
          have w6 := w5.same s6
          refine ifb (fun ht6 => ?_) (fun _ => ?_)
          · exact Md.run ((mk_tup (mkA_cons (mk_str (by decide)) (mkA_cons (mk_var (i := 3) rfl (sx_str zn)) (mkA_cons (mk_var (i := 5) rfl hsx6) mkA_nil))) (Nat.le_of_ble_eq_true rfl)) : Md _ _ H6 (.tuple [.str "begins", .str c'.1, d])) fun v' H7 s7 hv' => fin _ v' H7 (b26.trans s7.but) (w6.same s7) (.inr (.inr ⟨c', d, hcm, hpl, hv, .inr ⟨hdn, .inr (.inr ⟨hwd ht6, rfl⟩)⟩⟩)) hv'
          · refine ⟨sm (show 2 ≤ 1000 by decide), fun l2 hl2 => ?_⟩
            generalize hH7 : upd H6 l2 _ = H7
            have s7 : Same H6 H7 := hH7 ▸ same_new hl2
            have e2 : H7 l2 = some (.lst [.str "below", .str "above"]) := hH7 ▸ upd_same
            obtain ⟨o, ho, ao⟩ := two (a := "below") (b := "above") (n % 2) (by omega) (by omega)
            refine ⟨_, rfl, _, _, rfl, rfl, (show (0 : Int) < 2 by decide), l2, _, _, .str o, rfl, rfl, SqL.of e2, ao, _, rfl, _, rfl, sm (show 3 ≤ 1000 by decide), fun p hp' => ?_⟩
            have s8 : Same H7 (upd H7 p (.tup [.str o, .str c'.1, v])) := same_new hp'
            have zo : o.cps.size ≤ sizeLine := by rcases ho with h | h <;> (rw [h]; exact sm (by decide))
            refine fin (.tuple [.str o, .str c'.1, d]) _ _ (b26.trans (s7.trans s8).but) (w6.same (s7.trans s8)) (.inr (.inr ⟨c', d, hcm, hpl, hv, .inr ⟨hdn, ?_⟩⟩)) (sx_tup upd_same (sx_cons (sx_str zo) (sx_cons (sx_str zn) (sx_cons (Sx.same (s7.trans s8) _ hsx6) sx_nil))))
            rcases ho with rfl | rfl
            · exact .inl rfl
            · exact .inr (.inl rfl)
end
end My
set_option Elab.async false
set_option linter.all false
set_option maxRecDepth 100000
set_option maxHeartbeats 4000000
namespace My
open PySem L2
def RoomAt (H : Hp) (r : Addr) : Prop := ∃ c : Int, H r = some (.lst [.int c])
theorem RoomAt.same {l : Addr} {H H' : Hp} (w : RoomAt H l) (s : Same H H') : RoomAt H' l := by
  obtain ⟨p, e⟩ := w
  exact ⟨p, s _ _ e⟩
theorem RoomAt.ne {l a : Addr} {H : Hp} (w : RoomAt H l) (h : H a = none) : a ≠ l := by
  obtain ⟨p, e⟩ := w
  exact (ne_of_none e h).symm
theorem RoomAt.but {l r : Addr} {H H' : Hp} (w : RoomAt H r) (b : But [l] H H') (n : r ≠ l) : RoomAt H' r := by
  obtain ⟨p, e⟩ := w
  exact ⟨p, b _ _ e (by simp [n])⟩
theorem room_t {l r : Addr} {H H' : Hp} (b : But [l, r] H H') (w : WellAt H l) (m : RoomAt H r) : TSame H H' := b.t fun x hx => by
  simp only [List.mem_cons, List.not_mem_nil, or_false] at hx
  rcases hx with rfl | rfl
  · obtain ⟨p, q, r, e⟩ := w
    exact ⟨_, e⟩
  · obtain ⟨p, e⟩ := m
    exact ⟨_, e⟩
def spSieve (n : Nat) : Sp := fun vs H Q _ => ∃ (l r : Addr) (cx : V) (cs : List (Str × Str)) (deep : Nat), vs = [.ref l, cx, .int deep, .ref r] ∧ WellAt H l ∧ RoomAt H r ∧ l ≠ r ∧ Sx H (.tuple (cs.map cD)) cx ∧ Gd cs ∧ 1 ≤ deep ∧ deep ≤ n ∧ ∀ v d H', But [l, r] H H' → WellAt H' l → RoomAt H' r → GsD cs deep d → Sx H' d v → Q v H'
theorem fn_false {P : Program} {w : World} {K : PySem.W.Frag} {mg : Str → Option Value} {base : Heap} {CX : CXT} {k : Nat} {f : Addr} {fd : FuncData} {ps : List Str} {sp : Sp} (h : ∀ vs H Q E, ¬ sp vs H Q E) : FnOk P w K mg base CX k f fd ps sp :=
  ⟨fun vs H Q E q => absurd q (h vs H Q E), fun A outer s H args us vs Q E hr he hb hv hs => absurd hs (h vs H Q E)⟩
section
variable {P : Program} {w : World} {K : PySem.W.Frag} {mg : Str → Option Value} {base : Heap} {t : Adr}
theorem ok_sieve (T : Txt K mg t) : ∀ n : Nat, FnOk P w K mg base CX0 (4 + n) t.f_l_sieve t.d_l_sieve ["_law_well_here", "_law_columns_here", "_law_deep", "_law_room"] (spSieve n)
  | 0 => fn_false fun vs H Q E h => by
    obtain ⟨l, r, cx, cs, deep, _, _, _, _, _, _, h1, h2, _⟩ := h
    omega
  | n + 1 => by
    have G_l_draw : FnOk P w K mg base CX0 1 t.f_l_draw t.d_l_draw ["_law_well_here", "_law_most"] spDraw := ok_draw T
    have G_l_leaf : FnOk P w K mg base CX0 4 t.f_l_leaf t.d_l_leaf ["_law_well_here", "_law_columns_here"] spLeaf := ok_leaf T
    have G_l_sieve : FnOk P w K mg base CX0 (4 + n) t.f_l_sieve t.d_l_sieve ["_law_well_here", "_law_columns_here", "_law_deep", "_law_room"] (spSieve n) := ok_sieve T n
    refine T.F_l_sieve.ok (k := 4 + n) sc_l_sieve (fun vs H Q E h => ?_) (fun cdv A outer s H vs Q E hr h => ?_)
    · obtain ⟨l, r, cx, cs, deep, rfl, _⟩ := h
      rfl
    · obtain ⟨l, r, cx, cs, deep, rfl, hw, ⟨c, er⟩, hlr, hc, hg, hd1, hdn, q⟩ := h
      have nrl : r ≠ l := hlr.symm
      refine ⟨_, (@pss_cons _ _ _ _ _ (@ps_asg _ _ _ _ _ _ (@pe_op _ _ _ _ _ _ _ _ op_sub (@pe_ix _ _ _ _ _ _ _ ix_list (@pv _ 3 _ _ (by rfl) (by first | exact Or.inl rfl | exact Or.inr (Or.inl rfl) | exact Or.inr (Or.inr rfl)) (by decide) (by decide)) pe_int (fun _ _ => rfl)) pe_int) (@pg_sub _ _ _ _ _ _ _ (@pv _ 3 _ _ (by rfl) (by first | exact Or.inl rfl | exact Or.inr (Or.inl rfl) | exact Or.inr (Or.inr rfl)) (by decide) (by decide)) pe_int set_list (by intro _; rfl)) (by rfl) (by rfl) (by rfl)) (@pss_cons _ _ _ _ _ (@ps_set _ _ (4) _ _ _ _ sc_l_sieve.nd (by rfl) (by first | exact Or.inl rfl | exact Or.inr rfl) (@pe_call _ _ _ _ _ _ _ _ _ _ _ _ _ _ _ _ (G_l_draw.mono (by omega)) hr (by rfl) T.mg_l_draw T.F_l_draw.kp T.b_l_draw .nil pass0 (@pa2 _ _ _ _ _ (@pv _ 0 _ _ (by rfl) (by first | exact Or.inl rfl | exact Or.inr (Or.inl rfl) | exact Or.inr (Or.inr rfl)) (by decide) (by decide)) (@pa2 _ _ _ _ _ pe_int pa_nil (by rfl)) (by rfl)) (by decide) (by rfl) (by rfl)) (by rfl) (by first | exact .inl rfl | exact .inr rfl | assumption)) (@pss_cons _ _ _ _ _ (@ps_if _ _ _ _ _ _ _ _ (@PW.pt _ _ _ (@pw_or _ _ _ _ _ _ _ (@pt_cmpR _ _ _ _ _ _ _ _ op_eq (@pv _ 2 _ _ (by rfl) (by first | exact Or.inl rfl | exact Or.inr (Or.inl rfl) | exact Or.inr (Or.inr rfl)) (by decide) (by decide)) pe_int (nomark _)) (@pw_or1 _ _ _ _ (@pt_cmpR _ _ _ _ _ _ _ _ op_lt (@pv _ 4 _ _ (by rfl) (by first | exact Or.inl rfl | exact Or.inr (Or.inl rfl) | exact Or.inr (Or.inr rfl)) (by decide) (by decide)) pe_int (nomark _))))) (@pss_one _ _ _ (@ps_ret _ _ _ _ (@pe_call _ _ _ _ _ _ _ _ _ _ _ _ _ _ _ _ (G_l_leaf.mono (by omega)) hr (by rfl) T.mg_l_leaf T.F_l_leaf.kp T.b_l_leaf .nil pass0 (@pa2 _ _ _ _ _ (@pv _ 0 _ _ (by rfl) (by first | exact Or.inl rfl | exact Or.inr (Or.inl rfl) | exact Or.inr (Or.inr rfl)) (by decide) (by decide)) (@pa2 _ _ _ _ _ (@pv _ 1 _ _ (by rfl) (by first | exact Or.inl rfl | exact Or.inr (Or.inl rfl) | exact Or.inr (Or.inr rfl)) (by decide) (by decide)) pa_nil (by rfl)) (by rfl)) (by decide) (by rfl) (by rfl)))) pss_nil) (@pss_cons _ _ _ _ _ (@ps_if _ _ _ _ _ _ _ _ (@pt_cmpR _ _ _ _ _ _ _ _ op_eq (@pv _ 4 _ _ (by rfl) (by first | exact Or.inl rfl | exact Or.inr (Or.inl rfl) | exact Or.inr (Or.inr rfl)) (by decide) (by decide)) pe_int (nomark _)) (@pss_cons _ _ _ _ _ (@ps_if _ _ _ _ _ _ _ _ (@pt_cmpR _ _ _ _ _ _ _ _ op_lt (@pe_ix _ _ _ _ _ _ _ ix_list (@pv _ 3 _ _ (by rfl) (by first | exact Or.inl rfl | exact Or.inr (Or.inl rfl) | exact Or.inr (Or.inr rfl)) (by decide) (by decide)) pe_int (fun _ _ => rfl)) pe_int (nomark _)) (@pss_one _ _ _ (@ps_ret _ _ _ _ (@pe_tup _ _ _ _ _ (@pa2 _ _ _ _ _ pe_str (@pa2 _ _ _ _ _ (@pe_tup _ _ _ _ _ (@pa2 _ _ _ _ _ pe_str pa_nil (by rfl))) pa_nil (by rfl)) (by rfl))))) pss_nil) (@pss_one _ _ _ (@ps_ret _ _ _ _ (@pe_tup _ _ _ _ _ (@pa2 _ _ _ _ _ pe_str (@pa2 _ _ _ _ _ (@pe_call _ _ _ _ _ _ _ _ _ _ _ _ _ _ _ _ (G_l_sieve.mono (by omega)) hr (by rfl) T.mg_l_sieve T.F_l_sieve.kp T.b_l_sieve .nil pass0 (@pa2 _ _ _ _ _ (@pv _ 0 _ _ (by rfl) (by first | exact Or.inl rfl | exact Or.inr (Or.inl rfl) | exact Or.inr (Or.inr rfl)) (by decide) (by decide)) (@pa2 _ _ _ _ _ (@pv _ 1 _ _ (by rfl) (by first | exact Or.inl rfl | exact Or.inr (Or.inl rfl) | exact Or.inr (Or.inr rfl)) (by decide) (by decide)) (@pa2 _ _ _ _ _ (@pe_op _ _ _ _ _ _ _ _ op_sub (@pv _ 2 _ _ (by rfl) (by first | exact Or.inl rfl | exact Or.inr (Or.inl rfl) | exact Or.inr (Or.inr rfl)) (by decide) (by decide)) pe_int) (@pa2 _ _ _ _ _ (@pv _ 3 _ _ (by rfl) (by first | exact Or.inl rfl | exact Or.inr (Or.inl rfl) | exact Or.inr (Or.inr rfl)) (by decide) (by decide)) pa_nil (by rfl)) (by rfl)) (by rfl)) (by rfl)) (by decide) (by rfl) (by rfl)) pa_nil (by rfl)) (by rfl)))))) pss_nil) (@pss_cons _ _ _ _ _ (@ps_set _ _ (5) _ _ _ _ sc_l_sieve.nd (by rfl) (by first | exact Or.inl rfl | exact Or.inr rfl) (@pe_lst _ _ _ _ pa_nil) (by rfl) (by first | exact .inl rfl | exact .inr rfl | assumption)) (@pss_cons _ _ _ _ _ (@ps_cut _ _ _ (@ps_for _ _ _ _ _ _ _ _ PassesOwn.never rfl (@pi_range1 _ _ _ _ _ _ (by rfl) T.n_range (@pa2 _ _ _ _ _ (@pe_call _ _ _ _ _ _ _ _ _ _ _ _ _ _ _ _ (G_l_draw.mono (by omega)) hr (by rfl) T.mg_l_draw T.F_l_draw.kp T.b_l_draw .nil pass0 (@pa2 _ _ _ _ _ (@pv _ 0 _ _ (by rfl) (by first | exact Or.inl rfl | exact Or.inr (Or.inl rfl) | exact Or.inr (Or.inr rfl)) (by decide) (by decide)) (@pa2 _ _ _ _ _ (@pe_ix _ _ _ _ _ _ _ ix_list (@pe_lst _ _ _ _ (@pa2 _ _ _ _ _ pe_int (@pa2 _ _ _ _ _ pe_int (@pa2 _ _ _ _ _ pe_int pa_nil (by rfl)) (by rfl)) (by rfl))) (@pe_call _ _ _ _ _ _ _ _ _ _ _ _ _ _ _ _ (G_l_draw.mono (by omega)) hr (by rfl) T.mg_l_draw T.F_l_draw.kp T.b_l_draw .nil pass0 (@pa2 _ _ _ _ _ (@pv _ 0 _ _ (by rfl) (by first | exact Or.inl rfl | exact Or.inr (Or.inl rfl) | exact Or.inr (Or.inr rfl)) (by decide) (by decide)) (@pa2 _ _ _ _ _ pe_int pa_nil (by rfl)) (by rfl)) (by decide) (by rfl) (by rfl)) (fun _ _ => rfl)) pa_nil (by rfl)) (by rfl)) (by decide) (by rfl) (by rfl)) pa_nil (by rfl)) (by rfl)) (@pg_name _ _ (6) _ sc_l_sieve.nd (by rfl) (by first | exact Or.inl rfl | exact Or.inr rfl) (by first | exact .inl rfl | exact .inr rfl | assumption)) (@pss_one _ _ _ (@ps_if _ _ _ _ _ _ _ _ (@pt_cmpR _ _ _ _ _ _ _ _ op_gt (@pe_ix _ _ _ _ _ _ _ ix_list (@pv _ 3 _ _ (by rfl) (by first | exact Or.inl rfl | exact Or.inr (Or.inl rfl) | exact Or.inr (Or.inr rfl)) (by decide) (by decide)) pe_int (fun _ _ => rfl)) pe_int (nomark _)) (@pss_one _ _ _ (@ps_expr _ _ _ _ (@pe_bm _ _ _ _ _ _ _ _ _ _ _ _ PySem.F.plainAttrs_list PySem.F.slot_list_append PySem.F.type_list_append mt_append (@pv _ 5 _ _ (by rfl) (by first | exact Or.inl rfl | exact Or.inr (Or.inl rfl) | exact Or.inr (Or.inr rfl)) (by decide) (by decide)) (@pa2 _ _ _ _ _ (@pe_call _ _ _ _ _ _ _ _ _ _ _ _ _ _ _ _ (G_l_sieve.mono (by omega)) hr (by rfl) T.mg_l_sieve T.F_l_sieve.kp T.b_l_sieve .nil pass0 (@pa2 _ _ _ _ _ (@pv _ 0 _ _ (by rfl) (by first | exact Or.inl rfl | exact Or.inr (Or.inl rfl) | exact Or.inr (Or.inr rfl)) (by decide) (by decide)) (@pa2 _ _ _ _ _ (@pv _ 1 _ _ (by rfl) (by first | exact Or.inl rfl | exact Or.inr (Or.inl rfl) | exact Or.inr (Or.inr rfl)) (by decide) (by decide)) (@pa2 _ _ _ _ _ (@pe_op _ _ _ _ _ _ _ _ op_sub (@pv _ 2 _ _ (by rfl) (by first | exact Or.inl rfl | exact Or.inr (Or.inl rfl) | exact Or.inr (Or.inr rfl)) (by decide) (by decide)) pe_int) (@pa2 _ _ _ _ _ (@pv _ 3 _ _ (by rfl) (by first | exact Or.inl rfl | exact Or.inr (Or.inl rfl) | exact Or.inr (Or.inr rfl)) (by decide) (by decide)) pa_nil (by rfl)) (by rfl)) (by rfl)) (by rfl)) (by decide) (by rfl) (by rfl)) pa_nil (by rfl)) (by rfl) (by rfl) (by rfl) (by rfl) (by rfl)) (by rfl))) pss_nil)) (by intro _; rfl))) (@pss_one _ _ _ (@ps_ret _ _ _ _ (@pe_tup _ _ _ _ _ (@pa2 _ _ _ _ _ (@pe_ix _ _ _ _ _ _ _ ix_list (@pe_lst _ _ _ _ (@pa2 _ _ _ _ _ pe_str (@pa2 _ _ _ _ _ pe_str pa_nil (by rfl)) (by rfl))) (@pe_op _ _ _ _ _ _ _ _ op_mod (@pv _ 4 _ _ (by rfl) (by first | exact Or.inl rfl | exact Or.inr (Or.inl rfl) | exact Or.inr (Or.inr rfl)) (by decide) (by decide)) pe_int) (fun _ _ => rfl)) (@pa2 _ _ _ _ _ (@pe_callTy _ _ _ _ _ _ _ _ _ call_tuple_of (by rfl) T.n_tuple bt_tuple (@pa2 _ _ _ _ _ (@pv _ 5 _ _ (by rfl) (by first | exact Or.inl rfl | exact Or.inr (Or.inl rfl) | exact Or.inr (Or.inr rfl)) (by decide) (by decide)) pa_nil (by rfl)) (by decide) (by decide) (by rfl) (by rfl)) pa_nil (by rfl)) (by rfl))))))))))), ?_⟩
      refine ⟨_, rfl, r, _, _, .int c, rfl, rfl, SqL.of er, rfl, _, _, rfl, rfl, _, rfl, r, _, _, 0, rfl, rfl, er, rfl, ?_⟩
      generalize hH0 : upd H r _ = H0
      have b0 : But [l, r] H H0 := hH0 ▸ but_upd (by simp)
      have r0 : RoomAt H0 r := ⟨c - 1, by rw [← hH0, upd_same]; rfl⟩
      have w0 : WellAt H0 l := by
        obtain ⟨p, q, z, e⟩ := hw
        exact ⟨p, q, z, by rw [← hH0, upd_ne hlr]; exact e⟩
      have fcs : flatT (.tuple (cs.map cD)) = true := by simp only [flatT]; exact flat_cs cs
      have hc0 := Sx.tsame (room_t b0 hw ⟨c, er⟩) _ fcs hc
      refine ⟨_, rfl, l, 8, rfl, by decide, by decide, w0, fun m H1 m0 m1 b1 w1 => ?_⟩
      have r1 := r0.but b1 nrl
      have hc1 := Sx.tsame (well_t b1 w0) _ fcs hc0
      have b01 : But [l, r] H H1 := b0.trans (b1.more (by simp))
      dsimp only [tSeq, tIfS]
      refine rd_orB (b := decide (V.int (deep : Int) = .int 1)) (Pc := fun c => c = false → deep ≠ 1) (fun R hR => ⟨_, rfl, rfl, _, rfl, hR⟩) (fun hb R hR => ⟨_, rfl, _, _, rfl, rfl, _, rfl, hR _ H1 (Same.refl H1) fun _ z => (of_decide_eq_false hb) (by rw [z]; rfl)⟩) (fun _ h => by cases h) (fun c2 H2 s2 hcd => ?_)
      have b02 := b01.trans s2.but
      have w2 := w1.same s2
      have r2 := r1.same s2
      have hc2 := Sx.same s2 _ hc1
      refine ifb (fun _ => ?_) (fun hf => ?_)
      · refine ⟨_, rfl, _, rfl, l, cx, cs, rfl, w2, hc2, hg, fun v d H3 b3 w3 hd hv => q v d H3 (b02.trans (b3.more (by simp))) w3 (r2.but b3 nrl) ?_ hv⟩
        obtain ⟨k, rfl⟩ : ∃ k, deep = k + 1 := ⟨deep - 1, by omega⟩
        exact .inl hd
      · have hd2 : deep ≠ 1 := hcd hf
        obtain ⟨k, rfl⟩ : ∃ k, deep = k + 1 := ⟨deep - 1, by omega⟩
        have ek : ((k + 1 : Nat) : Int) - 1 = (k : Int) := by omega
        refine ⟨_, rfl, rfl, _, rfl, ?_⟩
        refine ifb (fun _ => ?_) (fun _ => ?_)
        · -- not
          obtain ⟨c', er2⟩ := id r2
          refine ⟨_, rfl, r, _, _, .int c', rfl, rfl, SqL.of er2, rfl, _, _, rfl, rfl, _, rfl, ?_⟩
          refine ifb (fun _ => ?_) (fun _ => ?_)
          · refine Md.run ((mk_tup (mkA_cons (mk_str (by decide)) (mkA_cons (mk_tup (mkA_cons (mk_str (by decide)) mkA_nil) (Nat.le_of_ble_eq_true rfl)) mkA_nil)) (Nat.le_of_ble_eq_true rfl)) : Md _ _ H2 (.tuple [.str "not", .tuple [.str "every"]])) fun v H3 s3 hv => q v _ H3 (b02.trans s3.but) (w2.same s3) (r2.same s3) ?_ hv
            obtain ⟨j, rfl⟩ : ∃ j, k = j + 1 := ⟨k - 1, by omega⟩
            exact .inr (.inl ⟨_, rfl, .inl (.inl rfl)⟩)
          · refine ⟨_, rfl, _, rfl, _, rfl, _, _, rfl, rfl, _, rfl, ?_⟩
            dsimp only
            rw [ek]
            refine ⟨l, r, cx, cs, k, rfl, w2, r2, hlr, hc2, hg, by omega, by omega, fun v d H3 b3 w3 r3 hd hv => ?_⟩
            refine ⟨sm (show 2 ≤ 1000 by decide), fun p hp => ?_⟩
            have s4 : Same H3 (upd H3 p (.tup [.str "not", v])) := same_new hp
            exact q _ (.tuple [.str "not", d]) _ ((b02.trans b3).trans s4.but) (w3.same s4) (r3.same s4) (.inr (.inl ⟨d, rfl, hd⟩)) (sx_tup upd_same (sx_cons (sx_str (sm (by decide))) (sx_cons (Sx.same s4 _ hv) sx_nil)))
        · -- and, or
          dsimp only [tNext, tSeq]
          refine ⟨sm (show 0 ≤ 1000 by decide), fun li hli => ?_⟩
          generalize hH3 : upd H2 li _ = H3
          have s3 : Same H2 H3 := hH3 ▸ same_new hli
          have ei : H3 li = some (.lst []) := hH3 ▸ upd_same
          have nil' : li ≠ l := w2.ne hli
          have nir : li ≠ r := r2.ne hli
          have w3 := w2.same s3
          have r3 := r2.same s3
          have hc3 := Sx.same s3 _ hc2
          refine ⟨fun σ' H' => ∃ (v6 : Option V) (ds : List PyData) (ys : List V), σ' = [some (.ref l), some cx, some (.int ((k + 1 : Nat) : Int)), some (.ref r), some (.int m), some (.ref li), v6] ∧ But [li, l, r] H3 H' ∧ WellAt H' l ∧ RoomAt H' r ∧ H' li = some (.lst ys) ∧ SxAll H' ds ys ∧ ds.length ≤ 8 ∧ ∀ e ∈ ds, GsD cs k e, ?_, ?_⟩
          · refine ⟨_, rfl, sm (show 3 ≤ 1000 by decide), fun l3 hl3 => ?_⟩
            generalize hH4 : upd H3 l3 _ = H4
            have s4 : Same H3 H4 := hH4 ▸ same_new hl3
            have e3 : H4 l3 = some (.lst [.int 4, .int 4, .int 9]) := hH4 ▸ upd_same
            have nl3 := w3.ne hl3
            refine ⟨_, rfl, l, 3, rfl, by decide, by decide, w3.same s4, fun n5 H5 n50 n51 b5 w5 => ?_⟩
            obtain ⟨mv, hmv, am, _⟩ := at_of (l := [V.int 4, .int 4, .int 9]) n50 n51
            obtain ⟨m', rfl, hm'⟩ : ∃ m' : Int, mv = .int m' ∧ (m' = 4 ∨ m' = 9) := by
              simp only [List.mem_cons, List.not_mem_nil, or_false] at hmv
              rcases hmv with rfl | rfl | rfl
              · exact ⟨4, rfl, .inl rfl⟩
              · exact ⟨4, rfl, .inl rfl⟩
              · exact ⟨9, rfl, .inr rfl⟩
            refine ⟨l3, _, _, .int m', rfl, rfl, SqL.of (b5 _ _ e3 (by simp [nl3])), am, l, m', rfl, by omega, by omega, w5, fun n6 H6 n60 n61 b6 w6 => ?_⟩
            obtain ⟨j, rfl⟩ : ∃ j : Nat, n6 = (j : Int) := ⟨n6.toNat, by omega⟩
            have hj8 : j ≤ 8 := by omega
            have b36 : But [l] H3 H6 := (s4.but.trans b5).trans b6
            refine ⟨(j : Int), rfl, by omega, by omega, ?_⟩
            rw [Int.toNat_natCast]
            refine for_range (fun i σ' H' => ∃ (v6 : Option V) (ds : List PyData) (ys : List V), σ' = [some (.ref l), some cx, some (.int ((k + 1 : Nat) : Int)), some (.ref r), some (.int m), some (.ref li), v6] ∧ But [li, l, r] H3 H' ∧ WellAt H' l ∧ RoomAt H' r ∧ H' li = some (.lst ys) ∧ SxAll H' ds ys ∧ ds.length ≤ i ∧ ∀ e ∈ ds, GsD cs k e)
              ⟨none, [], [], rfl, b36.more (by simp), w6, r3.but b36 nrl, b36 _ _ ei (by simp [nil']), sx_nil, Nat.le_refl 0, by simp⟩ ?_ ?_
            · rintro i σ' H' hi ⟨v6, ds, ys, rfl, bA, wA, rA, eA, hS, hdl, hds⟩
              obtain ⟨ca, erA⟩ := id rA
              have hyl : ys.length ≤ i := by rw [← hS.len]; exact hdl
              have hcA : Sx H' (.tuple (cs.map cD)) cx := by
                refine Sx.tsame (bA.t fun x hx => ?_) _ fcs hc3
                simp only [List.mem_cons, List.not_mem_nil, or_false] at hx
                rcases hx with rfl | rfl | rfl
                · exact ⟨_, ei⟩
                · obtain ⟨p, q, z, e⟩ := w3; exact ⟨_, e⟩
                · obtain ⟨p, e⟩ := r3; exact ⟨_, e⟩
              refine ⟨_, rfl, r, _, _, .int ca, rfl, rfl, SqL.of erA, rfl, _, _, rfl, rfl, _, rfl, ?_⟩
              refine ifb (fun _ => ?_) (fun _ => ?_)
              · refine ⟨_, rfl, .inl ⟨rfl, _, SqL.of eA⟩, _, rfl, _, rfl, _, rfl, _, _, rfl, rfl, _, rfl, ?_⟩
                dsimp only
                rw [ek]
                refine ⟨l, r, cx, cs, k, rfl, wA, rA, hlr, hcA, hg, by omega, by omega, fun v d H7 b7 w7 r7 hd hv => ?_⟩
                have e7 := b7 _ _ eA (by simp [nil', nir])
                refine ⟨li, ys, v, rfl, rfl, e7, small1000 (by omega), ?_⟩
                generalize hH8 : upd H7 li _ = H8
                have t8 : TSame H7 H8 := hH8 ▸ tsame_lst e7
                have tA : TSame H' H8 := (room_t b7 wA rA).trans t8
                refine ⟨_, ds ++ [d], ys ++ [v], rfl, ?_, ?_, ?_, ?_, ?_, ?_, ?_⟩
                · refine bA.trans ((b7.more (by simp)).trans ?_)
                  rw [← hH8]
                  exact but_upd (by simp)
                · obtain ⟨p, q, z, e⟩ := w7
                  exact ⟨p, q, z, by rw [← hH8, upd_ne nil'.symm]; exact e⟩
                · obtain ⟨p, e⟩ := r7
                  exact ⟨p, by rw [← hH8, upd_ne nir.symm]; exact e⟩
                · rw [← hH8, upd_same]
                · exact SxAll.snoc (SxAll.tsame tA _ (flat_all fun e he => flat_gs (hds e he)) hS) (Sx.tsame t8 _ (flat_gs hd) hv)
                · rw [List.length_append]; show _ + 1 ≤ _; omega
                · intro e he
                  rcases List.mem_append.mp he with h | h
                  · exact hds e h
                  · rw [List.mem_singleton.mp h]; exact hd
              · exact ⟨_, ds, ys, rfl, bA, wA, rA, eA, hS, by omega, hds⟩
            · rintro σ' H' ⟨v6, ds, ys, rfl, bA, wA, rA, eA, hS, hdl, hds⟩
              exact ⟨v6, ds, ys, rfl, bA, wA, rA, eA, hS, by omega, hds⟩
          · rintro σ' H' ⟨v6, ds, ys, rfl, bA, wA, rA, eA, hS, hdl, hds⟩
            refine ⟨sm (show 2 ≤ 1000 by decide), fun l2 hl2 => ?_⟩
            generalize hH7 : upd H' l2 _ = H7
            have s7 : Same H' H7 := hH7 ▸ same_new hl2
            have e2 : H7 l2 = some (.lst [.str "and", .str "or"]) := hH7 ▸ upd_same
            obtain ⟨o, ho, ao⟩ := two (a := "and") (b := "or") (m % 2) (by omega) (by omega)
            refine ⟨_, rfl, _, _, rfl, rfl, (show (0 : Int) < 2 by decide), l2, _, _, .str o, rfl, rfl, SqL.of e2, ao, ?_⟩
            refine ⟨_, rfl, li, ys, rfl, .inl ⟨SqL.of (s7 _ _ eA), fun p hp => ?_⟩⟩
            generalize hH8 : upd H7 p _ = H8
            have s8 : Same H7 H8 := hH8 ▸ same_new hp
            have e8 : H8 p = some (.tup ys) := hH8 ▸ upd_same
            refine ⟨sm (show 2 ≤ 1000 by decide), fun p9 hp9 => ?_⟩
            have s9 : Same H8 (upd H8 p9 (.tup [.str o, .ref p])) := same_new hp9
            have s79 := (s7.trans s8).trans s9
            have zo : o.cps.size ≤ sizeLine := by rcases ho with h | h <;> (rw [h]; exact sm (by decide))
            refine q _ (.tuple [.str o, .tuple ds]) _ ?_ (wA.same s79) (rA.same s79) (.inr (.inr ⟨o, ds, ho, rfl, hdl, hds⟩)) (sx_tup upd_same (sx_cons (sx_str zo) (sx_cons (sx_tup (s9 _ _ e8) (SxAll.same s79 _ hS)) sx_nil)))
            refine (b02.trans ?_).trans s79.but
            exact (s3.but.trans bA).less hli
end
end My
set_option Elab.async false
set_option linter.all false
set_option maxRecDepth 100000
set_option maxHeartbeats 4000000
namespace My
open PySem L2
def Kn (n : Bool) (v : V) : Prop := v = .non ∨ (n = true ∧ ∃ i : Int, v = .int i) ∨ (n = false ∧ ∃ z : Str, v = .str z)
def ltV : V → V → Bool
  | .int i, .int j => decide (i < j)
  | .str a, .str b => sLt a b
  | _, _ => false
def vD : PyData → V
  | .none => .non
  | .int i => .int i
  | .str z => .str z
  | _ => .non
theorem sx_plain {H : Hp} {d : PyData} {v : V} (h : Sx H d v) (p : plainD d = true) : v = vD d := by
  cases d with
  | none => simp only [Sx] at h; subst h; rfl
  | int i => simp only [Sx] at h; subst h; rfl
  | str z => exact h.str.1
  | _ => exact absurd p Bool.false_ne_true
theorem scal_kn {n : Bool} {a b : V} (ha : Kn n a) (hb : Kn n b) : scal a b = true := by
  rcases ha with rfl | ⟨h1, i, rfl⟩ | ⟨h1, z, rfl⟩
  · rcases hb with rfl | ⟨_, j, rfl⟩ | ⟨_, y, rfl⟩ <;> rfl
  · rcases hb with rfl | ⟨_, j, rfl⟩ | ⟨h2, y, rfl⟩
    · rfl
    · rfl
    · rw [h1] at h2; cases h2
  · rcases hb with rfl | ⟨h2, j, rfl⟩ | ⟨_, y, rfl⟩
    · rfl
    · rw [h1] at h2; cases h2
    · rfl
theorem dec_bl (x y : Bool) : decide (V.bl x = V.bl y) = (x == y) := by cases x <;> cases y <;> rfl
theorem dec_str (a b : Str) : decide (V.str a = V.str b) = decide (a = b) := by
  by_cases h : a = b
  · rw [h, decide_eq_true rfl, decide_eq_true rfl]
  · rw [decide_eq_false h, decide_eq_false (fun z => h (V.str.inj z))]
def spNames : Sp := fun vs H Q _ => ∃ a xs kvs, vs = [.ref a] ∧ H a = some (.tup xs) ∧ xs.length ≤ 1000 ∧ Prs H xs kvs ∧ ∀ l, H l = none → Q (.ref l) (upd H l (.lst (kvs.map fun p => .str p.1)))
def spIn : Sp := fun vs H Q _ => ∃ (cx : V) (cs : List (Str × Str)) (a wa : Addr) (k : V) (ws : List V) (i : Nat) (z : Str) (v : V), vs = [cx, .ref a, .str z] ∧ Sx H (.tuple (cs.map cD)) cx ∧ cs.length ≤ 8 ∧ (cs.map Prod.fst).Nodup ∧ (cs.map Prod.fst)[i]? = some z ∧ H a = some (.tup [k, .ref wa]) ∧ H wa = some (.tup ws) ∧ ws[i]? = some v ∧ Q v H
theorem pair_at {H : Hp} {a b : PyData} {v : V} (h : Sx H (.tuple [a, b]) v) : ∃ p x y, v = .ref p ∧ H p = some (.tup [x, y]) ∧ Sx H a x ∧ Sx H b y := by
  obtain ⟨p, ov, rfl, eo, hov⟩ := h.tup
  obtain ⟨x, ov1, rfl, so0, hov1⟩ := hov.cons
  obtain ⟨y, ov2, rfl, so1, hov2⟩ := hov1.cons
  have := hov2.nil
  subst this
  exact ⟨p, x, y, rfl, eo, so0, so1⟩
theorem three_at {H : Hp} {a b c : PyData} {v : V} (h : Sx H (.tuple [a, b, c]) v) : ∃ p x y z, v = .ref p ∧ H p = some (.tup [x, y, z]) ∧ Sx H a x ∧ Sx H b y ∧ Sx H c z := by
  obtain ⟨p, ov, rfl, eo, hov⟩ := h.tup
  obtain ⟨x, ov1, rfl, so0, hov1⟩ := hov.cons
  obtain ⟨y, ov2, rfl, so1, hov2⟩ := hov1.cons
  obtain ⟨z, ov3, rfl, so2, hov3⟩ := hov2.cons
  have := hov3.nil
  subst this
  exact ⟨p, x, y, z, rfl, eo, so0, so1, so2⟩
theorem one_at {H : Hp} {a : PyData} {v : V} (h : Sx H (.tuple [a]) v) : ∃ p x, v = .ref p ∧ H p = some (.tup [x]) ∧ Sx H a x := by
  obtain ⟨p, ov, rfl, eo, hov⟩ := h.tup
  obtain ⟨x, ov1, rfl, so0, hov1⟩ := hov.cons
  have := hov1.nil
  subst this
  exact ⟨p, x, rfl, eo, so0⟩
def startsV : V → V → Bool
  | .str a, .str b => PySem.Txt.startswith a b
  | _, _ => false
def vpassV (o : Str) (a b : V) : Bool := if o = "is" then decide (a = b) else if a = .non then false else if o = "below" then ltV a b else if o = "above" then ltV b a else startsV a b
def pickD (cs : List (Str × Str)) (ws : List PyData) (z : Str) : PyData := (ws[(cs.map Prod.fst).idxOf z]?).getD .none
def rowD (k : Str) (ws : List PyData) : PyData := .tuple [.str k, .tuple ws]
def RowOk (cs : List (Str × Str)) (k : Str) (ws : List PyData) : Prop := ws.length = cs.length ∧ (∀ p ∈ cs.zip ws, valD p.1.2 p.2 = true ∧ plainD p.2 = true) ∧ k ∈ KEYS
def keyIs (k : Str) : PyData → Bool
  | .str z => decide (z = k)
  | _ => false
def tupL : PyData → List PyData
  | .tuple ds => ds
  | _ => []
def passN (cs : List (Str × Str)) (k : Str) (ws : List PyData) : Nat → PyData → Bool
  | n + 1, .tuple [.str _] => true
  | n + 1, .tuple [.str o, e] => if o = "key" then (tupL e).any (keyIs k) else if o = "not" then !passN cs k ws n e else if o = "and" then (tupL e).all (passN cs k ws n) else (tupL e).any (passN cs k ws n)
  | n + 1, .tuple [.str o, .str nm, v] => vpassV o (vD (pickD cs ws nm)) (vD v)
  | _, _ => false
section
variable {cs : List (Str × Str)} {k : Str} {ws : List PyData} {n : Nat}
theorem pass2 (o : Str) (e : PyData) : passN cs k ws (n + 1) (.tuple [.str o, e]) = if o = "key" then (tupL e).any (keyIs k) else if o = "not" then !passN cs k ws n e else if o = "and" then (tupL e).all (passN cs k ws n) else (tupL e).any (passN cs k ws n) := by
  rw [passN]
theorem pass_key (ks : List PyData) : passN cs k ws (n + 1) (.tuple [.str "key", .tuple ks]) = ks.any (keyIs k) := by rw [pass2, if_pos rfl]; rfl
theorem pass_not (e : PyData) : passN cs k ws (n + 1) (.tuple [.str "not", e]) = !passN cs k ws n e := by rw [pass2, if_neg (by decide +kernel), if_pos rfl]
theorem pass_and (ds : List PyData) : passN cs k ws (n + 1) (.tuple [.str "and", .tuple ds]) = ds.all (passN cs k ws n) := by rw [pass2, if_neg (by decide +kernel), if_neg (by decide +kernel), if_pos rfl]; rfl
theorem pass_or (ds : List PyData) : passN cs k ws (n + 1) (.tuple [.str "or", .tuple ds]) = ds.any (passN cs k ws n) := by rw [pass2, if_neg (by decide +kernel), if_neg (by decide +kernel), if_neg (by decide +kernel)]; rfl
end
theorem kn_valD {k : Str} {d : PyData} (h : valD k d = true) : Kn (decide (k = "number")) (vD d) := by
  cases d with
  | none => exact .inl rfl
  | int i => exact .inr (.inl ⟨h, i, rfl⟩)
  | str z =>
    unfold valD at h
    dsimp only at h
    by_cases e : k = "number"
    · rw [if_pos e] at h; cases h
    · exact .inr (.inr ⟨decide_eq_false e, z, rfl⟩)
  | _ => exact absurd h Bool.false_ne_true
theorem vD_non {d : PyData} (hp : plainD d = true) (h : d ≠ .none) : vD d ≠ .non := by
  cases d with
  | none => exact absurd rfl h
  | int i => exact fun z => by cases z
  | str z => exact fun z => by cases z
  | _ => exact absurd hp Bool.false_ne_true
/-- where a column stands -/
theorem col_ix {cs : List (Str × Str)} (hg : Gd cs) {c : Str × Str} (h : c ∈ cs) : ∃ i, (cs.map Prod.fst).idxOf c.1 = i ∧ i < cs.length ∧ cs[i]? = some c ∧ (cs.map Prod.fst)[i]? = some c.1 := by
  have hm : c.1 ∈ cs.map Prod.fst := List.mem_map.mpr ⟨c, h, rfl⟩
  have hi : (cs.map Prod.fst).idxOf c.1 < (cs.map Prod.fst).length := List.idxOf_lt_length_of_mem hm
  have hi' : (cs.map Prod.fst).idxOf c.1 < cs.length := by rw [List.length_map] at hi; exact hi
  have e1 : (cs.map Prod.fst)[(cs.map Prod.fst).idxOf c.1]? = some c.1 := by rw [List.getElem?_eq_getElem hi, List.getElem_idxOf]
  refine ⟨_, rfl, hi', ?_, e1⟩
  obtain ⟨j, ej⟩ := List.getElem?_of_mem h
  have ej1 : (cs.map Prod.fst)[j]? = some c.1 := by rw [List.getElem?_map, ej]; rfl
  obtain ⟨b1, c1⟩ := List.getElem?_eq_some_iff.mp e1
  obtain ⟨b2, c2⟩ := List.getElem?_eq_some_iff.mp ej1
  have := (List.getElem_inj hg.2.1 (h₀ := b1) (h₁ := b2)).mp (c1.trans c2.symm)
  rw [this]
  exact ej
theorem row_at {cs : List (Str × Str)} {k : Str} {ws : List PyData} (hg : Gd cs) (hr : RowOk cs k ws) {c : Str × Str} (h : c ∈ cs) : ∃ (i : Nat) (d : PyData), (cs.map Prod.fst)[i]? = some c.1 ∧ cs[i]? = some c ∧ ws[i]? = some d ∧ pickD cs ws c.1 = d ∧ valD c.2 d = true ∧ plainD d = true := by
  obtain ⟨i, ei, hi, ec, en⟩ := col_ix hg h
  have hiw : i < ws.length := by rw [hr.1]; exact hi
  have ew : ws[i]? = some ws[i] := List.getElem?_eq_getElem hiw
  have hz := hr.2.1 (c, ws[i]) (List.mem_of_getElem? (i := i) (List.getElem?_zip_eq_some.mpr ⟨ec, ew⟩))
  exact ⟨i, ws[i], en, ec, ew, by unfold pickD; rw [ei, ew]; rfl, hz.1, hz.2⟩
def spVP : Sp := fun vs H Q _ => ∃ (o : Str) (a b : V) (n : Bool), vs = [.str o, a, b] ∧ Kn n a ∧ Kn n b ∧ (o ≠ "is" → b ≠ .non) ∧ (o ≠ "is" → o ≠ "below" → o ≠ "above" → n = false) ∧ Q (.bl (vpassV o a b)) H
def spPass (n : Nat) : Sp := fun vs H Q _ => ∃ (cx sx rx : V) (cs : List (Str × Str)) (d : PyData) (k : Str) (ws : List PyData), vs = [cx, sx, rx] ∧ Sx H (.tuple (cs.map cD)) cx ∧ Gd cs ∧ Sx H d sx ∧ GsD cs n d ∧ Sx H (rowD k ws) rx ∧ RowOk cs k ws ∧ Q (.bl (passN cs k ws n d)) H
theorem any_tup {α : Type} {K : PySem.W.Frag} {a : Addr} {xs : List V} {src : List (Option Nat)} {g : TG} {te t0 : TE} {σ : St} {H : Hp} {Q : VK} (ds : List α) (f : α → Bool) (hq : SqT K H a xs) (hl : ds.length = xs.length) (hz : xs.length ≤ sizeLine) (h0 : ∀ R : VK, R (.ref a) H → t0 σ H R)
    (hs : ∀ (i : Nat) (x : V) (d : α), xs[i]? = some x → ds[i]? = some d → ∀ R : VK, R (.bl (f d)) H → g x (pick σ src) H fun σ3 H3 => te σ3 H3 R) (q : ∀ H', Same H H' → Q (.bl (ds.any f)) H') :
    tCB (fun xs H Q => ∃ (a : Addr) (bs : List Bool), xs = [.ref a] ∧ SqL K H a (bs.map V.bl) ∧ Q (.bl (bs.any id)) H) (tCons (tComp (iTup K t0) src g tTrue te) tNil) σ H Q := by
  dsimp only [tCB, tCons, tNil]
  refine rd_comp_tup ds (fun d => .bl (f d)) hq hl hz h0 hs fun D hD => ?_
  refine ⟨D, ds.map f, rfl, SqL.of ?_, ?_⟩
  · rw [upd_same, List.map_map]; rfl
  · rw [List.any_map]
    exact q _ (same_new hD)
theorem key_any {k : Str} (ks : List Str) : (ks.map PyData.str).any (keyIs k) = inV (.str k) (ks.map V.str) := by
  rw [List.any_map]
  unfold inV
  rw [List.any_map]
  refine congrArg (fun f => List.any ks f) (funext fun z => ?_)
  show decide (z = k) = (z == k)
  first | rfl | (rw [Bool.eq_iff_iff]; simp)
section
variable {P : Program} {w : World} {K : PySem.W.Frag} {mg : Str → Option Value} {base : Heap} {t : Adr}
theorem ok_names_of (T : Txt K mg t) : FnOk P w K mg base CX0 1 t.f_names_of t.d_names_of ["columns"] spNames := by
  refine T.F_names_of.ok sc_names_of (fun vs H Q E h => ?_) (fun cdv A outer s H vs Q E hr h => ?_)
  · obtain ⟨a, xs, kvs, rfl, _⟩ := h
    rfl
  · obtain ⟨a, xs, kvs, rfl, e, hz, ⟨hl, hp⟩, q⟩ := h
    refine ⟨_, (@pss_one _ _ _ (@ps_ret _ _ _ _ (@pe_comp _ (["name", "kind"]) ([none, none]) _ _ _ _ _ _ _ _ _ _ (csc (defScope s_names_of) ["columns"] rfl rfl (by decide +kernel)) rfl (@pi_tup _ _ _ _ (@pv _ 0 _ _ (by rfl) (by first | exact Or.inl rfl | exact Or.inr (Or.inl rfl) | exact Or.inr (Or.inr rfl)) (by decide) (by decide))) (fun _ _ _ _ _ => (@pg_tupK _ (K) _ _ _ _ (2) rfl rfl (@pgs_cons _ _ _ _ _ (@pg_name _ _ (0) _ (show (["name", "kind"] : List Str).Nodup by decide +kernel) (by rfl) (by first | exact Or.inl rfl | exact Or.inr rfl) (by first | exact .inl rfl | exact .inr rfl | assumption)) (@pgs_cons _ _ _ _ _ (@pg_name _ _ (1) _ (show (["name", "kind"] : List Str).Nodup by decide +kernel) (by rfl) (by first | exact Or.inl rfl | exact Or.inr rfl) (by first | exact .inl rfl | exact .inr rfl | assumption)) pgs_nil (by rfl)) (by rfl)) (by rfl) (by rfl))) (gx_tup2 rfl rfl) (fun _ _ _ _ _ => pif_nil) (fun _ _ _ _ _ => (@pv _ 0 _ _ (by rfl) (by first | exact Or.inl rfl | exact Or.inr (Or.inl rfl) | exact Or.inr (Or.inr rfl)) (by decide) (by decide))) (by intro _; rfl)))), ?_⟩
    refine rd_comp_tup kvs (fun p => .str p.1) (SqT.of e) hl (sm hz) (fun R hR => ⟨_, rfl, hR⟩) (fun i x p e1 e2 R hR => ?_) q
    obtain ⟨b, rfl, hb⟩ := hp i x p e1 e2
    exact ⟨b, _, rfl, SqT.of hb, rfl, _, _, rfl, _, _, rfl, rfl, _, rfl, hR⟩
theorem ok_value_in (T : Txt K mg t) : FnOk P w K mg base CX0 2 t.f_value_in t.d_value_in ["columns", "row", "name"] spIn := by
  have G_names_of : FnOk P w K mg base CX0 1 t.f_names_of t.d_names_of ["columns"] spNames := ok_names_of T
  refine FnOk.forget (sp := fun vs H Q _ => ∃ (cx : V) (cs : List (Str × Str)) (a wa : Addr) (k : V) (ws : List V) (i : Nat) (z : Str) (v : V), vs = [cx, .ref a, .str z] ∧ Sx H (.tuple (cs.map cD)) cx ∧ cs.length ≤ 8 ∧ (cs.map Prod.fst).Nodup ∧ (cs.map Prod.fst)[i]? = some z ∧ H a = some (.tup [k, .ref wa]) ∧ H wa = some (.tup ws) ∧ ws[i]? = some v ∧ ∀ H', Same H H' → Q v H') ?_
    (fun vs H Q E ⟨cx, cs, a, wa, k, ws, i, z, v, h1, h2, h3, h4, h5, h6, h7, h8, q⟩ => ⟨cx, cs, a, wa, k, ws, i, z, v, h1, h2, h3, h4, h5, h6, h7, h8, fun H' s => ⟨H, Fg.all s, q⟩⟩)
  refine T.F_value_in.ok sc_value_in (fun vs H Q E h => ?_) (fun cdv A outer s H vs Q E hr h => ?_)
  · obtain ⟨cx, cs, a, wa, k, ws, i, z, v, rfl, _⟩ := h
    rfl
  · obtain ⟨cx, cs, a, wa, k, ws, i, z, v, rfl, hc, h8, hnd, hz, ea, ew, ev, q⟩ := h
    obtain ⟨ca, xs, rfl, ec, hl, hall, hp⟩ := cols_at hc
    refine ⟨_, (@pss_one _ _ _ (@ps_ret _ _ _ _ (@pe_ix _ _ _ _ _ _ _ ix_tup (@pe_ix _ _ _ _ _ _ _ ix_tup (@pv _ 1 _ _ (by rfl) (by first | exact Or.inl rfl | exact Or.inr (Or.inl rfl) | exact Or.inr (Or.inr rfl)) (by decide) (by decide)) pe_int (fun _ _ => rfl)) (@pe_bm _ _ _ _ _ _ _ _ _ _ _ _ PySem.F.plainAttrs_list PySem.F.slot_list_index PySem.F.type_list_index mt_lindex (@pe_call _ _ _ _ _ _ _ _ _ _ _ _ _ _ _ _ (G_names_of.mono (by decide)) hr (by rfl) T.mg_names_of T.F_names_of.kp T.b_names_of .nil pass0 (@pa2 _ _ _ _ _ (@pv _ 0 _ _ (by rfl) (by first | exact Or.inl rfl | exact Or.inr (Or.inl rfl) | exact Or.inr (Or.inr rfl)) (by decide) (by decide)) pa_nil (by rfl)) (by decide) (by rfl) (by rfl)) (@pa2 _ _ _ _ _ (@pv _ 2 _ _ (by rfl) (by first | exact Or.inl rfl | exact Or.inr (Or.inl rfl) | exact Or.inr (Or.inr rfl)) (by decide) (by decide)) pa_nil (by rfl)) (by rfl) (by rfl) (by rfl) (by rfl) (by rfl)) (fun _ _ => rfl)))), ?_⟩
    refine ⟨_, rfl, a, _, _, .ref wa, rfl, rfl, SqT.of ea, rfl, _, rfl, ca, xs, _, rfl, ec, by omega, hp, fun l hln => ?_⟩
    generalize hH : upd H l _ = H1
    have s1 : Same H H1 := hH ▸ same_new hln
    have el : H1 l = some (.lst ((cs.map Prod.fst).map V.str)) := by rw [← hH, upd_same, List.map_map, List.map_map]; rfl
    refine ⟨.inl ⟨rfl, _, SqL.of el⟩, _, rfl, l, _, .str z, .str z, i, rfl, rfl, SqL.of el, rfl, ?_, ?_, ?_, ?_, wa, ws, _, v, rfl, rfl, SqT.of (s1 _ _ ew), atI_nat ev, q H1 s1⟩
    · rw [List.all_map]; exact List.all_eq_true.mpr fun _ _ => rfl
    · rw [List.getElem?_map, hz]; rfl
    · show (z == z) = true
      simp
    · intro m u hm hu
      rw [List.getElem?_map] at hu
      cases e : (cs.map Prod.fst)[m]? with
      | none => rw [e] at hu; cases hu
      | some z' =>
        rw [e] at hu
        cases hu
        show (z' == z) = false
        have : z' ≠ z := fun q => by
          subst q
          obtain ⟨b1, c1⟩ := List.getElem?_eq_some_iff.mp e
          obtain ⟨b2, c2⟩ := List.getElem?_eq_some_iff.mp hz
          have := (List.getElem_inj hnd (h₀ := b1) (h₁ := b2)).mp (c1.trans c2.symm)
          omega
        simpa using this
theorem ok_value_passes (T : Txt K mg t) : FnOk P w K mg base CX0 1 t.f_value_passes t.d_value_passes ["word", "value", "told"] spVP := by
  refine T.F_value_passes.ok sc_value_passes (fun vs H Q E h => ?_) (fun cdv A outer s H vs Q E hr h => ?_)
  · obtain ⟨o, a, b, n, rfl, _⟩ := h
    rfl
  · obtain ⟨o, a, b, n, rfl, ka, kb, hb, hn, q⟩ := h
    refine ⟨_, (@pss_cons _ _ _ _ _ (@ps_if _ _ _ _ _ _ _ _ (@pt_cmpR _ _ _ _ _ _ _ _ op_eq (@pv _ 0 _ _ (by rfl) (by first | exact Or.inl rfl | exact Or.inr (Or.inl rfl) | exact Or.inr (Or.inr rfl)) (by decide) (by decide)) pe_str (nomark _)) (@pss_one _ _ _ (@ps_ret _ _ _ _ (@pe_cmpR _ _ _ _ _ _ _ _ op_eq (@pv _ 1 _ _ (by rfl) (by first | exact Or.inl rfl | exact Or.inr (Or.inl rfl) | exact Or.inr (Or.inr rfl)) (by decide) (by decide)) (@pv _ 2 _ _ (by rfl) (by first | exact Or.inl rfl | exact Or.inr (Or.inl rfl) | exact Or.inr (Or.inr rfl)) (by decide) (by decide)) (nomark _)))) pss_nil) (@pss_cons _ _ _ _ _ (@ps_if _ _ _ _ _ _ _ _ (@pt_cmpR _ _ _ _ _ _ _ _ op_isN (@pv _ 1 _ _ (by rfl) (by first | exact Or.inl rfl | exact Or.inr (Or.inl rfl) | exact Or.inr (Or.inr rfl)) (by decide) (by decide)) pe_non (nomark _)) (@pss_one _ _ _ (@ps_ret _ _ _ _ pe_bl)) pss_nil) (@pss_cons _ _ _ _ _ (@ps_if _ _ _ _ _ _ _ _ (@pt_cmpR _ _ _ _ _ _ _ _ op_eq (@pv _ 0 _ _ (by rfl) (by first | exact Or.inl rfl | exact Or.inr (Or.inl rfl) | exact Or.inr (Or.inr rfl)) (by decide) (by decide)) pe_str (nomark _)) (@pss_one _ _ _ (@ps_ret _ _ _ _ (@pe_cmpR _ _ _ _ _ _ _ _ (OpR.or op_lt op_lt_str) (@pv _ 1 _ _ (by rfl) (by first | exact Or.inl rfl | exact Or.inr (Or.inl rfl) | exact Or.inr (Or.inr rfl)) (by decide) (by decide)) (@pv _ 2 _ _ (by rfl) (by first | exact Or.inl rfl | exact Or.inr (Or.inl rfl) | exact Or.inr (Or.inr rfl)) (by decide) (by decide)) (nomark _)))) pss_nil) (@pss_cons _ _ _ _ _ (@ps_if _ _ _ _ _ _ _ _ (@pt_cmpR _ _ _ _ _ _ _ _ op_eq (@pv _ 0 _ _ (by rfl) (by first | exact Or.inl rfl | exact Or.inr (Or.inl rfl) | exact Or.inr (Or.inr rfl)) (by decide) (by decide)) pe_str (nomark _)) (@pss_one _ _ _ (@ps_ret _ _ _ _ (@pe_cmpR _ _ _ _ _ _ _ _ (OpR.or op_gt op_gt_str) (@pv _ 1 _ _ (by rfl) (by first | exact Or.inl rfl | exact Or.inr (Or.inl rfl) | exact Or.inr (Or.inr rfl)) (by decide) (by decide)) (@pv _ 2 _ _ (by rfl) (by first | exact Or.inl rfl | exact Or.inr (Or.inl rfl) | exact Or.inr (Or.inr rfl)) (by decide) (by decide)) (nomark _)))) pss_nil) (@pss_one _ _ _ (@ps_ret _ _ _ _ (@pe_bm _ _ _ _ _ _ _ _ _ _ _ _ PySem.F.plainAttrs_str PySem.F.slot_str_startswith PySem.F.type_str_startswith mt_startswith (@pv _ 1 _ _ (by rfl) (by first | exact Or.inl rfl | exact Or.inr (Or.inl rfl) | exact Or.inr (Or.inr rfl)) (by decide) (by decide)) (@pa2 _ _ _ _ _ (@pv _ 2 _ _ (by rfl) (by first | exact Or.inl rfl | exact Or.inr (Or.inl rfl) | exact Or.inr (Or.inr rfl)) (by decide) (by decide)) pa_nil (by rfl)) (by rfl) (by rfl) (by rfl) (by rfl) (by rfl)))))))), ?_⟩
    unfold vpassV at q
    refine ⟨_, rfl, rfl, _, rfl, ?_⟩
    refine ifb (fun h => ?_) (fun h => ?_)
    · have h : o = "is" := V.str.inj (of_decide_eq_true h)
      rw [if_pos h] at q
      exact ⟨_, rfl, _, rfl, scal_kn ka kb, q⟩
    · have h1 : o ≠ "is" := fun z => (of_decide_eq_false h) (congrArg V.str z)
      rw [if_neg h1] at q
      have hb := hb h1
      refine ⟨_, rfl, rfl, _, rfl, ?_⟩
      refine ifb (fun h => ?_) (fun h => ?_)
      · have h : a = .non := of_decide_eq_true h
        rw [if_pos h] at q
        exact q
      · have ha : ¬ a = .non := of_decide_eq_false h
        rw [if_neg ha] at q
        refine ⟨_, rfl, rfl, _, rfl, ?_⟩
        refine ifb (fun h => ?_) (fun h => ?_)
        · have h : o = "below" := V.str.inj (of_decide_eq_true h)
          rw [if_pos h] at q
          refine ⟨_, rfl, _, rfl, ?_⟩
          rcases ka.resolve_left ha with ⟨t1, i', rfl⟩ | ⟨t1, z1, rfl⟩
          · rcases kb.resolve_left hb with ⟨t2, j', rfl⟩ | ⟨t2, z2, rfl⟩
            · exact .inl ⟨i', j', rfl, rfl, q⟩
            · rw [t1] at t2; cases t2
          · rcases kb.resolve_left hb with ⟨t2, j', rfl⟩ | ⟨t2, z2, rfl⟩
            · rw [t1] at t2; cases t2
            · exact .inr ⟨z1, z2, rfl, rfl, q⟩
        · have h2 : o ≠ "below" := fun z => (of_decide_eq_false h) (congrArg V.str z)
          rw [if_neg h2] at q
          refine ⟨_, rfl, rfl, _, rfl, ?_⟩
          refine ifb (fun h => ?_) (fun h => ?_)
          · have h : o = "above" := V.str.inj (of_decide_eq_true h)
            rw [if_pos h] at q
            refine ⟨_, rfl, _, rfl, ?_⟩
            rcases ka.resolve_left ha with ⟨t1, i', rfl⟩ | ⟨t1, z1, rfl⟩
            · rcases kb.resolve_left hb with ⟨t2, j', rfl⟩ | ⟨t2, z2, rfl⟩
              · exact .inl ⟨i', j', rfl, rfl, q⟩
              · rw [t1] at t2; cases t2
            · rcases kb.resolve_left hb with ⟨t2, j', rfl⟩ | ⟨t2, z2, rfl⟩
              · rw [t1] at t2; cases t2
              · exact .inr ⟨z1, z2, rfl, rfl, q⟩
          · have h3 : o ≠ "above" := fun z => (of_decide_eq_false h) (congrArg V.str z)
            rw [if_neg h3] at q
            have hn := hn h1 h2 h3
            rcases ka.resolve_left ha with ⟨t1, i', rfl⟩ | ⟨t1, z1, rfl⟩
            · rw [hn] at t1; cases t1
            · rcases kb.resolve_left hb with ⟨t2, j', rfl⟩ | ⟨t2, z2, rfl⟩
              · rw [hn] at t2; cases t2
              · exact ⟨_, rfl, rfl, _, rfl, z1, z2, rfl, rfl, q⟩
theorem ok_passes (T : Txt K mg t) : ∀ n : Nat, FnOk P w K mg base CX0 (2 + n) t.f_passes t.d_passes ["columns", "sieve", "row"] (spPass n)
  | 0 => fn_false fun vs H Q E h => by
    obtain ⟨cx, sx, rx, cs, d, k, ws, _, _, _, _, h, _⟩ := h
    exact h
  | n + 1 => by
    have G_value_in : FnOk P w K mg base CX0 2 t.f_value_in t.d_value_in ["columns", "row", "name"] spIn := ok_value_in T
    have G_value_passes : FnOk P w K mg base CX0 1 t.f_value_passes t.d_value_passes ["word", "value", "told"] spVP := ok_value_passes T
    have G_passes : FnOk P w K mg base CX0 (2 + n) t.f_passes t.d_passes ["columns", "sieve", "row"] (spPass n) := ok_passes T n
    refine FnOk.forget (sp := fun vs H Q _ => ∃ (cx sx rx : V) (cs : List (Str × Str)) (d : PyData) (k : Str) (ws : List PyData), vs = [cx, sx, rx] ∧ Sx H (.tuple (cs.map cD)) cx ∧ Gd cs ∧ Sx H d sx ∧ GsD cs (n + 1) d ∧ Sx H (rowD k ws) rx ∧ RowOk cs k ws ∧ ∀ H', Same H H' → Q (.bl (passN cs k ws (n + 1) d)) H') ?_ (fun vs H Q E ⟨cx, sx, rx, cs, d, k, ws, h0, h1, h2, h3, h4, h5, h6, q⟩ => ⟨cx, sx, rx, cs, d, k, ws, h0, h1, h2, h3, h4, h5, h6, fun H' s => ⟨H, Fg.all s, q⟩⟩)
    refine T.F_passes.ok (k := 2 + n) sc_passes (fun vs H Q E h => ?_) (fun cdv A outer s H vs Q E hr h => ?_)
    · obtain ⟨cx, sx, rx, cs, d, k, ws, rfl, _⟩ := h
      rfl
    · obtain ⟨cx, sx, rx, cs, d, k, ws, rfl, hc, hg, hs, hgs, hrow, hok, q⟩ := h
      obtain ⟨ra, kv, wv0, rfl, er, skk, sws⟩ := pair_at hrow
      obtain ⟨rfl, hkz⟩ := skk.str
      obtain ⟨wa, wv, rfl, ew, hwv⟩ := sws.tup
      refine ⟨_, (@pss_cons _ _ _ _ _ (@ps_if _ _ _ _ _ _ _ _ (@pt_cmpR _ _ _ _ _ _ _ _ op_eq (@pe_ix _ _ _ _ _ _ _ ix_tup (@pv _ 1 _ _ (by rfl) (by first | exact Or.inl rfl | exact Or.inr (Or.inl rfl) | exact Or.inr (Or.inr rfl)) (by decide) (by decide)) pe_int (fun _ _ => rfl)) pe_str (nomark _)) (@pss_one _ _ _ (@ps_ret _ _ _ _ pe_bl)) pss_nil) (@pss_cons _ _ _ _ _ (@ps_if _ _ _ _ _ _ _ _ (@pt_cmpR _ _ _ _ _ _ _ _ op_eq (@pe_ix _ _ _ _ _ _ _ ix_tup (@pv _ 1 _ _ (by rfl) (by first | exact Or.inl rfl | exact Or.inr (Or.inl rfl) | exact Or.inr (Or.inr rfl)) (by decide) (by decide)) pe_int (fun _ _ => rfl)) pe_str (nomark _)) (@pss_one _ _ _ (@ps_ret _ _ _ _ (@pe_cmpR _ _ _ _ _ _ _ _ op_in_seq (@pe_ix _ _ _ _ _ _ _ ix_tup (@pv _ 2 _ _ (by rfl) (by first | exact Or.inl rfl | exact Or.inr (Or.inl rfl) | exact Or.inr (Or.inr rfl)) (by decide) (by decide)) pe_int (fun _ _ => rfl)) (@pe_ix _ _ _ _ _ _ _ ix_tup (@pv _ 1 _ _ (by rfl) (by first | exact Or.inl rfl | exact Or.inr (Or.inl rfl) | exact Or.inr (Or.inr rfl)) (by decide) (by decide)) pe_int (fun _ _ => rfl)) rfl))) pss_nil) (@pss_cons _ _ _ _ _ (@ps_if _ _ _ _ _ _ _ _ (@pt_cmpR _ _ _ _ _ _ _ _ op_eq (@pe_ix _ _ _ _ _ _ _ ix_tup (@pv _ 1 _ _ (by rfl) (by first | exact Or.inl rfl | exact Or.inr (Or.inl rfl) | exact Or.inr (Or.inr rfl)) (by decide) (by decide)) pe_int (fun _ _ => rfl)) pe_str (nomark _)) (@pss_one _ _ _ (@ps_ret _ _ _ _ (@pe_not _ _ _ _ (@pe_call _ _ _ _ _ _ _ _ _ _ _ _ _ _ _ _ (G_passes.mono (by omega)) hr (by rfl) T.mg_passes T.F_passes.kp T.b_passes .nil pass0 (@pa2 _ _ _ _ _ (@pv _ 0 _ _ (by rfl) (by first | exact Or.inl rfl | exact Or.inr (Or.inl rfl) | exact Or.inr (Or.inr rfl)) (by decide) (by decide)) (@pa2 _ _ _ _ _ (@pe_ix _ _ _ _ _ _ _ ix_tup (@pv _ 1 _ _ (by rfl) (by first | exact Or.inl rfl | exact Or.inr (Or.inl rfl) | exact Or.inr (Or.inr rfl)) (by decide) (by decide)) pe_int (fun _ _ => rfl)) (@pa2 _ _ _ _ _ (@pv _ 2 _ _ (by rfl) (by first | exact Or.inl rfl | exact Or.inr (Or.inl rfl) | exact Or.inr (Or.inr rfl)) (by decide) (by decide)) pa_nil (by rfl)) (by rfl)) (by rfl)) (by decide) (by rfl) (by rfl))))) pss_nil) (@pss_cons _ _ _ _ _ (@ps_if _ _ _ _ _ _ _ _ (@pt_cmpR _ _ _ _ _ _ _ _ op_eq (@pe_ix _ _ _ _ _ _ _ ix_tup (@pv _ 1 _ _ (by rfl) (by first | exact Or.inl rfl | exact Or.inr (Or.inl rfl) | exact Or.inr (Or.inr rfl)) (by decide) (by decide)) pe_int (fun _ _ => rfl)) pe_str (nomark _)) (@pss_one _ _ _ (@ps_ret _ _ _ _ (@pe_callB _ _ _ _ _ _ _ _ _ (call_all_list rfl) (by rfl) T.n_all bt_all (@pa2 _ _ _ _ _ (@pe_comp _ (["inner", "columns", "row"]) ([none, some 0, some 2]) _ _ _ _ _ _ _ _ _ _ (csc (defScope s_passes) ["columns", "sieve", "row"] rfl rfl (by decide +kernel)) rfl (@pi_tup _ _ _ _ (@pe_ix _ _ _ _ _ _ _ ix_tup (@pv _ 1 _ _ (by rfl) (by first | exact Or.inl rfl | exact Or.inr (Or.inl rfl) | exact Or.inr (Or.inr rfl)) (by decide) (by decide)) pe_int (fun _ _ => rfl))) (fun _ _ _ _ _ => (@pg_name _ _ (0) _ (show (["inner", "columns", "row"] : List Str).Nodup by decide +kernel) (by rfl) (by first | exact Or.inl rfl | exact Or.inr rfl) (by first | exact .inl rfl | exact .inr rfl | assumption))) (gx_name rfl) (fun _ _ _ _ _ => pif_nil) (fun _ _ _ _ _ => (@pe_call _ _ _ _ _ _ _ _ _ _ _ _ _ _ _ _ (G_passes.mono (by omega)) hr (by rfl) T.mg_passes T.F_passes.kp T.b_passes .nil pass0 (@pa2 _ _ _ _ _ (@pv _ 1 _ _ (by rfl) (by first | exact Or.inl rfl | exact Or.inr (Or.inl rfl) | exact Or.inr (Or.inr rfl)) (by decide) (by decide)) (@pa2 _ _ _ _ _ (@pv _ 0 _ _ (by rfl) (by first | exact Or.inl rfl | exact Or.inr (Or.inl rfl) | exact Or.inr (Or.inr rfl)) (by decide) (by decide)) (@pa2 _ _ _ _ _ (@pv _ 2 _ _ (by rfl) (by first | exact Or.inl rfl | exact Or.inr (Or.inl rfl) | exact Or.inr (Or.inr rfl)) (by decide) (by decide)) pa_nil (by rfl)) (by rfl)) (by rfl)) (by decide) (by rfl) (by rfl))) (by intro _; rfl)) pa_nil (by rfl)) (by decide) (by decide) (by rfl) (by rfl)))) pss_nil) (@pss_cons _ _ _ _ _ (@ps_if _ _ _ _ _ _ _ _ (@pt_cmpR _ _ _ _ _ _ _ _ op_eq (@pe_ix _ _ _ _ _ _ _ ix_tup (@pv _ 1 _ _ (by rfl) (by first | exact Or.inl rfl | exact Or.inr (Or.inl rfl) | exact Or.inr (Or.inr rfl)) (by decide) (by decide)) pe_int (fun _ _ => rfl)) pe_str (nomark _)) (@pss_one _ _ _ (@ps_ret _ _ _ _ (@pe_callB _ _ _ _ _ _ _ _ _ (call_any_list rfl) (by rfl) T.n_any bt_any (@pa2 _ _ _ _ _ (@pe_comp _ (["inner", "columns", "row"]) ([none, some 0, some 2]) _ _ _ _ _ _ _ _ _ _ (csc (defScope s_passes) ["columns", "sieve", "row"] rfl rfl (by decide +kernel)) rfl (@pi_tup _ _ _ _ (@pe_ix _ _ _ _ _ _ _ ix_tup (@pv _ 1 _ _ (by rfl) (by first | exact Or.inl rfl | exact Or.inr (Or.inl rfl) | exact Or.inr (Or.inr rfl)) (by decide) (by decide)) pe_int (fun _ _ => rfl))) (fun _ _ _ _ _ => (@pg_name _ _ (0) _ (show (["inner", "columns", "row"] : List Str).Nodup by decide +kernel) (by rfl) (by first | exact Or.inl rfl | exact Or.inr rfl) (by first | exact .inl rfl | exact .inr rfl | assumption))) (gx_name rfl) (fun _ _ _ _ _ => pif_nil) (fun _ _ _ _ _ => (@pe_call _ _ _ _ _ _ _ _ _ _ _ _ _ _ _ _ (G_passes.mono (by omega)) hr (by rfl) T.mg_passes T.F_passes.kp T.b_passes .nil pass0 (@pa2 _ _ _ _ _ (@pv _ 1 _ _ (by rfl) (by first | exact Or.inl rfl | exact Or.inr (Or.inl rfl) | exact Or.inr (Or.inr rfl)) (by decide) (by decide)) (@pa2 _ _ _ _ _ (@pv _ 0 _ _ (by rfl) (by first | exact Or.inl rfl | exact Or.inr (Or.inl rfl) | exact Or.inr (Or.inr rfl)) (by decide) (by decide)) (@pa2 _ _ _ _ _ (@pv _ 2 _ _ (by rfl) (by first | exact Or.inl rfl | exact Or.inr (Or.inl rfl) | exact Or.inr (Or.inr rfl)) (by decide) (by decide)) pa_nil (by rfl)) (by rfl)) (by rfl)) (by decide) (by rfl) (by rfl))) (by intro _; rfl)) pa_nil (by rfl)) (by decide) (by decide) (by rfl) (by rfl)))) pss_nil) (@pss_one _ _ _ (@ps_ret _ _ _ _ (@pe_call _ _ _ _ _ _ _ _ _ _ _ _ _ _ _ _ (G_value_passes.mono (by omega)) hr (by rfl) T.mg_value_passes T.F_value_passes.kp T.b_value_passes .nil pass0 (@pa2 _ _ _ _ _ (@pe_ix _ _ _ _ _ _ _ ix_tup (@pv _ 1 _ _ (by rfl) (by first | exact Or.inl rfl | exact Or.inr (Or.inl rfl) | exact Or.inr (Or.inr rfl)) (by decide) (by decide)) pe_int (fun _ _ => rfl)) (@pa2 _ _ _ _ _ (@pe_call _ _ _ _ _ _ _ _ _ _ _ _ _ _ _ _ (G_value_in.mono (by omega)) hr (by rfl) T.mg_value_in T.F_value_in.kp T.b_value_in .nil pass0 (@pa2 _ _ _ _ _ (@pv _ 0 _ _ (by rfl) (by first | exact Or.inl rfl | exact Or.inr (Or.inl rfl) | exact Or.inr (Or.inr rfl)) (by decide) (by decide)) (@pa2 _ _ _ _ _ (@pv _ 2 _ _ (by rfl) (by first | exact Or.inl rfl | exact Or.inr (Or.inl rfl) | exact Or.inr (Or.inr rfl)) (by decide) (by decide)) (@pa2 _ _ _ _ _ (@pe_ix _ _ _ _ _ _ _ ix_tup (@pv _ 1 _ _ (by rfl) (by first | exact Or.inl rfl | exact Or.inr (Or.inl rfl) | exact Or.inr (Or.inr rfl)) (by decide) (by decide)) pe_int (fun _ _ => rfl)) pa_nil (by rfl)) (by rfl)) (by rfl)) (by decide) (by rfl) (by rfl)) (@pa2 _ _ _ _ _ (@pe_ix _ _ _ _ _ _ _ ix_tup (@pv _ 1 _ _ (by rfl) (by first | exact Or.inl rfl | exact Or.inr (Or.inl rfl) | exact Or.inr (Or.inr rfl)) (by decide) (by decide)) pe_int (fun _ _ => rfl)) pa_nil (by rfl)) (by rfl)) (by rfl)) (by decide) (by rfl) (by rfl))))))))), ?_⟩
      rcases hgs with hleaf | ⟨e, rfl, he⟩ | ⟨o, ds, ho, rfl, hd8, hds⟩
      · rcases hleaf with rfl | ⟨ks, rfl, hk8, hks⟩ | ⟨c, v, hcm, hpl, hv, hd⟩
        · obtain ⟨sa, x0, rfl, es, sx0⟩ := one_at hs
          obtain ⟨rfl, _⟩ := sx0.str
          refine ⟨_, rfl, sa, _, _, .str "every", rfl, rfl, SqT.of es, rfl, rfl, true, (by decide +kernel), iteT ?_⟩
          exact q H (Same.refl H)
        · obtain ⟨sa, x0, x1, rfl, es, sx0, sx1⟩ := pair_at hs
          obtain ⟨rfl, _⟩ := sx0.str
          obtain ⟨ka, kv', rfl, eka, hkv⟩ := sx1.tup
          refine ⟨_, rfl, sa, _, _, .str "key", rfl, rfl, SqT.of es, rfl, rfl, false, (by decide +kernel), iteF ?_⟩
          refine ⟨_, rfl, sa, _, _, .str "key", rfl, rfl, SqT.of es, rfl, rfl, true, (by decide +kernel), iteT ?_⟩
          have ekv : kv' = ks.map V.str := by
            clear hks hk8 q hs es sx1 eka sx0
            induction ks generalizing kv' with
            | nil => exact hkv.nil
            | cons z zs ih =>
              rw [List.map_cons] at hkv
              obtain ⟨y, ys, rfl, h1, h2⟩ := hkv.cons
              rw [List.map_cons, h1.str.1, ih ys h2]
          refine ⟨_, rfl, ra, _, _, .str k, rfl, rfl, SqT.of er, rfl, _, rfl, sa, _, _, .ref ka, rfl, rfl, SqT.of es, rfl, ka, kv', rfl, .inr (SqT.of eka), rfl, ?_, ?_⟩
          · rw [ekv, List.all_map]; exact List.all_eq_true.mpr fun _ _ => rfl
          · have := q H (Same.refl H)
            have e1 : passN cs k ws (n + 1) (.tuple [.str "key", .tuple (ks.map .str)]) = inV (.str k) (ks.map V.str) := by
              rw [← key_any, pass_key]
            rw [e1] at this
            rw [ekv]
            exact this
        · obtain ⟨i, d', en, ec', ewd, epick, hval, hplain⟩ := row_at hg hok hcm
          have hi : i < wv.length := by rw [← hwv.len]; exact (List.getElem?_eq_some_iff.mp ewd).1
          have ewv : wv[i]? = some wv[i] := List.getElem?_eq_getElem hi
          have ev : wv[i] = vD d' := sx_plain (SxAll.get i hwv ewv ewd) hplain
          have ewv' : wv[i]? = some (vD d') := by rw [ewv, ev]
          have kn1 := kn_valD hval
          have kn2 := kn_valD hv
          have fin : ∀ (o : Str), o ≠ "every" → o ≠ "key" → o ≠ "not" → o ≠ "and" → o ≠ "or" → (o ≠ "is" → v ≠ .none) → (o ≠ "is" → o ≠ "below" → o ≠ "above" → c.2 = "word") → d = .tuple [.str o, .str c.1, v] → True := fun _ _ _ _ _ _ _ _ _ => True.intro
          rcases hd with rfl | ⟨hvn, rfl | rfl | ⟨hwd, rfl⟩⟩
          · skip
            obtain ⟨sa, x0, x1, x2, rfl, es, sx0, sx1, sx2⟩ := three_at hs
            obtain ⟨rfl, _⟩ := sx0.str
            obtain ⟨rfl, _⟩ := sx1.str
            have e2 := sx_plain sx2 hpl
            subst e2
            refine ⟨_, rfl, sa, _, _, .str "is", rfl, rfl, SqT.of es, rfl, rfl, false, (by decide +kernel), iteF ?_⟩
            refine ⟨_, rfl, sa, _, _, .str "is", rfl, rfl, SqT.of es, rfl, rfl, false, (by decide +kernel), iteF ?_⟩
            refine ⟨_, rfl, sa, _, _, .str "is", rfl, rfl, SqT.of es, rfl, rfl, false, (by decide +kernel), iteF ?_⟩
            refine ⟨_, rfl, sa, _, _, .str "is", rfl, rfl, SqT.of es, rfl, rfl, false, (by decide +kernel), iteF ?_⟩
            refine ⟨_, rfl, sa, _, _, .str "is", rfl, rfl, SqT.of es, rfl, rfl, false, (by decide +kernel), iteF ?_⟩
            refine ⟨_, rfl, sa, _, _, .str "is", rfl, rfl, SqT.of es, rfl, _, rfl, _, rfl, _, rfl, sa, _, _, .str c.1, rfl, rfl, SqT.of es, rfl, cx, cs, ra, wa, .str k, wv, i, c.1, vD d', rfl, hc, hg.1, hg.2.1, en, er, ew, ewv', ?_⟩
            refine ⟨_, rfl, sa, _, _, vD v, rfl, rfl, SqT.of es, rfl, "is", vD d', vD v, _, rfl, kn1, kn2, (fun h => absurd rfl h), (fun h => absurd rfl h), ?_⟩
            have := q H (Same.refl H)
            have e1 : passN cs k ws (n + 1) (.tuple [.str "is", .str c.1, v]) = vpassV "is" (vD d') (vD v) := by rw [← epick]; rfl
            rw [e1] at this
            exact this
          · skip
            obtain ⟨sa, x0, x1, x2, rfl, es, sx0, sx1, sx2⟩ := three_at hs
            obtain ⟨rfl, _⟩ := sx0.str
            obtain ⟨rfl, _⟩ := sx1.str
            have e2 := sx_plain sx2 hpl
            subst e2
            refine ⟨_, rfl, sa, _, _, .str "below", rfl, rfl, SqT.of es, rfl, rfl, false, (by decide +kernel), iteF ?_⟩
            refine ⟨_, rfl, sa, _, _, .str "below", rfl, rfl, SqT.of es, rfl, rfl, false, (by decide +kernel), iteF ?_⟩
            refine ⟨_, rfl, sa, _, _, .str "below", rfl, rfl, SqT.of es, rfl, rfl, false, (by decide +kernel), iteF ?_⟩
            refine ⟨_, rfl, sa, _, _, .str "below", rfl, rfl, SqT.of es, rfl, rfl, false, (by decide +kernel), iteF ?_⟩
            refine ⟨_, rfl, sa, _, _, .str "below", rfl, rfl, SqT.of es, rfl, rfl, false, (by decide +kernel), iteF ?_⟩
            refine ⟨_, rfl, sa, _, _, .str "below", rfl, rfl, SqT.of es, rfl, _, rfl, _, rfl, _, rfl, sa, _, _, .str c.1, rfl, rfl, SqT.of es, rfl, cx, cs, ra, wa, .str k, wv, i, c.1, vD d', rfl, hc, hg.1, hg.2.1, en, er, ew, ewv', ?_⟩
            refine ⟨_, rfl, sa, _, _, vD v, rfl, rfl, SqT.of es, rfl, "below", vD d', vD v, _, rfl, kn1, kn2, (fun _ => vD_non hpl hvn), (fun _ h => absurd rfl h), ?_⟩
            have := q H (Same.refl H)
            have e1 : passN cs k ws (n + 1) (.tuple [.str "below", .str c.1, v]) = vpassV "below" (vD d') (vD v) := by rw [← epick]; rfl
            rw [e1] at this
            exact this
          · skip
            obtain ⟨sa, x0, x1, x2, rfl, es, sx0, sx1, sx2⟩ := three_at hs
            obtain ⟨rfl, _⟩ := sx0.str
            obtain ⟨rfl, _⟩ := sx1.str
            have e2 := sx_plain sx2 hpl
            subst e2
            refine ⟨_, rfl, sa, _, _, .str "above", rfl, rfl, SqT.of es, rfl, rfl, false, (by decide +kernel), iteF ?_⟩
            refine ⟨_, rfl, sa, _, _, .str "above", rfl, rfl, SqT.of es, rfl, rfl, false, (by decide +kernel), iteF ?_⟩
            refine ⟨_, rfl, sa, _, _, .str "above", rfl, rfl, SqT.of es, rfl, rfl, false, (by decide +kernel), iteF ?_⟩
            refine ⟨_, rfl, sa, _, _, .str "above", rfl, rfl, SqT.of es, rfl, rfl, false, (by decide +kernel), iteF ?_⟩
            refine ⟨_, rfl, sa, _, _, .str "above", rfl, rfl, SqT.of es, rfl, rfl, false, (by decide +kernel), iteF ?_⟩
            refine ⟨_, rfl, sa, _, _, .str "above", rfl, rfl, SqT.of es, rfl, _, rfl, _, rfl, _, rfl, sa, _, _, .str c.1, rfl, rfl, SqT.of es, rfl, cx, cs, ra, wa, .str k, wv, i, c.1, vD d', rfl, hc, hg.1, hg.2.1, en, er, ew, ewv', ?_⟩
            refine ⟨_, rfl, sa, _, _, vD v, rfl, rfl, SqT.of es, rfl, "above", vD d', vD v, _, rfl, kn1, kn2, (fun _ => vD_non hpl hvn), (fun _ _ h => absurd rfl h), ?_⟩
            have := q H (Same.refl H)
            have e1 : passN cs k ws (n + 1) (.tuple [.str "above", .str c.1, v]) = vpassV "above" (vD d') (vD v) := by rw [← epick]; rfl
            rw [e1] at this
            exact this
          · skip
            obtain ⟨sa, x0, x1, x2, rfl, es, sx0, sx1, sx2⟩ := three_at hs
            obtain ⟨rfl, _⟩ := sx0.str
            obtain ⟨rfl, _⟩ := sx1.str
            have e2 := sx_plain sx2 hpl
            subst e2
            refine ⟨_, rfl, sa, _, _, .str "begins", rfl, rfl, SqT.of es, rfl, rfl, false, (by decide +kernel), iteF ?_⟩
            refine ⟨_, rfl, sa, _, _, .str "begins", rfl, rfl, SqT.of es, rfl, rfl, false, (by decide +kernel), iteF ?_⟩
            refine ⟨_, rfl, sa, _, _, .str "begins", rfl, rfl, SqT.of es, rfl, rfl, false, (by decide +kernel), iteF ?_⟩
            refine ⟨_, rfl, sa, _, _, .str "begins", rfl, rfl, SqT.of es, rfl, rfl, false, (by decide +kernel), iteF ?_⟩
            refine ⟨_, rfl, sa, _, _, .str "begins", rfl, rfl, SqT.of es, rfl, rfl, false, (by decide +kernel), iteF ?_⟩
            refine ⟨_, rfl, sa, _, _, .str "begins", rfl, rfl, SqT.of es, rfl, _, rfl, _, rfl, _, rfl, sa, _, _, .str c.1, rfl, rfl, SqT.of es, rfl, cx, cs, ra, wa, .str k, wv, i, c.1, vD d', rfl, hc, hg.1, hg.2.1, en, er, ew, ewv', ?_⟩
            refine ⟨_, rfl, sa, _, _, vD v, rfl, rfl, SqT.of es, rfl, "begins", vD d', vD v, _, rfl, kn1, kn2, (fun _ => vD_non hpl hvn), (fun _ _ _ => by rw [hwd]; decide +kernel), ?_⟩
            have := q H (Same.refl H)
            have e1 : passN cs k ws (n + 1) (.tuple [.str "begins", .str c.1, v]) = vpassV "begins" (vD d') (vD v) := by rw [← epick]; rfl
            rw [e1] at this
            exact this
      · obtain ⟨sa, x0, x1, rfl, es, sx0, sx1⟩ := pair_at hs
        obtain ⟨rfl, _⟩ := sx0.str
        refine ⟨_, rfl, sa, _, _, .str "not", rfl, rfl, SqT.of es, rfl, rfl, false, (by decide +kernel), iteF ?_⟩
        refine ⟨_, rfl, sa, _, _, .str "not", rfl, rfl, SqT.of es, rfl, rfl, false, (by decide +kernel), iteF ?_⟩
        refine ⟨_, rfl, sa, _, _, .str "not", rfl, rfl, SqT.of es, rfl, rfl, true, (by decide +kernel), iteT ?_⟩
        exact ⟨_, rfl, _, rfl, sa, _, _, x1, rfl, rfl, SqT.of es, rfl, _, rfl, cx, x1, .ref ra, cs, e, k, ws, rfl, hc, hg, sx1, he, hrow, hok, _, rfl, by have := q H (Same.refl H); rw [pass_not] at this; exact this⟩
      · obtain ⟨sa, x0, x1, rfl, es, sx0, sx1⟩ := pair_at hs
        obtain ⟨rfl, _⟩ := sx0.str
        obtain ⟨da, dv, rfl, eda, hdv⟩ := sx1.tup
        have hdl := hdv.len
        rcases ho with rfl | rfl
        · skip
          refine ⟨_, rfl, sa, _, _, .str "and", rfl, rfl, SqT.of es, rfl, rfl, false, (by decide +kernel), iteF ?_⟩
          refine ⟨_, rfl, sa, _, _, .str "and", rfl, rfl, SqT.of es, rfl, rfl, false, (by decide +kernel), iteF ?_⟩
          refine ⟨_, rfl, sa, _, _, .str "and", rfl, rfl, SqT.of es, rfl, rfl, false, (by decide +kernel), iteF ?_⟩
          refine ⟨_, rfl, sa, _, _, .str "and", rfl, rfl, SqT.of es, rfl, rfl, true, (by decide +kernel), iteT ?_⟩
          dsimp only [tRet]
          refine all_tup ds (passN cs k ws n) (SqT.of eda) hdl (sm (by omega)) (fun R hR => ⟨_, rfl, sa, _, _, .ref da, rfl, rfl, SqT.of es, rfl, hR⟩) (fun i x d e1 e2 R hR => ?_) (fun H' s' => by have := q H' s'; rw [pass_and] at this; exact this)
          exact ⟨_, rfl, _, rfl, _, rfl, cx, x, .ref ra, cs, d, k, ws, rfl, hc, hg, SxAll.get i hdv e1 e2, hds d (List.mem_of_getElem? e2), hrow, hok, hR⟩
        · skip
          refine ⟨_, rfl, sa, _, _, .str "or", rfl, rfl, SqT.of es, rfl, rfl, false, (by decide +kernel), iteF ?_⟩
          refine ⟨_, rfl, sa, _, _, .str "or", rfl, rfl, SqT.of es, rfl, rfl, false, (by decide +kernel), iteF ?_⟩
          refine ⟨_, rfl, sa, _, _, .str "or", rfl, rfl, SqT.of es, rfl, rfl, false, (by decide +kernel), iteF ?_⟩
          refine ⟨_, rfl, sa, _, _, .str "or", rfl, rfl, SqT.of es, rfl, rfl, false, (by decide +kernel), iteF ?_⟩
          refine ⟨_, rfl, sa, _, _, .str "or", rfl, rfl, SqT.of es, rfl, rfl, true, (by decide +kernel), iteT ?_⟩
          dsimp only [tRet]
          refine any_tup ds (passN cs k ws n) (SqT.of eda) hdl (sm (by omega)) (fun R hR => ⟨_, rfl, sa, _, _, .ref da, rfl, rfl, SqT.of es, rfl, hR⟩) (fun i x d e1 e2 R hR => ?_) (fun H' s' => by have := q H' s'; rw [pass_or] at this; exact this)
          exact ⟨_, rfl, _, rfl, _, rfl, cx, x, .ref ra, cs, d, k, ws, rfl, hc, hg, SxAll.get i hdv e1 e2, hds d (List.mem_of_getElem? e2), hrow, hok, hR⟩
end
end My
set_option Elab.async false
set_option linter.all false
set_option maxRecDepth 100000
set_option maxHeartbeats 4000000
namespace My
open PySem L2
theorem slice_take (x : Str) (n : Nat) : (PySem.Txt.slice x none (some (n : Int))).cps.toList = x.cps.toList.take n := by
  have e1 : PySem.Builtin.Str.strSliceIndices none (some (n : Int)) 1 x.length = PySem.Builtin.Str.strSliceIndices (some ((0 : Nat) : Int)) (some ((min n x.length : Nat) : Int)) 1 x.length := by
    unfold PySem.Builtin.Str.strSliceIndices
    have h1 : ((1 : Int) > 0) = True := by simp
    simp only [h1, if_true]
    have a1 : ¬ ((n : Int) < 0) := by omega
    have a2 : ¬ (((min n x.length : Nat) : Int) < 0) := by omega
    have a3 : ¬ (((0 : Nat) : Int) < 0) := by omega
    simp only [a1, a2, a3, if_false]
    have b1 : max 0 (min ((0 : Nat) : Int) (x.length : Int)) = 0 := by omega
    have b2 : max 0 (min (n : Int) (x.length : Int)) = max 0 (min ((min n x.length : Nat) : Int) (x.length : Int)) := by omega
    rw [b1, b2]
  have e2 : (PySem.Builtin.Str.strSliceIndices none (some (n : Int)) 1 x.length).filterMap (x.cps[·]?) = x.cps.toList.take n := by
    rw [e1, StrLaws.sliced_plain x (Nat.zero_le _) (Nat.min_le_right _ _), List.drop_zero, Nat.sub_zero]
    by_cases h : n ≤ x.length
    · rw [Nat.min_eq_left h]
    · have hl : x.cps.toList.length = x.length := Array.length_toList
      rw [Nat.min_eq_right (by omega), List.take_of_length_le (by omega), List.take_of_length_le (by omega)]
  unfold PySem.Txt.slice
  split
  · next h =>
    simp only [Bool.and_eq_true, beq_iff_eq] at h
    rw [e1, StrLaws.strSliceIndices_plain (Nat.zero_le _) (Nat.min_le_right _ _), List.length_map, List.length_range] at h
    have hl : x.cps.toList.length = x.length := Array.length_toList
    rw [List.take_of_length_le (by omega)]
  · rw [e2]
theorem row_vals {H : Hp} {cs : List (Str × Str)} {k : Str} {ws : List PyData} {wv : List V} (hok : RowOk cs k ws) (h : SxAll H ws wv) : wv = ws.map vD := by
  have hp : ∀ d ∈ ws, plainD d = true := fun d hd => by
    obtain ⟨i, ei⟩ := List.getElem?_of_mem hd
    have hi := (List.getElem?_eq_some_iff.mp ei).1
    have ec : cs[i]? = some (cs[i]'(by have := hok.1; omega)) := List.getElem?_eq_getElem _
    exact (hok.2.1 (cs[i]'(by have := hok.1; omega), d) (List.mem_of_getElem? (i := i) (List.getElem?_zip_eq_some.mpr ⟨ec, ei⟩))).2
  clear hok
  induction ws generalizing wv with
  | nil => rw [h.nil]; rfl
  | cons d ds ih =>
    obtain ⟨y, ys, rfl, h1, h2⟩ := h.cons
    rw [List.map_cons, sx_plain h1 (hp d List.mem_cons_self), ih h2 fun e he => hp e (List.mem_cons_of_mem _ he)]
theorem lay_all {ds : List PyData} (h : ∀ d ∈ ds, PyData.canLay0 d = true) : PyData.canLayAll0 ds = true := by
  induction ds with
  | nil => simp only [PyData.canLayAll0]
  | cons d ds ih =>
    simp only [PyData.canLayAll0, Bool.and_eq_true]
    exact ⟨h d List.mem_cons_self, ih fun e he => h e (List.mem_cons_of_mem _ he)⟩
theorem str_small {k : Str} {d : PyData} {z : Str} (h : valD k d = true) (e : vD d = .str z) : z.cps.size ≤ sizeLine := by
  cases d with
  | str y =>
    have e : y = z := V.str.inj e
    subst e
    unfold valD at h
    dsimp only at h
    by_cases hk : k = "number"
    · rw [if_pos hk] at h; cases h
    · rw [if_neg hk] at h
      unfold wordV at h
      dsimp only at h
      rw [Bool.and_eq_true] at h
      exact sm (Nat.le_trans (of_decide_eq_true h.1) (by decide))
  | _ => cases e
theorem sx_of {k : Str} {d : PyData} {H : Hp} (hv : valD k d = true) (hp : plainD d = true) : Sx H d (vD d) := by
  cases d with
  | none => exact sx_non
  | int i => exact sx_int i
  | str z => exact sx_str (str_small hv rfl)
  | _ => exact absurd hp Bool.false_ne_true
theorem word_small {z : Str} (h : wordV (.str z) = true) : z.cps.size ≤ sizeLine := by
  unfold wordV at h
  dsimp only at h
  rw [Bool.and_eq_true] at h
  exact sm (Nat.le_trans (of_decide_eq_true h.1) (by decide))
theorem slice_word {z : Str} (m : Nat) (h : wordV (.str z) = true) : wordV (.str (PySem.Txt.slice z none (some (m : Int)))) = true := by
  unfold wordV at h ⊢
  dsimp only at h ⊢
  rw [Bool.and_eq_true] at h ⊢
  have hs := slice_take z m
  have hl : z.cps.toList.length = z.cps.size := Array.length_toList
  have hz := of_decide_eq_true h.1
  refine ⟨decide_eq_true ?_, ?_⟩
  · rw [← Array.length_toList, hs, List.length_take]
    omega
  · rw [hs, List.all_eq_true]
    exact fun c hc => List.all_eq_true.mp h.2 c (List.mem_of_mem_take hc)
theorem row_plain {cs : List (Str × Str)} {k : Str} {ws : List PyData} (hok : RowOk cs k ws) : ∀ d ∈ ws, plainD d = true := fun d hd => by
  obtain ⟨i, ei⟩ := List.getElem?_of_mem hd
  have hi := (List.getElem?_eq_some_iff.mp ei).1
  have ec : cs[i]? = some (cs[i]'(by have := hok.1; omega)) := List.getElem?_eq_getElem _
  exact (hok.2.1 (cs[i]'(by have := hok.1; omega), d) (List.mem_of_getElem? (i := i) (List.getElem?_zip_eq_some.mpr ⟨ec, ei⟩))).2
theorem flat_row {cs : List (Str × Str)} {k : Str} {ws : List PyData} (hok : RowOk cs k ws) : flatT (rowD k ws) = true := by
  have e : flatTs ws = true := flat_all fun d hd => flat_plain (row_plain hok d hd)
  unfold rowD
  simp [flatT, flatTs, e]
theorem str_of {a b : Str} (h : a.cps.toList = b.cps.toList) : a = b := by
  obtain ⟨x⟩ := a
  obtain ⟨y⟩ := b
  exact congrArg Str.mk (Array.ext' h)
theorem sLt_irr (a : Str) : sLt a a = false := decide_eq_false (List.lt_irrefl _)
theorem sLt_tri {a b : Str} (h : a ≠ b) : sLt a b = !sLt b a := by
  unfold sLt
  rw [Bool.eq_iff_iff]
  simp only [decide_eq_true_iff, Bool.not_eq_true', decide_eq_false_iff_not]
  constructor
  · exact fun h1 h2 => List.lt_irrefl _ (List.lt_trans h1 h2)
  · intro h1
    by_cases h2 : a.cps.toList < b.cps.toList
    · exact h2
    · exact absurd (str_of (List.le_antisymm (List.not_lt.mp h1) (List.not_lt.mp h2))) h
theorem lt_tri {n : Bool} {a b : V} (ha : Kn n a) (hb : Kn n b) (ha0 : a ≠ .non) (hb0 : b ≠ .non) (h : a ≠ b) : ltV a b = !ltV b a := by
  rcases ha.resolve_left ha0 with ⟨h1, i, rfl⟩ | ⟨h1, z, rfl⟩
  · rcases hb.resolve_left hb0 with ⟨h2, j, rfl⟩ | ⟨h2, z, rfl⟩
    · have hij : i ≠ j := fun e => h (congrArg V.int e)
      show decide (i < j) = !decide (j < i)
      rw [Bool.eq_iff_iff]
      simp only [decide_eq_true_iff, Bool.not_eq_true', decide_eq_false_iff_not]
      omega
    · rw [h1] at h2; cases h2
  · rcases hb.resolve_left hb0 with ⟨h2, j, rfl⟩ | ⟨h2, z', rfl⟩
    · rw [h1] at h2; cases h2
    · exact sLt_tri fun e => h (congrArg V.str e)
theorem starts_iff (x y : Str) : PySem.Txt.startswith x y = true ↔ ∃ r, x.cps.toList = y.cps.toList ++ r := by
  unfold PySem.Txt.startswith
  rw [StrLaws.subAt_eq, List.drop_zero, Nat.zero_add]
  simp only [Bool.and_eq_true, decide_eq_true_iff, beq_iff_eq]
  have hl : y.cps.toList.length = y.length := Array.length_toList
  have hl2 : x.cps.toList.length = x.length := Array.length_toList
  constructor
  · rintro ⟨_, h⟩
    exact ⟨x.cps.toList.drop y.length, by rw [← h, List.take_append_drop]⟩
  · rintro ⟨r, h⟩
    refine ⟨?_, ?_⟩
    · have := congrArg List.length h
      rw [List.length_append] at this
      omega
    · rw [h, ← hl, List.take_left]
theorem app_not_lt : ∀ (y r : List Nat), ¬ (y ++ r < y)
  | [], r => by simp
  | a :: y, r => by
    rw [List.cons_append, List.cons_lt_cons_iff]
    rintro (h | ⟨_, h⟩)
    · omega
    · exact app_not_lt y r h
theorem starts_lt {a b : Str} (h : PySem.Txt.startswith a b = true) : sLt a b = false := by
  obtain ⟨r, e⟩ := (starts_iff a b).mp h
  unfold sLt
  rw [e]
  exact decide_eq_false (app_not_lt _ _)
theorem starts_cut {a b : Str} (m : Nat) (h : PySem.Txt.startswith a b = true) : PySem.Txt.startswith a (PySem.Txt.slice b none (some (m : Int))) = true := by
  obtain ⟨r, e⟩ := (starts_iff a b).mp h
  refine (starts_iff _ _).mpr ⟨b.cps.toList.drop m ++ r, ?_⟩
  rw [slice_take, e, ← List.append_assoc, List.take_append_drop]
theorem starts_self (a : Str) : PySem.Txt.startswith a a = true := (starts_iff a a).mpr ⟨[], by simp⟩
section
variable {a b : V}
theorem vp_is : vpassV "is" a b = decide (a = b) := by unfold vpassV; rw [if_pos rfl]
theorem vp_below : vpassV "below" a b = if a = .non then false else ltV a b := by unfold vpassV; rw [if_neg (by decide +kernel), if_pos rfl]
theorem vp_above : vpassV "above" a b = if a = .non then false else ltV b a := by unfold vpassV; rw [if_neg (by decide +kernel : ¬ (("above" : Str) = "is")), if_neg (by decide +kernel : ¬ (("above" : Str) = "below")), if_pos (rfl : ("above" : Str) = "above")]
theorem vp_begins : vpassV "begins" a b = if a = .non then false else startsV a b := by unfold vpassV; rw [if_neg (by decide +kernel : ¬ (("begins" : Str) = "is")), if_neg (by decide +kernel : ¬ (("begins" : Str) = "below")), if_neg (by decide +kernel : ¬ (("begins" : Str) = "above"))]
end
theorem ltV_irr (a : V) : ltV a a = false := by
  cases a with
  | int i => simp [ltV]
  | str z => exact sLt_irr z
  | _ => rfl
/-- just one of four -/
theorem one_of {n : Bool} {a b : V} (ha : Kn n a) (hb : Kn n b) (hb0 : b ≠ .non) : [vpassV "is" a .non, vpassV "below" a b, vpassV "is" a b, vpassV "above" a b].count true = 1 := by
  rw [vp_is, vp_is, vp_below, vp_above]
  by_cases ha0 : a = .non
  · have hab : a ≠ b := fun z => hb0 (z ▸ ha0)
    rw [decide_eq_true ha0, if_pos ha0, if_pos ha0, decide_eq_false hab]
    rfl
  · rw [decide_eq_false ha0, if_neg ha0, if_neg ha0]
    by_cases hab : a = b
    · rw [decide_eq_true hab, hab, ltV_irr]
      rfl
    · rw [decide_eq_false hab, lt_tri ha hb ha0 hb0 hab]
      cases ltV b a <;> rfl
def spSplit : Sp := fun vs H Q _ => ∃ (cx rx b : V) (cs : List (Str × Str)) (k : Str) (ws : List PyData) (c : Str × Str) (v : PyData), vs = [cx, rx, .str c.1, b] ∧ Sx H (.tuple (cs.map cD)) cx ∧ Gd cs ∧ Sx H (rowD k ws) rx ∧ RowOk cs k ws ∧ c ∈ cs ∧ Sx H v b ∧ valD c.2 v = true ∧ plainD v = true ∧ v ≠ .none ∧ Q (.bl true) H
def spVR : Sp := fun vs H Q _ => ∃ (cx rx : V) (l : Addr) (cs : List (Str × Str)) (k : Str) (ws : List PyData), vs = [cx, rx, .ref l] ∧ Sx H (.tuple (cs.map cD)) cx ∧ Gd cs ∧ Sx H (rowD k ws) rx ∧ RowOk cs k ws ∧ WellAt H l ∧ ∀ H', But [l] H H' → WellAt H' l → Q (.bl true) H'
theorem sx_bools {H : Hp} : ∀ {bs : List Bool} {ys : List V}, SxAll H (bs.map PyData.bool) ys → ys = bs.map V.bl
  | [], _, h => h.nil
  | b :: bs, _, h => by
    obtain ⟨y, ys, rfl, h1, h2⟩ := h.cons
    simp only [Sx] at h1
    rw [List.map_cons, h1, sx_bools h2]
section
variable {P : Program} {w : World} {K : PySem.W.Frag} {mg : Str → Option Value} {base : Heap} {t : Adr}
theorem ok_split (T : Txt K mg t) : FnOk P w K mg base CX0 11 t.f_l_split t.d_l_split ["_law_columns_here", "_law_row", "_law_name", "_law_value_here"] spSplit := by
  have G_passes : FnOk P w K mg base CX0 10 t.f_passes t.d_passes ["columns", "sieve", "row"] (spPass 8) := ok_passes T 8
  refine FnOk.forget (sp := fun vs H Q _ => ∃ (cx rx b : V) (cs : List (Str × Str)) (k : Str) (ws : List PyData) (c : Str × Str) (v : PyData), vs = [cx, rx, .str c.1, b] ∧ Sx H (.tuple (cs.map cD)) cx ∧ Gd cs ∧ Sx H (rowD k ws) rx ∧ RowOk cs k ws ∧ c ∈ cs ∧ Sx H v b ∧ valD c.2 v = true ∧ plainD v = true ∧ v ≠ .none ∧ ∀ H', Same H H' → Q (.bl true) H') ?_ (fun vs H Q E ⟨cx, rx, b, cs, k, ws, c, v, h0, h1, h2, h3, h4, h5, h6, h7, h8, h9, q⟩ => ⟨cx, rx, b, cs, k, ws, c, v, h0, h1, h2, h3, h4, h5, h6, h7, h8, h9, fun H' s => ⟨H, Fg.all s, q⟩⟩)
  refine T.F_l_split.ok sc_l_split (fun vs H Q E h => ?_) (fun cdv A outer s H vs Q E hr h => ?_)
  · obtain ⟨cx, rx, b, cs, k, ws, c, v, rfl, _⟩ := h
    rfl
  · obtain ⟨cx, rx, b, cs, k, ws, c, v, rfl, hc, hg, hrow, hok, hcm, hvb, hv, hpl, hvn, q⟩ := h
    obtain ⟨i, d', en, ec', ewd, epick, hval, hplain⟩ := row_at hg hok hcm
    have zn : c.1.cps.size ≤ sizeLine := sm (Nat.le_trans (NM_facts _ (hg.2.2 c hcm).1).1 (by decide))
    refine ⟨_, (@pss_cons _ _ _ _ _ (@ps_set _ _ (4) _ _ _ _ sc_l_split.nd (by rfl) (by first | exact Or.inl rfl | exact Or.inr rfl) (@pe_lst _ _ _ _ (@pa2 _ _ _ _ _ (@pe_tup _ _ _ _ _ (@pa2 _ _ _ _ _ pe_str (@pa2 _ _ _ _ _ (@pv _ 2 _ _ (by rfl) (by first | exact Or.inl rfl | exact Or.inr (Or.inl rfl) | exact Or.inr (Or.inr rfl)) (by decide) (by decide)) (@pa2 _ _ _ _ _ pe_non pa_nil (by rfl)) (by rfl)) (by rfl))) (@pa2 _ _ _ _ _ (@pe_tup _ _ _ _ _ (@pa2 _ _ _ _ _ pe_str (@pa2 _ _ _ _ _ (@pv _ 2 _ _ (by rfl) (by first | exact Or.inl rfl | exact Or.inr (Or.inl rfl) | exact Or.inr (Or.inr rfl)) (by decide) (by decide)) (@pa2 _ _ _ _ _ (@pv _ 3 _ _ (by rfl) (by first | exact Or.inl rfl | exact Or.inr (Or.inl rfl) | exact Or.inr (Or.inr rfl)) (by decide) (by decide)) pa_nil (by rfl)) (by rfl)) (by rfl))) (@pa2 _ _ _ _ _ (@pe_tup _ _ _ _ _ (@pa2 _ _ _ _ _ pe_str (@pa2 _ _ _ _ _ (@pv _ 2 _ _ (by rfl) (by first | exact Or.inl rfl | exact Or.inr (Or.inl rfl) | exact Or.inr (Or.inr rfl)) (by decide) (by decide)) (@pa2 _ _ _ _ _ (@pv _ 3 _ _ (by rfl) (by first | exact Or.inl rfl | exact Or.inr (Or.inl rfl) | exact Or.inr (Or.inr rfl)) (by decide) (by decide)) pa_nil (by rfl)) (by rfl)) (by rfl))) (@pa2 _ _ _ _ _ (@pe_tup _ _ _ _ _ (@pa2 _ _ _ _ _ pe_str (@pa2 _ _ _ _ _ (@pv _ 2 _ _ (by rfl) (by first | exact Or.inl rfl | exact Or.inr (Or.inl rfl) | exact Or.inr (Or.inr rfl)) (by decide) (by decide)) (@pa2 _ _ _ _ _ (@pv _ 3 _ _ (by rfl) (by first | exact Or.inl rfl | exact Or.inr (Or.inl rfl) | exact Or.inr (Or.inr rfl)) (by decide) (by decide)) pa_nil (by rfl)) (by rfl)) (by rfl))) pa_nil (by rfl)) (by rfl)) (by rfl)) (by rfl))) (by rfl) (by first | exact .inl rfl | exact .inr rfl | assumption)) (@pss_one _ _ _ (@ps_ret _ _ _ _ (@pe_cmpR _ _ _ _ _ _ _ _ op_eq (@pe_bmK _ (K) _ _ _ _ _ _ _ _ _ _ _ rfl PySem.F.plainAttrs_list PySem.F.slot_list_count PySem.F.type_list_count (mt_countBK (K := K) rfl) (@pe_comp _ (["_law_one", "_law_columns_here", "_law_row"]) ([none, some 0, some 1]) _ _ _ _ _ _ _ _ _ _ (csc (defScope s_l_split) ["_law_columns_here", "_law_row", "_law_name", "_law_value_here", "_law_some"] rfl rfl (by decide +kernel)) rfl (@pi_list _ _ _ _ (@pv _ 4 _ _ (by rfl) (by first | exact Or.inl rfl | exact Or.inr (Or.inl rfl) | exact Or.inr (Or.inr rfl)) (by decide) (by decide))) (fun _ _ _ _ _ => (@pg_name _ _ (0) _ (show (["_law_one", "_law_columns_here", "_law_row"] : List Str).Nodup by decide +kernel) (by rfl) (by first | exact Or.inl rfl | exact Or.inr rfl) (by first | exact .inl rfl | exact .inr rfl | assumption))) (gx_name rfl) (fun _ _ _ _ _ => pif_nil) (fun _ _ _ _ _ => (@pe_call _ _ _ _ _ _ _ _ _ _ _ _ _ _ _ _ (G_passes.mono (by decide)) hr (by rfl) T.mg_passes T.F_passes.kp T.b_passes .nil pass0 (@pa2 _ _ _ _ _ (@pv _ 1 _ _ (by rfl) (by first | exact Or.inl rfl | exact Or.inr (Or.inl rfl) | exact Or.inr (Or.inr rfl)) (by decide) (by decide)) (@pa2 _ _ _ _ _ (@pv _ 0 _ _ (by rfl) (by first | exact Or.inl rfl | exact Or.inr (Or.inl rfl) | exact Or.inr (Or.inr rfl)) (by decide) (by decide)) (@pa2 _ _ _ _ _ (@pv _ 2 _ _ (by rfl) (by first | exact Or.inl rfl | exact Or.inr (Or.inl rfl) | exact Or.inr (Or.inr rfl)) (by decide) (by decide)) pa_nil (by rfl)) (by rfl)) (by rfl)) (by decide) (by rfl) (by rfl))) (by intro _; rfl)) (@pa2 _ _ _ _ _ pe_bl pa_nil (by rfl)) (by rfl) (by rfl) (by rfl) (by rfl) (by rfl)) pe_int (nomark _))))), ?_⟩
    try dsimp only [tSeq, tAsg, gName]
    refine ((mk_lst (mkA_cons (mk_tup (mkA_cons (mk_str (by decide)) (mkA_cons (mk_var (i := 2) rfl (sx_str zn)) (mkA_cons mk_non mkA_nil))) (Nat.le_of_ble_eq_true rfl)) (mkA_cons (mk_tup (mkA_cons (mk_str (by decide)) (mkA_cons (mk_var (i := 2) rfl (sx_str zn)) (mkA_cons (mk_var (i := 3) rfl hvb) mkA_nil))) (Nat.le_of_ble_eq_true rfl)) (mkA_cons (mk_tup (mkA_cons (mk_str (by decide)) (mkA_cons (mk_var (i := 2) rfl (sx_str zn)) (mkA_cons (mk_var (i := 3) rfl hvb) mkA_nil))) (Nat.le_of_ble_eq_true rfl)) (mkA_cons (mk_tup (mkA_cons (mk_str (by decide)) (mkA_cons (mk_var (i := 2) rfl (sx_str zn)) (mkA_cons (mk_var (i := 3) rfl hvb) mkA_nil))) (Nat.le_of_ble_eq_true rfl)) mkA_nil)))) (Nat.le_of_ble_eq_true rfl)) : Md _ _ H (.list [.tuple [.str "is", .str c.1, .none], .tuple [.str "below", .str c.1, v], .tuple [.str "is", .str c.1, v], .tuple [.str "above", .str c.1, v]])) H (Same.refl H) _ fun v1 H1 s1 hv1 => ?_
    try dsimp only [tRet, tOp, tBM]
    refine Md.run (mk_compL (ds := [.tuple [.str "is", .str c.1, .none], .tuple [.str "below", .str c.1, v], .tuple [.str "is", .str c.1, v], .tuple [.str "above", .str c.1, v]]) (fun d => .bool (passN cs k ws 8 d)) (Nat.le_of_ble_eq_true rfl) (mk_var (i := 4) rfl hv1) (fun d x H2 hd s2 hx R hR => ?_)) fun v2 H2 s2 hv2 => ?_
    · have s12 := s1.trans s2
      refine ⟨_, rfl, _, rfl, _, rfl, cx, x, rx, cs, d, k, ws, rfl, Sx.same s12 _ hc, hg, hx, ?_, Sx.same s12 _ hrow, hok, hR _ H2 (Same.refl H2) (sx_bl _)⟩
      simp only [List.mem_cons, List.not_mem_nil, or_false] at hd
      rcases hd with rfl | rfl | rfl | rfl
      · exact .inl (.inr (.inr ⟨c, .none, hcm, rfl, rfl, .inl rfl⟩))
      · exact .inl (.inr (.inr ⟨c, v, hcm, hpl, hv, .inr ⟨hvn, .inl rfl⟩⟩))
      · exact .inl (.inr (.inr ⟨c, v, hcm, hpl, hv, .inl rfl⟩))
      · exact .inl (.inr (.inr ⟨c, v, hcm, hpl, hv, .inr ⟨hvn, .inr (.inl rfl)⟩⟩))
    · obtain ⟨D, ys, rfl, eD, hys⟩ := Sx.lst hv2
      have hbs : ys = [vpassV "is" (vD d') .non, vpassV "below" (vD d') (vD v), vpassV "is" (vD d') (vD v), vpassV "above" (vD d') (vD v)].map V.bl := by
        refine sx_bools (H := H2) ?_
        rw [← epick]
        exact hys
      rw [hbs] at eD
      refine ⟨.inl ⟨rfl, _, SqL.of eD⟩, D, _, true, rfl, rfl, SqL.of eD, rfl, ?_⟩
      have := q H2 (s1.trans s2)
      rw [one_of (kn_valD hval) (kn_valD hv) (vD_non hpl hvn)]
      exact this
theorem ok_values_right (T : Txt K mg t) : FnOk P w K mg base CX0 12 t.f_l_values_right t.d_l_values_right ["_law_columns_here", "_law_row", "_law_well_here"] spVR := by
  have G_passes : FnOk P w K mg base CX0 10 t.f_passes t.d_passes ["columns", "sieve", "row"] (spPass 8) := ok_passes T 8
  have G_l_value : FnOk P w K mg base CX0 3 t.f_l_value t.d_l_value ["_law_well_here", "_law_kind"] spVal := ok_value T
  have G_l_draw : FnOk P w K mg base CX0 1 t.f_l_draw t.d_l_draw ["_law_well_here", "_law_most"] spDraw := ok_draw T
  have G_l_split : FnOk P w K mg base CX0 11 t.f_l_split t.d_l_split ["_law_columns_here", "_law_row", "_law_name", "_law_value_here"] spSplit := ok_split T
  refine T.F_l_values_right.ok sc_l_values_right (fun vs H Q E h => ?_) (fun cdv A outer s H vs Q E hr h => ?_)
  · obtain ⟨cx, rx, l, cs, k, ws, rfl, _⟩ := h
    rfl
  · obtain ⟨cx, rx, l, cs, k, ws, rfl, hc, hg, hrow, hok, hw, q⟩ := h
    obtain ⟨ca, xs, rfl, ec, hl, hall, hp⟩ := cols_at hc
    obtain ⟨ra, kv, wv0, rfl, er, skk, sws⟩ := pair_at hrow
    obtain ⟨wa, wv, rfl, ew, hwv⟩ := sws.tup
    have hev := row_vals hok hwv
    have hwl := hok.1
    have fcs : flatT (.tuple (cs.map cD)) = true := by simp only [flatT]; exact flat_cs cs
    refine ⟨_, (@pss_cons _ _ _ _ _ (@ps_cut _ _ _ (@ps_for _ _ _ _ _ _ _ _ PassesOwn.never rfl (@pi_zip2 _ _ _ _ _ _ _ _ _ (by rfl) T.n_zip (@pa2 _ _ _ _ _ (@pv _ 0 _ _ (by rfl) (by first | exact Or.inl rfl | exact Or.inr (Or.inl rfl) | exact Or.inr (Or.inr rfl)) (by decide) (by decide)) (@pa2 _ _ _ _ _ (@pe_ix _ _ _ _ _ _ _ ix_tup (@pv _ 1 _ _ (by rfl) (by first | exact Or.inl rfl | exact Or.inr (Or.inl rfl) | exact Or.inr (Or.inr rfl)) (by decide) (by decide)) pe_int (fun _ _ => rfl)) pa_nil (by rfl)) (by rfl)) (by rfl) (by rfl)) (@pg_tup _ _ _ _ _ (2) rfl (@pgs_cons _ _ _ _ _ (@pg_tup _ _ _ _ _ (2) rfl (@pgs_cons _ _ _ _ _ (@pg_name _ _ (5) _ sc_l_values_right.nd (by rfl) (by first | exact Or.inl rfl | exact Or.inr rfl) (by first | exact .inl rfl | exact .inr rfl | assumption)) (@pgs_cons _ _ _ _ _ (@pg_name _ _ (6) _ sc_l_values_right.nd (by rfl) (by first | exact Or.inl rfl | exact Or.inr rfl) (by first | exact .inl rfl | exact .inr rfl | assumption)) pgs_nil (by rfl)) (by rfl)) (by rfl) (by rfl)) (@pgs_cons _ _ _ _ _ (@pg_name _ _ (3) _ sc_l_values_right.nd (by rfl) (by first | exact Or.inl rfl | exact Or.inr rfl) (by first | exact .inl rfl | exact .inr rfl | assumption)) pgs_nil (by rfl)) (by rfl)) (by rfl) (by rfl)) (@pss_cons _ _ _ _ _ (@ps_set _ _ (4) _ _ _ _ sc_l_values_right.nd (by rfl) (by first | exact Or.inl rfl | exact Or.inr rfl) (@pe_ix _ _ _ _ _ _ _ ix_list (@pe_lst _ _ _ _ (@pa2 _ _ _ _ _ (@pe_call _ _ _ _ _ _ _ _ _ _ _ _ _ _ _ _ (G_l_value.mono (by decide)) hr (by rfl) T.mg_l_value T.F_l_value.kp T.b_l_value .nil pass0 (@pa2 _ _ _ _ _ (@pv _ 2 _ _ (by rfl) (by first | exact Or.inl rfl | exact Or.inr (Or.inl rfl) | exact Or.inr (Or.inr rfl)) (by decide) (by decide)) (@pa2 _ _ _ _ _ (@pv _ 6 _ _ (by rfl) (by first | exact Or.inl rfl | exact Or.inr (Or.inl rfl) | exact Or.inr (Or.inr rfl)) (by decide) (by decide)) pa_nil (by rfl)) (by rfl)) (by decide) (by rfl) (by rfl)) (@pa2 _ _ _ _ _ (@pv _ 3 _ _ (by rfl) (by first | exact Or.inl rfl | exact Or.inr (Or.inl rfl) | exact Or.inr (Or.inr rfl)) (by decide) (by decide)) pa_nil (by rfl)) (by rfl))) (@pe_call _ _ _ _ _ _ _ _ _ _ _ _ _ _ _ _ (G_l_draw.mono (by decide)) hr (by rfl) T.mg_l_draw T.F_l_draw.kp T.b_l_draw .nil pass0 (@pa2 _ _ _ _ _ (@pv _ 2 _ _ (by rfl) (by first | exact Or.inl rfl | exact Or.inr (Or.inl rfl) | exact Or.inr (Or.inr rfl)) (by decide) (by decide)) (@pa2 _ _ _ _ _ pe_int pa_nil (by rfl)) (by rfl)) (by decide) (by rfl) (by rfl)) (fun _ _ => rfl)) (by rfl) (by first | exact .inl rfl | exact .inr rfl | assumption)) (@pss_cons _ _ _ _ _ (@ps_if _ _ _ _ _ _ _ _ (@pt_cmpR _ _ _ _ _ _ _ _ op_ne (@pe_call _ _ _ _ _ _ _ _ _ _ _ _ _ _ _ _ (G_passes.mono (by decide)) hr (by rfl) T.mg_passes T.F_passes.kp T.b_passes .nil pass0 (@pa2 _ _ _ _ _ (@pv _ 0 _ _ (by rfl) (by first | exact Or.inl rfl | exact Or.inr (Or.inl rfl) | exact Or.inr (Or.inr rfl)) (by decide) (by decide)) (@pa2 _ _ _ _ _ (@pe_tup _ _ _ _ _ (@pa2 _ _ _ _ _ pe_str (@pa2 _ _ _ _ _ (@pv _ 5 _ _ (by rfl) (by first | exact Or.inl rfl | exact Or.inr (Or.inl rfl) | exact Or.inr (Or.inr rfl)) (by decide) (by decide)) (@pa2 _ _ _ _ _ pe_non pa_nil (by rfl)) (by rfl)) (by rfl))) (@pa2 _ _ _ _ _ (@pv _ 1 _ _ (by rfl) (by first | exact Or.inl rfl | exact Or.inr (Or.inl rfl) | exact Or.inr (Or.inr rfl)) (by decide) (by decide)) pa_nil (by rfl)) (by rfl)) (by rfl)) (by decide) (by rfl) (by rfl)) (@pe_cmpR _ _ _ _ _ _ _ _ op_isN (@pv _ 3 _ _ (by rfl) (by first | exact Or.inl rfl | exact Or.inr (Or.inl rfl) | exact Or.inr (Or.inr rfl)) (by decide) (by decide)) pe_non (nomark _)) (nomark _)) (@pss_one _ _ _ (@ps_ret _ _ _ _ pe_bl)) pss_nil) (@pss_cons _ _ _ _ _ (@ps_if _ _ _ _ _ _ _ _ (@PW.pt _ _ _ (@pw_and _ _ _ _ _ _ _ (@pt_cmpR _ _ _ _ _ _ _ _ op_notN (@pv _ 4 _ _ (by rfl) (by first | exact Or.inl rfl | exact Or.inr (Or.inl rfl) | exact Or.inr (Or.inr rfl)) (by decide) (by decide)) pe_non (nomark _)) (@pw_and1 _ _ _ _ (@pt_not _ _ _ _ (@pt_val _ _ _ (@pe_call _ _ _ _ _ _ _ _ _ _ _ _ _ _ _ _ (G_l_split.mono (by decide)) hr (by rfl) T.mg_l_split T.F_l_split.kp T.b_l_split .nil pass0 (@pa2 _ _ _ _ _ (@pv _ 0 _ _ (by rfl) (by first | exact Or.inl rfl | exact Or.inr (Or.inl rfl) | exact Or.inr (Or.inr rfl)) (by decide) (by decide)) (@pa2 _ _ _ _ _ (@pv _ 1 _ _ (by rfl) (by first | exact Or.inl rfl | exact Or.inr (Or.inl rfl) | exact Or.inr (Or.inr rfl)) (by decide) (by decide)) (@pa2 _ _ _ _ _ (@pv _ 5 _ _ (by rfl) (by first | exact Or.inl rfl | exact Or.inr (Or.inl rfl) | exact Or.inr (Or.inr rfl)) (by decide) (by decide)) (@pa2 _ _ _ _ _ (@pv _ 4 _ _ (by rfl) (by first | exact Or.inl rfl | exact Or.inr (Or.inl rfl) | exact Or.inr (Or.inr rfl)) (by decide) (by decide)) pa_nil (by rfl)) (by rfl)) (by rfl)) (by rfl)) (by decide) (by rfl) (by rfl)) (by intro _; rfl)))))) (@pss_one _ _ _ (@ps_ret _ _ _ _ pe_bl)) pss_nil) (@pss_one _ _ _ (@ps_if _ _ _ _ _ _ _ _ (@PW.pt _ _ _ (@pw_and _ _ _ _ _ _ _ (@pt_cmpR _ _ _ _ _ _ _ _ op_eq (@pv _ 6 _ _ (by rfl) (by first | exact Or.inl rfl | exact Or.inr (Or.inl rfl) | exact Or.inr (Or.inr rfl)) (by decide) (by decide)) pe_str (nomark _)) (@pw_and1 _ _ _ _ (@pt_cmpR _ _ _ _ _ _ _ _ op_notN (@pv _ 4 _ _ (by rfl) (by first | exact Or.inl rfl | exact Or.inr (Or.inl rfl) | exact Or.inr (Or.inr rfl)) (by decide) (by decide)) pe_non (nomark _))))) (@pss_cons _ _ _ _ _ (@ps_set _ _ (7) _ _ _ _ sc_l_values_right.nd (by rfl) (by first | exact Or.inl rfl | exact Or.inr rfl) (@pe_call _ _ _ _ _ _ _ _ _ _ _ _ _ _ _ _ (G_passes.mono (by decide)) hr (by rfl) T.mg_passes T.F_passes.kp T.b_passes .nil pass0 (@pa2 _ _ _ _ _ (@pv _ 0 _ _ (by rfl) (by first | exact Or.inl rfl | exact Or.inr (Or.inl rfl) | exact Or.inr (Or.inr rfl)) (by decide) (by decide)) (@pa2 _ _ _ _ _ (@pe_tup _ _ _ _ _ (@pa2 _ _ _ _ _ pe_str (@pa2 _ _ _ _ _ (@pv _ 5 _ _ (by rfl) (by first | exact Or.inl rfl | exact Or.inr (Or.inl rfl) | exact Or.inr (Or.inr rfl)) (by decide) (by decide)) (@pa2 _ _ _ _ _ (@pv _ 4 _ _ (by rfl) (by first | exact Or.inl rfl | exact Or.inr (Or.inl rfl) | exact Or.inr (Or.inr rfl)) (by decide) (by decide)) pa_nil (by rfl)) (by rfl)) (by rfl))) (@pa2 _ _ _ _ _ (@pv _ 1 _ _ (by rfl) (by first | exact Or.inl rfl | exact Or.inr (Or.inl rfl) | exact Or.inr (Or.inr rfl)) (by decide) (by decide)) pa_nil (by rfl)) (by rfl)) (by rfl)) (by decide) (by rfl) (by rfl)) (by rfl) (by first | exact .inl rfl | exact .inr rfl | assumption)) (@pss_cons _ _ _ _ _ (@ps_if _ _ _ _ _ _ _ _ (@PW.pt _ _ _ (@pw_and _ _ _ _ _ _ _ (@pt_val _ _ _ (@pv _ 7 _ _ (by rfl) (by first | exact Or.inl rfl | exact Or.inr (Or.inl rfl) | exact Or.inr (Or.inr rfl)) (by decide) (by decide)) (by intro _; rfl)) (@pw_and1 _ _ _ _ (@pt_val _ _ _ (@pe_call _ _ _ _ _ _ _ _ _ _ _ _ _ _ _ _ (G_passes.mono (by decide)) hr (by rfl) T.mg_passes T.F_passes.kp T.b_passes .nil pass0 (@pa2 _ _ _ _ _ (@pv _ 0 _ _ (by rfl) (by first | exact Or.inl rfl | exact Or.inr (Or.inl rfl) | exact Or.inr (Or.inr rfl)) (by decide) (by decide)) (@pa2 _ _ _ _ _ (@pe_tup _ _ _ _ _ (@pa2 _ _ _ _ _ pe_str (@pa2 _ _ _ _ _ (@pv _ 5 _ _ (by rfl) (by first | exact Or.inl rfl | exact Or.inr (Or.inl rfl) | exact Or.inr (Or.inr rfl)) (by decide) (by decide)) (@pa2 _ _ _ _ _ (@pv _ 4 _ _ (by rfl) (by first | exact Or.inl rfl | exact Or.inr (Or.inl rfl) | exact Or.inr (Or.inr rfl)) (by decide) (by decide)) pa_nil (by rfl)) (by rfl)) (by rfl))) (@pa2 _ _ _ _ _ (@pv _ 1 _ _ (by rfl) (by first | exact Or.inl rfl | exact Or.inr (Or.inl rfl) | exact Or.inr (Or.inr rfl)) (by decide) (by decide)) pa_nil (by rfl)) (by rfl)) (by rfl)) (by decide) (by rfl) (by rfl)) (by intro _; rfl))))) (@pss_one _ _ _ (@ps_ret _ _ _ _ pe_bl)) pss_nil) (@pss_cons _ _ _ _ _ (@ps_set _ _ (8) _ _ _ _ sc_l_values_right.nd (by rfl) (by first | exact Or.inl rfl | exact Or.inr rfl) (@pe_call _ _ _ _ _ _ _ _ _ _ _ _ _ _ _ _ (G_l_draw.mono (by decide)) hr (by rfl) T.mg_l_draw T.F_l_draw.kp T.b_l_draw .nil pass0 (@pa2 _ _ _ _ _ (@pv _ 2 _ _ (by rfl) (by first | exact Or.inl rfl | exact Or.inr (Or.inl rfl) | exact Or.inr (Or.inr rfl)) (by decide) (by decide)) (@pa2 _ _ _ _ _ (@pe_op _ _ _ _ _ _ _ _ op_add (@pe_callB _ _ _ _ _ _ _ _ _ call_len (by rfl) T.n_len bt_len (@pa2 _ _ _ _ _ (@pv _ 4 _ _ (by rfl) (by first | exact Or.inl rfl | exact Or.inr (Or.inl rfl) | exact Or.inr (Or.inr rfl)) (by decide) (by decide)) pa_nil (by rfl)) (by decide) (by decide) (by rfl) (by rfl)) pe_int) pa_nil (by rfl)) (by rfl)) (by decide) (by rfl) (by rfl)) (by rfl) (by first | exact .inl rfl | exact .inr rfl | assumption)) (@pss_cons _ _ _ _ _ (@ps_if _ _ _ _ _ _ _ _ (@PW.pt _ _ _ (@pw_and _ _ _ _ _ _ _ (@pt_val _ _ _ (@pv _ 7 _ _ (by rfl) (by first | exact Or.inl rfl | exact Or.inr (Or.inl rfl) | exact Or.inr (Or.inr rfl)) (by decide) (by decide)) (by intro _; rfl)) (@pw_and1 _ _ _ _ (@pt_not _ _ _ _ (@pt_val _ _ _ (@pe_call _ _ _ _ _ _ _ _ _ _ _ _ _ _ _ _ (G_passes.mono (by decide)) hr (by rfl) T.mg_passes T.F_passes.kp T.b_passes .nil pass0 (@pa2 _ _ _ _ _ (@pv _ 0 _ _ (by rfl) (by first | exact Or.inl rfl | exact Or.inr (Or.inl rfl) | exact Or.inr (Or.inr rfl)) (by decide) (by decide)) (@pa2 _ _ _ _ _ (@pe_tup _ _ _ _ _ (@pa2 _ _ _ _ _ pe_str (@pa2 _ _ _ _ _ (@pv _ 5 _ _ (by rfl) (by first | exact Or.inl rfl | exact Or.inr (Or.inl rfl) | exact Or.inr (Or.inr rfl)) (by decide) (by decide)) (@pa2 _ _ _ _ _ (@pe_slice _ _ _ _ _ _ _ _ _ _ sl_str (@pv _ 4 _ _ (by rfl) (by first | exact Or.inl rfl | exact Or.inr (Or.inl rfl) | exact Or.inr (Or.inr rfl)) (by decide) (by decide)) po_none (@po_some _ _ _ (@pv _ 8 _ _ (by rfl) (by first | exact Or.inl rfl | exact Or.inr (Or.inl rfl) | exact Or.inr (Or.inr rfl)) (by decide) (by decide)))) pa_nil (by rfl)) (by rfl)) (by rfl))) (@pa2 _ _ _ _ _ (@pv _ 1 _ _ (by rfl) (by first | exact Or.inl rfl | exact Or.inr (Or.inl rfl) | exact Or.inr (Or.inr rfl)) (by decide) (by decide)) pa_nil (by rfl)) (by rfl)) (by rfl)) (by decide) (by rfl) (by rfl)) (by intro _; rfl)))))) (@pss_one _ _ _ (@ps_ret _ _ _ _ pe_bl)) pss_nil) (@pss_one _ _ _ (@ps_if _ _ _ _ _ _ _ _ (@PW.pt _ _ _ (@pw_and _ _ _ _ _ _ _ (@pt_cmpR _ _ _ _ _ _ _ _ op_notN (@pv _ 3 _ _ (by rfl) (by first | exact Or.inl rfl | exact Or.inr (Or.inl rfl) | exact Or.inr (Or.inr rfl)) (by decide) (by decide)) pe_non (nomark _)) (@pw_and1 _ _ _ _ (@pt_not _ _ _ _ (@pt_val _ _ _ (@pe_call _ _ _ _ _ _ _ _ _ _ _ _ _ _ _ _ (G_passes.mono (by decide)) hr (by rfl) T.mg_passes T.F_passes.kp T.b_passes .nil pass0 (@pa2 _ _ _ _ _ (@pv _ 0 _ _ (by rfl) (by first | exact Or.inl rfl | exact Or.inr (Or.inl rfl) | exact Or.inr (Or.inr rfl)) (by decide) (by decide)) (@pa2 _ _ _ _ _ (@pe_tup _ _ _ _ _ (@pa2 _ _ _ _ _ pe_str (@pa2 _ _ _ _ _ (@pv _ 5 _ _ (by rfl) (by first | exact Or.inl rfl | exact Or.inr (Or.inl rfl) | exact Or.inr (Or.inr rfl)) (by decide) (by decide)) (@pa2 _ _ _ _ _ (@pv _ 3 _ _ (by rfl) (by first | exact Or.inl rfl | exact Or.inr (Or.inl rfl) | exact Or.inr (Or.inr rfl)) (by decide) (by decide)) pa_nil (by rfl)) (by rfl)) (by rfl))) (@pa2 _ _ _ _ _ (@pv _ 1 _ _ (by rfl) (by first | exact Or.inl rfl | exact Or.inr (Or.inl rfl) | exact Or.inr (Or.inr rfl)) (by decide) (by decide)) pa_nil (by rfl)) (by rfl)) (by rfl)) (by decide) (by rfl) (by rfl)) (by intro _; rfl)))))) (@pss_one _ _ _ (@ps_ret _ _ _ _ pe_bl)) pss_nil)))))) pss_nil))))) (by intro _; rfl))) (@pss_one _ _ _ (@ps_ret _ _ _ _ pe_bl))), ?_⟩
    try dsimp only [tSeq]
    refine ⟨fun σ' H' => But [l] H H' ∧ WellAt H' l, ?_, fun σ' H' h => q H' h.1 h.2⟩
    obtain ⟨cx, hcx⟩ : ∃ cx, cx = V.ref ca := ⟨_, rfl⟩
    rw [← hcx] at hc ⊢
    refine for_zip2W (K := K) (l0 := ca) (l1 := wa) (xs0 := xs) (xs1 := wv) (fun i σ' H' => But [l] H H' ∧ WellAt H' l ∧ ∃ v3 v4 v5 v6 v7 v8, σ' = [some cx, some (.ref ra), some (.ref l), v3, v4, v5, v6, v7, v8]) (by rw [hev, List.length_map]; omega) (fun R hR => ⟨_, rfl, _, rfl, ra, _, _, .ref wa, rfl, rfl, SqT.of er, rfl, by rw [hcx]; exact hR⟩) ⟨But.refl, hw, none, none, none, none, none, none, rfl⟩ (fun i σ' H' h => ⟨SqT.of (well_t h.1 hw _ _ ec), SqT.of (well_t h.1 hw _ _ ew)⟩) ?_ (fun σ' H' h => ⟨h.1, h.2.1⟩)
    rintro i x y σ' T' H0 ex ey hT ⟨b0, w0, v3, v4, v5, v6, v7, v8, rfl⟩
    have hi := (List.getElem?_eq_some_iff.mp ex).1
    have ecs : cs[i]? = some (cs[i]'(by omega)) := List.getElem?_eq_getElem _
    generalize (cs[i]'(by omega)) = c at ecs
    have hcm := List.mem_of_getElem? ecs
    obtain ⟨b, rfl, hb⟩ := hp.2 i x (c.1, .str c.2) ex (by rw [List.getElem?_map, ecs]; rfl)
    obtain ⟨j, d0, en, ec', ewd, epick, hval, hplain⟩ := row_at hg hok hcm
    have hji : j = i := by
      obtain ⟨a1, a2⟩ := List.getElem?_eq_some_iff.mp en
      have en' : (cs.map Prod.fst)[i]? = some c.1 := by rw [List.getElem?_map, ecs]; rfl
      obtain ⟨a3, a4⟩ := List.getElem?_eq_some_iff.mp en'
      exact (List.getElem_inj hg.2.1 (h₀ := a1) (h₁ := a3)).mp (a2.trans a4.symm)
    subst hji
    have ey' : y = vD d0 := by rw [hev, List.getElem?_map, ewd] at ey; cases ey; rfl
    subst ey'
    have zn : c.1.cps.size ≤ sizeLine := sm (Nat.le_trans (NM_facts _ (hg.2.2 c hcm).1).1 (by decide))
    have kn0 := kn_valD hval
    have sx0 : ∀ {H' : Hp}, Sx H' d0 (vD d0) := sx_of hval hplain
    have pN : ∀ (o : Str) (v : PyData), passN cs k ws 8 (.tuple [.str o, .str c.1, v]) = vpassV o (vD d0) (vD v) := fun o v => by rw [← epick]; rfl
    generalize hH1 : upd H0 T' _ = H1
    have s1 : Same H0 H1 := hH1 ▸ same_new hT
    have eT : H1 T' = some (.tup [.ref b, vD d0]) := hH1 ▸ upd_same
    have t1 : TSame H H1 := (well_t b0 hw).trans s1.t
    have w1 := w0.same s1
    have b1 : But [l] H H1 := b0.trans s1.but
    refine ⟨T', _, rfl, SqT.of eT, rfl, _, _, rfl, b, _, rfl, SqT.of (t1 _ _ hb), rfl, _, _, rfl, _, _, rfl, rfl, _, _, rfl, rfl, ?_⟩
    -- value_here
    try dsimp only [tSeq, tAsg, gName]
    refine ⟨_, rfl, _, rfl, l, c.2, rfl, w1, fun v d H2 b2 w2 hv hpl hsx => ?_⟩
    have ev := sx_plain hsx hpl
    subst ev
    refine ⟨_, rfl, sm (show 2 ≤ 1000 by decide), fun l3 hl3 => ?_⟩
    generalize hH3 : upd H2 l3 _ = H3
    have s3 : Same H2 H3 := hH3 ▸ same_new hl3
    have e3 : H3 l3 = some (.lst [vD d, vD d0]) := hH3 ▸ upd_same
    have nl3 := w2.ne hl3
    refine ⟨_, rfl, l, 2, rfl, by decide, by decide, w2.same s3, fun n H4 n0 n1 b4 w4 => ?_⟩
    have b24 : But [l] H1 H4 := (b2.trans s3.but).trans b4
    have t4 : TSame H H4 := t1.trans (well_t b24 w1)
    obtain ⟨d1, a1, hv1, hpl1⟩ : ∃ d1, atI [vD d, vD d0] n = some (vD d1) ∧ valD c.2 d1 = true ∧ plainD d1 = true := by
      have : n = 0 ∨ n = 1 := by omega
      rcases this with rfl | rfl
      · exact ⟨d, rfl, hv, hpl⟩
      · exact ⟨d0, rfl, hval, hplain⟩
    refine ⟨l3, _, _, vD d1, rfl, rfl, SqL.of (b4 _ _ e3 (by simp [nl3])), a1, ?_⟩
    have kn1 := kn_valD hv1
    have sx1 : ∀ {H' : Hp}, Sx H' d1 (vD d1) := sx_of hv1 hpl1
    have b4' : But [l] H H4 := b1.trans b24
    -- is None
    refine ⟨_, rfl, _, rfl, sm (show 3 ≤ 1000 by decide), fun p5 hp5 => ?_⟩
    generalize hH5 : upd H4 p5 _ = H5
    have s5 : Same H4 H5 := hH5 ▸ same_new hp5
    have sp5 : Sx H5 (.tuple [.str "is", .str c.1, .none]) (.ref p5) := sx_tup (hH5 ▸ upd_same) (sx_cons (sx_str (sm (by decide))) (sx_cons (sx_str zn) (sx_cons sx_non sx_nil)))
    have t5 := t4.trans s5.t
    refine ⟨_, rfl, cx, .ref p5, .ref ra, cs, _, k, ws, rfl, Sx.tsame t5 _ fcs hc, hg, sp5, .inl (.inr (.inr ⟨c, .none, hcm, rfl, rfl, .inl rfl⟩)), Sx.tsame t5 _ (flat_row hok) hrow, hok, ?_⟩
    refine ⟨_, rfl, rfl, rfl, false, (by rw [pN, vp_is]; show V.bl (!decide (V.bl (decide (vD d0 = V.non)) = V.bl (decide (vD d0 = V.non)))) = V.bl false; simp), iteF ?_⟩
    have b5 : But [l] H H5 := b4'.trans s5.but
    have w5 := w4.same s5
    -- just one of
    try dsimp only [tNext, tSeq, tIfS]
    refine rd_andB (b := !decide (vD d1 = .non)) (Pc := fun c => c = false) (fun R hR => ⟨_, rfl, rfl, _, rfl, hR⟩) (fun hb R hR => ?_) (fun _ => rfl) (fun c6 H6 s6 hc6 => ?_)
    · have hd1 : d1 ≠ .none := fun z => by rw [z] at hb; exact absurd hb (by decide)
      exact ⟨_, rfl, _, rfl, _, rfl, _, rfl, cx, .ref ra, vD d1, cs, k, ws, c, d1, rfl, Sx.tsame t5 _ fcs hc, hg, Sx.tsame t5 _ (flat_row hok) hrow, hok, hcm, sx1, hv1, hpl1, hd1, _, rfl, hR _ H5 (Same.refl H5) rfl⟩
    subst hc6
    refine iteF ?_
    have t6 : TSame H H6 := t5.trans s6.t
    have b6 : But [l] H H6 := b5.trans s6.but
    have w6 := w5.same s6
    try dsimp only [tNext, tSeq, tIfS]
    refine rd_andB (b := decide (V.str c.2 = .str "word")) (Pc := fun x => x = true → c.2 = "word" ∧ d1 ≠ .none) (fun R hR => ⟨_, rfl, rfl, _, rfl, hR⟩) (fun hb R hR => ⟨_, rfl, rfl, _, rfl, hR _ H6 (Same.refl H6) fun h => ⟨V.str.inj (of_decide_eq_true hb), fun z => by rw [z] at h; exact absurd h (by decide)⟩⟩) (fun _ h => by cases h) (fun c7 H7 s7 hc7 => ?_)
    have t7 : TSame H H7 := t6.trans s7.t
    have b7 : But [l] H H7 := b6.trans s7.but
    have w7 := w6.same s7
    refine ifb (fun ht => ?_) (fun _ => ?_)
    · obtain ⟨hwd, hd1⟩ := hc7 ht
      have word : ∀ {d : PyData}, valD c.2 d = true → plainD d = true → d ≠ .none → ∃ z, d = .str z ∧ wordV (.str z) = true := fun {d} hv hp hn => by
        cases d with
        | str z =>
          refine ⟨z, rfl, ?_⟩
          unfold valD at hv
          dsimp only at hv
          rw [hwd, if_neg (by decide +kernel)] at hv
          exact hv
        | none => exact absurd rfl hn
        | int i =>
          unfold valD at hv
          rw [hwd] at hv
          exact absurd (of_decide_eq_true hv) (by decide +kernel)
        | _ => exact absurd hp Bool.false_ne_true
      obtain ⟨z1, rfl, hw1⟩ := word hv1 hpl1 hd1
      have hz1 : z1.cps.size ≤ 40 := by
        unfold wordV at hw1
        dsimp only at hw1
        rw [Bool.and_eq_true] at hw1
        exact of_decide_eq_true hw1.1
      have begT : vpassV "begins" (vD d0) (.str z1) = true → ∃ z0, d0 = .str z0 ∧ PySem.Txt.startswith z0 z1 = true := fun h => by
        rw [vp_begins] at h
        by_cases h0 : vD d0 = .non
        · rw [if_pos h0] at h; cases h
        · rw [if_neg h0] at h
          cases d0 with
          | str z0 => exact ⟨z0, rfl, h⟩
          | _ => cases h
      -- begun
      try dsimp only [tSeq, tAsg, gName]
      refine ⟨_, rfl, _, rfl, _, rfl, sm (show 3 ≤ 1000 by decide), fun p8 hp8 => ?_⟩
      generalize hH8 : upd H7 p8 _ = H8
      have s8 : Same H7 H8 := hH8 ▸ same_new hp8
      have sp8 : Sx H8 (.tuple [.str "begins", .str c.1, .str z1]) (.ref p8) := sx_tup (hH8 ▸ upd_same) (sx_cons (sx_str (sm (by decide))) (sx_cons (sx_str zn) (sx_cons sx1 sx_nil)))
      have t8 := t7.trans s8.t
      refine ⟨_, rfl, cx, .ref p8, .ref ra, cs, _, k, ws, rfl, Sx.tsame t8 _ fcs hc, hg, sp8, .inl (.inr (.inr ⟨c, .str z1, hcm, rfl, hv1, .inr ⟨hd1, .inr (.inr ⟨hwd, rfl⟩)⟩⟩)), Sx.tsame t8 _ (flat_row hok) hrow, hok, ?_⟩
      rw [pN]
      have b8 : But [l] H H8 := b7.trans s8.but
      have w8 := w7.same s8
      try dsimp only [tNext, tSeq, tIfS]
      refine rd_andB (b := vpassV "begins" (vD d0) (vD (.str z1))) (Pc := fun x => x = false) (fun R hR => ⟨_, rfl, _, rfl, hR⟩) (fun hb R hR => ?_) (fun _ => rfl) (fun c10 H10 s10 hc10 => ?_)
      · obtain ⟨z0, rfl, hst⟩ := begT hb
        refine ⟨_, rfl, _, rfl, _, rfl, sm (show 3 ≤ 1000 by decide), fun p9 hp9 => ?_⟩
        generalize hH9 : upd H8 p9 _ = H9
        have s9 : Same H8 H9 := hH9 ▸ same_new hp9
        have sp9 : Sx H9 (.tuple [.str "below", .str c.1, .str z1]) (.ref p9) := sx_tup (hH9 ▸ upd_same) (sx_cons (sx_str (sm (by decide))) (sx_cons (sx_str zn) (sx_cons sx1 sx_nil)))
        have t9 := t8.trans s9.t
        refine ⟨_, rfl, cx, .ref p9, .ref ra, cs, _, k, ws, rfl, Sx.tsame t9 _ fcs hc, hg, sp9, .inl (.inr (.inr ⟨c, .str z1, hcm, rfl, hv1, .inr ⟨hd1, .inl rfl⟩⟩)), Sx.tsame t9 _ (flat_row hok) hrow, hok, ?_⟩
        rw [pN]
        refine ⟨_, rfl, hR _ H9 s9 ?_⟩
        rw [vp_below, if_neg (by intro z; cases z)]
        exact starts_lt hst
      subst hc10
      refine iteF ?_
      have t10 : TSame H H10 := t8.trans s10.t
      have b10 : But [l] H H10 := b8.trans s10.but
      have w10 := w8.same s10
      -- a beginning of it
      try dsimp only [tNext, tSeq, tAsg, gName]
      refine ⟨_, rfl, _, rfl, _, _, rfl, ⟨sm (Nat.le_trans hz1 (by decide)), rfl⟩, _, _, rfl, rfl, l, ((z1.cps.size : Nat) : Int) + 1, rfl, by omega, by omega, w10, fun m H11 m0 m1 b11 w11 => ?_⟩
      obtain ⟨m', rfl⟩ : ∃ m' : Nat, m = (m' : Int) := ⟨m.toNat, by omega⟩
      have t11 : TSame H H11 := t10.trans (well_t b11 w10)
      have b11' : But [l] H H11 := b10.trans b11
      have hsw := slice_word m' hw1
      have hvs : valD c.2 (.str (PySem.Txt.slice z1 none (some (m' : Int)))) = true := by
        unfold valD
        dsimp only
        rw [hwd, if_neg (by decide +kernel)]
        exact hsw
      try dsimp only [tNext, tSeq, tIfS]
      refine rd_andB (b := vpassV "begins" (vD d0) (vD (.str z1))) (Pc := fun x => x = false) (fun R hR => ⟨_, rfl, _, rfl, hR⟩) (fun hb R hR => ?_) (fun _ => rfl) (fun c13 H13 s13 hc13 => ?_)
      · obtain ⟨z0, rfl, hst⟩ := begT hb
        refine ⟨_, rfl, _, rfl, _, rfl, _, rfl, _, rfl, z1, rfl, sm (Nat.le_trans hz1 (by decide)), sm (show 3 ≤ 1000 by decide), fun p12 hp12 => ?_⟩
        generalize hH12 : upd H11 p12 _ = H12
        have s12 : Same H11 H12 := hH12 ▸ same_new hp12
        have sp12 : Sx H12 (.tuple [.str "begins", .str c.1, .str (PySem.Txt.slice z1 none (some (m' : Int)))]) (.ref p12) := sx_tup (hH12 ▸ upd_same) (sx_cons (sx_str (sm (by decide))) (sx_cons (sx_str zn) (sx_cons (sx_str (word_small hsw)) sx_nil)))
        have t12 := t11.trans s12.t
        refine ⟨_, rfl, cx, .ref p12, .ref ra, cs, _, k, ws, rfl, Sx.tsame t12 _ fcs hc, hg, sp12, .inl (.inr (.inr ⟨c, _, hcm, rfl, hvs, .inr ⟨fun z => (by cases z), .inr (.inr ⟨hwd, rfl⟩)⟩⟩)), Sx.tsame t12 _ (flat_row hok) hrow, hok, ?_⟩
        rw [pN]
        refine ⟨_, rfl, hR _ H12 s12 ?_⟩
        rw [vp_begins, if_neg (by intro z; cases z)]
        show (!PySem.Txt.startswith z0 _) = false
        rw [starts_cut m' hst]
        rfl
      subst hc13
      refine iteF ?_
      have t13 : TSame H H13 := t11.trans s13.t
      have b13 : But [l] H H13 := b11'.trans s13.but
      have w13 := w11.same s13
      -- its own
      try dsimp only [tNext, tSeq, tIfS]
      refine rd_andB (b := !decide (vD d0 = .non)) (Pc := fun x => x = false) (fun R hR => ⟨_, rfl, rfl, _, rfl, hR⟩) (fun hb R hR => ?_) (fun _ => rfl) (fun c15 H15 s15 hc15 => ?_)
      · have hd0 : d0 ≠ .none := fun z => by rw [z] at hb; exact absurd hb (by decide)
        obtain ⟨z0, rfl, hw0⟩ := word hval hplain hd0
        refine ⟨_, rfl, _, rfl, _, rfl, sm (show 3 ≤ 1000 by decide), fun p14 hp14 => ?_⟩
        generalize hH14 : upd H13 p14 _ = H14
        have s14 : Same H13 H14 := hH14 ▸ same_new hp14
        have sp14 : Sx H14 (.tuple [.str "begins", .str c.1, .str z0]) (.ref p14) := sx_tup (hH14 ▸ upd_same) (sx_cons (sx_str (sm (by decide))) (sx_cons (sx_str zn) (sx_cons sx0 sx_nil)))
        have t14 := t13.trans s14.t
        refine ⟨_, rfl, cx, .ref p14, .ref ra, cs, _, k, ws, rfl, Sx.tsame t14 _ fcs hc, hg, sp14, .inl (.inr (.inr ⟨c, .str z0, hcm, rfl, hval, .inr ⟨hd0, .inr (.inr ⟨hwd, rfl⟩)⟩⟩)), Sx.tsame t14 _ (flat_row hok) hrow, hok, ?_⟩
        rw [pN]
        refine ⟨_, rfl, hR _ H14 s14 ?_⟩
        rw [vp_begins, if_neg (by intro z; cases z)]
        show (!PySem.Txt.startswith z0 z0) = false
        rw [starts_self]
        rfl
      subst hc15
      refine iteF ?_
      exact ⟨b13.trans s15.but, w13.same s15, _, _, _, _, _, _, rfl⟩
    · exact ⟨b7, w7, _, _, _, _, _, _, rfl⟩
end
end My
set_option Elab.async false
set_option linter.all false
set_option maxRecDepth 100000
set_option maxHeartbeats 4000000
namespace My
open PySem L2
theorem But.same {ls : List Addr} {H H' : Hp} (b : But ls H H') (n : ∀ l ∈ ls, H l = none) : Same H H' := fun c o e => b c o e fun z => by rw [n c z] at e; cases e
theorem gs_mono {cs : List (Str × Str)} : ∀ {n m : Nat} {d : PyData}, GsD cs n d → n ≤ m → GsD cs m d
  | 0, _, _, h, _ => False.elim h
  | n + 1, 0, _, _, h => by omega
  | n + 1, m + 1, d, h, hm => by
    rcases h with h | ⟨e, rfl, h⟩ | ⟨o, ds, ho, rfl, hl, h⟩
    · exact .inl h
    · exact .inr (.inl ⟨e, rfl, gs_mono h (by omega)⟩)
    · exact .inr (.inr ⟨o, ds, ho, rfl, hl, fun e he => gs_mono (h e he) (by omega)⟩)
def rD (r : Str × List PyData) : PyData := rowD r.1 r.2
def RowsOk (cs : List (Str × Str)) (rows : List (Str × List PyData)) : Prop := ∀ r ∈ rows, RowOk cs r.1 r.2
theorem flat_rows {cs : List (Str × Str)} {rows : List (Str × List PyData)} (h : RowsOk cs rows) : flatTs (rows.map rD) = true := flat_all fun d hd => by
  obtain ⟨r, hr, rfl⟩ := List.mem_map.mp hd
  exact flat_row (h r hr)
theorem SxAll.rev {H : Hp} : ∀ {ds : List PyData} {xs : List V}, SxAll H ds xs → SxAll H ds.reverse xs.reverse
  | [], _, h => by rw [h.nil]; exact sx_nil
  | d :: ds, _, h => by
    obtain ⟨y, ys, rfl, h1, h2⟩ := h.cons
    rw [List.reverse_cons, List.reverse_cons]
    exact (SxAll.rev h2).snoc h1
def sp_law (K : PySem.W.Frag) : Sp := fun vs H Q _ => ∃ (a : Addr) (ns : List Int), vs = [.ref a] ∧ SqL K H a (ns.map V.int) ∧ ns.length ≤ 63 ∧ ∀ H', Q (.bl true) H'
theorem rd_comp_tupW {K : PySem.W.Frag} {a : Addr} {xs : List V} {src : List (Option Nat)} {g : TG} {te t0 : TE} {σ : St} {H : Hp} {Q : VK} (Iv : Nat → List V → Hp → Prop) (hz : xs.length ≤ 1000) (hq : ∀ i out H', Iv i out H' → SqT K H' a xs) (h0 : ∀ R : VK, R (.ref a) H → t0 σ H R) (hI : Iv 0 [] H)
    (hs : ∀ i x out H1, xs[i]? = some x → out.length = i → Iv i out H1 → ∀ R : VK, (∀ v H5, Iv (i + 1) (out ++ [v]) H5 → R v H5) → g x (pick σ src) H1 fun σ3 H3 => te σ3 H3 R)
    (q : ∀ D out H', out.length = xs.length → Iv xs.length out H' → H' D = none → Q (.ref D) (upd H' D (.lst out))) : tComp (iTup K t0) src g tTrue te σ H Q := by
  refine h0 _ ⟨a, rfl, ⟨_, hq 0 [] H hI⟩, ?_⟩
  refine ⟨fun i m out H' => m = xs.length - i ∧ i ≤ xs.length ∧ out.length = i ∧ Iv i out H', ⟨_, rfl, Nat.zero_le _, rfl, hI⟩, ?_⟩
  rintro i m out H' ⟨rfl, hi, hl, p⟩
  by_cases hlt : i < xs.length
  · refine .inr ⟨⟨xs, xs[i], hq i out H' p, by simp [hlt]⟩, Nat.lt_of_lt_of_le (by omega) (sm hz), fun x H2 y => ?_⟩
    obtain ⟨e, y⟩ := y
    subst e
    exact hs i x out _ (y xs (hq i out _ p)) hl p (fun v H5 => ∃ m', m' < xs.length - i ∧ m' = xs.length - (i + 1) ∧ i + 1 ≤ xs.length ∧ (out ++ [v]).length = i + 1 ∧ Iv (i + 1) (out ++ [v]) H5) fun v H5 h5 => ⟨xs.length - (i + 1), by omega, rfl, hlt, by rw [List.length_append, hl]; rfl, h5⟩
  · have e : i = xs.length := by omega
    subst e
    exact .inl ⟨⟨xs, hq _ out H' p, Nat.le_refl _⟩, fun D hD => q D out H' hl p hD⟩
theorem vals_sx {H : Hp} {ws : List PyData} (h : ∀ d ∈ ws, ∃ k, valD k d = true ∧ plainD d = true) : SxAll H ws (ws.map vD) := by
  induction ws with
  | nil => exact sx_nil
  | cons d ds ih =>
    obtain ⟨k, h1, h2⟩ := h d List.mem_cons_self
    exact sx_cons (sx_of h1 h2) (ih fun e he => h e (List.mem_cons_of_mem _ he))
theorem all_cong {α : Type} {l : List α} {f g : α → Bool} (h : ∀ x ∈ l, f x = g x) : l.all f = l.all g := by
  induction l with
  | nil => rfl
  | cons a l ih => rw [List.all_cons, List.all_cons, h a List.mem_cons_self, ih fun x hx => h x (List.mem_cons_of_mem _ hx)]
theorem any_cong {α : Type} {l : List α} {f g : α → Bool} (h : ∀ x ∈ l, f x = g x) : l.any f = l.any g := by
  induction l with
  | nil => rfl
  | cons a l ih => rw [List.any_cons, List.any_cons, h a List.mem_cons_self, ih fun x hx => h x (List.mem_cons_of_mem _ hx)]
theorem pass_mono {cs : List (Str × Str)} {k : Str} {ws : List PyData} : ∀ {n m : Nat} {d : PyData}, GsD cs n d → n ≤ m → passN cs k ws m d = passN cs k ws n d
  | 0, _, _, h, _ => False.elim h
  | n + 1, 0, _, _, h => by omega
  | n + 1, m + 1, d, h, hm => by
    rcases h with h | ⟨e, rfl, h⟩ | ⟨o, ds, ho, rfl, hl, h⟩
    · rcases h with rfl | ⟨ks, rfl, _⟩ | ⟨c, v, _, _, _, h⟩
      · rfl
      · rw [pass_key, pass_key]
      · rcases h with rfl | ⟨_, rfl | rfl | ⟨_, rfl⟩⟩ <;> rfl
    · rw [pass_not, pass_not, pass_mono h (by omega)]
    · have e : ∀ d ∈ ds, passN cs k ws m d = passN cs k ws n d := fun d hd => pass_mono (h d hd) (by omega)
      rcases ho with rfl | rfl
      · rw [pass_and, pass_and]
        exact all_cong e
      · rw [pass_or, pass_or]
        exact any_cong e
theorem mk_rev {K : PySem.W.Frag} {σ : St} {H : Hp} {te : TE} {ds : List PyData} (h : Md te σ H (.list ds)) : Md (fun σ H Q => te σ H fun x H1 => rRev K x H1 Q) σ H (.list ds.reverse) := fun H1 s1 R q =>
  h H1 s1 _ fun v H2 s2 hv => by
    obtain ⟨a, xs, rfl, ea, ha⟩ := Sx.lst hv
    exact ⟨a, xs, rfl, SqL.of ea, fun l hl => q _ _ (s2.trans (same_new hl)) (sx_lst upd_same (SxAll.rev (SxAll.same (same_new hl) _ ha)))⟩
def notD : PyData → PyData
  | .bool b => .bool (!b)
  | d => d
theorem bools_lay (bs : List Bool) : PyData.canLay0 (.list (bs.map .bool)) = true := by
  simp only [PyData.canLay0]
  exact lay_all fun d hd => by
    obtain ⟨b, _, rfl⟩ := List.mem_map.mp hd
    simp only [PyData.canLay0]
theorem bools_depth (bs : List Bool) : (PyData.list (bs.map .bool)).depth ≤ 64 := by
  have all : PyData.depthAll (bs.map PyData.bool) = 0 := by
    induction bs with
    | nil => simp only [List.map_nil, PyData.depthAll]
    | cons b bs ih =>
      rw [List.map_cons]
      simp only [PyData.depthAll, PyData.depth, ih]
      rfl
  simp only [PyData.depth, all]
  decide
theorem in_bools (b : Bool) (bs : List Bool) : inV (.bl b) (bs.map V.bl) = bs.any fun c => c == b := by
  unfold inV
  rw [List.any_map]
  rfl
theorem no_false (bs : List Bool) : (!bs.any fun c => c == false) = bs.all id := by
  induction bs with
  | nil => rfl
  | cons b bs ih =>
    rw [List.any_cons, List.all_cons, ← ih]
    cases b <;> rfl
theorem some_true (bs : List Bool) : (bs.any fun c => c == true) = bs.any id := by
  induction bs with
  | nil => rfl
  | cons b bs ih =>
    rw [List.any_cons, List.any_cons, ← ih]
    cases b <;> rfl
def spWR : Sp := fun vs H Q _ => ∃ (cx rx : V) (ls : Addr) (cs : List (Str × Str)) (k : Str) (ws : List PyData) (ds : List PyData) (ys : List V), vs = [cx, rx, .ref ls] ∧ Sx H (.tuple (cs.map cD)) cx ∧ Gd cs ∧ Sx H (rowD k ws) rx ∧ RowOk cs k ws ∧ H ls = some (.lst ys) ∧ SxAll H ds ys ∧ ds.length ≤ 8 ∧ (∀ d ∈ ds, GsD cs 5 d) ∧ Q (.bl true) H
section
variable {P : Program} {w : World} {K : PySem.W.Frag} {mg : Str → Option Value} {base : Heap} {t : Adr}
theorem ok_words_right (T : Txt K mg t) : FnOk P w K mg base CX0 11 t.f_l_words_right t.d_l_words_right ["_law_columns_here", "_law_row", "_law_sieves"] spWR := by
  have G_passes : FnOk P w K mg base CX0 10 t.f_passes t.d_passes ["columns", "sieve", "row"] (spPass 8) := ok_passes T 8
  refine FnOk.forget (sp := fun vs H Q _ => ∃ (cx rx : V) (ls : Addr) (cs : List (Str × Str)) (k : Str) (ws : List PyData) (ds : List PyData) (ys : List V), vs = [cx, rx, .ref ls] ∧ Sx H (.tuple (cs.map cD)) cx ∧ Gd cs ∧ Sx H (rowD k ws) rx ∧ RowOk cs k ws ∧ H ls = some (.lst ys) ∧ SxAll H ds ys ∧ ds.length ≤ 8 ∧ (∀ d ∈ ds, GsD cs 5 d) ∧ ∀ H', Same H H' → Q (.bl true) H') ?_ (fun vs H Q E ⟨cx, rx, ls, cs, k, ws, ds, ys, h0, h1, h2, h3, h4, h5, h6, h7, h8, q⟩ => ⟨cx, rx, ls, cs, k, ws, ds, ys, h0, h1, h2, h3, h4, h5, h6, h7, h8, fun H' s => ⟨H, Fg.all s, q⟩⟩)
  refine T.F_l_words_right.ok sc_l_words_right (fun vs H Q E h => ?_) (fun cdv A outer s H vs Q E hr h => ?_)
  · obtain ⟨cx, rx, ls, cs, k, ws, ds, ys, rfl, _⟩ := h
    rfl
  · obtain ⟨cx, rx, ls, cs, k, ws, ds, ys, rfl, hc, hg, hrow, hok, els, hds, hd8, hgs, q⟩ := h
    have sD : Sx H (.list ds) (.ref ls) := sx_lst els hds
    have eq8 : ∀ {m : Nat} {d : PyData}, d ∈ ds → 5 ≤ m → passN cs k ws m d = passN cs k ws 5 d := fun hd hm => pass_mono (hgs _ hd) hm
    refine ⟨_, (@pss_cons _ _ _ _ _ (@ps_setcomp _ (["_law_one", "_law_columns_here", "_law_row"]) ([none, some 0, some 1]) _ _ _ _ _ _ _ _ _ _ (3) _ _ _ sc_l_words_right.nd (by rfl) rfl (csc (defScope s_l_words_right) ["_law_columns_here", "_law_row", "_law_sieves", "_law_told", "_law_nots", "_law_some"] rfl rfl (by decide +kernel)) rfl (@pi_list _ _ _ _ (@pv _ 2 _ _ (by rfl) (by first | exact Or.inl rfl | exact Or.inr (Or.inl rfl) | exact Or.inr (Or.inr rfl)) (by decide) (by decide))) (fun _ _ _ _ _ => (@pg_name _ _ (0) _ (show (["_law_one", "_law_columns_here", "_law_row"] : List Str).Nodup by decide +kernel) (by rfl) (by first | exact Or.inl rfl | exact Or.inr rfl) (by first | exact .inl rfl | exact .inr rfl | assumption))) (gx_name rfl) (fun _ _ _ _ _ => pif_nil) (fun _ _ _ _ _ => (@pe_call _ _ _ _ _ _ _ _ _ _ _ _ _ _ _ _ (G_passes.mono (by decide)) hr (by rfl) T.mg_passes T.F_passes.kp T.b_passes .nil pass0 (@pa2 _ _ _ _ _ (@pv _ 1 _ _ (by rfl) (by first | exact Or.inl rfl | exact Or.inr (Or.inl rfl) | exact Or.inr (Or.inr rfl)) (by decide) (by decide)) (@pa2 _ _ _ _ _ (@pv _ 0 _ _ (by rfl) (by first | exact Or.inl rfl | exact Or.inr (Or.inl rfl) | exact Or.inr (Or.inr rfl)) (by decide) (by decide)) (@pa2 _ _ _ _ _ (@pv _ 2 _ _ (by rfl) (by first | exact Or.inl rfl | exact Or.inr (Or.inl rfl) | exact Or.inr (Or.inr rfl)) (by decide) (by decide)) pa_nil (by rfl)) (by rfl)) (by rfl)) (by decide) (by rfl) (by rfl))) (by rfl) (by intro _; rfl)) (@pss_cons _ _ _ _ _ (@ps_set _ _ (4) _ _ _ _ sc_l_words_right.nd (by rfl) (by first | exact Or.inl rfl | exact Or.inr rfl) (@pe_callTy _ _ _ _ _ _ _ _ _ call_tuple_of (by rfl) T.n_tuple bt_tuple (@pa2 _ _ _ _ _ (@pe_comp _ (["_law_one"]) ([none]) _ _ _ _ _ _ _ _ _ _ (csc (defScope s_l_words_right) ["_law_columns_here", "_law_row", "_law_sieves", "_law_told", "_law_nots", "_law_some"] rfl rfl (by decide +kernel)) rfl (@pi_list _ _ _ _ (@pv _ 2 _ _ (by rfl) (by first | exact Or.inl rfl | exact Or.inr (Or.inl rfl) | exact Or.inr (Or.inr rfl)) (by decide) (by decide))) (fun _ _ _ _ _ => (@pg_name _ _ (0) _ (show (["_law_one"] : List Str).Nodup by decide +kernel) (by rfl) (by first | exact Or.inl rfl | exact Or.inr rfl) (by first | exact .inl rfl | exact .inr rfl | assumption))) (gx_name rfl) (fun _ _ _ _ _ => pif_nil) (fun _ _ _ _ _ => (@pe_tup _ _ _ _ _ (@pa2 _ _ _ _ _ pe_str (@pa2 _ _ _ _ _ (@pv _ 0 _ _ (by rfl) (by first | exact Or.inl rfl | exact Or.inr (Or.inl rfl) | exact Or.inr (Or.inr rfl)) (by decide) (by decide)) pa_nil (by rfl)) (by rfl)))) (by intro _; rfl)) pa_nil (by rfl)) (by decide) (by decide) (by rfl) (by rfl)) (by rfl) (by first | exact .inl rfl | exact .inr rfl | assumption)) (@pss_cons _ _ _ _ _ (@ps_if _ _ _ _ _ _ _ _ (@pt_cmpR _ _ _ _ _ _ _ _ (op_neD hr.units) (@pe_comp _ (["_law_one", "_law_columns_here", "_law_row"]) ([none, some 0, some 1]) _ _ _ _ _ _ _ _ _ _ (csc (defScope s_l_words_right) ["_law_columns_here", "_law_row", "_law_sieves", "_law_told", "_law_nots", "_law_some"] rfl rfl (by decide +kernel)) rfl (@pi_tup _ _ _ _ (@pv _ 4 _ _ (by rfl) (by first | exact Or.inl rfl | exact Or.inr (Or.inl rfl) | exact Or.inr (Or.inr rfl)) (by decide) (by decide))) (fun _ _ _ _ _ => (@pg_name _ _ (0) _ (show (["_law_one", "_law_columns_here", "_law_row"] : List Str).Nodup by decide +kernel) (by rfl) (by first | exact Or.inl rfl | exact Or.inr rfl) (by first | exact .inl rfl | exact .inr rfl | assumption))) (gx_name rfl) (fun _ _ _ _ _ => pif_nil) (fun _ _ _ _ _ => (@pe_call _ _ _ _ _ _ _ _ _ _ _ _ _ _ _ _ (G_passes.mono (by decide)) hr (by rfl) T.mg_passes T.F_passes.kp T.b_passes .nil pass0 (@pa2 _ _ _ _ _ (@pv _ 1 _ _ (by rfl) (by first | exact Or.inl rfl | exact Or.inr (Or.inl rfl) | exact Or.inr (Or.inr rfl)) (by decide) (by decide)) (@pa2 _ _ _ _ _ (@pv _ 0 _ _ (by rfl) (by first | exact Or.inl rfl | exact Or.inr (Or.inl rfl) | exact Or.inr (Or.inr rfl)) (by decide) (by decide)) (@pa2 _ _ _ _ _ (@pv _ 2 _ _ (by rfl) (by first | exact Or.inl rfl | exact Or.inr (Or.inl rfl) | exact Or.inr (Or.inr rfl)) (by decide) (by decide)) pa_nil (by rfl)) (by rfl)) (by rfl)) (by decide) (by rfl) (by rfl))) (by intro _; rfl)) (@pe_comp _ (["_law_one"]) ([none]) _ _ _ _ _ _ _ _ _ _ (csc (defScope s_l_words_right) ["_law_columns_here", "_law_row", "_law_sieves", "_law_told", "_law_nots", "_law_some"] rfl rfl (by decide +kernel)) rfl (@pi_list _ _ _ _ (@pv _ 3 _ _ (by rfl) (by first | exact Or.inl rfl | exact Or.inr (Or.inl rfl) | exact Or.inr (Or.inr rfl)) (by decide) (by decide))) (fun _ _ _ _ _ => (@pg_name _ _ (0) _ (show (["_law_one"] : List Str).Nodup by decide +kernel) (by rfl) (by first | exact Or.inl rfl | exact Or.inr rfl) (by first | exact .inl rfl | exact .inr rfl | assumption))) (gx_name rfl) (fun _ _ _ _ _ => pif_nil) (fun _ _ _ _ _ => (@pe_not _ _ _ _ (@pv _ 0 _ _ (by rfl) (by first | exact Or.inl rfl | exact Or.inr (Or.inl rfl) | exact Or.inr (Or.inr rfl)) (by decide) (by decide)))) (by intro _; rfl)) (nomark _)) (@pss_one _ _ _ (@ps_ret _ _ _ _ pe_bl)) pss_nil) (@pss_cons _ _ _ _ _ (@ps_cut _ _ _ (@ps_for _ _ _ _ _ _ _ _ PassesOwn.never rfl (@pi_list _ _ _ _ (@pe_lst _ _ _ _ (@pa2 _ _ _ _ _ (@pe_callTy _ _ _ _ _ _ _ _ _ call_tuple_of (by rfl) T.n_tuple bt_tuple (@pa2 _ _ _ _ _ (@pv _ 2 _ _ (by rfl) (by first | exact Or.inl rfl | exact Or.inr (Or.inl rfl) | exact Or.inr (Or.inr rfl)) (by decide) (by decide)) pa_nil (by rfl)) (by decide) (by decide) (by rfl) (by rfl)) (@pa2 _ _ _ _ _ (@pe_callTy _ _ _ _ _ _ _ _ _ call_tuple_of (by rfl) T.n_tuple bt_tuple (@pa2 _ _ _ _ _ (pe_rev (K := K) rfl (pv 2) (po_some (pe_un un_neg pe_int)) (fun _ _ _ h => ⟨_, rfl, _, rfl, h⟩)) pa_nil (by rfl)) (by decide) (by decide) (by rfl) (by rfl)) pa_nil (by rfl)) (by rfl)))) (@pg_name _ _ (5) _ sc_l_words_right.nd (by rfl) (by first | exact Or.inl rfl | exact Or.inr rfl) (by first | exact .inl rfl | exact .inr rfl | assumption)) (@pss_cons _ _ _ _ _ (@ps_if _ _ _ _ _ _ _ _ (@pt_cmpR _ _ _ _ _ _ _ _ op_ne (@pe_call _ _ _ _ _ _ _ _ _ _ _ _ _ _ _ _ (G_passes.mono (by decide)) hr (by rfl) T.mg_passes T.F_passes.kp T.b_passes .nil pass0 (@pa2 _ _ _ _ _ (@pv _ 0 _ _ (by rfl) (by first | exact Or.inl rfl | exact Or.inr (Or.inl rfl) | exact Or.inr (Or.inr rfl)) (by decide) (by decide)) (@pa2 _ _ _ _ _ (@pe_tup _ _ _ _ _ (@pa2 _ _ _ _ _ pe_str (@pa2 _ _ _ _ _ (@pv _ 5 _ _ (by rfl) (by first | exact Or.inl rfl | exact Or.inr (Or.inl rfl) | exact Or.inr (Or.inr rfl)) (by decide) (by decide)) pa_nil (by rfl)) (by rfl))) (@pa2 _ _ _ _ _ (@pv _ 1 _ _ (by rfl) (by first | exact Or.inl rfl | exact Or.inr (Or.inl rfl) | exact Or.inr (Or.inr rfl)) (by decide) (by decide)) pa_nil (by rfl)) (by rfl)) (by rfl)) (by decide) (by rfl) (by rfl)) (@pe_cmpR _ _ _ _ _ _ _ _ op_notIn_seq pe_bl (@pv _ 3 _ _ (by rfl) (by first | exact Or.inl rfl | exact Or.inr (Or.inl rfl) | exact Or.inr (Or.inr rfl)) (by decide) (by decide)) rfl) (nomark _)) (@pss_one _ _ _ (@ps_ret _ _ _ _ pe_bl)) pss_nil) (@pss_one _ _ _ (@ps_if _ _ _ _ _ _ _ _ (@pt_cmpR _ _ _ _ _ _ _ _ op_ne (@pe_call _ _ _ _ _ _ _ _ _ _ _ _ _ _ _ _ (G_passes.mono (by decide)) hr (by rfl) T.mg_passes T.F_passes.kp T.b_passes .nil pass0 (@pa2 _ _ _ _ _ (@pv _ 0 _ _ (by rfl) (by first | exact Or.inl rfl | exact Or.inr (Or.inl rfl) | exact Or.inr (Or.inr rfl)) (by decide) (by decide)) (@pa2 _ _ _ _ _ (@pe_tup _ _ _ _ _ (@pa2 _ _ _ _ _ pe_str (@pa2 _ _ _ _ _ (@pv _ 5 _ _ (by rfl) (by first | exact Or.inl rfl | exact Or.inr (Or.inl rfl) | exact Or.inr (Or.inr rfl)) (by decide) (by decide)) pa_nil (by rfl)) (by rfl))) (@pa2 _ _ _ _ _ (@pv _ 1 _ _ (by rfl) (by first | exact Or.inl rfl | exact Or.inr (Or.inl rfl) | exact Or.inr (Or.inr rfl)) (by decide) (by decide)) pa_nil (by rfl)) (by rfl)) (by rfl)) (by decide) (by rfl) (by rfl)) (@pe_cmpR _ _ _ _ _ _ _ _ op_in_seq pe_bl (@pv _ 3 _ _ (by rfl) (by first | exact Or.inl rfl | exact Or.inr (Or.inl rfl) | exact Or.inr (Or.inr rfl)) (by decide) (by decide)) rfl) (nomark _)) (@pss_one _ _ _ (@ps_ret _ _ _ _ pe_bl)) pss_nil))) (by intro _; rfl))) (@pss_one _ _ _ (@ps_ret _ _ _ _ (@pe_cmpR _ _ _ _ _ _ _ _ op_eq (@pe_call _ _ _ _ _ _ _ _ _ _ _ _ _ _ _ _ (G_passes.mono (by decide)) hr (by rfl) T.mg_passes T.F_passes.kp T.b_passes .nil pass0 (@pa2 _ _ _ _ _ (@pv _ 0 _ _ (by rfl) (by first | exact Or.inl rfl | exact Or.inr (Or.inl rfl) | exact Or.inr (Or.inr rfl)) (by decide) (by decide)) (@pa2 _ _ _ _ _ (@pe_tup _ _ _ _ _ (@pa2 _ _ _ _ _ pe_str (@pa2 _ _ _ _ _ (@pe_tup _ _ _ _ _ (@pa2 _ _ _ _ _ pe_str (@pa2 _ _ _ _ _ (@pe_callTy _ _ _ _ _ _ _ _ _ call_tuple_of (by rfl) T.n_tuple bt_tuple (@pa2 _ _ _ _ _ (@pv _ 2 _ _ (by rfl) (by first | exact Or.inl rfl | exact Or.inr (Or.inl rfl) | exact Or.inr (Or.inr rfl)) (by decide) (by decide)) pa_nil (by rfl)) (by decide) (by decide) (by rfl) (by rfl)) pa_nil (by rfl)) (by rfl))) pa_nil (by rfl)) (by rfl))) (@pa2 _ _ _ _ _ (@pv _ 1 _ _ (by rfl) (by first | exact Or.inl rfl | exact Or.inr (Or.inl rfl) | exact Or.inr (Or.inr rfl)) (by decide) (by decide)) pa_nil (by rfl)) (by rfl)) (by rfl)) (by decide) (by rfl) (by rfl)) (@pe_call _ _ _ _ _ _ _ _ _ _ _ _ _ _ _ _ (G_passes.mono (by decide)) hr (by rfl) T.mg_passes T.F_passes.kp T.b_passes .nil pass0 (@pa2 _ _ _ _ _ (@pv _ 0 _ _ (by rfl) (by first | exact Or.inl rfl | exact Or.inr (Or.inl rfl) | exact Or.inr (Or.inr rfl)) (by decide) (by decide)) (@pa2 _ _ _ _ _ (@pe_tup _ _ _ _ _ (@pa2 _ _ _ _ _ pe_str (@pa2 _ _ _ _ _ (@pv _ 4 _ _ (by rfl) (by first | exact Or.inl rfl | exact Or.inr (Or.inl rfl) | exact Or.inr (Or.inr rfl)) (by decide) (by decide)) pa_nil (by rfl)) (by rfl))) (@pa2 _ _ _ _ _ (@pv _ 1 _ _ (by rfl) (by first | exact Or.inl rfl | exact Or.inr (Or.inl rfl) | exact Or.inr (Or.inr rfl)) (by decide) (by decide)) pa_nil (by rfl)) (by rfl)) (by rfl)) (by decide) (by rfl) (by rfl)) (nomark _)))))))), ?_⟩
    -- told
    try dsimp only [tSeq, tAsg, gName]
    refine Md.run (mk_compL (ds := ds) (fun d => .bool (passN cs k ws 8 d)) (by omega) (mk_var (i := 2) rfl sD) (fun d x H2 hd s2 hx R hR => ?_)) fun v1 H1 s1 hv1 => ?_
    · exact ⟨_, rfl, _, rfl, _, rfl, cx, x, rx, cs, d, k, ws, rfl, Sx.same s2 _ hc, hg, hx, gs_mono (hgs d hd) (by decide), Sx.same s2 _ hrow, hok, hR _ H2 (Same.refl H2) (sx_bl _)⟩
    have hm1 : (ds.map fun d => PyData.bool (passN cs k ws 8 d)) = (ds.map (passN cs k ws 5)).map PyData.bool := by
      rw [List.map_map]
      exact List.map_congr_left fun d hd => congrArg PyData.bool (eq8 hd (by decide))
    rw [hm1] at hv1
    -- nots
    try dsimp only [tSeq, tAsg, gName]
    refine Md.run (mk_tupof (mk_compL (ds := ds) (fun d => .tuple [.str "not", d]) (by omega) (mk_var (i := 2) rfl (Sx.same s1 _ sD)) (fun d x H2 hd s2 hx R hR => ?_))) fun v2 H2 s2 hv2 => ?_
    · exact ((mk_tup (mkA_cons (mk_str (by decide)) (mkA_cons (mk_var (i := 0) rfl hx) mkA_nil)) (Nat.le_of_ble_eq_true rfl)) : Md _ _ H2 (.tuple [.str "not", d])) H2 (Same.refl H2) R hR
    have s02 := s1.trans s2
    have hv1' := Sx.same s2 _ hv1
    -- each the other way round
    try dsimp only [tSeq, tIfS, tTest, tOp]
    refine Md.run (mk_compT (ds := ds.map fun d => .tuple [.str "not", d]) (fun d => .bool (passN cs k ws 8 d)) (by rw [List.length_map]; omega) (mk_var (i := 4) rfl hv2) (fun d x H3 hd s3 hx R hR => ?_)) fun v3 H3 s3 hv3 => ?_
    · obtain ⟨d', hd', rfl⟩ := List.mem_map.mp hd
      exact ⟨_, rfl, _, rfl, _, rfl, cx, x, rx, cs, _, k, ws, rfl, Sx.same (s02.trans s3) _ hc, hg, hx, .inr (.inl ⟨d', rfl, gs_mono (hgs d' hd') (by decide)⟩), Sx.same (s02.trans s3) _ hrow, hok, hR _ H3 (Same.refl H3) (sx_bl _)⟩
    have hm3 : ((ds.map fun d => PyData.tuple [.str "not", d]).map fun d => PyData.bool (passN cs k ws 8 d)) = ((ds.map (passN cs k ws 5)).map (!·)).map PyData.bool := by
      rw [List.map_map, List.map_map, List.map_map]
      refine List.map_congr_left fun d hd => ?_
      show PyData.bool (passN cs k ws 8 (.tuple [.str "not", d])) = PyData.bool (!passN cs k ws 5 d)
      rw [pass_not, eq8 hd (by decide)]
    rw [hm3] at hv3
    refine Md.run (mk_compL (ds := (ds.map (passN cs k ws 5)).map PyData.bool) notD (by rw [List.length_map, List.length_map]; omega) (mk_var (i := 3) rfl (Sx.same s3 _ hv1')) (fun d x H4 hd s4 hx R hR => ?_)) fun v4 H4 s4 hv4 => ?_
    · obtain ⟨b, hb, rfl⟩ := List.mem_map.mp hd
      have ex : x = .bl b := by simpa only [Sx] using hx
      subst ex
      exact ⟨_, rfl, _, rfl, hR _ H4 (Same.refl H4) (sx_bl _)⟩
    have hm4 : ((ds.map (passN cs k ws 5)).map PyData.bool).map notD = ((ds.map (passN cs k ws 5)).map (!·)).map PyData.bool := by
      rw [List.map_map, List.map_map, List.map_map, List.map_map]
      exact List.map_congr_left fun d hd => rfl
    rw [hm4] at hv4
    have blay := bools_lay ((ds.map (passN cs k ws 5)).map (!·))
    refine ⟨_, _, Sx.dt _ blay (Sx.same s4 _ hv3), Sx.dt _ blay hv4, blay, blay, .inl (bools_depth _), false, (by show V.bl (!PyData.eqv _ _) = V.bl false; rw [SeqAt.eqv_refl _ blay]; rfl), iteF ?_⟩
    have s04 := (s02.trans s3).trans s4
    obtain ⟨lt, yt, rfl, elt, hyt⟩ := Sx.lst (Sx.same (s3.trans s4) _ hv1')
    have eyt := sx_bools hyt
    subst eyt
    have hv2' := Sx.same (s3.trans s4) _ hv2
    -- and, or of them all
    try dsimp only [tNext, tSeq]
    refine ⟨fun σ' H' => Same H4 H' ∧ ∃ v5, σ' = [some cx, some rx, some (.ref ls), some (.ref lt), some v2, v5], ?_, ?_⟩
    · have items : ∀ d ∈ [PyData.tuple ds, .tuple ds.reverse], ∃ es : List PyData, d = .tuple es ∧ es.length ≤ 8 ∧ (∀ e ∈ es, GsD cs 5 e) ∧ es.all (passN cs k ws 5) = ds.all (passN cs k ws 5) ∧ es.any (passN cs k ws 5) = ds.any (passN cs k ws 5) := by
        intro d hd
        simp only [List.mem_cons, List.not_mem_nil, or_false] at hd
        rcases hd with rfl | rfl
        · exact ⟨ds, rfl, hd8, hgs, rfl, rfl⟩
        · exact ⟨ds.reverse, rfl, by rw [List.length_reverse]; exact hd8, fun e he => hgs e (List.mem_reverse.mp he), List.all_reverse, List.any_reverse⟩
      refine for_data (ds := [.tuple ds, .tuple ds.reverse]) (fun σ' => ∃ v5, σ' = [some cx, some rx, some (.ref ls), some (.ref lt), some v2, v5]) (mk_lst (mkA_cons (mk_tupof (mk_var (i := 2) rfl (Sx.same s04 _ sD))) (mkA_cons (mk_tupof (mk_rev (mk_var (i := 2) rfl (Sx.same s04 _ sD)))) mkA_nil)) (Nat.le_of_ble_eq_true rfl)) ⟨none, rfl⟩ (fun j d y σ' H5 hj s5 hy hI N hN => ?_) (fun σ' H5 s5 hI => ⟨s5, hI⟩)
      obtain ⟨v5, rfl⟩ := hI
      obtain ⟨es, rfl, he8, heg, hall, hany⟩ := items d (List.mem_of_getElem? hj)
      have e7 : ∀ {e : PyData}, e ∈ es → passN cs k ws 7 e = passN cs k ws 5 e := fun he => pass_mono (heg _ he) (by decide)
      have s05 := s04.trans s5
      refine ⟨_, rfl, _, rfl, sm (show 2 ≤ 1000 by decide), fun p6 hp6 => ?_⟩
      generalize hH6 : upd H5 p6 _ = H6
      have s6 : Same H5 H6 := hH6 ▸ same_new hp6
      have sp6 : Sx H6 (.tuple [.str "and", .tuple es]) (.ref p6) := sx_tup (hH6 ▸ upd_same) (sx_cons (sx_str (sm (by decide))) (sx_cons (Sx.same s6 _ hy) sx_nil))
      have s06 := s05.trans s6
      refine ⟨_, rfl, cx, .ref p6, rx, cs, _, k, ws, rfl, Sx.same s06 _ hc, hg, sp6, .inr (.inr ⟨"and", es, .inl rfl, rfl, he8, fun e he => gs_mono (heg e he) (by decide)⟩), Sx.same s06 _ hrow, hok, ?_⟩
      have elt6 := s6 _ _ (s5 _ _ elt)
      refine ⟨_, rfl, lt, _, rfl, .inl (SqL.of elt6), rfl, (by rw [List.all_map]; exact List.all_eq_true.mpr fun _ _ => rfl), rfl, false, ?_, iteF ?_⟩
      · show V.bl (!decide (V.bl (passN cs k ws 8 (.tuple [.str "and", .tuple es])) = V.bl (!inV (.bl false) ((ds.map (passN cs k ws 5)).map V.bl)))) = V.bl false
        rw [pass_and, in_bools, no_false, List.all_map, all_cong fun e he => e7 he, hall]
        simp
      refine ⟨_, rfl, _, rfl, sm (show 2 ≤ 1000 by decide), fun p7 hp7 => ?_⟩
      generalize hH7 : upd H6 p7 _ = H7
      have s7 : Same H6 H7 := hH7 ▸ same_new hp7
      have sp7 : Sx H7 (.tuple [.str "or", .tuple es]) (.ref p7) := sx_tup (hH7 ▸ upd_same) (sx_cons (sx_str (sm (by decide))) (sx_cons (Sx.same (s6.trans s7) _ hy) sx_nil))
      have s07 := s06.trans s7
      refine ⟨_, rfl, cx, .ref p7, rx, cs, _, k, ws, rfl, Sx.same s07 _ hc, hg, sp7, .inr (.inr ⟨"or", es, .inr rfl, rfl, he8, fun e he => gs_mono (heg e he) (by decide)⟩), Sx.same s07 _ hrow, hok, ?_⟩
      refine ⟨_, rfl, lt, _, rfl, .inl (SqL.of (s7 _ _ elt6)), rfl, (by rw [List.all_map]; exact List.all_eq_true.mpr fun _ _ => rfl), rfl, false, ?_, iteF ?_⟩
      · show V.bl (!decide (V.bl (passN cs k ws 8 (.tuple [.str "or", .tuple es])) = V.bl (inV (.bl true) ((ds.map (passN cs k ws 5)).map V.bl)))) = V.bl false
        rw [pass_or, in_bools, some_true, List.any_map, any_cong fun e he => e7 he, hany]
        simp
      exact hN _ _ (s6.trans s7) ⟨_, rfl⟩
    · rintro σ' H5 ⟨s5, v5, rfl⟩
      have s05 := s04.trans s5
      refine ⟨_, rfl, _, rfl, ls, ys, rfl, .inl ⟨SqL.of (s05 _ _ els), fun p6 hp6 => ?_⟩⟩
      generalize hH6 : upd H5 p6 _ = H6
      have s6 : Same H5 H6 := hH6 ▸ same_new hp6
      have e6 : H6 p6 = some (.tup ys) := hH6 ▸ upd_same
      refine ⟨sm (show 2 ≤ 1000 by decide), fun p7 hp7 => ?_⟩
      generalize hH7 : upd H6 p7 _ = H7
      have s7 : Same H6 H7 := hH7 ▸ same_new hp7
      have e7 : H7 p7 = some (.tup [.str "and", .ref p6]) := hH7 ▸ upd_same
      refine ⟨sm (show 2 ≤ 1000 by decide), fun p8 hp8 => ?_⟩
      generalize hH8 : upd H7 p8 _ = H8
      have s8 : Same H7 H8 := hH8 ▸ same_new hp8
      have e8 : H8 p8 = some (.tup [.str "not", .ref p7]) := hH8 ▸ upd_same
      have s08 := ((s05.trans s6).trans s7).trans s8
      have sp8 : Sx H8 (.tuple [.str "not", .tuple [.str "and", .tuple ds]]) (.ref p8) := sx_tup e8 (sx_cons (sx_str (sm (by decide))) (sx_cons (sx_tup (s8 _ _ e7) (sx_cons (sx_str (sm (by decide))) (sx_cons (sx_tup ((s7.trans s8) _ _ e6) (SxAll.same s08 _ hds)) sx_nil))) sx_nil))
      refine ⟨_, rfl, cx, .ref p8, rx, cs, _, k, ws, rfl, Sx.same s08 _ hc, hg, sp8, .inr (.inl ⟨_, rfl, .inr (.inr ⟨"and", ds, .inl rfl, rfl, hd8, fun e he => gs_mono (hgs e he) (by decide)⟩)⟩), Sx.same s08 _ hrow, hok, ?_⟩
      refine ⟨_, rfl, _, rfl, sm (show 2 ≤ 1000 by decide), fun p9 hp9 => ?_⟩
      generalize hH9 : upd H8 p9 _ = H9
      have s9 : Same H8 H9 := hH9 ▸ same_new hp9
      have s49 := (((s5.trans s6).trans s7).trans s8).trans s9
      have s09 := s08.trans s9
      have sp9 : Sx H9 (.tuple [.str "or", .tuple (ds.map fun d => .tuple [.str "not", d])]) (.ref p9) := sx_tup (hH9 ▸ upd_same) (sx_cons (sx_str (sm (by decide))) (sx_cons (Sx.same s49 _ hv2') sx_nil))
      refine ⟨_, rfl, cx, .ref p9, rx, cs, _, k, ws, rfl, Sx.same s09 _ hc, hg, sp9, .inr (.inr ⟨"or", _, .inr rfl, rfl, by rw [List.length_map]; exact hd8, fun e he => ?_⟩), Sx.same s09 _ hrow, hok, rfl, ?_⟩
      · obtain ⟨d', hd', rfl⟩ := List.mem_map.mp he
        exact .inr (.inl ⟨d', rfl, gs_mono (hgs d' hd') (by decide)⟩)
      · have := q H9 s09
        have eL : passN cs k ws 8 (.tuple [.str "not", .tuple [.str "and", .tuple ds]]) = !ds.all (passN cs k ws 5) := by
          rw [pass_not, pass_and, all_cong fun e he => eq8 he (by decide)]
        have eR : passN cs k ws 8 (.tuple [.str "or", .tuple (ds.map fun d => .tuple [.str "not", d])]) = !ds.all (passN cs k ws 5) := by
          rw [pass_or, List.any_map, List.not_all_eq_any_not]
          refine any_cong fun d hd => ?_
          show passN cs k ws 7 (.tuple [.str "not", d]) = !passN cs k ws 5 d
          rw [pass_not, eq8 hd (by decide)]
        rw [eL, eR]
        have e1 : decide (V.bl (!ds.all (passN cs k ws 5)) = V.bl (!ds.all (passN cs k ws 5))) = true := decide_eq_true rfl
        rw [e1]
        exact this
end
end My
set_option Elab.async false
set_option linter.all false
set_option maxRecDepth 100000
set_option maxHeartbeats 4000000
namespace My
open PySem L2
section
variable {P : Program} {w : World} {K : PySem.W.Frag} {mg : Str → Option Value} {base : Heap} {t : Adr}
theorem ok_law (T : Txt K mg t) : FnOk P w K mg base CX0 13 t.f_law t.d_law ["_law_script"] (sp_law K) := by
  have G_l_well : FnOk P w K mg base CX0 1 t.f_l_well t.d_l_well ["_law_script", "_law_k"] (spWell K) := ok_well T
  have G_l_draw : FnOk P w K mg base CX0 1 t.f_l_draw t.d_l_draw ["_law_well_here", "_law_most"] spDraw := ok_draw T
  have G_l_columns : FnOk P w K mg base CX0 2 t.f_l_columns t.d_l_columns ["_law_well_here"] spCols := ok_columns T
  have G_l_key : FnOk P w K mg base CX0 2 t.f_l_key t.d_l_key ["_law_well_here"] spKey := ok_key T
  have G_l_value : FnOk P w K mg base CX0 3 t.f_l_value t.d_l_value ["_law_well_here", "_law_kind"] spVal := ok_value T
  have G_l_sieve : FnOk P w K mg base CX0 9 t.f_l_sieve t.d_l_sieve ["_law_well_here", "_law_columns_here", "_law_deep", "_law_room"] (spSieve 5) := ok_sieve T 5
  have G_passes : FnOk P w K mg base CX0 10 t.f_passes t.d_passes ["columns", "sieve", "row"] (spPass 8) := ok_passes T 8
  have G_l_values_right : FnOk P w K mg base CX0 12 t.f_l_values_right t.d_l_values_right ["_law_columns_here", "_law_row", "_law_well_here"] spVR := ok_values_right T
  have G_l_words_right : FnOk P w K mg base CX0 11 t.f_l_words_right t.d_l_words_right ["_law_columns_here", "_law_row", "_law_sieves"] spWR := ok_words_right T
  refine T.F_law.ok sc_law (fun vs H Q E h => ?_) (fun cdv A outer s H vs Q E hr h => ?_)
  · obtain ⟨a, ns, rfl, _⟩ := h
    rfl
  · obtain ⟨a, ns, rfl, hS, hlen, q⟩ := h
    refine ⟨_, (@pss_cons _ _ _ _ _ (@ps_set _ _ (1) _ _ _ _ sc_law.nd (by rfl) (by first | exact Or.inl rfl | exact Or.inr rfl) (@pe_call _ _ _ _ _ _ _ _ _ _ _ _ _ _ _ _ (G_l_well.mono (by decide)) hr (by rfl) T.mg_l_well T.F_l_well.kp T.b_l_well .nil pass0 (@pa2 _ _ _ _ _ (@pv _ 0 _ _ (by rfl) (by first | exact Or.inl rfl | exact Or.inr (Or.inl rfl) | exact Or.inr (Or.inr rfl)) (by decide) (by decide)) (@pa2 _ _ _ _ _ pe_int pa_nil (by rfl)) (by rfl)) (by decide) (by rfl) (by rfl)) (by rfl) (by first | exact .inl rfl | exact .inr rfl | assumption)) (@pss_cons _ _ _ _ _ (@ps_set _ _ (2) _ _ _ _ sc_law.nd (by rfl) (by first | exact Or.inl rfl | exact Or.inr rfl) (@pe_call _ _ _ _ _ _ _ _ _ _ _ _ _ _ _ _ (G_l_columns.mono (by decide)) hr (by rfl) T.mg_l_columns T.F_l_columns.kp T.b_l_columns .nil pass0 (@pa2 _ _ _ _ _ (@pv _ 1 _ _ (by rfl) (by first | exact Or.inl rfl | exact Or.inr (Or.inl rfl) | exact Or.inr (Or.inr rfl)) (by decide) (by decide)) pa_nil (by rfl)) (by decide) (by rfl) (by rfl)) (by rfl) (by first | exact .inl rfl | exact .inr rfl | assumption)) (@pss_cons _ _ _ _ _ (@ps_set _ _ (3) _ _ _ _ sc_law.nd (by rfl) (by first | exact Or.inl rfl | exact Or.inr rfl) (@pe_lst _ _ _ _ pa_nil) (by rfl) (by first | exact .inl rfl | exact .inr rfl | assumption)) (@pss_cons _ _ _ _ _ (@ps_cut _ _ _ (@ps_for _ _ _ _ _ _ _ _ PassesOwn.never rfl (@pi_range1 _ _ _ _ _ _ (by rfl) T.n_range (@pa2 _ _ _ _ _ (@pe_op _ _ _ _ _ _ _ _ op_add pe_int (@pe_call _ _ _ _ _ _ _ _ _ _ _ _ _ _ _ _ (G_l_draw.mono (by decide)) hr (by rfl) T.mg_l_draw T.F_l_draw.kp T.b_l_draw .nil pass0 (@pa2 _ _ _ _ _ (@pv _ 1 _ _ (by rfl) (by first | exact Or.inl rfl | exact Or.inr (Or.inl rfl) | exact Or.inr (Or.inr rfl)) (by decide) (by decide)) (@pa2 _ _ _ _ _ pe_int pa_nil (by rfl)) (by rfl)) (by decide) (by rfl) (by rfl))) pa_nil (by rfl)) (by rfl)) (@pg_name _ _ (4) _ sc_law.nd (by rfl) (by first | exact Or.inl rfl | exact Or.inr rfl) (by first | exact .inl rfl | exact .inr rfl | assumption)) (@pss_one _ _ _ (@ps_expr _ _ _ _ (@pe_bm _ _ _ _ _ _ _ _ _ _ _ _ PySem.F.plainAttrs_list PySem.F.slot_list_append PySem.F.type_list_append mt_append (@pv _ 3 _ _ (by rfl) (by first | exact Or.inl rfl | exact Or.inr (Or.inl rfl) | exact Or.inr (Or.inr rfl)) (by decide) (by decide)) (@pa2 _ _ _ _ _ (@pe_tup _ _ _ _ _ (@pa2 _ _ _ _ _ (@pe_call _ _ _ _ _ _ _ _ _ _ _ _ _ _ _ _ (G_l_key.mono (by decide)) hr (by rfl) T.mg_l_key T.F_l_key.kp T.b_l_key .nil pass0 (@pa2 _ _ _ _ _ (@pv _ 1 _ _ (by rfl) (by first | exact Or.inl rfl | exact Or.inr (Or.inl rfl) | exact Or.inr (Or.inr rfl)) (by decide) (by decide)) pa_nil (by rfl)) (by decide) (by rfl) (by rfl)) (@pa2 _ _ _ _ _ (@pe_callTy _ _ _ _ _ _ _ _ _ call_tuple_of (by rfl) T.n_tuple bt_tuple (@pa2 _ _ _ _ _ (@pe_comp _ (["_law_name", "_law_kind", "_law_well_here"]) ([none, none, some 1]) _ _ _ _ _ _ _ _ _ _ (csc (defScope s_law) ["_law_script", "_law_well_here", "_law_columns_here", "_law_rows", "_law_k", "_law_row", "_law_sieves", "_law_keys", "_law_key_here", "_law_worths"] rfl rfl (by decide +kernel)) rfl (@pi_tup _ _ _ _ (@pv _ 2 _ _ (by rfl) (by first | exact Or.inl rfl | exact Or.inr (Or.inl rfl) | exact Or.inr (Or.inr rfl)) (by decide) (by decide))) (fun _ _ _ _ _ => (@pg_tupK _ (K) _ _ _ _ (2) rfl rfl (@pgs_cons _ _ _ _ _ (@pg_name _ _ (0) _ (show (["_law_name", "_law_kind", "_law_well_here"] : List Str).Nodup by decide +kernel) (by rfl) (by first | exact Or.inl rfl | exact Or.inr rfl) (by first | exact .inl rfl | exact .inr rfl | assumption)) (@pgs_cons _ _ _ _ _ (@pg_name _ _ (1) _ (show (["_law_name", "_law_kind", "_law_well_here"] : List Str).Nodup by decide +kernel) (by rfl) (by first | exact Or.inl rfl | exact Or.inr rfl) (by first | exact .inl rfl | exact .inr rfl | assumption)) pgs_nil (by rfl)) (by rfl)) (by rfl) (by rfl))) (gx_tup2 rfl rfl) (fun _ _ _ _ _ => pif_nil) (fun _ _ _ _ _ => (@pe_call _ _ _ _ _ _ _ _ _ _ _ _ _ _ _ _ (G_l_value.mono (by decide)) hr (by rfl) T.mg_l_value T.F_l_value.kp T.b_l_value .nil pass0 (@pa2 _ _ _ _ _ (@pv _ 2 _ _ (by rfl) (by first | exact Or.inl rfl | exact Or.inr (Or.inl rfl) | exact Or.inr (Or.inr rfl)) (by decide) (by decide)) (@pa2 _ _ _ _ _ (@pv _ 1 _ _ (by rfl) (by first | exact Or.inl rfl | exact Or.inr (Or.inl rfl) | exact Or.inr (Or.inr rfl)) (by decide) (by decide)) pa_nil (by rfl)) (by rfl)) (by decide) (by rfl) (by rfl))) (by intro _; rfl)) pa_nil (by rfl)) (by decide) (by decide) (by rfl) (by rfl)) pa_nil (by rfl)) (by rfl))) pa_nil (by rfl)) (by rfl) (by rfl) (by rfl) (by rfl) (by rfl)) (by rfl))) (by intro _; rfl))) (@pss_cons _ _ _ _ _ (@ps_cut _ _ _ (@ps_for _ _ _ _ _ _ _ _ PassesOwn.never rfl (@pi_range2 _ _ _ _ _ _ _ (by rfl) T.n_range (@pa2 _ _ _ _ _ pe_int (@pa2 _ _ _ _ _ pe_int pa_nil (by rfl)) (by rfl)) (by rfl) (by rfl)) (@pg_name _ _ (4) _ sc_law.nd (by rfl) (by first | exact Or.inl rfl | exact Or.inr rfl) (by first | exact .inl rfl | exact .inr rfl | assumption)) (@pss_cons _ _ _ _ _ (@ps_set _ _ (1) _ _ _ _ sc_law.nd (by rfl) (by first | exact Or.inl rfl | exact Or.inr rfl) (@pe_call _ _ _ _ _ _ _ _ _ _ _ _ _ _ _ _ (G_l_well.mono (by decide)) hr (by rfl) T.mg_l_well T.F_l_well.kp T.b_l_well .nil pass0 (@pa2 _ _ _ _ _ (@pv _ 0 _ _ (by rfl) (by first | exact Or.inl rfl | exact Or.inr (Or.inl rfl) | exact Or.inr (Or.inr rfl)) (by decide) (by decide)) (@pa2 _ _ _ _ _ (@pv _ 4 _ _ (by rfl) (by first | exact Or.inl rfl | exact Or.inr (Or.inl rfl) | exact Or.inr (Or.inr rfl)) (by decide) (by decide)) pa_nil (by rfl)) (by rfl)) (by decide) (by rfl) (by rfl)) (by rfl) (by first | exact .inl rfl | exact .inr rfl | assumption)) (@pss_cons _ _ _ _ _ (@ps_set _ _ (5) _ _ _ _ sc_law.nd (by rfl) (by first | exact Or.inl rfl | exact Or.inr rfl) (@pe_ix _ _ _ _ _ _ _ ix_list (@pv _ 3 _ _ (by rfl) (by first | exact Or.inl rfl | exact Or.inr (Or.inl rfl) | exact Or.inr (Or.inr rfl)) (by decide) (by decide)) (@pe_call _ _ _ _ _ _ _ _ _ _ _ _ _ _ _ _ (G_l_draw.mono (by decide)) hr (by rfl) T.mg_l_draw T.F_l_draw.kp T.b_l_draw .nil pass0 (@pa2 _ _ _ _ _ (@pv _ 1 _ _ (by rfl) (by first | exact Or.inl rfl | exact Or.inr (Or.inl rfl) | exact Or.inr (Or.inr rfl)) (by decide) (by decide)) (@pa2 _ _ _ _ _ (@pe_callB _ _ _ _ _ _ _ _ _ call_len (by rfl) T.n_len bt_len (@pa2 _ _ _ _ _ (@pv _ 3 _ _ (by rfl) (by first | exact Or.inl rfl | exact Or.inr (Or.inl rfl) | exact Or.inr (Or.inr rfl)) (by decide) (by decide)) pa_nil (by rfl)) (by decide) (by decide) (by rfl) (by rfl)) pa_nil (by rfl)) (by rfl)) (by decide) (by rfl) (by rfl)) (fun _ _ => rfl)) (by rfl) (by first | exact .inl rfl | exact .inr rfl | assumption)) (@pss_cons _ _ _ _ _ (@ps_setcomp _ (["_law_j", "_law_well_here", "_law_columns_here"]) ([none, some 1, some 2]) _ _ _ _ _ _ _ _ _ _ (6) _ _ _ sc_law.nd (by rfl) rfl (csc (defScope s_law) ["_law_script", "_law_well_here", "_law_columns_here", "_law_rows", "_law_k", "_law_row", "_law_sieves", "_law_keys", "_law_key_here", "_law_worths"] rfl rfl (by decide +kernel)) rfl (@pi_range1 _ _ _ _ _ _ (by rfl) T.n_range (@pa2 _ _ _ _ _ (@pe_call _ _ _ _ _ _ _ _ _ _ _ _ _ _ _ _ (G_l_draw.mono (by decide)) hr (by rfl) T.mg_l_draw T.F_l_draw.kp T.b_l_draw .nil pass0 (@pa2 _ _ _ _ _ (@pv _ 1 _ _ (by rfl) (by first | exact Or.inl rfl | exact Or.inr (Or.inl rfl) | exact Or.inr (Or.inr rfl)) (by decide) (by decide)) (@pa2 _ _ _ _ _ pe_int pa_nil (by rfl)) (by rfl)) (by decide) (by rfl) (by rfl)) pa_nil (by rfl)) (by rfl)) (fun _ _ _ _ _ => (@pg_name _ _ (0) _ (show (["_law_j", "_law_well_here", "_law_columns_here"] : List Str).Nodup by decide +kernel) (by rfl) (by first | exact Or.inl rfl | exact Or.inr rfl) (by first | exact .inl rfl | exact .inr rfl | assumption))) (gx_name rfl) (fun _ _ _ _ _ => pif_nil) (fun _ _ _ _ _ => (@pe_call _ _ _ _ _ _ _ _ _ _ _ _ _ _ _ _ (G_l_sieve.mono (by decide)) hr (by rfl) T.mg_l_sieve T.F_l_sieve.kp T.b_l_sieve .nil pass0 (@pa2 _ _ _ _ _ (@pv _ 1 _ _ (by rfl) (by first | exact Or.inl rfl | exact Or.inr (Or.inl rfl) | exact Or.inr (Or.inr rfl)) (by decide) (by decide)) (@pa2 _ _ _ _ _ (@pv _ 2 _ _ (by rfl) (by first | exact Or.inl rfl | exact Or.inr (Or.inl rfl) | exact Or.inr (Or.inr rfl)) (by decide) (by decide)) (@pa2 _ _ _ _ _ (@pe_op _ _ _ _ _ _ _ _ op_add pe_int (@pe_call _ _ _ _ _ _ _ _ _ _ _ _ _ _ _ _ (G_l_draw.mono (by decide)) hr (by rfl) T.mg_l_draw T.F_l_draw.kp T.b_l_draw .nil pass0 (@pa2 _ _ _ _ _ (@pv _ 1 _ _ (by rfl) (by first | exact Or.inl rfl | exact Or.inr (Or.inl rfl) | exact Or.inr (Or.inr rfl)) (by decide) (by decide)) (@pa2 _ _ _ _ _ pe_int pa_nil (by rfl)) (by rfl)) (by decide) (by rfl) (by rfl))) (@pa2 _ _ _ _ _ (@pe_lst _ _ _ _ (@pa2 _ _ _ _ _ pe_int pa_nil (by rfl))) pa_nil (by rfl)) (by rfl)) (by rfl)) (by rfl)) (by decide) (by rfl) (by rfl))) (by rfl) (by intro _; rfl)) (@pss_one _ _ _ (@ps_if _ _ _ _ _ _ _ _ (@PW.pt _ _ _ (@pw_or _ _ _ _ _ _ _ (@pt_not _ _ _ _ (@pt_val _ _ _ (@pe_call _ _ _ _ _ _ _ _ _ _ _ _ _ _ _ _ (G_l_values_right.mono (by decide)) hr (by rfl) T.mg_l_values_right T.F_l_values_right.kp T.b_l_values_right .nil pass0 (@pa2 _ _ _ _ _ (@pv _ 2 _ _ (by rfl) (by first | exact Or.inl rfl | exact Or.inr (Or.inl rfl) | exact Or.inr (Or.inr rfl)) (by decide) (by decide)) (@pa2 _ _ _ _ _ (@pv _ 5 _ _ (by rfl) (by first | exact Or.inl rfl | exact Or.inr (Or.inl rfl) | exact Or.inr (Or.inr rfl)) (by decide) (by decide)) (@pa2 _ _ _ _ _ (@pv _ 1 _ _ (by rfl) (by first | exact Or.inl rfl | exact Or.inr (Or.inl rfl) | exact Or.inr (Or.inr rfl)) (by decide) (by decide)) pa_nil (by rfl)) (by rfl)) (by rfl)) (by decide) (by rfl) (by rfl)) (by intro _; rfl))) (@pw_or1 _ _ _ _ (@pt_not _ _ _ _ (@pt_val _ _ _ (@pe_call _ _ _ _ _ _ _ _ _ _ _ _ _ _ _ _ (G_l_words_right.mono (by decide)) hr (by rfl) T.mg_l_words_right T.F_l_words_right.kp T.b_l_words_right .nil pass0 (@pa2 _ _ _ _ _ (@pv _ 2 _ _ (by rfl) (by first | exact Or.inl rfl | exact Or.inr (Or.inl rfl) | exact Or.inr (Or.inr rfl)) (by decide) (by decide)) (@pa2 _ _ _ _ _ (@pv _ 5 _ _ (by rfl) (by first | exact Or.inl rfl | exact Or.inr (Or.inl rfl) | exact Or.inr (Or.inr rfl)) (by decide) (by decide)) (@pa2 _ _ _ _ _ (@pv _ 6 _ _ (by rfl) (by first | exact Or.inl rfl | exact Or.inr (Or.inl rfl) | exact Or.inr (Or.inr rfl)) (by decide) (by decide)) pa_nil (by rfl)) (by rfl)) (by rfl)) (by decide) (by rfl) (by rfl)) (by intro _; rfl)))))) (@pss_one _ _ _ (@ps_ret _ _ _ _ pe_bl)) pss_nil))))) (by intro _; rfl))) (@pss_cons _ _ _ _ _ (@ps_set _ _ (7) _ _ _ _ sc_law.nd (by rfl) (by first | exact Or.inl rfl | exact Or.inr rfl) (@pe_lst _ _ _ _ pa_nil) (by rfl) (by first | exact .inl rfl | exact .inr rfl | assumption)) (@pss_cons _ _ _ _ _ (@ps_cut _ _ _ (@ps_for _ _ _ _ _ _ _ _ PassesOwn.never rfl (@pi_list _ _ _ _ (@pv _ 3 _ _ (by rfl) (by first | exact Or.inl rfl | exact Or.inr (Or.inl rfl) | exact Or.inr (Or.inr rfl)) (by decide) (by decide))) (@pg_tup _ _ _ _ _ (2) rfl (@pgs_cons _ _ _ _ _ (@pg_name _ _ (8) _ sc_law.nd (by rfl) (by first | exact Or.inl rfl | exact Or.inr rfl) (by first | exact .inl rfl | exact .inr rfl | assumption)) (@pgs_cons _ _ _ _ _ (@pg_name _ _ (9) _ sc_law.nd (by rfl) (by first | exact Or.inl rfl | exact Or.inr rfl) (by first | exact .inl rfl | exact .inr rfl | assumption)) pgs_nil (by rfl)) (by rfl)) (by rfl) (by rfl)) (@pss_one _ _ _ (@ps_if _ _ _ _ _ _ _ _ (@PW.pt _ _ _ (@pw_and _ _ _ _ _ _ _ (@pt_cmpR _ _ _ _ _ _ _ _ op_notIn_seq (@pv _ 8 _ _ (by rfl) (by first | exact Or.inl rfl | exact Or.inr (Or.inl rfl) | exact Or.inr (Or.inr rfl)) (by decide) (by decide)) (@pv _ 7 _ _ (by rfl) (by first | exact Or.inl rfl | exact Or.inr (Or.inl rfl) | exact Or.inr (Or.inr rfl)) (by decide) (by decide)) rfl) (@pw_and1 _ _ _ _ (@pt_cmpR _ _ _ _ _ _ _ _ op_lt (@pe_callB _ _ _ _ _ _ _ _ _ call_len (by rfl) T.n_len bt_len (@pa2 _ _ _ _ _ (@pv _ 7 _ _ (by rfl) (by first | exact Or.inl rfl | exact Or.inr (Or.inl rfl) | exact Or.inr (Or.inr rfl)) (by decide) (by decide)) pa_nil (by rfl)) (by decide) (by decide) (by rfl) (by rfl)) pe_int (nomark _))))) (@pss_one _ _ _ (@ps_expr _ _ _ _ (@pe_bm _ _ _ _ _ _ _ _ _ _ _ _ PySem.F.plainAttrs_list PySem.F.slot_list_append PySem.F.type_list_append mt_append (@pv _ 7 _ _ (by rfl) (by first | exact Or.inl rfl | exact Or.inr (Or.inl rfl) | exact Or.inr (Or.inr rfl)) (by decide) (by decide)) (@pa2 _ _ _ _ _ (@pv _ 8 _ _ (by rfl) (by first | exact Or.inl rfl | exact Or.inr (Or.inl rfl) | exact Or.inr (Or.inr rfl)) (by decide) (by decide)) pa_nil (by rfl)) (by rfl) (by rfl) (by rfl) (by rfl) (by rfl)) (by rfl))) pss_nil)) (by intro _; rfl))) (@pss_cons _ _ _ _ _ (@ps_cut _ _ _ (@ps_for _ _ _ _ _ _ _ _ PassesOwn.never rfl (@pi_list _ _ _ _ (@pv _ 3 _ _ (by rfl) (by first | exact Or.inl rfl | exact Or.inr (Or.inl rfl) | exact Or.inr (Or.inr rfl)) (by decide) (by decide))) (@pg_name _ _ (5) _ sc_law.nd (by rfl) (by first | exact Or.inl rfl | exact Or.inr rfl) (by first | exact .inl rfl | exact .inr rfl | assumption)) (@pss_cons _ _ _ _ _ (@ps_if _ _ _ _ _ _ _ _ (@pt_cmpR _ _ _ _ _ _ _ _ op_ne (@pe_call _ _ _ _ _ _ _ _ _ _ _ _ _ _ _ _ (G_passes.mono (by decide)) hr (by rfl) T.mg_passes T.F_passes.kp T.b_passes .nil pass0 (@pa2 _ _ _ _ _ (@pv _ 2 _ _ (by rfl) (by first | exact Or.inl rfl | exact Or.inr (Or.inl rfl) | exact Or.inr (Or.inr rfl)) (by decide) (by decide)) (@pa2 _ _ _ _ _ (@pe_tup _ _ _ _ _ (@pa2 _ _ _ _ _ pe_str (@pa2 _ _ _ _ _ (@pe_callTy _ _ _ _ _ _ _ _ _ call_tuple_of (by rfl) T.n_tuple bt_tuple (@pa2 _ _ _ _ _ (@pv _ 7 _ _ (by rfl) (by first | exact Or.inl rfl | exact Or.inr (Or.inl rfl) | exact Or.inr (Or.inr rfl)) (by decide) (by decide)) pa_nil (by rfl)) (by decide) (by decide) (by rfl) (by rfl)) pa_nil (by rfl)) (by rfl))) (@pa2 _ _ _ _ _ (@pv _ 5 _ _ (by rfl) (by first | exact Or.inl rfl | exact Or.inr (Or.inl rfl) | exact Or.inr (Or.inr rfl)) (by decide) (by decide)) pa_nil (by rfl)) (by rfl)) (by rfl)) (by decide) (by rfl) (by rfl)) (@pe_cmpR _ _ _ _ _ _ _ _ op_in_seq (@pe_ix _ _ _ _ _ _ _ ix_tup (@pv _ 5 _ _ (by rfl) (by first | exact Or.inl rfl | exact Or.inr (Or.inl rfl) | exact Or.inr (Or.inr rfl)) (by decide) (by decide)) pe_int (fun _ _ => rfl)) (@pv _ 7 _ _ (by rfl) (by first | exact Or.inl rfl | exact Or.inr (Or.inl rfl) | exact Or.inr (Or.inr rfl)) (by decide) (by decide)) rfl) (nomark _)) (@pss_one _ _ _ (@ps_ret _ _ _ _ pe_bl)) pss_nil) (@pss_one _ _ _ (@ps_if _ _ _ _ _ _ _ _ (@PW.pt _ _ _ (@pw_or _ _ _ _ _ _ _ (@pt_not _ _ _ _ (@pt_val _ _ _ (@pe_call _ _ _ _ _ _ _ _ _ _ _ _ _ _ _ _ (G_passes.mono (by decide)) hr (by rfl) T.mg_passes T.F_passes.kp T.b_passes .nil pass0 (@pa2 _ _ _ _ _ (@pv _ 2 _ _ (by rfl) (by first | exact Or.inl rfl | exact Or.inr (Or.inl rfl) | exact Or.inr (Or.inr rfl)) (by decide) (by decide)) (@pa2 _ _ _ _ _ (@pe_tup _ _ _ _ _ (@pa2 _ _ _ _ _ pe_str (@pa2 _ _ _ _ _ (@pe_tup _ _ _ _ _ (@pa2 _ _ _ _ _ (@pe_ix _ _ _ _ _ _ _ ix_tup (@pv _ 5 _ _ (by rfl) (by first | exact Or.inl rfl | exact Or.inr (Or.inl rfl) | exact Or.inr (Or.inr rfl)) (by decide) (by decide)) pe_int (fun _ _ => rfl)) pa_nil (by rfl))) pa_nil (by rfl)) (by rfl))) (@pa2 _ _ _ _ _ (@pv _ 5 _ _ (by rfl) (by first | exact Or.inl rfl | exact Or.inr (Or.inl rfl) | exact Or.inr (Or.inr rfl)) (by decide) (by decide)) pa_nil (by rfl)) (by rfl)) (by rfl)) (by decide) (by rfl) (by rfl)) (by intro _; rfl))) (@pw_or1 _ _ _ _ (@pt_val _ _ _ (@pe_call _ _ _ _ _ _ _ _ _ _ _ _ _ _ _ _ (G_passes.mono (by decide)) hr (by rfl) T.mg_passes T.F_passes.kp T.b_passes .nil pass0 (@pa2 _ _ _ _ _ (@pv _ 2 _ _ (by rfl) (by first | exact Or.inl rfl | exact Or.inr (Or.inl rfl) | exact Or.inr (Or.inr rfl)) (by decide) (by decide)) (@pa2 _ _ _ _ _ (@pe_tup _ _ _ _ _ (@pa2 _ _ _ _ _ pe_str (@pa2 _ _ _ _ _ (@pe_tup _ _ _ _ _ pa_nil) pa_nil (by rfl)) (by rfl))) (@pa2 _ _ _ _ _ (@pv _ 5 _ _ (by rfl) (by first | exact Or.inl rfl | exact Or.inr (Or.inl rfl) | exact Or.inr (Or.inr rfl)) (by decide) (by decide)) pa_nil (by rfl)) (by rfl)) (by rfl)) (by decide) (by rfl) (by rfl)) (by intro _; rfl))))) (@pss_one _ _ _ (@ps_ret _ _ _ _ pe_bl)) pss_nil))) (by intro _; rfl))) (@pss_one _ _ _ (@ps_ret _ _ _ _ pe_bl)))))))))), ?_⟩
    refine ⟨_, rfl, a, ns, 0, rfl, hS, hlen, fun lw H1 s1 nlw w1 => ?_⟩
    refine ⟨_, rfl, lw, rfl, w1, fun cx cs H2 b2 w2 hg hcx => ?_⟩
    have s02 : Same H H2 := fun b o e => b2 b o (s1 b o e) (by
      intro z
      rw [List.mem_singleton.mp z, nlw] at e
      cases e)
    obtain ⟨ca, xs, rfl, ec, hl, hall, hp⟩ := cols_at hcx
    have fcs : flatT (.tuple (cs.map cD)) = true := by simp only [flatT]; exact flat_cs cs
    refine ⟨sm (show 0 ≤ 1000 by decide), fun lr hlr => ?_⟩
    generalize hH3 : upd H2 lr _ = H3
    have s3 : Same H2 H3 := hH3 ▸ same_new hlr
    have elr : H3 lr = some (.lst []) := hH3 ▸ upd_same
    have nrw : lr ≠ lw := w2.ne hlr
    have hlr0 : H lr = none := same_none s02 hlr
    have w3 := w2.same s3
    try dsimp only [tSeq]
    refine ⟨fun σ' H' => ∃ (v4 v5 v6 v7 v8 v9 : Option V) (rows : List (Str × List PyData)) (ys : List V), σ' = [some (.ref a), some (.ref lw), some (.ref ca), some (.ref lr), v4, v5, v6, v7, v8, v9] ∧ Same H H' ∧ TSame H3 H' ∧ H' lr = some (.lst ys) ∧ SxAll H' (rows.map rD) ys ∧ RowsOk cs rows ∧ 0 < ys.length ∧ ys.length ≤ 1000, ?_, ?_⟩
    · refine ⟨_, rfl, lw, 10, rfl, by decide, by decide, w3, fun n H4 n0 n1 b4 w4 => ?_⟩
      obtain ⟨k, rfl⟩ : ∃ k : Nat, n = (k : Int) := ⟨n.toNat, by omega⟩
      refine ⟨_, _, rfl, rfl, 1 + (k : Int), rfl, by omega, by omega, ?_⟩
      rw [show (1 + (k : Int)).toNat = k + 1 by omega]
      have hn04 : ∀ b o, H b = some o → b ≠ lw ∧ b ≠ lr := fun b o e => ⟨ne_of_none e nlw, ne_of_none e hlr0⟩
      refine for_range (fun i σ' H' => ∃ (v4 v5 v6 v7 v8 v9 : Option V) (rows : List (Str × List PyData)) (ys : List V), σ' = [some (.ref a), some (.ref lw), some (.ref ca), some (.ref lr), v4, v5, v6, v7, v8, v9] ∧ Same H H' ∧ TSame H3 H' ∧ WellAt H' lw ∧ H' lr = some (.lst ys) ∧ SxAll H' (rows.map rD) ys ∧ RowsOk cs rows ∧ ys.length = i)
        ⟨none, none, none, none, none, none, [], [], rfl, fun b o e => b4 _ _ (s3 _ _ (s02 _ _ e)) (by simp [(hn04 b o e).1]), well_t b4 w3, w4, b4 _ _ elr (by simp [nrw]), sx_nil, (by intro r hr'; cases hr'), rfl⟩ ?_ ?_
      · rintro i σ' H' hi ⟨v4, v5, v6, v7, v8, v9, rows, ys, rfl, sA, tA, wA, eA, hS', hok, hyl⟩
        refine ⟨_, rfl, .inl ⟨rfl, _, SqL.of eA⟩, ?_⟩
        refine ⟨_, rfl, lw, rfl, wA, fun z H5 b5 w5 hz => ?_⟩
        have t5 := well_t b5 wA
        try dsimp only [tCons, tTup, tCB, tNil]
        refine rd_comp_tupW (xs := xs) (fun j out H' => But [lw] H5 H' ∧ WellAt H' lw ∧ ∃ ws : List PyData, out = ws.map vD ∧ ws.length = j ∧ ∀ p ∈ cs.zip ws, valD p.1.2 p.2 = true ∧ plainD p.2 = true) (by rw [hl]; have := hg.1; omega) (fun j out H' hI => SqT.of (well_t hI.1 w5 _ _ (t5 _ _ (tA _ _ (s3 _ _ ec))))) (fun R hR => ⟨_, rfl, hR⟩) ⟨But.refl, w5, [], rfl, rfl, by simp⟩ (fun j x out H6 ex hol hI R hR => ?_) (fun D out H6 hol hI hD => ?_)
        · obtain ⟨b6, w6, ws, rfl, hwl, hws⟩ := hI
          have hj := (List.getElem?_eq_some_iff.mp ex).1
          have ecs : cs[j]? = some (cs[j]'(by omega)) := List.getElem?_eq_getElem _
          generalize (cs[j]'(by omega)) = c at ecs
          obtain ⟨b, rfl, hb⟩ := hp.2 j x (c.1, .str c.2) ex (by rw [List.getElem?_map, ecs]; rfl)
          have hb6 := well_t b6 w5 _ _ (t5 _ _ (tA _ _ (s3 _ _ hb)))
          refine ⟨b, _, rfl, SqT.of hb6, rfl, _, _, rfl, _, _, rfl, rfl, ?_⟩
          refine ⟨_, rfl, _, rfl, lw, c.2, rfl, w6, fun v d H7 b7 w7 hv hpl hsx => hR v H7 ⟨b6.trans b7, w7, ws ++ [d], by rw [List.map_append, sx_plain hsx hpl]; rfl, by rw [List.length_append, hwl]; rfl, fun p hp' => ?_⟩⟩
          obtain ⟨m, em⟩ := List.getElem?_of_mem hp'
          obtain ⟨p1, p2⟩ := p
          obtain ⟨e1, e2⟩ := List.getElem?_zip_eq_some.mp em
          by_cases hm : m < ws.length
          · rw [List.getElem?_append_left hm] at e2
            exact hws (p1, p2) (List.mem_of_getElem? (i := m) (List.getElem?_zip_eq_some.mpr ⟨e1, e2⟩))
          · rw [List.getElem?_append_right (by omega)] at e2
            have hm0 : m - ws.length = 0 := by
              cases hq : m - ws.length with
              | zero => rfl
              | succ u => rw [hq] at e2; simp at e2
            rw [hm0] at e2
            simp at e2
            have hmj : m = j := by omega
            subst hmj
            rw [ecs] at e1
            cases e1
            subst e2
            exact ⟨hv, hpl⟩
        · obtain ⟨b6, w6, ws, rfl, hwl, hws⟩ := hI
          have hwc : ws.length = cs.length := by omega
          have hrow : RowOk cs z ws := ⟨hwc, hws, hz⟩
          generalize hH7 : upd H6 D _ = H7
          have s7 : Same H6 H7 := hH7 ▸ same_new hD
          have eD : H7 D = some (.lst (ws.map vD)) := hH7 ▸ upd_same
          refine ⟨D, _, rfl, .inl ⟨SqL.of eD, fun p8 hp8 => ?_⟩⟩
          generalize hH8 : upd H7 p8 _ = H8
          have s8 : Same H7 H8 := hH8 ▸ same_new hp8
          have e8 : H8 p8 = some (.tup (ws.map vD)) := hH8 ▸ upd_same
          refine ⟨sm (show 2 ≤ 1000 by decide), fun p9 hp9 => ?_⟩
          generalize hH9 : upd H8 p9 _ = H9
          have s9 : Same H8 H9 := hH9 ▸ same_new hp9
          have e9 : H9 p9 = some (.tup [.str z, .ref p8]) := hH9 ▸ upd_same
          have s79 := (s7.trans s8).trans s9
          have b59 : But [lw] H' H9 := (b5.trans b6).trans s79.but
          have eA9 := b59 _ _ eA (by simp [nrw])
          have hws' : ∀ d ∈ ws, ∃ k, valD k d = true ∧ plainD d = true := fun d hd => by
            obtain ⟨m, em⟩ := List.getElem?_of_mem hd
            have hm := (List.getElem?_eq_some_iff.mp em).1
            have ec' : cs[m]? = some (cs[m]'(by omega)) := List.getElem?_eq_getElem _
            exact ⟨_, hws (cs[m]'(by omega), d) (List.mem_of_getElem? (i := m) (List.getElem?_zip_eq_some.mpr ⟨ec', em⟩))⟩
          have srow : Sx H9 (rD (z, ws)) (.ref p9) := sx_tup e9 (sx_cons (sx_str (sm (Nat.le_trans (KEYS_facts z hz).1 (by decide)))) (sx_cons (sx_tup (s9 _ _ e8) (vals_sx hws')) sx_nil))
          refine ⟨lr, ys, .ref p9, rfl, rfl, eA9, small1000 (by omega), ?_⟩
          generalize hH10 : upd H9 lr _ = H10
          have t10 : TSame H9 H10 := hH10 ▸ tsame_lst eA9
          have tB : TSame H' H10 := (well_t b59 wA).trans t10
          have hok' : RowsOk cs (rows ++ [(z, ws)]) := fun r hr' => by
            rcases List.mem_append.mp hr' with h | h
            · exact hok r h
            · rw [List.mem_singleton.mp h]; exact hrow
          refine ⟨_, _, _, _, _, _, rows ++ [(z, ws)], ys ++ [.ref p9], rfl, ?_, tA.trans tB, ?_, ?_, ?_, hok', by rw [List.length_append, hyl]; rfl⟩
          · intro b o e
            have hb := hn04 b o e
            rw [← hH10, upd_ne hb.2]
            exact b59 _ _ (sA _ _ e) (by simp [hb.1])
          · obtain ⟨x1, x2, x3, e⟩ := w6.same s79
            exact ⟨x1, x2, x3, by rw [← hH10, upd_ne nrw.symm]; exact e⟩
          · rw [← hH10, upd_same]
          · rw [List.map_append]
            exact SxAll.snoc (SxAll.tsame tB _ (flat_rows hok) hS') (Sx.tsame t10 _ (flat_row hrow) srow)
      · rintro σ' H' ⟨v4, v5, v6, v7, v8, v9, rows, ys, rfl, sA, tA, wA, eA, hS', hok, hyl⟩
        exact ⟨v4, v5, v6, v7, v8, v9, rows, ys, rfl, sA, tA, eA, hS', hok, by omega, by omega⟩
    · rintro σ' H5 ⟨v4, v5, v6, v7, v8, v9, rows, ys, rfl, s05, t35, elr5, hrows, hok, hy0, hy1⟩
      have hcx5 := Sx.tsame (s3.t.trans t35) _ fcs hcx
      have hrl := hrows.len
      rw [List.length_map] at hrl
      have rowAt : ∀ {j : Nat} {y : V}, ys[j]? = some y → ∃ rr, rr ∈ rows ∧ RowOk cs rr.1 rr.2 ∧ Sx H5 (rowD rr.1 rr.2) y := fun {j} {y} eyj => by
        have hj := (List.getElem?_eq_some_iff.mp eyj).1
        have er' : rows[j]? = some (rows[j]'(by omega)) := List.getElem?_eq_getElem _
        exact ⟨_, List.mem_of_getElem? er', hok _ (List.mem_of_getElem? er'), SxAll.get j hrows eyj (by rw [List.getElem?_map, er']; rfl)⟩
      refine ⟨fun σ' H' => Same H5 H' ∧ ∃ (v1 v4 v5 v6 v7 v8 v9 : Option V), σ' = [some (.ref a), v1, some (.ref ca), some (.ref lr), v4, v5, v6, v7, v8, v9], ?_, ?_⟩
      · refine ⟨1, 7, rfl, ⟨by decide, by decide, by decide, by decide⟩, ?_⟩
        refine for_range (lo := 1) (n := 6) (fun i σ' H' => Same H5 H' ∧ ∃ (v1 v4 v5 v6 v7 v8 v9 : Option V), σ' = [some (.ref a), v1, some (.ref ca), some (.ref lr), v4, v5, v6, v7, v8, v9]) ⟨Same.refl _, _, _, _, _, _, _, _, rfl⟩ ?_ (fun σ' H' h => h)
        rintro i σ' H' hi ⟨s5, v1, v4, v5, v6, v7, v8, v9, rfl⟩
        try dsimp only [gName, tSeq, tAsg]
        rw [show (1 : Int) + (i : Int) = ((1 + i : Nat) : Int) by omega]
        refine ⟨_, rfl, _, rfl, a, ns, 1 + i, rfl, hS.same (s05.trans s5), hlen, fun l2 H6 s6 nl2 w6 => ?_⟩
        have s56 := s5.trans s6
        -- a row
        try dsimp only [tSeq, tAsg, gName]
        refine ⟨_, rfl, _, rfl, _, rfl, _, ys.length, rfl, .inl ⟨ys, SqL.of (s56 _ _ elr5), rfl⟩, l2, (ys.length : Int), rfl, by omega, by omega, w6, fun m H7 m0 m1 b7 w7 => ?_⟩
        obtain ⟨y, hy, ay, j, ej, eyj⟩ := at_of (l := ys) m0 m1
        obtain ⟨rr, _, hrr, sy⟩ := rowAt eyj
        have hn2 : ∀ b o, H' b = some o → b ≠ l2 := fun b o e => ne_of_none e nl2
        have s57 : Same H5 H7 := fun b o e => b7 _ _ (s56 _ _ e) (by simp [hn2 b o (s5 _ _ e)])
        refine ⟨lr, ys, m, y, rfl, rfl, SqL.of (s57 _ _ elr5), ay, ?_⟩
        -- sieves
        try dsimp only [tSeq, tAsg, gName]
        refine rd_comp_rngW (fun j out H8 => But [l2] H7 H8 ∧ WellAt H8 l2 ∧ ∃ ds : List PyData, SxAll H8 ds out ∧ ds.length = j ∧ ∀ d ∈ ds, GsD cs 5 d) 5 (by decide) (fun R hR => ?_) (fun j out H8 hj hol hI R hR => ?_) (fun D out H8 hol hI hD => ?_)
        · refine ⟨_, rfl, l2, 6, rfl, by decide, by decide, w7, fun n H8 n0 n1 b8 w8 => ?_⟩
          obtain ⟨k', rfl⟩ : ∃ k' : Nat, n = (k' : Int) := ⟨n.toNat, by omega⟩
          exact hR k' H8 (by omega) ⟨b8, w8, [], sx_nil, rfl, by simp⟩
        · obtain ⟨b8, w8, ds, hds, hdl, hgs⟩ := hI
          have hc8 : Sx H8 (.tuple (cs.map cD)) (.ref ca) := Sx.tsame (s57.t.trans (well_t b8 w7)) _ fcs hcx5
          refine ⟨_, rfl, _, rfl, _, rfl, l2, 5, rfl, by decide, by decide, w8, fun n H9 n0 n1 b9 w9 => ?_⟩
          obtain ⟨k', rfl⟩ : ∃ k' : Nat, n = (k' : Int) := ⟨n.toNat, by omega⟩
          refine ⟨_, _, rfl, rfl, sm (show 1 ≤ 1000 by decide), fun r hr' => ?_⟩
          generalize hH10 : upd H9 r _ = H10
          have s10 : Same H9 H10 := hH10 ▸ same_new hr'
          have er : H10 r = some (.lst [.int 20]) := hH10 ▸ upd_same
          have nrl : r ≠ l2 := w9.ne hr'
          dsimp only
          rw [show (1 : Int) + (k' : Int) = ((1 + k' : Nat) : Int) by omega]
          have t10 : TSame H8 H10 := (well_t b9 w8).trans s10.t
          refine ⟨l2, r, .ref ca, cs, 1 + k', rfl, w9.same s10, ⟨20, er⟩, nrl.symm, Sx.tsame t10 _ fcs hc8, hg, by omega, by omega, fun sx d H11 b11 w11 r11 hd hsx => ?_⟩
          have t11 : TSame H8 H11 := t10.trans (room_t b11 (w9.same s10) ⟨20, er⟩)
          have b911 : But [l2] H9 H11 := fun b o e nb => b11 b o (s10 _ _ e) (by
            have n1 : b ≠ l2 := by simpa using nb
            have n2 : b ≠ r := ne_of_none e hr'
            simp [n1, n2])
          refine hR sx H11 ⟨(b8.trans b9).trans b911, w11, ds ++ [d], (SxAll.tsame t11 _ (flat_all fun e he => flat_gs (hgs e he)) hds).snoc hsx, by rw [List.length_append, hdl]; rfl, fun e he => ?_⟩
          rcases List.mem_append.mp he with h | h
          · exact hgs e h
          · rw [List.mem_singleton.mp h]; exact gs_mono hd (by omega)
        · obtain ⟨b8, w8, ds, hds, hdl, hgs⟩ := hI
          generalize hH9 : upd H8 D _ = H9
          have s9 : Same H8 H9 := hH9 ▸ same_new hD
          have eD : H9 D = some (.lst out) := hH9 ▸ upd_same
          have w9 := w8.same s9
          have nD : D ≠ l2 := w8.ne hD
          have b79 : But [l2] H7 H9 := b8.trans s9.but
          have s59 : Same H5 H9 := fun b o e => b79 _ _ (s57 _ _ e) (by simp [hn2 b o (s5 _ _ e)])
          -- both are right
          try dsimp only [tNext, tSeq]
          refine ⟨_, rfl, _, rfl, _, rfl, .ref ca, y, l2, cs, rr.1, rr.2, rfl, Sx.same s59 _ hcx5, hg, Sx.same s59 _ sy, hrr, w9, fun H10 b10 w10 => ⟨_, rfl, iteF ?_⟩⟩
          have s510 : Same H5 H10 := fun b o e => b10 _ _ (s59 _ _ e) (by simp [hn2 b o (s5 _ _ e)])
          have hds10 := SxAll.tsame (s9.t.trans (well_t b10 w9)) _ (flat_all fun e he => flat_gs (hgs e he)) hds
          refine ⟨_, rfl, _, rfl, _, rfl, .ref ca, y, D, cs, rr.1, rr.2, ds, out, rfl, Sx.same s510 _ hcx5, hg, Sx.same s510 _ sy, hrr, b10 _ _ eD (by simp [nD]), hds10, by omega, hgs, _, rfl, iteF ?_⟩
          exact ⟨s510, _, _, _, _, _, _, _, rfl⟩
      · rintro σ' H6 ⟨s6, v1, v4, v5, v6, v7, v8, v9, rfl⟩
        -- keys, each once
        try dsimp only [tSeq, tAsg, gName]
        refine ⟨sm (show 0 ≤ 1000 by decide), fun lk hlk => ?_⟩
        generalize hH7 : upd H6 lk _ = H7
        have s7 : Same H6 H7 := hH7 ▸ same_new hlk
        have ek : H7 lk = some (.lst []) := hH7 ▸ upd_same
        have s57 := s6.trans s7
        have hlk5 : H5 lk = none := same_none s6 hlk
        try dsimp only [tSeq]
        refine ⟨fun σ' H' => ∃ (v4 v5 v6 v8 v9 : Option V) (ks : List Str), σ' = [some (.ref a), v1, some (.ref ca), some (.ref lr), v4, v5, v6, some (.ref lk), v8, v9] ∧ Same H5 H' ∧ H' lk = some (.lst (ks.map V.str)) ∧ ks.length ≤ 8 ∧ ∀ k ∈ ks, k ∈ KEYS, ?_, ?_⟩
        · refine ⟨_, rfl, lr, rfl, ⟨_, SqL.of (s57 _ _ elr5)⟩, ?_⟩
          refine for_list (K := K) (a := lr) (xs := ys) (fun i σ' H' => ∃ (v4 v5 v6 v8 v9 : Option V) (ks : List Str), σ' = [some (.ref a), v1, some (.ref ca), some (.ref lr), v4, v5, v6, some (.ref lk), v8, v9] ∧ Same H5 H' ∧ H' lk = some (.lst (ks.map V.str)) ∧ ks.length ≤ 8 ∧ ∀ k ∈ ks, k ∈ KEYS) ⟨_, _, _, _, _, [], rfl, s57, ek, by decide, by simp⟩ (fun i σ' H' _ h => by obtain ⟨_, _, _, _, _, _, _, s', _⟩ := h; exact SqL.of (s' _ _ elr5)) ?_ (fun σ' H' h => h)
          rintro i y σ' H' hi ⟨v4, v5, v6, v8, v9, ks, rfl, s8, ek8, hk8, hks⟩
          obtain ⟨rr, _, hrr, sy⟩ := rowAt hi
          obtain ⟨ya, y0, y1, rfl, eya, sy0, sy1⟩ := pair_at (Sx.same s8 _ sy)
          obtain ⟨rfl, _⟩ := sy0.str
          refine ⟨ya, _, rfl, SqT.of eya, rfl, _, _, rfl, _, _, rfl, rfl, ?_⟩
          try dsimp only [tIfS]
          refine rd_andB (b := !inV (.str rr.1) (ks.map V.str)) (Pc := fun x => x = true → ks.length < 8) (fun R hR => ⟨_, rfl, _, rfl, lk, _, rfl, .inl (SqL.of ek8), rfl, (by rw [List.all_map]; exact List.all_eq_true.mpr fun _ _ => rfl), _, rfl, hR⟩) (fun _ R hR => ⟨_, rfl, _, ks.length, rfl, .inl ⟨_, SqL.of ek8, by rw [List.length_map]⟩, _, _, rfl, rfl, _, rfl, hR _ H' (Same.refl H') fun h => ?_⟩) (fun _ h => by cases h) (fun c9 H9 s9 hc9 => ?_)
          · have h : ((ks.length : Nat) : Int) < 8 := of_decide_eq_true h
            omega
          · refine ifb (fun ht => ?_) (fun _ => ?_)
            · have hlt := hc9 ht
              have ek9 := s9 _ _ ek8
              refine ⟨_, rfl, .inl ⟨rfl, _, SqL.of ek9⟩, _, rfl, lk, _, .str rr.1, rfl, rfl, ek9, (by rw [List.length_map]; exact small1000 (by omega)), ?_⟩
              refine ⟨_, _, _, _, _, ks ++ [rr.1], rfl, ?_, by rw [upd_same, List.map_append]; rfl, by rw [List.length_append]; show _ + 1 ≤ 8; omega, fun k hk => ?_⟩
              · intro b o e
                rw [upd_ne (ne_of_none e hlk5)]
                exact s9 _ _ (s8 _ _ e)
              · rcases List.mem_append.mp hk with h | h
                · exact hks k h
                · rw [List.mem_singleton.mp h]; exact hrr.2.2
            · exact ⟨_, _, _, _, _, ks, rfl, s8.trans s9, s9 _ _ ek8, hk8, hks⟩
        · rintro σ' H8 ⟨v4, v5, v6, v8, v9, ks, rfl, s8, ek8, hk8, hks⟩
          refine ⟨fun σ' H' => True, ?_, fun σ' H' _ => q H'⟩
          refine ⟨_, rfl, lr, rfl, ⟨_, SqL.of (s8 _ _ elr5)⟩, ?_⟩
          refine for_list (K := K) (a := lr) (xs := ys) (fun i σ' H' => Same H8 H' ∧ ∃ (v5 : Option V), σ' = [some (.ref a), v1, some (.ref ca), some (.ref lr), v4, v5, v6, some (.ref lk), v8, v9]) ⟨Same.refl _, _, rfl⟩ (fun i σ' H' _ h => SqL.of (h.1 _ _ (s8 _ _ elr5))) ?_ (fun σ' H' h => trivial)
          rintro i y σ' H' hi ⟨s9, v5', rfl⟩
          obtain ⟨rr, _, hrr, sy⟩ := rowAt hi
          have s59 := s8.trans s9
          have sy9 := Sx.same s59 _ sy
          obtain ⟨ya, y0, y1, rfl, eya, sy0, sy1⟩ := pair_at sy9
          obtain ⟨rfl, zk⟩ := sy0.str
          have ek9 := s9 _ _ ek8
          -- of all of them
          refine ⟨_, rfl, _, rfl, lk, _, rfl, .inl ⟨SqL.of ek9, fun p1 hp1 => ?_⟩⟩
          generalize hH10 : upd H' p1 _ = H10
          have s10 : Same H' H10 := hH10 ▸ same_new hp1
          have e10 : H10 p1 = some (.tup (ks.map V.str)) := hH10 ▸ upd_same
          refine ⟨sm (show 2 ≤ 1000 by decide), fun p2 hp2 => ?_⟩
          generalize hH11 : upd H10 p2 _ = H11
          have s11 : Same H10 H11 := hH11 ▸ same_new hp2
          have e11 : H11 p2 = some (.tup [.str "key", .ref p1]) := hH11 ▸ upd_same
          have s911 := s10.trans s11
          have s511 := s59.trans s911
          have sp2 : Sx H11 (.tuple [.str "key", .tuple (ks.map .str)]) (.ref p2) := sx_tup e11 (sx_cons (sx_str (sm (by decide))) (sx_cons (sx_tup (s11 _ _ e10) (keys_sx hks)) sx_nil))
          refine ⟨_, rfl, .ref ca, .ref p2, .ref ya, cs, _, rr.1, rr.2, rfl, Sx.same s511 _ hcx5, hg, sp2, .inl (.inr (.inl ⟨ks, rfl, hk8, hks⟩)), Sx.same s911 _ sy9, hrr, ?_⟩
          refine ⟨_, rfl, ya, _, _, .str rr.1, rfl, rfl, SqT.of (s911 _ _ eya), rfl, _, rfl, lk, _, rfl, .inl (SqL.of (s911 _ _ ek9)), rfl, (by rw [List.all_map]; exact List.all_eq_true.mpr fun _ _ => rfl), rfl, false, ?_, iteF ?_⟩
          · show V.bl (!decide (V.bl (passN cs rr.1 rr.2 8 (.tuple [.str "key", .tuple (ks.map .str)])) = V.bl (inV (.str rr.1) (ks.map V.str)))) = V.bl false
            rw [pass_key, key_any]
            simp
          -- of its own, of none
          refine ⟨_, rfl, _, rfl, ya, _, _, .str rr.1, rfl, rfl, SqT.of (s911 _ _ eya), rfl, sm (show 1 ≤ 1000 by decide), fun p3 hp3 => ?_⟩
          generalize hH12 : upd H11 p3 _ = H12
          have s12 : Same H11 H12 := hH12 ▸ same_new hp3
          have e12 : H12 p3 = some (.tup [.str rr.1]) := hH12 ▸ upd_same
          refine ⟨sm (show 2 ≤ 1000 by decide), fun p4 hp4 => ?_⟩
          generalize hH13 : upd H12 p4 _ = H13
          have s13 : Same H12 H13 := hH13 ▸ same_new hp4
          have e13 : H13 p4 = some (.tup [.str "key", .ref p3]) := hH13 ▸ upd_same
          have s913 := s911.trans (s12.trans s13)
          have s513 := s59.trans s913
          have h1k : ∀ k ∈ [rr.1], k ∈ KEYS := fun k hk => by rw [List.mem_singleton.mp hk]; exact hrr.2.2
          have sp4 : Sx H13 (.tuple [.str "key", .tuple ([rr.1].map .str)]) (.ref p4) := sx_tup e13 (sx_cons (sx_str (sm (by decide))) (sx_cons (sx_tup (s13 _ _ e12) (keys_sx h1k)) sx_nil))
          refine ⟨_, rfl, .ref ca, .ref p4, .ref ya, cs, _, rr.1, rr.2, rfl, Sx.same s513 _ hcx5, hg, sp4, .inl (.inr (.inl ⟨[rr.1], rfl, (show 1 ≤ 8 by decide), h1k⟩)), Sx.same s913 _ sy9, hrr, true, ?_, iteF ?_⟩
          · rw [pass_key]
            show V.bl ((decide (rr.1 = rr.1)) || false) = V.bl true
            simp
          refine ⟨_, rfl, sm (show 0 ≤ 1000 by decide), fun p5 hp5 => ?_⟩
          generalize hH14 : upd H13 p5 _ = H14
          have s14 : Same H13 H14 := hH14 ▸ same_new hp5
          have e14 : H14 p5 = some (.tup []) := hH14 ▸ upd_same
          refine ⟨sm (show 2 ≤ 1000 by decide), fun p6 hp6 => ?_⟩
          generalize hH15 : upd H14 p6 _ = H15
          have s15 : Same H14 H15 := hH15 ▸ same_new hp6
          have e15 : H15 p6 = some (.tup [.str "key", .ref p5]) := hH15 ▸ upd_same
          have s915 := s913.trans (s14.trans s15)
          have s515 := s59.trans s915
          have sp6 : Sx H15 (.tuple [.str "key", .tuple (([] : List Str).map .str)]) (.ref p6) := sx_tup e15 (sx_cons (sx_str (sm (by decide))) (sx_cons (sx_tup (s15 _ _ e14) sx_nil) sx_nil))
          refine ⟨_, rfl, .ref ca, .ref p6, .ref ya, cs, _, rr.1, rr.2, rfl, Sx.same s515 _ hcx5, hg, sp6, .inl (.inr (.inl ⟨[], rfl, by decide, by simp⟩)), Sx.same s915 _ sy9, hrr, false, ?_, iteF ?_⟩
          · rw [pass_key]
            rfl
          exact ⟨s9.trans s915, _, rfl⟩
end
end My
set_option Elab.async false
set_option linter.all false
set_option maxRecDepth 100000
set_option maxHeartbeats 4000000
namespace My
open PySem L2
theorem txt_mk {K : PySem.W.Frag} {h : Heap} {mg : Str → Option Value} (X : K.In h) (G : h.Ns mainGlobals mg)
    {f0 : Addr} {od0 an0 : Option Addr} {sl0 : Array (Option Value)} {oc0 kV0 dc0 pm0 cd0 ct0 : Value}
    {f1 : Addr} {od1 an1 : Option Addr} {sl1 : Array (Option Value)} {oc1 kV1 dc1 pm1 cd1 ct1 : Value}
    {f2 : Addr} {od2 an2 : Option Addr} {sl2 : Array (Option Value)} {oc2 kV2 dc2 pm2 cd2 ct2 : Value}
    {f3 : Addr} {od3 an3 : Option Addr} {sl3 : Array (Option Value)} {oc3 kV3 dc3 pm3 cd3 ct3 : Value}
    {f4 : Addr} {od4 an4 : Option Addr} {sl4 : Array (Option Value)} {oc4 kV4 dc4 pm4 cd4 ct4 : Value}
    {f5 : Addr} {od5 an5 : Option Addr} {sl5 : Array (Option Value)} {oc5 kV5 dc5 pm5 cd5 ct5 : Value}
    {f6 : Addr} {od6 an6 : Option Addr} {sl6 : Array (Option Value)} {oc6 kV6 dc6 pm6 cd6 ct6 : Value}
    {f7 : Addr} {od7 an7 : Option Addr} {sl7 : Array (Option Value)} {oc7 kV7 dc7 pm7 cd7 ct7 : Value}
    {f8 : Addr} {od8 an8 : Option Addr} {sl8 : Array (Option Value)} {oc8 kV8 dc8 pm8 cd8 ct8 : Value}
    {f9 : Addr} {od9 an9 : Option Addr} {sl9 : Array (Option Value)} {oc9 kV9 dc9 pm9 cd9 ct9 : Value}
    {f10 : Addr} {od10 an10 : Option Addr} {sl10 : Array (Option Value)} {oc10 kV10 dc10 pm10 cd10 ct10 : Value}
    {f11 : Addr} {od11 an11 : Option Addr} {sl11 : Array (Option Value)} {oc11 kV11 dc11 pm11 cd11 ct11 : Value}
    {f12 : Addr} {od12 an12 : Option Addr} {sl12 : Array (Option Value)} {oc12 kV12 dc12 pm12 cd12 ct12 : Value}
    {f13 : Addr} {od13 an13 : Option Addr} {sl13 : Array (Option Value)} {oc13 kV13 dc13 pm13 cd13 ct13 : Value}
    {f14 : Addr} {od14 an14 : Option Addr} {sl14 : Array (Option Value)} {oc14 kV14 dc14 pm14 cd14 ct14 : Value}
    {f15 : Addr} {od15 an15 : Option Addr} {sl15 : Array (Option Value)} {oc15 kV15 dc15 pm15 cd15 ct15 : Value}
    {f16 : Addr} {od16 an16 : Option Addr} {sl16 : Array (Option Value)} {oc16 kV16 dc16 pm16 cd16 ct16 : Value}
    (a0 : PySem.W.nsIn K mainGlobals "names_of" = some (some (.ref f0))) (l0 : K.lookup f0 = some ⟨oc0, od0, .func (PySem.W.fnOf "names_of" "names_of" (defArgs s_names_of) (defBody s_names_of) (defScope s_names_of) .none kV0 dc0 pm0 an0 cd0 ct0), sl0⟩) (c0 : PySem.W.codeIn K cd0 "names_of" = true) (k0 : PySem.W.keepIn K (.ref f0) = true)
    (a1 : PySem.W.nsIn K mainGlobals "value_in" = some (some (.ref f1))) (l1 : K.lookup f1 = some ⟨oc1, od1, .func (PySem.W.fnOf "value_in" "value_in" (defArgs s_value_in) (defBody s_value_in) (defScope s_value_in) .none kV1 dc1 pm1 an1 cd1 ct1), sl1⟩) (c1 : PySem.W.codeIn K cd1 "value_in" = true) (k1 : PySem.W.keepIn K (.ref f1) = true)
    (a2 : PySem.W.nsIn K mainGlobals "passes" = some (some (.ref f2))) (l2 : K.lookup f2 = some ⟨oc2, od2, .func (PySem.W.fnOf "passes" "passes" (defArgs s_passes) (defBody s_passes) (defScope s_passes) .none kV2 dc2 pm2 an2 cd2 ct2), sl2⟩) (c2 : PySem.W.codeIn K cd2 "passes" = true) (k2 : PySem.W.keepIn K (.ref f2) = true)
    (a3 : PySem.W.nsIn K mainGlobals "value_passes" = some (some (.ref f3))) (l3 : K.lookup f3 = some ⟨oc3, od3, .func (PySem.W.fnOf "value_passes" "value_passes" (defArgs s_value_passes) (defBody s_value_passes) (defScope s_value_passes) .none kV3 dc3 pm3 an3 cd3 ct3), sl3⟩) (c3 : PySem.W.codeIn K cd3 "value_passes" = true) (k3 : PySem.W.keepIn K (.ref f3) = true)
    (a4 : PySem.W.nsIn K mainGlobals "_law_well" = some (some (.ref f4))) (l4 : K.lookup f4 = some ⟨oc4, od4, .func (PySem.W.fnOf "_law_well" "_law_well" (defArgs s_l_well) (defBody s_l_well) (defScope s_l_well) .none kV4 dc4 pm4 an4 cd4 ct4), sl4⟩) (c4 : PySem.W.codeIn K cd4 "_law_well" = true) (k4 : PySem.W.keepIn K (.ref f4) = true)
    (a5 : PySem.W.nsIn K mainGlobals "_law_draw" = some (some (.ref f5))) (l5 : K.lookup f5 = some ⟨oc5, od5, .func (PySem.W.fnOf "_law_draw" "_law_draw" (defArgs s_l_draw) (defBody s_l_draw) (defScope s_l_draw) .none kV5 dc5 pm5 an5 cd5 ct5), sl5⟩) (c5 : PySem.W.codeIn K cd5 "_law_draw" = true) (k5 : PySem.W.keepIn K (.ref f5) = true)
    (a6 : PySem.W.nsIn K mainGlobals "_law_columns" = some (some (.ref f6))) (l6 : K.lookup f6 = some ⟨oc6, od6, .func (PySem.W.fnOf "_law_columns" "_law_columns" (defArgs s_l_columns) (defBody s_l_columns) (defScope s_l_columns) .none kV6 dc6 pm6 an6 cd6 ct6), sl6⟩) (c6 : PySem.W.codeIn K cd6 "_law_columns" = true) (k6 : PySem.W.keepIn K (.ref f6) = true)
    (a7 : PySem.W.nsIn K mainGlobals "_law_number" = some (some (.ref f7))) (l7 : K.lookup f7 = some ⟨oc7, od7, .func (PySem.W.fnOf "_law_number" "_law_number" (defArgs s_l_number) (defBody s_l_number) (defScope s_l_number) .none kV7 dc7 pm7 an7 cd7 ct7), sl7⟩) (c7 : PySem.W.codeIn K cd7 "_law_number" = true) (k7 : PySem.W.keepIn K (.ref f7) = true)
    (a8 : PySem.W.nsIn K mainGlobals "_law_word" = some (some (.ref f8))) (l8 : K.lookup f8 = some ⟨oc8, od8, .func (PySem.W.fnOf "_law_word" "_law_word" (defArgs s_l_word) (defBody s_l_word) (defScope s_l_word) .none kV8 dc8 pm8 an8 cd8 ct8), sl8⟩) (c8 : PySem.W.codeIn K cd8 "_law_word" = true) (k8 : PySem.W.keepIn K (.ref f8) = true)
    (a9 : PySem.W.nsIn K mainGlobals "_law_value" = some (some (.ref f9))) (l9 : K.lookup f9 = some ⟨oc9, od9, .func (PySem.W.fnOf "_law_value" "_law_value" (defArgs s_l_value) (defBody s_l_value) (defScope s_l_value) .none kV9 dc9 pm9 an9 cd9 ct9), sl9⟩) (c9 : PySem.W.codeIn K cd9 "_law_value" = true) (k9 : PySem.W.keepIn K (.ref f9) = true)
    (a10 : PySem.W.nsIn K mainGlobals "_law_key" = some (some (.ref f10))) (l10 : K.lookup f10 = some ⟨oc10, od10, .func (PySem.W.fnOf "_law_key" "_law_key" (defArgs s_l_key) (defBody s_l_key) (defScope s_l_key) .none kV10 dc10 pm10 an10 cd10 ct10), sl10⟩) (c10 : PySem.W.codeIn K cd10 "_law_key" = true) (k10 : PySem.W.keepIn K (.ref f10) = true)
    (a11 : PySem.W.nsIn K mainGlobals "_law_leaf" = some (some (.ref f11))) (l11 : K.lookup f11 = some ⟨oc11, od11, .func (PySem.W.fnOf "_law_leaf" "_law_leaf" (defArgs s_l_leaf) (defBody s_l_leaf) (defScope s_l_leaf) .none kV11 dc11 pm11 an11 cd11 ct11), sl11⟩) (c11 : PySem.W.codeIn K cd11 "_law_leaf" = true) (k11 : PySem.W.keepIn K (.ref f11) = true)
    (a12 : PySem.W.nsIn K mainGlobals "_law_sieve" = some (some (.ref f12))) (l12 : K.lookup f12 = some ⟨oc12, od12, .func (PySem.W.fnOf "_law_sieve" "_law_sieve" (defArgs s_l_sieve) (defBody s_l_sieve) (defScope s_l_sieve) .none kV12 dc12 pm12 an12 cd12 ct12), sl12⟩) (c12 : PySem.W.codeIn K cd12 "_law_sieve" = true) (k12 : PySem.W.keepIn K (.ref f12) = true)
    (a13 : PySem.W.nsIn K mainGlobals "_law_split" = some (some (.ref f13))) (l13 : K.lookup f13 = some ⟨oc13, od13, .func (PySem.W.fnOf "_law_split" "_law_split" (defArgs s_l_split) (defBody s_l_split) (defScope s_l_split) .none kV13 dc13 pm13 an13 cd13 ct13), sl13⟩) (c13 : PySem.W.codeIn K cd13 "_law_split" = true) (k13 : PySem.W.keepIn K (.ref f13) = true)
    (a14 : PySem.W.nsIn K mainGlobals "_law_values_right" = some (some (.ref f14))) (l14 : K.lookup f14 = some ⟨oc14, od14, .func (PySem.W.fnOf "_law_values_right" "_law_values_right" (defArgs s_l_values_right) (defBody s_l_values_right) (defScope s_l_values_right) .none kV14 dc14 pm14 an14 cd14 ct14), sl14⟩) (c14 : PySem.W.codeIn K cd14 "_law_values_right" = true) (k14 : PySem.W.keepIn K (.ref f14) = true)
    (a15 : PySem.W.nsIn K mainGlobals "_law_words_right" = some (some (.ref f15))) (l15 : K.lookup f15 = some ⟨oc15, od15, .func (PySem.W.fnOf "_law_words_right" "_law_words_right" (defArgs s_l_words_right) (defBody s_l_words_right) (defScope s_l_words_right) .none kV15 dc15 pm15 an15 cd15 ct15), sl15⟩) (c15 : PySem.W.codeIn K cd15 "_law_words_right" = true) (k15 : PySem.W.keepIn K (.ref f15) = true)
    (a16 : PySem.W.nsIn K mainGlobals "law" = some (some (.ref f16))) (l16 : K.lookup f16 = some ⟨oc16, od16, .func (PySem.W.fnOf "law" "law" (defArgs s_law) (defBody s_law) (defScope s_law) .none kV16 dc16 pm16 an16 cd16 ct16), sl16⟩) (c16 : PySem.W.codeIn K cd16 "law" = true) (k16 : PySem.W.keepIn K (.ref f16) = true)
    (z_all : PySem.W.nsIn K mainGlobals "all" = some none)
    (z_any : PySem.W.nsIn K mainGlobals "any" = some none)
    (z_len : PySem.W.nsIn K mainGlobals "len" = some none)
    (z_int : PySem.W.nsIn K mainGlobals "int" = some none)
    (z_range : PySem.W.nsIn K mainGlobals "range" = some none)
    (z_tuple : PySem.W.nsIn K mainGlobals "tuple" = some none)
    (z_zip : PySem.W.nsIn K mainGlobals "zip" = some none)
    : ∃ t : Adr, Txt K mg t := by
  have F0 := fun_mk (st := s_names_of) l0 c0 k0
  have b0 := F0.binds (ps := ["columns"]) fun _ _ _ _ _ _ us hl => match us, hl with | [_], _ => rfl
  have F1 := fun_mk (st := s_value_in) l1 c1 k1
  have b1 := F1.binds (ps := ["columns", "row", "name"]) fun _ _ _ _ _ _ us hl => match us, hl with | [_, _, _], _ => rfl
  have F2 := fun_mk (st := s_passes) l2 c2 k2
  have b2 := F2.binds (ps := ["columns", "sieve", "row"]) fun _ _ _ _ _ _ us hl => match us, hl with | [_, _, _], _ => rfl
  have F3 := fun_mk (st := s_value_passes) l3 c3 k3
  have b3 := F3.binds (ps := ["word", "value", "told"]) fun _ _ _ _ _ _ us hl => match us, hl with | [_, _, _], _ => rfl
  have F4 := fun_mk (st := s_l_well) l4 c4 k4
  have b4 := F4.binds (ps := ["_law_script", "_law_k"]) fun _ _ _ _ _ _ us hl => match us, hl with | [_, _], _ => rfl
  have F5 := fun_mk (st := s_l_draw) l5 c5 k5
  have b5 := F5.binds (ps := ["_law_well_here", "_law_most"]) fun _ _ _ _ _ _ us hl => match us, hl with | [_, _], _ => rfl
  have F6 := fun_mk (st := s_l_columns) l6 c6 k6
  have b6 := F6.binds (ps := ["_law_well_here"]) fun _ _ _ _ _ _ us hl => match us, hl with | [_], _ => rfl
  have F7 := fun_mk (st := s_l_number) l7 c7 k7
  have b7 := F7.binds (ps := ["_law_well_here"]) fun _ _ _ _ _ _ us hl => match us, hl with | [_], _ => rfl
  have F8 := fun_mk (st := s_l_word) l8 c8 k8
  have b8 := F8.binds (ps := ["_law_well_here"]) fun _ _ _ _ _ _ us hl => match us, hl with | [_], _ => rfl
  have F9 := fun_mk (st := s_l_value) l9 c9 k9
  have b9 := F9.binds (ps := ["_law_well_here", "_law_kind"]) fun _ _ _ _ _ _ us hl => match us, hl with | [_, _], _ => rfl
  have F10 := fun_mk (st := s_l_key) l10 c10 k10
  have b10 := F10.binds (ps := ["_law_well_here"]) fun _ _ _ _ _ _ us hl => match us, hl with | [_], _ => rfl
  have F11 := fun_mk (st := s_l_leaf) l11 c11 k11
  have b11 := F11.binds (ps := ["_law_well_here", "_law_columns_here"]) fun _ _ _ _ _ _ us hl => match us, hl with | [_, _], _ => rfl
  have F12 := fun_mk (st := s_l_sieve) l12 c12 k12
  have b12 := F12.binds (ps := ["_law_well_here", "_law_columns_here", "_law_deep", "_law_room"]) fun _ _ _ _ _ _ us hl => match us, hl with | [_, _, _, _], _ => rfl
  have F13 := fun_mk (st := s_l_split) l13 c13 k13
  have b13 := F13.binds (ps := ["_law_columns_here", "_law_row", "_law_name", "_law_value_here"]) fun _ _ _ _ _ _ us hl => match us, hl with | [_, _, _, _], _ => rfl
  have F14 := fun_mk (st := s_l_values_right) l14 c14 k14
  have b14 := F14.binds (ps := ["_law_columns_here", "_law_row", "_law_well_here"]) fun _ _ _ _ _ _ us hl => match us, hl with | [_, _, _], _ => rfl
  have F15 := fun_mk (st := s_l_words_right) l15 c15 k15
  have b15 := F15.binds (ps := ["_law_columns_here", "_law_row", "_law_sieves"]) fun _ _ _ _ _ _ us hl => match us, hl with | [_, _, _], _ => rfl
  have F16 := fun_mk (st := s_law) l16 c16 k16
  have b16 := F16.binds (ps := ["_law_script"]) fun _ _ _ _ _ _ us hl => match us, hl with | [_], _ => rfl
  exact ⟨⟨f0, _, f1, _, f2, _, f3, _, f4, _, f5, _, f6, _, f7, _, f8, _, f9, _, f10, _, f11, _, f12, _, f13, _, f14, _, f15, _, f16, _⟩, ⟨F0, b0, PySem.W.mg_of X G a0, F1, b1, PySem.W.mg_of X G a1, F2, b2, PySem.W.mg_of X G a2, F3, b3, PySem.W.mg_of X G a3, F4, b4, PySem.W.mg_of X G a4, F5, b5, PySem.W.mg_of X G a5, F6, b6, PySem.W.mg_of X G a6, F7, b7, PySem.W.mg_of X G a7, F8, b8, PySem.W.mg_of X G a8, F9, b9, PySem.W.mg_of X G a9, F10, b10, PySem.W.mg_of X G a10, F11, b11, PySem.W.mg_of X G a11, F12, b12, PySem.W.mg_of X G a12, F13, b13, PySem.W.mg_of X G a13, F14, b14, PySem.W.mg_of X G a14, F15, b15, PySem.W.mg_of X G a15, F16, b16, PySem.W.mg_of X G a16, PySem.W.mg_none_of X G z_all, PySem.W.mg_none_of X G z_any, PySem.W.mg_none_of X G z_len, PySem.W.mg_none_of X G z_int, PySem.W.mg_none_of X G z_range, PySem.W.mg_none_of X G z_tuple, PySem.W.mg_none_of X G z_zip, fun s v => .of_eq rfl⟩⟩
end My
open PySem PySem.W PyProof.Rows
set_option maxRecDepth 100000 in
set_option maxHeartbeats 0 in
theorem PySem.Challenge.cw_pageturns_k13_just_one_of_holds : PySem.Challenge.rw_pageturns_k13_just_one_of.Holds := by
  w_on; o_law; k_head; (case hw => w_witness2)
  k_fill
  refine L2.walk_ofK (l := PySem.Challenge.rw_pageturns_k13_just_one_of) (n := 63) (k := 13) (x := "_law_script") (CX := L2.CX0) (sp := My.sp_law) rfl (by decide) rfl ⟨rfl, by decide, by decide⟩ (fun w h Y => PySem.W.kIn_of Y) ?F ?S ?C
  case F =>
    intro w mg fa h KX G hmg
    have T : ∃ t, My.Txt (L2.KOf KX) mg t := by
      dsimp only [L2.KOf]
      refine' My.txt_mk KX G ?a0 ?l0 ?c0 ?k0 ?a1 ?l1 ?c1 ?k1 ?a2 ?l2 ?c2 ?k2 ?a3 ?l3 ?c3 ?k3 ?a4 ?l4 ?c4 ?k4 ?a5 ?l5 ?c5 ?k5 ?a6 ?l6 ?c6 ?k6 ?a7 ?l7 ?c7 ?k7 ?a8 ?l8 ?c8 ?k8 ?a9 ?l9 ?c9 ?k9 ?a10 ?l10 ?c10 ?k10 ?a11 ?l11 ?c11 ?k11 ?a12 ?l12 ?c12 ?k12 ?a13 ?l13 ?c13 ?k13 ?a14 ?l14 ?c14 ?k14 ?a15 ?l15 ?c15 ?k15 ?a16 ?l16 ?c16 ?k16 ?z_all ?z_any ?z_len ?z_int ?z_range ?z_tuple ?z_zip
      (case a0 => k_is)
      (case l0 => k_is)
      (case c0 => k_is)
      (case k0 => k_is)
      (case a1 => k_is)
      (case l1 => k_is)
      (case c1 => k_is)
      (case k1 => k_is)
      (case a2 => k_is)
      (case l2 => k_is)
      (case c2 => k_is)
      (case k2 => k_is)
      (case a3 => k_is)
      (case l3 => k_is)
      (case c3 => k_is)
      (case k3 => k_is)
      (case a4 => k_is)
      (case l4 => k_is)
      (case c4 => k_is)
      (case k4 => k_is)
      (case a5 => k_is)
      (case l5 => k_is)
      (case c5 => k_is)
      (case k5 => k_is)
      (case a6 => k_is)
      (case l6 => k_is)
      (case c6 => k_is)
      (case k6 => k_is)
      (case a7 => k_is)
      (case l7 => k_is)
      (case c7 => k_is)
      (case k7 => k_is)
      (case a8 => k_is)
      (case l8 => k_is)
      (case c8 => k_is)
      (case k8 => k_is)
      (case a9 => k_is)
      (case l9 => k_is)
      (case c9 => k_is)
      (case k9 => k_is)
      (case a10 => k_is)
      (case l10 => k_is)
      (case c10 => k_is)
      (case k10 => k_is)
      (case a11 => k_is)
      (case l11 => k_is)
      (case c11 => k_is)
      (case k11 => k_is)
      (case a12 => k_is)
      (case l12 => k_is)
      (case c12 => k_is)
      (case k12 => k_is)
      (case a13 => k_is)
      (case l13 => k_is)
      (case c13 => k_is)
      (case k13 => k_is)
      (case a14 => k_is)
      (case l14 => k_is)
      (case c14 => k_is)
      (case k14 => k_is)
      (case a15 => k_is)
      (case l15 => k_is)
      (case c15 => k_is)
      (case k15 => k_is)
      (case a16 => k_is)
      (case l16 => k_is)
      (case c16 => k_is)
      (case k16 => k_is)
      (case z_all => k_is)
      (case z_any => k_is)
      (case z_len => k_is)
      (case z_int => k_is)
      (case z_range => k_is)
      (case z_tuple => k_is)
      (case z_zip => k_is)
    obtain ⟨t, T⟩ := T
    have e0 := hmg.symm.trans T.mg_law
    cases e0
    exact ⟨_, T.bl, fun base kb nb => My.ok_law T⟩
  case S => exact fun K H a ns hl hO hS => ⟨a, ns, rfl, hS, hl, fun _ => rfl⟩
  case C => exact fun _ _ _ _ z => z
#print axioms PySem.Challenge.cw_pageturns_k13_just_one_of_holds
